import PyProof.Rows.All
import Wide.All
import OpenK.AllK
import Wide.FinOn
import PyProof.EqAt
import KE.KSortTup
import PyProof.EqKinds
import PyProof.TupleCall
import Lean
import PySem.Challenge.RW_ovalfield_k08_rows_refused
set_option Elab.async false
set_option linter.all false
set_option maxRecDepth 100000
set_option maxHeartbeats 4000000
open Option renaming some→Aa,none→Ae,bind_eq_some_iff→Ax,isSome_iff_exists→Ci,isNone_iff_eq_none→DH,bind_some→Wc,getD_none→Wd,map_some→Wf
open Bool renaming true→Ab,false→Ad,and_eq_true→Al,false_ne_true→Ay,not_eq_true'→Bm,or_eq_true→B2,or_false→D9,eq_iff_iff→Eb,and_true→FO,and_false→HW,or_true→IS,not_eq_true→VD
open _root_ renaming List→Ac,Nat→Af,Int→Ah,Bool→Am,Option→Ao,if_pos→At,if_neg→AA,decide_eq_true_eq→AD,beq_iff_eq→AG,of_decide_eq_true→AN,False→AW,Array→Ba,dif_neg→BK,decide_eq_false→CM,beq_eq_false_iff_ne→CN,String→CQ,beq_self_eq_true→Do,Unit→DC,decide_eq_true→DW,or_false→Et,if_true→EF,Decidable→F2,ne_true_of_eq_false→Gp,not_or→GL,bne_iff_ne→G1,True→Hi,ne_eq→KU,if_false→LZ
open PySem renaming Str→Ag,Value→Aj,Addr→Ak,Expr→An,Shared→Ap,wpAny_bind→Aq,starEach→As,wpAny→Av,Pos→AC,Heap→AF,Stmt→AI,Program→AL,mainGlobals→AQ,wpAny_pure→AS,Around→AT,World→AV,wpAny_mono→A4,backTo→Bv,FuncData→Bx,cLine→Bz,Scope→BG,excClassObj→BP,foldedSetIterable→BW,wpAny_loadPart_at→BX,binaryOp→BY,Env→Cb,sizeLine_eq→Cc,wpAny_field→Ck,compareOp→Cq,wpAny_truthy_bool→Cr,Tok→Ct,mem_of_lookup→Cu,wpAny_newObj_type→CG,cellsFrom→CJ,swapsWith→CK,bootBuiltins→CP,CmpOp→CV,attributeBase→CY,Obj→CZ,wpAny_Call_Name_kw→Db,OwnTail→Dx,wpAny_passesOwn→Dz,assignEach→DK,codeAny_call_builtin→DL,PassesOwn→DQ,noteFrame→DR,Keyword→DS,wpAny_setField→DV,NameKind→D1,rawInt→D2,wpAny_standAt→Ea,wpAny_execs_nil→Ei,GenState→El,codeAny→Ez,codeAny_mono→EA,ExceptHandler→ET,wpAny_holding→EV,sliceBounds→EW,wpAny_isSubtype_exc→E1,Operator→Fh,wpAny_comprehension_free→Fi,typeIs_str→Fp,wpAny_call→Fq,wpAny_callSpecial?_slot→Fv,Sem→Fx,wpAny_pyIter_list→FB,keywordEach→FN,strLen_append→FP,bindArgs→FT,checkBuiltinCall→FU,setFlight→F3,Model→F9,call_meets→Ga,letOwnedTupleGo→Gb,BindsTo→Gr,compEnvC→Gu,notedBy→Gv,IsPart→GI,pushCells→GJ,wpAny_pyIter_tuple→GK,behindInMarks→GO,methodCallPos→GP,OsState→G2,callerA→G3,ExcBaseFacts→Hc,Paired→Hd,Result→He,backToKw→Hf,wpAny_call_entry→Hg,wpAny_execs_cons→Hh,Drawn→Hx,pushCells_keeps→HE,wpAny_of_eq→HF,isTrue→H9,newFunctionEnv→Ia,recursionLimit→Ib,bindC→Ig,bindL→Ih,builtinsNs→Ii,isInstance→Ij,numAt→Ik,Comprehension→IN,JoinOk→IW,Within→Ja,callSpecial?→Jb,concat_meets→Jc,lastMarks→Jd,onTheHeap→Je,UnaryOp→Jw,getAttr→Jx,getItem→Jy,compPost→JB,handleBy→JC,PyData→J3,StoreFacts→J5,call→J7,sysModules→J8,wpAny_Name→J9,setAttr→Ka,IntMulOk→KZ,Params→K4,intItems→K5,pyIter→K6,codeAny_call_function→XX,firstArgMember→XY,methodCallForm→XZ,noFill_tuple_add→X1,pastItsLine_dict→X2,plainObj_wpAny_Assign_Attribute→X3,refuseLoop_ref→X4,slot_list_getitem→X5,wpAny_JoinedStr→X6,wpAny_assign_Name→X7,wpAny_loadPart→X8,wpAny_lookBehind→X9,wpAny_newFunctionEnv_cells→Yb,wpAny_pyIter_enum→Yc,wpAny_seqItems→Yd
open PySem.Str renaming ofString→Ai,empty→Dh
open PySem.W renaming findIn→Ar,nsIn→A8,keepIn→Bc,subIn→By,mg_none_of→BA,mg_of→BF,kitOne→BQ,fnOf→BR,specialIn→BV,mroIn→BZ,kia_one→B6,looks_findIn→B7,emptyDict→Cp,typeIn→Da,instObj→Dc,clsIn→Di,isFn→Dq,codeIn→DT,callWith_K→Eh,plainGet→EJ,findCls→Fd,readsIn→Fe,hasDictIn→FA,OpenLaw→FM,plainGet_of→Go,lookIn→Gs,methodObj→GZ,plainOver→G0,makesIn→Hz,takerIn→HA,takesIn→HB,kitAny→HZ,excIn→IQ,WalkO→XC,cellsFrom_some→XD,codeRec_of→XF,handedIn→XG,isNs_of_in→XH,kIn_of→XI,kitMeta→XJ,kitx_dict→XM,kitx_list→XN,looks_subIn→XQ,nsOkIn→XS,tail_of_in→XU
open PySem.Heap renaming get?_push_of_some→Au,lt_size→AJ,get?_push_size→AY,get?_update_other→BO,get?_update_self→Cj,get?_none_of_le→CC,size_push→Dm,SameBut→Ey,MadeExcOf→HY,ExtBut→W7,get?_push_at→Xa,get?_update_ne→Xb
open List renaming mem_cons_of_mem→Aw,mem_cons_self→AE,mem_cons→AH,size_toArray→AM,length_set→AU,map_cons→AZ,getElem?_eq_some_iff→A1,length_cons→A2,range→A5,getElem?_eq_getElem→A7,mem_singleton→A9,mem_append_right→Bb,length_map→Bi,all_eq_true→Bl,length_append→BN,lookup→BU,lookup_cons→B9,not_mem_nil→Ca,getElem?_map→Ch,getElem?_set_self→Co,append_nil→Cw,getD_eq_getElem?_getD→CU,length_singleton→C8,all_cons→Dg,getElem_mem→Dk,mem_range→Dl,mem_append→Dv,drop_eq_getElem_cons→DF,isEmpty_eq_false_iff→DG,all_map→DX,any_eq_true→DY,map_nil→DZ,drop_eq_nil_of_le→Ej,toArray→Ew,mem_append_left→EH,getElem_of_mem→EY,getElem?_append_left→Fa,getElem?_set_self'→Ft,length_take→FQ,any_map→F4,getElem?_set_ne→F5,mem_filter→F6,nodup_cons→F7,filterMap_cons→Gk,length_pos_iff→Gm,replicate→Gq,contains_cons→GE,findIdx?_cons→GF,any_cons→GN,getElem?_set→GX,filter_cons→G7,length_drop→G8,of_mem_zip→Hw,append_assoc→VO,contains_eq_mem→VP,ext_getElem?→VQ,find?_cons→VR,findIdx?_append→VS,findIdx?_eq_some_iff_getElem→VT,findIdx?_map→VU,forIn_nil→VV,getElem?_append_right→VW,getElem?_replicate→VY,length→VZ,length_replicate→V0,map_append→V1,map_map→V2,mem_map→V3,mem_of_getElem?→V4,range_succ_eq_map→V5,reverse_cons→V6,set_set→V7
open Nat renaming le_refl→AK,lt_of_lt_of_le→AO,ne_of_lt→Bh,lt_irrefl→Br,le_trans→Bt,le_of_ble_eq_true→Bw,ble→De,zero_le→DP,lt_of_le_of_lt→Ed,lt_succ_self→FR,mod_eq_of_lt→FS,le_of_lt→F8,lt_succ_of_lt→GY,log2_le_self→G9,ne_of_gt→Ha,zero_add→Hb,ble_eq→Ic,le_succ→Jz,le_of_eq→V8,min_self→V9,not_lt→Wa,not_lt_zero→Wb
open False renaming elim→A3
open PySem.Value renaming ref→Bf,builtin→Cn,none→Cy,bool→Ie,int→IY,str→IZ,float→JA,type→J6,bytes→Xx
open Option.some renaming inj→Bg
open PySem.NameKind renaming cell→BE,free→DB
open Int renaming emod_eq_of_lt→BH,emod_lt_of_pos→BM,emod_nonneg→B4,emod_emod_of_dvd→CA,mul_emod→CO,eq_ofNat_of_zero_le→D6,dvd_refl→Eu,mul_comm→Ev,zero_emod→ES,one_mul→GD,mul_assoc→GM,zero_add→IT,add_emod→VF,le_refl→VG,le_trans→VH,mul_one→VI,mul_zero→VJ,ne_of_gt→VL,sub_zero→VM,toNat_natCast→VN
open PySem.Obj renaming data_mapFields→B5,isFreed_of_fields→C9,mapFields→EU,cls_mapFields→Xc,mapSeq→Xd
open Array renaming getElem?_eq_getElem→Cf,getElem?_eq_some_iff→ER,length_toList→EX,getElem?_toList→F1,toList→IR,find?_toList→VA,mem_toList_iff→VB,size_append→VC
open Ne renaming symm→CB
open PySem.F renaming excBase_ValueError→CW,slot_tuple_iterator_next→DA,slot_str_split→Ek,args_str_split_2→Ff,entry_str_split→Fu,attr_ValueError→Fw,args_tuple_add_2→WV,args_tuple_iterator_next_1→WW,entry_bexc_ga→WX,entry_tuple_add→WY,entry_tuple_iterator_next→WZ,plainAttrs_list→W1,plainAttrs_str→W2,slot_list_index→W3,slot_str_join→W4,slot_tuple_add→W5,typeOf_object_class→W6
open Classical renaming choose_spec→C7,choose→G6
open PyProof.Rows renaming callWith_type1→Dp,envOfC→Ee,boot_isinstance→Fb,AllBare→Fo,IntsAre→HX,IsTup→JZ,boot_list→Wg,boot_str→Wh,boot_tuple→Wi,slicePart_none→Wj,slot_tuple_getitem→Wk,subscriptTail_builtinR→Wl
open PySem.PyData renaming shownAll→Dy,depthAll→Hy,hasDictAll→Xf,showableAll→Xg
open PySem.Builtin.Slice renaming slicePlaces→DI,sliceAdjust→Fc,sliceApplied→Wo
open PySem.Builtin.SmallTypes renaming nextOf→DJ
open PySem.Builtin.Tuple renaming tupleExact→D0
open PySem.Builtin.Str renaming occurrences→D7,strSliceIndices→EG,strKind→EZ,partsBetween→Wp
open ForInStep renaming yield→Ec
open PySem.SeqAt renaming EqAt→Ef,RcNeAt→IX,RcAt→J4
open PySem.Txt renaming split→Eg,join→Em
open PySem.Calls renaming evalArgs_plain→EI,Name_function_global→Wq,callWith_builtin→Wr
open True renaming intro→Fs
open PySem.Code renaming quiet_builtin→GH,isFrame→IV,frames→Ws
open Sum renaming inl→G4,inr→G5
open PySem.Value.ref renaming inj→IP
open PySem.Around renaming under→IU
open NeZero renaming ne→KQ
open PyProof.Rows.IsTup renaming new→KR
open PySem.Data renaming cell→KS,seq→KY
open Prod renaming ext→KW
open Function renaming comp_def→VE
open PySem.Builtin.Int renaming intBits→Wm
open PySem.Builtin.ObjectAttr renaming storeInDict→Wn
open PySem.EntryCells renaming newEntry→Wt
open PySem.Expr renaming Attribute→Wu,BinOp→Ww,BoolOp→Wy,Call→WA,Compare→WC,Constant→WE,List→WG,ListComp→WI,Name→WK,Slice→WM,Subscript→WO,Tuple→WQ,UnaryOp→WT
open PySem.Expr.Attribute renaming elim→Wv
open PySem.Expr.BinOp renaming elim→Wx
open PySem.Expr.BoolOp renaming elim→Wz
open PySem.Expr.Call renaming elim→WB
open PySem.Expr.Compare renaming elim→WD
open PySem.Expr.Constant renaming elim→WF
open PySem.Expr.List renaming elim→WH
open PySem.Expr.ListComp renaming elim→WJ
open PySem.Expr.Name renaming elim→WL
open PySem.Expr.Slice renaming elim→WN
open PySem.Expr.Subscript renaming elim→WP
open PySem.Expr.Tuple renaming elim→WR
open PySem.Expr.UnaryOp renaming elim→WU
open PySem.Heap.Ns1 renaming of_empty→W8
open PySem.Heap.SameBut renaming update→W9
open PySem.Paired renaming length→Xe
open PySem.SeqAt.EqAt renaming of_refs→Xh,same→Xi
open PySem.Stmt renaming Assign→Xj,Expr→Xl,Raise→Xp,Return→Xr,While→Xu
open PySem.Stmt.Assign renaming elim→Xk
open PySem.Stmt.Expr renaming elim→Xm
open PySem.Stmt.For renaming elim→Xn
open PySem.Stmt.If renaming elim→Xo
open PySem.Stmt.Raise renaming elim→Xq
open PySem.Stmt.Return renaming elim→Xs
open PySem.Stmt.While renaming elim→Xv
open PySem.W.WData renaming int→Xy
open PySem.W.WShape renaming has→Xz
open PySem.Walks renaming list→XV
abbrev Fg:=PySem.W.Frag
abbrev Pn:=Ac (PySem.Addr×PySem.Obj)
abbrev Vq:=PySem.Value->PySem.Shared->Prop
set_option genSizeOfSpec false
-- CHANGE: your row's module here,as the last of these rows
namespace L2
open PySem PySem.Spec PyProof.Rows
abbrev Key:=Sum Ah Ag
noncomputable def Uy:Key->Aj->Am
 |.inl k,v=>Value.isInt k v
 |.inr x,v=>Value.isStrOf x v
noncomputable def Yr(w:AV):Key->Ah
 |.inl k=>hashInt k
 |.inr x=>hashStr w x
theorem Ip:∀{k:Key}{v:Aj},Uy k v=Ab->(∃ i t,k=G4 i/\v=IY i t)\/(∃ x t,k=G5 x/\v=IZ x t)
 |.inl i,v,h=>by
  obtain⟨t,e⟩:=Value.isInt_shape (k:=i) (v:=v) h;exact .inl ⟨i,t,rfl,e⟩
 |.inr x,v,h=>by
  obtain⟨t,e⟩:=Value.isStrOf_shape (x:=x) (v:=v) h;exact .inr ⟨x,t,rfl,e⟩
theorem nI(a b:Ah):decide ((G4 a:Key)=G4 b)=(a==b):=by
 by_cases e:a=b
 .subst e;simp
 .have h:¬ (G4 a:Key)=G4 b:=λq=>e (Sum.inl.inj q)
  rw[CM h];exact(CN.mpr e).symm
theorem nE(a b:Ag):decide ((G5 a:Key)=G5 b)=decide (a=b):=by
 by_cases e:a=b
 .subst e;simp
 .have h:¬ (G5 a:Key)=G5 b:=λq=>e (Sum.inr.inj q)
  rw[CM h,CM e]
theorem nG(a:Ah)(b:Ag):decide ((G4 a:Key)=G5 b)=Ad:=CM (λq=>nomatch q)
theorem nF(a:Ag)(b:Ah):decide ((G5 a:Key)=G4 b)=Ad:=CM (λq=>nomatch q)
noncomputable def OF(prog:AL)(w:AV):PySem.KeyKind prog w Key where
 is:=Uy
 hash:=Yr w
 inj:=λv a b ha hb=>by
  rcases Ip ha with ⟨i,t,rfl,rfl⟩|⟨x,t,rfl,rfl⟩
  .rcases Ip hb with ⟨j,u,rfl,e⟩|⟨y,u,rfl,e⟩
   .injection e with e1 _;rw[e1]
   .exact nomatch e
  .rcases Ip hb with ⟨j,u,rfl,e⟩|⟨y,u,rfl,e⟩
   .exact nomatch e
   .injection e with e1 _;rw[e1]
 byValue:=λk v h=>by
  rcases Ip h with ⟨i,t,rfl,rfl⟩|⟨x,t,rfl,rfl⟩<;>rfl
 pyHash:=λhv h=>by
  rcases Ip hv with ⟨i,t,rfl,rfl⟩|⟨x,t,rfl,rfl⟩
  .exact wpAny_pyHash_int h
  .exact wpAny_pyHash_str h
 eqBool:=λhu hv h=>by
  rcases Ip hu with ⟨i,t,rfl,rfl⟩|⟨x,t,rfl,rfl⟩
  .rcases Ip hv with ⟨j,u,rfl,rfl⟩|⟨y,u,rfl,rfl⟩
   .rw[nI]at h;exact wpAny_eqBool_int h
   .rw[nG]at h;exact SeqAt.EqAt.int_str i t y u _ _ _ _ h
  .rcases Ip hv with ⟨j,u,rfl,rfl⟩|⟨y,u,rfl,rfl⟩
   .rw[nF]at h;exact SeqAt.EqAt.str_int x t j u _ _ _ _ h
   .rw[nE]at h;exact wpAny_eqBool_str h
 «strs»:=λk x t v h=>by
  rcases Ip h with ⟨i,u,rfl,e⟩|⟨y,u,rfl,e⟩
  .exact nomatch e
  .injection e with e1 _
   subst e1;cases v<;>rfl
end L2
namespace L2
open PySem PySem.Spec PyProof.Rows
variable{us:Ac Aj}{a b it dx C:Ak}{P:AL}{h:AF}{o:CZ}{g':Ba El}{t' i k n:Af}{d':Hx}{ch fp:Ac Ak}{x qual:Ag}{M:F9}{u:Aj}{Q:DC->Ap->Prop}{e c tg:An}{s:Ap}{pos p:AC}{pI:Pn}{es:Ac An}{body:Ac AI}{f:Aj->Aj->Fx Aj}{g:Ah->Ah->Ah}{op:CV}{mA:Ag->Ao Aj}{pl:Fx Am}{kw:Ac (Ag×Aj)}{fd:Bx}{ps:Ac Ag}{scope:BG}
inductive V where
 |non|bl (b:Am)|int (i:Ah)|str (x:Ag)|byt (b:Ba UInt8)|flt (b:UInt64)|ref (a:Ak)|ty (n:CQ)
 deriving DecidableEq
variable{xs vs:Ac V}{v y:V}
def Bp:V->Aj->Prop
 |.non,u=>u=Cy
 |.bl b,u=>u=Ie b
 |.int i,u=>∃ t,u=IY i t
 |.str x,u=>∃ t,u=IZ x t
 |.byt b,u=>∃ t,u=Xx b t
 |.flt b,u=>∃ t,u=JA b t
 |.ref a,u=>u=Bf a
 |.ty n,u=>u=J6 n
noncomputable abbrev AX:Ac V->Ac Aj->Prop:=Hd Bp
theorem AX.length(r:AX xs us):xs.length=us.length:=Xe r
theorem AX.get:∀{xs:Ac V}{us:Ac Aj}{i:Af}{x:V},AX xs us->xs[i]?=Aa x->∃ u,us[i]?=Aa u/\Bp x u
 |_,_,_,_,.nil,e=>by simp at e
 |_,_,0,_,.cons r _,e=>by simp at e;subst e;exact⟨_,rfl,r⟩
 |_,_,i+1,x,.cons _ t,e=>by
  obtain⟨u,h1,h2⟩:=AX.get (i:=i) (x:=x) t (by simpa using e)
  exact⟨u,by simpa using h1,h2⟩
theorem AX.set{x:V}{u:Aj}(r:Bp x u):∀{xs:Ac V}{us:Ac Aj}(i:Af),AX xs us->AX (xs.set i x) (us.set i u)
 |_,_,_,.nil=>.nil
 |_,_,0,.cons _ t=>.cons r t
 |_,_,i+1,.cons q t=>.cons q (AX.set r i t)
theorem AX.append:∀{xs ys:Ac V}{us ws:Ac Aj},AX xs us->AX ys ws->AX (xs++ys) (us++ws)
 |_,_,_,_,.nil,s=>s
 |_,_,_,_,.cons r t,s=>.cons r (AX.append t s)
theorem AX.take:∀{xs:Ac V}{us:Ac Aj}(n:Af),AX xs us->AX (xs.take n) (us.take n)
 |_,_,0,_=>.nil
 |_,_,_+1,.nil=>.nil
 |_,_,n+1,.cons r t=>.cons r (AX.take n t)
theorem AX.drop:∀{xs:Ac V}{us:Ac Aj}(n:Af),AX xs us->AX (xs.drop n) (us.drop n)
 |_,_,0,r=>r
 |_,_,_+1,.nil=>.nil
 |_,_,n+1,.cons _ t=>AX.drop n t
def Ht:Ao V->Ao Aj->Prop
 |some v,Aa u=>Bp v u
 |none,Ae=>Hi
 |_,_=>AW
def KV{κ:Type}:Ac (κ×V)->Ac (κ×Aj)->Prop:=Hd fun(p:κ×V)(q:κ×Aj)=>p.1=q.1/\Bp p.2 q.2
noncomputable def kV:Key->V
 |.inl i=>.int i
 |.inr x=>.str x
inductive HO where
 /-- a list -/
 |lst (xs:Ac V)
 /-- a tuple (never changes) -/
 |tup (xs:Ac V)
 /-- a dict whose keys are ints and texts;one whose keys are tuples of ints and texts (the empty one is both) -/
 |dK (kvs:Ac (Key×V))|dT (kvs:Ac (Ac Key×V))
 /-- a set of ints: its members,its size -/
 |set (S:Ah->Am) (n:Af)
 /-- an instance of the class at C,its dict at dx,its attributes -/
 |ins (C dx:Ak) (fs:Ac (Ag×V))
 /-- the dict of the instance at x -/
 |own (x:Ak)
 /-- the dict of an exception -/
 |xd (fs:Ac (Ag×V))
 /-- a bound method,f of x -/
 |met (f x:Ak)
 /-- a range object lo,lo+1,.. below hi -/
 |rng (lo hi:Ah)
 /-- a thing that is known to the object (the script;a dict while a loop walks it): read,never written while it is so -/
 |frz (o:CZ) (u:HO)
 /-- a code object's table -/
 |tbl (ps:Ba Aj)
 /-- any other thing,by what is Ab of its one object (a def of one's own: SetO a S n:=HO.ext fun h=>..) -/
 |ext (φ:AF->Prop)
abbrev Hp:=Ak->Ao HO
variable{H:Hp}
noncomputable def upd(H:Hp)(a:Ak)(o:HO):Hp:=λb=>if b=a then Aa o else H b
theorem DD{o:HO}:upd H a o a=Aa o:=by unfold upd;rw[At rfl]
theorem Be{o:HO}(h:b≠a):upd H a o b=H b:=by unfold upd;rw[AA h]
theorem OI{o u:HO}:upd (upd H a o) a u=upd H a u:=by
 funext b;unfold upd;split<;>rfl
theorem FE{o:HO}(h:H a=Aa o)(h':H b=Ae):a≠b:=by
 intro e;subst e;rw[h]at h';cases h'
section
variable(P:AL)(w:AV)
def ObjOk(H:Hp)(h:AF)(a:Ak):HO->Prop
  |.lst xs=>xs.length<=sizeLine/\∃(its:Ac Aj)(n:Af),AX xs its/\h.get? a=Aa { cls:=.type "list",data:=.seq its.toArray n }
  |.tup xs=>xs.length<=sizeLine/\∃ its:Ac Aj,AX xs its/\JZ h a its.toArray
  |.dK kvs=>kvs.length<=sizeLine/\(a==J8)=Ad/\∃ vs,KV kvs vs/\h.DictOf (OF P w) a vs
  |.dT kvs=>kvs.length<=sizeLine/\(a==J8)=Ad/\∃ xs:Ac (Ac Key×Ak×Aj),
      Hd (fun(p:Ac Key×V)(q:Ac Key×Ak×Aj)=>p.1=q.1/\H q.2.1=Aa (.tup (p.1.map kV))/\Bp p.2 q.2.2) kvs xs /\
      ∃ o es ep,h.get? a=Aa o/\o.ExactDict/\o.data=.dict es ep/\es.toList=xs.map (entryOfKey (tupleKind (OF P w)))/\(xs.map (·.1)).Nodup
  |.set S n=>h.SetOf (intKind P w) a S n
  |.ins C dx fs=>H dx=Aa (.own a)/\fs.length<=1000/\dx≠a/\h.get? a=Aa (Dc C dx) /\
      ∃ mA,h.Ns1 dx mA/\(∀ f,Ht (fs.lookup f) (mA f))/\Ja mA (fs.map (·.1))
  |.own _=>∃ o,h.get? a=Aa o
  |.xd fs=>∃ mA,h.Ns1 a mA/\∀ f,Ht (fs.lookup f) (mA f)
  |.rng lo hi=>∃ t u v,h.get? a=Aa { cls:=.type "range",data:=.fields #[.int lo t,.int hi u,.int 1 v] }
  |.frz o u=>h.get? a=Aa o/\ObjOk H h a u
  |.tbl ps=>h.get? a=Aa {cls:=.none,data:=.fields ps}
  |.met f x=>h.get? a=Aa (GZ (.ref f) (.ref x))
  |.ext φ=>φ h/\(∃ o,h.get? a=Aa o)/\∀ h1 h2:AF,φ h1->(∀ o,h1.get? a=Aa o->h2.get? a=Aa o)->φ h2
def HOk(H:Hp)(h:AF):Prop:=∀ a o,H a=Aa o->ObjOk P w H h a o
end
section
variable{P:AL}{w:AV}{H H':Hp}{h h':AF}{a:Ak}{o:HO}
theorem ObjOk.lt(x:ObjOk P w H h a o):a<h.objs.size:=by
 cases o with
 |lst xs=>obtain⟨_,_,_,_,e⟩:=x;exact AJ e
 |tup xs=>obtain⟨_,_,_,p⟩:=x;exact p.lt
 |dK kvs=>obtain⟨_,_,_,_,o,_,_,e,_⟩:=x;exact AJ e
 |dT kvs=>obtain⟨_,_,_,_,o,_,_,e,_⟩:=x;exact AJ e
 |set S n=>obtain⟨o,_,_,_,e,_⟩:=x;exact AJ e
 |ins C dx fs=>obtain⟨_,_,_,e,_⟩:=x;exact AJ e
 |own y=>obtain⟨_,e⟩:=x;exact AJ e
 |xd fs=>obtain⟨_,⟨_,_,_,e,_⟩,_⟩:=x;exact AJ e
 |rng lo hi=>obtain⟨_,_,_,e⟩:=x;exact AJ e
 |frz ob u=>obtain⟨e,_⟩:=x;exact AJ e
 |tbl ps=>exact AJ (show h.get? a=Aa _ from x)
 |met f y=>exact AJ (show h.get? a=Aa _ from x)
 |ext φ=>obtain⟨_,⟨_,e⟩,_⟩:=x;exact AJ e
theorem Hd.mapP{α β:Type}{F G:α->β->Prop}:∀{l₁:Ac α}{l₂:Ac β},Hd F l₁ l₂->(∀ a b,F a b->G a b)->Hd G l₁ l₂
 |_,_,.nil,_=>.nil
 |_,_,.cons r t,f=>.cons (f _ _ r) (Hd.mapP t f)
theorem ObjOk.stay(x:ObjOk P w H h a o)(k:∀ b u,(b=a\/H b=Aa (.own a))->h.get? b=Aa u->h'.get? b=Aa u)(ho:∀ b,H b=Aa (.own a)->H' b=Aa (.own a))(ht:∀ b xs,H b=Aa (.tup xs)->H' b=Aa (.tup xs)):ObjOk P w H' h' a o:=by
 induction o with
 |lst xs=>obtain⟨z,its,n,r,e⟩:=x;exact⟨z,its,n,r,k _ _ (.inl rfl) e⟩
 |tup xs=>obtain⟨z,its,r,ob,e,c⟩:=x;exact⟨z,its,r,ob,k _ _ (.inl rfl) e,c⟩
 |dK kvs=>obtain⟨z,y,vs,r,ob,es,ep,e,c⟩:=x;exact⟨z,y,vs,r,ob,es,ep,k _ _ (.inl rfl) e,c⟩
 |dT kvs=>
  obtain⟨z,y,xs,r,ob,es,ep,e,c⟩:=x;exact⟨z,y,xs,Hd.mapP r λp q z=>⟨z.1,ht _ _ z.2.1,z.2.2⟩,ob,es,ep,k _ _ (.inl rfl) e,c⟩
 |set S n=>obtain⟨ob,es,ep,t,e,c⟩:=x;exact⟨ob,es,ep,t,k _ _ (.inl rfl) e,c⟩
 |ins C dx fs=>
  obtain⟨d,z,ne,e,mA,⟨od,es,ep,e2,c⟩,r⟩:=x;exact⟨ho _ d,z,ne,k _ _ (.inl rfl) e,mA,⟨od,es,ep,k _ _ (.inr d) e2,c⟩,r⟩
 |own y=>obtain⟨ob,e⟩:=x;exact⟨ob,k _ _ (.inl rfl) e⟩
 |xd fs=>obtain⟨mA,⟨od,es,ep,e,c⟩,r⟩:=x;exact⟨mA,⟨od,es,ep,k _ _ (.inl rfl) e,c⟩,r⟩
 |rng lo hi=>obtain⟨t,u,v,e⟩:=x;exact⟨t,u,v,k _ _ (.inl rfl) e⟩
 |frz ob u ih=>obtain⟨e,q⟩:=x;exact⟨k _ _ (.inl rfl) e,ih q⟩
 |tbl ps=>
  have e:h.get? a=Aa {cls:=.none,data:=.fields ps}:=x;show h'.get? a=Aa {cls:=.none,data:=.fields ps};exact k a _ (.inl rfl) e
 |met f y=>
  have e:h.get? a=Aa (GZ (.ref f) (.ref y)):=x;show h'.get? a=Aa (GZ (.ref f) (.ref y));exact k a _ (.inl rfl) e
 |ext φ=>obtain⟨p,⟨o,e⟩,st⟩:=x;exact⟨st _ _ p λo q=>k _ _ (.inl rfl) q,⟨o,k _ _ (.inl rfl) e⟩,st⟩
theorem HOk.lt(x:HOk P w H h)(e:H a=Aa o):a<h.objs.size:=(x a o e).lt
theorem HOk.fresh(x:HOk P w H h)(e:h.objs.size<=a):H a=Ae:=by
 cases q:H a with
 |none=>rfl
 |some u=>exact absurd (AO (x.lt q) e) (Br _)
theorem HOk.kept(x:HOk P w H h)(k:∀ b u,h.get? b=Aa u->h'.get? b=Aa u):HOk P w H h':=λa o e=>
 (x a o e).stay (λb u _ q=>k b u q) (λ_ q=>q) λ_ _ q=>q
theorem HOk.laid(x:HOk P w H h)(k:∀ b u,h.get? b=Aa u->h'.get? b=Aa u)(hp:h.objs.size<=a)(new:ObjOk P w (upd H a o) h' a o):HOk P w (upd H a o) h':=λb u e=>by
 have hn:=x.fresh hp;by_cases hb:b=a
 .subst hb;rw[DD]at e;cases e;exact new
 .rw[Be hb]at e;exact(x b u e).stay (λc v _ q=>k c v q) (λc q=>by rw[Be (FE q hn)];exact q) λc xs q=>by rw[Be (FE q hn)];exact q
end
def Rd(H:Hp)(a:Ak)(u:HO):Prop:=H a=Aa u\/∃ o,H a=Aa (.frz o u)
theorem Rd.ok{w:AV}{u:HO}(r:Rd H a u)(x:HOk P w H h):ObjOk P w H h a u:=by
 rcases r with r|⟨o,r⟩
 .exact x a u r
 .obtain⟨_,q⟩:=x a _ r;exact q
def Mut:Ao HO->Prop
 |some (.lst _)=>Hi
 |some (.dK _)=>Hi
 |some (.dT _)=>Hi
 |some (.set _ _)=>Hi
 |some (.ins _ _ _)=>Hi
 |some (.ext _)=>Hi
 |_=>AW
section
variable{P:AL}{w:AV}{H:Hp}{h h':AF}{x e:Ak}{o':HO}
theorem HOk.write(ok:HOk P w H h)(mu:Mut (H x))(he:e=x\/H e=Aa (.own x))(k:∀ b u,b≠e->h.get? b=Aa u->h'.get? b=Aa u)(heo:∃ u,h'.get? e=Aa u)(new:ObjOk P w (upd H x o') h' x o'):HOk P w (upd H x o') h':=λb u q=>by
 have nown:∀ c y,H c=Aa (.own y)->c≠x:=λc y r z=>by subst z;rw[r]at mu;exact mu
 have ntup:∀ c xs,H c=Aa (.tup xs)->c≠x:=λc xs r z=>by subst z;rw[r]at mu;exact mu
 by_cases hb:b=x
 .subst hb;rw[DD]at q;cases q;exact new
 .rw[Be hb]at q;by_cases hbe:b=e
  .have q':H b=Aa (.own x):=by
    rcases he with z|z
    .exact absurd (hbe.trans z) hb
    .rw[hbe];exact z
   rw[q]at q';cases q';obtain⟨v,hv⟩:=heo;exact⟨v,by rw[hbe];exact hv⟩
  .refine(ok b u q).stay (λc v hc r=>k c v ?_ r) (λc r=>by rw[Be (nown c b r)];exact r) λc xs r=>by rw[Be (ntup c xs r)];exact r
   rcases hc with rfl|hc
   .exact hbe
   .rintro rfl;rcases he with z|z
    .exact nown c b hc z
    .rw[hc]at z;cases z;exact hb rfl
end
structure Un (fs ex:Ac Ak) (H H':Hp) (h h':AF):Prop where
 keep:∀ b o,h.get? b=Aa o->H b=Ae->b∉fs->b∉ex->h'.get? b=Aa o
 slot:∀ b o,h.get? b=Aa o->H b=Ae->b∈fs->b∉ex->∃ sl,h'.get? b=Aa {o with slots:=sl}
 free:∀ b o,h.get? b=Aa o->H b=Ae->b∉ex->H' b=Ae
 there:∀ b o,h.get? b=Aa o->b∉ex->∃ o',h'.get? b=Aa o'
 tups:∀ b xs,H b=Aa (.tup xs)->H' b=Aa (.tup xs)
 frzs:∀ b o u,H b=Aa (.frz o u)->H' b=Aa (.frz o u)
 tbls:∀ b ps,H b=Aa (.tbl ps)->∃ more,H' b=Aa (.tbl (ps++more))
section
variable{fs fs' ex ex':Ac Ak}{H H1 H2:Hp}{h h1 h2 h':AF}{a x e:Ak}{o:HO}
theorem Un.any(u:Un fs ex H H1 h h1){ob:CZ}(q:h.get? b=Aa ob)(n:H b=Ae)(hx:b∉ex):∃ sl,h1.get? b=Aa {ob with slots:=sl}:=by
 by_cases hb:b∈fs
 .exact u.slot b ob q n hb hx
 .exact⟨ob.slots,u.keep b ob q n hb hx⟩
theorem Un.kept(k:∀ b u,h.get? b=Aa u->h'.get? b=Aa u):Un fs ex H H h h':=
 ⟨λb ob q _ _ _=>k b ob q,λb ob q _ _ _=>⟨ob.slots,k b ob q⟩,λ_ _ _ n _=>n,λb ob q _=>⟨ob,k b ob q⟩,λ_ _ q=>q,λ_ _ _ q=>q,λ_ ps q=>⟨#[],by rw[q];simp⟩⟩
theorem Un.refl:Un fs ex H H h h:=Un.kept λ_ _ q=>q
theorem Un.laid(k:∀ b u,h.get? b=Aa u->h'.get? b=Aa u)(hp:h.objs.size<=a)(hn:H a=Ae):Un fs ex H (upd H a o) h h' where
 keep:=λb u q _ _ _=>k b u q
 slot:=λb u q _ _ _=>⟨u.slots,k b u q⟩
 free:=λb u q n _=>by rw[Be (Bh (AO (AJ q) hp))];exact n
 there:=λb u q _=>⟨u,k b u q⟩
 tups:=λb xs q=>by rw[Be (FE q hn)];exact q
 frzs:=λb u xs q=>by rw[Be (FE q hn)];exact q
 tbls:=λb ps q=>⟨#[],by rw[Be (FE q hn),q];simp⟩
theorem Un.write(mu:Mut (H x))(he:e=x\/H e=Aa (.own x))(k:∀ b u,b≠e->h.get? b=Aa u->h'.get? b=Aa u)(heo:∃ u,h'.get? e=Aa u):Un fs ex H (upd H x o) h h':=by
 have hx:∀ b,H b=Ae->b≠x:=λb n z=>by subst z;rw[n]at mu;exact mu
 have hb:∀ b,H b=Ae->b≠e:=λb n z=>by
  subst z;rcases he with r|r
  .exact hx b n r
  .rw[n]at r;cases r
 have hm:∀ b u,H b=Aa u->¬ Mut (Aa u)->b≠x:=λb u q nm z=>by subst z;rw[q]at mu;exact nm mu
 refine⟨λb u q n _ _=>k b u (hb b n) q,λb u q n _ _=>⟨u.slots,k b u (hb b n) q⟩,λb u q n _=>by rw[Be (hx b n)];exact n,λb u q _=>?_,
  λb xs q=>by rw[Be (hm b _ q λz=>z)];exact q,λb u xs q=>by rw[Be (hm b _ q λz=>z)];exact q,λb ps q=>⟨#[],by rw[Be (hm b _ q λz=>z),q];simp⟩⟩
 by_cases hbe:b=e
 .subst hbe;exact heo
 .exact⟨u,k b u hbe q⟩
end
noncomputable def trk(h:AF)(H:Hp):Ac Ak:=(A5 h.objs.size).filter λa=>(H a).isSome
noncomputable def IJ(h:AF)(H:Hp):AF:=PySem.W.hideAll h (trk h H)
theorem Zo(h:AF)(H:Hp):(IJ h H).objs.size=h.objs.size:=PySem.W.hideAll_size _ _
theorem bC(e:h.get? b=Aa o)(n:H b=Ae):(IJ h H).get? b=Aa o:=
 PySem.W.hideAll_get _ e λhm=>by
  have q:(H b).isSome=Ab:=(F6.mp hm).2;rw[n]at q;simp at q
theorem fG(e:(IJ h H).get? b=Aa o):h.get? b=Aa o/\H b=Ae:=by
 have e':h.get? b=Aa o:=PySem.W.of_hideAll (trk h H) e;refine⟨e',?_⟩;cases q:H b with
 |none=>rfl
 |some x=>
  have hm:b∈trk h H:=F6.mpr ⟨Dl.mpr (AJ e'),by simp[q]⟩
  have z:(IJ h H).get? b=Ae:=PySem.W.hideAll_none (trk h H) hm;rw[z]at e;cases e
noncomputable def iF(g h:AF)(L:Ak):Pn:=(A5 h.objs.size).filterMap λa=>if a=L\/(g.get? a).isSome=Ab then Ae else (h.get? a).map λo=>(a,o)
noncomputable def rest(g h:AF)(L d:Ak):Pn:=(iF g h L).filter λp=>decide (p.1≠d)
structure Mod (K:Fg) (mg:Ag->Ao Aj) (base:AF):Prop where
 kin:K.In base
 glob:base.Ns AQ mg
 blt:∃ mb,base.Ns Ii mb/\∀ x:Ag,x≠"__name__"->mb x=CP x
 nolimit:base.NoLimit
structure Cx where
 prog:AL
 w:AV
 K:Fg
 mg:Ag->Ao Aj
 base:AF
 A:AT
 N:Ac Ag
 s₀:Ap
 H₀:Hp
 env:Cb
 outer:Ac Cb
 stack:Ac Cb
 ex:Ac Ak
 fn:Ag->Am
 calm:Am
 pn:Pn
 xe:Aj->Ap->Prop
variable{X:Cx}
noncomputable def frs(l:Ac Cb):Ac Ak:=l.filterMap (·.frame)
noncomputable abbrev Cx.fs(X:Cx):Ac Ak:=frs X.outer
def Vis(sc:BG)(x:Ag):Prop:=sc.names.lookup x=Aa .local\/sc.names.lookup x=Aa .cell\/sc.names.lookup x=Aa .free
def Loc(sc:BG)(x:Ag):Prop:=sc.names.lookup x=Aa .local\/sc.names.lookup x=Aa .cell
noncomputable def Yl(env:Cb)(h:AF)(m:Ag->Ao Aj)(x:Ag)(u:Aj):Prop:=
 (env.kindOf x=Aa .local/\m x=Aa u)\/((env.kindOf x=Aa .cell\/env.kindOf x=Aa .free)/\∃ c,env.cells.lookup x=Aa c/\h.IsCell c (Aa u))
structure Cx.Ok (X:Cx):Prop where
 mod:Mod X.K X.mg X.base
 kind:X.env.scope.kind=.function
 glob:X.env.globals=AQ
 blt:X.env.builtins=Ii
 above:X.s₀.heap.objs.size<=X.env.locals
 inj:∀ x y c,X.env.cells.lookup x=Aa c->X.env.cells.lookup y=Aa c->x=y
 has:∀ x,(X.env.kindOf x=Aa .cell\/X.env.kindOf x=Aa .free)->∃ c,X.env.cells.lookup x=Aa c
 cab:∀ x c,X.fn x=Ab->X.env.cells.lookup x=Aa c->X.s₀.heap.objs.size<=c
 hd:X.calm=Ab->X.A.handled=Ae
 frames:X.A.frames=Aa X.stack
 stk:X.stack=X.outer\/(X.stack=X.env::X.outer/\X.env.frame=Aa X.env.locals)
 exf:∀ b∈X.ex,b≠X.env.locals/\∀ x c,X.env.cells.lookup x=Aa c->c≠b
 bs:∀ b o,X.base.get? b=Aa o->X.s₀.heap.get? b=Aa o/\X.H₀ b=Ae
 bsz:X.base.objs.size<=X.s₀.heap.objs.size
 noex:∀ b o,X.base.get? b=Aa o->b∉X.ex
 exfs:∀ b∈X.ex,b∉X.fs
 funs:X.s₀.heap.FunFrames X.base X.outer
 frf:∀ b∈X.fs,X.H₀ b=Ae
structure Inv (X:Cx) (pI:Pn) (Y:Ac (Ao V)) (H:Hp) (s:Ap):Prop where
 ok:X.Ok
 os:s.os=X.s₀.os
 bare:Fo s.gens
 base:Un X.fs X.ex X.H₀ H X.s₀.heap s.heap
 loc:∃ m,s.heap.Ns X.env.locals m/\∀(i:Af)(x:Ag)(v:V),X.N[i]?=Aa x->Y[i]?=Aa (Aa v)->Vis X.env.scope x->∃ u,Bp v u/\Yl X.env s.heap m x u
 cell:∀ x c,X.env.cells.lookup x=Aa c->∃ v,s.heap.IsCell c v
 free:H X.env.locals=Ae
 freeC:∀ x c,X.env.cells.lookup x=Aa c->H c=Ae
 pin:∀ p∈X.pn++pI,s.heap.get? p.1=Aa p.2/\H p.1=Ae/\p.1≠X.env.locals/\p.1∉X.fs/\∀ v,p.2.data≠.cell v
 hok:HOk X.prog X.w H s.heap
 len:Y.length=X.N.length
section
variable{X:Cx}{pI:Pn}{Y:Ac (Ao V)}{H H':Hp}{s:Ap}{h':AF}
theorem Cx.Ok.nofr(ok:X.Ok)(e:X.base.get? b=Aa o):b∉X.fs:=λhb=>by
 have:=(ok.funs.mem hb).1;rw[e]at this;cases this
theorem Inv.bs(I:Inv X pI Y H s):∀ b o,X.base.get? b=Aa o->s.heap.get? b=Aa o/\H b=Ae:=λb o e=>
 ⟨I.base.keep b o (I.ok.bs b o e).1 (I.ok.bs b o e).2 (I.ok.nofr e) (I.ok.noex b o e),I.base.free b o (I.ok.bs b o e).1 (I.ok.bs b o e).2 (I.ok.noex b o e)⟩
theorem Inv.bk(I:Inv X pI Y H s):∀ b o,X.base.get? b=Aa o->s.heap.get? b=Aa o:=λb o e=>(I.bs b o e).1
theorem Inv.mod(I:Inv X pI Y H s):Mod X.K X.mg X.base:=I.ok.mod
theorem Inv.kIn(I:Inv X pI Y H s):X.K.In s.heap:=I.ok.mod.kin.keeps I.bk
theorem Inv.lt(I:Inv X pI Y H s):X.env.locals<s.heap.objs.size:=let ⟨_,hn,_⟩:=I.loc;hn.lt
theorem Inv.sz(I:Inv X pI Y H s):X.s₀.heap.objs.size<=s.heap.objs.size:=Bt I.ok.above (F8 I.lt)
theorem Inv.nofs(I:Inv X pI Y H s)(h:s.heap.objs.size<=a):a∉X.fs:=λhb=>by
 obtain⟨_,o,ho,_⟩:=I.ok.funs.mem hb;exact absurd (AO (AJ ho) (Bt I.sz h)) (Br _)
theorem Inv.cne(I:Inv X pI Y H s):∀ x c,X.env.cells.lookup x=Aa c->c≠X.env.locals:=λx c e z=>by
 obtain⟨v,o,ho,hd⟩:=I.cell x c e;obtain⟨m,⟨o',es,ep,ho',hd',_⟩,_⟩:=I.loc;rw[z,ho']at ho;cases ho;rw[hd']at hd;cases hd
theorem Inv.funs(I:Inv X pI Y H s):s.heap.FunFrames X.base X.outer:=by
 have all:∀(l:Ac Cb),(∀ b∈frs l,b∈X.fs)->X.s₀.heap.FunFrames X.base l->s.heap.FunFrames X.base l:=by
  intro l
  induction l with
  |nil=>intro _ _;trivial
  |cons env r ih=>
   intro hs hl;obtain⟨hk,⟨L,o,hf,hn,ho,hd⟩,hr⟩:=hl;have hL:L∈X.fs:=hs L (by unfold frs;rw[Gk,hf];exact AE)
   obtain⟨sl,e⟩:=I.base.slot L o ho (I.ok.frf L hL) hL λz=>I.ok.exfs L z hL
   exact⟨hk,⟨L,_,hf,hn,e,hd⟩,ih (λb hb=>hs b (by unfold frs;rw[Gk,hf];exact Aw _ hb)) hr⟩
 exact all X.outer (λ_ hb=>hb) I.ok.funs
theorem Inv.stack(I:Inv X pI Y H s):s.heap.FunFrames X.base X.stack:=by
 rcases I.ok.stk with e|⟨e,hf⟩
 .rw[e];exact I.funs
 .rw[e];obtain⟨m,hn,_⟩:=I.loc;refine .cons (by rw[I.ok.kind];decide) hf hn ?_ I.funs
  exact CC (Bt I.ok.bsz I.ok.above)
theorem Inv.stkSub(I:Inv X pI Y H s):∀ b∈frs X.stack,b∈X.env.locals::X.fs:=λb hb=>by
 rcases I.ok.stk with e|⟨e,hf⟩
 .rw[e]at hb;exact Aw _ hb
 .rw[e]at hb;unfold frs at hb;rw[Gk,hf]at hb;exact hb
theorem Inv.stkFree(I:Inv X pI Y H s):∀ b∈frs X.stack,H b=Ae:=λb hb=>by
 rcases AH.mp (I.stkSub b hb) with e|hb
 .rw[e];exact I.free
 .obtain⟨_,o,ho,_⟩:=I.ok.funs.mem hb;exact I.base.free b o ho (I.ok.frf b hb) λz=>I.ok.exfs b z hb
theorem Inv.step(I:Inv X pI Y H s)(hch:∀ b∈ch,(b∈X.ex\/X.s₀.heap.objs.size<=b)/\b≠X.env.locals/\(∀ x c,X.env.cells.lookup x=Aa c->c≠b)/\∀ p∈X.pn++pI,p.1≠b)(keep:∀ b o,b≠X.env.locals->b∉X.fs->b∉ch->s.heap.get? b=Aa o->H b=Ae->h'.get? b=Aa o)(slot:∀ b o,b≠X.env.locals->b∈X.fs->b∉ch->s.heap.get? b=Aa o->H b=Ae->∃ sl,h'.get? b=Aa {o with slots:=sl})(free:∀ b o,b∉ch->s.heap.get? b=Aa o->H b=Ae->H' b=Ae)(there:∀ b o,b∉ch->s.heap.get? b=Aa o->∃ o',h'.get? b=Aa o')(tups:∀ b xs,H b=Aa (.tup xs)->H' b=Aa (.tup xs))(frzs:∀ b o u,H b=Aa (.frz o u)->H' b=Aa (.frz o u))(tbls:∀ b ps,H b=Aa (.tbl ps)->∃ more,H' b=Aa (.tbl (ps++more)))(ns:∀ m,s.heap.Ns X.env.locals m->h'.Ns X.env.locals m)(hok:HOk X.prog X.w H' h')(hg:Fo g'):Inv X pI Y H' {s with heap:=h',gens:=g',drawn:=d',toks:=t'}:=by
 have neL:∀ b o,X.s₀.heap.get? b=Aa o->b≠X.env.locals:=λb o e=>Bh (AO (AJ e) I.ok.above)
 have neC:∀ b o,X.s₀.heap.get? b=Aa o->b∉X.ex->b∉ch:=λb o e hx hb=>by
  rcases (hch b hb).1 with z|z
  .exact hx z
  .exact absurd (AO (AJ e) z) (Br _)
 have cellK:∀ x c,X.env.cells.lookup x=Aa c->∀ v,s.heap.IsCell c v->h'.IsCell c v:=λx c e v ⟨o,ho,hd⟩=>by
  have nch:c∉ch:=λz=>(hch c z).2.2.1 x c e rfl
  by_cases hc:c∈X.fs
  .obtain⟨sl,q⟩:=slot c o (I.cne x c e) hc nch ho (I.freeC x c e);exact⟨_,q,hd⟩
  .exact⟨o,keep c o (I.cne x c e) hc nch ho (I.freeC x c e),hd⟩
 refine⟨I.ok,I.os,hg,⟨λb o e n hb hx=>?_,λb o e n hb hx=>?_,λb o e n hx=>?_,λb o e hx=>?_,λb xs e=>tups b xs (I.base.tups b xs e),λb o xs e=>frzs b o xs (I.base.frzs b o xs e),λb ps e=>?_⟩,?_,λx c e=>?_,?_,λx c e=>?_,λp hp=>?_,hok,I.len⟩
 .exact keep b o (neL b o e) hb (neC b o e hx) (I.base.keep b o e n hb hx) (I.base.free b o e n hx)
 .obtain⟨sl,e1⟩:=I.base.slot b o e n hb hx;obtain⟨sl',e2⟩:=slot b _ (neL b o e) hb (neC b o e hx) e1 (I.base.free b o e n hx);exact⟨sl',e2⟩
 .obtain⟨o',e1⟩:=I.base.there b o e hx;exact free b o' (neC b o e hx) e1 (I.base.free b o e n hx)
 .obtain⟨o',e1⟩:=I.base.there b o e hx;exact there b o' (neC b o e hx) e1
 .obtain⟨m1,e1⟩:=I.base.tbls b ps e;obtain⟨m2,e2⟩:=tbls b _ e1;exact⟨m1++m2,by rw[e2,Array.append_assoc]⟩
 .obtain⟨m,hn,hl⟩:=I.loc;refine⟨m,ns m hn,λi x v e1 e2 e3=>?_⟩
  obtain⟨u,r,l⟩:=hl i x v e1 e2 e3;refine⟨u,r,?_⟩;rcases l with l|⟨k,c,e,z⟩
  .exact .inl l
  .exact .inr ⟨k,c,e,cellK x c e _ z⟩
 .obtain⟨v,z⟩:=I.cell x c e;exact⟨v,cellK x c e v z⟩
 .obtain⟨m,⟨o,_,_,ho,_⟩,_⟩:=I.loc;exact free _ o (λz=>(hch _ z).2.1 rfl) ho I.free
 .obtain⟨v,o,ho,hd⟩:=I.cell x c e;exact free c o (λz=>(hch c z).2.2.1 x c e rfl) ho (I.freeC x c e)
 .obtain⟨e,n,ne,nf,d⟩:=I.pin p hp;have nch:p.1∉ch:=λz=>(hch p.1 z).2.2.2 p hp rfl
  exact⟨keep p.1 p.2 ne nf nch e n,free p.1 p.2 nch e n,ne,nf,d⟩
theorem Inv.un(I:Inv X pI Y H s)(u:Un X.fs [] H H' s.heap h')(hok:HOk X.prog X.w H' h'):Inv X pI Y H' {s with heap:=h',toks:=t'}:=by
 obtain⟨m,⟨o,es,ep,ho,r⟩,_⟩:=id I.loc;obtain⟨sl,hL⟩:=u.any ho I.free (by simp)
 exact I.step (g':=s.gens) (d':=s.drawn) (ch:=[]) (λ_ z=>nomatch z) (λb o _ hb _ e n=>u.keep b o e n hb (by simp)) (λb o _ hb _ e n=>u.slot b o e n hb (by simp)) (λb o _ e n=>u.free b o e n (by simp)) (λb o _ e=>u.there b o e (by simp)) u.tups u.frzs u.tbls (λm' hm=>by
  obtain⟨o',es',ep',ho',r'⟩:=hm;rw[ho]at ho';cases ho';exact⟨_,es',ep',hL,r'⟩) hok I.bare
theorem Inv.call(I:Inv X pI Y H s)(u:Un (frs X.stack) ch H H' s.heap h')(hok:HOk X.prog X.w H' h')(hg:Fo g')(hch:∀ b∈ch,(b∈X.ex\/X.s₀.heap.objs.size<=b)/\b≠X.env.locals/\(∀ x c,X.env.cells.lookup x=Aa c->c≠b)/\∀ p∈X.pn++pI,p.1≠b):Inv X pI Y H' {s with heap:=h',gens:=g',drawn:=d',toks:=t'}:=by
 obtain⟨m,⟨o,es,ep,ho,r⟩,_⟩:=id I.loc;obtain⟨sl,hL⟩:=u.any ho I.free λz=>(hch _ z).2.1 rfl
 exact I.step (ch:=ch) hch (λb o hL hb hc e n=>u.keep b o e n (λz=>(AH.mp (I.stkSub b z)).elim hL hb) hc) (λb o _ _ hc e n=>u.any e n hc) (λb o hc e n=>u.free b o e n hc) (λb o hc e=>u.there b o e hc) u.tups u.frzs u.tbls (λm' hm=>by
  obtain⟨o',es',ep',ho',r'⟩:=hm;rw[ho]at ho';cases ho';exact⟨_,es',ep',hL,r'⟩) hok hg
theorem Inv.turned(I:Inv X pI Y H s)(k:∀ b o,b≠it->s.heap.get? b=Aa o->h'.get? b=Aa o)(hn:H it=Ae)(hL:it≠X.env.locals)(h1:it∈X.ex\/X.s₀.heap.objs.size<=it)(h2:∀ x c,X.env.cells.lookup x=Aa c->c≠it)(h3:∀ p∈X.pn++pI,p.1≠it):Inv X pI Y H {s with heap:=h',toks:=t'}:=by
 have nit:∀ b u,H b=Aa u->b≠it:=λb u e z=>by rw[z,hn]at e;cases e
 refine I.step (g':=s.gens) (d':=s.drawn) (ch:=[it]) (λb hb=>?_) (λb o _ _ hc e _=>k b o (λz=>hc (by simp[z])) e) (λb o _ _ hc e _=>⟨o.slots,k b o (λz=>hc (by simp[z])) e⟩) (λ_ _ _ _ n=>n)
  (λb o hc e=>⟨o,k b o (λz=>hc (by simp[z])) e⟩) (λ_ _ e=>e) (λ_ _ _ e=>e) (λb ps e=>⟨#[],by rw[e];simp⟩) (λm hm=>?_) (λb u e=>?_) I.bare
 .have e:b=it:=by simpa using hb
  subst e;exact⟨h1,hL,h2,h3⟩
 .obtain⟨o,es,ep,ho,r⟩:=hm;exact⟨o,es,ep,k _ o (CB hL) ho,r⟩
 .refine(I.hok b u e).stay (λc v hc q=>k c v ?_ q) (λ_ q=>q) λ_ _ q=>q
  rcases hc with z|z
  .rw[z];exact nit b u e
  .exact nit c _ z
theorem Inv.tok(I:Inv X pI Y H s)(t:Af):Inv X pI Y H {s with toks:=t}:=I.un (h':=s.heap) (t':=t) Un.refl I.hok
theorem Inv.kept{t':Af}(I:Inv X pI Y H s)(k:∀ b u,s.heap.get? b=Aa u->h'.get? b=Aa u):Inv X pI Y H {s with heap:=h',toks:=t'}:=I.un (Un.kept k) (I.hok.kept k)
theorem Inv.laid{a:Ak}{o:HO}{t':Af}(I:Inv X pI Y H s)(k:∀ b u,s.heap.get? b=Aa u->h'.get? b=Aa u)(hp:s.heap.objs.size<=a)(new:ObjOk X.prog X.w (upd H a o) h' a o):Inv X pI Y (upd H a o) {s with heap:=h',toks:=t'}:=I.un (Un.laid k hp (I.hok.fresh hp)) (I.hok.laid k hp new)
theorem Inv.write{x e:Ak}{o:HO}{t':Af}(I:Inv X pI Y H s)(mu:Mut (H x))(he:e=x\/H e=Aa (.own x))(k:∀ b u,b≠e->s.heap.get? b=Aa u->h'.get? b=Aa u)(heo:∃ u,h'.get? e=Aa u)(new:ObjOk X.prog X.w (upd H x o) h' x o):Inv X pI Y (upd H x o) {s with heap:=h',toks:=t'}:=I.un (Un.write mu he k heo) (I.hok.write mu he k heo new)
theorem Inv.pins_of{pins':Pn}(I:Inv X pI Y H s)(h:∀ p∈pins',s.heap.get? p.1=Aa p.2/\H p.1=Ae/\p.1≠X.env.locals/\p.1∉X.fs/\∀ v,p.2.data≠.cell v):Inv X pins' Y H s:=
 ⟨I.ok,I.os,I.bare,I.base,I.loc,I.cell,I.free,I.freeC,λp hp=>(Dv.mp hp).elim (λz=>I.pin p (EH _ z)) (h p),I.hok,I.len⟩
theorem Oq{N:Ac Ag}(hN:N.Nodup){j:Af}(a:N[i]?=Aa x)(b:N[j]?=Aa x):i=j:=by
 obtain⟨h1,e1⟩:=A1.mp a;obtain⟨h2,e2⟩:=A1.mp b;exact(List.getElem_inj hN).mp (e1.trans e2.symm)
theorem QZ{A:AT}{E:Vq}(I:Inv X pI Y H s)(hN:X.N.Nodup)(hi:X.N[i]?=Aa x)(hx:Loc X.env.scope x)(r:Bp v u)(h:∀ s',Inv X pI (Y.set i (Aa v)) H s'->(∃ a,Ey a s.heap s'.heap/\(a=X.env.locals\/X.env.cells.lookup x=Aa a))->Q () s')(hf:X.fn x=Ab\/X.env.scope.names.lookup x=Aa .local:=by first|exact .inl rfl|exact .inr rfl|assumption):Av M A (storeName X.env x u) Q E s:=by
 obtain⟨m,hn,hl⟩:=id I.loc;have hcls:(X.env.scope.kind==.class||(X.env.scope.kind==.module&&X.env.locals != X.env.globals))=Ad:=by rw[I.ok.kind];rfl
 have hiσ:i<Y.length:=by rw[I.len];exact(A1.mp hi).1
 have cne:=I.cne;have tracked:∀{a:Ak}{h':AF},(∃ o,s.heap.get? a=Aa o/\H a=Ae)->Ey a s.heap h'->HOk X.prog X.w H h':=λ{a h'} ha hs b ob e=>by
  obtain⟨_,_,hfree⟩:=ha;refine(I.hok b ob e).stay (λc w' hc q=>(hs.2 c ?_).trans q) (λ_ q=>q) λ_ _ q=>q
  rintro rfl;rcases hc with rfl|hc
  .rw[hfree]at e;cases e
  .rw[hfree]at hc;cases hc
 rcases hx with hk|hk
 .refine wpAny_storeName_local hk hn (λh' hn' hs=>?_) hcls
  obtain⟨oL,_,_,hoL,_⟩:=id hn;refine h _ ⟨I.ok,I.os,I.bare,⟨λb o e n hb hx=>?_,λb o e n hb hx=>?_,I.base.free,λb o e hx=>?_,I.base.tups,I.base.frzs,I.base.tbls⟩,⟨_,hn',λj y v' e1 e2 e3=>?_⟩,λy c e=>?_,I.free,I.freeC,λp hp=>?_,tracked ⟨oL,hoL,I.free⟩ hs,by simpa using I.len⟩ ⟨_,hs,.inl rfl⟩
  .exact(hs.2 b (Bh (AO (AJ e) I.ok.above))).trans (I.base.keep b o e n hb hx)
  .obtain⟨sl,e1⟩:=I.base.slot b o e n hb hx;exact⟨sl,(hs.2 b (Bh (AO (AJ e) I.ok.above))).trans e1⟩
  .obtain⟨o',e1⟩:=I.base.there b o e hx;exact⟨o',(hs.2 b (Bh (AO (AJ e) I.ok.above))).trans e1⟩
  .by_cases hj:j=i
   .subst hj;rw[hi]at e1;cases e1;rw[Co hiσ]at e2;cases e2;exact⟨u,r,.inl ⟨hk,by simp⟩⟩
   .rw[F5 (CB hj)]at e2;obtain⟨u',r',q⟩:=hl j y v' e1 e2 e3;refine⟨u',r',?_⟩;rcases q with ⟨k,e⟩|⟨k,c,e,z⟩
    .refine .inl ⟨k,?_⟩;have:y≠x:=λe=>hj (Oq hN e1 (e ▸ hi))
     simp[this,e]
    .exact .inr ⟨k,c,e,z.sameBut hs (cne y c e)⟩
  .obtain⟨w',z⟩:=I.cell y c e;exact⟨w',z.sameBut hs (cne y c e)⟩
  .obtain⟨e,n,ne,nf,d⟩:=I.pin p hp;exact⟨(hs.2 p.1 ne).trans e,n,ne,nf,d⟩
 .have hfn:X.fn x=Ab:=by
   rcases hf with z|z
   .exact z
   .rw[z]at hk;cases hk
  obtain⟨c,hc⟩:=I.ok.has x (.inl hk);obtain⟨w',z⟩:=I.cell x c hc;refine wpAny_storeName_cell I.ok.kind hk hc z (λh' hc' hs=>?_)
  obtain⟨oc,hoc,hocd⟩:=id z;refine h {s with heap:=h'} ⟨I.ok,I.os,I.bare,⟨λb o e n hb hx=>?_,λb o e n hb hx=>?_,I.base.free,λb o e hx=>?_,I.base.tups,I.base.frzs,I.base.tbls⟩,⟨m,hn.sameBut hs (CB (cne x c hc)),λj y v' e1 e2 e3=>?_⟩,λy c' e=>?_,I.free,I.freeC,λp hp=>?_,tracked ⟨oc,hoc,I.freeC x c hc⟩ hs,by simpa using I.len⟩ ⟨c,hs,.inr hc⟩
  .exact(hs.2 b (Bh (AO (AJ e) (I.ok.cab x c hfn hc)))).trans (I.base.keep b o e n hb hx)
  .obtain⟨sl,e1⟩:=I.base.slot b o e n hb hx;exact⟨sl,(hs.2 b (Bh (AO (AJ e) (I.ok.cab x c hfn hc)))).trans e1⟩
  .obtain⟨o',e1⟩:=I.base.there b o e hx;exact⟨o',(hs.2 b (Bh (AO (AJ e) (I.ok.cab x c hfn hc)))).trans e1⟩
  .by_cases hj:j=i
   .subst hj;rw[hi]at e1;cases e1;rw[Co hiσ]at e2;cases e2;exact⟨u,r,.inr ⟨.inl hk,c,hc,hc'⟩⟩
   .rw[F5 (CB hj)]at e2;obtain⟨u',r',q⟩:=hl j y v' e1 e2 e3;refine⟨u',r',?_⟩;rcases q with q|⟨k,c',e,z'⟩
    .exact .inl q
    .refine .inr ⟨k,c',e,z'.sameBut hs ?_⟩;rintro rfl;exact hj (Oq hN e1 (I.ok.inj _ _ _ e hc ▸ hi))
  .by_cases hcc:c'=c
   .subst hcc;exact⟨_,hc'⟩
   .obtain⟨w2,z2⟩:=I.cell y c' e;exact⟨w2,z2.sameBut hs hcc⟩
  .obtain⟨e,n,ne,nf,d⟩:=I.pin p hp;refine⟨(hs.2 p.1 ?_).trans e,n,ne,nf,d⟩;intro q;rw[q,hoc]at e;have q':oc=p.2:=Bg e;exact d w' (by rw[<-q'];exact hocd)
theorem Ow{A:AT}{E:Vq}(I:Inv X pI Y H s)(hN:X.N.Nodup)(hi:X.N[i]?=Aa x)(hx:Loc X.env.scope x)(r:Bp v u)(h:∀ s',Inv X pI (Y.set i (Aa v)) H s'->Q () s')(hf:X.fn x=Ab\/X.env.scope.names.lookup x=Aa .local:=by first|exact .inl rfl|exact .inr rfl|assumption):Av M A (storeName X.env x u) Q E s:=
 QZ I hN hi hx r (λs' I' _=>h s' I') hf
theorem Inv.call'{s':Ap}(I:Inv X pI Y H s)(ho:s'.os=s.os)(u:Un (frs X.stack) ch H H' s.heap s'.heap)(hok:HOk X.prog X.w H' s'.heap)(hg:Fo s'.gens)(hch:∀ b∈ch,(b∈X.ex\/X.s₀.heap.objs.size<=b)/\b≠X.env.locals/\(∀ x c,X.env.cells.lookup x=Aa c->c≠b)/\∀ p∈X.pn++pI,p.1≠b):Inv X pI Y H' s':=by
 obtain⟨h',g',d',t',o'⟩:=s';have e:o'=s.os:=ho;subst e;exact I.call (g':=g') (t':=t') (d':=d') u hok hg hch
end
abbrev XK:=Aj->Ao Ak->Hp->Prop
abbrev St:=Ac (Ao V)
variable{Y:St}
abbrev VK:=V->Hp->Prop
abbrev TE:=St->Hp->VK->Prop
abbrev TT:=St->Hp->(Am->Hp->Prop)->Prop
variable{tc:TT}
abbrev TA:=St->Hp->(Ac V->Hp->Prop)->Prop
variable{ta:TA}
structure Ends where
 nx:St->Hp->Prop
 rt:VK
 bk:St->Hp->Prop:=λ_ _=>AW
 ct:St->Hp->Prop:=λ_ _=>AW
abbrev TS:=Ends->St->Hp->Prop
variable{tb:TS}
def EP(X:Cx)(pI:Pn)(Y:St)(Q:VK)(u:Aj)(s':Ap):Prop:=∃ v H',Inv X pI Y H' s'/\Bp v u/\Q v H'
def TP(X:Cx)(pI:Pn)(Y:St)(Q:Am->Hp->Prop)(b:Am)(s':Ap):Prop:=∃ H',Inv X pI Y H' s'/\Q b H'
def AP(X:Cx)(pI:Pn)(Y:St)(Q:Ac V->Hp->Prop)(us:Ac Aj)(s':Ap):Prop:=∃ vs H',Inv X pI Y H' s'/\AX vs us/\Q vs H'
noncomputable def SP(X:Cx)(pI:Pn)(D:Ends)(f:Flow)(s':Ap):Prop:=
  match f with
  |.next=>∃ Y' H',Inv X pI Y' H' s'/\D.nx Y' H'
  |.brk=>∃ Y' H',Inv X pI Y' H' s'/\D.bk Y' H'
  |.cont=>∃ Y' H',Inv X pI Y' H' s'/\D.ct Y' H'
  |.ret u=>∃ v Y' H',Inv X pI Y' H' s'/\Bp v u/\D.rt v H'
noncomputable def PE(X:Cx)(e:An)(t:TE):Prop:=
 ∀(pI:Pn)(s:Ap)(Y:St)(H:Hp)(Q:VK),Inv X pI Y H s->t Y H Q->Av (model X.prog X.w) X.A (eval e X.env) (EP X pI Y Q) X.xe s
noncomputable def PT(X:Cx)(e:An)(t:TT):Prop:=
 ∀(pI:Pn)(s:Ap)(Y:St)(H:Hp)(Q:Am->Hp->Prop),Inv X pI Y H s->t Y H Q->Av (model X.prog X.w) X.A (H9 e X.env (eval e X.env)) (TP X pI Y Q) X.xe s
noncomputable def PW(X:Cx)(e:An)(t:TT):Prop:=
 ∀(whole:Fx Aj)(pI:Pn)(s:Ap)(Y:St)(H:Hp)(Q:Am->Hp->Prop),Inv X pI Y H s->t Y H Q->Av (model X.prog X.w) X.A (H9 e X.env whole) (TP X pI Y Q) X.xe s
theorem PW.pt{t:TT}(h:PW X e t):PT X e t:=h _
noncomputable def PA(X:Cx)(es:Ac An)(t:TA):Prop:=
 ∀(pos:AC)(pI:Pn)(s:Ap)(Y:St)(H:Hp)(Q:Ac V->Hp->Prop),Inv X pI Y H s->t Y H Q->Av (model X.prog X.w) X.A (spliced (Bv pos (As es X.env))) (AP X pI Y Q) X.xe s
noncomputable def PS(X:Cx)(st:AI)(t:TS):Prop:=
 ∀(pI:Pn)(s:Ap)(Y:St)(H:Hp)(D:Ends),Inv X pI Y H s->t D Y H->Av (model X.prog X.w) X.A (exec st X.env) (SP X pI D) X.xe s
noncomputable def PSs(X:Cx)(st:Ac AI)(t:TS):Prop:=
 ∀(pI:Pn)(s:Ap)(Y:St)(H:Hp)(D:Ends),Inv X pI Y H s->t D Y H->Av (model X.prog X.w) X.A (execs st X.env) (SP X pI D) X.xe s
theorem thn{α:Type}{t:Fx α}{Q Q':α->Ap->Prop}{A:AT}{E:Vq}(h:Av M A t Q E s)(hQ:∀ a s,Q a s->Q' a s):Av M A t Q' E s:=A4 h hQ λ_ _ x=>x
section
variable{X:Cx}
def EQ(i:Af):TE:=λY H Q=>∃ v,Y[i]?=Aa (Aa v)/\Q v H
def tC(v:V):TE:=λ_ H Q=>Q v H
theorem Ko(hN:X.N[i]?=Aa x)(hv:Vis X.env.scope x)(hd:(x==("__debug__" : Ag))=Ad:=by decide)(hcd:(x==("__classdict__" : Ag))=Ad:=by decide):PE X (.Name x pos) (EQ i):=by
 intro pI s Y H Q I h;obtain⟨v,e,h⟩:=h;obtain⟨m,hn,hl⟩:=I.loc;obtain⟨u,r,l⟩:=hl i x v hN e hv;have fin:EP X pI Y Q u s:=⟨v,H,I,r,h⟩;rcases l with ⟨hk,hm⟩|⟨hk,c,hc,hcell⟩
 .exact J9 (wpAny_loadName_local I.ok.kind hk hn hm fin) hd
 .rcases hk with hk|hk
  .exact J9 (wpAny_loadName_cell I.ok.kind hk hc hcell fin) hd
  .exact J9 (wpAny_loadName_free I.ok.kind hk hc hcell fin hcd) hd
theorem lE{i j pos}:PE X (.Constant (.int i) j pos) (tC (.int i)):=λ_ _ _ H _ I h=>wpAny_Constant_int ⟨.int i,H,I.tok _,⟨_,rfl⟩,h⟩
theorem sK{b j pos}:PE X (.Constant (.bool b) j pos) (tC (.bl b)):=λ_ _ _ H _ I h=>Constant_bool ⟨.bl b,H,I,rfl,h⟩
theorem lB{j pos}:PE X (.Constant .none j pos) (tC .non):=λ_ _ _ H _ I h=>Constant_none ⟨.non,H,I,rfl,h⟩
theorem MD{x j pos}:PE X (.Constant (.str x) j pos) (tC (.str x)):=λ_ _ _ H _ I h=>Calls.Constant_str ⟨.str x,H,I.tok _,⟨_,rfl⟩,h⟩
def Gl(X:Cx)(x:Ag):Prop:=X.env.kindOf x=Aa .globalImplicit
theorem HL{E:Vq}{Q:Vq}(I:Inv X pI Y H s)(hg:Gl X x)(hm:X.mg x=Aa u)(h:Q u s)(hd:(x==("__debug__" : Ag))=Ad:=by decide):Av (model X.prog X.w) X.A (eval (.Name x pos) X.env) Q E s:=
 Wq I.ok.kind hg (Calls.loadGlobal_global (by rw[I.ok.glob];exact I.mod.glob.keeps I.bk) hm h) hd
theorem Kt{E:Vq}{Q:Vq}(I:Inv X pI Y H s)(hg:Gl X x)(hm:X.mg x=Ae)(hv:CP x=Aa u)(h:Q u s)(hn:x≠"__name__" := by decide)(hd:(x==("__debug__" : Ag))=Ad:=by decide):Av (model X.prog X.w) X.A (eval (.Name x pos) X.env) Q E s:=by
 obtain⟨mb,h1,h2⟩:=I.mod.blt;exact Wq I.ok.kind hg (Calls.loadGlobal_builtin (by rw[I.ok.glob];exact I.mod.glob.keeps I.bk) hm (by rw[I.ok.blt];exact h1.keeps I.bk) ((h2 x hn).trans hv) h) hd
theorem OD(hg:Gl X x)(hm:X.mg x=Aa u)(r:Bp v u)(hd:(x==("__debug__" : Ag))=Ad:=by decide):PE X (.Name x pos) (tC v):=
 λ_ _ _ H _ I h=>HL I hg hm ⟨v,H,I,r,h⟩ hd
theorem SG(hg:Gl X x)(hm:X.mg x=Ae)(hv:CP x=Aa u)(r:Bp v u)(hn:x≠"__name__" := by decide)(hd:(x==("__debug__" : Ag))=Ad:=by decide):PE X (.Name x pos) (tC v):=
 λ_ _ _ H _ I h=>Kt I hg hm hv ⟨v,H,I,r,h⟩ hn hd
variable{a b:An}{ta tb:TE}{pos:AC}
variable{tA tB':TT}{rest:Ac An}
def tK(t u:TT):TT:=λY H Q=>t Y H λc H1=>if c=Ab then u Y H1 Q else Q Ad H1
def tOr(t u:TT):TT:=λY H Q=>t Y H λc H1=>if c=Ab then Q Ab H1 else u Y H1 Q
def tW(t:TT):TT:=λY H Q=>t Y H λc H1=>Q (!c) H1
theorem fT(ha:PT X a tA):PW X (.BoolOp .And [a] pos) tA:=by
 intro wh pI s Y H Q I h;refine isTrue_and (thn (ha pI s Y H Q I h) λc s1 e=>?_)
 cases c with
 |true=>exact isTrue_and_nil e
 |false=>exact e
theorem kS(ha:PT X a tA):PW X (.BoolOp .Or [a] pos) tA:=by
 intro wh pI s Y H Q I h;refine isTrue_or (thn (ha pI s Y H Q I h) λc s1 e=>?_)
 cases c with
 |false=>exact isTrue_or_nil e
 |true=>exact e
theorem kT(ha:PT X a tA)(hb:PW X (.BoolOp .And (b::rest) pos) tB'):PW X (.BoolOp .And (a::b::rest) pos) (tK tA tB'):=by
 intro wh pI s Y H Q I h;refine isTrue_and (thn (ha pI s Y H _ I h) λc s1 ⟨H1,I1,q1⟩=>?_)
 cases c with
 |true=>exact hb wh pI s1 Y H1 Q I1 q1
 |false=>exact⟨H1,I1,q1⟩
theorem sD(ha:PT X a tA)(hb:PW X (.BoolOp .Or (b::rest) pos) tB'):PW X (.BoolOp .Or (a::b::rest) pos) (tOr tA tB'):=by
 intro wh pI s Y H Q I h;refine isTrue_or (thn (ha pI s Y H _ I h) λc s1 ⟨H1,I1,q1⟩=>?_)
 cases c with
 |true=>exact⟨H1,I1,q1⟩
 |false=>exact hb wh pI s1 Y H1 Q I1 q1
theorem kU(ha:PT X a tA):PT X (.UnaryOp .Not a pos) (tW tA):=by
 intro pI s Y H Q I h;exact isTrue_not (ha pI s Y H (λc H1=>Q (!c) H1) I h)
def pK(ta tb:TE):TE:=λY H Q=>ta Y H λx H1=>∃ c,x=.bl c/\if c=Ab then tb Y H1 Q else Q (.bl Ad) H1
def tV(ta tb:TE):TE:=λY H Q=>ta Y H λx H1=>∃ c,x=.bl c/\if c=Ab then Q (.bl Ab) H1 else tb Y H1 Q
def pF(ta:TE):TE:=λY H Q=>ta Y H λx H1=>∃ c,x=.bl c/\Q (.bl (!c)) H1
theorem kZ{op}{t:TE}(h:PE X a t):PE X (.BoolOp op [a] pos) t:=λpI s Y H Q I hw=>BoolOp_one (h pI s Y H Q I hw)
theorem lF(ha:PE X a ta)(hb:PE X (.BoolOp .And (b::rest) pos) tb):PE X (.BoolOp .And (a::b::rest) pos) (pK ta tb):=by
 intro pI s Y H Q I h;refine BoolOp_and (thn (ha pI s Y H _ I h) λv s1 ⟨x,H1,I1,r1,q1⟩=>?_)
 obtain⟨c,rfl,q1⟩:=q1;cases r1;refine Cr ?_;cases c with
 |true=>exact hb pI s1 Y H1 Q I1 q1
 |false=>exact⟨.bl Ad,H1,I1,rfl,q1⟩
theorem sH(ha:PE X a ta)(hb:PE X (.BoolOp .Or (b::rest) pos) tb):PE X (.BoolOp .Or (a::b::rest) pos) (tV ta tb):=by
 intro pI s Y H Q I h;refine BoolOp_or (thn (ha pI s Y H _ I h) λv s1 ⟨x,H1,I1,r1,q1⟩=>?_)
 obtain⟨c,rfl,q1⟩:=q1;cases r1;refine Cr ?_;cases c with
 |false=>exact hb pI s1 Y H1 Q I1 q1
 |true=>exact⟨.bl Ab,H1,I1,rfl,q1⟩
theorem lA(ha:PE X a ta):PE X (.UnaryOp .Not a pos) (pF ta):=by
 intro pI s Y H Q I h;refine UnaryOp_ (thn (ha pI s Y H _ I h) λv s1 ⟨x,H1,I1,r1,q1⟩=>?_)
 obtain⟨c,rfl,q1⟩:=q1;cases r1;exact not_of (Cr ⟨.bl (!c),H1,I1,rfl,q1⟩)
end
noncomputable def SqL(K:Fg)(H:Hp)(a:Ak)(xs:Ac V):Prop:=
 Rd H a (.lst xs) \/
  ∃(o:CZ)(its:Ba Aj)(n:Af),K.lookup a=Aa o/\o.cls=.type "list"/\o.dict=Ae/\o.data=.seq its n/\its.size<=sizeLine/\AX xs its.toList
noncomputable def SqT(K:Fg)(H:Hp)(a:Ak)(xs:Ac V):Prop:=
 Rd H a (.tup xs) \/
  ∃(o:CZ)(its:Ba Aj)(n:Af),K.lookup a=Aa o/\o.cls=.type "tuple"/\o.data=.seq its n/\its.size<=sizeLine/\AX xs its.toList
noncomputable def Yh:Aj->Ao V
 |.none=>Aa .non
 |.bool b=>Aa (.bl b)
 |.int i _=>Aa (.int i)
 |.str x _=>Aa (.str x)
 |.bytes b _=>Aa (.byt b)
 |.float b _=>Aa (.flt b)
 |.ref a=>Aa (.ref a)
 |.type n=>Aa (.ty n)
 |_=>Ae
theorem Bp.abs{x:V}(r:Bp x u):Yh u=Aa x:=by
 cases x with
 |non=>cases r;rfl
 |bl _=>cases r;rfl
 |int _=>obtain⟨t,rfl⟩:=r;rfl
 |str _=>obtain⟨t,rfl⟩:=r;rfl
 |byt _=>obtain⟨t,rfl⟩:=r;rfl
 |flt _=>obtain⟨t,rfl⟩:=r;rfl
 |ref _=>cases r;rfl
 |ty _=>cases r;rfl
theorem Bp.inj{x:V}(r:Bp x u)(q:Bp y u):x=y:=Bg (r.abs.symm.trans q.abs)
theorem AX.inj:∀{xs ys:Ac V}{us:Ac Aj},AX xs us->AX ys us->xs=ys
 |_,_,_,.nil,.nil=>rfl
 |_,_,_,.cons r t,.cons r' t'=>by rw[r.inj r',AX.inj t t']
section
variable{X:Cx}{pI:Pn}{Y:St}{H:Hp}{s:Ap}{a:Ak}{xs ys:Ac V}
theorem SqL.of{K:Fg}(h:H a=Aa (.lst xs)):SqL K H a xs:=.inl (.inl h)
theorem SqT.of{K:Fg}(h:H a=Aa (.tup xs)):SqT K H a xs:=.inl (.inl h)
theorem Inv.list(I:Inv X pI Y H s)(h:SqL X.K H a xs):∃ its:Ac Aj,AX xs its/\PlainL s.heap a its.toArray/\xs.length<=sizeLine:=by
 rcases h with h|⟨o,its,n,hk,hc,hd,hs,hz,r⟩
 .obtain⟨z,its,n,r,e⟩:=h.ok I.hok;exact⟨its,r,⟨_,n,e,rfl,rfl,rfl⟩,z⟩
 .refine⟨its.toList,r,⟨o,n,I.kIn a o hk,hc,hd,by simpa using hs⟩,?_⟩
  have e:=r.length;simp only[EX]at e;omega
theorem Inv.tuple(I:Inv X pI Y H s)(h:SqT X.K H a xs):∃ its:Ac Aj,AX xs its/\JZ s.heap a its.toArray/\xs.length<=sizeLine:=by
 rcases h with h|⟨o,its,n,hk,hc,hs,hz,r⟩
 .obtain⟨z,its,r,p⟩:=h.ok I.hok;exact⟨its,r,p,z⟩
 .refine⟨its.toList,r,⟨o,I.kIn a o hk,hc,n,by simpa using hs⟩,?_⟩
  have e:=r.length;simp only[EX]at e;omega
theorem Inv.list_inj(I:Inv X pI Y H s)(h:SqL X.K H a xs)(h':SqL X.K H a ys):xs=ys:=by
 obtain⟨its,r,⟨o,n,e,_,_,d⟩,_⟩:=I.list h;obtain⟨its',r',⟨o',n',e',_,_,d'⟩,_⟩:=I.list h';rw[e]at e';cases e';rw[d]at d'
 injection d' with d1 _
 have:its=its':=by simpa using congrArg IR d1
 subst this;exact r.inj r'
theorem Inv.tuple_inj(I:Inv X pI Y H s)(h:SqT X.K H a xs)(h':SqT X.K H a ys):xs=ys:=by
 obtain⟨its,r,⟨o,e,_,n,d⟩,_⟩:=I.tuple h;obtain⟨its',r',⟨o',e',_,n',d'⟩,_⟩:=I.tuple h';rw[e]at e';cases e';rw[d]at d'
 injection d' with d1 _
 have:its=its':=by simpa using congrArg IR d1
 subst this;exact r.inj r'
end
noncomputable abbrev Cx.wish(X:Cx)(E:Vq):Cx:={X with xe:=E}
noncomputable abbrev Cx.nox(X:Cx):Cx:=X.wish λ_ _=>AW
theorem Cx.Ok.wish(ok:X.Ok)(E:Vq):(X.wish E).Ok:=
 ⟨ok.mod,ok.kind,ok.glob,ok.blt,ok.above,ok.inj,ok.has,ok.cab,ok.hd,ok.frames,ok.stk,ok.exf,ok.bs,ok.bsz,ok.noex,ok.exfs,ok.funs,ok.frf⟩
theorem Cx.Ok.unwish{E:Vq}(ok:(X.wish E).Ok):X.Ok:=
 ⟨ok.mod,ok.kind,ok.glob,ok.blt,ok.above,ok.inj,ok.has,ok.cab,ok.hd,ok.frames,ok.stk,ok.exf,ok.bs,ok.bsz,ok.noex,ok.exfs,ok.funs,ok.frf⟩
section
variable{X:Cx}{pI:Pn}{Y:St}{H:Hp}{s:Ap}{E:Vq}
theorem Inv.wish(I:Inv X pI Y H s)(E:Vq):Inv (X.wish E) pI Y H s:=⟨I.ok.wish E,I.os,I.bare,I.base,I.loc,I.cell,I.free,I.freeC,I.pin,I.hok,I.len⟩
theorem Inv.unwish(I:Inv (X.wish E) pI Y H s):Inv X pI Y H s:=⟨I.ok.unwish,I.os,I.bare,I.base,I.loc,I.cell,I.free,I.freeC,I.pin,I.hok,I.len⟩
theorem SP.unwish{D:Ends}{f:Flow}{s':Ap}(h:SP (X.wish E) pI D f s'):SP X pI D f s':=by
 cases f with
 |next=>obtain⟨Y',H',I,q⟩:=h;exact⟨Y',H',I.unwish,q⟩
 |brk=>obtain⟨Y',H',I,q⟩:=h;exact⟨Y',H',I.unwish,q⟩
 |cont=>obtain⟨Y',H',I,q⟩:=h;exact⟨Y',H',I.unwish,q⟩
 |ret u=>obtain⟨v,Y',H',I,r,q⟩:=h;exact⟨v,Y',H',I.unwish,r,q⟩
theorem PSs.nox{st:Ac AI}{t:TS}(h:PSs X.nox st t):PSs X st t:=λpI s Y H D I hw=>
 A4 (h pI s Y H D (I.wish _) hw) (λ_ _ q=>q.unwish) λ_ _ z=>A3 z
end
section
variable{X:Cx}{st:AI}{rest:Ac AI}{t u:TS}{e:An}{te:TE}{pos:AC}
def T4:TS:=λD Y H=>D.nx Y H
def tT(t u:TS):TS:=λD Y H=>t {D with nx:=u D} Y H
theorem fX:PSs X [] T4:=λ_ _ Y H _ I h=>Ei ⟨Y,H,I,h⟩
theorem Oi(h1:PS X st t)(h2:PSs X rest u):PSs X (st::rest) (tT t u):=by
 intro pI s Y H D I h;refine Hh (thn (h1 pI s Y H {D with nx:=u D} I h) λf s1 q=>?_)
 cases f with
 |next=>
  obtain⟨Y',H',I',q⟩:=q;exact h2 pI s1 Y' H' D I' q
 |ret v=>exact q
 |brk=>exact q
 |cont=>exact q
theorem Kk(h1:PS X st t):PSs X [st] t:=by
 intro pI s Y H D I h;refine Hh (thn (h1 pI s Y H D I h) λf s1 q=>?_)
 cases f with
 |next=>exact Ei q
 |ret v=>exact q
 |brk=>exact q
 |cont=>exact q
theorem gA:PS X (.Pass pos) T4:=λ_ _ Y H _ I h=>wpAny_Pass ⟨Y,H,I,h⟩
theorem Inv.quiet(I:Inv X pI Y H s):interactive X.env=Ad:=by simp[interactive,I.ok.kind]
def pG(te:TE):TS:=λD Y H=>te Y H λ_ H1=>D.nx Y H1
theorem Ls(he:PE X e te)(hs:CK e Ae pos.line X.env=pure Ad:=by rfl):PS X (.Expr e pos) (pG te):=by
 intro pI s Y H D I h;exact wpAny_Expr_any (thn (he pI s Y H _ I h) λv s1 ⟨x,H1,I1,r1,q1⟩=>⟨Y,H1,I1,q1⟩) I.quiet hs
def tU(te:TE):TS:=λD Y H=>te Y H D.rt
theorem O5(he:PE X e te):PS X (.Return (Aa e) pos) (tU te):=by
 intro pI s Y H D I h;exact wpAny_Return_some (thn (he pI s Y H _ I h) λv s1 ⟨x,H1,I1,r1,q1⟩=>⟨x,Y,H1,I1,r1,q1⟩)
def tZ(c:TT)(t u:TS):TS:=λD Y H=>c Y H λb H1=>if b=Ab then t D Y H1 else u D Y H1
theorem sF{a b:Ac AI}(hc:PT X c tc)(ha:PSs X a t)(hb:PSs X b u):PS X (.If c a b pos) (tZ tc t u):=by
 intro pI s Y H D I h;refine wpAny_If (thn (hc pI s Y H _ I h) λd s1 ⟨H1,I1,q1⟩=>?_)
 cases d with
 |true=>exact ha pI s1 Y H1 D I1 q1
 |false=>exact hb pI s1 Y H1 D I1 q1
end
abbrev TG:=V->St->Hp->(St->Hp->Prop)->Prop
abbrev TGs:=Ac V->St->Hp->(St->Hp->Prop)->Prop
noncomputable def PG(X:Cx)(target:An)(t:TG):Prop:=
 ∀(pI:Pn)(s:Ap)(Y:St)(H:Hp)(v:V)(u:Aj)(Q:St->Hp->Prop),Inv X pI Y H s->Bp v u->t v Y H Q ->
  Av (model X.prog X.w) X.A (assign target X.env u) (λ_ s'=>∃ Y' H',Inv X pI Y' H' s'/\Q Y' H') X.xe s
noncomputable def PGs(X:Cx)(ts:Ac An)(t:TGs):Prop:=
 ∀(pI:Pn)(s:Ap)(Y:St)(H:Hp)(vs:Ac V)(us:Ac Aj)(Q:St->Hp->Prop),Inv X pI Y H s->AX vs us->t vs Y H Q ->
  Av (model X.prog X.w) X.A (assignInOrder ((DK ts X.env).map (·.2)) us) (λ_ s'=>∃ Y' H',Inv X pI Y' H' s'/\Q Y' H') X.xe s
section
variable{X:Cx}{pos:AC}
def FG(i:Af):TG:=λv Y H Q=>Q (Y.set i (Aa v)) H
theorem Lu(hN:X.N.Nodup)(hi:X.N[i]?=Aa x)(hx:Loc X.env.scope x)(hf:X.fn x=Ab\/X.env.scope.names.lookup x=Aa .local:=by first|exact .inl rfl|exact .inr rfl|assumption):PG X (.Name x pos) (FG i):=by
 intro pI s Y H v u Q I r h;exact X7 (Ow I hN hi hx r (λs' I'=>⟨_,H,I',h⟩) hf)
def IH:TGs:=λvs Y H Q=>vs=[]/\Q Y H
def IE(t:TG)(u:TGs):TGs:=λvs Y H Q=>∃ v r,vs=v::r/\t v Y H λY' H'=>u r Y' H' Q
theorem Sz:PGs X [] IH:=by
 intro pI s Y H vs us Q I r h;obtain⟨e,h⟩:=h;subst e;cases r;exact assignInOrder_nil ⟨Y,H,I,h⟩
theorem Ri{t:TG}{u:TGs}(h1:PG X e t)(h2:PGs X es u)(hs:(DK (e::es) X.env).map (·.2)=assign e X.env::(DK es X.env).map (·.2):=by rfl):PGs X (e::es) (IE t u):=by
 intro pI s Y H vs us Q I r h;obtain⟨v,vr,e1,h⟩:=h;subst e1;cases r with
 |cons r rr=>
  rw[hs];refine assignInOrder_cons (thn (h1 pI s Y H _ _ _ I r h) λ_ s1 ⟨Y1,H1,I1,q1⟩=>?_)
  exact h2 pI s1 Y1 H1 _ _ Q I1 rr q1
def LP(K:Fg)(n:Af)(t:TGs):TG:=λv Y H Q=>∃ a xs,v=.ref a/\SqT K H a xs/\xs.length=n/\t xs Y H Q
theorem Tl{t:TGs}(hc:X.calm=Ab)(h:PGs X es t)(hn:(DK es X.env).length=n:=by rfl)(hst:(DK es X.env).findIdx? (·.1)=Ae:=by rfl):PG X (.Tuple es k pos) (LP X.K n t):=by
 intro pI s Y H v u Q I r hw;obtain⟨a,xs,e1,hq,hl,hw⟩:=hw;subst e1;cases r;obtain⟨its,rv,ht,hz⟩:=I.tuple hq;refine assign_Tuple_tuple (I.ok.hd hc) ht (by simp[hn,<-hl,rv.length]) hst λh' hx=>?_
 have I1:Inv X pI Y H {s with heap:=h'}:=I.kept (t':=s.toks) λb o e=>hx b o (Bh (AJ e)) e
 exact h pI _ Y H xs _ Q I1 (by simpa using rv) hw
def PY(te:TE)(g:TG):TS:=λD Y H=>te Y H λx H1=>g x Y H1 D.nx
theorem MP{te:TE}{pos':AC}(hN:X.N.Nodup)(hi:X.N[i]?=Aa x)(hx:Loc X.env.scope x)(he:PE X e te)(hs:CK e (Aa (.Name x pos')) pos.line X.env=pure Ad:=by rfl)(hf:X.fn x=Ab\/X.env.scope.names.lookup x=Aa .local:=by first|exact .inl rfl|exact .inr rfl|assumption):PS X (.Assign [.Name x pos'] e pos) (PY te (FG i)):=by
 intro pI s Y H D I h;refine wpAny_Assign_Name (thn (he pI s Y H _ I h) λv s1 ⟨y,H1,I1,r1,q1⟩=>?_) hs
 exact Ow I1 hN hi hx r1 (λs2 I2=>⟨_,H1,I2,q1⟩) hf
end
section
variable{X:Cx}{pos:AC}
def jI(c:TT)(tb:TS):TS:=λD Y H=>∃ W:Af->St->Hp->Prop,(∃ m,W m Y H)/\∀ m Y H,W m Y H ->
 c Y H λb H1=>if b=Ab then ∃ N:St->Hp->Prop,(∀ Y' H',N Y' H'->∃ m',m'<m/\W m' Y' H')/\tb {D with nx:=N,ct:=N,bk:=D.nx} Y H1 else D.nx Y H1
theorem bH(hp:DQ (model X.prog X.w) X.A X.env X.xe)(hc:PT X c tc)(hb:PSs X body tb):PS X (.While c body [] pos) (jI tc tb):=by
 intro pI s Y H D I h;obtain⟨W,⟨m0,w0⟩,turn⟩:=h;refine wpAny_While (codeAny_whileLoop (λn s'=>∃ Y' H',Inv X pI Y' H' s'/\W n Y' H') ?_ m0 ⟨Y,H,I,w0⟩)
 rintro n s1 ⟨Y1,H1,I1,w1⟩;refine Dz hp (thn (hc pI s1 Y1 H1 _ I1 (turn n Y1 H1 w1)) λb s2 ⟨H2,I2,q2⟩=>?_)
 cases b with
 |true=>
  obtain⟨N,hN,q2⟩:=q2;rw[At rfl];refine Dz hp (thn (hb pI s2 Y1 H2 _ I2 q2) λf s3 q3=>?_)
  cases f with
  |next=>
   obtain⟨Y3,H3,I3,n3⟩:=q3;obtain⟨m',hm,w3⟩:=hN Y3 H3 n3;exact⟨m',hm,Y3,H3,I3,w3⟩
  |cont=>
   obtain⟨Y3,H3,I3,n3⟩:=q3;obtain⟨m',hm,w3⟩:=hN Y3 H3 n3;exact⟨m',hm,Y3,H3,I3,w3⟩
  |brk=>exact q3
  |ret v=>exact q3
 |false=>
  rw[AA Ay];exact Ei ⟨Y1,H2,I2,q2⟩
end
structure It where
 go:Af->Hp->Prop
 yld:Af->Hp->V->Hp->Prop
 stop:Af->Hp->Prop
noncomputable def Gz(X:Cx)(pI:Pn)(H:Hp)(b:Ak):Prop:=
 H b=Ae/\b≠X.env.locals/\b∉X.fs/\(b∈X.ex\/X.s₀.heap.objs.size<=b)/\(∀ x c,X.env.cells.lookup x=Aa c->c≠b)/\∀ p∈X.pn++pI,p.1≠b
theorem Inv.fpOk{H':Hp}(I:Inv X pI Y H s)(hb:s.heap.objs.size<=b)(hn:H' b=Ae):Gz X pI H' b:=by
 refine⟨hn,Ha (AO I.lt hb),I.nofs hb,.inr (Bt I.sz hb),λx c e z=>?_,λp hp z=>?_⟩
 .obtain⟨v,q⟩:=I.cell x c e;exact absurd (AO q.lt (by rw[z];exact hb)) (Br _)
 .exact absurd (AO (AJ (I.pin p hp).1) (by rw[z];exact hb)) (Br _)
structure Turn (P:AL) (w:AV) (K:Fg) (tg:An) (J:It) (fp:Ac Ak) (it:Ak) (tn:Af->AF->Prop):Prop where
 mem:it∈fp
 obj:∀ i h,tn i h->∀ b∈fp,∃ o,h.get? b=Aa o/\∀ v,o.data≠.cell v
 keep:∀ i h h',tn i h->(∀ b∈fp,∀ o,h.get? b=Aa o->h'.get? b=Aa o)->tn i h'
 item:∀(X:Cx),X.prog=P->X.w=w->X.K=K->X.calm=Ab->∀(i:Af)(pI:Pn)(s:Ap)(Y:St)(H:Hp)(E:Vq),Inv X pI Y H s->(∀ b∈fp,Gz X pI H b)->tn i s.heap->J.go i H ->
  Av (model P w) X.A (pyNext (.ref it)) (λr s1=>∃ u,r=Aa u /\
   Av (model P w) X.A (Gb tg (.ref it) u) (λ_ s2=>∃ x H',Inv X pI Y H' s2/\Bp x u/\J.yld i H x H'/\tn (i+1) s2.heap/\∀ b∈fp,H' b=Ae) E s1) E s
 done:∀(X:Cx),X.prog=P->X.w=w->X.K=K->X.calm=Ab->∀(i:Af)(pI:Pn)(s:Ap)(Y:St)(H:Hp)(E:Vq),Inv X pI Y H s->(∀ b∈fp,Gz X pI H b)->tn i s.heap->J.stop i H ->
  Av (model P w) X.A (pyNext (.ref it)) (λr s1=>r=Ae/\Inv X pI Y H s1) E s
 self:∀(A:AT)(i:Af)(s:Ap)(Q:Vq)(E:Vq),tn i s.heap->Q (.ref it) s->Av (model P w) A (K6 (.ref it)) Q E s
abbrev TI:=St->Hp->(It->Hp->Prop)->Prop
noncomputable def PIE(X:Cx)(pI:Pn)(Y:St)(tg:An)(R:It->Hp->Prop)(itv:Aj)(s2:Ap):Prop:=
 ∃(it:Ak)(fp:Ac Ak)(tn:Af->AF->Prop)(J:It)(H':Hp),itv=.ref it/\Inv X pI Y H' s2/\Turn X.prog X.w X.K tg J fp it tn/\tn 0 s2.heap/\(∀ b∈fp,Gz X pI H' b)/\R J H'
noncomputable def PI(X:Cx)(tg iter:An)(wi:TI):Prop:=
 ∀(pI:Pn)(s:Ap)(Y:St)(H:Hp)(R:It->Hp->Prop),Inv X pI Y H s->wi Y H R ->
  Av (model X.prog X.w) X.A (eval iter X.env) (λv s1=>Av (model X.prog X.w) X.A (K6 v) (PIE X pI Y tg R) X.xe s1) X.xe s
theorem PK{A:AT}{E:Vq}{n:CQ}{vs:Ba Aj}(ho:s.heap.get? it=Aa o)(hc:o.cls=.type n)(hd:o.data=.fields vs)(hn:["enumerate", "zip", "dict_itemiterator", "dict_reverseitemiterator", "odict_iterator", "itertools.zip_longest", "itertools.pairwise"].contains n=Ad)(hQ:Q () s):Av M A (Gb tg (.ref it) u) Q E s:=by
  unfold Gb;cases tg<;>first
    |exact AS hQ
    | (cases u<;>first
        |exact AS hQ
        | (refine Aq (wpAny_load ho ?_)
           rw[hc,hd];show Av M A (if (["enumerate", "zip", "dict_itemiterator", "dict_reverseitemiterator", "odict_iterator", "itertools.zip_longest", "itertools.pairwise"].contains n&&vs[0]? == Aa (D2 _))=Ab then _ else _) Q E s
           rw[AA (by intro h;rw[hn,Bool.false_and]at h;cases h)]
           exact AS hQ))
noncomputable def Itl(K:Fg)(a:Ak):It:=
 ⟨λi H=>∃ xs x,SqL K H a xs/\xs[i]?=Aa x,λi H x H'=>H'=H/\∀ xs,SqL K H a xs->xs[i]?=Aa x,λi H=>∃ xs,SqL K H a xs/\xs.length<=i⟩
noncomputable def Itt(K:Fg)(a:Ak):It:=
 ⟨λi H=>∃ xs x,SqT K H a xs/\xs[i]?=Aa x,λi H x H'=>H'=H/\∀ xs,SqT K H a xs->xs[i]?=Aa x,λi H=>∃ xs,SqT K H a xs/\xs.length<=i⟩
noncomputable def Itr(lo:Ah)(n:Af):It:=⟨λi _=>i<n,λi H x H'=>H'=H/\x=.int (lo+i),λi _=>n<=i⟩
theorem Y_5{w:AV}{K:Fg}(a it:Ak):Turn P w K tg (Itl K a) [it] it (λi h=>h.IsListIter it a i) where
  mem:=by simp
  obj:=λi h st b hb=>by
    have e:b=it:=by simpa using hb
    subst e;obtain⟨o,e,c,d⟩:=st;exact⟨o,e,λv z=>by rw[d]at z;cases z⟩
  keep:=λi h h' st k=>st.at λo e=>k it (by simp) o e
  item:=by
    intro X hP hw hK hc i pI s Y H E I hf st hg;subst hP hw hK;obtain⟨xs,x,hq,hx⟩:=hg;obtain⟨its,rv,p,hz⟩:=I.list hq;obtain⟨u,hu,ru⟩:=rv.get hx;obtain⟨f0,f1,f2,f3,f4,f5⟩:=hf it (by simp)
    refine wpAny_pyNext_list_item st p.isList (x:=u) (by simpa using hu) λh' st' sb=>?_
    have I1:Inv X pI Y H {s with heap:=h'}:=I.turned (t':=s.toks) (λb o hb e=>(sb.2 b hb).trans e) f0 f1 f3 f4 f5
    obtain⟨o,e,c,d⟩:=id st';exact⟨u,rfl,PK (s:={s with heap:=h'}) e c d (by decide) ⟨x,H,I1,ru,⟨rfl,λys hy=>by rw[I.list_inj hy hq];exact hx⟩,st',λb hb=>(hf b hb).1⟩⟩
  done:=by
    intro X hP hw hK hc i pI s Y H E I hf st hg;subst hP hw hK;obtain⟨xs,hq,hx⟩:=hg;obtain⟨its,rv,p,hz⟩:=I.list hq;obtain⟨f0,f1,f2,f3,f4,f5⟩:=hf it (by simp)
    have hl:=rv.length;exact wpAny_pyNext_list_end (I.ok.hd hc) st p.isList (by simp;omega) λh' eb=>⟨rfl,I.turned (t':=s.toks) (λb o hb e=>eb b o hb e) f0 f1 f3 f4 f5⟩
  self:=λ_ _ _ _ _ st h=>wpAny_pyIter_listiter st h
theorem YR{w:AV}{K:Fg}(a it:Ak):Turn P w K tg (Itt K a) [it] it (λi h=>h.IsTupleIter it a i) where
  mem:=by simp
  obj:=λi h st b hb=>by
    have e:b=it:=by simpa using hb
    subst e;obtain⟨o,e,c,d⟩:=st;exact⟨o,e,λv z=>by rw[d]at z;cases z⟩
  keep:=λi h h' st k=>st.at λo e=>k it (by simp) o e
  item:=by
    intro X hP hw hK hc i pI s Y H E I hf st hg;subst hP hw hK;obtain⟨xs,x,hq,hx⟩:=hg;obtain⟨its,rv,p,hz⟩:=I.tuple hq;obtain⟨u,hu,ru⟩:=rv.get hx;obtain⟨f0,f1,f2,f3,f4,f5⟩:=hf it (by simp)
    refine wpAny_pyNext_tuple_item st (show s.heap.IsTuple a its.toArray from p) (x:=u) (by simpa using hu) λh' st' sb=>?_
    have I1:Inv X pI Y H {s with heap:=h'}:=I.turned (t':=s.toks) (λb o hb e=>(sb.2 b hb).trans e) f0 f1 f3 f4 f5
    obtain⟨o,e,c,d⟩:=id st';exact⟨u,rfl,PK (s:={s with heap:=h'}) e c d (by decide) ⟨x,H,I1,ru,⟨rfl,λys hy=>by rw[I.tuple_inj hy hq];exact hx⟩,st',λb hb=>(hf b hb).1⟩⟩
  done:=by
    intro X hP hw hK hc i pI s Y H E I hf st hg;subst hP hw hK;obtain⟨xs,hq,hx⟩:=hg;obtain⟨its,rv,p,hz⟩:=I.tuple hq;obtain⟨f0,f1,f2,f3,f4,f5⟩:=hf it (by simp)
    have hl:=rv.length;exact wpAny_pyNext_tuple_end (I.ok.hd hc) st (show s.heap.IsTuple a its.toArray from p) (by simp;omega) λh' eb=>⟨rfl,I.turned (t':=s.toks) (λb o hb e=>eb b o hb e) f0 f1 f3 f4 f5⟩
  self:=λ_ _ _ _ _ st h=>wpAny_pyIter_tupleiter st h
theorem YS{w:AV}{K:Fg}(it:Ak)(lo:Ah)(n:Af):Turn P w K tg (Itr lo n) [it] it (λi h=>IsRangeIter h it (lo+(i:Af)*1) ((n:Ah)-(i:Af)) 1) where
  mem:=by simp
  obj:=λi h st b hb=>by
    have e:b=it:=by simpa using hb
    subst e;exact⟨_,st,λv z=>by
      have z':Data.fields _=KS v:=z;cases z'⟩
  keep:=λi h h' st k=>k it (by simp) _ st
  item:=by
    intro X hP hw hK hc i pI s Y H E I hf st hg;subst hP hw hK;obtain⟨f0,f1,f2,f3,f4,f5⟩:=hf it (by simp)
    have W:=Walks.range (prog:=X.prog) (w:=X.w) (I.ok.hd hc) it lo 1 n;refine W.item i s _ _ hg st λv h' tk hv st' kk=>?_
    obtain⟨t,rfl⟩:=hv;have I1:Inv X pI Y H {s with heap:=h',toks:=tk}:=I.turned (λb o hb e=>kk b o (by simpa using hb) e) f0 f1 f3 f4 f5
    refine⟨_,rfl,PK (s:={s with heap:=h',toks:=tk}) (n := "range_iterator") st' rfl rfl (by decide) ⟨.int (lo+i),H,I1,⟨t,?_⟩,⟨rfl,rfl⟩,st',λb hb=>(hf b hb).1⟩⟩
    rw[VI]
  done:=by
    intro X hP hw hK hc i pI s Y H E I hf st hg;subst hP hw hK;obtain⟨f0,f1,f2,f3,f4,f5⟩:=hf it (by simp)
    exact wpAny_pyNext_range_end (I.ok.hd hc) st (by have:n<=i:=hg;omega) λh' eb=>⟨rfl,I.turned (t':=s.toks) (λb o hb e=>eb b o hb e) f0 f1 f3 f4 f5⟩
  self:=λ_ _ _ _ _ st h=>wpAny_pyIter_rangeiter st h
section
variable{X:Cx}{tg:An}
theorem RK{R:It->Hp->Prop}{E:Vq}{lo hi:Ah}{t u v:Ct}{tk:Af}(I:Inv X pI Y H s)(h1:-(2 ^ 62)<=lo)(h2:lo<2 ^ 62)(h3:-(2 ^ 62)<=hi)(h4:hi<2 ^ 62)(q:R (Itr lo (hi-lo).toNat) H):Av (model X.prog X.w) X.A (K6 (.ref s.heap.objs.size)) (PIE X pI Y tg R) E { s with heap:=s.heap.push { cls:=.type "range",data:=.fields #[.int lo t,.int hi u,.int 1 v] },toks:=tk }:=by
 refine wpAny_pyIter_range (IsRange.new ..) (small_one h1 h2 h3 h4) ?_;have I1:Inv X pI Y H { s with heap:=s.heap.push { cls:=.type "range",data:=.fields #[.int lo t,.int hi u,.int 1 v] },toks:=tk }:=I.kept λb o e=>Au _ e
 refine⟨(s.heap.push { cls:=.type "range",data:=.fields #[.int lo t,.int hi u,.int 1 v] }).objs.size,[(s.heap.push { cls:=.type "range",data:=.fields #[.int lo t,.int hi u,.int 1 v] }).objs.size],_,_,H,rfl,
  I1.kept (t':=tk) λb o e=>Au _ e,YS _ lo (hi-lo).toNat,?_,λb hb=>?_,q⟩
 .have e1:lo+((0:Af):Ah)*1=lo:=by simp
  have e2:(((hi-lo).toNat:Af):Ah)-((0:Af):Ah)=Builtin.Range.rangeSize lo hi 1:=by rw[rangeSize_one];split<;>omega
  show IsRangeIter _ _ (lo+((0:Af):Ah)*1) ((((hi-lo).toNat:Af):Ah)-((0:Af):Ah)) 1;rw[e1,e2];exact AY _ rfl
 .have e:b=(s.heap.push { cls:=.type "range",data:=.fields #[.int lo t,.int hi u,.int 1 v] }).objs.size:=by simpa using hb
  subst e;exact I1.fpOk (AK _) (I1.hok.fresh (AK _))
def tB(ta:TA):TI:=λY H R=>ta Y H λvs H1=>∃ j:Ah,vs=[.int j]/\-(2 ^ 62)<=j/\j<2 ^ 62/\R (Itr 0 j.toNat) H1
def sZ(ta:TA):TI:=λY H R=>ta Y H λvs H1=>∃ i j:Ah,vs=[.int i,.int j]/\(-(2 ^ 62)<=i/\i<2 ^ 62/\-(2 ^ 62)<=j/\j<2 ^ 62)/\R (Itr i (j-i).toNat) H1
theorem ZF{a:An}(hg:Gl X "range")(hm:X.mg "range" = Ae)(ha:PA X [a] ta)(hs:As [a] X.env=[(Ad,eval a X.env)]:=by rfl):PI X tg (.Call (.Name "range" p) [a] [] pos) (tB ta):=by
 intro pI s Y H R I h;refine Call_ (Kt I hg hm boot_range (Dp (thn (ha pos pI s Y H _ I h) λus s1 ⟨vs,H1,I1,r1,q1⟩=>?_) hs rfl))
 obtain⟨j,e,q1,q2,q⟩:=q1;subst e;cases r1 with
 |cons r rr=>
  cases rr;obtain⟨t,rfl⟩:=r;exact call_range_1 (RK I1 (by omega) (by omega) q1 q2 (by simpa using q))
theorem ZE{a b:An}(hg:Gl X "range")(hm:X.mg "range" = Ae)(ha:PA X [a,b] ta)(hs:As [a,b] X.env=[(Ad,eval a X.env),(Ad,eval b X.env)]:=by rfl)(hs2:As [b] X.env=[(Ad,eval b X.env)]:=by rfl):
  PI X tg (.Call (.Name "range" p) [a,b] [] pos) (sZ ta):=by
 intro pI s Y H R I h;refine Call_ (Kt I hg hm boot_range (Dp (thn (ha pos pI s Y H _ I h) λus s1 ⟨vs,H1,I1,r1,q1⟩=>?_) (by rw[hs,hs2]) (by rw[hs2];rfl)))
 obtain⟨i,j,e,⟨q1,q2,q3,q4⟩,q⟩:=q1;subst e;cases r1 with
 |cons r rr=>
  cases rr with
  |cons r' rr=>
   cases rr;obtain⟨t,rfl⟩:=r;obtain⟨t',rfl⟩:=r';exact call_range_2 (RK I1 q1 q2 q3 q4 q)
def uA(wi:TI)(g:TG)(tb:TS):TS:=λD Y H=>wi Y H λJ H1=>∃ W:Af->Af->St->Hp->Prop,(∃ m,W 0 m Y H1)/\∀ i m Y H,W i m Y H ->
 (J.stop i H/\D.nx Y H)\/(J.go i H/\∃ N:St->Hp->Prop,(∀ Y' H',N Y' H'->∃ m',m'<m/\W (i+1) m' Y' H')/\∀ x H',J.yld i H x H'->g x Y H' λY2 H2=>tb {D with nx:=N,ct:=N,bk:=D.nx} Y2 H2)
noncomputable def JP(fp:Ac Ak)(h:AF):Pn:=fp.filterMap λb=>(h.get? b).map λo=>(b,o)
theorem Ld(hb:b∈fp)(e:h.get? b=Aa o):(b,o)∈JP fp h:=List.mem_filterMap.mpr ⟨b,hb,by rw[e];rfl⟩
theorem Q6{p:Ak×CZ}(hp:p∈JP fp h):p.1∈fp/\h.get? p.1=Aa p.2:=by
 obtain⟨b,hb,e⟩:=List.mem_filterMap.mp hp;cases q:h.get? b with
 |none=>rw[q]at e;cases e
 |some o=>
  rw[q]at e;have e':(b,o)=p:=Bg e;subst e';exact⟨hb,q⟩
theorem Inv.pinned(I:Inv X pI Y H s)(hf:∀ b∈fp,Gz X pI H b)(ho:∀ b∈fp,∃ o,s.heap.get? b=Aa o/\∀ v,o.data≠.cell v):Inv X (pI++JP fp s.heap) Y H s:=
 I.pins_of λp hp=>(Dv.mp hp).elim (λz=>I.pin p (Bb _ z)) λz=>by
  obtain⟨hb,e⟩:=Q6 z;obtain⟨f0,f1,f2,_⟩:=hf p.1 hb;obtain⟨o,e',d⟩:=ho p.1 hb;rw[e]at e';cases e';exact⟨e,f0,f1,f2,d⟩
theorem Inv.unpinned{pl:Pn}(I:Inv X (pI++pl) Y H s):Inv X pI Y H s:=I.pins_of λp hp=>I.pin p (Bb _ (EH _ hp))
theorem Tj{iter:An}{wi:TI}{g:TG}(hp:DQ (model X.prog X.w) X.A X.env X.xe)(hc:X.calm=Ab)(hi:PI X tg iter wi)(hg:PG X tg g)(hb:PSs X body tb)(hs:∀ x,BW iter X.env x=pure x:=by intro _;rfl):PS X (.For tg iter body [] pos) (uA wi g tb):=by
 intro pI s Y H D I h;refine wpAny_For (thn (hi pI s Y H _ I h) λv s1 h1=>thn h1 λitv s2 h2=>?_) hs
 obtain⟨it,fp,tn,J,H2,e,I2,T,st2,f2,W,⟨m0,w0⟩,turn⟩:=h2;subst e
 -- what stays Ab of the iterator's objects through the loop
 have stat:∀{H':Hp},(∀ b∈fp,H' b=Ae)->∀ b∈fp,Gz X pI H' b:=λhn b hb=>⟨hn b hb,(f2 b hb).2⟩
 refine codeAny_forLoop_any (λn s'=>∃ i Y' H',Inv X pI Y' H' s'/\tn i s'.heap/\(∀ b∈fp,H' b=Ae)/\W i n Y' H') ?_ m0 ⟨0,Y,H2,I2,st2,λb hb=>(f2 b hb).1,w0⟩
 rintro n s3 ⟨i,Y3,H3,I3,st3,fr3,w3⟩;rcases turn i n Y3 H3 w3 with ⟨stop,qn⟩|⟨go,N,hN,step⟩
 .refine Dz hp (thn (T.done X rfl rfl rfl hc i pI s3 Y3 H3 X.xe I3 (stat fr3) st3 stop) λr s4 ⟨hr,I4⟩=>?_)
  subst hr;exact Ei ⟨Y3,H3,I4,qn⟩
 .refine Dz hp (thn (T.item X rfl rfl rfl hc i pI s3 Y3 H3 X.xe I3 (stat fr3) st3 go) λr s4 ⟨u,hr,h4⟩=>?_)
  subst hr;refine Dz hp (thn h4 λ_ s5 ⟨x,H5,I5,r5,y5,st5,fr5⟩=>?_)
  have I5':=I5.pinned (stat fr5) (T.obj _ _ st5);refine Dz hp (thn (hg _ s5 Y3 H5 x u _ I5' r5 (step x H5 y5)) λ_ s6 ⟨Y6,H6,I6,q6⟩=>?_)
  refine Dz hp (thn (hb _ s6 Y6 H6 _ I6 q6) λf s7 q7=>?_)
  have again:∀{Y7:St}{H7:Hp},Inv X (pI++JP fp s5.heap) Y7 H7 s7->N Y7 H7->∃ m,m<n/\∃ i Y' H',Inv X pI Y' H' s7/\tn i s7.heap/\(∀ b∈fp,H' b=Ae)/\W i m Y' H':=λ{Y7 H7} I7 n7=>by
   obtain⟨m',hm,w7⟩:=hN Y7 H7 n7;refine⟨m',hm,i+1,Y7,H7,I7.unpinned,T.keep _ _ _ st5 λb hb o e=>(I7.pin (b,o) (Bb _ (Bb _ (Ld hb e)))).1,λb hb=>?_,w7⟩
   obtain⟨o,e,d⟩:=T.obj _ _ st5 b hb;exact(I7.pin (b,o) (Bb _ (Bb _ (Ld hb e)))).2.1
  cases f with
  |next=>obtain⟨Y7,H7,I7,n7⟩:=q7;exact again I7 n7
  |cont=>obtain⟨Y7,H7,I7,n7⟩:=q7;exact again I7 n7
  |brk=>obtain⟨Y7,H7,I7,q7⟩:=q7;exact⟨Y7,H7,I7.unpinned,q7⟩
  |ret v=>obtain⟨x7,Y7,H7,I7,r7,q7⟩:=q7;exact⟨x7,Y7,H7,I7.unpinned,r7,q7⟩
end
abbrev R2:=V->V->Hp->VK->Prop
variable{r:R2}
noncomputable def OpR(X:Cx)(f:Aj->Aj->Fx Aj)(r:R2):Prop:=
 ∀(pI:Pn)(s:Ap)(Y:St)(H:Hp)(x y:V)(v u:Aj)(Q:VK),Inv X pI Y H s->Bp x v->Bp y u->r x y H Q ->
  Av (model X.prog X.w) X.A (f v u) (EP X pI Y Q) X.xe s
noncomputable def UnR(X:Cx)(f:Aj->Fx Aj)(r:V->Hp->VK->Prop):Prop:=
 ∀(pI:Pn)(s:Ap)(Y:St)(H:Hp)(x:V)(v:Aj)(Q:VK),Inv X pI Y H s->Bp x v->r x H Q ->
  Av (model X.prog X.w) X.A (f v) (EP X pI Y Q) X.xe s
noncomputable def Hm(X:Cx)(f:Aj)(r:Ac V->Hp->VK->Prop):Prop:=
 ∀(pI:Pn)(s:Ap)(Y:St)(H:Hp)(xs:Ac V)(us:Ac Aj)(Q:VK),Inv X pI Y H s->AX xs us->r xs H Q ->
  Av (model X.prog X.w) X.A (call f us) (EP X pI Y Q) X.xe s
noncomputable def Yj(X:Cx)(r:V->Hp->(Am->Hp->Prop)->Prop):Prop:=
 ∀(pI:Pn)(s:Ap)(Y:St)(H:Hp)(x:V)(v:Aj)(Q:Am->Hp->Prop),Inv X pI Y H s->Bp x v->r x H Q ->
  Av (model X.prog X.w) X.A (truthy v) (TP X pI Y Q) X.xe s
def tOp(r:R2)(ta tb:TE):TE:=λY H Q=>ta Y H λx H1=>tb Y H1 λy H2=>r x y H2 Q
def tUn(r:V->Hp->VK->Prop)(ta:TE):TE:=λY H Q=>ta Y H λx H1=>r x H1 Q
def rI(C:Ah->Ah->Prop)(g:Ah->Ah->V):R2:=λx y H Q=>∃ i j,x=.int i/\y=.int j/\C i j/\Q (g i j) H
def rI0(g:Ah->Ah->V):R2:=λx y H Q=>∃ i j,x=.int i/\y=.int j/\Q (g i j) H
def rU(g:Ah->V):V->Hp->VK->Prop:=λx H Q=>∃ i,x=.int i/\Q (g i) H
section
variable{X:Cx}{a b c:An}{ta tb tc:TE}{pos:AC}
theorem Qi(ha:PE X a ta)(hb:PE X b tb){R:V->V->Hp->Prop}(I:Inv X pI Y H s)(h:ta Y H λx H1=>tb Y H1 λy H2=>R x y H2){Q:Vq}(hf:∀ v u s2 x y H2,Inv X pI Y H2 s2->Bp x v->Bp y u->R x y H2->Av (model X.prog X.w) X.A (f v u) Q X.xe s2):Av (model X.prog X.w) X.A (eval a X.env) (λv s₁=>Av (model X.prog X.w) X.A (eval b X.env) (λu s₂=>Av (model X.prog X.w) X.A (f v u) Q X.xe s₂) X.xe s₁) X.xe s:=by
 refine thn (ha pI s Y H _ I h) λv s1 ⟨x,H1,I1,r1,q1⟩=>?_
 refine thn (hb pI s1 Y H1 _ I1 q1) λu s2 ⟨y,H2,I2,r2,q2⟩=>?_
 exact hf v u s2 x y H2 I2 r1 r2 q2
theorem Ud{op:Fh}(ho:OpR X (BY op) r)(ha:PE X a ta)(hb:PE X b tb):PE X (.BinOp a op b pos) (tOp r ta tb):=by
 intro pI s Y H Q I h;exact wpAny_BinOp (Qi ha hb I h λv u s2 x y H2 I2 rx ry q=>ho pI s2 Y H2 x y v u Q I2 rx ry q)
theorem sG{op:Jw}{r:V->Hp->VK->Prop}(ho:UnR X (unaryOp op) r)(ha:PE X a ta):PE X (.UnaryOp op a pos) (tUn r ta):=by
 intro pI s Y H Q I h;exact UnaryOp_ (thn (ha pI s Y H _ I h) λv s1 ⟨x,H1,I1,r1,q1⟩=>ho pI s1 Y H1 x v Q I1 r1 q1)
theorem opI{C:Ah->Ah->Prop}(rule:∀(i j:Ah)(t u:Ct)(s:Ap)(Q:Vq)(E:Vq),C i j->Q (.int (g i j) s.toks) {s with toks:=s.toks+1}->Av (model X.prog X.w) X.A (f (.int i t) (.int j u)) Q E s):OpR X f (rI C λi j=>.int (g i j)):=by
 intro pI s Y H x y v u Q I rx ry h;obtain⟨i,j,rfl,rfl,hc,q⟩:=h;obtain⟨t,rfl⟩:=rx;obtain⟨t',rfl⟩:=ry;exact rule i j t t' s _ _ hc ⟨.int (g i j),H,I.tok _,⟨_,rfl⟩,q⟩
theorem UQ(rule:∀(i j:Ah)(t u:Ct)(s:Ap)(Q:Vq)(E:Vq),Q (.int (g i j) s.toks) {s with toks:=s.toks+1}->Av (model X.prog X.w) X.A (f (.int i t) (.int j u)) Q E s):OpR X f (rI0 λi j=>.int (g i j)):=by
 intro pI s Y H x y v u Q I rx ry h;obtain⟨i,j,rfl,rfl,q⟩:=h;obtain⟨t,rfl⟩:=rx;obtain⟨t',rfl⟩:=ry;exact rule i j t t' s _ _ ⟨.int (g i j),H,I.tok _,⟨_,rfl⟩,q⟩
theorem Nh{g:Ah->Ah->Am}(rule:∀(i j:Ah)(t u:Ct)(s:Ap)(Q:Vq)(E:Vq),Q (.bool (g i j)) s->Av (model X.prog X.w) X.A (f (.int i t) (.int j u)) Q E s):OpR X f (rI0 λi j=>.bl (g i j)):=by
 intro pI s Y H x y v u Q I rx ry h;obtain⟨i,j,rfl,rfl,q⟩:=h;obtain⟨t,rfl⟩:=rx;obtain⟨t',rfl⟩:=ry;exact rule i j t t' s _ _ ⟨.bl (g i j),H,I,rfl,q⟩
def Yn(i j:Ah):Prop:=0<j/\j<1073741824
def Ym(i j:Ah):Prop:=0<=j/\j<=1000000/\i.natAbs<2 ^ 64
def Nt(i j:Ah):Prop:=(-(2 ^ 64)<i/\i<2 ^ 64)\/(-(2 ^ 64)<j/\j<2 ^ 64)
theorem Nt.ok{i j:Ah}(h:Nt i j):KZ i j:=by
 rcases h with ⟨h1,h2⟩|⟨h1,h2⟩
 .exact .of_left (intBits_le_64 h1 h2)
 .exact .of_right (intBits_le_64 h1 h2)
theorem lK:OpR X (BY .Add) (rI0 λi j=>.int (i+j)):=UQ λ_ _ _ _ _ _ _ q=>add_int q
theorem lG:OpR X (BY .Sub) (rI0 λi j=>.int (i-j)):=UQ λ_ _ _ _ _ _ _ q=>sub_int q
theorem gQ:OpR X (BY .FloorDiv) (rI Yn λi j=>.int (i/j)):=opI λi j _ _ _ _ _ hc q=>by
 have h1:(0:Ah)<j:=hc.1;have h2:j<1073741824:=hc.2;exact floordiv_int (by omega) (by rw[Int.fdiv_eq_ediv_of_nonneg i (by omega)];exact q) (.inl (PyProof.noPylong_small (by omega)))
theorem lI:OpR X (BY .Mod) (rI (λ_ j=>0<j) λi j=>.int (i%j)):=opI λi j _ _ _ _ _ hc q=>by
 have h1:(0:Ah)<j:=hc;exact mod_int' (by omega) (by rw[Int.fmod_eq_emod_of_nonneg i (by omega)];exact q)
theorem lH:OpR X (BY .Pow) (rI Ym λi j=>.int (i ^ j.toNat)):=opI λ_ _ _ _ _ _ _ hc q=>pow_int_small hc.1 hc.2.1 hc.2.2 q
theorem unI{f:Aj->Fx Aj}{g:Ah->Ah}(rule:∀(i:Ah)(t:Ct)(s:Ap)(Q:Vq)(E:Vq),Q (.int (g i) s.toks) {s with toks:=s.toks+1}->Av (model X.prog X.w) X.A (f (.int i t)) Q E s):UnR X f (rU λi=>.int (g i)):=by
 intro pI s Y H x v Q I rx h;obtain⟨i,rfl,q⟩:=h;obtain⟨t,rfl⟩:=rx;exact rule i t s _ _ ⟨.int (g i),H,I.tok _,⟨_,rfl⟩,q⟩
theorem kG:UnR X (unaryOp .USub) (rU λi=>.int (-i)):=unI λ_ _ _ _ _ q=>neg_int q
end
section
variable{X:Cx}{a b c:An}{ta tb tc:TE}{pos:AC}
theorem TB{Q:VK}{k k':Am}(I:Inv X pI Y H s)(q:Q (.bl k) H)(e:k=k'):EP X pI Y Q (.bool k') s:=by
 subst e;exact⟨.bl k,H,I,rfl,q⟩
theorem sO:OpR X (Cq .Lt) (rI0 λi j=>.bl (decide (i<j))):=Nh λ_ _ _ _ _ _ _ q=>lt_int q
theorem qZ:OpR X (Cq .LtE) (rI0 λi j=>.bl (decide (i<=j))):=Nh λ_ _ _ _ _ _ _ q=>le_int q
theorem rA:OpR X (Cq .Gt) (rI0 λi j=>.bl (decide (j<i))):=Nh λ_ _ _ _ _ _ _ q=>gt_int q
theorem rB:OpR X (Cq .GtE) (rI0 λi j=>.bl (decide (j<=i))):=Nh λ_ _ _ _ _ _ _ q=>ge_int q
theorem lJ:OpR X (Cq .Is) (λx y H Q=>y=.non/\Q (.bl (decide (x=.non))) H):=by
 intro pI s Y H x y v u Q I rx ry h;obtain⟨rfl,q⟩:=h;cases ry;refine is_none_gen (TB I q ?_);cases x<;>first
  |(cases rx;rfl)
  |(obtain⟨t,rfl⟩:=rx;rfl)
theorem gO:OpR X (Cq .IsNot) (λx y H Q=>y=.non/\Q (.bl (!decide (x=.non))) H):=by
 intro pI s Y H x y v u Q I rx ry h;obtain⟨rfl,q⟩:=h;cases ry;refine isnot_none_gen (TB I q ?_);cases x<;>first
  |(cases rx;rfl)
  |(obtain⟨t,rfl⟩:=rx;rfl)
theorem gH(ho:OpR X (Cq op) r)(ha:PE X a ta)(hb:PE X b tb)(hm:GO op b=Ad):PE X (.Compare a [op] [b] pos) (tOp r ta tb):=by
 intro pI s Y H Q I h;exact wpAny_Compare1 (Qi ha hb I h λv u s2 x y H2 I2 rx ry q=>ho pI s2 Y H2 x y v u Q I2 rx ry q) hm
def TZ(t:TE):TT:=λY H Q=>t Y H λx H'=>∃ k,x=.bl k/\Q k H'
theorem fW(ho:OpR X (Cq op) r)(ha:PE X a ta)(hb:PE X b tb)(hm:GO op b=Ad):PT X (.Compare a [op] [b] pos) (TZ (tOp r ta tb)):=by
 intro pI s Y H Q I h;refine wpAny_isTrue_Compare1 (thn (ha pI s Y H _ I h) λv s1 ⟨x,H1,I1,r1,q1⟩=>thn (hb pI s1 Y H1 _ I1 q1) λu s2 ⟨y,H2,I2,r2,q2⟩=>
  thn (ho pI s2 Y H2 x y v u _ I2 r1 r2 q2) λc s3 ⟨z,H3,I3,r3,k,e,q3⟩=>?_) hm
 subst e;cases r3;exact Cr ⟨H3,I3,q3⟩
def TH(r r':R2)(ta tb tc:TE):TE:=λY H Q=>ta Y H λx H1=>tb Y H1 λy H2=>r x y H2 λz H3=>∃ k,z=.bl k /\
 (if k=Ab then tc Y H3 λw' H4=>r' y w' H4 Q else Q (.bl Ad) H3)
theorem bP{op':CV}{r':R2}(ho:OpR X (Cq op) r)(ho':OpR X (Cq op') r')(ha:PE X a ta)(hb:PE X b tb)(hc:PE X c tc)(hm:Jd [op,op'] [b,c]=Ad:=by with_unfolding_all rfl):PE X (.Compare a [op,op'] [b,c] pos) (TH r r' ta tb tc):=by
 intro pI s Y H Q I h;refine Compare_chain (thn (ha pI s Y H _ I h) λv s1 ⟨x,H1,I1,r1,q1⟩=>chain_link (thn (hb pI s1 Y H1 _ I1 q1) λu s2 ⟨y,H2,I2,r2,q2⟩=>
  thn (ho pI s2 Y H2 x y v u _ I2 r1 r2 q2) λd s3 ⟨z,H3,I3,r3,k,e,q3⟩=>?_)) hm
 subst e;cases r3;refine Cr ?_;cases k with
 |false=>exact ite_ff ⟨.bl Ad,H3,I3,rfl,q3⟩
 |true=>exact ite_tt (chain_last (thn (hc pI s3 Y H3 _ I3 q3) λw' s4 ⟨z',H4,I4,r4,q4⟩=>ho' pI s4 Y H4 y z' u w' Q I4 r2 r4 q4))
theorem bG{op':CV}{r':R2}(ho:OpR X (Cq op) r)(ho':OpR X (Cq op') r')(ha:PE X a ta)(hb:PE X b tb)(hc:PE X c tc)(hm:Jd [op,op'] [b,c]=Ad:=by with_unfolding_all rfl):PT X (.Compare a [op,op'] [b,c] pos) (TZ (TH r r' ta tb tc)):=by
 intro pI s Y H Q I h;refine isTrue_chain (thn (ha pI s Y H _ I h) λv s1 ⟨x,H1,I1,r1,q1⟩=>test_link (thn (hb pI s1 Y H1 _ I1 q1) λu s2 ⟨y,H2,I2,r2,q2⟩=>
  thn (ho pI s2 Y H2 x y v u _ I2 r1 r2 q2) λd s3 ⟨z,H3,I3,r3,k,e,q3⟩=>?_)) hm
 subst e;cases r3;refine Cr ?_;cases k with
 |false=>
  obtain⟨k',e',q'⟩:=q3;cases e';exact ite_ff ⟨H3,I3,q'⟩
 |true=>
  refine ite_tt (test_last (thn (hc pI s3 Y H3 _ I3 q3) λw' s4 ⟨z',H4,I4,r4,q4⟩=>thn (ho' pI s4 Y H4 y z' u w' _ I4 r2 r4 q4) λd' s5 ⟨z2,H5,I5,r5,k2,e2,q5⟩=>?_))
  subst e2;cases r5;exact Cr ⟨H5,I5,q5⟩
noncomputable def Vn(K:Fg)(x:V)(H:Hp)(k:Am):Prop:=
  match x with
  |.non=>k=Ad
  |.bl b=>k=b
  |.int i=>k=(i != 0)
  |.str y=>y.length<=sizeLine/\k=((y.length:Ah) != 0)
  |.byt y=>y.size<=sizeLine/\k=((y.size:Ah) != 0)
  |.ref p=>(∃ xs,SqL K H p xs/\k=!xs.isEmpty)\/(∃ xs,SqT K H p xs/\k=!xs.isEmpty)\/∃ kvs,H p=Aa (.dK kvs)/\k=!kvs.isEmpty
  |_=>AW
theorem Zb{κ:Type}{kvs:Ac (κ×V)}{vs:Ac (κ×Aj)}(r:KV kvs vs):(!vs.isEmpty)=!kvs.isEmpty:=by
 cases r<;>rfl
theorem QG{its:Ac Aj}(r:AX xs its):(!its.toArray.isEmpty)=!xs.isEmpty:=by
 cases r<;>simp
theorem Ks:(sizeLine:Af)<2 ^ 63:=by rw[Cc];decide
theorem kI:Yj X (λx H Q=>∃ k,Vn X.K x H k/\Q k H):=by
 intro pI s Y H x v Q I rx h;obtain⟨k,e,q⟩:=h;have hl:=Ks;have hs:sizeLine=16777216:=Cc;cases x with
 |non=>
  cases rx;have e':k=Ad:=e;subst e';exact truthy_none ⟨H,I,q⟩
 |bl b=>
  cases rx;have e':k=b:=e;subst e';exact Cr ⟨H,I,q⟩
 |int i=>
  obtain⟨t,rfl⟩:=rx;have e':k=(i != 0):=e;subst e';exact PySem.P.truthy_int ⟨H,I,q⟩
 |str y=>
  obtain⟨t,rfl⟩:=rx;obtain⟨hy,e'⟩:y.length<=sizeLine/\k=((y.length:Ah) != 0):=e;subst e';exact PySem.P.truthy_str (by omega) ⟨H,I.tok _,q⟩
 |byt y=>
  obtain⟨t,rfl⟩:=rx;obtain⟨hy,e'⟩:y.size<=sizeLine/\k=((y.size:Ah) != 0):=e;subst e';exact PySem.W.truthy_bytes (by omega) ⟨H,I.tok _,q⟩
 |ref p=>
  cases rx;have e':(∃ xs,SqL X.K H p xs/\k=!xs.isEmpty)\/(∃ xs,SqT X.K H p xs/\k=!xs.isEmpty)\/∃ kvs,H p=Aa (.dK kvs)/\k=!kvs.isEmpty:=e;rcases e' with ⟨xs,hx,e'⟩|⟨xs,hx,e'⟩|⟨kvs,hx,e'⟩
  .subst e';obtain⟨its,r,pl,hz⟩:=I.list hx;have hlen:=r.length;exact wpAny_truthy_list pl.isList (by simp only[AM];omega) ⟨H,I.tok _,by rw[QG r];exact q⟩
  .subst e';obtain⟨its,r,pl,hz⟩:=I.tuple hx;have hlen:=r.length;exact truthy_tuple pl (by simp only[AM];omega) ⟨H,I.tok _,by rw[QG r];exact q⟩
  .subst e';obtain⟨hz,hS,vs,r,m⟩:kvs.length<=sizeLine/\(p==J8)=Ad/\∃ vs,KV kvs vs/\s.heap.DictOf (OF X.prog X.w) p vs:=I.hok p _ hx;have hlen:kvs.length=vs.length:=Xe r;exact wpAny_truthy_dict hS m (by omega) ⟨H,I.tok _,by rw[Zb r];exact q⟩
 |_=>exact(show AW from e).elim
theorem ZM(ha:PE X a ta)(he:∀ whole,H9 a X.env whole=(do let v <-whole;standAt a.pos;holding [v] (truthy v))):PT X a (λY H Q=>ta Y H λx H'=>∃ k,Vn X.K x H' k/\Q k H'):=by
 intro pI s Y H Q I h;exact isTrue_plain (thn (ha pI s Y H _ I h) λv s1 ⟨x,H1,I1,r1,q1⟩=>kI pI s1 Y H1 x v Q I1 r1 q1) (he _)
theorem Y_8:OpR X (BY .Add) (λx y H Q=>∃ i j,x=.str i/\y=.str j/\i.length+j.length<=sizeLine/\Q (.str (i++j)) H):=by
 intro pI s Y H x y v u Q I rx ry h;obtain⟨i,j,rfl,rfl,hz,q⟩:=h;obtain⟨t,rfl⟩:=rx;obtain⟨t',rfl⟩:=ry;exact add_str (λt' tk=>⟨.str (i++j),H,I.tok _,⟨_,rfl⟩,q⟩) hz
theorem Ho{x:V}(r:AX [x] us):∃ u,us=[u]/\Bp x u:=by
 cases r with
 |cons r1 r2=>cases r2;exact⟨_,rfl,r1⟩
theorem JR{x:V}(r:AX [x,y] us):∃ u w',us=[u,w']/\Bp x u/\Bp y w':=by
 cases r with
 |cons r1 r2=>
  cases r2 with
  |cons r3 r4=>cases r4;exact⟨_,_,rfl,r1,r3⟩
theorem aC(hc:X.calm=Ab):Hm X (.builtin "min") (λxs H Q=>∃ i j,xs=[.int i,.int j]/\Q (.int (if j<i then j else i)) H):=by
 intro pI s Y H xs us Q I r h;obtain⟨i,j,rfl,q⟩:=h;obtain⟨u,w',rfl,⟨t,rfl⟩,⟨t',rfl⟩⟩:=JR r;refine min_two_ints (I.ok.hd hc) λh' tk k=>⟨_,H,I.kept k,?_,q⟩
 by_cases hj:j<i
 .rw[At hj,At hj];exact⟨_,rfl⟩
 .rw[AA hj,AA hj];exact⟨_,rfl⟩
theorem YL:Hm X (.type "str") (λxs H Q=>∃ i,xs=[.int i]/\i.natAbs.log2<1920/\Q (.str (toString i)) H):=by
 intro pI s Y H xs us Q I r h;obtain⟨i,rfl,hz,q⟩:=h;obtain⟨u,rfl,t,rfl⟩:=Ho r;exact PySem.P.str_of_int hz ⟨.str _,H,I.tok _,⟨_,rfl⟩,q⟩
end
structure ObjM (h:AF) (x dx C:Ak) (mA:Ag->Ao Aj):Prop where
 obj:h.get? x=Aa (Dc C dx)
 ns:h.Ns1 dx mA
 ne:dx≠x
theorem Zv(n:h.Ns1 dx mA):∃ od,h.get? dx=Aa od/\∀ name,Gs name od=Aa (mA name):=by
 obtain⟨o,es,ep,ho,hd,hk,_,hm⟩:=n;refine⟨o,ho,λname=>?_⟩
 have e:=hm name;unfold nsFind findBy at e;rw[<-VA]at e;unfold Gs;rw[hd];dsimp only;split
 .rename_i y q;rw[q]at e;exact congrArg Aa e
 .rename_i q;rw[q]at e;have a:es.toList.any (·.refKey)=Ad:=by
   rw[List.any_eq_false];intro y hy;obtain⟨z,t,hkey⟩:=hk y (VB.mp hy);simp[DictEntry.refKey,hkey]
  have a':¬ es.toList.any (·.refKey)=Ab:=by rw[a];exact Ay
  rw[AA a'];exact congrArg Aa e
theorem ObjM.look{x:Ak}(I:ObjM h x dx C mA):∃ od,PySem.W.InstAt h x (Dc C dx) C (Aa od)/\∀ name,Gs name od=Aa (mA name):=
 let ⟨od,ho,hl⟩:=Zv I.ns
 ⟨od,⟨I.obj,rfl,rfl,ho⟩,hl⟩
section
variable{prog:AL}{w:AV}{A:AT}{E:Vq}{s:Ap}{K:Fg}{x dx C f:Ak}{mA:Ag->Ao Aj}{name:Ag}{v:Aj}
theorem iN{expr:Am}{Q:Vq}(X:K.In s.heap)(I:ObjM s.heap x dx C mA)(hg:EJ K C name=Ab)(hh:FA K C=Ab)(ha:Ar K (.ref C) name=Aa Ae)(hv:mA name=Aa v)(hv':XG v=Ab)(h:Q v {s with toks:=s.toks+1}):Av (model prog w) A (Jx (.ref x) name expr) Q E s:=by
 obtain⟨od,J,hl⟩:=I.look;exact PySem.W.get_value X J (Go hg).1 (PySem.W.findObj_own hh ha rfl (by rw[hl,hv])) hv' h
theorem bD{Q:Aj×Ac Aj->Ap->Prop}(X:K.In s.heap)(I:ObjM s.heap x dx C mA)(hg:EJ K C name=Ab)(hf:Ar K (.ref C) name=Aa (Aa (.ref f)))(ht:Dq K (.ref f)=Ab)(hv:mA name=Ae)(h:Q (.ref f,[.ref x]) s):Av (model prog w) A (getMethod (.ref x) name pl) Q E s:=by
 obtain⟨od,J,hl⟩:=I.look;exact PySem.W.method_fn X J (Go hg).1 (Go hg).2 hf (AG.mp ht) (by show (Gs name od).map (·.isSome)=Aa Ad;rw[hl,hv];rfl) h
theorem dO{ns:Ac Ag}(X:K.In s.heap)(I:ObjM s.heap x dx C mA)(hs:Ar K (.ref C) "__setattr__" = Aa (Aa (.builtin "object.__setattr__")))(hp:G0 K C=Ab)(ht:HA K C name=Aa Ae)(hh:FA K C=Ab)(hw:Ja mA ns)(hsz:ns.length<=sizeLine)(h:∀ h',ObjM h' x dx C (λy=>if y=name then Aa v else mA y)->Ey dx s.heap h'->Q () {s with heap:=h',toks:=s.toks+2}):Av (model prog w) A (Ka (.ref x) name v) Q E s:=by
  obtain⟨od,J,hl⟩:=I.look;refine PySem.W.set_plain X J hs (PySem.W.osa_open (s:={s with toks:=s.toks+1}) (r:=Ae) X J hp ht λb=>?_)
  obtain⟨cd,hc,hd'⟩:=PySem.W.any_some hh;have hx:s.heap.get? x=Aa ⟨.ref C,Aa dx,.plain,#[]⟩:=I.obj;refine Aq (AS (Aq (Aq (X8 hx (Aq (PySem.W.Looks.here (s:={s with toks:=s.toks+1}) (PySem.W.looks_clsIn X hc) ?_))))))
  rw[hd'];refine AS (a:=Aa dx) (Aq (AS (Aq ?_)));refine wpAny_nsSet1 (s:={s with toks:=s.toks+1}) I.ns λh' hn2 hs2=>?_
  obtain⟨oD,esD,epD,hoD,hdD,hcD⟩:=hn2.count (PySem.Within.cons name v hw);refine Aq (X9 hoD (by rw[hdD];exact X2 (Bt hcD (by rw[A2];omega))) ?_)
  exact AS (h _ ⟨(hs2.2 _ (CB I.ne)).trans I.obj,hn2,I.ne⟩ hs2)
theorem aQ{R:He->Ap->Prop}{vs:Ac Aj}(X:K.In s.heap)(hm:Hz K C=Ab)(hi:Ar K (.ref C) "__init__" = Aa (Aa (.ref f)))(hf:Da K (.ref f)=Aa (.type "function"))(h:Ez (model prog w) (A.under (.builtin "type.__call__" ⟨.ref C::vs,kw⟩)) (.call (.ref f) ⟨.ref (s.heap.objs.size+1)::vs,kw⟩) (PySem.W.InitBack (s.heap.objs.size+1) R)
      {s with heap:=(s.heap.push Cp).push (Dc C s.heap.objs.size)}):Ez (model prog w) A (.call (.ref C) ⟨vs,kw⟩) R s:=by
  obtain⟨hh,g,d,t,os⟩:=s;exact PySem.W.make_core (PySem.W.makes_of X hm) (B7 X hi) (λself=>PySem.W.bind_fn X self hf) (.inl rfl) h
end
noncomputable def E7(f:Ag)(v:V):Ac (Ag×V)->Ac (Ag×V)
 |[]=>[(f,v)]
 |(g,x)::r=>if g=f then (g,v)::r else (g,x)::E7 f v r
theorem Qs(f g:Ag)(v:V):∀ fs:Ac (Ag×V),(E7 f v fs).lookup g=if g=f then Aa v else fs.lookup g
 |[]=>by
  show BU g [(f,v)]=_;by_cases h:g=f
  .have hb:(g==f)=Ab:=AG.mpr h;simp only[BU,hb,At h]
  .have hb:(g==f)=Ad:=CN.mpr h;simp only[BU,hb,AA h]
 |(k,x)::r=>by
  have ih:=Qs f g v r;rw[show E7 f v ((k,x)::r)=(if k=f then (k,v)::r else (k,x)::E7 f v r) from rfl]
  by_cases hk:k=f
  .rw[At hk];by_cases h:g=k
   .have hb:(g==k)=Ab:=AG.mpr h;simp only[BU,hb,At (h.trans hk)]
   .have hb:(g==k)=Ad:=CN.mpr h;simp only[BU,hb,AA (λe:g=f=>h (e.trans hk.symm))]
  .rw[AA hk];by_cases h:g=k
   .have hb:(g==k)=Ab:=AG.mpr h;simp only[BU,hb,AA (λe:g=f=>hk (h.symm.trans e))]
   .have hb:(g==k)=Ad:=CN.mpr h;simp only[BU,hb];exact ih
theorem N1(f:Ag)(v:V):∀ fs:Ac (Ag×V),f∈(E7 f v fs).map (·.1)/\∀ g,g∈fs.map (·.1)->g∈(E7 f v fs).map (·.1)
 |[]=>⟨by simp[E7],λg h=>by simp at h⟩
 |(k,x)::r=>by
  obtain⟨i1,i2⟩:=N1 f v r;rw[show E7 f v ((k,x)::r)=(if k=f then (k,v)::r else (k,x)::E7 f v r) from rfl]
  by_cases hk:k=f
  .rw[At hk];subst hk;exact⟨by simp,λg h=>by simpa using h⟩
  .rw[AA hk];refine⟨?_,λg h=>?_⟩
   .rw[AZ];exact Aw _ i1
   .rw[AZ]at h ⊢;rcases AH.mp h with e|e
    .exact List.mem_cons.mpr (.inl e)
    .exact Aw _ (i2 g e)
theorem Qt(f:Ag)(v:V):∀ fs:Ac (Ag×V),(E7 f v fs).length<=fs.length+1
 |[]=>by simp[E7]
 |(k,x)::r=>by
  have ih:=Qt f v r;rw[show E7 f v ((k,x)::r)=(if k=f then (k,v)::r else (k,x)::E7 f v r) from rfl]
  by_cases hk:k=f
  .rw[At hk,A2,A2];omega
  .rw[AA hk,A2,A2];omega
theorem Ht.some_of{o:Ao Aj}(r:Ht (Aa v) o):∃ u,o=Aa u/\Bp v u:=by
 cases o with
 |none=>exact(show AW from r).elim
 |some u=>exact⟨u,rfl,r⟩
theorem Ht.none_of{o:Ao Aj}(r:Ht Ae o):o=Ae:=by
 cases o with
 |none=>rfl
 |some u=>exact(show AW from r).elim
theorem Rg(r:Bp v u):XG u=Ab:=by
 cases v with
 |non=>cases (show u=Cy from r);rfl
 |bl b=>cases (show u=Ie b from r);rfl
 |int i=>obtain⟨t,e⟩:=(show ∃ t,u=IY i t from r);cases e;rfl
 |str x=>obtain⟨t,e⟩:=(show ∃ t,u=IZ x t from r);cases e;rfl
 |byt b=>obtain⟨t,e⟩:=(show ∃ t,u=Xx b t from r);cases e;rfl
 |flt b=>obtain⟨t,e⟩:=(show ∃ t,u=JA b t from r);cases e;rfl
 |ref a=>cases (show u=Bf a from r);rfl
 |ty n=>cases (show u=J6 n from r);rfl
section
variable{P:AL}{w:AV}{H H':Hp}{h h':AF}{a C dx:Ak}{fs fs':Ac (Ag×V)}
theorem Mz(hok:HOk P w H h)(e:H a=Aa (.ins C dx fs)):∃ mA,ObjM h a dx C mA/\(∀ f,Ht (fs.lookup f) (mA f))/\Ja mA (fs.map (·.1))/\fs.length<=1000/\H dx=Aa (.own a):=by
 obtain⟨d,z,ne,ob,mA,n,r,q⟩:=(show ObjOk P w H h a (.ins C dx fs) from hok a _ e)
 exact⟨mA,⟨ob,n,ne⟩,r,q,z,d⟩
end
structure Cls (K:Fg) (C:Ak):Prop where
 pg:EJ K C Dh=Ab
 hd:FA K C=Ab
 po:G0 K C=Ab
 sa:Ar K (.ref C) "__setattr__" = Aa (Aa (.builtin "object.__setattr__"))
theorem Cls.get{K:Fg}(c:Cls K C)(f:Ag):EJ K C f=Ab:=c.pg
def GR(K:Fg)(C:Ak)(f:Ag):Prop:=Ar K (.ref C) f=Aa Ae
theorem GR.taker{K:Fg}{f:Ag}(n:GR K C f):HA K C f=Aa Ae:=by
 unfold HA;rw[show Ar K (.ref C) f=Aa Ae from n]
 rfl
structure Meth (K:Fg) (C:Ak) (m:Ag) (f:Ak):Prop where
 at_:Ar K (.ref C) m=Aa (Aa (.ref f))
 fn:Dq K (.ref f)=Ab
 kp:Bc K (.ref f)=Ab
section
variable{X:Cx}{pI:Pn}{Y:St}{H:Hp}{s:Ap}{a C dx:Ak}{fs:Ac (Ag×V)}{f:Ag}{v:V}{A:AT}{E:Vq}
theorem Ze{b:Am}{Q:Vq}(I:Inv X pI Y H s)(e:H a=Aa (.ins C dx fs))(c:Cls X.K C)(n:GR X.K C f)(l:fs.lookup f=Aa v)(h:∀ u s',Inv X pI Y H s'->Bp v u->Q u s'):Av (model X.prog X.w) A (Jx (.ref a) f b) Q E s:=by
 obtain⟨mA,O,r,_,_,_⟩:=Mz I.hok e;obtain⟨u,hu,ru⟩:=Ht.some_of (v:=v) (o:=mA f) (by rw[<-l];exact r f)
 exact iN I.kIn O (c.get f) c.hd n hu (Rg ru) (h u _ (I.tok _) ru)
theorem Zd{m:Ag}{g:Ak}{Q:Aj×Ac Aj->Ap->Prop}(I:Inv X pI Y H s)(e:H a=Aa (.ins C dx fs))(c:Cls X.K C)(k:Meth X.K C m g)(l:fs.lookup m=Ae)(h:Q (.ref g,[.ref a]) s):Av (model X.prog X.w) A (getMethod (.ref a) m pl) Q E s:=by
 obtain⟨mA,O,r,_,_,_⟩:=Mz I.hok e;have hn:mA m=Ae:=Ht.none_of (by rw[<-l];exact r m)
 exact bD I.kIn O (c.get m) k.at_ k.fn hn h
theorem YT(I:Inv X pI Y H s)(e:H a=Aa (.ins C dx fs))(c:Cls X.K C)(n:GR X.K C f)(hl:fs.length<1000)(ry:Bp y u)(h:∀ s',Inv X pI Y (upd H a (.ins C dx (E7 f y fs))) s'->Q () s'):Av (model X.prog X.w) A (Ka (.ref a) f u) Q E s:=by
 obtain⟨mA,O,r,wi,_,ho⟩:=Mz I.hok e;have hz:(fs.map (·.1)).length<=sizeLine:=by rw[Bi,Cc];omega
 refine dO I.kIn O c.sa c.po n.taker c.hd wi hz λh' O' sb=>h _ ?_
 have hd:∃ o,h'.get? dx=Aa o:=let ⟨o,_,_,e',_⟩:=O'.ns;⟨o,e'⟩
 refine I.write (x:=a) (e:=dx) (by rw[e];exact Fs) (.inr ho) (λb q hb z=>(sb.2 b hb).trans z) hd ?_
 refine⟨by rw[Be O.ne];exact ho,?_,O.ne,O'.obj,_,O'.ns,λg=>?_,λg hg=>?_⟩
 .have:=Qt f y fs;omega
 .show Ht ((E7 f y fs).lookup g) (if g=f then Aa u else mA g)
  rw[Qs];by_cases q:g=f
  .rw[At q,At q];exact ry
  .rw[AA q,AA q];exact r g
 .by_cases q:g=f
  .rw[q];exact(N1 f y fs).1
  .refine(N1 f y fs).2 g (wi g λz=>hg ?_)
   show (if g=f then Aa u else mA g)=Ae
   rw[AA q];exact z
theorem Inv.made(I:Inv X pI Y H s):Inv X pI Y (upd (upd H s.heap.objs.size (.own (s.heap.objs.size+1))) (s.heap.objs.size+1) (.ins C s.heap.objs.size [])) {s with heap:=(s.heap.push Cp).push (Dc C s.heap.objs.size)}:=by
  have e1:(s.heap.push Cp).get? s.heap.objs.size=Aa Cp:=AY s.heap rfl;have e2:((s.heap.push Cp).push (Dc C s.heap.objs.size)).get? (s.heap.objs.size+1)=Aa (Dc C s.heap.objs.size):=by
    have:=AY (s.heap.push Cp) (o:=Dc C s.heap.objs.size) rfl
    rwa [Dm]at this
  have e3:(s.heap.push Cp).Ns s.heap.objs.size (λ_=>Ae):=⟨Cp,#[],_,e1,rfl,(λe he=>absurd he (by simp)),λ_=>rfl⟩
  have I1:=I.laid (a:=s.heap.objs.size) (o:=.own (s.heap.objs.size+1)) (h':=s.heap.push Cp) (t':=s.toks) (λb u q=>Au _ q) (AK _) ⟨_,e1⟩
  refine I1.laid (a:=s.heap.objs.size+1) (o:=.ins C s.heap.objs.size []) (t':=s.toks) (λb u q=>Au _ q) (V8 (Dm _ _)) ?_
  have ne:s.heap.objs.size≠s.heap.objs.size+1:=Bh (FR _);refine⟨by rw[Be ne,DD],DP _,ne,e2,λ_=>Ae,(W8 e3).at λo q=>Au _ q,λ_=>Fs,λy hy=>absurd rfl hy⟩
theorem S0{prog:AL}{w:AV}{env:Cb}{f:Ag}{Q:Vq}(hb:CY e f env (eval e env)=eval e env)(h:Av (model prog w) A (eval e env) (λo s₁=>Av (model prog w) A (Jx o f Ab) Q E s₁) E s):Av (model prog w) A (eval (.Attribute e f pos) env) Q E s:=
 Attribute_any_ h (by rw[arm_eval_Attribute,hb])
end
def tP(K:Fg)(ta tv:TE)(f:Ag):TS:=λD Y H=>tv Y H λy H1=>ta Y H1 λx H2=>∃ a C dx fs,x=.ref a/\H2 a=Aa (.ins C dx fs)/\Cls K C/\GR K C f/\fs.length<1000 /\
 D.nx Y (upd H2 a (.ins C dx (E7 f y fs)))
section
variable{X:Cx}{o e value:An}{f:Ag}{pos pos' tpos:AC}{ta tv:TE}
theorem Tk(ha:PE X o ta)(hv:PE X value tv)(hs:CK value (Aa (.Attribute o f pos')) pos.line X.env=pure Ad):PS X (.Assign [.Attribute o f pos'] value pos) (tP X.K ta tv f):=by
 intro pI s Y H D I h;refine X3 (thn (hv pI s Y H _ I h) λu s1 ⟨y,H1,I1,ry,q⟩=>thn (ha pI s1 Y H1 _ I1 q) λov s2 ⟨x,H2,I2,rx,a,C,dx,fs,ex,ea,c,n,l,q2⟩=>?_) hs
 subst ex;obtain rfl:ov=Bf a:=rx;exact YT I2 ea c n l ry λs3 I3=>⟨Y,_,I3,q2⟩
end
section
variable{X:Cx}{pI:Pn}{Y:St}{H:Hp}{s:Ap}{A:AT}{E:Vq}{Q:Vq}{c:Aj}{b:Am}
inductive TyOf (K:Fg) (H:Hp):V->Aj->Prop where
  |non:TyOf K H .non (.type "NoneType")
  |bl (x:Am):TyOf K H (.bl x) (.type "bool")
  |int (i:Ah):TyOf K H (.int i) (.type "int")
  |str (x:Ag):TyOf K H (.str x) (.type "str")
  |flt (x:UInt64):TyOf K H (.flt x) (.type "float")
  |lst {a:Ak} {xs:Ac V} (e:H a=Aa (.lst xs)):TyOf K H (.ref a) (.type "list")
  |frz {a:Ak} {o:CZ} {xs:Ac V} (e:H a=Aa (.frz o (.lst xs))):TyOf K H (.ref a) (.type "list")
  |tup {a:Ak} {xs:Ac V} (e:H a=Aa (.tup xs)):TyOf K H (.ref a) (.type "tuple")
  |dK {a:Ak} {kvs:Ac (Key×V)} (e:H a=Aa (.dK kvs)):TyOf K H (.ref a) (.type "dict")
  |dT {a:Ak} {kvs:Ac (Ac Key×V)} (e:H a=Aa (.dT kvs)):TyOf K H (.ref a) (.type "dict")
  |ins {a C dx:Ak} {fs:Ac (Ag×V)} (e:H a=Aa (.ins C dx fs)) (cl:Cls K C) (ha:Ar K (.ref C) "__class__" = Aa (Aa (.builtin "object.__class__")))
      (hn:BV K (.builtin "object.__class__") "__get__" = Aa (Aa (.builtin "getset_descriptor.__get__"))) (htk:HB K (.builtin "object.__class__")=Aa Ab)
      (hm:BZ K C (.type "object")=Aa Ab):TyOf K H (.ref a) (.ref C)
theorem Zw{x:V}{t:Aj}(I:Inv X pI Y H s)(rx:Bp x u)(ty:TyOf X.K H x t)(e:BQ X.K t c=Aa b)(h:∀ tk,Q (.bool b) {s with toks:=tk}):
  Av (model X.prog X.w) A (call (.builtin "isinstance") [u,c]) Q E s:=by
 cases ty with
 |non=>cases (show u=Cy from rx);exact B6 PySem.W.kitx_none I.kIn Fs e (λz=>nomatch z) h
 |bl y=>cases (show u=Ie y from rx);exact B6 PySem.W.kitx_bool I.kIn Fs e (λz=>nomatch z) h
 |int i=>obtain⟨t,q⟩:=(show ∃ t,u=IY i t from rx);cases q;exact B6 PySem.W.kitx_int I.kIn Fs e (λz=>nomatch z) h
 |str y=>obtain⟨t,q⟩:=(show ∃ t,u=IZ y t from rx);cases q;exact B6 PySem.W.kitx_str I.kIn Fs e (λz=>nomatch z) h
 |flt y=>obtain⟨t,q⟩:=(show ∃ t,u=JA y t from rx);cases q;exact B6 PySem.W.kitx_float I.kIn Fs e (λz=>nomatch z) h
 | @lst a xs ea=>
  cases (show u=Bf a from rx)
  obtain⟨_,_,n,_,h1⟩:=(show ObjOk X.prog X.w H s.heap a (.lst xs) from I.hok a _ ea)
  exact B6 XN I.kIn ⟨_,h1,rfl⟩ e (λz=>nomatch z) h
 | @frz a ob xs ea=>
  cases (show u=Bf a from rx)
  obtain⟨_,_,_,n,_,h1⟩:=(show ObjOk X.prog X.w H s.heap a (.frz ob (.lst xs)) from I.hok a _ ea)
  exact B6 XN I.kIn ⟨_,h1,rfl⟩ e (λz=>nomatch z) h
 | @tup a xs ea=>
  cases (show u=Bf a from rx)
  obtain⟨_,_,_,p⟩:=(show ObjOk X.prog X.w H s.heap a (.tup xs) from I.hok a _ ea)
  obtain⟨o,h1,h2,_⟩:=p;exact B6 PySem.W.kitx_tuple I.kIn ⟨o,h1,h2⟩ e (λz=>nomatch z) h
 | @dK a kvs ea=>
  cases (show u=Bf a from rx)
  obtain⟨_,_,vs,_,p⟩:=(show ObjOk X.prog X.w H s.heap a (.dK kvs) from I.hok a _ ea)
  obtain⟨o,es,ep,h1,h2,_⟩:=p;exact B6 XM I.kIn ⟨o,h1,h2.1⟩ e (λz=>nomatch z) h
 | @dT a kvs ea=>
  cases (show u=Bf a from rx)
  obtain⟨_,_,xs,_,o,es,ep,h1,h2,_⟩:=(show ObjOk X.prog X.w H s.heap a (.dT kvs) from I.hok a _ ea)
  exact B6 XM I.kIn ⟨o,h1,h2.1⟩ e (λz=>nomatch z) h
 | @ins a C dx fs ea cl ha hn htk hm=>
  cases (show u=Bf a from rx)
  obtain⟨mA,O,_⟩:=Mz I.hok ea;obtain⟨od,J,_⟩:=O.look;exact B6 (PySem.W.kitx_own (cl.get _) cl.hd ha hn htk hm) I.kIn J e (λz=>nomatch z) h
end
structure Room (k:Af) (A:AT):Prop where
 hd:A.handled=Ae
 dp:A.depth+3*k+5<Ib
 un:A.units+16*k+200<Bz
 gd:A.guards=Aa []
theorem Room.mono{j:Af}{A:AT}(r:Room k A)(h:j<=k):Room j A:=⟨r.hd,by have:=r.dp;omega,by have:=r.un;omega,r.gd⟩
theorem Room.deeper{A:AT}(r:Room (k+1) A)(env:Cb):Room k (A.deeper env):=
 ⟨r.hd,by have:=r.dp;show A.depth+1+3*k+5<_;omega,by have:=r.un;show A.units+3+16*k+200<_;omega,r.gd⟩
theorem NT{A:AT}:(A.under (.builtin "type.__call__" ⟨.ref C::us,kw⟩)).depth=A.depth+1:=by
 first|rfl|simp[IU,Code.weight,Code.isCreation,Code.isGuard,Code.isCaller,Ws,IV,guardIds]
theorem NS{A:AT}:(A.under (.builtin "type.__call__" ⟨.ref C::us,kw⟩)).units=A.units+1:=by
 first|rfl|simp[IU,Code.cUnits,Ws,IV]
theorem Room.make{A:AT}(r:Room (k+1) A)(C:Ak)(us:Ac Aj)(kw:Ac (Ag×Aj)):Room k (A.under (.builtin "type.__call__" ⟨.ref C::us,kw⟩)):=
 ⟨r.hd,by have:=r.dp;rw[NT];omega,by have:=r.un;rw[NS];omega,r.gd⟩
theorem Room.depth{A:AT}(r:Room k A):A.depth<Ib:=by have:=r.dp;omega
theorem Room.units{A:AT}(r:Room k A):A.units+64<Bz:=by have:=r.un;omega
def tX:TA:=λ_ H Q=>Q [] H
def pH(ta:TE)(tr:TA):TA:=λY H Q=>ta Y H λx H1=>tr Y H1 λxs H2=>Q (x::xs) H2
section
variable{X:Cx}{e:An}{es:Ac An}{te:TE}{t:TA}{pos:AC}
theorem Fj:PA X [] tX:=λ_ _ _ _ H Q I h=>Calls.spliced_nil ⟨[],H,I,.nil,h⟩
theorem DN(ha:PE X e te)(hr:PA X es t)(hs:As (e::es) X.env=(Ad,eval e X.env)::As es X.env:=by rfl):PA X (e::es) (pH te t):=by
 intro pos pI s Y H Q I h;rw[hs];show Av _ _ (spliced ((Ad,eval e X.env)::Bv pos (As es X.env))) _ _ s;refine Calls.spliced_cons (thn (ha pI s Y H _ I h) λu s1 ⟨x,H1,I1,r1,q1⟩=>?_)
 exact thn (hr pos pI s1 Y H1 _ I1 q1) λus s2 ⟨xs,H2,I2,r2,q2⟩=>⟨x::xs,H2,I2,.cons r1 r2,q2⟩
def tS(t:TA):TE:=λY H Q=>t Y H λxs H1=>xs.length<=sizeLine/\∀ p,H1 p=Ae->Q (.ref p) (upd H1 p (.tup xs))
def tY(t:TA):TE:=λY H Q=>t Y H λxs H1=>xs.length<=sizeLine/\∀ p,H1 p=Ae->Q (.ref p) (upd H1 p (.lst xs))
theorem Tn{x1}(h:PA X es t):PE X (.Tuple es x1 pos) (tS t):=by
 intro pI s Y H Q I hq;refine wpAny_Tuple_spliced (thn (h pos pI s Y H _ I hq) λus s1 ⟨xs,H1,I1,r,z,q⟩=>⟨by rw[<-r.length];exact z,?_⟩)
 have hf:H1 s1.heap.objs.size=Ae:=I1.hok.fresh (AK _);refine⟨.ref s1.heap.objs.size,upd H1 s1.heap.objs.size (.tup xs),I1.laid (t':=s1.toks) (λb u e=>Au _ e) (AK _) ?_,rfl,q _ hf⟩
 exact⟨z,us,r,⟨_,AY _ rfl,rfl,_,rfl⟩⟩
theorem lD(h:PA X es t):PE X (.List es pos) (tY t):=by
 intro pI s Y H Q I hq;refine wpAny_List_spliced (thn (h pos pI s Y H _ I hq) λus s1 ⟨xs,H1,I1,r,z,q⟩=>⟨by rw[<-r.length];exact z,?_⟩)
 have hf:H1 s1.heap.objs.size=Ae:=I1.hok.fresh (AK _);refine⟨.ref s1.heap.objs.size,upd H1 s1.heap.objs.size (.lst xs),I1.laid (t':=s1.toks) (λb u e=>Au _ e) (AK _) ?_,rfl,q _ hf⟩
 exact⟨z,us,0,r,AY _ rfl⟩
end
abbrev Sp:=Ac V->Hp->VK->XK->Prop
variable{sp:Sp}
abbrev CXT:=Ac Cb->Hp->Ap->XK->Aj->Ap->Prop
variable{CX:CXT}
structure Env0 (P:AL) (w:AV) (K:Fg) (mg:Ag->Ao Aj) (base:AF) (A:AT) (outer:Ac Cb) (s:Ap) (H:Hp):Prop where
 frames:A.frames=Aa outer
 mod:Mod K mg base
 bs:∀ b o,base.get? b=Aa o->s.heap.get? b=Aa o/\H b=Ae
 bsz:base.objs.size<=s.heap.objs.size
 funs:s.heap.FunFrames base outer
 frf:∀ b∈frs outer,H b=Ae
 hok:HOk P w H s.heap
 bare:Fo s.gens
noncomputable def CE(outer:Ac Cb)(P:AL)(w:AV)(H:Hp)(s:Ap)(Q:VK)(u:Aj)(s':Ap):Prop:=
 ∃ v H',s'.os=s.os/\Fo s'.gens/\Un (frs outer) [] H H' s.heap s'.heap/\HOk P w H' s'.heap/\Bp v u/\Q v H'
noncomputable def CR(CX:CXT)(outer:Ac Cb)(P:AL)(w:AV)(H:Hp)(s:Ap)(Q:VK)(E:XK)(r:He)(s':Ap):Prop:=
  match r with
  |.ok (.ret u)=>CE outer P w H s Q u s'
  |.ok _=>AW
  |.error e=>CX outer H s E e s'
structure FnOk (P:AL) (w:AV) (K:Fg) (mg:Ag->Ao Aj) (base:AF) (CX:CXT) (k:Af) (f:Ak) (fd:Bx) (ps:Ac Ag) (sp:Sp):Prop where
 len:∀ vs H Q E,sp vs H Q E->vs.length=ps.length
 run:∀(A:AT)(outer:Ac Cb)(s:Ap)(H:Hp)(args:Args)(us:Ac Aj)(vs:Ac V)(Q:VK)(E:XK),Room k A->Env0 P w K mg base A outer s H->Gr s fd args (ps.zip us)->AX vs us->sp vs H Q E ->
  Ez (model P w) A (.call (.ref f) args) (CR CX outer P w H s Q E) s
theorem FnOk.imp{w:AV}{K:Fg}{mg:Ag->Ao Aj}{base:AF}{f:Ak}{sp':Sp}(F:FnOk P w K mg base CX k f fd ps sp)(h:∀ vs H Q E,sp' vs H Q E->sp vs H Q E):FnOk P w K mg base CX k f fd ps sp':=
 ⟨λvs H Q E q=>F.len vs H Q E (h _ _ _ _ q),λA outer s H args us vs Q E hr he hb hv hs=>F.run A outer s H args us vs Q E hr he hb hv (h _ _ _ _ hs)⟩
theorem Env0.make{w:AV}{K:Fg}{mg:Ag->Ao Aj}{base:AF}{A:AT}{outer:Ac Cb}(e:Env0 P w K mg base A outer s H)(C:Ak)(us:Ac Aj)(kw:Ac (Ag×Aj)):
    Env0 P w K mg base (A.under (.builtin "type.__call__" ⟨.ref C::us,kw⟩)) outer s H:=⟨by first|exact e.frames|(simpa [IU,Code.envs,IV,pushEnvs] using e.frames),e.mod,e.bs,e.bsz,e.funs,e.frf,e.hok,e.bare⟩
section
variable{X:Cx}{pI:Pn}{Y:St}{H:Hp}{s s':Ap}
theorem Inv.env0(I:Inv X pI Y H s):Env0 X.prog X.w X.K X.mg X.base X.A X.stack s H:=
 ⟨I.ok.frames,I.ok.mod,I.bs,Bt I.ok.bsz I.sz,I.stack,I.stkFree,I.hok,I.bare⟩
theorem Inv.after{Q:VK}(I:Inv X pI Y H s)(h:CE X.stack X.prog X.w H s Q u s'):EP X pI Y Q u s':=by
 obtain⟨v,H',os,bare,un,hok,r,q⟩:=h;obtain⟨hh,g,d,t,os'⟩:=s';obtain rfl:os'=s.os:=os;exact⟨v,H',I.call (h':=hh) (g':=g) (d':=d) (t':=t) (ch:=[]) un hok bare (λb z=>absurd z (by simp)),r,q⟩
end
def pJ(sp:Sp)(dvs:Ac V)(E:XK)(t:TA):TE:=λY H Q=>t Y H λvs H1=>sp (vs++dvs) H1 Q E
noncomputable def ED(K:Fg)(fd:Bx)(ps:Ac Ag)(ds:Ac Aj):Prop:=
 ∀(s:Ap)(us:Ac Aj),K.In s.heap->(us++ds).length=ps.length->Gr s fd ⟨us,[]⟩ (ps.zip (us++ds))
theorem ED.all{K:Fg}(h:∀ us:Ac Aj,us.length=ps.length->FT fd ⟨us,[]⟩=pure (ps.zip us)):ED K fd ps []:=λs us _ hl=>by
 rw[Cw]at hl ⊢;exact .of_eq (h us hl)
def Iy(CX:CXT)(X:Cx)(E:XK):Prop:=∀(pI:Pn)(Y:St)(H:Hp)(s:Ap)(e:Aj)(s':Ap),Inv X pI Y H s->CX X.stack H s E e s'->X.xe e s'
section
variable{X:Cx}{CX:CXT}{k:Af}{f C:Ak}{fd:Bx}{ps:Ac Ag}{sp:Sp}{dvs:Ac V}{ds:Ac Aj}{E:XK}{x m:Ag}{p pos apos:AC}{e o:An}{es:Ac An}{ta:TE}{t:TA}
theorem Ti{Q:VK}(F:FnOk X.prog X.w X.K X.mg X.base CX k f fd ps sp)(hr:Room k X.A)(hb:ED X.K fd ps ds)(hd:AX dvs ds)(hx:Iy CX X E)(I:Inv X pI Y H s)(r:AX vs us)(h:sp (vs++dvs) H Q E):Av (model X.prog X.w) X.A (call (.ref f) us) (EP X pI Y Q) X.xe s:=by
 have r2:AX (vs++dvs) (us++ds):=r.append hd;have hl:(us++ds).length=ps.length:=by rw[<-r2.length];exact F.len _ _ _ _ h
 refine Fq (EA (F.run X.A X.stack s H ⟨us,[]⟩ (us++ds) (vs++dvs) Q E hr I.env0 (hb s us I.kIn hl) r2 h) λr s' hq=>?_)
 cases r with
 |error e=>exact hx pI Y H s e s' I hq
 |ok fl=>
  cases fl with
  |ret u=>exact I.after hq
  |next=>exact A3 hq
  |brk=>exact A3 hq
  |cont=>exact A3 hq
theorem SD(F:FnOk X.prog X.w X.K X.mg X.base CX k f fd ps sp)(hr:Room k X.A)(hg:Gl X x)(hm:X.mg x=Aa (.ref f))(hk:Bc X.K (.ref f)=Ab)(hb:ED X.K fd ps ds)(hd:AX dvs ds)(hx:Iy CX X E)(ha:PA X (e::es) t)(hdb:(x==("__debug__" : Ag))=Ad:=by decide)(he:As (e::es) X.env=(Ad,eval e X.env)::As es X.env:=by rfl)(hpl:(Bv pos (As es X.env)).any (·.1)=Ad:=by rfl):PE X (.Call (.Name x p) (e::es) [] pos) (pJ sp dvs E t):=by
 intro pI s Y H Q I h;refine Db (HL I hg hm ?_ hdb);refine Eh (h₀:=X.base) I.ok.mod.kin hk (thn (ha pos pI s Y H _ I h) λus s1 ⟨vs,H1,I1,r,q⟩=>⟨I1.kIn,?_⟩) he hpl
 exact Ti F hr hb hd hx I1 r q
structure Mk (K:Fg) (C f:Ak):Prop where
 makes:Hz K C=Ab
 init:Ar K (.ref C) "__init__" = Aa (Aa (.ref f))
 fn:Dq K (.ref f)=Ab
 kp:Bc K (.ref C)=Ab
theorem ZL{Q:VK}(M:Mk X.K C f)(F:FnOk X.prog X.w X.K X.mg X.base CX k f fd ps sp)(hr:Room (k+1) X.A)(hb:ED X.K fd ps ds)(hd:AX dvs ds)(hx:Iy CX X E)(I:Inv X pI Y H s)(r:AX vs us)(h:∀ x dx,H x=Ae->H dx=Ae->dx≠x->sp (.ref x::(vs++dvs)) (upd (upd H dx (.own x)) x (.ins C dx [])) (λv H2=>v=.non/\Q (.ref x) H2) E):Av (model X.prog X.w) X.A (call (.ref C) us) (EP X pI Y Q) X.xe s:=by
 have hq:=h (s.heap.objs.size+1) s.heap.objs.size (I.hok.fresh (Jz _)) (I.hok.fresh (AK _)) (Bh (FR _));have I2:=Inv.made (C:=C) I;have r2:AX (V.ref (s.heap.objs.size+1)::(vs++dvs)) (Bf (s.heap.objs.size+1)::(us++ds)):=.cons rfl (r.append hd);have hl:(Bf (s.heap.objs.size+1)::us++ds).length=ps.length:=by
  have e:=r2.length;rw[F.len _ _ _ _ hq]at e;exact e.symm
 refine Fq (aQ (f:=f) I.kIn M.makes M.init (AG.mp M.fn) (EA (F.run _ X.stack _ _ ⟨Bf (s.heap.objs.size+1)::us,[]⟩ (Bf (s.heap.objs.size+1)::(us++ds)) _ _ E (hr.make C us [])
  (I2.env0.make C us []) (hb _ (Bf (s.heap.objs.size+1)::us) I2.kIn hl) r2 hq) λr s' hq'=>?_))
 cases r with
 |error e=>exact hx pI Y _ _ e s' I2 hq'
 |ok fl=>
  cases fl with
  |ret u=>
   obtain⟨v,H',I3,rv,ev,q3⟩:=I2.after hq';subst ev;exact⟨rv,⟨V.ref (s.heap.objs.size+1),H',I3,rfl,q3⟩⟩
  |next=>exact A3 hq'
  |brk=>exact A3 hq'
  |cont=>exact A3 hq'
end
section
variable{X:Cx}{CX:CXT}{k:Af}{f C:Ak}{fd:Bx}{ps ks:Ac Ag}{sp:Sp}{E:XK}{x m:Ag}{p pos apos kpos:AC}{e o:An}{es:Ac An}{kws:Ac DS}{te ta:TE}{t tk:TA}{nm:Ao Ag}
variable{g:Ac Aj->Ac Aj->Ac Aj}{gV:Ac V->Ac V->Ac V}
end
structure FnScope (N P:Ac Ag) (sc:BG):Prop where
 kind:sc.kind=.function
 co:sc.isCoroutine=Ad
 gen:sc.isGenerator=Ad
 nd:N.Nodup
 pre:N.take P.length=P
 par:∀ x∈P,sc.names.lookup x=Aa .local\/sc.names.lookup x=Aa .cell
 nofree:∀ y∈sc.names,y.2≠.free
theorem QS{kindOf:Ag->Ao D1}{x:Ag}:∀{binds:Ac (Ag×Aj)}{m:Ag->Ao Aj},(∀ v,(x,v)∉binds)->Ih kindOf binds m x=m x
 |[],_,_=>rfl
 |(n,v)::r,m,h=>by
  unfold Ih;rw[QS λw hw=>h w (Aw _ hw)]
  split
  .have:x≠n:=by rintro rfl;exact h v AE
   simp[this]
  .rfl
theorem QU{kindOf:Ag->Ao D1}{x:Ag}:∀{binds:Ac (Ag×Aj)}{m:Ag->Ao Aj},(∀ v,(x,v)∉binds)->Ig kindOf binds m x=m x
 |[],_,_=>rfl
 |(n,v)::r,m,h=>by
  unfold Ig;rw[QU λw hw=>h w (Aw _ hw)]
  split
  .rfl
  .have:x≠n:=by rintro rfl;exact h v AE
   simp[this]
theorem QT{kindOf:Ag->Ao D1}{x:Ag}{v:Aj}:∀{P:Ac Ag}{vs:Ac Aj}{i:Af}{m:Ag->Ao Aj},P.Nodup->P[i]?=Aa x->vs[i]?=Aa v->kindOf x=Aa .local->Ih kindOf (P.zip vs) m x=Aa v
 |[],_,_,_,_,h,_,_=>by simp at h
 |_::_,[],_,_,_,_,h,_=>by simp at h
 |p::P,w::vs,0,m,nd,h1,h2,hk=>by
  simp at h1 h2;subst h1;subst h2;show Ih kindOf ((p,w)::P.zip vs) m p=_;unfold Ih;rw[QS λv hv=>(F7.mp nd).1 (Hw hv).1,At hk]
  simp
 |p::P,w::vs,i+1,m,nd,h1,h2,hk=>by
  show Ih kindOf ((p,w)::P.zip vs) m x=_;unfold Ih;exact QT (i:=i) (F7.mp nd).2 (by simpa using h1) (by simpa using h2) hk
theorem QV{kindOf:Ag->Ao D1}{x:Ag}{v:Aj}:∀{P:Ac Ag}{vs:Ac Aj}{i:Af}{m:Ag->Ao Aj},P.Nodup->P[i]?=Aa x->vs[i]?=Aa v->kindOf x≠Aa .local->Ig kindOf (P.zip vs) m x=Aa v
 |[],_,_,_,_,h,_,_=>by simp at h
 |_::_,[],_,_,_,_,h,_=>by simp at h
 |p::P,w::vs,0,m,nd,h1,h2,hk=>by
  simp at h1 h2;subst h1;subst h2;show Ig kindOf ((p,w)::P.zip vs) m p=_;unfold Ig;rw[QU λv hv=>(F7.mp nd).1 (Hw hv).1,AA hk]
  simp
 |p::P,w::vs,i+1,m,nd,h1,h2,hk=>by
  show Ig kindOf ((p,w)::P.zip vs) m x=_;unfold Ig;exact QV (i:=i) (F7.mp nd).2 (by simpa using h1) (by simpa using h2) hk
noncomputable def start(N:Ac Ag)(vs:Ac V):St:=vs.map Aa++Gq (N.length-vs.length) Ae
noncomputable def E8(CX:CXT)(P:AL)(w:AV)(K:Fg)(mg:Ag->Ao Aj)(base:AF)(N:Ac Ag)(qual:Ag)(scope:BG)(f:Ak)(cd:Aj)(A:AT)(outer:Ac Cb)(s:Ap)(H:Hp)(E:XK):Cx where
 prog:=P
 w:=w
 K:=K
 mg:=mg
 base:=base
 A:=A.deeper (Ee qual scope s.heap.objs.size f cd)
 N:=N
 s₀:=s
 H₀:=H
 env:=Ee qual scope s.heap.objs.size f cd
 outer:=outer
 stack:=Ee qual scope s.heap.objs.size f cd::outer
 ex:=[]
 calm:=Ab
 fn:=λ_=>Ab
 pn:=[]
 xe:=λe s'=>Av (model P w) (A.deeper (Ee qual scope s.heap.objs.size f cd)) (leaving (Ee qual scope s.heap.objs.size f cd) e) (λ_ s''=>CX outer H s E e s'') (λe' s''=>CX outer H s E e' s'') s'
theorem RC{sc:BG}(h:sc.names.lookup x=Aa .cell):∃ c,(CJ n sc.names []).lookup x=Aa c:=by
 have q:=XD sc.names n [] (.inl h);exact Ci.mp q
theorem Q9{w:AV}{K:Fg}{mg:Ag->Ao Aj}{base:AF}{N ps:Ac Ag}{f:Ak}{cd:Aj}{A:AT}{outer:Ac Cb}{s1:Ap}{E:XK}(S:FnScope N ps scope)(hd:A.handled=Ae)(e0:Env0 P w K mg base A outer s H)(hl:vs.length=ps.length)(r:AX vs us)(x:InCallC s s.heap.objs.size (Ih (Ee qual scope s.heap.objs.size f cd).kindOf (ps.zip us) λ_=>Ae) (CJ (s.heap.objs.size+1) scope.names []) (Ig (Ee qual scope s.heap.objs.size f cd).kindOf (ps.zip us) λ_=>Ae) s1):Inv (E8 CX P w K mg base N qual scope f cd A outer s H E) [] (start N vs) H s1:=by
 have hpl:ps.length<=N.length:=by have:=congrArg VZ S.pre;rw[FQ]at this;omega
 obtain⟨h1,tk,rfl,hk⟩:=x.done;have noA:∀ b:Ak,b∉(E8 CX P w K mg base N qual scope f cd A outer s H E).ex:=λb z=>absurd (show b∈([]:Ac Ak) from z) (by simp)
 refine⟨⟨e0.mod,S.kind,rfl,rfl,AK _,λy z c h1 h2=>?_,λy hy=>?_,λy c _ h=>?_,λ_=>hd,Around.frames_deeper e0.frames,.inr ⟨rfl,rfl⟩,λb z=>absurd z (noA b),e0.bs,e0.bsz,λb _ _=>noA b,λb z=>absurd z (noA b),e0.funs,e0.frf⟩,
  rfl,e0.bare,Un.kept hk,⟨_,x.toInCall.ns,λi y v h1 h2 h3=>?_⟩,λy c h=>⟨_,x.cell y c h⟩,e0.hok.fresh (AK _),λy c h=>?_,λp hp=>absurd (show p∈([]:Pn) from hp) (by simp),e0.hok.kept hk,?_⟩
 .exact name_of_addr x.apart (Cu h1) (Cu h2)
 .have hy:scope.names.lookup y=Aa .cell\/scope.names.lookup y=Aa .free:=hy;rcases hy with hy|hy
  .exact RC hy
  .exact absurd rfl (S.nofree _ (Cu hy))
 .exact F8 (x.above y c (Cu h))
 .have hi:i<vs.length:=by
   unfold start at h2;by_cases hi:i<vs.length
   .exact hi
   .rw[VW (by simpa using hi)]at h2
    rw[VY]at h2;split at h2<;>cases h2
  have ha:vs[i]?=Aa v:=by
   unfold start at h2;rw[Fa (by simpa using hi),Ch]at h2
   cases e:vs[i]? with
   |none=>rw[e]at h2;cases h2
   |some a=>rw[e]at h2;cases h2;rfl
  obtain⟨u,hu,rv⟩:=r.get ha;have hp:ps[i]?=Aa y:=by
   rw[<-S.pre,List.getElem?_take_of_lt (by omega)];exact h1
  have ndP:ps.Nodup:=by rw[<-S.pre];exact S.nd.sublist (List.take_sublist _ _)
  refine⟨u,rv,?_⟩;rcases S.par y (V4 hp) with k|k
  .exact .inl ⟨k,QT ndP hp hu k⟩
  .obtain⟨c,e⟩:=RC (n:=s.heap.objs.size+1) k;refine .inr ⟨.inl k,c,e,?_⟩;have q:=x.cell y c e;rw[QV ndP hp hu (by show scope.names.lookup y≠_;rw[k];decide)]at q
   exact q
 .exact e0.hok.fresh (F8 (x.above y c (Cu h)))
 .unfold start;show _=N.length;rw[BN,Bi,V0];omega
theorem PM{w:AV}{K:Fg}{mg:Ag->Ao Aj}{base:AF}{f:Ak}{name:Ag}{params:Arguments}{dV kV doc pm cdv ct oc:Aj}{an od:Ao Ak}{osl:Ba (Ao Aj)}{N ps:Ac Ag}(lk:K.lookup f=Aa ⟨oc,od,.func (BR name qual params body scope dV kV doc pm an cdv ct),osl⟩)(hcd:DT K cdv qual=Ab)(S:FnScope N ps scope)(len:∀ vs H Q E,sp vs H Q E->vs.length=ps.length)(hbody:∀(A:AT)(outer:Ac Cb)(s:Ap)(H:Hp)(vs:Ac V)(Q:VK)(E:XK),Room k (A.deeper (Ee qual scope s.heap.objs.size f cdv))->sp vs H Q E ->
   ∃ t,PSs (E8 CX P w K mg base N qual scope f cdv A outer s H E) body t/\t {nx:=λ_ H'=>Q .non H',rt:=Q} (start N vs) H):FnOk P w K mg base CX (k+1) f (BR name qual params body scope dV kV doc pm an cdv ct) ps sp:=by
 refine⟨len,λA outer s H args us vs Q E hr e0 hb r hsp=>?_⟩
 have hl:=len _ _ _ _ hsp;have KX:K.In s.heap:=e0.mod.kin.keeps λb o e=>(e0.bs b o e).1
 have lim:s.heap.NoLimit:=e0.mod.nolimit.keeps λb o e=>(e0.bs b o e).1
 have hkind:∀ y∈ps.zip us,scope.names.lookup y.1=Aa .local\/(scope.names.lookup y.1=Aa .cell/\((CJ (s.heap.objs.size+1) scope.names []).lookup y.1).isSome=Ab):=λ⟨n,v⟩ hy=>by
  rcases S.par n (Hw hy).1 with q|q
  .exact .inl q
  .exact .inr ⟨q,XD _ _ _ (.inl q)⟩
 refine XX hr.depth (KX _ _ lk) rfl S.co S.gen rfl (XF KX hcd) (hb _ _ _ _ ?_);refine Yb S.kind hkind λenv he s1 x=>?_
 subst he;refine⟨lim.keeps x.toInCall.keep,codeAny_func ?_⟩;obtain⟨t,ht,hq⟩:=hbody A outer s H vs Q E (hr.deeper _) hsp;have I:Inv (E8 CX P w K mg base N qual scope f cdv A outer s H E) [] (start N vs) H s1:=Q9 S hr.hd e0 hl r x;refine A4 (ht [] s1 (start N vs) H _ I hq) (λfl s' hs=>?_) λe s' hs=>hs
 have fin:∀{Y':St}{H':Hp}{v:V}{u:Aj},Inv (E8 CX P w K mg base N qual scope f cdv A outer s H E) [] Y' H' s'->Bp v u->Q v H'->CE outer P w H s Q u s':=
  λ{Y' H' v u} J rv q=>⟨v,H',J.os,J.bare,J.base,J.hok,rv,q⟩
 cases fl with
 |ret u=>
  obtain⟨v,Y',H',J,rv,q⟩:=hs;exact fin J rv q
 |next=>
  obtain⟨Y',H',J,q⟩:=hs;exact fin (v:=V.non) (u:=Cy) J rfl q
 |brk=>
  obtain⟨_,_,_,q⟩:=hs;exact A3 q
 |cont=>
  obtain⟨_,_,_,q⟩:=hs;exact A3 q
section
variable{X:Cx}{x:Ag}{p pos:AC}{e:An}{es:Ac An}{t:TA}{id T:CQ}{r:Ac V->Hp->VK->Prop}
def tCB(r:Ac V->Hp->VK->Prop)(t:TA):TE:=λY H Q=>t Y H λvs H1=>r vs H1 Q
theorem Kd(hc:Hm X (.builtin id) r)(hg:Gl X x)(hm:X.mg x=Ae)(hv:CP x=Aa (.builtin id))(ha:PA X (e::es) t)(hn:x≠"__name__" := by decide)(hdb:(x==("__debug__" : Ag))=Ad:=by decide)(he:As (e::es) X.env=(Ad,eval e X.env)::As es X.env:=by rfl)(hpl:(Bv pos (As es X.env)).any (·.1)=Ad:=by rfl):PE X (.Call (.Name x p) (e::es) [] pos) (tCB r t):=by
 intro pI s Y H Q I h;refine Db (Kt I hg hm hv ?_ hn hdb);exact PyProof.Rows.callWith_builtin1 (thn (ha pos pI s Y H _ I h) λus s1 ⟨vs,H1,I1,r1,q1⟩=>hc pI s1 Y H1 vs us Q I1 r1 q1) he hpl
theorem Q5(hc:Hm X (.type T) r)(hg:Gl X x)(hm:X.mg x=Ae)(hv:CP x=Aa (.type T))(ha:PA X (e::es) t)(hn:x≠"__name__" := by decide)(hdb:(x==("__debug__" : Ag))=Ad:=by decide)(he:As (e::es) X.env=(Ad,eval e X.env)::As es X.env:=by rfl)(hpl:(Bv pos (As es X.env)).any (·.1)=Ad:=by rfl):PE X (.Call (.Name x p) (e::es) [] pos) (tCB r t):=by
 intro pI s Y H Q I h;refine Db (Kt I hg hm hv ?_ hn hdb);exact Dp (thn (ha pos pI s Y H _ I h) λus s1 ⟨vs,H1,I1,r1,q1⟩=>hc pI s1 Y H1 vs us Q I1 r1 q1) he hpl
end
end L2
namespace HT
open PySem PyProof.Rows
variable{sl:Ak}
section
open PySem.SeqAt
open PySem.AutoSeq1 (wpAny_loadPart')
open PySem.MeetsSeq PySem.MeetsSeq2 PySem.MeetsSeq3
end
section
variable{prog:AL}{w:AV}{A:AT}{E:Vq}{s:Ap}
theorem cat_tup{t b:Ak}{vs ws:Ac Aj}{Q:Vq}(ht:JZ s.heap t vs.toArray)(hb:JZ s.heap b ws.toArray)(hv:vs≠[])(h1:ws=[]->Q (.ref t) s)(h2:ws≠[]->Q (.ref s.heap.objs.size) { s with heap:=s.heap.push { cls:=.type "tuple",data:=.seq (vs++ws).toArray } })(hsz:vs.length+ws.length<=sizeLine):Av (model prog w) A (BY .Add (.ref t) (.ref b)) Q E s:=by
 obtain⟨⟨cls,dd,data,sl⟩,ho,hc,n,hd⟩:=id ht;obtain⟨⟨cls2,dd2,data2,sl2⟩,ho2,hc2,n2,hd2⟩:=id hb;simp only at hc hd hc2 hd2;subst hc hd hc2 hd2;have e:vs.toArray++ws.toArray=(vs++ws).toArray:=by simp
 by_cases hw:ws=[]
 .exact Jc ⟨_,ho,rfl⟩ ⟨_,ho2,rfl⟩ X1 seq_tuple_add W5 WY (WV _ _)
   (tuple_addW1 t b vs.toArray ws.toArray n n2 dd dd2 sl sl2 (by simpa using hv) (by simp[hw])) ⟨ho,ho2,h1 hw⟩
 .refine Jc ⟨_,ho,rfl⟩ ⟨_,ho2,rfl⟩ X1 seq_tuple_add W5 WY (WV _ _)
   (tuple_addW2 t b vs.toArray ws.toArray n n2 dd dd2 sl sl2 (by simpa using hv) (by simpa using hw) (by rw[AM,AM];exact hsz)) ⟨ho,ho2,?_⟩
  rw[e];exact h2 hw
noncomputable def sIx(n d:Af):Ao Ah->Af
 |none=>d
 |some v=>if v<0 then (v+(n:Ah)).toNat else min v.toNat n
theorem lV(n d:Af)(hd:d<=n)(o:Ao Ah):sIx n d o<=n:=by
 cases o with
 |none=>exact hd
 |some v=>
  show (if v<0 then (v+(n:Ah)).toNat else min v.toNat n)<=n
  by_cases hv:v<0
  .rw[At hv];omega
  .rw[AA hv];exact Nat.min_le_right _ _
theorem SX(v:Ah)(n d:Af):(if v<0 then max (v+(n:Ah)) 0 else min v (n:Ah))=((sIx n d (Aa v):Af):Ah):=by
 show (if v<0 then max (v+(n:Ah)) 0 else min v (n:Ah))=(((if v<0 then (v+(n:Ah)).toNat else min v.toNat n):Af):Ah)
 by_cases hv:v<0
 .simp only[At hv];omega
 .simp only[AA hv];omega
theorem Zm(lo hi:Ao Ah)(n:Af):Fc lo hi 1 (n:Ah)=(((sIx n 0 lo:Af):Ah),((sIx n n hi:Af):Ah)):=by
 have h1:¬ ((1:Ah)<0):=by omega
 unfold Fc;simp only[h1,LZ];refine KW ?_ ?_
 .cases lo with
  |none=>rfl
  |some v=>exact SX v n 0
 .cases hi with
  |none=>rfl
  |some v=>exact SX v n n
theorem Y_7(i j:Af):DI (i:Ah) (j:Ah) 1=j-i:=by
 unfold DI;have h1:(1:Ah)>0:=by omega
 simp only[h1,EF,Int.ediv_one];split<;>omega
theorem QE{v:Aj}{o:Ao Ah}{Q:Ao Ah->Ap->Prop}(p:GI v o)(h:Q o s):Av (model prog w) A (Builtin.Slice.slicePartIndex v) Q E s:=by
 cases p with
 |none=>exact Wj h
 |int i t=>exact slicePart_int h
theorem YF{vl vu:Aj}{lo hi:Ao Ah}{n:Af}{Q:Ah×Ah×Af->Ap->Prop}(hs:s.heap.IsSliceOf sl vl vu .none)(pl:GI vl lo)(pu:GI vu hi)(h:Q (((sIx n 0 lo:Af):Ah),1,sIx n n hi-sIx n 0 lo) s):Av (model prog w) A (Wo (.ref sl) (pure (n:Ah))) Q E s:=by
 obtain⟨os,hos,hcs,hds⟩:=id hs;unfold Wo Builtin.Slice.sliceFields;refine Aq (Aq (Ck hos hds (x:=vl) rfl (Aq (Ck hos hds (x:=vu) rfl (Aq (Ck hos hds (x:=.none) rfl (AS ?_)))))));refine Aq (Wj ?_);show Av _ _ (if ((1:Ah)==0)=Ab then _ else _) _ _ s
 rw[AA (by decide)]
 refine Aq (QE pl (Aq (QE pu (Aq (AS ?_)))));show Av _ _ (match Fc lo hi 1 (n:Ah) with|(lo,hi)=>pure (lo,(1:Ah),DI lo hi 1)) _ _ s
 rw[Zm lo hi n];show Av _ _ (pure (((sIx n 0 lo:Af):Ah),(1:Ah),DI ((sIx n 0 lo:Af):Ah) ((sIx n n hi:Af):Ah) 1)) _ _ s;rw[Y_7];exact AS h
theorem bK(xs:Ba Aj)(i k:Af):((A5 k).filterMap fun(m:Af)=>xs[((i:Ah)+(m:Ah)*1).toNat]?).toArray=((xs.toList.drop i).take k).toArray:=by
 have e:(fun(m:Af)=>xs[((i:Ah)+(m:Ah)*1).toNat]?)=λm=>xs[i+m]?:=by
  funext m
  have:((i:Ah)+(m:Ah)*1).toNat=i+m:=by omega
  rw[this]
 rw[e];have:=pick_run xs i k;rw[List.filterMap_map]at this;have e2:((λx=>xs[x]?) ∘ λx=>i+x)=λm=>xs[i+m]?:=rfl
 rw[e2]at this;rw[this]
theorem getItem_tuple_cut{t:Ak}{items:Ba Aj}{vl vu:Aj}{lo hi:Ao Ah}{Q:Vq}(ht:JZ s.heap t items)(hs:s.heap.IsSliceOf sl vl vu .none)(pl:GI vl lo)(pu:GI vu hi)(hw:¬ (sIx items.size 0 lo=0/\sIx items.size items.size hi=items.size))(h:Q (.ref s.heap.objs.size) { s with heap:=s.heap.push { cls:=.type "tuple",data:=.seq ((items.toList.drop (sIx items.size 0 lo)).take (sIx items.size items.size hi-sIx items.size 0 lo)).toArray } })(hsz:items.size<=sizeLine):Av (model prog w) A (Jy (.ref t) (.ref sl)) Q E s:=by
 have htake:sizeOk (.seq ((items.toList.drop (sIx items.size 0 lo)).take (sIx items.size items.size hi-sIx items.size 0 lo)).toArray):=by
  show ((items.toList.drop (sIx items.size 0 lo)).take (sIx items.size items.size hi-sIx items.size 0 lo)).toArray.size<=sizeLine;rw[AM,FQ,G8,EX];omega
 have hj:sIx items.size items.size hi<=items.size:=lV _ _ (AK _) hi;obtain⟨os,hos,hcs,hds⟩:=id hs;have hTs:s.TypeIs (.ref sl) "slice" := ⟨os,hos,hcs⟩;unfold Jy
 try with_reducible refine EV ?_
 first|refine Aq (AS ?_)|skip
 refine Aq (wpAny_sequenceKey ht.typeIs (by decide) ?_)
 refine Aq (Fv (name:=Ai "__getitem__") ht.typeIs Wk
  (Hg Wk ht.typeIs entry_tuple_getitem ?_ (args_tuple_getitem _ _)))
 show Av _ _ (Builtin.Tuple.tupleItemsOf (.ref t) >>= _) _ _ s;refine Aq (tupleItemsOf_ ht ?_);refine Aq (wpAny_typeOf hTs ?_);rw[At (by decide)]
 refine Aq (YF hs pl pu ?_);have hno:¬ ((((sIx items.size 0 lo:Af):Ah)==0&&(1:Ah)==1&&(sIx items.size items.size hi-sIx items.size 0 lo)==items.size)=Ab):=by
  intro q;rw[Al,Al]at q;have q1:((sIx items.size 0 lo:Af):Ah)=0:=eq_of_beq q.1.1;have q2:sIx items.size items.size hi-sIx items.size 0 lo=items.size:=eq_of_beq q.2;exact hw ⟨by omega,by omega⟩
 show Av _ _ (if (((sIx items.size 0 lo:Af):Ah)==0&&(1:Ah)==1&&(sIx items.size items.size hi-sIx items.size 0 lo)==items.size)=Ab then _ else _) _ _ s
 rw[AA hno,bK]
 first
  |exact Aq (m:=D0 _) (CG (AS ⟨_,rfl,AS h⟩) htake)
  |exact Aq (m:=D0 _) (CG (Aq (AS (AS ⟨_,rfl,AS h⟩))) htake)
  |exact Aq (Aq (m:=D0 _) (CG (AS (AS ⟨_,rfl,AS h⟩)) htake))
  |exact Aq (Aq (m:=D0 _) (CG (AS ⟨_,rfl,AS h⟩) htake))
end
end HT
namespace L2
open PySem PySem.Spec PyProof.Rows
variable{r:V->Ao Ah->Ao Ah->Hp->VK->Prop}{xs:Ac V}{us its:Ac Aj}{n t':Af}{i:Ah}
abbrev TO:=St->Hp->(Ao Ah->Hp->Prop)->Prop
noncomputable def PO(X:Cx)(e:Ao An)(t:TO):Prop:=
 ∀(pI:Pn)(s:Ap)(Y:St)(H:Hp)(Q:Ao Ah->Hp->Prop),Inv X pI Y H s->t Y H Q ->
  Av (model X.prog X.w) X.A (evalPart e X.env) (λu s'=>∃ o H',Inv X pI Y H' s'/\GI u o/\Q o H') X.xe s
def cW:TO:=λ_ H Q=>Q Ae H
def pE(t:TE):TO:=λY H Q=>t Y H λx H1=>∃ i,x=.int i/\Q (Aa i) H1
section
variable{X:Cx}{e:An}{te:TE}{lo hi:Ao An}{tl th:TO}{pos p2:AC}
theorem gE:PO X Ae cW:=by
 intro pI s Y H Q I h;rw[evalPart_none];exact AS ⟨Ae,H,I,.none,h⟩
theorem gB(h:PE X e te):PO X (Aa e) (pE te):=by
 intro pI s Y H Q I hw;rw[evalPart_some];refine thn (h pI s Y H _ I hw) λu s1 ⟨x,H1,I1,r1,q1⟩=>?_
 obtain⟨i,rfl,q⟩:=q1;obtain⟨t,rfl⟩:=r1;exact⟨Aa i,H1,I1,.int i t,q⟩
noncomputable def SlR(X:Cx)(r:V->Ao Ah->Ao Ah->Hp->VK->Prop):Prop:=
 ∀(pI:Pn)(s:Ap)(Y:St)(H:Hp)(x:V)(v vl vu:Aj)(lo hi:Ao Ah)(sl:Ak)(Q:VK),Inv X pI Y H s->Bp x v->s.heap.IsSliceOf sl vl vu .none->GI vl lo->GI vu hi->r x lo hi H Q ->
  ∃ T id,typeLookup (.type T) "__getitem__" = pure (Aa (.builtin id))/\s.TypeIs v T/\Av (model X.prog X.w) X.A (Jy v (.ref sl)) (EP X pI Y Q) X.xe s
theorem SlR.or{r':V->Ao Ah->Ao Ah->Hp->VK->Prop}(h:SlR X r)(h':SlR X r'):SlR X (λx lo hi H Q=>r x lo hi H Q\/r' x lo hi H Q):=by
 intro pI s Y H x v vl vu lo hi sl Q I rx hs pl pu q;rcases q with q|q
 .exact h pI s Y H x v vl vu lo hi sl Q I rx hs pl pu q
 .exact h' pI s Y H x v vl vu lo hi sl Q I rx hs pl pu q
def tSl(r:V->Ao Ah->Ao Ah->Hp->VK->Prop)(te:TE)(tl th:TO):TE:=λY H Q=>te Y H λx H1=>tl Y H1 λl H2=>th Y H2 λu H3=>r x l u H3 Q
theorem bL(hr:SlR X r)(he:PE X e te)(hl:PO X lo tl)(hu:PO X hi th):PE X (.Subscript e (.Slice lo hi Ae p2) pos) (tSl r te tl th):=by
 intro pI s Y H Q I h;refine Subscript_ (thn (he pI s Y H _ I h) λv s1 ⟨x,H1,I1,r1,q1⟩=>?_)
 refine wpAny_Slice (thn (hl pI s1 Y H1 _ I1 q1) λvl s2 ⟨l,H2,I2,pl,q2⟩=>thn (hu pI s2 Y H2 _ I2 q2) λvu s3 ⟨u,H3,I3,pu,q3⟩=>?_)
 rw[evalPart_none];refine AS ?_;have I4:Inv X pI Y H3 { s3 with heap:=s3.heap.push { cls:=.type "slice",data:=.fields #[vl,vu,.none] } }:=I3.kept (t':=s3.toks) λb ob q=>Au _ q
 obtain⟨T,id,hT,ht,hg⟩:=hr pI { s3 with heap:=s3.heap.push { cls:=.type "slice",data:=.fields #[vl,vu,.none] } } Y H3 x v vl vu l u s3.heap.objs.size Q I4 r1 (Heap.IsSliceOf.new ..) pl pu q3
 show Av (model X.prog X.w) X.A (subscriptTail e (.Slice lo hi Ae p2) v (.ref s3.heap.objs.size)) (EP X pI Y Q) X.xe { s3 with heap:=s3.heap.push { cls:=.type "slice",data:=.fields #[vl,vu,.none] } }
 exact tail_any (ops:=[.ref s3.heap.objs.size,v]) ht hT hg (by with_unfolding_all rfl)
noncomputable def Jt(xs:Ac V)(lo hi:Ao Ah):Ac V:=(xs.drop (HT.sIx xs.length 0 lo)).take (HT.sIx xs.length xs.length hi-HT.sIx xs.length 0 lo)
theorem Qv(xs:Ac V)(lo hi:Ao Ah):(Jt xs lo hi).length<=xs.length:=by
 unfold Jt;rw[FQ,G8];omega
def U_6(K:Fg):V->Ao Ah->Ao Ah->Hp->VK->Prop:=λx lo hi H Q=>∃ a xs,x=.ref a/\SqT K H a xs /\
 ¬ (HT.sIx xs.length 0 lo=0/\HT.sIx xs.length xs.length hi=xs.length)/\∀ p,H p=Ae->Q (.ref p) (upd H p (.tup (Jt xs lo hi)))
theorem jX:SlR X (U_6 X.K):=by
 intro pI s Y H x v vl vu lo hi sl Q I rx hs pl pu h;obtain⟨a,xs,rfl,hx,hw,q⟩:=h;cases rx;obtain⟨its,r,ht,hz⟩:=I.tuple hx;have hlen:its.toArray.size=xs.length:=by rw[AM];exact r.length.symm
 refine⟨"tuple",_,PyProof.Rows.slot_tuple_getitem.lookup,ht.typeIs,?_⟩;refine HT.getItem_tuple_cut ht hs pl pu (by rw[hlen];exact hw) ?_ (by rw[hlen];exact hz)
 rw[hlen];refine⟨.ref s.heap.objs.size,_,I.laid (t':=s.toks) (o:=.tup (Jt xs lo hi)) (λb ob q=>Au _ q) (AK _) ?_,rfl,q _ (I.hok.fresh (AK _))⟩
 exact⟨Bt (Qv xs lo hi) hz,_,(r.drop (HT.sIx xs.length 0 lo)).take (HT.sIx xs.length xs.length hi-HT.sIx xs.length 0 lo),KR _ _⟩
def rY(K:Fg):R2:=λx y H Q=>∃ a b xs ys,x=.ref a/\y=.ref b/\SqT K H a xs/\SqT K H b ys/\xs≠[]/\xs.length+ys.length<=sizeLine /\
 (ys=[]->Q (.ref a) H)/\(ys≠[]->∀ p,H p=Ae->Q (.ref p) (upd H p (.tup (xs++ys))))
theorem AX.nil_iff(r:AX xs us):us=[]↔xs=[]:=by
 cases r with
 |nil=>simp
 |cons _ _=>simp
theorem fA:OpR X (BY .Add) (rY X.K):=by
 intro pI s Y H x y v u Q I rx ry h;obtain⟨a,b,xs,ys,rfl,rfl,ha,hb,hx,hz,q1,q2⟩:=h;cases rx;cases ry;obtain⟨its,r1,p1,_⟩:=I.tuple ha;obtain⟨its2,r2,p2,_⟩:=I.tuple hb;refine HT.cat_tup p1 p2 (λz=>hx (r1.nil_iff.mp z)) (λz=>⟨.ref a,H,I,rfl,q1 (r2.nil_iff.mp z)⟩) (λz=>?_) (by rw[<-r1.length,<-r2.length];exact hz)
 refine⟨.ref s.heap.objs.size,_,I.laid (t':=s.toks) (o:=.tup (xs++ys)) (λb ob q=>Au _ q) (AK _) ?_,rfl,q2 (λw=>z (r2.nil_iff.mpr w)) _ (I.hok.fresh (AK _))⟩
 exact⟨by rw[BN];exact hz,_,r1.append r2,KR _ _⟩
end
noncomputable def ixN(n:Af)(i:Ah):Ao Af:=if 0<=i then (if i<n then Aa i.toNat else Ae) else if -(n:Ah)<=i then Aa (i+n).toNat else Ae
noncomputable def atI{α:Type}(xs:Ac α)(i:Ah):Ao α:=(ixN xs.length i).bind λj=>xs[j]?
theorem eV{j:Af}(h:ixN n i=Aa j):seqIndex? i n=Aa j/\j<n/\-(n:Ah)<=i/\i<n:=by
 unfold ixN at h;by_cases h0:0<=i
 .rw[At h0]at h;by_cases h1:i<n
  .rw[At h1]at h;have e:i.toNat=j:=Bg h;exact⟨by rw[seqIndex_of h0 h1,e],by omega,by omega,h1⟩
  .rw[AA h1]at h;cases h
 .rw[AA h0]at h;by_cases h1:-(n:Ah)<=i
  .rw[At h1]at h;have e:(i+n).toNat=j:=Bg h;exact⟨by rw[seqIndex_neg (by omega) h1,e],by omega,h1,by omega⟩
  .rw[AA h1]at h;cases h
theorem OL{α:Type}{xs:Ac α}{v:α}(h:atI xs i=Aa v):∃ j,seqIndex? i xs.length=Aa j/\xs[j]?=Aa v/\j<xs.length/\-(xs.length:Ah)<=i/\i<xs.length:=by
 unfold atI at h;cases e:ixN xs.length i with
 |none=>rw[e]at h;cases h
 |some j=>
  rw[e]at h;obtain⟨h1,h2,h3,h4⟩:=eV e;exact⟨j,h1,h,h2,h3,h4⟩
def OP(b:An):Prop:=∀ o i,subscripted b Ad o i=operate [o,i] (Jy o i)
noncomputable def IxR(X:Cx)(r:R2):Prop:=
 ∀(value slice:An)(pI:Pn)(s:Ap)(Y:St)(H:Hp)(x y:V)(v u:Aj)(Q:VK),Inv X pI Y H s->Bp x v->Bp y u->r x y H Q ->
  subscripted slice Ad v u=operate [v,u] (Jy v u)->Av (model X.prog X.w) X.A (subscriptTail value slice v u) (EP X pI Y Q) X.xe s
noncomputable def MtR(X:Cx)(id:CQ)(r:V->Ac V->Hp->VK->Prop):Prop:=
 ∀(pI:Pn)(s:Ap)(Y:St)(H:Hp)(x:V)(xs:Ac V)(v:Aj)(us:Ac Aj)(Q:VK),Inv X pI Y H s->Bp x v->AX xs us->r x xs H Q ->
  Av (model X.prog X.w) X.A (call (.builtin id) (v::us)) (EP X pI Y Q) X.xe s
section
variable{X:Cx}{a b:An}{ta tb:TE}{pos:AC}
theorem IxR.or{r r':R2}(h:IxR X r)(h':IxR X r'):IxR X (λx y H Q=>r x y H Q\/r' x y H Q):=by
 intro value slice pI s Y H x y v u Q I rx ry q hs;rcases q with q|q
 .exact h value slice pI s Y H x y v u Q I rx ry q hs
 .exact h' value slice pI s Y H x y v u Q I rx ry q hs
theorem sJ{r:R2}(hr:IxR X r)(ha:PE X a ta)(hb:PE X b tb)(hs:OP b):PE X (.Subscript a b pos) (tOp r ta tb):=by
 intro pI s Y H Q I h;exact Subscript_ (Qi ha hb I h λv u s2 x y H2 I2 rx ry q=>hr a b pI s2 Y H2 x y v u Q I2 rx ry q (hs _ _))
def Vb(K:Fg):R2:=λx y H Q=>∃ p xs i v,x=.ref p/\y=.int i/\SqL K H p xs/\atI xs i=Aa v/\Q v H
def U_9(K:Fg):R2:=λx y H Q=>∃ p xs i v,x=.ref p/\y=.int i/\SqT K H p xs/\atI xs i=Aa v/\Q v H
def Va:R2:=λx y H Q=>∃ z i c,x=.str z/\y=.int i/\z.length<=sizeLine/\atI z.cps.toList i=Aa c/\Q (.str ⟨#[c]⟩) H
theorem eU:IxR X (Vb X.K):=by
 intro value slice pI s Y H x y v u Q I rx ry h hs;obtain⟨p,xs,i,z,rfl,rfl,hq,he,q⟩:=h;cases rx;obtain⟨t,rfl⟩:=ry;obtain⟨its,r,pl,hz⟩:=I.list hq;obtain⟨j,h1,h2,h3,h4,h5⟩:=OL he;obtain⟨w,ew,rw'⟩:=r.get h2;have hl:=r.length;have hn:=Ks;have fin:EP X pI Y Q w s:=⟨z,H,I,rw',q⟩;by_cases h0:0<=i
 .have hj:i.toNat=j:=by
   rw[seqIndex_of h0 h5]at h1;exact Bg h1
  exact item_listR pl.isList h0 (by omega) (by rw[hj];simpa using ew) fin hs
 .have hj:(i+(its.toArray.size:Ah)).toNat=j:=by
   rw[seqIndex_neg (by omega) h4]at h1
   rw[AM,<-hl];exact Bg h1
  exact Wl (x:=w) pl.isList.typeIs X5.lookup
   (wpAny_getItem_list_neg (Q:=λr s'=>r=w/\EP X pI Y Q r s') pl.isList (by omega) (by rw[AM]<;>omega) (by omega) (by rw[hj];simpa using ew) ⟨rfl,fin⟩) hs
theorem nJ:IxR X (U_9 X.K):=by
 intro value slice pI s Y H x y v u Q I rx ry h hs;obtain⟨p,xs,i,z,rfl,rfl,hq,he,q⟩:=h;cases rx;obtain⟨t,rfl⟩:=ry;obtain⟨its,r,pl,hz⟩:=I.tuple hq;obtain⟨j,h1,h2,h3,h4,h5⟩:=OL he;obtain⟨w,ew,rw'⟩:=r.get h2;have hl:=r.length;have hn:=Ks;have fin:EP X pI Y Q w s:=⟨z,H,I,rw',q⟩;exact Wl (x:=w) pl.typeIs slot_tuple_getitem.lookup
  (getItem_tuple (j:=j) (Q:=λr s'=>r=w/\EP X pI Y Q r s') pl (by omega) (by omega) (by rw[AM,<-hl];exact h1) (by simpa using ew) ⟨rfl,fin⟩) hs
theorem nK:IxR X Va:=by
 intro value slice pI s Y H x y v u Q I rx ry h hs;obtain⟨z,i,c,rfl,rfl,hz,he,q⟩:=h;obtain⟨t,rfl⟩:=rx;obtain⟨t',rfl⟩:=ry;obtain⟨j,h1,h2,h3,h4,h5⟩:=OL he;have hl:z.cps.toList.length=z.length:=by simp[Str.length]
 rw[hl]at h1 h4 h5;have hn:=Ks;exact tail_any (Fp s z t) slot_str_getitem.lookup (getItem_str (c:=c) (by
  have e1:decide (i < -(2 ^ 63:Ah))=Ad:=CM (by omega)
  have e2:decide (i ≥ 2 ^ 63)=Ad:=CM (by omega)
  rw[e1,e2,D9]) (by rw[h1];simpa using h2) ⟨.str ⟨#[c]⟩,H,I.tok _,⟨_,rfl⟩,q⟩) hs
def rIx(K:Fg):R2:=λx y H Q=>Vb K x y H Q\/U_9 K x y H Q\/Va x y H Q
theorem nL:IxR X (rIx X.K):=eU.or (nJ.or nK)
theorem Inv.lst{pI:Pn}{Y:St}{H:Hp}{s:Ap}{p:Ak}{xs:Ac V}(I:Inv X pI Y H s)(h:H p=Aa (.lst xs)):
  ∃(its:Ac Aj)(n:Af),AX xs its/\s.heap.get? p=Aa { cls:=.type "list",data:=.seq its.toArray n }/\xs.length<=sizeLine:=by
 obtain⟨z,its,n,r,e⟩:=I.hok p _ h;exact⟨its,n,r,e,z⟩
theorem YN(lo hi:Ao Ah)(n:Af):(EW lo hi Ae n).1=((HT.sIx n 0 lo:Af):Ah)/\(EW lo hi Ae n).2.1=((HT.sIx n n hi:Af):Ah)/\(EW lo hi Ae n).2.2=1:=by
 refine⟨?_,?_,rfl⟩
 .cases lo with
  |none=>simp[EW,HT.sIx]
  |some i=>
   simp only[EW,HT.sIx,Wd,show (1:Ah)>0 by decide,EF]
   by_cases h:i<0
   .simp only[h,EF]<;>omega
   .simp only[h,LZ]<;>omega
 .cases hi with
  |none=>simp[EW,HT.sIx]
  |some i=>
   simp only[EW,HT.sIx,Wd,show (1:Ah)>0 by decide,EF]
   by_cases h:i<0
   .simp only[h,EF]<;>omega
   .simp only[h,LZ]<;>omega
theorem YI(its:Ac Aj)(lo hi:Ao Ah):slicePick its.toArray lo hi Ae=((its.drop (HT.sIx its.length 0 lo)).take (HT.sIx its.length its.length hi-HT.sIx its.length 0 lo)).toArray:=by
 obtain⟨h1,h2,h3⟩:=YN lo hi its.toArray.size;unfold slicePick;rw[h1,h2,h3];simp only[sliceRange_one,pick_run,AM]<;>rfl
def U_8(K:Fg):V->Ao Ah->Ao Ah->Hp->VK->Prop:=λx lo hi H Q=>∃ a xs,x=.ref a/\SqL K H a xs/\∀ p,H p=Ae->Q (.ref p) (upd H p (.lst (Jt xs lo hi)))
theorem dL:SlR X (U_8 X.K):=by
 intro pI s Y H x v vl vu lo hi sl Q I rx hs pl pu h;obtain⟨a,xs,rfl,hx,q⟩:=h;cases rx;obtain⟨its,r,ht,hz⟩:=I.list hx;have hlen:=r.length;refine⟨"list",_,X5.lookup,ht.isList.typeIs,?_⟩;refine wpAny_getItem_list_slice ht.isList hs pl pu .none (by simp) ?_ (by rw[AM]<;>omega)
 rw[YI,<-hlen];refine⟨.ref s.heap.objs.size,_,I.laid (t':=s.toks) (o:=.lst (Jt xs lo hi)) (λb ob q=>Au _ q) (AK _) ?_,rfl,q _ (I.hok.fresh (AK _))⟩
 exact⟨Bt (Qv xs lo hi) hz,_,0,(r.drop (HT.sIx xs.length 0 lo)).take (HT.sIx xs.length xs.length hi-HT.sIx xs.length 0 lo),AY _ rfl⟩
theorem Qz:Hm X (.builtin "len") (λxs H Q=>∃ p ys,xs=[.ref p]/\(SqL X.K H p ys\/SqT X.K H p ys)/\Q (.int ys.length) H):=by
 intro pI s Y H xs us Q I r h;obtain⟨p,ys,rfl,hq,q⟩:=h;obtain⟨u,rfl,rx⟩:=Ho r;cases rx;have hn:=Ks;rcases hq with hq|hq
 .obtain⟨its,r',pl,hz⟩:=I.list hq;have hlen:=r'.length;exact Calls.call_len_list pl.isList (by simp only[AM]<;>omega) ⟨.int ys.length,H,I.tok _,⟨s.toks+1,by rw[AM,hlen]⟩,q⟩
 .obtain⟨its,r',pl,hz⟩:=I.tuple hq;have hlen:=r'.length;exact len_tuple pl (by simp only[AM]<;>omega) ⟨.int ys.length,H,I.tok _,⟨s.toks+1,by rw[AM,hlen]⟩,q⟩
theorem YM:Hm X (.builtin "len") (λxs H Q=>∃ z,xs=[.str z]/\z.length<=sizeLine/\Q (.int z.length) H):=by
 intro pI s Y H xs us Q I r h;obtain⟨z,rfl,hz,q⟩:=h;obtain⟨u,rfl,t,rfl⟩:=Ho r;have hn:=Ks;exact len_str (by omega) ⟨.int z.length,H,I.tok _,⟨_,rfl⟩,q⟩
theorem Qy:Hm X (.type "list") (λxs H Q=>∃ p ys,xs=[.ref p]/\(SqL X.K H p ys\/SqT X.K H p ys)/\∀ l,H l=Ae->Q (.ref l) (upd H l (.lst ys))):=by
 intro pI s Y H xs us Q I r h;obtain⟨p,ys,rfl,hq,q⟩:=h;obtain⟨u,rfl,rx⟩:=Ho r;cases rx;have fin:∀(its:Ac Aj),AX ys its->ys.length<=sizeLine->∀(h':AF)(c':Af),(∀ b o',s.heap.get? b=Aa o'->h'.get? b=Aa o') ->
   h'.get? s.heap.objs.size=Aa { cls:=.type "list",dict:=Ae,data:=.seq its.toArray c',slots:=#[] }->EP X pI Y Q (.ref s.heap.objs.size) {s with heap:=h'}:=λits r' hz h' c' kp e=>
  ⟨.ref s.heap.objs.size,_,I.laid (t':=s.toks) kp (AK _) (show ObjOk X.prog X.w _ h' _ (.lst ys) from ⟨hz,its,c',r',e⟩),rfl,q _ (I.hok.fresh (AK _))⟩
 rcases hq with hq|hq
 .obtain⟨its,r',pl,hz⟩:=I.list hq;have hlen:=r'.length;obtain⟨o,ho,hc,n,hd⟩:=pl.isList;exact call_list_seq p (.inl rfl) ho hc hd (λh' c' kp e=>fin its r' hz h' c' kp e) (by simp only[AM]<;>omega)
 .obtain⟨its,r',pl,hz⟩:=I.tuple hq;have hlen:=r'.length;obtain⟨o,ho,hc,n,hd⟩:=pl;exact call_list_seq p (.inr rfl) ho hc hd (λh' c' kp e=>fin its r' hz h' c' kp e) (by simp only[AM]<;>omega)
theorem Qq:Hm X (.type "tuple") (λxs H Q=>∃ p ys,xs=[.ref p]/\((SqL X.K H p ys/\∀ l,H l=Ae->Q (.ref l) (upd H l (.tup ys)))\/(SqT X.K H p ys/\Q (.ref p) H))):=by
 intro pI s Y H xs us Q I r h;obtain⟨p,ys,rfl,h⟩:=h;obtain⟨u,rfl,rx⟩:=Ho r;cases rx;rcases h with ⟨hq,q⟩|⟨hq,q⟩
 .obtain⟨its,r',pl,hz⟩:=I.list hq;have hlen:=r'.length;refine call_tuple_list pl.isList (λh' kp=>?_) (by simp only[AM]<;>omega)
  have I1:Inv X pI Y H {s with heap:=h'}:=I.kept (t':=s.toks) kp
  have I2:Inv X pI Y (upd H h'.objs.size (.tup ys)) { s with heap:=h'.push { cls:=.type "tuple",data:=.seq its.toArray } }:=
   I1.laid (t':=s.toks) (λb o e=>Au _ e) (AK _) (show ObjOk X.prog X.w _ _ _ (.tup ys) from ⟨hz,its,r',KR _ _⟩)
  exact⟨.ref h'.objs.size,_,I2,rfl,q _ (I1.hok.fresh (AK _))⟩
 .obtain⟨its,r',pl,hz⟩:=I.tuple hq;exact call_tuple_same pl ⟨.ref p,H,I,rfl,q⟩
def tyV(K:Fg)(T:CQ)(x:V)(H:Hp):Prop:=match x with
  |.str _=>T = "str"
  |.int _=>T = "int"
  |.ref p=>(T = "list"/\∃ xs,SqL K H p xs)\/(T = "tuple"/\∃ o,K.lookup p=Aa o/\o.cls=.type "tuple"/\o.dict=Ae) \/
      (T = "dict"/\((∃ kvs,H p=Aa (.dK kvs))\/∃ kvs,H p=Aa (.dT kvs)))\/(T = "set"/\∃ S n,H p=Aa (.set S n))
  |_=>AW
theorem kH{pI:Pn}{Y:St}{H:Hp}{s:Ap}{T:CQ}{x:V}{v:Aj}(I:Inv X pI Y H s)(r:Bp x v)(ty:tyV X.K T x H):s.TypeIs v T/\∀ a,v=.ref a->∃ ob,s.heap.get? a=Aa ob/\ob.dict=Ae:=by
 cases x with
 |str z=>
  obtain⟨t,rfl⟩:=r;cases (show T = "str" from ty)
  exact⟨Fp s z t,λ_ e=>nomatch e⟩
 |int i=>
  obtain⟨t,rfl⟩:=r;cases (show T = "int" from ty)
  exact⟨typeIs_int s i t,λ_ e=>nomatch e⟩
 |ref p=>
  cases r;rcases ty with ⟨rfl,xs,hq⟩|⟨rfl,o,hk,hc,hd⟩|⟨rfl,hk⟩|⟨rfl,S,n,hk⟩
  .obtain⟨its,_,pl,_⟩:=I.list hq;refine⟨pl.isList.typeIs,λa e=>?_⟩
   cases e;obtain⟨o,n,e,c,hd,_⟩:=pl;exact⟨o,e,hd⟩
  .refine⟨⟨o,I.kIn p o hk,hc⟩,λa e=>?_⟩
   cases e;exact⟨o,I.kIn _ o hk,hd⟩
  .have z:∃ o,s.heap.get? p=Aa o/\o.ExactDict:=by
    rcases hk with ⟨kvs,hk⟩|⟨kvs,hk⟩
    .obtain⟨_,_,_,_,o,_,_,e,ex,_⟩:=I.hok p _ hk;exact⟨o,e,ex⟩
    .obtain⟨_,_,_,_,o,_,_,e,ex,_⟩:=I.hok p _ hk;exact⟨o,e,ex⟩
   obtain⟨o,e,ex⟩:=z;refine⟨⟨o,e,ex.1⟩,λa e2=>?_⟩
   cases e2;exact⟨o,e,ex.2.1⟩
  .obtain⟨o,_,_,_,e,ex,_⟩:=I.hok p _ hk;refine⟨⟨o,e,ex.1⟩,λa e2=>?_⟩
   cases e2;exact⟨o,e,ex.2.1⟩
 |_=>exact A3 ty
def tBM(K:Fg)(T:CQ)(r:V->Ac V->Hp->VK->Prop)(to:TE)(t:TA):TE:=λY H Q=>to Y H λx H1=>tyV K T x H1/\t Y H1 λxs H2=>r x xs H2 Q
variable{o e:An}{es:Ac An}{to:TE}{t:TA}{name:Ag}{apos cpos:AC}{T id:CQ}{r:V->Ac V->Hp->VK->Prop}
theorem MY(pa:PlainAttrs T)(slot:Slot T name id)(hty:typeOf (.builtin id)=pure (.type "method_descriptor"))(hm:MtR X id r)(ho:PE X o to)(ha:PA X (e::es) t)(hbase:CY o name X.env (eval o X.env)=eval o X.env:=by rfl)(hfew:((Bv cpos (As (e::es) X.env)).all (λx=>!x.1)&&(Hf cpos (FN [] X.env)).all (λx=>x.1.isSome)
   && decide ((e::es).length+([]:Ac DS).length+(if ([]:Ac DS).isEmpty then 0 else 1)<30))=Ab:=by rfl)(hline:(apos.endLine==cpos.line)=Ab:=by rfl)(hs:As (e::es) X.env=(Ad,eval e X.env)::As es X.env:=by rfl)(hplain:(Bv cpos (As es X.env)).any (·.1)=Ad:=by rfl):PE X (.Call (.Attribute o name apos) (e::es) [] cpos) (tBM X.K T r to t):=by
 intro pI s Y H Q I h;refine wpAny_Call_method_late hbase hfew hline rfl (thn (ho pI s Y H _ I h) λv s1 ⟨x,H1,I1,r1,ty,q1⟩=>?_)
 obtain⟨h1,h2⟩:=kH I1 r1 ty;refine⟨T,id,pa,slot,hty,h1,h2,?_⟩;have hA:=ha cpos pI s1 Y H1 _ I1 q1;rw[hs]at hA ⊢;refine Wr (by show (Ad||(Bv cpos (As es X.env)).any (·.1))=Ad;rw[hplain]<;>rfl) (EI ?_)
 exact thn hA λus s2 ⟨vs,H2,I2,r2,q2⟩=>hm pI s2 Y H2 x vs v us Q I2 r1 r2 q2
/- xs.append(e),list.index on a module's tuple .. are MtR facts of 06m -/
end
noncomputable def MtM(X:Cx)(id:CQ)(r:V->Ac V->Hp->VK->Prop):Prop:=
 ∀(pI:Pn)(s:Ap)(Y:St)(H:Hp)(x:V)(xs:Ac V)(v:Aj)(us:Ac Aj)(Q:VK),Inv X pI Y H s->Bp x v->AX xs us->r x xs H Q ->
  Av (model X.prog X.w) X.A (call (.builtin id) (v::us)) (EP X pI Y Q) X.xe s
theorem AX.one:∀{x:V}{us:Ac Aj},AX [x] us->∃ u,us=[u]/\Bp x u
 |_,_,.cons r .nil=>⟨_,rfl,r⟩
theorem AX.zero:∀{us:Ac Aj},AX [] us->us=[]
 |_,.nil=>rfl
theorem AX.eraseIdx:∀{xs:Ac V}{us:Ac Aj}(i:Af),AX xs us->AX (xs.eraseIdx i) (us.eraseIdx i)
 |_,_,_,.nil=>.nil
 |_,_,0,.cons _ t=>t
 |_,_,i+1,.cons r t=>.cons r (AX.eraseIdx i t)
theorem AX.reverse(h:AX xs us):AX xs.reverse us.reverse:=by
 induction h with
 |nil=>exact .nil
 |cons r t ih=>rw[V6,V6];exact AX.append ih (.cons r .nil)
section
variable{X:Cx}{pI:Pn}{Y:St}{H:Hp}{s:Ap}{l b:Ak}{xs ys zs:Ac V}
theorem Inv.lset{its':Ac Aj}{f:Ba Aj->Ba Aj}(I:Inv X pI Y H s)(hH:H l=Aa (.lst xs))(e:s.heap.get? l=Aa { cls:=.type "list",data:=.seq its.toArray n })(hf:f its.toArray=its'.toArray)(hv:AX ys its')(hz:ys.length<=sizeLine):Inv X pI Y (upd H l (.lst ys)) {s with heap:=s.heap.update l (Xd f),toks:=t'}:=by
 have q:=PySem.IsL.update e f;rw[hf]at q;refine I.write (x:=l) (e:=l) (by rw[hH];exact trivial) (.inl rfl) (λb' u hb hu=>(BO s.heap (Xd f) (CB hb)).trans hu) ⟨_,q⟩ ?_
 exact⟨hz,its',_,hv,q⟩
theorem Inv.lnew(I:Inv X pI Y H s)(hv:AX ys its)(hz:ys.length<=sizeLine):
  Inv X pI Y (upd H s.heap.objs.size (.lst ys)) { s with heap:=s.heap.push { cls:=.type "list",data:=.seq its.toArray },toks:=t' }:=
 I.laid (λ_ _ q=>Au _ q) (AK _) ⟨hz,its,0,hv,AY _ rfl⟩
theorem Inv.fresh(I:Inv X pI Y H s):H s.heap.objs.size=Ae:=I.hok.fresh (AK _)
theorem Inv.lstM(I:Inv X pI Y H s)(hH:H l=Aa (.lst xs)):xs.length<=sizeLine/\∃(its:Ac Aj)(n:Af),AX xs its/\xs.length=its.length/\s.heap.get? l=Aa { cls:=.type "list",data:=.seq its.toArray n }:=by
 obtain⟨z,its,n,r,e⟩:=I.hok l _ hH;exact⟨z,its,n,r,r.length,e⟩
end
section
variable{X:Cx}
def fS:V->Ac V->Hp->VK->Prop:=λx vs H Q=>∃ l xs y,x=.ref l/\vs=[y]/\H l=Aa (.lst xs)/\xs.length<sizeLine/\Q .non (upd H l (.lst (xs++[y])))
theorem Zt:MtM X "list.append" fS:=by
 intro pI s Y H x vs v us Q I rx rv h;obtain⟨l,xs,y,rfl,rfl,hH,hz,q⟩:=h;cases rx;obtain⟨u,rfl,ru⟩:=rv.one;obtain⟨z,its,n,r,hl,e⟩:=I.lstM hH;refine Ga F.slot_list_append ⟨_,e,rfl⟩ F.entry_list_append (F.args_list_append_2 _ _) (PySem.list_append l its.toArray n u (by rw[AM];omega)) ⟨e,?_⟩
 refine⟨.non,_,I.lset (its':=its++[u]) hH e (by simp) (r.append (.cons ru .nil)) ?_,rfl,q⟩
 rw[BN,C8];omega
end
section
variable{prog:AL}{w:AV}{A:AT}{E:Vq}{s:Ap}
set_option maxRecDepth 100000 in
end
section
variable{X:Cx}
end
end L2
namespace Att
open PySem PySem.W PySem.Calls PyProof.Rows
variable{P:K4}{h:AF}{l:FM}{n:Af}
theorem YE:∀(ns:Ac Ah)(vs:Ac Aj),WellAll P h vs (ns.map Xy)->HX vs ns:=by
 intro ns
 induction ns with
 |nil=>
  intro vs w;rw[DZ]at w;cases w;exact .nil
 |cons n ns ih=>
  intro vs w;rw[AZ]at w;cases w with
  |cons a b=>
   cases a;exact .cons _ _ (ih _ b)
theorem ZA(hn:l.most=Aa n){args:Ac WData}{vals:Ac Aj}(hpre:l.row.toRowW.claim.pre args=Ab)(hwl:WellAll P h vals args):
  ∃ a vs ns,vals=[Bf a]/\args=[WData.list (ns.map Xy)]/\h.get? a=Aa { cls:=.type "list",data:=.seq vs.toArray }/\HX vs ns/\ns.length<=n:=by
 have hsh:WShape.hasAll [] args [.list .int]=Ab:=(pre_splitW hpre).1;have hc:l.pre.holds [] {args:=args}=Ab:=(pre_splitW hpre).2;obtain⟨d,r,rfl,h1,h2⟩:=hasAllW_cons hsh;obtain rfl:=hasAllW_nil h2;obtain⟨xs,rfl,h3⟩:=hasW_list h1;obtain⟨ns,rfl⟩:=items_int h3;have hlen:ns.length<=n:=by
  unfold OpenLaw.pre at hc;have h4:(WTm.not (.lt (.lit (.int (n:Ah))) (.len (.arg 0)))).holds [] {args:=[.list (ns.map .int)]}=Ab:=by
   have h4:=(holds_andW hc).1;rw[hn]at h4;exact h4
  have h5:=condW_of h4 (w_not (w_lt w_lit (w_len_list (w_arg rfl))));rw[Bi]at h5;refine Nat.le_of_not_lt λq=>?_
  have q':(n:Ah)<((ns.length:Af):Ah):=by omega
  first
   |(rw[DW q']at h5;exact absurd h5 (by decide))
   |(simp at h5;omega)
 cases hwl with
 |cons w1 w2=>
  cases w2;cases w1 with
  |list ho hall=>exact⟨_,_,ns,rfl,rfl,ho,YE ns _ hall,hlen⟩
theorem ZD(l:FM)(args:Ac WData):l.row.toRowW.claim.post args (.bool Ab) args=Ab:=
 postW_of (r:=l.row.toRowW) (X:=(Ab==Ab))
  (show Xz [] (.bool Ab) .bool=Ab by first|rfl|decide|simp[Xz,WShape.arms,WShape.armsAll])
  (show (WTm.eq .res (.lit (.bool Ab))).value [] {args:=args,res:=Aa (.bool Ab),after:=args}=Aa (.bool (Ab==Ab)) from w_eq_bool (w_res rfl) w_lit) rfl
theorem attach_call{q:AL}{loose:Ac Ag}{XP:(Ag->Ao Aj)->AF->Prop}{YP:AV->AF->Prop}{d:DefRec}(hn:l.most=Aa n)(hdf:d.params.defaults=[])(call:∀(w:AV)(s₀ s₁:Ap)(mg mb:Ag->Ao Aj)(fa:Ak)(o:CZ)(pm cd doc:Aj)(a:Ak)(vs:Ac Aj)(ns:Ac Ah),
   Ground q loose [] XP w s₀ mg mb s₁.heap->YP w s₁.heap ->
   s₁.heap.get? fa=Aa o->o.data=.func (docDef d.name d.params d.body d.scope pm cd doc)->s₁.heap.CodeRec cd d.name->mg d.name=Aa (.ref fa) ->
   s₁.heap.get? a=Aa { cls:=.type "list",data:=.seq vs.toArray }->HX vs ns->ns.length<=n->s₁.gens=#[] ->
   Ez (model l.prog w) G3 (.call (.ref fa) ⟨[.ref a],[]⟩) (λr s'=>r=.ok (.ret (.bool Ab))/\OldK s₁.heap s'.heap/\s'.os=s₁.os/\Fo s'.gens) s₁):WalkO q loose XP YP l.row.toRowW d [] (λf vs=>J7 f vs):=by
 intro w s₀ s₁ mg mb G Y_ fa o pm cd doc dV kV ho hd hcd hD hmg hg args vals as hpre hlay hrd hwl hlo;obtain rfl:dV=.none:=Dflts.none hD hdf;obtain rfl:kV=.none:=Dflts.noKw hD;obtain⟨a,vs,ns,rfl,rfl,hobj,hints,hlen⟩:=ZA hn hpre hwl;refine enter_call (EA (call w s₀ s₁ mg mb fa o pm cd doc a vs ns G Y_ ho (fd_plain hd) hcd hmg hobj hints hlen hg) λr s' hq=>?_)
 obtain⟨rfl,h2,h3,h4⟩:=hq;exact⟨.inl ⟨.bool Ab,.bool Ab,[],rfl,λ_=>rfl,.bool Ab,ZD l _,λ_=>⟨List.Pairwise.nil,λ_ hm=>(nomatch hm)⟩⟩,h2,h3,h4⟩
section
variable{prog:AL}{w:AV}{A:AT}{E:Vq}{s:Ap}{K:Frag}
end
end Att
namespace L2
open PySem PySem.Spec PyProof.Rows
variable{k:Af}{x:Ag}
theorem QY:∀{vs:Ac Aj}{ns:Ac Ah},HX vs ns->AX (ns.map V.int) vs
 |_,_,.nil=>.nil
 |_,_,.cons n t h=>.cons ⟨t,rfl⟩ (QY h)
def Qm(H:Hp):Prop:=∀ b,H b=Ae\/∃ o xs,H b=Aa (.frz o (.lst xs))
theorem aU{P:AL}{w:AV}{K:Fg}{mg mb:Ag->Ao Aj}{CX:CXT}{fa a:Ak}{fd:Bx}{sp:Sp}{s₁:Ap}{vs:Ac Aj}{ns:Ac Ah}(KX:K.In s₁.heap)(hns:s₁.heap.Ns AQ mg)(hb:s₁.heap.Ns Ii mb)(hbb:∀ x:Ag,x≠"__name__"->mb x=CP x)(hlim:s₁.heap.NoLimit)(hg:s₁.gens=#[])(ha:s₁.heap.get? a=Aa { cls:=.type "list",data:=.seq vs.toArray })(hi:HX vs ns)(hl:ns.length<=sizeLine)(hr:Room k G3)(F:∀ base:AF,K.In base->base.Ns AQ mg->FnOk P w K mg base CX k fa fd [x] sp)(hbind:∀(s:Ap)(u:Aj),Gr s fd ⟨[u],[]⟩ [(x,u)])(hsp:∀ H:Hp,Qm H->SqL K H a (ns.map V.int)->sp [.ref a] H (λv _=>v=.bl Ab) λ_ _ _=>AW)(hCX:∀ H e s',CX [] H s₁ (λ_ _ _=>AW) e s'->AW):Ez (model P w) G3 (.call (.ref fa) ⟨[.ref a],[]⟩) (λr s'=>r=.ok (.ret (.bool Ab))/\OldK s₁.heap s'.heap/\s'.os=s₁.os/\Fo s'.gens) s₁:=by
 have rv:=QY hi;have lenV:=hi.length
 -- from an abstract heap in which nothing but the script may be tracked
 have core:∀ H:Hp,Qm H->SqL K H a (ns.map V.int)->HOk P w H s₁.heap->(∀ b,H b≠Ae->b=a)->(H a≠Ae->K.lookup a=Ae) ->
   Ez (model P w) G3 (.call (.ref fa) ⟨[.ref a],[]⟩) (λr s'=>r=.ok (.ret (.bool Ab))/\OldK s₁.heap s'.heap/\s'.os=s₁.os/\Fo s'.gens) s₁:=by
  intro H hO hS hok hA hK;have base_of:∀{b:Ak}{o:CZ},s₁.heap.get? b=Aa o->H b=Ae->(IJ s₁.heap H).get? b=Aa o:=λe n=>bC e n
  have noA:∀{b:Ak}{o:CZ}{es:Ba DictEntry}{ep:Af},s₁.heap.get? b=Aa o->o.data=.dict es ep->H b=Ae:=λ{b o es ep} e d=>by
   cases q:H b with
   |none=>rfl
   |some u=>
    have e':b=a:=hA b (by rw[q];simp)
    subst e';rw[ha]at e;cases e;have d':KY vs.toArray _=Data.dict es ep:=d;cases d'
  have nsK:∀{b:Ak}{m:Ag->Ao Aj},s₁.heap.Ns b m->(IJ s₁.heap H).Ns b m:=λ{b m} ⟨o,es,ep,e,d,r⟩=>⟨o,es,ep,base_of e (noA e d),d,r⟩
  have hKb:K.In (IJ s₁.heap H):=λb o e=>base_of (KX b o e) (by
   cases q:H b with
   |none=>rfl
   |some u=>
    have e':b=a:=hA b (by rw[q];simp)
    subst e';rw[hK (by rw[q];simp)]at e;cases e)
  have hM:Mod K mg (IJ s₁.heap H):=⟨hKb,nsK hns,⟨mb,nsK hb,hbb⟩,let ⟨mc,h1,h2⟩:=hlim;⟨mc,nsK h1,h2⟩⟩
  have e0:Env0 P w K mg (IJ s₁.heap H) G3 [] s₁ H:=⟨rfl,hM,λb o e=>fG e,V8 (Zo _ _),trivial,λb hb=>absurd (show b∈([]:Ac Ak) from hb) (by simp),hok,.of_eq hg⟩
  refine EA ((F _ hKb (nsK hns)).run G3 [] s₁ H ⟨[.ref a],[]⟩ [.ref a] [.ref a] _ _ hr e0 (hbind s₁ (.ref a)) (.cons rfl .nil) (hsp H hO hS)) λr s' h=>?_
  cases r with
  |error e=>exact(hCX H e s' h).elim
  |ok fl=>
   cases fl with
   |next=>exact A3 h
   |brk=>exact A3 h
   |cont=>exact A3 h
   |ret u=>
    obtain⟨v,H',os,bare,un,hok',r',q⟩:=h;have q':v=.bl Ab:=q;subst q';obtain rfl:u=Ie Ab:=r';refine⟨rfl,OldK.of_keep λb o e=>?_,os,bare⟩
    cases q:H b with
    |none=>exact un.keep b o e q (by intro z;exact absurd (show b∈([]:Ac Ak) from z) (by simp)) (by simp)
    |some u=>
     rcases hO b with z|⟨ob,xs,z⟩
     .rw[q]at z;cases z
     .have z2:=un.frzs b ob _ z;obtain⟨e1,_⟩:=hok b _ z;obtain⟨e2,_⟩:=hok' b _ z2;rw[e]at e1;cases e1;exact e2
 cases hk:K.lookup a with
 |some o=>
  -- the script is one of the module's own objects
  have e:=KX a o hk;rw[ha]at e;cases e;refine core (λ_=>Ae) (λ_=>.inl rfl) (.inr ⟨_,vs.toArray,_,hk,rfl,rfl,rfl,by rw[AM,lenV];exact hl,by simpa using rv⟩) (λb u z=>by have z':(Ae:Ao HO)=Aa u:=z;cases z') (λb z=>absurd rfl z) λz=>absurd rfl z
 |none=>
  refine core (λb=>if b=a then Aa (.frz { cls:=.type "list",data:=.seq vs.toArray } (.lst (ns.map V.int))) else Ae) (λb=>?_) (.inl (.inr ⟨{ cls:=.type "list",data:=.seq vs.toArray },At rfl⟩)) (λb u z=>?_) (λb z=>?_) λ_=>hk
  .by_cases hb:b=a
   .exact .inr ⟨_,_,At hb⟩
   .exact .inl (AA hb)
  .by_cases hb:b=a
   .have z':=(At hb).symm.trans z;cases z';subst hb;exact⟨ha,by rw[Bi];exact hl,vs,_,rv,ha⟩
   .have z':=(AA hb).symm.trans z;cases z'
  .by_cases hb:b=a
   .exact hb
   .exact absurd (AA hb) z
noncomputable abbrev KOf{K:Fg}{h:AF}(_:K.In h):Fg:=K
theorem walk_of{l:FM}{n:Af}{q:AL}{loose:Ac Ag}{XP:(Ag->Ao Aj)->AF->Prop}{YP:AV->AF->Prop}{d:DefRec}{K:K4->Fg}{CX:AV->CXT}{sp:AV->Sp}(hn:l.most=Aa n)(hn2:n<=sizeLine)(hdf:d.params.defaults=[])(hr:Room k G3)(hY:∀(w:AV)(h:AF),YP w h->(K w.params).In h)(F:∀(w:AV)(mg:Ag->Ao Aj)(fa:Ak)(h:AF),(K w.params).In h->h.Ns AQ mg->mg d.name=Aa (.ref fa) ->
   ∃ fd:Bx,(∀(s:Ap)(u:Aj),Gr s fd ⟨[u],[]⟩ [(x,u)]) /\
    ∀ base:AF,(K w.params).In base->base.Ns AQ mg->FnOk l.prog w (K w.params) mg base (CX w) k fa fd [x] (sp w))(hsp:∀(w:AV)(H:Hp)(a:Ak)(ns:Ac Ah),ns.length<=n->Qm H->SqL (K w.params) H a (ns.map V.int)->sp w [.ref a] H (λv _=>v=.bl Ab) λ_ _ _=>AW)(hCX:∀(w:AV)(H:Hp)(s:Ap)(e:Aj)(s':Ap),CX w [] H s (λ_ _ _=>AW) e s'->AW):XC q loose XP YP l.row.toRowW d [] (λf vs=>J7 f vs):=by
 refine Att.attach_call hn hdf λw s₀ s₁ mg mb fa o pm cd doc a vs ns G Y_ ho hd hcd hmg hobj hints hlen hg=>?_
 have KX:=hY w _ Y_;obtain⟨fd,hb,hF⟩:=F w mg fa _ KX G.T.g hmg;exact aU KX G.T.g G.T.b G.T.builtins G.T.nolimit hg hobj hints (Bt hlen hn2) hr hF hb (λH hO hS=>hsp w H a ns hlen hO hS) λH e s'=>hCX w H s₁ e s'
end L2
/- THE LAST THEOREM (shape;LID,My.* are yours):
   My.Adr:a structure of the addresses that your layer names (classes,functions);My.Txt K t:a structure (Prop) of the equations over K;
   My.txt_mk:{K} {implicit addresses ..} (e1:nsIn K AQ "law" = Aa (Aa (.ref f))) (e2:K.lookup f=Aa ⟨oc,od,.func (fnOf "law" "law" params body scope dV kV doc pm an cdv ct),sl⟩) (e3:codeIn K cdv "law" = Ab) ..:∃ t,My.Txt K t
set_option maxRecDepth 100000 in
set_option maxHeartbeats 0 in
theorem PySem.Challenge.cw_LID_holds:PySem.Challenge.rw_LID.Holds:=by
 w_on;o_law;k_head;(case hw=>w_witness2)
 k_fill
 refine L2.walk_of (l:=PySem.Challenge.rw_LID) (n:=63) (k:=40) (x := "script") (CX:=λw=>..) (sp:=λ_=>My.sp_law) rfl (by decide) rfl ⟨rfl,by decide,by decide⟩ (λw h Y_=>XI Y_) ?F ?S ?C
 case F=>
  intro w mg fa h KX G hmg;have T:∃ t,My.Txt (L2.KOf KX) t:=by
   dsimp only[L2.KOf]                          -- K must stand as «<heap const> w.params» for k_is
   refine' My.txt_mk ?e1 ?e2 ?e3 ..
   (case e1=>PySem.W.k_is)                    -- in the order: a name -> its address -> its object -> its parts
   (case e2=>PySem.W.k_is)
   ..
  obtain⟨t,T⟩:=T;have e0:=hmg.symm.trans (BF KX G T.law);cases e0                                       -- fa is the law's own address
  exact⟨_,fun s u=>.of_eq rfl,fun base kb nb=>My.law_fn T kb nb⟩     -- if «.of_eq rfl» comes too early: refine' ⟨_,?b,fun base kb nb=>My.law_fn T kb nb⟩;exact fun s u=>.of_eq rfl
 case S=>exact λw H a ns hl hO hS=>..
 case C=>exact ..
(the tactic k_is has no namespace:write k_is) -/
namespace L2
open PySem PySem.Spec PyProof.Rows
noncomputable def Gd(s:AI):Arguments:=match s with
  |.FunctionDef _ a _ _ _ _ _ _ _ _=>a
  |_=>{posonlyargs:=[],args:=[],vararg:=Ae,kwonlyargs:=[],kw_defaults:=[],kwarg:=Ae,defaults:=[]}
noncomputable def En(s:AI):Ac AI:=match s with
  |.FunctionDef _ _ b _ _ _ _ _ _ _=>b
  |_=>[]
noncomputable def BD(s:AI):BG:=match s with
  |.FunctionDef _ _ _ _ _ _ sc _ _ _=>sc
  |_=>{kind:=.function,names:=[],isGenerator:=Ad,isCoroutine:=Ad}
noncomputable abbrev CX0:CXT:=λ_ _ _ _ _ _=>AW
noncomputable abbrev E0:XK:=λ_ _ _=>AW
structure Fun (K:Fg) (x qual:Ag) (st:AI) (f:Ak) (fd:Bx):Prop where
 ex:∃(oc:Aj)(od:Ao Ak)(kV doc pm:Aj)(an:Ao Ak)(cdv ct:Aj)(osl:Ba (Ao Aj)),
  fd=BR x qual (Gd st) (En st) (BD st) .none kV doc pm an cdv ct/\K.lookup f=Aa ⟨oc,od,.func fd,osl⟩/\DT K cdv qual=Ab
 kp:Bc K (.ref f)=Ab
section
variable{P:AL}{w:AV}{K:Fg}{mg:Ag->Ao Aj}{base:AF}
theorem Fun.ok{x qual:Ag}{st:AI}{f:Ak}{fd:Bx}{N ps:Ac Ag}{k:Af}{sp:Sp}(F:Fun K x qual st f fd)(S:FnScope N ps (BD st))(len:∀ vs H Q E,sp vs H Q E->vs.length=ps.length)(hbody:∀(cdv:Aj)(A:AT)(outer:Ac Cb)(s:Ap)(H:Hp)(vs:Ac V)(Q:VK)(E:XK),Room k (A.deeper (Ee qual (BD st) s.heap.objs.size f cdv))->sp vs H Q E ->
   ∃ t,PSs (E8 CX0 P w K mg base N qual (BD st) f cdv A outer s H E).nox (En st) t/\t {nx:=λ_ H'=>Q .non H',rt:=Q} (start N vs) H):FnOk P w K mg base CX0 (k+1) f fd ps sp:=by
 obtain⟨oc,od,kV,doc,pm,an,cdv,ct,osl,rfl,lk,hcd⟩:=F.ex;refine PM lk hcd S len λA outer s H vs Q E hr hsp=>?_
 obtain⟨t,h,q⟩:=hbody cdv A outer s H vs Q E hr hsp;exact⟨t,h.nox,q⟩
theorem Fun.binds{x qual:Ag}{st:AI}{f:Ak}{fd:Bx}{ps:Ac Ag}(F:Fun K x qual st f fd)(h:∀(kV doc pm:Aj)(an:Ao Ak)(cdv ct:Aj)(us:Ac Aj),us.length=ps.length->FT (BR x qual (Gd st) (En st) (BD st) .none kV doc pm an cdv ct) ⟨us,[]⟩=pure (ps.zip us)):ED K fd ps []:=by
 obtain⟨oc,od,kV,doc,pm,an,cdv,ct,osl,rfl,lk,hcd⟩:=F.ex;exact .all (h kV doc pm an cdv ct)
theorem OY{x qual:Ag}{st:AI}{f:Ak}{oc:Aj}{od an:Ao Ak}{osl:Ba (Ao Aj)}{kV doc pm cdv ct:Aj}(l:K.lookup f=Aa ⟨oc,od,.func (BR x qual (Gd st) (En st) (BD st) .none kV doc pm an cdv ct),osl⟩)(c:DT K cdv qual=Ab)(k:Bc K (.ref f)=Ab):Fun K x qual st f (BR x qual (Gd st) (En st) (BD st) .none kV doc pm an cdv ct):=⟨⟨oc,od,kV,doc,pm,an,cdv,ct,osl,rfl,l,c⟩,k⟩
end
section
variable{X:Cx}
end
def Az(H H':Hp):Prop:=∀ b o,H b=Aa o->H' b=Aa o
theorem Az.refl(H:Hp):Az H H:=λ_ _ h=>h
theorem Az.trans{H H1 H2:Hp}(a:Az H H1)(b:Az H1 H2):Az H H2:=λc o h=>b c o (a c o h)
theorem Az.free{H H':Hp}(e:Az H H'){l:Ak}(h:H' l=Ae):H l=Ae:=by
 cases q:H l with
 |none=>rfl
 |some o=>
  rw[e l o q]at h;cases h
end L2
section
namespace Ov
open PySem
variable{α β:Type}
inductive D where
 |non|bl (b:Am)|int (i:Ah)|str (x:Ag)|tup (ds:Ac D)|lst (ds:Ac D)
 |obj (c:Af) (fs:Ac (Ag×D))|exc (c:Af) (fs:Ac (Ag×D))|dic (kvs:Ac (Ac Ah×D))
 deriving Inhabited
structure Ex where
 c:Af
 fs:Ac (Ag×D)
 deriving Inhabited
inductive R (α:Type) where
 |ok (a:α)|exn (x:Ex)|bad
 deriving Inhabited
noncomputable def R.bind{α β:Type}(r:R α)(f:α->R β):R β:=match r with
  |.ok a=>f a
  |.exn x=>.exn x
  |.bad=>.bad
@[simp]theorem R.bind_ok(a:α)(f:α->R β):(R.ok a).bind f=f a:=rfl
@[simp]theorem R.bind_exn(x:Ex)(f:α->R β):(R.exn x:R α).bind f=.exn x:=rfl
@[simp]theorem R.bind_bad(f:α->R β):(R.bad:R α).bind f=.bad:=rfl
theorem R.bind_assoc{γ:Type}(r:R α)(f:α->R β)(g:β->R γ):(r.bind f).bind g=r.bind λa=>(f a).bind g:=by cases r<;>rfl
noncomputable def B8(n:Af):Am:=De n 1000000
noncomputable def FF(i j:Ah):Am:=(decide (-(18446744073709551616:Ah)<i)&&decide (i<18446744073709551616))||(decide (-(18446744073709551616:Ah)<j)&&decide (j<18446744073709551616))
noncomputable def M8(i j:Ah):Am:=decide (i.natAbs<2 ^ 2000)&&decide (j.natAbs<2 ^ 2000)
noncomputable def Cz:Fh->D->D->R D
 |.Add,.int i,.int j=>.ok (.int (i+j))
 |.Sub,.int i,.int j=>.ok (.int (i-j))
 |.Mult,.int i,.int j=>if (FF i j||M8 i j)=Ab then .ok (.int (i*j)) else .bad
 |.FloorDiv,.int i,.int j=>if 0<j/\j<1073741824 then .ok (.int (i/j)) else .bad
 |.Mod,.int i,.int j=>if 0<j then .ok (.int (i%j)) else .bad
 |.Pow,.int i,.int j=>if (0<=j/\j<=1000000)/\(-(18446744073709551616:Ah)<i/\i<18446744073709551616) then .ok (.int (i ^ j.toNat)) else .bad
 |.Add,.str x,.str y=>if B8 (x.length+y.length)=Ab then .ok (.str (x++y)) else .bad
 |.Add,.lst x,.lst y=>if B8 (x.length+y.length)=Ab then .ok (.lst (x++y)) else .bad
 |.Add,.tup x,.tup y=>if (!x.isEmpty&&B8 (x.length+y.length))=Ab then .ok (.tup (x++y)) else .bad
 |_,_,_=>.bad
noncomputable def unD:Jw->D->R D
 |.USub,.int i=>.ok (.int (-i))
 |_,_=>.bad
noncomputable def b2i(b:Am):Ah:=if b=Ab then 1 else 0
mutual
noncomputable def eqD:D->D->Am
 |.non,.non=>Ab
 |.bl a,.bl b=>a==b
 |.bl a,.int j=>b2i a==j
 |.int i,.bl b=>i==b2i b
 |.int i,.int j=>i==j
 |.str x,.str y=>x==y
 |.tup xs,.tup ys=>eqDs xs ys
 |.lst xs,.lst ys=>eqDs xs ys
 |_,_=>Ad
noncomputable def eqDs:Ac D->Ac D->Am
 |[],[]=>Ab
 |x::xs,y::ys=>eqD x y&&eqDs xs ys
 |_,_=>Ad
end
noncomputable def flD:Af->D->Am
 |_,.non=>Ab
 |_,.bl _=>Ab
 |_,.int _=>Ab
 |_,.str _=>Ab
 |n+1,.tup xs=>xs.all (flD n)
 |n+1,.lst xs=>xs.all (flD n)
 |_,_=>Ad
noncomputable def Ju:D->Ao (Ac Ah)
 |.tup ds=>keyDs ds
 |_=>Ae
where keyDs:Ac D->Ao (Ac Ah)
 |[]=>Aa []
 |.int i::r=>(keyDs r).map (i :: ·)
 |_=>Ae
noncomputable def ltD:Af->D->D->Am
 |0,.int i,.int j=>decide (i<j)
 |n+1,.tup xs,.tup ys=>ltDs (ltD n) xs ys
 |_,_,_=>Ad
where ltDs (lt:D->D->Am):Ac D->Ac D->Am
 |[],[]=>Ad
 |[],_::_=>Ab
 |_::_,[]=>Ad
 |x::xs,y::ys=>if eqD x y=Ab then ltDs lt xs ys else lt x y
noncomputable def rkD:Af->D->Am
 |0,.int _=>Ab
 |n+1,.tup xs=>xs.all (rkD n)
 |_,_=>Ad
noncomputable def Vu(lt:D->D->Am)(x:D):Ac D->Ac D
 |[]=>[x]
 |y::ys=>if lt y x=Ab then y::Vu lt x ys else x::y::ys
noncomputable def T5(lt:D->D->Am):Ac D->Ac D
 |[]=>[]
 |x::xs=>Vu lt x (T5 lt xs)
noncomputable def UT:Ac D->Am
 |[]=>Ab
 |x::xs=>xs.all (λy=>!eqD x y)&&UT xs
noncomputable def Vl:Ac D->Am
 |[]=>Ab
 |[_]=>Ab
 |x::y::r=>ltD 1 x y&&Vl (y::r)
noncomputable def RP(xs:Ac D):R (Ac D):=if (xs.all (λd=>rkD 1 d && !eqD d (.tup []))&&UT xs&&(decide (xs.length<64)||(Vl xs&&decide (xs.length<=1000))))=Ab then .ok (T5 (ltD 1) xs) else .bad
noncomputable def Bj:CV->D->D->R D
  |.Eq,x,y=>if (flD 5 x&&flD 5 y)=Ab then .ok (.bl (eqD x y)) else .bad
  |.NotEq,x,y=>if (flD 5 x&&flD 5 y)=Ab then .ok (.bl (!eqD x y)) else .bad
  |.Lt,.int i,.int j=>.ok (.bl (decide (i<j)))
  |.LtE,.int i,.int j=>.ok (.bl (decide (i<=j)))
  |.Gt,.int i,.int j=>.ok (.bl (decide (j<i)))
  |.GtE,.int i,.int j=>.ok (.bl (decide (j<=i)))
  |.In,x,.lst ys=>if (flD 5 x&&ys.all (flD 5))=Ab then .ok (.bl (ys.any λy=>eqD y x)) else .bad
  |.In,x,.dic kvs=>match Ju x with
    |some k=>.ok (.bl (kvs.any λp=>p.1==k))
    |none=>.bad
  |.In,x,.tup ys=>if (flD 5 x&&ys.all (flD 5))=Ab then .ok (.bl (ys.any λy=>eqD y x)) else .bad
  |.NotIn,x,.lst ys=>if (flD 5 x&&ys.all (flD 5))=Ab then .ok (.bl (!ys.any λy=>eqD y x)) else .bad
  |.NotIn,x,.tup ys=>if (flD 5 x&&ys.all (flD 5))=Ab then .ok (.bl (!ys.any λy=>eqD y x)) else .bad
  |.Is,.non,.non=>.ok (.bl Ab)
  |.Is,.bl _,.non=>.ok (.bl Ad)
  |.Is,.int _,.non=>.ok (.bl Ad)
  |.Is,.str _,.non=>.ok (.bl Ad)
  |.Is,.tup _,.non=>.ok (.bl Ad)
  |.Is,.lst _,.non=>.ok (.bl Ad)
  |.Is,.obj _ _,.non=>.ok (.bl Ad)
  |.Is,.bl a,.bl b=>.ok (.bl (a==b))
  |.IsNot,.bl a,.bl b=>.ok (.bl (!(a==b)))
  |.IsNot,.non,.non=>.ok (.bl Ad)
  |.IsNot,.bl _,.non=>.ok (.bl Ab)
  |.IsNot,.int _,.non=>.ok (.bl Ab)
  |.IsNot,.str _,.non=>.ok (.bl Ab)
  |.IsNot,.tup _,.non=>.ok (.bl Ab)
  |.IsNot,.lst _,.non=>.ok (.bl Ab)
  |.IsNot,.obj _ _,.non=>.ok (.bl Ab)
  |_,_,_=>.bad
noncomputable def BS:D->R Am
 |.non=>.ok Ad
 |.bl b=>.ok b
 |.int i=>.ok (i != 0)
 |.str x=>if B8 x.length=Ab then .ok (x.length != 0) else .bad
 |.tup xs=>.ok (!xs.isEmpty)
 |.lst xs=>.ok (!xs.isEmpty)
 |_=>.bad
noncomputable def plD(n:Af)(i:Ah):Ao Af:=if 0<=i then (if i<n then Aa i.toNat else Ae) else if -(n:Ah)<=i then Aa (i+n).toNat else Ae
noncomputable def CI(xs:Ac D)(i:Ah):R D:=match plD xs.length i with
  |some k=>match xs[k]? with
    |some d=>.ok d
    |none=>.bad
  |none=>.bad
noncomputable def Pb(kvs:Ac (Ac Ah×D))(k:Ac Ah):Ao D:=(kvs.find? λp=>p.1==k).map (·.2)
noncomputable def S5(kvs:Ac (Ac Ah×D))(k:Ac Ah)(v:D):Ac (Ac Ah×D):=if (kvs.any λp=>p.1==k)=Ab then kvs.map (λp=>if (p.1==k)=Ab then (k,v) else p) else kvs++[(k,v)]
noncomputable def FL(x:Ag):Ac D:=x.cps.toList.map λc=>.str ⟨#[c]⟩
noncomputable def FJ:D->D->R D
  |.str x,.int i=>if B8 x.length=Ab then CI (FL x) i else .bad
  |.lst xs,.int i=>CI xs i
  |.tup xs,.int i=>CI xs i
  |.dic kvs,k=>match (Ju k).bind (Pb kvs) with
    |some d=>.ok d
    |none=>.bad
  |_,_=>.bad
noncomputable def Fl:D->R Ah
 |.int i=>.ok i
 |_=>.bad
noncomputable def Dt:D->R Am
 |.bl b=>.ok b
 |_=>.bad
noncomputable def Eo:D->R (Ac D)
 |.lst xs=>.ok xs
 |.tup xs=>.ok xs
 |_=>.bad
noncomputable def PF:D->R (Ac D)
 |.lst xs=>.ok xs
 |_=>.bad
inductive BI where
 |len|abs|max|min|int|list|tuple|all|any|sum|sorted|str|count|stp|lset|tmin|tmax|tlt|rvs|sjoin|ssplit|index
 deriving DecidableEq,Inhabited
inductive Ki where
 |int|bool|str|list|tuple|verr|cls (c:Af)
 deriving DecidableEq,Inhabited
mutual
inductive E where
 |non|bl (b:Am)|int (i:Ah)|str (x:Ag)
 |var (i:Af)|glob (g:Af)
 |bin (op:Fh) (a b:E)|un (op:Jw) (a:E)|no (a:E)
 |and (es:Es)|or (es:Es)
 |cmp (op:CV) (a b:E)|cmp2 (op op':CV) (a b c:E)
 |ite (c a b:E)
 |call (f:Af) (as:Es)|bi (b:BI) (as:Es)
 |isi (a:E) (ks:Ac Ki)
 |idx (a i:E)|sl (a lo hi:E)
 |tup (es:Es)|lst (es:Es)
 |comp (elt:E) (t:Af) (it:I) (c:E)|compT (elt:E) (ts:Ac Af) (it:I) (c:E)|tupI (it:I)|dnew
 |fld (o:E) (f:Ag)|mkx (c:Af) (as:Es)
 |ofl (o:E) (f:Ag)|iso (a:E) (k:Af)|meth (m:Ag) (ms:Ac (Af×Af)) (o:E)|mkob (c:Af) (e:E)|mkn (c:Af) (as:Es)
inductive Es where
 |nil|cons (e:E) (es:Es)
inductive I where
 |e (a:E)|rng (a:E)|rng2 (a b:E)|zip (a b:E)|zip3 (a b c:E)|enm (a:E)
end
abbrev Sl:=Ao (D×Am)
abbrev Rho:=Ac Sl
structure Gam where
 F:Af->Ac D->R D
 G:Af->D
 up:Af->Ac Af
 /-- the defs whose answer is a new list -/
 fr:Af->Am
 /-- what is raised: the class,what it is made of -/
 xn:Af->Ac D->R Ex
noncomputable def EO(lo:Ah)(n:Af):Ac D:=(A5 n).map fun(k:Af)=>D.int (lo+(k:Ah))
noncomputable def D8(lo hi:Ah):R (Ac D):=if (-(4611686018427387904:Ah)<=lo/\lo<4611686018427387904)/\(-(4611686018427387904:Ah)<=hi/\hi<4611686018427387904)/\hi-lo<1000000 then .ok (EO lo (hi-lo).toNat) else .bad
noncomputable def kiD(up:Af->Ac Af):Ki->D->Am
 |.int,.int _=>Ab
 |.int,.bl _=>Ab
 |.bool,.bl _=>Ab
 |.str,.str _=>Ab
 |.list,.lst _=>Ab
 |.tuple,.tup _=>Ab
 |.cls c,.obj k _=>(up k).contains c
 |.cls c,.exc k _=>(up k).contains c
 |.verr,.exc _ _=>Ab
 |_,_=>Ad
noncomputable def D5:Ki->Am
 |.cls _=>Ab
 |.verr=>Ab
 |_=>Ad
noncomputable def Er(up:Af->Ac Af)(ks:Ac Ki)(x:D):R D:=match x with
  |.obj _ _=>.bad
  |.exc _ _=>if ks.all D5=Ab then .ok (.bl (ks.any λk=>kiD up k x)) else .bad
  |.dic _=>.bad
  |_=>if ks.any D5=Ab then .bad else .ok (.bl (ks.any λk=>kiD up k x))
noncomputable def Ep:D->R Am
 |.non=>.ok Ad
 |.bl b=>.ok b
 |.int i=>.ok (i != 0)
 |_=>.bad
noncomputable def Hk:Ac D->R Am
 |[]=>.ok Ab
 |x::r=>(Ep x).bind λb=>(Hk r).bind λc=>.ok (b&&c)
noncomputable def Gg:Ac D->R Am
 |[]=>.ok Ad
 |x::r=>(Ep x).bind λb=>(Gg r).bind λc=>.ok (b||c)
noncomputable def LK:Ah->Ac D->R Ah
 |a,[]=>.ok a
 |a,.int i::r=>LK (a+i) r
 |_,_=>.bad
noncomputable def PZ:Ac D->Ac D->Ac D
 |x::xs,y::ys=>.tup [x,y]::PZ xs ys
 |_,_=>[]
noncomputable def T7:Ac D->Ac D->Ac D->Ac D
 |x::xs,y::ys,z::zs=>.tup [x,y,z]::T7 xs ys zs
 |_,_,_=>[]
noncomputable def T6(x y z:D):R (Ac D):=(Eo x).bind λxs=>(Eo y).bind λys=>(Eo z).bind λzs=>if 0<xs.length/\xs.length<=1000/\ys.length=xs.length/\zs.length=xs.length then .ok (T7 xs ys zs) else .bad
noncomputable def CF:Ah->Ac D->Ac D
 |_,[]=>[]
 |i,x::xs=>.tup [.int i,x]::CF (i+1) xs
noncomputable def nlD:Af->D->Am
 |_,.non=>Ab
 |_,.bl _=>Ab
 |_,.int _=>Ab
 |_,.str _=>Ab
 |n+1,.tup xs=>xs.all (nlD n)
 |_,_=>Ad
noncomputable def FK(fr:Am):D->Am
 |.lst ds=>fr&&ds.all (nlD 5)
 |d=>nlD 5 d
noncomputable def ID:Ac D->Ao (Ac Ah)
 |[]=>Aa []
 |.int i::r=>(ID r).map (i :: ·)
 |_=>Ae
noncomputable def HU(i:Ah):Ac Ah->Ah
 |[]=>i
 |j::r=>HU (if j<i then j else i) r
noncomputable def pk2(k n:Af):Ac Af:=(A5 ((n-min k n+1)/2)).map λj=>min k n+2*j
noncomputable def UZ(k:Af)(xs:Ac D):Ac D:=(pk2 k xs.length).filterMap λi=>xs[i]?
noncomputable def ddS(acc:Ac Ah)(x:Ah):Ac Ah:=if acc.any (· == x)=Ab then acc else acc++[x]
noncomputable def ddN(is:Ac Ah):Af:=(is.foldl ddS []).length
noncomputable def Ua(xs:Ac D):R D:=match ID xs with
  |some is=>if De is.length 4000=Ab then .ok (.int (ddN is)) else .bad
  |none=>.bad
noncomputable def mmD(mx:Am)(x y:D):R D:=if [x,y].all (λd=>rkD 1 d && !eqD d (.tup []))=Ab then .ok (if (if mx=Ab then ltD 1 x y else ltD 1 y x)=Ab then y else x) else .bad
noncomputable def UV(x y:D):R D:=if [x,y].all (λd=>rkD 1 d && !eqD d (.tup []))=Ab then .ok (.bl (ltD 1 x y)) else .bad
noncomputable def Yw(k:Ac Ah):Ah:=reduceHash (Builtin.Tuple.tupleHashOf (k.map hashInt))
noncomputable def Ux:Ac D->Ao (Ac (Ac Ah))
 |[]=>Aa []
 |.tup xs::r=>(ID xs).bind λk=>(Ux r).map (k :: ·)
 |_=>Ae
noncomputable def Vh:Ac Ah->Am
 |[]=>Ab
 |h::r=>!r.contains h&&Vh r
noncomputable def rJ(xs:Ac D):R D:=match Ux xs with
  |some ks=>if (De ks.length 3&&Vh (ks.map Yw))=Ab then .ok (.int ks.length) else .bad
  |none=>.bad
noncomputable def Kw:Ac D->Ao (Ac Ag)
 |[]=>Aa []
 |.str x::r=>(Kw r).map (x :: ·)
 |_=>Ae
noncomputable def OR(s:Ag)(xs:Ac D):R D:=match Kw xs with
  |some ss=>if IW s ss=Ab then .ok (.str (Em s ss)) else .bad
  |none=>.bad
noncomputable def LL(i:Ah):Am:=decide (i.natAbs<1000)
noncomputable def Hq(x y:Ag):Am:=De x.length 1000000&&De (Wp x (D7 x y 0 x.length (x.length+1)) y.length).length 1000000
noncomputable def DE(x:Ag)(l h:Ao Ah):Ag:=if ((EG l h 1 x.length).length==x.length)=Ab then x else ⟨((EG l h 1 x.length).filterMap (x.cps[·]?)).toArray⟩
noncomputable def LB(xs:Ac D)(x:D):R D:=if (flD 5 x&&xs.all (flD 5))=Ab then (match xs.findIdx? λy=>eqD y x with
  |some j=>.ok (.int (j:Af))
  | none=>.bad) else .bad
noncomputable def biD:BI->Ac D->R D
  |.len,[.lst xs]=>.ok (.int xs.length)
  |.len,[.tup xs]=>.ok (.int xs.length)
  |.len,[.str x]=>if B8 x.length=Ab then .ok (.int x.length) else .bad
  |.abs,[.int i]=>.ok (.int (if i<0 then -i else i))
  |.max,[.int i,.int j]=>.ok (.int (if i<j then j else i))
  |.min,[.int i,.int j]=>.ok (.int (if j<i then j else i))
  |.min,[.lst xs]=>match ID xs with
    |some (i::is)=>.ok (.int (HU i is))
    |_=>.bad
  |.int,[.int i]=>.ok (.int i)
  |.int,[.bl b]=>.ok (.int (b2i b))
  |.list,[.lst xs]=>.ok (.lst xs)
  |.list,[.tup xs]=>.ok (.lst xs)
  |.tuple,[.lst xs]=>.ok (.tup xs)
  |.tuple,[.tup xs]=>.ok (.tup xs)
  |.all,[.lst xs]=>(Hk xs).bind λb=>.ok (.bl b)
  |.any,[.lst xs]=>(Gg xs).bind λb=>.ok (.bl b)
  |.any,[.tup xs]=>(Gg xs).bind λb=>.ok (.bl b)
  |.sum,[.lst xs]=>(LK 0 xs).bind λi=>.ok (.int i)
  |.sum,[.tup xs]=>(LK 0 xs).bind λi=>.ok (.int i)
  |.sorted,[.lst xs]=>(RP xs).bind λys=>.ok (.lst ys)
  |.index,[.lst xs,x]=>LB xs x
  |.count,[.lst xs,x]=>if (flD 5 x&&xs.all (flD 5))=Ab then .ok (.int ((xs.filter λy=>eqD y x).length:Af)) else .bad
  |.len,[.dic kvs]=>.ok (.int kvs.length)
  |.stp,[.lst xs,.int k]=>.ok (.lst (UZ k.toNat xs))
  |.lset,[.lst xs]=>Ua xs
  |.lset,[.tup xs]=>rJ xs
  |.sjoin,[.str s,.lst xs]=>OR s xs
  |.str,[.int i]=>if LL i=Ab then .ok (.str (Ai (toString i))) else .bad
  |.ssplit,[.str x,.str y]=>if (!(y.length==0)&&Hq x y)=Ab then .ok (.lst ((Eg x y).map D.str)) else .bad
  |.tmin,[x,y]=>mmD Ad x y
  |.tmax,[x,y]=>mmD Ab x y
  |.tlt,[x,y]=>UV x y
  |.rvs,[.lst xs]=>.ok (.lst xs.reverse)
  |_,_=>.bad
noncomputable def slE(c:E)(d:D):R (Ao Ah):=match c with
  |.non=>.ok Ae
  |_=>(Fl d).bind λi=>.ok (Aa i)
noncomputable def IF(n d:Af):Ao Ah->Af
 |none=>d
 |some i=>if i<0 then (i+n).toNat else min i.toNat n
noncomputable def EE(xs:Ac D)(lo hi:Ao Ah):Ac D:=(xs.drop (IF xs.length 0 lo)).take (IF xs.length xs.length hi-IF xs.length 0 lo)
noncomputable def slD:D->Ao Ah->Ao Ah->R D
 |.lst xs,l,h=>.ok (.lst (EE xs l h))
 |.tup xs,l,h=>if (IF xs.length 0 l==0&&IF xs.length xs.length h==xs.length)=Ab then .bad else .ok (.tup (EE xs l h))
 |.str x,l,h=>if (B8 x.length&&B8 (DE x l h).length)=Ab then .ok (.str (DE x l h)) else .bad
 |_,_,_=>.bad
noncomputable def oup:Af->Ac Af
 |0=>[0]
 |1=>[1,0]
 |2=>[2,0]
 |_=>[]
noncomputable def ofD:D->Ag->R D
  |.obj _ fs,f=>match fs.lookup f with
    |some d=>.ok d
    |none=>.bad
  |_,_=>.bad
noncomputable def Qe(k:Af):D->R D
 |.obj c _=>.ok (.bl ((oup c).contains k))
 |_=>.bad
noncomputable def LH(F:Af->Ac D->R D)(m:Ag)(ms:Ac (Af×Af)):D->R D
  |.obj c fs=>match ms.lookup c with
    |some id=>if (fs.lookup m).isNone=Ab then F id [.obj c fs] else .bad
    |none=>.bad
  |_=>.bad
noncomputable def EC(c:Af):D->R D
 |.tup [a,b]=>if nlD 5 b=Ab then .ok (.obj c [("p",a),("triple",b)]) else .bad
 |_=>.bad
noncomputable def KM:D->Ag->R D
  |.exc _ fs,f=>match fs.lookup f with
    |some d=>.ok d
    |none=>.bad
  |_,_=>.bad
noncomputable def FH(U:Rho)(i:Af):R D:=match U[i]? with
  |some (Aa (d,Ad))=>.ok d
  |_=>.bad
noncomputable def Yo:D->R D
 |.lst xs=>.ok (.lst xs)
 |_=>.bad
noncomputable def DO(U:Rho)(i:Af):R D:=match U[i]? with
  |some (Aa (d,Ad))=>.ok d
  |some (Aa (d,Ab))=>Yo d
  |_=>.bad
noncomputable def shE(U:Rho):E->Am
  | .var i=>(match U[i]? with
    |some (Aa (_,Ab))=>Ad
    | _=>Ab)
  |_=>Ab
noncomputable def Hr(U:Rho):Es->Am
 |.nil=>Ab
 |.cons e es=>shE U e&&Hr U es
noncomputable def EB:Ac Af->Ac D->Rho->Ao Rho
 |[],[],U=>Aa U
 |t::ts,d::ds,U=>EB ts ds (U.set t (Aa (d,Ad)))
 |_,_,_=>Ae
noncomputable def EK(ts:Ac Af)(d:D)(U:Rho):R Rho:=match d with
  | .tup xs=>(match EB ts xs U with
    |some U'=>.ok U'
    | none=>.bad)
  |_=>.bad
noncomputable def M9(ts:Ac Af)(d:D)(U:Rho):R Rho:=match d with
  | .lst xs=>(match EB ts xs U with
    |some U'=>.ok U'
    | none=>.bad)
  |d=>EK ts d U
noncomputable def Bq(g:D->R Am)(f:D->R D):Ac D->R (Ac D)
 |[]=>.ok []
 |x::xs=>(g x).bind λb=>if b=Ab then (f x).bind λy=>(Bq g f xs).bind λys=>.ok (y::ys) else Bq g f xs
noncomputable def noX{α:Type}:R α->R α
 |.ok a=>.ok a
 |_=>.bad
noncomputable def top(U:Rho)(e:E)(r:R D):R D:=match e with
  |.var i=>DO U i
  |_=>r
mutual
noncomputable def evE(Z:Gam)(U:Rho):E->R D
 |.non=>.ok .non
 |.bl b=>.ok (.bl b)
 |.int i=>.ok (.int i)
 |.str x=>.ok (.str x)
 |.var i=>FH U i
 |.glob g=>.ok (Z.G g)
 |.bin op a b=>(top U a (evE Z U a)).bind λx=>(top U b (evE Z U b)).bind λy=>Cz op x y
 |.un op a=>(top U a (evE Z U a)).bind λx=>unD op x
 |.no a=>(top U a (evE Z U a)).bind λx=>(Dt x).bind λb=>.ok (.bl (!b))
 |.and es=>evN Z U es
 |.or es=>evO Z U es
 |.cmp op a b=>(top U a (evE Z U a)).bind λx=>(top U b (evE Z U b)).bind λy=>Bj op x y
 |.cmp2 op op' a b c=>(top U a (evE Z U a)).bind λx=>(top U b (evE Z U b)).bind λy=>(Bj op x y).bind λz=>(Dt z).bind λk=>if k=Ab then (top U c (evE Z U c)).bind λu=>Bj op' y u else .ok (.bl Ad)
 |.ite c a b=>(top U c (evE Z U c)).bind λx=>(BS x).bind λk=>if k=Ab then evE Z U a else evE Z U b
 |.call f as=>(evB Z U as).bind λxs=>(Z.F f xs).bind λd=>if Hr U as=Ab then .ok d else if FK (Z.fr f) d=Ab then .ok d else .bad
 |.bi b as=>(evB Z U as).bind λxs=>biD b xs
 |.isi a ks=>(top U a (evE Z U a)).bind λx=>Er Z.up ks x
 |.idx a i=>(top U a (evE Z U a)).bind λx=>(top U i (evE Z U i)).bind λy=>FJ x y
 |.sl a lo hi=>(top U a (evE Z U a)).bind λx=>(top U lo (evE Z U lo)).bind λl=>(slE lo l).bind λl'=>(top U hi (evE Z U hi)).bind λh=>(slE hi h).bind λh'=>slD x l' h'
 |.tup es=>(evA Z U es).bind λxs=>.ok (.tup xs)
 |.lst es=>(evA Z U es).bind λxs=>.ok (.lst xs)
 |.comp elt t it c=>(evI Z U it).bind λxs=>(noX (Bq (λx=>(top (U.set t (Aa (x,Ad))) c (evE Z (U.set t (Aa (x,Ad))) c)).bind BS) (λx=>evE Z (U.set t (Aa (x,Ad))) elt) xs)).bind λys=>.ok (.lst ys)
 |.compT elt ts it c=>(evI Z U it).bind λxs=>(noX (Bq (λx=>(EK ts x U).bind λU'=>(top U' c (evE Z U' c)).bind BS) (λx=>(EK ts x U).bind λU'=>evE Z U' elt) xs)).bind λys=>.ok (.lst ys)
 |.tupI it=>(evI Z U it).bind λxs=>.ok (.tup xs)
 |.dnew=>.ok (.dic [])
 |.fld o f=>(top U o (evE Z U o)).bind λx=>KM x f
 |.mkx c as=>(noX (evA Z U as)).bind λxs=>(Z.xn c xs).bind λx=>.ok (.exc x.c x.fs)
 |.ofl o f=>(top U o (evE Z U o)).bind λx=>ofD x f
 |.iso a k=>(top U a (evE Z U a)).bind λx=>Qe k x
 |.meth m ms o=>(top U o (evE Z U o)).bind λx=>LH Z.F m ms x
 |.mkob c e=>(noX (evE Z U e)).bind λx=>EC c x
 |.mkn c as=>(noX (evA Z U as)).bind λxs=>Z.F (900+c) xs
noncomputable def evN(Z:Gam)(U:Rho):Es->R D
 |.nil=>.bad
 |.cons e .nil=>evE Z U e
 |.cons e (.cons e' es)=>(evE Z U e).bind λx=>(Dt x).bind λc=>if c=Ab then evN Z U (.cons e' es) else .ok (.bl Ad)
noncomputable def evO(Z:Gam)(U:Rho):Es->R D
 |.nil=>.bad
 |.cons e .nil=>evE Z U e
 |.cons e (.cons e' es)=>(evE Z U e).bind λx=>(Dt x).bind λc=>if c=Ab then .ok (.bl Ab) else evO Z U (.cons e' es)
noncomputable def evA(Z:Gam)(U:Rho):Es->R (Ac D)
 |.nil=>.ok []
 |.cons e es=>(evE Z U e).bind λx=>(evA Z U es).bind λxs=>.ok (x::xs)
noncomputable def evB(Z:Gam)(U:Rho):Es->R (Ac D)
 |.nil=>.ok []
 |.cons e es=>(top U e (evE Z U e)).bind λx=>(evB Z U es).bind λxs=>.ok (x::xs)
noncomputable def evI(Z:Gam)(U:Rho):I->R (Ac D)
 |.e a=>(evE Z U a).bind Eo
 |.rng a=>(top U a (evE Z U a)).bind λx=>(Fl x).bind λj=>D8 0 j
 |.rng2 a b=>(top U a (evE Z U a)).bind λx=>(top U b (evE Z U b)).bind λy=>(Fl x).bind λi=>(Fl y).bind λj=>D8 i j
 |.zip a b=>(evE Z U a).bind λx=>(evE Z U b).bind λy=>(Eo x).bind λxs=>(Eo y).bind λys=>.ok (PZ xs ys)
 |.zip3 a b c=>(evE Z U a).bind λx=>(evE Z U b).bind λy=>(evE Z U c).bind λz=>T6 x y z
 |.enm a=>(evE Z U a).bind λx=>(Eo x).bind λxs=>.ok (CF 0 xs)
end
noncomputable def Dj(Z:Gam):E->Am
 |.lst _=>Ab
 |.comp _ _ _ _=>Ab
 |.compT _ _ _ _=>Ab
 |.dnew=>Ab
 |.bin .Add _ _=>Ab
 |.bi .list _=>Ab
 |.bi .sorted _=>Ab
 |.sl _ _ _=>Ab
 |.call f _=>Z.fr f
 |_=>Ad
mutual
inductive S where
 |pass
 /-- x=e;fresh: x alone holds the new list -/
 |asg (i:Af) (fresh:Am) (e:E)
 /-- a,b,..=e -/
 |asgT (ts:Ac Af) (e:E)
 |expr (e:E)
 |ret (e:E)|retN
 /-- return [f(..) for .. in ..]: what f raises flies out -/
 |retc (ts:Ac Af) (it:I) (f:Af) (as:Es)
 |ife (c:E) (a b:Ss)
 |fors (t:Af) (it:I) (body:Ss)
 |forT (ts:Ac Af) (it:I) (body:Ss)
 /-- for t,u in enumerate(x): x is held alone -/
 |forO (i:Af) (ts:Ac Af) (body:Ss)
 |whl (c:E) (body:Ss)
 /-- raise C(e,..) -/
 |rais (c:Af) (as:Es)
 /-- try: body except C as x: h -/
 |tryx (body:Ss) (c:Af) (x:Af) (h:Ss)
 /-- .. except C as x: h,except C' as x: h',else: els -/
 |try2 (body:Ss) (c:Af) (x:Af) (h:Ss) (c':Af) (h' els:Ss)
 /-- x.append(e),x.extend(e),x.insert(k,e),x.reverse(),x.clear() -/
 |app (i:Af) (e:E)|ext (i:Af) (e:E)|ins (i:Af) (k e:E)|rev (i:Af)|clr (i:Af)
 /-- d[k]=e,d.setdefault(k,e) -/
 |dput (i:Af) (k e:E)|dsd (i:Af) (k e:E)
 /-- x[k]=e -/
 |put (i:Af) (k e:E)
 /-- x[k],x[l]=x[l],x[k] -/
 |swp (i k l:Af)
 /-- x.append(y.pop(e)) -/
 |apop (j i:Af) (e:E)
 |brk|cont
 /-- nothing: from here on x is no longer changed -/
 |rel (i:Af)
inductive Ss where
 |nil|cons (s:S) (ss:Ss)
end
inductive O where
 |next (U:Rho)|ret (d:D) (fr:Am)|brk (U:Rho)|cont (U:Rho)|exn (x:Ex) (U:Rho)|bad
 deriving Inhabited
noncomputable def O.of{α:Type}(U:Rho)(r:R α)(f:α->O):O:=match r with
  |.ok a=>f a
  |.exn x=>.exn x U
  |.bad=>.bad
@[simp]theorem O.of_ok(U:Rho)(a:α)(f:α->O):O.of U (.ok a) f=f a:=rfl
@[simp]theorem O.of_exn(U:Rho)(x:Ex)(f:α->O):O.of U (.exn x:R α) f=.exn x U:=rfl
@[simp]theorem O.of_bad(U:Rho)(f:α->O):O.of U (.bad:R α) f=.bad:=rfl
noncomputable def GW(Z:Gam)(U:Rho)(i:I):R (Ac D):=evI Z U i
noncomputable def D4(U:Rho)(i:Af):R (Ac D):=match U[i]? with
  |some (Aa (.lst xs,Ab))=>.ok xs
  |_=>.bad
noncomputable def UP(U:Rho)(i:Af):R (Ac (Ac Ah×D)):=match U[i]? with
  |some (Aa (.dic xs,Ab))=>.ok xs
  |_=>.bad
noncomputable def UN(d:D):R (Ac Ah):=match Ju d with
  |some k=>.ok k
  |none=>.bad
noncomputable def PL:Af:=4096
noncomputable def O.seq(o:O)(f:Rho->O):O:=match o with
  |.next U=>f U
  |.ret d b=>.ret d b
  |.brk U=>.brk U
  |.cont U=>.cont U
  |.exn x U=>.exn x U
  |.bad=>.bad
noncomputable def O.turn(o:O)(f:Rho->O):O:=match o with
  |.next U=>f U
  |.cont U=>f U
  |.brk U=>.next U
  |.ret d b=>.ret d b
  |.exn x U=>.exn x U
  |.bad=>.bad
noncomputable def Dd(body:D->Rho->O):Ac D->Rho->O
 |[],U=>.next U
 |x::xs,U=>(body x U).turn (Dd body xs)
noncomputable def Jv(c:Rho->R Am)(body:Rho->O):Af->Rho->O
 |0,_=>.bad
 |n+1,U=>O.of U (c U) λb=>if b=Ab then (body U).turn (Jv c body n) else .next U
noncomputable def Uz(U:Rho)(k:Af):R Ah:=(FH U k).bind Fl
noncomputable def tM(U:Rho)(d:D)(i k l:Af):O:=match d with
  |.tup [x,y]=>O.of U (D4 U i) λxs=>O.of U (Uz U k) λa=>O.of U (Uz U l) λb=>match plD xs.length a,plD xs.length b with
    |some m,Aa n=>.next (U.set i (Aa (.lst ((xs.set m x).set n y),Ab)))
    |_,_=>.bad
  |_=>.bad
noncomputable def apD(U:Rho)(j i:Af)(ys xs:Ac D)(n:Ah):O:=match plD xs.length n with
  | some m=>(match xs[m]? with
    |some d=>if (j != i&&(B8 xs.length&&B8 (ys.length+1)))=Ab then .next ((U.set i (Aa (.lst (xs.eraseIdx m),Ab))).set j (Aa (.lst (ys++[d]),Ab))) else .bad
    | none=>.bad)
  |none=>.bad
noncomputable def hdO(i:Af)(y:Ex)(U':Rho)(fh:Rho->O):O:=match fh (U'.set i (Aa (.exc y.c y.fs,Ad))) with
  |.next U''=>.next (U''.set i Ae)
  |.ret d f=>.ret d f
  |_=>.bad
noncomputable def Ng(U:Rho)(i:Af):D->O
 |.lst xs=>.next (U.set i (Aa (.lst xs,Ad)))
 |_=>.bad
noncomputable def GA(U:Rho)(i:Af):Am:=match U[i]? with
  |some (Aa (.non,Ab))=>Ab
  |_=>Ad
noncomputable def JS(i:Af)(xs:Ac D):O->O
 |.next U=>if GA U i=Ab then .next (U.set i (Aa (.lst xs,Ab))) else .bad
 |.ret d fr=>.ret d fr
 |_=>.bad
mutual
noncomputable def evS(Z:Gam)(U:Rho):S->O
  |.pass=>.next U
  | .asg i fresh e=>O.of U (evE Z U e) λd=>if fresh=Ab then (if Dj Z e=Ab then (match d with
      |.lst xs=>.next (U.set i (Aa (.lst xs,Ab)))
      |.dic xs=>.next (U.set i (Aa (.dic xs,Ab)))
      | _=>.bad) else .bad) else .next (U.set i (Aa (d,Ad)))
  |.asgT ts e=>O.of U (evE Z U e) λd=>O.of U (M9 ts d U) λU'=>.next U'
  |.expr e=>O.of U (evE Z U e) λ_=>.next U
  |.ret e=>O.of U (top U e (evE Z U e)) λd=>.ret d (Dj Z e||(match e with | .var i=>(match U[i]? with|some (Aa (_,o))=>o|_=>Ad)|_=>Ad))
  |.retN=>.ret .non Ad
  |.retc ts it f as=>O.of U ((GW Z U it).bind λxs=>(Bq (λx=>(EK ts x U).bind λ_=>.ok Ab) (λx=>(EK ts x U).bind λU'=>evE Z U' (.call f as)) xs).bind λys=>.ok (.lst ys)) λd=>.ret d Ab
  |.ife c a b=>O.of U ((top U c (evE Z U c)).bind BS) λk=>if k=Ab then evSs Z U a else evSs Z U b
  |.fors t it body=>O.of U (GW Z U it) λxs=>Dd (λx U'=>evSs Z (U'.set t (Aa (x,Ad))) body) xs U
  |.forT ts it body=>O.of U (GW Z U it) λxs=>Dd (λx U'=>O.of U' (EK ts x U') λU''=>evSs Z U'' body) xs U
  |.forO i ts body=>O.of U (D4 U i) λxs=>JS i xs (Dd (λx U'=>if GA U' i=Ab then O.of U' (EK ts x U') λU''=>evSs Z U'' body else .bad) (CF 0 xs) (U.set i (Aa (.non,Ab))))
  |.whl c body=>Jv (λU'=>(top U' c (evE Z U' c)).bind BS) (λU'=>evSs Z U' body) PL U
  |.rais c as=>O.of U (noX (evA Z U as)) λxs=>O.of U (Z.xn c xs) λx=>.exn x U
  |.tryx body c x h=>match evSs Z U body with
      | .exn y U'=>if (Z.up y.c).contains c=Ab then (match evSs Z (U'.set x (Aa (.exc y.c y.fs,Ad))) h with
          |.next U''=>.next (U''.set x Ae)
          |.ret d f=>.ret d f
          | _=>.bad) else .bad
      |o=>o
  |.try2 body c x h c' h' els=>match evSs Z U body with
      |.exn y U'=>if (Z.up y.c).contains c=Ab then hdO x y U' (λr=>evSs Z r h) else if (Z.up y.c).contains c'=Ab then hdO x y U' (λr=>evSs Z r h') else .bad
      |.next U'=>evSs Z U' els
      |o=>o
  |.app i e=>O.of U (D4 U i) λxs=>O.of U (evE Z U e) λd=>if B8 (xs.length+1)=Ab then .next (U.set i (Aa (.lst (xs++[d]),Ab))) else .bad
  |.ext i e=>O.of U (D4 U i) λxs=>O.of U (evE Z U e) λd=>O.of U (PF d) λys=>if B8 (xs.length+ys.length)=Ab then .next (U.set i (Aa (.lst (xs++ys),Ab))) else .bad
  |.ins i k e=>O.of U (D4 U i) λxs=>O.of U ((top U k (evE Z U k)).bind Fl) λj=>O.of U (evE Z U e) λd=>if (B8 (xs.length+1)&&decide (0<=j)&&decide (j<=xs.length))=Ab then .next (U.set i (Aa (.lst (xs.take j.toNat++d::xs.drop j.toNat),Ab))) else .bad
  |.rev i=>O.of U (D4 U i) λxs=>.next (U.set i (Aa (.lst xs.reverse,Ab)))
  |.clr i=>O.of U (D4 U i) λ_=>.next (U.set i (Aa (.lst [],Ab)))
  |.dput i k e=>O.of U (evE Z U e) λd=>O.of U (UP U i) λxs=>O.of U ((evE Z U k).bind UN) λj=>if B8 (xs.length+1)=Ab then .next (U.set i (Aa (.dic (S5 xs j d),Ab))) else .bad
  |.dsd i k e=>O.of U (UP U i) λxs=>O.of U ((evE Z U k).bind UN) λj=>O.of U (evE Z U e) λd=>if B8 (xs.length+1)=Ab then .next (U.set i (Aa (.dic (if (xs.any λp=>p.1==j)=Ab then xs else S5 xs j d),Ab))) else .bad
  |.put i k e=>O.of U (evE Z U e) λd=>O.of U (D4 U i) λxs=>O.of U ((top U k (evE Z U k)).bind Fl) λj=>match plD xs.length j with
      |some n=>.next (U.set i (Aa (.lst (xs.set n d),Ab)))
      |none=>.bad
  |.swp i k l=>O.of U (evE Z U (.tup (.cons (.idx (.var i) (.var l)) (.cons (.idx (.var i) (.var k)) .nil)))) λd=>tM U d i k l
  |.apop j i e=>O.of U (D4 U j) λys=>O.of U (D4 U i) λxs=>O.of U (evE Z U e) λd=>O.of U (Fl d) λn=>apD U j i ys xs n
  |.brk=>.brk U
  |.cont=>.cont U
  |.rel i=>match U[i]? with
      |some (Aa (d,Ab))=>Ng U i d
      |_=>.next U
noncomputable def evSs(Z:Gam)(U:Rho):Ss->O
 |.nil=>.next U
 |.cons s ss=>(evS Z U s).seq λU'=>evSs Z U' ss
end
structure Df where
 n:Af
 fr:Am
 body:Ss
noncomputable def Bu(n:Af)(ds:Ac D):Rho:=ds.map (λd=>Aa (d,Ad))++Gq (n-ds.length) Ae
noncomputable def isL:D->Am
 |.lst _=>Ab
 |.dic _=>Ab
 |_=>Ad
noncomputable def O.ans(fr:Am)(o:O):R D:=match o with
  |.ret d b=>if (fr&&(!b&&isL d))=Ab then .bad else .ok d
  |.next _=>if fr=Ab then .bad else .ok .non
  |.exn x _=>.exn x
  |_=>.bad
noncomputable def Df.run(Z:Gam)(f:Df)(ds:Ac D):R D:=(evSs Z (Bu f.n ds) f.body).ans f.fr
structure Prg where
 xs:Am
 defs:Af->Df
 G:Af->D
 up:Af->Ac Af
 xn:Af->Ac D->R Ex
noncomputable def E9(xs:Am)(r:R D):R D:=match xs with
  |true=>r
  |false=>noX r
noncomputable def gam(P:Prg):Af->Gam
 |0=>⟨λ_ _=>.bad,P.G,P.up,λi=>(P.defs i).fr,P.xn⟩
 |n+1=>⟨λi ds=>E9 P.xs ((P.defs i).run (gam P n) ds),P.G,P.up,λi=>(P.defs i).fr,P.xn⟩
end Ov
end
section
namespace Ov
open PySem
variable{α:Type}{lo hi:Ah}
section
variable(Z:Gam)(U:Rho)
@[simp]theorem ZxG:evE Z U .non=.ok .non:=rfl
@[simp]theorem ZzD(b):evE Z U (.bl b)=.ok (.bl b):=rfl
@[simp]theorem ZxN(b):evE Z U (.int b)=.ok (.int b):=rfl
@[simp]theorem SM(b):evE Z U (.str b)=.ok (.str b):=rfl
@[simp]theorem ZxD(i):evE Z U (.var i)=FH U i:=rfl
@[simp]theorem Zt0(i):evE Z U (.glob i)=.ok (Z.G i):=rfl
@[simp]theorem ZxQ(op a b):evE Z U (.bin op a b)=(top U a (evE Z U a)).bind λx=>(top U b (evE Z U b)).bind λy=>Cz op x y:=rfl
@[simp]theorem Zzz(op a):evE Z U (.un op a)=(top U a (evE Z U a)).bind λx=>unD op x:=rfl
@[simp]theorem ZzC(a):evE Z U (.no a)=(top U a (evE Z U a)).bind λx=>(Dt x).bind λb=>.ok (.bl (!b)):=rfl
@[simp]theorem ZxR(es):evE Z U (.and es)=evN Z U es:=rfl
@[simp]theorem ZzB(es):evE Z U (.or es)=evO Z U es:=rfl
@[simp]theorem Zxz(e):evN Z U (.cons e .nil)=evE Z U e:=rfl
@[simp]theorem ZtR(e e' es):evN Z U (.cons e (.cons e' es))=(evE Z U e).bind λx=>(Dt x).bind λc=>if c=Ab then evN Z U (.cons e' es) else .ok (.bl Ad):=rfl
@[simp]theorem Zxy(e):evO Z U (.cons e .nil)=evE Z U e:=rfl
@[simp]theorem ZtQ(e e' es):evO Z U (.cons e (.cons e' es))=(evE Z U e).bind λx=>(Dt x).bind λc=>if c=Ab then .ok (.bl Ab) else evO Z U (.cons e' es):=rfl
@[simp]theorem iR(op a b):evE Z U (.cmp op a b)=(top U a (evE Z U a)).bind λx=>(top U b (evE Z U b)).bind λy=>Bj op x y:=rfl
@[simp]theorem Zt3(op op' a b c):evE Z U (.cmp2 op op' a b c)=(top U a (evE Z U a)).bind λx=>(top U b (evE Z U b)).bind λy=>(Bj op x y).bind λz=>(Dt z).bind λk=>if k=Ab then (top U c (evE Z U c)).bind λu=>Bj op' y u else .ok (.bl Ad):=rfl
@[simp]theorem ZxK(c a b):evE Z U (.ite c a b)=(top U c (evE Z U c)).bind λx=>(BS x).bind λk=>if k=Ab then evE Z U a else evE Z U b:=rfl
@[simp]theorem Zt4(f as):evE Z U (.call f as)=(evB Z U as).bind λxs=>(Z.F f xs).bind λd=>if Hr U as=Ab then .ok d else if FK (Z.fr f) d=Ab then .ok d else .bad:=rfl
@[simp]theorem MG(f as):evE Z U (.bi f as)=(evB Z U as).bind λxs=>biD f xs:=rfl
@[simp]theorem ZxM(a ks):evE Z U (.isi a ks)=(top U a (evE Z U a)).bind λx=>Er Z.up ks x:=rfl
@[simp]theorem ZxO(a i):evE Z U (.idx a i)=(top U a (evE Z U a)).bind λx=>(top U i (evE Z U i)).bind λy=>FJ x y:=rfl
@[simp]theorem ZzA(a lo hi):evE Z U (.sl a lo hi)=(top U a (evE Z U a)).bind λx=>(top U lo (evE Z U lo)).bind λl=>(slE lo l).bind λl'=>(top U hi (evE Z U hi)).bind λh=>(slE hi h).bind λh'=>slD x l' h':=rfl
@[simp]theorem ZxE(es):evE Z U (.tup es)=(evA Z U es).bind λxs=>.ok (.tup xs):=rfl
@[simp]theorem ZxJ(es):evE Z U (.lst es)=(evA Z U es).bind λxs=>.ok (.lst xs):=rfl
noncomputable def cG(Z:Gam)(U:Rho)(t:Af)(c:E):D->R Am:=λx=>(top (U.set t (Aa (x,Ad))) c (evE Z (U.set t (Aa (x,Ad))) c)).bind BS
noncomputable def cF(Z:Gam)(U:Rho)(t:Af)(elt:E):D->R D:=λx=>evE Z (U.set t (Aa (x,Ad))) elt
noncomputable def mkL(r:R (Ac D)):R D:=(noX r).bind λys=>.ok (.lst ys)
@[simp]theorem Zy6(ys):mkL (.ok ys)=.ok (.lst ys):=rfl
@[simp]theorem Zt2(elt t it c):evE Z U (.comp elt t it c)=(evI Z U it).bind λxs=>mkL (Bq (cG Z U t c) (cF Z U t elt) xs):=rfl
noncomputable def cGT(Z:Gam)(U:Rho)(ts:Ac Af)(c:E):D->R Am:=λx=>(EK ts x U).bind λU'=>(top U' c (evE Z U' c)).bind BS
noncomputable def cFT(Z:Gam)(U:Rho)(ts:Ac Af)(elt:E):D->R D:=λx=>(EK ts x U).bind λU'=>evE Z U' elt
@[simp]theorem ZrO(elt ts it c):evE Z U (.compT elt ts it c)=(evI Z U it).bind λxs=>mkL (Bq (cGT Z U ts c) (cFT Z U ts elt) xs):=rfl
@[simp]theorem ZtX(it):evE Z U (.tupI it)=(evI Z U it).bind λxs=>.ok (.tup xs):=rfl
@[simp]theorem Zt1:evE Z U .dnew=.ok (.dic []):=rfl
@[simp]theorem ZxF(o f):evE Z U (.ofl o f)=(top U o (evE Z U o)).bind λx=>ofD x f:=rfl
@[simp]theorem ZxL(a k):evE Z U (.iso a k)=(top U a (evE Z U a)).bind λx=>Qe k x:=rfl
@[simp]theorem ZtZ(m ms o):evE Z U (.meth m ms o)=(top U o (evE Z U o)).bind λx=>LH Z.F m ms x:=rfl
@[simp]theorem ZtY(c e):evE Z U (.mkob c e)=(noX (evE Z U e)).bind λx=>EC c x:=rfl
@[simp]theorem ZxI(c as):evE Z U (.mkn c as)=(noX (evA Z U as)).bind λxs=>Z.F (900+c) xs:=rfl
@[simp]theorem ZxH(c as):evE Z U (.mkx c as)=(noX (evA Z U as)).bind λxs=>(Z.xn c xs).bind λx=>.ok (.exc x.c x.fs):=rfl
@[simp]theorem ZxP(o f):evE Z U (.fld o f)=(top U o (evE Z U o)).bind λx=>KM x f:=rfl
@[simp]theorem ZxT:evA Z U .nil=.ok []:=rfl
@[simp]theorem Ry(e es):evA Z U (.cons e es)=(evE Z U e).bind λx=>(evA Z U es).bind λxs=>.ok (x::xs):=rfl
@[simp]theorem ZxS:evB Z U .nil=.ok []:=rfl
@[simp]theorem Oe(e es):evB Z U (.cons e es)=(top U e (evE Z U e)).bind λx=>(evB Z U es).bind λxs=>.ok (x::xs):=rfl
@[simp]theorem ZAw(a):evI Z U (.e a)=(evE Z U a).bind Eo:=rfl
@[simp]theorem ZxB(a):evI Z U (.rng a)=(top U a (evE Z U a)).bind λx=>(Fl x).bind λj=>D8 0 j:=rfl
@[simp]theorem ZtW(a b):evI Z U (.rng2 a b)=(top U a (evE Z U a)).bind λx=>(top U b (evE Z U b)).bind λy=>(Fl x).bind λi=>(Fl y).bind λj=>D8 i j:=rfl
@[simp]theorem ZxA(a b):evI Z U (.zip a b)=(evE Z U a).bind λx=>(evE Z U b).bind λy=>(Eo x).bind λxs=>(Eo y).bind λys=>.ok (PZ xs ys):=rfl
@[simp]theorem ZtV(a b c):evI Z U (.zip3 a b c)=(evE Z U a).bind λx=>(evE Z U b).bind λy=>(evE Z U c).bind λz=>T6 x y z:=rfl
@[simp]theorem ZxC(a):evI Z U (.enm a)=(evE Z U a).bind λx=>(Eo x).bind λxs=>.ok (CF 0 xs):=rfl
@[simp]theorem ZtS(a b):GW Z U (.zip a b)=evI Z U (.zip a b):=rfl
@[simp]theorem ZrM(a b c):GW Z U (.zip3 a b c)=evI Z U (.zip3 a b c):=rfl
@[simp]theorem ZtU(a):GW Z U (.enm a)=evI Z U (.enm a):=rfl
@[simp]theorem Zzy(a):GW Z U (.e a)=(evE Z U a).bind Eo:=rfl
@[simp]theorem ZtT(a):GW Z U (.rng a)=evI Z U (.rng a):=rfl
@[simp]theorem ZrN(a b):GW Z U (.rng2 a b)=evI Z U (.rng2 a b):=rfl
variable(r:R D)
@[simp]theorem RZ(i):top U (.var i) r=DO U i:=rfl
@[simp]theorem ZuC:top U .non r=r:=rfl
@[simp]theorem Zyx(b):top U (.bl b) r=r:=rfl
@[simp]theorem ZuJ(b):top U (.int b) r=r:=rfl
@[simp]theorem R0(b):top U (.str b) r=r:=rfl
@[simp]theorem Zs3(b):top U (.glob b) r=r:=rfl
@[simp]theorem ZuN(op a b):top U (.bin op a b) r=r:=rfl
@[simp]theorem Zyt(op a):top U (.un op a) r=r:=rfl
@[simp]theorem Zyw(a):top U (.no a) r=r:=rfl
@[simp]theorem ZuO(a):top U (.and a) r=r:=rfl
@[simp]theorem Zyv(a):top U (.or a) r=r:=rfl
@[simp]theorem ZuM(op a b):top U (.cmp op a b) r=r:=rfl
@[simp]theorem Zs6(op op' a b c):top U (.cmp2 op op' a b c) r=r:=rfl
@[simp]theorem ZuG(a b c):top U (.ite a b c) r=r:=rfl
@[simp]theorem Zs7(a b):top U (.call a b) r=r:=rfl
@[simp]theorem Zyy(a b):top U (.bi a b) r=r:=rfl
@[simp]theorem ZuI(a b):top U (.isi a b) r=r:=rfl
@[simp]theorem ZuK(a b):top U (.idx a b) r=r:=rfl
@[simp]theorem Zyu(a b c):top U (.sl a b c) r=r:=rfl
@[simp]theorem ZuA(a):top U (.tup a) r=r:=rfl
@[simp]theorem ZuF(a):top U (.lst a) r=r:=rfl
@[simp]theorem Zs5(a b c d):top U (.comp a b c d) r=r:=rfl
@[simp]theorem ZuB(a b):top U (.ofl a b) r=r:=rfl
@[simp]theorem ZuH(a b):top U (.iso a b) r=r:=rfl
@[simp]theorem Zs2(a b c):top U (.meth a b c) r=r:=rfl
@[simp]theorem Zs1(a b):top U (.mkob a b) r=r:=rfl
@[simp]theorem ZuE(a b):top U (.mkn a b) r=r:=rfl
@[simp]theorem ZuD(a b):top U (.mkx a b) r=r:=rfl
@[simp]theorem ZuL(a b):top U (.fld a b) r=r:=rfl
@[simp]theorem ZpA(a b c d):top U (.compT a b c d) r=r:=rfl
@[simp]theorem Zs0(a):top U (.tupI a) r=r:=rfl
@[simp]theorem Zs4:top U .dnew r=r:=rfl
end
@[simp]theorem Zpr(d:D)(U:Rho):DO (Aa (d,Ad)::U) 0=.ok d:=rfl
@[simp]theorem Zo1(xs:Ac D)(U:Rho):DO (Aa (.lst xs,Ab)::U) 0=.ok (.lst xs):=rfl
@[simp]theorem Zpt(x:D)(U:Rho):FH (Aa (x,Ad)::U) 0=.ok x:=rfl
@[simp]theorem Zo2(x:Sl)(U:Rho)(i:Af)[NeZero i]:DO (x::U) i=DO U (i-1):=by
 obtain⟨j,rfl⟩:∃ j,i=j+1:=⟨i-1,by have:=KQ i;omega⟩
 rfl
@[simp]theorem Zo3(x:Sl)(U:Rho)(i:Af)[NeZero i]:FH (x::U) i=FH U (i-1):=by
 obtain⟨j,rfl⟩:∃ j,i=j+1:=⟨i-1,by have:=KQ i;omega⟩
 rfl
noncomputable def shV(U:Rho)(i:Af):Am:=match U[i]? with
    |some (Aa (_,Ab))=>Ad
    |_=>Ab
@[simp]theorem Zta(x:D)(b:Am)(U:Rho):shV (Aa (x,b)::U) 0=!b:=by cases b<;>rfl
@[simp]theorem Zp1(U:Rho):shV (Ae::U) 0=Ab:=rfl
@[simp]theorem Zp2(x:Sl)(U:Rho)(i:Af)[NeZero i]:shV (x::U) i=shV U (i-1):=by
 obtain⟨j,rfl⟩:∃ j,i=j+1:=⟨i-1,by have:=KQ i;omega⟩
 rfl
section
variable(U:Rho)
@[simp]theorem Zvh(i):shE U (.var i)=shV U i:=rfl
@[simp]theorem Zvl:shE U .non=Ab:=rfl
@[simp]theorem ZyO(b):shE U (.bl b)=Ab:=rfl
@[simp]theorem Zvs(b):shE U (.int b)=Ab:=rfl
@[simp]theorem Zvj(b):shE U (.str b)=Ab:=rfl
@[simp]theorem Ztf(b):shE U (.glob b)=Ab:=rfl
@[simp]theorem Zvw(op a b):shE U (.bin op a b)=Ab:=rfl
@[simp]theorem ZyK(op a):shE U (.un op a)=Ab:=rfl
@[simp]theorem ZyN(a):shE U (.no a)=Ab:=rfl
@[simp]theorem Zvx(a):shE U (.and a)=Ab:=rfl
@[simp]theorem ZyM(a):shE U (.or a)=Ab:=rfl
@[simp]theorem Zvv(op a b):shE U (.cmp op a b)=Ab:=rfl
@[simp]theorem Zti(op op' a b c):shE U (.cmp2 op op' a b c)=Ab:=rfl
@[simp]theorem Zvp(a b c):shE U (.ite a b c)=Ab:=rfl
@[simp]theorem Ztj(a b):shE U (.call a b)=Ab:=rfl
@[simp]theorem ZyP(a b):shE U (.bi a b)=Ab:=rfl
@[simp]theorem Zvr(a b):shE U (.isi a b)=Ab:=rfl
@[simp]theorem Zvt(a b):shE U (.idx a b)=Ab:=rfl
@[simp]theorem ZyL(a b c):shE U (.sl a b c)=Ab:=rfl
@[simp]theorem Zvi(a):shE U (.tup a)=Ab:=rfl
@[simp]theorem Zvo(a):shE U (.lst a)=Ab:=rfl
@[simp]theorem Zth(a b c d):shE U (.comp a b c d)=Ab:=rfl
@[simp]theorem Zp3(a b c d):shE U (.compT a b c d)=Ab:=rfl
@[simp]theorem Ztc(a):shE U (.tupI a)=Ab:=rfl
@[simp]theorem Ztg:shE U .dnew=Ab:=rfl
@[simp]theorem Zvk(a b):shE U (.ofl a b)=Ab:=rfl
@[simp]theorem Zvq(a b):shE U (.iso a b)=Ab:=rfl
@[simp]theorem Zte(a b c):shE U (.meth a b c)=Ab:=rfl
@[simp]theorem Ztd(a b):shE U (.mkob a b)=Ab:=rfl
@[simp]theorem Zvn(a b):shE U (.mkn a b)=Ab:=rfl
@[simp]theorem Zvm(a b):shE U (.mkx a b)=Ab:=rfl
@[simp]theorem Zvu(a b):shE U (.fld a b)=Ab:=rfl
@[simp]theorem Ztb:Hr U .nil=Ab:=rfl
@[simp]theorem Zz(e es):Hr U (.cons e es)=(shE U e&&Hr U es):=rfl
end
@[simp]theorem Zo4(U:Rho):EB [] [] U=Aa U:=rfl
@[simp]theorem ZmU(t ts d ds)(U:Rho):EB (t::ts) (d::ds) U=EB ts ds (U.set t (Aa (d,Ad))):=rfl
@[simp]theorem Zsq(ts ds)(U:Rho):M9 ts (.lst ds) U=match EB ts ds U with
  |some U'=>.ok U'
  |none=>.bad:=rfl
@[simp]theorem Zsp(ts ds)(U:Rho):M9 ts (.tup ds) U=EK ts (.tup ds) U:=rfl
@[simp]theorem QK(ts ds)(U:Rho):EK ts (.tup ds) U=match EB ts ds U with
  |some U'=>.ok U'
  |none=>.bad:=rfl
@[simp]theorem Zud{β:Type}(c:Prop)[F2 c](a b:R α)(f:α->R β):(if c then a else b).bind f=if c then a.bind f else b.bind f:=by split<;>rfl
@[simp]theorem Zy4(U:Rho)(c:Prop)[F2 c](a b:R α)(f:α->O):O.of U (if c then a else b) f=if c then O.of U a f else O.of U b f:=by split<;>rfl
@[simp]theorem ZwH{β:Type}(U:Rho)(a:R α)(g:α->R β)(f:β->O):O.of U (a.bind g) f=O.of U a λx=>O.of U (g x) f:=by cases a<;>rfl
@[simp]theorem Zvz(c:Prop)[F2 c](a b:O)(f:Rho->O):O.seq (if c then a else b) f=if c then a.seq f else b.seq f:=by split<;>rfl
@[simp]theorem ZsQ(c:Prop)[F2 c](a b:O)(f:Rho->O):O.turn (if c then a else b) f=if c then a.turn f else b.turn f:=by split<;>rfl
@[simp]theorem Zye(fr:Am)(c:Prop)[F2 c](a b:O):O.ans fr (if c then a else b)=if c then a.ans fr else b.ans fr:=by split<;>rfl
@[simp]theorem Ztk(U f):O.seq (.next U) f=f U:=rfl
@[simp]theorem Zvy(d b f):O.seq (.ret d b) f=.ret d b:=rfl
@[simp]theorem ZvB(U f):O.seq (.brk U) f=.brk U:=rfl
@[simp]theorem Ztl(U f):O.seq (.cont U) f=.cont U:=rfl
@[simp]theorem ZvA(x U f):O.seq (.exn x U) f=.exn x U:=rfl
@[simp]theorem ZvC(f):O.seq .bad f=.bad:=rfl
@[simp]theorem Zpx(U f):O.turn (.next U) f=f U:=rfl
@[simp]theorem ZsP(d b f):O.turn (.ret d b) f=.ret d b:=rfl
@[simp]theorem ZsS(U f):O.turn (.brk U) f=.next U:=rfl
@[simp]theorem Zpy(U f):O.turn (.cont U) f=f U:=rfl
@[simp]theorem ZsR(x U f):O.turn (.exn x U) f=.exn x U:=rfl
@[simp]theorem ZsT(f):O.turn .bad f=.bad:=rfl
@[simp]theorem Zuh(U):O.ans Ad (.next U)=.ok .non:=rfl
@[simp]theorem Zyd(d b):O.ans Ad (.ret d b)=.ok d:=rfl
@[simp]theorem Zug(d b):O.ans Ab (.ret d b)=if (!b&&isL d)=Ab then .bad else .ok d:=rfl
@[simp]theorem Zw7(d):isL (.lst d)=Ab:=rfl
@[simp]theorem Zw6(d):isL (.tup d)=Ad:=rfl
@[simp]theorem Zw8(d):isL (.int d)=Ad:=rfl
@[simp]theorem Zyf(fr x U):O.ans fr (.exn x U)=.exn x:=rfl
@[simp]theorem Zyg(fr):O.ans fr .bad=.bad:=rfl
@[simp]theorem ZzJ(i j:Ah):Cz .Add (.int i) (.int j)=.ok (.int (i+j)):=rfl
@[simp]theorem ZyE(i j:Ah):Cz .Sub (.int i) (.int j)=.ok (.int (i-j)):=rfl
@[simp]theorem kM(i j:Ah):Cz .Mult (.int i) (.int j)=if (FF i j||M8 i j)=Ab then .ok (.int (i*j)) else .bad:=rfl
@[simp]theorem iP(i j:Ah):Cz .FloorDiv (.int i) (.int j)=if 0<j/\j<1073741824 then .ok (.int (i/j)) else .bad:=rfl
@[simp]theorem kO(i j:Ah):Cz .Mod (.int i) (.int j)=if 0<j then .ok (.int (i%j)) else .bad:=rfl
@[simp]theorem kX(i j:Ah):Cz .Pow (.int i) (.int j)=if (0<=j/\j<=1000000)/\(-(18446744073709551616:Ah)<i/\i<18446744073709551616) then .ok (.int (i ^ j.toNat)) else .bad:=rfl
@[simp]theorem E3(x y:Ag):Cz .Add (.str x) (.str y)=if B8 (x.length+y.length)=Ab then .ok (.str (x++y)) else .bad:=rfl
@[simp]theorem Gf(x y:Ac D):Cz .Add (.lst x) (.lst y)=if B8 (x.length+y.length)=Ab then .ok (.lst (x++y)) else .bad:=rfl
@[simp]theorem TU(x y:Ac D):Cz .Add (.tup x) (.tup y)=if (!x.isEmpty&&B8 (x.length+y.length))=Ab then .ok (.tup (x++y)) else .bad:=rfl
@[simp]theorem ZAc(i:Ah):unD .USub (.int i)=.ok (.int (-i)):=rfl
@[simp]theorem sU(x y:D):Bj .Eq x y=if (flD 5 x&&flD 5 y)=Ab then .ok (.bl (eqD x y)) else .bad:=rfl
@[simp]theorem rF(x y:D):Bj .NotEq x y=if (flD 5 x&&flD 5 y)=Ab then .ok (.bl (!eqD x y)) else .bad:=rfl
@[simp]theorem ZAd(i j:Ah):Bj .Lt (.int i) (.int j)=.ok (.bl (decide (i<j))):=rfl
@[simp]theorem ZAg(i j:Ah):Bj .LtE (.int i) (.int j)=.ok (.bl (decide (i<=j))):=rfl
@[simp]theorem ZAr(i j:Ah):Bj .Gt (.int i) (.int j)=.ok (.bl (decide (j<i))):=rfl
@[simp]theorem ZAs(i j:Ah):Bj .GtE (.int i) (.int j)=.ok (.bl (decide (j<=i))):=rfl
@[simp]theorem HV(x:D)(ys:Ac D):Bj .In x (.lst ys)=if (flD 5 x&&ys.all (flD 5))=Ab then .ok (.bl (ys.any λy=>eqD y x)) else .bad:=rfl
@[simp]theorem Yu(x:D)(ys:Ac D):Bj .In x (.tup ys)=if (flD 5 x&&ys.all (flD 5))=Ab then .ok (.bl (ys.any λy=>eqD y x)) else .bad:=rfl
@[simp]theorem LG(x:D)(ys:Ac D):Bj .NotIn x (.lst ys)=if (flD 5 x&&ys.all (flD 5))=Ab then .ok (.bl (!ys.any λy=>eqD y x)) else .bad:=rfl
@[simp]theorem rE(x:D)(ys:Ac D):Bj .NotIn x (.tup ys)=if (flD 5 x&&ys.all (flD 5))=Ab then .ok (.bl (!ys.any λy=>eqD y x)) else .bad:=rfl
@[simp]theorem Zzi:Bj .Is .non .non=.ok (.bl Ab):=rfl
@[simp]theorem Zzk(i):Bj .Is (.int i) .non=.ok (.bl Ad):=rfl
@[simp]theorem Zzh(i):Bj .Is (.tup i) .non=.ok (.bl Ad):=rfl
@[simp]theorem Zzj(i):Bj .Is (.lst i) .non=.ok (.bl Ad):=rfl
@[simp]theorem ZAk(a b):Bj .Is (.bl a) (.bl b)=.ok (.bl (a==b)):=rfl
@[simp]theorem Zzf(a b):Bj .IsNot (.bl a) (.bl b)=.ok (.bl (!(a==b))):=rfl
@[simp]theorem ZwW:Bj .IsNot .non .non=.ok (.bl Ad):=rfl
@[simp]theorem ZwY(i):Bj .IsNot (.int i) .non=.ok (.bl Ab):=rfl
@[simp]theorem ZwV(i):Bj .IsNot (.tup i) .non=.ok (.bl Ab):=rfl
@[simp]theorem ZwX(i):Bj .IsNot (.lst i) .non=.ok (.bl Ab):=rfl
@[simp]theorem ZxZ(i j:Ah):eqD (.int i) (.int j)=(i==j):=rfl
@[simp]theorem ZzE(i j:Am):eqD (.bl i) (.bl j)=(i==j):=rfl
@[simp]theorem ZxW(i j:Ag):eqD (.str i) (.str j)=(i==j):=rfl
@[simp]theorem ZxV(i j:Ac D):eqD (.tup i) (.tup j)=eqDs i j:=rfl
@[simp]theorem ZxY(i j:Ac D):eqD (.lst i) (.lst j)=eqDs i j:=rfl
@[simp]theorem ZxX:eqD .non .non=Ab:=rfl
@[simp]theorem Zoo(i):eqD .non (.int i)=Ad:=rfl
@[simp]theorem Zop(i):eqD (.int i) .non=Ad:=rfl
@[simp]theorem Zt5:eqDs [] []=Ab:=rfl
@[simp]theorem N3(x y:D)(xs ys:Ac D):eqDs (x::xs) (y::ys)=(eqD x y&&eqDs xs ys):=rfl
@[simp]theorem Zxp(n)(i:Ah):flD n (.int i)=Ab:=by cases n<;>rfl
@[simp]theorem Zzx(n)(i:Am):flD n (.bl i)=Ab:=by cases n<;>rfl
@[simp]theorem Zxn(n)(i:Ag):flD n (.str i)=Ab:=by cases n<;>rfl
@[simp]theorem Zxo(n):flD n .non=Ab:=by cases n<;>rfl
@[simp]theorem Ztw(i):flD 5 (.tup i)=i.all (flD 4):=rfl
@[simp]theorem ZtB(i):flD 5 (.lst i)=i.all (flD 4):=rfl
@[simp]theorem Ztx(i):flD 4 (.tup i)=i.all (flD 3):=rfl
@[simp]theorem ZtC(i):flD 4 (.lst i)=i.all (flD 3):=rfl
@[simp]theorem Zty(i):flD 3 (.tup i)=i.all (flD 2):=rfl
@[simp]theorem ZtD(i):flD 3 (.lst i)=i.all (flD 2):=rfl
@[simp]theorem Ztz(i):flD 2 (.tup i)=i.all (flD 1):=rfl
@[simp]theorem ZtE(i):flD 2 (.lst i)=i.all (flD 1):=rfl
@[simp]theorem ZtA(i):flD 1 (.tup i)=i.all (flD 0):=rfl
@[simp]theorem ZtF(i):flD 1 (.lst i)=i.all (flD 0):=rfl
@[simp]theorem Zuy(b):BS (.bl b)=.ok b:=rfl
@[simp]theorem ZsX(i):BS (.int i)=.ok (i != 0):=rfl
@[simp]theorem ZsW(i):BS (.lst i)=.ok (!i.isEmpty):=rfl
@[simp]theorem ZsU(i):BS (.tup i)=.ok (!i.isEmpty):=rfl
@[simp]theorem ZsV:BS .non=.ok Ad:=rfl
@[simp]theorem Zuz(b):Ep (.bl b)=.ok b:=rfl
@[simp]theorem ZsZ(i):Ep (.int i)=.ok (i != 0):=rfl
@[simp]theorem ZsY:Ep .non=.ok Ad:=rfl
@[simp]theorem Zsy:Hk []=.ok Ab:=rfl
@[simp]theorem QM(x r):Hk (x::r)=(Ep x).bind λb=>(Hk r).bind λc=>.ok (b&&c):=rfl
@[simp]theorem Zsx:Gg []=.ok Ad:=rfl
@[simp]theorem QL(x r):Gg (x::r)=(Ep x).bind λb=>(Gg r).bind λc=>.ok (b||c):=rfl
@[simp]theorem Zx1(b)(d):E9 b (.ok d)=.ok d:=by cases b<;>rfl
@[simp]theorem Zt8(b):E9 b .bad=.bad:=by cases b<;>rfl
@[simp]theorem Zt7(x):E9 Ab (.exn x)=.exn x:=rfl
@[simp]theorem Zpc(r):E9 Ad r=noX r:=rfl
@[simp]theorem ZwI(a:α):noX (.ok a)=.ok a:=rfl
@[simp]theorem ZwK:noX (.bad:R α)=.bad:=rfl
@[simp]theorem ZwJ(x):noX (.exn x:R α)=.bad:=rfl
@[simp]theorem Zya(b):Dt (.bl b)=.ok b:=rfl
@[simp]theorem Zsv(b):Fl (.int b)=.ok b:=rfl
@[simp]theorem Zst(b):PF (.lst b)=.ok b:=rfl
@[simp]theorem Zss(b):Eo (.lst b)=.ok b:=rfl
@[simp]theorem Zsr(b):Eo (.tup b)=.ok b:=rfl
@[simp]theorem sY(xs i):FJ (.lst xs) (.int i)=CI xs i:=rfl
@[simp]theorem sX(xs i):FJ (.tup xs) (.int i)=CI xs i:=rfl
@[simp]theorem ZAf(xs):biD .len [.lst xs]=.ok (.int xs.length):=rfl
@[simp]theorem ZAe(xs):biD .len [.tup xs]=.ok (.int xs.length):=rfl
@[simp]theorem ZAE(i):biD .abs [.int i]=.ok (.int (if i<0 then -i else i)):=rfl
@[simp]theorem Zy9(i j):biD .max [.int i,.int j]=.ok (.int (if i<j then j else i)):=rfl
@[simp]theorem Zy7(i j):biD .min [.int i,.int j]=.ok (.int (if j<i then j else i)):=rfl
@[simp]theorem ZAm(i):biD .int [.int i]=.ok (.int i):=rfl
@[simp]theorem ZAn(i):biD .int [.bl i]=.ok (.int (b2i i)):=rfl
@[simp]theorem Zze(i):biD .list [.lst i]=.ok (.lst i):=rfl
@[simp]theorem Zzd(i):biD .list [.tup i]=.ok (.lst i):=rfl
@[simp]theorem Zux(i):biD .tuple [.lst i]=.ok (.tup i):=rfl
@[simp]theorem Zuw(i):biD .tuple [.tup i]=.ok (.tup i):=rfl
@[simp]theorem tI(i):biD .all [.lst i]=(Hk i).bind λb=>.ok (.bl b):=rfl
@[simp]theorem ZAB(i):biD .any [.lst i]=(Gg i).bind λb=>.ok (.bl b):=rfl
@[simp]theorem ZAA(i):biD .any [.tup i]=(Gg i).bind λb=>.ok (.bl b):=rfl
@[simp]theorem Zz4(i):biD .sum [.lst i]=(LK 0 i).bind λb=>.ok (.int b):=rfl
@[simp]theorem Zz3(i):biD .sum [.tup i]=(LK 0 i).bind λb=>.ok (.int b):=rfl
@[simp]theorem Zs8(i):biD .sorted [.lst i]=(RP i).bind λb=>.ok (.lst b):=rfl
@[simp]theorem Zz5(xs k):biD .stp [.lst xs,.int k]=.ok (.lst (UZ k.toNat xs)):=rfl
@[simp]theorem Zz9(xs):biD .rvs [.lst xs]=.ok (.lst xs.reverse):=rfl
@[simp]theorem Zzb(xs):biD .lset [.lst xs]=Ua xs:=rfl
@[simp]theorem Zyz(x y):biD .tmin [x,y]=mmD Ad x y:=rfl
@[simp]theorem ZzQ(x y):biD .tlt [x,y]=UV x y:=rfl
@[simp]theorem ZyA(x y):biD .tmax [x,y]=mmD Ab x y:=rfl
@[simp]theorem Zx2(xs x):biD .count [.lst xs,x]=if (flD 5 x&&xs.all (flD 5))=Ab then .ok (.int ((xs.filter λy=>eqD y x).length:Af)) else .bad:=rfl
@[simp]theorem tN(xs lo hi):slD (.tup xs) lo hi=if (IF xs.length 0 lo==0&&IF xs.length xs.length hi==xs.length)=Ab then .bad else .ok (.tup (EE xs lo hi)):=rfl
@[simp]theorem ZAM(xs lo hi):slD (.lst xs) lo hi=.ok (.lst (EE xs lo hi)):=rfl
@[simp]theorem Zvc(d):slE .non d=.ok Ae:=rfl
@[simp]theorem Zvd(k i):slE (.int k) (.int i)=.ok (Aa i):=rfl
@[simp]theorem Zvb(k i):slE (.var k) (.int i)=.ok (Aa i):=rfl
@[simp]theorem Zve(op a b i):slE (.bin op a b) (.int i)=.ok (Aa i):=rfl
@[simp]theorem ZyH(op a i):slE (.un op a) (.int i)=.ok (Aa i):=rfl
@[simp]theorem ZyI(b as i):slE (.bi b as) (.int i)=.ok (Aa i):=rfl
@[simp]theorem Zw1(up ks):Er up ks .non=if ks.any D5=Ab then .bad else .ok (.bl (ks.any λk=>kiD up k .non)):=rfl
@[simp]theorem Zzg(up ks b):Er up ks (.bl b)=if ks.any D5=Ab then .bad else .ok (.bl (ks.any λk=>kiD up k (.bl b))):=rfl
@[simp]theorem Zw3(up ks b):Er up ks (.int b)=if ks.any D5=Ab then .bad else .ok (.bl (ks.any λk=>kiD up k (.int b))):=rfl
@[simp]theorem Zw0(up ks b):Er up ks (.str b)=if ks.any D5=Ab then .bad else .ok (.bl (ks.any λk=>kiD up k (.str b))):=rfl
@[simp]theorem ZwZ(up ks b):Er up ks (.tup b)=if ks.any D5=Ab then .bad else .ok (.bl (ks.any λk=>kiD up k (.tup b))):=rfl
@[simp]theorem Zw2(up ks b):Er up ks (.lst b)=if ks.any D5=Ab then .bad else .ok (.bl (ks.any λk=>kiD up k (.lst b))):=rfl
@[simp]theorem Zw4(up ks c f):Er up ks (.exc c f)=if ks.all D5=Ab then .ok (.bl (ks.any λk=>kiD up k (.exc c f))) else .bad:=rfl
@[simp]theorem Zub(c):D5 (.cls c)=Ab:=rfl
@[simp]theorem Zr1:D5 .verr=Ab:=rfl
@[simp]theorem Zua:D5 .int=Ad:=rfl
@[simp]theorem Zr3:D5 .bool=Ad:=rfl
@[simp]theorem Zt9:D5 .str=Ad:=rfl
@[simp]theorem Zr2:D5 .list=Ad:=rfl
@[simp]theorem Zpd:D5 .tuple=Ad:=rfl
@[simp]theorem Zo8(up i):kiD up .int (.int i)=Ab:=rfl
@[simp]theorem Zo7(up):kiD up .int .non=Ad:=rfl
@[simp]theorem Zn0(up i):kiD up .bool (.int i)=Ad:=rfl
@[simp]theorem Zo6(up i):kiD up .int (.tup i)=Ad:=rfl
@[simp]theorem Zpa(up i):kiD up .bool (.bl i)=Ab:=rfl
@[simp]theorem ZnZ(up):kiD up .bool .non=Ad:=rfl
@[simp]theorem ZnY(up i):kiD up .list (.lst i)=Ab:=rfl
@[simp]theorem ZlP(up i):kiD up .tuple (.tup i)=Ab:=rfl
@[simp]theorem ZlQ(up):kiD up .tuple .non=Ad:=rfl
@[simp]theorem Zo9(up c k f):kiD up (.cls c) (.exc k f)=(up k).contains c:=rfl
@[simp]theorem ZnX(up k f):kiD up .verr (.exc k f)=Ab:=rfl
theorem Ou{xs:Ac D}{i:Ah}{d:D}(h0:0<=i)(h:xs[i.toNat]?=Aa d):CI xs i=.ok d:=by
 unfold CI plD;obtain⟨h1,_⟩:=A1.mp h;rw[At h0,At (by omega)]
 dsimp only;rw[h]
section
variable(Z:Gam)(U:Rho)
@[simp]theorem ZtG:evSs Z U .nil=.next U:=rfl
noncomputable def GC(Z:Gam)(ss:Ss)(o:O):O:=o.seq λU'=>evSs Z U' ss
@[simp]theorem Z_6(s ss):evSs Z U (.cons s ss)=GC Z ss (evS Z U s):=rfl
@[simp]theorem Zxi(ss):GC Z ss (.next U)=evSs Z U ss:=rfl
@[simp]theorem Zzo(ss d b):GC Z ss (.ret d b)=.ret d b:=rfl
@[simp]theorem Zzs(ss):GC Z ss (.brk U)=.brk U:=rfl
@[simp]theorem Zxj(ss):GC Z ss (.cont U)=.cont U:=rfl
@[simp]theorem Zzr(ss x):GC Z ss (.exn x U)=.exn x U:=rfl
@[simp]theorem Zzt(ss):GC Z ss .bad=.bad:=rfl
@[simp]theorem Zzq(ss)(c:Prop)[F2 c](a b:O):GC Z ss (if c then a else b)=if c then GC Z ss a else GC Z ss b:=by split<;>rfl
@[simp]theorem Zzp(o:O):GC Z .nil o=o:=by cases o<;>rfl
noncomputable def Ds(Z:Gam)(t:Af)(body:Ss):D->Rho->O:=λx U'=>evSs Z (U'.set t (Aa (x,Ad))) body
noncomputable def whC(Z:Gam)(c:E):Rho->R Am:=λU'=>(top U' c (evE Z U' c)).bind BS
noncomputable def whB(Z:Gam)(body:Ss):Rho->O:=λU'=>evSs Z U' body
noncomputable def Vz(Z:Gam)(t:Af)(body:Ss)(U:Rho)(r:R (Ac D)):O:=O.of U r λxs=>Dd (Ds Z t body) xs U
@[simp]theorem Zxl(t body xs):Vz Z t body U (.ok xs)=Dd (Ds Z t body) xs U:=rfl
@[simp]theorem ZtK:evS Z U .pass=.next U:=rfl
@[simp]theorem Zxw(i e):evS Z U (.asg i Ad e)=O.of U (evE Z U e) λd=>.next (U.set i (Aa (d,Ad))):=rfl
@[simp]theorem ZtN(e):evS Z U (.expr e)=O.of U (evE Z U e) λ_=>.next U:=rfl
@[simp]theorem SK(e):evS Z U (.ret e)=O.of U (top U e (evE Z U e)) λd=>.ret d (Dj Z e||(match e with | .var i=>(match U[i]? with|some (Aa (_,o))=>o|_=>Ad)|_=>Ad)):=rfl
@[simp]theorem ZtI:evS Z U .retN=.ret .non Ad:=rfl
@[simp]theorem Zxs(c a b):evS Z U (.ife c a b)=O.of U ((top U c (evE Z U c)).bind BS) λk=>if k=Ab then evSs Z U a else evSs Z U b:=rfl
@[simp]theorem ZtL(t it body):evS Z U (.fors t it body)=Vz Z t body U (GW Z U it):=rfl
noncomputable def Uq(Z:Gam)(ts:Ac Af)(body:Ss):D->Rho->O:=λx U'=>O.of U' (EK ts x U') λU''=>evSs Z U'' body
noncomputable def Up(Z:Gam)(ts:Ac Af)(body:Ss)(U:Rho)(r:R (Ac D)):O:=O.of U r λxs=>Dd (Uq Z ts body) xs U
@[simp]theorem Ztv(t body xs):Up Z t body U (.ok xs)=Dd (Uq Z t body) xs U:=rfl
@[simp]theorem ZtM(t it body):evS Z U (.forT t it body)=Up Z t body U (GW Z U it):=rfl
noncomputable def cTT(U:Rho)(ts:Ac Af):D->R Am:=λx=>(EK ts x U).bind λ_=>.ok Ab
theorem Rx(ts it f as):evS Z U (.retc ts it f as)=O.of U ((GW Z U it).bind λxs=>(Bq (cTT U ts) (cFT Z U ts (.call f as)) xs).bind λys=>.ok (.lst ys)) λd=>.ret d Ab:=rfl
@[simp]theorem ZtP(ts e):evS Z U (.asgT ts e)=O.of U (evE Z U e) λd=>O.of U (M9 ts d U) λU'=>.next U':=rfl
theorem aI(i e):evS Z U (.asg i Ab e)=O.of U (evE Z U e) λd=>if Dj Z e=Ab then (match d with
      |.lst xs=>.next (U.set i (Aa (.lst xs,Ab)))
      |.dic xs=>.next (U.set i (Aa (.dic xs,Ab)))
      | _=>.bad) else .bad:=rfl
noncomputable def setF(U:Rho)(i:Af):D->O
 |.lst xs=>.next (U.set i (Aa (.lst xs,Ab)))
 |.dic xs=>.next (U.set i (Aa (.dic xs,Ab)))
 |_=>.bad
@[simp]theorem ZyQ(i xs):setF U i (.lst xs)=.next (U.set i (Aa (.lst xs,Ab))):=rfl
@[simp]theorem ZyR(i xs):setF U i (.dic xs)=.next (U.set i (Aa (.dic xs,Ab))):=rfl
@[simp]theorem Z_7(i e):evS Z U (.asg i Ab e)=O.of U (evE Z U e) λd=>if Dj Z e=Ab then setF U i d else .bad:=by
 rw[aI]
 congr 1
@[simp]theorem Zxx(i e):evS Z U (.app i e)=O.of U (D4 U i) λxs=>O.of U (evE Z U e) λd=>if B8 (xs.length+1)=Ab then .next (U.set i (Aa (.lst (xs++[d]),Ab))) else .bad:=rfl
@[simp]theorem Zxt(i e):evS Z U (.ext i e)=O.of U (D4 U i) λxs=>O.of U (evE Z U e) λd=>O.of U (PF d) λys=>if B8 (xs.length+ys.length)=Ab then .next (U.set i (Aa (.lst (xs++ys),Ab))) else .bad:=rfl
@[simp]theorem Zxr(i):evS Z U (.rev i)=O.of U (D4 U i) λxs=>.next (U.set i (Aa (.lst xs.reverse,Ab))):=rfl
@[simp]theorem Zxu(i):evS Z U (.clr i)=O.of U (D4 U i) λ_=>.next (U.set i (Aa (.lst [],Ab))):=rfl
@[simp]theorem Zto(U:Rho)(i)(xs):Ng U i (.lst xs)=.next (U.set i (Aa (.lst xs,Ad))):=rfl
theorem SL(i):evS Z U (.rel i)=match U[i]? with
      |some (Aa (d,Ab))=>Ng U i d
      |_=>.next U:=rfl
@[simp]theorem aH(body c x h):evS Z U (.tryx body c x h)=match evSs Z U body with
      | .exn y U'=>if (Z.up y.c).contains c=Ab then (match evSs Z (U'.set x (Aa (.exc y.c y.fs,Ad))) h with
          |.next U''=>.next (U''.set x Ae)
          |.ret d f=>.ret d f
          | _=>.bad) else .bad
      |o=>o:=rfl
@[simp]theorem ZtH(body c x h c' h' els):evS Z U (.try2 body c x h c' h' els)=match evSs Z U body with
      |.exn y U'=>if (Z.up y.c).contains c=Ab then hdO x y U' (λr=>evSs Z r h) else if (Z.up y.c).contains c'=Ab then hdO x y U' (λr=>evSs Z r h') else .bad
      |.next U'=>evSs Z U' els
      |o=>o:=rfl
@[simp]theorem Zxq(c body):evS Z U (.whl c body)=Jv (whC Z c) (whB Z body) PL U:=rfl
@[simp]theorem ZtJ(c as):evS Z U (.rais c as)=O.of U (noX (evA Z U as)) λxs=>O.of U (Z.xn c xs) λx=>.exn x U:=rfl
@[simp]theorem Zxv:evS Z U .brk=.brk U:=rfl
@[simp]theorem ZtO:evS Z U .cont=.cont U:=rfl
end
end Ov
namespace Ov
open PySem
theorem NL{body:D->Rho->O}(P:Af->Rho->Prop):∀(xs:Ac D)(n:Af)(U:Rho),P n U->(∀ i x,xs[i]?=Aa x->∀ U,P (n+i) U->∃ U',body x U=.next U'/\P (n+i+1) U')->∃ U',Dd body xs U=.next U'/\P (n+xs.length) U'
 |[],n,U,h,_=>⟨U,rfl,h⟩
 |x::xs,n,U,h,k=>by
  obtain⟨U1,e1,h1⟩:=k 0 x rfl U h;obtain⟨U2,e2,h2⟩:=NL P xs (n+1) U1 h1 λi y hy U hρ=>by
   have:=k (i+1) y (by simpa using hy) U (by rw[show n+(i+1)=n+1+i by omega];exact hρ)
   rw[show n+(i+1)=n+1+i by omega]at this
   exact this
  exact⟨U2,by show (body x U).turn _=_;rw[e1];exact e2,by rw[show n+(x::xs).length=n+1+xs.length by simp;omega];exact h2⟩
theorem ZB(h1:0<=lo)(h2:lo<1000000)(h3:0<=hi)(h4:hi<1000000):D8 lo hi=.ok (EO lo (hi-lo).toNat):=by
 unfold D8;rw[At (by omega)]
theorem Ob(h3:0<=hi)(h4:hi<1000000):D8 0 hi=.ok (EO 0 hi.toNat):=by
 rw[ZB (by omega) (by omega) h3 h4,VM]
theorem Lb(lo:Ah)(n:Af):(EO lo n).length=n:=by simp[EO]
theorem Ot{n i:Af}{x:D}(h:(EO lo n)[i]?=Aa x):i<n/\x=.int (lo+(i:Ah)):=by
 have hl:=(A1.mp h).1;rw[Lb]at hl;unfold EO at h;rw[Ch,List.getElem?_range hl]at h;cases h;exact⟨hl,rfl⟩
noncomputable def Ss.take:Af->Ss->Ss
 |0,_=>.nil
 |_,.nil=>.nil
 |n+1,.cons s ss=>.cons s (ss.take n)
noncomputable def Ss.drop:Af->Ss->Ss
 |0,ss=>ss
 |_,.nil=>.nil
 |n+1,.cons _ ss=>ss.drop n
noncomputable def mkC(c:Af):Df:=⟨2,Ad,.cons (.ret (.mkob c (.call 910 (.cons (.var 0) (.cons (.var 1) .nil))))) .nil⟩
noncomputable def inC:Df:=⟨2,Ad,.cons (.ret (.tup (.cons (.var 0) (.cons (.call 17 (.cons (.var 0) (.cons (.var 1) .nil))) .nil)))) .nil⟩
end Ov
end
section
namespace Ov
noncomputable def xfD:Af->D->Am
 |0,.int i=>decide (0<=i)&&decide (i<100)
 |n+1,.tup ds=>De ds.length 8&&ds.all (xfD n)
 |_,_=>Ad
noncomputable def mkX(c:Af)(f:Ag):Ac D->R Ex
 |[d]=>if (xfD 1 d||xfD 2 d)=Ab then .ok ⟨c,[(f,d)]⟩ else .bad
 |_=>.bad
noncomputable def mkI(c:Af)(f:Ag):Ac D->R Ex
 |[d]=>if xfD 0 d=Ab then .ok ⟨c,[(f,d)]⟩ else .bad
 |_=>.bad
noncomputable def mkA(c:Af)(f:Ag):Ac D->R Ex
 |[d]=>if (xfD 0 d||(xfD 1 d||xfD 2 d))=Ab then .ok ⟨c,[(f,d)]⟩ else .bad
 |_=>.bad
end Ov
end
section
namespace OvC
open PySem Ov PyProof.Rows
variable{j:Ah}{Z:Gam}
noncomputable abbrev scr(ns:Ac Ah):D:=.lst (ns.map .int)
noncomputable abbrev sh(d:D):Sl:=Aa (d,Ad)
noncomputable abbrev si(i:Ah):Sl:=Aa (.int i,Ad)
noncomputable def M7(ns:Ac Ah)(k:Ah):Ah:=if ns=[] then 0 else ns.getD (k%ns.length).toNat 0
noncomputable def HS(ns:Ac Ah)(k:Ah):Ah:=(M7 ns k%1000003+7919*k+11)*48271%1000033
noncomputable def O6(ns:Ac Ah)(k:Ah):Ah:=[3,5,7,11].getD (HS ns k/16%4).toNat 0
theorem Tr(ns k):0<=HS ns k:=by unfold HS;omega
theorem Vy{P:Af->Prop}(h0:P 0)(h1:P 1)(h2:P 2)(h3:P 3):P (j%4).toNat:=by
 have:(j%4).toNat=0\/(j%4).toNat=1\/(j%4).toNat=2\/(j%4).toNat=3:=by omega
 rcases this with e|e|e|e<;>rw[e]<;>assumption
def P4(p:Ah):Prop:=p=3\/p=5\/p=7\/p=11
noncomputable def pr4(j:Ah):Ah:=[3,5,7,11].getD (j%4).toNat 0
theorem kW(j):P4 (pr4 j):=by
 unfold pr4;exact Vy (P:=λj=>P4 ([3,5,7,11].getD j 0)) (.inl rfl) (.inr (.inl rfl)) (.inr (.inr (.inl rfl))) (.inr (.inr (.inr rfl)))
theorem bJ(ns k):P4 (O6 ns k):=kW _
theorem P4.pos{p}(h:P4 p):0<p:=by rcases h with rfl|rfl|rfl|rfl<;>decide
theorem P4.lo{p}(h:P4 p):3<=p:=by rcases h with rfl|rfl|rfl|rfl<;>decide
theorem P4.hi{p}(h:P4 p):p<=11:=by rcases h with rfl|rfl|rfl|rfl<;>decide
theorem bE(j:Ah):CI [.int 3,.int 5,.int 7,.int 11] (j%4)=.ok (.int (pr4 j)):=by
 have h:=Vy (P:=λj=>[D.int 3,D.int 5,D.int 7,D.int 11][j]?=Aa (D.int ([3,5,7,11].getD j 0))) (j:=j) rfl rfl rfl rfl
 exact Ou (by omega) h
theorem Mx{i:Ah}(h0:-18446744073709551616<i)(h1:i<18446744073709551616):FF i j=Ab:=by simp[FF];left;exact⟨h0,h1⟩
theorem Si{i:Ah}(h0:-18446744073709551616<j)(h1:j<18446744073709551616):FF i j=Ab:=by simp[FF];right;exact⟨h0,h1⟩
noncomputable def Pc:Df:=⟨2,Ad,(.cons (.ret (.bin .Mod (.var 1) (.var 0))) .nil)⟩
def MI(Z:Gam):Prop:=∀ p n:Ah,0<p->Z.F 1 [.int p,.int n]=.ok (.int (n%p))
theorem lZ(Z:Gam)(p n:Ah)(h:0<p):Pc.run Z [.int p,.int n]=.ok (.int (n%p)):=by simp[Pc,Df.run,Bu,h]
noncomputable def NH:Df:=⟨2,Ad,(.cons (.ife (.cmp .Eq (.bi .len (.cons (.var 0) .nil)) (.int 0)) (.cons (.ret (.int 0)) .nil) .nil) (.cons (.ret (.idx (.var 0) (.bin .Mod (.var 1) (.bi .len (.cons (.var 0) .nil))))) .nil))⟩
def TX(Z:Gam):Prop:=∀(ns:Ac Ah)(k:Ah),Z.F 2 [scr ns,.int k]=.ok (.int (M7 ns k))
theorem mE(Z:Gam)(ns:Ac Ah)(k:Ah):NH.run Z [scr ns,.int k]=.ok (.int (M7 ns k)):=by
 simp[NH,Df.run,Bu,M7];by_cases h:ns=[]
 .simp[h]
 .have hn:=Gm.mpr h;have hl:0<(ns.length:Ah):=by omega
  have h1:=B4 k (VL hl);have h2:=BM k hl;have h3:(k%ns.length).toNat<ns.length:=by omega
  simp[h,hn,Ou (xs:=ns.map .int) (d:=.int (ns.getD (k%ns.length).toNat 0)) h1 (by simp[h3])]
noncomputable def NY:Df:=⟨2,Ad,(.cons (.ret (.bin .Mod (.bin .Mult (.bin .Add (.bin .Add (.bin .Mod (.call 2 (.cons (.var 0) (.cons (.var 1) .nil))) (.int 1000003)) (.bin .Mult (.int 7919) (.var 1))) (.int 11)) (.int 48271)) (.int 1000033))) .nil)⟩
def ON(Z:Gam):Prop:=∀(ns:Ac Ah)(k:Ah),Z.F 3 [scr ns,.int k]=.ok (.int (HS ns k))
theorem cT(h2:TX Z)(ns:Ac Ah)(k:Ah):NY.run Z [scr ns,.int k]=.ok (.int (HS ns k)):=by
 simp[NY,Df.run,Bu,h2 ns k,FF,HS]
noncomputable def NX:Df:=⟨2,Ad,(.cons (.ret (.idx (.lst (.cons (.int 3) (.cons (.int 5) (.cons (.int 7) (.cons (.int 11) .nil))))) (.bin .Mod (.bin .FloorDiv (.call 3 (.cons (.var 0) (.cons (.var 1) .nil))) (.int 16)) (.int 4)))) .nil)⟩
def SJ(Z:Gam):Prop:=∀(ns:Ac Ah)(k:Ah),Z.F 4 [scr ns,.int k]=.ok (.int (O6 ns k))
theorem cS(h:ON Z)(ns:Ac Ah)(k:Ah):NX.run Z [scr ns,.int k]=.ok (.int (O6 ns k)):=by
 simp[NX,Df.run,Bu,h ns k,bE];rfl
noncomputable def NW:Df:=⟨3,Ad,(.cons (.ret (.and (.cons (.isi (.var 0) [.int]) (.cons (.no (.isi (.var 0) [.bool])) (.cons (.cmp2 .LtE .LtE (.var 1) (.var 0) (.var 2)) .nil))))) .nil)⟩
def iG(Z:Gam):Prop:=∀ x a b:Ah,Z.F 6 [.int x,.int a,.int b]=.ok (.bl (decide (a<=x)&&decide (x<=b)))
theorem cQ(Z:Gam)(x a b:Ah):NW.run Z [.int x,.int a,.int b]=.ok (.bl (decide (a<=x)&&decide (x<=b))):=by
 simp[NW,Df.run,Bu];split<;>simp[*]
end OvC
end
namespace Ov
open PySem PySem.Spec PyProof.Rows L2
variable{K:Fg}{mg:Ag->Ao Aj}{x:Ag}{A B:Ak->Prop}{H H' H1 H0:Hp}{a b l q:Ak}{xs ys vs:Ac V}{v:V}{d:D}{Rp Rq:Hp->V->D->Prop}{r:R D}{Q:VK}{X:Cx}{e c tg iter elt:An}{U:Rho}{i n j k:Af}{Y:L2.St}{g:D->D->R D}{op:CV}{pI:Pn}{s:Ap}{its its2:Ac Aj}{items2:Ba Aj}{h h':AF}{u:Aj}{es ifs:Ac An}{fs fi:Rho->R (Ac D)}{Q':Ao Ah->Hp->Prop}{p pos' p2 pos pos2 tpos:AC}{T:CQ}{α:Type}{D':Ends}{fc:Rho->R Am}{body:Ac AI}{fbd:Rho->O}{as:D->Rho->R Rho}{up:Af->Ac Af}{prog:AL}{w:AV}{scope:BG}{env:Cb}{cl:Ac (Ag×Ak)}{N':Ac Ag}{ts:Ac Af}{fp:Ac Ak}{tt:TT}{te:TE}{J:It}{wi:TI}{t:Am}
noncomputable def Nl:Af->Ag
 |0 => "Triple"
 |1 => "Point"
 |2 => "Line"
 |_ => ""
noncomputable def OC(K:Fg)(c:Af):Ao Ak:=if c<3 then (match A8 K AQ (Nl c) with
  |some (Aa (.ref C))=>Aa C
  | _=>Ae) else Ae
noncomputable def GB:Ac (Ag×Af×Ag):=[("0.told",0, "told"),("1.told",1, "told"),("2.told",2, "told"),("0.shown",0, "shown"),("1.shown",1, "shown"),("2.shown",2, "shown")]
noncomputable def HQ(K:Fg)(mg:Ag->Ao Aj)(x:Ag):Ao Aj:=match GB.lookup x with
  |some (c,m)=>(OC K c).bind λC=>(Ar K (.ref C) m).join
  |none=>mg x
theorem Mp{v:Ao Aj}(h:HQ K mg x=v)(e:GB.lookup x=Ae):mg x=v:=by
 unfold HQ at h;rw[e]at h;exact h
theorem aR{m:Ag}{c:Af}{C:Ak}{v:Aj}(h:HQ K mg x=Aa v)(e:GB.lookup x=Aa (c,m))(hC:OC K c=Aa C):Ar K (.ref C) m=Aa (Aa v):=by
 unfold HQ at h;rw[e]at h;dsimp only at h;rw[hC]at h;have h':(Ar K (.ref C) m).join=Aa v:=h;cases q:Ar K (.ref C) m with
 |none=>rw[q]at h';cases h'
 |some u=>rw[q]at h';have:u=Aa v:=h';rw[this]
abbrev ClA:=Af->Ao Ak
variable{CL:ClA}
def KL(K:Fg)(a:Ak)(xs:Ac V):Prop:=∃(o:CZ)(its:Ba Aj)(n:Af),K.lookup a=Aa o/\o.cls=.type "list"/\o.dict=Ae/\o.data=.seq its n/\its.size<=sizeLine/\AX xs its.toList
def KT(K:Fg)(a:Ak)(xs:Ac V):Prop:=∃(o:CZ)(its:Ba Aj)(n:Af),K.lookup a=Aa o/\o.cls=.type "tuple"/\o.data=.seq its n/\its.size<=sizeLine/\AX xs its.toList
section
variable(K:Fg)(CL:ClA)(H:Hp)(A:Ak->Prop)
mutual
def Rep:V->D->Prop
 |v,.non=>v=.non
 |v,.bl b=>v=.bl b
 |v,.int i=>v=.int i
 |v,.str x=>v=.str x
 |v,.tup ds=>∃ a xs,v=.ref a/\(¬ A a\/KT K a xs)/\SqT K H a xs/\Reps xs ds
 |v,.lst ds=>∃ a xs,v=.ref a/\(¬ A a\/KL K a xs)/\SqL K H a xs/\Reps xs ds
 |v,.obj c fs=>∃ a C dx vs,v=.ref a/\¬ A a/\OC K c=Aa C/\H a=Aa (.ins C dx vs)/\Repf vs fs
 |_,.dic _=>AW
 |v,.exc c fs=>∃ a C φ,v=.ref a/\¬ A a/\CL c=Aa C/\H a=Aa (.ext φ)/\(∀ h,φ h->∃ o,h.get? a=Aa o/\o.cls=.ref C)/\(fs=[]\/∃ dx vs,¬ A dx/\H dx=Aa (.xd vs)/\Repf vs fs/\∀ h,φ h->∃ o,h.get? a=Aa o/\o.dict=Aa dx/\∃ us,o.data=.fields us)
def Reps:Ac V->Ac D->Prop
 |[],[]=>Hi
 |v::vs,d::ds=>Rep v d/\Reps vs ds
 |_,_=>AW
def Repf:Ac (Ag×V)->Ac (Ag×D)->Prop
 |[],[]=>Hi
 |v::vs,d::ds=>Repp v d/\Repf vs ds
 |_,_=>AW
def Repp:Ag×V->Ag×D->Prop
 |v,(n,d)=>v.1=n/\Rep v.2 d
end
def Cm(v:V)(d:D):Prop:=Rep K CL H A v d\/∃ a xs ds,v=.ref a/\d=.lst ds/\H a=Aa (.lst xs)/\Reps K CL H A xs ds
end
def Kp(A:Ak->Prop)(H H':Hp):Prop:=∀ b o,H b=Aa o->¬ A b->H' b=Aa o
def AOk(H:Hp)(A:Ak->Prop):Prop:=∀ a,A a->∃ xs,H a=Aa (.lst xs)
theorem Kp.of(h:Az H H'):Kp A H H':=λb o e _=>h b o e
theorem AOk.same(h:AOk H A)(s:Az H H'):AOk H' A:=λa ha=>let ⟨xs,e⟩:=h a ha;⟨xs,s _ _ e⟩
theorem AOk.new{p:Ak}(h:AOk H A)(e:H p=Ae):¬ A p:=λha=>by
 obtain⟨xs,q⟩:=h p ha;rw[e]at q;cases q
section
variable{K:Fg}{CL:ClA}{H H':Hp}{A B:Ak->Prop}
theorem Ul{u:HO}(k:Kp A H H')(na:¬ A a)(h:Rd H a u):Rd H' a u:=by
 rcases h with h|⟨o,h⟩
 .exact .inl (k _ _ h na)
 .exact .inr ⟨o,k _ _ h na⟩
theorem MM(k:Kp A H H')(na:¬ A a\/KL K a xs)(h:SqL K H a xs):SqL K H' a xs:=na.elim (λna=>h.imp (Ul k na) id) .inr
theorem ML(k:Kp A H H')(na:¬ A a\/KT K a xs)(h:SqT K H a xs):SqT K H' a xs:=na.elim (λna=>h.imp (Ul k na) id) .inr
mutual
theorem Rep.kp(k:Kp A H H'):∀{v:V}(d:D),Rep K CL H A v d->Rep K CL H' A v d
 |_,.non,h=>h
 |_,.bl _,h=>h
 |_,.int _,h=>h
 |_,.str _,h=>h
 |_,.dic _,h=>h.elim
 |_,.tup ds,h=>by
  obtain⟨a,xs,e,na,s,r⟩:=h;exact⟨a,xs,e,na,by first|exact ML k na s|exact MM k na s,Reps.kp k ds r⟩
 |_,.lst ds,h=>by
  obtain⟨a,xs,e,na,s,r⟩:=h;exact⟨a,xs,e,na,by first|exact ML k na s|exact MM k na s,Reps.kp k ds r⟩
 |_,.obj c fs,h=>by
  obtain⟨a,C,dx,vs,e,na,c,s,r⟩:=h;exact⟨a,C,dx,vs,e,na,c,k _ _ s na,Repf.kp k fs r⟩
 |_,.exc c fs,h=>by
  obtain⟨a,C,φ,e,na,c,s,p,q⟩:=h;refine⟨a,C,φ,e,na,c,k _ _ s na,p,q.imp id ?_⟩;rintro⟨dx,vs,nx,s2,r,z⟩;exact⟨dx,vs,nx,k _ _ s2 nx,Repf.kp k fs r,z⟩
theorem Reps.kp(k:Kp A H H'):∀{vs:Ac V}(ds:Ac D),Reps K CL H A vs ds->Reps K CL H' A vs ds
 |[],[],h=>h
 |_::_,d::ds,h=>⟨Rep.kp k d h.1,Reps.kp k ds h.2⟩
 |[],_::_,h=>h.elim
 |_::_,[],h=>h.elim
theorem Repf.kp(k:Kp A H H'):∀{vs:Ac (Ag×V)}(ds:Ac (Ag×D)),Repf K CL H A vs ds->Repf K CL H' A vs ds
 |[],[],h=>h
 |_::_,d::ds,h=>⟨Repp.kp k d h.1,Repf.kp k ds h.2⟩
 |[],_::_,h=>h.elim
 |_::_,[],h=>h.elim
theorem Repp.kp(k:Kp A H H'):∀{v:Ag×V}(d:Ag×D),Repp K CL H A v d->Repp K CL H' A v d
 |_,(_,d),h=>⟨h.1,Rep.kp k d h.2⟩
end
mutual
theorem Rep.sub(k:∀ a,B a->A a):∀{v:V}(d:D),Rep K CL H A v d->Rep K CL H B v d
 |_,.non,h=>h
 |_,.bl _,h=>h
 |_,.int _,h=>h
 |_,.str _,h=>h
 |_,.dic _,h=>h.elim
 |_,.tup ds,h=>by
  obtain⟨a,xs,e,na,s,r⟩:=h;exact⟨a,xs,e,na.imp (λna z=>na (k _ z)) id,s,Reps.sub k ds r⟩
 |_,.lst ds,h=>by
  obtain⟨a,xs,e,na,s,r⟩:=h;exact⟨a,xs,e,na.imp (λna z=>na (k _ z)) id,s,Reps.sub k ds r⟩
 |_,.obj c fs,h=>by
  obtain⟨a,C,dx,vs,e,na,c,s,r⟩:=h;exact⟨a,C,dx,vs,e,λz=>na (k _ z),c,s,Repf.sub k fs r⟩
 |_,.exc c fs,h=>by
  obtain⟨a,C,φ,e,na,c,s,p,q⟩:=h;refine⟨a,C,φ,e,λz=>na (k _ z),c,s,p,q.imp id ?_⟩
  rintro⟨dx,vs,nx,s2,r,z⟩;exact⟨dx,vs,λz=>nx (k _ z),s2,Repf.sub k fs r,z⟩
theorem Reps.sub(k:∀ a,B a->A a):∀{vs:Ac V}(ds:Ac D),Reps K CL H A vs ds->Reps K CL H B vs ds
 |[],[],h=>h
 |_::_,d::ds,h=>⟨Rep.sub k d h.1,Reps.sub k ds h.2⟩
 |[],_::_,h=>h.elim
 |_::_,[],h=>h.elim
theorem Repf.sub(k:∀ a,B a->A a):∀{vs:Ac (Ag×V)}(ds:Ac (Ag×D)),Repf K CL H A vs ds->Repf K CL H B vs ds
 |[],[],h=>h
 |_::_,d::ds,h=>⟨Repp.sub k d h.1,Repf.sub k ds h.2⟩
 |[],_::_,h=>h.elim
 |_::_,[],h=>h.elim
theorem Repp.sub(k:∀ a,B a->A a):∀{v:Ag×V}(d:Ag×D),Repp K CL H A v d->Repp K CL H B v d
 |_,(_,d),h=>⟨h.1,Rep.sub k d h.2⟩
end
mutual
theorem Rep.wide(hp:∀ a,B a->A a\/H a=Ae):∀{v:V}(d:D),Rep K CL H A v d->Rep K CL H B v d
 |_,.non,h=>h
 |_,.bl _,h=>h
 |_,.int _,h=>h
 |_,.str _,h=>h
 |_,.dic _,h=>h.elim
 |_,.tup ds,h=>by
  obtain⟨a,xs,e,na,s,r⟩:=h;refine⟨a,xs,e,?_,s,Reps.wide hp ds r⟩;rcases s with s|s
  .refine na.imp (λna z=>(hp _ z).elim na λe=>?_) id
   rcases s with s|⟨o,s⟩<;>rw[e]at s<;>cases s
  .exact .inr s
 |_,.lst ds,h=>by
  obtain⟨a,xs,e,na,s,r⟩:=h;refine⟨a,xs,e,?_,s,Reps.wide hp ds r⟩;rcases s with s|s
  .refine na.imp (λna z=>(hp _ z).elim na λe=>?_) id
   rcases s with s|⟨o,s⟩<;>rw[e]at s<;>cases s
  .exact .inr s
 |_,.obj c fs,h=>by
  obtain⟨a,C,dx,vs,e,na,c,s,r⟩:=h;exact⟨a,C,dx,vs,e,(λz=>(hp _ z).elim na λe=>by rw[e]at s;cases s),c,s,Repf.wide hp fs r⟩
 |_,.exc c fs,h=>by
  obtain⟨a,C,φ,e,na,c,s,p,q⟩:=h;refine⟨a,C,φ,e,(λz=>(hp _ z).elim na λe=>by rw[e]at s;cases s),c,s,p,q.imp id ?_⟩
  rintro⟨dx,vs,nx,s2,r,z⟩;exact⟨dx,vs,(λz=>(hp _ z).elim nx λe=>by rw[e]at s2;cases s2),s2,Repf.wide hp fs r,z⟩
theorem Reps.wide(hp:∀ a,B a->A a\/H a=Ae):∀{vs:Ac V}(ds:Ac D),Reps K CL H A vs ds->Reps K CL H B vs ds
 |[],[],h=>h
 |_::_,d::ds,h=>⟨Rep.wide hp d h.1,Reps.wide hp ds h.2⟩
 |[],_::_,h=>h.elim
 |_::_,[],h=>h.elim
theorem Repf.wide(hp:∀ a,B a->A a\/H a=Ae):∀{vs:Ac (Ag×V)}(ds:Ac (Ag×D)),Repf K CL H A vs ds->Repf K CL H B vs ds
 |[],[],h=>h
 |_::_,d::ds,h=>⟨Repp.wide hp d h.1,Repf.wide hp ds h.2⟩
 |[],_::_,h=>h.elim
 |_::_,[],h=>h.elim
theorem Repp.wide(hp:∀ a,B a->A a\/H a=Ae):∀{v:Ag×V}(d:Ag×D),Repp K CL H A v d->Repp K CL H B v d
 |_,(_,d),h=>⟨h.1,Rep.wide hp d h.2⟩
end
theorem Rep.same(s:Az H H')(h:Rep K CL H A v d):Rep K CL H' A v d:=Rep.kp (Kp.of s) d h
theorem Reps.same{v:Ac V}{d:Ac D}(s:Az H H')(h:Reps K CL H A v d):Reps K CL H' A v d:=Reps.kp (Kp.of s) d h
theorem Cm.same{v:V}{d:D}(s:Az H H')(h:Cm K CL H A v d):Cm K CL H' A v d:=by
 rcases h with h|⟨a,xs,ds,e,e2,q,r⟩
 .exact .inl (h.same s)
 .exact .inr ⟨a,xs,ds,e,e2,s _ _ q,r.same s⟩
theorem Reps.length:∀{vs:Ac V}{ds:Ac D},Reps K CL H A vs ds->vs.length=ds.length
 |[],[],_=>rfl
 |_::_,_::_,h=>congrArg (· + 1) (Reps.length h.2)
 |[],_::_,h=>h.elim
 |_::_,[],h=>h.elim
theorem Reps.append:∀{vs ws:Ac V}{ds es:Ac D},Reps K CL H A vs ds->Reps K CL H A ws es->Reps K CL H A (vs++ws) (ds++es)
 |[],_,[],_,_,h=>h
 |_::_,_,_::_,_,h,g=>⟨h.1,Reps.append h.2 g⟩
 |[],_,_::_,_,h,_=>h.elim
 |_::_,_,[],_,h,_=>h.elim
theorem Reps.get:∀{vs:Ac V}{ds:Ac D}{i:Af}{d:D},Reps K CL H A vs ds->ds[i]?=Aa d->∃ v,vs[i]?=Aa v/\Rep K CL H A v d
 |[],[],_,_,_,e=>by simp at e
 |v::_,_::_,0,_,h,e=>by simp at e;subst e;exact⟨v,rfl,h.1⟩
 |_::_,_::_,i+1,_,h,e=>by
  obtain⟨v,q,r⟩:=Reps.get (i:=i) h.2 (by simpa using e)
  exact⟨v,by simpa using q,r⟩
 |[],_::_,_,_,h,_=>h.elim
 |_::_,[],_,_,h,_=>h.elim
theorem Reps.take:∀{vs:Ac V}{ds:Ac D}(n:Af),Reps K CL H A vs ds->Reps K CL H A (vs.take n) (ds.take n)
 |_,_,0,_=>trivial
 |[],[],_+1,_=>trivial
 |_::_,_::_,n+1,h=>⟨h.1,Reps.take n h.2⟩
 |[],_::_,_+1,h=>h.elim
 |_::_,[],_+1,h=>h.elim
theorem Reps.drop:∀{vs:Ac V}{ds:Ac D}(n:Af),Reps K CL H A vs ds->Reps K CL H A (vs.drop n) (ds.drop n)
 |_,_,0,h=>h
 |[],[],_+1,_=>trivial
 |_::_,_::_,n+1,h=>Reps.drop n h.2
 |[],_::_,_+1,h=>h.elim
 |_::_,[],_+1,h=>h.elim
theorem Reps.set{x:V}{e:D}(r:Rep K CL H A x e):∀{vs:Ac V}{ds:Ac D}(n:Af),Reps K CL H A vs ds->Reps K CL H A (vs.set n x) (ds.set n e)
 |[],[],_,_=>trivial
 |_::_,_::_,0,h=>⟨r,h.2⟩
 |_::_,_::_,n+1,h=>⟨h.1,Reps.set r n h.2⟩
 |[],_::_,_,h=>h.elim
 |_::_,[],_,h=>h.elim
end
structure Good (K:Fg) (CL:ClA) (A:Ak->Prop) (U:Rho) (Y:L2.St) (H:Hp):Prop where
 sh:∀(i:Af)(d:D),U[i]?=Aa (Aa (d,Ad))->∃ v,Y[i]?=Aa (Aa v)/\Rep K CL H A v d
 ow:∀(i:Af)(d:D),U[i]?=Aa (Aa (d,Ab))->d≠.non->∃ a xs ds,Y[i]?=Aa (Aa (.ref a))/\d=.lst ds/\A a/\H a=Aa (.lst xs)/\Reps K CL H A xs ds
 len:U.length=Y.length
theorem Good.same{K:Fg}{CL:ClA}{A:Ak->Prop}{U:Rho}{Y:L2.St}{H H':Hp}(g:Good K CL A U Y H)(s:Az H H'):Good K CL A U Y H':=
 ⟨λi d e=>let ⟨v,q,r⟩:=g.sh i d e;⟨v,q,r.same s⟩,λi d e hn=>let ⟨a,xs,ds,q,z,na,h,r⟩:=g.ow i d e hn;⟨a,xs,ds,q,z,na,s _ _ h,r.same s⟩,g.len⟩
abbrev XW:=Ex->Hp->Prop
variable{W:XW}
def AR(Rp:Hp->V->D->Prop)(W:XW)(H:Hp)(r:R D)(Q:VK):Prop:=match r with
  |.ok d=>∀ v H',Az H H'->Rp H' v d->Q v H'
  |.exn x=>∀ H',Az H H'->W x H'
  |.bad=>AW
def Hl(Rp:Hp->Ac V->Ac D->Prop)(W:XW)(H:Hp)(r:R (Ac D))(Q:Ac V->Hp->Prop):Prop:=match r with
  |.ok d=>∀ v H',Az H H'->Rp H' v d->Q v H'
  |.exn x=>∀ H',Az H H'->W x H'
  |.bad=>AW
def CD(W:XW)(H:Hp)(r:R Am)(Q:Am->Hp->Prop):Prop:=match r with
  |.ok b=>∀ H',Az H H'->Q b H'
  |.exn x=>∀ H',Az H H'->W x H'
  |.bad=>AW
theorem AR.same(s:Az H H')(h:AR Rp W H r Q):AR Rp W H' r Q:=by
 cases r with
 |ok d=>exact λv H2 s2 q=>h v H2 (s.trans s2) q
 |exn x=>exact λH2 s2=>h H2 (s.trans s2)
 |bad=>exact h
theorem CD.same{r:R Am}{Q:Am->Hp->Prop}(s:Az H H')(h:CD W H r Q):CD W H' r Q:=by
 cases r with
 |ok d=>exact λH2 s2=>h H2 (s.trans s2)
 |exn x=>exact λH2 s2=>h H2 (s.trans s2)
 |bad=>exact h
theorem AR.bind{f:D->R D}{Q':VK}(h:AR Rq W H (r.bind f) Q)(k:∀ d v H',r=.ok d->Az H H'->Rp H' v d->AR Rq W H' (f d) Q->Q' v H'):AR Rp W H r Q':=by
 cases r with
 |ok d=>exact λv H2 s2 q=>k d v H2 rfl s2 q (AR.same s2 h)
 |exn x=>exact h
 |bad=>exact h
section
variable(X:Cx)(CL:ClA)(W:XW)
def SE(e:An)(f:Rho->R D):Prop:=∀ A,PE X e (λY H Q=>AOk H A/\∃ U,Good X.K CL A U Y H/\AR (λH=>Rep X.K CL H A) W H (f U) Q)
def ST(e:An)(f:Rho->R D):Prop:=∀ A,PE X e (λY H Q=>AOk H A/\∃ U,Good X.K CL A U Y H/\AR (λH=>Cm X.K CL H A) W H (f U) Q)
def SB(e:An)(f:Rho->R Am):Prop:=∀ A,PT X e (λY H Q=>AOk H A/\∃ U,Good X.K CL A U Y H/\CD W H (f U) Q)
def SA(es:Ac An)(f:Rho->R (Ac D)):Prop:=∀ A,PA X es (λY H Q=>AOk H A/\∃ U,Good X.K CL A U Y H/\Hl (λH=>Reps X.K CL H A) W H (f U) Q)
end
theorem PE.weak{t t':TE}(h:PE X e t)(k:∀ Y H Q,t' Y H Q->t Y H Q):PE X e t':=λpI s Y H Q I q=>h pI s Y H Q I (k _ _ _ q)
theorem PT.weak{t t':TT}(h:PT X e t)(k:∀ Y H Q,t' Y H Q->t Y H Q):PT X e t':=λpI s Y H Q I q=>h pI s Y H Q I (k _ _ _ q)
theorem PA.weak{e:Ac An}{t t':TA}(h:PA X e t)(k:∀ Y H Q,t' Y H Q->t Y H Q):PA X e t':=λpos pI s Y H Q I q=>h pos pI s Y H Q I (k _ _ _ q)
noncomputable def OpD(X:Cx)(CL:ClA)(W:XW)(f:Aj->Aj->Fx Aj)(g:D->D->R D):Prop:=
 ∀ A,OpR X f (λx y H Q=>AOk H A/\∃ dx dy,Cm X.K CL H A x dx/\Cm X.K CL H A y dy/\AR (λH=>Rep X.K CL H A) W H (g dx dy) Q)
section
variable{X:Cx}{CL:ClA}{W:XW}{a b c:An}{fa fb fc:Rho->R D}{pos:AC}
theorem SE.st(h:SE X CL W a fa):ST X CL W a fa:=λA=>PE.weak (h A) λY H Q ⟨hA,U,g,p⟩=>⟨hA,U,g,by
 cases e:fa U with
 |ok d=>rw[e]at p;exact λv H' s r=>p v H' s (.inl r)
 |exn x=>rw[e]at p;exact p
 | bad=>rw[e]at p;exact p⟩
theorem SE.congr{f g:Rho->R D}(h:SE X CL W a f)(e:∀ U,g U=f U):SE X CL W a g:=λA=>PE.weak (h A) λY H Q ⟨hA,U,q,p⟩=>⟨hA,U,q,by rw[<-e];exact p⟩
theorem MQ(h:PE X a (tC v))(r:∀ H A,AOk H A->Rep X.K CL H A v d):SE X CL W a (λ_=>.ok d):=λA=>PE.weak h λY H Q ⟨hA,U,g,p⟩=>p v H (Az.refl H) (r H A hA)
theorem lP{i j}:SE X CL W (.Constant (.int i) j pos) (λ_=>.ok (.int i)):=MQ lE λ_ _ _=>rfl
theorem Ui{b j}:SE X CL W (.Constant (.bool b) j pos) (λ_=>.ok (.bl b)):=MQ sK λ_ _ _=>rfl
theorem TQ{j}:SE X CL W (.Constant .none j pos) (λ_=>.ok .non):=MQ lB λ_ _ _=>rfl
theorem MN{x j}:SE X CL W (.Constant (.str x) j pos) (λ_=>.ok (.str x)):=MQ MD λ_ _ _=>rfl
theorem eM(h:FH U i=.ok d):U[i]?=Aa (Aa (d,Ad)):=by
 unfold FH at h;split at h
 .rename_i e;cases h;exact e
 .cases h
theorem RX(h:DO U i=.ok d):∃ o,U[i]?=Aa (Aa (d,o))/\(o=Ab->d≠.non):=by
 unfold DO at h;split at h
 .rename_i e;cases h;exact⟨_,e,λz=>nomatch z⟩
 .rename_i x e;cases x with
  |lst xs=>cases h;exact⟨_,e,λ_ z=>nomatch z⟩
  |_=>cases h
 .cases h
theorem ZS{x:Ex}(h:FH U i=.exn x):AW:=by
 unfold FH at h;split at h<;>cases h
theorem Lk{x:Ex}(h:DO U i=.exn x):AW:=by
 unfold DO at h;split at h
 .cases h
 .rename_i y _;cases y<;>cases h
 .cases h
theorem iZ(h:PE X a (EQ i)):SE X CL W a (λU=>FH U i):=λA=>PE.weak h λY H Q ⟨hA,U,g,p⟩=>by
 dsimp only at p;cases e:FH U i with
 |ok d=>
  rw[e]at p;obtain⟨v,q,r⟩:=g.sh i d (eM e);exact⟨v,q,p v H (Az.refl H) r⟩
 |exn x=>exact(ZS e).elim
 |bad=>rw[e]at p;exact p.elim
theorem Iz(h:PE X a (EQ i)):ST X CL W a (λU=>DO U i):=λA=>PE.weak h λY H Q ⟨hA,U,g,p⟩=>by
 dsimp only at p;cases e:DO U i with
 |ok d=>
  rw[e]at p;obtain⟨o,e,hn⟩:=RX e;cases o with
  |false=>
   obtain⟨v,q,r⟩:=g.sh i d e;exact⟨v,q,p v H (Az.refl H) (.inl r)⟩
  |true=>
   obtain⟨x,xs,ds,q,rfl,ha,hh,r⟩:=g.ow i d e (hn rfl);exact⟨_,q,p _ H (Az.refl H) (.inr ⟨x,xs,ds,rfl,rfl,hh,r⟩)⟩
 |exn x=>exact(Lk e).elim
 |bad=>rw[e]at p;exact p.elim
theorem op2(h:AOk H A/\∃ U,Good X.K CL A U Y H/\AR Rq W H ((fa U).bind λx=>(fb U).bind λy=>g x y) Q):AOk H A/\∃ U,Good X.K CL A U Y H/\AR (λH=>Cm X.K CL H A) W H (fa U) (λx H1=>AOk H1 A/\∃ U,Good X.K CL A U Y H1/\AR (λH=>Cm X.K CL H A) W H1 (fb U) (λy H2=>AOk H2 A/\∃ dx dy,Cm X.K CL H2 A x dx/\Cm X.K CL H2 A y dy/\AR Rq W H2 (g dx dy) Q)):=by
 obtain⟨hA,U,gd,p⟩:=h;refine⟨hA,U,gd,AR.bind p λdx x H1 _ s1 r1 p1=>⟨hA.same s1,U,gd.same s1,AR.bind p1 λdy y H2 _ s2 r2 p2=>⟨(hA.same s1).same s2,dx,dy,r1.same s2,r2,p2⟩⟩⟩
theorem O2{op:Fh}(ho:OpD X CL W (BY op) g)(ha:ST X CL W a fa)(hb:ST X CL W b fb):SE X CL W (.BinOp a op b pos) (λU=>(fa U).bind λx=>(fb U).bind λy=>g x y):=
 λA=>PE.weak (Ud (ho A) (ha A) (hb A)) λY H Q h=>op2 h
theorem lR(ho:OpD X CL W (Cq op) g)(ha:ST X CL W a fa)(hb:ST X CL W b fb)(hm:GO op b=Ad):SE X CL W (.Compare a [op] [b] pos) (λU=>(fa U).bind λx=>(fb U).bind λy=>g x y):=
 λA=>PE.weak (gH (ho A) (ha A) (hb A) hm) λY H Q h=>op2 h
theorem Cm.int_of{i:Ah}(h:Cm K CL H A v (.int i)):v=.int i:=by
 rcases h with h|⟨_,_,_,_,e,_⟩
 .exact h
 .cases e
theorem Cm.str_of{i:Ag}(h:Cm K CL H A v (.str i)):v=.str i:=by
 rcases h with h|⟨_,_,_,_,e,_⟩
 .exact h
 .cases e
theorem Cm.bl_of{i:Am}(h:Cm K CL H A v (.bl i)):v=.bl i:=by
 rcases h with h|⟨_,_,_,_,e,_⟩
 .exact h
 .cases e
theorem Cm.non_of(h:Cm K CL H A v .non):v=.non:=by
 rcases h with h|⟨_,_,_,_,e,_⟩
 .exact h
 .cases e
theorem Cm.lst_of{ds:Ac D}(h:Cm K CL H A v (.lst ds)):∃ a xs,v=.ref a/\SqL K H a xs/\Reps K CL H A xs ds:=by
 rcases h with ⟨a,xs,e,_,s,r⟩|⟨a,xs,es,rfl,e,s,r⟩
 .exact⟨a,xs,e,s,r⟩
 .cases e;exact⟨a,xs,rfl,SqL.of s,r⟩
theorem Cm.tup_of{ds:Ac D}(h:Cm K CL H A v (.tup ds)):∃ a xs,v=.ref a/\(¬ A a\/KT K a xs)/\SqT K H a xs/\Reps K CL H A xs ds:=by
 rcases h with ⟨a,xs,e,n,s,r⟩|⟨_,_,_,_,e,_⟩
 .exact⟨a,xs,e,n,s,r⟩
 .cases e
theorem fJ{i j:Ah}(h:FF i j=Ab):Nt i j:=by
 unfold FF at h;simp only[B2,Al,AD]at h;unfold Nt;omega
theorem SZ{a:Ah}(h:a.natAbs<2 ^ 2000):Wm a<=2 ^ 20:=by
 unfold Wm;split
 .omega
 .rename_i hz;have h0:a.natAbs≠0:=by intro z;exact hz (by rw[Int.natAbs_eq_zero.mp z];rfl)
  have:=(Nat.log2_lt h0).mpr h;omega
theorem fH{i j:Ah}(h:(FF i j||M8 i j)=Ab):KZ i j:=by
 rcases Bool.or_eq_true_iff.mp h with h|h
 .exact(fJ h).ok
 .unfold M8 at h;rw[Al,AD,AD]at h;exact .of_bits (SZ h.1) (SZ h.2)
theorem gP:OpR X (BY .Mult) (rI KZ λi j=>.int (i*j)):=opI λ_ _ _ _ _ _ _ hc q=>mul_int q hc
theorem JD(h:B8 n=Ab):n<=sizeLine:=by
 unfold B8 at h;rw[Cc];have:=Bw h;omega
theorem Sh{p:Ak}{ds:Ac D}(hA:AOk H A)(hp:H p=Ae)(r:Reps K CL H A xs ds):Rep K CL (upd H p (.lst xs)) A (.ref p) (.lst ds):=
 ⟨p,xs,rfl,.inl (hA.new hp),SqL.of DD,r.same λb o e=>by rw[Be (FE e hp)];exact e⟩
theorem Km{p:Ak}{ds:Ac D}(hA:AOk H A)(hp:H p=Ae)(r:Reps K CL H A xs ds):Rep K CL (upd H p (.tup xs)) A (.ref p) (.tup ds):=
 ⟨p,xs,rfl,.inl (hA.new hp),SqT.of DD,r.same λb o e=>by rw[Be (FE e hp)];exact e⟩
theorem EL{p:Ak}(h:H p=Ae)(o:HO):Az H (upd H p o):=λb u q=>by rw[Be (FE q h)];exact q
def rZ(K:Fg):R2:=λx y H Q=>∃ l b xs zs,x=.ref l/\y=.ref b/\SqL K H l xs/\SqL K H b zs/\xs.length+zs.length<=sizeLine/\∀ p,H p=Ae->Q (.ref p) (upd H p (.lst (xs++zs)))
end
section
variable{X:Cx}{CL:ClA}{W:XW}
theorem Sc:OpR X (BY .Add) (rZ X.K):=by
 intro pI s Y H x y v u Q I rx ry h;obtain⟨l,b,xs,zs,rfl,rfl,hH,hB,hz,q⟩:=h;cases rx;cases ry;obtain⟨its,r,⟨o,n,e,c,dd,dt⟩,z⟩:=I.list hH;obtain⟨its2,r2,⟨o2,n2,e2,c2,dd2,dt2⟩,z2⟩:=I.list hB;have hl:=r.length;have hl2:=r2.length;obtain⟨cls,dd0,data,sl⟩:=o;obtain⟨cls2,dd02,data2,sl2⟩:=o2;simp only at c dd dt c2 dd2 dt2;subst c dd dt c2 dd2 dt2;have ea:its.toArray++its2.toArray=(its++its2).toArray:=by simp
 refine Jc ⟨_,e,rfl⟩ ⟨_,e2,rfl⟩ noFill_list_add seq_list_add PySem.F.slot_list_add PySem.F.entry_list_add (PySem.F.args_list_add_2 _ _) (list_addW l b its.toArray its2.toArray n n2 Ae Ae sl sl2 (by simp;omega)) ⟨e,e2,?_⟩
 rw[ea];exact⟨.ref _,_,I.lnew (t':=s.toks) (r.append r2) (by rw[BN];omega),rfl,q _ I.fresh⟩
theorem Sb:OpD X CL W (BY .Add) (Cz .Add):=by
 intro A pI s Y H x y v u Q I rx ry ⟨hA,dx,dy,hx,hy,p⟩;cases dx with
 |int i=>
  cases dy with
  |int j=>
   have ex:=hx.int_of;have ey:=hy.int_of
   subst ex ey;exact lK pI s Y H _ _ v u Q I rx ry ⟨i,j,rfl,rfl,p _ H (Az.refl H) rfl⟩
  |_=>exact p.elim
 |str i=>
  cases dy with
  |str j=>
   have ex:=hx.str_of;have ey:=hy.str_of
   subst ex ey;simp only[E3]at p;split at p
   .rename_i h;exact Y_8 pI s Y H _ _ v u Q I rx ry ⟨i,j,rfl,rfl,JD h,p _ H (Az.refl H) rfl⟩
   .exact p.elim
  |_=>exact p.elim
 |lst ds=>
  cases dy with
  |lst es=>
   obtain⟨a,xs,rfl,s1,r1⟩:=hx.lst_of;obtain⟨b,ys,rfl,s2,r2⟩:=hy.lst_of;simp only[Gf]at p;split at p
   .rename_i h;refine Sc pI s Y H _ _ v u Q I rx ry ⟨a,b,xs,ys,rfl,rfl,s1,s2,by rw[r1.length,r2.length];exact JD h,λq hq=>?_⟩
    exact p _ _ (EL hq _) (Sh hA hq (r1.append r2))
   .exact p.elim
  |_=>exact p.elim
 |tup ds=>
  cases dy with
  |tup es=>
   obtain⟨a,xs,rfl,na1,s1,r1⟩:=hx.tup_of;obtain⟨b,ys,rfl,_,s2,r2⟩:=hy.tup_of;simp only[TU]at p;split at p
   .rename_i h;simp only[Al]at h;refine fA pI s Y H _ _ v u Q I rx ry ⟨a,b,xs,ys,rfl,rfl,s1,s2,?_,by rw[r1.length,r2.length];exact JD h.2,λhy0=>?_,λ_ q hq=>?_⟩
    .rintro rfl;cases ds with
     |nil=>cases h.1
     |cons _ _=>exact r1.elim
    .subst hy0;cases es with
     |nil=>rw[Cw]at p;exact p _ H (Az.refl H) ⟨a,xs,rfl,na1,s1,r1⟩
     |cons _ _=>exact r2.elim
    .exact p _ _ (EL hq _) (Km hA hq (r1.append r2))
   .exact p.elim
  |_=>exact p.elim
 |_=>exact p.elim
theorem Mt{op:Fh}{C:Ah->Ah->Prop}{g:Ah->Ah->Ah}(ho:OpR X (BY op) (rI C λi j=>.int (g i j)))(hg:∀ dx dy,(∃ i j,dx=.int i/\dy=.int j/\((C i j/\Cz op dx dy=.ok (.int (g i j)))\/Cz op dx dy=.bad))\/Cz op dx dy=.bad):OpD X CL W (BY op) (Cz op):=by
 intro A pI s Y H x y v u Q I rx ry ⟨hA,dx,dy,hx,hy,p⟩;rcases hg dx dy with ⟨i,j,rfl,rfl,⟨c,e⟩|e⟩|e
 .have ex:=hx.int_of;have ey:=hy.int_of
  subst ex ey;rw[e]at p;exact ho pI s Y H _ _ v u Q I rx ry ⟨i,j,rfl,rfl,c,p _ H (Az.refl H) rfl⟩
 .rw[e]at p;exact p.elim
 .rw[e]at p;exact p.elim
theorem gK:OpD X CL W (BY .Sub) (Cz .Sub):=by
 intro A pI s Y H x y v u Q I rx ry ⟨hA,dx,dy,hx,hy,p⟩;cases dx with
 |int i=>
  cases dy with
  |int j=>
   have ex:=hx.int_of;have ey:=hy.int_of
   subst ex ey;exact lG pI s Y H _ _ v u Q I rx ry ⟨i,j,rfl,rfl,p _ H (Az.refl H) rfl⟩
  |_=>exact p.elim
 |_=>exact p.elim
theorem gM:OpD X CL W (BY .Mult) (Cz .Mult):=Mt gP λdx dy=>by
 cases dx with
 |int i=>
  cases dy with
  |int j=>
   refine .inl ⟨i,j,rfl,rfl,?_⟩;rw[kM];split
   .rename_i h;exact .inl ⟨fH h,rfl⟩
   .exact .inr rfl
  |_=>exact .inr rfl
 |_=>exact .inr rfl
theorem bQ:OpD X CL W (BY .FloorDiv) (Cz .FloorDiv):=Mt gQ λdx dy=>by
 cases dx with
 |int i=>
  cases dy with
  |int j=>
   refine .inl ⟨i,j,rfl,rfl,?_⟩;rw[iP];split
   .rename_i h;exact .inl ⟨h,rfl⟩
   .exact .inr rfl
  |_=>exact .inr rfl
 |_=>exact .inr rfl
theorem gN:OpD X CL W (BY .Mod) (Cz .Mod):=Mt lI λdx dy=>by
 cases dx with
 |int i=>
  cases dy with
  |int j=>
   refine .inl ⟨i,j,rfl,rfl,?_⟩;rw[kO];split
   .rename_i h;exact .inl ⟨h,rfl⟩
   .exact .inr rfl
  |_=>exact .inr rfl
 |_=>exact .inr rfl
theorem gL:OpD X CL W (BY .Pow) (Cz .Pow):=Mt lH λdx dy=>by
 cases dx with
 |int i=>
  cases dy with
  |int j=>
   refine .inl ⟨i,j,rfl,rfl,?_⟩;rw[kX];split
   .rename_i h;exact .inl ⟨⟨h.1.1,h.1.2,by omega⟩,rfl⟩
   .exact .inr rfl
  |_=>exact .inr rfl
 |_=>exact .inr rfl
theorem OE(op:Fh):OpD X CL W (BY op) (Cz op):=by
 cases op with
 |Add=>exact Sb
 |Sub=>exact gK
 |Mult=>exact gM
 |FloorDiv=>exact bQ
 |Mod=>exact gN
 |Pow=>exact gL
 |_=>
  intro A pI s Y H x y v u Q I rx ry ⟨hA,dx,dy,hx,hy,p⟩;exact p.elim
noncomputable abbrev A0:Ak->Prop:=λ_=>AW
theorem Cm.plain(h:Cm K CL H A v d):Rep K CL H A0 v d:=by
 rcases h with h|⟨a,xs,ds,rfl,rfl,e,r⟩
 .exact Rep.sub (λ_ z=>z.elim) d h
 .exact⟨a,xs,rfl,.inl λz=>z.elim,SqL.of e,Reps.sub (λ_ z=>z.elim) ds r⟩
mutual
theorem aJ:∀(n:Af)(d:D),flD n d=Ab->eqD d d=Ab
 |_,.non,_=>rfl
 |_,.bl b,_=>by simp
 |_,.int i,_=>by simp
 |_,.str x,_=>by simp
 |n+1,.tup ds,h=>by
  show eqDs ds ds=Ab;exact eqDs_refl n ds h
 |n+1,.lst ds,h=>by
  show eqDs ds ds=Ab;exact eqDs_refl n ds h
 |0,.tup ds,h=>by cases h
 |0,.lst ds,h=>by cases h
 |n,.obj _ _,h=>by cases n<;>cases h
 |n,.exc _ _,h=>by cases n<;>cases h
 |n,.dic _,h=>by cases n<;>cases h
theorem eqDs_refl:∀(n:Af)(ds:Ac D),ds.all (flD n)=Ab->eqDs ds ds=Ab
 |_,[],_=>rfl
 |n,d::ds,h=>by
  simp only[Dg,Al]at h;simp only[N3,Al];exact⟨aJ n d h.1,eqDs_refl n ds h.2⟩
end
theorem QN(I:Inv X pI Y H s)(h:SqL X.K H a xs)(h':SqT X.K H a ys):AW:=by
 obtain⟨its,r,⟨o,n,e,c,_,_⟩,_⟩:=I.list h;obtain⟨its',r',⟨o',e',c',_⟩,_⟩:=I.tuple h';rw[e]at e';cases e';rw[c]at c'
 injection c' with z
 exact absurd z (by decide)
mutual
theorem Lr{pI:Pn}{Y:L2.St}{H:Hp}{s:Ap}(I:Inv X pI Y H s):∀(n:Af)(d e:D){v:V},flD n d=Ab->flD n e=Ab->Rep X.K CL H A0 v d->Rep X.K CL H A0 v e->d=e
 |n,.tup ds,e,v,hd,he,r,q=>by
  obtain⟨a,xs,rfl,_,s1,r1⟩:=r;cases e with
  |tup es=>
   obtain⟨b,ys,e,_,s2,r2⟩:=q;cases e;have z:=I.tuple_inj s1 s2;subst z;cases n with
   |zero=>cases hd
   |succ n=>rw[reps_inj I n ds es hd he r1 r2]
  |lst es=>
   obtain⟨b,ys,e,_,s2,r2⟩:=q;cases e;exact(QN I s2 s1).elim
  |obj=>cases n<;>cases he
  |exc=>cases n<;>cases he
  |dic=>cases n<;>cases he
  |_=>cases q
 |n,.lst ds,e,v,hd,he,r,q=>by
  obtain⟨a,xs,rfl,_,s1,r1⟩:=r;cases e with
  |lst es=>
   obtain⟨b,ys,e,_,s2,r2⟩:=q;cases e;have z:=I.list_inj s1 s2;subst z;cases n with
   |zero=>cases hd
   |succ n=>rw[reps_inj I n ds es hd he r1 r2]
  |tup es=>
   obtain⟨b,ys,e,_,s2,r2⟩:=q;cases e;exact(QN I s1 s2).elim
  |obj=>cases n<;>cases he
  |exc=>cases n<;>cases he
  |dic=>cases n<;>cases he
  |_=>cases q
 |n,.obj _ _,e,v,hd,he,r,q=>by cases n<;>cases hd
 |n,.exc _ _,e,v,hd,he,r,q=>by cases n<;>cases hd
 |n,.dic _,e,v,hd,he,r,q=>by cases n<;>cases hd
 |n,.non,e,v,hd,he,r,q=>by
  cases r;cases e with
  |tup=>obtain⟨_,_,z,_⟩:=q;cases z
  |lst=>obtain⟨_,_,z,_⟩:=q;cases z
  |obj=>cases n<;>cases he
  |exc=>cases n<;>cases he
  |dic=>cases n<;>cases he
  |_=>cases q<;>rfl
 |n,.bl b,e,v,hd,he,r,q=>by
  cases r;cases e with
  |tup=>obtain⟨_,_,z,_⟩:=q;cases z
  |lst=>obtain⟨_,_,z,_⟩:=q;cases z
  |obj=>cases n<;>cases he
  |exc=>cases n<;>cases he
  |dic=>cases n<;>cases he
  |_=>cases q<;>rfl
 |n,.int b,e,v,hd,he,r,q=>by
  cases r;cases e with
  |tup=>obtain⟨_,_,z,_⟩:=q;cases z
  |lst=>obtain⟨_,_,z,_⟩:=q;cases z
  |obj=>cases n<;>cases he
  |exc=>cases n<;>cases he
  |dic=>cases n<;>cases he
  |_=>cases q<;>rfl
 |n,.str b,e,v,hd,he,r,q=>by
  cases r;cases e with
  |tup=>obtain⟨_,_,z,_⟩:=q;cases z
  |lst=>obtain⟨_,_,z,_⟩:=q;cases z
  |obj=>cases n<;>cases he
  |exc=>cases n<;>cases he
  |dic=>cases n<;>cases he
  |_=>cases q<;>rfl
theorem reps_inj{pI:Pn}{Y:L2.St}{H:Hp}{s:Ap}(I:Inv X pI Y H s):∀(n:Af)(ds es:Ac D){xs:Ac V},ds.all (flD n)=Ab->es.all (flD n)=Ab->Reps X.K CL H A0 xs ds->Reps X.K CL H A0 xs es->ds=es
 |_,[],[],_,_,_,_,_=>rfl
 |n,d::ds,e::es,x::xs,hd,he,r,q=>by
  simp only[Dg,Al]at hd he;rw[Lr I n d e hd.1 he.1 r.1 q.1,reps_inj I n ds es hd.2 he.2 r.2 q.2]
 |_,[],_::_,[],_,_,_,q=>q.elim
 |_,[],_::_,_::_,_,_,r,_=>r.elim
 |_,_::_,[],[],_,_,r,_=>r.elim
 |_,_::_,[],_::_,_,_,_,q=>q.elim
 |_,_::_,_::_,[],_,_,r,_=>r.elim
end
theorem Li:∀{ds es:Ac D},ds.length≠es.length->eqDs ds es=Ad
 |[],[],h=>absurd rfl h
 |[],_::_,_=>rfl
 |_::_,[],_=>rfl
 |d::ds,e::es,h=>by
  simp only[N3,Li (ds:=ds) (es:=es) (by simpa using h),HW]
theorem Qr(n:Af)(f:Af->Am):(A5 (n+1)).all f=(f 0&&(A5 n).all λj=>f (j+1)):=by
 rw[V5,Dg,DX];rfl
theorem Lj:∀{ds es:Ac D},ds.length=es.length->eqDs ds es=(A5 ds.length).all λj=>eqD (ds.getD j .non) (es.getD j .non)
 |[],[],_=>rfl
 |d::ds,e::es,h=>by
  rw[N3,Lj (ds:=ds) (es:=es) (by simpa using h),A2,Qr]
  rfl
 |[],_::_,h=>by cases h
 |_::_,[],h=>by cases h
theorem Ix{ds:Ac D}(r:Reps K CL H A0 xs ds)(rv:AX xs its)(h:j<its.length):∃ x,Rep K CL H A0 x (ds.getD j .non)/\Bp x its[j]:=by
 have e1:=rv.length;have e2:=r.length;have hd:ds[j]?=Aa (ds.getD j .non):=by
  rw[CU,A7 (by omega)];rfl
 obtain⟨x,hx,q⟩:=r.get hd;obtain⟨u,hu,ru⟩:=rv.get hx;refine⟨x,q,?_⟩;rw[A7 h]at hu;cases hu;exact ru
theorem HJ{ds:Ac D}(h:ds.all (flD n)=Ab)(j:Af):flD n (ds.getD j .non)=Ab:=by
 rw[CU];cases e:ds[j]? with
 |none=>cases n<;>rfl
 |some d=>exact Bl.mp h d (V4 e)
def Cv(B:AT)(s:Ap)(u t:Aj)(k:Am):Prop:=J4 B s u t k/\Ef B s u t k/\IX B s u t (!k)
section
variable{B:AT}{s:Ap}
open SeqAt
theorem qP:Cv B s .none .none Ab:=⟨RcAt.none_none,EqAt.same _,RcNeAt.none_none⟩
theorem rP(a b:Am):Cv B s (.bool a) (.bool b) (a==b):=⟨RcAt.bool_bool _ _,EqAt.bool_bool _ _,RcNeAt.bool_bool _ _⟩
theorem qS(b:Am):Cv B s .none (.bool b) Ad:=⟨RcAt.none_bool _,EqAt.none_bool _,RcNeAt.none_bool _⟩
theorem pZ(b:Am):Cv B s (.bool b) .none Ad:=⟨RcAt.bool_none _,EqAt.bool_none _,RcNeAt.bool_none _⟩
theorem pV(a:Ah)(t:Ct)(b:Ah)(u:Ct):Cv B s (.int a t) (.int b u) (a==b):=⟨RcAt.int_int _ _ _ _,EqAt.int_int _ _ _ _,RcNeAt.int_int _ _ _ _⟩
theorem qI(a:Ag)(t:Ct)(b:Ag)(u:Ct):Cv B s (.str a t) (.str b u) (a==b):=⟨RcAt.str_str _ _ _ _,EqAt.str_str _ _ _ _,RcNeAt.str_str _ _ _ _⟩
theorem pS(a:Ah)(t:Ct)(b:Ag)(u:Ct):Cv B s (.int a t) (.str b u) Ad:=⟨RcAt.int_str _ _ _ _,EqAt.int_str _ _ _ _,RcNeAt.int_str _ _ _ _⟩
theorem qL(a:Ag)(t:Ct)(b:Ah)(u:Ct):Cv B s (.str a t) (.int b u) Ad:=⟨RcAt.str_int _ _ _ _,EqAt.str_int _ _ _ _,RcNeAt.str_int _ _ _ _⟩
theorem qR(b:Ah)(u:Ct):Cv B s .none (.int b u) Ad:=⟨RcAt.none_int _ _,EqAt.none_int _ _,RcNeAt.none_int _ _⟩
theorem pT(b:Ah)(u:Ct):Cv B s (.int b u) .none Ad:=⟨RcAt.int_none _ _,EqAt.int_none _ _,RcNeAt.int_none _ _⟩
theorem qO(b:Ag)(u:Ct):Cv B s .none (.str b u) Ad:=⟨RcAt.none_str _ _,EqAt.none_str _ _,RcNeAt.none_str _ _⟩
theorem qJ(b:Ag)(u:Ct):Cv B s (.str b u) .none Ad:=⟨RcAt.str_none _ _,EqAt.str_none _ _,RcNeAt.str_none _ _⟩
theorem rO(a:Am)(b:Ah)(u:Ct):Cv B s (.bool a) (.int b u) (b2i a==b):=⟨RcAt.bool_int _ _ _,EqAt.bool_int _ _ _,RcNeAt.bool_int _ _ _⟩
theorem pW(a:Am)(b:Ah)(u:Ct):Cv B s (.int b u) (.bool a) (b==b2i a):=⟨RcAt.int_bool _ _ _,EqAt.int_bool _ _ _,RcNeAt.int_bool _ _ _⟩
theorem pY(a:Am)(b:Ag)(u:Ct):Cv B s (.bool a) (.str b u) Ad:=⟨RcAt.bool_str _ _ _,EqAt.bool_str _ _ _,RcNeAt.bool_str _ _ _⟩
theorem qM(a:Am)(b:Ag)(u:Ct):Cv B s (.str b u) (.bool a) Ad:=⟨RcAt.str_bool _ _ _,EqAt.str_bool _ _ _,RcNeAt.str_bool _ _ _⟩
variable{l:Ak}{items:Ba Aj}
theorem qV(h:s.heap.IsList l items)(hu:B.units<Bz):Cv B s (.ref l) .none Ad:=⟨RcAt.list_none h hu,EqAt.list_none h hu,RcNeAt.list_none h hu⟩
theorem qQ(h:s.heap.IsList l items)(hu:B.units<Bz):Cv B s .none (.ref l) Ad:=⟨RcAt.none_list h hu,EqAt.none_list h hu,RcNeAt.none_list h hu⟩
theorem pQ(b:Am)(h:s.heap.IsList l items)(hu:B.units<Bz):Cv B s (.ref l) (.bool b) Ad:=⟨RcAt.list_bool b h hu,EqAt.list_bool b h hu,RcNeAt.list_bool b h hu⟩
theorem rN(b:Am)(h:s.heap.IsList l items)(hu:B.units<Bz):Cv B s (.bool b) (.ref l) Ad:=⟨RcAt.bool_list b h hu,EqAt.bool_list b h hu,RcNeAt.bool_list b h hu⟩
theorem qW(b:Ah)(u:Ct)(h:s.heap.IsList l items)(hu:B.units<Bz):Cv B s (.ref l) (.int b u) Ad:=⟨RcAt.list_int b u h hu,EqAt.list_int b u h hu,RcNeAt.list_int b u h hu⟩
theorem pU(b:Ah)(u:Ct)(h:s.heap.IsList l items)(hu:B.units<Bz):Cv B s (.int b u) (.ref l) Ad:=⟨RcAt.int_list b u h hu,EqAt.int_list b u h hu,RcNeAt.int_list b u h hu⟩
theorem qU(b:Ag)(u:Ct)(h:s.heap.IsList l items)(hu:B.units<Bz):Cv B s (.ref l) (.str b u) Ad:=⟨RcAt.list_str b u h hu,EqAt.list_str b u h hu,RcNeAt.list_str b u h hu⟩
theorem qK(b:Ag)(u:Ct)(h:s.heap.IsList l items)(hu:B.units<Bz):Cv B s (.str b u) (.ref l) Ad:=⟨RcAt.str_list b u h hu,EqAt.str_list b u h hu,RcNeAt.str_list b u h hu⟩
theorem qD(h:s.heap.IsTuple l items)(hu:B.units<Bz):Cv B s (.ref l) .none Ad:=⟨RcAt.tuple_none h hu,EqAt.tuple_none h hu,RcNeAt.tuple_none h hu⟩
theorem qN(h:s.heap.IsTuple l items)(hu:B.units<Bz):Cv B s .none (.ref l) Ad:=⟨RcAt.none_tuple h hu,EqAt.none_tuple h hu,RcNeAt.none_tuple h hu⟩
theorem qG(b:Am)(h:s.heap.IsTuple l items)(hu:B.units<Bz):Cv B s (.ref l) (.bool b) Ad:=⟨RcAt.tuple_bool b h hu,EqAt.tuple_bool b h hu,RcNeAt.tuple_bool b h hu⟩
theorem pX(b:Am)(h:s.heap.IsTuple l items)(hu:B.units<Bz):Cv B s (.bool b) (.ref l) Ad:=⟨RcAt.bool_tuple b h hu,EqAt.bool_tuple b h hu,RcNeAt.bool_tuple b h hu⟩
theorem qF(b:Ah)(u:Ct)(h:s.heap.IsTuple l items)(hu:B.units<Bz):Cv B s (.ref l) (.int b u) Ad:=⟨RcAt.tuple_int b u h hu,EqAt.tuple_int b u h hu,RcNeAt.tuple_int b u h hu⟩
theorem pR(b:Ah)(u:Ct)(h:s.heap.IsTuple l items)(hu:B.units<Bz):Cv B s (.int b u) (.ref l) Ad:=⟨RcAt.int_tuple b u h hu,EqAt.int_tuple b u h hu,RcNeAt.int_tuple b u h hu⟩
theorem qC(b:Ag)(u:Ct)(h:s.heap.IsTuple l items)(hu:B.units<Bz):Cv B s (.ref l) (.str b u) Ad:=⟨RcAt.tuple_str b u h hu,EqAt.tuple_str b u h hu,RcNeAt.tuple_str b u h hu⟩
theorem qH(b:Ag)(u:Ct)(h:s.heap.IsTuple l items)(hu:B.units<Bz):Cv B s (.str b u) (.ref l) Ad:=⟨RcAt.str_tuple b u h hu,EqAt.str_tuple b u h hu,RcNeAt.str_tuple b u h hu⟩
theorem qT(h:s.heap.IsList l items)(h2:s.heap.IsTuple b items2)(hu:B.units<Bz):Cv B s (.ref l) (.ref b) Ad:=⟨RcAt.list_tuple h h2 hu,EqAt.list_tuple h h2 hu,RcNeAt.list_tuple h h2 hu⟩
theorem qE(h:s.heap.IsTuple l items)(h2:s.heap.IsList b items2)(hu:B.units<Bz):Cv B s (.ref l) (.ref b) Ad:=⟨RcAt.tuple_list h h2 hu,EqAt.tuple_list h h2 hu,RcNeAt.tuple_list h h2 hu⟩
end
end
section
variable{X:Cx}{CL:ClA}{W:XW}
theorem Jn{its:Ba Aj}(x:PlainL h a its):h.IsList a its:=let ⟨o,n,e,c,_,d⟩:=x;⟨o,e,c,n,d⟩
def Yk(X:Cx)(CL:ClA)(H:Hp)(s:Ap)(d:D)(u:Aj):Prop:=match d with
  |.non=>u=.none
  |.bl b=>u=.bool b
  |.int i=>∃ t,u=.int i t
  |.str x=>∃ t,u=.str x t
  |.tup ds=>∃ a xs its,u=.ref a/\Reps X.K CL H A0 xs ds/\AX xs its/\s.heap.IsTuple a its.toArray
  |.lst ds=>∃ a xs its,u=.ref a/\Reps X.K CL H A0 xs ds/\AX xs its/\s.heap.IsList a its.toArray
  |_=>AW
theorem Sr(I:Inv X pI Y H s)(hd:flD n d=Ab)(r:Rep X.K CL H A0 v d)(q:Bp v u):Yk X CL H s d u:=by
 cases d with
 |non=>cases r;exact q
 |bl b=>cases r;exact q
 |int b=>cases r;exact q
 |str b=>cases r;exact q
 |tup ds=>
  obtain⟨a,xs,rfl,_,sq,r⟩:=r;obtain⟨its,rv,p,_⟩:=I.tuple sq;cases q;exact⟨a,xs,its,rfl,r,rv,p⟩
 |lst ds=>
  obtain⟨a,xs,rfl,_,sq,r⟩:=r;obtain⟨its,rv,p,_⟩:=I.list sq;cases q;exact⟨a,xs,its,rfl,r,rv,Jn p⟩
 |obj=>cases n<;>cases hd
 |exc=>cases n<;>cases hd
 |dic=>cases n<;>cases hd
theorem cP{B:AT}{ds es:Ac D}(hl:s.heap.IsList l its.toArray)(hb:s.heap.IsList b its2.toArray)(e1:its.length=ds.length)(e2:its2.length=es.length)(hu:B.units<Bz)(hs:l=b->eqDs ds es=Ab)(he:∀ j (h1:j<its.length) (h2:j<its2.length),Ef B.in1 s its[j] its2[j] (eqD (ds.getD j .non) (es.getD j .non))):Cv B s (.ref l) (.ref b) (eqDs ds es):=by
 have rc:J4 B s (.ref l) (.ref b) (eqDs ds es):=by
  by_cases hz:its.length=its2.length
  .have q:=SeqAt.RcAt.lists (e:=λj=>eqD (ds.getD j .non) (es.getD j .non)) hl hb (by simpa using hz) hu (λj h1 h2=>by simpa using he j (by simpa using h1) (by simpa using h2))
   rw[Lj (by omega)]
   have e:its.toArray.size=ds.length:=by simpa using e1
   rw[e]at q;exact q
  .rw[Li (by omega)]
   exact SeqAt.RcAt.lists_lengths hl hb (by simpa using hz) hu
 have ne:IX B s (.ref l) (.ref b) (!eqDs ds es):=by
  by_cases hz:its.length=its2.length
  .have q:=SeqAt.RcNeAt.lists (e:=λj=>eqD (ds.getD j .non) (es.getD j .non)) hl hb (by simpa using hz) hu (λj h1 h2=>by simpa using he j (by simpa using h1) (by simpa using h2))
   rw[Lj (by omega)]
   have e:its.toArray.size=ds.length:=by simpa using e1
   rw[e]at q;exact q
  .rw[Li (by omega)]
   exact SeqAt.RcNeAt.lists_lengths hl hb (by simpa using hz) hu
 refine⟨rc,?_,ne⟩;by_cases hlb:l=b
 .rw[hs hlb,hlb];exact Xi _
 .exact Xh hlb rc
theorem cO{B:AT}{ds es:Ac D}(hl:s.heap.IsTuple l its.toArray)(hb:s.heap.IsTuple b its2.toArray)(e1:its.length=ds.length)(e2:its2.length=es.length)(hu:B.units<Bz)(hs:l=b->eqDs ds es=Ab)(he:∀ j (h1:j<its.length) (h2:j<its2.length),Ef B.in1 s its[j] its2[j] (eqD (ds.getD j .non) (es.getD j .non))):Cv B s (.ref l) (.ref b) (eqDs ds es):=by
 have rc:J4 B s (.ref l) (.ref b) (eqDs ds es):=by
  have q:=SeqAt.RcAt.tuples (e:=λj=>eqD (ds.getD j .non) (es.getD j .non)) hl hb hu (λj h1 h2=>by simpa using he j (by simpa using h1) (by simpa using h2))
  have e:its.toArray.size=ds.length:=by simpa using e1
  have e':its2.toArray.size=es.length:=by simpa using e2
  rw[e,e']at q;by_cases hz:ds.length=es.length
  .rw[Lj hz];rw[hz,V9,Do,FO]at q;rw[hz];exact q
  .rw[Li hz];rw[CN.mpr hz,HW]at q;exact q
 have ne:IX B s (.ref l) (.ref b) (!eqDs ds es):=by
  have q:=SeqAt.RcNeAt.tuples (e:=λj=>eqD (ds.getD j .non) (es.getD j .non)) hl hb hu (λj h1 h2=>by simpa using he j (by simpa using h1) (by simpa using h2))
  have e:its.toArray.size=ds.length:=by simpa using e1
  have e':its2.toArray.size=es.length:=by simpa using e2
  rw[e,e']at q;by_cases hz:ds.length=es.length
  .rw[Lj hz];rw[hz,V9,Do,FO]at q;rw[hz];exact q
  .rw[Li hz];rw[CN.mpr hz,HW]at q;exact q
 refine⟨rc,?_,ne⟩;by_cases hlb:l=b
 .rw[hs hlb,hlb];exact Xi _
 .exact Xh hlb rc
theorem Kv{pI:Pn}{Y:L2.St}{H:Hp}{s:Ap}(I:Inv X pI Y H s):∀(n:Af)(d e:D)(v w':V)(u t:Aj)(B:AT),flD n d=Ab->flD n e=Ab->Rep X.K CL H A0 v d->Rep X.K CL H A0 w' e->Bp v u->Bp w' t->B.units+n<Bz->Cv B s u t (eqD d e)
  |n,d,e,v,w',u,t,B,hd,he,r,q,rv,rw',hu=>by
    have hu0:B.units<Bz:=by omega
    have sd:=Sr I hd r rv;have se:=Sr I he q rw'
    match d,e,sd,se with
    |.non,.non,s1,s2=>cases s1;cases s2;exact qP
    |.non,.bl b,s1,s2=>cases s1;cases s2;exact qS b
    |.non,.int b,s1,s2=>cases s1;obtain⟨_,rfl⟩:=s2;exact qR b _
    |.non,.str b,s1,s2=>cases s1;obtain⟨_,rfl⟩:=s2;exact qO b _
    |.non,.tup es,s1,s2=>cases s1;obtain⟨_,_,_,rfl,_,_,p⟩:=s2;exact qN p hu0
    |.non,.lst es,s1,s2=>cases s1;obtain⟨_,_,_,rfl,_,_,p⟩:=s2;exact qQ p hu0
    |.bl a,.non,s1,s2=>cases s1;cases s2;exact pZ a
    |.bl a,.bl b,s1,s2=>cases s1;cases s2;exact rP a b
    |.bl a,.int b,s1,s2=>cases s1;obtain⟨_,rfl⟩:=s2;exact rO a b _
    |.bl a,.str b,s1,s2=>cases s1;obtain⟨_,rfl⟩:=s2;exact pY a b _
    |.bl a,.tup es,s1,s2=>cases s1;obtain⟨_,_,_,rfl,_,_,p⟩:=s2;exact pX a p hu0
    |.bl a,.lst es,s1,s2=>cases s1;obtain⟨_,_,_,rfl,_,_,p⟩:=s2;exact rN a p hu0
    |.int a,.non,s1,s2=>obtain⟨_,rfl⟩:=s1;cases s2;exact pT a _
    |.int a,.bl b,s1,s2=>obtain⟨_,rfl⟩:=s1;cases s2;exact pW b a _
    |.int a,.int b,s1,s2=>obtain⟨_,rfl⟩:=s1;obtain⟨_,rfl⟩:=s2;exact pV a _ b _
    |.int a,.str b,s1,s2=>obtain⟨_,rfl⟩:=s1;obtain⟨_,rfl⟩:=s2;exact pS a _ b _
    |.int a,.tup es,s1,s2=>obtain⟨_,rfl⟩:=s1;obtain⟨_,_,_,rfl,_,_,p⟩:=s2;exact pR a _ p hu0
    |.int a,.lst es,s1,s2=>obtain⟨_,rfl⟩:=s1;obtain⟨_,_,_,rfl,_,_,p⟩:=s2;exact pU a _ p hu0
    |.str a,.non,s1,s2=>obtain⟨_,rfl⟩:=s1;cases s2;exact qJ a _
    |.str a,.bl b,s1,s2=>obtain⟨_,rfl⟩:=s1;cases s2;exact qM b a _
    |.str a,.int b,s1,s2=>obtain⟨_,rfl⟩:=s1;obtain⟨_,rfl⟩:=s2;exact qL a _ b _
    |.str a,.str b,s1,s2=>obtain⟨_,rfl⟩:=s1;obtain⟨_,rfl⟩:=s2;exact qI a _ b _
    |.str a,.tup es,s1,s2=>obtain⟨_,rfl⟩:=s1;obtain⟨_,_,_,rfl,_,_,p⟩:=s2;exact qH a _ p hu0
    |.str a,.lst es,s1,s2=>obtain⟨_,rfl⟩:=s1;obtain⟨_,_,_,rfl,_,_,p⟩:=s2;exact qK a _ p hu0
    |.tup ds,.non,s1,s2=>cases s2;obtain⟨_,_,_,rfl,_,_,p⟩:=s1;exact qD p hu0
    |.tup ds,.bl b,s1,s2=>cases s2;obtain⟨_,_,_,rfl,_,_,p⟩:=s1;exact qG b p hu0
    |.tup ds,.int b,s1,s2=>obtain⟨_,rfl⟩:=s2;obtain⟨_,_,_,rfl,_,_,p⟩:=s1;exact qF b _ p hu0
    |.tup ds,.str b,s1,s2=>obtain⟨_,rfl⟩:=s2;obtain⟨_,_,_,rfl,_,_,p⟩:=s1;exact qC b _ p hu0
    |.tup ds,.lst es,s1,s2=>obtain⟨_,_,_,rfl,_,_,p⟩:=s1;obtain⟨_,_,_,rfl,_,_,p2⟩:=s2;exact qE p p2 hu0
    |.lst ds,.non,s1,s2=>cases s2;obtain⟨_,_,_,rfl,_,_,p⟩:=s1;exact qV p hu0
    |.lst ds,.bl b,s1,s2=>cases s2;obtain⟨_,_,_,rfl,_,_,p⟩:=s1;exact pQ b p hu0
    |.lst ds,.int b,s1,s2=>obtain⟨_,rfl⟩:=s2;obtain⟨_,_,_,rfl,_,_,p⟩:=s1;exact qW b _ p hu0
    |.lst ds,.str b,s1,s2=>obtain⟨_,rfl⟩:=s2;obtain⟨_,_,_,rfl,_,_,p⟩:=s1;exact qU b _ p hu0
    |.lst ds,.tup es,s1,s2=>obtain⟨_,_,_,rfl,_,_,p⟩:=s1;obtain⟨_,_,_,rfl,_,_,p2⟩:=s2;exact qT p p2 hu0
    |.tup ds,.tup es,s1,s2=>
      match n,hd,he,hu with
      |n+1,hd,he,hu=>
        obtain⟨a,xs,its,rfl,r1,v1,p1⟩:=s1;obtain⟨b,ys,its2,rfl,r2,v2,p2⟩:=s2;have l1:=v1.length;have l2:=r1.length;have l3:=v2.length;have l4:=r2.length
        refine cO p1 p2 (by omega) (by omega) hu0 (λhab=>?_) λj h1 h2=>?_
        · have e1:v=.ref a:=Bp.inj rv rfl;have e2:w'=.ref b:=Bp.inj rw' rfl;subst e1 e2 hab;have z:=Lr I (n+1) _ _ hd he r q
          injection z with z
          rw[z];exact eqDs_refl n es he
        · obtain⟨x,rx,qx⟩:=Ix r1 v1 h1;obtain⟨y,ry,qy⟩:=Ix r2 v2 h2;exact(Kv I n _ _ x y _ _ B.in1 (HJ hd j) (HJ he j) rx ry qx qy (by show B.units+1+n<Bz;omega)).2.1
    |.lst ds,.lst es,s1,s2=>
      match n,hd,he,hu with
      |n+1,hd,he,hu=>
        obtain⟨a,xs,its,rfl,r1,v1,p1⟩:=s1;obtain⟨b,ys,its2,rfl,r2,v2,p2⟩:=s2;have l1:=v1.length;have l2:=r1.length;have l3:=v2.length;have l4:=r2.length
        refine cP p1 p2 (by omega) (by omega) hu0 (λhab=>?_) λj h1 h2=>?_
        · have e1:v=.ref a:=Bp.inj rv rfl;have e2:w'=.ref b:=Bp.inj rw' rfl;subst e1 e2 hab;have z:=Lr I (n+1) _ _ hd he r q
          injection z with z
          rw[z];exact eqDs_refl n es he
        · obtain⟨x,rx,qx⟩:=Ix r1 v1 h1;obtain⟨y,ry,qy⟩:=Ix r2 v2 h2;exact(Kv I n _ _ x y _ _ B.in1 (HJ hd j) (HJ he j) rx ry qx qy (by show B.units+1+n<Bz;omega)).2.1
    |.obj _ _,_,s1,_=>exact s1.elim
    |.exc _ _,_,s1,_=>exact s1.elim
    |.dic _,_,s1,_=>exact s1.elim
    |_,.obj _ _,_,s2=>exact s2.elim
    |_,.exc _ _,_,s2=>exact s2.elim
    |_,.dic _,_,s2=>exact s2.elim
end
section
variable{X:Cx}{CL:ClA}{W:XW}
theorem MF(I:Inv X pI Y H s){ds:Ac D}(B:AT)(hd:flD n d=Ab)(hs:ds.all (flD n)=Ab)(r:Reps X.K CL H A0 xs ds)(rv:AX xs its)(q:Rep X.K CL H A0 v d)(qv:Bp v u)(hu:B.units+n<Bz):∃ e:Aj->Am,(∀ y,y∈its.toArray->Ef B s y u (e y))/\its.toArray.any e=ds.any λy=>eqD y d:=by
 have l1:=rv.length;have l2:=r.length
 have key:∀ y,y∈its->∃ k:Am,Ef B s y u k/\∀ j (h:j<its.length),its[j]=y->eqD (ds.getD j .non) d=k:=λy hy=>by
  obtain⟨j,hj,rfl⟩:=EY hy;obtain⟨x,rx,qx⟩:=Ix r rv hj;refine⟨eqD (ds.getD j .non) d,(Kv I n _ _ x v _ _ B (HJ hs j) hd rx q qx qv hu).2.1,λj' hj' e=>?_⟩
  obtain⟨x',rx',qx'⟩:=Ix r rv hj';rw[e]at qx';have z:=Bp.inj qx qx';subst z;rw[Lr I n _ _ (HJ hs j') (HJ hs j) rx' rx]
 have key2:∀ y,∃ k:Am,y∈its->Ef B s y u k/\∀ j (h:j<its.length),its[j]=y->eqD (ds.getD j .non) d=k:=λy=>by
  by_cases hy:y∈its
  .obtain⟨k,hk⟩:=key y hy;exact⟨k,λ_=>hk⟩
  .exact⟨Ab,λh=>absurd h hy⟩
 refine⟨λy=>G6 (key2 y),λy hy=>(C7 (key2 y) (by simpa using hy)).1,?_⟩
 rw[Eb];simp only[List.any_toArray,DY];constructor
 .rintro⟨y,hy,hk⟩;obtain⟨j,hj,rfl⟩:=EY hy;have z:=(C7 (key2 its[j]) hy).2 j hj rfl;rw[hk]at z;refine⟨ds.getD j .non,?_,z⟩;rw[CU,A7 (by omega)]
  exact Dk _
 .rintro⟨y,hy,hk⟩;obtain⟨j,hj,rfl⟩:=EY hy;have hj':j<its.length:=by omega
  refine⟨its[j],Dk _,?_⟩;have z:=(C7 (key2 its[j]) (Dk _)).2 j hj' rfl;rw[<-z,CU,A7 hj];exact hk
theorem Mo{g:Ah->Ah->Am}(ho:OpR X (Cq op) (rI0 λi j=>.bl (g i j)))(hg:∀ dx dy,(∃ i j,dx=.int i/\dy=.int j/\Bj op dx dy=.ok (.bl (g i j)))\/Bj op dx dy=.bad):OpD X CL W (Cq op) (Bj op):=by
 intro A pI s Y H x y v u Q I rx ry ⟨hA,dx,dy,hx,hy,p⟩;rcases hg dx dy with ⟨i,j,rfl,rfl,e⟩|e
 .have ex:=hx.int_of;have ey:=hy.int_of
  subst ex ey;rw[e]at p;exact ho pI s Y H _ _ v u Q I rx ry ⟨i,j,rfl,rfl,p _ H (Az.refl H) rfl⟩
 .rw[e]at p;exact p.elim
theorem Ts{x:V}(h:Cm X.K CL H A x d)(hd:d≠.non):x≠.non:=by
 rintro rfl;have h:=h.plain;cases d with
 |non=>exact hd rfl
 |tup=>obtain⟨_,_,e,_⟩:=h;cases e
 |lst=>obtain⟨_,_,e,_⟩:=h;cases e
 |obj=>obtain⟨_,_,_,_,e,_⟩:=h;cases e
 |exc=>obtain⟨_,_,_,e,_⟩:=h;cases e
 |dic=>exact h.elim
 |_=>cases h
theorem Kl(hu:X.A.units+64<Bz)(op:CV):OpD X CL W (Cq op) (Bj op):=by
 cases op with
 |Eq=>
  intro A pI s Y H x y v u Q I rx ry ⟨hA,dx,dy,hx,hy,p⟩;rw[sU]at p;split at p
  .rename_i h;simp only[Al]at h;exact(Kv I 5 dx dy x y v u X.A h.1 h.2 hx.plain hy.plain rx ry (by omega)).1 X.prog X.w X.xe _ ⟨.bl _,H,I,rfl,p _ H (Az.refl H) rfl⟩
  .exact p.elim
 |NotEq=>
  intro A pI s Y H x y v u Q I rx ry ⟨hA,dx,dy,hx,hy,p⟩;rw[rF]at p;split at p
  .rename_i h;simp only[Al]at h;exact(Kv I 5 dx dy x y v u X.A h.1 h.2 hx.plain hy.plain rx ry (by omega)).2.2 X.prog X.w X.xe _ ⟨.bl _,H,I,rfl,p _ H (Az.refl H) rfl⟩
  .exact p.elim
 |Lt=>
  refine Mo sO λdx dy=>?_
  cases dx with
  |int i=>
   cases dy with
   |int j=>exact .inl ⟨i,j,rfl,rfl,rfl⟩
   |_=>exact .inr rfl
  |_=>exact .inr rfl
 |LtE=>
  refine Mo qZ λdx dy=>?_
  cases dx with
  |int i=>
   cases dy with
   |int j=>exact .inl ⟨i,j,rfl,rfl,rfl⟩
   |_=>exact .inr rfl
  |_=>exact .inr rfl
 |Gt=>
  refine Mo rA λdx dy=>?_
  cases dx with
  |int i=>
   cases dy with
   |int j=>exact .inl ⟨i,j,rfl,rfl,rfl⟩
   |_=>exact .inr rfl
  |_=>exact .inr rfl
 |GtE=>
  refine Mo rB λdx dy=>?_
  cases dx with
  |int i=>
   cases dy with
   |int j=>exact .inl ⟨i,j,rfl,rfl,rfl⟩
   |_=>exact .inr rfl
  |_=>exact .inr rfl
 |In=>
  intro A pI s Y H x y v u Q I rx ry ⟨hA,dx,dy,hx,hy,p⟩;cases dy with
  |lst es=>
   rw[HV]at p;split at p
   .rename_i h;simp only[Al]at h;obtain⟨a,xs,e,_,sq,r⟩:=hy.plain;subst e;cases ry;obtain⟨its,rv,pl,_⟩:=I.list sq;obtain⟨e,he,ha⟩:=MF I (n:=5) X.A.in1 h.1 h.2 r rv hx.plain rx (by show X.A.units+1+5<Bz;omega)
    refine SeqAt.in_listAt e (Jn pl) he ?_;rw[ha];exact⟨.bl _,H,I,rfl,p _ H (Az.refl H) rfl⟩
   .exact p.elim
  |tup es=>
   rw[Yu]at p;split at p
   .rename_i h;simp only[Al]at h;obtain⟨a,xs,e,_,sq,r⟩:=hy.plain;subst e;cases ry;obtain⟨its,rv,pl,_⟩:=I.tuple sq;obtain⟨e,he,ha⟩:=MF I (n:=5) X.A.in1 h.1 h.2 r rv hx.plain rx (by show X.A.units+1+5<Bz;omega)
    refine SeqAt.in_tupleAt e pl he ?_;rw[ha];exact⟨.bl _,H,I,rfl,p _ H (Az.refl H) rfl⟩
   .exact p.elim
  |dic kvs=>exact hy.plain.elim
  |_=>exact p.elim
 |NotIn=>
  intro A pI s Y H x y v u Q I rx ry ⟨hA,dx,dy,hx,hy,p⟩;cases dy with
  |lst es=>
   rw[LG]at p;split at p
   .rename_i h;simp only[Al]at h;obtain⟨a,xs,e,_,sq,r⟩:=hy.plain;subst e;cases ry;obtain⟨its,rv,pl,_⟩:=I.list sq;obtain⟨e,he,ha⟩:=MF I (n:=5) X.A.in1 h.1 h.2 r rv hx.plain rx (by show X.A.units+1+5<Bz;omega)
    refine SeqAt.notIn_listAt e (Jn pl) he ?_;rw[ha];exact⟨.bl _,H,I,rfl,p _ H (Az.refl H) rfl⟩
   .exact p.elim
  |tup es=>
   rw[rE]at p;split at p
   .rename_i h;simp only[Al]at h;obtain⟨a,xs,e,_,sq,r⟩:=hy.plain;subst e;cases ry;obtain⟨its,rv,pl,_⟩:=I.tuple sq;obtain⟨e,he,ha⟩:=MF I (n:=5) X.A.in1 h.1 h.2 r rv hx.plain rx (by show X.A.units+1+5<Bz;omega)
    refine SeqAt.notIn_tupleAt e pl he ?_;rw[ha];exact⟨.bl _,H,I,rfl,p _ H (Az.refl H) rfl⟩
   .exact p.elim
  |_=>exact p.elim
 |Is=>
  intro A pI s Y H x y v u Q I rx ry ⟨hA,dx,dy,hx,hy,p⟩;cases dy with
  |non=>
   have ey:=hy.non_of;subst ey;refine lJ pI s Y H _ _ v u Q I rx ry ⟨rfl,?_⟩;cases dx with
   |non=>
    have ex:=hx.non_of;subst ex;exact p _ H (Az.refl H) rfl
   |exc=>exact p.elim
   |dic=>exact p.elim
   |_=>rw[CM (Ts hx (by simp))];exact p _ H (Az.refl H) rfl
  |bl b=>
   cases dx with
   |bl a=>
    have ey:=hy.bl_of;have ex:=hx.bl_of;subst ex ey;cases rx;cases ry;refine wpAny_is_plain rfl ⟨.bl (a==b),H,I,?_,p _ H (Az.refl H) rfl⟩;cases a<;>cases b<;>rfl
   |_=>exact p.elim
  |_=>cases dx<;>exact p.elim
 |IsNot=>
  intro A pI s Y H x y v u Q I rx ry ⟨hA,dx,dy,hx,hy,p⟩;cases dy with
  |non=>
   have ey:=hy.non_of;subst ey;refine gO pI s Y H _ _ v u Q I rx ry ⟨rfl,?_⟩;cases dx with
   |non=>
    have ex:=hx.non_of;subst ex;exact p _ H (Az.refl H) rfl
   |exc=>exact p.elim
   |dic=>exact p.elim
   |_=>rw[CM (Ts hx (by simp))];exact p _ H (Az.refl H) rfl
  |bl b=>
   cases dx with
   |bl a=>
    have ey:=hy.bl_of;have ex:=hx.bl_of;subst ex ey;cases rx;cases ry;refine wpAny_isNot_plain rfl ⟨.bl (!(a==b)),H,I,?_,p _ H (Az.refl H) rfl⟩;cases a<;>cases b<;>rfl
   |_=>exact p.elim
  |_=>cases dx<;>exact p.elim
end
section
variable{X:Cx}{CL:ClA}{W:XW}{a b c:An}{fa fb fc:Rho->R D}{pos:AC}
theorem CD.bind{f:D->R Am}{Q:Am->Hp->Prop}{Q':VK}(h:CD W H (r.bind f) Q)(k:∀ d v H',r=.ok d->Az H H'->Rp H' v d->CD W H' (f d) Q->Q' v H'):AR Rp W H r Q':=by
 cases r with
 |ok d=>exact λv H2 s2 q=>k d v H2 rfl s2 q (CD.same s2 h)
 |exn x=>exact h
 |bad=>exact h
theorem CD.bindB{r:R Am}{f:Am->R Am}{Q:Am->Hp->Prop}{Q':Am->Hp->Prop}(h:CD W H (r.bind f) Q)(k:∀ b H',r=.ok b->Az H H'->CD W H' (f b) Q->Q' b H'):CD W H r Q':=by
 cases r with
 |ok d=>exact λH2 s2=>k d H2 rfl s2 (CD.same s2 h)
 |exn x=>exact h
 |bad=>exact h
theorem Hl.bind{Rp:Hp->Ac V->Ac D->Prop}{r:R (Ac D)}{f:Ac D->R D}{Q':Ac V->Hp->Prop}(h:AR Rq W H (r.bind f) Q)(k:∀ d v H',r=.ok d->Az H H'->Rp H' v d->AR Rq W H' (f d) Q->Q' v H'):Hl Rp W H r Q':=by
 cases r with
 |ok d=>exact λv H2 s2 q=>k d v H2 rfl s2 q (AR.same s2 h)
 |exn x=>exact h
 |bad=>exact h
theorem jB(ha:ST X CL W a fa):SE X CL W (.UnaryOp .USub a pos) (λU=>(fa U).bind λx=>unD .USub x):=λA=>PE.weak (sG kG (ha A)) λY H Q ⟨hA,U,g,p⟩=>⟨hA,U,g,AR.bind p λd v H1 _ s1 r1 p1=>by
 cases d with
 |int i=>
  have e:=r1.int_of;subst e;exact⟨i,rfl,p1 _ H1 (Az.refl H1) rfl⟩
 | _=>exact p1.elim⟩
theorem Mf{f:Am->R D}(h:AR Rq W H ((Dt d).bind f) Q):∃ c,d=.bl c/\AR Rq W H (f c) Q:=by
 cases d with
 |bl c=>exact⟨c,rfl,h⟩
 |_=>exact h.elim
theorem TN(ha:ST X CL W a fa):SE X CL W (.UnaryOp .Not a pos) (λU=>(fa U).bind λx=>(Dt x).bind λb=>.ok (.bl (!b))):=λA=>PE.weak (lA (ha A)) λY H Q ⟨hA,U,g,p⟩=>⟨hA,U,g,AR.bind p λd v H1 _ s1 r1 p1=>by
 obtain⟨c,rfl,p2⟩:=Mf p1;exact⟨c,r1.bl_of,p2 _ H1 (Az.refl H1) rfl⟩⟩
theorem O1{op}(ha:SE X CL W a fa):SE X CL W (.BoolOp op [a] pos) fa:=λA=>kZ (ha A)
theorem Te{rest:Ac An}(ha:SE X CL W a fa)(hb:SE X CL W (.BoolOp .And (b::rest) pos) fb):SE X CL W (.BoolOp .And (a::b::rest) pos) (λU=>(fa U).bind λx=>(Dt x).bind λc=>if c=Ab then fb U else .ok (.bl Ad)):=
 λA=>PE.weak (lF (ha A) (hb A)) λY H Q ⟨hA,U,g,p⟩=>⟨hA,U,g,AR.bind p λd v H1 _ s1 r1 p1=>by
  obtain⟨c,rfl,p2⟩:=Mf p1;refine⟨c,r1,?_⟩;cases c with
  |true=>exact⟨hA.same s1,U,g.same s1,p2⟩
  | false=>exact p2 _ H1 (Az.refl H1) rfl⟩
theorem qA{rest:Ac An}(ha:SE X CL W a fa)(hb:SE X CL W (.BoolOp .Or (b::rest) pos) fb):SE X CL W (.BoolOp .Or (a::b::rest) pos) (λU=>(fa U).bind λx=>(Dt x).bind λc=>if c=Ab then .ok (.bl Ab) else fb U):=
 λA=>PE.weak (sH (ha A) (hb A)) λY H Q ⟨hA,U,g,p⟩=>⟨hA,U,g,AR.bind p λd v H1 _ s1 r1 p1=>by
  obtain⟨c,rfl,p2⟩:=Mf p1;refine⟨c,r1,?_⟩;cases c with
  |false=>exact⟨hA.same s1,U,g.same s1,p2⟩
  | true=>exact p2 _ H1 (Az.refl H1) rfl⟩
theorem ZG{op':CV}(hu:X.A.units+64<Bz)(ha:ST X CL W a fa)(hb:ST X CL W b fb)(hc:ST X CL W c fc)(hm:Jd [op,op'] [b,c]=Ad):SE X CL W (.Compare a [op,op'] [b,c] pos) (λU=>(fa U).bind λx=>(fb U).bind λy=>(Bj op x y).bind λz=>(Dt z).bind λk=>if k=Ab then (fc U).bind λu=>Bj op' y u else .ok (.bl Ad)):=
 λA=>PE.weak (bP (Kl hu op A) (Kl hu op' A) (ha A) (hb A) (hc A) hm) λY H Q ⟨hA,U,g,p⟩=>⟨hA,U,g,AR.bind p λdx x H1 _ s1 r1 p1=>⟨hA.same s1,U,g.same s1,AR.bind p1 λdy y H2 _ s2 r2 p2=>
  ⟨(hA.same s1).same s2,dx,dy,r1.same s2,r2,AR.bind p2 λdz z H3 _ s3 r3 p3=>by
   obtain⟨k,rfl,p4⟩:=Mf p3;refine⟨k,r3,?_⟩;cases k with
   |false=>exact p4 _ H3 (Az.refl H3) rfl
   | true=>exact⟨((hA.same s1).same s2).same s3,U,((g.same s1).same s2).same s3,AR.bind p4 λdu u H4 _ s4 r4 p5=>⟨(((hA.same s1).same s2).same s3).same s4,dy,du,(r2.same s3).same s4,r4,p5⟩⟩⟩⟩⟩
theorem getL_at{xs:Ac D}{i:Ah}(h:CI xs i=.ok d):∃ k,plD xs.length i=Aa k/\xs[k]?=Aa d:=by
 unfold CI at h;split at h
 .rename_i k e;split at h
  .rename_i d' e';cases h;exact⟨k,e,e'⟩
  .cases h
 .cases h
theorem Kh{xs:Ac D}{i:Ah}{x:Ex}(h:CI xs i=.exn x):AW:=by
 unfold CI at h;split at h
 .split at h<;>cases h
 .cases h
theorem S1{ds:Ac D}{i:Ah}(r:Reps K CL H A xs ds)(h:CI ds i=.ok d):∃ v,atI xs i=Aa v/\Rep K CL H A v d:=by
 obtain⟨k,e,q⟩:=getL_at h;obtain⟨v,hv,rv⟩:=r.get q;refine⟨v,?_,rv⟩;unfold atI;have:ixN xs.length i=Aa k:=by rw[r.length];exact e
 rw[this];exact hv
theorem hV{z:Ag}{i:Ah}(h:CI (FL z) i=.ok d):∃ c,atI z.cps.toList i=Aa c/\d=.str ⟨#[c]⟩:=by
 obtain⟨k,e,q⟩:=getL_at h;unfold FL at e q;rw[Bi]at e;rw[Ch]at q;cases hc:z.cps.toList[k]? with
 |none=>rw[hc]at q;cases q
 |some c=>
  rw[hc]at q;refine⟨c,?_,(Bg q).symm⟩;unfold atI;have:ixN z.cps.toList.length i=Aa k:=e;rw[this];exact hc
theorem QD(h:B8 n=Ab):n<=sizeLine:=by
 unfold B8 at h;have:=Bw h;rw[Cc];omega
theorem lQ(hs:OP b)(ha:ST X CL W a fa)(hb:ST X CL W b fb):SE X CL W (.Subscript a b pos) (λU=>(fa U).bind λx=>(fb U).bind λy=>FJ x y):=
 λA=>PE.weak (sJ (r:=rIx X.K) nL (ha A) (hb A) hs) λY H Q h=>by
  obtain⟨hA,U,g,h⟩:=op2 h;refine⟨hA,U,g,?_⟩;cases e:fa U with
  |bad=>rw[e]at h;exact h
  |exn x=>rw[e]at h;exact h
  |ok dx0=>
   rw[e]at h;intro x H1 s1 r1;obtain⟨hA1,U1,g1,h1⟩:=h x H1 s1 r1;refine⟨hA1,U1,g1,?_⟩;cases e1:fb U1 with
   |bad=>rw[e1]at h1;exact h1
   |exn x=>rw[e1]at h1;exact h1
   |ok dy0=>
    rw[e1]at h1;intro y H2 s2 r2;obtain⟨hA2,dx,dy,rx,ry,p⟩:=h1 y H2 s2 r2;cases dy with
    |int i=>
     have ey:=ry.int_of;subst ey;cases dx with
     |lst ds=>
      obtain⟨q,xs,rfl,sq,r⟩:=rx.lst_of;rw[sY]at p;cases e2:CI ds i with
      |ok d=>
       rw[e2]at p;obtain⟨v,hv,rv⟩:=S1 r e2;exact .inl ⟨q,xs,i,v,rfl,rfl,sq,hv,p v H2 (Az.refl H2) rv⟩
      |exn x=>exact(Kh e2).elim
      |bad=>rw[e2]at p;exact p.elim
     |tup ds=>
      obtain⟨q,xs,rfl,_,sq,r⟩:=rx.tup_of;rw[sX]at p;cases e2:CI ds i with
      |ok d=>
       rw[e2]at p;obtain⟨v,hv,rv⟩:=S1 r e2;exact .inr (.inl ⟨q,xs,i,v,rfl,rfl,sq,hv,p v H2 (Az.refl H2) rv⟩)
      |exn x=>exact(Kh e2).elim
      |bad=>rw[e2]at p;exact p.elim
     |str z=>
      have ex:=rx.str_of;subst ex;have p':AR (λH=>Rep X.K CL H A) W H2 (if B8 z.length=Ab then CI (FL z) i else .bad) Q:=p
      split at p'
      .rename_i hz;cases e2:CI (FL z) i with
       |ok d=>
        rw[e2]at p';obtain⟨c,hc,rfl⟩:=hV e2;exact .inr (.inr ⟨z,i,c,rfl,rfl,QD hz,hc,p' _ H2 (Az.refl H2) rfl⟩)
       |exn x=>exact(Kh e2).elim
       |bad=>rw[e2]at p';exact p'.elim
      .exact p'.elim
     |dic=>exact rx.plain.elim
     |_=>exact p.elim
    |_=>cases dx<;>first|exact p.elim|exact rx.plain.elim
theorem Th:SA X CL W [] (λ_=>.ok []):=λA=>PA.weak Fj λY H Q ⟨hA,U,g,p⟩=>p [] H (Az.refl H) trivial
theorem Sw(ha:SE X CL W a fa)(hs:SA X CL W es fs)(hst:As (a::es) X.env=(Ad,eval a X.env)::As es X.env):SA X CL W (a::es) (λU=>(fa U).bind λx=>(fs U).bind λxs=>.ok (x::xs)):=
 λA=>PA.weak (DN (ha A) (hs A) hst) λY H Q ⟨hA,U,g,p⟩=>by
  dsimp only at p;refine⟨hA,U,g,?_⟩;cases e:fa U with
  |bad=>rw[e]at p;exact p
  |exn x=>rw[e]at p;exact p
  |ok d=>
   rw[e]at p;intro v H1 s1 r1;refine⟨hA.same s1,U,g.same s1,?_⟩;cases e1:fs U with
   |bad=>rw[R.bind_ok,e1]at p;exact p
   |exn x=>rw[R.bind_ok,e1]at p;exact λH2 s2=>p H2 (s1.trans s2)
   |ok ds=>
    rw[R.bind_ok,e1]at p;exact λvs H2 s2 r2=>p (v::vs) H2 (s1.trans s2) ⟨r1.same s2,r2⟩
theorem TM(hs:SA X CL W es fs)(hz:∀ U ds,fs U=.ok ds->ds.length<=100000):SE X CL W (.Tuple es k pos) (λU=>(fs U).bind λxs=>.ok (.tup xs)):=
 λA=>PE.weak (Tn (hs A)) λY H Q ⟨hA,U,g,p⟩=>⟨hA,U,g,Hl.bind p λds vs H1 e s1 r1 p1=>⟨by
  rw[r1.length,Cc];have:=hz U ds e;omega,λq hq=>p1 _ _ (EL hq _) (Km (hA.same s1) hq r1)⟩⟩
def JV(W:XW)(H:Hp)(r:R (Ao Ah))(Q:Ao Ah->Hp->Prop):Prop:=match r with
  |.ok o=>∀ H',Az H H'->Q o H'
  |.exn x=>∀ H',Az H H'->W x H'
  |.bad=>AW
theorem JV.bind{r:R (Ao Ah)}{f:Ao Ah->R D}(h:AR Rq W H (r.bind f) Q)(k:∀ o H',r=.ok o->Az H H'->AR Rq W H' (f o) Q->Q' o H'):JV W H r Q':=by
 cases r with
 |ok d=>exact λH2 s2=>k d H2 rfl s2 (AR.same s2 h)
 |exn x=>exact h
 |bad=>exact h
def SO(X:Cx)(CL:ClA)(W:XW)(e:Ao An)(f:Rho->R (Ao Ah)):Prop:=∀ A,PO X e (λY H Q=>AOk H A/\∃ U,Good X.K CL A U Y H/\JV W H (f U) Q)
theorem PO.weak{e:Ao An}{t t':TO}(h:PO X e t)(k:∀ Y H Q,t' Y H Q->t Y H Q):PO X e t':=λpI s Y H Q I q=>h pI s Y H Q I (k _ _ _ q)
theorem dJ:SO X CL W Ae (λ_=>.ok Ae):=λA=>PO.weak gE λY H Q ⟨hA,U,g,p⟩=>p H (Az.refl H)
theorem dI(ha:ST X CL W a fa):SO X CL W (Aa a) (λU=>(fa U).bind λd=>(Fl d).bind λi=>.ok (Aa i)):=λA=>PO.weak (gB (ha A)) λY H Q ⟨hA,U,g,p⟩=>by
 dsimp only at p;refine⟨hA,U,g,?_⟩;cases e:fa U with
 |bad=>rw[e]at p;exact p
 |exn x=>rw[e]at p;exact p
 |ok d=>
  rw[e]at p;intro v H1 s1 r1;cases d with
  |int i=>exact⟨i,r1.int_of,p H1 s1⟩
  |_=>exact p.elim
theorem SR{ds:Ac D}(lo hi:Ao Ah)(r:Reps K CL H A xs ds):Reps K CL H A (Jt xs lo hi) (EE ds lo hi):=by
 unfold Jt EE;have e:∀ d o,HT.sIx xs.length d o=IF ds.length d o:=λd o=>by rw[r.length];cases o<;>rfl
 rw[e,e,r.length];exact(r.drop _).take _
end
section
variable{X:Cx}{CL:ClA}{W:XW}{a b c:An}{fa fb fc:Rho->R D}{pos:AC}
def FX(K:Fg)(CL:ClA)(H:Hp)(A:Ak->Prop):Ac V->Ac D->Prop
 |[],[]=>Hi
 |v::vs,d::ds=>Cm K CL H A v d/\FX K CL H A vs ds
 |_,_=>AW
theorem FX.same{K:Fg}{H H':Hp}{A:Ak->Prop}(s:Az H H'):∀{vs:Ac V}{ds:Ac D},FX K CL H A vs ds->FX K CL H' A vs ds
 |[],[],h=>h
 |_::_,_::_,h=>⟨h.1.same s,FX.same s h.2⟩
 |[],_::_,h=>h.elim
 |_::_,[],h=>h.elim
theorem FX.one(h:FX K CL H A vs [d]):∃ v,vs=[v]/\Cm K CL H A v d:=by
 cases vs with
 |nil=>exact h.elim
 |cons v vs=>
  cases vs with
  |nil=>exact⟨v,rfl,h.1⟩
  |cons=>exact h.2.elim
theorem FX.two{e:D}(h:FX K CL H A vs [d,e]):∃ v w',vs=[v,w']/\Cm K CL H A v d/\Cm K CL H A w' e:=by
 cases vs with
 |nil=>exact h.elim
 |cons v vs=>
  cases vs with
  |nil=>exact h.2.elim
  |cons w' vs=>
   cases vs with
   |nil=>exact⟨v,w',rfl,h.1,h.2.1⟩
   |cons=>exact h.2.2.elim
def SAT(X:Cx)(CL:ClA)(W:XW)(es:Ac An)(f:Rho->R (Ac D)):Prop:=∀ A,PA X es (λY H Q=>AOk H A/\∃ U,Good X.K CL A U Y H/\Hl (λH=>FX X.K CL H A) W H (f U) Q)
theorem cL:SAT X CL W [] (λ_=>.ok []):=λA=>PA.weak Fj λY H Q ⟨hA,U,g,p⟩=>p [] H (Az.refl H) trivial
theorem ZJ(ha:ST X CL W a fa)(hs:SAT X CL W es fs)(hst:As (a::es) X.env=(Ad,eval a X.env)::As es X.env):SAT X CL W (a::es) (λU=>(fa U).bind λx=>(fs U).bind λxs=>.ok (x::xs)):=
 λA=>PA.weak (DN (ha A) (hs A) hst) λY H Q ⟨hA,U,g,p⟩=>by
  dsimp only at p;refine⟨hA,U,g,?_⟩;cases e:fa U with
  |bad=>rw[e]at p;exact p
  |exn x=>rw[e]at p;exact p
  |ok d=>
   rw[e]at p;intro v H1 s1 r1;refine⟨hA.same s1,U,g.same s1,?_⟩;cases e1:fs U with
   |bad=>rw[R.bind_ok,e1]at p;exact p
   |exn x=>rw[R.bind_ok,e1]at p;exact λH2 s2=>p H2 (s1.trans s2)
   |ok ds=>
    rw[R.bind_ok,e1]at p;exact λvs H2 s2 r2=>p (v::vs) H2 (s1.trans s2) ⟨r1.same s2,r2⟩
def Jp(X:Cx)(CL:ClA)(W:XW)(f:Aj)(g:Ac D->R D):Prop:=∀ A,Hm X f (λxs H Q=>AOk H A/\∃ ds,FX X.K CL H A xs ds/\AR (λH=>Rep X.K CL H A) W H (g ds) Q)
theorem MO{id:CQ}{g:Ac D->R D}(hc:Jp X CL W (.builtin id) g)(hg:Gl X x)(hm:X.mg x=Ae)(hv:CP x=Aa (.builtin id))(ha:SAT X CL W (e::es) fs)(hn:x≠"__name__")(hdb:(x==("__debug__" : Ag))=Ad)(he:As (e::es) X.env=(Ad,eval e X.env)::As es X.env)(hpl:∀ pos,(Bv pos (As es X.env)).any (·.1)=Ad):SE X CL W (.Call (.Name x p) (e::es) [] pos) (λU=>(fs U).bind g):=λA=>PE.weak (Kd (hc A) hg hm hv (ha A) hn hdb he (hpl _)) λY H Q ⟨hA,U,gd,q⟩=>⟨hA,U,gd,Hl.bind q λds vs H1 _ s1 r1 p1=>⟨hA.same s1,ds,r1,p1⟩⟩
theorem Td{g:Ac D->R D}(hc:Jp X CL W (.type T) g)(hg:Gl X x)(hm:X.mg x=Ae)(hv:CP x=Aa (.type T))(ha:SAT X CL W (e::es) fs)(hn:x≠"__name__")(hdb:(x==("__debug__" : Ag))=Ad)(he:As (e::es) X.env=(Ad,eval e X.env)::As es X.env)(hpl:∀ pos,(Bv pos (As es X.env)).any (·.1)=Ad):SE X CL W (.Call (.Name x p) (e::es) [] pos) (λU=>(fs U).bind g):=λA=>PE.weak (Q5 (hc A) hg hm hv (ha A) hn hdb he (hpl _)) λY H Q ⟨hA,U,gd,q⟩=>⟨hA,U,gd,Hl.bind q λds vs H1 _ s1 r1 p1=>⟨hA.same s1,ds,r1,p1⟩⟩
theorem oG:Jp X CL W (.builtin "len") (biD .len):=by
  intro A pI s Y H xs us Q I r ⟨hA,ds,rs,p⟩
  match ds,rs,p with
  |[.lst es],rs,p=>
    obtain⟨v,rfl,rv⟩:=rs.one;obtain⟨q,ys,rfl,sq,ry⟩:=rv.lst_of;exact Qz pI s Y H _ us Q I r ⟨q,ys,rfl,.inl sq,p _ H (Az.refl H) (by rw[ry.length];rfl)⟩
  |[.tup es],rs,p=>
    obtain⟨v,rfl,rv⟩:=rs.one;obtain⟨q,ys,rfl,_,sq,ry⟩:=rv.tup_of;exact Qz pI s Y H _ us Q I r ⟨q,ys,rfl,.inr sq,p _ H (Az.refl H) (by rw[ry.length];rfl)⟩
  |[.str x],rs,p=>
    obtain⟨v,rfl,rv⟩:=rs.one;have e:=rv.str_of;subst e;have p':AR (λH=>Rep X.K CL H A) W H (if B8 x.length=Ab then .ok (.int x.length) else .bad) Q:=p
    split at p'
    · rename_i h;exact YM pI s Y H _ us Q I r ⟨x,rfl,JD h,p' _ H (Az.refl H) rfl⟩
    · exact p'.elim
  |[],_,p=>exact p.elim
  |[.non],_,p=>exact p.elim
  |[.bl _],_,p=>exact p.elim
  |[.int _],_,p=>exact p.elim
  |[.obj _ _],_,p=>exact p.elim
  |[.exc _ _],_,p=>exact p.elim
  |[.dic _],rs,p=>first|exact p.elim|(obtain⟨v,rfl,rv⟩:=rs.one;exact rv.plain.elim)
  |x::_::_,_,p=>cases x<;>exact p.elim
theorem Q7:∀(is:Ac Ah)(i:Ah),HU i is∈i::is/\∀ a∈i::is,HU i is<=a
 |[],i=>⟨AE,λa h=>by rw[List.mem_singleton]at h;rw[h];exact VG _⟩
 |j::r,i=>by
  obtain⟨h1,h2⟩:=Q7 r (if j<i then j else i)
  refine⟨?_,λa h=>?_⟩
  .show HU (if j<i then j else i) r∈_
   rcases AH.mp h1 with e|e
   .rw[e];split
    .exact Aw _ AE
    .exact AE
   .exact Aw _ (Aw _ e)
  .show HU (if j<i then j else i) r<=a
   have h0:=h2 _ AE;rcases AH.mp h with e|e
   .subst e;refine VH h0 ?_;split<;>omega
   .rcases AH.mp e with e|e
    .subst e;refine VH h0 ?_;split<;>omega
    .exact h2 a (Aw _ e)
theorem QH:∀{is:Ac Ah}{its:Ac Aj},AX (is.map V.int) its->∃ xs:Ba (Ah×Ct),its.toArray=K5 xs/\xs.toList.map (·.1)=is
 |[],_,h=>by cases h;exact⟨#[],by simp[K5],rfl⟩
 |i::is,_,h=>by
  cases h with
  |cons h1 h2=>
   obtain⟨t,rfl⟩:=h1;obtain⟨xs,e1,e2⟩:=QH h2;refine⟨((i,t)::xs.toList).toArray,?_,?_⟩
   .apply Array.toList_inj.mp
    have e1':=congrArg IR e1;simp[K5]at e1' ⊢;exact e1'
   .simp[e2]
theorem aA(hc:X.calm=Ab):Hm X (.builtin "min") (λxs H Q=>∃ a i is,xs=[.ref a]/\SqL X.K H a ((i::is).map V.int)/\Q (.int (HU i is)) H):=by
 intro pI s Y H xs us Q I r h;obtain⟨a,i,is,rfl,sq,q⟩:=h;obtain⟨u,rfl,ru⟩:=Ho r;cases ru;obtain⟨its,rv,pl,hz⟩:=I.list sq;obtain⟨ys,e1,e2⟩:=QH rv;have hsz:0<ys.size:=by
  have:=congrArg VZ e2;simp at this;omega
 have hl:=pl.isList;rw[e1]at hl;refine min_intList (I.ok.hd hc) hl hsz λv h' tk hv hk=>?_
 obtain⟨t,rfl⟩:=intItems_at hv;obtain⟨h1,h2⟩:=argBest_lt (Ik ys) (ys.size-1);have nm:∀ j,j<ys.size->Ik ys j∈i::is:=λj hj=>by
  rw[<-e2];unfold Ik;rw[Cf hj];simp only[Wf,Option.getD_some];exact List.mem_map.mpr ⟨ys[j],by simp,rfl⟩
 have nx:∀ x∈i::is,∃ j,j<ys.size/\Ik ys j=x:=λx hx=>by
  rw[<-e2]at hx;obtain⟨y,hy,rfl⟩:=V3.mp hx;obtain⟨j,hj,ej⟩:=Array.mem_iff_getElem.mp (VB.mp hy);refine⟨j,hj,?_⟩;unfold Ik;rw[Cf hj,ej];rfl
 obtain⟨m1,m2⟩:=Q7 is i;have em:Ik ys (argBest (λi j=>decide (Ik ys i<Ik ys j)) (ys.size-1))=HU i is:=by
  refine Int.le_antisymm ?_ (m2 _ (nm _ (by omega)))
  obtain⟨j,hj,ej⟩:=nx _ m1;rw[<-ej];exact h2 j (by omega)
 rw[em];exact⟨.int (HU i is),H,I.kept hk,⟨_,rfl⟩,q⟩
theorem QI{K:Fg}{CL:ClA}{H:Hp}{A:Ak->Prop}:∀{es:Ac D}{is:Ac Ah}{ys:Ac V},ID es=Aa is->Reps K CL H A ys es->ys=is.map V.int
 |[],_,[],h,_=>by cases h;rfl
 |[],_,_::_,_,r=>r.elim
 |_::_,_,[],_,r=>r.elim
 |e::es,is,y::ys,h,r=>by
  cases e with
  |int i=>
   have h':(ID es).map (i :: ·)=Aa is:=h;cases e2:ID es with
   |none=>rw[e2]at h';cases h'
   |some js=>
    rw[e2]at h';cases h';have ih:=QI e2 r.2;have e1:y=.int i:=r.1;rw[ih,e1];rfl
  |_=>cases h
theorem Zu(ds:Ac D)(hl:∀ es,ds≠[.lst es]):(∃ i j,ds=[.int i,.int j])\/biD .min ds=.bad:=by
 rcases ds with _|⟨x,_|⟨y,_|⟨z,r⟩⟩⟩
 .exact .inr rfl
 .cases x with
  |lst es=>exact absurd rfl (hl es)
  |_=>exact .inr rfl
 .cases x with
  |int i=>
   cases y with
   |int j=>exact .inl ⟨i,j,rfl⟩
   |_=>exact .inr rfl
  |_=>exact .inr rfl
 .cases x with
  |int i=>cases y<;>exact .inr rfl
  |_=>exact .inr rfl
theorem oF(hc:X.calm=Ab):Jp X CL W (.builtin "min") (biD .min):=by
  intro A pI s Y H xs us Q I r ⟨hA,ds,rs,p⟩;by_cases hls:∃ es,ds=[.lst es]
  · obtain⟨es,rfl⟩:=hls;obtain⟨v,rfl,rv⟩:=rs.one;obtain⟨a,ys,rfl,sq,ry⟩:=rv.lst_of;have p':AR (Rep X.K CL · A) W H (match ID es with
      |some (i::is)=>R.ok (.int (HU i is))
      | _=>.bad) Q:=p
    cases e1:ID es with
    |none=>rw[e1]at p';exact p'.elim
    |some is=>
      cases is with
      |nil=>rw[e1]at p';exact p'.elim
      |cons i is=>
        rw[e1]at p';have ey:=QI e1 ry;subst ey;exact aA hc pI s Y H _ us Q I r ⟨a,i,is,rfl,sq,p' _ H (Az.refl H) rfl⟩
  rcases Zu ds (λes z=>hls ⟨es,z⟩) with ⟨i,j,rfl⟩|e
  · obtain⟨v,w',rfl,rv,rw'⟩:=rs.two;have e1:=rv.int_of;have e2:=rw'.int_of
    subst e1 e2;exact aC hc pI s Y H _ us Q I r ⟨i,j,rfl,p _ H (Az.refl H) rfl⟩
  · rw[e]at p;exact p.elim
theorem cH:Jp X CL W (.type "tuple") (biD .tuple):=by
  intro A pI s Y H xs us Q I r ⟨hA,ds,rs,p⟩
  match ds,rs,p with
  |[.lst es],rs,p=>
    obtain⟨v,rfl,rv⟩:=rs.one;obtain⟨q,ys,rfl,sq,ry⟩:=rv.lst_of;exact Qq pI s Y H _ us Q I r ⟨q,ys,rfl,.inl ⟨sq,λl hl=>p _ _ (EL hl _) (Km hA hl ry)⟩⟩
  |[.tup es],rs,p=>
    obtain⟨v,rfl,rv⟩:=rs.one;obtain⟨q,ys,rfl,na,sq,ry⟩:=rv.tup_of;exact Qq pI s Y H _ us Q I r ⟨q,ys,rfl,.inr ⟨sq,p _ H (Az.refl H) ⟨q,ys,rfl,na,sq,ry⟩⟩⟩
  |[],_,p=>exact p.elim
  |[.non],_,p=>exact p.elim
  |[.bl _],_,p=>exact p.elim
  |[.int _],_,p=>exact p.elim
  |[.str _],_,p=>exact p.elim
  |[.obj _ _],_,p=>exact p.elim
  |[.exc _ _],_,p=>exact p.elim
  |[.dic _],rs,p=>first|exact p.elim|(obtain⟨v,rfl,rv⟩:=rs.one;exact rv.plain.elim)
  |x::_::_,_,p=>cases x<;>exact p.elim
end
section
variable{X:Cx}{CL:ClA}{W:XW}{a b c:An}{fa fb fc:Rho->R D}{pos:AC}
theorem SB.congr{f g:Rho->R Am}(h:SB X CL W a f)(e:∀ U,g U=f U):SB X CL W a g:=λA=>PT.weak (h A) λY H Q ⟨hA,U,q,p⟩=>⟨hA,U,q,by rw[<-e];exact p⟩
theorem lT{f:Rho->R Am}(ha:SB X CL W a f):SB X CL W (.UnaryOp .Not a pos) (λU=>(f U).bind λb=>.ok (!b)):=λA=>PT.weak (kU (ha A)) λY H Q ⟨hA,U,g,p⟩=>⟨hA,U,g,CD.bindB p λb H1 _ s1 p1=>p1 H1 (Az.refl H1)⟩
def SW(X:Cx)(CL:ClA)(W:XW)(e:An)(f:Rho->R Am):Prop:=∀ A,PW X e (λY H Q=>AOk H A/\∃ U,Good X.K CL A U Y H/\CD W H (f U) Q)
theorem PW.weak{t t':TT}(h:PW X e t)(k:∀ Y H Q,t' Y H Q->t Y H Q):PW X e t':=λwh pI s Y H Q I q=>h wh pI s Y H Q I (k _ _ _ q)
theorem SW.sb{f:Rho->R Am}(h:SW X CL W a f):SB X CL W a f:=λA=>PW.pt (h A)
theorem SW.congr{f g:Rho->R Am}(h:SW X CL W a f)(e:∀ U,g U=f U):SW X CL W a g:=λA=>PW.weak (h A) λY H Q ⟨hA,U,q,p⟩=>⟨hA,U,q,by rw[<-e];exact p⟩
theorem cX{f:Rho->R Am}(ha:SB X CL W a f):SW X CL W (.BoolOp .And [a] pos) f:=λA=>fT (ha A)
theorem jJ{f:Rho->R Am}(ha:SB X CL W a f):SW X CL W (.BoolOp .Or [a] pos) f:=λA=>kS (ha A)
theorem jK{f g:Rho->R Am}{rest:Ac An}(ha:SB X CL W a f)(hb:SW X CL W (.BoolOp .And (b::rest) pos) g):SW X CL W (.BoolOp .And (a::b::rest) pos) (λU=>(f U).bind λc=>if c=Ab then g U else .ok Ad):=
 λA=>PW.weak (kT (ha A) (hb A)) λY H Q ⟨hA,U,gd,p⟩=>⟨hA,U,gd,CD.bindB p λc H1 _ s1 p1=>by
  cases c with
  |true=>exact⟨hA.same s1,U,gd.same s1,p1⟩
  | false=>exact p1 H1 (Az.refl H1)⟩
theorem pL{f g:Rho->R Am}{rest:Ac An}(ha:SB X CL W a f)(hb:SW X CL W (.BoolOp .Or (b::rest) pos) g):SW X CL W (.BoolOp .Or (a::b::rest) pos) (λU=>(f U).bind λc=>if c=Ab then .ok Ab else g U):=
 λA=>PW.weak (sD (ha A) (hb A)) λY H Q ⟨hA,U,gd,p⟩=>⟨hA,U,gd,CD.bindB p λc H1 _ s1 p1=>by
  cases c with
  |false=>exact⟨hA.same s1,U,gd.same s1,p1⟩
  | true=>exact p1 H1 (Az.refl H1)⟩
theorem lU(ho:OpD X CL W (Cq op) g)(ha:ST X CL W a fa)(hb:ST X CL W b fb)(hm:GO op b=Ad):SB X CL W (.Compare a [op] [b] pos) (λU=>(fa U).bind λx=>(fb U).bind λy=>(g x y).bind Dt):=
 λA=>PT.weak (fW (ho A) (ha A) (hb A) hm) λY H Q ⟨hA,U,gd,p⟩=>⟨hA,U,gd,CD.bind p λdx x H1 _ s1 r1 p1=>⟨hA.same s1,U,gd.same s1,CD.bind p1 λdy y H2 _ s2 r2 p2=>
  ⟨(hA.same s1).same s2,dx,dy,r1.same s2,r2,CD.bind p2 λdz z H3 _ s3 r3 p3=>by
   cases dz with
   |bl k=>exact⟨k,r3,p3 H3 (Az.refl H3)⟩
   | _=>exact p3.elim⟩⟩⟩
theorem ZI{op':CV}(hu:X.A.units+64<Bz)(ha:ST X CL W a fa)(hb:ST X CL W b fb)(hc:ST X CL W c fc)(hm:Jd [op,op'] [b,c]=Ad):SB X CL W (.Compare a [op,op'] [b,c] pos) (λU=>(fa U).bind λx=>(fb U).bind λy=>(Bj op x y).bind λz=>(Dt z).bind λk=>if k=Ab then (fc U).bind λu=>(Bj op' y u).bind Dt else .ok Ad):=
  λA=>PT.weak (bG (Kl hu op A) (Kl hu op' A) (ha A) (hb A) (hc A) hm) λY H Q ⟨hA,U,g,p⟩=>⟨hA,U,g,CD.bind p λdx x H1 _ s1 r1 p1=>⟨hA.same s1,U,g.same s1,CD.bind p1 λdy y H2 _ s2 r2 p2=>
    ⟨(hA.same s1).same s2,dx,dy,r1.same s2,r2,CD.bind p2 λdz z H3 _ s3 r3 p3=>by
      cases dz with
      |bl k=>
        refine⟨k,r3,?_⟩;cases k with
        |false=>exact⟨Ad,rfl,p3 H3 (Az.refl H3)⟩
        | true=>exact⟨((hA.same s1).same s2).same s3,U,((g.same s1).same s2).same s3,CD.bind p3 λdu u H4 _ s4 r4 p5=>⟨(((hA.same s1).same s2).same s3).same s4,dy,du,(r2.same s3).same s4,r4,CD.bind p5 λdv v H5 _ s5 r5 p6=>by
            cases dv with
            |bl k'=>exact⟨k',r5,p6 H5 (Az.refl H5)⟩
            | _=>exact p6.elim⟩⟩
      | _=>exact p3.elim⟩⟩⟩
theorem lS(ha:ST X CL W a fa)(he:∀ whole,H9 a X.env whole=(do let v <-whole;standAt a.pos;holding [v] (truthy v))):SB X CL W a (λU=>(fa U).bind BS):=
 λA=>PT.weak (ZM (ha A) he) λY H Q ⟨hA,U,g,p⟩=>⟨hA,U,g,CD.bind p λd v H1 _ s1 r1 p1=>by
  cases d with
  |non=>
   have e:=r1.non_of;subst e;exact⟨Ad,rfl,p1 H1 (Az.refl H1)⟩
  |bl b=>
   have e:=r1.bl_of;subst e;exact⟨b,rfl,p1 H1 (Az.refl H1)⟩
  |int i=>
   have e:=r1.int_of;subst e;exact⟨_,rfl,p1 H1 (Az.refl H1)⟩
  |str x=>
   have e:=r1.str_of;subst e;have p2:CD W H1 (if B8 x.length=Ab then .ok (x.length != 0) else .bad) Q:=p1
   split at p2
   .rename_i h;refine⟨_,⟨JD h,rfl⟩,?_⟩;have e:((x.length:Ah) != 0)=(x.length != 0):=by
     rw[Eb];simp
    rw[e];exact p2 H1 (Az.refl H1)
   .exact p2.elim
  |tup ds=>
   obtain⟨q,xs,rfl,_,sq,r⟩:=r1.tup_of;refine⟨_,.inr (.inl ⟨xs,sq,rfl⟩),?_⟩;have e:xs.isEmpty=ds.isEmpty:=by
    have:=r.length;cases xs<;>cases ds<;>first|rfl|cases this
   rw[e];exact p1 H1 (Az.refl H1)
  |lst ds=>
   obtain⟨q,xs,rfl,sq,r⟩:=r1.lst_of;refine⟨_,.inl ⟨xs,sq,rfl⟩,?_⟩;have e:xs.isEmpty=ds.isEmpty:=by
    have:=r.length;cases xs<;>cases ds<;>first|rfl|cases this
   rw[e];exact p1 H1 (Az.refl H1)
  | _=>exact p1.elim⟩
noncomputable def Yi(K:Fg)(CL:ClA)(H:Hp)(A:Ak->Prop)(cls:Aj)(dx:Ao Ak)(x:Ex):Prop:=
 ∃ C,CL x.c=Aa C/\cls=.ref C/\(x.fs=[]\/∃ d vs,dx=Aa d/\¬ A d/\H d=Aa (.xd vs)/\Repf K CL H A vs x.fs)
def E6(K:Fg)(CL:ClA)(H:Hp)(cls:Aj)(dx:Ao Ak)(x:Ex):Prop:=∀ A,AOk H A->Yi K CL H A cls dx x
end
structure Fr where
 f:Ak->HO->Prop
 pin:Af->Ak->Ac V->Prop
variable{Fz:Fr}
instance:CoeFun Fr λ_=>Ak->HO->Prop:=⟨Fr.f⟩
def Bk(B:Ak->Prop)(U:Rho)(Y:L2.St):Ak->Prop:=λa=>B a\/∃(j:Af)(d:D),U[j]?=Aa (Aa (d,Ab))/\Y[j]?=Aa (Aa (.ref a))
structure Sx (K:Fg) (CL:ClA) (Fz:Fr) (B:Ak->Prop) (U:Rho) (Y:L2.St) (H:Hp):Prop where
 good:Good K CL (Bk B U Y) U Y H
 aok:AOk H (Bk B U Y)
 new:∀(j:Af)(d:D)(a:Ak),U[j]?=Aa (Aa (d,Ab))->Y[j]?=Aa (Aa (.ref a))->(∀ o,¬ Fz a o)/\¬ B a
 dis:∀(i j:Af)(d e:D)(a:Ak),U[i]?=Aa (Aa (d,Ab))->U[j]?=Aa (Aa (e,Ab))->Y[i]?=Aa (Aa (.ref a))->Y[j]?=Aa (Aa (.ref a))->i=j
 same:∀ b o,Fz b o->H b=Aa o
 len:U.length=Y.length
 pin:∀ j:Af,U[j]?=Aa (Aa (.non,Ab))->∃ a xs,Fz.pin j a xs/\Y[j]?=Aa (Aa (.ref a))/\H a=Aa (.lst xs)
def Bs(K:Fg)(CL:ClA)(Fz:Fr)(B:Ak->Prop)(W:XW)(o:O)(D:Ends):Prop:=match o with
  |.next U=>∀ Y H,Sx K CL Fz B U Y H->D.nx Y H
  |.brk U=>∀ Y H,Sx K CL Fz B U Y H->D.bk Y H
  |.cont U=>∀ Y H,Sx K CL Fz B U Y H->D.ct Y H
  |.ret d fr=>∀ v H,(∀ b o,Fz b o->H b=Aa o)->Rep K CL H B v d->(fr=Ab->∀ ds,d=.lst ds->∃ a xs,v=.ref a/\(∀ o,¬ Fz a o)/\H a=Aa (.lst xs)/\Reps K CL H (λb=>B b\/b=a) xs ds)->D.rt v H
  |.exn x _=>∀ H,(∀ b o,Fz b o->H b=Aa o)->W x H
  |.bad=>AW
section
variable{K:Fg}{CL:ClA}{Fz Fy:Fr}{B:Ak->Prop}{U:Rho}{Y:L2.St}{H H':Hp}
theorem Sx.mono(k:∀ b o,Fz b o->Fy b o)(kp:∀ j a xs,Fy.pin j a xs->Fz.pin j a xs)(x:Sx K CL Fy B U Y H):Sx K CL Fz B U Y H:=⟨x.good,x.aok,λj d a h1 h2=>⟨λo z=>(x.new j d a h1 h2).1 o (k _ _ z),(x.new j d a h1 h2).2⟩,x.dis,λb o z=>x.same b o (k _ _ z),x.len,λj h=>let ⟨a,xs,h1,h2⟩:=x.pin j h;⟨a,xs,kp _ _ _ h1,h2⟩⟩
theorem Sx.grow(x:Sx K CL Fz B U Y H)(s:Az H H'):Sx K CL Fz B U Y H':=⟨x.good.same s,x.aok.same s,x.new,x.dis,λb o z=>s _ _ (x.same b o z),x.len,λj h=>let ⟨a,xs,h1,h2,h3⟩:=x.pin j h;⟨a,xs,h1,h2,s _ _ h3⟩⟩
theorem BL{l:Ac α}{v:α}(h:i≠j):(l.set i v)[j]?=l[j]?:=by rw[F5 h]
theorem Ge{l:Ac α}{v w':α}(h:(l.set i v)[i]?=Aa w'):w'=v:=by
 rw[Ft]at h;cases e:l[i]? with
 |none=>rw[e]at h;cases h
 |some x=>rw[e]at h;cases h;rfl
theorem Sx.set(x:Sx K CL Fz B U Y H){v:V}{d:D}(i:Af)(r:Rep K CL H (Bk B U Y) v d):Sx K CL Fz B (U.set i (Aa (d,Ad))) (Y.set i (Aa v)) H:=by
 have own:∀(j:Af)(e:D),(U.set i (Aa (d,Ad)))[j]?=Aa (Aa (e,Ab))->i≠j/\U[j]?=Aa (Aa (e,Ab)):=λj e h=>by
  by_cases hj:i=j
  .subst hj;have:=Ge h;cases this
  .exact⟨hj,by rw[BL hj]at h;exact h⟩
 have sub:∀ a,Bk B (U.set i (Aa (d,Ad))) (Y.set i (Aa v)) a->Bk B U Y a:=λa h=>by
  rcases h with h|⟨j,e,h1,h2⟩
  .exact .inl h
  .obtain⟨hj,h1⟩:=own j e h1;rw[BL hj]at h2;exact .inr ⟨j,e,h1,h2⟩
 refine⟨⟨λj e h=>?_,λj e h hn=>?_,by rw[AU,AU];exact x.len⟩,λa h=>x.aok a (sub a h),λj e a h1 h2=>?_,λj k e f a h1 h2 h3 h4=>?_,x.same,by rw[AU,AU];exact x.len,λj h=>?_⟩
 .by_cases hj:i=j
  .subst hj;have e1:=Ge h;cases e1;refine⟨v,?_,Rep.sub sub _ r⟩;have hl:i<Y.length:=by
    rw[<-x.len];have:=(A1.mp h).1;simpa using this
   rw[Co hl]
  .rw[BL hj]at h;obtain⟨w',q,rw'⟩:=x.good.sh j e h;exact⟨w',by rw[BL hj];exact q,Rep.sub sub _ rw'⟩
 .obtain⟨hj,h1⟩:=own j e h;obtain⟨a,xs,ds,q,z,ha,hh,rr⟩:=x.good.ow j e h1 hn;exact⟨a,xs,ds,by rw[BL hj];exact q,z,.inr ⟨j,e,h,by rw[BL hj];exact q⟩,hh,Reps.sub sub _ rr⟩
 .obtain⟨hj,h1⟩:=own j e h1;rw[BL hj]at h2;exact x.new j e a h1 h2
 .obtain⟨hj,h1⟩:=own j e h1;obtain⟨hk,h2⟩:=own k f h2;rw[BL hj]at h3;rw[BL hk]at h4;exact x.dis j k e f a h1 h2 h3 h4
 .obtain⟨hj,h1⟩:=own j _ h;obtain⟨a,xs,p1,p2,p3⟩:=x.pin j h1;exact⟨a,xs,p1,by rw[BL hj];exact p2,p3⟩
end
section
variable{X:Cx}{CL:ClA}{W:XW}{pos:AC}{e:An}{fe:Rho->R D}
def SS(X:Cx)(CL:ClA)(W:XW)(st:AI)(f:Rho->O):Prop:=∀ Fz B,PS X st (λD Y H=>∃ U,Sx X.K CL Fz B U Y H/\Bs X.K CL Fz B W (f U) D)
def SSs(X:Cx)(CL:ClA)(W:XW)(st:Ac AI)(f:Rho->O):Prop:=∀ Fz B,PSs X st (λD Y H=>∃ U,Sx X.K CL Fz B U Y H/\Bs X.K CL Fz B W (f U) D)
theorem PS.weak{e:AI}{t t':TS}(h:PS X e t)(k:∀ D Y H,t' D Y H->t D Y H):PS X e t':=λpI s Y H D I q=>h pI s Y H D I (k _ _ _ q)
theorem PSs.weak{e:Ac AI}{t t':TS}(h:PSs X e t)(k:∀ D Y H,t' D Y H->t D Y H):PSs X e t':=λpI s Y H D I q=>h pI s Y H D I (k _ _ _ q)
theorem Bs.ex{f:D->O}(x:Sx X.K CL Fz B U Y H)(h:Bs X.K CL Fz B W (O.of U r f) D')(k:∀ d v H',r=.ok d->Az H H'->Rp H' v d->Sx X.K CL Fz B U Y H'->Bs X.K CL Fz B W (f d) D'->Q v H'):AR Rp W H r Q:=by
 cases r with
 |ok d=>exact λv H' s r=>k d v H' rfl s r (x.grow s) h
 |exn y=>exact λH' s=>h H' λb o z=>s _ _ (x.same b o z)
 |bad=>exact h
theorem Bs.exB{r:R Am}{f:Am->O}{Q:Am->Hp->Prop}(x:Sx X.K CL Fz B U Y H)(h:Bs X.K CL Fz B W (O.of U r f) D')(k:∀ b H',r=.ok b->Az H H'->Sx X.K CL Fz B U Y H'->Bs X.K CL Fz B W (f b) D'->Q b H'):CD W H r Q:=by
 cases r with
 |ok d=>exact λH' s=>k d H' rfl s (x.grow s) h
 |exn y=>exact λH' s=>h H' λb o z=>s _ _ (x.same b o z)
 |bad=>exact h
theorem dF:SS X CL W (.Pass pos) (λU=>.next U):=λFz B=>PS.weak gA λD Y H ⟨U,x,p⟩=>p Y H x
theorem dH(he:SE X CL W e fe)(hs:CK e Ae pos.line X.env=pure Ad):SS X CL W (.Expr e pos) (λU=>O.of U (fe U) λ_=>.next U):=λFz B pI s Y H D I ⟨U,x,p⟩=>
 Ls (he (Bk B U Y)) hs pI s Y H D I ⟨x.aok,U,x.good,Bs.ex x p λd v H' _ s r x' q=>q Y H' x'⟩
theorem jR{n:Ag}(hN:X.N.Nodup)(hi:X.N[i]?=Aa n)(hx:Loc X.env.scope n)(he:SE X CL W e fe)(hs:CK e (Aa (.Name n pos')) pos.line X.env=pure Ad)(hf:X.fn n=Ab\/X.env.scope.names.lookup n=Aa .local):SS X CL W (.Assign [.Name n pos'] e pos) (λU=>O.of U (fe U) λd=>.next (U.set i (Aa (d,Ad)))):=λFz B pI s Y H D I ⟨U,x,p⟩=>
 MP hN hi hx (he (Bk B U Y)) hs hf pI s Y H D I ⟨x.aok,U,x.good,Bs.ex x p λd v H' _ s r x' q=>q _ H' (x'.set i r)⟩
theorem dE(he:SE X CL W e fe):SS X CL W (.Return (Aa e) pos) (λU=>O.of U (fe U) λd=>.ret d Ad):=λFz B pI s Y H D I ⟨U,x,p⟩=>
 O5 (he (Bk B U Y)) pI s Y H D I ⟨x.aok,U,x.good,Bs.ex x p λd v H' _ s r x' q=>q v H' x'.same (Rep.sub (λa h=>.inl h) _ r) λz=>nomatch z⟩
theorem oY{a b:Ac AI}{fa fb:Rho->O}(hc:SB X CL W c fc)(ha:SSs X CL W a fa)(hb:SSs X CL W b fb):SS X CL W (.If c a b pos) (λU=>O.of U (fc U) λk=>if k=Ab then fa U else fb U):=λFz B pI s Y H D I ⟨U,x,p⟩=>
 sF (hc (Bk B U Y)) (ha Fz B) (hb Fz B) pI s Y H D I ⟨x.aok,U,x.good,Bs.exB x p λk H' _ s x' q=>by
  cases k with
  |true=>exact⟨U,x',q⟩
  | false=>exact⟨U,x',q⟩⟩
theorem RM:SSs X CL W [] (λU=>.next U):=λFz B=>PSs.weak fX λD Y H ⟨U,x,p⟩=>p Y H x
theorem Ox{st:AI}{rest:Ac AI}{f g:Rho->O}(h1:SS X CL W st f)(h2:SSs X CL W rest g):SSs X CL W (st::rest) (λU=>(f U).seq g):=λFz B=>PSs.weak (Oi (h1 Fz B) (h2 Fz B)) λD Y H ⟨U,x,p⟩=>⟨U,x,by
 dsimp only at p;cases e:f U with
 |next U'=>rw[e]at p;exact λY' H' x'=>⟨U',x',p⟩
 |ret d b=>rw[e]at p;exact p
 |brk U'=>rw[e]at p;exact p
 |cont U'=>rw[e]at p;exact p
 |exn y U'=>rw[e]at p;exact p
 | bad=>rw[e]at p;exact p⟩
end
def IK(K:Fg)(CL:ClA)(A:Ak->Prop)(ds:Ac D)(J:It)(H1:Hp):Prop:=∀ H,Kp A H1 H->∀ i:Af,(ds.length<=i->J.stop i H)/\∀ d,ds[i]?=Aa d->J.go i H/\∀ x H',J.yld i H x H'->Az H H'/\∀ B,(∀ a,B a->A a\/H1 a=Ae)->AOk H B->Rep K CL H' B x d
def EM(K:Fg)(CL:ClA)(A:Ak->Prop)(W:XW)(H:Hp)(r:R (Ac D))(Q:It->Hp->Prop):Prop:=match r with
  |.ok ds=>∀ J H',Az H H'->IK K CL A ds J H'->ds.length<=sizeLine->Q J H'
  |.exn x=>∀ H',Az H H'->W x H'
  |.bad=>AW
def SI(X:Cx)(CL:ClA)(W:XW)(tg iter:An)(f:Rho->R (Ac D)):Prop:=∀ A,PI X tg iter (λY H R=>AOk H A/\∃ U,Good X.K CL A U Y H/\EM X.K CL A W H (f U) R)
theorem PI.weak{t t':TI}(h:PI X tg e t)(k:∀ Y H Q,t' Y H Q->t Y H Q):PI X tg e t':=λpI s Y H Q I q=>h pI s Y H Q I (k _ _ _ q)
section
variable{X:Cx}{CL:ClA}{W:XW}{pos p:AC}{tg e a b:An}{fe fa fb:Rho->R D}
theorem EM.ex{f:D->R (Ac D)}{Q:It->Hp->Prop}{Q':VK}(h:EM X.K CL A W H (r.bind f) Q)(k:∀ d v H',r=.ok d->Az H H'->Rp H' v d->EM X.K CL A W H' (f d) Q->Q' v H'):AR Rp W H r Q':=by
  cases r with
  | ok d=>exact λv H' s q=>k d v H' rfl s q (by
      have h':EM X.K CL A W H (f d) Q:=h;cases e:f d with
      |ok ds=>rw[e]at h';exact λJ H2 s2 y z=>h' J H2 (s.trans s2) y z
      |exn y=>rw[e]at h';exact λH2 s2=>h' H2 (s.trans s2)
      | bad=>rw[e]at h';exact h')
  |exn y=>exact h
  |bad=>exact h
theorem Oa{x:V}(r:Rep K CL H1 A x d)(k:Kp A H1 H)(hB:∀ a,B a->A a\/H1 a=Ae):Rep K CL H B x d:=by
 have r1:Rep K CL H1 (λa=>A a\/B a) x d:=Rep.wide (λa ha=>ha.elim .inl (hB a)) _ r
 have r2:Rep K CL H (λa=>A a\/B a) x d:=Rep.kp (λb o e na=>k b o e λz=>na (.inl z)) _ r1
 exact Rep.sub (λa ha=>.inr ha) _ r2
theorem YO{ds:Ac D}(na:¬ A q\/KL K q xs)(s:SqL K H q xs)(r:Reps K CL H A xs ds):IK K CL A ds (Itl K q) H:=λH' k i=>by
 have s':=MM k na s;refine⟨λh=>⟨xs,s',by rw[r.length];exact h⟩,λd hd=>?_⟩
 obtain⟨v,hv,rv⟩:=r.get hd;exact⟨⟨xs,v,s',hv⟩,λx H2 ⟨e,y⟩=>by
  subst e;have:=y xs s';rw[hv]at this;cases this;exact⟨Az.refl _,λB hB _=>Oa rv k hB⟩⟩
theorem ZN{ds:Ac D}(na:¬ A q\/KT K q xs)(s:SqT K H q xs)(r:Reps K CL H A xs ds):IK K CL A ds (Itt K q) H:=λH' k i=>by
 have s':=ML k na s;refine⟨λh=>⟨xs,s',by rw[r.length];exact h⟩,λd hd=>?_⟩
 obtain⟨v,hv,rv⟩:=r.get hd;exact⟨⟨xs,v,s',hv⟩,λx H2 ⟨e,y⟩=>by
  subst e;have:=y xs s';rw[hv]at this;cases this;exact⟨Az.refl _,λB hB _=>Oa rv k hB⟩⟩
theorem RD(lo:Ah)(n:Af):IK K CL A (EO lo n) (Itr lo n) H:=λH' k i=>by
 refine⟨λh=>by rw[Lb]at h;exact h,λd hd=>?_⟩
 obtain⟨h1,rfl⟩:=Ot hd;exact⟨h1,λx H2 ⟨e,y⟩=>by
  subst e y;exact⟨Az.refl _,λ_ _ _=>rfl⟩⟩
theorem kY{l:An}{tl:TE}(hl:PE X l tl):PI X tg l (λY H R=>tl Y H λx H1=>(∃ a,x=.ref a/\(∃ xs,SqL X.K H1 a xs/\(xs.length<=sizeLine->R (Itl X.K a) H1)))\/∃ a,x=.ref a/\(∃ xs,SqT X.K H1 a xs/\(xs.length<=sizeLine->R (Itt X.K a) H1))):=by
 intro pI s Y H R I h;refine thn (hl pI s Y H _ I h) λv s1 ⟨x,H1,I1,r1,q1⟩=>?_
 rcases q1 with ⟨a,e,xs,hq,q⟩|⟨a,e,xs,hq,q⟩
 .subst e;cases r1;obtain⟨its,rv,p,hz⟩:=I1.list hq;refine FB p.isList ?_;refine⟨s1.heap.objs.size,[s1.heap.objs.size],_,_,H1,rfl,I1.kept (t':=s1.toks) λb o e=>Au _ e,Y_5 a _,⟨_,AY _ rfl,rfl,rfl⟩,λb hb=>?_,q hz⟩
  have e:b=s1.heap.objs.size:=by simpa using hb
  subst e;exact I1.fpOk (AK _) (I1.hok.fresh (AK _))
 .subst e;cases r1;obtain⟨its,rv,p,hz⟩:=I1.tuple hq;refine GK (show s1.heap.IsTuple a its.toArray from p) ?_
  refine⟨s1.heap.objs.size,[s1.heap.objs.size],_,_,H1,rfl,I1.kept (t':=s1.toks) λb o e=>Au _ e,YR a _,⟨_,AY _ rfl,rfl,rfl⟩,λb hb=>?_,q hz⟩
  have e:b=s1.heap.objs.size:=by simpa using hb
  subst e;exact I1.fpOk (AK _) (I1.hok.fresh (AK _))
theorem tO(he:SE X CL W e fe):SI X CL W tg e (λU=>(fe U).bind Eo):=λA=>PI.weak (kY (he A)) λY H R ⟨hA,U,g,p⟩=>⟨hA,U,g,EM.ex p λd v H1 _ s1 r1 p1=>by
 cases d with
 |lst ds=>
  obtain⟨q,xs,rfl,na,sq,r⟩:=r1;exact .inl ⟨q,rfl,xs,sq,λhz=>p1 _ H1 (Az.refl H1) (YO na sq r) (by rw[<-r.length];exact hz)⟩
 |tup ds=>
  obtain⟨q,xs,rfl,na,sq,r⟩:=r1;exact .inr ⟨q,rfl,xs,sq,λhz=>p1 _ H1 (Az.refl H1) (ZN na sq r) (by rw[<-r.length];exact hz)⟩
 | _=>exact p1.elim⟩
theorem Q4{lo hi:Ah}{ds:Ac D}(h:D8 lo hi=.ok ds):(-(2 ^ 62)<=lo/\lo<2 ^ 62)/\(-(2 ^ 62)<=hi/\hi<2 ^ 62)/\ds=EO lo (hi-lo).toNat/\(EO lo (hi-lo).toNat).length<=sizeLine:=by
 unfold D8 at h;split at h
 .rename_i q;cases h;exact⟨by omega,by omega,rfl,by rw[Lb,Cc];omega⟩
 .cases h
theorem QF{lo hi:Ah}{x:Ex}(h:D8 lo hi=.exn x):AW:=by
 unfold D8 at h;split at h<;>cases h
theorem iY(ha:ST X CL W a fa)(hg:Gl X "range")(hm:X.mg "range" = Ae)(hs:As [a] X.env=[(Ad,eval a X.env)]):SI X CL W tg (.Call (.Name "range" p) [a] [] pos) (λU=>(fa U).bind λx=>(Fl x).bind λj=>D8 0 j):=
 λA=>PI.weak (ZF hg hm (DN (ha A) Fj hs) hs) λY H R ⟨hA,U,g,q⟩=>⟨hA,U,g,EM.ex q λd v H1 _ s1 r1 p1=>by
  cases d with
  |int j=>
   have e:=r1.int_of;subst e;have p2:EM X.K CL A W H1 (D8 0 j) R:=p1;cases e2:D8 0 j with
   |ok ds=>
    rw[e2]at p2;obtain⟨_,h2,rfl,hz⟩:=Q4 e2;exact⟨j,rfl,h2.1,h2.2,p2 _ H1 (Az.refl H1) (by rw[VM];exact RD 0 j.toNat) hz⟩
   |exn y=>exact(QF e2).elim
   |bad=>rw[e2]at p2;exact p2.elim
  | _=>exact p1.elim⟩
theorem dM(ha:ST X CL W a fa)(hb:ST X CL W b fb)(hg:Gl X "range")(hm:X.mg "range" = Ae)(hs:As [a,b] X.env=[(Ad,eval a X.env),(Ad,eval b X.env)])(hs2:As [b] X.env=[(Ad,eval b X.env)]):
  SI X CL W tg (.Call (.Name "range" p) [a,b] [] pos) (λU=>(fa U).bind λx=>(fb U).bind λy=>(Fl x).bind λi=>(Fl y).bind λj=>D8 i j):=
 λA=>PI.weak (ZE hg hm (DN (ha A) (DN (hb A) Fj hs2) (by rw[hs,hs2])) hs hs2) λY H R ⟨hA,U,g,q⟩=>⟨hA,U,g,EM.ex q λd v H1 _ s1 r1 p1=>⟨hA.same s1,U,g.same s1,EM.ex p1 λd2 v2 H2 _ s2 r2 p2=>by
  cases d with
  |int i=>
   cases d2 with
   |int j=>
    have e:=r1.int_of;have e':=r2.int_of
    subst e e';have p3:EM X.K CL A W H2 (D8 i j) R:=p2;cases e2:D8 i j with
    |ok ds=>
     rw[e2]at p3;obtain⟨h1,h2,rfl,hz⟩:=Q4 e2;exact⟨i,j,rfl,⟨h1.1,h1.2,h2.1,h2.2⟩,p3 _ H2 (Az.refl H2) (RD _ _) hz⟩
    |exn y=>exact(QF e2).elim
    |bad=>rw[e2]at p3;exact p3.elim
   |_=>exact p2.elim
  | _=>exact p2.elim⟩⟩
theorem Bs.exI{r:R (Ac D)}{f:Ac D->O}{Q:It->Hp->Prop}(x:Sx X.K CL Fz B U Y H)(h:Bs X.K CL Fz B W (O.of U r f) D')(k:∀ ds J H',r=.ok ds->Az H H'->IK X.K CL A ds J H'->ds.length<=sizeLine->Sx X.K CL Fz B U Y H'->Bs X.K CL Fz B W (f ds) D'->Q J H'):EM X.K CL A W H r Q:=by
 cases r with
 |ok d=>exact λJ H' s y z=>k d J H' rfl s y z (x.grow s) h
 |exn y=>exact λH' s=>h H' λb o z=>s _ _ (x.same b o z)
 |bad=>exact h
theorem Bs.turn{Fy:Fr}{o:O}{g:Rho->O}{N:L2.St->Hp->Prop}(hf:∀ b q,Fz b q->Fy b q)(hp:∀ j a xs,Fy.pin j a xs->Fz.pin j a xs)(h:Bs K CL Fz B W (o.turn g) D')(k:∀ U' Y' H',Sx K CL Fy B U' Y' H'->Bs K CL Fz B W (g U') D'->N Y' H'):Bs K CL Fy B W o {D' with nx:=N,ct:=N,bk:=D'.nx}:=by
 cases o with
 |next U'=>exact λY' H' x=>k U' Y' H' x h
 |cont U'=>exact λY' H' x=>k U' Y' H' x h
 |brk U'=>exact λY' H' x=>h Y' H' (x.mono hf hp)
 |ret d b=>exact λv H' s r n=>h v H' (λb o z=>s b o (hf b o z)) r λz ds e=>let ⟨a,xs,h1,h2,h3⟩:=n z ds e;⟨a,xs,h1,λo q=>h2 o (hf a o q),h3⟩
 |exn y U'=>exact λH' s=>h H' (λb o z=>s b o (hf b o z))
 |bad=>exact h
noncomputable def E5(ts:Ac Af)(U:Rho):Rho:=ts.foldl (λU t=>U.set t Ae) U
def GT(K:Fg)(CL:ClA)(as:D->Rho->R Rho)(g:TG):Prop:=∀ Fz B U Y H v d U' Q,Sx K CL Fz B U Y H->Rep K CL H (Bk B U Y) v d->as d U=.ok U'->(∀ Y',Sx K CL Fz B U' Y' H->Q Y' H)->g v Y H Q
theorem iL(i:Af):GT K CL (λd U=>.ok (U.set i (Aa (d,Ad)))) (FG i):=λFz B U Y H v d U' Q x r e k=>by
 cases e;exact k _ (x.set i r)
theorem Tv{K:Fg}{Fz:Fr}{B:Ak->Prop}{H:Hp}:∀(ts:Ac Af)(ds:Ac D)(vs:Ac V)(U U':Rho)(Y:L2.St)(Q:L2.St->Hp->Prop),Sx K CL Fz B U Y H->Reps K CL H (Bk B U Y) vs ds->EB ts ds U=Aa U'->(∀ Y',Sx K CL Fz B U' Y' H->Q Y' H)->(ts.foldr (λt u=>IE (FG t) u) IH) vs Y H Q
 |[],[],[],U,U',Y,Q,x,_,e,k=>by
  cases e;exact⟨rfl,k Y x⟩
 |t::ts,d::ds,v::vs,U,U',Y,Q,x,r,e,k=>by
  refine⟨v,vs,rfl,Tv ts ds vs _ U' _ Q (x.set t r.1) (Reps.sub (λa ha=>?_) ds r.2) e k⟩
  rcases ha with ha|⟨j,c,h1,h2⟩
  .exact .inl ha
  .by_cases hj:t=j
   .subst hj;have:=Ge h1;cases this
   .rw[BL hj]at h1 h2;exact .inr ⟨j,c,h1,h2⟩
 |[],_::_,_,_,_,_,_,_,_,e,_=>by cases e
 |_::_,[],_,_,_,_,_,_,_,e,_=>by cases e
 |[],[],_::_,_,_,_,_,_,r,_,_=>r.elim
 |_::_,_::_,[],_,_,_,_,_,r,_,_=>r.elim
theorem NR:∀(ts:Ac Af)(ds:Ac D)(U U':Rho),EB ts ds U=Aa U'->ds.length=ts.length
 |[],[],_,_,_=>rfl
 |_::ts,_::ds,_,_,e=>congrArg (· + 1) (NR ts ds _ _ e)
 |[],_::_,_,_,e=>by cases e
 |_::_,[],_,_,e=>by cases e
theorem Tu(ts:Ac Af):GT K CL (EK ts) (LP K ts.length (ts.foldr (λt u=>IE (FG t) u) IH)):=λFz B U Y H v d U' Q x r e k=>by
 cases d with
 |tup ds=>
  obtain⟨a,xs,rfl,na,sq,rs⟩:=r;rw[QK]at e;cases e2:EB ts ds U with
  |none=>rw[e2]at e;cases e
  |some U2=>
   rw[e2]at e;cases e;exact⟨a,xs,rfl,sq,by rw[rs.length];exact NR _ _ _ _ e2,Tv ts ds xs U _ Y Q x rs e2 k⟩
 |_=>cases e
theorem TK{g:TG}(hp:DQ (model X.prog X.w) X.A X.env X.xe)(hc:X.calm=Ab)(hGT:GT X.K CL as g)(hg:PG X tg g)(hit:SI X CL W tg iter fi)(hb:SSs X CL W body fbd)(hs:∀ x,BW iter X.env x=pure x)(hax:∀ d U x,as d U≠.exn x):SS X CL W (.For tg iter body [] pos) (λU=>O.of U (fi U) λxs=>Dd (λx U'=>O.of U' (as x U') fbd) xs U):=λFz B pI s Y H D I ⟨U,x,p⟩=>by
 refine Tj hp hc (hit (Bk B U Y)) hg (tb:=λD Y H=>∃ Fy,(λD Y H=>∃ U,Sx X.K CL Fy B U Y H/\Bs X.K CL Fy B W (fbd U) D) D Y H) (λpI s Y H D I ⟨Fy,q⟩=>hb Fy B pI s Y H D I q) hs pI s Y H D I ⟨x.aok,U,x.good,Bs.exI x p λds J H1 _ s1 y _ x1 q=>?_⟩
 let Fy:Fr:=⟨λb o=>H1 b=Aa o/\¬ ∃(j:Af)(d:Ov.D),U[j]?=Aa (Aa (d,Ab))/\Y[j]?=Aa (Aa (.ref b)),Fz.pin⟩
 have hfy:∀ b o,Fz b o->Fy b o:=λb o z=>⟨x1.same b o z,λ⟨j,d,h1,h2⟩=>(x1.new j d b h1 h2).1 o z⟩
 have xy:Sx X.K CL Fy B U Y H1:=⟨x1.good,x1.aok,λj d a h1 h2=>⟨λo z=>z.2 ⟨j,d,h1,h2⟩,(x1.new j d a h1 h2).2⟩,x1.dis,λb o z=>z.1,x1.len,x1.pin⟩
 refine⟨λk m Y' H'=>m=ds.length-k/\k<=ds.length/\∃ U',Sx X.K CL Fy B U' Y' H'/\Bs X.K CL Fz B W (Dd (λx U'=>O.of U' (as x U') fbd) (ds.drop k) U') D,⟨ds.length,by simp,DP _,U,xy,q⟩,?_⟩
 rintro k m Y' H' ⟨rfl,hk,U',x',q'⟩;have kp:Kp (Bk B U Y) H1 H':=λb o e na=>x'.same b o ⟨e,λz=>na (.inr z)⟩
 obtain⟨yst,ygo⟩:=y H' kp k;by_cases hlt:k<ds.length
 .have hd:ds[k]?=Aa ds[k]:=A7 hlt;obtain⟨hgo,hyl⟩:=ygo _ hd;refine .inr ⟨hgo,λY'' H''=>∃ U'',Sx X.K CL Fy B U'' Y'' H''/\Bs X.K CL Fz B W (Dd (λx U'=>O.of U' (as x U') fbd) (ds.drop (k+1)) U'') D,λY'' H'' z=>⟨ds.length-(k+1),by omega,rfl,hlt,z⟩,λv H2 hv=>?_⟩
  obtain⟨e2,rv⟩:=hyl v H2 hv;rw[DF hlt]at q';have q2:Bs X.K CL Fz B W ((O.of U' (as ds[k] U') fbd).turn (Dd (λx U'=>O.of U' (as x U') fbd) (ds.drop (k+1)))) D:=q'
  have rv':Rep X.K CL H2 (Bk B U' Y') v ds[k]:=rv _ (λa ha=>by
    rcases ha with ha|⟨j,d,h1,h2⟩
    .exact .inl (.inl ha)
    .cases e:H1 a with
     |none=>exact .inr rfl
     |some o=>
      by_cases ho:∃(j:Af)(d:Ov.D),U[j]?=Aa (Aa (d,Ab))/\Y[j]?=Aa (Aa (.ref a))
      .exact .inl (.inr ho)
      .exact absurd ⟨e,ho⟩ ((x'.new j d a h1 h2).1 o)) x'.aok
  cases ea:as ds[k] U' with
  |bad=>rw[ea]at q2;exact q2.elim
  |exn z=>exact absurd ea (hax _ _ z)
  |ok U2=>
   rw[ea,O.of_ok]at q2;exact hGT Fy B U' Y' H2 v ds[k] U2 _ (x'.grow e2) rv' ea λY3 x3=>⟨Fy,U2,x3,Bs.turn hfy (λ_ _ _ z=>z) q2 λU3 Y3 H3 x3 q3=>⟨U3,x3,q3⟩⟩
 .have hk':ds.length<=k:=by omega
  rw[Ej hk']at q';exact .inl ⟨yst hk',q' Y' H' (x'.mono hfy λ_ _ _ z=>z)⟩
theorem ZY(n:Af)(hp:DQ (model X.prog X.w) X.A X.env X.xe)(hc:SB X CL W c fc)(hb:SSs X CL W body fbd):SS X CL W (.While c body [] pos) (λU=>Jv fc fbd n U):=λFz B pI s Y H D I ⟨U,x,p⟩=>by
 refine bH hp (tc:=λY H Q=>∃ A,AOk H A/\∃ U,Good X.K CL A U Y H/\CD W H (fc U) Q) (λpI s Y H Q I ⟨A,q⟩=>hc A pI s Y H Q I q) (hb Fz B) pI s Y H D I ⟨λm Y' H'=>∃ U',Sx X.K CL Fz B U' Y' H'/\Bs X.K CL Fz B W (Jv fc fbd m U') D,⟨n,U,x,p⟩,?_⟩
 rintro m Y' H' ⟨U',x',q⟩;cases m with
 |zero=>exact q.elim
 |succ m=>
  refine⟨Bk B U' Y',x'.aok,U',x'.good,Bs.exB x' (f:=λb=>if b=Ab then (fbd U').turn (Jv fc fbd m) else .next U') (D':=D) (by rw[Jv]at q;exact q) λb H1 _ s1 x1 q1=>?_⟩
  cases b with
  |false=>exact q1 Y' H1 x1
  |true=>
   refine⟨λY'' H''=>∃ U'',Sx X.K CL Fz B U'' Y'' H''/\Bs X.K CL Fz B W (Jv fc fbd m U'') D,λY'' H'' z=>⟨m,by omega,z⟩,U',x1,Bs.turn (λ_ _ z=>z) (λ_ _ _ z=>z) q1 λU3 Y3 H3 x3 q3=>⟨U3,x3,q3⟩⟩
end
section
variable{X:Cx}{CL:ClA}{W:XW}{a b c:An}{fa fb fc:Rho->R D}{pos:AC}
noncomputable def tyK:Ki->Ao CQ
 |.int=>Aa "int"
 |.bool=>Aa "bool"
 |.str=>Aa "str"
 |.list=>Aa "list"
 |.tuple=>Aa "tuple"
 |_=>Ae
noncomputable def O7:D->Am
 |.obj _ _=>Ad
 |.exc _ _=>Ad
 |.dic _=>Ad
 |_=>Ab
theorem nP{k:Ki}{Q:Vq}{E:Vq}(I:Inv X pI Y H s)(r:Cm X.K CL H A v d)(q:Bp v u)(hT:tyK k=Aa T)(hd:O7 d=Ab)(h:∀ s',Inv X pI Y H s'->Q (.bool (kiD up k d)) s'):
  Av (model X.prog X.w) X.A (call (.builtin "isinstance") [u,.type T]) Q E s:=by
 have r':=r.plain;have it:=λt=>h _ (I.tok t)
 cases d with
 |obj=>cases hd
 |exc=>cases hd
 |dic=>cases hd
 |non=>
  cases r';cases q;cases k<;>simp only[tyK]at hT<;>cases hT
  .exact IsiPair.NoneType_int (it _)
  .exact IsiPair.NoneType_bool (it _)
  .exact IsiPair.NoneType_str (it _)
  .exact IsiPair.NoneType_list (it _)
  .exact IsiPair.NoneType_tuple (it _)
 |bl b=>
  cases r';cases q;cases k<;>simp only[tyK]at hT<;>cases hT
  .exact IsiPair.bool_int (h _ I)
  .exact IsiPair.bool_bool (h _ I)
  .exact IsiPair.bool_str (it _)
  .exact IsiPair.bool_list (it _)
  .exact IsiPair.bool_tuple (it _)
 |int i=>
  cases r';obtain⟨t,rfl⟩:=q;cases k<;>simp only[tyK]at hT<;>cases hT
  .exact IsiPair.int_int (h _ I)
  .exact IsiPair.int_bool (it _)
  .exact IsiPair.int_str (it _)
  .exact IsiPair.int_list (it _)
  .exact IsiPair.int_tuple (it _)
 |str x=>
  cases r';obtain⟨t,rfl⟩:=q;cases k<;>simp only[tyK]at hT<;>cases hT
  .exact IsiPair.str_int (it _)
  .exact IsiPair.str_bool (it _)
  .exact IsiPair.str_str (h _ I)
  .exact IsiPair.str_list (it _)
  .exact IsiPair.str_tuple (it _)
 |tup ds=>
  obtain⟨p,xs,rfl,_,sq,rr⟩:=r';obtain⟨its,rv,pt,_⟩:=I.tuple sq;cases q;have pt':s.heap.IsTuple p its.toArray:=pt;cases k<;>simp only[tyK]at hT<;>cases hT
  .exact IsiPair.isTuple_int pt' (λ_ _ e=>e) (it _)
  .exact IsiPair.isTuple_bool pt' (λ_ _ e=>e) (it _)
  .exact IsiPair.isTuple_str pt' (λ_ _ e=>e) (it _)
  .exact IsiPair.isTuple_list pt' (λ_ _ e=>e) (it _)
  .exact IsiPair.isTuple_tuple pt' (λ_ _ e=>e) (h _ I)
 |lst ds=>
  obtain⟨p,xs,rfl,_,sq,rr⟩:=r';obtain⟨its,rv,pl,_⟩:=I.list sq;cases q;have pt':s.heap.IsList p its.toArray:=Jn pl;cases k<;>simp only[tyK]at hT<;>cases hT
  .exact IsiPair.isList_int pt' (λ_ _ e=>e) (it _)
  .exact IsiPair.isList_bool pt' (λ_ _ e=>e) (it _)
  .exact IsiPair.isList_str pt' (λ_ _ e=>e) (it _)
  .exact IsiPair.isList_list pt' (λ_ _ e=>e) (h _ I)
  .exact IsiPair.isList_tuple pt' (λ_ _ e=>e) (it _)
theorem Zx{k:Ki}(hT:tyK k=Aa T)(p:AR Rp W H (Er up [k] d) Q):O7 d=Ab/\AR Rp W H (.ok (.bl (kiD up k d))) Q:=by
 cases k<;>simp only[tyK]at hT<;>cases hT<;>cases d<;>first|exact p.elim|exact⟨rfl,by simpa using p⟩
theorem lO{k:Ki}(hT:tyK k=Aa T)(hg:Gl X "isinstance")(hm:X.mg "isinstance" = Ae)(hg2:Gl X x)(hm2:X.mg x=Ae)(hv:CP x=Aa (.type T))(hn:x≠"__name__")(hdb:(x==("__debug__" : Ag))=Ad)(ha:ST X CL W a fa)(he:As [a,.Name x p2] X.env=(Ad,eval a X.env)::As [.Name x p2] X.env):SE X CL W (.Call (.Name "isinstance" p) [a,.Name x p2] [] pos) (λU=>(fa U).bind λx=>Er up [k] x):=λA=>
 PE.weak (Kd (r:=λxs H Q=>∃ y d,xs=[y,.ty T]/\Cm X.K CL H A y d/\O7 d=Ab/\Q (.bl (kiD up k d)) H) (λpI s Y H xs us Q I r ⟨y,d,e,ry,hd,q⟩=>by
   subst e;obtain⟨u,w',rfl,r1,r2⟩:=JR r;cases r2;exact nP I ry r1 hT hd λs' I'=>⟨.bl _,H,I',rfl,q⟩)
  hg hm Fb (DN (ha A) (DN (SG (v:=.ty T) hg2 hm2 hv rfl hn hdb) Fj rfl) he) (by decide) (by decide) he rfl) λY H Q ⟨hA,U,g,q⟩=>⟨hA,U,g,AR.bind q λd v H1 _ s1 r1 p1=>by
   obtain⟨hd,p2⟩:=Zx hT p1;exact⟨v,d,rfl,r1,hd,p2 _ H1 (Az.refl H1) rfl⟩⟩
theorem OJ{b:Am}{A':AT}{E:Vq}{Q:Am->Ap->Prop}(r:Rep X.K CL H A v d)(q:Bp v u)(h:Ep d=.ok b)(hq:Q b s):Av (model prog w) A' (truthy u) Q E s:=by
 cases d with
 |non=>
  cases r;cases q;cases h;exact truthy_none hq
 |bl k=>
  cases r;cases q;cases h;exact Cr hq
 |int i=>
  cases r;obtain⟨t,rfl⟩:=q;cases h;exact truthy_int hq
 |_=>cases h
theorem Qx:∀{ds:Ac D}{b:Am},Hk ds=.ok b->(∀ j,j<ds.length->∃ c,Ep (ds.getD j .non)=.ok c)/\b=(A5 ds.length).all λj=>match Ep (ds.getD j .non) with
  |.ok c=>c
  |_=>Ad
 |[],b,h=>by cases h;exact⟨λj hj=>absurd hj (Wb _),rfl⟩
 |d::ds,b,h=>by
  rw[QM]at h;cases e:Ep d with
  |bad=>rw[e]at h;cases h
  |exn x=>rw[e]at h;cases h
  |ok c=>
   rw[e,R.bind_ok]at h;cases e2:Hk ds with
   |bad=>rw[e2]at h;cases h
   |exn x=>rw[e2]at h;cases h
   |ok c2=>
    rw[e2,R.bind_ok]at h;cases h;obtain⟨h1,h2⟩:=Qx e2;refine⟨λj hj=>?_,?_⟩
    .cases j with
     |zero=>exact⟨c,e⟩
     |succ j=>exact h1 j (by simpa using hj)
    .rw[A2,Qr,h2];show (c&&_)=((match Ep d with | .ok c=>c|_=>Ad)&&_)
     rw[e];rfl
theorem Qw:∀{ds:Ac D}{b:Am},Gg ds=.ok b->(∀ j,j<ds.length->∃ c,Ep (ds.getD j .non)=.ok c)/\b=(A5 ds.length).any λj=>match Ep (ds.getD j .non) with
  |.ok c=>c
  |_=>Ad
 |[],b,h=>by cases h;exact⟨λj hj=>absurd hj (Wb _),rfl⟩
 |d::ds,b,h=>by
  rw[QL]at h;cases e:Ep d with
  |bad=>rw[e]at h;cases h
  |exn x=>rw[e]at h;cases h
  |ok c=>
   rw[e,R.bind_ok]at h;cases e2:Gg ds with
   |bad=>rw[e2]at h;cases h
   |exn x=>rw[e2]at h;cases h
   |ok c2=>
    rw[e2,R.bind_ok]at h;cases h;obtain⟨h1,h2⟩:=Qw e2;refine⟨λj hj=>?_,?_⟩
    .cases j with
     |zero=>exact⟨c,e⟩
     |succ j=>exact h1 j (by simpa using hj)
    .rw[A2,V5,GN,F4,h2];show (c||_)=((match Ep d with | .ok c=>c|_=>Ad)||_)
     rw[e];rfl
theorem OK{ds:Ac D}(r:Reps X.K CL H A0 xs ds)(rv:AX xs its){v:Aj}(h:its.toArray[j]?=Aa v):j<ds.length/\∃ x,Rep X.K CL H A0 x (ds.getD j .non)/\Bp x v:=by
 have h':its[j]?=Aa v:=by simpa using h
 obtain⟨hj,e⟩:=A1.mp h';obtain⟨x,rx,q⟩:=Ix r rv hj;have l1:=rv.length;have l2:=r.length
 exact⟨by omega,x,rx,by rw[<-e];exact q⟩
theorem Pk{o:CZ}(k:∀ b q,b∉[h.objs.size]->(h.push o).get? b=Aa q->h'.get? b=Aa q):∀ b q,h.get? b=Aa q->h'.get? b=Aa q:=λb q e=>k b q (by
 intro z;have:=A9.mp z;rw[this]at e;exact absurd (AJ e) (Br _)) (Au _ e)
theorem oJ(hc:X.calm=Ab):Jp X CL W (.builtin "all") (biD .all):=by
  intro A pI s Y H xs us Q I r ⟨hA,ds,rs,p⟩
  match ds,rs,p with
  |[.lst es],rs,p=>
    obtain⟨v,rfl,rv⟩:=rs.one;obtain⟨q,ys,e,_,sq,ry⟩:=rv.plain;subst e;obtain⟨u,rfl,ru⟩:=Ho r;cases ru;rw[tI]at p;cases e1:Hk es with
    |bad=>rw[e1]at p;exact p.elim
    |exn x=>
      exfalso
      have:∀(es:Ac D) x,Hk es≠.exn x:=by
        intro es
        induction es with
        |nil=>intro x h;cases h
        |cons d ds ih=>
          intro x h;rw[QM]at h;cases e:Ep d with
          |bad=>rw[e]at h;cases h
          |exn y=>cases d<;>cases e
          |ok c=>
            rw[e,R.bind_ok]at h;cases e2:Hk ds with
            |bad=>rw[e2]at h;cases h
            |exn y=>exact ih y e2
            |ok c2=>rw[e2]at h;cases h
      exact this es x e1
    |ok b=>
      rw[e1,R.bind_ok]at p;obtain⟨h1,h2⟩:=Qx e1;obtain⟨its,rvv,pl,_⟩:=I.list sq;have hlt:q<s.heap.objs.size:=by obtain⟨o,n,e,_⟩:=pl;exact AJ e
      have hl:its.toArray.size=es.length:=by rw[AM,<-rvv.length,ry.length]
      refine call_all_walk (FB (Jn pl) ⟨s.heap.objs.size,_,_,_,_,_,(λj=>match Ep (es.getD j .non) with | .ok c=>c|_=>Ad),rfl,XV (A:=X.A.in1) (I.ok.hd hc) s.heap.objs.size q (Bh hlt) its.toArray,⟨⟨_,AY _ rfl,rfl,rfl⟩,(Jn pl).push _⟩,λj v s' Q' E' hv hQ=>?_,λh' tk k=>?_⟩)
      · obtain⟨hj,x,rx,qx⟩:=OK ry rvv hv;obtain⟨c,ec⟩:=h1 j hj;exact OJ rx qx ec (by dsimp only at hQ;rw[ec]at hQ;exact hQ)
      · rw[hl,<-h2];exact⟨.bl b,H,I.kept (Pk k),rfl,p _ H (Az.refl H) rfl⟩
  |[],_,p=>exact p.elim
  |[.non],_,p=>exact p.elim
  |[.bl _],_,p=>exact p.elim
  |[.int _],_,p=>exact p.elim
  |[.str _],_,p=>exact p.elim
  |[.tup _],_,p=>exact p.elim
  |[.obj _ _],_,p=>exact p.elim
  |[.exc _ _],_,p=>exact p.elim
  |[.dic _],_,p=>exact p.elim
  |x::_::_,_,p=>cases x<;>exact p.elim
theorem S2(hc:X.calm=Ab){es:Ac D}(I:Inv X pI Y H s)(sq:SqL X.K H q ys\/SqT X.K H q ys)(ry:Reps X.K CL H A0 ys es)(p:AR (λH=>Rep X.K CL H A) W H ((Gg es).bind λb=>.ok (.bl b)) Q):Av (model X.prog X.w) X.A (call (.builtin "any") [.ref q]) (EP X pI Y Q) X.xe s:=by
 cases e1:Gg es with
 |bad=>rw[e1]at p;exact p.elim
 |exn x=>
  exfalso
  clear p
  have:∀(es:Ac D) x,Gg es≠.exn x:=by
   intro es
   induction es with
   |nil=>intro x h;cases h
   |cons d ds ih=>
    intro x h;rw[QL]at h;cases e:Ep d with
    |bad=>rw[e]at h;cases h
    |exn y=>cases d<;>cases e
    |ok c=>
     rw[e,R.bind_ok]at h;cases e2:Gg ds with
     |bad=>rw[e2]at h;cases h
     |exn y=>exact ih y e2
     |ok c2=>rw[e2]at h;cases h
  exact this es x e1
 |ok b=>
  rw[e1,R.bind_ok]at p;obtain⟨h1,h2⟩:=Qw e1;rcases sq with sq|sq
  .obtain⟨its,rvv,pl,_⟩:=I.list sq;have hlt:q<s.heap.objs.size:=by obtain⟨o,n,e,_⟩:=pl;exact AJ e
   have hl:its.toArray.size=es.length:=by rw[AM,<-rvv.length,ry.length]
   refine call_any_walk (FB (Jn pl) ⟨s.heap.objs.size,_,_,_,_,_,(λj=>match Ep (es.getD j .non) with | .ok c=>c|_=>Ad),rfl,XV (A:=X.A.in1) (I.ok.hd hc) s.heap.objs.size q (Bh hlt) its.toArray,⟨⟨_,AY _ rfl,rfl,rfl⟩,(Jn pl).push _⟩,λj v s' Q' E' hv hQ=>?_,λh' tk k=>?_⟩)
   .obtain⟨hj,x,rx,qx⟩:=OK ry rvv hv;obtain⟨c,ec⟩:=h1 j hj;exact OJ rx qx ec (by dsimp only at hQ;rw[ec]at hQ;exact hQ)
   .rw[hl,<-h2];exact⟨.bl b,H,I.kept (Pk k),rfl,p _ H (Az.refl H) rfl⟩
  .obtain⟨its,rvv,pl,_⟩:=I.tuple sq;have pl':s.heap.IsTuple q its.toArray:=pl;have hlt:q<s.heap.objs.size:=by obtain⟨o,e,_⟩:=pl';exact AJ e
   have hl:its.toArray.size=es.length:=by rw[AM,<-rvv.length,ry.length]
   refine call_any_walk (GK pl' ⟨s.heap.objs.size,_,_,_,_,_,(λj=>match Ep (es.getD j .non) with | .ok c=>c|_=>Ad),rfl,Walks.tuple (A:=X.A.in1) (I.ok.hd hc) s.heap.objs.size q (Bh hlt) its.toArray,⟨⟨_,AY _ rfl,rfl,rfl⟩,pl'.push _⟩,λj v s' Q' E' hv hQ=>?_,λh' tk k=>?_⟩)
   .obtain⟨hj,x,rx,qx⟩:=OK ry rvv hv;obtain⟨c,ec⟩:=h1 j hj;exact OJ rx qx ec (by dsimp only at hQ;rw[ec]at hQ;exact hQ)
   .rw[hl,<-h2];exact⟨.bl b,H,I.kept (Pk k),rfl,p _ H (Az.refl H) rfl⟩
theorem oH(hc:X.calm=Ab):Jp X CL W (.builtin "any") (biD .any):=by
  intro A pI s Y H xs us Q I r ⟨hA,ds,rs,p⟩
  match ds,rs,p with
  |[.lst es],rs,p=>
    obtain⟨v,rfl,rv⟩:=rs.one;obtain⟨q,ys,e,_,sq,ry⟩:=rv.plain;subst e;obtain⟨u,rfl,ru⟩:=Ho r;cases ru;exact S2 hc I (.inl sq) ry p
  |[.tup es],rs,p=>
    obtain⟨v,rfl,rv⟩:=rs.one;obtain⟨q,ys,e,_,sq,ry⟩:=rv.plain;subst e;obtain⟨u,rfl,ru⟩:=Ho r;cases ru;exact S2 hc I (.inr sq) ry p
  |[],_,p=>exact p.elim
  |[.non],_,p=>exact p.elim
  |[.bl _],_,p=>exact p.elim
  |[.int _],_,p=>exact p.elim
  |[.str _],_,p=>exact p.elim
  |[.obj _ _],_,p=>exact p.elim
  |[.exc _ _],_,p=>exact p.elim
  |[.dic _],_,p=>exact p.elim
  |x::_::_,_,p=>cases x<;>exact p.elim
end
section
variable(K:Fg)(CL:ClA)
def tJ(H0:Hp)(A:Ak->Prop)(H:Hp)(v:V)(d:D):Prop:=∀ ds,d=.lst ds->∃ a xs,v=.ref a/\H0 a=Ae/\H a=Aa (.lst xs)/\Reps K CL H (λb=>A b\/b=a) xs ds
def Du(fr:Am)(H0:Hp)(A:Ak->Prop)(H:Hp)(v:V)(d:D):Prop:=Rep K CL H A v d/\(fr=Ab->tJ K CL H0 A H v d)
end
section
variable{X:Cx}{CL:ClA}{W:XW}{a b c:An}{fa fb fc:Rho->R D}{pos:AC}
def SC(X:Cx)(CL:ClA)(W:XW)(fr:Am)(e:An)(f:Rho->R D):Prop:=∀ A,PE X e (λY H Q=>AOk H A/\∃ U,Good X.K CL A U Y H/\AR (Du X.K CL fr H A) W H (f U) Q)
theorem SC.se{fr:Am}(h:SC X CL W fr a fa):SE X CL W a fa:=λA=>PE.weak (h A) λY H Q ⟨hA,U,g,p⟩=>⟨hA,U,g,by
 cases e:fa U with
 |ok d=>rw[e]at p;exact λv H' s r=>p v H' s r.1
 |exn x=>rw[e]at p;exact p
 | bad=>rw[e]at p;exact p⟩
theorem SE.sc(h:SE X CL W a fa):SC X CL W Ad a fa:=λA=>PE.weak (h A) λY H Q ⟨hA,U,g,p⟩=>⟨hA,U,g,by
 cases e:fa U with
 |ok d=>rw[e]at p;exact λv H' s r=>p v H' s ⟨r,λz=>nomatch z⟩
 |exn x=>rw[e]at p;exact p
 | bad=>rw[e]at p;exact p⟩
theorem SC.congr{fr:Am}{f g:Rho->R D}(h:SC X CL W fr a f)(e:∀ U,g U=f U):SC X CL W fr a g:=λA=>PE.weak (h A) λY H Q ⟨hA,U,q,p⟩=>⟨hA,U,q,by rw[<-e];exact p⟩
theorem Ji{p:Ak}{ds:Ac D}(s:Az H0 H)(hA:AOk H A)(hp:H p=Ae)(r:Reps K CL H A xs ds):Du K CL Ab H0 A (upd H p (.lst xs)) (.ref p) (.lst ds):=
 ⟨Sh hA hp r,λ_ ds' e=>by
  cases e;exact⟨p,xs,rfl,s.free hp,DD,(Reps.wide (λa ha=>ha.imp id λe=>by rw[e];exact hp) _ r).same (EL hp _)⟩⟩
theorem OB{fr:Am}(r:Rep K CL H A v d)(h:∀ ds,d≠.lst ds):Du K CL fr H0 A H v d:=⟨r,λ_ ds e=>absurd e (h ds)⟩
theorem OQ(hs:SA X CL W es fs)(hz:∀ U ds,fs U=.ok ds->ds.length<=100000):SC X CL W Ab (.List es pos) (λU=>(fs U).bind λxs=>.ok (.lst xs)):=
 λA=>PE.weak (lD (hs A)) λY H Q ⟨hA,U,g,p⟩=>⟨hA,U,g,Hl.bind p λds vs H1 e s1 r1 p1=>⟨by
  rw[r1.length,Cc];have:=hz U ds e;omega,λq hq=>p1 _ _ (EL hq _) (Ji s1 (hA.same s1) hq r1)⟩⟩
theorem AR.bindF{fr:Am}{f:D->R D}{Q':VK}(h:AR (Du K CL fr H A) W H (r.bind f) Q)(k:∀ d v H',r=.ok d->Az H H'->Rp H' v d->AR (Du K CL fr H A) W H' (f d) Q->Q' v H'):AR Rp W H r Q':=by
 cases r with
 |ok d=>exact λv H2 s2 q=>k d v H2 rfl s2 q (AR.same s2 h)
 |exn x=>exact h
 |bad=>exact h
theorem Hl.bindF{Rp:Hp->Ac V->Ac D->Prop}{r:R (Ac D)}{f:Ac D->R D}{Q':Ac V->Hp->Prop}(h:AR Rq W H (r.bind f) Q)(k:∀ d v H',r=.ok d->Az H H'->Rp H' v d->AR Rq W H' (f d) Q->Q' v H'):Hl Rp W H r Q':=by
 cases r with
 |ok d=>exact λv H2 s2 q=>k d v H2 rfl s2 q (AR.same s2 h)
 |exn x=>exact h
 |bad=>exact h
theorem JV.bindF{r:R (Ao Ah)}{f:Ao Ah->R D}(h:AR Rq W H (r.bind f) Q)(k:∀ o H',r=.ok o->Az H H'->AR Rq W H' (f o) Q->Q' o H'):JV W H r Q':=by
 cases r with
 |ok d=>exact λH2 s2=>k d H2 rfl s2 (AR.same s2 h)
 |exn x=>exact h
 |bad=>exact h
def U_7:V->Ao Ah->Ao Ah->Hp->VK->Prop:=λx l h H Q=>∃ z,x=.str z/\(DE z l h).length<=sizeLine/\Q (.str (DE z l h)) H
theorem R9{v:Aj}{o:Ao Ah}(h:GI v o):∃ p:Ao (Ah×Ct),v=partValue p/\p.map (·.1)=o:=by
 cases h with
 |none=>exact⟨Ae,rfl,rfl⟩
 |int i t=>exact⟨Aa (i,t),rfl,rfl⟩
theorem jY:SlR X U_7:=by
 intro pI s Y H x v vl vu lo hi sl Q I rx hs pl pu h;obtain⟨z,rfl,hz,q⟩:=h;obtain⟨t,rfl⟩:=rx;obtain⟨l,rfl,el⟩:=R9 pl;obtain⟨u,rfl,eu⟩:=R9 pu;refine⟨"str",_,PySem.F.slot_str_getitem.lookup,Fp _ _ _,?_⟩;refine wpAny_getItem_str_slice (l:=l) (u:=u) (st:=Ae) hs rfl ?_;subst el eu;unfold sliceMade slicePicked;unfold DE at hz q;by_cases c:((EG (l.map (·.1)) (u.map (·.1)) 1 z.length).length==z.length)=Ab
 .rw[At c]at q;rw[At (by rw[Al];exact⟨rfl,c⟩)]
  exact⟨.str z,H,I,⟨t,rfl⟩,q⟩
 .rw[AA c]at q hz;rw[AA (by rw[Al];exact λh=>c h.2)]
  exact⟨hz,.str _,H,I.tok _,⟨_,rfl⟩,q⟩
theorem qX{lo hi:Ao An}{fl fh:Rho->R (Ao Ah)}(ha:ST X CL W a fa)(hl:SO X CL W lo fl)(hh:SO X CL W hi fh):SC X CL W Ab (.Subscript a (.Slice lo hi Ae p2) pos) (λU=>(fa U).bind λx=>(fl U).bind λl=>(fh U).bind λh=>slD x l h):=
 λA=>PE.weak (bL (r:=λx l h H Q=>U_8 X.K x l h H Q\/(U_6 X.K x l h H Q\/U_7 x l h H Q)) (SlR.or dL (SlR.or jX jY)) (ha A) (hl A) (hh A)) λY H Q ⟨hA,U,g,p⟩=>⟨hA,U,g,AR.bindF p λdx x H1 _ s1 r1 p1=>⟨hA.same s1,U,g.same s1,JV.bindF p1 λl H2 _ s2 p2=>⟨(hA.same s1).same s2,U,(g.same s1).same s2,JV.bindF p2 λh H3 _ s3 p3=>by
  cases dx with
  |lst ds=>
   obtain⟨q,xs,rfl,sq,r⟩:=((r1.same s2).same s3).lst_of;exact .inl ⟨q,xs,rfl,sq,λt ht=>p3 _ _ (EL ht _) (Ji ((s1.trans s2).trans s3) (((hA.same s1).same s2).same s3) ht (SR l h r))⟩
  |tup ds=>
   obtain⟨q,xs,rfl,_,sq,r⟩:=((r1.same s2).same s3).tup_of;rw[tN]at p3;split at p3
   .exact p3.elim
   .rename_i hw;refine .inr (.inl ⟨q,xs,rfl,sq,?_,λt ht=>p3 _ _ (EL ht _) (OB (Km (((hA.same s1).same s2).same s3) ht (SR l h r)) (by intro _ z;cases z))⟩)
    rintro⟨h1,h2⟩;refine hw ?_;have e:∀ d o,HT.sIx xs.length d o=IF ds.length d o:=λd o=>by rw[r.length];cases o<;>rfl
    rw[e]at h1 h2;rw[r.length]at h2;simp[h1,h2]
  |str z=>
   have e:=((r1.same s2).same s3).str_of;subst e;have p4:AR (Du X.K CL Ab H A) W H3 (if (B8 z.length&&B8 (DE z l h).length)=Ab then .ok (.str (DE z l h)) else .bad) Q:=p3
   split at p4
   .rename_i hk;rw[Al]at hk;exact .inr (.inr ⟨z,rfl,QD hk.2,p4 _ H3 (Az.refl H3) (OB rfl (by intro _ z;cases z))⟩)
   .exact p4.elim
  | _=>exact p3.elim⟩⟩⟩
noncomputable def OpN(X:Cx)(CL:ClA)(W:XW)(f:Aj->Aj->Fx Aj)(g:D->D->R D):Prop:=
 ∀ A H0,OpR X f (λx y H Q=>Az H0 H/\AOk H A/\∃ dx dy,Cm X.K CL H A x dx/\Cm X.K CL H A y dy/\AR (Du X.K CL Ab H0 A) W H (g dx dy) Q)
theorem gJ:OpN X CL W (BY .Add) (Cz .Add):=by
 intro A H0 pI s Y H x y v u Q I rx ry ⟨s0,hA,dx,dy,hx,hy,p⟩;have key:(∀ ds,dx≠.lst ds)->EP X pI Y Q=EP X pI Y Q->Av (model X.prog X.w) X.A (BY .Add v u) (EP X pI Y Q) X.xe s:=λhd _=>by
  refine Sb (W:=W) A pI s Y H x y v u Q I rx ry ⟨hA,dx,dy,hx,hy,?_⟩;cases e:Cz .Add dx dy with
  |bad=>rw[e]at p;exact p
  |exn x=>rw[e]at p;exact p
  |ok d=>
   rw[e]at p;refine λv' H' s' r'=>p v' H' s' (OB r' λds z=>?_)
   subst z;cases dx with
   |lst ds=>exact hd _ rfl
   |tup xs=>
    cases dy with
    |tup ys=>rw[TU]at e;split at e<;>cases e
    |_=>cases e
   |str xs=>
    cases dy with
    |str ys=>rw[E3]at e;split at e<;>cases e
    |_=>cases e
   |int i=>cases dy<;>cases e
   |_=>cases e
 cases dx with
 |lst ds=>
  cases dy with
  |lst es=>
   obtain⟨a,xs,rfl,s1,r1⟩:=hx.lst_of;obtain⟨b,ys,rfl,s2,r2⟩:=hy.lst_of;simp only[Gf]at p;split at p
   .rename_i h;refine Sc pI s Y H _ _ v u Q I rx ry ⟨a,b,xs,ys,rfl,rfl,s1,s2,by rw[r1.length,r2.length];exact JD h,λq hq=>?_⟩
    exact p _ _ (EL hq _) (Ji s0 hA hq (r1.append r2))
   .exact p.elim
  |_=>exact p.elim
 |_=>exact key (by intro _ z;cases z) rfl
theorem jW(ha:ST X CL W a fa)(hb:ST X CL W b fb):SC X CL W Ab (.BinOp a .Add b pos) (λU=>(fa U).bind λx=>(fb U).bind λy=>Cz .Add x y):=
 λA pI s Y H Q I h=>by
  obtain⟨hA,U,g,p⟩:=h;exact Ud (gJ (W:=W) A H) (ha A) (hb A) pI s Y H Q I ⟨hA,U,g,AR.bindF p λdx x H1 _ s1 r1 p1=>⟨hA.same s1,U,g.same s1,AR.bind (Rq:=Du X.K CL Ab H A) p1 λdy y H2 _ s2 r2 p2=>⟨s1.trans s2,(hA.same s1).same s2,dx,dy,r1.same s2,r2,p2⟩⟩⟩
def UM(X:Cx)(CL:ClA)(W:XW)(f:Aj)(g:Ac D->R D):Prop:=∀ A H0,Hm X f (λxs H Q=>Az H0 H/\AOk H A/\∃ ds,FX X.K CL H A xs ds/\AR (Du X.K CL Ab H0 A) W H (g ds) Q)
theorem iU:UM X CL W (.type "list") (biD .list):=by
  intro A H0 pI s Y H xs us Q I r ⟨s0,hA,ds,rs,p⟩
  match ds,rs,p with
  |[.lst es],rs,p=>
    obtain⟨v,rfl,rv⟩:=rs.one;obtain⟨q,ys,rfl,sq,ry⟩:=rv.lst_of;exact Qy pI s Y H _ us Q I r ⟨q,ys,rfl,.inl sq,λl hl=>p _ _ (EL hl _) (Ji s0 hA hl ry)⟩
  |[.tup es],rs,p=>
    obtain⟨v,rfl,rv⟩:=rs.one;obtain⟨q,ys,rfl,_,sq,ry⟩:=rv.tup_of;exact Qy pI s Y H _ us Q I r ⟨q,ys,rfl,.inr sq,λl hl=>p _ _ (EL hl _) (Ji s0 hA hl ry)⟩
  |[],_,p=>exact p.elim
  |[.non],_,p=>exact p.elim
  |[.bl _],_,p=>exact p.elim
  |[.int _],_,p=>exact p.elim
  |[.str _],_,p=>exact p.elim
  |[.obj _ _],_,p=>exact p.elim
  |[.exc _ _],_,p=>exact p.elim
  |[.dic _],_,p=>exact p.elim
  |x::_::_,_,p=>cases x<;>exact p.elim
theorem jV{g:Ac D->R D}(hc:UM X CL W (.type T) g)(hg:Gl X x)(hm:X.mg x=Ae)(hv:CP x=Aa (.type T))(ha:SAT X CL W (e::es) fs)(hn:x≠"__name__")(hdb:(x==("__debug__" : Ag))=Ad)(he:As (e::es) X.env=(Ad,eval e X.env)::As es X.env)(hpl:∀ pos,(Bv pos (As es X.env)).any (·.1)=Ad):SC X CL W Ab (.Call (.Name x p) (e::es) [] pos) (λU=>(fs U).bind g):=λA pI s Y H Q I ⟨hA,U,gd,q⟩=>
 Q5 (hc A H) hg hm hv (ha A) hn hdb he (hpl _) pI s Y H Q I ⟨hA,U,gd,Hl.bindF q λds vs H1 _ s1 r1 p1=>⟨s1,hA.same s1,ds,r1,p1⟩⟩
mutual
theorem Pu{K:Fg}{H:Hp}{A:Ak->Prop}(hA:AOk H A):∀(n:Af)(d:D){v:V},nlD n d=Ab->Rep K CL H A0 v d->Rep K CL H A v d
 |_,.non,_,_,h=>h
 |_,.bl _,_,_,h=>h
 |_,.int _,_,_,h=>h
 |_,.str _,_,_,h=>h
 |0,.tup _,_,hn,_=>by cases hn
 |n+1,.tup ds,_,hn,h=>by
  obtain⟨a,xs,e,_,s,r⟩:=h;refine⟨a,xs,e,?_,s,nls_up hA n ds hn r⟩;rcases s with s|s
  .refine .inl λz=>?_
   obtain⟨ys,q⟩:=hA a z;rcases s with s|⟨o,s⟩<;>rw[q]at s<;>cases s
  .exact .inr s
 |n,.lst _,_,hn,_=>by cases n<;>cases hn
 |n,.obj _ _,_,hn,_=>by cases n<;>cases hn
 |n,.exc _ _,_,hn,_=>by cases n<;>cases hn
 |n,.dic _,_,hn,_=>by cases n<;>cases hn
theorem nls_up{K:Fg}{H:Hp}{A:Ak->Prop}(hA:AOk H A):∀(n:Af)(ds:Ac D){vs:Ac V},ds.all (nlD n)=Ab->Reps K CL H A0 vs ds->Reps K CL H A vs ds
 |_,[],[],_,h=>h
 |n,d::ds,_::_,hn,h=>by
  simp only[Dg,Al]at hn;exact⟨Pu hA n d hn.1 h.1,nls_up hA n ds hn.2 h.2⟩
 |_,[],_::_,_,h=>h.elim
 |_,_::_,[],_,h=>h.elim
end
theorem S7{fr:Am}(hA0:AOk H0 A)(s:Az H0 H)(hc:FK fr d=Ab)(r:Du K CL fr H0 A0 H v d):Du K CL fr H0 A H v d:=by
 have hA:=hA0.same s;cases d with
 |lst ds=>
  have hc':(fr&&ds.all (nlD 5))=Ab:=hc;rw[Al]at hc';obtain⟨a,xs,e,h0,h1,rs⟩:=r.2 hc'.1 ds rfl;have hA2:AOk H (λb=>A b\/b=a):=λb hb=>hb.elim (hA b) λe=>by rw[e];exact⟨xs,h1⟩
  have rs':=nls_up hA2 5 ds hc'.2 (Reps.sub (λ_ z=>z.elim) _ rs)
  refine⟨⟨a,xs,e,.inl (hA0.new h0),SqL.of h1,Reps.sub (λ_ z=>.inl z) _ rs'⟩,λ_ ds' e'=>?_⟩
  cases e';exact⟨a,xs,e,h0,h1,rs'⟩
 |_=>exact⟨Pu hA 5 _ hc r.1,λ_ _ z=>nomatch z⟩
def spD(K:Fg)(CL:ClA)(n:Af)(fr:Am)(F:Ac D->R D):Sp:=λvs H Q E=>∃(ds:Ac D)(A:Ak->Prop),vs.length=n/\AOk H A/\Reps K CL H A vs ds/\(match F ds with
  |.ok d=>∀ v H',Az H H'->Du K CL fr H A H' v d->Q v H'
  |.exn x=>∀ cls dx H',Az H H'->E6 K CL H' cls dx x->E cls dx H'
  | .bad=>AW)
def EKW(K:Fg)(CL:ClA)(A:Ak->Prop)(W:XW):XK:=λcls dx H'=>∃ x,E6 K CL H' cls dx x/\W x H'
theorem FX.plain{K:Fg}{H:Hp}{A:Ak->Prop}:∀{vs:Ac V}{ds:Ac D},FX K CL H A vs ds->Reps K CL H A0 vs ds
 |[],[],h=>trivial
 |_::_,_::_,h=>⟨h.1.plain,FX.plain h.2⟩
 |[],_::_,h=>h.elim
 |_::_,[],h=>h.elim
theorem dU{CX:CXT}{fr:Am}{f:Ak}{fd:Bx}{ps:Ac Ag}{F:Ac D->R D}{ft:Rho->R (Ac D)}{sh:Rho->Am}(G:FnOk X.prog X.w X.K X.mg X.base CX k f fd ps (spD X.K CL n fr F))(hr:Room k X.A)(hg:Gl X x)(hm:X.mg x=Aa (.ref f))(hk:Bc X.K (.ref f)=Ab)(hb:ED X.K fd ps [])(hx:∀ A,Iy CX X (EKW X.K CL A W))(ha:SA X CL W (e::es) fs)(hat:SAT X CL W (e::es) ft)(hst:∀ U,sh U=Ab->ft U=fs U)(hn:∀ U ds,ft U=.ok ds->ds.length=n)(hdb:(x==("__debug__" : Ag))=Ad)(he:As (e::es) X.env=(Ad,eval e X.env)::As es X.env)(hpl:∀ pos,(Bv pos (As es X.env)).any (·.1)=Ad):SC X CL W fr (.Call (.Name x p) (e::es) [] pos) (λU=>(ft U).bind λds=>(F ds).bind λd=>if sh U=Ab then .ok d else if FK fr d=Ab then .ok d else .bad):=λA pI s Y H Q I ⟨hA,U,gd,q⟩=>by
 dsimp only at q;by_cases hs:sh U=Ab
 .rw[hst U hs]at q;refine SD G hr hg hm hk hb .nil (hx A) (ha A) hdb he (hpl _) pI s Y H Q I ⟨hA,U,gd,?_⟩;cases e1:fs U with
  |bad=>rw[e1]at q;exact q
  |exn y=>rw[e1]at q;exact q
  |ok ds=>
   rw[e1]at q;intro vs H1 s1 r1;refine⟨ds,A,by rw[Cw,r1.length];exact hn U ds (by rw[hst U hs];exact e1),hA.same s1,by rw[Cw];exact r1,?_⟩
   have q':AR (Du X.K CL fr H A) W H ((F ds).bind λd=>if sh U=Ab then .ok d else if FK fr d=Ab then .ok d else .bad) Q:=q
   cases e2:F ds with
   |ok d=>
    rw[e2,R.bind_ok,At hs]at q';exact λv H2 s2 r2=>q' v H2 (s1.trans s2) ⟨r2.1,λz ds' e'=>let ⟨a,xs,z1,z2,z3⟩:=r2.2 z ds' e';⟨a,xs,z1,s1.free z2,z3⟩⟩
   |exn y=>rw[e2]at q';exact λcls dx H2 s2 xr=>⟨y,xr,q' H2 (s1.trans s2)⟩
   |bad=>rw[e2]at q';exact q'.elim
 .refine SD G hr hg hm hk hb .nil (hx A0) (hat A) hdb he (hpl _) pI s Y H Q I ⟨hA,U,gd,?_⟩;cases e1:ft U with
  |bad=>rw[e1]at q;exact q
  |exn y=>rw[e1]at q;exact q
  |ok ds=>
   rw[e1]at q;intro vs H1 s1 r1;refine⟨ds,A0,by rw[Cw,r1.plain.length];exact hn U ds e1,λ_ z=>z.elim,by rw[Cw];exact r1.plain,?_⟩
   have q':AR (Du X.K CL fr H A) W H ((F ds).bind λd=>if sh U=Ab then .ok d else if FK fr d=Ab then .ok d else .bad) Q:=q
   cases e2:F ds with
   |ok d=>
    rw[e2,R.bind_ok,AA hs]at q';split at q'
    .rename_i hc;exact λv H2 s2 r2=>q' v H2 (s1.trans s2) (S7 hA (s1.trans s2) hc ⟨r2.1,λz ds' e'=>let ⟨a,xs,z1,z2,z3⟩:=r2.2 z ds' e';⟨a,xs,z1,s1.free z2,z3⟩⟩)
    .exact q'.elim
   |exn y=>rw[e2]at q';exact λcls dx H2 s2 xr=>⟨y,xr,q' H2 (s1.trans s2)⟩
   |bad=>rw[e2]at q';exact q'.elim
end
theorem NN(env:Cb):∀(ns:Ac (Ag×D1))(acc:Ac (Ag×Ak)),(∀ x∈ns,x.2=.free->∃ c,env.cells.lookup x.1=Aa c)->(∀ x c,acc.lookup x=Aa c->env.cells.lookup x=Aa c) ->
  ∃ cl,(forIn ns acc fun(x:Ag×D1)(cs:Ac (Ag×Ak))=>(if (x.2==.free)=Ab then do let c <-cellOf env x.1;pure (Ec ((x.1,c)::cs)) else pure (Ec cs):Fx (ForInStep (Ac (Ag×Ak)))))=pure cl /\
   (∀ x c,cl.lookup x=Aa c->env.cells.lookup x=Aa c)/\(∀ x,((x,DB)∈ns\/∃ c,acc.lookup x=Aa c)->∃ c,cl.lookup x=Aa c)
 |[],acc,_,h2=>⟨acc,by rw[VV],h2,λx hx=>hx.elim (λz=>nomatch z) id⟩
 |(n,k)::r,acc,h1,h2=>by
  rw[List.forIn_cons];by_cases hk:k=.free
  .subst hk;obtain⟨c,hc⟩:=h1 (n,.free) AE rfl;obtain⟨cl,e,p,q⟩:=NN env r ((n,c)::acc) (λx hx=>h1 x (Aw _ hx)) (λx d hd=>by
    rw[B9]at hd;split at hd
    .rename_i hx;cases hd;rw[eq_of_beq hx];exact hc
    .exact h2 x d hd)
   refine⟨cl,?_,p,λx hx=>q x ?_⟩
   .have e1:cellOf env n=pure c:=by unfold cellOf;dsimp only at hc;rw[hc]
    rw[At (by rfl),e1]
    exact e
   .rcases hx with hx|⟨d,hd⟩
    .rcases AH.mp hx with z|z
     .cases z;exact .inr ⟨c,by simp[B9]⟩
     .exact .inl z
    .by_cases hxn:x=n
     .exact .inr ⟨c,by subst hxn;simp[B9]⟩
     .exact .inr ⟨d,by rw[B9];rw[CN.mpr hxn];exact hd⟩
  .obtain⟨cl,e,p,q⟩:=NN env r acc (λx hx=>h1 x (Aw _ hx)) h2
   refine⟨cl,?_,p,λx hx=>q x ?_⟩
   .rw[AA (by simpa using hk)]
    exact e
   .rcases hx with hx|hx
    .rcases AH.mp hx with z|z
     .cases z;exact absurd rfl hk
     .exact .inl z
    .exact .inr hx
theorem NM(h:∀ x∈scope.names,x.2=.free->∃ c,env.cells.lookup x.1=Aa c):∃ cl,closureFor scope env=pure cl/\(∀ x c,cl.lookup x=Aa c->env.cells.lookup x=Aa c)/\∀ x,(x,DB)∈scope.names->∃ c,cl.lookup x=Aa c:=by
 obtain⟨cl,e,p,q⟩:=NN env scope.names [] h (λx c z=>by simp at z)
 refine⟨cl,?_,p,λx hx=>q x (.inl hx)⟩
 unfold closureFor
 first
  |exact e
  |(simp only[bind_pure];exact e)
  |(rw[show (forIn scope.names ([]:Ac (Ag×Ak)) _:Fx _)=pure cl from e];rfl)
theorem N6:∀(names:Ac (Ag×D1))(h:AF)(acc:Ac (Ag×Ak))(x:Ag)(c:Ak),(CJ h.objs.size names acc).lookup x=Aa c->acc.lookup x=Aa c\/((x,BE)∈names/\h.objs.size<=c/\(GJ h names).IsCell c Ae)
 |[],_,_,_,_,e=>.inl e
 |(n,k)::r,h,acc,x,c,e=>by
  unfold CJ at e;unfold GJ;by_cases hk:(k==BE)=Ab
  .rw[At hk]at e ⊢;have hs:h.objs.size+1=(h.push { cls:=.type "cell",data:=.cell Ae }).objs.size:=(Dm ..).symm;rw[hs]at e;rcases N6 r _ _ x c e with q|⟨q1,q2,q3⟩
   .rw[B9]at q;cases hx:x==n with
    |true=>
     rw[hx]at q;cases q;refine .inr ⟨?_,AK _,?_⟩
     .rw[eq_of_beq hx,eq_of_beq hk];exact AE
     .exact⟨_,HE r _ _ _ (AY _ rfl),rfl⟩
    |false=>rw[hx]at q;exact .inl q
   .exact .inr ⟨Aw _ q1,by omega,q3⟩
  .rw[AA hk]at e ⊢;rcases N6 r h acc x c e with q|⟨q1,q2,q3⟩
   .exact .inl q
   .exact .inr ⟨Aw _ q1,q2,q3⟩
theorem N7:∀(names:Ac (Ag×D1))(h:AF)(acc:Ac (Ag×Ak)),(∀ x y c,acc.lookup x=Aa c->acc.lookup y=Aa c->x=y)->(∀ x c,acc.lookup x=Aa c->c<h.objs.size)->∀ x y c,(CJ h.objs.size names acc).lookup x=Aa c->(CJ h.objs.size names acc).lookup y=Aa c->x=y
 |[],_,_,i,_,x,y,c,e1,e2=>i x y c e1 e2
 |(n,k)::r,h,acc,i,b,x,y,c,e1,e2=>by
  unfold CJ at e1 e2;by_cases hk:(k==BE)=Ab
  .rw[At hk]at e1 e2;have hs:h.objs.size+1=(h.push { cls:=.type "cell",data:=.cell Ae }).objs.size:=(Dm ..).symm;rw[hs]at e1 e2;have look:∀ z d,BU z ((n,h.objs.size)::acc)=Aa d->(z=n/\d=h.objs.size)\/(z≠n/\acc.lookup z=Aa d):=λz d q=>by
    rw[B9]at q;cases hx:z==n with
    |true=>rw[hx]at q;cases q;exact .inl ⟨eq_of_beq hx,rfl⟩
    |false=>rw[hx]at q;exact .inr ⟨λe=>by rw[e]at hx;simp at hx,q⟩
   refine N7 r _ _ (λz z' d q q'=>?_) (λz d q=>?_) x y c e1 e2
   .rcases look z d q with ⟨rfl,q1⟩|⟨_,q1⟩<;>rcases look z' d q' with ⟨rfl,q2⟩|⟨_,q2⟩
    .rfl
    .exact absurd (b _ _ q2) (by rw[q1];exact Br _)
    .exact absurd (b _ _ q1) (by rw[q2];exact Br _)
    .exact i _ _ _ q1 q2
   .rw[<-hs];rcases look z d q with ⟨_,q1⟩|⟨_,q1⟩
    .rw[q1];exact FR _
    .exact GY (b _ _ q1)
  .rw[AA hk]at e1 e2;exact N7 r h acc i b x y c e1 e2
theorem NO:∀(names:Ac (Ag×D1))(n:Af)(acc:Ac (Ag×Ak))(x:Ag),(x,BE)∉names->(CJ n names acc).lookup x=acc.lookup x
 |[],_,_,_,_=>rfl
 |(m,k)::r,n,acc,x,hx=>by
  unfold CJ;have hr:(x,BE)∉r:=λz=>hx (Aw _ z)
  by_cases hk:(k==BE)=Ab
  .rw[At hk,NO r _ _ x hr,B9];cases q:x==m with
   |true=>exact absurd (by rw[eq_of_beq q,eq_of_beq hk];exact AE) hx
   |false=>rfl
  .rw[AA hk];exact NO r n acc x hr
theorem N8(n0:Af):∀(names:Ac (Ag×D1))(n:Af)(acc:Ac (Ag×Ak))(x:Ag),n0<=n->((x,BE)∈names\/∃ c,acc.lookup x=Aa c/\n0<=c)->∃ c,(CJ n names acc).lookup x=Aa c/\n0<=c
 |[],_,_,_,_,h=>h.elim (λz=>nomatch z) id
 |(m,k)::r,n,acc,x,hn,h=>by
  unfold CJ;by_cases hk:(k==BE)=Ab
  .rw[At hk];refine N8 n0 r _ _ x (by omega) ?_
   by_cases hx:(x==m)=Ab
   .exact .inr ⟨n,by rw[B9,hx],hn⟩
   .rcases h with h|⟨c,h,hc⟩
    .rcases AH.mp h with z|z
     .cases z;simp at hx
     .exact .inl z
    .exact .inr ⟨c,by rw[B9];simp only[hx];exact h,hc⟩
  .rw[AA hk];refine N8 n0 r _ _ x hn (h.imp (λh=>?_) id)
   rcases AH.mp h with z|z
   .cases z;simp at hk
   .exact z
theorem YD{M:F9}{A:AT}{E:Vq}{globals:Ak}{qual:Ag}{Q:Cb->Ap->Prop}(hQ:Q (newEnv scope s.heap.objs.size globals (CJ (s.heap.objs.size+1) scope.names cl) qual Ae .none (Aa env) Ii) { s with heap:=GJ (s.heap.push { cls:=.type "dict",data:=.dict #[] }) scope.names }):Av M A (Ia scope globals cl [] qual Ae .none (Aa env)) Q E s:=by
 simp only[Ia,Option.isSome_some,EF];refine Aq (wpAny_alloc ?_);refine Aq (wpAny_layCells _ (λname kind cells=>by cases hkc:kind==BE<;>simp[hkc]) _ _ _ _ ?_)
 rw[show ({ s with heap:=s.heap.push { cls:=.type "dict",data:=.dict #[] } }:Ap).heap.objs.size=s.heap.objs.size+1 from Dm ..]
 rw[VV];exact Aq (AS (AS hQ))
noncomputable def cxC(X:Cx)(scope:BG)(cl:Ac (Ag×Ak))(C:Ak)(N':Ac Ag)(s₀:Ap)(H₀:Hp)(fp:Ac Ak):Cx where
 prog:=X.prog
 w:=X.w
 K:=X.K
 mg:=X.mg
 base:=X.base
 A:=X.A
 N:=N'
 s₀:=s₀
 H₀:=H₀
 env:=Gu scope cl C X.env
 outer:=X.stack
 stack:=X.stack
 ex:=fp
 fn:=λx=>scope.names.lookup x==Aa BE
 calm:=X.calm
 pn:=[]
 xe:=λ_ _=>AW
theorem L5{env:Cb}:∀{names:Ac (Ag×D1)}{x:Ag}{k:D1},(names.map λ(n,k)=>if (k==DB&&env.scope.kind==.function&&env.kindOf n==Aa .cell) then (n,BE) else (n,k)).lookup x=Aa k->names.lookup x=Aa k\/(k=.cell/\names.lookup x=Aa .free)
 |[],_,_,h=>by simp at h
 |(n,j)::r,x,k,h=>by
  have ih:=@L5 env r x k;have h':BU x ((if (j==DB&&env.scope.kind==.function&&env.kindOf n==Aa .cell)=Ab then (n,BE) else (n,j))::(r.map λ(n,k)=>if (k==DB&&env.scope.kind==.function&&env.kindOf n==Aa .cell) then (n,BE) else (n,k)))=Aa k:=h
  by_cases hc:(j==DB&&env.scope.kind==.function&&env.kindOf n==Aa .cell)=Ab
  .rw[At hc]at h';rw[B9]at h' ⊢;cases hx:x==n with
   |true=>
    rw[hx]at h';cases h';simp only[Al]at hc;exact .inr ⟨rfl,by rw[eq_of_beq hc.1.1]⟩
   |false=>rw[hx]at h';exact ih h'
  .rw[AA hc]at h';rw[B9]at h' ⊢;cases hx:x==n with
   |true=>rw[hx]at h';exact .inl h'
   |false=>rw[hx]at h';exact ih h'
structure BlockOk (X:Cx) (scope:BG) (N':Ac Ag) (ts:Ac Af):Prop where
 kind:scope.kind=.function
 uniq:∀ y∈scope.names,scope.names.lookup y.1=Aa y.2
 names:∀ y∈scope.names,y.2=.local->scope.names.lookup y.1=Aa .local
 free:∀ y∈scope.names,y.2=.free->X.env.scope.names.lookup y.1=Aa .cell\/X.env.scope.names.lookup y.1=Aa .free
 len:N'.length=X.N.length
 same:∀ i x,N'[i]?=Aa x->scope.names.lookup x=Aa .free->i∉ts->X.N[i]?=Aa x
 loc:∀ i x,N'[i]?=Aa x->(scope.names.lookup x=Aa .local\/scope.names.lookup x=Aa .cell)->i∈ts
structure BCells (X:Cx) (scope:BG) (cl:Ac (Ag×Ak)) (C:Ak) (h:AF):Prop where
 own:∀ x c,cl.lookup x=Aa c->X.env.cells.lookup x=Aa c\/(scope.names.lookup x=Aa .cell/\C<c/\h.IsCell c Ae)
 inj:∀ x y c,cl.lookup x=Aa c->cl.lookup y=Aa c->x=y
 has:∀ x,scope.names.lookup x=Aa .cell->∃ c,cl.lookup x=Aa c/\C<c
 fr:∀ x,(x,DB)∈scope.names->∃ c,cl.lookup x=Aa c/\X.env.cells.lookup x=Aa c
section
variable{X:Cx}{pI:Pn}{Y:L2.St}{H:Hp}{s:Ap}
noncomputable def hideT(ts:Ac Af)(Y:L2.St):L2.St:=ts.foldl (λY t=>Y.set t Ae) Y
theorem N2:∀(ts:Ac Af)(Y:L2.St),(hideT ts Y).length=Y.length
 |[],_=>rfl
 |t::ts,Y=>by show (hideT ts (Y.set t Ae)).length=_;rw[N2 ts,AU]
theorem Re:∀(ts:Ac Af)(Y:L2.St){i:Af}{v:V},(hideT ts Y)[i]?=Aa (Aa v)->Y[i]?=Aa (Aa v)/\i∉ts
 |[],_,_,_,h=>⟨h,by simp⟩
 |t::ts,Y,i,v,h=>by
  obtain⟨h1,h2⟩:=Re ts (Y.set t Ae) (i:=i) (v:=v) h;by_cases e:t=i
  .subst e;have:=Ge h1;cases this
  .rw[BL e]at h1;exact⟨h1,by simp only[AH,GL];exact⟨λz=>e z.symm,h2⟩⟩
theorem YW{tk:Af}{C:Ak}{m:Ag->Ao Aj}(I:Inv X pI Y H s)(B:BlockOk X scope N' ts)(hf:∀ b∈fp,Gz X pI H b)(hfo:∀ b∈fp,b<s.heap.objs.size)(hb:BCells X scope cl C h')(hk:∀ b o,s.heap.get? b=Aa o->h'.get? b=Aa o)(hC:s.heap.objs.size<=C)(hn:h'.Ns C m):Inv (cxC X scope cl C N' s H fp) [] (hideT ts Y) H {s with heap:=h',toks:=tk}:=by
 have stf:∀ b∈fp,b∉frs X.stack:=λb hb z=>by
  rcases AH.mp (I.stkSub b z) with e|e
  .exact(hf b hb).2.1 e
  .exact(hf b hb).2.2.1 e
 have frOf:∀ x,((relabel scope X.env).names.lookup x=Aa .cell\/(relabel scope X.env).names.lookup x=Aa .free)->scope.names.lookup x=Aa .free\/scope.names.lookup x=Aa .cell:=λx hx=>by
  rcases hx with z|z
  .rcases L5 z with z|⟨_,z⟩
   .exact .inr z
   .exact .inl z
  .rcases L5 z with z|⟨z,_⟩
   .exact .inl z
   .cases z
 have gtC:∀ c:Ak,C<c->s.heap.objs.size<=c:=λc z=>Bt hC (F8 z)
 have cellK:∀ c v,s.heap.IsCell c v->h'.IsCell c v:=λc v ⟨o,ho,hd⟩=>⟨o,hk _ _ ho,hd⟩
 refine⟨⟨I.ok.mod,B.kind,I.ok.glob,I.ok.blt,hC,hb.inj,λx hx=>?_,λx c h e=>?_,I.ok.hd,I.ok.frames,.inl rfl,λb hbb=>⟨?_,λx c e=>?_⟩,I.bs,Bt I.ok.bsz I.sz,λb o e hbb=>?_,stf,I.stack,I.stkFree⟩,rfl,I.bare,Un.kept hk,⟨m,hn,λi x v h1 h2 h3=>?_⟩,λx c e=>?_,I.hok.fresh hC,λx c e=>(hb.own x c e).elim (I.freeC x c) (λz=>I.hok.fresh (gtC c z.2.1)),λp hp=>absurd (show p∈([]:Pn) from hp) (by simp),I.hok.kept hk,?_⟩
 .rcases frOf x hx with z|z
  .obtain⟨c,q,_⟩:=hb.fr x (Cu z);exact⟨c,q⟩
  .obtain⟨c,q,_⟩:=hb.has x z;exact⟨c,q⟩
 .obtain⟨c',q,z⟩:=hb.has x (eq_of_beq h);have e':cl.lookup x=Aa c:=e;rw[q]at e';cases e';exact gtC _ z
 .intro z;have z':b=C:=z;have:=hfo b hbb;rw[z']at this;exact absurd (AO this hC) (Br _)
 .rcases hb.own x c e with z|z
  .exact(hf b hbb).2.2.2.2.1 x c z
  .intro q;have:=hfo b hbb;have:=gtC c z.2.1;rw[q]at this;exact absurd ‹b<_› (Wa.mpr this)
 .rcases (hf b hbb).2.2.2.1 with z|z
  .exact I.ok.noex b o e z
  .exact absurd (AO (AJ e) (Bt I.ok.bsz z)) (Br _)
 .obtain⟨h2,hts⟩:=Re ts Y h2;have h3':(relabel scope X.env).names.lookup x=Aa .local\/(relabel scope X.env).names.lookup x=Aa .cell\/(relabel scope X.env).names.lookup x=Aa .free:=h3;have h1':N'[i]?=Aa x:=h1;rcases h3' with z|z
  .rcases L5 z with z|⟨z,_⟩
   .exact absurd (B.loc i x h1' (.inl z)) hts
   .cases z
  .have fr:=(frOf x z).resolve_right λq=>hts (B.loc i x h1' (.inr q))
   have hm:=Cu fr;have hX:=B.same i x h1' fr hts;obtain⟨m0,hn0,hl0⟩:=I.loc;obtain⟨u,ru,lk⟩:=hl0 i x v hX h2 (by
    rcases B.free _ hm rfl with q|q
    .exact .inr (.inl q)
    .exact .inr (.inr q))
   refine⟨u,ru,?_⟩;obtain⟨c,hc,hcX⟩:=hb.fr x hm;rcases lk with ⟨q,_⟩|⟨_,c',hc',hcell⟩
   .have q':X.env.scope.names.lookup x=Aa .local:=q;rcases B.free _ hm rfl with p|p
    .rw[show X.env.scope.names.lookup x=_ from p]at q';cases q'
    .rw[show X.env.scope.names.lookup x=_ from p]at q';cases q'
   .have e:=hcX;rw[hc']at e;cases e;exact .inr ⟨z,c,hc,cellK _ _ hcell⟩
 .rcases hb.own x c e with z|z
  .obtain⟨v,q⟩:=I.cell x c z;exact⟨v,cellK _ _ q⟩
  .exact⟨_,z.2.2⟩
 .show (hideT ts Y).length=N'.length;rw[N2,I.len,B.len]
theorem N9{C D:Ak}{s':Ap}{Y':L2.St}{pins':Pn}{h'':AF}{ys:Ac Aj}(I:Inv X pI Y H s)(hf:∀ b∈fp,Gz X pI H b)(I':Inv (cxC X scope cl C N' s H fp) pins' Y' H' s')(hD:s.heap.objs.size<=D)(hDC:D≠C)(hC:s.heap.objs.size<=C)(hd:s'.heap.get? D=Aa { cls:=.type "list",data:=.seq ys.toArray n })(hDn:H' D=Ae)(rv:AX xs ys)(hz:xs.length<=sizeLine)(hs:Ey C s'.heap h''):Inv X pI Y (upd H' D (.lst xs)) {s' with heap:=h''}:=by
  have u:Un (frs X.stack) fp H H' s.heap s'.heap:=I'.base;have lt:∀ b o,s.heap.get? b=Aa o->b≠C/\b≠D:=λb o e=>⟨λz=>absurd (AO (AJ e) (z ▸ hC)) (Br _),λz=>absurd (AO (AJ e) (z ▸ hD)) (Br _)⟩
  have HD:H D=Ae:=I.hok.fresh hD;have hCn:H' C=Ae:=I'.free;have kb:∀ b o,b≠C->s'.heap.get? b=Aa o->h''.get? b=Aa o:=λb o hb e=>(hs.2 b hb).trans e
  have u2:Un (frs X.stack) fp H (upd H' D (.lst xs)) s.heap h'':=⟨λb o e q hb hx=>kb b o (lt b o e).1 (u.keep b o e q hb hx),λb o e q hb hx=>by
      obtain⟨sl,e1⟩:=u.slot b o e q hb hx;exact⟨sl,kb b _ (lt b o e).1 e1⟩,λb o e q hx=>by rw[Be (lt b o e).2];exact u.free b o e q hx,λb o e hx=>by
      obtain⟨o',e1⟩:=u.there b o e hx;exact⟨o',kb b _ (lt b o e).1 e1⟩,λb zs q=>by rw[Be (FE q HD)];exact u.tups b zs q,λb o zs q=>by rw[Be (FE q HD)];exact u.frzs b o zs q,λb ps q=>by rw[Be (FE q HD)];exact u.tbls b ps q⟩
  have hok:HOk X.prog X.w (upd H' D (.lst xs)) h'':=λb o e=>by
    by_cases hb:b=D
    · subst hb;rw[DD]at e;cases e;exact⟨hz,ys,n,rv,kb _ _ hDC hd⟩
    · rw[Be hb]at e;refine(I'.hok b o e).stay (λc v hc q=>kb c v ?_ q) (λc q=>by rw[Be (FE q hDn)];exact q) λc zs q=>by rw[Be (FE q hDn)];exact q
      rcases hc with rfl|hc
      · exact FE e hCn
      · exact FE hc hCn
  exact I.call' (s':={s' with heap:=h''}) (ch:=fp) I'.os u2 hok I'.bare λb hb=>⟨(hf b hb).2.2.2.1,(hf b hb).2.1,(hf b hb).2.2.2.2.1,(hf b hb).2.2.2.2.2⟩
end
def PTs(X:Cx)(ifs:Ac An)(tt:TT):Prop:=∀(pI:Pn)(s:Ap)(Y:L2.St)(H:Hp)(Q:Am->Hp->Prop),Inv X pI Y H s->tt Y H Q ->
 Av (model X.prog X.w) X.A (forIn ifs Ab λc r=>if r=Ab then do let ok <-H9 c X.env (eval c X.env);pure (Ec ok) else pure (Ec r)) (TP X pI Y Q) X.xe s
theorem fV:PTs X [] (λY H Q=>Q Ab H):=λpI s Y H Q I h=>wpAny_tests_nil ⟨H,I,h⟩
theorem fU{t:TT}(h:PT X c t):PTs X [c] t:=λpI s Y H Q I q=>wpAny_tests_one (h pI s Y H Q I q)
theorem Y_0{D:Ak}{ys:Ac Aj}{y:Aj}{E:Vq}{Q:Vq}(I:Inv X ((D,{ cls:=.type "list",data:=.seq ys.toArray n })::pI) Y H s)(hD:X.s₀.heap.objs.size<=D)(hp:∀ p∈X.pn++pI,p.1≠D)(hc:∀ x c,X.env.cells.lookup x=Aa c->c≠D)(hz:ys.length<=sizeLine)(h:∀ s',Inv X ((D,{ cls:=.type "list",data:=.seq (ys++[y]).toArray (n+1) })::pI) Y H s'->(∀ b o,b≠D->s.heap.get? b=Aa o->s'.heap.get? b=Aa o)->Q .none s'):Av (model X.prog X.w) X.A (call (.builtin "list.append") [.ref D,y]) Q E s:=by
 obtain⟨e,hn,hL,hfs,_⟩:=I.pin (D,{ cls:=.type "list",data:=.seq ys.toArray n }) (Bb _ AE);refine append_at (hsz:=by rw[AM];exact hz) e λh' hs hd=>?_
 have hd':h'.get? D=Aa { cls:=.type "list",data:=.seq (ys++[y]).toArray (n+1) }:=by rw[hd];simp
 have kb:∀ b o,b≠D->s.heap.get? b=Aa o->h'.get? b=Aa o:=λb o hb q=>(hs.2 b hb).trans q
 have I0:Inv X pI Y H s:=I.pins_of λp hp=>I.pin p (Bb _ (Aw _ hp))
 have I1:Inv X pI Y H {s with heap:=h'}:=I0.turned (t':=s.toks) kb hn hL (.inr hD) hc hp
 refine h _ (I1.pins_of λp hp=>?_) kb
 rcases AH.mp hp with rfl|hp
 .exact⟨hd',hn,hL,hfs,λv z=>by
   have z':KY _ _=KS v:=z;cases z'⟩
 .exact I1.pin p (Bb _ hp)
section
variable{prog:AL}{w:AV}{A:AT}{R:He->Ap->Prop}{s:Ap}
theorem YV{target:An}{it acc:Aj}(I:Af->Ap->Prop)(turn:∀ n s,I n s->Av (model prog w) A (pyNext it) (λr s₁=>match r with
      |none=>R (.ok .next) s₁
      | some v=>Av (model prog w) A (Gb target it v) (λ_ s₁'=>Av (model prog w) A (assign target env v) (λ_ s₂=>
          Av (model prog w) A (forIn ifs Ab λc r=>if r=Ab then do let ok <-H9 c env (eval c env);pure (Ec ok) else pure (Ec r)) (λok s₃=>
            if ok=Ab then Av (model prog w) A (eval elt env) (λx s₄=>
              Av (model prog w) A (call (.builtin "list.append") [acc,x]) (λ_ s₅=>∃ m,m<n/\I m s₅) (Gv (model prog w) A env λe s'=>R (.error e) s') s₄) (Gv (model prog w) A env λe s'=>R (.error e) s') s₃
            else ∃ m,m<n/\I m s₃) (Gv (model prog w) A env λe s'=>R (.error e) s') s₂) (Gv (model prog w) A env λe s'=>R (.error e) s') s₁') (Gv (model prog w) A env λe s'=>R (.error e) s') s₁) (Gv (model prog w) A env λe s'=>R (.error e) s') s)(n:Af)(h:I n s):Ez (model prog w) A (.compLoop (.ListComp elt [⟨target,iter,ifs,0⟩] scope pos) 0 it acc env) R s:=by
  refine codeAny_loop rfl I (λn s hI=>?_) n h
  show Av _ A ((compTurn (.ListComp elt [⟨target,iter,ifs,0⟩] scope pos) 0 it acc env).onRaise (λx=>do DR x env;theTreesLotGoes x)) _ _ s
  refine wpAny_noted ?_;rw[compTurn_list];refine Aq (Ea (Aq (A4 (turn n s hI) (λr s₁ h₁=>?_) λ_ _ h'=>h')))
  cases r with
  |none=>exact AS h₁
  |some v=>
    refine Aq (A4 h₁ (λ_ s₁' h₁'=>?_) λ_ _ h'=>h')
    refine Aq (A4 h₁' (λ_ s₂ h₂=>Aq (A4 h₂ (λok s₃ h₃=>?_) λ_ _ h'=>h')) λ_ _ h'=>h')
    cases ok with
    |false=>exact AS ⟨rfl,h₃⟩
    |true=>
      exact Aq (Aq (A4 h₃ (λx s₄ h₄=>Aq (A4 h₄ (λ_ s₅ h₅=>AS (AS ⟨rfl,h₅⟩)) λ_ _ h'=>h')) λ_ _ h'=>h'))
end
def Jk(J:It)(ts:Ac Af)(g:TG)(tt:TT)(te:TE)(Y:L2.St)(H:Hp)(Q:VK):Prop:=∃ W:Af->Af->Ac V->L2.St->Hp->Prop,(∃ m,W 0 m [] (hideT ts Y) H)/\∀ i m xs Y H,W i m xs Y H ->
 (J.stop i H/\∀ p,H p=Ae->Q (.ref p) (upd H p (.lst xs))) \/
 (J.go i H/\xs.length<sizeLine/\∀ x H',J.yld i H x H'->g x Y H' λY2 H2=>tt Y2 H2 λb H3=>if b=Ab then te Y2 H3 λy H4=>∃ m',m'<m/\W (i+1) m' (xs++[y]) Y2 H4 else ∃ m',m'<m/\W (i+1) m' xs Y2 H3)
theorem Og{g:TG}{it:Ak}{tn:Af->AF->Prop}{E:Vq}{RR:Aj->Ak->He->Ap->Prop}(hc:X.calm=Ab)(B:BlockOk X scope N' ts)(I:Inv X pI Y H s)(T:Turn X.prog X.w X.K tg J fp it tn)(st:tn 0 s.heap)(hf:∀ b∈fp,Gz X pI H b)(hcl:∀ x c,cl.lookup x=Aa c->X.env.cells.lookup x=Aa c)(hcl2:∀ x,(x,DB)∈scope.names->∃ c,cl.lookup x=Aa c)(hg:∀ cl C s H,PG (cxC X scope cl C N' s H fp) tg g)(ht:∀ cl C s H,PTs (cxC X scope cl C N' s H fp) ifs tt)(he:∀ cl' C D pl Y' H' s' (Q':VK),s.heap.objs.size<=C->Inv (cxC X scope cl' C N' s H fp) pl Y' H' s'->(∀ b∈fp,∃ o,(b,o)∈pl)->te Y' H' Q'->Av (model X.prog X.w) X.A (eval elt (Gu scope cl' C X.env)) (EP (cxC X scope cl' C N' s H fp) pl Y' Q') (Gv (model X.prog X.w) X.A (Gu scope cl' C X.env) λe s''=>RR (.ref D) C (.error e) s'') s')(h:Jk J ts g tt te Y H Q)(hRR:∀ cl D C s' H' Y' pins' xs ys n m,Inv (cxC X scope cl C N' s H fp) pins' Y' H' s'->s'.heap.get? D=Aa { cls:=.type "list",data:=.seq (Ew ys) n }->H' D=Ae->AX xs ys->xs.length<=sizeLine->s.heap.objs.size<=D->D≠C->s.heap.objs.size<=C->s'.heap.Ns C m->Q (.ref D) (upd H' D (.lst xs))->RR (.ref D) C (.ok .next) s'):Av (model X.prog X.w) X.A (newList []) (λacc s₃=>Av (model X.prog X.w) X.A (Ia scope X.env.globals cl [] X.env.qual Ae .none (Aa X.env)) (λcenv s₄=>Ez (model X.prog X.w) X.A (.compStart (.ListComp elt [⟨tg,iter,ifs,0⟩] scope pos) 0 (.ref it) acc {cenv with scope:=relabel scope X.env}) (RR acc cenv.locals) s₄) E s₃) E s:=by
 refine CG (YD ?_);dsimp only;generalize hH2:s.heap.push { cls:=.type "list",dict:=Ae,data:=.seq ([]:Ac Aj).toArray }=H2;have hns₁:(GJ (H2.push { cls:=.type "dict",data:=.dict #[] }) scope.names).Ns H2.objs.size (λ_=>Ae):=(Heap.Ns.new H2 (.type "dict")).keeps (HE _ _)
 have hkp₁:∀ b o,H2.get? b=Aa o->(GJ (H2.push { cls:=.type "dict",data:=.dict #[] }) scope.names).get? b=Aa o:=λb o e=>HE _ _ b o (Au _ e)
 have hown:=N6 scope.names (H2.push { cls:=.type "dict",data:=.dict #[] }) cl;have hinj:=N7 scope.names (H2.push { cls:=.type "dict",data:=.dict #[] }) cl;rw[Dm]at hown hinj;generalize hcl':CJ (H2.objs.size+1) scope.names cl=cl' at hown hinj;have hcf:∀ x,(x,BE)∉scope.names->cl'.lookup x=cl.lookup x:=λx hx=>by rw[<-hcl'];exact NO _ _ _ x hx
 have hch:∀ x,(x,BE)∈scope.names->∃ c,cl'.lookup x=Aa c/\H2.objs.size+1<=c:=λx hx=>by rw[<-hcl'];exact N8 _ _ _ _ x (AK _) (.inl hx)
 generalize hh₁:GJ (H2.push { cls:=.type "dict",data:=.dict #[] }) scope.names=h₁ at hns₁ hkp₁ hown;have hC:H2.objs.size=s.heap.objs.size+1:=by rw[<-hH2,Dm]
 have hCle:s.heap.objs.size<=H2.objs.size:=by rw[hC];exact Jz _
 have hDC:s.heap.objs.size≠H2.objs.size:=by rw[hC];exact Bh (FR _)
 have below:∀ b,b<s.heap.objs.size->b≠H2.objs.size:=λb hb=>by rw[hC];exact Bh (GY hb)
 have old:∀ b o,s.heap.get? b=Aa o->h₁.get? b=Aa o:=λb o e=>hkp₁ b o (hH2 ▸ Au _ e)
 have hacc:h₁.get? s.heap.objs.size=Aa { cls:=.type "list",data:=.seq ([]:Ac Aj).toArray 0 }:=hkp₁ _ _ (hH2 ▸ AY _ rfl);have clt:∀ x c,cl.lookup x=Aa c->c<s.heap.objs.size:=λx c e=>by
  obtain⟨v,q⟩:=I.cell x c (hcl x c e);exact q.lt
 have bc:BCells X scope cl' H2.objs.size h₁:=by
  refine⟨λx c e=>?_,hinj (λx y c e1 e2=>I.ok.inj x y c (hcl x c e1) (hcl y c e2)) (λx c e=>GY (AO (clt x c e) hCle)),λx hx=>?_,λx hx=>?_⟩
  .rcases hown x c e with q|⟨q1,q2,q3⟩
   .exact .inl (hcl x c q)
   .exact .inr ⟨B.uniq _ q1,q2,q3⟩
  .have hm:=Cu hx;obtain⟨c,e,hc⟩:=hch x hm;exact⟨c,e,hc⟩
  .have hno:(x,BE)∉scope.names:=λz=>by
    have e1:=B.uniq _ hx;have e2:=B.uniq _ z;rw[show scope.names.lookup x=_ from e1]at e2
    cases e2
   obtain⟨c,e⟩:=hcl2 x hx;exact⟨c,by rw[hcf x hno];exact e,hcl x c e⟩
 have hfo:∀ b∈fp,b<s.heap.objs.size:=λb hb=>by
  obtain⟨o,e,_⟩:=T.obj 0 _ st b hb;exact AJ e
 generalize hD:s.heap.objs.size=D at *;generalize hC':H2.objs.size=C at *;have I0:Inv (cxC X scope cl' C N' s H fp) [] (hideT ts Y) H {s with heap:=h₁,toks:=s.toks+([]:Ac (Ag×Aj)).length}:=YW (tk:=s.toks+([]:Ac (Ag×Aj)).length) I B hf (λb hb=>by rw[hD];exact hfo b hb) bc old (by rw[hD];exact hCle) hns₁
 have nD:H D=Ae:=I.hok.fresh (by rw[hD];exact AK _)
 have noD:∀ b∈fp,b≠D:=λb hb=>Bh (hfo b hb)
 have noC:∀ b∈fp,b≠C:=λb hb=>below b (hfo b hb)
 have stfs:D∉frs X.stack:=λz=>by
  obtain⟨_,o,ho,_⟩:=I.stack.mem z;exact absurd (AJ ho) (by rw[hD];exact Br _)
 have cD:∀ x c,cl'.lookup x=Aa c->c≠D:=λx c e z=>by
  rcases bc.own x c e with q|⟨_,q,_⟩
  .obtain⟨v,q⟩:=I.cell x c q;exact absurd q.lt (by rw[z,hD];exact Br _)
  .rw[z]at q;exact absurd (AO q hCle) (Br _)
 have I1:Inv (cxC X scope cl' C N' s H fp) [(D,{ cls:=.type "list",data:=.seq ([]:Ac Aj).toArray 0 })] (hideT ts Y) H {s with heap:=h₁,toks:=s.toks+([]:Ac (Ag×Aj)).length}:=I0.pins_of λp hp=>by
  have e:=A9.mp hp;subst e;exact⟨hacc,nD,hDC,stfs,λv z=>by
   have z':KY _ _=KS v:=z;cases z'⟩
 have st1:tn 0 h₁:=T.keep _ _ _ st λb _ o e=>old b o e
 obtain⟨W,⟨m0,w0⟩,turn⟩:=h;have fpk:∀{pl:Pn}{H':Hp},(∀ p∈pl,p.1=D)->(∀ b∈fp,H' b=Ae)->∀ b∈fp,Gz (cxC X scope cl' C N' s H fp) pl H' b:=λ{pl H'} hp hn b hb=>
  ⟨hn b hb,noC b hb,λz=>by
   rcases AH.mp (I.stkSub b z) with e|e
   .exact(hf b hb).2.1 e
   .exact(hf b hb).2.2.1 e,.inl hb,λx c e=>(bc.own x c e).elim ((hf b hb).2.2.2.2.1 x c) (λz q=>absurd (Ed hCle z.2.1) (Wa.mpr (by rw[q];exact F8 (hfo b hb)))),λp hp'=>by
   have hp2:p∈pl:=hp';rw[hp p hp2];exact(noD b hb).symm⟩
 have loop:∀ s₃:Ap,s₃={s with heap:=h₁,toks:=s.toks+([]:Ac (Ag×Aj)).length} ->
   Ez (model X.prog X.w) X.A (.compLoop (.ListComp elt [⟨tg,iter,ifs,0⟩] scope pos) 0 (.ref it) (.ref D) (Gu scope cl' C X.env)) (RR (.ref D) C) s₃:=by
  rintro s₃ rfl;refine YV (λk s'=>∃ i Y' H' xs ys n,Inv (cxC X scope cl' C N' s H fp) [(D,{ cls:=.type "list",data:=.seq (Ew ys) n })] Y' H' s'/\tn i s'.heap/\(∀ b∈fp,H' b=Ae)/\AX xs ys/\xs.length<=sizeLine/\W i k xs Y' H') ?_ m0
   ⟨0,_,H,[],[],0,I1,st1,λb hb=>(hf b hb).1,.nil,DP _,w0⟩
  rintro k s' ⟨i,Y',H',xs,ys,n,I',st',fr',rv,hz,w'⟩;have one:∀ p∈[((D,{ cls:=.type "list",data:=.seq (Ew ys) n }):Ak×CZ)],p.1=D:=λp hp=>by rw[A9.mp hp]
  rcases turn i k xs Y' H' w' with ⟨stop,q⟩|⟨go,hlt,step⟩
  .refine A4 (T.done (cxC X scope cl' C N' s H fp) rfl rfl rfl hc i _ s' Y' H' (λ_ _=>AW) I' (fpk one fr') st' stop) (λr s1 ⟨hr,J1⟩=>?_) λ_ _ f=>f.elim
   subst hr;obtain⟨e,hn,_⟩:=J1.pin _ (Bb _ AE);obtain⟨m,hm,_⟩:=J1.loc;exact hRR cl' D C s1 H' Y' _ xs ys n m J1 e hn rv hz (AK _) hDC hCle hm (q D hn)
  .refine A4 (T.item (cxC X scope cl' C N' s H fp) rfl rfl rfl hc i _ s' Y' H' (λ_ _=>AW) I' (fpk one fr') st' go) (λr s1 ⟨u,hr,h4⟩=>?_) λ_ _ f=>f.elim
   subst hr;refine A4 h4 (λ_ s5 ⟨x,H5,I5,r5,y5,st5,fr5⟩=>?_) λ_ _ f=>f.elim
   have I5':=I5.pinned (fpk one fr5) (T.obj _ _ st5);refine A4 (hg cl' C s H _ s5 Y' H5 x u _ I5' r5 (step x H5 y5)) (λ_ s6 ⟨Y6,H6,I6,q6⟩=>?_) λ_ _ f=>f.elim
   refine A4 (ht cl' C s H _ s6 Y6 H6 _ I6 q6) (λok s7 ⟨H7,I7,q7⟩=>?_) λ_ _ f=>f.elim
   have again:∀{s8:Ap}{H8:Hp}{ys':Ac Aj}{n':Af},Inv (cxC X scope cl' C N' s H fp) ((D,{ cls:=.type "list",data:=.seq (Ew ys') n' })::JP fp s5.heap) Y6 H8 s8->Inv (cxC X scope cl' C N' s H fp) [(D,{ cls:=.type "list",data:=.seq (Ew ys') n' })] Y6 H8 s8/\tn (i+1) s8.heap/\∀ b∈fp,H8 b=Ae:=λ{s8 H8 ys' n'} I8=>
    ⟨I8.pins_of λp hp=>I8.pin p (Bb _ (by rw[A9.mp hp];exact AE)),T.keep _ _ _ st5 λb hb o e=>(I8.pin (b,o) (Bb _ (Aw _ (Ld hb e)))).1,λb hb=>by
     obtain⟨o,e,d⟩:=T.obj _ _ st5 b hb;exact(I8.pin (b,o) (Bb _ (Aw _ (Ld hb e)))).2.1⟩
   cases ok with
   |false=>
    rw[AA (by decide)]at q7
    obtain⟨m',hm,w7⟩:=q7;obtain⟨a1,a2,a3⟩:=again I7;rw[AA (by decide)]
    exact⟨m',hm,i+1,Y6,H7,xs,ys,n,a1,a2,a3,rv,hz,w7⟩
   |true=>
    rw[At rfl]at q7;rw[At rfl];refine A4 (he cl' C D _ Y6 H7 s7 _ hCle I7 (λb hb=>let ⟨o,e,_⟩:=T.obj _ _ st5 b hb;⟨o,Aw _ (Ld hb e)⟩) q7) (λval s8 ⟨y,H8,I8,r8,m',hm,w8⟩=>?_) λ_ _ f=>f
    have hl:=rv.length;refine Y_0 (X:=cxC X scope cl' C N' s H fp) (ys:=ys) (n:=n) (pI:=JP fp s5.heap) I8 (by show s.heap.objs.size<=D;rw[hD];exact AK _) (λp hp=>?_) cD (by omega) λs9 I9 kb=>?_
    .have hp2:p∈JP fp s5.heap:=hp;exact noD _ (Q6 hp2).1
    .obtain⟨a1,a2,a3⟩:=again I9;exact⟨m',hm,i+1,Y6,H8,xs++[y],ys++[val],n+1,a1,a2,a3,rv.append (.cons r8 .nil),by rw[BN];exact hlt,w8⟩
 exact codeAny_compStart_list (loop _ rfl) (T.self _ 0 _ _ _ st1 (loop _ rfl))
theorem gG{g:TG}(hc:X.calm=Ab)(B:BlockOk X scope N' ts)(hi:PI X tg iter wi)(hg:∀ cl C s H fp,PG (cxC X scope cl C N' s H fp) tg g)(ht:∀ cl C s H fp,PTs (cxC X scope cl C N' s H fp) ifs tt)(he:∀ cl C s H fp,PE (cxC X scope cl C N' s H fp) elt te)(hs:∀ x,BW iter X.env x=pure x):PE X (.ListComp elt [⟨tg,iter,ifs,0⟩] scope pos) (λY H Q=>wi Y H λJ H1=>Jk J ts g tt te Y H1 Q):=by
 intro pI s Y H Q I h;obtain⟨cl,hclos,hcl,hcl2⟩:=NM (scope:=scope) (env:=X.env) λx hx hk=>I.ok.has x.1 ((B.free x hx hk).imp id id)
 rw[eval_ListComp];refine Fi (use:=Ae) rfl hs hclos B.kind B.names (thn (hi pI s Y H _ I h) λv s1 h1=>thn h1 λitv s2 h2=>?_)
 obtain⟨it,fp,tn,J,H2,e,I2,T,st2,f2,h3⟩:=h2;subst e;refine Og (RR:=λacc C=>JB (model X.prog X.w) X.A X.xe Ae (EP X pI Y Q) acc C) hc B I2 T st2 f2 hcl hcl2 (λcl C s H=>hg cl C s H fp) (λcl C s H=>ht cl C s H fp) (λcl C D pl Y' H' s' Q' _ I' _ q=>A4 (he cl C s2 H2 fp pl s' Y' H' Q' I' q) (λ_ _ z=>z) λ_ _ f=>f.elim) h3 λcl' D C s' H' Y' pins' xs ys n m I' hd hDn rv hz hD hDC hC hm q=>?_
 exact⟨m,hm,λh'' hs''=>⟨.ref D,_,N9 I2 f2 I' hD hDC hC hd hDn rv hz hs'',rfl,q⟩⟩
theorem fZ{n:Ag}{g:TG}(hc:X.calm=Ab)(B:BlockOk X scope N' ts)(hi:PI X tg iter wi)(hg:∀ cl C s H fp,PG (cxC X scope cl C N' s H fp) tg g)(ht:∀ cl C s H fp,PTs (cxC X scope cl C N' s H fp) ifs tt)(he:∀ cl C s H fp,PE (cxC X scope cl C N' s H fp) elt te)(hs:∀ x,BW iter X.env x=pure x)(hN:X.N.Nodup)(hni:X.N[i]?=Aa n)(hx:X.env.scope.names.lookup n=Aa .local)(hsw:CK (.ListComp elt [⟨tg,iter,ifs,0⟩] scope pos) (Aa (.Name n pos')) pos2.line X.env=pure Ab):PS X (.Assign [.Name n pos'] (.ListComp elt [⟨tg,iter,ifs,0⟩] scope pos) pos2) (PY (λY H Q=>wi Y H λJ H1=>Jk J ts g tt te Y H1 Q) (FG i)):=by
 intro pI s Y H Dn I h;obtain⟨cl,hclos,hcl,hcl2⟩:=NM (scope:=scope) (env:=X.env) λx hx hk=>I.ok.has x.1 ((B.free x hx hk).imp id id)
 rw[exec_Assign_Name_used _ _ _ _ hsw];refine Aq (Ea (Aq ?_));show Av _ X.A (do let _ <-comprehension (.ListComp elt [⟨tg,iter,ifs,0⟩] scope pos) scope X.env _ (newList []) Ad (eval iter X.env) (Aa (assign (.Name n pos') X.env))) _ _ s
 refine Aq (A4 (Fi (use:=Aa (assign (.Name n pos') X.env)) (Q:=λ_ s'=>SP X pI Dn .next s') rfl hs hclos B.kind B.names
  (thn (hi pI s Y H _ I h) λv s1 h1=>thn h1 λitv s2 h2=>?_)) (λ_ s' hq=>AS (AS hq)) λ_ _ e=>e)
 obtain⟨it,fp,tn,J,H2,e,I2,T,st2,f2,h3⟩:=h2;subst e;refine Og (RR:=λacc C=>JB (model X.prog X.w) X.A X.xe (Aa (assign (.Name n pos') X.env)) (λ_ s'=>SP X pI Dn .next s') acc C) hc B I2 T st2 f2 hcl hcl2 (λcl C s H=>hg cl C s H fp) (λcl C s H=>ht cl C s H fp) (λcl C D pl Y' H' s' Q' _ I' _ q=>A4 (he cl C s2 H2 fp pl s' Y' H' Q' I' q) (λ_ _ z=>z) λ_ _ f=>f.elim) h3 λcl' D C s' H' Y' pins' xs ys n' m I' hd hDn rv hz hD hDC hC hm q=>?_
 have J0:Inv X pI Y (upd H' D (.lst xs)) s':=N9 I2 f2 I' hD hDC hC hd hDn rv hz (Heap.SameBut.refl ..);refine X7 (QZ J0 hN hni (.inl hx) (show Bp (.ref D) (.ref D) from rfl) (λs'' J1 ⟨a,sb,ha⟩=>?_) (.inr hx))
 have hC0:X.s₀.heap.objs.size<=C:=Bt I2.sz hC;have hL:C≠X.env.locals:=λz=>absurd (AO I2.lt (z ▸ hC)) (Br _)
 have hcC:∀ x c,X.env.cells.lookup x=Aa c->c≠C:=λx c e z=>by
  obtain⟨v,q'⟩:=I2.cell x c e;exact absurd (AO q'.lt (by rw[z];exact hC)) (Br _)
 have hp:∀ p∈X.pn++pI,p.1≠C:=λp hp z=>absurd (AO (AJ (I2.pin p hp).1) (by rw[z];exact hC)) (Br _)
 have hCn:upd H' D (.lst xs) C=Ae:=by rw[Be hDC.symm];exact I'.free
 have hCa:C≠a:=by
  rcases ha with rfl|ha
  .exact hL
  .exact λz=>hcC n a ha z.symm
 refine⟨m,hm.sameBut sb hCa,λh'' hs''=>⟨_,_,J1.turned (t':=s''.toks) (λb o hb e=>(hs''.2 b hb).trans e) hCn hL (.inr hC0) hcC hp,q⟩⟩
theorem Kj:∀(ts:Ac Af)(U:Rho)(j:Af),(E5 ts U)[j]?=if j∈ts then (U[j]?).map (λ_=>Ae) else U[j]?
 |[],U,j=>by simp[E5]
 |t::ts,U,j=>by
  show (E5 ts (U.set t Ae))[j]?=_;rw[Kj ts];by_cases h1:j∈ts
  .rw[At h1,At (Aw _ h1)];by_cases h2:t=j
   .subst h2;rw[Ft];cases U[t]?<;>rfl
   .rw[BL h2]
  .rw[AA h1];by_cases h2:t=j
   .subst h2;rw[At AE,Ft];cases U[t]?<;>rfl
   .rw[BL h2,AA (by simp only[AH,GL];exact⟨λz=>h2 z.symm,h1⟩)]
theorem Mc:∀(ts:Ac Af)(U:Rho),(E5 ts U).length=U.length
 |[],_=>rfl
 |t::ts,U=>by show (E5 ts (U.set t Ae)).length=_;rw[Mc ts,AU]
theorem NU:∀(ts:Ac Af)(Y:L2.St){i:Af},i∉ts->(hideT ts Y)[i]?=Y[i]?
 |[],_,_,_=>rfl
 |t::ts,Y,i,h=>by
  simp only[AH,GL]at h;show (hideT ts (Y.set t Ae))[i]?=_;rw[NU ts _ h.2,BL (λz=>h.1 z.symm)]
theorem Qp:∀(ts:Ac Af)(ds:Ac D)(U1 U2:Rho),U1.length=U2.length->(∀ j,j∉ts->U1[j]?=U2[j]?)->EB ts ds U1=EB ts ds U2
 |[],[],U1,U2,hl,h=>congrArg Aa (VQ λj=>h j (by simp))
 |[],_::_,_,_,_,_=>rfl
 |_::_,[],_,_,_,_=>rfl
 |t::ts,d::ds,U1,U2,hl,h=>by
  refine Qp ts ds _ _ (by rw[AU,AU];exact hl) λj hj=>?_
  by_cases e:t=j
  .subst e;rw[GX,GX,At rfl,At rfl,hl]
  .rw[BL e,BL e];exact h j (by simp only[AH,GL];exact⟨λz=>e z.symm,hj⟩)
theorem QB:∀(ts us:Ac Af)(ds:Ac D)(U U':Rho),(∀ t∈ts,t∈us)->EB ts ds U=Aa U'->E5 us U'=E5 us U
 |[],us,[],U,U',_,e=>by cases e;rfl
 |t::ts,us,d::ds,U,U',hs,e=>by
  rw[QB ts us ds _ U' (λu hu=>hs u (Aw _ hu)) e]
  refine VQ λj=>?_
  rw[Kj,Kj];by_cases h:j∈us
  .rw[At h,At h,GX];split
   .rename_i e2;subst e2;split
    .rename_i h3;rw[A7 h3];rfl
    .rename_i h3;rw[List.getElem?_eq_none (by omega)]
   .rfl
  .rw[AA h,AA h,BL];rintro rfl;exact h (hs _ AE)
 |[],_,_::_,_,_,_,e=>by cases e
 |_::_,_,[],_,_,_,e=>by cases e
section
variable{K:Fg}{CL:ClA}{A:Ak->Prop}{U U':Rho}{Y:L2.St}{H:Hp}
theorem Good.less(g:Good K CL A U Y H)(hl:U'.length=U.length)(h:∀(i:Af)(d:D)(o:Am),U'[i]?=Aa (Aa (d,o))->U[i]?=Aa (Aa (d,o))):Good K CL A U' Y H:=⟨λi d e=>g.sh i d (h i d Ad e),λi d e hn=>g.ow i d (h i d Ab e) hn,hl.trans g.len⟩
theorem Good.put(g:Good K CL A U Y H)(t:Af)(r:Rep K CL H A v d):Good K CL A (U.set t (Aa (d,Ad))) (Y.set t (Aa v)) H:=by
 refine⟨λj e h=>?_,λj e h hn=>?_,by rw[AU,AU];exact g.len⟩
 .by_cases hj:t=j
  .subst hj;have e1:=Ge h;cases e1;have hl:t<Y.length:=by
    rw[<-g.len];have:=(A1.mp h).1;simpa using this
   exact⟨v,by rw[Co hl],r⟩
  .rw[BL hj]at h;obtain⟨w',q,rw'⟩:=g.sh j e h;exact⟨w',by rw[BL hj];exact q,rw'⟩
 .have hj:t≠j:=by
   rintro rfl;have:=Ge h;cases this
  rw[BL hj]at h;obtain⟨a,xs,ds,q,z⟩:=g.ow j e h hn;exact⟨a,xs,ds,by rw[BL hj];exact q,z⟩
theorem Good.hide(g:Good K CL A U Y H)(ts:Ac Af):Good K CL A (E5 ts U) Y H:=g.less (Mc _ _) λi d o e=>by
 rw[Kj]at e;split at e
 .cases q:U[i]? with
  |none=>rw[q]at e;cases e
  |some x=>rw[q]at e;cases e
 .exact e
theorem Good.hideT(g:Good K CL A U Y H)(ts:Ac Af):Good K CL A (E5 ts U) (hideT ts Y) H:=by
 have key:∀ i x,(E5 ts U)[i]?=Aa (Aa x)->U[i]?=Aa (Aa x)/\i∉ts:=λi x e=>by
  rw[Kj]at e;split at e
  .cases q:U[i]? with
   |none=>rw[q]at e;cases e
   |some x=>rw[q]at e;cases e
  .exact⟨e,by assumption⟩
 refine⟨λi d e=>?_,λi d e hn=>?_,by rw[Mc,N2];exact g.len⟩
 .obtain⟨e1,e2⟩:=key i _ e;obtain⟨v,q,r⟩:=g.sh i d e1;exact⟨v,by rw[NU _ _ e2];exact q,r⟩
 .obtain⟨e1,e2⟩:=key i _ e;obtain⟨a,xs,ds,q,r⟩:=g.ow i d e1 hn;exact⟨a,xs,ds,by rw[NU _ _ e2];exact q,r⟩
end
def GG(K:Fg)(CL:ClA)(ts:Ac Af)(as:D->Rho->R Rho)(g:TG):Prop:=∀ A U Y H v d U' Q,Good K CL A (E5 ts U) Y H->Rep K CL H A v d->as d U=.ok U'->(∀ Y',Good K CL A U' Y' H->Good K CL A (E5 ts U) Y' H->Q Y' H)->g v Y H Q
theorem iM(i:Af):GG K CL [i] (λd U=>.ok (U.set i (Aa (d,Ad)))) (FG i):=λA U Y H v d U' Q g r e k=>by
 cases e;have g2:=g.put i r;have e1:(E5 [i] U).set i (Aa (d,Ad))=U.set i (Aa (d,Ad)):=by
  show (U.set i Ae).set i (Aa (d,Ad))=_;rw[V7]
 rw[e1]at g2;refine k _ g2 ?_;have:=g2.hide [i];have e2:E5 [i] (U.set i (Aa (d,Ad)))=E5 [i] U:=by
  show (U.set i _).set i Ae=U.set i Ae;rw[V7]
 rw[e2]at this;exact this
theorem R8{K:Fg}{CL:ClA}{A:Ak->Prop}{H:Hp}:∀(ts:Ac Af)(ds:Ac D)(vs:Ac V)(U U':Rho)(Y:L2.St)(Q:L2.St->Hp->Prop),Good K CL A U Y H->Reps K CL H A vs ds->EB ts ds U=Aa U'->(∀ Y',Good K CL A U' Y' H->Q Y' H)->(ts.foldr (λt u=>IE (FG t) u) IH) vs Y H Q
 |[],[],[],U,U',Y,Q,x,_,e,k=>by
  cases e;exact⟨rfl,k Y x⟩
 |t::ts,d::ds,v::vs,U,U',Y,Q,x,r,e,k=>⟨v,vs,rfl,R8 ts ds vs _ U' _ Q (x.put t r.1) r.2 e k⟩
 |[],_::_,_,_,_,_,_,_,_,e,_=>by cases e
 |_::_,[],_,_,_,_,_,_,_,e,_=>by cases e
 |[],[],_::_,_,_,_,_,_,r,_,_=>r.elim
 |_::_,_::_,[],_,_,_,_,_,r,_,_=>r.elim
theorem nV(ts:Ac Af):GG K CL ts (EK ts) (LP K ts.length (ts.foldr (λt u=>IE (FG t) u) IH)):=λA U Y H v d U' Q g r e k=>by
 cases d with
 |tup ds=>
  obtain⟨a,xs,rfl,na,sq,rs⟩:=r;rw[QK]at e;cases e2:EB ts ds U with
  |none=>rw[e2]at e;cases e
  |some U2=>
   rw[e2]at e;cases e;have e3:EB ts ds (E5 ts U)=Aa U':=by
    rw[<-e2];exact Qp ts ds _ _ (Mc _ _) λj hj=>by rw[Kj,AA hj]
   refine⟨a,xs,rfl,sq,by rw[rs.length];exact NR _ _ _ _ e2,R8 ts ds xs _ U' Y Q g rs e3 λY' g'=>k Y' g' ?_⟩
   have:=g'.hide ts;rw[QB ts ts ds U U' (λ_ h=>h) e2]at this
   exact this
 |_=>cases e
noncomputable abbrev W0:XW:=λ_ _=>AW
def STs(X:Cx)(CL:ClA)(ifs:Ac An)(f:Rho->R Am):Prop:=∀ A,PTs X ifs (λY H Q=>AOk H A/\∃ U,Good X.K CL A U Y H/\CD W0 H (f U) Q)
theorem R6:STs X CL [] (λ_=>.ok Ab):=λA pI s Y H Q I ⟨hA,U,g,p⟩=>fV pI s Y H Q I (p H (Az.refl H))
theorem cY{f:Rho->R Am}(h:SB X CL W0 c f):STs X CL [c] f:=λA pI s Y H Q I q=>fU (h A) pI s Y H Q I q
section
variable{X:Cx}{CL:ClA}{W:XW}{tg iter elt:An}{ifs:Ac An}{scope:BG}{pos:AC}{N':Ac Ag}{ts:Ac Af}{fi:Rho->R (Ac D)}{fc:Rho->R Am}{fe:Rho->R D}{as:D->Rho->R Rho}{g:TG}
theorem YG{g:D->R Am}{f:D->R D}{x:D}{xs ys:Ac D}(h:Bq g f (x::xs)=.ok ys):(g x=.ok Ad/\Bq g f xs=.ok ys)\/∃ y r,g x=.ok Ab/\f x=.ok y/\Bq g f xs=.ok r/\ys=y::r:=by
 unfold Bq at h;cases e:g x with
 |bad=>rw[e]at h;cases h
 |exn z=>rw[e]at h;cases h
 |ok b=>
  rw[e,R.bind_ok]at h;cases b with
  |false=>exact .inl ⟨rfl,h⟩
  |true=>
   rw[At rfl]at h;cases e2:f x with
   |bad=>rw[e2]at h;cases h
   |exn z=>rw[e2]at h;cases h
   |ok y=>
    rw[e2,R.bind_ok]at h;cases e3:Bq g f xs with
    |bad=>rw[e3]at h;cases h
    |exn z=>rw[e3]at h;cases h
    |ok r=>
     rw[e3,R.bind_ok]at h;cases h;exact .inr ⟨y,r,rfl,rfl,rfl,rfl⟩
theorem JG{β:Type}{r:R α}{f:α->R β}{b:β}(h:r.bind f=.ok b):∃ a,r=.ok a/\f a=.ok b:=by
 cases r with
 |ok a=>exact⟨a,rfl,h⟩
 |exn x=>cases h
 |bad=>cases h
theorem QQ{We:XW}{ds ys:Ac D}(hGG:GG K CL ts as g)(hA:AOk H1 A)(gd:Good K CL A U Y H1)(yl:IK K CL A ds J H1)(hz:ds.length<=sizeLine)(hcp:Bq (λx=>(as x U).bind fc) (λx=>(as x U).bind fe) ds=.ok ys)(q:∀ xs H2,Az H1 H2->Reps K CL H2 A xs ys->∀ p,H2 p=Ae->Q (.ref p) (upd H2 p (.lst xs))):Jk J ts g (λY H Q=>AOk H A/\∃ U,Good K CL A U Y H/\CD W0 H (fc U) Q) (λY H Q=>AOk H A/\∃ U,Good K CL A U Y H/\AR (λH=>Rep K CL H A) We H (fe U) Q) Y H1 Q:=by
 refine⟨λi m xs Y' H'=>m=ds.length-i/\i<=ds.length/\xs.length<=i/\Az H1 H'/\Good K CL A (E5 ts U) Y' H'/\∃ outs rest,Reps K CL H' A xs outs/\Bq (λx=>(as x U).bind fc) (λx=>(as x U).bind fe) (ds.drop i)=.ok rest/\ys=outs++rest,
  ⟨ds.length,by simp,DP _,AK _,Az.refl _,gd.hideT ts,[],ys,trivial,hcp,rfl⟩,?_⟩
 rintro i m xs Y' H' ⟨rfl,hi,hxl,sm,g',outs,rest,rs,hc,e⟩;obtain⟨yst,ygo⟩:=yl H' (Kp.of sm) i;by_cases hlt:i<ds.length
 .have hd:ds[i]?=Aa ds[i]:=A7 hlt;obtain⟨hgo,hyl⟩:=ygo _ hd;refine .inr ⟨hgo,by omega,λx H2 hx=>?_⟩
  obtain⟨s2,rx⟩:=hyl x H2 hx;have rx':=rx A (λa ha=>.inl ha) (hA.same sm)
  rw[DF hlt]at hc;have sm2:=sm.trans s2;rcases YG hc with ⟨h1,h2⟩|⟨y,r,h1,h2,h3,h4⟩
  .obtain⟨U',ea,ec⟩:=JG h1;refine hGG A U Y' H2 x ds[i] U' _ (g'.same s2) rx' ea λY3 g3 g4=>⟨hA.same sm2,U',g3,?_⟩
   rw[ec];exact λH3 s3=>by
    dsimp only;rw[AA (by decide)]
    exact⟨ds.length-(i+1),by omega,rfl,hlt,by omega,sm2.trans s3,g4.same s3,outs,rest,(rs.same s2).same s3,h2,e⟩
  .obtain⟨U',ea,ec⟩:=JG h1;obtain⟨U2,ea2,ee⟩:=JG h2;rw[ea]at ea2;cases ea2;refine hGG A U Y' H2 x ds[i] U' _ (g'.same s2) rx' ea λY3 g3 g4=>⟨hA.same sm2,U',g3,?_⟩
   rw[ec];exact λH3 s3=>by
    dsimp only;rw[At rfl];refine⟨(hA.same sm2).same s3,U',g3.same s3,?_⟩;rw[ee];exact λv H4 s4 r4=>⟨ds.length-(i+1),by omega,rfl,hlt,by rw[BN,C8];omega,(sm2.trans s3).trans s4,(g4.same s3).same s4,outs++[y],r,(((rs.same s2).same s3).same s4).append ⟨r4,trivial⟩,h3,by rw[e,h4];simp⟩
 .have hk':ds.length<=i:=by omega
  rw[Ej hk']at hc;have hr:rest=[]:=by cases hc;rfl
  subst hr;rw[Cw]at e;subst e;exact .inl ⟨yst hk',λp hp=>q xs H' sm rs p hp⟩
theorem EM.ok_of{r:R (Ac D)}{f:Ac D->R D}{Q':It->Hp->Prop}(h:AR Rq W H (r.bind f) Q)(k:∀ ds J H',r=.ok ds->Az H H'->IK K CL A ds J H'->ds.length<=sizeLine->AR Rq W H' (f ds) Q->Q' J H'):EM K CL A W H r Q':=by
 cases r with
 |ok d=>exact λJ H2 s2 y z=>k d J H2 rfl s2 y z (AR.same s2 h)
 |exn x=>exact h
 |bad=>exact h
theorem kL{r:R α}{a:α}(h:noX r=.ok a):r=.ok a:=by
 cases r with
 |ok b=>exact h
 |exn x=>cases h
 |bad=>cases h
theorem QP(hGG:GG X.K CL ts as g)(hA:AOk H A)(gd:Good X.K CL A U Y H)(p:AR (Du X.K CL Ab H A) W H ((fi U).bind λxs=>(noX (Bq (λx=>(as x U).bind fc) (λx=>(as x U).bind fe) xs)).bind λys=>.ok (.lst ys)) Q):EM X.K CL A W H (fi U) (λJ H1=>Jk J ts g (λY H Q=>AOk H A/\∃ U,Good X.K CL A U Y H/\CD W0 H (fc U) Q) (λY H Q=>AOk H A/\∃ U,Good X.K CL A U Y H/\AR (λH=>Rep X.K CL H A) W0 H (fe U) Q) Y H1 Q):=
 EM.ok_of p λds J H1 e1 s1 yl hz p1=>by
  cases e2:noX (Bq (λx=>(as x U).bind fc) (λx=>(as x U).bind fe) ds) with
  |ok ys=>
   rw[e2]at p1;exact QQ hGG (hA.same s1) (gd.same s1) yl hz (kL e2) λxs H2 s2 rs q hq=>p1 _ _ (s2.trans (EL hq _)) (Ji (s1.trans s2) ((hA.same s1).same s2) hq rs)
  |exn x=>rw[e2]at p1;cases hq:Bq (λx=>(as x U).bind fc) (λx=>(as x U).bind fe) ds<;>rw[hq]at e2<;>cases e2
  |bad=>rw[e2]at p1;exact p1.elim
theorem dS(hc:X.calm=Ab)(B:BlockOk X scope N' ts)(hi:SI X CL W tg iter fi)(hGG:GG X.K CL ts as g)(hg:∀ cl C s H fp,PG (cxC X scope cl C N' s H fp) tg g)(ht:∀ cl C s H fp,STs (cxC X scope cl C N' s H fp) CL ifs fc)(he:∀ cl C s H fp,SE (cxC X scope cl C N' s H fp) CL W0 elt fe)(hs:∀ x,BW iter X.env x=pure x):SC X CL W Ab (.ListComp elt [⟨tg,iter,ifs,0⟩] scope pos) (λU=>(fi U).bind λxs=>(noX (Bq (λx=>(as x U).bind fc) (λx=>(as x U).bind fe) xs)).bind λys=>.ok (.lst ys)):=λA pI s Y H Q I ⟨hA,U,gd,p⟩=>
 gG hc B (hi A) hg (λcl C s H fp=>ht cl C s H fp A) (λcl C s H fp=>he cl C s H fp A) hs pI s Y H Q I ⟨hA,U,gd,QP hGG hA gd p⟩
end
section
variable{K:Fg}{CL:ClA}{Fz:Fr}{B:Ak->Prop}{U:Rho}{Y:L2.St}{H H':Hp}
theorem Sx.setF(x:Sx K CL Fz B U Y H)(s:Az H H'){ds:Ac D}(h0:H a=Ae)(h1:H' a=Aa (.lst xs))(r:Reps K CL H' (λb=>Bk B U Y b\/b=a) xs ds):Sx K CL Fz B (U.set i (Aa (.lst ds,Ab))) (Y.set i (Aa (.ref a))) H':=by
 have nA:¬ Bk B U Y a:=x.aok.new h0;have own:∀(j:Af)(e:D),(U.set i (Aa (.lst ds,Ab)))[j]?=Aa (Aa (e,Ab))->(i=j/\e=.lst ds)\/(i≠j/\U[j]?=Aa (Aa (e,Ab))):=λj e h=>by
  by_cases hj:i=j
  .subst hj;have:=Ge h;cases this;exact .inl ⟨rfl,rfl⟩
  .exact .inr ⟨hj,by rw[BL hj]at h;exact h⟩
 have atI:∀{j:Af}{y:Sl},(U.set i (Aa (.lst ds,Ab)))[j]?=Aa y->i=j->(Y.set i (Aa (.ref a)))[j]?=Aa (Aa (.ref a)):=λ{j y} h e=>by
  subst e;have hl:i<Y.length:=by
   rw[<-x.len];have:=(A1.mp h).1;simpa using this
  rw[Co hl]
 have sub:∀ b,Bk B (U.set i (Aa (.lst ds,Ab))) (Y.set i (Aa (.ref a))) b->Bk B U Y b\/b=a:=λb h=>by
  rcases h with h|⟨j,e,h1,h2⟩
  .exact .inl (.inl h)
  .rcases own j e h1 with ⟨hj,_⟩|⟨hj,h1'⟩
   .rw[atI h1 hj]at h2;cases h2;exact .inr rfl
   .rw[BL hj]at h2;exact .inl (.inr ⟨j,e,h1',h2⟩)
 have wide:∀{v:V}{d:D},Rep K CL H (Bk B U Y) v d->Rep K CL H' (Bk B (U.set i (Aa (.lst ds,Ab))) (Y.set i (Aa (.ref a)))) v d:=λr=>(Rep.wide (λb hb=>(sub b hb).imp id λe=>by rw[e];exact h0) _ r).same s
 have wides:∀{v:Ac V}{d:Ac D},Reps K CL H (Bk B U Y) v d->Reps K CL H' (Bk B (U.set i (Aa (.lst ds,Ab))) (Y.set i (Aa (.ref a)))) v d:=λr=>(Reps.wide (λb hb=>(sub b hb).imp id λe=>by rw[e];exact h0) _ r).same s
 refine⟨⟨λj e h=>?_,λj e h hn=>?_,by rw[AU,AU];exact x.len⟩,λb h=>?_,λj e b g1 g2=>?_,λj k e f b g1 g2 g3 g4=>?_,λb o z=>s _ _ (x.same b o z),by rw[AU,AU];exact x.len,λj h=>?_⟩
 .have hj:i≠j:=by
   rintro rfl;have:=Ge h;cases this
  rw[BL hj]at h;obtain⟨w',q,rw'⟩:=x.good.sh j e h;exact⟨w',by rw[BL hj];exact q,wide rw'⟩
 .rcases own j e h with ⟨hj,rfl⟩|⟨hj,h'⟩
  .have q:=atI h hj;exact⟨a,xs,ds,q,rfl,.inr ⟨j,_,h,q⟩,h1,Reps.sub sub _ r⟩
  .obtain⟨b,ys,es,q,z,ha,hh,rr⟩:=x.good.ow j e h' hn;have q':(Y.set i (Aa (.ref a)))[j]?=Aa (Aa (.ref b)):=by rw[BL hj];exact q
   exact⟨b,ys,es,q',z,.inr ⟨j,e,h,q'⟩,s _ _ hh,wides rr⟩
 .rcases sub b h with z|z
  .obtain⟨ys,q⟩:=x.aok b z;exact⟨ys,s _ _ q⟩
  .rw[z];exact⟨xs,h1⟩
 .rcases own j e g1 with ⟨hj,_⟩|⟨hj,h'⟩
  .rw[atI g1 hj]at g2;cases g2;refine⟨λo z=>?_,λz=>nA (.inl z)⟩
   have:=x.same a o z;rw[h0]at this;cases this
  .rw[BL hj]at g2;exact x.new j e b h' g2
 .rcases own j e g1 with ⟨hj,_⟩|⟨hj,h'⟩
  .rw[atI g1 hj]at g3;cases g3;rcases own k f g2 with ⟨hk,_⟩|⟨hk,h''⟩
   .exact hj.symm.trans hk
   .rw[BL hk]at g4;exact absurd (.inr ⟨k,f,h'',g4⟩) nA
  .rw[BL hj]at g3;rcases own k f g2 with ⟨hk,_⟩|⟨hk,h''⟩
   .rw[atI g2 hk]at g4;cases g4;exact absurd (.inr ⟨j,e,h',g3⟩) nA
   .rw[BL hk]at g4;exact x.dis j k e f b h' h'' g3 g4
 .rcases own j _ h with ⟨_,z⟩|⟨hj,h'⟩
  .cases z
  .obtain⟨b,ys,p1,p2,p3⟩:=x.pin j h';exact⟨b,ys,p1,by rw[BL hj];exact p2,s _ _ p3⟩
theorem Sx.upd(x:Sx K CL Fz B U Y H){i:Af}{d:D}{a:Ak}{xs:Ac V}{ds:Ac D}(hi:U[i]?=Aa (Aa (d,Ab)))(ha:Y[i]?=Aa (Aa (.ref a)))(r:Reps K CL H (Bk B U Y) xs ds):Sx K CL Fz B (U.set i (Aa (.lst ds,Ab))) Y (L2.upd H a (.lst xs)):=by
 have oa:Bk B U Y a:=.inr ⟨i,d,hi,ha⟩;have hil:i<U.length:=(A1.mp hi).1;have get:∀(j:Af)(e:D),(U.set i (Aa (.lst ds,Ab)))[j]?=Aa (Aa (e,Ab))↔(i=j/\e=.lst ds)\/(i≠j/\U[j]?=Aa (Aa (e,Ab))):=λj e=>by
  by_cases hj:i=j
  .subst hj;rw[Co hil];simp;exact⟨λz=>z.symm,λz=>z.symm⟩
  .rw[BL hj];simp[hj]
 have same:∀ b,Bk B (U.set i (Aa (.lst ds,Ab))) Y b↔Bk B U Y b:=λb=>by
  constructor
  .rintro (h|⟨j,e,h1,h2⟩)
   .exact .inl h
   .rcases (get j e).mp h1 with ⟨rfl,_⟩|⟨_,h1⟩
    .exact .inr ⟨i,d,hi,h2⟩
    .exact .inr ⟨j,e,h1,h2⟩
  .rintro (h|⟨j,e,h1,h2⟩)
   .exact .inl h
   .by_cases hj:i=j
    .subst hj;exact .inr ⟨i,.lst ds,(get i _).mpr (.inl ⟨rfl,rfl⟩),h2⟩
    .exact .inr ⟨j,e,(get j e).mpr (.inr ⟨hj,h1⟩),h2⟩
 have kp:Kp (Bk B U Y) H (L2.upd H a (.lst xs)):=λb o e na=>by
  have hne:b≠a:=by
   rintro rfl;exact na oa
  rw[Be hne];exact e
 refine⟨⟨λj e h=>?_,λj e h hn=>?_,by rw[AU];exact x.len⟩,λb h=>?_,λj e b g1 g2=>?_,λj k e f b g1 g2 g3 g4=>?_,λb o z=>?_,by rw[AU];exact x.len,λj h=>?_⟩
 .have hj:i≠j:=by
   rintro rfl;have:=Ge h;cases this
  rw[BL hj]at h;obtain⟨w',q,rw'⟩:=x.good.sh j e h;exact⟨w',q,Rep.sub (λb hb=>(same b).mp hb) _ (Rep.kp kp _ rw')⟩
 .rcases (get j e).mp h with ⟨rfl,rfl⟩|⟨hj,h'⟩
  .exact⟨a,xs,ds,ha,rfl,(same a).mpr oa,DD,Reps.sub (λb hb=>(same b).mp hb) _ (Reps.kp kp _ r)⟩
  .obtain⟨b,ys,es,q,z,hb,hh,rr⟩:=x.good.ow j e h' hn;have hne:b≠a:=λz=>hj (x.dis i j d e a hi h' ha (z ▸ q))
   exact⟨b,ys,es,q,z,(same b).mpr hb,by rw[Be hne];exact hh,Reps.sub (λb hb=>(same b).mp hb) _ (Reps.kp kp _ rr)⟩
 .obtain⟨ys,q⟩:=x.aok b ((same b).mp h);by_cases e:b=a
  .rw[e];exact⟨xs,DD⟩
  .exact⟨ys,by rw[Be e];exact q⟩
 .rcases (get j e).mp g1 with ⟨rfl,_⟩|⟨_,h'⟩
  .exact x.new i d b hi g2
  .exact x.new j e b h' g2
 .rcases (get j e).mp g1 with ⟨rfl,_⟩|⟨hj,h'⟩
  .rcases (get k f).mp g2 with ⟨rfl,_⟩|⟨hk,h''⟩
   .rfl
   .exact x.dis i k d f b hi h'' g3 g4
  .rcases (get k f).mp g2 with ⟨rfl,_⟩|⟨hk,h''⟩
   .exact x.dis j i e d b h' hi g3 g4
   .exact x.dis j k e f b h' h'' g3 g4
 .have hne:b≠a:=λe=>(x.new i d a hi ha).1 o (e ▸ z)
  rw[Be hne];exact x.same b o z
 .rcases (get j _).mp h with ⟨_,z⟩|⟨hj,h'⟩
  .cases z
  .obtain⟨b,ys,p1,p2,p3⟩:=x.pin j h';have hne:b≠a:=λz=>hj (x.dis i j d _ a hi h' ha (z ▸ p2))
   exact⟨b,ys,p1,p2,by rw[Be hne];exact p3⟩
theorem Sx.rel(x:Sx K CL Fz B U Y H)(hi:U[i]?=Aa (Aa (d,Ab)))(hn:d≠.non):Sx K CL Fz B (U.set i (Aa (d,Ad))) Y H:=by
 obtain⟨a,xs,ds,q,rfl,oa,hh,rr⟩:=x.good.ow i d hi hn;have own:∀(j:Af)(e:D),(U.set i (Aa (.lst ds,Ad)))[j]?=Aa (Aa (e,Ab))->i≠j/\U[j]?=Aa (Aa (e,Ab)):=λj e h=>by
  by_cases hj:i=j
  .subst hj;have:=Ge h;cases this
  .exact⟨hj,by rw[BL hj]at h;exact h⟩
 have sub:∀ b,Bk B (U.set i (Aa (.lst ds,Ad))) Y b->Bk B U Y b:=λb h=>by
  rcases h with h|⟨j,e,h1,h2⟩
  .exact .inl h
  .exact .inr ⟨j,e,(own j e h1).2,h2⟩
 have na:¬ Bk B (U.set i (Aa (.lst ds,Ad))) Y a:=λh=>by
  rcases h with h|⟨j,e,h1,h2⟩
  .exact(x.new i _ a hi q).2 h
  .obtain⟨hj,h1⟩:=own j e h1;exact hj (x.dis i j _ e a hi h1 q h2)
 refine⟨⟨λj e h=>?_,λj e h hn=>?_,by rw[AU];exact x.len⟩,λb h=>x.aok b (sub b h),λj e b g1 g2=>x.new j e b (own j e g1).2 g2,λj k e f b g1 g2 g3 g4=>x.dis j k e f b (own j e g1).2 (own k f g2).2 g3 g4,x.same,by rw[AU];exact x.len,λj h=>x.pin j (own j _ h).2⟩
 .by_cases hj:i=j
  .subst hj;have e1:=Ge h;cases e1;exact⟨_,q,a,xs,rfl,.inl na,SqL.of hh,Reps.sub sub _ rr⟩
  .rw[BL hj]at h;obtain⟨w',q',rw'⟩:=x.good.sh j e h;exact⟨w',q',Rep.sub sub _ rw'⟩
 .obtain⟨hj,h'⟩:=own j e h;obtain⟨b,ys,es,q',z,hb,hh',rr'⟩:=x.good.ow j e h' hn;exact⟨b,ys,es,q',z,.inr ⟨j,e,h,q'⟩,hh',Reps.sub sub _ rr'⟩
end
section
variable{X:Cx}{CL:ClA}{W:XW}{pos:AC}{e:An}{fe:Rho->R D}{fr:Am}
theorem Bs.exC{f:D->O}(x:Sx X.K CL Fz B U Y H)(h:Bs X.K CL Fz B W (O.of U r f) D')(k:∀ d v H',r=.ok d->Az H H'->Du X.K CL fr H A H' v d->Sx X.K CL Fz B U Y H'->Bs X.K CL Fz B W (f d) D'->Q v H'):AR (Du X.K CL fr H A) W H r Q:=by
 cases r with
 |ok d=>exact λv H' s r=>k d v H' rfl s r (x.grow s) h
 |exn y=>exact λH' s=>h H' λb o z=>s _ _ (x.same b o z)
 |bad=>exact h
def SAs(X:Cx)(CL:ClA)(W:XW)(fr:Am)(i:Af)(st:AI)(f:Rho->R D):Prop:=∀ A,PS X st (PY (λY H Q=>AOk H A/\∃ U,Good X.K CL A U Y H/\AR (Du X.K CL fr H A) W H (f U) Q) (FG i))
theorem SC.sas{n:Ag}(hN:X.N.Nodup)(hi:X.N[i]?=Aa n)(hx:Loc X.env.scope n)(he:SC X CL W fr e fe)(hs:CK e (Aa (.Name n pos')) pos.line X.env=pure Ad)(hf:X.fn n=Ab\/X.env.scope.names.lookup n=Aa .local):SAs X CL W fr i (.Assign [.Name n pos'] e pos) fe:=
 λA=>MP hN hi hx (he A) hs hf
theorem ZK{n:Ag}{fe:Rho->R D}{g:TG}(hc:X.calm=Ab)(B:BlockOk X scope N' ts)(hi:SI X CL W tg iter fi)(hGG:GG X.K CL ts as g)(hg:∀ cl C s H fp,PG (cxC X scope cl C N' s H fp) tg g)(ht:∀ cl C s H fp,STs (cxC X scope cl C N' s H fp) CL ifs fc)(he:∀ cl C s H fp,SE (cxC X scope cl C N' s H fp) CL W0 elt fe)(hs:∀ x,BW iter X.env x=pure x)(hN:X.N.Nodup)(hni:X.N[i]?=Aa n)(hx:X.env.scope.names.lookup n=Aa .local)(hsw:CK (.ListComp elt [⟨tg,iter,ifs,0⟩] scope pos) (Aa (.Name n pos')) pos2.line X.env=pure Ab):SAs X CL W Ab i (.Assign [.Name n pos'] (.ListComp elt [⟨tg,iter,ifs,0⟩] scope pos) pos2) (λU=>(fi U).bind λxs=>(noX (Bq (λx=>(as x U).bind fc) (λx=>(as x U).bind fe) xs)).bind λys=>.ok (.lst ys)):=λA pI s Y H Dn I ⟨hA,U,gd,p⟩=>
 fZ hc B (hi A) hg (λcl C s H fp=>ht cl C s H fp A) (λcl C s H fp=>he cl C s H fp A) hs hN hni hx hsw pI s Y H Dn I ⟨hA,U,gd,QP hGG hA gd p⟩
theorem TL{st:AI}(h:SAs X CL W fr i st fe):SS X CL W st (λU=>O.of U (fe U) λd=>.next (U.set i (Aa (d,Ad)))):=λFz B pI s Y H D I ⟨U,x,p⟩=>
 h (Bk B U Y) pI s Y H D I ⟨x.aok,U,x.good,Bs.exC x p λd v H' _ s r x' q=>q _ H' (x'.set i r.1)⟩
theorem RO{st:AI}(h:SAs X CL W Ab i st fe):SS X CL W st (λU=>O.of U (fe U) λd=>setF U i d):=λFz B pI s Y H D I ⟨U,x,p⟩=>
 h (Bk B U Y) pI s Y H D I ⟨x.aok,U,x.good,Bs.exC x p λd v H' _ s r x' q=>by
  cases d with
  |lst ds=>
   obtain⟨a,xs,rfl,h0,h1,rs⟩:=r.2 rfl ds rfl;exact q _ H' (x.setF s h0 h1 rs)
  |dic ds=>exact r.1.elim
  | _=>exact q.elim⟩
theorem RN(he:SC X CL W Ab e fe):SS X CL W (.Return (Aa e) pos) (λU=>O.of U (fe U) λd=>.ret d Ab):=λFz B pI s Y H D I ⟨U,x,p⟩=>
 O5 (he (Bk B U Y)) pI s Y H D I ⟨x.aok,U,x.good,Bs.exC x p λd v H' _ s r x' q=>q v H' x'.same (Rep.sub (λa h=>.inl h) _ r.1) λ_ ds e=>by
  obtain⟨a,xs,h0,h1,h2,h3⟩:=r.2 rfl ds e;refine⟨a,xs,h0,λo z=>?_,h2,Reps.sub (λb hb=>hb.imp .inl id) _ h3⟩
  have:=x.same a o z;rw[h1]at this;cases this⟩
noncomputable def Qg(U:Rho)(i:Af):Am:=match U[i]? with
  |some (Aa (_,o))=>o
  |_=>Ad
theorem dC(he:PE X e (EQ i)):SS X CL W (.Return (Aa e) pos) (λU=>O.of U (DO U i) λd=>.ret d (Qg U i)):=λFz B pI s Y H D I ⟨U,x,p⟩=>
 O5 he pI s Y H D I (by
  dsimp only at p;cases e:DO U i with
  |bad=>rw[e]at p;exact p.elim
  |exn z=>exact(Lk e).elim
  |ok d=>
   rw[e]at p;obtain⟨o,e,hn⟩:=RX e;have eo:Qg U i=o:=by unfold Qg;rw[e]
   rw[O.of_ok,eo]at p;cases o with
   |false=>
    obtain⟨v,q,r⟩:=x.good.sh i d e;exact⟨v,q,p v H x.same (Rep.sub (λa h=>.inl h) _ r) λz=>nomatch z⟩
   |true=>
    obtain⟨a,xs,ds,q,rfl,ha,hh,r⟩:=x.good.ow i d e (hn rfl);obtain⟨n1,n2⟩:=x.new i _ a e q;refine⟨_,q,p _ H x.same ⟨a,xs,rfl,.inl n2,SqL.of hh,Reps.sub (λa h=>.inl h) _ r⟩ λ_ ds' e'=>?_⟩
    cases e';exact⟨a,xs,rfl,n1,hh,Reps.sub (λb hb=>hb.elim .inl λz=>z ▸ ha) _ r⟩)
theorem Sa{ds:Ac D}(h:D4 U i=.ok ds):U[i]?=Aa (Aa (.lst ds,Ab)):=by
 unfold D4 at h;split at h
 .rename_i e;cases h;exact e
 .cases h
theorem Rk{x:Ex}(h:D4 U i=.exn x):AW:=by
 unfold D4 at h;split at h<;>cases h
variable{o:An}{i:Af}{apos cpos:AC}
theorem jS(ho:PE X o (EQ i))(he:SE X CL W e fe)(hbase:CY o "append" X.env (eval o X.env)=eval o X.env)(hfew:((Bv cpos (As [e] X.env)).all (λx=>!x.1)&&(Hf cpos (FN [] X.env)).all (λx=>x.1.isSome)&&decide ([e].length+([]:Ac DS).length+(if ([]:Ac DS).isEmpty then 0 else 1)<30))=Ab)(hline:(apos.endLine==cpos.line)=Ab)(hs:As [e] X.env=[(Ad,eval e X.env)])(hsw:CK (.Call (.Attribute o "append" apos) [e] [] cpos) Ae pos.line X.env=pure Ad):
  SS X CL W (.Expr (.Call (.Attribute o "append" apos) [e] [] cpos) pos) (λU=>O.of U (D4 U i) λxs=>O.of U (fe U) λd=>if B8 (xs.length+1)=Ab then .next (U.set i (Aa (.lst (xs++[d]),Ab))) else .bad):=λFz B pI s Y H D I ⟨U,x,p⟩=>by
 refine Ls (MY W1 PySem.F.slot_list_append PySem.F.type_list_append Zt ho (DN (he (Bk B U Y)) Fj hs) hbase hfew hline hs rfl) hsw pI s Y H D I ?_;dsimp only at p;cases e1:D4 U i with
 |bad=>rw[e1]at p;exact p.elim
 |exn z=>exact(Rk e1).elim
 |ok ds=>
  rw[e1,O.of_ok]at p;have hi:=Sa e1;obtain⟨a,xs,ds',q,e2,ha,hh,r⟩:=x.good.ow i _ hi (λz=>nomatch z)
  cases e2;refine⟨_,q,.inl ⟨rfl,xs,SqL.of hh⟩,x.aok,U,x.good,Bs.ex x p λd v H' _ s rv x' q'=>?_⟩
  split at q'
  .rename_i hz;refine⟨a,xs,v,rfl,rfl,s _ _ hh,?_,q' _ _ (x'.upd hi q ((r.same s).append ⟨rv,trivial⟩))⟩;have:=JD hz;rw[r.length];omega
  .exact q'.elim
theorem dB{rest:Ac AI}{f:Rho->O}(i:Af)(h:SSs X CL W rest f):SSs X CL W rest (λU=>(match U[i]? with
   |some (Aa (d,Ab))=>Ng U i d
   | _=>O.next U).seq f):=λFz B=>PSs.weak (h Fz B) λD Y H ⟨U,x,p⟩=>by
 dsimp only at p;split at p
 .rename_i d e;cases d with
  |lst xs=>exact⟨_,x.rel e (λz=>nomatch z),p⟩
  |_=>exact p.elim
 .exact⟨U,x,p⟩
end
section
variable{X:Cx}{CL:ClA}{W:XW}{pos:AC}{e k o:An}{fe fk:Rho->R D}{i:Af}{apos cpos:AC}
theorem AX.take(r:AX xs its):∀ n,AX (xs.take n) (its.take n):=by
 induction r with
 |nil=>intro n;simp;exact .nil
 |cons h _ ih=>
  intro n;cases n with
  |zero=>exact .nil
  |succ n=>exact .cons h (ih n)
theorem AX.drop(r:AX xs its):∀ n,AX (xs.drop n) (its.drop n):=by
 induction r with
 |nil=>intro n;simp;exact .nil
 |cons h t ih=>
  intro n;cases n with
  |zero=>exact .cons h t
  |succ n=>exact ih n
end
section
variable{prog:AL}{w:AV}{A:AT}{E:Vq}{s:Ap}
theorem kJ{j t:Ak}{its:Ba Aj}{x:Aj}{Q:Vq}(st:s.heap.IsTupleIter j t k)(sq:s.heap.IsTuple t its)(at_:its[k]?=Aa x)(go:∀ h2,h2.IsTupleIter j t (k+1)->Ey j s.heap h2->Q x {s with heap:=h2}):Av (model prog w) A (DJ (.ref j)) Q E s:=by
 obtain⟨oj,gj,cj,dj⟩:=id st;obtain⟨ot,gt,_,nt,dt⟩:=sq;show Av _ _ (Jb _ _ >>= _) _ _ _;refine Aq (Fv st.typeIs DA (Hg DA st.typeIs WZ ?_ (WW _)));show Av _ _ (field (.ref j) 0 >>= _) _ _ _;refine Aq (Ck gj dj (x:=.ref t) rfl ?_);show Av _ _ (field (.ref j) 1 >>= _) _ _ _;refine Aq (Ck gj dj (x:=.int k 0) rfl ?_);refine Aq (Yd gt dt ?_);simp only[VN,at_];exact Aq (DV gj dj (by simp) (AS ⟨x,rfl,AS (go _ ⟨_,Cj _ gj (C9 (B5 dj _)),(Xc ..).trans cj,by rw[B5 dj];simp[D2]⟩ (W9 ..))⟩))
theorem Zs{j t:Ak}{its:Ba Aj}{Q:Vq}(calm:A.handled=Ae)(st:s.heap.IsTupleIter j t k)(sq:s.heap.IsTuple t its)(at_:its[k]?=Ae)(up:∀ h2 e,W7 j s.heap h2->(∃ o,h2.get? e=Aa o/\o.cls=.type "StopIteration")->E (.ref e) {s with heap:=h2}):Av (model prog w) A (DJ (.ref j)) Q E s:=by
 obtain⟨oj,gj,cj,dj⟩:=id st;obtain⟨ot,gt,_,nt,dt⟩:=sq;show Av _ _ (Jb _ _ >>= _) _ _ _;refine Aq (Fv st.typeIs DA (Hg DA st.typeIs WZ ?_ (WW _)));show Av _ _ (field (.ref j) 0 >>= _) _ _ _;refine Aq (Ck gj dj (x:=.ref t) rfl ?_);show Av _ _ (field (.ref j) 1 >>= _) _ _ _;refine Aq (Ck gj dj (x:=.int k 0) rfl ?_);refine Aq (Yd gt dt ?_);simp only[VN,at_];refine Aq (wpAny_rule (Aq (DV gj dj (by simp) ?_)))
 refine Aq ?_;simp only[newExc,newTuple];refine Aq (CG ?_ (by size_fits))
 refine Aq (m:=XY _ _) (HF (a:=.none) (by first|rfl|(simp only[XY];rfl)) (CG ?_ (by size_fits)))
 simp only[raiseNew];refine Aq (wpAny_handled ?_)
 first|rw[show A.in1.handled=Ae from calm]|rw[calm]
 exact Aq (AS (wpAny_throw (up _ _ (((W9 ..).extBut.push _).push _) ⟨_,AY _ rfl,rfl⟩)))
end
structure Dw (prog:AL) (w:AV) (A:AT) (j:Ak) (fp:Ac Ak) (n:Af) (P:Af->Aj->Prop) (S:Af->AF->Prop):Prop where
 frame:∀ i h h2,S i h->(∀ c∈fp,∀ o,h.get? c=Aa o->h2.get? c=Aa o)->S i h2
 item:∀ i (s:Ap) (Q:Vq) (E:Vq),i<n->S i s.heap->(∀ x h2 tk,P i x->S (i+1) h2->Ey j s.heap h2->Q x {s with heap:=h2,toks:=tk})->Av (model prog w) A (DJ (.ref j)) Q E s
 done:∀ i (s:Ap) (Q:Vq) (E:Vq),n<=i->S i s.heap->(∀ h2 e,W7 j s.heap h2->(∃ o,h2.get? e=Aa o/\o.cls=.type "StopIteration")->E (.ref e) {s with heap:=h2})->Av (model prog w) A (DJ (.ref j)) Q E s
def Gh(t:Am)(h:AF)(j l:Ak)(i:Af):Prop:=match t with
  |true=>h.IsTupleIter j l i
  |false=>h.IsListIter j l i
def Gy(t:Am)(h:AF)(l:Ak)(its:Ba Aj):Prop:=match t with
  |true=>h.IsTuple l its
  |false=>h.IsList l its
theorem Uu{A:AT}(calm:A.handled=Ae)(t:Am)(j l:Ak)(ne:l≠j)(its:Ba Aj):Dw prog w A j [j,l] its.size (λi v=>its[i]?=Aa v) (λi h=>Gh t h j l i/\Gy t h l its):=by
 cases t with
 |true=>exact⟨λ_ _ _ z k=>⟨z.1.at λo e=>k j (by simp) o e,z.2.at λo e=>k l (by simp) o e⟩,λi s Q E hi z q=>kJ z.1 z.2 (x:=its[i]) (by simp[hi]) λh2 z2 sb=>q _ h2 s.toks (by simp[hi]) ⟨z2,z.2.extBut sb.extBut ne⟩ sb,λi s Q E hi z q=>Zs calm z.1 z.2 (by simp[hi]) q⟩
 |false=>exact⟨λ_ _ _ z k=>⟨z.1.at λo e=>k j (by simp) o e,z.2.at λo e=>k l (by simp) o e⟩,λi s Q E hi z q=>wpAny_nextOf_list_item z.1 z.2 (x:=its[i]) (by simp[hi]) λh2 z2 sb=>q _ h2 s.toks (by simp[hi]) ⟨z2,z.2.extBut sb.extBut ne⟩ sb,λi s Q E hi z q=>wpAny_nextOf_list_end calm z.1 z.2 (by simp[hi]) q⟩
theorem nb2{I l c:Af}(b:l<I)(h:c∈[I+1,l]):c≠I/\c≠I+3/\c≠I+4:=by
 have h':c=I+1\/c=l:=by simpa using h
 omega
theorem ni0{I i:Af}(h:i≠0):I+i≠I:=by omega
section
variable{prog:AL}{w:AV}{A:AT}{E:Vq}{s:Ap}
end
def SqX(t:Am)(K:Fg)(H:Hp)(a:Ak)(xs:Ac V):Prop:=match t with
  |true=>SqT K H a xs
  |false=>SqL K H a xs
theorem O0(I:Inv X pI Y H s)(h:SqX t X.K H a xs):∃ its:Ac Aj,AX xs its/\Gy t s.heap a its.toArray/\xs.length<=sizeLine:=by
 cases t with
 |true=>
  obtain⟨its,rv,p,z⟩:=I.tuple h;exact⟨its,rv,p,z⟩
 |false=>
  obtain⟨its,rv,p,z⟩:=I.list h;exact⟨its,rv,p.isList,z⟩
theorem Zc(I:Inv X pI Y H s)(h:SqX t X.K H a xs)(h2:SqX t X.K H a ys):xs=ys:=by
 cases t with
 |true=>exact I.tuple_inj h h2
 |false=>exact I.list_inj h h2
theorem Inv.turnedL{t':Af}(ch:Ac Ak)(I:Inv X pI Y H s)(k:∀ b o,b∉ch->s.heap.get? b=Aa o->h'.get? b=Aa o)(hf:∀ b∈ch,Gz X pI H b):Inv X pI Y H {s with heap:=h',toks:=t'}:=by
 have nit:∀ b u,H b=Aa u->b∉ch:=λb u e z=>by rw[(hf b z).1]at e;cases e
 refine I.step (g':=s.gens) (d':=s.drawn) (ch:=ch) (λb hb=>⟨(hf b hb).2.2.2.1,(hf b hb).2.1,(hf b hb).2.2.2.2.1,(hf b hb).2.2.2.2.2⟩) (λb o _ _ hc e _=>k b o hc e) (λb o _ _ hc e _=>⟨o.slots,k b o hc e⟩) (λ_ _ _ _ n=>n)
  (λb o hc e=>⟨o,k b o hc e⟩) (λ_ _ e=>e) (λ_ _ _ e=>e) (λb ps e=>⟨#[],by rw[e];simp⟩) (λm ⟨o,es,ep,ho,r⟩=>⟨o,es,ep,k _ o (λz=>(hf _ z).2.1 rfl) ho,r⟩) (λb u e=>(I.hok b u e).stay (λc v hc q=>k c v ?_ q) (λ_ q=>q) λ_ _ q=>q) I.bare
 rcases hc with z|z
 .rw[z];exact nit b u e
 .exact nit c _ z
section
variable{prog:AL}{w:AV}{A:AT}{E:Vq}{s:Ap}
noncomputable def itO(t:Am)(l:Ak):CZ:=match t with
  |true=>{ cls:=.type "tuple_iterator",data:=.fields #[.ref l,.int 0 0] }
  |false=>{ cls:=.type "list_iterator",data:=.fields #[.ref l,.int 0 0] }
theorem Pl{its:Ba Aj}{Q:Vq}(h:Gy t s.heap l its)(q:Q (.ref s.heap.objs.size) {s with heap:=s.heap.push (itO t l)}):Av (model prog w) A (K6 (.ref l)) Q E s:=by
 cases t with
 |true=>exact GK h q
 |false=>exact FB h q
theorem Gy.push{its:Ba Aj}(z:Gy t h l its)(o:CZ):Gy t (h.push o) l its:=by
 cases t with
 |true=>exact PySem.Heap.IsTuple.at z λ_ e=>Au _ e
 |false=>exact PySem.Heap.IsList.at z λ_ e=>Au _ e
theorem nO{j:Ak}(e:h.get? j=Aa (itO t l)):Gh t h j l 0:=by
 cases t with
 |true=>exact⟨_,e,rfl,rfl⟩
 |false=>exact⟨_,e,rfl,rfl⟩
theorem aW(t:Am)(l:Ak):(itO t l).isFreed=Ad:=by cases t<;>rfl
end
theorem Gy.lt{its:Ba Aj}(z:Gy t h a its):a<h.objs.size:=by
 cases t with
 |true=>obtain⟨o,e,_⟩:=z;exact AJ e
 |false=>obtain⟨o,e,_⟩:=z;exact AJ e
theorem oZ{ds:Ac D}(r:Rep K CL H A v d)(e:Eo d=.ok ds):∃ t a xs,v=.ref a/\(∀ H2,Kp A H H2->SqX t K H2 a xs)/\Reps K CL H A xs ds:=by
 cases d with
 |lst es=>
  cases e;obtain⟨q,xs,rfl,na,sq,r⟩:=r;exact⟨Ad,q,xs,rfl,λH2 k=>MM k na sq,r⟩
 |tup es=>
  cases e;obtain⟨q,xs,rfl,na,sq,r⟩:=r;exact⟨Ab,q,xs,rfl,λH2 k=>ML k na sq,r⟩
 |_=>cases e
section
variable{X:Cx}{CL:ClA}{W:XW}{pos p:AC}{a b:An}{fa fb:Rho->R D}
end
theorem Gh.live{l:Af}(z:Gh t h j l i):∃ o,h.get? j=Aa o/\∀ v,o.data≠.cell v:=by
 cases t with
 |true=>obtain⟨o,e,c,d⟩:=z;exact⟨o,e,λv z=>by rw[d]at z;cases z⟩
 |false=>obtain⟨o,e,c,d⟩:=z;exact⟨o,e,λv z=>by rw[d]at z;cases z⟩
theorem Gh.keep{h2:AF}{l:Af}(z:Gh t h j l i)(k:∀ o,h.get? j=Aa o->h2.get? j=Aa o):Gh t h2 j l i:=by
 cases t with
 |true=>exact PySem.Heap.IsTupleIter.at z k
 |false=>exact PySem.Heap.IsListIter.at z k
theorem mX{A:AT}(calm:A.handled=Ae)(t:Am)(j l:Ak)(ne:l≠j)(its:Ba Aj):Draws prog w A j [j,l] its.size (λi v=>its[i]?=Aa v) (λi h=>Gh t h j l i/\Gy t h l its):=
 have d:=Uu (prog:=prog) (w:=w) calm t j l ne its
 ⟨λi h z=>let ⟨o,e,_⟩:=z.1.live;⟨o,e⟩,d.frame,d.item,λs Q E h q=>d.done _ s Q E (AK _) h q⟩
theorem iS{A:AT}(calm:A.handled=Ae)(t:Am)(j l:Ak)(ne:l≠j)(its:Ba Aj)(i:Af)(hi:its.size<=i):Draws prog w A j [j,l] i (λ_ _=>AW) (λk h=>k=i/\Gh t h j l i/\Gy t h l its):=
 have d:=Uu (prog:=prog) (w:=w) calm t j l ne its
 ⟨λ_ h z=>let ⟨o,e,_⟩:=z.2.1.live;⟨o,e⟩,λk h h' z q=>⟨z.1,d.frame i h h' z.2 q⟩,λk s Q E lt z=>absurd z.1 (Bh lt),λs Q E h q=>d.done i s Q E hi h.2 q⟩
noncomputable def Ite(K:Fg)(t:Am)(a:Ak):It:=
 ⟨λi H=>∃ xs x,SqX t K H a xs/\xs[i]?=Aa x,λi H v H'=>∃ p x,H p=Ae/\v=.ref p/\(∀ xs,SqX t K H a xs->xs[i]?=Aa x)/\H'=upd H p (.tup [.int i,x]),λi H=>∃ xs,SqX t K H a xs/\xs.length<=i⟩
def eTn(t:Am)(I l:Af)(i:Af)(h:AF):Prop:=(∃ old,IsEnum h (I+1) I i old)/\Gh t h I l i
theorem Y_6{P:AL}(t:Am)(I l:Af)(b:l<I):Turn P w K (.Tuple es n pos) (Ite K t l) [I,I+1] (I+1) (eTn t I l) where
  mem:=by simp
  obj:=λi h ⟨⟨old,z1⟩,z2⟩ c hc=>by
    simp only[AH,Ca,Et]at hc;rcases hc with rfl|rfl
    · exact z2.live
    · exact⟨_,z1,λv z=>by cases z⟩
  keep:=λi h h2 ⟨⟨old,z1⟩,z2⟩ k=>⟨⟨old,k _ (by simp) _ z1⟩,z2.keep λo e=>k _ (by simp) o e⟩
  item:=by
    intro X hP hw hK hc i pI s Y H E Iv hf ⟨⟨old,z1⟩,z2⟩ ⟨xs,x,q1,hx⟩;subst hP hw hK;obtain⟨us,rx,px,_⟩:=O0 Iv q1;obtain⟨u,hu,ru⟩:=rx.get hx;have lu:i<us.toArray.size:=by
      have:=(A1.mp hu).1;simpa using this
    refine wpAny_pyNext_enum_itemD (mX (A:=X.A.in1) (Iv.ok.hd hc) t I l (Bh b) us.toArray) z1 ⟨z2,px⟩ lu (ni0 (by decide)) (by simp only[AH,Ca,Et,GL];exact⟨ni0 (by decide),Ha (AO b (Nat.le_add_right _ _))⟩) λu' h2 tk hu' ho it2 hT sz kp=>⟨_,rfl,wpAny_letOwnedTupleGo_enum ho λh3 d1 sb=>?_⟩
    have eu:u'=u:=by
      rw[List.getElem?_toArray,hu]at hu';exact(Bg hu').symm
    subst eu;have lt:I+1<s.heap.objs.size:=AJ z1;have kp3:∀ c o,c∉[I,I+1]->s.heap.get? c=Aa o->h3.get? c=Aa o:=λc o nc q=>by
      simp only[AH,Ca,Et,GL]at nc;exact sb.extBut c o nc.2 (kp c o nc.2 nc.1 q)
    have nT:∀ c∈[I,I+1],c≠s.heap.objs.size:=λc hc z=>by
      have:c<=I+1:=by
        simp only[AH,Ca,Et]at hc;rcases hc with z|z<;>rw[z]<;>simp
      exact absurd (z ▸ Ed this lt) (Br _)
    have I1:Inv X pI Y (upd H s.heap.objs.size (.tup [.int i,x])) { s with heap:=s.heap.push { cls:=.type "tuple",data:=.seq #[.int i tk,u'] },toks:=s.toks }:=
      Iv.laid (λ_ _ q=>Au _ q) (AK _) ⟨(by decide:2<=sizeLine),[.int i tk,u'],.cons ⟨_,rfl⟩ (.cons ru .nil),⟨_,AY _ rfl,rfl,_,rfl⟩⟩
    have hf':∀ b∈[I,I+1],Gz X pI (upd H s.heap.objs.size (.tup [.int i,x])) b:=λb hb=>⟨by rw[Be (nT b hb)];exact(hf b hb).1,(hf b hb).2⟩
    have I2:Inv X pI Y (upd H s.heap.objs.size (.tup [.int i,x])) {s with heap:=h3,toks:=tk+1}:=Inv.turnedL (s:={ s with heap:=s.heap.push { cls:=.type "tuple",data:=.seq #[.int i tk,u'] },toks:=s.toks }) [I,I+1] I1 (λc o nc q=>by
      rcases Heap.get?_push_cases q with ⟨e1,e2⟩|e1
      · subst e1 e2;exact sb.extBut _ _ (Ha lt) hT
      · exact kp3 c o nc e1) hf'
    exact⟨.ref s.heap.objs.size,_,I2,rfl,⟨s.heap.objs.size,x,Iv.fresh,rfl,λzs hz=>by rw[Zc Iv hz q1];exact hx,rfl⟩,⟨⟨u',by simpa using d1⟩,it2.1.keep λo q=>sb.extBut _ o (CB (ni0 (by decide))) q⟩,λb hb=>(hf' b hb).1⟩
  done:=by
    intro X hP hw hK hc i pI s Y H E Iv hf ⟨⟨old,z1⟩,z2⟩ ⟨xs,q1,hk⟩;subst hP hw hK;obtain⟨us,rx,px,_⟩:=O0 Iv q1;have e1:=rx.length;have e2:us.toArray.size<=i:=by rw[AM,<-e1];exact hk
    refine wpAny_pyNext_enum_endD (iS (A:=X.A.in1) (Iv.ok.hd hc) t I l (Bh b) us.toArray i e2) z1 ⟨rfl,z2,px⟩ λh2 eb=>⟨rfl,Inv.turnedL [I] Iv (t':=s.toks) (λc o nc q=>eb c o (λz=>nc (by simp[z])) q) λc hc=>hf c ?_⟩
    have:c=I:=by simpa using hc
    subst this;simp
  self:=λ_ _ _ _ _ st h=>Yc st.1.choose_spec h
section
variable{prog:AL}{w:AV}{A:AT}{E:Vq}{s:Ap}
theorem aK(t:Am)(l:Ak)(xs:Ba Aj):Meets (Builtin.«enumerate.__new__» ⟨[.type "enumerate",.ref l],[]⟩) (λ_ R s=>Gy t s.heap l xs /\
   R (.ok (.ret (.ref (s.heap.push (itO t l)).objs.size))) { s with heap:=(s.heap.push (itO t l)).push { cls:=.type "enumerate",data:=.fields #[.none,.bool Ad,.ref s.heap.objs.size,D2 0,.none,.none] } }):=
 .of_wp λprog w A R s h=>by
  obtain⟨hp,g,d,tk,os⟩:=s;obtain⟨hl,h⟩:=h;have hsub:=sub_enumerate;have hL:Gy t (Shared.heap ⟨hp,g,d,tk,os⟩) l xs:=hl
  wp_walk
  refine wpAny_stack_any λst=>AS ?_
  split
  .rename_i c _ _ _ _ _;cases (c==J6 "enumerate")
   .wp_walk using Pl hL
    exact⟨_,rfl,h⟩
   .wp_walk using Pl hL
    exact⟨_,rfl,h⟩
  .wp_walk using Pl hL
   exact⟨_,rfl,h⟩
theorem Z_8{xs:Ba Aj}{Q:Vq}(hL:Gy t s.heap l xs)(h:∀ h',IsEnum h' (s.heap.objs.size+1) s.heap.objs.size 0 .none->Gh t h' s.heap.objs.size l 0->(∀ b o,s.heap.get? b=Aa o->h'.get? b=Aa o)->Q (.ref (s.heap.objs.size+1)) {s with heap:=h'}):
    Av (model prog w) A (call (.type "enumerate") [.ref l]) Q E s:=by
  refine callType_new F.called_enumerate (by decide) (F.typeCall_enumerate_1 _) (F.newCall_enumerate_1 _) (λobj=>F.args_object_init_2 obj _) F.entry_enumerate_new (aK t l xs) ⟨hL,?_⟩
  have hz:(s.heap.push (itO t l)).objs.size=s.heap.objs.size+1:=Dm ..;show _/\_;rw[hz];have he:IsEnum ((s.heap.push (itO t l)).push { cls:=.type "enumerate",data:=.fields #[.none,.bool Ad,.ref s.heap.objs.size,D2 0,.none,.none] }) (s.heap.objs.size+1) s.heap.objs.size 0 .none:=by
    have:=AY (s.heap.push (itO t l)) (o:={ cls:=.type "enumerate",data:=.fields #[.none,.bool Ad,.ref s.heap.objs.size,D2 0,.none,.none] }) rfl;rw[hz]at this;exact this
  exact⟨⟨_,he,rfl⟩,h _ he (nO (Au _ (AY _ (aW _ _)))) λb o x=>Au _ (Au _ x)⟩
end
def Yv(K:Fg)(ta:TA):TI:=λY H R=>ta Y H λvs H1=>∃ t a xs,vs=[.ref a]/\SqX t K H1 a xs/\(xs.length<=sizeLine->R (Ite K t a) H1)
theorem Sy{a:An}{ta:TA}(hg:Gl X "enumerate")(hm:X.mg "enumerate" = Ae)(ha:PA X [a] ta)(hs:As [a] X.env=[(Ad,eval a X.env)]):
  PI X (.Tuple es n tpos) (.Call (.Name "enumerate" p) [a] [] pos) (Yv X.K ta):=by
 intro pI s Y H R I h;refine Call_ (Kt I hg hm PyProof.Rows.boot_enumerate (Dp (thn (ha pos pI s Y H _ I h) λus s1 ⟨vs,H1,I1,r1,q1⟩=>?_) hs rfl))
 obtain⟨t,c,xs,e,sx,q⟩:=q1;subst e;cases r1 with
 |cons r rr=>
  cases rr;cases r;obtain⟨us,ru,pu,zu⟩:=O0 I1 sx;refine Z_8 pu λh2 z1 z2 kp=>Yc z1 ?_
  refine⟨s1.heap.objs.size+1,[s1.heap.objs.size,s1.heap.objs.size+1],_,_,H1,rfl,I1.kept (t':=s1.toks) kp,Y_6 t s1.heap.objs.size c pu.lt,⟨⟨_,z1⟩,z2⟩,λb hb=>?_,q zu⟩
  have hb':s1.heap.objs.size<=b:=by
   simp only[AH,Ca,Et]at hb;rcases hb with z|z<;>rw[z]<;>simp
  exact I1.fpOk hb' (I1.hok.fresh hb')
theorem Mq:∀(j:Ah)(xs:Ac D),(CF j xs).length=xs.length
 |_,[]=>rfl
 |j,x::xs=>by rw[CF,A2,Mq,A2]
theorem Of:∀(xs:Ac D)(j:Ah)(i:Af)(d:D),(CF j xs)[i]?=Aa d->∃ x,xs[i]?=Aa x/\d=.tup [.int (j+i),x]
 |[],j,i,d,h=>by simp[CF]at h
 |x::xs,j,0,d,h=>by
  rw[CF]at h;simp only[List.getElem?_cons_zero,Option.some.injEq]at h;exact⟨x,rfl,by rw[<-h];simp⟩
 |x::xs,j,i+1,d,h=>by
  rw[CF]at h;simp only[List.getElem?_cons_succ]at h ⊢;obtain⟨y,h1,h2⟩:=Of xs (j+1) i d h;exact⟨y,h1,by rw[h2];congr 3;omega⟩
theorem Y_1{ds:Ac D}(sq:∀ H2,Kp A H1 H2->SqX t K H2 a xs)(r1:Reps K CL H1 A xs ds):IK K CL A (CF 0 ds) (Ite K t a) H1:=λH k i=>by
 have s1:=sq H k;refine⟨λhi=>⟨xs,s1,?_⟩,λd hd=>?_⟩
 .rw[Mq]at hi;rw[r1.length];exact hi
 .obtain⟨x,hx,rfl⟩:=Of _ _ _ _ hd;obtain⟨u,hu,ru⟩:=r1.get hx;refine⟨⟨xs,u,s1,hu⟩,?_⟩;rintro w' H' ⟨p,x',hp,rfl,c1,rfl⟩;have ex:x'=u:=Bg ((c1 xs s1).symm.trans hu);subst ex;rw[IT];exact⟨EL hp (.tup [.int i,x']),λB hB aB=>Km aB hp ⟨rfl,Oa ru k hB,trivial⟩⟩
section
variable{X:Cx}{CL:ClA}{W:XW}{pos p:AC}{a:An}{fa:Rho->R D}
theorem dN(ha:SE X CL W a fa)(hg:Gl X "enumerate")(hm:X.mg "enumerate" = Ae)(hs:As [a] X.env=[(Ad,eval a X.env)]):
  SI X CL W (.Tuple es n tpos) (.Call (.Name "enumerate" p) [a] [] pos) (λU=>(fa U).bind λx=>(Eo x).bind λxs=>.ok (CF 0 xs)):=
 λA=>PI.weak (Sy hg hm (DN (ha A) Fj hs) hs) λY H R ⟨hA,U,g,q⟩=>⟨hA,U,g,EM.ex q λd v H1 _ s1 r1 p1=>by
  cases e1:Eo d with
  |bad=>rw[e1]at p1;exact p1.elim
  |exn z=>exact absurd e1 (by cases d<;>simp[Eo])
  |ok ds=>
   rw[e1]at p1;obtain⟨t,c,xs,rfl,k1,rs⟩:=oZ r1 e1;exact⟨t,c,xs,rfl,k1 H1 (Kp.of (Az.refl H1)),λhz=>p1 _ H1 (Az.refl H1) (Y_1 k1 rs) (by rw[Mq,<-rs.length];exact hz)⟩⟩
end
noncomputable abbrev Vo(h:AF)(z TI TO:Ak)(f0 f1:Aj):Prop:=h.get? z=Aa { cls:=.type "zip",dict:=Ae,data:=.fields #[f0,f1,.bool Ad,.ref TI,.ref TO],slots:=#[] }
noncomputable abbrev Vp(h:AF)(T:Ak)(a b c:Aj):Prop:=h.get? T=Aa { cls:=.type "tuple",data:=.seq #[a,b,c] }
section
variable{prog:AL}{w:AV}{A:AT}{E:Vq}{s:Ap}
def Z_3(t1 t2 t3:Am)(I l1 l2 l3 i:Af)(h:AF):Prop:=Vp h (I+3) (.ref (I+0)) (.ref (I+1)) (.ref (I+2))/\Gh t1 h (I+0) l1 i/\Gh t2 h (I+1) l2 i/\Gh t3 h (I+2) l3 i/\(∃ a b c,Vp h (I+4) a b c) /\
 (Vo h (I+5) (I+3) (I+4) .none (.bool Ad)\/∃(T1:Af)(f1:Am),Vo h (I+5) (I+3) (I+4) (D2 T1) (.bool f1))
end
section
variable{prog:AL}{w:AV}{A:AT}{R:He->Ap->Prop}
end
section
variable{prog:AL}{w:AV}{A:AT}{E:Vq}{s:Ap}
end
theorem Z_3.ty{t1 t2 t3:Am}{I l1 l2 l3 i:Af}(z:Z_3 t1 t2 t3 I l1 l2 l3 i s.heap):s.TypeIs (.ref (I+5)) "zip" := by
 obtain⟨_,_,_,_,_,hz|⟨_,_,hz⟩⟩:=z
 .exact⟨_,hz,rfl⟩
 .exact⟨_,hz,rfl⟩
theorem Z_3.lt{t1 t2 t3:Am}{I l1 l2 l3 i:Af}(z:Z_3 t1 t2 t3 I l1 l2 l3 i s.heap):I+5<s.heap.objs.size:=by
 obtain⟨o,h,_⟩:=z.ty;exact AJ h
section
variable{prog:AL}{w:AV}{A:AT}{E:Vq}{s:Ap}
end
section
variable{X:Cx}{CL:ClA}{W:XW}{pos p pos' p':AC}{a b c:An}{fa fb fc:Rho->R D}
end
section
variable{X:Cx}{CL:ClA}{W:XW}{pos p tpos:AC}{a b c:An}{fa fb fc:Rho->R D}{x:Ag}
end
section
variable{X:Cx}{CL:ClA}{W:XW}{a:An}{fa:Rho->R D}
end
section
variable{X:Cx}{CL:ClA}{W:XW}{o o' e:An}{fe:Rho->R D}{i j:Af}{apos cpos apos' cpos' pos:AC}
end
section
variable{X:Cx}{CL:ClA}{W:XW}
theorem oP(I:Inv X pI Y H s){ds:Ac D}(B:AT)(hd:flD n d=Ab)(hs:ds.all (flD n)=Ab)(r:Reps X.K CL H A0 xs ds)(rv:AX xs its)(q:Rep X.K CL H A0 v d)(qv:Bp v u)(hu:B.units+n<Bz):∃ e:Aj->Am,(∀ y,y∈its.toArray->Ef B s y u (e y))/\∀ j (h:j<its.length),e its[j]=eqD (ds.getD j .non) d:=by
 have l1:=rv.length;have l2:=r.length
 have key:∀ y,y∈its->∃ k:Am,Ef B s y u k/\∀ j (h:j<its.length),its[j]=y->eqD (ds.getD j .non) d=k:=λy hy=>by
  obtain⟨j,hj,rfl⟩:=EY hy;obtain⟨x,rx,qx⟩:=Ix r rv hj;refine⟨eqD (ds.getD j .non) d,(Kv I n _ _ x v _ _ B (HJ hs j) hd rx q qx qv hu).2.1,λj' hj' e=>?_⟩
  obtain⟨x',rx',qx'⟩:=Ix r rv hj';rw[e]at qx';have z:=Bp.inj qx qx';subst z;rw[Lr I n _ _ (HJ hs j') (HJ hs j) rx' rx]
 have key2:∀ y,∃ k:Am,y∈its->Ef B s y u k/\∀ j (h:j<its.length),its[j]=y->eqD (ds.getD j .non) d=k:=λy=>by
  by_cases hy:y∈its
  .obtain⟨k,hk⟩:=key y hy;exact⟨k,λ_=>hk⟩
  .exact⟨Ab,λh=>absurd h hy⟩
 exact⟨λy=>G6 (key2 y),λy hy=>(C7 (key2 y) (by simpa using hy)).1,λj hj=>((C7 (key2 its[j]) (Dk _)).2 j hj rfl).symm⟩
end
section
variable{X:Cx}
variable{CL:ClA}{W:XW}{pos p pos' p':AC}{a b:An}{fa fb:Rho->R D}
end
section
variable{X:Cx}{CL:ClA}{W:XW}{e o o' k l:An}{fe:Rho->R Ov.D}{i ik il:Af}{pos spos spos' tpos:AC}{kt:Af}
end
section
variable{prog:AL}{w:AV}{A:AT}{E:Vq}{s:Ap}
end
section
variable{X:Cx}{pos:AC}{CL:ClA}
end
section
variable{X:Cx}{CL:ClA}{W:XW}
end
end Ov
namespace Ov
open PySem PySem.W PyProof.Rows
variable{p:Ba Af}{m:Af}
def Kr{α:Type}(lt:Af->Af->Am)(n:Af):KasT α->(α->Prop)->Prop
 |.ret a,Q=>Q a
 |.ask i j k,Q=>i<n/\j<n/\Kr lt n (k (lt i j)) Q
theorem Kr.mono{α:Type}{lt:Af->Af->Am}{n:Af}{Q Q':α->Prop}:∀{t:KasT α},Kr lt n t Q->(∀ a,Q a->Q' a)->Kr lt n t Q'
 |.ret _,h,k=>k _ h
 |.ask i j f,h,k=>⟨h.1,h.2.1,Kr.mono (t:=f (lt i j)) h.2.2 k⟩
theorem Kr.bind{α β:Type}{lt:Af->Af->Am}{n:Af}{f:α->KasT β}{Q:β->Prop}:∀{t:KasT α},Kr lt n t (λa=>Kr lt n (f a) Q)->Kr lt n (t.bind f) Q
 |.ret _,h=>h
 |.ask i j k,h=>⟨h.1,h.2.1,Kr.bind (t:=k (lt i j)) h.2.2⟩
structure Sto (lt:Af->Af->Am) (n:Af):Prop where
 tr:∀ i j k,i<n->j<n->k<n->lt i j=Ab->lt j k=Ab->lt i k=Ab
 tot:∀ i j,i<n->j<n->i≠j->lt i j=Ad->lt j i=Ab
 asy:∀ i j,i<n->j<n->lt i j=Ab->lt j i=Ad
noncomputable def at0(p:Ba Af)(x:Af):Af:=p.getD x 0
structure Pm (n:Af) (p:Ba Af):Prop where
 sz:p.size=n
 lt:∀ x,x<n->at0 p x<n
 inj:∀ x y,x<n->y<n->at0 p x=at0 p y->x=y
section
variable{lt:Af->Af->Am}{n:Af}
def Ql(lt:Af->Af->Am)(p:Ba Af)(m:Af):Prop:=∀ x y,x<y->y<m->lt (at0 p x) (at0 p y)=Ab
def Qn(lt:Af->Af->Am)(p:Ba Af)(m:Af):Prop:=∀ x y,x<y->y<m->lt (at0 p y) (at0 p x)=Ab
theorem Ql.succ(S:Sto lt n)(hp:Pm n p)(h1:1<=m)(hm:m<n)(h:Ql lt p m)(e:lt (at0 p (m-1)) (at0 p m)=Ab):Ql lt p (m+1):=λx y hxy hy=>by
 by_cases hym:y<m
 .exact h x y hxy hym
 .have:y=m:=by omega
  subst this;by_cases hx:x=y-1
  .rw[hx];exact e
  .exact S.tr _ _ _ (hp.lt _ (by omega)) (hp.lt _ (by omega)) (hp.lt _ hm) (h x (y-1) (by omega) (by omega)) e
theorem Qn.succ(S:Sto lt n)(hp:Pm n p)(h1:1<=m)(hm:m<n)(h:Qn lt p m)(e:lt (at0 p m) (at0 p (m-1))=Ab):Qn lt p (m+1):=λx y hxy hy=>by
 by_cases hym:y<m
 .exact h x y hxy hym
 .have:y=m:=by omega
  subst this;by_cases hx:x=y-1
  .rw[hx];exact e
  .exact S.tr _ _ _ (hp.lt _ hm) (hp.lt _ (by omega)) (hp.lt _ (by omega)) e (h x (y-1) (by omega) (by omega))
end
section
variable{prog:AL}{w:AV}{A:AT}{E:Vq}{κ:SortKind}{it:Ba Keyed}
end
section
variable{lt:Af->Af->Am}{n:Af}
end
def OM(h:AF)(v:Aj)(r:Ac Ah):Prop:=∃ a its,v=.ref a/\JZ h a its/\HX its.toList r/\r≠[]
theorem OM.kept{h h':AF}{v:Aj}{r:Ac Ah}(t:OM h v r)(k:∀ b o,h.get? b=Aa o->h'.get? b=Aa o):OM h' v r:=by
 obtain⟨a,its,e,⟨o,ho,q⟩,i,n⟩:=t;exact⟨a,its,e,⟨o,k _ _ ho,q⟩,i,n⟩
section
variable{prog:AL}{w:AV}{A:AT}{E:Vq}{s:Ap}
end
end Ov
section
namespace Ov
open PySem PySem.Spec PyProof.Rows L2
section
variable{X:Cx}{CL:ClA}{W:XW}
end
end Ov
end
section
namespace Ov
open PySem PySem.Spec PyProof.Rows
section
variable{t:SetTable}{hashAt:Af->Ah}{h:Ah}
noncomputable def stand(i b:Af):SetTable.Probe:=⟨i,0,i,b,Ae⟩
end
section
variable{prog:AL}{w:AV}{A:AT}{E:Vq}{s:Ap}{K:Type} [DecidableEq K] {knd:KeyKind prog w K}
end
section
variable{prog:AL}{w:AV}{A:AT}{R:He->Ap->Prop}{I:Ak}{fp wr:Ac Ak}{G:Ba El->Ba El->Prop}{n:Af}{P:Af->Aj->Prop}{St:Af->Ap->Prop}
end
section
variable{prog:AL}{w:AV}{A:AT}{E:Vq}{s:Ap}
end
end Ov
end
namespace Ov
open PySem PySem.Spec PyProof.Rows L2
variable{h h':AF}{P:AL}{w:AV}{H H':Hp}{oe:CZ}{vs:Ba Aj}{Q:DC->Ap->Prop}{T' C C' OV:Ak}{a0 fv:Aj}{X:Cx}{pI pl:Pn}{Y Y0:L2.St}{K:Fg}{x g z par name qual q x0:Ag}{v:Ao Aj}{M:F9}{tk:Ct}{fill expr:Am}{φ:AF->Prop}{CL:ClA}{Fz:Fr}{B A A':Ak->Prop}{U:Rho}{W:XW}{hs body:Ac AI}{h0:AI}{p1 pos p pos' p2 p3 apos cpos:AC}{dx od an:Ao Ak}{up:Af->Ac Af}{CX:CXT}{k c kk:Af}{fd:Bx}{ps N':Ac Ag}{Xw:Vq}{xn:Af->Ac D->R Ex}{d d1 d2 d':D}{Rp:Hp->V->D->Prop}{ev tg elt:An}{fy fo fe:Rho->R D}{Z:Gam}{scope:BG}{ts:Ac Af}{F:An->Ac AI->Ac AI->Am}{α:Type}{env:Cb}{as:Es}{xs ys:Ac An}{u:DC}{osl:Ba (Ao Aj)}
section
variable{X:Cx}
def Nq(K:Fg)(H:Hp):Ac V->Ac (Ac Ah)->Prop
 |[],[]=>Hi
 |x::xs,k::ks=>(∃ b,x=.ref b/\SqT K H b (k.map V.int))/\Nq K H xs ks
 |_,_=>AW
theorem Nq.length{K:Fg}{H:Hp}:∀{xs:Ac V}{ks:Ac (Ac Ah)},Nq K H xs ks->xs.length=ks.length
 |[],[],_=>rfl
 |_::_,_::_,h=>congrArg (· + 1) (Nq.length h.2)
 |[],_::_,h=>h.elim
 |_::_,[],h=>h.elim
variable{CL:ClA}{W:XW}{pos p pos' p':AC}{a:An}{fa:Rho->R D}
end
section
end
section
variable{X:Cx}
variable{CL:ClA}{W:XW}{o e:An}{fe:Rho->R D}{i:Af}{apos cpos pos:AC}
end
section
open PySem.AutoSeq1 (wpAny_loadPart')
end
section
variable{prog:AL}{w:AV}{A:AT}{R:He->Ap->Prop}{I S T:Ak}{u v:Aj}{c:Af}{P:Af->Aj->Prop}{St:Af->AF->Prop}{s:Ap}{r q:Ac Ah}
end
section
variable{X:Cx}{CL:ClA}{W:XW}
end
def Hu(e T:Ak)(cls:Aj)(dx:Ao Ak)(fl:Aj)(h:AF):Prop:=∃ oe vs oT ts a0,h.get? e=Aa oe/\oe.cls=cls/\oe.dict=dx/\vs[0]?=Aa a0/\oe.data=.fields vs/\vs[1]?=Aa (.ref T)/\T≠e/\h.get? T=Aa oT/\oT.data=.fields ts/\ts[3]?=Aa fl
noncomputable abbrev Fly(e T:Ak)(cls:Aj)(dx:Ao Ak)(h:AF):Prop:=Hu e T cls dx Cy h
noncomputable def FW(C:Ak)(dx:Ao Ak)(t:Ak):CZ:={cls:=.ref C,dict:=dx,data:=.fields #[.ref t,.none,.none,.none,.bool Ad,.none]}
structure Shift (ex fs:Ac Ak) (h h':AF):Prop where
 keep:∀ b o,h.get? b=Aa o->b∉ex->b∉fs->h'.get? b=Aa o
 slot:∀ b o,h.get? b=Aa o->b∈fs->∃ sl,h'.get? b=Aa {o with slots:=sl}
theorem Shift.trans{ex fs:Ac Ak}{h1 h2:AF}(a:Shift ex fs h h1)(b:Shift ex fs h1 h2):Shift ex fs h h2:=
 ⟨λc o q n m=>b.keep c o (a.keep c o q n m) n m,λc o q m=>by
  obtain⟨sl,e1⟩:=a.slot c o q m;obtain⟨sl',e2⟩:=b.slot c _ e1 m;exact⟨sl',e2⟩⟩
theorem ObjOk.isThere{a:Ak}:∀(o:HO),L2.ObjOk P w H h a o->∃ ob,h.get? a=Aa ob
 |.lst _,x=>by obtain⟨_,_,_,_,e⟩:=x;exact⟨_,e⟩
 |.tup _,x=>by obtain⟨_,_,_,p⟩:=x;obtain⟨o,e,_⟩:=p;exact⟨_,e⟩
 |.dK _,x=>by obtain⟨_,_,_,_,o,_,_,e,_⟩:=x;exact⟨_,e⟩
 |.dT _,x=>by obtain⟨_,_,_,_,o,_,_,e,_⟩:=x;exact⟨_,e⟩
 |.set _ _,x=>by obtain⟨o,_,_,_,e,_⟩:=x;exact⟨_,e⟩
 |.ins _ _ _,x=>by obtain⟨_,_,_,e,_⟩:=x;exact⟨_,e⟩
 |.own _,x=>x
 |.xd _,x=>by obtain⟨_,⟨_,_,_,e,_⟩,_⟩:=x;exact⟨_,e⟩
 |.met _ _,x=>⟨_,x⟩
 |.rng _ _,x=>by obtain⟨_,_,_,e⟩:=x;exact⟨_,e⟩
 |.frz _ _,x=>⟨_,x.1⟩
 |.tbl _,x=>⟨_,x⟩
 |.ext _,x=>x.2.1
theorem HI{a:Ak}(x:HOk P w H h)(e:h.get? a=Ae):H a=Ae:=by
 cases q:H a with
 |none=>rfl
 |some o=>
  obtain⟨ob,z⟩:=ObjOk.isThere o (x a o q);rw[e]at z;cases z
theorem HOk.shift{ex fs:Ac Ak}(x:HOk P w H h)(sh:Shift ex fs h h')(h1:∀ b∈ex,H b=Ae)(h2:∀ b∈fs,H b=Ae):HOk P w H h':=λa o e=>
 (x a o e).stay (λb u hb q=>by
  have hs:∃ v,H b=Aa v:=by
   rcases hb with rfl|hb
   .exact⟨_,e⟩
   .exact⟨_,hb⟩
  obtain⟨v,hv⟩:=hs;exact sh.keep b u q (λz=>by rw[h1 b z]at hv;cases hv) (λz=>by rw[h2 b z]at hv;cases hv)) (λ_ q=>q) λ_ _ q=>q
theorem Un.shift{fs0 fs ex:Ac Ak}{h0:AF}(u:Un fs0 [] H H' h0 h)(sh:Shift ex fs h h')(h1:∀ b∈ex,h0.get? b=Ae)(h2:∀ b∈fs,b∈fs0\/h0.get? b=Ae):Un fs0 [] H H' h0 h' where
 keep:=λb o q n hb hx=>sh.keep b o (u.keep b o q n hb hx) (λz=>by rw[h1 b z]at q;cases q) λz=>(h2 b z).elim hb λe=>by rw[e]at q;cases q
 slot:=λb o q n hb hx=>by
  obtain⟨sl,e1⟩:=u.slot b o q n hb hx;by_cases hf:b∈fs
  .obtain⟨sl',e2⟩:=sh.slot b _ e1 hf;exact⟨sl',e2⟩
  .exact⟨sl,sh.keep b _ e1 (λz=>by rw[h1 b z]at q;cases q) hf⟩
 free:=u.free
 there:=λb o q hx=>by
  obtain⟨o',e1⟩:=u.there b o q hx;by_cases hf:b∈fs
  .obtain⟨sl',e2⟩:=sh.slot b _ e1 hf;exact⟨_,e2⟩
  .exact⟨o',sh.keep b _ e1 (λz=>by rw[h1 b z]at q;cases q) hf⟩
 tups:=u.tups
 frzs:=u.frzs
 tbls:=u.tbls
theorem iT(f:Ba Aj->Ba Aj)(o:CZ):(EU f o).dict=o.dict:=by
 obtain⟨c,d,dt,sl⟩:=o;cases dt<;>rfl
section
variable{M:F9}{A:AT}{E:Vq}{s:Ap}{env:Cb}{outer:Ac Cb}{L e T:Ak}{cls:Aj}{dx:Ao Ak}{base h:AF}
theorem Oc{hd:Aj}{nx:Am}(hfr:A.frames=Aa (env::outer))(hf:env.frame=Aa L)(ff:s.heap.FunFrames base (env::outer))(he:s.heap.get? e=Aa oe)(dt:oe.data=.fields vs)(hz:1<vs.size)(hQ:∀ h' T' oT ts,h'.get? e=Aa (EU (·.setIfInBounds 1 (.ref T')) oe)->T'≠e->s.heap.get? T'=Ae->h'.get? T'=Aa oT->oT.data=.fields ts->ts[3]?=Aa (D2 L)->Shift [e] (frs (env::outer)) s.heap h'->Q () {s with heap:=h'}):
  Av M A (do
   let fr <-frameOf env
   let pl <-entryPlaceOf L nx
   let en <-Wt hd fr .none (D2 L) .none pl
   setField (.ref e) 1 en) Q E s:=by
 have nf:e∉frs (env::outer):=λz=>by
  obtain⟨_,o,q,n⟩:=ff.mem z;rw[he]at q;cases q;exact n vs dt
 refine Aq (wpAny_frameOf_fun hfr ff hf λk1 so=>Aq (wpAny_entryPlaceOf λpl ip=>?_))
 obtain⟨sz,sm,sl⟩:=so;have e1:k1.get? e=Aa oe:=(sm e nf).trans he;unfold Wt;unfold newFields;refine Aq (CG ?_ (ip.sizeOk5 _ _ _ _ _));generalize hX:({ cls:=.type "traceback",dict:=Ae,data:=.fields ([hd,.ref L,.none,D2 L,.none]++(if pl.isEmpty then Gq 6 Cy else pl)).toArray }:CZ)=ob
 have od:ob.data=.fields ([hd,.ref L,.none,D2 L,.none]++(if pl.isEmpty then Gq 6 Cy else pl)).toArray:=by rw[<-hX]
 have nl:k1.objs.size≠e:=Ha (AJ e1);have e2:=Au ob e1;refine DV e2 dt hz ?_;have up:∀ b,b≠e->((k1.push ob).update e (EU (·.setIfInBounds 1 (.ref k1.objs.size)))).get? b=(k1.push ob).get? b:=λb nb=>BO _ _ (CB nb)
 have lf:ob.isFreed=Ad:=by rw[<-hX];rfl
 refine hQ _ k1.objs.size ob _ (Cj _ e2 (C9 (B5 dt _))) nl ?_ ((up _ nl).trans (AY k1 lf)) od ?_ ⟨λb o q n1 n2=>?_,λb o q hb=>?_⟩
 .rw[sz];exact CC (AK _)
 .simp
 .have nb:b≠e:=λz=>n1 (by rw[z];exact AE)
  rw[up b nb];exact Au ob ((sm b n2).trans q)
 .obtain⟨sl',q'⟩:=sl b o q;have nb:b≠e:=λz=>nf (z ▸ hb)
  exact⟨sl',(up b nb).trans (Au ob q')⟩
theorem N4{oT:CZ}{ts:Ba Aj}{fl:Aj}(hc:oe.cls=cls)(hx:oe.dict=dx)(h0:vs[0]?=Aa a0)(dt:oe.data=.fields vs)(hz:1<vs.size)(g:h'.get? e=Aa (EU (·.setIfInBounds 1 (.ref T')) oe))(ne:T'≠e)(gT:h'.get? T'=Aa oT)(dT:oT.data=.fields ts)(f3:ts[3]?=Aa fl):Hu e T' cls dx fl h':=
 ⟨_,_,oT,ts,a0,g,(Xc _ _).trans hc,(iT _ _).trans hx,by rw[Array.getElem?_setIfInBounds_ne (by decide)];exact h0,B5 dt _,by simp[hz],ne,gT,dT,f3⟩
theorem HG{i:Af}{v:Aj}(q:vs[i]?=Aa v):i<vs.size:=(ER.mp q).1
theorem Od(hfr:A.frames=Aa (env::outer))(hf:env.frame=Aa L)(ff:s.heap.FunFrames base (env::outer))(fl:Fly e T cls dx s.heap)(hQ:∀ h' T',Hu e T' cls dx (D2 L) h'->Shift [e,T] (frs (env::outer)) s.heap h'->s.heap.get? T'=Ae->Q () {s with heap:=h'}):Av M A (DR (.ref e) env) Q E s:=by
 obtain⟨oe,vs,oT,ts,a0,he,hc,hx,h0,dt,h1,ne,hT,dT,h3⟩:=fl;have z3:=HG h3;unfold DR;simp only[hf];refine Aq (Ck he dt h1 ?_);rw[At (by simp:(Bf T != Cy)=Ab)]
 refine Aq (Ck hT dT h3 ?_);rw[AA (by simp[D2]:¬ (Cy==D2 L)=Ab)]
 refine Aq (DV hT dT z3 ?_);have up:∀ b,b≠T->(s.heap.update T (EU (·.setIfInBounds 3 Cy))).get? b=s.heap.get? b:=λb nb=>BO _ _ (CB nb)
 have rcd:∀ b o,s.heap.get? b=Aa o->(∀ us,o.data≠.fields us)->b≠T:=λb o q n z=>by
  rw[z,hT]at q;cases q;exact n ts dT
 refine Oc (base:=base) hfr hf (ff.of_keeps λb o q n=>⟨o,(up b (rcd b o q n)).trans q,rfl⟩) ((up e (CB ne)).trans he) dt (HG h1) λh' T' oT' ts' g nT gn gT dT' f3 sh=>?_
 have T0:s.heap.get? T'=Ae:=by
  by_cases z:T'=T
  .rw[z]at gn;rw[Cj _ hT (C9 (B5 dT _))]at gn;cases gn
  .rw[<-up T' z];exact gn
 refine hQ h' T' (N4 hc hx h0 dt (HG h1) g nT gT dT' f3) ⟨λb o q n1 n2=>?_,λb o q hb=>?_⟩ T0
 .simp only[AH,Ca,Et,GL]at n1;exact sh.keep b o ((up b n1.2).trans q) (by simp[n1.1]) n2
 .obtain⟨_,o',q',n⟩:=ff.mem hb;rw[q]at q';cases q';exact sh.slot b o ((up b (rcd b o q n)).trans q) hb
theorem Lo(fl:Hu e T cls dx fv s.heap)(hQ:∀ h',Fly e T cls dx h'->(∀ b o,b≠T->s.heap.get? b=Aa o->h'.get? b=Aa o)->Q () {s with heap:=h'}):Av M A (F3 (.ref e) Ae) Q E s:=by
 obtain⟨oe,vs,oT,ts,a0,he,hc,hx,h0,dt,h1,ne,hT,dT,h3⟩:=fl;have z3:=HG h3;unfold F3;refine Aq (Ck he dt h1 ?_);rw[At (by simp:(Bf T != Cy)=Ab)]
 refine DV hT dT z3 (hQ _ ?_ λb o nb q=>(BO _ _ (CB nb)).trans q)
 exact⟨oe,vs,_,_,a0,(BO _ _ ne).trans he,hc,hx,h0,dt,h1,ne,Cj _ hT (C9 (B5 dT _)),B5 dT _,by simp[z3]⟩
theorem Ml{h1 h2:AF}{ex:Ac Ak}(ff:s.heap.FunFrames base (env::outer))(sh:Shift ex (frs (env::outer)) s.heap h1)(hT:s.heap.get? T'=Ae)(k:∀ b o,b≠T'->h1.get? b=Aa o->h2.get? b=Aa o):Shift ex (frs (env::outer)) s.heap h2:=
 ⟨λb o q n1 n2=>k b o (λz=>by rw[z,hT]at q;cases q) (sh.keep b o q n1 n2),λb o q hb=>let ⟨sl,q'⟩:=sh.slot b o q hb;⟨sl,k b _ (λz=>by rw[z,hT]at q;cases q) q'⟩⟩
theorem Zq(hfr:A.frames=Aa (env::outer))(hf:env.frame=Aa L)(ff:s.heap.FunFrames base (env::outer))(fl:Fly e T cls dx s.heap)(hQ:∀ h' T',Fly e T' cls dx h'->Shift [e,T] (frs (env::outer)) s.heap h'->(T'=T\/s.heap.get? T'=Ae)->Q () {s with heap:=h'}):Av M A (leaving env (.ref e)) Q E s:=by
 unfold leaving;exact Aq (Od hfr hf ff fl λh1 T' f1 sh hT=>Lo f1 λh2 f2 k=>hQ h2 T' f2 (Ml ff sh hT k) (.inr hT))
theorem Y_9(hfr:A.frames=Aa (env::outer))(hf:env.frame=Aa L)(ff:s.heap.FunFrames base (env::outer))(he:s.heap.get? e=Aa oe)(hc:oe.cls=cls)(hx:oe.dict=dx)(dt:oe.data=.fields vs)(h0:vs[0]?=Aa a0)(h1:vs[1]?=Aa .none)(hQ:∀ h' T',Fly e T' cls dx h'->Shift [e] (frs (env::outer)) s.heap h'->s.heap.get? T'=Ae->Q () {s with heap:=h'}):Av M A (leaving env (.ref e)) Q E s:=by
 unfold leaving DR;simp only[hf];refine Aq (Aq (Ck he dt h1 ?_));rw[AA (by decide)]
 exact Oc (base:=base) hfr hf ff he dt (HG h1) λh' T' oT ts g nT gn gT dT f3 sh=>Lo (N4 hc hx h0 dt (HG h1) g nT gT dT f3) λh2 f2 k=>hQ h2 T' f2 (Ml ff sh gn k) gn
theorem aG(hfr:A.frames=Aa (env::outer))(hf:env.frame=Aa L)(ff:s.heap.FunFrames base (env::outer))(fl:Fly e T cls dx s.heap)(hQ:∀ h' T',Fly e T' cls dx h'->Shift [e,T] (frs (env::outer)) s.heap h'->(T'=T\/s.heap.get? T'=Ae)->Q () {s with heap:=h'}):Av M A (DR (.ref e) env) (λ_ s2=>Av M A (F3 (.ref e) Ae) Q E s2) E s:=
 Od hfr hf ff fl λh1 T' f1 sh hT=>Lo f1 λh2 f2 k=>hQ h2 T' f2 (Ml ff sh hT k) (.inr hT)
theorem Zr{l:Ac Cb}{A':AT}(ff:s.heap.FunFrames base l)(fl:Fly e T cls dx s.heap)(hQ:∀ h' T',Fly e T' cls dx h'->Shift [e,T] (frs l) s.heap h'->(T'=T\/s.heap.get? T'=Ae)->Q () {s with heap:=h'}):Av M A' (F3 (.ref e) Ae) Q E s:=by
 obtain⟨oe,vs,oT,ts,a0,he,hc,hx,h0,dt,h1,ne,hT,dT,h3⟩:=id fl;refine Lo fl λh' f' k=>hQ h' T f' ⟨λb o q n1 n2=>k b o (λz=>n1 (by rw[z];simp)) q,λb o q hb=>⟨o.slots,k b o (λz=>?_) q⟩⟩ (.inl rfl)
 obtain⟨_,o',q',n⟩:=ff.mem hb;rw[z,hT]at q';cases q';exact n ts dT
end
def CXR(P:AL)(w:AV):CXT:=λouter H s E ev s'=>∃ e T cls dx H',ev=.ref e/\s'.os=s.os/\Fo s'.gens/\Un (frs outer) [] H H' s.heap s'.heap/\HOk P w H' s'.heap/\Fly e T cls dx s'.heap/\H' e=Ae/\H' T=Ae/\s.heap.get? e=Ae/\s.heap.get? T=Ae/\E cls dx H'
def LW(X:Cx)(CL:ClA)(W:XW):Prop:=∀ pI Y H s e C dx t x,Inv X pI Y H s->(X.ex=[]->X.s₀.heap.get? e=Ae)->H e=Ae->s.heap.get? e=Aa (FW C dx t)->E6 X.K CL H (.ref C) dx x->W x H->X.xe (.ref e) s
section
variable{P:AL}{w:AV}{K:Fg}{mg:Ag->Ao Aj}{base:AF}{N:Ac Ag}{qual:Ag}{scope:BG}{f:Ak}{cd:Aj}{A:AT}{outer:Ac Cb}{s:Ap}{H:Hp}{E:XK}{CL:ClA}{W:XW}
theorem MA{s:Ap}(I:Inv X pI Y H s):∀ b∈frs X.stack,b∈X.fs\/X.s₀.heap.get? b=Ae:=λb hb=>by
 rcases AH.mp (I.stkSub b hb) with z|z
 .exact .inr (by rw[z];exact CC I.ok.above)
 .exact .inl z
theorem HH{s:Ap}{b:Ak}(I:Inv X pI Y H s)(hx:X.ex=[])(h:s.heap.get? b=Ae):X.s₀.heap.get? b=Ae:=by
 cases q:X.s₀.heap.get? b with
 |none=>rfl
 |some o=>
  obtain⟨o',z⟩:=I.base.there b o q (by rw[hx];simp)
  rw[h]at z;cases z
theorem Ue(hE:∀ x cls dx H',W x H'->E6 K CL H' cls dx x->E cls dx H'):∀ A',Iy (CXR P w) (E8 (CXR P w) P w K mg base N qual scope f cd A outer s H E) (EKW K CL A' W):=by
 intro A' pI Y H1 s1 ev s2 I h;obtain⟨e,T,cls,dx,H',rfl,os,bare,un,hok,fl,he,hT,ne,nT,x,xr,wx⟩:=h;have I':=I.call' (s':=s2) (ch:=[]) os un hok bare (λb z=>absurd z (by simp))
 have hb0:Un (frs outer) [] H H' s.heap s2.heap:=I'.base;show Av (model P w) (A.deeper (Ee qual scope s.heap.objs.size f cd)) (leaving (Ee qual scope s.heap.objs.size f cd) (.ref e)) _ _ s2;refine Zq (L:=s.heap.objs.size) I'.ok.frames rfl I'.stack fl λh' T' fl' sh hT'=>?_
 have e0:s.heap.get? e=Ae:=HH I rfl ne;have T0:s.heap.get? T=Ae:=HH I rfl nT;refine⟨e,T',cls,dx,H',rfl,I'.os,bare,Un.shift hb0 sh ?_ (MA I'),HOk.shift hok sh ?_ I'.stkFree,fl',he,?_,e0,?_,?_⟩
 .intro b hb;rcases AH.mp hb with rfl|hb
  .exact e0
  .rw[A9.mp hb];exact T0
 .intro b hb;rcases AH.mp hb with rfl|hb
  .exact he
  .rw[A9.mp hb];exact hT
 .rcases hT' with rfl|z
  .exact hT
  .exact HI hok z
 .rcases hT' with rfl|z
  .exact T0
  .exact HH I' rfl z
 .exact hE x cls dx H' wx xr
theorem rzR(hE:∀ x cls dx H',W x H'->E6 K CL H' cls dx x->E cls dx H'):LW (E8 (CXR P w) P w K mg base N qual scope f cd A outer s H E) CL W:=by
 intro pI Y H1 s1 e C dx t x I e0 he ge xr hw;have hb0:Un (frs outer) [] H H1 s.heap s1.heap:=I.base;have e0':s.heap.get? e=Ae:=e0 rfl;show Av (model P w) (A.deeper (Ee qual scope s.heap.objs.size f cd)) (leaving (Ee qual scope s.heap.objs.size f cd) (.ref e)) _ _ s1;refine Y_9 (cls:=.ref C) (dx:=dx) (L:=s.heap.objs.size) I.ok.frames rfl I.stack ge rfl rfl rfl (a0:=.ref t) rfl rfl λh' T' fl' sh hT'=>?_
 have one:∀{Z_:Ak->Prop},Z_ e->∀ b∈[e],Z_ b:=λ{Z_} z b hb=>by rw[A9.mp hb];exact z
 exact⟨e,T',.ref C,dx,H1,rfl,I.os,I.bare,Un.shift hb0 sh (one e0') (MA I),HOk.shift I.hok sh (one (Z_:=λb=>H1 b=Ae) he) I.stkFree,fl',he,HI I.hok hT',e0',HH I rfl hT',hE x _ dx H1 hw xr⟩
theorem ownR:DQ (model P w) (E8 (CXR P w) P w K mg base N qual scope f cd A outer s H E).A (E8 (CXR P w) P w K mg base N qual scope f cd A outer s H E).env (E8 (CXR P w) P w K mg base N qual scope f cd A outer s H E).xe:=PassesOwn.leaving
end
noncomputable def veB:Ac Aj:=[.type "ValueError",.type "Exception",.type "BaseException",.type "object"]
noncomputable def C4(K:Fg)(C:Ak)(v:Ao Aj):Am:=match K.lookup C with
  | some ⟨.type "type",_,.cls c,z⟩=>(match c.mro,z.toList with
    |.ref c0::tl,[_,_,_,_,Aa (.builtin nw),_]=>c0==C&&(nw == "ValueError.__new__" && (!c.hasDel&&(PySem.W.tailIn K veB tl&&(XS K c.ns&&A8 K c.ns "__init__" == Aa v))))
    | _,_=>Ad)
  |_=>Ad
theorem dX(q:IQ K C veB "ValueError.__new__" = Ab):C4 K C Ae=Ab:=by
 unfold IQ at q;unfold C4;split at q
 .rename_i dd cd sl ho;split at q
  .rename_i C' bm k0 k1 k2 k3 n k5 hm hs;simp only[Al]at q;obtain⟨⟨⟨⟨⟨h1,h2⟩,h3⟩,h4⟩,h5⟩,h6⟩:=q;simp only[ho,hm,hs,Al];exact⟨h1,h2,h3,h4,h5,h6⟩
  .cases q
 .cases q
structure XcOk (K:Fg) (C:Ak):Prop where
 exc:∃ v,C4 K C v=Ab
 ga:Ar K (.ref C) "__getattribute__" = Aa (Aa (.builtin "BaseException.__getattribute__"))
 gt:Ar K (.ref C) "__getattr__" = Aa Ae
 cl:Ar K (.ref C) "__class__" = Aa (Aa (.builtin "object.__class__"))
 ob:BZ K C (.type "object")=Aa Ab
 be:By K (.ref C) (.type "BaseException")=Aa Ab
 cs:(Di K C).isSome=Ab
 ve:BQ K (.ref C) (.type "ValueError")=Aa Ab
def XAt(e C:Ak)(h:AF):Prop:=∃ o,h.get? e=Aa o/\o.cls=.ref C
theorem kK{N:Ak}{m:Ag->Ao Aj}{v:Aj}(X:K.In h)(G:h.Ns N m)(q:A8 K N x=Aa (Aa v)):m x=Aa v:=by
 obtain⟨ob,es,ep,g,dt,_,fd⟩:=G;unfold A8 at q;split at q
 .rename_i es' n' sl lk;have g':=X _ _ lk;rw[g]at g';cases g';cases dt;split at q
  .rename_i hf;cases q;rw[<-fd];unfold nsFind findBy;rw[<-VA,hf];rfl
  .by_cases z:(es.toList.any λy=>y.refKey)=Ab
   .rw[At z]at q;cases q
   .rw[AA z]at q;cases q
 .cases q
theorem Lh{h0:AF}(X0:K.In h0)(q:C4 K C v=Ab):
  ∃ bm N nm qn bs hd sn sub ab col dd k0 k1 k2 k3 k5 mN,(∀ h:AF,K.In h->h.get? C=Aa (BP nm qn C N bs bm hd sn sub ab col dd k0 k1 k2 k3 k5 "ValueError.__new__")/\h.Ns N mN/\Dx h veB bm)/\mN "__init__" = v/\bm.contains (.type "BaseException")=Ab:=by
 unfold C4 at q;split at q
 .rename_i dd cd sl ho;split at q
  .rename_i C' bm k0 k1 k2 k3 n k5 hm hs;simp only[Al,AG,Bm]at q;obtain⟨rfl,rfl,hdel,ht,hok,hni⟩:=q;obtain⟨nm,bs,mro,ns,qn,hd,sn,sub,ab,col,del⟩:=cd;dsimp only at hm hdel hok hni;subst hm hdel;have hsl:sl=#[k0,k1,k2,k3,Aa (.builtin "ValueError.__new__"),k5]:=by
    obtain⟨l⟩:=sl;simp only at hs;rw[hs]
   subst hsl;have kN:∃ o,K.lookup ns=Aa o:=by
    unfold XS at hok;split at hok
    .rename_i z;exact⟨_,z⟩
    .cases hok
   obtain⟨oN,hoN⟩:=kN;have nsAt:∀ h:AF,K.In h->h.Ns ns (h0.nsMap ns):=λh X=>by
    obtain⟨o,es,ep,e1,r⟩:=Heap.Ns.of_isNs (XH X0 hok);have e2:=X0 _ _ hoN;rw[e1]at e2;cases e2;exact⟨_,es,ep,X _ _ hoN,r⟩
   refine⟨bm,ns,nm,qn,bs,hd,sn,sub,ab,col,dd,k0,k1,k2,k3,k5,h0.nsMap ns,λh X=>⟨X _ _ ho,nsAt h X,XU X ht⟩,?_,(XU X0 ht).hasType (by decide)⟩
   cases v with
   |none=>exact PySem.W.nsMap_none_of_in X0 hok hni
   |some u=>exact kK X0 (.of_isNs (XH X0 hok)) hni
  .cases q
 .cases q
theorem iQ(X:K.In h)(q:C4 K C v=Ab):
  ∃ bm N nm qn bs hd sn sub ab col dd k0 k1 k2 k3 k5 mN,h.get? C=Aa (BP nm qn C N bs bm hd sn sub ab col dd k0 k1 k2 k3 k5 "ValueError.__new__")/\h.Ns N mN/\mN "__init__" = v/\Dx h veB bm:=by
 obtain⟨bm,N,nm,qn,bs,hd,sn,sub,ab,col,dd,k0,k1,k2,k3,k5,mN,ho,hi,_⟩:=Lh X q;obtain⟨o1,o2,o3⟩:=ho h X;exact⟨bm,N,nm,qn,bs,hd,sn,sub,ab,col,dd,k0,k1,k2,k3,k5,mN,o1,o2,hi,o3⟩
section
variable{prog:AL}{w:AV}{A:AT}{E:Vq}{h:AF}{g:Ba El}{d:Hx}{t:Af}{os:G2}{K:Fg}{e C:Ak}
theorem Jl(p:XAt e C h):PySem.W.Looks M h (typeOf (.ref e)) (.ref C):=by
 obtain⟨o,h1,h2⟩:=p;exact h2 ▸ (PySem.W.Looks.ld h1).andThen .now
theorem ZQ{R:He->Ap->Prop}{tp:Aj}(X:K.In h)(p:XAt e C h)(hm:BZ K C (.type "object")=Aa Ab)(hq:R (.ok (.ret (.ref C))) ⟨h,g,d,t,os⟩):
  Ez (model prog w) A (.call (.builtin "getset_descriptor.__get__") ⟨[.builtin "object.__class__",.ref e,tp],[]⟩) R ⟨h,g,d,t,os⟩:=by
 have L0:=Jl (M:=model prog w) p;have L1:=PySem.W.looks_mroIn (M:=model prog w) X hm;refine DL PySem.W.KF.slot_gs.plain PySem.W.KF.entry_gs (PySem.W.KF.slot_gs.check _ _ _ _ _ _ _ _ PySem.W.KF.type_class (PySem.W.KF.args_gs _ _ _) ?_);unfold Builtin.«getset_descriptor.__get__» Builtin.Getset_descriptor.descrGet;rw[PySem.W.dga_obj];refine Aq (AS ?_);unfold Builtin.Getset_descriptor.descrGetter Builtin.Getset_descriptor.descrCheckInstance Builtin.Getset_descriptor.descrNameAndClass Ij;simp only[PySem.W.KF.owner_class]
 repeat lk
 refine⟨GH _ (by decide+kernel),codeAny_builtin PySem.W.KF.entry_class ?_⟩
 unfold Builtin.«object.__class__» shownTypeOf
 repeat lk
 exact hq
theorem YQ{Q:Fin->Ap->Prop}(X:K.In h)(x:XcOk K C)(p:XAt e C h)(hq:Q (.done (.ret (.ref C))) ⟨h,g,d,t,os⟩):
  Av (model prog w) A (Builtin.«object.__getattribute__» ⟨[.ref e,.str "__class__" tk],[]⟩) Q E ⟨h,g,d,t,os⟩:=by
 have L0:=Jl (M:=model prog w) p;have L1:=B7 (M:=model prog w) X x.cl;have hT5:(⟨h,g,d,t,os⟩:Ap).TypeIs (.builtin "object.__class__") "getset_descriptor" := W6;have f5:=W6;have f6:=F.slot_gs_get.lookup;have f7:=F.slot_gs_set.lookup
 repeat (any_goals (first|assumption|with_reducible refine L0.at ?_|with_reducible refine L1.at ?_|wp_step))
 refine ZQ X p x.ob ?_
 repeat (any_goals (first|assumption|wp_step))
theorem QC{nameV:Aj}(X:K.In h)(x:XcOk K C)(p:XAt e C h)(hq:Q () ⟨h,g,d,t,os⟩):Av M A (FU "BaseException.__getattribute__" ⟨[.ref e,nameV],[]⟩) Q E ⟨h,g,d,t,os⟩:=by
 have hk:builtinKind "BaseException.__getattribute__" = Aa .slot:=by decide+kernel
 have hsplit:splitId "BaseException.__getattribute__" = Aa ("BaseException", "__getattribute__"):=by decide+kernel
 have L0:=Jl (M:=M) p;have L1:=XQ (M:=M) X x.be;have ha:=F.args_bexc_ga (.ref e) nameV;simp only[FU,hk,hsplit];refine Aq ?_
 .unfold Ij
  repeat (first|(with_reducible refine Aq (L0.at ?_))|(with_reducible refine L1.at ?_)|wp_step)
  exact hq
theorem dY{Q:Vq}(X:K.In h)(x:XcOk K C)(p:XAt e C h)(hq:Q (.ref C) ⟨h,g,d,t,os⟩):Av (model prog w) A (getAttrBy (.ref e) (.str "__class__" tk) fill expr) Q E ⟨h,g,d,t,os⟩:=by
 have L0:=Jl (M:=model prog w) p;have L1:=B7 (M:=model prog w) X x.ga;have L2:=B7 (M:=model prog w) X x.gt;have f3:=Fw.ga.bind (.ref e);have hx0:(expr&&Je (Cn "BaseException.__getattribute__"))=Ad:=by cases expr<;>rfl
 have hx2:(Cn "BaseException.__getattribute__" == Cn "object.__getattribute__")=Ad:=by decide+kernel
 have hx1:(Je (Bf C)&&Cn "BaseException.__getattribute__" == Cn "object.__getattribute__")=Ad:=by rw[hx2];rfl
 repeat (any_goals (first|assumption|with_reducible refine L0.at ?_|with_reducible refine L1.at ?_|with_reducible refine L2.at ?_|wp_step))
 refine DL Fw.ga.plain WX (QC X x p (YQ X x p ?_))
 repeat (any_goals (first|assumption|wp_step))
theorem Y_3{Q:Ao Aj->Ap->Prop}(X:K.In h)(x:XcOk K C)(p:XAt e C h)(hq:Q (Aa (.ref C)) ⟨h,g,d,t+1,os⟩):Av (model prog w) A (getAttr? (.ref e) "__class__") Q E ⟨h,g,d,t,os⟩:=by
 unfold getAttr? getAttrBy?
 repeat (any_goals (first|assumption|with_reducible apply dY X x p|wp_step))
end
theorem Ru{e C:Ak}(x:XcOk K C):PySem.W.KitX K (.ref e) (.ref C) (XAt e C) where
 ty:=λM h _ p=>Jl p
 it:=λM h X _=>by
  obtain⟨cd,hc⟩:=Ci.mp x.cs;unfold Di at hc;split at hc
  .rename_i c' d' cd' sl' ho;intro A' Q' E' s' k q;unfold isType loadHead;exact Aq (X8 (k _ _ (X _ _ ho)) (AS q))
  .cases hc
 ne:=λh tp dd its n sl X htp=>by
  obtain⟨cd,hc⟩:=Ci.mp x.cs;refine Bool.eq_false_iff.mpr λq=>?_
  have e:C=tp:=IP (AG.mp q);subst e;unfold Di at hc;split at hc
  .rename_i c' d' cd' sl' ho;have z:=(X _ _ ho).symm.trans htp;cases z
  .cases hc
 ca:=λ{_ _ _ _ _ s} X p k=>by
  obtain⟨h,g,d,t,os⟩:=s;exact Y_3 X x p k
theorem ZR{A:AT}{E:Vq}{g:Ba El}{d:Hx}{t:Af}{os:G2}{e C C':Ak}{b:Am}{Q:Am->Ap->Prop}(X:K.In h)(p:XAt e C h)(x':XcOk K C')(hs:By K (.ref C) (.ref C')=Aa b)(hq:Q b ⟨h,g,d,t,os⟩):Av M A (excMatches (.ref e) (.ref C')) Q E ⟨h,g,d,t,os⟩:=by
 obtain⟨bm,N,nm,qn,bs,hd,sn,sub,ab,col,dd,k0,k1,k2,k3,k5,mN,hC',_,_,T⟩:=iQ X x'.exc.choose_spec;have hcB:(Bf C'::bm).contains (.type "BaseException")=Ab:=by rw[GE,T.hasType (show veB.contains (.type "BaseException")=Ab by decide),IS]
 have L0:=Jl (M:=M) p;have L1:=XQ (M:=M) X hs;have f:=tc_notTuple;unfold excMatches
 repeat (first|(with_reducible refine Aq (L0.at ?_))|(with_reducible refine L1.at ?_)|(with_reducible refine Aq (L1.at ?_))|with_reducible refine BX hC' ?_|(with_reducible refine E1 hC' ?_;rw[hcB])|wp_step)
 all_goals first|exact hq|(cases b<;>(wp_walk;exact hq))
def FY(X:Cx)(pI:Pn)(e:Ak):Prop:=e≠X.env.locals/\(∀ x c,X.env.cells.lookup x=Aa c->c≠e)/\(∀ p∈X.pn++pI,p.1≠e)/\X.s₀.heap.get? e=Ae
section
variable{X:Cx}{pI:Pn}{Y:L2.St}{H:Hp}{s:Ap}{e:Ak}
theorem JI(I:Inv X pI Y H s)(hx:X.ex=[])(h:s.heap.get? e=Ae):FY X pI e:=by
 refine⟨?_,λx c q z=>?_,λp hp z=>?_,HH I hx h⟩
 .rintro rfl;obtain⟨m,⟨o,_,_,ho,_⟩,_⟩:=I.loc;rw[h]at ho;cases ho
 .obtain⟨v,o,ho,_⟩:=I.cell x c q;rw[z,h]at ho;cases ho
 .obtain⟨q,_⟩:=I.pin p hp;rw[z,h]at q;cases q
theorem Ra{ex:Ac Ak}(I:Inv X pI Y H s)(hx:X.ex=[])(sh:Shift ex (frs X.stack) s.heap h')(ha:∀ b∈ex,FY X pI b)(hH:∀ b∈ex,H b=Ae):Inv X pI Y H {s with heap:=h'}:=by
 have kp:∀ b o,s.heap.get? b=Aa o->b∉ex->∃ sl,h'.get? b=Aa {o with slots:=sl}:=λb o q n=>by
  by_cases hb:b∈frs X.stack
  .exact sh.slot b o q hb
  .exact⟨o.slots,sh.keep b o q n hb⟩
 have cellK:∀ x c,X.env.cells.lookup x=Aa c->∀ v,s.heap.IsCell c v->h'.IsCell c v:=λx c q v ⟨o,ho,hd⟩=>by
  obtain⟨sl,z⟩:=kp c o ho λz=>(ha c z).2.1 x c q rfl
  exact⟨_,z,hd⟩
 refine⟨I.ok,I.os,I.bare,?_,?_,λx c q=>?_,I.free,I.freeC,λp hp=>?_,HOk.shift I.hok sh hH I.stkFree,I.len⟩
 .have b0:=I.base;rw[hx]at b0 ⊢;exact Un.shift b0 sh (λb hb=>(ha b hb).2.2.2) (MA I)
 .obtain⟨m,⟨o,es,ep,ho,r⟩,hl⟩:=I.loc;obtain⟨sl,z⟩:=kp _ o ho λz=>(ha _ z).1 rfl
  refine⟨m,⟨_,es,ep,z,r⟩,λi x v e1 e2 e3=>?_⟩
  obtain⟨u,ru,l⟩:=hl i x v e1 e2 e3;refine⟨u,ru,?_⟩;rcases l with l|⟨k,c,q,z⟩
  .exact .inl l
  .exact .inr ⟨k,c,q,cellK x c q _ z⟩
 .obtain⟨v,z⟩:=I.cell x c q;exact⟨v,cellK x c q v z⟩
 .obtain⟨q,n,ne,nf,d⟩:=I.pin p hp;exact⟨sh.keep p.1 p.2 q (λz=>(ha p.1 z).2.2.1 p hp rfl) (λz=>(AH.mp (I.stkSub p.1 z)).elim ne nf),n,ne,nf,d⟩
theorem Q8(I:Inv X pI Y H s)(hx:X.ex=[])(ha:FY X pI e)(hH:H e=Ae)(ho:∃ o,s.heap.get? e=Aa o)(p:φ s.heap)(hφ:∀ h1 h2:AF,φ h1->(∀ o,h1.get? e=Aa o->h2.get? e=Aa o)->φ h2):Inv X pI Y (upd H e (.ext φ)) s:=by
 have ne:∀ b o,H b=Aa o->b≠e:=λb o q z=>by rw[z,hH]at q;cases q
 refine⟨I.ok,I.os,I.bare,⟨I.base.keep,I.base.slot,λb o q n hb=>?_,I.base.there,λb xs q=>?_,λb o u q=>?_,λb ps q=>?_⟩,I.loc,I.cell,?_,λx c q=>?_,λp hp=>?_,λb o q=>?_,I.len⟩
 .rw[Be λz=>by rw[z,ha.2.2.2]at q;cases q]
  exact I.base.free b o q n hb
 .have:=I.base.tups b xs q;rw[Be (ne _ _ this)];exact this
 .have:=I.base.frzs b o u q;rw[Be (ne _ _ this)];exact this
 .obtain⟨more,this⟩:=I.base.tbls b ps q;exact⟨more,by rw[Be (ne _ _ this)];exact this⟩
 .rw[Be λz=>ha.1 z.symm];exact I.free
 .rw[Be (ha.2.1 x c q)];exact I.freeC x c q
 .obtain⟨q,n,r⟩:=I.pin p hp;exact⟨q,by rw[Be (ha.2.2.1 p hp)];exact n,r⟩
 .by_cases hb:b=e
  .subst hb;rw[DD]at q;cases q;exact⟨p,ho,hφ⟩
  .rw[Be hb]at q;exact(I.hok b o q).stay (λc v hc z=>z) (λc z=>by rw[Be (ne _ _ z)];exact z) λc zs z=>by rw[Be (ne _ _ z)];exact z
theorem Zy{i:Af}{n:Ag}{m:Ag->Ao Aj}{tk:Af}(I:Inv X pI Y H s)(hN:X.N.Nodup)(hi:X.N[i]?=Aa n)(hn:s.heap.Ns X.env.locals m)(hn':h'.Ns X.env.locals (λx=>if x=n then v else m x))(hs:Ey X.env.locals s.heap h'):Inv X pI (Y.set i Ae) H {s with heap:=h',toks:=tk}:=by
 obtain⟨m0,hn0,hl⟩:=I.loc;have em:m0=m:=by
  obtain⟨o,es,ep,h1,h2,_,h3⟩:=hn0;obtain⟨o',es',ep',h1',h2',_,h3'⟩:=hn;rw[h1]at h1';cases h1';rw[h2]at h2';cases h2'
  funext y
  rw[<-h3,<-h3']
 subst em;obtain⟨oL,_,_,hoL,_⟩:=id hn;have lt:∀ b o,X.s₀.heap.get? b=Aa o->b≠X.env.locals:=λb o q=>Bh (AO (AJ q) I.ok.above)
 refine⟨I.ok,I.os,I.bare,⟨λb o q n hb hx=>?_,λb o q n hb hx=>?_,I.base.free,λb o q hx=>?_,I.base.tups,I.base.frzs,I.base.tbls⟩,⟨_,hn',λj y v' e1 e2 e3=>?_⟩,λy c q=>?_,I.free,I.freeC,λp hp=>?_,λb ob q=>?_,by rw[AU];exact I.len⟩
 .exact(hs.2 b (lt b o q)).trans (I.base.keep b o q n hb hx)
 .obtain⟨sl,e1⟩:=I.base.slot b o q n hb hx;exact⟨sl,(hs.2 b (lt b o q)).trans e1⟩
 .obtain⟨o',e1⟩:=I.base.there b o q hx;exact⟨o',(hs.2 b (lt b o q)).trans e1⟩
 .by_cases hj:i=j
  .subst hj;have:=Ge e2;cases this
  .rw[BL hj]at e2;obtain⟨u',r',q⟩:=hl j y v' e1 e2 e3;refine⟨u',r',?_⟩;rcases q with ⟨k,e⟩|⟨k,c,e,z⟩
   .refine .inl ⟨k,?_⟩;have:y≠n:=λe=>hj (Oq hN hi (e ▸ e1))
    simp[this,e]
   .exact .inr ⟨k,c,e,z.sameBut hs (I.cne y c e)⟩
 .obtain⟨w',z⟩:=I.cell y c q;exact⟨w',z.sameBut hs (I.cne y c q)⟩
 .obtain⟨q,n,ne,nf,d⟩:=I.pin p hp;exact⟨(hs.2 p.1 ne).trans q,n,ne,nf,d⟩
 .refine(I.hok b ob q).stay (λc w' hc z=>(hs.2 c ?_).trans z) (λ_ q=>q) λ_ _ q=>q
  rintro rfl;have hfree:=I.free;rcases hc with z|hc
  .rw[<-z,hfree]at q;cases q
  .rw[hfree]at hc;cases hc
end
noncomputable def Cx.hot(X:Cx)(e:Ak):Cx:={X with A:=X.A.mark (Aa (.ref e)),calm:=Ad,xe:=λ_ _=>AW}
section
variable{X:Cx}{pI:Pn}{Y:L2.St}{H:Hp}{s:Ap}{e:Ak}
theorem lM(ok:X.Ok):(Cx.hot X e).Ok:=⟨ok.mod,ok.kind,ok.glob,ok.blt,ok.above,ok.inj,ok.has,ok.cab,λz=>(nomatch z),ok.frames,ok.stk,ok.exf,ok.bs,ok.bsz,ok.noex,ok.exfs,ok.funs,ok.frf⟩
theorem Sk(I:Inv X pI Y H s)(e:Ak):Inv (Cx.hot X e) pI Y H s:=⟨lM I.ok,I.os,I.bare,I.base,I.loc,I.cell,I.free,I.freeC,I.pin,I.hok,I.len⟩
theorem aZ(ok:X.Ok)(I:Inv (Cx.hot X e) pI Y H s):Inv X pI Y H s:=⟨ok,I.os,I.bare,I.base,I.loc,I.cell,I.free,I.freeC,I.pin,I.hok,I.len⟩
theorem Sx.unset(x:Sx K CL Fz B U Y H)(i:Af):Sx K CL Fz B (U.set i Ae) (Y.set i Ae) H:=by
 have get:∀(j:Af)(y:D×Am),(U.set i Ae)[j]?=Aa (Aa y)->i≠j/\U[j]?=Aa (Aa y):=λj y h=>by
  by_cases hj:i=j
  .subst hj;have:=Ge h;cases this
  .exact⟨hj,by rw[BL hj]at h;exact h⟩
 have sub:∀ a,Bk B (U.set i Ae) (Y.set i Ae) a->Bk B U Y a:=λa h=>by
  rcases h with h|⟨j,d,h1,h2⟩
  .exact .inl h
  .obtain⟨hj,h1⟩:=get j _ h1;rw[BL hj]at h2;exact .inr ⟨j,d,h1,h2⟩
 refine⟨⟨λj d h=>?_,λj d h hn=>?_,by rw[AU,AU];exact x.len⟩,λa h=>x.aok a (sub a h),λj d a h1 h2=>?_,λj k d f a h1 h2 h3 h4=>?_,x.same,by rw[AU,AU];exact x.len,λj h=>?_⟩
 .obtain⟨hj,h1⟩:=get j _ h;obtain⟨v,q,r⟩:=x.good.sh j d h1;exact⟨v,by rw[BL hj];exact q,Rep.sub sub _ r⟩
 .obtain⟨hj,h1⟩:=get j _ h;obtain⟨a,xs,ds,q,z,ha,hh,rr⟩:=x.good.ow j d h1 hn;exact⟨a,xs,ds,by rw[BL hj];exact q,z,.inr ⟨j,d,h,by rw[BL hj];exact q⟩,hh,Reps.sub sub _ rr⟩
 .obtain⟨hj,h1⟩:=get j _ h1;rw[BL hj]at h2;exact x.new j d a h1 h2
 .obtain⟨hj,h1⟩:=get j _ h1;obtain⟨hk,h2⟩:=get k _ h2;rw[BL hj]at h3;rw[BL hk]at h4;exact x.dis j k d f a h1 h2 h3 h4
 .obtain⟨hj,h1⟩:=get j _ h;obtain⟨a,xs,p1,p2,p3⟩:=x.pin j h1;exact⟨a,xs,p1,by rw[BL hj];exact p2,p3⟩
end
def IL(e C:Ak)(dx:Ao Ak)(h:AF):Prop:=∃ o,h.get? e=Aa o/\o.cls=.ref C/\o.dict=dx/\∃ us,o.data=.fields us
noncomputable def JU(X:Cx)(CL:ClA)(pI:Pn)(Y:L2.St)(H:Hp)(y:Ex)(Xw:Vq):Prop:=
 ∀ s' H' e T cls dx,Inv X pI Y H' s'->Az H H'->Fly e T cls dx s'.heap->H' e=Ae->H' T=Ae->FY X pI e->FY X pI T->E6 X.K CL H' cls dx y->Xw (.ref e) s'
def STB(X:Cx)(CL:ClA)(body:Ac AI)(f:Rho->O):Prop:=∀ Fz B pI s Y H D U (Xw:Vq),DQ (model X.prog X.w) X.A X.env Xw->Inv X pI Y H s->Sx X.K CL Fz B U Y H ->
  (match f U with
   |.exn y U'=>U'=U->JU X CL pI Y H y Xw
   | o=>Bs X.K CL Fz B (λ_ _=>AW) o D)->(∀ y U',f U=.exn y U'->U'=U)->Av (model X.prog X.w) X.A (execs body X.env) (SP X pI D) Xw s
noncomputable def Vi(up:Af->Ac Af)(c i:Af)(o:O)(fh:Rho->O):O:=match o with
  | .exn y U'=>if (up y.c).contains c=Ab then (match fh (U'.set i (Aa (.exc y.c y.fs,Ad))) with
      |.next U''=>.next (U''.set i Ae)
      |.ret d f=>.ret d f
      | _=>.bad) else .bad
  |o=>o
theorem iK{i:Af}{g n:Ag}{hp:AC}{fh:Rho->O}{b:Am}{rest:Ac ET}{s1:Ap}{U':Rho}{D:Ends}{e T1:Ak}{y:Ex}(hx:X.ex=[])(hN:X.N.Nodup)(hi:X.N[i]?=Aa n)(hl:X.env.scope.names.lookup n=Aa .local)(hg:Gl X g)(hm:X.mg g=Aa (.ref C'))(hdb:(g==("__debug__" : Ag))=Ad)(xc:XcOk X.K C')(hsu:By X.K (.ref C) (.ref C')=Aa b)(hh:∀ e,SSs (Cx.hot X e) CL (λ_ _=>AW) (h0::hs) fh)(I1:Inv X pI Y H' s1)(fl1:Fly e T1 (.ref C) dx s1.heap)(ae:FY X pI e)(aT1:FY X pI T1)(he:H' e=Ae)(HT1:H' T1=Ae)(gx:Sx X.K CL Fz B U' Y H')(hcl:CL y.c=Aa C)(xr:E6 X.K CL H' (.ref C) dx y)(p2:b=Ab->Bs X.K CL Fz B W (hdO i y U' fh) D)(p3:b=Ad->Av (model X.prog X.w) X.A (JC (.ref e) X.env rest) (SP X pI D) X.xe s1):Av (model X.prog X.w) X.A (JC (.ref e) X.env (.ExceptHandler (Aa (.Name g p1)) (Aa n) (h0::hs) hp::rest)) (SP X pI D) X.xe s1:=by
 obtain⟨Cx0,hcl0,ecl,hfs⟩:=xr (Bk B U' Y) gx.aok;have xat:∀{h:AF}{T:Ak},Fly e T (.ref C) dx h->XAt e C h:=λ{h T} z=>by
  obtain⟨oe,_,_,_,_,z1,z2,_⟩:=z;exact⟨oe,z1,z2⟩
 have xad:∀{h:AF}{T:Ak},Fly e T (.ref C) dx h->IL e C dx h:=λ{h T} z=>by
  obtain⟨oe,vs,_,_,_,z1,z2,z3,_,z4,_⟩:=z;exact⟨oe,z1,z2,z3,vs,z4⟩
 have two:∀{T:Ak}{Z_:Ak->Prop},Z_ e->Z_ T->∀ b∈[e,T],Z_ b:=λ{T Z_} h1 h2 b hb=>by
  rcases AH.mp hb with rfl|hb
  .exact h1
  .rw[A9.mp hb];exact h2
 refine wpAny_handleBy_cons (codeAny_handlers_test (HL (X:=Cx.hot X e) (Sk I1 e) hg hm ?_ hdb)) (by intro q;cases q)
 refine ZR (K:=X.K) I1.kIn (xat fl1) xc hsu ?_;cases b with
 |false=>exact p3 rfl
 |true=>
 have p2:=p2 rfl;refine codeAny_handlers_suite_as ?_;refine Zr (base:=X.base) (l:=X.stack) I1.stack fl1 λh3 T3 fl3 sh3 hT3=>?_
 have I3:=Ra I1 hx sh3 (two ae aT1) (two (Z_:=λb=>H' b=Ae) he HT1)
 obtain⟨oe,oeg,oec⟩:=xad fl3;have I3':=Q8 (φ:=IL e C dx) I3 hx ae he ⟨oe,oeg⟩ ⟨oe,oeg,oec⟩ λh1 h2 ⟨o,q1,q2⟩ k=>⟨o,k o q1,q2⟩
 have sm3:Az H' (upd H' e (.ext (IL e C dx))):=λb o q=>by rw[Be λz=>by rw[z,he]at q;cases q];exact q
 refine Ow (X:=Cx.hot X e) (i:=i) (v:=.ref e) (Sk I3' e) hN hi (.inl hl) rfl (λs4 I4=>?_) (.inr hl)
 have x3:=gx.grow sm3;have nA:¬ Bk B U' Y e:=λz=>by
  obtain⟨xs,q⟩:=x3.aok e z;rw[DD]at q;cases q
 have rp:Rep X.K CL (upd H' e (.ext (IL e C dx))) (Bk B U' Y) (.ref e) (.exc y.c y.fs):=by
  refine⟨e,C,IL e C dx,rfl,nA,hcl,DD,λh ⟨o,z1,z2,_⟩=>⟨o,z1,z2⟩,?_⟩
  rcases hfs with z|⟨d,vs,ed,nd,hd,rf⟩
  .exact .inl z
  .exact .inr ⟨d,vs,nd,sm3 _ _ hd,Repf.kp (Kp.of sm3) _ rf,λh ⟨o,z1,_,z3,z4⟩=>⟨o,z1,z3.trans ed,z4⟩⟩
 have x4:=x3.set i rp;have fin:∀{s5:Ap}{Y5:L2.St}{H5:Hp}{Q:DC->Ap->Prop},Inv (Cx.hot X e) pI Y5 H5 s5->(∀ s6,Inv X pI (Y5.set i Ae) H5 s6->Q () s6)->Av (model X.prog X.w) X.A (do bindName X.env n .none;unbindBehindTheSuite X.env n hp) Q X.xe s5:=λ{s5 Y5 H5 Q} I5 k=>by
  have I5':=aZ I1.ok I5;obtain⟨m,hn,_⟩:=id I5'.loc;refine wpAny_nameGoes_keeps hl hn (by rw[I1.ok.kind];rfl) λh6 v6 hn6 sb6=>?_
  exact k _ (Zy I5' hN hi hn hn6 sb6)
 refine A4 (hh e Fz B pI s4 _ _ {nx:=λY5 H5=>D.nx (Y5.set i Ae) H5,rt:=D.rt} I4 ⟨_,x4,?_⟩) (λf s5 hf=>?_) λ_ _ z=>A3 z
 .unfold hdO at p2;cases ef:fh (U'.set i (Aa (.exc y.c y.fs,Ad))) with
  |next U''=>rw[ef]at p2;exact λY5 H5 x5=>p2 _ _ (x5.unset i)
  |ret d b=>rw[ef]at p2;exact p2
  |brk _=>rw[ef]at p2;exact p2.elim
  |cont _=>rw[ef]at p2;exact p2.elim
  |exn _ _=>rw[ef]at p2;exact p2.elim
  |bad=>rw[ef]at p2;exact p2.elim
 .cases f with
  |next=>
   obtain⟨Y5,H5,I5,q⟩:=hf;exact fin I5 λs6 I6=>⟨_,H5,I6,q⟩
  |ret u=>
   obtain⟨v,Y5,H5,I5,r,q⟩:=hf;exact fin I5 λs6 I6=>⟨v,_,H5,I6,r,q⟩
  |brk=>obtain⟨_,_,_,q⟩:=hf;exact A3 q
  |cont=>obtain⟨_,_,_,q⟩:=hf;exact A3 q
def Vr(X:Cx)(CL:ClA)(up:Af->Ac Af)(g:Ag)(c:Af):Prop:=∃ C',Gl X g/\X.mg g=Aa (.ref C')/\(g==("__debug__" : Ag))=Ad/\XcOk X.K C'/\∀ c' C,CL c'=Aa C->By X.K (.ref C) (.ref C')=Aa ((up c').contains c)
theorem ZT{y:Ex}{Q:Flow->Ap->Prop}{hd:Ac ET}(hx:X.ex=[])(hst:X.stack=X.env::X.outer)(hfm:X.env.frame=Aa X.env.locals)(k:∀ e T1 cls dx H' s1,Inv X pI Y H' s1->Az H H'->Fly e T1 cls dx s1.heap->FY X pI e->FY X pI T1->H' e=Ae->H' T1=Ae->E6 X.K CL H' cls dx y->Av (model X.prog X.w) X.A (JC (.ref e) X.env hd) Q X.xe s1):JU X CL pI Y H y (λev s1=>Av (model X.prog X.w) X.A (DR ev X.env) (λ_ s2=>Av (model X.prog X.w) X.A (F3 ev Ae) (λ_ s3=>Av (model X.prog X.w) X.A (JC ev X.env hd) Q X.xe s3) X.xe s2) X.xe s1):=by
 intro s' H' e T cls dx I' sm fl he hT ae aT xr;have two:∀{T:Ak}{Z_:Ak->Prop},Z_ e->Z_ T->∀ b∈[e,T],Z_ b:=λ{T Z_} h1 h2 b hb=>by
  rcases AH.mp hb with rfl|hb
  .exact h1
  .rw[A9.mp hb];exact h2
 have hfr:X.A.frames=Aa (X.env::X.outer):=by rw[<-hst];exact I'.ok.frames
 refine aG (base:=X.base) hfr hfm (by rw[<-hst];exact I'.stack) fl λh1 T1 fl1 sh1 hT1=>?_
 rw[<-hst]at sh1;exact k e T1 cls dx H' _ (Ra I' hx sh1 (two ae aT) (two (Z_:=λb=>H' b=Ae) he hT)) sm fl1 ae (hT1.elim (λz=>z ▸ aT) λz=>JI I' hx z) he (hT1.elim (λz=>z ▸ hT) λz=>HI I'.hok z) xr
theorem jQ{c i:Af}{g n:Ag}{hp:AC}{fb fh:Rho->O}(hx:X.ex=[])(hst:X.stack=X.env::X.outer)(hfm:X.env.frame=Aa X.env.locals)(hN:X.N.Nodup)(hi:X.N[i]?=Aa n)(hl:X.env.scope.names.lookup n=Aa .local)(h1:Vr X CL up g c)(hb:STB X CL body fb)(hρ:∀ U y U',fb U=.exn y U'->U'=U)(hh:∀ e,SSs (Cx.hot X e) CL (λ_ _=>AW) (h0::hs) fh):SS X CL W (.Try body [.ExceptHandler (Aa (.Name g p1)) (Aa n) (h0::hs) hp] [] [] pos) (λU=>Vi up c i (fb U) fh):=λFz B pI s Y H D I ⟨U,x,p⟩=>by
 refine wpAny_Try_except (A4 (hb Fz B pI s Y H D U _ PassesOwn.looking I x ?_ (hρ U)) (λf s1 hf=>?_) λ_ _ z=>z)
 .dsimp only at p;cases eb:fb U with
  |exn y U'=>
   rw[eb]at p;intro e0;subst e0;have p2:Bs X.K CL Fz B W (if (up y.c).contains c=Ab then hdO i y U' fh else .bad) D:=p
   refine ZT hx hst hfm λe T1 cls dx H' s1 I1 sm fl1 ae aT1 he HT1 xr=>?_
   have gx:=x.grow sm;obtain⟨C,hcl,rfl,_⟩:=xr (Bk B U' Y) gx.aok;obtain⟨C',hg,hm,hdb,xc,hup⟩:=h1;refine iK (W:=W) hx hN hi hl hg hm hdb xc (hup y.c C hcl) hh I1 fl1 ae aT1 he HT1 gx hcl xr (λhc=>?_) (λhc=>?_)
   .rw[At hc]at p2;exact p2
   .rw[AA (by rw[hc];exact Ay)]at p2;exact p2.elim
  |next U'=>rw[eb]at p;exact p
  |ret d b=>rw[eb]at p;exact p
  |brk U'=>rw[eb]at p;exact p
  |cont U'=>rw[eb]at p;exact p
  |bad=>rw[eb]at p;exact p.elim
 .cases f with
  |next=>exact Ei hf
  |ret u=>exact hf
  |brk=>exact hf
  |cont=>exact hf
theorem Rj{f:Ak}{sp:Sp}{E:XK}{e:An}{es:Ac An}{t:TA}(F:FnOk X.prog X.w X.K X.mg X.base CX k f fd ps sp)(hr:Room k X.A)(hg:Gl X x)(hm:X.mg x=Aa (.ref f))(hk:Bc X.K (.ref f)=Ab)(hb:ED X.K fd ps [])(hx:∀ pI H s e s',Inv X pI Y0 H s->CX X.stack H s E e s'->X.xe e s')(ha:PA X (e::es) t)(hdb:(x==("__debug__" : Ag))=Ad)(he:As (e::es) X.env=(Ad,eval e X.env)::As es X.env)(hpl:(Bv pos (As es X.env)).any (·.1)=Ad):PE X (.Call (.Name x p) (e::es) [] pos) (λY H Q=>Y=Y0/\t Y H λvs H1=>sp vs H1 Q E):=by
 intro pI s Y H Q I ⟨e0,h⟩;subst e0;refine Db (HL I hg hm ?_ hdb);refine Eh (h₀:=X.base) I.ok.mod.kin hk (thn (ha pos pI s Y H _ I h) λus s1 ⟨vs,H1,I1,r,q⟩=>⟨I1.kIn,?_⟩) he hpl
 have hl:us.length=ps.length:=by rw[<-r.length];exact F.len _ _ _ _ q
 have hb':Gr s1 fd ⟨us,[]⟩ (ps.zip us):=by
  have:=hb s1 us I1.kIn (by rw[Cw];exact hl)
  rw[Cw]at this;exact this
 refine Fq (EA (F.run X.A X.stack s1 H1 ⟨us,[]⟩ us vs Q E hr I1.env0 hb' r q) λr s' hq=>?_)
 cases r with
 |error e=>exact hx pI H1 s1 e s' I1 hq
 |ok fl=>
  cases fl with
  |ret u=>exact I1.after hq
  |next=>exact A3 hq
  |brk=>exact A3 hq
  |cont=>exact A3 hq
def PJ(K:Fg)(CL:ClA)(Rp:Hp->V->D->Prop)(E0:XK)(H:Hp)(r:R D)(Q:VK):Prop:=match r with
  |.ok d=>∀ v H',Az H H'->Rp H' v d->Q v H'
  |.exn y=>∀ cls dx H',Az H H'->E6 K CL H' cls dx y->E0 cls dx H'
  |.bad=>AW
theorem Ll{k n:Af}{fr:Am}{f:Ak}{F:Ac D->R D}{e:An}{es:Ac An}{fs ft:Rho->R (Ac D)}{sh:Rho->Am}{E0:XK}(G:FnOk X.prog X.w X.K X.mg X.base CX k f fd ps (spD X.K CL n fr F))(hr:Room k X.A)(hg:Gl X x)(hm:X.mg x=Aa (.ref f))(hk:Bc X.K (.ref f)=Ab)(hb:ED X.K fd ps [])(hx:∀ pI H s e s',Inv X pI Y0 H s->CX X.stack H s E0 e s'->X.xe e s')(ha:SA X CL (λ_ _=>AW) (e::es) fs)(hat:SAT X CL (λ_ _=>AW) (e::es) ft)(hst:∀ U,sh U=Ab->ft U=fs U)(hn:∀ U ds,ft U=.ok ds->ds.length=n)(hnx:∀ U y,ft U≠.exn y)(hdb:(x==("__debug__" : Ag))=Ad)(he:As (e::es) X.env=(Ad,eval e X.env)::As es X.env)(hpl:∀ pos,(Bv pos (As es X.env)).any (·.1)=Ad)(A:Ak->Prop):PE X (.Call (.Name x p) (e::es) [] pos) (λY H Q=>Y=Y0/\AOk H A/\∃ U,Good X.K CL A U Y H/\PJ X.K CL (Du X.K CL fr H A) E0 H ((ft U).bind λds=>(F ds).bind λd=>if sh U=Ab then .ok d else if FK fr d=Ab then .ok d else .bad) Q):=λpI s Y H Q I ⟨e0,hA,U,gd,q⟩=>by
 by_cases hs:sh U=Ab
 .rw[hst U hs]at q;refine Rj G hr hg hm hk hb hx (ha A) hdb he (hpl _) pI s Y H Q I ⟨e0,hA,U,gd,?_⟩;cases e1:fs U with
  |bad=>rw[e1]at q;exact q
  |exn y=>exact absurd (by rw[hst U hs];exact e1) (hnx U y)
  |ok ds=>
   rw[e1]at q;intro vs H1 s1 r1;refine⟨ds,A,by rw[r1.length];exact hn U ds (by rw[hst U hs];exact e1),hA.same s1,r1,?_⟩
   have q':PJ X.K CL (Du X.K CL fr H A) E0 H ((F ds).bind λd=>if sh U=Ab then .ok d else if FK fr d=Ab then .ok d else .bad) Q:=q
   cases e2:F ds with
   |ok d=>
    rw[e2,R.bind_ok,At hs]at q';exact λv H2 s2 r2=>q' v H2 (s1.trans s2) ⟨r2.1,λz ds' e'=>let ⟨a,xs,z1,z2,z3⟩:=r2.2 z ds' e';⟨a,xs,z1,s1.free z2,z3⟩⟩
   |exn y=>
    rw[e2]at q';exact λcls dx H2 s2 xr=>q' cls dx H2 (s1.trans s2) xr
   |bad=>rw[e2]at q';exact q'.elim
 .refine Rj G hr hg hm hk hb hx (hat A) hdb he (hpl _) pI s Y H Q I ⟨e0,hA,U,gd,?_⟩;cases e1:ft U with
  |bad=>rw[e1]at q;exact q
  |exn y=>exact absurd e1 (hnx U y)
  |ok ds=>
   rw[e1]at q;intro vs H1 s1 r1;refine⟨ds,A0,by rw[r1.plain.length];exact hn U ds e1,λ_ z=>z.elim,r1.plain,?_⟩
   have q':PJ X.K CL (Du X.K CL fr H A) E0 H ((F ds).bind λd=>if sh U=Ab then .ok d else if FK fr d=Ab then .ok d else .bad) Q:=q
   cases e2:F ds with
   |ok d=>
    rw[e2,R.bind_ok,AA hs]at q';split at q'
    .rename_i hc;exact λv H2 s2 r2=>q' v H2 (s1.trans s2) (S7 hA (s1.trans s2) hc ⟨r2.1,λz ds' e'=>let ⟨a,xs,z1,z2,z3⟩:=r2.2 z ds' e';⟨a,xs,z1,s1.free z2,z3⟩⟩)
    .exact q'.elim
   |exn y=>
    rw[e2]at q';exact λcls dx H2 s2 xr=>q' cls dx H2 (s1.trans s2) xr
   |bad=>rw[e2]at q';exact q'.elim
noncomputable def Cx.pw(X:Cx)(pI:Pn)(Xw:Vq):Cx:={X with pn:=X.pn++pI,xe:=Xw}
section
variable{X:Cx}{pI pins':Pn}{Y:L2.St}{H:Hp}{s:Ap}{Xw:Vq}
theorem Uh(ok:X.Ok):(Cx.pw X pI Xw).Ok:=⟨ok.mod,ok.kind,ok.glob,ok.blt,ok.above,ok.inj,ok.has,ok.cab,ok.hd,ok.frames,ok.stk,ok.exf,ok.bs,ok.bsz,ok.noex,ok.exfs,ok.funs,ok.frf⟩
theorem Ku(I:Inv X pI Y H s)(Xw:Vq):Inv (Cx.pw X pI Xw) [] Y H s:=⟨Uh I.ok,I.os,I.bare,I.base,I.loc,I.cell,I.free,I.freeC,λp hp=>I.pin p (by
 rcases Dv.mp hp with z|z
 .exact z
 .exact absurd z (by simp)),I.hok,I.len⟩
theorem JH(ok:X.Ok)(I:Inv (Cx.pw X pI Xw) pins' Y H s):Inv X pI Y H s:=⟨ok,I.os,I.bare,I.base,I.loc,I.cell,I.free,I.freeC,λp hp=>I.pin p (EH _ hp),I.hok,I.len⟩
theorem MC(ok:X.Ok){D:Ends}{f:Flow}{s':Ap}(h:SP (Cx.pw X pI Xw) pins' D f s'):SP X pI D f s':=by
 cases f with
 |next=>obtain⟨Y',H',I,q⟩:=h;exact⟨Y',H',JH ok I,q⟩
 |brk=>obtain⟨Y',H',I,q⟩:=h;exact⟨Y',H',JH ok I,q⟩
 |cont=>obtain⟨Y',H',I,q⟩:=h;exact⟨Y',H',JH ok I,q⟩
 |ret u=>obtain⟨v,Y',H',I,r,q⟩:=h;exact⟨v,Y',H',JH ok I,r,q⟩
end
section
variable{X:Cx}{CL:ClA}{k n:Af}{fr:Am}{f:Ak}{fd:Bx}{ps:Ac Ag}{F:Ac D->R D}{x:Ag}{p pos pos2:AC}{e:An}{es:Ac An}{fs ft:Rho->R (Ac D)}{sh:Rho->Am}
theorem RU{y:Ex}(hx:X.ex=[])(ok:X.Ok)(q:JU X CL pI Y H y Xw):∀ pins' H1 s1 e s',Inv (Cx.pw X pI Xw) pins' Y H1 s1->CXR X.prog X.w (Cx.pw X pI Xw).stack H1 s1 (λcls dx H'=>E6 X.K CL H' cls dx y/\Az H H') e s'->(Cx.pw X pI Xw).xe e s':=by
 intro pins' H1 s1 ev s' J h;obtain⟨e,T,cls,dx,H',rfl,os,bare,un,hok,fl,he,hT,ne,nT,xr,sm⟩:=h;have J':=JH ok J;have J2:=J'.call' (s':=s') (ch:=[]) os un hok bare (λb z=>absurd z (by simp))
 exact q s' H' e T cls dx J2 sm fl he hT (JI J' hx ne) (JI J' hx nT) xr
theorem RV:∀ pins' H1 s1 e s',Inv (Cx.pw X pI Xw) pins' Y H1 s1->CXR X.prog X.w (Cx.pw X pI Xw).stack H1 s1 (λ_ _ _=>AW) e s'->(Cx.pw X pI Xw).xe e s':=by
 intro pins' H1 s1 ev s' J h;obtain⟨e,T,cls,dx,H',rfl,os,bare,un,hok,fl,he,hT,ne,nT,w⟩:=h;exact w.elim
variable(hx0:X.ex=[])(G:FnOk X.prog X.w X.K X.mg X.base (CXR X.prog X.w) k f fd ps (spD X.K CL n fr F))(hr:Room k X.A)(hg:Gl X x)(hm:X.mg x=Aa (.ref f))
    (hk:Bc X.K (.ref f)=Ab) (hb:ED X.K fd ps []) (hst:∀ U,sh U=Ab->ft U=fs U) (hn:∀ U ds,ft U=.ok ds->ds.length=n) (hnx:∀ U y,ft U≠.exn y)
    (hdb:(x==("__debug__" : Ag))=Ad) (he:As (e::es) X.env=(Ad,eval e X.env)::As es X.env) (hpl:∀ pos,(Bv pos (As es X.env)).any (·.1)=Ad)
    (ha:∀ pI Xw,DQ (model X.prog X.w) X.A X.env Xw->SA (Cx.pw X pI Xw) CL (λ_ _=>AW) (e::es) fs/\SAT (Cx.pw X pI Xw) CL (λ_ _=>AW) (e::es) ft)
include hx0 G hr hg hm hk hb hst hn hnx hdb he hpl ha
theorem ZX(hs:CK (.Call (.Name x p) (e::es) [] pos) Ae pos2.line X.env=pure Ad):STB X CL [.Expr (.Call (.Name x p) (e::es) [] pos) pos2] (λU=>O.of U ((ft U).bind λds=>(F ds).bind λd=>if sh U=Ab then .ok d else if FK fr d=Ab then .ok d else .bad) λ_=>.next U):=by
 intro Fz B pI s Y H D U Xw own I sx q _;obtain⟨ha1,ha2⟩:=ha pI Xw own;dsimp only at q;cases er:(ft U).bind λds=>(F ds).bind λd=>if sh U=Ab then .ok d else if FK fr d=Ab then .ok d else .bad with
 |bad=>rw[er]at q;exact q.elim
 |exn y=>
  rw[er]at q;have key:=Ll (X:=Cx.pw X pI Xw) (p:=p) (pos:=pos) (Y0:=Y) (fr:=fr) (F:=F) (n:=n) (sh:=sh) G hr hg hm hk hb (RU hx0 I.ok (q rfl)) ha1 ha2 hst hn hnx hdb he hpl (Bk B U Y);refine A4 (Kk (Ls (pos:=pos2) key hs) [] s Y H D (Ku I Xw) ⟨rfl,sx.aok,U,sx.good,?_⟩) (λ_ _ z=>MC I.ok z) λ_ _ z=>z
  rw[er];exact λcls dx H' sm xr=>⟨xr,sm⟩
 |ok d=>
  rw[er]at q;have key:=Ll (X:=Cx.pw X pI Xw) (p:=p) (pos:=pos) (Y0:=Y) (fr:=fr) (F:=F) (n:=n) (sh:=sh) (E0:=λ_ _ _=>AW) G hr hg hm hk hb RV ha1 ha2 hst hn hnx hdb he hpl (Bk B U Y)
  refine A4 (Kk (Ls (pos:=pos2) key hs) [] s Y H D (Ku I Xw) ⟨rfl,sx.aok,U,sx.good,?_⟩) (λ_ _ z=>MC I.ok z) λ_ _ z=>z
  rw[er];exact λv H' sm r=>q Y H' (sx.grow sm)
theorem dA{i:Af}{m:Ag}(hN:X.N.Nodup)(hi:X.N[i]?=Aa m)(hl:Loc X.env.scope m)(hf:X.fn m=Ab\/X.env.scope.names.lookup m=Aa .local)(hs:CK (.Call (.Name x p) (e::es) [] pos) (Aa (.Name m pos')) pos2.line X.env=pure Ad):STB X CL [.Assign [.Name m pos'] (.Call (.Name x p) (e::es) [] pos) pos2] (λU=>O.of U ((ft U).bind λds=>(F ds).bind λd=>if sh U=Ab then .ok d else if FK fr d=Ab then .ok d else .bad) λd=>.next (U.set i (Aa (d,Ad)))):=by
 intro Fz B pI s Y H D U Xw own I sx q _;obtain⟨ha1,ha2⟩:=ha pI Xw own;dsimp only at q;cases er:(ft U).bind λds=>(F ds).bind λd=>if sh U=Ab then .ok d else if FK fr d=Ab then .ok d else .bad with
 |bad=>rw[er]at q;exact q.elim
 |exn y=>
  rw[er]at q;have key:=Ll (X:=Cx.pw X pI Xw) (p:=p) (pos:=pos) (Y0:=Y) (fr:=fr) (F:=F) (n:=n) (sh:=sh) G hr hg hm hk hb (RU hx0 I.ok (q rfl)) ha1 ha2 hst hn hnx hdb he hpl (Bk B U Y);refine A4 (Kk (MP (X:=Cx.pw X pI Xw) (i:=i) (pos:=pos2) hN hi hl key hs hf) [] s Y H D (Ku I Xw) ⟨rfl,sx.aok,U,sx.good,?_⟩) (λ_ _ z=>MC I.ok z) λ_ _ z=>z
  rw[er];exact λcls dx H' sm xr=>⟨xr,sm⟩
 |ok d=>
  rw[er]at q;have key:=Ll (X:=Cx.pw X pI Xw) (p:=p) (pos:=pos) (Y0:=Y) (fr:=fr) (F:=F) (n:=n) (sh:=sh) (E0:=λ_ _ _=>AW) G hr hg hm hk hb RV ha1 ha2 hst hn hnx hdb he hpl (Bk B U Y)
  refine A4 (Kk (MP (X:=Cx.pw X pI Xw) (i:=i) (pos:=pos2) hN hi hl key hs hf) [] s Y H D (Ku I Xw) ⟨rfl,sx.aok,U,sx.good,?_⟩) (λ_ _ z=>MC I.ok z) λ_ _ z=>z
  rw[er];exact λv H' sm r=>q _ H' ((sx.grow sm).set i r.1)
end
section
variable{X:Cx}{CL:ClA}{W:XW}
theorem ZZ{np cpos pos:AC}{e:An}{es:Ac An}{fs:Rho->R (Ac D)}(hcalm:X.calm=Ab)(rz:LW X CL W)(hg:Gl X g)(hm:X.mg g=Aa (.ref C))(hdb:(g==("__debug__" : Ag))=Ad)(xc:C4 X.K C Ae=Ab)(hcl:CL c=Aa C)(ha:SA X CL W (e::es) fs)(hxn:∀ ds,xn c ds=.bad\/xn c ds=.ok ⟨c,[]⟩)(he:As (e::es) X.env=(Ad,eval e X.env)::As es X.env)(hpl:∀ pos,(Bv pos (As es X.env)).any (·.1)=Ad)(hz:∀ U ds,fs U=.ok ds->ds.length<=100000):SS X CL W (.Raise (Aa (.Call (.Name g np) (e::es) [] cpos)) Ae pos) (λU=>O.of U (noX (fs U)) λxs=>O.of U (xn c xs) λx=>.exn x U):=λFz B pI s Y H D I ⟨U,x,p⟩=>by
 dsimp only at p;cases e1:fs U with
 |bad=>rw[e1]at p;exact p.elim
 |exn y=>rw[e1]at p;exact p.elim
 |ok ds=>
  rw[e1]at p;have p2:Bs X.K CL Fz B W (O.of U (xn c ds) λx=>.exn x U) D:=p
  rcases hxn ds with e2|e2
  .rw[e2]at p2;exact p2.elim
  .rw[e2]at p2;have p3:∀ H,(∀ b o,Fz b o->H b=Aa o)->W ⟨c,[]⟩ H:=p2;obtain⟨bm,N,nm,qn,bs,hd,sn,sub,ab,col,dd,k0,k1,k2,k3,k5,mN,hob,hni,hbase⟩:=Lh I.kIn xc;refine wpAny_Raise_call_subT (bmB:=veB) (nm:=nm) (q:=qn) (C:=C) (N:=N) (bs:=bs) (bm:=bm) (hdct:=hd) (sn:=sn) (sub:=sub) (ab:=ab) (col:=col) (dd:=dd) (k0:=k0) (k1:=k1) (k2:=k2) (k3:=k3) (k5:=k5) (mN:=mN) CW hbase (I.ok.hd hcalm) (by rw[he];show (Ad||(Bv cpos (As es X.env)).any (·.1))=Ad;rw[hpl];rfl) hni ?_
   refine HL I hg hm ⟨rfl,?_⟩ hdb;have q1:=ha (Bk B U Y) cpos pI s Y H (λvs H1=>Az H H1/\vs.length=ds.length) I ⟨x.aok,U,x.good,by rw[e1];exact λvs H1 s1 r1=>⟨s1,r1.length⟩⟩
   rw[he]at q1 ⊢;refine EI (A4 q1 (λus s2 ⟨vs,H2,I2,r2,s2',hl⟩=>⟨rfl,?_⟩) λ_ _ z=>z)
   obtain⟨o1,o2,o3⟩:=hob _ I2.kIn;refine⟨?_,o1,o2,o3,λh' ev hmade=>?_⟩
   .rw[<-r2.length,hl,Cc];have:=hz U ds e1;omega
   .obtain⟨t,ge,_⟩:=hmade.there;have I3:Inv X pI Y H2 {s2 with heap:=h'}:=I2.kept (t':=s2.toks) hmade.keeps
    exact rz pI Y H2 _ ev C Ae t ⟨c,[]⟩ I3 (λhx=>HH I2 hx hmade.new) (HI I2.hok hmade.new) ge (λA _=>⟨C,hcl,rfl,.inl rfl⟩) (p3 H2 λb o z=>s2' _ _ (x.same b o z))
def Lx(K:Fg)(CL:ClA)(up:Af->Ac Af)(c':Af)(C':Ak):Prop:=∀ c C,CL c=Aa C->BQ K (.ref C) (.ref C')=Aa ((up c).contains c')
theorem Rw{s:Ap}{a C:Ak}{cv:Aj}{b:Am}{Q:VK}(I:Inv X pI Y H s)(ha:H a=Aa (.ext φ))(hφ:∀ h,φ h->∃ o,h.get? a=Aa o/\o.cls=.ref C)(xc:XcOk X.K C)(e:BQ X.K (.ref C) cv=Aa b)(q:Q (.bl b) H):
  Av (model X.prog X.w) X.A (call (.builtin "isinstance") [.ref a,cv]) (EP X pI Y Q) X.xe s:=by
 have p:XAt a C s.heap:=hφ _ (I.hok a _ ha).1;exact B6 (Ru xc) I.kIn p e (by intro z;cases z) λtk=>⟨.bl b,H,I.tok tk,rfl,q⟩
theorem QX:∀(Cs:Ac Ak){its:Ac Aj},AX (Cs.map V.ref) its->its=Cs.map Bf
 |[],_,rv=>by cases rv;rfl
 |c::cs,_,rv=>by
  cases rv with
  |cons h1 h2=>rw[QX cs h2];cases h1;rfl
theorem eW{s:Ap}{a C tp:Ak}{Cs:Ac Ak}{b:Am}{Q:VK}(I:Inv X pI Y H s)(ha:H a=Aa (.ext φ))(hφ:∀ h,φ h->∃ o,h.get? a=Aa o/\o.cls=.ref C)(xc:XcOk X.K C)(ht:H tp=Aa (.tup (Cs.map V.ref)))(e:HZ X.K (.ref C) (Cs.map Bf)=Aa b)(q:Q (.bl b) H):
  Av (model X.prog X.w) X.A (call (.builtin "isinstance") [.ref a,.ref tp]) (EP X pI Y Q) X.xe s:=by
 have p:XAt a C s.heap:=hφ _ (I.hok a _ ha).1;obtain⟨_,its,rv,⟨o,ho,hc,n,hd⟩⟩:=I.hok tp _ ht;have ei:its=Cs.map Bf:=QX Cs rv;subst ei;obtain⟨cls,dd,dat,sl⟩:=o;have hc':cls=.type "tuple" := hc;have hd':dat=.seq (Ew (Cs.map Bf)) n:=hd;subst hc' hd';exact PySem.W.kia_tup (Ru xc) I.kIn p ho e (by intro z;cases z) λtk=>⟨.bl b,H,I.tok tk,rfl,q⟩
theorem Sj{K:Fg}{up:Af->Ac Af}{c:Af}{C:Ak}(h:CL c=Aa C):∀(cs:Ac (Af×Ak)),(∀ p∈cs,Lx K CL up p.1 p.2)->HZ K (.ref C) ((cs.map λq:Af×Ak=>q.2).map Bf)=Aa (cs.any λp=>(up c).contains p.1)
  |[],_=>rfl
  |p::cs,hk=>by
    have h1:=hk p AE c C h;have h2:=Sj h cs λq hq=>hk q (Aw _ hq)
    show (match BQ K (.ref C) (.ref p.2) with
      |some Ab=>Aa Ab
      |some Ad=>HZ K (.ref C) ((cs.map λq:Af×Ak=>q.2).map Bf)
      | none=>Ae)=_
    rw[h1,GN];cases (up c).contains p.1 with
    |true=>rfl
    |false=>rw[h2];rfl
theorem Os{ks:Ac Ki}{Q:VK}(hk:ks.all D5=Ab)(hne:ks≠[])(p:AR Rp W H (Er up ks d) Q):∃ c fs,d=.exc c fs/\AR Rp W H (.ok (.bl (ks.any λk=>kiD up k d))) Q:=by
 have ha:ks.any D5=Ab:=by
  cases ks with
  |nil=>exact absurd rfl hne
  |cons k ks=>simp only[Dg,Al]at hk;simp[GN,hk.1]
 cases d with
 | exc c fs=>exact⟨c,fs,rfl,by
   have p':AR Rp W H (if ks.all D5=Ab then .ok (.bl (ks.any λk=>kiD up k (.exc c fs))) else .bad) Q:=p
   rw[At hk]at p';exact p'⟩
 |obj c fs=>exact A3 p
 |dic _=>exact A3 p
 |non=>simp only[Er,ha,EF]at p;exact A3 p
 |bl _=>simp only[Er,ha,EF]at p;exact A3 p
 |int _=>simp only[Er,ha,EF]at p;exact A3 p
 |str _=>simp only[Er,ha,EF]at p;exact A3 p
 |tup _=>simp only[Er,ha,EF]at p;exact A3 p
 |lst _=>simp only[Er,ha,EF]at p;exact A3 p
theorem Oz{v:V}{fs:Ac (Ag×D)}(r:Cm K CL H A v (.exc c fs)):∃ a C φ,v=.ref a/\CL c=Aa C/\H a=Aa (.ext φ)/\∀ h,φ h->∃ o,h.get? a=Aa o/\o.cls=.ref C:=by
 rcases r with ⟨a,C,φ,e,_,hc,hH,hφ,_⟩|⟨a,xs,ds,_,z,_⟩
 .exact⟨a,C,φ,e,hc,hH,hφ⟩
 .cases z
variable{a:An}{fa:Rho->R D}{up:Af->Ac Af}{x:Ag}{p p2 pos:AC}
theorem Tb{c':Af}(hxc:∀ c C,CL c=Aa C->XcOk X.K C)(hg:Gl X "isinstance")(hm:X.mg "isinstance" = Ae)(hg2:Gl X x)(hm2:X.mg x=Aa (.ref C'))(hkit:Lx X.K CL up c' C')(hdb:(x==("__debug__" : Ag))=Ad)(ha:ST X CL W a fa)(he:As [a,.Name x p2] X.env=(Ad,eval a X.env)::As [.Name x p2] X.env):SE X CL W (.Call (.Name "isinstance" p) [a,.Name x p2] [] pos) (λU=>(fa U).bind λx=>Er up [.cls c'] x):=λA=>
 PE.weak (Kd (r:=λxs H Q=>∃ a C φ c,xs=[.ref a,.ref C']/\CL c=Aa C/\H a=Aa (.ext φ)/\(∀ h,φ h->∃ o,h.get? a=Aa o/\o.cls=.ref C)/\Q (.bl ((up c).contains c')) H) (λpI s Y H xs us Q I r ⟨b,C,φ,c,e,hc,hH,hφ,q⟩=>by
   subst e;obtain⟨u,w',rfl,r1,r2⟩:=JR r;cases r1;cases r2;exact Rw I hH hφ (hxc c C hc) (hkit c C hc) q)
  hg hm Fb (DN (ha A) (DN (OD (v:=.ref C') hg2 hm2 rfl hdb) Fj rfl) he) (by decide) (by decide) he rfl) λY H Q ⟨hA,U,g,q⟩=>⟨hA,U,g,AR.bind q λd v H1 _ s1 r1 p1=>by
   obtain⟨c,fs,rfl,p2⟩:=Os (by rfl) (by simp) p1
   obtain⟨b,C,φ,rfl,hc,hH,hφ⟩:=Oz r1;refine⟨b,C,φ,c,rfl,hc,hH,hφ,p2 _ H1 (Az.refl H1) ?_⟩;exact congrArg V.bl (D9 _).symm⟩
theorem TR(hxc:∀ c C,CL c=Aa C->XcOk X.K C)(hg:Gl X "isinstance")(hm:X.mg "isinstance" = Ae)(hg2:Gl X "ValueError")(hm2:X.mg "ValueError" = Ae)(ha:ST X CL W a fa)(he:As [a,.Name "ValueError" p2] X.env=(Ad,eval a X.env)::As [.Name "ValueError" p2] X.env):SE X CL W (.Call (.Name "isinstance" p) [a,.Name "ValueError" p2] [] pos) (λU=>(fa U).bind λx=>Er up [.verr] x):=λA=>
 PE.weak (Kd (r:=λxs H Q=>∃ a C φ c,xs=[.ref a,.ty "ValueError"]/\CL c=Aa C/\H a=Aa (.ext φ)/\(∀ h,φ h->∃ o,h.get? a=Aa o/\o.cls=.ref C)/\Q (.bl Ab) H) (λpI s Y H xs us Q I r ⟨b,C,φ,c,e,hc,hH,hφ,q⟩=>by
   subst e;obtain⟨u,w',rfl,r1,r2⟩:=JR r;cases r1;cases r2;exact Rw I hH hφ (hxc c C hc) (hxc c C hc).ve q)
  hg hm Fb (DN (ha A) (DN (SG (v:=.ty "ValueError") hg2 hm2 PyProof.Rows.Boot.«ValueError» rfl (by decide) (by decide)) Fj rfl) he) (by decide) (by decide) he rfl) λY H Q ⟨hA,U,g,q⟩=>⟨hA,U,g,AR.bind q λd v H1 _ s1 r1 p1=>by
   obtain⟨c,fs,rfl,p2⟩:=Os (by rfl) (by simp) p1
   obtain⟨b,C,φ,rfl,hc,hH,hφ⟩:=Oz r1;refine⟨b,C,φ,c,rfl,hc,hH,hφ,p2 _ H1 (Az.refl H1) ?_⟩;exact congrArg V.bl (D9 _).symm⟩
theorem iE(up:Af->Ac Af)(c:Af)(fs:Ac (Ag×D))(cs:Ac (Af×Ak)):((cs.map λq=>Ki.cls q.1).any λk=>kiD up k (.exc c fs))=cs.any λq=>(up c).contains q.1:=F4
def UX(Cs:Ac Ak):TA:=λ_ H Q=>Q (Cs.map V.ref) H
theorem jE{ts:Ac An}{cs:Ac (Af×Ak)}(hxc:∀ c C,CL c=Aa C->XcOk X.K C)(hg:Gl X "isinstance")(hm:X.mg "isinstance" = Ae)(hts:PA X ts (UX (cs.map λq:Af×Ak=>q.2)))(hne:cs≠[])(hl:cs.length<=1000)(hkit:∀ q∈cs,Lx X.K CL up q.1 q.2)(ha:ST X CL W a fa)(he:As [a,.Tuple ts kk p2] X.env=(Ad,eval a X.env)::As [.Tuple ts kk p2] X.env):SE X CL W (.Call (.Name "isinstance" p) [a,.Tuple ts kk p2] [] pos) (λU=>(fa U).bind λx=>Er up (cs.map λq=>.cls q.1) x):=λA=>
 PE.weak (Kd (r:=λxs H Q=>∃ a C φ c tp,xs=[.ref a,.ref tp]/\CL c=Aa C/\H a=Aa (.ext φ)/\(∀ h,φ h->∃ o,h.get? a=Aa o/\o.cls=.ref C)/\H tp=Aa (.tup ((cs.map λq:Af×Ak=>q.2).map V.ref))/\Q (.bl (cs.any λq=>(up c).contains q.1)) H) (λpI s Y H xs us Q I r ⟨b,C,φ,c,tp,e,hc,hH,hφ,ht,q⟩=>by
   subst e;obtain⟨u,w',rfl,r1,r2⟩:=JR r;cases r1;cases r2;exact eW I hH hφ (hxc c C hc) ht (Sj hc cs hkit) q)
  hg hm Fb (DN (ha A) (DN (Tn hts) Fj rfl) he) (by decide) (by decide) he rfl) λY H Q ⟨hA,U,g,q⟩=>⟨hA,U,g,AR.bind q λd v H1 _ s1 r1 p1=>by
   have hk:(cs.map λq=>Ki.cls q.1).all D5=Ab:=by simp[DX,D5]
   obtain⟨c,fs,rfl,p2⟩:=Os hk (by simpa using hne) p1
   obtain⟨b,C,φ,rfl,hc,hH,hφ⟩:=Oz r1;refine⟨by rw[Bi,Bi,Cc];omega,λt ht=>?_⟩
   have hbt:b≠t:=FE hH ht;refine⟨b,C,φ,c,t,rfl,hc,by rw[Be hbt];exact hH,hφ,DD,p2 _ _ (EL ht _) ?_⟩
   exact congrArg V.bl (iE up c fs cs).symm⟩
end
theorem Pa(q:C4 K C v=Ab):∃ dd cd sl bm,K.lookup C=Aa ⟨.type "type",dd,.cls cd,sl⟩/\cd.mro=.ref C::bm:=by
 unfold C4 at q;split at q
 .rename_i dd cd sl ho;split at q
  .rename_i C' bm k0 k1 k2 k3 n k5 hm hs;simp only[Al,AG,Bm]at q;obtain⟨rfl,_⟩:=q;exact⟨dd,cd,sl,bm,ho,hm⟩
  .cases q
 .cases q
theorem Ms(q:C4 K C v=Ab):∃ cd bm,Di K C=Aa cd/\cd.mro=.ref C::bm:=by
 obtain⟨dd,cd,sl,bm,h1,h2⟩:=Pa q;exact⟨cd,bm,by unfold Di;rw[h1],h2⟩
theorem S3(q:C4 K C v=Ab):Da K (.ref C)=Aa (.type "type"):=by
 obtain⟨dd,cd,sl,bm,h1,h2⟩:=Pa q;show (K.lookup C).map _=_;rw[h1];rfl
theorem fN{v:Am}{i i':Ao Aj}(q:C4 K C i=Ab)(q':C4 K C' i'=Ab)(su:By K (.ref C) (.ref C')=Aa v):BQ K (.ref C) (.ref C')=Aa v:=by
 unfold BQ;by_cases e:C=C'
 .subst e;obtain⟨cd,bm,h1,h2⟩:=Ms q;have su':BZ K C (.ref C)=Aa v:=su;have:v=Ab:=by
   unfold BZ at su';rw[h1,Wc,h2,AA (by simp)]at su'
   rw[<-Bg su'];simp
  rw[At (by simp),this]
 .rw[AA (λz=>e (IP (AG.mp z)))]
  obtain⟨cd,bm,h1,h2⟩:=Ms q';show (if ((Di K C').isSome&&Da K (.ref C')==Aa (.type "type"))=Ab then By K (.ref C) (.ref C') else Ae)=_
  rw[h1,S3 q',At (by simp),su]
theorem pN(exc:C4 K C v=Ab)(ga:Ar K (.ref C) "__getattribute__" = Aa (Aa (.builtin "BaseException.__getattribute__")))(gt:Ar K (.ref C) "__getattr__" = Aa Ae)(cl:Ar K (.ref C) "__class__" = Aa (Aa (.builtin "object.__class__")))(ob:BZ K C (.type "object")=Aa Ab)(be:By K (.ref C) (.type "BaseException")=Aa Ab)(sv:By K (.ref C) (.type "ValueError")=Aa Ab):XcOk K C:=by
 obtain⟨cd,bm,h1,h2⟩:=Ms exc;refine⟨⟨v,exc⟩,ga,gt,cl,ob,be,by rw[h1];rfl,?_⟩
 unfold BQ;rw[AA (λz=>by cases AG.mp z)]
 have hm:XJ "ValueError" = Ab:=by decide+kernel
 show (if XJ "ValueError" = Ab then By K (.ref C) (.type "ValueError") else Ae)=_
 rw[At hm,sv]
noncomputable abbrev Np:CXT:=λ_ _ _ _ _ _=>AW
structure HotOk (P:AL) (w:AV) (K:Fg) (mg:Ag->Ao Aj) (base:AF) (k:Af) (f:Ak) (fd:Bx) (ps:Ac Ag) (sp:Sp):Prop where
 len:∀ vs H Q E,sp vs H Q E->vs.length=ps.length
 run:∀(A:AT)(ev:Ak)(outer:Ac Cb)(s:Ap)(H:Hp)(args:Args)(us:Ac Aj)(vs:Ac V)(Q:VK)(E:XK),Room k A->Env0 P w K mg base (A.mark (Aa (.ref ev))) outer s H->Gr s fd args (ps.zip us)->AX vs us->sp vs H Q E ->
  Ez (model P w) (A.mark (Aa (.ref ev))) (.call (.ref f) args) (CR Np outer P w H s Q E) s
theorem aV{v:Am}{i:Ao Aj}(q:C4 K C i=Ab)(mr:BZ K C' (.type "object")=Aa Ab)(ty:Da K (.ref C')=Aa (.type "type"))(su:By K (.ref C) (.ref C')=Aa v):BQ K (.ref C) (.ref C')=Aa v:=by
 unfold BQ;by_cases e:C=C'
 .subst e;obtain⟨cd,bm,h1,h2⟩:=Ms q;have su':BZ K C (.ref C)=Aa v:=su;have:v=Ab:=by
   unfold BZ at su';rw[h1,Wc,h2,AA (by simp)]at su'
   rw[<-Bg su'];simp
  rw[At (by simp),this]
 .rw[AA (λz=>e (IP (AG.mp z)))]
  show (if ((Di K C').isSome&&Da K (.ref C')==Aa (.type "type"))=Ab then By K (.ref C) (.ref C') else Ae)=_
  have cs:(Di K C').isSome=Ab:=by
   unfold BZ at mr;cases e1:Di K C' with
   |none=>rw[e1]at mr;cases mr
   |some cd=>rfl
  rw[cs,ty,At (by simp),su]
def spH(K:Fg)(CL:ClA)(n:Af)(fr:Am)(F:Ac D->R D):Sp:=λvs H Q _=>∃(ds:Ac D)(A:Ak->Prop),vs.length=n/\AOk H A/\Reps K CL H A vs ds/\(match F ds with
  |.ok d=>∀ v H',Az H H'->Du K CL fr H A H' v d->Q v H'
  |.exn _=>AW
  | .bad=>AW)
section
variable{X:Cx}{CL:ClA}{ev:Ak}
theorem cZ{t:An}{xs ys:Ac AI}{fc:Rho->R Am}{fx fy:Rho->O}(hc:∀ pI Xw,DQ (model X.prog X.w) X.A X.env Xw->SB (Cx.pw X pI Xw) CL (λ_ _=>AW) t fc)(hnx:∀ U y,fc U≠.exn y)(hx:STB X CL xs fx)(hy:STB X CL ys fy):STB X CL [.If t xs ys pos] (λU=>O.of U (fc U) λb=>if b=Ab then fx U else fy U):=by
  intro Fz B pI s Y H D U Xw own I sx q hρ;dsimp only at q hρ;cases ec:fc U with
  |bad=>rw[ec]at q;exact q.elim
  |exn y=>exact absurd ec (hnx U y)
  |ok b=>
    rw[ec]at q hρ;have key:=hc pI Xw own (Bk B U Y) [] s Y H (λb' H'=>b'=b/\Az H H') (Ku I Xw) ⟨sx.aok,U,sx.good,by rw[ec];exact λH' sm=>⟨rfl,sm⟩⟩
    refine Hh (thn (wpAny_If (Q:=SP X pI D) (thn key λb' s1 ⟨H1,I1,e,sm⟩=>?_)) (λf s1 z=>by
      cases f with
      |next=>exact Ei z
      |ret v=>exact z
      |brk=>exact z
      | cont=>exact z))
    subst e;have J:=JH I.ok I1;have up:∀{y:Ex},JU X CL pI Y H y Xw->JU X CL pI Y H1 y Xw:=λ{y} w s' H' e T cls dx a1 a2=>w s' H' e T cls dx a1 (sm.trans a2)
    have lift:∀{o:O},(match o with
       |.exn y U'=>U'=U->JU X CL pI Y H y Xw
       |o=>Bs X.K CL Fz B (λ_ _=>AW) o D)->(match o with
       |.exn y U'=>U'=U->JU X CL pI Y H1 y Xw
       | o=>Bs X.K CL Fz B (λ_ _=>AW) o D):=λ{o} z=>by
      cases o with
      |exn y U'=>exact λe=>up (z e)
      |next _=>exact z
      |ret _ _=>exact z
      |brk _=>exact z
      |cont _=>exact z
      |bad=>exact z
    cases b' with
    |true=>exact hx Fz B pI s1 Y H1 D U Xw own J (sx.grow sm) (lift q) hρ
    |false=>exact hy Fz B pI s1 Y H1 D U Xw own J (sx.grow sm) (lift q) hρ
end
section
variable{M:F9}{A:AT}{E:Vq}{s:Ap}{env:Cb}{nm q:Ag}{C N:Ak}{bs bm bmB:Ac Aj}{hdct:Am}{sn:Ac Ag}{sub:Ac Aj}{ab:Am}{col:Ao Am}{dd:Ao Ak}{k0 k1 k2 k3 k5:Ao Aj}{B newId initId:CQ}
theorem cM{x:Fx Aj}{Q:Flow->Ap->Prop}(hb:bm.contains (.type "BaseException")=Ab)(hh:A.handled=Ae)(h:Av M A x (λv s'=>∃ e t dx,v=.ref e/\s'.heap.get? C=Aa (BP nm q C N bs bm hdct sn sub ab col dd k0 k1 k2 k3 k5 newId)/\s'.heap.get? e=Aa (FW C dx t)/\E (.ref e) s') E s):Av M A (raiseStmt env (Aa x) Ae) Q E s:=by
 have hB:(Bf C::bm).contains (.type "BaseException")=Ab:=by rw[GE,hb,IS]
 unfold raiseStmt;refine Aq (A4 h (λv s' z=>?_) λ_ _ z=>z)
 obtain⟨e,t,dx,rfl,gC,ge,hE⟩:=z;obtain⟨hp,g,d,tk,os⟩:=s';unfold FW at ge
 repeat (first|(with_reducible refine BX ge ?_)|(with_reducible refine BX gC ?_)|(with_reducible refine E1 gC ?_;rw[hB])|wp_step)
 exact wpAny_raiseNew_none hh hE
end
section
variable{prog:AL}{w:AV}{A:AT}{E:Vq}{h:AF}{g:Ba El}{d:Hx}{t:Af}{os:G2}
variable{nm q:Ag}{C N fI:Ak}{bs bm bmB:Ac Aj}{hdct:Am}{sn:Ac Ag}{sub:Ac Aj}{ab:Am}{col:Ao Am}{dd:Ao Ak}{k0 k1 k2 k3 k5:Ao Aj}{B newId initId:CQ}{mN:Ag->Ao Aj}{rest:Ac Aj}{oI:CZ}
theorem dW{Q:Fin->Ap->Prop}(F:Hc B newId initId bmB)(T:Dx h bmB bm)(gC:h.get? C=Aa (BP nm q C N bs bm hdct sn sub ab col dd k0 k1 k2 k3 k5 newId))(hn:h.Ns N mN)(hi:mN "__init__" = Aa (.ref fI))(gI:h.get? fI=Aa oI)(cI:oI.cls=.type "function")(hl:rest.length<=sizeLine)(hq:∀ h' e,HY h h' e (.ref C) rest->Av (model prog w) A (call (.ref fI) (.ref e::rest)) (λr s'=>r=.none/\Q (.done (.ret (.ref e))) s') E ⟨h',g,d,t,os⟩):Av (model prog w) A (Builtin.«type.__call__» ⟨.ref C::rest,[]⟩) Q E ⟨h,g,d,t,os⟩:=by
 repeat (first|(with_reducible refine BX gC ?_)|(with_reducible refine wpAny_madeBy_exc gC ?_)|wp_step)
 refine codeAny_call_builtin_code (GH _ F.quiet) (wpAny_check_new_subT F T gC (codeAny_exc_new_subT F T gC ?_ hl));show Av _ _ _ _ _ _;have kp:∀ b o,h.get? b=Aa o->((h.push { cls:=.type "tuple",data:=.seq rest.toArray }).push {cls:=.ref C,data:=.fields #[.ref h.objs.size,.none,.none,.none,.bool Ad,.none]}).get? b=Aa o:=λb o z=>Au _ (Au _ z)
 have ge:((h.push { cls:=.type "tuple",data:=.seq rest.toArray }).push {cls:=.ref C,data:=.fields #[.ref h.objs.size,.none,.none,.none,.bool Ad,.none]}).get? (h.objs.size+1)=Aa {cls:=.ref C,data:=.fields #[.ref h.objs.size,.none,.none,.none,.bool Ad,.none]}:=by heap_get
 have gt:((h.push { cls:=.type "tuple",data:=.seq rest.toArray }).push {cls:=.ref C,data:=.fields #[.ref h.objs.size,.none,.none,.none,.bool Ad,.none]}).get? h.objs.size=Aa { cls:=.type "tuple",data:=.seq rest.toArray }:=Au _ (Xa rfl rfl);generalize (h.push { cls:=.type "tuple",data:=.seq rest.toArray }).push {cls:=.ref C,data:=.fields #[.ref h.objs.size,.none,.none,.none,.bool Ad,.none]}=h2 at *;have gC2:=kp _ _ gC;have gI2:=kp _ _ gI;have hn2:h2.Ns N mN:=let ⟨o,es,ep,z,r⟩:=hn;⟨o,es,ep,kp _ _ z,r⟩
 have T2:=T.keeps (h':=h2) kp;have cC:(Bf C::bm).contains (.ref C)=Ab:=by simp
 unfold Ij
 repeat (first|(with_reducible refine BX ge ?_)|(with_reducible refine E1 gC2 ?_;rw[cC])|wp_step)
 show Av _ _ (typeLookup (.ref C) _) _ _ _;refine wpAny_typeLookup_tail gC2 hn2 T2 F.mroIs F.init.lookup ?_;rw[hi];refine EV (Aq ?_);unfold bindSpecial;refine Aq (wpAny_typeOf (T := "function") ⟨_,gI2,cI⟩ ?_);rw[At (by decide)]
 refine AS (Aq (A4 (hq h2 (h.objs.size+1) ⟨kp,CC (Jz _),h.objs.size,ge,CC (AK _),gt⟩) (λr s' z=>?_) λ_ _ z=>z))
 obtain⟨rfl,z⟩:=z
 wp_walk
 exact z
theorem RQ{Q:Vq}(F:Hc B newId initId bmB)(T:Dx h bmB bm)(gC:h.get? C=Aa (BP nm q C N bs bm hdct sn sub ab col dd k0 k1 k2 k3 k5 newId))(hn:h.Ns N mN)(hi:mN "__init__" = Aa (.ref fI))(gI:h.get? fI=Aa oI)(cI:oI.cls=.type "function")(hl:rest.length<=sizeLine)(hq:∀ h' e,HY h h' e (.ref C) rest->Av (model prog w) (A.under (.builtin "type.__call__" ⟨.ref C::rest,[]⟩)) (call (.ref fI) (.ref e::rest)) (λr s'=>r=.none/\Q (.ref e) s') E ⟨h',g,d,t,os⟩):Av (model prog w) A (call (.ref C) rest) Q E ⟨h,g,d,t,os⟩:=by
 have l1:=tc_lookup;have l2:=tc_bind (.ref C);have ty:(⟨h,g,d,t,os⟩:Ap).TypeIs (.ref C) "type" := ⟨_,gC,rfl⟩;refine Fq (codeAny_of_tree ?_);show Av _ _ (callAny (.ref C) _) _ _ _
 repeat (any_goals (first|assumption|(with_reducible refine BX gC ?_)|wp_step))
 refine⟨rfl,codeAny_call_builtin_at (GH _ (by decide+kernel)) entry_typeCall (wpAny_check_type_call_sub gC (dW F T gC hn hi gI cI hl λh' e m=>?_))⟩
 exact hq h' e m
end
section
variable{prog:AL}{w:AV}{A:AT}{E:Vq}{s:Ap}{env:Cb}
variable{nm q:Ag}{C N fI:Ak}{bs bm bmB:Ac Aj}{hdct:Am}{sn:Ac Ag}{sub:Ac Aj}{ab:Am}{col:Ao Am}{dd:Ao Ak}{k0 k1 k2 k3 k5:Ao Aj}{B newId initId:CQ}{mN:Ag->Ao Aj}
theorem ZO{Q:Flow->Ap->Prop}{np cpos pos:AC}{args:Ac An}(F:Hc B newId initId bmB)(hb:bm.contains (.type "BaseException")=Ab)(hh:A.handled=Ae)(hp:(Bv cpos (As args env)).any (·.1)=Ad)(hi:mN "__init__" = Aa (.ref fI))(h:Av (model prog w) A (eval (.Name x np) env) (λf s1=>f=.ref C/\Av (model prog w) A (evalArgs (.ref C) Ab (Bv cpos (As args env)) [])
   (λa s2=>a.kw=[]/\a.pos.length<=sizeLine/\s2.heap.get? C=Aa (BP nm q C N bs bm hdct sn sub ab col dd k0 k1 k2 k3 k5 newId)/\s2.heap.Ns N mN/\Dx s2.heap bmB bm/\(∃ oI,s2.heap.get? fI=Aa oI/\oI.cls=.type "function") /\
    ∀ h' e,HY s2.heap h' e (.ref C) a.pos->Av (model prog w) (A.under (.builtin "type.__call__" ⟨.ref C::a.pos,[]⟩)) (call (.ref fI) (.ref e::a.pos)) (λr s'=>r=.none/\∃ t dx,s'.heap.get? C=Aa (BP nm q C N bs bm hdct sn sub ab col dd k0 k1 k2 k3 k5 newId)/\s'.heap.get? e=Aa (FW C dx t)/\E (.ref e) s') E {s2 with heap:=h'}) E s1) E s):Av (model prog w) A (exec (.Raise (Aa (.Call (.Name x np) args [] cpos)) Ae pos) env) Q E s:=by
 rw[arm_exec_Raise]
 try simp only[evalOpt,Option.map]
 refine Aq (Ea (cM (nm:=nm) (q:=q) (C:=C) (N:=N) (bs:=bs) (bm:=bm) (hdct:=hdct) (sn:=sn) (sub:=sub) (ab:=ab) (col:=col) (dd:=dd) (k0:=k0) (k1:=k1) (k2:=k2) (k3:=k3) (k5:=k5) (newId:=newId) hb hh ?_));refine Aq (A4 (wpAny_Call_ofName (A4 h (λf s1 z=>?_) λ_ _ z=>z)) (λv s3 z=>Aq (Ea (AS z))) λ_ _ z=>z)
 obtain⟨rfl,z⟩:=z;unfold callWith;refine Aq (EV (A4 z (λa s2 y=>Aq (Ea ?_)) λ_ _ y=>y))
 obtain⟨us,kw⟩:=a;obtain⟨hk,hl,gC,hn,T,⟨oI,gI,cI⟩,k⟩:=y;obtain rfl:kw=[]:=hk;obtain⟨hp2,g,d,tk,os⟩:=s2;simp only[hp];refine Aq (wpAny_keeperOf_exc gC (Aq (RQ F T gC hn hi gI cI hl λh' e m=>A4 (k h' e m) (λr s' y=>?_) λ_ _ y=>y)))
 obtain⟨rfl,t,dx,c1,c2,c3⟩:=y;exact⟨rfl,Aq (EV (wpAny_point (AS ⟨e,t,dx,rfl,c1,c2,c3⟩)))⟩
end
section
variable{prog:AL}{w:AV}{A:AT}{E:Vq}{h:AF}{g:Ba El}{d:Hx}{tk0:Af}{os:G2}
variable{nm q:Ag}{C N e t:Ak}{dx:Ao Ak}{bs bm bmB:Ac Aj}{hdct:Am}{sn:Ac Ag}{sub:Ac Aj}{ab:Am}{col:Ao Am}{dd:Ao Ak}{k0 k1 k2 k3 k5:Ao Aj}{B newId initId:CQ}
theorem kF{Q:Vq}(F:Hc B newId initId bmB)(T:Dx h bmB bm)(gC:h.get? C=Aa (BP nm q C N bs bm hdct sn sub ab col dd k0 k1 k2 k3 k5 newId))(ge:h.get? e=Aa (FW C dx t))(hq:∀ h' t',(∀ b o,b≠e->h.get? b=Aa o->h'.get? b=Aa o)->h'.get? e=Aa (FW C dx t')->Q .none ⟨h',g,d,tk0,os⟩):Av (model prog w) A (call (.builtin initId) [.ref e,.str z tk]) Q E ⟨h,g,d,tk0,os⟩:=by
 refine Fq (DL F.init.plain F.initEntry (wpAny_check_init_subT F T gC ge rfl ?_));unfold FW at ge
 wp_walk
 refine hq _ h.objs.size (λb o nb z=>(BO _ _ (CB nb)).trans (Au _ z)) ?_
 rw[Cj _ (Au _ ge) rfl];rfl
end
noncomputable def xbd:Af->Af
 |0=>4
 |n+1=>8*xbd n+19
theorem So:∀ n:Fin 100,(Ai (toString ((n.val:Af):Ah))).length<=4:=by decide+kernel
theorem TJ{α:Type}(f:α->Af){m:Af}:∀ l:Ac α,(∀ x∈l,f x<=m)->(l.map f).sum<=l.length*m
 |[],_=>by simp
 |x::l,h=>by
  have h1:=h x AE;have h2:=TJ f l λy hy=>h y (Aw _ hy)
  rw[AZ,List.sum_cons,A2,Nat.succ_mul];omega
section
variable{X:Cx}{CL:ClA}{pI:Pn}{Y:L2.St}{H:Hp}{s:Ap}
structure Shw (h:AF) (n:Af) (u:Aj) (pd:J3):Prop where
 rd:Reads h u pd []
 sh:pd.showable=Ab
 nd:pd.hasDict=Ad
 dp:pd.depth<=n
 ln:pd.shown.length<=xbd n
inductive ShwA (h:AF) (n:Af):Ac Aj->Ac J3->Prop where
 |nil:ShwA h n [] []
 |cons {u:Aj} {pd:J3} {us:Ac Aj} {pds:Ac J3}:Shw h n u pd->ShwA h n us pds->ShwA h n (u::us) (pd::pds)
theorem Sq{h:AF}{n:Af}:∀{us:Ac Aj}{pds:Ac J3},ShwA h n us pds->ReadsAll h us pds []/\Xg pds=Ab/\Xf pds=Ad/\Hy pds<=n/\(∀ t∈Dy pds,t.length<=xbd n)/\(Dy pds).length=us.length
 |[],[],_=>⟨.nil,rfl,rfl,DP _,(λ_ h=>nomatch h),rfl⟩
 |u::us,pd::pds,.cons h1 h2=>by
  obtain⟨a,b,c,d,e,f⟩:=Sq h2;refine⟨.cons h1.rd a,?_,?_,?_,?_,?_⟩
  .show (pd.showable&&Xg pds)=Ab;rw[h1.sh,b];rfl
  .show (pd.hasDict||Xf pds)=Ad;rw[h1.nd,c];rfl
  .show max pd.depth (Hy pds)<=n;exact Nat.max_le.mpr ⟨h1.dp,d⟩
  .intro t ht;rcases AH.mp ht with rfl|ht
   .exact h1.ln
   .exact e t ht
  .show (Dy pds).length+1=us.length+1;rw[f]
theorem pO(I:Inv X pI Y H s):∀(n:Af){d:D}{v:V}{u:Aj},xfD n d=Ab->Rep X.K CL H A v d->Bp v u->∃ pd,Shw s.heap n u pd:=by
 intro n
 induction n with
 |zero=>
  intro d v u hx r rv;cases d with
  |int i=>
   have e:v=.int i:=r;subst e;obtain⟨t,rfl⟩:=rv;simp only[xfD,Al,AD]at hx;refine⟨.int i,.int i t,?_,rfl,AK _,?_⟩
   .show decide (i.natAbs.log2<1920)=Ab;refine DW (Ed (G9 _) (by omega))
   .have:=So ⟨i.toNat,by omega⟩
    rw[show ((i.toNat:Af):Ah)=i by omega]at this
    exact this
  |_=>exact absurd (show Ad=Ab from hx) Ay
 |succ n ih0=>
  intro d v u hx r rv;cases d with
  |tup ds=>
   obtain⟨a,xs,rfl,_,sq,rs⟩:=r;cases rv;obtain⟨its,vs,⟨o,ho,hc,m,hd⟩,hz⟩:=I.tuple sq;simp only[xfD,Al,Bl]at hx;have key:∀{xs:Ac V}{ds:Ac D}{its:Ac Aj},(∀ d∈ds,xfD n d=Ab)->Reps X.K CL H A xs ds->AX xs its->∃ pds,ShwA s.heap n its pds:=λ{xs}=>by
    induction xs with
    |nil=>
     intro ds its _ rs vs;cases vs;exact⟨[],.nil⟩
    |cons x xs ih=>
     intro ds its hd rs vs;cases ds with
     |nil=>exact rs.elim
     |cons d ds=>
      cases vs with
      |cons v1 v2=>
       obtain⟨pd,h1⟩:=ih0 (hd d AE) rs.1 v1;obtain⟨pds,h2⟩:=ih (λe he=>hd e (Aw _ he)) rs.2 v2
       exact⟨pd::pds,.cons h1 h2⟩
   obtain⟨pds,hf⟩:=key hx.2 rs vs;obtain⟨p1,p2,p3,p4,p5,p6⟩:=Sq hf;have l8:its.length<=8:=by
    have h8:=Nat.ble_eq.mp hx.1;rw[<-vs.length,rs.length];exact h8
   refine⟨.tuple pds,.tuple ho hc hd (by simpa using p1),p2,p3,?_,?_⟩
   .show Hy pds+1<=n+1;omega
   .show (tupleText (Dy pds)).length<=8*xbd n+19;have h1:=tupleText_len_le (Dy pds);have h2:=TJ (λt:Ag=>t.length) (Dy pds) p5
    have h3:(Dy pds).length*xbd n<=8*xbd n:=Nat.mul_le_mul_right _ (by omega)
    omega
  |_=>exact absurd (show Ad=Ab from hx) Ay
end
section
variable{X:Cx}{CL:ClA}
def tFs(K:Fg)(CL:ClA)(i:Af):TE:=λY H Q=>∃ v d A n,Y[i]?=Aa (Aa v)/\Rep K CL H A v d/\xfD n d=Ab/\n<=2/\∀ t:Ag,Q (.str t) H
def tFm(K:Fg)(CL:ClA)(i:Af):TE:=λY H Q=>∃ v d A n,Y[i]?=Aa (Aa v)/\Rep K CL H A v d/\xfD n d=Ab/\n<=2/\∀ t:Ag,t.length<=500->Q (.str t) H
theorem To{e:An}{i:Af}(hu:X.A.units+64<Bz)(hg:X.A.guards=Aa [])(he:PE X e (EQ i)):PE X (.FormattedValue e (-1) Ae p1) (tFm X.K CL i):=by
 intro pI s Y H Q I ⟨v,d,A,n,hv,r,hx,hn,q⟩;refine wpAny_FormattedValue_plain (thn (he pI s Y H (λx H1=>x=v/\H1=H) I ⟨v,hv,rfl,rfl⟩) λu s1 ⟨x,H1,I1,r1,e1,e2⟩=>?_)
 subst e1 e2;have zl:sizeLine ≥ 2000:=by decide
 obtain⟨pd,sw⟩:=pO I1 n hx r r1;have hn':n=0\/n=1\/n=2:=by omega
 have xb:xbd n<=500:=by rcases hn' with rfl|rfl|rfl<;>decide
 have ln:=sw.ln;have dp:=sw.dp;cases d with
 |int j=>
  have e:x=.int j:=r;subst e;obtain⟨t,rfl⟩:=r1;cases n with
  |zero=>
   have hx':(decide (0<=j)&&decide (j<100))=Ab:=hx;rw[Al,AD,AD]at hx';have il:=So ⟨j.toNat,by omega⟩
   rw[show ((j.toNat:Af):Ah)=j by omega]at il
   exact formatField_int_small (Ed (G9 _) (by omega)) ⟨.str _,H1,I1.tok _,⟨_,rfl⟩,q _ (Bt il (by omega))⟩
  |succ n=>cases hx
 |tup ds=>
  obtain⟨a,xs,rfl,_,sq,rs⟩:=r;cases r1;refine formatField_of_reads sw.rd sw.sh (λz=>by rw[sw.nd]at z;cases z) hg (by omega) (λ_ _ z=>z) (λh' tk1 tk2 kp=>?_) (by omega)
  exact⟨.str pd.shown,H1,I1.kept kp,⟨_,rfl⟩,q _ (by omega)⟩
 |_=>cases n<;>cases hx
theorem gF{e:An}{i:Af}(hu:X.A.units+64<Bz)(hg:X.A.guards=Aa [])(hz:z.length<=1000)(he:PE X e (EQ i)):PE X (.JoinedStr [.FormattedValue e (-1) Ae p1,.Constant (.str z) k p2] p3) (tFs X.K CL i):=by
 intro pI s Y H Q I ⟨v,d,A,n,hv,r,hx,hn,q⟩;have zl:sizeLine ≥ 2000:=by decide
 refine X6 ?_;show Av (model X.prog X.w) X.A (eval (.FormattedValue e (-1) Ae p1) X.env) (λv s1=>∃ y t,v=.str y t/\(Dh++y).length<=sizeLine/\Joins (model X.prog X.w) X.A X.xe [eval (.Constant (.str z) k p2) X.env] (Dh++y) _ s1) X.xe s
 refine thn (To (CL:=CL) hu hg he pI s Y H (λx H1=>∃ y:Ag,x=.str y/\y.length<=500/\H1=H) I ⟨v,d,A,n,hv,r,hx,hn,λt ht=>⟨t,rfl,ht,rfl⟩⟩) λu s1 ⟨x,H1,I1,r1,y,e1,hy,e2⟩=>?_
 subst e1 e2;obtain⟨t1,rfl⟩:=r1;have l0:(Dh++y).length<=500:=by
  rw[FP];have:Dh.length=0:=rfl;omega
 refine⟨y,t1,rfl,by omega,?_⟩
 show Av (model X.prog X.w) X.A (eval (.Constant (.str z) k p2) X.env) _ X.xe s1;refine thn (MD (X:=X) pI _ Y H1 (λx H2=>x=.str z/\H2=H1) I1 ⟨rfl,rfl⟩) λu2 s2 ⟨x2,H2,I3,r3,e3,e4⟩=>?_
 subst e3 e4;obtain⟨t3,rfl⟩:=r3;have l1:(Dh++y++z).length<=sizeLine:=by
  rw[FP];omega
 exact⟨z,t3,rfl,l1,l1,⟨.str _,H2,I3.tok _,⟨_,rfl⟩,q _⟩⟩
theorem bN{e:An}{i:Af}{z':Ag}{k':Af}{p0:AC}(hu:X.A.units+64<Bz)(hg:X.A.guards=Aa [])(hz':z'.length<=400)(hz:z.length<=1000)(he:PE X e (EQ i)):PE X (.JoinedStr [.Constant (.str z') k' p0,.FormattedValue e (-1) Ae p1,.Constant (.str z) k p2] p3) (tFs X.K CL i):=by
 intro pI s Y H Q I ⟨v,d,A,n,hv,r,hx,hn,q⟩;have zl:sizeLine ≥ 2000:=by decide
 refine X6 ?_;show Av (model X.prog X.w) X.A (eval (.Constant (.str z') k' p0) X.env) (λv s1=>∃ y t,v=.str y t/\(Dh++y).length<=sizeLine/\Joins (model X.prog X.w) X.A X.xe [eval (.FormattedValue e (-1) Ae p1) X.env,eval (.Constant (.str z) k p2) X.env] (Dh++y) _ s1) X.xe s
 refine thn (MD (X:=X) pI _ Y H (λx H2=>x=.str z'/\H2=H) I ⟨rfl,rfl⟩) λu0 s0 ⟨x0,H0,I0,r0,e0,e00⟩=>?_
 subst e0 e00;obtain⟨t0,rfl⟩:=r0;have le:(Dh++z').length<=400:=by
  rw[FP];have:Dh.length=0:=rfl;omega
 refine⟨z',t0,rfl,by omega,?_⟩
 show Av (model X.prog X.w) X.A (eval (.FormattedValue e (-1) Ae p1) X.env) _ X.xe s0;refine thn (To (CL:=CL) hu hg he pI s0 Y H0 (λx H1=>∃ y:Ag,x=.str y/\y.length<=500/\H1=H0) I0 ⟨v,d,A,n,hv,r,hx,hn,λt ht=>⟨t,rfl,ht,rfl⟩⟩) λu s1 ⟨x,H1,I1,r1,y,e1,hy,e2⟩=>?_
 subst e1 e2;obtain⟨t1,rfl⟩:=r1;have l0:(Dh++z'++y).length<=900:=by
  rw[FP];omega
 refine⟨y,t1,rfl,by omega,?_⟩
 show Av (model X.prog X.w) X.A (eval (.Constant (.str z) k p2) X.env) _ X.xe s1;refine thn (MD (X:=X) pI _ Y H1 (λx H2=>x=.str z/\H2=H1) I1 ⟨rfl,rfl⟩) λu2 s2 ⟨x2,H2,I3,r3,e3,e4⟩=>?_
 subst e3 e4;obtain⟨t3,rfl⟩:=r3;have l1:(Dh++z'++y++z).length<=sizeLine:=by
  rw[FP];omega
 exact⟨z,t3,rfl,l1,l1,⟨.str _,H2,I3.tok _,⟨_,rfl⟩,q _⟩⟩
structure FsOk (par:Ag) (j:An):Prop where
 st:∀ env,As [j] env=[(Ad,eval j env)]
 pe:∀(X:Cx)(CL:ClA)(i:Af),X.A.units+64<Bz->X.A.guards=Aa []->(∀ p,PE X (.Name par p) (EQ i))->PE X j (tFs X.K CL i)
theorem mR{p4:AC}(hz:z.length<=1000):FsOk par (.JoinedStr [.FormattedValue (.Name par p1) (-1) Ae p2,.Constant (.str z) k p3] p4):=⟨λ_=>rfl,λ_ _ _ hu hg he=>gF hu hg hz (he _)⟩
theorem aD{z':Ag}{k':Af}{p0 p4:AC}(hz':z'.length<=400)(hz:z.length<=1000):FsOk par (.JoinedStr [.Constant (.str z') k' p0,.FormattedValue (.Name par p1) (-1) Ae p2,.Constant (.str z) k p3] p4):=⟨λ_=>rfl,λ_ _ _ hu hg he=>bN hu hg hz' hz (he _)⟩
end
def XEx(e C:Ak)(dx:Ao Ak)(t:Ak):AF->Prop:=λh=>h.get? e=Aa (FW C dx t)
theorem MJ{e C:Ak}{t:Ak}:∀ h1 h2:AF,XEx e C dx t h1->(∀ o,h1.get? e=Aa o->h2.get? e=Aa o)->XEx e C dx t h2:=λ_ _ p k=>k _ p
section
variable{X:Cx}{CL:ClA}{C:Ak}{nm q:Ag}{N:Ak}{bs bm:Ac Aj}{hdct:Am}{sn:Ac Ag}{sub:Ac Aj}{ab:Am}{col:Ao Am}{dd:Ao Ak}{k0 k1 k2 k3 k5:Ao Aj}
theorem bM{np apos cpos:AC}{es ej:An}{i j:Af}(hob:∀ h:AF,X.K.In h->h.get? C=Aa (BP nm q C N bs bm hdct sn sub ab col dd k0 k1 k2 k3 k5 "ValueError.__new__")/\Dx h veB bm)(hg:Gl X g)(hm:X.mg g=Aa (.ref OV))(hdb:(g==("__debug__" : Ag))=Ad)(s1:BV X.K (.ref OV) "__getattribute__" = Aa (Aa (.builtin "type.__getattribute__")))(s2:Fe X.K OV (.type "type")=Ab)(s3:Fd X.K (.ref OV) (.type "type") "__init__" = Aa (.val (.builtin "ValueError.__init__")))(hline:(apos.endLine==cpos.line)=Ab)(he:PE X es (EQ i))(hj:PE X ej (tFs X.K CL j))(sA:As [es,ej] X.env=(Ad,eval es X.env)::As [ej] X.env)(sB:As [ej] X.env=[(Ad,eval ej X.env)]):
  PE X (.Call (.Attribute (.Name g np) "__init__" apos) [es,ej] [] cpos) (λY H Q=>∃ e dx t v d A n,Y[i]?=Aa (Aa (.ref e))/\H e=Aa (.ext (XEx e C dx t))/\Y[j]?=Aa (Aa v)/\Rep X.K CL H A v d/\xfD n d=Ab/\n<=2/\∀ t',Q .non (upd H e (.ext (XEx e C dx t')))):=by
 have st1:As [es,ej] X.env=[(Ad,eval es X.env),(Ad,eval ej X.env)]:=by rw[sA,sB]
 intro pI s Y H Q I ⟨e,dx,t,v,d,A,n,h1,h2,h3,r,hx,hn,hq⟩;rw[arm_eval_Call];refine Aq (show Av (model X.prog X.w) X.A (eval (.Name g np) X.env) _ X.xe s from HL I hg hm ?_ hdb)
 refine Aq (Ea ?_);have form:XZ ([es,ej].length+([]:Ac DS).length) (Bv cpos (As [es,ej] X.env)) (Hf cpos (FN [] X.env))=Ab:=by
  rw[st1];rfl
 have mpos:GP Ab (.Name g np) X.env apos cpos=pure cpos:=by
  unfold GP;simp[hline]
 unfold methodCall;rw[form];refine Aq (EV (PySem.W.method_cls I.kIn s1 (PySem.W.cls_value I.kIn s2 s3 rfl ?_)));refine Aq (HF mpos ?_);have I1:=I.tok (s.toks+1);have pa:PA X [es,ej] _:=DN he (DN hj Fj sB) sA;have hA:=pa cpos pI {s with toks:=s.toks+1} Y H (λxs H'=>H'=H/\∃ z,xs=[.ref e,.str z]) I1 ⟨_,h1,⟨v,d,A,n,h3,r,hx,hn,λz=>⟨rfl,z,rfl⟩⟩⟩
 rw[st1]at hA ⊢;refine Wr rfl (EI (thn hA λus s2 ⟨xs,H2,I2,rv,e2,z,ex⟩=>?_))
 subst e2 ex;obtain⟨u1,u2,rfl,ru1,ru2⟩:=JR rv;cases ru1;obtain⟨tk,rfl⟩:=ru2;obtain⟨gC,T⟩:=hob _ I2.kIn;have ge:XEx e C dx t s2.heap:=(I2.hok e _ h2).1;obtain⟨hp,g2,d2,tk2,os2⟩:=s2;refine kF CW T gC ge λh' t' kp ge'=>?_
 refine⟨.non,_,I2.write (x:=e) (e:=e) (o:=.ext (XEx e C dx t')) (t':=tk2) (by rw[h2];exact trivial) (.inl rfl) kp ⟨_,ge'⟩ ⟨ge',⟨_,ge'⟩,MJ⟩,rfl,hq t'⟩
end
theorem YK{bmB bm:Ac Aj}(T:Dx h bmB bm){self:Aj}{what:Ag}(hb:refuseLoop self what bmB=pure ()):refuseLoop self what bm=pure ():=by
 induction T with
 |base=>exact hb
 |own _ _ _ _ ih=>rw[X4];exact ih
section
variable{prog:AL}{w:AV}{A:AT}{E:Vq}{h:AF}{g:Ba El}{d:Hx}{tk0:Af}{os:G2}{K:Fg}
variable{nm q:Ag}{C N e t:Ak}{bs bm bmB:Ac Aj}{sn:Ac Ag}{sub:Ac Aj}{ab:Am}{col:Ao Am}{dd:Ao Ak}{k0 k1 k2 k3 k5:Ao Aj}{B newId sa owner:CQ}
theorem dZ{Q:Fin->Ap->Prop}{v:Aj}(X:K.In h)(SF:J5 B bmB sa owner)(T:Dx h bmB bm)(gC:h.get? C=Aa (BP nm q C N bs bm Ab sn sub ab col dd k0 k1 k2 k3 k5 newId))(hf:Ar K (.ref C) name=Aa Ae)(ge:h.get? e=Aa (FW C Ae t))(hq:∀ h' dx tk',(∀ b o,b≠e->h.get? b=Aa o->h'.get? b=Aa o)->h'.get? e=Aa (FW C (Aa dx) t)->h.get? dx=Ae->h'.Ns1 dx (λy=>if y=name then Aa v else Ae)->Q (.done (.ret .none)) ⟨h',g,d,tk',os⟩):Av (model prog w) A (Builtin.«object.__setattr__» ⟨[.ref e,.str name tk,v],[]⟩) Q E ⟨h,g,d,tk0,os⟩:=by
  have pass:=YK T (SF.passes (.ref e));have L1:=B7 (M:=model prog w) X hf;obtain⟨o,ho⟩:∃ o,FW C Ae t=o:=⟨_,rfl⟩;rw[ho]at ge;have oc:o.cls=.ref C:=by rw[<-ho];rfl
  unfold Builtin.«object.__setattr__»
  repeat (first|rw[refuse_eq]|(rw[X4,pass])|(with_reducible refine BX ge ?_;rw[oc])|(with_reducible refine wpAny_mroOf_exc gC ?_)|(with_reducible refine L1.at ?_)|(with_reducible refine Aq (L1.at ?_))|wp_step)
  have od:o.dict=Ae:=by rw[<-ho];rfl
  have odt:o.data=.fields #[.ref t,.none,.none,.none,.bool Ad,.none]:=by rw[<-ho];rfl
  rw[od,odt,AA (by simp[typeHasDict])]
  let D:CZ:={ cls:=.type "dict",data:=.dict #[] }
  have g1:(h.push D).get? e=Aa o:=Au _ ge;have ne:e≠h.objs.size:=Bh (AJ ge);refine Aq (wpAny_alloc' ?_);refine Aq (wpAny_update' g1 ?_);refine AS ?_
  let U_:CZ->CZ:=λo=>{cls:=o.cls,dict:=Aa h.objs.size,data:=o.data,slots:=o.slots}
  have gD:((h.push D).update e U_).get? h.objs.size=Aa D:=(Xb _ _ _ _ ne.symm).trans (Xa rfl rfl);have nD:((h.push D).update e U_).Ns h.objs.size (λ_=>Ae):=⟨_,#[],_,gD,rfl,λz hz=>absurd hz (by simp),λ_=>rfl⟩
  change Av _ _ (Wn h.objs.size (.str name tk) name v) _ _ _;unfold Wn Builtin.ObjectAttr.newKeyGuard;refine Aq (AS (Aq (wpAny_nsSet1 (W8 nD) λk hk hs=>?_)))
  obtain⟨oD,eD,pD,q1,q2,q3⟩:=hk.count (Within.cons name v Within.nil);have le:oD.data.pastItsLine=Ae:=by
    rw[q2];refine X2 (Bt q3 ?_);rw[A2,List.length_nil,Cc];omega
  refine Aq (X9 q1 le ?_)
  wp_walk
  refine hq k h.objs.size _ (λb ob nb hb=>?_) ?_ (CC (AK _)) hk
  · rw[hs.2 b (Bh (AJ hb)),Xb _ _ _ _ nb];exact Au _ hb
  · rw[hs.2 e ne];have:Aa (FW C (Aa h.objs.size) t)=Aa (U_ o):=by rw[<-ho];rfl
    rw[this];exact Cj _ g1 (by rw[<-ho];rfl)
end
section
variable{prog:AL}{w:AV}{A:AT}{E:Vq}{h:AF}{g:Ba El}{d:Hx}{tk0:Af}{os:G2}{K:Fg}
variable{nm q:Ag}{C N e t:Ak}{bs bm bmB:Ac Aj}{sn:Ac Ag}{sub:Ac Aj}{ab:Am}{col:Ao Am}{dd:Ao Ak}{k0 k1 k2 k3 k5:Ao Aj}{B newId sa owner:CQ}
theorem eC{o:CZ}{a b:Aj}(SF:J5 B bmB sa owner)(T:Dx h bmB bm)(gC:h.get? C=Aa (BP nm q C N bs bm Ab sn sub ab col dd k0 k1 k2 k3 k5 newId))(ge:h.get? e=Aa o)(hc:o.cls=.ref C)(hq:Q () ⟨h,g,d,tk0,os⟩):Av M A (FU sa ⟨[.ref e,a,b],[]⟩) Q E ⟨h,g,d,tk0,os⟩:=by
 have hb:(Bf C::bm).contains (.type owner)=Ab:=by rw[GE,T.hasType SF.hasOwner,IS]
 have ha:=SF.args (.ref e) a b;simp only[FU,SF.kind,SF.split];refine Aq ?_;unfold Ij
 repeat (first|(with_reducible refine BX ge ?_;rw[hc])|(with_reducible refine E1 gC ?_;rw[hb])|wp_step)
 unfold argsOk at ha;split
 .rename_i sig hs;rw[hs]at ha;refine HF ha ?_;exact hq
 .exact AS hq
theorem kB{v:Aj}(X:K.In h)(SF:J5 B bmB sa owner)(T:Dx h bmB bm)(gC:h.get? C=Aa (BP nm q C N bs bm Ab sn sub ab col dd k0 k1 k2 k3 k5 newId))(hf:Ar K (.ref C) name=Aa Ae)(hs:Ar K (.ref C) "__setattr__" = Aa (Aa (.builtin sa)))(ge:h.get? e=Aa (FW C Ae t))(hq:∀ h' dx tk',(∀ b o,b≠e->h.get? b=Aa o->h'.get? b=Aa o)->h'.get? e=Aa (FW C (Aa dx) t)->h.get? dx=Ae->h'.Ns1 dx (λy=>if y=name then Aa v else Ae)->Q () ⟨h',g,d,tk',os⟩):Av (model prog w) A (Ka (.ref e) name v) Q E ⟨h,g,d,tk0,os⟩:=by
 have f3:=SF.slot.bind (.ref e);have L1:=B7 (M:=model prog w) X hs;obtain⟨o,ho⟩:∃ o,FW C Ae t=o:=⟨_,rfl⟩;have oc:o.cls=.ref C:=by rw[<-ho];rfl
 have ge':=ge;rw[ho]at ge';unfold Ka Jb specialOf
 repeat (any_goals (first|assumption|(with_reducible refine BX ge' ?_;rw[oc])|(with_reducible refine Aq (L1.at ?_))|(with_reducible refine L1.at ?_)|wp_step))
 refine DL SF.slot.plain SF.entry (eC SF T gC ge' oc (dZ X SF T gC hf ge λh' dx tk' k1 k2 k3 k4=>?_))
 repeat (any_goals (first|assumption|wp_step))
 exact hq h' dx tk' k1 k2 k3 k4
end
section
variable{X:Cx}{pI:Pn}{Y:L2.St}{H:Hp}{s:Ap}{e:Ak}
theorem OG{o:HO}(I:Inv X pI Y H s)(ha:FY X pI e)(hH:H e=Ae)(ho:ObjOk X.prog X.w (upd H e o) s.heap e o):Inv X pI Y (upd H e o) s:=by
 have ne:∀ b o,H b=Aa o->b≠e:=λb o q z=>by rw[z,hH]at q;cases q
 refine⟨I.ok,I.os,I.bare,⟨I.base.keep,I.base.slot,λb o q n hb=>?_,I.base.there,λb xs q=>?_,λb o u q=>?_,λb ps q=>?_⟩,I.loc,I.cell,?_,λx c q=>?_,λp hp=>?_,λb o q=>?_,I.len⟩
 .rw[Be λz=>by rw[z,ha.2.2.2]at q;cases q]
  exact I.base.free b o q n hb
 .have:=I.base.tups b xs q;rw[Be (ne _ _ this)];exact this
 .have:=I.base.frzs b o u q;rw[Be (ne _ _ this)];exact this
 .obtain⟨more,this⟩:=I.base.tbls b ps q;exact⟨more,by rw[Be (ne _ _ this)];exact this⟩
 .rw[Be λz=>ha.1 z.symm];exact I.free
 .rw[Be (ha.2.1 x c q)];exact I.freeC x c q
 .obtain⟨q,n,r⟩:=I.pin p hp;exact⟨q,by rw[Be (ha.2.2.1 p hp)];exact n,r⟩
 .by_cases hb:b=e
  .subst hb;rw[DD]at q;cases q;exact ho
  .rw[Be hb]at q;exact(I.hok b o q).stay (λc v hc z=>z) (λc z=>by rw[Be (ne _ _ z)];exact z) λc zs z=>by rw[Be (ne _ _ z)];exact z
theorem aY(I:Inv X pI Y H s)(hH:H e=Aa (.ext φ))(h0:X.s₀.heap.get? e=Ae)(h1:X.ex=[]->Hi):Inv X pI Y (λb=>if b=e then Ae else H b) s:=by
 have get:∀ b o,(if b=e then Ae else H b)=Aa o->b≠e/\H b=Aa o:=λb o q=>by
  by_cases z:b=e
  .rw[At z]at q;cases q
  .rw[AA z]at q;exact⟨z,q⟩
 have put:∀ b o,H b=Aa o->o≠.ext φ->(if b=e then Ae else H b)=Aa o:=λb o q n=>by
  by_cases z:b=e
  .rw[z,hH]at q;cases q;exact absurd rfl n
  .rw[AA z];exact q
 have non:∀ b,H b=Ae->(if b=e then Ae else H b)=Ae:=λb q=>by
  by_cases z:b=e
  .rw[At z]
  .rw[AA z];exact q
 refine⟨I.ok,I.os,I.bare,⟨λb o q n hb hx=>?_,I.base.slot,λb o q n hb=>?_,I.base.there,λb xs q=>?_,λb o u q=>?_,λb ps q=>?_⟩,I.loc,I.cell,non _ I.free,λx c q=>non _ (I.freeC x c q),λp hp=>?_,λb o q=>?_,I.len⟩
 .exact I.base.keep b o q n hb hx
 .exact non b (I.base.free b o q n hb)
 .exact put b _ (I.base.tups b xs q) (by intro z;cases z)
 .exact put b _ (I.base.frzs b o u q) (by intro z;cases z)
 .obtain⟨more,this⟩:=I.base.tbls b ps q;exact⟨more,put b _ this (by intro z;cases z)⟩
 .obtain⟨q,n,r⟩:=I.pin p hp;exact⟨q,non _ n,r⟩
 .obtain⟨nb,q⟩:=get b o q;exact(I.hok b o q).stay (λc v hc z=>z) (λc z=>put c _ z (by intro z;cases z)) λc zs z=>put c _ z (by intro z;cases z)
end
section
variable{X:Cx}{C:Ak}{nm q:Ag}{N:Ak}{bs bm:Ac Aj}{sn:Ac Ag}{sub:Ac Aj}{ab:Am}{col:Ao Am}{dd:Ao Ak}{k0 k1 k2 k3 k5:Ao Aj}
theorem fY{i j:Af}{f:Ag}{eo:An}{p8 p10:AC}(hob:∀ h:AF,X.K.In h->h.get? C=Aa (BP nm q C N bs bm Ab sn sub ab col dd k0 k1 k2 k3 k5 "ValueError.__new__")/\Dx h veB bm)(hx:X.ex=[])(hf:Ar X.K (.ref C) f=Aa Ae)(hs:Ar X.K (.ref C) "__setattr__" = Aa (Aa (.builtin "object.__setattr__")))(he:PE X eo (EQ i))(hv:PE X ev (EQ j))(sw:CK ev (Aa (.Attribute eo f p8)) p10.line X.env=pure Ad):PS X (.Assign [.Attribute eo f p8] ev p10) (λD Y H=>∃ e t v,Y[i]?=Aa (Aa (.ref e))/\H e=Aa (.ext (XEx e C Ae t))/\Y[j]?=Aa (Aa v)/\∀ dx,H dx=Ae->dx≠e->D.nx Y (upd (upd H e (.ext (XEx e C (Aa dx) t))) dx (.xd [(f,v)]))):=by
 intro pI s Y H D I ⟨e,t,v,h1,h2,h3,hq⟩;refine X3 (thn (hv pI s Y H (λx H1=>x=v/\H1=H) I ⟨v,h3,rfl,rfl⟩) λu s1 ⟨x,H1,I1,r1,e1,e2⟩=>?_) sw
 subst e1 e2;refine thn (he pI s1 Y H1 (λx H2=>x=.ref e/\H2=H1) I1 ⟨_,h1,rfl,rfl⟩) λu2 s2 ⟨x2,H2,I2,r2,e3,e4⟩=>?_
 subst e3 e4;cases r2;obtain⟨gC,T⟩:=hob _ I2.kIn;have ge:XEx e C Ae t s2.heap:=(I2.hok e _ h2).1;obtain⟨hp,g2,d2,tk2,os2⟩:=s2;refine kB I2.kIn PySem.F.store_ValueError T gC hf hs ge λh' dx tk' kp ge' nd ns=>?_
 have nH:H2 dx=Ae:=HI I2.hok nd;have nde:dx≠e:=λz=>by rw[z,h2]at nH;cases nH
 have ap:FY X pI dx:=JI I2 hx nd;have I3:=I2.write (x:=e) (e:=e) (o:=.ext (XEx e C (Aa dx) t)) (t':=tk') (by rw[h2];exact trivial) (.inl rfl) kp ⟨_,ge'⟩ ⟨ge',⟨_,ge'⟩,MJ⟩
 have I4:=OG (o:=.xd [(f,x)]) I3 ap (by rw[Be nde];exact nH) ⟨_,ns,λy=>by
  by_cases z:y=f
  .subst z;rw[At rfl];simp only[BU,Do];exact r1
  .rw[AA z];have:(y==f)=Ad:=by simp[z]
   simp only[BU,this]
   trivial⟩
 exact⟨Y,_,I4,hq dx nH nde⟩
end
noncomputable def F0(K:Fg)(C:Ak):Am:=match K.lookup C with
  |some ⟨_,_,.cls c,_⟩=>c.hasDict
  |_=>Ad
noncomputable def Qa(g par f:Ag)(j:An)(np apos p1 cpos p6 p7 p8 p9 p10:AC):Ac AI:=
 [.Expr (.Call (.Attribute (.Name g np) "__init__" apos) [.Name "self" p1,j] [] cpos) p6,.Assign [.Attribute (.Name "self" p7) f p8] (.Name par p9) p10]
inductive XIn (K:Fg) (mg:Ag->Ao Aj) (C:Ak) (f:Ag):Prop
 |mk {fI OV:Ak} {x qual g par:Ag} {j:An} {st:AI} {fd:Bx} {np apos p1 cpos p6 p7 p8 p9 p10:AC} (xc:C4 K C (Aa (.ref fI))=Ab) (dc:F0 K C=Ab) (fn:Fun K x qual st fI fd) (ty:Da K (.ref fI)=Aa (.type "function"))
  (S:FnScope ["self",par] ["self",par] (BD st)) (l1:(BD st).names.lookup ("self" : Ag)=Aa .local) (l2:(BD st).names.lookup par=Aa .local) (bd:ED K fd ["self",par] []) (body:En st=Qa g par f j np apos p1 cpos p6 p7 p8 p9 p10)
  (gl:(BD st).names.lookup g=Aa .globalImplicit) (mo:mg g=Aa (.ref OV)) (dg:(g==("__debug__" : Ag))=Ad) (dp:(par==("__debug__" : Ag))=Ad) (dq:(par==("__classdict__" : Ag))=Ad)
  (s1:BV K (.ref OV) "__getattribute__" = Aa (Aa (.builtin "type.__getattribute__"))) (s2:Fe K OV (.type "type")=Ab) (s3:Fd K (.ref OV) (.type "type") "__init__" = Aa (.val (.builtin "ValueError.__init__")))
  (hl:(apos.endLine==cpos.line)=Ab) (hz:FsOk par j) (hf:Ar K (.ref C) f=Aa Ae) (hs:Ar K (.ref C) "__setattr__" = Aa (Aa (.builtin "object.__setattr__"))):XIn K mg C f
section
variable{P:AL}{w:AV}{K:Fg}{mg:Ag->Ao Aj}{base:AF}{CL:ClA}{C fI OV:Ak}{x qual g par f:Ag}{j:An}{st:AI}{fd:Bx}{np apos p1 cpos p6 p7 p8 p9 p10:AC}
variable{nm q:Ag}{N:Ak}{bs bm:Ac Aj}{sn:Ac Ag}{sub:Ac Aj}{ab:Am}{col:Ao Am}{dd:Ao Ak}{k0 k1 k2 k3 k5:Ao Aj}
theorem R7(hob:∀ h:AF,K.In h->h.get? C=Aa (BP nm q C N bs bm Ab sn sub ab col dd k0 k1 k2 k3 k5 "ValueError.__new__")/\Dx h veB bm)(fn:Fun K x qual st fI fd)(S:FnScope ["self",par] ["self",par] (BD st))(l1:(BD st).names.lookup ("self" : Ag)=Aa .local)(l2:(BD st).names.lookup par=Aa .local)(bd:ED K fd ["self",par] [])(body:En st=Qa g par f j np apos p1 cpos p6 p7 p8 p9 p10)(gl:(BD st).names.lookup g=Aa .globalImplicit)(mo:mg g=Aa (.ref OV))(dg:(g==("__debug__" : Ag))=Ad)(dp:(par==("__debug__" : Ag))=Ad)(dq:(par==("__classdict__" : Ag))=Ad)(s1:BV K (.ref OV) "__getattribute__" = Aa (Aa (.builtin "type.__getattribute__")))(s2:Fe K OV (.type "type")=Ab)(s3:Fd K (.ref OV) (.type "type") "__init__" = Aa (.val (.builtin "ValueError.__init__")))(hl:(apos.endLine==cpos.line)=Ab)(hz:FsOk par j)(hf:Ar K (.ref C) f=Aa Ae)(hs:Ar K (.ref C) "__setattr__" = Aa (Aa (.builtin "object.__setattr__"))){A:AT}{outer:Ac Cb}{s:Ap}{E:XK}{e t:Ak}{v:V}{u:Aj}{n:Af}(hh:A.handled=Ae)(hdp:A.depth<Ib)(hun:A.units+70<Bz)(hgd:A.guards=Aa [])(e0:Env0 P w K mg base A outer s H)(he:H e=Aa (.ext (XEx e C Ae t)))(rp:Rep K CL H B v d)(hx:xfD n d=Ab)(hn:n<=2)(r:Bp v u):Ez (model P w) A (.call (.ref fI) ⟨[.ref e,u],[]⟩) (CR Np outer P w H s (λy H'=>y=.non/\∃ t' dx,H dx=Ae/\dx≠e/\H'=upd (upd H e (.ext (XEx e C (Aa dx) t'))) dx (.xd [(f,v)])) E) s:=by
 obtain⟨oc,od,kV,doc,pm,an,cdv,ct,osl,rfl,lk,hcd⟩:=fn.ex;have KX:K.In s.heap:=e0.mod.kin.keeps λb o e=>(e0.bs b o e).1
 have lim:s.heap.NoLimit:=e0.mod.nolimit.keeps λb o e=>(e0.bs b o e).1
 have hkind:∀ y∈(["self",par]:Ac Ag).zip [Bf e,u],(BD st).names.lookup y.1=Aa .local\/((BD st).names.lookup y.1=Aa .cell/\((CJ (s.heap.objs.size+1) (BD st).names []).lookup y.1).isSome=Ab):=λy hy=>by
  refine .inl ?_;rcases AH.mp hy with rfl|hy
  .exact l1
  .rw[A9.mp hy];exact l2
 have rv:AX [.ref e,v] [.ref e,u]:=.cons rfl (.cons r .nil);refine XX hdp (KX _ _ lk) rfl S.co S.gen rfl (XF KX hcd) (bd s [.ref e,u] KX rfl _ _ _ _ ?_);refine Yb S.kind hkind λenv hen s1' x=>?_
 subst hen;refine⟨lim.keeps x.toInCall.keep,codeAny_func ?_⟩;have I:Inv (E8 Np P w K mg base ["self",par] qual (BD st) fI cdv A outer s H E) [] (start ["self",par] [.ref e,v]) H s1':=Q9 S hh e0 rfl rv x;generalize hX:E8 Np P w K mg base ["self",par] qual (BD st) fI cdv A outer s H E=X at I;have pself:∀ p,PE X (.Name "self" p) (EQ 0):=λp=>by rw[<-hX];exact Ko rfl (.inl l1)
 have ppar:∀ p,PE X (.Name par p) (EQ 1):=λp=>by rw[<-hX];exact Ko rfl (.inl l2) dp dq
 have st1:=bM (X:=X) (CL:=CL) (C:=C) (g:=g) (np:=np) (apos:=apos) (cpos:=cpos) (i:=0) (j:=1) (OV:=OV) (by rw[<-hX];exact hob) (by rw[<-hX];exact gl) (by rw[<-hX];exact mo) dg (by rw[<-hX];exact s1) (by rw[<-hX];exact s2) (by rw[<-hX];exact s3) hl (pself p1)
  (hz.pe X CL 1 (by rw[<-hX];show A.units+3+64<Bz;omega) (by rw[<-hX];exact hgd) ppar) rfl (hz.st _)
 have st2:=fY (X:=X) (p8:=p8) (p10:=p10) (by rw[<-hX];exact hob) (by rw[<-hX];rfl) (by rw[<-hX];exact hf) (by rw[<-hX];exact hs) (pself p7) (ppar p9) rfl
 have all:=Oi (Ls (pos:=p6) st1 rfl) (Kk st2);have hk:=all [] s1' _ H {nx:=λ_ H'=>∃ t' dx,H dx=Ae/\dx≠e/\H'=upd (upd H e (.ext (XEx e C (Aa dx) t'))) dx (.xd [(f,v)]),rt:=λ_ _=>AW} I ⟨e,Ae,t,v,d,B,n,rfl,he,rfl,by rw[<-hX];exact rp,hx,hn,λt'=>⟨e,t',v,rfl,DD,rfl,λdx h1 h2=>⟨t',dx,by rw[Be h2]at h1;exact h1,h2,by rw[OI]⟩⟩⟩
 rw[body];refine A4 (by rw[<-hX]at hk;exact hk) (λfl s' hfl=>?_) λev s' hev=>hev
 cases fl with
 |next=>
  obtain⟨Y',H',J,w'⟩:=hfl;exact⟨.non,H',J.os,J.bare,J.base,J.hok,rfl,rfl,w'⟩
 |ret y=>obtain⟨_,_,_,_,_,w'⟩:=hfl;exact w'.elim
 |brk=>obtain⟨_,_,_,w'⟩:=hfl;exact w'.elim
 |cont=>obtain⟨_,_,_,w'⟩:=hfl;exact w'.elim
end
theorem T8:∀(n m:Af)(d:D),xfD n d=Ab->n+1<=m->nlD m d=Ab
 |0,m+1,.int i,_,_=>rfl
 |n+1,m+1,.tup ds,h,hm=>by
  have h':(De ds.length 8&&ds.all (xfD n))=Ab:=h;rw[Al]at h';show ds.all (nlD m)=Ab;rw[Bl]at h' ⊢;exact λx hx=>T8 n m x (h'.2 x hx) (by omega)
 |0,_,.tup _,h,_=>nomatch h
 |n+1,_,.int _,h,_=>nomatch h
section
variable{X:Cx}{CL:ClA}{W:XW}
def JW(xn:Af->Ac D->R Ex)(c:Af)(f:Ag)(ds:Ac D):Prop:=∃ d n,ds=[d]/\xfD n d=Ab/\n<=2/\xn c ds=.ok ⟨c,[(f,d)]⟩
theorem YZ{np cpos pos:AC}{e:An}{es:Ac An}{fs:Rho->R (Ac D)}(hcalm:X.calm=Ab)(hx:X.ex=[])(hr:Room k X.A)(rz:LW X CL W)(hg:Gl X g)(hm:X.mg g=Aa (.ref C))(hdb:(g==("__debug__" : Ag))=Ad)(hcl:CL c=Aa C)(ha:SA X CL W (e::es) fs)(hxn:∀ ds,xn c ds=.bad\/(xn c ds=.ok ⟨c,[]⟩/\C4 X.K C Ae=Ab)\/∃ f,XIn X.K X.mg C f/\JW xn c f ds)(he:As (e::es) X.env=(Ad,eval e X.env)::As es X.env)(hpl:∀ pos,(Bv pos (As es X.env)).any (·.1)=Ad)(hz:∀ U ds,fs U=.ok ds->ds.length<=100000):SS X CL W (.Raise (Aa (.Call (.Name g np) (e::es) [] cpos)) Ae pos) (λU=>O.of U (noX (fs U)) λxs=>O.of U (xn c xs) λx=>.exn x U):=λFz B pI s Y H D I ⟨U,x,p⟩=>by
 have hpl':(Bv cpos (As (e::es) X.env)).any (·.1)=Ad:=by rw[he];show (Ad||(Bv cpos (As es X.env)).any (·.1))=Ad;rw[hpl];rfl
 cases e1:fs U with
 |bad=>dsimp only at p;rw[e1]at p;exact p.elim
 |exn y=>dsimp only at p;rw[e1]at p;exact p.elim
 |ok ds=>
  rcases hxn ds with e2|⟨e2,xc⟩|⟨f,xi,d,n,rfl,xf,hn,e2⟩
  .dsimp only at p;rw[e1]at p;have p2:Bs X.K CL Fz B W (O.of U (xn c ds) λx=>.exn x U) D:=p
   rw[e2]at p2;exact p2.elim
  .refine ZZ (fs:=fs) (xn:=λ_ ds'=>match xn c ds' with | .ok ⟨_,[]⟩=>.ok ⟨c,[]⟩|_=>.bad) hcalm rz hg hm hdb xc hcl ha (λds'=>by
    split
    .exact .inr rfl
    .exact .inl rfl) he hpl hz Fz B pI s Y H D I ⟨U,x,?_⟩
   dsimp only at p ⊢;rw[e1]at p ⊢;have p2:Bs X.K CL Fz B W (O.of U (xn c ds) λx=>.exn x U) D:=p
   rw[e2]at p2;show Bs X.K CL Fz B W (O.of U (match xn c ds with | .ok ⟨_,[]⟩=>(.ok ⟨c,[]⟩:R Ex)|_=>.bad) λx=>.exn x U) D
   rw[e2];exact p2
  .dsimp only at p;rw[e1]at p;have p2:Bs X.K CL Fz B W (O.of U (xn c [d]) λx=>.exn x U) D:=p
   rw[e2]at p2;have p3:∀ H,(∀ b o,Fz b o->H b=Aa o)->W ⟨c,[(f,d)]⟩ H:=p2;cases xi with
   |mk xc dc fn ty S l1 l2 bd body gl mo dg dp dq w1 w2 w3 hl hz0 hf hs=>
    rename_i fI OV x0 qual g0 par j0 st fd np0 apos q1 cpos0 q6 q7 q8 q9 q10;obtain⟨bm,N,nm,qn,bs,hd,sn,sub,ab,col,dd,k0,k1,k2,k3,k5,mN,hob,hni,hbase⟩:=Lh I.kIn xc;have hdt:hd=Ab:=by
     unfold F0 at dc;split at dc
     .rename_i c0 d0 cd sl lk;have g1:=I.kIn _ _ lk;rw[(hob _ I.kIn).1]at g1;unfold BP at g1;cases g1;exact dc
     .cases dc
    subst hdt;have hob2:∀ h:AF,X.K.In h->h.get? C=Aa (BP nm qn C N bs bm Ab sn sub ab col dd k0 k1 k2 k3 k5 "ValueError.__new__")/\Dx h veB bm:=λh z=>⟨(hob h z).1,(hob h z).2.2⟩
    refine ZO (bmB:=veB) (nm:=nm) (q:=qn) (C:=C) (N:=N) (fI:=fI) (bs:=bs) (bm:=bm) (hdct:=Ab) (sn:=sn) (sub:=sub) (ab:=ab) (col:=col) (dd:=dd) (k0:=k0) (k1:=k1) (k2:=k2) (k3:=k3) (k5:=k5) (mN:=mN) CW hbase (I.ok.hd hcalm) hpl' hni ?_;refine HL I hg hm ⟨rfl,?_⟩ hdb;have q1:=ha (Bk B U Y) cpos pI s Y H (λvs H1=>Az H H1/\Reps X.K CL H1 (Bk B U Y) vs [d]) I ⟨x.aok,U,x.good,by rw[e1];exact λvs H1 s1 r1=>⟨s1,r1⟩⟩
    rw[he]at q1 ⊢;refine EI (A4 q1 (λus s2 ⟨vs,H2,I2,r2,sm2,rps⟩=>⟨rfl,?_⟩) λ_ _ z=>z)
    cases vs with
    |nil=>exact rps.elim
    |cons v vs=>
     cases vs with
     |cons=>exact rps.2.elim
     |nil=>
      obtain⟨u,rfl,ru⟩:=Ho r2;obtain⟨o1,o2,o3⟩:=hob _ I2.kIn;obtain⟨oc,od,kV,doc,pm,an,cdv,ct,osl,efd,lk,hcd⟩:=fn.ex;have coc:oc=.type "function" := by
       have ty':(X.K.lookup fI).map _=_:=ty;rw[lk]at ty';exact Bg ty'
      refine⟨by rw[Cc];show 1<=_;omega,o1,o2,o3,⟨_,I2.kIn _ _ lk,coc⟩,λh' e0 made=>?_⟩
      obtain⟨t,ge,_⟩:=made.there;have I3:Inv X pI Y H2 {s2 with heap:=h'}:=I2.kept (t':=s2.toks) made.keeps
      have ap:FY X pI e0:=JI I2 hx made.new;have n0:H2 e0=Ae:=HI I2.hok made.new;have I4:=OG (o:=.ext (XEx e0 C Ae t)) I3 ap n0 ⟨ge,⟨_,ge⟩,MJ⟩;have sm4:Az H2 (upd H2 e0 (.ext (XEx e0 C Ae t))):=λb o z=>by rw[Be λy=>by rw[y,n0]at z;cases z];exact z
      have ru0:=hr.mono (DP k);have run:=R7 (P:=X.prog) (w:=X.w) (mg:=X.mg) (base:=X.base) (CL:=CL) (E:=λ_ _ _=>AW) (B:=Bk B U Y) (H:=upd H2 e0 (.ext (XEx e0 C Ae t))) (t:=t) hob2 fn S l1 l2 bd body gl mo dg dp dq w1 w2 w3 hl hz0 hf hs (A:=X.A.under (.builtin "type.__call__" ⟨.ref C::[u],[]⟩)) (outer:=X.stack) hr.hd (by rw[NT];have:=ru0.dp;omega) (by rw[NS];have:=ru0.un;omega) hr.gd (I4.env0.make C [u] []) DD (Rep.same sm4 rps.1) xf hn ru
      refine Fq (EA run λr s' hq=>?_)
      cases r with
      |error _=>exact A3 hq
      |ok fl=>
       cases fl with
       |next=>exact A3 hq
       |brk=>exact A3 hq
       |cont=>exact A3 hq
       |ret u'=>
        obtain⟨v',H5,I5,rr,ev,t',dx,ndx,dne,eH⟩:=I4.after hq;subst ev;cases rr;have nd2:H2 dx=Ae:=by rw[Be dne]at ndx;exact ndx
        rw[OI]at eH;have H5e:H5 e0=Aa (.ext (XEx e0 C (Aa dx) t')):=by rw[eH,Be (CB dne),DD]
        have ge5:XEx e0 C (Aa dx) t' s'.heap:=(I5.hok e0 _ H5e).1;have I6:=aY I5 H5e ap.2.2.2 λ_=>trivial
        have H6d:(if dx=e0 then Ae else H5 dx)=Aa (.xd [(f,v)]):=by rw[AA dne,eH,DD]
        have sm6:Az H2 (λb=>if b=e0 then Ae else H5 b):=λb o z=>by
         have nb:b≠e0:=λy=>by rw[y,n0]at z;cases z
         have nb2:b≠dx:=λy=>by rw[y,nd2]at z;cases z
         show (if b=e0 then Ae else H5 b)=Aa o
         rw[AA nb,eH,Be nb2,Be nb];exact z
        refine⟨rfl,t',Aa dx,(hob2 _ I6.kIn).1,ge5,rz pI Y _ s' e0 C (Aa dx) t' ⟨c,[(f,d)]⟩ I6 (λhx=>HH I2 hx made.new) (At rfl) ge5 (λA hA=>⟨C,hcl,rfl,.inr ⟨dx,[(f,v)],rfl,λz=>?_,H6d,⟨rfl,?_⟩,trivial⟩⟩) (p3 _ λb o z=>sm6 _ _ (sm2 _ _ (x.same b o z)))⟩
        .obtain⟨ys,q⟩:=hA dx z;have q':(if dx=e0 then Ae else H5 dx)=Aa (.lst ys):=q
         rw[H6d]at q';cases q'
        .exact Pu hA 5 d (T8 n 5 d xf (by omega)) (Rep.sub (λ_ z=>z.elim) _ (Rep.same sm6 rps.1))
end
section
variable{prog:AL}{w:AV}{A:AT}{E:Vq}{h:AF}{g:Ba El}{d:Hx}{t:Af}{os:G2}{K:Fg}{e C dx:Ak}{f:Ag}{mA:Ag->Ao Aj}{v:Aj}
theorem OU(p:IL e C (Aa dx) h):XAt e C h:=let ⟨o,a,b,_⟩:=p;⟨o,a,b⟩
theorem Y_2{Q:Fin->Ap->Prop}(X:K.In h)(hf:Ar K (.ref C) f=Aa Ae)(hd:F0 K C=Ab)(p:IL e C (Aa dx) h)(hn:h.Ns1 dx mA)(hv:mA f=Aa v)(hq:Q (.done (.ret v)) ⟨h,g,d,t,os⟩):Av (model prog w) A (Builtin.«object.__getattribute__» ⟨[.ref e,.str f tk],[]⟩) Q E ⟨h,g,d,t,os⟩:=by
 have L0:=Jl (M:=model prog w) (OU p);have L1:=B7 (M:=model prog w) X hf;obtain⟨o,ge,oc,od,us,dt⟩:=p;unfold F0 at hd;split at hd
 .rename_i c' d' cd' sl' lk;have gC:=X _ _ lk;unfold Builtin.«object.__getattribute__»
  repeat (any_goals (first|assumption|with_reducible refine L0.at ?_|with_reducible refine L1.at ?_|wp_step))
  rw[dt];unfold instanceDict
  repeat (first|(with_reducible refine BX ge ?_;rw[oc])|with_reducible refine BX gC ?_|wp_step)
  rw[od]
  repeat (first|(with_reducible refine wpAny_nsGet hn.ns ?_;rw[hv])|wp_step)
  exact hq
 .cases hd
theorem jZ{Q:Vq}(X:K.In h)(x:XcOk K C)(hf:Ar K (.ref C) f=Aa Ae)(hd:F0 K C=Ab)(p:IL e C (Aa dx) h)(hn:h.Ns1 dx mA)(hv:mA f=Aa v)(hh:handedOut v=pure v)(hq:Q v ⟨h,g,d,t,os⟩):Av (model prog w) A (getAttrBy (.ref e) (.str f tk) fill expr) Q E ⟨h,g,d,t,os⟩:=by
 have L0:=Jl (M:=model prog w) (OU p);have L1:=B7 (M:=model prog w) X x.ga;have L2:=B7 (M:=model prog w) X x.gt;have f3:=Fw.ga.bind (.ref e);have hx0:(expr&&Je (Cn "BaseException.__getattribute__"))=Ad:=by cases expr<;>rfl
 have hx2:(Cn "BaseException.__getattribute__" == Cn "object.__getattribute__")=Ad:=by decide+kernel
 have hx1:(Je (Bf C)&&Cn "BaseException.__getattribute__" == Cn "object.__getattribute__")=Ad:=by rw[hx2];rfl
 repeat (any_goals (first|assumption|with_reducible refine L0.at ?_|with_reducible refine L1.at ?_|with_reducible refine L2.at ?_|wp_step))
 refine DL Fw.ga.plain WX (QC X x (OU p) (Y_2 X hf hd p hn hv ?_))
 repeat (any_goals (first|assumption|wp_step))
 all_goals trace_state
theorem ZP{b:Am}{Q:Vq}(X:K.In h)(x:XcOk K C)(hf:Ar K (.ref C) f=Aa Ae)(hd:F0 K C=Ab)(p:IL e C (Aa dx) h)(hn:h.Ns1 dx mA)(hv:mA f=Aa v)(hh:handedOut v=pure v)(hq:Q v ⟨h,g,d,t+1,os⟩):Av (model prog w) A (Jx (.ref e) f b) Q E ⟨h,g,d,t,os⟩:=by
 unfold Jx
 repeat (any_goals (first|assumption|with_reducible apply jZ X x hf hd p hn hv hh|wp_step))
end
section
variable{X:Cx}{CL:ClA}{W:XW}{K:Fg}{H:Hp}{A:Ak->Prop}
theorem Oh{f:Ag}{d:D}:∀{vs:Ac (Ag×V)}{fs:Ac (Ag×D)},Repf K CL H A vs fs->fs.lookup f=Aa d->∃ v,vs.lookup f=Aa v/\Rep K CL H A v d
 |[],[],_,q=>nomatch q
 |(n,v)::vs,(m,d')::fs,⟨⟨e,r⟩,rs⟩,q=>by
  have e':n=m:=e;subst e';by_cases z:(f==n)=Ab
  .simp only[BU,z]at q ⊢;cases q;exact⟨v,rfl,r⟩
  .simp only[BU,z]at q ⊢;exact Oh rs q
theorem Su{a:An}{fa:Rho->R D}{f:Ag}(hxc:∀ c C,CL c=Aa C->XcOk X.K C)(hnf:∀ c C,CL c=Aa C->F0 X.K C=Ab/\Ar X.K (.ref C) f=Aa Ae)(ha:ST X CL W a fa)(hb:CY a f X.env (eval a X.env)=eval a X.env):SE X CL W (.Attribute a f pos) (λU=>(fa U).bind λx=>KM x f):=λA=>by
 intro pI s Y H Q I ⟨hA,U,gd,q⟩;refine S0 hb (thn (ha A pI s Y H _ I ⟨hA,U,gd,AR.bind q (Q':=λv H1=>∃ d,Cm X.K CL H1 A v d/\AR (λH2=>Rep X.K CL H2 A) W H1 (KM d f) Q) λd v H1 _ s1 r1 p1=>⟨d,r1,p1⟩⟩) λu s1 ⟨v,H1,I1,rv,d,rp,p1⟩=>?_)
 cases d with
 |exc c fs=>
  have p2:AR (λH2=>Rep X.K CL H2 A) W H1 (match fs.lookup f with|some d=>.ok d|none=>.bad) Q:=p1
  cases el:fs.lookup f with
  |none=>rw[el]at p2;exact p2.elim
  |some d=>
   rw[el]at p2;rcases rp with ⟨e,C,φ,rfl,_,hc,hH,hφ,hfs⟩|⟨a,xs,ds,_,z,_⟩
   .rcases hfs with z|⟨dx,vs,nd,hd,rf,hφ2⟩
    .rw[z]at el;cases el
    .obtain⟨y,l,ry⟩:=Oh rf el;cases rv;have ph:=(I1.hok e _ hH).1;obtain⟨o,ge,oc⟩:=hφ _ ph;obtain⟨o',ge',od,us,odt⟩:=hφ2 _ ph;rw[ge]at ge';cases ge';obtain⟨mA,hn,rel⟩:=I1.hok dx _ hd;obtain⟨u',hu,ru⟩:=Ht.some_of (v:=y) (o:=mA f) (by rw[<-l];exact rel f)
     obtain⟨k1,k2⟩:=hnf c C hc;obtain⟨hp,g2,d2,tk2,os2⟩:=s1;exact ZP I1.kIn (hxc c C hc) k2 k1 ⟨o,ge,oc,od,us,odt⟩ hn hu (PySem.W.handedOut_of (Rg ru)) ⟨y,H1,I1.tok _,ru,p2 y H1 (Az.refl H1) ry⟩
   .cases z
 |_=>exact p1.elim
end
section
variable{X:Cx}{CL:ClA}{W:XW}
theorem kA{e C:Ak}:∀ h1 h2:AF,XAt e C h1->(∀ o,h1.get? e=Aa o->h2.get? e=Aa o)->XAt e C h2:=λ_ _ ⟨o,a,b⟩ k=>⟨o,k _ a,b⟩
theorem jD{np pos:AC}{e:An}{es:Ac An}{fs:Rho->R (Ac D)}(hx:X.ex=[])(hk:Bc X.K (.ref C)=Ab)(hg:Gl X g)(hm:X.mg g=Aa (.ref C))(hdb:(g==("__debug__" : Ag))=Ad)(xc:C4 X.K C Ae=Ab)(hcl:CL c=Aa C)(ha:SA X CL W (e::es) fs)(he:As (e::es) X.env=(Ad,eval e X.env)::As es X.env)(hpl:(Bv pos (As es X.env)).any (·.1)=Ad)(hz:∀ U ds,fs U=.ok ds->ds.length<=100000):SE X CL W (.Call (.Name g np) (e::es) [] pos) (λU=>(fs U).bind λ_=>.ok (.exc c [])):=λA=>by
 intro pI s Y H Q I ⟨hA,U,gd,p⟩;dsimp only at p;obtain⟨bm,N,nm,qn,bs,hd,sn,sub,ab,col,dd,k0,k1,k2,k3,k5,mN,hob,hni,hbase⟩:=Lh I.kIn xc;refine Db (HL I hg hm ?_ hdb);have q1:=ha A pos pI s Y H (λvs H1=>Az H H1/\vs.length<=100000/\∀ v H',Az H H'->Rep X.K CL H' A v (.exc c [])->Q v H') I ⟨hA,U,gd,by
  cases e1:fs U with
  |bad=>rw[e1]at p;exact p
  |exn y=>rw[e1]at p;exact p
  |ok ds=>
   rw[e1]at p;exact λvs H1 s1 r1=>⟨s1,by rw[r1.length];exact hz U ds e1,p⟩⟩
 refine Eh (h₀:=X.base) I.ok.mod.kin hk (thn q1 λus s1 ⟨vs,H1,I1,r,sm,hl,q⟩=>⟨I1.kIn,?_⟩) he hpl
 obtain⟨o1,o2,o3⟩:=hob _ I1.kIn;have ap:∀ e',s1.heap.get? e'=Ae->FY X pI e':=λe' z=>JI I1 hx z
 have hf:=λe' (z:s1.heap.get? e'=Ae)=>HI I1.hok z
 obtain⟨h1,g1,d1,t1,os1⟩:=s1;refine wpAny_call_exc_subT CW o3 o1 o2 hni (λh' ev hmade=>?_) (by rw[List.nil_append,<-r.length,Cc];omega)
 obtain⟨t,ge,_⟩:=hmade.there;have nH:H1 ev=Ae:=hf ev hmade.new;have xa:XAt ev C h':=⟨_,ge,rfl⟩;have I3:Inv X pI Y H1 ⟨h',g1,d1,t1,os1⟩:=I1.kept (t':=t1) hmade.keeps;have I2:=Q8 I3 hx (ap ev hmade.new) nH ⟨_,ge⟩ xa kA;have s2:Az H1 (upd H1 ev (.ext (XAt ev C))):=EL nH _;refine⟨.ref ev,_,I2,rfl,q _ _ (sm.trans s2) ⟨ev,C,XAt ev C,rfl,λz=>?_,hcl,DD,λh x=>x,.inl rfl⟩⟩
 obtain⟨xs,z'⟩:=hA.same sm ev z;rw[nH]at z';cases z'
theorem kP{f:Ag}{ds:Ac D}{Q:VK}(p:AR Rp W H ((mkA c f ds).bind λx=>.ok (.exc x.c x.fs)) Q):∃ d n,ds=[d]/\xfD n d=Ab/\n<=2/\mkA c f ds=.ok ⟨c,[(f,d)]⟩:=by
  match ds,p with
  |[],p=>exact p.elim
  |_::_::_,p=>exact p.elim
  |[d],p=>
    have e':mkA c f [d]=if (xfD 0 d||(xfD 1 d||xfD 2 d))=Ab then .ok ⟨c,[(f,d)]⟩ else .bad:=rfl
    by_cases z:(xfD 0 d||(xfD 1 d||xfD 2 d))=Ab
    · rw[At z]at e';rcases (B2 _ _).mp z with h|h
      · exact⟨d,0,rfl,h,by omega,e'⟩
      · rcases (B2 _ _).mp h with h|h
        · exact⟨d,1,rfl,h,by omega,e'⟩
        · exact⟨d,2,rfl,h,by omega,e'⟩
    · rw[AA z]at e';rw[e']at p;exact p.elim
theorem jC{g f:Ag}{np pos:AC}{e:An}{es:Ac An}{fs:Rho->R (Ac D)}(hx:X.ex=[])(hr:Room k X.A)(hk:Bc X.K (.ref C)=Ab)(hg:Gl X g)(hm:X.mg g=Aa (.ref C))(hdb:(g==("__debug__" : Ag))=Ad)(xi:XIn X.K X.mg C f)(hcl:CL c=Aa C)(ha:SA X CL W (e::es) fs)(he:As (e::es) X.env=(Ad,eval e X.env)::As es X.env)(hpl:(Bv pos (As es X.env)).any (·.1)=Ad):SE X CL W (.Call (.Name g np) (e::es) [] pos) (λU=>(fs U).bind λds=>mkA c f ds |>.bind λx=>.ok (.exc x.c x.fs)):=λA=>by
 intro pI s Y H Q I ⟨hA,U,gd,p⟩;dsimp only at p;cases xi with
 |mk xc dc fn ty S l1 l2 bd body gl mo dg dp dq w1 w2 w3 hl hz0 hf hs=>
  rename_i fI OV x0 qual g0 par j0 st fd np0 apos q1 cpos0 q6 q7 q8 q9 q10;obtain⟨bm,N,nm,qn,bs,hd,sn,sub,ab,col,dd,k0,k1,k2,k3,k5,mN,hob,hni,hbase⟩:=Lh I.kIn xc;have hdt:hd=Ab:=by
   unfold F0 at dc;split at dc
   .rename_i c0 d0 cd sl lk;have g1:=I.kIn _ _ lk;rw[(hob _ I.kIn).1]at g1;unfold BP at g1;cases g1;exact dc
   .cases dc
  subst hdt;have hob2:∀ h:AF,X.K.In h->h.get? C=Aa (BP nm qn C N bs bm Ab sn sub ab col dd k0 k1 k2 k3 k5 "ValueError.__new__")/\Dx h veB bm:=λh z=>⟨(hob h z).1,(hob h z).2.2⟩
  refine Db (HL I hg hm ?_ hdb);have q1:=ha A pos pI s Y H (λvs H1=>Az H H1/\∃ d n,Reps X.K CL H1 A vs [d]/\xfD n d=Ab/\n<=2/\∀ v H',Az H H'->Rep X.K CL H' A v (.exc c [(f,d)])->Q v H') I ⟨hA,U,gd,by
   cases e1:fs U with
   |bad=>rw[e1]at p;exact p
   |exn y=>rw[e1]at p;exact p
   |ok ds=>
    rw[e1]at p;have p':AR (λH=>Rep X.K CL H A) W H ((mkA c f ds).bind λx=>.ok (.exc x.c x.fs)) Q:=p
    obtain⟨d,n,rfl,xf,hn,em⟩:∃ d n,ds=[d]/\xfD n d=Ab/\n<=2/\mkA c f ds=.ok ⟨c,[(f,d)]⟩:=kP p';rw[em]at p';exact λvs H1 s1 r1=>⟨s1,d,n,r1,xf,hn,p'⟩⟩
  refine Eh (h₀:=X.base) I.ok.mod.kin hk (thn q1 λus s2 ⟨vs,H2,I2,r2,sm2,d,n,rps,xf,hn,q⟩=>⟨I2.kIn,?_⟩) he hpl
  cases vs with
  |nil=>exact rps.elim
  |cons v vs=>
   cases vs with
   |cons=>exact rps.2.elim
   |nil=>
    obtain⟨u,rfl,ru⟩:=Ho r2;obtain⟨o1,o2,o3⟩:=hob _ I2.kIn;obtain⟨oc,od,kV,doc,pm,an,cdv,ct,osl,efd,lk,hcd⟩:=fn.ex;have coc:oc=.type "function" := by
     have ty':(X.K.lookup fI).map _=_:=ty;rw[lk]at ty';exact Bg ty'
    have apO:∀ e',s2.heap.get? e'=Ae->FY X pI e':=λe' z=>JI I2 hx z
    have hfO:=λe' (z:s2.heap.get? e'=Ae)=>HI I2.hok z
    have lkI:=I2.kIn _ _ lk;obtain⟨h1,g1,d1,t1,os1⟩:=s2;refine RQ CW o3 o1 o2 hni lkI coc (by rw[Cc];show 1<=_;omega) λh' e0 made=>?_
    obtain⟨t,ge,_⟩:=made.there;have I3:Inv X pI Y H2 ⟨h',g1,d1,t1,os1⟩:=I2.kept (t':=t1) made.keeps;have ap:FY X pI e0:=apO e0 made.new;have n0:H2 e0=Ae:=hfO e0 made.new;have I4:=OG (o:=.ext (XEx e0 C Ae t)) I3 ap n0 ⟨ge,⟨_,ge⟩,MJ⟩;have sm4:Az H2 (upd H2 e0 (.ext (XEx e0 C Ae t))):=EL n0 _;have ru0:=hr.mono (DP k);have run:=R7 (P:=X.prog) (w:=X.w) (mg:=X.mg) (base:=X.base) (CL:=CL) (E:=λ_ _ _=>AW) (B:=A) (H:=upd H2 e0 (.ext (XEx e0 C Ae t))) (t:=t) hob2 fn S l1 l2 bd body gl mo dg dp dq w1 w2 w3 hl hz0 hf hs (A:=X.A.under (.builtin "type.__call__" ⟨.ref C::[u],[]⟩)) (outer:=X.stack) hr.hd (by rw[NT];have:=ru0.dp;omega) (by rw[NS];have:=ru0.un;omega) hr.gd (I4.env0.make C [u] []) DD (Rep.same sm4 rps.1) xf hn ru
    refine Fq (EA run λr s' hq=>?_)
    cases r with
    |error _=>exact A3 hq
    |ok fl=>
     cases fl with
     |next=>exact A3 hq
     |brk=>exact A3 hq
     |cont=>exact A3 hq
     |ret u'=>
      obtain⟨v',H5,I5,rr,ev,t',dx,ndx,dne,eH⟩:=I4.after hq;subst ev;cases rr;have nd2:H2 dx=Ae:=by rw[Be dne]at ndx;exact ndx
      rw[OI]at eH;have H5e:H5 e0=Aa (.ext (XEx e0 C (Aa dx) t')):=by rw[eH,Be (CB dne),DD]
      have H5d:H5 dx=Aa (.xd [(f,v)]):=by rw[eH,DD]
      have s5:Az H2 H5:=λb o z=>by
       have nb:b≠e0:=λy=>by rw[y,n0]at z;cases z
       have nb2:b≠dx:=λy=>by rw[y,nd2]at z;cases z
       rw[eH,Be nb2,Be nb];exact z
      have nA:∀ b,H2 b=Ae->¬ A b:=λb z ha'=>by
       obtain⟨xs,q'⟩:=hA.same sm2 b ha';rw[z]at q';cases q'
      refine⟨rfl,.ref e0,H5,I5,rfl,q _ _ (sm2.trans s5) ?_⟩;exact⟨e0,C,_,rfl,nA e0 n0,hcl,H5e,λh x=>⟨_,x,rfl⟩,.inr ⟨dx,[(f,v)],nA dx nd2,H5d,⟨⟨rfl,Rep.same s5 rps.1⟩,trivial⟩,λh x=>⟨_,x,rfl,_,rfl⟩⟩⟩
theorem Rv{i:Ao Aj}(q:C4 K C i=Ab):Bc K (.ref C)=Ab:=by
  obtain⟨dd,cd,sl,bm,h1,_⟩:=Pa q;have e:BV K (.ref C) "__call__" = Aa (Aa (.builtin "type.__call__")):=by
    unfold BV;rw[S3 q];show PySem.fastLookup "type" "__call__" = _;decide+kernel
  show (match K.lookup C with
      |some ⟨_,_,.func _,_⟩=>Ab
      |some ⟨_,_,.cls _,_⟩=>BV K (.ref C) "__call__" == Aa (Aa (.builtin "type.__call__"))
      | _=>Ad)=Ab
  rw[h1,e];show (Aa (Aa (Cn "type.__call__"))==Aa (Aa (Cn "type.__call__")))=Ab;exact Do _
theorem qB{np pos:AC}{e:An}{es:Ac An}{fs:Rho->R (Ac D)}(hx:X.ex=[])(hr:Room k X.A)(hg:Gl X g)(hm:X.mg g=Aa (.ref C))(hdb:(g==("__debug__" : Ag))=Ad)(hcl:CL c=Aa C)(ha:SA X CL W (e::es) fs)(hxn:∀ ds,xn c ds=.bad\/(xn c ds=.ok ⟨c,[]⟩/\C4 X.K C Ae=Ab)\/∃ f,XIn X.K X.mg C f/\JW xn c f ds)(he:As (e::es) X.env=(Ad,eval e X.env)::As es X.env)(hpl:(Bv pos (As es X.env)).any (·.1)=Ad)(hz:∀ U ds,fs U=.ok ds->ds.length<=100000):SE X CL W (.Call (.Name g np) (e::es) [] pos) (λU=>(noX (fs U)).bind λds=>(xn c ds).bind λx=>.ok (.exc x.c x.fs)):=λA=>by
 intro pI s Y H Q I ⟨hA,U,gd,p⟩;dsimp only at p;cases e1:fs U with
 |bad=>
  rw[e1]at p;exact p.elim
 |exn y=>
  rw[e1]at p;exact p.elim
 |ok ds=>
  rw[e1]at p;have p':AR (λH=>Rep X.K CL H A) W H ((xn c ds).bind λx=>.ok (.exc x.c x.fs)) Q:=p
  rcases hxn ds with e2|⟨e2,xc⟩|⟨f,xi,d,n,rfl,xf,hn,e2⟩
  .rw[e2]at p';exact p'.elim
  .rw[e2]at p';refine jD (fs:=fs) hx (Rv xc) hg hm hdb xc hcl ha he hpl hz A pI s Y H Q I ⟨hA,U,gd,?_⟩;dsimp only;rw[e1];exact p'
  .rw[e2]at p';have m:mkA c f [d]=.ok ⟨c,[(f,d)]⟩:=by
    have:(xfD 0 d||(xfD 1 d||xfD 2 d))=Ab:=by
     have hn':n=0\/n=1\/n=2:=by omega
     rcases hn' with rfl|rfl|rfl<;>rw[xf]<;>simp
    show (if (xfD 0 d||(xfD 1 d||xfD 2 d))=Ab then (.ok ⟨c,[(f,d)]⟩:R Ex) else .bad)=_
    rw[At this]
   have kp:Bc X.K (.ref C)=Ab:=by
    cases xi with
    |mk xc=>exact Rv xc
   refine jC (fs:=fs) hx hr kp hg hm hdb xi hcl ha he hpl A pI s Y H Q I ⟨hA,U,gd,?_⟩;dsimp only;rw[e1];show AR (λH=>Rep X.K CL H A) W H ((mkA c f [d]).bind λx=>.ok (.exc x.c x.fs)) Q
   rw[m];exact p'
end
theorem ZW:∀{ss:Ac Ag}{its:Ac Aj},AX (ss.map V.str) its->∃ l:Ac (Ag×Ct),its=strValues l/\l.map (·.1)=ss:=by
 intro ss
 induction ss with
 |nil=>intro its v;cases v;exact⟨[],rfl,rfl⟩
 |cons x ss ih=>
  intro its v;cases v with
  |cons v1 v2=>
   obtain⟨t,rfl⟩:=v1;obtain⟨l,e1,e2⟩:=ih v2;exact⟨(x,t)::l,by rw[e1];rfl,by rw[AZ,e2]⟩
section
variable{X:Cx}{CL:ClA}{W:XW}
def rX(K:Fg):V->Ac V->Hp->VK->Prop:=λx xs H Q=>∃ sep q ss,x=.str sep/\xs=[.ref q]/\SqL K H q (ss.map V.str)/\IW sep ss=Ab/\Q (.str (Em sep ss)) H
theorem fK:MtR X "str.join" (rX X.K):=by
 intro pI s Y H x vs v us Q I rx rv h;obtain⟨sep,l,ss,rfl,rfl,sq,hok,q⟩:=h;obtain⟨t,rfl⟩:=rx;obtain⟨u,rfl,ru⟩:=rv.one;cases ru;obtain⟨its,r,pl,hz⟩:=I.list sq;obtain⟨ls,rfl,rfl⟩:=ZW r;unfold IW at hok;rw[Bm]at hok;refine Ga W4 (Fp _ _ _) PySem.F.entry_str_join (PySem.F.args_str_join_2 _ _) (meets_str_join_list sep t l ls hok) ⟨pl.isList,post_join ls ⟨joinFit_length hok,λt' k=>?_⟩⟩
 exact⟨.str _,H,I.kept (t':=k) λ_ _ e=>e,⟨_,rfl⟩,q⟩
theorem YX:∀{es:Ac D}{ss:Ac Ag}{ys:Ac V},Kw es=Aa ss->Reps K CL H A ys es->ys=ss.map V.str:=by
 intro es
 induction es with
 |nil=>
  intro ss ys h r;cases h;cases ys with
  |nil=>rfl
  |cons=>exact r.elim
 |cons e es ih=>
  intro ss ys h r;cases ys with
  |nil=>exact r.elim
  |cons y ys=>
   cases e with
   |str x=>
    have h':(Kw es).map (x :: ·)=Aa ss:=h;cases e2:Kw es with
    |none=>rw[e2]at h';cases h'
    |some js=>
     rw[e2]at h';cases h';have e1:y=.str x:=r.1;rw[ih e2 r.2,e1];rfl
   |_=>cases h
theorem dR{y:An}{s:Ag}(hy:SE X CL W y fy)(hbase:CY (.Constant (.str s) k p) "join" X.env (eval (.Constant (.str s) k p) X.env)=eval (.Constant (.str s) k p) X.env)(hfew:((Bv cpos (As [y] X.env)).all (λx=>!x.1)&&(Hf cpos (FN [] X.env)).all (λx=>x.1.isSome)&&decide ([y].length+([]:Ac DS).length+(if ([]:Ac DS).isEmpty then 0 else 1)<30))=Ab)(hline:(apos.endLine==cpos.line)=Ab)(hs:As [y] X.env=[(Ad,eval y X.env)]):
  SE X CL W (.Call (.Attribute (.Constant (.str s) k p) "join" apos) [y] [] cpos) (λU=>(fy U).bind λx=>biD .sjoin [.str s,x]):=λA=>
 PE.weak (MY W2 W4 PySem.F.type_str_join fK (MN (X:=X) (CL:=CL) (W:=W) A) (DN (hy A) Fj hs) hbase hfew hline hs rfl) λY H Q ⟨hA,U,g,p⟩=>⟨hA,U,g,λv H1 s1 r1=>by
  dsimp only at p;have ev:v=.str s:=r1;subst ev;refine⟨rfl,hA.same s1,U,g.same s1,?_⟩;cases e:fy U with
  |bad=>rw[e]at p;exact p.elim
  |exn x=>rw[e]at p;exact λH2 s2=>p H2 (s1.trans s2)
  |ok d=>
   rw[e]at p;intro v' H2 s2 r2;have p1:AR (λH=>Rep X.K CL H A) W H (biD .sjoin [.str s,d]) Q:=p
   cases d with
   |lst ds=>
    obtain⟨a,xs,rfl,_,sq,rs⟩:=r2;have p2:AR (λH=>Rep X.K CL H A) W H (OR s ds) Q:=p1
    unfold OR at p2;cases e3:Kw ds with
    |none=>rw[e3]at p2;exact p2.elim
    |some ss=>
     rw[e3]at p2;dsimp only at p2;split at p2
     .rename_i hok;have ex:=YX e3 rs;subst ex;exact⟨s,a,ss,rfl,rfl,sq,hok,p2 _ H2 (s1.trans s2) rfl⟩
     .exact p2.elim
   | _=>exact p1.elim⟩
end
theorem QW:∀(l:Ac Ag)(k:Af),AX (l.map V.str) (strsFrom k l)
 |[],_=>.nil
 |_::r,k=>.cons ⟨_,rfl⟩ (QW r (k+1))
section
variable{X:Cx}{CL:ClA}{W:XW}
def mG:V->Ac V->Hp->VK->Prop:=λx xs H Q=>∃ z y,x=.str z/\xs=[.str y]/\(y.length==0)=Ad/\Hq z y=Ab/\∀ p,H p=Ae->Q (.ref p) (upd H p (.lst ((Eg z y).map V.str)))
theorem aO:MtR X "str.split" mG:=by
 intro pI s Y H x vs v us Q I rx rv h;obtain⟨z,y,rfl,rfl,hy,hok,q⟩:=h;obtain⟨t,rfl⟩:=rx;obtain⟨u0,rfl,ru⟩:=rv.one;obtain⟨u,rfl⟩:=ru;unfold Hq at hok;rw[Al]at hok;have z1:z.length<=sizeLine:=by have:=Bw hok.1;rw[Cc];omega
 have z2:(Wp z (D7 z y 0 z.length (z.length+1)) y.length).length<=sizeLine:=by have:=Bw hok.2;rw[Cc];omega
 have one:∀(l:Ac Ag)(its:Ac Aj)(tk:Af),Eg z y=l->l.length<=sizeLine->AX (l.map V.str) its->EP X pI Y Q (.ref s.heap.objs.size) { s with heap:=s.heap.push { cls:=.type "list",data:=.seq its.toArray },toks:=tk }:=λl its tk e hl hv=>
  ⟨.ref s.heap.objs.size,_,I.laid (t':=tk) (o:=.lst (l.map V.str)) (λb ob q=>Au _ q) (AK _) ⟨by rw[Bi];exact hl,its,0,hv,AY _ rfl⟩,rfl,by rw[<-e];exact q _ (I.hok.fresh (AK _))⟩
 have self1:1<=sizeLine:=by decide
 cases h1:(decide (z.length<y.length)||decide (EZ z<EZ y))
 .cases hf:(D7 z y 0 z.length (z.length+1)).isEmpty
  .exact Ga Ek (Fp _ _ _) Fu (Ff _ _) (meets_str_split_sep z y t u h1 hy hf z1 z2) (one _ _ _ ((AA (Gp h1)).trans (AA (Gp hf))) z2 (QW _ _))
  .exact Ga Ek (Fp _ _ _) Fu (Ff _ _) (meets_str_split_not_found z y t u h1 hy hf) (one [z] [.str z t] s.toks ((AA (Gp h1)).trans (At hf)) self1 (.cons ⟨_,rfl⟩ .nil))
 .exact Ga Ek (Fp _ _ _) Fu (Ff _ _) (meets_str_split_cannot_occur z y t u h1) (one [z] [.str z t] s.toks (At h1) self1 (.cons ⟨_,rfl⟩ .nil))
theorem Q2{K:Fg}{H:Hp}{A:Ak->Prop}:∀ l:Ac Ag,Reps K CL H A (l.map V.str) (l.map D.str)
 |[]=>trivial
 |_::r=>⟨rfl,Q2 r⟩
theorem Z_4{o:An}{y:Ag}(ho:ST X CL W o fo)(hbase:CY o "split" X.env (eval o X.env)=eval o X.env)(hline:(apos.endLine==cpos.line)=Ab):SC X CL W Ab (.Call (.Attribute o "split" apos) [.Constant (.str y) k p] [] cpos) (λU=>(fo U).bind λx=>biD .ssplit [x,.str y]):=λA=>
 PE.weak (MY W2 Ek PySem.F.type_str_split aO (ho A) (DN (MN (X:=X) (CL:=CL) (W:=W) A) Fj rfl) hbase rfl hline rfl rfl) λY H Q ⟨hA,U,g,q⟩=>⟨hA,U,g,AR.bind q λd v H1 _ s1 r1 p1=>by
  cases d with
  |str z=>
   have e:=r1.str_of;subst e;refine⟨rfl,hA.same s1,U,g.same s1,λv' H2 s2 r2=>?_⟩
   have e2:v'=.str y:=r2;subst e2;have p2:AR (Du X.K CL Ab H A) W H1 (if (!(y.length==0)&&Hq z y)=Ab then .ok (.lst ((Eg z y).map D.str)) else .bad) Q:=p1
   split at p2
   .rename_i hk;rw[Al,Bm]at hk;exact⟨z,y,rfl,rfl,hk.1,hk.2,λa ha=>p2 _ _ (s2.trans (EL ha _)) (Ji (s1.trans s2) ((hA.same s1).same s2) ha (Q2 _))⟩
   .exact p2.elim
  | _=>exact p1.elim⟩
theorem oE:Jp X CL W (.type "str") (biD .str):=by
  intro A pI s Y H xs us Q I r ⟨hA,ds,rs,p⟩
  match ds,rs,p with
  |[.int i],rs,p=>
    obtain⟨v,rfl,rv⟩:=rs.one;have e:=rv.int_of;subst e;have p2:AR (λH=>Rep X.K CL H A) W H (if LL i=Ab then .ok (.str (Ai (toString i))) else .bad) Q:=p
    split at p2
    · rename_i hk;have hk':i.natAbs<1000:=AN hk;exact YL pI s Y H _ us Q I r ⟨i,rfl,Ed (G9 _) (Nat.lt_trans hk' (by decide)),p2 _ H (Az.refl H) rfl⟩
    · exact p2.elim
  |[.bl _],_,p=>exact p.elim
  |[],_,p=>exact p.elim
  |[.non],_,p=>exact p.elim
  |[.str _],_,p=>exact p.elim
  |[.tup _],_,p=>exact p.elim
  |[.lst _],_,p=>exact p.elim
  |[.obj _ _],_,p=>exact p.elim
  |[.exc _ _],_,p=>exact p.elim
  |[.dic _],rs,p=>first|exact p.elim|(obtain⟨v,rfl,rv⟩:=rs.one;exact rv.plain.elim)
  |x::_::_,_,p=>cases x<;>exact p.elim
end
structure OCls (K:Fg) (C:Ak):Prop where
 cl:Cls K C
 np:GR K C "p"
 nt:GR K C "triple"
 ha:Ar K (.ref C) "__class__" = Aa (Aa (.builtin "object.__class__"))
 hn:BV K (.builtin "object.__class__") "__get__" = Aa (Aa (.builtin "getset_descriptor.__get__"))
 htk:HB K (.builtin "object.__class__")=Aa Ab
 hm:BZ K C (.type "object")=Aa Ab
theorem Q3{K:Fg}{CL:ClA}{H:Hp}{A:Ak->Prop}{f:Ag}:∀{vs:Ac (Ag×V)}{fs:Ac (Ag×D)},Repf K CL H A vs fs->fs.lookup f=Ae->vs.lookup f=Ae
 |[],[],_,_=>rfl
 |v::vs,(n,d)::fs,h,q=>by
  obtain⟨⟨e,_⟩,h2⟩:=h;obtain⟨m,y⟩:=v;have e':m=n:=e;subst e';by_cases z:(f==m)=Ab
  .simp only[BU,z]at q;cases q
  .have z':(f==m)=Ad:=by simpa using z
   simp only[BU,z']at q ⊢;exact Q3 h2 q
 |[],_::_,h,_=>h.elim
 |_::_,[],h,_=>h.elim
section
variable{CL:ClA}{K:Fg}{H:Hp}{A:Ak->Prop}{x C dx:Ak}{vs:Ac (Ag×V)}{o:HO}
mutual
theorem Tq(hx:H x=Aa (.ins C dx vs)):∀(n:Af)(d:D){v:V},nlD n d=Ab->Rep K CL H A v d->Rep K CL (upd H x o) A v d
 |_,.non,_,_,h=>h
 |_,.bl _,_,_,h=>h
 |_,.int _,_,_,h=>h
 |_,.str _,_,_,h=>h
 |0,.tup _,_,hn,_=>by cases hn
 |n+1,.tup ds,_,hn,h=>by
  obtain⟨a,xs,e,na,s,r⟩:=h;refine⟨a,xs,e,na,?_,nls_ins hx n ds hn r⟩;rcases s with s|s
  .rcases s with s|⟨ob,s⟩
   .exact .inl (.inl (by rw[Be λz=>by rw[z,hx]at s;cases s];exact s))
   .exact .inl (.inr ⟨ob,by rw[Be λz=>by rw[z,hx]at s;cases s];exact s⟩)
  .exact .inr s
 |n,.lst _,_,hn,_=>by cases n<;>cases hn
 |n,.obj _ _,_,hn,_=>by cases n<;>cases hn
 |n,.exc _ _,_,hn,_=>by cases n<;>cases hn
 |n,.dic _,_,hn,_=>by cases n<;>cases hn
theorem nls_ins(hx:H x=Aa (.ins C dx vs)):∀(n:Af)(ds:Ac D){us:Ac V},ds.all (nlD n)=Ab->Reps K CL H A us ds->Reps K CL (upd H x o) A us ds
 |_,[],[],_,h=>h
 |n,d::ds,_::_,hn,h=>by
  simp only[Dg,Al]at hn;exact⟨Tq hx n d hn.1 h.1,nls_ins hx n ds hn.2 h.2⟩
 |_,[],_::_,_,h=>h.elim
 |_,_::_,[],_,h=>h.elim
end
theorem Oy{v:V}{fs:Ac (Ag×D)}(r:Cm K CL H A v (.obj c fs)):∃ a C dx vs,v=.ref a/\¬ A a/\OC K c=Aa C/\H a=Aa (.ins C dx vs)/\Repf K CL H A vs fs:=by
 rcases r with r|⟨a,xs,ds,_,z,_⟩
 .exact r
 .cases z
end
section
variable{X:Cx}{CL:ClA}{W:XW}{a:An}{fa:Rho->R D}
theorem jA{f:Ag}(ho:∀ c C,OC X.K c=Aa C->Cls X.K C/\GR X.K C f)(ha:ST X CL W a fa)(hb:CY a f X.env (eval a X.env)=eval a X.env):SE X CL W (.Attribute a f pos) (λU=>(fa U).bind λx=>ofD x f):=λA=>by
 intro pI s Y H Q I ⟨hA,U,gd,q⟩;refine S0 hb (thn (ha A pI s Y H _ I ⟨hA,U,gd,AR.bind q (Q':=λv H1=>∃ d,Cm X.K CL H1 A v d/\AR (λH2=>Rep X.K CL H2 A) W H1 (ofD d f) Q) λd v H1 _ s1 r1 p1=>⟨d,r1,p1⟩⟩) λu s1 ⟨v,H1,I1,rv,d,rp,p1⟩=>?_)
 cases d with
 |obj c fs=>
  have p2:AR (λH2=>Rep X.K CL H2 A) W H1 (match fs.lookup f with|some d=>.ok d|none=>.bad) Q:=p1
  cases el:fs.lookup f with
  |none=>rw[el]at p2;exact p2.elim
  |some d=>
   rw[el]at p2;obtain⟨e,C,dx,vs,rfl,_,hc,hH,rf⟩:=Oy rp;obtain⟨y,l,ry⟩:=Oh rf el;cases rv;obtain⟨k1,k2⟩:=ho c C hc;exact Ze I1 hH k1 k2 l λu s' I2 ru=>⟨y,H1,I2,ru,p2 y H1 (Az.refl H1) ry⟩
 |_=>exact p1.elim
theorem lN(hoc:∀ c C,OC X.K c=Aa C->OCls X.K C)(hg:Gl X "isinstance")(hm:X.mg "isinstance" = Ae)(hg2:Gl X x)(hm2:X.mg x=Aa (.ref C'))(hkit:∀ c C,OC X.K c=Aa C->BQ X.K (.ref C) (.ref C')=Aa ((oup c).contains k))(hdb:(x==("__debug__" : Ag))=Ad)(ha:ST X CL W a fa)(he:As [a,.Name x p2] X.env=(Ad,eval a X.env)::As [.Name x p2] X.env):SE X CL W (.Call (.Name "isinstance" p) [a,.Name x p2] [] pos) (λU=>(fa U).bind λx=>Qe k x):=λA=>
 PE.weak (Kd (r:=λxs H Q=>∃ a C dx vs c,xs=[.ref a,.ref C']/\OC X.K c=Aa C/\H a=Aa (.ins C dx vs)/\Q (.bl ((oup c).contains k)) H) (λpI s Y H xs us Q I r ⟨b,C,dx,vs,c,e,hc,hH,q⟩=>by
   subst e;obtain⟨u,w',rfl,r1,r2⟩:=JR r;cases r2;have o:=hoc c C hc;exact Zw I r1 (.ins hH o.cl o.ha o.hn o.htk o.hm) (hkit c C hc) λtk=>⟨.bl _,H,I.tok tk,rfl,q⟩)
  hg hm Fb (DN (ha A) (DN (OD (v:=.ref C') hg2 hm2 rfl hdb) Fj rfl) he) (by decide) (by decide) he rfl) λY H Q ⟨hA,U,g,q⟩=>⟨hA,U,g,AR.bind q λd v H1 _ s1 r1 p1=>by
   cases d with
   |obj c fs=>
    obtain⟨b,C,dx,vs,rfl,_,hc,hH,_⟩:=Oy r1;exact⟨b,C,dx,vs,c,rfl,hc,hH,p1 _ H1 (Az.refl H1) rfl⟩
   | _=>exact p1.elim⟩
theorem dP{m:Ag}{ms:Ac (Af×Af)}{F:Af->Ac D->R D}(hr:Room k X.A)(hx:∀ A,Iy (CXR X.prog X.w) X (EKW X.K CL A W))(ha:ST X CL W a fa)(hms:∀ c id C,ms.lookup c=Aa id->OC X.K c=Aa C->∃ f fd ps fr,Cls X.K C/\Meth X.K C m f/\ED X.K fd ps []/\FnOk X.prog X.w X.K X.mg X.base (CXR X.prog X.w) k f fd ps (spD X.K CL 1 fr (F id)))(hbase:CY a m X.env (eval a X.env)=eval a X.env)(hline:(apos.endLine==pos.line)=Ab):SE X CL W (.Call (.Attribute a m apos) [] [] pos) (λU=>(fa U).bind λx=>LH F m ms x):=λA=>by
 intro pI s Y H Q I ⟨hA,U,gd,q⟩;rw[arm_eval_Call,hbase];refine Aq (thn (ha A pI s Y H (λv H1=>Az H H1/\∃ d,Cm X.K CL H1 A v d/\AR (λH2=>Rep X.K CL H2 A) W H1 (LH F m ms d) Q) I ⟨hA,U,gd,AR.bind q λd v H1 _ s1 r1 p1=>⟨s1,d,r1,p1⟩⟩) λu s1 ⟨v,H1,I1,rv,s1',d,rp,p1⟩=>?_)
 refine Aq (Ea ?_);have hform:XZ (([]:Ac An).length+([]:Ac DS).length) (Bv pos (As [] X.env)) (Hf pos (FN [] X.env))=Ab:=rfl;have hpos:GP Ab a X.env apos pos=pure pos:=by
  unfold GP;simp[hline]
 unfold methodCall;rw[hform];cases d with
 |obj c fs=>
  have p2:AR (λH2=>Rep X.K CL H2 A) W H1 (match ms.lookup c with|some id=>if (fs.lookup m).isNone=Ab then F id [.obj c fs] else .bad|none=>.bad) Q:=p1
  cases el:ms.lookup c with
  |none=>rw[el]at p2;exact p2.elim
  |some id=>
   rw[el]at p2;dsimp only at p2;split at p2
   .rename_i hn;obtain⟨e,C,dx,vs,rfl,na,hc,hH,rf⟩:=Oy rp;obtain⟨f,fd,ps,fr,cl,me,hb,G⟩:=hms c id C el hc;cases rv;refine Aq (EV (Zd I1 hH cl me (Q3 rf (DH.mp hn)) ?_));refine Aq (HF hpos ?_);refine PySem.W.callWith_K0 (first:=[.ref e]) I1.kIn me.kp (Ti (us:=[.ref e]) (vs:=[.ref e]) G hr hb .nil (hx A) I1 (.cons rfl .nil) ?_)
    refine⟨[.obj c fs],A,rfl,hA.same s1',⟨⟨e,C,dx,vs,rfl,na,hc,hH,rf⟩,trivial⟩,?_⟩;cases e2:F id [.obj c fs] with
    |ok d=>rw[e2]at p2;exact λv H2 s2 r2=>p2 v H2 s2 r2.1
    |exn y=>rw[e2]at p2;exact λcls dx H2 s2 xr=>⟨y,xr,p2 H2 s2⟩
    |bad=>rw[e2]at p2;exact p2.elim
   .exact p2.elim
 |_=>exact p1.elim
def spI(K:Fg)(CL:ClA)(G:Ac D->R D):Sp:=λvs H Q _=>∃(x C dx:Ak)(us:Ac V)(ds:Ac D)(A:Ak->Prop)(H0:Hp),vs=.ref x::us/\us.length=2/\Cls K C/\GR K C "p"/\GR K C "triple"/\H x=Aa (.ins C dx [])/\H0 x=Ae/\Az H0 H/\AOk H0 A/\Reps K CL H0 A us ds/\(match G ds with
  |.ok d=>∀ d1 d2,d=.tup [d1,d2]->∀ v1 v2 H',Az H0 H'->H' x=Aa (.ins C dx [("p",v1),("triple",v2)])->Rep K CL H' A v1 d1->Rep K CL H' A v2 d2->Q .non H'
  | _=>AW)
theorem fL{Q:VK}(p:AR Rp W H (EC c d) Q):∃ d1 d2,d=.tup [d1,d2]/\EC c d=.ok (.obj c [("p",d1),("triple",d2)]):=by
  cases d with
  |tup ds=>
    match ds,p with
    |[],p=>exact p.elim
    |[_],p=>exact p.elim
    |_::_::_::_,p=>exact p.elim
    |[a,b],p=>
      refine⟨a,b,rfl,?_⟩;have p2:AR Rp W H (if nlD 5 b=Ab then .ok (.obj c [("p",a),("triple",b)]) else .bad) Q:=p
      show (if nlD 5 b=Ab then R.ok (D.obj c [("p",a),("triple",b)]) else .bad)=_
      split at p2
      · rename_i z;rw[At z]
      · exact p2.elim
  |_=>exact p.elim
theorem dQ{C f:Ak}{np pos:AC}{e:An}{es:Ac An}{fs:Rho->R (Ac D)}{G F:Ac D->R D}(M:Mk X.K C f)(hoc:OC X.K c=Aa C)(o:OCls X.K C)(FI:FnOk X.prog X.w X.K X.mg X.base (CXR X.prog X.w) k f fd ["self", "p", "numbers"] (spI X.K CL G))(hr:Room (k+1) X.A)(hb:ED X.K fd ["self", "p", "numbers"] [])(hx:∀ A,Iy (CXR X.prog X.w) X (EKW X.K CL A W))(hF:∀ ds,ds.length=2->F ds=.bad\/F ds=(G ds).bind (EC c))(hG:∀ ds y,G ds≠.exn y)(hg:Gl X g)(hm:X.mg g=Aa (.ref C))(hdb:(g==("__debug__" : Ag))=Ad)(ha:SA X CL W (e::es) fs)(hn:∀ U ds,fs U=.ok ds->ds.length=2)(he:As (e::es) X.env=(Ad,eval e X.env)::As es X.env)(hpl:(Bv pos (As es X.env)).any (·.1)=Ad):SE X CL W (.Call (.Name g np) (e::es) [] pos) (λU=>(noX (fs U)).bind λds=>F ds):=λA=>by
 intro pI s Y H Q I ⟨hA,U,gd,p⟩;dsimp only at p;refine Db (HL I hg hm ?_ hdb);have q1:=ha A pos pI s Y H (λvs H1=>∃ ds,Az H H1/\ds.length=2/\Reps X.K CL H1 A vs ds/\AR (λH=>Rep X.K CL H A) W H (F ds) Q) I ⟨hA,U,gd,by
  cases e1:fs U with
  |bad=>rw[e1]at p;exact p
  |exn y=>rw[e1]at p;exact p.elim
  | ok ds=>rw[e1]at p;exact λvs H1 s1 r1=>⟨ds,s1,hn U ds e1,r1,p⟩⟩
 refine Eh (h₀:=X.base) I.ok.mod.kin M.kp (thn q1 λus s1 ⟨vs,H1,I1,r,ds,sm,hl,rps,q⟩=>⟨I1.kIn,?_⟩) he hpl
 rcases hF ds hl with z|z
 .rw[z]at q;exact q.elim
 .rw[z]at q;cases e2:G ds with
  |bad=>rw[e2]at q;exact q.elim
  |exn y=>exact absurd e2 (hG ds y)
  |ok d=>
   rw[e2]at q;have q':AR (λH=>Rep X.K CL H A) W H (EC c d) Q:=q
   obtain⟨d1,d2,rfl,em⟩:=fL q';rw[em]at q';refine ZL (Q:=Q) (E:=EKW X.K CL A W) M FI hr hb .nil (hx A) I1 r λx dx nx ndx ne=>?_
   refine⟨x,C,dx,vs,ds,A,H1,by rw[Cw],by rw[rps.length];exact hl,o.cl,o.np,o.nt,DD,nx,λb ob h=>?_,hA.same sm,rps,?_⟩
   .have n1:b≠x:=λz=>by rw[z,nx]at h;cases h
    have n2:b≠dx:=λz=>by rw[z,ndx]at h;cases h
    rw[Be n1,Be n2];exact h
   .rw[e2];exact λe1 e3 ee v1 v2 H' sm2 hx' r1 r2=>by
     cases ee;exact⟨rfl,q' _ H' (sm.trans sm2) ⟨x,C,dx,_,rfl,(hA.same sm).new nx,hoc,hx',⟨⟨rfl,r1⟩,⟨rfl,r2⟩,trivial⟩⟩⟩
theorem Zn{p0 p4 p5 p6:AC}{id:Af}{t0:Cx}{H0:Hp}{x dx:Ak}{v1 v2:V}{Q:VK}(pself:∀ p,PE X (.Name "self" p) (EQ 0))(pp:∀ p,PE X (.Name "p" p) (EQ 1))(hv:SE X CL W ev (λU=>evE Z U (.call id (.cons (.var 1) (.cons (.var 2) .nil)))))(hs:CK ev (Aa (.Attribute (.Name "self" p3) "triple" p4)) p5.line X.env=pure Ad):
    ∃ t,PSs X [.Assign [.Attribute (.Name "self" p0) "p" p1] (.Name "p" p2) p6,.Assign [.Attribute (.Name "self" p3) "triple" p4] ev p5] t /\
      (Y=[Aa (.ref x),Aa v1,Aa v2]->Cls X.K C->GR X.K C "p"->GR X.K C "triple"->H x=Aa (.ins C dx [])->H0 x=Ae->Az H0 H->AOk H0 A->Rep X.K CL H0 A v1 d1->Rep X.K CL H0 A v2 d2 ->
        (∃ t,Z.F id [d1,d2]=.ok t/\nlD 5 t=Ab/\∀ w1 w2 H',Az H0 H'->H' x=Aa (.ins C dx [("p",w1),("triple",w2)])->Rep X.K CL H' A w1 d1->Rep X.K CL H' A w2 t->Q .non H')->t {nx:=λ_ H'=>Q .non H',rt:=Q} Y H):=by
  have all:=Oi (Tk (X:=X) (f := "p") (pos:=p6) (pos':=p1) (pself p0) (pp p2) rfl) (Kk (Tk (X:=X) (f := "triple") (pos:=p5) (pos':=p4) (pself p3) (hv A) hs));refine⟨_,all,?_⟩;rintro rfl cl np nt hx h0 sm hA r1 r2 ⟨t,ef,hnl,q⟩;have nx:∀ b o,H0 b=Aa o->b≠x:=λb o e z=>by rw[z,h0]at e;cases e
  have sm2:Az H0 (upd H x (.ins C dx (E7 "p" v1 []))):=λb o e=>by rw[Be (nx b o e)];exact sm b o e
  refine⟨v1,rfl,.ref x,rfl,x,C,dx,[],rfl,hx,cl,np,by decide,hA.same sm2,[Ae,Aa (d1,Ad),Aa (d2,Ad)],⟨λi d h=>?_,λi d h=>?_,rfl⟩,?_⟩
  · match i,h with
    |0,h=>cases h
    |1,h=>cases h;exact⟨v1,rfl,Rep.same sm2 r1⟩
    |2,h=>cases h;exact⟨v2,rfl,Rep.same sm2 r2⟩
    |n+3,h=>cases h
  · match i,h with
    |0,h=>cases h
    |1,h=>cases h
    |2,h=>cases h
    |n+3,h=>cases h
  · have ee:evE Z [Ae,Aa (d1,Ad),Aa (d2,Ad)] (.call id (.cons (.var 1) (.cons (.var 2) .nil)))=.ok t:=by
      show ((Z.F id [d1,d2]).bind λd=>.ok d)=_
      rw[ef];rfl
    dsimp only;rw[ee];intro w2 H3 s3 r3;have hx3:H3 x=Aa (.ins C dx [("p",v1)]):=s3 _ _ DD;refine⟨.ref x,rfl,x,C,dx,[("p",v1)],rfl,hx3,cl,nt,show 1<1000 by decide,?_⟩
    have sm4:Az H0 (upd H3 x (.ins C dx (E7 "triple" w2 [("p",v1)]))):=λb o e=>by rw[Be (nx b o e)];exact s3 _ _ (sm2 b o e)
    exact q v1 w2 _ sm4 DD (Rep.same sm4 r1) (Tq hx3 5 t hnl r3)
end
theorem O8{i:Af}(h:GA U i=Ab):U[i]?=Aa (Aa (.non,Ab)):=by
 unfold GA at h;split at h
 .rename_i e;exact e
 .cases h
theorem HM{i:Af}(hi:U[i]?=Aa (Aa (d,Ab)))(j:Af)(e:D):(U.set i (Aa (d',Ab)))[j]?=Aa (Aa (e,Ab))↔(i=j/\e=d')\/(i≠j/\U[j]?=Aa (Aa (e,Ab))):=by
 have hil:=(A1.mp hi).1;by_cases hj:i=j
 .subst hj;rw[Co hil];simp;exact⟨λz=>z.symm,λz=>z.symm⟩
 .rw[BL hj];simp[hj]
theorem Il{i:Af}(hi:U[i]?=Aa (Aa (d,Ab)))(b:Ak):Bk B (U.set i (Aa (d',Ab))) Y b↔Bk B U Y b:=by
 constructor
 .rintro (h|⟨j,e,h1,h2⟩)
  .exact .inl h
  .rcases (HM hi j e).mp h1 with ⟨rfl,_⟩|⟨_,h1⟩
   .exact .inr ⟨i,d,hi,h2⟩
   .exact .inr ⟨j,e,h1,h2⟩
 .rintro (h|⟨j,e,h1,h2⟩)
  .exact .inl h
  .by_cases hj:i=j
   .subst hj;exact .inr ⟨i,d',(HM hi i _).mpr (.inl ⟨rfl,rfl⟩),h2⟩
   .exact .inr ⟨j,e,(HM hi j e).mpr (.inr ⟨hj,h1⟩),h2⟩
section
variable{K:Fg}{CL:ClA}{Fz Fy:Fr}{B:Ak->Prop}{U:Rho}{Y:L2.St}{H:Hp}{W:XW}
theorem Sx.dis2(x:Sx K CL Fz B U Y H){i:Af}(hi:U[i]?=Aa (Aa (d,Ab)))(j k:Af)(e f:D)(b:Ak)(g1:(U.set i (Aa (d',Ab)))[j]?=Aa (Aa (e,Ab)))(g2:(U.set i (Aa (d',Ab)))[k]?=Aa (Aa (f,Ab)))(g3:Y[j]?=Aa (Aa (.ref b)))(g4:Y[k]?=Aa (Aa (.ref b))):j=k:=by
 rcases (HM hi j e).mp g1 with ⟨rfl,_⟩|⟨hj,h'⟩
 .rcases (HM hi k f).mp g2 with ⟨rfl,_⟩|⟨hk,h''⟩
  .rfl
  .exact x.dis i k d f b hi h'' g3 g4
 .rcases (HM hi k f).mp g2 with ⟨rfl,_⟩|⟨hk,h''⟩
  .exact x.dis j i e d b h' hi g3 g4
  .exact x.dis j k e f b h' h'' g3 g4
theorem Sx.new2(x:Sx K CL Fz B U Y H){i:Af}(hi:U[i]?=Aa (Aa (d,Ab)))(j:Af)(e:D)(b:Ak)(g1:(U.set i (Aa (d',Ab)))[j]?=Aa (Aa (e,Ab)))(g2:Y[j]?=Aa (Aa (.ref b))):((∀ o,¬ Fz b o)/\¬ B b)/\∃(j:Af)(d:D),U[j]?=Aa (Aa (d,Ab))/\Y[j]?=Aa (Aa (.ref b)):=by
 rcases (HM hi j e).mp g1 with ⟨rfl,_⟩|⟨_,h'⟩
 .exact⟨x.new i d b hi g2,i,d,hi,g2⟩
 .exact⟨x.new j e b h' g2,j,e,h',g2⟩
theorem Sx.sh2(x:Sx K CL Fz B U Y H){i:Af}(hi:U[i]?=Aa (Aa (d,Ab)))(j:Af)(e:D)(h:(U.set i (Aa (d',Ab)))[j]?=Aa (Aa (e,Ad))):∃ v,Y[j]?=Aa (Aa v)/\Rep K CL H (Bk B (U.set i (Aa (d',Ab))) Y) v e:=by
 have hj:i≠j:=by
  rintro rfl;have:=Ge h;cases this
 rw[BL hj]at h;obtain⟨v,q,r⟩:=x.good.sh j e h;exact⟨v,q,Rep.sub (λb hb=>(Il hi b).mp hb) _ r⟩
theorem Sx.pinned(x:Sx K CL Fz B U Y H){i:Af}{ds:Ac D}{a:Ak}{xs:Ac V}(hi:U[i]?=Aa (Aa (.lst ds,Ab)))(ha:Y[i]?=Aa (Aa (.ref a)))(hh:H a=Aa (.lst xs)):Sx K CL ⟨λb o=>H b=Aa o/\¬ ∃(j:Af)(d:D),U[j]?=Aa (Aa (d,Ab))/\Y[j]?=Aa (Aa (.ref b)),λj b ys=>(j=i/\b=a/\ys=xs)\/(j≠i/\Fz.pin j b ys)⟩ B (U.set i (Aa (.non,Ab))) Y H:=by
 refine⟨⟨x.sh2 hi,λj e h hn=>?_,by rw[AU];exact x.len⟩,λb h=>x.aok b ((Il hi b).mp h),λj e b g1 g2=>⟨λo z=>z.2 (x.new2 hi j e b g1 g2).2,(x.new2 hi j e b g1 g2).1.2⟩,x.dis2 hi,λb o z=>z.1,by rw[AU];exact x.len,λj h=>?_⟩
 .rcases (HM hi j e).mp h with ⟨_,rfl⟩|⟨hj,h'⟩
  .exact absurd rfl hn
  .obtain⟨b,ys,es,q,z,hb,h2,rr⟩:=x.good.ow j e h' hn;exact⟨b,ys,es,q,z,(Il hi b).mpr hb,h2,Reps.sub (λb hb=>(Il hi b).mp hb) _ rr⟩
 .by_cases hj:i=j
  .exact⟨a,xs,.inl ⟨hj.symm,rfl,rfl⟩,hj ▸ ha,hh⟩
  .rw[BL hj]at h;obtain⟨b,ys,p1,p2⟩:=x.pin j h;exact⟨b,ys,.inr ⟨CB hj,p1⟩,p2⟩
theorem Sx.unpinned(x:Sx K CL Fy B U Y H){i:Af}{ds:Ac D}{a:Ak}{xs:Ac V}(hi:U[i]?=Aa (Aa (.non,Ab)))(hf:∀ b o,Fz b o->Fy b o)(hpn:∀ j b ys,Fy.pin j b ys->(j=i/\b=a/\ys=xs)\/(j≠i/\Fz.pin j b ys))(r:Reps K CL H (Bk B U Y) xs ds):Sx K CL Fz B (U.set i (Aa (.lst ds,Ab))) Y H:=by
 refine⟨⟨x.sh2 hi,λj e h hn=>?_,by rw[AU];exact x.len⟩,λb h=>x.aok b ((Il hi b).mp h),λj e b g1 g2=>⟨λo z=>(x.new2 hi j e b g1 g2).1.1 o (hf b o z),(x.new2 hi j e b g1 g2).1.2⟩,x.dis2 hi,λb o z=>x.same b o (hf b o z),by rw[AU];exact x.len,λj h=>?_⟩
 .rcases (HM hi j e).mp h with ⟨rfl,rfl⟩|⟨hj,h'⟩
  .obtain⟨b,ys,p1,p2,p3⟩:=x.pin i hi;rcases hpn i b ys p1 with ⟨_,rfl,rfl⟩|⟨z,_⟩
   .exact⟨b,ys,ds,p2,rfl,(Il hi b).mpr (.inr ⟨i,.non,hi,p2⟩),p3,Reps.sub (λb hb=>(Il hi b).mp hb) _ r⟩
   .exact absurd rfl z
  .obtain⟨b,ys,es,q,z,hb,h2,rr⟩:=x.good.ow j e h' hn;exact⟨b,ys,es,q,z,(Il hi b).mpr hb,h2,Reps.sub (λb hb=>(Il hi b).mp hb) _ rr⟩
 .rcases (HM hi j _).mp h with ⟨_,z⟩|⟨hj,h'⟩
  .cases z
  .obtain⟨b,ys,p1,p2⟩:=x.pin j h';rcases hpn j b ys p1 with ⟨z,_⟩|⟨_,z⟩
   .exact absurd z.symm hj
   .exact⟨b,ys,z,p2⟩
theorem Bs.turnO{i:Af}{ds:Ac D}{o:O}{g:Rho->O}{D':Ends}{N:L2.St->Hp->Prop}(hf:∀ b q,Fz b q->Fy b q)(hu:∀ U' Y' H',Sx K CL Fy B U' Y' H'->GA U' i=Ab->Sx K CL Fz B (U'.set i (Aa (.lst ds,Ab))) Y' H')(h:Bs K CL Fz B W (JS i ds (o.turn g)) D')(k:∀ U' Y' H',Sx K CL Fy B U' Y' H'->Bs K CL Fz B W (JS i ds (g U')) D'->N Y' H'):Bs K CL Fy B W o {D' with nx:=N,ct:=N,bk:=D'.nx}:=by
 cases o with
 |next U'=>exact λY' H' x=>k U' Y' H' x h
 |cont U'=>exact λY' H' x=>k U' Y' H' x h
 |brk U'=>
  have h':Bs K CL Fz B W (if GA U' i=Ab then .next (U'.set i (Aa (.lst ds,Ab))) else .bad) D':=h
  by_cases hp:GA U' i=Ab
  .rw[At hp]at h';exact λY' H' x=>h' Y' H' (hu U' Y' H' x hp)
  .rw[AA hp]at h';exact h'.elim
 |ret d b=>exact λv H' s r n=>h v H' (λb o z=>s b o (hf b o z)) r λz ds e=>let ⟨a,xs,h1,h2,h3⟩:=n z ds e;⟨a,xs,h1,λo q=>h2 o (hf a o q),h3⟩
 |exn y U'=>exact h.elim
 |bad=>exact h
end
section
variable{X:Cx}{CL:ClA}{W:XW}
theorem dG{i:Af}{es:Ac An}{n:Af}{tpos:AC}{a:An}{fbd:Rho->O}{as:D->Rho->R Rho}{g:TG}(hp:DQ (model X.prog X.w) X.A X.env X.xe)(hc:X.calm=Ab)(hGT:GT X.K CL as g)(hg:PG X (.Tuple es n tpos) g)(ha:PE X a (EQ i))(hgl:Gl X "enumerate")(hm:X.mg "enumerate" = Ae)(hst:As [a] X.env=[(Ad,eval a X.env)])(hb:SSs X CL W body fbd)(hs:∀ x,BW (.Call (.Name "enumerate" p1) [a] [] cpos) X.env x=pure x)(hax:∀ d U x,as d U≠.exn x):
  SS X CL W (.For (.Tuple es n tpos) (.Call (.Name "enumerate" p1) [a] [] cpos) body [] pos) (λU=>O.of U (D4 U i) λxs=>JS i xs (Dd (λx U'=>if GA U' i=Ab then O.of U' (as x U') fbd else .bad) (CF 0 xs) (U.set i (Aa (.non,Ab))))):=λFz B pI s Y H D I ⟨U,x,p⟩=>by
 dsimp only at p;cases e:D4 U i with
 |bad=>rw[e]at p;exact p.elim
 |exn y=>exact(Rk e).elim
 |ok ds=>
  rw[e,O.of_ok]at p;have hi:=Sa e;obtain⟨a',xs,ds',qa,e2,oa,hh,r⟩:=x.good.ow i _ hi (λz=>nomatch z)
  have ez:ds=ds':=by injection e2
  subst ez;refine Tj hp hc (Sy hgl hm (DN ha Fj hst) hst) hg (tb:=λD Y H=>∃ Fy,(λD Y H=>∃ U,Sx X.K CL Fy B U Y H/\Bs X.K CL Fy B W (fbd U) D) D Y H) (λpI s Y H D I ⟨Fy,q⟩=>hb Fy B pI s Y H D I q) hs pI s Y H D I ?_
  refine⟨.ref a',qa,Ad,a',xs,rfl,SqL.of hh,λhz=>?_⟩
  generalize hbd:(fun(x:Ov.D)(U':Rho)=>if GA U' i=Ab then O.of U' (as x U') fbd else .bad)=bd at p
  let Fy:Fr:=⟨λb o=>H b=Aa o/\¬ ∃(j:Af)(d:Ov.D),U[j]?=Aa (Aa (d,Ab))/\Y[j]?=Aa (Aa (.ref b)),λj b ys=>(j=i/\b=a'/\ys=xs)\/(j≠i/\Fz.pin j b ys)⟩
  have hfy:∀ b o,Fz b o->Fy b o:=λb o z=>⟨x.same b o z,λ⟨j,d,h1,h2⟩=>(x.new j d b h1 h2).1 o z⟩
  have xy:Sx X.K CL Fy B (U.set i (Aa (.non,Ab))) Y H:=x.pinned hi qa hh;have wd:∀{U':Rho}{Y':L2.St}{H':Hp},Sx X.K CL Fy B U' Y' H'->∀ b,Bk B U' Y' b->Bk B U Y b\/H b=Ae:=λ{U' Y' H'} x' b hb'=>by
   rcases hb' with h|⟨j,d,h1,h2⟩
   .exact .inl (.inl h)
   .cases e:H b with
    |none=>exact .inr rfl
    |some o=>
     by_cases ho:∃(j:Af)(d:Ov.D),U[j]?=Aa (Aa (d,Ab))/\Y[j]?=Aa (Aa (.ref b))
     .exact .inl (.inr ho)
     .exact absurd ⟨e,ho⟩ ((x'.new j d b h1 h2).1 o)
  have kpx:∀{U':Rho}{Y':L2.St}{H':Hp},Sx X.K CL Fy B U' Y' H'->Kp (Bk B U Y) H H':=λ{U' Y' H'} x' b o e na=>x'.same b o ⟨e,λz=>na (.inr z)⟩
  have later:∀{U':Rho}{Y':L2.St}{H':Hp},Sx X.K CL Fy B U' Y' H'->Reps X.K CL H' (Bk B U' Y') xs ds:=λ{U' Y' H'} x'=>by
   have r1:Reps X.K CL H (λb=>Bk B U Y b\/Bk B U' Y' b) xs ds:=Reps.wide (λb hb'=>hb'.elim .inl (wd x' b)) _ r
   have r2:Reps X.K CL H' (λb=>Bk B U Y b\/Bk B U' Y' b) xs ds:=Reps.kp (λb o e na=>kpx x' b o e λz=>na (.inl z)) _ r1
   exact Reps.sub (λb hb'=>.inr hb') _ r2
  have hu:∀ U' Y' H',Sx X.K CL Fy B U' Y' H'->GA U' i=Ab->Sx X.K CL Fz B (U'.set i (Aa (.lst ds,Ab))) Y' H':=λU' Y' H' x' hp'=>x'.unpinned (O8 hp') hfy (λj b ys z=>z) (later x')
  refine⟨λk m Y' H'=>m=ds.length-k/\k<=ds.length/\∃ U',Sx X.K CL Fy B U' Y' H'/\Bs X.K CL Fz B W (JS i ds (Dd bd ((CF 0 ds).drop k) U')) D,⟨ds.length,by simp,DP _,_,xy,p⟩,?_⟩
  rintro k m Y' H' ⟨rfl,hk,U',x',q'⟩;have hle:(CF 0 ds).length=ds.length:=Mq _ _;by_cases hlt:k<ds.length
  .have hlt':k<(CF 0 ds).length:=by rw[hle];exact hlt
   rw[DF hlt']at q';have q2:Bs X.K CL Fz B W (JS i ds ((bd (CF 0 ds)[k] U').turn (Dd bd ((CF 0 ds).drop (k+1))))) D:=q';have hd:(CF 0 ds)[k]?=Aa (CF 0 ds)[k]:=A7 hlt';obtain⟨y,hy,ed⟩:=Of _ _ _ _ hd;by_cases hpin:GA U' i=Ab
   .have hpin':=O8 hpin;obtain⟨b,ys,p1',p2',p3'⟩:=x'.pin i hpin';have hab:b=a'/\ys=xs:=by
     rcases p1' with ⟨_,h1,h2⟩|⟨z,_⟩
     .exact⟨h1,h2⟩
     .exact absurd rfl z
    obtain⟨rfl,rfl⟩:=hab;have sq:SqX Ad X.K H' b ys:=SqL.of p3';obtain⟨u,hu1,ru⟩:=(later x').get hy;refine .inr ⟨⟨ys,u,sq,hu1⟩,λY'' H''=>∃ U'',Sx X.K CL Fy B U'' Y'' H''/\Bs X.K CL Fz B W (JS i ds (Dd bd ((CF 0 ds).drop (k+1)) U'')) D,λY'' H'' z=>⟨ds.length-(k+1),by omega,rfl,hlt,z⟩,?_⟩
    rintro w' H2 ⟨pp,x2,hpp,rfl,c1,rfl⟩;have ex:x2=u:=Bg ((c1 ys sq).symm.trans hu1);subst ex;have sm:Az H' (L2.upd H' pp (.tup [.int k,x2])):=EL hpp _;have rv:Rep X.K CL (L2.upd H' pp (.tup [.int k,x2])) (Bk B U' Y') (.ref pp) (CF 0 ds)[k]:=by
     rw[ed,IT];exact Km x'.aok hpp ⟨rfl,ru,trivial⟩
    have eb:bd (CF 0 ds)[k] U'=O.of U' (as (CF 0 ds)[k] U') fbd:=by rw[<-hbd];exact At hpin
    rw[eb]at q2;cases ea:as (CF 0 ds)[k] U' with
    |bad=>rw[ea]at q2;exact q2.elim
    |exn z=>exact absurd ea (hax _ _ z)
    |ok U2=>
     rw[ea,O.of_ok]at q2;exact hGT Fy B U' Y' _ _ _ U2 _ (x'.grow sm) rv ea λY3 x3=>⟨Fy,U2,x3,Bs.turnO hfy hu q2 λU3 Y3 H3 x3 q3=>⟨U3,x3,q3⟩⟩
   .have eb:bd (CF 0 ds)[k] U'=.bad:=by rw[<-hbd];exact AA hpin
    rw[eb]at q2;exact q2.elim
  .have hk':(CF 0 ds).length<=k:=by omega
   rw[Ej hk']at q';have q2:Bs X.K CL Fz B W (if GA U' i=Ab then .next (U'.set i (Aa (.lst ds,Ab))) else .bad) D:=q'
   by_cases hpin:GA U' i=Ab
   .rw[At hpin]at q2;obtain⟨b,ys,p1',p2',p3'⟩:=x'.pin i (O8 hpin);have hab:b=a'/\ys=xs:=by
     rcases p1' with ⟨_,h1,h2⟩|⟨z,_⟩
     .exact⟨h1,h2⟩
     .exact absurd rfl z
    obtain⟨rfl,rfl⟩:=hab;exact .inl ⟨⟨ys,SqL.of p3',by rw[(later x').length];omega⟩,q2 Y' H' (hu U' Y' H' x' hpin)⟩
   .rw[AA hpin]at q2;exact q2.elim
end
theorem Un.shiftX{fs0 fs ex xs:Ac Ak}{h0:AF}(u:Un fs0 xs H H' h0 h)(sh:Shift ex fs h h')(h1:∀ b∈ex,h0.get? b=Ae)(h2:∀ b∈fs,b∈fs0\/h0.get? b=Ae):Un fs0 xs H H' h0 h' where
 keep:=λb o q n hb hx=>sh.keep b o (u.keep b o q n hb hx) (λz=>by rw[h1 b z]at q;cases q) λz=>(h2 b z).elim hb λe=>by rw[e]at q;cases q
 slot:=λb o q n hb hx=>by
  obtain⟨sl,e1⟩:=u.slot b o q n hb hx;by_cases hf:b∈fs
  .obtain⟨sl',e2⟩:=sh.slot b _ e1 hf;exact⟨sl',e2⟩
  .exact⟨sl,sh.keep b _ e1 (λz=>by rw[h1 b z]at q;cases q) hf⟩
 free:=u.free
 there:=λb o q hx=>by
  obtain⟨o',e1⟩:=u.there b o q hx;by_cases hf:b∈fs
  .obtain⟨sl',e2⟩:=sh.slot b _ e1 hf;exact⟨_,e2⟩
  .exact⟨o',sh.keep b _ e1 (λz=>by rw[h1 b z]at q;cases q) hf⟩
 tups:=u.tups
 frzs:=u.frzs
 tbls:=u.tbls
section
variable{M:F9}{A:AT}{E:Vq}{s:Ap}{env:Cb}{outer:Ac Cb}{L e T:Ak}{cls:Aj}{dx:Ao Ak}{base:AF}
theorem Zp(hfr:A.frames=Aa (env::outer))(hf:env.frame=Aa L)(ff:s.heap.FunFrames base (env::outer))(fl:Hu e T cls dx fv s.heap)(hQ:∀ h' T' fl',Hu e T' cls dx fl' h'->Shift [e,T] (frs (env::outer)) s.heap h'->(T'=T\/s.heap.get? T'=Ae)->Q () {s with heap:=h'}):Av M A (DR (.ref e) env) Q E s:=by
 obtain⟨oe,vs,oT,ts,a0,he,hc,hx,h0,dt,h1,ne,hT,dT,h3⟩:=id fl;have z3:=HG h3;unfold DR;simp only[hf];refine Aq (Ck he dt h1 ?_);rw[At (by simp:(Bf T != Cy)=Ab)]
 refine Aq (Ck hT dT h3 ?_);by_cases hz:(fv==D2 L)=Ab
 .rw[At hz];exact AS (hQ s.heap T fv fl ⟨λb o q _ _=>q,λb o q _=>⟨o.slots,q⟩⟩ (.inl rfl))
 rw[AA hz];refine Aq (DV hT dT z3 ?_);have up:∀ b,b≠T->(s.heap.update T (EU (·.setIfInBounds 3 Cy))).get? b=s.heap.get? b:=λb nb=>BO _ _ (CB nb)
 have rcd:∀ b o,s.heap.get? b=Aa o->(∀ us,o.data≠.fields us)->b≠T:=λb o q n z=>by
  rw[z,hT]at q;cases q;exact n ts dT
 refine Oc (base:=base) hfr hf (ff.of_keeps λb o q n=>⟨o,(up b (rcd b o q n)).trans q,rfl⟩) ((up e (CB ne)).trans he) dt (HG h1) λh' T' oT' ts' g nT gn gT dT' f3 sh=>?_
 have T0:s.heap.get? T'=Ae:=by
  by_cases z:T'=T
  .rw[z]at gn;rw[Cj _ hT (C9 (B5 dT _))]at gn;cases gn
  .rw[<-up T' z];exact gn
 refine hQ h' T' _ (N4 hc hx h0 dt (HG h1) g nT gT dT' f3) ⟨λb o q n1 n2=>?_,λb o q hb=>?_⟩ (.inr T0)
 .simp only[AH,Ca,Et,GL]at n1;exact sh.keep b o ((up b n1.2).trans q) (by simp[n1.1]) n2
 .obtain⟨_,o',q',n⟩:=ff.mem hb;rw[q]at q';cases q';exact sh.slot b o ((up b (rcd b o q n)).trans q) hb
theorem aE{fr:Ao Ak}(fl:Hu e T cls dx fv s.heap)(hQ:∀ h' fl',Hu e T cls dx fl' h'->(∀ b o,b≠T->s.heap.get? b=Aa o->h'.get? b=Aa o)->Q () {s with heap:=h'}):Av M A (F3 (.ref e) fr) Q E s:=by
 obtain⟨oe,vs,oT,ts,a0,he,hc,hx,h0,dt,h1,ne,hT,dT,h3⟩:=fl;have z3:=HG h3;unfold F3;refine Aq (Ck he dt h1 ?_);rw[At (by simp:(Bf T != Cy)=Ab)]
 refine DV hT dT z3 (hQ _ (fr.elim Cy λf=>D2 f) ?_ λb o nb q=>(BO _ _ (CB nb)).trans q)
 exact⟨oe,vs,_,_,a0,(BO _ _ ne).trans he,hc,hx,h0,dt,h1,ne,Cj _ hT (C9 (B5 dT _)),B5 dT _,by simp[z3]⟩
theorem Zf(hfr:A.frames=Aa (env::outer))(hf:env.frame=Aa L)(ff:s.heap.FunFrames base (env::outer))(fl:Hu e T cls dx fv s.heap)(hQ:∀ h' T',Fly e T' cls dx h'->Shift [e,T] (frs (env::outer)) s.heap h'->(T'=T\/s.heap.get? T'=Ae)->Q () {s with heap:=h'}):Av M A (leaving env (.ref e)) Q E s:=by
 unfold leaving;refine Aq (Zp hfr hf ff fl λh1 T' fl' f1 sh hT=>Lo f1 λh2 f2 k=>hQ h2 T' f2 ?_ hT)
 rcases hT with rfl|hT
 .obtain⟨oe,vs,oT,ts,a0,he,hc,hx,h0,dt,h1,ne,hTT,dT,h3⟩:=id fl;refine⟨λb o q n1 n2=>k b o (λz=>n1 (by rw[z];simp)) (sh.keep b o q n1 n2),λb o q hb=>?_⟩
  obtain⟨sl,q2⟩:=sh.slot b o q hb;refine⟨sl,k b _ (λz=>?_) q2⟩
  obtain⟨_,o',q',n⟩:=ff.mem hb;rw[z,hTT]at q';cases q';exact n ts dT
 .exact Ml ff sh hT k
end
def KP(X:Cx)(CL:ClA)(W:XW):Prop:=∀ pI Y H s e T cls dx fl x,Inv X pI Y H s->(X.ex=[]->X.s₀.heap.get? e=Ae/\X.s₀.heap.get? T=Ae)->H e=Ae->H T=Ae->Hu e T cls dx fl s.heap->E6 X.K CL H cls dx x->W x H->X.xe (.ref e) s
theorem Vx:KP X CL W0:=λ_ _ _ _ _ _ _ _ _ _ _ _ _ _ _ _ z=>z.elim
section
variable{P:AL}{w:AV}{K:Fg}{mg:Ag->Ao Aj}{base:AF}{N:Ac Ag}{qual:Ag}{scope:BG}{f:Ak}{cd:Aj}{A:AT}{outer:Ac Cb}{s:Ap}{H:Hp}{E:XK}{CL:ClA}{W:XW}
theorem fzR(hE:∀ x cls dx H',W x H'->E6 K CL H' cls dx x->E cls dx H'):KP (E8 (CXR P w) P w K mg base N qual scope f cd A outer s H E) CL W:=by
 intro pI Y H1 s1 e T cls dx fl x I e0 he hT ge xr hw;have hb0:Un (frs outer) [] H H1 s.heap s1.heap:=I.base;obtain⟨e0,T0⟩:=e0 rfl;have e0:s.heap.get? e=Ae:=e0;have T0:s.heap.get? T=Ae:=T0;show Av (model P w) (A.deeper (Ee qual scope s.heap.objs.size f cd)) (leaving (Ee qual scope s.heap.objs.size f cd) (.ref e)) _ _ s1;refine Zf (L:=s.heap.objs.size) I.ok.frames rfl I.stack ge λh' T' fl' sh hT'=>?_
 refine⟨e,T',cls,dx,H1,rfl,I.os,I.bare,Un.shift hb0 sh ?_ (MA I),HOk.shift I.hok sh ?_ I.stkFree,fl',he,?_,e0,?_,hE x cls dx H1 hw xr⟩
 .intro b hb;rcases AH.mp hb with rfl|hb
  .exact e0
  .rw[A9.mp hb];exact T0
 .intro b hb;rcases AH.mp hb with rfl|hb
  .exact he
  .rw[A9.mp hb];exact hT
 .rcases hT' with rfl|z
  .exact hT
  .exact HI I.hok z
 .rcases hT' with rfl|z
  .exact T0
  .exact HH I rfl z
end
section
variable{X:Cx}{CL:ClA}{W:XW}
theorem Y_4{s:Ap}{cl:Ac (Ag×Ak)}{C D:Ak}{fp:Ac Ak}{Q0:VK}(hst:X.stack=X.env::X.outer)(hfm:X.env.frame=Aa X.env.locals)(I:Inv X pI Y H s)(hf:∀ b∈fp,Gz X pI H b)(fz:KP X CL W)(hC:s.heap.objs.size<=C)(hpl:∀ b∈fp,∃ o,(b,o)∈pl):∀ pins' H1 s1 ev s',Inv (Cx.pw (cxC X scope cl C N' s H fp) pl Xw) pins' Y0 H1 s1->CXR X.prog X.w X.stack H1 s1 (EKW X.K CL A' W) ev s'->Gv (model X.prog X.w) X.A (Gu scope cl C X.env) (λe s''=>JB (model X.prog X.w) X.A X.xe Ae (EP X pI Y Q0) (.ref D) C (.error e) s'') ev s':=by
  intro pins' H1 s1 ev s' J h;obtain⟨e,T,cls,dx,H',rfl,os,bare,un,hok,fl,he,hT,ne,nT,x,xr,wx⟩:=h;have J':Inv (Cx.pw (cxC X scope cl C N' s H fp) pl Xw) pins' Y0 H' s':=J.call' (s':=s') (ch:=[]) os un hok bare (λb z=>absurd z (by simp))
  have fresh:∀{H2:Hp}{s2:Ap},Inv (Cx.pw (cxC X scope cl C N' s H fp) pl Xw) pins' Y0 H2 s2->∀ b,s2.heap.get? b=Ae->s.heap.get? b=Ae:=λ{H2 s2} K2 b hb=>by
    cases q:s.heap.get? b with
    |none=>rfl
    |some o=>
      by_cases hx:b∈fp
      · obtain⟨o',ho⟩:=hpl b hx;have:=(K2.pin (b,o') (EH _ (Bb _ ho))).1;rw[hb]at this;cases this
      · have K0:Un (frs X.stack) fp H H2 s.heap s2.heap:=K2.base;obtain⟨o',z⟩:=K0.there b o q hx;rw[hb]at z;cases z
  have e0:=fresh J e ne;have T0:=fresh J T nT;have u1:Un (frs X.stack) fp H H' s.heap s'.heap:=J'.base;have C0:s.heap.get? C=Ae:=CC hC;have en:DR (.ref e) (Gu scope cl C X.env)=DR (.ref e) X.env:=rfl;show Av _ X.A (DR (.ref e) (Gu scope cl C X.env)) _ _ s';rw[en];have fr':X.A.frames=Aa (X.env::X.outer):=by rw[<-hst];exact J'.ok.frames
  have ff':s'.heap.FunFrames X.base (X.env::X.outer):=by rw[<-hst];exact J'.stack
  refine Od (base:=X.base) fr' hfm ff' fl λh2 T2 f2 sh hT2=>?_
  rw[<-hst]at sh;obtain⟨m,hm,_⟩:=J'.loc;have hm:s'.heap.Ns C m:=hm;have noF:C∉frs X.stack:=λz=>by
    obtain⟨_,o,ho,_⟩:=I.stack.mem z;rw[C0]at ho;cases ho
  obtain⟨oe,vs,oT,ts,a0,ge,gc,gd,g0,gt,g1,gne,gT,gdT,g3⟩:=id fl;have Ce:C≠e:=λz=>by
    obtain⟨o,es,ep,q,qd,_⟩:=hm;rw[z,ge]at q;cases q;rw[gt]at qd;cases qd
  have CT:C≠T:=λz=>by
    obtain⟨o,es,ep,q,qd,_⟩:=hm;rw[z,gT]at q;cases q;rw[gdT]at qd;cases qd
  have CT2:C≠T2:=λz=>by
    obtain⟨o,es,ep,q,qd,_⟩:=hm;rw[z,hT2]at q;cases q
  have cN:h2.Ns C m:=by
    obtain⟨o,es,ep,q,qd⟩:=hm;exact⟨o,es,ep,sh.keep C o q (by simp[Ce,CT]) noF,qd⟩
  refine⟨m,cN,λh3 sb cenv hcv=>?_⟩
  have k3:∀ b o,b≠C->h2.get? b=Aa o->h3.get? b=Aa o:=λb o hb q=>(sb.2 b hb).trans q
  have f3:Hu e T2 cls dx (D2 X.env.locals) h3:=by
    obtain⟨oe,vs,oT,ts,a0,ge,gc,gd,g0,gt,g1,gne,gT,gdT,g3⟩:=f2;exact⟨oe,vs,oT,ts,a0,k3 e oe (CB Ce) ge,gc,gd,g0,gt,g1,gne,k3 T2 oT (CB CT2) gT,gdT,g3⟩
  unfold PySem.passOn;obtain⟨oe3,vs3,oT3,ts3,a3,ge3,gc3,gd3,g03,gt3,g13,gne3,gT3,gdT3,g33⟩:=id f3;refine Aq (Ck (s:={s' with heap:=h3}) ge3 gt3 g13 ?_)
  rw[AA (by simp)]
  refine Aq (aE (s:={s' with heap:=h3}) f3 λh4 fl4 f4 k4=>wpAny_throw ?_)
  have T20:s.heap.get? T2=Ae:=fresh J' T2 hT2;have HC:H' C=Ae:=J'.free;have HT2:H' T2=Ae:=HI hok hT2;have sh4:Shift [e,T,C,T2] (frs X.stack) s'.heap h4:=by
    refine⟨λb o q n1 n2=>?_,λb o q hb=>?_⟩
    · simp only[AH,Ca,Et,GL]at n1;exact k4 b o n1.2.2.2 (k3 b o n1.2.2.1 (sh.keep b o q (by simp[n1.1,n1.2.1]) n2))
    · obtain⟨sl,q2⟩:=sh.slot b o q hb;refine⟨sl,k4 b _ (λz=>by rw[z,hT2]at q;cases q) (k3 b _ (λz=>noF (z ▸ hb)) q2)⟩
  have n4:∀{Z_:Ak->Prop},Z_ e->Z_ T->Z_ C->Z_ T2->∀ b∈[e,T,C,T2],Z_ b:=λ{Z_} a b c d y hy=>by
    simp only[AH,Ca,Et]at hy;rcases hy with rfl|rfl|rfl|rfl
    · exact a
    · exact b
    · exact c
    · exact d
  have u4:Un (frs X.stack) fp H H' s.heap h4:=Un.shiftX u1 sh4 (n4 (Z_:=λb=>s.heap.get? b=Ae) e0 T0 C0 T20) λb hb=>.inl hb
  have hok4:HOk X.prog X.w H' h4:=HOk.shift hok sh4 (n4 (Z_:=λb=>H' b=Ae) he hT HC HT2) J'.stkFree
  have os4:s'.os=s.os:=J'.os;have I4:Inv X pI Y H' {s' with heap:=h4}:=I.call' (s':={s' with heap:=h4}) (ch:=fp) os4 u4 hok4 bare λb hb=>⟨(hf b hb).2.2.2.1,(hf b hb).2.1,(hf b hb).2.2.2.2.1,(hf b hb).2.2.2.2.2⟩
  exact fz pI Y H' _ e T2 cls dx fl4 x I4 (λhx=>⟨HH I hx e0,HH I hx T20⟩) he HT2 f4 xr wx
theorem Uk{Y_:Cx}{es:Ac An}{t:TA}(hx:Y_.xe=λ_ _=>AW)(h:PA Y_ es t):PA (Cx.pw Y_ pl Xw) es t:=λpos pI s Y H Q I q=>by
 have okY:Y_.Ok:=⟨I.ok.mod,I.ok.kind,I.ok.glob,I.ok.blt,I.ok.above,I.ok.inj,I.ok.has,I.ok.cab,I.ok.hd,I.ok.frames,I.ok.stk,I.ok.exf,I.ok.bs,I.ok.bsz,I.ok.noex,I.ok.exfs,I.ok.funs,I.ok.frf⟩;have I':Inv Y_ (pl++pI) Y H s:=⟨okY,I.os,I.bare,I.base,I.loc,I.cell,I.free,I.freeC,λp hp=>I.pin p (by
  show p∈(Y_.pn++pl)++pI;rw[VO];exact hp),I.hok,I.len⟩
 refine A4 (h pos (pl++pI) s Y H Q I' q) (λus s' ⟨vs,H',J,r,z⟩=>⟨vs,H',⟨Uh J.ok,J.os,J.bare,J.base,J.loc,J.cell,J.free,J.freeC,λp hp=>J.pin p (by
  have hp':p∈(Y_.pn++pl)++pI:=hp;rw[VO]at hp';exact hp'),J.hok,J.len⟩,r,z⟩) λ_ _ z=>by rw[hx]at z;exact z.elim
theorem bO{iter:An}{wi:TI}{g:TG}{tt:TT}{te:TE}{ifs:Ac An}(hc:X.calm=Ab)(hst:X.stack=X.env::X.outer)(hfm:X.env.frame=Aa X.env.locals)(fz:KP X CL W)(B:BlockOk X scope N' ts)(hi:PI X tg iter wi)(hg:∀ cl C s H fp,PG (cxC X scope cl C N' s H fp) tg g)(ht:∀ cl C s H fp,PTs (cxC X scope cl C N' s H fp) ifs tt)(he:∀ cl C s H fp pl Xw Y0,(∀ pins' H1 s1 ev s',Inv (Cx.pw (cxC X scope cl C N' s H fp) pl Xw) pins' Y0 H1 s1->CXR X.prog X.w X.stack H1 s1 (EKW X.K CL A' W) ev s'->Xw ev s')->PE (Cx.pw (cxC X scope cl C N' s H fp) pl Xw) elt (λY H Q=>Y=Y0/\te Y H Q))(hs:∀ x,BW iter X.env x=pure x):PE X (.ListComp elt [⟨tg,iter,ifs,0⟩] scope pos) (λY H Q=>wi Y H λJ H1=>Jk J ts g tt te Y H1 Q):=by
 intro pI s Y H Q I h;obtain⟨cl,hclos,hcl,hcl2⟩:=NM (scope:=scope) (env:=X.env) λx hx hk=>I.ok.has x.1 ((B.free x hx hk).imp id id)
 rw[eval_ListComp];refine Fi (use:=Ae) rfl hs hclos B.kind B.names (thn (hi pI s Y H _ I h) λv s1 h1=>thn h1 λitv s2 h2=>?_)
 obtain⟨it,fp,tn,J,H2,e,I2,T,st2,f2,h3⟩:=h2;subst e;refine Og (RR:=λacc C=>JB (model X.prog X.w) X.A X.xe Ae (EP X pI Y Q) acc C) hc B I2 T st2 f2 hcl hcl2 (λcl C s H=>hg cl C s H fp) (λcl C s H=>ht cl C s H fp) (λcl' C D pl Y' H' s' Q' hC I' hpl q=>?_) h3 λcl' D C s' H' Y' pins' xs ys n m I' hd hDn rv hz hD hDC hC hm q=>?_
 .exact A4 (he cl' C s2 H2 fp pl _ Y' (Y_4 hst hfm I2 f2 fz hC hpl) [] s' Y' H' Q' (Ku I' _) ⟨rfl,q⟩) (λu s'' ⟨v,H'',J,r,z⟩=>⟨v,H'',JH I'.ok J,r,z⟩) λ_ _ z=>z
 .exact⟨m,hm,λh'' hs''=>⟨.ref D,_,N9 I2 f2 I' hD hDC hC hd hDn rv hz hs'',rfl,q⟩⟩
theorem bZ{as:D->Rho->R Rho}{ds:Ac D}{x:Ex}(hax:∀ d U x,as d U≠.exn x)(h:Bq (λx=>(as x U).bind λ_=>.ok Ab) (λx=>(as x U).bind fe) (d::ds)=.exn x):∃ U',as d U=.ok U'/\(fe U'=.exn x\/∃ y,fe U'=.ok y/\Bq (λx=>(as x U).bind λ_=>.ok Ab) (λx=>(as x U).bind fe) ds=.exn x):=by
 have h':((as d U).bind λ_=>R.ok Ab).bind (λb=>if b=Ab then ((as d U).bind fe).bind λy=>(Bq (λx=>(as x U).bind λ_=>.ok Ab) (λx=>(as x U).bind fe) ds).bind λys=>.ok (y::ys) else Bq (λx=>(as x U).bind λ_=>.ok Ab) (λx=>(as x U).bind fe) ds)=.exn x:=h
 cases ea:as d U with
 |bad=>rw[ea]at h';cases h'
 |exn z=>exact absurd ea (hax _ _ z)
 |ok U'=>
  refine⟨U',rfl,?_⟩;rw[ea]at h';have h2:((fe U').bind λy=>(Bq (λx=>(as x U).bind λ_=>.ok Ab) (λx=>(as x U).bind fe) ds).bind λys=>.ok (y::ys))=.exn x:=h'
  cases ef:fe U' with
  |bad=>rw[ef]at h2;cases h2
  |exn z=>rw[ef]at h2;cases h2;exact .inl rfl
  |ok y=>
   rw[ef]at h2;refine .inr ⟨y,rfl,?_⟩;cases ec:Bq (λx=>(as x U).bind λ_=>.ok Ab) (λx=>(as x U).bind fe) ds with
   |bad=>rw[ec]at h2;cases h2
   |exn z=>rw[ec]at h2;cases h2;rfl
   |ok ys=>rw[ec]at h2;cases h2
theorem Zi{H1:Hp}{J:It}{ds:Ac D}{Q:VK}{as:D->Rho->R Rho}{g:TG}{x:Ex}(hGG:GG K CL ts as g)(hax:∀ d U x,as d U≠.exn x)(hA:AOk H1 A)(gd:Good K CL A U Y H1)(yl:IK K CL A ds J H1)(hz:ds.length<=sizeLine)(hcp:Bq (λx=>(as x U).bind λ_=>.ok Ab) (λx=>(as x U).bind fe) ds=.exn x)(q:∀ H2,Az H1 H2->W x H2):Jk J ts g (λY H Q=>AOk H A/\∃ U,Good K CL A U Y H/\CD W0 H (.ok Ab) Q) (λY H Q=>AOk H A/\∃ U,Good K CL A U Y H/\AR (λH=>Rep K CL H A) W H (fe U) Q) Y H1 Q:=by
 refine⟨λi m xs Y' H'=>m=ds.length-i/\i<=ds.length/\xs.length<=i/\Az H1 H'/\Good K CL A (E5 ts U) Y' H'/\Bq (λx=>(as x U).bind λ_=>.ok Ab) (λx=>(as x U).bind fe) (ds.drop i)=.exn x,
  ⟨ds.length,by simp,DP _,AK _,Az.refl _,gd.hideT ts,hcp⟩,?_⟩
 rintro i m xs Y' H' ⟨rfl,hi,hxl,sm,g',hc⟩;obtain⟨yst,ygo⟩:=yl H' (Kp.of sm) i;by_cases hlt:i<ds.length
 .have hd:ds[i]?=Aa ds[i]:=A7 hlt;obtain⟨hgo,hyl⟩:=ygo _ hd;refine .inr ⟨hgo,by omega,λx' H2 hx=>?_⟩
  obtain⟨s2,rx⟩:=hyl x' H2 hx;have rx':=rx A (λa ha=>.inl ha) (hA.same sm)
  rw[DF hlt]at hc;have sm2:=sm.trans s2;obtain⟨U',ea,h1⟩:=bZ hax hc;refine hGG A U Y' H2 x' ds[i] U' _ (g'.same s2) rx' ea λY3 g3 g4=>⟨hA.same sm2,U',g3,λH3 s3=>?_⟩
  dsimp only;rw[At rfl];refine⟨(hA.same sm2).same s3,U',g3.same s3,?_⟩;rcases h1 with h1|⟨y,h1,h2⟩
  .rw[h1];exact λH4 s4=>q H4 ((sm2.trans s3).trans s4)
  .rw[h1];exact λv H4 s4 r4=>⟨ds.length-(i+1),by omega,rfl,hlt,by rw[BN,C8];omega,(sm2.trans s3).trans s4,(g4.same s3).same s4,h2⟩
 .have hk':ds.length<=i:=by omega
  rw[Ej hk']at hc;cases hc
theorem Zh{Q:VK}{as:D->Rho->R Rho}{g:TG}{fi:Rho->R (Ac D)}(hGG:GG X.K CL ts as g)(hax:∀ d U x,as d U≠.exn x)(hA:AOk H A)(gd:Good X.K CL A U Y H)(p:AR (Du X.K CL Ab H A) W H ((fi U).bind λxs=>(Bq (λx=>(as x U).bind λ_=>.ok Ab) (λx=>(as x U).bind fe) xs).bind λys=>.ok (.lst ys)) Q):EM X.K CL A W H (fi U) (λJ H1=>Jk J ts g (λY H Q=>AOk H A/\∃ U,Good X.K CL A U Y H/\CD W0 H (.ok Ab) Q) (λY H Q=>AOk H A/\∃ U,Good X.K CL A U Y H/\AR (λH=>Rep X.K CL H A) W H (fe U) Q) Y H1 Q):=
 EM.ok_of p λds J H1 e1 s1 yl hz p1=>by
  cases e2:Bq (λx=>(as x U).bind λ_=>.ok Ab) (λx=>(as x U).bind fe) ds with
  |ok ys=>
   rw[e2]at p1;exact QQ (fc:=λ_=>.ok Ab) hGG (hA.same s1) (gd.same s1) yl hz e2 λxs H2 s2 rs q hq=>p1 _ _ (s2.trans (EL hq _)) (Ji (s1.trans s2) ((hA.same s1).same s2) hq rs)
  |exn x=>
   rw[e2]at p1;exact Zi hGG hax (hA.same s1) (gd.same s1) yl hz e2 p1
  |bad=>rw[e2]at p1;exact p1.elim
theorem ZH{iter:An}{as:D->Rho->R Rho}{g:TG}{fi:Rho->R (Ac D)}{k n:Af}{fr:Am}{f:Ak}{F:Ac D->R D}{e:An}{es:Ac An}{fs ft:Rho->R (Ac D)}{sh:Rho->Am}(hc:X.calm=Ab)(hst:X.stack=X.env::X.outer)(hfm:X.env.frame=Aa X.env.locals)(fz:KP X CL W)(B:BlockOk X scope N' ts)(hi:SI X CL W tg iter fi)(hGG:GG X.K CL ts as g)(hax:∀ d U x,as d U≠.exn x)(hg:∀ cl C s H fp,PG (cxC X scope cl C N' s H fp) tg g)(hs:∀ x,BW iter X.env x=pure x)(G:FnOk X.prog X.w X.K X.mg X.base (CXR X.prog X.w) k f fd ps (spD X.K CL n fr F))(hr:Room k X.A)(hgl:∀ cl C s H fp,Gl (cxC X scope cl C N' s H fp) x)(hm:X.mg x=Aa (.ref f))(hk:Bc X.K (.ref f)=Ab)(hb:ED X.K fd ps [])(ha:∀ cl C s H fp,SA (cxC X scope cl C N' s H fp) CL W0 (e::es) fs/\SAT (cxC X scope cl C N' s H fp) CL W0 (e::es) ft)(hsh:∀ U,sh U=Ab->ft U=fs U)(hn:∀ U ds,ft U=.ok ds->ds.length=n)(hnx:∀ U y,ft U≠.exn y)(hdb:(x==("__debug__" : Ag))=Ad)(hse:∀ env,As (e::es) env=(Ad,eval e env)::As es env)(hpl:∀ env pos,(Bv pos (As es env)).any (·.1)=Ad):SC X CL W Ab (.ListComp (.Call (.Name x p) (e::es) [] cpos) [⟨tg,iter,[],0⟩] scope pos) (λU=>(fi U).bind λxs=>(Bq (λx=>(as x U).bind λ_=>.ok Ab) (λx=>(as x U).bind λU=>(ft U).bind λds=>(F ds).bind λd=>if sh U=Ab then .ok d else if FK fr d=Ab then .ok d else .bad) xs).bind λys=>.ok (.lst ys)):=λA pI s Y H Q I ⟨hA,U,gd,q⟩=>by
 refine bO (W:=W) (A':=A) hc hst hfm fz B (hi A) hg (λcl C s H fp=>R6 A) (λcl C s H fp pl Xw Y0 want=>?_) hs pI s Y H Q I ⟨hA,U,gd,Zh hGG hax hA gd q⟩
 have key:=Ll (X:=Cx.pw (cxC X scope cl C N' s H fp) pl Xw) (p:=p) (pos:=cpos) (Y0:=Y0) (fr:=fr) (F:=F) (n:=n) (sh:=sh) (E0:=EKW X.K CL A W) G hr (hgl cl C s H fp) hm hk hb want (λA=>Uk rfl ((ha cl C s H fp).1 A)) (λA=>Uk rfl ((ha cl C s H fp).2 A)) hsh hn hnx hdb (hse _) (hpl _) A
 refine PE.weak key λY H Q ⟨e0,hA,U,gd,z⟩=>⟨e0,hA,U,gd,?_⟩
 cases er:((ft U).bind λds=>(F ds).bind λd=>if sh U=Ab then R.ok d else if FK fr d=Ab then .ok d else .bad) with
 |ok d=>rw[er]at z;exact λv H' sm r=>z v H' sm r.1
 |exn y=>rw[er]at z;exact λcls dx H' sm xr=>⟨y,xr,z H' sm⟩
 |bad=>rw[er]at z;exact z
end
section
variable{X:Cx}{CL:ClA}{W:XW}
def mH(K:Fg)(CL:ClA):V->Ac V->Hp->VK->Prop:=λx vs H Q=>∃ l xs ds v d j,x=.ref l/\vs=[v]/\SqL K H l xs/\Reps K CL H A0 xs ds/\Rep K CL H A0 v d/\flD 5 d=Ab/\ds.all (flD 5)=Ab/\(ds.findIdx? λy=>eqD y d)=Aa j/\Q (.int (j:Af)) H
theorem aP(hu:X.A.units+64<Bz):MtR X "list.index" (mH X.K CL):=by
 intro pI s Y H x vs v us Q I rx rv h;obtain⟨l,xs,ds,y,d,j,rfl,rfl,sq,rs,ry,h1,h2,hj,q⟩:=h;cases rx;obtain⟨u,rfl,ru⟩:=rv.one;obtain⟨its,r,pl,hz⟩:=I.list sq;obtain⟨⟨c,dct,dt,sl⟩,n,e,hc,hd,hdt⟩:=pl;obtain⟨f,hf,hn⟩:=oP I (n:=5) X.A.in1 h1 h2 rs r ry ru (by show X.A.units+1+5<Bz;omega)
 replace hc:c=.type "list" := hc;replace hdt:dt=.seq its.toArray n:=hdt;subst hc hdt;have hl:its.length=ds.length:=by rw[<-r.length,rs.length]
 obtain⟨g1,g2,g3⟩:=VT.mp hj;have gd:∀ m (h:m<ds.length),ds.getD m .non=ds[m]:=λm h=>by rw[CU,A7 h];rfl
 have hzl:its.length<=sizeLine:=by rw[hl,<-rs.length];exact hz
 have zl:sizeLine<2 ^ 62:=by decide
 refine Ga W3 ⟨_,e,rfl⟩ PySem.F.entry_list_index (PySem.F.args_list_index_2 _ _) (SeqAt.list_indexAt l its.toArray n dct sl u f j (by rw[AM];omega) (by omega) ?_ ?_) ⟨e,hf,?_⟩
 .have:=hn j (by omega)
  rw[gd j g1]at this;simpa [g2] using this
 .intro m hm hmj;have hm':m<its.length:=by rw[AM]at hm;exact hm
  have:=hn m hm';rw[gd m (by omega)]at this
  have h3:eqD ds[m] d=Ad:=by
   have:=g3 m hmj;simpa using this
  rw[h3]at this;simpa using this
 .exact⟨.int _,H,I.tok _,⟨_,rfl⟩,q⟩
theorem RI{o y:An}(hu:X.A.units+64<Bz)(ho:ST X CL W o fo)(hy:ST X CL W y fy)(hny:∀ U e,fy U≠.exn e)(hbase:CY o "index" X.env (eval o X.env)=eval o X.env)(hfew:((Bv cpos (As [y] X.env)).all (λx=>!x.1)&&(Hf cpos (FN [] X.env)).all (λx=>x.1.isSome)&&decide ([y].length+([]:Ac DS).length+(if ([]:Ac DS).isEmpty then 0 else 1)<30))=Ab)(hline:(apos.endLine==cpos.line)=Ab)(hs:As [y] X.env=[(Ad,eval y X.env)]):
  SE X CL W (.Call (.Attribute o "index" apos) [y] [] cpos) (λU=>(fo U).bind λx=>(fy U).bind λd=>match x with | .lst xs=>LB xs d|_=>.bad):=λA=>
 PE.weak (MY W1 W3 PySem.F.type_list_index (aP (CL:=CL) hu) (ho A) (DN (hy A) Fj hs) hbase hfew hline hs rfl) λY H Q ⟨hA,U,g,p⟩=>⟨hA,U,g,AR.bind p λd v H1 _ s1 r1 p1=>by
  have nb:∀{f:D->R D},(∀ d,f d=.bad)->AR (λH=>Rep X.K CL H A) W H1 ((fy U).bind f) Q->AW:=λ{f} hf z=>by
   cases e:fy U with
   |ok d2=>rw[e]at z;have z':AR (λH=>Rep X.K CL H A) W H1 (f d2) Q:=z;rw[hf]at z';exact z'
   |exn e'=>exact hny U e' e
   |bad=>rw[e]at z;exact z
  cases d with
  |lst ds=>
   obtain⟨a,xs,rfl,sq,rs⟩:=r1.lst_of;refine⟨.inl ⟨rfl,xs,sq⟩,hA.same s1,U,g.same s1,AR.bind p1 λd2 v' H2 _ s2 r2 p2=>?_⟩
   have r3:Rep X.K CL H2 A0 (.ref a) (.lst ds):=(Cm.same s2 r1).plain;obtain⟨a',xs',e',_,sq',rs'⟩:=r3;cases e';replace p2:AR (λH=>Rep X.K CL H A) W H2 (LB ds d2) Q:=p2
   unfold LB at p2;split at p2
   .rename_i h;simp only[Al]at h;cases e3:ds.findIdx? λy=>eqD y d2 with
    |none=>rw[e3]at p2;exact p2.elim
    |some j=>
     rw[e3]at p2;exact⟨a,xs',ds,v',d2,j,rfl,rfl,sq',rs',r2.plain,h.1,h.2,e3,p2 _ H2 (Az.refl H2) rfl⟩
   .exact p2.elim
  | _=>exact(nb (λ_=>rfl) p1).elim⟩
end
theorem noF{P:Prop}(h:Ad=Ab):P:=nomatch h
structure Tc where
 sc:BG
 N:Ac Ag
 /-- a def's name,its number,how many parameters it has -/
 fns:Ac (Ag×Af×Af)
 /-- built-in names that the text does not hide -/
 bl:Ac Ag
 /-- exceptions' classes by their names: those that are raised,all that are asked for -/
 rzs:Ac (Ag×Af)
 exs:Ac (Ag×Af)
 /-- the text's constants -/
 gls:Ac (Ag×Af)
 /-- in no comprehension -/
 tp:Am
noncomputable def P7(T:Tc)(x:Ag):Am:=match T.sc.names.lookup x with
  |some .local=>Ab
  |some .cell=>Ab
  |some .free=>Ab
  |_=>Ad
noncomputable def II(T:Tc)(x:Ag):Am:=match T.sc.names.lookup x with
  |some .local=>Ab
  |some .cell=>Ab
  |_=>Ad
noncomputable def glB(T:Tc)(x:Ag):Am:=T.sc.names.lookup x==Aa .globalImplicit
noncomputable def Fn(x:Ag):Am:=(!(x==("__debug__" : Ag)) && !(x==("__classdict__" : Ag)) && !(x==("__name__" : Ag)))&&(GB.lookup x).isNone
noncomputable def isV(T:Tc)(x:Ag)(i:Af):Am:=T.N[i]? == Aa x&&P7 T x&&Fn x
noncomputable def isB(T:Tc)(x:Ag):Am:=T.bl.contains x&&glB T x&&Fn x
noncomputable def Qk(T:Tc)(e:An)(b:BI)(as:Es):Am:=match e with
  |.Call (.Attribute (.Name x _) m ap) [.Name y _] [] cp=>decide (b=.index)&&m==("index" : Ag)&&ap.endLine==cp.line&&(match as with | .cons (.var i) (.cons (.var j) .nil)=>isV T x i&&isV T y j|_=>Ad)
  |.Call (.Attribute (.Name x _) m ap) [.Constant .none _ _] [] cp=>decide (b=.index)&&m==("index" : Ag)&&ap.endLine==cp.line&&(match as with | .cons (.var i) (.cons .non .nil)=>isV T x i|_=>Ad)
  |_=>Ad
theorem Bo{a b:Am}(h:(a&&b)=Ab):a=Ab/\b=Ab:=(Al a b).mp h
theorem orT{a b:Am}(h:(a||b)=Ab):a=Ab\/b=Ab:=(B2 a b).mp h
noncomputable def E2(e:An)(F:Ag->Am):Am:=if c:e.ctorIdx=23 then WL (motive_1:=λ_=>Am) e c λx _=>F x else Ad
theorem Fk{e:An}{F:Ag->Am}(h:E2 e F=Ab):∃ x p,e=WK x p/\F x=Ab:=by
 by_cases c:e.ctorIdx=23
 .exact WL (motive_1:=λe=>E2 e F=Ab->∃ x p,e=WK x p/\F x=Ab) e c (λx p h=>⟨x,p,rfl,h⟩) h
 .exact noF ((BK c).symm.trans h)
noncomputable def GU(e:An)(F:Const->Am):Am:=if c:e.ctorIdx=19 then WF (motive_1:=λ_=>Am) e c λc _ _=>F c else Ad
theorem Jj{e:An}{F:Const->Am}(h:GU e F=Ab):∃ c u p,e=WE c u p/\F c=Ab:=by
 by_cases c:e.ctorIdx=19
 .exact WF (motive_1:=λe=>GU e F=Ab->∃ c u p,e=WE c u p/\F c=Ab) e c (λc u p h=>⟨c,u,p,rfl,h⟩) h
 .exact noF ((BK c).symm.trans h)
noncomputable def MT(e:An)(F:An->Fh->An->Am):Am:=if c:e.ctorIdx=2 then Wx (motive_1:=λ_=>Am) e c λx o y _=>F x o y else Ad
theorem Rr{e:An}{F:An->Fh->An->Am}(h:MT e F=Ab):∃ x o y p,e=Ww x o y p/\F x o y=Ab:=by
 by_cases c:e.ctorIdx=2
 .exact Wx (motive_1:=λe=>MT e F=Ab->∃ x o y p,e=Ww x o y p/\F x o y=Ab) e c (λx o y p h=>⟨x,o,y,p,rfl,h⟩) h
 .exact noF ((BK c).symm.trans h)
noncomputable def JY(e:An)(F:Jw->An->Am):Am:=if c:e.ctorIdx=3 then WU (motive_1:=λ_=>Am) e c λo x _=>F o x else Ad
theorem Mv{e:An}{F:Jw->An->Am}(h:JY e F=Ab):∃ o x p,e=WT o x p/\F o x=Ab:=by
 by_cases c:e.ctorIdx=3
 .exact WU (motive_1:=λe=>JY e F=Ab->∃ o x p,e=WT o x p/\F o x=Ab) e c (λo x p h=>⟨o,x,p,rfl,h⟩) h
 .exact noF ((BK c).symm.trans h)
noncomputable def Jr(e:An)(F:BoolOp->Ac An->AC->Am):Am:=if c:e.ctorIdx=0 then Wz (motive_1:=λ_=>Am) e c λo xs p=>F o xs p else Ad
theorem Lg{e:An}{F:BoolOp->Ac An->AC->Am}(h:Jr e F=Ab):∃ o xs p,e=Wy o xs p/\F o xs p=Ab:=by
 by_cases c:e.ctorIdx=0
 .exact Wz (motive_1:=λe=>Jr e F=Ab->∃ o xs p,e=Wy o xs p/\F o xs p=Ab) e c (λo xs p h=>⟨o,xs,p,rfl,h⟩) h
 .exact noF ((BK c).symm.trans h)
noncomputable def Kz(e:An)(F:An->Ac CV->Ac An->Am):Am:=if c:e.ctorIdx=15 then WD (motive_1:=λ_=>Am) e c λx os ys _=>F x os ys else Ad
theorem Oo{e:An}{F:An->Ac CV->Ac An->Am}(h:Kz e F=Ab):∃ x os ys p,e=WC x os ys p/\F x os ys=Ab:=by
 by_cases c:e.ctorIdx=15
 .exact WD (motive_1:=λe=>Kz e F=Ab->∃ x os ys p,e=WC x os ys p/\F x os ys=Ab) e c (λx os ys p h=>⟨x,os,ys,p,rfl,h⟩) h
 .exact noF ((BK c).symm.trans h)
noncomputable def IC(e:An)(F:An->Ac An->Ac DS->AC->Am):Am:=if c:e.ctorIdx=16 then WB (motive_1:=λ_=>Am) e c λf as ks p=>F f as ks p else Ad
theorem Lm{e:An}{F:An->Ac An->Ac DS->AC->Am}(h:IC e F=Ab):∃ f as ks p,e=WA f as ks p/\F f as ks p=Ab:=by
 by_cases c:e.ctorIdx=16
 .exact WB (motive_1:=λe=>IC e F=Ab->∃ f as ks p,e=WA f as ks p/\F f as ks p=Ab) e c (λf as ks p h=>⟨f,as,ks,p,rfl,h⟩) h
 .exact noF ((BK c).symm.trans h)
noncomputable def Hn(e:An)(F:An->Ag->AC->Am):Am:=if c:e.ctorIdx=20 then Wv (motive_1:=λ_=>Am) e c λo m p=>F o m p else Ad
theorem JK{e:An}{F:An->Ag->AC->Am}(h:Hn e F=Ab):∃ o m p,e=Wu o m p/\F o m p=Ab:=by
 by_cases c:e.ctorIdx=20
 .exact Wv (motive_1:=λe=>Hn e F=Ab->∃ o m p,e=Wu o m p/\F o m p=Ab) e c (λo m p h=>⟨o,m,p,rfl,h⟩) h
 .exact noF ((BK c).symm.trans h)
noncomputable def MZ(e:An)(F:An->An->Am):Am:=if c:e.ctorIdx=21 then WP (motive_1:=λ_=>Am) e c λx y _=>F x y else Ad
theorem Rl{e:An}{F:An->An->Am}(h:MZ e F=Ab):∃ x y p,e=WO x y p/\F x y=Ab:=by
 by_cases c:e.ctorIdx=21
 .exact WP (motive_1:=λe=>MZ e F=Ab->∃ x y p,e=WO x y p/\F x y=Ab) e c (λx y p h=>⟨x,y,p,rfl,h⟩) h
 .exact noF ((BK c).symm.trans h)
noncomputable def Pq(e:An)(F:Ao An->Ao An->Ao An->Am):Am:=if c:e.ctorIdx=26 then WN (motive_1:=λ_=>Am) e c λl u s _=>F l u s else Ad
theorem bS{e:An}{F:Ao An->Ao An->Ao An->Am}(h:Pq e F=Ab):∃ l u s p,e=WM l u s p/\F l u s=Ab:=by
 by_cases c:e.ctorIdx=26
 .exact WN (motive_1:=λe=>Pq e F=Ab->∃ l u s p,e=WM l u s p/\F l u s=Ab) e c (λl u s p h=>⟨l,u,s,p,rfl,h⟩) h
 .exact noF ((BK c).symm.trans h)
noncomputable def Jq(e:An)(F:Ac An->Am):Am:=if c:e.ctorIdx=25 then WR (motive_1:=λ_=>Am) e c λxs _ _=>F xs else Ad
theorem Ke{e:An}{F:Ac An->Am}(h:Jq e F=Ab):∃ xs c p,e=WQ xs c p/\F xs=Ab:=by
 by_cases c:e.ctorIdx=25
 .exact WR (motive_1:=λe=>Jq e F=Ab->∃ xs c p,e=WQ xs c p/\F xs=Ab) e c (λxs c p h=>⟨xs,c,p,rfl,h⟩) h
 .exact noF ((BK c).symm.trans h)
noncomputable def M2(e:An)(F:Ac An->Am):Am:=if c:e.ctorIdx=24 then WH (motive_1:=λ_=>Am) e c λxs _=>F xs else Ad
theorem Ol{e:An}{F:Ac An->Am}(h:M2 e F=Ab):∃ xs p,e=WG xs p/\F xs=Ab:=by
 by_cases c:e.ctorIdx=24
 .exact WH (motive_1:=λe=>M2 e F=Ab->∃ xs p,e=WG xs p/\F xs=Ab) e c (λxs p h=>⟨xs,p,rfl,h⟩) h
 .exact noF ((BK c).symm.trans h)
noncomputable def Ps(e:An)(F:An->Ac IN->BG->Am):Am:=if c:e.ctorIdx=8 then WJ (motive_1:=λ_=>Am) e c λx gs sc _=>F x gs sc else Ad
theorem bV{e:An}{F:An->Ac IN->BG->Am}(h:Ps e F=Ab):∃ x gs sc p,e=WI x gs sc p/\F x gs sc=Ab:=by
 by_cases c:e.ctorIdx=8
 .exact WJ (motive_1:=λe=>Ps e F=Ab->∃ x gs sc p,e=WI x gs sc p/\F x gs sc=Ab) e c (λx gs sc p h=>⟨x,gs,sc,p,rfl,h⟩) h
 .exact noF ((BK c).symm.trans h)
noncomputable def Pt(e:AI)(F:Ac An->An->Am):Am:=if c:e.ctorIdx=5 then Xk (motive_2:=λ_=>Am) e c λts v _=>F ts v else Ad
theorem aL{e:AI}{F:Ac An->An->Am}(h:Pt e F=Ab):∃ ts v p,e=Xj ts v p/\F ts v=Ab:=by
 by_cases c:e.ctorIdx=5
 .exact Xk (motive_2:=λe=>Pt e F=Ab->∃ ts v p,e=Xj ts v p/\F ts v=Ab) e c (λts v p h=>⟨ts,v,p,rfl,h⟩) h
 .exact noF ((BK c).symm.trans h)
noncomputable def Ky(e:AI)(F:An->Am):Am:=if c:e.ctorIdx=24 then Xm (motive_2:=λ_=>Am) e c λv _=>F v else Ad
theorem On{e:AI}{F:An->Am}(h:Ky e F=Ab):∃ v p,e=Xl v p/\F v=Ab:=by
 by_cases c:e.ctorIdx=24
 .exact Xm (motive_2:=λe=>Ky e F=Ab->∃ v p,e=Xl v p/\F v=Ab) e c (λv p h=>⟨v,p,rfl,h⟩) h
 .exact noF ((BK c).symm.trans h)
noncomputable def M0(e:AI)(F:Ao An->Am):Am:=if c:e.ctorIdx=3 then Xs (motive_2:=λ_=>Am) e c λo _=>F o else Ad
theorem Rn{e:AI}{F:Ao An->Am}(h:M0 e F=Ab):∃ o p,e=Xr o p/\F o=Ab:=by
 by_cases c:e.ctorIdx=3
 .exact Xs (motive_2:=λe=>M0 e F=Ab->∃ o p,e=Xr o p/\F o=Ab) e c (λo p h=>⟨o,p,rfl,h⟩) h
 .exact noF ((BK c).symm.trans h)
noncomputable def Nk(e:AI)(F:An->Ac AI->Ac AI->Am):Am:=if c:e.ctorIdx=12 then Xo (motive_2:=λ_=>Am) e c λt xs ys _=>F t xs ys else Ad
theorem Se{e:AI}(h:Nk e F=Ab):∃ t xs ys p,e=Stmt.If t xs ys p/\F t xs ys=Ab:=by
 by_cases c:e.ctorIdx=12
 .exact Xo (motive_2:=λe=>Nk e F=Ab->∃ t xs ys p,e=Stmt.If t xs ys p/\F t xs ys=Ab) e c (λt xs ys p h=>⟨t,xs,ys,p,rfl,h⟩) h
 .exact noF ((BK c).symm.trans h)
noncomputable def LD(e:AI)(F:An->An->Ac AI->Ac AI->Am):Am:=if c:e.ctorIdx=9 then Xn (motive_2:=λ_=>Am) e c λt it xs ys _=>F t it xs ys else Ad
theorem Om{e:AI}{F:An->An->Ac AI->Ac AI->Am}(h:LD e F=Ab):∃ t it xs ys p,e=Stmt.For t it xs ys p/\F t it xs ys=Ab:=by
 by_cases c:e.ctorIdx=9
 .exact Xn (motive_2:=λe=>LD e F=Ab->∃ t it xs ys p,e=Stmt.For t it xs ys p/\F t it xs ys=Ab) e c (λt it xs ys p h=>⟨t,it,xs,ys,p,rfl,h⟩) h
 .exact noF ((BK c).symm.trans h)
noncomputable def Po(e:AI)(F:An->Ac AI->Ac AI->Am):Am:=if c:e.ctorIdx=11 then Xv (motive_2:=λ_=>Am) e c λt xs ys _=>F t xs ys else Ad
theorem bR{e:AI}(h:Po e F=Ab):∃ t xs ys p,e=Xu t xs ys p/\F t xs ys=Ab:=by
 by_cases c:e.ctorIdx=11
 .exact Xv (motive_2:=λe=>Po e F=Ab->∃ t xs ys p,e=Xu t xs ys p/\F t xs ys=Ab) e c (λt xs ys p h=>⟨t,xs,ys,p,rfl,h⟩) h
 .exact noF ((BK c).symm.trans h)
noncomputable def M1(e:AI)(F:Ao An->Ao An->Am):Am:=if c:e.ctorIdx=16 then Xq (motive_2:=λ_=>Am) e c λa b _=>F a b else Ad
theorem bT{e:AI}{F:Ao An->Ao An->Am}(h:M1 e F=Ab):∃ a b p,e=Xp a b p/\F a b=Ab:=by
 by_cases c:e.ctorIdx=16
 .exact Xq (motive_2:=λe=>M1 e F=Ab->∃ a b p,e=Xp a b p/\F a b=Ab) e c (λa b p h=>⟨a,b,p,rfl,h⟩) h
 .exact noF ((BK c).symm.trans h)
noncomputable def IA{α:Type}:Ac α->(α->Ac α->Am)->Am
 |[],_=>Ad
 |x::xs,F=>F x xs
theorem Jh{l:Ac α}{F:α->Ac α->Am}(h:IA l F=Ab):∃ x xs,l=x::xs/\F x xs=Ab:=by
 cases l with
 |nil=>exact noF h
 |cons x xs=>exact⟨x,xs,rfl,h⟩
theorem FC{l:Ac α}(h:l.isEmpty=Ab):l=[]:=List.isEmpty_iff.mp h
noncomputable def D3{α:Type}(l:Ac α)(F:α->Am):Am:=IA l λx r=>r.isEmpty&&F x
theorem E4{l:Ac α}{F:α->Am}(h:D3 l F=Ab):∃ x,l=[x]/\F x=Ab:=by
 obtain⟨x,r,rfl,h⟩:=Jh h;obtain⟨h1,h2⟩:=Bo h;exact⟨x,by rw[FC h1],h2⟩
noncomputable def GS{α:Type}(l:Ac α)(F:α->α->Am):Am:=IA l λx r=>D3 r λy=>F x y
theorem Im{l:Ac α}{F:α->α->Am}(h:GS l F=Ab):∃ x y,l=[x,y]/\F x y=Ab:=by
 obtain⟨x,r,rfl,h⟩:=Jh h;obtain⟨y,rfl,h⟩:=E4 h;exact⟨x,y,rfl,h⟩
noncomputable def HN(e:An)(F:Ag->Ac An->Am):Am:=IC e λf as ks _=>E2 f λg=>ks.isEmpty&&F g as
theorem Io{e:An}{F:Ag->Ac An->Am}(h:HN e F=Ab):∃ g p as q,e=.Call (.Name g p) as [] q/\F g as=Ab:=by
 obtain⟨f,as,ks,q,rfl,h⟩:=Lm h;obtain⟨g,p,rfl,h⟩:=Fk h;obtain⟨h1,h2⟩:=Bo h;exact⟨g,p,as,q,by rw[FC h1],h2⟩
noncomputable def JM(e:An)(F:Ag->An->Ac An->Am):Am:=HN e λg l=>IA l λx xs=>F g x xs
theorem JJ{e:An}{F:Ag->An->Ac An->Am}(h:JM e F=Ab):∃ g p x xs q,e=.Call (.Name g p) (x::xs) [] q/\F g x xs=Ab:=by
 obtain⟨g,p,as,q,rfl,h⟩:=Io h;obtain⟨x,xs,rfl,h⟩:=Jh h;exact⟨g,p,x,xs,q,rfl,h⟩
noncomputable def Uf(st:AI)(F:Ag->Ag->Ac An->Am):Am:=Ky st λe=>IC e λf as ks cp=>Hn f λo m ap=>E2 o λx=>ks.isEmpty&&(ap.endLine==cp.line&&F x m as)
theorem bU{st:AI}{F:Ag->Ag->Ac An->Am}(h:Uf st F=Ab):∃ x p m ap as cp q,st=.Expr (.Call (.Attribute (.Name x p) m ap) as [] cp) q/\ap.endLine=cp.line/\F x m as=Ab:=by
 obtain⟨e,q,rfl,h⟩:=On h;obtain⟨f,as,ks,cp,rfl,h⟩:=Lm h;obtain⟨o,m,ap,rfl,h⟩:=JK h;obtain⟨x,p,rfl,h⟩:=Fk h;obtain⟨h1,h⟩:=Bo h;obtain⟨h2,h3⟩:=Bo h;exact⟨x,p,m,ap,as,cp,q,by rw[FC h1],eq_of_beq h2,h3⟩
noncomputable def Ug(st:AI)(F:An->An->Am):Am:=Pt st λts v=>D3 ts λt=>F t v
theorem aM{st:AI}{F:An->An->Am}(h:Ug st F=Ab):∃ t v q,st=.Assign [t] v q/\F t v=Ab:=by
 obtain⟨ts,v,q,rfl,h⟩:=aL h;obtain⟨t,rfl,h⟩:=E4 h;exact⟨t,v,q,rfl,h⟩
noncomputable def LF(st:AI)(F:Ag->An->Am):Am:=Ug st λt v=>E2 t λx=>F x v
theorem Op{st:AI}{F:Ag->An->Am}(h:LF st F=Ab):∃ x p v q,st=.Assign [.Name x p] v q/\F x v=Ab:=by
 obtain⟨t,v,q,rfl,h⟩:=aM h;obtain⟨x,p,rfl,h⟩:=Fk h;exact⟨x,p,v,q,rfl,h⟩
noncomputable def Qb(e:An)(F:An->An->An->Ac An->BG->Am):Am:=Ps e λx gs sc=>D3 gs λg=>decide (g.is_async=0)&&F x g.target g.iter g.ifs sc
theorem Sd{e:An}{F:An->An->An->Ac An->BG->Am}(h:Qb e F=Ab):∃ x t it ifs sc p,e=.ListComp x [⟨t,it,ifs,0⟩] sc p/\F x t it ifs sc=Ab:=by
 obtain⟨x,gs,sc,p,rfl,h⟩:=bV h;obtain⟨g,rfl,h⟩:=E4 h;obtain⟨t,it,ifs,a⟩:=g;obtain⟨h1,h2⟩:=Bo h;have h1:a=0:=AN h1;subst h1;exact⟨x,t,it,ifs,sc,p,rfl,h2⟩
noncomputable def Nj(e:E)(F:E->Am):Am:=if c:e.ctorIdx=8 then E.no.elim (motive_1:=λ_=>Am) e c F else Ad
theorem fC{e:E}{F:E->Am}(h:Nj e F=Ab):∃ a,e=E.no a/\F a=Ab:=by
 by_cases c:e.ctorIdx=8
 .exact E.no.elim (motive_1:=λe=>Nj e F=Ab->∃ a,e=E.no a/\F a=Ab) e c (λa h=>⟨a,rfl,h⟩) h
 .exact noF ((BK c).symm.trans h)
noncomputable def MU(e:E)(F:Es->Am):Am:=if c:e.ctorIdx=9 then E.and.elim (motive_1:=λ_=>Am) e c F else Ad
theorem aN{e:E}{F:Es->Am}(h:MU e F=Ab):∃ es,e=E.and es/\F es=Ab:=by
 by_cases c:e.ctorIdx=9
 .exact E.and.elim (motive_1:=λe=>MU e F=Ab->∃ es,e=E.and es/\F es=Ab) e c (λes h=>⟨es,rfl,h⟩) h
 .exact noF ((BK c).symm.trans h)
noncomputable def Ni(e:E)(F:Es->Am):Am:=if c:e.ctorIdx=10 then E.or.elim (motive_1:=λ_=>Am) e c F else Ad
theorem fB{e:E}{F:Es->Am}(h:Ni e F=Ab):∃ es,e=E.or es/\F es=Ab:=by
 by_cases c:e.ctorIdx=10
 .exact E.or.elim (motive_1:=λe=>Ni e F=Ab->∃ es,e=E.or es/\F es=Ab) e c (λes h=>⟨es,rfl,h⟩) h
 .exact noF ((BK c).symm.trans h)
noncomputable def M3(e:E)(F:CV->E->E->Am):Am:=if c:e.ctorIdx=11 then E.cmp.elim (motive_1:=λ_=>Am) e c F else Ad
theorem bW{e:E}{F:CV->E->E->Am}(h:M3 e F=Ab):∃ o a b,e=E.cmp o a b/\F o a b=Ab:=by
 by_cases c:e.ctorIdx=11
 .exact E.cmp.elim (motive_1:=λe=>M3 e F=Ab->∃ o a b,e=E.cmp o a b/\F o a b=Ab) e c (λo a b h=>⟨o,a,b,rfl,h⟩) h
 .exact noF ((BK c).symm.trans h)
noncomputable def M4(e:E)(F:CV->CV->E->E->E->Am):Am:=if c:e.ctorIdx=12 then E.cmp2.elim (motive_1:=λ_=>Am) e c F else Ad
theorem bX{e:E}{F:CV->CV->E->E->E->Am}(h:M4 e F=Ab):∃ o q a b c,e=E.cmp2 o q a b c/\F o q a b c=Ab:=by
 by_cases c:e.ctorIdx=12
 .exact E.cmp2.elim (motive_1:=λe=>M4 e F=Ab->∃ o q a b c,e=E.cmp2 o q a b c/\F o q a b c=Ab) e c (λo q a b c h=>⟨o,q,a,b,c,rfl,h⟩) h
 .exact noF ((BK c).symm.trans h)
noncomputable def M5(e:E)(F:BI->Es->Am):Am:=if c:e.ctorIdx=15 then E.bi.elim (motive_1:=λ_=>Am) e c F else Ad
theorem bY{e:E}{F:BI->Es->Am}(h:M5 e F=Ab):∃ b as,e=E.bi b as/\F b as=Ab:=by
 by_cases c:e.ctorIdx=15
 .exact E.bi.elim (motive_1:=λe=>M5 e F=Ab->∃ b as,e=E.bi b as/\F b as=Ab) e c (λb as h=>⟨b,as,rfl,h⟩) h
 .exact noF ((BK c).symm.trans h)
noncomputable def Qc(e:E)(F:Am->Am):Am:=if c:e.ctorIdx=1 then E.bl.elim (motive_1:=λ_=>Am) e c F else Ad
theorem fE{e:E}{F:Am->Am}(h:Qc e F=Ab):∃ b,e=E.bl b/\F b=Ab:=by
 by_cases c:e.ctorIdx=1
 .exact E.bl.elim (motive_1:=λe=>Qc e F=Ab->∃ b,e=E.bl b/\F b=Ab) e c (λb h=>⟨b,rfl,h⟩) h
 .exact noF ((BK c).symm.trans h)
noncomputable def LC(e:E)(F:Af->Am):Am:=if c:e.ctorIdx=4 then E.var.elim (motive_1:=λ_=>Am) e c F else Ad
theorem Oj{e:E}{F:Af->Am}(h:LC e F=Ab):∃ i,e=E.var i/\F i=Ab:=by
 by_cases c:e.ctorIdx=4
 .exact E.var.elim (motive_1:=λe=>LC e F=Ab->∃ i,e=E.var i/\F i=Ab) e c (λi h=>⟨i,rfl,h⟩) h
 .exact noF ((BK c).symm.trans h)
noncomputable def KA(e:E)(F:Af->Es->Am):Am:=if c:e.ctorIdx=14 then E.call.elim (motive_1:=λ_=>Am) e c F else Ad
theorem Ro{e:E}{F:Af->Es->Am}(h:KA e F=Ab):∃ f as,e=E.call f as/\F f as=Ab:=by
 by_cases c:e.ctorIdx=14
 .exact E.call.elim (motive_1:=λe=>KA e F=Ab->∃ f as,e=E.call f as/\F f as=Ab) e c (λf as h=>⟨f,as,rfl,h⟩) h
 .exact noF ((BK c).symm.trans h)
noncomputable def MW(e:E):Am:=decide (e.ctorIdx=0)
theorem aX{e:E}(h:MW e=Ab):e=.non:=E.non.elim (motive_1:=λe=>e=.non) e (AN h) rfl
noncomputable def Dr:An->Am
 |.Starred _ _=>Ad
 |_=>Ab
noncomputable def Sf:An->Am
 |.Slice _ _ _ _=>Ad
 |_=>Ab
noncomputable def KD:An->Am
 |.Set _ _ _=>Ad
 |_=>Ab
noncomputable def Iw:An->Am
 |.ListComp _ _ _ _=>Ad
 |.SetComp _ _ _ _=>Ad
 |.DictComp _ _ _ _ _=>Ad
 |_=>Ab
noncomputable def UW(tu:Am):An->Am
 |.Tuple ..=>tu
 |.Name ..=>!tu
 |_=>Ad
noncomputable def qY:An->Am
 |.Tuple _ _ _=>Ab
 |_=>Ad
noncomputable def Mm:An->Am
 |.UnaryOp _ _ _=>Ad
 |.BoolOp _ _ _=>Ad
 |.IfExp _ _ _ _=>Ad
 |.Compare _ _ _ _=>Ad
 |_=>Ab
noncomputable def Pw:Ki->Ao Ag
 |.int=>Aa "int"
 |.bool=>Aa "bool"
 |.str=>Aa "str"
 |.list=>Aa "list"
 |.tuple=>Aa "tuple"
 |_=>Ae
noncomputable def Px:BI->Ao Ag
 |.len=>Aa "len"
 |.abs=>Ae
 |.max=>Ae
 |.min=>Aa "min"
 |.int=>Ae
 |.list=>Aa "list"
 |.tuple=>Aa "tuple"
 |.all=>Aa "all"
 |.any=>Aa "any"
 |.sum=>Ae
 |.sorted=>Ae
 |.str=>Aa "str"
 |.tmin=>Ae
 |.tmax=>Ae
 |_=>Ae
noncomputable def Pf(o scope:BG):BG:={scope with names:=scope.names.map λ(n,k)=>if (k==.free&&o.kind==.function&&o.names.lookup n==Aa .cell) then (n,.cell) else (n,k)}
noncomputable def JX:Ac Af->Ac Ag->Ac Ag->Ac Ag
 |t::ts,x::xs,N=>JX ts xs ((N.map λy=>if y==x then N.getD t x else y).set t x)
 |_,_,N=>N
noncomputable def Kq:Ac Ag->Am
 |[]=>Ab
 |x::xs=>!xs.contains x&&Kq xs
noncomputable def LY(T:Tc)(scope:BG)(ts:Ac Af)(N':Ac Ag):Am:=
  scope.kind==.function&&scope.names.all (λy=>scope.names.lookup y.1==Aa y.2) &&
  scope.names.all (λy=>y.2 != .free||T.sc.names.lookup y.1==Aa .cell||T.sc.names.lookup y.1==Aa .free) &&
  N'.length==T.N.length&&Kq N' &&
  (A5 N'.length).all λi=>ts.contains i||(match N'[i]? with
    |some x=>(scope.names.lookup x != Aa .local&&scope.names.lookup x != Aa .cell)&&(scope.names.lookup x != Aa .free||T.N[i]? == Aa x)
    | none=>Ab)
noncomputable def FD:Ac An->Ao (Ac Ag)
 |[]=>Aa []
 |.Name x _::r=>(FD r).map (x :: ·)
 |_=>Ae
noncomputable def tgN(ys:Ac An):Ac Ag:=(FD ys).getD []
noncomputable def tgB(T:Tc):Ac Af->Ac Ag->Am
 |[],[]=>Ab
 |t::ts,x::xs=>T.N[t]? == Aa x&&T.sc.names.lookup x==Aa .local&&tgB T ts xs
 |_,_=>Ad
noncomputable def tgO(T:Tc)(scope:BG)(t:Af)(x:Ag):Am:=T.N[t]? == Aa x&&(T.sc.names.lookup x==Aa .local||(T.sc.names.lookup x==Aa .cell&&scope.names.lookup x==Aa .cell))
noncomputable def tgC(T:Tc):Ac Af->Ac Ag->Am
 |[],[]=>Ab
 |t::ts,x::xs=>T.N[t]? == Aa x&&II T x&&tgC T ts xs
 |_,_=>Ad
noncomputable def Tc.blk(T:Tc)(scope:BG)(ts:Ac Af)(xs:Ac Ag):Tc:={T with sc:=Pf T.sc scope,N:=JX ts xs T.N,tp:=Ad}
noncomputable def Yz(f:Ag):Am:=(f==("triple" : Ag)||(f==("points" : Ag)||f==("row" : Ag)))
noncomputable def KB:An->Am
 |.Call _ [] _ _=>Ad
 |_=>Ab
theorem MK{o:An}{f:Ag}{w:Fx Aj}(h:KB o=Ab):CY o f env w=w:=by
 cases o with
 |Call g as ks p=>
  cases as with
  |nil=>cases h
  |cons=>cases g<;>rfl
 |_=>rfl
noncomputable def inX(l:Ac (Ag×Af))(g:Ag)(c:Af):Am:=l.any λp=>p.1==g&&p.2==c
noncomputable def ocB(T:Tc)(t:Ag)(k:Af):Am:=t==Nl k&&decide (k<3)&&glB T t&&Fn t
noncomputable def Ys(T:Tc)(t:Ag):Ki->Am
 |.verr=>t==("ValueError" : Ag)&&isB T t
 |.cls c=>inX T.exs t c&&glB T t&&Fn t
 |_=>Ad
noncomputable def Vm:An->Ao (An×An×AC)
  | .Compare x ops ys p=>(match ops with
    | [.Lt]=>(match ys with
      |[y]=>Aa (x,y,p)
      | _=>Ae)
    | _=>Ae)
  |_=>Ae
noncomputable def PB(_:Es):Ao (E×E):=Ae
noncomputable def PX(_:Tc)(_:Tc->An->E->Am)(_:An)(_:Ac CV)(_:Ac An)(_:BI)(_:Es):Am:=Ad
noncomputable def Vj(T:Tc)(e:An)(b:BI)(as:Es):Am:=Ad
noncomputable def S9:An->Ao (Ag×AC)
 |.Name x p=>Aa (x,p)
 |_=>Ae
noncomputable def Ta:An->Ao (An×Ac An×Ac DS×AC)
 |.Call f as ks p=>Aa (f,as,ks,p)
 |_=>Ae
noncomputable def sT:An->Ao (Ac An×Af×AC)
 |.Tuple es k p=>Aa (es,k,p)
 |_=>Ae
noncomputable def one{α:Type}:Ac α->Ao α
 |[a]=>Aa a
 |_=>Ae
noncomputable def Vk(e:An):Ao (Ag×Ag×Ac An):=(Ta e).bind λc=>(S9 c.1).bind λg=>(one c.2.1).bind λa=>(Ta a).bind λd=>(S9 d.1).bind λh=>if (c.2.2.1.isEmpty&&d.2.2.1.isEmpty)=Ab then Aa (g.1,h.1,d.2.1) else Ae
noncomputable def Vt(e:An):Ao (Ag×Ag×An×An):=match Vk e with
  | some (g,h,bs)=>(match bs with
    |[x,y]=>Aa (g,h,x,y)
    | _=>Ae)
  |none=>Ae
noncomputable def PH(_:Es):Ao (E×E):=Ae
noncomputable def Vs(e:An):Ao (Ag×Ag×An):=match Vk e with
  | some (g,h,bs)=>(match bs with
    |[x]=>Aa (g,h,x)
    | _=>Ae)
  |none=>Ae
noncomputable def No:Es->Ao (Ag×E)
  | .cons a r=>(match a with
    | .str s=>(match r with
      | .cons b r'=>(match r' with
        | .nil=>(match b with
          |.var _=>Ae
          | b=>Aa (s,b))
        | _=>Ae)
      | _=>Ae)
    | _=>Ae)
  |.nil=>Ae
theorem iD{s:Ag}{a:E}(q:No as=Aa (s,a)):as=.cons (.str s) (.cons a .nil)/\∀ U r,top U a r=r:=by
 cases as with
 |nil=>cases q
 |cons a r=>
  cases a with
  |str s=>
   cases r with
   |nil=>cases q
   |cons b r'=>
    cases r' with
    |nil=>cases b<;>first|(cases q;exact⟨rfl,λ_ _=>rfl⟩)|cases q
    |cons=>cases q
  |_=>cases q
noncomputable def Nn:Es->Ao (E×Ag)
  | .cons a r=>(match r with
    | .cons b r'=>(match b with
      | .str y=>(match r' with
        |.nil=>Aa (a,y)
        | _=>Ae)
      | _=>Ae)
    | _=>Ae)
  |.nil=>Ae
theorem iC{s:Ag}{a:E}(q:Nn as=Aa (a,s)):as=.cons a (.cons (.str s) .nil):=by
 cases as with
 |nil=>cases q
 |cons a r=>
  cases r with
  |nil=>cases q
  |cons b r'=>
   cases b with
   |str s=>
    cases r' with
    |nil=>cases q;rfl
    |cons=>cases q
   |_=>cases q
noncomputable def PD(_:Es):Ao E:=Ae
noncomputable def two(e:An):Ao (An×An):=(sT e).bind λt=>match t.1 with
  |[a,b]=>Aa (a,b)
  |_=>Ae
noncomputable def Qj(_:Es):Ao E:=Ae
noncomputable def U_5(_:An):Ao An:=Ae
noncomputable def UY:An->Ao (An×Ah)
  | .Subscript v s _=>(match s with
    | .Slice lo hi st _=>(match lo with
      | some (.Constant (.int k) _ _)=>(match hi with
        | none=>(match st with
          |some (.Constant (.int j) _ _)=>if j=2 then Aa (v,k) else Ae
          | _=>Ae)
        | some _=>Ae)
      | _=>Ae)
    | _=>Ae)
  |_=>Ae
noncomputable def PC(_:Es):Ao (E×Ah):=Ae
mutual
noncomputable def A6:Af->Tc->An->E->Am
  |0,_,_,_=>Ad
  |n+1,T,e,c=>match c with
    |.non=>GU e λc=>decide (c=.none)
    |.bl b=>GU e λc=>decide (c=.bool b)
    |.int i=>GU e λc=>decide (c=.int i)
    |.str x=>GU e λc=>decide (c=.str x)
    |.var i=>E2 e λx=>isV T x i
    |.glob g=>Ad
    |.bin op a b=>MT e λx op' y=>decide (op'=op)&&A6 n T x a&&A6 n T y b
    |.un op a=>JY e λo x=>decide (o=.USub)&&(decide (op=.USub)&&A6 n T x a)
    |.no a=>JY e λo x=>decide (o=.Not)&&A6 n T x a
    |.and es=>Jr e λo xs _=>decide (o=.And)&&(chkEs n T xs es && !xs.isEmpty)
    |.or es=>Jr e λo xs _=>decide (o=.Or)&&(chkEs n T xs es && !xs.isEmpty)
    |.cmp op a b=>Kz e λx os ys=>D3 os λop'=>D3 ys λy=>decide (op'=op) && !behindInMarks op y&&A6 n T x a&&A6 n T y b
    |.cmp2 op1 op2 a b c=>Kz e λx os ys=>GS os λo1 o2=>GS ys λy z=>decide (o1=op1)&&decide (o2=op2) && !lastMarks [op1,op2] [y,z]&&A6 n T x a&&A6 n T y b&&A6 n T z c
    |.ite c a b=>Ad
    |.call f as=>JM e λg x xs=>(T.fns.any λp=>p.1==g&&p.2.1==f&&p.2.2==xs.length+1)&&decide (xs.length<900)&&glB T g&&Fn g&&chkEs n T (x::xs) as
    |.bi b as=>(JM e λg x xs=>Px b==Aa g&&isB T g&&chkEs n T (x::xs) as)||(Vj T e b as||Qk T e b as)||(match PH as with|some (a,c)=>(match Vt e with|some (g,h,x,y)=>decide (b=.list)&&g==("list" : Ag)&&h==("range" : Ag)&&isB T g&&isB T h&&Dr x&&Dr y&&A6 n T x a&&A6 n T y c|none=>Ad)|none=>Ad)||(match PC as with|some (a,k)=>(match UY e with|some (x,j)=>decide (b=.stp)&&decide (j=k)&&decide (0<=k)&&A6 n T x a|none=>Ad)|none=>Ad)||(match PD as with|some a=>(match Vs e with|some (g,h,x)=>decide (b=.lset)&&g==("len" : Ag)&&h==("set" : Ag)&&isB T g&&isB T h&&Dr x&&A6 n T x a|none=>Ad)|none=>Ad)||(match PB as with|some (a,c)=>(match Vm e with|some (x,y,_)=>decide (b=.tlt) && !behindInMarks .Lt y&&A6 n T x a&&A6 n T y c|none=>Ad)|none=>Ad)||(match No as with|some (s,a)=>IC e λf l ks cp=>ks.isEmpty&&(Hn f λo m ap=>m==("join" : Ag)&&ap.endLine==cp.line&&(GU o λc=>decide (c=.str s)&&decide (b=.sjoin)&&(D3 l λy=>Dr y&&A6 n T y a)))|none=>Ad)||(match Nn as with|some (a,s)=>IC e λf l ks cp=>ks.isEmpty&&(Hn f λo m ap=>m==("split" : Ag)&&ap.endLine==cp.line&&KB o&&A6 n T o a&&(D3 l λy=>GU y λc=>decide (c=.str s)&&decide (b=.ssplit)))|none=>Ad)||(match Qj as with|some a=>(match U_5 e with|some x=>decide (b=.rvs)&&A6 n T x a|none=>Ad)|none=>Ad)
    |.isi a ks=>(D3 ks λk=>HN e λg l=>GS l λx t=>E2 t λt=>g==("isinstance" : Ag)&&isB T g&&Pw k==Aa t&&isB T t&&Dr x&&A6 n T x a)||(D3 ks λk=>HN e λg l=>GS l λx t=>E2 t λt=>g==("isinstance" : Ag)&&isB T g&&Dr x&&A6 n T x a&&Ys T t k)
    |.idx a i=>MZ e λx y=>Sf y&&A6 n T x a&&A6 n T y i
    |.sl a lo hi=>MZ e λx s=>Pq s λl h st=>st.isNone&&(A6 n T x a&&chkO n T l lo&&chkO n T h hi)
    |.tup es=>Jq e λxs=>chkEs n T xs es&&decide (xs.length<=1000)
    |.lst es=>M2 e λxs=>chkEs n T xs es&&decide (xs.length<=1000)
    |.comp elt t it c=>Qb e λx tg iter ifs scope=>E2 tg λy=>chkI n T Ad iter it&&KD iter&&LY T scope [t] (JX [t] [y] T.N)&&tgO (T.blk scope [t] [y]) scope t y&&chkT n (T.blk scope [t] [y]) ifs c&&A6 n (T.blk scope [t] [y]) x elt
    |.compT elt ts it c=>Ad
    |.tupI _=>Ad
    |.dnew=>Ad
    |.fld o f=>Hn e λw g _=>g==f&&Yz f&&KB w&&A6 n T w o
    |.ofl o f=>Hn e λw g _=>g==f&&f==("triple" : Ag)&&KB w&&A6 n T w o
    |.iso a k=>HN e λg l=>GS l λx t=>E2 t λt=>g==("isinstance" : Ag)&&isB T g&&Dr x&&A6 n T x a&&ocB T t k
    |.meth m ms o=>IC e λf l ks cp=>ks.isEmpty&&(l.isEmpty&&(Hn f λw g ap=>g==m&&(m==("told" : Ag)||m==("shown" : Ag))&&ap.endLine==cp.line&&KB w&&A6 n T w o&&ms.all λq=>T.fns.any λp=>(GB.lookup p.1==Aa (q.1,m))&&p.2.1==q.2&&p.2.2==1))
    |.mkob _ _=>Ad
    |.mkn c as=>JM e λg x xs=>ocB T g c&&xs.length==1&&chkEs n T (x::xs) as
    |.mkx c as=>T.tp&&(JM e λg x xs=>inX T.rzs g c&&glB T g&&Fn g&&decide (xs.length<=1000)&&chkEs n T (x::xs) as)
noncomputable def Hv:Af->Tc->An->E->Am
 |0,_,_,_=>Ad
 |n+1,T,e,c=>(JY e λo x=>decide (o=.Not)&&(Nj c λa=>Hv n T x a)) ||
  (Jr e λo xs _=>(decide (o=.And)&&(MU c λes=>chkBs n T xs es && !xs.isEmpty))||(decide (o=.Or)&&(Ni c λes=>chkBs n T xs es && !xs.isEmpty))) ||
  (Kz e λx os ys=>(M3 c λop a b=>D3 os λop'=>D3 ys λy=>decide (op'=op) && !behindInMarks op y&&A6 n T x a&&A6 n T y b) ||
   (M4 c λop1 op2 a b c=>GS os λo1 o2=>GS ys λy z=>decide (o1=op1)&&decide (o2=op2) && !lastMarks [op1,op2] [y,z]&&A6 n T x a&&A6 n T y b&&A6 n T z c) ||
   (M5 c λb as=>PX T (A6 n) x os ys b as)) ||
  Mm e&&A6 n T e c
noncomputable def chkBs:Af->Tc->Ac An->Es->Am
  |0,_,_,_=>Ad
  |n+1,T,xs,es=>match xs,es with
    |[],.nil=>Ab
    |x::xs,.cons e es=>Hv n T x e&&chkBs n T xs es
    |_,_=>Ad
noncomputable def chkEs:Af->Tc->Ac An->Es->Am
  |0,_,_,_=>Ad
  |n+1,T,xs,es=>match xs,es with
    |[],.nil=>Ab
    |x::xs,.cons e es=>Dr x&&A6 n T x e&&chkEs n T xs es
    |_,_=>Ad
noncomputable def chkO:Af->Tc->Ao An->E->Am
  |0,_,_,_=>Ad
  |n+1,T,x,e=>match x with
    |none=>MW e
    |some x=>!(MW e)&&A6 n T x e
noncomputable def chkT:Af->Tc->Ac An->E->Am
  |0,_,_,_=>Ad
  |n+1,T,xs,e=>match xs with
    |[]=>Qc e λb=>b
    |x::r=>r.isEmpty&&Hv n T x e
noncomputable def chkI:Af->Tc->Am->An->I->Am
  |0,_,_,_,_=>Ad
  |n+1,T,tu,e,i=>match i with
    |.e a=>A6 n T e a
    |.rng a=>HN e λg l=>D3 l λx=>g==("range" : Ag)&&isB T g&&Dr x&&A6 n T x a
    |.enm a=>HN e λg l=>D3 l λx=>tu&&g==("enumerate" : Ag)&&isB T g&&Dr x&&A6 n T x a
    |.zip a b=>Ad
    |.rng2 a b=>HN e λg l=>GS l λx y=>g==("range" : Ag)&&isB T g&&Dr x&&Dr y&&A6 n T x a&&A6 n T y b
    |.zip3 a b c=>Ad
end
noncomputable def P9:E->E->Am
 |.var _,.int _=>Ab
 |_,_=>Ad
noncomputable def U_0:Fh->Am
 |.Sub=>Ab
 |_=>Ad
noncomputable def Na:E->Am
 |.idx a b=>P9 a b
 |.bin op a b=>U_0 op&&P9 a b
 |.var _=>Ab
 |.int _=>Ab
 |.bl _=>Ab
 |.str _=>Ab
 |.non=>Ab
 |_=>Ad
noncomputable def IB:Es->Am
 |.nil=>Ab
 |.cons e es=>Na e&&IB es
noncomputable def GV:An->Ao (Ag×AC)
 |.Name x p=>Aa (x,p)
 |_=>Ae
theorem HK{e:An}{t:Ag×AC}(h:GV e=Aa t):e=.Name t.1 t.2:=by
 cases e with
 |Name x p=>cases h;rfl
 |_=>exact nomatch (show Ae=Aa t from h)
noncomputable def Vf:An->Ao (An×Ac An×AC)
  | .Call f as ks p=>(match ks with
    |[]=>Aa (f,as,p)
    | _=>Ae)
  |_=>Ae
theorem eJ{e:An}{t:An×Ac An×AC}(h:Vf e=Aa t):e=.Call t.1 t.2.1 [] t.2.2:=by
 cases e with
 |Call f as ks p=>
  cases ks with
  |nil=>cases h;rfl
  |cons=>exact nomatch (show Ae=Aa t from h)
 |_=>exact nomatch (show Ae=Aa t from h)
noncomputable def LM{α:Type}:Ac α->Ao (α×α)
 |[a,b]=>Aa (a,b)
 |_=>Ae
theorem MB{l:Ac α}{t:α×α}(h:LM l=Aa t):l=[t.1,t.2]:=by
 cases l with
 |nil=>exact nomatch (show Ae=Aa t from h)
 |cons a l=>
  cases l with
  |nil=>exact nomatch (show Ae=Aa t from h)
  |cons b l=>
   cases l with
   |nil=>cases h;rfl
   |cons=>exact nomatch (show Ae=Aa t from h)
noncomputable def xHd:ET->Ao (Ag×Ag×AI×Ac AI)
  | .ExceptHandler ty nm b _=>(match nm,b,ty with
    |some m,h0::hs,Aa e=>(GV e).bind λg=>Aa (g.1,m,h0,hs)
    | _,_,_=>Ae)
theorem kC{h:ET}{g m:Ag}(q:xHd h=Aa (g,m,h0,hs)):∃ p r,h=.ExceptHandler (Aa (.Name g p)) (Aa m) (h0::hs) r:=by
 obtain⟨ty,nm,b,r⟩:=h;cases nm with
 |none=>cases ty<;>cases b<;>exact nomatch (show Ae=Aa (g,m,h0,hs) from q)
 |some m'=>
  cases b with
  |nil=>cases ty<;>exact nomatch (show Ae=Aa (g,m,h0,hs) from q)
  |cons h0' hs'=>
   cases ty with
   |none=>exact nomatch (show Ae=Aa (g,m,h0,hs) from q)
   |some e=>
    obtain⟨g',e1,q⟩:=Ax.mp (show ((GV e).bind λg=>Aa (g.1,m',h0',hs'))=Aa (g,m,h0,hs) from q)
    cases q;rw[HK e1];exact⟨_,_,rfl⟩
noncomputable def P3:AI->Ao (AI×Ac ET×Ac AI)
  | .Try b hs es fs _=>(match b,fs with
    |[bt],[]=>Aa (bt,hs,es)
    | _,_=>Ae)
  |_=>Ae
theorem eE{st bt:AI}{hs:Ac ET}{es:Ac AI}(q:P3 st=Aa (bt,hs,es)):∃ p,st=.Try [bt] hs es [] p:=by
 cases st with
 |Try b h e f p=>
  cases b with
  |nil=>cases f<;>exact nomatch (show Ae=Aa (bt,hs,es) from q)
  |cons x b=>
   cases b with
   |cons=>cases f<;>exact nomatch (show Ae=Aa (bt,hs,es) from q)
   |nil=>
    cases f with
    |nil=>cases q;exact⟨_,rfl⟩
    |cons=>exact nomatch (show Ae=Aa (bt,hs,es) from q)
 |_=>exact nomatch (show Ae=Aa (bt,hs,es) from q)
noncomputable def UR(e:An)(F:Ag->Ag->An->Am):Am:=HN e λg l=>GS l λa t=>E2 a λv=>F g v t
theorem fD{e:An}{F:Ag->Ag->An->Am}(h:UR e F=Ab):∃ g p v q t r,e=.Call (.Name g p) [.Name v q,t] [] r/\F g v t=Ab:=by
 obtain⟨g,p,l,r,rfl,h⟩:=Io h;obtain⟨a,t,rfl,h⟩:=Im h;obtain⟨v,q,rfl,h⟩:=Fk h;exact⟨g,p,v,q,t,r,rfl,h⟩
noncomputable def PU(T:Tc):Ac An->Ac Ki->Am
  |[],ks=>ks.isEmpty
  | e::r,ks=>IA ks λk ks=>E2 e λt=>(match k with
    |.cls c=>inX T.exs t c&&glB T t&&Fn t
    | _=>Ad)&&PU T r ks
noncomputable def LJ(f:An->E->Am):Ac An->Es->Am
 |[],.nil=>Ab
 |x::xs,.cons e es=>Dr x&&f x e&&LJ f xs es
 |_,_=>Ad
noncomputable def sP(T:Tc)(t:An)(ks:Ac Ki):Am:=IA ks λk r=>match k with
  |.verr=>r.isEmpty&&(E2 t λt=>t==("ValueError" : Ag)&&isB T t)
  | .cls c=>(match r with
    |[]=>E2 t λt=>inX T.exs t c&&glB T t&&Fn t
    | k2::r=>Jq t λts=>PU T ts (.cls c::k2::r)&&decide (ts.length<=1000))
  |_=>Ad
noncomputable def HR:Af->Tc->Af->An->E->Am
  |0,_,_,_,_=>Ad
  |n+1,T,x,e,c=>match c with
    |.bl b=>GU e λk=>decide (k=.bool b)
    |.no a=>JY e λo y=>decide (o=.Not)&&HR n T x y a
    | .and es=>(match es with
      |.nil=>Ad
      | .cons a r=>(match r with
        |.nil=>Jr e λo l _=>decide (o=.And)&&(D3 l λy=>HR n T x y a)
        | .cons a' as=>Jr e λo l p=>decide (o=.And)&&(IA l λy l=>IA l λz zs=>HR n T x y a&&HR n T x (.BoolOp .And (z::zs) p) (.and (.cons a' as)))))
    |.isi a ks=>LC a λi=>UR e λg v t=>i==x&&g==("isinstance" : Ag)&&isB T g&&isV T v x&&sP T t ks
    |.call _ _=>Ad
    |.str s=>GU e λk=>decide (k=.str s)
    |.lst es=>M2 e λxs=>LJ (HR n T x) xs es&&decide (xs.length<=1000)
    |.tup es=>Jq e λxs=>LJ (HR n T x) xs es&&decide (xs.length<=1000)
    |.bin op a b=>decide (op=.Add)&&(LC a λi=>MT e λl o y=>decide (o=.Add)&&(E2 l λv=>isV T v i&&HR n T x y b))
    |.fld o f=>LC o λi=>Hn e λw g _=>E2 w λv=>i==x&&g==f&&(f==("triple" : Ag)||(f==("points" : Ag)||f==("row" : Ag)))&&isV T v x
    |_=>Ad
noncomputable def Yt:E->Am
 |.lst _=>Ab
 |_=>Ad
noncomputable def Py:Af->Tc->Af->Ac AI->Ss->Am
  |0,_,_,_,_=>Ad
  |n+1,T,x,sts,ss=>match ss with
    |.nil=>sts.isEmpty
    | .cons s ss=>IA sts λst r=>(match s with
      |.asg i b e=>LF st λy v=>T.N[i]? == Aa y&&II T y&&Iw v&&HR n T x v e&&(!b||Yt e)
      |.ife _ _ _=>Ad
      |.ret _=>Ad
      |.app _ _=>Ad
      | _=>Ad)&&Py n T x r ss
noncomputable def P8:E->Am
 |.var _=>Ab
 |.cmp _ a b=>Na a&&Na b
 |_=>Ad
noncomputable def MH(n:Af)(T:Tc)(st:AI)(s:S):Am:=match s with
  |.expr e=>KA e λf as=>Ky st λv=>A6 n T v (.call f as)&&IB as
  |.asg i b e=>!b&&(KA e λf as=>LF st λy v=>T.N[i]? == Aa y&&II T y&&A6 n T v (.call f as)&&IB as)
  |_=>Ad
noncomputable def Pp:Ss->(S->Am)->Am
  |.nil,_=>Ad
  | .cons a r,F=>(match r with
    |.nil=>F a
    | .cons _ _=>Ad)
theorem Rm{l:Ss}{F:S->Am}(h:Pp l F=Ab):∃ a,l=.cons a .nil/\F a=Ab:=by
 cases l with
 |nil=>exact noF h
 |cons a r=>
  cases r with
  |nil=>exact⟨a,rfl,h⟩
  |cons=>exact noF h
noncomputable def S8(f:AI->S->Am)(n:Af)(T:Tc)(st:AI):S->Am
 |.ife c a b=>Pp a λa=>Pp b λb=>Nk st λt xs ys=>D3 xs λx=>D3 ys λy=>Hv n T t c&&P8 c&&f x a&&f y b
 |_=>Ad
noncomputable def M6:Af->Af->Tc->AI->S->Am
 |0,n,T,st,s=>MH n T st s
 |m+1,n,T,st,s=>MH n T st s||S8 (M6 m n T) n T st s
noncomputable def YC:E->Am
  | .bi b as=>(match b,as with
    |.len,.nil=>Ab
    | _,_=>Ad)
  |_=>Ad
noncomputable def YB:S->Am
 |.expr e=>YC e
 |_=>Ad
noncomputable def Nm:Ss->Am
 |.cons s _=>YB s
 |.nil=>Ad
noncomputable def hdB(T:Tc)(g:Ag)(c:Af):Am:=inX T.exs g c&&inX T.rzs g c&&glB T g&&Fn g
mutual
noncomputable def LX:Af->Tc->AI->S->Am
  |0,_,_,_=>Ad
  |n+1,T,st,s=>match s with
    |.pass=>decide (st.ctorIdx=25)
    |.brk=>Ad
    |.cont=>Ad
    |.asg i _ e=>LF st λx v=>T.N[i]? == Aa x&&II T x&&A6 n T v e
    |.asgT ts e=>Ad
    |.expr e=>Ky st λv=>Iw v&&A6 n T v e
    |.ret e=>M0 st λo=>match o with|some v=>A6 n T v e|none=>Ad
    |.retN=>Ad
    |.retc ts it f as=>M0 st λo=>match o with|some v=>(Qb v λx tg iter ifs scope=>ifs.isEmpty&&(Jq tg λys=>(FD ys).isSome&&chkI n T Ab iter it&&KD iter&&LY T scope ts (JX ts (tgN ys) T.N)&&tgB (T.blk scope ts (tgN ys)) ts (tgN ys)&&IB as&&A6 n (T.blk scope ts (tgN ys)) x (.call f as)))|none=>Ad
    |.ife c a b=>Nk st λt xs ys=>Hv n T t c&&chkSs n T xs a&&chkSs n T ys b
    |.fors t it body=>LD st λtg iter xs ys=>ys.isEmpty&&(E2 tg λx=>tgC T [t] [x]&&KD iter&&chkI n T Ad iter it&&chkSs n T xs body)
    |.forT ts it body=>LD st λtg iter xs zs=>zs.isEmpty&&(Jq tg λys=>(FD ys).isSome&&tgC T ts (tgN ys)&&KD iter&&chkI n T Ab iter it&&chkSs n T xs body)
    |.forO i ts body=>LD st λtg iter xs zs=>zs.isEmpty&&(Jq tg λys=>(FD ys).isSome&&tgC T ts (tgN ys)&&KD iter&&(HN iter λg l=>D3 l λx=>g==("enumerate" : Ag)&&isB T g&&(E2 x λz=>isV T z i)&&chkSs n T xs body))
    |.whl c body=>Po st λt xs ys=>ys.isEmpty&&(Hv n T t c&&chkSs n T xs body)
    |.rais c as=>!(T.rzs.any λp=>p.2==c)||(M1 st λa b=>b.isNone&&(match a with|some e=>JM e λg x xs=>inX T.rzs g c&&glB T g&&Fn g&&decide (xs.length<=1000)&&chkEs n T (x::xs) as|none=>Ad))
    |.tryx bs c x h=>(match bs with | .cons b .nil=>(match P3 st with|some (bt,[h1],[])=>(match xHd h1 with|some (g,m,h0,hs)=>hdB T g c&&T.N[x]? == Aa m&&T.sc.names.lookup m==Aa .local&&M6 6 n T bt b&&Py n T x (h0::hs) h|none=>Ad)|_=>Ad)|_=>Ad)
    |.try2 _ _ _ _ _ _ _=>Ad
    |.app i e=>Uf st λx m l=>D3 l λv=>m==("append" : Ag)&&isV T x i&&Dr v&&A6 n T v e
    |.ext i e=>Ad
    |.rev i=>Ad
    |.clr i=>Ad
    |.put i k e=>Ad
    |.swp _ _ _=>Ad
    |.apop _ _ _=>Ad
    |.ins i k e=>Ad
    |.dput _ _ _=>Ad
    |.dsd _ _ _=>Ad
    |.rel _=>Ad
noncomputable def chkSs:Af->Tc->Ac AI->Ss->Am
  |0,_,_,_=>Ad
  | n+1,T,sts,ss=>(match ss with
    |.nil=>sts.isEmpty
    |.cons (.rel i) ss=>chkSs n T sts ss
    | .cons s ss=>(match sts with
      |st::r=>LX n T st s&&chkSs n T r ss
      | []=>Ad))||Nm ss
end
noncomputable def Gi(fuel:Af)(hot:Am)(fns:Ac (Ag×Af×Af))(bl:Ac Ag)(rzs exs gls:Ac (Ag×Af))(ps N:Ac Ag)(st:AI)(df:Df):Am:=
  let sc:=BD st
  sc.kind==.function && !sc.isCoroutine && !sc.isGenerator&&Kq N&&N.take ps.length==ps&&ps.all (λx=>sc.names.lookup x==Aa .local||sc.names.lookup x==Aa .cell)&&sc.names.all (λy=>y.2 != .free)&&N.length==df.n &&
  (match hot with
  |true=>Ad
  | false=>chkSs fuel ⟨sc,N,fns,bl,rzs,exs,gls,Ab⟩ (En st) df.body)
structure XT (up:Af->Ac Af) (xn:Af->Ac D->R Ex) (CL:ClA) (rzs exs:Ac (Ag×Af)) (K:Fg) (mg:Ag->Ao Aj):Prop where
 xc:∀ c C,CL c=Aa C->XcOk K C
 rz:∀ p∈rzs,∃ C,CL p.2=Aa C/\mg p.1=Aa (.ref C)
 ex:∀ p∈exs,∃ C,mg p.1=Aa (.ref C)/\Lx K CL up p.2 C/\∀ c D,CL c=Aa D->By K (.ref D) (.ref C)=Aa ((up c).contains p.2)
 made:∀ c C ds,CL c=Aa C->xn c ds=.bad\/(xn c ds=.ok ⟨c,[]⟩/\C4 K C Ae=Ab)\/∃ f,XIn K mg C f/\JW xn c f ds
 nf:∀ c C,CL c=Aa C->∀ f:Ag,(f==("triple" : Ag)||(f==("points" : Ag)||f==("row" : Ag)))=Ab->F0 K C=Ab/\Ar K (.ref C) f=Aa Ae
 xb:∀ c,(∀ p∈rzs,p.2≠c)->∀ ds,xn c ds=.bad
def Nr(K:Fg)(mg:Ag->Ao Aj)(CL:ClA)(x:Ag)(d:D):Prop:=∃ u v,mg x=Aa u/\Bp v u/\∀ H A,Rep K CL H A v d
structure OS (K:Fg) (mg:Ag->Ao Aj):Prop where
 oc:∀ c C,OC K c=Aa C->OCls K C
 kit:∀ c C c' C',OC K c=Aa C->OC K c'=Aa C'->BQ K (.ref C) (.ref C')=Aa ((oup c).contains c')
 at_:∀ c,c<3->∃ C,OC K c=Aa C/\mg (Nl c)=Aa (.ref C)
 mf:∀ c C m f,OC K c=Aa C->(m==("told" : Ag)||m==("shown" : Ag))=Ab->Ar K (.ref C) m=Aa (Aa (.ref f))->Dq K (.ref f)=Ab
def MkR(P:AL)(w:AV)(K:Fg)(mg:Ag->Ao Aj)(base:AF)(CL:ClA)(F:Af->Ac D->R D)(k c:Af):Prop:=(∀ ds,F (900+c) ds=.bad)\/∃ C f fd G k',OC K c=Aa C/\Mk K C f/\ED K fd ["self", "p", "numbers"] []/\k'+1=k/\FnOk P w K mg base (CXR P w) k' f fd ["self", "p", "numbers"] (spI K CL G)/\(∀ ds,ds.length=2->F (900+c) ds=.bad\/F (900+c) ds=(G ds).bind (EC c))/\∀ ds y,G ds≠.exn y
structure VX (Z:Gam) (CL:ClA) (k:Af) (W:XW) (T:Tc) (X:Cx):Prop where
 sc:X.env.scope=T.sc
 kd:T.sc.kind=.function
 N:X.N=T.N
 nd:T.N.Nodup
 calm:X.calm=Ab
 room:Room k X.A
 bl:∀ x,x∈T.bl->X.mg x=Ae
 os:OS X.K X.mg
 mkr:∀ c,c<3->MkR X.prog X.w X.K X.mg X.base CL Z.F k c
 fn:∀ p∈T.fns,∃ f fd ps,HQ X.K X.mg p.1=Aa (.ref f)/\Bc X.K (.ref f)=Ab/\ED X.K fd ps []/\ps.length=p.2.2%1000/\(p.2.2<1000->FnOk X.prog X.w X.K X.mg X.base (CXR X.prog X.w) k f fd ps (spD X.K CL (p.2.2%1000) (Z.fr p.2.1) (Z.F p.2.1)))/\(1000<=p.2.2->HotOk X.prog X.w X.K X.mg X.base k f fd ps (spH X.K CL (p.2.2%1000) (Z.fr p.2.1) (Z.F p.2.1)))
 own:DQ (model X.prog X.w) X.A X.env X.xe
 px:∀ A,Iy (CXR X.prog X.w) X (EKW X.K CL A W)
 rz:LW X CL W
 fz:KP X CL W
 xt:XT Z.up Z.xn CL T.rzs T.exs X.K X.mg
 gl:∀ p∈T.gls,Nr X.K X.mg CL p.1 (Z.G p.2)
 ex:T.tp=Ab->X.ex=[]
theorem Tp:∀ A,Iy (CXR X.prog X.w) X (EKW X.K CL A W0):=λA pI Y H s ev s' I h=>by
 obtain⟨e,T,cls,dx,H',_,_,_,_,_,_,_,_,_,_,x,_,w⟩:=h;exact w.elim
theorem U_4:LW X CL W0:=λ_ _ _ _ _ _ _ _ _ _ _ _ _ _ z=>z.elim
def Rf{α:Type}(g f:Rho->R α):Prop:=∀ U,g U=.bad\/g U=f U
section
variable{X:Cx}{CL:ClA}{W:XW}{a:An}{f g:Rho->R D}
theorem SE.ref(h:SE X CL W a f)(r:Rf g f):SE X CL W a g:=λA=>PE.weak (h A) λY H Q ⟨hA,U,q,p⟩=>⟨hA,U,q,by
 rcases r U with e|e
 .rw[e]at p;exact p.elim
 .rw[e]at p;exact p⟩
theorem SB.ref{f g:Rho->R Am}(h:SB X CL W a f)(r:Rf g f):SB X CL W a g:=λA=>PT.weak (h A) λY H Q ⟨hA,U,q,p⟩=>⟨hA,U,q,by
 rcases r U with e|e
 .rw[e]at p;exact p.elim
 .rw[e]at p;exact p⟩
theorem SW.ref{f g:Rho->R Am}(h:SW X CL W a f)(r:Rf g f):SW X CL W a g:=λA=>PW.weak (h A) λY H Q ⟨hA,U,q,p⟩=>⟨hA,U,q,by
 rcases r U with e|e
 .rw[e]at p;exact p.elim
 .rw[e]at p;exact p⟩
theorem SC.ref{fr:Am}(h:SC X CL W fr a f)(r:Rf g f):SC X CL W fr a g:=λA=>PE.weak (h A) λY H Q ⟨hA,U,q,p⟩=>⟨hA,U,q,by
 rcases r U with e|e
 .rw[e]at p;exact p.elim
 .rw[e]at p;exact p⟩
theorem SS.ref{st:AI}{f g:Rho->O}(h:SS X CL W st f)(r:∀ U,g U=.bad\/g U=f U):SS X CL W st g:=λFz B=>PS.weak (h Fz B) λD Y H ⟨U,x,p⟩=>⟨U,x,by
 rcases r U with e|e
 .rw[e]at p;exact p.elim
 .rw[e]at p;exact p⟩
end
theorem K9:∀{l:Ac Ag},Kq l=Ab->l.Nodup
 |[],_=>List.nodup_nil
 |x::xs,h=>by
  unfold Kq at h;simp only[Al,Bm,VP,decide_eq_false_iff_not]at h;exact List.nodup_cons.mpr ⟨h.1,K9 h.2⟩
section
variable{T:Tc}{X:Cx}{Z:Gam}{CL:ClA}{k:Af}{W:XW}
theorem RW(h:P7 T x=Ab):Vis T.sc x:=by
 unfold P7 at h;split at h
 .exact .inl (by assumption)
 .exact .inr (.inl (by assumption))
 .exact .inr (.inr (by assumption))
 .cases h
theorem Kn(h:II T x=Ab):Loc T.sc x:=by
 unfold II at h;split at h
 .exact .inl (by assumption)
 .exact .inr (by assumption)
 .cases h
theorem Mw(h:Fn x=Ab):GB.lookup x=Ae:=by
 unfold Fn at h;exact DH.mp (Bo h).2
theorem FV(h:Fn x=Ab):(x==("__debug__" : Ag))=Ad/\(x==("__classdict__" : Ag))=Ad/\x≠"__name__" := by
 unfold Fn at h;replace h:=(Bo h).1;simp only[Al,Bm]at h;exact⟨h.1.1,h.1.2,λe=>by subst e;exact absurd h.2 (by simp)⟩
theorem Jm{i:Af}(v:VX Z CL k W T X)(h:isV T x i=Ab):PE X (.Name x pos) (EQ i):=by
 unfold isV at h;simp only[Al,AG]at h;obtain⟨h2,h3,_⟩:=FV h.2;exact Ko (by rw[v.N];exact h.1.1) (by rw[v.sc];exact RW h.1.2) h2 h3
theorem GQ(v:VX Z CL k W T X)(h:isB T x=Ab):Gl X x/\X.mg x=Ae/\x≠"__name__"/\(x==("__debug__" : Ag))=Ad:=by
 unfold isB glB at h;simp only[Al,AG,VP,AD]at h;obtain⟨h2,h3,h4⟩:=FV h.2;exact⟨by show X.env.scope.names.lookup x=_;rw[v.sc];exact h.1.2,v.bl x h.1.1,h4,h2⟩
theorem C3{x:An}(h:Dr x=Ab):As (x::xs) env=(Ad,eval x env)::As xs env:=by
 cases x<;>first|rfl|cases h
theorem Z_5{y:An}(h:Sf y=Ab):OP y:=by
 intro o i;cases y<;>first|rfl|cases h
theorem Lz{e:An}(h:KD e=Ab):∀ x,BW e env x=pure x:=by
 intro x;cases e<;>first|rfl|cases h
theorem JL{e:An}{t:Ao An}{l:Af}(h:Iw e=Ab):CK e t l env=pure Ad:=by
 cases e<;>first|rfl|cases h
theorem cV{e:An}(h:Mm e=Ab):∀ whole,H9 e env whole=(do let v <-whole;standAt e.pos;holding [v] (truthy v)):=by
 intro whole;cases e<;>first|rfl|cases h
theorem YU(v:VX Z CL k W T X)(scope:BG):relabel scope X.env=Pf T.sc scope:=by
 unfold relabel Pf;have:∀ n,X.env.kindOf n=T.sc.names.lookup n:=λn=>by show X.env.scope.names.lookup n=_;rw[v.sc]
 simp only[this,v.sc]
theorem Pd(v:VX Z CL k W T X)(h:LY T scope ts N'=Ab):BlockOk X scope N' ts/\N'.Nodup/\scope.kind=.function:=by
 unfold LY at h;simp only[Al,AG,Bl,B2,G1,KU]at h;obtain⟨⟨⟨⟨⟨h1,h2⟩,h4⟩,h5⟩,h6⟩,h7⟩:=h;have at7:∀ i x,N'[i]?=Aa x->i∈ts\/((scope.names.lookup x≠Aa .local/\scope.names.lookup x≠Aa .cell)/\(scope.names.lookup x≠Aa .free\/T.N[i]?=Aa x)):=λi x e=>by
  have hi:=(A1.mp e).1;have:=h7 i (Dl.mpr hi);rcases this with z|z
  .exact .inl (by simpa using z)
  .rw[e]at z;simp only[Al,G1,KU,B2,AG]at z;exact .inr z
 refine⟨⟨h1,h2,λy hy hl=>by rw[h2 y hy,hl],λy hy hf=>?_,by rw[v.N];exact h5,λi x e hf hn=>?_,λi x e hl=>?_⟩,K9 h6,h1⟩
 .rw[v.sc];rcases h4 y hy with (z|z)|z
  .exact absurd hf z
  .exact .inl z
  .exact .inr z
 .rw[v.N];rcases at7 i x e with z|⟨_,z⟩
  .exact absurd z hn
  .exact z.resolve_left λq=>q hf
 .rcases at7 i x e with z|⟨z,_⟩
  .exact z
  .exact hl.elim (λq=>absurd q z.1) (λq=>absurd q z.2)
theorem VX.blk{xs:Ac Ag}{cl:Ac (Ag×Ak)}{s:Ap}{fp:Ac Ak}(v:VX Z CL k W T X)(h:LY T scope ts (JX ts xs T.N)=Ab):VX Z CL k W0 (T.blk scope ts xs) (cxC X scope cl C (JX ts xs T.N) s H fp):=by
 obtain⟨_,h2,h3⟩:=Pd v h;exact⟨YU v scope,h3,rfl,h2,v.calm,v.room,v.bl,v.os,v.mkr,v.fn,PassesOwn.never,Tp,U_4,Vx,v.xt,v.gl,λz=>nomatch z⟩
theorem eP{t:Af}(v:VX Z CL k W T X)(hfn:scope.names.lookup x=Aa .cell->X.fn x=Ab)(h:tgO T scope t x=Ab):PG X (.Name x pos) (FG t):=by
 unfold tgO at h;simp only[Al,B2,AG]at h;rcases h with ⟨h1,h2|h2⟩
 .exact Lu (by rw[v.N];exact v.nd) (by rw[v.N];exact h1) (by rw[v.sc];exact .inl h2) (.inr (by rw[v.sc];exact h2))
 .exact Lu (by rw[v.N];exact v.nd) (by rw[v.N];exact h1) (by rw[v.sc];exact .inr h2.1) (.inl (hfn h2.2))
theorem NI{y:An}{r:Ac An}{zs:Ac Ag}(h:FD (y::r)=Aa zs):∃ x p ws,y=.Name x p/\FD r=Aa ws/\zs=x::ws:=by
 cases y with
 |Name x p=>
  have h':(FD r).map (x :: ·)=Aa zs:=h;cases e:FD r with
  |none=>rw[e]at h';cases h'
  |some ws=>rw[e]at h';cases h';exact⟨x,p,ws,rfl,rfl,rfl⟩
 |_=>cases h
theorem N5(x:Ag)(p:AC)(r:Ac An)(env:Cb):DK (.Name x p::r) env=(Ad,assign (.Name x p) env)::DK r env:=rfl
theorem Qo:∀(ys:Ac An)(zs:Ac Ag),FD ys=Aa zs->(DK ys env).length=ys.length/\(DK ys env).findIdx? (·.1)=Ae/\(DK ys env).map (·.2)=ys.map λy=>assign y env:=by
 intro ys
 induction ys with
 |nil=>intro _ _;exact⟨rfl,rfl,rfl⟩
 |cons y r ih=>
  intro zs h;obtain⟨x,p,ws,rfl,e,rfl⟩:=NI h;obtain⟨h1,h2,h3⟩:=ih ws e;rw[N5];refine⟨?_,?_,?_⟩
  .rw[A2,A2,h1]
  .rw[GF,h2];simp
  .rw[AZ,AZ,h3]
theorem cU(v:VX Z CL k W T X):∀(ys:Ac An)(ts:Ac Af)(zs:Ac Ag),FD ys=Aa zs->tgB T ts zs=Ab->PGs X ys (ts.foldr (λt u=>IE (FG t) u) IH)/\ts.length=ys.length:=by
 intro ys
 induction ys with
 |nil=>
  intro ts zs e h;cases e;cases ts with
  |nil=>exact⟨Sz,rfl⟩
  |cons t ts=>cases h
 |cons y r ih=>
  intro ts zs e h;obtain⟨x,p,ws,rfl,e2,rfl⟩:=NI e;cases ts with
  |nil=>cases h
  |cons t ts=>
   have h':(T.N[t]? == Aa x&&T.sc.names.lookup x==Aa .local&&tgB T ts ws)=Ab:=h;simp only[Al,AG]at h';obtain⟨h1,h2⟩:=ih ts ws e2 h'.2;exact⟨Ri (Lu (by rw[v.N];exact v.nd) (by rw[v.N];exact h'.1.1) (by rw[v.sc];exact .inl h'.1.2) (.inr (by rw[v.sc];exact h'.1.2))) h1 (by rw[N5];rfl),congrArg (· + 1) h2⟩
theorem eS(v:VX Z CL k W T X)(hn:(FD ys).isSome=Ab)(h:tgB T ts (tgN ys)=Ab):PG X (.Tuple ys kk pos) (LP X.K ts.length (ts.foldr (λt u=>IE (FG t) u) IH)):=by
 cases e:FD ys with
 |none=>rw[e]at hn;cases hn
 |some zs=>
  have e2:tgN ys=zs:=by unfold tgN;rw[e];rfl
  rw[e2]at h;obtain⟨h1,h2⟩:=cU v ys ts zs e h;obtain⟨h3,h4,_⟩:=Qo (env:=X.env) ys zs e;exact Tl v.calm h1 (by rw[h3,h2]) h4
end
noncomputable def Es.len:Es->Af
 |.nil=>0
 |.cons _ es=>es.len+1
theorem Iu(Z:Gam)(U:Rho):∀(es:Es)(ds:Ac D),evA Z U es=.ok ds->ds.length=es.len
 |.nil,ds,h=>by cases h;rfl
 |.cons e es,ds,h=>by
  obtain⟨x,h1,h2⟩:=JG (Ry Z U e es ▸ h);obtain⟨xs,h3,h4⟩:=JG h2;cases h4;exact congrArg (· + 1) (Iu Z U es xs h3)
theorem Lp(Z:Gam)(U:Rho):∀(es:Es)(ds:Ac D),evB Z U es=.ok ds->ds.length=es.len
 |.nil,ds,h=>by cases h;rfl
 |.cons e es,ds,h=>by
  obtain⟨x,h1,h2⟩:=JG (Oe Z U e es ▸ h);obtain⟨xs,h3,h4⟩:=JG h2;cases h4;exact congrArg (· + 1) (Lp Z U es xs h3)
theorem TD(Z:Gam)(U:Rho)(e:E)(h:shE U e=Ab):top U e (evE Z U e)=evE Z U e:=by
 cases e with
 |var i=>
  show DO U i=FH U i;have h':shV U i=Ab:=h;unfold shV at h';unfold DO FH;cases q:U[i]? with
  |none=>rfl
  |some x=>
   cases x with
   |none=>rfl
   |some y=>
    obtain⟨d,o⟩:=y;cases o with
    |true=>rw[q]at h';cases h'
    |false=>rfl
 |_=>rfl
theorem Lv(Z:Gam)(U:Rho):∀(es:Es),Hr U es=Ab->evB Z U es=evA Z U es
 |.nil,_=>rfl
 |.cons e es,h=>by
  simp only[Zz,Al]at h;rw[Ry,Oe,TD Z U e h.1,Lv Z U es h.2]
theorem OW(Z:Gam)(c:E):Rf (λU=>evE Z U c) (λU=>top U c (evE Z U c)):=λU=>by
 by_cases h:shE U c=Ab
 .exact .inr (TD Z U c h).symm
 .cases c with
  |var i=>
   refine .inl ?_;show FH U i=.bad;have h':¬ shV U i=Ab:=h;unfold shV at h';unfold FH;cases q:U[i]? with
   |none=>rfl
   |some x=>
    cases x with
    |none=>rfl
    |some y=>
     obtain⟨d,o⟩:=y;cases o with
     |true=>rfl
     |false=>rw[q]at h';exact absurd rfl h'
  |_=>exact absurd rfl h
def Pcs(X:Cx)(CL:ClA)(W:XW)(e:An)(f:Rho->R D):Prop:=∃ tg iter elt ifs scope pos N' ts fi fc fe as g,e=.ListComp elt [⟨tg,iter,ifs,0⟩] scope pos/\BlockOk X scope N' ts/\SI X CL W tg iter fi/\GG X.K CL ts as g /\
 (∀ cl C s H fp,PG (cxC X scope cl C N' s H fp) tg g)/\(∀ cl C s H fp,STs (cxC X scope cl C N' s H fp) CL ifs fc)/\(∀ cl C s H fp,SE (cxC X scope cl C N' s H fp) CL W0 elt fe)/\(∀ x,BW iter X.env x=pure x) /\
 ∀ U,f U=(fi U).bind λxs=>(noX (Bq (λx=>(as x U).bind fc) (λx=>(as x U).bind fe) xs)).bind λys=>.ok (.lst ys)
theorem Pcs.sc{e:An}{f:Rho->R D}(hc:X.calm=Ab)(h:Pcs X CL W e f):SC X CL W Ab e f:=by
 obtain⟨tg,iter,elt,ifs,scope,pos,N',ts,fi,fc,fe,as,g,rfl,B,hi,hGG,hg,ht,he,hs,ef⟩:=h;exact SC.congr (dS hc B hi hGG hg ht he hs) ef
structure OkE (Z:Gam) (CL:ClA) (W:XW) (X:Cx) (e:An) (c:E):Prop where
 se:SE X CL W e (λU=>evE Z U c)
 st:ST X CL W e (λU=>top U c (evE Z U c))
 nw:Dj Z c=Ab->SC X CL W Ab e (λU=>evE Z U c)
 cp:Iw e=Ad->Pcs X CL W e (λU=>evE Z U c)
section
variable{Z:Gam}{CL:ClA}{W:XW}{X:Cx}{e:An}{c:E}
theorem CS(h:SE X CL W e (λU=>evE Z U c))(ht:∀ U r,top U c r=r)(hn:Dj Z c=Ad)(hc:Iw e=Ab):OkE Z CL W X e c:=
 ⟨h,by simp only[ht];exact h.st,λz=>absurd z (by rw[hn];decide),λz=>absurd z (by rw[hc];decide)⟩
theorem OZ(h:SC X CL W Ab e (λU=>evE Z U c))(ht:∀ U r,top U c r=r)(hc:Iw e=Ab):OkE Z CL W X e c:=
 ⟨h.se,by simp only[ht];exact h.se.st,λ_=>h,λz=>absurd z (by rw[hc];decide)⟩
theorem rC(hc:X.calm=Ab)(h:Pcs X CL W e (λU=>evE Z U c))(ht:∀ U r,top U c r=r):OkE Z CL W X e c:=
 ⟨(h.sc hc).se,by simp only[ht];exact(h.sc hc).se.st,λ_=>h.sc hc,λ_=>h⟩
end
theorem sR{k:Ki}(h:Pw k=Aa x):∃ T,tyK k=Aa T/\CP x=Aa (.type T):=by
 cases k<;>simp only[Pw]at h<;>cases h
 .exact⟨_,rfl,PyProof.Rows.boot_int⟩
 .exact⟨_,rfl,PyProof.Rows.boot_bool⟩
 .exact⟨_,rfl,Wh⟩
 .exact⟨_,rfl,Wg⟩
 .exact⟨_,rfl,Wi⟩
structure Snd (Z:Gam) (CL:ClA) (k:Af) (n:Af):Prop where
 e:∀(W:XW)(T:Tc)(X:Cx)(x:An)(c:E),VX Z CL k W T X->A6 n T x c=Ab->OkE Z CL W X x c
 b:∀(W:XW)(T:Tc)(X:Cx)(x:An)(c:E),VX Z CL k W T X->Hv n T x c=Ab->SB X CL W x (λU=>(top U c (evE Z U c)).bind BS)
 bs:∀(W:XW)(T:Tc)(X:Cx)(xs:Ac An)(es:Es)(pos:AC),VX Z CL k W T X->chkBs n T xs es=Ab->xs≠[]->SW X CL W (.BoolOp .And xs pos) (λU=>(evN Z U es).bind BS)/\SW X CL W (.BoolOp .Or xs pos) (λU=>(evO Z U es).bind BS)
 es:∀(W:XW)(T:Tc)(X:Cx)(xs:Ac An)(es:Es),VX Z CL k W T X->chkEs n T xs es=Ab->SA X CL W xs (λU=>evA Z U es)/\SAT X CL W xs (λU=>evB Z U es)/\xs.length=es.len/\(∀ pos,xs≠[]->SE X CL W (.BoolOp .And xs pos) (λU=>evN Z U es)/\SE X CL W (.BoolOp .Or xs pos) (λU=>evO Z U es))/\(∀ pos,(Bv pos (As xs X.env)).any (·.1)=Ad)
 o:∀(W:XW)(T:Tc)(X:Cx)(x:Ao An)(c:E),VX Z CL k W T X->chkO n T x c=Ab->SO X CL W x (λU=>(top U c (evE Z U c)).bind (slE c))
 t:∀(T:Tc)(X:Cx)(xs:Ac An)(c:E),VX Z CL k W0 T X->chkT n T xs c=Ab->STs X CL xs (λU=>(top U c (evE Z U c)).bind BS)
 i:∀(W:XW)(T:Tc)(X:Cx)(tu:Am)(tg x:An)(i:I),VX Z CL k W T X->UW tu tg=Ab->chkI n T tu x i=Ab->SI X CL W tg x (λU=>evI Z U i)
section
variable{Z:Gam}{CL:ClA}{W:XW}{k n:Af}{T:Tc}{X:Cx}
theorem Z_2:Snd Z CL k 0:=⟨λ_ _ _ _ _ _ h=>noF h,λ_ _ _ _ _ _ h=>noF h,λ_ _ _ _ _ _ _ h=>noF h,λ_ _ _ _ _ _ h=>noF h,λ_ _ _ _ _ _ h=>noF h,λ_ _ _ _ _ h=>noF h,λ_ _ _ _ _ _ _ _ _ h=>noF h⟩
theorem QA{x:An}(h:Dr x=Ab)(hx:(Bv pos (As xs env)).any (·.1)=Ad):(Bv pos (As (x::xs) env)).any (·.1)=Ad:=by
 rw[C3 h];show (Ad||(Bv pos (As xs env)).any (·.1))=Ad;rw[hx];rfl
theorem jO(S:Snd Z CL k n)(W:XW)(T:Tc)(X:Cx)(xs:Ac An)(es:Es)(v:VX Z CL k W T X)(h:chkEs (n+1) T xs es=Ab):SA X CL W xs (λU=>evA Z U es)/\SAT X CL W xs (λU=>evB Z U es)/\xs.length=es.len/\(∀ pos,xs≠[]->SE X CL W (.BoolOp .And xs pos) (λU=>evN Z U es)/\SE X CL W (.BoolOp .Or xs pos) (λU=>evO Z U es))/\(∀ pos,(Bv pos (As xs X.env)).any (·.1)=Ad):=by
 cases xs with
 |nil=>
  cases es with
  |nil=>exact⟨Th,cL,rfl,λ_ z=>absurd rfl z,λ_=>rfl⟩
  |cons=>exact noF h
 |cons x xs=>
  cases es with
  |nil=>exact noF h
  |cons e es=>
   replace h:(Dr x&&A6 n T x e&&chkEs n T xs es)=Ab:=h;simp only[Al]at h;obtain⟨⟨h0,h1⟩,h2⟩:=h;have he:=S.e W T X x e v h1;obtain⟨a1,a2,a3,a4,a5⟩:=S.es W T X xs es v h2;refine⟨Sw he.se a1 (C3 h0),ZJ he.st a2 (C3 h0),congrArg (· + 1) a3,λpos _=>?_,λpos=>QA h0 (a5 pos)⟩
   cases xs with
   |nil=>
    cases es with
    |nil=>exact⟨O1 he.se,O1 he.se⟩
    |cons=>cases a3
   |cons y ys=>
    cases es with
    |nil=>cases a3
    |cons e' es'=>
     obtain⟨b1,b2⟩:=a4 pos (by simp)
     exact⟨Te he.se b1,qA he.se b2⟩
theorem oU(S:Snd Z CL k n)(W:XW)(T:Tc)(X:Cx)(x:Ao An)(c:E)(v:VX Z CL k W T X)(h:chkO (n+1) T x c=Ab):SO X CL W x (λU=>(top U c (evE Z U c)).bind (slE c)):=by
 cases x with
 |none=>
  obtain rfl:=aX h;exact dJ
 |some x=>
  replace h:(!(MW c)&&A6 n T x c)=Ab:=h;rw[Al]at h;have q:=dI (S.e W T X x c v h.2).st;have e:slE c=λd=>(Fl d).bind λi=>.ok (Aa i):=by
   funext d
   cases c<;>first|rfl|exact absurd (show Ad=Ab from h.1) Ay
  rw[e];exact q
theorem oR(S:Snd Z CL k n)(T:Tc)(X:Cx)(xs:Ac An)(c:E)(v:VX Z CL k W0 T X)(h:chkT (n+1) T xs c=Ab):STs X CL xs (λU=>(top U c (evE Z U c)).bind BS):=by
 cases xs with
 |nil=>
  replace h:=fE h;obtain⟨b,rfl,h⟩:=h;subst h;exact R6
 |cons x xs=>
  replace h:(xs.isEmpty&&Hv n T x c)=Ab:=h;rw[Al]at h;obtain rfl:=FC h.1;exact cY (S.b W0 T X x c v h.2)
theorem oV(S:Snd Z CL k n)(W:XW)(T:Tc)(X:Cx)(tu:Am)(tg x:An)(i:I)(v:VX Z CL k W T X)(ht':UW tu tg=Ab)(h:chkI (n+1) T tu x i=Ab):SI X CL W tg x (λU=>evI Z U i):=by
 have ht:tu=Ab->qY tg=Ab:=λz=>by
  subst z;cases tg<;>first|rfl|cases ht'
 cases i with
 |e a=>
  exact tO (S.e W T X x a v h).se
 |rng a=>
  replace h:=Io h;obtain⟨g,pp,l,qq,rfl,h⟩:=h;replace h:=E4 h;obtain⟨y,rfl,h⟩:=h;simp only[Al,AG]at h;obtain⟨⟨⟨rfl,h1⟩,h2⟩,h3⟩:=h;obtain⟨g1,g2,_,_⟩:=GQ v h1;exact iY (S.e W T X _ a v h3).st g1 g2 (C3 h2)
 |rng2 a b=>
  replace h:=Io h;obtain⟨g,pp,l,qq,rfl,h⟩:=h;replace h:=Im h;obtain⟨y,z,rfl,h⟩:=h;simp only[Al,AG]at h;obtain⟨⟨⟨⟨⟨rfl,h1⟩,h2⟩,h3⟩,h4⟩,h5⟩:=h;obtain⟨g1,g2,_,_⟩:=GQ v h1;exact dM (S.e W T X _ a v h4).st (S.e W T X _ b v h5).st g1 g2 (by rw[C3 h2,C3 h3];rfl) (by rw[C3 h3];rfl)
 |zip a b=>exact absurd (show Ad=Ab from h) Ay
 |zip3 a b c=>exact absurd (show Ad=Ab from h) Ay
 |enm a=>
  replace h:=Io h;obtain⟨g,pp,l,qq,rfl,h⟩:=h;replace h:=E4 h;obtain⟨y,rfl,h⟩:=h;simp only[Al,AG]at h;obtain⟨⟨⟨⟨h0,rfl⟩,h1⟩,h2⟩,h3⟩:=h;obtain⟨g1,g2,_,_⟩:=GQ v h1;have hg:=ht h0;cases tg with
  |Tuple es m tpos=>exact dN (S.e W T X _ a v h3).se g1 g2 (C3 h2)
  |_=>cases hg
theorem Kg{c:Prop}[F2 c]{b:Am}:(if c then R.ok (D.bl b) else .bad)=.bad\/∃ b',(if c then R.ok (D.bl b) else .bad)=.ok (.bl b'):=by
 by_cases h:c
 .rw[At h];exact .inr ⟨_,rfl⟩
 .rw[AA h];exact .inl rfl
theorem RA(op:CV)(d d':D):Bj op d d'=.bad\/∃ b,Bj op d d'=.ok (.bl b):=by
 cases op with
 |Eq=>exact Kg
 |NotEq=>exact Kg
 |In=>
  cases d' with
  |lst ys=>exact Kg
  |tup ys=>exact Kg
  |dic kvs=>
   show (match Ju d with|some k=>R.ok (D.bl (kvs.any λp=>p.1==k))|none=>.bad)=.bad\/∃ b,(match Ju d with|some k=>R.ok (D.bl (kvs.any λp=>p.1==k))|none=>.bad)=.ok (.bl b)
   cases Ju d with
   |some k=>exact .inr ⟨_,rfl⟩
   |none=>exact .inl rfl
  |_=>exact .inl rfl
 |NotIn=>
  cases d' with
  |lst ys=>exact Kg
  |tup ys=>exact Kg
  |_=>exact .inl rfl
 |Is=>
  cases d' with
  |non=>cases d<;>first|exact .inr ⟨_,rfl⟩|exact .inl rfl
  |_=>cases d<;>first|exact .inl rfl|exact .inr ⟨_,rfl⟩
 |IsNot=>
  cases d' with
  |non=>cases d<;>first|exact .inr ⟨_,rfl⟩|exact .inl rfl
  |_=>cases d<;>first|exact .inl rfl|exact .inr ⟨_,rfl⟩
 |_=>
  cases d with
  |int i=>cases d'<;>first|exact .inr ⟨_,rfl⟩|exact .inl rfl
  |_=>exact .inl rfl
theorem SV(op:CV)(d d':D):(Bj op d d').bind BS=.bad\/(Bj op d d').bind BS=(Bj op d d').bind Dt:=by
 rcases RA op d d' with h|⟨b,h⟩
 .rw[h];exact .inl rfl
 .rw[h];exact .inr rfl
theorem oM(e e':E)(es:Es):Rf (λU=>(evN Z U (.cons e (.cons e' es))).bind BS) (λU=>((top U e (evE Z U e)).bind BS).bind λc=>if c=Ab then (evN Z U (.cons e' es)).bind BS else .ok Ad):=λU=>by
 have e0:evN Z U (.cons e (.cons e' es))=(evE Z U e).bind λx=>(Dt x).bind λc=>if c=Ab then evN Z U (.cons e' es) else .ok (.bl Ad):=rfl
 dsimp only;rw[e0];rcases OW Z e U with z|z<;>dsimp only at z
 .rw[z];exact .inl rfl
 .rw[<-z];cases evE Z U e with
  |bad=>exact .inl rfl
  |exn x=>exact .inr rfl
  |ok d=>
   cases d with
   |bl b=>cases b<;>exact .inr rfl
   |_=>exact .inl rfl
theorem oK(e e':E)(es:Es):Rf (λU=>(evO Z U (.cons e (.cons e' es))).bind BS) (λU=>((top U e (evE Z U e)).bind BS).bind λc=>if c=Ab then .ok Ab else (evO Z U (.cons e' es)).bind BS):=λU=>by
 have e0:evO Z U (.cons e (.cons e' es))=(evE Z U e).bind λx=>(Dt x).bind λc=>if c=Ab then .ok (.bl Ab) else evO Z U (.cons e' es):=rfl
 dsimp only;rw[e0];rcases OW Z e U with z|z<;>dsimp only at z
 .rw[z];exact .inl rfl
 .rw[<-z];cases evE Z U e with
  |bad=>exact .inl rfl
  |exn x=>exact .inr rfl
  |ok d=>
   cases d with
   |bl b=>cases b<;>exact .inr rfl
   |_=>exact .inl rfl
theorem Rf.tru(e:E):Rf (λU=>(evE Z U e).bind BS) (λU=>(top U e (evE Z U e)).bind BS):=λU=>by
 rcases OW Z e U with z|z<;>dsimp only at z ⊢
 .rw[z];exact .inl rfl
 .rw[<-z];exact .inr rfl
theorem jP(S:Snd Z CL k n)(W:XW)(T:Tc)(X:Cx)(xs:Ac An)(es:Es)(pos:AC)(v:VX Z CL k W T X)(h:chkBs (n+1) T xs es=Ab)(hne:xs≠[]):SW X CL W (.BoolOp .And xs pos) (λU=>(evN Z U es).bind BS)/\SW X CL W (.BoolOp .Or xs pos) (λU=>(evO Z U es).bind BS):=by
 cases xs with
 |nil=>exact absurd rfl hne
 |cons x xs=>
  cases es with
  |nil=>exact noF h
  |cons e es=>
   replace h:(Hv n T x e&&chkBs n T xs es)=Ab:=h;simp only[Al]at h;obtain⟨h1,h2⟩:=h;have he:=S.b W T X x e v h1;cases xs with
   |nil=>
    cases es with
    |nil=>exact⟨SW.ref (cX he) (Rf.tru e),SW.ref (jJ he) (Rf.tru e)⟩
    |cons=>
     cases n with
     |zero=>exact absurd (show Ad=Ab from h2) Ay
     |succ n=>exact absurd (show Ad=Ab from h2) Ay
   |cons y ys=>
    cases es with
    |nil=>
     cases n with
     |zero=>exact absurd (show Ad=Ab from h2) Ay
     |succ n=>exact absurd (show Ad=Ab from h2) Ay
    |cons e' es'=>
     obtain⟨b1,b2⟩:=S.bs W T X (y::ys) (.cons e' es') pos v h2 (by simp)
     exact⟨SW.ref (jK he b1) (oM e e' es'),SW.ref (pL he b2) (oK e e' es')⟩
theorem eO(S:Snd Z CL k n){x:An}{ops:Ac CV}{b:BI}(v:VX Z CL k W T X)(h:PX T (A6 n) x ops ys b as=Ab):SB X CL W (.Compare x ops ys pos) (λU=>(top U (.bi b as) (evE Z U (.bi b as))).bind BS):=by
 exact absurd (show Ad=Ab from h) Ay
theorem oX(S:Snd Z CL k n)(W:XW)(T:Tc)(X:Cx)(x:An)(c:E)(v:VX Z CL k W T X)(h:Hv (n+1) T x c=Ab):SB X CL W x (λU=>(top U c (evE Z U c)).bind BS):=by
 have plain:∀ e,Mm e=Ab->A6 n T e c=Ab->SB X CL W e (λU=>(top U c (evE Z U c)).bind BS):=λe h1 h2=>lS (S.e W T X e c v h2).st (cV h1)
 replace h:((JY x λo x=>decide (o=.Not)&&(Nj c λa=>Hv n T x a))||(Jr x λo xs _=>(decide (o=.And)&&(MU c λes=>chkBs n T xs es && !xs.isEmpty))||(decide (o=.Or)&&(Ni c λes=>chkBs n T xs es && !xs.isEmpty)))||(Kz x λx os ys=>(M3 c λop a b=>D3 os λop'=>D3 ys λy=>decide (op'=op) && !behindInMarks op y&&A6 n T x a&&A6 n T y b)||(M4 c λop1 op2 a b c=>GS os λo1 o2=>GS ys λy z=>decide (o1=op1)&&decide (o2=op2) && !lastMarks [op1,op2] [y,z]&&A6 n T x a&&A6 n T y b&&A6 n T z c)||(M5 c λb as=>PX T (A6 n) x os ys b as))||Mm x&&A6 n T x c)=Ab:=h
 replace h:=(orT h).imp_left λz=>(orT z).imp_left orT
 rcases h with ((h|h)|h)|h
 .replace h:=Mv h;obtain⟨o,y,p,rfl,h⟩:=h;replace h:=Bo h;obtain⟨h0,h⟩:=h;obtain rfl:=AN h0;replace h:=fC h;obtain⟨a,rfl,h⟩:=h
  .skip
   refine SB.ref (lT (S.b W T X _ a v h)) λU=>?_
   show ((top U a (evE Z U a)).bind λx=>(Dt x).bind λb=>.ok (.bl (!b))).bind BS=.bad\/((top U a (evE Z U a)).bind λx=>(Dt x).bind λb=>.ok (.bl (!b))).bind BS=_
   cases top U a (evE Z U a) with
   |bad=>exact .inl rfl
   |exn x=>exact .inr rfl
   |ok d=>cases d<;>first|exact .inr rfl|exact .inl rfl
 .replace h:=Lg h;obtain⟨o,ys,p,rfl,h⟩:=h;replace h:=orT h;rcases h with h|h
  .replace h:=Bo h;obtain⟨h0,h⟩:=h;obtain rfl:=AN h0;replace h:=aN h;obtain⟨es,rfl,h⟩:=h;simp only[Al,Bm,DG]at h;exact(S.bs W T X _ _ _ v h.1 h.2).1.sb
  .replace h:=Bo h;obtain⟨h0,h⟩:=h;obtain rfl:=AN h0;replace h:=fB h;obtain⟨es,rfl,h⟩:=h;simp only[Al,Bm,DG]at h;exact(S.bs W T X _ _ _ v h.1 h.2).2.sb
 .replace h:=Oo h;obtain⟨w,os,ys,p,rfl,h⟩:=h;replace h:=(orT h).imp_left orT;rcases h with (h|h)|h
  .replace h:=bW h;obtain⟨op,a,b,rfl,h⟩:=h;replace h:=E4 h;obtain⟨op',rfl,h⟩:=h;replace h:=E4 h;obtain⟨y,rfl,h⟩:=h
   .simp only[Al,Bm,AD]at h;obtain⟨⟨⟨rfl,h1⟩,h2⟩,h3⟩:=h;refine SB.ref (lU (Kl v.room.units _) (S.e W T X _ a v h2).st (S.e W T X _ b v h3).st h1) λU=>?_
    show ((top U a (evE Z U a)).bind λx=>(top U b (evE Z U b)).bind λy=>Bj op' x y).bind BS=.bad\/((top U a (evE Z U a)).bind λx=>(top U b (evE Z U b)).bind λy=>Bj op' x y).bind BS=_
    cases top U a (evE Z U a) with
    |bad=>exact .inl rfl
    |exn x=>exact .inr rfl
    |ok d=>
     cases top U b (evE Z U b) with
     |bad=>exact .inl rfl
     |exn x=>exact .inr rfl
     |ok d'=>
      dsimp only[R.bind];exact SV _ d d'
  .replace h:=bX h;obtain⟨op1,op2,a,b,c,rfl,h⟩:=h;replace h:=Im h;obtain⟨o1,o2,rfl,h⟩:=h;replace h:=Im h;obtain⟨y,z,rfl,h⟩:=h
   .simp only[Al,Bm,AD]at h;obtain⟨⟨⟨⟨⟨rfl,rfl⟩,h1⟩,h2⟩,h3⟩,h4⟩:=h;refine SB.ref (ZI v.room.units (S.e W T X _ a v h2).st (S.e W T X _ b v h3).st (S.e W T X _ c v h4).st h1) λU=>?_
    show ((top U a (evE Z U a)).bind λx=>(top U b (evE Z U b)).bind λy=>(Bj o1 x y).bind λz=>(Dt z).bind λk=>if k=Ab then (top U c (evE Z U c)).bind λu=>Bj o2 y u else .ok (.bl Ad)).bind BS=.bad\/((top U a (evE Z U a)).bind λx=>(top U b (evE Z U b)).bind λy=>(Bj o1 x y).bind λz=>(Dt z).bind λk=>if k=Ab then (top U c (evE Z U c)).bind λu=>Bj o2 y u else .ok (.bl Ad)).bind BS=_
    cases top U a (evE Z U a) with
    |bad=>exact .inl rfl
    |exn x=>exact .inr rfl
    |ok d=>
     cases top U b (evE Z U b) with
     |bad=>exact .inl rfl
     |exn x=>exact .inr rfl
     |ok d'=>
      dsimp only[R.bind];cases Bj o1 d d' with
      |bad=>exact .inl rfl
      |exn x=>exact .inr rfl
      |ok d3=>
       cases d3 with
       |bl k=>
        cases k with
        |false=>exact .inr rfl
        |true=>
         dsimp only[R.bind,Dt];rw[At rfl,At rfl];cases top U c (evE Z U c) with
         |bad=>exact .inl rfl
         |exn x=>exact .inr rfl
         |ok d4=>exact SV _ d' d4
       |_=>exact .inl rfl
  .replace h:=bY h;obtain⟨b,as,rfl,h⟩:=h;exact eO S v h
 .exact plain _ (Bo h).1 (Bo h).2
end
section
variable{Z:Gam}{CL:ClA}{W:XW}{k n:Af}{T:Tc}{X:Cx}
theorem sS{b:BI}{x:An}(v:VX Z CL k W T X)(hb:Px b=Aa g)(hg:isB T g=Ab)(hs:SAT X CL W (x::xs) (λU=>evB Z U as))(h0:Dr x=Ab)(hpl:∀ pos,(Bv pos (As xs X.env)).any (·.1)=Ad):OkE Z CL W X (.Call (.Name g p) (x::xs) [] pos) (.bi b as):=by
 obtain⟨g1,g2,g3,g4⟩:=GQ v hg;cases b<;>simp only[Px]at hb<;>cases hb
 .exact CS (MO oG g1 g2 PySem.boot_len hs g3 g4 (C3 h0) hpl) (λ_ _=>rfl) rfl rfl
 .exact CS (MO (oF v.calm) g1 g2 PyProof.Rows.boot_min hs g3 g4 (C3 h0) hpl) (λ_ _=>rfl) rfl rfl
 .exact OZ (jV iU g1 g2 Wg hs g3 g4 (C3 h0) hpl) (λ_ _=>rfl) rfl
 .exact CS (Td cH g1 g2 Wi hs g3 g4 (C3 h0) hpl) (λ_ _=>rfl) rfl rfl
 .exact CS (MO (oJ v.calm) g1 g2 PyProof.Rows.boot_all hs g3 g4 (C3 h0) hpl) (λ_ _=>rfl) rfl rfl
 .exact CS (MO (oH v.calm) g1 g2 PyProof.Rows.boot_any hs g3 g4 (C3 h0) hpl) (λ_ _=>rfl) rfl rfl
 .exact CS (Td oE g1 g2 Wh hs g3 g4 (C3 h0) hpl) (λ_ _=>rfl) rfl rfl
theorem Za{β:Type}[BEq α][LawfulBEq α]{a:α}{b:β}:∀{l:Ac (α×β)},l.lookup a=Aa b->(a,b)∈l:=by
 intro l
 induction l with
 |nil=>intro h;cases h
 |cons p r ih=>
  intro h;obtain⟨x,y⟩:=p;by_cases z:(a==x)=Ab
  .simp only[BU,z]at h;cases h;rw[eq_of_beq z];exact AE
  .have z':(a==x)=Ad:=by simpa using z
   simp only[BU,z']at h;exact Aw _ (ih h)
theorem JN{l:Ac (Ag×Af)}(h:inX l g c=Ab):(g,c)∈l:=by
 unfold inX at h;simp only[DY,Al,AG]at h;obtain⟨p,hp,rfl,rfl⟩:=h;exact hp
theorem Iq{x:An}{es:Es}(h:chkEs n T (x::xs) es=Ab):Dr x=Ab/\∃ e es',es=.cons e es'/\∃ m,n=m+1/\chkEs m T xs es'=Ab:=by
 cases n with
 |zero=>exact noF h
 |succ m=>
  cases es with
  |nil=>exact noF h
  |cons e es=>
   replace h:(Dr x&&A6 m T x e&&chkEs m T xs es)=Ab:=h;simp only[Al]at h;exact⟨h.1.1,e,es,rfl,m,rfl,h.2⟩
theorem Z_9:∀(m:Af)(xs:Ac An)(es:Es),chkEs m T xs es=Ab->xs.length=es.len:=by
 intro m
 induction m with
 |zero=>intro xs es h;exact noF h
 |succ m ih=>
  intro xs es h;cases xs with
  |nil=>
   cases es with
   |nil=>rfl
   |cons e es=>exact noF h
  |cons x xs=>
   cases es with
   |nil=>exact noF h
   |cons e es=>
    have h':(Dr x&&A6 m T x e&&chkEs m T xs es)=Ab:=h;exact congrArg (· + 1) (ih xs es (Bo h').2)
theorem Jg:∀(m:Af)(xs:Ac An)(es:Es),chkEs m T xs es=Ab->∀ pos,(Bv pos (As xs X.env)).any (·.1)=Ad:=by
 intro m
 induction m with
 |zero=>intro xs es h;exact noF h
 |succ m ih=>
  intro xs es h pos;cases xs with
  |nil=>rfl
  |cons x xs=>
   obtain⟨h0,e,es',rfl,m',e1,h1⟩:=Iq h;cases e1;exact QA h0 (ih xs es' h1 pos)
theorem eT(S:Snd Z CL k n){x:An}{b:BI}(v:VX Z CL k W T X)(h:(match No as with|some (s,a)=>IC x λf l ks cp=>ks.isEmpty&&(Hn f λo m ap=>m==("join" : Ag)&&ap.endLine==cp.line&&(GU o λc=>decide (c=.str s)&&decide (b=.sjoin)&&(D3 l λy=>Dr y&&A6 n T y a)))|none=>Ad)=Ab):OkE Z CL W X x (.bi b as):=by
 cases q1:No as with
 |none=>rw[q1]at h;cases h
 |some t=>
  obtain⟨s,a⟩:=t;rw[q1]at h;obtain⟨e,te⟩:=iD q1;subst e;replace h:=Lm h;obtain⟨f,l,ks,cp,rfl,h⟩:=h;replace h:=Bo h;obtain⟨h0,h⟩:=h;obtain rfl:=FC h0;replace h:=JK h;obtain⟨o,m,ap,rfl,h⟩:=h;replace h:=Bo h;obtain⟨h1,h⟩:=h;replace h1:=Bo h1;obtain⟨h1,h2⟩:=h1;obtain rfl:=eq_of_beq h1;replace h:=Jj h;obtain⟨c,u,p,rfl,h⟩:=h;replace h:=Bo h;obtain⟨h3,h⟩:=h;replace h3:=Bo h3;obtain⟨h3,h4⟩:=h3;obtain rfl:=AN h3;obtain rfl:=AN h4;replace h:=E4 h;obtain⟨y,rfl,h⟩:=h;replace h:=Bo h;obtain⟨h5,h6⟩:=h;refine CS (SE.congr (dR (S.e W T X _ a v h6).se rfl (by rw[C3 h5];rfl) h2 (by rw[C3 h5];rfl)) λU=>?_) (λ_ _=>rfl) rfl rfl
  simp only[MG,evB,R.bind_assoc,R.bind_ok,R0,SM,te]
theorem bA{x:An}{b:BI}(v:VX Z CL k W T X)(h:Qk T x b as=Ab):OkE Z CL W X x (.bi b as):=by
 have bd:∀ x d:D,(match x with | .lst xs=>LB xs d|_=>.bad)=biD .index [x,d]:=λx d=>by cases x<;>rfl
 unfold Qk at h;split at h
 .simp only[Al,AG,AD]at h;obtain⟨⟨⟨rfl,rfl⟩,h2⟩,h3⟩:=h;split at h3
  .simp only[Al]at h3;refine CS (SE.congr (RI v.room.units (Iz (Jm v h3.1)) (Iz (Jm v h3.2)) (λU e z=>Lk z) rfl rfl (by rw[h2];exact Do _) rfl) λU=>?_) (λ_ _=>rfl) rfl rfl
   simp only[MG,evB,R.bind_assoc,R.bind_ok,RZ]
   congr 1;funext x;congr 1;funext d
   exact(bd x d).symm
  .cases h3
 .simp only[Al,AG,AD]at h;obtain⟨⟨⟨rfl,rfl⟩,h2⟩,h3⟩:=h;split at h3
  .refine CS (SE.congr (RI v.room.units (Iz (Jm v h3)) TQ.st (λU e z=>nomatch z) rfl rfl (by rw[h2];exact Do _) rfl) λU=>?_) (λ_ _=>rfl) rfl rfl
   simp only[MG,evB,R.bind_assoc,R.bind_ok,RZ]
   congr 1;funext x
   exact(bd x .non).symm
  .cases h3
 .cases h
theorem Z_0(S:Snd Z CL k n){x:An}{b:BI}(v:VX Z CL k W T X)(h:(match Nn as with|some (a,s)=>IC x λf l ks cp=>ks.isEmpty&&(Hn f λo m ap=>m==("split" : Ag)&&ap.endLine==cp.line&&KB o&&A6 n T o a&&(D3 l λy=>GU y λc=>decide (c=.str s)&&decide (b=.ssplit)))|none=>Ad)=Ab):OkE Z CL W X x (.bi b as):=by
 cases q1:Nn as with
 |none=>rw[q1]at h;cases h
 |some t=>
  obtain⟨a,s⟩:=t;rw[q1]at h;have e:=iC q1;subst e;replace h:=Lm h;obtain⟨f,l,ks,cp,rfl,h⟩:=h;replace h:=Bo h;obtain⟨h0,h⟩:=h;obtain rfl:=FC h0;replace h:=JK h;obtain⟨o,m,ap,rfl,h⟩:=h;replace h:=Bo h;obtain⟨h1,h⟩:=h;replace h1:=Bo h1;obtain⟨h1,h6⟩:=h1;replace h1:=Bo h1;obtain⟨h1,h3⟩:=h1;replace h1:=Bo h1;obtain⟨h1,h2⟩:=h1;obtain rfl:=eq_of_beq h1;replace h:=E4 h;obtain⟨y,rfl,h⟩:=h;replace h:=Jj h;obtain⟨c,u,p,rfl,h⟩:=h;replace h:=Bo h;obtain⟨h4,h5⟩:=h;obtain rfl:=AN h4;obtain rfl:=AN h5;refine CS (SE.congr (Z_4 (S.e W T X _ a v h6).st (MK h3) h2).se λU=>?_) (λ_ _=>rfl) rfl rfl
  simp only[MG,evB,R.bind_assoc,R.bind_ok,R0,SM]
theorem lW(S:Snd Z CL k n){x:An}{b:BI}(v:VX Z CL k W T X)(h:(match Qj as with|some a=>(match U_5 x with|some y=>decide (b=.rvs)&&A6 n T y a|none=>Ad)|none=>Ad)=Ab):OkE Z CL W X x (.bi b as):=by
 simp[Qj]at h
theorem jF(S:Snd Z CL k n){x:An}{b:BI}(v:VX Z CL k W T X)(h:(match PB as with|some (a,c)=>(match Vm x with|some (y,z,_)=>decide (b=.tlt) && !behindInMarks .Lt z&&A6 n T y a&&A6 n T z c|none=>Ad)|none=>Ad)=Ab):OkE Z CL W X x (.bi b as):=by
 simp[PB]at h
theorem mI{x:An}{b:BI}(v:VX Z CL k W T X)(h:Vj T x b as=Ab):OkE Z CL W X x (.bi b as):=by
 exact absurd h Ay
theorem jM(S:Snd Z CL k n){x:An}{b:BI}(v:VX Z CL k W T X)(h:(match PC as with|some (a,k)=>(match UY x with|some (y,j)=>decide (b=.stp)&&decide (j=k)&&decide (0<=k)&&A6 n T y a|none=>Ad)|none=>Ad)=Ab):OkE Z CL W X x (.bi b as):=by
 simp[PC]at h
theorem kR(S:Snd Z CL k n){x:An}{b:BI}(v:VX Z CL k W T X)(h:(match PH as with|some (a,c)=>(match Vt x with|some (g,h,y,z)=>decide (b=.list)&&g==("list" : Ag)&&h==("range" : Ag)&&isB T g&&isB T h&&Dr y&&Dr z&&A6 n T y a&&A6 n T z c|none=>Ad)|none=>Ad)=Ab):OkE Z CL W X x (.bi b as):=by
 simp[PH]at h
theorem fM(S:Snd Z CL k n){x:An}{b:BI}(v:VX Z CL k W T X)(h:(match PD as with|some a=>(match Vs x with|some (g,h,y)=>decide (b=.lset)&&g==("len" : Ag)&&h==("set" : Ag)&&isB T g&&isB T h&&Dr y&&A6 n T y a|none=>Ad)|none=>Ad)=Ab):OkE Z CL W X x (.bi b as):=by
 simp[PD]at h
theorem oW(S:Snd Z CL k n)(W:XW)(T:Tc)(X:Cx)(x:An)(c:E)(v:VX Z CL k W T X)(h:A6 (n+1) T x c=Ab):OkE Z CL W X x c:=by
 cases c with
 |non=>
  replace h:=Jj h;obtain⟨c,u,p,rfl,h⟩:=h;obtain rfl:=AN h;exact CS TQ (λ_ _=>rfl) rfl rfl
 |bl b=>
  replace h:=Jj h;obtain⟨c,u,p,rfl,h⟩:=h;obtain rfl:=AN h;exact CS Ui (λ_ _=>rfl) rfl rfl
 |int i=>
  replace h:=Jj h;obtain⟨c,u,p,rfl,h⟩:=h;obtain rfl:=AN h;exact CS lP (λ_ _=>rfl) rfl rfl
 |str i=>
  replace h:=Jj h;obtain⟨c,u,p,rfl,h⟩:=h;obtain rfl:=AN h;exact CS MN (λ_ _=>rfl) rfl rfl
 |var i=>
  replace h:=Fk h;obtain⟨y,p,rfl,h⟩:=h;exact⟨iZ (Jm v h),Iz (Jm v h),λz=>(nomatch z),λz=>(nomatch z)⟩
 |glob g=>exact absurd (show Ad=Ab from h) Ay
 |bin op a b=>
  replace h:=Rr h;obtain⟨y,op',z,p,rfl,h⟩:=h;simp only[Al,AD]at h;obtain⟨⟨rfl,h1⟩,h2⟩:=h;have ha:=(S.e W T X _ a v h1).st;have hb:=(S.e W T X _ b v h2).st;refine⟨O2 (OE _) ha hb,(O2 (OE _) ha hb).st,λz=>?_,λz=>nomatch z⟩
  cases op'<;>first|exact jW ha hb|cases z
 |un op a=>
  replace h:=Mv h;obtain⟨o,y,p,rfl,h⟩:=h;replace h:=Bo h;obtain⟨h0,h⟩:=h;obtain rfl:=AN h0;simp only[Al,AD]at h;obtain⟨rfl,h1⟩:=h;exact CS (jB (S.e W T X _ a v h1).st) (λ_ _=>rfl) rfl rfl
 |no a=>
  replace h:=Mv h;obtain⟨o,y,p,rfl,h⟩:=h;replace h:=Bo h;obtain⟨h0,h⟩:=h;obtain rfl:=AN h0;exact CS (TN (S.e W T X _ a v h).st) (λ_ _=>rfl) rfl rfl
 |and es=>
  replace h:=Lg h;obtain⟨o,ys,p,rfl,h⟩:=h;replace h:=Bo h;obtain⟨h0,h⟩:=h;obtain rfl:=AN h0;simp only[Al,Bm,DG]at h;exact CS ((S.es W T X _ es v h.1).2.2.2.1 _ h.2).1 (λ_ _=>rfl) rfl rfl
 |or es=>
  replace h:=Lg h;obtain⟨o,ys,p,rfl,h⟩:=h;replace h:=Bo h;obtain⟨h0,h⟩:=h;obtain rfl:=AN h0;simp only[Al,Bm,DG]at h;exact CS ((S.es W T X _ es v h.1).2.2.2.1 _ h.2).2 (λ_ _=>rfl) rfl rfl
 |cmp op a b=>
  replace h:=Oo h;obtain⟨y,os,ys,p,rfl,h⟩:=h;replace h:=E4 h;obtain⟨op',rfl,h⟩:=h;replace h:=E4 h;obtain⟨z,rfl,h⟩:=h;simp only[Al,Bm,AD]at h;obtain⟨⟨⟨rfl,h1⟩,h2⟩,h3⟩:=h;exact CS (lR (Kl v.room.units _) (S.e W T X _ a v h2).st (S.e W T X _ b v h3).st h1) (λ_ _=>rfl) rfl rfl
 |cmp2 op1 op2 a b c=>
  replace h:=Oo h;obtain⟨y,os,ys,p,rfl,h⟩:=h;replace h:=Im h;obtain⟨o1,o2,rfl,h⟩:=h;replace h:=Im h;obtain⟨z,w,rfl,h⟩:=h;simp only[Al,Bm,AD]at h;obtain⟨⟨⟨⟨⟨rfl,rfl⟩,h1⟩,h2⟩,h3⟩,h4⟩:=h;exact CS (ZG v.room.units (S.e W T X _ a v h2).st (S.e W T X _ b v h3).st (S.e W T X _ c v h4).st h1) (λ_ _=>rfl) rfl rfl
 |ite c a b=>exact absurd (show Ad=Ab from h) Ay
 |call f as=>
  replace h:=JJ h;obtain⟨g,pp,y,ys,qq,rfl,h⟩:=h;simp only[Al,DY,AG,AD]at h;obtain⟨⟨⟨⟨⟨p,hp,⟨rfl,rfl⟩,hl⟩,h900⟩,h1⟩,h2⟩,h3⟩:=h;obtain⟨fa,fd,ps,m1,m2,m3,m4,m5,_⟩:=v.fn p hp;have hlt:p.2.2<1000:=by omega
  rw[FS hlt]at m4 m5;have m5:=m5 hlt;obtain⟨n2,n3,n4⟩:=FV h2;replace m1:=Mp m1 (Mw h2);obtain⟨a1,a2,a3,a4,a5⟩:=S.es W T X _ as v h3;obtain⟨s0,e,es',rfl,m,rfl,s1⟩:=Iq h3;have q:SC X CL W (Z.fr p.2.1) (.Call (.Name p.1 pp) (y::ys) [] qq) (λU=>evE Z U (.call p.2.1 (.cons e es'))):=dU (sh:=λU=>Hr U (.cons e es')) m5 v.room (by unfold glB at h1;show X.env.scope.names.lookup p.1=_;rw[v.sc];exact eq_of_beq h1) m1 m2 m3 v.px a1 a2 (λU z=>Lv Z U _ z) (λU ds z=>by rw[Lp Z U _ _ z,<-a3,hl];rfl) n2 (C3 s0) (Jg m ys es' s1)
  exact⟨q.se,q.se.st,λz=>by
   have z':Z.fr p.2.1=Ab:=z;rw[z']at q;exact q,λz=>nomatch z⟩
 |bi b as=>
  unfold A6 at h;dsimp only at h;simp only[B2]at h;rcases h with (((((((h|h)|h)|h)|h)|h)|h)|h)|h
  .replace h:=JJ h;obtain⟨g,pp,y,ys,qq,rfl,h⟩:=h;simp only[Al,AG]at h;obtain⟨⟨h1,h2⟩,h3⟩:=h;obtain⟨s0,e,es',rfl,m,rfl,s1⟩:=Iq h3;exact sS v h1 h2 (S.es W T X _ _ v h3).2.1 s0 (Jg m _ es' s1)
  .rcases h with h|h
   .exact mI v h
   .exact bA v h
  .exact kR S v h
  .exact jM S v h
  .exact fM S v h
  .exact jF S v h
  .exact eT S v h
  .exact Z_0 S v h
  .exact lW S v h
 |isi a ks=>
  replace h:=orT h;rcases h with h|h
  .skip
   replace h:=E4 h;obtain⟨k',rfl,h⟩:=h;replace h:=Io h;obtain⟨g,pp,l,qq,rfl,h⟩:=h;replace h:=Im h;obtain⟨y,t,rfl,h⟩:=h;replace h:=Fk h;obtain⟨t,pt,rfl,h⟩:=h;simp only[Al,AG]at h;obtain⟨⟨⟨⟨⟨rfl,h1⟩,h2⟩,h3⟩,h4⟩,h5⟩:=h;obtain⟨g1,g2,_,_⟩:=GQ v h1;obtain⟨b1,b2,b3,b4⟩:=GQ v h3;obtain⟨ty,t1,t2⟩:=sR h2;exact CS (lO t1 g1 g2 b1 b2 t2 b3 b4 (S.e W T X _ a v h5).st (C3 h4)) (λ_ _=>rfl) rfl rfl
  .replace h:=E4 h;obtain⟨k',rfl,h⟩:=h;replace h:=Io h;obtain⟨g,pp,l,qq,rfl,h⟩:=h;replace h:=Im h;obtain⟨y,t,rfl,h⟩:=h;replace h:=Fk h;obtain⟨t,pt,rfl,h⟩:=h;simp only[Al,AG]at h;obtain⟨⟨⟨⟨rfl,h1⟩,h4⟩,h5⟩,h6⟩:=h;obtain⟨g1,g2,_,_⟩:=GQ v h1;cases k' with
   |verr=>
    replace h6:=Bo (a:=t==("ValueError" : Ag)) h6;obtain⟨h6,h7⟩:=h6;obtain rfl:=eq_of_beq h6;obtain⟨b1,b2,_,_⟩:=GQ v h7;exact CS (TR v.xt.xc g1 g2 b1 b2 (S.e W T X _ a v h5).st (C3 h4)) (λ_ _=>rfl) rfl rfl
   |cls c=>
    replace h6:=Bo (a:=inX T.exs t c&&glB T t) h6;obtain⟨h6,h8⟩:=h6;replace h6:=Bo h6;obtain⟨h6,h7⟩:=h6;obtain⟨C,m1,m3,_⟩:=v.xt.ex _ (JN h6);obtain⟨n2,_,_⟩:=FV h8;exact CS (Tb v.xt.xc g1 g2 (by unfold glB at h7;show X.env.scope.names.lookup _=_;rw[v.sc];exact eq_of_beq h7) m1 m3 n2 (S.e W T X _ a v h5).st (C3 h4)) (λ_ _=>rfl) rfl rfl
   |_=>exact noF h6
 |idx a i=>
  replace h:=Rl h;obtain⟨y,z,p,rfl,h⟩:=h;simp only[Al]at h;obtain⟨⟨h1,h2⟩,h3⟩:=h;exact CS (lQ (Z_5 h1) (S.e W T X _ a v h2).st (S.e W T X _ i v h3).st) (λ_ _=>rfl) rfl rfl
 |sl a lo hi=>
  replace h:=Rl h;obtain⟨y,s,p,rfl,h⟩:=h;replace h:=bS h;obtain⟨l,u,st,p',rfl,h⟩:=h;replace h:=Bo h;obtain⟨h0,h⟩:=h;obtain rfl:=DH.mp h0;simp only[Al]at h;obtain⟨⟨h1,h2⟩,h3⟩:=h;refine OZ (SC.congr (qX (S.e W T X _ a v h1).st (S.o W T X _ lo v h2) (S.o W T X _ hi v h3)) λU=>?_) (λ_ _=>rfl) rfl
  show ((top U a (evE Z U a)).bind λx=>(top U lo (evE Z U lo)).bind λl=>(slE lo l).bind λl'=>(top U hi (evE Z U hi)).bind λh=>(slE hi h).bind λh'=>slD x l' h')=_
  simp only[R.bind_assoc]
 |tup es=>
  replace h:=Ke h;obtain⟨ys,cc,p,rfl,h⟩:=h;simp only[Al,AD]at h;have q:=S.es W T X _ es v h.1;exact CS (TM q.1 λU ds z=>by rw[Iu Z U _ _ z,<-q.2.2.1];omega) (λ_ _=>rfl) rfl rfl
 |lst es=>
  replace h:=Ol h;obtain⟨ys,p,rfl,h⟩:=h;simp only[Al,AD]at h;have q:=S.es W T X _ es v h.1;exact OZ (OQ q.1 λU ds z=>by rw[Iu Z U _ _ z,<-q.2.2.1];omega) (λ_ _=>rfl) rfl
 |comp elt t it c=>
  replace h:=Sd (e:=x) (F:=_) (by unfold A6 at h;exact h)
  obtain⟨y,tg,it',ifs,scope,p,rfl,h⟩:=h;replace h:=Fk h;obtain⟨w,pw,rfl,h⟩:=h;simp only[Al]at h;obtain⟨⟨⟨⟨⟨h1,h2⟩,h3⟩,h4⟩,h5⟩,h6⟩:=h;refine rC v.calm ⟨_,_,_,_,_,_,_,_,_,_,_,_,_,rfl,(Pd v h3).1,S.i W T X Ad _ _ it v rfl h1,iM t,λcl C s H fp=>eP (v.blk h3) (λz=>AG.mpr z) h4,λcl C s H fp=>S.t _ _ _ c (v.blk h3) h5,λcl C s H fp=>(S.e W0 _ _ _ elt (v.blk h3) h6).se,Lz h2,λU=>rfl⟩ (λ_ _=>rfl)
 |compT elt ts it c=>exact absurd (show Ad=Ab from h) Ay
 |tupI it=>exact absurd (show Ad=Ab from h) Ay
 |dnew=>exact noF h
 |fld o f=>
  replace h:=JK h;obtain⟨w,g,p,rfl,h⟩:=h;simp only[Al,AG]at h;obtain⟨⟨⟨rfl,h2⟩,h3⟩,h4⟩:=h;exact CS (Su v.xt.xc (λc C z=>v.xt.nf c C z _ h2) (S.e W T X _ o v h4).st (MK h3)) (λ_ _=>rfl) rfl rfl
 |ofl o f=>
  replace h:=JK h;obtain⟨w,g,p,rfl,h⟩:=h;simp only[Al,AG]at h;obtain⟨⟨⟨rfl,h2⟩,h3⟩,h4⟩:=h;refine CS (jA (λc C z=>?_) (S.e W T X _ o v h4).st (MK h3)) (λ_ _=>rfl) rfl rfl
  rw[h2];exact⟨(v.os.oc c C z).cl,(v.os.oc c C z).nt⟩
 |iso a k'=>
  replace h:=Io h;obtain⟨g,pp,l,qq,rfl,h⟩:=h;replace h:=Im h;obtain⟨y,t,rfl,h⟩:=h;replace h:=Fk h;obtain⟨t,pt,rfl,h⟩:=h;unfold ocB at h;simp only[Al,AG,AD]at h;obtain⟨⟨⟨⟨rfl,h1⟩,h4⟩,h5⟩,⟨⟨⟨e6,h7⟩,h8⟩,h9⟩⟩:=h;obtain⟨g1,g2,_,_⟩:=GQ v h1;obtain⟨n2,_,_⟩:=FV h9;obtain⟨C',o1,o2⟩:=v.os.at_ k' h7;exact CS (lN v.os.oc g1 g2 (by unfold glB at h8;show X.env.scope.names.lookup _=_;rw[v.sc];exact eq_of_beq h8) (by rw[e6];exact o2) (λc C z=>v.os.kit c C k' C' z o1) n2 (S.e W T X _ a v h5).st (C3 h4)) (λ_ _=>rfl) rfl rfl
 |meth m ms o=>
  replace h:=Lm h;obtain⟨f,l,ks,cp,rfl,h⟩:=h;replace h:=Bo h;obtain⟨h0,h⟩:=h;obtain rfl:=FC h0;replace h:=Bo h;obtain⟨h0',h⟩:=h;obtain rfl:=FC h0';replace h:=JK h;obtain⟨w,g,ap,rfl,h⟩:=h;replace h:=Bo h;obtain⟨h,h5⟩:=h;replace h:=Bo h;obtain⟨h,h4⟩:=h;replace h:=Bo h;obtain⟨h,h3⟩:=h;replace h:=Bo h;obtain⟨h,h2⟩:=h;replace h:=Bo h;obtain⟨h,h1⟩:=h;obtain rfl:=eq_of_beq h;refine CS (dP v.room v.px (S.e W T X _ o v h4).st (λc id C hl hC=>?_) (MK h3) h2) (λ_ _=>rfl) rfl rfl
  have hm:=Bl.mp h5 _ (Za hl);simp only[DY,Al,AG]at hm;obtain⟨p,hp,⟨e1,e2⟩,e3⟩:=hm;obtain⟨fa,fd,ps,m1,m2,m3,m4,m5,_⟩:=v.fn p hp;have m5:=m5 (by omega)
  rw[e3,e2]at m5;have at1:=aR m1 e1 hC;exact⟨fa,fd,ps,_,(v.os.oc c C hC).cl,⟨at1,v.os.mf c C _ fa hC h1 at1,m2⟩,m3,m5⟩
 |mkob c e=>exact noF h
 |mkn c as=>
  replace h:=JJ h;obtain⟨g,np,x,xs,cpos,rfl,h⟩:=h;unfold ocB at h;simp only[Al,AG,AD]at h;obtain⟨⟨⟨⟨⟨e6,h7⟩,h8⟩,h9⟩,hl⟩,h5⟩:=h;obtain⟨n2,_,_⟩:=FV h9;obtain⟨s0,e,es',rfl,m,rfl,s1⟩:=Iq h5;have q:=S.es W T X _ _ v h5;rcases v.mkr c h7 with hb|⟨C,f,fd,G,k',o1,M,hb,hk,FI,hF,hG⟩
  .refine CS (λA pI s Y H Q I ⟨hA,U,gd,p⟩=>?_) (λ_ _=>rfl) rfl rfl
   have p':AR (λH=>Rep X.K CL H A) W H ((noX (evA Z U (.cons e es'))).bind λxs=>Z.F (900+c) xs) Q:=p
   cases e1:evA Z U (.cons e es') with
   |bad=>rw[e1]at p';exact p'.elim
   |exn y=>rw[e1]at p';exact p'.elim
   |ok ds=>rw[e1]at p';have p2:AR (λH=>Rep X.K CL H A) W H (Z.F (900+c) ds) Q:=p';rw[hb ds]at p2;exact p2.elim
  .obtain⟨C',o2,o3⟩:=v.os.at_ c h7;have:C'=C:=by rw[o1]at o2;exact(Bg o2).symm
   subst this;subst hk;exact CS (dQ M o1 (v.os.oc c _ o1) FI v.room hb v.px hF hG (by unfold glB at h8;show X.env.scope.names.lookup g=_;rw[v.sc];exact eq_of_beq h8) (by rw[e6];exact o3) n2 q.1 (λU ds z=>by rw[Iu Z U _ _ z,<-q.2.2.1,A2,hl]) (C3 s0) (Jg m xs es' s1 _)) (λ_ _=>rfl) rfl rfl
 |mkx c as=>
  replace h:=Bo h;obtain⟨h0,h⟩:=h;replace h:=JJ h;obtain⟨g,np,x,xs,cpos,rfl,h⟩:=h;simp only[Al,AD]at h;obtain⟨⟨⟨⟨h1,h2⟩,h3⟩,h4⟩,h5⟩:=h;obtain⟨C,m1,m2⟩:=v.xt.rz _ (JN h1);obtain⟨n2,_,_⟩:=FV h3;obtain⟨s0,e,es',rfl,m,rfl,s1⟩:=Iq h5;have q:=S.es W T X _ _ v h5;exact CS (qB (v.ex h0) v.room (by unfold glB at h2;show X.env.scope.names.lookup g=_;rw[v.sc];exact eq_of_beq h2) m2 n2 m1 q.1 (λds=>v.xt.made c C ds m1) (C3 s0) (Jg m xs es' s1 _) (λU ds z=>by rw[Iu Z U _ _ z,<-q.2.2.1,A2];omega)) (λ_ _=>rfl) rfl rfl
theorem snd:∀ n,Snd Z CL k n
 |0=>Z_2
 |n+1=>⟨oW (snd n),oX (snd n),jP (snd n),jO (snd n),oU (snd n),oR (snd n),oV (snd n)⟩
end
section
variable{Z:Gam}{CL:ClA}{W:XW}{k n:Af}{T:Tc}{X:Cx}
theorem eQ{t:Af}(v:VX Z CL k W T X)(hf:∀ x,X.fn x=Ab)(h:tgC T [t] [x]=Ab):PG X (.Name x pos) (FG t):=by
 unfold tgC at h;simp only[Al,AG]at h;exact Lu (by rw[v.N];exact v.nd) (by rw[v.N];exact h.1.1) (by rw[v.sc];exact Kn h.1.2) (.inl (hf x))
theorem eR(v:VX Z CL k W T X)(hf:∀ x,X.fn x=Ab):∀(ys:Ac An)(ts:Ac Af)(zs:Ac Ag),FD ys=Aa zs->tgC T ts zs=Ab->PGs X ys (ts.foldr (λt u=>IE (FG t) u) IH)/\ts.length=ys.length:=by
 intro ys
 induction ys with
 |nil=>
  intro ts zs e h;cases e;cases ts with
  |nil=>exact⟨Sz,rfl⟩
  |cons t ts=>cases h
 |cons y r ih=>
  intro ts zs e h;obtain⟨x,p,ws,rfl,e2,rfl⟩:=NI e;cases ts with
  |nil=>cases h
  |cons t ts=>
   have h':(T.N[t]? == Aa x&&II T x&&tgC T ts ws)=Ab:=h;simp only[Al,AG]at h';obtain⟨h1,h2⟩:=ih ts ws e2 h'.2;exact⟨Ri (Lu (by rw[v.N];exact v.nd) (by rw[v.N];exact h'.1.1) (by rw[v.sc];exact Kn h'.1.2) (.inl (hf x))) h1 (by rw[N5];rfl),congrArg (· + 1) h2⟩
theorem R4(v:VX Z CL k W T X)(hf:∀ x,X.fn x=Ab)(hn:(FD ys).isSome=Ab)(h:tgC T ts (tgN ys)=Ab):PG X (.Tuple ys kk pos) (LP X.K ts.length (ts.foldr (λt u=>IE (FG t) u) IH)):=by
 cases e:FD ys with
 |none=>rw[e]at hn;cases hn
 |some zs=>
  have e2:tgN ys=zs:=by unfold tgN;rw[e];rfl
  rw[e2]at h;obtain⟨h1,h2⟩:=eR v hf ys ts zs e h;obtain⟨h3,h4,_⟩:=Qo (env:=X.env) ys zs e;exact Tl v.calm h1 (by rw[h3,h2]) h4
theorem NQ(ts:Ac Af):∀ d U x,EK ts d U≠.exn x:=λd U x h=>by
 unfold EK at h;cases d with
 |tup xs=>
  dsimp only at h;cases e:EB ts xs U with
  |some r=>rw[e]at h;cases h
  |none=>rw[e]at h;cases h
 |_=>cases h
theorem ZV{gs:Ac IN}{l:Af}:∃ b,CK (.ListComp elt gs scope pos) (Aa (.Name x pos')) l env=pure b/\(b=Ab->env.scope.names.lookup x=Aa .local):=by
 refine⟨_,rfl,λh=>?_⟩
 simp only[Al,AG]at h;exact h.1.1.2
theorem O3{v0:An}{i:Af}{e:E}{fr:Am}(v:VX Z CL k W T X)(hf:∀ x,X.fn x=Ab)(hi:T.N[i]?=Aa x)(hl:II T x=Ab)(o:OkE Z CL W X v0 e)(hfr:fr=Ab->Dj Z e=Ab):SAs X CL W fr i (.Assign [.Name x p] v0 pos) (λU=>evE Z U e):=by
 have hN:X.N.Nodup:=by rw[v.N];exact v.nd
 have hi':X.N[i]?=Aa x:=by rw[v.N];exact hi
 have hx:Loc X.env.scope x:=by rw[v.sc];exact Kn hl
 have sc:SC X CL W fr v0 (λU=>evE Z U e):=by
  cases fr with
  |false=>exact o.se.sc
  |true=>exact o.nw (hfr rfl)
 cases hc:Iw v0 with
 |true=>exact SC.sas hN hi' hx sc (JL hc) (.inl (hf x))
 |false=>
  obtain⟨tg,iter,elt,ifs,scope,pos2,N',ts,fi,fc,fe,as,g,rfl,B,h2,hGG,hg,ht,he,hs,ef⟩:=o.cp hc;obtain⟨b,hb,hb'⟩:=ZV (elt:=elt) (gs:=[⟨tg,iter,ifs,0⟩]) (scope:=scope) (pos:=pos2) (pos':=p) (x:=x) (l:=pos.line) (env:=X.env);cases b with
  |false=>exact SC.sas hN hi' hx sc hb (.inl (hf x))
  |true=>
   have q:=ZK (pos2:=pos) v.calm B h2 hGG hg ht he hs hN hi' (hb' rfl) hb;have q':SAs X CL W Ab i (.Assign [.Name x p] (.ListComp elt [⟨tg,iter,ifs,0⟩] scope pos2) pos) (λU=>evE Z U e):=by
    have:(λU=>evE Z U e)=_:=funext ef
    rw[this];exact q
   cases fr with
   |true=>exact q'
   | false=>exact λA=>PS.weak (q' A) λD Y H ⟨hA,U,gd,z⟩=>⟨hA,U,gd,by
     dsimp only at z ⊢;cases e0:evE Z U e with
     |ok d=>
      rw[e0]at z;exact λv' H' s' r'=>z v' H' s' ⟨r'.1,λ_=>r'.2 rfl⟩
     |exn y=>rw[e0]at z;exact z
     | bad=>rw[e0]at z;exact z⟩
theorem QO(U:Rho)(e:E)(h:∀ i,e≠.var i):evS Z U (.ret e)=O.of U (evE Z U e) λd=>.ret d (Dj Z e):=by
 have k:∀ b:Am,b=Ad->top U e (evE Z U e)=evE Z U e->(O.of U (top U e (evE Z U e)) λd=>.ret d (Dj Z e||b))=O.of U (evE Z U e) λd=>.ret d (Dj Z e):=λb hb ht=>by
  rw[hb,ht];simp only[D9]
 rw[SK];cases e with
 |var i=>exact absurd rfl (h i)
 |_=>exact k _ rfl rfl
structure DefX (X:Cx):Prop where
 fn:∀ x,X.fn x=Ab
 ex:X.ex=[]
 st:X.stack=X.env::X.outer
 fm:X.env.frame=Aa X.env.locals
structure SndS (Z:Gam) (CL:ClA) (k:Af) (n:Af):Prop where
 s:∀(W:XW)(T:Tc)(X:Cx)(x:AI)(c:S),VX Z CL k W T X->DefX X->LX n T x c=Ab->SS X CL W x (λU=>evS Z U c)
 ss:∀(W:XW)(T:Tc)(X:Cx)(x:Ac AI)(c:Ss),VX Z CL k W T X->DefX X->chkSs n T x c=Ab->SSs X CL W x (λU=>evSs Z U c)
theorem iJ(x y:D)(e:Ex):FJ x y≠.exn e:=by
 intro z;cases x with
 |lst xs=>cases y<;>first|exact Kh z|cases z
 |tup xs=>cases y<;>first|exact Kh z|cases z
 |str x=>
  cases y with
  |int i=>
   have z':(if B8 x.length=Ab then CI (FL x) i else .bad)=.exn e:=z
   split at z'
   .exact Kh z'
   .cases z'
  |_=>cases z
 |dic kvs=>
  have z':(match (Ju y).bind (Pb kvs) with|some d=>R.ok d|none=>.bad)=.exn e:=z
  cases h:(Ju y).bind (Pb kvs) with
  |none=>rw[h]at z';cases z'
  |some k=>rw[h]at z';cases z'
 |_=>cases z
theorem RY{i:Af}{y:Ex}:DO U i≠.exn y:=λz'=>by
 exact Lk z'
theorem Mn(Z:Gam)(U:Rho)(e:E)(h:Na e=Ab)(y:Ex):top U e (evE Z U e)≠.exn y:=by
 cases e with
 |var i=>
  intro z;have z':DO U i=.exn y:=z;exact Lk z'
 |idx a b=>
  cases a with
  |var i=>
   cases b with
   |int j=>
    intro z;have z':(DO U i).bind (λx=>FJ x (.int j))=.exn y:=z
    cases e1:DO U i with
    |bad=>rw[e1]at z';cases z'
    |exn w=>exact RY e1
    |ok d=>rw[e1]at z';exact iJ _ _ _ z'
   |_=>exact noF h
  |_=>exact noF h
 |bin op a b=>
  have h:(U_0 op&&P9 a b)=Ab:=h;rw[Al]at h;obtain⟨h0,h⟩:=h;cases op with
  |Sub=>
   cases a with
   |var i=>
    cases b with
    |int j=>
     intro z;have z':(DO U i).bind (λx=>Cz .Sub x (.int j))=.exn y:=z
     cases e1:DO U i with
     |bad=>rw[e1]at z';cases z'
     |exn w=>exact RY e1
     |ok d=>rw[e1]at z';cases d<;>cases z'
    |_=>exact noF h
   |_=>exact noF h
  |_=>exact absurd (show Ad=Ab from h0) Ay
 |int i=>intro z;cases z
 |bl i=>intro z;cases z
 |str i=>intro z;cases z
 |non=>intro z;cases z
 |_=>cases h
theorem Mj(Z:Gam)(U:Rho):∀(es:Es),IB es=Ab->∀ y,evB Z U es≠.exn y
 |.nil,_,y=>λz=>by cases z
 |.cons e es,h,y=>λz=>by
  unfold IB at h;rw[Al]at h;rw[Oe]at z;cases e1:top U e (evE Z U e) with
  |bad=>rw[e1]at z;cases z
  |exn w=>exact Mn Z U e h.1 w e1
  |ok d=>
   rw[e1,R.bind_ok]at z;cases e2:evB Z U es with
   |bad=>rw[e2]at z;cases z
   |exn w=>exact Mj Z U es h.2 w e2
   |ok ds=>rw[e2]at z;cases z
theorem VX.pw(v:VX Z CL k W T X)(own:DQ (model X.prog X.w) X.A X.env Xw):VX Z CL k W0 T (Cx.pw X pI Xw):=⟨v.sc,v.kd,v.N,v.nd,v.calm,v.room,v.bl,v.os,v.mkr,v.fn,own,Tp,U_4,Vx,v.xt,v.gl,v.ex⟩
theorem Q1(o:O):(o.seq λU'=>O.next U')=o:=by cases o<;>rfl
theorem STB.congr{st:Ac AI}{f g:Rho->O}(h:STB X CL st f)(e:∀ U,g U=f U):STB X CL st g:=by
 have:g=f:=funext e;rw[this];exact h
theorem TF(Sn:Snd Z CL k n)(v:VX Z CL k W T X)(hf:DefX X){st:AI}{s:S}(h:MH n T st s=Ab):STB X CL [st] (λU=>evSs Z U (.cons s .nil))/\∀ U y U',evSs Z U (.cons s .nil)=.exn y U'->U'=U:=by
 have seq:∀ U,evSs Z U (.cons s .nil)=evS Z U s:=λU=>Q1 _
 have ofn:∀{r:R D}{f:D->Rho}{U U':Rho}{y:Ex},(O.of U r λd=>O.next (f d))=.exn y U'->U'=U:=λ{r f U U' y} z=>by
  cases r with
  |ok d=>cases z
  |exn w=>cases z;rfl
  |bad=>cases z
 have call:∀{e:An}{f:Af}{as:Es},A6 n T e (.call f as)=Ab->IB as=Ab->∃ g pp y ys qq,e=.Call (.Name g pp) (y::ys) [] qq/\∃ p∈T.fns,g=p.1/\f=p.2.1/\p.2.2=ys.length+1/\ys.length<900/\glB T g=Ab/\Fn g=Ab/\∃ m,n=m+1/\chkEs m T (y::ys) as=Ab:=λ{e f as} h _=>by
  cases n with
  |zero=>exact noF h
  |succ m=>
   replace h:=JJ h;obtain⟨g,pp,y,ys,qq,rfl,h⟩:=h;simp only[Al,DY,AG,AD]at h;obtain⟨⟨⟨⟨⟨p,hp,⟨e1,e2⟩,hl⟩,h900⟩,h1⟩,h2⟩,h3⟩:=h;exact⟨g,pp,y,ys,qq,rfl,p,hp,e1.symm,e2.symm,hl,h900,h1,h2,m,rfl,h3⟩
 cases s with
 |expr e0=>
  replace h:(KA e0 λf as=>Ky st λv=>A6 n T v (.call f as)&&IB as)=Ab:=h
  replace h:=Ro h;obtain⟨f,as,rfl,h⟩:=h;replace h:=On h;obtain⟨v0,pos,rfl,h⟩:=h;rw[Al]at h;obtain⟨g,pp,y,ys,qq,rfl,p,hp,rfl,rfl,hl,h900,h1,h2,m,rfl,h3⟩:=call h.1 h.2;obtain⟨fa,fd,ps,m1,m2,m3,m4,m5,_⟩:=v.fn p hp;have hlt:p.2.2<1000:=by omega
  rw[FS hlt]at m4 m5;have m5:=m5 hlt;obtain⟨n2,n3,n4⟩:=FV h2;replace m1:=Mp m1 (Mw h2);obtain⟨s0,e,es',rfl,m',rfl,s1⟩:=Iq h3;have hlen:ys.length+1=(Es.cons e es').len:=(snd (Z:=Z) (CL:=CL) (k:=k) (m'+1)).es W T X _ _ v h3 |>.2.2.1;refine⟨STB.congr (ZX (X:=X) (fs:=λU=>evA Z U (.cons e es')) (sh:=λU=>Hr U (.cons e es')) hf.ex m5 v.room (by unfold glB at h1;show X.env.scope.names.lookup p.1=_;rw[v.sc];exact eq_of_beq h1) m1 m2 m3 (λU z=>Lv Z U _ z) (λU ds z=>by rw[Lp Z U _ _ z,<-hlen,hl]) (λU=>Mj Z U _ h.2) n2 (C3 s0) (Jg m' ys es' s1) (λpI Xw own=>by
   obtain⟨a1,a2,_⟩:=(snd (Z:=Z) (CL:=CL) (k:=k) (m'+1)).es W0 T (Cx.pw X pI Xw) _ _ (v.pw own) h3;exact⟨a1,a2⟩) (JL rfl)) λU=>seq U,λU y U' z=>?_⟩
  rw[seq]at z;exact ofn (f:=λ_=>U) z
 |asg i b0 e0=>
  replace h:(!b0&&(KA e0 λf as=>LF st λy v=>T.N[i]? == Aa y&&II T y&&A6 n T v (.call f as)&&IB as))=Ab:=h
  replace h:=Bo h;obtain⟨hb,h⟩:=h;cases b0 with
  |true=>exact absurd (show Ad=Ab from hb) Ay
  |false=>
  replace h:=Ro h;obtain⟨f,as,rfl,h⟩:=h;replace h:=Op h;obtain⟨y0,p0,v0,pos,rfl,h⟩:=h;simp only[Al,AG]at h;obtain⟨⟨⟨i1,i2⟩,hc⟩,hsim⟩:=h;obtain⟨g,pp,y,ys,qq,rfl,p,hp,rfl,rfl,hl,h900,h1,h2,m,rfl,h3⟩:=call hc hsim;obtain⟨fa,fd,ps,m1,m2,m3,m4,m5,_⟩:=v.fn p hp;have hlt:p.2.2<1000:=by omega
  rw[FS hlt]at m4 m5;have m5:=m5 hlt;obtain⟨n2,n3,n4⟩:=FV h2;replace m1:=Mp m1 (Mw h2);obtain⟨s0,e,es',rfl,m',rfl,s1⟩:=Iq h3;have hlen:ys.length+1=(Es.cons e es').len:=(snd (Z:=Z) (CL:=CL) (k:=k) (m'+1)).es W T X _ _ v h3 |>.2.2.1;refine⟨STB.congr (dA (X:=X) (fs:=λU=>evA Z U (.cons e es')) (sh:=λU=>Hr U (.cons e es')) (i:=i) hf.ex m5 v.room (by unfold glB at h1;show X.env.scope.names.lookup p.1=_;rw[v.sc];exact eq_of_beq h1) m1 m2 m3 (λU z=>Lv Z U _ z) (λU ds z=>by rw[Lp Z U _ _ z,<-hlen,hl]) (λU=>Mj Z U _ hsim) n2 (C3 s0) (Jg m' ys es' s1) (λpI Xw own=>by
   obtain⟨a1,a2,_⟩:=(snd (Z:=Z) (CL:=CL) (k:=k) (m'+1)).es W0 T (Cx.pw X pI Xw) _ _ (v.pw own) h3;exact⟨a1,a2⟩) (by rw[v.N];exact v.nd) (by rw[v.N];exact i1) (by rw[v.sc];exact Kn i2) (.inl (hf.fn _)) (JL rfl)) λU=>seq U,λU y U' z=>?_⟩
  rw[seq]at z;exact ofn (f:=λd=>U.set i (Aa (d,Ad))) z
 |_=>exact noF h
theorem iV(op:CV)(x y:D)(e:Ex):Bj op x y≠.exn e:=λz=>by
 rcases RA op x y with w|⟨b,w⟩<;>(rw[w]at z;cases z)
theorem eN(x:D)(e:Ex):BS x≠.exn e:=by
 unfold BS;split<;>first|(intro z;cases z;done)|(split<;>intro z<;>cases z)
theorem RH(Z:Gam)(U:Rho)(c:E)(h:P8 c=Ab)(y:Ex):(top U c (evE Z U c)).bind BS≠.exn y:=by
 have key:∀ e,top U c (evE Z U c)≠.exn e:=by
  cases c with
  |var i=>exact Mn Z U (.var i) rfl
  |cmp op a b=>
   unfold P8 at h;rw[Al]at h;intro e z;have z':((top U a (evE Z U a)).bind λx=>(top U b (evE Z U b)).bind λy=>Bj op x y)=.exn e:=by
    have e0:evE Z U (.cmp op a b)=((top U a (evE Z U a)).bind λx=>(top U b (evE Z U b)).bind λy=>Bj op x y):=iR Z U op a b
    rw[<-e0];exact z
   cases e1:top U a (evE Z U a) with
   |bad=>rw[e1]at z';cases z'
   |exn w=>exact Mn Z U a h.1 w e1
   |ok d=>
    rw[e1,R.bind_ok]at z';cases e2:top U b (evE Z U b) with
    |bad=>rw[e2]at z';cases z'
    |exn w=>exact Mn Z U b h.2 w e2
    |ok d2=>rw[e2,R.bind_ok]at z';exact iV _ _ _ _ z'
  |_=>cases h
 intro z;cases e1:top U c (evE Z U c) with
 |bad=>rw[e1]at z;cases z
 |exn w=>exact key w e1
 |ok d=>rw[e1,R.bind_ok]at z;exact eN _ _ z
theorem pB(Sn:Snd Z CL k n)(v:VX Z CL k W T X)(hf:DefX X):∀(m:Af){st:AI}{s:S},M6 m n T st s=Ab->STB X CL [st] (λU=>evSs Z U (.cons s .nil))/\∀ U y U',evSs Z U (.cons s .nil)=.exn y U'->U'=U:=by
 intro m
 induction m with
 |zero=>intro st s h;exact TF Sn v hf h
 |succ m ih=>
  intro st s h;replace h:=orT (a:=MH n T st s) (b:=S8 (M6 m n T) n T st s) h;rcases h with h|h
  .exact TF Sn v hf h
  .cases s with
   |ife c a b=>
    replace h:=Rm h;obtain⟨a,rfl,h⟩:=h;replace h:=Rm h;obtain⟨b,rfl,h⟩:=h;replace h:=Se h;obtain⟨t,xs,ys,pos,rfl,h⟩:=h;replace h:=E4 h;obtain⟨xs,rfl,h⟩:=h;replace h:=E4 h;obtain⟨ys,rfl,h⟩:=h;simp only[Al]at h;obtain⟨⟨⟨h1,h2⟩,h3⟩,h4⟩:=h;obtain⟨a1,a2⟩:=ih h3;obtain⟨b1,b2⟩:=ih h4;have ev:∀ U,evSs Z U (.cons (.ife c (.cons a .nil) (.cons b .nil)) .nil)=O.of U ((top U c (evE Z U c)).bind BS) λk=>if k=Ab then evSs Z U (.cons a .nil) else evSs Z U (.cons b .nil):=λU=>Q1 _
    refine⟨STB.congr (cZ (λpI Xw own=>(Sn.b W0 T (Cx.pw X pI Xw) _ _ (v.pw own) h1)) (λU y=>RH Z U c h2 y) a1 b1) λU=>ev U,λU y U' z=>?_⟩
    rw[ev]at z;cases e1:(top U c (evE Z U c)).bind BS with
    |bad=>rw[e1]at z;cases z
    |exn w=>exact absurd e1 (RH Z U c h2 w)
    |ok k=>
     rw[e1,O.of_ok]at z;cases k with
     |true=>exact a2 U y U' z
     |false=>exact b2 U y U' z
   |_=>exact noF h
theorem Ln{i:Af}{e:Ak}(v:VX Z CL k W T X)(h:isV T x i=Ab):PE (Cx.hot X e) (.Name x pos) (EQ i):=by
 unfold isV at h;simp only[Al,AG]at h;obtain⟨h2,h3,_⟩:=FV h.2;exact Ko (by show X.N[i]?=_;rw[v.N];exact h.1.1) (by show Vis X.env.scope x;rw[v.sc];exact RW h.1.2) h2 h3
theorem Tt{x:Af}{t:An}{c:E}:∀{n:Af},HR n T x t c=Ab->∀ U r,top U c r=r:=λ{n} h=>by
 cases n with
 |zero=>exact noF h
 |succ n=>
  cases c with
  |var i=>exact noF h
  |_=>exact λ_ _=>rfl
theorem cE(v:VX Z CL k W T X)(e:Ak):∀(ts:Ac An)(ks:Ac Ki),PU T ts ks=Ab->∃ cs:Ac (Af×Ak),ks=cs.map (λq=>Ki.cls q.1)/\cs.length=ts.length/\PA (Cx.hot X e) ts (UX (cs.map λq:Af×Ak=>q.2))/\∀ q∈cs,Lx X.K CL Z.up q.1 q.2:=by
 intro ts
 induction ts with
 |nil=>
  intro ks h;obtain rfl:=FC h;exact⟨[],rfl,rfl,Fj,λq hq=>nomatch hq⟩
 |cons t ts ih=>
  intro ks h;replace h:=Jh h;obtain⟨kk,ks,rfl,h⟩:=h;replace h:=Fk h;obtain⟨t,p,rfl,h⟩:=h;replace h:=Bo h;obtain⟨h,h4⟩:=h;cases kk with
  |cls c=>
   replace h:(inX T.exs t c&&glB T t&&Fn t)=Ab:=h;simp only[Al]at h;obtain⟨⟨h1,h2⟩,h3⟩:=h;obtain⟨cs,e1,e2,e3,e4⟩:=ih ks h4;obtain⟨C,m1,m3,_⟩:=v.xt.ex _ (JN h1);obtain⟨n2,_,_⟩:=FV h3;refine⟨(c,C)::cs,by rw[e1];rfl,by rw[A2,A2,e2],?_,λq hq=>?_⟩
   .exact DN (OD (X:=Cx.hot X e) (v:=.ref C) (by unfold glB at h2;show X.env.scope.names.lookup t=_;rw[v.sc];exact eq_of_beq h2) m1 rfl n2) e3 rfl
   .rcases AH.mp hq with rfl|hq
    .exact m3
    .exact e4 q hq
  |_=>exact noF h
theorem MX{e:Ak}{f:An->E->Am}(ih:∀ t c,f t c=Ab->SE (Cx.hot X e) CL W0 t (λU=>evE Z U c)):∀(xs:Ac An)(es:Es),LJ f xs es=Ab->SA (Cx.hot X e) CL W0 xs (λU=>evA Z U es)/\xs.length=es.len
 |[],.nil,_=>⟨Th,rfl⟩
 |[],.cons _ _,h=>nomatch (show Ad=Ab from h)
 |_::_,.nil,h=>nomatch (show Ad=Ab from h)
 |x::xs,.cons c es,h=>by
  have h:(Dr x&&f x c&&LJ f xs es)=Ab:=h;simp only[Al]at h;obtain⟨⟨h1,h2⟩,h3⟩:=h;obtain⟨q,l⟩:=MX ih xs es h3;exact⟨Sw (ih x c h2) q (C3 h1),by rw[A2,l];rfl⟩
theorem UC(v:VX Z CL k W T X)(e:Ak)(x:Af):∀(n:Af)(t:An)(c:E),HR n T x t c=Ab->SE (Cx.hot X e) CL W0 t (λU=>evE Z U c):=by
 intro n
 induction n with
 |zero=>intro t c h;exact noF h
 |succ n ih=>
  intro t c h;cases c with
  |bl b=>
   replace h:=Jj h;obtain⟨k,u,p,rfl,h⟩:=h;obtain rfl:=AN h;exact Ui
  |no a=>
   replace h:=Mv h;obtain⟨o,y,p,rfl,h⟩:=h;replace h:=Bo h;obtain⟨h0,h⟩:=h;obtain rfl:=AN h0;have q:=(ih _ _ h).st;refine SE.congr (TN q) λU=>?_
   show ((top U a (evE Z U a)).bind λx=>(Dt x).bind λb=>R.ok (D.bl (!b)))=_
   rw[Tt h]
  |and es=>
   cases es with
   |nil=>exact noF h
   |cons a as=>
    cases as with
    |nil=>
     replace h:=Lg h;obtain⟨o,l,p,rfl,h⟩:=h;replace h:=Bo h;obtain⟨h0,h⟩:=h;obtain rfl:=AN h0;replace h:=E4 h;obtain⟨y,rfl,h⟩:=h;exact SE.congr (O1 (ih _ _ h)) λU=>rfl
    |cons a' as=>
     replace h:=Lg h;obtain⟨o,l,p,rfl,h⟩:=h;replace h:=Bo h;obtain⟨h0,h⟩:=h;obtain rfl:=AN h0;replace h:=Jh h;obtain⟨y,l,rfl,h⟩:=h;replace h:=Jh h;obtain⟨z,zs,rfl,h⟩:=h;exact SE.congr (Te (ih _ _ (Bo h).1) (ih _ _ (Bo h).2)) λU=>rfl
  |isi a ks=>
   replace h:=Oj h;obtain⟨i,rfl,h⟩:=h;replace h:=fD h;obtain⟨g,pp,w,pq,u,pr,rfl,h⟩:=h;simp only[Al,AG]at h;obtain⟨⟨⟨⟨rfl,rfl⟩,h3⟩,h4⟩,h⟩:=h;obtain⟨g1,g2,_,_⟩:=GQ v h3;replace h:=Jh h;obtain⟨kk,ks,rfl,h⟩:=h;cases kk with
   |verr=>
    replace h:=Bo h;obtain⟨h0,h⟩:=h;obtain rfl:=FC h0;replace h:=Fk h;obtain⟨t,pt,rfl,h⟩:=h;simp only[Al,AG]at h;obtain⟨h5,h6⟩:=h;obtain⟨b1,b2,_,_⟩:=GQ v h6;rw[h5]at b1 b2 ⊢;exact TR (X:=Cx.hot X e) v.xt.xc g1 g2 b1 b2 (Iz (Ln v h4)) rfl
   |cls c=>
    cases ks with
    |nil=>
     replace h:=Fk h;obtain⟨t,pt,rfl,h⟩:=h;simp only[Al]at h;obtain⟨⟨h5,h6⟩,h7⟩:=h;obtain⟨C,m1,m3,_⟩:=v.xt.ex _ (JN h5);obtain⟨n2,_,_⟩:=FV h7;exact Tb (X:=Cx.hot X e) v.xt.xc g1 g2 (by unfold glB at h6;show X.env.scope.names.lookup _=_;rw[v.sc];exact eq_of_beq h6) m1 m3 n2 (Iz (Ln v h4)) rfl
    |cons k2 ks=>
     replace h:=Ke h;obtain⟨ts,z1,z2,rfl,h⟩:=h;replace h:=Bo h;obtain⟨h5,h6⟩:=h;obtain⟨cs,e1,e2,e3,e4⟩:=cE v e _ _ h5;have hne:cs≠[]:=by rintro rfl;cases e1
     rw[e1];exact jE (X:=Cx.hot X e) (W:=W0) (up:=Z.up) v.xt.xc g1 g2 e3 hne (by rw[e2];exact AN h6) e4 (Iz (Ln v h4)) rfl
   |_=>exact noF h
  |call f as=>exact absurd (show Ad=Ab from h) Ay
  |str s=>
   replace h:=Jj h;obtain⟨k,u,p,rfl,h⟩:=h;obtain rfl:=AN h;exact MN
  |lst es=>
   replace h:=Ol h;obtain⟨xs,p,rfl,h⟩:=h;simp only[Al,AD]at h;obtain⟨q,ql⟩:=MX (ih) _ _ h.1;exact(OQ q λU ds z=>by rw[Iu Z U _ _ z,<-ql];omega).se
  |tup es=>
   replace h:=Ke h;obtain⟨xs,cc,p,rfl,h⟩:=h;simp only[Al,AD]at h;obtain⟨q,ql⟩:=MX (ih) _ _ h.1;exact TM q λU ds z=>by rw[Iu Z U _ _ z,<-ql];omega
  |bin op a b=>
   replace h:=Bo h;obtain⟨h0,h⟩:=h;obtain rfl:=AN h0;replace h:=Oj h;obtain⟨i,rfl,h⟩:=h;replace h:=Rr h;obtain⟨l,o,y,p,rfl,h⟩:=h;replace h:=Bo h;obtain⟨h0,h⟩:=h;obtain rfl:=AN h0;replace h:=Fk h;obtain⟨w,pw,rfl,h⟩:=h;replace h:=Bo h;obtain⟨h1,h2⟩:=h;refine SE.congr (O2 (OE .Add) (Iz (Ln v h1)) (ih _ _ h2).st) λU=>?_
   show ((DO U i).bind λx=>(top U b (evE Z U b)).bind λy=>Cz .Add x y)=_
   rw[Tt h2]
  |fld o f=>
   replace h:=Oj h;obtain⟨i,rfl,h⟩:=h;replace h:=JK h;obtain⟨w,g,p,rfl,h⟩:=h;replace h:=Fk h;obtain⟨w,pw,rfl,h⟩:=h;simp only[Al,AG]at h;obtain⟨⟨⟨rfl,rfl⟩,h3⟩,h4⟩:=h;exact Su (X:=Cx.hot X e) v.xt.xc (λc C z=>v.xt.nf c C z _ h3) (Iz (Ln v h4)) rfl
  |_=>exact noF h
theorem tD(v:VX Z CL k W T X)(hf:DefX X)(e:Ak)(x:Af):∀(n:Af)(sts:Ac AI)(ss:Ss),Py n T x sts ss=Ab->SSs (Cx.hot X e) CL W0 sts (λU=>evSs Z U ss):=by
 intro n
 induction n with
 |zero=>intro t c h;exact noF h
 |succ n ih=>
  intro sts ss0 h;cases ss0 with
  |nil=>
   obtain rfl:=FC h;exact RM
  |cons s ss0=>
   replace h:=Jh h;obtain⟨st,r,rfl,h⟩:=h;replace h:=Bo h;obtain⟨h,h5⟩:=h;cases s with
   |asg i b e0=>
    replace h:=Op h;obtain⟨y,py,v0,pos,rfl,h⟩:=h;simp only[Al,AG]at h;obtain⟨⟨⟨⟨h1,h2⟩,h3⟩,h4⟩,h6⟩:=h;cases b with
    |true=>
     cases e0 with
     |lst es=>
      have sc:SC (Cx.hot X e) CL W0 Ab v0 (λU=>evE Z U (.lst es)):=by
       cases n with
       |zero=>exact absurd (show Ad=Ab from h4) Ay
       |succ n=>
        replace h4:=Ol h4;obtain⟨l,pl,rfl,h4⟩:=h4;obtain⟨q,ql⟩:=MX (UC v e x n) _ _ (Bo h4).1;have hle:=AN (Bo h4).2;exact OQ q λU ds z=>by rw[Iu Z U _ _ z,<-ql];omega
      have q:=Ox (RO (SC.sas (X:=Cx.hot X e) (pos:=pos) (pos':=py) (by show X.N.Nodup;rw[v.N];exact v.nd) (by show X.N[i]?=_;rw[v.N];exact h1) (by show Loc X.env.scope _;rw[v.sc];exact Kn h2) sc (JL h3) (.inl (hf.fn _)))) (ih _ _ h5)
      have ef:(λU=>evSs Z U (.cons (.asg i Ab (.lst es)) ss0))=λU=>(O.of U (evE Z U (.lst es)) λd=>setF U i d).seq λU=>evSs Z U ss0:=by
       funext U
       show (evS Z U (.asg i Ab (.lst es))).seq _=_;rw[Z_7];rfl
      rw[ef];exact q
     |_=>exact absurd (show Ad=Ab from h6) Ay
    |false=>
    exact Ox (jR (X:=Cx.hot X e) (by show X.N.Nodup;rw[v.N];exact v.nd) (by show X.N[_]?=_;rw[v.N];exact h1) (by show Loc X.env.scope _;rw[v.sc];exact Kn h2) (UC v e x n _ _ h4) (JL h3) (.inl (hf.fn _))) (ih _ _ h5)
   |ife c a b=>exact absurd (show Ad=Ab from h) Ay
   |ret e0=>exact absurd (show Ad=Ab from h) Ay
   |app i e0=>exact absurd (show Ad=Ab from h) Ay
   |_=>exact noF h
theorem nU(v:VX Z CL k W T X)(h:hdB T g c=Ab):Vr X CL Z.up g c:=by
 unfold hdB at h;simp only[Al]at h;obtain⟨⟨⟨i1,i0⟩,i2⟩,i3⟩:=h;obtain⟨C,m1,m3,m4⟩:=v.xt.ex _ (JN i1);obtain⟨C0,r1,r2⟩:=v.xt.rz _ (JN i0);obtain⟨n2,_,_⟩:=FV i3;refine⟨C,by unfold glB at i2;show X.env.scope.names.lookup g=_;rw[v.sc];exact eq_of_beq i2,m1,n2,?_,λc' D hD=>m4 c' D hD⟩
 have e0:=m1.symm.trans r2;cases e0;exact v.xt.xc _ _ r1
theorem oS(Z_:SndS Z CL k n)(W:XW)(T:Tc)(X:Cx)(st:AI)(c:S)(v:VX Z CL k W T X)(hf:DefX X)(h:LX (n+1) T st c=Ab):SS X CL W st (λU=>evS Z U c):=by
  have E:=snd (Z:=Z) (CL:=CL) (k:=k) n;cases c with
  |pass=>
    exact Stmt.Pass.elim (motive_2:=λst=>SS X CL W st (λU=>evS Z U .pass)) st (AN h) λp=>dF
  |brk=>exact absurd (show Ad=Ab from h) Ay
  |cont=>exact absurd (show Ad=Ab from h) Ay
  |asg i fresh e=>
    replace h:=Op h;obtain⟨x,px,v0,pos,rfl,h⟩:=h;simp only[Al,AG]at h;obtain⟨⟨h1,h2⟩,h3⟩:=h;have o:=E.e W T X _ e v h3;cases fresh with
    |false=>exact TL (O3 (fr:=Ad) v hf.fn h1 h2 o (λz=>nomatch z))
    |true=>
      cases hn:Dj Z e with
      |true=>
        refine SS.ref (RO (O3 (fr:=Ab) v hf.fn h1 h2 o (λ_=>hn))) λU=>.inr ?_
        show O.of U (evE Z U e) (λd=>if Ab=Ab then (if Dj Z e=Ab then (match d with
          |.lst xs=>.next (U.set i (Aa (.lst xs,Ab)))
          |.dic xs=>.next (U.set i (Aa (.dic xs,Ab)))
          | _=>.bad) else .bad) else .next (U.set i (Aa (d,Ad))))=_
        rw[hn];rfl
      |false=>
        refine SS.ref (TL (O3 (fr:=Ad) v hf.fn h1 h2 o (λz=>nomatch z))) λU=>?_
        have e0:evS Z U (.asg i Ab e)=O.of U (evE Z U e) (λd=>if Ab=Ab then (if Dj Z e=Ab then (match d with
          |.lst xs=>.next (U.set i (Aa (.lst xs,Ab)))
          |.dic xs=>.next (U.set i (Aa (.dic xs,Ab)))
          | _=>.bad) else .bad) else .next (U.set i (Aa (d,Ad)))):=rfl
        rw[e0,hn];cases evE Z U e with
        |ok d=>exact .inl rfl
        |exn y=>exact .inr rfl
        |bad=>exact .inl rfl
  |asgT ts e=>exact absurd (show Ad=Ab from h) Ay
  |expr e=>
    replace h:=On h;obtain⟨v0,pos,rfl,h⟩:=h;simp only[Al]at h;exact dH (E.e W T X _ e v h.2).se (JL h.1)
  |ret e=>
    replace h:=Rn h;obtain⟨o,pos,rfl,h⟩:=h;cases o with
    |none=>exact noF h
    |some v0=>
    replace h:A6 n T v0 e=Ab:=h;have o:=E.e W T X _ e v h;cases hv:Dj Z e with
    |true=>
      refine SS.ref (RN (o.nw hv)) λU=>.inr ?_
      rw[QO U e (λi z=>by subst z;cases hv),hv]
    |false=>
      cases e with
      |var i=>
        cases n with
        |zero=>exact noF h
        |succ n=>
          replace h:=Fk h;obtain⟨y,py,rfl,h⟩:=h;exact dC (Jm v h)
      |_=>
        refine SS.ref (dE o.se) λU=>.inr ?_
        rw[QO U _ (by intro i z;cases z),hv]
  |retN=>exact absurd (show Ad=Ab from h) Ay
  |retc ts it f as=>
    replace h:=Rn h;obtain⟨o,pos,rfl,h⟩:=h;cases o with
    |none=>exact noF h
    |some v0=>
      replace h:=Sd h;obtain⟨y,tg,it',ifs,scope,p0,rfl,h⟩:=h;replace h:=Bo h;obtain⟨hn,h⟩:=h;obtain rfl:=FC hn;replace h:=Ke h;obtain⟨ys,cc,pw,rfl,h⟩:=h;simp only[Al]at h;obtain⟨⟨⟨⟨⟨⟨h0,h1⟩,h2⟩,h3⟩,h4⟩,h5⟩,h6⟩:=h;cases n with
      |zero=>exact noF h6
      |succ m=>
        replace h6:=JJ h6;obtain⟨g,pp,y1,ys1,qq,rfl,h6⟩:=h6;simp only[Al,DY,AG,AD]at h6;obtain⟨⟨⟨⟨⟨p,hp,⟨rfl,rfl⟩,hl⟩,h900⟩,g1⟩,g2⟩,g3⟩:=h6;obtain⟨fa,fd,ps,m1,m2,m3,m4,m5,_⟩:=v.fn p hp;have hlt:p.2.2<1000:=by omega
        rw[FS hlt]at m4 m5;have m5:=m5 hlt;obtain⟨n2,n3,n4⟩:=FV g2;replace m1:=Mp m1 (Mw g2);obtain⟨s0,e,es',rfl,m',rfl,s1⟩:=Iq g3;have hlen:ys1.length+1=(Es.cons e es').len:=Z_9 _ _ _ g3;exact RN (ZH (fs:=λU=>evA Z U (.cons e es')) (sh:=λU=>Hr U (.cons e es')) v.calm hf.st hf.fm v.fz (Pd v h3).1 (E.i W T X Ab _ _ it v rfl h1) (nV ts) (NQ ts) (λcl C s H fp=>eS (v.blk h3) h0 h4) (Lz h2) m5 v.room (λcl C s H fp=>by
          have vb:=v.blk (cl:=cl) (C:=C) (s:=s) (H:=H) (fp:=fp) h3;unfold glB at g1;show (cxC X scope cl C (JX ts (tgN ys) T.N) s H fp).env.scope.names.lookup p.1=_;rw[vb.sc];exact eq_of_beq g1) m1 m2 m3 (λcl C s H fp=>by
          obtain⟨a1,a2,_⟩:=(snd (Z:=Z) (CL:=CL) (k:=k) (m'+1)).es W0 _ _ _ _ (v.blk (cl:=cl) (C:=C) (s:=s) (H:=H) (fp:=fp) h3) g3;exact⟨a1,a2⟩) (λU z=>Lv Z U _ z) (λU ds z=>by rw[Lp Z U _ _ z,<-hlen,hl]) (λU=>Mj Z U _ h5) n2 (λenv=>C3 s0) (λenv=>Jg (X:={X with env:=env}) m' ys1 es' s1))
  |ife c a b=>
    replace h:=Se h;obtain⟨t,xs,ys,pos,rfl,h⟩:=h;simp only[Al]at h;exact oY (E.b W T X _ c v h.1.1) (Z_.ss W T X _ a v hf h.1.2) (Z_.ss W T X _ b v hf h.2)
  |fors t it body=>
    replace h:=Om h;obtain⟨tg,it',xs,ys,pos,rfl,h⟩:=h;replace h:=Bo h;obtain⟨hn,h⟩:=h;obtain rfl:=FC hn;replace h:=Fk h;obtain⟨y,py,rfl,h⟩:=h;simp only[Al]at h;obtain⟨⟨⟨h1,h2⟩,h3⟩,h4⟩:=h;exact TK v.own v.calm (iL t) (eQ v hf.fn h1) (E.i W T X Ad _ _ it v rfl h3) (Z_.ss W T X _ body v hf h4) (Lz h2) (λ_ _ _ z=>nomatch z)
  |forT ts it body=>
    replace h:=Om h;obtain⟨tg,it',xs,zs,pos,rfl,h⟩:=h;replace h:=Bo h;obtain⟨hn,h⟩:=h;obtain rfl:=FC hn;replace h:=Ke h;obtain⟨ys,cc,py,rfl,h⟩:=h;simp only[Al]at h;obtain⟨⟨⟨⟨h0,h1⟩,h2⟩,h3⟩,h4⟩:=h;exact TK v.own v.calm (Tu ts) (R4 v hf.fn h0 h1) (E.i W T X Ab _ _ it v rfl h3) (Z_.ss W T X _ body v hf h4) (Lz h2) (NQ ts)
  |forO i ts body=>
    replace h:=Om h;obtain⟨tg,it',xs,zs,pos,rfl,h⟩:=h;replace h:=Bo h;obtain⟨hn,h⟩:=h;obtain rfl:=FC hn;replace h:=Ke h;obtain⟨ys,cc,py,rfl,h⟩:=h;simp only[Al]at h;obtain⟨⟨⟨h0,h1⟩,h2⟩,h3⟩:=h;replace h3:=Io h3;obtain⟨g,pp,l,qq,rfl,h3⟩:=h3;replace h3:=E4 h3;obtain⟨y,rfl,h3⟩:=h3;simp only[Al,AG]at h3;obtain⟨⟨⟨rfl,g0⟩,hz⟩,h4⟩:=h3;replace hz:=Fk hz;obtain⟨z,pz,rfl,hz⟩:=hz;obtain⟨g1,g2,_,_⟩:=GQ v g0;exact dG v.own v.calm (Tu ts) (R4 v hf.fn h0 h1) (Jm v hz) g1 g2 rfl (Z_.ss W T X _ body v hf h4) (Lz h2) (NQ ts)
  |whl c body=>
    replace h:=bR h;obtain⟨t,xs,ys,pos,rfl,h⟩:=h;replace h:=Bo h;obtain⟨hn,h⟩:=h;obtain rfl:=FC hn;simp only[Al]at h;exact ZY PL v.own (E.b W T X _ c v h.1) (Z_.ss W T X _ body v hf h.2)
  |rais c as=>
    replace h:(!(T.rzs.any λp=>p.2==c)||(M1 st λa b=>b.isNone&&(match a with|some e=>JM e λg x xs=>inX T.rzs g c&&glB T g&&Fn g&&decide (xs.length<=1000)&&chkEs n T (x::xs) as|none=>Ad)))=Ab:=h
    cases hc:T.rzs.any (λp=>p.2==c) with
    |false=>
      have hb:∀ ds,Z.xn c ds=.bad:=v.xt.xb c λp hp z=>by
        have:T.rzs.any (λp=>p.2==c)=Ab:=List.any_eq_true.mpr ⟨p,hp,AG.mpr z⟩
        rw[hc]at this;cases this
      intro Fz B pI s Y H D I ⟨U,x,p⟩;have p':Bs X.K CL Fz B W (O.of U (noX (evA Z U as)) λxs=>O.of U (Z.xn c xs) λx=>.exn x U) D:=p
      cases e1:evA Z U as with
      |bad=>rw[e1]at p';exact p'.elim
      |exn y=>rw[e1]at p';exact p'.elim
      |ok ds=>
        rw[e1]at p';have p2:Bs X.K CL Fz B W (O.of U (Z.xn c ds) λx=>.exn x U) D:=p'
        rw[hb ds]at p2;exact p2.elim
    |true=>
      rw[hc,Bool.not_true,Bool.false_or]at h;replace h:=bT h;obtain⟨ea,eb,pos,rfl,h⟩:=h;replace h:=Bo h;obtain⟨h0,h⟩:=h;obtain rfl:=DH.mp h0;cases ea with
      |none=>exact noF h
      |some e0=>
        replace h:=JJ h;obtain⟨g,np,x,xs,cpos,rfl,h⟩:=h;simp only[Al,AD]at h;obtain⟨⟨⟨⟨h1,h2⟩,h3⟩,h4⟩,h5⟩:=h;obtain⟨C,m1,m2⟩:=v.xt.rz _ (JN h1);obtain⟨n2,_,_⟩:=FV h3;obtain⟨s0,e,es',rfl,m,rfl,s1⟩:=Iq h5;have q:=E.es W T X _ _ v h5;exact YZ v.calm hf.ex v.room v.rz (by unfold glB at h2;show X.env.scope.names.lookup g=_;rw[v.sc];exact eq_of_beq h2) m2 n2 m1 q.1 (λds=>v.xt.made c C ds m1) (C3 s0) (Jg m xs es' s1) (λU ds z=>by rw[Iu Z U _ _ z,<-q.2.2.1,A2];omega)
  |app i e=>
    replace h:=bU h;obtain⟨x,px,m,ap,l,cp,pos,rfl,h2,h⟩:=h;replace h:=E4 h;obtain⟨v0,rfl,h⟩:=h;simp only[Al,AG]at h;obtain⟨⟨⟨rfl,h1⟩,h3⟩,h4⟩:=h;exact jS (Jm v h1) (E.e W T X _ e v h4).se rfl (by rw[C3 h3];rfl) (by rw[h2];exact Do _) (C3 h3) rfl
  |ext i e=>exact absurd (show Ad=Ab from h) Ay
  |rev i=>exact absurd (show Ad=Ab from h) Ay
  |clr i=>exact absurd (show Ad=Ab from h) Ay
  |put i k e=>exact absurd (show Ad=Ab from h) Ay
  |tryx body c x hd=>
    cases body with
    |nil=>exact noF h
    |cons b bs=>
      cases bs with
      |cons=>exact noF h
      |nil=>
        unfold LX at h;dsimp only at h;cases q:P3 st with
        |none=>rw[q]at h;cases h
        |some t=>
          obtain⟨bt,hl,es⟩:=t;rw[q]at h;obtain⟨pos,rfl⟩:=eE q;cases hl with
          |nil=>exact noF h
          |cons h1 hl=>
            cases hl with
            |cons=>exact noF h
            |nil=>
              cases es with
              |cons=>exact noF h
              |nil=>
                dsimp only at h;cases q1:xHd h1 with
                |none=>rw[q1]at h;cases h
                |some t1=>
                  obtain⟨g,m,h0,hs⟩:=t1;obtain⟨p1,hp,rfl⟩:=kC q1;rw[q1]at h;simp only[Al,AG]at h;obtain⟨⟨⟨⟨i1,i4⟩,i5⟩,i6⟩,i7⟩:=h;obtain⟨t1,t2⟩:=pB E v hf 6 i6;refine SS.ref (jQ (up:=Z.up) (c:=c) (i:=x) hf.ex hf.st hf.fm (by rw[v.N];exact v.nd) (by rw[v.N];exact i4) (by rw[v.sc];exact i5) (nU v i1) t1 t2 (λe=>tD v hf e x n _ _ i7)) λU=>.inr ?_
                  rw[aH];unfold Vi;cases evSs Z U (.cons b .nil)<;>rfl
  |try2 body c x hd c' hd' els=>exact absurd (show Ad=Ab from h) Ay
  |swp i k l=>exact absurd (show Ad=Ab from h) Ay
  |apop j i e=>exact absurd (show Ad=Ab from h) Ay
  |ins i k e=>exact absurd (show Ad=Ab from h) Ay
  |dput=>exact noF h
  |dsd=>exact noF h
  |rel=>exact noF h
theorem cJ{c:Ss}(h:Nm c=Ab)(U:Rho):evSs Z U c=.bad:=by
 cases c with
 |nil=>cases h
 |cons s ss=>
  cases s with
  |expr e=>
   cases e with
   |bi b as=>
    cases as with
    |nil=>
     cases b with
     |len=>rfl
     |_=>exact noF h
    |cons=>cases b<;>exact noF h
   |_=>exact noF h
  |_=>exact noF h
theorem jN(Z_:SndS Z CL k n)(W:XW)(T:Tc)(X:Cx)(xs:Ac AI)(c:Ss)(v:VX Z CL k W T X)(hf:DefX X)(h:chkSs (n+1) T xs c=Ab):SSs X CL W xs (λU=>evSs Z U c):=by
 by_cases hb:Nm c=Ab
 .exact λFz B pI s Y H D I ⟨U,x,p⟩=>by
   dsimp only at p;rw[cJ hb]at p;exact p.elim
 have hb:Nm c=Ad:=by simpa using hb
 cases c with
 |nil=>
  simp only[chkSs,hb,D9,List.isEmpty_iff]at h;subst h;exact RM
 |cons s ss=>
  by_cases hr:∃ i,s=.rel i
  .obtain⟨i,rfl⟩:=hr;simp only[chkSs,hb,D9]at h;exact dB i (Z_.ss W T X xs ss v hf h)
  .cases xs with
   |nil=>cases s<;>first|(simp[chkSs,hb]at h;done)|exact absurd ⟨_,rfl⟩ hr
   |cons st r=>
    have h':LX n T st s=Ab/\chkSs n T r ss=Ab:=by
     cases s<;>first|(simp only[chkSs,hb,D9,Al]at h;exact h)|exact absurd ⟨_,rfl⟩ hr
    exact Ox (Z_.s W T X st s v hf h'.1) (Z_.ss W T X r ss v hf h'.2)
theorem PV:∀ n,SndS Z CL k n
 |0=>⟨λ_ _ _ _ _ _ _ h=>noF h,λ_ _ _ _ _ _ _ h=>noF h⟩
 |n+1=>⟨oS (PV n),jN (PV n)⟩
end
theorem Kb{n:Af}{ds:Ac D}{i:Af}{o:Am}(h:(Bu n ds)[i]?=Aa (Aa (d,o))):o=Ad/\ds[i]?=Aa d:=by
 unfold Bu at h;by_cases hi:i<ds.length
 .rw[Fa (by simpa using hi),Ch]at h
  cases e:ds[i]? with
  |none=>rw[e]at h;cases h
  |some x=>rw[e]at h;cases h;exact⟨rfl,rfl⟩
 .rw[VW (by simpa using Nat.le_of_not_lt hi),VY]at h
  split at h<;>cases h
theorem YY{N:Ac Ag}{vs:Ac V}{i:Af}{v:V}(h:vs[i]?=Aa v):(L2.start N vs)[i]?=Aa (Aa v):=by
 unfold L2.start;have hi:=(A1.mp h).1;rw[Fa (by simpa using hi),Ch,h]
 rfl
theorem ZU{N:Ac Ag}{n:Af}{vs:Ac V}{ds:Ac D}(hn:N.length=n)(hA:AOk H A)(r:Reps K CL H A vs ds):Sx K CL ⟨λb o=>H b=Aa o,λ_ _ _=>AW⟩ A (Bu n ds) (L2.start N vs) H:=by
 have own:∀ a,Bk A (Bu n ds) (L2.start N vs) a->A a:=λa h=>by
  rcases h with h|⟨j,d,h,_⟩
  .exact h
  .exact absurd (Kb h).1 (by decide)
 have hlen:(Bu n ds).length=(L2.start N vs).length:=by
  unfold Bu L2.start;simp only[BN,Bi,V0,r.length,hn]
 refine⟨⟨λi d h=>?_,λi d h _=>absurd (Kb h).1 (by decide),hlen⟩,λa h=>hA a (own a h),λj d a h _=>absurd (Kb h).1 (by decide),λi j d e a h _ _ _=>absurd (Kb h).1 (by decide),λb o h=>h,hlen,λj h=>absurd (Kb h).1 (by decide)⟩
 obtain⟨v,h1,h2⟩:=r.get (Kb h).2;exact⟨v,YY h1,Rep.sub own _ h2⟩
structure FunX (K:Fg) (x qual:Ag) (st:AI) (f:Ak) (fd:Bx):Prop where
 ex:∃(oc:Aj)(od:Ao Ak)(dV kV doc pm:Aj)(an:Ao Ak)(cdv ct:Aj)(osl:Ba (Ao Aj)),
  fd=BR x qual (Gd st) (En st) (BD st) dV kV doc pm an cdv ct/\K.lookup f=Aa ⟨oc,od,.func fd,osl⟩/\DT K cdv qual=Ab
 kp:Bc K (.ref f)=Ab
theorem MR{st:AI}{f:Ak}(F:Fun K x qual st f fd):FunX K x qual st f fd:=by
 obtain⟨oc,od,kV,doc,pm,an,cdv,ct,osl,e,lk,hcd⟩:=F.ex;exact⟨⟨oc,od,.none,kV,doc,pm,an,cdv,ct,osl,e,lk,hcd⟩,F.kp⟩
def KO(K:Fg)(mg:Ag->Ao Aj)(fns:Ac (Ag×Af×Af))(bl:Ac Ag)(rzs exs gls:Ac (Ag×Af))(Pg:Prg)(fuel:Af)(p:Ag×Af×Af):Prop:=∃ f fd ps qual st N,HQ K mg p.1=Aa (.ref f)/\(∃ x,FunX K x qual st f fd)/\ED K fd ps []/\ps.length=p.2.2%1000/\Gi fuel (De 1000 p.2.2) fns bl rzs exs gls ps N st (Pg.defs p.2.1)=Ab
noncomputable def Pi:AI->Ao (An×An×AC)
  | .Assign ts v p=>(match ts with
    |[t]=>Aa (t,v,p)
    | _=>Ae)
  |_=>Ae
theorem RF{e:AI}{t:An×An×AC}(h:Pi e=Aa t):e=.Assign [t.1] t.2.1 t.2.2:=by
 cases e with
 |Assign ts v p=>
  cases ts with
  |nil=>exact nomatch (show Ae=Aa t from h)
  |cons a ts=>
   cases ts with
   |nil=>cases h;rfl
   |cons=>exact nomatch (show Ae=Aa t from h)
 |_=>exact nomatch (show Ae=Aa t from h)
noncomputable def Ph:An->Ao (An×Ag×AC)
 |.Attribute e x p=>Aa (e,x,p)
 |_=>Ae
theorem RE{e:An}{t:An×Ag×AC}(h:Ph e=Aa t):e=.Attribute t.1 t.2.1 t.2.2:=by
 cases e with
 |Attribute e x p=>cases h;rfl
 |_=>exact nomatch (show Ae=Aa t from h)
noncomputable def US(n:Af)(T:Tc)(b:Ac AI):Ao DC:=(LM b).bind λs=>(Pi s.1).bind λt1=>(Ph t1.1).bind λa1=>(GV a1.1).bind λs1=>(GV t1.2.1).bind λq1=>(Pi s.2).bind λt2=>(Ph t2.1).bind λa2=>(GV a2.1).bind λs2=>
 if (s1.1==("self" : Ag)&&(a1.2.1==("p" : Ag)&&(q1.1==("p" : Ag)&&(s2.1==("self" : Ag)&&(a2.2.1==("triple" : Ag)&&(Iw t2.2.1&&A6 n T t2.2.1 (.call 17 (.cons (.var 1) (.cons (.var 2) .nil)))))))))=Ab then Aa () else Ae
theorem fF{n:Af}{T:Tc}{b:Ac AI}(h:US n T b=Aa u):∃ p0 p1 p2 p3 p4 p5 p6 ev,b=[.Assign [.Attribute (.Name "self" p0) "p" p1] (.Name "p" p2) p6,.Assign [.Attribute (.Name "self" p3) "triple" p4] ev p5]/\Iw ev=Ab/\A6 n T ev (.call 17 (.cons (.var 1) (.cons (.var 2) .nil)))=Ab:=by
 obtain⟨s,e1,h⟩:=Ax.mp h;obtain⟨t1,e2,h⟩:=Ax.mp h;obtain⟨a1,e3,h⟩:=Ax.mp h;obtain⟨s1,e4,h⟩:=Ax.mp h;obtain⟨q1,e5,h⟩:=Ax.mp h;obtain⟨t2,e6,h⟩:=Ax.mp h;obtain⟨a2,e7,h⟩:=Ax.mp h;obtain⟨s2,e8,h⟩:=Ax.mp h;split at h
 .rename_i hc;simp only[Al,AG]at hc;obtain⟨c1,c2,c3,c4,c5,c6,c7⟩:=hc;rw[MB e1,RF e2,RE e3,HK e4,HK e5,RF e6,RE e7,HK e8,c1,c2,c3,c4,c5];exact⟨_,_,_,_,_,_,_,_,rfl,c6,c7⟩
 .cases h
noncomputable def LN(fuel:Af)(fns:Ac (Ag×Af×Af))(bl:Ac Ag)(rzs exs gls:Ac (Ag×Af))(st:AI):Am:=
 (BD st).kind==.function&&((BD st).isCoroutine==Ad&&((BD st).isGenerator==Ad&&((BD st).names.lookup ("self" : Ag)==Aa .local&&((BD st).names.lookup ("p" : Ag)==Aa .local&&((BD st).names.lookup ("numbers" : Ag)==Aa .local&&(((BD st).names.all λy=>y.2 != .free) &&
  (US fuel ⟨BD st,["self", "p", "numbers"],fns,bl,rzs,exs,gls,Ab⟩ (En st)).isSome))))))
noncomputable def Jo(s:AI)(j:Af):AI:=match s with
  |.ClassDef _ _ _ b _ _ _ _ _ _ _=>b.getD j s
  |s=>s
def InR(K:Fg)(fns:Ac (Ag×Af×Af))(bl:Ac Ag)(rzs exs gls:Ac (Ag×Af))(Pg:Prg)(fuel:Af):Prop:=(∀ c,c<3->Pg.defs (900+c)=mkC c)/\Pg.defs 910=inC/\∃ f fd x qual st,FunX K x qual st f fd/\ED K fd ["self", "p", "numbers"] []/\LN fuel fns bl rzs exs gls st=Ab/\∀ c,c<3->∃ C,OC K c=Aa C/\Mk K C f
structure Tab (K:Fg) (mg:Ag->Ao Aj) (CL:ClA) (fns:Ac (Ag×Af×Af)) (bl:Ac Ag) (rzs exs gls:Ac (Ag×Af)) (Pg:Prg) (fuel:Af):Prop where
 os:OS K mg
 ini:InR K fns bl rzs exs gls Pg fuel
 xt:XT Pg.up Pg.xn CL rzs exs K mg
 bln:∀ x,x∈bl->mg x=Ae
 gl:∀ p∈gls,Nr K mg CL p.1 (Pg.G p.2)
 fn:∀ p∈fns,KO K mg fns bl rzs exs gls Pg fuel p
theorem mQ(Pg:Prg)(n i:Af):(gam Pg n).fr i=(Pg.defs i).fr:=by cases n<;>rfl
theorem Tx(Pg:Prg)(n:Af):(gam Pg n).up=Pg.up:=by cases n<;>rfl
theorem Uo(Pg:Prg)(n:Af):(gam Pg n).G=Pg.G:=by cases n<;>rfl
theorem Tw(Pg:Prg)(n:Af):(gam Pg n).xn=Pg.xn:=by cases n<;>rfl
section
variable{P:AL}{w:AV}{K:Fg}{mg:Ag->Ao Aj}{base:AF}{CL:ClA}{fns:Ac (Ag×Af×Af)}{bl:Ac Ag}{rzs exs gls:Ac (Ag×Af)}{Pg:Prg}{fuel:Af}
def Lvl(P:AL)(w:AV)(K:Fg)(mg:Ag->Ao Aj)(base:AF)(CL:ClA)(Pg:Prg)(n:Af)(p:Ag×Af×Af):Prop:=∃ f fd ps,HQ K mg p.1=Aa (.ref f)/\Bc K (.ref f)=Ab/\ED K fd ps []/\ps.length=p.2.2%1000/\(p.2.2<1000->FnOk P w K mg base (CXR P w) n f fd ps (spD K CL (p.2.2%1000) ((gam Pg n).fr p.2.1) ((gam Pg n).F p.2.1)))/\(1000<=p.2.2->HotOk P w K mg base n f fd ps (spH K CL (p.2.2%1000) ((gam Pg n).fr p.2.1) ((gam Pg n).F p.2.1)))
theorem S6(t:Tab K mg CL fns bl rzs exs gls Pg fuel){n:Af}(hlv:∀ q∈fns,Lvl P w K mg base CL Pg n q)(hmk:∀ c,c<3->MkR P w K mg base CL (gam Pg n).F n c){st:AI}{f:Ak}{ps N:Ac Ag}{m id:Af}(h2:FunX K x qual st f fd)(h4:ps.length=m)(h5:Gi fuel Ad fns bl rzs exs gls ps N st (Pg.defs id)=Ab):FnOk P w K mg base (CXR P w) (n+1) f fd ps (spD K CL m ((gam Pg (n+1)).fr id) ((gam Pg (n+1)).F id)):=by
  unfold Gi at h5;simp only[Al,AG,Bm,Bl,B2,G1,KU]at h5;obtain⟨⟨⟨⟨⟨⟨⟨⟨c1,c2⟩,c3⟩,c4⟩,c5⟩,c6⟩,c7⟩,c8⟩,c9⟩:=h5;obtain⟨oc,od,dV,kV,doc,pm,an,cdv,ct,osl,rfl,lk,hcd⟩:=h2.ex;refine PM (N:=N) lk hcd ⟨c1,c2,c3,K9 c4,c5,c6,c7⟩ (λvs H Q E ⟨ds,A,z,_⟩=>z.trans h4.symm) λA outer s H vs Q E hr ⟨ds,B,hl,hA,hreps,hpost⟩=>?_
  have xt:XT (gam Pg n).up (gam Pg n).xn CL rzs exs K mg:=by rw[Tx,Tw];exact t.xt
  have gl:∀ p∈gls,Nr K mg CL p.1 ((gam Pg n).G p.2):=by rw[Uo];exact t.gl
  have key:∀ W:XW,(∀ x cls dx H',W x H'->E6 K CL H' cls dx x->E cls dx H')->Bs K CL ⟨λb o=>H b=Aa o,λ_ _ _=>AW⟩ B W (evSs (gam Pg n) (Bu (Pg.defs id).n ds) (Pg.defs id).body) {nx:=λ_ H'=>Q .non H',rt:=Q} ->
      ∃ t,PSs (E8 (CXR P w) P w K mg base N qual (BD st) f cdv A outer s H E) (En st) t/\t {nx:=λ_ H'=>Q .non H',rt:=Q} (start N vs) H:=λW hW hp=>by
    have v:VX (gam Pg n) CL n W ⟨BD st,N,fns,bl,rzs,exs,gls,Ab⟩ (E8 (CXR P w) P w K mg base N qual (BD st) f cdv A outer s H E):=⟨rfl,c1,rfl,K9 c4,rfl,hr,t.bln,t.os,hmk,hlv,ownR,Ue hW,rzR hW,fzR hW,xt,gl,λ_=>rfl⟩
    exact⟨_,(PV fuel).ss W _ _ _ (Pg.defs id).body v ⟨λ_=>rfl,rfl,rfl,rfl⟩ c9 ⟨λb o=>H b=Aa o,λ_ _ _=>AW⟩ B,_,ZU c8 hA hreps,hp⟩
  have no:∀ x cls dx H',W0 x H'->E6 K CL H' cls dx x->E cls dx H':=λ_ _ _ _ z=>z.elim
  have e:(gam Pg (n+1)).F id ds=E9 Pg.xs ((evSs (gam Pg n) (Bu (Pg.defs id).n ds) (Pg.defs id).body).ans (Pg.defs id).fr):=rfl;rw[e,mQ]at hpost;have cutO:∀ r:R D,(∀ x,r≠.exn x)->E9 Pg.xs r=r:=λr hr=>by
    cases Pg.xs<;>cases r<;>first|rfl|exact absurd rfl (hr _)
  cases eo:evSs (gam Pg n) (Bu (Pg.defs id).n ds) (Pg.defs id).body with
  |next U'=>
    refine key W0 no ?_;rw[eo]at hpost ⊢;cases ef:(Pg.defs id).fr with
    |true=>rw[ef]at hpost;rw[cutO _ (by intro x z;cases z)]at hpost;exact hpost.elim
    |false=>
      rw[ef]at hpost;rw[cutO _ (by intro x z;cases z)]at hpost
      exact λY' H' x'=>hpost .non H' (λb o z=>x'.same b o z) ⟨rfl,λz=>nomatch z⟩
  |ret d b=>
    refine key W0 no ?_;rw[eo]at hpost ⊢;intro v H' sm rp fr;have hp2:(match E9 Pg.xs (if ((Pg.defs id).fr&&(!b&&isL d))=Ab then R.bad else R.ok d) with
      |.ok d=>∀ v H',Az H H'->Du K CL (Pg.defs id).fr H B H' v d->Q v H'
      |.exn x=>∀ cls dx H',Az H H'->E6 K CL H' cls dx x->E cls dx H'
      | .bad=>AW):=hpost
    cases ec:((Pg.defs id).fr&&(!b&&isL d)) with
    |true=>rw[ec,At rfl,cutO _ (by intro x z;cases z)]at hp2;exact hp2.elim
    |false=>
      rw[ec,AA (by decide),cutO _ (by intro x z;cases z)]at hp2
      refine hp2 v H' sm ⟨rp,λefr es hd=>?_⟩
      subst hd;have eb:b=Ab:=by
        cases b with
        |true=>rfl
        |false=>rw[efr]at ec;cases ec
      obtain⟨a,xs,h1,h2,h3,h4⟩:=fr eb es rfl;refine⟨a,xs,h1,?_,h3,h4⟩;cases ha:H a with
      |none=>rfl
      |some o=>exact absurd ha (h2 o)
  |brk U'=>rw[eo]at hpost;have hp2:(match E9 Pg.xs (R.bad:R D) with | .ok _=>_ | .exn _=>_ | .bad=>AW):=hpost;rw[cutO _ (by intro x z;cases z)]at hp2;exact hp2.elim
  |cont U'=>rw[eo]at hpost;have hp2:(match E9 Pg.xs (R.bad:R D) with | .ok _=>_ | .exn _=>_ | .bad=>AW):=hpost;rw[cutO _ (by intro x z;cases z)]at hp2;exact hp2.elim
  |bad=>rw[eo]at hpost;have hp2:(match E9 Pg.xs (R.bad:R D) with | .ok _=>_ | .exn _=>_ | .bad=>AW):=hpost;rw[cutO _ (by intro x z;cases z)]at hp2;exact hp2.elim
  |exn x U'=>
    rw[eo]at hpost;have hp2:(match E9 Pg.xs (R.exn x:R D) with
      |.ok d=>∀ v H',Az H H'->Du K CL (Pg.defs id).fr H B H' v d->Q v H'
      |.exn x=>∀ cls dx H',Az H H'->E6 K CL H' cls dx x->E cls dx H'
      | .bad=>AW):=hpost
    cases ex:Pg.xs with
    |false=>rw[ex]at hp2;exact hp2.elim
    |true=>
      rw[ex]at hp2;have hp3:∀ cls dx H',Az H H'->E6 K CL H' cls dx x->E cls dx H':=hp2;refine key (λy H'=>y=x/\Az H H') (λy cls dx H' ⟨e1,sm⟩ xr=>?_) ?_
      · subst e1;exact hp3 cls dx H' sm xr
      · rw[eo];exact λH' sm=>⟨rfl,sm⟩
theorem nS(t:Tab K mg CL fns bl rzs exs gls Pg fuel){n:Af}(hlv:∀ q∈fns,Lvl P w K mg base CL Pg n q)(hmk:∀ c,c<3->MkR P w K mg base CL (gam Pg n).F n c){st:AI}{f:Ak}{ps N:Ac Ag}{m id:Af}(h2:FunX K x qual st f fd)(h4:ps.length=m)(h5:Gi fuel Ab fns bl rzs exs gls ps N st (Pg.defs id)=Ab):HotOk P w K mg base (n+1) f fd ps (spH K CL m ((gam Pg (n+1)).fr id) ((gam Pg (n+1)).F id)):=by
 exfalso
 unfold Gi at h5;simp at h5
noncomputable def Gn(Pg:Prg)(n:Af):Ac D->R D
  | [d1,d2]=>(match (gam Pg n).F 17 [d1,d2] with
    |.ok t=>if nlD 5 t=Ab then .ok (.tup [d1,t]) else .bad
    | _=>.bad)
  |_=>.bad
theorem nY(Pg:Prg)(n:Af)(ds:Ac D)(y:Ex):Gn Pg n ds≠.exn y:=by
  match ds with
  |[]=>exact λz=>nomatch z
  |[_]=>exact λz=>nomatch z
  |_::_::_::_=>exact λz=>nomatch z
  |[d1,d2]=>
    show (match (gam Pg n).F 17 [d1,d2] with
      |.ok t=>if nlD 5 t=Ab then .ok (.tup [d1,t]) else .bad
      | _=>.bad:R D)≠.exn y
    split
    · split<;>exact λz=>nomatch z
    · exact λz=>nomatch z
theorem eY(t:Tab K mg CL fns bl rzs exs gls Pg fuel){n:Af}(hlv:∀ q∈fns,Lvl P w K mg base CL Pg n q)(hmk:∀ c,c<3->MkR P w K mg base CL (gam Pg n).F n c){st:AI}{f:Ak}(h2:FunX K x qual st f fd)(h5:LN fuel fns bl rzs exs gls st=Ab):
    FnOk P w K mg base (CXR P w) (n+1) f fd ["self", "p", "numbers"] (spI K CL (Gn Pg n)):=by
  unfold LN at h5;simp only[Al,AG,Bl,G1,KU]at h5;obtain⟨c1,c2,c3,c4,c5,c6,c7,c8⟩:=h5;obtain⟨u,c8⟩:=Ci.mp c8;obtain⟨p0,p1,p2,p3,p4,p5,p6,ev,eb,hnc,hck⟩:=fF c8;obtain⟨oc,od,dV,kV,doc,pm,an,cdv,ct,osl,rfl,lk,hcd⟩:=h2.ex;refine PM (N:=["self", "p", "numbers"]) lk hcd ⟨c1,c2,c3,by decide,rfl,λy hy=>?_,c7⟩ (λvs H Q E ⟨x,C,dx,us,ds,A,H0,e,z,_⟩=>by rw[e,A2,z];rfl) λA outer s H vs Q E hr ⟨x,C,dx,us,ds,B,H0,e,hl,cl,np,nt,hx,h0,sm,hA,hreps,hpost⟩=>?_
  · rcases AH.mp hy with rfl|hy
    · exact .inl c4
    · rcases AH.mp hy with rfl|hy
      · exact .inl c5
      · rw[A9.mp hy];exact .inl c6
  subst e;have xt:XT (gam Pg n).up (gam Pg n).xn CL rzs exs K mg:=by rw[Tx,Tw];exact t.xt
  have gl:∀ p∈gls,Nr K mg CL p.1 ((gam Pg n).G p.2):=by rw[Uo];exact t.gl
  have no:∀ x cls dx H',W0 x H'->E6 K CL H' cls dx x->E cls dx H':=λ_ _ _ _ z=>z.elim
  have v:VX (gam Pg n) CL n W0 ⟨BD st,["self", "p", "numbers"],fns,bl,rzs,exs,gls,Ab⟩ (E8 (CXR P w) P w K mg base ["self", "p", "numbers"] qual (BD st) f cdv A outer s H E):=⟨rfl,c1,rfl,(show (["self", "p", "numbers"]:Ac Ag).Nodup by decide),rfl,hr,t.bln,t.os,hmk,hlv,ownR,Ue no,rzR no,fzR no,xt,gl,λ_=>rfl⟩
  match us,hl with
  |[v1,v2],_=>
    match ds,hreps with
    |[],r=>exact r.elim
    |[_],r=>exact r.2.elim
    |_::_::_::_,r=>exact r.2.2.elim
    |[d1,d2],r=>
      have sv:=((snd fuel).e W0 _ _ ev _ v hck).se;obtain⟨tt,pss,rd⟩:=Zn (H:=H) (H0:=H0) (x:=x) (C:=C) (dx:=dx) (v1:=v1) (v2:=v2) (d1:=d1) (d2:=d2) (A:=B) (Q:=Q) (Y:=L2.start ["self", "p", "numbers"] [.ref x,v1,v2]) (p0:=p0) (p1:=p1) (p2:=p2) (p3:=p3) (p4:=p4) (p5:=p5) (p6:=p6) (t0:=E8 (CXR P w) P w K mg base ["self", "p", "numbers"] qual (BD st) f cdv A outer s H E)
        (λp=>Ko rfl (.inl c4)) (λp=>Ko rfl (.inl c5)) sv (JL hnc)
      refine⟨tt,by rw[eb];exact pss,rd rfl cl np nt hx h0 sm hA r.1 r.2.1 ?_⟩
      have hp2:(match (match (gam Pg n).F 17 [d1,d2] with
          |.ok t=>if nlD 5 t=Ab then R.ok (D.tup [d1,t]) else .bad
          | _=>.bad) with
        |.ok d=>∀ e1 e2,d=.tup [e1,e2]->∀ v1 v2 H',Az H0 H'->H' x=Aa (.ins C dx [("p",v1),("triple",v2)])->Rep K CL H' B v1 e1->Rep K CL H' B v2 e2->Q .non H'
        | _=>AW):=hpost
      cases e17:(gam Pg n).F 17 [d1,d2] with
      |bad=>rw[e17]at hp2;exact hp2.elim
      |exn y=>rw[e17]at hp2;exact hp2.elim
      |ok t0=>
        rw[e17]at hp2;dsimp only at hp2;by_cases hn:nlD 5 t0=Ab
        · rw[At hn]at hp2;exact⟨t0,rfl,hn,λw1 w2 H' a b c d=>hp2 _ _ rfl w1 w2 H' a b c d⟩
        · rw[AA hn]at hp2;exact hp2.elim
theorem mkF:(mkC c).run Z [d1,d2]=(noX (Z.F 910 [d1,d2])).bind (EC c):=by
 simp only[Df.run,mkC,Bu,Z_6,SK];show (O.seq (O.of _ ((noX ((Z.F 910 [d1,d2]).bind λd=>.ok d)).bind λx=>EC c x) λd=>O.ret d _) _).ans Ad=_
 have nx:∀ d y,EC c d≠.exn y:=λd y z=>by
  unfold EC at z;split at z
  .split at z<;>cases z
  .cases z
 cases Z.F 910 [d1,d2] with
 |bad=>rfl
 |exn y=>rfl
 |ok d=>
  show (O.seq (O.of _ (EC c d) λd=>O.ret d _) _).ans Ad=EC c d
  cases e:EC c d with
  |ok _=>rfl
  |bad=>rfl
  |exn y=>exact absurd e (nx d y)
theorem inF:noX (inC.run Z [d1,d2])=noX ((Z.F 17 [d1,d2]).bind λt=>.ok (.tup [d1,t])):=by
 simp[Df.run,inC,Bu];cases Z.F 17 [d1,d2]<;>rfl
theorem T9(t:Tab K mg CL fns bl rzs exs gls Pg fuel):∀ n,(∀ m,m<=n->∀ q∈fns,Lvl P w K mg base CL Pg m q)->∀ c,c<3->MkR P w K mg base CL (gam Pg n).F n c:=by
  intro n
  induction n using Nat.strongRecOn with
  |ind n ih=>
    intro hl c hc;obtain⟨i1,i2,f,fd,x,qual,st,h2,h3,h5,h6⟩:=t.ini
    match n,ih,hl with
    |0,_,_=>exact .inl λds=>rfl
    |1,_,_=>
      refine .inl λds=>?_
      have e:(gam Pg 1).F (900+c) ds=E9 Pg.xs ((Pg.defs (900+c)).run (gam Pg 0) ds):=rfl;rw[e,i1 c hc];have e2:(mkC c).run (gam Pg 0) ds=.bad:=by
        match ds with
        |[]=>rfl
        |[_]=>rfl
        |_::_::_=>rfl
      rw[e2];cases Pg.xs<;>rfl
    |m+2,ih,hl=>
      obtain⟨C,o1,M⟩:=h6 c hc;refine .inr ⟨C,f,fd,Gn Pg m,m+1,o1,M,h3,rfl,eY t (λq hq=>hl m (by omega) q hq) (ih m (by omega) λk hk=>hl k (by omega)) h2 h5,λds hd=>?_,nY Pg m⟩
      match ds,hd with
      |[d1,d2],_=>
        have cutN:∀ r:R D,noX (E9 Pg.xs r)=noX r:=λr=>by cases Pg.xs<;>cases r<;>rfl
        have e:(gam Pg (m+2)).F (900+c) [d1,d2]=E9 Pg.xs ((Pg.defs (900+c)).run (gam Pg (m+1)) [d1,d2]):=rfl;have e0:(gam Pg (m+1)).F 910 [d1,d2]=E9 Pg.xs ((Pg.defs 910).run (gam Pg m) [d1,d2]):=rfl;rw[e,i1 c hc,mkF,e0,i2,cutN,inF];cases e17:(gam Pg m).F 17 [d1,d2] with
        |bad=>refine .inl ?_;cases Pg.xs<;>rfl
        |exn y=>refine .inl ?_;cases Pg.xs<;>rfl
        |ok t0=>
          by_cases hn:nlD 5 t0=Ab
          · refine .inr ?_;have g:Gn Pg m [d1,d2]=.ok (.tup [d1,t0]):=by
              show (match (gam Pg m).F 17 [d1,d2] with
                |.ok t=>if nlD 5 t=Ab then .ok (.tup [d1,t]) else .bad
                | _=>.bad:R D)=_
              rw[e17];exact At hn
            rw[g];show E9 Pg.xs (EC c (.tup [d1,t0]))=EC c (.tup [d1,t0]);have:EC c (.tup [d1,t0])=.ok (.obj c [("p",d1),("triple",t0)]):=At hn;rw[this];cases Pg.xs<;>rfl
          · refine .inl ?_;have:EC c (.tup [d1,t0])=.bad:=AA hn;show E9 Pg.xs (EC c (.tup [d1,t0]))=.bad;rw[this];cases Pg.xs<;>rfl
theorem R5(t:Tab K mg CL fns bl rzs exs gls Pg fuel):∀ n m,m<=n->∀ p∈fns,Lvl P w K mg base CL Pg m p:=by
 have zero:∀ p∈fns,Lvl P w K mg base CL Pg 0 p:=λp hp=>by
  obtain⟨f,fd,ps,qual,st,N,h1,⟨x0,h2⟩,h3,h4,h5⟩:=t.fn p hp;exact⟨f,fd,ps,h1,h2.kp,h3,h4,λ_=>⟨λvs H Q E ⟨ds,A,_,_,_,z⟩=>z.elim,λA outer s H args us vs Q E _ _ _ _ ⟨ds,A,_,_,_,z⟩=>z.elim⟩,λ_=>⟨λvs H Q E ⟨ds,A,_,_,_,z⟩=>z.elim,λA ev outer s H args us vs Q E _ _ _ _ ⟨ds,A,_,_,_,z⟩=>z.elim⟩⟩
 intro n
 induction n with
 |zero=>intro m hm p hp;obtain rfl:=Nat.le_zero.mp hm;exact zero p hp
 |succ n ih=>
  intro m hm p hp;by_cases hmn:m<=n
  .exact ih m hmn p hp
  .have:m=n+1:=by omega
   subst this;have mk:=T9 (P:=P) (w:=w) (base:=base) t n ih;obtain⟨f,fd,ps,qual,st,N,h1,⟨x0,h2⟩,h3,h4,h5⟩:=t.fn p hp;refine⟨f,fd,ps,h1,h2.kp,h3,h4,λhlt=>?_,λhge=>?_⟩
   .have eb:De 1000 p.2.2=Ad:=by
     cases e:De 1000 p.2.2 with
     |false=>rfl
     |true=>exact absurd (Bw e) (by omega)
    rw[eb]at h5;exact S6 t (λq hq=>ih n (AK _) q hq) mk h2 h4 h5
   .rw[Nat.ble_eq_true_of_le hge]at h5;exact nS t (λq hq=>ih n (AK _) q hq) mk h2 h4 h5
theorem jG(t:Tab K mg CL fns bl rzs exs gls Pg fuel)(n:Af):∀ p∈fns,Lvl P w K mg base CL Pg n p:=R5 t n n (AK _)
theorem jH(t:Tab K mg CL fns bl rzs exs gls Pg fuel)(n:Af):∀ c,c<3->MkR P w K mg base CL (gam Pg n).F n c:=T9 t n (R5 t n)
theorem mY{s s':Ap}{e:Aj}(h:CXR P w [] H s (λ_ _ _=>AW) e s'):AW:=by
 obtain⟨_,_,_,_,_,_,_,_,_,_,_,_,_,_,_,z⟩:=h;exact z
noncomputable def Ve:AI->Ao (An×AC)
 |.Expr e p=>Aa (e,p)
 |_=>Ae
theorem eI{e:AI}{t:An×AC}(h:Ve e=Aa t):e=.Expr t.1 t.2:=by
 cases e with
 |Expr x p=>cases h;rfl
 |_=>exact nomatch (show Ae=Aa t from h)
noncomputable def Vg:AI->Ao (An×An×AC)
  | .Assign ts v p=>(match ts with
    |[t]=>Aa (t,v,p)
    | _=>Ae)
  |_=>Ae
theorem eK{e:AI}{t:An×An×AC}(h:Vg e=Aa t):e=.Assign [t.1] t.2.1 t.2.2:=by
 cases e with
 |Assign ts v p=>
  cases ts with
  |nil=>exact nomatch (show Ae=Aa t from h)
  |cons a ts=>
   cases ts with
   |nil=>cases h;rfl
   |cons=>exact nomatch (show Ae=Aa t from h)
 |_=>exact nomatch (show Ae=Aa t from h)
noncomputable def P6:An->Ao (An×Ag×AC)
 |.Attribute e x p=>Aa (e,x,p)
 |_=>Ae
theorem RT{e:An}{t:An×Ag×AC}(h:P6 e=Aa t):e=.Attribute t.1 t.2.1 t.2.2:=by
 cases e with
 |Attribute e x p=>cases h;rfl
 |_=>exact nomatch (show Ae=Aa t from h)
noncomputable def Vd:An->Ao (Ac An×AC)
 |.JoinedStr l p=>Aa (l,p)
 |_=>Ae
theorem eG{e:An}{t:Ac An×AC}(h:Vd e=Aa t):e=.JoinedStr t.1 t.2:=by
 cases e with
 |JoinedStr l p=>cases h;rfl
 |_=>exact nomatch (show Ae=Aa t from h)
noncomputable def P5:An->Ao (An×Ah×AC)
  | .FormattedValue e n f p=>(match f with
    |none=>Aa (e,n,p)
    | _=>Ae)
  |_=>Ae
theorem RS{e:An}{t:An×Ah×AC}(h:P5 e=Aa t):e=.FormattedValue t.1 t.2.1 Ae t.2.2:=by
 cases e with
 |FormattedValue e n f p=>
  cases f with
  |none=>cases h;rfl
  |some=>exact nomatch (show Ae=Aa t from h)
 |_=>exact nomatch (show Ae=Aa t from h)
noncomputable def Nb:An->Ao (Ag×Af×AC)
  | .Constant c k p=>(match c with
    |.str z=>Aa (z,k,p)
    | _=>Ae)
  |_=>Ae
theorem OH{e:An}{t:Ag×Af×AC}(h:Nb e=Aa t):e=.Constant (.str t.1) t.2.1 t.2.2:=by
 cases e with
 |Constant c k p=>
  cases c with
  |str z=>cases h;rfl
  |_=>exact nomatch (show Ae=Aa t from h)
 |_=>exact nomatch (show Ae=Aa t from h)
noncomputable def Vc{α:Type}:Ac α->Ao (α×α×α)
 |[a,b,c]=>Aa (a,b,c)
 |_=>Ae
theorem eF{l:Ac α}{t:α×α×α}(h:Vc l=Aa t):l=[t.1,t.2.1,t.2.2]:=by
  match l,h with
  |[a,b,c],h=>cases h;rfl
  |[],h=>cases h
  |[_],h=>cases h
  |[_,_],h=>cases h
  |_::_::_::_::_,h=>cases h
noncomputable def Yy(par:Ag)(j:Ac An):Ao DC:=(LM j).bind λfk=>(P5 fk.1).bind λfm=>(GV fm.1).bind λq1=>(Nb fk.2).bind λz=>if (q1.1==par&&(decide (fm.2.1=-1)&&De z.1.length 1000))=Ab then Aa () else Ae
noncomputable def Yx(par:Ag)(j:Ac An):Ao DC:=(Vc j).bind λfk=>(Nb fk.1).bind λy=>(P5 fk.2.1).bind λfm=>(GV fm.1).bind λq1=>(Nb fk.2.2).bind λz=>if (q1.1==par&&(decide (fm.2.1=-1)&&(De y.1.length 400&&De z.1.length 1000)))=Ab then Aa () else Ae
noncomputable def fsX(par:Ag)(e:An):Ao DC:=(Vd e).bind λj=>if ((Yy par j.1).isSome||(Yx par j.1).isSome)=Ab then Aa () else Ae
theorem mS{e:An}(h:fsX par e=Aa u):FsOk par e:=by
 obtain⟨j,e1,h⟩:=Ax.mp h;rw[eG e1];split at h
 .rename_i hc;rcases orT hc with hc|hc
  .obtain⟨_,h⟩:=Ci.mp hc;obtain⟨fk,e2,h⟩:=Ax.mp h;obtain⟨fm,e3,h⟩:=Ax.mp h;obtain⟨q1,e4,h⟩:=Ax.mp h;obtain⟨z,e5,h⟩:=Ax.mp h;split at h
   .rename_i hc;simp only[Al,AG,AD]at hc;obtain⟨c1,c2,c3⟩:=hc;rw[MB e2,RS e3,HK e4,OH e5,c1,c2];exact mR (Bw c3)
   .cases h
  .obtain⟨_,h⟩:=Ci.mp hc;obtain⟨fk,e2,h⟩:=Ax.mp h;obtain⟨y,e6,h⟩:=Ax.mp h;obtain⟨fm,e3,h⟩:=Ax.mp h;obtain⟨q1,e4,h⟩:=Ax.mp h;obtain⟨z,e5,h⟩:=Ax.mp h;split at h
   .rename_i hc;simp only[Al,AG,AD]at hc;obtain⟨c1,c2,c4,c3⟩:=hc;rw[eF e2,OH e6,RS e3,HK e4,OH e5,c1,c2];exact aD (Bw c4) (Bw c3)
   .cases h
 .cases h
noncomputable def Vv(g par f:Ag)(b:Ac AI):Ao DC:=(LM b).bind λs=>(Ve s.1).bind λc=>(Vf c.1).bind λcl=>(P6 cl.1).bind λat1=>(GV at1.1).bind λg1=>(LM cl.2.1).bind λab=>(GV ab.1).bind λs1=>(fsX par ab.2).bind λ_=>(Vg s.2).bind λt=>(P6 t.1).bind λat2=>(GV at2.1).bind λs2=>(GV t.2.1).bind λq2=>
 if (g1.1==g&&(at1.2.1==("__init__" : Ag)&&(s1.1==("self" : Ag)&&(s2.1==("self" : Ag)&&(at2.2.1==f&&(q2.1==par&&at1.2.2.endLine==cl.2.2.line))))))=Ab then Aa () else Ae
noncomputable def Vw(g par f:Ag)(b:Ac AI):Am:=(Vv g par f b).isSome
theorem eZ{g par f:Ag}{b:Ac AI}(h:Vw g par f b=Ab):∃ j np apos p1 cpos p6 p7 p8 p9 p10,b=Qa g par f j np apos p1 cpos p6 p7 p8 p9 p10/\(apos.endLine==cpos.line)=Ab/\FsOk par j:=by
 obtain⟨_,h⟩:=Ci.mp (show (Vv g par f b).isSome=Ab from h)
 obtain⟨s,e1,h⟩:=Ax.mp h;obtain⟨c,e2,h⟩:=Ax.mp h;obtain⟨cl,e3,h⟩:=Ax.mp h;obtain⟨at1,e4,h⟩:=Ax.mp h;obtain⟨g1,e5,h⟩:=Ax.mp h;obtain⟨ab,e6,h⟩:=Ax.mp h;obtain⟨s1,e7,h⟩:=Ax.mp h;obtain⟨_,e8,h⟩:=Ax.mp h;obtain⟨t,f4,h⟩:=Ax.mp h;obtain⟨at2,f5,h⟩:=Ax.mp h;obtain⟨s2,f6,h⟩:=Ax.mp h;obtain⟨q2,f7,h⟩:=Ax.mp h;split at h
 .rename_i hc;simp only[Al,AG,AD]at hc;obtain⟨c1,c2,c3,c6,c7,c8,h1⟩:=hc;rw[MB e1,eI e2,eJ e3,RT e4,HK e5,MB e6,HK e7,eK f4,RT f5,HK f6,HK f7,c1,c2,c3,c6,c7,c8];exact⟨_,_,_,_,_,_,_,_,_,_,rfl,by rw[AG];exact h1,mS e8⟩
 .cases h
noncomputable def LV(g par f:Ag)(st:AI):Am:=
 (BD st).kind==.function&&((BD st).isCoroutine==Ad&&((BD st).isGenerator==Ad&&(Kq ["self",par]&&((BD st).names.lookup ("self" : Ag)==Aa .local&&((BD st).names.lookup par==Aa .local&&(((BD st).names.all λy=>y.2 != .free) &&
  ((BD st).names.lookup g==Aa .globalImplicit&&(g != ("__debug__" : Ag)&&(par != ("__debug__" : Ag)&&(par != ("__classdict__" : Ag)&&Vw g par f (En st)))))))))))
noncomputable def UA(s:AI):AI:=match s with
  |.ClassDef _ _ _ (b::_) _ _ _ _ _ _ _=>b
  |s=>s
def InI(K:Fg)(f:Ak)(qual:Ag)(st:AI):Prop:=∃ fd,Fun K "__init__" qual st f fd
theorem ini_mk{st:AI}{f:Ak}{oc:Aj}{kV doc pm cdv ct:Aj}(l:K.lookup f=Aa ⟨oc,od,.func (BR "__init__" qual (Gd st) (En st) (BD st) .none kV doc pm an cdv ct),osl⟩)(c:DT K cdv qual=Ab)(k:Bc K (.ref f)=Ab):InI K f qual st:=⟨_,OY l c k⟩
theorem TC{fI:Ak}{g par f qual:Ag}{st:AI}(a:InI K fI qual st)(hk:LV g par f st=Ab)(hb:∀(u0 u1 kV doc pm:Aj)(an:Ao Ak)(cdv ct:Aj),FT (BR "__init__" qual (Gd st) (En st) (BD st) .none kV doc pm an cdv ct) ⟨[u0,u1],[]⟩=pure ((["self",par]:Ac Ag).zip [u0,u1]))(xc:C4 K C (Aa (.ref fI))=Ab)(dc:F0 K C=Ab)(ty:Da K (.ref fI)=Aa (.type "function"))(mo:mg g=Aa (.ref OV))(s1:BV K (.ref OV) "__getattribute__" = Aa (Aa (.builtin "type.__getattribute__")))(s2:Fe K OV (.type "type")=Ab)(s3:Fd K (.ref OV) (.type "type") "__init__" = Aa (.val (.builtin "ValueError.__init__")))(hf:Ar K (.ref C) f=Aa Ae)(hs:Ar K (.ref C) "__setattr__" = Aa (Aa (.builtin "object.__setattr__"))):XIn K mg C f:=by
 obtain⟨fd,fn⟩:=a;unfold LV at hk;simp only[Al,AG,Bl,G1,KU]at hk;obtain⟨c1,c2,c3,c4,c5,c6,c7,c8,c9,c10,c11,c12⟩:=hk;obtain⟨j,np,apos,p1,cpos,p6,p7,p8,p9,p10,eb,hl,hz⟩:=eZ c12;exact .mk xc dc fn ty ⟨c1,c2,c3,K9 c4,rfl,λx hx=>by
  rcases AH.mp hx with rfl|hx
  .exact .inl c5
  .rw[A9.mp hx];exact .inl c6,c7⟩ c5 c6 (fn.binds λkV doc pm an cdv ct us hu=>match us,hu with | [u0,u1],_=>hb u0 u1 kV doc pm an cdv ct) eb c8 mo (by simpa using c9) (by simpa using c10) (by simpa using c11) s1 s2 s3 hl hz hf hs
theorem rH(h:∀ ds,xn c ds=.bad\/xn c ds=.ok ⟨c,[]⟩)(e:C4 K C Ae=Ab)(ds:Ac D):xn c ds=.bad\/(xn c ds=.ok ⟨c,[]⟩/\C4 K C Ae=Ab)\/∃ f,XIn K mg C f/\JW xn c f ds:=(h ds).imp id λz=>.inl ⟨z,e⟩
theorem rG{f:Ag}(h:∀ ds,xn c ds=mkX c f ds)(x:XIn K mg C f)(ds:Ac D):xn c ds=.bad\/(xn c ds=.ok ⟨c,[]⟩/\C4 K C Ae=Ab)\/∃ f,XIn K mg C f/\JW xn c f ds:=by
  have e:=h ds
  match ds,e with
  |[],e=>exact .inl e
  |_::_::_,e=>exact .inl e
  |[d],e=>
    have e':xn c [d]=if (xfD 1 d||xfD 2 d)=Ab then .ok ⟨c,[(f,d)]⟩ else .bad:=e
    by_cases z:(xfD 1 d||xfD 2 d)=Ab
    · rw[At z]at e';refine .inr (.inr ⟨f,x,d,?_⟩);rw[B2]at z;rcases z with z|z
      · exact⟨1,rfl,z,by decide,e'⟩
      · exact⟨2,rfl,z,by decide,e'⟩
    · rw[AA z]at e';exact .inl e'
theorem kQ{f:Ag}(h:∀ ds,xn c ds=mkI c f ds)(x:XIn K mg C f)(ds:Ac D):xn c ds=.bad\/(xn c ds=.ok ⟨c,[]⟩/\C4 K C Ae=Ab)\/∃ f,XIn K mg C f/\JW xn c f ds:=by
  have e:=h ds
  match ds,e with
  |[],e=>exact .inl e
  |_::_::_,e=>exact .inl e
  |[d],e=>
    have e':xn c [d]=if xfD 0 d=Ab then .ok ⟨c,[(f,d)]⟩ else .bad:=e
    by_cases z:xfD 0 d=Ab
    · rw[At z]at e';exact .inr (.inr ⟨f,x,d,0,rfl,z,by decide,e'⟩)
    · rw[AA z]at e';exact .inl e'
theorem Pv(dc:F0 K C=Ab)(h1:Ar K (.ref C) "triple" = Aa Ae)(h2:Ar K (.ref C) "points" = Aa Ae)(h3:Ar K (.ref C) "row" = Aa Ae)(f:Ag)(h:(f==("triple" : Ag)||(f==("points" : Ag)||f==("row" : Ag)))=Ab):F0 K C=Ab/\Ar K (.ref C) f=Aa Ae:=by
 rw[B2,B2]at h;rcases h with h|h|h
 .rw[eq_of_beq h];exact⟨dc,h1⟩
 .rw[eq_of_beq h];exact⟨dc,h2⟩
 .rw[eq_of_beq h];exact⟨dc,h3⟩
structure XA (K:Fg) (c:Ag) (x:Ak) (i:Ao Aj):Prop where
 n:A8 K AQ c=Aa (Aa (.ref x))
 y:C4 K x i=Ab
 dc:F0 K x=Ab
 ft:Ar K (.ref x) "triple" = Aa Ae
 fp:Ar K (.ref x) "points" = Aa Ae
 fr:Ar K (.ref x) "row" = Aa Ae
 ok:XcOk K x
theorem xcls_l{x:Ak}(e:IQ K x [.type "ValueError",.type "Exception",.type "BaseException",.type "object"] "ValueError.__new__" = Ab):C4 K x Ae=Ab:=dX e
theorem xa_mk{c:Ag}{x:Ak}{i:Ao Aj}(n:A8 K AQ c=Aa (Aa (.ref x)))(e:C4 K x i=Ab)(dc:F0 K x=Ab)(ft:Ar K (.ref x) "triple" = Aa Ae)(fp:Ar K (.ref x) "points" = Aa Ae)(fr:Ar K (.ref x) "row" = Aa Ae)(ga:Ar K (.ref x) "__getattribute__" = Aa (Aa (.builtin "BaseException.__getattribute__")))(gt:Ar K (.ref x) "__getattr__" = Aa Ae)(cl:Ar K (.ref x) "__class__" = Aa (Aa (.builtin "object.__class__")))(ob:BZ K x (.type "object")=Aa Ab)(be:By K (.ref x) (.type "BaseException")=Aa Ab)(sv:By K (.ref x) (.type "ValueError")=Aa Ab):XA K c x i:=⟨n,e,dc,ft,fp,fr,pN e ga gt cl ob be sv⟩
structure XB (K:Fg) (c:Ag) (x i:Ak) (q:Ag) (st:AI):Prop where
 fi:Ar K (.ref x) "__init__" = Aa (Aa (.ref i))
 a:XA K c x (Aa (.ref i))
 ii:InI K i q st
 ti:Da K (.ref i)=Aa (.type "function")
 sn:Ar K (.ref x) "__setattr__" = Aa (Aa (.builtin "object.__setattr__"))
structure XE (K:Fg) (c:Ag) (x:Ak):Prop where
 n:A8 K AQ c=Aa (Aa (.ref x))
 cs:BZ K x (.type "object")=Aa Ab
 ty:Da K (.ref x)=Aa (.type "type")
structure XO (K:Fg) (x:Ak):Prop where
 sa:BV K (.ref x) "__getattribute__" = Aa (Aa (.builtin "type.__getattribute__"))
 sb:Fe K x (.type "type")=Ab
 sc:Fd K (.ref x) (.type "type") "__init__" = Aa (.val (.builtin "ValueError.__init__"))
def SuC(K:Fg)(C:Ak)(l:Ac (Ak×Am)):Prop:=∀ q∈l,By K (.ref q.1) (.ref C)=Aa q.2
def KC(K:Fg)(C:Ak):Prop:=∀ x i v,C4 K x i=Ab->By K (.ref x) (.ref C)=Aa v->BQ K (.ref x) (.ref C)=Aa v
theorem XA.kc{c:Ag}{x:Ak}{i:Ao Aj}(a:XA K c x i):KC K x:=λ_ _ _ y s=>fN y a.y s
theorem XE.kc{c:Ag}{x:Ak}(a:XE K c x):KC K x:=λ_ _ _ y s=>aV y a.cs a.ty s
noncomputable def clL:Ac (Af×Ak)->Af->Ao Ak
 |[],_=>Ae
 |p::r,c=>if Nat.beq c p.1=Ab then Aa p.2 else clL r c
theorem Lw:∀{l:Ac (Af×Ak)},clL l c=Aa C->(c,C)∈l:=by
 intro l
 induction l with
 |nil=>intro q;cases q
 |cons p r ih=>
  intro q;obtain⟨n,x⟩:=p;by_cases e:Nat.beq c n=Ab
  .cases Nat.eq_of_beq_eq_true e;cases (show Aa x=Aa C from (At e).symm.trans q)
   exact AE
  .exact Aw _ (ih ((AA e).symm.trans q))
structure XR (K:Fg) (mg:Ag->Ao Aj) (xn:Af->Ac D->R Ex) (p:Af×Ak):Prop where
 ok:XcOk K p.2
 nf:∀ f:Ag,(f==("triple" : Ag)||(f==("points" : Ag)||f==("row" : Ag)))=Ab->F0 K p.2=Ab/\Ar K (.ref p.2) f=Aa Ae
 md:∀ ds,xn p.1 ds=.bad\/(xn p.1 ds=.ok ⟨p.1,[]⟩/\C4 K p.2 Ae=Ab)\/∃ f,XIn K mg p.2 f/\JW xn p.1 f ds
theorem XA.row{c:Ag}{x:Ak}(a:XA K c x Ae)(h:∀ ds,xn k ds=.bad\/xn k ds=.ok ⟨k,[]⟩):XR K mg xn (k,x):=⟨a.ok,Pv a.dc a.ft a.fp a.fr,rH h a.y⟩
theorem XB.row{c:Ag}{x i o:Ak}{st:AI}{g par f:Ag}(X:K.In h)(G:h.Ns AQ mg)(b:XB K c x i q st)(w:XO K o)(no:A8 K AQ g=Aa (Aa (.ref o)))(hf:f = "triple"\/f = "points")(hk:LV g par f st=Ab)(hb:∀(u0 u1 kV doc pm:Aj)(an:Ao Ak)(cdv ct:Aj),FT (BR "__init__" q (Gd st) (En st) (BD st) .none kV doc pm an cdv ct) ⟨[u0,u1],[]⟩=pure ((["self",par]:Ac Ag).zip [u0,u1]))(hx:∀ ds,xn k ds=mkX k f ds):XR K mg xn (k,x):=
 ⟨b.a.ok,Pv b.a.dc b.a.ft b.a.fp b.a.fr,rG hx (TC b.ii hk hb b.a.y b.a.dc b.ti (BF X G no) w.sa w.sb w.sc (by rcases hf with rfl|rfl;exact b.a.ft;exact b.a.fp) b.sn)⟩
theorem XB.rowI{c:Ag}{x i o:Ak}{st:AI}(X:K.In h)(G:h.Ns AQ mg)(b:XB K c x i q st)(w:XO K o)(no:A8 K AQ g=Aa (Aa (.ref o)))(hk:LV g par "row" st=Ab)(hb:∀(u0 u1 kV doc pm:Aj)(an:Ao Ak)(cdv ct:Aj),FT (BR "__init__" q (Gd st) (En st) (BD st) .none kV doc pm an cdv ct) ⟨[u0,u1],[]⟩=pure ((["self",par]:Ac Ag).zip [u0,u1]))(hx:∀ ds,xn k ds=mkI k "row" ds):XR K mg xn (k,x):=
 ⟨b.a.ok,Pv b.a.dc b.a.ft b.a.fp b.a.fr,kQ hx (TC b.ii hk hb b.a.y b.a.dc b.ti (BF X G no) w.sa w.sb w.sc b.a.fr b.sn)⟩
theorem pM{l:Ac (Af×Ak)}{rzs exs:Ac (Ag×Af)}(r:∀ p∈l,XR K mg xn p)(rz:∀ p∈rzs,∃ C,clL l p.2=Aa C/\mg p.1=Aa (.ref C))(ex:∀ p∈exs,∃ C,mg p.1=Aa (.ref C)/\KC K C/\SuC K C (l.map λq=>(q.2,(up q.1).contains p.2)))(xb:∀ c,(∀ p∈rzs,p.2≠c)->∀ ds,xn c ds=.bad):XT up xn (clL l) rzs exs K mg:=by
 refine⟨λc C q=>(r _ (Lw q)).ok,rz,λp hp=>?_,λc C ds q=>(r _ (Lw q)).md ds,λc C q=>(r _ (Lw q)).nf,xb⟩
 obtain⟨C,e,kc,su⟩:=ex p hp;have s:∀ c D,clL l c=Aa D->By K (.ref D) (.ref C)=Aa ((up c).contains p.2):=λc D q=>su _ (List.mem_map_of_mem (f:=λq:Af×Ak=>(q.2,(up q.1).contains p.2)) (Lw q))
 exact⟨C,e,λc D q=>let ⟨_,y⟩:=(r _ (Lw q)).ok.exc;kc _ _ _ y (s c D q),s⟩
def MV(K:Fg):Sp:=λvs H Q _=>∃(a:Ak)(ns:Ac Ah),vs=[.ref a]/\ns.length<=63/\SqL K H a (ns.map V.int)/\∀ v H',v=V.bl Ab->Q v H'
theorem law_fn{f:Ak}{F:Ac D->R D}(G:FnOk P w K mg base CX k f fd ps (spD K CL 1 Ad F))(h:∀ ns:Ac Ah,F [.lst (ns.map .int)]=.ok (.bl Ab)):FnOk P w K mg base CX k f fd ps (MV K):=G.imp λvs H Q E ⟨a,ns,e,hl,hS,q⟩=>by
 subst e;have rs:∀ l:Ac Ah,Reps K CL H A0 (l.map V.int) (l.map D.int):=λl=>by
  induction l with
  |nil=>trivial
  |cons x l ih=>exact⟨rfl,ih⟩
 refine⟨[.lst (ns.map .int)],A0,rfl,λ_ z=>z.elim,⟨⟨a,_,rfl,.inl (λz=>z),hS,rs ns⟩,trivial⟩,?_⟩
 rw[h ns];exact λv H' _ r=>q v H' r.1
theorem all_nil{Q:α->Prop}:∀ x∈([]:Ac α),Q x:=λ_ h=>nomatch h
theorem all_cons{Q:α->Prop}{a:α}{l:Ac α}(h1:Q a)(h2:∀ x∈l,Q x):∀ x∈a::l,Q x:=List.forall_mem_cons.2 ⟨h1,h2⟩
def FnI(K:Fg)(f:Ak)(n:Ag)(st:AI):Prop:=∃ fd,Fun K n n st f fd/\A8 K AQ n=Aa (Aa (.ref f))
theorem fni{n:Ag}{st:AI}{f:Ak}{oc:Aj}{kV doc pm cdv ct:Aj}(a:A8 K AQ n=Aa (Aa (.ref f)))(l:K.lookup f=Aa ⟨oc,od,.func (BR n n (Gd st) (En st) (BD st) .none kV doc pm an cdv ct),osl⟩)(c:DT K cdv n=Ab)(k:Bc K (.ref f)=Ab):FnI K f n st:=⟨_,OY l c k,a⟩
def Bd(n:Ag)(st:AI)(ps:Ac Ag)(us:Ac Aj):Prop:=∀(kV doc pm:Aj)(an:Ao Ak)(cdv ct:Aj),FT (BR n n (Gd st) (En st) (BD st) .none kV doc pm an cdv ct) ⟨us,[]⟩=pure (ps.zip us)
theorem aS(h:mg x=v)(e:GB.lookup x=Ae):HQ K mg x=v:=by
 unfold HQ;rw[e];exact h
def MeI(K:Fg)(f:Ak)(m q:Ag)(st:AI):Prop:=∃ fd,Fun K m q st f fd
theorem mei{m q:Ag}{st:AI}{f:Ak}{oc:Aj}{kV doc pm cdv ct:Aj}(l:K.lookup f=Aa ⟨oc,od,.func (BR m q (Gd st) (En st) (BD st) .none kV doc pm an cdv ct),osl⟩)(c:DT K cdv q=Ab)(k:Bc K (.ref f)=Ab):MeI K f m q st:=⟨_,OY l c k⟩
theorem Nd{key m q:Ag}{C f:Ak}{st:AI}{N:Ac Ag}(id:Af)(hk:GB.lookup key=Aa (c,m))(hC:OC K c=Aa C)(hf:Ar K (.ref C) m=Aa (Aa (.ref f)))(A:MeI K f m q st)(hc:Gi fuel Ad fns bl rzs exs gls ["self"] N st (Pg.defs id)=Ab)(hb:∀(u0 kV doc pm:Aj)(an:Ao Ak)(cdv ct:Aj),FT (BR m q (Gd st) (En st) (BD st) .none kV doc pm an cdv ct) ⟨[u0],[]⟩=pure ((["self"]:Ac Ag).zip [u0])):KO K mg fns bl rzs exs gls Pg fuel (key,id,1):=by
 obtain⟨fd,F⟩:=A;refine⟨_,_,["self"],_,_,_,?_,⟨_,MR F⟩,F.binds λkV doc pm an cdv ct us hu=>match us,hu with | [u0],_=>hb u0 kV doc pm an cdv ct,rfl,hc⟩
 unfold HQ;rw[show GB.lookup (key,id,1).1=Aa (c,m) from hk]
 dsimp only;rw[hC];show (Ar K (.ref C) m).join=_;rw[hf];rfl
structure OA (K:Fg) (n:Ag) (C t s f:Ak):Prop where
 n:A8 K AQ n=Aa (Aa (.ref C))
 o:OCls K C
 ft:Ar K (.ref C) "told" = Aa (Aa (.ref t))
 fs:Ar K (.ref C) "shown" = Aa (Aa (.ref s))
 nt:Dq K (.ref t)=Ab
 ns:Dq K (.ref s)=Ab
 m:Mk K C f
theorem oa_mk{n:Ag}{C t s f:Ak}(n1:A8 K AQ n=Aa (Aa (.ref C)))(i:Ar K (.ref C) "__init__" = Aa (Aa (.ref f)))(ft:Ar K (.ref C) "told" = Aa (Aa (.ref t)))(fs:Ar K (.ref C) "shown" = Aa (Aa (.ref s)))(pg:EJ K C Dh=Ab)(hd:FA K C=Ab)(po:G0 K C=Ab)(sa:Ar K (.ref C) "__setattr__" = Aa (Aa (.builtin "object.__setattr__")))(np:Ar K (.ref C) "p" = Aa Ae)(nt:Ar K (.ref C) "triple" = Aa Ae)(ha:Ar K (.ref C) "__class__" = Aa (Aa (.builtin "object.__class__")))(hn:BV K (.builtin "object.__class__") "__get__" = Aa (Aa (.builtin "getset_descriptor.__get__")))(htk:HB K (.builtin "object.__class__")=Aa Ab)(hm:BZ K C (.type "object")=Aa Ab)(t1:Dq K (.ref t)=Ab)(s1:Dq K (.ref s)=Ab)(mk:Hz K C=Ab)(f1:Dq K (.ref f)=Ab)(kp:Bc K (.ref C)=Ab):OA K n C t s f:=
 ⟨n1,⟨⟨pg,hd,po,sa⟩,np,nt,ha,hn,htk,hm⟩,ft,fs,t1,s1,⟨mk,i,f1,kp⟩⟩
theorem HP(h:c<3)(n:A8 K AQ (Nl c)=Aa (Aa (.ref C))):OC K c=Aa C:=by
 unfold OC;rw[At h,n]
def KtC(K:Fg)(C:Ak)(l:Ac (Ak×Am)):Prop:=∀ q∈l,BQ K (.ref C) (.ref q.1)=Aa q.2
theorem sN{C0 C1 C2 t0 t1 t2 s0 s1 s2 f:Ak}(X:K.In h)(G:h.Ns AQ mg)(a0:OA K "Triple" C0 t0 s0 f)(a1:OA K "Point" C1 t1 s1 f)(a2:OA K "Line" C2 t2 s2 f)(k0:KtC K C0 [(C0,Ab),(C1,Ad),(C2,Ad)])(k1:KtC K C1 [(C0,Ab),(C1,Ab),(C2,Ad)])(k2:KtC K C2 [(C0,Ab),(C1,Ad),(C2,Ab)]):OS K mg:=by
  have e0:OC K 0=Aa C0:=HP (by decide) a0.n
  have e1:OC K 1=Aa C1:=HP (by decide) a1.n
  have e2:OC K 2=Aa C2:=HP (by decide) a2.n
  have three:∀ c C,OC K c=Aa C->(c=0/\C=C0)\/(c=1/\C=C1)\/(c=2/\C=C2):=λc C e=>by
    match c,e with
    |0,e=>exact .inl ⟨rfl,(Bg (e0.symm.trans e)).symm⟩
    |1,e=>exact .inr (.inl ⟨rfl,(Bg (e1.symm.trans e)).symm⟩)
    |2,e=>exact .inr (.inr ⟨rfl,(Bg (e2.symm.trans e)).symm⟩)
    |n+3,e=>
      unfold OC at e;rw[AA (by omega)]at e
      cases e
  have fu:∀{f f':Ak}{r:Ao (Ao Aj)},r=Aa (Aa (.ref f))->r=Aa (Aa (.ref f'))->f'=f:=λa b=>by rw[a]at b;cases b;rfl
  refine⟨λc C e=>?_,λc C c' C' e e'=>?_,λc hc=>?_,λc C m f' e hm hf=>?_⟩
  · rcases three c C e with ⟨rfl,rfl⟩|⟨rfl,rfl⟩|⟨rfl,rfl⟩
    · exact a0.o
    · exact a1.o
    · exact a2.o
  · rcases three c C e with ⟨rfl,rfl⟩|⟨rfl,rfl⟩|⟨rfl,rfl⟩<;>rcases three c' C' e' with ⟨rfl,rfl⟩|⟨rfl,rfl⟩|⟨rfl,rfl⟩
    · exact k0 (_,Ab) (by simp)
    · exact k0 (_,Ad) (by simp)
    · exact k0 (_,Ad) (by simp)
    · exact k1 (_,Ab) (by simp)
    · exact k1 (_,Ab) (by simp)
    · exact k1 (_,Ad) (by simp)
    · exact k2 (_,Ab) (by simp)
    · exact k2 (_,Ad) (by simp)
    · exact k2 (_,Ab) (by simp)
  · match c,hc with
    |0,_=>exact⟨_,e0,BF X G a0.n⟩
    |1,_=>exact⟨_,e1,BF X G a1.n⟩
    |2,_=>exact⟨_,e2,BF X G a2.n⟩
    |n+3,h=>omega
  · rcases orT hm with z|z
    · obtain rfl:=eq_of_beq z;rcases three c C e with ⟨rfl,rfl⟩|⟨rfl,rfl⟩|⟨rfl,rfl⟩
      · rw[fu a0.ft hf];exact a0.nt
      · rw[fu a1.ft hf];exact a1.nt
      · rw[fu a2.ft hf];exact a2.nt
    · obtain rfl:=eq_of_beq z;rcases three c C e with ⟨rfl,rfl⟩|⟨rfl,rfl⟩|⟨rfl,rfl⟩
      · rw[fu a0.fs hf];exact a0.ns
      · rw[fu a1.fs hf];exact a1.ns
      · rw[fu a2.fs hf];exact a2.ns
theorem sV{C0 C1 C2 t0 t1 t2 s0 s1 s2 f:Ak}{st:AI}(a0:OA K "Triple" C0 t0 s0 f)(a1:OA K "Point" C1 t1 s1 f)(a2:OA K "Line" C2 t2 s2 f)(A:InI K f q st)(hc:LN fuel fns bl rzs exs gls st=Ab)(d0:Pg.defs 900=mkC 0)(d1:Pg.defs 901=mkC 1)(d2:Pg.defs 902=mkC 2)(d3:Pg.defs 910=inC)(hb:∀(u0 u1 u2 kV doc pm:Aj)(an:Ao Ak)(cdv ct:Aj),FT (BR "__init__" q (Gd st) (En st) (BD st) .none kV doc pm an cdv ct) ⟨[u0,u1,u2],[]⟩=pure ((["self", "p", "numbers"]:Ac Ag).zip [u0,u1,u2])):InR K fns bl rzs exs gls Pg fuel:=by
  obtain⟨fd,F⟩:=A;refine⟨λc hc=>?_,d3,f,fd,_,q,st,MR F,F.binds λkV doc pm an cdv ct us hu=>match us,hu with | [u0,u1,u2],_=>hb u0 u1 u2 kV doc pm an cdv ct,hc,λc hc=>?_⟩
  · match c,hc with
    |0,_=>exact d0
    |1,_=>exact d1
    |2,_=>exact d2
    |n+3,h=>omega
  · match c,hc with
    |0,_=>exact⟨_,HP (by decide) a0.n,a0.m⟩
    |1,_=>exact⟨_,HP (by decide) a1.n,a1.m⟩
    |2,_=>exact⟨_,HP (by decide) a2.n,a2.m⟩
    |n+3,h=>omega
theorem O4{n:Ag}{f:Ak}{st:AI}{ps N:Ac Ag}(m id:Af)(hm:GB.lookup n=Ae)(X:K.In h)(G:h.Ns AQ mg)(A:FnI K f n st)(hl:ps.length=m%1000)(hc:Gi fuel (De 1000 m) fns bl rzs exs gls ps N st (Pg.defs id)=Ab)(hb:∀ us:Ac Aj,us.length=ps.length->Bd n st ps us):KO K mg fns bl rzs exs gls Pg fuel (n,id,m):=by
 obtain⟨fd,F,a⟩:=A;exact⟨_,_,_,_,_,_,aS (BF X G a) hm,⟨_,MR F⟩,F.binds λkV doc pm an cdv ct us hu=>hb us hu kV doc pm an cdv ct,hl,hc⟩
theorem Qd{l:Ac α}(h:l.length=0):l=[]:=List.eq_nil_of_length_eq_zero h
theorem KJ{l:Ac α}{n:Af}(h:l.length=n+1):∃ a r,l=a::r/\r.length=n:=by
 cases l with
 |nil=>cases h
 |cons a r=>exact⟨a,r,rfl,Nat.succ.inj h⟩
theorem Qf{n:Ag}{f:Ak}{st:AI}{N:Ac Ag}(m id:Af)(hm:GB.lookup n=Ae)(X:K.In h)(G:h.Ns AQ mg)(A:FnI K f n st)(hl:1=m%1000)(hc:Gi fuel (De 1000 m) fns bl rzs exs gls [x0] N st (Pg.defs id)=Ab)(hb:∀ u0,Bd n st [x0] [u0]):KO K mg fns bl rzs exs gls Pg fuel (n,id,m):=
 O4 (ps:=[x0]) m id hm X G A hl hc λus hu=>by obtain⟨u0,v0,rfl,h0⟩:=KJ hu;obtain rfl:=Qd h0;exact hb u0
theorem FZ{n:Ag}{f:Ak}{st:AI}{N:Ac Ag}{x1:Ag}(m id:Af)(hm:GB.lookup n=Ae)(X:K.In h)(G:h.Ns AQ mg)(A:FnI K f n st)(hl:2=m%1000)(hc:Gi fuel (De 1000 m) fns bl rzs exs gls [x0,x1] N st (Pg.defs id)=Ab)(hb:∀ u0 u1,Bd n st [x0,x1] [u0,u1]):KO K mg fns bl rzs exs gls Pg fuel (n,id,m):=
 O4 (ps:=[x0,x1]) m id hm X G A hl hc λus hu=>by obtain⟨u0,v0,rfl,h0⟩:=KJ hu;obtain⟨u1,v1,rfl,h1⟩:=KJ h0;obtain rfl:=Qd h1;exact hb u0 u1
theorem Nf{n:Ag}{f:Ak}{st:AI}{N:Ac Ag}{x1 x2:Ag}(m id:Af)(hm:GB.lookup n=Ae)(X:K.In h)(G:h.Ns AQ mg)(A:FnI K f n st)(hl:3=m%1000)(hc:Gi fuel (De 1000 m) fns bl rzs exs gls [x0,x1,x2] N st (Pg.defs id)=Ab)(hb:∀ u0 u1 u2,Bd n st [x0,x1,x2] [u0,u1,u2]):KO K mg fns bl rzs exs gls Pg fuel (n,id,m):=
 O4 (ps:=[x0,x1,x2]) m id hm X G A hl hc λus hu=>by obtain⟨u0,v0,rfl,h0⟩:=KJ hu;obtain⟨u1,v1,rfl,h1⟩:=KJ h0;obtain⟨u2,v2,rfl,h2⟩:=KJ h1;obtain rfl:=Qd h2;exact hb u0 u1 u2
end
end Ov
namespace OvC
open PySem Ov
variable{p:Ah}{xs:Ac Ah}{n:Af}{w x:Ag}{ws:Ac Ag}{s:Am}
noncomputable abbrev tr(a b c:Ah):D:=.tup [.int a,.int b,.int c]
noncomputable def det(a0 a1 a2 b0 b1 b2 c0 c1 c2:Ah):Ah:=a0*(b1*c2-b2*c1)-a1*(b0*c2-b2*c0)+a2*(b0*c1-b1*c0)
def Sm(x:Ah):Prop:=0<=x/\x<11
theorem mo{x:Ah}(h:Sm x)(y:Ah):FF x y=Ab:=Mx (by have:=h.1;omega) (by have:=h.2;omega)
theorem Sm.of(h:P4 p)(x:Ah):Sm (x%p):=⟨B4 _ (by have:=h.pos;omega),by have:=BM x h.pos;have:=h.hi;omega⟩
theorem QJ{body:D->Rho->O}(I:Rho->Prop)(g:Ah->Am):∀(L:Ac Ah),(∀ t∈L,∀ U,I U->(g t=Ab/\body (.int t) U=.ret (.int t) Ad)\/(g t=Ad/\∃ U',body (.int t) U=.next U'/\I U'))->∀ U,I U->(∃ t∈L,g t=Ab/\Dd body (L.map D.int) U=.ret (.int t) Ad)\/((∀ t∈L,g t=Ad)/\∃ U',Dd body (L.map D.int) U=.next U'/\I U')
 |[],_,U,i=>.inr ⟨(λ_ h=>nomatch h),U,rfl,i⟩
 |m::L,h,U,i=>by
  rcases h m (AE ..) U i with ⟨e1,e2⟩|⟨e1,U',e2,i'⟩
  .refine .inl ⟨m,AE ..,e1,?_⟩;show (body (.int m) U).turn _=_;rw[e2];rfl
  .rcases QJ I g L (λm' h'=>h m' (Aw _ h')) U' i' with ⟨t,ht,a,b⟩|⟨a,r,b,c⟩
   .refine .inl ⟨t,Aw _ ht,a,?_⟩;show (body (.int m) U).turn _=_;rw[e2];exact b
   .refine .inr ⟨λt ht=>?_,r,?_,c⟩
    .rcases AH.mp ht with rfl|ht
     .exact e1
     .exact a t ht
    .show (body (.int m) U).turn _=_;rw[e2];exact b
noncomputable def Kc:Ss:=(.cons (.ife (.cmp .Eq (.call 1 (.cons (.var 0) (.cons (.bin .Mult (.var 1) (.var 2)) .nil))) (.int 1)) (.cons (.ret (.var 2)) .nil) .nil) .nil)
noncomputable def L3:Df:=⟨3,Ad,(.cons (.fors 2 (.rng2 (.int 1) (.var 0)) Kc) (.cons (.rais 2 (.cons (.str (Ai "a number with the rest 0 is not turned over")) .nil)) .nil))⟩
noncomputable def Gj(p:Ah):Ac Ah:=(A5 (p-1).toNat).map fun(k:Af)=>1+(k:Ah)
theorem Kf{t:Ah}:t∈Gj p↔1<=t/\t<p:=by
 unfold Gj;rw[List.mem_map];constructor
 .rintro⟨k,hk,rfl⟩;have:=Dl.mp hk;omega
 .rintro⟨h1,h2⟩;exact⟨(t-1).toNat,Dl.mpr (by omega),by omega⟩
theorem RJ(h:P4 p):D8 1 p=.ok ((Gj p).map D.int):=by
 rcases h with rfl|rfl|rfl|rfl<;>rfl
theorem eX:∀ p:Fin 12,(p.val=3\/p.val=5\/p.val=7\/p.val=11)->∀ r:Fin 12,r.val<p.val->r.val≠0->∃ t:Fin 12,1<=t.val/\t.val<p.val/\r.val*t.val%p.val=1:=by decide+kernel
theorem LA{n:Ah}(h:P4 p)(hn:n%p≠0):∃ t,1<=t/\t<p/\n*t%p=1:=by
 have p0:0<p/\p<12:=by rcases h with rfl|rfl|rfl|rfl<;>decide
 obtain⟨q,rfl⟩:∃ q:Af,p=q:=⟨p.toNat,by omega⟩
 have h0:=B4 n (b:=(q:Ah)) (by omega)
 have h1:=BM n p0.1;obtain⟨r,hr⟩:∃ r:Af,n%(q:Ah)=r:=⟨(n%(q:Ah)).toNat,by omega⟩
 obtain⟨t,t1,t2,t3⟩:=eX ⟨q,by omega⟩ (by rcases h with e|e|e|e<;>simp<;>omega) ⟨r,by omega⟩ (by show r<q;omega) (by show r≠0;omega)
 refine⟨(t.val:Ah),by omega,by show (t.val:Ah)<q;exact Int.ofNat_lt.mpr t2,?_⟩
 have e:((r*t.val%q:Af):Ah)=1:=by rw[show r*t.val%q=1 from t3];rfl
 rw[<-e,Int.natCast_emod,Int.natCast_mul,<-hr];exact(CO n _ _).trans (by rw[CO (n%(q:Ah)) (t.val:Ah) (q:Ah),CA n (Eu _)])
def IM(p n t:Ah):Prop:=1<=t/\t<p/\n*t%p=1
theorem Rb{n t u:Ah}(h1:IM p n t)(h2:IM p n u):t=u:=by
 have hp:1<p:=by have:=h1.1;have:=h1.2.1;omega
 have e:t%p=u%p:=by
  have a:t%p=t*(n*u)%p:=by rw[CO,h2.2.2,VI,CA _ (Eu p)]
  have b:u%p=(n*t)*u%p:=by rw[CO (n*t) u p,h1.2.2,GD,CA _ (Eu p)]
  rw[a,b]
  congr 1
  rw[<-GM,Ev t n]
 rw[BH (by have:=h1.1;omega) h1.2.1,BH (by have:=h2.1;omega) h2.2.1]at e
 exact e
theorem ME{c x:Ah}(hp:P4 p)(hc:c%p≠0)(hx:x%p≠0):c*x%p≠0:=λz=>by
 obtain⟨t,_,_,e⟩:=LA hp hc;refine hx ?_;have e1:x%p=(c*t)*x%p:=by rw[CO (c*t) x p,e,GD,CA _ (Eu p)]
 rw[e1,show c*t*x=t*(c*x) by rw[Ev c t,GM],CO,z,VJ,ES]
noncomputable def CH(p:Ah):Ac Ah->Ao Ah
 |[]=>Ae
 |x::xs=>if x%p=0 then CH p xs else Aa (x%p)
theorem Mb{p:Ah}:∀{xs:Ac Ah},CH p xs=Ae↔∀ x∈xs,x%p=0
 |[]=>by simp[CH]
 |x::xs=>by
  unfold CH;by_cases h:x%p=0
  .rw[At h,Mb (xs:=xs)];simp[h]
  .rw[AA h];simp[h]
theorem Ma{p l:Ah}(hp:0<p):∀{xs:Ac Ah},CH p xs=Aa l->l%p≠0/\0<l/\l<p
 |[],h=>by cases h
 |x::xs,h=>by
  unfold CH at h;by_cases hx:x%p=0
  .rw[At hx]at h;exact Ma hp h
  .rw[AA hx]at h;cases h;have h0:=B4 x (b:=p) (by omega)
   have h1:=BM x hp;exact⟨by rw[CA _ (Eu p)];exact hx,by omega,h1⟩
theorem Rt{p c:Ah}(hp:P4 p)(hc:c%p≠0){f:Ah->Ah}(hf:∀ x,f x%p=c*x%p):∀ xs:Ac Ah,CH p (xs.map f)=(CH p xs).map λl=>c*l%p
 |[]=>rfl
 |x::xs=>by
  rw[AZ];unfold CH;rw[hf x];by_cases hx:x%p=0
  .rw[At hx,At (by rw[CO,hx,VJ,ES]),Rt hp hc hf xs]
  .rw[AA hx,AA (ME hp hc hx),Wf]
   congr 1
   rw[CO c (x%p),CA _ (Eu p),<-CO]
noncomputable def ds(xs:Ac Ah):Ac D:=xs.map D.int
noncomputable def EN(b:Am)(xs:Ac Ah):D:=if b=Ab then .tup (ds xs) else .lst (ds xs)
theorem Zl(b xs):Eo (EN b xs)=.ok (ds xs):=by unfold EN;cases b<;>rfl
theorem La{g:D->R Am}{f:D->R D}{φ:Ah->Ah}:∀(xs:Ac Ah),(∀ x∈xs,g (.int x)=.ok Ab/\f (.int x)=.ok (.int (φ x)))->Bq g f (ds xs)=.ok (ds (xs.map φ))
 |[],_=>rfl
 |x::xs,h=>by
  obtain⟨h1,h2⟩:=h x (AE ..);show (g (.int x)).bind _=_;rw[h1,R.bind_ok,At rfl,h2,R.bind_ok];show (Bq g f (ds xs)).bind _=_;rw[La xs λy hy=>h y (Aw _ hy)]
  rfl
noncomputable def DM:E:=(.bl Ab)
noncomputable def Ny:E:=(.call 1 (.cons (.var 0) (.cons (.var 5) .nil)))
noncomputable def Nx:E:=(.call 1 (.cons (.var 0) (.cons (.bin .Mult (.var 4) (.var 6)) .nil)))
noncomputable def Hj:Ss:=(.cons (.ife (.cmp .NotEq (.var 3) (.int 0)) (.cons (.asg 4 Ad (.call 9 (.cons (.var 0) (.cons (.var 3) .nil)))) (.cons (.ret (.bi .tuple (.cons (.comp Nx 6 (.e (.var 2)) DM) .nil))) .nil)) .nil) .nil)
noncomputable def Mh:Df:=⟨7,Ad,(.cons (.asg 2 Ad (.comp Ny 5 (.e (.var 1)) DM)) (.cons (.fors 3 (.e (.var 2)) Hj) (.cons (.rais 3 (.cons (.str (Ai "all the numbers have the rest 0")) .nil)) .nil)))⟩
noncomputable def fmI(p t:Ah)(xs:Ac Ah):Ac Ah:=xs.map λx=>t*(x%p)%p
section
variable{Z:Gam}{p:Ah}{xs:Ac Ah}{b:Am}
end
noncomputable def NG:E:=(.bin .Mod (.var 5) (.var 1))
noncomputable def NB:E:=(.cmp .Gt (.var 6) (.int 0))
noncomputable def NE:E:=(.var 6)
noncomputable def NA:E:=(.cmp .Eq (.bin .Mod (.bin .Mult (.var 7) (.idx (.var 3) (.int 0))) (.var 1)) (.int 1))
noncomputable def ND:E:=(.var 7)
noncomputable def NC:E:=(.bin .Mod (.bin .Mult (.var 8) (.var 4)) (.var 1))
noncomputable def Le:Df:=⟨9,Ad,(.cons (.asg 2 Ad (.comp NG 5 (.e (.var 0)) DM)) (.cons (.asg 3 Ad (.comp NE 6 (.e (.var 2)) NB)) (.cons (.ife (.cmp .Eq (.bi .len (.cons (.var 3) .nil)) (.int 0)) (.cons (.ret .non) .nil) .nil) (.cons (.asg 4 Ad (.idx (.comp ND 7 (.rng2 (.int 1) (.var 1)) NA) (.int 0))) (.cons (.ret (.bi .tuple (.cons (.comp NC 8 (.e (.var 2)) DM) .nil))) .nil)))))⟩
theorem NV{g:D->R Am}{f:D->R D}{q:Ah->Am}:∀(xs:Ac Ah),(∀ x∈xs,g (.int x)=.ok (q x)/\f (.int x)=.ok (.int x))->Bq g f (ds xs)=.ok (ds (xs.filter q))
 |[],_=>rfl
 |x::xs,h=>by
  obtain⟨h1,h2⟩:=h x (AE ..);have ih:=NV xs λy hy=>h y (Aw _ hy)
  show (g (.int x)).bind _=_;rw[h1,R.bind_ok];cases hq:q x with
  |true=>
   rw[At rfl,h2,R.bind_ok,G7,hq,At rfl];show (Bq g f (ds xs)).bind _=_;rw[ih];rfl
  |false=>
   rw[AA (by decide),G7,hq,AA (by decide)]
   exact ih
theorem Qu{p:Ah}(hp:0<p):∀(xs:Ac Ah),((xs.map λx=>x%p).filter λr=>decide (0<r)).head?=CH p xs
 |[]=>rfl
 |x::xs=>by
  have h0:=B4 x (b:=p) (by omega)
  unfold CH;rw[AZ,G7];by_cases h:x%p=0
  .rw[At h,AA (by simp[h]),Qu hp xs]
  .rw[AA h,At (by simp;omega)]
   rfl
theorem Zg{p l t:Ah}(it:IM p l t):((Gj p).filter λk=>decide (k*l%p=1)).head?=Aa t:=by
 have hm:t∈(Gj p).filter λk=>decide (k*l%p=1):=F6.mpr ⟨Kf.mpr ⟨it.1,it.2.1⟩,by simp[Ev t l,it.2.2]⟩
 cases e:(Gj p).filter λk=>decide (k*l%p=1) with
 |nil=>rw[e]at hm;cases hm
 |cons u us=>
  have hu:u∈(Gj p).filter λk=>decide (k*l%p=1):=by rw[e];exact AE ..
  obtain⟨h1,h2⟩:=F6.mp hu;obtain⟨a,b⟩:=Kf.mp h1;have h3:u*l%p=1:=by simpa using h2
  rw[Rb it ⟨a,b,by rw[Ev];exact h3⟩]
  rfl
theorem Rh{l:Ah}(h:xs.head?=Aa l):CI (ds xs) 0=.ok (.int l):=by
 cases xs with
 |nil=>cases h
 |cons x xs=>cases h;exact Ou (by omega) rfl
theorem fQ(Z:Gam)(hp:P4 p):(CH p xs=Ae->Le.run Z [.lst (ds xs),.int p]=.ok .non)/\(∀ l t,CH p xs=Aa l->IM p l t->Le.run Z [.lst (ds xs),.int p]=.ok (.tup (ds (fmI p t xs)))):=by
 have p0:=hp.pos;have ph:=hp.hi;have c1:Bq (cG Z [sh (.lst (ds xs)),si p,Ae,Ae,Ae,Ae,Ae,Ae,Ae] 5 DM) (cF Z [sh (.lst (ds xs)),si p,Ae,Ae,Ae,Ae,Ae,Ae,Ae] 5 NG) (ds xs)=.ok (ds (xs.map λx=>x%p)):=by
  refine La xs λx _=>⟨rfl,?_⟩
  simp[cF,NG,p0]
 generalize hR:(xs.map λx=>x%p)=rs at c1
 have c2:Bq (cG Z [sh (.lst (ds xs)),si p,sh (.lst (ds rs)),Ae,Ae,Ae,Ae,Ae,Ae] 6 NB) (cF Z [sh (.lst (ds xs)),si p,sh (.lst (ds rs)),Ae,Ae,Ae,Ae,Ae,Ae] 6 NE) (ds rs)=.ok (ds (rs.filter λr=>decide (0<r))):=by
  refine NV rs λx _=>⟨?_,?_⟩
  .simp[cG,NB]
  .simp[cF,NE]
 have hl:=Qu p0 xs;rw[hR]at hl;generalize hL:(rs.filter λr=>decide (0<r))=ls at c2 hl
 have dl:(ds ls).length=ls.length:=Bi ..;refine⟨λz=>?_,λl t e it=>?_⟩
 .rw[z]at hl;have:ls=[]:=List.head?_eq_none_iff.mp hl;subst this;simp[Le,Df.run,Bu,c1,c2,dl]
 .rw[e]at hl;have hne:ls≠[]:=by rintro rfl;cases hl
  have hlen:(ls.length:Ah)≠0:=by have:=Gm.mpr hne;omega
  have g0:=Rh hl;obtain⟨_,l0,l1⟩:=Ma p0 e;have c3:Bq (cG Z [sh (.lst (ds xs)),si p,sh (.lst (ds rs)),sh (.lst (ds ls)),Ae,Ae,Ae,Ae,Ae] 7 NA) (cF Z [sh (.lst (ds xs)),si p,sh (.lst (ds rs)),sh (.lst (ds ls)),Ae,Ae,Ae,Ae,Ae] 7 ND) (ds (Gj p))=.ok (ds ((Gj p).filter λk=>decide (k*l%p=1))):=by
   refine NV (Gj p) λx hx=>⟨?_,?_⟩
   .obtain⟨x1,x2⟩:=Kf.mp hx;have m:FF x l=Ab:=Mx (by omega) (by omega)
    simp[cG,NA,g0,m,p0];rw[Eb];simp
   .simp[cF,ND]
  have g1:=Rh (Zg it);have c4:Bq (cG Z [sh (.lst (ds xs)),si p,sh (.lst (ds rs)),sh (.lst (ds ls)),si t,Ae,Ae,Ae,Ae] 8 DM) (cF Z [sh (.lst (ds xs)),si p,sh (.lst (ds rs)),sh (.lst (ds ls)),si t,Ae,Ae,Ae,Ae] 8 NC) (ds rs)=.ok (ds (rs.map λr=>t*r%p)):=by
   refine La rs λx _=>⟨rfl,?_⟩
   have m:FF x t=Ab:=Si (by have:=it.1;omega) (by have:=it.2.1;omega)
   simp[cF,NC,m,p0,Ev]
  have ru:D8 1 p=.ok (ds (Gj p)):=RJ hp;have fe:fmI p t xs=rs.map λr=>t*r%p:=by rw[<-hR];simp[fmI,V2,VE]
  simp[Le,Df.run,Bu,c1,c2,dl,hlen,hne,ru,c3,g1,c4,fe]
noncomputable abbrev own(xs:Ac Ah):Sl:=Aa (.lst (ds xs),Ab)
section
variable{Z:Gam}{ns:Ac Ah}{a1 a2 a4 a6 a7 a8 a9 b0 b1 b2 b3 b4:Sl}{p:Ah}
end
section
variable{Z:Gam}{ns:Ac Ah}{a1 a4 a6 a7 a8 a9 b2 b3 b4:Sl}{p m:Ah}{xs:Ac Ah}
end
def Cg(p x y:Ah):Prop:=x%p=y%p
section
variable{p a b c d:Ah}
theorem Cg.rfl:Cg p a a:=Eq.refl _
theorem Cg.of(h:a=b):Cg p a b:=by unfold Cg;rw[h]
theorem Cg.trans{a b c:Ah}(h:Cg p a b)(g:Cg p b c):Cg p a c:=Eq.trans h g
theorem Cg.symm(h:Cg p a b):Cg p b a:=Eq.symm h
theorem Cg.add(h:Cg p a b)(g:Cg p c d):Cg p (a+c) (b+d):=by unfold Cg at *;rw[VF,h,g,<-VF]
theorem Cg.mul(h:Cg p a b)(g:Cg p c d):Cg p (a*c) (b*d):=by unfold Cg at *;rw[CO,h,g,<-CO]
end
theorem P4.m1(h:P4 p):(-1:Ah)%p≠0:=by rcases h with rfl|rfl|rfl|rfl<;>decide
theorem P4.o1(h:P4 p):(1:Ah)%p≠0:=by rcases h with rfl|rfl|rfl|rfl<;>decide
abbrev R3:=Ah×Ah×Ah
variable{a q:R3}
noncomputable def LO(a:R3):D:=.lst [.int a.1,.int a.2.1,.int a.2.2]
@[simp]theorem Zps(a:R3)(U:Rho):DO (Aa (LO a,Ab)::U) 0=.ok (LO a):=rfl
noncomputable def LQ(a b c:R3):Ah:=det a.1 a.2.1 a.2.2 b.1 b.2.1 b.2.2 c.1 c.2.1 c.2.2
def In3(p:Ah)(a:R3):Prop:=(0<=a.1/\a.1<p)/\(0<=a.2.1/\a.2.1<p)/\(0<=a.2.2/\a.2.2<p)
structure GoodR (p:Ah) (a b c:R3):Prop where
 p4:P4 p
 ia:In3 p a
 ib:In3 p b
 ic:In3 p c
 nz:LQ a b c%p≠0
theorem GoodR.of{k:Ah}{a b c a' b' c':R3}(h:GoodR p a b c)(hk:k%p≠0)(e:Cg p (LQ a' b' c') (k*LQ a b c))(hin:In3 p a'/\In3 p b'/\In3 p c'):GoodR p a' b' c':=⟨h.p4,hin.1,hin.2.1,hin.2.2,by rw[show LQ a' b' c'%p=_ from e];exact ME h.p4 hk h.nz⟩
noncomputable abbrev ownR(a b c:R3):Sl:=Aa (.lst [LO a,LO b,LO c],Ab)
section
variable{Z:Gam}{ns:Ac Ah}{at_ many s5 s0 s1 s2:Sl}{p t m:Ah}{a b c:R3}
end
section
variable{Z:Gam}{ns:Ac Ah}{many s5 s6 s7 s8 s9 s0 s1 s2:Sl}{p:Ah}{a b c:R3}
end
def Bd(n:Af)(x:Ah):Prop:=x.natAbs<2 ^ n
theorem Bd.mul{m:Af}{x y:Ah}(h:Bd m x)(g:Bd n y):Bd (m+n) (x*y):=by
 unfold Bd at *;rw[Int.natAbs_mul,Nat.pow_add];exact Nat.mul_lt_mul'' h g
def B3(a:R3):Prop:=Bd 300 a.1/\Bd 300 a.2.1/\Bd 300 a.2.2
noncomputable def Cd(q:Am)(a:R3):D:=EN q [a.1,a.2.1,a.2.2]
section
variable{Z:Gam}{ns:Ac Ah}{p t:Ah}{a b c r:R3}{made s6 s7:Sl}
end
section
variable{Z:Gam}{ns:Ac Ah}{p m:Ah}{a b c:R3}{fa fb fc:R3}{q:Am}{s9 s0 s1 s2:Sl}
end
def NZ(Z:Gam):Prop:=∀ p n:Ah,P4 p->n%p≠0->∃ t,1<=t/\t<p/\n*t%p=1/\Z.F 9 [.int p,.int n]=.ok (.int t)
def OO(Z:Gam):Prop:=∀(p:Ah)(b:Am)(xs:Ac Ah)(l t:Ah),P4 p->CH p xs=Aa l->IM p l t->Z.F 17 [.int p,EN b xs]=.ok (.tup (ds (fmI p t xs)))
theorem ZC{Z:Gam}(hr:MI Z)(p n:Ah)(hp:P4 p)(z:n%p≠0):∃ t,1<=t/\t<p/\n*t%p=1/\L3.run Z [.int p,.int n]=.ok (.int t):=by
 have p0:=hp.pos;have ph:=hp.hi;have body:∀ t∈Gj p,∀ U,(∃ s,U=[si p,si n,s])->(decide (n*t%p=1)=Ab/\Ds Z 2 Kc (.int t) U=.ret (.int t) Ad)\/(decide (n*t%p=1)=Ad/\∃ U',Ds Z 2 Kc (.int t) U=.next U'/\∃ s,U'=[si p,si n,s]):=by
  rintro t ht U ⟨s,rfl⟩;obtain⟨t1,t2⟩:=Kf.mp ht;have m:FF n t=Ab:=Si (by omega) (by omega)
  by_cases e:n*t%p=1
  .exact .inl ⟨by simp[e],by simp[Ds,Kc,hr p (n*t) p0,m,e,Dj]⟩
  .exact .inr ⟨by simp[e],_,by simp[Ds,Kc,hr p (n*t) p0,m,e];rfl,_,rfl⟩
 have run:∀ o,Dd (Ds Z 2 Kc) ((Gj p).map D.int) [si p,si n,Ae]=o->L3.run Z [.int p,.int n]=(GC Z (.cons (.rais 2 (.cons (.str (Ai "a number with the rest 0 is not turned over")) .nil)) .nil) o).ans Ad:=by
  rintro o rfl;simp[L3,Df.run,Bu,RJ hp]
 rcases QJ (λU=>∃ s,U=[si p,si n,s]) (λt=>decide (n*t%p=1)) (Gj p) body [si p,si n,Ae] ⟨_,rfl⟩ with ⟨t,ht,a,b⟩|⟨a,r,b,s,rfl⟩
 .obtain⟨t1,t2⟩:=Kf.mp ht;have a':n*t%p=1:=by simpa using a
  exact⟨t,t1,t2,a',by rw[run _ b];rfl⟩
 .obtain⟨t,t1,t2,e⟩:=LA hp z;have:=a t (Kf.mpr ⟨t1,t2⟩);simp[e]at this
section
variable{Z:Gam}{p:Ah}{xs:Ac Ah}{b:Am}
theorem Rs(hr:MI Z)(ht:NZ Z)(hp:P4 p)(rs:Ac Ah):∀(ys:Ac Ah),(∀ y∈ys,0<=y/\y<p)->∀ s3,(CH p ys=Ae->∃ s3',Dd (Ds Z 3 Hj) (ds ys) [si p,sh (EN b xs),sh (.lst (ds rs)),s3,Ae,Ae,Ae]=.next [si p,sh (EN b xs),sh (.lst (ds rs)),s3',Ae,Ae,Ae])/\(∀ l t,CH p ys=Aa l->IM p l t->Dd (Ds Z 3 Hj) (ds ys) [si p,sh (EN b xs),sh (.lst (ds rs)),s3,Ae,Ae,Ae]=.ret (.tup (ds (rs.map λr=>t*r%p))) Ad)
 |[],_,s3=>⟨λ_=>⟨s3,rfl⟩,(λl t h=>nomatch h)⟩
 |y::ys,hy,s3=>by
  obtain⟨y0,y1⟩:=hy y (AE ..);have ym:y%p=y:=BH y0 y1;have ih:=Rs hr ht hp rs ys (λz hz=>hy z (Aw _ hz)) (si y)
  have step:∀ o,Ds Z 3 Hj (.int y) [si p,sh (EN b xs),sh (.lst (ds rs)),s3,Ae,Ae,Ae]=o->Dd (Ds Z 3 Hj) (ds (y::ys)) [si p,sh (EN b xs),sh (.lst (ds rs)),s3,Ae,Ae,Ae]=o.turn (Dd (Ds Z 3 Hj) (ds ys)):=by
   rintro o rfl;rfl
  unfold CH;rw[ym];by_cases hz:y=0
  .have e:Ds Z 3 Hj (.int y) [si p,sh (EN b xs),sh (.lst (ds rs)),s3,Ae,Ae,Ae]=.next [si p,sh (EN b xs),sh (.lst (ds rs)),si y,Ae,Ae,Ae]:=by
    simp[Ds,Hj,hz]
   rw[At hz,step _ e];exact ih
  .rw[AA hz];refine⟨(λz=>nomatch z),λl t e it=>?_⟩
   cases e;obtain⟨u,u1,u2,u3,u4⟩:=ht p y hp (by rw[ym];exact hz)
   have:t=u:=Rb it ⟨u1,u2,u3⟩;subst this;have p0:=hp.pos;have ph:=hp.hi;have cp:Bq (cG Z [si p,sh (EN b xs),sh (.lst (ds rs)),si y,si t,Ae,Ae] 6 DM) (cF Z [si p,sh (EN b xs),sh (.lst (ds rs)),si y,si t,Ae,Ae] 6 Nx) (ds rs)=.ok (ds (rs.map λr=>t*r%p)):=by
    refine La rs λr _=>⟨rfl,?_⟩
    have m:FF t r=Ab:=Mx (by omega) (by omega)
    simp[cF,Nx,m,hr p (t*r) p0]
   have e:Ds Z 3 Hj (.int y) [si p,sh (EN b xs),sh (.lst (ds rs)),s3,Ae,Ae,Ae]=.ret (.tup (ds (rs.map λr=>t*r%p))) Ad:=by
    simp[Ds,Hj,hz,u4,cp,Dj]
   rw[step _ e];rfl
theorem fR(hr:MI Z)(ht:NZ Z)(hp:P4 p){l t:Ah}(e:CH p xs=Aa l)(it:IM p l t):Mh.run Z [.int p,EN b xs]=.ok (.tup (ds (fmI p t xs))):=by
 have p0:=hp.pos;have cp:Bq (cG Z [si p,sh (EN b xs),Ae,Ae,Ae,Ae,Ae] 5 DM) (cF Z [si p,sh (EN b xs),Ae,Ae,Ae,Ae,Ae] 5 Ny) (ds xs)=.ok (ds (xs.map λx=>x%p)):=by
  refine La xs λx _=>⟨rfl,?_⟩
  simp[cF,Ny,hr p x p0]
 have run:∀ o,Dd (Ds Z 3 Hj) (ds (xs.map λx=>x%p)) [si p,sh (EN b xs),sh (.lst (ds (xs.map λx=>x%p))),Ae,Ae,Ae,Ae]=o->Mh.run Z [.int p,EN b xs]=(GC Z (.cons (.rais 3 (.cons (.str (Ai "all the numbers have the rest 0")) .nil)) .nil) o).ans Ad:=by
  rintro o rfl;simp[Mh,Df.run,Bu,Zl,cp]
 have le:CH p (xs.map λx=>x%p)=CH p xs:=by
  have:=Rt (c:=1) hp (by rcases hp with rfl|rfl|rfl|rfl<;>decide) (f:=λx=>x%p) (λx=>by rw[GD,CA _ (Eu p)]) xs
  rw[this];cases e:CH p xs with
  |none=>rfl
  |some l=>
   obtain⟨_,l0,l1⟩:=Ma p0 e;simp[BH (Int.le_of_lt l0) l1]
 obtain⟨a,c⟩:=Rs (b:=b) (xs:=xs) hr ht hp (xs.map λx=>x%p) (xs.map λx=>x%p) (λy hy=>by
  obtain⟨x,_,rfl⟩:=V3.mp hy;exact⟨B4 _ (by omega),BM _ p0⟩) Ae
 rw[le]at a c;rw[run _ (c l t e it)];simp[fmI,V2,VE]
end
theorem jT(q:Am)(a:R3):Eo (Cd q a)=.ok [.int a.1,.int a.2.1,.int a.2.2]:=by cases q<;>rfl
noncomputable def LU(a b c:R3):R3:=(a.1,b.1,c.1)
noncomputable def LS(a b c:R3):R3:=(a.2.1,b.2.1,c.2.1)
noncomputable def LR(a b c:R3):R3:=(a.2.2,b.2.2,c.2.2)
noncomputable def Js(a x:R3):Ah:=a.1*x.1+a.2.1*x.2.1+a.2.2*x.2.2
theorem SQ:∀ xs ys:Ac Ah,eqDs (ds xs) (ds ys)=decide (xs=ys)
 |[],[]=>rfl
 |[],_::_=>rfl
 |_::_,[]=>rfl
 |x::xs,y::ys=>by
  show ((x==y)&&eqDs (ds xs) (ds ys))=_;rw[SQ xs ys,Eb];simp
theorem mW(a b:R3):eqD (Cd Ab a) (Cd Ab b)=decide (a=b):=by
 show eqDs (ds [a.1,a.2.1,a.2.2]) (ds [b.1,b.2.1,b.2.2])=_;rw[SQ,Eb];simp only[List.cons.injEq,and_true,AD];exact⟨λ⟨h1,h2,h3⟩=>by obtain⟨a1,a2,a3⟩:=a;obtain⟨b1,b2,b3⟩:=b;simp at h1 h2 h3;rw[h1,h2,h3],λh=>by rw[h];exact⟨rfl,rfl,rfl⟩⟩
theorem sW{x:Ah}(hp:P4 p)(h0:0<=x)(h1:x<p):Bd 10 x:=by
 unfold Bd;have:=hp.hi;omega
theorem Bd.mono{m:Af}{x:Ah}(h:Bd m x)(hm:m<=n):Bd n x:=AO h (Nat.pow_le_pow_right (by decide) hm)
def Bn(n:Af)(a:R3):Prop:=Bd n a.1/\Bd n a.2.1/\Bd n a.2.2
theorem Bn.b3(h:Bn n a)(hn:n<=300):B3 a:=⟨h.1.mono hn,h.2.1.mono hn,h.2.2.mono hn⟩
noncomputable def Gx(k:Ah)(a:R3):R3:=(k*a.1,k*a.2.1,k*a.2.2)
noncomputable def fk0(p:Ah)(a b c d:R3):Ah:=LQ d b c%p
noncomputable def fs0(p:Ah)(a b c d:R3):R3:=Gx (fk0 p a b c d) a
def CgR(p:Ah)(x y:R3):Prop:=Cg p x.1 y.1/\Cg p x.2.1 y.2.1/\Cg p x.2.2 y.2.2
section
variable{p:Ah}{a b c a' b' c' x y z x':R3}{k l m k':Ah}
theorem CgR.rfl:CgR p a a:=⟨Cg.rfl,Cg.rfl,Cg.rfl⟩
theorem CgR.of(h:a=b):CgR p a b:=by rw[h];exact CgR.rfl
theorem CgR.trans(h:CgR p a b)(g:CgR p b c):CgR p a c:=⟨h.1.trans g.1,h.2.1.trans g.2.1,h.2.2.trans g.2.2⟩
theorem CgR.symm(h:CgR p a b):CgR p b a:=⟨h.1.symm,h.2.1.symm,h.2.2.symm⟩
theorem CgR.sc(hk:Cg p k k')(h:CgR p a b):CgR p (Gx k a) (Gx k' b):=⟨hk.mul h.1,hk.mul h.2.1,hk.mul h.2.2⟩
theorem JO(ha:CgR p a a')(hb:CgR p b b'):Cg p (Js a b) (Js a' b'):=((ha.1.mul hb.1).add (ha.2.1.mul hb.2.1)).add (ha.2.2.mul hb.2.2)
theorem mZ(ha:CgR p a a')(hb:CgR p b b')(hc:CgR p c c'):CgR p (LU a b c) (LU a' b' c')/\CgR p (LS a b c) (LS a' b' c')/\CgR p (LR a b c) (LR a' b' c'):=⟨⟨ha.1,hb.1,hc.1⟩,⟨ha.2.1,hb.2.1,hc.2.1⟩,⟨ha.2.2,hb.2.2,hc.2.2⟩⟩
noncomputable def ap(a b c x:R3):R3:=(Js a x,Js b x,Js c x)
theorem Uj(k l:Ah)(x:R3):Gx k (Gx l x)=Gx (k*l) x:=by
 unfold Gx;simp only[GM]
theorem tG(a b c x:R3)(k:Ah):ap a b c (Gx k x)=Gx k (ap a b c x):=by
 unfold ap Gx Js;refine KW ?_ (KW ?_ ?_)<;>(simp only;grind)
end
section
variable{p:Ah}{a b c f0 f1 f2 f3 g0 g1 g2 g3:R3}{d0 d1 d2 d3:Ah}
end
section
variable{Z:Gam}{ns:Ac Ah}
end
section
variable{Z:Gam}{ns:Ac Ah}{many s5 s6 s7 s8 s9 s0 s1 s2:Sl}{p:Ah}{a b c:R3}
end
def InL(p:Ah)(xs:Ac Ah):Prop:=∀ x∈xs,0<=x/\x<p
theorem InL.set(h:InL p xs)(k:Af){v:Ah}(h0:0<=v)(h1:v<p):InL p (xs.set k v):=λx hx=>by
 rcases List.mem_or_eq_of_mem_set hx with z|rfl
 .exact h x z
 .exact⟨h0,h1⟩
section
variable{Z:Gam}{ns:Ac Ah}{p at_:Ah}
end
section
variable{Z:Gam}{ns:Ac Ah}{p t:Ah}
end
structure C6 where
 c0:Ah
 c1:Ah
 c2:Ah
 c3:Ah
 c4:Ah
 c5:Ah
noncomputable def C6.l(C:C6):Ac Ah:=[C.c0,C.c1,C.c2,C.c3,C.c4,C.c5]
noncomputable def vI(C:C6)(x:R3):Ah:=C.c0*x.1*x.1+C.c1*x.2.1*x.2.1+C.c2*x.2.2*x.2.2+(C.c3*x.1*x.2.1+C.c4*x.1*x.2.2+C.c5*x.2.1*x.2.2)
noncomputable def tw0(C:C6):R3:=(2*C.c0,C.c3,C.c4)
noncomputable def tw1(C:C6):R3:=(C.c3,2*C.c1,C.c5)
noncomputable def tw2(C:C6):R3:=(C.c4,C.c5,2*C.c2)
noncomputable def bI(C:C6)(x y:R3):Ah:=Js (ap (tw0 C) (tw1 C) (tw2 C) x) y
noncomputable def scC(k:Ah)(C:C6):C6:=⟨k*C.c0,k*C.c1,k*C.c2,k*C.c3,k*C.c4,k*C.c5⟩
def CgC(p:Ah)(C D:C6):Prop:=Cg p C.c0 D.c0/\Cg p C.c1 D.c1/\Cg p C.c2 D.c2/\Cg p C.c3 D.c3/\Cg p C.c4 D.c4/\Cg p C.c5 D.c5
noncomputable def pb(C:C6)(a b c:R3):C6:=⟨vI C (LU a b c),vI C (LS a b c),vI C (LR a b c),bI C (LU a b c) (LS a b c),bI C (LU a b c) (LR a b c),bI C (LS a b c) (LR a b c)⟩
section
variable{p:Ah}{C D E:C6}{a b c a' b' c' x y x' y':R3}{k k':Ah}
theorem C6.ext'(h0:C.c0=D.c0)(h1:C.c1=D.c1)(h2:C.c2=D.c2)(h3:C.c3=D.c3)(h4:C.c4=D.c4)(h5:C.c5=D.c5):C=D:=by
 cases C;cases D;simp_all
theorem CgC.rfl:CgC p C C:=⟨Cg.rfl,Cg.rfl,Cg.rfl,Cg.rfl,Cg.rfl,Cg.rfl⟩
theorem CgC.of(h:C=D):CgC p C D:=by rw[h];exact CgC.rfl
theorem CgC.symm(h:CgC p C D):CgC p D C:=⟨h.1.symm,h.2.1.symm,h.2.2.1.symm,h.2.2.2.1.symm,h.2.2.2.2.1.symm,h.2.2.2.2.2.symm⟩
theorem CgC.trans(h:CgC p C D)(g:CgC p D E):CgC p C E:=⟨h.1.trans g.1,h.2.1.trans g.2.1,h.2.2.1.trans g.2.2.1,h.2.2.2.1.trans g.2.2.2.1,h.2.2.2.2.1.trans g.2.2.2.2.1,h.2.2.2.2.2.trans g.2.2.2.2.2⟩
theorem CgC.sc(hk:Cg p k k')(h:CgC p C D):CgC p (scC k C) (scC k' D):=⟨hk.mul h.1,hk.mul h.2.1,hk.mul h.2.2.1,hk.mul h.2.2.2.1,hk.mul h.2.2.2.2.1,hk.mul h.2.2.2.2.2⟩
theorem Pj(h:CgC p C D)(hx:CgR p x x'):Cg p (vI C x) (vI D x'):=
 (((((h.1.mul hx.1).mul hx.1).add ((h.2.1.mul hx.2.1).mul hx.2.1)).add ((h.2.2.1.mul hx.2.2).mul hx.2.2))).add ((((h.2.2.2.1.mul hx.1).mul hx.2.1).add ((h.2.2.2.2.1.mul hx.1).mul hx.2.2)).add ((h.2.2.2.2.2.mul hx.2.1).mul hx.2.2))
theorem pP(h:CgC p C D):CgR p (tw0 C) (tw0 D)/\CgR p (tw1 C) (tw1 D)/\CgR p (tw2 C) (tw2 D):=
 ⟨⟨Cg.rfl.mul h.1,h.2.2.2.1,h.2.2.2.2.1⟩,⟨h.2.2.2.1,Cg.rfl.mul h.2.1,h.2.2.2.2.2⟩,⟨h.2.2.2.2.1,h.2.2.2.2.2,Cg.rfl.mul h.2.2.1⟩⟩
theorem oQ(ha:CgR p a a')(hb:CgR p b b')(hc:CgR p c c')(hx:CgR p x x'):CgR p (ap a b c x) (ap a' b' c' x'):=⟨JO ha hx,JO hb hx,JO hc hx⟩
theorem Pz(h:CgC p C D)(hx:CgR p x x')(hy:CgR p y y'):Cg p (bI C x y) (bI D x' y'):=
 let ⟨t0,t1,t2⟩:=pP h
 JO (oQ t0 t1 t2 hx) hy
theorem sM(h:CgC p C D)(ha:CgR p a a')(hb:CgR p b b')(hc:CgR p c c'):CgC p (pb C a b c) (pb D a' b' c'):=
 let ⟨s0,s1,s2⟩:=mZ ha hb hc
 ⟨Pj h s0,Pj h s1,Pj h s2,Pz h s0 s1,Pz h s0 s2,Pz h s1 s2⟩
theorem Tf(k l:Ah)(C:C6):scC k (scC l C)=scC (k*l) C:=by
 unfold scC;simp only[GM]
theorem Sv(C:C6):scC 1 C=C:=by unfold scC;simp only[GD]
theorem sL(k:Ah)(C:C6)(a b c:R3):pb (scC k C) a b c=scC k (pb C a b c):=by
 unfold pb scC vI bI ap tw0 tw1 tw2 Js;refine C6.ext' ?_ ?_ ?_ ?_ ?_ ?_<;>(simp only;grind)
def PrC(p:Ah)(C D:C6):Prop:=∃ d,d%p≠0/\CgC p C (scC d D)
theorem PrC.rfl(hp:P4 p):PrC p C C:=⟨1,hp.o1,CgC.of (Sv C).symm⟩
theorem PrC.trans(hp:P4 p)(i:PrC p C D)(j:PrC p D E):PrC p C E:=by
 obtain⟨d,dz,e⟩:=i;obtain⟨d',dz',e'⟩:=j;exact⟨d*d',ME hp dz dz',e.trans ((CgC.sc Cg.rfl e').trans (CgC.of (Tf _ _ _)))⟩
theorem nQ(hp:P4 p)(dz:k%p≠0):∃ u,u%p≠0/\Cg p (u*k) 1:=by
 obtain⟨u,u1,u2,u3⟩:=LA hp dz;refine⟨u,by rw[BH (by omega) u2];omega,?_⟩
 show u*k%p=1%p;rw[Ev,u3,BH (by decide) (by have:=hp.lo;omega)]
theorem PrC.symm(hp:P4 p)(i:PrC p C D):PrC p D C:=by
 obtain⟨d,dz,e⟩:=i;obtain⟨u,uz,o⟩:=nQ hp dz;refine⟨u,uz,?_⟩;have q:=CgC.sc (k:=u) (k':=u) Cg.rfl e;rw[Tf]at q;exact(q.trans ((CgC.sc o CgC.rfl).trans (CgC.of (Sv D)))).symm
theorem PrC.pb(i:PrC p C D):PrC p (OvC.pb C a b c) (OvC.pb D a b c):=by
 obtain⟨d,dz,e⟩:=i;exact⟨d,dz,(sM e CgR.rfl CgR.rfl CgR.rfl).trans (CgC.of (sL d D a b c))⟩
def InC(p:Ah)(C:C6):Prop:=∀ x∈C.l,0<=x/\x<p
end
structure BC (C:C6):Prop where
 b0:Bd 10 C.c0
 b1:Bd 10 C.c1
 b2:Bd 10 C.c2
 b3:Bd 10 C.c3
 b4:Bd 10 C.c4
 b5:Bd 10 C.c5
theorem InC.b{C:C6}(hp:P4 p)(h:InC p C):BC C:=by
 have k:∀ x∈C.l,Bd 10 x:=λx hx=>sW hp (h x hx).1 (h x hx).2
 exact⟨k _ (by simp[C6.l]),k _ (by simp[C6.l]),k _ (by simp[C6.l]),k _ (by simp[C6.l]),k _ (by simp[C6.l]),k _ (by simp[C6.l])⟩
noncomputable def t0(p:Ah)(C:C6):R3:=(2*C.c0%p,C.c3,C.c4)
noncomputable def t1(p:Ah)(C:C6):R3:=(C.c3,2*C.c1%p,C.c5)
noncomputable def t2(p:Ah)(C:C6):R3:=(C.c4,C.c5,2*C.c2%p)
section
variable{Z:Gam}{ns:Ac Ah}{p at_:Ah}{φ:Ah->Ah}
end
def Pr(p:Ah)(x y:R3):Prop:=∃ d,d%p≠0/\CgR p x (Gx d y)
section
variable{p:Ah}{a b c x y z f g h:R3}{k:Ah}
theorem Tg(x:R3):Gx 1 x=x:=by unfold Gx;simp only[GD]
theorem Pr.rfl(hp:P4 p):Pr p x x:=⟨1,hp.o1,CgR.of (Tg x).symm⟩
theorem Pr.trans(hp:P4 p)(i:Pr p x y)(j:Pr p y z):Pr p x z:=by
 obtain⟨d,dz,e⟩:=i;obtain⟨d',dz',e'⟩:=j;exact⟨d*d',ME hp dz dz',e.trans ((CgR.sc Cg.rfl e').trans (CgR.of (Uj _ _ _)))⟩
theorem Pr.symm(hp:P4 p)(i:Pr p x y):Pr p y x:=by
 obtain⟨d,dz,e⟩:=i;obtain⟨u,u1,u2,u3⟩:=LA hp dz;have uz:u%p≠0:=by rw[BH (by omega) u2];omega
 have o:Cg p (u*d) 1:=by
  show u*d%p=1%p;rw[Ev,u3,BH (by decide) (by have:=hp.lo;omega)]
 refine⟨u,uz,?_⟩;have q:=CgR.sc (k:=u) (k':=u) Cg.rfl e;rw[Uj]at q;exact(q.trans ((CgR.sc o CgR.rfl).trans (CgR.of (Tg y)))).symm
theorem tH{a' b' c' x':R3}(ha:CgR p a a')(hb:CgR p b b')(hc:CgR p c c')(hx:CgR p x x'):CgR p (ap a b c x) (ap a' b' c' x'):=⟨JO ha hx,JO hb hx,JO hc hx⟩
theorem Pr.ap(i:Pr p x y):Pr p (OvC.ap a b c x) (OvC.ap a b c y):=by
 obtain⟨d,dz,e⟩:=i;exact⟨d,dz,(tH CgR.rfl CgR.rfl CgR.rfl e).trans (CgR.of (tG a b c y d))⟩
end
noncomputable def tri(g:R3):Ac Ah:=[g.1,g.2.1,g.2.2]
section
variable{p:Ah}{a b c a' b' c' f0 f1 f2 f3 g0 g1 g2 g3 h0 h1 h2 h3:R3}
end
section
variable{Z:Gam}{ns:Ac Ah}{p:Ah}
end
section
variable{Z:Gam}{ns:Ac Ah}{mid:Af}{p:Ah}{a b c:R3}{s2 s4 s5 s6 s7 s8:Sl}
end
theorem nC(h:1<p):CH p [0,0,1]=Aa 1:=by
 simp[CH,BH (by decide:(0:Ah)<=1) h]
theorem rK(h:1<p)(z:Ah):CH p [0,1,z]=Aa 1:=by
 simp[CH,BH (by decide:(0:Ah)<=1) h]
theorem Yq(h:1<p)(y z:Ah):CH p [1,y,z]=Aa 1:=by
 simp[CH,BH (by decide:(0:Ah)<=1) h]
section
variable{Z:Gam}{ns:Ac Ah}{p:Ah}{C:C6}{s3 s4 s5 s6 s7 s8:Sl}
end
section
variable{Z:Gam}{ns:Ac Ah}
end
section
variable{Z:Gam}{ns:Ac Ah}{p:Ah}{C:C6}{s3 s4 s5 s6 s7 s8:Sl}
end
def NF(p:Ah)(x:R3):Prop:=In3 p x/\CH p (tri x)=Aa 1
noncomputable def ptI(p n:Ah):R3:=if n=0 then (0,0,1) else if n<=p then (0,1,n-1) else (1,(n-p-1)/p,(n-p-1)%p)
theorem sE{n:Ah}(hp:P4 p)(h0:0<=n)(h1:n<p*p+p+1):NF p (ptI p n):=by
 have p1:1<p:=by have:=hp.lo;omega
 have p0:=hp.pos;unfold ptI;by_cases z:n=0
 .rw[At z];exact⟨⟨⟨by decide,p0⟩,⟨by decide,p0⟩,⟨by decide,p1⟩⟩,nC p1⟩
 .rw[AA z];by_cases z1:n<=p
  .rw[At z1];exact⟨⟨⟨VG 0,p0⟩,⟨(by decide:(0:Ah)<=1),p1⟩,⟨by show 0<=n-1;omega,by show n-1<p;omega⟩⟩,rK p1 _⟩
  .rw[AA z1];have d0:0<=(n-p-1)/p:=Int.ediv_nonneg (by omega) (by omega)
   have d1:(n-p-1)/p<p:=by rw[Int.ediv_lt_iff_lt_mul p0];omega
   exact⟨⟨⟨(by decide:(0:Ah)<=1),p1⟩,⟨d0,d1⟩,⟨B4 _ (by omega),BM _ p0⟩⟩,Yq p1 _ _⟩
noncomputable def q4(w:Af)(k:Ah)(y:R3):Ah:=match w with
  |0=>y.1*y.2.2-y.2.1*y.2.1
  |1=>y.1*y.1
  |2=>y.1*y.2.1
  |_=>y.1*y.1-k*(y.2.1*y.2.1)
noncomputable def want(p:Ah)(w:Af):Af:=match w with
  |0=>(p+1).toNat
  |1=>(p+1).toNat
  |2=>(2*p+1).toNat
  |_=>1
section
variable{Z:Gam}{p i j k d N:Ah}{PP x y u:D}{RL:Ac D}{s t s' t' v:Sl}
end
section
variable{Z:Gam}{p:Ah}{pts:Ac R3}
end
noncomputable def Lf:Df:=⟨2,Ad,(.cons (.asg 0 Ad (.bin .Mod (.var 0) (.bin .Add (.bin .Add (.bin .Mult (.var 1) (.var 1)) (.var 1)) (.int 1)))) (.cons (.ife (.cmp .Eq (.var 0) (.int 0)) (.cons (.ret (.tup (.cons (.int 0) (.cons (.int 0) (.cons (.int 1) .nil))))) .nil) .nil) (.cons (.ife (.cmp .LtE (.var 0) (.var 1)) (.cons (.ret (.tup (.cons (.int 0) (.cons (.int 1) (.cons (.bin .Sub (.var 0) (.int 1)) .nil))))) .nil) .nil) (.cons (.ret (.tup (.cons (.int 1) (.cons (.bin .FloorDiv (.bin .Sub (.bin .Sub (.var 0) (.var 1)) (.int 1)) (.var 1)) (.cons (.bin .Mod (.bin .Sub (.bin .Sub (.var 0) (.var 1)) (.int 1)) (.var 1)) .nil))))) .nil))))⟩
def nW(Z:Gam):Prop:=∀(p n:Ah),P4 p->∃ x,NF p x/\Z.F 40 [.int n,.int p]=.ok (Cd Ab x)
theorem lX(Z:Gam)(p n:Ah)(hp:P4 p):∃ x,NF p x/\Lf.run Z [.int n,.int p]=.ok (Cd Ab x):=by
 have pp:FF p p=Ab:=Mx (by have:=hp.lo;omega) (by have:=hp.hi;omega)
 have p0:=hp.pos;have ph:=hp.hi;have N0:0<p*p+p+1:=by have:=Int.mul_pos p0 p0;omega
 have h0:=B4 n (VL N0);have h1:=BM n N0;have pb:p<1073741824:=by omega
 refine⟨ptI p (n%(p*p+p+1)),sE hp h0 h1,?_⟩;generalize hr:n%(p*p+p+1)=r at *;unfold ptI;by_cases z0:r=0
 .rw[At z0];simp[Lf,Df.run,Bu,pp,N0,hr,z0];rfl
 .rw[AA z0];by_cases z1:r<=p
  .rw[At z1];simp[Lf,Df.run,Bu,pp,N0,hr,z0,z1];rfl
  .rw[AA z1];simp[Lf,Df.run,Bu,pp,N0,hr,z0,z1,p0,pb];rfl
noncomputable def sp7:Ag:=Ai " "
noncomputable def dg(n:Af):Ag:=if n<10 then ⟨#[48+n]⟩ else ⟨#[49,48]⟩
theorem jL:∀ n:Af,n<11->Ai (toString (n:Ah))=dg n:=by decide+kernel
noncomputable def br0(s:Am):Ag:=if s=Ab then Ai "[" else Ai "("
noncomputable def br1(s:Am):Ag:=if s=Ab then Ai "]" else Ai ")"
noncomputable def jn(a b c:Af):Ag:=Em sp7 [dg a,dg b,dg c]
noncomputable def tx(s:Am)(a b c:Af):Ag:=br0 s++jn a b c++br1 s
def Sg(u:Ag):Prop:=(∃ x,u=⟨#[x]⟩)\/∃ x y,u=⟨#[x,y]⟩
theorem MS(a:Af):Sg (dg a):=by
 unfold dg;by_cases h:a<10
 .rw[At h];exact .inl ⟨_,rfl⟩
 .rw[AA h];exact .inr ⟨_,_,rfl⟩
structure JF (u v w:Ag):Prop where
 jo:IW sp7 [u,v,w]=Ab
 ln:(Em sp7 [u,v,w]).length<=10
 cut:∀ b d:Af,DE ((⟨#[b]⟩:Ag)++Em sp7 [u,v,w]++⟨#[d]⟩) (Aa 1) (Aa (-1))=Em sp7 [u,v,w]
 tl:∀ b d:Af,((⟨#[b]⟩:Ag)++Em sp7 [u,v,w]++⟨#[d]⟩).length<=20
 i0:∀ b d:Af,FJ (.str ((⟨#[b]⟩:Ag)++Em sp7 [u,v,w]++⟨#[d]⟩)) (.int 0)=.ok (.str ⟨#[b]⟩)
 i1:∀ b d:Af,FJ (.str ((⟨#[b]⟩:Ag)++Em sp7 [u,v,w]++⟨#[d]⟩)) (.int (-1))=.ok (.str ⟨#[d]⟩)
theorem jf{u v:Ag}(hu:Sg u)(hv:Sg v)(hw:Sg w):JF u v w:=by
 rcases hu with ⟨x,rfl⟩|⟨x,x',rfl⟩<;>rcases hv with ⟨y,rfl⟩|⟨y,y',rfl⟩<;>rcases hw with ⟨z,rfl⟩|⟨z,z',rfl⟩ <;>
  exact⟨by kernel_rfl,Bw (by kernel_rfl),λb d=>by kernel_rfl,λb d=>Bw (by kernel_rfl),λb d=>by kernel_rfl,λb d=>by kernel_rfl⟩
theorem iB(s:Am):∃ b,br0 s=⟨#[b]⟩:=by
 cases s with
 |false=>exact⟨40,by kernel_rfl⟩
 |true=>exact⟨91,by kernel_rfl⟩
theorem iA(s:Am):∃ b,br1 s=⟨#[b]⟩:=by
 cases s with
 |false=>exact⟨41,by kernel_rfl⟩
 |true=>exact⟨93,by kernel_rfl⟩
theorem pA{y:Ag}{l:Ac Ag}(h:Eg x y=l)(hl:l.length=3)(hx:x.length<=20):Hq x y=Ab:=by
 unfold Eg at h;have no:¬ ([x]=l):=λz=>by rw[<-z]at hl;simp at hl
 by_cases h1:(decide (x.length<y.length)||decide (EZ x<EZ y))=Ab
 .rw[At h1]at h;exact absurd h no
 .rw[AA h1]at h;by_cases h2:(D7 x y 0 x.length (x.length+1)).isEmpty=Ab
  .rw[At h2]at h;exact absurd h no
  .rw[AA h2]at h;unfold Hq;rw[h,hl,Al];exact⟨Ic.mpr (by omega),rfl⟩
noncomputable def Gw(a:Af):Am:=(A5 11).all λb=>(A5 11).all λc=>Eg (jn a b c) sp7==[dg a,dg b,dg c]
theorem tA0:Gw 0=Ab:=by decide+kernel
theorem tA1:Gw 1=Ab:=by decide+kernel
theorem tA2:Gw 2=Ab:=by decide+kernel
theorem tA3:Gw 3=Ab:=by decide+kernel
theorem tA4:Gw 4=Ab:=by decide+kernel
theorem tA5:Gw 5=Ab:=by decide+kernel
theorem tA6:Gw 6=Ab:=by decide+kernel
theorem tA7:Gw 7=Ab:=by decide+kernel
theorem tA8:Gw 8=Ab:=by decide+kernel
theorem tA9:Gw 9=Ab:=by decide+kernel
theorem tL:Gw 10=Ab:=by decide+kernel
theorem pC:∀ a:Af,a<11->Gw a=Ab
 |0,_=>tA0
 |1,_=>tA1
 |2,_=>tA2
 |3,_=>tA3
 |4,_=>tA4
 |5,_=>tA5
 |6,_=>tA6
 |7,_=>tA7
 |8,_=>tA8
 |9,_=>tA9
 |10,_=>tL
 |n+11,h=>absurd h (by omega)
noncomputable def L4:Ss:=(.cons (.ife (.cmp .Eq (.var 1) (.bi .str (.cons (.var 2) .nil))) (.cons (.ret (.var 2)) .nil) .nil) .nil)
noncomputable def L6:Df:=⟨3,Ad,(.cons (.fors 2 (.rng (.var 0)) L4) (.cons (.ret .non) .nil))⟩
noncomputable def NJ:E:=(.call 33 (.cons (.var 0) (.cons (.var 3) .nil)))
noncomputable def L7:Df:=⟨4,Ad,(.cons (.asg 2 Ad (.comp NJ 3 (.e (.var 1)) DM)) (.cons (.ife (.cmp .In .non (.var 2)) (.cons (.ret .non) .nil) .nil) (.cons (.ret (.var 2)) .nil)))⟩
noncomputable def Jf:Df:=⟨5,Ad,(.cons (.asg 3 Ad (.call 34 (.cons (.var 0) (.cons (.bi .ssplit (.cons (.sl (.var 1) (.int 1) (.un .USub (.int 1))) (.cons (.str (Ai " ")) .nil))) .nil)))) (.cons (.ife (.or (.cons (.cmp .Is (.var 3) .non) (.cons (.cmp .NotEq (.bi .len (.cons (.var 3) .nil)) (.int 3)) (.cons (.no (.bi .any (.cons (.var 3) .nil))) .nil)))) (.cons (.rais 106 (.cons (.var 2) .nil)) .nil) .nil) (.cons (.asg 4 Ad (.bin .Add (.idx (.var 1) (.int 0)) (.idx (.var 1) (.un .USub (.int 1))))) (.cons (.ife (.cmp .Eq (.var 4) (.str (Ai "()"))) (.cons (.ret (.mkn 1 (.cons (.var 0) (.cons (.var 3) .nil)))) .nil) .nil) (.cons (.ife (.cmp .Eq (.var 4) (.str (Ai "[]"))) (.cons (.ret (.mkn 2 (.cons (.var 0) (.cons (.var 3) .nil)))) .nil) .nil) (.cons (.rais 106 (.cons (.var 2) .nil)) .nil))))))⟩
noncomputable def Mg:Df:=⟨2,Ad,(.cons (.ret (.call 35 (.cons (.var 0) (.cons (.var 1) (.cons (.int 0) .nil))))) .nil)⟩
noncomputable def Nw:Df:=⟨1,Ad,(.cons (.ret (.ofl (.var 0) (Ai "triple"))) .nil)⟩
structure TxF (a b c:Af):Prop where
 jo:IW sp7 [dg a,dg b,dg c]=Ab
 spl:Eg (jn a b c) sp7=[dg a,dg b,dg c]
 spo:Hq (jn a b c) sp7=Ab
 ln:(jn a b c).length<=10
 cut:∀ s,DE (tx s a b c) (Aa 1) (Aa (-1))=jn a b c
 tl:∀ s,(tx s a b c).length<=20
 i0:∀ s,FJ (.str (tx s a b c)) (.int 0)=.ok (.str (br0 s))
 i1:∀ s,FJ (.str (tx s a b c)) (.int (-1))=.ok (.str (br1 s))
theorem txf{a b c:Af}(ha:a<11)(hb:b<11)(hc:c<11):TxF a b c:=by
 have h:=pC a ha;unfold Gw at h;rw[Bl]at h;have h:=h b (Dl.mpr hb);rw[Bl]at h;have h:=eq_of_beq (h c (Dl.mpr hc));have j:=jf (MS a) (MS b) (MS c);have ln:(jn a b c).length<=10:=j.ln;have tw:∀ s,∃ b' d',tx s a b c=(⟨#[b']⟩:Ag)++Em sp7 [dg a,dg b,dg c]++⟨#[d']⟩/\br0 s=⟨#[b']⟩/\br1 s=⟨#[d']⟩:=λs=>by
  obtain⟨b',e1⟩:=iB s;obtain⟨d',e2⟩:=iA s;exact⟨b',d',by unfold tx;rw[e1,e2];rfl,e1,e2⟩
 refine⟨j.jo,h,pA h rfl (by omega),ln,λs=>?_,λs=>?_,λs=>?_,λs=>?_⟩<;>obtain⟨b',d',e,e1,e2⟩:=tw s
 .rw[e];exact j.cut b' d'
 .rw[e];exact j.tl b' d'
 .rw[e,e1];exact j.i0 b' d'
 .rw[e,e2];exact j.i1 b' d'
noncomputable def jq(q:R3):Ag:=jn q.1.toNat q.2.1.toNat q.2.2.toNat
noncomputable def tq(s:Am)(q:R3):Ag:=tx s q.1.toNat q.2.1.toNat q.2.2.toNat
theorem OX(hp:P4 p)(h:In3 p q):TxF q.1.toNat q.2.1.toNat q.2.2.toNat:=by
 have:=hp.hi;obtain⟨⟨a0,a1⟩,⟨b0,b1⟩,c0,c1⟩:=h;exact txf (by omega) (by omega) (by omega)
theorem Ly{x:Ah}(h0:0<=x)(h1:x<11):biD .str [.int x]=.ok (.str (dg x.toNat)):=by
 obtain⟨n,rfl⟩:=D6 h0;show (if LL (n:Ah)=Ab then R.ok (D.str (Ai (toString (n:Ah)))) else .bad)=_
 have:LL (n:Ah)=Ab:=by unfold LL;simp;omega
 rw[At this,jL n (by omega)]
 rfl
theorem iH(hp:P4 p)(h:In3 p q):biD .str [.int q.1]=.ok (.str (dg q.1.toNat))/\biD .str [.int q.2.1]=.ok (.str (dg q.2.1.toNat))/\biD .str [.int q.2.2]=.ok (.str (dg q.2.2.toNat)):=by
 have:=hp.hi;obtain⟨⟨a0,a1⟩,⟨b0,b1⟩,c0,c1⟩:=h;exact⟨Ly a0 (by omega),Ly b0 (by omega),Ly c0 (by omega)⟩
theorem rM(hp:P4 p)(h:In3 p q):biD .sjoin [.str (Ai " "),.lst [.str (dg q.1.toNat),.str (dg q.2.1.toNat),.str (dg q.2.2.toNat)]]=.ok (.str (jq q)):=by
 show (if IW sp7 [dg q.1.toNat,dg q.2.1.toNat,dg q.2.2.toNat]=Ab then R.ok (D.str (Em sp7 [dg q.1.toNat,dg q.2.1.toNat,dg q.2.2.toNat])) else .bad)=_
 rw[At (OX hp h).jo];rfl
theorem nB(s:Am):(br0 s).length=1/\(br1 s).length=1:=by cases s<;>exact⟨rfl,rfl⟩
theorem sz7(h:n<=1000):B8 n=Ab:=Ic.mpr (by omega)
theorem Yg(hp:P4 p)(h:In3 p q)(s:Am):Cz .Add (.str (br0 s)) (.str (jq q))=.ok (.str (br0 s++jq q))/\Cz .Add (.str (br0 s++jq q)) (.str (br1 s))=.ok (.str (tq s q)):=by
 have t:=OX hp h;have l:=nB s;have lj:(jq q).length<=10:=t.ln;have la:(br0 s++jq q).length=(br0 s).length+(jq q).length:=VC;rw[E3,E3,At (sz7 (by omega)),At (sz7 (by omega))]
 exact⟨rfl,rfl⟩
section
variable{Z:Gam}
noncomputable def sI(s:Am):Ah:=b2i s
theorem nN(s:Am):FJ (.lst [.str (Ai "("),.str (Ai "[")]) (.int (sI s))=.ok (.str (br0 s)):=by cases s<;>rfl
theorem nM(s:Am):FJ (.lst [.str (Ai ")"),.str (Ai "]")]) (.int (sI s))=.ok (.str (br1 s)):=by cases s<;>rfl
noncomputable def cl7(s:Am):Af:=if s=Ab then 2 else 1
noncomputable def obD(p:Ah)(s:Am)(q:R3):D:=.obj (cl7 s) [("p",.int p),("triple",Cd Ab q)]
def SH(Z:Gam):Prop:=∀(p:Ah)(s:Am)(q:R3),Z.F 920 [obD p s q]=.ok (Cd Ab q)
theorem rD(p:Ah)(s:Am)(q:R3):ofD (obD p s q) (Ai "triple")=.ok (Cd Ab q):=rfl
theorem cR(Z:Gam)(p:Ah)(s:Am)(q:R3):Nw.run Z [obD p s q]=.ok (Cd Ab q):=by
 have e:=rD p s q;generalize obD p s q=o at *;simp[Nw,Df.run,Bu,e]
def Fm(p:Ah)(q a:R3):Prop:=∃ l u,CH p (tri q)=Aa l/\IM p l u/\fmI p u (tri q)=tri a
def UK(Z:Gam):Prop:=∀(p:Ah)(b:Am)(q a:R3),P4 p->Fm p q a->Z.F 910 [.int p,Cd b q]=.ok (.tup [.int p,Cd Ab a])
theorem tE(hf:OO Z)(b:Am)(hp:P4 p)(h:Fm p q a):Z.F 17 [.int p,Cd b q]=.ok (Cd Ab a):=by
 obtain⟨l,u,h1,h2,h3⟩:=h;have e:=hf p b (tri q) l u hp h1 h2;rw[h3]at e;exact e
theorem rV(hf:OO Z)(p:Ah)(b:Am)(q a:R3)(hp:P4 p)(h:Fm p q a):inC.run Z [.int p,Cd b q]=.ok (.tup [.int p,Cd Ab a]):=by
 have e:=tE hf b hp h;generalize Cd b q=Q at *;generalize Cd Ab a=A at *;simp[inC,Df.run,Bu,e]
def UI(Z:Gam):Prop:=∀(p:Ah)(s b:Am)(q a:R3),P4 p->Fm p q a->Z.F (900+cl7 s) [.int p,Cd b q]=.ok (obD p s a)
theorem Um(hi:UK Z)(c:Af)(p:Ah)(b:Am)(q a:R3)(hp:P4 p)(h:Fm p q a):(mkC c).run Z [.int p,Cd b q]=.ok (.obj c [("p",.int p),("triple",Cd Ab a)]):=by
 have e:=hi p b q a hp h;have m:EC c (.tup [.int p,Cd Ab a])=.ok (.obj c [("p",.int p),("triple",Cd Ab a)]):=rfl;generalize Cd b q=Q at *;generalize Cd Ab a=A at *;simp[mkC,Df.run,Bu,e,m,noX]
end
section
variable{Z:Gam}
theorem Ye(hi:In3 p q)(h:Fm p q a):biD .any [Cd Ad q]=.ok (.bl Ab):=by
 obtain⟨l,u,h1,_⟩:=h;have:(q.1 != 0||(q.2.1 != 0||(q.2.2 != 0||false)))=Ab:=by
  rw[<-Bool.not_eq_false];intro z;simp only[Bool.or_eq_false_iff,bne_eq_false_iff_eq]at z;have:CH p (tri q)=Ae:=Mb.mpr λx hx=>by
   simp only[tri,AH,Ca,Et]at hx;rcases hx with rfl|rfl|rfl
   .rw[z.1];exact ES p
   .rw[z.2.1];exact ES p
   .rw[z.2.2.1];exact ES p
  rw[this]at h1;cases h1
 show R.ok (D.bl (q.1 != 0||(q.2.1 != 0||(q.2.2 != 0||false))))=_;rw[this]
end
section
variable{Z:Gam}{ns:Ac Ah}{p:Ah}
end
section
variable{Z:Gam}{p:Ah}
theorem getL_at{xs:Ac D}{k:Af}{d:D}(h:xs[k]?=Aa d):CI xs (k:Ah)=.ok d:=by
 have hl:=(A1.mp h).1;have e:plD xs.length (k:Ah)=Aa k:=by
  unfold plD;simp;omega
 unfold CI;rw[e];dsimp only;rw[h]
end
noncomputable def Lc:Df:=⟨4,Ab,(.cons (.retc [2,3] (.enm (.var 1)) 35 (.cons (.var 0) (.cons (.var 3) (.cons (.var 2) .nil)))) .nil)⟩
noncomputable def NP:Df:=⟨2,Ad,(.cons (.asg 1 Ad (.str (Ai " !\"#$&'()*+,-./0123456789:;<=>?@ABCDEFGHIJKLMNOPQRSTUVWXYZ[\\]^_`"))) (.cons (.asg 1 Ad (.bin .Add (.var 1) (.str (Ai "abcdefghijklmnopqrstuvwxyz{|}~")))) (.cons (.ret (.idx (.var 1) (.bin .Mod (.var 0) (.bi .len (.cons (.var 1) .nil))))) .nil)))⟩
noncomputable def Nz:E:=(.bi .str (.cons (.var 3) .nil))
noncomputable def Mi:Df:=⟨4,Ad,(.cons (.asg 2 Ad (.comp Nz 3 (.rng (.var 1)) DM)) (.cons (.ife (.cmp .In (.var 0) (.var 2)) (.cons (.ret (.bi .index (.cons (.var 2) (.cons (.var 0) .nil)))) .nil) .nil) (.cons (.ret .non) .nil)))⟩
noncomputable def NK:E:=(.call 47 (.cons (.var 3) (.cons (.var 1) .nil)))
noncomputable def Ir:Df:=⟨4,Ad,(.cons (.ife (.or (.cons (.cmp .Lt (.bi .len (.cons (.var 0) .nil)) (.int 2)) (.cons (.cmp .NotIn (.tup (.cons (.idx (.var 0) (.int 0)) (.cons (.idx (.var 0) (.un .USub (.int 1))) .nil))) (.lst (.cons (.tup (.cons (.str (Ai "(")) (.cons (.str (Ai ")")) .nil))) (.cons (.tup (.cons (.str (Ai "[")) (.cons (.str (Ai "]")) .nil))) .nil)))) .nil))) (.cons (.ret .non) .nil) .nil) (.cons (.asg 2 Ad (.comp NK 3 (.e (.bi .ssplit (.cons (.sl (.var 0) (.int 1) (.un .USub (.int 1))) (.cons (.str (Ai " ")) .nil)))) DM)) (.cons (.ife (.or (.cons (.cmp .NotEq (.bi .len (.cons (.var 2) .nil)) (.int 3)) (.cons (.cmp .In .non (.var 2)) .nil))) (.cons (.ret .non) .nil) .nil) (.cons (.ret (.call 44 (.cons (.var 2) (.cons (.var 1) .nil)))) .nil))))⟩
noncomputable def K8:Df:=⟨6,Ad,(.cons (.asg 3 Ad .non) (.cons (.asg 4 Ad (.bl Ad)) (.cons (.tryx (.cons (.ife (.var 2) (.cons (.expr (.call 36 (.cons (.var 0) (.cons (.idx (.var 1) (.int 0)) .nil)))) .nil) (.cons (.expr (.call 37 (.cons (.var 0) (.cons (.var 1) .nil)))) .nil)) .nil) 106 5 (.cons (.asg 3 Ad (.fld (.var 5) (Ai "row"))) (.cons (.asg 4 Ad (.and (.cons (.isi (.var 5) [.cls 0]) (.cons (.isi (.var 5) [.verr]) (.cons (.no (.isi (.var 5) [.cls 12,.cls 3,.cls 107])) .nil))))) .nil))) (.cons (.ife (.no (.var 4)) (.cons (.ret .non) .nil) .nil) (.cons (.ret (.var 3)) .nil)))))⟩
noncomputable def Md:Df:=⟨3,Ad,(.cons (.asg 2 Ad (.lst (.cons (.str (Ai "")) (.cons (.str (Ai "(")) (.cons (.str (Ai "()")) (.cons (.str (Ai "(0 0 0)")) (.cons (.str (Ai "[0 0 0]")) (.cons (.str (Ai "(1 0 0]")) (.cons (.str (Ai "[1 0 0)")) (.cons (.str (Ai "1 0 0")) (.cons (.str (Ai "(1 0)")) (.cons (.str (Ai "(1 0 0 0)")) (.cons (.str (Ai "(1  0 0)")) .nil))))))))))))) (.cons (.asg 2 Ad (.bin .Add (.var 2) (.lst (.cons (.str (Ai "( 1 0 0)")) (.cons (.str (Ai "(1 0 0 )")) (.cons (.str (Ai "(01 0 0)")) (.cons (.str (Ai "(+1 0 0)")) (.cons (.str (Ai "(-1 0 0)")) (.cons (.str (Ai "(1,0,0)")) (.cons (.str (Ai "(1 0 0) ")) (.cons (.str (Ai " (1 0 0)")) .nil))))))))))) (.cons (.asg 2 Ad (.bin .Add (.var 2) (.lst (.cons (.str (Ai "((1 0 0))")) (.cons (.str (Ai "(1 0 00)")) (.cons (.bin .Add (.bin .Add (.str (Ai "(1 0 ")) (.bi .str (.cons (.var 0) .nil))) (.str (Ai ")"))) (.cons (.bin .Add (.bin .Add (.str (Ai "(")) (.bi .str (.cons (.var 0) .nil))) (.str (Ai " 1 0)"))) (.cons (.str (Ai "(0 0 1)")) (.cons (.str (Ai "{1 0 0}")) .nil))))))))) (.cons (.asg 2 Ad (.bin .Add (.var 2) (.lst (.cons (.bin .Add (.bin .Add (.str (Ai "(1 0 ")) (.bi .str (.cons (.bin .Sub (.var 0) (.int 1)) .nil))) (.str (Ai ")"))) (.cons (.str (Ai "(1 0 a)")) .nil))))) (.cons (.ret (.idx (.var 2) (.bin .Mod (.var 1) (.bi .len (.cons (.var 2) .nil))))) .nil)))))⟩
noncomputable def JE:Df:=⟨7,Ab,(.cons (.asg 3 Ad (.bin .Mod (.var 2) (.int 4))) (.cons (.asg 4 Ad (.bin .Mod (.bin .FloorDiv (.var 2) (.int 4)) (.bin .Add (.bi .len (.cons (.var 1) .nil)) (.int 1)))) (.cons (.ife (.or (.cons (.cmp .Eq (.var 3) (.int 0)) (.cons (.cmp .Eq (.var 4) (.bi .len (.cons (.var 1) .nil))) .nil))) (.cons (.ret (.bin .Add (.bin .Add (.sl (.var 1) .non (.var 4)) (.lst (.cons (.call 50 (.cons (.var 0) (.cons (.bin .FloorDiv (.var 2) (.int 40)) .nil))) .nil))) (.sl (.var 1) (.var 4) .non))) .nil) .nil) (.cons (.asg 5 Ad (.idx (.var 1) (.var 4))) (.cons (.asg 6 Ad (.bin .Mod (.bin .FloorDiv (.var 2) (.int 40)) (.bin .Add (.bi .len (.cons (.var 5) .nil)) (.int 1)))) (.cons (.ife (.cmp .Eq (.var 3) (.int 1)) (.cons (.asg 5 Ad (.bin .Add (.sl (.var 5) .non (.var 6)) (.sl (.var 5) (.bin .Add (.var 6) (.int 1)) .non))) .nil) .nil) (.cons (.ife (.cmp .Eq (.var 3) (.int 2)) (.cons (.asg 5 Ad (.bin .Add (.bin .Add (.sl (.var 5) .non (.var 6)) (.call 46 (.cons (.bin .FloorDiv (.var 2) (.int 400)) .nil))) (.sl (.var 5) (.var 6) .non))) .nil) .nil) (.cons (.ife (.cmp .Eq (.var 3) (.int 3)) (.cons (.asg 5 Ad (.bin .Add (.bin .Add (.sl (.var 5) .non (.var 6)) (.call 46 (.cons (.bin .FloorDiv (.var 2) (.int 400)) .nil))) (.sl (.var 5) (.bin .Add (.var 6) (.int 1)) .non))) .nil) .nil) (.cons (.ret (.bin .Add (.bin .Add (.sl (.var 1) .non (.var 4)) (.lst (.cons (.var 5) .nil))) (.sl (.var 1) (.bin .Add (.var 4) (.int 1)) .non))) .nil)))))))))⟩
noncomputable def Nv:E:=(.bi .str (.cons (.var 11) .nil))
noncomputable def L9:Ss:=(.cons (.asg 4 Ad (.call 3 (.cons (.var 0) (.cons (.var 3) .nil)))) (.cons (.asg 5 Ad (.bi .sjoin (.cons (.str (Ai " ")) (.cons (.comp Nv 11 (.e (.call 40 (.cons (.bin .FloorDiv (.var 4) (.int 2)) (.cons (.var 1) .nil)))) DM) .nil)))) (.cons (.app 2 (.bin .Add (.bin .Add (.idx (.lst (.cons (.str (Ai "(")) (.cons (.str (Ai "[")) .nil))) (.bin .Mod (.var 4) (.int 2))) (.var 5)) (.idx (.lst (.cons (.str (Ai ")")) (.cons (.str (Ai "]")) .nil))) (.bin .Mod (.var 4) (.int 2))))) .nil)))
noncomputable def L8:Ss:=(.cons (.asg 2 Ab (.call 51 (.cons (.var 1) (.cons (.var 2) (.cons (.call 3 (.cons (.var 0) (.cons (.bin .Add (.int 62) (.var 3)) .nil))) .nil))))) .nil)
noncomputable def Nu:E:=(.call 48 (.cons (.var 12) (.cons (.var 1) .nil)))
noncomputable def K7:E:=(.meth (Ai "told") [(1,920),(2,920)] (.var 13))
noncomputable def Me:Df:=⟨14,Ad,(.cons (.asg 1 Ad (.call 4 (.cons (.var 0) (.cons (.int 60) .nil)))) (.cons (.asg 2 Ab (.lst .nil)) (.cons (.fors 3 (.rng (.bi .min (.cons (.int 8) (.cons (.bi .len (.cons (.var 0) .nil)) .nil)))) L9) (.cons (.fors 3 (.rng (.bin .Mod (.call 3 (.cons (.var 0) (.cons (.int 61) .nil))) (.int 4))) L8) (.cons (.rel 2) (.cons (.asg 6 Ad (.comp Nu 12 (.e (.var 2)) DM)) (.cons (.asg 7 Ad (.bi .list (.cons (.var 2) .nil))) (.cons (.ife (.cmp .In .non (.var 6)) (.cons (.asg 8 Ad (.call 49 (.cons (.var 1) (.cons (.var 7) (.cons (.bl Ad) .nil))))) (.cons (.asg 9 Ad (.call 49 (.cons (.var 1) (.cons (.lst (.cons (.idx (.var 2) (.bi .index (.cons (.var 6) (.cons .non .nil)))) .nil)) (.cons (.bl Ab) .nil))))) (.cons (.ret (.and (.cons (.call 6 (.cons (.var 8) (.cons (.int 0) (.cons (.bi .len (.cons (.var 2) .nil)) .nil)))) (.cons (.cmp .Eq (.var 8) (.bi .index (.cons (.var 6) (.cons .non .nil)))) (.cons (.cmp .Eq (.var 9) (.int 0)) (.cons (.cmp .Eq (.var 7) (.var 2)) .nil)))))) .nil))) .nil) (.cons (.asg 10 Ad (.call 37 (.cons (.var 1) (.cons (.var 7) .nil)))) (.cons (.ife (.or (.cons (.cmp .NotEq (.var 7) (.var 2)) (.cons (.cmp .NotEq (.call 49 (.cons (.var 1) (.cons (.bin .Add (.var 2) (.lst (.cons (.str (Ai "(0 0 0)")) .nil))) (.cons (.bl Ad) .nil)))) (.bi .len (.cons (.var 2) .nil))) .nil))) (.cons (.ret (.bl Ad)) .nil) .nil) (.cons (.ret (.cmp .Eq (.comp K7 13 (.e (.var 10)) DM) (.var 6))) .nil)))))))))))⟩
theorem Lq(x:Ag)(l h:Ao Ah):(DE x l h).length<=x.length:=by
 unfold DE;split
 .exact AK _
 .show (Ew _).size<=_;rw[AM];exact Bt (List.length_filterMap_le _ _) (PyProof.Rows.indices_len_le _ _ _)
theorem jU(h:x.length<=1000):Hq x sp7=Ab:=by
 unfold Hq;rw[Al];refine⟨Ic.mpr (by omega),Ic.mpr ?_⟩
 rw[PySem.length_partsBetween];have:=PySem.StrLaws.occ_length_le x sp7 0 x.length (x.length+1);omega
theorem sl8(h:x.length<=1000)(l u:Ao Ah):slD (.str x) l u=.ok (.str (DE x l u)):=by
 have h1:B8 x.length=Ab:=sz7 h;have h2:B8 (DE x l u).length=Ab:=sz7 (Bt (Lq x l u) h);show (if (B8 x.length&&B8 (DE x l u).length)=Ab then R.ok (D.str (DE x l u)) else .bad)=_
 rw[h1,h2];rfl
noncomputable def wsF(x:Ag):Ac Ag:=Eg (DE x (Aa 1) (Aa (-1))) sp7
theorem sp8(h:x.length<=1000):biD .ssplit [.str (DE x (Aa 1) (Aa (-1))),.str (Ai " ")]=.ok (.lst ((wsF x).map D.str)):=by
 have ho:Hq (DE x (Aa 1) (Aa (-1))) sp7=Ab:=jU (Bt (Lq _ _ _) h);show (if (!(sp7.length==0)&&Hq (DE x (Aa 1) (Aa (-1))) sp7)=Ab then R.ok (D.lst ((Eg (DE x (Aa 1) (Aa (-1))) sp7).map D.str)) else .bad)=_
 rw[ho];rfl
noncomputable def rsF(p:Ah)(w:Ag):Ao Af:=(A5 p.toNat).find? λn=>dg n==w
noncomputable def oD:Ao Af->D
 |some n=>.int (n:Ah)
 |none=>.non
theorem Us{body:D->Rho->O}(I:Rho->Prop)(g:Af->Am):∀(l:Ac Af),(∀ j∈l,∀ U,I U->(g j=Ab->body (.int (j:Ah)) U=.ret (.int (j:Ah)) Ad)/\(g j=Ad->∃ U',body (.int (j:Ah)) U=.next U'/\I U'))->∀ U,I U->(∀ n,l.find? g=Aa n->Dd body (l.map fun(k:Af)=>D.int (k:Ah)) U=.ret (.int (n:Ah)) Ad)/\(l.find? g=Ae->∃ U',Dd body (l.map fun(k:Af)=>D.int (k:Ah)) U=.next U'/\I U')
 |[],_,U,hI=>⟨λn z=>(nomatch z),λ_=>⟨U,rfl,hI⟩⟩
 |j::l,h,U,hI=>by
  obtain⟨h1,h2⟩:=h j (AE ..) U hI;have st:Dd body ((j::l).map fun(k:Af)=>D.int (k:Ah)) U=(body (.int (j:Ah)) U).turn (Dd body (l.map fun(k:Af)=>D.int (k:Ah))):=rfl
  rw[st,VR];cases e:g j with
  |true=>
   rw[h1 e];exact⟨λn z=>by cases z;rfl,λz=>by cases z⟩
  |false=>
   obtain⟨U',e1,I'⟩:=h2 e;rw[e1];exact Us I g l (λk hk=>h k (Aw _ hk)) U' I'
theorem rg8(hp:P4 p):D8 0 p=.ok ((A5 p.toNat).map fun(k:Af)=>D.int (k:Ah)):=by
 have:=hp.hi;have:=hp.pos;rw[Ob (by omega) (by omega)]
 simp[EO]
theorem UU(hp:P4 p){j:Af}(h:j∈A5 p.toNat):biD .str [.int (j:Ah)]=.ok (.str (dg j)):=by
 have:=hp.hi;have:=Dl.mp h;exact Ly (by omega) (by omega)
section
variable{Z:Gam}{p:Ah}
def UG(Z:Gam):Prop:=∀(p:Ah)(w:Ag),P4 p->Z.F 33 [.int p,.str w]=.ok (oD (rsF p w))
theorem rS(Z:Gam)(p:Ah)(w:Ag)(hp:P4 p):L6.run Z [.int p,.str w]=.ok (oD (rsF p w)):=by
 have rg:=rg8 hp;have key:=Us (body:=Ds Z 2 L4) (λU=>∃ s,U=[si p,sh (.str w),s]) (λn=>dg n==w) (A5 p.toNat) (by
  rintro j hj U ⟨s,rfl⟩;have st:=UU hp hj;generalize dg j=dj at *;refine⟨λe=>?_,λe=>⟨[si p,sh (.str w),si (j:Ah)],?_,_,rfl⟩⟩
  .have e:=eq_of_beq e;subst e;simp[Ds,L4,st,Dj]
  .have ne:¬ w=dj:=λz=>by rw[z]at e;simp at e
   simp[Ds,L4,st,ne]) [si p,sh (.str w),Ae] ⟨_,rfl⟩
 have er:(A5 p.toNat).find? (λn=>dg n==w)=rsF p w:=rfl
 rw[er]at key;cases e:rsF p w with
 |some n=>
  have k1:=key.1 n e;simp[L6,Df.run,Bu,rg,k1,oD]
 |none=>
  obtain⟨U',k1,s,rfl⟩:=key.2 e;simp[L6,Df.run,Bu,rg,k1,oD]
theorem Rz{g:D->R Am}{f:D->R D}{ψ:Af->D}:∀ l:Ac Af,(∀ j∈l,g (.int (j:Ah))=.ok Ab/\f (.int (j:Ah))=.ok (ψ j))->Bq g f (l.map fun(k:Af)=>D.int (k:Ah))=.ok (l.map ψ)
 |[],_=>rfl
 |j::l,h=>by
  obtain⟨h1,h2⟩:=h j (AE ..);show (g (.int (j:Ah))).bind _=_;rw[h1,R.bind_ok,At rfl,h2,R.bind_ok];show (Bq g f (l.map fun(k:Af)=>D.int (k:Ah))).bind _=_
  rw[Rz l λy hy=>h y (Aw _ hy)]
  rfl
theorem Mr{g:D->R Am}{f:D->R D}{ψ:Ag->D}:∀ l:Ac Ag,(∀ w∈l,g (.str w)=.ok Ab/\f (.str w)=.ok (ψ w))->Bq g f (l.map D.str)=.ok (l.map ψ)
 |[],_=>rfl
 |w::l,h=>by
  obtain⟨h1,h2⟩:=h w (AE ..);show (g (.str w)).bind _=_;rw[h1,R.bind_ok,At rfl,h2,R.bind_ok];show (Bq g f (l.map D.str)).bind _=_;rw[Mr l λy hy=>h y (Aw _ hy)]
  rfl
theorem Rc(q:Af->Am):∀ n,(A5 n).findIdx? q=(A5 n).find? q
 |0=>rfl
 |n+1=>by
  rw[List.range_succ,VS,List.find?_append,Rc q n];cases e:(A5 n).find? q with
  |some j=>rfl
  |none=>
   simp only[Option.none_or,List.length_range,GF,VR,List.findIdx?_nil,List.find?_nil];cases q n<;>simp
theorem kE(p:Ah)(w:Ag):Bj .In (.str w) (.lst ((A5 p.toNat).map λn=>D.str (dg n)))=.ok (.bl (rsF p w).isSome)/\∀ n,rsF p w=Aa n->biD .index [.lst ((A5 p.toNat).map λn=>D.str (dg n)),.str w]=.ok (.int (n:Ah)):=by
 have fl:((A5 p.toNat).map λn=>D.str (dg n)).all (flD 5)=Ab:=by
  rw[DX];exact Bl.mpr λ_ _=>rfl
 constructor
 .show (if (Ab&&((A5 p.toNat).map λn=>D.str (dg n)).all (flD 5))=Ab then R.ok (D.bl (((A5 p.toNat).map λn=>D.str (dg n)).any λy=>eqD y (.str w))) else .bad)=_
  rw[fl,At (show (Ab&&Ab)=Ab from rfl),F4]
  congr 2
  unfold rsF;rw[List.isSome_find?];rfl
 .intro n h;show (if (Ab&&((A5 p.toNat).map λn=>D.str (dg n)).all (flD 5))=Ab then (match ((A5 p.toNat).map λn=>D.str (dg n)).findIdx? (λy=>eqD y (.str w)) with|some j=>R.ok (D.int (j:Af))|none=>.bad) else .bad)=_
  rw[fl,At (show (Ab&&Ab)=Ab from rfl),VU]
  have e:(A5 p.toNat).findIdx? ((λy=>eqD y (.str w)) ∘ λn=>D.str (dg n))=Aa n:=(Rc _ _).trans h
  rw[e]
def UF(Z:Gam):Prop:=∀(p:Ah)(w:Ag),P4 p->Z.F 47 [.str w,.int p]=.ok (oD (rsF p w))
theorem rR(Z:Gam)(p:Ah)(w:Ag)(hp:P4 p):Mi.run Z [.str w,.int p]=.ok (oD (rsF p w)):=by
 have rg:=rg8 hp;have cp:Bq (cG Z [sh (.str w),si p,Ae,Ae] 3 DM) (cF Z [sh (.str w),si p,Ae,Ae] 3 Nz) ((A5 p.toNat).map fun(k:Af)=>D.int (k:Ah))=.ok ((A5 p.toNat).map λn=>D.str (dg n)):=Rz _ λj hj=>by
  have st:=UU hp hj;generalize dg j=dj at *;exact⟨rfl,by simp[cF,Nz,st]⟩
 obtain⟨h1,h2⟩:=kE p w;generalize (A5 p.toNat).map (λn=>D.str (dg n))=L at *
 generalize (A5 p.toNat).map (fun(k:Af)=>D.int (k:Ah))=RG at *
 cases e:rsF p w with
 |some n=>
  have h2:=h2 n e;rw[e]at h1;have h1:Bj .In (.str w) (.lst L)=.ok (.bl Ab):=h1;simp[Mi,Df.run,Bu,rg,cp,h1,h2,oD,-HV]
 |none=>
  rw[e]at h1;have h1:Bj .In (.str w) (.lst L)=.ok (.bl Ad):=h1;simp[Mi,Df.run,Bu,rg,cp,h1,oD,-HV]
end
noncomputable def rsD(p:Ah)(ws:Ac Ag):D:=if (ws.all λw=>(rsF p w).isSome)=Ab then .lst (ws.map λw=>oD (rsF p w)) else .non
theorem tF(o:Ao Af):flD 5 (oD o)=Ab:=by cases o<;>rfl
theorem UB(p:Ah)(ws:Ac Ag):Bj .In .non (.lst (ws.map λw=>oD (rsF p w)))=.ok (.bl (!(ws.all λw=>(rsF p w).isSome))):=by
 have fl:(ws.map λw=>oD (rsF p w)).all (flD 5)=Ab:=by
  rw[DX];exact Bl.mpr λw _=>tF _
 show (if (Ab&&(ws.map λw=>oD (rsF p w)).all (flD 5))=Ab then R.ok (D.bl ((ws.map λw=>oD (rsF p w)).any λy=>eqD y .non)) else .bad)=_
 rw[fl,At (show (Ab&&Ab)=Ab from rfl),F4]
 congr 2
 induction ws with
 |nil=>rfl
 |cons w ws ih=>
  rw[GN,Dg,ih (by rw[AZ,Dg,Al]at fl;exact fl.2)]
  show (eqD (oD (rsF p w)) .non||_)=_;cases rsF p w<;>simp[oD,eqD]
section
variable{Z:Gam}{p:Ah}
def TV(Z:Gam):Prop:=∀(p:Ah)(ws:Ac Ag),P4 p->Z.F 34 [.int p,.lst (ws.map D.str)]=.ok (rsD p ws)
theorem lY(hr:UG Z)(p:Ah)(ws:Ac Ag)(hp:P4 p):L7.run Z [.int p,.lst (ws.map D.str)]=.ok (rsD p ws):=by
 have cp:∀ X:D,Bq (cG Z [si p,sh X,Ae,Ae] 3 DM) (cF Z [si p,sh X,Ae,Ae] 3 NJ) (ws.map D.str)=.ok (ws.map λw=>oD (rsF p w)):=λX=>Mr ws λw _=>by
  have e:=hr p w hp;generalize oD (rsF p w)=o at *;exact⟨rfl,by simp[cF,NJ,e]⟩
 have ci:=UB p ws;unfold rsD;generalize (ws.map λw=>oD (rsF p w))=L at *
 generalize ws.map D.str=M at *;generalize (ws.all λw=>(rsF p w).isSome)=B at *
 cases B with
 |true=>
  have ci:Bj .In .non (.lst L)=.ok (.bl Ad):=ci;simp[L7,Df.run,Bu,cp,ci,-HV]
 |false=>
  have ci:Bj .In .non (.lst L)=.ok (.bl Ab):=ci;simp[L7,Df.run,Bu,cp,ci,-HV]
noncomputable def q8:Ac (Ao Af)->Ao R3
 |[Aa a,Aa b,Aa c]=>if a=0/\b=0/\c=0 then Ae else Aa (a,b,c)
 |_=>Ae
noncomputable def brF(c d:Af):Ao Am:=if c=40/\d=41 then Aa Ad else if c=91/\d=93 then Aa Ab else Ae
noncomputable def b8(x:Ag):Ao Am:=match x.cps[0]?,x.cps[x.length-1]? with
  |some c,Aa d=>brF c d
  |_,_=>Ae
open Classical in
noncomputable def aF(p:Ah)(q:R3):R3:=if h:∃ a,Fm p q a then G6 h else (0,0,0)
theorem UO(h:∃ a,Fm p q a):Fm p q (aF p q):=by
 unfold aF;rw[dif_pos h];exact C7 h
noncomputable def C5(p:Ah)(x:Ag):Ao (Am×R3):=match b8 x,q8 ((wsF x).map (rsF p)) with
  |some s,Aa q=>Aa (s,aF p q)
  |_,_=>Ae
theorem Pe(h:rsF p w=Aa n):n<p.toNat:=Dl.mp (List.mem_of_find?_eq_some h)
theorem Uc(hp:P4 p)(h:q8 (ws.map (rsF p))=Aa q):In3 p q/\(∃ a,Fm p q a)/\rsD p ws=Cd Ad q:=by
  have p0:=hp.pos
  match ws,h with
  |[w1,w2,w3],h=>
    rw[AZ,AZ,AZ,DZ]at h;cases e1:rsF p w1 with
    |none=>rw[e1]at h;cases h
    |some n1=>
      cases e2:rsF p w2 with
      |none=>rw[e1,e2]at h;cases h
      |some n2=>
        cases e3:rsF p w3 with
        |none=>rw[e1,e2,e3]at h;cases h
        |some n3=>
          rw[e1,e2,e3]at h;have h':(if n1=0/\n2=0/\n3=0 then Ae else Aa ((n1:Ah),(n2:Ah),(n3:Ah)))=Aa q:=h
          by_cases z:n1=0/\n2=0/\n3=0
          · rw[At z]at h';cases h'
          · rw[AA z]at h';cases h';have l1:=Pe e1;have l2:=Pe e2;have l3:=Pe e3;have hin:In3 p ((n1:Ah),(n2:Ah),(n3:Ah)):=by
              refine⟨⟨?_,?_⟩,⟨?_,?_⟩,?_,?_⟩
              · show (0:Ah)<=n1;omega
              · show (n1:Ah)<p;omega
              · show (0:Ah)<=n2;omega
              · show (n2:Ah)<p;omega
              · show (0:Ah)<=n3;omega
              · show (n3:Ah)<p;omega
            refine⟨hin,?_,?_⟩
            · cases el:CH p (tri ((n1:Ah),(n2:Ah),(n3:Ah))) with
              |none=>
                exfalso
                have h0:=Mb.mp el;have m1:=h0 (n1:Ah) (by simp[tri])
                have m2:=h0 (n2:Ah) (by simp[tri])
                have m3:=h0 (n3:Ah) (by simp[tri])
                rw[BH (by omega) (by omega)]at m1 m2 m3
                exact z ⟨by omega,by omega,by omega⟩
              |some l=>
                obtain⟨hl,_,_⟩:=Ma p0 el;obtain⟨t,t1,t2,t3⟩:=LA hp hl;exact⟨((fmI p t (tri ((n1:Ah),(n2:Ah),(n3:Ah)))).getD 0 0,(fmI p t (tri ((n1:Ah),(n2:Ah),(n3:Ah)))).getD 1 0,(fmI p t (tri ((n1:Ah),(n2:Ah),(n3:Ah)))).getD 2 0),l,t,el,⟨t1,t2,t3⟩,rfl⟩
            · unfold rsD;rw[At (by simp[e1,e2,e3])]
              simp[e1,e2,e3,oD];rfl
  |[],h=>cases h
  |[w1],h=>rw[AZ,DZ]at h;cases e1:rsF p w1<;>rw[e1]at h<;>cases h
  |[w1,w2],h=>rw[AZ,AZ,DZ]at h;cases e1:rsF p w1<;>cases e2:rsF p w2<;>rw[e1,e2]at h<;>cases h
  |w1::w2::w3::w4::ws,h=>rw[AZ,AZ,AZ,AZ]at h;cases e1:rsF p w1<;>cases e2:rsF p w2<;>cases e3:rsF p w3<;>rw[e1,e2,e3]at h<;>cases h
theorem Ub(h:q8 (ws.map (rsF p))=Ae):rsD p ws=.non\/(∃ rs,rsD p ws=.lst rs/\rs.length≠3)\/rsD p ws=Cd Ad (0,0,0):=by
  unfold rsD;by_cases ha:(ws.all λw=>(rsF p w).isSome)=Ab
  · rw[At ha];by_cases hl:ws.length=3
    · match ws,hl,ha,h with
      |[w1,w2,w3],_,ha,h=>
        simp only[Dg,List.all_nil,FO,Al,Option.isSome_iff_exists]at ha;obtain⟨⟨n1,e1⟩,⟨n2,e2⟩,n3,e3⟩:=ha;rw[AZ,AZ,AZ,DZ,e1,e2,e3]at h;have h':(if n1=0/\n2=0/\n3=0 then Ae else Aa ((n1:Ah),(n2:Ah),(n3:Ah)))=Ae:=h
        by_cases z:n1=0/\n2=0/\n3=0
        · obtain⟨rfl,rfl,rfl⟩:=z;refine .inr (.inr ?_);simp[e1,e2,e3,oD];rfl
        · rw[AA z]at h';cases h'
    · exact .inr (.inl ⟨_,rfl,by rw[Bi];exact hl⟩)
  · rw[AA ha];exact .inl rfl
theorem kD:(wsF ⟨#[]⟩).length=1:=by kernel_rfl
theorem sC(h:q8 ((wsF x).map (rsF p))=Aa q):x.cps.size≠0:=λz=>by
  have e:x=⟨#[]⟩:=by
    obtain⟨a⟩:=x
    congr 1
    exact Array.eq_empty_of_size_eq_zero z
  rw[e]at h;have l:=kD
  match hw:wsF ⟨#[]⟩,l with
  |[w],_=>
    rw[hw,AZ,DZ]at h;cases e1:rsF p w<;>rw[e1]at h<;>cases h
theorem at0{c:Af}(hl:x.length<=1000)(h:x.cps[0]?=Aa c):FJ (.str x) (.int 0)=.ok (.str ⟨#[c]⟩):=by
 show (if B8 x.length=Ab then CI (FL x) 0 else .bad)=_
 rw[At (sz7 hl)];exact getL_at (k:=0) (by unfold FL;rw[Ch,F1,h];rfl)
theorem at1{d:Af}(hl:x.length<=1000)(h:x.cps[x.length-1]?=Aa d):FJ (.str x) (.int (-1))=.ok (.str ⟨#[d]⟩):=by
 have hz:x.length-1<x.length:=by
  have:=(ER.mp h).1;exact this
 have lc:(FL x).length=x.length:=by unfold FL;rw[Bi,EX];rfl
 show (if B8 x.length=Ab then CI (FL x) (-1) else .bad)=_
 rw[At (sz7 hl)];have e:plD (FL x).length (-1)=Aa (x.length-1):=by
  rw[lc];unfold plD;simp;omega
 unfold CI;rw[e];dsimp only;have:(FL x)[x.length-1]?=Aa (.str ⟨#[d]⟩):=by unfold FL;rw[Ch,F1,h];rfl
 rw[this]
end
noncomputable def exR(r:Ah):Ex:=⟨106,[("row",.int r)]⟩
def UD(Z:Gam):Prop:=∀ r:Ah,0<=r->r<100->Z.xn 106 [.int r]=.ok (exR r)
noncomputable def IG(p r:Ah)(x:Ag):R D:=match C5 p x with
  |some (s,a)=>.ok (obD p s a)
  |none=>.exn (exR r)
theorem PQ(h:q8 ((wsF x).map (rsF p))=Ae):C5 p x=Ae:=by
 unfold C5;rw[h];cases b8 x<;>rfl
theorem PR(h:b8 x=Ae):C5 p x=Ae:=by
 unfold C5;rw[h]
theorem PN(h:b8 x=Aa s)(h2:q8 ((wsF x).map (rsF p))=Aa q):C5 p x=Aa (s,aF p q):=by
 unfold C5;rw[h,h2]
theorem Kx{r:Ah}(h:C5 p x=Ae):IG p r x=.exn (exR r):=by
 unfold IG;rw[h]
theorem LI{r:Ah}(h:C5 p x=Aa (s,a)):IG p r x=.ok (obD p s a):=by
 unfold IG;rw[h]
theorem sQ(c d:Af):((⟨#[c]⟩:Ag)++⟨#[d]⟩=Ai "()"↔brF c d=Aa Ad)/\((⟨#[c]⟩:Ag)++⟨#[d]⟩=Ai "[]"↔brF c d=Aa Ab):=by
 have e1:Ai "()" = ⟨#[40,41]⟩:=by kernel_rfl
 have e2:Ai "[]" = ⟨#[91,93]⟩:=by kernel_rfl
 have e0:(⟨#[c]⟩:Ag)++⟨#[d]⟩=⟨#[c,d]⟩:=rfl;have key:∀ a b:Af,((⟨#[c,d]⟩:Ag)=⟨#[a,b]⟩)↔(c=a/\d=b):=λa b=>by simp
 rw[e0,e1,e2,key,key];unfold brF;constructor
 .constructor
  .intro h;rw[At h]
  .intro h;by_cases z:c=40/\d=41
   .exact z
   .rw[AA z]at h;split at h<;>cases h
 .constructor
  .rintro⟨rfl,rfl⟩;rfl
  .intro h;by_cases z:c=40/\d=41
   .rw[At z]at h;cases h
   .rw[AA z]at h;by_cases z2:c=91/\d=93
    .exact z2
    .rw[AA z2]at h;cases h
section
variable{Z:Gam}{p:Ah}
def O9(Z:Gam):Prop:=∀(p r:Ah)(x:Ag),P4 p->0<=r->r<100->x.length<=1000->Z.F 35 [.int p,.str x,.int r]=IG p r x
theorem mB(hr:TV Z)(hm:UI Z)(hx:UD Z)(p r:Ah)(x:Ag)(hp:P4 p)(r0:0<=r)(r1:r<100)(hl:x.length<=1000):Jf.run Z [.int p,.str x,.int r]=IG p r x:=by
 have sl:=sl8 hl (Aa 1) (Aa (-1));have sp:=sp8 hl;have e1:=hr p (wsF x) hp;have ex:=hx r r0 r1;generalize DE x (Aa 1) (Aa (-1))=J at *;cases eq:q8 ((wsF x).map (rsF p)) with
 |none=>
  rw[Kx (PQ eq)];generalize (wsF x).map D.str=WS at *;rcases Ub eq with h|⟨rs,h,hn⟩|h
  .rw[h]at e1;simp[Jf,Df.run,Bu,sl,sp,e1,ex,slE,-E3]
  .rw[h]at e1;have ln:biD .len [.lst rs]=.ok (.int rs.length):=rfl;have hn':¬ ((rs.length:Ah)=3):=by omega
   simp[Jf,Df.run,Bu,sl,sp,e1,ex,slE,hn',-E3]
  .rw[h]at e1;have an:biD .any [Cd Ad (0,0,0)]=.ok (.bl Ad):=rfl;have ln:biD .len [Cd Ad (0,0,0)]=.ok (.int 3):=rfl;have is:Bj .Is (Cd Ad (0,0,0)) .non=.ok (.bl Ad):=rfl;generalize Cd Ad (0,0,0)=Q at *;simp[Jf,Df.run,Bu,sl,sp,e1,ex,slE,an,ln,is,-E3]
 |some q=>
  obtain⟨hin,hfm,hq⟩:=Uc hp eq;have hne:=sC eq;rw[hq]at e1;have hf:=UO hfm;have an:=Ye hin hf;have ln:biD .len [Cd Ad q]=.ok (.int 3):=rfl;have is:Bj .Is (Cd Ad q) .non=.ok (.bl Ad):=rfl;have h0:∃ c,x.cps[0]?=Aa c:=⟨_,Cf (by omega)⟩
  have h1:∃ d,x.cps[x.length-1]?=Aa d:=⟨_,Cf (by show x.cps.size-1<x.cps.size;omega)⟩
  obtain⟨c,h0⟩:=h0;obtain⟨d,h1⟩:=h1;have i0:=at0 hl h0;have i1:=at1 hl h1;have eb:b8 x=brF c d:=by unfold b8;rw[h0,h1]
  obtain⟨b1,b2⟩:=sQ c d;have ad:Cz .Add (.str (⟨#[c]⟩:Ag)) (.str (⟨#[d]⟩:Ag))=.ok (.str ((⟨#[c]⟩:Ag)++⟨#[d]⟩)):=by
   rw[E3,At];rfl
  have mk:=λs=>hm p s Ad q (aF p q) hp hf
  have m1:Z.F 901 [.int p,Cd Ad q]=.ok (obD p Ad (aF p q)):=mk Ad;have m2:Z.F 902 [.int p,Cd Ad q]=.ok (obD p Ab (aF p q)):=mk Ab;generalize (⟨#[c]⟩:Ag)++⟨#[d]⟩=BB at *;generalize (wsF x).map D.str=WS at *;generalize Cd Ad q=Q at *;generalize (⟨#[c]⟩:Ag)=B0 at *;generalize (⟨#[d]⟩:Ag)=B1 at *;have ne:¬ Ai "[]" = Ai "()" := by decide+kernel
  cases ef:brF c d with
  |none=>
   rw[Kx (PR (eb.trans ef))];rw[ef]at b1 b2;have n1:¬ BB=Ai "()" := λz=>nomatch b1.mp z
   have n2:¬ BB=Ai "[]" := λz=>nomatch b2.mp z
   simp[Jf,Df.run,Bu,sl,sp,e1,ex,slE,an,ln,is,i0,i1,ad,n1,n2,-E3]
  |some s=>
   cases s with
   |false=>
    have n1:=b1.mpr ef;rw[LI (PN (eb.trans ef) eq)];generalize obD p Ad (aF p q)=o at *;simp[Jf,Df.run,Bu,sl,sp,e1,slE,an,ln,is,i0,i1,ad,n1,m1,Dj,-E3]
   |true=>
    have n2:=b2.mpr ef;rw[LI (PN (eb.trans ef) eq)];generalize obD p Ab (aF p q)=o at *;simp[Jf,Df.run,Bu,sl,sp,e1,slE,an,ln,is,i0,i1,ad,n2,ne,m2,Dj,-E3]
def nX(Z:Gam):Prop:=∀(p:Ah)(x:Ag),P4 p->x.length<=1000->Z.F 36 [.int p,.str x]=IG p 0 x
theorem mC(h:O9 Z)(p:Ah)(x:Ag)(hp:P4 p)(hl:x.length<=1000):Mg.run Z [.int p,.str x]=IG p 0 x:=by
 have e:=h p 0 x hp (by decide) (by decide) hl
 cases eo:C5 p x with
 |none=>
  rw[Kx eo]at e ⊢;simp[Mg,Df.run,Bu,e]
 |some sa=>
  obtain⟨s,a⟩:=sa;rw[LI eo]at e ⊢;generalize obD p s a=o at *;simp[Mg,Df.run,Bu,e]
def UJ(Z:Gam):Prop:=∀(p:Ah)(xs:Ac Ah),P4 p->(CH p xs=Ae->Z.F 44 [.lst (ds xs),.int p]=.ok .non)/\(∀ l t,CH p xs=Aa l->IM p l t->Z.F 44 [.lst (ds xs),.int p]=.ok (.tup (ds (fmI p t xs))))
noncomputable def dD(p:Ah)(x:Ag):D:=match C5 p x with
  |some (_,a)=>Cd Ab a
  |none=>.non
def TW(Z:Gam):Prop:=∀(p:Ah)(x:Ag),P4 p->x.length<=1000->Z.F 48 [.str x,.int p]=.ok (dD p x)
theorem cK(h:x.length<2):b8 x=Ae:=by
 unfold b8;have h':x.cps.size<2:=h;cases e0:x.cps[0]? with
 |none=>rfl
 |some c=>
  have z:0<x.cps.size:=(ER.mp e0).1;have e1:x.length-1=0:=by show x.cps.size-1=0;omega
  rw[e1,e0];dsimp only;unfold brF;rw[AA (by omega),AA (by omega)]
theorem Mu(a b:Af):((⟨#[a]⟩:Ag)==⟨#[b]⟩)=decide (a=b):=by
 rw[Eb];simp
theorem Yp(c d:Af):Bj .NotIn (.tup [.str ⟨#[c]⟩,.str ⟨#[d]⟩]) (.lst [.tup [.str (Ai "("),.str (Ai ")")],.tup [.str (Ai "["),.str (Ai "]")]])=.ok (.bl (brF c d).isNone):=by
 have e1:Ai "(" = ⟨#[40]⟩:=by kernel_rfl
 have e2:Ai ")" = ⟨#[41]⟩:=by kernel_rfl
 have e3:Ai "[" = ⟨#[91]⟩:=by kernel_rfl
 have e4:Ai "]" = ⟨#[93]⟩:=by kernel_rfl
 rw[e1,e2,e3,e4];show R.ok (D.bl (!(((⟨#[40]⟩:Ag)==⟨#[c]⟩&&((⟨#[41]⟩:Ag)==⟨#[d]⟩&&Ab))||(((⟨#[91]⟩:Ag)==⟨#[c]⟩&&((⟨#[93]⟩:Ag)==⟨#[d]⟩&&Ab))||false))))=_;rw[Mu,Mu,Mu,Mu];unfold brF;by_cases z1:c=40/\d=41
 .obtain⟨rfl,rfl⟩:=z1;rfl
 .rw[AA z1];by_cases z2:c=91/\d=93
  .obtain⟨rfl,rfl⟩:=z2;rfl
  .rw[AA z2];have n1:(decide (40=c)&&(decide (41=d)&&Ab))=Ad:=by
    rw[FO,<-VD,Al,AD,AD];exact λz=>z1 ⟨z.1.symm,z.2.symm⟩
   have n2:(decide (91=c)&&(decide (93=d)&&Ab))=Ad:=by
    rw[FO,<-VD,Al,AD,AD];exact λz=>z2 ⟨z.1.symm,z.2.symm⟩
   rw[n1,n2];rfl
theorem Nc(h:C5 p x=Ae):dD p x=.non:=by
 unfold dD;rw[h]
theorem Qh(h:C5 p x=Aa (s,a)):dD p x=Cd Ab a:=by
 unfold dD;rw[h]
theorem mD(hr:UF Z)(hf:UJ Z)(p:Ah)(x:Ag)(hp:P4 p)(hl:x.length<=1000):Ir.run Z [.str x,.int p]=.ok (dD p x):=by
 have lx:biD .len [.str x]=.ok (.int x.length):=by
  show (if B8 x.length=Ab then R.ok (D.int x.length) else .bad)=_
  rw[At (sz7 hl)]
 by_cases h2:x.length<2
 .rw[Nc (PR (cK h2))];have h2':(x.length:Ah)<2:=by omega
  simp[Ir,Df.run,Bu,lx,h2']
 .have h2':¬ (x.length:Ah)<2:=by omega
  have h0:∃ c,x.cps[0]?=Aa c:=⟨_,Cf (by show 0<x.length;omega)⟩
  have h1:∃ d,x.cps[x.length-1]?=Aa d:=⟨_,Cf (by show x.length-1<x.length;omega)⟩
  obtain⟨c,h0⟩:=h0;obtain⟨d,h1⟩:=h1;have i0:=at0 hl h0;have i1:=at1 hl h1;have eb:b8 x=brF c d:=by unfold b8;rw[h0,h1]
  have ni:=Yp c d;generalize (⟨#[c]⟩:Ag)=B0 at *;generalize (⟨#[d]⟩:Ag)=B1 at *;cases ef:brF c d with
  |none=>
   rw[Nc (PR (eb.trans ef))];rw[ef]at ni;have ni:Bj .NotIn (.tup [.str B0,.str B1]) (.lst [.tup [.str (Ai "("),.str (Ai ")")],.tup [.str (Ai "["),.str (Ai "]")]])=.ok (.bl Ab):=ni;simp[Ir,Df.run,Bu,lx,h2',i0,i1,ni,-LG]
  |some s=>
   rw[ef]at ni;have ni:Bj .NotIn (.tup [.str B0,.str B1]) (.lst [.tup [.str (Ai "("),.str (Ai ")")],.tup [.str (Ai "["),.str (Ai "]")]])=.ok (.bl Ad):=ni;have sl:=sl8 hl (Aa 1) (Aa (-1));have sp:=sp8 hl;have cp:∀ y:Sl,Bq (cG Z [sh (.str x),si p,Ae,y] 3 DM) (cF Z [sh (.str x),si p,Ae,y] 3 NK) ((wsF x).map D.str)=.ok ((wsF x).map λw=>oD (rsF p w)):=λy=>Mr _ λw _=>by
    have e:=hr p w hp;generalize oD (rsF p w)=o at *;exact⟨rfl,by simp[cF,NK,e]⟩
   have hin:=UB p (wsF x);generalize DE x (Aa 1) (Aa (-1))=J at *;have fin:∀ L:Ac D,((wsF x).map λw=>oD (rsF p w))=L->(∀ b,Bj .In .non (.lst L)=.ok (.bl b)->(b=Ab\/L.length≠3)->Ir.run Z [.str x,.int p]=.ok .non)/\(∀ v,Bj .In .non (.lst L)=.ok (.bl Ad)->L.length=3->Z.F 44 [.lst L,.int p]=.ok v->Ir.run Z [.str x,.int p]=.ok v):=by
    intro L eL;rw[eL]at cp;generalize (wsF x).map D.str=WS at *;refine⟨λb hb hc=>?_,λv hb h3 e44=>?_⟩
    .by_cases h3:(L.length:Ah)=3
     .have:b=Ab:=hc.resolve_right (λz=>z (by omega))
      subst this;simp[Ir,Df.run,Bu,lx,h2',i0,i1,ni,sl,sp,slE,cp,h3,hb,-LG,-HV]
     .simp[Ir,Df.run,Bu,lx,h2',i0,i1,ni,sl,sp,slE,cp,h3,-LG,-HV]
    .have h3:(L.length:Ah)=3:=by omega
     simp[Ir,Df.run,Bu,lx,h2',i0,i1,ni,sl,sp,slE,cp,h3,hb,e44,-LG,-HV]
   obtain⟨f1,f2⟩:=fin _ rfl;cases eq:q8 ((wsF x).map (rsF p)) with
   |none=>
    rw[Nc (PQ eq)];have h:=Ub eq;unfold rsD at h;by_cases hA:((wsF x).all λw=>(rsF p w).isSome)=Ab
    .rw[At hA]at h;rcases h with h|⟨rs,h,hn⟩|h
     .cases h
     .have hn':((wsF x).map λw=>oD (rsF p w)).length≠3:=by
       have e:((wsF x).map λw=>oD (rsF p w))=rs:=by injection h
       rw[e];exact hn
      exact f1 _ hin (.inr hn')
     .have e:((wsF x).map λw=>oD (rsF p w))=[.int 0,.int 0,.int 0]:=by injection h
      rw[hA]at hin;refine f2 _ hin (by rw[e];rfl) ?_
      rw[e];exact(hf p [0,0,0] hp).1 (Mb.mpr λy hy=>by
       have:y=0:=by simpa using hy
       rw[this];exact ES p)
    .have hA:((wsF x).all λw=>(rsF p w).isSome)=Ad:=by simpa using hA
     rw[hA]at hin;exact f1 _ hin (.inl rfl)
   |some q=>
    obtain⟨hin3,hfm,hq⟩:=Uc hp eq;rw[Qh (PN (eb.trans ef) eq)];unfold rsD at hq;by_cases hA:((wsF x).all λw=>(rsF p w).isSome)=Ab
    .rw[At hA]at hq;have e:((wsF x).map λw=>oD (rsF p w))=[.int q.1,.int q.2.1,.int q.2.2]:=by injection hq
     rw[hA]at hin;refine f2 _ hin (by rw[e];rfl) ?_
     rw[e];obtain⟨l,u,g1,g2,g3⟩:=UO hfm;have:=(hf p (tri q) hp).2 l u g1 g2;rw[g3]at this;exact this
    .rw[AA hA]at hq;cases hq
noncomputable def oT8(p:Ah)(x:Ag):D:=match C5 p x with
  |some (s,a)=>obD p s a
  |none=>.non
noncomputable def fb(p:Ah)(xs:Ac Ag):Ao Af:=xs.findIdx? λx=>(C5 p x).isNone
theorem QR{g:D->R Am}{f:D->R D}{p:Ah}:∀(xs:Ac Ag)(j:Ah),(∀ x∈xs,∀ i:Ah,0<=i->i<100->g (.tup [.int i,.str x])=.ok Ab/\f (.tup [.int i,.str x])=IG p i x)->0<=j->j+xs.length<=100->(fb p xs=Ae->Bq g f (CF j (xs.map D.str))=.ok (xs.map (oT8 p)))/\(∀ k,fb p xs=Aa k->Bq g f (CF j (xs.map D.str))=.exn (exR (j+k)))
 |[],_,_,_,_=>⟨λ_=>rfl,λk z=>(nomatch z)⟩
 |x::xs,j,h,j0,hj=>by
  rw[A2]at hj;obtain⟨h1,h2⟩:=h x (AE ..) j j0 (by omega)
  obtain⟨i1,i2⟩:=QR xs (j+1) (λy hy=>h y (Aw _ hy)) (by omega) (by omega)
  have st:Bq g f (CF j ((x::xs).map D.str))=(g (.tup [.int j,.str x])).bind λb=>if b=Ab then (f (.tup [.int j,.str x])).bind λy=>(Bq g f (CF (j+1) (xs.map D.str))).bind λys=>.ok (y::ys) else Bq g f (CF (j+1) (xs.map D.str)):=rfl
  rw[st,h1,R.bind_ok,At rfl,h2];unfold fb at *;rw[GF];cases e:C5 p x with
  |none=>
   rw[Kx e];refine⟨λz=>by simp at z,λk z=>?_⟩
   simp at z;subst z;show R.exn (exR j)=_
   congr 2
   simp
  |some sa=>
   obtain⟨s,a⟩:=sa;rw[LI e,R.bind_ok];have eo:oT8 p x=obD p s a:=by unfold oT8;rw[e]
   refine⟨λz=>?_,λk z=>?_⟩
   .have z':(xs.findIdx? λx=>(C5 p x).isNone)=Ae:=by simpa using z
    rw[i1 z',R.bind_ok,AZ,eo]
   .have:∃ k',(xs.findIdx? λx=>(C5 p x).isNone)=Aa k'/\k=k'+1:=by
     cases ek:(xs.findIdx? λx=>(C5 p x).isNone) with
     |none=>rw[ek]at z;simp at z
     |some k'=>rw[ek]at z;simp at z;exact⟨k',rfl,z.symm⟩
    obtain⟨k',e1,rfl⟩:=this;rw[i2 k' e1];show R.exn (exR (j+1+k'))=_
    congr 2
    push_cast
    omega
def TY(Z:Gam):Prop:=∀(p:Ah)(xs:Ac Ag),P4 p->(∀ x∈xs,x.length<=1000)->xs.length<=99->(fb p xs=Ae->Z.F 37 [.int p,.lst (xs.map D.str)]=.ok (.lst (xs.map (oT8 p))))/\(∀ k,fb p xs=Aa k->Z.F 37 [.int p,.lst (xs.map D.str)]=.exn (exR k))
theorem mF(hr:O9 Z)(p:Ah)(xs:Ac Ag)(hp:P4 p)(hx:∀ x∈xs,x.length<=1000)(hl:xs.length<=99):(fb p xs=Ae->Lc.run Z [.int p,.lst (xs.map D.str)]=.ok (.lst (xs.map (oT8 p))))/\(∀ k,fb p xs=Aa k->Lc.run Z [.int p,.lst (xs.map D.str)]=.exn (exR k)):=by
 have key:∀ X:D,(fb p xs=Ae->Bq (cTT [si p,sh X,Ae,Ae] [2,3]) (cFT Z [si p,sh X,Ae,Ae] [2,3] (.call 35 (.cons (.var 0) (.cons (.var 3) (.cons (.var 2) .nil))))) (CF 0 (xs.map D.str))=.ok (xs.map (oT8 p)))/\(∀ k,fb p xs=Aa k->Bq (cTT [si p,sh X,Ae,Ae] [2,3]) (cFT Z [si p,sh X,Ae,Ae] [2,3] (.call 35 (.cons (.var 0) (.cons (.var 3) (.cons (.var 2) .nil))))) (CF 0 (xs.map D.str))=.exn (exR (0+k))):=λX=>QR xs 0 (λx hx' i i0 i1=>by
  have e:=hr p i x hp i0 i1 (hx x hx');refine⟨rfl,?_⟩;cases eo:C5 p x with
  |none=>rw[Kx eo]at e ⊢;simp[cFT,EK,EB,e]
  |some sa=>
   obtain⟨s,a⟩:=sa;rw[LI eo]at e ⊢;generalize obD p s a=o at *;simp[cFT,EK,EB,e]) (by decide) (by omega)
 refine⟨λz=>?_,λk z=>?_⟩
 .have e:=λX=>(key X).1 z
  generalize xs.map (oT8 p)=M at *;generalize xs.map D.str=L at *;simp[Lc,Df.run,Bu,Rx,e]
 .have e:=λX=>(key X).2 k z
  rw[IT]at e;generalize xs.map D.str=L at *;simp[Lc,Df.run,Bu,Rx,e]
end
section
variable{Z:Gam}{p:Ah}
theorem fP(hu:Z.up 106=[106,0])(p:Ah)(x:Ag)(h:Z.F 36 [.int p,.str x]=.exn (exR 0)):K8.run Z [.int p,.lst [.str x],.bl Ab]=.ok (.int 0):=by
 have g:CI [D.str x] 0=.ok (.str x):=rfl;have f:KM (.exc 106 [("row",.int 0)]) (Ai "row")=.ok (.int 0):=rfl;simp[K8,Df.run,Bu,g,h,exR,hu,f,kiD,D5]
theorem fO(hu:Z.up 106=[106,0])(p k:Ah)(L:D)(h:Z.F 37 [.int p,L]=.exn (exR k)):K8.run Z [.int p,L,.bl Ad]=.ok (.int k):=by
 have f:KM (.exc 106 [("row",.int k)]) (Ai "row")=.ok (.int k):=rfl;simp[K8,Df.run,Bu,h,exR,hu,f,kiD,D5]
theorem oO{i:Ah}(hl:x.length<=1000)(h0:0<=i)(h1:i<x.length):∃ c,FJ (.str x) (.int i)=.ok (.str ⟨#[c]⟩):=by
 obtain⟨k,rfl⟩:=D6 h0;have hk0:k<x.length:=by omega
 have hk:k<x.cps.size:=hk0;refine⟨x.cps[k],?_⟩;show (if B8 x.length=Ab then CI (FL x) (k:Ah) else .bad)=_
 rw[At (sz7 hl)];exact getL_at (by unfold FL;rw[Ch,F1,Cf hk];rfl)
theorem Uw(hl:x.length<=1000):biD .len [.str x]=.ok (.int x.length):=by
 show (if B8 x.length=Ab then R.ok (D.int x.length) else .bad)=_
 rw[At (sz7 hl)]
theorem Gc(x y:Ag):(x++y).length=x.length+y.length:=VC
theorem Hs{y:Ag}(h:x.length+y.length<=1000):Cz .Add (.str x) (.str y)=.ok (.str (x++y)):=by
 rw[E3,At (sz7 h)]
def UE(Z:Gam):Prop:=∀ n:Ah,∃ c,Z.F 46 [.int n]=.ok (.str ⟨#[c]⟩)
theorem rQ(Z:Gam)(n:Ah):∃ c,NP.run Z [.int n]=.ok (.str ⟨#[c]⟩):=by
 have ha:(Ai " !\"#$&'()*+,-./0123456789:;<=>?@ABCDEFGHIJKLMNOPQRSTUVWXYZ[\\]^_`").length=64:=by kernel_rfl
 have hb:(Ai "abcdefghijklmnopqrstuvwxyz{|}~").length=30:=by kernel_rfl
 generalize eA:Ai " !\"#$&'()*+,-./0123456789:;<=>?@ABCDEFGHIJKLMNOPQRSTUVWXYZ[\\]^_`" = A at *
 generalize eB:Ai "abcdefghijklmnopqrstuvwxyz{|}~" = B at *;have ad:=Hs (x:=A) (y:=B) (by omega)
 have lc:(A++B).length=94:=by rw[Gc,ha,hb]
 have ln:=Uw (x:=A++B) (by omega)
 rw[lc]at ln;have r0:=B4 n (b:=94) (by decide)
 have r1:=BM n (b:=94) (by decide)
 obtain⟨c,hc⟩:=oO (x:=A++B) (i:=n%94) (by omega) r0 (by rw[lc];exact r1)
 refine⟨c,?_⟩;generalize (⟨#[c]⟩:Ag)=C at *;generalize A++B=AB at *;simp[NP,Df.run,Bu,eA,eB,ad,ln,hc,-E3]
theorem bF{L:Ac D}(n:Ah)(h:L≠[]):∃ d∈L,CI L (n%(L.length:Ah))=.ok d:=by
 have hl:0<L.length:=Gm.mpr h;have r0:=B4 n (b:=(L.length:Ah)) (by omega)
 have r1:=BM n (b:=(L.length:Ah)) (by omega)
 obtain⟨k,hk⟩:=D6 r0;rw[hk]at r1 ⊢;have hk':k<L.length:=by omega
 exact⟨L[k],Dk _,getL_at (A7 hk')⟩
def UH(Z:Gam):Prop:=∀(p n:Ah),P4 p->∃ x:Ag,x.length<=100/\Z.F 50 [.int p,.int n]=.ok (.str x)
theorem rT(Z:Gam)(p n:Ah)(hp:P4 p):∃ x:Ag,x.length<=100/\Md.run Z [.int p,.int n]=.ok (.str x):=by
 have lo:=hp.lo;have hi:=hp.hi;have s1:∃ P1:Ag,biD .str [.int p]=.ok (.str P1)/\P1.length<=10:=by
  refine⟨Ai (toString p),?_,?_⟩
  .rcases hp with rfl|rfl|rfl|rfl<;>rfl
  .rcases hp with rfl|rfl|rfl|rfl<;>decide+kernel
 obtain⟨P1,s1,l1⟩:=s1;have s2:biD .str [.int (p-1)]=.ok (.str (dg (p-1).toNat)):=Ly (by omega) (by omega)
 have l2:(dg (p-1).toNat).length<=10:=by
  rcases MS (p-1).toNat with ⟨x,e⟩|⟨x,y,e⟩<;>rw[e]<;>exact Bw rfl
 generalize dg (p-1).toNat=P2 at *;have k1:(Ai "(1 0 ").length<=10:=by decide+kernel
 have k2:(Ai ")").length<=10:=by decide+kernel
 have k3:(Ai "(").length<=10:=by decide+kernel
 have k4:(Ai " 1 0)").length<=10:=by decide+kernel
 have a1:=Hs (x:=Ai "(1 0 ") (y:=P1) (by omega)
 have a2:=Hs (x:=Ai "(1 0 " ++ P1) (y:=Ai ")") (by rw[Gc];omega)
 have a3:=Hs (x:=Ai "(") (y:=P1) (by omega)
 have a4:=Hs (x:=Ai "(" ++ P1) (y:=Ai " 1 0)") (by rw[Gc];omega)
 have a5:=Hs (x:=Ai "(1 0 ") (y:=P2) (by omega)
 have a6:=Hs (x:=Ai "(1 0 " ++ P2) (y:=Ai ")") (by rw[Gc];omega)
 have t1:(Ai "(1 0 " ++ P1++Ai ")").length<=100:=by rw[Gc,Gc];omega
 have t2:(Ai "(" ++ P1++Ai " 1 0)").length<=100:=by rw[Gc,Gc];omega
 have t3:(Ai "(1 0 " ++ P2++Ai ")").length<=100:=by rw[Gc,Gc];omega
 generalize Ai "(1 0 " ++ P1++Ai ")" = T1 at *;generalize Ai "(" ++ P1++Ai " 1 0)" = T2 at *;generalize Ai "(1 0 " ++ P2++Ai ")" = T3 at *;generalize Ai "(1 0 " ++ P1=U_1 at *
 generalize Ai "(" ++ P1=U_2 at *
 generalize Ai "(1 0 " ++ P2=U_3 at *
 have run:∀ d,CI [.str (Ai ""),.str (Ai "("),.str (Ai "()"),.str (Ai "(0 0 0)"),.str (Ai "[0 0 0]"),.str (Ai "(1 0 0]"),.str (Ai "[1 0 0)"),.str (Ai "1 0 0"),.str (Ai "(1 0)"),.str (Ai "(1 0 0 0)"),.str (Ai "(1  0 0)"),.str (Ai "( 1 0 0)"),.str (Ai "(1 0 0 )"),.str (Ai "(01 0 0)"),.str (Ai "(+1 0 0)"),.str (Ai "(-1 0 0)"),.str (Ai "(1,0,0)"),.str (Ai "(1 0 0) "),.str (Ai " (1 0 0)"),.str (Ai "((1 0 0))"),.str (Ai "(1 0 00)"),.str T1,.str T2,.str (Ai "(0 0 1)"),.str (Ai "{1 0 0}"),.str T3,.str (Ai "(1 0 a)")] (n%27)=.ok d->Md.run Z [.int p,.int n]=.ok d:=λd hd=>by
  simp[Md,Df.run,Bu,s1,s2,a1,a2,a3,a4,a5,a6,B8,hd,-E3]
 obtain⟨d,hm,hg⟩:=bF (L:=[.str (Ai ""),.str (Ai "("),.str (Ai "()"),.str (Ai "(0 0 0)"),.str (Ai "[0 0 0]"),.str (Ai "(1 0 0]"),.str (Ai "[1 0 0)"),.str (Ai "1 0 0"),.str (Ai "(1 0)"),.str (Ai "(1 0 0 0)"),.str (Ai "(1  0 0)"),.str (Ai "( 1 0 0)"),.str (Ai "(1 0 0 )"),.str (Ai "(01 0 0)"),.str (Ai "(+1 0 0)"),.str (Ai "(-1 0 0)"),.str (Ai "(1,0,0)"),.str (Ai "(1 0 0) "),.str (Ai " (1 0 0)"),.str (Ai "((1 0 0))"),.str (Ai "(1 0 00)"),.str T1,.str T2,.str (Ai "(0 0 1)"),.str (Ai "{1 0 0}"),.str T3,.str (Ai "(1 0 a)")]) n (by simp)
 have key:∃ x:Ag,d=.str x/\x.length<=100:=by
  simp only[AH,Ca,Et]at hm;rcases hm with h|h|h|h|h|h|h|h|h|h|h|h|h|h|h|h|h|h|h|h|h|h|h|h|h|h|h
  all_goals first
   |exact⟨_,h,t1⟩
   |exact⟨_,h,t2⟩
   |exact⟨_,h,t3⟩
   |exact⟨_,h,by decide+kernel⟩
 obtain⟨x,rfl,hx⟩:=key;exact⟨x,hx,run _ hg⟩
theorem SU(xs:Ac Ag)(l u:Ao Ah):∃ ys:Ac Ag,(∀ y∈ys,y∈xs)/\ys.length<=xs.length/\EE (xs.map D.str) l u=ys.map D.str:=by
 unfold EE;rw[<-List.map_drop,<-List.map_take];exact⟨_,λy hy=>List.mem_of_mem_drop (List.mem_of_mem_take hy),by rw[FQ,G8];omega,rfl⟩
def UL(Z:Gam):Prop:=∀(p m:Ah)(xs:Ac Ag)(B:Af),P4 p->0<=m->100<=B->B<=450->(∀ x∈xs,x.length<=B)->xs.length<=45->∃ ys:Ac Ag,(∀ y∈ys,y.length<=2*B+1)/\ys.length<=2*xs.length+1/\Z.F 51 [.int p,.lst (xs.map D.str),.int m]=.ok (.lst (ys.map D.str))
theorem rW(ho:UH Z)(hs:UE Z)(p m:Ah)(xs:Ac Ag)(B:Af)(hp:P4 p)(m0:0<=m)(b0:100<=B)(b1:B<=450)(hx:∀ x∈xs,x.length<=B)(hl:xs.length<=45):∃ ys:Ac Ag,(∀ y∈ys,y.length<=2*B+1)/\ys.length<=2*xs.length+1/\JE.run Z [.int p,.lst (xs.map D.str),.int m]=.ok (.lst (ys.map D.str)):=by
 have ln:(xs.map D.str).length=xs.length:=Bi ..;have r0:=B4 (m/4) (b:=(xs.length:Ah)+1) (by omega)
 have r1:=BM (m/4) (b:=(xs.length:Ah)+1) (by omega)
 have q1:(0:Ah)<(xs.length:Ah)+1:=by omega
 have mid:∀(l1 u1 l2 u2:Ao Ah)(z:Ag),z.length<=2*B+1->∃ ys:Ac Ag,(∀ y∈ys,y.length<=2*B+1)/\ys.length<=2*xs.length+1/\EE (xs.map D.str) l1 u1++[D.str z]++EE (xs.map D.str) l2 u2=ys.map D.str/\(EE (xs.map D.str) l1 u1).length<=45/\(EE (xs.map D.str) l2 u2).length<=45:=λl1 u1 l2 u2 z hz=>by
  obtain⟨ys,y1,y2,y3⟩:=SU xs l1 u1;obtain⟨zs,z1,z2,z3⟩:=SU xs l2 u2;refine⟨ys++[z]++zs,λy hy=>?_,by simp only[BN,C8];omega,by rw[y3,z3];simp,by rw[y3,Bi];omega,by rw[z3,Bi];omega⟩
  rcases Dv.mp hy with hy|hy
  .rcases Dv.mp hy with hy|hy
   .have:=hx y (y1 y hy);omega
   .rw[A9.mp hy];exact hz
  .have:=hx y (z1 y hy);omega
 have sz:∀{n:Af},n<=1000->B8 n=Ab:=λh=>sz7 h
 generalize ht:m/4%((xs.length:Ah)+1)=t at *;by_cases c1:m%4=0\/t=xs.length
 .obtain⟨x,hxl,e50⟩:=ho p (m/40) hp;obtain⟨ys,y1,y2,y3,y4,y5⟩:=mid Ae (Aa t) (Aa t) Ae x (by omega)
  refine⟨ys,y1,y2,?_⟩;have a1:Cz .Add (.lst (EE (xs.map D.str) Ae (Aa t))) (.lst [.str x])=.ok (.lst (EE (xs.map D.str) Ae (Aa t)++[.str x])):=by
   rw[Gf,At (sz (by simp;omega))]
  have a2:Cz .Add (.lst (EE (xs.map D.str) Ae (Aa t)++[.str x])) (.lst (EE (xs.map D.str) (Aa t) Ae))=.ok (.lst (ys.map D.str)):=by
   rw[Gf,At (sz (by simp;omega)),y3]
  generalize ys.map D.str=Y_ at *;generalize xs.map D.str=L at *;have c1':m%4=0\/(¬ m%4=0/\t=xs.length):=by omega
  rcases c1' with c1|⟨c0,c1⟩
  .simp[JE,Df.run,Bu,ln,ht,q1,c1,slE,e50,a1,a2,Dj,-Gf]
  .simp[JE,Df.run,Bu,ln,ht,q1,c0,c1,slE,e50,Dj,-Gf];rw[c1]at a1 a2;simp[a1,a2,-Gf]
 .have c0:¬ m%4=0:=λz=>c1 (.inl z)
  have c2:¬ t=xs.length:=λz=>c1 (.inr z)
  obtain⟨k,hk⟩:=D6 r0;have hkl:k<xs.length:=by omega
  have hx0:=hx xs[k] (Dk _);have ix:CI (xs.map D.str) t=.ok (.str xs[k]):=by
   rw[hk];exact getL_at (by rw[Ch,A7 hkl];rfl)
  generalize xs[k]=x0 at *;have lx:=Uw (x:=x0) (by omega)
  have q2:(0:Ah)<(x0.length:Ah)+1:=by omega
  obtain⟨cc,e46⟩:=hs (m/400);have lC:(⟨#[cc]⟩:Ag).length=1:=rfl;generalize (⟨#[cc]⟩:Ag)=C at *;generalize hu:m/40%((x0.length:Ah)+1)=u at *;have s1:=sl8 (x:=x0) (by omega) Ae (Aa u)
  have s2:=sl8 (x:=x0) (by omega) (Aa (u+1)) Ae
  have s3:=sl8 (x:=x0) (by omega) (Aa u) Ae
  have n1:=Lq x0 Ae (Aa u);have n2:=Lq x0 (Aa (u+1)) Ae;have n3:=Lq x0 (Aa u) Ae;generalize DE x0 Ae (Aa u)=K1 at *;generalize DE x0 (Aa (u+1)) Ae=K2 at *;generalize DE x0 (Aa u) Ae=K3 at *;have d1:=Hs (x:=K1) (y:=K2) (by omega)
  have d2:=Hs (x:=K1) (y:=C) (by omega)
  have l12:=Gc K1 K2;have l1c:=Gc K1 C;have d3:=Hs (x:=K1++C) (y:=K3) (by omega)
  have d4:=Hs (x:=K1++C) (y:=K2) (by omega)
  have l13:=Gc (K1++C) K3;have l14:=Gc (K1++C) K2;have fin:∀ z:Ag,z.length<=2*B+1->∃ ys:Ac Ag,(∀ y∈ys,y.length<=2*B+1)/\ys.length<=2*xs.length+1/\Cz .Add (.lst (EE (xs.map D.str) Ae (Aa t))) (.lst [.str z])=.ok (.lst (EE (xs.map D.str) Ae (Aa t)++[.str z]))/\Cz .Add (.lst (EE (xs.map D.str) Ae (Aa t)++[.str z])) (.lst (EE (xs.map D.str) (Aa (t+1)) Ae))=.ok (.lst (ys.map D.str)):=λz hz=>by
   obtain⟨ys,y1,y2,y3,y4,y5⟩:=mid Ae (Aa t) (Aa (t+1)) Ae z hz;refine⟨ys,y1,y2,?_,?_⟩
   .rw[Gf,At (sz (by simp;omega))]
   .rw[Gf,At (sz (by simp;omega)),y3]
  have hw:m%4=1\/m%4=2\/m%4=3:=by omega
  rcases hw with w|w|w
  .obtain⟨ys,y1,y2,a1,a2⟩:=fin (K1++K2) (by omega)
   refine⟨ys,y1,y2,?_⟩;generalize K1++K2=Z_ at *;generalize ys.map D.str=Y_ at *;generalize xs.map D.str=L at *;simp[JE,Df.run,Bu,ln,ht,q1,w,c2,slE,ix,lx,hu,q2,s1,s2,d1,a1,a2,Dj,-Gf,-E3]
  .obtain⟨ys,y1,y2,a1,a2⟩:=fin (K1++C++K3) (by omega)
   refine⟨ys,y1,y2,?_⟩;generalize K1++C++K3=Z_ at *;generalize K1++C=Z_1 at *;generalize ys.map D.str=Y_ at *;generalize xs.map D.str=L at *;simp[JE,Df.run,Bu,ln,ht,q1,w,c2,slE,ix,lx,hu,q2,s1,s3,e46,d2,d3,a1,a2,Dj,-Gf,-E3]
  .obtain⟨ys,y1,y2,a1,a2⟩:=fin (K1++C++K2) (by omega)
   refine⟨ys,y1,y2,?_⟩;generalize K1++C++K2=Z_ at *;generalize K1++C=Z_1 at *;generalize ys.map D.str=Y_ at *;generalize xs.map D.str=L at *;simp[JE,Df.run,Bu,ln,ht,q1,w,c2,slE,ix,lx,hu,q2,s1,s2,e46,d2,d4,a1,a2,Dj,-Gf,-E3]
end
theorem Uv(p:Ah)(x:Ag):(C5 p x=Ae/\dD p x=.non)\/∃ s a,C5 p x=Aa (s,a)/\dD p x=Cd Ab a:=by
 cases e:C5 p x with
 |none=>exact .inl ⟨rfl,Nc e⟩
 |some sa=>exact .inr ⟨sa.1,sa.2,rfl,Qh e⟩
theorem Ur(p:Ah)(x:Ag):flD 5 (dD p x)=Ab/\flD 4 (dD p x)=Ab:=by
 rcases Uv p x with ⟨_,e⟩|⟨s,a,_,e⟩<;>rw[e]
 .exact⟨rfl,rfl⟩
 .exact⟨rfl,rfl⟩
theorem Ut(p:Ah)(x:Ag):eqD (dD p x) (dD p x)=Ab/\eqD (dD p x) .non=(C5 p x).isNone:=by
 rcases Uv p x with ⟨e0,e⟩|⟨s,a,e0,e⟩<;>rw[e,e0]
 .exact⟨rfl,rfl⟩
 .refine⟨(mW a a).trans (DW rfl),rfl⟩
theorem S4(p:Ah):∀ xs:Ac Ag,eqDs (xs.map (dD p)) (xs.map (dD p))=Ab
 |[]=>rfl
 |x::xs=>by
  show (eqD (dD p x) (dD p x)&&eqDs (xs.map (dD p)) (xs.map (dD p)))=Ab;rw[(Ut p x).1,S4 p xs];rfl
theorem Tz(p:Ah)(xs:Ac Ag):(xs.map (dD p)).all (flD 5)=Ab/\flD 5 (.lst (xs.map (dD p)))=Ab:=by
 constructor
 .rw[DX];exact Bl.mpr λx _=>(Ur p x).1
 .show (xs.map (dD p)).all (flD 4)=Ab;rw[DX];exact Bl.mpr λx _=>(Ur p x).2
theorem nR(p:Ah)(xs:Ac Ag):Bj .In .non (.lst (xs.map (dD p)))=.ok (.bl (fb p xs).isSome)/\∀ k,fb p xs=Aa k->biD .index [.lst (xs.map (dD p)),.non]=.ok (.int (k:Ah)):=by
 have fl:=(Tz p xs).1;have ef:((λy=>eqD y .non) ∘ dD p)=λx=>(C5 p x).isNone:=funext λx=>(Ut p x).2
 constructor
 .show (if (Ab&&(xs.map (dD p)).all (flD 5))=Ab then R.ok (D.bl ((xs.map (dD p)).any λy=>eqD y .non)) else .bad)=_
  rw[fl,At (show (Ab&&Ab)=Ab from rfl),F4,ef]
  congr 2
  unfold fb;rw[List.findIdx?_isSome]
 .intro k h;show (if (Ab&&(xs.map (dD p)).all (flD 5))=Ab then (match (xs.map (dD p)).findIdx? (λy=>eqD y .non) with|some j=>R.ok (D.int (j:Af))|none=>.bad) else .bad)=_
  rw[fl,At (show (Ab&&Ab)=Ab from rfl),VU,ef]
  unfold fb at h;rw[h]
theorem SN:∀ xs:Ac Ag,eqDs (xs.map D.str) (xs.map D.str)=Ab
 |[]=>rfl
 |x::xs=>by
  show ((x==x)&&eqDs (xs.map D.str) (xs.map D.str))=Ab;rw[SN xs];simp
theorem iO(xs:Ac Ag):flD 5 (.lst (xs.map D.str))=Ab:=by
 show (xs.map D.str).all (flD 4)=Ab;rw[DX];exact Bl.mpr λ_ _=>rfl
noncomputable def KI:Ag:=Ai "(0 0 0)"
theorem tQ(hp:P4 p):C5 p KI=Ae:=by
 refine PQ ?_;have e:(wsF KI).map (rsF p)=[Aa 0,Aa 0,Aa 0]:=by
  rcases hp with rfl|rfl|rfl|rfl<;>decide+kernel
 rw[e];rfl
noncomputable def bB:Af->Af
 |0=>100
 |n+1=>2*bB n+1
noncomputable def cC:Af->Af
 |0=>8
 |n+1=>2*cC n+1
structure H08 (Z:Gam):Prop where
 mi:ON Z
 pr:SJ Z
 tr:nW Z
 ch:UL Z
 fr:Z.fr 51=Ab
 du:TW Z
 al:TY Z
 ma:∀(p:Ah)(x:Ag),P4 p->x.length<=1000->C5 p x=Ae->Z.F 49 [.int p,.lst [.str x],.bl Ab]=.ok (.int 0)
 mb:∀(p:Ah)(xs:Ac Ag)(k:Af),P4 p->(∀ x∈xs,x.length<=1000)->xs.length<=99->fb p xs=Aa k->Z.F 49 [.int p,.lst (xs.map D.str),.bl Ad]=.ok (.int (k:Ah))
 wh:iG Z
 to:SH Z
section
variable{Z:Gam}{ns:Ac Ah}{p:Ah}
theorem mU(h:H08 Z)(hp:P4 p)(j:Af)(xs:Ac Ag)(hl:xs.length<=20)(s3 s4 s5:Sl):∃ x:Ag,x.length<=100/\∃ s5',Ds Z 3 L9 (.int (0+(j:Ah))) [sh (scr ns),si p,Aa (.lst (xs.map D.str),Ab),s3,s4,s5,Ae,Ae,Ae,Ae,Ae,Ae,Ae,Ae]=.next [sh (scr ns),si p,Aa (.lst ((xs++[x]).map D.str),Ab),si j,si (HS ns j),s5',Ae,Ae,Ae,Ae,Ae,Ae,Ae,Ae]:=by
 have em:=h.mi ns j;have m0:=Tr ns j;generalize HS ns j=m at *;obtain⟨q,nq,e40⟩:=h.tr p (m/2) hp;have hin:=nq.1;obtain⟨s0,s1,s2⟩:=iH hp hin;have jo:=rM hp hin;have t:=OX hp hin;have es:sI (decide (m%2=1))=m%2:=by
  unfold sI b2i;by_cases z:m%2=1
  .simp[z]
  .have:m%2=0:=by omega
   simp[this]
 obtain⟨a1,a2⟩:=Yg hp hin (decide (m%2=1));have i0:CI [D.str (Ai "("),D.str (Ai "[")] (sI (decide (m%2=1)))=.ok (.str (br0 (decide (m%2=1)))):=nN _
 have i1:CI [D.str (Ai ")"),D.str (Ai "]")] (sI (decide (m%2=1)))=.ok (.str (br1 (decide (m%2=1)))):=nM _
 rw[es]at i0 i1;have lt:(tq (decide (m%2=1)) q).length<=20:=t.tl _;refine⟨tq (decide (m%2=1)) q,by omega,sh (.str (jq q)),?_⟩
 have sz:B8 ((xs.map D.str).length+1)=Ab:=sz7 (by rw[Bi];omega)
 rw[V1,AZ,DZ];have cp:∀(L:D)(y:Sl),Bq (cG Z [sh (scr ns),si p,Aa (L,Ab),si j,si m,y,Ae,Ae,Ae,Ae,Ae,Ae,Ae,Ae] 11 DM) (cF Z [sh (scr ns),si p,Aa (L,Ab),si j,si m,y,Ae,Ae,Ae,Ae,Ae,Ae,Ae,Ae] 11 Nv) [.int q.1,.int q.2.1,.int q.2.2]=.ok [.str (dg q.1.toNat),.str (dg q.2.1.toNat),.str (dg q.2.2.toNat)]:=λL y=>by
  simp[Bq,cG,cF,DM,Nv,s0,s1,s2]
 have sq:=jT Ab q;generalize tq (decide (m%2=1)) q=X at *;generalize jq q=J at *;generalize br0 (decide (m%2=1))++J=BJ at *;generalize br0 (decide (m%2=1))=B0 at *;generalize br1 (decide (m%2=1))=B1 at *;generalize Cd Ab q=Q at *;generalize dg q.1.toNat=d1 at *;generalize dg q.2.1.toNat=d2 at *;generalize dg q.2.2.toNat=d3 at *;generalize xs.map D.str=L at *;generalize scr ns=S at *;simp[Ds,L9,em,e40,sq,cp,jo,i0,i1,a1,a2,D4,sz,-E3]
theorem mT(h:H08 Z)(hp:P4 p)(j n:Af)(hn:n<=2)(xs:Ac Ag)(hx:∀ x∈xs,x.length<=bB n)(hl:xs.length<=cC n)(s3 s4 s5:Sl):∃ ys:Ac Ag,(∀ y∈ys,y.length<=bB (n+1))/\ys.length<=cC (n+1)/\Ds Z 3 L8 (.int (0+(j:Ah))) [sh (scr ns),si p,Aa (.lst (xs.map D.str),Ab),s3,s4,s5,Ae,Ae,Ae,Ae,Ae,Ae,Ae,Ae]=.next [sh (scr ns),si p,Aa (.lst (ys.map D.str),Ab),si j,s4,s5,Ae,Ae,Ae,Ae,Ae,Ae,Ae,Ae]:=by
  have em:=h.mi ns (62+j);have m0:=Tr ns (62+j);generalize HS ns (62+j)=m at *;have bb:100<=bB n/\bB n<=450/\cC n<=45:=by
    match n,hn with
    |0,_=>decide
    |1,_=>decide
    |2,_=>decide
    |k+3,h=>omega
  obtain⟨ys,y1,y2,e⟩:=h.ch p m xs (bB n) hp m0 bb.1 bb.2.1 hx (by omega)
  refine⟨ys,y1,by show ys.length<=2*cC n+1;omega,?_⟩
  have fr:=h.fr;have nl:(ys.map D.str).all (nlD 5)=Ab:=by
    rw[DX];exact Bl.mpr λ_ _=>rfl
  have cl:FK Ab (.lst (ys.map D.str))=Ab:=by
    show (Ab&&(ys.map D.str).all (nlD 5))=Ab;rw[nl];rfl
  generalize ys.map D.str=Y_ at *;generalize xs.map D.str=L at *;generalize scr ns=S at *;simp[Ds,L8,em,e,Dj,fr,cl]
theorem mV(h:H08 Z):Me.run Z [scr ns]=.ok (.bl Ab):=by
  obtain⟨p,hp,ep⟩:∃ p,P4 p/\Z.F 4 [scr ns,.int 60]=.ok (.int p):=⟨_,bJ ns 60,h.pr ns 60⟩;have em:=h.mi ns 61;generalize HS ns 61=m at *;have ln:biD .len [scr ns]=.ok (.int ns.length):=by show R.ok (D.int ((ns.map D.int).length:Af))=_;rw[Bi]
  have h8:0<=(if (ns.length:Ah)<8 then (ns.length:Ah) else 8)/\(if (ns.length:Ah)<8 then (ns.length:Ah) else 8)<=8:=by split<;>omega
  generalize hq:(if (ns.length:Ah)<8 then (ns.length:Ah) else 8)=q at *
  have rg:D8 0 q=.ok (EO 0 q.toNat):=Ob h8.1 (by omega)
  obtain⟨U1,e1,xs,hl,hx,s3,s4,s5,rfl⟩:=NL (body:=Ds Z 3 L9) (λn U=>∃ xs:Ac Ag,xs.length=n/\(∀ x∈xs,x.length<=100)/\∃ s3 s4 s5:Sl,U=[sh (scr ns),si p,Aa (.lst (xs.map D.str),Ab),s3,s4,s5,Ae,Ae,Ae,Ae,Ae,Ae,Ae,Ae]) (EO 0 q.toNat) 0 [sh (scr ns),si p,Aa (.lst [],Ab),Ae,Ae,Ae,Ae,Ae,Ae,Ae,Ae,Ae,Ae,Ae] ⟨[],rfl,λ_ z=>absurd z (by simp),Ae,Ae,Ae,rfl⟩ (by
    rintro i x hx U ⟨xs,hl,hv,s3,s4,s5,rfl⟩;obtain⟨hi,rfl⟩:=Ot hx;obtain⟨x,hx1,s5',e⟩:=mU (ns:=ns) h hp i xs (by omega) s3 s4 s5
    refine⟨_,e,xs++[x],by rw[BN,C8];omega,λu hu=>?_,_,_,_,rfl⟩
    rcases Dv.mp hu with z|z
    · exact hv u z
    · rw[A9.mp z];exact hx1)
  have hl8:xs.length<=8:=by rw[hl,Lb];omega
  have r0:=B4 m (b:=4) (by decide)
  have r1:=BM m (b:=4) (by decide)
  have rg2:D8 0 (m%4)=.ok (EO 0 (m%4).toNat):=Ob r0 (by omega)
  obtain⟨U2,e2,ys,hy,hyl,u3,rfl⟩:=NL (body:=Ds Z 3 L8) (λn U=>∃ ys:Ac Ag,(∀ y∈ys,y.length<=bB n)/\ys.length<=cC n/\∃ u3:Sl,U=[sh (scr ns),si p,Aa (.lst (ys.map D.str),Ab),u3,s4,s5,Ae,Ae,Ae,Ae,Ae,Ae,Ae,Ae]) (EO 0 (m%4).toNat) 0 [sh (scr ns),si p,Aa (.lst (xs.map D.str),Ab),s3,s4,s5,Ae,Ae,Ae,Ae,Ae,Ae,Ae,Ae] ⟨xs,hx,hl8,s3,rfl⟩ (by
    rintro i x hx U ⟨ys,y1,y2,u3,rfl⟩;obtain⟨hi,rfl⟩:=Ot hx;rw[Hb]at y1 y2;obtain⟨zs,z1,z2,e⟩:=mT (ns:=ns) h hp i i (by omega) ys y1 y2 u3 s4 s5
    exact⟨_,e,zs,by rw[Hb];exact z1,by rw[Hb];exact z2,_,rfl⟩)
  rw[Hb,Lb]at hy hyl;have bb:bB (m%4).toNat<=1000/\cC (m%4).toNat<=90:=by
    have:(m%4).toNat<=3:=by omega
    generalize (m%4).toNat=k at *
    match k,this with
    |0,_=>decide
    |1,_=>decide
    |2,_=>decide
    |3,_=>decide
    |k+4,h=>omega
  have hy:∀ y∈ys,y.length<=1000:=λy hy'=>Bt (hy y hy') bb.1
  have hyl:ys.length<=90:=Bt hyl bb.2
  clear hx hl
  have cp:∀ a b:Sl,Bq (cG Z [sh (scr ns),si p,sh (.lst (ys.map D.str)),u3,s4,s5,a,b,Ae,Ae,Ae,Ae,Ae,Ae] 12 DM) (cF Z [sh (scr ns),si p,sh (.lst (ys.map D.str)),u3,s4,s5,a,b,Ae,Ae,Ae,Ae,Ae,Ae] 12 Nu) (ys.map D.str)=.ok (ys.map (dD p)):=λa b=>Mr ys λy hy'=>by
    have e:=h.du p y hp (hy y hy');generalize dD p y=d at *;generalize D.lst (ys.map D.str)=L at *;generalize scr ns=S at *;exact⟨rfl,by simp[cF,Nu,e]⟩
  obtain⟨hin,hix⟩:=nR p ys;have fl:=iO ys;have eq:eqD (.lst (ys.map D.str)) (.lst (ys.map D.str))=Ab:=SN ys;have lL:(ys.map D.str).length=ys.length:=Bi ..;cases eb:fb p ys with
  |some k=>
    have e49:=h.mb p ys k hp hy (by omega) eb
    have hk:k<ys.length/\∀ hk:k<ys.length,C5 p ys[k]=Ae:=by
      unfold fb at eb;obtain⟨g1,g2,_⟩:=VT.mp eb;exact⟨g1,λ_=>by simpa using g2⟩
    have hd:=hk.2 hk.1;have e49b:=h.ma p ys[k] hp (hy _ (Dk _)) hd;have ix:CI (ys.map D.str) (k:Ah)=.ok (.str ys[k]):=getL_at (by rw[Ch,A7 hk.1];rfl)
    have hi:=hix k eb;rw[eb]at hin;have hin:Bj .In .non (.lst (ys.map (dD p)))=.ok (.bl Ab):=hin;have wh:=h.wh k 0 ys.length;have w1:decide ((0:Ah)<=(k:Ah))=Ab:=DW (by omega)
    have w2:decide ((k:Ah)<=(ys.length:Ah))=Ab:=DW (by have:=hk.1;omega)
    rw[w1,w2]at wh;generalize ys[k]=x at *;generalize ys.map (dD p)=DU at *;generalize ys.map D.str=L at *;generalize EO 0 q.toNat=R1 at *;generalize EO 0 (m%4).toNat=R2 at *;generalize scr ns=S at *;simp[Me,Df.run,Bu,ep,ln,hq,rg,e1,Dj,em,rg2,e2,SL,cp,hin,hi,e49,ix,e49b,lL,wh,fl,eq,-HV]
  |none=>
    have e37:=(h.al p ys hp hy (by omega)).1 eb
    rw[eb]at hin;have hin:Bj .In .non (.lst (ys.map (dD p)))=.ok (.bl Ad):=hin;have good:∀ y∈ys,∃ s a,C5 p y=Aa (s,a):=λy hy'=>by
      unfold fb at eb;have:=List.findIdx?_eq_none_iff.mp eb y hy';cases e:C5 p y with
      |none=>rw[e]at this;simp at this
      |some sa=>exact⟨sa.1,sa.2,rfl⟩
    have eb2:fb p (ys++[KI])=Aa ys.length:=by
      unfold fb;rw[VS];unfold fb at eb;rw[eb];simp[tQ hp]
    have z7:KI.length<=1000:=by decide+kernel
    have e49:=h.mb p (ys++[KI]) _ hp (λy hy'=>by
      rcases Dv.mp hy' with z|z
      · exact hy y z
      · rw[A9.mp z];exact z7) (by rw[BN,C8];omega) eb2
    rw[V1,AZ,DZ]at e49;have ad:Cz .Add (.lst (ys.map D.str)) (.lst [.str (Ai "(0 0 0)")])=.ok (.lst (ys.map D.str++[.str KI])):=by
      rw[Gf,At (sz7 (by simp;omega))]
      rfl
    have cp2:∀(a b:Sl)(O:D),Bq (cG Z [sh (scr ns),si p,sh (.lst (ys.map D.str)),u3,s4,s5,a,b,Ae,Ae,sh O,Ae,Ae,Ae] 13 DM) (cF Z [sh (scr ns),si p,sh (.lst (ys.map D.str)),u3,s4,s5,a,b,Ae,Ae,sh O,Ae,Ae,Ae] 13 K7) (ys.map (oT8 p))=.ok (ys.map (dD p)):=λa b O=>by
      have key:∀ zs:Ac Ag,(∀ y∈zs,∃ s a,C5 p y=Aa (s,a))->Bq (cG Z [sh (scr ns),si p,sh (.lst (ys.map D.str)),u3,s4,s5,a,b,Ae,Ae,sh O,Ae,Ae,Ae] 13 DM) (cF Z [sh (scr ns),si p,sh (.lst (ys.map D.str)),u3,s4,s5,a,b,Ae,Ae,sh O,Ae,Ae,Ae] 13 K7) (zs.map (oT8 p))=.ok (zs.map (dD p)):=by
        intro zs
        induction zs with
        |nil=>intro _;rfl
        |cons y zs ih=>
          intro hz;obtain⟨s,c,e⟩:=hz y (AE ..);have eo:oT8 p y=obD p s c:=by unfold oT8;rw[e]
          have ed:=Qh e;have t:=h.to p s c;have me:LH Z.F (Ai "told") [(1,920),(2,920)] (obD p s c)=.ok (Cd Ab c):=by cases s<;>exact t
          rw[AZ,AZ,eo,ed];have f1:cF Z [sh (scr ns),si p,sh (.lst (ys.map D.str)),u3,s4,s5,a,b,Ae,Ae,sh O,Ae,Ae,Ae] 13 K7 (obD p s c)=.ok (Cd Ab c):=by
            generalize obD p s c=o at *;generalize Cd Ab c=Q at *;generalize D.lst (ys.map D.str)=L at *;generalize scr ns=S at *;simp[cF,K7,me]
          show (cG Z _ 13 DM (obD p s c)).bind _=_;have g1:cG Z [sh (scr ns),si p,sh (.lst (ys.map D.str)),u3,s4,s5,a,b,Ae,Ae,sh O,Ae,Ae,Ae] 13 DM (obD p s c)=.ok Ab:=rfl;rw[g1,R.bind_ok,At rfl,f1,R.bind_ok];show (Bq _ _ (zs.map (oT8 p))).bind _=_;rw[ih λy hy'=>hz y (Aw _ hy')]
          rfl
      exact key ys good
    have fd:=(Tz p ys).2;have qd:eqD (.lst (ys.map (dD p))) (.lst (ys.map (dD p)))=Ab:=S4 p ys;generalize ys.map (oT8 p)=OT at *;generalize ys.map (dD p)=DU at *;generalize ys.map D.str=L at *;generalize EO 0 q.toNat=R1 at *;generalize EO 0 (m%4).toNat=R2 at *;generalize scr ns=S at *;simp[Me,Df.run,Bu,ep,ln,hq,rg,e1,Dj,em,rg2,e2,SL,cp,hin,e37,fl,eq,ad,e49,lL,cp2,fd,qd,-HV,-Gf]
end
noncomputable def Zk:E:=(.bl Ab)
noncomputable def Zj:Ss:=(.cons .pass .nil)
noncomputable def hZ:Df:=⟨1,Ad,(.cons (.whl Zk Zj) .nil)⟩
noncomputable def YJ:Df:=⟨1,Ad,(.cons (.expr (.call 32 (.cons (.int 1) .nil))) .nil)⟩
noncomputable def YH:Df:=⟨1,Ad,(.cons (.expr (.call 32 (.cons (.int 4) .nil))) .nil)⟩
noncomputable def tR:Af->Ac Af
 |2=>[2,0]
 |3=>[3,0]
 |106=>[106,0]
 |_=>[]
noncomputable def P0:Af->Ac D->R Ex
 |2,_=>.ok ⟨2,[]⟩
 |3,_=>.ok ⟨3,[]⟩
 |106,ds=>mkI 106 "row" ds
 |_,_=>.bad
noncomputable def Q08:Prg:=⟨Ab,fun
 |32=>hZ
 |1=>Pc
 |9=>L3
 |17=>Mh
 |33=>L6
 |34=>L7
 |35=>Jf
 |36=>Mg
 |37=>Lc
 |2=>NH
 |3=>NY
 |4=>NX
 |40=>Lf
 |44=>Le
 |6=>NW
 |46=>NP
 |47=>Mi
 |48=>Ir
 |49=>K8
 |50=>Md
 |51=>JE
 |52=>Me
 |900=>mkC 0
 |901=>mkC 1
 |902=>mkC 2
 |910=>inC
 |920=>Nw
 |931=>YJ
 |932=>YH
 | _=>⟨0,Ad,.nil⟩,λ_=>.non,tR,P0⟩
theorem rL(ns:Ac Ah):(gam Q08 9).F 52 [scr ns]=.ok (.bl Ab):=by
 have rs:∀ n,MI (gam Q08 (n+1)):=λn p m hp=>lZ (gam Q08 n) p m hp
 have tu:∀ n,NZ (gam Q08 (n+2)):=λn p m hp z=>ZC (rs n) p m hp z
 have fo:∀ n,OO (gam Q08 (n+3)):=λn p b xs l t hp e it=>fR (rs (n+1)) (tu n) hp e it
 have ii:∀ n,UK (gam Q08 (n+4)):=λn p b q a hp h=>rV (fo n) p b q a hp h
 have mk:∀ n,UI (gam Q08 (n+5)):=λn p s b q a hp h=>by
  cases s with
  |false=>exact Um (ii n) 1 p b q a hp h
  |true=>exact Um (ii n) 2 p b q a hp h
 have xn:∀ n,UD (gam Q08 n):=λn r r0 r1=>by
  have e:xfD 0 (.int r)=Ab:=by
   show (decide (0<=r)&&decide (r<100))=Ab;rw[DW r0,DW r1];rfl
  have g:(gam Q08 n).xn 106 [.int r]=mkI 106 "row" [.int r]:=by cases n<;>rfl
  rw[g];show (if xfD 0 (.int r)=Ab then R.ok _ else .bad)=_
  rw[At e];rfl
 have ce:∀ n,TX (gam Q08 (n+1)):=λn ns k=>mE (gam Q08 n) ns k
 have mi:∀ n,ON (gam Q08 (n+2)):=λn ns k=>cT (ce n) ns k
 have pr:∀ n,SJ (gam Q08 (n+3)):=λn ns k=>cS (mi n) ns k
 have sg:∀ n,UE (gam Q08 (n+1)):=λn m=>rQ (gam Q08 n) m
 have od:∀ n,UH (gam Q08 (n+1)):=λn p m hp=>rT (gam Q08 n) p m hp
 have ch:∀ n,UL (gam Q08 (n+2)):=λn p m xs B hp m0 b0 b1 hx hl=>rW (od n) (sg n) p m xs B hp m0 b0 b1 hx hl
 have rr:∀ n,UG (gam Q08 (n+1)):=λn p w hp=>rS (gam Q08 n) p w hp
 have rt:∀ n,TV (gam Q08 (n+2)):=λn p ws hp=>lY (rr n) p ws hp
 have rl:∀ n,UF (gam Q08 (n+1)):=λn p w hp=>rR (gam Q08 n) p w hp
 have lf:∀ n,UJ (gam Q08 (n+1)):=λn p xs hp=>fQ (gam Q08 n) hp
 have du:∀ n,TW (gam Q08 (n+2)):=λn p x hp hl=>mD (rl n) (lf n) p x hp hl
 have ra:∀ n,O9 (gam Q08 (n+6)):=λn p r x hp r0 r1 hl=>mB (rt (n+3)) (mk n) (xn _) p r x hp r0 r1 hl
 have on:∀ n,nX (gam Q08 (n+7)):=λn p x hp hl=>mC (ra n) p x hp hl
 have al:∀ n,TY (gam Q08 (n+7)):=λn p xs hp hx hl=>mF (ra n) p xs hp hx hl
 have to':∀ n,SH (gam Q08 (n+1)):=λn p s q=>cR (gam Q08 n) p s q
 refine mV (Z:=gam Q08 8) ⟨mi 6,pr 5,λp n hp=>lX (gam Q08 7) p n hp,ch 6,rfl,du 6,al 1,λp x hp hl hd=>?_,λp xs k hp hx hl hb=>?_,λx a b=>cQ (gam Q08 7) x a b,to' 7⟩
 .have e:=on 0 p x hp hl;rw[Kx hd]at e;exact fP (Z:=gam Q08 7) rfl p x e
 .exact fO (Z:=gam Q08 7) rfl p k _ ((al 0 p xs hp hx hl).2 k hb)
end OvC
namespace OvC
open PySem PySem.Spec PyProof.Rows Ov L2
variable{l:FM}
noncomputable def tp08(i:Af):AI:=PySem.Challenge.pw_ovalfield_k08_rows_refused.main.body.getD i (.Pass ⟨0,0,0,0⟩)
noncomputable def KH:Ac (Ag×Af×Af):=([("_wall",32,1),("rest",1,2),("turned_over",9,2),("one_form",17,2),("rest_read",33,2),("rests_read",34,2),("read_at",35,3),("read_one",36,2),("read_all",37,2),("_law_cell_at",2,2),("_law_mixed",3,2),("_law_prime",4,2),("_law_triple",40,2),("_law_form",44,2),("_law_whole",6,3),("_law_sign",46,1),("_law_rest",47,2),("_law_due",48,2),("_law_met",49,3),("_law_odd",50,2),("_law_changed",51,3),("law",52,1),("1.told",920,1),("2.told",920,1),("1.shown",931,1),("2.shown",932,1)]:Ac (Ag×Af×Af))
noncomputable def KN:Ac Ag:=["ValueError", "any", "bool", "enumerate", "int", "isinstance", "len", "list", "min", "range", "str", "tuple"]
noncomputable def JT:Ac (Ag×Af):=[("NoOver",2),("NoTriple",3),("BadRow",106)]
noncomputable def JQ:Ac (Ag×Af):=[("BadRow",106),("OvalError",0),("NoRow",12),("NoTriple",3),("Alike",107)]
noncomputable def KG:Ac (Ag×Af):=[]
noncomputable abbrev C08(h:Am)(n:Af)(N:Ac Ag)(i d:Af):Am:=Gi 80 h KH KN JT JQ KG (N.take n) N (tp08 i) (Q08.defs d)
theorem oC:C08 Ad 1 ["k"] 0 32=Ab:=by decide+kernel
theorem oB:C08 Ad 2 ["p", "n"] 9 1=Ab:=by decide+kernel
theorem oA:C08 Ad 2 ["p", "n", "turned"] 10 9=Ab:=by decide+kernel
theorem nZ:C08 Ad 2 ["p", "numbers", "rests", "first", "factor", "#5", "#6"] 12 17=Ab:=by decide+kernel
theorem mP:C08 Ad 2 ["p", "word", "number"] 17 33=Ab:=by decide+kernel
theorem mO:C08 Ad 2 ["p", "words", "rests", "#3"] 18 34=Ab:=by decide+kernel
theorem mM:C08 Ad 3 ["p", "text", "row", "rests", "brackets"] 19 35=Ab:=by decide+kernel
theorem mL:C08 Ad 2 ["p", "text"] 20 36=Ab:=by decide+kernel
theorem mK:C08 Ad 2 ["p", "texts", "#2", "#3"] 21 37=Ab:=by decide+kernel
theorem mJ:C08 Ad 2 ["_law_script", "_law_k"] 23 2=Ab:=by decide+kernel
theorem hU:C08 Ad 2 ["_law_script", "_law_k"] 24 3=Ab:=by decide+kernel
theorem hJ:C08 Ad 2 ["_law_script", "_law_k"] 25 4=Ab:=by decide+kernel
theorem gZ:C08 Ad 2 ["_law_n", "_law_p"] 26 40=Ab:=by decide+kernel
theorem gY:C08 Ad 2 ["_law_numbers", "_law_p", "_law_rests", "_law_lead", "_law_over", "#5", "#6", "#7", "#8"] 27 44=Ab:=by decide+kernel
theorem gX:C08 Ad 3 ["_law_found", "_law_low", "_law_high"] 28 6=Ab:=by decide+kernel
theorem gW:C08 Ad 1 ["_law_cell", "_law_some"] 30 46=Ab:=by decide+kernel
theorem gU:C08 Ad 2 ["_law_word", "_law_p", "_law_some", "#3"] 31 47=Ab:=by decide+kernel
theorem gS:C08 Ad 2 ["_law_text", "_law_p", "_law_rests", "#3"] 32 48=Ab:=by decide+kernel
theorem gR:C08 Ad 3 ["_law_p", "_law_texts", "_law_alone", "_law_row", "_law_plain", "e"] 33 49=Ab:=by decide+kernel
theorem iX:C08 Ad 2 ["_law_p", "_law_cell", "_law_some"] 34 50=Ab:=by decide+kernel
theorem iW:C08 Ad 3 ["_law_p", "_law_texts", "_law_mix", "_law_way", "_law_at", "_law_text", "_law_place"] 35 51=Ab:=by decide+kernel
theorem SY:C08 Ad 1 ["_law_script", "_law_p", "_law_texts", "_law_k", "_law_mix", "_law_words", "_law_due_here", "_law_handed", "_law_row", "_law_alone", "_law_found", "#11", "#12", "#13"] 36 52=Ab:=by decide+kernel
theorem RB:Gi 80 Ad KH KN JT JQ KG ["self"] ["self"] (Jo (tp08 13) 1) (Q08.defs 920)=Ab:=by decide+kernel
theorem cB:Gi 80 Ad KH KN JT JQ KG ["self"] ["self"] (Jo (tp08 14) 0) (Q08.defs 931)=Ab:=by decide+kernel
theorem cA:Gi 80 Ad KH KN JT JQ KG ["self"] ["self"] (Jo (tp08 15) 0) (Q08.defs 932)=Ab:=by decide+kernel
theorem YA:LN 80 KH KN JT JQ KG (Jo (tp08 13) 0)=Ab:=by decide+kernel
theorem iI:LV "OvalError" "row" "row" (UA (tp08 6))=Ab:=by decide+kernel
set_option maxHeartbeats 0 in
theorem all08{w:AV}{K:Fg}{h:AF}{mg:Ag->Ao Aj}{fa f0 f1 f2 f3 f4 f5 f6 f7 f8 f9 f10 f11 f12 f13 f14 f15 f16 f17 f18 f19 f20 f21 x0 x1 x2 x3 x4 x5 ix2:Ak}(X:K.In h)(G:h.Ns AQ mg)(hfa:mg "law" = Aa (.ref fa)){o0 o1 o2 mt ms0 ms1 ms2 fi:Ak}(a0:FnI K f0 "_wall" (tp08 0))(a1:FnI K f1 "rest" (tp08 9))(a2:FnI K f2 "turned_over" (tp08 10))(a3:FnI K f3 "one_form" (tp08 12))(a4:FnI K f4 "rest_read" (tp08 17))(a5:FnI K f5 "rests_read" (tp08 18))(a6:FnI K f6 "read_at" (tp08 19))(a7:FnI K f7 "read_one" (tp08 20))(a8:FnI K f8 "read_all" (tp08 21))(a9:FnI K f9 "_law_cell_at" (tp08 23))(a10:FnI K f10 "_law_mixed" (tp08 24))(a11:FnI K f11 "_law_prime" (tp08 25))(a12:FnI K f12 "_law_triple" (tp08 26))(a13:FnI K f13 "_law_form" (tp08 27))(a14:FnI K f14 "_law_whole" (tp08 28))(a15:FnI K f15 "_law_sign" (tp08 30))(a16:FnI K f16 "_law_rest" (tp08 31))(a17:FnI K f17 "_law_due" (tp08 32))(a18:FnI K f18 "_law_met" (tp08 33))(a19:FnI K f19 "_law_odd" (tp08 34))(a20:FnI K f20 "_law_changed" (tp08 35))(a21:FnI K f21 "law" (tp08 36))(oa0:OA K "Triple" o0 mt ms0 fi)(oa1:OA K "Point" o1 mt ms1 fi)(oa2:OA K "Line" o2 mt ms2 fi)(kt0:KtC K o0 [(o0,Ab),(o1,Ad),(o2,Ad)])(kt1:KtC K o1 [(o0,Ab),(o1,Ab),(o2,Ad)])(kt2:KtC K o2 [(o0,Ab),(o1,Ad),(o2,Ab)])(ii:InI K fi "Triple.__init__" (Jo (tp08 13) 0))(me920:MeI K mt "told" "Triple.told" (Jo (tp08 13) 1))(me931:MeI K ms1 "shown" "Point.shown" (Jo (tp08 14) 0))(me932:MeI K ms2 "shown" "Line.shown" (Jo (tp08 15) 0))(cx0:XA K "NoOver" x0 Ae)(cx1:XA K "NoTriple" x1 Ae)(cx2:XB K "BadRow" x2 ix2 "BadRow.__init__" (UA (tp08 6)))(cx3:XE K "OvalError" x3)(ox3:XO K x3)(cx4:XE K "NoRow" x4)(cx5:XE K "Alike" x5)(sx2:SuC K x2 [(x0,Ad),(x1,Ad),(x2,Ab)])(sx3:SuC K x3 [(x0,Ab),(x1,Ab),(x2,Ab)])(sx4:SuC K x4 [(x0,Ad),(x1,Ad),(x2,Ad)])(sx1:SuC K x1 [(x0,Ad),(x1,Ab),(x2,Ad)])(sx5:SuC K x5 [(x0,Ad),(x1,Ad),(x2,Ad)])(z0:A8 K AQ "ValueError" = Aa Ae)(z1:A8 K AQ "any" = Aa Ae)(z2:A8 K AQ "bool" = Aa Ae)(z3:A8 K AQ "enumerate" = Aa Ae)(z4:A8 K AQ "int" = Aa Ae)(z5:A8 K AQ "isinstance" = Aa Ae)(z6:A8 K AQ "len" = Aa Ae)(z7:A8 K AQ "list" = Aa Ae)(z8:A8 K AQ "min" = Aa Ae)(z9:A8 K AQ "range" = Aa Ae)(z10:A8 K AQ "str" = Aa Ae)(z11:A8 K AQ "tuple" = Aa Ae):
  ∃ fd:Bx,(∀(s:Ap)(v:Aj),Gr s fd ⟨[v],[]⟩ [("_law_script",v)])/\∀ base:AF,K.In base->base.Ns AQ mg->FnOk l.prog w K mg base (CXR l.prog w) 9 fa fd ["_law_script"] (MV K):=by
 obtain⟨_,F,e⟩:=a21;obtain⟨_,_,_,_,_,_,_,_,_,rfl,_,_⟩:=F.ex;cases hfa.symm.trans (BF X G e);have XT08:XT Q08.up Q08.xn (clL [(2,x0),(3,x1),(106,x2)]) JT JQ K mg:=by
  refine pM (all_cons (cx0.row λ_=>by first|exact .inr rfl|exact .inl rfl) (all_cons (cx1.row λ_=>by first|exact .inr rfl|exact .inl rfl) (all_cons (XB.rowI X G cx2 ox3 cx3.n iI (λ_ _ _ _ _ _ _ _=>rfl) λ_=>rfl) (all_nil)))) (all_cons ⟨_,rfl,BF X G cx0.n⟩ (all_cons ⟨_,rfl,BF X G cx1.n⟩ (all_cons ⟨_,rfl,BF X G cx2.a.n⟩ (all_nil)))) (all_cons ⟨_,BF X G cx2.a.n,cx2.a.kc,sx2⟩ (all_cons ⟨_,BF X G cx3.n,cx3.kc,sx3⟩ (all_cons ⟨_,BF X G cx4.n,cx4.kc,sx4⟩ (all_cons ⟨_,BF X G cx1.n,cx1.kc,sx1⟩ (all_cons ⟨_,BF X G cx5.n,cx5.kc,sx5⟩ (all_nil)))))) ?_
  intro c q ds;show P0 c ds=.bad;unfold P0;split<;>first|rfl|exact absurd rfl (q ("NoOver",2) (by decide))|exact absurd rfl (q ("NoTriple",3) (by decide))|exact absurd rfl (q ("BadRow",106) (by decide))
 have T:Tab K mg (clL [(2,x0),(3,x1),(106,x2)]) KH KN JT JQ KG Q08 80:=⟨sN X G oa0 oa1 oa2 kt0 kt1 kt2,sV oa0 oa1 oa2 ii YA rfl rfl rfl rfl λ_ _ _ _ _ _ _ _ _=>rfl,XT08,all_cons (BA X G z0) (all_cons (BA X G z1) (all_cons (BA X G z2) (all_cons (BA X G z3) (all_cons (BA X G z4) (all_cons (BA X G z5) (all_cons (BA X G z6) (all_cons (BA X G z7) (all_cons (BA X G z8) (all_cons (BA X G z9) (all_cons (BA X G z10) (all_cons (BA X G z11) (all_nil)))))))))))),all_nil,all_cons (Qf 1 32 (by decide+kernel) X G a0 rfl oC λ_ _ _ _ _ _ _=>rfl) (all_cons (FZ 2 1 (by decide+kernel) X G a1 rfl oB λ_ _ _ _ _ _ _ _=>rfl) (all_cons (FZ 2 9 (by decide+kernel) X G a2 rfl oA λ_ _ _ _ _ _ _ _=>rfl) (all_cons (FZ 2 17 (by decide+kernel) X G a3 rfl nZ λ_ _ _ _ _ _ _ _=>rfl) (all_cons (FZ 2 33 (by decide+kernel) X G a4 rfl mP λ_ _ _ _ _ _ _ _=>rfl) (all_cons (FZ 2 34 (by decide+kernel) X G a5 rfl mO λ_ _ _ _ _ _ _ _=>rfl) (all_cons (Nf 3 35 (by decide+kernel) X G a6 rfl mM λ_ _ _ _ _ _ _ _ _=>rfl) (all_cons (FZ 2 36 (by decide+kernel) X G a7 rfl mL λ_ _ _ _ _ _ _ _=>rfl) (all_cons (FZ 2 37 (by decide+kernel) X G a8 rfl mK λ_ _ _ _ _ _ _ _=>rfl) (all_cons (FZ 2 2 (by decide+kernel) X G a9 rfl mJ λ_ _ _ _ _ _ _ _=>rfl) (all_cons (FZ 2 3 (by decide+kernel) X G a10 rfl hU λ_ _ _ _ _ _ _ _=>rfl) (all_cons (FZ 2 4 (by decide+kernel) X G a11 rfl hJ λ_ _ _ _ _ _ _ _=>rfl) (all_cons (FZ 2 40 (by decide+kernel) X G a12 rfl gZ λ_ _ _ _ _ _ _ _=>rfl) (all_cons (FZ 2 44 (by decide+kernel) X G a13 rfl gY λ_ _ _ _ _ _ _ _=>rfl) (all_cons (Nf 3 6 (by decide+kernel) X G a14 rfl gX λ_ _ _ _ _ _ _ _ _=>rfl) (all_cons (Qf 1 46 (by decide+kernel) X G a15 rfl gW λ_ _ _ _ _ _ _=>rfl) (all_cons (FZ 2 47 (by decide+kernel) X G a16 rfl gU λ_ _ _ _ _ _ _ _=>rfl) (all_cons (FZ 2 48 (by decide+kernel) X G a17 rfl gS λ_ _ _ _ _ _ _ _=>rfl) (all_cons (Nf 3 49 (by decide+kernel) X G a18 rfl gR λ_ _ _ _ _ _ _ _ _=>rfl) (all_cons (FZ 2 50 (by decide+kernel) X G a19 rfl iX λ_ _ _ _ _ _ _ _=>rfl) (all_cons (Nf 3 51 (by decide+kernel) X G a20 rfl iW λ_ _ _ _ _ _ _ _ _=>rfl) (all_cons (Qf 1 52 (by decide+kernel) X G ⟨_,F,e⟩ rfl SY λ_ _ _ _ _ _ _=>rfl) (all_cons (Nd 920 (by decide+kernel) (HP (by decide:1<3) oa1.n) oa1.ft me920 RB λ_ _ _ _ _ _ _=>rfl) (all_cons (Nd 920 (by decide+kernel) (HP (by decide:2<3) oa2.n) oa2.ft me920 RB λ_ _ _ _ _ _ _=>rfl) (all_cons (Nd 931 (by decide+kernel) (HP (by decide:1<3) oa1.n) oa1.fs me931 cB λ_ _ _ _ _ _ _=>rfl) (all_cons (Nd 932 (by decide+kernel) (HP (by decide:2<3) oa2.n) oa2.fs me932 cA λ_ _ _ _ _ _ _=>rfl) (all_nil))))))))))))))))))))))))))⟩
 exact⟨_,λs v=>.of_eq rfl,λbase _ _=>law_fn (S6 T (jG T 8) (jH T 8) (MR F) rfl SY) rL⟩
theorem walk08{q:AL}{loose:Ac Ag}{XP:(Ag->Ao Aj)->AF->Prop}{YP:AV->AF->Prop}{d:DefRec}{K:K4->Fg}(hn:l.most=Aa 63)(hdf:d.params.defaults=[])(hY:∀(w:AV)(h:AF),YP w h->(K w.params).In h)(F:∀(w:AV)(mg:Ag->Ao Aj)(fa:Ak)(h:AF),(K w.params).In h->h.Ns AQ mg->mg d.name=Aa (.ref fa) ->
   ∃ fd:Bx,(∀(s:Ap)(u:Aj),Gr s fd ⟨[u],[]⟩ [("_law_script",u)])/\∀ base:AF,(K w.params).In base->base.Ns AQ mg->FnOk l.prog w (K w.params) mg base (CXR l.prog w) 9 fa fd ["_law_script"] (MV (K w.params))):XC q loose XP YP l.row.toRowW d [] (λf vs=>J7 f vs):=
 L2.walk_of (n:=63) (k:=9) (x := "_law_script") (CX:=λw=>CXR l.prog w) (sp:=λw=>MV (K w.params)) hn (by decide) hdf ⟨rfl,by decide,by decide,rfl⟩ hY F (λ_ H a ns hl _ hS=>⟨a,ns,rfl,hl,hS,λ_ _ z=>z⟩) λ_ _ _ _ _ z=>mY z
end OvC
open PySem PySem.W PyProof.Rows
noncomputable def OvC.view08:PySem.Program:={ PySem.Challenge.pw_ovalfield_k08_rows_refused with main:={PySem.Challenge.pw_ovalfield_k08_rows_refused.main with body:=[OvC.tp08 0,OvC.tp08 2,OvC.tp08 3,OvC.tp08 4,OvC.tp08 5,OvC.tp08 6,OvC.tp08 7,OvC.tp08 9,OvC.tp08 10,OvC.tp08 12,OvC.tp08 13,OvC.tp08 14,OvC.tp08 15,OvC.tp08 17,OvC.tp08 18,OvC.tp08 19,OvC.tp08 20,OvC.tp08 21,OvC.tp08 23,OvC.tp08 24,OvC.tp08 25,OvC.tp08 26,OvC.tp08 27,OvC.tp08 28,OvC.tp08 29,OvC.tp08 30,OvC.tp08 31,OvC.tp08 32,OvC.tp08 33,OvC.tp08 34,OvC.tp08 35,OvC.tp08 36]} }
set_option hygiene false
local macro_rules | `(tactic| o_head $H)=>`(tactic| refine holds_open (q:=OvC.view08) (loose:=[]) (Xt:=fun s=>xlAt OvC.view08 [] s&&recOk (RowW.records (OpenRow.toRowW (PySem.Challenge.rw_ovalfield_k08_rows_refused.row))) s) (XP:=XL OvC.view08 []) (Yf:=Hook.obs $H) (Ya:=Hook.val $H) (YP:=Hook.says $H) (N:=5992) ?hl (Hook.of $H) (Hook.keeps $H) (fun s e=>xl_of s (Bool.and_eq_true_iff.mp e).1) XL.keeps (by rfl) (by rfl) (by rfl) (fun s e=>recFacts_of (Bool.and_eq_true_iff.mp e).2) (by rfl) (by first|assumption|decide +kernel) (by decide +kernel) ⟨rfl,rfl,rfl,rfl,rfl,by decide +kernel⟩ ?hw ?hc)
set_option maxRecDepth 100000 in
set_option maxHeartbeats 0 in
theorem PySem.Challenge.cw_ovalfield_k08_rows_refused_holds : PySem.Challenge.rw_ovalfield_k08_rows_refused.Holds := by
 w_on;refine holds_law (by decide+kernel) λsaid=>?_;k_head
 (case hl=>intro w;unfold openEnds fencedOpening topFrom;rw[PySem.W.Fast.te10274390034422433532,PySem.W.Fast.te14364793385576792824,PySem.W.Fast.te1435165496053646825,PySem.W.Fast.te14289696077712309145,PySem.W.Fast.te14082659384304107361,PySem.W.Fast.te4187177175401517315];kernel_rfl)
 (case hw=>w_witness2)
 k_fill
 refine OvC.walk08 (l:=PySem.Challenge.rw_ovalfield_k08_rows_refused) rfl rfl (λw h Y_=>XI Y_) ?F
 case F=>
  intro w mg fa h KX G hmg
  refine' OvC.all08 KX G hmg ?a0 ?a1 ?a2 ?a3 ?a4 ?a5 ?a6 ?a7 ?a8 ?a9 ?a10 ?a11 ?a12 ?a13 ?a14 ?a15 ?a16 ?a17 ?a18 ?a19 ?a20 ?a21 ?oa0 ?oa1 ?oa2 ?kt0 ?kt1 ?kt2 ?ii ?me920 ?me931 ?me932 ?cx0 ?cx1 ?cx2 ?cx3 ?ox3 ?cx4 ?cx5 ?sx2 ?sx3 ?sx4 ?sx1 ?sx5 ?z0 ?z1 ?z2 ?z3 ?z4 ?z5 ?z6 ?z7 ?z8 ?z9 ?z10 ?z11
  case a0|a1|a2|a3|a4|a5|a6|a7|a8|a9|a10|a11|a12|a13|a14|a15|a16|a17|a18|a19|a20|a21=>(refine' Ov.fni ?a ?l ?c ?k;(case a=>k_is);(case l=>k_is);(case c=>k_is);(case k=>k_is))
  case oa0|oa1|oa2=>(refine' Ov.oa_mk ?n ?i ?ft ?fs ?q1 ?q2 ?q3 ?q4 ?q5 ?q6 ?q7 ?q8 ?q9 ?r1 ?r2 ?r3 ?r4 ?r5 ?r6;(case n=>k_is);(case i=>k_is);(case ft=>k_is);(case fs=>k_is);(case q1|q2|q3|q4|q5|q6|q7|q8|q9|r1|r2|r3|r4|r5|r6=>k_is))
  case kt0|kt1|kt2=>(refine' Ov.all_cons ?q0 (Ov.all_cons ?q1 (Ov.all_cons ?q2 Ov.all_nil));(case q0|q1|q2=>dsimp only;kit_is))
  case ii=>(refine' Ov.ini_mk ?l ?m ?k;(case l=>k_is);(case m=>k_is);(case k=>k_is))
  case me920|me931|me932=>(refine' Ov.mei ?l ?m ?k;(case l=>k_is);(case m=>k_is);(case k=>k_is))
  case cx0|cx1=>(refine' Ov.xa_mk ?n (Ov.xcls_l ?e) ?d ?f ?g ?r ?a ?b ?c ?o ?h ?v;(case n=>k_is);(case e=>k_exc);(case d=>kernel_rfl);(case f|g|r|a|b|c|o|h|v=>k_is))
  case cx2=>(refine' Ov.XB.mk ?i (Ov.xa_mk ?n ?e ?d ?f ?g ?r ?a ?b ?c ?o ?h ?v) (Ov.ini_mk ?l ?m ?k) ?t ?s;(case n=>k_is);(case i=>k_is);(case l=>k_is);(case e|d=>kernel_rfl);(case m|k|t|s|f|g|r|a|b|c|o|h|v=>k_is))
  case cx3|cx4|cx5=>(refine' Ov.XE.mk ?a ?b ?c;(case a=>k_is);(case b|c=>k_is))
  case ox3=>(refine' Ov.XO.mk ?a ?b ?c;(case a|b|c=>k_is))
  case sx2|sx3|sx4|sx1|sx5=>(refine' Ov.all_cons ?q0 (Ov.all_cons ?q1 (Ov.all_cons ?q2 (Ov.all_nil)));(case q0|q1|q2=>dsimp only;k_is))
  case z0|z1|z2|z3|z4|z5|z6|z7|z8|z9|z10|z11=>k_is
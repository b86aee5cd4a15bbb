import PyProof.Rows.All
import Wide.All
import OpenK.AllK
import Wide.FinOn
import PyProof.EqAt
import KE.KSortTup
import PyProof.EqKinds
import PyProof.TupleCall
import Lean
import PySem.Challenge.RW_ovalfield_k07_whole_read_again
set_option Elab.async false
set_option linter.all false
set_option maxRecDepth 100000
set_option maxHeartbeats 4000000
open Option renaming some→Aa,none→Ae,bind_eq_some_iff→Au,isSome_iff_exists→BZ,isNone_iff_eq_none→Dl,getD_none→UJ,map_some→UK
open Bool renaming true→Ab,false→Ad,and_eq_true→Al,false_ne_true→Av,not_eq_true'→Bk,or_eq_true→BN,or_false→DG,and_false→Hb,or_true→HR,and_true→Ub,eq_iff_iff→Uc
open _root_ renaming List→Ac,Nat→Af,Int→Ah,Bool→Ai,Option→An,if_pos→AA,beq_iff_eq→AF,if_neg→AH,of_decide_eq_true→AK,decide_eq_true_eq→AO,False→AV,Array→A4,dif_neg→Bx,decide_eq_false→Cq,beq_eq_false_iff_ne→Cr,String→Cv,Unit→DC,if_true→D6,beq_self_eq_true→Ee,Decidable→Fo,ne_true_of_eq_false→FK,or_false→FW,bne_iff_ne→Go,True→GH,not_or→Hj,ne_eq→J3,if_false→K2,decide_eq_true→oK
open PySem renaming Str→Ag,Value→Aj,Addr→Ak,Expr→Am,Shared→Ao,wpAny_bind→Ap,starEach→Aq,wpAny→At,Pos→Az,Heap→AB,Stmt→AD,Program→AJ,wpAny_pure→AM,mainGlobals→AQ,Around→AR,World→AT,wpAny_mono→A3,FuncData→Bq,backTo→Br,excClassObj→Bz,cLine→BE,wpAny_loadPart_at→BK,Scope→BL,binaryOp→BM,sizeLine_eq→BX,Env→B2,foldedSetIterable→Cc,Tok→Cd,mem_of_lookup→Ce,wpAny_newObj_type→Cj,wpAny_truthy_bool→Ck,cellsFrom→Cn,compareOp→Co,swapsWith→Cp,bootBuiltins→Cu,Obj→Cz,wpAny_Call_Name_kw→CF,wpAny_field→CI,CmpOp→CJ,attributeBase→CS,OwnTail→C9,wpAny_passesOwn→Db,assignEach→Dp,codeAny_call_builtin→Dq,PassesOwn→Dt,NameKind→Dx,wpAny_standAt→DI,wpAny_execs_nil→DN,GenState→DR,Keyword→DY,codeAny→D0,codeAny_mono→D1,ExceptHandler→Eh,rawInt→Ei,wpAny_holding→Ej,sliceBounds→Ek,wpAny_isSubtype_exc→Em,Operator→ED,typeIs_str→EQ,wpAny_call→ER,wpAny_setField→ES,wpAny_callSpecial?_slot→EW,Sem→EY,wpAny_pyIter_list→E1,strLen_append→Fe,checkBuiltinCall→Fh,letOwnedTupleGo→Fw,BindsTo→FM,bindArgs→FO,Model→FX,keywordEach→FY,IsPart→F1,noteFrame→F2,pushCells→F3,wpAny_pyIter_tuple→F4,behindInMarks→F6,methodCallPos→F7,call_meets→Gm,OsState→Gp,callerA→Gq,ExcBaseFacts→GB,Paired→GC,Result→GD,wpAny_call_entry→GE,wpAny_execs_cons→GF,Drawn→GQ,pushCells_keeps→GW,setFlight→GX,wpAny_of_eq→GY,isTrue→Hf,newFunctionEnv→Hg,notedBy→Hh,recursionLimit→Hi,backToKw→Hl,bindC→Hm,bindL→Hn,builtinsNs→Ho,isInstance→Hq,numAt→Hr,Comprehension→HN,JoinOk→HW,Within→H9,callSpecial?→Ia,concat_meets→Ib,onTheHeap→Ic,UnaryOp→IA,getAttr→IB,getItem→IC,handleBy→IF,PyData→Jf,StoreFacts→Jh,call→Jj,sysModules→Jk,wpAny_Name→Jl,setAttr→Jm,IntMulOk→J6,Params→J7,intItems→J8,pyIter→J9,codeAny_call_function→We,firstArgMember→Wf,methodCallForm→Wg,noFill_tuple_add→Wh,pastItsLine_dict→Wi,plainObj_wpAny_Assign_Attribute→Wj,refuseLoop_ref→Wk,slot_list_getitem→Wl,wpAny_JoinedStr→Wm,wpAny_assign_Name→Wn,wpAny_comprehension_free→Wo,wpAny_loadPart→Wp,wpAny_lookBehind→Wq,wpAny_newFunctionEnv_cells→Wr,wpAny_pyIter_enum→Ws,wpAny_seqItems→Wt
open PySem.W renaming findIn→Ar,nsIn→A7,keepIn→A8,mg_none_of→Bo,specialIn→BJ,fnOf→BR,kia_one→BS,looks_findIn→BU,emptyDict→Cb,instObj→CM,kitOne→CY,isFn→C4,codeIn→Du,mg_of→DH,callWith_K→DM,plainGet→Ea,findCls→Ez,readsIn→EA,typeIn→EO,hasDictIn→EZ,OpenLaw→E9,mroIn→Fc,subIn→Fd,plainGet_of→FJ,lookIn→FN,methodObj→Gj,plainOver→Gk,makesIn→GS,takerIn→GU,takesIn→GV,kitAny→He,clsIn→HP,WalkO→V2,cellsFrom_some→V3,codeRec_of→V4,handedIn→V5,isNs_of_in→V6,kIn_of→V7,kitx_dict→V8,kitx_list→V9,looks_subIn→Wa,nsOkIn→Wb,tail_of_in→Wc
open PySem.Heap renaming get?_push_of_some→As,lt_size→AE,get?_push_size→AW,get?_update_other→Ct,get?_update_self→CC,get?_none_of_le→CK,size_push→CW,SameBut→DX,MadeExcOf→Hd,ExtBut→Vz,get?_push_at→VC,get?_update_ne→VD
open List renaming mem_cons_of_mem→Aw,mem_cons_self→AC,mem_cons→AG,size_toArray→AN,length_set→AS,getElem?_eq_some_iff→AY,length_cons→AZ,mem_append_right→Ba,mem_singleton→Bm,length_map→BD,getElem?_eq_getElem→BF,lookup→BH,length_append→BQ,all_eq_true→BV,lookup_cons→BW,map_cons→BY,range→B6,getElem?_set_self→Ca,append_nil→Ch,mem_range→CB,getElem?_map→CO,not_mem_nil→CU,length_singleton→C8,getD_eq_getElem?_getD→Dc,isEmpty_eq_false_iff→Dk,any_eq_true→D8,all_cons→Ef,drop_eq_getElem_cons→Eu,getElem?_append_left→Ev,toArray→EB,getElem?_set_self'→EU,drop_eq_nil_of_le→E8,getElem?_set_ne→Fp,mem_append→Fq,mem_append_left→Fs,nodup_cons→Ft,filterMap_cons→FG,getElem_of_mem→FH,replicate→FL,contains_cons→FZ,getElem?_set→Gh,getElem_mem→Gv,length_take→Gw,mem_map→Gx,nil_append→GO,of_mem_zip→GP,any_cons→HM,map_nil→HS,all_map→Uo,any_map→Up,append_assoc→Uq,contains_eq_mem→Ur,ext_getElem?→Us,forIn_nil→Ut,getElem?_append_right→Uu,getElem?_replicate→Uv,length→Uw,length_drop→Ux,length_replicate→Uy,map_map→Uz,mem_of_getElem?→UA,range_succ_eq_map→UB,reverse_cons→UC,set_set→UD
open PySem.Str renaming ofString→Ay,empty→CQ
open Nat renaming le_refl→AI,lt_of_lt_of_le→AL,ne_of_lt→A9,lt_irrefl→Bg,le_of_ble_eq_true→Bt,le_trans→Bw,ble→CP,lt_of_le_of_lt→DK,zero_le→DP,lt_succ_self→Ff,le_of_lt→Fu,lt_succ_of_lt→Gi,log2_le_self→Gy,mod_eq_of_lt→Gz,ne_of_gt→GA,le_succ→ID,ble_eq→UE,le_of_eq→UF,min_self→UG,not_lt→UH,not_lt_zero→UI
open False renaming elim→A1
open Int renaming emod_emod_of_dvd→A5,emod_eq_of_lt→Bl,mul_emod→Bp,emod_nonneg→BA,dvd_refl→BO,emod_lt_of_pos→BP,one_mul→DO,zero_emod→Fa,mul_assoc→F5,mul_comm→Gu,add_emod→Ud,ediv_nonneg→Ue,eq_ofNat_of_zero_le→Uf,le_refl→Ug,le_trans→Uh,mul_one→Ui,mul_zero→Uj,sub_zero→Uk,toNat_natCast→Ul,zero_add→Um
open PySem.Value renaming ref→Bb,builtin→B7,none→CZ,bool→Hk,int→HY,str→HZ,float→IE,type→Ji,bytes→VZ
open Option.some renaming inj→Bf
open PySem.NameKind renaming cell→Bu,free→De
open PySem.F renaming excBase_ValueError→Cy,slot_tuple_iterator_next→Dd,slot_str_split→DQ,args_str_split_2→EC,entry_str_split→EV,attr_ValueError→EX,args_tuple_add_2→Vp,args_tuple_iterator_next_1→Vr,entry_bexc_ga→Vs,entry_tuple_add→Vt,entry_tuple_iterator_next→Vu,plainAttrs_str→Vv,slot_str_join→Vw,slot_tuple_add→Vx,typeOf_object_class→Vy
open PySem.Obj renaming data_mapFields→CD,isFreed_of_fields→DZ,mapFields→Fb,cls_mapFields→VE,mapSeq→VF
open Ne renaming symm→CV
open PyProof.Rows renaming callWith_type1→C3,envOfC→Eg,boot_isinstance→Ew,AllBare→EN,IntsAre→Hc,IsTup→Je,boot_list→UL,boot_str→UM,boot_tuple→UN,slicePart_none→UO,slot_tuple_getitem→UP,subscriptTail_builtinR→UQ
open PySem.PyData renaming shownAll→Da,depthAll→GR,hasDictAll→VH,showableAll→VI
open PySem.Builtin.Slice renaming slicePlaces→Dm,sliceAdjust→Ey,sliceApplied→UT
open PySem.Builtin.SmallTypes renaming nextOf→Do
open PySem.Builtin.Tuple renaming tupleExact→Dv
open PySem.Builtin.Str renaming occurrences→DB,strSliceIndices→D7,strKind→El,partsBetween→UU
open ForInStep renaming yield→DJ
open PySem.Txt renaming split→DL,join→DS
open PySem.Calls renaming evalArgs_plain→D9,Name_function_global→UV,callWith_builtin→UW
open True renaming intro→ET
open Classical renaming choose_spec→Fn
open PySem.SeqAt renaming EqAt→Fv,RcNeAt→HX,RcAt→Jg
open Array renaming length_toList→FF,toList→HQ,find?_toList→T8,getElem?_eq_getElem→T9,mem_toList_iff→Ua
open PySem.Code renaming quiet_builtin→F0,isFrame→HV,frames→UX
open Sum renaming inl→Gr,inr→Gs
open PySem.Around renaming under→HU
open NeZero renaming ne→JX
open PyProof.Rows.IsTup renaming new→JY
open PySem.Data renaming cell→JZ,seq→J5
open Prod renaming ext→J4
open PySem.Builtin.Int renaming intBits→UR
open PySem.Builtin.ObjectAttr renaming storeInDict→US
open PySem.EntryCells renaming newEntry→UY
open PySem.Expr renaming Attribute→UZ,BinOp→U_1,BoolOp→U_3,Call→U_5,Compare→U_7,Constant→U_9,List→Vb,ListComp→Vd,Name→Vf,Slice→Vh,Subscript→Vj,Tuple→Vl,UnaryOp→Vn
open PySem.Expr.Attribute renaming elim→U_0
open PySem.Expr.BinOp renaming elim→U_2
open PySem.Expr.BoolOp renaming elim→U_4
open PySem.Expr.Call renaming elim→U_6
open PySem.Expr.Compare renaming elim→U_8
open PySem.Expr.Constant renaming elim→Va
open PySem.Expr.List renaming elim→Vc
open PySem.Expr.ListComp renaming elim→Ve
open PySem.Expr.Name renaming elim→Vg
open PySem.Expr.Slice renaming elim→Vi
open PySem.Expr.Subscript renaming elim→Vk
open PySem.Expr.Tuple renaming elim→Vm
open PySem.Expr.UnaryOp renaming elim→Vo
open PySem.Heap.Ns1 renaming of_empty→VA
open PySem.Heap.SameBut renaming update→VB
open PySem.Paired renaming length→VG
open PySem.SeqAt.EqAt renaming of_refs→VJ,same→VL
open PySem.Stmt renaming Assign→VM,Expr→VO,Raise→VS,Return→VU,While→VW
open PySem.Stmt.Assign renaming elim→VN
open PySem.Stmt.Expr renaming elim→VP
open PySem.Stmt.For renaming elim→VQ
open PySem.Stmt.If renaming elim→VR
open PySem.Stmt.Raise renaming elim→VT
open PySem.Stmt.Return renaming elim→VV
open PySem.Stmt.While renaming elim→VY
open PySem.W.WData renaming int→V0
open PySem.W.WShape renaming has→V1
open PySem.Walks renaming list→Wd
abbrev Fg:=PySem.W.Frag
abbrev Pn:=Ac (PySem.Addr×PySem.Obj)
abbrev Vq:=PySem.Value->PySem.Shared->Prop
set_option genSizeOfSpec false
-- CHANGE: your row's module here,as the last of these rows
namespace L2
open PySem PySem.Spec PyProof.Rows
abbrev Key:=Sum Ah Ag
noncomputable def S4:Key->Aj->Ai
 |.inl k,v=>Value.isInt k v
 |.inr x,v=>Value.isStrOf x v
noncomputable def nJ(w:AT):Key->Ah
 |.inl k=>hashInt k
 |.inr x=>hashStr w x
theorem Hu:∀{k:Key}{v:Aj},S4 k v=Ab->(∃ i t,k=Gr i/\v=HY i t)\/(∃ x t,k=Gs x/\v=HZ x t)
 |.inl i,v,h=>by
  obtain⟨t,e⟩:=Value.isInt_shape (k:=i) (v:=v) h;exact .inl ⟨i,t,rfl,e⟩
 |.inr x,v,h=>by
  obtain⟨t,e⟩:=Value.isStrOf_shape (x:=x) (v:=v) h;exact .inr ⟨x,t,rfl,e⟩
theorem gK(a b:Ah):decide ((Gr a:Key)=Gr b)=(a==b):=by
 by_cases e:a=b
 .subst e;simp
 .have h:¬ (Gr a:Key)=Gr b:=λq=>e (Sum.inl.inj q)
  rw[Cq h];exact(Cr.mpr e).symm
theorem gG(a b:Ag):decide ((Gs a:Key)=Gs b)=decide (a=b):=by
 by_cases e:a=b
 .subst e;simp
 .have h:¬ (Gs a:Key)=Gs b:=λq=>e (Sum.inr.inj q)
  rw[Cq h,Cq e]
theorem gJ(a:Ah)(b:Ag):decide ((Gr a:Key)=Gs b)=Ad:=Cq (λq=>nomatch q)
theorem gH(a:Ag)(b:Ah):decide ((Gs a:Key)=Gr b)=Ad:=Cq (λq=>nomatch q)
noncomputable def Np(prog:AJ)(w:AT):PySem.KeyKind prog w Key where
 is:=S4
 hash:=nJ w
 inj:=λv a b ha hb=>by
  rcases Hu ha with ⟨i,t,rfl,rfl⟩|⟨x,t,rfl,rfl⟩
  .rcases Hu hb with ⟨j,u,rfl,e⟩|⟨y,u,rfl,e⟩
   .injection e with e1 _;rw[e1]
   .exact nomatch e
  .rcases Hu hb with ⟨j,u,rfl,e⟩|⟨y,u,rfl,e⟩
   .exact nomatch e
   .injection e with e1 _;rw[e1]
 byValue:=λk v h=>by
  rcases Hu h with ⟨i,t,rfl,rfl⟩|⟨x,t,rfl,rfl⟩<;>rfl
 pyHash:=λhv h=>by
  rcases Hu hv with ⟨i,t,rfl,rfl⟩|⟨x,t,rfl,rfl⟩
  .exact wpAny_pyHash_int h
  .exact wpAny_pyHash_str h
 eqBool:=λhu hv h=>by
  rcases Hu hu with ⟨i,t,rfl,rfl⟩|⟨x,t,rfl,rfl⟩
  .rcases Hu hv with ⟨j,u,rfl,rfl⟩|⟨y,u,rfl,rfl⟩
   .rw[gK]at h;exact wpAny_eqBool_int h
   .rw[gJ]at h;exact SeqAt.EqAt.int_str i t y u _ _ _ _ h
  .rcases Hu hv with ⟨j,u,rfl,rfl⟩|⟨y,u,rfl,rfl⟩
   .rw[gH]at h;exact SeqAt.EqAt.str_int x t j u _ _ _ _ h
   .rw[gG]at h;exact wpAny_eqBool_str h
 «strs»:=λk x t v h=>by
  rcases Hu h with ⟨i,u,rfl,e⟩|⟨y,u,rfl,e⟩
  .exact nomatch e
  .injection e with e1 _
   subst e1;cases v<;>rfl
end L2
namespace L2
open PySem PySem.Spec PyProof.Rows
variable{us:Ac Aj}{a b it dx C:Ak}{P:AJ}{h:AB}{o:Cz}{g':A4 DR}{t' i k n:Af}{d':GQ}{ch fp:Ac Ak}{x qual:Ag}{M:FX}{u:Aj}{Q:DC->Ao->Prop}{e c tg:Am}{s:Ao}{pos p:Az}{pI:Pn}{es:Ac Am}{body:Ac AD}{f:Aj->Aj->EY Aj}{g:Ah->Ah->Ah}{op:CJ}{mA:Ag->An Aj}{pl:EY Ai}{kw:Ac (Ag×Aj)}{fd:Bq}{ps:Ac Ag}{scope:BL}
inductive V where
 |non|bl (b:Ai)|int (i:Ah)|str (x:Ag)|byt (b:A4 UInt8)|flt (b:UInt64)|ref (a:Ak)|ty (n:Cv)
 deriving DecidableEq
variable{xs vs:Ac V}{v y:V}
def Bi:V->Aj->Prop
 |.non,u=>u=CZ
 |.bl b,u=>u=Hk b
 |.int i,u=>∃ t,u=HY i t
 |.str x,u=>∃ t,u=HZ x t
 |.byt b,u=>∃ t,u=VZ b t
 |.flt b,u=>∃ t,u=IE b t
 |.ref a,u=>u=Bb a
 |.ty n,u=>u=Ji n
noncomputable abbrev AX:Ac V->Ac Aj->Prop:=GC Bi
theorem AX.length(r:AX xs us):xs.length=us.length:=VG r
theorem AX.get:∀{xs:Ac V}{us:Ac Aj}{i:Af}{x:V},AX xs us->xs[i]?=Aa x->∃ u,us[i]?=Aa u/\Bi x u
 |_,_,_,_,.nil,e=>by simp at e
 |_,_,0,_,.cons r _,e=>by simp at e;subst e;exact⟨_,rfl,r⟩
 |_,_,i+1,x,.cons _ t,e=>by
  obtain⟨u,h1,h2⟩:=AX.get (i:=i) (x:=x) t (by simpa using e)
  exact⟨u,by simpa using h1,h2⟩
theorem AX.set{x:V}{u:Aj}(r:Bi x u):∀{xs:Ac V}{us:Ac Aj}(i:Af),AX xs us->AX (xs.set i x) (us.set i u)
 |_,_,_,.nil=>.nil
 |_,_,0,.cons _ t=>.cons r t
 |_,_,i+1,.cons q t=>.cons q (AX.set r i t)
theorem AX.append:∀{xs ys:Ac V}{us ws:Ac Aj},AX xs us->AX ys ws->AX (xs++ys) (us++ws)
 |_,_,_,_,.nil,s=>s
 |_,_,_,_,.cons r t,s=>.cons r (AX.append t s)
theorem AX.take:∀{xs:Ac V}{us:Ac Aj}(n:Af),AX xs us->AX (xs.take n) (us.take n)
 |_,_,0,_=>.nil
 |_,_,_+1,.nil=>.nil
 |_,_,n+1,.cons r t=>.cons r (AX.take n t)
theorem AX.drop:∀{xs:Ac V}{us:Ac Aj}(n:Af),AX xs us->AX (xs.drop n) (us.drop n)
 |_,_,0,r=>r
 |_,_,_+1,.nil=>.nil
 |_,_,n+1,.cons _ t=>AX.drop n t
def GM:An V->An Aj->Prop
 |some v,Aa u=>Bi v u
 |none,Ae=>GH
 |_,_=>AV
def KV{κ:Type}:Ac (κ×V)->Ac (κ×Aj)->Prop:=GC fun(p:κ×V)(q:κ×Aj)=>p.1=q.1/\Bi p.2 q.2
noncomputable def kV:Key->V
 |.inl i=>.int i
 |.inr x=>.str x
inductive HO where
 /-- a list -/
 |lst (xs:Ac V)
 /-- a tuple (never changes) -/
 |tup (xs:Ac V)
 /-- a dict whose keys are ints and texts;one whose keys are tuples of ints and texts (the empty one is both) -/
 |dK (kvs:Ac (Key×V))|dT (kvs:Ac (Ac Key×V))
 /-- a set of ints: its members,its size -/
 |set (S:Ah->Ai) (n:Af)
 /-- an instance of the class at C,its dict at dx,its attributes -/
 |ins (C dx:Ak) (fs:Ac (Ag×V))
 /-- the dict of the instance at x -/
 |own (x:Ak)
 /-- the dict of an exception -/
 |xd (fs:Ac (Ag×V))
 /-- a bound method,f of x -/
 |met (f x:Ak)
 /-- a range object lo,lo+1,.. below hi -/
 |rng (lo hi:Ah)
 /-- a thing that is known to the object (the script;a dict while a loop walks it): read,never written while it is so -/
 |frz (o:Cz) (u:HO)
 /-- a code object's table -/
 |tbl (ps:A4 Aj)
 /-- any other thing,by what is Ab of its one object (a def of one's own: SetO a S n:=HO.ext fun h=>..) -/
 |ext (φ:AB->Prop)
abbrev Hp:=Ak->An HO
variable{H:Hp}
noncomputable def upd(H:Hp)(a:Ak)(o:HO):Hp:=λb=>if b=a then Aa o else H b
theorem Dh{o:HO}:upd H a o a=Aa o:=by unfold upd;rw[AA rfl]
theorem A6{o:HO}(h:b≠a):upd H a o b=H b:=by unfold upd;rw[AH h]
theorem Nz{o u:HO}:upd (upd H a o) a u=upd H a u:=by
 funext b;unfold upd;split<;>rfl
theorem E4{o:HO}(h:H a=Aa o)(h':H b=Ae):a≠b:=by
 intro e;subst e;rw[h]at h';cases h'
section
variable(P:AJ)(w:AT)
def ObjOk(H:Hp)(h:AB)(a:Ak):HO->Prop
  |.lst xs=>xs.length<=sizeLine/\∃(its:Ac Aj)(n:Af),AX xs its/\h.get? a=Aa { cls:=.type "list",data:=.seq its.toArray n }
  |.tup xs=>xs.length<=sizeLine/\∃ its:Ac Aj,AX xs its/\Je h a its.toArray
  |.dK kvs=>kvs.length<=sizeLine/\(a==Jk)=Ad/\∃ vs,KV kvs vs/\h.DictOf (Np P w) a vs
  |.dT kvs=>kvs.length<=sizeLine/\(a==Jk)=Ad/\∃ xs:Ac (Ac Key×Ak×Aj),
      GC (fun(p:Ac Key×V)(q:Ac Key×Ak×Aj)=>p.1=q.1/\H q.2.1=Aa (.tup (p.1.map kV))/\Bi p.2 q.2.2) kvs xs /\
      ∃ o es ep,h.get? a=Aa o/\o.ExactDict/\o.data=.dict es ep/\es.toList=xs.map (entryOfKey (tupleKind (Np P w)))/\(xs.map (·.1)).Nodup
  |.set S n=>h.SetOf (intKind P w) a S n
  |.ins C dx fs=>H dx=Aa (.own a)/\fs.length<=1000/\dx≠a/\h.get? a=Aa (CM C dx) /\
      ∃ mA,h.Ns1 dx mA/\(∀ f,GM (fs.lookup f) (mA f))/\H9 mA (fs.map (·.1))
  |.own _=>∃ o,h.get? a=Aa o
  |.xd fs=>∃ mA,h.Ns1 a mA/\∀ f,GM (fs.lookup f) (mA f)
  |.rng lo hi=>∃ t u v,h.get? a=Aa { cls:=.type "range",data:=.fields #[.int lo t,.int hi u,.int 1 v] }
  |.frz o u=>h.get? a=Aa o/\ObjOk H h a u
  |.tbl ps=>h.get? a=Aa {cls:=.none,data:=.fields ps}
  |.met f x=>h.get? a=Aa (Gj (.ref f) (.ref x))
  |.ext φ=>φ h/\(∃ o,h.get? a=Aa o)/\∀ h1 h2:AB,φ h1->(∀ o,h1.get? a=Aa o->h2.get? a=Aa o)->φ h2
def HOk(H:Hp)(h:AB):Prop:=∀ a o,H a=Aa o->ObjOk P w H h a o
end
section
variable{P:AJ}{w:AT}{H H':Hp}{h h':AB}{a:Ak}{o:HO}
theorem ObjOk.lt(x:ObjOk P w H h a o):a<h.objs.size:=by
 cases o with
 |lst xs=>obtain⟨_,_,_,_,e⟩:=x;exact AE e
 |tup xs=>obtain⟨_,_,_,p⟩:=x;exact p.lt
 |dK kvs=>obtain⟨_,_,_,_,o,_,_,e,_⟩:=x;exact AE e
 |dT kvs=>obtain⟨_,_,_,_,o,_,_,e,_⟩:=x;exact AE e
 |set S n=>obtain⟨o,_,_,_,e,_⟩:=x;exact AE e
 |ins C dx fs=>obtain⟨_,_,_,e,_⟩:=x;exact AE e
 |own y=>obtain⟨_,e⟩:=x;exact AE e
 |xd fs=>obtain⟨_,⟨_,_,_,e,_⟩,_⟩:=x;exact AE e
 |rng lo hi=>obtain⟨_,_,_,e⟩:=x;exact AE e
 |frz ob u=>obtain⟨e,_⟩:=x;exact AE e
 |tbl ps=>exact AE (show h.get? a=Aa _ from x)
 |met f y=>exact AE (show h.get? a=Aa _ from x)
 |ext φ=>obtain⟨_,⟨_,e⟩,_⟩:=x;exact AE e
theorem GC.mapP{α β:Type}{F G:α->β->Prop}:∀{l₁:Ac α}{l₂:Ac β},GC F l₁ l₂->(∀ a b,F a b->G a b)->GC G l₁ l₂
 |_,_,.nil,_=>.nil
 |_,_,.cons r t,f=>.cons (f _ _ r) (GC.mapP t f)
theorem ObjOk.stay(x:ObjOk P w H h a o)(k:∀ b u,(b=a\/H b=Aa (.own a))->h.get? b=Aa u->h'.get? b=Aa u)(ho:∀ b,H b=Aa (.own a)->H' b=Aa (.own a))(ht:∀ b xs,H b=Aa (.tup xs)->H' b=Aa (.tup xs)):ObjOk P w H' h' a o:=by
 induction o with
 |lst xs=>obtain⟨z,its,n,r,e⟩:=x;exact⟨z,its,n,r,k _ _ (.inl rfl) e⟩
 |tup xs=>obtain⟨z,its,r,ob,e,c⟩:=x;exact⟨z,its,r,ob,k _ _ (.inl rfl) e,c⟩
 |dK kvs=>obtain⟨z,y,vs,r,ob,es,ep,e,c⟩:=x;exact⟨z,y,vs,r,ob,es,ep,k _ _ (.inl rfl) e,c⟩
 |dT kvs=>
  obtain⟨z,y,xs,r,ob,es,ep,e,c⟩:=x;exact⟨z,y,xs,GC.mapP r λp q z=>⟨z.1,ht _ _ z.2.1,z.2.2⟩,ob,es,ep,k _ _ (.inl rfl) e,c⟩
 |set S n=>obtain⟨ob,es,ep,t,e,c⟩:=x;exact⟨ob,es,ep,t,k _ _ (.inl rfl) e,c⟩
 |ins C dx fs=>
  obtain⟨d,z,ne,e,mA,⟨od,es,ep,e2,c⟩,r⟩:=x;exact⟨ho _ d,z,ne,k _ _ (.inl rfl) e,mA,⟨od,es,ep,k _ _ (.inr d) e2,c⟩,r⟩
 |own y=>obtain⟨ob,e⟩:=x;exact⟨ob,k _ _ (.inl rfl) e⟩
 |xd fs=>obtain⟨mA,⟨od,es,ep,e,c⟩,r⟩:=x;exact⟨mA,⟨od,es,ep,k _ _ (.inl rfl) e,c⟩,r⟩
 |rng lo hi=>obtain⟨t,u,v,e⟩:=x;exact⟨t,u,v,k _ _ (.inl rfl) e⟩
 |frz ob u ih=>obtain⟨e,q⟩:=x;exact⟨k _ _ (.inl rfl) e,ih q⟩
 |tbl ps=>
  have e:h.get? a=Aa {cls:=.none,data:=.fields ps}:=x;show h'.get? a=Aa {cls:=.none,data:=.fields ps};exact k a _ (.inl rfl) e
 |met f y=>
  have e:h.get? a=Aa (Gj (.ref f) (.ref y)):=x;show h'.get? a=Aa (Gj (.ref f) (.ref y));exact k a _ (.inl rfl) e
 |ext φ=>obtain⟨p,⟨o,e⟩,st⟩:=x;exact⟨st _ _ p λo q=>k _ _ (.inl rfl) q,⟨o,k _ _ (.inl rfl) e⟩,st⟩
theorem HOk.lt(x:HOk P w H h)(e:H a=Aa o):a<h.objs.size:=(x a o e).lt
theorem HOk.fresh(x:HOk P w H h)(e:h.objs.size<=a):H a=Ae:=by
 cases q:H a with
 |none=>rfl
 |some u=>exact absurd (AL (x.lt q) e) (Bg _)
theorem HOk.kept(x:HOk P w H h)(k:∀ b u,h.get? b=Aa u->h'.get? b=Aa u):HOk P w H h':=λa o e=>
 (x a o e).stay (λb u _ q=>k b u q) (λ_ q=>q) λ_ _ q=>q
theorem HOk.laid(x:HOk P w H h)(k:∀ b u,h.get? b=Aa u->h'.get? b=Aa u)(hp:h.objs.size<=a)(new:ObjOk P w (upd H a o) h' a o):HOk P w (upd H a o) h':=λb u e=>by
 have hn:=x.fresh hp;by_cases hb:b=a
 .subst hb;rw[Dh]at e;cases e;exact new
 .rw[A6 hb]at e;exact(x b u e).stay (λc v _ q=>k c v q) (λc q=>by rw[A6 (E4 q hn)];exact q) λc xs q=>by rw[A6 (E4 q hn)];exact q
end
def Rd(H:Hp)(a:Ak)(u:HO):Prop:=H a=Aa u\/∃ o,H a=Aa (.frz o u)
theorem Rd.ok{w:AT}{u:HO}(r:Rd H a u)(x:HOk P w H h):ObjOk P w H h a u:=by
 rcases r with r|⟨o,r⟩
 .exact x a u r
 .obtain⟨_,q⟩:=x a _ r;exact q
def Mut:An HO->Prop
 |some (.lst _)=>GH
 |some (.dK _)=>GH
 |some (.dT _)=>GH
 |some (.set _ _)=>GH
 |some (.ins _ _ _)=>GH
 |some (.ext _)=>GH
 |_=>AV
section
variable{P:AJ}{w:AT}{H:Hp}{h h':AB}{x e:Ak}{o':HO}
theorem HOk.write(ok:HOk P w H h)(mu:Mut (H x))(he:e=x\/H e=Aa (.own x))(k:∀ b u,b≠e->h.get? b=Aa u->h'.get? b=Aa u)(heo:∃ u,h'.get? e=Aa u)(new:ObjOk P w (upd H x o') h' x o'):HOk P w (upd H x o') h':=λb u q=>by
 have nown:∀ c y,H c=Aa (.own y)->c≠x:=λc y r z=>by subst z;rw[r]at mu;exact mu
 have ntup:∀ c xs,H c=Aa (.tup xs)->c≠x:=λc xs r z=>by subst z;rw[r]at mu;exact mu
 by_cases hb:b=x
 .subst hb;rw[Dh]at q;cases q;exact new
 .rw[A6 hb]at q;by_cases hbe:b=e
  .have q':H b=Aa (.own x):=by
    rcases he with z|z
    .exact absurd (hbe.trans z) hb
    .rw[hbe];exact z
   rw[q]at q';cases q';obtain⟨v,hv⟩:=heo;exact⟨v,by rw[hbe];exact hv⟩
  .refine(ok b u q).stay (λc v hc r=>k c v ?_ r) (λc r=>by rw[A6 (nown c b r)];exact r) λc xs r=>by rw[A6 (ntup c xs r)];exact r
   rcases hc with rfl|hc
   .exact hbe
   .rintro rfl;rcases he with z|z
    .exact nown c b hc z
    .rw[hc]at z;cases z;exact hb rfl
end
structure Un (fs ex:Ac Ak) (H H':Hp) (h h':AB):Prop where
 keep:∀ b o,h.get? b=Aa o->H b=Ae->b∉fs->b∉ex->h'.get? b=Aa o
 slot:∀ b o,h.get? b=Aa o->H b=Ae->b∈fs->b∉ex->∃ sl,h'.get? b=Aa {o with slots:=sl}
 free:∀ b o,h.get? b=Aa o->H b=Ae->b∉ex->H' b=Ae
 there:∀ b o,h.get? b=Aa o->b∉ex->∃ o',h'.get? b=Aa o'
 tups:∀ b xs,H b=Aa (.tup xs)->H' b=Aa (.tup xs)
 frzs:∀ b o u,H b=Aa (.frz o u)->H' b=Aa (.frz o u)
 tbls:∀ b ps,H b=Aa (.tbl ps)->∃ more,H' b=Aa (.tbl (ps++more))
section
variable{fs fs' ex ex':Ac Ak}{H H1 H2:Hp}{h h1 h2 h':AB}{a x e:Ak}{o:HO}
theorem Un.any(u:Un fs ex H H1 h h1){ob:Cz}(q:h.get? b=Aa ob)(n:H b=Ae)(hx:b∉ex):∃ sl,h1.get? b=Aa {ob with slots:=sl}:=by
 by_cases hb:b∈fs
 .exact u.slot b ob q n hb hx
 .exact⟨ob.slots,u.keep b ob q n hb hx⟩
theorem Un.kept(k:∀ b u,h.get? b=Aa u->h'.get? b=Aa u):Un fs ex H H h h':=
 ⟨λb ob q _ _ _=>k b ob q,λb ob q _ _ _=>⟨ob.slots,k b ob q⟩,λ_ _ _ n _=>n,λb ob q _=>⟨ob,k b ob q⟩,λ_ _ q=>q,λ_ _ _ q=>q,λ_ ps q=>⟨#[],by rw[q];simp⟩⟩
theorem Un.refl:Un fs ex H H h h:=Un.kept λ_ _ q=>q
theorem Un.laid(k:∀ b u,h.get? b=Aa u->h'.get? b=Aa u)(hp:h.objs.size<=a)(hn:H a=Ae):Un fs ex H (upd H a o) h h' where
 keep:=λb u q _ _ _=>k b u q
 slot:=λb u q _ _ _=>⟨u.slots,k b u q⟩
 free:=λb u q n _=>by rw[A6 (A9 (AL (AE q) hp))];exact n
 there:=λb u q _=>⟨u,k b u q⟩
 tups:=λb xs q=>by rw[A6 (E4 q hn)];exact q
 frzs:=λb u xs q=>by rw[A6 (E4 q hn)];exact q
 tbls:=λb ps q=>⟨#[],by rw[A6 (E4 q hn),q];simp⟩
theorem Un.write(mu:Mut (H x))(he:e=x\/H e=Aa (.own x))(k:∀ b u,b≠e->h.get? b=Aa u->h'.get? b=Aa u)(heo:∃ u,h'.get? e=Aa u):Un fs ex H (upd H x o) h h':=by
 have hx:∀ b,H b=Ae->b≠x:=λb n z=>by subst z;rw[n]at mu;exact mu
 have hb:∀ b,H b=Ae->b≠e:=λb n z=>by
  subst z;rcases he with r|r
  .exact hx b n r
  .rw[n]at r;cases r
 have hm:∀ b u,H b=Aa u->¬ Mut (Aa u)->b≠x:=λb u q nm z=>by subst z;rw[q]at mu;exact nm mu
 refine⟨λb u q n _ _=>k b u (hb b n) q,λb u q n _ _=>⟨u.slots,k b u (hb b n) q⟩,λb u q n _=>by rw[A6 (hx b n)];exact n,λb u q _=>?_,
  λb xs q=>by rw[A6 (hm b _ q λz=>z)];exact q,λb u xs q=>by rw[A6 (hm b _ q λz=>z)];exact q,λb ps q=>⟨#[],by rw[A6 (hm b _ q λz=>z),q];simp⟩⟩
 by_cases hbe:b=e
 .subst hbe;exact heo
 .exact⟨u,k b u hbe q⟩
end
noncomputable def trk(h:AB)(H:Hp):Ac Ak:=(B6 h.objs.size).filter λa=>(H a).isSome
noncomputable def HK(h:AB)(H:Hp):AB:=PySem.W.hideAll h (trk h H)
theorem Xu(h:AB)(H:Hp):(HK h H).objs.size=h.objs.size:=PySem.W.hideAll_size _ _
theorem YB(e:h.get? b=Aa o)(n:H b=Ae):(HK h H).get? b=Aa o:=
 PySem.W.hideAll_get _ e λhm=>by
  have q:(H b).isSome=Ab:=(List.mem_filter.mp hm).2;rw[n]at q;simp at q
theorem ZP(e:(HK h H).get? b=Aa o):h.get? b=Aa o/\H b=Ae:=by
 have e':h.get? b=Aa o:=PySem.W.of_hideAll (trk h H) e;refine⟨e',?_⟩;cases q:H b with
 |none=>rfl
 |some x=>
  have hm:b∈trk h H:=List.mem_filter.mpr ⟨CB.mpr (AE e'),by simp[q]⟩
  have z:(HK h H).get? b=Ae:=PySem.W.hideAll_none (trk h H) hm;rw[z]at e;cases e
noncomputable def aI(g h:AB)(L:Ak):Pn:=(B6 h.objs.size).filterMap λa=>if a=L\/(g.get? a).isSome=Ab then Ae else (h.get? a).map λo=>(a,o)
noncomputable def rest(g h:AB)(L d:Ak):Pn:=(aI g h L).filter λp=>decide (p.1≠d)
structure Mod (K:Fg) (mg:Ag->An Aj) (base:AB):Prop where
 kin:K.In base
 glob:base.Ns AQ mg
 blt:∃ mb,base.Ns Ho mb/\∀ x:Ag,x≠"__name__"->mb x=Cu x
 nolimit:base.NoLimit
structure Cx where
 prog:AJ
 w:AT
 K:Fg
 mg:Ag->An Aj
 base:AB
 A:AR
 N:Ac Ag
 s₀:Ao
 H₀:Hp
 env:B2
 outer:Ac B2
 stack:Ac B2
 ex:Ac Ak
 fn:Ag->Ai
 calm:Ai
 pn:Pn
 xe:Aj->Ao->Prop
variable{X:Cx}
noncomputable def frs(l:Ac B2):Ac Ak:=l.filterMap (·.frame)
noncomputable abbrev Cx.fs(X:Cx):Ac Ak:=frs X.outer
def Vis(sc:BL)(x:Ag):Prop:=sc.names.lookup x=Aa .local\/sc.names.lookup x=Aa .cell\/sc.names.lookup x=Aa .free
def Loc(sc:BL)(x:Ag):Prop:=sc.names.lookup x=Aa .local\/sc.names.lookup x=Aa .cell
noncomputable def oG(env:B2)(h:AB)(m:Ag->An Aj)(x:Ag)(u:Aj):Prop:=
 (env.kindOf x=Aa .local/\m x=Aa u)\/((env.kindOf x=Aa .cell\/env.kindOf x=Aa .free)/\∃ c,env.cells.lookup x=Aa c/\h.IsCell c (Aa u))
structure Cx.Ok (X:Cx):Prop where
 mod:Mod X.K X.mg X.base
 kind:X.env.scope.kind=.function
 glob:X.env.globals=AQ
 blt:X.env.builtins=Ho
 above:X.s₀.heap.objs.size<=X.env.locals
 inj:∀ x y c,X.env.cells.lookup x=Aa c->X.env.cells.lookup y=Aa c->x=y
 has:∀ x,(X.env.kindOf x=Aa .cell\/X.env.kindOf x=Aa .free)->∃ c,X.env.cells.lookup x=Aa c
 cab:∀ x c,X.fn x=Ab->X.env.cells.lookup x=Aa c->X.s₀.heap.objs.size<=c
 hd:X.calm=Ab->X.A.handled=Ae
 frames:X.A.frames=Aa X.stack
 stk:X.stack=X.outer\/(X.stack=X.env::X.outer/\X.env.frame=Aa X.env.locals)
 exf:∀ b∈X.ex,b≠X.env.locals/\∀ x c,X.env.cells.lookup x=Aa c->c≠b
 bs:∀ b o,X.base.get? b=Aa o->X.s₀.heap.get? b=Aa o/\X.H₀ b=Ae
 bsz:X.base.objs.size<=X.s₀.heap.objs.size
 noex:∀ b o,X.base.get? b=Aa o->b∉X.ex
 exfs:∀ b∈X.ex,b∉X.fs
 funs:X.s₀.heap.FunFrames X.base X.outer
 frf:∀ b∈X.fs,X.H₀ b=Ae
structure Inv (X:Cx) (pI:Pn) (Y:Ac (An V)) (H:Hp) (s:Ao):Prop where
 ok:X.Ok
 os:s.os=X.s₀.os
 bare:EN s.gens
 base:Un X.fs X.ex X.H₀ H X.s₀.heap s.heap
 loc:∃ m,s.heap.Ns X.env.locals m/\∀(i:Af)(x:Ag)(v:V),X.N[i]?=Aa x->Y[i]?=Aa (Aa v)->Vis X.env.scope x->∃ u,Bi v u/\oG X.env s.heap m x u
 cell:∀ x c,X.env.cells.lookup x=Aa c->∃ v,s.heap.IsCell c v
 free:H X.env.locals=Ae
 freeC:∀ x c,X.env.cells.lookup x=Aa c->H c=Ae
 pin:∀ p∈X.pn++pI,s.heap.get? p.1=Aa p.2/\H p.1=Ae/\p.1≠X.env.locals/\p.1∉X.fs/\∀ v,p.2.data≠.cell v
 hok:HOk X.prog X.w H s.heap
 len:Y.length=X.N.length
section
variable{X:Cx}{pI:Pn}{Y:Ac (An V)}{H H':Hp}{s:Ao}{h':AB}
theorem Cx.Ok.nofr(ok:X.Ok)(e:X.base.get? b=Aa o):b∉X.fs:=λhb=>by
 have:=(ok.funs.mem hb).1;rw[e]at this;cases this
theorem Inv.bs(I:Inv X pI Y H s):∀ b o,X.base.get? b=Aa o->s.heap.get? b=Aa o/\H b=Ae:=λb o e=>
 ⟨I.base.keep b o (I.ok.bs b o e).1 (I.ok.bs b o e).2 (I.ok.nofr e) (I.ok.noex b o e),I.base.free b o (I.ok.bs b o e).1 (I.ok.bs b o e).2 (I.ok.noex b o e)⟩
theorem Inv.bk(I:Inv X pI Y H s):∀ b o,X.base.get? b=Aa o->s.heap.get? b=Aa o:=λb o e=>(I.bs b o e).1
theorem Inv.mod(I:Inv X pI Y H s):Mod X.K X.mg X.base:=I.ok.mod
theorem Inv.kIn(I:Inv X pI Y H s):X.K.In s.heap:=I.ok.mod.kin.keeps I.bk
theorem Inv.lt(I:Inv X pI Y H s):X.env.locals<s.heap.objs.size:=let ⟨_,hn,_⟩:=I.loc;hn.lt
theorem Inv.sz(I:Inv X pI Y H s):X.s₀.heap.objs.size<=s.heap.objs.size:=Bw I.ok.above (Fu I.lt)
theorem Inv.nofs(I:Inv X pI Y H s)(h:s.heap.objs.size<=a):a∉X.fs:=λhb=>by
 obtain⟨_,o,ho,_⟩:=I.ok.funs.mem hb;exact absurd (AL (AE ho) (Bw I.sz h)) (Bg _)
theorem Inv.cne(I:Inv X pI Y H s):∀ x c,X.env.cells.lookup x=Aa c->c≠X.env.locals:=λx c e z=>by
 obtain⟨v,o,ho,hd⟩:=I.cell x c e;obtain⟨m,⟨o',es,ep,ho',hd',_⟩,_⟩:=I.loc;rw[z,ho']at ho;cases ho;rw[hd']at hd;cases hd
theorem Inv.funs(I:Inv X pI Y H s):s.heap.FunFrames X.base X.outer:=by
 have all:∀(l:Ac B2),(∀ b∈frs l,b∈X.fs)->X.s₀.heap.FunFrames X.base l->s.heap.FunFrames X.base l:=by
  intro l
  induction l with
  |nil=>intro _ _;trivial
  |cons env r ih=>
   intro hs hl;obtain⟨hk,⟨L,o,hf,hn,ho,hd⟩,hr⟩:=hl;have hL:L∈X.fs:=hs L (by unfold frs;rw[FG,hf];exact AC)
   obtain⟨sl,e⟩:=I.base.slot L o ho (I.ok.frf L hL) hL λz=>I.ok.exfs L z hL
   exact⟨hk,⟨L,_,hf,hn,e,hd⟩,ih (λb hb=>hs b (by unfold frs;rw[FG,hf];exact Aw _ hb)) hr⟩
 exact all X.outer (λ_ hb=>hb) I.ok.funs
theorem Inv.stack(I:Inv X pI Y H s):s.heap.FunFrames X.base X.stack:=by
 rcases I.ok.stk with e|⟨e,hf⟩
 .rw[e];exact I.funs
 .rw[e];obtain⟨m,hn,_⟩:=I.loc;refine .cons (by rw[I.ok.kind];decide) hf hn ?_ I.funs
  exact CK (Bw I.ok.bsz I.ok.above)
theorem Inv.stkSub(I:Inv X pI Y H s):∀ b∈frs X.stack,b∈X.env.locals::X.fs:=λb hb=>by
 rcases I.ok.stk with e|⟨e,hf⟩
 .rw[e]at hb;exact Aw _ hb
 .rw[e]at hb;unfold frs at hb;rw[FG,hf]at hb;exact hb
theorem Inv.stkFree(I:Inv X pI Y H s):∀ b∈frs X.stack,H b=Ae:=λb hb=>by
 rcases AG.mp (I.stkSub b hb) with e|hb
 .rw[e];exact I.free
 .obtain⟨_,o,ho,_⟩:=I.ok.funs.mem hb;exact I.base.free b o ho (I.ok.frf b hb) λz=>I.ok.exfs b z hb
theorem Inv.step(I:Inv X pI Y H s)(hch:∀ b∈ch,(b∈X.ex\/X.s₀.heap.objs.size<=b)/\b≠X.env.locals/\(∀ x c,X.env.cells.lookup x=Aa c->c≠b)/\∀ p∈X.pn++pI,p.1≠b)(keep:∀ b o,b≠X.env.locals->b∉X.fs->b∉ch->s.heap.get? b=Aa o->H b=Ae->h'.get? b=Aa o)(slot:∀ b o,b≠X.env.locals->b∈X.fs->b∉ch->s.heap.get? b=Aa o->H b=Ae->∃ sl,h'.get? b=Aa {o with slots:=sl})(free:∀ b o,b∉ch->s.heap.get? b=Aa o->H b=Ae->H' b=Ae)(there:∀ b o,b∉ch->s.heap.get? b=Aa o->∃ o',h'.get? b=Aa o')(tups:∀ b xs,H b=Aa (.tup xs)->H' b=Aa (.tup xs))(frzs:∀ b o u,H b=Aa (.frz o u)->H' b=Aa (.frz o u))(tbls:∀ b ps,H b=Aa (.tbl ps)->∃ more,H' b=Aa (.tbl (ps++more)))(ns:∀ m,s.heap.Ns X.env.locals m->h'.Ns X.env.locals m)(hok:HOk X.prog X.w H' h')(hg:EN g'):Inv X pI Y H' {s with heap:=h',gens:=g',drawn:=d',toks:=t'}:=by
 have neL:∀ b o,X.s₀.heap.get? b=Aa o->b≠X.env.locals:=λb o e=>A9 (AL (AE e) I.ok.above)
 have neC:∀ b o,X.s₀.heap.get? b=Aa o->b∉X.ex->b∉ch:=λb o e hx hb=>by
  rcases (hch b hb).1 with z|z
  .exact hx z
  .exact absurd (AL (AE e) z) (Bg _)
 have cellK:∀ x c,X.env.cells.lookup x=Aa c->∀ v,s.heap.IsCell c v->h'.IsCell c v:=λx c e v ⟨o,ho,hd⟩=>by
  have nch:c∉ch:=λz=>(hch c z).2.2.1 x c e rfl
  by_cases hc:c∈X.fs
  .obtain⟨sl,q⟩:=slot c o (I.cne x c e) hc nch ho (I.freeC x c e);exact⟨_,q,hd⟩
  .exact⟨o,keep c o (I.cne x c e) hc nch ho (I.freeC x c e),hd⟩
 refine⟨I.ok,I.os,hg,⟨λb o e n hb hx=>?_,λb o e n hb hx=>?_,λb o e n hx=>?_,λb o e hx=>?_,λb xs e=>tups b xs (I.base.tups b xs e),λb o xs e=>frzs b o xs (I.base.frzs b o xs e),λb ps e=>?_⟩,?_,λx c e=>?_,?_,λx c e=>?_,λp hp=>?_,hok,I.len⟩
 .exact keep b o (neL b o e) hb (neC b o e hx) (I.base.keep b o e n hb hx) (I.base.free b o e n hx)
 .obtain⟨sl,e1⟩:=I.base.slot b o e n hb hx;obtain⟨sl',e2⟩:=slot b _ (neL b o e) hb (neC b o e hx) e1 (I.base.free b o e n hx);exact⟨sl',e2⟩
 .obtain⟨o',e1⟩:=I.base.there b o e hx;exact free b o' (neC b o e hx) e1 (I.base.free b o e n hx)
 .obtain⟨o',e1⟩:=I.base.there b o e hx;exact there b o' (neC b o e hx) e1
 .obtain⟨m1,e1⟩:=I.base.tbls b ps e;obtain⟨m2,e2⟩:=tbls b _ e1;exact⟨m1++m2,by rw[e2,Array.append_assoc]⟩
 .obtain⟨m,hn,hl⟩:=I.loc;refine⟨m,ns m hn,λi x v e1 e2 e3=>?_⟩
  obtain⟨u,r,l⟩:=hl i x v e1 e2 e3;refine⟨u,r,?_⟩;rcases l with l|⟨k,c,e,z⟩
  .exact .inl l
  .exact .inr ⟨k,c,e,cellK x c e _ z⟩
 .obtain⟨v,z⟩:=I.cell x c e;exact⟨v,cellK x c e v z⟩
 .obtain⟨m,⟨o,_,_,ho,_⟩,_⟩:=I.loc;exact free _ o (λz=>(hch _ z).2.1 rfl) ho I.free
 .obtain⟨v,o,ho,hd⟩:=I.cell x c e;exact free c o (λz=>(hch c z).2.2.1 x c e rfl) ho (I.freeC x c e)
 .obtain⟨e,n,ne,nf,d⟩:=I.pin p hp;have nch:p.1∉ch:=λz=>(hch p.1 z).2.2.2 p hp rfl
  exact⟨keep p.1 p.2 ne nf nch e n,free p.1 p.2 nch e n,ne,nf,d⟩
theorem Inv.un(I:Inv X pI Y H s)(u:Un X.fs [] H H' s.heap h')(hok:HOk X.prog X.w H' h'):Inv X pI Y H' {s with heap:=h',toks:=t'}:=by
 obtain⟨m,⟨o,es,ep,ho,r⟩,_⟩:=id I.loc;obtain⟨sl,hL⟩:=u.any ho I.free (by simp)
 exact I.step (g':=s.gens) (d':=s.drawn) (ch:=[]) (λ_ z=>nomatch z) (λb o _ hb _ e n=>u.keep b o e n hb (by simp)) (λb o _ hb _ e n=>u.slot b o e n hb (by simp)) (λb o _ e n=>u.free b o e n (by simp)) (λb o _ e=>u.there b o e (by simp)) u.tups u.frzs u.tbls (λm' hm=>by
  obtain⟨o',es',ep',ho',r'⟩:=hm;rw[ho]at ho';cases ho';exact⟨_,es',ep',hL,r'⟩) hok I.bare
theorem Inv.call(I:Inv X pI Y H s)(u:Un (frs X.stack) ch H H' s.heap h')(hok:HOk X.prog X.w H' h')(hg:EN g')(hch:∀ b∈ch,(b∈X.ex\/X.s₀.heap.objs.size<=b)/\b≠X.env.locals/\(∀ x c,X.env.cells.lookup x=Aa c->c≠b)/\∀ p∈X.pn++pI,p.1≠b):Inv X pI Y H' {s with heap:=h',gens:=g',drawn:=d',toks:=t'}:=by
 obtain⟨m,⟨o,es,ep,ho,r⟩,_⟩:=id I.loc;obtain⟨sl,hL⟩:=u.any ho I.free λz=>(hch _ z).2.1 rfl
 exact I.step (ch:=ch) hch (λb o hL hb hc e n=>u.keep b o e n (λz=>(AG.mp (I.stkSub b z)).elim hL hb) hc) (λb o _ _ hc e n=>u.any e n hc) (λb o hc e n=>u.free b o e n hc) (λb o hc e=>u.there b o e hc) u.tups u.frzs u.tbls (λm' hm=>by
  obtain⟨o',es',ep',ho',r'⟩:=hm;rw[ho]at ho';cases ho';exact⟨_,es',ep',hL,r'⟩) hok hg
theorem Inv.turned(I:Inv X pI Y H s)(k:∀ b o,b≠it->s.heap.get? b=Aa o->h'.get? b=Aa o)(hn:H it=Ae)(hL:it≠X.env.locals)(h1:it∈X.ex\/X.s₀.heap.objs.size<=it)(h2:∀ x c,X.env.cells.lookup x=Aa c->c≠it)(h3:∀ p∈X.pn++pI,p.1≠it):Inv X pI Y H {s with heap:=h',toks:=t'}:=by
 have nit:∀ b u,H b=Aa u->b≠it:=λb u e z=>by rw[z,hn]at e;cases e
 refine I.step (g':=s.gens) (d':=s.drawn) (ch:=[it]) (λb hb=>?_) (λb o _ _ hc e _=>k b o (λz=>hc (by simp[z])) e) (λb o _ _ hc e _=>⟨o.slots,k b o (λz=>hc (by simp[z])) e⟩) (λ_ _ _ _ n=>n)
  (λb o hc e=>⟨o,k b o (λz=>hc (by simp[z])) e⟩) (λ_ _ e=>e) (λ_ _ _ e=>e) (λb ps e=>⟨#[],by rw[e];simp⟩) (λm hm=>?_) (λb u e=>?_) I.bare
 .have e:b=it:=by simpa using hb
  subst e;exact⟨h1,hL,h2,h3⟩
 .obtain⟨o,es,ep,ho,r⟩:=hm;exact⟨o,es,ep,k _ o (CV hL) ho,r⟩
 .refine(I.hok b u e).stay (λc v hc q=>k c v ?_ q) (λ_ q=>q) λ_ _ q=>q
  rcases hc with z|z
  .rw[z];exact nit b u e
  .exact nit c _ z
theorem Inv.tok(I:Inv X pI Y H s)(t:Af):Inv X pI Y H {s with toks:=t}:=I.un (h':=s.heap) (t':=t) Un.refl I.hok
theorem Inv.kept{t':Af}(I:Inv X pI Y H s)(k:∀ b u,s.heap.get? b=Aa u->h'.get? b=Aa u):Inv X pI Y H {s with heap:=h',toks:=t'}:=I.un (Un.kept k) (I.hok.kept k)
theorem Inv.laid{a:Ak}{o:HO}{t':Af}(I:Inv X pI Y H s)(k:∀ b u,s.heap.get? b=Aa u->h'.get? b=Aa u)(hp:s.heap.objs.size<=a)(new:ObjOk X.prog X.w (upd H a o) h' a o):Inv X pI Y (upd H a o) {s with heap:=h',toks:=t'}:=I.un (Un.laid k hp (I.hok.fresh hp)) (I.hok.laid k hp new)
theorem Inv.write{x e:Ak}{o:HO}{t':Af}(I:Inv X pI Y H s)(mu:Mut (H x))(he:e=x\/H e=Aa (.own x))(k:∀ b u,b≠e->s.heap.get? b=Aa u->h'.get? b=Aa u)(heo:∃ u,h'.get? e=Aa u)(new:ObjOk X.prog X.w (upd H x o) h' x o):Inv X pI Y (upd H x o) {s with heap:=h',toks:=t'}:=I.un (Un.write mu he k heo) (I.hok.write mu he k heo new)
theorem Inv.pins_of{pins':Pn}(I:Inv X pI Y H s)(h:∀ p∈pins',s.heap.get? p.1=Aa p.2/\H p.1=Ae/\p.1≠X.env.locals/\p.1∉X.fs/\∀ v,p.2.data≠.cell v):Inv X pins' Y H s:=
 ⟨I.ok,I.os,I.bare,I.base,I.loc,I.cell,I.free,I.freeC,λp hp=>(Fq.mp hp).elim (λz=>I.pin p (Fs _ z)) (h p),I.hok,I.len⟩
theorem Nd{N:Ac Ag}(hN:N.Nodup){j:Af}(a:N[i]?=Aa x)(b:N[j]?=Aa x):i=j:=by
 obtain⟨h1,e1⟩:=AY.mp a;obtain⟨h2,e2⟩:=AY.mp b;exact(List.getElem_inj hN).mp (e1.trans e2.symm)
theorem PK{A:AR}{E:Vq}(I:Inv X pI Y H s)(hN:X.N.Nodup)(hi:X.N[i]?=Aa x)(hx:Loc X.env.scope x)(r:Bi v u)(h:∀ s',Inv X pI (Y.set i (Aa v)) H s'->(∃ a,DX a s.heap s'.heap/\(a=X.env.locals\/X.env.cells.lookup x=Aa a))->Q () s')(hf:X.fn x=Ab\/X.env.scope.names.lookup x=Aa .local:=by first|exact .inl rfl|exact .inr rfl|assumption):At M A (storeName X.env x u) Q E s:=by
 obtain⟨m,hn,hl⟩:=id I.loc;have hcls:(X.env.scope.kind==.class||(X.env.scope.kind==.module&&X.env.locals != X.env.globals))=Ad:=by rw[I.ok.kind];rfl
 have hiσ:i<Y.length:=by rw[I.len];exact(AY.mp hi).1
 have cne:=I.cne;have tracked:∀{a:Ak}{h':AB},(∃ o,s.heap.get? a=Aa o/\H a=Ae)->DX a s.heap h'->HOk X.prog X.w H h':=λ{a h'} ha hs b ob e=>by
  obtain⟨_,_,hfree⟩:=ha;refine(I.hok b ob e).stay (λc w' hc q=>(hs.2 c ?_).trans q) (λ_ q=>q) λ_ _ q=>q
  rintro rfl;rcases hc with rfl|hc
  .rw[hfree]at e;cases e
  .rw[hfree]at hc;cases hc
 rcases hx with hk|hk
 .refine wpAny_storeName_local hk hn (λh' hn' hs=>?_) hcls
  obtain⟨oL,_,_,hoL,_⟩:=id hn;refine h _ ⟨I.ok,I.os,I.bare,⟨λb o e n hb hx=>?_,λb o e n hb hx=>?_,I.base.free,λb o e hx=>?_,I.base.tups,I.base.frzs,I.base.tbls⟩,⟨_,hn',λj y v' e1 e2 e3=>?_⟩,λy c e=>?_,I.free,I.freeC,λp hp=>?_,tracked ⟨oL,hoL,I.free⟩ hs,by simpa using I.len⟩ ⟨_,hs,.inl rfl⟩
  .exact(hs.2 b (A9 (AL (AE e) I.ok.above))).trans (I.base.keep b o e n hb hx)
  .obtain⟨sl,e1⟩:=I.base.slot b o e n hb hx;exact⟨sl,(hs.2 b (A9 (AL (AE e) I.ok.above))).trans e1⟩
  .obtain⟨o',e1⟩:=I.base.there b o e hx;exact⟨o',(hs.2 b (A9 (AL (AE e) I.ok.above))).trans e1⟩
  .by_cases hj:j=i
   .subst hj;rw[hi]at e1;cases e1;rw[Ca hiσ]at e2;cases e2;exact⟨u,r,.inl ⟨hk,by simp⟩⟩
   .rw[Fp (CV hj)]at e2;obtain⟨u',r',q⟩:=hl j y v' e1 e2 e3;refine⟨u',r',?_⟩;rcases q with ⟨k,e⟩|⟨k,c,e,z⟩
    .refine .inl ⟨k,?_⟩;have:y≠x:=λe=>hj (Nd hN e1 (e ▸ hi))
     simp[this,e]
    .exact .inr ⟨k,c,e,z.sameBut hs (cne y c e)⟩
  .obtain⟨w',z⟩:=I.cell y c e;exact⟨w',z.sameBut hs (cne y c e)⟩
  .obtain⟨e,n,ne,nf,d⟩:=I.pin p hp;exact⟨(hs.2 p.1 ne).trans e,n,ne,nf,d⟩
 .have hfn:X.fn x=Ab:=by
   rcases hf with z|z
   .exact z
   .rw[z]at hk;cases hk
  obtain⟨c,hc⟩:=I.ok.has x (.inl hk);obtain⟨w',z⟩:=I.cell x c hc;refine wpAny_storeName_cell I.ok.kind hk hc z (λh' hc' hs=>?_)
  obtain⟨oc,hoc,hocd⟩:=id z;refine h {s with heap:=h'} ⟨I.ok,I.os,I.bare,⟨λb o e n hb hx=>?_,λb o e n hb hx=>?_,I.base.free,λb o e hx=>?_,I.base.tups,I.base.frzs,I.base.tbls⟩,⟨m,hn.sameBut hs (CV (cne x c hc)),λj y v' e1 e2 e3=>?_⟩,λy c' e=>?_,I.free,I.freeC,λp hp=>?_,tracked ⟨oc,hoc,I.freeC x c hc⟩ hs,by simpa using I.len⟩ ⟨c,hs,.inr hc⟩
  .exact(hs.2 b (A9 (AL (AE e) (I.ok.cab x c hfn hc)))).trans (I.base.keep b o e n hb hx)
  .obtain⟨sl,e1⟩:=I.base.slot b o e n hb hx;exact⟨sl,(hs.2 b (A9 (AL (AE e) (I.ok.cab x c hfn hc)))).trans e1⟩
  .obtain⟨o',e1⟩:=I.base.there b o e hx;exact⟨o',(hs.2 b (A9 (AL (AE e) (I.ok.cab x c hfn hc)))).trans e1⟩
  .by_cases hj:j=i
   .subst hj;rw[hi]at e1;cases e1;rw[Ca hiσ]at e2;cases e2;exact⟨u,r,.inr ⟨.inl hk,c,hc,hc'⟩⟩
   .rw[Fp (CV hj)]at e2;obtain⟨u',r',q⟩:=hl j y v' e1 e2 e3;refine⟨u',r',?_⟩;rcases q with q|⟨k,c',e,z'⟩
    .exact .inl q
    .refine .inr ⟨k,c',e,z'.sameBut hs ?_⟩;rintro rfl;exact hj (Nd hN e1 (I.ok.inj _ _ _ e hc ▸ hi))
  .by_cases hcc:c'=c
   .subst hcc;exact⟨_,hc'⟩
   .obtain⟨w2,z2⟩:=I.cell y c' e;exact⟨w2,z2.sameBut hs hcc⟩
  .obtain⟨e,n,ne,nf,d⟩:=I.pin p hp;refine⟨(hs.2 p.1 ?_).trans e,n,ne,nf,d⟩;intro q;rw[q,hoc]at e;have q':oc=p.2:=Bf e;exact d w' (by rw[<-q'];exact hocd)
theorem MR{A:AR}{E:Vq}(I:Inv X pI Y H s)(hN:X.N.Nodup)(hi:X.N[i]?=Aa x)(hx:Loc X.env.scope x)(r:Bi v u)(h:∀ s',Inv X pI (Y.set i (Aa v)) H s'->Q () s')(hf:X.fn x=Ab\/X.env.scope.names.lookup x=Aa .local:=by first|exact .inl rfl|exact .inr rfl|assumption):At M A (storeName X.env x u) Q E s:=
 PK I hN hi hx r (λs' I' _=>h s' I') hf
theorem Inv.call'{s':Ao}(I:Inv X pI Y H s)(ho:s'.os=s.os)(u:Un (frs X.stack) ch H H' s.heap s'.heap)(hok:HOk X.prog X.w H' s'.heap)(hg:EN s'.gens)(hch:∀ b∈ch,(b∈X.ex\/X.s₀.heap.objs.size<=b)/\b≠X.env.locals/\(∀ x c,X.env.cells.lookup x=Aa c->c≠b)/\∀ p∈X.pn++pI,p.1≠b):Inv X pI Y H' s':=by
 obtain⟨h',g',d',t',o'⟩:=s';have e:o'=s.os:=ho;subst e;exact I.call (g':=g') (t':=t') (d':=d') u hok hg hch
end
abbrev XK:=Aj->An Ak->Hp->Prop
abbrev St:=Ac (An V)
variable{Y:St}
abbrev VK:=V->Hp->Prop
abbrev TE:=St->Hp->VK->Prop
abbrev TT:=St->Hp->(Ai->Hp->Prop)->Prop
variable{tc:TT}
abbrev TA:=St->Hp->(Ac V->Hp->Prop)->Prop
variable{ta:TA}
structure Ends where
 nx:St->Hp->Prop
 rt:VK
 bk:St->Hp->Prop:=λ_ _=>AV
 ct:St->Hp->Prop:=λ_ _=>AV
abbrev TS:=Ends->St->Hp->Prop
variable{tb:TS}
def EP(X:Cx)(pI:Pn)(Y:St)(Q:VK)(u:Aj)(s':Ao):Prop:=∃ v H',Inv X pI Y H' s'/\Bi v u/\Q v H'
def TP(X:Cx)(pI:Pn)(Y:St)(Q:Ai->Hp->Prop)(b:Ai)(s':Ao):Prop:=∃ H',Inv X pI Y H' s'/\Q b H'
def AP(X:Cx)(pI:Pn)(Y:St)(Q:Ac V->Hp->Prop)(us:Ac Aj)(s':Ao):Prop:=∃ vs H',Inv X pI Y H' s'/\AX vs us/\Q vs H'
noncomputable def SP(X:Cx)(pI:Pn)(D:Ends)(f:Flow)(s':Ao):Prop:=
  match f with
  |.next=>∃ Y' H',Inv X pI Y' H' s'/\D.nx Y' H'
  |.brk=>∃ Y' H',Inv X pI Y' H' s'/\D.bk Y' H'
  |.cont=>∃ Y' H',Inv X pI Y' H' s'/\D.ct Y' H'
  |.ret u=>∃ v Y' H',Inv X pI Y' H' s'/\Bi v u/\D.rt v H'
noncomputable def PE(X:Cx)(e:Am)(t:TE):Prop:=
 ∀(pI:Pn)(s:Ao)(Y:St)(H:Hp)(Q:VK),Inv X pI Y H s->t Y H Q->At (model X.prog X.w) X.A (eval e X.env) (EP X pI Y Q) X.xe s
noncomputable def PT(X:Cx)(e:Am)(t:TT):Prop:=
 ∀(pI:Pn)(s:Ao)(Y:St)(H:Hp)(Q:Ai->Hp->Prop),Inv X pI Y H s->t Y H Q->At (model X.prog X.w) X.A (Hf e X.env (eval e X.env)) (TP X pI Y Q) X.xe s
noncomputable def PW(X:Cx)(e:Am)(t:TT):Prop:=
 ∀(whole:EY Aj)(pI:Pn)(s:Ao)(Y:St)(H:Hp)(Q:Ai->Hp->Prop),Inv X pI Y H s->t Y H Q->At (model X.prog X.w) X.A (Hf e X.env whole) (TP X pI Y Q) X.xe s
theorem PW.pt{t:TT}(h:PW X e t):PT X e t:=h _
noncomputable def PA(X:Cx)(es:Ac Am)(t:TA):Prop:=
 ∀(pos:Az)(pI:Pn)(s:Ao)(Y:St)(H:Hp)(Q:Ac V->Hp->Prop),Inv X pI Y H s->t Y H Q->At (model X.prog X.w) X.A (spliced (Br pos (Aq es X.env))) (AP X pI Y Q) X.xe s
noncomputable def PS(X:Cx)(st:AD)(t:TS):Prop:=
 ∀(pI:Pn)(s:Ao)(Y:St)(H:Hp)(D:Ends),Inv X pI Y H s->t D Y H->At (model X.prog X.w) X.A (exec st X.env) (SP X pI D) X.xe s
noncomputable def PSs(X:Cx)(st:Ac AD)(t:TS):Prop:=
 ∀(pI:Pn)(s:Ao)(Y:St)(H:Hp)(D:Ends),Inv X pI Y H s->t D Y H->At (model X.prog X.w) X.A (execs st X.env) (SP X pI D) X.xe s
theorem thn{α:Type}{t:EY α}{Q Q':α->Ao->Prop}{A:AR}{E:Vq}(h:At M A t Q E s)(hQ:∀ a s,Q a s->Q' a s):At M A t Q' E s:=A3 h hQ λ_ _ x=>x
section
variable{X:Cx}
def Ec(i:Af):TE:=λY H Q=>∃ v,Y[i]?=Aa (Aa v)/\Q v H
def tC(v:V):TE:=λ_ H Q=>Q v H
theorem JB(hN:X.N[i]?=Aa x)(hv:Vis X.env.scope x)(hd:(x==("__debug__" : Ag))=Ad:=by decide)(hcd:(x==("__classdict__" : Ag))=Ad:=by decide):PE X (.Name x pos) (Ec i):=by
 intro pI s Y H Q I h;obtain⟨v,e,h⟩:=h;obtain⟨m,hn,hl⟩:=I.loc;obtain⟨u,r,l⟩:=hl i x v hN e hv;have fin:EP X pI Y Q u s:=⟨v,H,I,r,h⟩;rcases l with ⟨hk,hm⟩|⟨hk,c,hc,hcell⟩
 .exact Jl (wpAny_loadName_local I.ok.kind hk hn hm fin) hd
 .rcases hk with hk|hk
  .exact Jl (wpAny_loadName_cell I.ok.kind hk hc hcell fin) hd
  .exact Jl (wpAny_loadName_free I.ok.kind hk hc hcell fin hcd) hd
theorem eA{i j pos}:PE X (.Constant (.int i) j pos) (tC (.int i)):=λ_ _ _ H _ I h=>wpAny_Constant_int ⟨.int i,H,I.tok _,⟨_,rfl⟩,h⟩
theorem lM{b j pos}:PE X (.Constant (.bool b) j pos) (tC (.bl b)):=λ_ _ _ H _ I h=>Constant_bool ⟨.bl b,H,I,rfl,h⟩
theorem dY{j pos}:PE X (.Constant .none j pos) (tC .non):=λ_ _ _ H _ I h=>Constant_none ⟨.non,H,I,rfl,h⟩
theorem Lv{x j pos}:PE X (.Constant (.str x) j pos) (tC (.str x)):=λ_ _ _ H _ I h=>Calls.Constant_str ⟨.str x,H,I.tok _,⟨_,rfl⟩,h⟩
def Gl(X:Cx)(x:Ag):Prop:=X.env.kindOf x=Aa .globalImplicit
theorem G1{E:Vq}{Q:Vq}(I:Inv X pI Y H s)(hg:Gl X x)(hm:X.mg x=Aa u)(h:Q u s)(hd:(x==("__debug__" : Ag))=Ad:=by decide):At (model X.prog X.w) X.A (eval (.Name x pos) X.env) Q E s:=
 UV I.ok.kind hg (Calls.loadGlobal_global (by rw[I.ok.glob];exact I.mod.glob.keeps I.bk) hm h) hd
theorem JE{E:Vq}{Q:Vq}(I:Inv X pI Y H s)(hg:Gl X x)(hm:X.mg x=Ae)(hv:Cu x=Aa u)(h:Q u s)(hn:x≠"__name__" := by decide)(hd:(x==("__debug__" : Ag))=Ad:=by decide):At (model X.prog X.w) X.A (eval (.Name x pos) X.env) Q E s:=by
 obtain⟨mb,h1,h2⟩:=I.mod.blt;exact UV I.ok.kind hg (Calls.loadGlobal_builtin (by rw[I.ok.glob];exact I.mod.glob.keeps I.bk) hm (by rw[I.ok.blt];exact h1.keeps I.bk) ((h2 x hn).trans hv) h) hd
theorem NE(hg:Gl X x)(hm:X.mg x=Aa u)(r:Bi v u)(hd:(x==("__debug__" : Ag))=Ad:=by decide):PE X (.Name x pos) (tC v):=
 λ_ _ _ H _ I h=>G1 I hg hm ⟨v,H,I,r,h⟩ hd
theorem QN(hg:Gl X x)(hm:X.mg x=Ae)(hv:Cu x=Aa u)(r:Bi v u)(hn:x≠"__name__" := by decide)(hd:(x==("__debug__" : Ag))=Ad:=by decide):PE X (.Name x pos) (tC v):=
 λ_ _ _ H _ I h=>JE I hg hm hv ⟨v,H,I,r,h⟩ hn hd
variable{a b:Am}{ta tb:TE}{pos:Az}
variable{tA tB':TT}{rest:Ac Am}
def mY(t u:TT):TT:=λY H Q=>t Y H λc H1=>if c=Ab then u Y H1 Q else Q Ad H1
def tOr(t u:TT):TT:=λY H Q=>t Y H λc H1=>if c=Ab then Q Ab H1 else u Y H1 Q
def mT(t:TT):TT:=λY H Q=>t Y H λc H1=>Q (!c) H1
theorem Z_4(ha:PT X a tA):PW X (.BoolOp .And [a] pos) tA:=by
 intro wh pI s Y H Q I h;refine isTrue_and (thn (ha pI s Y H Q I h) λc s1 e=>?_)
 cases c with
 |true=>exact isTrue_and_nil e
 |false=>exact e
theorem dO(ha:PT X a tA):PW X (.BoolOp .Or [a] pos) tA:=by
 intro wh pI s Y H Q I h;refine isTrue_or (thn (ha pI s Y H Q I h) λc s1 e=>?_)
 cases c with
 |false=>exact isTrue_or_nil e
 |true=>exact e
theorem dP(ha:PT X a tA)(hb:PW X (.BoolOp .And (b::rest) pos) tB'):PW X (.BoolOp .And (a::b::rest) pos) (mY tA tB'):=by
 intro wh pI s Y H Q I h;refine isTrue_and (thn (ha pI s Y H _ I h) λc s1 ⟨H1,I1,q1⟩=>?_)
 cases c with
 |true=>exact hb wh pI s1 Y H1 Q I1 q1
 |false=>exact⟨H1,I1,q1⟩
theorem jG(ha:PT X a tA)(hb:PW X (.BoolOp .Or (b::rest) pos) tB'):PW X (.BoolOp .Or (a::b::rest) pos) (tOr tA tB'):=by
 intro wh pI s Y H Q I h;refine isTrue_or (thn (ha pI s Y H _ I h) λc s1 ⟨H1,I1,q1⟩=>?_)
 cases c with
 |true=>exact⟨H1,I1,q1⟩
 |false=>exact hb wh pI s1 Y H1 Q I1 q1
theorem dQ(ha:PT X a tA):PT X (.UnaryOp .Not a pos) (mT tA):=by
 intro pI s Y H Q I h;exact isTrue_not (ha pI s Y H (λc H1=>Q (!c) H1) I h)
def iN(ta tb:TE):TE:=λY H Q=>ta Y H λx H1=>∃ c,x=.bl c/\if c=Ab then tb Y H1 Q else Q (.bl Ad) H1
def nR(ta tb:TE):TE:=λY H Q=>ta Y H λx H1=>∃ c,x=.bl c/\if c=Ab then Q (.bl Ab) H1 else tb Y H1 Q
def iJ(ta:TE):TE:=λY H Q=>ta Y H λx H1=>∃ c,x=.bl c/\Q (.bl (!c)) H1
theorem dW{op}{t:TE}(h:PE X a t):PE X (.BoolOp op [a] pos) t:=λpI s Y H Q I hw=>BoolOp_one (h pI s Y H Q I hw)
theorem eB(ha:PE X a ta)(hb:PE X (.BoolOp .And (b::rest) pos) tb):PE X (.BoolOp .And (a::b::rest) pos) (iN ta tb):=by
 intro pI s Y H Q I h;refine BoolOp_and (thn (ha pI s Y H _ I h) λv s1 ⟨x,H1,I1,r1,q1⟩=>?_)
 obtain⟨c,rfl,q1⟩:=q1;cases r1;refine Ck ?_;cases c with
 |true=>exact hb pI s1 Y H1 Q I1 q1
 |false=>exact⟨.bl Ad,H1,I1,rfl,q1⟩
theorem lK(ha:PE X a ta)(hb:PE X (.BoolOp .Or (b::rest) pos) tb):PE X (.BoolOp .Or (a::b::rest) pos) (nR ta tb):=by
 intro pI s Y H Q I h;refine BoolOp_or (thn (ha pI s Y H _ I h) λv s1 ⟨x,H1,I1,r1,q1⟩=>?_)
 obtain⟨c,rfl,q1⟩:=q1;cases r1;refine Ck ?_;cases c with
 |false=>exact hb pI s1 Y H1 Q I1 q1
 |true=>exact⟨.bl Ab,H1,I1,rfl,q1⟩
theorem dX(ha:PE X a ta):PE X (.UnaryOp .Not a pos) (iJ ta):=by
 intro pI s Y H Q I h;refine UnaryOp_ (thn (ha pI s Y H _ I h) λv s1 ⟨x,H1,I1,r1,q1⟩=>?_)
 obtain⟨c,rfl,q1⟩:=q1;cases r1;exact not_of (Ck ⟨.bl (!c),H1,I1,rfl,q1⟩)
end
noncomputable def SqL(K:Fg)(H:Hp)(a:Ak)(xs:Ac V):Prop:=
 Rd H a (.lst xs) \/
  ∃(o:Cz)(its:A4 Aj)(n:Af),K.lookup a=Aa o/\o.cls=.type "list"/\o.dict=Ae/\o.data=.seq its n/\its.size<=sizeLine/\AX xs its.toList
noncomputable def SqT(K:Fg)(H:Hp)(a:Ak)(xs:Ac V):Prop:=
 Rd H a (.tup xs) \/
  ∃(o:Cz)(its:A4 Aj)(n:Af),K.lookup a=Aa o/\o.cls=.type "tuple"/\o.data=.seq its n/\its.size<=sizeLine/\AX xs its.toList
noncomputable def oB:Aj->An V
 |.none=>Aa .non
 |.bool b=>Aa (.bl b)
 |.int i _=>Aa (.int i)
 |.str x _=>Aa (.str x)
 |.bytes b _=>Aa (.byt b)
 |.float b _=>Aa (.flt b)
 |.ref a=>Aa (.ref a)
 |.type n=>Aa (.ty n)
 |_=>Ae
theorem Bi.abs{x:V}(r:Bi x u):oB u=Aa x:=by
 cases x with
 |non=>cases r;rfl
 |bl _=>cases r;rfl
 |int _=>obtain⟨t,rfl⟩:=r;rfl
 |str _=>obtain⟨t,rfl⟩:=r;rfl
 |byt _=>obtain⟨t,rfl⟩:=r;rfl
 |flt _=>obtain⟨t,rfl⟩:=r;rfl
 |ref _=>cases r;rfl
 |ty _=>cases r;rfl
theorem Bi.inj{x:V}(r:Bi x u)(q:Bi y u):x=y:=Bf (r.abs.symm.trans q.abs)
theorem AX.inj:∀{xs ys:Ac V}{us:Ac Aj},AX xs us->AX ys us->xs=ys
 |_,_,_,.nil,.nil=>rfl
 |_,_,_,.cons r t,.cons r' t'=>by rw[r.inj r',AX.inj t t']
section
variable{X:Cx}{pI:Pn}{Y:St}{H:Hp}{s:Ao}{a:Ak}{xs ys:Ac V}
theorem SqL.of{K:Fg}(h:H a=Aa (.lst xs)):SqL K H a xs:=.inl (.inl h)
theorem SqT.of{K:Fg}(h:H a=Aa (.tup xs)):SqT K H a xs:=.inl (.inl h)
theorem Inv.list(I:Inv X pI Y H s)(h:SqL X.K H a xs):∃ its:Ac Aj,AX xs its/\PlainL s.heap a its.toArray/\xs.length<=sizeLine:=by
 rcases h with h|⟨o,its,n,hk,hc,hd,hs,hz,r⟩
 .obtain⟨z,its,n,r,e⟩:=h.ok I.hok;exact⟨its,r,⟨_,n,e,rfl,rfl,rfl⟩,z⟩
 .refine⟨its.toList,r,⟨o,n,I.kIn a o hk,hc,hd,by simpa using hs⟩,?_⟩
  have e:=r.length;simp only[FF]at e;omega
theorem Inv.tuple(I:Inv X pI Y H s)(h:SqT X.K H a xs):∃ its:Ac Aj,AX xs its/\Je s.heap a its.toArray/\xs.length<=sizeLine:=by
 rcases h with h|⟨o,its,n,hk,hc,hs,hz,r⟩
 .obtain⟨z,its,r,p⟩:=h.ok I.hok;exact⟨its,r,p,z⟩
 .refine⟨its.toList,r,⟨o,I.kIn a o hk,hc,n,by simpa using hs⟩,?_⟩
  have e:=r.length;simp only[FF]at e;omega
theorem Inv.list_inj(I:Inv X pI Y H s)(h:SqL X.K H a xs)(h':SqL X.K H a ys):xs=ys:=by
 obtain⟨its,r,⟨o,n,e,_,_,d⟩,_⟩:=I.list h;obtain⟨its',r',⟨o',n',e',_,_,d'⟩,_⟩:=I.list h';rw[e]at e';cases e';rw[d]at d'
 injection d' with d1 _
 have:its=its':=by simpa using congrArg HQ d1
 subst this;exact r.inj r'
theorem Inv.tuple_inj(I:Inv X pI Y H s)(h:SqT X.K H a xs)(h':SqT X.K H a ys):xs=ys:=by
 obtain⟨its,r,⟨o,e,_,n,d⟩,_⟩:=I.tuple h;obtain⟨its',r',⟨o',e',_,n',d'⟩,_⟩:=I.tuple h';rw[e]at e';cases e';rw[d]at d'
 injection d' with d1 _
 have:its=its':=by simpa using congrArg HQ d1
 subst this;exact r.inj r'
end
noncomputable abbrev Cx.wish(X:Cx)(E:Vq):Cx:={X with xe:=E}
noncomputable abbrev Cx.nox(X:Cx):Cx:=X.wish λ_ _=>AV
theorem Cx.Ok.wish(ok:X.Ok)(E:Vq):(X.wish E).Ok:=
 ⟨ok.mod,ok.kind,ok.glob,ok.blt,ok.above,ok.inj,ok.has,ok.cab,ok.hd,ok.frames,ok.stk,ok.exf,ok.bs,ok.bsz,ok.noex,ok.exfs,ok.funs,ok.frf⟩
theorem Cx.Ok.unwish{E:Vq}(ok:(X.wish E).Ok):X.Ok:=
 ⟨ok.mod,ok.kind,ok.glob,ok.blt,ok.above,ok.inj,ok.has,ok.cab,ok.hd,ok.frames,ok.stk,ok.exf,ok.bs,ok.bsz,ok.noex,ok.exfs,ok.funs,ok.frf⟩
section
variable{X:Cx}{pI:Pn}{Y:St}{H:Hp}{s:Ao}{E:Vq}
theorem Inv.wish(I:Inv X pI Y H s)(E:Vq):Inv (X.wish E) pI Y H s:=⟨I.ok.wish E,I.os,I.bare,I.base,I.loc,I.cell,I.free,I.freeC,I.pin,I.hok,I.len⟩
theorem Inv.unwish(I:Inv (X.wish E) pI Y H s):Inv X pI Y H s:=⟨I.ok.unwish,I.os,I.bare,I.base,I.loc,I.cell,I.free,I.freeC,I.pin,I.hok,I.len⟩
theorem SP.unwish{D:Ends}{f:Flow}{s':Ao}(h:SP (X.wish E) pI D f s'):SP X pI D f s':=by
 cases f with
 |next=>obtain⟨Y',H',I,q⟩:=h;exact⟨Y',H',I.unwish,q⟩
 |brk=>obtain⟨Y',H',I,q⟩:=h;exact⟨Y',H',I.unwish,q⟩
 |cont=>obtain⟨Y',H',I,q⟩:=h;exact⟨Y',H',I.unwish,q⟩
 |ret u=>obtain⟨v,Y',H',I,r,q⟩:=h;exact⟨v,Y',H',I.unwish,r,q⟩
theorem PSs.nox{st:Ac AD}{t:TS}(h:PSs X.nox st t):PSs X st t:=λpI s Y H D I hw=>
 A3 (h pI s Y H D (I.wish _) hw) (λ_ _ q=>q.unwish) λ_ _ z=>A1 z
end
section
variable{X:Cx}{st:AD}{rest:Ac AD}{t u:TS}{e:Am}{te:TE}{pos:Az}
def Sv:TS:=λD Y H=>D.nx Y H
def nP(t u:TS):TS:=λD Y H=>t {D with nx:=u D} Y H
theorem Z_8:PSs X [] Sv:=λ_ _ Y H _ I h=>DN ⟨Y,H,I,h⟩
theorem M7(h1:PS X st t)(h2:PSs X rest u):PSs X (st::rest) (nP t u):=by
 intro pI s Y H D I h;refine GF (thn (h1 pI s Y H {D with nx:=u D} I h) λf s1 q=>?_)
 cases f with
 |next=>
  obtain⟨Y',H',I',q⟩:=q;exact h2 pI s1 Y' H' D I' q
 |ret v=>exact q
 |brk=>exact q
 |cont=>exact q
theorem Jx(h1:PS X st t):PSs X [st] t:=by
 intro pI s Y H D I h;refine GF (thn (h1 pI s Y H D I h) λf s1 q=>?_)
 cases f with
 |next=>exact DN q
 |ret v=>exact q
 |brk=>exact q
 |cont=>exact q
theorem aC:PS X (.Pass pos) Sv:=λ_ _ Y H _ I h=>wpAny_Pass ⟨Y,H,I,h⟩
theorem Inv.quiet(I:Inv X pI Y H s):interactive X.env=Ad:=by simp[interactive,I.ok.kind]
def iK(te:TE):TS:=λD Y H=>te Y H λ_ H1=>D.nx Y H1
theorem Ke(he:PE X e te)(hs:Cp e Ae pos.line X.env=pure Ad:=by rfl):PS X (.Expr e pos) (iK te):=by
 intro pI s Y H D I h;exact wpAny_Expr_any (thn (he pI s Y H _ I h) λv s1 ⟨x,H1,I1,r1,q1⟩=>⟨Y,H1,I1,q1⟩) I.quiet hs
def nQ(te:TE):TS:=λD Y H=>te Y H D.rt
theorem NN(he:PE X e te):PS X (.Return (Aa e) pos) (nQ te):=by
 intro pI s Y H D I h;exact wpAny_Return_some (thn (he pI s Y H _ I h) λv s1 ⟨x,H1,I1,r1,q1⟩=>⟨x,Y,H1,I1,r1,q1⟩)
def mW(c:TT)(t u:TS):TS:=λD Y H=>c Y H λb H1=>if b=Ab then t D Y H1 else u D Y H1
theorem jI{a b:Ac AD}(hc:PT X c tc)(ha:PSs X a t)(hb:PSs X b u):PS X (.If c a b pos) (mW tc t u):=by
 intro pI s Y H D I h;refine wpAny_If (thn (hc pI s Y H _ I h) λd s1 ⟨H1,I1,q1⟩=>?_)
 cases d with
 |true=>exact ha pI s1 Y H1 D I1 q1
 |false=>exact hb pI s1 Y H1 D I1 q1
end
abbrev TG:=V->St->Hp->(St->Hp->Prop)->Prop
abbrev TGs:=Ac V->St->Hp->(St->Hp->Prop)->Prop
noncomputable def PG(X:Cx)(target:Am)(t:TG):Prop:=
 ∀(pI:Pn)(s:Ao)(Y:St)(H:Hp)(v:V)(u:Aj)(Q:St->Hp->Prop),Inv X pI Y H s->Bi v u->t v Y H Q ->
  At (model X.prog X.w) X.A (assign target X.env u) (λ_ s'=>∃ Y' H',Inv X pI Y' H' s'/\Q Y' H') X.xe s
noncomputable def PGs(X:Cx)(ts:Ac Am)(t:TGs):Prop:=
 ∀(pI:Pn)(s:Ao)(Y:St)(H:Hp)(vs:Ac V)(us:Ac Aj)(Q:St->Hp->Prop),Inv X pI Y H s->AX vs us->t vs Y H Q ->
  At (model X.prog X.w) X.A (assignInOrder ((Dp ts X.env).map (·.2)) us) (λ_ s'=>∃ Y' H',Inv X pI Y' H' s'/\Q Y' H') X.xe s
section
variable{X:Cx}{pos:Az}
def E6(i:Af):TG:=λv Y H Q=>Q (Y.set i (Aa v)) H
theorem Kf(hN:X.N.Nodup)(hi:X.N[i]?=Aa x)(hx:Loc X.env.scope x)(hf:X.fn x=Ab\/X.env.scope.names.lookup x=Aa .local:=by first|exact .inl rfl|exact .inr rfl|assumption):PG X (.Name x pos) (E6 i):=by
 intro pI s Y H v u Q I r h;exact Wn (MR I hN hi hx r (λs' I'=>⟨_,H,I',h⟩) hf)
def HL:TGs:=λvs Y H Q=>vs=[]/\Q Y H
def HE(t:TG)(u:TGs):TGs:=λvs Y H Q=>∃ v r,vs=v::r/\t v Y H λY' H'=>u r Y' H' Q
theorem QL:PGs X [] HL:=by
 intro pI s Y H vs us Q I r h;obtain⟨e,h⟩:=h;subst e;cases r;exact assignInOrder_nil ⟨Y,H,I,h⟩
theorem PZ{t:TG}{u:TGs}(h1:PG X e t)(h2:PGs X es u)(hs:(Dp (e::es) X.env).map (·.2)=assign e X.env::(Dp es X.env).map (·.2):=by rfl):PGs X (e::es) (HE t u):=by
 intro pI s Y H vs us Q I r h;obtain⟨v,vr,e1,h⟩:=h;subst e1;cases r with
 |cons r rr=>
  rw[hs];refine assignInOrder_cons (thn (h1 pI s Y H _ _ _ I r h) λ_ s1 ⟨Y1,H1,I1,q1⟩=>?_)
  exact h2 pI s1 Y1 H1 _ _ Q I1 rr q1
def KQ(K:Fg)(n:Af)(t:TGs):TG:=λv Y H Q=>∃ a xs,v=.ref a/\SqT K H a xs/\xs.length=n/\t xs Y H Q
theorem RY{t:TGs}(hc:X.calm=Ab)(h:PGs X es t)(hn:(Dp es X.env).length=n:=by rfl)(hst:(Dp es X.env).findIdx? (·.1)=Ae:=by rfl):PG X (.Tuple es k pos) (KQ X.K n t):=by
 intro pI s Y H v u Q I r hw;obtain⟨a,xs,e1,hq,hl,hw⟩:=hw;subst e1;cases r;obtain⟨its,rv,ht,hz⟩:=I.tuple hq;refine assign_Tuple_tuple (I.ok.hd hc) ht (by simp[hn,<-hl,rv.length]) hst λh' hx=>?_
 have I1:Inv X pI Y H {s with heap:=h'}:=I.kept (t':=s.toks) λb o e=>hx b o (A9 (AE e)) e
 exact h pI _ Y H xs _ Q I1 (by simpa using rv) hw
def OE(te:TE)(g:TG):TS:=λD Y H=>te Y H λx H1=>g x Y H1 D.nx
theorem Lu{te:TE}{pos':Az}(hN:X.N.Nodup)(hi:X.N[i]?=Aa x)(hx:Loc X.env.scope x)(he:PE X e te)(hs:Cp e (Aa (.Name x pos')) pos.line X.env=pure Ad:=by rfl)(hf:X.fn x=Ab\/X.env.scope.names.lookup x=Aa .local:=by first|exact .inl rfl|exact .inr rfl|assumption):PS X (.Assign [.Name x pos'] e pos) (OE te (E6 i)):=by
 intro pI s Y H D I h;refine wpAny_Assign_Name (thn (he pI s Y H _ I h) λv s1 ⟨y,H1,I1,r1,q1⟩=>?_) hs
 exact MR I1 hN hi hx r1 (λs2 I2=>⟨_,H1,I2,q1⟩) hf
end
section
variable{X:Cx}{pos:Az}
def cK(c:TT)(tb:TS):TS:=λD Y H=>∃ W:Af->St->Hp->Prop,(∃ m,W m Y H)/\∀ m Y H,W m Y H ->
 c Y H λb H1=>if b=Ab then ∃ N:St->Hp->Prop,(∀ Y' H',N Y' H'->∃ m',m'<m/\W m' Y' H')/\tb {D with nx:=N,ct:=N,bk:=D.nx} Y H1 else D.nx Y H1
theorem XJ(hp:Dt (model X.prog X.w) X.A X.env X.xe)(hc:PT X c tc)(hb:PSs X body tb):PS X (.While c body [] pos) (cK tc tb):=by
 intro pI s Y H D I h;obtain⟨W,⟨m0,w0⟩,turn⟩:=h;refine wpAny_While (codeAny_whileLoop (λn s'=>∃ Y' H',Inv X pI Y' H' s'/\W n Y' H') ?_ m0 ⟨Y,H,I,w0⟩)
 rintro n s1 ⟨Y1,H1,I1,w1⟩;refine Db hp (thn (hc pI s1 Y1 H1 _ I1 (turn n Y1 H1 w1)) λb s2 ⟨H2,I2,q2⟩=>?_)
 cases b with
 |true=>
  obtain⟨N,hN,q2⟩:=q2;rw[AA rfl];refine Db hp (thn (hb pI s2 Y1 H2 _ I2 q2) λf s3 q3=>?_)
  cases f with
  |next=>
   obtain⟨Y3,H3,I3,n3⟩:=q3;obtain⟨m',hm,w3⟩:=hN Y3 H3 n3;exact⟨m',hm,Y3,H3,I3,w3⟩
  |cont=>
   obtain⟨Y3,H3,I3,n3⟩:=q3;obtain⟨m',hm,w3⟩:=hN Y3 H3 n3;exact⟨m',hm,Y3,H3,I3,w3⟩
  |brk=>exact q3
  |ret v=>exact q3
 |false=>
  rw[AH Av];exact DN ⟨Y1,H2,I2,q2⟩
end
structure It where
 go:Af->Hp->Prop
 yld:Af->Hp->V->Hp->Prop
 stop:Af->Hp->Prop
noncomputable def Gg(X:Cx)(pI:Pn)(H:Hp)(b:Ak):Prop:=
 H b=Ae/\b≠X.env.locals/\b∉X.fs/\(b∈X.ex\/X.s₀.heap.objs.size<=b)/\(∀ x c,X.env.cells.lookup x=Aa c->c≠b)/\∀ p∈X.pn++pI,p.1≠b
theorem Inv.fpOk{H':Hp}(I:Inv X pI Y H s)(hb:s.heap.objs.size<=b)(hn:H' b=Ae):Gg X pI H' b:=by
 refine⟨hn,GA (AL I.lt hb),I.nofs hb,.inr (Bw I.sz hb),λx c e z=>?_,λp hp z=>?_⟩
 .obtain⟨v,q⟩:=I.cell x c e;exact absurd (AL q.lt (by rw[z];exact hb)) (Bg _)
 .exact absurd (AL (AE (I.pin p hp).1) (by rw[z];exact hb)) (Bg _)
structure Turn (P:AJ) (w:AT) (K:Fg) (tg:Am) (J:It) (fp:Ac Ak) (it:Ak) (tn:Af->AB->Prop):Prop where
 mem:it∈fp
 obj:∀ i h,tn i h->∀ b∈fp,∃ o,h.get? b=Aa o/\∀ v,o.data≠.cell v
 keep:∀ i h h',tn i h->(∀ b∈fp,∀ o,h.get? b=Aa o->h'.get? b=Aa o)->tn i h'
 item:∀(X:Cx),X.prog=P->X.w=w->X.K=K->X.calm=Ab->∀(i:Af)(pI:Pn)(s:Ao)(Y:St)(H:Hp)(E:Vq),Inv X pI Y H s->(∀ b∈fp,Gg X pI H b)->tn i s.heap->J.go i H ->
  At (model P w) X.A (pyNext (.ref it)) (λr s1=>∃ u,r=Aa u /\
   At (model P w) X.A (Fw tg (.ref it) u) (λ_ s2=>∃ x H',Inv X pI Y H' s2/\Bi x u/\J.yld i H x H'/\tn (i+1) s2.heap/\∀ b∈fp,H' b=Ae) E s1) E s
 done:∀(X:Cx),X.prog=P->X.w=w->X.K=K->X.calm=Ab->∀(i:Af)(pI:Pn)(s:Ao)(Y:St)(H:Hp)(E:Vq),Inv X pI Y H s->(∀ b∈fp,Gg X pI H b)->tn i s.heap->J.stop i H ->
  At (model P w) X.A (pyNext (.ref it)) (λr s1=>r=Ae/\Inv X pI Y H s1) E s
 self:∀(A:AR)(i:Af)(s:Ao)(Q:Vq)(E:Vq),tn i s.heap->Q (.ref it) s->At (model P w) A (J9 (.ref it)) Q E s
abbrev TI:=St->Hp->(It->Hp->Prop)->Prop
noncomputable def PIE(X:Cx)(pI:Pn)(Y:St)(tg:Am)(R:It->Hp->Prop)(itv:Aj)(s2:Ao):Prop:=
 ∃(it:Ak)(fp:Ac Ak)(tn:Af->AB->Prop)(J:It)(H':Hp),itv=.ref it/\Inv X pI Y H' s2/\Turn X.prog X.w X.K tg J fp it tn/\tn 0 s2.heap/\(∀ b∈fp,Gg X pI H' b)/\R J H'
noncomputable def PI(X:Cx)(tg iter:Am)(wi:TI):Prop:=
 ∀(pI:Pn)(s:Ao)(Y:St)(H:Hp)(R:It->Hp->Prop),Inv X pI Y H s->wi Y H R ->
  At (model X.prog X.w) X.A (eval iter X.env) (λv s1=>At (model X.prog X.w) X.A (J9 v) (PIE X pI Y tg R) X.xe s1) X.xe s
theorem Ox{A:AR}{E:Vq}{n:Cv}{vs:A4 Aj}(ho:s.heap.get? it=Aa o)(hc:o.cls=.type n)(hd:o.data=.fields vs)(hn:["enumerate", "zip", "dict_itemiterator", "dict_reverseitemiterator", "odict_iterator", "itertools.zip_longest", "itertools.pairwise"].contains n=Ad)(hQ:Q () s):At M A (Fw tg (.ref it) u) Q E s:=by
  unfold Fw;cases tg<;>first
    |exact AM hQ
    | (cases u<;>first
        |exact AM hQ
        | (refine Ap (wpAny_load ho ?_)
           rw[hc,hd];show At M A (if (["enumerate", "zip", "dict_itemiterator", "dict_reverseitemiterator", "odict_iterator", "itertools.zip_longest", "itertools.pairwise"].contains n&&vs[0]? == Aa (Ei _))=Ab then _ else _) Q E s
           rw[AH (by intro h;rw[hn,Bool.false_and]at h;cases h)]
           exact AM hQ))
noncomputable def Itl(K:Fg)(a:Ak):It:=
 ⟨λi H=>∃ xs x,SqL K H a xs/\xs[i]?=Aa x,λi H x H'=>H'=H/\∀ xs,SqL K H a xs->xs[i]?=Aa x,λi H=>∃ xs,SqL K H a xs/\xs.length<=i⟩
noncomputable def Itt(K:Fg)(a:Ak):It:=
 ⟨λi H=>∃ xs x,SqT K H a xs/\xs[i]?=Aa x,λi H x H'=>H'=H/\∀ xs,SqT K H a xs->xs[i]?=Aa x,λi H=>∃ xs,SqT K H a xs/\xs.length<=i⟩
noncomputable def Itr(lo:Ah)(n:Af):It:=⟨λi _=>i<n,λi H x H'=>H'=H/\x=.int (lo+i),λi _=>n<=i⟩
theorem W7{w:AT}{K:Fg}(a it:Ak):Turn P w K tg (Itl K a) [it] it (λi h=>h.IsListIter it a i) where
  mem:=by simp
  obj:=λi h st b hb=>by
    have e:b=it:=by simpa using hb
    subst e;obtain⟨o,e,c,d⟩:=st;exact⟨o,e,λv z=>by rw[d]at z;cases z⟩
  keep:=λi h h' st k=>st.at λo e=>k it (by simp) o e
  item:=by
    intro X hP hw hK hc i pI s Y H E I hf st hg;subst hP hw hK;obtain⟨xs,x,hq,hx⟩:=hg;obtain⟨its,rv,p,hz⟩:=I.list hq;obtain⟨u,hu,ru⟩:=rv.get hx;obtain⟨f0,f1,f2,f3,f4,f5⟩:=hf it (by simp)
    refine wpAny_pyNext_list_item st p.isList (x:=u) (by simpa using hu) λh' st' sb=>?_
    have I1:Inv X pI Y H {s with heap:=h'}:=I.turned (t':=s.toks) (λb o hb e=>(sb.2 b hb).trans e) f0 f1 f3 f4 f5
    obtain⟨o,e,c,d⟩:=id st';exact⟨u,rfl,Ox (s:={s with heap:=h'}) e c d (by decide) ⟨x,H,I1,ru,⟨rfl,λys hy=>by rw[I.list_inj hy hq];exact hx⟩,st',λb hb=>(hf b hb).1⟩⟩
  done:=by
    intro X hP hw hK hc i pI s Y H E I hf st hg;subst hP hw hK;obtain⟨xs,hq,hx⟩:=hg;obtain⟨its,rv,p,hz⟩:=I.list hq;obtain⟨f0,f1,f2,f3,f4,f5⟩:=hf it (by simp)
    have hl:=rv.length;exact wpAny_pyNext_list_end (I.ok.hd hc) st p.isList (by simp;omega) λh' eb=>⟨rfl,I.turned (t':=s.toks) (λb o hb e=>eb b o hb e) f0 f1 f3 f4 f5⟩
  self:=λ_ _ _ _ _ st h=>wpAny_pyIter_listiter st h
theorem WK{w:AT}{K:Fg}(a it:Ak):Turn P w K tg (Itt K a) [it] it (λi h=>h.IsTupleIter it a i) where
  mem:=by simp
  obj:=λi h st b hb=>by
    have e:b=it:=by simpa using hb
    subst e;obtain⟨o,e,c,d⟩:=st;exact⟨o,e,λv z=>by rw[d]at z;cases z⟩
  keep:=λi h h' st k=>st.at λo e=>k it (by simp) o e
  item:=by
    intro X hP hw hK hc i pI s Y H E I hf st hg;subst hP hw hK;obtain⟨xs,x,hq,hx⟩:=hg;obtain⟨its,rv,p,hz⟩:=I.tuple hq;obtain⟨u,hu,ru⟩:=rv.get hx;obtain⟨f0,f1,f2,f3,f4,f5⟩:=hf it (by simp)
    refine wpAny_pyNext_tuple_item st (show s.heap.IsTuple a its.toArray from p) (x:=u) (by simpa using hu) λh' st' sb=>?_
    have I1:Inv X pI Y H {s with heap:=h'}:=I.turned (t':=s.toks) (λb o hb e=>(sb.2 b hb).trans e) f0 f1 f3 f4 f5
    obtain⟨o,e,c,d⟩:=id st';exact⟨u,rfl,Ox (s:={s with heap:=h'}) e c d (by decide) ⟨x,H,I1,ru,⟨rfl,λys hy=>by rw[I.tuple_inj hy hq];exact hx⟩,st',λb hb=>(hf b hb).1⟩⟩
  done:=by
    intro X hP hw hK hc i pI s Y H E I hf st hg;subst hP hw hK;obtain⟨xs,hq,hx⟩:=hg;obtain⟨its,rv,p,hz⟩:=I.tuple hq;obtain⟨f0,f1,f2,f3,f4,f5⟩:=hf it (by simp)
    have hl:=rv.length;exact wpAny_pyNext_tuple_end (I.ok.hd hc) st (show s.heap.IsTuple a its.toArray from p) (by simp;omega) λh' eb=>⟨rfl,I.turned (t':=s.toks) (λb o hb e=>eb b o hb e) f0 f1 f3 f4 f5⟩
  self:=λ_ _ _ _ _ st h=>wpAny_pyIter_tupleiter st h
theorem WL{w:AT}{K:Fg}(it:Ak)(lo:Ah)(n:Af):Turn P w K tg (Itr lo n) [it] it (λi h=>IsRangeIter h it (lo+(i:Af)*1) ((n:Ah)-(i:Af)) 1) where
  mem:=by simp
  obj:=λi h st b hb=>by
    have e:b=it:=by simpa using hb
    subst e;exact⟨_,st,λv z=>by
      have z':Data.fields _=JZ v:=z;cases z'⟩
  keep:=λi h h' st k=>k it (by simp) _ st
  item:=by
    intro X hP hw hK hc i pI s Y H E I hf st hg;subst hP hw hK;obtain⟨f0,f1,f2,f3,f4,f5⟩:=hf it (by simp)
    have W:=Walks.range (prog:=X.prog) (w:=X.w) (I.ok.hd hc) it lo 1 n;refine W.item i s _ _ hg st λv h' tk hv st' kk=>?_
    obtain⟨t,rfl⟩:=hv;have I1:Inv X pI Y H {s with heap:=h',toks:=tk}:=I.turned (λb o hb e=>kk b o (by simpa using hb) e) f0 f1 f3 f4 f5
    refine⟨_,rfl,Ox (s:={s with heap:=h',toks:=tk}) (n := "range_iterator") st' rfl rfl (by decide) ⟨.int (lo+i),H,I1,⟨t,?_⟩,⟨rfl,rfl⟩,st',λb hb=>(hf b hb).1⟩⟩
    rw[Ui]
  done:=by
    intro X hP hw hK hc i pI s Y H E I hf st hg;subst hP hw hK;obtain⟨f0,f1,f2,f3,f4,f5⟩:=hf it (by simp)
    exact wpAny_pyNext_range_end (I.ok.hd hc) st (by have:n<=i:=hg;omega) λh' eb=>⟨rfl,I.turned (t':=s.toks) (λb o hb e=>eb b o hb e) f0 f1 f3 f4 f5⟩
  self:=λ_ _ _ _ _ st h=>wpAny_pyIter_rangeiter st h
section
variable{X:Cx}{tg:Am}
theorem PY{R:It->Hp->Prop}{E:Vq}{lo hi:Ah}{t u v:Cd}{tk:Af}(I:Inv X pI Y H s)(h1:-(2 ^ 62)<=lo)(h2:lo<2 ^ 62)(h3:-(2 ^ 62)<=hi)(h4:hi<2 ^ 62)(q:R (Itr lo (hi-lo).toNat) H):At (model X.prog X.w) X.A (J9 (.ref s.heap.objs.size)) (PIE X pI Y tg R) E { s with heap:=s.heap.push { cls:=.type "range",data:=.fields #[.int lo t,.int hi u,.int 1 v] },toks:=tk }:=by
 refine wpAny_pyIter_range (IsRange.new ..) (small_one h1 h2 h3 h4) ?_;have I1:Inv X pI Y H { s with heap:=s.heap.push { cls:=.type "range",data:=.fields #[.int lo t,.int hi u,.int 1 v] },toks:=tk }:=I.kept λb o e=>As _ e
 refine⟨(s.heap.push { cls:=.type "range",data:=.fields #[.int lo t,.int hi u,.int 1 v] }).objs.size,[(s.heap.push { cls:=.type "range",data:=.fields #[.int lo t,.int hi u,.int 1 v] }).objs.size],_,_,H,rfl,
  I1.kept (t':=tk) λb o e=>As _ e,WL _ lo (hi-lo).toNat,?_,λb hb=>?_,q⟩
 .have e1:lo+((0:Af):Ah)*1=lo:=by simp
  have e2:(((hi-lo).toNat:Af):Ah)-((0:Af):Ah)=Builtin.Range.rangeSize lo hi 1:=by rw[rangeSize_one];split<;>omega
  show IsRangeIter _ _ (lo+((0:Af):Ah)*1) ((((hi-lo).toNat:Af):Ah)-((0:Af):Ah)) 1;rw[e1,e2];exact AW _ rfl
 .have e:b=(s.heap.push { cls:=.type "range",data:=.fields #[.int lo t,.int hi u,.int 1 v] }).objs.size:=by simpa using hb
  subst e;exact I1.fpOk (AI _) (I1.hok.fresh (AI _))
def lI(ta:TA):TI:=λY H R=>ta Y H λvs H1=>∃ j:Ah,vs=[.int j]/\-(2 ^ 62)<=j/\j<2 ^ 62/\R (Itr 0 j.toNat) H1
def lH(ta:TA):TI:=λY H R=>ta Y H λvs H1=>∃ i j:Ah,vs=[.int i,.int j]/\(-(2 ^ 62)<=i/\i<2 ^ 62/\-(2 ^ 62)<=j/\j<2 ^ 62)/\R (Itr i (j-i).toNat) H1
theorem W3{a:Am}(hg:Gl X "range")(hm:X.mg "range" = Ae)(ha:PA X [a] ta)(hs:Aq [a] X.env=[(Ad,eval a X.env)]:=by rfl):PI X tg (.Call (.Name "range" p) [a] [] pos) (lI ta):=by
 intro pI s Y H R I h;refine Call_ (JE I hg hm boot_range (C3 (thn (ha pos pI s Y H _ I h) λus s1 ⟨vs,H1,I1,r1,q1⟩=>?_) hs rfl))
 obtain⟨j,e,q1,q2,q⟩:=q1;subst e;cases r1 with
 |cons r rr=>
  cases rr;obtain⟨t,rfl⟩:=r;exact call_range_1 (PY I1 (by omega) (by omega) q1 q2 (by simpa using q))
theorem W2{a b:Am}(hg:Gl X "range")(hm:X.mg "range" = Ae)(ha:PA X [a,b] ta)(hs:Aq [a,b] X.env=[(Ad,eval a X.env),(Ad,eval b X.env)]:=by rfl)(hs2:Aq [b] X.env=[(Ad,eval b X.env)]:=by rfl):
  PI X tg (.Call (.Name "range" p) [a,b] [] pos) (lH ta):=by
 intro pI s Y H R I h;refine Call_ (JE I hg hm boot_range (C3 (thn (ha pos pI s Y H _ I h) λus s1 ⟨vs,H1,I1,r1,q1⟩=>?_) (by rw[hs,hs2]) (by rw[hs2];rfl)))
 obtain⟨i,j,e,⟨q1,q2,q3,q4⟩,q⟩:=q1;subst e;cases r1 with
 |cons r rr=>
  cases rr with
  |cons r' rr=>
   cases rr;obtain⟨t,rfl⟩:=r;obtain⟨t',rfl⟩:=r';exact call_range_2 (PY I1 q1 q2 q3 q4 q)
def mX(wi:TI)(g:TG)(tb:TS):TS:=λD Y H=>wi Y H λJ H1=>∃ W:Af->Af->St->Hp->Prop,(∃ m,W 0 m Y H1)/\∀ i m Y H,W i m Y H ->
 (J.stop i H/\D.nx Y H)\/(J.go i H/\∃ N:St->Hp->Prop,(∀ Y' H',N Y' H'->∃ m',m'<m/\W (i+1) m' Y' H')/\∀ x H',J.yld i H x H'->g x Y H' λY2 H2=>tb {D with nx:=N,ct:=N,bk:=D.nx} Y2 H2)
noncomputable def IT(fp:Ac Ak)(h:AB):Pn:=fp.filterMap λb=>(h.get? b).map λo=>(b,o)
theorem K6(hb:b∈fp)(e:h.get? b=Aa o):(b,o)∈IT fp h:=List.mem_filterMap.mpr ⟨b,hb,by rw[e];rfl⟩
theorem PV{p:Ak×Cz}(hp:p∈IT fp h):p.1∈fp/\h.get? p.1=Aa p.2:=by
 obtain⟨b,hb,e⟩:=List.mem_filterMap.mp hp;cases q:h.get? b with
 |none=>rw[q]at e;cases e
 |some o=>
  rw[q]at e;have e':(b,o)=p:=Bf e;subst e';exact⟨hb,q⟩
theorem Inv.pinned(I:Inv X pI Y H s)(hf:∀ b∈fp,Gg X pI H b)(ho:∀ b∈fp,∃ o,s.heap.get? b=Aa o/\∀ v,o.data≠.cell v):Inv X (pI++IT fp s.heap) Y H s:=
 I.pins_of λp hp=>(Fq.mp hp).elim (λz=>I.pin p (Ba _ z)) λz=>by
  obtain⟨hb,e⟩:=PV z;obtain⟨f0,f1,f2,_⟩:=hf p.1 hb;obtain⟨o,e',d⟩:=ho p.1 hb;rw[e]at e';cases e';exact⟨e,f0,f1,f2,d⟩
theorem Inv.unpinned{pl:Pn}(I:Inv X (pI++pl) Y H s):Inv X pI Y H s:=I.pins_of λp hp=>I.pin p (Ba _ (Fs _ hp))
theorem RW{iter:Am}{wi:TI}{g:TG}(hp:Dt (model X.prog X.w) X.A X.env X.xe)(hc:X.calm=Ab)(hi:PI X tg iter wi)(hg:PG X tg g)(hb:PSs X body tb)(hs:∀ x,Cc iter X.env x=pure x:=by intro _;rfl):PS X (.For tg iter body [] pos) (mX wi g tb):=by
 intro pI s Y H D I h;refine wpAny_For (thn (hi pI s Y H _ I h) λv s1 h1=>thn h1 λitv s2 h2=>?_) hs
 obtain⟨it,fp,tn,J,H2,e,I2,T,st2,f2,W,⟨m0,w0⟩,turn⟩:=h2;subst e
 -- what stays Ab of the iterator's objects through the loop
 have stat:∀{H':Hp},(∀ b∈fp,H' b=Ae)->∀ b∈fp,Gg X pI H' b:=λhn b hb=>⟨hn b hb,(f2 b hb).2⟩
 refine codeAny_forLoop_any (λn s'=>∃ i Y' H',Inv X pI Y' H' s'/\tn i s'.heap/\(∀ b∈fp,H' b=Ae)/\W i n Y' H') ?_ m0 ⟨0,Y,H2,I2,st2,λb hb=>(f2 b hb).1,w0⟩
 rintro n s3 ⟨i,Y3,H3,I3,st3,fr3,w3⟩;rcases turn i n Y3 H3 w3 with ⟨stop,qn⟩|⟨go,N,hN,step⟩
 .refine Db hp (thn (T.done X rfl rfl rfl hc i pI s3 Y3 H3 X.xe I3 (stat fr3) st3 stop) λr s4 ⟨hr,I4⟩=>?_)
  subst hr;exact DN ⟨Y3,H3,I4,qn⟩
 .refine Db hp (thn (T.item X rfl rfl rfl hc i pI s3 Y3 H3 X.xe I3 (stat fr3) st3 go) λr s4 ⟨u,hr,h4⟩=>?_)
  subst hr;refine Db hp (thn h4 λ_ s5 ⟨x,H5,I5,r5,y5,st5,fr5⟩=>?_)
  have I5':=I5.pinned (stat fr5) (T.obj _ _ st5);refine Db hp (thn (hg _ s5 Y3 H5 x u _ I5' r5 (step x H5 y5)) λ_ s6 ⟨Y6,H6,I6,q6⟩=>?_)
  refine Db hp (thn (hb _ s6 Y6 H6 _ I6 q6) λf s7 q7=>?_)
  have again:∀{Y7:St}{H7:Hp},Inv X (pI++IT fp s5.heap) Y7 H7 s7->N Y7 H7->∃ m,m<n/\∃ i Y' H',Inv X pI Y' H' s7/\tn i s7.heap/\(∀ b∈fp,H' b=Ae)/\W i m Y' H':=λ{Y7 H7} I7 n7=>by
   obtain⟨m',hm,w7⟩:=hN Y7 H7 n7;refine⟨m',hm,i+1,Y7,H7,I7.unpinned,T.keep _ _ _ st5 λb hb o e=>(I7.pin (b,o) (Ba _ (Ba _ (K6 hb e)))).1,λb hb=>?_,w7⟩
   obtain⟨o,e,d⟩:=T.obj _ _ st5 b hb;exact(I7.pin (b,o) (Ba _ (Ba _ (K6 hb e)))).2.1
  cases f with
  |next=>obtain⟨Y7,H7,I7,n7⟩:=q7;exact again I7 n7
  |cont=>obtain⟨Y7,H7,I7,n7⟩:=q7;exact again I7 n7
  |brk=>obtain⟨Y7,H7,I7,q7⟩:=q7;exact⟨Y7,H7,I7.unpinned,q7⟩
  |ret v=>obtain⟨x7,Y7,H7,I7,r7,q7⟩:=q7;exact⟨x7,Y7,H7,I7.unpinned,r7,q7⟩
end
abbrev R2:=V->V->Hp->VK->Prop
variable{r:R2}
noncomputable def OpR(X:Cx)(f:Aj->Aj->EY Aj)(r:R2):Prop:=
 ∀(pI:Pn)(s:Ao)(Y:St)(H:Hp)(x y:V)(v u:Aj)(Q:VK),Inv X pI Y H s->Bi x v->Bi y u->r x y H Q ->
  At (model X.prog X.w) X.A (f v u) (EP X pI Y Q) X.xe s
noncomputable def UnR(X:Cx)(f:Aj->EY Aj)(r:V->Hp->VK->Prop):Prop:=
 ∀(pI:Pn)(s:Ao)(Y:St)(H:Hp)(x:V)(v:Aj)(Q:VK),Inv X pI Y H s->Bi x v->r x H Q ->
  At (model X.prog X.w) X.A (f v) (EP X pI Y Q) X.xe s
noncomputable def Gc(X:Cx)(f:Aj)(r:Ac V->Hp->VK->Prop):Prop:=
 ∀(pI:Pn)(s:Ao)(Y:St)(H:Hp)(xs:Ac V)(us:Ac Aj)(Q:VK),Inv X pI Y H s->AX xs us->r xs H Q ->
  At (model X.prog X.w) X.A (call f us) (EP X pI Y Q) X.xe s
noncomputable def oE(X:Cx)(r:V->Hp->(Ai->Hp->Prop)->Prop):Prop:=
 ∀(pI:Pn)(s:Ao)(Y:St)(H:Hp)(x:V)(v:Aj)(Q:Ai->Hp->Prop),Inv X pI Y H s->Bi x v->r x H Q ->
  At (model X.prog X.w) X.A (truthy v) (TP X pI Y Q) X.xe s
def tOp(r:R2)(ta tb:TE):TE:=λY H Q=>ta Y H λx H1=>tb Y H1 λy H2=>r x y H2 Q
def tUn(r:V->Hp->VK->Prop)(ta:TE):TE:=λY H Q=>ta Y H λx H1=>r x H1 Q
def rI(C:Ah->Ah->Prop)(g:Ah->Ah->V):R2:=λx y H Q=>∃ i j,x=.int i/\y=.int j/\C i j/\Q (g i j) H
def rI0(g:Ah->Ah->V):R2:=λx y H Q=>∃ i j,x=.int i/\y=.int j/\Q (g i j) H
def rU(g:Ah->V):V->Hp->VK->Prop:=λx H Q=>∃ i,x=.int i/\Q (g i) H
section
variable{X:Cx}{a b c:Am}{ta tb tc:TE}{pos:Az}
theorem OW(ha:PE X a ta)(hb:PE X b tb){R:V->V->Hp->Prop}(I:Inv X pI Y H s)(h:ta Y H λx H1=>tb Y H1 λy H2=>R x y H2){Q:Vq}(hf:∀ v u s2 x y H2,Inv X pI Y H2 s2->Bi x v->Bi y u->R x y H2->At (model X.prog X.w) X.A (f v u) Q X.xe s2):At (model X.prog X.w) X.A (eval a X.env) (λv s₁=>At (model X.prog X.w) X.A (eval b X.env) (λu s₂=>At (model X.prog X.w) X.A (f v u) Q X.xe s₂) X.xe s₁) X.xe s:=by
 refine thn (ha pI s Y H _ I h) λv s1 ⟨x,H1,I1,r1,q1⟩=>?_
 refine thn (hb pI s1 Y H1 _ I1 q1) λu s2 ⟨y,H2,I2,r2,q2⟩=>?_
 exact hf v u s2 x y H2 I2 r1 r2 q2
theorem SL{op:ED}(ho:OpR X (BM op) r)(ha:PE X a ta)(hb:PE X b tb):PE X (.BinOp a op b pos) (tOp r ta tb):=by
 intro pI s Y H Q I h;exact wpAny_BinOp (OW ha hb I h λv u s2 x y H2 I2 rx ry q=>ho pI s2 Y H2 x y v u Q I2 rx ry q)
theorem jJ{op:IA}{r:V->Hp->VK->Prop}(ho:UnR X (unaryOp op) r)(ha:PE X a ta):PE X (.UnaryOp op a pos) (tUn r ta):=by
 intro pI s Y H Q I h;exact UnaryOp_ (thn (ha pI s Y H _ I h) λv s1 ⟨x,H1,I1,r1,q1⟩=>ho pI s1 Y H1 x v Q I1 r1 q1)
theorem opI{C:Ah->Ah->Prop}(rule:∀(i j:Ah)(t u:Cd)(s:Ao)(Q:Vq)(E:Vq),C i j->Q (.int (g i j) s.toks) {s with toks:=s.toks+1}->At (model X.prog X.w) X.A (f (.int i t) (.int j u)) Q E s):OpR X f (rI C λi j=>.int (g i j)):=by
 intro pI s Y H x y v u Q I rx ry h;obtain⟨i,j,rfl,rfl,hc,q⟩:=h;obtain⟨t,rfl⟩:=rx;obtain⟨t',rfl⟩:=ry;exact rule i j t t' s _ _ hc ⟨.int (g i j),H,I.tok _,⟨_,rfl⟩,q⟩
theorem Tz(rule:∀(i j:Ah)(t u:Cd)(s:Ao)(Q:Vq)(E:Vq),Q (.int (g i j) s.toks) {s with toks:=s.toks+1}->At (model X.prog X.w) X.A (f (.int i t) (.int j u)) Q E s):OpR X f (rI0 λi j=>.int (g i j)):=by
 intro pI s Y H x y v u Q I rx ry h;obtain⟨i,j,rfl,rfl,q⟩:=h;obtain⟨t,rfl⟩:=rx;obtain⟨t',rfl⟩:=ry;exact rule i j t t' s _ _ ⟨.int (g i j),H,I.tok _,⟨_,rfl⟩,q⟩
theorem Me{g:Ah->Ah->Ai}(rule:∀(i j:Ah)(t u:Cd)(s:Ao)(Q:Vq)(E:Vq),Q (.bool (g i j)) s->At (model X.prog X.w) X.A (f (.int i t) (.int j u)) Q E s):OpR X f (rI0 λi j=>.bl (g i j)):=by
 intro pI s Y H x y v u Q I rx ry h;obtain⟨i,j,rfl,rfl,q⟩:=h;obtain⟨t,rfl⟩:=rx;obtain⟨t',rfl⟩:=ry;exact rule i j t t' s _ _ ⟨.bl (g i j),H,I,rfl,q⟩
def oJ(i j:Ah):Prop:=0<j/\j<1073741824
def oH(i j:Ah):Prop:=0<=j/\j<=1000000/\i.natAbs<2 ^ 64
def Ma(i j:Ah):Prop:=(-(2 ^ 64)<i/\i<2 ^ 64)\/(-(2 ^ 64)<j/\j<2 ^ 64)
theorem Ma.ok{i j:Ah}(h:Ma i j):J6 i j:=by
 rcases h with ⟨h1,h2⟩|⟨h1,h2⟩
 .exact .of_left (intBits_le_64 h1 h2)
 .exact .of_right (intBits_le_64 h1 h2)
theorem eI:OpR X (BM .Add) (rI0 λi j=>.int (i+j)):=Tz λ_ _ _ _ _ _ _ q=>add_int q
theorem eC:OpR X (BM .Sub) (rI0 λi j=>.int (i-j)):=Tz λ_ _ _ _ _ _ _ q=>sub_int q
theorem ZI:OpR X (BM .FloorDiv) (rI oJ λi j=>.int (i/j)):=opI λi j _ _ _ _ _ hc q=>by
 have h1:(0:Ah)<j:=hc.1;have h2:j<1073741824:=hc.2;exact floordiv_int (by omega) (by rw[Int.fdiv_eq_ediv_of_nonneg i (by omega)];exact q) (.inl (PyProof.noPylong_small (by omega)))
theorem eF:OpR X (BM .Mod) (rI (λ_ j=>0<j) λi j=>.int (i%j)):=opI λi j _ _ _ _ _ hc q=>by
 have h1:(0:Ah)<j:=hc;exact mod_int' (by omega) (by rw[Int.fmod_eq_emod_of_nonneg i (by omega)];exact q)
theorem eE:OpR X (BM .Pow) (rI oH λi j=>.int (i ^ j.toNat)):=opI λ_ _ _ _ _ _ _ hc q=>pow_int_small hc.1 hc.2.1 hc.2.2 q
theorem unI{f:Aj->EY Aj}{g:Ah->Ah}(rule:∀(i:Ah)(t:Cd)(s:Ao)(Q:Vq)(E:Vq),Q (.int (g i) s.toks) {s with toks:=s.toks+1}->At (model X.prog X.w) X.A (f (.int i t)) Q E s):UnR X f (rU λi=>.int (g i)):=by
 intro pI s Y H x v Q I rx h;obtain⟨i,rfl,q⟩:=h;obtain⟨t,rfl⟩:=rx;exact rule i t s _ _ ⟨.int (g i),H,I.tok _,⟨_,rfl⟩,q⟩
theorem bZ:UnR X (unaryOp .USub) (rU λi=>.int (-i)):=unI λ_ _ _ _ _ q=>neg_int q
end
section
variable{X:Cx}{a b c:Am}{ta tb tc:TE}{pos:Az}
theorem R7{Q:VK}{k k':Ai}(I:Inv X pI Y H s)(q:Q (.bl k) H)(e:k=k'):EP X pI Y Q (.bool k') s:=by
 subst e;exact⟨.bl k,H,I,rfl,q⟩
theorem lQ:OpR X (Co .Lt) (rI0 λi j=>.bl (decide (i<j))):=Me λ_ _ _ _ _ _ _ q=>lt_int q
theorem lR:OpR X (Co .LtE) (rI0 λi j=>.bl (decide (i<=j))):=Me λ_ _ _ _ _ _ _ q=>le_int q
theorem lS:OpR X (Co .Gt) (rI0 λi j=>.bl (decide (j<i))):=Me λ_ _ _ _ _ _ _ q=>gt_int q
theorem lT:OpR X (Co .GtE) (rI0 λi j=>.bl (decide (j<=i))):=Me λ_ _ _ _ _ _ _ q=>ge_int q
theorem eG:OpR X (Co .Is) (λx y H Q=>y=.non/\Q (.bl (decide (x=.non))) H):=by
 intro pI s Y H x y v u Q I rx ry h;obtain⟨rfl,q⟩:=h;cases ry;refine is_none_gen (R7 I q ?_);cases x<;>first
  |(cases rx;rfl)
  |(obtain⟨t,rfl⟩:=rx;rfl)
theorem ZG:OpR X (Co .IsNot) (λx y H Q=>y=.non/\Q (.bl (!decide (x=.non))) H):=by
 intro pI s Y H x y v u Q I rx ry h;obtain⟨rfl,q⟩:=h;cases ry;refine isnot_none_gen (R7 I q ?_);cases x<;>first
  |(cases rx;rfl)
  |(obtain⟨t,rfl⟩:=rx;rfl)
theorem ZA(ho:OpR X (Co op) r)(ha:PE X a ta)(hb:PE X b tb)(hm:F6 op b=Ad):PE X (.Compare a [op] [b] pos) (tOp r ta tb):=by
 intro pI s Y H Q I h;exact wpAny_Compare1 (OW ha hb I h λv u s2 x y H2 I2 rx ry q=>ho pI s2 Y H2 x y v u Q I2 rx ry q) hm
def Su(t:TE):TT:=λY H Q=>t Y H λx H'=>∃ k,x=.bl k/\Q k H'
theorem Z_7(ho:OpR X (Co op) r)(ha:PE X a ta)(hb:PE X b tb)(hm:F6 op b=Ad):PT X (.Compare a [op] [b] pos) (Su (tOp r ta tb)):=by
 intro pI s Y H Q I h;refine wpAny_isTrue_Compare1 (thn (ha pI s Y H _ I h) λv s1 ⟨x,H1,I1,r1,q1⟩=>thn (hb pI s1 Y H1 _ I1 q1) λu s2 ⟨y,H2,I2,r2,q2⟩=>
  thn (ho pI s2 Y H2 x y v u _ I2 r1 r2 q2) λc s3 ⟨z,H3,I3,r3,k,e,q3⟩=>?_) hm
 subst e;cases r3;exact Ck ⟨H3,I3,q3⟩
def cL(r r':R2)(ta tb tc:TE):TE:=λY H Q=>ta Y H λx H1=>tb Y H1 λy H2=>r x y H2 λz H3=>∃ k,z=.bl k /\
 (if k=Ab then tc Y H3 λw' H4=>r' y w' H4 Q else Q (.bl Ad) H3)
theorem Yx{op':CJ}{r':R2}(ho:OpR X (Co op) r)(ho':OpR X (Co op') r')(ha:PE X a ta)(hb:PE X b tb)(hc:PE X c tc)(hm:lastMarks [op,op'] [b,c]=Ad:=by with_unfolding_all rfl):PT X (.Compare a [op,op'] [b,c] pos) (Su (cL r r' ta tb tc)):=by
 intro pI s Y H Q I h;refine isTrue_chain (thn (ha pI s Y H _ I h) λv s1 ⟨x,H1,I1,r1,q1⟩=>test_link (thn (hb pI s1 Y H1 _ I1 q1) λu s2 ⟨y,H2,I2,r2,q2⟩=>
  thn (ho pI s2 Y H2 x y v u _ I2 r1 r2 q2) λd s3 ⟨z,H3,I3,r3,k,e,q3⟩=>?_)) hm
 subst e;cases r3;refine Ck ?_;cases k with
 |false=>
  obtain⟨k',e',q'⟩:=q3;cases e';exact ite_ff ⟨H3,I3,q'⟩
 |true=>
  refine ite_tt (test_last (thn (hc pI s3 Y H3 _ I3 q3) λw' s4 ⟨z',H4,I4,r4,q4⟩=>thn (ho' pI s4 Y H4 y z' u w' _ I4 r2 r4 q4) λd' s5 ⟨z2,H5,I5,r5,k2,e2,q5⟩=>?_))
  subst e2;cases r5;exact Ck ⟨H5,I5,q5⟩
noncomputable def T4(K:Fg)(x:V)(H:Hp)(k:Ai):Prop:=
  match x with
  |.non=>k=Ad
  |.bl b=>k=b
  |.int i=>k=(i != 0)
  |.str y=>y.length<=sizeLine/\k=((y.length:Ah) != 0)
  |.byt y=>y.size<=sizeLine/\k=((y.size:Ah) != 0)
  |.ref p=>(∃ xs,SqL K H p xs/\k=!xs.isEmpty)\/(∃ xs,SqT K H p xs/\k=!xs.isEmpty)\/∃ kvs,H p=Aa (.dK kvs)/\k=!kvs.isEmpty
  |_=>AV
theorem WS{κ:Type}{kvs:Ac (κ×V)}{vs:Ac (κ×Aj)}(r:KV kvs vs):(!vs.isEmpty)=!kvs.isEmpty:=by
 cases r<;>rfl
theorem Pf{its:Ac Aj}(r:AX xs its):(!its.toArray.isEmpty)=!xs.isEmpty:=by
 cases r<;>simp
theorem JD:(sizeLine:Af)<2 ^ 63:=by rw[BX];decide
theorem cB:oE X (λx H Q=>∃ k,T4 X.K x H k/\Q k H):=by
 intro pI s Y H x v Q I rx h;obtain⟨k,e,q⟩:=h;have hl:=JD;have hs:sizeLine=16777216:=BX;cases x with
 |non=>
  cases rx;have e':k=Ad:=e;subst e';exact truthy_none ⟨H,I,q⟩
 |bl b=>
  cases rx;have e':k=b:=e;subst e';exact Ck ⟨H,I,q⟩
 |int i=>
  obtain⟨t,rfl⟩:=rx;have e':k=(i != 0):=e;subst e';exact PySem.P.truthy_int ⟨H,I,q⟩
 |str y=>
  obtain⟨t,rfl⟩:=rx;obtain⟨hy,e'⟩:y.length<=sizeLine/\k=((y.length:Ah) != 0):=e;subst e';exact PySem.P.truthy_str (by omega) ⟨H,I.tok _,q⟩
 |byt y=>
  obtain⟨t,rfl⟩:=rx;obtain⟨hy,e'⟩:y.size<=sizeLine/\k=((y.size:Ah) != 0):=e;subst e';exact PySem.W.truthy_bytes (by omega) ⟨H,I.tok _,q⟩
 |ref p=>
  cases rx;have e':(∃ xs,SqL X.K H p xs/\k=!xs.isEmpty)\/(∃ xs,SqT X.K H p xs/\k=!xs.isEmpty)\/∃ kvs,H p=Aa (.dK kvs)/\k=!kvs.isEmpty:=e;rcases e' with ⟨xs,hx,e'⟩|⟨xs,hx,e'⟩|⟨kvs,hx,e'⟩
  .subst e';obtain⟨its,r,pl,hz⟩:=I.list hx;have hlen:=r.length;exact wpAny_truthy_list pl.isList (by simp only[AN];omega) ⟨H,I.tok _,by rw[Pf r];exact q⟩
  .subst e';obtain⟨its,r,pl,hz⟩:=I.tuple hx;have hlen:=r.length;exact truthy_tuple pl (by simp only[AN];omega) ⟨H,I.tok _,by rw[Pf r];exact q⟩
  .subst e';obtain⟨hz,hS,vs,r,m⟩:kvs.length<=sizeLine/\(p==Jk)=Ad/\∃ vs,KV kvs vs/\s.heap.DictOf (Np X.prog X.w) p vs:=I.hok p _ hx;have hlen:kvs.length=vs.length:=VG r;exact wpAny_truthy_dict hS m (by omega) ⟨H,I.tok _,by rw[WS r];exact q⟩
 |_=>exact(show AV from e).elim
theorem Yw(ha:PE X a ta)(he:∀ whole,Hf a X.env whole=(do let v <-whole;standAt a.pos;holding [v] (truthy v))):PT X a (λY H Q=>ta Y H λx H'=>∃ k,T4 X.K x H' k/\Q k H'):=by
 intro pI s Y H Q I h;exact isTrue_plain (thn (ha pI s Y H _ I h) λv s1 ⟨x,H1,I1,r1,q1⟩=>cB pI s1 Y H1 x v Q I1 r1 q1) (he _)
theorem WP:OpR X (BM .Add) (λx y H Q=>∃ i j,x=.str i/\y=.str j/\i.length+j.length<=sizeLine/\Q (.str (i++j)) H):=by
 intro pI s Y H x y v u Q I rx ry h;obtain⟨i,j,rfl,rfl,hz,q⟩:=h;obtain⟨t,rfl⟩:=rx;obtain⟨t',rfl⟩:=ry;exact add_str (λt' tk=>⟨.str (i++j),H,I.tok _,⟨_,rfl⟩,q⟩) hz
theorem GK{x:V}(r:AX [x] us):∃ u,us=[u]/\Bi x u:=by
 cases r with
 |cons r1 r2=>cases r2;exact⟨_,rfl,r1⟩
theorem Il{x:V}(r:AX [x,y] us):∃ u w',us=[u,w']/\Bi x u/\Bi y w':=by
 cases r with
 |cons r1 r2=>
  cases r2 with
  |cons r3 r4=>cases r4;exact⟨_,_,rfl,r1,r3⟩
theorem Xj(hc:X.calm=Ab):Gc X (.builtin "max") (λxs H Q=>∃ i j,xs=[.int i,.int j]/\Q (.int (if j>i then j else i)) H):=by
 intro pI s Y H xs us Q I r h;obtain⟨i,j,rfl,q⟩:=h;obtain⟨u,w',rfl,⟨t,rfl⟩,⟨t',rfl⟩⟩:=Il r;refine max_two_ints (I.ok.hd hc) λh' tk k=>⟨_,H,I.kept k,?_,q⟩
 by_cases hj:j>i
 .rw[AA hj,AA hj];exact⟨_,rfl⟩
 .rw[AH hj,AH hj];exact⟨_,rfl⟩
theorem Xi(hc:X.calm=Ab):Gc X (.builtin "min") (λxs H Q=>∃ i j,xs=[.int i,.int j]/\Q (.int (if j<i then j else i)) H):=by
 intro pI s Y H xs us Q I r h;obtain⟨i,j,rfl,q⟩:=h;obtain⟨u,w',rfl,⟨t,rfl⟩,⟨t',rfl⟩⟩:=Il r;refine min_two_ints (I.ok.hd hc) λh' tk k=>⟨_,H,I.kept k,?_,q⟩
 by_cases hj:j<i
 .rw[AA hj,AA hj];exact⟨_,rfl⟩
 .rw[AH hj,AH hj];exact⟨_,rfl⟩
theorem WC:Gc X (.type "str") (λxs H Q=>∃ i,xs=[.int i]/\i.natAbs.log2<1920/\Q (.str (toString i)) H):=by
 intro pI s Y H xs us Q I r h;obtain⟨i,rfl,hz,q⟩:=h;obtain⟨u,rfl,t,rfl⟩:=GK r;exact PySem.P.str_of_int hz ⟨.str _,H,I.tok _,⟨_,rfl⟩,q⟩
end
structure ObjM (h:AB) (x dx C:Ak) (mA:Ag->An Aj):Prop where
 obj:h.get? x=Aa (CM C dx)
 ns:h.Ns1 dx mA
 ne:dx≠x
theorem Xo(n:h.Ns1 dx mA):∃ od,h.get? dx=Aa od/\∀ name,FN name od=Aa (mA name):=by
 obtain⟨o,es,ep,ho,hd,hk,_,hm⟩:=n;refine⟨o,ho,λname=>?_⟩
 have e:=hm name;unfold nsFind findBy at e;rw[<-T8]at e;unfold FN;rw[hd];dsimp only;split
 .rename_i y q;rw[q]at e;exact congrArg Aa e
 .rename_i q;rw[q]at e;have a:es.toList.any (·.refKey)=Ad:=by
   rw[List.any_eq_false];intro y hy;obtain⟨z,t,hkey⟩:=hk y (Ua.mp hy);simp[DictEntry.refKey,hkey]
  have a':¬ es.toList.any (·.refKey)=Ab:=by rw[a];exact Av
  rw[AH a'];exact congrArg Aa e
theorem ObjM.look{x:Ak}(I:ObjM h x dx C mA):∃ od,PySem.W.InstAt h x (CM C dx) C (Aa od)/\∀ name,FN name od=Aa (mA name):=
 let ⟨od,ho,hl⟩:=Xo I.ns
 ⟨od,⟨I.obj,rfl,rfl,ho⟩,hl⟩
section
variable{prog:AJ}{w:AT}{A:AR}{E:Vq}{s:Ao}{K:Fg}{x dx C f:Ak}{mA:Ag->An Aj}{name:Ag}{v:Aj}
theorem bN{expr:Ai}{Q:Vq}(X:K.In s.heap)(I:ObjM s.heap x dx C mA)(hg:Ea K C name=Ab)(hh:EZ K C=Ab)(ha:Ar K (.ref C) name=Aa Ae)(hv:mA name=Aa v)(hv':V5 v=Ab)(h:Q v {s with toks:=s.toks+1}):At (model prog w) A (IB (.ref x) name expr) Q E s:=by
 obtain⟨od,J,hl⟩:=I.look;exact PySem.W.get_value X J (FJ hg).1 (PySem.W.findObj_own hh ha rfl (by rw[hl,hv])) hv' h
theorem YC{Q:Aj×Ac Aj->Ao->Prop}(X:K.In s.heap)(I:ObjM s.heap x dx C mA)(hg:Ea K C name=Ab)(hf:Ar K (.ref C) name=Aa (Aa (.ref f)))(ht:C4 K (.ref f)=Ab)(hv:mA name=Ae)(h:Q (.ref f,[.ref x]) s):At (model prog w) A (getMethod (.ref x) name pl) Q E s:=by
 obtain⟨od,J,hl⟩:=I.look;exact PySem.W.method_fn X J (FJ hg).1 (FJ hg).2 hf (AF.mp ht) (by show (FN name od).map (·.isSome)=Aa Ad;rw[hl,hv];rfl) h
theorem ZQ{ns:Ac Ag}(X:K.In s.heap)(I:ObjM s.heap x dx C mA)(hs:Ar K (.ref C) "__setattr__" = Aa (Aa (.builtin "object.__setattr__")))(hp:Gk K C=Ab)(ht:GU K C name=Aa Ae)(hh:EZ K C=Ab)(hw:H9 mA ns)(hsz:ns.length<=sizeLine)(h:∀ h',ObjM h' x dx C (λy=>if y=name then Aa v else mA y)->DX dx s.heap h'->Q () {s with heap:=h',toks:=s.toks+2}):At (model prog w) A (Jm (.ref x) name v) Q E s:=by
  obtain⟨od,J,hl⟩:=I.look;refine PySem.W.set_plain X J hs (PySem.W.osa_open (s:={s with toks:=s.toks+1}) (r:=Ae) X J hp ht λb=>?_)
  obtain⟨cd,hc,hd'⟩:=PySem.W.any_some hh;have hx:s.heap.get? x=Aa ⟨.ref C,Aa dx,.plain,#[]⟩:=I.obj;refine Ap (AM (Ap (Ap (Wp hx (Ap (PySem.W.Looks.here (s:={s with toks:=s.toks+1}) (PySem.W.looks_clsIn X hc) ?_))))))
  rw[hd'];refine AM (a:=Aa dx) (Ap (AM (Ap ?_)));refine wpAny_nsSet1 (s:={s with toks:=s.toks+1}) I.ns λh' hn2 hs2=>?_
  obtain⟨oD,esD,epD,hoD,hdD,hcD⟩:=hn2.count (PySem.Within.cons name v hw);refine Ap (Wq hoD (by rw[hdD];exact Wi (Bw hcD (by rw[AZ];omega))) ?_)
  exact AM (h _ ⟨(hs2.2 _ (CV I.ne)).trans I.obj,hn2,I.ne⟩ hs2)
theorem XE{R:GD->Ao->Prop}{vs:Ac Aj}(X:K.In s.heap)(hm:GS K C=Ab)(hi:Ar K (.ref C) "__init__" = Aa (Aa (.ref f)))(hf:EO K (.ref f)=Aa (.type "function"))(h:D0 (model prog w) (A.under (.builtin "type.__call__" ⟨.ref C::vs,kw⟩)) (.call (.ref f) ⟨.ref (s.heap.objs.size+1)::vs,kw⟩) (PySem.W.InitBack (s.heap.objs.size+1) R)
      {s with heap:=(s.heap.push Cb).push (CM C s.heap.objs.size)}):D0 (model prog w) A (.call (.ref C) ⟨vs,kw⟩) R s:=by
  obtain⟨hh,g,d,t,os⟩:=s;exact PySem.W.make_core (PySem.W.makes_of X hm) (BU X hi) (λself=>PySem.W.bind_fn X self hf) (.inl rfl) h
end
noncomputable def Er(f:Ag)(v:V):Ac (Ag×V)->Ac (Ag×V)
 |[]=>[(f,v)]
 |(g,x)::r=>if g=f then (g,v)::r else (g,x)::Er f v r
theorem Pq(f g:Ag)(v:V):∀ fs:Ac (Ag×V),(Er f v fs).lookup g=if g=f then Aa v else fs.lookup g
 |[]=>by
  show BH g [(f,v)]=_;by_cases h:g=f
  .have hb:(g==f)=Ab:=AF.mpr h;simp only[BH,hb,AA h]
  .have hb:(g==f)=Ad:=Cr.mpr h;simp only[BH,hb,AH h]
 |(k,x)::r=>by
  have ih:=Pq f g v r;rw[show Er f v ((k,x)::r)=(if k=f then (k,v)::r else (k,x)::Er f v r) from rfl]
  by_cases hk:k=f
  .rw[AA hk];by_cases h:g=k
   .have hb:(g==k)=Ab:=AF.mpr h;simp only[BH,hb,AA (h.trans hk)]
   .have hb:(g==k)=Ad:=Cr.mpr h;simp only[BH,hb,AH (λe:g=f=>h (e.trans hk.symm))]
  .rw[AH hk];by_cases h:g=k
   .have hb:(g==k)=Ab:=AF.mpr h;simp only[BH,hb,AH (λe:g=f=>hk (h.symm.trans e))]
   .have hb:(g==k)=Ad:=Cr.mpr h;simp only[BH,hb];exact ih
theorem MT(f:Ag)(v:V):∀ fs:Ac (Ag×V),f∈(Er f v fs).map (·.1)/\∀ g,g∈fs.map (·.1)->g∈(Er f v fs).map (·.1)
 |[]=>⟨by simp[Er],λg h=>by simp at h⟩
 |(k,x)::r=>by
  obtain⟨i1,i2⟩:=MT f v r;rw[show Er f v ((k,x)::r)=(if k=f then (k,v)::r else (k,x)::Er f v r) from rfl]
  by_cases hk:k=f
  .rw[AA hk];subst hk;exact⟨by simp,λg h=>by simpa using h⟩
  .rw[AH hk];refine⟨?_,λg h=>?_⟩
   .rw[BY];exact Aw _ i1
   .rw[BY]at h ⊢;rcases AG.mp h with e|e
    .exact List.mem_cons.mpr (.inl e)
    .exact Aw _ (i2 g e)
theorem Ps(f:Ag)(v:V):∀ fs:Ac (Ag×V),(Er f v fs).length<=fs.length+1
 |[]=>by simp[Er]
 |(k,x)::r=>by
  have ih:=Ps f v r;rw[show Er f v ((k,x)::r)=(if k=f then (k,v)::r else (k,x)::Er f v r) from rfl]
  by_cases hk:k=f
  .rw[AA hk,AZ,AZ];omega
  .rw[AH hk,AZ,AZ];omega
theorem GM.some_of{o:An Aj}(r:GM (Aa v) o):∃ u,o=Aa u/\Bi v u:=by
 cases o with
 |none=>exact(show AV from r).elim
 |some u=>exact⟨u,rfl,r⟩
theorem GM.none_of{o:An Aj}(r:GM Ae o):o=Ae:=by
 cases o with
 |none=>rfl
 |some u=>exact(show AV from r).elim
theorem P8(r:Bi v u):V5 u=Ab:=by
 cases v with
 |non=>cases (show u=CZ from r);rfl
 |bl b=>cases (show u=Hk b from r);rfl
 |int i=>obtain⟨t,e⟩:=(show ∃ t,u=HY i t from r);cases e;rfl
 |str x=>obtain⟨t,e⟩:=(show ∃ t,u=HZ x t from r);cases e;rfl
 |byt b=>obtain⟨t,e⟩:=(show ∃ t,u=VZ b t from r);cases e;rfl
 |flt b=>obtain⟨t,e⟩:=(show ∃ t,u=IE b t from r);cases e;rfl
 |ref a=>cases (show u=Bb a from r);rfl
 |ty n=>cases (show u=Ji n from r);rfl
section
variable{P:AJ}{w:AT}{H H':Hp}{h h':AB}{a C dx:Ak}{fs fs':Ac (Ag×V)}
theorem Lo(hok:HOk P w H h)(e:H a=Aa (.ins C dx fs)):∃ mA,ObjM h a dx C mA/\(∀ f,GM (fs.lookup f) (mA f))/\H9 mA (fs.map (·.1))/\fs.length<=1000/\H dx=Aa (.own a):=by
 obtain⟨d,z,ne,ob,mA,n,r,q⟩:=(show ObjOk P w H h a (.ins C dx fs) from hok a _ e)
 exact⟨mA,⟨ob,n,ne⟩,r,q,z,d⟩
end
structure Cls (K:Fg) (C:Ak):Prop where
 pg:Ea K C CQ=Ab
 hd:EZ K C=Ab
 po:Gk K C=Ab
 sa:Ar K (.ref C) "__setattr__" = Aa (Aa (.builtin "object.__setattr__"))
theorem Cls.get{K:Fg}(c:Cls K C)(f:Ag):Ea K C f=Ab:=c.pg
def F9(K:Fg)(C:Ak)(f:Ag):Prop:=Ar K (.ref C) f=Aa Ae
theorem F9.taker{K:Fg}{f:Ag}(n:F9 K C f):GU K C f=Aa Ae:=by
 unfold GU;rw[show Ar K (.ref C) f=Aa Ae from n]
 rfl
structure Meth (K:Fg) (C:Ak) (m:Ag) (f:Ak):Prop where
 at_:Ar K (.ref C) m=Aa (Aa (.ref f))
 fn:C4 K (.ref f)=Ab
 kp:A8 K (.ref f)=Ab
section
variable{X:Cx}{pI:Pn}{Y:St}{H:Hp}{s:Ao}{a C dx:Ak}{fs:Ac (Ag×V)}{f:Ag}{v:V}{A:AR}{E:Vq}
theorem WV{b:Ai}{Q:Vq}(I:Inv X pI Y H s)(e:H a=Aa (.ins C dx fs))(c:Cls X.K C)(n:F9 X.K C f)(l:fs.lookup f=Aa v)(h:∀ u s',Inv X pI Y H s'->Bi v u->Q u s'):At (model X.prog X.w) A (IB (.ref a) f b) Q E s:=by
 obtain⟨mA,O,r,_,_,_⟩:=Lo I.hok e;obtain⟨u,hu,ru⟩:=GM.some_of (v:=v) (o:=mA f) (by rw[<-l];exact r f)
 exact bN I.kIn O (c.get f) c.hd n hu (P8 ru) (h u _ (I.tok _) ru)
theorem WU{m:Ag}{g:Ak}{Q:Aj×Ac Aj->Ao->Prop}(I:Inv X pI Y H s)(e:H a=Aa (.ins C dx fs))(c:Cls X.K C)(k:Meth X.K C m g)(l:fs.lookup m=Ae)(h:Q (.ref g,[.ref a]) s):At (model X.prog X.w) A (getMethod (.ref a) m pl) Q E s:=by
 obtain⟨mA,O,r,_,_,_⟩:=Lo I.hok e;have hn:mA m=Ae:=GM.none_of (by rw[<-l];exact r m)
 exact YC I.kIn O (c.get m) k.at_ k.fn hn h
theorem WM(I:Inv X pI Y H s)(e:H a=Aa (.ins C dx fs))(c:Cls X.K C)(n:F9 X.K C f)(hl:fs.length<1000)(ry:Bi y u)(h:∀ s',Inv X pI Y (upd H a (.ins C dx (Er f y fs))) s'->Q () s'):At (model X.prog X.w) A (Jm (.ref a) f u) Q E s:=by
 obtain⟨mA,O,r,wi,_,ho⟩:=Lo I.hok e;have hz:(fs.map (·.1)).length<=sizeLine:=by rw[BD,BX];omega
 refine ZQ I.kIn O c.sa c.po n.taker c.hd wi hz λh' O' sb=>h _ ?_
 have hd:∃ o,h'.get? dx=Aa o:=let ⟨o,_,_,e',_⟩:=O'.ns;⟨o,e'⟩
 refine I.write (x:=a) (e:=dx) (by rw[e];exact ET) (.inr ho) (λb q hb z=>(sb.2 b hb).trans z) hd ?_
 refine⟨by rw[A6 O.ne];exact ho,?_,O.ne,O'.obj,_,O'.ns,λg=>?_,λg hg=>?_⟩
 .have:=Ps f y fs;omega
 .show GM ((Er f y fs).lookup g) (if g=f then Aa u else mA g)
  rw[Pq];by_cases q:g=f
  .rw[AA q,AA q];exact ry
  .rw[AH q,AH q];exact r g
 .by_cases q:g=f
  .rw[q];exact(MT f y fs).1
  .refine(MT f y fs).2 g (wi g λz=>hg ?_)
   show (if g=f then Aa u else mA g)=Ae
   rw[AH q];exact z
theorem Inv.made(I:Inv X pI Y H s):Inv X pI Y (upd (upd H s.heap.objs.size (.own (s.heap.objs.size+1))) (s.heap.objs.size+1) (.ins C s.heap.objs.size [])) {s with heap:=(s.heap.push Cb).push (CM C s.heap.objs.size)}:=by
  have e1:(s.heap.push Cb).get? s.heap.objs.size=Aa Cb:=AW s.heap rfl;have e2:((s.heap.push Cb).push (CM C s.heap.objs.size)).get? (s.heap.objs.size+1)=Aa (CM C s.heap.objs.size):=by
    have:=AW (s.heap.push Cb) (o:=CM C s.heap.objs.size) rfl
    rwa [CW]at this
  have e3:(s.heap.push Cb).Ns s.heap.objs.size (λ_=>Ae):=⟨Cb,#[],_,e1,rfl,(λe he=>absurd he (by simp)),λ_=>rfl⟩
  have I1:=I.laid (a:=s.heap.objs.size) (o:=.own (s.heap.objs.size+1)) (h':=s.heap.push Cb) (t':=s.toks) (λb u q=>As _ q) (AI _) ⟨_,e1⟩
  refine I1.laid (a:=s.heap.objs.size+1) (o:=.ins C s.heap.objs.size []) (t':=s.toks) (λb u q=>As _ q) (UF (CW _ _)) ?_
  have ne:s.heap.objs.size≠s.heap.objs.size+1:=A9 (Ff _);refine⟨by rw[A6 ne,Dh],DP _,ne,e2,λ_=>Ae,(VA e3).at λo q=>As _ q,λ_=>ET,λy hy=>absurd rfl hy⟩
theorem Rg{prog:AJ}{w:AT}{env:B2}{f:Ag}{Q:Vq}(hb:CS e f env (eval e env)=eval e env)(h:At (model prog w) A (eval e env) (λo s₁=>At (model prog w) A (IB o f Ab) Q E s₁) E s):At (model prog w) A (eval (.Attribute e f pos) env) Q E s:=
 Attribute_any_ h (by rw[arm_eval_Attribute,hb])
end
def nF(K:Fg)(ta tv:TE)(f:Ag):TS:=λD Y H=>tv Y H λy H1=>ta Y H1 λx H2=>∃ a C dx fs,x=.ref a/\H2 a=Aa (.ins C dx fs)/\Cls K C/\F9 K C f/\fs.length<1000 /\
 D.nx Y (upd H2 a (.ins C dx (Er f y fs)))
section
variable{X:Cx}{o e value:Am}{f:Ag}{pos pos' tpos:Az}{ta tv:TE}
theorem RX(ha:PE X o ta)(hv:PE X value tv)(hs:Cp value (Aa (.Attribute o f pos')) pos.line X.env=pure Ad):PS X (.Assign [.Attribute o f pos'] value pos) (nF X.K ta tv f):=by
 intro pI s Y H D I h;refine Wj (thn (hv pI s Y H _ I h) λu s1 ⟨y,H1,I1,ry,q⟩=>thn (ha pI s1 Y H1 _ I1 q) λov s2 ⟨x,H2,I2,rx,a,C,dx,fs,ex,ea,c,n,l,q2⟩=>?_) hs
 subst ex;obtain rfl:ov=Bb a:=rx;exact WM I2 ea c n l ry λs3 I3=>⟨Y,_,I3,q2⟩
end
section
variable{X:Cx}{pI:Pn}{Y:St}{H:Hp}{s:Ao}{A:AR}{E:Vq}{Q:Vq}{c:Aj}{b:Ai}
inductive TyOf (K:Fg) (H:Hp):V->Aj->Prop where
  |non:TyOf K H .non (.type "NoneType")
  |bl (x:Ai):TyOf K H (.bl x) (.type "bool")
  |int (i:Ah):TyOf K H (.int i) (.type "int")
  |str (x:Ag):TyOf K H (.str x) (.type "str")
  |flt (x:UInt64):TyOf K H (.flt x) (.type "float")
  |lst {a:Ak} {xs:Ac V} (e:H a=Aa (.lst xs)):TyOf K H (.ref a) (.type "list")
  |frz {a:Ak} {o:Cz} {xs:Ac V} (e:H a=Aa (.frz o (.lst xs))):TyOf K H (.ref a) (.type "list")
  |tup {a:Ak} {xs:Ac V} (e:H a=Aa (.tup xs)):TyOf K H (.ref a) (.type "tuple")
  |dK {a:Ak} {kvs:Ac (Key×V)} (e:H a=Aa (.dK kvs)):TyOf K H (.ref a) (.type "dict")
  |dT {a:Ak} {kvs:Ac (Ac Key×V)} (e:H a=Aa (.dT kvs)):TyOf K H (.ref a) (.type "dict")
  |ins {a C dx:Ak} {fs:Ac (Ag×V)} (e:H a=Aa (.ins C dx fs)) (cl:Cls K C) (ha:Ar K (.ref C) "__class__" = Aa (Aa (.builtin "object.__class__")))
      (hn:BJ K (.builtin "object.__class__") "__get__" = Aa (Aa (.builtin "getset_descriptor.__get__"))) (htk:GV K (.builtin "object.__class__")=Aa Ab)
      (hm:Fc K C (.type "object")=Aa Ab):TyOf K H (.ref a) (.ref C)
theorem Xp{x:V}{t:Aj}(I:Inv X pI Y H s)(rx:Bi x u)(ty:TyOf X.K H x t)(e:CY X.K t c=Aa b)(h:∀ tk,Q (.bool b) {s with toks:=tk}):
  At (model X.prog X.w) A (call (.builtin "isinstance") [u,c]) Q E s:=by
 cases ty with
 |non=>cases (show u=CZ from rx);exact BS PySem.W.kitx_none I.kIn ET e (λz=>nomatch z) h
 |bl y=>cases (show u=Hk y from rx);exact BS PySem.W.kitx_bool I.kIn ET e (λz=>nomatch z) h
 |int i=>obtain⟨t,q⟩:=(show ∃ t,u=HY i t from rx);cases q;exact BS PySem.W.kitx_int I.kIn ET e (λz=>nomatch z) h
 |str y=>obtain⟨t,q⟩:=(show ∃ t,u=HZ y t from rx);cases q;exact BS PySem.W.kitx_str I.kIn ET e (λz=>nomatch z) h
 |flt y=>obtain⟨t,q⟩:=(show ∃ t,u=IE y t from rx);cases q;exact BS PySem.W.kitx_float I.kIn ET e (λz=>nomatch z) h
 | @lst a xs ea=>
  cases (show u=Bb a from rx)
  obtain⟨_,_,n,_,h1⟩:=(show ObjOk X.prog X.w H s.heap a (.lst xs) from I.hok a _ ea)
  exact BS V9 I.kIn ⟨_,h1,rfl⟩ e (λz=>nomatch z) h
 | @frz a ob xs ea=>
  cases (show u=Bb a from rx)
  obtain⟨_,_,_,n,_,h1⟩:=(show ObjOk X.prog X.w H s.heap a (.frz ob (.lst xs)) from I.hok a _ ea)
  exact BS V9 I.kIn ⟨_,h1,rfl⟩ e (λz=>nomatch z) h
 | @tup a xs ea=>
  cases (show u=Bb a from rx)
  obtain⟨_,_,_,p⟩:=(show ObjOk X.prog X.w H s.heap a (.tup xs) from I.hok a _ ea)
  obtain⟨o,h1,h2,_⟩:=p;exact BS PySem.W.kitx_tuple I.kIn ⟨o,h1,h2⟩ e (λz=>nomatch z) h
 | @dK a kvs ea=>
  cases (show u=Bb a from rx)
  obtain⟨_,_,vs,_,p⟩:=(show ObjOk X.prog X.w H s.heap a (.dK kvs) from I.hok a _ ea)
  obtain⟨o,es,ep,h1,h2,_⟩:=p;exact BS V8 I.kIn ⟨o,h1,h2.1⟩ e (λz=>nomatch z) h
 | @dT a kvs ea=>
  cases (show u=Bb a from rx)
  obtain⟨_,_,xs,_,o,es,ep,h1,h2,_⟩:=(show ObjOk X.prog X.w H s.heap a (.dT kvs) from I.hok a _ ea)
  exact BS V8 I.kIn ⟨o,h1,h2.1⟩ e (λz=>nomatch z) h
 | @ins a C dx fs ea cl ha hn htk hm=>
  cases (show u=Bb a from rx)
  obtain⟨mA,O,_⟩:=Lo I.hok ea;obtain⟨od,J,_⟩:=O.look;exact BS (PySem.W.kitx_own (cl.get _) cl.hd ha hn htk hm) I.kIn J e (λz=>nomatch z) h
end
structure Room (k:Af) (A:AR):Prop where
 hd:A.handled=Ae
 dp:A.depth+3*k+5<Hi
 un:A.units+16*k+200<BE
 gd:A.guards=Aa []
theorem Room.mono{j:Af}{A:AR}(r:Room k A)(h:j<=k):Room j A:=⟨r.hd,by have:=r.dp;omega,by have:=r.un;omega,r.gd⟩
theorem Room.deeper{A:AR}(r:Room (k+1) A)(env:B2):Room k (A.deeper env):=
 ⟨r.hd,by have:=r.dp;show A.depth+1+3*k+5<_;omega,by have:=r.un;show A.units+3+16*k+200<_;omega,r.gd⟩
theorem MN{A:AR}:(A.under (.builtin "type.__call__" ⟨.ref C::us,kw⟩)).depth=A.depth+1:=by
 first|rfl|simp[HU,Code.weight,Code.isCreation,Code.isGuard,Code.isCaller,UX,HV,guardIds]
theorem MM{A:AR}:(A.under (.builtin "type.__call__" ⟨.ref C::us,kw⟩)).units=A.units+1:=by
 first|rfl|simp[HU,Code.cUnits,UX,HV]
theorem Room.make{A:AR}(r:Room (k+1) A)(C:Ak)(us:Ac Aj)(kw:Ac (Ag×Aj)):Room k (A.under (.builtin "type.__call__" ⟨.ref C::us,kw⟩)):=
 ⟨r.hd,by have:=r.dp;rw[MN];omega,by have:=r.un;rw[MM];omega,r.gd⟩
theorem Room.depth{A:AR}(r:Room k A):A.depth<Hi:=by have:=r.dp;omega
theorem Room.units{A:AR}(r:Room k A):A.units+64<BE:=by have:=r.un;omega
def mU:TA:=λ_ H Q=>Q [] H
def iL(ta:TE)(tr:TA):TA:=λY H Q=>ta Y H λx H1=>tr Y H1 λxs H2=>Q (x::xs) H2
section
variable{X:Cx}{e:Am}{es:Ac Am}{te:TE}{t:TA}{pos:Az}
theorem E3:PA X [] mU:=λ_ _ _ _ H Q I h=>Calls.spliced_nil ⟨[],H,I,.nil,h⟩
theorem Dz(ha:PE X e te)(hr:PA X es t)(hs:Aq (e::es) X.env=(Ad,eval e X.env)::Aq es X.env:=by rfl):PA X (e::es) (iL te t):=by
 intro pos pI s Y H Q I h;rw[hs];show At _ _ (spliced ((Ad,eval e X.env)::Br pos (Aq es X.env))) _ _ s;refine Calls.spliced_cons (thn (ha pI s Y H _ I h) λu s1 ⟨x,H1,I1,r1,q1⟩=>?_)
 exact thn (hr pos pI s1 Y H1 _ I1 q1) λus s2 ⟨xs,H2,I2,r2,q2⟩=>⟨x::xs,H2,I2,.cons r1 r2,q2⟩
def nO(t:TA):TE:=λY H Q=>t Y H λxs H1=>xs.length<=sizeLine/\∀ p,H1 p=Ae->Q (.ref p) (upd H1 p (.tup xs))
def mV(t:TA):TE:=λY H Q=>t Y H λxs H1=>xs.length<=sizeLine/\∀ p,H1 p=Ae->Q (.ref p) (upd H1 p (.lst xs))
theorem RZ{x1}(h:PA X es t):PE X (.Tuple es x1 pos) (nO t):=by
 intro pI s Y H Q I hq;refine wpAny_Tuple_spliced (thn (h pos pI s Y H _ I hq) λus s1 ⟨xs,H1,I1,r,z,q⟩=>⟨by rw[<-r.length];exact z,?_⟩)
 have hf:H1 s1.heap.objs.size=Ae:=I1.hok.fresh (AI _);refine⟨.ref s1.heap.objs.size,upd H1 s1.heap.objs.size (.tup xs),I1.laid (t':=s1.toks) (λb u e=>As _ e) (AI _) ?_,rfl,q _ hf⟩
 exact⟨z,us,r,⟨_,AW _ rfl,rfl,_,rfl⟩⟩
theorem dZ(h:PA X es t):PE X (.List es pos) (mV t):=by
 intro pI s Y H Q I hq;refine wpAny_List_spliced (thn (h pos pI s Y H _ I hq) λus s1 ⟨xs,H1,I1,r,z,q⟩=>⟨by rw[<-r.length];exact z,?_⟩)
 have hf:H1 s1.heap.objs.size=Ae:=I1.hok.fresh (AI _);refine⟨.ref s1.heap.objs.size,upd H1 s1.heap.objs.size (.lst xs),I1.laid (t':=s1.toks) (λb u e=>As _ e) (AI _) ?_,rfl,q _ hf⟩
 exact⟨z,us,0,r,AW _ rfl⟩
end
abbrev Sp:=Ac V->Hp->VK->XK->Prop
variable{sp:Sp}
abbrev CXT:=Ac B2->Hp->Ao->XK->Aj->Ao->Prop
variable{CX:CXT}
structure Env0 (P:AJ) (w:AT) (K:Fg) (mg:Ag->An Aj) (base:AB) (A:AR) (outer:Ac B2) (s:Ao) (H:Hp):Prop where
 frames:A.frames=Aa outer
 mod:Mod K mg base
 bs:∀ b o,base.get? b=Aa o->s.heap.get? b=Aa o/\H b=Ae
 bsz:base.objs.size<=s.heap.objs.size
 funs:s.heap.FunFrames base outer
 frf:∀ b∈frs outer,H b=Ae
 hok:HOk P w H s.heap
 bare:EN s.gens
noncomputable def CE(outer:Ac B2)(P:AJ)(w:AT)(H:Hp)(s:Ao)(Q:VK)(u:Aj)(s':Ao):Prop:=
 ∃ v H',s'.os=s.os/\EN s'.gens/\Un (frs outer) [] H H' s.heap s'.heap/\HOk P w H' s'.heap/\Bi v u/\Q v H'
noncomputable def CR(CX:CXT)(outer:Ac B2)(P:AJ)(w:AT)(H:Hp)(s:Ao)(Q:VK)(E:XK)(r:GD)(s':Ao):Prop:=
  match r with
  |.ok (.ret u)=>CE outer P w H s Q u s'
  |.ok _=>AV
  |.error e=>CX outer H s E e s'
structure FnOk (P:AJ) (w:AT) (K:Fg) (mg:Ag->An Aj) (base:AB) (CX:CXT) (k:Af) (f:Ak) (fd:Bq) (ps:Ac Ag) (sp:Sp):Prop where
 len:∀ vs H Q E,sp vs H Q E->vs.length=ps.length
 run:∀(A:AR)(outer:Ac B2)(s:Ao)(H:Hp)(args:Args)(us:Ac Aj)(vs:Ac V)(Q:VK)(E:XK),Room k A->Env0 P w K mg base A outer s H->FM s fd args (ps.zip us)->AX vs us->sp vs H Q E ->
  D0 (model P w) A (.call (.ref f) args) (CR CX outer P w H s Q E) s
theorem FnOk.imp{w:AT}{K:Fg}{mg:Ag->An Aj}{base:AB}{f:Ak}{sp':Sp}(F:FnOk P w K mg base CX k f fd ps sp)(h:∀ vs H Q E,sp' vs H Q E->sp vs H Q E):FnOk P w K mg base CX k f fd ps sp':=
 ⟨λvs H Q E q=>F.len vs H Q E (h _ _ _ _ q),λA outer s H args us vs Q E hr he hb hv hs=>F.run A outer s H args us vs Q E hr he hb hv (h _ _ _ _ hs)⟩
theorem Env0.make{w:AT}{K:Fg}{mg:Ag->An Aj}{base:AB}{A:AR}{outer:Ac B2}(e:Env0 P w K mg base A outer s H)(C:Ak)(us:Ac Aj)(kw:Ac (Ag×Aj)):
    Env0 P w K mg base (A.under (.builtin "type.__call__" ⟨.ref C::us,kw⟩)) outer s H:=⟨by first|exact e.frames|(simpa [HU,Code.envs,HV,pushEnvs] using e.frames),e.mod,e.bs,e.bsz,e.funs,e.frf,e.hok,e.bare⟩
section
variable{X:Cx}{pI:Pn}{Y:St}{H:Hp}{s s':Ao}
theorem Inv.env0(I:Inv X pI Y H s):Env0 X.prog X.w X.K X.mg X.base X.A X.stack s H:=
 ⟨I.ok.frames,I.ok.mod,I.bs,Bw I.ok.bsz I.sz,I.stack,I.stkFree,I.hok,I.bare⟩
theorem Inv.after{Q:VK}(I:Inv X pI Y H s)(h:CE X.stack X.prog X.w H s Q u s'):EP X pI Y Q u s':=by
 obtain⟨v,H',os,bare,un,hok,r,q⟩:=h;obtain⟨hh,g,d,t,os'⟩:=s';obtain rfl:os'=s.os:=os;exact⟨v,H',I.call (h':=hh) (g':=g) (d':=d) (t':=t) (ch:=[]) un hok bare (λb z=>absurd z (by simp)),r,q⟩
end
def iM(sp:Sp)(dvs:Ac V)(E:XK)(t:TA):TE:=λY H Q=>t Y H λvs H1=>sp (vs++dvs) H1 Q E
noncomputable def Eb(K:Fg)(fd:Bq)(ps:Ac Ag)(ds:Ac Aj):Prop:=
 ∀(s:Ao)(us:Ac Aj),K.In s.heap->(us++ds).length=ps.length->FM s fd ⟨us,[]⟩ (ps.zip (us++ds))
theorem Eb.all{K:Fg}(h:∀ us:Ac Aj,us.length=ps.length->FO fd ⟨us,[]⟩=pure (ps.zip us)):Eb K fd ps []:=λs us _ hl=>by
 rw[Ch]at hl ⊢;exact .of_eq (h us hl)
def Hy(CX:CXT)(X:Cx)(E:XK):Prop:=∀(pI:Pn)(Y:St)(H:Hp)(s:Ao)(e:Aj)(s':Ao),Inv X pI Y H s->CX X.stack H s E e s'->X.xe e s'
section
variable{X:Cx}{CX:CXT}{k:Af}{f C:Ak}{fd:Bq}{ps:Ac Ag}{sp:Sp}{dvs:Ac V}{ds:Ac Aj}{E:XK}{x m:Ag}{p pos apos:Az}{e o:Am}{es:Ac Am}{ta:TE}{t:TA}
theorem RV{Q:VK}(F:FnOk X.prog X.w X.K X.mg X.base CX k f fd ps sp)(hr:Room k X.A)(hb:Eb X.K fd ps ds)(hd:AX dvs ds)(hx:Hy CX X E)(I:Inv X pI Y H s)(r:AX vs us)(h:sp (vs++dvs) H Q E):At (model X.prog X.w) X.A (call (.ref f) us) (EP X pI Y Q) X.xe s:=by
 have r2:AX (vs++dvs) (us++ds):=r.append hd;have hl:(us++ds).length=ps.length:=by rw[<-r2.length];exact F.len _ _ _ _ h
 refine ER (D1 (F.run X.A X.stack s H ⟨us,[]⟩ (us++ds) (vs++dvs) Q E hr I.env0 (hb s us I.kIn hl) r2 h) λr s' hq=>?_)
 cases r with
 |error e=>exact hx pI Y H s e s' I hq
 |ok fl=>
  cases fl with
  |ret u=>exact I.after hq
  |next=>exact A1 hq
  |brk=>exact A1 hq
  |cont=>exact A1 hq
theorem QM(F:FnOk X.prog X.w X.K X.mg X.base CX k f fd ps sp)(hr:Room k X.A)(hg:Gl X x)(hm:X.mg x=Aa (.ref f))(hk:A8 X.K (.ref f)=Ab)(hb:Eb X.K fd ps ds)(hd:AX dvs ds)(hx:Hy CX X E)(ha:PA X (e::es) t)(hdb:(x==("__debug__" : Ag))=Ad:=by decide)(he:Aq (e::es) X.env=(Ad,eval e X.env)::Aq es X.env:=by rfl)(hpl:(Br pos (Aq es X.env)).any (·.1)=Ad:=by rfl):PE X (.Call (.Name x p) (e::es) [] pos) (iM sp dvs E t):=by
 intro pI s Y H Q I h;refine CF (G1 I hg hm ?_ hdb);refine DM (h₀:=X.base) I.ok.mod.kin hk (thn (ha pos pI s Y H _ I h) λus s1 ⟨vs,H1,I1,r,q⟩=>⟨I1.kIn,?_⟩) he hpl
 exact RV F hr hb hd hx I1 r q
structure Mk (K:Fg) (C f:Ak):Prop where
 makes:GS K C=Ab
 init:Ar K (.ref C) "__init__" = Aa (Aa (.ref f))
 fn:C4 K (.ref f)=Ab
 kp:A8 K (.ref C)=Ab
theorem Yu{Q:VK}(M:Mk X.K C f)(F:FnOk X.prog X.w X.K X.mg X.base CX k f fd ps sp)(hr:Room (k+1) X.A)(hb:Eb X.K fd ps ds)(hd:AX dvs ds)(hx:Hy CX X E)(I:Inv X pI Y H s)(r:AX vs us)(h:∀ x dx,H x=Ae->H dx=Ae->dx≠x->sp (.ref x::(vs++dvs)) (upd (upd H dx (.own x)) x (.ins C dx [])) (λv H2=>v=.non/\Q (.ref x) H2) E):At (model X.prog X.w) X.A (call (.ref C) us) (EP X pI Y Q) X.xe s:=by
 have hq:=h (s.heap.objs.size+1) s.heap.objs.size (I.hok.fresh (ID _)) (I.hok.fresh (AI _)) (A9 (Ff _));have I2:=Inv.made (C:=C) I;have r2:AX (V.ref (s.heap.objs.size+1)::(vs++dvs)) (Bb (s.heap.objs.size+1)::(us++ds)):=.cons rfl (r.append hd);have hl:(Bb (s.heap.objs.size+1)::us++ds).length=ps.length:=by
  have e:=r2.length;rw[F.len _ _ _ _ hq]at e;exact e.symm
 refine ER (XE (f:=f) I.kIn M.makes M.init (AF.mp M.fn) (D1 (F.run _ X.stack _ _ ⟨Bb (s.heap.objs.size+1)::us,[]⟩ (Bb (s.heap.objs.size+1)::(us++ds)) _ _ E (hr.make C us [])
  (I2.env0.make C us []) (hb _ (Bb (s.heap.objs.size+1)::us) I2.kIn hl) r2 hq) λr s' hq'=>?_))
 cases r with
 |error e=>exact hx pI Y _ _ e s' I2 hq'
 |ok fl=>
  cases fl with
  |ret u=>
   obtain⟨v,H',I3,rv,ev,q3⟩:=I2.after hq';subst ev;exact⟨rv,⟨V.ref (s.heap.objs.size+1),H',I3,rfl,q3⟩⟩
  |next=>exact A1 hq'
  |brk=>exact A1 hq'
  |cont=>exact A1 hq'
end
section
variable{X:Cx}{CX:CXT}{k:Af}{f C:Ak}{fd:Bq}{ps ks:Ac Ag}{sp:Sp}{E:XK}{x m:Ag}{p pos apos kpos:Az}{e o:Am}{es:Ac Am}{kws:Ac DY}{te ta:TE}{t tk:TA}{nm:An Ag}
variable{g:Ac Aj->Ac Aj->Ac Aj}{gV:Ac V->Ac V->Ac V}
end
structure FnScope (N P:Ac Ag) (sc:BL):Prop where
 kind:sc.kind=.function
 co:sc.isCoroutine=Ad
 gen:sc.isGenerator=Ad
 nd:N.Nodup
 pre:N.take P.length=P
 par:∀ x∈P,sc.names.lookup x=Aa .local\/sc.names.lookup x=Aa .cell
 nofree:∀ y∈sc.names,y.2≠.free
theorem Qd{kindOf:Ag->An Dx}{x:Ag}:∀{binds:Ac (Ag×Aj)}{m:Ag->An Aj},(∀ v,(x,v)∉binds)->Hn kindOf binds m x=m x
 |[],_,_=>rfl
 |(n,v)::r,m,h=>by
  unfold Hn;rw[Qd λw hw=>h w (Aw _ hw)]
  split
  .have:x≠n:=by rintro rfl;exact h v AC
   simp[this]
  .rfl
theorem Qf{kindOf:Ag->An Dx}{x:Ag}:∀{binds:Ac (Ag×Aj)}{m:Ag->An Aj},(∀ v,(x,v)∉binds)->Hm kindOf binds m x=m x
 |[],_,_=>rfl
 |(n,v)::r,m,h=>by
  unfold Hm;rw[Qf λw hw=>h w (Aw _ hw)]
  split
  .rfl
  .have:x≠n:=by rintro rfl;exact h v AC
   simp[this]
theorem Qe{kindOf:Ag->An Dx}{x:Ag}{v:Aj}:∀{P:Ac Ag}{vs:Ac Aj}{i:Af}{m:Ag->An Aj},P.Nodup->P[i]?=Aa x->vs[i]?=Aa v->kindOf x=Aa .local->Hn kindOf (P.zip vs) m x=Aa v
 |[],_,_,_,_,h,_,_=>by simp at h
 |_::_,[],_,_,_,_,h,_=>by simp at h
 |p::P,w::vs,0,m,nd,h1,h2,hk=>by
  simp at h1 h2;subst h1;subst h2;show Hn kindOf ((p,w)::P.zip vs) m p=_;unfold Hn;rw[Qd λv hv=>(Ft.mp nd).1 (GP hv).1,AA hk]
  simp
 |p::P,w::vs,i+1,m,nd,h1,h2,hk=>by
  show Hn kindOf ((p,w)::P.zip vs) m x=_;unfold Hn;exact Qe (i:=i) (Ft.mp nd).2 (by simpa using h1) (by simpa using h2) hk
theorem Qg{kindOf:Ag->An Dx}{x:Ag}{v:Aj}:∀{P:Ac Ag}{vs:Ac Aj}{i:Af}{m:Ag->An Aj},P.Nodup->P[i]?=Aa x->vs[i]?=Aa v->kindOf x≠Aa .local->Hm kindOf (P.zip vs) m x=Aa v
 |[],_,_,_,_,h,_,_=>by simp at h
 |_::_,[],_,_,_,_,h,_=>by simp at h
 |p::P,w::vs,0,m,nd,h1,h2,hk=>by
  simp at h1 h2;subst h1;subst h2;show Hm kindOf ((p,w)::P.zip vs) m p=_;unfold Hm;rw[Qf λv hv=>(Ft.mp nd).1 (GP hv).1,AH hk]
  simp
 |p::P,w::vs,i+1,m,nd,h1,h2,hk=>by
  show Hm kindOf ((p,w)::P.zip vs) m x=_;unfold Hm;exact Qg (i:=i) (Ft.mp nd).2 (by simpa using h1) (by simpa using h2) hk
noncomputable def start(N:Ac Ag)(vs:Ac V):St:=vs.map Aa++FL (N.length-vs.length) Ae
noncomputable def EM(CX:CXT)(P:AJ)(w:AT)(K:Fg)(mg:Ag->An Aj)(base:AB)(N:Ac Ag)(qual:Ag)(scope:BL)(f:Ak)(cd:Aj)(A:AR)(outer:Ac B2)(s:Ao)(H:Hp)(E:XK):Cx where
 prog:=P
 w:=w
 K:=K
 mg:=mg
 base:=base
 A:=A.deeper (Eg qual scope s.heap.objs.size f cd)
 N:=N
 s₀:=s
 H₀:=H
 env:=Eg qual scope s.heap.objs.size f cd
 outer:=outer
 stack:=Eg qual scope s.heap.objs.size f cd::outer
 ex:=[]
 calm:=Ab
 fn:=λ_=>Ab
 pn:=[]
 xe:=λe s'=>At (model P w) (A.deeper (Eg qual scope s.heap.objs.size f cd)) (leaving (Eg qual scope s.heap.objs.size f cd) e) (λ_ s''=>CX outer H s E e s'') (λe' s''=>CX outer H s E e' s'') s'
theorem Qy{sc:BL}(h:sc.names.lookup x=Aa .cell):∃ c,(Cn n sc.names []).lookup x=Aa c:=by
 have q:=V3 sc.names n [] (.inl h);exact BZ.mp q
theorem PB{w:AT}{K:Fg}{mg:Ag->An Aj}{base:AB}{N ps:Ac Ag}{f:Ak}{cd:Aj}{A:AR}{outer:Ac B2}{s1:Ao}{E:XK}(S:FnScope N ps scope)(hd:A.handled=Ae)(e0:Env0 P w K mg base A outer s H)(hl:vs.length=ps.length)(r:AX vs us)(x:InCallC s s.heap.objs.size (Hn (Eg qual scope s.heap.objs.size f cd).kindOf (ps.zip us) λ_=>Ae) (Cn (s.heap.objs.size+1) scope.names []) (Hm (Eg qual scope s.heap.objs.size f cd).kindOf (ps.zip us) λ_=>Ae) s1):Inv (EM CX P w K mg base N qual scope f cd A outer s H E) [] (start N vs) H s1:=by
 have hpl:ps.length<=N.length:=by have:=congrArg Uw S.pre;rw[Gw]at this;omega
 obtain⟨h1,tk,rfl,hk⟩:=x.done;have noA:∀ b:Ak,b∉(EM CX P w K mg base N qual scope f cd A outer s H E).ex:=λb z=>absurd (show b∈([]:Ac Ak) from z) (by simp)
 refine⟨⟨e0.mod,S.kind,rfl,rfl,AI _,λy z c h1 h2=>?_,λy hy=>?_,λy c _ h=>?_,λ_=>hd,Around.frames_deeper e0.frames,.inr ⟨rfl,rfl⟩,λb z=>absurd z (noA b),e0.bs,e0.bsz,λb _ _=>noA b,λb z=>absurd z (noA b),e0.funs,e0.frf⟩,
  rfl,e0.bare,Un.kept hk,⟨_,x.toInCall.ns,λi y v h1 h2 h3=>?_⟩,λy c h=>⟨_,x.cell y c h⟩,e0.hok.fresh (AI _),λy c h=>?_,λp hp=>absurd (show p∈([]:Pn) from hp) (by simp),e0.hok.kept hk,?_⟩
 .exact name_of_addr x.apart (Ce h1) (Ce h2)
 .have hy:scope.names.lookup y=Aa .cell\/scope.names.lookup y=Aa .free:=hy;rcases hy with hy|hy
  .exact Qy hy
  .exact absurd rfl (S.nofree _ (Ce hy))
 .exact Fu (x.above y c (Ce h))
 .have hi:i<vs.length:=by
   unfold start at h2;by_cases hi:i<vs.length
   .exact hi
   .rw[Uu (by simpa using hi)]at h2
    rw[Uv]at h2;split at h2<;>cases h2
  have ha:vs[i]?=Aa v:=by
   unfold start at h2;rw[Ev (by simpa using hi),CO]at h2
   cases e:vs[i]? with
   |none=>rw[e]at h2;cases h2
   |some a=>rw[e]at h2;cases h2;rfl
  obtain⟨u,hu,rv⟩:=r.get ha;have hp:ps[i]?=Aa y:=by
   rw[<-S.pre,List.getElem?_take_of_lt (by omega)];exact h1
  have ndP:ps.Nodup:=by rw[<-S.pre];exact S.nd.sublist (List.take_sublist _ _)
  refine⟨u,rv,?_⟩;rcases S.par y (UA hp) with k|k
  .exact .inl ⟨k,Qe ndP hp hu k⟩
  .obtain⟨c,e⟩:=Qy (n:=s.heap.objs.size+1) k;refine .inr ⟨.inl k,c,e,?_⟩;have q:=x.cell y c e;rw[Qg ndP hp hu (by show scope.names.lookup y≠_;rw[k];decide)]at q
   exact q
 .exact e0.hok.fresh (Fu (x.above y c (Ce h)))
 .unfold start;show _=N.length;rw[BQ,BD,Uy];omega
theorem Oz{w:AT}{K:Fg}{mg:Ag->An Aj}{base:AB}{f:Ak}{name:Ag}{params:Arguments}{dV kV doc pm cdv ct oc:Aj}{an od:An Ak}{osl:A4 (An Aj)}{N ps:Ac Ag}(lk:K.lookup f=Aa ⟨oc,od,.func (BR name qual params body scope dV kV doc pm an cdv ct),osl⟩)(hcd:Du K cdv qual=Ab)(S:FnScope N ps scope)(len:∀ vs H Q E,sp vs H Q E->vs.length=ps.length)(hbody:∀(A:AR)(outer:Ac B2)(s:Ao)(H:Hp)(vs:Ac V)(Q:VK)(E:XK),Room k (A.deeper (Eg qual scope s.heap.objs.size f cdv))->sp vs H Q E ->
   ∃ t,PSs (EM CX P w K mg base N qual scope f cdv A outer s H E) body t/\t {nx:=λ_ H'=>Q .non H',rt:=Q} (start N vs) H):FnOk P w K mg base CX (k+1) f (BR name qual params body scope dV kV doc pm an cdv ct) ps sp:=by
 refine⟨len,λA outer s H args us vs Q E hr e0 hb r hsp=>?_⟩
 have hl:=len _ _ _ _ hsp;have KX:K.In s.heap:=e0.mod.kin.keeps λb o e=>(e0.bs b o e).1
 have lim:s.heap.NoLimit:=e0.mod.nolimit.keeps λb o e=>(e0.bs b o e).1
 have hkind:∀ y∈ps.zip us,scope.names.lookup y.1=Aa .local\/(scope.names.lookup y.1=Aa .cell/\((Cn (s.heap.objs.size+1) scope.names []).lookup y.1).isSome=Ab):=λ⟨n,v⟩ hy=>by
  rcases S.par n (GP hy).1 with q|q
  .exact .inl q
  .exact .inr ⟨q,V3 _ _ _ (.inl q)⟩
 refine We hr.depth (KX _ _ lk) rfl S.co S.gen rfl (V4 KX hcd) (hb _ _ _ _ ?_);refine Wr S.kind hkind λenv he s1 x=>?_
 subst he;refine⟨lim.keeps x.toInCall.keep,codeAny_func ?_⟩;obtain⟨t,ht,hq⟩:=hbody A outer s H vs Q E (hr.deeper _) hsp;have I:Inv (EM CX P w K mg base N qual scope f cdv A outer s H E) [] (start N vs) H s1:=PB S hr.hd e0 hl r x;refine A3 (ht [] s1 (start N vs) H _ I hq) (λfl s' hs=>?_) λe s' hs=>hs
 have fin:∀{Y':St}{H':Hp}{v:V}{u:Aj},Inv (EM CX P w K mg base N qual scope f cdv A outer s H E) [] Y' H' s'->Bi v u->Q v H'->CE outer P w H s Q u s':=
  λ{Y' H' v u} J rv q=>⟨v,H',J.os,J.bare,J.base,J.hok,rv,q⟩
 cases fl with
 |ret u=>
  obtain⟨v,Y',H',J,rv,q⟩:=hs;exact fin J rv q
 |next=>
  obtain⟨Y',H',J,q⟩:=hs;exact fin (v:=V.non) (u:=CZ) J rfl q
 |brk=>
  obtain⟨_,_,_,q⟩:=hs;exact A1 q
 |cont=>
  obtain⟨_,_,_,q⟩:=hs;exact A1 q
section
variable{X:Cx}{x:Ag}{p pos:Az}{e:Am}{es:Ac Am}{t:TA}{id T:Cv}{r:Ac V->Hp->VK->Prop}
def tCB(r:Ac V->Hp->VK->Prop)(t:TA):TE:=λY H Q=>t Y H λvs H1=>r vs H1 Q
theorem Jp(hc:Gc X (.builtin id) r)(hg:Gl X x)(hm:X.mg x=Ae)(hv:Cu x=Aa (.builtin id))(ha:PA X (e::es) t)(hn:x≠"__name__" := by decide)(hdb:(x==("__debug__" : Ag))=Ad:=by decide)(he:Aq (e::es) X.env=(Ad,eval e X.env)::Aq es X.env:=by rfl)(hpl:(Br pos (Aq es X.env)).any (·.1)=Ad:=by rfl):PE X (.Call (.Name x p) (e::es) [] pos) (tCB r t):=by
 intro pI s Y H Q I h;refine CF (JE I hg hm hv ?_ hn hdb);exact PyProof.Rows.callWith_builtin1 (thn (ha pos pI s Y H _ I h) λus s1 ⟨vs,H1,I1,r1,q1⟩=>hc pI s1 Y H1 vs us Q I1 r1 q1) he hpl
theorem PU(hc:Gc X (.type T) r)(hg:Gl X x)(hm:X.mg x=Ae)(hv:Cu x=Aa (.type T))(ha:PA X (e::es) t)(hn:x≠"__name__" := by decide)(hdb:(x==("__debug__" : Ag))=Ad:=by decide)(he:Aq (e::es) X.env=(Ad,eval e X.env)::Aq es X.env:=by rfl)(hpl:(Br pos (Aq es X.env)).any (·.1)=Ad:=by rfl):PE X (.Call (.Name x p) (e::es) [] pos) (tCB r t):=by
 intro pI s Y H Q I h;refine CF (JE I hg hm hv ?_ hn hdb);exact C3 (thn (ha pos pI s Y H _ I h) λus s1 ⟨vs,H1,I1,r1,q1⟩=>hc pI s1 Y H1 vs us Q I1 r1 q1) he hpl
end
end L2
namespace HT
open PySem PyProof.Rows
variable{sl:Ak}
section
open PySem.SeqAt
open PySem.AutoSeq1 (wpAny_loadPart')
open PySem.MeetsSeq PySem.MeetsSeq2 PySem.MeetsSeq3
end
section
variable{prog:AJ}{w:AT}{A:AR}{E:Vq}{s:Ao}
theorem cat_tup{t b:Ak}{vs ws:Ac Aj}{Q:Vq}(ht:Je s.heap t vs.toArray)(hb:Je s.heap b ws.toArray)(hv:vs≠[])(h1:ws=[]->Q (.ref t) s)(h2:ws≠[]->Q (.ref s.heap.objs.size) { s with heap:=s.heap.push { cls:=.type "tuple",data:=.seq (vs++ws).toArray } })(hsz:vs.length+ws.length<=sizeLine):At (model prog w) A (BM .Add (.ref t) (.ref b)) Q E s:=by
 obtain⟨⟨cls,dd,data,sl⟩,ho,hc,n,hd⟩:=id ht;obtain⟨⟨cls2,dd2,data2,sl2⟩,ho2,hc2,n2,hd2⟩:=id hb;simp only at hc hd hc2 hd2;subst hc hd hc2 hd2;have e:vs.toArray++ws.toArray=(vs++ws).toArray:=by simp
 by_cases hw:ws=[]
 .exact Ib ⟨_,ho,rfl⟩ ⟨_,ho2,rfl⟩ Wh seq_tuple_add Vx Vt (Vp _ _)
   (tuple_addW1 t b vs.toArray ws.toArray n n2 dd dd2 sl sl2 (by simpa using hv) (by simp[hw])) ⟨ho,ho2,h1 hw⟩
 .refine Ib ⟨_,ho,rfl⟩ ⟨_,ho2,rfl⟩ Wh seq_tuple_add Vx Vt (Vp _ _)
   (tuple_addW2 t b vs.toArray ws.toArray n n2 dd dd2 sl sl2 (by simpa using hv) (by simpa using hw) (by rw[AN,AN];exact hsz)) ⟨ho,ho2,?_⟩
  rw[e];exact h2 hw
noncomputable def sIx(n d:Af):An Ah->Af
 |none=>d
 |some v=>if v<0 then (v+(n:Ah)).toNat else min v.toNat n
theorem eW(n d:Af)(hd:d<=n)(o:An Ah):sIx n d o<=n:=by
 cases o with
 |none=>exact hd
 |some v=>
  show (if v<0 then (v+(n:Ah)).toNat else min v.toNat n)<=n
  by_cases hv:v<0
  .rw[AA hv];omega
  .rw[AH hv];exact Nat.min_le_right _ _
theorem Rb(v:Ah)(n d:Af):(if v<0 then max (v+(n:Ah)) 0 else min v (n:Ah))=((sIx n d (Aa v):Af):Ah):=by
 show (if v<0 then max (v+(n:Ah)) 0 else min v (n:Ah))=(((if v<0 then (v+(n:Ah)).toNat else min v.toNat n):Af):Ah)
 by_cases hv:v<0
 .simp only[AA hv];omega
 .simp only[AH hv];omega
theorem WG(lo hi:An Ah)(n:Af):Ey lo hi 1 (n:Ah)=(((sIx n 0 lo:Af):Ah),((sIx n n hi:Af):Ah)):=by
 have h1:¬ ((1:Ah)<0):=by omega
 unfold Ey;simp only[h1,K2];refine J4 ?_ ?_
 .cases lo with
  |none=>rfl
  |some v=>exact Rb v n 0
 .cases hi with
  |none=>rfl
  |some v=>exact Rb v n n
theorem WO(i j:Af):Dm (i:Ah) (j:Ah) 1=j-i:=by
 unfold Dm;have h1:(1:Ah)>0:=by omega
 simp only[h1,D6,Int.ediv_one];split<;>omega
theorem Pd{v:Aj}{o:An Ah}{Q:An Ah->Ao->Prop}(p:F1 v o)(h:Q o s):At (model prog w) A (Builtin.Slice.slicePartIndex v) Q E s:=by
 cases p with
 |none=>exact UO h
 |int i t=>exact slicePart_int h
theorem Wu{vl vu:Aj}{lo hi:An Ah}{n:Af}{Q:Ah×Ah×Af->Ao->Prop}(hs:s.heap.IsSliceOf sl vl vu .none)(pl:F1 vl lo)(pu:F1 vu hi)(h:Q (((sIx n 0 lo:Af):Ah),1,sIx n n hi-sIx n 0 lo) s):At (model prog w) A (UT (.ref sl) (pure (n:Ah))) Q E s:=by
 obtain⟨os,hos,hcs,hds⟩:=id hs;unfold UT Builtin.Slice.sliceFields;refine Ap (Ap (CI hos hds (x:=vl) rfl (Ap (CI hos hds (x:=vu) rfl (Ap (CI hos hds (x:=.none) rfl (AM ?_)))))));refine Ap (UO ?_);show At _ _ (if ((1:Ah)==0)=Ab then _ else _) _ _ s
 rw[AH (by decide)]
 refine Ap (Pd pl (Ap (Pd pu (Ap (AM ?_)))));show At _ _ (match Ey lo hi 1 (n:Ah) with|(lo,hi)=>pure (lo,(1:Ah),Dm lo hi 1)) _ _ s
 rw[WG lo hi n];show At _ _ (pure (((sIx n 0 lo:Af):Ah),(1:Ah),Dm ((sIx n 0 lo:Af):Ah) ((sIx n n hi:Af):Ah) 1)) _ _ s;rw[WO];exact AM h
theorem XM(xs:A4 Aj)(i k:Af):((B6 k).filterMap fun(m:Af)=>xs[((i:Ah)+(m:Ah)*1).toNat]?).toArray=((xs.toList.drop i).take k).toArray:=by
 have e:(fun(m:Af)=>xs[((i:Ah)+(m:Ah)*1).toNat]?)=λm=>xs[i+m]?:=by
  funext m
  have:((i:Ah)+(m:Ah)*1).toNat=i+m:=by omega
  rw[this]
 rw[e];have:=pick_run xs i k;rw[List.filterMap_map]at this;have e2:((λx=>xs[x]?) ∘ λx=>i+x)=λm=>xs[i+m]?:=rfl
 rw[e2]at this;rw[this]
theorem getItem_tuple_cut{t:Ak}{items:A4 Aj}{vl vu:Aj}{lo hi:An Ah}{Q:Vq}(ht:Je s.heap t items)(hs:s.heap.IsSliceOf sl vl vu .none)(pl:F1 vl lo)(pu:F1 vu hi)(hw:¬ (sIx items.size 0 lo=0/\sIx items.size items.size hi=items.size))(h:Q (.ref s.heap.objs.size) { s with heap:=s.heap.push { cls:=.type "tuple",data:=.seq ((items.toList.drop (sIx items.size 0 lo)).take (sIx items.size items.size hi-sIx items.size 0 lo)).toArray } })(hsz:items.size<=sizeLine):At (model prog w) A (IC (.ref t) (.ref sl)) Q E s:=by
 have htake:sizeOk (.seq ((items.toList.drop (sIx items.size 0 lo)).take (sIx items.size items.size hi-sIx items.size 0 lo)).toArray):=by
  show ((items.toList.drop (sIx items.size 0 lo)).take (sIx items.size items.size hi-sIx items.size 0 lo)).toArray.size<=sizeLine;rw[AN,Gw,Ux,FF];omega
 have hj:sIx items.size items.size hi<=items.size:=eW _ _ (AI _) hi;obtain⟨os,hos,hcs,hds⟩:=id hs;have hTs:s.TypeIs (.ref sl) "slice" := ⟨os,hos,hcs⟩;unfold IC
 try with_reducible refine Ej ?_
 first|refine Ap (AM ?_)|skip
 refine Ap (wpAny_sequenceKey ht.typeIs (by decide) ?_)
 refine Ap (EW (name:=Ay "__getitem__") ht.typeIs UP
  (GE UP ht.typeIs entry_tuple_getitem ?_ (args_tuple_getitem _ _)))
 show At _ _ (Builtin.Tuple.tupleItemsOf (.ref t) >>= _) _ _ s;refine Ap (tupleItemsOf_ ht ?_);refine Ap (wpAny_typeOf hTs ?_);rw[AA (by decide)]
 refine Ap (Wu hs pl pu ?_);have hno:¬ ((((sIx items.size 0 lo:Af):Ah)==0&&(1:Ah)==1&&(sIx items.size items.size hi-sIx items.size 0 lo)==items.size)=Ab):=by
  intro q;rw[Al,Al]at q;have q1:((sIx items.size 0 lo:Af):Ah)=0:=eq_of_beq q.1.1;have q2:sIx items.size items.size hi-sIx items.size 0 lo=items.size:=eq_of_beq q.2;exact hw ⟨by omega,by omega⟩
 show At _ _ (if (((sIx items.size 0 lo:Af):Ah)==0&&(1:Ah)==1&&(sIx items.size items.size hi-sIx items.size 0 lo)==items.size)=Ab then _ else _) _ _ s
 rw[AH hno,XM]
 first
  |exact Ap (m:=Dv _) (Cj (AM ⟨_,rfl,AM h⟩) htake)
  |exact Ap (m:=Dv _) (Cj (Ap (AM (AM ⟨_,rfl,AM h⟩))) htake)
  |exact Ap (Ap (m:=Dv _) (Cj (AM (AM ⟨_,rfl,AM h⟩)) htake))
  |exact Ap (Ap (m:=Dv _) (Cj (AM ⟨_,rfl,AM h⟩) htake))
end
end HT
namespace L2
open PySem PySem.Spec PyProof.Rows
variable{r:V->An Ah->An Ah->Hp->VK->Prop}{xs:Ac V}{us its:Ac Aj}{n t':Af}{i:Ah}
abbrev TO:=St->Hp->(An Ah->Hp->Prop)->Prop
noncomputable def PO(X:Cx)(e:An Am)(t:TO):Prop:=
 ∀(pI:Pn)(s:Ao)(Y:St)(H:Hp)(Q:An Ah->Hp->Prop),Inv X pI Y H s->t Y H Q ->
  At (model X.prog X.w) X.A (evalPart e X.env) (λu s'=>∃ o H',Inv X pI Y H' s'/\F1 u o/\Q o H') X.xe s
def Zg:TO:=λ_ H Q=>Q Ae H
def iI(t:TE):TO:=λY H Q=>t Y H λx H1=>∃ i,x=.int i/\Q (Aa i) H1
section
variable{X:Cx}{e:Am}{te:TE}{lo hi:An Am}{tl th:TO}{pos p2:Az}
theorem aE:PO X Ae Zg:=by
 intro pI s Y H Q I h;rw[evalPart_none];exact AM ⟨Ae,H,I,.none,h⟩
theorem aD(h:PE X e te):PO X (Aa e) (iI te):=by
 intro pI s Y H Q I hw;rw[evalPart_some];refine thn (h pI s Y H _ I hw) λu s1 ⟨x,H1,I1,r1,q1⟩=>?_
 obtain⟨i,rfl,q⟩:=q1;obtain⟨t,rfl⟩:=r1;exact⟨Aa i,H1,I1,.int i t,q⟩
noncomputable def SlR(X:Cx)(r:V->An Ah->An Ah->Hp->VK->Prop):Prop:=
 ∀(pI:Pn)(s:Ao)(Y:St)(H:Hp)(x:V)(v vl vu:Aj)(lo hi:An Ah)(sl:Ak)(Q:VK),Inv X pI Y H s->Bi x v->s.heap.IsSliceOf sl vl vu .none->F1 vl lo->F1 vu hi->r x lo hi H Q ->
  ∃ T id,typeLookup (.type T) "__getitem__" = pure (Aa (.builtin id))/\s.TypeIs v T/\At (model X.prog X.w) X.A (IC v (.ref sl)) (EP X pI Y Q) X.xe s
theorem SlR.or{r':V->An Ah->An Ah->Hp->VK->Prop}(h:SlR X r)(h':SlR X r'):SlR X (λx lo hi H Q=>r x lo hi H Q\/r' x lo hi H Q):=by
 intro pI s Y H x v vl vu lo hi sl Q I rx hs pl pu q;rcases q with q|q
 .exact h pI s Y H x v vl vu lo hi sl Q I rx hs pl pu q
 .exact h' pI s Y H x v vl vu lo hi sl Q I rx hs pl pu q
def tSl(r:V->An Ah->An Ah->Hp->VK->Prop)(te:TE)(tl th:TO):TE:=λY H Q=>te Y H λx H1=>tl Y H1 λl H2=>th Y H2 λu H3=>r x l u H3 Q
theorem XN(hr:SlR X r)(he:PE X e te)(hl:PO X lo tl)(hu:PO X hi th):PE X (.Subscript e (.Slice lo hi Ae p2) pos) (tSl r te tl th):=by
 intro pI s Y H Q I h;refine Subscript_ (thn (he pI s Y H _ I h) λv s1 ⟨x,H1,I1,r1,q1⟩=>?_)
 refine wpAny_Slice (thn (hl pI s1 Y H1 _ I1 q1) λvl s2 ⟨l,H2,I2,pl,q2⟩=>thn (hu pI s2 Y H2 _ I2 q2) λvu s3 ⟨u,H3,I3,pu,q3⟩=>?_)
 rw[evalPart_none];refine AM ?_;have I4:Inv X pI Y H3 { s3 with heap:=s3.heap.push { cls:=.type "slice",data:=.fields #[vl,vu,.none] } }:=I3.kept (t':=s3.toks) λb ob q=>As _ q
 obtain⟨T,id,hT,ht,hg⟩:=hr pI { s3 with heap:=s3.heap.push { cls:=.type "slice",data:=.fields #[vl,vu,.none] } } Y H3 x v vl vu l u s3.heap.objs.size Q I4 r1 (Heap.IsSliceOf.new ..) pl pu q3
 show At (model X.prog X.w) X.A (subscriptTail e (.Slice lo hi Ae p2) v (.ref s3.heap.objs.size)) (EP X pI Y Q) X.xe { s3 with heap:=s3.heap.push { cls:=.type "slice",data:=.fields #[vl,vu,.none] } }
 exact tail_any (ops:=[.ref s3.heap.objs.size,v]) ht hT hg (by with_unfolding_all rfl)
noncomputable def Iy(xs:Ac V)(lo hi:An Ah):Ac V:=(xs.drop (HT.sIx xs.length 0 lo)).take (HT.sIx xs.length xs.length hi-HT.sIx xs.length 0 lo)
theorem Pt(xs:Ac V)(lo hi:An Ah):(Iy xs lo hi).length<=xs.length:=by
 unfold Iy;rw[Gw,Ux];omega
def Tr(K:Fg):V->An Ah->An Ah->Hp->VK->Prop:=λx lo hi H Q=>∃ a xs,x=.ref a/\SqT K H a xs /\
 ¬ (HT.sIx xs.length 0 lo=0/\HT.sIx xs.length xs.length hi=xs.length)/\∀ p,H p=Ae->Q (.ref p) (upd H p (.tup (Iy xs lo hi)))
theorem bU:SlR X (Tr X.K):=by
 intro pI s Y H x v vl vu lo hi sl Q I rx hs pl pu h;obtain⟨a,xs,rfl,hx,hw,q⟩:=h;cases rx;obtain⟨its,r,ht,hz⟩:=I.tuple hx;have hlen:its.toArray.size=xs.length:=by rw[AN];exact r.length.symm
 refine⟨"tuple",_,PyProof.Rows.slot_tuple_getitem.lookup,ht.typeIs,?_⟩;refine HT.getItem_tuple_cut ht hs pl pu (by rw[hlen];exact hw) ?_ (by rw[hlen];exact hz)
 rw[hlen];refine⟨.ref s.heap.objs.size,_,I.laid (t':=s.toks) (o:=.tup (Iy xs lo hi)) (λb ob q=>As _ q) (AI _) ?_,rfl,q _ (I.hok.fresh (AI _))⟩
 exact⟨Bw (Pt xs lo hi) hz,_,(r.drop (HT.sIx xs.length 0 lo)).take (HT.sIx xs.length xs.length hi-HT.sIx xs.length 0 lo),JY _ _⟩
def jE(K:Fg):R2:=λx y H Q=>∃ a b xs ys,x=.ref a/\y=.ref b/\SqT K H a xs/\SqT K H b ys/\xs≠[]/\xs.length+ys.length<=sizeLine /\
 (ys=[]->Q (.ref a) H)/\(ys≠[]->∀ p,H p=Ae->Q (.ref p) (upd H p (.tup (xs++ys))))
theorem AX.nil_iff(r:AX xs us):us=[]↔xs=[]:=by
 cases r with
 |nil=>simp
 |cons _ _=>simp
theorem ZJ:OpR X (BM .Add) (jE X.K):=by
 intro pI s Y H x y v u Q I rx ry h;obtain⟨a,b,xs,ys,rfl,rfl,ha,hb,hx,hz,q1,q2⟩:=h;cases rx;cases ry;obtain⟨its,r1,p1,_⟩:=I.tuple ha;obtain⟨its2,r2,p2,_⟩:=I.tuple hb;refine HT.cat_tup p1 p2 (λz=>hx (r1.nil_iff.mp z)) (λz=>⟨.ref a,H,I,rfl,q1 (r2.nil_iff.mp z)⟩) (λz=>?_) (by rw[<-r1.length,<-r2.length];exact hz)
 refine⟨.ref s.heap.objs.size,_,I.laid (t':=s.toks) (o:=.tup (xs++ys)) (λb ob q=>As _ q) (AI _) ?_,rfl,q2 (λw=>z (r2.nil_iff.mpr w)) _ (I.hok.fresh (AI _))⟩
 exact⟨by rw[BQ];exact hz,_,r1.append r2,JY _ _⟩
end
noncomputable def ixN(n:Af)(i:Ah):An Af:=if 0<=i then (if i<n then Aa i.toNat else Ae) else if -(n:Ah)<=i then Aa (i+n).toNat else Ae
noncomputable def atI{α:Type}(xs:Ac α)(i:Ah):An α:=(ixN xs.length i).bind λj=>xs[j]?
theorem bC{j:Af}(h:ixN n i=Aa j):seqIndex? i n=Aa j/\j<n/\-(n:Ah)<=i/\i<n:=by
 unfold ixN at h;by_cases h0:0<=i
 .rw[AA h0]at h;by_cases h1:i<n
  .rw[AA h1]at h;have e:i.toNat=j:=Bf h;exact⟨by rw[seqIndex_of h0 h1,e],by omega,by omega,h1⟩
  .rw[AH h1]at h;cases h
 .rw[AH h0]at h;by_cases h1:-(n:Ah)<=i
  .rw[AA h1]at h;have e:(i+n).toNat=j:=Bf h;exact⟨by rw[seqIndex_neg (by omega) h1,e],by omega,h1,by omega⟩
  .rw[AH h1]at h;cases h
theorem Nu{α:Type}{xs:Ac α}{v:α}(h:atI xs i=Aa v):∃ j,seqIndex? i xs.length=Aa j/\xs[j]?=Aa v/\j<xs.length/\-(xs.length:Ah)<=i/\i<xs.length:=by
 unfold atI at h;cases e:ixN xs.length i with
 |none=>rw[e]at h;cases h
 |some j=>
  rw[e]at h;obtain⟨h1,h2,h3,h4⟩:=bC e;exact⟨j,h1,h,h2,h3,h4⟩
def Nx(b:Am):Prop:=∀ o i,subscripted b Ad o i=operate [o,i] (IC o i)
noncomputable def IxR(X:Cx)(r:R2):Prop:=
 ∀(value slice:Am)(pI:Pn)(s:Ao)(Y:St)(H:Hp)(x y:V)(v u:Aj)(Q:VK),Inv X pI Y H s->Bi x v->Bi y u->r x y H Q ->
  subscripted slice Ad v u=operate [v,u] (IC v u)->At (model X.prog X.w) X.A (subscriptTail value slice v u) (EP X pI Y Q) X.xe s
noncomputable def MtR(X:Cx)(id:Cv)(r:V->Ac V->Hp->VK->Prop):Prop:=
 ∀(pI:Pn)(s:Ao)(Y:St)(H:Hp)(x:V)(xs:Ac V)(v:Aj)(us:Ac Aj)(Q:VK),Inv X pI Y H s->Bi x v->AX xs us->r x xs H Q ->
  At (model X.prog X.w) X.A (call (.builtin id) (v::us)) (EP X pI Y Q) X.xe s
section
variable{X:Cx}{a b:Am}{ta tb:TE}{pos:Az}
theorem IxR.or{r r':R2}(h:IxR X r)(h':IxR X r'):IxR X (λx y H Q=>r x y H Q\/r' x y H Q):=by
 intro value slice pI s Y H x y v u Q I rx ry q hs;rcases q with q|q
 .exact h value slice pI s Y H x y v u Q I rx ry q hs
 .exact h' value slice pI s Y H x y v u Q I rx ry q hs
theorem lL{r:R2}(hr:IxR X r)(ha:PE X a ta)(hb:PE X b tb)(hs:Nx b):PE X (.Subscript a b pos) (tOp r ta tb):=by
 intro pI s Y H Q I h;exact Subscript_ (OW ha hb I h λv u s2 x y H2 I2 rx ry q=>hr a b pI s2 Y H2 x y v u Q I2 rx ry q (hs _ _))
def Tw(K:Fg):R2:=λx y H Q=>∃ p xs i v,x=.ref p/\y=.int i/\SqL K H p xs/\atI xs i=Aa v/\Q v H
def Tu(K:Fg):R2:=λx y H Q=>∃ p xs i v,x=.ref p/\y=.int i/\SqT K H p xs/\atI xs i=Aa v/\Q v H
def Tv:R2:=λx y H Q=>∃ z i c,x=.str z/\y=.int i/\z.length<=sizeLine/\atI z.cps.toList i=Aa c/\Q (.str ⟨#[c]⟩) H
theorem bB:IxR X (Tw X.K):=by
 intro value slice pI s Y H x y v u Q I rx ry h hs;obtain⟨p,xs,i,z,rfl,rfl,hq,he,q⟩:=h;cases rx;obtain⟨t,rfl⟩:=ry;obtain⟨its,r,pl,hz⟩:=I.list hq;obtain⟨j,h1,h2,h3,h4,h5⟩:=Nu he;obtain⟨w,ew,rw'⟩:=r.get h2;have hl:=r.length;have hn:=JD;have fin:EP X pI Y Q w s:=⟨z,H,I,rw',q⟩;by_cases h0:0<=i
 .have hj:i.toNat=j:=by
   rw[seqIndex_of h0 h5]at h1;exact Bf h1
  exact item_listR pl.isList h0 (by omega) (by rw[hj];simpa using ew) fin hs
 .have hj:(i+(its.toArray.size:Ah)).toNat=j:=by
   rw[seqIndex_neg (by omega) h4]at h1
   rw[AN,<-hl];exact Bf h1
  exact UQ (x:=w) pl.isList.typeIs Wl.lookup
   (wpAny_getItem_list_neg (Q:=λr s'=>r=w/\EP X pI Y Q r s') pl.isList (by omega) (by rw[AN]<;>omega) (by omega) (by rw[hj];simpa using ew) ⟨rfl,fin⟩) hs
theorem gL:IxR X (Tu X.K):=by
 intro value slice pI s Y H x y v u Q I rx ry h hs;obtain⟨p,xs,i,z,rfl,rfl,hq,he,q⟩:=h;cases rx;obtain⟨t,rfl⟩:=ry;obtain⟨its,r,pl,hz⟩:=I.tuple hq;obtain⟨j,h1,h2,h3,h4,h5⟩:=Nu he;obtain⟨w,ew,rw'⟩:=r.get h2;have hl:=r.length;have hn:=JD;have fin:EP X pI Y Q w s:=⟨z,H,I,rw',q⟩;exact UQ (x:=w) pl.typeIs slot_tuple_getitem.lookup
  (getItem_tuple (j:=j) (Q:=λr s'=>r=w/\EP X pI Y Q r s') pl (by omega) (by omega) (by rw[AN,<-hl];exact h1) (by simpa using ew) ⟨rfl,fin⟩) hs
theorem gM:IxR X Tv:=by
 intro value slice pI s Y H x y v u Q I rx ry h hs;obtain⟨z,i,c,rfl,rfl,hz,he,q⟩:=h;obtain⟨t,rfl⟩:=rx;obtain⟨t',rfl⟩:=ry;obtain⟨j,h1,h2,h3,h4,h5⟩:=Nu he;have hl:z.cps.toList.length=z.length:=by simp[Str.length]
 rw[hl]at h1 h4 h5;have hn:=JD;exact tail_any (EQ s z t) slot_str_getitem.lookup (getItem_str (c:=c) (by
  have e1:decide (i < -(2 ^ 63:Ah))=Ad:=Cq (by omega)
  have e2:decide (i ≥ 2 ^ 63)=Ad:=Cq (by omega)
  rw[e1,e2,DG]) (by rw[h1];simpa using h2) ⟨.str ⟨#[c]⟩,H,I.tok _,⟨_,rfl⟩,q⟩) hs
def rIx(K:Fg):R2:=λx y H Q=>Tw K x y H Q\/Tu K x y H Q\/Tv x y H Q
theorem gN:IxR X (rIx X.K):=bB.or (gL.or gM)
theorem Inv.lst{pI:Pn}{Y:St}{H:Hp}{s:Ao}{p:Ak}{xs:Ac V}(I:Inv X pI Y H s)(h:H p=Aa (.lst xs)):
  ∃(its:Ac Aj)(n:Af),AX xs its/\s.heap.get? p=Aa { cls:=.type "list",data:=.seq its.toArray n }/\xs.length<=sizeLine:=by
 obtain⟨z,its,n,r,e⟩:=I.hok p _ h;exact⟨its,n,r,e,z⟩
theorem Wy(lo hi:An Ah)(n:Af):(Ek lo hi Ae n).1=((HT.sIx n 0 lo:Af):Ah)/\(Ek lo hi Ae n).2.1=((HT.sIx n n hi:Af):Ah)/\(Ek lo hi Ae n).2.2=1:=by
 refine⟨?_,?_,rfl⟩
 .cases lo with
  |none=>simp[Ek,HT.sIx]
  |some i=>
   simp only[Ek,HT.sIx,UJ,show (1:Ah)>0 by decide,D6]
   by_cases h:i<0
   .simp only[h,D6]<;>omega
   .simp only[h,K2]<;>omega
 .cases hi with
  |none=>simp[Ek,HT.sIx]
  |some i=>
   simp only[Ek,HT.sIx,UJ,show (1:Ah)>0 by decide,D6]
   by_cases h:i<0
   .simp only[h,D6]<;>omega
   .simp only[h,K2]<;>omega
theorem Wv(its:Ac Aj)(lo hi:An Ah):slicePick its.toArray lo hi Ae=((its.drop (HT.sIx its.length 0 lo)).take (HT.sIx its.length its.length hi-HT.sIx its.length 0 lo)).toArray:=by
 obtain⟨h1,h2,h3⟩:=Wy lo hi its.toArray.size;unfold slicePick;rw[h1,h2,h3];simp only[sliceRange_one,pick_run,AN]<;>rfl
def Tt(K:Fg):V->An Ah->An Ah->Hp->VK->Prop:=λx lo hi H Q=>∃ a xs,x=.ref a/\SqL K H a xs/\∀ p,H p=Ae->Q (.ref p) (upd H p (.lst (Iy xs lo hi)))
theorem YY:SlR X (Tt X.K):=by
 intro pI s Y H x v vl vu lo hi sl Q I rx hs pl pu h;obtain⟨a,xs,rfl,hx,q⟩:=h;cases rx;obtain⟨its,r,ht,hz⟩:=I.list hx;have hlen:=r.length;refine⟨"list",_,Wl.lookup,ht.isList.typeIs,?_⟩;refine wpAny_getItem_list_slice ht.isList hs pl pu .none (by simp) ?_ (by rw[AN]<;>omega)
 rw[Wv,<-hlen];refine⟨.ref s.heap.objs.size,_,I.laid (t':=s.toks) (o:=.lst (Iy xs lo hi)) (λb ob q=>As _ q) (AI _) ?_,rfl,q _ (I.hok.fresh (AI _))⟩
 exact⟨Bw (Pt xs lo hi) hz,_,0,(r.drop (HT.sIx xs.length 0 lo)).take (HT.sIx xs.length xs.length hi-HT.sIx xs.length 0 lo),AW _ rfl⟩
theorem O6:Gc X (.builtin "len") (λxs H Q=>∃ p ys,xs=[.ref p]/\(SqL X.K H p ys\/SqT X.K H p ys)/\Q (.int ys.length) H):=by
 intro pI s Y H xs us Q I r h;obtain⟨p,ys,rfl,hq,q⟩:=h;obtain⟨u,rfl,rx⟩:=GK r;cases rx;have hn:=JD;rcases hq with hq|hq
 .obtain⟨its,r',pl,hz⟩:=I.list hq;have hlen:=r'.length;exact Calls.call_len_list pl.isList (by simp only[AN]<;>omega) ⟨.int ys.length,H,I.tok _,⟨s.toks+1,by rw[AN,hlen]⟩,q⟩
 .obtain⟨its,r',pl,hz⟩:=I.tuple hq;have hlen:=r'.length;exact len_tuple pl (by simp only[AN]<;>omega) ⟨.int ys.length,H,I.tok _,⟨s.toks+1,by rw[AN,hlen]⟩,q⟩
theorem WD:Gc X (.builtin "len") (λxs H Q=>∃ z,xs=[.str z]/\z.length<=sizeLine/\Q (.int z.length) H):=by
 intro pI s Y H xs us Q I r h;obtain⟨z,rfl,hz,q⟩:=h;obtain⟨u,rfl,t,rfl⟩:=GK r;have hn:=JD;exact len_str (by omega) ⟨.int z.length,H,I.tok _,⟨_,rfl⟩,q⟩
theorem O5:Gc X (.type "list") (λxs H Q=>∃ p ys,xs=[.ref p]/\(SqL X.K H p ys\/SqT X.K H p ys)/\∀ l,H l=Ae->Q (.ref l) (upd H l (.lst ys))):=by
 intro pI s Y H xs us Q I r h;obtain⟨p,ys,rfl,hq,q⟩:=h;obtain⟨u,rfl,rx⟩:=GK r;cases rx;have fin:∀(its:Ac Aj),AX ys its->ys.length<=sizeLine->∀(h':AB)(c':Af),(∀ b o',s.heap.get? b=Aa o'->h'.get? b=Aa o') ->
   h'.get? s.heap.objs.size=Aa { cls:=.type "list",dict:=Ae,data:=.seq its.toArray c',slots:=#[] }->EP X pI Y Q (.ref s.heap.objs.size) {s with heap:=h'}:=λits r' hz h' c' kp e=>
  ⟨.ref s.heap.objs.size,_,I.laid (t':=s.toks) kp (AI _) (show ObjOk X.prog X.w _ h' _ (.lst ys) from ⟨hz,its,c',r',e⟩),rfl,q _ (I.hok.fresh (AI _))⟩
 rcases hq with hq|hq
 .obtain⟨its,r',pl,hz⟩:=I.list hq;have hlen:=r'.length;obtain⟨o,ho,hc,n,hd⟩:=pl.isList;exact call_list_seq p (.inl rfl) ho hc hd (λh' c' kp e=>fin its r' hz h' c' kp e) (by simp only[AN]<;>omega)
 .obtain⟨its,r',pl,hz⟩:=I.tuple hq;have hlen:=r'.length;obtain⟨o,ho,hc,n,hd⟩:=pl;exact call_list_seq p (.inr rfl) ho hc hd (λh' c' kp e=>fin its r' hz h' c' kp e) (by simp only[AN]<;>omega)
theorem O8:Gc X (.type "tuple") (λxs H Q=>∃ p ys,xs=[.ref p]/\((SqL X.K H p ys/\∀ l,H l=Ae->Q (.ref l) (upd H l (.tup ys)))\/(SqT X.K H p ys/\Q (.ref p) H))):=by
 intro pI s Y H xs us Q I r h;obtain⟨p,ys,rfl,h⟩:=h;obtain⟨u,rfl,rx⟩:=GK r;cases rx;rcases h with ⟨hq,q⟩|⟨hq,q⟩
 .obtain⟨its,r',pl,hz⟩:=I.list hq;have hlen:=r'.length;refine call_tuple_list pl.isList (λh' kp=>?_) (by simp only[AN]<;>omega)
  have I1:Inv X pI Y H {s with heap:=h'}:=I.kept (t':=s.toks) kp
  have I2:Inv X pI Y (upd H h'.objs.size (.tup ys)) { s with heap:=h'.push { cls:=.type "tuple",data:=.seq its.toArray } }:=
   I1.laid (t':=s.toks) (λb o e=>As _ e) (AI _) (show ObjOk X.prog X.w _ _ _ (.tup ys) from ⟨hz,its,r',JY _ _⟩)
  exact⟨.ref h'.objs.size,_,I2,rfl,q _ (I1.hok.fresh (AI _))⟩
 .obtain⟨its,r',pl,hz⟩:=I.tuple hq;exact call_tuple_same pl ⟨.ref p,H,I,rfl,q⟩
def tyV(K:Fg)(T:Cv)(x:V)(H:Hp):Prop:=match x with
  |.str _=>T = "str"
  |.int _=>T = "int"
  |.ref p=>(T = "list"/\∃ xs,SqL K H p xs)\/(T = "tuple"/\∃ o,K.lookup p=Aa o/\o.cls=.type "tuple"/\o.dict=Ae) \/
      (T = "dict"/\((∃ kvs,H p=Aa (.dK kvs))\/∃ kvs,H p=Aa (.dT kvs)))\/(T = "set"/\∃ S n,H p=Aa (.set S n))
  |_=>AV
theorem cA{pI:Pn}{Y:St}{H:Hp}{s:Ao}{T:Cv}{x:V}{v:Aj}(I:Inv X pI Y H s)(r:Bi x v)(ty:tyV X.K T x H):s.TypeIs v T/\∀ a,v=.ref a->∃ ob,s.heap.get? a=Aa ob/\ob.dict=Ae:=by
 cases x with
 |str z=>
  obtain⟨t,rfl⟩:=r;cases (show T = "str" from ty)
  exact⟨EQ s z t,λ_ e=>nomatch e⟩
 |int i=>
  obtain⟨t,rfl⟩:=r;cases (show T = "int" from ty)
  exact⟨typeIs_int s i t,λ_ e=>nomatch e⟩
 |ref p=>
  cases r;rcases ty with ⟨rfl,xs,hq⟩|⟨rfl,o,hk,hc,hd⟩|⟨rfl,hk⟩|⟨rfl,S,n,hk⟩
  .obtain⟨its,_,pl,_⟩:=I.list hq;refine⟨pl.isList.typeIs,λa e=>?_⟩
   cases e;obtain⟨o,n,e,c,hd,_⟩:=pl;exact⟨o,e,hd⟩
  .refine⟨⟨o,I.kIn p o hk,hc⟩,λa e=>?_⟩
   cases e;exact⟨o,I.kIn _ o hk,hd⟩
  .have z:∃ o,s.heap.get? p=Aa o/\o.ExactDict:=by
    rcases hk with ⟨kvs,hk⟩|⟨kvs,hk⟩
    .obtain⟨_,_,_,_,o,_,_,e,ex,_⟩:=I.hok p _ hk;exact⟨o,e,ex⟩
    .obtain⟨_,_,_,_,o,_,_,e,ex,_⟩:=I.hok p _ hk;exact⟨o,e,ex⟩
   obtain⟨o,e,ex⟩:=z;refine⟨⟨o,e,ex.1⟩,λa e2=>?_⟩
   cases e2;exact⟨o,e,ex.2.1⟩
  .obtain⟨o,_,_,_,e,ex,_⟩:=I.hok p _ hk;refine⟨⟨o,e,ex.1⟩,λa e2=>?_⟩
   cases e2;exact⟨o,e,ex.2.1⟩
 |_=>exact A1 ty
def tBM(K:Fg)(T:Cv)(r:V->Ac V->Hp->VK->Prop)(to:TE)(t:TA):TE:=λY H Q=>to Y H λx H1=>tyV K T x H1/\t Y H1 λxs H2=>r x xs H2 Q
variable{o e:Am}{es:Ac Am}{to:TE}{t:TA}{name:Ag}{apos cpos:Az}{T id:Cv}{r:V->Ac V->Hp->VK->Prop}
theorem N8(pa:PlainAttrs T)(slot:Slot T name id)(hty:typeOf (.builtin id)=pure (.type "method_descriptor"))(hm:MtR X id r)(ho:PE X o to)(ha:PA X (e::es) t)(hbase:CS o name X.env (eval o X.env)=eval o X.env:=by rfl)(hfew:((Br cpos (Aq (e::es) X.env)).all (λx=>!x.1)&&(Hl cpos (FY [] X.env)).all (λx=>x.1.isSome)
   && decide ((e::es).length+([]:Ac DY).length+(if ([]:Ac DY).isEmpty then 0 else 1)<30))=Ab:=by rfl)(hline:(apos.endLine==cpos.line)=Ab:=by rfl)(hs:Aq (e::es) X.env=(Ad,eval e X.env)::Aq es X.env:=by rfl)(hplain:(Br cpos (Aq es X.env)).any (·.1)=Ad:=by rfl):PE X (.Call (.Attribute o name apos) (e::es) [] cpos) (tBM X.K T r to t):=by
 intro pI s Y H Q I h;refine wpAny_Call_method_late hbase hfew hline rfl (thn (ho pI s Y H _ I h) λv s1 ⟨x,H1,I1,r1,ty,q1⟩=>?_)
 obtain⟨h1,h2⟩:=cA I1 r1 ty;refine⟨T,id,pa,slot,hty,h1,h2,?_⟩;have hA:=ha cpos pI s1 Y H1 _ I1 q1;rw[hs]at hA ⊢;refine UW (by show (Ad||(Br cpos (Aq es X.env)).any (·.1))=Ad;rw[hplain]<;>rfl) (D9 ?_)
 exact thn hA λus s2 ⟨vs,H2,I2,r2,q2⟩=>hm pI s2 Y H2 x vs v us Q I2 r1 r2 q2
/- xs.append(e),list.index on a module's tuple .. are MtR facts of 06m -/
end
noncomputable def MtM(X:Cx)(id:Cv)(r:V->Ac V->Hp->VK->Prop):Prop:=
 ∀(pI:Pn)(s:Ao)(Y:St)(H:Hp)(x:V)(xs:Ac V)(v:Aj)(us:Ac Aj)(Q:VK),Inv X pI Y H s->Bi x v->AX xs us->r x xs H Q ->
  At (model X.prog X.w) X.A (call (.builtin id) (v::us)) (EP X pI Y Q) X.xe s
theorem AX.one:∀{x:V}{us:Ac Aj},AX [x] us->∃ u,us=[u]/\Bi x u
 |_,_,.cons r .nil=>⟨_,rfl,r⟩
theorem AX.zero:∀{us:Ac Aj},AX [] us->us=[]
 |_,.nil=>rfl
theorem AX.eraseIdx:∀{xs:Ac V}{us:Ac Aj}(i:Af),AX xs us->AX (xs.eraseIdx i) (us.eraseIdx i)
 |_,_,_,.nil=>.nil
 |_,_,0,.cons _ t=>t
 |_,_,i+1,.cons r t=>.cons r (AX.eraseIdx i t)
theorem AX.reverse(h:AX xs us):AX xs.reverse us.reverse:=by
 induction h with
 |nil=>exact .nil
 |cons r t ih=>rw[UC,UC];exact AX.append ih (.cons r .nil)
section
variable{X:Cx}{pI:Pn}{Y:St}{H:Hp}{s:Ao}{l b:Ak}{xs ys zs:Ac V}
theorem Inv.lset{its':Ac Aj}{f:A4 Aj->A4 Aj}(I:Inv X pI Y H s)(hH:H l=Aa (.lst xs))(e:s.heap.get? l=Aa { cls:=.type "list",data:=.seq its.toArray n })(hf:f its.toArray=its'.toArray)(hv:AX ys its')(hz:ys.length<=sizeLine):Inv X pI Y (upd H l (.lst ys)) {s with heap:=s.heap.update l (VF f),toks:=t'}:=by
 have q:=PySem.IsL.update e f;rw[hf]at q;refine I.write (x:=l) (e:=l) (by rw[hH];exact trivial) (.inl rfl) (λb' u hb hu=>(Ct s.heap (VF f) (CV hb)).trans hu) ⟨_,q⟩ ?_
 exact⟨hz,its',_,hv,q⟩
theorem Inv.lnew(I:Inv X pI Y H s)(hv:AX ys its)(hz:ys.length<=sizeLine):
  Inv X pI Y (upd H s.heap.objs.size (.lst ys)) { s with heap:=s.heap.push { cls:=.type "list",data:=.seq its.toArray },toks:=t' }:=
 I.laid (λ_ _ q=>As _ q) (AI _) ⟨hz,its,0,hv,AW _ rfl⟩
theorem Inv.fresh(I:Inv X pI Y H s):H s.heap.objs.size=Ae:=I.hok.fresh (AI _)
theorem Inv.lstM(I:Inv X pI Y H s)(hH:H l=Aa (.lst xs)):xs.length<=sizeLine/\∃(its:Ac Aj)(n:Af),AX xs its/\xs.length=its.length/\s.heap.get? l=Aa { cls:=.type "list",data:=.seq its.toArray n }:=by
 obtain⟨z,its,n,r,e⟩:=I.hok l _ hH;exact⟨z,its,n,r,r.length,e⟩
end
section
variable{X:Cx}
def Z_2:V->Ac V->Hp->VK->Prop:=λx vs H Q=>∃ l xs y,x=.ref l/\vs=[y]/\H l=Aa (.lst xs)/\xs.length<sizeLine/\Q .non (upd H l (.lst (xs++[y])))
theorem Xl:MtM X "list.append" Z_2:=by
 intro pI s Y H x vs v us Q I rx rv h;obtain⟨l,xs,y,rfl,rfl,hH,hz,q⟩:=h;cases rx;obtain⟨u,rfl,ru⟩:=rv.one;obtain⟨z,its,n,r,hl,e⟩:=I.lstM hH;refine Gm F.slot_list_append ⟨_,e,rfl⟩ F.entry_list_append (F.args_list_append_2 _ _) (PySem.list_append l its.toArray n u (by rw[AN];omega)) ⟨e,?_⟩
 refine⟨.non,_,I.lset (its':=its++[u]) hH e (by simp) (r.append (.cons ru .nil)) ?_,rfl,q⟩
 rw[BQ,C8];omega
end
section
variable{prog:AJ}{w:AT}{A:AR}{E:Vq}{s:Ao}
set_option maxRecDepth 100000 in
end
section
variable{X:Cx}
end
end L2
namespace Att
open PySem PySem.W PySem.Calls PyProof.Rows
variable{P:J7}{h:AB}{l:E9}{n:Af}
theorem Wx:∀(ns:Ac Ah)(vs:Ac Aj),WellAll P h vs (ns.map V0)->Hc vs ns:=by
 intro ns
 induction ns with
 |nil=>
  intro vs w;rw[HS]at w;cases w;exact .nil
 |cons n ns ih=>
  intro vs w;rw[BY]at w;cases w with
  |cons a b=>
   cases a;exact .cons _ _ (ih _ b)
theorem WX(hn:l.most=Aa n){args:Ac WData}{vals:Ac Aj}(hpre:l.row.toRowW.claim.pre args=Ab)(hwl:WellAll P h vals args):
  ∃ a vs ns,vals=[Bb a]/\args=[WData.list (ns.map V0)]/\h.get? a=Aa { cls:=.type "list",data:=.seq vs.toArray }/\Hc vs ns/\ns.length<=n:=by
 have hsh:WShape.hasAll [] args [.list .int]=Ab:=(pre_splitW hpre).1;have hc:l.pre.holds [] {args:=args}=Ab:=(pre_splitW hpre).2;obtain⟨d,r,rfl,h1,h2⟩:=hasAllW_cons hsh;obtain rfl:=hasAllW_nil h2;obtain⟨xs,rfl,h3⟩:=hasW_list h1;obtain⟨ns,rfl⟩:=items_int h3;have hlen:ns.length<=n:=by
  unfold OpenLaw.pre at hc;have h4:(WTm.not (.lt (.lit (.int (n:Ah))) (.len (.arg 0)))).holds [] {args:=[.list (ns.map .int)]}=Ab:=by
   have h4:=(holds_andW hc).1;rw[hn]at h4;exact h4
  have h5:=condW_of h4 (w_not (w_lt w_lit (w_len_list (w_arg rfl))));rw[BD]at h5;refine Nat.le_of_not_lt λq=>?_
  have q':(n:Ah)<((ns.length:Af):Ah):=by omega
  first
   |(rw[oK q']at h5;exact absurd h5 (by decide))
   |(simp at h5;omega)
 cases hwl with
 |cons w1 w2=>
  cases w2;cases w1 with
  |list ho hall=>exact⟨_,_,ns,rfl,rfl,ho,Wx ns _ hall,hlen⟩
theorem W1(l:E9)(args:Ac WData):l.row.toRowW.claim.post args (.bool Ab) args=Ab:=
 postW_of (r:=l.row.toRowW) (X:=(Ab==Ab))
  (show V1 [] (.bool Ab) .bool=Ab by first|rfl|decide|simp[V1,WShape.arms,WShape.armsAll])
  (show (WTm.eq .res (.lit (.bool Ab))).value [] {args:=args,res:=Aa (.bool Ab),after:=args}=Aa (.bool (Ab==Ab)) from w_eq_bool (w_res rfl) w_lit) rfl
theorem attach_call{q:AJ}{loose:Ac Ag}{XP:(Ag->An Aj)->AB->Prop}{YP:AT->AB->Prop}{d:DefRec}(hn:l.most=Aa n)(hdf:d.params.defaults=[])(call:∀(w:AT)(s₀ s₁:Ao)(mg mb:Ag->An Aj)(fa:Ak)(o:Cz)(pm cd doc:Aj)(a:Ak)(vs:Ac Aj)(ns:Ac Ah),
   Ground q loose [] XP w s₀ mg mb s₁.heap->YP w s₁.heap ->
   s₁.heap.get? fa=Aa o->o.data=.func (docDef d.name d.params d.body d.scope pm cd doc)->s₁.heap.CodeRec cd d.name->mg d.name=Aa (.ref fa) ->
   s₁.heap.get? a=Aa { cls:=.type "list",data:=.seq vs.toArray }->Hc vs ns->ns.length<=n->s₁.gens=#[] ->
   D0 (model l.prog w) Gq (.call (.ref fa) ⟨[.ref a],[]⟩) (λr s'=>r=.ok (.ret (.bool Ab))/\OldK s₁.heap s'.heap/\s'.os=s₁.os/\EN s'.gens) s₁):WalkO q loose XP YP l.row.toRowW d [] (λf vs=>Jj f vs):=by
 intro w s₀ s₁ mg mb G Y_ fa o pm cd doc dV kV ho hd hcd hD hmg hg args vals as hpre hlay hrd hwl hlo;obtain rfl:dV=.none:=Dflts.none hD hdf;obtain rfl:kV=.none:=Dflts.noKw hD;obtain⟨a,vs,ns,rfl,rfl,hobj,hints,hlen⟩:=WX hn hpre hwl;refine enter_call (D1 (call w s₀ s₁ mg mb fa o pm cd doc a vs ns G Y_ ho (fd_plain hd) hcd hmg hobj hints hlen hg) λr s' hq=>?_)
 obtain⟨rfl,h2,h3,h4⟩:=hq;exact⟨.inl ⟨.bool Ab,.bool Ab,[],rfl,λ_=>rfl,.bool Ab,W1 l _,λ_=>⟨List.Pairwise.nil,λ_ hm=>(nomatch hm)⟩⟩,h2,h3,h4⟩
section
variable{prog:AJ}{w:AT}{A:AR}{E:Vq}{s:Ao}{K:Frag}
end
end Att
namespace L2
open PySem PySem.Spec PyProof.Rows
variable{k:Af}{x:Ag}
theorem PJ:∀{vs:Ac Aj}{ns:Ac Ah},Hc vs ns->AX (ns.map V.int) vs
 |_,_,.nil=>.nil
 |_,_,.cons n t h=>.cons ⟨t,rfl⟩ (PJ h)
def O0(H:Hp):Prop:=∀ b,H b=Ae\/∃ o xs,H b=Aa (.frz o (.lst xs))
theorem XH{P:AJ}{w:AT}{K:Fg}{mg mb:Ag->An Aj}{CX:CXT}{fa a:Ak}{fd:Bq}{sp:Sp}{s₁:Ao}{vs:Ac Aj}{ns:Ac Ah}(KX:K.In s₁.heap)(hns:s₁.heap.Ns AQ mg)(hb:s₁.heap.Ns Ho mb)(hbb:∀ x:Ag,x≠"__name__"->mb x=Cu x)(hlim:s₁.heap.NoLimit)(hg:s₁.gens=#[])(ha:s₁.heap.get? a=Aa { cls:=.type "list",data:=.seq vs.toArray })(hi:Hc vs ns)(hl:ns.length<=sizeLine)(hr:Room k Gq)(F:∀ base:AB,K.In base->base.Ns AQ mg->FnOk P w K mg base CX k fa fd [x] sp)(hbind:∀(s:Ao)(u:Aj),FM s fd ⟨[u],[]⟩ [(x,u)])(hsp:∀ H:Hp,O0 H->SqL K H a (ns.map V.int)->sp [.ref a] H (λv _=>v=.bl Ab) λ_ _ _=>AV)(hCX:∀ H e s',CX [] H s₁ (λ_ _ _=>AV) e s'->AV):D0 (model P w) Gq (.call (.ref fa) ⟨[.ref a],[]⟩) (λr s'=>r=.ok (.ret (.bool Ab))/\OldK s₁.heap s'.heap/\s'.os=s₁.os/\EN s'.gens) s₁:=by
 have rv:=PJ hi;have lenV:=hi.length
 -- from an abstract heap in which nothing but the script may be tracked
 have core:∀ H:Hp,O0 H->SqL K H a (ns.map V.int)->HOk P w H s₁.heap->(∀ b,H b≠Ae->b=a)->(H a≠Ae->K.lookup a=Ae) ->
   D0 (model P w) Gq (.call (.ref fa) ⟨[.ref a],[]⟩) (λr s'=>r=.ok (.ret (.bool Ab))/\OldK s₁.heap s'.heap/\s'.os=s₁.os/\EN s'.gens) s₁:=by
  intro H hO hS hok hA hK;have base_of:∀{b:Ak}{o:Cz},s₁.heap.get? b=Aa o->H b=Ae->(HK s₁.heap H).get? b=Aa o:=λe n=>YB e n
  have noA:∀{b:Ak}{o:Cz}{es:A4 DictEntry}{ep:Af},s₁.heap.get? b=Aa o->o.data=.dict es ep->H b=Ae:=λ{b o es ep} e d=>by
   cases q:H b with
   |none=>rfl
   |some u=>
    have e':b=a:=hA b (by rw[q];simp)
    subst e';rw[ha]at e;cases e;have d':J5 vs.toArray _=Data.dict es ep:=d;cases d'
  have nsK:∀{b:Ak}{m:Ag->An Aj},s₁.heap.Ns b m->(HK s₁.heap H).Ns b m:=λ{b m} ⟨o,es,ep,e,d,r⟩=>⟨o,es,ep,base_of e (noA e d),d,r⟩
  have hKb:K.In (HK s₁.heap H):=λb o e=>base_of (KX b o e) (by
   cases q:H b with
   |none=>rfl
   |some u=>
    have e':b=a:=hA b (by rw[q];simp)
    subst e';rw[hK (by rw[q];simp)]at e;cases e)
  have hM:Mod K mg (HK s₁.heap H):=⟨hKb,nsK hns,⟨mb,nsK hb,hbb⟩,let ⟨mc,h1,h2⟩:=hlim;⟨mc,nsK h1,h2⟩⟩
  have e0:Env0 P w K mg (HK s₁.heap H) Gq [] s₁ H:=⟨rfl,hM,λb o e=>ZP e,UF (Xu _ _),trivial,λb hb=>absurd (show b∈([]:Ac Ak) from hb) (by simp),hok,.of_eq hg⟩
  refine D1 ((F _ hKb (nsK hns)).run Gq [] s₁ H ⟨[.ref a],[]⟩ [.ref a] [.ref a] _ _ hr e0 (hbind s₁ (.ref a)) (.cons rfl .nil) (hsp H hO hS)) λr s' h=>?_
  cases r with
  |error e=>exact(hCX H e s' h).elim
  |ok fl=>
   cases fl with
   |next=>exact A1 h
   |brk=>exact A1 h
   |cont=>exact A1 h
   |ret u=>
    obtain⟨v,H',os,bare,un,hok',r',q⟩:=h;have q':v=.bl Ab:=q;subst q';obtain rfl:u=Hk Ab:=r';refine⟨rfl,OldK.of_keep λb o e=>?_,os,bare⟩
    cases q:H b with
    |none=>exact un.keep b o e q (by intro z;exact absurd (show b∈([]:Ac Ak) from z) (by simp)) (by simp)
    |some u=>
     rcases hO b with z|⟨ob,xs,z⟩
     .rw[q]at z;cases z
     .have z2:=un.frzs b ob _ z;obtain⟨e1,_⟩:=hok b _ z;obtain⟨e2,_⟩:=hok' b _ z2;rw[e]at e1;cases e1;exact e2
 cases hk:K.lookup a with
 |some o=>
  -- the script is one of the module's own objects
  have e:=KX a o hk;rw[ha]at e;cases e;refine core (λ_=>Ae) (λ_=>.inl rfl) (.inr ⟨_,vs.toArray,_,hk,rfl,rfl,rfl,by rw[AN,lenV];exact hl,by simpa using rv⟩) (λb u z=>by have z':(Ae:An HO)=Aa u:=z;cases z') (λb z=>absurd rfl z) λz=>absurd rfl z
 |none=>
  refine core (λb=>if b=a then Aa (.frz { cls:=.type "list",data:=.seq vs.toArray } (.lst (ns.map V.int))) else Ae) (λb=>?_) (.inl (.inr ⟨{ cls:=.type "list",data:=.seq vs.toArray },AA rfl⟩)) (λb u z=>?_) (λb z=>?_) λ_=>hk
  .by_cases hb:b=a
   .exact .inr ⟨_,_,AA hb⟩
   .exact .inl (AH hb)
  .by_cases hb:b=a
   .have z':=(AA hb).symm.trans z;cases z';subst hb;exact⟨ha,by rw[BD];exact hl,vs,_,rv,ha⟩
   .have z':=(AH hb).symm.trans z;cases z'
  .by_cases hb:b=a
   .exact hb
   .exact absurd (AH hb) z
noncomputable abbrev KOf{K:Fg}{h:AB}(_:K.In h):Fg:=K
theorem walk_of{l:E9}{n:Af}{q:AJ}{loose:Ac Ag}{XP:(Ag->An Aj)->AB->Prop}{YP:AT->AB->Prop}{d:DefRec}{K:J7->Fg}{CX:AT->CXT}{sp:AT->Sp}(hn:l.most=Aa n)(hn2:n<=sizeLine)(hdf:d.params.defaults=[])(hr:Room k Gq)(hY:∀(w:AT)(h:AB),YP w h->(K w.params).In h)(F:∀(w:AT)(mg:Ag->An Aj)(fa:Ak)(h:AB),(K w.params).In h->h.Ns AQ mg->mg d.name=Aa (.ref fa) ->
   ∃ fd:Bq,(∀(s:Ao)(u:Aj),FM s fd ⟨[u],[]⟩ [(x,u)]) /\
    ∀ base:AB,(K w.params).In base->base.Ns AQ mg->FnOk l.prog w (K w.params) mg base (CX w) k fa fd [x] (sp w))(hsp:∀(w:AT)(H:Hp)(a:Ak)(ns:Ac Ah),ns.length<=n->O0 H->SqL (K w.params) H a (ns.map V.int)->sp w [.ref a] H (λv _=>v=.bl Ab) λ_ _ _=>AV)(hCX:∀(w:AT)(H:Hp)(s:Ao)(e:Aj)(s':Ao),CX w [] H s (λ_ _ _=>AV) e s'->AV):V2 q loose XP YP l.row.toRowW d [] (λf vs=>Jj f vs):=by
 refine Att.attach_call hn hdf λw s₀ s₁ mg mb fa o pm cd doc a vs ns G Y_ ho hd hcd hmg hobj hints hlen hg=>?_
 have KX:=hY w _ Y_;obtain⟨fd,hb,hF⟩:=F w mg fa _ KX G.T.g hmg;exact XH KX G.T.g G.T.b G.T.builtins G.T.nolimit hg hobj hints (Bw hlen hn2) hr hF hb (λH hO hS=>hsp w H a ns hlen hO hS) λH e s'=>hCX w H s₁ e s'
end L2
/- THE LAST THEOREM (shape;LID,My.* are yours):
   My.Adr:a structure of the addresses that your layer names (classes,functions);My.Txt K t:a structure (Prop) of the equations over K;
   My.txt_mk:{K} {implicit addresses ..} (e1:nsIn K AQ "law" = Aa (Aa (.ref f))) (e2:K.lookup f=Aa ⟨oc,od,.func (fnOf "law" "law" params body scope dV kV doc pm an cdv ct),sl⟩) (e3:codeIn K cdv "law" = Ab) ..:∃ t,My.Txt K t
set_option maxRecDepth 100000 in
set_option maxHeartbeats 0 in
theorem PySem.Challenge.cw_LID_holds:PySem.Challenge.rw_LID.Holds:=by
 w_on;o_law;k_head;(case hw=>w_witness2)
 k_fill
 refine L2.walk_of (l:=PySem.Challenge.rw_LID) (n:=63) (k:=40) (x := "script") (CX:=λw=>..) (sp:=λ_=>My.sp_law) rfl (by decide) rfl ⟨rfl,by decide,by decide⟩ (λw h Y_=>V7 Y_) ?F ?S ?C
 case F=>
  intro w mg fa h KX G hmg;have T:∃ t,My.Txt (L2.KOf KX) t:=by
   dsimp only[L2.KOf]                          -- K must stand as «<heap const> w.params» for k_is
   refine' My.txt_mk ?e1 ?e2 ?e3 ..
   (case e1=>PySem.W.k_is)                    -- in the order: a name -> its address -> its object -> its parts
   (case e2=>PySem.W.k_is)
   ..
  obtain⟨t,T⟩:=T;have e0:=hmg.symm.trans (DH KX G T.law);cases e0                                       -- fa is the law's own address
  exact⟨_,fun s u=>.of_eq rfl,fun base kb nb=>My.law_fn T kb nb⟩     -- if «.of_eq rfl» comes too early: refine' ⟨_,?b,fun base kb nb=>My.law_fn T kb nb⟩;exact fun s u=>.of_eq rfl
 case S=>exact λw H a ns hl hO hS=>..
 case C=>exact ..
(the tactic k_is has no namespace:write k_is) -/
namespace L2
open PySem PySem.Spec PyProof.Rows
noncomputable def FP(s:AD):Arguments:=match s with
  |.FunctionDef _ a _ _ _ _ _ _ _ _=>a
  |_=>{posonlyargs:=[],args:=[],vararg:=Ae,kwonlyargs:=[],kw_defaults:=[],kwarg:=Ae,defaults:=[]}
noncomputable def D3(s:AD):Ac AD:=match s with
  |.FunctionDef _ _ b _ _ _ _ _ _ _=>b
  |_=>[]
noncomputable def Bv(s:AD):BL:=match s with
  |.FunctionDef _ _ _ _ _ _ sc _ _ _=>sc
  |_=>{kind:=.function,names:=[],isGenerator:=Ad,isCoroutine:=Ad}
noncomputable abbrev CX0:CXT:=λ_ _ _ _ _ _=>AV
noncomputable abbrev E0:XK:=λ_ _ _=>AV
structure Fun (K:Fg) (x qual:Ag) (st:AD) (f:Ak) (fd:Bq):Prop where
 ex:∃(oc:Aj)(od:An Ak)(kV doc pm:Aj)(an:An Ak)(cdv ct:Aj)(osl:A4 (An Aj)),
  fd=BR x qual (FP st) (D3 st) (Bv st) .none kV doc pm an cdv ct/\K.lookup f=Aa ⟨oc,od,.func fd,osl⟩/\Du K cdv qual=Ab
 kp:A8 K (.ref f)=Ab
section
variable{P:AJ}{w:AT}{K:Fg}{mg:Ag->An Aj}{base:AB}
theorem Fun.ok{x qual:Ag}{st:AD}{f:Ak}{fd:Bq}{N ps:Ac Ag}{k:Af}{sp:Sp}(F:Fun K x qual st f fd)(S:FnScope N ps (Bv st))(len:∀ vs H Q E,sp vs H Q E->vs.length=ps.length)(hbody:∀(cdv:Aj)(A:AR)(outer:Ac B2)(s:Ao)(H:Hp)(vs:Ac V)(Q:VK)(E:XK),Room k (A.deeper (Eg qual (Bv st) s.heap.objs.size f cdv))->sp vs H Q E ->
   ∃ t,PSs (EM CX0 P w K mg base N qual (Bv st) f cdv A outer s H E).nox (D3 st) t/\t {nx:=λ_ H'=>Q .non H',rt:=Q} (start N vs) H):FnOk P w K mg base CX0 (k+1) f fd ps sp:=by
 obtain⟨oc,od,kV,doc,pm,an,cdv,ct,osl,rfl,lk,hcd⟩:=F.ex;refine Oz lk hcd S len λA outer s H vs Q E hr hsp=>?_
 obtain⟨t,h,q⟩:=hbody cdv A outer s H vs Q E hr hsp;exact⟨t,h.nox,q⟩
theorem Fun.binds{x qual:Ag}{st:AD}{f:Ak}{fd:Bq}{ps:Ac Ag}(F:Fun K x qual st f fd)(h:∀(kV doc pm:Aj)(an:An Ak)(cdv ct:Aj)(us:Ac Aj),us.length=ps.length->FO (BR x qual (FP st) (D3 st) (Bv st) .none kV doc pm an cdv ct) ⟨us,[]⟩=pure (ps.zip us)):Eb K fd ps []:=by
 obtain⟨oc,od,kV,doc,pm,an,cdv,ct,osl,rfl,lk,hcd⟩:=F.ex;exact .all (h kV doc pm an cdv ct)
theorem N1{x qual:Ag}{st:AD}{f:Ak}{oc:Aj}{od an:An Ak}{osl:A4 (An Aj)}{kV doc pm cdv ct:Aj}(l:K.lookup f=Aa ⟨oc,od,.func (BR x qual (FP st) (D3 st) (Bv st) .none kV doc pm an cdv ct),osl⟩)(c:Du K cdv qual=Ab)(k:A8 K (.ref f)=Ab):Fun K x qual st f (BR x qual (FP st) (D3 st) (Bv st) .none kV doc pm an cdv ct):=⟨⟨oc,od,kV,doc,pm,an,cdv,ct,osl,rfl,l,c⟩,k⟩
end
section
variable{X:Cx}
end
def Ax(H H':Hp):Prop:=∀ b o,H b=Aa o->H' b=Aa o
theorem Ax.refl(H:Hp):Ax H H:=λ_ _ h=>h
theorem Ax.trans{H H1 H2:Hp}(a:Ax H H1)(b:Ax H1 H2):Ax H H2:=λc o h=>b c o (a c o h)
theorem Ax.free{H H':Hp}(e:Ax H H'){l:Ak}(h:H' l=Ae):H l=Ae:=by
 cases q:H l with
 |none=>rfl
 |some o=>
  rw[e l o q]at h;cases h
end L2
section
namespace Ov
open PySem
variable{α β:Type}
inductive D where
 |non|bl (b:Ai)|int (i:Ah)|str (x:Ag)|tup (ds:Ac D)|lst (ds:Ac D)
 |obj (c:Af) (fs:Ac (Ag×D))|exc (c:Af) (fs:Ac (Ag×D))|dic (kvs:Ac (Ac Ah×D))
 deriving Inhabited
structure Ex where
 c:Af
 fs:Ac (Ag×D)
 deriving Inhabited
inductive R (α:Type) where
 |ok (a:α)|exn (x:Ex)|bad
 deriving Inhabited
noncomputable def R.bind{α β:Type}(r:R α)(f:α->R β):R β:=match r with
  |.ok a=>f a
  |.exn x=>.exn x
  |.bad=>.bad
@[simp]theorem R.bind_ok(a:α)(f:α->R β):(R.ok a).bind f=f a:=rfl
@[simp]theorem R.bind_exn(x:Ex)(f:α->R β):(R.exn x:R α).bind f=.exn x:=rfl
@[simp]theorem R.bind_bad(f:α->R β):(R.bad:R α).bind f=.bad:=rfl
theorem R.bind_assoc{γ:Type}(r:R α)(f:α->R β)(g:β->R γ):(r.bind f).bind g=r.bind λa=>(f a).bind g:=by cases r<;>rfl
noncomputable def B5(n:Af):Ai:=CP n 1000000
noncomputable def EF(i j:Ah):Ai:=(decide (-(18446744073709551616:Ah)<i)&&decide (i<18446744073709551616))||(decide (-(18446744073709551616:Ah)<j)&&decide (j<18446744073709551616))
noncomputable def LY(i j:Ah):Ai:=decide (i.natAbs<2 ^ 2000)&&decide (j.natAbs<2 ^ 2000)
noncomputable def CH:ED->D->D->R D
 |.Add,.int i,.int j=>.ok (.int (i+j))
 |.Sub,.int i,.int j=>.ok (.int (i-j))
 |.Mult,.int i,.int j=>if (EF i j||LY i j)=Ab then .ok (.int (i*j)) else .bad
 |.FloorDiv,.int i,.int j=>if 0<j/\j<1073741824 then .ok (.int (i/j)) else .bad
 |.Mod,.int i,.int j=>if 0<j then .ok (.int (i%j)) else .bad
 |.Pow,.int i,.int j=>if (0<=j/\j<=1000000)/\(-(18446744073709551616:Ah)<i/\i<18446744073709551616) then .ok (.int (i ^ j.toNat)) else .bad
 |.Add,.str x,.str y=>if B5 (x.length+y.length)=Ab then .ok (.str (x++y)) else .bad
 |.Add,.lst x,.lst y=>if B5 (x.length+y.length)=Ab then .ok (.lst (x++y)) else .bad
 |.Add,.tup x,.tup y=>if (!x.isEmpty&&B5 (x.length+y.length))=Ab then .ok (.tup (x++y)) else .bad
 |_,_,_=>.bad
noncomputable def unD:IA->D->R D
 |.USub,.int i=>.ok (.int (-i))
 |_,_=>.bad
noncomputable def b2i(b:Ai):Ah:=if b=Ab then 1 else 0
mutual
noncomputable def eqD:D->D->Ai
 |.non,.non=>Ab
 |.bl a,.bl b=>a==b
 |.bl a,.int j=>b2i a==j
 |.int i,.bl b=>i==b2i b
 |.int i,.int j=>i==j
 |.str x,.str y=>x==y
 |.tup xs,.tup ys=>eqDs xs ys
 |.lst xs,.lst ys=>eqDs xs ys
 |_,_=>Ad
noncomputable def eqDs:Ac D->Ac D->Ai
 |[],[]=>Ab
 |x::xs,y::ys=>eqD x y&&eqDs xs ys
 |_,_=>Ad
end
noncomputable def flD:Af->D->Ai
 |_,.non=>Ab
 |_,.bl _=>Ab
 |_,.int _=>Ab
 |_,.str _=>Ab
 |n+1,.tup xs=>xs.all (flD n)
 |n+1,.lst xs=>xs.all (flD n)
 |_,_=>Ad
noncomputable def Iu:D->An (Ac Ah)
 |.tup ds=>keyDs ds
 |_=>Ae
where keyDs:Ac D->An (Ac Ah)
 |[]=>Aa []
 |.int i::r=>(keyDs r).map (i :: ·)
 |_=>Ae
noncomputable def ltD:Af->D->D->Ai
 |0,.int i,.int j=>decide (i<j)
 |n+1,.tup xs,.tup ys=>ltDs (ltD n) xs ys
 |_,_,_=>Ad
where ltDs (lt:D->D->Ai):Ac D->Ac D->Ai
 |[],[]=>Ad
 |[],_::_=>Ab
 |_::_,[]=>Ad
 |x::xs,y::ys=>if eqD x y=Ab then ltDs lt xs ys else lt x y
noncomputable def rkD:Af->D->Ai
 |0,.int _=>Ab
 |n+1,.tup xs=>xs.all (rkD n)
 |_,_=>Ad
noncomputable def Tl(lt:D->D->Ai)(x:D):Ac D->Ac D
 |[]=>[x]
 |y::ys=>if lt y x=Ab then y::Tl lt x ys else x::y::ys
noncomputable def Sw(lt:D->D->Ai):Ac D->Ac D
 |[]=>[]
 |x::xs=>Tl lt x (Sw lt xs)
noncomputable def TD:Ac D->Ai
 |[]=>Ab
 |x::xs=>xs.all (λy=>!eqD x y)&&TD xs
noncomputable def TY:Ac D->Ai
 |[]=>Ab
 |[_]=>Ab
 |x::y::r=>ltD 1 x y&&TY (y::r)
noncomputable def Q2(xs:Ac D):R (Ac D):=if (xs.all (λd=>rkD 1 d && !eqD d (.tup []))&&TD xs&&(decide (xs.length<64)||(TY xs&&decide (xs.length<=1000))))=Ab then .ok (Sw (ltD 1) xs) else .bad
noncomputable def Bs:CJ->D->D->R D
  |.Eq,x,y=>if (flD 5 x&&flD 5 y)=Ab then .ok (.bl (eqD x y)) else .bad
  |.NotEq,x,y=>if (flD 5 x&&flD 5 y)=Ab then .ok (.bl (!eqD x y)) else .bad
  |.Lt,.int i,.int j=>.ok (.bl (decide (i<j)))
  |.LtE,.int i,.int j=>.ok (.bl (decide (i<=j)))
  |.Gt,.int i,.int j=>.ok (.bl (decide (j<i)))
  |.GtE,.int i,.int j=>.ok (.bl (decide (j<=i)))
  |.In,x,.lst ys=>if (flD 5 x&&ys.all (flD 5))=Ab then .ok (.bl (ys.any λy=>eqD y x)) else .bad
  |.In,x,.dic kvs=>match Iu x with
    |some k=>.ok (.bl (kvs.any λp=>p.1==k))
    |none=>.bad
  |.In,x,.tup ys=>if (flD 5 x&&ys.all (flD 5))=Ab then .ok (.bl (ys.any λy=>eqD y x)) else .bad
  |.NotIn,x,.lst ys=>if (flD 5 x&&ys.all (flD 5))=Ab then .ok (.bl (!ys.any λy=>eqD y x)) else .bad
  |.NotIn,x,.tup ys=>if (flD 5 x&&ys.all (flD 5))=Ab then .ok (.bl (!ys.any λy=>eqD y x)) else .bad
  |.Is,.non,.non=>.ok (.bl Ab)
  |.Is,.bl _,.non=>.ok (.bl Ad)
  |.Is,.int _,.non=>.ok (.bl Ad)
  |.Is,.str _,.non=>.ok (.bl Ad)
  |.Is,.tup _,.non=>.ok (.bl Ad)
  |.Is,.lst _,.non=>.ok (.bl Ad)
  |.Is,.obj _ _,.non=>.ok (.bl Ad)
  |.Is,.bl a,.bl b=>.ok (.bl (a==b))
  |.IsNot,.bl a,.bl b=>.ok (.bl (!(a==b)))
  |.IsNot,.non,.non=>.ok (.bl Ad)
  |.IsNot,.bl _,.non=>.ok (.bl Ab)
  |.IsNot,.int _,.non=>.ok (.bl Ab)
  |.IsNot,.str _,.non=>.ok (.bl Ab)
  |.IsNot,.tup _,.non=>.ok (.bl Ab)
  |.IsNot,.lst _,.non=>.ok (.bl Ab)
  |.IsNot,.obj _ _,.non=>.ok (.bl Ab)
  |_,_,_=>.bad
noncomputable def BG:D->R Ai
 |.non=>.ok Ad
 |.bl b=>.ok b
 |.int i=>.ok (i != 0)
 |.str x=>if B5 x.length=Ab then .ok (x.length != 0) else .bad
 |.tup xs=>.ok (!xs.isEmpty)
 |.lst xs=>.ok (!xs.isEmpty)
 |_=>.bad
noncomputable def plD(n:Af)(i:Ah):An Af:=if 0<=i then (if i<n then Aa i.toNat else Ae) else if -(n:Ah)<=i then Aa (i+n).toNat else Ae
noncomputable def DA(xs:Ac D)(i:Ah):R D:=match plD xs.length i with
  |some k=>match xs[k]? with
    |some d=>.ok d
    |none=>.bad
  |none=>.bad
noncomputable def NV(kvs:Ac (Ac Ah×D))(k:Ac Ah):An D:=(kvs.find? λp=>p.1==k).map (·.2)
noncomputable def Sc(kvs:Ac (Ac Ah×D))(k:Ac Ah)(v:D):Ac (Ac Ah×D):=if (kvs.any λp=>p.1==k)=Ab then kvs.map (λp=>if (p.1==k)=Ab then (k,v) else p) else kvs++[(k,v)]
noncomputable def JU(x:Ag):Ac D:=x.cps.toList.map λc=>.str ⟨#[c]⟩
noncomputable def CN:D->D->R D
  |.str x,.int i=>if B5 x.length=Ab then DA (JU x) i else .bad
  |.lst xs,.int i=>DA xs i
  |.tup xs,.int i=>DA xs i
  |.dic kvs,k=>match (Iu k).bind (NV kvs) with
    |some d=>.ok d
    |none=>.bad
  |_,_=>.bad
noncomputable def EH:D->R Ah
 |.int i=>.ok i
 |_=>.bad
noncomputable def Di:D->R Ai
 |.bl b=>.ok b
 |_=>.bad
noncomputable def DU:D->R (Ac D)
 |.lst xs=>.ok xs
 |.tup xs=>.ok xs
 |_=>.bad
noncomputable def Os:D->R (Ac D)
 |.lst xs=>.ok xs
 |_=>.bad
inductive BI where
 |len|abs|max|min|int|list|tuple|all|any|sum|sorted|str|count|stp|lset|tmin|tmax|tlt|rvs|sjoin|ssplit
 deriving DecidableEq,Inhabited
inductive Ki where
 |int|bool|str|list|tuple|verr|cls (c:Af)
 deriving DecidableEq,Inhabited
mutual
inductive E where
 |non|bl (b:Ai)|int (i:Ah)|str (x:Ag)
 |var (i:Af)|glob (g:Af)
 |bin (op:ED) (a b:E)|un (op:IA) (a:E)|no (a:E)
 |and (es:Es)|or (es:Es)
 |cmp (op:CJ) (a b:E)|cmp2 (op op':CJ) (a b c:E)
 |ite (c a b:E)
 |call (f:Af) (as:Es)|bi (b:BI) (as:Es)
 |isi (a:E) (ks:Ac Ki)
 |idx (a i:E)|sl (a lo hi:E)
 |tup (es:Es)|lst (es:Es)
 |comp (elt:E) (t:Af) (it:I) (c:E)|compT (elt:E) (ts:Ac Af) (it:I) (c:E)|tupI (it:I)|dnew
 |fld (o:E) (f:Ag)|mkx (c:Af) (as:Es)
 |ofl (o:E) (f:Ag)|iso (a:E) (k:Af)|meth (m:Ag) (ms:Ac (Af×Af)) (o:E)|mkob (c:Af) (e:E)|mkn (c:Af) (as:Es)
inductive Es where
 |nil|cons (e:E) (es:Es)
inductive I where
 |e (a:E)|rng (a:E)|rng2 (a b:E)|zip (a b:E)|zip3 (a b c:E)|enm (a:E)
end
abbrev Sl:=An (D×Ai)
abbrev Rho:=Ac Sl
structure Gam where
 F:Af->Ac D->R D
 G:Af->D
 up:Af->Ac Af
 /-- the defs whose answer is a new list -/
 fr:Af->Ai
 /-- what is raised: the class,what it is made of -/
 xn:Af->Ac D->R Ex
noncomputable def EJ(lo:Ah)(n:Af):Ac D:=(B6 n).map fun(k:Af)=>D.int (lo+(k:Ah))
noncomputable def DT(lo hi:Ah):R (Ac D):=if (-(4611686018427387904:Ah)<=lo/\lo<4611686018427387904)/\(-(4611686018427387904:Ah)<=hi/\hi<4611686018427387904)/\hi-lo<1000000 then .ok (EJ lo (hi-lo).toNat) else .bad
noncomputable def kiD(up:Af->Ac Af):Ki->D->Ai
 |.int,.int _=>Ab
 |.int,.bl _=>Ab
 |.bool,.bl _=>Ab
 |.str,.str _=>Ab
 |.list,.lst _=>Ab
 |.tuple,.tup _=>Ab
 |.cls c,.obj k _=>(up k).contains c
 |.cls c,.exc k _=>(up k).contains c
 |.verr,.exc _ _=>Ab
 |_,_=>Ad
noncomputable def Ds:Ki->Ai
 |.cls _=>Ab
 |.verr=>Ab
 |_=>Ad
noncomputable def DW(up:Af->Ac Af)(ks:Ac Ki)(x:D):R D:=match x with
  |.obj _ _=>.bad
  |.exc _ _=>if ks.all Ds=Ab then .ok (.bl (ks.any λk=>kiD up k x)) else .bad
  |.dic _=>.bad
  |_=>if ks.any Ds=Ab then .bad else .ok (.bl (ks.any λk=>kiD up k x))
noncomputable def DV:D->R Ai
 |.non=>.ok Ad
 |.bl b=>.ok b
 |.int i=>.ok (i != 0)
 |_=>.bad
noncomputable def Gb:Ac D->R Ai
 |[]=>.ok Ab
 |x::r=>(DV x).bind λb=>(Gb r).bind λc=>.ok (b&&c)
noncomputable def FB:Ac D->R Ai
 |[]=>.ok Ad
 |x::r=>(DV x).bind λb=>(FB r).bind λc=>.ok (b||c)
noncomputable def KJ:Ah->Ac D->R Ah
 |a,[]=>.ok a
 |a,.int i::r=>KJ (a+i) r
 |_,_=>.bad
noncomputable def OB:Ac D->Ac D->Ac D
 |x::xs,y::ys=>.tup [x,y]::OB xs ys
 |_,_=>[]
noncomputable def Sz:Ac D->Ac D->Ac D->Ac D
 |x::xs,y::ys,z::zs=>.tup [x,y,z]::Sz xs ys zs
 |_,_,_=>[]
noncomputable def Sy(x y z:D):R (Ac D):=(DU x).bind λxs=>(DU y).bind λys=>(DU z).bind λzs=>if 0<xs.length/\xs.length<=1000/\ys.length=xs.length/\zs.length=xs.length then .ok (Sz xs ys zs) else .bad
noncomputable def Cm:Ah->Ac D->Ac D
 |_,[]=>[]
 |i,x::xs=>.tup [.int i,x]::Cm (i+1) xs
noncomputable def nlD:Af->D->Ai
 |_,.non=>Ab
 |_,.bl _=>Ab
 |_,.int _=>Ab
 |_,.str _=>Ab
 |n+1,.tup xs=>xs.all (nlD n)
 |_,_=>Ad
noncomputable def FR(fr:Ai):D->Ai
 |.lst ds=>fr&&ds.all (nlD 5)
 |d=>nlD 5 d
noncomputable def HC:Ac D->An (Ac Ah)
 |[]=>Aa []
 |.int i::r=>(HC r).map (i :: ·)
 |_=>Ae
noncomputable def G9(i:Ah):Ac Ah->Ah
 |[]=>i
 |j::r=>G9 (if j<i then j else i) r
noncomputable def pk2(k n:Af):Ac Af:=(B6 ((n-min k n+1)/2)).map λj=>min k n+2*j
noncomputable def TN(k:Af)(xs:Ac D):Ac D:=(pk2 k xs.length).filterMap λi=>xs[i]?
noncomputable def ddS(acc:Ac Ah)(x:Ah):Ac Ah:=if acc.any (· == x)=Ab then acc else acc++[x]
noncomputable def ddN(is:Ac Ah):Af:=(is.foldl ddS []).length
noncomputable def S2(xs:Ac D):R D:=match HC xs with
  |some is=>if CP is.length 4000=Ab then .ok (.int (ddN is)) else .bad
  |none=>.bad
noncomputable def mmD(mx:Ai)(x y:D):R D:=if [x,y].all (λd=>rkD 1 d && !eqD d (.tup []))=Ab then .ok (if (if mx=Ab then ltD 1 x y else ltD 1 y x)=Ab then y else x) else .bad
noncomputable def TJ(x y:D):R D:=if [x,y].all (λd=>rkD 1 d && !eqD d (.tup []))=Ab then .ok (.bl (ltD 1 x y)) else .bad
noncomputable def mQ(k:Ac Ah):Ah:=reduceHash (Builtin.Tuple.tupleHashOf (k.map hashInt))
noncomputable def S3:Ac D->An (Ac (Ac Ah))
 |[]=>Aa []
 |.tup xs::r=>(HC xs).bind λk=>(S3 r).map (k :: ·)
 |_=>Ae
noncomputable def Tj:Ac Ah->Ai
 |[]=>Ab
 |h::r=>!r.contains h&&Tj r
noncomputable def mB(xs:Ac D):R D:=match S3 xs with
  |some ks=>if (CP ks.length 3&&Tj (ks.map mQ))=Ab then .ok (.int ks.length) else .bad
  |none=>.bad
noncomputable def JI:Ac D->An (Ac Ag)
 |[]=>Aa []
 |.str x::r=>(JI r).map (x :: ·)
 |_=>Ae
noncomputable def NI(s:Ag)(xs:Ac D):R D:=match JI xs with
  |some ss=>if HW s ss=Ab then .ok (.str (DS s ss)) else .bad
  |none=>.bad
noncomputable def KM(i:Ah):Ai:=decide (i.natAbs<1000)
noncomputable def HG(x y:Ag):Ai:=CP x.length 1000000&&CP (UU x (DB x y 0 x.length (x.length+1)) y.length).length 1000000
noncomputable def Gf(x:Ag)(l h:An Ah):Ag:=if ((D7 l h 1 x.length).length==x.length)=Ab then x else ⟨((D7 l h 1 x.length).filterMap (x.cps[·]?)).toArray⟩
noncomputable def biD:BI->Ac D->R D
  |.len,[.lst xs]=>.ok (.int xs.length)
  |.len,[.tup xs]=>.ok (.int xs.length)
  |.len,[.str x]=>if B5 x.length=Ab then .ok (.int x.length) else .bad
  |.abs,[.int i]=>.ok (.int (if i<0 then -i else i))
  |.max,[.int i,.int j]=>.ok (.int (if i<j then j else i))
  |.min,[.int i,.int j]=>.ok (.int (if j<i then j else i))
  |.min,[.lst xs]=>match HC xs with
    |some (i::is)=>.ok (.int (G9 i is))
    |_=>.bad
  |.int,[.int i]=>.ok (.int i)
  |.int,[.bl b]=>.ok (.int (b2i b))
  |.list,[.lst xs]=>.ok (.lst xs)
  |.list,[.tup xs]=>.ok (.lst xs)
  |.tuple,[.lst xs]=>.ok (.tup xs)
  |.tuple,[.tup xs]=>.ok (.tup xs)
  |.all,[.lst xs]=>(Gb xs).bind λb=>.ok (.bl b)
  |.any,[.lst xs]=>(FB xs).bind λb=>.ok (.bl b)
  |.any,[.tup xs]=>(FB xs).bind λb=>.ok (.bl b)
  |.sum,[.lst xs]=>(KJ 0 xs).bind λi=>.ok (.int i)
  |.sum,[.tup xs]=>(KJ 0 xs).bind λi=>.ok (.int i)
  |.sorted,[.lst xs]=>(Q2 xs).bind λys=>.ok (.lst ys)
  |.count,[.lst xs,x]=>if (flD 5 x&&xs.all (flD 5))=Ab then .ok (.int ((xs.filter λy=>eqD y x).length:Af)) else .bad
  |.len,[.dic kvs]=>.ok (.int kvs.length)
  |.stp,[.lst xs,.int k]=>.ok (.lst (TN k.toNat xs))
  |.lset,[.lst xs]=>S2 xs
  |.lset,[.tup xs]=>mB xs
  |.sjoin,[.str s,.lst xs]=>NI s xs
  |.str,[.int i]=>if KM i=Ab then .ok (.str (Ay (toString i))) else .bad
  |.ssplit,[.str x,.str y]=>if (!(y.length==0)&&HG x y)=Ab then .ok (.lst ((DL x y).map D.str)) else .bad
  |.tmin,[x,y]=>mmD Ad x y
  |.tmax,[x,y]=>mmD Ab x y
  |.tlt,[x,y]=>TJ x y
  |.rvs,[.lst xs]=>.ok (.lst xs.reverse)
  |_,_=>.bad
noncomputable def slE(c:E)(d:D):R (An Ah):=match c with
  |.non=>.ok Ae
  |_=>(EH d).bind λi=>.ok (Aa i)
noncomputable def HH(n d:Af):An Ah->Af
 |none=>d
 |some i=>if i<0 then (i+n).toNat else min i.toNat n
noncomputable def JT(xs:Ac D)(lo hi:An Ah):Ac D:=(xs.drop (HH xs.length 0 lo)).take (HH xs.length xs.length hi-HH xs.length 0 lo)
noncomputable def slD:D->An Ah->An Ah->R D
 |.lst xs,l,h=>.ok (.lst (JT xs l h))
 |.tup xs,l,h=>if (HH xs.length 0 l==0&&HH xs.length xs.length h==xs.length)=Ab then .bad else .ok (.tup (JT xs l h))
 |.str x,l,h=>if (B5 x.length&&B5 (Gf x l h).length)=Ab then .ok (.str (Gf x l h)) else .bad
 |_,_,_=>.bad
noncomputable def oup:Af->Ac Af
 |0=>[0]
 |1=>[1,0]
 |2=>[2,0]
 |_=>[]
noncomputable def ofD:D->Ag->R D
  |.obj _ fs,f=>match fs.lookup f with
    |some d=>.ok d
    |none=>.bad
  |_,_=>.bad
noncomputable def KY(k:Af):D->R D
 |.obj c _=>.ok (.bl ((oup c).contains k))
 |_=>.bad
noncomputable def IY(F:Af->Ac D->R D)(m:Ag)(ms:Ac (Af×Af)):D->R D
  |.obj c fs=>match ms.lookup c with
    |some id=>if (fs.lookup m).isNone=Ab then F id [.obj c fs] else .bad
    |none=>.bad
  |_=>.bad
noncomputable def D4(c:Af):D->R D
 |.tup [a,b]=>if nlD 5 b=Ab then .ok (.obj c [("p",a),("triple",b)]) else .bad
 |_=>.bad
noncomputable def Mj:D->Ag->R D
  |.exc _ fs,f=>match fs.lookup f with
    |some d=>.ok d
    |none=>.bad
  |_,_=>.bad
noncomputable def E7(U:Rho)(i:Af):R D:=match U[i]? with
  |some (Aa (d,Ad))=>.ok d
  |_=>.bad
noncomputable def nG:D->R D
 |.lst xs=>.ok (.lst xs)
 |_=>.bad
noncomputable def Dr(U:Rho)(i:Af):R D:=match U[i]? with
  |some (Aa (d,Ad))=>.ok d
  |some (Aa (d,Ab))=>nG d
  |_=>.bad
noncomputable def shE(U:Rho):E->Ai
  | .var i=>(match U[i]? with
    |some (Aa (_,Ab))=>Ad
    | _=>Ab)
  |_=>Ab
noncomputable def G8(U:Rho):Es->Ai
 |.nil=>Ab
 |.cons e es=>shE U e&&G8 U es
noncomputable def DD:Ac Af->Ac D->Rho->An Rho
 |[],[],U=>Aa U
 |t::ts,d::ds,U=>DD ts ds (U.set t (Aa (d,Ad)))
 |_,_,_=>Ae
noncomputable def D2(ts:Ac Af)(d:D)(U:Rho):R Rho:=match d with
  | .tup xs=>(match DD ts xs U with
    |some U'=>.ok U'
    | none=>.bad)
  |_=>.bad
noncomputable def LQ(ts:Ac Af)(d:D)(U:Rho):R Rho:=match d with
  | .lst xs=>(match DD ts xs U with
    |some U'=>.ok U'
    | none=>.bad)
  |d=>D2 ts d U
noncomputable def B4(g:D->R Ai)(f:D->R D):Ac D->R (Ac D)
 |[]=>.ok []
 |x::xs=>(g x).bind λb=>if b=Ab then (f x).bind λy=>(B4 g f xs).bind λys=>.ok (y::ys) else B4 g f xs
noncomputable def noX{α:Type}:R α->R α
 |.ok a=>.ok a
 |_=>.bad
noncomputable def top(U:Rho)(e:E)(r:R D):R D:=match e with
  |.var i=>Dr U i
  |_=>r
mutual
noncomputable def evE(Z:Gam)(U:Rho):E->R D
 |.non=>.ok .non
 |.bl b=>.ok (.bl b)
 |.int i=>.ok (.int i)
 |.str x=>.ok (.str x)
 |.var i=>E7 U i
 |.glob g=>.ok (Z.G g)
 |.bin op a b=>(top U a (evE Z U a)).bind λx=>(top U b (evE Z U b)).bind λy=>CH op x y
 |.un op a=>(top U a (evE Z U a)).bind λx=>unD op x
 |.no a=>(top U a (evE Z U a)).bind λx=>(Di x).bind λb=>.ok (.bl (!b))
 |.and es=>evN Z U es
 |.or es=>evO Z U es
 |.cmp op a b=>(top U a (evE Z U a)).bind λx=>(top U b (evE Z U b)).bind λy=>Bs op x y
 |.cmp2 op op' a b c=>(top U a (evE Z U a)).bind λx=>(top U b (evE Z U b)).bind λy=>(Bs op x y).bind λz=>(Di z).bind λk=>if k=Ab then (top U c (evE Z U c)).bind λu=>Bs op' y u else .ok (.bl Ad)
 |.ite c a b=>(top U c (evE Z U c)).bind λx=>(BG x).bind λk=>if k=Ab then evE Z U a else evE Z U b
 |.call f as=>(evB Z U as).bind λxs=>(Z.F f xs).bind λd=>if G8 U as=Ab then .ok d else if FR (Z.fr f) d=Ab then .ok d else .bad
 |.bi b as=>(evB Z U as).bind λxs=>biD b xs
 |.isi a ks=>(top U a (evE Z U a)).bind λx=>DW Z.up ks x
 |.idx a i=>(top U a (evE Z U a)).bind λx=>(top U i (evE Z U i)).bind λy=>CN x y
 |.sl a lo hi=>(top U a (evE Z U a)).bind λx=>(top U lo (evE Z U lo)).bind λl=>(slE lo l).bind λl'=>(top U hi (evE Z U hi)).bind λh=>(slE hi h).bind λh'=>slD x l' h'
 |.tup es=>(evA Z U es).bind λxs=>.ok (.tup xs)
 |.lst es=>(evA Z U es).bind λxs=>.ok (.lst xs)
 |.comp elt t it c=>(evI Z U it).bind λxs=>(noX (B4 (λx=>(top (U.set t (Aa (x,Ad))) c (evE Z (U.set t (Aa (x,Ad))) c)).bind BG) (λx=>evE Z (U.set t (Aa (x,Ad))) elt) xs)).bind λys=>.ok (.lst ys)
 |.compT elt ts it c=>(evI Z U it).bind λxs=>(noX (B4 (λx=>(D2 ts x U).bind λU'=>(top U' c (evE Z U' c)).bind BG) (λx=>(D2 ts x U).bind λU'=>evE Z U' elt) xs)).bind λys=>.ok (.lst ys)
 |.tupI it=>(evI Z U it).bind λxs=>.ok (.tup xs)
 |.dnew=>.ok (.dic [])
 |.fld o f=>(top U o (evE Z U o)).bind λx=>Mj x f
 |.mkx c as=>(noX (evA Z U as)).bind λxs=>(Z.xn c xs).bind λx=>.ok (.exc x.c x.fs)
 |.ofl o f=>(top U o (evE Z U o)).bind λx=>ofD x f
 |.iso a k=>(top U a (evE Z U a)).bind λx=>KY k x
 |.meth m ms o=>(top U o (evE Z U o)).bind λx=>IY Z.F m ms x
 |.mkob c e=>(noX (evE Z U e)).bind λx=>D4 c x
 |.mkn c as=>(noX (evA Z U as)).bind λxs=>Z.F (900+c) xs
noncomputable def evN(Z:Gam)(U:Rho):Es->R D
 |.nil=>.bad
 |.cons e .nil=>evE Z U e
 |.cons e (.cons e' es)=>(evE Z U e).bind λx=>(Di x).bind λc=>if c=Ab then evN Z U (.cons e' es) else .ok (.bl Ad)
noncomputable def evO(Z:Gam)(U:Rho):Es->R D
 |.nil=>.bad
 |.cons e .nil=>evE Z U e
 |.cons e (.cons e' es)=>(evE Z U e).bind λx=>(Di x).bind λc=>if c=Ab then .ok (.bl Ab) else evO Z U (.cons e' es)
noncomputable def evA(Z:Gam)(U:Rho):Es->R (Ac D)
 |.nil=>.ok []
 |.cons e es=>(evE Z U e).bind λx=>(evA Z U es).bind λxs=>.ok (x::xs)
noncomputable def evB(Z:Gam)(U:Rho):Es->R (Ac D)
 |.nil=>.ok []
 |.cons e es=>(top U e (evE Z U e)).bind λx=>(evB Z U es).bind λxs=>.ok (x::xs)
noncomputable def evI(Z:Gam)(U:Rho):I->R (Ac D)
 |.e a=>(evE Z U a).bind DU
 |.rng a=>(top U a (evE Z U a)).bind λx=>(EH x).bind λj=>DT 0 j
 |.rng2 a b=>(top U a (evE Z U a)).bind λx=>(top U b (evE Z U b)).bind λy=>(EH x).bind λi=>(EH y).bind λj=>DT i j
 |.zip a b=>(evE Z U a).bind λx=>(evE Z U b).bind λy=>(DU x).bind λxs=>(DU y).bind λys=>.ok (OB xs ys)
 |.zip3 a b c=>(evE Z U a).bind λx=>(evE Z U b).bind λy=>(evE Z U c).bind λz=>Sy x y z
 |.enm a=>(evE Z U a).bind λx=>(DU x).bind λxs=>.ok (Cm 0 xs)
end
noncomputable def DF(Z:Gam):E->Ai
 |.lst _=>Ab
 |.comp _ _ _ _=>Ab
 |.compT _ _ _ _=>Ab
 |.dnew=>Ab
 |.bin .Add _ _=>Ab
 |.bi .list _=>Ab
 |.bi .sorted _=>Ab
 |.sl _ _ _=>Ab
 |.call f _=>Z.fr f
 |_=>Ad
mutual
inductive S where
 |pass
 /-- x=e;fresh: x alone holds the new list -/
 |asg (i:Af) (fresh:Ai) (e:E)
 /-- a,b,..=e -/
 |asgT (ts:Ac Af) (e:E)
 |expr (e:E)
 |ret (e:E)|retN
 |ife (c:E) (a b:Ss)
 |fors (t:Af) (it:I) (body:Ss)
 |forT (ts:Ac Af) (it:I) (body:Ss)
 /-- for t,u in enumerate(x): x is held alone -/
 |forO (i:Af) (ts:Ac Af) (body:Ss)
 |whl (c:E) (body:Ss)
 /-- raise C(e,..) -/
 |rais (c:Af) (as:Es)
 /-- try: body except C as x: h -/
 |tryx (body:Ss) (c:Af) (x:Af) (h:Ss)
 /-- .. except C as x: h,except C' as x: h',else: els -/
 |try2 (body:Ss) (c:Af) (x:Af) (h:Ss) (c':Af) (h' els:Ss)
 /-- x.append(e),x.extend(e),x.insert(k,e),x.reverse(),x.clear() -/
 |app (i:Af) (e:E)|ext (i:Af) (e:E)|ins (i:Af) (k e:E)|rev (i:Af)|clr (i:Af)
 /-- d[k]=e,d.setdefault(k,e) -/
 |dput (i:Af) (k e:E)|dsd (i:Af) (k e:E)
 /-- x[k]=e -/
 |put (i:Af) (k e:E)
 /-- x[k],x[l]=x[l],x[k] -/
 |swp (i k l:Af)
 /-- x.append(y.pop(e)) -/
 |apop (j i:Af) (e:E)
 |brk|cont
 /-- nothing: from here on x is no longer changed -/
 |rel (i:Af)
inductive Ss where
 |nil|cons (s:S) (ss:Ss)
end
inductive O where
 |next (U:Rho)|ret (d:D) (fr:Ai)|brk (U:Rho)|cont (U:Rho)|exn (x:Ex) (U:Rho)|bad
 deriving Inhabited
noncomputable def O.of{α:Type}(U:Rho)(r:R α)(f:α->O):O:=match r with
  |.ok a=>f a
  |.exn x=>.exn x U
  |.bad=>.bad
@[simp]theorem O.of_ok(U:Rho)(a:α)(f:α->O):O.of U (.ok a) f=f a:=rfl
@[simp]theorem O.of_exn(U:Rho)(x:Ex)(f:α->O):O.of U (.exn x:R α) f=.exn x U:=rfl
@[simp]theorem O.of_bad(U:Rho)(f:α->O):O.of U (.bad:R α) f=.bad:=rfl
noncomputable def Ha(Z:Gam)(U:Rho)(i:I):R (Ac D):=evI Z U i
noncomputable def C5(U:Rho)(i:Af):R (Ac D):=match U[i]? with
  |some (Aa (.lst xs,Ab))=>.ok xs
  |_=>.bad
noncomputable def Tx(U:Rho)(i:Af):R (Ac (Ac Ah×D)):=match U[i]? with
  |some (Aa (.dic xs,Ab))=>.ok xs
  |_=>.bad
noncomputable def S8(d:D):R (Ac Ah):=match Iu d with
  |some k=>.ok k
  |none=>.bad
noncomputable def Oy:Af:=4096
noncomputable def O.seq(o:O)(f:Rho->O):O:=match o with
  |.next U=>f U
  |.ret d b=>.ret d b
  |.brk U=>.brk U
  |.cont U=>.cont U
  |.exn x U=>.exn x U
  |.bad=>.bad
noncomputable def O.turn(o:O)(f:Rho->O):O:=match o with
  |.next U=>f U
  |.cont U=>f U
  |.brk U=>.next U
  |.ret d b=>.ret d b
  |.exn x U=>.exn x U
  |.bad=>.bad
noncomputable def Ci(body:D->Rho->O):Ac D->Rho->O
 |[],U=>.next U
 |x::xs,U=>(body x U).turn (Ci body xs)
noncomputable def Iw(c:Rho->R Ai)(body:Rho->O):Af->Rho->O
 |0,_=>.bad
 |n+1,U=>O.of U (c U) λb=>if b=Ab then (body U).turn (Iw c body n) else .next U
noncomputable def S6(U:Rho)(k:Af):R Ah:=(E7 U k).bind EH
noncomputable def nB(U:Rho)(d:D)(i k l:Af):O:=match d with
  |.tup [x,y]=>O.of U (C5 U i) λxs=>O.of U (S6 U k) λa=>O.of U (S6 U l) λb=>match plD xs.length a,plD xs.length b with
    |some m,Aa n=>.next (U.set i (Aa (.lst ((xs.set m x).set n y),Ab)))
    |_,_=>.bad
  |_=>.bad
noncomputable def apD(U:Rho)(j i:Af)(ys xs:Ac D)(n:Ah):O:=match plD xs.length n with
  | some m=>(match xs[m]? with
    |some d=>if (j != i&&(B5 xs.length&&B5 (ys.length+1)))=Ab then .next ((U.set i (Aa (.lst (xs.eraseIdx m),Ab))).set j (Aa (.lst (ys++[d]),Ab))) else .bad
    | none=>.bad)
  |none=>.bad
noncomputable def hdO(i:Af)(y:Ex)(U':Rho)(fh:Rho->O):O:=match fh (U'.set i (Aa (.exc y.c y.fs,Ad))) with
  |.next U''=>.next (U''.set i Ae)
  |.ret d f=>.ret d f
  |_=>.bad
noncomputable def Md(U:Rho)(i:Af):D->O
 |.lst xs=>.next (U.set i (Aa (.lst xs,Ad)))
 |_=>.bad
noncomputable def EK(U:Rho)(i:Af):Ai:=match U[i]? with
  |some (Aa (.non,Ab))=>Ab
  |_=>Ad
noncomputable def Hz(i:Af)(xs:Ac D):O->O
 |.next U=>if EK U i=Ab then .next (U.set i (Aa (.lst xs,Ab))) else .bad
 |.ret d fr=>.ret d fr
 |_=>.bad
mutual
noncomputable def evS(Z:Gam)(U:Rho):S->O
  |.pass=>.next U
  | .asg i fresh e=>O.of U (evE Z U e) λd=>if fresh=Ab then (if DF Z e=Ab then (match d with
      |.lst xs=>.next (U.set i (Aa (.lst xs,Ab)))
      |.dic xs=>.next (U.set i (Aa (.dic xs,Ab)))
      | _=>.bad) else .bad) else .next (U.set i (Aa (d,Ad)))
  |.asgT ts e=>O.of U (evE Z U e) λd=>O.of U (LQ ts d U) λU'=>.next U'
  |.expr e=>O.of U (evE Z U e) λ_=>.next U
  |.ret e=>O.of U (top U e (evE Z U e)) λd=>.ret d (DF Z e||(match e with | .var i=>(match U[i]? with|some (Aa (_,o))=>o|_=>Ad)|_=>Ad))
  |.retN=>.ret .non Ad
  |.ife c a b=>O.of U ((top U c (evE Z U c)).bind BG) λk=>if k=Ab then evSs Z U a else evSs Z U b
  |.fors t it body=>O.of U (Ha Z U it) λxs=>Ci (λx U'=>evSs Z (U'.set t (Aa (x,Ad))) body) xs U
  |.forT ts it body=>O.of U (Ha Z U it) λxs=>Ci (λx U'=>O.of U' (D2 ts x U') λU''=>evSs Z U'' body) xs U
  |.forO i ts body=>O.of U (C5 U i) λxs=>Hz i xs (Ci (λx U'=>if EK U' i=Ab then O.of U' (D2 ts x U') λU''=>evSs Z U'' body else .bad) (Cm 0 xs) (U.set i (Aa (.non,Ab))))
  |.whl c body=>Iw (λU'=>(top U' c (evE Z U' c)).bind BG) (λU'=>evSs Z U' body) Oy U
  |.rais c as=>O.of U (noX (evA Z U as)) λxs=>O.of U (Z.xn c xs) λx=>.exn x U
  |.tryx body c x h=>match evSs Z U body with
      | .exn y U'=>if (Z.up y.c).contains c=Ab then (match evSs Z (U'.set x (Aa (.exc y.c y.fs,Ad))) h with
          |.next U''=>.next (U''.set x Ae)
          |.ret d f=>.ret d f
          | _=>.bad) else .bad
      |o=>o
  |.try2 body c x h c' h' els=>match evSs Z U body with
      |.exn y U'=>if (Z.up y.c).contains c=Ab then hdO x y U' (λr=>evSs Z r h) else if (Z.up y.c).contains c'=Ab then hdO x y U' (λr=>evSs Z r h') else .bad
      |.next U'=>evSs Z U' els
      |o=>o
  |.app i e=>O.of U (C5 U i) λxs=>O.of U (evE Z U e) λd=>if B5 (xs.length+1)=Ab then .next (U.set i (Aa (.lst (xs++[d]),Ab))) else .bad
  |.ext i e=>O.of U (C5 U i) λxs=>O.of U (evE Z U e) λd=>O.of U (Os d) λys=>if B5 (xs.length+ys.length)=Ab then .next (U.set i (Aa (.lst (xs++ys),Ab))) else .bad
  |.ins i k e=>O.of U (C5 U i) λxs=>O.of U ((top U k (evE Z U k)).bind EH) λj=>O.of U (evE Z U e) λd=>if (B5 (xs.length+1)&&decide (0<=j)&&decide (j<=xs.length))=Ab then .next (U.set i (Aa (.lst (xs.take j.toNat++d::xs.drop j.toNat),Ab))) else .bad
  |.rev i=>O.of U (C5 U i) λxs=>.next (U.set i (Aa (.lst xs.reverse,Ab)))
  |.clr i=>O.of U (C5 U i) λ_=>.next (U.set i (Aa (.lst [],Ab)))
  |.dput i k e=>O.of U (evE Z U e) λd=>O.of U (Tx U i) λxs=>O.of U ((evE Z U k).bind S8) λj=>if B5 (xs.length+1)=Ab then .next (U.set i (Aa (.dic (Sc xs j d),Ab))) else .bad
  |.dsd i k e=>O.of U (Tx U i) λxs=>O.of U ((evE Z U k).bind S8) λj=>O.of U (evE Z U e) λd=>if B5 (xs.length+1)=Ab then .next (U.set i (Aa (.dic (if (xs.any λp=>p.1==j)=Ab then xs else Sc xs j d),Ab))) else .bad
  |.put i k e=>O.of U (evE Z U e) λd=>O.of U (C5 U i) λxs=>O.of U ((top U k (evE Z U k)).bind EH) λj=>match plD xs.length j with
      |some n=>.next (U.set i (Aa (.lst (xs.set n d),Ab)))
      |none=>.bad
  |.swp i k l=>O.of U (evE Z U (.tup (.cons (.idx (.var i) (.var l)) (.cons (.idx (.var i) (.var k)) .nil)))) λd=>nB U d i k l
  |.apop j i e=>O.of U (C5 U j) λys=>O.of U (C5 U i) λxs=>O.of U (evE Z U e) λd=>O.of U (EH d) λn=>apD U j i ys xs n
  |.brk=>.brk U
  |.cont=>.cont U
  |.rel i=>match U[i]? with
      |some (Aa (d,Ab))=>Md U i d
      |_=>.next U
noncomputable def evSs(Z:Gam)(U:Rho):Ss->O
 |.nil=>.next U
 |.cons s ss=>(evS Z U s).seq λU'=>evSs Z U' ss
end
structure Df where
 n:Af
 fr:Ai
 body:Ss
noncomputable def B8(n:Af)(ds:Ac D):Rho:=ds.map (λd=>Aa (d,Ad))++FL (n-ds.length) Ae
noncomputable def isL:D->Ai
 |.lst _=>Ab
 |.dic _=>Ab
 |_=>Ad
noncomputable def O.ans(fr:Ai)(o:O):R D:=match o with
  |.ret d b=>if (fr&&(!b&&isL d))=Ab then .bad else .ok d
  |.next _=>if fr=Ab then .bad else .ok .non
  |.exn x _=>.exn x
  |_=>.bad
noncomputable def Df.run(Z:Gam)(f:Df)(ds:Ac D):R D:=(evSs Z (B8 f.n ds) f.body).ans f.fr
structure Prg where
 xs:Ai
 defs:Af->Df
 G:Af->D
 up:Af->Ac Af
 xn:Af->Ac D->R Ex
noncomputable def Et(xs:Ai)(r:R D):R D:=match xs with
  |true=>r
  |false=>noX r
noncomputable def gam(P:Prg):Af->Gam
 |0=>⟨λ_ _=>.bad,P.G,P.up,λi=>(P.defs i).fr,P.xn⟩
 |n+1=>⟨λi ds=>Et P.xs ((P.defs i).run (gam P n) ds),P.G,P.up,λi=>(P.defs i).fr,P.xn⟩
end Ov
end
section
namespace Ov
open PySem
variable{α:Type}{lo hi:Ah}{n:Af}{x:D}
section
variable(Z:Gam)(U:Rho)
@[simp]theorem Zwn:evE Z U .non=.ok .non:=rfl
@[simp]theorem Zyi(b):evE Z U (.bl b)=.ok (.bl b):=rfl
@[simp]theorem Zwu(b):evE Z U (.int b)=.ok (.int b):=rfl
@[simp]theorem Q6(b):evE Z U (.str b)=.ok (.str b):=rfl
@[simp]theorem Zwk(i):evE Z U (.var i)=E7 U i:=rfl
@[simp]theorem ZsM(i):evE Z U (.glob i)=.ok (Z.G i):=rfl
@[simp]theorem Zwx(op a b):evE Z U (.bin op a b)=(top U a (evE Z U a)).bind λx=>(top U b (evE Z U b)).bind λy=>CH op x y:=rfl
@[simp]theorem Zye(op a):evE Z U (.un op a)=(top U a (evE Z U a)).bind λx=>unD op x:=rfl
@[simp]theorem Zyh(a):evE Z U (.no a)=(top U a (evE Z U a)).bind λx=>(Di x).bind λb=>.ok (.bl (!b)):=rfl
@[simp]theorem Zwy(es):evE Z U (.and es)=evN Z U es:=rfl
@[simp]theorem Zyg(es):evE Z U (.or es)=evO Z U es:=rfl
@[simp]theorem Zwg(e):evN Z U (.cons e .nil)=evE Z U e:=rfl
@[simp]theorem ZsD(e e' es):evN Z U (.cons e (.cons e' es))=(evE Z U e).bind λx=>(Di x).bind λc=>if c=Ab then evN Z U (.cons e' es) else .ok (.bl Ad):=rfl
@[simp]theorem Zwf(e):evO Z U (.cons e .nil)=evE Z U e:=rfl
@[simp]theorem ZsC(e e' es):evO Z U (.cons e (.cons e' es))=(evE Z U e).bind λx=>(Di x).bind λc=>if c=Ab then .ok (.bl Ab) else evO Z U (.cons e' es):=rfl
@[simp]theorem aL(op a b):evE Z U (.cmp op a b)=(top U a (evE Z U a)).bind λx=>(top U b (evE Z U b)).bind λy=>Bs op x y:=rfl
@[simp]theorem ZsP(op op' a b c):evE Z U (.cmp2 op op' a b c)=(top U a (evE Z U a)).bind λx=>(top U b (evE Z U b)).bind λy=>(Bs op x y).bind λz=>(Di z).bind λk=>if k=Ab then (top U c (evE Z U c)).bind λu=>Bs op' y u else .ok (.bl Ad):=rfl
@[simp]theorem Zwr(c a b):evE Z U (.ite c a b)=(top U c (evE Z U c)).bind λx=>(BG x).bind λk=>if k=Ab then evE Z U a else evE Z U b:=rfl
@[simp]theorem ZsQ(f as):evE Z U (.call f as)=(evB Z U as).bind λxs=>(Z.F f xs).bind λd=>if G8 U as=Ab then .ok d else if FR (Z.fr f) d=Ab then .ok d else .bad:=rfl
@[simp]theorem R9(f as):evE Z U (.bi f as)=(evB Z U as).bind λxs=>biD f xs:=rfl
@[simp]theorem Zwt(a ks):evE Z U (.isi a ks)=(top U a (evE Z U a)).bind λx=>DW Z.up ks x:=rfl
@[simp]theorem Zwv(a i):evE Z U (.idx a i)=(top U a (evE Z U a)).bind λx=>(top U i (evE Z U i)).bind λy=>CN x y:=rfl
@[simp]theorem Zyf(a lo hi):evE Z U (.sl a lo hi)=(top U a (evE Z U a)).bind λx=>(top U lo (evE Z U lo)).bind λl=>(slE lo l).bind λl'=>(top U hi (evE Z U hi)).bind λh=>(slE hi h).bind λh'=>slD x l' h':=rfl
@[simp]theorem Zwl(es):evE Z U (.tup es)=(evA Z U es).bind λxs=>.ok (.tup xs):=rfl
@[simp]theorem Zwq(es):evE Z U (.lst es)=(evA Z U es).bind λxs=>.ok (.lst xs):=rfl
noncomputable def cG(Z:Gam)(U:Rho)(t:Af)(c:E):D->R Ai:=λx=>(top (U.set t (Aa (x,Ad))) c (evE Z (U.set t (Aa (x,Ad))) c)).bind BG
noncomputable def cF(Z:Gam)(U:Rho)(t:Af)(elt:E):D->R D:=λx=>evE Z (U.set t (Aa (x,Ad))) elt
noncomputable def mkL(r:R (Ac D)):R D:=(noX r).bind λys=>.ok (.lst ys)
@[simp]theorem ZxO(ys):mkL (.ok ys)=.ok (.lst ys):=rfl
@[simp]theorem ZsO(elt t it c):evE Z U (.comp elt t it c)=(evI Z U it).bind λxs=>mkL (B4 (cG Z U t c) (cF Z U t elt) xs):=rfl
noncomputable def cGT(Z:Gam)(U:Rho)(ts:Ac Af)(c:E):D->R Ai:=λx=>(D2 ts x U).bind λU'=>(top U' c (evE Z U' c)).bind BG
noncomputable def cFT(Z:Gam)(U:Rho)(ts:Ac Af)(elt:E):D->R D:=λx=>(D2 ts x U).bind λU'=>evE Z U' elt
@[simp]theorem ZqM(elt ts it c):evE Z U (.compT elt ts it c)=(evI Z U it).bind λxs=>mkL (B4 (cGT Z U ts c) (cFT Z U ts elt) xs):=rfl
@[simp]theorem ZsJ(it):evE Z U (.tupI it)=(evI Z U it).bind λxs=>.ok (.tup xs):=rfl
@[simp]theorem ZsN:evE Z U .dnew=.ok (.dic []):=rfl
@[simp]theorem Zwm(o f):evE Z U (.ofl o f)=(top U o (evE Z U o)).bind λx=>ofD x f:=rfl
@[simp]theorem Zws(a k):evE Z U (.iso a k)=(top U a (evE Z U a)).bind λx=>KY k x:=rfl
@[simp]theorem ZsL(m ms o):evE Z U (.meth m ms o)=(top U o (evE Z U o)).bind λx=>IY Z.F m ms x:=rfl
@[simp]theorem ZsK(c e):evE Z U (.mkob c e)=(noX (evE Z U e)).bind λx=>D4 c x:=rfl
@[simp]theorem Zwp(c as):evE Z U (.mkn c as)=(noX (evA Z U as)).bind λxs=>Z.F (900+c) xs:=rfl
@[simp]theorem Zwo(c as):evE Z U (.mkx c as)=(noX (evA Z U as)).bind λxs=>(Z.xn c xs).bind λx=>.ok (.exc x.c x.fs):=rfl
@[simp]theorem Zww(o f):evE Z U (.fld o f)=(top U o (evE Z U o)).bind λx=>Mj x f:=rfl
@[simp]theorem ZwA:evA Z U .nil=.ok []:=rfl
@[simp]theorem Qt(e es):evA Z U (.cons e es)=(evE Z U e).bind λx=>(evA Z U es).bind λxs=>.ok (x::xs):=rfl
@[simp]theorem Zwz:evB Z U .nil=.ok []:=rfl
@[simp]theorem Nj(e es):evB Z U (.cons e es)=(top U e (evE Z U e)).bind λx=>(evB Z U es).bind λxs=>.ok (x::xs):=rfl
@[simp]theorem Zzb(a):evI Z U (.e a)=(evE Z U a).bind DU:=rfl
@[simp]theorem Zwi(a):evI Z U (.rng a)=(top U a (evE Z U a)).bind λx=>(EH x).bind λj=>DT 0 j:=rfl
@[simp]theorem ZsI(a b):evI Z U (.rng2 a b)=(top U a (evE Z U a)).bind λx=>(top U b (evE Z U b)).bind λy=>(EH x).bind λi=>(EH y).bind λj=>DT i j:=rfl
@[simp]theorem Zwh(a b):evI Z U (.zip a b)=(evE Z U a).bind λx=>(evE Z U b).bind λy=>(DU x).bind λxs=>(DU y).bind λys=>.ok (OB xs ys):=rfl
@[simp]theorem ZsH(a b c):evI Z U (.zip3 a b c)=(evE Z U a).bind λx=>(evE Z U b).bind λy=>(evE Z U c).bind λz=>Sy x y z:=rfl
@[simp]theorem Zwj(a):evI Z U (.enm a)=(evE Z U a).bind λx=>(DU x).bind λxs=>.ok (Cm 0 xs):=rfl
@[simp]theorem ZsE(a b):Ha Z U (.zip a b)=evI Z U (.zip a b):=rfl
@[simp]theorem ZqK(a b c):Ha Z U (.zip3 a b c)=evI Z U (.zip3 a b c):=rfl
@[simp]theorem ZsG(a):Ha Z U (.enm a)=evI Z U (.enm a):=rfl
@[simp]theorem Zyd(a):Ha Z U (.e a)=(evE Z U a).bind DU:=rfl
@[simp]theorem ZsF(a):Ha Z U (.rng a)=evI Z U (.rng a):=rfl
@[simp]theorem ZqL(a b):Ha Z U (.rng2 a b)=evI Z U (.rng2 a b):=rfl
variable(r:R D)
@[simp]theorem Ztj(i):top U (.var i) r=Dr U i:=rfl
@[simp]theorem Ztm:top U .non r=r:=rfl
@[simp]theorem Zxd(b):top U (.bl b) r=r:=rfl
@[simp]theorem Ztt(b):top U (.int b) r=r:=rfl
@[simp]theorem QX(b):top U (.str b) r=r:=rfl
@[simp]theorem ZrP(b):top U (.glob b) r=r:=rfl
@[simp]theorem Ztx(op a b):top U (.bin op a b) r=r:=rfl
@[simp]theorem Zw9(op a):top U (.un op a) r=r:=rfl
@[simp]theorem Zxc(a):top U (.no a) r=r:=rfl
@[simp]theorem Zty(a):top U (.and a) r=r:=rfl
@[simp]theorem Zxb(a):top U (.or a) r=r:=rfl
@[simp]theorem Ztw(op a b):top U (.cmp op a b) r=r:=rfl
@[simp]theorem ZrS(op op' a b c):top U (.cmp2 op op' a b c) r=r:=rfl
@[simp]theorem Ztq(a b c):top U (.ite a b c) r=r:=rfl
@[simp]theorem ZrT(a b):top U (.call a b) r=r:=rfl
@[simp]theorem Zxe(a b):top U (.bi a b) r=r:=rfl
@[simp]theorem Zts(a b):top U (.isi a b) r=r:=rfl
@[simp]theorem Ztu(a b):top U (.idx a b) r=r:=rfl
@[simp]theorem Zxa(a b c):top U (.sl a b c) r=r:=rfl
@[simp]theorem Ztk(a):top U (.tup a) r=r:=rfl
@[simp]theorem Ztp(a):top U (.lst a) r=r:=rfl
@[simp]theorem ZrR(a b c d):top U (.comp a b c d) r=r:=rfl
@[simp]theorem Ztl(a b):top U (.ofl a b) r=r:=rfl
@[simp]theorem Ztr(a b):top U (.iso a b) r=r:=rfl
@[simp]theorem ZrO(a b c):top U (.meth a b c) r=r:=rfl
@[simp]theorem ZrN(a b):top U (.mkob a b) r=r:=rfl
@[simp]theorem Zto(a b):top U (.mkn a b) r=r:=rfl
@[simp]theorem Ztn(a b):top U (.mkx a b) r=r:=rfl
@[simp]theorem Ztv(a b):top U (.fld a b) r=r:=rfl
@[simp]theorem ZoF(a b c d):top U (.compT a b c d) r=r:=rfl
@[simp]theorem ZrM(a):top U (.tupI a) r=r:=rfl
@[simp]theorem ZrQ:top U .dnew r=r:=rfl
end
@[simp]theorem Zow(d:D)(U:Rho):Dr (Aa (d,Ad)::U) 0=.ok d:=rfl
@[simp]theorem Zn5(xs:Ac D)(U:Rho):Dr (Aa (.lst xs,Ab)::U) 0=.ok (.lst xs):=rfl
@[simp]theorem Zoy(x:D)(U:Rho):E7 (Aa (x,Ad)::U) 0=.ok x:=rfl
@[simp]theorem Zn6(x:Sl)(U:Rho)(i:Af)[NeZero i]:Dr (x::U) i=Dr U (i-1):=by
 obtain⟨j,rfl⟩:∃ j,i=j+1:=⟨i-1,by have:=JX i;omega⟩
 rfl
@[simp]theorem Zn7(x:Sl)(U:Rho)(i:Af)[NeZero i]:E7 (x::U) i=E7 U (i-1):=by
 obtain⟨j,rfl⟩:∃ j,i=j+1:=⟨i-1,by have:=JX i;omega⟩
 rfl
noncomputable def shV(U:Rho)(i:Af):Ai:=match U[i]? with
    |some (Aa (_,Ab))=>Ad
    |_=>Ab
@[simp]theorem ZrW(x:D)(b:Ai)(U:Rho):shV (Aa (x,b)::U) 0=!b:=by cases b<;>rfl
@[simp]theorem Zo5(U:Rho):shV (Ae::U) 0=Ab:=rfl
@[simp]theorem Zo6(x:Sl)(U:Rho)(i:Af)[NeZero i]:shV (x::U) i=shV U (i-1):=by
 obtain⟨j,rfl⟩:∃ j,i=j+1:=⟨i-1,by have:=JX i;omega⟩
 rfl
section
variable(U:Rho)
@[simp]theorem Zt1(i):shE U (.var i)=shV U i:=rfl
@[simp]theorem Zt5:shE U .non=Ab:=rfl
@[simp]theorem Zxu(b):shE U (.bl b)=Ab:=rfl
@[simp]theorem Zuc(b):shE U (.int b)=Ab:=rfl
@[simp]theorem Zt3(b):shE U (.str b)=Ab:=rfl
@[simp]theorem Zr1(b):shE U (.glob b)=Ab:=rfl
@[simp]theorem Zug(op a b):shE U (.bin op a b)=Ab:=rfl
@[simp]theorem Zxq(op a):shE U (.un op a)=Ab:=rfl
@[simp]theorem Zxt(a):shE U (.no a)=Ab:=rfl
@[simp]theorem Zuh(a):shE U (.and a)=Ab:=rfl
@[simp]theorem Zxs(a):shE U (.or a)=Ab:=rfl
@[simp]theorem Zuf(op a b):shE U (.cmp op a b)=Ab:=rfl
@[simp]theorem Zr4(op op' a b c):shE U (.cmp2 op op' a b c)=Ab:=rfl
@[simp]theorem Zt9(a b c):shE U (.ite a b c)=Ab:=rfl
@[simp]theorem Zr5(a b):shE U (.call a b)=Ab:=rfl
@[simp]theorem Zxv(a b):shE U (.bi a b)=Ab:=rfl
@[simp]theorem Zub(a b):shE U (.isi a b)=Ab:=rfl
@[simp]theorem Zud(a b):shE U (.idx a b)=Ab:=rfl
@[simp]theorem Zxr(a b c):shE U (.sl a b c)=Ab:=rfl
@[simp]theorem Zt2(a):shE U (.tup a)=Ab:=rfl
@[simp]theorem Zt8(a):shE U (.lst a)=Ab:=rfl
@[simp]theorem Zr3(a b c d):shE U (.comp a b c d)=Ab:=rfl
@[simp]theorem Zo7(a b c d):shE U (.compT a b c d)=Ab:=rfl
@[simp]theorem ZrY(a):shE U (.tupI a)=Ab:=rfl
@[simp]theorem Zr2:shE U .dnew=Ab:=rfl
@[simp]theorem Zt4(a b):shE U (.ofl a b)=Ab:=rfl
@[simp]theorem Zua(a b):shE U (.iso a b)=Ab:=rfl
@[simp]theorem Zr0(a b c):shE U (.meth a b c)=Ab:=rfl
@[simp]theorem ZrZ(a b):shE U (.mkob a b)=Ab:=rfl
@[simp]theorem Zt7(a b):shE U (.mkn a b)=Ab:=rfl
@[simp]theorem Zt6(a b):shE U (.mkx a b)=Ab:=rfl
@[simp]theorem Zue(a b):shE U (.fld a b)=Ab:=rfl
@[simp]theorem ZrX:G8 U .nil=Ab:=rfl
@[simp]theorem WW(e es):G8 U (.cons e es)=(shE U e&&G8 U es):=rfl
end
@[simp]theorem Zoa(U:Rho):DD [] [] U=Aa U:=rfl
@[simp]theorem Zmb(t ts d ds)(U:Rho):DD (t::ts) (d::ds) U=DD ts ds (U.set t (Aa (d,Ad))):=rfl
@[simp]theorem Zrl(ts ds)(U:Rho):LQ ts (.lst ds) U=match DD ts ds U with
  |some U'=>.ok U'
  |none=>.bad:=rfl
@[simp]theorem Zrk(ts ds)(U:Rho):LQ ts (.tup ds) U=D2 ts (.tup ds) U:=rfl
@[simp]theorem Po(ts ds)(U:Rho):D2 ts (.tup ds) U=match DD ts ds U with
  |some U'=>.ok U'
  |none=>.bad:=rfl
@[simp]theorem ZsY{β:Type}(c:Prop)[Fo c](a b:R α)(f:α->R β):(if c then a else b).bind f=if c then a.bind f else b.bind f:=by split<;>rfl
@[simp]theorem ZxM(U:Rho)(c:Prop)[Fo c](a b:R α)(f:α->O):O.of U (if c then a else b) f=if c then O.of U a f else O.of U b f:=by split<;>rfl
@[simp]theorem Zvo{β:Type}(U:Rho)(a:R α)(g:α->R β)(f:β->O):O.of U (a.bind g) f=O.of U a λx=>O.of U (g x) f:=by cases a<;>rfl
@[simp]theorem Zuj(c:Prop)[Fo c](a b:O)(f:Rho->O):O.seq (if c then a else b) f=if c then a.seq f else b.seq f:=by split<;>rfl
@[simp]theorem ZrC(c:Prop)[Fo c](a b:O)(f:Rho->O):O.turn (if c then a else b) f=if c then a.turn f else b.turn f:=by split<;>rfl
@[simp]theorem ZwT(fr:Ai)(c:Prop)[Fo c](a b:O):O.ans fr (if c then a else b)=if c then a.ans fr else b.ans fr:=by split<;>rfl
@[simp]theorem Zr6(U f):O.seq (.next U) f=f U:=rfl
@[simp]theorem Zui(d b f):O.seq (.ret d b) f=.ret d b:=rfl
@[simp]theorem Zul(U f):O.seq (.brk U) f=.brk U:=rfl
@[simp]theorem Zr7(U f):O.seq (.cont U) f=.cont U:=rfl
@[simp]theorem Zuk(x U f):O.seq (.exn x U) f=.exn x U:=rfl
@[simp]theorem Zum(f):O.seq .bad f=.bad:=rfl
@[simp]theorem ZoC(U f):O.turn (.next U) f=f U:=rfl
@[simp]theorem ZrB(d b f):O.turn (.ret d b) f=.ret d b:=rfl
@[simp]theorem ZrE(U f):O.turn (.brk U) f=.next U:=rfl
@[simp]theorem ZoD(U f):O.turn (.cont U) f=f U:=rfl
@[simp]theorem ZrD(x U f):O.turn (.exn x U) f=.exn x U:=rfl
@[simp]theorem ZrF(f):O.turn .bad f=.bad:=rfl
@[simp]theorem Zs2(U):O.ans Ad (.next U)=.ok .non:=rfl
@[simp]theorem ZwS(d b):O.ans Ad (.ret d b)=.ok d:=rfl
@[simp]theorem Zs1(d b):O.ans Ab (.ret d b)=if (!b&&isL d)=Ab then .bad else .ok d:=rfl
@[simp]theorem ZvN(d):isL (.lst d)=Ab:=rfl
@[simp]theorem ZvM(d):isL (.tup d)=Ad:=rfl
@[simp]theorem ZvO(d):isL (.int d)=Ad:=rfl
@[simp]theorem ZwU(fr x U):O.ans fr (.exn x U)=.exn x:=rfl
@[simp]theorem ZwV(fr):O.ans fr .bad=.bad:=rfl
@[simp]theorem Zyo(i j:Ah):CH .Add (.int i) (.int j)=.ok (.int (i+j)):=rfl
@[simp]theorem Zxk(i j:Ah):CH .Sub (.int i) (.int j)=.ok (.int (i-j)):=rfl
@[simp]theorem dG(i j:Ah):CH .Mult (.int i) (.int j)=if (EF i j||LY i j)=Ab then .ok (.int (i*j)) else .bad:=rfl
@[simp]theorem bO(i j:Ah):CH .FloorDiv (.int i) (.int j)=if 0<j/\j<1073741824 then .ok (.int (i/j)) else .bad:=rfl
@[simp]theorem dH(i j:Ah):CH .Mod (.int i) (.int j)=if 0<j then .ok (.int (i%j)) else .bad:=rfl
@[simp]theorem dS(i j:Ah):CH .Pow (.int i) (.int j)=if (0<=j/\j<=1000000)/\(-(18446744073709551616:Ah)<i/\i<18446744073709551616) then .ok (.int (i ^ j.toNat)) else .bad:=rfl
@[simp]theorem GZ(x y:Ag):CH .Add (.str x) (.str y)=if B5 (x.length+y.length)=Ab then .ok (.str (x++y)) else .bad:=rfl
@[simp]theorem Sk(x y:Ac D):CH .Add (.lst x) (.lst y)=if B5 (x.length+y.length)=Ab then .ok (.lst (x++y)) else .bad:=rfl
@[simp]theorem Sj(x y:Ac D):CH .Add (.tup x) (.tup y)=if (!x.isEmpty&&B5 (x.length+y.length))=Ab then .ok (.tup (x++y)) else .bad:=rfl
@[simp]theorem ZyQ(i:Ah):unD .USub (.int i)=.ok (.int (-i)):=rfl
@[simp]theorem mE(x y:D):Bs .Eq x y=if (flD 5 x&&flD 5 y)=Ab then .ok (.bl (eqD x y)) else .bad:=rfl
@[simp]theorem lX(x y:D):Bs .NotEq x y=if (flD 5 x&&flD 5 y)=Ab then .ok (.bl (!eqD x y)) else .bad:=rfl
@[simp]theorem ZyR(i j:Ah):Bs .Lt (.int i) (.int j)=.ok (.bl (decide (i<j))):=rfl
@[simp]theorem ZyU(i j:Ah):Bs .LtE (.int i) (.int j)=.ok (.bl (decide (i<=j))):=rfl
@[simp]theorem Zy6(i j:Ah):Bs .Gt (.int i) (.int j)=.ok (.bl (decide (j<i))):=rfl
@[simp]theorem Zy7(i j:Ah):Bs .GtE (.int i) (.int j)=.ok (.bl (decide (j<=i))):=rfl
@[simp]theorem mO(x:D)(ys:Ac D):Bs .In x (.lst ys)=if (flD 5 x&&ys.all (flD 5))=Ab then .ok (.bl (ys.any λy=>eqD y x)) else .bad:=rfl
@[simp]theorem mM(x:D)(ys:Ac D):Bs .In x (.tup ys)=if (flD 5 x&&ys.all (flD 5))=Ab then .ok (.bl (ys.any λy=>eqD y x)) else .bad:=rfl
@[simp]theorem lW(x:D)(ys:Ac D):Bs .NotIn x (.lst ys)=if (flD 5 x&&ys.all (flD 5))=Ab then .ok (.bl (!ys.any λy=>eqD y x)) else .bad:=rfl
@[simp]theorem lV(x:D)(ys:Ac D):Bs .NotIn x (.tup ys)=if (flD 5 x&&ys.all (flD 5))=Ab then .ok (.bl (!ys.any λy=>eqD y x)) else .bad:=rfl
@[simp]theorem ZxZ:Bs .Is .non .non=.ok (.bl Ab):=rfl
@[simp]theorem Zx1(i):Bs .Is (.int i) .non=.ok (.bl Ad):=rfl
@[simp]theorem ZxY(i):Bs .Is (.tup i) .non=.ok (.bl Ad):=rfl
@[simp]theorem Zx0(i):Bs .Is (.lst i) .non=.ok (.bl Ad):=rfl
@[simp]theorem ZyY(a b):Bs .Is (.bl a) (.bl b)=.ok (.bl (a==b)):=rfl
@[simp]theorem ZxW(a b):Bs .IsNot (.bl a) (.bl b)=.ok (.bl (!(a==b))):=rfl
@[simp]theorem ZvC:Bs .IsNot .non .non=.ok (.bl Ad):=rfl
@[simp]theorem ZvE(i):Bs .IsNot (.int i) .non=.ok (.bl Ab):=rfl
@[simp]theorem ZvB(i):Bs .IsNot (.tup i) .non=.ok (.bl Ab):=rfl
@[simp]theorem ZvD(i):Bs .IsNot (.lst i) .non=.ok (.bl Ab):=rfl
@[simp]theorem ZwG(i j:Ah):eqD (.int i) (.int j)=(i==j):=rfl
@[simp]theorem Zyj(i j:Ai):eqD (.bl i) (.bl j)=(i==j):=rfl
@[simp]theorem ZwD(i j:Ag):eqD (.str i) (.str j)=(i==j):=rfl
@[simp]theorem ZwC(i j:Ac D):eqD (.tup i) (.tup j)=eqDs i j:=rfl
@[simp]theorem ZwF(i j:Ac D):eqD (.lst i) (.lst j)=eqDs i j:=rfl
@[simp]theorem ZwE:eqD .non .non=Ab:=rfl
@[simp]theorem ZnD(i):eqD .non (.int i)=Ad:=rfl
@[simp]theorem ZnE(i):eqD (.int i) .non=Ad:=rfl
@[simp]theorem ZsR:eqDs [] []=Ab:=rfl
@[simp]theorem MV(x y:D)(xs ys:Ac D):eqDs (x::xs) (y::ys)=(eqD x y&&eqDs xs ys):=rfl
@[simp]theorem Zv6(n)(i:Ah):flD n (.int i)=Ab:=by cases n<;>rfl
@[simp]theorem Zyc(n)(i:Ai):flD n (.bl i)=Ab:=by cases n<;>rfl
@[simp]theorem Zv4(n)(i:Ag):flD n (.str i)=Ab:=by cases n<;>rfl
@[simp]theorem Zv5(n):flD n .non=Ab:=by cases n<;>rfl
@[simp]theorem Zsi(i):flD 5 (.tup i)=i.all (flD 4):=rfl
@[simp]theorem Zsn(i):flD 5 (.lst i)=i.all (flD 4):=rfl
@[simp]theorem Zsj(i):flD 4 (.tup i)=i.all (flD 3):=rfl
@[simp]theorem Zso(i):flD 4 (.lst i)=i.all (flD 3):=rfl
@[simp]theorem Zsk(i):flD 3 (.tup i)=i.all (flD 2):=rfl
@[simp]theorem Zsp(i):flD 3 (.lst i)=i.all (flD 2):=rfl
@[simp]theorem Zsl(i):flD 2 (.tup i)=i.all (flD 1):=rfl
@[simp]theorem Zsq(i):flD 2 (.lst i)=i.all (flD 1):=rfl
@[simp]theorem Zsm(i):flD 1 (.tup i)=i.all (flD 0):=rfl
@[simp]theorem Zsr(i):flD 1 (.lst i)=i.all (flD 0):=rfl
@[simp]theorem Zth(b):BG (.bl b)=.ok b:=rfl
@[simp]theorem ZrJ(i):BG (.int i)=.ok (i != 0):=rfl
@[simp]theorem ZrI(i):BG (.lst i)=.ok (!i.isEmpty):=rfl
@[simp]theorem ZrG(i):BG (.tup i)=.ok (!i.isEmpty):=rfl
@[simp]theorem ZrH:BG .non=.ok Ad:=rfl
@[simp]theorem Zti(b):DV (.bl b)=.ok b:=rfl
@[simp]theorem ZrL(i):DV (.int i)=.ok (i != 0):=rfl
@[simp]theorem ZrK:DV .non=.ok Ad:=rfl
@[simp]theorem Zrt:Gb []=.ok Ab:=rfl
@[simp]theorem MK(x r):Gb (x::r)=(DV x).bind λb=>(Gb r).bind λc=>.ok (b&&c):=rfl
@[simp]theorem Zrs:FB []=.ok Ad:=rfl
@[simp]theorem O9(x r):FB (x::r)=(DV x).bind λb=>(FB r).bind λc=>.ok (b||c):=rfl
@[simp]theorem ZwH(b)(d):Et b (.ok d)=.ok d:=by cases b<;>rfl
@[simp]theorem ZsT(b):Et b .bad=.bad:=by cases b<;>rfl
@[simp]theorem ZsS(x):Et Ab (.exn x)=.exn x:=rfl
@[simp]theorem Zoh(r):Et Ad r=noX r:=rfl
@[simp]theorem Zvp(a:α):noX (.ok a)=.ok a:=rfl
@[simp]theorem Zvr:noX (.bad:R α)=.bad:=rfl
@[simp]theorem Zvq(x):noX (.exn x:R α)=.bad:=rfl
@[simp]theorem ZwP(b):Di (.bl b)=.ok b:=rfl
@[simp]theorem Zrq(b):EH (.int b)=.ok b:=rfl
@[simp]theorem Zro(b):Os (.lst b)=.ok b:=rfl
@[simp]theorem Zrn(b):DU (.lst b)=.ok b:=rfl
@[simp]theorem Zrm(b):DU (.tup b)=.ok b:=rfl
@[simp]theorem lG(xs i):CN (.lst xs) (.int i)=DA xs i:=rfl
@[simp]theorem lF(xs i):CN (.tup xs) (.int i)=DA xs i:=rfl
@[simp]theorem ZyT(xs):biD .len [.lst xs]=.ok (.int xs.length):=rfl
@[simp]theorem ZyS(xs):biD .len [.tup xs]=.ok (.int xs.length):=rfl
@[simp]theorem Zzk(i):biD .abs [.int i]=.ok (.int (if i<0 then -i else i)):=rfl
@[simp]theorem ZxQ(i j):biD .max [.int i,.int j]=.ok (.int (if i<j then j else i)):=rfl
@[simp]theorem ZxP(i j):biD .min [.int i,.int j]=.ok (.int (if j<i then j else i)):=rfl
@[simp]theorem Zy0(i):biD .int [.int i]=.ok (.int i):=rfl
@[simp]theorem Zy1(i):biD .int [.bl i]=.ok (.int (b2i i)):=rfl
@[simp]theorem ZxV(i):biD .list [.lst i]=.ok (.lst i):=rfl
@[simp]theorem ZxU(i):biD .list [.tup i]=.ok (.lst i):=rfl
@[simp]theorem Ztg(i):biD .tuple [.lst i]=.ok (.tup i):=rfl
@[simp]theorem Ztf(i):biD .tuple [.tup i]=.ok (.tup i):=rfl
@[simp]theorem mL(i):biD .all [.lst i]=(Gb i).bind λb=>.ok (.bl b):=rfl
@[simp]theorem Zzi(i):biD .any [.lst i]=(FB i).bind λb=>.ok (.bl b):=rfl
@[simp]theorem Zzh(i):biD .any [.tup i]=(FB i).bind λb=>.ok (.bl b):=rfl
@[simp]theorem ZyJ(i):biD .sum [.lst i]=(KJ 0 i).bind λb=>.ok (.int b):=rfl
@[simp]theorem ZyI(i):biD .sum [.tup i]=(KJ 0 i).bind λb=>.ok (.int b):=rfl
@[simp]theorem ZrU(i):biD .sorted [.lst i]=(Q2 i).bind λb=>.ok (.lst b):=rfl
@[simp]theorem ZyK(xs k):biD .stp [.lst xs,.int k]=.ok (.lst (TN k.toNat xs)):=rfl
@[simp]theorem ZyO(xs):biD .rvs [.lst xs]=.ok (.lst xs.reverse):=rfl
@[simp]theorem ZxS(xs):biD .lset [.lst xs]=S2 xs:=rfl
@[simp]theorem Zxf(x y):biD .tmin [x,y]=mmD Ad x y:=rfl
@[simp]theorem Zyv(x y):biD .tlt [x,y]=TJ x y:=rfl
@[simp]theorem Zxg(x y):biD .tmax [x,y]=mmD Ab x y:=rfl
@[simp]theorem ZwI(xs x):biD .count [.lst xs,x]=if (flD 5 x&&xs.all (flD 5))=Ab then .ok (.int ((xs.filter λy=>eqD y x).length:Af)) else .bad:=rfl
@[simp]theorem nC(xs lo hi):slD (.tup xs) lo hi=if (HH xs.length 0 lo==0&&HH xs.length xs.length hi==xs.length)=Ab then .bad else .ok (.tup (JT xs lo hi)):=rfl
@[simp]theorem Zzs(xs lo hi):slD (.lst xs) lo hi=.ok (.lst (JT xs lo hi)):=rfl
@[simp]theorem ZtW(d):slE .non d=.ok Ae:=rfl
@[simp]theorem ZtX(k i):slE (.int k) (.int i)=.ok (Aa i):=rfl
@[simp]theorem ZtV(k i):slE (.var k) (.int i)=.ok (Aa i):=rfl
@[simp]theorem ZtY(op a b i):slE (.bin op a b) (.int i)=.ok (Aa i):=rfl
@[simp]theorem Zxn(op a i):slE (.un op a) (.int i)=.ok (Aa i):=rfl
@[simp]theorem Zxo(b as i):slE (.bi b as) (.int i)=.ok (Aa i):=rfl
@[simp]theorem ZvH(up ks):DW up ks .non=if ks.any Ds=Ab then .bad else .ok (.bl (ks.any λk=>kiD up k .non)):=rfl
@[simp]theorem ZxX(up ks b):DW up ks (.bl b)=if ks.any Ds=Ab then .bad else .ok (.bl (ks.any λk=>kiD up k (.bl b))):=rfl
@[simp]theorem ZvJ(up ks b):DW up ks (.int b)=if ks.any Ds=Ab then .bad else .ok (.bl (ks.any λk=>kiD up k (.int b))):=rfl
@[simp]theorem ZvG(up ks b):DW up ks (.str b)=if ks.any Ds=Ab then .bad else .ok (.bl (ks.any λk=>kiD up k (.str b))):=rfl
@[simp]theorem ZvF(up ks b):DW up ks (.tup b)=if ks.any Ds=Ab then .bad else .ok (.bl (ks.any λk=>kiD up k (.tup b))):=rfl
@[simp]theorem ZvI(up ks b):DW up ks (.lst b)=if ks.any Ds=Ab then .bad else .ok (.bl (ks.any λk=>kiD up k (.lst b))):=rfl
@[simp]theorem ZvK(up ks c f):DW up ks (.exc c f)=if ks.all Ds=Ab then .ok (.bl (ks.any λk=>kiD up k (.exc c f))) else .bad:=rfl
@[simp]theorem ZsW(c):Ds (.cls c)=Ab:=rfl
@[simp]theorem ZqX:Ds .verr=Ab:=rfl
@[simp]theorem ZsV:Ds .int=Ad:=rfl
@[simp]theorem ZqZ:Ds .bool=Ad:=rfl
@[simp]theorem ZsU:Ds .str=Ad:=rfl
@[simp]theorem ZqY:Ds .list=Ad:=rfl
@[simp]theorem Zoj:Ds .tuple=Ad:=rfl
@[simp]theorem Zoe(up i):kiD up .int (.int i)=Ab:=rfl
@[simp]theorem Zod(up):kiD up .int .non=Ad:=rfl
@[simp]theorem Znc(up i):kiD up .bool (.int i)=Ad:=rfl
@[simp]theorem Zoc(up i):kiD up .int (.tup i)=Ad:=rfl
@[simp]theorem Zog(up i):kiD up .bool (.bl i)=Ab:=rfl
@[simp]theorem Znb(up):kiD up .bool .non=Ad:=rfl
@[simp]theorem Zna(up i):kiD up .list (.lst i)=Ab:=rfl
@[simp]theorem Zk2(up i):kiD up .tuple (.tup i)=Ab:=rfl
@[simp]theorem Zk3(up):kiD up .tuple .non=Ad:=rfl
@[simp]theorem Zof(up c k f):kiD up (.cls c) (.exc k f)=(up k).contains c:=rfl
@[simp]theorem Zm9(up k f):kiD up .verr (.exc k f)=Ab:=rfl
theorem Qq{xs:Ac D}{i:Ah}{d:D}(h0:0<=i)(h:xs[i.toNat]?=Aa d):DA xs i=.ok d:=by
 unfold DA plD;obtain⟨h1,_⟩:=AY.mp h;rw[AA h0,AA (by omega)]
 dsimp only;rw[h]
section
variable(Z:Gam)(U:Rho)
@[simp]theorem Zss:evSs Z U .nil=.next U:=rfl
noncomputable def FV(Z:Gam)(ss:Ss)(o:O):O:=o.seq λU'=>evSs Z U' ss
@[simp]theorem Xd(s ss):evSs Z U (.cons s ss)=FV Z ss (evS Z U s):=rfl
@[simp]theorem ZvY(ss):FV Z ss (.next U)=evSs Z U ss:=rfl
@[simp]theorem Zx5(ss d b):FV Z ss (.ret d b)=.ret d b:=rfl
@[simp]theorem Zx9(ss):FV Z ss (.brk U)=.brk U:=rfl
@[simp]theorem ZvZ(ss):FV Z ss (.cont U)=.cont U:=rfl
@[simp]theorem Zx8(ss x):FV Z ss (.exn x U)=.exn x U:=rfl
@[simp]theorem Zya(ss):FV Z ss .bad=.bad:=rfl
@[simp]theorem Zx7(ss)(c:Prop)[Fo c](a b:O):FV Z ss (if c then a else b)=if c then FV Z ss a else FV Z ss b:=by split<;>rfl
@[simp]theorem Zx6(o:O):FV Z .nil o=o:=by cases o<;>rfl
noncomputable def CT(Z:Gam)(t:Af)(body:Ss):D->Rho->O:=λx U'=>evSs Z (U'.set t (Aa (x,Ad))) body
noncomputable def whC(Z:Gam)(c:E):Rho->R Ai:=λU'=>(top U' c (evE Z U' c)).bind BG
noncomputable def whB(Z:Gam)(body:Ss):Rho->O:=λU'=>evSs Z U' body
noncomputable def OM(Z:Gam)(t:Af)(body:Ss)(U:Rho)(r:R (Ac D)):O:=O.of U r λxs=>Ci (CT Z t body) xs U
@[simp]theorem Zv1(t body xs):OM Z t body U (.ok xs)=Ci (CT Z t body) xs U:=rfl
@[simp]theorem Zsw:evS Z U .pass=.next U:=rfl
@[simp]theorem Zwd(i e):evS Z U (.asg i Ad e)=O.of U (evE Z U e) λd=>.next (U.set i (Aa (d,Ad))):=rfl
@[simp]theorem Zsz(e):evS Z U (.expr e)=O.of U (evE Z U e) λ_=>.next U:=rfl
@[simp]theorem Q5(e):evS Z U (.ret e)=O.of U (top U e (evE Z U e)) λd=>.ret d (DF Z e||(match e with | .var i=>(match U[i]? with|some (Aa (_,o))=>o|_=>Ad)|_=>Ad)):=rfl
@[simp]theorem Zsu:evS Z U .retN=.ret .non Ad:=rfl
@[simp]theorem Zv9(c a b):evS Z U (.ife c a b)=O.of U ((top U c (evE Z U c)).bind BG) λk=>if k=Ab then evSs Z U a else evSs Z U b:=rfl
@[simp]theorem Zsx(t it body):evS Z U (.fors t it body)=OM Z t body U (Ha Z U it):=rfl
noncomputable def Iq(Z:Gam)(ts:Ac Af)(body:Ss):D->Rho->O:=λx U'=>O.of U' (D2 ts x U') λU''=>evSs Z U'' body
noncomputable def SY(Z:Gam)(ts:Ac Af)(body:Ss)(U:Rho)(r:R (Ac D)):O:=O.of U r λxs=>Ci (Iq Z ts body) xs U
@[simp]theorem Zsg(t body xs):SY Z t body U (.ok xs)=Ci (Iq Z t body) xs U:=rfl
@[simp]theorem Zsy(t it body):evS Z U (.forT t it body)=SY Z t body U (Ha Z U it):=rfl
noncomputable def IZ(Z:Gam)(i:Af)(ts:Ac Af)(body:Ss):D->Rho->O:=λx U'=>if EK U' i=Ab then O.of U' (D2 ts x U') λU''=>evSs Z U'' body else .bad
theorem YH(i ts body):evS Z U (.forO i ts body)=O.of U (C5 U i) λxs=>Hz i xs (Ci (IZ Z i ts body) (Cm 0 xs) (U.set i (Aa (.non,Ab)))):=rfl
@[simp]theorem ZsB(ts e):evS Z U (.asgT ts e)=O.of U (evE Z U e) λd=>O.of U (LQ ts d U) λU'=>.next U':=rfl
theorem YI(i e):evS Z U (.asg i Ab e)=O.of U (evE Z U e) λd=>if DF Z e=Ab then (match d with
      |.lst xs=>.next (U.set i (Aa (.lst xs,Ab)))
      |.dic xs=>.next (U.set i (Aa (.dic xs,Ab)))
      | _=>.bad) else .bad:=rfl
noncomputable def setF(U:Rho)(i:Af):D->O
 |.lst xs=>.next (U.set i (Aa (.lst xs,Ab)))
 |.dic xs=>.next (U.set i (Aa (.dic xs,Ab)))
 |_=>.bad
@[simp]theorem Zxw(i xs):setF U i (.lst xs)=.next (U.set i (Aa (.lst xs,Ab))):=rfl
@[simp]theorem Zxx(i xs):setF U i (.dic xs)=.next (U.set i (Aa (.dic xs,Ab))):=rfl
@[simp]theorem Xe(i e):evS Z U (.asg i Ab e)=O.of U (evE Z U e) λd=>if DF Z e=Ab then setF U i d else .bad:=by
 rw[YI]
 congr 1
@[simp]theorem Zwe(i e):evS Z U (.app i e)=O.of U (C5 U i) λxs=>O.of U (evE Z U e) λd=>if B5 (xs.length+1)=Ab then .next (U.set i (Aa (.lst (xs++[d]),Ab))) else .bad:=rfl
@[simp]theorem Zwa(i e):evS Z U (.ext i e)=O.of U (C5 U i) λxs=>O.of U (evE Z U e) λd=>O.of U (Os d) λys=>if B5 (xs.length+ys.length)=Ab then .next (U.set i (Aa (.lst (xs++ys),Ab))) else .bad:=rfl
@[simp]theorem Zv8(i):evS Z U (.rev i)=O.of U (C5 U i) λxs=>.next (U.set i (Aa (.lst xs.reverse,Ab))):=rfl
@[simp]theorem Zwb(i):evS Z U (.clr i)=O.of U (C5 U i) λ_=>.next (U.set i (Aa (.lst [],Ab))):=rfl
@[simp]theorem Zr9(U:Rho)(i)(xs):Md U i (.lst xs)=.next (U.set i (Aa (.lst xs,Ad))):=rfl
theorem aK(i):evS Z U (.rel i)=match U[i]? with
      |some (Aa (d,Ab))=>Md U i d
      |_=>.next U:=rfl
@[simp]theorem YG(body c x h):evS Z U (.tryx body c x h)=match evSs Z U body with
      | .exn y U'=>if (Z.up y.c).contains c=Ab then (match evSs Z (U'.set x (Aa (.exc y.c y.fs,Ad))) h with
          |.next U''=>.next (U''.set x Ae)
          |.ret d f=>.ret d f
          | _=>.bad) else .bad
      |o=>o:=rfl
@[simp]theorem Zst(body c x h c' h' els):evS Z U (.try2 body c x h c' h' els)=match evSs Z U body with
      |.exn y U'=>if (Z.up y.c).contains c=Ab then hdO x y U' (λr=>evSs Z r h) else if (Z.up y.c).contains c'=Ab then hdO x y U' (λr=>evSs Z r h') else .bad
      |.next U'=>evSs Z U' els
      |o=>o:=rfl
@[simp]theorem Zv7(c body):evS Z U (.whl c body)=Iw (whC Z c) (whB Z body) Oy U:=rfl
@[simp]theorem Zsv(c as):evS Z U (.rais c as)=O.of U (noX (evA Z U as)) λxs=>O.of U (Z.xn c xs) λx=>.exn x U:=rfl
@[simp]theorem Zwc:evS Z U .brk=.brk U:=rfl
@[simp]theorem ZsA:evS Z U .cont=.cont U:=rfl
end
end Ov
namespace Ov
open PySem
theorem Qr{body:D->Rho->O}(P:Rho->Prop):∀(xs:Ac D)(U:Rho),P U->(∀ x∈xs,∀ U,P U->∃ U',body x U=.next U'/\P U')->∃ U',Ci body xs U=.next U'/\P U'
 |[],U,h,_=>⟨U,rfl,h⟩
 |x::xs,U,h,k=>by
  obtain⟨U1,e1,h1⟩:=k x AC U h;obtain⟨U2,e2,h2⟩:=Qr P xs U1 h1 λy hy=>k y (Aw _ hy)
  exact⟨U2,by show (body x U).turn _=_;rw[e1];exact e2,h2⟩
theorem Pj{body:D->Rho->O}(P:Af->Rho->Prop):∀(xs:Ac D)(n:Af)(U:Rho),P n U->(∀ i x,xs[i]?=Aa x->∀ U,P (n+i) U->∃ U',body x U=.next U'/\P (n+i+1) U')->∃ U',Ci body xs U=.next U'/\P (n+xs.length) U'
 |[],n,U,h,_=>⟨U,rfl,h⟩
 |x::xs,n,U,h,k=>by
  obtain⟨U1,e1,h1⟩:=k 0 x rfl U h;obtain⟨U2,e2,h2⟩:=Pj P xs (n+1) U1 h1 λi y hy U hρ=>by
   have:=k (i+1) y (by simpa using hy) U (by rw[show n+(i+1)=n+1+i by omega];exact hρ)
   rw[show n+(i+1)=n+1+i by omega]at this
   exact this
  exact⟨U2,by show (body x U).turn _=_;rw[e1];exact e2,by rw[show n+(x::xs).length=n+1+xs.length by simp;omega];exact h2⟩
theorem WY(h1:0<=lo)(h2:lo<1000000)(h3:0<=hi)(h4:hi<1000000):DT lo hi=.ok (EJ lo (hi-lo).toNat):=by
 unfold DT;rw[AA (by omega)]
theorem MH(h3:0<=hi)(h4:hi<1000000):DT 0 hi=.ok (EJ 0 hi.toNat):=by
 rw[WY (by omega) (by omega) h3 h4,Uk]
theorem XD(h:x∈EJ lo n):∃ k:Af,k<n/\x=.int (lo+(k:Ah)):=by
 obtain⟨k,hk,e⟩:=Gx.mp h;exact⟨k,CB.mp hk,e.symm⟩
theorem K9(lo:Ah)(n:Af):(EJ lo n).length=n:=by simp[EJ]
theorem Qp{i:Af}(h:(EJ lo n)[i]?=Aa x):i<n/\x=.int (lo+(i:Ah)):=by
 have hl:=(AY.mp h).1;rw[K9]at hl;unfold EJ at h;rw[CO,List.getElem?_range hl]at h;cases h;exact⟨hl,rfl⟩
noncomputable def Ss.take:Af->Ss->Ss
 |0,_=>.nil
 |_,.nil=>.nil
 |n+1,.cons s ss=>.cons s (ss.take n)
noncomputable def Ss.drop:Af->Ss->Ss
 |0,ss=>ss
 |_,.nil=>.nil
 |n+1,.cons _ ss=>ss.drop n
noncomputable def mkC(c:Af):Df:=⟨2,Ad,.cons (.ret (.mkob c (.call 910 (.cons (.var 0) (.cons (.var 1) .nil))))) .nil⟩
noncomputable def inC:Df:=⟨2,Ad,.cons (.ret (.tup (.cons (.var 0) (.cons (.call 17 (.cons (.var 0) (.cons (.var 1) .nil))) .nil)))) .nil⟩
end Ov
end
section
namespace Ov
noncomputable def xfD:Af->D->Ai
 |0,.int i=>decide (0<=i)&&decide (i<100)
 |n+1,.tup ds=>CP ds.length 8&&ds.all (xfD n)
 |_,_=>Ad
noncomputable def mkX(c:Af)(f:Ag):Ac D->R Ex
 |[d]=>if (xfD 1 d||xfD 2 d)=Ab then .ok ⟨c,[(f,d)]⟩ else .bad
 |_=>.bad
noncomputable def mkA(c:Af)(f:Ag):Ac D->R Ex
 |[d]=>if (xfD 0 d||(xfD 1 d||xfD 2 d))=Ab then .ok ⟨c,[(f,d)]⟩ else .bad
 |_=>.bad
end Ov
end
section
namespace OvC
open PySem Ov PyProof.Rows
variable{j:Ah}
noncomputable abbrev scr(ns:Ac Ah):D:=.lst (ns.map .int)
noncomputable abbrev sh(d:D):Sl:=Aa (d,Ad)
noncomputable abbrev si(i:Ah):Sl:=Aa (.int i,Ad)
theorem TV{P:Af->Prop}(h0:P 0)(h1:P 1)(h2:P 2)(h3:P 3):P (j%4).toNat:=by
 have:(j%4).toNat=0\/(j%4).toNat=1\/(j%4).toNat=2\/(j%4).toNat=3:=by omega
 rcases this with e|e|e|e<;>rw[e]<;>assumption
def P4(p:Ah):Prop:=p=3\/p=5\/p=7\/p=11
noncomputable def pr4(j:Ah):Ah:=[3,5,7,11].getD (j%4).toNat 0
theorem dR(j):P4 (pr4 j):=by
 unfold pr4;exact TV (P:=λj=>P4 ([3,5,7,11].getD j 0)) (.inl rfl) (.inr (.inl rfl)) (.inr (.inr (.inl rfl))) (.inr (.inr (.inr rfl)))
theorem P4.pos{p}(h:P4 p):0<p:=by rcases h with rfl|rfl|rfl|rfl<;>decide
theorem P4.lo{p}(h:P4 p):3<=p:=by rcases h with rfl|rfl|rfl|rfl<;>decide
theorem P4.hi{p}(h:P4 p):p<=11:=by rcases h with rfl|rfl|rfl|rfl<;>decide
theorem YD(j:Ah):DA [.int 3,.int 5,.int 7,.int 11] (j%4)=.ok (.int (pr4 j)):=by
 have h:=TV (P:=λj=>[D.int 3,D.int 5,D.int 7,D.int 11][j]?=Aa (D.int ([3,5,7,11].getD j 0))) (j:=j) rfl rfl rfl rfl
 exact Qq (by omega) h
theorem Kn{i:Ah}(h0:-18446744073709551616<i)(h1:i<18446744073709551616):EF i j=Ab:=by simp[EF];left;exact⟨h0,h1⟩
theorem No{i:Ah}(h0:-18446744073709551616<j)(h1:j<18446744073709551616):EF i j=Ab:=by simp[EF];right;exact⟨h0,h1⟩
noncomputable def NW:Df:=⟨2,Ad,(.cons (.ret (.bin .Mod (.var 1) (.var 0))) .nil)⟩
def LD(Z:Gam):Prop:=∀ p n:Ah,0<p->Z.F 1 [.int p,.int n]=.ok (.int (n%p))
theorem fD(Z:Gam)(p n:Ah)(h:0<p):NW.run Z [.int p,.int n]=.ok (.int (n%p)):=by simp[NW,Df.run,B8,h]
end OvC
end
namespace Ov
open PySem PySem.Spec PyProof.Rows L2
variable{K:Fg}{mg:Ag->An Aj}{x:Ag}{A B:Ak->Prop}{H H' H1 H0:Hp}{a b l q:Ak}{xs ys vs:Ac V}{v:V}{d:D}{Rp Rq:Hp->V->D->Prop}{r:R D}{Q:VK}{X:Cx}{e c tg iter elt:Am}{U:Rho}{i n j k:Af}{Y:L2.St}{g:D->D->R D}{op:CJ}{pI:Pn}{s:Ao}{its its2:Ac Aj}{items2:A4 Aj}{h h':AB}{u:Aj}{es ifs:Ac Am}{fs fi:Rho->R (Ac D)}{Q':An Ah->Hp->Prop}{p pos' p2 pos pos2 tpos:Az}{T:Cv}{α:Type}{D':Ends}{fc:Rho->R Ai}{body:Ac AD}{fbd:Rho->O}{as:D->Rho->R Rho}{up:Af->Ac Af}{prog:AJ}{w:AT}{scope:BL}{env:B2}{cl:Ac (Ag×Ak)}{N':Ac Ag}{ts:Ac Af}{fp:Ac Ak}{tt:TT}{te:TE}{J:It}{wi:TI}{t:Ai}
noncomputable def Mi:Af->Ag
 |0 => "Triple"
 |1 => "Point"
 |2 => "Line"
 |_ => ""
noncomputable def OC(K:Fg)(c:Af):An Ak:=if c<3 then (match A7 K AQ (Mi c) with
  |some (Aa (.ref C))=>Aa C
  | _=>Ae) else Ae
noncomputable def FU:Ac (Ag×Af×Ag):=[("0.told",0, "told"),("1.told",1, "told"),("2.told",2, "told"),("0.shown",0, "shown"),("1.shown",1, "shown"),("2.shown",2, "shown")]
noncomputable def G6(K:Fg)(mg:Ag->An Aj)(x:Ag):An Aj:=match FU.lookup x with
  |some (c,m)=>(OC K c).bind λC=>(Ar K (.ref C) m).join
  |none=>mg x
theorem Ng{v:An Aj}(h:G6 K mg x=v)(e:FU.lookup x=Ae):mg x=v:=by
 unfold G6 at h;rw[e]at h;exact h
theorem XF{m:Ag}{c:Af}{C:Ak}{v:Aj}(h:G6 K mg x=Aa v)(e:FU.lookup x=Aa (c,m))(hC:OC K c=Aa C):Ar K (.ref C) m=Aa (Aa v):=by
 unfold G6 at h;rw[e]at h;dsimp only at h;rw[hC]at h;have h':(Ar K (.ref C) m).join=Aa v:=h;cases q:Ar K (.ref C) m with
 |none=>rw[q]at h';cases h'
 |some u=>rw[q]at h';have:u=Aa v:=h';rw[this]
abbrev ClA:=Af->An Ak
variable{CL:ClA}
def KL(K:Fg)(a:Ak)(xs:Ac V):Prop:=∃(o:Cz)(its:A4 Aj)(n:Af),K.lookup a=Aa o/\o.cls=.type "list"/\o.dict=Ae/\o.data=.seq its n/\its.size<=sizeLine/\AX xs its.toList
def KT(K:Fg)(a:Ak)(xs:Ac V):Prop:=∃(o:Cz)(its:A4 Aj)(n:Af),K.lookup a=Aa o/\o.cls=.type "tuple"/\o.data=.seq its n/\its.size<=sizeLine/\AX xs its.toList
section
variable(K:Fg)(CL:ClA)(H:Hp)(A:Ak->Prop)
mutual
def Rep:V->D->Prop
 |v,.non=>v=.non
 |v,.bl b=>v=.bl b
 |v,.int i=>v=.int i
 |v,.str x=>v=.str x
 |v,.tup ds=>∃ a xs,v=.ref a/\(¬ A a\/KT K a xs)/\SqT K H a xs/\Reps xs ds
 |v,.lst ds=>∃ a xs,v=.ref a/\(¬ A a\/KL K a xs)/\SqL K H a xs/\Reps xs ds
 |v,.obj c fs=>∃ a C dx vs,v=.ref a/\¬ A a/\OC K c=Aa C/\H a=Aa (.ins C dx vs)/\Repf vs fs
 |_,.dic _=>AV
 |v,.exc c fs=>∃ a C φ,v=.ref a/\¬ A a/\CL c=Aa C/\H a=Aa (.ext φ)/\(∀ h,φ h->∃ o,h.get? a=Aa o/\o.cls=.ref C)/\(fs=[]\/∃ dx vs,¬ A dx/\H dx=Aa (.xd vs)/\Repf vs fs/\∀ h,φ h->∃ o,h.get? a=Aa o/\o.dict=Aa dx/\∃ us,o.data=.fields us)
def Reps:Ac V->Ac D->Prop
 |[],[]=>GH
 |v::vs,d::ds=>Rep v d/\Reps vs ds
 |_,_=>AV
def Repf:Ac (Ag×V)->Ac (Ag×D)->Prop
 |[],[]=>GH
 |v::vs,d::ds=>Repp v d/\Repf vs ds
 |_,_=>AV
def Repp:Ag×V->Ag×D->Prop
 |v,(n,d)=>v.1=n/\Rep v.2 d
end
def B9(v:V)(d:D):Prop:=Rep K CL H A v d\/∃ a xs ds,v=.ref a/\d=.lst ds/\H a=Aa (.lst xs)/\Reps K CL H A xs ds
end
def Kp(A:Ak->Prop)(H H':Hp):Prop:=∀ b o,H b=Aa o->¬ A b->H' b=Aa o
def AOk(H:Hp)(A:Ak->Prop):Prop:=∀ a,A a->∃ xs,H a=Aa (.lst xs)
theorem Kp.of(h:Ax H H'):Kp A H H':=λb o e _=>h b o e
theorem AOk.same(h:AOk H A)(s:Ax H H'):AOk H' A:=λa ha=>let ⟨xs,e⟩:=h a ha;⟨xs,s _ _ e⟩
theorem AOk.new{p:Ak}(h:AOk H A)(e:H p=Ae):¬ A p:=λha=>by
 obtain⟨xs,q⟩:=h p ha;rw[e]at q;cases q
section
variable{K:Fg}{CL:ClA}{H H':Hp}{A B:Ak->Prop}
theorem SV{u:HO}(k:Kp A H H')(na:¬ A a)(h:Rd H a u):Rd H' a u:=by
 rcases h with h|⟨o,h⟩
 .exact .inl (k _ _ h na)
 .exact .inr ⟨o,k _ _ h na⟩
theorem Lr(k:Kp A H H')(na:¬ A a\/KL K a xs)(h:SqL K H a xs):SqL K H' a xs:=na.elim (λna=>h.imp (SV k na) id) .inr
theorem Lz(k:Kp A H H')(na:¬ A a\/KT K a xs)(h:SqT K H a xs):SqT K H' a xs:=na.elim (λna=>h.imp (SV k na) id) .inr
mutual
theorem Rep.kp(k:Kp A H H'):∀{v:V}(d:D),Rep K CL H A v d->Rep K CL H' A v d
 |_,.non,h=>h
 |_,.bl _,h=>h
 |_,.int _,h=>h
 |_,.str _,h=>h
 |_,.dic _,h=>h.elim
 |_,.tup ds,h=>by
  obtain⟨a,xs,e,na,s,r⟩:=h;exact⟨a,xs,e,na,by first|exact Lz k na s|exact Lr k na s,Reps.kp k ds r⟩
 |_,.lst ds,h=>by
  obtain⟨a,xs,e,na,s,r⟩:=h;exact⟨a,xs,e,na,by first|exact Lz k na s|exact Lr k na s,Reps.kp k ds r⟩
 |_,.obj c fs,h=>by
  obtain⟨a,C,dx,vs,e,na,c,s,r⟩:=h;exact⟨a,C,dx,vs,e,na,c,k _ _ s na,Repf.kp k fs r⟩
 |_,.exc c fs,h=>by
  obtain⟨a,C,φ,e,na,c,s,p,q⟩:=h;refine⟨a,C,φ,e,na,c,k _ _ s na,p,q.imp id ?_⟩;rintro⟨dx,vs,nx,s2,r,z⟩;exact⟨dx,vs,nx,k _ _ s2 nx,Repf.kp k fs r,z⟩
theorem Reps.kp(k:Kp A H H'):∀{vs:Ac V}(ds:Ac D),Reps K CL H A vs ds->Reps K CL H' A vs ds
 |[],[],h=>h
 |_::_,d::ds,h=>⟨Rep.kp k d h.1,Reps.kp k ds h.2⟩
 |[],_::_,h=>h.elim
 |_::_,[],h=>h.elim
theorem Repf.kp(k:Kp A H H'):∀{vs:Ac (Ag×V)}(ds:Ac (Ag×D)),Repf K CL H A vs ds->Repf K CL H' A vs ds
 |[],[],h=>h
 |_::_,d::ds,h=>⟨Repp.kp k d h.1,Repf.kp k ds h.2⟩
 |[],_::_,h=>h.elim
 |_::_,[],h=>h.elim
theorem Repp.kp(k:Kp A H H'):∀{v:Ag×V}(d:Ag×D),Repp K CL H A v d->Repp K CL H' A v d
 |_,(_,d),h=>⟨h.1,Rep.kp k d h.2⟩
end
mutual
theorem Rep.sub(k:∀ a,B a->A a):∀{v:V}(d:D),Rep K CL H A v d->Rep K CL H B v d
 |_,.non,h=>h
 |_,.bl _,h=>h
 |_,.int _,h=>h
 |_,.str _,h=>h
 |_,.dic _,h=>h.elim
 |_,.tup ds,h=>by
  obtain⟨a,xs,e,na,s,r⟩:=h;exact⟨a,xs,e,na.imp (λna z=>na (k _ z)) id,s,Reps.sub k ds r⟩
 |_,.lst ds,h=>by
  obtain⟨a,xs,e,na,s,r⟩:=h;exact⟨a,xs,e,na.imp (λna z=>na (k _ z)) id,s,Reps.sub k ds r⟩
 |_,.obj c fs,h=>by
  obtain⟨a,C,dx,vs,e,na,c,s,r⟩:=h;exact⟨a,C,dx,vs,e,λz=>na (k _ z),c,s,Repf.sub k fs r⟩
 |_,.exc c fs,h=>by
  obtain⟨a,C,φ,e,na,c,s,p,q⟩:=h;refine⟨a,C,φ,e,λz=>na (k _ z),c,s,p,q.imp id ?_⟩
  rintro⟨dx,vs,nx,s2,r,z⟩;exact⟨dx,vs,λz=>nx (k _ z),s2,Repf.sub k fs r,z⟩
theorem Reps.sub(k:∀ a,B a->A a):∀{vs:Ac V}(ds:Ac D),Reps K CL H A vs ds->Reps K CL H B vs ds
 |[],[],h=>h
 |_::_,d::ds,h=>⟨Rep.sub k d h.1,Reps.sub k ds h.2⟩
 |[],_::_,h=>h.elim
 |_::_,[],h=>h.elim
theorem Repf.sub(k:∀ a,B a->A a):∀{vs:Ac (Ag×V)}(ds:Ac (Ag×D)),Repf K CL H A vs ds->Repf K CL H B vs ds
 |[],[],h=>h
 |_::_,d::ds,h=>⟨Repp.sub k d h.1,Repf.sub k ds h.2⟩
 |[],_::_,h=>h.elim
 |_::_,[],h=>h.elim
theorem Repp.sub(k:∀ a,B a->A a):∀{v:Ag×V}(d:Ag×D),Repp K CL H A v d->Repp K CL H B v d
 |_,(_,d),h=>⟨h.1,Rep.sub k d h.2⟩
end
mutual
theorem Rep.wide(hp:∀ a,B a->A a\/H a=Ae):∀{v:V}(d:D),Rep K CL H A v d->Rep K CL H B v d
 |_,.non,h=>h
 |_,.bl _,h=>h
 |_,.int _,h=>h
 |_,.str _,h=>h
 |_,.dic _,h=>h.elim
 |_,.tup ds,h=>by
  obtain⟨a,xs,e,na,s,r⟩:=h;refine⟨a,xs,e,?_,s,Reps.wide hp ds r⟩;rcases s with s|s
  .refine na.imp (λna z=>(hp _ z).elim na λe=>?_) id
   rcases s with s|⟨o,s⟩<;>rw[e]at s<;>cases s
  .exact .inr s
 |_,.lst ds,h=>by
  obtain⟨a,xs,e,na,s,r⟩:=h;refine⟨a,xs,e,?_,s,Reps.wide hp ds r⟩;rcases s with s|s
  .refine na.imp (λna z=>(hp _ z).elim na λe=>?_) id
   rcases s with s|⟨o,s⟩<;>rw[e]at s<;>cases s
  .exact .inr s
 |_,.obj c fs,h=>by
  obtain⟨a,C,dx,vs,e,na,c,s,r⟩:=h;exact⟨a,C,dx,vs,e,(λz=>(hp _ z).elim na λe=>by rw[e]at s;cases s),c,s,Repf.wide hp fs r⟩
 |_,.exc c fs,h=>by
  obtain⟨a,C,φ,e,na,c,s,p,q⟩:=h;refine⟨a,C,φ,e,(λz=>(hp _ z).elim na λe=>by rw[e]at s;cases s),c,s,p,q.imp id ?_⟩
  rintro⟨dx,vs,nx,s2,r,z⟩;exact⟨dx,vs,(λz=>(hp _ z).elim nx λe=>by rw[e]at s2;cases s2),s2,Repf.wide hp fs r,z⟩
theorem Reps.wide(hp:∀ a,B a->A a\/H a=Ae):∀{vs:Ac V}(ds:Ac D),Reps K CL H A vs ds->Reps K CL H B vs ds
 |[],[],h=>h
 |_::_,d::ds,h=>⟨Rep.wide hp d h.1,Reps.wide hp ds h.2⟩
 |[],_::_,h=>h.elim
 |_::_,[],h=>h.elim
theorem Repf.wide(hp:∀ a,B a->A a\/H a=Ae):∀{vs:Ac (Ag×V)}(ds:Ac (Ag×D)),Repf K CL H A vs ds->Repf K CL H B vs ds
 |[],[],h=>h
 |_::_,d::ds,h=>⟨Repp.wide hp d h.1,Repf.wide hp ds h.2⟩
 |[],_::_,h=>h.elim
 |_::_,[],h=>h.elim
theorem Repp.wide(hp:∀ a,B a->A a\/H a=Ae):∀{v:Ag×V}(d:Ag×D),Repp K CL H A v d->Repp K CL H B v d
 |_,(_,d),h=>⟨h.1,Rep.wide hp d h.2⟩
end
theorem Rep.same(s:Ax H H')(h:Rep K CL H A v d):Rep K CL H' A v d:=Rep.kp (Kp.of s) d h
theorem Reps.same{v:Ac V}{d:Ac D}(s:Ax H H')(h:Reps K CL H A v d):Reps K CL H' A v d:=Reps.kp (Kp.of s) d h
theorem B9.same{v:V}{d:D}(s:Ax H H')(h:B9 K CL H A v d):B9 K CL H' A v d:=by
 rcases h with h|⟨a,xs,ds,e,e2,q,r⟩
 .exact .inl (h.same s)
 .exact .inr ⟨a,xs,ds,e,e2,s _ _ q,r.same s⟩
theorem Reps.length:∀{vs:Ac V}{ds:Ac D},Reps K CL H A vs ds->vs.length=ds.length
 |[],[],_=>rfl
 |_::_,_::_,h=>congrArg (· + 1) (Reps.length h.2)
 |[],_::_,h=>h.elim
 |_::_,[],h=>h.elim
theorem Reps.append:∀{vs ws:Ac V}{ds es:Ac D},Reps K CL H A vs ds->Reps K CL H A ws es->Reps K CL H A (vs++ws) (ds++es)
 |[],_,[],_,_,h=>h
 |_::_,_,_::_,_,h,g=>⟨h.1,Reps.append h.2 g⟩
 |[],_,_::_,_,h,_=>h.elim
 |_::_,_,[],_,h,_=>h.elim
theorem Reps.get:∀{vs:Ac V}{ds:Ac D}{i:Af}{d:D},Reps K CL H A vs ds->ds[i]?=Aa d->∃ v,vs[i]?=Aa v/\Rep K CL H A v d
 |[],[],_,_,_,e=>by simp at e
 |v::_,_::_,0,_,h,e=>by simp at e;subst e;exact⟨v,rfl,h.1⟩
 |_::_,_::_,i+1,_,h,e=>by
  obtain⟨v,q,r⟩:=Reps.get (i:=i) h.2 (by simpa using e)
  exact⟨v,by simpa using q,r⟩
 |[],_::_,_,_,h,_=>h.elim
 |_::_,[],_,_,h,_=>h.elim
theorem Reps.take:∀{vs:Ac V}{ds:Ac D}(n:Af),Reps K CL H A vs ds->Reps K CL H A (vs.take n) (ds.take n)
 |_,_,0,_=>trivial
 |[],[],_+1,_=>trivial
 |_::_,_::_,n+1,h=>⟨h.1,Reps.take n h.2⟩
 |[],_::_,_+1,h=>h.elim
 |_::_,[],_+1,h=>h.elim
theorem Reps.drop:∀{vs:Ac V}{ds:Ac D}(n:Af),Reps K CL H A vs ds->Reps K CL H A (vs.drop n) (ds.drop n)
 |_,_,0,h=>h
 |[],[],_+1,_=>trivial
 |_::_,_::_,n+1,h=>Reps.drop n h.2
 |[],_::_,_+1,h=>h.elim
 |_::_,[],_+1,h=>h.elim
theorem Reps.set{x:V}{e:D}(r:Rep K CL H A x e):∀{vs:Ac V}{ds:Ac D}(n:Af),Reps K CL H A vs ds->Reps K CL H A (vs.set n x) (ds.set n e)
 |[],[],_,_=>trivial
 |_::_,_::_,0,h=>⟨r,h.2⟩
 |_::_,_::_,n+1,h=>⟨h.1,Reps.set r n h.2⟩
 |[],_::_,_,h=>h.elim
 |_::_,[],_,h=>h.elim
end
structure Good (K:Fg) (CL:ClA) (A:Ak->Prop) (U:Rho) (Y:L2.St) (H:Hp):Prop where
 sh:∀(i:Af)(d:D),U[i]?=Aa (Aa (d,Ad))->∃ v,Y[i]?=Aa (Aa v)/\Rep K CL H A v d
 ow:∀(i:Af)(d:D),U[i]?=Aa (Aa (d,Ab))->d≠.non->∃ a xs ds,Y[i]?=Aa (Aa (.ref a))/\d=.lst ds/\A a/\H a=Aa (.lst xs)/\Reps K CL H A xs ds
 len:U.length=Y.length
theorem Good.same{K:Fg}{CL:ClA}{A:Ak->Prop}{U:Rho}{Y:L2.St}{H H':Hp}(g:Good K CL A U Y H)(s:Ax H H'):Good K CL A U Y H':=
 ⟨λi d e=>let ⟨v,q,r⟩:=g.sh i d e;⟨v,q,r.same s⟩,λi d e hn=>let ⟨a,xs,ds,q,z,na,h,r⟩:=g.ow i d e hn;⟨a,xs,ds,q,z,na,s _ _ h,r.same s⟩,g.len⟩
abbrev XW:=Ex->Hp->Prop
variable{W:XW}
def AU(Rp:Hp->V->D->Prop)(W:XW)(H:Hp)(r:R D)(Q:VK):Prop:=match r with
  |.ok d=>∀ v H',Ax H H'->Rp H' v d->Q v H'
  |.exn x=>∀ H',Ax H H'->W x H'
  |.bad=>AV
def GL(Rp:Hp->Ac V->Ac D->Prop)(W:XW)(H:Hp)(r:R (Ac D))(Q:Ac V->Hp->Prop):Prop:=match r with
  |.ok d=>∀ v H',Ax H H'->Rp H' v d->Q v H'
  |.exn x=>∀ H',Ax H H'->W x H'
  |.bad=>AV
def Cw(W:XW)(H:Hp)(r:R Ai)(Q:Ai->Hp->Prop):Prop:=match r with
  |.ok b=>∀ H',Ax H H'->Q b H'
  |.exn x=>∀ H',Ax H H'->W x H'
  |.bad=>AV
theorem AU.same(s:Ax H H')(h:AU Rp W H r Q):AU Rp W H' r Q:=by
 cases r with
 |ok d=>exact λv H2 s2 q=>h v H2 (s.trans s2) q
 |exn x=>exact λH2 s2=>h H2 (s.trans s2)
 |bad=>exact h
theorem Cw.same{r:R Ai}{Q:Ai->Hp->Prop}(s:Ax H H')(h:Cw W H r Q):Cw W H' r Q:=by
 cases r with
 |ok d=>exact λH2 s2=>h H2 (s.trans s2)
 |exn x=>exact λH2 s2=>h H2 (s.trans s2)
 |bad=>exact h
theorem AU.bind{f:D->R D}{Q':VK}(h:AU Rq W H (r.bind f) Q)(k:∀ d v H',r=.ok d->Ax H H'->Rp H' v d->AU Rq W H' (f d) Q->Q' v H'):AU Rp W H r Q':=by
 cases r with
 |ok d=>exact λv H2 s2 q=>k d v H2 rfl s2 q (AU.same s2 h)
 |exn x=>exact h
 |bad=>exact h
section
variable(X:Cx)(CL:ClA)(W:XW)
def SE(e:Am)(f:Rho->R D):Prop:=∀ A,PE X e (λY H Q=>AOk H A/\∃ U,Good X.K CL A U Y H/\AU (λH=>Rep X.K CL H A) W H (f U) Q)
def ST(e:Am)(f:Rho->R D):Prop:=∀ A,PE X e (λY H Q=>AOk H A/\∃ U,Good X.K CL A U Y H/\AU (λH=>B9 X.K CL H A) W H (f U) Q)
def SB(e:Am)(f:Rho->R Ai):Prop:=∀ A,PT X e (λY H Q=>AOk H A/\∃ U,Good X.K CL A U Y H/\Cw W H (f U) Q)
def SA(es:Ac Am)(f:Rho->R (Ac D)):Prop:=∀ A,PA X es (λY H Q=>AOk H A/\∃ U,Good X.K CL A U Y H/\GL (λH=>Reps X.K CL H A) W H (f U) Q)
end
theorem PE.weak{t t':TE}(h:PE X e t)(k:∀ Y H Q,t' Y H Q->t Y H Q):PE X e t':=λpI s Y H Q I q=>h pI s Y H Q I (k _ _ _ q)
theorem PT.weak{t t':TT}(h:PT X e t)(k:∀ Y H Q,t' Y H Q->t Y H Q):PT X e t':=λpI s Y H Q I q=>h pI s Y H Q I (k _ _ _ q)
theorem PA.weak{e:Ac Am}{t t':TA}(h:PA X e t)(k:∀ Y H Q,t' Y H Q->t Y H Q):PA X e t':=λpos pI s Y H Q I q=>h pos pI s Y H Q I (k _ _ _ q)
noncomputable def OpD(X:Cx)(CL:ClA)(W:XW)(f:Aj->Aj->EY Aj)(g:D->D->R D):Prop:=
 ∀ A,OpR X f (λx y H Q=>AOk H A/\∃ dx dy,B9 X.K CL H A x dx/\B9 X.K CL H A y dy/\AU (λH=>Rep X.K CL H A) W H (g dx dy) Q)
section
variable{X:Cx}{CL:ClA}{W:XW}{a b c:Am}{fa fb fc:Rho->R D}{pos:Az}
theorem SE.st(h:SE X CL W a fa):ST X CL W a fa:=λA=>PE.weak (h A) λY H Q ⟨hA,U,g,p⟩=>⟨hA,U,g,by
 cases e:fa U with
 |ok d=>rw[e]at p;exact λv H' s r=>p v H' s (.inl r)
 |exn x=>rw[e]at p;exact p
 | bad=>rw[e]at p;exact p⟩
theorem SE.congr{f g:Rho->R D}(h:SE X CL W a f)(e:∀ U,g U=f U):SE X CL W a g:=λA=>PE.weak (h A) λY H Q ⟨hA,U,q,p⟩=>⟨hA,U,q,by rw[<-e];exact p⟩
theorem LP(h:PE X a (tC v))(r:∀ H A,AOk H A->Rep X.K CL H A v d):SE X CL W a (λ_=>.ok d):=λA=>PE.weak h λY H Q ⟨hA,U,g,p⟩=>p v H (Ax.refl H) (r H A hA)
theorem eQ{i j}:SE X CL W (.Constant (.int i) j pos) (λ_=>.ok (.int i)):=LP eA λ_ _ _=>rfl
theorem SQ{b j}:SE X CL W (.Constant (.bool b) j pos) (λ_=>.ok (.bl b)):=LP lM λ_ _ _=>rfl
theorem eJ{j}:SE X CL W (.Constant .none j pos) (λ_=>.ok .non):=LP dY λ_ _ _=>rfl
theorem Ls{x j}:SE X CL W (.Constant (.str x) j pos) (λ_=>.ok (.str x)):=LP Lv λ_ _ _=>rfl
theorem Y_7(h:E7 U i=.ok d):U[i]?=Aa (Aa (d,Ad)):=by
 unfold E7 at h;split at h
 .rename_i e;cases h;exact e
 .cases h
theorem QV(h:Dr U i=.ok d):∃ o,U[i]?=Aa (Aa (d,o))/\(o=Ab->d≠.non):=by
 unfold Dr at h;split at h
 .rename_i e;cases h;exact⟨_,e,λz=>nomatch z⟩
 .rename_i x e;cases x with
  |lst xs=>cases h;exact⟨_,e,λ_ z=>nomatch z⟩
  |_=>cases h
 .cases h
theorem Ye{x:Ex}(h:E7 U i=.exn x):AV:=by
 unfold E7 at h;split at h<;>cases h
theorem La{x:Ex}(h:Dr U i=.exn x):AV:=by
 unfold Dr at h;split at h
 .cases h
 .rename_i y _;cases y<;>cases h
 .cases h
theorem bX(h:PE X a (Ec i)):SE X CL W a (λU=>E7 U i):=λA=>PE.weak h λY H Q ⟨hA,U,g,p⟩=>by
 dsimp only at p;cases e:E7 U i with
 |ok d=>
  rw[e]at p;obtain⟨v,q,r⟩:=g.sh i d (Y_7 e);exact⟨v,q,p v H (Ax.refl H) r⟩
 |exn x=>exact(Ye e).elim
 |bad=>rw[e]at p;exact p.elim
theorem JA(h:PE X a (Ec i)):ST X CL W a (λU=>Dr U i):=λA=>PE.weak h λY H Q ⟨hA,U,g,p⟩=>by
 dsimp only at p;cases e:Dr U i with
 |ok d=>
  rw[e]at p;obtain⟨o,e,hn⟩:=QV e;cases o with
  |false=>
   obtain⟨v,q,r⟩:=g.sh i d e;exact⟨v,q,p v H (Ax.refl H) (.inl r)⟩
  |true=>
   obtain⟨x,xs,ds,q,rfl,ha,hh,r⟩:=g.ow i d e (hn rfl);exact⟨_,q,p _ H (Ax.refl H) (.inr ⟨x,xs,ds,rfl,rfl,hh,r⟩)⟩
 |exn x=>exact(La e).elim
 |bad=>rw[e]at p;exact p.elim
theorem op2(h:AOk H A/\∃ U,Good X.K CL A U Y H/\AU Rq W H ((fa U).bind λx=>(fb U).bind λy=>g x y) Q):AOk H A/\∃ U,Good X.K CL A U Y H/\AU (λH=>B9 X.K CL H A) W H (fa U) (λx H1=>AOk H1 A/\∃ U,Good X.K CL A U Y H1/\AU (λH=>B9 X.K CL H A) W H1 (fb U) (λy H2=>AOk H2 A/\∃ dx dy,B9 X.K CL H2 A x dx/\B9 X.K CL H2 A y dy/\AU Rq W H2 (g dx dy) Q)):=by
 obtain⟨hA,U,gd,p⟩:=h;refine⟨hA,U,gd,AU.bind p λdx x H1 _ s1 r1 p1=>⟨hA.same s1,U,gd.same s1,AU.bind p1 λdy y H2 _ s2 r2 p2=>⟨(hA.same s1).same s2,dx,dy,r1.same s2,r2,p2⟩⟩⟩
theorem NK{op:ED}(ho:OpD X CL W (BM op) g)(ha:ST X CL W a fa)(hb:ST X CL W b fb):SE X CL W (.BinOp a op b pos) (λU=>(fa U).bind λx=>(fb U).bind λy=>g x y):=
 λA=>PE.weak (SL (ho A) (ha A) (hb A)) λY H Q h=>op2 h
theorem eS(ho:OpD X CL W (Co op) g)(ha:ST X CL W a fa)(hb:ST X CL W b fb)(hm:F6 op b=Ad):SE X CL W (.Compare a [op] [b] pos) (λU=>(fa U).bind λx=>(fb U).bind λy=>g x y):=
 λA=>PE.weak (ZA (ho A) (ha A) (hb A) hm) λY H Q h=>op2 h
theorem B9.int_of{i:Ah}(h:B9 K CL H A v (.int i)):v=.int i:=by
 rcases h with h|⟨_,_,_,_,e,_⟩
 .exact h
 .cases e
theorem B9.str_of{i:Ag}(h:B9 K CL H A v (.str i)):v=.str i:=by
 rcases h with h|⟨_,_,_,_,e,_⟩
 .exact h
 .cases e
theorem B9.bl_of{i:Ai}(h:B9 K CL H A v (.bl i)):v=.bl i:=by
 rcases h with h|⟨_,_,_,_,e,_⟩
 .exact h
 .cases e
theorem B9.non_of(h:B9 K CL H A v .non):v=.non:=by
 rcases h with h|⟨_,_,_,_,e,_⟩
 .exact h
 .cases e
theorem B9.lst_of{ds:Ac D}(h:B9 K CL H A v (.lst ds)):∃ a xs,v=.ref a/\SqL K H a xs/\Reps K CL H A xs ds:=by
 rcases h with ⟨a,xs,e,_,s,r⟩|⟨a,xs,es,rfl,e,s,r⟩
 .exact⟨a,xs,e,s,r⟩
 .cases e;exact⟨a,xs,rfl,SqL.of s,r⟩
theorem B9.tup_of{ds:Ac D}(h:B9 K CL H A v (.tup ds)):∃ a xs,v=.ref a/\(¬ A a\/KT K a xs)/\SqT K H a xs/\Reps K CL H A xs ds:=by
 rcases h with ⟨a,xs,e,n,s,r⟩|⟨_,_,_,_,e,_⟩
 .exact⟨a,xs,e,n,s,r⟩
 .cases e
theorem Zu{i j:Ah}(h:EF i j=Ab):Ma i j:=by
 unfold EF at h;simp only[BN,Al,AO]at h;unfold Ma;omega
theorem Re{a:Ah}(h:a.natAbs<2 ^ 2000):UR a<=2 ^ 20:=by
 unfold UR;split
 .omega
 .rename_i hz;have h0:a.natAbs≠0:=by intro z;exact hz (by rw[Int.natAbs_eq_zero.mp z];rfl)
  have:=(Nat.log2_lt h0).mpr h;omega
theorem Zt{i j:Ah}(h:(EF i j||LY i j)=Ab):J6 i j:=by
 rcases Bool.or_eq_true_iff.mp h with h|h
 .exact(Zu h).ok
 .unfold LY at h;rw[Al,AO,AO]at h;exact .of_bits (Re h.1) (Re h.2)
theorem ZH:OpR X (BM .Mult) (rI J6 λi j=>.int (i*j)):=opI λ_ _ _ _ _ _ _ hc q=>mul_int q hc
theorem IG(h:B5 n=Ab):n<=sizeLine:=by
 unfold B5 at h;rw[BX];have:=Bt h;omega
theorem Rl{p:Ak}{ds:Ac D}(hA:AOk H A)(hp:H p=Ae)(r:Reps K CL H A xs ds):Rep K CL (upd H p (.lst xs)) A (.ref p) (.lst ds):=
 ⟨p,xs,rfl,.inl (hA.new hp),SqL.of Dh,r.same λb o e=>by rw[A6 (E4 e hp)];exact e⟩
theorem Jy{p:Ak}{ds:Ac D}(hA:AOk H A)(hp:H p=Ae)(r:Reps K CL H A xs ds):Rep K CL (upd H p (.tup xs)) A (.ref p) (.tup ds):=
 ⟨p,xs,rfl,.inl (hA.new hp),SqT.of Dh,r.same λb o e=>by rw[A6 (E4 e hp)];exact e⟩
theorem Eo{p:Ak}(h:H p=Ae)(o:HO):Ax H (upd H p o):=λb u q=>by rw[A6 (E4 q h)];exact q
def jF(K:Fg):R2:=λx y H Q=>∃ l b xs zs,x=.ref l/\y=.ref b/\SqL K H l xs/\SqL K H b zs/\xs.length+zs.length<=sizeLine/\∀ p,H p=Ae->Q (.ref p) (upd H p (.lst (xs++zs)))
end
section
variable{X:Cx}{CL:ClA}{W:XW}
theorem QC:OpR X (BM .Add) (jF X.K):=by
 intro pI s Y H x y v u Q I rx ry h;obtain⟨l,b,xs,zs,rfl,rfl,hH,hB,hz,q⟩:=h;cases rx;cases ry;obtain⟨its,r,⟨o,n,e,c,dd,dt⟩,z⟩:=I.list hH;obtain⟨its2,r2,⟨o2,n2,e2,c2,dd2,dt2⟩,z2⟩:=I.list hB;have hl:=r.length;have hl2:=r2.length;obtain⟨cls,dd0,data,sl⟩:=o;obtain⟨cls2,dd02,data2,sl2⟩:=o2;simp only at c dd dt c2 dd2 dt2;subst c dd dt c2 dd2 dt2;have ea:its.toArray++its2.toArray=(its++its2).toArray:=by simp
 refine Ib ⟨_,e,rfl⟩ ⟨_,e2,rfl⟩ noFill_list_add seq_list_add PySem.F.slot_list_add PySem.F.entry_list_add (PySem.F.args_list_add_2 _ _) (list_addW l b its.toArray its2.toArray n n2 Ae Ae sl sl2 (by simp;omega)) ⟨e,e2,?_⟩
 rw[ea];exact⟨.ref _,_,I.lnew (t':=s.toks) (r.append r2) (by rw[BQ];omega),rfl,q _ I.fresh⟩
theorem QB:OpD X CL W (BM .Add) (CH .Add):=by
 intro A pI s Y H x y v u Q I rx ry ⟨hA,dx,dy,hx,hy,p⟩;cases dx with
 |int i=>
  cases dy with
  |int j=>
   have ex:=hx.int_of;have ey:=hy.int_of
   subst ex ey;exact eI pI s Y H _ _ v u Q I rx ry ⟨i,j,rfl,rfl,p _ H (Ax.refl H) rfl⟩
  |_=>exact p.elim
 |str i=>
  cases dy with
  |str j=>
   have ex:=hx.str_of;have ey:=hy.str_of
   subst ex ey;simp only[GZ]at p;split at p
   .rename_i h;exact WP pI s Y H _ _ v u Q I rx ry ⟨i,j,rfl,rfl,IG h,p _ H (Ax.refl H) rfl⟩
   .exact p.elim
  |_=>exact p.elim
 |lst ds=>
  cases dy with
  |lst es=>
   obtain⟨a,xs,rfl,s1,r1⟩:=hx.lst_of;obtain⟨b,ys,rfl,s2,r2⟩:=hy.lst_of;simp only[Sk]at p;split at p
   .rename_i h;refine QC pI s Y H _ _ v u Q I rx ry ⟨a,b,xs,ys,rfl,rfl,s1,s2,by rw[r1.length,r2.length];exact IG h,λq hq=>?_⟩
    exact p _ _ (Eo hq _) (Rl hA hq (r1.append r2))
   .exact p.elim
  |_=>exact p.elim
 |tup ds=>
  cases dy with
  |tup es=>
   obtain⟨a,xs,rfl,na1,s1,r1⟩:=hx.tup_of;obtain⟨b,ys,rfl,_,s2,r2⟩:=hy.tup_of;simp only[Sj]at p;split at p
   .rename_i h;simp only[Al]at h;refine ZJ pI s Y H _ _ v u Q I rx ry ⟨a,b,xs,ys,rfl,rfl,s1,s2,?_,by rw[r1.length,r2.length];exact IG h.2,λhy0=>?_,λ_ q hq=>?_⟩
    .rintro rfl;cases ds with
     |nil=>cases h.1
     |cons _ _=>exact r1.elim
    .subst hy0;cases es with
     |nil=>rw[Ch]at p;exact p _ H (Ax.refl H) ⟨a,xs,rfl,na1,s1,r1⟩
     |cons _ _=>exact r2.elim
    .exact p _ _ (Eo hq _) (Jy hA hq (r1.append r2))
   .exact p.elim
  |_=>exact p.elim
 |_=>exact p.elim
theorem Ll{op:ED}{C:Ah->Ah->Prop}{g:Ah->Ah->Ah}(ho:OpR X (BM op) (rI C λi j=>.int (g i j)))(hg:∀ dx dy,(∃ i j,dx=.int i/\dy=.int j/\((C i j/\CH op dx dy=.ok (.int (g i j)))\/CH op dx dy=.bad))\/CH op dx dy=.bad):OpD X CL W (BM op) (CH op):=by
 intro A pI s Y H x y v u Q I rx ry ⟨hA,dx,dy,hx,hy,p⟩;rcases hg dx dy with ⟨i,j,rfl,rfl,⟨c,e⟩|e⟩|e
 .have ex:=hx.int_of;have ey:=hy.int_of
  subst ex ey;rw[e]at p;exact ho pI s Y H _ _ v u Q I rx ry ⟨i,j,rfl,rfl,c,p _ H (Ax.refl H) rfl⟩
 .rw[e]at p;exact p.elim
 .rw[e]at p;exact p.elim
theorem ZC:OpD X CL W (BM .Sub) (CH .Sub):=by
 intro A pI s Y H x y v u Q I rx ry ⟨hA,dx,dy,hx,hy,p⟩;cases dx with
 |int i=>
  cases dy with
  |int j=>
   have ex:=hx.int_of;have ey:=hy.int_of
   subst ex ey;exact eC pI s Y H _ _ v u Q I rx ry ⟨i,j,rfl,rfl,p _ H (Ax.refl H) rfl⟩
  |_=>exact p.elim
 |_=>exact p.elim
theorem ZE:OpD X CL W (BM .Mult) (CH .Mult):=Ll ZH λdx dy=>by
 cases dx with
 |int i=>
  cases dy with
  |int j=>
   refine .inl ⟨i,j,rfl,rfl,?_⟩;rw[dG];split
   .rename_i h;exact .inl ⟨Zt h,rfl⟩
   .exact .inr rfl
  |_=>exact .inr rfl
 |_=>exact .inr rfl
theorem XU:OpD X CL W (BM .FloorDiv) (CH .FloorDiv):=Ll ZI λdx dy=>by
 cases dx with
 |int i=>
  cases dy with
  |int j=>
   refine .inl ⟨i,j,rfl,rfl,?_⟩;rw[bO];split
   .rename_i h;exact .inl ⟨h,rfl⟩
   .exact .inr rfl
  |_=>exact .inr rfl
 |_=>exact .inr rfl
theorem ZF:OpD X CL W (BM .Mod) (CH .Mod):=Ll eF λdx dy=>by
 cases dx with
 |int i=>
  cases dy with
  |int j=>
   refine .inl ⟨i,j,rfl,rfl,?_⟩;rw[dH];split
   .rename_i h;exact .inl ⟨h,rfl⟩
   .exact .inr rfl
  |_=>exact .inr rfl
 |_=>exact .inr rfl
theorem ZD:OpD X CL W (BM .Pow) (CH .Pow):=Ll eE λdx dy=>by
 cases dx with
 |int i=>
  cases dy with
  |int j=>
   refine .inl ⟨i,j,rfl,rfl,?_⟩;rw[dS];split
   .rename_i h;exact .inl ⟨⟨h.1.1,h.1.2,by omega⟩,rfl⟩
   .exact .inr rfl
  |_=>exact .inr rfl
 |_=>exact .inr rfl
theorem Nm(op:ED):OpD X CL W (BM op) (CH op):=by
 cases op with
 |Add=>exact QB
 |Sub=>exact ZC
 |Mult=>exact ZE
 |FloorDiv=>exact XU
 |Mod=>exact ZF
 |Pow=>exact ZD
 |_=>
  intro A pI s Y H x y v u Q I rx ry ⟨hA,dx,dy,hx,hy,p⟩;exact p.elim
noncomputable abbrev A0:Ak->Prop:=λ_=>AV
theorem B9.plain(h:B9 K CL H A v d):Rep K CL H A0 v d:=by
 rcases h with h|⟨a,xs,ds,rfl,rfl,e,r⟩
 .exact Rep.sub (λ_ z=>z.elim) d h
 .exact⟨a,xs,rfl,.inl λz=>z.elim,SqL.of e,Reps.sub (λ_ z=>z.elim) ds r⟩
mutual
theorem YJ:∀(n:Af)(d:D),flD n d=Ab->eqD d d=Ab
 |_,.non,_=>rfl
 |_,.bl b,_=>by simp
 |_,.int i,_=>by simp
 |_,.str x,_=>by simp
 |n+1,.tup ds,h=>by
  show eqDs ds ds=Ab;exact eqDs_refl n ds h
 |n+1,.lst ds,h=>by
  show eqDs ds ds=Ab;exact eqDs_refl n ds h
 |0,.tup ds,h=>by cases h
 |0,.lst ds,h=>by cases h
 |n,.obj _ _,h=>by cases n<;>cases h
 |n,.exc _ _,h=>by cases n<;>cases h
 |n,.dic _,h=>by cases n<;>cases h
theorem eqDs_refl:∀(n:Af)(ds:Ac D),ds.all (flD n)=Ab->eqDs ds ds=Ab
 |_,[],_=>rfl
 |n,d::ds,h=>by
  simp only[Ef,Al]at h;simp only[MV,Al];exact⟨YJ n d h.1,eqDs_refl n ds h.2⟩
end
theorem Pa(I:Inv X pI Y H s)(h:SqL X.K H a xs)(h':SqT X.K H a ys):AV:=by
 obtain⟨its,r,⟨o,n,e,c,_,_⟩,_⟩:=I.list h;obtain⟨its',r',⟨o',e',c',_⟩,_⟩:=I.tuple h';rw[e]at e';cases e';rw[c]at c'
 injection c' with z
 exact absurd z (by decide)
mutual
theorem Lk{pI:Pn}{Y:L2.St}{H:Hp}{s:Ao}(I:Inv X pI Y H s):∀(n:Af)(d e:D){v:V},flD n d=Ab->flD n e=Ab->Rep X.K CL H A0 v d->Rep X.K CL H A0 v e->d=e
 |n,.tup ds,e,v,hd,he,r,q=>by
  obtain⟨a,xs,rfl,_,s1,r1⟩:=r;cases e with
  |tup es=>
   obtain⟨b,ys,e,_,s2,r2⟩:=q;cases e;have z:=I.tuple_inj s1 s2;subst z;cases n with
   |zero=>cases hd
   |succ n=>rw[reps_inj I n ds es hd he r1 r2]
  |lst es=>
   obtain⟨b,ys,e,_,s2,r2⟩:=q;cases e;exact(Pa I s2 s1).elim
  |obj=>cases n<;>cases he
  |exc=>cases n<;>cases he
  |dic=>cases n<;>cases he
  |_=>cases q
 |n,.lst ds,e,v,hd,he,r,q=>by
  obtain⟨a,xs,rfl,_,s1,r1⟩:=r;cases e with
  |lst es=>
   obtain⟨b,ys,e,_,s2,r2⟩:=q;cases e;have z:=I.list_inj s1 s2;subst z;cases n with
   |zero=>cases hd
   |succ n=>rw[reps_inj I n ds es hd he r1 r2]
  |tup es=>
   obtain⟨b,ys,e,_,s2,r2⟩:=q;cases e;exact(Pa I s1 s2).elim
  |obj=>cases n<;>cases he
  |exc=>cases n<;>cases he
  |dic=>cases n<;>cases he
  |_=>cases q
 |n,.obj _ _,e,v,hd,he,r,q=>by cases n<;>cases hd
 |n,.exc _ _,e,v,hd,he,r,q=>by cases n<;>cases hd
 |n,.dic _,e,v,hd,he,r,q=>by cases n<;>cases hd
 |n,.non,e,v,hd,he,r,q=>by
  cases r;cases e with
  |tup=>obtain⟨_,_,z,_⟩:=q;cases z
  |lst=>obtain⟨_,_,z,_⟩:=q;cases z
  |obj=>cases n<;>cases he
  |exc=>cases n<;>cases he
  |dic=>cases n<;>cases he
  |_=>cases q<;>rfl
 |n,.bl b,e,v,hd,he,r,q=>by
  cases r;cases e with
  |tup=>obtain⟨_,_,z,_⟩:=q;cases z
  |lst=>obtain⟨_,_,z,_⟩:=q;cases z
  |obj=>cases n<;>cases he
  |exc=>cases n<;>cases he
  |dic=>cases n<;>cases he
  |_=>cases q<;>rfl
 |n,.int b,e,v,hd,he,r,q=>by
  cases r;cases e with
  |tup=>obtain⟨_,_,z,_⟩:=q;cases z
  |lst=>obtain⟨_,_,z,_⟩:=q;cases z
  |obj=>cases n<;>cases he
  |exc=>cases n<;>cases he
  |dic=>cases n<;>cases he
  |_=>cases q<;>rfl
 |n,.str b,e,v,hd,he,r,q=>by
  cases r;cases e with
  |tup=>obtain⟨_,_,z,_⟩:=q;cases z
  |lst=>obtain⟨_,_,z,_⟩:=q;cases z
  |obj=>cases n<;>cases he
  |exc=>cases n<;>cases he
  |dic=>cases n<;>cases he
  |_=>cases q<;>rfl
theorem reps_inj{pI:Pn}{Y:L2.St}{H:Hp}{s:Ao}(I:Inv X pI Y H s):∀(n:Af)(ds es:Ac D){xs:Ac V},ds.all (flD n)=Ab->es.all (flD n)=Ab->Reps X.K CL H A0 xs ds->Reps X.K CL H A0 xs es->ds=es
 |_,[],[],_,_,_,_,_=>rfl
 |n,d::ds,e::es,x::xs,hd,he,r,q=>by
  simp only[Ef,Al]at hd he;rw[Lk I n d e hd.1 he.1 r.1 q.1,reps_inj I n ds es hd.2 he.2 r.2 q.2]
 |_,[],_::_,[],_,_,_,q=>q.elim
 |_,[],_::_,_::_,_,_,r,_=>r.elim
 |_,_::_,[],[],_,_,r,_=>r.elim
 |_,_::_,[],_::_,_,_,_,q=>q.elim
 |_,_::_,_::_,[],_,_,r,_=>r.elim
end
theorem Kk:∀{ds es:Ac D},ds.length≠es.length->eqDs ds es=Ad
 |[],[],h=>absurd rfl h
 |[],_::_,_=>rfl
 |_::_,[],_=>rfl
 |d::ds,e::es,h=>by
  simp only[MV,Kk (ds:=ds) (es:=es) (by simpa using h),Hb]
theorem O1(n:Af)(f:Af->Ai):(B6 (n+1)).all f=(f 0&&(B6 n).all λj=>f (j+1)):=by
 rw[UB,Ef,Uo];rfl
theorem Kl:∀{ds es:Ac D},ds.length=es.length->eqDs ds es=(B6 ds.length).all λj=>eqD (ds.getD j .non) (es.getD j .non)
 |[],[],_=>rfl
 |d::ds,e::es,h=>by
  rw[MV,Kl (ds:=ds) (es:=es) (by simpa using h),AZ,O1]
  rfl
 |[],_::_,h=>by cases h
 |_::_,[],h=>by cases h
theorem IX{ds:Ac D}(r:Reps K CL H A0 xs ds)(rv:AX xs its)(h:j<its.length):∃ x,Rep K CL H A0 x (ds.getD j .non)/\Bi x its[j]:=by
 have e1:=rv.length;have e2:=r.length;have hd:ds[j]?=Aa (ds.getD j .non):=by
  rw[Dc,BF (by omega)];rfl
 obtain⟨x,hx,q⟩:=r.get hd;obtain⟨u,hu,ru⟩:=rv.get hx;refine⟨x,q,?_⟩;rw[BF h]at hu;cases hu;exact ru
theorem IS{ds:Ac D}(h:ds.all (flD n)=Ab)(j:Af):flD n (ds.getD j .non)=Ab:=by
 rw[Dc];cases e:ds[j]? with
 |none=>cases n<;>rfl
 |some d=>exact BV.mp h d (UA e)
def Cf(B:AR)(s:Ao)(u t:Aj)(k:Ai):Prop:=Jg B s u t k/\Fv B s u t k/\HX B s u t (!k)
section
variable{B:AR}{s:Ao}
open SeqAt
theorem jM:Cf B s .none .none Ab:=⟨RcAt.none_none,EqAt.same _,RcNeAt.none_none⟩
theorem kG(a b:Ai):Cf B s (.bool a) (.bool b) (a==b):=⟨RcAt.bool_bool _ _,EqAt.bool_bool _ _,RcNeAt.bool_bool _ _⟩
theorem jP(b:Ai):Cf B s .none (.bool b) Ad:=⟨RcAt.none_bool _,EqAt.none_bool _,RcNeAt.none_bool _⟩
theorem kD(b:Ai):Cf B s (.bool b) .none Ad:=⟨RcAt.bool_none _,EqAt.bool_none _,RcNeAt.bool_none _⟩
theorem jZ(a:Ah)(t:Cd)(b:Ah)(u:Cd):Cf B s (.int a t) (.int b u) (a==b):=⟨RcAt.int_int _ _ _ _,EqAt.int_int _ _ _ _,RcNeAt.int_int _ _ _ _⟩
theorem kT(a:Ag)(t:Cd)(b:Ag)(u:Cd):Cf B s (.str a t) (.str b u) (a==b):=⟨RcAt.str_str _ _ _ _,EqAt.str_str _ _ _ _,RcNeAt.str_str _ _ _ _⟩
theorem jW(a:Ah)(t:Cd)(b:Ag)(u:Cd):Cf B s (.int a t) (.str b u) Ad:=⟨RcAt.int_str _ _ _ _,EqAt.int_str _ _ _ _,RcNeAt.int_str _ _ _ _⟩
theorem kX(a:Ag)(t:Cd)(b:Ah)(u:Cd):Cf B s (.str a t) (.int b u) Ad:=⟨RcAt.str_int _ _ _ _,EqAt.str_int _ _ _ _,RcNeAt.str_int _ _ _ _⟩
theorem jO(b:Ah)(u:Cd):Cf B s .none (.int b u) Ad:=⟨RcAt.none_int _ _,EqAt.none_int _ _,RcNeAt.none_int _ _⟩
theorem jX(b:Ah)(u:Cd):Cf B s (.int b u) .none Ad:=⟨RcAt.int_none _ _,EqAt.int_none _ _,RcNeAt.int_none _ _⟩
theorem jL(b:Ag)(u:Cd):Cf B s .none (.str b u) Ad:=⟨RcAt.none_str _ _,EqAt.none_str _ _,RcNeAt.none_str _ _⟩
theorem kU(b:Ag)(u:Cd):Cf B s (.str b u) .none Ad:=⟨RcAt.str_none _ _,EqAt.str_none _ _,RcNeAt.str_none _ _⟩
theorem kF(a:Ai)(b:Ah)(u:Cd):Cf B s (.bool a) (.int b u) (b2i a==b):=⟨RcAt.bool_int _ _ _,EqAt.bool_int _ _ _,RcNeAt.bool_int _ _ _⟩
theorem kA(a:Ai)(b:Ah)(u:Cd):Cf B s (.int b u) (.bool a) (b==b2i a):=⟨RcAt.int_bool _ _ _,EqAt.int_bool _ _ _,RcNeAt.int_bool _ _ _⟩
theorem kC(a:Ai)(b:Ag)(u:Cd):Cf B s (.bool a) (.str b u) Ad:=⟨RcAt.bool_str _ _ _,EqAt.bool_str _ _ _,RcNeAt.bool_str _ _ _⟩
theorem kY(a:Ai)(b:Ag)(u:Cd):Cf B s (.str b u) (.bool a) Ad:=⟨RcAt.str_bool _ _ _,EqAt.str_bool _ _ _,RcNeAt.str_bool _ _ _⟩
variable{l:Ak}{items:A4 Aj}
theorem jS(h:s.heap.IsList l items)(hu:B.units<BE):Cf B s (.ref l) .none Ad:=⟨RcAt.list_none h hu,EqAt.list_none h hu,RcNeAt.list_none h hu⟩
theorem jN(h:s.heap.IsList l items)(hu:B.units<BE):Cf B s .none (.ref l) Ad:=⟨RcAt.none_list h hu,EqAt.none_list h hu,RcNeAt.none_list h hu⟩
theorem jU(b:Ai)(h:s.heap.IsList l items)(hu:B.units<BE):Cf B s (.ref l) (.bool b) Ad:=⟨RcAt.list_bool b h hu,EqAt.list_bool b h hu,RcNeAt.list_bool b h hu⟩
theorem kE(b:Ai)(h:s.heap.IsList l items)(hu:B.units<BE):Cf B s (.bool b) (.ref l) Ad:=⟨RcAt.bool_list b h hu,EqAt.bool_list b h hu,RcNeAt.bool_list b h hu⟩
theorem jT(b:Ah)(u:Cd)(h:s.heap.IsList l items)(hu:B.units<BE):Cf B s (.ref l) (.int b u) Ad:=⟨RcAt.list_int b u h hu,EqAt.list_int b u h hu,RcNeAt.list_int b u h hu⟩
theorem jY(b:Ah)(u:Cd)(h:s.heap.IsList l items)(hu:B.units<BE):Cf B s (.int b u) (.ref l) Ad:=⟨RcAt.int_list b u h hu,EqAt.int_list b u h hu,RcNeAt.int_list b u h hu⟩
theorem jR(b:Ag)(u:Cd)(h:s.heap.IsList l items)(hu:B.units<BE):Cf B s (.ref l) (.str b u) Ad:=⟨RcAt.list_str b u h hu,EqAt.list_str b u h hu,RcNeAt.list_str b u h hu⟩
theorem kW(b:Ag)(u:Cd)(h:s.heap.IsList l items)(hu:B.units<BE):Cf B s (.str b u) (.ref l) Ad:=⟨RcAt.str_list b u h hu,EqAt.str_list b u h hu,RcNeAt.str_list b u h hu⟩
theorem kO(h:s.heap.IsTuple l items)(hu:B.units<BE):Cf B s (.ref l) .none Ad:=⟨RcAt.tuple_none h hu,EqAt.tuple_none h hu,RcNeAt.tuple_none h hu⟩
theorem jK(h:s.heap.IsTuple l items)(hu:B.units<BE):Cf B s .none (.ref l) Ad:=⟨RcAt.none_tuple h hu,EqAt.none_tuple h hu,RcNeAt.none_tuple h hu⟩
theorem kR(b:Ai)(h:s.heap.IsTuple l items)(hu:B.units<BE):Cf B s (.ref l) (.bool b) Ad:=⟨RcAt.tuple_bool b h hu,EqAt.tuple_bool b h hu,RcNeAt.tuple_bool b h hu⟩
theorem kB(b:Ai)(h:s.heap.IsTuple l items)(hu:B.units<BE):Cf B s (.bool b) (.ref l) Ad:=⟨RcAt.bool_tuple b h hu,EqAt.bool_tuple b h hu,RcNeAt.bool_tuple b h hu⟩
theorem kQ(b:Ah)(u:Cd)(h:s.heap.IsTuple l items)(hu:B.units<BE):Cf B s (.ref l) (.int b u) Ad:=⟨RcAt.tuple_int b u h hu,EqAt.tuple_int b u h hu,RcNeAt.tuple_int b u h hu⟩
theorem jV(b:Ah)(u:Cd)(h:s.heap.IsTuple l items)(hu:B.units<BE):Cf B s (.int b u) (.ref l) Ad:=⟨RcAt.int_tuple b u h hu,EqAt.int_tuple b u h hu,RcNeAt.int_tuple b u h hu⟩
theorem kM(b:Ag)(u:Cd)(h:s.heap.IsTuple l items)(hu:B.units<BE):Cf B s (.ref l) (.str b u) Ad:=⟨RcAt.tuple_str b u h hu,EqAt.tuple_str b u h hu,RcNeAt.tuple_str b u h hu⟩
theorem kS(b:Ag)(u:Cd)(h:s.heap.IsTuple l items)(hu:B.units<BE):Cf B s (.str b u) (.ref l) Ad:=⟨RcAt.str_tuple b u h hu,EqAt.str_tuple b u h hu,RcNeAt.str_tuple b u h hu⟩
theorem jQ(h:s.heap.IsList l items)(h2:s.heap.IsTuple b items2)(hu:B.units<BE):Cf B s (.ref l) (.ref b) Ad:=⟨RcAt.list_tuple h h2 hu,EqAt.list_tuple h h2 hu,RcNeAt.list_tuple h h2 hu⟩
theorem kP(h:s.heap.IsTuple l items)(h2:s.heap.IsList b items2)(hu:B.units<BE):Cf B s (.ref l) (.ref b) Ad:=⟨RcAt.tuple_list h h2 hu,EqAt.tuple_list h h2 hu,RcNeAt.tuple_list h h2 hu⟩
end
end
section
variable{X:Cx}{CL:ClA}{W:XW}
theorem Ik{its:A4 Aj}(x:PlainL h a its):h.IsList a its:=let ⟨o,n,e,c,_,d⟩:=x;⟨o,e,c,n,d⟩
def oF(X:Cx)(CL:ClA)(H:Hp)(s:Ao)(d:D)(u:Aj):Prop:=match d with
  |.non=>u=.none
  |.bl b=>u=.bool b
  |.int i=>∃ t,u=.int i t
  |.str x=>∃ t,u=.str x t
  |.tup ds=>∃ a xs its,u=.ref a/\Reps X.K CL H A0 xs ds/\AX xs its/\s.heap.IsTuple a its.toArray
  |.lst ds=>∃ a xs its,u=.ref a/\Reps X.K CL H A0 xs ds/\AX xs its/\s.heap.IsList a its.toArray
  |_=>AV
theorem QG(I:Inv X pI Y H s)(hd:flD n d=Ab)(r:Rep X.K CL H A0 v d)(q:Bi v u):oF X CL H s d u:=by
 cases d with
 |non=>cases r;exact q
 |bl b=>cases r;exact q
 |int b=>cases r;exact q
 |str b=>cases r;exact q
 |tup ds=>
  obtain⟨a,xs,rfl,_,sq,r⟩:=r;obtain⟨its,rv,p,_⟩:=I.tuple sq;cases q;exact⟨a,xs,its,rfl,r,rv,p⟩
 |lst ds=>
  obtain⟨a,xs,rfl,_,sq,r⟩:=r;obtain⟨its,rv,p,_⟩:=I.list sq;cases q;exact⟨a,xs,its,rfl,r,rv,Ik p⟩
 |obj=>cases n<;>cases hd
 |exc=>cases n<;>cases hd
 |dic=>cases n<;>cases hd
theorem ZZ{B:AR}{ds es:Ac D}(hl:s.heap.IsList l its.toArray)(hb:s.heap.IsList b its2.toArray)(e1:its.length=ds.length)(e2:its2.length=es.length)(hu:B.units<BE)(hs:l=b->eqDs ds es=Ab)(he:∀ j (h1:j<its.length) (h2:j<its2.length),Fv B.in1 s its[j] its2[j] (eqD (ds.getD j .non) (es.getD j .non))):Cf B s (.ref l) (.ref b) (eqDs ds es):=by
 have rc:Jg B s (.ref l) (.ref b) (eqDs ds es):=by
  by_cases hz:its.length=its2.length
  .have q:=SeqAt.RcAt.lists (e:=λj=>eqD (ds.getD j .non) (es.getD j .non)) hl hb (by simpa using hz) hu (λj h1 h2=>by simpa using he j (by simpa using h1) (by simpa using h2))
   rw[Kl (by omega)]
   have e:its.toArray.size=ds.length:=by simpa using e1
   rw[e]at q;exact q
  .rw[Kk (by omega)]
   exact SeqAt.RcAt.lists_lengths hl hb (by simpa using hz) hu
 have ne:HX B s (.ref l) (.ref b) (!eqDs ds es):=by
  by_cases hz:its.length=its2.length
  .have q:=SeqAt.RcNeAt.lists (e:=λj=>eqD (ds.getD j .non) (es.getD j .non)) hl hb (by simpa using hz) hu (λj h1 h2=>by simpa using he j (by simpa using h1) (by simpa using h2))
   rw[Kl (by omega)]
   have e:its.toArray.size=ds.length:=by simpa using e1
   rw[e]at q;exact q
  .rw[Kk (by omega)]
   exact SeqAt.RcNeAt.lists_lengths hl hb (by simpa using hz) hu
 refine⟨rc,?_,ne⟩;by_cases hlb:l=b
 .rw[hs hlb,hlb];exact VL _
 .exact VJ hlb rc
theorem ZY{B:AR}{ds es:Ac D}(hl:s.heap.IsTuple l its.toArray)(hb:s.heap.IsTuple b its2.toArray)(e1:its.length=ds.length)(e2:its2.length=es.length)(hu:B.units<BE)(hs:l=b->eqDs ds es=Ab)(he:∀ j (h1:j<its.length) (h2:j<its2.length),Fv B.in1 s its[j] its2[j] (eqD (ds.getD j .non) (es.getD j .non))):Cf B s (.ref l) (.ref b) (eqDs ds es):=by
 have rc:Jg B s (.ref l) (.ref b) (eqDs ds es):=by
  have q:=SeqAt.RcAt.tuples (e:=λj=>eqD (ds.getD j .non) (es.getD j .non)) hl hb hu (λj h1 h2=>by simpa using he j (by simpa using h1) (by simpa using h2))
  have e:its.toArray.size=ds.length:=by simpa using e1
  have e':its2.toArray.size=es.length:=by simpa using e2
  rw[e,e']at q;by_cases hz:ds.length=es.length
  .rw[Kl hz];rw[hz,UG,Ee,Ub]at q;rw[hz];exact q
  .rw[Kk hz];rw[Cr.mpr hz,Hb]at q;exact q
 have ne:HX B s (.ref l) (.ref b) (!eqDs ds es):=by
  have q:=SeqAt.RcNeAt.tuples (e:=λj=>eqD (ds.getD j .non) (es.getD j .non)) hl hb hu (λj h1 h2=>by simpa using he j (by simpa using h1) (by simpa using h2))
  have e:its.toArray.size=ds.length:=by simpa using e1
  have e':its2.toArray.size=es.length:=by simpa using e2
  rw[e,e']at q;by_cases hz:ds.length=es.length
  .rw[Kl hz];rw[hz,UG,Ee,Ub]at q;rw[hz];exact q
  .rw[Kk hz];rw[Cr.mpr hz,Hb]at q;exact q
 refine⟨rc,?_,ne⟩;by_cases hlb:l=b
 .rw[hs hlb,hlb];exact VL _
 .exact VJ hlb rc
theorem Kx{pI:Pn}{Y:L2.St}{H:Hp}{s:Ao}(I:Inv X pI Y H s):∀(n:Af)(d e:D)(v w':V)(u t:Aj)(B:AR),flD n d=Ab->flD n e=Ab->Rep X.K CL H A0 v d->Rep X.K CL H A0 w' e->Bi v u->Bi w' t->B.units+n<BE->Cf B s u t (eqD d e)
  |n,d,e,v,w',u,t,B,hd,he,r,q,rv,rw',hu=>by
    have hu0:B.units<BE:=by omega
    have sd:=QG I hd r rv;have se:=QG I he q rw'
    match d,e,sd,se with
    |.non,.non,s1,s2=>cases s1;cases s2;exact jM
    |.non,.bl b,s1,s2=>cases s1;cases s2;exact jP b
    |.non,.int b,s1,s2=>cases s1;obtain⟨_,rfl⟩:=s2;exact jO b _
    |.non,.str b,s1,s2=>cases s1;obtain⟨_,rfl⟩:=s2;exact jL b _
    |.non,.tup es,s1,s2=>cases s1;obtain⟨_,_,_,rfl,_,_,p⟩:=s2;exact jK p hu0
    |.non,.lst es,s1,s2=>cases s1;obtain⟨_,_,_,rfl,_,_,p⟩:=s2;exact jN p hu0
    |.bl a,.non,s1,s2=>cases s1;cases s2;exact kD a
    |.bl a,.bl b,s1,s2=>cases s1;cases s2;exact kG a b
    |.bl a,.int b,s1,s2=>cases s1;obtain⟨_,rfl⟩:=s2;exact kF a b _
    |.bl a,.str b,s1,s2=>cases s1;obtain⟨_,rfl⟩:=s2;exact kC a b _
    |.bl a,.tup es,s1,s2=>cases s1;obtain⟨_,_,_,rfl,_,_,p⟩:=s2;exact kB a p hu0
    |.bl a,.lst es,s1,s2=>cases s1;obtain⟨_,_,_,rfl,_,_,p⟩:=s2;exact kE a p hu0
    |.int a,.non,s1,s2=>obtain⟨_,rfl⟩:=s1;cases s2;exact jX a _
    |.int a,.bl b,s1,s2=>obtain⟨_,rfl⟩:=s1;cases s2;exact kA b a _
    |.int a,.int b,s1,s2=>obtain⟨_,rfl⟩:=s1;obtain⟨_,rfl⟩:=s2;exact jZ a _ b _
    |.int a,.str b,s1,s2=>obtain⟨_,rfl⟩:=s1;obtain⟨_,rfl⟩:=s2;exact jW a _ b _
    |.int a,.tup es,s1,s2=>obtain⟨_,rfl⟩:=s1;obtain⟨_,_,_,rfl,_,_,p⟩:=s2;exact jV a _ p hu0
    |.int a,.lst es,s1,s2=>obtain⟨_,rfl⟩:=s1;obtain⟨_,_,_,rfl,_,_,p⟩:=s2;exact jY a _ p hu0
    |.str a,.non,s1,s2=>obtain⟨_,rfl⟩:=s1;cases s2;exact kU a _
    |.str a,.bl b,s1,s2=>obtain⟨_,rfl⟩:=s1;cases s2;exact kY b a _
    |.str a,.int b,s1,s2=>obtain⟨_,rfl⟩:=s1;obtain⟨_,rfl⟩:=s2;exact kX a _ b _
    |.str a,.str b,s1,s2=>obtain⟨_,rfl⟩:=s1;obtain⟨_,rfl⟩:=s2;exact kT a _ b _
    |.str a,.tup es,s1,s2=>obtain⟨_,rfl⟩:=s1;obtain⟨_,_,_,rfl,_,_,p⟩:=s2;exact kS a _ p hu0
    |.str a,.lst es,s1,s2=>obtain⟨_,rfl⟩:=s1;obtain⟨_,_,_,rfl,_,_,p⟩:=s2;exact kW a _ p hu0
    |.tup ds,.non,s1,s2=>cases s2;obtain⟨_,_,_,rfl,_,_,p⟩:=s1;exact kO p hu0
    |.tup ds,.bl b,s1,s2=>cases s2;obtain⟨_,_,_,rfl,_,_,p⟩:=s1;exact kR b p hu0
    |.tup ds,.int b,s1,s2=>obtain⟨_,rfl⟩:=s2;obtain⟨_,_,_,rfl,_,_,p⟩:=s1;exact kQ b _ p hu0
    |.tup ds,.str b,s1,s2=>obtain⟨_,rfl⟩:=s2;obtain⟨_,_,_,rfl,_,_,p⟩:=s1;exact kM b _ p hu0
    |.tup ds,.lst es,s1,s2=>obtain⟨_,_,_,rfl,_,_,p⟩:=s1;obtain⟨_,_,_,rfl,_,_,p2⟩:=s2;exact kP p p2 hu0
    |.lst ds,.non,s1,s2=>cases s2;obtain⟨_,_,_,rfl,_,_,p⟩:=s1;exact jS p hu0
    |.lst ds,.bl b,s1,s2=>cases s2;obtain⟨_,_,_,rfl,_,_,p⟩:=s1;exact jU b p hu0
    |.lst ds,.int b,s1,s2=>obtain⟨_,rfl⟩:=s2;obtain⟨_,_,_,rfl,_,_,p⟩:=s1;exact jT b _ p hu0
    |.lst ds,.str b,s1,s2=>obtain⟨_,rfl⟩:=s2;obtain⟨_,_,_,rfl,_,_,p⟩:=s1;exact jR b _ p hu0
    |.lst ds,.tup es,s1,s2=>obtain⟨_,_,_,rfl,_,_,p⟩:=s1;obtain⟨_,_,_,rfl,_,_,p2⟩:=s2;exact jQ p p2 hu0
    |.tup ds,.tup es,s1,s2=>
      match n,hd,he,hu with
      |n+1,hd,he,hu=>
        obtain⟨a,xs,its,rfl,r1,v1,p1⟩:=s1;obtain⟨b,ys,its2,rfl,r2,v2,p2⟩:=s2;have l1:=v1.length;have l2:=r1.length;have l3:=v2.length;have l4:=r2.length
        refine ZY p1 p2 (by omega) (by omega) hu0 (λhab=>?_) λj h1 h2=>?_
        · have e1:v=.ref a:=Bi.inj rv rfl;have e2:w'=.ref b:=Bi.inj rw' rfl;subst e1 e2 hab;have z:=Lk I (n+1) _ _ hd he r q
          injection z with z
          rw[z];exact eqDs_refl n es he
        · obtain⟨x,rx,qx⟩:=IX r1 v1 h1;obtain⟨y,ry,qy⟩:=IX r2 v2 h2;exact(Kx I n _ _ x y _ _ B.in1 (IS hd j) (IS he j) rx ry qx qy (by show B.units+1+n<BE;omega)).2.1
    |.lst ds,.lst es,s1,s2=>
      match n,hd,he,hu with
      |n+1,hd,he,hu=>
        obtain⟨a,xs,its,rfl,r1,v1,p1⟩:=s1;obtain⟨b,ys,its2,rfl,r2,v2,p2⟩:=s2;have l1:=v1.length;have l2:=r1.length;have l3:=v2.length;have l4:=r2.length
        refine ZZ p1 p2 (by omega) (by omega) hu0 (λhab=>?_) λj h1 h2=>?_
        · have e1:v=.ref a:=Bi.inj rv rfl;have e2:w'=.ref b:=Bi.inj rw' rfl;subst e1 e2 hab;have z:=Lk I (n+1) _ _ hd he r q
          injection z with z
          rw[z];exact eqDs_refl n es he
        · obtain⟨x,rx,qx⟩:=IX r1 v1 h1;obtain⟨y,ry,qy⟩:=IX r2 v2 h2;exact(Kx I n _ _ x y _ _ B.in1 (IS hd j) (IS he j) rx ry qx qy (by show B.units+1+n<BE;omega)).2.1
    |.obj _ _,_,s1,_=>exact s1.elim
    |.exc _ _,_,s1,_=>exact s1.elim
    |.dic _,_,s1,_=>exact s1.elim
    |_,.obj _ _,_,s2=>exact s2.elim
    |_,.exc _ _,_,s2=>exact s2.elim
    |_,.dic _,_,s2=>exact s2.elim
end
section
variable{X:Cx}{CL:ClA}{W:XW}
theorem LA(I:Inv X pI Y H s){ds:Ac D}(B:AR)(hd:flD n d=Ab)(hs:ds.all (flD n)=Ab)(r:Reps X.K CL H A0 xs ds)(rv:AX xs its)(q:Rep X.K CL H A0 v d)(qv:Bi v u)(hu:B.units+n<BE):∃ e:Aj->Ai,(∀ y,y∈its.toArray->Fv B s y u (e y))/\its.toArray.any e=ds.any λy=>eqD y d:=by
 have l1:=rv.length;have l2:=r.length
 have key:∀ y,y∈its->∃ k:Ai,Fv B s y u k/\∀ j (h:j<its.length),its[j]=y->eqD (ds.getD j .non) d=k:=λy hy=>by
  obtain⟨j,hj,rfl⟩:=FH hy;obtain⟨x,rx,qx⟩:=IX r rv hj;refine⟨eqD (ds.getD j .non) d,(Kx I n _ _ x v _ _ B (IS hs j) hd rx q qx qv hu).2.1,λj' hj' e=>?_⟩
  obtain⟨x',rx',qx'⟩:=IX r rv hj';rw[e]at qx';have z:=Bi.inj qx qx';subst z;rw[Lk I n _ _ (IS hs j') (IS hs j) rx' rx]
 have key2:∀ y,∃ k:Ai,y∈its->Fv B s y u k/\∀ j (h:j<its.length),its[j]=y->eqD (ds.getD j .non) d=k:=λy=>by
  by_cases hy:y∈its
  .obtain⟨k,hk⟩:=key y hy;exact⟨k,λ_=>hk⟩
  .exact⟨Ab,λh=>absurd h hy⟩
 refine⟨λy=>Classical.choose (key2 y),λy hy=>(Fn (key2 y) (by simpa using hy)).1,?_⟩
 rw[Uc];simp only[List.any_toArray,D8];constructor
 .rintro⟨y,hy,hk⟩;obtain⟨j,hj,rfl⟩:=FH hy;have z:=(Fn (key2 its[j]) hy).2 j hj rfl;rw[hk]at z;refine⟨ds.getD j .non,?_,z⟩;rw[Dc,BF (by omega)]
  exact Gv _
 .rintro⟨y,hy,hk⟩;obtain⟨j,hj,rfl⟩:=FH hy;have hj':j<its.length:=by omega
  refine⟨its[j],Gv _,?_⟩;have z:=(Fn (key2 its[j]) (Gv _)).2 j hj' rfl;rw[<-z,Dc,BF hj];exact hk
theorem Ld{g:Ah->Ah->Ai}(ho:OpR X (Co op) (rI0 λi j=>.bl (g i j)))(hg:∀ dx dy,(∃ i j,dx=.int i/\dy=.int j/\Bs op dx dy=.ok (.bl (g i j)))\/Bs op dx dy=.bad):OpD X CL W (Co op) (Bs op):=by
 intro A pI s Y H x y v u Q I rx ry ⟨hA,dx,dy,hx,hy,p⟩;rcases hg dx dy with ⟨i,j,rfl,rfl,e⟩|e
 .have ex:=hx.int_of;have ey:=hy.int_of
  subst ex ey;rw[e]at p;exact ho pI s Y H _ _ v u Q I rx ry ⟨i,j,rfl,rfl,p _ H (Ax.refl H) rfl⟩
 .rw[e]at p;exact p.elim
theorem Rz{x:V}(h:B9 X.K CL H A x d)(hd:d≠.non):x≠.non:=by
 rintro rfl;have h:=h.plain;cases d with
 |non=>exact hd rfl
 |tup=>obtain⟨_,_,e,_⟩:=h;cases e
 |lst=>obtain⟨_,_,e,_⟩:=h;cases e
 |obj=>obtain⟨_,_,_,_,e,_⟩:=h;cases e
 |exc=>obtain⟨_,_,_,e,_⟩:=h;cases e
 |dic=>exact h.elim
 |_=>cases h
theorem Lm(hu:X.A.units+64<BE)(op:CJ):OpD X CL W (Co op) (Bs op):=by
 cases op with
 |Eq=>
  intro A pI s Y H x y v u Q I rx ry ⟨hA,dx,dy,hx,hy,p⟩;rw[mE]at p;split at p
  .rename_i h;simp only[Al]at h;exact(Kx I 5 dx dy x y v u X.A h.1 h.2 hx.plain hy.plain rx ry (by omega)).1 X.prog X.w X.xe _ ⟨.bl _,H,I,rfl,p _ H (Ax.refl H) rfl⟩
  .exact p.elim
 |NotEq=>
  intro A pI s Y H x y v u Q I rx ry ⟨hA,dx,dy,hx,hy,p⟩;rw[lX]at p;split at p
  .rename_i h;simp only[Al]at h;exact(Kx I 5 dx dy x y v u X.A h.1 h.2 hx.plain hy.plain rx ry (by omega)).2.2 X.prog X.w X.xe _ ⟨.bl _,H,I,rfl,p _ H (Ax.refl H) rfl⟩
  .exact p.elim
 |Lt=>
  refine Ld lQ λdx dy=>?_
  cases dx with
  |int i=>
   cases dy with
   |int j=>exact .inl ⟨i,j,rfl,rfl,rfl⟩
   |_=>exact .inr rfl
  |_=>exact .inr rfl
 |LtE=>
  refine Ld lR λdx dy=>?_
  cases dx with
  |int i=>
   cases dy with
   |int j=>exact .inl ⟨i,j,rfl,rfl,rfl⟩
   |_=>exact .inr rfl
  |_=>exact .inr rfl
 |Gt=>
  refine Ld lS λdx dy=>?_
  cases dx with
  |int i=>
   cases dy with
   |int j=>exact .inl ⟨i,j,rfl,rfl,rfl⟩
   |_=>exact .inr rfl
  |_=>exact .inr rfl
 |GtE=>
  refine Ld lT λdx dy=>?_
  cases dx with
  |int i=>
   cases dy with
   |int j=>exact .inl ⟨i,j,rfl,rfl,rfl⟩
   |_=>exact .inr rfl
  |_=>exact .inr rfl
 |In=>
  intro A pI s Y H x y v u Q I rx ry ⟨hA,dx,dy,hx,hy,p⟩;cases dy with
  |lst es=>
   rw[mO]at p;split at p
   .rename_i h;simp only[Al]at h;obtain⟨a,xs,e,_,sq,r⟩:=hy.plain;subst e;cases ry;obtain⟨its,rv,pl,_⟩:=I.list sq;obtain⟨e,he,ha⟩:=LA I (n:=5) X.A.in1 h.1 h.2 r rv hx.plain rx (by show X.A.units+1+5<BE;omega)
    refine SeqAt.in_listAt e (Ik pl) he ?_;rw[ha];exact⟨.bl _,H,I,rfl,p _ H (Ax.refl H) rfl⟩
   .exact p.elim
  |tup es=>
   rw[mM]at p;split at p
   .rename_i h;simp only[Al]at h;obtain⟨a,xs,e,_,sq,r⟩:=hy.plain;subst e;cases ry;obtain⟨its,rv,pl,_⟩:=I.tuple sq;obtain⟨e,he,ha⟩:=LA I (n:=5) X.A.in1 h.1 h.2 r rv hx.plain rx (by show X.A.units+1+5<BE;omega)
    refine SeqAt.in_tupleAt e pl he ?_;rw[ha];exact⟨.bl _,H,I,rfl,p _ H (Ax.refl H) rfl⟩
   .exact p.elim
  |dic kvs=>exact hy.plain.elim
  |_=>exact p.elim
 |NotIn=>
  intro A pI s Y H x y v u Q I rx ry ⟨hA,dx,dy,hx,hy,p⟩;cases dy with
  |lst es=>
   rw[lW]at p;split at p
   .rename_i h;simp only[Al]at h;obtain⟨a,xs,e,_,sq,r⟩:=hy.plain;subst e;cases ry;obtain⟨its,rv,pl,_⟩:=I.list sq;obtain⟨e,he,ha⟩:=LA I (n:=5) X.A.in1 h.1 h.2 r rv hx.plain rx (by show X.A.units+1+5<BE;omega)
    refine SeqAt.notIn_listAt e (Ik pl) he ?_;rw[ha];exact⟨.bl _,H,I,rfl,p _ H (Ax.refl H) rfl⟩
   .exact p.elim
  |tup es=>
   rw[lV]at p;split at p
   .rename_i h;simp only[Al]at h;obtain⟨a,xs,e,_,sq,r⟩:=hy.plain;subst e;cases ry;obtain⟨its,rv,pl,_⟩:=I.tuple sq;obtain⟨e,he,ha⟩:=LA I (n:=5) X.A.in1 h.1 h.2 r rv hx.plain rx (by show X.A.units+1+5<BE;omega)
    refine SeqAt.notIn_tupleAt e pl he ?_;rw[ha];exact⟨.bl _,H,I,rfl,p _ H (Ax.refl H) rfl⟩
   .exact p.elim
  |_=>exact p.elim
 |Is=>
  intro A pI s Y H x y v u Q I rx ry ⟨hA,dx,dy,hx,hy,p⟩;cases dy with
  |non=>
   have ey:=hy.non_of;subst ey;refine eG pI s Y H _ _ v u Q I rx ry ⟨rfl,?_⟩;cases dx with
   |non=>
    have ex:=hx.non_of;subst ex;exact p _ H (Ax.refl H) rfl
   |exc=>exact p.elim
   |dic=>exact p.elim
   |_=>rw[Cq (Rz hx (by simp))];exact p _ H (Ax.refl H) rfl
  |bl b=>
   cases dx with
   |bl a=>
    have ey:=hy.bl_of;have ex:=hx.bl_of;subst ex ey;cases rx;cases ry;refine wpAny_is_plain rfl ⟨.bl (a==b),H,I,?_,p _ H (Ax.refl H) rfl⟩;cases a<;>cases b<;>rfl
   |_=>exact p.elim
  |_=>cases dx<;>exact p.elim
 |IsNot=>
  intro A pI s Y H x y v u Q I rx ry ⟨hA,dx,dy,hx,hy,p⟩;cases dy with
  |non=>
   have ey:=hy.non_of;subst ey;refine ZG pI s Y H _ _ v u Q I rx ry ⟨rfl,?_⟩;cases dx with
   |non=>
    have ex:=hx.non_of;subst ex;exact p _ H (Ax.refl H) rfl
   |exc=>exact p.elim
   |dic=>exact p.elim
   |_=>rw[Cq (Rz hx (by simp))];exact p _ H (Ax.refl H) rfl
  |bl b=>
   cases dx with
   |bl a=>
    have ey:=hy.bl_of;have ex:=hx.bl_of;subst ex ey;cases rx;cases ry;refine wpAny_isNot_plain rfl ⟨.bl (!(a==b)),H,I,?_,p _ H (Ax.refl H) rfl⟩;cases a<;>cases b<;>rfl
   |_=>exact p.elim
  |_=>cases dx<;>exact p.elim
end
section
variable{X:Cx}{CL:ClA}{W:XW}{a b c:Am}{fa fb fc:Rho->R D}{pos:Az}
theorem Cw.bind{f:D->R Ai}{Q:Ai->Hp->Prop}{Q':VK}(h:Cw W H (r.bind f) Q)(k:∀ d v H',r=.ok d->Ax H H'->Rp H' v d->Cw W H' (f d) Q->Q' v H'):AU Rp W H r Q':=by
 cases r with
 |ok d=>exact λv H2 s2 q=>k d v H2 rfl s2 q (Cw.same s2 h)
 |exn x=>exact h
 |bad=>exact h
theorem Cw.bindB{r:R Ai}{f:Ai->R Ai}{Q:Ai->Hp->Prop}{Q':Ai->Hp->Prop}(h:Cw W H (r.bind f) Q)(k:∀ b H',r=.ok b->Ax H H'->Cw W H' (f b) Q->Q' b H'):Cw W H r Q':=by
 cases r with
 |ok d=>exact λH2 s2=>k d H2 rfl s2 (Cw.same s2 h)
 |exn x=>exact h
 |bad=>exact h
theorem GL.bind{Rp:Hp->Ac V->Ac D->Prop}{r:R (Ac D)}{f:Ac D->R D}{Q':Ac V->Hp->Prop}(h:AU Rq W H (r.bind f) Q)(k:∀ d v H',r=.ok d->Ax H H'->Rp H' v d->AU Rq W H' (f d) Q->Q' v H'):GL Rp W H r Q':=by
 cases r with
 |ok d=>exact λv H2 s2 q=>k d v H2 rfl s2 q (AU.same s2 h)
 |exn x=>exact h
 |bad=>exact h
theorem eK(ha:ST X CL W a fa):SE X CL W (.UnaryOp .USub a pos) (λU=>(fa U).bind λx=>unD .USub x):=λA=>PE.weak (jJ bZ (ha A)) λY H Q ⟨hA,U,g,p⟩=>⟨hA,U,g,AU.bind p λd v H1 _ s1 r1 p1=>by
 cases d with
 |int i=>
  have e:=r1.int_of;subst e;exact⟨i,rfl,p1 _ H1 (Ax.refl H1) rfl⟩
 | _=>exact p1.elim⟩
theorem M3{f:Ai->R D}(h:AU Rq W H ((Di d).bind f) Q):∃ c,d=.bl c/\AU Rq W H (f c) Q:=by
 cases d with
 |bl c=>exact⟨c,rfl,h⟩
 |_=>exact h.elim
theorem RM(ha:ST X CL W a fa):SE X CL W (.UnaryOp .Not a pos) (λU=>(fa U).bind λx=>(Di x).bind λb=>.ok (.bl (!b))):=λA=>PE.weak (dX (ha A)) λY H Q ⟨hA,U,g,p⟩=>⟨hA,U,g,AU.bind p λd v H1 _ s1 r1 p1=>by
 obtain⟨c,rfl,p2⟩:=M3 p1;exact⟨c,r1.bl_of,p2 _ H1 (Ax.refl H1) rfl⟩⟩
theorem NJ{op}(ha:SE X CL W a fa):SE X CL W (.BoolOp op [a] pos) fa:=λA=>dW (ha A)
theorem RQ{rest:Ac Am}(ha:SE X CL W a fa)(hb:SE X CL W (.BoolOp .And (b::rest) pos) fb):SE X CL W (.BoolOp .And (a::b::rest) pos) (λU=>(fa U).bind λx=>(Di x).bind λc=>if c=Ab then fb U else .ok (.bl Ad)):=
 λA=>PE.weak (eB (ha A) (hb A)) λY H Q ⟨hA,U,g,p⟩=>⟨hA,U,g,AU.bind p λd v H1 _ s1 r1 p1=>by
  obtain⟨c,rfl,p2⟩:=M3 p1;refine⟨c,r1,?_⟩;cases c with
  |true=>exact⟨hA.same s1,U,g.same s1,p2⟩
  | false=>exact p2 _ H1 (Ax.refl H1) rfl⟩
theorem kK{rest:Ac Am}(ha:SE X CL W a fa)(hb:SE X CL W (.BoolOp .Or (b::rest) pos) fb):SE X CL W (.BoolOp .Or (a::b::rest) pos) (λU=>(fa U).bind λx=>(Di x).bind λc=>if c=Ab then .ok (.bl Ab) else fb U):=
 λA=>PE.weak (lK (ha A) (hb A)) λY H Q ⟨hA,U,g,p⟩=>⟨hA,U,g,AU.bind p λd v H1 _ s1 r1 p1=>by
  obtain⟨c,rfl,p2⟩:=M3 p1;refine⟨c,r1,?_⟩;cases c with
  |false=>exact⟨hA.same s1,U,g.same s1,p2⟩
  | true=>exact p2 _ H1 (Ax.refl H1) rfl⟩
theorem getL_at{xs:Ac D}{i:Ah}(h:DA xs i=.ok d):∃ k,plD xs.length i=Aa k/\xs[k]?=Aa d:=by
 unfold DA at h;split at h
 .rename_i k e;split at h
  .rename_i d' e';cases h;exact⟨k,e,e'⟩
  .cases h
 .cases h
theorem Jt{xs:Ac D}{i:Ah}{x:Ex}(h:DA xs i=.exn x):AV:=by
 unfold DA at h;split at h
 .split at h<;>cases h
 .cases h
theorem Rh{ds:Ac D}{i:Ah}(r:Reps K CL H A xs ds)(h:DA ds i=.ok d):∃ v,atI xs i=Aa v/\Rep K CL H A v d:=by
 obtain⟨k,e,q⟩:=getL_at h;obtain⟨v,hv,rv⟩:=r.get q;refine⟨v,?_,rv⟩;unfold atI;have:ixN xs.length i=Aa k:=by rw[r.length];exact e
 rw[this];exact hv
theorem aW{z:Ag}{i:Ah}(h:DA (JU z) i=.ok d):∃ c,atI z.cps.toList i=Aa c/\d=.str ⟨#[c]⟩:=by
 obtain⟨k,e,q⟩:=getL_at h;unfold JU at e q;rw[BD]at e;rw[CO]at q;cases hc:z.cps.toList[k]? with
 |none=>rw[hc]at q;cases q
 |some c=>
  rw[hc]at q;refine⟨c,?_,(Bf q).symm⟩;unfold atI;have:ixN z.cps.toList.length i=Aa k:=e;rw[this];exact hc
theorem Pc(h:B5 n=Ab):n<=sizeLine:=by
 unfold B5 at h;have:=Bt h;rw[BX];omega
theorem eR(hs:Nx b)(ha:ST X CL W a fa)(hb:ST X CL W b fb):SE X CL W (.Subscript a b pos) (λU=>(fa U).bind λx=>(fb U).bind λy=>CN x y):=
 λA=>PE.weak (lL (r:=rIx X.K) gN (ha A) (hb A) hs) λY H Q h=>by
  obtain⟨hA,U,g,h⟩:=op2 h;refine⟨hA,U,g,?_⟩;cases e:fa U with
  |bad=>rw[e]at h;exact h
  |exn x=>rw[e]at h;exact h
  |ok dx0=>
   rw[e]at h;intro x H1 s1 r1;obtain⟨hA1,U1,g1,h1⟩:=h x H1 s1 r1;refine⟨hA1,U1,g1,?_⟩;cases e1:fb U1 with
   |bad=>rw[e1]at h1;exact h1
   |exn x=>rw[e1]at h1;exact h1
   |ok dy0=>
    rw[e1]at h1;intro y H2 s2 r2;obtain⟨hA2,dx,dy,rx,ry,p⟩:=h1 y H2 s2 r2;cases dy with
    |int i=>
     have ey:=ry.int_of;subst ey;cases dx with
     |lst ds=>
      obtain⟨q,xs,rfl,sq,r⟩:=rx.lst_of;rw[lG]at p;cases e2:DA ds i with
      |ok d=>
       rw[e2]at p;obtain⟨v,hv,rv⟩:=Rh r e2;exact .inl ⟨q,xs,i,v,rfl,rfl,sq,hv,p v H2 (Ax.refl H2) rv⟩
      |exn x=>exact(Jt e2).elim
      |bad=>rw[e2]at p;exact p.elim
     |tup ds=>
      obtain⟨q,xs,rfl,_,sq,r⟩:=rx.tup_of;rw[lF]at p;cases e2:DA ds i with
      |ok d=>
       rw[e2]at p;obtain⟨v,hv,rv⟩:=Rh r e2;exact .inr (.inl ⟨q,xs,i,v,rfl,rfl,sq,hv,p v H2 (Ax.refl H2) rv⟩)
      |exn x=>exact(Jt e2).elim
      |bad=>rw[e2]at p;exact p.elim
     |str z=>
      have ex:=rx.str_of;subst ex;have p':AU (λH=>Rep X.K CL H A) W H2 (if B5 z.length=Ab then DA (JU z) i else .bad) Q:=p
      split at p'
      .rename_i hz;cases e2:DA (JU z) i with
       |ok d=>
        rw[e2]at p';obtain⟨c,hc,rfl⟩:=aW e2;exact .inr (.inr ⟨z,i,c,rfl,rfl,Pc hz,hc,p' _ H2 (Ax.refl H2) rfl⟩)
       |exn x=>exact(Jt e2).elim
       |bad=>rw[e2]at p';exact p'.elim
      .exact p'.elim
     |dic=>exact rx.plain.elim
     |_=>exact p.elim
    |_=>cases dx<;>first|exact p.elim|exact rx.plain.elim
theorem RU:SA X CL W [] (λ_=>.ok []):=λA=>PA.weak E3 λY H Q ⟨hA,U,g,p⟩=>p [] H (Ax.refl H) trivial
theorem QJ(ha:SE X CL W a fa)(hs:SA X CL W es fs)(hst:Aq (a::es) X.env=(Ad,eval a X.env)::Aq es X.env):SA X CL W (a::es) (λU=>(fa U).bind λx=>(fs U).bind λxs=>.ok (x::xs)):=
 λA=>PA.weak (Dz (ha A) (hs A) hst) λY H Q ⟨hA,U,g,p⟩=>by
  dsimp only at p;refine⟨hA,U,g,?_⟩;cases e:fa U with
  |bad=>rw[e]at p;exact p
  |exn x=>rw[e]at p;exact p
  |ok d=>
   rw[e]at p;intro v H1 s1 r1;refine⟨hA.same s1,U,g.same s1,?_⟩;cases e1:fs U with
   |bad=>rw[R.bind_ok,e1]at p;exact p
   |exn x=>rw[R.bind_ok,e1]at p;exact λH2 s2=>p H2 (s1.trans s2)
   |ok ds=>
    rw[R.bind_ok,e1]at p;exact λvs H2 s2 r2=>p (v::vs) H2 (s1.trans s2) ⟨r1.same s2,r2⟩
theorem RK(hs:SA X CL W es fs)(hz:∀ U ds,fs U=.ok ds->ds.length<=100000):SE X CL W (.Tuple es k pos) (λU=>(fs U).bind λxs=>.ok (.tup xs)):=
 λA=>PE.weak (RZ (hs A)) λY H Q ⟨hA,U,g,p⟩=>⟨hA,U,g,GL.bind p λds vs H1 e s1 r1 p1=>⟨by
  rw[r1.length,BX];have:=hz U ds e;omega,λq hq=>p1 _ _ (Eo hq _) (Jy (hA.same s1) hq r1)⟩⟩
def Jc(W:XW)(H:Hp)(r:R (An Ah))(Q:An Ah->Hp->Prop):Prop:=match r with
  |.ok o=>∀ H',Ax H H'->Q o H'
  |.exn x=>∀ H',Ax H H'->W x H'
  |.bad=>AV
theorem Jc.bind{r:R (An Ah)}{f:An Ah->R D}(h:AU Rq W H (r.bind f) Q)(k:∀ o H',r=.ok o->Ax H H'->AU Rq W H' (f o) Q->Q' o H'):Jc W H r Q':=by
 cases r with
 |ok d=>exact λH2 s2=>k d H2 rfl s2 (AU.same s2 h)
 |exn x=>exact h
 |bad=>exact h
def SO(X:Cx)(CL:ClA)(W:XW)(e:An Am)(f:Rho->R (An Ah)):Prop:=∀ A,PO X e (λY H Q=>AOk H A/\∃ U,Good X.K CL A U Y H/\Jc W H (f U) Q)
theorem PO.weak{e:An Am}{t t':TO}(h:PO X e t)(k:∀ Y H Q,t' Y H Q->t Y H Q):PO X e t':=λpI s Y H Q I q=>h pI s Y H Q I (k _ _ _ q)
theorem YX:SO X CL W Ae (λ_=>.ok Ae):=λA=>PO.weak aE λY H Q ⟨hA,U,g,p⟩=>p H (Ax.refl H)
theorem YW(ha:ST X CL W a fa):SO X CL W (Aa a) (λU=>(fa U).bind λd=>(EH d).bind λi=>.ok (Aa i)):=λA=>PO.weak (aD (ha A)) λY H Q ⟨hA,U,g,p⟩=>by
 dsimp only at p;refine⟨hA,U,g,?_⟩;cases e:fa U with
 |bad=>rw[e]at p;exact p
 |exn x=>rw[e]at p;exact p
 |ok d=>
  rw[e]at p;intro v H1 s1 r1;cases d with
  |int i=>exact⟨i,r1.int_of,p H1 s1⟩
  |_=>exact p.elim
theorem Q7{ds:Ac D}(lo hi:An Ah)(r:Reps K CL H A xs ds):Reps K CL H A (Iy xs lo hi) (JT ds lo hi):=by
 unfold Iy JT;have e:∀ d o,HT.sIx xs.length d o=HH ds.length d o:=λd o=>by rw[r.length];cases o<;>rfl
 rw[e,e,r.length];exact(r.drop _).take _
end
section
variable{X:Cx}{CL:ClA}{W:XW}{a b c:Am}{fa fb fc:Rho->R D}{pos:Az}
def Fk(K:Fg)(CL:ClA)(H:Hp)(A:Ak->Prop):Ac V->Ac D->Prop
 |[],[]=>GH
 |v::vs,d::ds=>B9 K CL H A v d/\Fk K CL H A vs ds
 |_,_=>AV
theorem Fk.same{K:Fg}{H H':Hp}{A:Ak->Prop}(s:Ax H H'):∀{vs:Ac V}{ds:Ac D},Fk K CL H A vs ds->Fk K CL H' A vs ds
 |[],[],h=>h
 |_::_,_::_,h=>⟨h.1.same s,Fk.same s h.2⟩
 |[],_::_,h=>h.elim
 |_::_,[],h=>h.elim
theorem Fk.one(h:Fk K CL H A vs [d]):∃ v,vs=[v]/\B9 K CL H A v d:=by
 cases vs with
 |nil=>exact h.elim
 |cons v vs=>
  cases vs with
  |nil=>exact⟨v,rfl,h.1⟩
  |cons=>exact h.2.elim
theorem Fk.two{e:D}(h:Fk K CL H A vs [d,e]):∃ v w',vs=[v,w']/\B9 K CL H A v d/\B9 K CL H A w' e:=by
 cases vs with
 |nil=>exact h.elim
 |cons v vs=>
  cases vs with
  |nil=>exact h.2.elim
  |cons w' vs=>
   cases vs with
   |nil=>exact⟨v,w',rfl,h.1,h.2.1⟩
   |cons=>exact h.2.2.elim
def SAT(X:Cx)(CL:ClA)(W:XW)(es:Ac Am)(f:Rho->R (Ac D)):Prop:=∀ A,PA X es (λY H Q=>AOk H A/\∃ U,Good X.K CL A U Y H/\GL (λH=>Fk X.K CL H A) W H (f U) Q)
theorem ZW:SAT X CL W [] (λ_=>.ok []):=λA=>PA.weak E3 λY H Q ⟨hA,U,g,p⟩=>p [] H (Ax.refl H) trivial
theorem Ys(ha:ST X CL W a fa)(hs:SAT X CL W es fs)(hst:Aq (a::es) X.env=(Ad,eval a X.env)::Aq es X.env):SAT X CL W (a::es) (λU=>(fa U).bind λx=>(fs U).bind λxs=>.ok (x::xs)):=
 λA=>PA.weak (Dz (ha A) (hs A) hst) λY H Q ⟨hA,U,g,p⟩=>by
  dsimp only at p;refine⟨hA,U,g,?_⟩;cases e:fa U with
  |bad=>rw[e]at p;exact p
  |exn x=>rw[e]at p;exact p
  |ok d=>
   rw[e]at p;intro v H1 s1 r1;refine⟨hA.same s1,U,g.same s1,?_⟩;cases e1:fs U with
   |bad=>rw[R.bind_ok,e1]at p;exact p
   |exn x=>rw[R.bind_ok,e1]at p;exact λH2 s2=>p H2 (s1.trans s2)
   |ok ds=>
    rw[R.bind_ok,e1]at p;exact λvs H2 s2 r2=>p (v::vs) H2 (s1.trans s2) ⟨r1.same s2,r2⟩
def HA(X:Cx)(CL:ClA)(W:XW)(f:Aj)(g:Ac D->R D):Prop:=∀ A,Gc X f (λxs H Q=>AOk H A/\∃ ds,Fk X.K CL H A xs ds/\AU (λH=>Rep X.K CL H A) W H (g ds) Q)
theorem Kv{id:Cv}{g:Ac D->R D}(hc:HA X CL W (.builtin id) g)(hg:Gl X x)(hm:X.mg x=Ae)(hv:Cu x=Aa (.builtin id))(ha:SAT X CL W (e::es) fs)(hn:x≠"__name__")(hdb:(x==("__debug__" : Ag))=Ad)(he:Aq (e::es) X.env=(Ad,eval e X.env)::Aq es X.env)(hpl:∀ pos,(Br pos (Aq es X.env)).any (·.1)=Ad):SE X CL W (.Call (.Name x p) (e::es) [] pos) (λU=>(fs U).bind g):=λA=>PE.weak (Jp (hc A) hg hm hv (ha A) hn hdb he (hpl _)) λY H Q ⟨hA,U,gd,q⟩=>⟨hA,U,gd,GL.bind q λds vs H1 _ s1 r1 p1=>⟨hA.same s1,ds,r1,p1⟩⟩
theorem RP{g:Ac D->R D}(hc:HA X CL W (.type T) g)(hg:Gl X x)(hm:X.mg x=Ae)(hv:Cu x=Aa (.type T))(ha:SAT X CL W (e::es) fs)(hn:x≠"__name__")(hdb:(x==("__debug__" : Ag))=Ad)(he:Aq (e::es) X.env=(Ad,eval e X.env)::Aq es X.env)(hpl:∀ pos,(Br pos (Aq es X.env)).any (·.1)=Ad):SE X CL W (.Call (.Name x p) (e::es) [] pos) (λU=>(fs U).bind g):=λA=>PE.weak (PU (hc A) hg hm hv (ha A) hn hdb he (hpl _)) λY H Q ⟨hA,U,gd,q⟩=>⟨hA,U,gd,GL.bind q λds vs H1 _ s1 r1 p1=>⟨hA.same s1,ds,r1,p1⟩⟩
theorem hU:HA X CL W (.builtin "len") (biD .len):=by
  intro A pI s Y H xs us Q I r ⟨hA,ds,rs,p⟩
  match ds,rs,p with
  |[.lst es],rs,p=>
    obtain⟨v,rfl,rv⟩:=rs.one;obtain⟨q,ys,rfl,sq,ry⟩:=rv.lst_of;exact O6 pI s Y H _ us Q I r ⟨q,ys,rfl,.inl sq,p _ H (Ax.refl H) (by rw[ry.length];rfl)⟩
  |[.tup es],rs,p=>
    obtain⟨v,rfl,rv⟩:=rs.one;obtain⟨q,ys,rfl,_,sq,ry⟩:=rv.tup_of;exact O6 pI s Y H _ us Q I r ⟨q,ys,rfl,.inr sq,p _ H (Ax.refl H) (by rw[ry.length];rfl)⟩
  |[.str x],rs,p=>
    obtain⟨v,rfl,rv⟩:=rs.one;have e:=rv.str_of;subst e;have p':AU (λH=>Rep X.K CL H A) W H (if B5 x.length=Ab then .ok (.int x.length) else .bad) Q:=p
    split at p'
    · rename_i h;exact WD pI s Y H _ us Q I r ⟨x,rfl,IG h,p' _ H (Ax.refl H) rfl⟩
    · exact p'.elim
  |[],_,p=>exact p.elim
  |[.non],_,p=>exact p.elim
  |[.bl _],_,p=>exact p.elim
  |[.int _],_,p=>exact p.elim
  |[.obj _ _],_,p=>exact p.elim
  |[.exc _ _],_,p=>exact p.elim
  |[.dic _],rs,p=>first|exact p.elim|(obtain⟨v,rfl,rv⟩:=rs.one;exact rv.plain.elim)
  |x::_::_,_,p=>cases x<;>exact p.elim
theorem Xn(ds:Ac D):(∃ i j,ds=[.int i,.int j])\/biD .max ds=.bad:=by
  match ds with
  |[.int i,.int j]=>exact .inl ⟨i,j,rfl⟩
  |[]=>exact .inr rfl
  |[x]=>cases x<;>exact .inr rfl
  |x::y::z::r=>cases x<;>cases y<;>exact .inr rfl
  |[x,.non]=>cases x<;>exact .inr rfl
  |[x,.bl _]=>cases x<;>exact .inr rfl
  |[x,.str _]=>cases x<;>exact .inr rfl
  |[x,.tup _]=>cases x<;>exact .inr rfl
  |[x,.lst _]=>cases x<;>exact .inr rfl
  |[x,.obj _ _]=>cases x<;>exact .inr rfl
  |[x,.exc _ _]=>cases x<;>exact .inr rfl
  |[x,.dic _]=>cases x<;>exact .inr rfl
  |[.non,.int _]=>exact .inr rfl
  |[.bl _,.int _]=>exact .inr rfl
  |[.str _,.int _]=>exact .inr rfl
  |[.tup _,.int _]=>exact .inr rfl
  |[.lst _,.int _]=>exact .inr rfl
  |[.obj _ _,.int _]=>exact .inr rfl
  |[.exc _ _,.int _]=>exact .inr rfl
  |[.dic _,.int _]=>exact .inr rfl
theorem Pw:∀(is:Ac Ah)(i:Ah),G9 i is∈i::is/\∀ a∈i::is,G9 i is<=a
 |[],i=>⟨AC,λa h=>by rw[List.mem_singleton]at h;rw[h];exact Ug _⟩
 |j::r,i=>by
  obtain⟨h1,h2⟩:=Pw r (if j<i then j else i)
  refine⟨?_,λa h=>?_⟩
  .show G9 (if j<i then j else i) r∈_
   rcases AG.mp h1 with e|e
   .rw[e];split
    .exact Aw _ AC
    .exact AC
   .exact Aw _ (Aw _ e)
  .show G9 (if j<i then j else i) r<=a
   have h0:=h2 _ AC;rcases AG.mp h with e|e
   .subst e;refine Uh h0 ?_;split<;>omega
   .rcases AG.mp e with e|e
    .subst e;refine Uh h0 ?_;split<;>omega
    .exact h2 a (Aw _ e)
theorem Ph:∀{is:Ac Ah}{its:Ac Aj},AX (is.map V.int) its->∃ xs:A4 (Ah×Cd),its.toArray=J8 xs/\xs.toList.map (·.1)=is
 |[],_,h=>by cases h;exact⟨#[],by simp[J8],rfl⟩
 |i::is,_,h=>by
  cases h with
  |cons h1 h2=>
   obtain⟨t,rfl⟩:=h1;obtain⟨xs,e1,e2⟩:=Ph h2;refine⟨((i,t)::xs.toList).toArray,?_,?_⟩
   .apply Array.toList_inj.mp
    have e1':=congrArg HQ e1;simp[J8]at e1' ⊢;exact e1'
   .simp[e2]
theorem Xh(hc:X.calm=Ab):Gc X (.builtin "min") (λxs H Q=>∃ a i is,xs=[.ref a]/\SqL X.K H a ((i::is).map V.int)/\Q (.int (G9 i is)) H):=by
 intro pI s Y H xs us Q I r h;obtain⟨a,i,is,rfl,sq,q⟩:=h;obtain⟨u,rfl,ru⟩:=GK r;cases ru;obtain⟨its,rv,pl,hz⟩:=I.list sq;obtain⟨ys,e1,e2⟩:=Ph rv;have hsz:0<ys.size:=by
  have:=congrArg Uw e2;simp at this;omega
 have hl:=pl.isList;rw[e1]at hl;refine min_intList (I.ok.hd hc) hl hsz λv h' tk hv hk=>?_
 obtain⟨t,rfl⟩:=intItems_at hv;obtain⟨h1,h2⟩:=argBest_lt (Hr ys) (ys.size-1);have nm:∀ j,j<ys.size->Hr ys j∈i::is:=λj hj=>by
  rw[<-e2];unfold Hr;rw[T9 hj];simp only[UK,Option.getD_some];exact List.mem_map.mpr ⟨ys[j],by simp,rfl⟩
 have nx:∀ x∈i::is,∃ j,j<ys.size/\Hr ys j=x:=λx hx=>by
  rw[<-e2]at hx;obtain⟨y,hy,rfl⟩:=Gx.mp hx;obtain⟨j,hj,ej⟩:=Array.mem_iff_getElem.mp (Ua.mp hy);refine⟨j,hj,?_⟩;unfold Hr;rw[T9 hj,ej];rfl
 obtain⟨m1,m2⟩:=Pw is i;have em:Hr ys (argBest (λi j=>decide (Hr ys i<Hr ys j)) (ys.size-1))=G9 i is:=by
  refine Int.le_antisymm ?_ (m2 _ (nm _ (by omega)))
  obtain⟨j,hj,ej⟩:=nx _ m1;rw[<-ej];exact h2 j (by omega)
 rw[em];exact⟨.int (G9 i is),H,I.kept hk,⟨_,rfl⟩,q⟩
theorem Pi{K:Fg}{CL:ClA}{H:Hp}{A:Ak->Prop}:∀{es:Ac D}{is:Ac Ah}{ys:Ac V},HC es=Aa is->Reps K CL H A ys es->ys=is.map V.int
 |[],_,[],h,_=>by cases h;rfl
 |[],_,_::_,_,r=>r.elim
 |_::_,_,[],_,r=>r.elim
 |e::es,is,y::ys,h,r=>by
  cases e with
  |int i=>
   have h':(HC es).map (i :: ·)=Aa is:=h;cases e2:HC es with
   |none=>rw[e2]at h';cases h'
   |some js=>
    rw[e2]at h';cases h';have ih:=Pi e2 r.2;have e1:y=.int i:=r.1;rw[ih,e1];rfl
  |_=>cases h
theorem Xm(ds:Ac D)(hl:∀ es,ds≠[.lst es]):(∃ i j,ds=[.int i,.int j])\/biD .min ds=.bad:=by
 rcases ds with _|⟨x,_|⟨y,_|⟨z,r⟩⟩⟩
 .exact .inr rfl
 .cases x with
  |lst es=>exact absurd rfl (hl es)
  |_=>exact .inr rfl
 .cases x with
  |int i=>
   cases y with
   |int j=>exact .inl ⟨i,j,rfl⟩
   |_=>exact .inr rfl
  |_=>exact .inr rfl
 .cases x with
  |int i=>cases y<;>exact .inr rfl
  |_=>exact .inr rfl
theorem hJ(hc:X.calm=Ab):HA X CL W (.builtin "max") (biD .max):=by
 intro A pI s Y H xs us Q I r ⟨hA,ds,rs,p⟩;rcases Xn ds with ⟨i,j,rfl⟩|e
 .obtain⟨v,w',rfl,rv,rw'⟩:=rs.two;have e1:=rv.int_of;have e2:=rw'.int_of
  subst e1 e2;exact Xj hc pI s Y H _ us Q I r ⟨i,j,rfl,p _ H (Ax.refl H) rfl⟩
 .rw[e]at p;exact p.elim
theorem gZ(hc:X.calm=Ab):HA X CL W (.builtin "min") (biD .min):=by
  intro A pI s Y H xs us Q I r ⟨hA,ds,rs,p⟩;by_cases hls:∃ es,ds=[.lst es]
  · obtain⟨es,rfl⟩:=hls;obtain⟨v,rfl,rv⟩:=rs.one;obtain⟨a,ys,rfl,sq,ry⟩:=rv.lst_of;have p':AU (Rep X.K CL · A) W H (match HC es with
      |some (i::is)=>R.ok (.int (G9 i is))
      | _=>.bad) Q:=p
    cases e1:HC es with
    |none=>rw[e1]at p';exact p'.elim
    |some is=>
      cases is with
      |nil=>rw[e1]at p';exact p'.elim
      |cons i is=>
        rw[e1]at p';have ey:=Pi e1 ry;subst ey;exact Xh hc pI s Y H _ us Q I r ⟨a,i,is,rfl,sq,p' _ H (Ax.refl H) rfl⟩
  rcases Xm ds (λes z=>hls ⟨es,z⟩) with ⟨i,j,rfl⟩|e
  · obtain⟨v,w',rfl,rv,rw'⟩:=rs.two;have e1:=rv.int_of;have e2:=rw'.int_of
    subst e1 e2;exact Xi hc pI s Y H _ us Q I r ⟨i,j,rfl,p _ H (Ax.refl H) rfl⟩
  · rw[e]at p;exact p.elim
theorem YO:HA X CL W (.type "tuple") (biD .tuple):=by
  intro A pI s Y H xs us Q I r ⟨hA,ds,rs,p⟩
  match ds,rs,p with
  |[.lst es],rs,p=>
    obtain⟨v,rfl,rv⟩:=rs.one;obtain⟨q,ys,rfl,sq,ry⟩:=rv.lst_of;exact O8 pI s Y H _ us Q I r ⟨q,ys,rfl,.inl ⟨sq,λl hl=>p _ _ (Eo hl _) (Jy hA hl ry)⟩⟩
  |[.tup es],rs,p=>
    obtain⟨v,rfl,rv⟩:=rs.one;obtain⟨q,ys,rfl,na,sq,ry⟩:=rv.tup_of;exact O8 pI s Y H _ us Q I r ⟨q,ys,rfl,.inr ⟨sq,p _ H (Ax.refl H) ⟨q,ys,rfl,na,sq,ry⟩⟩⟩
  |[],_,p=>exact p.elim
  |[.non],_,p=>exact p.elim
  |[.bl _],_,p=>exact p.elim
  |[.int _],_,p=>exact p.elim
  |[.str _],_,p=>exact p.elim
  |[.obj _ _],_,p=>exact p.elim
  |[.exc _ _],_,p=>exact p.elim
  |[.dic _],rs,p=>first|exact p.elim|(obtain⟨v,rfl,rv⟩:=rs.one;exact rv.plain.elim)
  |x::_::_,_,p=>cases x<;>exact p.elim
end
section
variable{X:Cx}{CL:ClA}{W:XW}{a b c:Am}{fa fb fc:Rho->R D}{pos:Az}
theorem SB.congr{f g:Rho->R Ai}(h:SB X CL W a f)(e:∀ U,g U=f U):SB X CL W a g:=λA=>PT.weak (h A) λY H Q ⟨hA,U,q,p⟩=>⟨hA,U,q,by rw[<-e];exact p⟩
theorem eU{f:Rho->R Ai}(ha:SB X CL W a f):SB X CL W (.UnaryOp .Not a pos) (λU=>(f U).bind λb=>.ok (!b)):=λA=>PT.weak (dQ (ha A)) λY H Q ⟨hA,U,g,p⟩=>⟨hA,U,g,Cw.bindB p λb H1 _ s1 p1=>p1 H1 (Ax.refl H1)⟩
def SW(X:Cx)(CL:ClA)(W:XW)(e:Am)(f:Rho->R Ai):Prop:=∀ A,PW X e (λY H Q=>AOk H A/\∃ U,Good X.K CL A U Y H/\Cw W H (f U) Q)
theorem PW.weak{t t':TT}(h:PW X e t)(k:∀ Y H Q,t' Y H Q->t Y H Q):PW X e t':=λwh pI s Y H Q I q=>h wh pI s Y H Q I (k _ _ _ q)
theorem SW.sb{f:Rho->R Ai}(h:SW X CL W a f):SB X CL W a f:=λA=>PW.pt (h A)
theorem SW.congr{f g:Rho->R Ai}(h:SW X CL W a f)(e:∀ U,g U=f U):SW X CL W a g:=λA=>PW.weak (h A) λY H Q ⟨hA,U,q,p⟩=>⟨hA,U,q,by rw[<-e];exact p⟩
theorem Zh{f:Rho->R Ai}(ha:SB X CL W a f):SW X CL W (.BoolOp .And [a] pos) f:=λA=>Z_4 (ha A)
theorem cM{f:Rho->R Ai}(ha:SB X CL W a f):SW X CL W (.BoolOp .Or [a] pos) f:=λA=>dO (ha A)
theorem cN{f g:Rho->R Ai}{rest:Ac Am}(ha:SB X CL W a f)(hb:SW X CL W (.BoolOp .And (b::rest) pos) g):SW X CL W (.BoolOp .And (a::b::rest) pos) (λU=>(f U).bind λc=>if c=Ab then g U else .ok Ad):=
 λA=>PW.weak (dP (ha A) (hb A)) λY H Q ⟨hA,U,gd,p⟩=>⟨hA,U,gd,Cw.bindB p λc H1 _ s1 p1=>by
  cases c with
  |true=>exact⟨hA.same s1,U,gd.same s1,p1⟩
  | false=>exact p1 H1 (Ax.refl H1)⟩
theorem iO{f g:Rho->R Ai}{rest:Ac Am}(ha:SB X CL W a f)(hb:SW X CL W (.BoolOp .Or (b::rest) pos) g):SW X CL W (.BoolOp .Or (a::b::rest) pos) (λU=>(f U).bind λc=>if c=Ab then .ok Ab else g U):=
 λA=>PW.weak (jG (ha A) (hb A)) λY H Q ⟨hA,U,gd,p⟩=>⟨hA,U,gd,Cw.bindB p λc H1 _ s1 p1=>by
  cases c with
  |false=>exact⟨hA.same s1,U,gd.same s1,p1⟩
  | true=>exact p1 H1 (Ax.refl H1)⟩
theorem eV(ho:OpD X CL W (Co op) g)(ha:ST X CL W a fa)(hb:ST X CL W b fb)(hm:F6 op b=Ad):SB X CL W (.Compare a [op] [b] pos) (λU=>(fa U).bind λx=>(fb U).bind λy=>(g x y).bind Di):=
 λA=>PT.weak (Z_7 (ho A) (ha A) (hb A) hm) λY H Q ⟨hA,U,gd,p⟩=>⟨hA,U,gd,Cw.bind p λdx x H1 _ s1 r1 p1=>⟨hA.same s1,U,gd.same s1,Cw.bind p1 λdy y H2 _ s2 r2 p2=>
  ⟨(hA.same s1).same s2,dx,dy,r1.same s2,r2,Cw.bind p2 λdz z H3 _ s3 r3 p3=>by
   cases dz with
   |bl k=>exact⟨k,r3,p3 H3 (Ax.refl H3)⟩
   | _=>exact p3.elim⟩⟩⟩
theorem Yr{op':CJ}(hu:X.A.units+64<BE)(ha:ST X CL W a fa)(hb:ST X CL W b fb)(hc:ST X CL W c fc)(hm:lastMarks [op,op'] [b,c]=Ad):SB X CL W (.Compare a [op,op'] [b,c] pos) (λU=>(fa U).bind λx=>(fb U).bind λy=>(Bs op x y).bind λz=>(Di z).bind λk=>if k=Ab then (fc U).bind λu=>(Bs op' y u).bind Di else .ok Ad):=
  λA=>PT.weak (Yx (Lm hu op A) (Lm hu op' A) (ha A) (hb A) (hc A) hm) λY H Q ⟨hA,U,g,p⟩=>⟨hA,U,g,Cw.bind p λdx x H1 _ s1 r1 p1=>⟨hA.same s1,U,g.same s1,Cw.bind p1 λdy y H2 _ s2 r2 p2=>
    ⟨(hA.same s1).same s2,dx,dy,r1.same s2,r2,Cw.bind p2 λdz z H3 _ s3 r3 p3=>by
      cases dz with
      |bl k=>
        refine⟨k,r3,?_⟩;cases k with
        |false=>exact⟨Ad,rfl,p3 H3 (Ax.refl H3)⟩
        | true=>exact⟨((hA.same s1).same s2).same s3,U,((g.same s1).same s2).same s3,Cw.bind p3 λdu u H4 _ s4 r4 p5=>⟨(((hA.same s1).same s2).same s3).same s4,dy,du,(r2.same s3).same s4,r4,Cw.bind p5 λdv v H5 _ s5 r5 p6=>by
            cases dv with
            |bl k'=>exact⟨k',r5,p6 H5 (Ax.refl H5)⟩
            | _=>exact p6.elim⟩⟩
      | _=>exact p3.elim⟩⟩⟩
theorem eT(ha:ST X CL W a fa)(he:∀ whole,Hf a X.env whole=(do let v <-whole;standAt a.pos;holding [v] (truthy v))):SB X CL W a (λU=>(fa U).bind BG):=
 λA=>PT.weak (Yw (ha A) he) λY H Q ⟨hA,U,g,p⟩=>⟨hA,U,g,Cw.bind p λd v H1 _ s1 r1 p1=>by
  cases d with
  |non=>
   have e:=r1.non_of;subst e;exact⟨Ad,rfl,p1 H1 (Ax.refl H1)⟩
  |bl b=>
   have e:=r1.bl_of;subst e;exact⟨b,rfl,p1 H1 (Ax.refl H1)⟩
  |int i=>
   have e:=r1.int_of;subst e;exact⟨_,rfl,p1 H1 (Ax.refl H1)⟩
  |str x=>
   have e:=r1.str_of;subst e;have p2:Cw W H1 (if B5 x.length=Ab then .ok (x.length != 0) else .bad) Q:=p1
   split at p2
   .rename_i h;refine⟨_,⟨IG h,rfl⟩,?_⟩;have e:((x.length:Ah) != 0)=(x.length != 0):=by
     rw[Uc];simp
    rw[e];exact p2 H1 (Ax.refl H1)
   .exact p2.elim
  |tup ds=>
   obtain⟨q,xs,rfl,_,sq,r⟩:=r1.tup_of;refine⟨_,.inr (.inl ⟨xs,sq,rfl⟩),?_⟩;have e:xs.isEmpty=ds.isEmpty:=by
    have:=r.length;cases xs<;>cases ds<;>first|rfl|cases this
   rw[e];exact p1 H1 (Ax.refl H1)
  |lst ds=>
   obtain⟨q,xs,rfl,sq,r⟩:=r1.lst_of;refine⟨_,.inl ⟨xs,sq,rfl⟩,?_⟩;have e:xs.isEmpty=ds.isEmpty:=by
    have:=r.length;cases xs<;>cases ds<;>first|rfl|cases this
   rw[e];exact p1 H1 (Ax.refl H1)
  | _=>exact p1.elim⟩
noncomputable def oC(K:Fg)(CL:ClA)(H:Hp)(A:Ak->Prop)(cls:Aj)(dx:An Ak)(x:Ex):Prop:=
 ∃ C,CL x.c=Aa C/\cls=.ref C/\(x.fs=[]\/∃ d vs,dx=Aa d/\¬ A d/\H d=Aa (.xd vs)/\Repf K CL H A vs x.fs)
def E5(K:Fg)(CL:ClA)(H:Hp)(cls:Aj)(dx:An Ak)(x:Ex):Prop:=∀ A,AOk H A->oC K CL H A cls dx x
end
structure Fr where
 f:Ak->HO->Prop
 pin:Af->Ak->Ac V->Prop
variable{Fz:Fr}
instance:CoeFun Fr λ_=>Ak->HO->Prop:=⟨Fr.f⟩
def Bc(B:Ak->Prop)(U:Rho)(Y:L2.St):Ak->Prop:=λa=>B a\/∃(j:Af)(d:D),U[j]?=Aa (Aa (d,Ab))/\Y[j]?=Aa (Aa (.ref a))
structure Sx (K:Fg) (CL:ClA) (Fz:Fr) (B:Ak->Prop) (U:Rho) (Y:L2.St) (H:Hp):Prop where
 good:Good K CL (Bc B U Y) U Y H
 aok:AOk H (Bc B U Y)
 new:∀(j:Af)(d:D)(a:Ak),U[j]?=Aa (Aa (d,Ab))->Y[j]?=Aa (Aa (.ref a))->(∀ o,¬ Fz a o)/\¬ B a
 dis:∀(i j:Af)(d e:D)(a:Ak),U[i]?=Aa (Aa (d,Ab))->U[j]?=Aa (Aa (e,Ab))->Y[i]?=Aa (Aa (.ref a))->Y[j]?=Aa (Aa (.ref a))->i=j
 same:∀ b o,Fz b o->H b=Aa o
 len:U.length=Y.length
 pin:∀ j:Af,U[j]?=Aa (Aa (.non,Ab))->∃ a xs,Fz.pin j a xs/\Y[j]?=Aa (Aa (.ref a))/\H a=Aa (.lst xs)
def Bj(K:Fg)(CL:ClA)(Fz:Fr)(B:Ak->Prop)(W:XW)(o:O)(D:Ends):Prop:=match o with
  |.next U=>∀ Y H,Sx K CL Fz B U Y H->D.nx Y H
  |.brk U=>∀ Y H,Sx K CL Fz B U Y H->D.bk Y H
  |.cont U=>∀ Y H,Sx K CL Fz B U Y H->D.ct Y H
  |.ret d fr=>∀ v H,(∀ b o,Fz b o->H b=Aa o)->Rep K CL H B v d->(fr=Ab->∀ ds,d=.lst ds->∃ a xs,v=.ref a/\(∀ o,¬ Fz a o)/\H a=Aa (.lst xs)/\Reps K CL H (λb=>B b\/b=a) xs ds)->D.rt v H
  |.exn x _=>∀ H,(∀ b o,Fz b o->H b=Aa o)->W x H
  |.bad=>AV
section
variable{K:Fg}{CL:ClA}{Fz Fy:Fr}{B:Ak->Prop}{U:Rho}{Y:L2.St}{H H':Hp}
theorem Sx.mono(k:∀ b o,Fz b o->Fy b o)(kp:∀ j a xs,Fy.pin j a xs->Fz.pin j a xs)(x:Sx K CL Fy B U Y H):Sx K CL Fz B U Y H:=⟨x.good,x.aok,λj d a h1 h2=>⟨λo z=>(x.new j d a h1 h2).1 o (k _ _ z),(x.new j d a h1 h2).2⟩,x.dis,λb o z=>x.same b o (k _ _ z),x.len,λj h=>let ⟨a,xs,h1,h2⟩:=x.pin j h;⟨a,xs,kp _ _ _ h1,h2⟩⟩
theorem Sx.grow(x:Sx K CL Fz B U Y H)(s:Ax H H'):Sx K CL Fz B U Y H':=⟨x.good.same s,x.aok.same s,x.new,x.dis,λb o z=>s _ _ (x.same b o z),x.len,λj h=>let ⟨a,xs,h1,h2,h3⟩:=x.pin j h;⟨a,xs,h1,h2,s _ _ h3⟩⟩
theorem By{l:Ac α}{v:α}(h:i≠j):(l.set i v)[j]?=l[j]?:=by rw[Fp h]
theorem FA{l:Ac α}{v w':α}(h:(l.set i v)[i]?=Aa w'):w'=v:=by
 rw[EU]at h;cases e:l[i]? with
 |none=>rw[e]at h;cases h
 |some x=>rw[e]at h;cases h;rfl
theorem Sx.set(x:Sx K CL Fz B U Y H){v:V}{d:D}(i:Af)(r:Rep K CL H (Bc B U Y) v d):Sx K CL Fz B (U.set i (Aa (d,Ad))) (Y.set i (Aa v)) H:=by
 have own:∀(j:Af)(e:D),(U.set i (Aa (d,Ad)))[j]?=Aa (Aa (e,Ab))->i≠j/\U[j]?=Aa (Aa (e,Ab)):=λj e h=>by
  by_cases hj:i=j
  .subst hj;have:=FA h;cases this
  .exact⟨hj,by rw[By hj]at h;exact h⟩
 have sub:∀ a,Bc B (U.set i (Aa (d,Ad))) (Y.set i (Aa v)) a->Bc B U Y a:=λa h=>by
  rcases h with h|⟨j,e,h1,h2⟩
  .exact .inl h
  .obtain⟨hj,h1⟩:=own j e h1;rw[By hj]at h2;exact .inr ⟨j,e,h1,h2⟩
 refine⟨⟨λj e h=>?_,λj e h hn=>?_,by rw[AS,AS];exact x.len⟩,λa h=>x.aok a (sub a h),λj e a h1 h2=>?_,λj k e f a h1 h2 h3 h4=>?_,x.same,by rw[AS,AS];exact x.len,λj h=>?_⟩
 .by_cases hj:i=j
  .subst hj;have e1:=FA h;cases e1;refine⟨v,?_,Rep.sub sub _ r⟩;have hl:i<Y.length:=by
    rw[<-x.len];have:=(AY.mp h).1;simpa using this
   rw[Ca hl]
  .rw[By hj]at h;obtain⟨w',q,rw'⟩:=x.good.sh j e h;exact⟨w',by rw[By hj];exact q,Rep.sub sub _ rw'⟩
 .obtain⟨hj,h1⟩:=own j e h;obtain⟨a,xs,ds,q,z,ha,hh,rr⟩:=x.good.ow j e h1 hn;exact⟨a,xs,ds,by rw[By hj];exact q,z,.inr ⟨j,e,h,by rw[By hj];exact q⟩,hh,Reps.sub sub _ rr⟩
 .obtain⟨hj,h1⟩:=own j e h1;rw[By hj]at h2;exact x.new j e a h1 h2
 .obtain⟨hj,h1⟩:=own j e h1;obtain⟨hk,h2⟩:=own k f h2;rw[By hj]at h3;rw[By hk]at h4;exact x.dis j k e f a h1 h2 h3 h4
 .obtain⟨hj,h1⟩:=own j _ h;obtain⟨a,xs,p1,p2,p3⟩:=x.pin j h1;exact⟨a,xs,p1,by rw[By hj];exact p2,p3⟩
end
section
variable{X:Cx}{CL:ClA}{W:XW}{pos:Az}{e:Am}{fe:Rho->R D}
def SS(X:Cx)(CL:ClA)(W:XW)(st:AD)(f:Rho->O):Prop:=∀ Fz B,PS X st (λD Y H=>∃ U,Sx X.K CL Fz B U Y H/\Bj X.K CL Fz B W (f U) D)
def SSs(X:Cx)(CL:ClA)(W:XW)(st:Ac AD)(f:Rho->O):Prop:=∀ Fz B,PSs X st (λD Y H=>∃ U,Sx X.K CL Fz B U Y H/\Bj X.K CL Fz B W (f U) D)
theorem PS.weak{e:AD}{t t':TS}(h:PS X e t)(k:∀ D Y H,t' D Y H->t D Y H):PS X e t':=λpI s Y H D I q=>h pI s Y H D I (k _ _ _ q)
theorem PSs.weak{e:Ac AD}{t t':TS}(h:PSs X e t)(k:∀ D Y H,t' D Y H->t D Y H):PSs X e t':=λpI s Y H D I q=>h pI s Y H D I (k _ _ _ q)
theorem Bj.ex{f:D->O}(x:Sx X.K CL Fz B U Y H)(h:Bj X.K CL Fz B W (O.of U r f) D')(k:∀ d v H',r=.ok d->Ax H H'->Rp H' v d->Sx X.K CL Fz B U Y H'->Bj X.K CL Fz B W (f d) D'->Q v H'):AU Rp W H r Q:=by
 cases r with
 |ok d=>exact λv H' s r=>k d v H' rfl s r (x.grow s) h
 |exn y=>exact λH' s=>h H' λb o z=>s _ _ (x.same b o z)
 |bad=>exact h
theorem Bj.exB{r:R Ai}{f:Ai->O}{Q:Ai->Hp->Prop}(x:Sx X.K CL Fz B U Y H)(h:Bj X.K CL Fz B W (O.of U r f) D')(k:∀ b H',r=.ok b->Ax H H'->Sx X.K CL Fz B U Y H'->Bj X.K CL Fz B W (f b) D'->Q b H'):Cw W H r Q:=by
 cases r with
 |ok d=>exact λH' s=>k d H' rfl s (x.grow s) h
 |exn y=>exact λH' s=>h H' λb o z=>s _ _ (x.same b o z)
 |bad=>exact h
theorem YT:SS X CL W (.Pass pos) (λU=>.next U):=λFz B=>PS.weak aC λD Y H ⟨U,x,p⟩=>p Y H x
theorem YV(he:SE X CL W e fe)(hs:Cp e Ae pos.line X.env=pure Ad):SS X CL W (.Expr e pos) (λU=>O.of U (fe U) λ_=>.next U):=λFz B pI s Y H D I ⟨U,x,p⟩=>
 Ke (he (Bc B U Y)) hs pI s Y H D I ⟨x.aok,U,x.good,Bj.ex x p λd v H' _ s r x' q=>q Y H' x'⟩
theorem cU{n:Ag}(hN:X.N.Nodup)(hi:X.N[i]?=Aa n)(hx:Loc X.env.scope n)(he:SE X CL W e fe)(hs:Cp e (Aa (.Name n pos')) pos.line X.env=pure Ad)(hf:X.fn n=Ab\/X.env.scope.names.lookup n=Aa .local):SS X CL W (.Assign [.Name n pos'] e pos) (λU=>O.of U (fe U) λd=>.next (U.set i (Aa (d,Ad)))):=λFz B pI s Y H D I ⟨U,x,p⟩=>
 Lu hN hi hx (he (Bc B U Y)) hs hf pI s Y H D I ⟨x.aok,U,x.good,Bj.ex x p λd v H' _ s r x' q=>q _ H' (x'.set i r)⟩
theorem YR(he:SE X CL W e fe):SS X CL W (.Return (Aa e) pos) (λU=>O.of U (fe U) λd=>.ret d Ad):=λFz B pI s Y H D I ⟨U,x,p⟩=>
 NN (he (Bc B U Y)) pI s Y H D I ⟨x.aok,U,x.good,Bj.ex x p λd v H' _ s r x' q=>q v H' x'.same (Rep.sub (λa h=>.inl h) _ r) λz=>nomatch z⟩
theorem iV{a b:Ac AD}{fa fb:Rho->O}(hc:SB X CL W c fc)(ha:SSs X CL W a fa)(hb:SSs X CL W b fb):SS X CL W (.If c a b pos) (λU=>O.of U (fc U) λk=>if k=Ab then fa U else fb U):=λFz B pI s Y H D I ⟨U,x,p⟩=>
 jI (hc (Bc B U Y)) (ha Fz B) (hb Fz B) pI s Y H D I ⟨x.aok,U,x.good,Bj.exB x p λk H' _ s x' q=>by
  cases k with
  |true=>exact⟨U,x',q⟩
  | false=>exact⟨U,x',q⟩⟩
theorem Q0:SSs X CL W [] (λU=>.next U):=λFz B=>PSs.weak Z_8 λD Y H ⟨U,x,p⟩=>p Y H x
theorem MS{st:AD}{rest:Ac AD}{f g:Rho->O}(h1:SS X CL W st f)(h2:SSs X CL W rest g):SSs X CL W (st::rest) (λU=>(f U).seq g):=λFz B=>PSs.weak (M7 (h1 Fz B) (h2 Fz B)) λD Y H ⟨U,x,p⟩=>⟨U,x,by
 dsimp only at p;cases e:f U with
 |next U'=>rw[e]at p;exact λY' H' x'=>⟨U',x',p⟩
 |ret d b=>rw[e]at p;exact p
 |brk U'=>rw[e]at p;exact p
 |cont U'=>rw[e]at p;exact p
 |exn y U'=>rw[e]at p;exact p
 | bad=>rw[e]at p;exact p⟩
end
def Iz(K:Fg)(CL:ClA)(A:Ak->Prop)(ds:Ac D)(J:It)(H1:Hp):Prop:=∀ H,Kp A H1 H->∀ i:Af,(ds.length<=i->J.stop i H)/\∀ d,ds[i]?=Aa d->J.go i H/\∀ x H',J.yld i H x H'->Ax H H'/\∀ B,(∀ a,B a->A a\/H1 a=Ae)->AOk H B->Rep K CL H' B x d
def EI(K:Fg)(CL:ClA)(A:Ak->Prop)(W:XW)(H:Hp)(r:R (Ac D))(Q:It->Hp->Prop):Prop:=match r with
  |.ok ds=>∀ J H',Ax H H'->Iz K CL A ds J H'->ds.length<=sizeLine->Q J H'
  |.exn x=>∀ H',Ax H H'->W x H'
  |.bad=>AV
def SI(X:Cx)(CL:ClA)(W:XW)(tg iter:Am)(f:Rho->R (Ac D)):Prop:=∀ A,PI X tg iter (λY H R=>AOk H A/\∃ U,Good X.K CL A U Y H/\EI X.K CL A W H (f U) R)
theorem PI.weak{t t':TI}(h:PI X tg e t)(k:∀ Y H Q,t' Y H Q->t Y H Q):PI X tg e t':=λpI s Y H Q I q=>h pI s Y H Q I (k _ _ _ q)
section
variable{X:Cx}{CL:ClA}{W:XW}{pos p:Az}{tg e a b:Am}{fe fa fb:Rho->R D}
theorem EI.ex{f:D->R (Ac D)}{Q:It->Hp->Prop}{Q':VK}(h:EI X.K CL A W H (r.bind f) Q)(k:∀ d v H',r=.ok d->Ax H H'->Rp H' v d->EI X.K CL A W H' (f d) Q->Q' v H'):AU Rp W H r Q':=by
  cases r with
  | ok d=>exact λv H' s q=>k d v H' rfl s q (by
      have h':EI X.K CL A W H (f d) Q:=h;cases e:f d with
      |ok ds=>rw[e]at h';exact λJ H2 s2 y z=>h' J H2 (s.trans s2) y z
      |exn y=>rw[e]at h';exact λH2 s2=>h' H2 (s.trans s2)
      | bad=>rw[e]at h';exact h')
  |exn y=>exact h
  |bad=>exact h
theorem MG{x:V}(r:Rep K CL H1 A x d)(k:Kp A H1 H)(hB:∀ a,B a->A a\/H1 a=Ae):Rep K CL H B x d:=by
 have r1:Rep K CL H1 (λa=>A a\/B a) x d:=Rep.wide (λa ha=>ha.elim .inl (hB a)) _ r
 have r2:Rep K CL H (λa=>A a\/B a) x d:=Rep.kp (λb o e na=>k b o e λz=>na (.inl z)) _ r1
 exact Rep.sub (λa ha=>.inr ha) _ r2
theorem WI{ds:Ac D}(na:¬ A q\/KL K q xs)(s:SqL K H q xs)(r:Reps K CL H A xs ds):Iz K CL A ds (Itl K q) H:=λH' k i=>by
 have s':=Lr k na s;refine⟨λh=>⟨xs,s',by rw[r.length];exact h⟩,λd hd=>?_⟩
 obtain⟨v,hv,rv⟩:=r.get hd;exact⟨⟨xs,v,s',hv⟩,λx H2 ⟨e,y⟩=>by
  subst e;have:=y xs s';rw[hv]at this;cases this;exact⟨Ax.refl _,λB hB _=>MG rv k hB⟩⟩
theorem Xc{ds:Ac D}(na:¬ A q\/KT K q xs)(s:SqT K H q xs)(r:Reps K CL H A xs ds):Iz K CL A ds (Itt K q) H:=λH' k i=>by
 have s':=Lz k na s;refine⟨λh=>⟨xs,s',by rw[r.length];exact h⟩,λd hd=>?_⟩
 obtain⟨v,hv,rv⟩:=r.get hd;exact⟨⟨xs,v,s',hv⟩,λx H2 ⟨e,y⟩=>by
  subst e;have:=y xs s';rw[hv]at this;cases this;exact⟨Ax.refl _,λB hB _=>MG rv k hB⟩⟩
theorem P3(lo:Ah)(n:Af):Iz K CL A (EJ lo n) (Itr lo n) H:=λH' k i=>by
 refine⟨λh=>by rw[K9]at h;exact h,λd hd=>?_⟩
 obtain⟨h1,rfl⟩:=Qp hd;exact⟨h1,λx H2 ⟨e,y⟩=>by
  subst e y;exact⟨Ax.refl _,λ_ _ _=>rfl⟩⟩
theorem dU{l:Am}{tl:TE}(hl:PE X l tl):PI X tg l (λY H R=>tl Y H λx H1=>(∃ a,x=.ref a/\(∃ xs,SqL X.K H1 a xs/\(xs.length<=sizeLine->R (Itl X.K a) H1)))\/∃ a,x=.ref a/\(∃ xs,SqT X.K H1 a xs/\(xs.length<=sizeLine->R (Itt X.K a) H1))):=by
 intro pI s Y H R I h;refine thn (hl pI s Y H _ I h) λv s1 ⟨x,H1,I1,r1,q1⟩=>?_
 rcases q1 with ⟨a,e,xs,hq,q⟩|⟨a,e,xs,hq,q⟩
 .subst e;cases r1;obtain⟨its,rv,p,hz⟩:=I1.list hq;refine E1 p.isList ?_;refine⟨s1.heap.objs.size,[s1.heap.objs.size],_,_,H1,rfl,I1.kept (t':=s1.toks) λb o e=>As _ e,W7 a _,⟨_,AW _ rfl,rfl,rfl⟩,λb hb=>?_,q hz⟩
  have e:b=s1.heap.objs.size:=by simpa using hb
  subst e;exact I1.fpOk (AI _) (I1.hok.fresh (AI _))
 .subst e;cases r1;obtain⟨its,rv,p,hz⟩:=I1.tuple hq;refine F4 (show s1.heap.IsTuple a its.toArray from p) ?_
  refine⟨s1.heap.objs.size,[s1.heap.objs.size],_,_,H1,rfl,I1.kept (t':=s1.toks) λb o e=>As _ e,WK a _,⟨_,AW _ rfl,rfl,rfl⟩,λb hb=>?_,q hz⟩
  have e:b=s1.heap.objs.size:=by simpa using hb
  subst e;exact I1.fpOk (AI _) (I1.hok.fresh (AI _))
theorem nE(he:SE X CL W e fe):SI X CL W tg e (λU=>(fe U).bind DU):=λA=>PI.weak (dU (he A)) λY H R ⟨hA,U,g,p⟩=>⟨hA,U,g,EI.ex p λd v H1 _ s1 r1 p1=>by
 cases d with
 |lst ds=>
  obtain⟨q,xs,rfl,na,sq,r⟩:=r1;exact .inl ⟨q,rfl,xs,sq,λhz=>p1 _ H1 (Ax.refl H1) (WI na sq r) (by rw[<-r.length];exact hz)⟩
 |tup ds=>
  obtain⟨q,xs,rfl,na,sq,r⟩:=r1;exact .inr ⟨q,rfl,xs,sq,λhz=>p1 _ H1 (Ax.refl H1) (Xc na sq r) (by rw[<-r.length];exact hz)⟩
 | _=>exact p1.elim⟩
theorem PQ{lo hi:Ah}{ds:Ac D}(h:DT lo hi=.ok ds):(-(2 ^ 62)<=lo/\lo<2 ^ 62)/\(-(2 ^ 62)<=hi/\hi<2 ^ 62)/\ds=EJ lo (hi-lo).toNat/\(EJ lo (hi-lo).toNat).length<=sizeLine:=by
 unfold DT at h;split at h
 .rename_i q;cases h;exact⟨by omega,by omega,rfl,by rw[K9,BX];omega⟩
 .cases h
theorem Pe{lo hi:Ah}{x:Ex}(h:DT lo hi=.exn x):AV:=by
 unfold DT at h;split at h<;>cases h
theorem bW(ha:ST X CL W a fa)(hg:Gl X "range")(hm:X.mg "range" = Ae)(hs:Aq [a] X.env=[(Ad,eval a X.env)]):SI X CL W tg (.Call (.Name "range" p) [a] [] pos) (λU=>(fa U).bind λx=>(EH x).bind λj=>DT 0 j):=
 λA=>PI.weak (W3 hg hm (Dz (ha A) E3 hs) hs) λY H R ⟨hA,U,g,q⟩=>⟨hA,U,g,EI.ex q λd v H1 _ s1 r1 p1=>by
  cases d with
  |int j=>
   have e:=r1.int_of;subst e;have p2:EI X.K CL A W H1 (DT 0 j) R:=p1;cases e2:DT 0 j with
   |ok ds=>
    rw[e2]at p2;obtain⟨_,h2,rfl,hz⟩:=PQ e2;exact⟨j,rfl,h2.1,h2.2,p2 _ H1 (Ax.refl H1) (by rw[Uk];exact P3 0 j.toNat) hz⟩
   |exn y=>exact(Pe e2).elim
   |bad=>rw[e2]at p2;exact p2.elim
  | _=>exact p1.elim⟩
theorem YZ(ha:ST X CL W a fa)(hb:ST X CL W b fb)(hg:Gl X "range")(hm:X.mg "range" = Ae)(hs:Aq [a,b] X.env=[(Ad,eval a X.env),(Ad,eval b X.env)])(hs2:Aq [b] X.env=[(Ad,eval b X.env)]):
  SI X CL W tg (.Call (.Name "range" p) [a,b] [] pos) (λU=>(fa U).bind λx=>(fb U).bind λy=>(EH x).bind λi=>(EH y).bind λj=>DT i j):=
 λA=>PI.weak (W2 hg hm (Dz (ha A) (Dz (hb A) E3 hs2) (by rw[hs,hs2])) hs hs2) λY H R ⟨hA,U,g,q⟩=>⟨hA,U,g,EI.ex q λd v H1 _ s1 r1 p1=>⟨hA.same s1,U,g.same s1,EI.ex p1 λd2 v2 H2 _ s2 r2 p2=>by
  cases d with
  |int i=>
   cases d2 with
   |int j=>
    have e:=r1.int_of;have e':=r2.int_of
    subst e e';have p3:EI X.K CL A W H2 (DT i j) R:=p2;cases e2:DT i j with
    |ok ds=>
     rw[e2]at p3;obtain⟨h1,h2,rfl,hz⟩:=PQ e2;exact⟨i,j,rfl,⟨h1.1,h1.2,h2.1,h2.2⟩,p3 _ H2 (Ax.refl H2) (P3 _ _) hz⟩
    |exn y=>exact(Pe e2).elim
    |bad=>rw[e2]at p3;exact p3.elim
   |_=>exact p2.elim
  | _=>exact p2.elim⟩⟩
theorem Bj.exI{r:R (Ac D)}{f:Ac D->O}{Q:It->Hp->Prop}(x:Sx X.K CL Fz B U Y H)(h:Bj X.K CL Fz B W (O.of U r f) D')(k:∀ ds J H',r=.ok ds->Ax H H'->Iz X.K CL A ds J H'->ds.length<=sizeLine->Sx X.K CL Fz B U Y H'->Bj X.K CL Fz B W (f ds) D'->Q J H'):EI X.K CL A W H r Q:=by
 cases r with
 |ok d=>exact λJ H' s y z=>k d J H' rfl s y z (x.grow s) h
 |exn y=>exact λH' s=>h H' λb o z=>s _ _ (x.same b o z)
 |bad=>exact h
theorem Bj.turn{Fy:Fr}{o:O}{g:Rho->O}{N:L2.St->Hp->Prop}(hf:∀ b q,Fz b q->Fy b q)(hp:∀ j a xs,Fy.pin j a xs->Fz.pin j a xs)(h:Bj K CL Fz B W (o.turn g) D')(k:∀ U' Y' H',Sx K CL Fy B U' Y' H'->Bj K CL Fz B W (g U') D'->N Y' H'):Bj K CL Fy B W o {D' with nx:=N,ct:=N,bk:=D'.nx}:=by
 cases o with
 |next U'=>exact λY' H' x=>k U' Y' H' x h
 |cont U'=>exact λY' H' x=>k U' Y' H' x h
 |brk U'=>exact λY' H' x=>h Y' H' (x.mono hf hp)
 |ret d b=>exact λv H' s r n=>h v H' (λb o z=>s b o (hf b o z)) r λz ds e=>let ⟨a,xs,h1,h2,h3⟩:=n z ds e;⟨a,xs,h1,λo q=>h2 o (hf a o q),h3⟩
 |exn y U'=>exact λH' s=>h H' (λb o z=>s b o (hf b o z))
 |bad=>exact h
noncomputable def EG(ts:Ac Af)(U:Rho):Rho:=ts.foldl (λU t=>U.set t Ae) U
def GT(K:Fg)(CL:ClA)(as:D->Rho->R Rho)(g:TG):Prop:=∀ Fz B U Y H v d U' Q,Sx K CL Fz B U Y H->Rep K CL H (Bc B U Y) v d->as d U=.ok U'->(∀ Y',Sx K CL Fz B U' Y' H->Q Y' H)->g v Y H Q
theorem bK(i:Af):GT K CL (λd U=>.ok (U.set i (Aa (d,Ad)))) (E6 i):=λFz B U Y H v d U' Q x r e k=>by
 cases e;exact k _ (x.set i r)
theorem RD{K:Fg}{Fz:Fr}{B:Ak->Prop}{H:Hp}:∀(ts:Ac Af)(ds:Ac D)(vs:Ac V)(U U':Rho)(Y:L2.St)(Q:L2.St->Hp->Prop),Sx K CL Fz B U Y H->Reps K CL H (Bc B U Y) vs ds->DD ts ds U=Aa U'->(∀ Y',Sx K CL Fz B U' Y' H->Q Y' H)->(ts.foldr (λt u=>HE (E6 t) u) HL) vs Y H Q
 |[],[],[],U,U',Y,Q,x,_,e,k=>by
  cases e;exact⟨rfl,k Y x⟩
 |t::ts,d::ds,v::vs,U,U',Y,Q,x,r,e,k=>by
  refine⟨v,vs,rfl,RD ts ds vs _ U' _ Q (x.set t r.1) (Reps.sub (λa ha=>?_) ds r.2) e k⟩
  rcases ha with ha|⟨j,c,h1,h2⟩
  .exact .inl ha
  .by_cases hj:t=j
   .subst hj;have:=FA h1;cases this
   .rw[By hj]at h1 h2;exact .inr ⟨j,c,h1,h2⟩
 |[],_::_,_,_,_,_,_,_,_,e,_=>by cases e
 |_::_,[],_,_,_,_,_,_,_,e,_=>by cases e
 |[],[],_::_,_,_,_,_,_,r,_,_=>r.elim
 |_::_,_::_,[],_,_,_,_,_,r,_,_=>r.elim
theorem ML:∀(ts:Ac Af)(ds:Ac D)(U U':Rho),DD ts ds U=Aa U'->ds.length=ts.length
 |[],[],_,_,_=>rfl
 |_::ts,_::ds,_,_,e=>congrArg (· + 1) (ML ts ds _ _ e)
 |[],_::_,_,_,e=>by cases e
 |_::_,[],_,_,e=>by cases e
theorem RC(ts:Ac Af):GT K CL (D2 ts) (KQ K ts.length (ts.foldr (λt u=>HE (E6 t) u) HL)):=λFz B U Y H v d U' Q x r e k=>by
 cases d with
 |tup ds=>
  obtain⟨a,xs,rfl,na,sq,rs⟩:=r;rw[Po]at e;cases e2:DD ts ds U with
  |none=>rw[e2]at e;cases e
  |some U2=>
   rw[e2]at e;cases e;exact⟨a,xs,rfl,sq,by rw[rs.length];exact ML _ _ _ _ e2,RD ts ds xs U _ Y Q x rs e2 k⟩
 |_=>cases e
theorem RI{g:TG}(hp:Dt (model X.prog X.w) X.A X.env X.xe)(hc:X.calm=Ab)(hGT:GT X.K CL as g)(hg:PG X tg g)(hit:SI X CL W tg iter fi)(hb:SSs X CL W body fbd)(hs:∀ x,Cc iter X.env x=pure x)(hax:∀ d U x,as d U≠.exn x):SS X CL W (.For tg iter body [] pos) (λU=>O.of U (fi U) λxs=>Ci (λx U'=>O.of U' (as x U') fbd) xs U):=λFz B pI s Y H D I ⟨U,x,p⟩=>by
 refine RW hp hc (hit (Bc B U Y)) hg (tb:=λD Y H=>∃ Fy,(λD Y H=>∃ U,Sx X.K CL Fy B U Y H/\Bj X.K CL Fy B W (fbd U) D) D Y H) (λpI s Y H D I ⟨Fy,q⟩=>hb Fy B pI s Y H D I q) hs pI s Y H D I ⟨x.aok,U,x.good,Bj.exI x p λds J H1 _ s1 y _ x1 q=>?_⟩
 let Fy:Fr:=⟨λb o=>H1 b=Aa o/\¬ ∃(j:Af)(d:Ov.D),U[j]?=Aa (Aa (d,Ab))/\Y[j]?=Aa (Aa (.ref b)),Fz.pin⟩
 have hfy:∀ b o,Fz b o->Fy b o:=λb o z=>⟨x1.same b o z,λ⟨j,d,h1,h2⟩=>(x1.new j d b h1 h2).1 o z⟩
 have xy:Sx X.K CL Fy B U Y H1:=⟨x1.good,x1.aok,λj d a h1 h2=>⟨λo z=>z.2 ⟨j,d,h1,h2⟩,(x1.new j d a h1 h2).2⟩,x1.dis,λb o z=>z.1,x1.len,x1.pin⟩
 refine⟨λk m Y' H'=>m=ds.length-k/\k<=ds.length/\∃ U',Sx X.K CL Fy B U' Y' H'/\Bj X.K CL Fz B W (Ci (λx U'=>O.of U' (as x U') fbd) (ds.drop k) U') D,⟨ds.length,by simp,DP _,U,xy,q⟩,?_⟩
 rintro k m Y' H' ⟨rfl,hk,U',x',q'⟩;have kp:Kp (Bc B U Y) H1 H':=λb o e na=>x'.same b o ⟨e,λz=>na (.inr z)⟩
 obtain⟨yst,ygo⟩:=y H' kp k;by_cases hlt:k<ds.length
 .have hd:ds[k]?=Aa ds[k]:=BF hlt;obtain⟨hgo,hyl⟩:=ygo _ hd;refine .inr ⟨hgo,λY'' H''=>∃ U'',Sx X.K CL Fy B U'' Y'' H''/\Bj X.K CL Fz B W (Ci (λx U'=>O.of U' (as x U') fbd) (ds.drop (k+1)) U'') D,λY'' H'' z=>⟨ds.length-(k+1),by omega,rfl,hlt,z⟩,λv H2 hv=>?_⟩
  obtain⟨e2,rv⟩:=hyl v H2 hv;rw[Eu hlt]at q';have q2:Bj X.K CL Fz B W ((O.of U' (as ds[k] U') fbd).turn (Ci (λx U'=>O.of U' (as x U') fbd) (ds.drop (k+1)))) D:=q'
  have rv':Rep X.K CL H2 (Bc B U' Y') v ds[k]:=rv _ (λa ha=>by
    rcases ha with ha|⟨j,d,h1,h2⟩
    .exact .inl (.inl ha)
    .cases e:H1 a with
     |none=>exact .inr rfl
     |some o=>
      by_cases ho:∃(j:Af)(d:Ov.D),U[j]?=Aa (Aa (d,Ab))/\Y[j]?=Aa (Aa (.ref a))
      .exact .inl (.inr ho)
      .exact absurd ⟨e,ho⟩ ((x'.new j d a h1 h2).1 o)) x'.aok
  cases ea:as ds[k] U' with
  |bad=>rw[ea]at q2;exact q2.elim
  |exn z=>exact absurd ea (hax _ _ z)
  |ok U2=>
   rw[ea,O.of_ok]at q2;exact hGT Fy B U' Y' H2 v ds[k] U2 _ (x'.grow e2) rv' ea λY3 x3=>⟨Fy,U2,x3,Bj.turn hfy (λ_ _ _ z=>z) q2 λU3 Y3 H3 x3 q3=>⟨U3,x3,q3⟩⟩
 .have hk':ds.length<=k:=by omega
  rw[E8 hk']at q';exact .inl ⟨yst hk',q' Y' H' (x'.mono hfy λ_ _ _ z=>z)⟩
theorem Yl(n:Af)(hp:Dt (model X.prog X.w) X.A X.env X.xe)(hc:SB X CL W c fc)(hb:SSs X CL W body fbd):SS X CL W (.While c body [] pos) (λU=>Iw fc fbd n U):=λFz B pI s Y H D I ⟨U,x,p⟩=>by
 refine XJ hp (tc:=λY H Q=>∃ A,AOk H A/\∃ U,Good X.K CL A U Y H/\Cw W H (fc U) Q) (λpI s Y H Q I ⟨A,q⟩=>hc A pI s Y H Q I q) (hb Fz B) pI s Y H D I ⟨λm Y' H'=>∃ U',Sx X.K CL Fz B U' Y' H'/\Bj X.K CL Fz B W (Iw fc fbd m U') D,⟨n,U,x,p⟩,?_⟩
 rintro m Y' H' ⟨U',x',q⟩;cases m with
 |zero=>exact q.elim
 |succ m=>
  refine⟨Bc B U' Y',x'.aok,U',x'.good,Bj.exB x' (f:=λb=>if b=Ab then (fbd U').turn (Iw fc fbd m) else .next U') (D':=D) (by rw[Iw]at q;exact q) λb H1 _ s1 x1 q1=>?_⟩
  cases b with
  |false=>exact q1 Y' H1 x1
  |true=>
   refine⟨λY'' H''=>∃ U'',Sx X.K CL Fz B U'' Y'' H''/\Bj X.K CL Fz B W (Iw fc fbd m U'') D,λY'' H'' z=>⟨m,by omega,z⟩,U',x1,Bj.turn (λ_ _ z=>z) (λ_ _ _ z=>z) q1 λU3 Y3 H3 x3 q3=>⟨U3,x3,q3⟩⟩
end
section
variable{X:Cx}{CL:ClA}{W:XW}{a b c:Am}{fa fb fc:Rho->R D}{pos:Az}
noncomputable def tyK:Ki->An Cv
 |.int=>Aa "int"
 |.bool=>Aa "bool"
 |.str=>Aa "str"
 |.list=>Aa "list"
 |.tuple=>Aa "tuple"
 |_=>Ae
noncomputable def NO:D->Ai
 |.obj _ _=>Ad
 |.exc _ _=>Ad
 |.dic _=>Ad
 |_=>Ab
theorem gR{k:Ki}{Q:Vq}{E:Vq}(I:Inv X pI Y H s)(r:B9 X.K CL H A v d)(q:Bi v u)(hT:tyK k=Aa T)(hd:NO d=Ab)(h:∀ s',Inv X pI Y H s'->Q (.bool (kiD up k d)) s'):
  At (model X.prog X.w) X.A (call (.builtin "isinstance") [u,.type T]) Q E s:=by
 have r':=r.plain;have it:=λt=>h _ (I.tok t)
 cases d with
 |obj=>cases hd
 |exc=>cases hd
 |dic=>cases hd
 |non=>
  cases r';cases q;cases k<;>simp only[tyK]at hT<;>cases hT
  .exact IsiPair.NoneType_int (it _)
  .exact IsiPair.NoneType_bool (it _)
  .exact IsiPair.NoneType_str (it _)
  .exact IsiPair.NoneType_list (it _)
  .exact IsiPair.NoneType_tuple (it _)
 |bl b=>
  cases r';cases q;cases k<;>simp only[tyK]at hT<;>cases hT
  .exact IsiPair.bool_int (h _ I)
  .exact IsiPair.bool_bool (h _ I)
  .exact IsiPair.bool_str (it _)
  .exact IsiPair.bool_list (it _)
  .exact IsiPair.bool_tuple (it _)
 |int i=>
  cases r';obtain⟨t,rfl⟩:=q;cases k<;>simp only[tyK]at hT<;>cases hT
  .exact IsiPair.int_int (h _ I)
  .exact IsiPair.int_bool (it _)
  .exact IsiPair.int_str (it _)
  .exact IsiPair.int_list (it _)
  .exact IsiPair.int_tuple (it _)
 |str x=>
  cases r';obtain⟨t,rfl⟩:=q;cases k<;>simp only[tyK]at hT<;>cases hT
  .exact IsiPair.str_int (it _)
  .exact IsiPair.str_bool (it _)
  .exact IsiPair.str_str (h _ I)
  .exact IsiPair.str_list (it _)
  .exact IsiPair.str_tuple (it _)
 |tup ds=>
  obtain⟨p,xs,rfl,_,sq,rr⟩:=r';obtain⟨its,rv,pt,_⟩:=I.tuple sq;cases q;have pt':s.heap.IsTuple p its.toArray:=pt;cases k<;>simp only[tyK]at hT<;>cases hT
  .exact IsiPair.isTuple_int pt' (λ_ _ e=>e) (it _)
  .exact IsiPair.isTuple_bool pt' (λ_ _ e=>e) (it _)
  .exact IsiPair.isTuple_str pt' (λ_ _ e=>e) (it _)
  .exact IsiPair.isTuple_list pt' (λ_ _ e=>e) (it _)
  .exact IsiPair.isTuple_tuple pt' (λ_ _ e=>e) (h _ I)
 |lst ds=>
  obtain⟨p,xs,rfl,_,sq,rr⟩:=r';obtain⟨its,rv,pl,_⟩:=I.list sq;cases q;have pt':s.heap.IsList p its.toArray:=Ik pl;cases k<;>simp only[tyK]at hT<;>cases hT
  .exact IsiPair.isList_int pt' (λ_ _ e=>e) (it _)
  .exact IsiPair.isList_bool pt' (λ_ _ e=>e) (it _)
  .exact IsiPair.isList_str pt' (λ_ _ e=>e) (it _)
  .exact IsiPair.isList_list pt' (λ_ _ e=>e) (h _ I)
  .exact IsiPair.isList_tuple pt' (λ_ _ e=>e) (it _)
theorem Xq{k:Ki}(hT:tyK k=Aa T)(p:AU Rp W H (DW up [k] d) Q):NO d=Ab/\AU Rp W H (.ok (.bl (kiD up k d))) Q:=by
 cases k<;>simp only[tyK]at hT<;>cases hT<;>cases d<;>first|exact p.elim|exact⟨rfl,by simpa using p⟩
theorem eP{k:Ki}(hT:tyK k=Aa T)(hg:Gl X "isinstance")(hm:X.mg "isinstance" = Ae)(hg2:Gl X x)(hm2:X.mg x=Ae)(hv:Cu x=Aa (.type T))(hn:x≠"__name__")(hdb:(x==("__debug__" : Ag))=Ad)(ha:ST X CL W a fa)(he:Aq [a,.Name x p2] X.env=(Ad,eval a X.env)::Aq [.Name x p2] X.env):SE X CL W (.Call (.Name "isinstance" p) [a,.Name x p2] [] pos) (λU=>(fa U).bind λx=>DW up [k] x):=λA=>
 PE.weak (Jp (r:=λxs H Q=>∃ y d,xs=[y,.ty T]/\B9 X.K CL H A y d/\NO d=Ab/\Q (.bl (kiD up k d)) H) (λpI s Y H xs us Q I r ⟨y,d,e,ry,hd,q⟩=>by
   subst e;obtain⟨u,w',rfl,r1,r2⟩:=Il r;cases r2;exact gR I ry r1 hT hd λs' I'=>⟨.bl _,H,I',rfl,q⟩)
  hg hm Ew (Dz (ha A) (Dz (QN (v:=.ty T) hg2 hm2 hv rfl hn hdb) E3 rfl) he) (by decide) (by decide) he rfl) λY H Q ⟨hA,U,g,q⟩=>⟨hA,U,g,AU.bind q λd v H1 _ s1 r1 p1=>by
   obtain⟨hd,p2⟩:=Xq hT p1;exact⟨v,d,rfl,r1,hd,p2 _ H1 (Ax.refl H1) rfl⟩⟩
theorem NA{b:Ai}{A':AR}{E:Vq}{Q:Ai->Ao->Prop}(r:Rep X.K CL H A v d)(q:Bi v u)(h:DV d=.ok b)(hq:Q b s):At (model prog w) A' (truthy u) Q E s:=by
 cases d with
 |non=>
  cases r;cases q;cases h;exact truthy_none hq
 |bl k=>
  cases r;cases q;cases h;exact Ck hq
 |int i=>
  cases r;obtain⟨t,rfl⟩:=q;cases h;exact truthy_int hq
 |_=>cases h
theorem Pv:∀{ds:Ac D}{b:Ai},Gb ds=.ok b->(∀ j,j<ds.length->∃ c,DV (ds.getD j .non)=.ok c)/\b=(B6 ds.length).all λj=>match DV (ds.getD j .non) with
  |.ok c=>c
  |_=>Ad
 |[],b,h=>by cases h;exact⟨λj hj=>absurd hj (UI _),rfl⟩
 |d::ds,b,h=>by
  rw[MK]at h;cases e:DV d with
  |bad=>rw[e]at h;cases h
  |exn x=>rw[e]at h;cases h
  |ok c=>
   rw[e,R.bind_ok]at h;cases e2:Gb ds with
   |bad=>rw[e2]at h;cases h
   |exn x=>rw[e2]at h;cases h
   |ok c2=>
    rw[e2,R.bind_ok]at h;cases h;obtain⟨h1,h2⟩:=Pv e2;refine⟨λj hj=>?_,?_⟩
    .cases j with
     |zero=>exact⟨c,e⟩
     |succ j=>exact h1 j (by simpa using hj)
    .rw[AZ,O1,h2];show (c&&_)=((match DV d with | .ok c=>c|_=>Ad)&&_)
     rw[e];rfl
theorem Pu:∀{ds:Ac D}{b:Ai},FB ds=.ok b->(∀ j,j<ds.length->∃ c,DV (ds.getD j .non)=.ok c)/\b=(B6 ds.length).any λj=>match DV (ds.getD j .non) with
  |.ok c=>c
  |_=>Ad
 |[],b,h=>by cases h;exact⟨λj hj=>absurd hj (UI _),rfl⟩
 |d::ds,b,h=>by
  rw[O9]at h;cases e:DV d with
  |bad=>rw[e]at h;cases h
  |exn x=>rw[e]at h;cases h
  |ok c=>
   rw[e,R.bind_ok]at h;cases e2:FB ds with
   |bad=>rw[e2]at h;cases h
   |exn x=>rw[e2]at h;cases h
   |ok c2=>
    rw[e2,R.bind_ok]at h;cases h;obtain⟨h1,h2⟩:=Pu e2;refine⟨λj hj=>?_,?_⟩
    .cases j with
     |zero=>exact⟨c,e⟩
     |succ j=>exact h1 j (by simpa using hj)
    .rw[AZ,UB,HM,Up,h2];show (c||_)=((match DV d with | .ok c=>c|_=>Ad)||_)
     rw[e];rfl
theorem Nt{ds:Ac D}(r:Reps X.K CL H A0 xs ds)(rv:AX xs its){v:Aj}(h:its.toArray[j]?=Aa v):j<ds.length/\∃ x,Rep X.K CL H A0 x (ds.getD j .non)/\Bi x v:=by
 have h':its[j]?=Aa v:=by simpa using h
 obtain⟨hj,e⟩:=AY.mp h';obtain⟨x,rx,q⟩:=IX r rv hj;have l1:=rv.length;have l2:=r.length
 exact⟨by omega,x,rx,by rw[<-e];exact q⟩
theorem Ot{o:Cz}(k:∀ b q,b∉[h.objs.size]->(h.push o).get? b=Aa q->h'.get? b=Aa q):∀ b q,h.get? b=Aa q->h'.get? b=Aa q:=λb q e=>k b q (by
 intro z;have:=Bm.mp z;rw[this]at e;exact absurd (AE e) (Bg _)) (As _ e)
theorem hZ(hc:X.calm=Ab):HA X CL W (.builtin "all") (biD .all):=by
  intro A pI s Y H xs us Q I r ⟨hA,ds,rs,p⟩
  match ds,rs,p with
  |[.lst es],rs,p=>
    obtain⟨v,rfl,rv⟩:=rs.one;obtain⟨q,ys,e,_,sq,ry⟩:=rv.plain;subst e;obtain⟨u,rfl,ru⟩:=GK r;cases ru;rw[mL]at p;cases e1:Gb es with
    |bad=>rw[e1]at p;exact p.elim
    |exn x=>
      exfalso
      have:∀(es:Ac D) x,Gb es≠.exn x:=by
        intro es
        induction es with
        |nil=>intro x h;cases h
        |cons d ds ih=>
          intro x h;rw[MK]at h;cases e:DV d with
          |bad=>rw[e]at h;cases h
          |exn y=>cases d<;>cases e
          |ok c=>
            rw[e,R.bind_ok]at h;cases e2:Gb ds with
            |bad=>rw[e2]at h;cases h
            |exn y=>exact ih y e2
            |ok c2=>rw[e2]at h;cases h
      exact this es x e1
    |ok b=>
      rw[e1,R.bind_ok]at p;obtain⟨h1,h2⟩:=Pv e1;obtain⟨its,rvv,pl,_⟩:=I.list sq;have hlt:q<s.heap.objs.size:=by obtain⟨o,n,e,_⟩:=pl;exact AE e
      have hl:its.toArray.size=es.length:=by rw[AN,<-rvv.length,ry.length]
      refine call_all_walk (E1 (Ik pl) ⟨s.heap.objs.size,_,_,_,_,_,(λj=>match DV (es.getD j .non) with | .ok c=>c|_=>Ad),rfl,Wd (A:=X.A.in1) (I.ok.hd hc) s.heap.objs.size q (A9 hlt) its.toArray,⟨⟨_,AW _ rfl,rfl,rfl⟩,(Ik pl).push _⟩,λj v s' Q' E' hv hQ=>?_,λh' tk k=>?_⟩)
      · obtain⟨hj,x,rx,qx⟩:=Nt ry rvv hv;obtain⟨c,ec⟩:=h1 j hj;exact NA rx qx ec (by dsimp only at hQ;rw[ec]at hQ;exact hQ)
      · rw[hl,<-h2];exact⟨.bl b,H,I.kept (Ot k),rfl,p _ H (Ax.refl H) rfl⟩
  |[],_,p=>exact p.elim
  |[.non],_,p=>exact p.elim
  |[.bl _],_,p=>exact p.elim
  |[.int _],_,p=>exact p.elim
  |[.str _],_,p=>exact p.elim
  |[.tup _],_,p=>exact p.elim
  |[.obj _ _],_,p=>exact p.elim
  |[.exc _ _],_,p=>exact p.elim
  |[.dic _],_,p=>exact p.elim
  |x::_::_,_,p=>cases x<;>exact p.elim
theorem Ri(hc:X.calm=Ab){es:Ac D}(I:Inv X pI Y H s)(sq:SqL X.K H q ys\/SqT X.K H q ys)(ry:Reps X.K CL H A0 ys es)(p:AU (λH=>Rep X.K CL H A) W H ((FB es).bind λb=>.ok (.bl b)) Q):At (model X.prog X.w) X.A (call (.builtin "any") [.ref q]) (EP X pI Y Q) X.xe s:=by
 cases e1:FB es with
 |bad=>rw[e1]at p;exact p.elim
 |exn x=>
  exfalso
  clear p
  have:∀(es:Ac D) x,FB es≠.exn x:=by
   intro es
   induction es with
   |nil=>intro x h;cases h
   |cons d ds ih=>
    intro x h;rw[O9]at h;cases e:DV d with
    |bad=>rw[e]at h;cases h
    |exn y=>cases d<;>cases e
    |ok c=>
     rw[e,R.bind_ok]at h;cases e2:FB ds with
     |bad=>rw[e2]at h;cases h
     |exn y=>exact ih y e2
     |ok c2=>rw[e2]at h;cases h
  exact this es x e1
 |ok b=>
  rw[e1,R.bind_ok]at p;obtain⟨h1,h2⟩:=Pu e1;rcases sq with sq|sq
  .obtain⟨its,rvv,pl,_⟩:=I.list sq;have hlt:q<s.heap.objs.size:=by obtain⟨o,n,e,_⟩:=pl;exact AE e
   have hl:its.toArray.size=es.length:=by rw[AN,<-rvv.length,ry.length]
   refine call_any_walk (E1 (Ik pl) ⟨s.heap.objs.size,_,_,_,_,_,(λj=>match DV (es.getD j .non) with | .ok c=>c|_=>Ad),rfl,Wd (A:=X.A.in1) (I.ok.hd hc) s.heap.objs.size q (A9 hlt) its.toArray,⟨⟨_,AW _ rfl,rfl,rfl⟩,(Ik pl).push _⟩,λj v s' Q' E' hv hQ=>?_,λh' tk k=>?_⟩)
   .obtain⟨hj,x,rx,qx⟩:=Nt ry rvv hv;obtain⟨c,ec⟩:=h1 j hj;exact NA rx qx ec (by dsimp only at hQ;rw[ec]at hQ;exact hQ)
   .rw[hl,<-h2];exact⟨.bl b,H,I.kept (Ot k),rfl,p _ H (Ax.refl H) rfl⟩
  .obtain⟨its,rvv,pl,_⟩:=I.tuple sq;have pl':s.heap.IsTuple q its.toArray:=pl;have hlt:q<s.heap.objs.size:=by obtain⟨o,e,_⟩:=pl';exact AE e
   have hl:its.toArray.size=es.length:=by rw[AN,<-rvv.length,ry.length]
   refine call_any_walk (F4 pl' ⟨s.heap.objs.size,_,_,_,_,_,(λj=>match DV (es.getD j .non) with | .ok c=>c|_=>Ad),rfl,Walks.tuple (A:=X.A.in1) (I.ok.hd hc) s.heap.objs.size q (A9 hlt) its.toArray,⟨⟨_,AW _ rfl,rfl,rfl⟩,pl'.push _⟩,λj v s' Q' E' hv hQ=>?_,λh' tk k=>?_⟩)
   .obtain⟨hj,x,rx,qx⟩:=Nt ry rvv hv;obtain⟨c,ec⟩:=h1 j hj;exact NA rx qx ec (by dsimp only at hQ;rw[ec]at hQ;exact hQ)
   .rw[hl,<-h2];exact⟨.bl b,H,I.kept (Ot k),rfl,p _ H (Ax.refl H) rfl⟩
theorem hV(hc:X.calm=Ab):HA X CL W (.builtin "any") (biD .any):=by
  intro A pI s Y H xs us Q I r ⟨hA,ds,rs,p⟩
  match ds,rs,p with
  |[.lst es],rs,p=>
    obtain⟨v,rfl,rv⟩:=rs.one;obtain⟨q,ys,e,_,sq,ry⟩:=rv.plain;subst e;obtain⟨u,rfl,ru⟩:=GK r;cases ru;exact Ri hc I (.inl sq) ry p
  |[.tup es],rs,p=>
    obtain⟨v,rfl,rv⟩:=rs.one;obtain⟨q,ys,e,_,sq,ry⟩:=rv.plain;subst e;obtain⟨u,rfl,ru⟩:=GK r;cases ru;exact Ri hc I (.inr sq) ry p
  |[],_,p=>exact p.elim
  |[.non],_,p=>exact p.elim
  |[.bl _],_,p=>exact p.elim
  |[.int _],_,p=>exact p.elim
  |[.str _],_,p=>exact p.elim
  |[.obj _ _],_,p=>exact p.elim
  |[.exc _ _],_,p=>exact p.elim
  |[.dic _],_,p=>exact p.elim
  |x::_::_,_,p=>cases x<;>exact p.elim
end
section
variable(K:Fg)(CL:ClA)
def mD(H0:Hp)(A:Ak->Prop)(H:Hp)(v:V)(d:D):Prop:=∀ ds,d=.lst ds->∃ a xs,v=.ref a/\H0 a=Ae/\H a=Aa (.lst xs)/\Reps K CL H (λb=>A b\/b=a) xs ds
def Dj(fr:Ai)(H0:Hp)(A:Ak->Prop)(H:Hp)(v:V)(d:D):Prop:=Rep K CL H A v d/\(fr=Ab->mD K CL H0 A H v d)
end
section
variable{X:Cx}{CL:ClA}{W:XW}{a b c:Am}{fa fb fc:Rho->R D}{pos:Az}
def SC(X:Cx)(CL:ClA)(W:XW)(fr:Ai)(e:Am)(f:Rho->R D):Prop:=∀ A,PE X e (λY H Q=>AOk H A/\∃ U,Good X.K CL A U Y H/\AU (Dj X.K CL fr H A) W H (f U) Q)
theorem SC.se{fr:Ai}(h:SC X CL W fr a fa):SE X CL W a fa:=λA=>PE.weak (h A) λY H Q ⟨hA,U,g,p⟩=>⟨hA,U,g,by
 cases e:fa U with
 |ok d=>rw[e]at p;exact λv H' s r=>p v H' s r.1
 |exn x=>rw[e]at p;exact p
 | bad=>rw[e]at p;exact p⟩
theorem SE.sc(h:SE X CL W a fa):SC X CL W Ad a fa:=λA=>PE.weak (h A) λY H Q ⟨hA,U,g,p⟩=>⟨hA,U,g,by
 cases e:fa U with
 |ok d=>rw[e]at p;exact λv H' s r=>p v H' s ⟨r,λz=>nomatch z⟩
 |exn x=>rw[e]at p;exact p
 | bad=>rw[e]at p;exact p⟩
theorem SC.congr{fr:Ai}{f g:Rho->R D}(h:SC X CL W fr a f)(e:∀ U,g U=f U):SC X CL W fr a g:=λA=>PE.weak (h A) λY H Q ⟨hA,U,q,p⟩=>⟨hA,U,q,by rw[<-e];exact p⟩
theorem IM{p:Ak}{ds:Ac D}(s:Ax H0 H)(hA:AOk H A)(hp:H p=Ae)(r:Reps K CL H A xs ds):Dj K CL Ab H0 A (upd H p (.lst xs)) (.ref p) (.lst ds):=
 ⟨Rl hA hp r,λ_ ds' e=>by
  cases e;exact⟨p,xs,rfl,s.free hp,Dh,(Reps.wide (λa ha=>ha.imp id λe=>by rw[e];exact hp) _ r).same (Eo hp _)⟩⟩
theorem ND{fr:Ai}(r:Rep K CL H A v d)(h:∀ ds,d≠.lst ds):Dj K CL fr H0 A H v d:=⟨r,λ_ ds e=>absurd e (h ds)⟩
theorem NH(hs:SA X CL W es fs)(hz:∀ U ds,fs U=.ok ds->ds.length<=100000):SC X CL W Ab (.List es pos) (λU=>(fs U).bind λxs=>.ok (.lst xs)):=
 λA=>PE.weak (dZ (hs A)) λY H Q ⟨hA,U,g,p⟩=>⟨hA,U,g,GL.bind p λds vs H1 e s1 r1 p1=>⟨by
  rw[r1.length,BX];have:=hz U ds e;omega,λq hq=>p1 _ _ (Eo hq _) (IM s1 (hA.same s1) hq r1)⟩⟩
theorem AU.bindF{fr:Ai}{f:D->R D}{Q':VK}(h:AU (Dj K CL fr H A) W H (r.bind f) Q)(k:∀ d v H',r=.ok d->Ax H H'->Rp H' v d->AU (Dj K CL fr H A) W H' (f d) Q->Q' v H'):AU Rp W H r Q':=by
 cases r with
 |ok d=>exact λv H2 s2 q=>k d v H2 rfl s2 q (AU.same s2 h)
 |exn x=>exact h
 |bad=>exact h
theorem GL.bindF{Rp:Hp->Ac V->Ac D->Prop}{r:R (Ac D)}{f:Ac D->R D}{Q':Ac V->Hp->Prop}(h:AU Rq W H (r.bind f) Q)(k:∀ d v H',r=.ok d->Ax H H'->Rp H' v d->AU Rq W H' (f d) Q->Q' v H'):GL Rp W H r Q':=by
 cases r with
 |ok d=>exact λv H2 s2 q=>k d v H2 rfl s2 q (AU.same s2 h)
 |exn x=>exact h
 |bad=>exact h
theorem Jc.bindF{r:R (An Ah)}{f:An Ah->R D}(h:AU Rq W H (r.bind f) Q)(k:∀ o H',r=.ok o->Ax H H'->AU Rq W H' (f o) Q->Q' o H'):Jc W H r Q':=by
 cases r with
 |ok d=>exact λH2 s2=>k d H2 rfl s2 (AU.same s2 h)
 |exn x=>exact h
 |bad=>exact h
def Ts:V->An Ah->An Ah->Hp->VK->Prop:=λx l h H Q=>∃ z,x=.str z/\(Gf z l h).length<=sizeLine/\Q (.str (Gf z l h)) H
theorem QO{v:Aj}{o:An Ah}(h:F1 v o):∃ p:An (Ah×Cd),v=partValue p/\p.map (·.1)=o:=by
 cases h with
 |none=>exact⟨Ae,rfl,rfl⟩
 |int i t=>exact⟨Aa (i,t),rfl,rfl⟩
theorem bV:SlR X Ts:=by
 intro pI s Y H x v vl vu lo hi sl Q I rx hs pl pu h;obtain⟨z,rfl,hz,q⟩:=h;obtain⟨t,rfl⟩:=rx;obtain⟨l,rfl,el⟩:=QO pl;obtain⟨u,rfl,eu⟩:=QO pu;refine⟨"str",_,PySem.F.slot_str_getitem.lookup,EQ _ _ _,?_⟩;refine wpAny_getItem_str_slice (l:=l) (u:=u) (st:=Ae) hs rfl ?_;subst el eu;unfold sliceMade slicePicked;unfold Gf at hz q;by_cases c:((D7 (l.map (·.1)) (u.map (·.1)) 1 z.length).length==z.length)=Ab
 .rw[AA c]at q;rw[AA (by rw[Al];exact⟨rfl,c⟩)]
  exact⟨.str z,H,I,⟨t,rfl⟩,q⟩
 .rw[AH c]at q hz;rw[AH (by rw[Al];exact λh=>c h.2)]
  exact⟨hz,.str _,H,I.tok _,⟨_,rfl⟩,q⟩
theorem iY{lo hi:An Am}{fl fh:Rho->R (An Ah)}(ha:ST X CL W a fa)(hl:SO X CL W lo fl)(hh:SO X CL W hi fh):SC X CL W Ab (.Subscript a (.Slice lo hi Ae p2) pos) (λU=>(fa U).bind λx=>(fl U).bind λl=>(fh U).bind λh=>slD x l h):=
 λA=>PE.weak (XN (r:=λx l h H Q=>Tt X.K x l h H Q\/(Tr X.K x l h H Q\/Ts x l h H Q)) (SlR.or YY (SlR.or bU bV)) (ha A) (hl A) (hh A)) λY H Q ⟨hA,U,g,p⟩=>⟨hA,U,g,AU.bindF p λdx x H1 _ s1 r1 p1=>⟨hA.same s1,U,g.same s1,Jc.bindF p1 λl H2 _ s2 p2=>⟨(hA.same s1).same s2,U,(g.same s1).same s2,Jc.bindF p2 λh H3 _ s3 p3=>by
  cases dx with
  |lst ds=>
   obtain⟨q,xs,rfl,sq,r⟩:=((r1.same s2).same s3).lst_of;exact .inl ⟨q,xs,rfl,sq,λt ht=>p3 _ _ (Eo ht _) (IM ((s1.trans s2).trans s3) (((hA.same s1).same s2).same s3) ht (Q7 l h r))⟩
  |tup ds=>
   obtain⟨q,xs,rfl,_,sq,r⟩:=((r1.same s2).same s3).tup_of;rw[nC]at p3;split at p3
   .exact p3.elim
   .rename_i hw;refine .inr (.inl ⟨q,xs,rfl,sq,?_,λt ht=>p3 _ _ (Eo ht _) (ND (Jy (((hA.same s1).same s2).same s3) ht (Q7 l h r)) (by intro _ z;cases z))⟩)
    rintro⟨h1,h2⟩;refine hw ?_;have e:∀ d o,HT.sIx xs.length d o=HH ds.length d o:=λd o=>by rw[r.length];cases o<;>rfl
    rw[e]at h1 h2;rw[r.length]at h2;simp[h1,h2]
  |str z=>
   have e:=((r1.same s2).same s3).str_of;subst e;have p4:AU (Dj X.K CL Ab H A) W H3 (if (B5 z.length&&B5 (Gf z l h).length)=Ab then .ok (.str (Gf z l h)) else .bad) Q:=p3
   split at p4
   .rename_i hk;rw[Al]at hk;exact .inr (.inr ⟨z,rfl,Pc hk.2,p4 _ H3 (Ax.refl H3) (ND rfl (by intro _ z;cases z))⟩)
   .exact p4.elim
  | _=>exact p3.elim⟩⟩⟩
noncomputable def OpN(X:Cx)(CL:ClA)(W:XW)(f:Aj->Aj->EY Aj)(g:D->D->R D):Prop:=
 ∀ A H0,OpR X f (λx y H Q=>Ax H0 H/\AOk H A/\∃ dx dy,B9 X.K CL H A x dx/\B9 X.K CL H A y dy/\AU (Dj X.K CL Ab H0 A) W H (g dx dy) Q)
theorem ZB:OpN X CL W (BM .Add) (CH .Add):=by
 intro A H0 pI s Y H x y v u Q I rx ry ⟨s0,hA,dx,dy,hx,hy,p⟩;have key:(∀ ds,dx≠.lst ds)->EP X pI Y Q=EP X pI Y Q->At (model X.prog X.w) X.A (BM .Add v u) (EP X pI Y Q) X.xe s:=λhd _=>by
  refine QB (W:=W) A pI s Y H x y v u Q I rx ry ⟨hA,dx,dy,hx,hy,?_⟩;cases e:CH .Add dx dy with
  |bad=>rw[e]at p;exact p
  |exn x=>rw[e]at p;exact p
  |ok d=>
   rw[e]at p;refine λv' H' s' r'=>p v' H' s' (ND r' λds z=>?_)
   subst z;cases dx with
   |lst ds=>exact hd _ rfl
   |tup xs=>
    cases dy with
    |tup ys=>rw[Sj]at e;split at e<;>cases e
    |_=>cases e
   |str xs=>
    cases dy with
    |str ys=>rw[GZ]at e;split at e<;>cases e
    |_=>cases e
   |int i=>cases dy<;>cases e
   |_=>cases e
 cases dx with
 |lst ds=>
  cases dy with
  |lst es=>
   obtain⟨a,xs,rfl,s1,r1⟩:=hx.lst_of;obtain⟨b,ys,rfl,s2,r2⟩:=hy.lst_of;simp only[Sk]at p;split at p
   .rename_i h;refine QC pI s Y H _ _ v u Q I rx ry ⟨a,b,xs,ys,rfl,rfl,s1,s2,by rw[r1.length,r2.length];exact IG h,λq hq=>?_⟩
    exact p _ _ (Eo hq _) (IM s0 hA hq (r1.append r2))
   .exact p.elim
  |_=>exact p.elim
 |_=>exact key (by intro _ z;cases z) rfl
theorem bT(ha:ST X CL W a fa)(hb:ST X CL W b fb):SC X CL W Ab (.BinOp a .Add b pos) (λU=>(fa U).bind λx=>(fb U).bind λy=>CH .Add x y):=
 λA pI s Y H Q I h=>by
  obtain⟨hA,U,g,p⟩:=h;exact SL (ZB (W:=W) A H) (ha A) (hb A) pI s Y H Q I ⟨hA,U,g,AU.bindF p λdx x H1 _ s1 r1 p1=>⟨hA.same s1,U,g.same s1,AU.bind (Rq:=Dj X.K CL Ab H A) p1 λdy y H2 _ s2 r2 p2=>⟨s1.trans s2,(hA.same s1).same s2,dx,dy,r1.same s2,r2,p2⟩⟩⟩
def Tb(X:Cx)(CL:ClA)(W:XW)(f:Aj)(g:Ac D->R D):Prop:=∀ A H0,Gc X f (λxs H Q=>Ax H0 H/\AOk H A/\∃ ds,Fk X.K CL H A xs ds/\AU (Dj X.K CL Ab H0 A) W H (g ds) Q)
theorem aO:Tb X CL W (.type "list") (biD .list):=by
  intro A H0 pI s Y H xs us Q I r ⟨s0,hA,ds,rs,p⟩
  match ds,rs,p with
  |[.lst es],rs,p=>
    obtain⟨v,rfl,rv⟩:=rs.one;obtain⟨q,ys,rfl,sq,ry⟩:=rv.lst_of;exact O5 pI s Y H _ us Q I r ⟨q,ys,rfl,.inl sq,λl hl=>p _ _ (Eo hl _) (IM s0 hA hl ry)⟩
  |[.tup es],rs,p=>
    obtain⟨v,rfl,rv⟩:=rs.one;obtain⟨q,ys,rfl,_,sq,ry⟩:=rv.tup_of;exact O5 pI s Y H _ us Q I r ⟨q,ys,rfl,.inr sq,λl hl=>p _ _ (Eo hl _) (IM s0 hA hl ry)⟩
  |[],_,p=>exact p.elim
  |[.non],_,p=>exact p.elim
  |[.bl _],_,p=>exact p.elim
  |[.int _],_,p=>exact p.elim
  |[.str _],_,p=>exact p.elim
  |[.obj _ _],_,p=>exact p.elim
  |[.exc _ _],_,p=>exact p.elim
  |[.dic _],_,p=>exact p.elim
  |x::_::_,_,p=>cases x<;>exact p.elim
theorem bS{g:Ac D->R D}(hc:Tb X CL W (.type T) g)(hg:Gl X x)(hm:X.mg x=Ae)(hv:Cu x=Aa (.type T))(ha:SAT X CL W (e::es) fs)(hn:x≠"__name__")(hdb:(x==("__debug__" : Ag))=Ad)(he:Aq (e::es) X.env=(Ad,eval e X.env)::Aq es X.env)(hpl:∀ pos,(Br pos (Aq es X.env)).any (·.1)=Ad):SC X CL W Ab (.Call (.Name x p) (e::es) [] pos) (λU=>(fs U).bind g):=λA pI s Y H Q I ⟨hA,U,gd,q⟩=>
 PU (hc A H) hg hm hv (ha A) hn hdb he (hpl _) pI s Y H Q I ⟨hA,U,gd,GL.bindF q λds vs H1 _ s1 r1 p1=>⟨s1,hA.same s1,ds,r1,p1⟩⟩
mutual
theorem N5{K:Fg}{H:Hp}{A:Ak->Prop}(hA:AOk H A):∀(n:Af)(d:D){v:V},nlD n d=Ab->Rep K CL H A0 v d->Rep K CL H A v d
 |_,.non,_,_,h=>h
 |_,.bl _,_,_,h=>h
 |_,.int _,_,_,h=>h
 |_,.str _,_,_,h=>h
 |0,.tup _,_,hn,_=>by cases hn
 |n+1,.tup ds,_,hn,h=>by
  obtain⟨a,xs,e,_,s,r⟩:=h;refine⟨a,xs,e,?_,s,nls_up hA n ds hn r⟩;rcases s with s|s
  .refine .inl λz=>?_
   obtain⟨ys,q⟩:=hA a z;rcases s with s|⟨o,s⟩<;>rw[q]at s<;>cases s
  .exact .inr s
 |n,.lst _,_,hn,_=>by cases n<;>cases hn
 |n,.obj _ _,_,hn,_=>by cases n<;>cases hn
 |n,.exc _ _,_,hn,_=>by cases n<;>cases hn
 |n,.dic _,_,hn,_=>by cases n<;>cases hn
theorem nls_up{K:Fg}{H:Hp}{A:Ak->Prop}(hA:AOk H A):∀(n:Af)(ds:Ac D){vs:Ac V},ds.all (nlD n)=Ab->Reps K CL H A0 vs ds->Reps K CL H A vs ds
 |_,[],[],_,h=>h
 |n,d::ds,_::_,hn,h=>by
  simp only[Ef,Al]at hn;exact⟨N5 hA n d hn.1 h.1,nls_up hA n ds hn.2 h.2⟩
 |_,[],_::_,_,h=>h.elim
 |_,_::_,[],_,h=>h.elim
end
theorem Se{fr:Ai}(hA0:AOk H0 A)(s:Ax H0 H)(hc:FR fr d=Ab)(r:Dj K CL fr H0 A0 H v d):Dj K CL fr H0 A H v d:=by
 have hA:=hA0.same s;cases d with
 |lst ds=>
  have hc':(fr&&ds.all (nlD 5))=Ab:=hc;rw[Al]at hc';obtain⟨a,xs,e,h0,h1,rs⟩:=r.2 hc'.1 ds rfl;have hA2:AOk H (λb=>A b\/b=a):=λb hb=>hb.elim (hA b) λe=>by rw[e];exact⟨xs,h1⟩
  have rs':=nls_up hA2 5 ds hc'.2 (Reps.sub (λ_ z=>z.elim) _ rs)
  refine⟨⟨a,xs,e,.inl (hA0.new h0),SqL.of h1,Reps.sub (λ_ z=>.inl z) _ rs'⟩,λ_ ds' e'=>?_⟩
  cases e';exact⟨a,xs,e,h0,h1,rs'⟩
 |_=>exact⟨N5 hA 5 _ hc r.1,λ_ _ z=>nomatch z⟩
def spD(K:Fg)(CL:ClA)(n:Af)(fr:Ai)(F:Ac D->R D):Sp:=λvs H Q E=>∃(ds:Ac D)(A:Ak->Prop),vs.length=n/\AOk H A/\Reps K CL H A vs ds/\(match F ds with
  |.ok d=>∀ v H',Ax H H'->Dj K CL fr H A H' v d->Q v H'
  |.exn x=>∀ cls dx H',Ax H H'->E5 K CL H' cls dx x->E cls dx H'
  | .bad=>AV)
def EKW(K:Fg)(CL:ClA)(A:Ak->Prop)(W:XW):XK:=λcls dx H'=>∃ x,E5 K CL H' cls dx x/\W x H'
theorem Fk.plain{K:Fg}{H:Hp}{A:Ak->Prop}:∀{vs:Ac V}{ds:Ac D},Fk K CL H A vs ds->Reps K CL H A0 vs ds
 |[],[],h=>trivial
 |_::_,_::_,h=>⟨h.1.plain,Fk.plain h.2⟩
 |[],_::_,h=>h.elim
 |_::_,[],h=>h.elim
theorem ZV{CX:CXT}{fr:Ai}{f:Ak}{fd:Bq}{ps:Ac Ag}{F:Ac D->R D}{ft:Rho->R (Ac D)}{sh:Rho->Ai}(G:FnOk X.prog X.w X.K X.mg X.base CX k f fd ps (spD X.K CL n fr F))(hr:Room k X.A)(hg:Gl X x)(hm:X.mg x=Aa (.ref f))(hk:A8 X.K (.ref f)=Ab)(hb:Eb X.K fd ps [])(hx:∀ A,Hy CX X (EKW X.K CL A W))(ha:SA X CL W (e::es) fs)(hat:SAT X CL W (e::es) ft)(hst:∀ U,sh U=Ab->ft U=fs U)(hn:∀ U ds,ft U=.ok ds->ds.length=n)(hdb:(x==("__debug__" : Ag))=Ad)(he:Aq (e::es) X.env=(Ad,eval e X.env)::Aq es X.env)(hpl:∀ pos,(Br pos (Aq es X.env)).any (·.1)=Ad):SC X CL W fr (.Call (.Name x p) (e::es) [] pos) (λU=>(ft U).bind λds=>(F ds).bind λd=>if sh U=Ab then .ok d else if FR fr d=Ab then .ok d else .bad):=λA pI s Y H Q I ⟨hA,U,gd,q⟩=>by
 dsimp only at q;by_cases hs:sh U=Ab
 .rw[hst U hs]at q;refine QM G hr hg hm hk hb .nil (hx A) (ha A) hdb he (hpl _) pI s Y H Q I ⟨hA,U,gd,?_⟩;cases e1:fs U with
  |bad=>rw[e1]at q;exact q
  |exn y=>rw[e1]at q;exact q
  |ok ds=>
   rw[e1]at q;intro vs H1 s1 r1;refine⟨ds,A,by rw[Ch,r1.length];exact hn U ds (by rw[hst U hs];exact e1),hA.same s1,by rw[Ch];exact r1,?_⟩
   have q':AU (Dj X.K CL fr H A) W H ((F ds).bind λd=>if sh U=Ab then .ok d else if FR fr d=Ab then .ok d else .bad) Q:=q
   cases e2:F ds with
   |ok d=>
    rw[e2,R.bind_ok,AA hs]at q';exact λv H2 s2 r2=>q' v H2 (s1.trans s2) ⟨r2.1,λz ds' e'=>let ⟨a,xs,z1,z2,z3⟩:=r2.2 z ds' e';⟨a,xs,z1,s1.free z2,z3⟩⟩
   |exn y=>rw[e2]at q';exact λcls dx H2 s2 xr=>⟨y,xr,q' H2 (s1.trans s2)⟩
   |bad=>rw[e2]at q';exact q'.elim
 .refine QM G hr hg hm hk hb .nil (hx A0) (hat A) hdb he (hpl _) pI s Y H Q I ⟨hA,U,gd,?_⟩;cases e1:ft U with
  |bad=>rw[e1]at q;exact q
  |exn y=>rw[e1]at q;exact q
  |ok ds=>
   rw[e1]at q;intro vs H1 s1 r1;refine⟨ds,A0,by rw[Ch,r1.plain.length];exact hn U ds e1,λ_ z=>z.elim,by rw[Ch];exact r1.plain,?_⟩
   have q':AU (Dj X.K CL fr H A) W H ((F ds).bind λd=>if sh U=Ab then .ok d else if FR fr d=Ab then .ok d else .bad) Q:=q
   cases e2:F ds with
   |ok d=>
    rw[e2,R.bind_ok,AH hs]at q';split at q'
    .rename_i hc;exact λv H2 s2 r2=>q' v H2 (s1.trans s2) (Se hA (s1.trans s2) hc ⟨r2.1,λz ds' e'=>let ⟨a,xs,z1,z2,z3⟩:=r2.2 z ds' e';⟨a,xs,z1,s1.free z2,z3⟩⟩)
    .exact q'.elim
   |exn y=>rw[e2]at q';exact λcls dx H2 s2 xr=>⟨y,xr,q' H2 (s1.trans s2)⟩
   |bad=>rw[e2]at q';exact q'.elim
end
theorem MP(env:B2):∀(ns:Ac (Ag×Dx))(acc:Ac (Ag×Ak)),(∀ x∈ns,x.2=.free->∃ c,env.cells.lookup x.1=Aa c)->(∀ x c,acc.lookup x=Aa c->env.cells.lookup x=Aa c) ->
  ∃ cl,(forIn ns acc fun(x:Ag×Dx)(cs:Ac (Ag×Ak))=>(if (x.2==.free)=Ab then do let c <-cellOf env x.1;pure (DJ ((x.1,c)::cs)) else pure (DJ cs):EY (ForInStep (Ac (Ag×Ak)))))=pure cl /\
   (∀ x c,cl.lookup x=Aa c->env.cells.lookup x=Aa c)/\(∀ x,((x,De)∈ns\/∃ c,acc.lookup x=Aa c)->∃ c,cl.lookup x=Aa c)
 |[],acc,_,h2=>⟨acc,by rw[Ut],h2,λx hx=>hx.elim (λz=>nomatch z) id⟩
 |(n,k)::r,acc,h1,h2=>by
  rw[List.forIn_cons];by_cases hk:k=.free
  .subst hk;obtain⟨c,hc⟩:=h1 (n,.free) AC rfl;obtain⟨cl,e,p,q⟩:=MP env r ((n,c)::acc) (λx hx=>h1 x (Aw _ hx)) (λx d hd=>by
    rw[BW]at hd;split at hd
    .rename_i hx;cases hd;rw[eq_of_beq hx];exact hc
    .exact h2 x d hd)
   refine⟨cl,?_,p,λx hx=>q x ?_⟩
   .have e1:cellOf env n=pure c:=by unfold cellOf;dsimp only at hc;rw[hc]
    rw[AA (by rfl),e1]
    exact e
   .rcases hx with hx|⟨d,hd⟩
    .rcases AG.mp hx with z|z
     .cases z;exact .inr ⟨c,by simp[BW]⟩
     .exact .inl z
    .by_cases hxn:x=n
     .exact .inr ⟨c,by subst hxn;simp[BW]⟩
     .exact .inr ⟨d,by rw[BW];rw[Cr.mpr hxn];exact hd⟩
  .obtain⟨cl,e,p,q⟩:=MP env r acc (λx hx=>h1 x (Aw _ hx)) h2
   refine⟨cl,?_,p,λx hx=>q x ?_⟩
   .rw[AH (by simpa using hk)]
    exact e
   .rcases hx with hx|hx
    .rcases AG.mp hx with z|z
     .cases z;exact absurd rfl hk
     .exact .inl z
    .exact .inr hx
theorem Pl(h:∀ x∈scope.names,x.2=.free->∃ c,env.cells.lookup x.1=Aa c):∃ cl,closureFor scope env=pure cl/\(∀ x c,cl.lookup x=Aa c->env.cells.lookup x=Aa c)/\∀ x,(x,De)∈scope.names->∃ c,cl.lookup x=Aa c:=by
 obtain⟨cl,e,p,q⟩:=MP env scope.names [] h (λx c z=>by simp at z)
 refine⟨cl,?_,p,λx hx=>q x (.inl hx)⟩
 unfold closureFor
 first
  |exact e
  |(simp only[bind_pure];exact e)
  |(rw[show (forIn scope.names ([]:Ac (Ag×Ak)) _:EY _)=pure cl from e];rfl)
theorem MY:∀(names:Ac (Ag×Dx))(h:AB)(acc:Ac (Ag×Ak))(x:Ag)(c:Ak),(Cn h.objs.size names acc).lookup x=Aa c->acc.lookup x=Aa c\/((x,Bu)∈names/\h.objs.size<=c/\(F3 h names).IsCell c Ae)
 |[],_,_,_,_,e=>.inl e
 |(n,k)::r,h,acc,x,c,e=>by
  unfold Cn at e;unfold F3;by_cases hk:(k==Bu)=Ab
  .rw[AA hk]at e ⊢;have hs:h.objs.size+1=(h.push { cls:=.type "cell",data:=.cell Ae }).objs.size:=(CW ..).symm;rw[hs]at e;rcases MY r _ _ x c e with q|⟨q1,q2,q3⟩
   .rw[BW]at q;cases hx:x==n with
    |true=>
     rw[hx]at q;cases q;refine .inr ⟨?_,AI _,?_⟩
     .rw[eq_of_beq hx,eq_of_beq hk];exact AC
     .exact⟨_,GW r _ _ _ (AW _ rfl),rfl⟩
    |false=>rw[hx]at q;exact .inl q
   .exact .inr ⟨Aw _ q1,by omega,q3⟩
  .rw[AH hk]at e ⊢;rcases MY r h acc x c e with q|⟨q1,q2,q3⟩
   .exact .inl q
   .exact .inr ⟨Aw _ q1,q2,q3⟩
theorem MZ:∀(names:Ac (Ag×Dx))(h:AB)(acc:Ac (Ag×Ak)),(∀ x y c,acc.lookup x=Aa c->acc.lookup y=Aa c->x=y)->(∀ x c,acc.lookup x=Aa c->c<h.objs.size)->∀ x y c,(Cn h.objs.size names acc).lookup x=Aa c->(Cn h.objs.size names acc).lookup y=Aa c->x=y
 |[],_,_,i,_,x,y,c,e1,e2=>i x y c e1 e2
 |(n,k)::r,h,acc,i,b,x,y,c,e1,e2=>by
  unfold Cn at e1 e2;by_cases hk:(k==Bu)=Ab
  .rw[AA hk]at e1 e2;have hs:h.objs.size+1=(h.push { cls:=.type "cell",data:=.cell Ae }).objs.size:=(CW ..).symm;rw[hs]at e1 e2;have look:∀ z d,BH z ((n,h.objs.size)::acc)=Aa d->(z=n/\d=h.objs.size)\/(z≠n/\acc.lookup z=Aa d):=λz d q=>by
    rw[BW]at q;cases hx:z==n with
    |true=>rw[hx]at q;cases q;exact .inl ⟨eq_of_beq hx,rfl⟩
    |false=>rw[hx]at q;exact .inr ⟨λe=>by rw[e]at hx;simp at hx,q⟩
   refine MZ r _ _ (λz z' d q q'=>?_) (λz d q=>?_) x y c e1 e2
   .rcases look z d q with ⟨rfl,q1⟩|⟨_,q1⟩<;>rcases look z' d q' with ⟨rfl,q2⟩|⟨_,q2⟩
    .rfl
    .exact absurd (b _ _ q2) (by rw[q1];exact Bg _)
    .exact absurd (b _ _ q1) (by rw[q2];exact Bg _)
    .exact i _ _ _ q1 q2
   .rw[<-hs];rcases look z d q with ⟨_,q1⟩|⟨_,q1⟩
    .rw[q1];exact Ff _
    .exact Gi (b _ _ q1)
  .rw[AH hk]at e1 e2;exact MZ r h acc i b x y c e1 e2
theorem MQ:∀(names:Ac (Ag×Dx))(n:Af)(acc:Ac (Ag×Ak))(x:Ag),(x,Bu)∉names->(Cn n names acc).lookup x=acc.lookup x
 |[],_,_,_,_=>rfl
 |(m,k)::r,n,acc,x,hx=>by
  unfold Cn;have hr:(x,Bu)∉r:=λz=>hx (Aw _ z)
  by_cases hk:(k==Bu)=Ab
  .rw[AA hk,MQ r _ _ x hr,BW];cases q:x==m with
   |true=>exact absurd (by rw[eq_of_beq q,eq_of_beq hk];exact AC) hx
   |false=>rfl
  .rw[AH hk];exact MQ r n acc x hr
theorem M0(n0:Af):∀(names:Ac (Ag×Dx))(n:Af)(acc:Ac (Ag×Ak))(x:Ag),n0<=n->((x,Bu)∈names\/∃ c,acc.lookup x=Aa c/\n0<=c)->∃ c,(Cn n names acc).lookup x=Aa c/\n0<=c
 |[],_,_,_,_,h=>h.elim (λz=>nomatch z) id
 |(m,k)::r,n,acc,x,hn,h=>by
  unfold Cn;by_cases hk:(k==Bu)=Ab
  .rw[AA hk];refine M0 n0 r _ _ x (by omega) ?_
   by_cases hx:(x==m)=Ab
   .exact .inr ⟨n,by rw[BW,hx],hn⟩
   .rcases h with h|⟨c,h,hc⟩
    .rcases AG.mp h with z|z
     .cases z;simp at hx
     .exact .inl z
    .exact .inr ⟨c,by rw[BW];simp only[hx];exact h,hc⟩
  .rw[AH hk];refine M0 n0 r _ _ x hn (h.imp (λh=>?_) id)
   rcases AG.mp h with z|z
   .cases z;simp at hk
   .exact z
theorem Ww{M:FX}{A:AR}{E:Vq}{globals:Ak}{qual:Ag}{Q:B2->Ao->Prop}(hQ:Q (newEnv scope s.heap.objs.size globals (Cn (s.heap.objs.size+1) scope.names cl) qual Ae .none (Aa env) Ho) { s with heap:=F3 (s.heap.push { cls:=.type "dict",data:=.dict #[] }) scope.names }):At M A (Hg scope globals cl [] qual Ae .none (Aa env)) Q E s:=by
 simp only[Hg,Option.isSome_some,D6];refine Ap (wpAny_alloc ?_);refine Ap (wpAny_layCells _ (λname kind cells=>by cases hkc:kind==Bu<;>simp[hkc]) _ _ _ _ ?_)
 rw[show ({ s with heap:=s.heap.push { cls:=.type "dict",data:=.dict #[] } }:Ao).heap.objs.size=s.heap.objs.size+1 from CW ..]
 rw[Ut];exact Ap (AM (AM hQ))
noncomputable def cxC(X:Cx)(scope:BL)(cl:Ac (Ag×Ak))(C:Ak)(N':Ac Ag)(s₀:Ao)(H₀:Hp)(fp:Ac Ak):Cx where
 prog:=X.prog
 w:=X.w
 K:=X.K
 mg:=X.mg
 base:=X.base
 A:=X.A
 N:=N'
 s₀:=s₀
 H₀:=H₀
 env:=compEnvC scope cl C X.env
 outer:=X.stack
 stack:=X.stack
 ex:=fp
 fn:=λx=>scope.names.lookup x==Aa Bu
 calm:=X.calm
 pn:=[]
 xe:=λ_ _=>AV
theorem K5{env:B2}:∀{names:Ac (Ag×Dx)}{x:Ag}{k:Dx},(names.map λ(n,k)=>if (k==De&&env.scope.kind==.function&&env.kindOf n==Aa .cell) then (n,Bu) else (n,k)).lookup x=Aa k->names.lookup x=Aa k\/(k=.cell/\names.lookup x=Aa .free)
 |[],_,_,h=>by simp at h
 |(n,j)::r,x,k,h=>by
  have ih:=@K5 env r x k;have h':BH x ((if (j==De&&env.scope.kind==.function&&env.kindOf n==Aa .cell)=Ab then (n,Bu) else (n,j))::(r.map λ(n,k)=>if (k==De&&env.scope.kind==.function&&env.kindOf n==Aa .cell) then (n,Bu) else (n,k)))=Aa k:=h
  by_cases hc:(j==De&&env.scope.kind==.function&&env.kindOf n==Aa .cell)=Ab
  .rw[AA hc]at h';rw[BW]at h' ⊢;cases hx:x==n with
   |true=>
    rw[hx]at h';cases h';simp only[Al]at hc;exact .inr ⟨rfl,by rw[eq_of_beq hc.1.1]⟩
   |false=>rw[hx]at h';exact ih h'
  .rw[AH hc]at h';rw[BW]at h' ⊢;cases hx:x==n with
   |true=>rw[hx]at h';exact .inl h'
   |false=>rw[hx]at h';exact ih h'
structure BlockOk (X:Cx) (scope:BL) (N':Ac Ag) (ts:Ac Af):Prop where
 kind:scope.kind=.function
 uniq:∀ y∈scope.names,scope.names.lookup y.1=Aa y.2
 names:∀ y∈scope.names,y.2=.local->scope.names.lookup y.1=Aa .local
 free:∀ y∈scope.names,y.2=.free->X.env.scope.names.lookup y.1=Aa .cell\/X.env.scope.names.lookup y.1=Aa .free
 len:N'.length=X.N.length
 same:∀ i x,N'[i]?=Aa x->scope.names.lookup x=Aa .free->i∉ts->X.N[i]?=Aa x
 loc:∀ i x,N'[i]?=Aa x->(scope.names.lookup x=Aa .local\/scope.names.lookup x=Aa .cell)->i∈ts
structure BCells (X:Cx) (scope:BL) (cl:Ac (Ag×Ak)) (C:Ak) (h:AB):Prop where
 own:∀ x c,cl.lookup x=Aa c->X.env.cells.lookup x=Aa c\/(scope.names.lookup x=Aa .cell/\C<c/\h.IsCell c Ae)
 inj:∀ x y c,cl.lookup x=Aa c->cl.lookup y=Aa c->x=y
 has:∀ x,scope.names.lookup x=Aa .cell->∃ c,cl.lookup x=Aa c/\C<c
 fr:∀ x,(x,De)∈scope.names->∃ c,cl.lookup x=Aa c/\X.env.cells.lookup x=Aa c
section
variable{X:Cx}{pI:Pn}{Y:L2.St}{H:Hp}{s:Ao}
noncomputable def hideT(ts:Ac Af)(Y:L2.St):L2.St:=ts.foldl (λY t=>Y.set t Ae) Y
theorem MU:∀(ts:Ac Af)(Y:L2.St),(hideT ts Y).length=Y.length
 |[],_=>rfl
 |t::ts,Y=>by show (hideT ts (Y.set t Ae)).length=_;rw[MU ts,AS]
theorem P7:∀(ts:Ac Af)(Y:L2.St){i:Af}{v:V},(hideT ts Y)[i]?=Aa (Aa v)->Y[i]?=Aa (Aa v)/\i∉ts
 |[],_,_,_,h=>⟨h,by simp⟩
 |t::ts,Y,i,v,h=>by
  obtain⟨h1,h2⟩:=P7 ts (Y.set t Ae) (i:=i) (v:=v) h;by_cases e:t=i
  .subst e;have:=FA h1;cases this
  .rw[By e]at h1;exact⟨h1,by simp only[AG,Hj];exact⟨λz=>e z.symm,h2⟩⟩
theorem WB{tk:Af}{C:Ak}{m:Ag->An Aj}(I:Inv X pI Y H s)(B:BlockOk X scope N' ts)(hf:∀ b∈fp,Gg X pI H b)(hfo:∀ b∈fp,b<s.heap.objs.size)(hb:BCells X scope cl C h')(hk:∀ b o,s.heap.get? b=Aa o->h'.get? b=Aa o)(hC:s.heap.objs.size<=C)(hn:h'.Ns C m):Inv (cxC X scope cl C N' s H fp) [] (hideT ts Y) H {s with heap:=h',toks:=tk}:=by
 have stf:∀ b∈fp,b∉frs X.stack:=λb hb z=>by
  rcases AG.mp (I.stkSub b z) with e|e
  .exact(hf b hb).2.1 e
  .exact(hf b hb).2.2.1 e
 have frOf:∀ x,((relabel scope X.env).names.lookup x=Aa .cell\/(relabel scope X.env).names.lookup x=Aa .free)->scope.names.lookup x=Aa .free\/scope.names.lookup x=Aa .cell:=λx hx=>by
  rcases hx with z|z
  .rcases K5 z with z|⟨_,z⟩
   .exact .inr z
   .exact .inl z
  .rcases K5 z with z|⟨z,_⟩
   .exact .inl z
   .cases z
 have gtC:∀ c:Ak,C<c->s.heap.objs.size<=c:=λc z=>Bw hC (Fu z)
 have cellK:∀ c v,s.heap.IsCell c v->h'.IsCell c v:=λc v ⟨o,ho,hd⟩=>⟨o,hk _ _ ho,hd⟩
 refine⟨⟨I.ok.mod,B.kind,I.ok.glob,I.ok.blt,hC,hb.inj,λx hx=>?_,λx c h e=>?_,I.ok.hd,I.ok.frames,.inl rfl,λb hbb=>⟨?_,λx c e=>?_⟩,I.bs,Bw I.ok.bsz I.sz,λb o e hbb=>?_,stf,I.stack,I.stkFree⟩,rfl,I.bare,Un.kept hk,⟨m,hn,λi x v h1 h2 h3=>?_⟩,λx c e=>?_,I.hok.fresh hC,λx c e=>(hb.own x c e).elim (I.freeC x c) (λz=>I.hok.fresh (gtC c z.2.1)),λp hp=>absurd (show p∈([]:Pn) from hp) (by simp),I.hok.kept hk,?_⟩
 .rcases frOf x hx with z|z
  .obtain⟨c,q,_⟩:=hb.fr x (Ce z);exact⟨c,q⟩
  .obtain⟨c,q,_⟩:=hb.has x z;exact⟨c,q⟩
 .obtain⟨c',q,z⟩:=hb.has x (eq_of_beq h);have e':cl.lookup x=Aa c:=e;rw[q]at e';cases e';exact gtC _ z
 .intro z;have z':b=C:=z;have:=hfo b hbb;rw[z']at this;exact absurd (AL this hC) (Bg _)
 .rcases hb.own x c e with z|z
  .exact(hf b hbb).2.2.2.2.1 x c z
  .intro q;have:=hfo b hbb;have:=gtC c z.2.1;rw[q]at this;exact absurd ‹b<_› (UH.mpr this)
 .rcases (hf b hbb).2.2.2.1 with z|z
  .exact I.ok.noex b o e z
  .exact absurd (AL (AE e) (Bw I.ok.bsz z)) (Bg _)
 .obtain⟨h2,hts⟩:=P7 ts Y h2;have h3':(relabel scope X.env).names.lookup x=Aa .local\/(relabel scope X.env).names.lookup x=Aa .cell\/(relabel scope X.env).names.lookup x=Aa .free:=h3;have h1':N'[i]?=Aa x:=h1;rcases h3' with z|z
  .rcases K5 z with z|⟨z,_⟩
   .exact absurd (B.loc i x h1' (.inl z)) hts
   .cases z
  .have fr:=(frOf x z).resolve_right λq=>hts (B.loc i x h1' (.inr q))
   have hm:=Ce fr;have hX:=B.same i x h1' fr hts;obtain⟨m0,hn0,hl0⟩:=I.loc;obtain⟨u,ru,lk⟩:=hl0 i x v hX h2 (by
    rcases B.free _ hm rfl with q|q
    .exact .inr (.inl q)
    .exact .inr (.inr q))
   refine⟨u,ru,?_⟩;obtain⟨c,hc,hcX⟩:=hb.fr x hm;rcases lk with ⟨q,_⟩|⟨_,c',hc',hcell⟩
   .have q':X.env.scope.names.lookup x=Aa .local:=q;rcases B.free _ hm rfl with p|p
    .rw[show X.env.scope.names.lookup x=_ from p]at q';cases q'
    .rw[show X.env.scope.names.lookup x=_ from p]at q';cases q'
   .have e:=hcX;rw[hc']at e;cases e;exact .inr ⟨z,c,hc,cellK _ _ hcell⟩
 .rcases hb.own x c e with z|z
  .obtain⟨v,q⟩:=I.cell x c z;exact⟨v,cellK _ _ q⟩
  .exact⟨_,z.2.2⟩
 .show (hideT ts Y).length=N'.length;rw[MU,I.len,B.len]
theorem Qc{C D:Ak}{s':Ao}{Y':L2.St}{pins':Pn}{h'':AB}{ys:Ac Aj}(I:Inv X pI Y H s)(hf:∀ b∈fp,Gg X pI H b)(I':Inv (cxC X scope cl C N' s H fp) pins' Y' H' s')(hD:s.heap.objs.size<=D)(hDC:D≠C)(hC:s.heap.objs.size<=C)(hd:s'.heap.get? D=Aa { cls:=.type "list",data:=.seq ys.toArray n })(hDn:H' D=Ae)(rv:AX xs ys)(hz:xs.length<=sizeLine)(hs:DX C s'.heap h''):Inv X pI Y (upd H' D (.lst xs)) {s' with heap:=h''}:=by
  have u:Un (frs X.stack) fp H H' s.heap s'.heap:=I'.base;have lt:∀ b o,s.heap.get? b=Aa o->b≠C/\b≠D:=λb o e=>⟨λz=>absurd (AL (AE e) (z ▸ hC)) (Bg _),λz=>absurd (AL (AE e) (z ▸ hD)) (Bg _)⟩
  have HD:H D=Ae:=I.hok.fresh hD;have hCn:H' C=Ae:=I'.free;have kb:∀ b o,b≠C->s'.heap.get? b=Aa o->h''.get? b=Aa o:=λb o hb e=>(hs.2 b hb).trans e
  have u2:Un (frs X.stack) fp H (upd H' D (.lst xs)) s.heap h'':=⟨λb o e q hb hx=>kb b o (lt b o e).1 (u.keep b o e q hb hx),λb o e q hb hx=>by
      obtain⟨sl,e1⟩:=u.slot b o e q hb hx;exact⟨sl,kb b _ (lt b o e).1 e1⟩,λb o e q hx=>by rw[A6 (lt b o e).2];exact u.free b o e q hx,λb o e hx=>by
      obtain⟨o',e1⟩:=u.there b o e hx;exact⟨o',kb b _ (lt b o e).1 e1⟩,λb zs q=>by rw[A6 (E4 q HD)];exact u.tups b zs q,λb o zs q=>by rw[A6 (E4 q HD)];exact u.frzs b o zs q,λb ps q=>by rw[A6 (E4 q HD)];exact u.tbls b ps q⟩
  have hok:HOk X.prog X.w (upd H' D (.lst xs)) h'':=λb o e=>by
    by_cases hb:b=D
    · subst hb;rw[Dh]at e;cases e;exact⟨hz,ys,n,rv,kb _ _ hDC hd⟩
    · rw[A6 hb]at e;refine(I'.hok b o e).stay (λc v hc q=>kb c v ?_ q) (λc q=>by rw[A6 (E4 q hDn)];exact q) λc zs q=>by rw[A6 (E4 q hDn)];exact q
      rcases hc with rfl|hc
      · exact E4 e hCn
      · exact E4 hc hCn
  exact I.call' (s':={s' with heap:=h''}) (ch:=fp) I'.os u2 hok I'.bare λb hb=>⟨(hf b hb).2.2.2.1,(hf b hb).2.1,(hf b hb).2.2.2.2.1,(hf b hb).2.2.2.2.2⟩
end
def PTs(X:Cx)(ifs:Ac Am)(tt:TT):Prop:=∀(pI:Pn)(s:Ao)(Y:L2.St)(H:Hp)(Q:Ai->Hp->Prop),Inv X pI Y H s->tt Y H Q ->
 At (model X.prog X.w) X.A (forIn ifs Ab λc r=>if r=Ab then do let ok <-Hf c X.env (eval c X.env);pure (DJ ok) else pure (DJ r)) (TP X pI Y Q) X.xe s
theorem Z_6:PTs X [] (λY H Q=>Q Ab H):=λpI s Y H Q I h=>wpAny_tests_nil ⟨H,I,h⟩
theorem Z_5{t:TT}(h:PT X c t):PTs X [c] t:=λpI s Y H Q I q=>wpAny_tests_one (h pI s Y H Q I q)
theorem WH{D:Ak}{ys:Ac Aj}{y:Aj}{E:Vq}{Q:Vq}(I:Inv X ((D,{ cls:=.type "list",data:=.seq ys.toArray n })::pI) Y H s)(hD:X.s₀.heap.objs.size<=D)(hp:∀ p∈X.pn++pI,p.1≠D)(hc:∀ x c,X.env.cells.lookup x=Aa c->c≠D)(hz:ys.length<=sizeLine)(h:∀ s',Inv X ((D,{ cls:=.type "list",data:=.seq (ys++[y]).toArray (n+1) })::pI) Y H s'->(∀ b o,b≠D->s.heap.get? b=Aa o->s'.heap.get? b=Aa o)->Q .none s'):At (model X.prog X.w) X.A (call (.builtin "list.append") [.ref D,y]) Q E s:=by
 obtain⟨e,hn,hL,hfs,_⟩:=I.pin (D,{ cls:=.type "list",data:=.seq ys.toArray n }) (Ba _ AC);refine append_at (hsz:=by rw[AN];exact hz) e λh' hs hd=>?_
 have hd':h'.get? D=Aa { cls:=.type "list",data:=.seq (ys++[y]).toArray (n+1) }:=by rw[hd];simp
 have kb:∀ b o,b≠D->s.heap.get? b=Aa o->h'.get? b=Aa o:=λb o hb q=>(hs.2 b hb).trans q
 have I0:Inv X pI Y H s:=I.pins_of λp hp=>I.pin p (Ba _ (Aw _ hp))
 have I1:Inv X pI Y H {s with heap:=h'}:=I0.turned (t':=s.toks) kb hn hL (.inr hD) hc hp
 refine h _ (I1.pins_of λp hp=>?_) kb
 rcases AG.mp hp with rfl|hp
 .exact⟨hd',hn,hL,hfs,λv z=>by
   have z':J5 _ _=JZ v:=z;cases z'⟩
 .exact I1.pin p (Ba _ hp)
section
variable{prog:AJ}{w:AT}{A:AR}{R:GD->Ao->Prop}{s:Ao}
theorem WA{target:Am}{it acc:Aj}(I:Af->Ao->Prop)(turn:∀ n s,I n s->At (model prog w) A (pyNext it) (λr s₁=>match r with
      |none=>R (.ok .next) s₁
      | some v=>At (model prog w) A (Fw target it v) (λ_ s₁'=>At (model prog w) A (assign target env v) (λ_ s₂=>
          At (model prog w) A (forIn ifs Ab λc r=>if r=Ab then do let ok <-Hf c env (eval c env);pure (DJ ok) else pure (DJ r)) (λok s₃=>
            if ok=Ab then At (model prog w) A (eval elt env) (λx s₄=>
              At (model prog w) A (call (.builtin "list.append") [acc,x]) (λ_ s₅=>∃ m,m<n/\I m s₅) (Hh (model prog w) A env λe s'=>R (.error e) s') s₄) (Hh (model prog w) A env λe s'=>R (.error e) s') s₃
            else ∃ m,m<n/\I m s₃) (Hh (model prog w) A env λe s'=>R (.error e) s') s₂) (Hh (model prog w) A env λe s'=>R (.error e) s') s₁') (Hh (model prog w) A env λe s'=>R (.error e) s') s₁) (Hh (model prog w) A env λe s'=>R (.error e) s') s)(n:Af)(h:I n s):D0 (model prog w) A (.compLoop (.ListComp elt [⟨target,iter,ifs,0⟩] scope pos) 0 it acc env) R s:=by
  refine codeAny_loop rfl I (λn s hI=>?_) n h
  show At _ A ((compTurn (.ListComp elt [⟨target,iter,ifs,0⟩] scope pos) 0 it acc env).onRaise (λx=>do F2 x env;theTreesLotGoes x)) _ _ s
  refine wpAny_noted ?_;rw[compTurn_list];refine Ap (DI (Ap (A3 (turn n s hI) (λr s₁ h₁=>?_) λ_ _ h'=>h')))
  cases r with
  |none=>exact AM h₁
  |some v=>
    refine Ap (A3 h₁ (λ_ s₁' h₁'=>?_) λ_ _ h'=>h')
    refine Ap (A3 h₁' (λ_ s₂ h₂=>Ap (A3 h₂ (λok s₃ h₃=>?_) λ_ _ h'=>h')) λ_ _ h'=>h')
    cases ok with
    |false=>exact AM ⟨rfl,h₃⟩
    |true=>
      exact Ap (Ap (A3 h₃ (λx s₄ h₄=>Ap (A3 h₄ (λ_ s₅ h₅=>AM (AM ⟨rfl,h₅⟩)) λ_ _ h'=>h')) λ_ _ h'=>h'))
end
def Km(J:It)(ts:Ac Af)(g:TG)(tt:TT)(te:TE)(Y:L2.St)(H:Hp)(Q:VK):Prop:=∃ W:Af->Af->Ac V->L2.St->Hp->Prop,(∃ m,W 0 m [] (hideT ts Y) H)/\∀ i m xs Y H,W i m xs Y H ->
 (J.stop i H/\∀ p,H p=Ae->Q (.ref p) (upd H p (.lst xs))) \/
 (J.go i H/\xs.length<sizeLine/\∀ x H',J.yld i H x H'->g x Y H' λY2 H2=>tt Y2 H2 λb H3=>if b=Ab then te Y2 H3 λy H4=>∃ m',m'<m/\W (i+1) m' (xs++[y]) Y2 H4 else ∃ m',m'<m/\W (i+1) m' xs Y2 H3)
theorem Qu{g:TG}{it:Ak}{tn:Af->AB->Prop}{E:Vq}{RR:Aj->Ak->GD->Ao->Prop}(hc:X.calm=Ab)(B:BlockOk X scope N' ts)(I:Inv X pI Y H s)(T:Turn X.prog X.w X.K tg J fp it tn)(st:tn 0 s.heap)(hf:∀ b∈fp,Gg X pI H b)(hcl:∀ x c,cl.lookup x=Aa c->X.env.cells.lookup x=Aa c)(hcl2:∀ x,(x,De)∈scope.names->∃ c,cl.lookup x=Aa c)(hg:∀ cl C s H,PG (cxC X scope cl C N' s H fp) tg g)(ht:∀ cl C s H,PTs (cxC X scope cl C N' s H fp) ifs tt)(he:∀ cl C s H,PE (cxC X scope cl C N' s H fp) elt te)(h:Km J ts g tt te Y H Q)(hRR:∀ cl D C s' H' Y' pins' xs ys n m,Inv (cxC X scope cl C N' s H fp) pins' Y' H' s'->s'.heap.get? D=Aa { cls:=.type "list",data:=.seq (EB ys) n }->H' D=Ae->AX xs ys->xs.length<=sizeLine->s.heap.objs.size<=D->D≠C->s.heap.objs.size<=C->s'.heap.Ns C m->Q (.ref D) (upd H' D (.lst xs))->RR (.ref D) C (.ok .next) s'):At (model X.prog X.w) X.A (newList []) (λacc s₃=>At (model X.prog X.w) X.A (Hg scope X.env.globals cl [] X.env.qual Ae .none (Aa X.env)) (λcenv s₄=>D0 (model X.prog X.w) X.A (.compStart (.ListComp elt [⟨tg,iter,ifs,0⟩] scope pos) 0 (.ref it) acc {cenv with scope:=relabel scope X.env}) (RR acc cenv.locals) s₄) E s₃) E s:=by
 refine Cj (Ww ?_);dsimp only;generalize hH2:s.heap.push { cls:=.type "list",dict:=Ae,data:=.seq ([]:Ac Aj).toArray }=H2;have hns₁:(F3 (H2.push { cls:=.type "dict",data:=.dict #[] }) scope.names).Ns H2.objs.size (λ_=>Ae):=(Heap.Ns.new H2 (.type "dict")).keeps (GW _ _)
 have hkp₁:∀ b o,H2.get? b=Aa o->(F3 (H2.push { cls:=.type "dict",data:=.dict #[] }) scope.names).get? b=Aa o:=λb o e=>GW _ _ b o (As _ e)
 have hown:=MY scope.names (H2.push { cls:=.type "dict",data:=.dict #[] }) cl;have hinj:=MZ scope.names (H2.push { cls:=.type "dict",data:=.dict #[] }) cl;rw[CW]at hown hinj;generalize hcl':Cn (H2.objs.size+1) scope.names cl=cl' at hown hinj;have hcf:∀ x,(x,Bu)∉scope.names->cl'.lookup x=cl.lookup x:=λx hx=>by rw[<-hcl'];exact MQ _ _ _ x hx
 have hch:∀ x,(x,Bu)∈scope.names->∃ c,cl'.lookup x=Aa c/\H2.objs.size+1<=c:=λx hx=>by rw[<-hcl'];exact M0 _ _ _ _ x (AI _) (.inl hx)
 generalize hh₁:F3 (H2.push { cls:=.type "dict",data:=.dict #[] }) scope.names=h₁ at hns₁ hkp₁ hown;have hC:H2.objs.size=s.heap.objs.size+1:=by rw[<-hH2,CW]
 have hCle:s.heap.objs.size<=H2.objs.size:=by rw[hC];exact ID _
 have hDC:s.heap.objs.size≠H2.objs.size:=by rw[hC];exact A9 (Ff _)
 have below:∀ b,b<s.heap.objs.size->b≠H2.objs.size:=λb hb=>by rw[hC];exact A9 (Gi hb)
 have old:∀ b o,s.heap.get? b=Aa o->h₁.get? b=Aa o:=λb o e=>hkp₁ b o (hH2 ▸ As _ e)
 have hacc:h₁.get? s.heap.objs.size=Aa { cls:=.type "list",data:=.seq ([]:Ac Aj).toArray 0 }:=hkp₁ _ _ (hH2 ▸ AW _ rfl);have clt:∀ x c,cl.lookup x=Aa c->c<s.heap.objs.size:=λx c e=>by
  obtain⟨v,q⟩:=I.cell x c (hcl x c e);exact q.lt
 have bc:BCells X scope cl' H2.objs.size h₁:=by
  refine⟨λx c e=>?_,hinj (λx y c e1 e2=>I.ok.inj x y c (hcl x c e1) (hcl y c e2)) (λx c e=>Gi (AL (clt x c e) hCle)),λx hx=>?_,λx hx=>?_⟩
  .rcases hown x c e with q|⟨q1,q2,q3⟩
   .exact .inl (hcl x c q)
   .exact .inr ⟨B.uniq _ q1,q2,q3⟩
  .have hm:=Ce hx;obtain⟨c,e,hc⟩:=hch x hm;exact⟨c,e,hc⟩
  .have hno:(x,Bu)∉scope.names:=λz=>by
    have e1:=B.uniq _ hx;have e2:=B.uniq _ z;rw[show scope.names.lookup x=_ from e1]at e2
    cases e2
   obtain⟨c,e⟩:=hcl2 x hx;exact⟨c,by rw[hcf x hno];exact e,hcl x c e⟩
 have hfo:∀ b∈fp,b<s.heap.objs.size:=λb hb=>by
  obtain⟨o,e,_⟩:=T.obj 0 _ st b hb;exact AE e
 generalize hD:s.heap.objs.size=D at *;generalize hC':H2.objs.size=C at *;have I0:Inv (cxC X scope cl' C N' s H fp) [] (hideT ts Y) H {s with heap:=h₁,toks:=s.toks+([]:Ac (Ag×Aj)).length}:=WB (tk:=s.toks+([]:Ac (Ag×Aj)).length) I B hf (λb hb=>by rw[hD];exact hfo b hb) bc old (by rw[hD];exact hCle) hns₁
 have nD:H D=Ae:=I.hok.fresh (by rw[hD];exact AI _)
 have noD:∀ b∈fp,b≠D:=λb hb=>A9 (hfo b hb)
 have noC:∀ b∈fp,b≠C:=λb hb=>below b (hfo b hb)
 have stfs:D∉frs X.stack:=λz=>by
  obtain⟨_,o,ho,_⟩:=I.stack.mem z;exact absurd (AE ho) (by rw[hD];exact Bg _)
 have cD:∀ x c,cl'.lookup x=Aa c->c≠D:=λx c e z=>by
  rcases bc.own x c e with q|⟨_,q,_⟩
  .obtain⟨v,q⟩:=I.cell x c q;exact absurd q.lt (by rw[z,hD];exact Bg _)
  .rw[z]at q;exact absurd (AL q hCle) (Bg _)
 have I1:Inv (cxC X scope cl' C N' s H fp) [(D,{ cls:=.type "list",data:=.seq ([]:Ac Aj).toArray 0 })] (hideT ts Y) H {s with heap:=h₁,toks:=s.toks+([]:Ac (Ag×Aj)).length}:=I0.pins_of λp hp=>by
  have e:=Bm.mp hp;subst e;exact⟨hacc,nD,hDC,stfs,λv z=>by
   have z':J5 _ _=JZ v:=z;cases z'⟩
 have st1:tn 0 h₁:=T.keep _ _ _ st λb _ o e=>old b o e
 obtain⟨W,⟨m0,w0⟩,turn⟩:=h;have fpk:∀{pl:Pn}{H':Hp},(∀ p∈pl,p.1=D)->(∀ b∈fp,H' b=Ae)->∀ b∈fp,Gg (cxC X scope cl' C N' s H fp) pl H' b:=λ{pl H'} hp hn b hb=>
  ⟨hn b hb,noC b hb,λz=>by
   rcases AG.mp (I.stkSub b z) with e|e
   .exact(hf b hb).2.1 e
   .exact(hf b hb).2.2.1 e,.inl hb,λx c e=>(bc.own x c e).elim ((hf b hb).2.2.2.2.1 x c) (λz q=>absurd (DK hCle z.2.1) (UH.mpr (by rw[q];exact Fu (hfo b hb)))),λp hp'=>by
   have hp2:p∈pl:=hp';rw[hp p hp2];exact(noD b hb).symm⟩
 have loop:∀ s₃:Ao,s₃={s with heap:=h₁,toks:=s.toks+([]:Ac (Ag×Aj)).length} ->
   D0 (model X.prog X.w) X.A (.compLoop (.ListComp elt [⟨tg,iter,ifs,0⟩] scope pos) 0 (.ref it) (.ref D) (compEnvC scope cl' C X.env)) (RR (.ref D) C) s₃:=by
  rintro s₃ rfl;refine WA (λk s'=>∃ i Y' H' xs ys n,Inv (cxC X scope cl' C N' s H fp) [(D,{ cls:=.type "list",data:=.seq (EB ys) n })] Y' H' s'/\tn i s'.heap/\(∀ b∈fp,H' b=Ae)/\AX xs ys/\xs.length<=sizeLine/\W i k xs Y' H') ?_ m0
   ⟨0,_,H,[],[],0,I1,st1,λb hb=>(hf b hb).1,.nil,DP _,w0⟩
  rintro k s' ⟨i,Y',H',xs,ys,n,I',st',fr',rv,hz,w'⟩;have one:∀ p∈[((D,{ cls:=.type "list",data:=.seq (EB ys) n }):Ak×Cz)],p.1=D:=λp hp=>by rw[Bm.mp hp]
  rcases turn i k xs Y' H' w' with ⟨stop,q⟩|⟨go,hlt,step⟩
  .refine A3 (T.done (cxC X scope cl' C N' s H fp) rfl rfl rfl hc i _ s' Y' H' (λ_ _=>AV) I' (fpk one fr') st' stop) (λr s1 ⟨hr,J1⟩=>?_) λ_ _ f=>f.elim
   subst hr;obtain⟨e,hn,_⟩:=J1.pin _ (Ba _ AC);obtain⟨m,hm,_⟩:=J1.loc;exact hRR cl' D C s1 H' Y' _ xs ys n m J1 e hn rv hz (AI _) hDC hCle hm (q D hn)
  .refine A3 (T.item (cxC X scope cl' C N' s H fp) rfl rfl rfl hc i _ s' Y' H' (λ_ _=>AV) I' (fpk one fr') st' go) (λr s1 ⟨u,hr,h4⟩=>?_) λ_ _ f=>f.elim
   subst hr;refine A3 h4 (λ_ s5 ⟨x,H5,I5,r5,y5,st5,fr5⟩=>?_) λ_ _ f=>f.elim
   have I5':=I5.pinned (fpk one fr5) (T.obj _ _ st5);refine A3 (hg cl' C s H _ s5 Y' H5 x u _ I5' r5 (step x H5 y5)) (λ_ s6 ⟨Y6,H6,I6,q6⟩=>?_) λ_ _ f=>f.elim
   refine A3 (ht cl' C s H _ s6 Y6 H6 _ I6 q6) (λok s7 ⟨H7,I7,q7⟩=>?_) λ_ _ f=>f.elim
   have again:∀{s8:Ao}{H8:Hp}{ys':Ac Aj}{n':Af},Inv (cxC X scope cl' C N' s H fp) ((D,{ cls:=.type "list",data:=.seq (EB ys') n' })::IT fp s5.heap) Y6 H8 s8->Inv (cxC X scope cl' C N' s H fp) [(D,{ cls:=.type "list",data:=.seq (EB ys') n' })] Y6 H8 s8/\tn (i+1) s8.heap/\∀ b∈fp,H8 b=Ae:=λ{s8 H8 ys' n'} I8=>
    ⟨I8.pins_of λp hp=>I8.pin p (Ba _ (by rw[Bm.mp hp];exact AC)),T.keep _ _ _ st5 λb hb o e=>(I8.pin (b,o) (Ba _ (Aw _ (K6 hb e)))).1,λb hb=>by
     obtain⟨o,e,d⟩:=T.obj _ _ st5 b hb;exact(I8.pin (b,o) (Ba _ (Aw _ (K6 hb e)))).2.1⟩
   cases ok with
   |false=>
    rw[AH (by decide)]at q7
    obtain⟨m',hm,w7⟩:=q7;obtain⟨a1,a2,a3⟩:=again I7;rw[AH (by decide)]
    exact⟨m',hm,i+1,Y6,H7,xs,ys,n,a1,a2,a3,rv,hz,w7⟩
   |true=>
    rw[AA rfl]at q7;rw[AA rfl];refine A3 (he cl' C s H _ s7 Y6 H7 _ I7 q7) (λval s8 ⟨y,H8,I8,r8,m',hm,w8⟩=>?_) λ_ _ f=>f.elim
    have hl:=rv.length;refine WH (X:=cxC X scope cl' C N' s H fp) (ys:=ys) (n:=n) (pI:=IT fp s5.heap) I8 (by show s.heap.objs.size<=D;rw[hD];exact AI _) (λp hp=>?_) cD (by omega) λs9 I9 kb=>?_
    .have hp2:p∈IT fp s5.heap:=hp;exact noD _ (PV hp2).1
    .obtain⟨a1,a2,a3⟩:=again I9;exact⟨m',hm,i+1,Y6,H8,xs++[y],ys++[val],n+1,a1,a2,a3,rv.append (.cons r8 .nil),by rw[BQ];exact hlt,w8⟩
 exact codeAny_compStart_list (loop _ rfl) (T.self _ 0 _ _ _ st1 (loop _ rfl))
theorem Zz{g:TG}(hc:X.calm=Ab)(B:BlockOk X scope N' ts)(hi:PI X tg iter wi)(hg:∀ cl C s H fp,PG (cxC X scope cl C N' s H fp) tg g)(ht:∀ cl C s H fp,PTs (cxC X scope cl C N' s H fp) ifs tt)(he:∀ cl C s H fp,PE (cxC X scope cl C N' s H fp) elt te)(hs:∀ x,Cc iter X.env x=pure x):PE X (.ListComp elt [⟨tg,iter,ifs,0⟩] scope pos) (λY H Q=>wi Y H λJ H1=>Km J ts g tt te Y H1 Q):=by
 intro pI s Y H Q I h;obtain⟨cl,hclos,hcl,hcl2⟩:=Pl (scope:=scope) (env:=X.env) λx hx hk=>I.ok.has x.1 ((B.free x hx hk).imp id id)
 rw[eval_ListComp];refine Wo (use:=Ae) rfl hs hclos B.kind B.names (thn (hi pI s Y H _ I h) λv s1 h1=>thn h1 λitv s2 h2=>?_)
 obtain⟨it,fp,tn,J,H2,e,I2,T,st2,f2,h3⟩:=h2;subst e;refine Qu (RR:=λacc C=>compPost (model X.prog X.w) X.A X.xe Ae (EP X pI Y Q) acc C) hc B I2 T st2 f2 hcl hcl2 (λcl C s H=>hg cl C s H fp) (λcl C s H=>ht cl C s H fp) (λcl C s H=>he cl C s H fp) h3 λcl' D C s' H' Y' pins' xs ys n m I' hd hDn rv hz hD hDC hC hm q=>?_
 exact⟨m,hm,λh'' hs''=>⟨.ref D,_,Qc I2 f2 I' hD hDC hC hd hDn rv hz hs'',rfl,q⟩⟩
theorem aA{n:Ag}{g:TG}(hc:X.calm=Ab)(B:BlockOk X scope N' ts)(hi:PI X tg iter wi)(hg:∀ cl C s H fp,PG (cxC X scope cl C N' s H fp) tg g)(ht:∀ cl C s H fp,PTs (cxC X scope cl C N' s H fp) ifs tt)(he:∀ cl C s H fp,PE (cxC X scope cl C N' s H fp) elt te)(hs:∀ x,Cc iter X.env x=pure x)(hN:X.N.Nodup)(hni:X.N[i]?=Aa n)(hx:X.env.scope.names.lookup n=Aa .local)(hsw:Cp (.ListComp elt [⟨tg,iter,ifs,0⟩] scope pos) (Aa (.Name n pos')) pos2.line X.env=pure Ab):PS X (.Assign [.Name n pos'] (.ListComp elt [⟨tg,iter,ifs,0⟩] scope pos) pos2) (OE (λY H Q=>wi Y H λJ H1=>Km J ts g tt te Y H1 Q) (E6 i)):=by
 intro pI s Y H Dn I h;obtain⟨cl,hclos,hcl,hcl2⟩:=Pl (scope:=scope) (env:=X.env) λx hx hk=>I.ok.has x.1 ((B.free x hx hk).imp id id)
 rw[exec_Assign_Name_used _ _ _ _ hsw];refine Ap (DI (Ap ?_));show At _ X.A (do let _ <-comprehension (.ListComp elt [⟨tg,iter,ifs,0⟩] scope pos) scope X.env _ (newList []) Ad (eval iter X.env) (Aa (assign (.Name n pos') X.env))) _ _ s
 refine Ap (A3 (Wo (use:=Aa (assign (.Name n pos') X.env)) (Q:=λ_ s'=>SP X pI Dn .next s') rfl hs hclos B.kind B.names
  (thn (hi pI s Y H _ I h) λv s1 h1=>thn h1 λitv s2 h2=>?_)) (λ_ s' hq=>AM (AM hq)) λ_ _ e=>e)
 obtain⟨it,fp,tn,J,H2,e,I2,T,st2,f2,h3⟩:=h2;subst e;refine Qu (RR:=λacc C=>compPost (model X.prog X.w) X.A X.xe (Aa (assign (.Name n pos') X.env)) (λ_ s'=>SP X pI Dn .next s') acc C) hc B I2 T st2 f2 hcl hcl2 (λcl C s H=>hg cl C s H fp) (λcl C s H=>ht cl C s H fp) (λcl C s H=>he cl C s H fp) h3 λcl' D C s' H' Y' pins' xs ys n' m I' hd hDn rv hz hD hDC hC hm q=>?_
 have J0:Inv X pI Y (upd H' D (.lst xs)) s':=Qc I2 f2 I' hD hDC hC hd hDn rv hz (Heap.SameBut.refl ..);refine Wn (PK J0 hN hni (.inl hx) (show Bi (.ref D) (.ref D) from rfl) (λs'' J1 ⟨a,sb,ha⟩=>?_) (.inr hx))
 have hC0:X.s₀.heap.objs.size<=C:=Bw I2.sz hC;have hL:C≠X.env.locals:=λz=>absurd (AL I2.lt (z ▸ hC)) (Bg _)
 have hcC:∀ x c,X.env.cells.lookup x=Aa c->c≠C:=λx c e z=>by
  obtain⟨v,q'⟩:=I2.cell x c e;exact absurd (AL q'.lt (by rw[z];exact hC)) (Bg _)
 have hp:∀ p∈X.pn++pI,p.1≠C:=λp hp z=>absurd (AL (AE (I2.pin p hp).1) (by rw[z];exact hC)) (Bg _)
 have hCn:upd H' D (.lst xs) C=Ae:=by rw[A6 hDC.symm];exact I'.free
 have hCa:C≠a:=by
  rcases ha with rfl|ha
  .exact hL
  .exact λz=>hcC n a ha z.symm
 refine⟨m,hm.sameBut sb hCa,λh'' hs''=>⟨_,_,J1.turned (t':=s''.toks) (λb o hb e=>(hs''.2 b hb).trans e) hCn hL (.inr hC0) hcC hp,q⟩⟩
theorem Jw:∀(ts:Ac Af)(U:Rho)(j:Af),(EG ts U)[j]?=if j∈ts then (U[j]?).map (λ_=>Ae) else U[j]?
 |[],U,j=>by simp[EG]
 |t::ts,U,j=>by
  show (EG ts (U.set t Ae))[j]?=_;rw[Jw ts];by_cases h1:j∈ts
  .rw[AA h1,AA (Aw _ h1)];by_cases h2:t=j
   .subst h2;rw[EU];cases U[t]?<;>rfl
   .rw[By h2]
  .rw[AH h1];by_cases h2:t=j
   .subst h2;rw[AA AC,EU];cases U[t]?<;>rfl
   .rw[By h2,AH (by simp only[AG,Hj];exact⟨λz=>h2 z.symm,h1⟩)]
theorem Lg:∀(ts:Ac Af)(U:Rho),(EG ts U).length=U.length
 |[],_=>rfl
 |t::ts,U=>by show (EG ts (U.set t Ae)).length=_;rw[Lg ts,AS]
theorem MO:∀(ts:Ac Af)(Y:L2.St){i:Af},i∉ts->(hideT ts Y)[i]?=Y[i]?
 |[],_,_,_=>rfl
 |t::ts,Y,i,h=>by
  simp only[AG,Hj]at h;show (hideT ts (Y.set t Ae))[i]?=_;rw[MO ts _ h.2,By (λz=>h.1 z.symm)]
theorem O4:∀(ts:Ac Af)(ds:Ac D)(U1 U2:Rho),U1.length=U2.length->(∀ j,j∉ts->U1[j]?=U2[j]?)->DD ts ds U1=DD ts ds U2
 |[],[],U1,U2,hl,h=>congrArg Aa (Us λj=>h j (by simp))
 |[],_::_,_,_,_,_=>rfl
 |_::_,[],_,_,_,_=>rfl
 |t::ts,d::ds,U1,U2,hl,h=>by
  refine O4 ts ds _ _ (by rw[AS,AS];exact hl) λj hj=>?_
  by_cases e:t=j
  .subst e;rw[Gh,Gh,AA rfl,AA rfl,hl]
  .rw[By e,By e];exact h j (by simp only[AG,Hj];exact⟨λz=>e z.symm,hj⟩)
theorem O2:∀(ts us:Ac Af)(ds:Ac D)(U U':Rho),(∀ t∈ts,t∈us)->DD ts ds U=Aa U'->EG us U'=EG us U
 |[],us,[],U,U',_,e=>by cases e;rfl
 |t::ts,us,d::ds,U,U',hs,e=>by
  rw[O2 ts us ds _ U' (λu hu=>hs u (Aw _ hu)) e]
  refine Us λj=>?_
  rw[Jw,Jw];by_cases h:j∈us
  .rw[AA h,AA h,Gh];split
   .rename_i e2;subst e2;split
    .rename_i h3;rw[BF h3];rfl
    .rename_i h3;rw[List.getElem?_eq_none (by omega)]
   .rfl
  .rw[AH h,AH h,By];rintro rfl;exact h (hs _ AC)
 |[],_,_::_,_,_,_,e=>by cases e
 |_::_,_,[],_,_,_,e=>by cases e
section
variable{K:Fg}{CL:ClA}{A:Ak->Prop}{U U':Rho}{Y:L2.St}{H:Hp}
theorem Good.less(g:Good K CL A U Y H)(hl:U'.length=U.length)(h:∀(i:Af)(d:D)(o:Ai),U'[i]?=Aa (Aa (d,o))->U[i]?=Aa (Aa (d,o))):Good K CL A U' Y H:=⟨λi d e=>g.sh i d (h i d Ad e),λi d e hn=>g.ow i d (h i d Ab e) hn,hl.trans g.len⟩
theorem Good.put(g:Good K CL A U Y H)(t:Af)(r:Rep K CL H A v d):Good K CL A (U.set t (Aa (d,Ad))) (Y.set t (Aa v)) H:=by
 refine⟨λj e h=>?_,λj e h hn=>?_,by rw[AS,AS];exact g.len⟩
 .by_cases hj:t=j
  .subst hj;have e1:=FA h;cases e1;have hl:t<Y.length:=by
    rw[<-g.len];have:=(AY.mp h).1;simpa using this
   exact⟨v,by rw[Ca hl],r⟩
  .rw[By hj]at h;obtain⟨w',q,rw'⟩:=g.sh j e h;exact⟨w',by rw[By hj];exact q,rw'⟩
 .have hj:t≠j:=by
   rintro rfl;have:=FA h;cases this
  rw[By hj]at h;obtain⟨a,xs,ds,q,z⟩:=g.ow j e h hn;exact⟨a,xs,ds,by rw[By hj];exact q,z⟩
theorem Good.hide(g:Good K CL A U Y H)(ts:Ac Af):Good K CL A (EG ts U) Y H:=g.less (Lg _ _) λi d o e=>by
 rw[Jw]at e;split at e
 .cases q:U[i]? with
  |none=>rw[q]at e;cases e
  |some x=>rw[q]at e;cases e
 .exact e
theorem Good.hideT(g:Good K CL A U Y H)(ts:Ac Af):Good K CL A (EG ts U) (hideT ts Y) H:=by
 have key:∀ i x,(EG ts U)[i]?=Aa (Aa x)->U[i]?=Aa (Aa x)/\i∉ts:=λi x e=>by
  rw[Jw]at e;split at e
  .cases q:U[i]? with
   |none=>rw[q]at e;cases e
   |some x=>rw[q]at e;cases e
  .exact⟨e,by assumption⟩
 refine⟨λi d e=>?_,λi d e hn=>?_,by rw[Lg,MU];exact g.len⟩
 .obtain⟨e1,e2⟩:=key i _ e;obtain⟨v,q,r⟩:=g.sh i d e1;exact⟨v,by rw[MO _ _ e2];exact q,r⟩
 .obtain⟨e1,e2⟩:=key i _ e;obtain⟨a,xs,ds,q,r⟩:=g.ow i d e1 hn;exact⟨a,xs,ds,by rw[MO _ _ e2];exact q,r⟩
end
def GG(K:Fg)(CL:ClA)(ts:Ac Af)(as:D->Rho->R Rho)(g:TG):Prop:=∀ A U Y H v d U' Q,Good K CL A (EG ts U) Y H->Rep K CL H A v d->as d U=.ok U'->(∀ Y',Good K CL A U' Y' H->Good K CL A (EG ts U) Y' H->Q Y' H)->g v Y H Q
theorem bL(i:Af):GG K CL [i] (λd U=>.ok (U.set i (Aa (d,Ad)))) (E6 i):=λA U Y H v d U' Q g r e k=>by
 cases e;have g2:=g.put i r;have e1:(EG [i] U).set i (Aa (d,Ad))=U.set i (Aa (d,Ad)):=by
  show (U.set i Ae).set i (Aa (d,Ad))=_;rw[UD]
 rw[e1]at g2;refine k _ g2 ?_;have:=g2.hide [i];have e2:EG [i] (U.set i (Aa (d,Ad)))=EG [i] U:=by
  show (U.set i _).set i Ae=U.set i Ae;rw[UD]
 rw[e2]at this;exact this
theorem Rt{K:Fg}{CL:ClA}{A:Ak->Prop}{H:Hp}:∀(ts:Ac Af)(ds:Ac D)(vs:Ac V)(U U':Rho)(Y:L2.St)(Q:L2.St->Hp->Prop),Good K CL A U Y H->Reps K CL H A vs ds->DD ts ds U=Aa U'->(∀ Y',Good K CL A U' Y' H->Q Y' H)->(ts.foldr (λt u=>HE (E6 t) u) HL) vs Y H Q
 |[],[],[],U,U',Y,Q,x,_,e,k=>by
  cases e;exact⟨rfl,k Y x⟩
 |t::ts,d::ds,v::vs,U,U',Y,Q,x,r,e,k=>⟨v,vs,rfl,Rt ts ds vs _ U' _ Q (x.put t r.1) r.2 e k⟩
 |[],_::_,_,_,_,_,_,_,_,e,_=>by cases e
 |_::_,[],_,_,_,_,_,_,_,e,_=>by cases e
 |[],[],_::_,_,_,_,_,_,r,_,_=>r.elim
 |_::_,_::_,[],_,_,_,_,_,r,_,_=>r.elim
theorem gX(ts:Ac Af):GG K CL ts (D2 ts) (KQ K ts.length (ts.foldr (λt u=>HE (E6 t) u) HL)):=λA U Y H v d U' Q g r e k=>by
 cases d with
 |tup ds=>
  obtain⟨a,xs,rfl,na,sq,rs⟩:=r;rw[Po]at e;cases e2:DD ts ds U with
  |none=>rw[e2]at e;cases e
  |some U2=>
   rw[e2]at e;cases e;have e3:DD ts ds (EG ts U)=Aa U':=by
    rw[<-e2];exact O4 ts ds _ _ (Lg _ _) λj hj=>by rw[Jw,AH hj]
   refine⟨a,xs,rfl,sq,by rw[rs.length];exact ML _ _ _ _ e2,Rt ts ds xs _ U' Y Q g rs e3 λY' g'=>k Y' g' ?_⟩
   have:=g'.hide ts;rw[O2 ts ts ds U U' (λ_ h=>h) e2]at this
   exact this
 |_=>cases e
noncomputable abbrev W0:XW:=λ_ _=>AV
def STs(X:Cx)(CL:ClA)(ifs:Ac Am)(f:Rho->R Ai):Prop:=∀ A,PTs X ifs (λY H Q=>AOk H A/\∃ U,Good X.K CL A U Y H/\Cw W0 H (f U) Q)
theorem Zj:STs X CL [] (λ_=>.ok Ab):=λA pI s Y H Q I ⟨hA,U,g,p⟩=>Z_6 pI s Y H Q I (p H (Ax.refl H))
theorem Zi{f:Rho->R Ai}(h:SB X CL W0 c f):STs X CL [c] f:=λA pI s Y H Q I q=>Z_5 (h A) pI s Y H Q I q
section
variable{X:Cx}{CL:ClA}{W:XW}{tg iter elt:Am}{ifs:Ac Am}{scope:BL}{pos:Az}{N':Ac Ag}{ts:Ac Af}{fi:Rho->R (Ac D)}{fc:Rho->R Ai}{fe:Rho->R D}{as:D->Rho->R Rho}{g:TG}
theorem Wz{g:D->R Ai}{f:D->R D}{x:D}{xs ys:Ac D}(h:B4 g f (x::xs)=.ok ys):(g x=.ok Ad/\B4 g f xs=.ok ys)\/∃ y r,g x=.ok Ab/\f x=.ok y/\B4 g f xs=.ok r/\ys=y::r:=by
 unfold B4 at h;cases e:g x with
 |bad=>rw[e]at h;cases h
 |exn z=>rw[e]at h;cases h
 |ok b=>
  rw[e,R.bind_ok]at h;cases b with
  |false=>exact .inl ⟨rfl,h⟩
  |true=>
   rw[AA rfl]at h;cases e2:f x with
   |bad=>rw[e2]at h;cases h
   |exn z=>rw[e2]at h;cases h
   |ok y=>
    rw[e2,R.bind_ok]at h;cases e3:B4 g f xs with
    |bad=>rw[e3]at h;cases h
    |exn z=>rw[e3]at h;cases h
    |ok r=>
     rw[e3,R.bind_ok]at h;cases h;exact .inr ⟨y,r,rfl,rfl,rfl,rfl⟩
theorem IK{β:Type}{r:R α}{f:α->R β}{b:β}(h:r.bind f=.ok b):∃ a,r=.ok a/\f a=.ok b:=by
 cases r with
 |ok a=>exact⟨a,rfl,h⟩
 |exn x=>cases h
 |bad=>cases h
theorem Xg{ds ys:Ac D}(hGG:GG K CL ts as g)(hA:AOk H1 A)(gd:Good K CL A U Y H1)(yl:Iz K CL A ds J H1)(hz:ds.length<=sizeLine)(hcp:B4 (λx=>(as x U).bind fc) (λx=>(as x U).bind fe) ds=.ok ys)(q:∀ xs H2,Ax H1 H2->Reps K CL H2 A xs ys->∀ p,H2 p=Ae->Q (.ref p) (upd H2 p (.lst xs))):Km J ts g (λY H Q=>AOk H A/\∃ U,Good K CL A U Y H/\Cw W0 H (fc U) Q) (λY H Q=>AOk H A/\∃ U,Good K CL A U Y H/\AU (λH=>Rep K CL H A) W0 H (fe U) Q) Y H1 Q:=by
 refine⟨λi m xs Y' H'=>m=ds.length-i/\i<=ds.length/\xs.length<=i/\Ax H1 H'/\Good K CL A (EG ts U) Y' H'/\∃ outs rest,Reps K CL H' A xs outs/\B4 (λx=>(as x U).bind fc) (λx=>(as x U).bind fe) (ds.drop i)=.ok rest/\ys=outs++rest,
  ⟨ds.length,by simp,DP _,AI _,Ax.refl _,gd.hideT ts,[],ys,trivial,hcp,rfl⟩,?_⟩
 rintro i m xs Y' H' ⟨rfl,hi,hxl,sm,g',outs,rest,rs,hc,e⟩;obtain⟨yst,ygo⟩:=yl H' (Kp.of sm) i;by_cases hlt:i<ds.length
 .have hd:ds[i]?=Aa ds[i]:=BF hlt;obtain⟨hgo,hyl⟩:=ygo _ hd;refine .inr ⟨hgo,by omega,λx H2 hx=>?_⟩
  obtain⟨s2,rx⟩:=hyl x H2 hx;have rx':=rx A (λa ha=>.inl ha) (hA.same sm)
  rw[Eu hlt]at hc;have sm2:=sm.trans s2;rcases Wz hc with ⟨h1,h2⟩|⟨y,r,h1,h2,h3,h4⟩
  .obtain⟨U',ea,ec⟩:=IK h1;refine hGG A U Y' H2 x ds[i] U' _ (g'.same s2) rx' ea λY3 g3 g4=>⟨hA.same sm2,U',g3,?_⟩
   rw[ec];exact λH3 s3=>by
    dsimp only;rw[AH (by decide)]
    exact⟨ds.length-(i+1),by omega,rfl,hlt,by omega,sm2.trans s3,g4.same s3,outs,rest,(rs.same s2).same s3,h2,e⟩
  .obtain⟨U',ea,ec⟩:=IK h1;obtain⟨U2,ea2,ee⟩:=IK h2;rw[ea]at ea2;cases ea2;refine hGG A U Y' H2 x ds[i] U' _ (g'.same s2) rx' ea λY3 g3 g4=>⟨hA.same sm2,U',g3,?_⟩
   rw[ec];exact λH3 s3=>by
    dsimp only;rw[AA rfl];refine⟨(hA.same sm2).same s3,U',g3.same s3,?_⟩;rw[ee];exact λv H4 s4 r4=>⟨ds.length-(i+1),by omega,rfl,hlt,by rw[BQ,C8];omega,(sm2.trans s3).trans s4,(g4.same s3).same s4,outs++[y],r,(((rs.same s2).same s3).same s4).append ⟨r4,trivial⟩,h3,by rw[e,h4];simp⟩
 .have hk':ds.length<=i:=by omega
  rw[E8 hk']at hc;have hr:rest=[]:=by cases hc;rfl
  subst hr;rw[Ch]at e;subst e;exact .inl ⟨yst hk',λp hp=>q xs H' sm rs p hp⟩
theorem EI.ok_of{r:R (Ac D)}{f:Ac D->R D}{Q':It->Hp->Prop}(h:AU Rq W H (r.bind f) Q)(k:∀ ds J H',r=.ok ds->Ax H H'->Iz K CL A ds J H'->ds.length<=sizeLine->AU Rq W H' (f ds) Q->Q' J H'):EI K CL A W H r Q':=by
 cases r with
 |ok d=>exact λJ H2 s2 y z=>k d J H2 rfl s2 y z (AU.same s2 h)
 |exn x=>exact h
 |bad=>exact h
theorem dF{r:R α}{a:α}(h:noX r=.ok a):r=.ok a:=by
 cases r with
 |ok b=>exact h
 |exn x=>cases h
 |bad=>cases h
theorem Qb(hGG:GG X.K CL ts as g)(hA:AOk H A)(gd:Good X.K CL A U Y H)(p:AU (Dj X.K CL Ab H A) W H ((fi U).bind λxs=>(noX (B4 (λx=>(as x U).bind fc) (λx=>(as x U).bind fe) xs)).bind λys=>.ok (.lst ys)) Q):EI X.K CL A W H (fi U) (λJ H1=>Km J ts g (λY H Q=>AOk H A/\∃ U,Good X.K CL A U Y H/\Cw W0 H (fc U) Q) (λY H Q=>AOk H A/\∃ U,Good X.K CL A U Y H/\AU (λH=>Rep X.K CL H A) W0 H (fe U) Q) Y H1 Q):=
 EI.ok_of p λds J H1 e1 s1 yl hz p1=>by
  cases e2:noX (B4 (λx=>(as x U).bind fc) (λx=>(as x U).bind fe) ds) with
  |ok ys=>
   rw[e2]at p1;exact Xg hGG (hA.same s1) (gd.same s1) yl hz (dF e2) λxs H2 s2 rs q hq=>p1 _ _ (s2.trans (Eo hq _)) (IM (s1.trans s2) ((hA.same s1).same s2) hq rs)
  |exn x=>rw[e2]at p1;cases hq:B4 (λx=>(as x U).bind fc) (λx=>(as x U).bind fe) ds<;>rw[hq]at e2<;>cases e2
  |bad=>rw[e2]at p1;exact p1.elim
theorem ZU(hc:X.calm=Ab)(B:BlockOk X scope N' ts)(hi:SI X CL W tg iter fi)(hGG:GG X.K CL ts as g)(hg:∀ cl C s H fp,PG (cxC X scope cl C N' s H fp) tg g)(ht:∀ cl C s H fp,STs (cxC X scope cl C N' s H fp) CL ifs fc)(he:∀ cl C s H fp,SE (cxC X scope cl C N' s H fp) CL W0 elt fe)(hs:∀ x,Cc iter X.env x=pure x):SC X CL W Ab (.ListComp elt [⟨tg,iter,ifs,0⟩] scope pos) (λU=>(fi U).bind λxs=>(noX (B4 (λx=>(as x U).bind fc) (λx=>(as x U).bind fe) xs)).bind λys=>.ok (.lst ys)):=λA pI s Y H Q I ⟨hA,U,gd,p⟩=>
 Zz hc B (hi A) hg (λcl C s H fp=>ht cl C s H fp A) (λcl C s H fp=>he cl C s H fp A) hs pI s Y H Q I ⟨hA,U,gd,Qb hGG hA gd p⟩
end
section
variable{K:Fg}{CL:ClA}{Fz:Fr}{B:Ak->Prop}{U:Rho}{Y:L2.St}{H H':Hp}
theorem Sx.setF(x:Sx K CL Fz B U Y H)(s:Ax H H'){ds:Ac D}(h0:H a=Ae)(h1:H' a=Aa (.lst xs))(r:Reps K CL H' (λb=>Bc B U Y b\/b=a) xs ds):Sx K CL Fz B (U.set i (Aa (.lst ds,Ab))) (Y.set i (Aa (.ref a))) H':=by
 have nA:¬ Bc B U Y a:=x.aok.new h0;have own:∀(j:Af)(e:D),(U.set i (Aa (.lst ds,Ab)))[j]?=Aa (Aa (e,Ab))->(i=j/\e=.lst ds)\/(i≠j/\U[j]?=Aa (Aa (e,Ab))):=λj e h=>by
  by_cases hj:i=j
  .subst hj;have:=FA h;cases this;exact .inl ⟨rfl,rfl⟩
  .exact .inr ⟨hj,by rw[By hj]at h;exact h⟩
 have atI:∀{j:Af}{y:Sl},(U.set i (Aa (.lst ds,Ab)))[j]?=Aa y->i=j->(Y.set i (Aa (.ref a)))[j]?=Aa (Aa (.ref a)):=λ{j y} h e=>by
  subst e;have hl:i<Y.length:=by
   rw[<-x.len];have:=(AY.mp h).1;simpa using this
  rw[Ca hl]
 have sub:∀ b,Bc B (U.set i (Aa (.lst ds,Ab))) (Y.set i (Aa (.ref a))) b->Bc B U Y b\/b=a:=λb h=>by
  rcases h with h|⟨j,e,h1,h2⟩
  .exact .inl (.inl h)
  .rcases own j e h1 with ⟨hj,_⟩|⟨hj,h1'⟩
   .rw[atI h1 hj]at h2;cases h2;exact .inr rfl
   .rw[By hj]at h2;exact .inl (.inr ⟨j,e,h1',h2⟩)
 have wide:∀{v:V}{d:D},Rep K CL H (Bc B U Y) v d->Rep K CL H' (Bc B (U.set i (Aa (.lst ds,Ab))) (Y.set i (Aa (.ref a)))) v d:=λr=>(Rep.wide (λb hb=>(sub b hb).imp id λe=>by rw[e];exact h0) _ r).same s
 have wides:∀{v:Ac V}{d:Ac D},Reps K CL H (Bc B U Y) v d->Reps K CL H' (Bc B (U.set i (Aa (.lst ds,Ab))) (Y.set i (Aa (.ref a)))) v d:=λr=>(Reps.wide (λb hb=>(sub b hb).imp id λe=>by rw[e];exact h0) _ r).same s
 refine⟨⟨λj e h=>?_,λj e h hn=>?_,by rw[AS,AS];exact x.len⟩,λb h=>?_,λj e b g1 g2=>?_,λj k e f b g1 g2 g3 g4=>?_,λb o z=>s _ _ (x.same b o z),by rw[AS,AS];exact x.len,λj h=>?_⟩
 .have hj:i≠j:=by
   rintro rfl;have:=FA h;cases this
  rw[By hj]at h;obtain⟨w',q,rw'⟩:=x.good.sh j e h;exact⟨w',by rw[By hj];exact q,wide rw'⟩
 .rcases own j e h with ⟨hj,rfl⟩|⟨hj,h'⟩
  .have q:=atI h hj;exact⟨a,xs,ds,q,rfl,.inr ⟨j,_,h,q⟩,h1,Reps.sub sub _ r⟩
  .obtain⟨b,ys,es,q,z,ha,hh,rr⟩:=x.good.ow j e h' hn;have q':(Y.set i (Aa (.ref a)))[j]?=Aa (Aa (.ref b)):=by rw[By hj];exact q
   exact⟨b,ys,es,q',z,.inr ⟨j,e,h,q'⟩,s _ _ hh,wides rr⟩
 .rcases sub b h with z|z
  .obtain⟨ys,q⟩:=x.aok b z;exact⟨ys,s _ _ q⟩
  .rw[z];exact⟨xs,h1⟩
 .rcases own j e g1 with ⟨hj,_⟩|⟨hj,h'⟩
  .rw[atI g1 hj]at g2;cases g2;refine⟨λo z=>?_,λz=>nA (.inl z)⟩
   have:=x.same a o z;rw[h0]at this;cases this
  .rw[By hj]at g2;exact x.new j e b h' g2
 .rcases own j e g1 with ⟨hj,_⟩|⟨hj,h'⟩
  .rw[atI g1 hj]at g3;cases g3;rcases own k f g2 with ⟨hk,_⟩|⟨hk,h''⟩
   .exact hj.symm.trans hk
   .rw[By hk]at g4;exact absurd (.inr ⟨k,f,h'',g4⟩) nA
  .rw[By hj]at g3;rcases own k f g2 with ⟨hk,_⟩|⟨hk,h''⟩
   .rw[atI g2 hk]at g4;cases g4;exact absurd (.inr ⟨j,e,h',g3⟩) nA
   .rw[By hk]at g4;exact x.dis j k e f b h' h'' g3 g4
 .rcases own j _ h with ⟨_,z⟩|⟨hj,h'⟩
  .cases z
  .obtain⟨b,ys,p1,p2,p3⟩:=x.pin j h';exact⟨b,ys,p1,by rw[By hj];exact p2,s _ _ p3⟩
theorem Sx.upd(x:Sx K CL Fz B U Y H){i:Af}{d:D}{a:Ak}{xs:Ac V}{ds:Ac D}(hi:U[i]?=Aa (Aa (d,Ab)))(ha:Y[i]?=Aa (Aa (.ref a)))(r:Reps K CL H (Bc B U Y) xs ds):Sx K CL Fz B (U.set i (Aa (.lst ds,Ab))) Y (L2.upd H a (.lst xs)):=by
 have oa:Bc B U Y a:=.inr ⟨i,d,hi,ha⟩;have hil:i<U.length:=(AY.mp hi).1;have get:∀(j:Af)(e:D),(U.set i (Aa (.lst ds,Ab)))[j]?=Aa (Aa (e,Ab))↔(i=j/\e=.lst ds)\/(i≠j/\U[j]?=Aa (Aa (e,Ab))):=λj e=>by
  by_cases hj:i=j
  .subst hj;rw[Ca hil];simp;exact⟨λz=>z.symm,λz=>z.symm⟩
  .rw[By hj];simp[hj]
 have same:∀ b,Bc B (U.set i (Aa (.lst ds,Ab))) Y b↔Bc B U Y b:=λb=>by
  constructor
  .rintro (h|⟨j,e,h1,h2⟩)
   .exact .inl h
   .rcases (get j e).mp h1 with ⟨rfl,_⟩|⟨_,h1⟩
    .exact .inr ⟨i,d,hi,h2⟩
    .exact .inr ⟨j,e,h1,h2⟩
  .rintro (h|⟨j,e,h1,h2⟩)
   .exact .inl h
   .by_cases hj:i=j
    .subst hj;exact .inr ⟨i,.lst ds,(get i _).mpr (.inl ⟨rfl,rfl⟩),h2⟩
    .exact .inr ⟨j,e,(get j e).mpr (.inr ⟨hj,h1⟩),h2⟩
 have kp:Kp (Bc B U Y) H (L2.upd H a (.lst xs)):=λb o e na=>by
  have hne:b≠a:=by
   rintro rfl;exact na oa
  rw[A6 hne];exact e
 refine⟨⟨λj e h=>?_,λj e h hn=>?_,by rw[AS];exact x.len⟩,λb h=>?_,λj e b g1 g2=>?_,λj k e f b g1 g2 g3 g4=>?_,λb o z=>?_,by rw[AS];exact x.len,λj h=>?_⟩
 .have hj:i≠j:=by
   rintro rfl;have:=FA h;cases this
  rw[By hj]at h;obtain⟨w',q,rw'⟩:=x.good.sh j e h;exact⟨w',q,Rep.sub (λb hb=>(same b).mp hb) _ (Rep.kp kp _ rw')⟩
 .rcases (get j e).mp h with ⟨rfl,rfl⟩|⟨hj,h'⟩
  .exact⟨a,xs,ds,ha,rfl,(same a).mpr oa,Dh,Reps.sub (λb hb=>(same b).mp hb) _ (Reps.kp kp _ r)⟩
  .obtain⟨b,ys,es,q,z,hb,hh,rr⟩:=x.good.ow j e h' hn;have hne:b≠a:=λz=>hj (x.dis i j d e a hi h' ha (z ▸ q))
   exact⟨b,ys,es,q,z,(same b).mpr hb,by rw[A6 hne];exact hh,Reps.sub (λb hb=>(same b).mp hb) _ (Reps.kp kp _ rr)⟩
 .obtain⟨ys,q⟩:=x.aok b ((same b).mp h);by_cases e:b=a
  .rw[e];exact⟨xs,Dh⟩
  .exact⟨ys,by rw[A6 e];exact q⟩
 .rcases (get j e).mp g1 with ⟨rfl,_⟩|⟨_,h'⟩
  .exact x.new i d b hi g2
  .exact x.new j e b h' g2
 .rcases (get j e).mp g1 with ⟨rfl,_⟩|⟨hj,h'⟩
  .rcases (get k f).mp g2 with ⟨rfl,_⟩|⟨hk,h''⟩
   .rfl
   .exact x.dis i k d f b hi h'' g3 g4
  .rcases (get k f).mp g2 with ⟨rfl,_⟩|⟨hk,h''⟩
   .exact x.dis j i e d b h' hi g3 g4
   .exact x.dis j k e f b h' h'' g3 g4
 .have hne:b≠a:=λe=>(x.new i d a hi ha).1 o (e ▸ z)
  rw[A6 hne];exact x.same b o z
 .rcases (get j _).mp h with ⟨_,z⟩|⟨hj,h'⟩
  .cases z
  .obtain⟨b,ys,p1,p2,p3⟩:=x.pin j h';have hne:b≠a:=λz=>hj (x.dis i j d _ a hi h' ha (z ▸ p2))
   exact⟨b,ys,p1,p2,by rw[A6 hne];exact p3⟩
theorem Sx.rel(x:Sx K CL Fz B U Y H)(hi:U[i]?=Aa (Aa (d,Ab)))(hn:d≠.non):Sx K CL Fz B (U.set i (Aa (d,Ad))) Y H:=by
 obtain⟨a,xs,ds,q,rfl,oa,hh,rr⟩:=x.good.ow i d hi hn;have own:∀(j:Af)(e:D),(U.set i (Aa (.lst ds,Ad)))[j]?=Aa (Aa (e,Ab))->i≠j/\U[j]?=Aa (Aa (e,Ab)):=λj e h=>by
  by_cases hj:i=j
  .subst hj;have:=FA h;cases this
  .exact⟨hj,by rw[By hj]at h;exact h⟩
 have sub:∀ b,Bc B (U.set i (Aa (.lst ds,Ad))) Y b->Bc B U Y b:=λb h=>by
  rcases h with h|⟨j,e,h1,h2⟩
  .exact .inl h
  .exact .inr ⟨j,e,(own j e h1).2,h2⟩
 have na:¬ Bc B (U.set i (Aa (.lst ds,Ad))) Y a:=λh=>by
  rcases h with h|⟨j,e,h1,h2⟩
  .exact(x.new i _ a hi q).2 h
  .obtain⟨hj,h1⟩:=own j e h1;exact hj (x.dis i j _ e a hi h1 q h2)
 refine⟨⟨λj e h=>?_,λj e h hn=>?_,by rw[AS];exact x.len⟩,λb h=>x.aok b (sub b h),λj e b g1 g2=>x.new j e b (own j e g1).2 g2,λj k e f b g1 g2 g3 g4=>x.dis j k e f b (own j e g1).2 (own k f g2).2 g3 g4,x.same,by rw[AS];exact x.len,λj h=>x.pin j (own j _ h).2⟩
 .by_cases hj:i=j
  .subst hj;have e1:=FA h;cases e1;exact⟨_,q,a,xs,rfl,.inl na,SqL.of hh,Reps.sub sub _ rr⟩
  .rw[By hj]at h;obtain⟨w',q',rw'⟩:=x.good.sh j e h;exact⟨w',q',Rep.sub sub _ rw'⟩
 .obtain⟨hj,h'⟩:=own j e h;obtain⟨b,ys,es,q',z,hb,hh',rr'⟩:=x.good.ow j e h' hn;exact⟨b,ys,es,q',z,.inr ⟨j,e,h,q'⟩,hh',Reps.sub sub _ rr'⟩
end
section
variable{X:Cx}{CL:ClA}{W:XW}{pos:Az}{e:Am}{fe:Rho->R D}{fr:Ai}
theorem Bj.exC{f:D->O}(x:Sx X.K CL Fz B U Y H)(h:Bj X.K CL Fz B W (O.of U r f) D')(k:∀ d v H',r=.ok d->Ax H H'->Dj X.K CL fr H A H' v d->Sx X.K CL Fz B U Y H'->Bj X.K CL Fz B W (f d) D'->Q v H'):AU (Dj X.K CL fr H A) W H r Q:=by
 cases r with
 |ok d=>exact λv H' s r=>k d v H' rfl s r (x.grow s) h
 |exn y=>exact λH' s=>h H' λb o z=>s _ _ (x.same b o z)
 |bad=>exact h
def SAs(X:Cx)(CL:ClA)(W:XW)(fr:Ai)(i:Af)(st:AD)(f:Rho->R D):Prop:=∀ A,PS X st (OE (λY H Q=>AOk H A/\∃ U,Good X.K CL A U Y H/\AU (Dj X.K CL fr H A) W H (f U) Q) (E6 i))
theorem SC.sas{n:Ag}(hN:X.N.Nodup)(hi:X.N[i]?=Aa n)(hx:Loc X.env.scope n)(he:SC X CL W fr e fe)(hs:Cp e (Aa (.Name n pos')) pos.line X.env=pure Ad)(hf:X.fn n=Ab\/X.env.scope.names.lookup n=Aa .local):SAs X CL W fr i (.Assign [.Name n pos'] e pos) fe:=
 λA=>Lu hN hi hx (he A) hs hf
theorem Yt{n:Ag}{fe:Rho->R D}{g:TG}(hc:X.calm=Ab)(B:BlockOk X scope N' ts)(hi:SI X CL W tg iter fi)(hGG:GG X.K CL ts as g)(hg:∀ cl C s H fp,PG (cxC X scope cl C N' s H fp) tg g)(ht:∀ cl C s H fp,STs (cxC X scope cl C N' s H fp) CL ifs fc)(he:∀ cl C s H fp,SE (cxC X scope cl C N' s H fp) CL W0 elt fe)(hs:∀ x,Cc iter X.env x=pure x)(hN:X.N.Nodup)(hni:X.N[i]?=Aa n)(hx:X.env.scope.names.lookup n=Aa .local)(hsw:Cp (.ListComp elt [⟨tg,iter,ifs,0⟩] scope pos) (Aa (.Name n pos')) pos2.line X.env=pure Ab):SAs X CL W Ab i (.Assign [.Name n pos'] (.ListComp elt [⟨tg,iter,ifs,0⟩] scope pos) pos2) (λU=>(fi U).bind λxs=>(noX (B4 (λx=>(as x U).bind fc) (λx=>(as x U).bind fe) xs)).bind λys=>.ok (.lst ys)):=λA pI s Y H Dn I ⟨hA,U,gd,p⟩=>
 aA hc B (hi A) hg (λcl C s H fp=>ht cl C s H fp A) (λcl C s H fp=>he cl C s H fp A) hs hN hni hx hsw pI s Y H Dn I ⟨hA,U,gd,Qb hGG hA gd p⟩
theorem RJ{st:AD}(h:SAs X CL W fr i st fe):SS X CL W st (λU=>O.of U (fe U) λd=>.next (U.set i (Aa (d,Ad)))):=λFz B pI s Y H D I ⟨U,x,p⟩=>
 h (Bc B U Y) pI s Y H D I ⟨x.aok,U,x.good,Bj.exC x p λd v H' _ s r x' q=>q _ H' (x'.set i r.1)⟩
theorem Q1{st:AD}(h:SAs X CL W Ab i st fe):SS X CL W st (λU=>O.of U (fe U) λd=>setF U i d):=λFz B pI s Y H D I ⟨U,x,p⟩=>
 h (Bc B U Y) pI s Y H D I ⟨x.aok,U,x.good,Bj.exC x p λd v H' _ s r x' q=>by
  cases d with
  |lst ds=>
   obtain⟨a,xs,rfl,h0,h1,rs⟩:=r.2 rfl ds rfl;exact q _ H' (x.setF s h0 h1 rs)
  |dic ds=>exact r.1.elim
  | _=>exact q.elim⟩
theorem YS(he:SC X CL W Ab e fe):SS X CL W (.Return (Aa e) pos) (λU=>O.of U (fe U) λd=>.ret d Ab):=λFz B pI s Y H D I ⟨U,x,p⟩=>
 NN (he (Bc B U Y)) pI s Y H D I ⟨x.aok,U,x.good,Bj.exC x p λd v H' _ s r x' q=>q v H' x'.same (Rep.sub (λa h=>.inl h) _ r.1) λ_ ds e=>by
  obtain⟨a,xs,h0,h1,h2,h3⟩:=r.2 rfl ds e;refine⟨a,xs,h0,λo z=>?_,h2,Reps.sub (λb hb=>hb.imp .inl id) _ h3⟩
  have:=x.same a o z;rw[h1]at this;cases this⟩
noncomputable def OP(U:Rho)(i:Af):Ai:=match U[i]? with
  |some (Aa (_,o))=>o
  |_=>Ad
theorem Zn(he:PE X e (Ec i)):SS X CL W (.Return (Aa e) pos) (λU=>O.of U (Dr U i) λd=>.ret d (OP U i)):=λFz B pI s Y H D I ⟨U,x,p⟩=>
 NN he pI s Y H D I (by
  dsimp only at p;cases e:Dr U i with
  |bad=>rw[e]at p;exact p.elim
  |exn z=>exact(La e).elim
  |ok d=>
   rw[e]at p;obtain⟨o,e,hn⟩:=QV e;have eo:OP U i=o:=by unfold OP;rw[e]
   rw[O.of_ok,eo]at p;cases o with
   |false=>
    obtain⟨v,q,r⟩:=x.good.sh i d e;exact⟨v,q,p v H x.same (Rep.sub (λa h=>.inl h) _ r) λz=>nomatch z⟩
   |true=>
    obtain⟨a,xs,ds,q,rfl,ha,hh,r⟩:=x.good.ow i d e (hn rfl);obtain⟨n1,n2⟩:=x.new i _ a e q;refine⟨_,q,p _ H x.same ⟨a,xs,rfl,.inl n2,SqL.of hh,Reps.sub (λa h=>.inl h) _ r⟩ λ_ ds' e'=>?_⟩
    cases e';exact⟨a,xs,rfl,n1,hh,Reps.sub (λb hb=>hb.elim .inl λz=>z ▸ ha) _ r⟩)
theorem QA{ds:Ac D}(h:C5 U i=.ok ds):U[i]?=Aa (Aa (.lst ds,Ab)):=by
 unfold C5 at h;split at h
 .rename_i e;cases h;exact e
 .cases h
theorem P1{x:Ex}(h:C5 U i=.exn x):AV:=by
 unfold C5 at h;split at h<;>cases h
variable{o:Am}{i:Af}{apos cpos:Az}
theorem cV(ho:PE X o (Ec i))(he:SE X CL W e fe)(hbase:CS o "append" X.env (eval o X.env)=eval o X.env)(hfew:((Br cpos (Aq [e] X.env)).all (λx=>!x.1)&&(Hl cpos (FY [] X.env)).all (λx=>x.1.isSome)&&decide ([e].length+([]:Ac DY).length+(if ([]:Ac DY).isEmpty then 0 else 1)<30))=Ab)(hline:(apos.endLine==cpos.line)=Ab)(hs:Aq [e] X.env=[(Ad,eval e X.env)])(hsw:Cp (.Call (.Attribute o "append" apos) [e] [] cpos) Ae pos.line X.env=pure Ad):
  SS X CL W (.Expr (.Call (.Attribute o "append" apos) [e] [] cpos) pos) (λU=>O.of U (C5 U i) λxs=>O.of U (fe U) λd=>if B5 (xs.length+1)=Ab then .next (U.set i (Aa (.lst (xs++[d]),Ab))) else .bad):=λFz B pI s Y H D I ⟨U,x,p⟩=>by
 refine Ke (N8 PySem.F.plainAttrs_list PySem.F.slot_list_append PySem.F.type_list_append Xl ho (Dz (he (Bc B U Y)) E3 hs) hbase hfew hline hs rfl) hsw pI s Y H D I ?_;dsimp only at p;cases e1:C5 U i with
 |bad=>rw[e1]at p;exact p.elim
 |exn z=>exact(P1 e1).elim
 |ok ds=>
  rw[e1,O.of_ok]at p;have hi:=QA e1;obtain⟨a,xs,ds',q,e2,ha,hh,r⟩:=x.good.ow i _ hi (λz=>nomatch z)
  cases e2;refine⟨_,q,.inl ⟨rfl,xs,SqL.of hh⟩,x.aok,U,x.good,Bj.ex x p λd v H' _ s rv x' q'=>?_⟩
  split at q'
  .rename_i hz;refine⟨a,xs,v,rfl,rfl,s _ _ hh,?_,q' _ _ (x'.upd hi q ((r.same s).append ⟨rv,trivial⟩))⟩;have:=IG hz;rw[r.length];omega
  .exact q'.elim
theorem Zm{rest:Ac AD}{f:Rho->O}(i:Af)(h:SSs X CL W rest f):SSs X CL W rest (λU=>(match U[i]? with
   |some (Aa (d,Ab))=>Md U i d
   | _=>O.next U).seq f):=λFz B=>PSs.weak (h Fz B) λD Y H ⟨U,x,p⟩=>by
 dsimp only at p;split at p
 .rename_i d e;cases d with
  |lst xs=>exact⟨_,x.rel e (λz=>nomatch z),p⟩
  |_=>exact p.elim
 .exact⟨U,x,p⟩
end
section
variable{X:Cx}{CL:ClA}{W:XW}{pos:Az}{e k o:Am}{fe fk:Rho->R D}{i:Af}{apos cpos:Az}
theorem AX.take(r:AX xs its):∀ n,AX (xs.take n) (its.take n):=by
 induction r with
 |nil=>intro n;simp;exact .nil
 |cons h _ ih=>
  intro n;cases n with
  |zero=>exact .nil
  |succ n=>exact .cons h (ih n)
theorem AX.drop(r:AX xs its):∀ n,AX (xs.drop n) (its.drop n):=by
 induction r with
 |nil=>intro n;simp;exact .nil
 |cons h t ih=>
  intro n;cases n with
  |zero=>exact .cons h t
  |succ n=>exact ih n
end
section
variable{prog:AJ}{w:AT}{A:AR}{E:Vq}{s:Ao}
theorem dD{j t:Ak}{its:A4 Aj}{x:Aj}{Q:Vq}(st:s.heap.IsTupleIter j t k)(sq:s.heap.IsTuple t its)(at_:its[k]?=Aa x)(go:∀ h2,h2.IsTupleIter j t (k+1)->DX j s.heap h2->Q x {s with heap:=h2}):At (model prog w) A (Do (.ref j)) Q E s:=by
 obtain⟨oj,gj,cj,dj⟩:=id st;obtain⟨ot,gt,_,nt,dt⟩:=sq;show At _ _ (Ia _ _ >>= _) _ _ _;refine Ap (EW st.typeIs Dd (GE Dd st.typeIs Vu ?_ (Vr _)));show At _ _ (field (.ref j) 0 >>= _) _ _ _;refine Ap (CI gj dj (x:=.ref t) rfl ?_);show At _ _ (field (.ref j) 1 >>= _) _ _ _;refine Ap (CI gj dj (x:=.int k 0) rfl ?_);refine Ap (Wt gt dt ?_);simp only[Ul,at_];exact Ap (ES gj dj (by simp) (AM ⟨x,rfl,AM (go _ ⟨_,CC _ gj (DZ (CD dj _)),(VE ..).trans cj,by rw[CD dj];simp[Ei]⟩ (VB ..))⟩))
theorem Xk{j t:Ak}{its:A4 Aj}{Q:Vq}(calm:A.handled=Ae)(st:s.heap.IsTupleIter j t k)(sq:s.heap.IsTuple t its)(at_:its[k]?=Ae)(up:∀ h2 e,Vz j s.heap h2->(∃ o,h2.get? e=Aa o/\o.cls=.type "StopIteration")->E (.ref e) {s with heap:=h2}):At (model prog w) A (Do (.ref j)) Q E s:=by
 obtain⟨oj,gj,cj,dj⟩:=id st;obtain⟨ot,gt,_,nt,dt⟩:=sq;show At _ _ (Ia _ _ >>= _) _ _ _;refine Ap (EW st.typeIs Dd (GE Dd st.typeIs Vu ?_ (Vr _)));show At _ _ (field (.ref j) 0 >>= _) _ _ _;refine Ap (CI gj dj (x:=.ref t) rfl ?_);show At _ _ (field (.ref j) 1 >>= _) _ _ _;refine Ap (CI gj dj (x:=.int k 0) rfl ?_);refine Ap (Wt gt dt ?_);simp only[Ul,at_];refine Ap (wpAny_rule (Ap (ES gj dj (by simp) ?_)))
 refine Ap ?_;simp only[newExc,newTuple];refine Ap (Cj ?_ (by size_fits))
 refine Ap (m:=Wf _ _) (GY (a:=.none) (by first|rfl|(simp only[Wf];rfl)) (Cj ?_ (by size_fits)))
 simp only[raiseNew];refine Ap (wpAny_handled ?_)
 first|rw[show A.in1.handled=Ae from calm]|rw[calm]
 exact Ap (AM (wpAny_throw (up _ _ (((VB ..).extBut.push _).push _) ⟨_,AW _ rfl,rfl⟩)))
end
structure Dw (prog:AJ) (w:AT) (A:AR) (j:Ak) (fp:Ac Ak) (n:Af) (P:Af->Aj->Prop) (S:Af->AB->Prop):Prop where
 frame:∀ i h h2,S i h->(∀ c∈fp,∀ o,h.get? c=Aa o->h2.get? c=Aa o)->S i h2
 item:∀ i (s:Ao) (Q:Vq) (E:Vq),i<n->S i s.heap->(∀ x h2 tk,P i x->S (i+1) h2->DX j s.heap h2->Q x {s with heap:=h2,toks:=tk})->At (model prog w) A (Do (.ref j)) Q E s
 done:∀ i (s:Ao) (Q:Vq) (E:Vq),n<=i->S i s.heap->(∀ h2 e,Vz j s.heap h2->(∃ o,h2.get? e=Aa o/\o.cls=.type "StopIteration")->E (.ref e) {s with heap:=h2})->At (model prog w) A (Do (.ref j)) Q E s
def FD(t:Ai)(h:AB)(j l:Ak)(i:Af):Prop:=match t with
  |true=>h.IsTupleIter j l i
  |false=>h.IsListIter j l i
def FS(t:Ai)(h:AB)(l:Ak)(its:A4 Aj):Prop:=match t with
  |true=>h.IsTuple l its
  |false=>h.IsList l its
theorem S0{A:AR}(calm:A.handled=Ae)(t:Ai)(j l:Ak)(ne:l≠j)(its:A4 Aj):Dw prog w A j [j,l] its.size (λi v=>its[i]?=Aa v) (λi h=>FD t h j l i/\FS t h l its):=by
 cases t with
 |true=>exact⟨λ_ _ _ z k=>⟨z.1.at λo e=>k j (by simp) o e,z.2.at λo e=>k l (by simp) o e⟩,λi s Q E hi z q=>dD z.1 z.2 (x:=its[i]) (by simp[hi]) λh2 z2 sb=>q _ h2 s.toks (by simp[hi]) ⟨z2,z.2.extBut sb.extBut ne⟩ sb,λi s Q E hi z q=>Xk calm z.1 z.2 (by simp[hi]) q⟩
 |false=>exact⟨λ_ _ _ z k=>⟨z.1.at λo e=>k j (by simp) o e,z.2.at λo e=>k l (by simp) o e⟩,λi s Q E hi z q=>wpAny_nextOf_list_item z.1 z.2 (x:=its[i]) (by simp[hi]) λh2 z2 sb=>q _ h2 s.toks (by simp[hi]) ⟨z2,z.2.extBut sb.extBut ne⟩ sb,λi s Q E hi z q=>wpAny_nextOf_list_end calm z.1 z.2 (by simp[hi]) q⟩
theorem nb2{I l c:Af}(b:l<I)(h:c∈[I+1,l]):c≠I/\c≠I+3/\c≠I+4:=by
 have h':c=I+1\/c=l:=by simpa using h
 omega
theorem ni0{I i:Af}(h:i≠0):I+i≠I:=by omega
section
variable{prog:AJ}{w:AT}{A:AR}{E:Vq}{s:Ao}
end
def SqX(t:Ai)(K:Fg)(H:Hp)(a:Ak)(xs:Ac V):Prop:=match t with
  |true=>SqT K H a xs
  |false=>SqL K H a xs
theorem NY(I:Inv X pI Y H s)(h:SqX t X.K H a xs):∃ its:Ac Aj,AX xs its/\FS t s.heap a its.toArray/\xs.length<=sizeLine:=by
 cases t with
 |true=>
  obtain⟨its,rv,p,z⟩:=I.tuple h;exact⟨its,rv,p,z⟩
 |false=>
  obtain⟨its,rv,p,z⟩:=I.list h;exact⟨its,rv,p.isList,z⟩
theorem WT(I:Inv X pI Y H s)(h:SqX t X.K H a xs)(h2:SqX t X.K H a ys):xs=ys:=by
 cases t with
 |true=>exact I.tuple_inj h h2
 |false=>exact I.list_inj h h2
theorem Inv.turnedL{t':Af}(ch:Ac Ak)(I:Inv X pI Y H s)(k:∀ b o,b∉ch->s.heap.get? b=Aa o->h'.get? b=Aa o)(hf:∀ b∈ch,Gg X pI H b):Inv X pI Y H {s with heap:=h',toks:=t'}:=by
 have nit:∀ b u,H b=Aa u->b∉ch:=λb u e z=>by rw[(hf b z).1]at e;cases e
 refine I.step (g':=s.gens) (d':=s.drawn) (ch:=ch) (λb hb=>⟨(hf b hb).2.2.2.1,(hf b hb).2.1,(hf b hb).2.2.2.2.1,(hf b hb).2.2.2.2.2⟩) (λb o _ _ hc e _=>k b o hc e) (λb o _ _ hc e _=>⟨o.slots,k b o hc e⟩) (λ_ _ _ _ n=>n)
  (λb o hc e=>⟨o,k b o hc e⟩) (λ_ _ e=>e) (λ_ _ _ e=>e) (λb ps e=>⟨#[],by rw[e];simp⟩) (λm ⟨o,es,ep,ho,r⟩=>⟨o,es,ep,k _ o (λz=>(hf _ z).2.1 rfl) ho,r⟩) (λb u e=>(I.hok b u e).stay (λc v hc q=>k c v ?_ q) (λ_ q=>q) λ_ _ q=>q) I.bare
 rcases hc with z|z
 .rw[z];exact nit b u e
 .exact nit c _ z
section
variable{prog:AJ}{w:AT}{A:AR}{E:Vq}{s:Ao}
noncomputable def itO(t:Ai)(l:Ak):Cz:=match t with
  |true=>{ cls:=.type "tuple_iterator",data:=.fields #[.ref l,.int 0 0] }
  |false=>{ cls:=.type "list_iterator",data:=.fields #[.ref l,.int 0 0] }
theorem Ou{its:A4 Aj}{Q:Vq}(h:FS t s.heap l its)(q:Q (.ref s.heap.objs.size) {s with heap:=s.heap.push (itO t l)}):At (model prog w) A (J9 (.ref l)) Q E s:=by
 cases t with
 |true=>exact F4 h q
 |false=>exact E1 h q
theorem FS.push{its:A4 Aj}(z:FS t h l its)(o:Cz):FS t (h.push o) l its:=by
 cases t with
 |true=>exact PySem.Heap.IsTuple.at z λ_ e=>As _ e
 |false=>exact PySem.Heap.IsList.at z λ_ e=>As _ e
theorem gQ{j:Ak}(e:h.get? j=Aa (itO t l)):FD t h j l 0:=by
 cases t with
 |true=>exact⟨_,e,rfl,rfl⟩
 |false=>exact⟨_,e,rfl,rfl⟩
theorem XI(t:Ai)(l:Ak):(itO t l).isFreed=Ad:=by cases t<;>rfl
end
theorem FS.lt{its:A4 Aj}(z:FS t h a its):a<h.objs.size:=by
 cases t with
 |true=>obtain⟨o,e,_⟩:=z;exact AE e
 |false=>obtain⟨o,e,_⟩:=z;exact AE e
theorem iW{ds:Ac D}(r:Rep K CL H A v d)(e:DU d=.ok ds):∃ t a xs,v=.ref a/\(∀ H2,Kp A H H2->SqX t K H2 a xs)/\Reps K CL H A xs ds:=by
 cases d with
 |lst es=>
  cases e;obtain⟨q,xs,rfl,na,sq,r⟩:=r;exact⟨Ad,q,xs,rfl,λH2 k=>Lr k na sq,r⟩
 |tup es=>
  cases e;obtain⟨q,xs,rfl,na,sq,r⟩:=r;exact⟨Ab,q,xs,rfl,λH2 k=>Lz k na sq,r⟩
 |_=>cases e
section
variable{X:Cx}{CL:ClA}{W:XW}{pos p:Az}{a b:Am}{fa fb:Rho->R D}
end
theorem FD.live{l:Af}(z:FD t h j l i):∃ o,h.get? j=Aa o/\∀ v,o.data≠.cell v:=by
 cases t with
 |true=>obtain⟨o,e,c,d⟩:=z;exact⟨o,e,λv z=>by rw[d]at z;cases z⟩
 |false=>obtain⟨o,e,c,d⟩:=z;exact⟨o,e,λv z=>by rw[d]at z;cases z⟩
theorem FD.keep{h2:AB}{l:Af}(z:FD t h j l i)(k:∀ o,h.get? j=Aa o->h2.get? j=Aa o):FD t h2 j l i:=by
 cases t with
 |true=>exact PySem.Heap.IsTupleIter.at z k
 |false=>exact PySem.Heap.IsListIter.at z k
theorem fW{A:AR}(calm:A.handled=Ae)(t:Ai)(j l:Ak)(ne:l≠j)(its:A4 Aj):Draws prog w A j [j,l] its.size (λi v=>its[i]?=Aa v) (λi h=>FD t h j l i/\FS t h l its):=
 have d:=S0 (prog:=prog) (w:=w) calm t j l ne its
 ⟨λi h z=>let ⟨o,e,_⟩:=z.1.live;⟨o,e⟩,d.frame,d.item,λs Q E h q=>d.done _ s Q E (AI _) h q⟩
theorem aM{A:AR}(calm:A.handled=Ae)(t:Ai)(j l:Ak)(ne:l≠j)(its:A4 Aj)(i:Af)(hi:its.size<=i):Draws prog w A j [j,l] i (λ_ _=>AV) (λk h=>k=i/\FD t h j l i/\FS t h l its):=
 have d:=S0 (prog:=prog) (w:=w) calm t j l ne its
 ⟨λ_ h z=>let ⟨o,e,_⟩:=z.2.1.live;⟨o,e⟩,λk h h' z q=>⟨z.1,d.frame i h h' z.2 q⟩,λk s Q E lt z=>absurd z.1 (A9 lt),λs Q E h q=>d.done i s Q E hi h.2 q⟩
noncomputable def Ite(K:Fg)(t:Ai)(a:Ak):It:=
 ⟨λi H=>∃ xs x,SqX t K H a xs/\xs[i]?=Aa x,λi H v H'=>∃ p x,H p=Ae/\v=.ref p/\(∀ xs,SqX t K H a xs->xs[i]?=Aa x)/\H'=upd H p (.tup [.int i,x]),λi H=>∃ xs,SqX t K H a xs/\xs.length<=i⟩
def eTn(t:Ai)(I l:Af)(i:Af)(h:AB):Prop:=(∃ old,IsEnum h (I+1) I i old)/\FD t h I l i
theorem W8{P:AJ}(t:Ai)(I l:Af)(b:l<I):Turn P w K (.Tuple es n pos) (Ite K t l) [I,I+1] (I+1) (eTn t I l) where
  mem:=by simp
  obj:=λi h ⟨⟨old,z1⟩,z2⟩ c hc=>by
    simp only[AG,CU,FW]at hc;rcases hc with rfl|rfl
    · exact z2.live
    · exact⟨_,z1,λv z=>by cases z⟩
  keep:=λi h h2 ⟨⟨old,z1⟩,z2⟩ k=>⟨⟨old,k _ (by simp) _ z1⟩,z2.keep λo e=>k _ (by simp) o e⟩
  item:=by
    intro X hP hw hK hc i pI s Y H E Iv hf ⟨⟨old,z1⟩,z2⟩ ⟨xs,x,q1,hx⟩;subst hP hw hK;obtain⟨us,rx,px,_⟩:=NY Iv q1;obtain⟨u,hu,ru⟩:=rx.get hx;have lu:i<us.toArray.size:=by
      have:=(AY.mp hu).1;simpa using this
    refine wpAny_pyNext_enum_itemD (fW (A:=X.A.in1) (Iv.ok.hd hc) t I l (A9 b) us.toArray) z1 ⟨z2,px⟩ lu (ni0 (by decide)) (by simp only[AG,CU,FW,Hj];exact⟨ni0 (by decide),GA (AL b (Nat.le_add_right _ _))⟩) λu' h2 tk hu' ho it2 hT sz kp=>⟨_,rfl,wpAny_letOwnedTupleGo_enum ho λh3 d1 sb=>?_⟩
    have eu:u'=u:=by
      rw[List.getElem?_toArray,hu]at hu';exact(Bf hu').symm
    subst eu;have lt:I+1<s.heap.objs.size:=AE z1;have kp3:∀ c o,c∉[I,I+1]->s.heap.get? c=Aa o->h3.get? c=Aa o:=λc o nc q=>by
      simp only[AG,CU,FW,Hj]at nc;exact sb.extBut c o nc.2 (kp c o nc.2 nc.1 q)
    have nT:∀ c∈[I,I+1],c≠s.heap.objs.size:=λc hc z=>by
      have:c<=I+1:=by
        simp only[AG,CU,FW]at hc;rcases hc with z|z<;>rw[z]<;>simp
      exact absurd (z ▸ DK this lt) (Bg _)
    have I1:Inv X pI Y (upd H s.heap.objs.size (.tup [.int i,x])) { s with heap:=s.heap.push { cls:=.type "tuple",data:=.seq #[.int i tk,u'] },toks:=s.toks }:=
      Iv.laid (λ_ _ q=>As _ q) (AI _) ⟨(by decide:2<=sizeLine),[.int i tk,u'],.cons ⟨_,rfl⟩ (.cons ru .nil),⟨_,AW _ rfl,rfl,_,rfl⟩⟩
    have hf':∀ b∈[I,I+1],Gg X pI (upd H s.heap.objs.size (.tup [.int i,x])) b:=λb hb=>⟨by rw[A6 (nT b hb)];exact(hf b hb).1,(hf b hb).2⟩
    have I2:Inv X pI Y (upd H s.heap.objs.size (.tup [.int i,x])) {s with heap:=h3,toks:=tk+1}:=Inv.turnedL (s:={ s with heap:=s.heap.push { cls:=.type "tuple",data:=.seq #[.int i tk,u'] },toks:=s.toks }) [I,I+1] I1 (λc o nc q=>by
      rcases Heap.get?_push_cases q with ⟨e1,e2⟩|e1
      · subst e1 e2;exact sb.extBut _ _ (GA lt) hT
      · exact kp3 c o nc e1) hf'
    exact⟨.ref s.heap.objs.size,_,I2,rfl,⟨s.heap.objs.size,x,Iv.fresh,rfl,λzs hz=>by rw[WT Iv hz q1];exact hx,rfl⟩,⟨⟨u',by simpa using d1⟩,it2.1.keep λo q=>sb.extBut _ o (CV (ni0 (by decide))) q⟩,λb hb=>(hf' b hb).1⟩
  done:=by
    intro X hP hw hK hc i pI s Y H E Iv hf ⟨⟨old,z1⟩,z2⟩ ⟨xs,q1,hk⟩;subst hP hw hK;obtain⟨us,rx,px,_⟩:=NY Iv q1;have e1:=rx.length;have e2:us.toArray.size<=i:=by rw[AN,<-e1];exact hk
    refine wpAny_pyNext_enum_endD (aM (A:=X.A.in1) (Iv.ok.hd hc) t I l (A9 b) us.toArray i e2) z1 ⟨rfl,z2,px⟩ λh2 eb=>⟨rfl,Inv.turnedL [I] Iv (t':=s.toks) (λc o nc q=>eb c o (λz=>nc (by simp[z])) q) λc hc=>hf c ?_⟩
    have:c=I:=by simpa using hc
    subst this;simp
  self:=λ_ _ _ _ _ st h=>Ws st.1.choose_spec h
section
variable{prog:AJ}{w:AT}{A:AR}{E:Vq}{s:Ao}
theorem YK(t:Ai)(l:Ak)(xs:A4 Aj):Meets (Builtin.«enumerate.__new__» ⟨[.type "enumerate",.ref l],[]⟩) (λ_ R s=>FS t s.heap l xs /\
   R (.ok (.ret (.ref (s.heap.push (itO t l)).objs.size))) { s with heap:=(s.heap.push (itO t l)).push { cls:=.type "enumerate",data:=.fields #[.none,.bool Ad,.ref s.heap.objs.size,Ei 0,.none,.none] } }):=
 .of_wp λprog w A R s h=>by
  obtain⟨hp,g,d,tk,os⟩:=s;obtain⟨hl,h⟩:=h;have hsub:=sub_enumerate;have hL:FS t (Shared.heap ⟨hp,g,d,tk,os⟩) l xs:=hl
  wp_walk
  refine wpAny_stack_any λst=>AM ?_
  split
  .rename_i c _ _ _ _ _;cases (c==Ji "enumerate")
   .wp_walk using Ou hL
    exact⟨_,rfl,h⟩
   .wp_walk using Ou hL
    exact⟨_,rfl,h⟩
  .wp_walk using Ou hL
   exact⟨_,rfl,h⟩
theorem Xf{xs:A4 Aj}{Q:Vq}(hL:FS t s.heap l xs)(h:∀ h',IsEnum h' (s.heap.objs.size+1) s.heap.objs.size 0 .none->FD t h' s.heap.objs.size l 0->(∀ b o,s.heap.get? b=Aa o->h'.get? b=Aa o)->Q (.ref (s.heap.objs.size+1)) {s with heap:=h'}):
    At (model prog w) A (call (.type "enumerate") [.ref l]) Q E s:=by
  refine callType_new F.called_enumerate (by decide) (F.typeCall_enumerate_1 _) (F.newCall_enumerate_1 _) (λobj=>F.args_object_init_2 obj _) F.entry_enumerate_new (YK t l xs) ⟨hL,?_⟩
  have hz:(s.heap.push (itO t l)).objs.size=s.heap.objs.size+1:=CW ..;show _/\_;rw[hz];have he:IsEnum ((s.heap.push (itO t l)).push { cls:=.type "enumerate",data:=.fields #[.none,.bool Ad,.ref s.heap.objs.size,Ei 0,.none,.none] }) (s.heap.objs.size+1) s.heap.objs.size 0 .none:=by
    have:=AW (s.heap.push (itO t l)) (o:={ cls:=.type "enumerate",data:=.fields #[.none,.bool Ad,.ref s.heap.objs.size,Ei 0,.none,.none] }) rfl;rw[hz]at this;exact this
  exact⟨⟨_,he,rfl⟩,h _ he (gQ (As _ (AW _ (XI _ _)))) λb o x=>As _ (As _ x)⟩
end
def mP(K:Fg)(ta:TA):TI:=λY H R=>ta Y H λvs H1=>∃ t a xs,vs=[.ref a]/\SqX t K H1 a xs/\(xs.length<=sizeLine->R (Ite K t a) H1)
theorem QK{a:Am}{ta:TA}(hg:Gl X "enumerate")(hm:X.mg "enumerate" = Ae)(ha:PA X [a] ta)(hs:Aq [a] X.env=[(Ad,eval a X.env)]):
  PI X (.Tuple es n tpos) (.Call (.Name "enumerate" p) [a] [] pos) (mP X.K ta):=by
 intro pI s Y H R I h;refine Call_ (JE I hg hm PyProof.Rows.boot_enumerate (C3 (thn (ha pos pI s Y H _ I h) λus s1 ⟨vs,H1,I1,r1,q1⟩=>?_) hs rfl))
 obtain⟨t,c,xs,e,sx,q⟩:=q1;subst e;cases r1 with
 |cons r rr=>
  cases rr;cases r;obtain⟨us,ru,pu,zu⟩:=NY I1 sx;refine Xf pu λh2 z1 z2 kp=>Ws z1 ?_
  refine⟨s1.heap.objs.size+1,[s1.heap.objs.size,s1.heap.objs.size+1],_,_,H1,rfl,I1.kept (t':=s1.toks) kp,W8 t s1.heap.objs.size c pu.lt,⟨⟨_,z1⟩,z2⟩,λb hb=>?_,q zu⟩
  have hb':s1.heap.objs.size<=b:=by
   simp only[AG,CU,FW]at hb;rcases hb with z|z<;>rw[z]<;>simp
  exact I1.fpOk hb' (I1.hok.fresh hb')
theorem Le:∀(j:Ah)(xs:Ac D),(Cm j xs).length=xs.length
 |_,[]=>rfl
 |j,x::xs=>by rw[Cm,AZ,Le,AZ]
theorem Nk:∀(xs:Ac D)(j:Ah)(i:Af)(d:D),(Cm j xs)[i]?=Aa d->∃ x,xs[i]?=Aa x/\d=.tup [.int (j+i),x]
 |[],j,i,d,h=>by simp[Cm]at h
 |x::xs,j,0,d,h=>by
  rw[Cm]at h;simp only[List.getElem?_cons_zero,Option.some.injEq]at h;exact⟨x,rfl,by rw[<-h];simp⟩
 |x::xs,j,i+1,d,h=>by
  rw[Cm]at h;simp only[List.getElem?_cons_succ]at h ⊢;obtain⟨y,h1,h2⟩:=Nk xs (j+1) i d h;exact⟨y,h1,by rw[h2];congr 3;omega⟩
theorem W4{ds:Ac D}(sq:∀ H2,Kp A H1 H2->SqX t K H2 a xs)(r1:Reps K CL H1 A xs ds):Iz K CL A (Cm 0 ds) (Ite K t a) H1:=λH k i=>by
 have s1:=sq H k;refine⟨λhi=>⟨xs,s1,?_⟩,λd hd=>?_⟩
 .rw[Le]at hi;rw[r1.length];exact hi
 .obtain⟨x,hx,rfl⟩:=Nk _ _ _ _ hd;obtain⟨u,hu,ru⟩:=r1.get hx;refine⟨⟨xs,u,s1,hu⟩,?_⟩;rintro w' H' ⟨p,x',hp,rfl,c1,rfl⟩;have ex:x'=u:=Bf ((c1 xs s1).symm.trans hu);subst ex;rw[Um];exact⟨Eo hp (.tup [.int i,x']),λB hB aB=>Jy aB hp ⟨rfl,MG ru k hB,trivial⟩⟩
section
variable{X:Cx}{CL:ClA}{W:XW}{pos p:Az}{a:Am}{fa:Rho->R D}
theorem Y_0(ha:SE X CL W a fa)(hg:Gl X "enumerate")(hm:X.mg "enumerate" = Ae)(hs:Aq [a] X.env=[(Ad,eval a X.env)]):
  SI X CL W (.Tuple es n tpos) (.Call (.Name "enumerate" p) [a] [] pos) (λU=>(fa U).bind λx=>(DU x).bind λxs=>.ok (Cm 0 xs)):=
 λA=>PI.weak (QK hg hm (Dz (ha A) E3 hs) hs) λY H R ⟨hA,U,g,q⟩=>⟨hA,U,g,EI.ex q λd v H1 _ s1 r1 p1=>by
  cases e1:DU d with
  |bad=>rw[e1]at p1;exact p1.elim
  |exn z=>exact absurd e1 (by cases d<;>simp[DU])
  |ok ds=>
   rw[e1]at p1;obtain⟨t,c,xs,rfl,k1,rs⟩:=iW r1 e1;exact⟨t,c,xs,rfl,k1 H1 (Kp.of (Ax.refl H1)),λhz=>p1 _ H1 (Ax.refl H1) (W4 k1 rs) (by rw[Le,<-rs.length];exact hz)⟩⟩
end
noncomputable abbrev T5(h:AB)(z TI TO:Ak)(f0 f1:Aj):Prop:=h.get? z=Aa { cls:=.type "zip",dict:=Ae,data:=.fields #[f0,f1,.bool Ad,.ref TI,.ref TO],slots:=#[] }
noncomputable abbrev T6(h:AB)(T:Ak)(a b c:Aj):Prop:=h.get? T=Aa { cls:=.type "tuple",data:=.seq #[a,b,c] }
section
variable{prog:AJ}{w:AT}{A:AR}{E:Vq}{s:Ao}
def Z_3(t1 t2 t3:Ai)(I l1 l2 l3 i:Af)(h:AB):Prop:=T6 h (I+3) (.ref (I+0)) (.ref (I+1)) (.ref (I+2))/\FD t1 h (I+0) l1 i/\FD t2 h (I+1) l2 i/\FD t3 h (I+2) l3 i/\(∃ a b c,T6 h (I+4) a b c) /\
 (T5 h (I+5) (I+3) (I+4) .none (.bool Ad)\/∃(T1:Af)(f1:Ai),T5 h (I+5) (I+3) (I+4) (Ei T1) (.bool f1))
end
section
variable{prog:AJ}{w:AT}{A:AR}{R:GD->Ao->Prop}
end
section
variable{prog:AJ}{w:AT}{A:AR}{E:Vq}{s:Ao}
end
theorem Z_3.ty{t1 t2 t3:Ai}{I l1 l2 l3 i:Af}(z:Z_3 t1 t2 t3 I l1 l2 l3 i s.heap):s.TypeIs (.ref (I+5)) "zip" := by
 obtain⟨_,_,_,_,_,hz|⟨_,_,hz⟩⟩:=z
 .exact⟨_,hz,rfl⟩
 .exact⟨_,hz,rfl⟩
theorem Z_3.lt{t1 t2 t3:Ai}{I l1 l2 l3 i:Af}(z:Z_3 t1 t2 t3 I l1 l2 l3 i s.heap):I+5<s.heap.objs.size:=by
 obtain⟨o,h,_⟩:=z.ty;exact AE h
section
variable{prog:AJ}{w:AT}{A:AR}{E:Vq}{s:Ao}
end
section
variable{X:Cx}{CL:ClA}{W:XW}{pos p pos' p':Az}{a b c:Am}{fa fb fc:Rho->R D}
end
section
variable{X:Cx}{CL:ClA}{W:XW}{pos p tpos:Az}{a b c:Am}{fa fb fc:Rho->R D}{x:Ag}
end
section
variable{X:Cx}{CL:ClA}{W:XW}{a:Am}{fa:Rho->R D}
end
section
variable{X:Cx}{CL:ClA}{W:XW}{o o' e:Am}{fe:Rho->R D}{i j:Af}{apos cpos apos' cpos' pos:Az}
end
section
variable{X:Cx}{CL:ClA}{W:XW}
end
section
variable{X:Cx}
variable{CL:ClA}{W:XW}{pos p pos' p':Az}{a b:Am}{fa fb:Rho->R D}
end
section
variable{X:Cx}{CL:ClA}{W:XW}{e o o' k l:Am}{fe:Rho->R Ov.D}{i ik il:Af}{pos spos spos' tpos:Az}{kt:Af}
end
section
variable{prog:AJ}{w:AT}{A:AR}{E:Vq}{s:Ao}
end
section
variable{X:Cx}{pos:Az}{CL:ClA}
end
section
variable{X:Cx}{CL:ClA}{W:XW}
end
end Ov
namespace Ov
open PySem PySem.W PyProof.Rows
variable{p:A4 Af}{m:Af}
def Kr{α:Type}(lt:Af->Af->Ai)(n:Af):KasT α->(α->Prop)->Prop
 |.ret a,Q=>Q a
 |.ask i j k,Q=>i<n/\j<n/\Kr lt n (k (lt i j)) Q
theorem Kr.mono{α:Type}{lt:Af->Af->Ai}{n:Af}{Q Q':α->Prop}:∀{t:KasT α},Kr lt n t Q->(∀ a,Q a->Q' a)->Kr lt n t Q'
 |.ret _,h,k=>k _ h
 |.ask i j f,h,k=>⟨h.1,h.2.1,Kr.mono (t:=f (lt i j)) h.2.2 k⟩
theorem Kr.bind{α β:Type}{lt:Af->Af->Ai}{n:Af}{f:α->KasT β}{Q:β->Prop}:∀{t:KasT α},Kr lt n t (λa=>Kr lt n (f a) Q)->Kr lt n (t.bind f) Q
 |.ret _,h=>h
 |.ask i j k,h=>⟨h.1,h.2.1,Kr.bind (t:=k (lt i j)) h.2.2⟩
structure Sto (lt:Af->Af->Ai) (n:Af):Prop where
 tr:∀ i j k,i<n->j<n->k<n->lt i j=Ab->lt j k=Ab->lt i k=Ab
 tot:∀ i j,i<n->j<n->i≠j->lt i j=Ad->lt j i=Ab
 asy:∀ i j,i<n->j<n->lt i j=Ab->lt j i=Ad
noncomputable def at0(p:A4 Af)(x:Af):Af:=p.getD x 0
structure Pm (n:Af) (p:A4 Af):Prop where
 sz:p.size=n
 lt:∀ x,x<n->at0 p x<n
 inj:∀ x y,x<n->y<n->at0 p x=at0 p y->x=y
section
variable{lt:Af->Af->Ai}{n:Af}
def OZ(lt:Af->Af->Ai)(p:A4 Af)(m:Af):Prop:=∀ x y,x<y->y<m->lt (at0 p x) (at0 p y)=Ab
def OU(lt:Af->Af->Ai)(p:A4 Af)(m:Af):Prop:=∀ x y,x<y->y<m->lt (at0 p y) (at0 p x)=Ab
theorem OZ.succ(S:Sto lt n)(hp:Pm n p)(h1:1<=m)(hm:m<n)(h:OZ lt p m)(e:lt (at0 p (m-1)) (at0 p m)=Ab):OZ lt p (m+1):=λx y hxy hy=>by
 by_cases hym:y<m
 .exact h x y hxy hym
 .have:y=m:=by omega
  subst this;by_cases hx:x=y-1
  .rw[hx];exact e
  .exact S.tr _ _ _ (hp.lt _ (by omega)) (hp.lt _ (by omega)) (hp.lt _ hm) (h x (y-1) (by omega) (by omega)) e
theorem OU.succ(S:Sto lt n)(hp:Pm n p)(h1:1<=m)(hm:m<n)(h:OU lt p m)(e:lt (at0 p m) (at0 p (m-1))=Ab):OU lt p (m+1):=λx y hxy hy=>by
 by_cases hym:y<m
 .exact h x y hxy hym
 .have:y=m:=by omega
  subst this;by_cases hx:x=y-1
  .rw[hx];exact e
  .exact S.tr _ _ _ (hp.lt _ hm) (hp.lt _ (by omega)) (hp.lt _ (by omega)) e (h x (y-1) (by omega) (by omega))
end
section
variable{prog:AJ}{w:AT}{A:AR}{E:Vq}{κ:SortKind}{it:A4 Keyed}
end
section
variable{lt:Af->Af->Ai}{n:Af}
end
def Nv(h:AB)(v:Aj)(r:Ac Ah):Prop:=∃ a its,v=.ref a/\Je h a its/\Hc its.toList r/\r≠[]
theorem Nv.kept{h h':AB}{v:Aj}{r:Ac Ah}(t:Nv h v r)(k:∀ b o,h.get? b=Aa o->h'.get? b=Aa o):Nv h' v r:=by
 obtain⟨a,its,e,⟨o,ho,q⟩,i,n⟩:=t;exact⟨a,its,e,⟨o,k _ _ ho,q⟩,i,n⟩
section
variable{prog:AJ}{w:AT}{A:AR}{E:Vq}{s:Ao}
end
end Ov
section
namespace Ov
open PySem PySem.Spec PyProof.Rows L2
section
variable{X:Cx}{CL:ClA}{W:XW}
end
end Ov
end
section
namespace Ov
open PySem PySem.Spec PyProof.Rows
section
variable{t:SetTable}{hashAt:Af->Ah}{h:Ah}
noncomputable def stand(i b:Af):SetTable.Probe:=⟨i,0,i,b,Ae⟩
end
section
variable{prog:AJ}{w:AT}{A:AR}{E:Vq}{s:Ao}{K:Type} [DecidableEq K] {knd:KeyKind prog w K}
end
section
variable{prog:AJ}{w:AT}{A:AR}{R:GD->Ao->Prop}{I:Ak}{fp wr:Ac Ak}{G:A4 DR->A4 DR->Prop}{n:Af}{P:Af->Aj->Prop}{St:Af->Ao->Prop}
end
section
variable{prog:AJ}{w:AT}{A:AR}{E:Vq}{s:Ao}
end
end Ov
end
namespace Ov
open PySem PySem.Spec PyProof.Rows L2
variable{h h':AB}{P:AJ}{w:AT}{H H':Hp}{oe:Cz}{vs:A4 Aj}{Q:DC->Ao->Prop}{T' C C' OV:Ak}{a0:Aj}{X:Cx}{pI:Pn}{Y Y0:L2.St}{K:Fg}{x g z par name qual q x0:Ag}{v:An Aj}{M:FX}{tk:Cd}{fill expr:Ai}{φ:AB->Prop}{CL:ClA}{Fz:Fr}{B A:Ak->Prop}{U:Rho}{W:XW}{hs body:Ac AD}{h0:AD}{p1 pos p pos' p2 p3 apos cpos:Az}{fh:Rho->O}{dx od an:An Ak}{up:Af->Ac Af}{CX:CXT}{k c kk:Af}{fd:Bq}{ps:Ac Ag}{Xw:Vq}{xn:Af->Ac D->R Ex}{d d1 d2 d':D}{Rp:Hp->V->D->Prop}{ev:Am}{Z:Gam}{F:Am->Ac AD->Ac AD->Ai}{α:Type}{env:B2}{as:Es}{xs ys:Ac Am}{scope:BL}{ts:Ac Af}{u:DC}{osl:A4 (An Aj)}
section
variable{X:Cx}
def L7(K:Fg)(H:Hp):Ac V->Ac (Ac Ah)->Prop
 |[],[]=>GH
 |x::xs,k::ks=>(∃ b,x=.ref b/\SqT K H b (k.map V.int))/\L7 K H xs ks
 |_,_=>AV
theorem L7.length{K:Fg}{H:Hp}:∀{xs:Ac V}{ks:Ac (Ac Ah)},L7 K H xs ks->xs.length=ks.length
 |[],[],_=>rfl
 |_::_,_::_,h=>congrArg (· + 1) (L7.length h.2)
 |[],_::_,h=>h.elim
 |_::_,[],h=>h.elim
variable{CL:ClA}{W:XW}{pos p pos' p':Az}{a:Am}{fa:Rho->R D}
end
section
end
section
variable{X:Cx}
variable{CL:ClA}{W:XW}{o e:Am}{fe:Rho->R D}{i:Af}{apos cpos pos:Az}
end
section
open PySem.AutoSeq1 (wpAny_loadPart')
end
section
variable{prog:AJ}{w:AT}{A:AR}{R:GD->Ao->Prop}{I S T:Ak}{u v:Aj}{c:Af}{P:Af->Aj->Prop}{St:Af->AB->Prop}{s:Ao}{r q:Ac Ah}
end
section
variable{X:Cx}{CL:ClA}{W:XW}
end
def L9(e T:Ak)(cls:Aj)(dx:An Ak)(fl:Aj)(h:AB):Prop:=∃ oe vs oT ts a0,h.get? e=Aa oe/\oe.cls=cls/\oe.dict=dx/\vs[0]?=Aa a0/\oe.data=.fields vs/\vs[1]?=Aa (.ref T)/\T≠e/\h.get? T=Aa oT/\oT.data=.fields ts/\ts[3]?=Aa fl
noncomputable abbrev Fly(e T:Ak)(cls:Aj)(dx:An Ak)(h:AB):Prop:=L9 e T cls dx CZ h
noncomputable def Fj(C:Ak)(dx:An Ak)(t:Ak):Cz:={cls:=.ref C,dict:=dx,data:=.fields #[.ref t,.none,.none,.none,.bool Ad,.none]}
structure Shift (ex fs:Ac Ak) (h h':AB):Prop where
 keep:∀ b o,h.get? b=Aa o->b∉ex->b∉fs->h'.get? b=Aa o
 slot:∀ b o,h.get? b=Aa o->b∈fs->∃ sl,h'.get? b=Aa {o with slots:=sl}
theorem Shift.trans{ex fs:Ac Ak}{h1 h2:AB}(a:Shift ex fs h h1)(b:Shift ex fs h1 h2):Shift ex fs h h2:=
 ⟨λc o q n m=>b.keep c o (a.keep c o q n m) n m,λc o q m=>by
  obtain⟨sl,e1⟩:=a.slot c o q m;obtain⟨sl',e2⟩:=b.slot c _ e1 m;exact⟨sl',e2⟩⟩
theorem ObjOk.isThere{a:Ak}:∀(o:HO),L2.ObjOk P w H h a o->∃ ob,h.get? a=Aa ob
 |.lst _,x=>by obtain⟨_,_,_,_,e⟩:=x;exact⟨_,e⟩
 |.tup _,x=>by obtain⟨_,_,_,p⟩:=x;obtain⟨o,e,_⟩:=p;exact⟨_,e⟩
 |.dK _,x=>by obtain⟨_,_,_,_,o,_,_,e,_⟩:=x;exact⟨_,e⟩
 |.dT _,x=>by obtain⟨_,_,_,_,o,_,_,e,_⟩:=x;exact⟨_,e⟩
 |.set _ _,x=>by obtain⟨o,_,_,_,e,_⟩:=x;exact⟨_,e⟩
 |.ins _ _ _,x=>by obtain⟨_,_,_,e,_⟩:=x;exact⟨_,e⟩
 |.own _,x=>x
 |.xd _,x=>by obtain⟨_,⟨_,_,_,e,_⟩,_⟩:=x;exact⟨_,e⟩
 |.met _ _,x=>⟨_,x⟩
 |.rng _ _,x=>by obtain⟨_,_,_,e⟩:=x;exact⟨_,e⟩
 |.frz _ _,x=>⟨_,x.1⟩
 |.tbl _,x=>⟨_,x⟩
 |.ext _,x=>x.2.1
theorem Ii{a:Ak}(x:HOk P w H h)(e:h.get? a=Ae):H a=Ae:=by
 cases q:H a with
 |none=>rfl
 |some o=>
  obtain⟨ob,z⟩:=ObjOk.isThere o (x a o q);rw[e]at z;cases z
theorem HOk.shift{ex fs:Ac Ak}(x:HOk P w H h)(sh:Shift ex fs h h')(h1:∀ b∈ex,H b=Ae)(h2:∀ b∈fs,H b=Ae):HOk P w H h':=λa o e=>
 (x a o e).stay (λb u hb q=>by
  have hs:∃ v,H b=Aa v:=by
   rcases hb with rfl|hb
   .exact⟨_,e⟩
   .exact⟨_,hb⟩
  obtain⟨v,hv⟩:=hs;exact sh.keep b u q (λz=>by rw[h1 b z]at hv;cases hv) (λz=>by rw[h2 b z]at hv;cases hv)) (λ_ q=>q) λ_ _ q=>q
theorem Un.shift{fs0 fs ex:Ac Ak}{h0:AB}(u:Un fs0 [] H H' h0 h)(sh:Shift ex fs h h')(h1:∀ b∈ex,h0.get? b=Ae)(h2:∀ b∈fs,b∈fs0\/h0.get? b=Ae):Un fs0 [] H H' h0 h' where
 keep:=λb o q n hb hx=>sh.keep b o (u.keep b o q n hb hx) (λz=>by rw[h1 b z]at q;cases q) λz=>(h2 b z).elim hb λe=>by rw[e]at q;cases q
 slot:=λb o q n hb hx=>by
  obtain⟨sl,e1⟩:=u.slot b o q n hb hx;by_cases hf:b∈fs
  .obtain⟨sl',e2⟩:=sh.slot b _ e1 hf;exact⟨sl',e2⟩
  .exact⟨sl,sh.keep b _ e1 (λz=>by rw[h1 b z]at q;cases q) hf⟩
 free:=u.free
 there:=λb o q hx=>by
  obtain⟨o',e1⟩:=u.there b o q hx;by_cases hf:b∈fs
  .obtain⟨sl',e2⟩:=sh.slot b _ e1 hf;exact⟨_,e2⟩
  .exact⟨o',sh.keep b _ e1 (λz=>by rw[h1 b z]at q;cases q) hf⟩
 tups:=u.tups
 frzs:=u.frzs
 tbls:=u.tbls
theorem aN(f:A4 Aj->A4 Aj)(o:Cz):(Fb f o).dict=o.dict:=by
 obtain⟨c,d,dt,sl⟩:=o;cases dt<;>rfl
section
variable{M:FX}{A:AR}{E:Vq}{s:Ao}{env:B2}{outer:Ac B2}{L e T:Ak}{cls:Aj}{dx:An Ak}{base h:AB}
theorem PR{hd:Aj}{nx:Ai}(hfr:A.frames=Aa (env::outer))(hf:env.frame=Aa L)(ff:s.heap.FunFrames base (env::outer))(he:s.heap.get? e=Aa oe)(dt:oe.data=.fields vs)(hz:1<vs.size)(hQ:∀ h' T' oT ts,h'.get? e=Aa (Fb (·.setIfInBounds 1 (.ref T')) oe)->T'≠e->s.heap.get? T'=Ae->h'.get? T'=Aa oT->oT.data=.fields ts->ts[3]?=Aa (Ei L)->Shift [e] (frs (env::outer)) s.heap h'->Q () {s with heap:=h'}):
  At M A (do
   let fr <-frameOf env
   let pl <-entryPlaceOf L nx
   let en <-UY hd fr .none (Ei L) .none pl
   setField (.ref e) 1 en) Q E s:=by
 have nf:e∉frs (env::outer):=λz=>by
  obtain⟨_,o,q,n⟩:=ff.mem z;rw[he]at q;cases q;exact n vs dt
 refine Ap (wpAny_frameOf_fun hfr ff hf λk1 so=>Ap (wpAny_entryPlaceOf λpl ip=>?_))
 obtain⟨sz,sm,sl⟩:=so;have e1:k1.get? e=Aa oe:=(sm e nf).trans he;unfold UY;unfold newFields;refine Ap (Cj ?_ (ip.sizeOk5 _ _ _ _ _));generalize hX:({ cls:=.type "traceback",dict:=Ae,data:=.fields ([hd,.ref L,.none,Ei L,.none]++(if pl.isEmpty then FL 6 CZ else pl)).toArray }:Cz)=ob
 have od:ob.data=.fields ([hd,.ref L,.none,Ei L,.none]++(if pl.isEmpty then FL 6 CZ else pl)).toArray:=by rw[<-hX]
 have nl:k1.objs.size≠e:=GA (AE e1);have e2:=As ob e1;refine ES e2 dt hz ?_;have up:∀ b,b≠e->((k1.push ob).update e (Fb (·.setIfInBounds 1 (.ref k1.objs.size)))).get? b=(k1.push ob).get? b:=λb nb=>Ct _ _ (CV nb)
 have lf:ob.isFreed=Ad:=by rw[<-hX];rfl
 refine hQ _ k1.objs.size ob _ (CC _ e2 (DZ (CD dt _))) nl ?_ ((up _ nl).trans (AW k1 lf)) od ?_ ⟨λb o q n1 n2=>?_,λb o q hb=>?_⟩
 .rw[sz];exact CK (AI _)
 .simp
 .have nb:b≠e:=λz=>n1 (by rw[z];exact AC)
  rw[up b nb];exact As ob ((sm b n2).trans q)
 .obtain⟨sl',q'⟩:=sl b o q;have nb:b≠e:=λz=>nf (z ▸ hb)
  exact⟨sl',(up b nb).trans (As ob q')⟩
theorem Qa{oT:Cz}{ts:A4 Aj}{fl:Aj}(hc:oe.cls=cls)(hx:oe.dict=dx)(h0:vs[0]?=Aa a0)(dt:oe.data=.fields vs)(hz:1<vs.size)(g:h'.get? e=Aa (Fb (·.setIfInBounds 1 (.ref T')) oe))(ne:T'≠e)(gT:h'.get? T'=Aa oT)(dT:oT.data=.fields ts)(f3:ts[3]?=Aa fl):L9 e T' cls dx fl h':=
 ⟨_,_,oT,ts,a0,g,(VE _ _).trans hc,(aN _ _).trans hx,by rw[Array.getElem?_setIfInBounds_ne (by decide)];exact h0,CD dt _,by simp[hz],ne,gT,dT,f3⟩
theorem Jv{i:Af}{v:Aj}(q:vs[i]?=Aa v):i<vs.size:=(Array.getElem?_eq_some_iff.mp q).1
theorem Qs(hfr:A.frames=Aa (env::outer))(hf:env.frame=Aa L)(ff:s.heap.FunFrames base (env::outer))(fl:Fly e T cls dx s.heap)(hQ:∀ h' T',L9 e T' cls dx (Ei L) h'->Shift [e,T] (frs (env::outer)) s.heap h'->s.heap.get? T'=Ae->Q () {s with heap:=h'}):At M A (F2 (.ref e) env) Q E s:=by
 obtain⟨oe,vs,oT,ts,a0,he,hc,hx,h0,dt,h1,ne,hT,dT,h3⟩:=fl;have z3:=Jv h3;unfold F2;simp only[hf];refine Ap (CI he dt h1 ?_);rw[AA (by simp:(Bb T != CZ)=Ab)]
 refine Ap (CI hT dT h3 ?_);rw[AH (by simp[Ei]:¬ (CZ==Ei L)=Ab)]
 refine Ap (ES hT dT z3 ?_);have up:∀ b,b≠T->(s.heap.update T (Fb (·.setIfInBounds 3 CZ))).get? b=s.heap.get? b:=λb nb=>Ct _ _ (CV nb)
 have rcd:∀ b o,s.heap.get? b=Aa o->(∀ us,o.data≠.fields us)->b≠T:=λb o q n z=>by
  rw[z,hT]at q;cases q;exact n ts dT
 refine PR (base:=base) hfr hf (ff.of_keeps λb o q n=>⟨o,(up b (rcd b o q n)).trans q,rfl⟩) ((up e (CV ne)).trans he) dt (Jv h1) λh' T' oT' ts' g nT gn gT dT' f3 sh=>?_
 have T0:s.heap.get? T'=Ae:=by
  by_cases z:T'=T
  .rw[z]at gn;rw[CC _ hT (DZ (CD dT _))]at gn;cases gn
  .rw[<-up T' z];exact gn
 refine hQ h' T' (Qa hc hx h0 dt (Jv h1) g nT gT dT' f3) ⟨λb o q n1 n2=>?_,λb o q hb=>?_⟩ T0
 .simp only[AG,CU,FW,Hj]at n1;exact sh.keep b o ((up b n1.2).trans q) (by simp[n1.1]) n2
 .obtain⟨_,o',q',n⟩:=ff.mem hb;rw[q]at q';cases q';exact sh.slot b o ((up b (rcd b o q n)).trans q) hb
theorem Lp{fv:Aj}(fl:L9 e T cls dx fv s.heap)(hQ:∀ h',Fly e T cls dx h'->(∀ b o,b≠T->s.heap.get? b=Aa o->h'.get? b=Aa o)->Q () {s with heap:=h'}):At M A (GX (.ref e) Ae) Q E s:=by
 obtain⟨oe,vs,oT,ts,a0,he,hc,hx,h0,dt,h1,ne,hT,dT,h3⟩:=fl;have z3:=Jv h3;unfold GX;refine Ap (CI he dt h1 ?_);rw[AA (by simp:(Bb T != CZ)=Ab)]
 refine ES hT dT z3 (hQ _ ?_ λb o nb q=>(Ct _ _ (CV nb)).trans q)
 exact⟨oe,vs,_,_,a0,(Ct _ _ ne).trans he,hc,hx,h0,dt,h1,ne,CC _ hT (DZ (CD dT _)),CD dT _,by simp[z3]⟩
theorem MF{h1 h2:AB}{ex:Ac Ak}(ff:s.heap.FunFrames base (env::outer))(sh:Shift ex (frs (env::outer)) s.heap h1)(hT:s.heap.get? T'=Ae)(k:∀ b o,b≠T'->h1.get? b=Aa o->h2.get? b=Aa o):Shift ex (frs (env::outer)) s.heap h2:=
 ⟨λb o q n1 n2=>k b o (λz=>by rw[z,hT]at q;cases q) (sh.keep b o q n1 n2),λb o q hb=>let ⟨sl,q'⟩:=sh.slot b o q hb;⟨sl,k b _ (λz=>by rw[z,hT]at q;cases q) q'⟩⟩
theorem Xv(hfr:A.frames=Aa (env::outer))(hf:env.frame=Aa L)(ff:s.heap.FunFrames base (env::outer))(fl:Fly e T cls dx s.heap)(hQ:∀ h' T',Fly e T' cls dx h'->Shift [e,T] (frs (env::outer)) s.heap h'->(T'=T\/s.heap.get? T'=Ae)->Q () {s with heap:=h'}):At M A (leaving env (.ref e)) Q E s:=by
 unfold leaving;exact Ap (Qs hfr hf ff fl λh1 T' f1 sh hT=>Lp f1 λh2 f2 k=>hQ h2 T' f2 (MF ff sh hT k) (.inr hT))
theorem WQ(hfr:A.frames=Aa (env::outer))(hf:env.frame=Aa L)(ff:s.heap.FunFrames base (env::outer))(he:s.heap.get? e=Aa oe)(hc:oe.cls=cls)(hx:oe.dict=dx)(dt:oe.data=.fields vs)(h0:vs[0]?=Aa a0)(h1:vs[1]?=Aa .none)(hQ:∀ h' T',Fly e T' cls dx h'->Shift [e] (frs (env::outer)) s.heap h'->s.heap.get? T'=Ae->Q () {s with heap:=h'}):At M A (leaving env (.ref e)) Q E s:=by
 unfold leaving F2;simp only[hf];refine Ap (Ap (CI he dt h1 ?_));rw[AH (by decide)]
 exact PR (base:=base) hfr hf ff he dt (Jv h1) λh' T' oT ts g nT gn gT dT f3 sh=>Lp (Qa hc hx h0 dt (Jv h1) g nT gT dT f3) λh2 f2 k=>hQ h2 T' f2 (MF ff sh gn k) gn
theorem YF(hfr:A.frames=Aa (env::outer))(hf:env.frame=Aa L)(ff:s.heap.FunFrames base (env::outer))(fl:Fly e T cls dx s.heap)(hQ:∀ h' T',Fly e T' cls dx h'->Shift [e,T] (frs (env::outer)) s.heap h'->(T'=T\/s.heap.get? T'=Ae)->Q () {s with heap:=h'}):At M A (F2 (.ref e) env) (λ_ s2=>At M A (GX (.ref e) Ae) Q E s2) E s:=
 Qs hfr hf ff fl λh1 T' f1 sh hT=>Lp f1 λh2 f2 k=>hQ h2 T' f2 (MF ff sh hT k) (.inr hT)
theorem Xx{l:Ac B2}{A':AR}(ff:s.heap.FunFrames base l)(fl:Fly e T cls dx s.heap)(hQ:∀ h' T',Fly e T' cls dx h'->Shift [e,T] (frs l) s.heap h'->(T'=T\/s.heap.get? T'=Ae)->Q () {s with heap:=h'}):At M A' (GX (.ref e) Ae) Q E s:=by
 obtain⟨oe,vs,oT,ts,a0,he,hc,hx,h0,dt,h1,ne,hT,dT,h3⟩:=id fl;refine Lp fl λh' f' k=>hQ h' T f' ⟨λb o q n1 n2=>k b o (λz=>n1 (by rw[z];simp)) q,λb o q hb=>⟨o.slots,k b o (λz=>?_) q⟩⟩ (.inl rfl)
 obtain⟨_,o',q',n⟩:=ff.mem hb;rw[z,hT]at q';cases q';exact n ts dT
end
def CXR(P:AJ)(w:AT):CXT:=λouter H s E ev s'=>∃ e T cls dx H',ev=.ref e/\s'.os=s.os/\EN s'.gens/\Un (frs outer) [] H H' s.heap s'.heap/\HOk P w H' s'.heap/\Fly e T cls dx s'.heap/\H' e=Ae/\H' T=Ae/\s.heap.get? e=Ae/\s.heap.get? T=Ae/\E cls dx H'
def K1(X:Cx)(CL:ClA)(W:XW):Prop:=∀ pI Y H s e C dx t x,Inv X pI Y H s->(X.ex=[]->X.s₀.heap.get? e=Ae)->H e=Ae->s.heap.get? e=Aa (Fj C dx t)->E5 X.K CL H (.ref C) dx x->W x H->X.xe (.ref e) s
section
variable{P:AJ}{w:AT}{K:Fg}{mg:Ag->An Aj}{base:AB}{N:Ac Ag}{qual:Ag}{scope:BL}{f:Ak}{cd:Aj}{A:AR}{outer:Ac B2}{s:Ao}{H:Hp}{E:XK}{CL:ClA}{W:XW}
theorem Nr{s:Ao}(I:Inv X pI Y H s):∀ b∈frs X.stack,b∈X.fs\/X.s₀.heap.get? b=Ae:=λb hb=>by
 rcases AG.mp (I.stkSub b hb) with z|z
 .exact .inr (by rw[z];exact CK I.ok.above)
 .exact .inl z
theorem IQ{s:Ao}{b:Ak}(I:Inv X pI Y H s)(hx:X.ex=[])(h:s.heap.get? b=Ae):X.s₀.heap.get? b=Ae:=by
 cases q:X.s₀.heap.get? b with
 |none=>rfl
 |some o=>
  obtain⟨o',z⟩:=I.base.there b o q (by rw[hx];simp)
  rw[h]at z;cases z
theorem SM(hE:∀ x cls dx H',W x H'->E5 K CL H' cls dx x->E cls dx H'):∀ A',Hy (CXR P w) (EM (CXR P w) P w K mg base N qual scope f cd A outer s H E) (EKW K CL A' W):=by
 intro A' pI Y H1 s1 ev s2 I h;obtain⟨e,T,cls,dx,H',rfl,os,bare,un,hok,fl,he,hT,ne,nT,x,xr,wx⟩:=h;have I':=I.call' (s':=s2) (ch:=[]) os un hok bare (λb z=>absurd z (by simp))
 have hb0:Un (frs outer) [] H H' s.heap s2.heap:=I'.base;show At (model P w) (A.deeper (Eg qual scope s.heap.objs.size f cd)) (leaving (Eg qual scope s.heap.objs.size f cd) (.ref e)) _ _ s2;refine Xv (L:=s.heap.objs.size) I'.ok.frames rfl I'.stack fl λh' T' fl' sh hT'=>?_
 have e0:s.heap.get? e=Ae:=IQ I rfl ne;have T0:s.heap.get? T=Ae:=IQ I rfl nT;refine⟨e,T',cls,dx,H',rfl,I'.os,bare,Un.shift hb0 sh ?_ (Nr I'),HOk.shift hok sh ?_ I'.stkFree,fl',he,?_,e0,?_,?_⟩
 .intro b hb;rcases AG.mp hb with rfl|hb
  .exact e0
  .rw[Bm.mp hb];exact T0
 .intro b hb;rcases AG.mp hb with rfl|hb
  .exact he
  .rw[Bm.mp hb];exact hT
 .rcases hT' with rfl|z
  .exact hT
  .exact Ii hok z
 .rcases hT' with rfl|z
  .exact T0
  .exact IQ I' rfl z
 .exact hE x cls dx H' wx xr
theorem rzR(hE:∀ x cls dx H',W x H'->E5 K CL H' cls dx x->E cls dx H'):K1 (EM (CXR P w) P w K mg base N qual scope f cd A outer s H E) CL W:=by
 intro pI Y H1 s1 e C dx t x I e0 he ge xr hw;have hb0:Un (frs outer) [] H H1 s.heap s1.heap:=I.base;have e0':s.heap.get? e=Ae:=e0 rfl;show At (model P w) (A.deeper (Eg qual scope s.heap.objs.size f cd)) (leaving (Eg qual scope s.heap.objs.size f cd) (.ref e)) _ _ s1;refine WQ (cls:=.ref C) (dx:=dx) (L:=s.heap.objs.size) I.ok.frames rfl I.stack ge rfl rfl rfl (a0:=.ref t) rfl rfl λh' T' fl' sh hT'=>?_
 have one:∀{Z_:Ak->Prop},Z_ e->∀ b∈[e],Z_ b:=λ{Z_} z b hb=>by rw[Bm.mp hb];exact z
 exact⟨e,T',.ref C,dx,H1,rfl,I.os,I.bare,Un.shift hb0 sh (one e0') (Nr I),HOk.shift I.hok sh (one (Z_:=λb=>H1 b=Ae) he) I.stkFree,fl',he,Ii I.hok hT',e0',IQ I rfl hT',hE x _ dx H1 hw xr⟩
theorem ownR:Dt (model P w) (EM (CXR P w) P w K mg base N qual scope f cd A outer s H E).A (EM (CXR P w) P w K mg base N qual scope f cd A outer s H E).env (EM (CXR P w) P w K mg base N qual scope f cd A outer s H E).xe:=PassesOwn.leaving
end
noncomputable def veB:Ac Aj:=[.type "ValueError",.type "Exception",.type "BaseException",.type "object"]
noncomputable def D5(K:Fg)(C:Ak)(v:An Aj):Ai:=match K.lookup C with
  | some ⟨.type "type",_,.cls c,z⟩=>(match c.mro,z.toList with
    |.ref c0::tl,[_,_,_,_,Aa (.builtin nw),_]=>c0==C&&(nw == "ValueError.__new__" && (!c.hasDel&&(PySem.W.tailIn K veB tl&&(Wb K c.ns&&A7 K c.ns "__init__" == Aa v))))
    | _,_=>Ad)
  |_=>Ad
structure XcOk (K:Fg) (C:Ak):Prop where
 exc:∃ v,D5 K C v=Ab
 ga:Ar K (.ref C) "__getattribute__" = Aa (Aa (.builtin "BaseException.__getattribute__"))
 gt:Ar K (.ref C) "__getattr__" = Aa Ae
 cl:Ar K (.ref C) "__class__" = Aa (Aa (.builtin "object.__class__"))
 ob:Fc K C (.type "object")=Aa Ab
 be:Fd K (.ref C) (.type "BaseException")=Aa Ab
 cs:(HP K C).isSome=Ab
 ve:CY K (.ref C) (.type "ValueError")=Aa Ab
def XAt(e C:Ak)(h:AB):Prop:=∃ o,h.get? e=Aa o/\o.cls=.ref C
theorem dE{N:Ak}{m:Ag->An Aj}{v:Aj}(X:K.In h)(G:h.Ns N m)(q:A7 K N x=Aa (Aa v)):m x=Aa v:=by
 obtain⟨ob,es,ep,g,dt,_,fd⟩:=G;unfold A7 at q;split at q
 .rename_i es' n' sl lk;have g':=X _ _ lk;rw[g]at g';cases g';cases dt;split at q
  .rename_i hf;cases q;rw[<-fd];unfold nsFind findBy;rw[<-T8,hf];rfl
  .by_cases z:(es.toList.any λy=>y.refKey)=Ab
   .rw[AA z]at q;cases q
   .rw[AH z]at q;cases q
 .cases q
theorem Kj{h0:AB}(X0:K.In h0)(q:D5 K C v=Ab):
  ∃ bm N nm qn bs hd sn sub ab col dd k0 k1 k2 k3 k5 mN,(∀ h:AB,K.In h->h.get? C=Aa (Bz nm qn C N bs bm hd sn sub ab col dd k0 k1 k2 k3 k5 "ValueError.__new__")/\h.Ns N mN/\C9 h veB bm)/\mN "__init__" = v/\bm.contains (.type "BaseException")=Ab:=by
 unfold D5 at q;split at q
 .rename_i dd cd sl ho;split at q
  .rename_i C' bm k0 k1 k2 k3 n k5 hm hs;simp only[Al,AF,Bk]at q;obtain⟨rfl,rfl,hdel,ht,hok,hni⟩:=q;obtain⟨nm,bs,mro,ns,qn,hd,sn,sub,ab,col,del⟩:=cd;dsimp only at hm hdel hok hni;subst hm hdel;have hsl:sl=#[k0,k1,k2,k3,Aa (.builtin "ValueError.__new__"),k5]:=by
    obtain⟨l⟩:=sl;simp only at hs;rw[hs]
   subst hsl;have kN:∃ o,K.lookup ns=Aa o:=by
    unfold Wb at hok;split at hok
    .rename_i z;exact⟨_,z⟩
    .cases hok
   obtain⟨oN,hoN⟩:=kN;have nsAt:∀ h:AB,K.In h->h.Ns ns (h0.nsMap ns):=λh X=>by
    obtain⟨o,es,ep,e1,r⟩:=Heap.Ns.of_isNs (V6 X0 hok);have e2:=X0 _ _ hoN;rw[e1]at e2;cases e2;exact⟨_,es,ep,X _ _ hoN,r⟩
   refine⟨bm,ns,nm,qn,bs,hd,sn,sub,ab,col,dd,k0,k1,k2,k3,k5,h0.nsMap ns,λh X=>⟨X _ _ ho,nsAt h X,Wc X ht⟩,?_,(Wc X0 ht).hasType (by decide)⟩
   cases v with
   |none=>exact PySem.W.nsMap_none_of_in X0 hok hni
   |some u=>exact dE X0 (.of_isNs (V6 X0 hok)) hni
  .cases q
 .cases q
theorem aJ(X:K.In h)(q:D5 K C v=Ab):
  ∃ bm N nm qn bs hd sn sub ab col dd k0 k1 k2 k3 k5 mN,h.get? C=Aa (Bz nm qn C N bs bm hd sn sub ab col dd k0 k1 k2 k3 k5 "ValueError.__new__")/\h.Ns N mN/\mN "__init__" = v/\C9 h veB bm:=by
 obtain⟨bm,N,nm,qn,bs,hd,sn,sub,ab,col,dd,k0,k1,k2,k3,k5,mN,ho,hi,_⟩:=Kj X q;obtain⟨o1,o2,o3⟩:=ho h X;exact⟨bm,N,nm,qn,bs,hd,sn,sub,ab,col,dd,k0,k1,k2,k3,k5,mN,o1,o2,hi,o3⟩
section
variable{prog:AJ}{w:AT}{A:AR}{E:Vq}{h:AB}{g:A4 DR}{d:GQ}{t:Af}{os:Gp}{K:Fg}{e C:Ak}
theorem Ij(p:XAt e C h):PySem.W.Looks M h (typeOf (.ref e)) (.ref C):=by
 obtain⟨o,h1,h2⟩:=p;exact h2 ▸ (PySem.W.Looks.ld h1).andThen .now
theorem Yc{R:GD->Ao->Prop}{tp:Aj}(X:K.In h)(p:XAt e C h)(hm:Fc K C (.type "object")=Aa Ab)(hq:R (.ok (.ret (.ref C))) ⟨h,g,d,t,os⟩):
  D0 (model prog w) A (.call (.builtin "getset_descriptor.__get__") ⟨[.builtin "object.__class__",.ref e,tp],[]⟩) R ⟨h,g,d,t,os⟩:=by
 have L0:=Ij (M:=model prog w) p;have L1:=PySem.W.looks_mroIn (M:=model prog w) X hm;refine Dq PySem.W.KF.slot_gs.plain PySem.W.KF.entry_gs (PySem.W.KF.slot_gs.check _ _ _ _ _ _ _ _ PySem.W.KF.type_class (PySem.W.KF.args_gs _ _ _) ?_);unfold Builtin.«getset_descriptor.__get__» Builtin.Getset_descriptor.descrGet;rw[PySem.W.dga_obj];refine Ap (AM ?_);unfold Builtin.Getset_descriptor.descrGetter Builtin.Getset_descriptor.descrCheckInstance Builtin.Getset_descriptor.descrNameAndClass Hq;simp only[PySem.W.KF.owner_class]
 repeat lk
 refine⟨F0 _ (by decide+kernel),codeAny_builtin PySem.W.KF.entry_class ?_⟩
 unfold Builtin.«object.__class__» shownTypeOf
 repeat lk
 exact hq
theorem WJ{Q:Fin->Ao->Prop}(X:K.In h)(x:XcOk K C)(p:XAt e C h)(hq:Q (.done (.ret (.ref C))) ⟨h,g,d,t,os⟩):
  At (model prog w) A (Builtin.«object.__getattribute__» ⟨[.ref e,.str "__class__" tk],[]⟩) Q E ⟨h,g,d,t,os⟩:=by
 have L0:=Ij (M:=model prog w) p;have L1:=BU (M:=model prog w) X x.cl;have hT5:(⟨h,g,d,t,os⟩:Ao).TypeIs (.builtin "object.__class__") "getset_descriptor" := Vy;have f5:=Vy;have f6:=F.slot_gs_get.lookup;have f7:=F.slot_gs_set.lookup
 repeat (any_goals (first|assumption|with_reducible refine L0.at ?_|with_reducible refine L1.at ?_|wp_step))
 refine Yc X p x.ob ?_
 repeat (any_goals (first|assumption|wp_step))
theorem Pb{nameV:Aj}(X:K.In h)(x:XcOk K C)(p:XAt e C h)(hq:Q () ⟨h,g,d,t,os⟩):At M A (Fh "BaseException.__getattribute__" ⟨[.ref e,nameV],[]⟩) Q E ⟨h,g,d,t,os⟩:=by
 have hk:builtinKind "BaseException.__getattribute__" = Aa .slot:=by decide+kernel
 have hsplit:splitId "BaseException.__getattribute__" = Aa ("BaseException", "__getattribute__"):=by decide+kernel
 have L0:=Ij (M:=M) p;have L1:=Wa (M:=M) X x.be;have ha:=F.args_bexc_ga (.ref e) nameV;simp only[Fh,hk,hsplit];refine Ap ?_
 .unfold Hq
  repeat (first|(with_reducible refine Ap (L0.at ?_))|(with_reducible refine L1.at ?_)|wp_step)
  exact hq
theorem Zq{Q:Vq}(X:K.In h)(x:XcOk K C)(p:XAt e C h)(hq:Q (.ref C) ⟨h,g,d,t,os⟩):At (model prog w) A (getAttrBy (.ref e) (.str "__class__" tk) fill expr) Q E ⟨h,g,d,t,os⟩:=by
 have L0:=Ij (M:=model prog w) p;have L1:=BU (M:=model prog w) X x.ga;have L2:=BU (M:=model prog w) X x.gt;have f3:=EX.ga.bind (.ref e);have hx0:(expr&&Ic (B7 "BaseException.__getattribute__"))=Ad:=by cases expr<;>rfl
 have hx2:(B7 "BaseException.__getattribute__" == B7 "object.__getattribute__")=Ad:=by decide+kernel
 have hx1:(Ic (Bb C)&&B7 "BaseException.__getattribute__" == B7 "object.__getattribute__")=Ad:=by rw[hx2];rfl
 repeat (any_goals (first|assumption|with_reducible refine L0.at ?_|with_reducible refine L1.at ?_|with_reducible refine L2.at ?_|wp_step))
 refine Dq EX.ga.plain Vs (Pb X x p (WJ X x p ?_))
 repeat (any_goals (first|assumption|wp_step))
theorem W6{Q:An Aj->Ao->Prop}(X:K.In h)(x:XcOk K C)(p:XAt e C h)(hq:Q (Aa (.ref C)) ⟨h,g,d,t+1,os⟩):At (model prog w) A (getAttr? (.ref e) "__class__") Q E ⟨h,g,d,t,os⟩:=by
 unfold getAttr? getAttrBy?
 repeat (any_goals (first|assumption|with_reducible apply Zq X x p|wp_step))
end
theorem Qm{e C:Ak}(x:XcOk K C):PySem.W.KitX K (.ref e) (.ref C) (XAt e C) where
 ty:=λM h _ p=>Ij p
 it:=λM h X _=>by
  obtain⟨cd,hc⟩:=BZ.mp x.cs;unfold HP at hc;split at hc
  .rename_i c' d' cd' sl' ho;intro A' Q' E' s' k q;unfold isType loadHead;exact Ap (Wp (k _ _ (X _ _ ho)) (AM q))
  .cases hc
 ne:=λh tp dd its n sl X htp=>by
  obtain⟨cd,hc⟩:=BZ.mp x.cs;refine Bool.eq_false_iff.mpr λq=>?_
  have e:C=tp:=Value.ref.inj (AF.mp q);subst e;unfold HP at hc;split at hc
  .rename_i c' d' cd' sl' ho;have z:=(X _ _ ho).symm.trans htp;cases z
  .cases hc
 ca:=λ{_ _ _ _ _ s} X p k=>by
  obtain⟨h,g,d,t,os⟩:=s;exact W6 X x p k
theorem Yd{A:AR}{E:Vq}{g:A4 DR}{d:GQ}{t:Af}{os:Gp}{e C C':Ak}{b:Ai}{Q:Ai->Ao->Prop}(X:K.In h)(p:XAt e C h)(x':XcOk K C')(hs:Fd K (.ref C) (.ref C')=Aa b)(hq:Q b ⟨h,g,d,t,os⟩):At M A (excMatches (.ref e) (.ref C')) Q E ⟨h,g,d,t,os⟩:=by
 obtain⟨bm,N,nm,qn,bs,hd,sn,sub,ab,col,dd,k0,k1,k2,k3,k5,mN,hC',_,_,T⟩:=aJ X x'.exc.choose_spec;have hcB:(Bb C'::bm).contains (.type "BaseException")=Ab:=by rw[FZ,T.hasType (show veB.contains (.type "BaseException")=Ab by decide),HR]
 have L0:=Ij (M:=M) p;have L1:=Wa (M:=M) X hs;have f:=tc_notTuple;unfold excMatches
 repeat (first|(with_reducible refine Ap (L0.at ?_))|(with_reducible refine L1.at ?_)|(with_reducible refine Ap (L1.at ?_))|with_reducible refine BK hC' ?_|(with_reducible refine Em hC' ?_;rw[hcB])|wp_step)
 all_goals first|exact hq|(cases b<;>(wp_walk;exact hq))
def Fl(X:Cx)(pI:Pn)(e:Ak):Prop:=e≠X.env.locals/\(∀ x c,X.env.cells.lookup x=Aa c->c≠e)/\(∀ p∈X.pn++pI,p.1≠e)/\X.s₀.heap.get? e=Ae
section
variable{X:Cx}{pI:Pn}{Y:L2.St}{H:Hp}{s:Ao}{e:Ak}
theorem IR(I:Inv X pI Y H s)(hx:X.ex=[])(h:s.heap.get? e=Ae):Fl X pI e:=by
 refine⟨?_,λx c q z=>?_,λp hp z=>?_,IQ I hx h⟩
 .rintro rfl;obtain⟨m,⟨o,_,_,ho,_⟩,_⟩:=I.loc;rw[h]at ho;cases ho
 .obtain⟨v,o,ho,_⟩:=I.cell x c q;rw[z,h]at ho;cases ho
 .obtain⟨q,_⟩:=I.pin p hp;rw[z,h]at q;cases q
theorem PC{ex:Ac Ak}(I:Inv X pI Y H s)(hx:X.ex=[])(sh:Shift ex (frs X.stack) s.heap h')(ha:∀ b∈ex,Fl X pI b)(hH:∀ b∈ex,H b=Ae):Inv X pI Y H {s with heap:=h'}:=by
 have kp:∀ b o,s.heap.get? b=Aa o->b∉ex->∃ sl,h'.get? b=Aa {o with slots:=sl}:=λb o q n=>by
  by_cases hb:b∈frs X.stack
  .exact sh.slot b o q hb
  .exact⟨o.slots,sh.keep b o q n hb⟩
 have cellK:∀ x c,X.env.cells.lookup x=Aa c->∀ v,s.heap.IsCell c v->h'.IsCell c v:=λx c q v ⟨o,ho,hd⟩=>by
  obtain⟨sl,z⟩:=kp c o ho λz=>(ha c z).2.1 x c q rfl
  exact⟨_,z,hd⟩
 refine⟨I.ok,I.os,I.bare,?_,?_,λx c q=>?_,I.free,I.freeC,λp hp=>?_,HOk.shift I.hok sh hH I.stkFree,I.len⟩
 .have b0:=I.base;rw[hx]at b0 ⊢;exact Un.shift b0 sh (λb hb=>(ha b hb).2.2.2) (Nr I)
 .obtain⟨m,⟨o,es,ep,ho,r⟩,hl⟩:=I.loc;obtain⟨sl,z⟩:=kp _ o ho λz=>(ha _ z).1 rfl
  refine⟨m,⟨_,es,ep,z,r⟩,λi x v e1 e2 e3=>?_⟩
  obtain⟨u,ru,l⟩:=hl i x v e1 e2 e3;refine⟨u,ru,?_⟩;rcases l with l|⟨k,c,q,z⟩
  .exact .inl l
  .exact .inr ⟨k,c,q,cellK x c q _ z⟩
 .obtain⟨v,z⟩:=I.cell x c q;exact⟨v,cellK x c q v z⟩
 .obtain⟨q,n,ne,nf,d⟩:=I.pin p hp;exact⟨sh.keep p.1 p.2 q (λz=>(ha p.1 z).2.2.1 p hp rfl) (λz=>(AG.mp (I.stkSub p.1 z)).elim ne nf),n,ne,nf,d⟩
theorem Pz(I:Inv X pI Y H s)(hx:X.ex=[])(ha:Fl X pI e)(hH:H e=Ae)(ho:∃ o,s.heap.get? e=Aa o)(p:φ s.heap)(hφ:∀ h1 h2:AB,φ h1->(∀ o,h1.get? e=Aa o->h2.get? e=Aa o)->φ h2):Inv X pI Y (upd H e (.ext φ)) s:=by
 have ne:∀ b o,H b=Aa o->b≠e:=λb o q z=>by rw[z,hH]at q;cases q
 refine⟨I.ok,I.os,I.bare,⟨I.base.keep,I.base.slot,λb o q n hb=>?_,I.base.there,λb xs q=>?_,λb o u q=>?_,λb ps q=>?_⟩,I.loc,I.cell,?_,λx c q=>?_,λp hp=>?_,λb o q=>?_,I.len⟩
 .rw[A6 λz=>by rw[z,ha.2.2.2]at q;cases q]
  exact I.base.free b o q n hb
 .have:=I.base.tups b xs q;rw[A6 (ne _ _ this)];exact this
 .have:=I.base.frzs b o u q;rw[A6 (ne _ _ this)];exact this
 .obtain⟨more,this⟩:=I.base.tbls b ps q;exact⟨more,by rw[A6 (ne _ _ this)];exact this⟩
 .rw[A6 λz=>ha.1 z.symm];exact I.free
 .rw[A6 (ha.2.1 x c q)];exact I.freeC x c q
 .obtain⟨q,n,r⟩:=I.pin p hp;exact⟨q,by rw[A6 (ha.2.2.1 p hp)];exact n,r⟩
 .by_cases hb:b=e
  .subst hb;rw[Dh]at q;cases q;exact⟨p,ho,hφ⟩
  .rw[A6 hb]at q;exact(I.hok b o q).stay (λc v hc z=>z) (λc z=>by rw[A6 (ne _ _ z)];exact z) λc zs z=>by rw[A6 (ne _ _ z)];exact z
theorem Xr{i:Af}{n:Ag}{m:Ag->An Aj}{tk:Af}(I:Inv X pI Y H s)(hN:X.N.Nodup)(hi:X.N[i]?=Aa n)(hn:s.heap.Ns X.env.locals m)(hn':h'.Ns X.env.locals (λx=>if x=n then v else m x))(hs:DX X.env.locals s.heap h'):Inv X pI (Y.set i Ae) H {s with heap:=h',toks:=tk}:=by
 obtain⟨m0,hn0,hl⟩:=I.loc;have em:m0=m:=by
  obtain⟨o,es,ep,h1,h2,_,h3⟩:=hn0;obtain⟨o',es',ep',h1',h2',_,h3'⟩:=hn;rw[h1]at h1';cases h1';rw[h2]at h2';cases h2'
  funext y
  rw[<-h3,<-h3']
 subst em;obtain⟨oL,_,_,hoL,_⟩:=id hn;have lt:∀ b o,X.s₀.heap.get? b=Aa o->b≠X.env.locals:=λb o q=>A9 (AL (AE q) I.ok.above)
 refine⟨I.ok,I.os,I.bare,⟨λb o q n hb hx=>?_,λb o q n hb hx=>?_,I.base.free,λb o q hx=>?_,I.base.tups,I.base.frzs,I.base.tbls⟩,⟨_,hn',λj y v' e1 e2 e3=>?_⟩,λy c q=>?_,I.free,I.freeC,λp hp=>?_,λb ob q=>?_,by rw[AS];exact I.len⟩
 .exact(hs.2 b (lt b o q)).trans (I.base.keep b o q n hb hx)
 .obtain⟨sl,e1⟩:=I.base.slot b o q n hb hx;exact⟨sl,(hs.2 b (lt b o q)).trans e1⟩
 .obtain⟨o',e1⟩:=I.base.there b o q hx;exact⟨o',(hs.2 b (lt b o q)).trans e1⟩
 .by_cases hj:i=j
  .subst hj;have:=FA e2;cases this
  .rw[By hj]at e2;obtain⟨u',r',q⟩:=hl j y v' e1 e2 e3;refine⟨u',r',?_⟩;rcases q with ⟨k,e⟩|⟨k,c,e,z⟩
   .refine .inl ⟨k,?_⟩;have:y≠n:=λe=>hj (Nd hN hi (e ▸ e1))
    simp[this,e]
   .exact .inr ⟨k,c,e,z.sameBut hs (I.cne y c e)⟩
 .obtain⟨w',z⟩:=I.cell y c q;exact⟨w',z.sameBut hs (I.cne y c q)⟩
 .obtain⟨q,n,ne,nf,d⟩:=I.pin p hp;exact⟨(hs.2 p.1 ne).trans q,n,ne,nf,d⟩
 .refine(I.hok b ob q).stay (λc w' hc z=>(hs.2 c ?_).trans z) (λ_ q=>q) λ_ _ q=>q
  rintro rfl;have hfree:=I.free;rcases hc with z|hc
  .rw[<-z,hfree]at q;cases q
  .rw[hfree]at hc;cases hc
end
noncomputable def Cx.hot(X:Cx)(e:Ak):Cx:={X with A:=X.A.mark (Aa (.ref e)),calm:=Ad,xe:=λ_ _=>AV}
section
variable{X:Cx}{pI:Pn}{Y:L2.St}{H:Hp}{s:Ao}{e:Ak}
theorem dC(ok:X.Ok):(Cx.hot X e).Ok:=⟨ok.mod,ok.kind,ok.glob,ok.blt,ok.above,ok.inj,ok.has,ok.cab,λz=>(nomatch z),ok.frames,ok.stk,ok.exf,ok.bs,ok.bsz,ok.noex,ok.exfs,ok.funs,ok.frf⟩
theorem Rn(I:Inv X pI Y H s)(e:Ak):Inv (Cx.hot X e) pI Y H s:=⟨dC I.ok,I.os,I.bare,I.base,I.loc,I.cell,I.free,I.freeC,I.pin,I.hok,I.len⟩
theorem YA(ok:X.Ok)(I:Inv (Cx.hot X e) pI Y H s):Inv X pI Y H s:=⟨ok,I.os,I.bare,I.base,I.loc,I.cell,I.free,I.freeC,I.pin,I.hok,I.len⟩
theorem Sx.unset(x:Sx K CL Fz B U Y H)(i:Af):Sx K CL Fz B (U.set i Ae) (Y.set i Ae) H:=by
 have get:∀(j:Af)(y:D×Ai),(U.set i Ae)[j]?=Aa (Aa y)->i≠j/\U[j]?=Aa (Aa y):=λj y h=>by
  by_cases hj:i=j
  .subst hj;have:=FA h;cases this
  .exact⟨hj,by rw[By hj]at h;exact h⟩
 have sub:∀ a,Bc B (U.set i Ae) (Y.set i Ae) a->Bc B U Y a:=λa h=>by
  rcases h with h|⟨j,d,h1,h2⟩
  .exact .inl h
  .obtain⟨hj,h1⟩:=get j _ h1;rw[By hj]at h2;exact .inr ⟨j,d,h1,h2⟩
 refine⟨⟨λj d h=>?_,λj d h hn=>?_,by rw[AS,AS];exact x.len⟩,λa h=>x.aok a (sub a h),λj d a h1 h2=>?_,λj k d f a h1 h2 h3 h4=>?_,x.same,by rw[AS,AS];exact x.len,λj h=>?_⟩
 .obtain⟨hj,h1⟩:=get j _ h;obtain⟨v,q,r⟩:=x.good.sh j d h1;exact⟨v,by rw[By hj];exact q,Rep.sub sub _ r⟩
 .obtain⟨hj,h1⟩:=get j _ h;obtain⟨a,xs,ds,q,z,ha,hh,rr⟩:=x.good.ow j d h1 hn;exact⟨a,xs,ds,by rw[By hj];exact q,z,.inr ⟨j,d,h,by rw[By hj];exact q⟩,hh,Reps.sub sub _ rr⟩
 .obtain⟨hj,h1⟩:=get j _ h1;rw[By hj]at h2;exact x.new j d a h1 h2
 .obtain⟨hj,h1⟩:=get j _ h1;obtain⟨hk,h2⟩:=get k _ h2;rw[By hj]at h3;rw[By hk]at h4;exact x.dis j k d f a h1 h2 h3 h4
 .obtain⟨hj,h1⟩:=get j _ h;obtain⟨a,xs,p1,p2,p3⟩:=x.pin j h1;exact⟨a,xs,p1,by rw[By hj];exact p2,p3⟩
end
def HI(e C:Ak)(dx:An Ak)(h:AB):Prop:=∃ o,h.get? e=Aa o/\o.cls=.ref C/\o.dict=dx/\∃ us,o.data=.fields us
noncomputable def Ja(X:Cx)(CL:ClA)(pI:Pn)(Y:L2.St)(H:Hp)(y:Ex)(Xw:Vq):Prop:=
 ∀ s' H' e T cls dx,Inv X pI Y H' s'->Ax H H'->Fly e T cls dx s'.heap->H' e=Ae->H' T=Ae->Fl X pI e->Fl X pI T->E5 X.K CL H' cls dx y->Xw (.ref e) s'
def STB(X:Cx)(CL:ClA)(body:Ac AD)(f:Rho->O):Prop:=∀ Fz B pI s Y H D U (Xw:Vq),Dt (model X.prog X.w) X.A X.env Xw->Inv X pI Y H s->Sx X.K CL Fz B U Y H ->
  (match f U with
   |.exn y U'=>U'=U->Ja X CL pI Y H y Xw
   | o=>Bj X.K CL Fz B (λ_ _=>AV) o D)->(∀ y U',f U=.exn y U'->U'=U)->At (model X.prog X.w) X.A (execs body X.env) (SP X pI D) Xw s
noncomputable def Tk(up:Af->Ac Af)(c i:Af)(o:O)(fh:Rho->O):O:=match o with
  | .exn y U'=>if (up y.c).contains c=Ab then (match fh (U'.set i (Aa (.exc y.c y.fs,Ad))) with
      |.next U''=>.next (U''.set i Ae)
      |.ret d f=>.ret d f
      | _=>.bad) else .bad
  |o=>o
theorem bJ{i:Af}{g n:Ag}{hp:Az}{b:Ai}{rest:Ac Eh}{s1:Ao}{U':Rho}{D:Ends}{e T1:Ak}{y:Ex}(hx:X.ex=[])(hN:X.N.Nodup)(hi:X.N[i]?=Aa n)(hl:X.env.scope.names.lookup n=Aa .local)(hg:Gl X g)(hm:X.mg g=Aa (.ref C'))(hdb:(g==("__debug__" : Ag))=Ad)(xc:XcOk X.K C')(hsu:Fd X.K (.ref C) (.ref C')=Aa b)(hh:∀ e,SSs (Cx.hot X e) CL (λ_ _=>AV) (h0::hs) fh)(I1:Inv X pI Y H' s1)(fl1:Fly e T1 (.ref C) dx s1.heap)(ae:Fl X pI e)(aT1:Fl X pI T1)(he:H' e=Ae)(HT1:H' T1=Ae)(gx:Sx X.K CL Fz B U' Y H')(hcl:CL y.c=Aa C)(xr:E5 X.K CL H' (.ref C) dx y)(p2:b=Ab->Bj X.K CL Fz B W (hdO i y U' fh) D)(p3:b=Ad->At (model X.prog X.w) X.A (IF (.ref e) X.env rest) (SP X pI D) X.xe s1):At (model X.prog X.w) X.A (IF (.ref e) X.env (.ExceptHandler (Aa (.Name g p1)) (Aa n) (h0::hs) hp::rest)) (SP X pI D) X.xe s1:=by
 obtain⟨Cx0,hcl0,ecl,hfs⟩:=xr (Bc B U' Y) gx.aok;have xat:∀{h:AB}{T:Ak},Fly e T (.ref C) dx h->XAt e C h:=λ{h T} z=>by
  obtain⟨oe,_,_,_,_,z1,z2,_⟩:=z;exact⟨oe,z1,z2⟩
 have xad:∀{h:AB}{T:Ak},Fly e T (.ref C) dx h->HI e C dx h:=λ{h T} z=>by
  obtain⟨oe,vs,_,_,_,z1,z2,z3,_,z4,_⟩:=z;exact⟨oe,z1,z2,z3,vs,z4⟩
 have two:∀{T:Ak}{Z_:Ak->Prop},Z_ e->Z_ T->∀ b∈[e,T],Z_ b:=λ{T Z_} h1 h2 b hb=>by
  rcases AG.mp hb with rfl|hb
  .exact h1
  .rw[Bm.mp hb];exact h2
 refine wpAny_handleBy_cons (codeAny_handlers_test (G1 (X:=Cx.hot X e) (Rn I1 e) hg hm ?_ hdb)) (by intro q;cases q)
 refine Yd (K:=X.K) I1.kIn (xat fl1) xc hsu ?_;cases b with
 |false=>exact p3 rfl
 |true=>
 have p2:=p2 rfl;refine codeAny_handlers_suite_as ?_;refine Xx (base:=X.base) (l:=X.stack) I1.stack fl1 λh3 T3 fl3 sh3 hT3=>?_
 have I3:=PC I1 hx sh3 (two ae aT1) (two (Z_:=λb=>H' b=Ae) he HT1)
 obtain⟨oe,oeg,oec⟩:=xad fl3;have I3':=Pz (φ:=HI e C dx) I3 hx ae he ⟨oe,oeg⟩ ⟨oe,oeg,oec⟩ λh1 h2 ⟨o,q1,q2⟩ k=>⟨o,k o q1,q2⟩
 have sm3:Ax H' (upd H' e (.ext (HI e C dx))):=λb o q=>by rw[A6 λz=>by rw[z,he]at q;cases q];exact q
 refine MR (X:=Cx.hot X e) (i:=i) (v:=.ref e) (Rn I3' e) hN hi (.inl hl) rfl (λs4 I4=>?_) (.inr hl)
 have x3:=gx.grow sm3;have nA:¬ Bc B U' Y e:=λz=>by
  obtain⟨xs,q⟩:=x3.aok e z;rw[Dh]at q;cases q
 have rp:Rep X.K CL (upd H' e (.ext (HI e C dx))) (Bc B U' Y) (.ref e) (.exc y.c y.fs):=by
  refine⟨e,C,HI e C dx,rfl,nA,hcl,Dh,λh ⟨o,z1,z2,_⟩=>⟨o,z1,z2⟩,?_⟩
  rcases hfs with z|⟨d,vs,ed,nd,hd,rf⟩
  .exact .inl z
  .exact .inr ⟨d,vs,nd,sm3 _ _ hd,Repf.kp (Kp.of sm3) _ rf,λh ⟨o,z1,_,z3,z4⟩=>⟨o,z1,z3.trans ed,z4⟩⟩
 have x4:=x3.set i rp;have fin:∀{s5:Ao}{Y5:L2.St}{H5:Hp}{Q:DC->Ao->Prop},Inv (Cx.hot X e) pI Y5 H5 s5->(∀ s6,Inv X pI (Y5.set i Ae) H5 s6->Q () s6)->At (model X.prog X.w) X.A (do bindName X.env n .none;unbindBehindTheSuite X.env n hp) Q X.xe s5:=λ{s5 Y5 H5 Q} I5 k=>by
  have I5':=YA I1.ok I5;obtain⟨m,hn,_⟩:=id I5'.loc;refine wpAny_nameGoes_keeps hl hn (by rw[I1.ok.kind];rfl) λh6 v6 hn6 sb6=>?_
  exact k _ (Xr I5' hN hi hn hn6 sb6)
 refine A3 (hh e Fz B pI s4 _ _ {nx:=λY5 H5=>D.nx (Y5.set i Ae) H5,rt:=D.rt} I4 ⟨_,x4,?_⟩) (λf s5 hf=>?_) λ_ _ z=>A1 z
 .unfold hdO at p2;cases ef:fh (U'.set i (Aa (.exc y.c y.fs,Ad))) with
  |next U''=>rw[ef]at p2;exact λY5 H5 x5=>p2 _ _ (x5.unset i)
  |ret d b=>rw[ef]at p2;exact p2
  |brk _=>rw[ef]at p2;exact p2.elim
  |cont _=>rw[ef]at p2;exact p2.elim
  |exn _ _=>rw[ef]at p2;exact p2.elim
  |bad=>rw[ef]at p2;exact p2.elim
 .cases f with
  |next=>
   obtain⟨Y5,H5,I5,q⟩:=hf;exact fin I5 λs6 I6=>⟨_,H5,I6,q⟩
  |ret u=>
   obtain⟨v,Y5,H5,I5,r,q⟩:=hf;exact fin I5 λs6 I6=>⟨v,_,H5,I6,r,q⟩
  |brk=>obtain⟨_,_,_,q⟩:=hf;exact A1 q
  |cont=>obtain⟨_,_,_,q⟩:=hf;exact A1 q
def T7(X:Cx)(CL:ClA)(up:Af->Ac Af)(g:Ag)(c:Af):Prop:=∃ C',Gl X g/\X.mg g=Aa (.ref C')/\(g==("__debug__" : Ag))=Ad/\XcOk X.K C'/\∀ c' C,CL c'=Aa C->Fd X.K (.ref C) (.ref C')=Aa ((up c').contains c)
theorem Yg{y:Ex}{Q:Flow->Ao->Prop}{hd:Ac Eh}(hx:X.ex=[])(hst:X.stack=X.env::X.outer)(hfm:X.env.frame=Aa X.env.locals)(k:∀ e T1 cls dx H' s1,Inv X pI Y H' s1->Ax H H'->Fly e T1 cls dx s1.heap->Fl X pI e->Fl X pI T1->H' e=Ae->H' T1=Ae->E5 X.K CL H' cls dx y->At (model X.prog X.w) X.A (IF (.ref e) X.env hd) Q X.xe s1):Ja X CL pI Y H y (λev s1=>At (model X.prog X.w) X.A (F2 ev X.env) (λ_ s2=>At (model X.prog X.w) X.A (GX ev Ae) (λ_ s3=>At (model X.prog X.w) X.A (IF ev X.env hd) Q X.xe s3) X.xe s2) X.xe s1):=by
 intro s' H' e T cls dx I' sm fl he hT ae aT xr;have two:∀{T:Ak}{Z_:Ak->Prop},Z_ e->Z_ T->∀ b∈[e,T],Z_ b:=λ{T Z_} h1 h2 b hb=>by
  rcases AG.mp hb with rfl|hb
  .exact h1
  .rw[Bm.mp hb];exact h2
 have hfr:X.A.frames=Aa (X.env::X.outer):=by rw[<-hst];exact I'.ok.frames
 refine YF (base:=X.base) hfr hfm (by rw[<-hst];exact I'.stack) fl λh1 T1 fl1 sh1 hT1=>?_
 rw[<-hst]at sh1;exact k e T1 cls dx H' _ (PC I' hx sh1 (two ae aT) (two (Z_:=λb=>H' b=Ae) he hT)) sm fl1 ae (hT1.elim (λz=>z ▸ aT) λz=>IR I' hx z) he (hT1.elim (λz=>z ▸ hT) λz=>Ii I'.hok z) xr
theorem cT{c i:Af}{g n:Ag}{hp:Az}{fb:Rho->O}(hx:X.ex=[])(hst:X.stack=X.env::X.outer)(hfm:X.env.frame=Aa X.env.locals)(hN:X.N.Nodup)(hi:X.N[i]?=Aa n)(hl:X.env.scope.names.lookup n=Aa .local)(h1:T7 X CL up g c)(hb:STB X CL body fb)(hρ:∀ U y U',fb U=.exn y U'->U'=U)(hh:∀ e,SSs (Cx.hot X e) CL (λ_ _=>AV) (h0::hs) fh):SS X CL W (.Try body [.ExceptHandler (Aa (.Name g p1)) (Aa n) (h0::hs) hp] [] [] pos) (λU=>Tk up c i (fb U) fh):=λFz B pI s Y H D I ⟨U,x,p⟩=>by
 refine wpAny_Try_except (A3 (hb Fz B pI s Y H D U _ PassesOwn.looking I x ?_ (hρ U)) (λf s1 hf=>?_) λ_ _ z=>z)
 .dsimp only at p;cases eb:fb U with
  |exn y U'=>
   rw[eb]at p;intro e0;subst e0;have p2:Bj X.K CL Fz B W (if (up y.c).contains c=Ab then hdO i y U' fh else .bad) D:=p
   refine Yg hx hst hfm λe T1 cls dx H' s1 I1 sm fl1 ae aT1 he HT1 xr=>?_
   have gx:=x.grow sm;obtain⟨C,hcl,rfl,_⟩:=xr (Bc B U' Y) gx.aok;obtain⟨C',hg,hm,hdb,xc,hup⟩:=h1;refine bJ (W:=W) hx hN hi hl hg hm hdb xc (hup y.c C hcl) hh I1 fl1 ae aT1 he HT1 gx hcl xr (λhc=>?_) (λhc=>?_)
   .rw[AA hc]at p2;exact p2
   .rw[AH (by rw[hc];exact Av)]at p2;exact p2.elim
  |next U'=>rw[eb]at p;exact p
  |ret d b=>rw[eb]at p;exact p
  |brk U'=>rw[eb]at p;exact p
  |cont U'=>rw[eb]at p;exact p
  |bad=>rw[eb]at p;exact p.elim
 .cases f with
  |next=>exact DN hf
  |ret u=>exact hf
  |brk=>exact hf
  |cont=>exact hf
theorem P0{f:Ak}{sp:Sp}{E:XK}{e:Am}{es:Ac Am}{t:TA}(F:FnOk X.prog X.w X.K X.mg X.base CX k f fd ps sp)(hr:Room k X.A)(hg:Gl X x)(hm:X.mg x=Aa (.ref f))(hk:A8 X.K (.ref f)=Ab)(hb:Eb X.K fd ps [])(hx:∀ pI H s e s',Inv X pI Y0 H s->CX X.stack H s E e s'->X.xe e s')(ha:PA X (e::es) t)(hdb:(x==("__debug__" : Ag))=Ad)(he:Aq (e::es) X.env=(Ad,eval e X.env)::Aq es X.env)(hpl:(Br pos (Aq es X.env)).any (·.1)=Ad):PE X (.Call (.Name x p) (e::es) [] pos) (λY H Q=>Y=Y0/\t Y H λvs H1=>sp vs H1 Q E):=by
 intro pI s Y H Q I ⟨e0,h⟩;subst e0;refine CF (G1 I hg hm ?_ hdb);refine DM (h₀:=X.base) I.ok.mod.kin hk (thn (ha pos pI s Y H _ I h) λus s1 ⟨vs,H1,I1,r,q⟩=>⟨I1.kIn,?_⟩) he hpl
 have hl:us.length=ps.length:=by rw[<-r.length];exact F.len _ _ _ _ q
 have hb':FM s1 fd ⟨us,[]⟩ (ps.zip us):=by
  have:=hb s1 us I1.kIn (by rw[Ch];exact hl)
  rw[Ch]at this;exact this
 refine ER (D1 (F.run X.A X.stack s1 H1 ⟨us,[]⟩ us vs Q E hr I1.env0 hb' r q) λr s' hq=>?_)
 cases r with
 |error e=>exact hx pI H1 s1 e s' I1 hq
 |ok fl=>
  cases fl with
  |ret u=>exact I1.after hq
  |next=>exact A1 hq
  |brk=>exact A1 hq
  |cont=>exact A1 hq
def Oi(K:Fg)(CL:ClA)(Rp:Hp->V->D->Prop)(E0:XK)(H:Hp)(r:R D)(Q:VK):Prop:=match r with
  |.ok d=>∀ v H',Ax H H'->Rp H' v d->Q v H'
  |.exn y=>∀ cls dx H',Ax H H'->E5 K CL H' cls dx y->E0 cls dx H'
  |.bad=>AV
theorem Lc{k n:Af}{fr:Ai}{f:Ak}{F:Ac D->R D}{e:Am}{es:Ac Am}{fs ft:Rho->R (Ac D)}{sh:Rho->Ai}{E0:XK}(G:FnOk X.prog X.w X.K X.mg X.base CX k f fd ps (spD X.K CL n fr F))(hr:Room k X.A)(hg:Gl X x)(hm:X.mg x=Aa (.ref f))(hk:A8 X.K (.ref f)=Ab)(hb:Eb X.K fd ps [])(hx:∀ pI H s e s',Inv X pI Y0 H s->CX X.stack H s E0 e s'->X.xe e s')(ha:SA X CL (λ_ _=>AV) (e::es) fs)(hat:SAT X CL (λ_ _=>AV) (e::es) ft)(hst:∀ U,sh U=Ab->ft U=fs U)(hn:∀ U ds,ft U=.ok ds->ds.length=n)(hnx:∀ U y,ft U≠.exn y)(hdb:(x==("__debug__" : Ag))=Ad)(he:Aq (e::es) X.env=(Ad,eval e X.env)::Aq es X.env)(hpl:∀ pos,(Br pos (Aq es X.env)).any (·.1)=Ad)(A:Ak->Prop):PE X (.Call (.Name x p) (e::es) [] pos) (λY H Q=>Y=Y0/\AOk H A/\∃ U,Good X.K CL A U Y H/\Oi X.K CL (Dj X.K CL fr H A) E0 H ((ft U).bind λds=>(F ds).bind λd=>if sh U=Ab then .ok d else if FR fr d=Ab then .ok d else .bad) Q):=λpI s Y H Q I ⟨e0,hA,U,gd,q⟩=>by
 by_cases hs:sh U=Ab
 .rw[hst U hs]at q;refine P0 G hr hg hm hk hb hx (ha A) hdb he (hpl _) pI s Y H Q I ⟨e0,hA,U,gd,?_⟩;cases e1:fs U with
  |bad=>rw[e1]at q;exact q
  |exn y=>exact absurd (by rw[hst U hs];exact e1) (hnx U y)
  |ok ds=>
   rw[e1]at q;intro vs H1 s1 r1;refine⟨ds,A,by rw[r1.length];exact hn U ds (by rw[hst U hs];exact e1),hA.same s1,r1,?_⟩
   have q':Oi X.K CL (Dj X.K CL fr H A) E0 H ((F ds).bind λd=>if sh U=Ab then .ok d else if FR fr d=Ab then .ok d else .bad) Q:=q
   cases e2:F ds with
   |ok d=>
    rw[e2,R.bind_ok,AA hs]at q';exact λv H2 s2 r2=>q' v H2 (s1.trans s2) ⟨r2.1,λz ds' e'=>let ⟨a,xs,z1,z2,z3⟩:=r2.2 z ds' e';⟨a,xs,z1,s1.free z2,z3⟩⟩
   |exn y=>
    rw[e2]at q';exact λcls dx H2 s2 xr=>q' cls dx H2 (s1.trans s2) xr
   |bad=>rw[e2]at q';exact q'.elim
 .refine P0 G hr hg hm hk hb hx (hat A) hdb he (hpl _) pI s Y H Q I ⟨e0,hA,U,gd,?_⟩;cases e1:ft U with
  |bad=>rw[e1]at q;exact q
  |exn y=>exact absurd e1 (hnx U y)
  |ok ds=>
   rw[e1]at q;intro vs H1 s1 r1;refine⟨ds,A0,by rw[r1.plain.length];exact hn U ds e1,λ_ z=>z.elim,r1.plain,?_⟩
   have q':Oi X.K CL (Dj X.K CL fr H A) E0 H ((F ds).bind λd=>if sh U=Ab then .ok d else if FR fr d=Ab then .ok d else .bad) Q:=q
   cases e2:F ds with
   |ok d=>
    rw[e2,R.bind_ok,AH hs]at q';split at q'
    .rename_i hc;exact λv H2 s2 r2=>q' v H2 (s1.trans s2) (Se hA (s1.trans s2) hc ⟨r2.1,λz ds' e'=>let ⟨a,xs,z1,z2,z3⟩:=r2.2 z ds' e';⟨a,xs,z1,s1.free z2,z3⟩⟩)
    .exact q'.elim
   |exn y=>
    rw[e2]at q';exact λcls dx H2 s2 xr=>q' cls dx H2 (s1.trans s2) xr
   |bad=>rw[e2]at q';exact q'.elim
noncomputable def Cx.pw(X:Cx)(pI:Pn)(Xw:Vq):Cx:={X with pn:=X.pn++pI,xe:=Xw}
section
variable{X:Cx}{pI pins':Pn}{Y:L2.St}{H:Hp}{s:Ao}{Xw:Vq}
theorem lU(ok:X.Ok):(Cx.pw X pI Xw).Ok:=⟨ok.mod,ok.kind,ok.glob,ok.blt,ok.above,ok.inj,ok.has,ok.cab,ok.hd,ok.frames,ok.stk,ok.exf,ok.bs,ok.bsz,ok.noex,ok.exfs,ok.funs,ok.frf⟩
theorem Ks(I:Inv X pI Y H s)(Xw:Vq):Inv (Cx.pw X pI Xw) [] Y H s:=⟨lU I.ok,I.os,I.bare,I.base,I.loc,I.cell,I.free,I.freeC,λp hp=>I.pin p (by
 rcases Fq.mp hp with z|z
 .exact z
 .exact absurd z (by simp)),I.hok,I.len⟩
theorem Js(ok:X.Ok)(I:Inv (Cx.pw X pI Xw) pins' Y H s):Inv X pI Y H s:=⟨ok,I.os,I.bare,I.base,I.loc,I.cell,I.free,I.freeC,λp hp=>I.pin p (Fs _ hp),I.hok,I.len⟩
theorem Lj(ok:X.Ok){D:Ends}{f:Flow}{s':Ao}(h:SP (Cx.pw X pI Xw) pins' D f s'):SP X pI D f s':=by
 cases f with
 |next=>obtain⟨Y',H',I,q⟩:=h;exact⟨Y',H',Js ok I,q⟩
 |brk=>obtain⟨Y',H',I,q⟩:=h;exact⟨Y',H',Js ok I,q⟩
 |cont=>obtain⟨Y',H',I,q⟩:=h;exact⟨Y',H',Js ok I,q⟩
 |ret u=>obtain⟨v,Y',H',I,r,q⟩:=h;exact⟨v,Y',H',Js ok I,r,q⟩
end
section
variable{X:Cx}{CL:ClA}{k n:Af}{fr:Ai}{f:Ak}{fd:Bq}{ps:Ac Ag}{F:Ac D->R D}{x:Ag}{p pos pos2:Az}{e:Am}{es:Ac Am}{fs ft:Rho->R (Ac D)}{sh:Rho->Ai}
theorem QS{y:Ex}(hx:X.ex=[])(ok:X.Ok)(q:Ja X CL pI Y H y Xw):∀ pins' H1 s1 e s',Inv (Cx.pw X pI Xw) pins' Y H1 s1->CXR X.prog X.w (Cx.pw X pI Xw).stack H1 s1 (λcls dx H'=>E5 X.K CL H' cls dx y/\Ax H H') e s'->(Cx.pw X pI Xw).xe e s':=by
 intro pins' H1 s1 ev s' J h;obtain⟨e,T,cls,dx,H',rfl,os,bare,un,hok,fl,he,hT,ne,nT,xr,sm⟩:=h;have J':=Js ok J;have J2:=J'.call' (s':=s') (ch:=[]) os un hok bare (λb z=>absurd z (by simp))
 exact q s' H' e T cls dx J2 sm fl he hT (IR J' hx ne) (IR J' hx nT) xr
theorem QT:∀ pins' H1 s1 e s',Inv (Cx.pw X pI Xw) pins' Y H1 s1->CXR X.prog X.w (Cx.pw X pI Xw).stack H1 s1 (λ_ _ _=>AV) e s'->(Cx.pw X pI Xw).xe e s':=by
 intro pins' H1 s1 ev s' J h;obtain⟨e,T,cls,dx,H',rfl,os,bare,un,hok,fl,he,hT,ne,nT,w⟩:=h;exact w.elim
variable(hx0:X.ex=[])(G:FnOk X.prog X.w X.K X.mg X.base (CXR X.prog X.w) k f fd ps (spD X.K CL n fr F))(hr:Room k X.A)(hg:Gl X x)(hm:X.mg x=Aa (.ref f))
    (hk:A8 X.K (.ref f)=Ab) (hb:Eb X.K fd ps []) (hst:∀ U,sh U=Ab->ft U=fs U) (hn:∀ U ds,ft U=.ok ds->ds.length=n) (hnx:∀ U y,ft U≠.exn y)
    (hdb:(x==("__debug__" : Ag))=Ad) (he:Aq (e::es) X.env=(Ad,eval e X.env)::Aq es X.env) (hpl:∀ pos,(Br pos (Aq es X.env)).any (·.1)=Ad)
    (ha:∀ pI Xw,Dt (model X.prog X.w) X.A X.env Xw->SA (Cx.pw X pI Xw) CL (λ_ _=>AV) (e::es) fs/\SAT (Cx.pw X pI Xw) CL (λ_ _=>AV) (e::es) ft)
include hx0 G hr hg hm hk hb hst hn hnx hdb he hpl ha
theorem Yk(hs:Cp (.Call (.Name x p) (e::es) [] pos) Ae pos2.line X.env=pure Ad):STB X CL [.Expr (.Call (.Name x p) (e::es) [] pos) pos2] (λU=>O.of U ((ft U).bind λds=>(F ds).bind λd=>if sh U=Ab then .ok d else if FR fr d=Ab then .ok d else .bad) λ_=>.next U):=by
 intro Fz B pI s Y H D U Xw own I sx q _;obtain⟨ha1,ha2⟩:=ha pI Xw own;dsimp only at q;cases er:(ft U).bind λds=>(F ds).bind λd=>if sh U=Ab then .ok d else if FR fr d=Ab then .ok d else .bad with
 |bad=>rw[er]at q;exact q.elim
 |exn y=>
  rw[er]at q;have key:=Lc (X:=Cx.pw X pI Xw) (p:=p) (pos:=pos) (Y0:=Y) (fr:=fr) (F:=F) (n:=n) (sh:=sh) G hr hg hm hk hb (QS hx0 I.ok (q rfl)) ha1 ha2 hst hn hnx hdb he hpl (Bc B U Y);refine A3 (Jx (Ke (pos:=pos2) key hs) [] s Y H D (Ks I Xw) ⟨rfl,sx.aok,U,sx.good,?_⟩) (λ_ _ z=>Lj I.ok z) λ_ _ z=>z
  rw[er];exact λcls dx H' sm xr=>⟨xr,sm⟩
 |ok d=>
  rw[er]at q;have key:=Lc (X:=Cx.pw X pI Xw) (p:=p) (pos:=pos) (Y0:=Y) (fr:=fr) (F:=F) (n:=n) (sh:=sh) (E0:=λ_ _ _=>AV) G hr hg hm hk hb QT ha1 ha2 hst hn hnx hdb he hpl (Bc B U Y)
  refine A3 (Jx (Ke (pos:=pos2) key hs) [] s Y H D (Ks I Xw) ⟨rfl,sx.aok,U,sx.good,?_⟩) (λ_ _ z=>Lj I.ok z) λ_ _ z=>z
  rw[er];exact λv H' sm r=>q Y H' (sx.grow sm)
theorem Zl{i:Af}{m:Ag}(hN:X.N.Nodup)(hi:X.N[i]?=Aa m)(hl:Loc X.env.scope m)(hf:X.fn m=Ab\/X.env.scope.names.lookup m=Aa .local)(hs:Cp (.Call (.Name x p) (e::es) [] pos) (Aa (.Name m pos')) pos2.line X.env=pure Ad):STB X CL [.Assign [.Name m pos'] (.Call (.Name x p) (e::es) [] pos) pos2] (λU=>O.of U ((ft U).bind λds=>(F ds).bind λd=>if sh U=Ab then .ok d else if FR fr d=Ab then .ok d else .bad) λd=>.next (U.set i (Aa (d,Ad)))):=by
 intro Fz B pI s Y H D U Xw own I sx q _;obtain⟨ha1,ha2⟩:=ha pI Xw own;dsimp only at q;cases er:(ft U).bind λds=>(F ds).bind λd=>if sh U=Ab then .ok d else if FR fr d=Ab then .ok d else .bad with
 |bad=>rw[er]at q;exact q.elim
 |exn y=>
  rw[er]at q;have key:=Lc (X:=Cx.pw X pI Xw) (p:=p) (pos:=pos) (Y0:=Y) (fr:=fr) (F:=F) (n:=n) (sh:=sh) G hr hg hm hk hb (QS hx0 I.ok (q rfl)) ha1 ha2 hst hn hnx hdb he hpl (Bc B U Y);refine A3 (Jx (Lu (X:=Cx.pw X pI Xw) (i:=i) (pos:=pos2) hN hi hl key hs hf) [] s Y H D (Ks I Xw) ⟨rfl,sx.aok,U,sx.good,?_⟩) (λ_ _ z=>Lj I.ok z) λ_ _ z=>z
  rw[er];exact λcls dx H' sm xr=>⟨xr,sm⟩
 |ok d=>
  rw[er]at q;have key:=Lc (X:=Cx.pw X pI Xw) (p:=p) (pos:=pos) (Y0:=Y) (fr:=fr) (F:=F) (n:=n) (sh:=sh) (E0:=λ_ _ _=>AV) G hr hg hm hk hb QT ha1 ha2 hst hn hnx hdb he hpl (Bc B U Y)
  refine A3 (Jx (Lu (X:=Cx.pw X pI Xw) (i:=i) (pos:=pos2) hN hi hl key hs hf) [] s Y H D (Ks I Xw) ⟨rfl,sx.aok,U,sx.good,?_⟩) (λ_ _ z=>Lj I.ok z) λ_ _ z=>z
  rw[er];exact λv H' sm r=>q _ H' ((sx.grow sm).set i r.1)
end
section
variable{X:Cx}{CL:ClA}{W:XW}
theorem Ym{np cpos pos:Az}{e:Am}{es:Ac Am}{fs:Rho->R (Ac D)}(hcalm:X.calm=Ab)(rz:K1 X CL W)(hg:Gl X g)(hm:X.mg g=Aa (.ref C))(hdb:(g==("__debug__" : Ag))=Ad)(xc:D5 X.K C Ae=Ab)(hcl:CL c=Aa C)(ha:SA X CL W (e::es) fs)(hxn:∀ ds,xn c ds=.bad\/xn c ds=.ok ⟨c,[]⟩)(he:Aq (e::es) X.env=(Ad,eval e X.env)::Aq es X.env)(hpl:∀ pos,(Br pos (Aq es X.env)).any (·.1)=Ad)(hz:∀ U ds,fs U=.ok ds->ds.length<=100000):SS X CL W (.Raise (Aa (.Call (.Name g np) (e::es) [] cpos)) Ae pos) (λU=>O.of U (noX (fs U)) λxs=>O.of U (xn c xs) λx=>.exn x U):=λFz B pI s Y H D I ⟨U,x,p⟩=>by
 dsimp only at p;cases e1:fs U with
 |bad=>rw[e1]at p;exact p.elim
 |exn y=>rw[e1]at p;exact p.elim
 |ok ds=>
  rw[e1]at p;have p2:Bj X.K CL Fz B W (O.of U (xn c ds) λx=>.exn x U) D:=p
  rcases hxn ds with e2|e2
  .rw[e2]at p2;exact p2.elim
  .rw[e2]at p2;have p3:∀ H,(∀ b o,Fz b o->H b=Aa o)->W ⟨c,[]⟩ H:=p2;obtain⟨bm,N,nm,qn,bs,hd,sn,sub,ab,col,dd,k0,k1,k2,k3,k5,mN,hob,hni,hbase⟩:=Kj I.kIn xc;refine wpAny_Raise_call_subT (bmB:=veB) (nm:=nm) (q:=qn) (C:=C) (N:=N) (bs:=bs) (bm:=bm) (hdct:=hd) (sn:=sn) (sub:=sub) (ab:=ab) (col:=col) (dd:=dd) (k0:=k0) (k1:=k1) (k2:=k2) (k3:=k3) (k5:=k5) (mN:=mN) Cy hbase (I.ok.hd hcalm) (by rw[he];show (Ad||(Br cpos (Aq es X.env)).any (·.1))=Ad;rw[hpl];rfl) hni ?_
   refine G1 I hg hm ⟨rfl,?_⟩ hdb;have q1:=ha (Bc B U Y) cpos pI s Y H (λvs H1=>Ax H H1/\vs.length=ds.length) I ⟨x.aok,U,x.good,by rw[e1];exact λvs H1 s1 r1=>⟨s1,r1.length⟩⟩
   rw[he]at q1 ⊢;refine D9 (A3 q1 (λus s2 ⟨vs,H2,I2,r2,s2',hl⟩=>⟨rfl,?_⟩) λ_ _ z=>z)
   obtain⟨o1,o2,o3⟩:=hob _ I2.kIn;refine⟨?_,o1,o2,o3,λh' ev hmade=>?_⟩
   .rw[<-r2.length,hl,BX];have:=hz U ds e1;omega
   .obtain⟨t,ge,_⟩:=hmade.there;have I3:Inv X pI Y H2 {s2 with heap:=h'}:=I2.kept (t':=s2.toks) hmade.keeps
    exact rz pI Y H2 _ ev C Ae t ⟨c,[]⟩ I3 (λhx=>IQ I2 hx hmade.new) (Ii I2.hok hmade.new) ge (λA _=>⟨C,hcl,rfl,.inl rfl⟩) (p3 H2 λb o z=>s2' _ _ (x.same b o z))
def Ky(K:Fg)(CL:ClA)(up:Af->Ac Af)(c':Af)(C':Ak):Prop:=∀ c C,CL c=Aa C->CY K (.ref C) (.ref C')=Aa ((up c).contains c')
theorem Qo{s:Ao}{a C:Ak}{cv:Aj}{b:Ai}{Q:VK}(I:Inv X pI Y H s)(ha:H a=Aa (.ext φ))(hφ:∀ h,φ h->∃ o,h.get? a=Aa o/\o.cls=.ref C)(xc:XcOk X.K C)(e:CY X.K (.ref C) cv=Aa b)(q:Q (.bl b) H):
  At (model X.prog X.w) X.A (call (.builtin "isinstance") [.ref a,cv]) (EP X pI Y Q) X.xe s:=by
 have p:XAt a C s.heap:=hφ _ (I.hok a _ ha).1;exact BS (Qm xc) I.kIn p e (by intro z;cases z) λtk=>⟨.bl b,H,I.tok tk,rfl,q⟩
theorem PH:∀(Cs:Ac Ak){its:Ac Aj},AX (Cs.map V.ref) its->its=Cs.map Bb
 |[],_,rv=>by cases rv;rfl
 |c::cs,_,rv=>by
  cases rv with
  |cons h1 h2=>rw[PH cs h2];cases h1;rfl
theorem bD{s:Ao}{a C tp:Ak}{Cs:Ac Ak}{b:Ai}{Q:VK}(I:Inv X pI Y H s)(ha:H a=Aa (.ext φ))(hφ:∀ h,φ h->∃ o,h.get? a=Aa o/\o.cls=.ref C)(xc:XcOk X.K C)(ht:H tp=Aa (.tup (Cs.map V.ref)))(e:He X.K (.ref C) (Cs.map Bb)=Aa b)(q:Q (.bl b) H):
  At (model X.prog X.w) X.A (call (.builtin "isinstance") [.ref a,.ref tp]) (EP X pI Y Q) X.xe s:=by
 have p:XAt a C s.heap:=hφ _ (I.hok a _ ha).1;obtain⟨_,its,rv,⟨o,ho,hc,n,hd⟩⟩:=I.hok tp _ ht;have ei:its=Cs.map Bb:=PH Cs rv;subst ei;obtain⟨cls,dd,dat,sl⟩:=o;have hc':cls=.type "tuple" := hc;have hd':dat=.seq (EB (Cs.map Bb)) n:=hd;subst hc' hd';exact PySem.W.kia_tup (Qm xc) I.kIn p ho e (by intro z;cases z) λtk=>⟨.bl b,H,I.tok tk,rfl,q⟩
theorem Rm{K:Fg}{up:Af->Ac Af}{c:Af}{C:Ak}(h:CL c=Aa C):∀(cs:Ac (Af×Ak)),(∀ p∈cs,Ky K CL up p.1 p.2)->He K (.ref C) ((cs.map λq:Af×Ak=>q.2).map Bb)=Aa (cs.any λp=>(up c).contains p.1)
  |[],_=>rfl
  |p::cs,hk=>by
    have h1:=hk p AC c C h;have h2:=Rm h cs λq hq=>hk q (Aw _ hq)
    show (match CY K (.ref C) (.ref p.2) with
      |some Ab=>Aa Ab
      |some Ad=>He K (.ref C) ((cs.map λq:Af×Ak=>q.2).map Bb)
      | none=>Ae)=_
    rw[h1,HM];cases (up c).contains p.1 with
    |true=>rfl
    |false=>rw[h2];rfl
theorem Ni{ks:Ac Ki}{Q:VK}(hk:ks.all Ds=Ab)(hne:ks≠[])(p:AU Rp W H (DW up ks d) Q):∃ c fs,d=.exc c fs/\AU Rp W H (.ok (.bl (ks.any λk=>kiD up k d))) Q:=by
 have ha:ks.any Ds=Ab:=by
  cases ks with
  |nil=>exact absurd rfl hne
  |cons k ks=>simp only[Ef,Al]at hk;simp[HM,hk.1]
 cases d with
 | exc c fs=>exact⟨c,fs,rfl,by
   have p':AU Rp W H (if ks.all Ds=Ab then .ok (.bl (ks.any λk=>kiD up k (.exc c fs))) else .bad) Q:=p
   rw[AA hk]at p';exact p'⟩
 |obj c fs=>exact A1 p
 |dic _=>exact A1 p
 |non=>simp only[DW,ha,D6]at p;exact A1 p
 |bl _=>simp only[DW,ha,D6]at p;exact A1 p
 |int _=>simp only[DW,ha,D6]at p;exact A1 p
 |str _=>simp only[DW,ha,D6]at p;exact A1 p
 |tup _=>simp only[DW,ha,D6]at p;exact A1 p
 |lst _=>simp only[DW,ha,D6]at p;exact A1 p
theorem NC{v:V}{fs:Ac (Ag×D)}(r:B9 K CL H A v (.exc c fs)):∃ a C φ,v=.ref a/\CL c=Aa C/\H a=Aa (.ext φ)/\∀ h,φ h->∃ o,h.get? a=Aa o/\o.cls=.ref C:=by
 rcases r with ⟨a,C,φ,e,_,hc,hH,hφ,_⟩|⟨a,xs,ds,_,z,_⟩
 .exact⟨a,C,φ,e,hc,hH,hφ⟩
 .cases z
variable{a:Am}{fa:Rho->R D}{up:Af->Ac Af}{x:Ag}{p p2 pos:Az}
theorem RO{c':Af}(hxc:∀ c C,CL c=Aa C->XcOk X.K C)(hg:Gl X "isinstance")(hm:X.mg "isinstance" = Ae)(hg2:Gl X x)(hm2:X.mg x=Aa (.ref C'))(hkit:Ky X.K CL up c' C')(hdb:(x==("__debug__" : Ag))=Ad)(ha:ST X CL W a fa)(he:Aq [a,.Name x p2] X.env=(Ad,eval a X.env)::Aq [.Name x p2] X.env):SE X CL W (.Call (.Name "isinstance" p) [a,.Name x p2] [] pos) (λU=>(fa U).bind λx=>DW up [.cls c'] x):=λA=>
 PE.weak (Jp (r:=λxs H Q=>∃ a C φ c,xs=[.ref a,.ref C']/\CL c=Aa C/\H a=Aa (.ext φ)/\(∀ h,φ h->∃ o,h.get? a=Aa o/\o.cls=.ref C)/\Q (.bl ((up c).contains c')) H) (λpI s Y H xs us Q I r ⟨b,C,φ,c,e,hc,hH,hφ,q⟩=>by
   subst e;obtain⟨u,w',rfl,r1,r2⟩:=Il r;cases r1;cases r2;exact Qo I hH hφ (hxc c C hc) (hkit c C hc) q)
  hg hm Ew (Dz (ha A) (Dz (NE (v:=.ref C') hg2 hm2 rfl hdb) E3 rfl) he) (by decide) (by decide) he rfl) λY H Q ⟨hA,U,g,q⟩=>⟨hA,U,g,AU.bind q λd v H1 _ s1 r1 p1=>by
   obtain⟨c,fs,rfl,p2⟩:=Ni (by rfl) (by simp) p1
   obtain⟨b,C,φ,rfl,hc,hH,hφ⟩:=NC r1;refine⟨b,C,φ,c,rfl,hc,hH,hφ,p2 _ H1 (Ax.refl H1) ?_⟩;exact congrArg V.bl (DG _).symm⟩
theorem RN(hxc:∀ c C,CL c=Aa C->XcOk X.K C)(hg:Gl X "isinstance")(hm:X.mg "isinstance" = Ae)(hg2:Gl X "ValueError")(hm2:X.mg "ValueError" = Ae)(ha:ST X CL W a fa)(he:Aq [a,.Name "ValueError" p2] X.env=(Ad,eval a X.env)::Aq [.Name "ValueError" p2] X.env):SE X CL W (.Call (.Name "isinstance" p) [a,.Name "ValueError" p2] [] pos) (λU=>(fa U).bind λx=>DW up [.verr] x):=λA=>
 PE.weak (Jp (r:=λxs H Q=>∃ a C φ c,xs=[.ref a,.ty "ValueError"]/\CL c=Aa C/\H a=Aa (.ext φ)/\(∀ h,φ h->∃ o,h.get? a=Aa o/\o.cls=.ref C)/\Q (.bl Ab) H) (λpI s Y H xs us Q I r ⟨b,C,φ,c,e,hc,hH,hφ,q⟩=>by
   subst e;obtain⟨u,w',rfl,r1,r2⟩:=Il r;cases r1;cases r2;exact Qo I hH hφ (hxc c C hc) (hxc c C hc).ve q)
  hg hm Ew (Dz (ha A) (Dz (QN (v:=.ty "ValueError") hg2 hm2 PyProof.Rows.Boot.«ValueError» rfl (by decide) (by decide)) E3 rfl) he) (by decide) (by decide) he rfl) λY H Q ⟨hA,U,g,q⟩=>⟨hA,U,g,AU.bind q λd v H1 _ s1 r1 p1=>by
   obtain⟨c,fs,rfl,p2⟩:=Ni (by rfl) (by simp) p1
   obtain⟨b,C,φ,rfl,hc,hH,hφ⟩:=NC r1;refine⟨b,C,φ,c,rfl,hc,hH,hφ,p2 _ H1 (Ax.refl H1) ?_⟩;exact congrArg V.bl (DG _).symm⟩
theorem aH(up:Af->Ac Af)(c:Af)(fs:Ac (Ag×D))(cs:Ac (Af×Ak)):((cs.map λq=>Ki.cls q.1).any λk=>kiD up k (.exc c fs))=cs.any λq=>(up c).contains q.1:=Up
def TL(Cs:Ac Ak):TA:=λ_ H Q=>Q (Cs.map V.ref) H
theorem eN{ts:Ac Am}{cs:Ac (Af×Ak)}(hxc:∀ c C,CL c=Aa C->XcOk X.K C)(hg:Gl X "isinstance")(hm:X.mg "isinstance" = Ae)(hts:PA X ts (TL (cs.map λq:Af×Ak=>q.2)))(hne:cs≠[])(hl:cs.length<=1000)(hkit:∀ q∈cs,Ky X.K CL up q.1 q.2)(ha:ST X CL W a fa)(he:Aq [a,.Tuple ts kk p2] X.env=(Ad,eval a X.env)::Aq [.Tuple ts kk p2] X.env):SE X CL W (.Call (.Name "isinstance" p) [a,.Tuple ts kk p2] [] pos) (λU=>(fa U).bind λx=>DW up (cs.map λq=>.cls q.1) x):=λA=>
 PE.weak (Jp (r:=λxs H Q=>∃ a C φ c tp,xs=[.ref a,.ref tp]/\CL c=Aa C/\H a=Aa (.ext φ)/\(∀ h,φ h->∃ o,h.get? a=Aa o/\o.cls=.ref C)/\H tp=Aa (.tup ((cs.map λq:Af×Ak=>q.2).map V.ref))/\Q (.bl (cs.any λq=>(up c).contains q.1)) H) (λpI s Y H xs us Q I r ⟨b,C,φ,c,tp,e,hc,hH,hφ,ht,q⟩=>by
   subst e;obtain⟨u,w',rfl,r1,r2⟩:=Il r;cases r1;cases r2;exact bD I hH hφ (hxc c C hc) ht (Rm hc cs hkit) q)
  hg hm Ew (Dz (ha A) (Dz (RZ hts) E3 rfl) he) (by decide) (by decide) he rfl) λY H Q ⟨hA,U,g,q⟩=>⟨hA,U,g,AU.bind q λd v H1 _ s1 r1 p1=>by
   have hk:(cs.map λq=>Ki.cls q.1).all Ds=Ab:=by simp[Uo,Ds]
   obtain⟨c,fs,rfl,p2⟩:=Ni hk (by simpa using hne) p1
   obtain⟨b,C,φ,rfl,hc,hH,hφ⟩:=NC r1;refine⟨by rw[BD,BD,BX];omega,λt ht=>?_⟩
   have hbt:b≠t:=E4 hH ht;refine⟨b,C,φ,c,t,rfl,hc,by rw[A6 hbt];exact hH,hφ,Dh,p2 _ _ (Eo ht _) ?_⟩
   exact congrArg V.bl (aH up c fs cs).symm⟩
end
theorem R8(q:D5 K C v=Ab):∃ dd cd sl bm,K.lookup C=Aa ⟨.type "type",dd,.cls cd,sl⟩/\cd.mro=.ref C::bm:=by
 unfold D5 at q;split at q
 .rename_i dd cd sl ho;split at q
  .rename_i C' bm k0 k1 k2 k3 n k5 hm hs;simp only[Al,AF,Bk]at q;obtain⟨rfl,_⟩:=q;exact⟨dd,cd,sl,bm,ho,hm⟩
  .cases q
 .cases q
theorem fU(q:D5 K C v=Ab):EO K (.ref C)=Aa (.type "type"):=by
 obtain⟨dd,cd,sl,bm,h1,h2⟩:=R8 q;show (K.lookup C).map _=_;rw[h1];rfl
noncomputable abbrev L6:CXT:=λ_ _ _ _ _ _=>AV
structure HotOk (P:AJ) (w:AT) (K:Fg) (mg:Ag->An Aj) (base:AB) (k:Af) (f:Ak) (fd:Bq) (ps:Ac Ag) (sp:Sp):Prop where
 len:∀ vs H Q E,sp vs H Q E->vs.length=ps.length
 run:∀(A:AR)(ev:Ak)(outer:Ac B2)(s:Ao)(H:Hp)(args:Args)(us:Ac Aj)(vs:Ac V)(Q:VK)(E:XK),Room k A->Env0 P w K mg base (A.mark (Aa (.ref ev))) outer s H->FM s fd args (ps.zip us)->AX vs us->sp vs H Q E ->
  D0 (model P w) (A.mark (Aa (.ref ev))) (.call (.ref f) args) (CR L6 outer P w H s Q E) s
def spH(K:Fg)(CL:ClA)(n:Af)(fr:Ai)(F:Ac D->R D):Sp:=λvs H Q _=>∃(ds:Ac D)(A:Ak->Prop),vs.length=n/\AOk H A/\Reps K CL H A vs ds/\(match F ds with
  |.ok d=>∀ v H',Ax H H'->Dj K CL fr H A H' v d->Q v H'
  |.exn _=>AV
  | .bad=>AV)
section
variable{X:Cx}{CL:ClA}{ev:Ak}
theorem Zk{t:Am}{xs ys:Ac AD}{fc:Rho->R Ai}{fx fy:Rho->O}(hc:∀ pI Xw,Dt (model X.prog X.w) X.A X.env Xw->SB (Cx.pw X pI Xw) CL (λ_ _=>AV) t fc)(hnx:∀ U y,fc U≠.exn y)(hx:STB X CL xs fx)(hy:STB X CL ys fy):STB X CL [.If t xs ys pos] (λU=>O.of U (fc U) λb=>if b=Ab then fx U else fy U):=by
  intro Fz B pI s Y H D U Xw own I sx q hρ;dsimp only at q hρ;cases ec:fc U with
  |bad=>rw[ec]at q;exact q.elim
  |exn y=>exact absurd ec (hnx U y)
  |ok b=>
    rw[ec]at q hρ;have key:=hc pI Xw own (Bc B U Y) [] s Y H (λb' H'=>b'=b/\Ax H H') (Ks I Xw) ⟨sx.aok,U,sx.good,by rw[ec];exact λH' sm=>⟨rfl,sm⟩⟩
    refine GF (thn (wpAny_If (Q:=SP X pI D) (thn key λb' s1 ⟨H1,I1,e,sm⟩=>?_)) (λf s1 z=>by
      cases f with
      |next=>exact DN z
      |ret v=>exact z
      |brk=>exact z
      | cont=>exact z))
    subst e;have J:=Js I.ok I1;have up:∀{y:Ex},Ja X CL pI Y H y Xw->Ja X CL pI Y H1 y Xw:=λ{y} w s' H' e T cls dx a1 a2=>w s' H' e T cls dx a1 (sm.trans a2)
    have lift:∀{o:O},(match o with
       |.exn y U'=>U'=U->Ja X CL pI Y H y Xw
       |o=>Bj X.K CL Fz B (λ_ _=>AV) o D)->(match o with
       |.exn y U'=>U'=U->Ja X CL pI Y H1 y Xw
       | o=>Bj X.K CL Fz B (λ_ _=>AV) o D):=λ{o} z=>by
      cases o with
      |exn y U'=>exact λe=>up (z e)
      |next _=>exact z
      |ret _ _=>exact z
      |brk _=>exact z
      |cont _=>exact z
      |bad=>exact z
    cases b' with
    |true=>exact hx Fz B pI s1 Y H1 D U Xw own J (sx.grow sm) (lift q) hρ
    |false=>exact hy Fz B pI s1 Y H1 D U Xw own J (sx.grow sm) (lift q) hρ
end
section
variable{M:FX}{A:AR}{E:Vq}{s:Ao}{env:B2}{nm q:Ag}{C N:Ak}{bs bm bmB:Ac Aj}{hdct:Ai}{sn:Ac Ag}{sub:Ac Aj}{ab:Ai}{col:An Ai}{dd:An Ak}{k0 k1 k2 k3 k5:An Aj}{B newId initId:Cv}
theorem ZX{x:EY Aj}{Q:Flow->Ao->Prop}(hb:bm.contains (.type "BaseException")=Ab)(hh:A.handled=Ae)(h:At M A x (λv s'=>∃ e t dx,v=.ref e/\s'.heap.get? C=Aa (Bz nm q C N bs bm hdct sn sub ab col dd k0 k1 k2 k3 k5 newId)/\s'.heap.get? e=Aa (Fj C dx t)/\E (.ref e) s') E s):At M A (raiseStmt env (Aa x) Ae) Q E s:=by
 have hB:(Bb C::bm).contains (.type "BaseException")=Ab:=by rw[FZ,hb,HR]
 unfold raiseStmt;refine Ap (A3 h (λv s' z=>?_) λ_ _ z=>z)
 obtain⟨e,t,dx,rfl,gC,ge,hE⟩:=z;obtain⟨hp,g,d,tk,os⟩:=s';unfold Fj at ge
 repeat (first|(with_reducible refine BK ge ?_)|(with_reducible refine BK gC ?_)|(with_reducible refine Em gC ?_;rw[hB])|wp_step)
 exact wpAny_raiseNew_none hh hE
end
section
variable{prog:AJ}{w:AT}{A:AR}{E:Vq}{h:AB}{g:A4 DR}{d:GQ}{t:Af}{os:Gp}
variable{nm q:Ag}{C N fI:Ak}{bs bm bmB:Ac Aj}{hdct:Ai}{sn:Ac Ag}{sub:Ac Aj}{ab:Ai}{col:An Ai}{dd:An Ak}{k0 k1 k2 k3 k5:An Aj}{B newId initId:Cv}{mN:Ag->An Aj}{rest:Ac Aj}{oI:Cz}
theorem Zp{Q:Fin->Ao->Prop}(F:GB B newId initId bmB)(T:C9 h bmB bm)(gC:h.get? C=Aa (Bz nm q C N bs bm hdct sn sub ab col dd k0 k1 k2 k3 k5 newId))(hn:h.Ns N mN)(hi:mN "__init__" = Aa (.ref fI))(gI:h.get? fI=Aa oI)(cI:oI.cls=.type "function")(hl:rest.length<=sizeLine)(hq:∀ h' e,Hd h h' e (.ref C) rest->At (model prog w) A (call (.ref fI) (.ref e::rest)) (λr s'=>r=.none/\Q (.done (.ret (.ref e))) s') E ⟨h',g,d,t,os⟩):At (model prog w) A (Builtin.«type.__call__» ⟨.ref C::rest,[]⟩) Q E ⟨h,g,d,t,os⟩:=by
 repeat (first|(with_reducible refine BK gC ?_)|(with_reducible refine wpAny_madeBy_exc gC ?_)|wp_step)
 refine codeAny_call_builtin_code (F0 _ F.quiet) (wpAny_check_new_subT F T gC (codeAny_exc_new_subT F T gC ?_ hl));show At _ _ _ _ _ _;have kp:∀ b o,h.get? b=Aa o->((h.push { cls:=.type "tuple",data:=.seq rest.toArray }).push {cls:=.ref C,data:=.fields #[.ref h.objs.size,.none,.none,.none,.bool Ad,.none]}).get? b=Aa o:=λb o z=>As _ (As _ z)
 have ge:((h.push { cls:=.type "tuple",data:=.seq rest.toArray }).push {cls:=.ref C,data:=.fields #[.ref h.objs.size,.none,.none,.none,.bool Ad,.none]}).get? (h.objs.size+1)=Aa {cls:=.ref C,data:=.fields #[.ref h.objs.size,.none,.none,.none,.bool Ad,.none]}:=by heap_get
 have gt:((h.push { cls:=.type "tuple",data:=.seq rest.toArray }).push {cls:=.ref C,data:=.fields #[.ref h.objs.size,.none,.none,.none,.bool Ad,.none]}).get? h.objs.size=Aa { cls:=.type "tuple",data:=.seq rest.toArray }:=As _ (VC rfl rfl);generalize (h.push { cls:=.type "tuple",data:=.seq rest.toArray }).push {cls:=.ref C,data:=.fields #[.ref h.objs.size,.none,.none,.none,.bool Ad,.none]}=h2 at *;have gC2:=kp _ _ gC;have gI2:=kp _ _ gI;have hn2:h2.Ns N mN:=let ⟨o,es,ep,z,r⟩:=hn;⟨o,es,ep,kp _ _ z,r⟩
 have T2:=T.keeps (h':=h2) kp;have cC:(Bb C::bm).contains (.ref C)=Ab:=by simp
 unfold Hq
 repeat (first|(with_reducible refine BK ge ?_)|(with_reducible refine Em gC2 ?_;rw[cC])|wp_step)
 show At _ _ (typeLookup (.ref C) _) _ _ _;refine wpAny_typeLookup_tail gC2 hn2 T2 F.mroIs F.init.lookup ?_;rw[hi];refine Ej (Ap ?_);unfold bindSpecial;refine Ap (wpAny_typeOf (T := "function") ⟨_,gI2,cI⟩ ?_);rw[AA (by decide)]
 refine AM (Ap (A3 (hq h2 (h.objs.size+1) ⟨kp,CK (ID _),h.objs.size,ge,CK (AI _),gt⟩) (λr s' z=>?_) λ_ _ z=>z))
 obtain⟨rfl,z⟩:=z
 wp_walk
 exact z
theorem QP{Q:Vq}(F:GB B newId initId bmB)(T:C9 h bmB bm)(gC:h.get? C=Aa (Bz nm q C N bs bm hdct sn sub ab col dd k0 k1 k2 k3 k5 newId))(hn:h.Ns N mN)(hi:mN "__init__" = Aa (.ref fI))(gI:h.get? fI=Aa oI)(cI:oI.cls=.type "function")(hl:rest.length<=sizeLine)(hq:∀ h' e,Hd h h' e (.ref C) rest->At (model prog w) (A.under (.builtin "type.__call__" ⟨.ref C::rest,[]⟩)) (call (.ref fI) (.ref e::rest)) (λr s'=>r=.none/\Q (.ref e) s') E ⟨h',g,d,t,os⟩):At (model prog w) A (call (.ref C) rest) Q E ⟨h,g,d,t,os⟩:=by
 have l1:=tc_lookup;have l2:=tc_bind (.ref C);have ty:(⟨h,g,d,t,os⟩:Ao).TypeIs (.ref C) "type" := ⟨_,gC,rfl⟩;refine ER (codeAny_of_tree ?_);show At _ _ (callAny (.ref C) _) _ _ _
 repeat (any_goals (first|assumption|(with_reducible refine BK gC ?_)|wp_step))
 refine⟨rfl,codeAny_call_builtin_at (F0 _ (by decide+kernel)) entry_typeCall (wpAny_check_type_call_sub gC (Zp F T gC hn hi gI cI hl λh' e m=>?_))⟩
 exact hq h' e m
end
section
variable{prog:AJ}{w:AT}{A:AR}{E:Vq}{s:Ao}{env:B2}
variable{nm q:Ag}{C N fI:Ak}{bs bm bmB:Ac Aj}{hdct:Ai}{sn:Ac Ag}{sub:Ac Aj}{ab:Ai}{col:An Ai}{dd:An Ak}{k0 k1 k2 k3 k5:An Aj}{B newId initId:Cv}{mN:Ag->An Aj}
theorem X9{Q:Flow->Ao->Prop}{np cpos pos:Az}{args:Ac Am}(F:GB B newId initId bmB)(hb:bm.contains (.type "BaseException")=Ab)(hh:A.handled=Ae)(hp:(Br cpos (Aq args env)).any (·.1)=Ad)(hi:mN "__init__" = Aa (.ref fI))(h:At (model prog w) A (eval (.Name x np) env) (λf s1=>f=.ref C/\At (model prog w) A (evalArgs (.ref C) Ab (Br cpos (Aq args env)) [])
   (λa s2=>a.kw=[]/\a.pos.length<=sizeLine/\s2.heap.get? C=Aa (Bz nm q C N bs bm hdct sn sub ab col dd k0 k1 k2 k3 k5 newId)/\s2.heap.Ns N mN/\C9 s2.heap bmB bm/\(∃ oI,s2.heap.get? fI=Aa oI/\oI.cls=.type "function") /\
    ∀ h' e,Hd s2.heap h' e (.ref C) a.pos->At (model prog w) (A.under (.builtin "type.__call__" ⟨.ref C::a.pos,[]⟩)) (call (.ref fI) (.ref e::a.pos)) (λr s'=>r=.none/\∃ t dx,s'.heap.get? C=Aa (Bz nm q C N bs bm hdct sn sub ab col dd k0 k1 k2 k3 k5 newId)/\s'.heap.get? e=Aa (Fj C dx t)/\E (.ref e) s') E {s2 with heap:=h'}) E s1) E s):At (model prog w) A (exec (.Raise (Aa (.Call (.Name x np) args [] cpos)) Ae pos) env) Q E s:=by
 rw[arm_exec_Raise]
 try simp only[evalOpt,Option.map]
 refine Ap (DI (ZX (nm:=nm) (q:=q) (C:=C) (N:=N) (bs:=bs) (bm:=bm) (hdct:=hdct) (sn:=sn) (sub:=sub) (ab:=ab) (col:=col) (dd:=dd) (k0:=k0) (k1:=k1) (k2:=k2) (k3:=k3) (k5:=k5) (newId:=newId) hb hh ?_));refine Ap (A3 (wpAny_Call_ofName (A3 h (λf s1 z=>?_) λ_ _ z=>z)) (λv s3 z=>Ap (DI (AM z))) λ_ _ z=>z)
 obtain⟨rfl,z⟩:=z;unfold callWith;refine Ap (Ej (A3 z (λa s2 y=>Ap (DI ?_)) λ_ _ y=>y))
 obtain⟨us,kw⟩:=a;obtain⟨hk,hl,gC,hn,T,⟨oI,gI,cI⟩,k⟩:=y;obtain rfl:kw=[]:=hk;obtain⟨hp2,g,d,tk,os⟩:=s2;simp only[hp];refine Ap (wpAny_keeperOf_exc gC (Ap (QP F T gC hn hi gI cI hl λh' e m=>A3 (k h' e m) (λr s' y=>?_) λ_ _ y=>y)))
 obtain⟨rfl,t,dx,c1,c2,c3⟩:=y;exact⟨rfl,Ap (Ej (wpAny_point (AM ⟨e,t,dx,rfl,c1,c2,c3⟩)))⟩
end
section
variable{prog:AJ}{w:AT}{A:AR}{E:Vq}{h:AB}{g:A4 DR}{d:GQ}{tk0:Af}{os:Gp}
variable{nm q:Ag}{C N e t:Ak}{dx:An Ak}{bs bm bmB:Ac Aj}{hdct:Ai}{sn:Ac Ag}{sub:Ac Aj}{ab:Ai}{col:An Ai}{dd:An Ak}{k0 k1 k2 k3 k5:An Aj}{B newId initId:Cv}
theorem dB{Q:Vq}(F:GB B newId initId bmB)(T:C9 h bmB bm)(gC:h.get? C=Aa (Bz nm q C N bs bm hdct sn sub ab col dd k0 k1 k2 k3 k5 newId))(ge:h.get? e=Aa (Fj C dx t))(hq:∀ h' t',(∀ b o,b≠e->h.get? b=Aa o->h'.get? b=Aa o)->h'.get? e=Aa (Fj C dx t')->Q .none ⟨h',g,d,tk0,os⟩):At (model prog w) A (call (.builtin initId) [.ref e,.str z tk]) Q E ⟨h,g,d,tk0,os⟩:=by
 refine ER (Dq F.init.plain F.initEntry (wpAny_check_init_subT F T gC ge rfl ?_));unfold Fj at ge
 wp_walk
 refine hq _ h.objs.size (λb o nb z=>(Ct _ _ (CV nb)).trans (As _ z)) ?_
 rw[CC _ (As _ ge) rfl];rfl
end
noncomputable def xbd:Af->Af
 |0=>4
 |n+1=>8*xbd n+19
theorem Ro:∀ n:Fin 100,(Ay (toString ((n.val:Af):Ah))).length<=4:=by decide+kernel
theorem RH{α:Type}(f:α->Af){m:Af}:∀ l:Ac α,(∀ x∈l,f x<=m)->(l.map f).sum<=l.length*m
 |[],_=>by simp
 |x::l,h=>by
  have h1:=h x AC;have h2:=RH f l λy hy=>h y (Aw _ hy)
  rw[BY,List.sum_cons,AZ,Nat.succ_mul];omega
section
variable{X:Cx}{CL:ClA}{pI:Pn}{Y:L2.St}{H:Hp}{s:Ao}
structure Shw (h:AB) (n:Af) (u:Aj) (pd:Jf):Prop where
 rd:Reads h u pd []
 sh:pd.showable=Ab
 nd:pd.hasDict=Ad
 dp:pd.depth<=n
 ln:pd.shown.length<=xbd n
inductive ShwA (h:AB) (n:Af):Ac Aj->Ac Jf->Prop where
 |nil:ShwA h n [] []
 |cons {u:Aj} {pd:Jf} {us:Ac Aj} {pds:Ac Jf}:Shw h n u pd->ShwA h n us pds->ShwA h n (u::us) (pd::pds)
theorem QF{h:AB}{n:Af}:∀{us:Ac Aj}{pds:Ac Jf},ShwA h n us pds->ReadsAll h us pds []/\VI pds=Ab/\VH pds=Ad/\GR pds<=n/\(∀ t∈Da pds,t.length<=xbd n)/\(Da pds).length=us.length
 |[],[],_=>⟨.nil,rfl,rfl,DP _,(λ_ h=>nomatch h),rfl⟩
 |u::us,pd::pds,.cons h1 h2=>by
  obtain⟨a,b,c,d,e,f⟩:=QF h2;refine⟨.cons h1.rd a,?_,?_,?_,?_,?_⟩
  .show (pd.showable&&VI pds)=Ab;rw[h1.sh,b];rfl
  .show (pd.hasDict||VH pds)=Ad;rw[h1.nd,c];rfl
  .show max pd.depth (GR pds)<=n;exact Nat.max_le.mpr ⟨h1.dp,d⟩
  .intro t ht;rcases AG.mp ht with rfl|ht
   .exact h1.ln
   .exact e t ht
  .show (Da pds).length+1=us.length+1;rw[f]
theorem iF(I:Inv X pI Y H s):∀(n:Af){d:D}{v:V}{u:Aj},xfD n d=Ab->Rep X.K CL H A v d->Bi v u->∃ pd,Shw s.heap n u pd:=by
 intro n
 induction n with
 |zero=>
  intro d v u hx r rv;cases d with
  |int i=>
   have e:v=.int i:=r;subst e;obtain⟨t,rfl⟩:=rv;simp only[xfD,Al,AO]at hx;refine⟨.int i,.int i t,?_,rfl,AI _,?_⟩
   .show decide (i.natAbs.log2<1920)=Ab;refine oK (DK (Gy _) (by omega))
   .have:=Ro ⟨i.toNat,by omega⟩
    rw[show ((i.toNat:Af):Ah)=i by omega]at this
    exact this
  |_=>exact absurd (show Ad=Ab from hx) Av
 |succ n ih0=>
  intro d v u hx r rv;cases d with
  |tup ds=>
   obtain⟨a,xs,rfl,_,sq,rs⟩:=r;cases rv;obtain⟨its,vs,⟨o,ho,hc,m,hd⟩,hz⟩:=I.tuple sq;simp only[xfD,Al,BV]at hx;have key:∀{xs:Ac V}{ds:Ac D}{its:Ac Aj},(∀ d∈ds,xfD n d=Ab)->Reps X.K CL H A xs ds->AX xs its->∃ pds,ShwA s.heap n its pds:=λ{xs}=>by
    induction xs with
    |nil=>
     intro ds its _ rs vs;cases vs;exact⟨[],.nil⟩
    |cons x xs ih=>
     intro ds its hd rs vs;cases ds with
     |nil=>exact rs.elim
     |cons d ds=>
      cases vs with
      |cons v1 v2=>
       obtain⟨pd,h1⟩:=ih0 (hd d AC) rs.1 v1;obtain⟨pds,h2⟩:=ih (λe he=>hd e (Aw _ he)) rs.2 v2
       exact⟨pd::pds,.cons h1 h2⟩
   obtain⟨pds,hf⟩:=key hx.2 rs vs;obtain⟨p1,p2,p3,p4,p5,p6⟩:=QF hf;have l8:its.length<=8:=by
    have h8:=Nat.ble_eq.mp hx.1;rw[<-vs.length,rs.length];exact h8
   refine⟨.tuple pds,.tuple ho hc hd (by simpa using p1),p2,p3,?_,?_⟩
   .show GR pds+1<=n+1;omega
   .show (tupleText (Da pds)).length<=8*xbd n+19;have h1:=tupleText_len_le (Da pds);have h2:=RH (λt:Ag=>t.length) (Da pds) p5
    have h3:(Da pds).length*xbd n<=8*xbd n:=Nat.mul_le_mul_right _ (by omega)
    omega
  |_=>exact absurd (show Ad=Ab from hx) Av
end
section
variable{X:Cx}{CL:ClA}
def tFs(K:Fg)(CL:ClA)(i:Af):TE:=λY H Q=>∃ v d A n,Y[i]?=Aa (Aa v)/\Rep K CL H A v d/\xfD n d=Ab/\n<=2/\∀ t:Ag,Q (.str t) H
def tFm(K:Fg)(CL:ClA)(i:Af):TE:=λY H Q=>∃ v d A n,Y[i]?=Aa (Aa v)/\Rep K CL H A v d/\xfD n d=Ab/\n<=2/\∀ t:Ag,t.length<=500->Q (.str t) H
theorem R1{e:Am}{i:Af}(hu:X.A.units+64<BE)(hg:X.A.guards=Aa [])(he:PE X e (Ec i)):PE X (.FormattedValue e (-1) Ae p1) (tFm X.K CL i):=by
 intro pI s Y H Q I ⟨v,d,A,n,hv,r,hx,hn,q⟩;refine wpAny_FormattedValue_plain (thn (he pI s Y H (λx H1=>x=v/\H1=H) I ⟨v,hv,rfl,rfl⟩) λu s1 ⟨x,H1,I1,r1,e1,e2⟩=>?_)
 subst e1 e2;have zl:sizeLine ≥ 2000:=by decide
 obtain⟨pd,sw⟩:=iF I1 n hx r r1;have hn':n=0\/n=1\/n=2:=by omega
 have xb:xbd n<=500:=by rcases hn' with rfl|rfl|rfl<;>decide
 have ln:=sw.ln;have dp:=sw.dp;cases d with
 |int j=>
  have e:x=.int j:=r;subst e;obtain⟨t,rfl⟩:=r1;cases n with
  |zero=>
   have hx':(decide (0<=j)&&decide (j<100))=Ab:=hx;rw[Al,AO,AO]at hx';have il:=Ro ⟨j.toNat,by omega⟩
   rw[show ((j.toNat:Af):Ah)=j by omega]at il
   exact formatField_int_small (DK (Gy _) (by omega)) ⟨.str _,H1,I1.tok _,⟨_,rfl⟩,q _ (Bw il (by omega))⟩
  |succ n=>cases hx
 |tup ds=>
  obtain⟨a,xs,rfl,_,sq,rs⟩:=r;cases r1;refine formatField_of_reads sw.rd sw.sh (λz=>by rw[sw.nd]at z;cases z) hg (by omega) (λ_ _ z=>z) (λh' tk1 tk2 kp=>?_) (by omega)
  exact⟨.str pd.shown,H1,I1.kept kp,⟨_,rfl⟩,q _ (by omega)⟩
 |_=>cases n<;>cases hx
theorem aF{e:Am}{i:Af}(hu:X.A.units+64<BE)(hg:X.A.guards=Aa [])(hz:z.length<=1000)(he:PE X e (Ec i)):PE X (.JoinedStr [.FormattedValue e (-1) Ae p1,.Constant (.str z) k p2] p3) (tFs X.K CL i):=by
 intro pI s Y H Q I ⟨v,d,A,n,hv,r,hx,hn,q⟩;have zl:sizeLine ≥ 2000:=by decide
 refine Wm ?_;show At (model X.prog X.w) X.A (eval (.FormattedValue e (-1) Ae p1) X.env) (λv s1=>∃ y t,v=.str y t/\(CQ++y).length<=sizeLine/\Joins (model X.prog X.w) X.A X.xe [eval (.Constant (.str z) k p2) X.env] (CQ++y) _ s1) X.xe s
 refine thn (R1 (CL:=CL) hu hg he pI s Y H (λx H1=>∃ y:Ag,x=.str y/\y.length<=500/\H1=H) I ⟨v,d,A,n,hv,r,hx,hn,λt ht=>⟨t,rfl,ht,rfl⟩⟩) λu s1 ⟨x,H1,I1,r1,y,e1,hy,e2⟩=>?_
 subst e1 e2;obtain⟨t1,rfl⟩:=r1;have l0:(CQ++y).length<=500:=by
  rw[Fe];have:CQ.length=0:=rfl;omega
 refine⟨y,t1,rfl,by omega,?_⟩
 show At (model X.prog X.w) X.A (eval (.Constant (.str z) k p2) X.env) _ X.xe s1;refine thn (Lv (X:=X) pI _ Y H1 (λx H2=>x=.str z/\H2=H1) I1 ⟨rfl,rfl⟩) λu2 s2 ⟨x2,H2,I3,r3,e3,e4⟩=>?_
 subst e3 e4;obtain⟨t3,rfl⟩:=r3;have l1:(CQ++y++z).length<=sizeLine:=by
  rw[Fe];omega
 exact⟨z,t3,rfl,l1,l1,⟨.str _,H2,I3.tok _,⟨_,rfl⟩,q _⟩⟩
theorem XS{e:Am}{i:Af}{z':Ag}{k':Af}{p0:Az}(hu:X.A.units+64<BE)(hg:X.A.guards=Aa [])(hz':z'.length<=400)(hz:z.length<=1000)(he:PE X e (Ec i)):PE X (.JoinedStr [.Constant (.str z') k' p0,.FormattedValue e (-1) Ae p1,.Constant (.str z) k p2] p3) (tFs X.K CL i):=by
 intro pI s Y H Q I ⟨v,d,A,n,hv,r,hx,hn,q⟩;have zl:sizeLine ≥ 2000:=by decide
 refine Wm ?_;show At (model X.prog X.w) X.A (eval (.Constant (.str z') k' p0) X.env) (λv s1=>∃ y t,v=.str y t/\(CQ++y).length<=sizeLine/\Joins (model X.prog X.w) X.A X.xe [eval (.FormattedValue e (-1) Ae p1) X.env,eval (.Constant (.str z) k p2) X.env] (CQ++y) _ s1) X.xe s
 refine thn (Lv (X:=X) pI _ Y H (λx H2=>x=.str z'/\H2=H) I ⟨rfl,rfl⟩) λu0 s0 ⟨x0,H0,I0,r0,e0,e00⟩=>?_
 subst e0 e00;obtain⟨t0,rfl⟩:=r0;have le:(CQ++z').length<=400:=by
  rw[Fe];have:CQ.length=0:=rfl;omega
 refine⟨z',t0,rfl,by omega,?_⟩
 show At (model X.prog X.w) X.A (eval (.FormattedValue e (-1) Ae p1) X.env) _ X.xe s0;refine thn (R1 (CL:=CL) hu hg he pI s0 Y H0 (λx H1=>∃ y:Ag,x=.str y/\y.length<=500/\H1=H0) I0 ⟨v,d,A,n,hv,r,hx,hn,λt ht=>⟨t,rfl,ht,rfl⟩⟩) λu s1 ⟨x,H1,I1,r1,y,e1,hy,e2⟩=>?_
 subst e1 e2;obtain⟨t1,rfl⟩:=r1;have l0:(CQ++z'++y).length<=900:=by
  rw[Fe];omega
 refine⟨y,t1,rfl,by omega,?_⟩
 show At (model X.prog X.w) X.A (eval (.Constant (.str z) k p2) X.env) _ X.xe s1;refine thn (Lv (X:=X) pI _ Y H1 (λx H2=>x=.str z/\H2=H1) I1 ⟨rfl,rfl⟩) λu2 s2 ⟨x2,H2,I3,r3,e3,e4⟩=>?_
 subst e3 e4;obtain⟨t3,rfl⟩:=r3;have l1:(CQ++z'++y++z).length<=sizeLine:=by
  rw[Fe];omega
 exact⟨z,t3,rfl,l1,l1,⟨.str _,H2,I3.tok _,⟨_,rfl⟩,q _⟩⟩
structure FsOk (par:Ag) (j:Am):Prop where
 st:∀ env,Aq [j] env=[(Ad,eval j env)]
 pe:∀(X:Cx)(CL:ClA)(i:Af),X.A.units+64<BE->X.A.guards=Aa []->(∀ p,PE X (.Name par p) (Ec i))->PE X j (tFs X.K CL i)
theorem fR{p4:Az}(hz:z.length<=1000):FsOk par (.JoinedStr [.FormattedValue (.Name par p1) (-1) Ae p2,.Constant (.str z) k p3] p4):=⟨λ_=>rfl,λ_ _ _ hu hg he=>aF hu hg hz (he _)⟩
theorem YE{z':Ag}{k':Af}{p0 p4:Az}(hz':z'.length<=400)(hz:z.length<=1000):FsOk par (.JoinedStr [.Constant (.str z') k' p0,.FormattedValue (.Name par p1) (-1) Ae p2,.Constant (.str z) k p3] p4):=⟨λ_=>rfl,λ_ _ _ hu hg he=>XS hu hg hz' hz (he _)⟩
end
def XEx(e C:Ak)(dx:An Ak)(t:Ak):AB->Prop:=λh=>h.get? e=Aa (Fj C dx t)
theorem Lw{e C:Ak}{t:Ak}:∀ h1 h2:AB,XEx e C dx t h1->(∀ o,h1.get? e=Aa o->h2.get? e=Aa o)->XEx e C dx t h2:=λ_ _ p k=>k _ p
section
variable{X:Cx}{CL:ClA}{C:Ak}{nm q:Ag}{N:Ak}{bs bm:Ac Aj}{hdct:Ai}{sn:Ac Ag}{sub:Ac Aj}{ab:Ai}{col:An Ai}{dd:An Ak}{k0 k1 k2 k3 k5:An Aj}
theorem XQ{np apos cpos:Az}{es ej:Am}{i j:Af}(hob:∀ h:AB,X.K.In h->h.get? C=Aa (Bz nm q C N bs bm hdct sn sub ab col dd k0 k1 k2 k3 k5 "ValueError.__new__")/\C9 h veB bm)(hg:Gl X g)(hm:X.mg g=Aa (.ref OV))(hdb:(g==("__debug__" : Ag))=Ad)(s1:BJ X.K (.ref OV) "__getattribute__" = Aa (Aa (.builtin "type.__getattribute__")))(s2:EA X.K OV (.type "type")=Ab)(s3:Ez X.K (.ref OV) (.type "type") "__init__" = Aa (.val (.builtin "ValueError.__init__")))(hline:(apos.endLine==cpos.line)=Ab)(he:PE X es (Ec i))(hj:PE X ej (tFs X.K CL j))(sA:Aq [es,ej] X.env=(Ad,eval es X.env)::Aq [ej] X.env)(sB:Aq [ej] X.env=[(Ad,eval ej X.env)]):
  PE X (.Call (.Attribute (.Name g np) "__init__" apos) [es,ej] [] cpos) (λY H Q=>∃ e dx t v d A n,Y[i]?=Aa (Aa (.ref e))/\H e=Aa (.ext (XEx e C dx t))/\Y[j]?=Aa (Aa v)/\Rep X.K CL H A v d/\xfD n d=Ab/\n<=2/\∀ t',Q .non (upd H e (.ext (XEx e C dx t')))):=by
 have st1:Aq [es,ej] X.env=[(Ad,eval es X.env),(Ad,eval ej X.env)]:=by rw[sA,sB]
 intro pI s Y H Q I ⟨e,dx,t,v,d,A,n,h1,h2,h3,r,hx,hn,hq⟩;rw[arm_eval_Call];refine Ap (show At (model X.prog X.w) X.A (eval (.Name g np) X.env) _ X.xe s from G1 I hg hm ?_ hdb)
 refine Ap (DI ?_);have form:Wg ([es,ej].length+([]:Ac DY).length) (Br cpos (Aq [es,ej] X.env)) (Hl cpos (FY [] X.env))=Ab:=by
  rw[st1];rfl
 have mpos:F7 Ab (.Name g np) X.env apos cpos=pure cpos:=by
  unfold F7;simp[hline]
 unfold methodCall;rw[form];refine Ap (Ej (PySem.W.method_cls I.kIn s1 (PySem.W.cls_value I.kIn s2 s3 rfl ?_)));refine Ap (GY mpos ?_);have I1:=I.tok (s.toks+1);have pa:PA X [es,ej] _:=Dz he (Dz hj E3 sB) sA;have hA:=pa cpos pI {s with toks:=s.toks+1} Y H (λxs H'=>H'=H/\∃ z,xs=[.ref e,.str z]) I1 ⟨_,h1,⟨v,d,A,n,h3,r,hx,hn,λz=>⟨rfl,z,rfl⟩⟩⟩
 rw[st1]at hA ⊢;refine UW rfl (D9 (thn hA λus s2 ⟨xs,H2,I2,rv,e2,z,ex⟩=>?_))
 subst e2 ex;obtain⟨u1,u2,rfl,ru1,ru2⟩:=Il rv;cases ru1;obtain⟨tk,rfl⟩:=ru2;obtain⟨gC,T⟩:=hob _ I2.kIn;have ge:XEx e C dx t s2.heap:=(I2.hok e _ h2).1;obtain⟨hp,g2,d2,tk2,os2⟩:=s2;refine dB Cy T gC ge λh' t' kp ge'=>?_
 refine⟨.non,_,I2.write (x:=e) (e:=e) (o:=.ext (XEx e C dx t')) (t':=tk2) (by rw[h2];exact trivial) (.inl rfl) kp ⟨_,ge'⟩ ⟨ge',⟨_,ge'⟩,Lw⟩,rfl,hq t'⟩
end
theorem WE{bmB bm:Ac Aj}(T:C9 h bmB bm){self:Aj}{what:Ag}(hb:refuseLoop self what bmB=pure ()):refuseLoop self what bm=pure ():=by
 induction T with
 |base=>exact hb
 |own _ _ _ _ ih=>rw[Wk];exact ih
section
variable{prog:AJ}{w:AT}{A:AR}{E:Vq}{h:AB}{g:A4 DR}{d:GQ}{tk0:Af}{os:Gp}{K:Fg}
variable{nm q:Ag}{C N e t:Ak}{bs bm bmB:Ac Aj}{sn:Ac Ag}{sub:Ac Aj}{ab:Ai}{col:An Ai}{dd:An Ak}{k0 k1 k2 k3 k5:An Aj}{B newId sa owner:Cv}
theorem Zr{Q:Fin->Ao->Prop}{v:Aj}(X:K.In h)(SF:Jh B bmB sa owner)(T:C9 h bmB bm)(gC:h.get? C=Aa (Bz nm q C N bs bm Ab sn sub ab col dd k0 k1 k2 k3 k5 newId))(hf:Ar K (.ref C) name=Aa Ae)(ge:h.get? e=Aa (Fj C Ae t))(hq:∀ h' dx tk',(∀ b o,b≠e->h.get? b=Aa o->h'.get? b=Aa o)->h'.get? e=Aa (Fj C (Aa dx) t)->h.get? dx=Ae->h'.Ns1 dx (λy=>if y=name then Aa v else Ae)->Q (.done (.ret .none)) ⟨h',g,d,tk',os⟩):At (model prog w) A (Builtin.«object.__setattr__» ⟨[.ref e,.str name tk,v],[]⟩) Q E ⟨h,g,d,tk0,os⟩:=by
  have pass:=WE T (SF.passes (.ref e));have L1:=BU (M:=model prog w) X hf;obtain⟨o,ho⟩:∃ o,Fj C Ae t=o:=⟨_,rfl⟩;rw[ho]at ge;have oc:o.cls=.ref C:=by rw[<-ho];rfl
  unfold Builtin.«object.__setattr__»
  repeat (first|rw[refuse_eq]|(rw[Wk,pass])|(with_reducible refine BK ge ?_;rw[oc])|(with_reducible refine wpAny_mroOf_exc gC ?_)|(with_reducible refine L1.at ?_)|(with_reducible refine Ap (L1.at ?_))|wp_step)
  have od:o.dict=Ae:=by rw[<-ho];rfl
  have odt:o.data=.fields #[.ref t,.none,.none,.none,.bool Ad,.none]:=by rw[<-ho];rfl
  rw[od,odt,AH (by simp[typeHasDict])]
  let D:Cz:={ cls:=.type "dict",data:=.dict #[] }
  have g1:(h.push D).get? e=Aa o:=As _ ge;have ne:e≠h.objs.size:=A9 (AE ge);refine Ap (wpAny_alloc' ?_);refine Ap (wpAny_update' g1 ?_);refine AM ?_
  let U_:Cz->Cz:=λo=>{cls:=o.cls,dict:=Aa h.objs.size,data:=o.data,slots:=o.slots}
  have gD:((h.push D).update e U_).get? h.objs.size=Aa D:=(VD _ _ _ _ ne.symm).trans (VC rfl rfl);have nD:((h.push D).update e U_).Ns h.objs.size (λ_=>Ae):=⟨_,#[],_,gD,rfl,λz hz=>absurd hz (by simp),λ_=>rfl⟩
  change At _ _ (US h.objs.size (.str name tk) name v) _ _ _;unfold US Builtin.ObjectAttr.newKeyGuard;refine Ap (AM (Ap (wpAny_nsSet1 (VA nD) λk hk hs=>?_)))
  obtain⟨oD,eD,pD,q1,q2,q3⟩:=hk.count (Within.cons name v Within.nil);have le:oD.data.pastItsLine=Ae:=by
    rw[q2];refine Wi (Bw q3 ?_);rw[AZ,List.length_nil,BX];omega
  refine Ap (Wq q1 le ?_)
  wp_walk
  refine hq k h.objs.size _ (λb ob nb hb=>?_) ?_ (CK (AI _)) hk
  · rw[hs.2 b (A9 (AE hb)),VD _ _ _ _ nb];exact As _ hb
  · rw[hs.2 e ne];have:Aa (Fj C (Aa h.objs.size) t)=Aa (U_ o):=by rw[<-ho];rfl
    rw[this];exact CC _ g1 (by rw[<-ho];rfl)
end
section
variable{prog:AJ}{w:AT}{A:AR}{E:Vq}{h:AB}{g:A4 DR}{d:GQ}{tk0:Af}{os:Gp}{K:Fg}
variable{nm q:Ag}{C N e t:Ak}{bs bm bmB:Ac Aj}{sn:Ac Ag}{sub:Ac Aj}{ab:Ai}{col:An Ai}{dd:An Ak}{k0 k1 k2 k3 k5:An Aj}{B newId sa owner:Cv}
theorem Zs{o:Cz}{a b:Aj}(SF:Jh B bmB sa owner)(T:C9 h bmB bm)(gC:h.get? C=Aa (Bz nm q C N bs bm Ab sn sub ab col dd k0 k1 k2 k3 k5 newId))(ge:h.get? e=Aa o)(hc:o.cls=.ref C)(hq:Q () ⟨h,g,d,tk0,os⟩):At M A (Fh sa ⟨[.ref e,a,b],[]⟩) Q E ⟨h,g,d,tk0,os⟩:=by
 have hb:(Bb C::bm).contains (.type owner)=Ab:=by rw[FZ,T.hasType SF.hasOwner,HR]
 have ha:=SF.args (.ref e) a b;simp only[Fh,SF.kind,SF.split];refine Ap ?_;unfold Hq
 repeat (first|(with_reducible refine BK ge ?_;rw[hc])|(with_reducible refine Em gC ?_;rw[hb])|wp_step)
 unfold argsOk at ha;split
 .rename_i sig hs;rw[hs]at ha;refine GY ha ?_;exact hq
 .exact AM hq
theorem cZ{v:Aj}(X:K.In h)(SF:Jh B bmB sa owner)(T:C9 h bmB bm)(gC:h.get? C=Aa (Bz nm q C N bs bm Ab sn sub ab col dd k0 k1 k2 k3 k5 newId))(hf:Ar K (.ref C) name=Aa Ae)(hs:Ar K (.ref C) "__setattr__" = Aa (Aa (.builtin sa)))(ge:h.get? e=Aa (Fj C Ae t))(hq:∀ h' dx tk',(∀ b o,b≠e->h.get? b=Aa o->h'.get? b=Aa o)->h'.get? e=Aa (Fj C (Aa dx) t)->h.get? dx=Ae->h'.Ns1 dx (λy=>if y=name then Aa v else Ae)->Q () ⟨h',g,d,tk',os⟩):At (model prog w) A (Jm (.ref e) name v) Q E ⟨h,g,d,tk0,os⟩:=by
 have f3:=SF.slot.bind (.ref e);have L1:=BU (M:=model prog w) X hs;obtain⟨o,ho⟩:∃ o,Fj C Ae t=o:=⟨_,rfl⟩;have oc:o.cls=.ref C:=by rw[<-ho];rfl
 have ge':=ge;rw[ho]at ge';unfold Jm Ia specialOf
 repeat (any_goals (first|assumption|(with_reducible refine BK ge' ?_;rw[oc])|(with_reducible refine Ap (L1.at ?_))|(with_reducible refine L1.at ?_)|wp_step))
 refine Dq SF.slot.plain SF.entry (Zs SF T gC ge' oc (Zr X SF T gC hf ge λh' dx tk' k1 k2 k3 k4=>?_))
 repeat (any_goals (first|assumption|wp_step))
 exact hq h' dx tk' k1 k2 k3 k4
end
section
variable{X:Cx}{pI:Pn}{Y:L2.St}{H:Hp}{s:Ao}{e:Ak}
theorem Nq{o:HO}(I:Inv X pI Y H s)(ha:Fl X pI e)(hH:H e=Ae)(ho:ObjOk X.prog X.w (upd H e o) s.heap e o):Inv X pI Y (upd H e o) s:=by
 have ne:∀ b o,H b=Aa o->b≠e:=λb o q z=>by rw[z,hH]at q;cases q
 refine⟨I.ok,I.os,I.bare,⟨I.base.keep,I.base.slot,λb o q n hb=>?_,I.base.there,λb xs q=>?_,λb o u q=>?_,λb ps q=>?_⟩,I.loc,I.cell,?_,λx c q=>?_,λp hp=>?_,λb o q=>?_,I.len⟩
 .rw[A6 λz=>by rw[z,ha.2.2.2]at q;cases q]
  exact I.base.free b o q n hb
 .have:=I.base.tups b xs q;rw[A6 (ne _ _ this)];exact this
 .have:=I.base.frzs b o u q;rw[A6 (ne _ _ this)];exact this
 .obtain⟨more,this⟩:=I.base.tbls b ps q;exact⟨more,by rw[A6 (ne _ _ this)];exact this⟩
 .rw[A6 λz=>ha.1 z.symm];exact I.free
 .rw[A6 (ha.2.1 x c q)];exact I.freeC x c q
 .obtain⟨q,n,r⟩:=I.pin p hp;exact⟨q,by rw[A6 (ha.2.2.1 p hp)];exact n,r⟩
 .by_cases hb:b=e
  .subst hb;rw[Dh]at q;cases q;exact ho
  .rw[A6 hb]at q;exact(I.hok b o q).stay (λc v hc z=>z) (λc z=>by rw[A6 (ne _ _ z)];exact z) λc zs z=>by rw[A6 (ne _ _ z)];exact z
theorem Yz(I:Inv X pI Y H s)(hH:H e=Aa (.ext φ))(h0:X.s₀.heap.get? e=Ae)(h1:X.ex=[]->GH):Inv X pI Y (λb=>if b=e then Ae else H b) s:=by
 have get:∀ b o,(if b=e then Ae else H b)=Aa o->b≠e/\H b=Aa o:=λb o q=>by
  by_cases z:b=e
  .rw[AA z]at q;cases q
  .rw[AH z]at q;exact⟨z,q⟩
 have put:∀ b o,H b=Aa o->o≠.ext φ->(if b=e then Ae else H b)=Aa o:=λb o q n=>by
  by_cases z:b=e
  .rw[z,hH]at q;cases q;exact absurd rfl n
  .rw[AH z];exact q
 have non:∀ b,H b=Ae->(if b=e then Ae else H b)=Ae:=λb q=>by
  by_cases z:b=e
  .rw[AA z]
  .rw[AH z];exact q
 refine⟨I.ok,I.os,I.bare,⟨λb o q n hb hx=>?_,I.base.slot,λb o q n hb=>?_,I.base.there,λb xs q=>?_,λb o u q=>?_,λb ps q=>?_⟩,I.loc,I.cell,non _ I.free,λx c q=>non _ (I.freeC x c q),λp hp=>?_,λb o q=>?_,I.len⟩
 .exact I.base.keep b o q n hb hx
 .exact non b (I.base.free b o q n hb)
 .exact put b _ (I.base.tups b xs q) (by intro z;cases z)
 .exact put b _ (I.base.frzs b o u q) (by intro z;cases z)
 .obtain⟨more,this⟩:=I.base.tbls b ps q;exact⟨more,put b _ this (by intro z;cases z)⟩
 .obtain⟨q,n,r⟩:=I.pin p hp;exact⟨q,non _ n,r⟩
 .obtain⟨nb,q⟩:=get b o q;exact(I.hok b o q).stay (λc v hc z=>z) (λc z=>put c _ z (by intro z;cases z)) λc zs z=>put c _ z (by intro z;cases z)
end
section
variable{X:Cx}{C:Ak}{nm q:Ag}{N:Ak}{bs bm:Ac Aj}{sn:Ac Ag}{sub:Ac Aj}{ab:Ai}{col:An Ai}{dd:An Ak}{k0 k1 k2 k3 k5:An Aj}
theorem Z_9{i j:Af}{f:Ag}{eo:Am}{p8 p10:Az}(hob:∀ h:AB,X.K.In h->h.get? C=Aa (Bz nm q C N bs bm Ab sn sub ab col dd k0 k1 k2 k3 k5 "ValueError.__new__")/\C9 h veB bm)(hx:X.ex=[])(hf:Ar X.K (.ref C) f=Aa Ae)(hs:Ar X.K (.ref C) "__setattr__" = Aa (Aa (.builtin "object.__setattr__")))(he:PE X eo (Ec i))(hv:PE X ev (Ec j))(sw:Cp ev (Aa (.Attribute eo f p8)) p10.line X.env=pure Ad):PS X (.Assign [.Attribute eo f p8] ev p10) (λD Y H=>∃ e t v,Y[i]?=Aa (Aa (.ref e))/\H e=Aa (.ext (XEx e C Ae t))/\Y[j]?=Aa (Aa v)/\∀ dx,H dx=Ae->dx≠e->D.nx Y (upd (upd H e (.ext (XEx e C (Aa dx) t))) dx (.xd [(f,v)]))):=by
 intro pI s Y H D I ⟨e,t,v,h1,h2,h3,hq⟩;refine Wj (thn (hv pI s Y H (λx H1=>x=v/\H1=H) I ⟨v,h3,rfl,rfl⟩) λu s1 ⟨x,H1,I1,r1,e1,e2⟩=>?_) sw
 subst e1 e2;refine thn (he pI s1 Y H1 (λx H2=>x=.ref e/\H2=H1) I1 ⟨_,h1,rfl,rfl⟩) λu2 s2 ⟨x2,H2,I2,r2,e3,e4⟩=>?_
 subst e3 e4;cases r2;obtain⟨gC,T⟩:=hob _ I2.kIn;have ge:XEx e C Ae t s2.heap:=(I2.hok e _ h2).1;obtain⟨hp,g2,d2,tk2,os2⟩:=s2;refine cZ I2.kIn PySem.F.store_ValueError T gC hf hs ge λh' dx tk' kp ge' nd ns=>?_
 have nH:H2 dx=Ae:=Ii I2.hok nd;have nde:dx≠e:=λz=>by rw[z,h2]at nH;cases nH
 have ap:Fl X pI dx:=IR I2 hx nd;have I3:=I2.write (x:=e) (e:=e) (o:=.ext (XEx e C (Aa dx) t)) (t':=tk') (by rw[h2];exact trivial) (.inl rfl) kp ⟨_,ge'⟩ ⟨ge',⟨_,ge'⟩,Lw⟩
 have I4:=Nq (o:=.xd [(f,x)]) I3 ap (by rw[A6 nde];exact nH) ⟨_,ns,λy=>by
  by_cases z:y=f
  .subst z;rw[AA rfl];simp only[BH,Ee];exact r1
  .rw[AH z];have:(y==f)=Ad:=by simp[z]
   simp only[BH,this]
   trivial⟩
 exact⟨Y,_,I4,hq dx nH nde⟩
end
noncomputable def FC(K:Fg)(C:Ak):Ai:=match K.lookup C with
  |some ⟨_,_,.cls c,_⟩=>c.hasDict
  |_=>Ad
noncomputable def OO(g par f:Ag)(j:Am)(np apos p1 cpos p6 p7 p8 p9 p10:Az):Ac AD:=
 [.Expr (.Call (.Attribute (.Name g np) "__init__" apos) [.Name "self" p1,j] [] cpos) p6,.Assign [.Attribute (.Name "self" p7) f p8] (.Name par p9) p10]
inductive XIn (K:Fg) (mg:Ag->An Aj) (C:Ak) (f:Ag):Prop
 |mk {fI OV:Ak} {x qual g par:Ag} {j:Am} {st:AD} {fd:Bq} {np apos p1 cpos p6 p7 p8 p9 p10:Az} (xc:D5 K C (Aa (.ref fI))=Ab) (dc:FC K C=Ab) (fn:Fun K x qual st fI fd) (ty:EO K (.ref fI)=Aa (.type "function"))
  (S:FnScope ["self",par] ["self",par] (Bv st)) (l1:(Bv st).names.lookup ("self" : Ag)=Aa .local) (l2:(Bv st).names.lookup par=Aa .local) (bd:Eb K fd ["self",par] []) (body:D3 st=OO g par f j np apos p1 cpos p6 p7 p8 p9 p10)
  (gl:(Bv st).names.lookup g=Aa .globalImplicit) (mo:mg g=Aa (.ref OV)) (dg:(g==("__debug__" : Ag))=Ad) (dp:(par==("__debug__" : Ag))=Ad) (dq:(par==("__classdict__" : Ag))=Ad)
  (s1:BJ K (.ref OV) "__getattribute__" = Aa (Aa (.builtin "type.__getattribute__"))) (s2:EA K OV (.type "type")=Ab) (s3:Ez K (.ref OV) (.type "type") "__init__" = Aa (.val (.builtin "ValueError.__init__")))
  (hl:(apos.endLine==cpos.line)=Ab) (hz:FsOk par j) (hf:Ar K (.ref C) f=Aa Ae) (hs:Ar K (.ref C) "__setattr__" = Aa (Aa (.builtin "object.__setattr__"))):XIn K mg C f
section
variable{P:AJ}{w:AT}{K:Fg}{mg:Ag->An Aj}{base:AB}{CL:ClA}{C fI OV:Ak}{x qual g par f:Ag}{j:Am}{st:AD}{fd:Bq}{np apos p1 cpos p6 p7 p8 p9 p10:Az}
variable{nm q:Ag}{N:Ak}{bs bm:Ac Aj}{sn:Ac Ag}{sub:Ac Aj}{ab:Ai}{col:An Ai}{dd:An Ak}{k0 k1 k2 k3 k5:An Aj}
theorem Rr(hob:∀ h:AB,K.In h->h.get? C=Aa (Bz nm q C N bs bm Ab sn sub ab col dd k0 k1 k2 k3 k5 "ValueError.__new__")/\C9 h veB bm)(fn:Fun K x qual st fI fd)(S:FnScope ["self",par] ["self",par] (Bv st))(l1:(Bv st).names.lookup ("self" : Ag)=Aa .local)(l2:(Bv st).names.lookup par=Aa .local)(bd:Eb K fd ["self",par] [])(body:D3 st=OO g par f j np apos p1 cpos p6 p7 p8 p9 p10)(gl:(Bv st).names.lookup g=Aa .globalImplicit)(mo:mg g=Aa (.ref OV))(dg:(g==("__debug__" : Ag))=Ad)(dp:(par==("__debug__" : Ag))=Ad)(dq:(par==("__classdict__" : Ag))=Ad)(s1:BJ K (.ref OV) "__getattribute__" = Aa (Aa (.builtin "type.__getattribute__")))(s2:EA K OV (.type "type")=Ab)(s3:Ez K (.ref OV) (.type "type") "__init__" = Aa (.val (.builtin "ValueError.__init__")))(hl:(apos.endLine==cpos.line)=Ab)(hz:FsOk par j)(hf:Ar K (.ref C) f=Aa Ae)(hs:Ar K (.ref C) "__setattr__" = Aa (Aa (.builtin "object.__setattr__"))){A:AR}{outer:Ac B2}{s:Ao}{E:XK}{e t:Ak}{v:V}{u:Aj}{n:Af}(hh:A.handled=Ae)(hdp:A.depth<Hi)(hun:A.units+70<BE)(hgd:A.guards=Aa [])(e0:Env0 P w K mg base A outer s H)(he:H e=Aa (.ext (XEx e C Ae t)))(rp:Rep K CL H B v d)(hx:xfD n d=Ab)(hn:n<=2)(r:Bi v u):D0 (model P w) A (.call (.ref fI) ⟨[.ref e,u],[]⟩) (CR L6 outer P w H s (λy H'=>y=.non/\∃ t' dx,H dx=Ae/\dx≠e/\H'=upd (upd H e (.ext (XEx e C (Aa dx) t'))) dx (.xd [(f,v)])) E) s:=by
 obtain⟨oc,od,kV,doc,pm,an,cdv,ct,osl,rfl,lk,hcd⟩:=fn.ex;have KX:K.In s.heap:=e0.mod.kin.keeps λb o e=>(e0.bs b o e).1
 have lim:s.heap.NoLimit:=e0.mod.nolimit.keeps λb o e=>(e0.bs b o e).1
 have hkind:∀ y∈(["self",par]:Ac Ag).zip [Bb e,u],(Bv st).names.lookup y.1=Aa .local\/((Bv st).names.lookup y.1=Aa .cell/\((Cn (s.heap.objs.size+1) (Bv st).names []).lookup y.1).isSome=Ab):=λy hy=>by
  refine .inl ?_;rcases AG.mp hy with rfl|hy
  .exact l1
  .rw[Bm.mp hy];exact l2
 have rv:AX [.ref e,v] [.ref e,u]:=.cons rfl (.cons r .nil);refine We hdp (KX _ _ lk) rfl S.co S.gen rfl (V4 KX hcd) (bd s [.ref e,u] KX rfl _ _ _ _ ?_);refine Wr S.kind hkind λenv hen s1' x=>?_
 subst hen;refine⟨lim.keeps x.toInCall.keep,codeAny_func ?_⟩;have I:Inv (EM L6 P w K mg base ["self",par] qual (Bv st) fI cdv A outer s H E) [] (start ["self",par] [.ref e,v]) H s1':=PB S hh e0 rfl rv x;generalize hX:EM L6 P w K mg base ["self",par] qual (Bv st) fI cdv A outer s H E=X at I;have pself:∀ p,PE X (.Name "self" p) (Ec 0):=λp=>by rw[<-hX];exact JB rfl (.inl l1)
 have ppar:∀ p,PE X (.Name par p) (Ec 1):=λp=>by rw[<-hX];exact JB rfl (.inl l2) dp dq
 have st1:=XQ (X:=X) (CL:=CL) (C:=C) (g:=g) (np:=np) (apos:=apos) (cpos:=cpos) (i:=0) (j:=1) (OV:=OV) (by rw[<-hX];exact hob) (by rw[<-hX];exact gl) (by rw[<-hX];exact mo) dg (by rw[<-hX];exact s1) (by rw[<-hX];exact s2) (by rw[<-hX];exact s3) hl (pself p1)
  (hz.pe X CL 1 (by rw[<-hX];show A.units+3+64<BE;omega) (by rw[<-hX];exact hgd) ppar) rfl (hz.st _)
 have st2:=Z_9 (X:=X) (p8:=p8) (p10:=p10) (by rw[<-hX];exact hob) (by rw[<-hX];rfl) (by rw[<-hX];exact hf) (by rw[<-hX];exact hs) (pself p7) (ppar p9) rfl
 have all:=M7 (Ke (pos:=p6) st1 rfl) (Jx st2);have hk:=all [] s1' _ H {nx:=λ_ H'=>∃ t' dx,H dx=Ae/\dx≠e/\H'=upd (upd H e (.ext (XEx e C (Aa dx) t'))) dx (.xd [(f,v)]),rt:=λ_ _=>AV} I ⟨e,Ae,t,v,d,B,n,rfl,he,rfl,by rw[<-hX];exact rp,hx,hn,λt'=>⟨e,t',v,rfl,Dh,rfl,λdx h1 h2=>⟨t',dx,by rw[A6 h2]at h1;exact h1,h2,by rw[Nz]⟩⟩⟩
 rw[body];refine A3 (by rw[<-hX]at hk;exact hk) (λfl s' hfl=>?_) λev s' hev=>hev
 cases fl with
 |next=>
  obtain⟨Y',H',J,w'⟩:=hfl;exact⟨.non,H',J.os,J.bare,J.base,J.hok,rfl,rfl,w'⟩
 |ret y=>obtain⟨_,_,_,_,_,w'⟩:=hfl;exact w'.elim
 |brk=>obtain⟨_,_,_,w'⟩:=hfl;exact w'.elim
 |cont=>obtain⟨_,_,_,w'⟩:=hfl;exact w'.elim
end
theorem SD:∀(n m:Af)(d:D),xfD n d=Ab->n+1<=m->nlD m d=Ab
 |0,m+1,.int i,_,_=>rfl
 |n+1,m+1,.tup ds,h,hm=>by
  have h':(CP ds.length 8&&ds.all (xfD n))=Ab:=h;rw[Al]at h';show ds.all (nlD m)=Ab;rw[BV]at h' ⊢;exact λx hx=>SD n m x (h'.2 x hx) (by omega)
 |0,_,.tup _,h,_=>nomatch h
 |n+1,_,.int _,h,_=>nomatch h
section
variable{X:Cx}{CL:ClA}{W:XW}
def JH(xn:Af->Ac D->R Ex)(c:Af)(f:Ag)(ds:Ac D):Prop:=∃ d n,ds=[d]/\xfD n d=Ab/\n<=2/\xn c ds=.ok ⟨c,[(f,d)]⟩
theorem Xb{np cpos pos:Az}{e:Am}{es:Ac Am}{fs:Rho->R (Ac D)}(hcalm:X.calm=Ab)(hx:X.ex=[])(hr:Room k X.A)(rz:K1 X CL W)(hg:Gl X g)(hm:X.mg g=Aa (.ref C))(hdb:(g==("__debug__" : Ag))=Ad)(hcl:CL c=Aa C)(ha:SA X CL W (e::es) fs)(hxn:∀ ds,xn c ds=.bad\/(xn c ds=.ok ⟨c,[]⟩/\D5 X.K C Ae=Ab)\/∃ f,XIn X.K X.mg C f/\JH xn c f ds)(he:Aq (e::es) X.env=(Ad,eval e X.env)::Aq es X.env)(hpl:∀ pos,(Br pos (Aq es X.env)).any (·.1)=Ad)(hz:∀ U ds,fs U=.ok ds->ds.length<=100000):SS X CL W (.Raise (Aa (.Call (.Name g np) (e::es) [] cpos)) Ae pos) (λU=>O.of U (noX (fs U)) λxs=>O.of U (xn c xs) λx=>.exn x U):=λFz B pI s Y H D I ⟨U,x,p⟩=>by
 have hpl':(Br cpos (Aq (e::es) X.env)).any (·.1)=Ad:=by rw[he];show (Ad||(Br cpos (Aq es X.env)).any (·.1))=Ad;rw[hpl];rfl
 cases e1:fs U with
 |bad=>dsimp only at p;rw[e1]at p;exact p.elim
 |exn y=>dsimp only at p;rw[e1]at p;exact p.elim
 |ok ds=>
  rcases hxn ds with e2|⟨e2,xc⟩|⟨f,xi,d,n,rfl,xf,hn,e2⟩
  .dsimp only at p;rw[e1]at p;have p2:Bj X.K CL Fz B W (O.of U (xn c ds) λx=>.exn x U) D:=p
   rw[e2]at p2;exact p2.elim
  .refine Ym (fs:=fs) (xn:=λ_ ds'=>match xn c ds' with | .ok ⟨_,[]⟩=>.ok ⟨c,[]⟩|_=>.bad) hcalm rz hg hm hdb xc hcl ha (λds'=>by
    split
    .exact .inr rfl
    .exact .inl rfl) he hpl hz Fz B pI s Y H D I ⟨U,x,?_⟩
   dsimp only at p ⊢;rw[e1]at p ⊢;have p2:Bj X.K CL Fz B W (O.of U (xn c ds) λx=>.exn x U) D:=p
   rw[e2]at p2;show Bj X.K CL Fz B W (O.of U (match xn c ds with | .ok ⟨_,[]⟩=>(.ok ⟨c,[]⟩:R Ex)|_=>.bad) λx=>.exn x U) D
   rw[e2];exact p2
  .dsimp only at p;rw[e1]at p;have p2:Bj X.K CL Fz B W (O.of U (xn c [d]) λx=>.exn x U) D:=p
   rw[e2]at p2;have p3:∀ H,(∀ b o,Fz b o->H b=Aa o)->W ⟨c,[(f,d)]⟩ H:=p2;cases xi with
   |mk xc dc fn ty S l1 l2 bd body gl mo dg dp dq w1 w2 w3 hl hz0 hf hs=>
    rename_i fI OV x0 qual g0 par j0 st fd np0 apos q1 cpos0 q6 q7 q8 q9 q10;obtain⟨bm,N,nm,qn,bs,hd,sn,sub,ab,col,dd,k0,k1,k2,k3,k5,mN,hob,hni,hbase⟩:=Kj I.kIn xc;have hdt:hd=Ab:=by
     unfold FC at dc;split at dc
     .rename_i c0 d0 cd sl lk;have g1:=I.kIn _ _ lk;rw[(hob _ I.kIn).1]at g1;unfold Bz at g1;cases g1;exact dc
     .cases dc
    subst hdt;have hob2:∀ h:AB,X.K.In h->h.get? C=Aa (Bz nm qn C N bs bm Ab sn sub ab col dd k0 k1 k2 k3 k5 "ValueError.__new__")/\C9 h veB bm:=λh z=>⟨(hob h z).1,(hob h z).2.2⟩
    refine X9 (bmB:=veB) (nm:=nm) (q:=qn) (C:=C) (N:=N) (fI:=fI) (bs:=bs) (bm:=bm) (hdct:=Ab) (sn:=sn) (sub:=sub) (ab:=ab) (col:=col) (dd:=dd) (k0:=k0) (k1:=k1) (k2:=k2) (k3:=k3) (k5:=k5) (mN:=mN) Cy hbase (I.ok.hd hcalm) hpl' hni ?_;refine G1 I hg hm ⟨rfl,?_⟩ hdb;have q1:=ha (Bc B U Y) cpos pI s Y H (λvs H1=>Ax H H1/\Reps X.K CL H1 (Bc B U Y) vs [d]) I ⟨x.aok,U,x.good,by rw[e1];exact λvs H1 s1 r1=>⟨s1,r1⟩⟩
    rw[he]at q1 ⊢;refine D9 (A3 q1 (λus s2 ⟨vs,H2,I2,r2,sm2,rps⟩=>⟨rfl,?_⟩) λ_ _ z=>z)
    cases vs with
    |nil=>exact rps.elim
    |cons v vs=>
     cases vs with
     |cons=>exact rps.2.elim
     |nil=>
      obtain⟨u,rfl,ru⟩:=GK r2;obtain⟨o1,o2,o3⟩:=hob _ I2.kIn;obtain⟨oc,od,kV,doc,pm,an,cdv,ct,osl,efd,lk,hcd⟩:=fn.ex;have coc:oc=.type "function" := by
       have ty':(X.K.lookup fI).map _=_:=ty;rw[lk]at ty';exact Bf ty'
      refine⟨by rw[BX];show 1<=_;omega,o1,o2,o3,⟨_,I2.kIn _ _ lk,coc⟩,λh' e0 made=>?_⟩
      obtain⟨t,ge,_⟩:=made.there;have I3:Inv X pI Y H2 {s2 with heap:=h'}:=I2.kept (t':=s2.toks) made.keeps
      have ap:Fl X pI e0:=IR I2 hx made.new;have n0:H2 e0=Ae:=Ii I2.hok made.new;have I4:=Nq (o:=.ext (XEx e0 C Ae t)) I3 ap n0 ⟨ge,⟨_,ge⟩,Lw⟩;have sm4:Ax H2 (upd H2 e0 (.ext (XEx e0 C Ae t))):=λb o z=>by rw[A6 λy=>by rw[y,n0]at z;cases z];exact z
      have ru0:=hr.mono (DP k);have run:=Rr (P:=X.prog) (w:=X.w) (mg:=X.mg) (base:=X.base) (CL:=CL) (E:=λ_ _ _=>AV) (B:=Bc B U Y) (H:=upd H2 e0 (.ext (XEx e0 C Ae t))) (t:=t) hob2 fn S l1 l2 bd body gl mo dg dp dq w1 w2 w3 hl hz0 hf hs (A:=X.A.under (.builtin "type.__call__" ⟨.ref C::[u],[]⟩)) (outer:=X.stack) hr.hd (by rw[MN];have:=ru0.dp;omega) (by rw[MM];have:=ru0.un;omega) hr.gd (I4.env0.make C [u] []) Dh (Rep.same sm4 rps.1) xf hn ru
      refine ER (D1 run λr s' hq=>?_)
      cases r with
      |error _=>exact A1 hq
      |ok fl=>
       cases fl with
       |next=>exact A1 hq
       |brk=>exact A1 hq
       |cont=>exact A1 hq
       |ret u'=>
        obtain⟨v',H5,I5,rr,ev,t',dx,ndx,dne,eH⟩:=I4.after hq;subst ev;cases rr;have nd2:H2 dx=Ae:=by rw[A6 dne]at ndx;exact ndx
        rw[Nz]at eH;have H5e:H5 e0=Aa (.ext (XEx e0 C (Aa dx) t')):=by rw[eH,A6 (CV dne),Dh]
        have ge5:XEx e0 C (Aa dx) t' s'.heap:=(I5.hok e0 _ H5e).1;have I6:=Yz I5 H5e ap.2.2.2 λ_=>trivial
        have H6d:(if dx=e0 then Ae else H5 dx)=Aa (.xd [(f,v)]):=by rw[AH dne,eH,Dh]
        have sm6:Ax H2 (λb=>if b=e0 then Ae else H5 b):=λb o z=>by
         have nb:b≠e0:=λy=>by rw[y,n0]at z;cases z
         have nb2:b≠dx:=λy=>by rw[y,nd2]at z;cases z
         show (if b=e0 then Ae else H5 b)=Aa o
         rw[AH nb,eH,A6 nb2,A6 nb];exact z
        refine⟨rfl,t',Aa dx,(hob2 _ I6.kIn).1,ge5,rz pI Y _ s' e0 C (Aa dx) t' ⟨c,[(f,d)]⟩ I6 (λhx=>IQ I2 hx made.new) (AA rfl) ge5 (λA hA=>⟨C,hcl,rfl,.inr ⟨dx,[(f,v)],rfl,λz=>?_,H6d,⟨rfl,?_⟩,trivial⟩⟩) (p3 _ λb o z=>sm6 _ _ (sm2 _ _ (x.same b o z)))⟩
        .obtain⟨ys,q⟩:=hA dx z;have q':(if dx=e0 then Ae else H5 dx)=Aa (.lst ys):=q
         rw[H6d]at q';cases q'
        .exact N5 hA 5 d (SD n 5 d xf (by omega)) (Rep.sub (λ_ z=>z.elim) _ (Rep.same sm6 rps.1))
end
section
variable{prog:AJ}{w:AT}{A:AR}{E:Vq}{h:AB}{g:A4 DR}{d:GQ}{t:Af}{os:Gp}{K:Fg}{e C dx:Ak}{f:Ag}{mA:Ag->An Aj}{v:Aj}
theorem NQ(p:HI e C (Aa dx) h):XAt e C h:=let ⟨o,a,b,_⟩:=p;⟨o,a,b⟩
theorem W5{Q:Fin->Ao->Prop}(X:K.In h)(hf:Ar K (.ref C) f=Aa Ae)(hd:FC K C=Ab)(p:HI e C (Aa dx) h)(hn:h.Ns1 dx mA)(hv:mA f=Aa v)(hq:Q (.done (.ret v)) ⟨h,g,d,t,os⟩):At (model prog w) A (Builtin.«object.__getattribute__» ⟨[.ref e,.str f tk],[]⟩) Q E ⟨h,g,d,t,os⟩:=by
 have L0:=Ij (M:=model prog w) (NQ p);have L1:=BU (M:=model prog w) X hf;obtain⟨o,ge,oc,od,us,dt⟩:=p;unfold FC at hd;split at hd
 .rename_i c' d' cd' sl' lk;have gC:=X _ _ lk;unfold Builtin.«object.__getattribute__»
  repeat (any_goals (first|assumption|with_reducible refine L0.at ?_|with_reducible refine L1.at ?_|wp_step))
  rw[dt];unfold instanceDict
  repeat (first|(with_reducible refine BK ge ?_;rw[oc])|with_reducible refine BK gC ?_|wp_step)
  rw[od]
  repeat (first|(with_reducible refine wpAny_nsGet hn.ns ?_;rw[hv])|wp_step)
  exact hq
 .cases hd
theorem cX{Q:Vq}(X:K.In h)(x:XcOk K C)(hf:Ar K (.ref C) f=Aa Ae)(hd:FC K C=Ab)(p:HI e C (Aa dx) h)(hn:h.Ns1 dx mA)(hv:mA f=Aa v)(hh:handedOut v=pure v)(hq:Q v ⟨h,g,d,t,os⟩):At (model prog w) A (getAttrBy (.ref e) (.str f tk) fill expr) Q E ⟨h,g,d,t,os⟩:=by
 have L0:=Ij (M:=model prog w) (NQ p);have L1:=BU (M:=model prog w) X x.ga;have L2:=BU (M:=model prog w) X x.gt;have f3:=EX.ga.bind (.ref e);have hx0:(expr&&Ic (B7 "BaseException.__getattribute__"))=Ad:=by cases expr<;>rfl
 have hx2:(B7 "BaseException.__getattribute__" == B7 "object.__getattribute__")=Ad:=by decide+kernel
 have hx1:(Ic (Bb C)&&B7 "BaseException.__getattribute__" == B7 "object.__getattribute__")=Ad:=by rw[hx2];rfl
 repeat (any_goals (first|assumption|with_reducible refine L0.at ?_|with_reducible refine L1.at ?_|with_reducible refine L2.at ?_|wp_step))
 refine Dq EX.ga.plain Vs (Pb X x (NQ p) (W5 X hf hd p hn hv ?_))
 repeat (any_goals (first|assumption|wp_step))
 all_goals trace_state
theorem Yb{b:Ai}{Q:Vq}(X:K.In h)(x:XcOk K C)(hf:Ar K (.ref C) f=Aa Ae)(hd:FC K C=Ab)(p:HI e C (Aa dx) h)(hn:h.Ns1 dx mA)(hv:mA f=Aa v)(hh:handedOut v=pure v)(hq:Q v ⟨h,g,d,t+1,os⟩):At (model prog w) A (IB (.ref e) f b) Q E ⟨h,g,d,t,os⟩:=by
 unfold IB
 repeat (any_goals (first|assumption|with_reducible apply cX X x hf hd p hn hv hh|wp_step))
end
section
variable{X:Cx}{CL:ClA}{W:XW}{K:Fg}{H:Hp}{A:Ak->Prop}
theorem M6{f:Ag}{d:D}:∀{vs:Ac (Ag×V)}{fs:Ac (Ag×D)},Repf K CL H A vs fs->fs.lookup f=Aa d->∃ v,vs.lookup f=Aa v/\Rep K CL H A v d
 |[],[],_,q=>nomatch q
 |(n,v)::vs,(m,d')::fs,⟨⟨e,r⟩,rs⟩,q=>by
  have e':n=m:=e;subst e';by_cases z:(f==n)=Ab
  .simp only[BH,z]at q ⊢;cases q;exact⟨v,rfl,r⟩
  .simp only[BH,z]at q ⊢;exact M6 rs q
theorem QH{a:Am}{fa:Rho->R D}{f:Ag}(hxc:∀ c C,CL c=Aa C->XcOk X.K C)(hnf:∀ c C,CL c=Aa C->FC X.K C=Ab/\Ar X.K (.ref C) f=Aa Ae)(ha:ST X CL W a fa)(hb:CS a f X.env (eval a X.env)=eval a X.env):SE X CL W (.Attribute a f pos) (λU=>(fa U).bind λx=>Mj x f):=λA=>by
 intro pI s Y H Q I ⟨hA,U,gd,q⟩;refine Rg hb (thn (ha A pI s Y H _ I ⟨hA,U,gd,AU.bind q (Q':=λv H1=>∃ d,B9 X.K CL H1 A v d/\AU (λH2=>Rep X.K CL H2 A) W H1 (Mj d f) Q) λd v H1 _ s1 r1 p1=>⟨d,r1,p1⟩⟩) λu s1 ⟨v,H1,I1,rv,d,rp,p1⟩=>?_)
 cases d with
 |exc c fs=>
  have p2:AU (λH2=>Rep X.K CL H2 A) W H1 (match fs.lookup f with|some d=>.ok d|none=>.bad) Q:=p1
  cases el:fs.lookup f with
  |none=>rw[el]at p2;exact p2.elim
  |some d=>
   rw[el]at p2;rcases rp with ⟨e,C,φ,rfl,_,hc,hH,hφ,hfs⟩|⟨a,xs,ds,_,z,_⟩
   .rcases hfs with z|⟨dx,vs,nd,hd,rf,hφ2⟩
    .rw[z]at el;cases el
    .obtain⟨y,l,ry⟩:=M6 rf el;cases rv;have ph:=(I1.hok e _ hH).1;obtain⟨o,ge,oc⟩:=hφ _ ph;obtain⟨o',ge',od,us,odt⟩:=hφ2 _ ph;rw[ge]at ge';cases ge';obtain⟨mA,hn,rel⟩:=I1.hok dx _ hd;obtain⟨u',hu,ru⟩:=GM.some_of (v:=y) (o:=mA f) (by rw[<-l];exact rel f)
     obtain⟨k1,k2⟩:=hnf c C hc;obtain⟨hp,g2,d2,tk2,os2⟩:=s1;exact Yb I1.kIn (hxc c C hc) k2 k1 ⟨o,ge,oc,od,us,odt⟩ hn hu (PySem.W.handedOut_of (P8 ru)) ⟨y,H1,I1.tok _,ru,p2 y H1 (Ax.refl H1) ry⟩
   .cases z
 |_=>exact p1.elim
end
section
variable{X:Cx}{CL:ClA}{W:XW}
theorem cY{e C:Ak}:∀ h1 h2:AB,XAt e C h1->(∀ o,h1.get? e=Aa o->h2.get? e=Aa o)->XAt e C h2:=λ_ _ ⟨o,a,b⟩ k=>⟨o,k _ a,b⟩
theorem eM{np pos:Az}{e:Am}{es:Ac Am}{fs:Rho->R (Ac D)}(hx:X.ex=[])(hk:A8 X.K (.ref C)=Ab)(hg:Gl X g)(hm:X.mg g=Aa (.ref C))(hdb:(g==("__debug__" : Ag))=Ad)(xc:D5 X.K C Ae=Ab)(hcl:CL c=Aa C)(ha:SA X CL W (e::es) fs)(he:Aq (e::es) X.env=(Ad,eval e X.env)::Aq es X.env)(hpl:(Br pos (Aq es X.env)).any (·.1)=Ad)(hz:∀ U ds,fs U=.ok ds->ds.length<=100000):SE X CL W (.Call (.Name g np) (e::es) [] pos) (λU=>(fs U).bind λ_=>.ok (.exc c [])):=λA=>by
 intro pI s Y H Q I ⟨hA,U,gd,p⟩;dsimp only at p;obtain⟨bm,N,nm,qn,bs,hd,sn,sub,ab,col,dd,k0,k1,k2,k3,k5,mN,hob,hni,hbase⟩:=Kj I.kIn xc;refine CF (G1 I hg hm ?_ hdb);have q1:=ha A pos pI s Y H (λvs H1=>Ax H H1/\vs.length<=100000/\∀ v H',Ax H H'->Rep X.K CL H' A v (.exc c [])->Q v H') I ⟨hA,U,gd,by
  cases e1:fs U with
  |bad=>rw[e1]at p;exact p
  |exn y=>rw[e1]at p;exact p
  |ok ds=>
   rw[e1]at p;exact λvs H1 s1 r1=>⟨s1,by rw[r1.length];exact hz U ds e1,p⟩⟩
 refine DM (h₀:=X.base) I.ok.mod.kin hk (thn q1 λus s1 ⟨vs,H1,I1,r,sm,hl,q⟩=>⟨I1.kIn,?_⟩) he hpl
 obtain⟨o1,o2,o3⟩:=hob _ I1.kIn;have ap:∀ e',s1.heap.get? e'=Ae->Fl X pI e':=λe' z=>IR I1 hx z
 have hf:=λe' (z:s1.heap.get? e'=Ae)=>Ii I1.hok z
 obtain⟨h1,g1,d1,t1,os1⟩:=s1;refine wpAny_call_exc_subT Cy o3 o1 o2 hni (λh' ev hmade=>?_) (by rw[GO,<-r.length,BX];omega)
 obtain⟨t,ge,_⟩:=hmade.there;have nH:H1 ev=Ae:=hf ev hmade.new;have xa:XAt ev C h':=⟨_,ge,rfl⟩;have I3:Inv X pI Y H1 ⟨h',g1,d1,t1,os1⟩:=I1.kept (t':=t1) hmade.keeps;have I2:=Pz I3 hx (ap ev hmade.new) nH ⟨_,ge⟩ xa cY;have s2:Ax H1 (upd H1 ev (.ext (XAt ev C))):=Eo nH _;refine⟨.ref ev,_,I2,rfl,q _ _ (sm.trans s2) ⟨ev,C,XAt ev C,rfl,λz=>?_,hcl,Dh,λh x=>x,.inl rfl⟩⟩
 obtain⟨xs,z'⟩:=hA.same sm ev z;rw[nH]at z';cases z'
theorem gB{f:Ag}{ds:Ac D}{Q:VK}(p:AU Rp W H ((mkA c f ds).bind λx=>.ok (.exc x.c x.fs)) Q):∃ d n,ds=[d]/\xfD n d=Ab/\n<=2/\mkA c f ds=.ok ⟨c,[(f,d)]⟩:=by
  match ds,p with
  |[],p=>exact p.elim
  |_::_::_,p=>exact p.elim
  |[d],p=>
    have e':mkA c f [d]=if (xfD 0 d||(xfD 1 d||xfD 2 d))=Ab then .ok ⟨c,[(f,d)]⟩ else .bad:=rfl
    by_cases z:(xfD 0 d||(xfD 1 d||xfD 2 d))=Ab
    · rw[AA z]at e';rcases (BN _ _).mp z with h|h
      · exact⟨d,0,rfl,h,by omega,e'⟩
      · rcases (BN _ _).mp h with h|h
        · exact⟨d,1,rfl,h,by omega,e'⟩
        · exact⟨d,2,rfl,h,by omega,e'⟩
    · rw[AH z]at e';rw[e']at p;exact p.elim
theorem eL{g f:Ag}{np pos:Az}{e:Am}{es:Ac Am}{fs:Rho->R (Ac D)}(hx:X.ex=[])(hr:Room k X.A)(hk:A8 X.K (.ref C)=Ab)(hg:Gl X g)(hm:X.mg g=Aa (.ref C))(hdb:(g==("__debug__" : Ag))=Ad)(xi:XIn X.K X.mg C f)(hcl:CL c=Aa C)(ha:SA X CL W (e::es) fs)(he:Aq (e::es) X.env=(Ad,eval e X.env)::Aq es X.env)(hpl:(Br pos (Aq es X.env)).any (·.1)=Ad):SE X CL W (.Call (.Name g np) (e::es) [] pos) (λU=>(fs U).bind λds=>mkA c f ds |>.bind λx=>.ok (.exc x.c x.fs)):=λA=>by
 intro pI s Y H Q I ⟨hA,U,gd,p⟩;dsimp only at p;cases xi with
 |mk xc dc fn ty S l1 l2 bd body gl mo dg dp dq w1 w2 w3 hl hz0 hf hs=>
  rename_i fI OV x0 qual g0 par j0 st fd np0 apos q1 cpos0 q6 q7 q8 q9 q10;obtain⟨bm,N,nm,qn,bs,hd,sn,sub,ab,col,dd,k0,k1,k2,k3,k5,mN,hob,hni,hbase⟩:=Kj I.kIn xc;have hdt:hd=Ab:=by
   unfold FC at dc;split at dc
   .rename_i c0 d0 cd sl lk;have g1:=I.kIn _ _ lk;rw[(hob _ I.kIn).1]at g1;unfold Bz at g1;cases g1;exact dc
   .cases dc
  subst hdt;have hob2:∀ h:AB,X.K.In h->h.get? C=Aa (Bz nm qn C N bs bm Ab sn sub ab col dd k0 k1 k2 k3 k5 "ValueError.__new__")/\C9 h veB bm:=λh z=>⟨(hob h z).1,(hob h z).2.2⟩
  refine CF (G1 I hg hm ?_ hdb);have q1:=ha A pos pI s Y H (λvs H1=>Ax H H1/\∃ d n,Reps X.K CL H1 A vs [d]/\xfD n d=Ab/\n<=2/\∀ v H',Ax H H'->Rep X.K CL H' A v (.exc c [(f,d)])->Q v H') I ⟨hA,U,gd,by
   cases e1:fs U with
   |bad=>rw[e1]at p;exact p
   |exn y=>rw[e1]at p;exact p
   |ok ds=>
    rw[e1]at p;have p':AU (λH=>Rep X.K CL H A) W H ((mkA c f ds).bind λx=>.ok (.exc x.c x.fs)) Q:=p
    obtain⟨d,n,rfl,xf,hn,em⟩:∃ d n,ds=[d]/\xfD n d=Ab/\n<=2/\mkA c f ds=.ok ⟨c,[(f,d)]⟩:=gB p';rw[em]at p';exact λvs H1 s1 r1=>⟨s1,d,n,r1,xf,hn,p'⟩⟩
  refine DM (h₀:=X.base) I.ok.mod.kin hk (thn q1 λus s2 ⟨vs,H2,I2,r2,sm2,d,n,rps,xf,hn,q⟩=>⟨I2.kIn,?_⟩) he hpl
  cases vs with
  |nil=>exact rps.elim
  |cons v vs=>
   cases vs with
   |cons=>exact rps.2.elim
   |nil=>
    obtain⟨u,rfl,ru⟩:=GK r2;obtain⟨o1,o2,o3⟩:=hob _ I2.kIn;obtain⟨oc,od,kV,doc,pm,an,cdv,ct,osl,efd,lk,hcd⟩:=fn.ex;have coc:oc=.type "function" := by
     have ty':(X.K.lookup fI).map _=_:=ty;rw[lk]at ty';exact Bf ty'
    have apO:∀ e',s2.heap.get? e'=Ae->Fl X pI e':=λe' z=>IR I2 hx z
    have hfO:=λe' (z:s2.heap.get? e'=Ae)=>Ii I2.hok z
    have lkI:=I2.kIn _ _ lk;obtain⟨h1,g1,d1,t1,os1⟩:=s2;refine QP Cy o3 o1 o2 hni lkI coc (by rw[BX];show 1<=_;omega) λh' e0 made=>?_
    obtain⟨t,ge,_⟩:=made.there;have I3:Inv X pI Y H2 ⟨h',g1,d1,t1,os1⟩:=I2.kept (t':=t1) made.keeps;have ap:Fl X pI e0:=apO e0 made.new;have n0:H2 e0=Ae:=hfO e0 made.new;have I4:=Nq (o:=.ext (XEx e0 C Ae t)) I3 ap n0 ⟨ge,⟨_,ge⟩,Lw⟩;have sm4:Ax H2 (upd H2 e0 (.ext (XEx e0 C Ae t))):=Eo n0 _;have ru0:=hr.mono (DP k);have run:=Rr (P:=X.prog) (w:=X.w) (mg:=X.mg) (base:=X.base) (CL:=CL) (E:=λ_ _ _=>AV) (B:=A) (H:=upd H2 e0 (.ext (XEx e0 C Ae t))) (t:=t) hob2 fn S l1 l2 bd body gl mo dg dp dq w1 w2 w3 hl hz0 hf hs (A:=X.A.under (.builtin "type.__call__" ⟨.ref C::[u],[]⟩)) (outer:=X.stack) hr.hd (by rw[MN];have:=ru0.dp;omega) (by rw[MM];have:=ru0.un;omega) hr.gd (I4.env0.make C [u] []) Dh (Rep.same sm4 rps.1) xf hn ru
    refine ER (D1 run λr s' hq=>?_)
    cases r with
    |error _=>exact A1 hq
    |ok fl=>
     cases fl with
     |next=>exact A1 hq
     |brk=>exact A1 hq
     |cont=>exact A1 hq
     |ret u'=>
      obtain⟨v',H5,I5,rr,ev,t',dx,ndx,dne,eH⟩:=I4.after hq;subst ev;cases rr;have nd2:H2 dx=Ae:=by rw[A6 dne]at ndx;exact ndx
      rw[Nz]at eH;have H5e:H5 e0=Aa (.ext (XEx e0 C (Aa dx) t')):=by rw[eH,A6 (CV dne),Dh]
      have H5d:H5 dx=Aa (.xd [(f,v)]):=by rw[eH,Dh]
      have s5:Ax H2 H5:=λb o z=>by
       have nb:b≠e0:=λy=>by rw[y,n0]at z;cases z
       have nb2:b≠dx:=λy=>by rw[y,nd2]at z;cases z
       rw[eH,A6 nb2,A6 nb];exact z
      have nA:∀ b,H2 b=Ae->¬ A b:=λb z ha'=>by
       obtain⟨xs,q'⟩:=hA.same sm2 b ha';rw[z]at q';cases q'
      refine⟨rfl,.ref e0,H5,I5,rfl,q _ _ (sm2.trans s5) ?_⟩;exact⟨e0,C,_,rfl,nA e0 n0,hcl,H5e,λh x=>⟨_,x,rfl⟩,.inr ⟨dx,[(f,v)],nA dx nd2,H5d,⟨⟨rfl,Rep.same s5 rps.1⟩,trivial⟩,λh x=>⟨_,x,rfl,_,rfl⟩⟩⟩
theorem Qn{i:An Aj}(q:D5 K C i=Ab):A8 K (.ref C)=Ab:=by
  obtain⟨dd,cd,sl,bm,h1,_⟩:=R8 q;have e:BJ K (.ref C) "__call__" = Aa (Aa (.builtin "type.__call__")):=by
    unfold BJ;rw[fU q];show PySem.fastLookup "type" "__call__" = _;decide+kernel
  show (match K.lookup C with
      |some ⟨_,_,.func _,_⟩=>Ab
      |some ⟨_,_,.cls _,_⟩=>BJ K (.ref C) "__call__" == Aa (Aa (.builtin "type.__call__"))
      | _=>Ad)=Ab
  rw[h1,e];show (Aa (Aa (B7 "type.__call__"))==Aa (Aa (B7 "type.__call__")))=Ab;exact Ee _
theorem kL{np pos:Az}{e:Am}{es:Ac Am}{fs:Rho->R (Ac D)}(hx:X.ex=[])(hr:Room k X.A)(hg:Gl X g)(hm:X.mg g=Aa (.ref C))(hdb:(g==("__debug__" : Ag))=Ad)(hcl:CL c=Aa C)(ha:SA X CL W (e::es) fs)(hxn:∀ ds,xn c ds=.bad\/(xn c ds=.ok ⟨c,[]⟩/\D5 X.K C Ae=Ab)\/∃ f,XIn X.K X.mg C f/\JH xn c f ds)(he:Aq (e::es) X.env=(Ad,eval e X.env)::Aq es X.env)(hpl:(Br pos (Aq es X.env)).any (·.1)=Ad)(hz:∀ U ds,fs U=.ok ds->ds.length<=100000):SE X CL W (.Call (.Name g np) (e::es) [] pos) (λU=>(noX (fs U)).bind λds=>(xn c ds).bind λx=>.ok (.exc x.c x.fs)):=λA=>by
 intro pI s Y H Q I ⟨hA,U,gd,p⟩;dsimp only at p;cases e1:fs U with
 |bad=>
  rw[e1]at p;exact p.elim
 |exn y=>
  rw[e1]at p;exact p.elim
 |ok ds=>
  rw[e1]at p;have p':AU (λH=>Rep X.K CL H A) W H ((xn c ds).bind λx=>.ok (.exc x.c x.fs)) Q:=p
  rcases hxn ds with e2|⟨e2,xc⟩|⟨f,xi,d,n,rfl,xf,hn,e2⟩
  .rw[e2]at p';exact p'.elim
  .rw[e2]at p';refine eM (fs:=fs) hx (Qn xc) hg hm hdb xc hcl ha he hpl hz A pI s Y H Q I ⟨hA,U,gd,?_⟩;dsimp only;rw[e1];exact p'
  .rw[e2]at p';have m:mkA c f [d]=.ok ⟨c,[(f,d)]⟩:=by
    have:(xfD 0 d||(xfD 1 d||xfD 2 d))=Ab:=by
     have hn':n=0\/n=1\/n=2:=by omega
     rcases hn' with rfl|rfl|rfl<;>rw[xf]<;>simp
    show (if (xfD 0 d||(xfD 1 d||xfD 2 d))=Ab then (.ok ⟨c,[(f,d)]⟩:R Ex) else .bad)=_
    rw[AA this]
   have kp:A8 X.K (.ref C)=Ab:=by
    cases xi with
    |mk xc=>exact Qn xc
   refine eL (fs:=fs) hx hr kp hg hm hdb xi hcl ha he hpl A pI s Y H Q I ⟨hA,U,gd,?_⟩;dsimp only;rw[e1];show AU (λH=>Rep X.K CL H A) W H ((mkA c f [d]).bind λx=>.ok (.exc x.c x.fs)) Q
   rw[m];exact p'
end
theorem Yj:∀{ss:Ac Ag}{its:Ac Aj},AX (ss.map V.str) its->∃ l:Ac (Ag×Cd),its=strValues l/\l.map (·.1)=ss:=by
 intro ss
 induction ss with
 |nil=>intro its v;cases v;exact⟨[],rfl,rfl⟩
 |cons x ss ih=>
  intro its v;cases v with
  |cons v1 v2=>
   obtain⟨t,rfl⟩:=v1;obtain⟨l,e1,e2⟩:=ih v2;exact⟨(x,t)::l,by rw[e1];rfl,by rw[BY,e2]⟩
section
variable{X:Cx}{CL:ClA}{W:XW}
def jD(K:Fg):V->Ac V->Hp->VK->Prop:=λx xs H Q=>∃ sep q ss,x=.str sep/\xs=[.ref q]/\SqL K H q (ss.map V.str)/\HW sep ss=Ab/\Q (.str (DS sep ss)) H
theorem Zv:MtR X "str.join" (jD X.K):=by
 intro pI s Y H x vs v us Q I rx rv h;obtain⟨sep,l,ss,rfl,rfl,sq,hok,q⟩:=h;obtain⟨t,rfl⟩:=rx;obtain⟨u,rfl,ru⟩:=rv.one;cases ru;obtain⟨its,r,pl,hz⟩:=I.list sq;obtain⟨ls,rfl,rfl⟩:=Yj r;unfold HW at hok;rw[Bk]at hok;refine Gm Vw (EQ _ _ _) PySem.F.entry_str_join (PySem.F.args_str_join_2 _ _) (meets_str_join_list sep t l ls hok) ⟨pl.isList,post_join ls ⟨joinFit_length hok,λt' k=>?_⟩⟩
 exact⟨.str _,H,I.kept (t':=k) λ_ _ e=>e,⟨_,rfl⟩,q⟩
theorem W9:∀{es:Ac D}{ss:Ac Ag}{ys:Ac V},JI es=Aa ss->Reps K CL H A ys es->ys=ss.map V.str:=by
 intro es
 induction es with
 |nil=>
  intro ss ys h r;cases h;cases ys with
  |nil=>rfl
  |cons=>exact r.elim
 |cons e es ih=>
  intro ss ys h r;cases ys with
  |nil=>exact r.elim
  |cons y ys=>
   cases e with
   |str x=>
    have h':(JI es).map (x :: ·)=Aa ss:=h;cases e2:JI es with
    |none=>rw[e2]at h';cases h'
    |some js=>
     rw[e2]at h';cases h';have e1:y=.str x:=r.1;rw[ih e2 r.2,e1];rfl
   |_=>cases h
theorem ZT{y:Am}{s:Ag}{fy:Rho->R D}(hy:SE X CL W y fy)(hbase:CS (.Constant (.str s) k p) "join" X.env (eval (.Constant (.str s) k p) X.env)=eval (.Constant (.str s) k p) X.env)(hfew:((Br cpos (Aq [y] X.env)).all (λx=>!x.1)&&(Hl cpos (FY [] X.env)).all (λx=>x.1.isSome)&&decide ([y].length+([]:Ac DY).length+(if ([]:Ac DY).isEmpty then 0 else 1)<30))=Ab)(hline:(apos.endLine==cpos.line)=Ab)(hs:Aq [y] X.env=[(Ad,eval y X.env)]):
  SE X CL W (.Call (.Attribute (.Constant (.str s) k p) "join" apos) [y] [] cpos) (λU=>(fy U).bind λx=>biD .sjoin [.str s,x]):=λA=>
 PE.weak (N8 Vv Vw PySem.F.type_str_join Zv (Ls (X:=X) (CL:=CL) (W:=W) A) (Dz (hy A) E3 hs) hbase hfew hline hs rfl) λY H Q ⟨hA,U,g,p⟩=>⟨hA,U,g,λv H1 s1 r1=>by
  dsimp only at p;have ev:v=.str s:=r1;subst ev;refine⟨rfl,hA.same s1,U,g.same s1,?_⟩;cases e:fy U with
  |bad=>rw[e]at p;exact p.elim
  |exn x=>rw[e]at p;exact λH2 s2=>p H2 (s1.trans s2)
  |ok d=>
   rw[e]at p;intro v' H2 s2 r2;have p1:AU (λH=>Rep X.K CL H A) W H (biD .sjoin [.str s,d]) Q:=p
   cases d with
   |lst ds=>
    obtain⟨a,xs,rfl,_,sq,rs⟩:=r2;have p2:AU (λH=>Rep X.K CL H A) W H (NI s ds) Q:=p1
    unfold NI at p2;cases e3:JI ds with
    |none=>rw[e3]at p2;exact p2.elim
    |some ss=>
     rw[e3]at p2;dsimp only at p2;split at p2
     .rename_i hok;have ex:=W9 e3 rs;subst ex;exact⟨s,a,ss,rfl,rfl,sq,hok,p2 _ H2 (s1.trans s2) rfl⟩
     .exact p2.elim
   | _=>exact p1.elim⟩
end
theorem PF:∀(l:Ac Ag)(k:Af),AX (l.map V.str) (strsFrom k l)
 |[],_=>.nil
 |_::r,k=>.cons ⟨_,rfl⟩ (PF r (k+1))
section
variable{X:Cx}{CL:ClA}{W:XW}
def dN:V->Ac V->Hp->VK->Prop:=λx xs H Q=>∃ z y,x=.str z/\xs=[.str y]/\(y.length==0)=Ad/\HG z y=Ab/\∀ p,H p=Ae->Q (.ref p) (upd H p (.lst ((DL z y).map V.str)))
theorem XC:MtR X "str.split" dN:=by
 intro pI s Y H x vs v us Q I rx rv h;obtain⟨z,y,rfl,rfl,hy,hok,q⟩:=h;obtain⟨t,rfl⟩:=rx;obtain⟨u0,rfl,ru⟩:=rv.one;obtain⟨u,rfl⟩:=ru;unfold HG at hok;rw[Al]at hok;have z1:z.length<=sizeLine:=by have:=Bt hok.1;rw[BX];omega
 have z2:(UU z (DB z y 0 z.length (z.length+1)) y.length).length<=sizeLine:=by have:=Bt hok.2;rw[BX];omega
 have one:∀(l:Ac Ag)(its:Ac Aj)(tk:Af),DL z y=l->l.length<=sizeLine->AX (l.map V.str) its->EP X pI Y Q (.ref s.heap.objs.size) { s with heap:=s.heap.push { cls:=.type "list",data:=.seq its.toArray },toks:=tk }:=λl its tk e hl hv=>
  ⟨.ref s.heap.objs.size,_,I.laid (t':=tk) (o:=.lst (l.map V.str)) (λb ob q=>As _ q) (AI _) ⟨by rw[BD];exact hl,its,0,hv,AW _ rfl⟩,rfl,by rw[<-e];exact q _ (I.hok.fresh (AI _))⟩
 have self1:1<=sizeLine:=by decide
 cases h1:(decide (z.length<y.length)||decide (El z<El y))
 .cases hf:(DB z y 0 z.length (z.length+1)).isEmpty
  .exact Gm DQ (EQ _ _ _) EV (EC _ _) (meets_str_split_sep z y t u h1 hy hf z1 z2) (one _ _ _ ((AH (FK h1)).trans (AH (FK hf))) z2 (PF _ _))
  .exact Gm DQ (EQ _ _ _) EV (EC _ _) (meets_str_split_not_found z y t u h1 hy hf) (one [z] [.str z t] s.toks ((AH (FK h1)).trans (AA hf)) self1 (.cons ⟨_,rfl⟩ .nil))
 .exact Gm DQ (EQ _ _ _) EV (EC _ _) (meets_str_split_cannot_occur z y t u h1) (one [z] [.str z t] s.toks (AA h1) self1 (.cons ⟨_,rfl⟩ .nil))
theorem PM{K:Fg}{H:Hp}{A:Ak->Prop}:∀ l:Ac Ag,Reps K CL H A (l.map V.str) (l.map D.str)
 |[]=>trivial
 |_::r=>⟨rfl,PM r⟩
theorem Yp{o:Am}{y:Ag}{fo:Rho->R D}(ho:ST X CL W o fo)(hbase:CS o "split" X.env (eval o X.env)=eval o X.env)(hline:(apos.endLine==cpos.line)=Ab):SC X CL W Ab (.Call (.Attribute o "split" apos) [.Constant (.str y) k p] [] cpos) (λU=>(fo U).bind λx=>biD .ssplit [x,.str y]):=λA=>
 PE.weak (N8 Vv DQ PySem.F.type_str_split XC (ho A) (Dz (Ls (X:=X) (CL:=CL) (W:=W) A) E3 rfl) hbase rfl hline rfl rfl) λY H Q ⟨hA,U,g,q⟩=>⟨hA,U,g,AU.bind q λd v H1 _ s1 r1 p1=>by
  cases d with
  |str z=>
   have e:=r1.str_of;subst e;refine⟨rfl,hA.same s1,U,g.same s1,λv' H2 s2 r2=>?_⟩
   have e2:v'=.str y:=r2;subst e2;have p2:AU (Dj X.K CL Ab H A) W H1 (if (!(y.length==0)&&HG z y)=Ab then .ok (.lst ((DL z y).map D.str)) else .bad) Q:=p1
   split at p2
   .rename_i hk;rw[Al,Bk]at hk;exact⟨z,y,rfl,rfl,hk.1,hk.2,λa ha=>p2 _ _ (s2.trans (Eo ha _)) (IM (s1.trans s2) ((hA.same s1).same s2) ha (PM _))⟩
   .exact p2.elim
  | _=>exact p1.elim⟩
theorem gY:HA X CL W (.type "str") (biD .str):=by
  intro A pI s Y H xs us Q I r ⟨hA,ds,rs,p⟩
  match ds,rs,p with
  |[.int i],rs,p=>
    obtain⟨v,rfl,rv⟩:=rs.one;have e:=rv.int_of;subst e;have p2:AU (λH=>Rep X.K CL H A) W H (if KM i=Ab then .ok (.str (Ay (toString i))) else .bad) Q:=p
    split at p2
    · rename_i hk;have hk':i.natAbs<1000:=AK hk;exact WC pI s Y H _ us Q I r ⟨i,rfl,DK (Gy _) (Nat.lt_trans hk' (by decide)),p2 _ H (Ax.refl H) rfl⟩
    · exact p2.elim
  |[.bl _],_,p=>exact p.elim
  |[],_,p=>exact p.elim
  |[.non],_,p=>exact p.elim
  |[.str _],_,p=>exact p.elim
  |[.tup _],_,p=>exact p.elim
  |[.lst _],_,p=>exact p.elim
  |[.obj _ _],_,p=>exact p.elim
  |[.exc _ _],_,p=>exact p.elim
  |[.dic _],rs,p=>first|exact p.elim|(obtain⟨v,rfl,rv⟩:=rs.one;exact rv.plain.elim)
  |x::_::_,_,p=>cases x<;>exact p.elim
end
structure OCls (K:Fg) (C:Ak):Prop where
 cl:Cls K C
 np:F9 K C "p"
 nt:F9 K C "triple"
 ha:Ar K (.ref C) "__class__" = Aa (Aa (.builtin "object.__class__"))
 hn:BJ K (.builtin "object.__class__") "__get__" = Aa (Aa (.builtin "getset_descriptor.__get__"))
 htk:GV K (.builtin "object.__class__")=Aa Ab
 hm:Fc K C (.type "object")=Aa Ab
theorem PN{K:Fg}{CL:ClA}{H:Hp}{A:Ak->Prop}{f:Ag}:∀{vs:Ac (Ag×V)}{fs:Ac (Ag×D)},Repf K CL H A vs fs->fs.lookup f=Ae->vs.lookup f=Ae
 |[],[],_,_=>rfl
 |v::vs,(n,d)::fs,h,q=>by
  obtain⟨⟨e,_⟩,h2⟩:=h;obtain⟨m,y⟩:=v;have e':m=n:=e;subst e';by_cases z:(f==m)=Ab
  .simp only[BH,z]at q;cases q
  .have z':(f==m)=Ad:=by simpa using z
   simp only[BH,z']at q ⊢;exact PN h2 q
 |[],_::_,h,_=>h.elim
 |_::_,[],h,_=>h.elim
section
variable{CL:ClA}{K:Fg}{H:Hp}{A:Ak->Prop}{x C dx:Ak}{vs:Ac (Ag×V)}{o:HO}
mutual
theorem Rx(hx:H x=Aa (.ins C dx vs)):∀(n:Af)(d:D){v:V},nlD n d=Ab->Rep K CL H A v d->Rep K CL (upd H x o) A v d
 |_,.non,_,_,h=>h
 |_,.bl _,_,_,h=>h
 |_,.int _,_,_,h=>h
 |_,.str _,_,_,h=>h
 |0,.tup _,_,hn,_=>by cases hn
 |n+1,.tup ds,_,hn,h=>by
  obtain⟨a,xs,e,na,s,r⟩:=h;refine⟨a,xs,e,na,?_,nls_ins hx n ds hn r⟩;rcases s with s|s
  .rcases s with s|⟨ob,s⟩
   .exact .inl (.inl (by rw[A6 λz=>by rw[z,hx]at s;cases s];exact s))
   .exact .inl (.inr ⟨ob,by rw[A6 λz=>by rw[z,hx]at s;cases s];exact s⟩)
  .exact .inr s
 |n,.lst _,_,hn,_=>by cases n<;>cases hn
 |n,.obj _ _,_,hn,_=>by cases n<;>cases hn
 |n,.exc _ _,_,hn,_=>by cases n<;>cases hn
 |n,.dic _,_,hn,_=>by cases n<;>cases hn
theorem nls_ins(hx:H x=Aa (.ins C dx vs)):∀(n:Af)(ds:Ac D){us:Ac V},ds.all (nlD n)=Ab->Reps K CL H A us ds->Reps K CL (upd H x o) A us ds
 |_,[],[],_,h=>h
 |n,d::ds,_::_,hn,h=>by
  simp only[Ef,Al]at hn;exact⟨Rx hx n d hn.1 h.1,nls_ins hx n ds hn.2 h.2⟩
 |_,[],_::_,_,h=>h.elim
 |_,_::_,[],_,h=>h.elim
end
theorem NB{v:V}{fs:Ac (Ag×D)}(r:B9 K CL H A v (.obj c fs)):∃ a C dx vs,v=.ref a/\¬ A a/\OC K c=Aa C/\H a=Aa (.ins C dx vs)/\Repf K CL H A vs fs:=by
 rcases r with r|⟨a,xs,ds,_,z,_⟩
 .exact r
 .cases z
end
section
variable{X:Cx}{CL:ClA}{W:XW}{a:Am}{fa:Rho->R D}
theorem bY{f:Ag}(ho:∀ c C,OC X.K c=Aa C->Cls X.K C/\F9 X.K C f)(ha:ST X CL W a fa)(hb:CS a f X.env (eval a X.env)=eval a X.env):SE X CL W (.Attribute a f pos) (λU=>(fa U).bind λx=>ofD x f):=λA=>by
 intro pI s Y H Q I ⟨hA,U,gd,q⟩;refine Rg hb (thn (ha A pI s Y H _ I ⟨hA,U,gd,AU.bind q (Q':=λv H1=>∃ d,B9 X.K CL H1 A v d/\AU (λH2=>Rep X.K CL H2 A) W H1 (ofD d f) Q) λd v H1 _ s1 r1 p1=>⟨d,r1,p1⟩⟩) λu s1 ⟨v,H1,I1,rv,d,rp,p1⟩=>?_)
 cases d with
 |obj c fs=>
  have p2:AU (λH2=>Rep X.K CL H2 A) W H1 (match fs.lookup f with|some d=>.ok d|none=>.bad) Q:=p1
  cases el:fs.lookup f with
  |none=>rw[el]at p2;exact p2.elim
  |some d=>
   rw[el]at p2;obtain⟨e,C,dx,vs,rfl,_,hc,hH,rf⟩:=NB rp;obtain⟨y,l,ry⟩:=M6 rf el;cases rv;obtain⟨k1,k2⟩:=ho c C hc;exact WV I1 hH k1 k2 l λu s' I2 ru=>⟨y,H1,I2,ru,p2 y H1 (Ax.refl H1) ry⟩
 |_=>exact p1.elim
theorem eO(hoc:∀ c C,OC X.K c=Aa C->OCls X.K C)(hg:Gl X "isinstance")(hm:X.mg "isinstance" = Ae)(hg2:Gl X x)(hm2:X.mg x=Aa (.ref C'))(hkit:∀ c C,OC X.K c=Aa C->CY X.K (.ref C) (.ref C')=Aa ((oup c).contains k))(hdb:(x==("__debug__" : Ag))=Ad)(ha:ST X CL W a fa)(he:Aq [a,.Name x p2] X.env=(Ad,eval a X.env)::Aq [.Name x p2] X.env):SE X CL W (.Call (.Name "isinstance" p) [a,.Name x p2] [] pos) (λU=>(fa U).bind λx=>KY k x):=λA=>
 PE.weak (Jp (r:=λxs H Q=>∃ a C dx vs c,xs=[.ref a,.ref C']/\OC X.K c=Aa C/\H a=Aa (.ins C dx vs)/\Q (.bl ((oup c).contains k)) H) (λpI s Y H xs us Q I r ⟨b,C,dx,vs,c,e,hc,hH,q⟩=>by
   subst e;obtain⟨u,w',rfl,r1,r2⟩:=Il r;cases r2;have o:=hoc c C hc;exact Xp I r1 (.ins hH o.cl o.ha o.hn o.htk o.hm) (hkit c C hc) λtk=>⟨.bl _,H,I.tok tk,rfl,q⟩)
  hg hm Ew (Dz (ha A) (Dz (NE (v:=.ref C') hg2 hm2 rfl hdb) E3 rfl) he) (by decide) (by decide) he rfl) λY H Q ⟨hA,U,g,q⟩=>⟨hA,U,g,AU.bind q λd v H1 _ s1 r1 p1=>by
   cases d with
   |obj c fs=>
    obtain⟨b,C,dx,vs,rfl,_,hc,hH,_⟩:=NB r1;exact⟨b,C,dx,vs,c,rfl,hc,hH,p1 _ H1 (Ax.refl H1) rfl⟩
   | _=>exact p1.elim⟩
theorem ZR{m:Ag}{ms:Ac (Af×Af)}{F:Af->Ac D->R D}(hr:Room k X.A)(hx:∀ A,Hy (CXR X.prog X.w) X (EKW X.K CL A W))(ha:ST X CL W a fa)(hms:∀ c id C,ms.lookup c=Aa id->OC X.K c=Aa C->∃ f fd ps fr,Cls X.K C/\Meth X.K C m f/\Eb X.K fd ps []/\FnOk X.prog X.w X.K X.mg X.base (CXR X.prog X.w) k f fd ps (spD X.K CL 1 fr (F id)))(hbase:CS a m X.env (eval a X.env)=eval a X.env)(hline:(apos.endLine==pos.line)=Ab):SE X CL W (.Call (.Attribute a m apos) [] [] pos) (λU=>(fa U).bind λx=>IY F m ms x):=λA=>by
 intro pI s Y H Q I ⟨hA,U,gd,q⟩;rw[arm_eval_Call,hbase];refine Ap (thn (ha A pI s Y H (λv H1=>Ax H H1/\∃ d,B9 X.K CL H1 A v d/\AU (λH2=>Rep X.K CL H2 A) W H1 (IY F m ms d) Q) I ⟨hA,U,gd,AU.bind q λd v H1 _ s1 r1 p1=>⟨s1,d,r1,p1⟩⟩) λu s1 ⟨v,H1,I1,rv,s1',d,rp,p1⟩=>?_)
 refine Ap (DI ?_);have hform:Wg (([]:Ac Am).length+([]:Ac DY).length) (Br pos (Aq [] X.env)) (Hl pos (FY [] X.env))=Ab:=rfl;have hpos:F7 Ab a X.env apos pos=pure pos:=by
  unfold F7;simp[hline]
 unfold methodCall;rw[hform];cases d with
 |obj c fs=>
  have p2:AU (λH2=>Rep X.K CL H2 A) W H1 (match ms.lookup c with|some id=>if (fs.lookup m).isNone=Ab then F id [.obj c fs] else .bad|none=>.bad) Q:=p1
  cases el:ms.lookup c with
  |none=>rw[el]at p2;exact p2.elim
  |some id=>
   rw[el]at p2;dsimp only at p2;split at p2
   .rename_i hn;obtain⟨e,C,dx,vs,rfl,na,hc,hH,rf⟩:=NB rp;obtain⟨f,fd,ps,fr,cl,me,hb,G⟩:=hms c id C el hc;cases rv;refine Ap (Ej (WU I1 hH cl me (PN rf (Dl.mp hn)) ?_));refine Ap (GY hpos ?_);refine PySem.W.callWith_K0 (first:=[.ref e]) I1.kIn me.kp (RV (us:=[.ref e]) (vs:=[.ref e]) G hr hb .nil (hx A) I1 (.cons rfl .nil) ?_)
    refine⟨[.obj c fs],A,rfl,hA.same s1',⟨⟨e,C,dx,vs,rfl,na,hc,hH,rf⟩,trivial⟩,?_⟩;cases e2:F id [.obj c fs] with
    |ok d=>rw[e2]at p2;exact λv H2 s2 r2=>p2 v H2 s2 r2.1
    |exn y=>rw[e2]at p2;exact λcls dx H2 s2 xr=>⟨y,xr,p2 H2 s2⟩
    |bad=>rw[e2]at p2;exact p2.elim
   .exact p2.elim
 |_=>exact p1.elim
def spI(K:Fg)(CL:ClA)(G:Ac D->R D):Sp:=λvs H Q _=>∃(x C dx:Ak)(us:Ac V)(ds:Ac D)(A:Ak->Prop)(H0:Hp),vs=.ref x::us/\us.length=2/\Cls K C/\F9 K C "p"/\F9 K C "triple"/\H x=Aa (.ins C dx [])/\H0 x=Ae/\Ax H0 H/\AOk H0 A/\Reps K CL H0 A us ds/\(match G ds with
  |.ok d=>∀ d1 d2,d=.tup [d1,d2]->∀ v1 v2 H',Ax H0 H'->H' x=Aa (.ins C dx [("p",v1),("triple",v2)])->Rep K CL H' A v1 d1->Rep K CL H' A v2 d2->Q .non H'
  | _=>AV)
theorem Zw{Q:VK}(p:AU Rp W H (D4 c d) Q):∃ d1 d2,d=.tup [d1,d2]/\D4 c d=.ok (.obj c [("p",d1),("triple",d2)]):=by
  cases d with
  |tup ds=>
    match ds,p with
    |[],p=>exact p.elim
    |[_],p=>exact p.elim
    |_::_::_::_,p=>exact p.elim
    |[a,b],p=>
      refine⟨a,b,rfl,?_⟩;have p2:AU Rp W H (if nlD 5 b=Ab then .ok (.obj c [("p",a),("triple",b)]) else .bad) Q:=p
      show (if nlD 5 b=Ab then R.ok (D.obj c [("p",a),("triple",b)]) else .bad)=_
      split at p2
      · rename_i z;rw[AA z]
      · exact p2.elim
  |_=>exact p.elim
theorem ZS{C f:Ak}{np pos:Az}{e:Am}{es:Ac Am}{fs:Rho->R (Ac D)}{G F:Ac D->R D}(M:Mk X.K C f)(hoc:OC X.K c=Aa C)(o:OCls X.K C)(FI:FnOk X.prog X.w X.K X.mg X.base (CXR X.prog X.w) k f fd ["self", "p", "numbers"] (spI X.K CL G))(hr:Room (k+1) X.A)(hb:Eb X.K fd ["self", "p", "numbers"] [])(hx:∀ A,Hy (CXR X.prog X.w) X (EKW X.K CL A W))(hF:∀ ds,ds.length=2->F ds=.bad\/F ds=(G ds).bind (D4 c))(hG:∀ ds y,G ds≠.exn y)(hg:Gl X g)(hm:X.mg g=Aa (.ref C))(hdb:(g==("__debug__" : Ag))=Ad)(ha:SA X CL W (e::es) fs)(hn:∀ U ds,fs U=.ok ds->ds.length=2)(he:Aq (e::es) X.env=(Ad,eval e X.env)::Aq es X.env)(hpl:(Br pos (Aq es X.env)).any (·.1)=Ad):SE X CL W (.Call (.Name g np) (e::es) [] pos) (λU=>(noX (fs U)).bind λds=>F ds):=λA=>by
 intro pI s Y H Q I ⟨hA,U,gd,p⟩;dsimp only at p;refine CF (G1 I hg hm ?_ hdb);have q1:=ha A pos pI s Y H (λvs H1=>∃ ds,Ax H H1/\ds.length=2/\Reps X.K CL H1 A vs ds/\AU (λH=>Rep X.K CL H A) W H (F ds) Q) I ⟨hA,U,gd,by
  cases e1:fs U with
  |bad=>rw[e1]at p;exact p
  |exn y=>rw[e1]at p;exact p.elim
  | ok ds=>rw[e1]at p;exact λvs H1 s1 r1=>⟨ds,s1,hn U ds e1,r1,p⟩⟩
 refine DM (h₀:=X.base) I.ok.mod.kin M.kp (thn q1 λus s1 ⟨vs,H1,I1,r,ds,sm,hl,rps,q⟩=>⟨I1.kIn,?_⟩) he hpl
 rcases hF ds hl with z|z
 .rw[z]at q;exact q.elim
 .rw[z]at q;cases e2:G ds with
  |bad=>rw[e2]at q;exact q.elim
  |exn y=>exact absurd e2 (hG ds y)
  |ok d=>
   rw[e2]at q;have q':AU (λH=>Rep X.K CL H A) W H (D4 c d) Q:=q
   obtain⟨d1,d2,rfl,em⟩:=Zw q';rw[em]at q';refine Yu (Q:=Q) (E:=EKW X.K CL A W) M FI hr hb .nil (hx A) I1 r λx dx nx ndx ne=>?_
   refine⟨x,C,dx,vs,ds,A,H1,by rw[Ch],by rw[rps.length];exact hl,o.cl,o.np,o.nt,Dh,nx,λb ob h=>?_,hA.same sm,rps,?_⟩
   .have n1:b≠x:=λz=>by rw[z,nx]at h;cases h
    have n2:b≠dx:=λz=>by rw[z,ndx]at h;cases h
    rw[A6 n1,A6 n2];exact h
   .rw[e2];exact λe1 e3 ee v1 v2 H' sm2 hx' r1 r2=>by
     cases ee;exact⟨rfl,q' _ H' (sm.trans sm2) ⟨x,C,dx,_,rfl,(hA.same sm).new nx,hoc,hx',⟨⟨rfl,r1⟩,⟨rfl,r2⟩,trivial⟩⟩⟩
theorem Xs{p0 p4 p5 p6:Az}{id:Af}{t0:Cx}{H0:Hp}{x dx:Ak}{v1 v2:V}{Q:VK}(pself:∀ p,PE X (.Name "self" p) (Ec 0))(pp:∀ p,PE X (.Name "p" p) (Ec 1))(hv:SE X CL W ev (λU=>evE Z U (.call id (.cons (.var 1) (.cons (.var 2) .nil)))))(hs:Cp ev (Aa (.Attribute (.Name "self" p3) "triple" p4)) p5.line X.env=pure Ad):
    ∃ t,PSs X [.Assign [.Attribute (.Name "self" p0) "p" p1] (.Name "p" p2) p6,.Assign [.Attribute (.Name "self" p3) "triple" p4] ev p5] t /\
      (Y=[Aa (.ref x),Aa v1,Aa v2]->Cls X.K C->F9 X.K C "p"->F9 X.K C "triple"->H x=Aa (.ins C dx [])->H0 x=Ae->Ax H0 H->AOk H0 A->Rep X.K CL H0 A v1 d1->Rep X.K CL H0 A v2 d2 ->
        (∃ t,Z.F id [d1,d2]=.ok t/\nlD 5 t=Ab/\∀ w1 w2 H',Ax H0 H'->H' x=Aa (.ins C dx [("p",w1),("triple",w2)])->Rep X.K CL H' A w1 d1->Rep X.K CL H' A w2 t->Q .non H')->t {nx:=λ_ H'=>Q .non H',rt:=Q} Y H):=by
  have all:=M7 (RX (X:=X) (f := "p") (pos:=p6) (pos':=p1) (pself p0) (pp p2) rfl) (Jx (RX (X:=X) (f := "triple") (pos:=p5) (pos':=p4) (pself p3) (hv A) hs));refine⟨_,all,?_⟩;rintro rfl cl np nt hx h0 sm hA r1 r2 ⟨t,ef,hnl,q⟩;have nx:∀ b o,H0 b=Aa o->b≠x:=λb o e z=>by rw[z,h0]at e;cases e
  have sm2:Ax H0 (upd H x (.ins C dx (Er "p" v1 []))):=λb o e=>by rw[A6 (nx b o e)];exact sm b o e
  refine⟨v1,rfl,.ref x,rfl,x,C,dx,[],rfl,hx,cl,np,by decide,hA.same sm2,[Ae,Aa (d1,Ad),Aa (d2,Ad)],⟨λi d h=>?_,λi d h=>?_,rfl⟩,?_⟩
  · match i,h with
    |0,h=>cases h
    |1,h=>cases h;exact⟨v1,rfl,Rep.same sm2 r1⟩
    |2,h=>cases h;exact⟨v2,rfl,Rep.same sm2 r2⟩
    |n+3,h=>cases h
  · match i,h with
    |0,h=>cases h
    |1,h=>cases h
    |2,h=>cases h
    |n+3,h=>cases h
  · have ee:evE Z [Ae,Aa (d1,Ad),Aa (d2,Ad)] (.call id (.cons (.var 1) (.cons (.var 2) .nil)))=.ok t:=by
      show ((Z.F id [d1,d2]).bind λd=>.ok d)=_
      rw[ef];rfl
    dsimp only;rw[ee];intro w2 H3 s3 r3;have hx3:H3 x=Aa (.ins C dx [("p",v1)]):=s3 _ _ Dh;refine⟨.ref x,rfl,x,C,dx,[("p",v1)],rfl,hx3,cl,nt,show 1<1000 by decide,?_⟩
    have sm4:Ax H0 (upd H3 x (.ins C dx (Er "triple" w2 [("p",v1)]))):=λb o e=>by rw[A6 (nx b o e)];exact s3 _ _ (sm2 b o e)
    exact q v1 w2 _ sm4 Dh (Rep.same sm4 r1) (Rx hx3 5 t hnl r3)
end
theorem NP{i:Af}(h:EK U i=Ab):U[i]?=Aa (Aa (.non,Ab)):=by
 unfold EK at h;split at h
 .rename_i e;exact e
 .cases h
theorem G2{i:Af}(hi:U[i]?=Aa (Aa (d,Ab)))(j:Af)(e:D):(U.set i (Aa (d',Ab)))[j]?=Aa (Aa (e,Ab))↔(i=j/\e=d')\/(i≠j/\U[j]?=Aa (Aa (e,Ab))):=by
 have hil:=(AY.mp hi).1;by_cases hj:i=j
 .subst hj;rw[Ca hil];simp;exact⟨λz=>z.symm,λz=>z.symm⟩
 .rw[By hj];simp[hj]
theorem Hs{i:Af}(hi:U[i]?=Aa (Aa (d,Ab)))(b:Ak):Bc B (U.set i (Aa (d',Ab))) Y b↔Bc B U Y b:=by
 constructor
 .rintro (h|⟨j,e,h1,h2⟩)
  .exact .inl h
  .rcases (G2 hi j e).mp h1 with ⟨rfl,_⟩|⟨_,h1⟩
   .exact .inr ⟨i,d,hi,h2⟩
   .exact .inr ⟨j,e,h1,h2⟩
 .rintro (h|⟨j,e,h1,h2⟩)
  .exact .inl h
  .by_cases hj:i=j
   .subst hj;exact .inr ⟨i,d',(G2 hi i _).mpr (.inl ⟨rfl,rfl⟩),h2⟩
   .exact .inr ⟨j,e,(G2 hi j e).mpr (.inr ⟨hj,h1⟩),h2⟩
section
variable{K:Fg}{CL:ClA}{Fz Fy:Fr}{B:Ak->Prop}{U:Rho}{Y:L2.St}{H:Hp}{W:XW}
theorem Sx.dis2(x:Sx K CL Fz B U Y H){i:Af}(hi:U[i]?=Aa (Aa (d,Ab)))(j k:Af)(e f:D)(b:Ak)(g1:(U.set i (Aa (d',Ab)))[j]?=Aa (Aa (e,Ab)))(g2:(U.set i (Aa (d',Ab)))[k]?=Aa (Aa (f,Ab)))(g3:Y[j]?=Aa (Aa (.ref b)))(g4:Y[k]?=Aa (Aa (.ref b))):j=k:=by
 rcases (G2 hi j e).mp g1 with ⟨rfl,_⟩|⟨hj,h'⟩
 .rcases (G2 hi k f).mp g2 with ⟨rfl,_⟩|⟨hk,h''⟩
  .rfl
  .exact x.dis i k d f b hi h'' g3 g4
 .rcases (G2 hi k f).mp g2 with ⟨rfl,_⟩|⟨hk,h''⟩
  .exact x.dis j i e d b h' hi g3 g4
  .exact x.dis j k e f b h' h'' g3 g4
theorem Sx.new2(x:Sx K CL Fz B U Y H){i:Af}(hi:U[i]?=Aa (Aa (d,Ab)))(j:Af)(e:D)(b:Ak)(g1:(U.set i (Aa (d',Ab)))[j]?=Aa (Aa (e,Ab)))(g2:Y[j]?=Aa (Aa (.ref b))):((∀ o,¬ Fz b o)/\¬ B b)/\∃(j:Af)(d:D),U[j]?=Aa (Aa (d,Ab))/\Y[j]?=Aa (Aa (.ref b)):=by
 rcases (G2 hi j e).mp g1 with ⟨rfl,_⟩|⟨_,h'⟩
 .exact⟨x.new i d b hi g2,i,d,hi,g2⟩
 .exact⟨x.new j e b h' g2,j,e,h',g2⟩
theorem Sx.sh2(x:Sx K CL Fz B U Y H){i:Af}(hi:U[i]?=Aa (Aa (d,Ab)))(j:Af)(e:D)(h:(U.set i (Aa (d',Ab)))[j]?=Aa (Aa (e,Ad))):∃ v,Y[j]?=Aa (Aa v)/\Rep K CL H (Bc B (U.set i (Aa (d',Ab))) Y) v e:=by
 have hj:i≠j:=by
  rintro rfl;have:=FA h;cases this
 rw[By hj]at h;obtain⟨v,q,r⟩:=x.good.sh j e h;exact⟨v,q,Rep.sub (λb hb=>(Hs hi b).mp hb) _ r⟩
theorem Sx.pinned(x:Sx K CL Fz B U Y H){i:Af}{ds:Ac D}{a:Ak}{xs:Ac V}(hi:U[i]?=Aa (Aa (.lst ds,Ab)))(ha:Y[i]?=Aa (Aa (.ref a)))(hh:H a=Aa (.lst xs)):Sx K CL ⟨λb o=>H b=Aa o/\¬ ∃(j:Af)(d:D),U[j]?=Aa (Aa (d,Ab))/\Y[j]?=Aa (Aa (.ref b)),λj b ys=>(j=i/\b=a/\ys=xs)\/(j≠i/\Fz.pin j b ys)⟩ B (U.set i (Aa (.non,Ab))) Y H:=by
 refine⟨⟨x.sh2 hi,λj e h hn=>?_,by rw[AS];exact x.len⟩,λb h=>x.aok b ((Hs hi b).mp h),λj e b g1 g2=>⟨λo z=>z.2 (x.new2 hi j e b g1 g2).2,(x.new2 hi j e b g1 g2).1.2⟩,x.dis2 hi,λb o z=>z.1,by rw[AS];exact x.len,λj h=>?_⟩
 .rcases (G2 hi j e).mp h with ⟨_,rfl⟩|⟨hj,h'⟩
  .exact absurd rfl hn
  .obtain⟨b,ys,es,q,z,hb,h2,rr⟩:=x.good.ow j e h' hn;exact⟨b,ys,es,q,z,(Hs hi b).mpr hb,h2,Reps.sub (λb hb=>(Hs hi b).mp hb) _ rr⟩
 .by_cases hj:i=j
  .exact⟨a,xs,.inl ⟨hj.symm,rfl,rfl⟩,hj ▸ ha,hh⟩
  .rw[By hj]at h;obtain⟨b,ys,p1,p2⟩:=x.pin j h;exact⟨b,ys,.inr ⟨CV hj,p1⟩,p2⟩
theorem Sx.unpinned(x:Sx K CL Fy B U Y H){i:Af}{ds:Ac D}{a:Ak}{xs:Ac V}(hi:U[i]?=Aa (Aa (.non,Ab)))(hf:∀ b o,Fz b o->Fy b o)(hpn:∀ j b ys,Fy.pin j b ys->(j=i/\b=a/\ys=xs)\/(j≠i/\Fz.pin j b ys))(r:Reps K CL H (Bc B U Y) xs ds):Sx K CL Fz B (U.set i (Aa (.lst ds,Ab))) Y H:=by
 refine⟨⟨x.sh2 hi,λj e h hn=>?_,by rw[AS];exact x.len⟩,λb h=>x.aok b ((Hs hi b).mp h),λj e b g1 g2=>⟨λo z=>(x.new2 hi j e b g1 g2).1.1 o (hf b o z),(x.new2 hi j e b g1 g2).1.2⟩,x.dis2 hi,λb o z=>x.same b o (hf b o z),by rw[AS];exact x.len,λj h=>?_⟩
 .rcases (G2 hi j e).mp h with ⟨rfl,rfl⟩|⟨hj,h'⟩
  .obtain⟨b,ys,p1,p2,p3⟩:=x.pin i hi;rcases hpn i b ys p1 with ⟨_,rfl,rfl⟩|⟨z,_⟩
   .exact⟨b,ys,ds,p2,rfl,(Hs hi b).mpr (.inr ⟨i,.non,hi,p2⟩),p3,Reps.sub (λb hb=>(Hs hi b).mp hb) _ r⟩
   .exact absurd rfl z
  .obtain⟨b,ys,es,q,z,hb,h2,rr⟩:=x.good.ow j e h' hn;exact⟨b,ys,es,q,z,(Hs hi b).mpr hb,h2,Reps.sub (λb hb=>(Hs hi b).mp hb) _ rr⟩
 .rcases (G2 hi j _).mp h with ⟨_,z⟩|⟨hj,h'⟩
  .cases z
  .obtain⟨b,ys,p1,p2⟩:=x.pin j h';rcases hpn j b ys p1 with ⟨z,_⟩|⟨_,z⟩
   .exact absurd z.symm hj
   .exact⟨b,ys,z,p2⟩
theorem Bj.turnO{i:Af}{ds:Ac D}{o:O}{g:Rho->O}{D':Ends}{N:L2.St->Hp->Prop}(hf:∀ b q,Fz b q->Fy b q)(hu:∀ U' Y' H',Sx K CL Fy B U' Y' H'->EK U' i=Ab->Sx K CL Fz B (U'.set i (Aa (.lst ds,Ab))) Y' H')(h:Bj K CL Fz B W (Hz i ds (o.turn g)) D')(k:∀ U' Y' H',Sx K CL Fy B U' Y' H'->Bj K CL Fz B W (Hz i ds (g U')) D'->N Y' H'):Bj K CL Fy B W o {D' with nx:=N,ct:=N,bk:=D'.nx}:=by
 cases o with
 |next U'=>exact λY' H' x=>k U' Y' H' x h
 |cont U'=>exact λY' H' x=>k U' Y' H' x h
 |brk U'=>
  have h':Bj K CL Fz B W (if EK U' i=Ab then .next (U'.set i (Aa (.lst ds,Ab))) else .bad) D':=h
  by_cases hp:EK U' i=Ab
  .rw[AA hp]at h';exact λY' H' x=>h' Y' H' (hu U' Y' H' x hp)
  .rw[AH hp]at h';exact h'.elim
 |ret d b=>exact λv H' s r n=>h v H' (λb o z=>s b o (hf b o z)) r λz ds e=>let ⟨a,xs,h1,h2,h3⟩:=n z ds e;⟨a,xs,h1,λo q=>h2 o (hf a o q),h3⟩
 |exn y U'=>exact h.elim
 |bad=>exact h
end
section
variable{X:Cx}{CL:ClA}{W:XW}
theorem YU{i:Af}{es:Ac Am}{n:Af}{tpos:Az}{a:Am}{fbd:Rho->O}{as:D->Rho->R Rho}{g:TG}(hp:Dt (model X.prog X.w) X.A X.env X.xe)(hc:X.calm=Ab)(hGT:GT X.K CL as g)(hg:PG X (.Tuple es n tpos) g)(ha:PE X a (Ec i))(hgl:Gl X "enumerate")(hm:X.mg "enumerate" = Ae)(hst:Aq [a] X.env=[(Ad,eval a X.env)])(hb:SSs X CL W body fbd)(hs:∀ x,Cc (.Call (.Name "enumerate" p1) [a] [] cpos) X.env x=pure x)(hax:∀ d U x,as d U≠.exn x):
  SS X CL W (.For (.Tuple es n tpos) (.Call (.Name "enumerate" p1) [a] [] cpos) body [] pos) (λU=>O.of U (C5 U i) λxs=>Hz i xs (Ci (λx U'=>if EK U' i=Ab then O.of U' (as x U') fbd else .bad) (Cm 0 xs) (U.set i (Aa (.non,Ab))))):=λFz B pI s Y H D I ⟨U,x,p⟩=>by
 dsimp only at p;cases e:C5 U i with
 |bad=>rw[e]at p;exact p.elim
 |exn y=>exact(P1 e).elim
 |ok ds=>
  rw[e,O.of_ok]at p;have hi:=QA e;obtain⟨a',xs,ds',qa,e2,oa,hh,r⟩:=x.good.ow i _ hi (λz=>nomatch z)
  have ez:ds=ds':=by injection e2
  subst ez;refine RW hp hc (QK hgl hm (Dz ha E3 hst) hst) hg (tb:=λD Y H=>∃ Fy,(λD Y H=>∃ U,Sx X.K CL Fy B U Y H/\Bj X.K CL Fy B W (fbd U) D) D Y H) (λpI s Y H D I ⟨Fy,q⟩=>hb Fy B pI s Y H D I q) hs pI s Y H D I ?_
  refine⟨.ref a',qa,Ad,a',xs,rfl,SqL.of hh,λhz=>?_⟩
  generalize hbd:(fun(x:Ov.D)(U':Rho)=>if EK U' i=Ab then O.of U' (as x U') fbd else .bad)=bd at p
  let Fy:Fr:=⟨λb o=>H b=Aa o/\¬ ∃(j:Af)(d:Ov.D),U[j]?=Aa (Aa (d,Ab))/\Y[j]?=Aa (Aa (.ref b)),λj b ys=>(j=i/\b=a'/\ys=xs)\/(j≠i/\Fz.pin j b ys)⟩
  have hfy:∀ b o,Fz b o->Fy b o:=λb o z=>⟨x.same b o z,λ⟨j,d,h1,h2⟩=>(x.new j d b h1 h2).1 o z⟩
  have xy:Sx X.K CL Fy B (U.set i (Aa (.non,Ab))) Y H:=x.pinned hi qa hh;have wd:∀{U':Rho}{Y':L2.St}{H':Hp},Sx X.K CL Fy B U' Y' H'->∀ b,Bc B U' Y' b->Bc B U Y b\/H b=Ae:=λ{U' Y' H'} x' b hb'=>by
   rcases hb' with h|⟨j,d,h1,h2⟩
   .exact .inl (.inl h)
   .cases e:H b with
    |none=>exact .inr rfl
    |some o=>
     by_cases ho:∃(j:Af)(d:Ov.D),U[j]?=Aa (Aa (d,Ab))/\Y[j]?=Aa (Aa (.ref b))
     .exact .inl (.inr ho)
     .exact absurd ⟨e,ho⟩ ((x'.new j d b h1 h2).1 o)
  have kpx:∀{U':Rho}{Y':L2.St}{H':Hp},Sx X.K CL Fy B U' Y' H'->Kp (Bc B U Y) H H':=λ{U' Y' H'} x' b o e na=>x'.same b o ⟨e,λz=>na (.inr z)⟩
  have later:∀{U':Rho}{Y':L2.St}{H':Hp},Sx X.K CL Fy B U' Y' H'->Reps X.K CL H' (Bc B U' Y') xs ds:=λ{U' Y' H'} x'=>by
   have r1:Reps X.K CL H (λb=>Bc B U Y b\/Bc B U' Y' b) xs ds:=Reps.wide (λb hb'=>hb'.elim .inl (wd x' b)) _ r
   have r2:Reps X.K CL H' (λb=>Bc B U Y b\/Bc B U' Y' b) xs ds:=Reps.kp (λb o e na=>kpx x' b o e λz=>na (.inl z)) _ r1
   exact Reps.sub (λb hb'=>.inr hb') _ r2
  have hu:∀ U' Y' H',Sx X.K CL Fy B U' Y' H'->EK U' i=Ab->Sx X.K CL Fz B (U'.set i (Aa (.lst ds,Ab))) Y' H':=λU' Y' H' x' hp'=>x'.unpinned (NP hp') hfy (λj b ys z=>z) (later x')
  refine⟨λk m Y' H'=>m=ds.length-k/\k<=ds.length/\∃ U',Sx X.K CL Fy B U' Y' H'/\Bj X.K CL Fz B W (Hz i ds (Ci bd ((Cm 0 ds).drop k) U')) D,⟨ds.length,by simp,DP _,_,xy,p⟩,?_⟩
  rintro k m Y' H' ⟨rfl,hk,U',x',q'⟩;have hle:(Cm 0 ds).length=ds.length:=Le _ _;by_cases hlt:k<ds.length
  .have hlt':k<(Cm 0 ds).length:=by rw[hle];exact hlt
   rw[Eu hlt']at q';have q2:Bj X.K CL Fz B W (Hz i ds ((bd (Cm 0 ds)[k] U').turn (Ci bd ((Cm 0 ds).drop (k+1))))) D:=q';have hd:(Cm 0 ds)[k]?=Aa (Cm 0 ds)[k]:=BF hlt';obtain⟨y,hy,ed⟩:=Nk _ _ _ _ hd;by_cases hpin:EK U' i=Ab
   .have hpin':=NP hpin;obtain⟨b,ys,p1',p2',p3'⟩:=x'.pin i hpin';have hab:b=a'/\ys=xs:=by
     rcases p1' with ⟨_,h1,h2⟩|⟨z,_⟩
     .exact⟨h1,h2⟩
     .exact absurd rfl z
    obtain⟨rfl,rfl⟩:=hab;have sq:SqX Ad X.K H' b ys:=SqL.of p3';obtain⟨u,hu1,ru⟩:=(later x').get hy;refine .inr ⟨⟨ys,u,sq,hu1⟩,λY'' H''=>∃ U'',Sx X.K CL Fy B U'' Y'' H''/\Bj X.K CL Fz B W (Hz i ds (Ci bd ((Cm 0 ds).drop (k+1)) U'')) D,λY'' H'' z=>⟨ds.length-(k+1),by omega,rfl,hlt,z⟩,?_⟩
    rintro w' H2 ⟨pp,x2,hpp,rfl,c1,rfl⟩;have ex:x2=u:=Bf ((c1 ys sq).symm.trans hu1);subst ex;have sm:Ax H' (L2.upd H' pp (.tup [.int k,x2])):=Eo hpp _;have rv:Rep X.K CL (L2.upd H' pp (.tup [.int k,x2])) (Bc B U' Y') (.ref pp) (Cm 0 ds)[k]:=by
     rw[ed,Um];exact Jy x'.aok hpp ⟨rfl,ru,trivial⟩
    have eb:bd (Cm 0 ds)[k] U'=O.of U' (as (Cm 0 ds)[k] U') fbd:=by rw[<-hbd];exact AA hpin
    rw[eb]at q2;cases ea:as (Cm 0 ds)[k] U' with
    |bad=>rw[ea]at q2;exact q2.elim
    |exn z=>exact absurd ea (hax _ _ z)
    |ok U2=>
     rw[ea,O.of_ok]at q2;exact hGT Fy B U' Y' _ _ _ U2 _ (x'.grow sm) rv ea λY3 x3=>⟨Fy,U2,x3,Bj.turnO hfy hu q2 λU3 Y3 H3 x3 q3=>⟨U3,x3,q3⟩⟩
   .have eb:bd (Cm 0 ds)[k] U'=.bad:=by rw[<-hbd];exact AH hpin
    rw[eb]at q2;exact q2.elim
  .have hk':(Cm 0 ds).length<=k:=by omega
   rw[E8 hk']at q';have q2:Bj X.K CL Fz B W (if EK U' i=Ab then .next (U'.set i (Aa (.lst ds,Ab))) else .bad) D:=q'
   by_cases hpin:EK U' i=Ab
   .rw[AA hpin]at q2;obtain⟨b,ys,p1',p2',p3'⟩:=x'.pin i (NP hpin);have hab:b=a'/\ys=xs:=by
     rcases p1' with ⟨_,h1,h2⟩|⟨z,_⟩
     .exact⟨h1,h2⟩
     .exact absurd rfl z
    obtain⟨rfl,rfl⟩:=hab;exact .inl ⟨⟨ys,SqL.of p3',by rw[(later x').length];omega⟩,q2 Y' H' (hu U' Y' H' x' hpin)⟩
   .rw[AH hpin]at q2;exact q2.elim
end
theorem noF{P:Prop}(h:Ad=Ab):P:=nomatch h
structure Tc where
 sc:BL
 N:Ac Ag
 /-- a def's name,its number,how many parameters it has -/
 fns:Ac (Ag×Af×Af)
 /-- built-in names that the text does not hide -/
 bl:Ac Ag
 /-- exceptions' classes by their names: those that are raised,all that are asked for -/
 rzs:Ac (Ag×Af)
 exs:Ac (Ag×Af)
 /-- the text's constants -/
 gls:Ac (Ag×Af)
 /-- in no comprehension -/
 tp:Ai
noncomputable def OK(T:Tc)(x:Ag):Ai:=match T.sc.names.lookup x with
  |some .local=>Ab
  |some .cell=>Ab
  |some .free=>Ab
  |_=>Ad
noncomputable def HF(T:Tc)(x:Ag):Ai:=match T.sc.names.lookup x with
  |some .local=>Ab
  |some .cell=>Ab
  |_=>Ad
noncomputable def glB(T:Tc)(x:Ag):Ai:=T.sc.names.lookup x==Aa .globalImplicit
noncomputable def EL(x:Ag):Ai:=(!(x==("__debug__" : Ag)) && !(x==("__classdict__" : Ag)) && !(x==("__name__" : Ag)))&&(FU.lookup x).isNone
noncomputable def isV(T:Tc)(x:Ag)(i:Af):Ai:=T.N[i]? == Aa x&&OK T x&&EL x
noncomputable def isB(T:Tc)(x:Ag):Ai:=T.bl.contains x&&glB T x&&EL x
theorem Bh{a b:Ai}(h:(a&&b)=Ab):a=Ab/\b=Ab:=(Al a b).mp h
theorem orT{a b:Ai}(h:(a||b)=Ab):a=Ab\/b=Ab:=(BN a b).mp h
noncomputable def En(e:Am)(F:Ag->Ai):Ai:=if c:e.ctorIdx=23 then Vg (motive_1:=λ_=>Ai) e c λx _=>F x else Ad
theorem EE{e:Am}{F:Ag->Ai}(h:En e F=Ab):∃ x p,e=Vf x p/\F x=Ab:=by
 by_cases c:e.ctorIdx=23
 .exact Vg (motive_1:=λe=>En e F=Ab->∃ x p,e=Vf x p/\F x=Ab) e c (λx p h=>⟨x,p,rfl,h⟩) h
 .exact noF ((Bx c).symm.trans h)
noncomputable def Ga(e:Am)(F:Const->Ai):Ai:=if c:e.ctorIdx=19 then Va (motive_1:=λ_=>Ai) e c λc _ _=>F c else Ad
theorem Ie{e:Am}{F:Const->Ai}(h:Ga e F=Ab):∃ c u p,e=U_9 c u p/\F c=Ab:=by
 by_cases c:e.ctorIdx=19
 .exact Va (motive_1:=λe=>Ga e F=Ab->∃ c u p,e=U_9 c u p/\F c=Ab) e c (λc u p h=>⟨c,u,p,rfl,h⟩) h
 .exact noF ((Bx c).symm.trans h)
noncomputable def LN(e:Am)(F:Am->ED->Am->Ai):Ai:=if c:e.ctorIdx=2 then U_2 (motive_1:=λ_=>Ai) e c λx o y _=>F x o y else Ad
theorem Qk{e:Am}{F:Am->ED->Am->Ai}(h:LN e F=Ab):∃ x o y p,e=U_1 x o y p/\F x o y=Ab:=by
 by_cases c:e.ctorIdx=2
 .exact U_2 (motive_1:=λe=>LN e F=Ab->∃ x o y p,e=U_1 x o y p/\F x o y=Ab) e c (λx o y p h=>⟨x,o,y,p,rfl,h⟩) h
 .exact noF ((Bx c).symm.trans h)
noncomputable def Jd(e:Am)(F:IA->Am->Ai):Ai:=if c:e.ctorIdx=3 then Vo (motive_1:=λ_=>Ai) e c λo x _=>F o x else Ad
theorem Ln{e:Am}{F:IA->Am->Ai}(h:Jd e F=Ab):∃ o x p,e=Vn o x p/\F o x=Ab:=by
 by_cases c:e.ctorIdx=3
 .exact Vo (motive_1:=λe=>Jd e F=Ab->∃ o x p,e=Vn o x p/\F o x=Ab) e c (λo x p h=>⟨o,x,p,rfl,h⟩) h
 .exact noF ((Bx c).symm.trans h)
noncomputable def Ip(e:Am)(F:BoolOp->Ac Am->Az->Ai):Ai:=if c:e.ctorIdx=0 then U_4 (motive_1:=λ_=>Ai) e c λo xs p=>F o xs p else Ad
theorem Kh{e:Am}{F:BoolOp->Ac Am->Az->Ai}(h:Ip e F=Ab):∃ o xs p,e=U_3 o xs p/\F o xs p=Ab:=by
 by_cases c:e.ctorIdx=0
 .exact U_4 (motive_1:=λe=>Ip e F=Ab->∃ o xs p,e=U_3 o xs p/\F o xs p=Ab) e c (λo xs p h=>⟨o,xs,p,rfl,h⟩) h
 .exact noF ((Bx c).symm.trans h)
noncomputable def KB(e:Am)(F:Am->Ac CJ->Ac Am->Ai):Ai:=if c:e.ctorIdx=15 then U_8 (motive_1:=λ_=>Ai) e c λx os ys _=>F x os ys else Ad
theorem Qi{e:Am}{F:Am->Ac CJ->Ac Am->Ai}(h:KB e F=Ab):∃ x os ys p,e=U_7 x os ys p/\F x os ys=Ab:=by
 by_cases c:e.ctorIdx=15
 .exact U_8 (motive_1:=λe=>KB e F=Ab->∃ x os ys p,e=U_7 x os ys p/\F x os ys=Ab) e c (λx os ys p h=>⟨x,os,ys,p,rfl,h⟩) h
 .exact noF ((Bx c).symm.trans h)
noncomputable def HB(e:Am)(F:Am->Ac Am->Ac DY->Az->Ai):Ai:=if c:e.ctorIdx=16 then U_6 (motive_1:=λ_=>Ai) e c λf as ks p=>F f as ks p else Ad
theorem Kg{e:Am}{F:Am->Ac Am->Ac DY->Az->Ai}(h:HB e F=Ab):∃ f as ks p,e=U_5 f as ks p/\F f as ks p=Ab:=by
 by_cases c:e.ctorIdx=16
 .exact U_6 (motive_1:=λe=>HB e F=Ab->∃ f as ks p,e=U_5 f as ks p/\F f as ks p=Ab) e c (λf as ks p h=>⟨f,as,ks,p,rfl,h⟩) h
 .exact noF ((Bx c).symm.trans h)
noncomputable def GJ(e:Am)(F:Am->Ag->Az->Ai):Ai:=if c:e.ctorIdx=20 then U_0 (motive_1:=λ_=>Ai) e c λo m p=>F o m p else Ad
theorem IP{e:Am}{F:Am->Ag->Az->Ai}(h:GJ e F=Ab):∃ o m p,e=UZ o m p/\F o m p=Ab:=by
 by_cases c:e.ctorIdx=20
 .exact U_0 (motive_1:=λe=>GJ e F=Ab->∃ o m p,e=UZ o m p/\F o m p=Ab) e c (λo m p h=>⟨o,m,p,rfl,h⟩) h
 .exact noF ((Bx c).symm.trans h)
noncomputable def LH(e:Am)(F:Am->Am->Ai):Ai:=if c:e.ctorIdx=21 then Vk (motive_1:=λ_=>Ai) e c λx y _=>F x y else Ad
theorem P2{e:Am}{F:Am->Am->Ai}(h:LH e F=Ab):∃ x y p,e=Vj x y p/\F x y=Ab:=by
 by_cases c:e.ctorIdx=21
 .exact Vk (motive_1:=λe=>LH e F=Ab->∃ x y p,e=Vj x y p/\F x y=Ab) e c (λx y p h=>⟨x,y,p,rfl,h⟩) h
 .exact noF ((Bx c).symm.trans h)
noncomputable def Ob(e:Am)(F:An Am->An Am->An Am->Ai):Ai:=if c:e.ctorIdx=26 then Vi (motive_1:=λ_=>Ai) e c λl u s _=>F l u s else Ad
theorem XX{e:Am}{F:An Am->An Am->An Am->Ai}(h:Ob e F=Ab):∃ l u s p,e=Vh l u s p/\F l u s=Ab:=by
 by_cases c:e.ctorIdx=26
 .exact Vi (motive_1:=λe=>Ob e F=Ab->∃ l u s p,e=Vh l u s p/\F l u s=Ab) e c (λl u s p h=>⟨l,u,s,p,rfl,h⟩) h
 .exact noF ((Bx c).symm.trans h)
noncomputable def Io(e:Am)(F:Ac Am->Ai):Ai:=if c:e.ctorIdx=25 then Vm (motive_1:=λ_=>Ai) e c λxs _ _=>F xs else Ad
theorem Jq{e:Am}{F:Ac Am->Ai}(h:Io e F=Ab):∃ xs c p,e=Vl xs c p/\F xs=Ab:=by
 by_cases c:e.ctorIdx=25
 .exact Vm (motive_1:=λe=>Io e F=Ab->∃ xs c p,e=Vl xs c p/\F xs=Ab) e c (λxs c p h=>⟨xs,c,p,rfl,h⟩) h
 .exact noF ((Bx c).symm.trans h)
noncomputable def LJ(e:Am)(F:Ac Am->Ai):Ai:=if c:e.ctorIdx=24 then Vc (motive_1:=λ_=>Ai) e c λxs _=>F xs else Ad
theorem M9{e:Am}{F:Ac Am->Ai}(h:LJ e F=Ab):∃ xs p,e=Vb xs p/\F xs=Ab:=by
 by_cases c:e.ctorIdx=24
 .exact Vc (motive_1:=λe=>LJ e F=Ab->∃ xs p,e=Vb xs p/\F xs=Ab) e c (λxs p h=>⟨xs,p,rfl,h⟩) h
 .exact noF ((Bx c).symm.trans h)
noncomputable def Od(e:Am)(F:Am->Ac HN->BL->Ai):Ai:=if c:e.ctorIdx=8 then Ve (motive_1:=λ_=>Ai) e c λx gs sc _=>F x gs sc else Ad
theorem X2{e:Am}{F:Am->Ac HN->BL->Ai}(h:Od e F=Ab):∃ x gs sc p,e=Vd x gs sc p/\F x gs sc=Ab:=by
 by_cases c:e.ctorIdx=8
 .exact Ve (motive_1:=λe=>Od e F=Ab->∃ x gs sc p,e=Vd x gs sc p/\F x gs sc=Ab) e c (λx gs sc p h=>⟨x,gs,sc,p,rfl,h⟩) h
 .exact noF ((Bx c).symm.trans h)
noncomputable def Oe(e:AD)(F:Ac Am->Am->Ai):Ai:=if c:e.ctorIdx=5 then VN (motive_2:=λ_=>Ai) e c λts v _=>F ts v else Ad
theorem X6{e:AD}{F:Ac Am->Am->Ai}(h:Oe e F=Ab):∃ ts v p,e=VM ts v p/\F ts v=Ab:=by
 by_cases c:e.ctorIdx=5
 .exact VN (motive_2:=λe=>Oe e F=Ab->∃ ts v p,e=VM ts v p/\F ts v=Ab) e c (λts v p h=>⟨ts,v,p,rfl,h⟩) h
 .exact noF ((Bx c).symm.trans h)
noncomputable def JK(e:AD)(F:Am->Ai):Ai:=if c:e.ctorIdx=24 then VP (motive_2:=λ_=>Ai) e c λv _=>F v else Ad
theorem Nb{e:AD}{F:Am->Ai}(h:JK e F=Ab):∃ v p,e=VO v p/\F v=Ab:=by
 by_cases c:e.ctorIdx=24
 .exact VP (motive_2:=λe=>JK e F=Ab->∃ v p,e=VO v p/\F v=Ab) e c (λv p h=>⟨v,p,rfl,h⟩) h
 .exact noF ((Bx c).symm.trans h)
noncomputable def Oc(e:AD)(F:An Am->Ai):Ai:=if c:e.ctorIdx=3 then VV (motive_2:=λ_=>Ai) e c λo _=>F o else Ad
theorem XY{e:AD}{F:An Am->Ai}(h:Oc e F=Ab):∃ o p,e=VU o p/\F o=Ab:=by
 by_cases c:e.ctorIdx=3
 .exact VV (motive_2:=λe=>Oc e F=Ab->∃ o p,e=VU o p/\F o=Ab) e c (λo p h=>⟨o,p,rfl,h⟩) h
 .exact noF ((Bx c).symm.trans h)
noncomputable def Mh(e:AD)(F:Am->Ac AD->Ac AD->Ai):Ai:=if c:e.ctorIdx=12 then VR (motive_2:=λ_=>Ai) e c λt xs ys _=>F t xs ys else Ad
theorem QE{e:AD}(h:Mh e F=Ab):∃ t xs ys p,e=Stmt.If t xs ys p/\F t xs ys=Ab:=by
 by_cases c:e.ctorIdx=12
 .exact VR (motive_2:=λe=>Mh e F=Ab->∃ t xs ys p,e=Stmt.If t xs ys p/\F t xs ys=Ab) e c (λt xs ys p h=>⟨t,xs,ys,p,rfl,h⟩) h
 .exact noF ((Bx c).symm.trans h)
noncomputable def KA(e:AD)(F:Am->Am->Ac AD->Ac AD->Ai):Ai:=if c:e.ctorIdx=9 then VQ (motive_2:=λ_=>Ai) e c λt it xs ys _=>F t it xs ys else Ad
theorem Na{e:AD}{F:Am->Am->Ac AD->Ac AD->Ai}(h:KA e F=Ab):∃ t it xs ys p,e=Stmt.For t it xs ys p/\F t it xs ys=Ab:=by
 by_cases c:e.ctorIdx=9
 .exact VQ (motive_2:=λe=>KA e F=Ab->∃ t it xs ys p,e=Stmt.For t it xs ys p/\F t it xs ys=Ab) e c (λt it xs ys p h=>⟨t,it,xs,ys,p,rfl,h⟩) h
 .exact noF ((Bx c).symm.trans h)
noncomputable def N9(e:AD)(F:Am->Ac AD->Ac AD->Ai):Ai:=if c:e.ctorIdx=11 then VY (motive_2:=λ_=>Ai) e c λt xs ys _=>F t xs ys else Ad
theorem XV{e:AD}(h:N9 e F=Ab):∃ t xs ys p,e=VW t xs ys p/\F t xs ys=Ab:=by
 by_cases c:e.ctorIdx=11
 .exact VY (motive_2:=λe=>N9 e F=Ab->∃ t xs ys p,e=VW t xs ys p/\F t xs ys=Ab) e c (λt xs ys p h=>⟨t,xs,ys,p,rfl,h⟩) h
 .exact noF ((Bx c).symm.trans h)
noncomputable def LI(e:AD)(F:An Am->An Am->Ai):Ai:=if c:e.ctorIdx=16 then VT (motive_2:=λ_=>Ai) e c λa b _=>F a b else Ad
theorem XZ{e:AD}{F:An Am->An Am->Ai}(h:LI e F=Ab):∃ a b p,e=VS a b p/\F a b=Ab:=by
 by_cases c:e.ctorIdx=16
 .exact VT (motive_2:=λe=>LI e F=Ab->∃ a b p,e=VS a b p/\F a b=Ab) e c (λa b p h=>⟨a,b,p,rfl,h⟩) h
 .exact noF ((Bx c).symm.trans h)
noncomputable def Hw{α:Type}:Ac α->(α->Ac α->Ai)->Ai
 |[],_=>Ad
 |x::xs,F=>F x xs
theorem Ih{l:Ac α}{F:α->Ac α->Ai}(h:Hw l F=Ab):∃ x xs,l=x::xs/\F x xs=Ab:=by
 cases l with
 |nil=>exact noF h
 |cons x xs=>exact⟨x,xs,rfl,h⟩
theorem Fi{l:Ac α}(h:l.isEmpty=Ab):l=[]:=List.isEmpty_iff.mp h
noncomputable def Dy{α:Type}(l:Ac α)(F:α->Ai):Ai:=Hw l λx r=>r.isEmpty&&F x
theorem Ep{l:Ac α}{F:α->Ai}(h:Dy l F=Ab):∃ x,l=[x]/\F x=Ab:=by
 obtain⟨x,r,rfl,h⟩:=Ih h;obtain⟨h1,h2⟩:=Bh h;exact⟨x,by rw[Fi h1],h2⟩
noncomputable def G3{α:Type}(l:Ac α)(F:α->α->Ai):Ai:=Hw l λx r=>Dy r λy=>F x y
theorem IN{l:Ac α}{F:α->α->Ai}(h:G3 l F=Ab):∃ x y,l=[x,y]/\F x y=Ab:=by
 obtain⟨x,r,rfl,h⟩:=Ih h;obtain⟨y,rfl,h⟩:=Ep h;exact⟨x,y,rfl,h⟩
noncomputable def G4(e:Am)(F:Ag->Ac Am->Ai):Ai:=HB e λf as ks _=>En f λg=>ks.isEmpty&&F g as
theorem Ht{e:Am}{F:Ag->Ac Am->Ai}(h:G4 e F=Ab):∃ g p as q,e=.Call (.Name g p) as [] q/\F g as=Ab:=by
 obtain⟨f,as,ks,q,rfl,h⟩:=Kg h;obtain⟨g,p,rfl,h⟩:=EE h;obtain⟨h1,h2⟩:=Bh h;exact⟨g,p,as,q,by rw[Fi h1],h2⟩
noncomputable def IU(e:Am)(F:Ag->Am->Ac Am->Ai):Ai:=G4 e λg l=>Hw l λx xs=>F g x xs
theorem Ju{e:Am}{F:Ag->Am->Ac Am->Ai}(h:IU e F=Ab):∃ g p x xs q,e=.Call (.Name g p) (x::xs) [] q/\F g x xs=Ab:=by
 obtain⟨g,p,as,q,rfl,h⟩:=Ht h;obtain⟨x,xs,rfl,h⟩:=Ih h;exact⟨g,p,x,xs,q,rfl,h⟩
noncomputable def SN(st:AD)(F:Ag->Ag->Ac Am->Ai):Ai:=JK st λe=>HB e λf as ks cp=>GJ f λo m ap=>En o λx=>ks.isEmpty&&(ap.endLine==cp.line&&F x m as)
theorem X1{st:AD}{F:Ag->Ag->Ac Am->Ai}(h:SN st F=Ab):∃ x p m ap as cp q,st=.Expr (.Call (.Attribute (.Name x p) m ap) as [] cp) q/\ap.endLine=cp.line/\F x m as=Ab:=by
 obtain⟨e,q,rfl,h⟩:=Nb h;obtain⟨f,as,ks,cp,rfl,h⟩:=Kg h;obtain⟨o,m,ap,rfl,h⟩:=IP h;obtain⟨x,p,rfl,h⟩:=EE h;obtain⟨h1,h⟩:=Bh h;obtain⟨h2,h3⟩:=Bh h;exact⟨x,p,m,ap,as,cp,q,by rw[Fi h1],eq_of_beq h2,h3⟩
noncomputable def SG(st:AD)(F:Am->Am->Ai):Ai:=Oe st λts v=>Dy ts λt=>F t v
theorem X7{st:AD}{F:Am->Am->Ai}(h:SG st F=Ab):∃ t v q,st=.Assign [t] v q/\F t v=Ab:=by
 obtain⟨ts,v,q,rfl,h⟩:=X6 h;obtain⟨t,rfl,h⟩:=Ep h;exact⟨t,v,q,rfl,h⟩
noncomputable def KC(st:AD)(F:Ag->Am->Ai):Ai:=SG st λt v=>En t λx=>F x v
theorem Nc{st:AD}{F:Ag->Am->Ai}(h:KC st F=Ab):∃ x p v q,st=.Assign [.Name x p] v q/\F x v=Ab:=by
 obtain⟨t,v,q,rfl,h⟩:=X7 h;obtain⟨x,p,rfl,h⟩:=EE h;exact⟨x,p,v,q,rfl,h⟩
noncomputable def OQ(e:Am)(F:Am->Am->Am->Ac Am->BL->Ai):Ai:=Od e λx gs sc=>Dy gs λg=>decide (g.is_async=0)&&F x g.target g.iter g.ifs sc
theorem QD{e:Am}{F:Am->Am->Am->Ac Am->BL->Ai}(h:OQ e F=Ab):∃ x t it ifs sc p,e=.ListComp x [⟨t,it,ifs,0⟩] sc p/\F x t it ifs sc=Ab:=by
 obtain⟨x,gs,sc,p,rfl,h⟩:=X2 h;obtain⟨g,rfl,h⟩:=Ep h;obtain⟨t,it,ifs,a⟩:=g;obtain⟨h1,h2⟩:=Bh h;have h1:a=0:=AK h1;subst h1;exact⟨x,t,it,ifs,sc,p,rfl,h2⟩
noncomputable def Mg(e:E)(F:E->Ai):Ai:=if c:e.ctorIdx=8 then E.no.elim (motive_1:=λ_=>Ai) e c F else Ad
theorem ZL{e:E}{F:E->Ai}(h:Mg e F=Ab):∃ a,e=E.no a/\F a=Ab:=by
 by_cases c:e.ctorIdx=8
 .exact E.no.elim (motive_1:=λe=>Mg e F=Ab->∃ a,e=E.no a/\F a=Ab) e c (λa h=>⟨a,rfl,h⟩) h
 .exact noF ((Bx c).symm.trans h)
noncomputable def LO(e:E)(F:Es->Ai):Ai:=if c:e.ctorIdx=9 then E.and.elim (motive_1:=λ_=>Ai) e c F else Ad
theorem X8{e:E}{F:Es->Ai}(h:LO e F=Ab):∃ es,e=E.and es/\F es=Ab:=by
 by_cases c:e.ctorIdx=9
 .exact E.and.elim (motive_1:=λe=>LO e F=Ab->∃ es,e=E.and es/\F es=Ab) e c (λes h=>⟨es,rfl,h⟩) h
 .exact noF ((Bx c).symm.trans h)
noncomputable def Mf(e:E)(F:Es->Ai):Ai:=if c:e.ctorIdx=10 then E.or.elim (motive_1:=λ_=>Ai) e c F else Ad
theorem ZK{e:E}{F:Es->Ai}(h:Mf e F=Ab):∃ es,e=E.or es/\F es=Ab:=by
 by_cases c:e.ctorIdx=10
 .exact E.or.elim (motive_1:=λe=>Mf e F=Ab->∃ es,e=E.or es/\F es=Ab) e c (λes h=>⟨es,rfl,h⟩) h
 .exact noF ((Bx c).symm.trans h)
noncomputable def LK(e:E)(F:CJ->E->E->Ai):Ai:=if c:e.ctorIdx=11 then E.cmp.elim (motive_1:=λ_=>Ai) e c F else Ad
theorem X3{e:E}{F:CJ->E->E->Ai}(h:LK e F=Ab):∃ o a b,e=E.cmp o a b/\F o a b=Ab:=by
 by_cases c:e.ctorIdx=11
 .exact E.cmp.elim (motive_1:=λe=>LK e F=Ab->∃ o a b,e=E.cmp o a b/\F o a b=Ab) e c (λo a b h=>⟨o,a,b,rfl,h⟩) h
 .exact noF ((Bx c).symm.trans h)
noncomputable def LL(e:E)(F:CJ->CJ->E->E->E->Ai):Ai:=if c:e.ctorIdx=12 then E.cmp2.elim (motive_1:=λ_=>Ai) e c F else Ad
theorem X4{e:E}{F:CJ->CJ->E->E->E->Ai}(h:LL e F=Ab):∃ o q a b c,e=E.cmp2 o q a b c/\F o q a b c=Ab:=by
 by_cases c:e.ctorIdx=12
 .exact E.cmp2.elim (motive_1:=λe=>LL e F=Ab->∃ o q a b c,e=E.cmp2 o q a b c/\F o q a b c=Ab) e c (λo q a b c h=>⟨o,q,a,b,c,rfl,h⟩) h
 .exact noF ((Bx c).symm.trans h)
noncomputable def LM(e:E)(F:BI->Es->Ai):Ai:=if c:e.ctorIdx=15 then E.bi.elim (motive_1:=λ_=>Ai) e c F else Ad
theorem X5{e:E}{F:BI->Es->Ai}(h:LM e F=Ab):∃ b as,e=E.bi b as/\F b as=Ab:=by
 by_cases c:e.ctorIdx=15
 .exact E.bi.elim (motive_1:=λe=>LM e F=Ab->∃ b as,e=E.bi b as/\F b as=Ab) e c (λb as h=>⟨b,as,rfl,h⟩) h
 .exact noF ((Bx c).symm.trans h)
noncomputable def OR(e:E)(F:Ai->Ai):Ai:=if c:e.ctorIdx=1 then E.bl.elim (motive_1:=λ_=>Ai) e c F else Ad
theorem ZN{e:E}{F:Ai->Ai}(h:OR e F=Ab):∃ b,e=E.bl b/\F b=Ab:=by
 by_cases c:e.ctorIdx=1
 .exact E.bl.elim (motive_1:=λe=>OR e F=Ab->∃ b,e=E.bl b/\F b=Ab) e c (λb h=>⟨b,rfl,h⟩) h
 .exact noF ((Bx c).symm.trans h)
noncomputable def Kz(e:E)(F:Af->Ai):Ai:=if c:e.ctorIdx=4 then E.var.elim (motive_1:=λ_=>Ai) e c F else Ad
theorem M8{e:E}{F:Af->Ai}(h:Kz e F=Ab):∃ i,e=E.var i/\F i=Ab:=by
 by_cases c:e.ctorIdx=4
 .exact E.var.elim (motive_1:=λe=>Kz e F=Ab->∃ i,e=E.var i/\F i=Ab) e c (λi h=>⟨i,rfl,h⟩) h
 .exact noF ((Bx c).symm.trans h)
noncomputable def JL(e:E)(F:Af->Es->Ai):Ai:=if c:e.ctorIdx=14 then E.call.elim (motive_1:=λ_=>Ai) e c F else Ad
theorem Qj{e:E}{F:Af->Es->Ai}(h:JL e F=Ab):∃ f as,e=E.call f as/\F f as=Ab:=by
 by_cases c:e.ctorIdx=14
 .exact E.call.elim (motive_1:=λe=>JL e F=Ab->∃ f as,e=E.call f as/\F f as=Ab) e c (λf as h=>⟨f,as,rfl,h⟩) h
 .exact noF ((Bx c).symm.trans h)
noncomputable def LS(e:E):Ai:=decide (e.ctorIdx=0)
theorem Yy{e:E}(h:LS e=Ab):e=.non:=E.non.elim (motive_1:=λe=>e=.non) e (AK h) rfl
noncomputable def Dg:Am->Ai
 |.Starred _ _=>Ad
 |_=>Ab
noncomputable def Rk:Am->Ai
 |.Slice _ _ _ _=>Ad
 |_=>Ab
noncomputable def JN:Am->Ai
 |.Set _ _ _=>Ad
 |_=>Ab
noncomputable def Hx:Am->Ai
 |.ListComp _ _ _ _=>Ad
 |.SetComp _ _ _ _=>Ad
 |.DictComp _ _ _ _ _=>Ad
 |_=>Ab
noncomputable def TK(tu:Ai):Am->Ai
 |.Tuple ..=>tu
 |.Name ..=>!tu
 |_=>Ad
noncomputable def lC:Am->Ai
 |.Tuple _ _ _=>Ab
 |_=>Ad
noncomputable def Lf:Am->Ai
 |.UnaryOp _ _ _=>Ad
 |.BoolOp _ _ _=>Ad
 |.IfExp _ _ _ _=>Ad
 |.Compare _ _ _ _=>Ad
 |_=>Ab
noncomputable def N6:Ki->An Ag
 |.int=>Aa "int"
 |.bool=>Aa "bool"
 |.str=>Aa "str"
 |.list=>Aa "list"
 |.tuple=>Aa "tuple"
 |_=>Ae
noncomputable def N7:BI->An Ag
 |.len=>Aa "len"
 |.abs=>Ae
 |.max=>Aa "max"
 |.min=>Aa "min"
 |.int=>Ae
 |.list=>Aa "list"
 |.tuple=>Aa "tuple"
 |.all=>Aa "all"
 |.any=>Aa "any"
 |.sum=>Ae
 |.sorted=>Ae
 |.str=>Aa "str"
 |.tmin=>Ae
 |.tmax=>Ae
 |_=>Ae
noncomputable def Og(o scope:BL):BL:={scope with names:=scope.names.map λ(n,k)=>if (k==.free&&o.kind==.function&&o.names.lookup n==Aa .cell) then (n,.cell) else (n,k)}
noncomputable def JR:Ac Af->Ac Ag->Ac Ag->Ac Ag
 |t::ts,x::xs,N=>JR ts xs ((N.map λy=>if y==x then N.getD t x else y).set t x)
 |_,_,N=>N
noncomputable def JC:Ac Ag->Ai
 |[]=>Ab
 |x::xs=>!xs.contains x&&JC xs
noncomputable def K0(T:Tc)(scope:BL)(ts:Ac Af)(N':Ac Ag):Ai:=
  scope.kind==.function&&scope.names.all (λy=>scope.names.lookup y.1==Aa y.2) &&
  scope.names.all (λy=>y.2 != .free||T.sc.names.lookup y.1==Aa .cell||T.sc.names.lookup y.1==Aa .free) &&
  N'.length==T.N.length&&JC N' &&
  (B6 N'.length).all λi=>ts.contains i||(match N'[i]? with
    |some x=>(scope.names.lookup x != Aa .local&&scope.names.lookup x != Aa .cell)&&(scope.names.lookup x != Aa .free||T.N[i]? == Aa x)
    | none=>Ab)
noncomputable def E2:Ac Am->An (Ac Ag)
 |[]=>Aa []
 |.Name x _::r=>(E2 r).map (x :: ·)
 |_=>Ae
noncomputable def tgN(ys:Ac Am):Ac Ag:=(E2 ys).getD []
noncomputable def tgB(T:Tc):Ac Af->Ac Ag->Ai
 |[],[]=>Ab
 |t::ts,x::xs=>T.N[t]? == Aa x&&T.sc.names.lookup x==Aa .local&&tgB T ts xs
 |_,_=>Ad
noncomputable def tgO(T:Tc)(scope:BL)(t:Af)(x:Ag):Ai:=T.N[t]? == Aa x&&(T.sc.names.lookup x==Aa .local||(T.sc.names.lookup x==Aa .cell&&scope.names.lookup x==Aa .cell))
noncomputable def tgC(T:Tc):Ac Af->Ac Ag->Ai
 |[],[]=>Ab
 |t::ts,x::xs=>T.N[t]? == Aa x&&HF T x&&tgC T ts xs
 |_,_=>Ad
noncomputable def Tc.blk(T:Tc)(scope:BL)(ts:Ac Af)(xs:Ac Ag):Tc:={T with sc:=Og T.sc scope,N:=JR ts xs T.N,tp:=Ad}
noncomputable def nS(f:Ag):Ai:=(f==("triple" : Ag)||(f==("points" : Ag)||f==("row" : Ag)))
noncomputable def JM:Am->Ai
 |.Call _ [] _ _=>Ad
 |_=>Ab
theorem Lx{o:Am}{f:Ag}{w:EY Aj}(h:JM o=Ab):CS o f env w=w:=by
 cases o with
 |Call g as ks p=>
  cases as with
  |nil=>cases h
  |cons=>cases g<;>rfl
 |_=>rfl
noncomputable def inX(l:Ac (Ag×Af))(g:Ag)(c:Af):Ai:=l.any λp=>p.1==g&&p.2==c
noncomputable def ocB(T:Tc)(t:Ag)(k:Af):Ai:=t==Mi k&&decide (k<3)&&glB T t&&EL t
noncomputable def nK(T:Tc)(t:Ag):Ki->Ai
 |.verr=>t==("ValueError" : Ag)&&isB T t
 |.cls c=>inX T.exs t c&&glB T t&&EL t
 |_=>Ad
noncomputable def TZ:Am->An (Am×Am×Az)
  | .Compare x ops ys p=>(match ops with
    | [.Lt]=>(match ys with
      |[y]=>Aa (x,y,p)
      | _=>Ae)
    | _=>Ae)
  |_=>Ae
noncomputable def Oo(_:Es):An (E×E):=Ae
noncomputable def OL(_:Tc)(_:Tc->Am->E->Ai)(_:Am)(_:Ac CJ)(_:Ac Am)(_:BI)(_:Es):Ai:=Ad
noncomputable def TW(T:Tc)(e:Am)(b:BI)(as:Es):Ai:=Ad
noncomputable def Sh:Am->An (Ag×Az)
 |.Name x p=>Aa (x,p)
 |_=>Ae
noncomputable def Si:Am->An (Am×Ac Am×Ac DY×Az)
 |.Call f as ks p=>Aa (f,as,ks,p)
 |_=>Ae
noncomputable def mI:Am->An (Ac Am×Af×Az)
 |.Tuple es k p=>Aa (es,k,p)
 |_=>Ae
noncomputable def one{α:Type}:Ac α->An α
 |[a]=>Aa a
 |_=>Ae
noncomputable def TX(e:Am):An (Ag×Ag×Ac Am):=(Si e).bind λc=>(Sh c.1).bind λg=>(one c.2.1).bind λa=>(Si a).bind λd=>(Sh d.1).bind λh=>if (c.2.2.1.isEmpty&&d.2.2.1.isEmpty)=Ab then Aa (g.1,h.1,d.2.1) else Ae
noncomputable def TH(e:Am):An (Ag×Ag×Am×Am):=match TX e with
  | some (g,h,bs)=>(match bs with
    |[x,y]=>Aa (g,h,x,y)
    | _=>Ae)
  |none=>Ae
noncomputable def Oh(_:Es):An (E×E):=Ae
noncomputable def TF(e:Am):An (Ag×Ag×Am):=match TX e with
  | some (g,h,bs)=>(match bs with
    |[x]=>Aa (g,h,x)
    | _=>Ae)
  |none=>Ae
noncomputable def L5:Es->An (Ag×E)
  | .cons a r=>(match a with
    | .str s=>(match r with
      | .cons b r'=>(match r' with
        | .nil=>(match b with
          |.var _=>Ae
          | b=>Aa (s,b))
        | _=>Ae)
      | _=>Ae)
    | _=>Ae)
  |.nil=>Ae
theorem aG{s:Ag}{a:E}(q:L5 as=Aa (s,a)):as=.cons (.str s) (.cons a .nil)/\∀ U r,top U a r=r:=by
 cases as with
 |nil=>cases q
 |cons a r=>
  cases a with
  |str s=>
   cases r with
   |nil=>cases q
   |cons b r'=>
    cases r' with
    |nil=>cases b<;>first|(cases q;exact⟨rfl,λ_ _=>rfl⟩)|cases q
    |cons=>cases q
  |_=>cases q
noncomputable def Mc:Es->An (E×Ag)
  | .cons a r=>(match r with
    | .cons b r'=>(match b with
      | .str y=>(match r' with
        |.nil=>Aa (a,y)
        | _=>Ae)
      | _=>Ae)
    | _=>Ae)
  |.nil=>Ae
theorem aZ{s:Ag}{a:E}(q:Mc as=Aa (a,s)):as=.cons a (.cons (.str s) .nil):=by
 cases as with
 |nil=>cases q
 |cons a r=>
  cases r with
  |nil=>cases q
  |cons b r'=>
   cases b with
   |str s=>
    cases r' with
    |nil=>cases q;rfl
    |cons=>cases q
   |_=>cases q
noncomputable def Oq(_:Es):An E:=Ae
noncomputable def two(e:Am):An (Am×Am):=(mI e).bind λt=>match t.1 with
  |[a,b]=>Aa (a,b)
  |_=>Ae
noncomputable def OX(_:Es):An E:=Ae
noncomputable def TU(_:Am):An Am:=Ae
noncomputable def TM:Am->An (Am×Ah)
  | .Subscript v s _=>(match s with
    | .Slice lo hi st _=>(match lo with
      | some (.Constant (.int k) _ _)=>(match hi with
        | none=>(match st with
          |some (.Constant (.int j) _ _)=>if j=2 then Aa (v,k) else Ae
          | _=>Ae)
        | some _=>Ae)
      | _=>Ae)
    | _=>Ae)
  |_=>Ae
noncomputable def Op(_:Es):An (E×Ah):=Ae
mutual
noncomputable def A2:Af->Tc->Am->E->Ai
  |0,_,_,_=>Ad
  |n+1,T,e,c=>match c with
    |.non=>Ga e λc=>decide (c=.none)
    |.bl b=>Ga e λc=>decide (c=.bool b)
    |.int i=>Ga e λc=>decide (c=.int i)
    |.str x=>Ga e λc=>decide (c=.str x)
    |.var i=>En e λx=>isV T x i
    |.glob g=>Ad
    |.bin op a b=>LN e λx op' y=>decide (op'=op)&&A2 n T x a&&A2 n T y b
    |.un op a=>Jd e λo x=>decide (o=.USub)&&(decide (op=.USub)&&A2 n T x a)
    |.no a=>Jd e λo x=>decide (o=.Not)&&A2 n T x a
    |.and es=>Ip e λo xs _=>decide (o=.And)&&(chkEs n T xs es && !xs.isEmpty)
    |.or es=>Ip e λo xs _=>decide (o=.Or)&&(chkEs n T xs es && !xs.isEmpty)
    |.cmp op a b=>KB e λx os ys=>Dy os λop'=>Dy ys λy=>decide (op'=op) && !behindInMarks op y&&A2 n T x a&&A2 n T y b
    |.cmp2 op1 op2 a b c=>Ad
    |.ite c a b=>Ad
    |.call f as=>IU e λg x xs=>(T.fns.any λp=>p.1==g&&p.2.1==f&&p.2.2==xs.length+1)&&decide (xs.length<900)&&glB T g&&EL g&&chkEs n T (x::xs) as
    |.bi b as=>(IU e λg x xs=>N7 b==Aa g&&isB T g&&chkEs n T (x::xs) as)||TW T e b as||(match Oh as with|some (a,c)=>(match TH e with|some (g,h,x,y)=>decide (b=.list)&&g==("list" : Ag)&&h==("range" : Ag)&&isB T g&&isB T h&&Dg x&&Dg y&&A2 n T x a&&A2 n T y c|none=>Ad)|none=>Ad)||(match Op as with|some (a,k)=>(match TM e with|some (x,j)=>decide (b=.stp)&&decide (j=k)&&decide (0<=k)&&A2 n T x a|none=>Ad)|none=>Ad)||(match Oq as with|some a=>(match TF e with|some (g,h,x)=>decide (b=.lset)&&g==("len" : Ag)&&h==("set" : Ag)&&isB T g&&isB T h&&Dg x&&A2 n T x a|none=>Ad)|none=>Ad)||(match Oo as with|some (a,c)=>(match TZ e with|some (x,y,_)=>decide (b=.tlt) && !behindInMarks .Lt y&&A2 n T x a&&A2 n T y c|none=>Ad)|none=>Ad)||(match L5 as with|some (s,a)=>HB e λf l ks cp=>ks.isEmpty&&(GJ f λo m ap=>m==("join" : Ag)&&ap.endLine==cp.line&&(Ga o λc=>decide (c=.str s)&&decide (b=.sjoin)&&(Dy l λy=>Dg y&&A2 n T y a)))|none=>Ad)||(match Mc as with|some (a,s)=>HB e λf l ks cp=>ks.isEmpty&&(GJ f λo m ap=>m==("split" : Ag)&&ap.endLine==cp.line&&JM o&&A2 n T o a&&(Dy l λy=>Ga y λc=>decide (c=.str s)&&decide (b=.ssplit)))|none=>Ad)||(match OX as with|some a=>(match TU e with|some x=>decide (b=.rvs)&&A2 n T x a|none=>Ad)|none=>Ad)
    |.isi a ks=>(Dy ks λk=>G4 e λg l=>G3 l λx t=>En t λt=>g==("isinstance" : Ag)&&isB T g&&N6 k==Aa t&&isB T t&&Dg x&&A2 n T x a)||(Dy ks λk=>G4 e λg l=>G3 l λx t=>En t λt=>g==("isinstance" : Ag)&&isB T g&&Dg x&&A2 n T x a&&nK T t k)
    |.idx a i=>LH e λx y=>Rk y&&A2 n T x a&&A2 n T y i
    |.sl a lo hi=>LH e λx s=>Ob s λl h st=>st.isNone&&(A2 n T x a&&chkO n T l lo&&chkO n T h hi)
    |.tup es=>Io e λxs=>chkEs n T xs es&&decide (xs.length<=1000)
    |.lst es=>LJ e λxs=>chkEs n T xs es&&decide (xs.length<=1000)
    |.comp elt t it c=>OQ e λx tg iter ifs scope=>En tg λy=>chkI n T Ad iter it&&JN iter&&K0 T scope [t] (JR [t] [y] T.N)&&tgO (T.blk scope [t] [y]) scope t y&&chkT n (T.blk scope [t] [y]) ifs c&&A2 n (T.blk scope [t] [y]) x elt
    |.compT elt ts it c=>OQ e λx tg iter ifs scope=>Io tg λys=>(E2 ys).isSome&&chkI n T Ab iter it&&JN iter&&K0 T scope ts (JR ts (tgN ys) T.N)&&tgB (T.blk scope ts (tgN ys)) ts (tgN ys)&&chkT n (T.blk scope ts (tgN ys)) ifs c&&A2 n (T.blk scope ts (tgN ys)) x elt
    |.tupI _=>Ad
    |.dnew=>Ad
    |.fld o f=>GJ e λw g _=>g==f&&nS f&&JM w&&A2 n T w o
    |.ofl o f=>GJ e λw g _=>g==f&&f==("triple" : Ag)&&JM w&&A2 n T w o
    |.iso a k=>G4 e λg l=>G3 l λx t=>En t λt=>g==("isinstance" : Ag)&&isB T g&&Dg x&&A2 n T x a&&ocB T t k
    |.meth m ms o=>HB e λf l ks cp=>ks.isEmpty&&(l.isEmpty&&(GJ f λw g ap=>g==m&&(m==("told" : Ag)||m==("shown" : Ag))&&ap.endLine==cp.line&&JM w&&A2 n T w o&&ms.all λq=>T.fns.any λp=>(FU.lookup p.1==Aa (q.1,m))&&p.2.1==q.2&&p.2.2==1))
    |.mkob _ _=>Ad
    |.mkn c as=>IU e λg x xs=>ocB T g c&&xs.length==1&&chkEs n T (x::xs) as
    |.mkx c as=>T.tp&&(IU e λg x xs=>inX T.rzs g c&&glB T g&&EL g&&decide (xs.length<=1000)&&chkEs n T (x::xs) as)
noncomputable def GN:Af->Tc->Am->E->Ai
 |0,_,_,_=>Ad
 |n+1,T,e,c=>(Jd e λo x=>decide (o=.Not)&&(Mg c λa=>GN n T x a)) ||
  (Ip e λo xs _=>(decide (o=.And)&&(LO c λes=>chkBs n T xs es && !xs.isEmpty))||(decide (o=.Or)&&(Mf c λes=>chkBs n T xs es && !xs.isEmpty))) ||
  (KB e λx os ys=>(LK c λop a b=>Dy os λop'=>Dy ys λy=>decide (op'=op) && !behindInMarks op y&&A2 n T x a&&A2 n T y b) ||
   (LL c λop1 op2 a b c=>G3 os λo1 o2=>G3 ys λy z=>decide (o1=op1)&&decide (o2=op2) && !lastMarks [op1,op2] [y,z]&&A2 n T x a&&A2 n T y b&&A2 n T z c) ||
   (LM c λb as=>OL T (A2 n) x os ys b as)) ||
  Lf e&&A2 n T e c
noncomputable def chkBs:Af->Tc->Ac Am->Es->Ai
  |0,_,_,_=>Ad
  |n+1,T,xs,es=>match xs,es with
    |[],.nil=>Ab
    |x::xs,.cons e es=>GN n T x e&&chkBs n T xs es
    |_,_=>Ad
noncomputable def chkEs:Af->Tc->Ac Am->Es->Ai
  |0,_,_,_=>Ad
  |n+1,T,xs,es=>match xs,es with
    |[],.nil=>Ab
    |x::xs,.cons e es=>Dg x&&A2 n T x e&&chkEs n T xs es
    |_,_=>Ad
noncomputable def chkO:Af->Tc->An Am->E->Ai
  |0,_,_,_=>Ad
  |n+1,T,x,e=>match x with
    |none=>LS e
    |some x=>!(LS e)&&A2 n T x e
noncomputable def chkT:Af->Tc->Ac Am->E->Ai
  |0,_,_,_=>Ad
  |n+1,T,xs,e=>match xs with
    |[]=>OR e λb=>b
    |x::r=>r.isEmpty&&GN n T x e
noncomputable def chkI:Af->Tc->Ai->Am->I->Ai
  |0,_,_,_,_=>Ad
  |n+1,T,tu,e,i=>match i with
    |.e a=>A2 n T e a
    |.rng a=>G4 e λg l=>Dy l λx=>g==("range" : Ag)&&isB T g&&Dg x&&A2 n T x a
    |.enm a=>G4 e λg l=>Dy l λx=>tu&&g==("enumerate" : Ag)&&isB T g&&Dg x&&A2 n T x a
    |.zip a b=>Ad
    |.rng2 a b=>G4 e λg l=>G3 l λx y=>g==("range" : Ag)&&isB T g&&Dg x&&Dg y&&A2 n T x a&&A2 n T y b
    |.zip3 a b c=>Ad
end
noncomputable def OD:E->E->Ai
 |.var _,.int _=>Ab
 |_,_=>Ad
noncomputable def TQ:ED->Ai
 |.Sub=>Ab
 |_=>Ad
noncomputable def L4:E->Ai
 |.idx a b=>OD a b
 |.bin op a b=>TQ op&&OD a b
 |.var _=>Ab
 |.int _=>Ab
 |.bl _=>Ab
 |.str _=>Ab
 |.non=>Ab
 |_=>Ad
noncomputable def Im:Es->Ai
 |.nil=>Ab
 |.cons e es=>L4 e&&Im es
noncomputable def Gd:Am->An (Ag×Az)
 |.Name x p=>Aa (x,p)
 |_=>Ae
theorem G0{e:Am}{t:Ag×Az}(h:Gd e=Aa t):e=.Name t.1 t.2:=by
 cases e with
 |Name x p=>cases h;rfl
 |_=>exact nomatch (show Ae=Aa t from h)
noncomputable def Tg:Am->An (Am×Ac Am×Az)
  | .Call f as ks p=>(match ks with
    |[]=>Aa (f,as,p)
    | _=>Ae)
  |_=>Ae
theorem Y_5{e:Am}{t:Am×Ac Am×Az}(h:Tg e=Aa t):e=.Call t.1 t.2.1 [] t.2.2:=by
 cases e with
 |Call f as ks p=>
  cases ks with
  |nil=>cases h;rfl
  |cons=>exact nomatch (show Ae=Aa t from h)
 |_=>exact nomatch (show Ae=Aa t from h)
noncomputable def KN{α:Type}:Ac α->An (α×α)
 |[a,b]=>Aa (a,b)
 |_=>Ae
theorem Li{l:Ac α}{t:α×α}(h:KN l=Aa t):l=[t.1,t.2]:=by
 cases l with
 |nil=>exact nomatch (show Ae=Aa t from h)
 |cons a l=>
  cases l with
  |nil=>exact nomatch (show Ae=Aa t from h)
  |cons b l=>
   cases l with
   |nil=>cases h;rfl
   |cons=>exact nomatch (show Ae=Aa t from h)
noncomputable def xHd:Eh->An (Ag×Ag×AD×Ac AD)
  | .ExceptHandler ty nm b _=>(match nm,b,ty with
    |some m,h0::hs,Aa e=>(Gd e).bind λg=>Aa (g.1,m,h0,hs)
    | _,_,_=>Ae)
theorem dA{h:Eh}{g m:Ag}(q:xHd h=Aa (g,m,h0,hs)):∃ p r,h=.ExceptHandler (Aa (.Name g p)) (Aa m) (h0::hs) r:=by
 obtain⟨ty,nm,b,r⟩:=h;cases nm with
 |none=>cases ty<;>cases b<;>exact nomatch (show Ae=Aa (g,m,h0,hs) from q)
 |some m'=>
  cases b with
  |nil=>cases ty<;>exact nomatch (show Ae=Aa (g,m,h0,hs) from q)
  |cons h0' hs'=>
   cases ty with
   |none=>exact nomatch (show Ae=Aa (g,m,h0,hs) from q)
   |some e=>
    obtain⟨g',e1,q⟩:=Au.mp (show ((Gd e).bind λg=>Aa (g.1,m',h0',hs'))=Aa (g,m,h0,hs) from q)
    cases q;rw[G0 e1];exact⟨_,_,rfl⟩
noncomputable def OH:AD->An (AD×Ac Eh×Ac AD)
  | .Try b hs es fs _=>(match b,fs with
    |[bt],[]=>Aa (bt,hs,es)
    | _,_=>Ae)
  |_=>Ae
theorem Y_1{st bt:AD}{hs:Ac Eh}{es:Ac AD}(q:OH st=Aa (bt,hs,es)):∃ p,st=.Try [bt] hs es [] p:=by
 cases st with
 |Try b h e f p=>
  cases b with
  |nil=>cases f<;>exact nomatch (show Ae=Aa (bt,hs,es) from q)
  |cons x b=>
   cases b with
   |cons=>cases f<;>exact nomatch (show Ae=Aa (bt,hs,es) from q)
   |nil=>
    cases f with
    |nil=>cases q;exact⟨_,rfl⟩
    |cons=>exact nomatch (show Ae=Aa (bt,hs,es) from q)
 |_=>exact nomatch (show Ae=Aa (bt,hs,es) from q)
noncomputable def TB(e:Am)(F:Ag->Ag->Am->Ai):Ai:=G4 e λg l=>G3 l λa t=>En a λv=>F g v t
theorem ZM{e:Am}{F:Ag->Ag->Am->Ai}(h:TB e F=Ab):∃ g p v q t r,e=.Call (.Name g p) [.Name v q,t] [] r/\F g v t=Ab:=by
 obtain⟨g,p,l,r,rfl,h⟩:=Ht h;obtain⟨a,t,rfl,h⟩:=IN h;obtain⟨v,q,rfl,h⟩:=EE h;exact⟨g,p,v,q,t,r,rfl,h⟩
noncomputable def Ol(T:Tc):Ac Am->Ac Ki->Ai
  |[],ks=>ks.isEmpty
  | e::r,ks=>Hw ks λk ks=>En e λt=>(match k with
    |.cls c=>inX T.exs t c&&glB T t&&EL t
    | _=>Ad)&&Ol T r ks
noncomputable def KH(f:Am->E->Ai):Ac Am->Es->Ai
 |[],.nil=>Ab
 |x::xs,.cons e es=>Dg x&&f x e&&KH f xs es
 |_,_=>Ad
noncomputable def mF(T:Tc)(t:Am)(ks:Ac Ki):Ai:=Hw ks λk r=>match k with
  |.verr=>r.isEmpty&&(En t λt=>t==("ValueError" : Ag)&&isB T t)
  | .cls c=>(match r with
    |[]=>En t λt=>inX T.exs t c&&glB T t&&EL t
    | k2::r=>Io t λts=>Ol T ts (.cls c::k2::r)&&decide (ts.length<=1000))
  |_=>Ad
noncomputable def G7:Af->Tc->Af->Am->E->Ai
  |0,_,_,_,_=>Ad
  |n+1,T,x,e,c=>match c with
    |.bl b=>Ga e λk=>decide (k=.bool b)
    |.no a=>Jd e λo y=>decide (o=.Not)&&G7 n T x y a
    | .and es=>(match es with
      |.nil=>Ad
      | .cons a r=>(match r with
        |.nil=>Ip e λo l _=>decide (o=.And)&&(Dy l λy=>G7 n T x y a)
        | .cons a' as=>Ip e λo l p=>decide (o=.And)&&(Hw l λy l=>Hw l λz zs=>G7 n T x y a&&G7 n T x (.BoolOp .And (z::zs) p) (.and (.cons a' as)))))
    |.isi a ks=>Kz a λi=>TB e λg v t=>i==x&&g==("isinstance" : Ag)&&isB T g&&isV T v x&&mF T t ks
    |.call _ _=>Ad
    |.str s=>Ga e λk=>decide (k=.str s)
    |.lst es=>LJ e λxs=>KH (G7 n T x) xs es&&decide (xs.length<=1000)
    |.tup es=>Io e λxs=>KH (G7 n T x) xs es&&decide (xs.length<=1000)
    |.bin op a b=>decide (op=.Add)&&(Kz a λi=>LN e λl o y=>decide (o=.Add)&&(En l λv=>isV T v i&&G7 n T x y b))
    |.fld o f=>Kz o λi=>GJ e λw g _=>En w λv=>i==x&&g==f&&(f==("triple" : Ag)||(f==("points" : Ag)||f==("row" : Ag)))&&isV T v x
    |_=>Ad
noncomputable def nL:E->Ai
 |.lst _=>Ab
 |_=>Ad
noncomputable def Om:Af->Tc->Af->Ac AD->Ss->Ai
  |0,_,_,_,_=>Ad
  |n+1,T,x,sts,ss=>match ss with
    |.nil=>sts.isEmpty
    | .cons s ss=>Hw sts λst r=>(match s with
      |.asg i b e=>KC st λy v=>T.N[i]? == Aa y&&HF T y&&Hx v&&G7 n T x v e&&(!b||nL e)
      |.ife _ _ _=>Ad
      |.ret _=>Ad
      |.app _ _=>Ad
      | _=>Ad)&&Om n T x r ss
noncomputable def OG:E->Ai
 |.var _=>Ab
 |.cmp _ a b=>L4 a&&L4 b
 |_=>Ad
noncomputable def LC(n:Af)(T:Tc)(st:AD)(s:S):Ai:=match s with
  |.expr e=>JL e λf as=>JK st λv=>A2 n T v (.call f as)&&Im as
  |.asg i b e=>!b&&(JL e λf as=>KC st λy v=>T.N[i]? == Aa y&&HF T y&&A2 n T v (.call f as)&&Im as)
  |_=>Ad
noncomputable def Oa:Ss->(S->Ai)->Ai
  |.nil,_=>Ad
  | .cons a r,F=>(match r with
    |.nil=>F a
    | .cons _ _=>Ad)
theorem Qh{l:Ss}{F:S->Ai}(h:Oa l F=Ab):∃ a,l=.cons a .nil/\F a=Ab:=by
 cases l with
 |nil=>exact noF h
 |cons a r=>
  cases r with
  |nil=>exact⟨a,rfl,h⟩
  |cons=>exact noF h
noncomputable def Sf(f:AD->S->Ai)(n:Af)(T:Tc)(st:AD):S->Ai
 |.ife c a b=>Oa a λa=>Oa b λb=>Mh st λt xs ys=>Dy xs λx=>Dy ys λy=>GN n T t c&&OG c&&f x a&&f y b
 |_=>Ad
noncomputable def LX:Af->Af->Tc->AD->S->Ai
 |0,n,T,st,s=>LC n T st s
 |m+1,n,T,st,s=>LC n T st s||Sf (LX m n T) n T st s
noncomputable def nY:E->Ai
  | .bi b as=>(match b,as with
    |.len,.nil=>Ab
    | _,_=>Ad)
  |_=>Ad
noncomputable def nX:S->Ai
 |.expr e=>nY e
 |_=>Ad
noncomputable def Mb:Ss->Ai
 |.cons s _=>nX s
 |.nil=>Ad
noncomputable def hdB(T:Tc)(g:Ag)(c:Af):Ai:=inX T.exs g c&&inX T.rzs g c&&glB T g&&EL g
mutual
noncomputable def KZ:Af->Tc->AD->S->Ai
  |0,_,_,_=>Ad
  |n+1,T,st,s=>match s with
    |.pass=>decide (st.ctorIdx=25)
    |.brk=>Ad
    |.cont=>Ad
    |.asg i _ e=>KC st λx v=>T.N[i]? == Aa x&&HF T x&&A2 n T v e
    |.asgT ts e=>Ad
    |.expr e=>JK st λv=>Hx v&&A2 n T v e
    |.ret e=>Oc st λo=>match o with|some v=>A2 n T v e|none=>Ad
    |.retN=>Ad
    |.ife c a b=>Mh st λt xs ys=>GN n T t c&&chkSs n T xs a&&chkSs n T ys b
    |.fors t it body=>KA st λtg iter xs ys=>ys.isEmpty&&(En tg λx=>tgC T [t] [x]&&JN iter&&chkI n T Ad iter it&&chkSs n T xs body)
    |.forT ts it body=>KA st λtg iter xs zs=>zs.isEmpty&&(Io tg λys=>(E2 ys).isSome&&tgC T ts (tgN ys)&&JN iter&&chkI n T Ab iter it&&chkSs n T xs body)
    |.forO i ts body=>KA st λtg iter xs zs=>zs.isEmpty&&(Io tg λys=>(E2 ys).isSome&&tgC T ts (tgN ys)&&JN iter&&(G4 iter λg l=>Dy l λx=>g==("enumerate" : Ag)&&isB T g&&(En x λz=>isV T z i)&&chkSs n T xs body))
    |.whl c body=>N9 st λt xs ys=>ys.isEmpty&&(GN n T t c&&chkSs n T xs body)
    |.rais c as=>!(T.rzs.any λp=>p.2==c)||(LI st λa b=>b.isNone&&(match a with|some e=>IU e λg x xs=>inX T.rzs g c&&glB T g&&EL g&&decide (xs.length<=1000)&&chkEs n T (x::xs) as|none=>Ad))
    |.tryx bs c x h=>(match bs with | .cons b .nil=>(match OH st with|some (bt,[h1],[])=>(match xHd h1 with|some (g,m,h0,hs)=>hdB T g c&&T.N[x]? == Aa m&&T.sc.names.lookup m==Aa .local&&LX 6 n T bt b&&Om n T x (h0::hs) h|none=>Ad)|_=>Ad)|_=>Ad)
    |.try2 _ _ _ _ _ _ _=>Ad
    |.app i e=>SN st λx m l=>Dy l λv=>m==("append" : Ag)&&isV T x i&&Dg v&&A2 n T v e
    |.ext i e=>Ad
    |.rev i=>Ad
    |.clr i=>Ad
    |.put i k e=>Ad
    |.swp _ _ _=>Ad
    |.apop _ _ _=>Ad
    |.ins i k e=>Ad
    |.dput _ _ _=>Ad
    |.dsd _ _ _=>Ad
    |.rel _=>Ad
noncomputable def chkSs:Af->Tc->Ac AD->Ss->Ai
  |0,_,_,_=>Ad
  | n+1,T,sts,ss=>(match ss with
    |.nil=>sts.isEmpty
    |.cons (.rel i) ss=>chkSs n T sts ss
    | .cons s ss=>(match sts with
      |st::r=>KZ n T st s&&chkSs n T r ss
      | []=>Ad))||Mb ss
end
noncomputable def FE(fuel:Af)(hot:Ai)(fns:Ac (Ag×Af×Af))(bl:Ac Ag)(rzs exs gls:Ac (Ag×Af))(ps N:Ac Ag)(st:AD)(df:Df):Ai:=
  let sc:=Bv st
  sc.kind==.function && !sc.isCoroutine && !sc.isGenerator&&JC N&&N.take ps.length==ps&&ps.all (λx=>sc.names.lookup x==Aa .local||sc.names.lookup x==Aa .cell)&&sc.names.all (λy=>y.2 != .free)&&N.length==df.n &&
  (match hot with
  |true=>Ad
  | false=>chkSs fuel ⟨sc,N,fns,bl,rzs,exs,gls,Ab⟩ (D3 st) df.body)
structure XT (up:Af->Ac Af) (xn:Af->Ac D->R Ex) (CL:ClA) (rzs exs:Ac (Ag×Af)) (K:Fg) (mg:Ag->An Aj):Prop where
 xc:∀ c C,CL c=Aa C->XcOk K C
 rz:∀ p∈rzs,∃ C,CL p.2=Aa C/\mg p.1=Aa (.ref C)
 ex:∀ p∈exs,∃ C,mg p.1=Aa (.ref C)/\Ky K CL up p.2 C/\∀ c D,CL c=Aa D->Fd K (.ref D) (.ref C)=Aa ((up c).contains p.2)
 made:∀ c C ds,CL c=Aa C->xn c ds=.bad\/(xn c ds=.ok ⟨c,[]⟩/\D5 K C Ae=Ab)\/∃ f,XIn K mg C f/\JH xn c f ds
 nf:∀ c C,CL c=Aa C->∀ f:Ag,(f==("triple" : Ag)||(f==("points" : Ag)||f==("row" : Ag)))=Ab->FC K C=Ab/\Ar K (.ref C) f=Aa Ae
 xb:∀ c,(∀ p∈rzs,p.2≠c)->∀ ds,xn c ds=.bad
def L8(K:Fg)(mg:Ag->An Aj)(CL:ClA)(x:Ag)(d:D):Prop:=∃ u v,mg x=Aa u/\Bi v u/\∀ H A,Rep K CL H A v d
structure OS (K:Fg) (mg:Ag->An Aj):Prop where
 oc:∀ c C,OC K c=Aa C->OCls K C
 kit:∀ c C c' C',OC K c=Aa C->OC K c'=Aa C'->CY K (.ref C) (.ref C')=Aa ((oup c).contains c')
 at_:∀ c,c<3->∃ C,OC K c=Aa C/\mg (Mi c)=Aa (.ref C)
 mf:∀ c C m f,OC K c=Aa C->(m==("told" : Ag)||m==("shown" : Ag))=Ab->Ar K (.ref C) m=Aa (Aa (.ref f))->C4 K (.ref f)=Ab
def MkR(P:AJ)(w:AT)(K:Fg)(mg:Ag->An Aj)(base:AB)(CL:ClA)(F:Af->Ac D->R D)(k c:Af):Prop:=(∀ ds,F (900+c) ds=.bad)\/∃ C f fd G k',OC K c=Aa C/\Mk K C f/\Eb K fd ["self", "p", "numbers"] []/\k'+1=k/\FnOk P w K mg base (CXR P w) k' f fd ["self", "p", "numbers"] (spI K CL G)/\(∀ ds,ds.length=2->F (900+c) ds=.bad\/F (900+c) ds=(G ds).bind (D4 c))/\∀ ds y,G ds≠.exn y
structure VX (Z:Gam) (CL:ClA) (k:Af) (W:XW) (T:Tc) (X:Cx):Prop where
 sc:X.env.scope=T.sc
 kd:T.sc.kind=.function
 N:X.N=T.N
 nd:T.N.Nodup
 calm:X.calm=Ab
 room:Room k X.A
 bl:∀ x,x∈T.bl->X.mg x=Ae
 os:OS X.K X.mg
 mkr:∀ c,c<3->MkR X.prog X.w X.K X.mg X.base CL Z.F k c
 fn:∀ p∈T.fns,∃ f fd ps,G6 X.K X.mg p.1=Aa (.ref f)/\A8 X.K (.ref f)=Ab/\Eb X.K fd ps []/\ps.length=p.2.2%1000/\(p.2.2<1000->FnOk X.prog X.w X.K X.mg X.base (CXR X.prog X.w) k f fd ps (spD X.K CL (p.2.2%1000) (Z.fr p.2.1) (Z.F p.2.1)))/\(1000<=p.2.2->HotOk X.prog X.w X.K X.mg X.base k f fd ps (spH X.K CL (p.2.2%1000) (Z.fr p.2.1) (Z.F p.2.1)))
 own:Dt (model X.prog X.w) X.A X.env X.xe
 px:∀ A,Hy (CXR X.prog X.w) X (EKW X.K CL A W)
 rz:K1 X CL W
 xt:XT Z.up Z.xn CL T.rzs T.exs X.K X.mg
 gl:∀ p∈T.gls,L8 X.K X.mg CL p.1 (Z.G p.2)
 ex:T.tp=Ab->X.ex=[]
theorem R4:∀ A,Hy (CXR X.prog X.w) X (EKW X.K CL A W0):=λA pI Y H s ev s' I h=>by
 obtain⟨e,T,cls,dx,H',_,_,_,_,_,_,_,_,_,_,x,_,w⟩:=h;exact w.elim
theorem TR:K1 X CL W0:=λ_ _ _ _ _ _ _ _ _ _ _ _ _ _ z=>z.elim
def Rf{α:Type}(g f:Rho->R α):Prop:=∀ U,g U=.bad\/g U=f U
section
variable{X:Cx}{CL:ClA}{W:XW}{a:Am}{f g:Rho->R D}
theorem SE.ref(h:SE X CL W a f)(r:Rf g f):SE X CL W a g:=λA=>PE.weak (h A) λY H Q ⟨hA,U,q,p⟩=>⟨hA,U,q,by
 rcases r U with e|e
 .rw[e]at p;exact p.elim
 .rw[e]at p;exact p⟩
theorem SB.ref{f g:Rho->R Ai}(h:SB X CL W a f)(r:Rf g f):SB X CL W a g:=λA=>PT.weak (h A) λY H Q ⟨hA,U,q,p⟩=>⟨hA,U,q,by
 rcases r U with e|e
 .rw[e]at p;exact p.elim
 .rw[e]at p;exact p⟩
theorem SW.ref{f g:Rho->R Ai}(h:SW X CL W a f)(r:Rf g f):SW X CL W a g:=λA=>PW.weak (h A) λY H Q ⟨hA,U,q,p⟩=>⟨hA,U,q,by
 rcases r U with e|e
 .rw[e]at p;exact p.elim
 .rw[e]at p;exact p⟩
theorem SC.ref{fr:Ai}(h:SC X CL W fr a f)(r:Rf g f):SC X CL W fr a g:=λA=>PE.weak (h A) λY H Q ⟨hA,U,q,p⟩=>⟨hA,U,q,by
 rcases r U with e|e
 .rw[e]at p;exact p.elim
 .rw[e]at p;exact p⟩
theorem SS.ref{st:AD}{f g:Rho->O}(h:SS X CL W st f)(r:∀ U,g U=.bad\/g U=f U):SS X CL W st g:=λFz B=>PS.weak (h Fz B) λD Y H ⟨U,x,p⟩=>⟨U,x,by
 rcases r U with e|e
 .rw[e]at p;exact p.elim
 .rw[e]at p;exact p⟩
end
theorem Kc:∀{l:Ac Ag},JC l=Ab->l.Nodup
 |[],_=>List.nodup_nil
 |x::xs,h=>by
  unfold JC at h;simp only[Al,Bk,Ur,decide_eq_false_iff_not]at h;exact List.nodup_cons.mpr ⟨h.1,Kc h.2⟩
section
variable{T:Tc}{X:Cx}{Z:Gam}{CL:ClA}{k:Af}{W:XW}
theorem QU(h:OK T x=Ab):Vis T.sc x:=by
 unfold OK at h;split at h
 .exact .inl (by assumption)
 .exact .inr (.inl (by assumption))
 .exact .inr (.inr (by assumption))
 .cases h
theorem Jz(h:HF T x=Ab):Loc T.sc x:=by
 unfold HF at h;split at h
 .exact .inl (by assumption)
 .exact .inr (by assumption)
 .cases h
theorem Nn(h:EL x=Ab):FU.lookup x=Ae:=by
 unfold EL at h;exact Dl.mp (Bh h).2
theorem Fx(h:EL x=Ab):(x==("__debug__" : Ag))=Ad/\(x==("__classdict__" : Ag))=Ad/\x≠"__name__" := by
 unfold EL at h;replace h:=(Bh h).1;simp only[Al,Bk]at h;exact⟨h.1.1,h.1.2,λe=>by subst e;exact absurd h.2 (by simp)⟩
theorem Kq{i:Af}(v:VX Z CL k W T X)(h:isV T x i=Ab):PE X (.Name x pos) (Ec i):=by
 unfold isV at h;simp only[Al,AF]at h;obtain⟨h2,h3,_⟩:=Fx h.2;exact JB (by rw[v.N];exact h.1.1) (by rw[v.sc];exact QU h.1.2) h2 h3
theorem F8(v:VX Z CL k W T X)(h:isB T x=Ab):Gl X x/\X.mg x=Ae/\x≠"__name__"/\(x==("__debug__" : Ag))=Ad:=by
 unfold isB glB at h;simp only[Al,AF,Ur,AO]at h;obtain⟨h2,h3,h4⟩:=Fx h.2;exact⟨by show X.env.scope.names.lookup x=_;rw[v.sc];exact h.1.2,v.bl x h.1.1,h4,h2⟩
theorem CA{x:Am}(h:Dg x=Ab):Aq (x::xs) env=(Ad,eval x env)::Aq xs env:=by
 cases x<;>first|rfl|cases h
theorem Yq{y:Am}(h:Rk y=Ab):Nx y:=by
 intro o i;cases y<;>first|rfl|cases h
theorem Ku{e:Am}(h:JN e=Ab):∀ x,Cc e env x=pure x:=by
 intro x;cases e<;>first|rfl|cases h
theorem IL{e:Am}{t:An Am}{l:Af}(h:Hx e=Ab):Cp e t l env=pure Ad:=by
 cases e<;>first|rfl|cases h
theorem Zf{e:Am}(h:Lf e=Ab):∀ whole,Hf e env whole=(do let v <-whole;standAt e.pos;holding [v] (truthy v)):=by
 intro whole;cases e<;>first|rfl|cases h
theorem WN(v:VX Z CL k W T X)(scope:BL):relabel scope X.env=Og T.sc scope:=by
 unfold relabel Og;have:∀ n,X.env.kindOf n=T.sc.names.lookup n:=λn=>by show X.env.scope.names.lookup n=_;rw[v.sc]
 simp only[this,v.sc]
theorem NX{N':Ac Ag}(v:VX Z CL k W T X)(h:K0 T scope ts N'=Ab):BlockOk X scope N' ts/\N'.Nodup/\scope.kind=.function:=by
 unfold K0 at h;simp only[Al,AF,BV,BN,Go,J3]at h;obtain⟨⟨⟨⟨⟨h1,h2⟩,h4⟩,h5⟩,h6⟩,h7⟩:=h;have at7:∀ i x,N'[i]?=Aa x->i∈ts\/((scope.names.lookup x≠Aa .local/\scope.names.lookup x≠Aa .cell)/\(scope.names.lookup x≠Aa .free\/T.N[i]?=Aa x)):=λi x e=>by
  have hi:=(AY.mp e).1;have:=h7 i (CB.mpr hi);rcases this with z|z
  .exact .inl (by simpa using z)
  .rw[e]at z;simp only[Al,Go,J3,BN,AF]at z;exact .inr z
 refine⟨⟨h1,h2,λy hy hl=>by rw[h2 y hy,hl],λy hy hf=>?_,by rw[v.N];exact h5,λi x e hf hn=>?_,λi x e hl=>?_⟩,Kc h6,h1⟩
 .rw[v.sc];rcases h4 y hy with (z|z)|z
  .exact absurd hf z
  .exact .inl z
  .exact .inr z
 .rw[v.N];rcases at7 i x e with z|⟨_,z⟩
  .exact absurd z hn
  .exact z.resolve_left λq=>q hf
 .rcases at7 i x e with z|⟨z,_⟩
  .exact z
  .exact hl.elim (λq=>absurd q z.1) (λq=>absurd q z.2)
theorem VX.blk{xs:Ac Ag}{cl:Ac (Ag×Ak)}{s:Ao}{fp:Ac Ak}(v:VX Z CL k W T X)(h:K0 T scope ts (JR ts xs T.N)=Ab):VX Z CL k W0 (T.blk scope ts xs) (cxC X scope cl C (JR ts xs T.N) s H fp):=by
 obtain⟨_,h2,h3⟩:=NX v h;exact⟨WN v scope,h3,rfl,h2,v.calm,v.room,v.bl,v.os,v.mkr,v.fn,PassesOwn.never,R4,TR,v.xt,v.gl,λz=>nomatch z⟩
theorem Za{t:Af}(v:VX Z CL k W T X)(hfn:scope.names.lookup x=Aa .cell->X.fn x=Ab)(h:tgO T scope t x=Ab):PG X (.Name x pos) (E6 t):=by
 unfold tgO at h;simp only[Al,BN,AF]at h;rcases h with ⟨h1,h2|h2⟩
 .exact Kf (by rw[v.N];exact v.nd) (by rw[v.N];exact h1) (by rw[v.sc];exact .inl h2) (.inr (by rw[v.sc];exact h2))
 .exact Kf (by rw[v.N];exact v.nd) (by rw[v.N];exact h1) (by rw[v.sc];exact .inr h2.1) (.inl (hfn h2.2))
theorem Mr{y:Am}{r:Ac Am}{zs:Ac Ag}(h:E2 (y::r)=Aa zs):∃ x p ws,y=.Name x p/\E2 r=Aa ws/\zs=x::ws:=by
 cases y with
 |Name x p=>
  have h':(E2 r).map (x :: ·)=Aa zs:=h;cases e:E2 r with
  |none=>rw[e]at h';cases h'
  |some ws=>rw[e]at h';cases h';exact⟨x,p,ws,rfl,rfl,rfl⟩
 |_=>cases h
theorem MW(x:Ag)(p:Az)(r:Ac Am)(env:B2):Dp (.Name x p::r) env=(Ad,assign (.Name x p) env)::Dp r env:=rfl
theorem O3:∀(ys:Ac Am)(zs:Ac Ag),E2 ys=Aa zs->(Dp ys env).length=ys.length/\(Dp ys env).findIdx? (·.1)=Ae/\(Dp ys env).map (·.2)=ys.map λy=>assign y env:=by
 intro ys
 induction ys with
 |nil=>intro _ _;exact⟨rfl,rfl,rfl⟩
 |cons y r ih=>
  intro zs h;obtain⟨x,p,ws,rfl,e,rfl⟩:=Mr h;obtain⟨h1,h2,h3⟩:=ih ws e;rw[MW];refine⟨?_,?_,?_⟩
  .rw[AZ,AZ,h1]
  .rw[List.findIdx?_cons,h2];simp
  .rw[BY,BY,h3]
theorem Ze(v:VX Z CL k W T X):∀(ys:Ac Am)(ts:Ac Af)(zs:Ac Ag),E2 ys=Aa zs->tgB T ts zs=Ab->PGs X ys (ts.foldr (λt u=>HE (E6 t) u) HL)/\ts.length=ys.length:=by
 intro ys
 induction ys with
 |nil=>
  intro ts zs e h;cases e;cases ts with
  |nil=>exact⟨QL,rfl⟩
  |cons t ts=>cases h
 |cons y r ih=>
  intro ts zs e h;obtain⟨x,p,ws,rfl,e2,rfl⟩:=Mr e;cases ts with
  |nil=>cases h
  |cons t ts=>
   have h':(T.N[t]? == Aa x&&T.sc.names.lookup x==Aa .local&&tgB T ts ws)=Ab:=h;simp only[Al,AF]at h';obtain⟨h1,h2⟩:=ih ts ws e2 h'.2;exact⟨PZ (Kf (by rw[v.N];exact v.nd) (by rw[v.N];exact h'.1.1) (by rw[v.sc];exact .inl h'.1.2) (.inr (by rw[v.sc];exact h'.1.2))) h1 (by rw[MW];rfl),congrArg (· + 1) h2⟩
theorem Zd(v:VX Z CL k W T X)(hn:(E2 ys).isSome=Ab)(h:tgB T ts (tgN ys)=Ab):PG X (.Tuple ys kk pos) (KQ X.K ts.length (ts.foldr (λt u=>HE (E6 t) u) HL)):=by
 cases e:E2 ys with
 |none=>rw[e]at hn;cases hn
 |some zs=>
  have e2:tgN ys=zs:=by unfold tgN;rw[e];rfl
  rw[e2]at h;obtain⟨h1,h2⟩:=Ze v ys ts zs e h;obtain⟨h3,h4,_⟩:=O3 (env:=X.env) ys zs e;exact RY v.calm h1 (by rw[h3,h2]) h4
end
noncomputable def Es.len:Es->Af
 |.nil=>0
 |.cons _ es=>es.len+1
theorem Hv(Z:Gam)(U:Rho):∀(es:Es)(ds:Ac D),evA Z U es=.ok ds->ds.length=es.len
 |.nil,ds,h=>by cases h;rfl
 |.cons e es,ds,h=>by
  obtain⟨x,h1,h2⟩:=IK (Qt Z U e es ▸ h);obtain⟨xs,h3,h4⟩:=IK h2;cases h4;exact congrArg (· + 1) (Hv Z U es xs h3)
theorem Lq(Z:Gam)(U:Rho):∀(es:Es)(ds:Ac D),evB Z U es=.ok ds->ds.length=es.len
 |.nil,ds,h=>by cases h;rfl
 |.cons e es,ds,h=>by
  obtain⟨x,h1,h2⟩:=IK (Nj Z U e es ▸ h);obtain⟨xs,h3,h4⟩:=IK h2;cases h4;exact congrArg (· + 1) (Lq Z U es xs h3)
theorem RE(Z:Gam)(U:Rho)(e:E)(h:shE U e=Ab):top U e (evE Z U e)=evE Z U e:=by
 cases e with
 |var i=>
  show Dr U i=E7 U i;have h':shV U i=Ab:=h;unfold shV at h';unfold Dr E7;cases q:U[i]? with
  |none=>rfl
  |some x=>
   cases x with
   |none=>rfl
   |some y=>
    obtain⟨d,o⟩:=y;cases o with
    |true=>rw[q]at h';cases h'
    |false=>rfl
 |_=>rfl
theorem LB(Z:Gam)(U:Rho):∀(es:Es),G8 U es=Ab->evB Z U es=evA Z U es
 |.nil,_=>rfl
 |.cons e es,h=>by
  simp only[WW,Al]at h;rw[Qt,Nj,RE Z U e h.1,LB Z U es h.2]
theorem NR(Z:Gam)(c:E):Rf (λU=>evE Z U c) (λU=>top U c (evE Z U c)):=λU=>by
 by_cases h:shE U c=Ab
 .exact .inr (RE Z U c h).symm
 .cases c with
  |var i=>
   refine .inl ?_;show E7 U i=.bad;have h':¬ shV U i=Ab:=h;unfold shV at h';unfold E7;cases q:U[i]? with
   |none=>rfl
   |some x=>
    cases x with
    |none=>rfl
    |some y=>
     obtain⟨d,o⟩:=y;cases o with
     |true=>rfl
     |false=>rw[q]at h';exact absurd rfl h'
  |_=>exact absurd rfl h
def Pcs(X:Cx)(CL:ClA)(W:XW)(e:Am)(f:Rho->R D):Prop:=∃ tg iter elt ifs scope pos N' ts fi fc fe as g,e=.ListComp elt [⟨tg,iter,ifs,0⟩] scope pos/\BlockOk X scope N' ts/\SI X CL W tg iter fi/\GG X.K CL ts as g /\
 (∀ cl C s H fp,PG (cxC X scope cl C N' s H fp) tg g)/\(∀ cl C s H fp,STs (cxC X scope cl C N' s H fp) CL ifs fc)/\(∀ cl C s H fp,SE (cxC X scope cl C N' s H fp) CL W0 elt fe)/\(∀ x,Cc iter X.env x=pure x) /\
 ∀ U,f U=(fi U).bind λxs=>(noX (B4 (λx=>(as x U).bind fc) (λx=>(as x U).bind fe) xs)).bind λys=>.ok (.lst ys)
theorem Pcs.sc{e:Am}{f:Rho->R D}(hc:X.calm=Ab)(h:Pcs X CL W e f):SC X CL W Ab e f:=by
 obtain⟨tg,iter,elt,ifs,scope,pos,N',ts,fi,fc,fe,as,g,rfl,B,hi,hGG,hg,ht,he,hs,ef⟩:=h;exact SC.congr (ZU hc B hi hGG hg ht he hs) ef
structure OkE (Z:Gam) (CL:ClA) (W:XW) (X:Cx) (e:Am) (c:E):Prop where
 se:SE X CL W e (λU=>evE Z U c)
 st:ST X CL W e (λU=>top U c (evE Z U c))
 nw:DF Z c=Ab->SC X CL W Ab e (λU=>evE Z U c)
 cp:Hx e=Ad->Pcs X CL W e (λU=>evE Z U c)
section
variable{Z:Gam}{CL:ClA}{W:XW}{X:Cx}{e:Am}{c:E}
theorem CG(h:SE X CL W e (λU=>evE Z U c))(ht:∀ U r,top U c r=r)(hn:DF Z c=Ad)(hc:Hx e=Ab):OkE Z CL W X e c:=
 ⟨h,by simp only[ht];exact h.st,λz=>absurd z (by rw[hn];decide),λz=>absurd z (by rw[hc];decide)⟩
theorem NG(h:SC X CL W Ab e (λU=>evE Z U c))(ht:∀ U r,top U c r=r)(hc:Hx e=Ab):OkE Z CL W X e c:=
 ⟨h.se,by simp only[ht];exact h.se.st,λ_=>h,λz=>absurd z (by rw[hc];decide)⟩
theorem SH(hc:X.calm=Ab)(h:Pcs X CL W e (λU=>evE Z U c))(ht:∀ U r,top U c r=r):OkE Z CL W X e c:=
 ⟨(h.sc hc).se,by simp only[ht];exact(h.sc hc).se.st,λ_=>h.sc hc,λ_=>h⟩
end
theorem mG{k:Ki}(h:N6 k=Aa x):∃ T,tyK k=Aa T/\Cu x=Aa (.type T):=by
 cases k<;>simp only[N6]at h<;>cases h
 .exact⟨_,rfl,PyProof.Rows.boot_int⟩
 .exact⟨_,rfl,PyProof.Rows.boot_bool⟩
 .exact⟨_,rfl,UM⟩
 .exact⟨_,rfl,UL⟩
 .exact⟨_,rfl,UN⟩
structure Snd (Z:Gam) (CL:ClA) (k:Af) (n:Af):Prop where
 e:∀(W:XW)(T:Tc)(X:Cx)(x:Am)(c:E),VX Z CL k W T X->A2 n T x c=Ab->OkE Z CL W X x c
 b:∀(W:XW)(T:Tc)(X:Cx)(x:Am)(c:E),VX Z CL k W T X->GN n T x c=Ab->SB X CL W x (λU=>(top U c (evE Z U c)).bind BG)
 bs:∀(W:XW)(T:Tc)(X:Cx)(xs:Ac Am)(es:Es)(pos:Az),VX Z CL k W T X->chkBs n T xs es=Ab->xs≠[]->SW X CL W (.BoolOp .And xs pos) (λU=>(evN Z U es).bind BG)/\SW X CL W (.BoolOp .Or xs pos) (λU=>(evO Z U es).bind BG)
 es:∀(W:XW)(T:Tc)(X:Cx)(xs:Ac Am)(es:Es),VX Z CL k W T X->chkEs n T xs es=Ab->SA X CL W xs (λU=>evA Z U es)/\SAT X CL W xs (λU=>evB Z U es)/\xs.length=es.len/\(∀ pos,xs≠[]->SE X CL W (.BoolOp .And xs pos) (λU=>evN Z U es)/\SE X CL W (.BoolOp .Or xs pos) (λU=>evO Z U es))/\(∀ pos,(Br pos (Aq xs X.env)).any (·.1)=Ad)
 o:∀(W:XW)(T:Tc)(X:Cx)(x:An Am)(c:E),VX Z CL k W T X->chkO n T x c=Ab->SO X CL W x (λU=>(top U c (evE Z U c)).bind (slE c))
 t:∀(T:Tc)(X:Cx)(xs:Ac Am)(c:E),VX Z CL k W0 T X->chkT n T xs c=Ab->STs X CL xs (λU=>(top U c (evE Z U c)).bind BG)
 i:∀(W:XW)(T:Tc)(X:Cx)(tu:Ai)(tg x:Am)(i:I),VX Z CL k W T X->TK tu tg=Ab->chkI n T tu x i=Ab->SI X CL W tg x (λU=>evI Z U i)
section
variable{Z:Gam}{CL:ClA}{W:XW}{k n:Af}{T:Tc}{X:Cx}
theorem Yo:Snd Z CL k 0:=⟨λ_ _ _ _ _ _ h=>noF h,λ_ _ _ _ _ _ h=>noF h,λ_ _ _ _ _ _ _ h=>noF h,λ_ _ _ _ _ _ h=>noF h,λ_ _ _ _ _ _ h=>noF h,λ_ _ _ _ _ h=>noF h,λ_ _ _ _ _ _ _ _ _ h=>noF h⟩
theorem O7{x:Am}(h:Dg x=Ab)(hx:(Br pos (Aq xs env)).any (·.1)=Ad):(Br pos (Aq (x::xs) env)).any (·.1)=Ad:=by
 rw[CA h];show (Ad||(Br pos (Aq xs env)).any (·.1))=Ad;rw[hx];rfl
theorem cR(S:Snd Z CL k n)(W:XW)(T:Tc)(X:Cx)(xs:Ac Am)(es:Es)(v:VX Z CL k W T X)(h:chkEs (n+1) T xs es=Ab):SA X CL W xs (λU=>evA Z U es)/\SAT X CL W xs (λU=>evB Z U es)/\xs.length=es.len/\(∀ pos,xs≠[]->SE X CL W (.BoolOp .And xs pos) (λU=>evN Z U es)/\SE X CL W (.BoolOp .Or xs pos) (λU=>evO Z U es))/\(∀ pos,(Br pos (Aq xs X.env)).any (·.1)=Ad):=by
 cases xs with
 |nil=>
  cases es with
  |nil=>exact⟨RU,ZW,rfl,λ_ z=>absurd rfl z,λ_=>rfl⟩
  |cons=>exact noF h
 |cons x xs=>
  cases es with
  |nil=>exact noF h
  |cons e es=>
   replace h:(Dg x&&A2 n T x e&&chkEs n T xs es)=Ab:=h;simp only[Al]at h;obtain⟨⟨h0,h1⟩,h2⟩:=h;have he:=S.e W T X x e v h1;obtain⟨a1,a2,a3,a4,a5⟩:=S.es W T X xs es v h2;refine⟨QJ he.se a1 (CA h0),Ys he.st a2 (CA h0),congrArg (· + 1) a3,λpos _=>?_,λpos=>O7 h0 (a5 pos)⟩
   cases xs with
   |nil=>
    cases es with
    |nil=>exact⟨NJ he.se,NJ he.se⟩
    |cons=>cases a3
   |cons y ys=>
    cases es with
    |nil=>cases a3
    |cons e' es'=>
     obtain⟨b1,b2⟩:=a4 pos (by simp)
     exact⟨RQ he.se b1,kK he.se b2⟩
theorem iR(S:Snd Z CL k n)(W:XW)(T:Tc)(X:Cx)(x:An Am)(c:E)(v:VX Z CL k W T X)(h:chkO (n+1) T x c=Ab):SO X CL W x (λU=>(top U c (evE Z U c)).bind (slE c)):=by
 cases x with
 |none=>
  obtain rfl:=Yy h;exact YX
 |some x=>
  replace h:(!(LS c)&&A2 n T x c)=Ab:=h;rw[Al]at h;have q:=YW (S.e W T X x c v h.2).st;have e:slE c=λd=>(EH d).bind λi=>.ok (Aa i):=by
   funext d
   cases c<;>first|rfl|exact absurd (show Ad=Ab from h.1) Av
  rw[e];exact q
theorem iP(S:Snd Z CL k n)(T:Tc)(X:Cx)(xs:Ac Am)(c:E)(v:VX Z CL k W0 T X)(h:chkT (n+1) T xs c=Ab):STs X CL xs (λU=>(top U c (evE Z U c)).bind BG):=by
 cases xs with
 |nil=>
  replace h:=ZN h;obtain⟨b,rfl,h⟩:=h;subst h;exact Zj
 |cons x xs=>
  replace h:(xs.isEmpty&&GN n T x c)=Ab:=h;rw[Al]at h;obtain rfl:=Fi h.1;exact Zi (S.b W0 T X x c v h.2)
theorem iS(S:Snd Z CL k n)(W:XW)(T:Tc)(X:Cx)(tu:Ai)(tg x:Am)(i:I)(v:VX Z CL k W T X)(ht':TK tu tg=Ab)(h:chkI (n+1) T tu x i=Ab):SI X CL W tg x (λU=>evI Z U i):=by
 have ht:tu=Ab->lC tg=Ab:=λz=>by
  subst z;cases tg<;>first|rfl|cases ht'
 cases i with
 |e a=>
  exact nE (S.e W T X x a v h).se
 |rng a=>
  replace h:=Ht h;obtain⟨g,pp,l,qq,rfl,h⟩:=h;replace h:=Ep h;obtain⟨y,rfl,h⟩:=h;simp only[Al,AF]at h;obtain⟨⟨⟨rfl,h1⟩,h2⟩,h3⟩:=h;obtain⟨g1,g2,_,_⟩:=F8 v h1;exact bW (S.e W T X _ a v h3).st g1 g2 (CA h2)
 |rng2 a b=>
  replace h:=Ht h;obtain⟨g,pp,l,qq,rfl,h⟩:=h;replace h:=IN h;obtain⟨y,z,rfl,h⟩:=h;simp only[Al,AF]at h;obtain⟨⟨⟨⟨⟨rfl,h1⟩,h2⟩,h3⟩,h4⟩,h5⟩:=h;obtain⟨g1,g2,_,_⟩:=F8 v h1;exact YZ (S.e W T X _ a v h4).st (S.e W T X _ b v h5).st g1 g2 (by rw[CA h2,CA h3];rfl) (by rw[CA h3];rfl)
 |zip a b=>exact absurd (show Ad=Ab from h) Av
 |zip3 a b c=>exact absurd (show Ad=Ab from h) Av
 |enm a=>
  replace h:=Ht h;obtain⟨g,pp,l,qq,rfl,h⟩:=h;replace h:=Ep h;obtain⟨y,rfl,h⟩:=h;simp only[Al,AF]at h;obtain⟨⟨⟨⟨h0,rfl⟩,h1⟩,h2⟩,h3⟩:=h;obtain⟨g1,g2,_,_⟩:=F8 v h1;have hg:=ht h0;cases tg with
  |Tuple es m tpos=>exact Y_0 (S.e W T X _ a v h3).se g1 g2 (CA h2)
  |_=>cases hg
theorem Jr{c:Prop}[Fo c]{b:Ai}:(if c then R.ok (D.bl b) else .bad)=.bad\/∃ b',(if c then R.ok (D.bl b) else .bad)=.ok (.bl b'):=by
 by_cases h:c
 .rw[AA h];exact .inr ⟨_,rfl⟩
 .rw[AH h];exact .inl rfl
theorem Qw(op:CJ)(d d':D):Bs op d d'=.bad\/∃ b,Bs op d d'=.ok (.bl b):=by
 cases op with
 |Eq=>exact Jr
 |NotEq=>exact Jr
 |In=>
  cases d' with
  |lst ys=>exact Jr
  |tup ys=>exact Jr
  |dic kvs=>
   show (match Iu d with|some k=>R.ok (D.bl (kvs.any λp=>p.1==k))|none=>.bad)=.bad\/∃ b,(match Iu d with|some k=>R.ok (D.bl (kvs.any λp=>p.1==k))|none=>.bad)=.ok (.bl b)
   cases Iu d with
   |some k=>exact .inr ⟨_,rfl⟩
   |none=>exact .inl rfl
  |_=>exact .inl rfl
 |NotIn=>
  cases d' with
  |lst ys=>exact Jr
  |tup ys=>exact Jr
  |_=>exact .inl rfl
 |Is=>
  cases d' with
  |non=>cases d<;>first|exact .inr ⟨_,rfl⟩|exact .inl rfl
  |_=>cases d<;>first|exact .inl rfl|exact .inr ⟨_,rfl⟩
 |IsNot=>
  cases d' with
  |non=>cases d<;>first|exact .inr ⟨_,rfl⟩|exact .inl rfl
  |_=>cases d<;>first|exact .inl rfl|exact .inr ⟨_,rfl⟩
 |_=>
  cases d with
  |int i=>cases d'<;>first|exact .inr ⟨_,rfl⟩|exact .inl rfl
  |_=>exact .inl rfl
theorem Ra(op:CJ)(d d':D):(Bs op d d').bind BG=.bad\/(Bs op d d').bind BG=(Bs op d d').bind Di:=by
 rcases Qw op d d' with h|⟨b,h⟩
 .rw[h];exact .inl rfl
 .rw[h];exact .inr rfl
theorem iB(e e':E)(es:Es):Rf (λU=>(evN Z U (.cons e (.cons e' es))).bind BG) (λU=>((top U e (evE Z U e)).bind BG).bind λc=>if c=Ab then (evN Z U (.cons e' es)).bind BG else .ok Ad):=λU=>by
 have e0:evN Z U (.cons e (.cons e' es))=(evE Z U e).bind λx=>(Di x).bind λc=>if c=Ab then evN Z U (.cons e' es) else .ok (.bl Ad):=rfl
 dsimp only;rw[e0];rcases NR Z e U with z|z<;>dsimp only at z
 .rw[z];exact .inl rfl
 .rw[<-z];cases evE Z U e with
  |bad=>exact .inl rfl
  |exn x=>exact .inr rfl
  |ok d=>
   cases d with
   |bl b=>cases b<;>exact .inr rfl
   |_=>exact .inl rfl
theorem iA(e e':E)(es:Es):Rf (λU=>(evO Z U (.cons e (.cons e' es))).bind BG) (λU=>((top U e (evE Z U e)).bind BG).bind λc=>if c=Ab then .ok Ab else (evO Z U (.cons e' es)).bind BG):=λU=>by
 have e0:evO Z U (.cons e (.cons e' es))=(evE Z U e).bind λx=>(Di x).bind λc=>if c=Ab then .ok (.bl Ab) else evO Z U (.cons e' es):=rfl
 dsimp only;rw[e0];rcases NR Z e U with z|z<;>dsimp only at z
 .rw[z];exact .inl rfl
 .rw[<-z];cases evE Z U e with
  |bad=>exact .inl rfl
  |exn x=>exact .inr rfl
  |ok d=>
   cases d with
   |bl b=>cases b<;>exact .inr rfl
   |_=>exact .inl rfl
theorem Rf.tru(e:E):Rf (λU=>(evE Z U e).bind BG) (λU=>(top U e (evE Z U e)).bind BG):=λU=>by
 rcases NR Z e U with z|z<;>dsimp only at z ⊢
 .rw[z];exact .inl rfl
 .rw[<-z];exact .inr rfl
theorem cS(S:Snd Z CL k n)(W:XW)(T:Tc)(X:Cx)(xs:Ac Am)(es:Es)(pos:Az)(v:VX Z CL k W T X)(h:chkBs (n+1) T xs es=Ab)(hne:xs≠[]):SW X CL W (.BoolOp .And xs pos) (λU=>(evN Z U es).bind BG)/\SW X CL W (.BoolOp .Or xs pos) (λU=>(evO Z U es).bind BG):=by
 cases xs with
 |nil=>exact absurd rfl hne
 |cons x xs=>
  cases es with
  |nil=>exact noF h
  |cons e es=>
   replace h:(GN n T x e&&chkBs n T xs es)=Ab:=h;simp only[Al]at h;obtain⟨h1,h2⟩:=h;have he:=S.b W T X x e v h1;cases xs with
   |nil=>
    cases es with
    |nil=>exact⟨SW.ref (Zh he) (Rf.tru e),SW.ref (cM he) (Rf.tru e)⟩
    |cons=>
     cases n with
     |zero=>exact absurd (show Ad=Ab from h2) Av
     |succ n=>exact absurd (show Ad=Ab from h2) Av
   |cons y ys=>
    cases es with
    |nil=>
     cases n with
     |zero=>exact absurd (show Ad=Ab from h2) Av
     |succ n=>exact absurd (show Ad=Ab from h2) Av
    |cons e' es'=>
     obtain⟨b1,b2⟩:=S.bs W T X (y::ys) (.cons e' es') pos v h2 (by simp)
     exact⟨SW.ref (cN he b1) (iB e e' es'),SW.ref (iO he b2) (iA e e' es')⟩
theorem Y_9(S:Snd Z CL k n){x:Am}{ops:Ac CJ}{b:BI}(v:VX Z CL k W T X)(h:OL T (A2 n) x ops ys b as=Ab):SB X CL W (.Compare x ops ys pos) (λU=>(top U (.bi b as) (evE Z U (.bi b as))).bind BG):=by
 exact absurd (show Ad=Ab from h) Av
theorem iU(S:Snd Z CL k n)(W:XW)(T:Tc)(X:Cx)(x:Am)(c:E)(v:VX Z CL k W T X)(h:GN (n+1) T x c=Ab):SB X CL W x (λU=>(top U c (evE Z U c)).bind BG):=by
 have plain:∀ e,Lf e=Ab->A2 n T e c=Ab->SB X CL W e (λU=>(top U c (evE Z U c)).bind BG):=λe h1 h2=>eT (S.e W T X e c v h2).st (Zf h1)
 replace h:((Jd x λo x=>decide (o=.Not)&&(Mg c λa=>GN n T x a))||(Ip x λo xs _=>(decide (o=.And)&&(LO c λes=>chkBs n T xs es && !xs.isEmpty))||(decide (o=.Or)&&(Mf c λes=>chkBs n T xs es && !xs.isEmpty)))||(KB x λx os ys=>(LK c λop a b=>Dy os λop'=>Dy ys λy=>decide (op'=op) && !behindInMarks op y&&A2 n T x a&&A2 n T y b)||(LL c λop1 op2 a b c=>G3 os λo1 o2=>G3 ys λy z=>decide (o1=op1)&&decide (o2=op2) && !lastMarks [op1,op2] [y,z]&&A2 n T x a&&A2 n T y b&&A2 n T z c)||(LM c λb as=>OL T (A2 n) x os ys b as))||Lf x&&A2 n T x c)=Ab:=h
 replace h:=(orT h).imp_left λz=>(orT z).imp_left orT
 rcases h with ((h|h)|h)|h
 .replace h:=Ln h;obtain⟨o,y,p,rfl,h⟩:=h;replace h:=Bh h;obtain⟨h0,h⟩:=h;obtain rfl:=AK h0;replace h:=ZL h;obtain⟨a,rfl,h⟩:=h
  .skip
   refine SB.ref (eU (S.b W T X _ a v h)) λU=>?_
   show ((top U a (evE Z U a)).bind λx=>(Di x).bind λb=>.ok (.bl (!b))).bind BG=.bad\/((top U a (evE Z U a)).bind λx=>(Di x).bind λb=>.ok (.bl (!b))).bind BG=_
   cases top U a (evE Z U a) with
   |bad=>exact .inl rfl
   |exn x=>exact .inr rfl
   |ok d=>cases d<;>first|exact .inr rfl|exact .inl rfl
 .replace h:=Kh h;obtain⟨o,ys,p,rfl,h⟩:=h;replace h:=orT h;rcases h with h|h
  .replace h:=Bh h;obtain⟨h0,h⟩:=h;obtain rfl:=AK h0;replace h:=X8 h;obtain⟨es,rfl,h⟩:=h;simp only[Al,Bk,Dk]at h;exact(S.bs W T X _ _ _ v h.1 h.2).1.sb
  .replace h:=Bh h;obtain⟨h0,h⟩:=h;obtain rfl:=AK h0;replace h:=ZK h;obtain⟨es,rfl,h⟩:=h;simp only[Al,Bk,Dk]at h;exact(S.bs W T X _ _ _ v h.1 h.2).2.sb
 .replace h:=Qi h;obtain⟨w,os,ys,p,rfl,h⟩:=h;replace h:=(orT h).imp_left orT;rcases h with (h|h)|h
  .replace h:=X3 h;obtain⟨op,a,b,rfl,h⟩:=h;replace h:=Ep h;obtain⟨op',rfl,h⟩:=h;replace h:=Ep h;obtain⟨y,rfl,h⟩:=h
   .simp only[Al,Bk,AO]at h;obtain⟨⟨⟨rfl,h1⟩,h2⟩,h3⟩:=h;refine SB.ref (eV (Lm v.room.units _) (S.e W T X _ a v h2).st (S.e W T X _ b v h3).st h1) λU=>?_
    show ((top U a (evE Z U a)).bind λx=>(top U b (evE Z U b)).bind λy=>Bs op' x y).bind BG=.bad\/((top U a (evE Z U a)).bind λx=>(top U b (evE Z U b)).bind λy=>Bs op' x y).bind BG=_
    cases top U a (evE Z U a) with
    |bad=>exact .inl rfl
    |exn x=>exact .inr rfl
    |ok d=>
     cases top U b (evE Z U b) with
     |bad=>exact .inl rfl
     |exn x=>exact .inr rfl
     |ok d'=>
      dsimp only[R.bind];exact Ra _ d d'
  .replace h:=X4 h;obtain⟨op1,op2,a,b,c,rfl,h⟩:=h;replace h:=IN h;obtain⟨o1,o2,rfl,h⟩:=h;replace h:=IN h;obtain⟨y,z,rfl,h⟩:=h
   .simp only[Al,Bk,AO]at h;obtain⟨⟨⟨⟨⟨rfl,rfl⟩,h1⟩,h2⟩,h3⟩,h4⟩:=h;refine SB.ref (Yr v.room.units (S.e W T X _ a v h2).st (S.e W T X _ b v h3).st (S.e W T X _ c v h4).st h1) λU=>?_
    show ((top U a (evE Z U a)).bind λx=>(top U b (evE Z U b)).bind λy=>(Bs o1 x y).bind λz=>(Di z).bind λk=>if k=Ab then (top U c (evE Z U c)).bind λu=>Bs o2 y u else .ok (.bl Ad)).bind BG=.bad\/((top U a (evE Z U a)).bind λx=>(top U b (evE Z U b)).bind λy=>(Bs o1 x y).bind λz=>(Di z).bind λk=>if k=Ab then (top U c (evE Z U c)).bind λu=>Bs o2 y u else .ok (.bl Ad)).bind BG=_
    cases top U a (evE Z U a) with
    |bad=>exact .inl rfl
    |exn x=>exact .inr rfl
    |ok d=>
     cases top U b (evE Z U b) with
     |bad=>exact .inl rfl
     |exn x=>exact .inr rfl
     |ok d'=>
      dsimp only[R.bind];cases Bs o1 d d' with
      |bad=>exact .inl rfl
      |exn x=>exact .inr rfl
      |ok d3=>
       cases d3 with
       |bl k=>
        cases k with
        |false=>exact .inr rfl
        |true=>
         dsimp only[R.bind,Di];rw[AA rfl,AA rfl];cases top U c (evE Z U c) with
         |bad=>exact .inl rfl
         |exn x=>exact .inr rfl
         |ok d4=>exact Ra _ d' d4
       |_=>exact .inl rfl
  .replace h:=X5 h;obtain⟨b,as,rfl,h⟩:=h;exact Y_9 S v h
 .exact plain _ (Bh h).1 (Bh h).2
end
section
variable{Z:Gam}{CL:ClA}{W:XW}{k n:Af}{T:Tc}{X:Cx}
theorem mH{b:BI}{x:Am}(v:VX Z CL k W T X)(hb:N7 b=Aa g)(hg:isB T g=Ab)(hs:SAT X CL W (x::xs) (λU=>evB Z U as))(h0:Dg x=Ab)(hpl:∀ pos,(Br pos (Aq xs X.env)).any (·.1)=Ad):OkE Z CL W X (.Call (.Name g p) (x::xs) [] pos) (.bi b as):=by
 obtain⟨g1,g2,g3,g4⟩:=F8 v hg;cases b<;>simp only[N7]at hb<;>cases hb
 .exact CG (Kv hU g1 g2 PySem.boot_len hs g3 g4 (CA h0) hpl) (λ_ _=>rfl) rfl rfl
 .exact CG (Kv (hJ v.calm) g1 g2 PyProof.Rows.boot_max hs g3 g4 (CA h0) hpl) (λ_ _=>rfl) rfl rfl
 .exact CG (Kv (gZ v.calm) g1 g2 PyProof.Rows.boot_min hs g3 g4 (CA h0) hpl) (λ_ _=>rfl) rfl rfl
 .exact NG (bS aO g1 g2 UL hs g3 g4 (CA h0) hpl) (λ_ _=>rfl) rfl
 .exact CG (RP YO g1 g2 UN hs g3 g4 (CA h0) hpl) (λ_ _=>rfl) rfl rfl
 .exact CG (Kv (hZ v.calm) g1 g2 PyProof.Rows.boot_all hs g3 g4 (CA h0) hpl) (λ_ _=>rfl) rfl rfl
 .exact CG (Kv (hV v.calm) g1 g2 PyProof.Rows.boot_any hs g3 g4 (CA h0) hpl) (λ_ _=>rfl) rfl rfl
 .exact CG (RP gY g1 g2 UM hs g3 g4 (CA h0) hpl) (λ_ _=>rfl) rfl rfl
theorem WR{β:Type}[BEq α][LawfulBEq α]{a:α}{b:β}:∀{l:Ac (α×β)},l.lookup a=Aa b->(a,b)∈l:=by
 intro l
 induction l with
 |nil=>intro h;cases h
 |cons p r ih=>
  intro h;obtain⟨x,y⟩:=p;by_cases z:(a==x)=Ab
  .simp only[BH,z]at h;cases h;rw[eq_of_beq z];exact AC
  .have z':(a==x)=Ad:=by simpa using z
   simp only[BH,z']at h;exact Aw _ (ih h)
theorem IV{l:Ac (Ag×Af)}(h:inX l g c=Ab):(g,c)∈l:=by
 unfold inX at h;simp only[D8,Al,AF]at h;obtain⟨p,hp,rfl,rfl⟩:=h;exact hp
theorem Ig{x:Am}{es:Es}(h:chkEs n T (x::xs) es=Ab):Dg x=Ab/\∃ e es',es=.cons e es'/\∃ m,n=m+1/\chkEs m T xs es'=Ab:=by
 cases n with
 |zero=>exact noF h
 |succ m=>
  cases es with
  |nil=>exact noF h
  |cons e es=>
   replace h:(Dg x&&A2 m T x e&&chkEs m T xs es)=Ab:=h;simp only[Al]at h;exact⟨h.1.1,e,es,rfl,m,rfl,h.2⟩
theorem IJ:∀(m:Af)(xs:Ac Am)(es:Es),chkEs m T xs es=Ab->∀ pos,(Br pos (Aq xs X.env)).any (·.1)=Ad:=by
 intro m
 induction m with
 |zero=>intro xs es h;exact noF h
 |succ m ih=>
  intro xs es h pos;cases xs with
  |nil=>rfl
  |cons x xs=>
   obtain⟨h0,e,es',rfl,m',e1,h1⟩:=Ig h;cases e1;exact O7 h0 (ih xs es' h1 pos)
theorem bA(S:Snd Z CL k n){x:Am}{b:BI}(v:VX Z CL k W T X)(h:(match L5 as with|some (s,a)=>HB x λf l ks cp=>ks.isEmpty&&(GJ f λo m ap=>m==("join" : Ag)&&ap.endLine==cp.line&&(Ga o λc=>decide (c=.str s)&&decide (b=.sjoin)&&(Dy l λy=>Dg y&&A2 n T y a)))|none=>Ad)=Ab):OkE Z CL W X x (.bi b as):=by
 cases q1:L5 as with
 |none=>rw[q1]at h;cases h
 |some t=>
  obtain⟨s,a⟩:=t;rw[q1]at h;obtain⟨e,te⟩:=aG q1;subst e;replace h:=Kg h;obtain⟨f,l,ks,cp,rfl,h⟩:=h;replace h:=Bh h;obtain⟨h0,h⟩:=h;obtain rfl:=Fi h0;replace h:=IP h;obtain⟨o,m,ap,rfl,h⟩:=h;replace h:=Bh h;obtain⟨h1,h⟩:=h;replace h1:=Bh h1;obtain⟨h1,h2⟩:=h1;obtain rfl:=eq_of_beq h1;replace h:=Ie h;obtain⟨c,u,p,rfl,h⟩:=h;replace h:=Bh h;obtain⟨h3,h⟩:=h;replace h3:=Bh h3;obtain⟨h3,h4⟩:=h3;obtain rfl:=AK h3;obtain rfl:=AK h4;replace h:=Ep h;obtain⟨y,rfl,h⟩:=h;replace h:=Bh h;obtain⟨h5,h6⟩:=h;refine CG (SE.congr (ZT (S.e W T X _ a v h6).se rfl (by rw[CA h5];rfl) h2 (by rw[CA h5];rfl)) λU=>?_) (λ_ _=>rfl) rfl rfl
  simp only[R9,evB,R.bind_assoc,R.bind_ok,QX,Q6,te]
theorem Yn(S:Snd Z CL k n){x:Am}{b:BI}(v:VX Z CL k W T X)(h:(match Mc as with|some (a,s)=>HB x λf l ks cp=>ks.isEmpty&&(GJ f λo m ap=>m==("split" : Ag)&&ap.endLine==cp.line&&JM o&&A2 n T o a&&(Dy l λy=>Ga y λc=>decide (c=.str s)&&decide (b=.ssplit)))|none=>Ad)=Ab):OkE Z CL W X x (.bi b as):=by
 cases q1:Mc as with
 |none=>rw[q1]at h;cases h
 |some t=>
  obtain⟨a,s⟩:=t;rw[q1]at h;have e:=aZ q1;subst e;replace h:=Kg h;obtain⟨f,l,ks,cp,rfl,h⟩:=h;replace h:=Bh h;obtain⟨h0,h⟩:=h;obtain rfl:=Fi h0;replace h:=IP h;obtain⟨o,m,ap,rfl,h⟩:=h;replace h:=Bh h;obtain⟨h1,h⟩:=h;replace h1:=Bh h1;obtain⟨h1,h6⟩:=h1;replace h1:=Bh h1;obtain⟨h1,h3⟩:=h1;replace h1:=Bh h1;obtain⟨h1,h2⟩:=h1;obtain rfl:=eq_of_beq h1;replace h:=Ep h;obtain⟨y,rfl,h⟩:=h;replace h:=Ie h;obtain⟨c,u,p,rfl,h⟩:=h;replace h:=Bh h;obtain⟨h4,h5⟩:=h;obtain rfl:=AK h4;obtain rfl:=AK h5;refine CG (SE.congr (Yp (S.e W T X _ a v h6).st (Lx h3) h2).se λU=>?_) (λ_ _=>rfl) rfl rfl
  simp only[R9,evB,R.bind_assoc,R.bind_ok,QX,Q6]
theorem eX(S:Snd Z CL k n){x:Am}{b:BI}(v:VX Z CL k W T X)(h:(match OX as with|some a=>(match TU x with|some y=>decide (b=.rvs)&&A2 n T y a|none=>Ad)|none=>Ad)=Ab):OkE Z CL W X x (.bi b as):=by
 simp[OX]at h
theorem cE(S:Snd Z CL k n){x:Am}{b:BI}(v:VX Z CL k W T X)(h:(match Oo as with|some (a,c)=>(match TZ x with|some (y,z,_)=>decide (b=.tlt) && !behindInMarks .Lt z&&A2 n T y a&&A2 n T z c|none=>Ad)|none=>Ad)=Ab):OkE Z CL W X x (.bi b as):=by
 simp[Oo]at h
theorem gA{x:Am}{b:BI}(v:VX Z CL k W T X)(h:TW T x b as=Ab):OkE Z CL W X x (.bi b as):=by
 exact absurd h Av
theorem cP(S:Snd Z CL k n){x:Am}{b:BI}(v:VX Z CL k W T X)(h:(match Op as with|some (a,k)=>(match TM x with|some (y,j)=>decide (b=.stp)&&decide (j=k)&&decide (0<=k)&&A2 n T y a|none=>Ad)|none=>Ad)=Ab):OkE Z CL W X x (.bi b as):=by
 simp[Op]at h
theorem gE(S:Snd Z CL k n){x:Am}{b:BI}(v:VX Z CL k W T X)(h:(match Oh as with|some (a,c)=>(match TH x with|some (g,h,y,z)=>decide (b=.list)&&g==("list" : Ag)&&h==("range" : Ag)&&isB T g&&isB T h&&Dg y&&Dg z&&A2 n T y a&&A2 n T z c|none=>Ad)|none=>Ad)=Ab):OkE Z CL W X x (.bi b as):=by
 simp[Oh]at h
theorem Zx(S:Snd Z CL k n){x:Am}{b:BI}(v:VX Z CL k W T X)(h:(match Oq as with|some a=>(match TF x with|some (g,h,y)=>decide (b=.lset)&&g==("len" : Ag)&&h==("set" : Ag)&&isB T g&&isB T h&&Dg y&&A2 n T y a|none=>Ad)|none=>Ad)=Ab):OkE Z CL W X x (.bi b as):=by
 simp[Oq]at h
theorem iT(S:Snd Z CL k n)(W:XW)(T:Tc)(X:Cx)(x:Am)(c:E)(v:VX Z CL k W T X)(h:A2 (n+1) T x c=Ab):OkE Z CL W X x c:=by
 cases c with
 |non=>
  replace h:=Ie h;obtain⟨c,u,p,rfl,h⟩:=h;obtain rfl:=AK h;exact CG eJ (λ_ _=>rfl) rfl rfl
 |bl b=>
  replace h:=Ie h;obtain⟨c,u,p,rfl,h⟩:=h;obtain rfl:=AK h;exact CG SQ (λ_ _=>rfl) rfl rfl
 |int i=>
  replace h:=Ie h;obtain⟨c,u,p,rfl,h⟩:=h;obtain rfl:=AK h;exact CG eQ (λ_ _=>rfl) rfl rfl
 |str i=>
  replace h:=Ie h;obtain⟨c,u,p,rfl,h⟩:=h;obtain rfl:=AK h;exact CG Ls (λ_ _=>rfl) rfl rfl
 |var i=>
  replace h:=EE h;obtain⟨y,p,rfl,h⟩:=h;exact⟨bX (Kq v h),JA (Kq v h),λz=>(nomatch z),λz=>(nomatch z)⟩
 |glob g=>exact absurd (show Ad=Ab from h) Av
 |bin op a b=>
  replace h:=Qk h;obtain⟨y,op',z,p,rfl,h⟩:=h;simp only[Al,AO]at h;obtain⟨⟨rfl,h1⟩,h2⟩:=h;have ha:=(S.e W T X _ a v h1).st;have hb:=(S.e W T X _ b v h2).st;refine⟨NK (Nm _) ha hb,(NK (Nm _) ha hb).st,λz=>?_,λz=>nomatch z⟩
  cases op'<;>first|exact bT ha hb|cases z
 |un op a=>
  replace h:=Ln h;obtain⟨o,y,p,rfl,h⟩:=h;replace h:=Bh h;obtain⟨h0,h⟩:=h;obtain rfl:=AK h0;simp only[Al,AO]at h;obtain⟨rfl,h1⟩:=h;exact CG (eK (S.e W T X _ a v h1).st) (λ_ _=>rfl) rfl rfl
 |no a=>
  replace h:=Ln h;obtain⟨o,y,p,rfl,h⟩:=h;replace h:=Bh h;obtain⟨h0,h⟩:=h;obtain rfl:=AK h0;exact CG (RM (S.e W T X _ a v h).st) (λ_ _=>rfl) rfl rfl
 |and es=>
  replace h:=Kh h;obtain⟨o,ys,p,rfl,h⟩:=h;replace h:=Bh h;obtain⟨h0,h⟩:=h;obtain rfl:=AK h0;simp only[Al,Bk,Dk]at h;exact CG ((S.es W T X _ es v h.1).2.2.2.1 _ h.2).1 (λ_ _=>rfl) rfl rfl
 |or es=>
  replace h:=Kh h;obtain⟨o,ys,p,rfl,h⟩:=h;replace h:=Bh h;obtain⟨h0,h⟩:=h;obtain rfl:=AK h0;simp only[Al,Bk,Dk]at h;exact CG ((S.es W T X _ es v h.1).2.2.2.1 _ h.2).2 (λ_ _=>rfl) rfl rfl
 |cmp op a b=>
  replace h:=Qi h;obtain⟨y,os,ys,p,rfl,h⟩:=h;replace h:=Ep h;obtain⟨op',rfl,h⟩:=h;replace h:=Ep h;obtain⟨z,rfl,h⟩:=h;simp only[Al,Bk,AO]at h;obtain⟨⟨⟨rfl,h1⟩,h2⟩,h3⟩:=h;exact CG (eS (Lm v.room.units _) (S.e W T X _ a v h2).st (S.e W T X _ b v h3).st h1) (λ_ _=>rfl) rfl rfl
 |cmp2 op1 op2 a b c=>exact absurd (show Ad=Ab from h) Av
 |ite c a b=>exact absurd (show Ad=Ab from h) Av
 |call f as=>
  replace h:=Ju h;obtain⟨g,pp,y,ys,qq,rfl,h⟩:=h;simp only[Al,D8,AF,AO]at h;obtain⟨⟨⟨⟨⟨p,hp,⟨rfl,rfl⟩,hl⟩,h900⟩,h1⟩,h2⟩,h3⟩:=h;obtain⟨fa,fd,ps,m1,m2,m3,m4,m5,_⟩:=v.fn p hp;have hlt:p.2.2<1000:=by omega
  rw[Gz hlt]at m4 m5;have m5:=m5 hlt;obtain⟨n2,n3,n4⟩:=Fx h2;replace m1:=Ng m1 (Nn h2);obtain⟨a1,a2,a3,a4,a5⟩:=S.es W T X _ as v h3;obtain⟨s0,e,es',rfl,m,rfl,s1⟩:=Ig h3;have q:SC X CL W (Z.fr p.2.1) (.Call (.Name p.1 pp) (y::ys) [] qq) (λU=>evE Z U (.call p.2.1 (.cons e es'))):=ZV (sh:=λU=>G8 U (.cons e es')) m5 v.room (by unfold glB at h1;show X.env.scope.names.lookup p.1=_;rw[v.sc];exact eq_of_beq h1) m1 m2 m3 v.px a1 a2 (λU z=>LB Z U _ z) (λU ds z=>by rw[Lq Z U _ _ z,<-a3,hl];rfl) n2 (CA s0) (IJ m ys es' s1)
  exact⟨q.se,q.se.st,λz=>by
   have z':Z.fr p.2.1=Ab:=z;rw[z']at q;exact q,λz=>nomatch z⟩
 |bi b as=>
  unfold A2 at h;dsimp only at h;simp only[BN]at h;rcases h with (((((((h|h)|h)|h)|h)|h)|h)|h)|h
  .replace h:=Ju h;obtain⟨g,pp,y,ys,qq,rfl,h⟩:=h;simp only[Al,AF]at h;obtain⟨⟨h1,h2⟩,h3⟩:=h;obtain⟨s0,e,es',rfl,m,rfl,s1⟩:=Ig h3;exact mH v h1 h2 (S.es W T X _ _ v h3).2.1 s0 (IJ m _ es' s1)
  .exact gA v h
  .exact gE S v h
  .exact cP S v h
  .exact Zx S v h
  .exact cE S v h
  .exact bA S v h
  .exact Yn S v h
  .exact eX S v h
 |isi a ks=>
  replace h:=orT h;rcases h with h|h
  .skip
   replace h:=Ep h;obtain⟨k',rfl,h⟩:=h;replace h:=Ht h;obtain⟨g,pp,l,qq,rfl,h⟩:=h;replace h:=IN h;obtain⟨y,t,rfl,h⟩:=h;replace h:=EE h;obtain⟨t,pt,rfl,h⟩:=h;simp only[Al,AF]at h;obtain⟨⟨⟨⟨⟨rfl,h1⟩,h2⟩,h3⟩,h4⟩,h5⟩:=h;obtain⟨g1,g2,_,_⟩:=F8 v h1;obtain⟨b1,b2,b3,b4⟩:=F8 v h3;obtain⟨ty,t1,t2⟩:=mG h2;exact CG (eP t1 g1 g2 b1 b2 t2 b3 b4 (S.e W T X _ a v h5).st (CA h4)) (λ_ _=>rfl) rfl rfl
  .replace h:=Ep h;obtain⟨k',rfl,h⟩:=h;replace h:=Ht h;obtain⟨g,pp,l,qq,rfl,h⟩:=h;replace h:=IN h;obtain⟨y,t,rfl,h⟩:=h;replace h:=EE h;obtain⟨t,pt,rfl,h⟩:=h;simp only[Al,AF]at h;obtain⟨⟨⟨⟨rfl,h1⟩,h4⟩,h5⟩,h6⟩:=h;obtain⟨g1,g2,_,_⟩:=F8 v h1;cases k' with
   |verr=>
    replace h6:=Bh (a:=t==("ValueError" : Ag)) h6;obtain⟨h6,h7⟩:=h6;obtain rfl:=eq_of_beq h6;obtain⟨b1,b2,_,_⟩:=F8 v h7;exact CG (RN v.xt.xc g1 g2 b1 b2 (S.e W T X _ a v h5).st (CA h4)) (λ_ _=>rfl) rfl rfl
   |cls c=>
    replace h6:=Bh (a:=inX T.exs t c&&glB T t) h6;obtain⟨h6,h8⟩:=h6;replace h6:=Bh h6;obtain⟨h6,h7⟩:=h6;obtain⟨C,m1,m3,_⟩:=v.xt.ex _ (IV h6);obtain⟨n2,_,_⟩:=Fx h8;exact CG (RO v.xt.xc g1 g2 (by unfold glB at h7;show X.env.scope.names.lookup _=_;rw[v.sc];exact eq_of_beq h7) m1 m3 n2 (S.e W T X _ a v h5).st (CA h4)) (λ_ _=>rfl) rfl rfl
   |_=>exact noF h6
 |idx a i=>
  replace h:=P2 h;obtain⟨y,z,p,rfl,h⟩:=h;simp only[Al]at h;obtain⟨⟨h1,h2⟩,h3⟩:=h;exact CG (eR (Yq h1) (S.e W T X _ a v h2).st (S.e W T X _ i v h3).st) (λ_ _=>rfl) rfl rfl
 |sl a lo hi=>
  replace h:=P2 h;obtain⟨y,s,p,rfl,h⟩:=h;replace h:=XX h;obtain⟨l,u,st,p',rfl,h⟩:=h;replace h:=Bh h;obtain⟨h0,h⟩:=h;obtain rfl:=Dl.mp h0;simp only[Al]at h;obtain⟨⟨h1,h2⟩,h3⟩:=h;refine NG (SC.congr (iY (S.e W T X _ a v h1).st (S.o W T X _ lo v h2) (S.o W T X _ hi v h3)) λU=>?_) (λ_ _=>rfl) rfl
  show ((top U a (evE Z U a)).bind λx=>(top U lo (evE Z U lo)).bind λl=>(slE lo l).bind λl'=>(top U hi (evE Z U hi)).bind λh=>(slE hi h).bind λh'=>slD x l' h')=_
  simp only[R.bind_assoc]
 |tup es=>
  replace h:=Jq h;obtain⟨ys,cc,p,rfl,h⟩:=h;simp only[Al,AO]at h;have q:=S.es W T X _ es v h.1;exact CG (RK q.1 λU ds z=>by rw[Hv Z U _ _ z,<-q.2.2.1];omega) (λ_ _=>rfl) rfl rfl
 |lst es=>
  replace h:=M9 h;obtain⟨ys,p,rfl,h⟩:=h;simp only[Al,AO]at h;have q:=S.es W T X _ es v h.1;exact NG (NH q.1 λU ds z=>by rw[Hv Z U _ _ z,<-q.2.2.1];omega) (λ_ _=>rfl) rfl
 |comp elt t it c=>
  replace h:=QD (e:=x) (F:=_) (by unfold A2 at h;exact h)
  obtain⟨y,tg,it',ifs,scope,p,rfl,h⟩:=h;replace h:=EE h;obtain⟨w,pw,rfl,h⟩:=h;simp only[Al]at h;obtain⟨⟨⟨⟨⟨h1,h2⟩,h3⟩,h4⟩,h5⟩,h6⟩:=h;refine SH v.calm ⟨_,_,_,_,_,_,_,_,_,_,_,_,_,rfl,(NX v h3).1,S.i W T X Ad _ _ it v rfl h1,bL t,λcl C s H fp=>Za (v.blk h3) (λz=>AF.mpr z) h4,λcl C s H fp=>S.t _ _ _ c (v.blk h3) h5,λcl C s H fp=>(S.e W0 _ _ _ elt (v.blk h3) h6).se,Ku h2,λU=>rfl⟩ (λ_ _=>rfl)
 |compT elt ts it c=>
  replace h:=QD (e:=x) (F:=_) (by unfold A2 at h;exact h)
  obtain⟨y,tg,it',ifs,scope,p,rfl,h⟩:=h;replace h:=Jq h;obtain⟨ys,cc,pw,rfl,h⟩:=h;simp only[Al]at h;obtain⟨⟨⟨⟨⟨⟨h0,h1⟩,h2⟩,h3⟩,h4⟩,h5⟩,h6⟩:=h;refine SH v.calm ⟨_,_,_,_,_,_,_,_,_,_,_,_,_,rfl,(NX v h3).1,S.i W T X Ab _ _ it v rfl h1,gX ts,λcl C s H fp=>Zd (v.blk h3) h0 h4,λcl C s H fp=>S.t _ _ _ c (v.blk h3) h5,λcl C s H fp=>(S.e W0 _ _ _ elt (v.blk h3) h6).se,Ku h2,λU=>rfl⟩ (λ_ _=>rfl)
 |tupI it=>exact absurd (show Ad=Ab from h) Av
 |dnew=>exact noF h
 |fld o f=>
  replace h:=IP h;obtain⟨w,g,p,rfl,h⟩:=h;simp only[Al,AF]at h;obtain⟨⟨⟨rfl,h2⟩,h3⟩,h4⟩:=h;exact CG (QH v.xt.xc (λc C z=>v.xt.nf c C z _ h2) (S.e W T X _ o v h4).st (Lx h3)) (λ_ _=>rfl) rfl rfl
 |ofl o f=>
  replace h:=IP h;obtain⟨w,g,p,rfl,h⟩:=h;simp only[Al,AF]at h;obtain⟨⟨⟨rfl,h2⟩,h3⟩,h4⟩:=h;refine CG (bY (λc C z=>?_) (S.e W T X _ o v h4).st (Lx h3)) (λ_ _=>rfl) rfl rfl
  rw[h2];exact⟨(v.os.oc c C z).cl,(v.os.oc c C z).nt⟩
 |iso a k'=>
  replace h:=Ht h;obtain⟨g,pp,l,qq,rfl,h⟩:=h;replace h:=IN h;obtain⟨y,t,rfl,h⟩:=h;replace h:=EE h;obtain⟨t,pt,rfl,h⟩:=h;unfold ocB at h;simp only[Al,AF,AO]at h;obtain⟨⟨⟨⟨rfl,h1⟩,h4⟩,h5⟩,⟨⟨⟨e6,h7⟩,h8⟩,h9⟩⟩:=h;obtain⟨g1,g2,_,_⟩:=F8 v h1;obtain⟨n2,_,_⟩:=Fx h9;obtain⟨C',o1,o2⟩:=v.os.at_ k' h7;exact CG (eO v.os.oc g1 g2 (by unfold glB at h8;show X.env.scope.names.lookup _=_;rw[v.sc];exact eq_of_beq h8) (by rw[e6];exact o2) (λc C z=>v.os.kit c C k' C' z o1) n2 (S.e W T X _ a v h5).st (CA h4)) (λ_ _=>rfl) rfl rfl
 |meth m ms o=>
  replace h:=Kg h;obtain⟨f,l,ks,cp,rfl,h⟩:=h;replace h:=Bh h;obtain⟨h0,h⟩:=h;obtain rfl:=Fi h0;replace h:=Bh h;obtain⟨h0',h⟩:=h;obtain rfl:=Fi h0';replace h:=IP h;obtain⟨w,g,ap,rfl,h⟩:=h;replace h:=Bh h;obtain⟨h,h5⟩:=h;replace h:=Bh h;obtain⟨h,h4⟩:=h;replace h:=Bh h;obtain⟨h,h3⟩:=h;replace h:=Bh h;obtain⟨h,h2⟩:=h;replace h:=Bh h;obtain⟨h,h1⟩:=h;obtain rfl:=eq_of_beq h;refine CG (ZR v.room v.px (S.e W T X _ o v h4).st (λc id C hl hC=>?_) (Lx h3) h2) (λ_ _=>rfl) rfl rfl
  have hm:=BV.mp h5 _ (WR hl);simp only[D8,Al,AF]at hm;obtain⟨p,hp,⟨e1,e2⟩,e3⟩:=hm;obtain⟨fa,fd,ps,m1,m2,m3,m4,m5,_⟩:=v.fn p hp;have m5:=m5 (by omega)
  rw[e3,e2]at m5;have at1:=XF m1 e1 hC;exact⟨fa,fd,ps,_,(v.os.oc c C hC).cl,⟨at1,v.os.mf c C _ fa hC h1 at1,m2⟩,m3,m5⟩
 |mkob c e=>exact noF h
 |mkn c as=>
  replace h:=Ju h;obtain⟨g,np,x,xs,cpos,rfl,h⟩:=h;unfold ocB at h;simp only[Al,AF,AO]at h;obtain⟨⟨⟨⟨⟨e6,h7⟩,h8⟩,h9⟩,hl⟩,h5⟩:=h;obtain⟨n2,_,_⟩:=Fx h9;obtain⟨s0,e,es',rfl,m,rfl,s1⟩:=Ig h5;have q:=S.es W T X _ _ v h5;rcases v.mkr c h7 with hb|⟨C,f,fd,G,k',o1,M,hb,hk,FI,hF,hG⟩
  .refine CG (λA pI s Y H Q I ⟨hA,U,gd,p⟩=>?_) (λ_ _=>rfl) rfl rfl
   have p':AU (λH=>Rep X.K CL H A) W H ((noX (evA Z U (.cons e es'))).bind λxs=>Z.F (900+c) xs) Q:=p
   cases e1:evA Z U (.cons e es') with
   |bad=>rw[e1]at p';exact p'.elim
   |exn y=>rw[e1]at p';exact p'.elim
   |ok ds=>rw[e1]at p';have p2:AU (λH=>Rep X.K CL H A) W H (Z.F (900+c) ds) Q:=p';rw[hb ds]at p2;exact p2.elim
  .obtain⟨C',o2,o3⟩:=v.os.at_ c h7;have:C'=C:=by rw[o1]at o2;exact(Bf o2).symm
   subst this;subst hk;exact CG (ZS M o1 (v.os.oc c _ o1) FI v.room hb v.px hF hG (by unfold glB at h8;show X.env.scope.names.lookup g=_;rw[v.sc];exact eq_of_beq h8) (by rw[e6];exact o3) n2 q.1 (λU ds z=>by rw[Hv Z U _ _ z,<-q.2.2.1,AZ,hl]) (CA s0) (IJ m xs es' s1 _)) (λ_ _=>rfl) rfl rfl
 |mkx c as=>
  replace h:=Bh h;obtain⟨h0,h⟩:=h;replace h:=Ju h;obtain⟨g,np,x,xs,cpos,rfl,h⟩:=h;simp only[Al,AO]at h;obtain⟨⟨⟨⟨h1,h2⟩,h3⟩,h4⟩,h5⟩:=h;obtain⟨C,m1,m2⟩:=v.xt.rz _ (IV h1);obtain⟨n2,_,_⟩:=Fx h3;obtain⟨s0,e,es',rfl,m,rfl,s1⟩:=Ig h5;have q:=S.es W T X _ _ v h5;exact CG (kL (v.ex h0) v.room (by unfold glB at h2;show X.env.scope.names.lookup g=_;rw[v.sc];exact eq_of_beq h2) m2 n2 m1 q.1 (λds=>v.xt.made c C ds m1) (CA s0) (IJ m xs es' s1 _) (λU ds z=>by rw[Hv Z U _ _ z,<-q.2.2.1,AZ];omega)) (λ_ _=>rfl) rfl rfl
theorem snd:∀ n,Snd Z CL k n
 |0=>Yo
 |n+1=>⟨iT (snd n),iU (snd n),cS (snd n),cR (snd n),iR (snd n),iP (snd n),iS (snd n)⟩
end
section
variable{Z:Gam}{CL:ClA}{W:XW}{k n:Af}{T:Tc}{X:Cx}
theorem Zb{t:Af}(v:VX Z CL k W T X)(hf:∀ x,X.fn x=Ab)(h:tgC T [t] [x]=Ab):PG X (.Name x pos) (E6 t):=by
 unfold tgC at h;simp only[Al,AF]at h;exact Kf (by rw[v.N];exact v.nd) (by rw[v.N];exact h.1.1) (by rw[v.sc];exact Jz h.1.2) (.inl (hf x))
theorem Zc(v:VX Z CL k W T X)(hf:∀ x,X.fn x=Ab):∀(ys:Ac Am)(ts:Ac Af)(zs:Ac Ag),E2 ys=Aa zs->tgC T ts zs=Ab->PGs X ys (ts.foldr (λt u=>HE (E6 t) u) HL)/\ts.length=ys.length:=by
 intro ys
 induction ys with
 |nil=>
  intro ts zs e h;cases e;cases ts with
  |nil=>exact⟨QL,rfl⟩
  |cons t ts=>cases h
 |cons y r ih=>
  intro ts zs e h;obtain⟨x,p,ws,rfl,e2,rfl⟩:=Mr e;cases ts with
  |nil=>cases h
  |cons t ts=>
   have h':(T.N[t]? == Aa x&&HF T x&&tgC T ts ws)=Ab:=h;simp only[Al,AF]at h';obtain⟨h1,h2⟩:=ih ts ws e2 h'.2;exact⟨PZ (Kf (by rw[v.N];exact v.nd) (by rw[v.N];exact h'.1.1) (by rw[v.sc];exact Jz h'.1.2) (.inl (hf x))) h1 (by rw[MW];rfl),congrArg (· + 1) h2⟩
theorem QY(v:VX Z CL k W T X)(hf:∀ x,X.fn x=Ab)(hn:(E2 ys).isSome=Ab)(h:tgC T ts (tgN ys)=Ab):PG X (.Tuple ys kk pos) (KQ X.K ts.length (ts.foldr (λt u=>HE (E6 t) u) HL)):=by
 cases e:E2 ys with
 |none=>rw[e]at hn;cases hn
 |some zs=>
  have e2:tgN ys=zs:=by unfold tgN;rw[e];rfl
  rw[e2]at h;obtain⟨h1,h2⟩:=Zc v hf ys ts zs e h;obtain⟨h3,h4,_⟩:=O3 (env:=X.env) ys zs e;exact RY v.calm h1 (by rw[h3,h2]) h4
theorem Pp(ts:Ac Af):∀ d U x,D2 ts d U≠.exn x:=λd U x h=>by
 unfold D2 at h;cases d with
 |tup xs=>
  dsimp only at h;cases e:DD ts xs U with
  |some r=>rw[e]at h;cases h
  |none=>rw[e]at h;cases h
 |_=>cases h
theorem Yi{elt:Am}{gs:Ac HN}{l:Af}:∃ b,Cp (.ListComp elt gs scope pos) (Aa (.Name x pos')) l env=pure b/\(b=Ab->env.scope.names.lookup x=Aa .local):=by
 refine⟨_,rfl,λh=>?_⟩
 simp only[Al,AF]at h;exact h.1.1.2
theorem NL{v0:Am}{i:Af}{e:E}{fr:Ai}(v:VX Z CL k W T X)(hf:∀ x,X.fn x=Ab)(hi:T.N[i]?=Aa x)(hl:HF T x=Ab)(o:OkE Z CL W X v0 e)(hfr:fr=Ab->DF Z e=Ab):SAs X CL W fr i (.Assign [.Name x p] v0 pos) (λU=>evE Z U e):=by
 have hN:X.N.Nodup:=by rw[v.N];exact v.nd
 have hi':X.N[i]?=Aa x:=by rw[v.N];exact hi
 have hx:Loc X.env.scope x:=by rw[v.sc];exact Jz hl
 have sc:SC X CL W fr v0 (λU=>evE Z U e):=by
  cases fr with
  |false=>exact o.se.sc
  |true=>exact o.nw (hfr rfl)
 cases hc:Hx v0 with
 |true=>exact SC.sas hN hi' hx sc (IL hc) (.inl (hf x))
 |false=>
  obtain⟨tg,iter,elt,ifs,scope,pos2,N',ts,fi,fc,fe,as,g,rfl,B,h2,hGG,hg,ht,he,hs,ef⟩:=o.cp hc;obtain⟨b,hb,hb'⟩:=Yi (elt:=elt) (gs:=[⟨tg,iter,ifs,0⟩]) (scope:=scope) (pos:=pos2) (pos':=p) (x:=x) (l:=pos.line) (env:=X.env);cases b with
  |false=>exact SC.sas hN hi' hx sc hb (.inl (hf x))
  |true=>
   have q:=Yt (pos2:=pos) v.calm B h2 hGG hg ht he hs hN hi' (hb' rfl) hb;have q':SAs X CL W Ab i (.Assign [.Name x p] (.ListComp elt [⟨tg,iter,ifs,0⟩] scope pos2) pos) (λU=>evE Z U e):=by
    have:(λU=>evE Z U e)=_:=funext ef
    rw[this];exact q
   cases fr with
   |true=>exact q'
   | false=>exact λA=>PS.weak (q' A) λD Y H ⟨hA,U,gd,z⟩=>⟨hA,U,gd,by
     dsimp only at z ⊢;cases e0:evE Z U e with
     |ok d=>
      rw[e0]at z;exact λv' H' s' r'=>z v' H' s' ⟨r'.1,λ_=>r'.2 rfl⟩
     |exn y=>rw[e0]at z;exact z
     | bad=>rw[e0]at z;exact z⟩
theorem P9(U:Rho)(e:E)(h:∀ i,e≠.var i):evS Z U (.ret e)=O.of U (evE Z U e) λd=>.ret d (DF Z e):=by
 have k:∀ b:Ai,b=Ad->top U e (evE Z U e)=evE Z U e->(O.of U (top U e (evE Z U e)) λd=>.ret d (DF Z e||b))=O.of U (evE Z U e) λd=>.ret d (DF Z e):=λb hb ht=>by
  rw[hb,ht];simp only[DG]
 rw[Q5];cases e with
 |var i=>exact absurd rfl (h i)
 |_=>exact k _ rfl rfl
structure DefX (X:Cx):Prop where
 fn:∀ x,X.fn x=Ab
 ex:X.ex=[]
 st:X.stack=X.env::X.outer
 fm:X.env.frame=Aa X.env.locals
structure SndS (Z:Gam) (CL:ClA) (k:Af) (n:Af):Prop where
 s:∀(W:XW)(T:Tc)(X:Cx)(x:AD)(c:S),VX Z CL k W T X->DefX X->KZ n T x c=Ab->SS X CL W x (λU=>evS Z U c)
 ss:∀(W:XW)(T:Tc)(X:Cx)(x:Ac AD)(c:Ss),VX Z CL k W T X->DefX X->chkSs n T x c=Ab->SSs X CL W x (λU=>evSs Z U c)
theorem bH(x y:D)(e:Ex):CN x y≠.exn e:=by
 intro z;cases x with
 |lst xs=>cases y<;>first|exact Jt z|cases z
 |tup xs=>cases y<;>first|exact Jt z|cases z
 |str x=>
  cases y with
  |int i=>
   have z':(if B5 x.length=Ab then DA (JU x) i else .bad)=.exn e:=z
   split at z'
   .exact Jt z'
   .cases z'
  |_=>cases z
 |dic kvs=>
  have z':(match (Iu y).bind (NV kvs) with|some d=>R.ok d|none=>.bad)=.exn e:=z
  cases h:(Iu y).bind (NV kvs) with
  |none=>rw[h]at z';cases z'
  |some k=>rw[h]at z';cases z'
 |_=>cases z
theorem QW{i:Af}{y:Ex}:Dr U i≠.exn y:=λz'=>by
 exact La z'
theorem Lb(Z:Gam)(U:Rho)(e:E)(h:L4 e=Ab)(y:Ex):top U e (evE Z U e)≠.exn y:=by
 cases e with
 |var i=>
  intro z;have z':Dr U i=.exn y:=z;exact La z'
 |idx a b=>
  cases a with
  |var i=>
   cases b with
   |int j=>
    intro z;have z':(Dr U i).bind (λx=>CN x (.int j))=.exn y:=z
    cases e1:Dr U i with
    |bad=>rw[e1]at z';cases z'
    |exn w=>exact QW e1
    |ok d=>rw[e1]at z';exact bH _ _ _ z'
   |_=>exact noF h
  |_=>exact noF h
 |bin op a b=>
  have h:(TQ op&&OD a b)=Ab:=h;rw[Al]at h;obtain⟨h0,h⟩:=h;cases op with
  |Sub=>
   cases a with
   |var i=>
    cases b with
    |int j=>
     intro z;have z':(Dr U i).bind (λx=>CH .Sub x (.int j))=.exn y:=z
     cases e1:Dr U i with
     |bad=>rw[e1]at z';cases z'
     |exn w=>exact QW e1
     |ok d=>rw[e1]at z';cases d<;>cases z'
    |_=>exact noF h
   |_=>exact noF h
  |_=>exact absurd (show Ad=Ab from h0) Av
 |int i=>intro z;cases z
 |bl i=>intro z;cases z
 |str i=>intro z;cases z
 |non=>intro z;cases z
 |_=>cases h
theorem ME(Z:Gam)(U:Rho):∀(es:Es),Im es=Ab->∀ y,evB Z U es≠.exn y
 |.nil,_,y=>λz=>by cases z
 |.cons e es,h,y=>λz=>by
  unfold Im at h;rw[Al]at h;rw[Nj]at z;cases e1:top U e (evE Z U e) with
  |bad=>rw[e1]at z;cases z
  |exn w=>exact Lb Z U e h.1 w e1
  |ok d=>
   rw[e1,R.bind_ok]at z;cases e2:evB Z U es with
   |bad=>rw[e2]at z;cases z
   |exn w=>exact ME Z U es h.2 w e2
   |ok ds=>rw[e2]at z;cases z
theorem VX.pw(v:VX Z CL k W T X)(own:Dt (model X.prog X.w) X.A X.env Xw):VX Z CL k W0 T (Cx.pw X pI Xw):=⟨v.sc,v.kd,v.N,v.nd,v.calm,v.room,v.bl,v.os,v.mkr,v.fn,own,R4,TR,v.xt,v.gl,v.ex⟩
theorem PL(o:O):(o.seq λU'=>O.next U')=o:=by cases o<;>rfl
theorem STB.congr{st:Ac AD}{f g:Rho->O}(h:STB X CL st f)(e:∀ U,g U=f U):STB X CL st g:=by
 have:g=f:=funext e;rw[this];exact h
theorem RF(Sn:Snd Z CL k n)(v:VX Z CL k W T X)(hf:DefX X){st:AD}{s:S}(h:LC n T st s=Ab):STB X CL [st] (λU=>evSs Z U (.cons s .nil))/\∀ U y U',evSs Z U (.cons s .nil)=.exn y U'->U'=U:=by
 have seq:∀ U,evSs Z U (.cons s .nil)=evS Z U s:=λU=>PL _
 have ofn:∀{r:R D}{f:D->Rho}{U U':Rho}{y:Ex},(O.of U r λd=>O.next (f d))=.exn y U'->U'=U:=λ{r f U U' y} z=>by
  cases r with
  |ok d=>cases z
  |exn w=>cases z;rfl
  |bad=>cases z
 have call:∀{e:Am}{f:Af}{as:Es},A2 n T e (.call f as)=Ab->Im as=Ab->∃ g pp y ys qq,e=.Call (.Name g pp) (y::ys) [] qq/\∃ p∈T.fns,g=p.1/\f=p.2.1/\p.2.2=ys.length+1/\ys.length<900/\glB T g=Ab/\EL g=Ab/\∃ m,n=m+1/\chkEs m T (y::ys) as=Ab:=λ{e f as} h _=>by
  cases n with
  |zero=>exact noF h
  |succ m=>
   replace h:=Ju h;obtain⟨g,pp,y,ys,qq,rfl,h⟩:=h;simp only[Al,D8,AF,AO]at h;obtain⟨⟨⟨⟨⟨p,hp,⟨e1,e2⟩,hl⟩,h900⟩,h1⟩,h2⟩,h3⟩:=h;exact⟨g,pp,y,ys,qq,rfl,p,hp,e1.symm,e2.symm,hl,h900,h1,h2,m,rfl,h3⟩
 cases s with
 |expr e0=>
  replace h:(JL e0 λf as=>JK st λv=>A2 n T v (.call f as)&&Im as)=Ab:=h
  replace h:=Qj h;obtain⟨f,as,rfl,h⟩:=h;replace h:=Nb h;obtain⟨v0,pos,rfl,h⟩:=h;rw[Al]at h;obtain⟨g,pp,y,ys,qq,rfl,p,hp,rfl,rfl,hl,h900,h1,h2,m,rfl,h3⟩:=call h.1 h.2;obtain⟨fa,fd,ps,m1,m2,m3,m4,m5,_⟩:=v.fn p hp;have hlt:p.2.2<1000:=by omega
  rw[Gz hlt]at m4 m5;have m5:=m5 hlt;obtain⟨n2,n3,n4⟩:=Fx h2;replace m1:=Ng m1 (Nn h2);obtain⟨s0,e,es',rfl,m',rfl,s1⟩:=Ig h3;have hlen:ys.length+1=(Es.cons e es').len:=(snd (Z:=Z) (CL:=CL) (k:=k) (m'+1)).es W T X _ _ v h3 |>.2.2.1;refine⟨STB.congr (Yk (X:=X) (fs:=λU=>evA Z U (.cons e es')) (sh:=λU=>G8 U (.cons e es')) hf.ex m5 v.room (by unfold glB at h1;show X.env.scope.names.lookup p.1=_;rw[v.sc];exact eq_of_beq h1) m1 m2 m3 (λU z=>LB Z U _ z) (λU ds z=>by rw[Lq Z U _ _ z,<-hlen,hl]) (λU=>ME Z U _ h.2) n2 (CA s0) (IJ m' ys es' s1) (λpI Xw own=>by
   obtain⟨a1,a2,_⟩:=(snd (Z:=Z) (CL:=CL) (k:=k) (m'+1)).es W0 T (Cx.pw X pI Xw) _ _ (v.pw own) h3;exact⟨a1,a2⟩) (IL rfl)) λU=>seq U,λU y U' z=>?_⟩
  rw[seq]at z;exact ofn (f:=λ_=>U) z
 |asg i b0 e0=>
  replace h:(!b0&&(JL e0 λf as=>KC st λy v=>T.N[i]? == Aa y&&HF T y&&A2 n T v (.call f as)&&Im as))=Ab:=h
  replace h:=Bh h;obtain⟨hb,h⟩:=h;cases b0 with
  |true=>exact absurd (show Ad=Ab from hb) Av
  |false=>
  replace h:=Qj h;obtain⟨f,as,rfl,h⟩:=h;replace h:=Nc h;obtain⟨y0,p0,v0,pos,rfl,h⟩:=h;simp only[Al,AF]at h;obtain⟨⟨⟨i1,i2⟩,hc⟩,hsim⟩:=h;obtain⟨g,pp,y,ys,qq,rfl,p,hp,rfl,rfl,hl,h900,h1,h2,m,rfl,h3⟩:=call hc hsim;obtain⟨fa,fd,ps,m1,m2,m3,m4,m5,_⟩:=v.fn p hp;have hlt:p.2.2<1000:=by omega
  rw[Gz hlt]at m4 m5;have m5:=m5 hlt;obtain⟨n2,n3,n4⟩:=Fx h2;replace m1:=Ng m1 (Nn h2);obtain⟨s0,e,es',rfl,m',rfl,s1⟩:=Ig h3;have hlen:ys.length+1=(Es.cons e es').len:=(snd (Z:=Z) (CL:=CL) (k:=k) (m'+1)).es W T X _ _ v h3 |>.2.2.1;refine⟨STB.congr (Zl (X:=X) (fs:=λU=>evA Z U (.cons e es')) (sh:=λU=>G8 U (.cons e es')) (i:=i) hf.ex m5 v.room (by unfold glB at h1;show X.env.scope.names.lookup p.1=_;rw[v.sc];exact eq_of_beq h1) m1 m2 m3 (λU z=>LB Z U _ z) (λU ds z=>by rw[Lq Z U _ _ z,<-hlen,hl]) (λU=>ME Z U _ hsim) n2 (CA s0) (IJ m' ys es' s1) (λpI Xw own=>by
   obtain⟨a1,a2,_⟩:=(snd (Z:=Z) (CL:=CL) (k:=k) (m'+1)).es W0 T (Cx.pw X pI Xw) _ _ (v.pw own) h3;exact⟨a1,a2⟩) (by rw[v.N];exact v.nd) (by rw[v.N];exact i1) (by rw[v.sc];exact Jz i2) (.inl (hf.fn _)) (IL rfl)) λU=>seq U,λU y U' z=>?_⟩
  rw[seq]at z;exact ofn (f:=λd=>U.set i (Aa (d,Ad))) z
 |_=>exact noF h
theorem aP(op:CJ)(x y:D)(e:Ex):Bs op x y≠.exn e:=λz=>by
 rcases Qw op x y with w|⟨b,w⟩<;>(rw[w]at z;cases z)
theorem Y_8(x:D)(e:Ex):BG x≠.exn e:=by
 unfold BG;split<;>first|(intro z;cases z;done)|(split<;>intro z<;>cases z)
theorem PX(Z:Gam)(U:Rho)(c:E)(h:OG c=Ab)(y:Ex):(top U c (evE Z U c)).bind BG≠.exn y:=by
 have key:∀ e,top U c (evE Z U c)≠.exn e:=by
  cases c with
  |var i=>exact Lb Z U (.var i) rfl
  |cmp op a b=>
   unfold OG at h;rw[Al]at h;intro e z;have z':((top U a (evE Z U a)).bind λx=>(top U b (evE Z U b)).bind λy=>Bs op x y)=.exn e:=by
    have e0:evE Z U (.cmp op a b)=((top U a (evE Z U a)).bind λx=>(top U b (evE Z U b)).bind λy=>Bs op x y):=aL Z U op a b
    rw[<-e0];exact z
   cases e1:top U a (evE Z U a) with
   |bad=>rw[e1]at z';cases z'
   |exn w=>exact Lb Z U a h.1 w e1
   |ok d=>
    rw[e1,R.bind_ok]at z';cases e2:top U b (evE Z U b) with
    |bad=>rw[e2]at z';cases z'
    |exn w=>exact Lb Z U b h.2 w e2
    |ok d2=>rw[e2,R.bind_ok]at z';exact aP _ _ _ _ z'
  |_=>cases h
 intro z;cases e1:top U c (evE Z U c) with
 |bad=>rw[e1]at z;cases z
 |exn w=>exact key w e1
 |ok d=>rw[e1,R.bind_ok]at z;exact Y_8 _ _ z
theorem iG(Sn:Snd Z CL k n)(v:VX Z CL k W T X)(hf:DefX X):∀(m:Af){st:AD}{s:S},LX m n T st s=Ab->STB X CL [st] (λU=>evSs Z U (.cons s .nil))/\∀ U y U',evSs Z U (.cons s .nil)=.exn y U'->U'=U:=by
 intro m
 induction m with
 |zero=>intro st s h;exact RF Sn v hf h
 |succ m ih=>
  intro st s h;replace h:=orT (a:=LC n T st s) (b:=Sf (LX m n T) n T st s) h;rcases h with h|h
  .exact RF Sn v hf h
  .cases s with
   |ife c a b=>
    replace h:=Qh h;obtain⟨a,rfl,h⟩:=h;replace h:=Qh h;obtain⟨b,rfl,h⟩:=h;replace h:=QE h;obtain⟨t,xs,ys,pos,rfl,h⟩:=h;replace h:=Ep h;obtain⟨xs,rfl,h⟩:=h;replace h:=Ep h;obtain⟨ys,rfl,h⟩:=h;simp only[Al]at h;obtain⟨⟨⟨h1,h2⟩,h3⟩,h4⟩:=h;obtain⟨a1,a2⟩:=ih h3;obtain⟨b1,b2⟩:=ih h4;have ev:∀ U,evSs Z U (.cons (.ife c (.cons a .nil) (.cons b .nil)) .nil)=O.of U ((top U c (evE Z U c)).bind BG) λk=>if k=Ab then evSs Z U (.cons a .nil) else evSs Z U (.cons b .nil):=λU=>PL _
    refine⟨STB.congr (Zk (λpI Xw own=>(Sn.b W0 T (Cx.pw X pI Xw) _ _ (v.pw own) h1)) (λU y=>PX Z U c h2 y) a1 b1) λU=>ev U,λU y U' z=>?_⟩
    rw[ev]at z;cases e1:(top U c (evE Z U c)).bind BG with
    |bad=>rw[e1]at z;cases z
    |exn w=>exact absurd e1 (PX Z U c h2 w)
    |ok k=>
     rw[e1,O.of_ok]at z;cases k with
     |true=>exact a2 U y U' z
     |false=>exact b2 U y U' z
   |_=>exact noF h
theorem Ko{i:Af}{e:Ak}(v:VX Z CL k W T X)(h:isV T x i=Ab):PE (Cx.hot X e) (.Name x pos) (Ec i):=by
 unfold isV at h;simp only[Al,AF]at h;obtain⟨h2,h3,_⟩:=Fx h.2;exact JB (by show X.N[i]?=_;rw[v.N];exact h.1.1) (by show Vis X.env.scope x;rw[v.sc];exact QU h.1.2) h2 h3
theorem RB{x:Af}{t:Am}{c:E}:∀{n:Af},G7 n T x t c=Ab->∀ U r,top U c r=r:=λ{n} h=>by
 cases n with
 |zero=>exact noF h
 |succ n=>
  cases c with
  |var i=>exact noF h
  |_=>exact λ_ _=>rfl
theorem YN(v:VX Z CL k W T X)(e:Ak):∀(ts:Ac Am)(ks:Ac Ki),Ol T ts ks=Ab->∃ cs:Ac (Af×Ak),ks=cs.map (λq=>Ki.cls q.1)/\cs.length=ts.length/\PA (Cx.hot X e) ts (TL (cs.map λq:Af×Ak=>q.2))/\∀ q∈cs,Ky X.K CL Z.up q.1 q.2:=by
 intro ts
 induction ts with
 |nil=>
  intro ks h;obtain rfl:=Fi h;exact⟨[],rfl,rfl,E3,λq hq=>nomatch hq⟩
 |cons t ts ih=>
  intro ks h;replace h:=Ih h;obtain⟨kk,ks,rfl,h⟩:=h;replace h:=EE h;obtain⟨t,p,rfl,h⟩:=h;replace h:=Bh h;obtain⟨h,h4⟩:=h;cases kk with
  |cls c=>
   replace h:(inX T.exs t c&&glB T t&&EL t)=Ab:=h;simp only[Al]at h;obtain⟨⟨h1,h2⟩,h3⟩:=h;obtain⟨cs,e1,e2,e3,e4⟩:=ih ks h4;obtain⟨C,m1,m3,_⟩:=v.xt.ex _ (IV h1);obtain⟨n2,_,_⟩:=Fx h3;refine⟨(c,C)::cs,by rw[e1];rfl,by rw[AZ,AZ,e2],?_,λq hq=>?_⟩
   .exact Dz (NE (X:=Cx.hot X e) (v:=.ref C) (by unfold glB at h2;show X.env.scope.names.lookup t=_;rw[v.sc];exact eq_of_beq h2) m1 rfl n2) e3 rfl
   .rcases AG.mp hq with rfl|hq
    .exact m3
    .exact e4 q hq
  |_=>exact noF h
theorem LU{e:Ak}{f:Am->E->Ai}(ih:∀ t c,f t c=Ab->SE (Cx.hot X e) CL W0 t (λU=>evE Z U c)):∀(xs:Ac Am)(es:Es),KH f xs es=Ab->SA (Cx.hot X e) CL W0 xs (λU=>evA Z U es)/\xs.length=es.len
 |[],.nil,_=>⟨RU,rfl⟩
 |[],.cons _ _,h=>nomatch (show Ad=Ab from h)
 |_::_,.nil,h=>nomatch (show Ad=Ab from h)
 |x::xs,.cons c es,h=>by
  have h:(Dg x&&f x c&&KH f xs es)=Ab:=h;simp only[Al]at h;obtain⟨⟨h1,h2⟩,h3⟩:=h;obtain⟨q,l⟩:=LU ih xs es h3;exact⟨QJ (ih x c h2) q (CA h1),by rw[AZ,l];rfl⟩
theorem S7(v:VX Z CL k W T X)(e:Ak)(x:Af):∀(n:Af)(t:Am)(c:E),G7 n T x t c=Ab->SE (Cx.hot X e) CL W0 t (λU=>evE Z U c):=by
 intro n
 induction n with
 |zero=>intro t c h;exact noF h
 |succ n ih=>
  intro t c h;cases c with
  |bl b=>
   replace h:=Ie h;obtain⟨k,u,p,rfl,h⟩:=h;obtain rfl:=AK h;exact SQ
  |no a=>
   replace h:=Ln h;obtain⟨o,y,p,rfl,h⟩:=h;replace h:=Bh h;obtain⟨h0,h⟩:=h;obtain rfl:=AK h0;have q:=(ih _ _ h).st;refine SE.congr (RM q) λU=>?_
   show ((top U a (evE Z U a)).bind λx=>(Di x).bind λb=>R.ok (D.bl (!b)))=_
   rw[RB h]
  |and es=>
   cases es with
   |nil=>exact noF h
   |cons a as=>
    cases as with
    |nil=>
     replace h:=Kh h;obtain⟨o,l,p,rfl,h⟩:=h;replace h:=Bh h;obtain⟨h0,h⟩:=h;obtain rfl:=AK h0;replace h:=Ep h;obtain⟨y,rfl,h⟩:=h;exact SE.congr (NJ (ih _ _ h)) λU=>rfl
    |cons a' as=>
     replace h:=Kh h;obtain⟨o,l,p,rfl,h⟩:=h;replace h:=Bh h;obtain⟨h0,h⟩:=h;obtain rfl:=AK h0;replace h:=Ih h;obtain⟨y,l,rfl,h⟩:=h;replace h:=Ih h;obtain⟨z,zs,rfl,h⟩:=h;exact SE.congr (RQ (ih _ _ (Bh h).1) (ih _ _ (Bh h).2)) λU=>rfl
  |isi a ks=>
   replace h:=M8 h;obtain⟨i,rfl,h⟩:=h;replace h:=ZM h;obtain⟨g,pp,w,pq,u,pr,rfl,h⟩:=h;simp only[Al,AF]at h;obtain⟨⟨⟨⟨rfl,rfl⟩,h3⟩,h4⟩,h⟩:=h;obtain⟨g1,g2,_,_⟩:=F8 v h3;replace h:=Ih h;obtain⟨kk,ks,rfl,h⟩:=h;cases kk with
   |verr=>
    replace h:=Bh h;obtain⟨h0,h⟩:=h;obtain rfl:=Fi h0;replace h:=EE h;obtain⟨t,pt,rfl,h⟩:=h;simp only[Al,AF]at h;obtain⟨h5,h6⟩:=h;obtain⟨b1,b2,_,_⟩:=F8 v h6;rw[h5]at b1 b2 ⊢;exact RN (X:=Cx.hot X e) v.xt.xc g1 g2 b1 b2 (JA (Ko v h4)) rfl
   |cls c=>
    cases ks with
    |nil=>
     replace h:=EE h;obtain⟨t,pt,rfl,h⟩:=h;simp only[Al]at h;obtain⟨⟨h5,h6⟩,h7⟩:=h;obtain⟨C,m1,m3,_⟩:=v.xt.ex _ (IV h5);obtain⟨n2,_,_⟩:=Fx h7;exact RO (X:=Cx.hot X e) v.xt.xc g1 g2 (by unfold glB at h6;show X.env.scope.names.lookup _=_;rw[v.sc];exact eq_of_beq h6) m1 m3 n2 (JA (Ko v h4)) rfl
    |cons k2 ks=>
     replace h:=Jq h;obtain⟨ts,z1,z2,rfl,h⟩:=h;replace h:=Bh h;obtain⟨h5,h6⟩:=h;obtain⟨cs,e1,e2,e3,e4⟩:=YN v e _ _ h5;have hne:cs≠[]:=by rintro rfl;cases e1
     rw[e1];exact eN (X:=Cx.hot X e) (W:=W0) (up:=Z.up) v.xt.xc g1 g2 e3 hne (by rw[e2];exact AK h6) e4 (JA (Ko v h4)) rfl
   |_=>exact noF h
  |call f as=>exact absurd (show Ad=Ab from h) Av
  |str s=>
   replace h:=Ie h;obtain⟨k,u,p,rfl,h⟩:=h;obtain rfl:=AK h;exact Ls
  |lst es=>
   replace h:=M9 h;obtain⟨xs,p,rfl,h⟩:=h;simp only[Al,AO]at h;obtain⟨q,ql⟩:=LU (ih) _ _ h.1;exact(NH q λU ds z=>by rw[Hv Z U _ _ z,<-ql];omega).se
  |tup es=>
   replace h:=Jq h;obtain⟨xs,cc,p,rfl,h⟩:=h;simp only[Al,AO]at h;obtain⟨q,ql⟩:=LU (ih) _ _ h.1;exact RK q λU ds z=>by rw[Hv Z U _ _ z,<-ql];omega
  |bin op a b=>
   replace h:=Bh h;obtain⟨h0,h⟩:=h;obtain rfl:=AK h0;replace h:=M8 h;obtain⟨i,rfl,h⟩:=h;replace h:=Qk h;obtain⟨l,o,y,p,rfl,h⟩:=h;replace h:=Bh h;obtain⟨h0,h⟩:=h;obtain rfl:=AK h0;replace h:=EE h;obtain⟨w,pw,rfl,h⟩:=h;replace h:=Bh h;obtain⟨h1,h2⟩:=h;refine SE.congr (NK (Nm .Add) (JA (Ko v h1)) (ih _ _ h2).st) λU=>?_
   show ((Dr U i).bind λx=>(top U b (evE Z U b)).bind λy=>CH .Add x y)=_
   rw[RB h2]
  |fld o f=>
   replace h:=M8 h;obtain⟨i,rfl,h⟩:=h;replace h:=IP h;obtain⟨w,g,p,rfl,h⟩:=h;replace h:=EE h;obtain⟨w,pw,rfl,h⟩:=h;simp only[Al,AF]at h;obtain⟨⟨⟨rfl,rfl⟩,h3⟩,h4⟩:=h;exact QH (X:=Cx.hot X e) v.xt.xc (λc C z=>v.xt.nf c C z _ h3) (JA (Ko v h4)) rfl
  |_=>exact noF h
theorem lJ(v:VX Z CL k W T X)(hf:DefX X)(e:Ak)(x:Af):∀(n:Af)(sts:Ac AD)(ss:Ss),Om n T x sts ss=Ab->SSs (Cx.hot X e) CL W0 sts (λU=>evSs Z U ss):=by
 intro n
 induction n with
 |zero=>intro t c h;exact noF h
 |succ n ih=>
  intro sts ss0 h;cases ss0 with
  |nil=>
   obtain rfl:=Fi h;exact Q0
  |cons s ss0=>
   replace h:=Ih h;obtain⟨st,r,rfl,h⟩:=h;replace h:=Bh h;obtain⟨h,h5⟩:=h;cases s with
   |asg i b e0=>
    replace h:=Nc h;obtain⟨y,py,v0,pos,rfl,h⟩:=h;simp only[Al,AF]at h;obtain⟨⟨⟨⟨h1,h2⟩,h3⟩,h4⟩,h6⟩:=h;cases b with
    |true=>
     cases e0 with
     |lst es=>
      have sc:SC (Cx.hot X e) CL W0 Ab v0 (λU=>evE Z U (.lst es)):=by
       cases n with
       |zero=>exact absurd (show Ad=Ab from h4) Av
       |succ n=>
        replace h4:=M9 h4;obtain⟨l,pl,rfl,h4⟩:=h4;obtain⟨q,ql⟩:=LU (S7 v e x n) _ _ (Bh h4).1;have hle:=AK (Bh h4).2;exact NH q λU ds z=>by rw[Hv Z U _ _ z,<-ql];omega
      have q:=MS (Q1 (SC.sas (X:=Cx.hot X e) (pos:=pos) (pos':=py) (by show X.N.Nodup;rw[v.N];exact v.nd) (by show X.N[i]?=_;rw[v.N];exact h1) (by show Loc X.env.scope _;rw[v.sc];exact Jz h2) sc (IL h3) (.inl (hf.fn _)))) (ih _ _ h5)
      have ef:(λU=>evSs Z U (.cons (.asg i Ab (.lst es)) ss0))=λU=>(O.of U (evE Z U (.lst es)) λd=>setF U i d).seq λU=>evSs Z U ss0:=by
       funext U
       show (evS Z U (.asg i Ab (.lst es))).seq _=_;rw[Xe];rfl
      rw[ef];exact q
     |_=>exact absurd (show Ad=Ab from h6) Av
    |false=>
    exact MS (cU (X:=Cx.hot X e) (by show X.N.Nodup;rw[v.N];exact v.nd) (by show X.N[_]?=_;rw[v.N];exact h1) (by show Loc X.env.scope _;rw[v.sc];exact Jz h2) (S7 v e x n _ _ h4) (IL h3) (.inl (hf.fn _))) (ih _ _ h5)
   |ife c a b=>exact absurd (show Ad=Ab from h) Av
   |ret e0=>exact absurd (show Ad=Ab from h) Av
   |app i e0=>exact absurd (show Ad=Ab from h) Av
   |_=>exact noF h
theorem gW(v:VX Z CL k W T X)(h:hdB T g c=Ab):T7 X CL Z.up g c:=by
 unfold hdB at h;simp only[Al]at h;obtain⟨⟨⟨i1,i0⟩,i2⟩,i3⟩:=h;obtain⟨C,m1,m3,m4⟩:=v.xt.ex _ (IV i1);obtain⟨C0,r1,r2⟩:=v.xt.rz _ (IV i0);obtain⟨n2,_,_⟩:=Fx i3;refine⟨C,by unfold glB at i2;show X.env.scope.names.lookup g=_;rw[v.sc];exact eq_of_beq i2,m1,n2,?_,λc' D hD=>m4 c' D hD⟩
 have e0:=m1.symm.trans r2;cases e0;exact v.xt.xc _ _ r1
theorem iQ(Z_:SndS Z CL k n)(W:XW)(T:Tc)(X:Cx)(st:AD)(c:S)(v:VX Z CL k W T X)(hf:DefX X)(h:KZ (n+1) T st c=Ab):SS X CL W st (λU=>evS Z U c):=by
  have E:=snd (Z:=Z) (CL:=CL) (k:=k) n;cases c with
  |pass=>
    exact Stmt.Pass.elim (motive_2:=λst=>SS X CL W st (λU=>evS Z U .pass)) st (AK h) λp=>YT
  |brk=>exact absurd (show Ad=Ab from h) Av
  |cont=>exact absurd (show Ad=Ab from h) Av
  |asg i fresh e=>
    replace h:=Nc h;obtain⟨x,px,v0,pos,rfl,h⟩:=h;simp only[Al,AF]at h;obtain⟨⟨h1,h2⟩,h3⟩:=h;have o:=E.e W T X _ e v h3;cases fresh with
    |false=>exact RJ (NL (fr:=Ad) v hf.fn h1 h2 o (λz=>nomatch z))
    |true=>
      cases hn:DF Z e with
      |true=>
        refine SS.ref (Q1 (NL (fr:=Ab) v hf.fn h1 h2 o (λ_=>hn))) λU=>.inr ?_
        show O.of U (evE Z U e) (λd=>if Ab=Ab then (if DF Z e=Ab then (match d with
          |.lst xs=>.next (U.set i (Aa (.lst xs,Ab)))
          |.dic xs=>.next (U.set i (Aa (.dic xs,Ab)))
          | _=>.bad) else .bad) else .next (U.set i (Aa (d,Ad))))=_
        rw[hn];rfl
      |false=>
        refine SS.ref (RJ (NL (fr:=Ad) v hf.fn h1 h2 o (λz=>nomatch z))) λU=>?_
        have e0:evS Z U (.asg i Ab e)=O.of U (evE Z U e) (λd=>if Ab=Ab then (if DF Z e=Ab then (match d with
          |.lst xs=>.next (U.set i (Aa (.lst xs,Ab)))
          |.dic xs=>.next (U.set i (Aa (.dic xs,Ab)))
          | _=>.bad) else .bad) else .next (U.set i (Aa (d,Ad)))):=rfl
        rw[e0,hn];cases evE Z U e with
        |ok d=>exact .inl rfl
        |exn y=>exact .inr rfl
        |bad=>exact .inl rfl
  |asgT ts e=>exact absurd (show Ad=Ab from h) Av
  |expr e=>
    replace h:=Nb h;obtain⟨v0,pos,rfl,h⟩:=h;simp only[Al]at h;exact YV (E.e W T X _ e v h.2).se (IL h.1)
  |ret e=>
    replace h:=XY h;obtain⟨o,pos,rfl,h⟩:=h;cases o with
    |none=>exact noF h
    |some v0=>
    replace h:A2 n T v0 e=Ab:=h;have o:=E.e W T X _ e v h;cases hv:DF Z e with
    |true=>
      refine SS.ref (YS (o.nw hv)) λU=>.inr ?_
      rw[P9 U e (λi z=>by subst z;cases hv),hv]
    |false=>
      cases e with
      |var i=>
        cases n with
        |zero=>exact noF h
        |succ n=>
          replace h:=EE h;obtain⟨y,py,rfl,h⟩:=h;exact Zn (Kq v h)
      |_=>
        refine SS.ref (YR o.se) λU=>.inr ?_
        rw[P9 U _ (by intro i z;cases z),hv]
  |retN=>exact absurd (show Ad=Ab from h) Av
  |ife c a b=>
    replace h:=QE h;obtain⟨t,xs,ys,pos,rfl,h⟩:=h;simp only[Al]at h;exact iV (E.b W T X _ c v h.1.1) (Z_.ss W T X _ a v hf h.1.2) (Z_.ss W T X _ b v hf h.2)
  |fors t it body=>
    replace h:=Na h;obtain⟨tg,it',xs,ys,pos,rfl,h⟩:=h;replace h:=Bh h;obtain⟨hn,h⟩:=h;obtain rfl:=Fi hn;replace h:=EE h;obtain⟨y,py,rfl,h⟩:=h;simp only[Al]at h;obtain⟨⟨⟨h1,h2⟩,h3⟩,h4⟩:=h;exact RI v.own v.calm (bK t) (Zb v hf.fn h1) (E.i W T X Ad _ _ it v rfl h3) (Z_.ss W T X _ body v hf h4) (Ku h2) (λ_ _ _ z=>nomatch z)
  |forT ts it body=>
    replace h:=Na h;obtain⟨tg,it',xs,zs,pos,rfl,h⟩:=h;replace h:=Bh h;obtain⟨hn,h⟩:=h;obtain rfl:=Fi hn;replace h:=Jq h;obtain⟨ys,cc,py,rfl,h⟩:=h;simp only[Al]at h;obtain⟨⟨⟨⟨h0,h1⟩,h2⟩,h3⟩,h4⟩:=h;exact RI v.own v.calm (RC ts) (QY v hf.fn h0 h1) (E.i W T X Ab _ _ it v rfl h3) (Z_.ss W T X _ body v hf h4) (Ku h2) (Pp ts)
  |forO i ts body=>
    replace h:=Na h;obtain⟨tg,it',xs,zs,pos,rfl,h⟩:=h;replace h:=Bh h;obtain⟨hn,h⟩:=h;obtain rfl:=Fi hn;replace h:=Jq h;obtain⟨ys,cc,py,rfl,h⟩:=h;simp only[Al]at h;obtain⟨⟨⟨h0,h1⟩,h2⟩,h3⟩:=h;replace h3:=Ht h3;obtain⟨g,pp,l,qq,rfl,h3⟩:=h3;replace h3:=Ep h3;obtain⟨y,rfl,h3⟩:=h3;simp only[Al,AF]at h3;obtain⟨⟨⟨rfl,g0⟩,hz⟩,h4⟩:=h3;replace hz:=EE hz;obtain⟨z,pz,rfl,hz⟩:=hz;obtain⟨g1,g2,_,_⟩:=F8 v g0;exact YU v.own v.calm (RC ts) (QY v hf.fn h0 h1) (Kq v hz) g1 g2 rfl (Z_.ss W T X _ body v hf h4) (Ku h2) (Pp ts)
  |whl c body=>
    replace h:=XV h;obtain⟨t,xs,ys,pos,rfl,h⟩:=h;replace h:=Bh h;obtain⟨hn,h⟩:=h;obtain rfl:=Fi hn;simp only[Al]at h;exact Yl Oy v.own (E.b W T X _ c v h.1) (Z_.ss W T X _ body v hf h.2)
  |rais c as=>
    replace h:(!(T.rzs.any λp=>p.2==c)||(LI st λa b=>b.isNone&&(match a with|some e=>IU e λg x xs=>inX T.rzs g c&&glB T g&&EL g&&decide (xs.length<=1000)&&chkEs n T (x::xs) as|none=>Ad)))=Ab:=h
    cases hc:T.rzs.any (λp=>p.2==c) with
    |false=>
      have hb:∀ ds,Z.xn c ds=.bad:=v.xt.xb c λp hp z=>by
        have:T.rzs.any (λp=>p.2==c)=Ab:=List.any_eq_true.mpr ⟨p,hp,AF.mpr z⟩
        rw[hc]at this;cases this
      intro Fz B pI s Y H D I ⟨U,x,p⟩;have p':Bj X.K CL Fz B W (O.of U (noX (evA Z U as)) λxs=>O.of U (Z.xn c xs) λx=>.exn x U) D:=p
      cases e1:evA Z U as with
      |bad=>rw[e1]at p';exact p'.elim
      |exn y=>rw[e1]at p';exact p'.elim
      |ok ds=>
        rw[e1]at p';have p2:Bj X.K CL Fz B W (O.of U (Z.xn c ds) λx=>.exn x U) D:=p'
        rw[hb ds]at p2;exact p2.elim
    |true=>
      rw[hc,Bool.not_true,Bool.false_or]at h;replace h:=XZ h;obtain⟨ea,eb,pos,rfl,h⟩:=h;replace h:=Bh h;obtain⟨h0,h⟩:=h;obtain rfl:=Dl.mp h0;cases ea with
      |none=>exact noF h
      |some e0=>
        replace h:=Ju h;obtain⟨g,np,x,xs,cpos,rfl,h⟩:=h;simp only[Al,AO]at h;obtain⟨⟨⟨⟨h1,h2⟩,h3⟩,h4⟩,h5⟩:=h;obtain⟨C,m1,m2⟩:=v.xt.rz _ (IV h1);obtain⟨n2,_,_⟩:=Fx h3;obtain⟨s0,e,es',rfl,m,rfl,s1⟩:=Ig h5;have q:=E.es W T X _ _ v h5;exact Xb v.calm hf.ex v.room v.rz (by unfold glB at h2;show X.env.scope.names.lookup g=_;rw[v.sc];exact eq_of_beq h2) m2 n2 m1 q.1 (λds=>v.xt.made c C ds m1) (CA s0) (IJ m xs es' s1) (λU ds z=>by rw[Hv Z U _ _ z,<-q.2.2.1,AZ];omega)
  |app i e=>
    replace h:=X1 h;obtain⟨x,px,m,ap,l,cp,pos,rfl,h2,h⟩:=h;replace h:=Ep h;obtain⟨v0,rfl,h⟩:=h;simp only[Al,AF]at h;obtain⟨⟨⟨rfl,h1⟩,h3⟩,h4⟩:=h;exact cV (Kq v h1) (E.e W T X _ e v h4).se rfl (by rw[CA h3];rfl) (by rw[h2];exact Ee _) (CA h3) rfl
  |ext i e=>exact absurd (show Ad=Ab from h) Av
  |rev i=>exact absurd (show Ad=Ab from h) Av
  |clr i=>exact absurd (show Ad=Ab from h) Av
  |put i k e=>exact absurd (show Ad=Ab from h) Av
  |tryx body c x hd=>
    cases body with
    |nil=>exact noF h
    |cons b bs=>
      cases bs with
      |cons=>exact noF h
      |nil=>
        unfold KZ at h;dsimp only at h;cases q:OH st with
        |none=>rw[q]at h;cases h
        |some t=>
          obtain⟨bt,hl,es⟩:=t;rw[q]at h;obtain⟨pos,rfl⟩:=Y_1 q;cases hl with
          |nil=>exact noF h
          |cons h1 hl=>
            cases hl with
            |cons=>exact noF h
            |nil=>
              cases es with
              |cons=>exact noF h
              |nil=>
                dsimp only at h;cases q1:xHd h1 with
                |none=>rw[q1]at h;cases h
                |some t1=>
                  obtain⟨g,m,h0,hs⟩:=t1;obtain⟨p1,hp,rfl⟩:=dA q1;rw[q1]at h;simp only[Al,AF]at h;obtain⟨⟨⟨⟨i1,i4⟩,i5⟩,i6⟩,i7⟩:=h;obtain⟨t1,t2⟩:=iG E v hf 6 i6;refine SS.ref (cT (up:=Z.up) (c:=c) (i:=x) hf.ex hf.st hf.fm (by rw[v.N];exact v.nd) (by rw[v.N];exact i4) (by rw[v.sc];exact i5) (gW v i1) t1 t2 (λe=>lJ v hf e x n _ _ i7)) λU=>.inr ?_
                  rw[YG];unfold Tk;cases evSs Z U (.cons b .nil)<;>rfl
  |try2 body c x hd c' hd' els=>exact absurd (show Ad=Ab from h) Av
  |swp i k l=>exact absurd (show Ad=Ab from h) Av
  |apop j i e=>exact absurd (show Ad=Ab from h) Av
  |ins i k e=>exact absurd (show Ad=Ab from h) Av
  |dput=>exact noF h
  |dsd=>exact noF h
  |rel=>exact noF h
theorem YQ{c:Ss}(h:Mb c=Ab)(U:Rho):evSs Z U c=.bad:=by
 cases c with
 |nil=>cases h
 |cons s ss=>
  cases s with
  |expr e=>
   cases e with
   |bi b as=>
    cases as with
    |nil=>
     cases b with
     |len=>rfl
     |_=>exact noF h
    |cons=>cases b<;>exact noF h
   |_=>exact noF h
  |_=>exact noF h
theorem cQ(Z_:SndS Z CL k n)(W:XW)(T:Tc)(X:Cx)(xs:Ac AD)(c:Ss)(v:VX Z CL k W T X)(hf:DefX X)(h:chkSs (n+1) T xs c=Ab):SSs X CL W xs (λU=>evSs Z U c):=by
 by_cases hb:Mb c=Ab
 .exact λFz B pI s Y H D I ⟨U,x,p⟩=>by
   dsimp only at p;rw[YQ hb]at p;exact p.elim
 have hb:Mb c=Ad:=by simpa using hb
 cases c with
 |nil=>
  simp only[chkSs,hb,DG,List.isEmpty_iff]at h;subst h;exact Q0
 |cons s ss=>
  by_cases hr:∃ i,s=.rel i
  .obtain⟨i,rfl⟩:=hr;simp only[chkSs,hb,DG]at h;exact Zm i (Z_.ss W T X xs ss v hf h)
  .cases xs with
   |nil=>cases s<;>first|(simp[chkSs,hb]at h;done)|exact absurd ⟨_,rfl⟩ hr
   |cons st r=>
    have h':KZ n T st s=Ab/\chkSs n T r ss=Ab:=by
     cases s<;>first|(simp only[chkSs,hb,DG,Al]at h;exact h)|exact absurd ⟨_,rfl⟩ hr
    exact MS (Z_.s W T X st s v hf h'.1) (Z_.ss W T X r ss v hf h'.2)
theorem OF:∀ n,SndS Z CL k n
 |0=>⟨λ_ _ _ _ _ _ _ h=>noF h,λ_ _ _ _ _ _ _ h=>noF h⟩
 |n+1=>⟨iQ (OF n),cQ (OF n)⟩
end
theorem Jn{n:Af}{ds:Ac D}{i:Af}{o:Ai}(h:(B8 n ds)[i]?=Aa (Aa (d,o))):o=Ad/\ds[i]?=Aa d:=by
 unfold B8 at h;by_cases hi:i<ds.length
 .rw[Ev (by simpa using hi),CO]at h
  cases e:ds[i]? with
  |none=>rw[e]at h;cases h
  |some x=>rw[e]at h;cases h;exact⟨rfl,rfl⟩
 .rw[Uu (by simpa using Nat.le_of_not_lt hi),Uv]at h
  split at h<;>cases h
theorem Xa{N:Ac Ag}{vs:Ac V}{i:Af}{v:V}(h:vs[i]?=Aa v):(L2.start N vs)[i]?=Aa (Aa v):=by
 unfold L2.start;have hi:=(AY.mp h).1;rw[Ev (by simpa using hi),CO,h]
 rfl
theorem Yh{N:Ac Ag}{n:Af}{vs:Ac V}{ds:Ac D}(hn:N.length=n)(hA:AOk H A)(r:Reps K CL H A vs ds):Sx K CL ⟨λb o=>H b=Aa o,λ_ _ _=>AV⟩ A (B8 n ds) (L2.start N vs) H:=by
 have own:∀ a,Bc A (B8 n ds) (L2.start N vs) a->A a:=λa h=>by
  rcases h with h|⟨j,d,h,_⟩
  .exact h
  .exact absurd (Jn h).1 (by decide)
 have hlen:(B8 n ds).length=(L2.start N vs).length:=by
  unfold B8 L2.start;simp only[BQ,BD,Uy,r.length,hn]
 refine⟨⟨λi d h=>?_,λi d h _=>absurd (Jn h).1 (by decide),hlen⟩,λa h=>hA a (own a h),λj d a h _=>absurd (Jn h).1 (by decide),λi j d e a h _ _ _=>absurd (Jn h).1 (by decide),λb o h=>h,hlen,λj h=>absurd (Jn h).1 (by decide)⟩
 obtain⟨v,h1,h2⟩:=r.get (Jn h).2;exact⟨v,Xa h1,Rep.sub own _ h2⟩
structure FunX (K:Fg) (x qual:Ag) (st:AD) (f:Ak) (fd:Bq):Prop where
 ex:∃(oc:Aj)(od:An Ak)(dV kV doc pm:Aj)(an:An Ak)(cdv ct:Aj)(osl:A4 (An Aj)),
  fd=BR x qual (FP st) (D3 st) (Bv st) dV kV doc pm an cdv ct/\K.lookup f=Aa ⟨oc,od,.func fd,osl⟩/\Du K cdv qual=Ab
 kp:A8 K (.ref f)=Ab
theorem LV{st:AD}{f:Ak}(F:Fun K x qual st f fd):FunX K x qual st f fd:=by
 obtain⟨oc,od,kV,doc,pm,an,cdv,ct,osl,e,lk,hcd⟩:=F.ex;exact⟨⟨oc,od,.none,kV,doc,pm,an,cdv,ct,osl,e,lk,hcd⟩,F.kp⟩
def JW(K:Fg)(mg:Ag->An Aj)(fns:Ac (Ag×Af×Af))(bl:Ac Ag)(rzs exs gls:Ac (Ag×Af))(Pg:Prg)(fuel:Af)(p:Ag×Af×Af):Prop:=∃ f fd ps qual st N,G6 K mg p.1=Aa (.ref f)/\(∃ x,FunX K x qual st f fd)/\Eb K fd ps []/\ps.length=p.2.2%1000/\FE fuel (CP 1000 p.2.2) fns bl rzs exs gls ps N st (Pg.defs p.2.1)=Ab
noncomputable def N3:AD->An (Am×Am×Az)
  | .Assign ts v p=>(match ts with
    |[t]=>Aa (t,v,p)
    | _=>Ae)
  |_=>Ae
theorem P6{e:AD}{t:Am×Am×Az}(h:N3 e=Aa t):e=.Assign [t.1] t.2.1 t.2.2:=by
 cases e with
 |Assign ts v p=>
  cases ts with
  |nil=>exact nomatch (show Ae=Aa t from h)
  |cons a ts=>
   cases ts with
   |nil=>cases h;rfl
   |cons=>exact nomatch (show Ae=Aa t from h)
 |_=>exact nomatch (show Ae=Aa t from h)
noncomputable def N2:Am->An (Am×Ag×Az)
 |.Attribute e x p=>Aa (e,x,p)
 |_=>Ae
theorem P5{e:Am}{t:Am×Ag×Az}(h:N2 e=Aa t):e=.Attribute t.1 t.2.1 t.2.2:=by
 cases e with
 |Attribute e x p=>cases h;rfl
 |_=>exact nomatch (show Ae=Aa t from h)
noncomputable def TC(n:Af)(T:Tc)(b:Ac AD):An DC:=(KN b).bind λs=>(N3 s.1).bind λt1=>(N2 t1.1).bind λa1=>(Gd a1.1).bind λs1=>(Gd t1.2.1).bind λq1=>(N3 s.2).bind λt2=>(N2 t2.1).bind λa2=>(Gd a2.1).bind λs2=>
 if (s1.1==("self" : Ag)&&(a1.2.1==("p" : Ag)&&(q1.1==("p" : Ag)&&(s2.1==("self" : Ag)&&(a2.2.1==("triple" : Ag)&&(Hx t2.2.1&&A2 n T t2.2.1 (.call 17 (.cons (.var 1) (.cons (.var 2) .nil)))))))))=Ab then Aa () else Ae
theorem ZO{n:Af}{T:Tc}{b:Ac AD}(h:TC n T b=Aa u):∃ p0 p1 p2 p3 p4 p5 p6 ev,b=[.Assign [.Attribute (.Name "self" p0) "p" p1] (.Name "p" p2) p6,.Assign [.Attribute (.Name "self" p3) "triple" p4] ev p5]/\Hx ev=Ab/\A2 n T ev (.call 17 (.cons (.var 1) (.cons (.var 2) .nil)))=Ab:=by
 obtain⟨s,e1,h⟩:=Au.mp h;obtain⟨t1,e2,h⟩:=Au.mp h;obtain⟨a1,e3,h⟩:=Au.mp h;obtain⟨s1,e4,h⟩:=Au.mp h;obtain⟨q1,e5,h⟩:=Au.mp h;obtain⟨t2,e6,h⟩:=Au.mp h;obtain⟨a2,e7,h⟩:=Au.mp h;obtain⟨s2,e8,h⟩:=Au.mp h;split at h
 .rename_i hc;simp only[Al,AF]at hc;obtain⟨c1,c2,c3,c4,c5,c6,c7⟩:=hc;rw[Li e1,P6 e2,P5 e3,G0 e4,G0 e5,P6 e6,P5 e7,G0 e8,c1,c2,c3,c4,c5];exact⟨_,_,_,_,_,_,_,_,rfl,c6,c7⟩
 .cases h
noncomputable def KO(fuel:Af)(fns:Ac (Ag×Af×Af))(bl:Ac Ag)(rzs exs gls:Ac (Ag×Af))(st:AD):Ai:=
 (Bv st).kind==.function&&((Bv st).isCoroutine==Ad&&((Bv st).isGenerator==Ad&&((Bv st).names.lookup ("self" : Ag)==Aa .local&&((Bv st).names.lookup ("p" : Ag)==Aa .local&&((Bv st).names.lookup ("numbers" : Ag)==Aa .local&&(((Bv st).names.all λy=>y.2 != .free) &&
  (TC fuel ⟨Bv st,["self", "p", "numbers"],fns,bl,rzs,exs,gls,Ab⟩ (D3 st)).isSome))))))
noncomputable def Ir(s:AD)(j:Af):AD:=match s with
  |.ClassDef _ _ _ b _ _ _ _ _ _ _=>b.getD j s
  |s=>s
def InR(K:Fg)(fns:Ac (Ag×Af×Af))(bl:Ac Ag)(rzs exs gls:Ac (Ag×Af))(Pg:Prg)(fuel:Af):Prop:=(∀ c,c<3->Pg.defs (900+c)=mkC c)/\Pg.defs 910=inC/\∃ f fd x qual st,FunX K x qual st f fd/\Eb K fd ["self", "p", "numbers"] []/\KO fuel fns bl rzs exs gls st=Ab/\∀ c,c<3->∃ C,OC K c=Aa C/\Mk K C f
structure Tab (K:Fg) (mg:Ag->An Aj) (CL:ClA) (fns:Ac (Ag×Af×Af)) (bl:Ac Ag) (rzs exs gls:Ac (Ag×Af)) (Pg:Prg) (fuel:Af):Prop where
 os:OS K mg
 ini:InR K fns bl rzs exs gls Pg fuel
 xt:XT Pg.up Pg.xn CL rzs exs K mg
 bln:∀ x,x∈bl->mg x=Ae
 gl:∀ p∈gls,L8 K mg CL p.1 (Pg.G p.2)
 fn:∀ p∈fns,JW K mg fns bl rzs exs gls Pg fuel p
theorem fQ(Pg:Prg)(n i:Af):(gam Pg n).fr i=(Pg.defs i).fr:=by cases n<;>rfl
theorem R6(Pg:Prg)(n:Af):(gam Pg n).up=Pg.up:=by cases n<;>rfl
theorem SX(Pg:Prg)(n:Af):(gam Pg n).G=Pg.G:=by cases n<;>rfl
theorem R5(Pg:Prg)(n:Af):(gam Pg n).xn=Pg.xn:=by cases n<;>rfl
section
variable{P:AJ}{w:AT}{K:Fg}{mg:Ag->An Aj}{base:AB}{CL:ClA}{fns:Ac (Ag×Af×Af)}{bl:Ac Ag}{rzs exs gls:Ac (Ag×Af)}{Pg:Prg}{fuel:Af}
def Lvl(P:AJ)(w:AT)(K:Fg)(mg:Ag->An Aj)(base:AB)(CL:ClA)(Pg:Prg)(n:Af)(p:Ag×Af×Af):Prop:=∃ f fd ps,G6 K mg p.1=Aa (.ref f)/\A8 K (.ref f)=Ab/\Eb K fd ps []/\ps.length=p.2.2%1000/\(p.2.2<1000->FnOk P w K mg base (CXR P w) n f fd ps (spD K CL (p.2.2%1000) ((gam Pg n).fr p.2.1) ((gam Pg n).F p.2.1)))/\(1000<=p.2.2->HotOk P w K mg base n f fd ps (spH K CL (p.2.2%1000) ((gam Pg n).fr p.2.1) ((gam Pg n).F p.2.1)))
theorem Sd(t:Tab K mg CL fns bl rzs exs gls Pg fuel){n:Af}(hlv:∀ q∈fns,Lvl P w K mg base CL Pg n q)(hmk:∀ c,c<3->MkR P w K mg base CL (gam Pg n).F n c){st:AD}{f:Ak}{ps N:Ac Ag}{m id:Af}(h2:FunX K x qual st f fd)(h4:ps.length=m)(h5:FE fuel Ad fns bl rzs exs gls ps N st (Pg.defs id)=Ab):FnOk P w K mg base (CXR P w) (n+1) f fd ps (spD K CL m ((gam Pg (n+1)).fr id) ((gam Pg (n+1)).F id)):=by
  unfold FE at h5;simp only[Al,AF,Bk,BV,BN,Go,J3]at h5;obtain⟨⟨⟨⟨⟨⟨⟨⟨c1,c2⟩,c3⟩,c4⟩,c5⟩,c6⟩,c7⟩,c8⟩,c9⟩:=h5;obtain⟨oc,od,dV,kV,doc,pm,an,cdv,ct,osl,rfl,lk,hcd⟩:=h2.ex;refine Oz (N:=N) lk hcd ⟨c1,c2,c3,Kc c4,c5,c6,c7⟩ (λvs H Q E ⟨ds,A,z,_⟩=>z.trans h4.symm) λA outer s H vs Q E hr ⟨ds,B,hl,hA,hreps,hpost⟩=>?_
  have xt:XT (gam Pg n).up (gam Pg n).xn CL rzs exs K mg:=by rw[R6,R5];exact t.xt
  have gl:∀ p∈gls,L8 K mg CL p.1 ((gam Pg n).G p.2):=by rw[SX];exact t.gl
  have key:∀ W:XW,(∀ x cls dx H',W x H'->E5 K CL H' cls dx x->E cls dx H')->Bj K CL ⟨λb o=>H b=Aa o,λ_ _ _=>AV⟩ B W (evSs (gam Pg n) (B8 (Pg.defs id).n ds) (Pg.defs id).body) {nx:=λ_ H'=>Q .non H',rt:=Q} ->
      ∃ t,PSs (EM (CXR P w) P w K mg base N qual (Bv st) f cdv A outer s H E) (D3 st) t/\t {nx:=λ_ H'=>Q .non H',rt:=Q} (start N vs) H:=λW hW hp=>by
    have v:VX (gam Pg n) CL n W ⟨Bv st,N,fns,bl,rzs,exs,gls,Ab⟩ (EM (CXR P w) P w K mg base N qual (Bv st) f cdv A outer s H E):=⟨rfl,c1,rfl,Kc c4,rfl,hr,t.bln,t.os,hmk,hlv,ownR,SM hW,rzR hW,xt,gl,λ_=>rfl⟩
    exact⟨_,(OF fuel).ss W _ _ _ (Pg.defs id).body v ⟨λ_=>rfl,rfl,rfl,rfl⟩ c9 ⟨λb o=>H b=Aa o,λ_ _ _=>AV⟩ B,_,Yh c8 hA hreps,hp⟩
  have no:∀ x cls dx H',W0 x H'->E5 K CL H' cls dx x->E cls dx H':=λ_ _ _ _ z=>z.elim
  have e:(gam Pg (n+1)).F id ds=Et Pg.xs ((evSs (gam Pg n) (B8 (Pg.defs id).n ds) (Pg.defs id).body).ans (Pg.defs id).fr):=rfl;rw[e,fQ]at hpost;have cutO:∀ r:R D,(∀ x,r≠.exn x)->Et Pg.xs r=r:=λr hr=>by
    cases Pg.xs<;>cases r<;>first|rfl|exact absurd rfl (hr _)
  cases eo:evSs (gam Pg n) (B8 (Pg.defs id).n ds) (Pg.defs id).body with
  |next U'=>
    refine key W0 no ?_;rw[eo]at hpost ⊢;cases ef:(Pg.defs id).fr with
    |true=>rw[ef]at hpost;rw[cutO _ (by intro x z;cases z)]at hpost;exact hpost.elim
    |false=>
      rw[ef]at hpost;rw[cutO _ (by intro x z;cases z)]at hpost
      exact λY' H' x'=>hpost .non H' (λb o z=>x'.same b o z) ⟨rfl,λz=>nomatch z⟩
  |ret d b=>
    refine key W0 no ?_;rw[eo]at hpost ⊢;intro v H' sm rp fr;have hp2:(match Et Pg.xs (if ((Pg.defs id).fr&&(!b&&isL d))=Ab then R.bad else R.ok d) with
      |.ok d=>∀ v H',Ax H H'->Dj K CL (Pg.defs id).fr H B H' v d->Q v H'
      |.exn x=>∀ cls dx H',Ax H H'->E5 K CL H' cls dx x->E cls dx H'
      | .bad=>AV):=hpost
    cases ec:((Pg.defs id).fr&&(!b&&isL d)) with
    |true=>rw[ec,AA rfl,cutO _ (by intro x z;cases z)]at hp2;exact hp2.elim
    |false=>
      rw[ec,AH (by decide),cutO _ (by intro x z;cases z)]at hp2
      refine hp2 v H' sm ⟨rp,λefr es hd=>?_⟩
      subst hd;have eb:b=Ab:=by
        cases b with
        |true=>rfl
        |false=>rw[efr]at ec;cases ec
      obtain⟨a,xs,h1,h2,h3,h4⟩:=fr eb es rfl;refine⟨a,xs,h1,?_,h3,h4⟩;cases ha:H a with
      |none=>rfl
      |some o=>exact absurd ha (h2 o)
  |brk U'=>rw[eo]at hpost;have hp2:(match Et Pg.xs (R.bad:R D) with | .ok _=>_ | .exn _=>_ | .bad=>AV):=hpost;rw[cutO _ (by intro x z;cases z)]at hp2;exact hp2.elim
  |cont U'=>rw[eo]at hpost;have hp2:(match Et Pg.xs (R.bad:R D) with | .ok _=>_ | .exn _=>_ | .bad=>AV):=hpost;rw[cutO _ (by intro x z;cases z)]at hp2;exact hp2.elim
  |bad=>rw[eo]at hpost;have hp2:(match Et Pg.xs (R.bad:R D) with | .ok _=>_ | .exn _=>_ | .bad=>AV):=hpost;rw[cutO _ (by intro x z;cases z)]at hp2;exact hp2.elim
  |exn x U'=>
    rw[eo]at hpost;have hp2:(match Et Pg.xs (R.exn x:R D) with
      |.ok d=>∀ v H',Ax H H'->Dj K CL (Pg.defs id).fr H B H' v d->Q v H'
      |.exn x=>∀ cls dx H',Ax H H'->E5 K CL H' cls dx x->E cls dx H'
      | .bad=>AV):=hpost
    cases ex:Pg.xs with
    |false=>rw[ex]at hp2;exact hp2.elim
    |true=>
      rw[ex]at hp2;have hp3:∀ cls dx H',Ax H H'->E5 K CL H' cls dx x->E cls dx H':=hp2;refine key (λy H'=>y=x/\Ax H H') (λy cls dx H' ⟨e1,sm⟩ xr=>?_) ?_
      · subst e1;exact hp3 cls dx H' sm xr
      · rw[eo];exact λH' sm=>⟨rfl,sm⟩
theorem gU(t:Tab K mg CL fns bl rzs exs gls Pg fuel){n:Af}(hlv:∀ q∈fns,Lvl P w K mg base CL Pg n q)(hmk:∀ c,c<3->MkR P w K mg base CL (gam Pg n).F n c){st:AD}{f:Ak}{ps N:Ac Ag}{m id:Af}(h2:FunX K x qual st f fd)(h4:ps.length=m)(h5:FE fuel Ab fns bl rzs exs gls ps N st (Pg.defs id)=Ab):HotOk P w K mg base (n+1) f fd ps (spH K CL m ((gam Pg (n+1)).fr id) ((gam Pg (n+1)).F id)):=by
 exfalso
 unfold FE at h5;simp at h5
noncomputable def Gn(Pg:Prg)(n:Af):Ac D->R D
  | [d1,d2]=>(match (gam Pg n).F 17 [d1,d2] with
    |.ok t=>if nlD 5 t=Ab then .ok (.tup [d1,t]) else .bad
    | _=>.bad)
  |_=>.bad
theorem iE(Pg:Prg)(n:Af)(ds:Ac D)(y:Ex):Gn Pg n ds≠.exn y:=by
  match ds with
  |[]=>exact λz=>nomatch z
  |[_]=>exact λz=>nomatch z
  |_::_::_::_=>exact λz=>nomatch z
  |[d1,d2]=>
    show (match (gam Pg n).F 17 [d1,d2] with
      |.ok t=>if nlD 5 t=Ab then .ok (.tup [d1,t]) else .bad
      | _=>.bad:R D)≠.exn y
    split
    · split<;>exact λz=>nomatch z
    · exact λz=>nomatch z
theorem bF(t:Tab K mg CL fns bl rzs exs gls Pg fuel){n:Af}(hlv:∀ q∈fns,Lvl P w K mg base CL Pg n q)(hmk:∀ c,c<3->MkR P w K mg base CL (gam Pg n).F n c){st:AD}{f:Ak}(h2:FunX K x qual st f fd)(h5:KO fuel fns bl rzs exs gls st=Ab):
    FnOk P w K mg base (CXR P w) (n+1) f fd ["self", "p", "numbers"] (spI K CL (Gn Pg n)):=by
  unfold KO at h5;simp only[Al,AF,BV,Go,J3]at h5;obtain⟨c1,c2,c3,c4,c5,c6,c7,c8⟩:=h5;obtain⟨u,c8⟩:=BZ.mp c8;obtain⟨p0,p1,p2,p3,p4,p5,p6,ev,eb,hnc,hck⟩:=ZO c8;obtain⟨oc,od,dV,kV,doc,pm,an,cdv,ct,osl,rfl,lk,hcd⟩:=h2.ex;refine Oz (N:=["self", "p", "numbers"]) lk hcd ⟨c1,c2,c3,by decide,rfl,λy hy=>?_,c7⟩ (λvs H Q E ⟨x,C,dx,us,ds,A,H0,e,z,_⟩=>by rw[e,AZ,z];rfl) λA outer s H vs Q E hr ⟨x,C,dx,us,ds,B,H0,e,hl,cl,np,nt,hx,h0,sm,hA,hreps,hpost⟩=>?_
  · rcases AG.mp hy with rfl|hy
    · exact .inl c4
    · rcases AG.mp hy with rfl|hy
      · exact .inl c5
      · rw[Bm.mp hy];exact .inl c6
  subst e;have xt:XT (gam Pg n).up (gam Pg n).xn CL rzs exs K mg:=by rw[R6,R5];exact t.xt
  have gl:∀ p∈gls,L8 K mg CL p.1 ((gam Pg n).G p.2):=by rw[SX];exact t.gl
  have no:∀ x cls dx H',W0 x H'->E5 K CL H' cls dx x->E cls dx H':=λ_ _ _ _ z=>z.elim
  have v:VX (gam Pg n) CL n W0 ⟨Bv st,["self", "p", "numbers"],fns,bl,rzs,exs,gls,Ab⟩ (EM (CXR P w) P w K mg base ["self", "p", "numbers"] qual (Bv st) f cdv A outer s H E):=⟨rfl,c1,rfl,(show (["self", "p", "numbers"]:Ac Ag).Nodup by decide),rfl,hr,t.bln,t.os,hmk,hlv,ownR,SM no,rzR no,xt,gl,λ_=>rfl⟩
  match us,hl with
  |[v1,v2],_=>
    match ds,hreps with
    |[],r=>exact r.elim
    |[_],r=>exact r.2.elim
    |_::_::_::_,r=>exact r.2.2.elim
    |[d1,d2],r=>
      have sv:=((snd fuel).e W0 _ _ ev _ v hck).se;obtain⟨tt,pss,rd⟩:=Xs (H:=H) (H0:=H0) (x:=x) (C:=C) (dx:=dx) (v1:=v1) (v2:=v2) (d1:=d1) (d2:=d2) (A:=B) (Q:=Q) (Y:=L2.start ["self", "p", "numbers"] [.ref x,v1,v2]) (p0:=p0) (p1:=p1) (p2:=p2) (p3:=p3) (p4:=p4) (p5:=p5) (p6:=p6) (t0:=EM (CXR P w) P w K mg base ["self", "p", "numbers"] qual (Bv st) f cdv A outer s H E)
        (λp=>JB rfl (.inl c4)) (λp=>JB rfl (.inl c5)) sv (IL hnc)
      refine⟨tt,by rw[eb];exact pss,rd rfl cl np nt hx h0 sm hA r.1 r.2.1 ?_⟩
      have hp2:(match (match (gam Pg n).F 17 [d1,d2] with
          |.ok t=>if nlD 5 t=Ab then R.ok (D.tup [d1,t]) else .bad
          | _=>.bad) with
        |.ok d=>∀ e1 e2,d=.tup [e1,e2]->∀ v1 v2 H',Ax H0 H'->H' x=Aa (.ins C dx [("p",v1),("triple",v2)])->Rep K CL H' B v1 e1->Rep K CL H' B v2 e2->Q .non H'
        | _=>AV):=hpost
      cases e17:(gam Pg n).F 17 [d1,d2] with
      |bad=>rw[e17]at hp2;exact hp2.elim
      |exn y=>rw[e17]at hp2;exact hp2.elim
      |ok t0=>
        rw[e17]at hp2;dsimp only at hp2;by_cases hn:nlD 5 t0=Ab
        · rw[AA hn]at hp2;exact⟨t0,rfl,hn,λw1 w2 H' a b c d=>hp2 _ _ rfl w1 w2 H' a b c d⟩
        · rw[AH hn]at hp2;exact hp2.elim
theorem mkF:(mkC c).run Z [d1,d2]=(noX (Z.F 910 [d1,d2])).bind (D4 c):=by
 simp only[Df.run,mkC,B8,Xd,Q5];show (O.seq (O.of _ ((noX ((Z.F 910 [d1,d2]).bind λd=>.ok d)).bind λx=>D4 c x) λd=>O.ret d _) _).ans Ad=_
 have nx:∀ d y,D4 c d≠.exn y:=λd y z=>by
  unfold D4 at z;split at z
  .split at z<;>cases z
  .cases z
 cases Z.F 910 [d1,d2] with
 |bad=>rfl
 |exn y=>rfl
 |ok d=>
  show (O.seq (O.of _ (D4 c d) λd=>O.ret d _) _).ans Ad=D4 c d
  cases e:D4 c d with
  |ok _=>rfl
  |bad=>rfl
  |exn y=>exact absurd e (nx d y)
theorem inF:noX (inC.run Z [d1,d2])=noX ((Z.F 17 [d1,d2]).bind λt=>.ok (.tup [d1,t])):=by
 simp[Df.run,inC,B8];cases Z.F 17 [d1,d2]<;>rfl
theorem S1(t:Tab K mg CL fns bl rzs exs gls Pg fuel):∀ n,(∀ m,m<=n->∀ q∈fns,Lvl P w K mg base CL Pg m q)->∀ c,c<3->MkR P w K mg base CL (gam Pg n).F n c:=by
  intro n
  induction n using Nat.strongRecOn with
  |ind n ih=>
    intro hl c hc;obtain⟨i1,i2,f,fd,x,qual,st,h2,h3,h5,h6⟩:=t.ini
    match n,ih,hl with
    |0,_,_=>exact .inl λds=>rfl
    |1,_,_=>
      refine .inl λds=>?_
      have e:(gam Pg 1).F (900+c) ds=Et Pg.xs ((Pg.defs (900+c)).run (gam Pg 0) ds):=rfl;rw[e,i1 c hc];have e2:(mkC c).run (gam Pg 0) ds=.bad:=by
        match ds with
        |[]=>rfl
        |[_]=>rfl
        |_::_::_=>rfl
      rw[e2];cases Pg.xs<;>rfl
    |m+2,ih,hl=>
      obtain⟨C,o1,M⟩:=h6 c hc;refine .inr ⟨C,f,fd,Gn Pg m,m+1,o1,M,h3,rfl,bF t (λq hq=>hl m (by omega) q hq) (ih m (by omega) λk hk=>hl k (by omega)) h2 h5,λds hd=>?_,iE Pg m⟩
      match ds,hd with
      |[d1,d2],_=>
        have cutN:∀ r:R D,noX (Et Pg.xs r)=noX r:=λr=>by cases Pg.xs<;>cases r<;>rfl
        have e:(gam Pg (m+2)).F (900+c) [d1,d2]=Et Pg.xs ((Pg.defs (900+c)).run (gam Pg (m+1)) [d1,d2]):=rfl;have e0:(gam Pg (m+1)).F 910 [d1,d2]=Et Pg.xs ((Pg.defs 910).run (gam Pg m) [d1,d2]):=rfl;rw[e,i1 c hc,mkF,e0,i2,cutN,inF];cases e17:(gam Pg m).F 17 [d1,d2] with
        |bad=>refine .inl ?_;cases Pg.xs<;>rfl
        |exn y=>refine .inl ?_;cases Pg.xs<;>rfl
        |ok t0=>
          by_cases hn:nlD 5 t0=Ab
          · refine .inr ?_;have g:Gn Pg m [d1,d2]=.ok (.tup [d1,t0]):=by
              show (match (gam Pg m).F 17 [d1,d2] with
                |.ok t=>if nlD 5 t=Ab then .ok (.tup [d1,t]) else .bad
                | _=>.bad:R D)=_
              rw[e17];exact AA hn
            rw[g];show Et Pg.xs (D4 c (.tup [d1,t0]))=D4 c (.tup [d1,t0]);have:D4 c (.tup [d1,t0])=.ok (.obj c [("p",d1),("triple",t0)]):=AA hn;rw[this];cases Pg.xs<;>rfl
          · refine .inl ?_;have:D4 c (.tup [d1,t0])=.bad:=AH hn;show Et Pg.xs (D4 c (.tup [d1,t0]))=.bad;rw[this];cases Pg.xs<;>rfl
theorem QZ(t:Tab K mg CL fns bl rzs exs gls Pg fuel):∀ n m,m<=n->∀ p∈fns,Lvl P w K mg base CL Pg m p:=by
 have zero:∀ p∈fns,Lvl P w K mg base CL Pg 0 p:=λp hp=>by
  obtain⟨f,fd,ps,qual,st,N,h1,⟨x0,h2⟩,h3,h4,h5⟩:=t.fn p hp;exact⟨f,fd,ps,h1,h2.kp,h3,h4,λ_=>⟨λvs H Q E ⟨ds,A,_,_,_,z⟩=>z.elim,λA outer s H args us vs Q E _ _ _ _ ⟨ds,A,_,_,_,z⟩=>z.elim⟩,λ_=>⟨λvs H Q E ⟨ds,A,_,_,_,z⟩=>z.elim,λA ev outer s H args us vs Q E _ _ _ _ ⟨ds,A,_,_,_,z⟩=>z.elim⟩⟩
 intro n
 induction n with
 |zero=>intro m hm p hp;obtain rfl:=Nat.le_zero.mp hm;exact zero p hp
 |succ n ih=>
  intro m hm p hp;by_cases hmn:m<=n
  .exact ih m hmn p hp
  .have:m=n+1:=by omega
   subst this;have mk:=S1 (P:=P) (w:=w) (base:=base) t n ih;obtain⟨f,fd,ps,qual,st,N,h1,⟨x0,h2⟩,h3,h4,h5⟩:=t.fn p hp;refine⟨f,fd,ps,h1,h2.kp,h3,h4,λhlt=>?_,λhge=>?_⟩
   .have eb:CP 1000 p.2.2=Ad:=by
     cases e:CP 1000 p.2.2 with
     |false=>rfl
     |true=>exact absurd (Bt e) (by omega)
    rw[eb]at h5;exact Sd t (λq hq=>ih n (AI _) q hq) mk h2 h4 h5
   .rw[Nat.ble_eq_true_of_le hge]at h5;exact gU t (λq hq=>ih n (AI _) q hq) mk h2 h4 h5
theorem cH(t:Tab K mg CL fns bl rzs exs gls Pg fuel)(n:Af):∀ p∈fns,Lvl P w K mg base CL Pg n p:=QZ t n n (AI _)
theorem cJ(t:Tab K mg CL fns bl rzs exs gls Pg fuel)(n:Af):∀ c,c<3->MkR P w K mg base CL (gam Pg n).F n c:=S1 t n (QZ t n)
theorem fY{s s':Ao}{e:Aj}(h:CXR P w [] H s (λ_ _ _=>AV) e s'):AV:=by
 obtain⟨_,_,_,_,_,_,_,_,_,_,_,_,_,_,_,z⟩:=h;exact z
noncomputable def Tf:AD->An (Am×Az)
 |.Expr e p=>Aa (e,p)
 |_=>Ae
theorem Y_4{e:AD}{t:Am×Az}(h:Tf e=Aa t):e=.Expr t.1 t.2:=by
 cases e with
 |Expr x p=>cases h;rfl
 |_=>exact nomatch (show Ae=Aa t from h)
noncomputable def Ti:AD->An (Am×Am×Az)
  | .Assign ts v p=>(match ts with
    |[t]=>Aa (t,v,p)
    | _=>Ae)
  |_=>Ae
theorem Y_6{e:AD}{t:Am×Am×Az}(h:Ti e=Aa t):e=.Assign [t.1] t.2.1 t.2.2:=by
 cases e with
 |Assign ts v p=>
  cases ts with
  |nil=>exact nomatch (show Ae=Aa t from h)
  |cons a ts=>
   cases ts with
   |nil=>cases h;rfl
   |cons=>exact nomatch (show Ae=Aa t from h)
 |_=>exact nomatch (show Ae=Aa t from h)
noncomputable def OJ:Am->An (Am×Ag×Az)
 |.Attribute e x p=>Aa (e,x,p)
 |_=>Ae
theorem QR{e:Am}{t:Am×Ag×Az}(h:OJ e=Aa t):e=.Attribute t.1 t.2.1 t.2.2:=by
 cases e with
 |Attribute e x p=>cases h;rfl
 |_=>exact nomatch (show Ae=Aa t from h)
noncomputable def Te:Am->An (Ac Am×Az)
 |.JoinedStr l p=>Aa (l,p)
 |_=>Ae
theorem Y_3{e:Am}{t:Ac Am×Az}(h:Te e=Aa t):e=.JoinedStr t.1 t.2:=by
 cases e with
 |JoinedStr l p=>cases h;rfl
 |_=>exact nomatch (show Ae=Aa t from h)
noncomputable def OI:Am->An (Am×Ah×Az)
  | .FormattedValue e n f p=>(match f with
    |none=>Aa (e,n,p)
    | _=>Ae)
  |_=>Ae
theorem QQ{e:Am}{t:Am×Ah×Az}(h:OI e=Aa t):e=.FormattedValue t.1 t.2.1 Ae t.2.2:=by
 cases e with
 |FormattedValue e n f p=>
  cases f with
  |none=>cases h;rfl
  |some=>exact nomatch (show Ae=Aa t from h)
 |_=>exact nomatch (show Ae=Aa t from h)
noncomputable def L3:Am->An (Ag×Af×Az)
  | .Constant c k p=>(match c with
    |.str z=>Aa (z,k,p)
    | _=>Ae)
  |_=>Ae
theorem Ny{e:Am}{t:Ag×Af×Az}(h:L3 e=Aa t):e=.Constant (.str t.1) t.2.1 t.2.2:=by
 cases e with
 |Constant c k p=>
  cases c with
  |str z=>cases h;rfl
  |_=>exact nomatch (show Ae=Aa t from h)
 |_=>exact nomatch (show Ae=Aa t from h)
noncomputable def Td{α:Type}:Ac α->An (α×α×α)
 |[a,b,c]=>Aa (a,b,c)
 |_=>Ae
theorem Y_2{l:Ac α}{t:α×α×α}(h:Td l=Aa t):l=[t.1,t.2.1,t.2.2]:=by
  match l,h with
  |[a,b,c],h=>cases h;rfl
  |[],h=>cases h
  |[_],h=>cases h
  |[_,_],h=>cases h
  |_::_::_::_::_,h=>cases h
noncomputable def mS(par:Ag)(j:Ac Am):An DC:=(KN j).bind λfk=>(OI fk.1).bind λfm=>(Gd fm.1).bind λq1=>(L3 fk.2).bind λz=>if (q1.1==par&&(decide (fm.2.1=-1)&&CP z.1.length 1000))=Ab then Aa () else Ae
noncomputable def mR(par:Ag)(j:Ac Am):An DC:=(Td j).bind λfk=>(L3 fk.1).bind λy=>(OI fk.2.1).bind λfm=>(Gd fm.1).bind λq1=>(L3 fk.2.2).bind λz=>if (q1.1==par&&(decide (fm.2.1=-1)&&(CP y.1.length 400&&CP z.1.length 1000)))=Ab then Aa () else Ae
noncomputable def fsX(par:Ag)(e:Am):An DC:=(Te e).bind λj=>if ((mS par j.1).isSome||(mR par j.1).isSome)=Ab then Aa () else Ae
theorem fS{e:Am}(h:fsX par e=Aa u):FsOk par e:=by
 obtain⟨j,e1,h⟩:=Au.mp h;rw[Y_3 e1];split at h
 .rename_i hc;rcases orT hc with hc|hc
  .obtain⟨_,h⟩:=BZ.mp hc;obtain⟨fk,e2,h⟩:=Au.mp h;obtain⟨fm,e3,h⟩:=Au.mp h;obtain⟨q1,e4,h⟩:=Au.mp h;obtain⟨z,e5,h⟩:=Au.mp h;split at h
   .rename_i hc;simp only[Al,AF,AO]at hc;obtain⟨c1,c2,c3⟩:=hc;rw[Li e2,QQ e3,G0 e4,Ny e5,c1,c2];exact fR (Bt c3)
   .cases h
  .obtain⟨_,h⟩:=BZ.mp hc;obtain⟨fk,e2,h⟩:=Au.mp h;obtain⟨y,e6,h⟩:=Au.mp h;obtain⟨fm,e3,h⟩:=Au.mp h;obtain⟨q1,e4,h⟩:=Au.mp h;obtain⟨z,e5,h⟩:=Au.mp h;split at h
   .rename_i hc;simp only[Al,AF,AO]at hc;obtain⟨c1,c2,c4,c3⟩:=hc;rw[Y_2 e2,Ny e6,QQ e3,G0 e4,Ny e5,c1,c2];exact YE (Bt c4) (Bt c3)
   .cases h
 .cases h
noncomputable def Tn(g par f:Ag)(b:Ac AD):An DC:=(KN b).bind λs=>(Tf s.1).bind λc=>(Tg c.1).bind λcl=>(OJ cl.1).bind λat1=>(Gd at1.1).bind λg1=>(KN cl.2.1).bind λab=>(Gd ab.1).bind λs1=>(fsX par ab.2).bind λ_=>(Ti s.2).bind λt=>(OJ t.1).bind λat2=>(Gd at2.1).bind λs2=>(Gd t.2.1).bind λq2=>
 if (g1.1==g&&(at1.2.1==("__init__" : Ag)&&(s1.1==("self" : Ag)&&(s2.1==("self" : Ag)&&(at2.2.1==f&&(q2.1==par&&at1.2.2.endLine==cl.2.2.line))))))=Ab then Aa () else Ae
noncomputable def To(g par f:Ag)(b:Ac AD):Ai:=(Tn g par f b).isSome
theorem bG{g par f:Ag}{b:Ac AD}(h:To g par f b=Ab):∃ j np apos p1 cpos p6 p7 p8 p9 p10,b=OO g par f j np apos p1 cpos p6 p7 p8 p9 p10/\(apos.endLine==cpos.line)=Ab/\FsOk par j:=by
 obtain⟨_,h⟩:=BZ.mp (show (Tn g par f b).isSome=Ab from h)
 obtain⟨s,e1,h⟩:=Au.mp h;obtain⟨c,e2,h⟩:=Au.mp h;obtain⟨cl,e3,h⟩:=Au.mp h;obtain⟨at1,e4,h⟩:=Au.mp h;obtain⟨g1,e5,h⟩:=Au.mp h;obtain⟨ab,e6,h⟩:=Au.mp h;obtain⟨s1,e7,h⟩:=Au.mp h;obtain⟨_,e8,h⟩:=Au.mp h;obtain⟨t,f4,h⟩:=Au.mp h;obtain⟨at2,f5,h⟩:=Au.mp h;obtain⟨s2,f6,h⟩:=Au.mp h;obtain⟨q2,f7,h⟩:=Au.mp h;split at h
 .rename_i hc;simp only[Al,AF,AO]at hc;obtain⟨c1,c2,c3,c6,c7,c8,h1⟩:=hc;rw[Li e1,Y_4 e2,Y_5 e3,QR e4,G0 e5,Li e6,G0 e7,Y_6 f4,QR f5,G0 f6,G0 f7,c1,c2,c3,c6,c7,c8];exact⟨_,_,_,_,_,_,_,_,_,_,rfl,by rw[AF];exact h1,fS e8⟩
 .cases h
noncomputable def ON(g par f:Ag)(st:AD):Ai:=
 (Bv st).kind==.function&&((Bv st).isCoroutine==Ad&&((Bv st).isGenerator==Ad&&(JC ["self",par]&&((Bv st).names.lookup ("self" : Ag)==Aa .local&&((Bv st).names.lookup par==Aa .local&&(((Bv st).names.all λy=>y.2 != .free) &&
  ((Bv st).names.lookup g==Aa .globalImplicit&&(g != ("__debug__" : Ag)&&(par != ("__debug__" : Ag)&&(par != ("__classdict__" : Ag)&&To g par f (D3 st)))))))))))
def InI(K:Fg)(f:Ak)(qual:Ag)(st:AD):Prop:=∃ fd,Fun K "__init__" qual st f fd
theorem ini_mk{st:AD}{f:Ak}{oc:Aj}{kV doc pm cdv ct:Aj}(l:K.lookup f=Aa ⟨oc,od,.func (BR "__init__" qual (FP st) (D3 st) (Bv st) .none kV doc pm an cdv ct),osl⟩)(c:Du K cdv qual=Ab)(k:A8 K (.ref f)=Ab):InI K f qual st:=⟨_,N1 l c k⟩
theorem cW{fI:Ak}{g par f qual:Ag}{st:AD}(a:InI K fI qual st)(hk:ON g par f st=Ab)(hb:∀(u0 u1 kV doc pm:Aj)(an:An Ak)(cdv ct:Aj),FO (BR "__init__" qual (FP st) (D3 st) (Bv st) .none kV doc pm an cdv ct) ⟨[u0,u1],[]⟩=pure ((["self",par]:Ac Ag).zip [u0,u1]))(xc:D5 K C (Aa (.ref fI))=Ab)(dc:FC K C=Ab)(ty:EO K (.ref fI)=Aa (.type "function"))(mo:mg g=Aa (.ref OV))(s1:BJ K (.ref OV) "__getattribute__" = Aa (Aa (.builtin "type.__getattribute__")))(s2:EA K OV (.type "type")=Ab)(s3:Ez K (.ref OV) (.type "type") "__init__" = Aa (.val (.builtin "ValueError.__init__")))(hf:Ar K (.ref C) f=Aa Ae)(hs:Ar K (.ref C) "__setattr__" = Aa (Aa (.builtin "object.__setattr__"))):XIn K mg C f:=by
 obtain⟨fd,fn⟩:=a;unfold ON at hk;simp only[Al,AF,BV,Go,J3]at hk;obtain⟨c1,c2,c3,c4,c5,c6,c7,c8,c9,c10,c11,c12⟩:=hk;obtain⟨j,np,apos,p1,cpos,p6,p7,p8,p9,p10,eb,hl,hz⟩:=bG c12;exact .mk xc dc fn ty ⟨c1,c2,c3,Kc c4,rfl,λx hx=>by
  rcases AG.mp hx with rfl|hx
  .exact .inl c5
  .rw[Bm.mp hx];exact .inl c6,c7⟩ c5 c6 (fn.binds λkV doc pm an cdv ct us hu=>match us,hu with | [u0,u1],_=>hb u0 u1 kV doc pm an cdv ct) eb c8 mo (by simpa using c9) (by simpa using c10) (by simpa using c11) s1 s2 s3 hl hz hf hs
theorem lZ(h:∀ ds,xn c ds=.bad\/xn c ds=.ok ⟨c,[]⟩)(e:D5 K C Ae=Ab)(ds:Ac D):xn c ds=.bad\/(xn c ds=.ok ⟨c,[]⟩/\D5 K C Ae=Ab)\/∃ f,XIn K mg C f/\JH xn c f ds:=(h ds).imp id λz=>.inl ⟨z,e⟩
theorem lY{f:Ag}(h:∀ ds,xn c ds=mkX c f ds)(x:XIn K mg C f)(ds:Ac D):xn c ds=.bad\/(xn c ds=.ok ⟨c,[]⟩/\D5 K C Ae=Ab)\/∃ f,XIn K mg C f/\JH xn c f ds:=by
  have e:=h ds
  match ds,e with
  |[],e=>exact .inl e
  |_::_::_,e=>exact .inl e
  |[d],e=>
    have e':xn c [d]=if (xfD 1 d||xfD 2 d)=Ab then .ok ⟨c,[(f,d)]⟩ else .bad:=e
    by_cases z:(xfD 1 d||xfD 2 d)=Ab
    · rw[AA z]at e';refine .inr (.inr ⟨f,x,d,?_⟩);rw[BN]at z;rcases z with z|z
      · exact⟨1,rfl,z,by decide,e'⟩
      · exact⟨2,rfl,z,by decide,e'⟩
    · rw[AH z]at e';exact .inl e'
theorem SJ(dc:FC K C=Ab)(h1:Ar K (.ref C) "triple" = Aa Ae)(h2:Ar K (.ref C) "points" = Aa Ae)(h3:Ar K (.ref C) "row" = Aa Ae)(f:Ag)(h:(f==("triple" : Ag)||(f==("points" : Ag)||f==("row" : Ag)))=Ab):FC K C=Ab/\Ar K (.ref C) f=Aa Ae:=by
 rw[BN,BN]at h;rcases h with h|h|h
 .rw[eq_of_beq h];exact⟨dc,h1⟩
 .rw[eq_of_beq h];exact⟨dc,h2⟩
 .rw[eq_of_beq h];exact⟨dc,h3⟩
theorem Zo(h:∀ c ds,xn c ds=.bad):XT up xn (λ_=>Ae) [] [] K mg:=⟨λ_ _ z=>(nomatch z),λ_ z=>(nomatch z),λ_ z=>(nomatch z),λc _ ds z=>.inl (h c ds),λ_ _ z=>(nomatch z),λc _ ds=>h c ds⟩
structure XA (K:Fg) (c:Ag) (x:Ak) (i:An Aj):Prop where
 n:A7 K AQ c=Aa (Aa (.ref x))
 y:D5 K x i=Ab
 dc:FC K x=Ab
 ft:Ar K (.ref x) "triple" = Aa Ae
 fp:Ar K (.ref x) "points" = Aa Ae
 fr:Ar K (.ref x) "row" = Aa Ae
 ok:XcOk K x
structure XB (K:Fg) (c:Ag) (x i:Ak) (q:Ag) (st:AD):Prop where
 fi:Ar K (.ref x) "__init__" = Aa (Aa (.ref i))
 a:XA K c x (Aa (.ref i))
 ii:InI K i q st
 ti:EO K (.ref i)=Aa (.type "function")
 sn:Ar K (.ref x) "__setattr__" = Aa (Aa (.builtin "object.__setattr__"))
structure XO (K:Fg) (x:Ak):Prop where
 sa:BJ K (.ref x) "__getattribute__" = Aa (Aa (.builtin "type.__getattribute__"))
 sb:EA K x (.type "type")=Ab
 sc:Ez K (.ref x) (.type "type") "__init__" = Aa (.val (.builtin "ValueError.__init__"))
structure XR (K:Fg) (mg:Ag->An Aj) (xn:Af->Ac D->R Ex) (p:Af×Ak):Prop where
 ok:XcOk K p.2
 nf:∀ f:Ag,(f==("triple" : Ag)||(f==("points" : Ag)||f==("row" : Ag)))=Ab->FC K p.2=Ab/\Ar K (.ref p.2) f=Aa Ae
 md:∀ ds,xn p.1 ds=.bad\/(xn p.1 ds=.ok ⟨p.1,[]⟩/\D5 K p.2 Ae=Ab)\/∃ f,XIn K mg p.2 f/\JH xn p.1 f ds
theorem XA.row{c:Ag}{x:Ak}(a:XA K c x Ae)(h:∀ ds,xn k ds=.bad\/xn k ds=.ok ⟨k,[]⟩):XR K mg xn (k,x):=⟨a.ok,SJ a.dc a.ft a.fp a.fr,lZ h a.y⟩
theorem XB.row{c:Ag}{x i o:Ak}{st:AD}{g par f:Ag}(X:K.In h)(G:h.Ns AQ mg)(b:XB K c x i q st)(w:XO K o)(no:A7 K AQ g=Aa (Aa (.ref o)))(hf:f = "triple"\/f = "points")(hk:ON g par f st=Ab)(hb:∀(u0 u1 kV doc pm:Aj)(an:An Ak)(cdv ct:Aj),FO (BR "__init__" q (FP st) (D3 st) (Bv st) .none kV doc pm an cdv ct) ⟨[u0,u1],[]⟩=pure ((["self",par]:Ac Ag).zip [u0,u1]))(hx:∀ ds,xn k ds=mkX k f ds):XR K mg xn (k,x):=
 ⟨b.a.ok,SJ b.a.dc b.a.ft b.a.fp b.a.fr,lY hx (cW b.ii hk hb b.a.y b.a.dc b.ti (DH X G no) w.sa w.sb w.sc (by rcases hf with rfl|rfl;exact b.a.ft;exact b.a.fp) b.sn)⟩
def KI(K:Fg):Sp:=λvs H Q _=>∃(a:Ak)(ns:Ac Ah),vs=[.ref a]/\ns.length<=63/\SqL K H a (ns.map V.int)/\∀ v H',v=V.bl Ab->Q v H'
theorem law_fn{f:Ak}{F:Ac D->R D}(G:FnOk P w K mg base CX k f fd ps (spD K CL 1 Ad F))(h:∀ ns:Ac Ah,F [.lst (ns.map .int)]=.ok (.bl Ab)):FnOk P w K mg base CX k f fd ps (KI K):=G.imp λvs H Q E ⟨a,ns,e,hl,hS,q⟩=>by
 subst e;have rs:∀ l:Ac Ah,Reps K CL H A0 (l.map V.int) (l.map D.int):=λl=>by
  induction l with
  |nil=>trivial
  |cons x l ih=>exact⟨rfl,ih⟩
 refine⟨[.lst (ns.map .int)],A0,rfl,λ_ z=>z.elim,⟨⟨a,_,rfl,.inl (λz=>z),hS,rs ns⟩,trivial⟩,?_⟩
 rw[h ns];exact λv H' _ r=>q v H' r.1
theorem Zy{f:Ak}{F:Ac D->R D}(G:FnOk P w K mg base CX k f fd ps (spD K CL 1 Ad F))(h:∀ ns:Ac Ah,ns.length<=63->F [.lst (ns.map .int)]=.ok (.bl Ab)):FnOk P w K mg base CX k f fd ps (KI K):=G.imp λvs H Q E ⟨a,ns,e,hl,hS,q⟩=>by
 subst e;have rs:∀ l:Ac Ah,Reps K CL H A0 (l.map V.int) (l.map D.int):=λl=>by
  induction l with
  |nil=>trivial
  |cons x l ih=>exact⟨rfl,ih⟩
 refine⟨[.lst (ns.map .int)],A0,rfl,λ_ z=>z.elim,⟨⟨a,_,rfl,.inl (λz=>z),hS,rs ns⟩,trivial⟩,?_⟩
 rw[h ns hl];exact λv H' _ r=>q v H' r.1
theorem all_nil{Q:α->Prop}:∀ x∈([]:Ac α),Q x:=λ_ h=>nomatch h
theorem all_cons{Q:α->Prop}{a:α}{l:Ac α}(h1:Q a)(h2:∀ x∈l,Q x):∀ x∈a::l,Q x:=List.forall_mem_cons.2 ⟨h1,h2⟩
def FnI(K:Fg)(f:Ak)(n:Ag)(st:AD):Prop:=∃ fd,Fun K n n st f fd/\A7 K AQ n=Aa (Aa (.ref f))
theorem fni{n:Ag}{st:AD}{f:Ak}{oc:Aj}{kV doc pm cdv ct:Aj}(a:A7 K AQ n=Aa (Aa (.ref f)))(l:K.lookup f=Aa ⟨oc,od,.func (BR n n (FP st) (D3 st) (Bv st) .none kV doc pm an cdv ct),osl⟩)(c:Du K cdv n=Ab)(k:A8 K (.ref f)=Ab):FnI K f n st:=⟨_,N1 l c k,a⟩
def Bd(n:Ag)(st:AD)(ps:Ac Ag)(us:Ac Aj):Prop:=∀(kV doc pm:Aj)(an:An Ak)(cdv ct:Aj),FO (BR n n (FP st) (D3 st) (Bv st) .none kV doc pm an cdv ct) ⟨us,[]⟩=pure (ps.zip us)
theorem XG(h:mg x=v)(e:FU.lookup x=Ae):G6 K mg x=v:=by
 unfold G6;rw[e];exact h
def MeI(K:Fg)(f:Ak)(m q:Ag)(st:AD):Prop:=∃ fd,Fun K m q st f fd
theorem mei{m q:Ag}{st:AD}{f:Ak}{oc:Aj}{kV doc pm cdv ct:Aj}(l:K.lookup f=Aa ⟨oc,od,.func (BR m q (FP st) (D3 st) (Bv st) .none kV doc pm an cdv ct),osl⟩)(c:Du K cdv q=Ab)(k:A8 K (.ref f)=Ab):MeI K f m q st:=⟨_,N1 l c k⟩
theorem LZ{key m q:Ag}{C f:Ak}{st:AD}{N:Ac Ag}(id:Af)(hk:FU.lookup key=Aa (c,m))(hC:OC K c=Aa C)(hf:Ar K (.ref C) m=Aa (Aa (.ref f)))(A:MeI K f m q st)(hc:FE fuel Ad fns bl rzs exs gls ["self"] N st (Pg.defs id)=Ab)(hb:∀(u0 kV doc pm:Aj)(an:An Ak)(cdv ct:Aj),FO (BR m q (FP st) (D3 st) (Bv st) .none kV doc pm an cdv ct) ⟨[u0],[]⟩=pure ((["self"]:Ac Ag).zip [u0])):JW K mg fns bl rzs exs gls Pg fuel (key,id,1):=by
 obtain⟨fd,F⟩:=A;refine⟨_,_,["self"],_,_,_,?_,⟨_,LV F⟩,F.binds λkV doc pm an cdv ct us hu=>match us,hu with | [u0],_=>hb u0 kV doc pm an cdv ct,rfl,hc⟩
 unfold G6;rw[show FU.lookup (key,id,1).1=Aa (c,m) from hk]
 dsimp only;rw[hC];show (Ar K (.ref C) m).join=_;rw[hf];rfl
structure OA (K:Fg) (n:Ag) (C t s f:Ak):Prop where
 n:A7 K AQ n=Aa (Aa (.ref C))
 o:OCls K C
 ft:Ar K (.ref C) "told" = Aa (Aa (.ref t))
 fs:Ar K (.ref C) "shown" = Aa (Aa (.ref s))
 nt:C4 K (.ref t)=Ab
 ns:C4 K (.ref s)=Ab
 m:Mk K C f
theorem oa_mk{n:Ag}{C t s f:Ak}(n1:A7 K AQ n=Aa (Aa (.ref C)))(i:Ar K (.ref C) "__init__" = Aa (Aa (.ref f)))(ft:Ar K (.ref C) "told" = Aa (Aa (.ref t)))(fs:Ar K (.ref C) "shown" = Aa (Aa (.ref s)))(pg:Ea K C CQ=Ab)(hd:EZ K C=Ab)(po:Gk K C=Ab)(sa:Ar K (.ref C) "__setattr__" = Aa (Aa (.builtin "object.__setattr__")))(np:Ar K (.ref C) "p" = Aa Ae)(nt:Ar K (.ref C) "triple" = Aa Ae)(ha:Ar K (.ref C) "__class__" = Aa (Aa (.builtin "object.__class__")))(hn:BJ K (.builtin "object.__class__") "__get__" = Aa (Aa (.builtin "getset_descriptor.__get__")))(htk:GV K (.builtin "object.__class__")=Aa Ab)(hm:Fc K C (.type "object")=Aa Ab)(t1:C4 K (.ref t)=Ab)(s1:C4 K (.ref s)=Ab)(mk:GS K C=Ab)(f1:C4 K (.ref f)=Ab)(kp:A8 K (.ref C)=Ab):OA K n C t s f:=
 ⟨n1,⟨⟨pg,hd,po,sa⟩,np,nt,ha,hn,htk,hm⟩,ft,fs,t1,s1,⟨mk,i,f1,kp⟩⟩
theorem G5(h:c<3)(n:A7 K AQ (Mi c)=Aa (Aa (.ref C))):OC K c=Aa C:=by
 unfold OC;rw[AA h,n]
def KtC(K:Fg)(C:Ak)(l:Ac (Ak×Ai)):Prop:=∀ q∈l,CY K (.ref C) (.ref q.1)=Aa q.2
theorem lP{C0 C1 C2 t0 t1 t2 s0 s1 s2 f:Ak}(X:K.In h)(G:h.Ns AQ mg)(a0:OA K "Triple" C0 t0 s0 f)(a1:OA K "Point" C1 t1 s1 f)(a2:OA K "Line" C2 t2 s2 f)(k0:KtC K C0 [(C0,Ab),(C1,Ad),(C2,Ad)])(k1:KtC K C1 [(C0,Ab),(C1,Ab),(C2,Ad)])(k2:KtC K C2 [(C0,Ab),(C1,Ad),(C2,Ab)]):OS K mg:=by
  have e0:OC K 0=Aa C0:=G5 (by decide) a0.n
  have e1:OC K 1=Aa C1:=G5 (by decide) a1.n
  have e2:OC K 2=Aa C2:=G5 (by decide) a2.n
  have three:∀ c C,OC K c=Aa C->(c=0/\C=C0)\/(c=1/\C=C1)\/(c=2/\C=C2):=λc C e=>by
    match c,e with
    |0,e=>exact .inl ⟨rfl,(Bf (e0.symm.trans e)).symm⟩
    |1,e=>exact .inr (.inl ⟨rfl,(Bf (e1.symm.trans e)).symm⟩)
    |2,e=>exact .inr (.inr ⟨rfl,(Bf (e2.symm.trans e)).symm⟩)
    |n+3,e=>
      unfold OC at e;rw[AH (by omega)]at e
      cases e
  have fu:∀{f f':Ak}{r:An (An Aj)},r=Aa (Aa (.ref f))->r=Aa (Aa (.ref f'))->f'=f:=λa b=>by rw[a]at b;cases b;rfl
  refine⟨λc C e=>?_,λc C c' C' e e'=>?_,λc hc=>?_,λc C m f' e hm hf=>?_⟩
  · rcases three c C e with ⟨rfl,rfl⟩|⟨rfl,rfl⟩|⟨rfl,rfl⟩
    · exact a0.o
    · exact a1.o
    · exact a2.o
  · rcases three c C e with ⟨rfl,rfl⟩|⟨rfl,rfl⟩|⟨rfl,rfl⟩<;>rcases three c' C' e' with ⟨rfl,rfl⟩|⟨rfl,rfl⟩|⟨rfl,rfl⟩
    · exact k0 (_,Ab) (by simp)
    · exact k0 (_,Ad) (by simp)
    · exact k0 (_,Ad) (by simp)
    · exact k1 (_,Ab) (by simp)
    · exact k1 (_,Ab) (by simp)
    · exact k1 (_,Ad) (by simp)
    · exact k2 (_,Ab) (by simp)
    · exact k2 (_,Ad) (by simp)
    · exact k2 (_,Ab) (by simp)
  · match c,hc with
    |0,_=>exact⟨_,e0,DH X G a0.n⟩
    |1,_=>exact⟨_,e1,DH X G a1.n⟩
    |2,_=>exact⟨_,e2,DH X G a2.n⟩
    |n+3,h=>omega
  · rcases orT hm with z|z
    · obtain rfl:=eq_of_beq z;rcases three c C e with ⟨rfl,rfl⟩|⟨rfl,rfl⟩|⟨rfl,rfl⟩
      · rw[fu a0.ft hf];exact a0.nt
      · rw[fu a1.ft hf];exact a1.nt
      · rw[fu a2.ft hf];exact a2.nt
    · obtain rfl:=eq_of_beq z;rcases three c C e with ⟨rfl,rfl⟩|⟨rfl,rfl⟩|⟨rfl,rfl⟩
      · rw[fu a0.fs hf];exact a0.ns
      · rw[fu a1.fs hf];exact a1.ns
      · rw[fu a2.fs hf];exact a2.ns
theorem lD{C0 C1 C2 t0 t1 t2 s0 s1 s2 f:Ak}{st:AD}(a0:OA K "Triple" C0 t0 s0 f)(a1:OA K "Point" C1 t1 s1 f)(a2:OA K "Line" C2 t2 s2 f)(A:InI K f q st)(hc:KO fuel fns bl rzs exs gls st=Ab)(d0:Pg.defs 900=mkC 0)(d1:Pg.defs 901=mkC 1)(d2:Pg.defs 902=mkC 2)(d3:Pg.defs 910=inC)(hb:∀(u0 u1 u2 kV doc pm:Aj)(an:An Ak)(cdv ct:Aj),FO (BR "__init__" q (FP st) (D3 st) (Bv st) .none kV doc pm an cdv ct) ⟨[u0,u1,u2],[]⟩=pure ((["self", "p", "numbers"]:Ac Ag).zip [u0,u1,u2])):InR K fns bl rzs exs gls Pg fuel:=by
  obtain⟨fd,F⟩:=A;refine⟨λc hc=>?_,d3,f,fd,_,q,st,LV F,F.binds λkV doc pm an cdv ct us hu=>match us,hu with | [u0,u1,u2],_=>hb u0 u1 u2 kV doc pm an cdv ct,hc,λc hc=>?_⟩
  · match c,hc with
    |0,_=>exact d0
    |1,_=>exact d1
    |2,_=>exact d2
    |n+3,h=>omega
  · match c,hc with
    |0,_=>exact⟨_,G5 (by decide) a0.n,a0.m⟩
    |1,_=>exact⟨_,G5 (by decide) a1.n,a1.m⟩
    |2,_=>exact⟨_,G5 (by decide) a2.n,a2.m⟩
    |n+3,h=>omega
theorem NM{n:Ag}{f:Ak}{st:AD}{ps N:Ac Ag}(m id:Af)(hm:FU.lookup n=Ae)(X:K.In h)(G:h.Ns AQ mg)(A:FnI K f n st)(hl:ps.length=m%1000)(hc:FE fuel (CP 1000 m) fns bl rzs exs gls ps N st (Pg.defs id)=Ab)(hb:∀ us:Ac Aj,us.length=ps.length->Bd n st ps us):JW K mg fns bl rzs exs gls Pg fuel (n,id,m):=by
 obtain⟨fd,F,a⟩:=A;exact⟨_,_,_,_,_,_,XG (DH X G a) hm,⟨_,LV F⟩,F.binds λkV doc pm an cdv ct us hu=>hb us hu kV doc pm an cdv ct,hl,hc⟩
theorem OT{l:Ac α}(h:l.length=0):l=[]:=List.eq_nil_of_length_eq_zero h
theorem JS{l:Ac α}{n:Af}(h:l.length=n+1):∃ a r,l=a::r/\r.length=n:=by
 cases l with
 |nil=>cases h
 |cons a r=>exact⟨a,r,rfl,Nat.succ.inj h⟩
theorem Tq{n:Ag}{f:Ak}{st:AD}{N:Ac Ag}(m id:Af)(hm:FU.lookup n=Ae)(X:K.In h)(G:h.Ns AQ mg)(A:FnI K f n st)(hl:1=m%1000)(hc:FE fuel (CP 1000 m) fns bl rzs exs gls [x0] N st (Pg.defs id)=Ab)(hb:∀ u0,Bd n st [x0] [u0]):JW K mg fns bl rzs exs gls Pg fuel (n,id,m):=
 NM (ps:=[x0]) m id hm X G A hl hc λus hu=>by obtain⟨u0,v0,rfl,h0⟩:=JS hu;obtain rfl:=OT h0;exact hb u0
theorem Ge{n:Ag}{f:Ak}{st:AD}{N:Ac Ag}{x1:Ag}(m id:Af)(hm:FU.lookup n=Ae)(X:K.In h)(G:h.Ns AQ mg)(A:FnI K f n st)(hl:2=m%1000)(hc:FE fuel (CP 1000 m) fns bl rzs exs gls [x0,x1] N st (Pg.defs id)=Ab)(hb:∀ u0 u1,Bd n st [x0,x1] [u0,u1]):JW K mg fns bl rzs exs gls Pg fuel (n,id,m):=
 NM (ps:=[x0,x1]) m id hm X G A hl hc λus hu=>by obtain⟨u0,v0,rfl,h0⟩:=JS hu;obtain⟨u1,v1,rfl,h1⟩:=JS h0;obtain rfl:=OT h1;exact hb u0 u1
theorem Tp{n:Ag}{f:Ak}{st:AD}{N:Ac Ag}{x1 x2:Ag}(m id:Af)(hm:FU.lookup n=Ae)(X:K.In h)(G:h.Ns AQ mg)(A:FnI K f n st)(hl:3=m%1000)(hc:FE fuel (CP 1000 m) fns bl rzs exs gls [x0,x1,x2] N st (Pg.defs id)=Ab)(hb:∀ u0 u1 u2,Bd n st [x0,x1,x2] [u0,u1,u2]):JW K mg fns bl rzs exs gls Pg fuel (n,id,m):=
 NM (ps:=[x0,x1,x2]) m id hm X G A hl hc λus hu=>by obtain⟨u0,v0,rfl,h0⟩:=JS hu;obtain⟨u1,v1,rfl,h1⟩:=JS h0;obtain⟨u2,v2,rfl,h2⟩:=JS h1;obtain rfl:=OT h2;exact hb u0 u1 u2
end
end Ov
namespace OvC
open PySem Ov
variable{x p k:Ah}{ns:Ac Ah}{n:Af}{Z:Gam}
noncomputable abbrev tr(a b c:Ah):D:=.tup [.int a,.int b,.int c]
noncomputable def det(a0 a1 a2 b0 b1 b2 c0 c1 c2:Ah):Ah:=a0*(b1*c2-b2*c1)-a1*(b0*c2-b2*c0)+a2*(b0*c1-b1*c0)
def Sm(x:Ah):Prop:=0<=x/\x<11
theorem mo(h:Sm x)(y:Ah):EF x y=Ab:=Kn (by have:=h.1;omega) (by have:=h.2;omega)
theorem Sm.of(h:P4 p)(x:Ah):Sm (x%p):=⟨BA _ (by have:=h.pos;omega),by have:=BP x h.pos;have:=h.hi;omega⟩
theorem Pk{body:D->Rho->O}(I:Rho->Prop)(g:Ah->Ai):∀(L:Ac Ah),(∀ t∈L,∀ U,I U->(g t=Ab/\body (.int t) U=.ret (.int t) Ad)\/(g t=Ad/\∃ U',body (.int t) U=.next U'/\I U'))->∀ U,I U->(∃ t∈L,g t=Ab/\Ci body (L.map D.int) U=.ret (.int t) Ad)\/((∀ t∈L,g t=Ad)/\∃ U',Ci body (L.map D.int) U=.next U'/\I U')
 |[],_,U,i=>.inr ⟨(λ_ h=>nomatch h),U,rfl,i⟩
 |m::L,h,U,i=>by
  rcases h m (AC ..) U i with ⟨e1,e2⟩|⟨e1,U',e2,i'⟩
  .refine .inl ⟨m,AC ..,e1,?_⟩;show (body (.int m) U).turn _=_;rw[e2];rfl
  .rcases Pk I g L (λm' h'=>h m' (Aw _ h')) U' i' with ⟨t,ht,a,b⟩|⟨a,r,b,c⟩
   .refine .inl ⟨t,Aw _ ht,a,?_⟩;show (body (.int m) U).turn _=_;rw[e2];exact b
   .refine .inr ⟨λt ht=>?_,r,?_,c⟩
    .rcases AG.mp ht with rfl|ht
     .exact e1
     .exact a t ht
    .show (body (.int m) U).turn _=_;rw[e2];exact b
noncomputable def Jo:Ss:=(.cons (.ife (.cmp .Eq (.call 1 (.cons (.var 0) (.cons (.bin .Mult (.var 1) (.var 2)) .nil))) (.int 1)) (.cons (.ret (.var 2)) .nil) .nil) .nil)
noncomputable def K3:Df:=⟨3,Ad,(.cons (.fors 2 (.rng2 (.int 1) (.var 0)) Jo) (.cons (.rais 2 (.cons (.str (Ay "a number with the rest 0 is not turned over")) .nil)) .nil))⟩
noncomputable def JQ(p:Ah):Ac Ah:=(B6 (p-1).toNat).map fun(k:Af)=>1+(k:Ah)
theorem Nf{t:Ah}:t∈JQ p↔1<=t/\t<p:=by
 unfold JQ;rw[List.mem_map];constructor
 .rintro⟨k,hk,rfl⟩;have:=CB.mp hk;omega
 .rintro⟨h1,h2⟩;exact⟨(t-1).toNat,CB.mpr (by omega),by omega⟩
theorem Yv(h:P4 p):DT 1 p=.ok ((JQ p).map D.int):=by
 rcases h with rfl|rfl|rfl|rfl<;>rfl
theorem bE:∀ p:Fin 12,(p.val=3\/p.val=5\/p.val=7\/p.val=11)->∀ r:Fin 12,r.val<p.val->r.val≠0->∃ t:Fin 12,1<=t.val/\t.val<p.val/\r.val*t.val%p.val=1:=by decide+kernel
theorem Kt{n:Ah}(h:P4 p)(hn:n%p≠0):∃ t,1<=t/\t<p/\n*t%p=1:=by
 have p0:0<p/\p<12:=by rcases h with rfl|rfl|rfl|rfl<;>decide
 obtain⟨q,rfl⟩:∃ q:Af,p=q:=⟨p.toNat,by omega⟩
 have h0:=BA n (b:=(q:Ah)) (by omega)
 have h1:=BP n p0.1;obtain⟨r,hr⟩:∃ r:Af,n%(q:Ah)=r:=⟨(n%(q:Ah)).toNat,by omega⟩
 obtain⟨t,t1,t2,t3⟩:=bE ⟨q,by omega⟩ (by rcases h with e|e|e|e<;>simp<;>omega) ⟨r,by omega⟩ (by show r<q;omega) (by show r≠0;omega)
 refine⟨(t.val:Ah),by omega,by show (t.val:Ah)<q;exact Int.ofNat_lt.mpr t2,?_⟩
 have e:((r*t.val%q:Af):Ah)=1:=by rw[show r*t.val%q=1 from t3];rfl
 rw[<-e,Int.natCast_emod,Int.natCast_mul,<-hr];exact(Bp n _ _).trans (by rw[Bp (n%(q:Ah)) (t.val:Ah) (q:Ah),A5 n (BO _)])
def HJ(p n t:Ah):Prop:=1<=t/\t<p/\n*t%p=1
theorem PD{n t u:Ah}(h1:HJ p n t)(h2:HJ p n u):t=u:=by
 have hp:1<p:=by have:=h1.1;have:=h1.2.1;omega
 have e:t%p=u%p:=by
  have a:t%p=t*(n*u)%p:=by rw[Bp,h2.2.2,Ui,A5 _ (BO p)]
  have b:u%p=(n*t)*u%p:=by rw[Bp (n*t) u p,h1.2.2,DO,A5 _ (BO p)]
  rw[a,b]
  congr 1
  rw[<-F5,Gu t n]
 rw[Bl (by have:=h1.1;omega) h1.2.1,Bl (by have:=h2.1;omega) h2.2.1]at e
 exact e
theorem Kw{c:Ah}(hp:P4 p)(hc:c%p≠0)(hx:x%p≠0):c*x%p≠0:=λz=>by
 obtain⟨t,_,_,e⟩:=Kt hp hc;refine hx ?_;have e1:x%p=(c*t)*x%p:=by rw[Bp (c*t) x p,e,DO,A5 _ (BO p)]
 rw[e1,show c*t*x=t*(c*x) by rw[Gu c t,F5],Bp,z,Uj,Fa]
noncomputable def C7(p:Ah):Ac Ah->An Ah
 |[]=>Ae
 |x::xs=>if x%p=0 then C7 p xs else Aa (x%p)
theorem Py{p:Ah}:∀{xs:Ac Ah},C7 p xs=Ae↔∀ x∈xs,x%p=0
 |[]=>by simp[C7]
 |x::xs=>by
  unfold C7;by_cases h:x%p=0
  .rw[AA h,Py (xs:=xs)];simp[h]
  .rw[AH h];simp[h]
theorem Px{p l:Ah}(hp:0<p):∀{xs:Ac Ah},C7 p xs=Aa l->l%p≠0/\0<l/\l<p
 |[],h=>by cases h
 |x::xs,h=>by
  unfold C7 at h;by_cases hx:x%p=0
  .rw[AA hx]at h;exact Px hp h
  .rw[AH hx]at h;cases h;have h0:=BA x (b:=p) (by omega)
   have h1:=BP x hp;exact⟨by rw[A5 _ (BO p)];exact hx,by omega,h1⟩
theorem Nh{p c:Ah}(hp:P4 p)(hc:c%p≠0){f:Ah->Ah}(hf:∀ x,f x%p=c*x%p):∀ xs:Ac Ah,C7 p (xs.map f)=(C7 p xs).map λl=>c*l%p
 |[]=>rfl
 |x::xs=>by
  rw[BY];unfold C7;rw[hf x];by_cases hx:x%p=0
  .rw[AA hx,AA (by rw[Bp,hx,Uj,Fa]),Nh hp hc hf xs]
  .rw[AH hx,AH (Kw hp hc hx),UK]
   congr 1
   rw[Bp c (x%p),A5 _ (BO p),<-Bp]
noncomputable def ds(xs:Ac Ah):Ac D:=xs.map D.int
noncomputable def Ed(b:Ai)(xs:Ac Ah):D:=if b=Ab then .tup (ds xs) else .lst (ds xs)
theorem WF(b xs):DU (Ed b xs)=.ok (ds xs):=by unfold Ed;cases b<;>rfl
theorem MX{g:D->R Ai}{f:D->R D}{φ:Ah->Ah}:∀(xs:Ac Ah),(∀ x∈xs,g (.int x)=.ok Ab/\f (.int x)=.ok (.int (φ x)))->B4 g f (ds xs)=.ok (ds (xs.map φ))
 |[],_=>rfl
 |x::xs,h=>by
  obtain⟨h1,h2⟩:=h x (AC ..);show (g (.int x)).bind _=_;rw[h1,R.bind_ok,AA rfl,h2,R.bind_ok];show (B4 g f (ds xs)).bind _=_;rw[MX xs λy hy=>h y (Aw _ hy)]
  rfl
noncomputable def DE:E:=(.bl Ab)
noncomputable def MC:E:=(.call 1 (.cons (.var 0) (.cons (.var 5) .nil)))
noncomputable def MB:E:=(.call 1 (.cons (.var 0) (.cons (.bin .Mult (.var 4) (.var 6)) .nil)))
noncomputable def GI:Ss:=(.cons (.ife (.cmp .NotEq (.var 3) (.int 0)) (.cons (.asg 4 Ad (.call 9 (.cons (.var 0) (.cons (.var 3) .nil)))) (.cons (.ret (.bi .tuple (.cons (.comp MB 6 (.e (.var 2)) DE) .nil))) .nil)) .nil) .nil)
noncomputable def K7:Df:=⟨7,Ad,(.cons (.asg 2 Ad (.comp MC 5 (.e (.var 1)) DE)) (.cons (.fors 3 (.e (.var 2)) GI) (.cons (.rais 3 (.cons (.str (Ay "all the numbers have the rest 0")) .nil)) .nil)))⟩
noncomputable def fmI(p t:Ah)(xs:Ac Ah):Ac Ah:=xs.map λx=>t*(x%p)%p
section
variable{Z:Gam}{p:Ah}{xs:Ac Ah}{b:Ai}
end
noncomputable def Mm:E:=(.and (.cons (.isi (.var 2) [.int]) (.cons (.no (.isi (.var 2) [.bool])) .nil)))
noncomputable def Mo:Df:=⟨3,Ad,(.cons (.ife (.or (.cons (.no (.isi (.var 0) [.tuple])) (.cons (.cmp .NotEq (.var 0) (.var 1)) .nil))) (.cons (.ret (.bl Ad)) .nil) .nil) (.cons (.ret (.bi .all (.cons (.comp Mm 2 (.e (.var 0)) DE) .nil))) .nil))⟩
theorem lA(n:Af)(xs:Ac Ah):(ds xs).all (flD n)=Ab:=by simp[ds]
theorem Sb:∀ xs:Ac Ah,eqDs (ds xs) (ds xs)=Ab
 |[]=>rfl
 |x::xs=>by
  show (eqD (.int x) (.int x)&&eqDs (ds xs) (ds xs))=Ab;rw[Sb xs];simp
theorem Qz:∀ xs:Ac Ah,Gb (xs.map λ_=>D.bl Ab)=.ok Ab
 |[]=>rfl
 |x::xs=>by
  rw[BY,MK,Qz xs];rfl
theorem Q9{g:D->R Ai}{f:D->R D}:∀(xs:Ac Ah),(∀ x∈xs,g (.int x)=.ok Ab/\f (.int x)=.ok (.bl Ab))->B4 g f (ds xs)=.ok (xs.map λ_=>D.bl Ab)
 |[],_=>rfl
 |x::xs,h=>by
  obtain⟨h1,h2⟩:=h x (AC ..);show (g (.int x)).bind _=_;rw[h1,R.bind_ok,AA rfl,h2,R.bind_ok];show (B4 g f (ds xs)).bind _=_;rw[Q9 xs λy hy=>h y (Aw _ hy)]
  rfl
theorem eZ(Z:Gam)(xs:Ac Ah):Mo.run Z [.tup (ds xs),.tup (ds xs)]=.ok (.bl Ab):=by
 have c1:B4 (cG Z [sh (.tup (ds xs)),sh (.tup (ds xs)),Ae] 2 DE) (cF Z [sh (.tup (ds xs)),sh (.tup (ds xs)),Ae] 2 Mm) (ds xs)=.ok (xs.map λ_=>D.bl Ab):=by
  refine Q9 xs λx _=>⟨rfl,?_⟩
  simp[cF,Mm,kiD,Ds]
 simp[Mo,Df.run,B8,kiD,Ds,lA,Sb,c1,Qz]
noncomputable abbrev own(xs:Ac Ah):Sl:=Aa (.lst (ds xs),Ab)
section
variable{Z:Gam}{ns:Ac Ah}{a1 a2 a4 a6 a7 a8 a9 b0 b1 b2 b3 b4:Sl}{p:Ah}
end
theorem Xz{p c l t:Ah}(hp:P4 p)(hc:c%p≠0)(hl:l%p≠0)(it:HJ p l t){f:Ah->Ah}(hf:∀ x,f x%p=c*x%p)(xs:Ac Ah):∃ u,HJ p (c*l%p) u/\fmI p u (xs.map f)=fmI p t xs:=by
 have h1:(c*l%p)%p≠0:=by rw[A5 _ (BO p)];exact Kw hp hc hl
 obtain⟨u,u1,u2,u3⟩:=Kt hp h1;refine⟨u,⟨u1,u2,u3⟩,?_⟩;unfold fmI;rw[Uz];refine List.map_congr_left λx _=>?_
 show u*(f x%p)%p=t*(x%p)%p;have u4:c*l*u%p=1:=by rw[<-u3,Bp (c*l%p) u p,A5 _ (BO p),<-Bp]
 have e1:u*(f x%p)%p=u*(c*x)%p:=by rw[hf,Bp u (c*x%p) p,A5 _ (BO p),<-Bp]
 have e2:t*(x%p)%p=t*x%p:=by rw[Bp t (x%p) p,A5 _ (BO p),<-Bp]
 have e3:u*(c*x)%p=(l*t)*(u*(c*x))%p:=by rw[Bp (l*t) _ p,it.2.2,DO,A5 _ (BO p)]
 have e4:t*x%p=(c*l*u)*(t*x)%p:=by rw[Bp (c*l*u) _ p,u4,DO,A5 _ (BO p)]
 rw[e1,e2,e3,e4]
 congr 1
 grind
section
variable{Z:Gam}{ns:Ac Ah}{a1 a4 a6 a7 a8 a9 b2 b3 b4:Sl}{p m:Ah}{xs:Ac Ah}
end
def Cg(p x y:Ah):Prop:=x%p=y%p
section
variable{p a b c d:Ah}
theorem Cg.rfl:Cg p a a:=Eq.refl _
theorem Cg.of(h:a=b):Cg p a b:=by unfold Cg;rw[h]
theorem Cg.trans{a b c:Ah}(h:Cg p a b)(g:Cg p b c):Cg p a c:=Eq.trans h g
theorem Cg.symm(h:Cg p a b):Cg p b a:=Eq.symm h
theorem Cg.add(h:Cg p a b)(g:Cg p c d):Cg p (a+c) (b+d):=by unfold Cg at *;rw[Ud,h,g,<-Ud]
theorem Cg.mul(h:Cg p a b)(g:Cg p c d):Cg p (a*c) (b*d):=by unfold Cg at *;rw[Bp,h,g,<-Bp]
end
theorem P4.m1(h:P4 p):(-1:Ah)%p≠0:=by rcases h with rfl|rfl|rfl|rfl<;>decide
theorem P4.o1(h:P4 p):(1:Ah)%p≠0:=by rcases h with rfl|rfl|rfl|rfl<;>decide
abbrev R3:=Ah×Ah×Ah
variable{a q:R3}
noncomputable def KP(a:R3):D:=.lst [.int a.1,.int a.2.1,.int a.2.2]
@[simp]theorem Zox(a:R3)(U:Rho):Dr (Aa (KP a,Ab)::U) 0=.ok (KP a):=rfl
noncomputable def KR(a b c:R3):Ah:=det a.1 a.2.1 a.2.2 b.1 b.2.1 b.2.2 c.1 c.2.1 c.2.2
def In3(p:Ah)(a:R3):Prop:=(0<=a.1/\a.1<p)/\(0<=a.2.1/\a.2.1<p)/\(0<=a.2.2/\a.2.2<p)
structure GoodR (p:Ah) (a b c:R3):Prop where
 p4:P4 p
 ia:In3 p a
 ib:In3 p b
 ic:In3 p c
 nz:KR a b c%p≠0
theorem GoodR.of{a b c a' b' c':R3}(h:GoodR p a b c)(hk:k%p≠0)(e:Cg p (KR a' b' c') (k*KR a b c))(hin:In3 p a'/\In3 p b'/\In3 p c'):GoodR p a' b' c':=⟨h.p4,hin.1,hin.2.1,hin.2.2,by rw[show KR a' b' c'%p=_ from e];exact Kw h.p4 hk h.nz⟩
theorem bM(h0:0<=k)(h1:k<ns.length):DA (ns.map D.int) k=.ok (.int (ns.getD k.toNat 0)):=Qq h0 (by
 have:k.toNat<ns.length:=by omega
 simp[this])
noncomputable abbrev ownR(a b c:R3):Sl:=Aa (.lst [KP a,KP b,KP c],Ab)
section
variable{Z:Gam}{ns:Ac Ah}{at_ many s5 s0 s1 s2:Sl}{p t m:Ah}{a b c:R3}
end
section
variable{Z:Gam}{ns:Ac Ah}{many s5 s6 s7 s8 s9 s0 s1 s2:Sl}{p:Ah}{a b c:R3}
end
def Bd(n:Af)(x:Ah):Prop:=x.natAbs<2 ^ n
theorem Bd.mul{m:Af}{y:Ah}(h:Bd m x)(g:Bd n y):Bd (m+n) (x*y):=by
 unfold Bd at *;rw[Int.natAbs_mul,Nat.pow_add];exact Nat.mul_lt_mul'' h g
def B3(a:R3):Prop:=Bd 300 a.1/\Bd 300 a.2.1/\Bd 300 a.2.2
noncomputable def Be(q:Ai)(a:R3):D:=Ed q [a.1,a.2.1,a.2.2]
section
variable{Z:Gam}{ns:Ac Ah}{p t:Ah}{a b c r:R3}{made s6 s7:Sl}
end
section
variable{Z:Gam}{ns:Ac Ah}{p m:Ah}{a b c:R3}{fa fb fc:R3}{q:Ai}{s9 s0 s1 s2:Sl}
end
def M4(Z:Gam):Prop:=∀ p n:Ah,P4 p->n%p≠0->∃ t,1<=t/\t<p/\n*t%p=1/\Z.F 9 [.int p,.int n]=.ok (.int t)
def Nw(Z:Gam):Prop:=∀(p:Ah)(b:Ai)(xs:Ac Ah)(l t:Ah),P4 p->C7 p xs=Aa l->HJ p l t->Z.F 17 [.int p,Ed b xs]=.ok (.tup (ds (fmI p t xs)))
theorem WZ(hr:LD Z)(p n:Ah)(hp:P4 p)(z:n%p≠0):∃ t,1<=t/\t<p/\n*t%p=1/\K3.run Z [.int p,.int n]=.ok (.int t):=by
 have p0:=hp.pos;have ph:=hp.hi;have body:∀ t∈JQ p,∀ U,(∃ s,U=[si p,si n,s])->(decide (n*t%p=1)=Ab/\CT Z 2 Jo (.int t) U=.ret (.int t) Ad)\/(decide (n*t%p=1)=Ad/\∃ U',CT Z 2 Jo (.int t) U=.next U'/\∃ s,U'=[si p,si n,s]):=by
  rintro t ht U ⟨s,rfl⟩;obtain⟨t1,t2⟩:=Nf.mp ht;have m:EF n t=Ab:=No (by omega) (by omega)
  by_cases e:n*t%p=1
  .exact .inl ⟨by simp[e],by simp[CT,Jo,hr p (n*t) p0,m,e,DF]⟩
  .exact .inr ⟨by simp[e],_,by simp[CT,Jo,hr p (n*t) p0,m,e];rfl,_,rfl⟩
 have run:∀ o,Ci (CT Z 2 Jo) ((JQ p).map D.int) [si p,si n,Ae]=o->K3.run Z [.int p,.int n]=(FV Z (.cons (.rais 2 (.cons (.str (Ay "a number with the rest 0 is not turned over")) .nil)) .nil) o).ans Ad:=by
  rintro o rfl;simp[K3,Df.run,B8,Yv hp]
 rcases Pk (λU=>∃ s,U=[si p,si n,s]) (λt=>decide (n*t%p=1)) (JQ p) body [si p,si n,Ae] ⟨_,rfl⟩ with ⟨t,ht,a,b⟩|⟨a,r,b,s,rfl⟩
 .obtain⟨t1,t2⟩:=Nf.mp ht;have a':n*t%p=1:=by simpa using a
  exact⟨t,t1,t2,a',by rw[run _ b];rfl⟩
 .obtain⟨t,t1,t2,e⟩:=Kt hp z;have:=a t (Nf.mpr ⟨t1,t2⟩);simp[e]at this
section
variable{Z:Gam}{p:Ah}{xs:Ac Ah}{b:Ai}
theorem Ql(hr:LD Z)(ht:M4 Z)(hp:P4 p)(rs:Ac Ah):∀(ys:Ac Ah),(∀ y∈ys,0<=y/\y<p)->∀ s3,(C7 p ys=Ae->∃ s3',Ci (CT Z 3 GI) (ds ys) [si p,sh (Ed b xs),sh (.lst (ds rs)),s3,Ae,Ae,Ae]=.next [si p,sh (Ed b xs),sh (.lst (ds rs)),s3',Ae,Ae,Ae])/\(∀ l t,C7 p ys=Aa l->HJ p l t->Ci (CT Z 3 GI) (ds ys) [si p,sh (Ed b xs),sh (.lst (ds rs)),s3,Ae,Ae,Ae]=.ret (.tup (ds (rs.map λr=>t*r%p))) Ad)
 |[],_,s3=>⟨λ_=>⟨s3,rfl⟩,(λl t h=>nomatch h)⟩
 |y::ys,hy,s3=>by
  obtain⟨y0,y1⟩:=hy y (AC ..);have ym:y%p=y:=Bl y0 y1;have ih:=Ql hr ht hp rs ys (λz hz=>hy z (Aw _ hz)) (si y)
  have step:∀ o,CT Z 3 GI (.int y) [si p,sh (Ed b xs),sh (.lst (ds rs)),s3,Ae,Ae,Ae]=o->Ci (CT Z 3 GI) (ds (y::ys)) [si p,sh (Ed b xs),sh (.lst (ds rs)),s3,Ae,Ae,Ae]=o.turn (Ci (CT Z 3 GI) (ds ys)):=by
   rintro o rfl;rfl
  unfold C7;rw[ym];by_cases hz:y=0
  .have e:CT Z 3 GI (.int y) [si p,sh (Ed b xs),sh (.lst (ds rs)),s3,Ae,Ae,Ae]=.next [si p,sh (Ed b xs),sh (.lst (ds rs)),si y,Ae,Ae,Ae]:=by
    simp[CT,GI,hz]
   rw[AA hz,step _ e];exact ih
  .rw[AH hz];refine⟨(λz=>nomatch z),λl t e it=>?_⟩
   cases e;obtain⟨u,u1,u2,u3,u4⟩:=ht p y hp (by rw[ym];exact hz)
   have:t=u:=PD it ⟨u1,u2,u3⟩;subst this;have p0:=hp.pos;have ph:=hp.hi;have cp:B4 (cG Z [si p,sh (Ed b xs),sh (.lst (ds rs)),si y,si t,Ae,Ae] 6 DE) (cF Z [si p,sh (Ed b xs),sh (.lst (ds rs)),si y,si t,Ae,Ae] 6 MB) (ds rs)=.ok (ds (rs.map λr=>t*r%p)):=by
    refine MX rs λr _=>⟨rfl,?_⟩
    have m:EF t r=Ab:=Kn (by omega) (by omega)
    simp[cF,MB,m,hr p (t*r) p0]
   have e:CT Z 3 GI (.int y) [si p,sh (Ed b xs),sh (.lst (ds rs)),s3,Ae,Ae,Ae]=.ret (.tup (ds (rs.map λr=>t*r%p))) Ad:=by
    simp[CT,GI,hz,u4,cp,DF]
   rw[step _ e];rfl
theorem Z_1(hr:LD Z)(ht:M4 Z)(hp:P4 p){l t:Ah}(e:C7 p xs=Aa l)(it:HJ p l t):K7.run Z [.int p,Ed b xs]=.ok (.tup (ds (fmI p t xs))):=by
 have p0:=hp.pos;have cp:B4 (cG Z [si p,sh (Ed b xs),Ae,Ae,Ae,Ae,Ae] 5 DE) (cF Z [si p,sh (Ed b xs),Ae,Ae,Ae,Ae,Ae] 5 MC) (ds xs)=.ok (ds (xs.map λx=>x%p)):=by
  refine MX xs λx _=>⟨rfl,?_⟩
  simp[cF,MC,hr p x p0]
 have run:∀ o,Ci (CT Z 3 GI) (ds (xs.map λx=>x%p)) [si p,sh (Ed b xs),sh (.lst (ds (xs.map λx=>x%p))),Ae,Ae,Ae,Ae]=o->K7.run Z [.int p,Ed b xs]=(FV Z (.cons (.rais 3 (.cons (.str (Ay "all the numbers have the rest 0")) .nil)) .nil) o).ans Ad:=by
  rintro o rfl;simp[K7,Df.run,B8,WF,cp]
 have le:C7 p (xs.map λx=>x%p)=C7 p xs:=by
  have:=Nh (c:=1) hp (by rcases hp with rfl|rfl|rfl|rfl<;>decide) (f:=λx=>x%p) (λx=>by rw[DO,A5 _ (BO p)]) xs
  rw[this];cases e:C7 p xs with
  |none=>rfl
  |some l=>
   obtain⟨_,l0,l1⟩:=Px p0 e;simp[Bl (Int.le_of_lt l0) l1]
 obtain⟨a,c⟩:=Ql (b:=b) (xs:=xs) hr ht hp (xs.map λx=>x%p) (xs.map λx=>x%p) (λy hy=>by
  obtain⟨x,_,rfl⟩:=Gx.mp hy;exact⟨BA _ (by omega),BP _ p0⟩) Ae
 rw[le]at a c;rw[run _ (c l t e it)];simp[fmI,Uz,Function.comp_def]
end
theorem NS(q:Ai)(a:R3):DU (Be q a)=.ok [.int a.1,.int a.2.1,.int a.2.2]:=by cases q<;>rfl
noncomputable def KW(a b c:R3):R3:=(a.1,b.1,c.1)
noncomputable def KU(a b c:R3):R3:=(a.2.1,b.2.1,c.2.1)
noncomputable def KS(a b c:R3):R3:=(a.2.2,b.2.2,c.2.2)
noncomputable def Ix(a x:R3):Ah:=a.1*x.1+a.2.1*x.2.1+a.2.2*x.2.2
theorem lE(hp:P4 p)(h0:0<=x)(h1:x<p):Bd 10 x:=by
 unfold Bd;have:=hp.hi;omega
theorem Bd.mono{m:Af}(h:Bd m x)(hm:m<=n):Bd n x:=AL h (Nat.pow_le_pow_right (by decide) hm)
def Bn(n:Af)(a:R3):Prop:=Bd n a.1/\Bd n a.2.1/\Bd n a.2.2
theorem Bn.b3(h:Bn n a)(hn:n<=300):B3 a:=⟨h.1.mono hn,h.2.1.mono hn,h.2.2.mono hn⟩
noncomputable def FT(k:Ah)(a:R3):R3:=(k*a.1,k*a.2.1,k*a.2.2)
noncomputable def fk0(p:Ah)(a b c d:R3):Ah:=KR d b c%p
noncomputable def fs0(p:Ah)(a b c d:R3):R3:=FT (fk0 p a b c d) a
def CgR(p:Ah)(x y:R3):Prop:=Cg p x.1 y.1/\Cg p x.2.1 y.2.1/\Cg p x.2.2 y.2.2
section
variable{p:Ah}{a b c a' b' c' x y z x':R3}{k l m k':Ah}
theorem CgR.rfl:CgR p a a:=⟨Cg.rfl,Cg.rfl,Cg.rfl⟩
theorem CgR.of(h:a=b):CgR p a b:=by rw[h];exact CgR.rfl
theorem CgR.trans(h:CgR p a b)(g:CgR p b c):CgR p a c:=⟨h.1.trans g.1,h.2.1.trans g.2.1,h.2.2.trans g.2.2⟩
theorem CgR.symm(h:CgR p a b):CgR p b a:=⟨h.1.symm,h.2.1.symm,h.2.2.symm⟩
theorem CgR.sc(hk:Cg p k k')(h:CgR p a b):CgR p (FT k a) (FT k' b):=⟨hk.mul h.1,hk.mul h.2.1,hk.mul h.2.2⟩
theorem IW(ha:CgR p a a')(hb:CgR p b b'):Cg p (Ix a b) (Ix a' b'):=((ha.1.mul hb.1).add (ha.2.1.mul hb.2.1)).add (ha.2.2.mul hb.2.2)
theorem fZ(ha:CgR p a a')(hb:CgR p b b')(hc:CgR p c c'):CgR p (KW a b c) (KW a' b' c')/\CgR p (KU a b c) (KU a' b' c')/\CgR p (KS a b c) (KS a' b' c'):=⟨⟨ha.1,hb.1,hc.1⟩,⟨ha.2.1,hb.2.1,hc.2.1⟩,⟨ha.2.2,hb.2.2,hc.2.2⟩⟩
noncomputable def ap(a b c x:R3):R3:=(Ix a x,Ix b x,Ix c x)
theorem SR(k l:Ah)(x:R3):FT k (FT l x)=FT (k*l) x:=by
 unfold FT;simp only[F5]
theorem mJ(a b c x:R3)(k:Ah):ap a b c (FT k x)=FT k (ap a b c x):=by
 unfold ap FT Ix;refine J4 ?_ (J4 ?_ ?_)<;>(simp only;grind)
end
section
variable{p:Ah}{a b c f0 f1 f2 f3 g0 g1 g2 g3:R3}{d0 d1 d2 d3:Ah}
end
section
variable{Z:Gam}{ns:Ac Ah}
end
section
variable{Z:Gam}{ns:Ac Ah}{many s5 s6 s7 s8 s9 s0 s1 s2:Sl}{p:Ah}{a b c:R3}
end
def InL(p:Ah)(xs:Ac Ah):Prop:=∀ x∈xs,0<=x/\x<p
theorem InL.set{xs:Ac Ah}(h:InL p xs)(k:Af){v:Ah}(h0:0<=v)(h1:v<p):InL p (xs.set k v):=λx hx=>by
 rcases List.mem_or_eq_of_mem_set hx with z|rfl
 .exact h x z
 .exact⟨h0,h1⟩
section
variable{Z:Gam}{ns:Ac Ah}{p at_:Ah}
end
section
variable{Z:Gam}{ns:Ac Ah}{p t:Ah}
end
structure C6 where
 c0:Ah
 c1:Ah
 c2:Ah
 c3:Ah
 c4:Ah
 c5:Ah
noncomputable def C6.l(C:C6):Ac Ah:=[C.c0,C.c1,C.c2,C.c3,C.c4,C.c5]
noncomputable def vI(C:C6)(x:R3):Ah:=C.c0*x.1*x.1+C.c1*x.2.1*x.2.1+C.c2*x.2.2*x.2.2+(C.c3*x.1*x.2.1+C.c4*x.1*x.2.2+C.c5*x.2.1*x.2.2)
noncomputable def tw0(C:C6):R3:=(2*C.c0,C.c3,C.c4)
noncomputable def tw1(C:C6):R3:=(C.c3,2*C.c1,C.c5)
noncomputable def tw2(C:C6):R3:=(C.c4,C.c5,2*C.c2)
noncomputable def bI(C:C6)(x y:R3):Ah:=Ix (ap (tw0 C) (tw1 C) (tw2 C) x) y
noncomputable def scC(k:Ah)(C:C6):C6:=⟨k*C.c0,k*C.c1,k*C.c2,k*C.c3,k*C.c4,k*C.c5⟩
def CgC(p:Ah)(C D:C6):Prop:=Cg p C.c0 D.c0/\Cg p C.c1 D.c1/\Cg p C.c2 D.c2/\Cg p C.c3 D.c3/\Cg p C.c4 D.c4/\Cg p C.c5 D.c5
noncomputable def pb(C:C6)(a b c:R3):C6:=⟨vI C (KW a b c),vI C (KU a b c),vI C (KS a b c),bI C (KW a b c) (KU a b c),bI C (KW a b c) (KS a b c),bI C (KU a b c) (KS a b c)⟩
section
variable{p:Ah}{C D E:C6}{a b c a' b' c' x y x' y':R3}{k k':Ah}
theorem C6.ext'(h0:C.c0=D.c0)(h1:C.c1=D.c1)(h2:C.c2=D.c2)(h3:C.c3=D.c3)(h4:C.c4=D.c4)(h5:C.c5=D.c5):C=D:=by
 cases C;cases D;simp_all
theorem CgC.rfl:CgC p C C:=⟨Cg.rfl,Cg.rfl,Cg.rfl,Cg.rfl,Cg.rfl,Cg.rfl⟩
theorem CgC.of(h:C=D):CgC p C D:=by rw[h];exact CgC.rfl
theorem CgC.symm(h:CgC p C D):CgC p D C:=⟨h.1.symm,h.2.1.symm,h.2.2.1.symm,h.2.2.2.1.symm,h.2.2.2.2.1.symm,h.2.2.2.2.2.symm⟩
theorem CgC.trans(h:CgC p C D)(g:CgC p D E):CgC p C E:=⟨h.1.trans g.1,h.2.1.trans g.2.1,h.2.2.1.trans g.2.2.1,h.2.2.2.1.trans g.2.2.2.1,h.2.2.2.2.1.trans g.2.2.2.2.1,h.2.2.2.2.2.trans g.2.2.2.2.2⟩
theorem CgC.sc(hk:Cg p k k')(h:CgC p C D):CgC p (scC k C) (scC k' D):=⟨hk.mul h.1,hk.mul h.2.1,hk.mul h.2.2.1,hk.mul h.2.2.2.1,hk.mul h.2.2.2.2.1,hk.mul h.2.2.2.2.2⟩
theorem N4(h:CgC p C D)(hx:CgR p x x'):Cg p (vI C x) (vI D x'):=
 (((((h.1.mul hx.1).mul hx.1).add ((h.2.1.mul hx.2.1).mul hx.2.1)).add ((h.2.2.1.mul hx.2.2).mul hx.2.2))).add ((((h.2.2.2.1.mul hx.1).mul hx.2.1).add ((h.2.2.2.2.1.mul hx.1).mul hx.2.2)).add ((h.2.2.2.2.2.mul hx.2.1).mul hx.2.2))
theorem iZ(h:CgC p C D):CgR p (tw0 C) (tw0 D)/\CgR p (tw1 C) (tw1 D)/\CgR p (tw2 C) (tw2 D):=
 ⟨⟨Cg.rfl.mul h.1,h.2.2.2.1,h.2.2.2.2.1⟩,⟨h.2.2.2.1,Cg.rfl.mul h.2.1,h.2.2.2.2.2⟩,⟨h.2.2.2.2.1,h.2.2.2.2.2,Cg.rfl.mul h.2.2.1⟩⟩
theorem iC(ha:CgR p a a')(hb:CgR p b b')(hc:CgR p c c')(hx:CgR p x x'):CgR p (ap a b c x) (ap a' b' c' x'):=⟨IW ha hx,IW hb hx,IW hc hx⟩
theorem On(h:CgC p C D)(hx:CgR p x x')(hy:CgR p y y'):Cg p (bI C x y) (bI D x' y'):=
 let ⟨t0,t1,t2⟩:=iZ h
 IW (iC t0 t1 t2 hx) hy
theorem lO(h:CgC p C D)(ha:CgR p a a')(hb:CgR p b b')(hc:CgR p c c'):CgC p (pb C a b c) (pb D a' b' c'):=
 let ⟨s0,s1,s2⟩:=fZ ha hb hc
 ⟨N4 h s0,N4 h s1,N4 h s2,On h s0 s1,On h s0 s2,On h s1 s2⟩
theorem RS(k l:Ah)(C:C6):scC k (scC l C)=scC (k*l) C:=by
 unfold scC;simp only[F5]
theorem QI(C:C6):scC 1 C=C:=by unfold scC;simp only[DO]
theorem lN(k:Ah)(C:C6)(a b c:R3):pb (scC k C) a b c=scC k (pb C a b c):=by
 unfold pb scC vI bI ap tw0 tw1 tw2 Ix;refine C6.ext' ?_ ?_ ?_ ?_ ?_ ?_<;>(simp only;grind)
def PrC(p:Ah)(C D:C6):Prop:=∃ d,d%p≠0/\CgC p C (scC d D)
theorem PrC.rfl(hp:P4 p):PrC p C C:=⟨1,hp.o1,CgC.of (QI C).symm⟩
theorem PrC.trans(hp:P4 p)(i:PrC p C D)(j:PrC p D E):PrC p C E:=by
 obtain⟨d,dz,e⟩:=i;obtain⟨d',dz',e'⟩:=j;exact⟨d*d',Kw hp dz dz',e.trans ((CgC.sc Cg.rfl e').trans (CgC.of (RS _ _ _)))⟩
theorem gS(hp:P4 p)(dz:k%p≠0):∃ u,u%p≠0/\Cg p (u*k) 1:=by
 obtain⟨u,u1,u2,u3⟩:=Kt hp dz;refine⟨u,by rw[Bl (by omega) u2];omega,?_⟩
 show u*k%p=1%p;rw[Gu,u3,Bl (by decide) (by have:=hp.lo;omega)]
theorem PrC.symm(hp:P4 p)(i:PrC p C D):PrC p D C:=by
 obtain⟨d,dz,e⟩:=i;obtain⟨u,uz,o⟩:=gS hp dz;refine⟨u,uz,?_⟩;have q:=CgC.sc (k:=u) (k':=u) Cg.rfl e;rw[RS]at q;exact(q.trans ((CgC.sc o CgC.rfl).trans (CgC.of (QI D)))).symm
theorem PrC.pb(i:PrC p C D):PrC p (OvC.pb C a b c) (OvC.pb D a b c):=by
 obtain⟨d,dz,e⟩:=i;exact⟨d,dz,(lO e CgR.rfl CgR.rfl CgR.rfl).trans (CgC.of (lN d D a b c))⟩
def InC(p:Ah)(C:C6):Prop:=∀ x∈C.l,0<=x/\x<p
end
structure BC (C:C6):Prop where
 b0:Bd 10 C.c0
 b1:Bd 10 C.c1
 b2:Bd 10 C.c2
 b3:Bd 10 C.c3
 b4:Bd 10 C.c4
 b5:Bd 10 C.c5
theorem InC.b{C:C6}(hp:P4 p)(h:InC p C):BC C:=by
 have k:∀ x∈C.l,Bd 10 x:=λx hx=>lE hp (h x hx).1 (h x hx).2
 exact⟨k _ (by simp[C6.l]),k _ (by simp[C6.l]),k _ (by simp[C6.l]),k _ (by simp[C6.l]),k _ (by simp[C6.l]),k _ (by simp[C6.l])⟩
noncomputable def t0(p:Ah)(C:C6):R3:=(2*C.c0%p,C.c3,C.c4)
noncomputable def t1(p:Ah)(C:C6):R3:=(C.c3,2*C.c1%p,C.c5)
noncomputable def t2(p:Ah)(C:C6):R3:=(C.c4,C.c5,2*C.c2%p)
section
variable{Z:Gam}{ns:Ac Ah}{p at_:Ah}{φ:Ah->Ah}
end
def Pr(p:Ah)(x y:R3):Prop:=∃ d,d%p≠0/\CgR p x (FT d y)
section
variable{p:Ah}{a b c x y z f g h:R3}{k:Ah}
theorem RT(x:R3):FT 1 x=x:=by unfold FT;simp only[DO]
theorem Pr.rfl(hp:P4 p):Pr p x x:=⟨1,hp.o1,CgR.of (RT x).symm⟩
theorem Pr.trans(hp:P4 p)(i:Pr p x y)(j:Pr p y z):Pr p x z:=by
 obtain⟨d,dz,e⟩:=i;obtain⟨d',dz',e'⟩:=j;exact⟨d*d',Kw hp dz dz',e.trans ((CgR.sc Cg.rfl e').trans (CgR.of (SR _ _ _)))⟩
theorem Pr.symm(hp:P4 p)(i:Pr p x y):Pr p y x:=by
 obtain⟨d,dz,e⟩:=i;obtain⟨u,u1,u2,u3⟩:=Kt hp dz;have uz:u%p≠0:=by rw[Bl (by omega) u2];omega
 have o:Cg p (u*d) 1:=by
  show u*d%p=1%p;rw[Gu,u3,Bl (by decide) (by have:=hp.lo;omega)]
 refine⟨u,uz,?_⟩;have q:=CgR.sc (k:=u) (k':=u) Cg.rfl e;rw[SR]at q;exact(q.trans ((CgR.sc o CgR.rfl).trans (CgR.of (RT y)))).symm
theorem mK{a' b' c' x':R3}(ha:CgR p a a')(hb:CgR p b b')(hc:CgR p c c')(hx:CgR p x x'):CgR p (ap a b c x) (ap a' b' c' x'):=⟨IW ha hx,IW hb hx,IW hc hx⟩
theorem Pr.ap(i:Pr p x y):Pr p (OvC.ap a b c x) (OvC.ap a b c y):=by
 obtain⟨d,dz,e⟩:=i;exact⟨d,dz,(mK CgR.rfl CgR.rfl CgR.rfl e).trans (CgR.of (mJ a b c y d))⟩
end
noncomputable def tri(g:R3):Ac Ah:=[g.1,g.2.1,g.2.2]
section
variable{p:Ah}{a b c a' b' c' f0 f1 f2 f3 g0 g1 g2 g3 h0 h1 h2 h3:R3}
end
section
variable{Z:Gam}{ns:Ac Ah}{p:Ah}
end
def LG(Z:Gam)(mid:Af)(ns:Ac Ah):Prop:=∀ k:Ah,0<=k->∃ m,0<=m/\Z.F mid [scr ns,.int k]=.ok (.int m)
section
variable{Z:Gam}{ns:Ac Ah}{mid:Af}{p:Ah}{a b c:R3}{s2 s4 s5 s6 s7 s8:Sl}
end
theorem gF(h:1<p):C7 p [0,0,1]=Aa 1:=by
 simp[C7,Bl (by decide:(0:Ah)<=1) h]
theorem mC(h:1<p)(z:Ah):C7 p [0,1,z]=Aa 1:=by
 simp[C7,Bl (by decide:(0:Ah)<=1) h]
theorem nI(h:1<p)(y z:Ah):C7 p [1,y,z]=Aa 1:=by
 simp[C7,Bl (by decide:(0:Ah)<=1) h]
section
variable{Z:Gam}{ns:Ac Ah}{p:Ah}{C:C6}{s3 s4 s5 s6 s7 s8:Sl}
end
noncomputable def Kb:Ss:=(.cons (.asg 2 Ad (.bin .FloorDiv (.var 2) (.int 1000033))) .nil)
noncomputable def Ka:Df:=⟨4,Ad,(.cons (.asg 2 Ad (.int 0)) (.cons (.ife (.cmp .Gt (.bi .len (.cons (.var 0) .nil)) (.int 0)) (.cons (.asg 2 Ad (.idx (.var 0) (.bin .Mod (.var 1) (.bi .len (.cons (.var 0) .nil))))) .nil) .nil) (.cons (.ife (.cmp .Eq (.bin .Mod (.bi .len (.cons (.var 0) .nil)) (.int 2)) (.int 0)) (.cons (.fors 3 (.rng (.bi .min (.cons (.int 60) (.cons (.bin .FloorDiv (.var 1) (.bi .max (.cons (.int 1) (.cons (.bi .len (.cons (.var 0) .nil)) .nil)))) .nil)))) Kb) (.cons (.ret (.bin .Mod (.var 2) (.int 1000033))) .nil)) .nil) (.cons (.ret (.bin .Mod (.bin .Mult (.bin .Mod (.bin .Mult (.bin .Add (.bin .Add (.bin .Mod (.var 2) (.int 1000003)) (.bin .Mult (.int 7919) (.var 1))) (.int 11)) (.int 48271)) (.int 1000033)) (.int 69621)) (.int 1000033))) .nil))))⟩
section
variable{Z:Gam}{ns:Ac Ah}
theorem Xy(k x:Ah)(n:Af):∃ y s3,Ci (CT Z 3 Kb) (EJ 0 n) [sh (scr ns),si k,si x,Ae]=.next [sh (scr ns),si k,si y,s3]:=by
 obtain⟨U',e,y,s3,rfl⟩:=Qr (body:=CT Z 3 Kb) (λU=>∃ y s3,U=[sh (scr ns),si k,si y,s3]) (EJ 0 n) [sh (scr ns),si k,si x,Ae] ⟨x,Ae,rfl⟩ (by
  rintro z hz U ⟨y,s3,rfl⟩;obtain⟨j,_,rfl⟩:=XD hz;exact⟨[sh (scr ns),si k,si (y/1000033),si (0+(j:Ah))],by simp[CT,Kb],_,_,rfl⟩)
 exact⟨y,s3,e⟩
theorem dL(Z:Gam)(ns:Ac Ah)(hl:ns.length<=63)(k:Ah)(k0:0<=k):∃ m,0<=m/\Ka.run Z [scr ns,.int k]=.ok (.int m):=by
 have m1:EF 7919 k=Ab:=Kn (by decide) (by decide)
 have m2:∀ x,EF x 48271=Ab:=λx=>No (by decide) (by decide)
 have m3:∀ x,EF x 69621=Ab:=λx=>No (by decide) (by decide)
 generalize hn:(ns.length:Ah)=n;have n0:0<=n:=by omega
 have n1:n<=63:=by omega
 have len:biD .len [scr ns]=.ok (.int n):=by rw[<-hn];show R.ok (D.int ((ns.map D.int).length:Af))=_;rw[BD]
 have fin:∀ x hi:Ah,0<=hi->hi<=60->∃ y s3,OM Z 3 Kb [sh (scr ns),si k,si x,Ae] (DT 0 hi)=.next [sh (scr ns),si k,si y,s3]:=λx hi h0 h1=>by
  rw[MH h0 (by omega)]
  exact Xy (Z:=Z) (ns:=ns) k x hi.toNat
 have mx:0<(if 1<n then n else 1)/\(if 1<n then n else 1)<1073741824:=by split<;>omega
 generalize hM:(if 1<n then n else 1)=M at mx
 have hi:∀ q:Ah,0<=q->0<=(if q<60 then q else 60)/\(if q<60 then q else 60)<=60:=λq h=>by split<;>omega
 have q0:0<=k/M:=Ue k0 (by omega)
 obtain⟨u1,u2⟩:=hi _ q0;by_cases hp:0<n
 .have r0:0<=k%n:=BA _ (by omega)
  have r1:k%n<ns.length:=by rw[hn];exact BP _ hp
  have g:=bM r0 r1;generalize ns.getD (k%n).toNat 0=x at g;by_cases h2:n%2=0
  .obtain⟨y,s3,e⟩:=fin x _ u1 u2;refine⟨y%1000033,BA _ (by decide),?_⟩
   have gx:CN (scr ns) (.int (k%n))=.ok (.int x):=g;simp[Ka,Df.run,B8,len,hp,gx,h2,hM,mx.1,mx.2,e]
  .refine⟨((x%1000003+7919*k+11)*48271%1000033)*69621%1000033,BA _ (by decide),?_⟩
   have gx:CN (scr ns) (.int (k%n))=.ok (.int x):=g;simp[Ka,Df.run,B8,len,hp,gx,h2,m1,m2,m3]
 .have z:n=0:=by omega
  subst z;obtain⟨y,s3,e⟩:=fin 0 _ u1 u2;refine⟨y%1000033,BA _ (by decide),?_⟩
  have hM':M=1:=by rw[<-hM];rfl
  subst hM';simp at e;simp[Ka,Df.run,B8,len,e]
end
section
variable{Z:Gam}{ns:Ac Ah}{p:Ah}{C:C6}{s3 s4 s5 s6 s7 s8:Sl}
end
def NF(p:Ah)(x:R3):Prop:=In3 p x/\C7 p (tri x)=Aa 1
noncomputable def ptI(p n:Ah):R3:=if n=0 then (0,0,1) else if n<=p then (0,1,n-1) else (1,(n-p-1)/p,(n-p-1)%p)
theorem jH{n:Ah}(hp:P4 p)(h0:0<=n)(h1:n<p*p+p+1):NF p (ptI p n):=by
 have p1:1<p:=by have:=hp.lo;omega
 have p0:=hp.pos;unfold ptI;by_cases z:n=0
 .rw[AA z];exact⟨⟨⟨by decide,p0⟩,⟨by decide,p0⟩,⟨by decide,p1⟩⟩,gF p1⟩
 .rw[AH z];by_cases z1:n<=p
  .rw[AA z1];exact⟨⟨⟨Ug 0,p0⟩,⟨(by decide:(0:Ah)<=1),p1⟩,⟨by show 0<=n-1;omega,by show n-1<p;omega⟩⟩,mC p1 _⟩
  .rw[AH z1];have d0:0<=(n-p-1)/p:=Ue (by omega) (by omega)
   have d1:(n-p-1)/p<p:=by rw[Int.ediv_lt_iff_lt_mul p0];omega
   exact⟨⟨⟨(by decide:(0:Ah)<=1),p1⟩,⟨d0,d1⟩,⟨BA _ (by omega),BP _ p0⟩⟩,nI p1 _ _⟩
noncomputable def q4(w:Af)(k:Ah)(y:R3):Ah:=match w with
  |0=>y.1*y.2.2-y.2.1*y.2.1
  |1=>y.1*y.1
  |2=>y.1*y.2.1
  |_=>y.1*y.1-k*(y.2.1*y.2.1)
section
variable{Z:Gam}{p i j k d N:Ah}{PP x y u:D}{RL:Ac D}{s t s' t' v:Sl}
end
section
variable{Z:Gam}{p:Ah}{pts:Ac R3}
end
noncomputable def M2:Df:=⟨2,Ad,(.cons (.ret (.idx (.lst (.cons (.int 3) (.cons (.int 5) (.cons (.int 7) (.cons (.int 11) .nil))))) (.bin .Mod (.bin .FloorDiv (.call 38 (.cons (.var 0) (.cons (.var 1) .nil))) (.int 16)) (.int 4)))) .nil)⟩
def iD(Z:Gam)(ns:Ac Ah):Prop:=∀ k,0<=k->∃ p,P4 p/\Z.F 39 [scr ns,.int k]=.ok (.int p)
theorem dI(h:LG Z 38 ns)(k:Ah)(k0:0<=k):∃ p,P4 p/\M2.run Z [scr ns,.int k]=.ok (.int p):=by
 obtain⟨m,m0,e⟩:=h k k0;refine⟨_,dR (m/16),?_⟩;generalize scr ns=S at *;simp[M2,Df.run,B8,e,YD]
noncomputable def Kd:Df:=⟨2,Ad,(.cons (.asg 0 Ad (.bin .Mod (.var 0) (.bin .Add (.bin .Add (.bin .Mult (.var 1) (.var 1)) (.var 1)) (.int 1)))) (.cons (.ife (.cmp .Eq (.var 0) (.int 0)) (.cons (.ret (.tup (.cons (.int 0) (.cons (.int 0) (.cons (.int 1) .nil))))) .nil) .nil) (.cons (.ife (.cmp .LtE (.var 0) (.var 1)) (.cons (.ret (.tup (.cons (.int 0) (.cons (.int 1) (.cons (.bin .Sub (.var 0) (.int 1)) .nil))))) .nil) .nil) (.cons (.ret (.tup (.cons (.int 1) (.cons (.bin .FloorDiv (.bin .Sub (.bin .Sub (.var 0) (.var 1)) (.int 1)) (.var 1)) (.cons (.bin .Mod (.bin .Sub (.bin .Sub (.var 0) (.var 1)) (.int 1)) (.var 1)) .nil))))) .nil))))⟩
def So(Z:Gam):Prop:=∀(p n:Ah),P4 p->∃ x,NF p x/\Z.F 40 [.int n,.int p]=.ok (Be Ab x)
theorem eY(Z:Gam)(p n:Ah)(hp:P4 p):∃ x,NF p x/\Kd.run Z [.int n,.int p]=.ok (Be Ab x):=by
 have pp:EF p p=Ab:=Kn (by have:=hp.lo;omega) (by have:=hp.hi;omega)
 have p0:=hp.pos;have ph:=hp.hi;have N0:0<p*p+p+1:=by have:=Int.mul_pos p0 p0;omega
 have h0:=BA n (Int.ne_of_gt N0);have h1:=BP n N0;have pb:p<1073741824:=by omega
 refine⟨ptI p (n%(p*p+p+1)),jH hp h0 h1,?_⟩;generalize hr:n%(p*p+p+1)=r at *;unfold ptI;by_cases z0:r=0
 .rw[AA z0];simp[Kd,Df.run,B8,pp,N0,hr,z0];rfl
 .rw[AH z0];by_cases z1:r<=p
  .rw[AA z1];simp[Kd,Df.run,B8,pp,N0,hr,z0,z1];rfl
  .rw[AH z1];simp[Kd,Df.run,B8,pp,N0,hr,z0,z1,p0,pb];rfl
noncomputable def sp7:Ag:=Ay " "
noncomputable def dg(n:Af):Ag:=if n<10 then ⟨#[48+n]⟩ else ⟨#[49,48]⟩
theorem cO:∀ n:Af,n<11->Ay (toString (n:Ah))=dg n:=by decide+kernel
theorem fX:∀ a:Af,a<11->∀ b:Af,b<11->(dg a==dg b)=(a==b):=by decide+kernel
noncomputable def br0(s:Ai):Ag:=if s=Ab then Ay "[" else Ay "("
noncomputable def br1(s:Ai):Ag:=if s=Ab then Ay "]" else Ay ")"
noncomputable def jn(a b c:Af):Ag:=DS sp7 [dg a,dg b,dg c]
noncomputable def tx(s:Ai)(a b c:Af):Ag:=br0 s++jn a b c++br1 s
def Sg(u:Ag):Prop:=(∃ x,u=⟨#[x]⟩)\/∃ x y,u=⟨#[x,y]⟩
theorem Oj(a:Af):Sg (dg a):=by
 unfold dg;by_cases h:a<10
 .rw[AA h];exact .inl ⟨_,rfl⟩
 .rw[AH h];exact .inr ⟨_,_,rfl⟩
structure JF (u v w:Ag):Prop where
 jo:HW sp7 [u,v,w]=Ab
 ln:(DS sp7 [u,v,w]).length<=10
 cut:∀ b d:Af,Gf ((⟨#[b]⟩:Ag)++DS sp7 [u,v,w]++⟨#[d]⟩) (Aa 1) (Aa (-1))=DS sp7 [u,v,w]
 tl:∀ b d:Af,((⟨#[b]⟩:Ag)++DS sp7 [u,v,w]++⟨#[d]⟩).length<=20
 i0:∀ b d:Af,CN (.str ((⟨#[b]⟩:Ag)++DS sp7 [u,v,w]++⟨#[d]⟩)) (.int 0)=.ok (.str ⟨#[b]⟩)
 i1:∀ b d:Af,CN (.str ((⟨#[b]⟩:Ag)++DS sp7 [u,v,w]++⟨#[d]⟩)) (.int (-1))=.ok (.str ⟨#[d]⟩)
theorem jf{u v w:Ag}(hu:Sg u)(hv:Sg v)(hw:Sg w):JF u v w:=by
 rcases hu with ⟨x,rfl⟩|⟨x,x',rfl⟩<;>rcases hv with ⟨y,rfl⟩|⟨y,y',rfl⟩<;>rcases hw with ⟨z,rfl⟩|⟨z,z',rfl⟩ <;>
  exact⟨by kernel_rfl,Bt (by kernel_rfl),λb d=>by kernel_rfl,λb d=>Bt (by kernel_rfl),λb d=>by kernel_rfl,λb d=>by kernel_rfl⟩
theorem aY(s:Ai):∃ b,br0 s=⟨#[b]⟩:=by
 cases s with
 |false=>exact⟨40,by kernel_rfl⟩
 |true=>exact⟨91,by kernel_rfl⟩
theorem aX(s:Ai):∃ b,br1 s=⟨#[b]⟩:=by
 cases s with
 |false=>exact⟨41,by kernel_rfl⟩
 |true=>exact⟨93,by kernel_rfl⟩
theorem iX{x y:Ag}{l:Ac Ag}(h:DL x y=l)(hl:l.length=3)(hx:x.length<=20):HG x y=Ab:=by
 unfold DL at h;have no:¬ ([x]=l):=λz=>by rw[<-z]at hl;simp at hl
 by_cases h1:(decide (x.length<y.length)||decide (El x<El y))=Ab
 .rw[AA h1]at h;exact absurd h no
 .rw[AH h1]at h;by_cases h2:(DB x y 0 x.length (x.length+1)).isEmpty=Ab
  .rw[AA h2]at h;exact absurd h no
  .rw[AH h2]at h;unfold HG;rw[h,hl,Al];exact⟨UE.mpr (by omega),rfl⟩
noncomputable def FQ(a:Af):Ai:=(B6 11).all λb=>(B6 11).all λc=>DL (jn a b c) sp7==[dg a,dg b,dg c]
theorem tA0:FQ 0=Ab:=by decide+kernel
theorem tA1:FQ 1=Ab:=by decide+kernel
theorem tA2:FQ 2=Ab:=by decide+kernel
theorem tA3:FQ 3=Ab:=by decide+kernel
theorem tA4:FQ 4=Ab:=by decide+kernel
theorem tA5:FQ 5=Ab:=by decide+kernel
theorem tA6:FQ 6=Ab:=by decide+kernel
theorem tA7:FQ 7=Ab:=by decide+kernel
theorem tA8:FQ 8=Ab:=by decide+kernel
theorem tA9:FQ 9=Ab:=by decide+kernel
theorem mZ:FQ 10=Ab:=by decide+kernel
theorem iH:∀ a:Af,a<11->FQ a=Ab
 |0,_=>tA0
 |1,_=>tA1
 |2,_=>tA2
 |3,_=>tA3
 |4,_=>tA4
 |5,_=>tA5
 |6,_=>tA6
 |7,_=>tA7
 |8,_=>tA8
 |9,_=>tA9
 |10,_=>mZ
 |n+11,h=>absurd h (by omega)
noncomputable def Mp:E:=(.bi .str (.cons (.var 1) .nil))
noncomputable def Nl:Df:=⟨2,Ad,(.cons (.ret (.bi .sjoin (.cons (.str (Ay " ")) (.cons (.comp Mp 1 (.e (.var 0)) DE) .nil)))) .nil)⟩
noncomputable def K4:Ss:=(.cons (.ife (.cmp .Eq (.var 1) (.bi .str (.cons (.var 2) .nil))) (.cons (.ret (.var 2)) .nil) .nil) .nil)
noncomputable def Mq:Df:=⟨3,Ad,(.cons (.fors 2 (.rng (.var 0)) K4) (.cons (.ret .non) .nil))⟩
noncomputable def Ml:E:=(.call 33 (.cons (.var 0) (.cons (.var 3) .nil)))
noncomputable def Ms:Df:=⟨4,Ad,(.cons (.asg 2 Ad (.comp Ml 3 (.e (.var 1)) DE)) (.cons (.ife (.cmp .In .non (.var 2)) (.cons (.ret .non) .nil) .nil) (.cons (.ret (.var 2)) .nil)))⟩
noncomputable def Lh:Df:=⟨5,Ad,(.cons (.asg 3 Ad (.call 34 (.cons (.var 0) (.cons (.bi .ssplit (.cons (.sl (.var 1) (.int 1) (.un .USub (.int 1))) (.cons (.str (Ay " ")) .nil))) .nil)))) (.cons (.ife (.or (.cons (.cmp .Is (.var 3) .non) (.cons (.cmp .NotEq (.bi .len (.cons (.var 3) .nil)) (.int 3)) (.cons (.no (.bi .any (.cons (.var 3) .nil))) .nil)))) (.cons (.rais 106 (.cons (.var 2) .nil)) .nil) .nil) (.cons (.asg 4 Ad (.bin .Add (.idx (.var 1) (.int 0)) (.idx (.var 1) (.un .USub (.int 1))))) (.cons (.ife (.cmp .Eq (.var 4) (.str (Ay "()"))) (.cons (.ret (.mkn 1 (.cons (.var 0) (.cons (.var 3) .nil)))) .nil) .nil) (.cons (.ife (.cmp .Eq (.var 4) (.str (Ay "[]"))) (.cons (.ret (.mkn 2 (.cons (.var 0) (.cons (.var 3) .nil)))) .nil) .nil) (.cons (.rais 106 (.cons (.var 2) .nil)) .nil))))))⟩
noncomputable def MI:Df:=⟨2,Ad,(.cons (.ret (.call 35 (.cons (.var 0) (.cons (.var 1) (.cons (.int 0) .nil))))) .nil)⟩
noncomputable def Mz:E:=(.call 35 (.cons (.var 0) (.cons (.var 3) (.cons (.var 2) .nil))))
noncomputable def MJ:Df:=⟨4,Ab,(.cons (.ret (.compT Mz [2,3] (.enm (.var 1)) DE)) .nil)⟩
noncomputable def M5:Df:=⟨3,Ad,(.cons (.ife (.or (.cons (.cmp .NotEq (.iso (.var 0) 1) (.cmp .Eq (.var 1) (.int 0))) (.cons (.cmp .NotEq (.iso (.var 0) 2) (.cmp .Eq (.var 1) (.int 1))) .nil))) (.cons (.ret (.bl Ad)) .nil) .nil) (.cons (.ret (.call 19 (.cons (.meth (Ay "told") [(1,920),(2,920)] (.var 0)) (.cons (.var 2) .nil)))) .nil))⟩
noncomputable def Mn:E:=(.bi .str (.cons (.var 3) .nil))
noncomputable def MD:Df:=⟨4,Ad,(.cons (.asg 2 Ad (.bi .sjoin (.cons (.str (Ay " ")) (.cons (.comp Mn 3 (.e (.var 1)) DE) .nil)))) (.cons (.ret (.bin .Add (.bin .Add (.idx (.lst (.cons (.str (Ay "(")) (.cons (.str (Ay "[")) .nil))) (.var 0)) (.var 2)) (.idx (.lst (.cons (.str (Ay ")")) (.cons (.str (Ay "]")) .nil))) (.var 0)))) .nil))⟩
noncomputable def Mx:Df:=⟨1,Ad,(.cons (.ret (.ofl (.var 0) (Ay "triple"))) .nil)⟩
noncomputable def MA:Df:=⟨1,Ad,(.cons (.ret (.bin .Add (.bin .Add (.str (Ay "(")) (.call 25 (.cons (.ofl (.var 0) (Ay "triple")) .nil))) (.str (Ay ")")))) .nil)⟩
noncomputable def Mt:Df:=⟨1,Ad,(.cons (.ret (.bin .Add (.bin .Add (.str (Ay "[")) (.call 25 (.cons (.ofl (.var 0) (Ay "triple")) .nil))) (.str (Ay "]")))) .nil)⟩
structure TxF (a b c:Af):Prop where
 jo:HW sp7 [dg a,dg b,dg c]=Ab
 spl:DL (jn a b c) sp7=[dg a,dg b,dg c]
 spo:HG (jn a b c) sp7=Ab
 ln:(jn a b c).length<=10
 cut:∀ s,Gf (tx s a b c) (Aa 1) (Aa (-1))=jn a b c
 tl:∀ s,(tx s a b c).length<=20
 i0:∀ s,CN (.str (tx s a b c)) (.int 0)=.ok (.str (br0 s))
 i1:∀ s,CN (.str (tx s a b c)) (.int (-1))=.ok (.str (br1 s))
theorem txf{a b c:Af}(ha:a<11)(hb:b<11)(hc:c<11):TxF a b c:=by
 have h:=iH a ha;unfold FQ at h;rw[BV]at h;have h:=h b (CB.mpr hb);rw[BV]at h;have h:=eq_of_beq (h c (CB.mpr hc));have j:=jf (Oj a) (Oj b) (Oj c);have ln:(jn a b c).length<=10:=j.ln;have tw:∀ s,∃ b' d',tx s a b c=(⟨#[b']⟩:Ag)++DS sp7 [dg a,dg b,dg c]++⟨#[d']⟩/\br0 s=⟨#[b']⟩/\br1 s=⟨#[d']⟩:=λs=>by
  obtain⟨b',e1⟩:=aY s;obtain⟨d',e2⟩:=aX s;exact⟨b',d',by unfold tx;rw[e1,e2];rfl,e1,e2⟩
 refine⟨j.jo,h,iX h rfl (by omega),ln,λs=>?_,λs=>?_,λs=>?_,λs=>?_⟩<;>obtain⟨b',d',e,e1,e2⟩:=tw s
 .rw[e];exact j.cut b' d'
 .rw[e];exact j.tl b' d'
 .rw[e,e1];exact j.i0 b' d'
 .rw[e,e2];exact j.i1 b' d'
noncomputable def jq(q:R3):Ag:=jn q.1.toNat q.2.1.toNat q.2.2.toNat
noncomputable def tq(s:Ai)(q:R3):Ag:=tx s q.1.toNat q.2.1.toNat q.2.2.toNat
theorem NZ(hp:P4 p)(h:In3 p q):TxF q.1.toNat q.2.1.toNat q.2.2.toNat:=by
 have:=hp.hi;obtain⟨⟨a0,a1⟩,⟨b0,b1⟩,c0,c1⟩:=h;exact txf (by omega) (by omega) (by omega)
theorem Ly(h0:0<=x)(h1:x<11):biD .str [.int x]=.ok (.str (dg x.toNat)):=by
 obtain⟨n,rfl⟩:=Uf h0;show (if KM (n:Ah)=Ab then R.ok (D.str (Ay (toString (n:Ah)))) else .bad)=_
 have:KM (n:Ah)=Ab:=by unfold KM;simp;omega
 rw[AA this,cO n (by omega)]
 rfl
theorem Rs(hp:P4 p)(h:In3 p q):biD .str [.int q.1]=.ok (.str (dg q.1.toNat))/\biD .str [.int q.2.1]=.ok (.str (dg q.2.1.toNat))/\biD .str [.int q.2.2]=.ok (.str (dg q.2.2.toNat)):=by
 have:=hp.hi;obtain⟨⟨a0,a1⟩,⟨b0,b1⟩,c0,c1⟩:=h;exact⟨Ly a0 (by omega),Ly b0 (by omega),Ly c0 (by omega)⟩
theorem S5(hp:P4 p)(h:In3 p q):biD .sjoin [.str (Ay " "),.lst [.str (dg q.1.toNat),.str (dg q.2.1.toNat),.str (dg q.2.2.toNat)]]=.ok (.str (jq q)):=by
 show (if HW sp7 [dg q.1.toNat,dg q.2.1.toNat,dg q.2.2.toNat]=Ab then R.ok (D.str (DS sp7 [dg q.1.toNat,dg q.2.1.toNat,dg q.2.2.toNat])) else .bad)=_
 rw[AA (NZ hp h).jo];rfl
theorem Ry(s:Ai):(br0 s).length=1/\(br1 s).length=1:=by cases s<;>exact⟨rfl,rfl⟩
theorem sz7(h:n<=1000):B5 n=Ab:=UE.mpr (by omega)
theorem OY(hp:P4 p)(h:In3 p q)(s:Ai):CH .Add (.str (br0 s)) (.str (jq q))=.ok (.str (br0 s++jq q))/\CH .Add (.str (br0 s++jq q)) (.str (br1 s))=.ok (.str (tq s q)):=by
 have t:=NZ hp h;have l:=Ry s;have lj:(jq q).length<=10:=t.ln;have la:(br0 s++jq q).length=(br0 s).length+(jq q).length:=Array.size_append;rw[GZ,GZ,AA (sz7 (by omega)),AA (sz7 (by omega))]
 exact⟨rfl,rfl⟩
section
variable{Z:Gam}
def NT(Z:Gam):Prop:=∀(p:Ah)(q:R3),P4 p->In3 p q->Z.F 25 [Be Ab q]=.ok (.str (jq q))
theorem fC(Z:Gam)(p:Ah)(q:R3)(hp:P4 p)(h:In3 p q):Nl.run Z [Be Ab q]=.ok (.str (jq q)):=by
 obtain⟨s0,s1,s2⟩:=Rs hp h;have e:B4 (cG Z [sh (Be Ab q),Ae] 1 DE) (cF Z [sh (Be Ab q),Ae] 1 Mp) [.int q.1,.int q.2.1,.int q.2.2]=.ok [.str (dg q.1.toNat),.str (dg q.2.1.toNat),.str (dg q.2.2.toNat)]:=by
  simp[B4,cG,cF,DE,Mp,s0,s1,s2]
 have j:=S5 hp h;have sq:=NS Ab q;generalize Be Ab q=Q at *;simp[Nl,Df.run,B8,sq,e,j]
noncomputable def sI(s:Ai):Ah:=b2i s
def LR(Z:Gam):Prop:=∀(p:Ah)(s b:Ai)(q:R3),P4 p->In3 p q->Z.F 42 [.int (sI s),Be b q]=.ok (.str (tq s q))
theorem gP(s:Ai):CN (.lst [.str (Ay "("),.str (Ay "[")]) (.int (sI s))=.ok (.str (br0 s)):=by cases s<;>rfl
theorem gO(s:Ai):CN (.lst [.str (Ay ")"),.str (Ay "]")]) (.int (sI s))=.ok (.str (br1 s)):=by cases s<;>rfl
theorem kH(Z:Gam)(p:Ah)(s b:Ai)(q:R3)(hp:P4 p)(h:In3 p q):MD.run Z [.int (sI s),Be b q]=.ok (.str (tq s q)):=by
 obtain⟨s0,s1,s2⟩:=Rs hp h;have e:B4 (cG Z [si (sI s),sh (Be b q),Ae,Ae] 3 DE) (cF Z [si (sI s),sh (Be b q),Ae,Ae] 3 Mn) [.int q.1,.int q.2.1,.int q.2.2]=.ok [.str (dg q.1.toNat),.str (dg q.2.1.toNat),.str (dg q.2.2.toNat)]:=by
  simp[B4,cG,cF,DE,Mn,s0,s1,s2]
 have j:=S5 hp h;have sq:=NS b q;obtain⟨a1,a2⟩:=OY hp h s;have i0:=gP s;have i1:=gO s;generalize Be b q=Q at *;generalize sI s=S at *;simp[MD,Df.run,B8,sq,e,j,i0,i1,a1,a2,-GZ]
noncomputable def cl7(s:Ai):Af:=if s=Ab then 2 else 1
noncomputable def obD(p:Ah)(s:Ai)(q:R3):D:=.obj (cl7 s) [("p",.int p),("triple",Be Ab q)]
def Rj(Z:Gam):Prop:=∀(p:Ah)(s:Ai)(q:R3),Z.F 920 [obD p s q]=.ok (Be Ab q)
theorem Of(p:Ah)(s:Ai)(q:R3):ofD (obD p s q) (Ay "triple")=.ok (Be Ab q):=rfl
theorem Z_0(Z:Gam)(p:Ah)(s:Ai)(q:R3):Mx.run Z [obD p s q]=.ok (Be Ab q):=by
 have e:=Of p s q;generalize obD p s q=o at *;simp[Mx,Df.run,B8,e]
def Jb(Z:Gam):Prop:=∀(p:Ah)(s:Ai)(q:R3),P4 p->In3 p q->Z.F (if s=Ab then 932 else 931) [obD p s q]=.ok (.str (tq s q))
theorem kJ(hr:NT Z)(p:Ah)(q:R3)(hp:P4 p)(h:In3 p q):MA.run Z [obD p Ad q]=.ok (.str (tq Ad q)):=by
 have e:=Of p Ad q;have r:=hr p q hp h;obtain⟨a1,a2⟩:=OY hp h Ad;have b0:br0 Ad=Ay "(" := rfl
 have b1:br1 Ad=Ay ")" := rfl
 rw[b0]at a1 a2;rw[b1]at a2;generalize obD p Ad q=o at *;generalize Be Ab q=Q at *;simp[MA,Df.run,B8,e,r,a1,a2,-GZ]
theorem kI(hr:NT Z)(p:Ah)(q:R3)(hp:P4 p)(h:In3 p q):Mt.run Z [obD p Ab q]=.ok (.str (tq Ab q)):=by
 have e:=Of p Ab q;have r:=hr p q hp h;obtain⟨a1,a2⟩:=OY hp h Ab;have b0:br0 Ab=Ay "[" := rfl
 have b1:br1 Ab=Ay "]" := rfl
 rw[b0]at a1 a2;rw[b1]at a2;generalize obD p Ab q=o at *;generalize Be Ab q=Q at *;simp[Mt,Df.run,B8,e,r,a1,a2,-GZ]
def Fm(p:Ah)(q a:R3):Prop:=∃ l u,C7 p (tri q)=Aa l/\HJ p l u/\fmI p u (tri q)=tri a
def Ta(Z:Gam):Prop:=∀(p:Ah)(b:Ai)(q a:R3),P4 p->Fm p q a->Z.F 910 [.int p,Be b q]=.ok (.tup [.int p,Be Ab a])
theorem kZ(hf:Nw Z)(b:Ai)(hp:P4 p)(h:Fm p q a):Z.F 17 [.int p,Be b q]=.ok (Be Ab a):=by
 obtain⟨l,u,h1,h2,h3⟩:=h;have e:=hf p b (tri q) l u hp h1 h2;rw[h3]at e;exact e
theorem jC(hf:Nw Z)(p:Ah)(b:Ai)(q a:R3)(hp:P4 p)(h:Fm p q a):inC.run Z [.int p,Be b q]=.ok (.tup [.int p,Be Ab a]):=by
 have e:=kZ hf b hp h;generalize Be b q=Q at *;generalize Be Ab a=A at *;simp[inC,Df.run,B8,e]
def KD(Z:Gam):Prop:=∀(p:Ah)(s b:Ai)(q a:R3),P4 p->Fm p q a->Z.F (900+cl7 s) [.int p,Be b q]=.ok (obD p s a)
theorem SK(hi:Ta Z)(c:Af)(p:Ah)(b:Ai)(q a:R3)(hp:P4 p)(h:Fm p q a):(mkC c).run Z [.int p,Be b q]=.ok (.obj c [("p",.int p),("triple",Be Ab a)]):=by
 have e:=hi p b q a hp h;have m:D4 c (.tup [.int p,Be Ab a])=.ok (.obj c [("p",.int p),("triple",Be Ab a)]):=rfl;generalize Be b q=Q at *;generalize Be Ab a=A at *;simp[mkC,Df.run,B8,e,m,noX]
end
section
variable{Z:Gam}
theorem SZ{body:D->Rho->O}(I:Rho->Prop)(x:Af):∀(l:Ac Af),(∀ j∈l,∀ U,I U->(j=x->body (.int (j:Ah)) U=.ret (.int (x:Ah)) Ad)/\(j≠x->∃ U',body (.int (j:Ah)) U=.next U'/\I U'))->x∈l->∀ U,I U->Ci body (l.map fun(k:Af)=>D.int (k:Ah)) U=.ret (.int (x:Ah)) Ad
 |[],_,hx,_,_=>absurd hx (by simp)
 |j::l,h,hx,U,hI=>by
  obtain⟨h1,h2⟩:=h j (AC ..) U hI;show (body (.int (j:Ah)) U).turn _=_;by_cases e:j=x
  .rw[h1 e];rfl
  .obtain⟨U',e1,I'⟩:=h2 e;rw[e1];exact SZ I x l (λk hk=>h k (Aw _ hk)) ((AG.mp hx).resolve_left (CV e)) U' I'
def S9(Z:Gam):Prop:=∀(p x:Ah),P4 p->0<=x->x<p->Z.F 33 [.int p,.str (dg x.toNat)]=.ok (.int x)
theorem jA(Z:Gam)(p x:Ah)(hp:P4 p)(h0:0<=x)(h1:x<p):Mq.run Z [.int p,.str (dg x.toNat)]=.ok (.int x):=by
 have ph:=hp.hi;have pp:=hp.pos;obtain⟨n,rfl⟩:=Uf h0;have hn:n<11:=by omega
 have tn:((n:Ah)).toNat=n:=rfl;rw[tn];have rg:DT 0 p=.ok ((B6 p.toNat).map fun(k:Af)=>D.int (k:Ah)):=by
  rw[MH (by omega) (by omega)]
  simp[EJ]
 have key:=SZ (body:=CT Z 2 K4) (λU=>∃ s,U=[si p,sh (.str (dg n)),s]) n (B6 p.toNat) (by
  rintro j hj U ⟨s,rfl⟩;have hj':=CB.mp hj;have jl:j<11:=by omega
  have st:biD .str [.int (j:Ah)]=.ok (.str (dg j)):=Ly (by omega) (by omega)
  have eq:(dg n==dg j)=(n==j):=fX n hn j jl;refine⟨λe=>?_,λe=>⟨[si p,sh (.str (dg n)),si (j:Ah)],?_,_,rfl⟩⟩
  .subst e;generalize dg j=dj at *;simp[CT,K4,st,DF]
  .have ne:dg n≠dg j:=λz=>by
    rw[z]at eq;have:(n==j)=Ab:=by rw[<-eq];simp
    exact e (by have:=eq_of_beq this;exact this.symm)
   generalize dg j=dj at *;generalize dg n=dn at *;simp[CT,K4,st,ne]) (CB.mpr (by omega)) [si p,sh (.str (dg n)),Ae] ⟨_,rfl⟩
 generalize dg n=dn at *;simp[Mq,Df.run,B8,rg,key]
def Sq(Z:Gam):Prop:=∀(p:Ah)(q:R3),P4 p->In3 p q->Z.F 34 [.int p,.lst [.str (dg q.1.toNat),.str (dg q.2.1.toNat),.str (dg q.2.2.toNat)]]=.ok (Be Ad q)
theorem fB(hr:S9 Z)(p:Ah)(q:R3)(hp:P4 p)(h:In3 p q):Ms.run Z [.int p,.lst [.str (dg q.1.toNat),.str (dg q.2.1.toNat),.str (dg q.2.2.toNat)]]=.ok (Be Ad q):=by
 have e1:=hr p q.1 hp h.1.1 h.1.2;have e2:=hr p q.2.1 hp h.2.1.1 h.2.1.2;have e3:=hr p q.2.2 hp h.2.2.1 h.2.2.2;generalize dg q.1.toNat=d1 at *;generalize dg q.2.1.toNat=d2 at *;generalize dg q.2.2.toNat=d3 at *;have e:B4 (cG Z [si p,sh (.lst [.str d1,.str d2,.str d3]),Ae,Ae] 3 DE) (cF Z [si p,sh (.lst [.str d1,.str d2,.str d3]),Ae,Ae] 3 Ml) [.str d1,.str d2,.str d3]=.ok [.int q.1,.int q.2.1,.int q.2.2]:=by
  simp[B4,cG,cF,DE,Ml,e1,e2,e3]
 have ci:Bs .In .non (.lst [.int q.1,.int q.2.1,.int q.2.2])=.ok (.bl Ad):=rfl;simp[Ms,Df.run,B8,e,ci];rfl
def NU(Z:Gam):Prop:=∀(p r:Ah)(s:Ai)(q a:R3),P4 p->In3 p q->Fm p q a->Z.F 35 [.int p,.str (tq s q),.int r]=.ok (obD p s a)
theorem nZ(hi:In3 p q)(h:Fm p q a):biD .any [Be Ad q]=.ok (.bl Ab):=by
 obtain⟨l,u,h1,_⟩:=h;have:(q.1 != 0||(q.2.1 != 0||(q.2.2 != 0||false)))=Ab:=by
  rw[<-Bool.not_eq_false];intro z;simp only[Bool.or_eq_false_iff,bne_eq_false_iff_eq]at z;have:C7 p (tri q)=Ae:=Py.mpr λx hx=>by
   simp only[tri,AG,CU,FW]at hx;rcases hx with rfl|rfl|rfl
   .rw[z.1];exact Fa p
   .rw[z.2.1];exact Fa p
   .rw[z.2.2.1];exact Fa p
  rw[this]at h1;cases h1
 show R.ok (D.bl (q.1 != 0||(q.2.1 != 0||(q.2.2 != 0||false))))=_;rw[this]
theorem nW:∀ s:Ai,(br0 s++br1 s=Ay "()")↔s=Ad:=by decide+kernel
theorem nV:∀ s:Ai,(br0 s++br1 s=Ay "[]")↔s=Ab:=by decide+kernel
theorem fE(hr:Sq Z)(hm:KD Z)(p r:Ah)(s:Ai)(q a:R3)(hp:P4 p)(h:In3 p q)(hf:Fm p q a):Lh.run Z [.int p,.str (tq s q),.int r]=.ok (obD p s a):=by
 have t:=NZ hp h;have e1:=hr p q hp h;have an:=nZ h hf;have mk:=hm p s Ad q a hp hf;have i0:CN (.str (tq s q)) (.int 0)=.ok (.str (br0 s)):=t.i0 s;have i1:CN (.str (tq s q)) (.int (-1))=.ok (.str (br1 s)):=t.i1 s;have sl:slD (.str (tq s q)) (Aa 1) (Aa (-1))=.ok (.str (jq q)):=by
  have hc:Gf (tq s q) (Aa 1) (Aa (-1))=jq q:=t.cut s;have z1:B5 (tq s q).length=Ab:=sz7 (by have:=t.tl s;exact Bw this (by decide))
  have z2:B5 (jq q).length=Ab:=sz7 (by have:=t.ln;exact Bw this (by decide))
  show (if (B5 (tq s q).length&&B5 (Gf (tq s q) (Aa 1) (Aa (-1))).length)=Ab then R.ok (D.str (Gf (tq s q) (Aa 1) (Aa (-1)))) else .bad)=_
  rw[hc,z1,z2];rfl
 have sp:biD .ssplit [.str (jq q),.str (Ay " ")]=.ok (.lst [.str (dg q.1.toNat),.str (dg q.2.1.toNat),.str (dg q.2.2.toNat)]):=by
  have hs:DL (jq q) sp7=[dg q.1.toNat,dg q.2.1.toNat,dg q.2.2.toNat]:=t.spl;have ho:HG (jq q) sp7=Ab:=t.spo;show (if (!(sp7.length==0)&&HG (jq q) sp7)=Ab then R.ok (D.lst ((DL (jq q) sp7).map D.str)) else .bad)=_
  rw[hs,ho];rfl
 have ad:CH .Add (.str (br0 s)) (.str (br1 s))=.ok (.str (br0 s++br1 s)):=by
  rw[GZ,AA (sz7 (by have:=Ry s;omega))]
 have c1:=nW s;have c2:=nV s;have ne:¬ Ay "[]" = Ay "()" := by decide+kernel
 have ln:biD .len [Be Ad q]=.ok (.int 3):=rfl;have is:Bs .Is (Be Ad q) .non=.ok (.bl Ad):=rfl;generalize tq s q=T at *;generalize jq q=J at *;generalize dg q.1.toNat=d1 at *;generalize dg q.2.1.toNat=d2 at *;generalize dg q.2.2.toNat=d3 at *;generalize br0 s++br1 s=BB at *;generalize br0 s=B0 at *;generalize br1 s=B1 at *;generalize Be Ad q=Q at *;cases s with
 |false=>
  replace c1:=c1.mpr rfl;have mk:Z.F 901 [.int p,Q]=.ok (obD p Ad a):=mk;generalize obD p Ad a=o at *;simp[Lh,Df.run,B8,sl,sp,e1,is,ln,an,i0,i1,ad,c1,mk,DF,slE,-GZ]
 |true=>
  replace c2:=c2.mpr rfl;have c1:¬ BB=Ay "()" := λz=>nomatch c1.mp z
  have mk:Z.F 902 [.int p,Q]=.ok (obD p Ab a):=mk;generalize obD p Ab a=o at *;simp[Lh,Df.run,B8,sl,sp,e1,is,ln,an,i0,i1,ad,ne,c2,mk,DF,slE,-GZ]
def LF(Z:Gam):Prop:=∀(p:Ah)(s:Ai)(q a:R3),P4 p->In3 p q->Fm p q a->Z.F 36 [.int p,.str (tq s q)]=.ok (obD p s a)
theorem dJ(hr:NU Z)(p:Ah)(s:Ai)(q a:R3)(hp:P4 p)(h:In3 p q)(hf:Fm p q a):MI.run Z [.int p,.str (tq s q)]=.ok (obD p s a):=by
 have e:=hr p 0 s q a hp h hf;generalize obD p s a=o at *;generalize tq s q=T at *;simp[MI,Df.run,B8,e]
abbrev Th:=Ai×R3×Ah
noncomputable def obT(p:Ah)(t:Th):D:=obD p t.1 t.2.1
noncomputable def txT(φ:Th->R3)(t:Th):D:=.str (tq t.1 (φ t))
def Sr(Z:Gam):Prop:=∀(p:Ah)(φ:Th->R3)(l:Ac Th),P4 p->(∀ t∈l,In3 p (φ t)/\Fm p (φ t) t.2.1)->Z.F 37 [.int p,.lst (l.map (txT φ))]=.ok (.lst (l.map (obT p)))
theorem Qv{g:D->R Ai}{f:D->R D}{φ ψ:Th->D}:∀(l:Ac Th)(j:Ah),(∀ t∈l,∀ i:Ah,g (.tup [.int i,φ t])=.ok Ab/\f (.tup [.int i,φ t])=.ok (ψ t))->B4 g f (Cm j (l.map φ))=.ok (l.map ψ)
 |[],_,_=>rfl
 |t::l,j,h=>by
  obtain⟨h1,h2⟩:=h t (AC ..) j;show (g (.tup [.int j,φ t])).bind _=_;rw[h1,R.bind_ok,AA rfl,h2,R.bind_ok];show (B4 g f (Cm (j+1) (l.map φ))).bind _=_;rw[Qv l (j+1) λy hy=>h y (Aw _ hy)]
  rfl
theorem dM(hr:NU Z)(p:Ah)(φ:Th->R3)(l:Ac Th)(hp:P4 p)(hl:∀ t∈l,In3 p (φ t)/\Fm p (φ t) t.2.1):MJ.run Z [.int p,.lst (l.map (txT φ))]=.ok (.lst (l.map (obT p))):=by
 have e:∀ X:D,B4 (cGT Z [si p,sh X,Ae,Ae] [2,3] DE) (cFT Z [si p,sh X,Ae,Ae] [2,3] Mz) (Cm 0 (l.map (txT φ)))=.ok (l.map (obT p)):=λX=>Qv l 0 λt ht i=>by
  obtain⟨h1,h2⟩:=hl t ht;have e:=hr p i t.1 (φ t) t.2.1 hp h1 h2;have e':Z.F 35 [.int p,txT φ t,.int i]=.ok (obT p t):=e;generalize txT φ t=T at *;generalize obT p t=o at *;exact⟨rfl,by simp[cFT,Mz,D2,e']⟩
 generalize l.map (txT φ)=L at *;generalize l.map (obT p)=M at *;simp[MJ,Df.run,B8,e];rfl
def Q3(Z:Gam):Prop:=∀ xs:Ac Ah,Z.F 19 [.tup (ds xs),.tup (ds xs)]=.ok (.bl Ab)
def KG(Z:Gam):Prop:=∀(p:Ah)(s:Ai)(a:R3),Z.F 41 [obD p s a,.int (sI s),Be Ab a]=.ok (.bl Ab)
theorem jB(ht:Rj Z)(hs:Q3 Z)(p:Ah)(s:Ai)(a:R3):M5.run Z [obD p s a,.int (sI s),Be Ab a]=.ok (.bl Ab):=by
 have e1:=ht p s a;have e2:Z.F 19 [Be Ab a,Be Ab a]=.ok (.bl Ab):=hs (tri a);have m:IY Z.F (Ay "told") [(1,920),(2,920)] (obD p s a)=.ok (Be Ab a):=by
  cases s<;>exact e1
 have i1:KY 1 (obD p s a)=.ok (.bl (!s)):=by cases s<;>rfl
 have i2:KY 2 (obD p s a)=.ok (.bl s):=by cases s<;>rfl
 have c1:Bs .Eq (.int (sI s)) (.int 0)=.ok (.bl (!s)):=by cases s<;>rfl
 have c2:Bs .Eq (.int (sI s)) (.int 1)=.ok (.bl s):=by cases s<;>rfl
 have n:∀ b:Ai,Bs .NotEq (.bl b) (.bl b)=.ok (.bl Ad):=by intro b;cases b<;>rfl
 have n1:=n s;have n2:=n (!s);generalize obD p s a=o at *;generalize Be Ab a=A at *;have k0:(sI s==0)=!s:=by cases s<;>rfl
 have k1:(sI s==1)=s:=by cases s<;>rfl
 generalize sI s=S at *;simp[M5,Df.run,B8,i1,i2,k0,k1,m,e2]
end
noncomputable def K8:Ss:=(.cons (.asg 4 Ad (.call 38 (.cons (.var 0) (.cons (.var 3) .nil)))) (.cons (.app 2 (.tup (.cons (.bin .Mod (.var 4) (.int 2)) (.cons (.call 40 (.cons (.bin .FloorDiv (.var 4) (.int 2)) (.cons (.var 1) .nil))) (.cons (.bin .Add (.int 1) (.bin .Mod (.bin .FloorDiv (.var 4) (.int 512)) (.bin .Sub (.var 1) (.int 1)))) .nil))))) .nil))
noncomputable def Mw:E:=(.bin .Mod (.bin .Mult (.var 9) (.var 15)) (.var 1))
noncomputable def II:Ss:=(.cons (.app 5 (.meth (Ay "shown") [(1,931),(2,932)] (.idx (.lst (.cons (.mkn 1 (.cons (.var 1) (.cons (.var 8) .nil))) (.cons (.mkn 2 (.cons (.var 1) (.cons (.var 8) .nil))) .nil))) (.var 7)))) (.cons (.app 6 (.call 42 (.cons (.var 7) (.cons (.comp Mw 15 (.e (.var 8)) DE) .nil)))) .nil))
noncomputable def Mv:E:=(.call 42 (.cons (.var 16) (.cons (.var 17) .nil)))
noncomputable def IH:Ss:=(.cons (.ife (.or (.cons (.no (.call 41 (.cons (.var 13) (.cons (.idx (.idx (.var 2) (.var 3)) (.int 0)) (.cons (.idx (.idx (.var 2) (.var 3)) (.int 1)) .nil))))) (.cons (.cmp .NotEq (.meth (Ay "shown") [(1,931),(2,932)] (.var 13)) (.idx (.var 5) (.var 3))) .nil))) (.cons (.ret (.bl Ad)) .nil) .nil) (.cons (.ife (.cmp .Eq (.bin .Mod (.var 3) (.int 5)) (.int 0)) (.cons (.asg 14 Ad (.call 36 (.cons (.var 1) (.cons (.idx (.var 10) (.var 3)) .nil)))) (.cons (.ife (.no (.call 41 (.cons (.var 14) (.cons (.idx (.idx (.var 2) (.var 3)) (.int 0)) (.cons (.idx (.idx (.var 2) (.var 3)) (.int 1)) .nil))))) (.cons (.ret (.bl Ad)) .nil) .nil) .nil)) .nil) .nil))
noncomputable def Mu:Ss:=(.cons (.asg 11 Ad (.bi .list (.cons (.var 10) .nil))) (.cons (.asg 12 Ab (.call 37 (.cons (.var 1) (.cons (.var 11) .nil)))) (.cons (.ife (.or (.cons (.no (.isi (.var 12) [.list])) (.cons (.cmp .NotEq (.bi .len (.cons (.var 12) .nil)) (.bi .len (.cons (.var 2) .nil))) (.cons (.cmp .NotEq (.var 11) (.var 10)) .nil)))) (.cons (.ret (.bl Ad)) .nil) .nil) (.cons (.forO 12 [3,13] IH) (.cons (.app 12 (.int 0)) (.cons (.ife (.cmp .NotEq (.bi .len (.cons (.call 37 (.cons (.var 1) (.cons (.var 11) .nil))) .nil)) (.bi .len (.cons (.var 2) .nil))) (.cons (.ret (.bl Ad)) .nil) .nil) .nil))))))
noncomputable def M1:Df:=⟨19,Ad,(.cons (.asg 1 Ad (.call 39 (.cons (.var 0) (.cons (.int 60) .nil)))) (.cons (.asg 2 Ab (.lst .nil)) (.cons (.fors 3 (.rng (.bin .Mod (.call 38 (.cons (.var 0) (.cons (.int 61) .nil))) (.int 31))) K8) (.cons (.asg 5 Ab (.lst .nil)) (.cons (.asg 6 Ab (.lst .nil)) (.cons (.rel 2) (.cons (.forT [7,8,9] (.e (.var 2)) II) (.cons (.rel 2) (.cons (.ife (.cmp .NotEq (.var 5) (.compT Mv [16,17,18] (.e (.var 2)) DE)) (.cons (.ret (.bl Ad)) .nil) .nil) (.cons (.rel 5) (.cons (.rel 6) (.cons (.fors 10 (.e (.tup (.cons (.var 5) (.cons (.var 6) .nil)))) Mu) (.cons (.ret (.bl Ab)) .nil)))))))))))))⟩
def Thv(p:Ah)(t:Th):Prop:=NF p t.2.1/\1<=t.2.2/\t.2.2<p
noncomputable def thD(t:Th):D:=.tup [.int (sI t.1),Be Ab t.2.1,.int t.2.2]
noncomputable def scl(p:Ah)(t:Th):R3:=(t.2.2*t.2.1.1%p,t.2.2*t.2.1.2.1%p,t.2.2*t.2.1.2.2%p)
theorem Ow(hp:P4 p):HJ p 1 1:=by
 have:=hp.lo;exact⟨by omega,by omega,Bl (by omega) (by omega)⟩
theorem LW(hp:P4 p)(h:NF p a):Fm p a a:=by
 refine⟨1,1,h.2,Ow hp,?_⟩;obtain⟨⟨⟨a0,a1⟩,⟨b0,b1⟩,c0,c1⟩,_⟩:=h;have e:∀ x:Ah,0<=x->x<p->1*(x%p)%p=x:=λx h0 h1=>by rw[DO,A5 _ (BO p),Bl h0 h1]
 simp only[fmI,tri,BY,HS,e _ a0 a1,e _ b0 b1,e _ c0 c1]
theorem RA(hp:P4 p)(t:Th):In3 p (scl p t):=by
 have p0:=hp.pos;have f:∀ x:Ah,0<=x%p/\x%p<p:=λx=>⟨BA _ (by omega),BP _ p0⟩
 exact⟨f _,f _,f _⟩
theorem fT{t:Th}(hp:P4 p)(h:Thv p t):Fm p (scl p t) t.2.1:=by
 obtain⟨hn,f1,f2⟩:=h;have hc:t.2.2%p≠0:=by rw[Bl (by omega) f2];omega
 have hl:(1:Ah)%p≠0:=hp.o1;have hf:∀ x:Ah,(t.2.2*x%p)%p=t.2.2*x%p:=λx=>A5 _ (BO p)
 obtain⟨u,h1,h2⟩:=Xz hp hc hl (Ow hp) (f:=λx=>t.2.2*x%p) hf (tri t.2.1)
 have e:=Nh hp hc (f:=λx=>t.2.2*x%p) hf (tri t.2.1)
 rw[hn.2]at e;obtain⟨l',u',g1,g2,g3⟩:=LW hp hn;rw[hn.2]at g1;cases g1;have:u'=1:=PD g2 (Ow hp);subst this;exact⟨_,u,e,h1,h2.trans g3⟩
section
variable{Z:Gam}{ns:Ac Ah}{p:Ah}
theorem bR(hm:LG Z 38 ns)(ht:So Z)(hp:P4 p)(j:Af)(l:Ac Th)(hl:l.length<=100)(s3 s4:Sl):∃ t m,Thv p t/\CT Z 3 K8 (.int (0+(j:Ah))) [sh (scr ns),si p,Aa (.lst (l.map thD),Ab),s3,s4,Ae,Ae,Ae,Ae,Ae,Ae,Ae,Ae,Ae,Ae,Ae,Ae,Ae,Ae]=.next [sh (scr ns),si p,Aa (.lst ((l++[t]).map thD),Ab),si j,si m,Ae,Ae,Ae,Ae,Ae,Ae,Ae,Ae,Ae,Ae,Ae,Ae,Ae,Ae]:=by
 obtain⟨m,m0,e⟩:=hm (j:Ah) (by omega)
 obtain⟨x,nx,e2⟩:=ht p (m/2) hp;have lo:=hp.lo;have hi:=hp.hi;have q0:1<p:=by omega
 have q1:p-1<1073741824:=by omega
 have r0:=BA (m/512) (b:=p-1) (by omega)
 have r1:=BP (m/512) (b:=p-1) (by omega)
 have es:sI (decide (m%2=1))=m%2:=by
  unfold sI b2i;by_cases z:m%2=1
  .simp[z]
  .have:m%2=0:=by omega
   simp[this]
 refine⟨(decide (m%2=1),x,1+m/512%(p-1)),m,⟨nx,(show 1<=1+m/512%(p-1) by omega),(show 1+m/512%(p-1)<p by omega)⟩,?_⟩
 have td:thD (decide (m%2=1),x,1+m/512%(p-1))=.tup [.int (m%2),Be Ab x,.int (1+m/512%(p-1))]:=by
  unfold thD;rw[es]
 have sz:B5 ((l.map thD).length+1)=Ab:=sz7 (by rw[BD];omega)
 rw[List.map_append,BY,HS,td];generalize Be Ab x=X at *;generalize l.map thD=L at *;generalize scr ns=S at *;simp[CT,K8,e,e2,C5,q0,q1,sz]
noncomputable def txA:Th->R3:=λt=>t.2.1
theorem bQ(hk:KD Z)(hs:Jb Z)(hw:LR Z)(hp:P4 p)(t:Th)(hv:Thv p t)(S T:D)(A B:Ac D)(hA:A.length<=100)(hB:B.length<=100)(s3 s4 s7 s8 s9:Sl):Iq Z [7,8,9] II (thD t) [sh S,si p,sh T,s3,s4,Aa (.lst A,Ab),Aa (.lst B,Ab),s7,s8,s9,Ae,Ae,Ae,Ae,Ae,Ae,Ae,Ae,Ae]=.next [sh S,si p,sh T,s3,s4,Aa (.lst (A++[txT txA t]),Ab),Aa (.lst (B++[txT (scl p) t]),Ab),si (sI t.1),sh (Be Ab t.2.1),si t.2.2,Ae,Ae,Ae,Ae,Ae,Ae,Ae,Ae,Ae]:=by
 have k1:=hk p Ad Ab t.2.1 t.2.1 hp (LW hp hv.1);have k2:=hk p Ab Ab t.2.1 t.2.1 hp (LW hp hv.1);have k1:Z.F 901 [.int p,Be Ab t.2.1]=.ok (obD p Ad t.2.1):=k1;have k2:Z.F 902 [.int p,Be Ab t.2.1]=.ok (obD p Ab t.2.1):=k2;have ix:DA [obD p Ad t.2.1,obD p Ab t.2.1] (sI t.1)=.ok (obD p t.1 t.2.1):=by cases t.1<;>rfl
 have sh0:=hs p t.1 t.2.1 hp hv.1.1;have me:IY Z.F (Ay "shown") [(1,931),(2,932)] (obD p t.1 t.2.1)=.ok (txT txA t):=by
  generalize hb:t.1=b at *;have tx:txT txA t=.str (tq b t.2.1):=by unfold txT txA;rw[hb]
  rw[tx];cases b<;>exact sh0
 have wr:Z.F 42 [.int (sI t.1),Be Ad (scl p t)]=.ok (txT (scl p) t):=hw p t.1 Ad (scl p t) hp (RA hp t);have p0:=hp.pos;have hi:=hp.hi;have mo:∀ x:Ah,EF t.2.2 x=Ab:=λx=>Kn (by have:=hv.2.1;omega) (by have:=hv.2.2;omega)
 have cp:∀ A' B':Ac D,B4 (cG Z [sh S,si p,sh T,s3,s4,Aa (.lst A',Ab),Aa (.lst B',Ab),si (sI t.1),sh (Be Ab t.2.1),si t.2.2,Ae,Ae,Ae,Ae,Ae,Ae,Ae,Ae,Ae] 15 DE) (cF Z [sh S,si p,sh T,s3,s4,Aa (.lst A',Ab),Aa (.lst B',Ab),si (sI t.1),sh (Be Ab t.2.1),si t.2.2,Ae,Ae,Ae,Ae,Ae,Ae,Ae,Ae,Ae] 15 Mw) [.int t.2.1.1,.int t.2.1.2.1,.int t.2.1.2.2]=.ok [.int (t.2.2*t.2.1.1%p),.int (t.2.2*t.2.1.2.1%p),.int (t.2.2*t.2.1.2.2%p)]:=λA' B'=>by
  simp[B4,cG,cF,DE,Mw,mo,p0]
 have sq:=NS Ab t.2.1;have za:B5 (A.length+1)=Ab:=sz7 (by omega)
 have zb:B5 (B.length+1)=Ab:=sz7 (by omega)
 have rq:Be Ad (scl p t)=.lst [.int (t.2.2*t.2.1.1%p),.int (t.2.2*t.2.1.2.1%p),.int (t.2.2*t.2.1.2.2%p)]:=rfl;rw[rq]at wr;unfold thD;generalize Be Ab t.2.1=Q at *;generalize obD p t.1 t.2.1=o at *;generalize obD p Ad t.2.1=o1 at *;generalize obD p Ab t.2.1=o2 at *;generalize txT txA t=x1 at *;generalize txT (scl p) t=x2 at *;generalize sI t.1=s at *;simp[Iq,D2,DD,II,k1,k2,ix,me,C5,za,sq,cp,wr,zb,noX]
theorem Q4(hk:KD Z)(hs:Jb Z)(hw:LR Z)(hp:P4 p)(S T:D)(s3 s4:Sl):∀(l:Ac Th),(∀ t∈l,Thv p t)->∀(A B:Ac D)(s7 s8 s9:Sl),A.length+l.length<=100->B.length+l.length<=100->∃ s7' s8' s9',Ci (Iq Z [7,8,9] II) (l.map thD) [sh S,si p,sh T,s3,s4,Aa (.lst A,Ab),Aa (.lst B,Ab),s7,s8,s9,Ae,Ae,Ae,Ae,Ae,Ae,Ae,Ae,Ae]=.next [sh S,si p,sh T,s3,s4,Aa (.lst (A++l.map (txT txA)),Ab),Aa (.lst (B++l.map (txT (scl p))),Ab),s7',s8',s9',Ae,Ae,Ae,Ae,Ae,Ae,Ae,Ae,Ae]
 |[],_,A,B,s7,s8,s9,_,_=>⟨s7,s8,s9,by simp[Ci]⟩
 |t::l,hv,A,B,s7,s8,s9,hA,hB=>by
  rw[AZ]at hA hB;have e:=bQ hk hs hw hp t (hv t (AC ..)) S T A B (by omega) (by omega) s3 s4 s7 s8 s9
  obtain⟨a,b,c,ih⟩:=Q4 hk hs hw hp S T s3 s4 l (λu hu=>hv u (Aw _ hu)) (A++[txT txA t]) (B++[txT (scl p) t]) (si (sI t.1)) (sh (Be Ab t.2.1)) (si t.2.2) (by rw[BQ,C8];omega) (by rw[BQ,C8];omega)
  refine⟨a,b,c,?_⟩;show (Iq Z [7,8,9] II (thD t) _).turn (Ci (Iq Z [7,8,9] II) (l.map thD))=_;rw[e];show Ci (Iq Z [7,8,9] II) (l.map thD) _=_;rw[ih,BY,BY,Uq,Uq];rfl
end
section
variable{Z:Gam}{p:Ah}
theorem getL_at{xs:Ac D}{k:Af}{d:D}(h:xs[k]?=Aa d):DA xs (k:Ah)=.ok d:=by
 have hl:=(AY.mp h).1;have e:plD xs.length (k:Ah)=Aa k:=by
  unfold plD;simp;omega
 unfold DA;rw[e];dsimp only;rw[h]
theorem bP(hi:KG Z)(hs:Jb Z)(ho:LF Z)(hp:P4 p)(φ:Th->R3)(t:Th)(hv:Thv p t)(hq:In3 p (φ t)/\Fm p (φ t) t.2.1)(k:Af)(S T X Y_ R0:D)(hT:CN T (.int k)=.ok (thD t))(hX:CN X (.int k)=.ok (txT txA t))(hR:CN R0 (.int k)=.ok (txT φ t))(s3 s4 s7 s8 s9 s11 s13 s14:Sl):∃ s14',IZ Z 12 [3,13] IH (.tup [.int k,obT p t]) [sh S,si p,sh T,s3,s4,sh X,sh Y_,s7,s8,s9,sh R0,s11,Aa (.non,Ab),s13,s14,Ae,Ae,Ae,Ae]=.next [sh S,si p,sh T,si k,s4,sh X,sh Y_,s7,s8,s9,sh R0,s11,Aa (.non,Ab),sh (obT p t),s14',Ae,Ae,Ae,Ae]:=by
 have e1:Z.F 41 [obT p t,.int (sI t.1),Be Ab t.2.1]=.ok (.bl Ab):=hi p t.1 t.2.1;have sh0:=hs p t.1 t.2.1 hp hv.1.1;have me:IY Z.F (Ay "shown") [(1,931),(2,932)] (obT p t)=.ok (txT txA t):=by
  have ob:obT p t=obD p t.1 t.2.1:=rfl;rw[ob];generalize hb:t.1=b at *;have tx:txT txA t=.str (tq b t.2.1):=by unfold txT txA;rw[hb]
  rw[tx];cases b<;>exact sh0
 have on:Z.F 36 [.int p,txT φ t]=.ok (obT p t):=ho p t.1 (φ t) t.2.1 hp hq.1 hq.2;have fl:flD 5 (txT txA t)=Ab:=rfl;have eq:eqD (txT txA t) (txT txA t)=Ab:=by
  show (tq t.1 (txA t)==tq t.1 (txA t))=Ab;simp
 have t0:CN (thD t) (.int 0)=.ok (.int (sI t.1)):=rfl;have t1:CN (thD t) (.int 1)=.ok (Be Ab t.2.1):=rfl;generalize obT p t=o at *;generalize txT φ t=x1 at *;generalize txT txA t=x2 at *;generalize thD t=th at *;generalize Be Ab t.2.1=Q at *;generalize sI t.1=s at *;by_cases z:(k:Ah)%5=0
 .refine⟨sh o,?_⟩;simp[IZ,EK,D2,DD,IH,hT,hX,hR,t0,t1,e1,me,fl,eq,on,z]
 .refine⟨s14,?_⟩;simp[IZ,EK,D2,DD,IH,hT,hX,hR,t0,t1,e1,me,fl,eq,on,z]
theorem Rv(hi:KG Z)(hs:Jb Z)(ho:LF Z)(hp:P4 p)(φ:Th->R3)(S T X Y_ R0:D)(s4 s7 s8 s9 s11:Sl)(l:Ac Th)(hv:∀ t∈l,Thv p t/\In3 p (φ t)/\Fm p (φ t) t.2.1)(hT:∀(k:Af) t,l[k]?=Aa t->CN T (.int k)=.ok (thD t))(hX:∀(k:Af) t,l[k]?=Aa t->CN X (.int k)=.ok (txT txA t))(hR:∀(k:Af) t,l[k]?=Aa t->CN R0 (.int k)=.ok (txT φ t)):∀(l2 l1:Ac Th),l=l1++l2->∀(k:Ah),k=l1.length->∀ s3 s13 s14:Sl,∃ s3' s13' s14',Ci (IZ Z 12 [3,13] IH) (Cm k (l2.map (obT p))) [sh S,si p,sh T,s3,s4,sh X,sh Y_,s7,s8,s9,sh R0,s11,Aa (.non,Ab),s13,s14,Ae,Ae,Ae,Ae]=.next [sh S,si p,sh T,s3',s4,sh X,sh Y_,s7,s8,s9,sh R0,s11,Aa (.non,Ab),s13',s14',Ae,Ae,Ae,Ae]
 |[],_,_,_,_,s3,s13,s14=>⟨s3,s13,s14,rfl⟩
 |t::l2,l1,e,k,hk,s3,s13,s14=>by
  subst hk;have hg:l[l1.length]?=Aa t:=by rw[e];simp
  have hm:t∈l:=by rw[e];simp
  obtain⟨s,e1⟩:=bP hi hs ho hp φ t (hv t hm).1 (hv t hm).2 l1.length S T X Y_ R0 (hT _ _ hg) (hX _ _ hg) (hR _ _ hg) s3 s4 s7 s8 s9 s11 s13 s14;obtain⟨a,b,c,ih⟩:=Rv hi hs ho hp φ S T X Y_ R0 s4 s7 s8 s9 s11 l hv hT hX hR l2 (l1++[t]) (by rw[e];simp) ((l1.length:Ah)+1) (by simp) (si l1.length) (sh (obT p t)) s
  refine⟨a,b,c,?_⟩;show (IZ Z 12 [3,13] IH (.tup [.int (l1.length:Ah),obT p t]) _).turn (Ci (IZ Z 12 [3,13] IH) (Cm ((l1.length:Ah)+1) (l2.map (obT p))))=_;rw[e1];exact ih
structure Rw (Z:Gam) (p:Ah) (φ:Th->R3) (l:Ac Th) (R0:D):Prop where
 ix:∀(k:Af) t,l[k]?=Aa t->CN R0 (.int k)=.ok (txT φ t)
 all:Z.F 37 [.int p,R0]=.ok (.lst (l.map (obT p)))
 li:biD .list [R0]=.ok R0
 fl:flD 5 R0=Ab
 eq:eqD R0 R0=Ab
 ok:∀ t∈l,In3 p (φ t)/\Fm p (φ t) t.2.1
theorem Sa(φ:Th->R3):∀ l:Ac Th,eqDs (l.map (txT φ)) (l.map (txT φ))=Ab
 |[]=>rfl
 |t::l=>by
  show ((tq t.1 (φ t)==tq t.1 (φ t))&&eqDs (l.map (txT φ)) (l.map (txT φ)))=Ab;rw[Sa φ l];simp
theorem SU(ha:Sr Z)(hp:P4 p)(φ:Th->R3)(l:Ac Th)(h:∀ t∈l,In3 p (φ t)/\Fm p (φ t) t.2.1):Rw Z p φ l (.lst (l.map (txT φ))):=by
 refine⟨λk t e=>getL_at (by rw[CO,e];rfl),ha p φ l hp h,rfl,?_,Sa φ l,h⟩
 show (l.map (txT φ)).all (flD 4)=Ab;rw[BV];intro x hx;obtain⟨t,_,rfl⟩:=Gx.mp hx;rfl
theorem Ru(hi:KG Z)(hs:Jb Z)(ho:LF Z)(hfr:Z.fr 37=Ab)(hp:P4 p)(φ:Th->R3)(l:Ac Th)(hl:l.length<=100)(hv:∀ t∈l,Thv p t)(S T X Y_ R0:D)(hr:Rw Z p φ l R0)(hT:∀(k:Af) t,l[k]?=Aa t->CN T (.int k)=.ok (thD t))(hTl:biD .len [T]=.ok (.int l.length))(hX:∀(k:Af) t,l[k]?=Aa t->CN X (.int k)=.ok (txT txA t))(s3 s4 s7 s8 s9 s10 s11 s12 s13 s14:Sl):∃ s3' s11' s12' s13' s14',CT Z 10 Mu R0 [sh S,si p,sh T,s3,s4,sh X,sh Y_,s7,s8,s9,s10,s11,s12,s13,s14,Ae,Ae,Ae,Ae]=.next [sh S,si p,sh T,s3',s4,sh X,sh Y_,s7,s8,s9,sh R0,s11',s12',s13',s14',Ae,Ae,Ae,Ae]:=by
 obtain⟨a,b,c,lp⟩:=Rv hi hs ho hp φ S T X Y_ R0 s4 s7 s8 s9 (sh R0) l (λt ht=>⟨hv t ht,hr.ok t ht⟩) hT hX hr.ix l [] rfl 0 rfl s3 s13 s14
 have e1:=hr.all;have e2:=hr.li;have e3:=hr.fl;have e4:=hr.eq;have hM:(l.map (obT p)).length=l.length:=BD ..;have sz:B5 (l.length+1)=Ab:=sz7 (by omega)
 generalize l.map (obT p)=M at *;generalize l.length=n at *;refine⟨a,sh R0,Aa (.lst (M++[.int 0]),Ab),b,c,?_⟩;simp[CT,Mu,e1,e2,e3,e4,DF,hfr,hM,hTl,YH,C5,lp,Hz,EK,sz,kiD,Ds]
end
structure H07 (Z:Gam) (ns:Ac Ah):Prop where
 mi:LG Z 38 ns
 pr:iD Z ns
 tr:So Z
 ma:KD Z
 sh:Jb Z
 wr:LR Z
 is:KG Z
 on:LF Z
 al:Sr Z
 fr:Z.fr 37=Ab
theorem Q8{g:D->R Ai}{f:D->R D}{ψ:Th->D}:∀(l:Ac Th),(∀ t∈l,g (thD t)=.ok Ab/\f (thD t)=.ok (ψ t))->B4 g f (l.map thD)=.ok (l.map ψ)
 |[],_=>rfl
 |t::l,h=>by
  obtain⟨h1,h2⟩:=h t (AC ..);show (g (thD t)).bind _=_;rw[h1,R.bind_ok,AA rfl,h2,R.bind_ok];show (B4 g f (l.map thD)).bind _=_;rw[Q8 l λy hy=>h y (Aw _ hy)]
  rfl
theorem fV(h:H07 Z ns):M1.run Z [scr ns]=.ok (.bl Ab):=by
  obtain⟨p,hp,ep⟩:=h.pr 60 (by decide)
  obtain⟨m,m0,em⟩:=h.mi 61 (by decide)
  have r0:=BA m (b:=31) (by decide)
  have r1:=BP m (b:=31) (by decide)
  have rg:DT 0 (m%31)=.ok (EJ 0 (m%31).toNat):=MH r0 (by omega)
  obtain⟨U1,e1,l,hl,hv,s3,s4,rfl⟩:=Pj (body:=CT Z 3 K8) (λn U=>∃ l:Ac Th,l.length=n/\(∀ t∈l,Thv p t)/\∃ s3 s4:Sl,U=[sh (scr ns),si p,Aa (.lst (l.map thD),Ab),s3,s4,Ae,Ae,Ae,Ae,Ae,Ae,Ae,Ae,Ae,Ae,Ae,Ae,Ae,Ae]) (EJ 0 (m%31).toNat) 0 [sh (scr ns),si p,Aa (.lst [],Ab),Ae,Ae,Ae,Ae,Ae,Ae,Ae,Ae,Ae,Ae,Ae,Ae,Ae,Ae,Ae,Ae] ⟨[],rfl,λ_ z=>absurd z (by simp),Ae,Ae,rfl⟩ (by
    rintro i x hx U ⟨l,hl,hv,s3,s4,rfl⟩;obtain⟨hi,rfl⟩:=Qp hx;obtain⟨t,m',ht,e⟩:=bR h.mi h.tr hp i l (by omega) s3 s4
    refine⟨_,e,l++[t],by rw[BQ,C8];omega,λu hu=>?_,_,_,rfl⟩
    rcases Fq.mp hu with z|z
    · exact hv u z
    · rw[Bm.mp z];exact ht)
  have hll:l.length<=40:=by rw[hl,K9];omega
  obtain⟨s7,s8,s9,e2⟩:=Q4 h.ma h.sh h.wr hp (scr ns) (.lst (l.map thD)) s3 s4 l hv [] [] Ae Ae Ae (by simp;omega) (by simp;omega)
  rw[GO,GO]at e2;have oA:∀ t∈l,In3 p (txA t)/\Fm p (txA t) t.2.1:=λt ht=>⟨(hv t ht).1.1,LW hp (hv t ht).1⟩
  have oS:∀ t∈l,In3 p (scl p t)/\Fm p (scl p t) t.2.1:=λt ht=>⟨RA hp t,fT hp (hv t ht)⟩
  have rA:=SU h.al hp txA l oA;have rS:=SU h.al hp (scl p) l oS;have cp:∀ U:Rho,U.length=19->B4 (cGT Z U [16,17,18] DE) (cFT Z U [16,17,18] Mv) (l.map thD)=.ok (l.map (txT txA)):=λU hρ=>Q8 l λt ht=>by
    have w:Z.F 42 [.int (sI t.1),Be Ab t.2.1]=.ok (txT txA t):=h.wr p t.1 Ab t.2.1 hp (hv t ht).1.1
    match U,hρ with
    |[a0,a1,a2,a3,a4,a5,a6,a7,a8,a9,a10,a11,a12,a13,a14,a15,a16,a17,a18],_=>
      unfold thD;generalize txT txA t=x at *;generalize Be Ab t.2.1=Q at *;generalize sI t.1=s at *;exact⟨rfl,by simp[cFT,Mv,D2,DD,w]⟩
  have hT:∀(k:Af) t,l[k]?=Aa t->CN (.lst (l.map thD)) (.int k)=.ok (thD t):=λk t e=>getL_at (by rw[CO,e];rfl)
  have hTl:biD .len [.lst (l.map thD)]=.ok (.int l.length):=by
    show R.ok (D.int ((l.map thD).length:Af))=_;rw[BD]
  obtain⟨t3,t11,t12,t13,t14,e3⟩:=Ru h.is h.sh h.on h.fr hp txA l (by omega) hv (scr ns) (.lst (l.map thD)) (.lst (l.map (txT txA))) (.lst (l.map (txT (scl p)))) _ rA hT hTl rA.ix s3 s4 s7 s8 s9 Ae Ae Ae Ae Ae
  obtain⟨u3,u11,u12,u13,u14,e4⟩:=Ru h.is h.sh h.on h.fr hp (scl p) l (by omega) hv (scr ns) (.lst (l.map thD)) (.lst (l.map (txT txA))) (.lst (l.map (txT (scl p)))) _ rS hT hTl rA.ix t3 s4 s7 s8 s9 (sh (.lst (l.map (txT txA)))) t11 t12 t13 t14
  have fA:=rA.fl;have qA:=rA.eq;have cq:=cp [sh (scr ns),si p,sh (.lst (l.map thD)),s3,s4,Aa (.lst (l.map (txT txA)),Ab),Aa (.lst (l.map (txT (scl p))),Ab),s7,s8,s9,Ae,Ae,Ae,Ae,Ae,Ae,Ae,Ae,Ae] rfl
  clear hT hTl rA rS cp oA oS
  generalize l.map (txT (scl p))=Y_ at *;generalize l.map (txT txA)=X at *;generalize l.map thD=L at *;generalize EJ 0 (m%31).toNat=RG at *;generalize scr ns=S at *;simp[M1,Df.run,B8,ep,em,rg,e1,DF,aK,e2,cq,fA,qA,Ci,e3,e4]
noncomputable def nN:Af->Ac Af:=λ_=>[]
noncomputable def nM:Af->Ac D->R Ex:=λ_ _=>.bad
noncomputable def Q07:Prg:=⟨Ab,fun
 |1=>NW
 |9=>K3
 |17=>K7
 |25=>Nl
 |33=>Mq
 |34=>Ms
 |35=>Lh
 |36=>MI
 |37=>MJ
 |38=>Ka
 |39=>M2
 |40=>Kd
 |19=>Mo
 |41=>M5
 |42=>MD
 |43=>M1
 |900=>mkC 0
 |901=>mkC 1
 |902=>mkC 2
 |910=>inC
 |920=>Mx
 |931=>MA
 |932=>Mt
 | _=>⟨0,Ad,.nil⟩,λ_=>.non,nN,nM⟩
theorem lB(ns:Ac Ah)(hl:ns.length<=63):(gam Q07 8).F 43 [scr ns]=.ok (.bl Ab):=by
 have rs:∀ n,LD (gam Q07 (n+1)):=λn p m hp=>fD (gam Q07 n) p m hp
 have tu:∀ n,M4 (gam Q07 (n+2)):=λn p m hp z=>WZ (rs n) p m hp z
 have fo:∀ n,Nw (gam Q07 (n+3)):=λn p b xs l t hp e it=>Z_1 (rs (n+1)) (tu n) hp e it
 have ii:∀ n,Ta (gam Q07 (n+4)):=λn p b q a hp h=>jC (fo n) p b q a hp h
 have ma:∀ n,KD (gam Q07 (n+5)):=λn p s b q a hp h=>by
  cases s with
  |false=>exact SK (ii n) 1 p b q a hp h
  |true=>exact SK (ii n) 2 p b q a hp h
 have ro:∀ n,NT (gam Q07 (n+1)):=λn p q hp h=>fC (gam Q07 n) p q hp h
 have sw:∀ n,Jb (gam Q07 (n+2)):=λn p s q hp h=>by
  cases s with
  |false=>exact kJ (ro n) p q hp h
  |true=>exact kI (ro n) p q hp h
 have wr:∀ n,LR (gam Q07 (n+1)):=λn p s b q hp h=>kH (gam Q07 n) p s b q hp h
 have to':∀ n,Rj (gam Q07 (n+1)):=λn p s q=>Z_0 (gam Q07 n) p s q
 have sa:∀ n,Q3 (gam Q07 (n+1)):=λn xs=>eZ (gam Q07 n) xs
 have is:∀ n,KG (gam Q07 (n+2)):=λn p s a=>jB (to' n) (sa n) p s a
 have rr:∀ n,S9 (gam Q07 (n+1)):=λn p x hp h0 h1=>jA (gam Q07 n) p x hp h0 h1
 have rt:∀ n,Sq (gam Q07 (n+2)):=λn p q hp h=>fB (rr n) p q hp h
 have ra:∀ n,NU (gam Q07 (n+6)):=λn p r s q a hp h hf=>fE (rt (n+3)) (ma n) p r s q a hp h hf
 have mi:∀ n,LG (gam Q07 (n+1)) 38 ns:=λn k hk=>dL (gam Q07 n) ns hl k hk
 exact fV (Z:=gam Q07 7) ⟨mi 6,λk hk=>dI (mi 5) k hk,λp n hp=>eY (gam Q07 6) p n hp,ma 2,sw 5,wr 6,is 5,λp s q a hp h hf=>dJ (ra 0) p s q a hp h hf,λp φ l hp h=>dM (ra 0) p φ l hp h,rfl⟩
end OvC
namespace OvC
open PySem PySem.Spec PyProof.Rows Ov L2
variable{l:E9}
noncomputable def tp07(i:Af):AD:=PySem.Challenge.pw_ovalfield_k07_whole_read_again.main.body.getD i (.Pass ⟨0,0,0,0⟩)
noncomputable def JP:Ac (Ag×Af×Af):=([("rest",1,2),("turned_over",9,2),("one_form",17,2),("row_of",25,1),("rest_read",33,2),("rests_read",34,2),("read_at",35,3),("read_one",36,2),("read_all",37,2),("_law_mixed",38,2),("_law_prime",39,2),("_law_triple",40,2),("_law_same_tuple",19,2),("_law_is",41,3),("_law_written",42,2),("law",43,1),("1.told",920,1),("2.told",920,1),("1.shown",931,1),("2.shown",932,1)]:Ac (Ag×Af×Af))
noncomputable def JV:Ac Ag:=["all", "any", "bool", "enumerate", "int", "isinstance", "len", "list", "max", "min", "range", "str", "tuple"]
noncomputable def JJ:Ac (Ag×Af):=[]
noncomputable def JG:Ac (Ag×Af):=[]
noncomputable def JO:Ac (Ag×Af):=[]
noncomputable abbrev C07(h:Ai)(n:Af)(N:Ac Ag)(i d:Af):Ai:=FE 80 h JP JV JJ JG JO (N.take n) N (tp07 i) (Q07.defs d)
theorem fP:C07 Ad 2 ["p", "n"] 7 1=Ab:=by decide+kernel
theorem fO:C07 Ad 2 ["p", "n", "turned"] 8 9=Ab:=by decide+kernel
theorem fN:C07 Ad 2 ["p", "numbers", "rests", "first", "factor", "#5", "#6"] 10 17=Ab:=by decide+kernel
theorem fM:C07 Ad 1 ["triple", "#1"] 11 25=Ab:=by decide+kernel
theorem fL:C07 Ad 2 ["p", "word", "number"] 16 33=Ab:=by decide+kernel
theorem fK:C07 Ad 2 ["p", "words", "rests", "#3"] 17 34=Ab:=by decide+kernel
theorem fJ:C07 Ad 3 ["p", "text", "row", "rests", "brackets"] 18 35=Ab:=by decide+kernel
theorem fH:C07 Ad 2 ["p", "text"] 19 36=Ab:=by decide+kernel
theorem fG:C07 Ad 2 ["p", "texts", "#2", "#3"] 20 37=Ab:=by decide+kernel
theorem fF:C07 Ad 2 ["_law_script", "_law_k", "_law_cell", "_law_step"] 23 38=Ab:=by decide+kernel
theorem aV:C07 Ad 2 ["_law_script", "_law_k"] 24 39=Ab:=by decide+kernel
theorem aU:C07 Ad 2 ["_law_n", "_law_p"] 25 40=Ab:=by decide+kernel
theorem aS:C07 Ad 2 ["_law_found", "_law_due", "#2"] 26 19=Ab:=by decide+kernel
theorem aR:C07 Ad 3 ["_law_thing", "_law_sort_of", "_law_due"] 27 41=Ab:=by decide+kernel
theorem aQ:C07 Ad 2 ["_law_sort_of", "_law_numbers", "_law_text", "#3"] 28 42=Ab:=by decide+kernel
theorem Rc:C07 Ad 1 ["_law_script", "_law_p", "_law_things", "_law_k", "_law_mix", "_law_texts", "_law_plain", "_law_sort_of", "_law_triple_here", "_law_factor", "_law_rows", "_law_handed", "_law_found", "_law_thing", "_law_alone", "#15", "#16", "#17", "#18"] 29 43=Ab:=by decide+kernel
theorem Qx:FE 80 Ad JP JV JJ JG JO ["self"] ["self"] (Ir (tp07 12) 1) (Q07.defs 920)=Ab:=by decide+kernel
theorem YM:FE 80 Ad JP JV JJ JG JO ["self"] ["self"] (Ir (tp07 13) 0) (Q07.defs 931)=Ab:=by decide+kernel
theorem YL:FE 80 Ad JP JV JJ JG JO ["self"] ["self"] (Ir (tp07 14) 0) (Q07.defs 932)=Ab:=by decide+kernel
theorem nU:KO 80 JP JV JJ JG JO (Ir (tp07 12) 0)=Ab:=by decide+kernel
set_option maxHeartbeats 0 in
theorem all07{w:AT}{K:Fg}{h:AB}{mg:Ag->An Aj}{fa f0 f1 f2 f3 f4 f5 f6 f7 f8 f9 f10 f11 f12 f13 f14 f15:Ak}(X:K.In h)(G:h.Ns AQ mg)(hfa:mg "law" = Aa (.ref fa)){o0 o1 o2 mt ms0 ms1 ms2 fi:Ak}(a0:FnI K f0 "rest" (tp07 7))(a1:FnI K f1 "turned_over" (tp07 8))(a2:FnI K f2 "one_form" (tp07 10))(a3:FnI K f3 "row_of" (tp07 11))(a4:FnI K f4 "rest_read" (tp07 16))(a5:FnI K f5 "rests_read" (tp07 17))(a6:FnI K f6 "read_at" (tp07 18))(a7:FnI K f7 "read_one" (tp07 19))(a8:FnI K f8 "read_all" (tp07 20))(a9:FnI K f9 "_law_mixed" (tp07 23))(a10:FnI K f10 "_law_prime" (tp07 24))(a11:FnI K f11 "_law_triple" (tp07 25))(a12:FnI K f12 "_law_same_tuple" (tp07 26))(a13:FnI K f13 "_law_is" (tp07 27))(a14:FnI K f14 "_law_written" (tp07 28))(a15:FnI K f15 "law" (tp07 29))(oa0:OA K "Triple" o0 mt ms0 fi)(oa1:OA K "Point" o1 mt ms1 fi)(oa2:OA K "Line" o2 mt ms2 fi)(kt0:KtC K o0 [(o0,Ab),(o1,Ad),(o2,Ad)])(kt1:KtC K o1 [(o0,Ab),(o1,Ab),(o2,Ad)])(kt2:KtC K o2 [(o0,Ab),(o1,Ad),(o2,Ab)])(ii:InI K fi "Triple.__init__" (Ir (tp07 12) 0))(me920:MeI K mt "told" "Triple.told" (Ir (tp07 12) 1))(me931:MeI K ms1 "shown" "Point.shown" (Ir (tp07 13) 0))(me932:MeI K ms2 "shown" "Line.shown" (Ir (tp07 14) 0))(z0:A7 K AQ "all" = Aa Ae)(z1:A7 K AQ "any" = Aa Ae)(z2:A7 K AQ "bool" = Aa Ae)(z3:A7 K AQ "enumerate" = Aa Ae)(z4:A7 K AQ "int" = Aa Ae)(z5:A7 K AQ "isinstance" = Aa Ae)(z6:A7 K AQ "len" = Aa Ae)(z7:A7 K AQ "list" = Aa Ae)(z8:A7 K AQ "max" = Aa Ae)(z9:A7 K AQ "min" = Aa Ae)(z10:A7 K AQ "range" = Aa Ae)(z11:A7 K AQ "str" = Aa Ae)(z12:A7 K AQ "tuple" = Aa Ae):
  ∃ fd:Bq,(∀(s:Ao)(v:Aj),FM s fd ⟨[v],[]⟩ [("_law_script",v)])/\∀ base:AB,K.In base->base.Ns AQ mg->FnOk l.prog w K mg base (CXR l.prog w) 8 fa fd ["_law_script"] (KI K):=by
 obtain⟨_,F,e⟩:=a15;obtain⟨_,_,_,_,_,_,_,_,_,rfl,_,_⟩:=F.ex;cases hfa.symm.trans (DH X G e);have T:Tab K mg (λ_=>Ae) JP JV JJ JG JO Q07 80:=⟨lP X G oa0 oa1 oa2 kt0 kt1 kt2,lD oa0 oa1 oa2 ii nU rfl rfl rfl rfl λ_ _ _ _ _ _ _ _ _=>rfl,Zo λ_ _=>rfl,all_cons (Bo X G z0) (all_cons (Bo X G z1) (all_cons (Bo X G z2) (all_cons (Bo X G z3) (all_cons (Bo X G z4) (all_cons (Bo X G z5) (all_cons (Bo X G z6) (all_cons (Bo X G z7) (all_cons (Bo X G z8) (all_cons (Bo X G z9) (all_cons (Bo X G z10) (all_cons (Bo X G z11) (all_cons (Bo X G z12) (all_nil))))))))))))),all_nil,all_cons (Ge 2 1 (by decide+kernel) X G a0 rfl fP λ_ _ _ _ _ _ _ _=>rfl) (all_cons (Ge 2 9 (by decide+kernel) X G a1 rfl fO λ_ _ _ _ _ _ _ _=>rfl) (all_cons (Ge 2 17 (by decide+kernel) X G a2 rfl fN λ_ _ _ _ _ _ _ _=>rfl) (all_cons (Tq 1 25 (by decide+kernel) X G a3 rfl fM λ_ _ _ _ _ _ _=>rfl) (all_cons (Ge 2 33 (by decide+kernel) X G a4 rfl fL λ_ _ _ _ _ _ _ _=>rfl) (all_cons (Ge 2 34 (by decide+kernel) X G a5 rfl fK λ_ _ _ _ _ _ _ _=>rfl) (all_cons (Tp 3 35 (by decide+kernel) X G a6 rfl fJ λ_ _ _ _ _ _ _ _ _=>rfl) (all_cons (Ge 2 36 (by decide+kernel) X G a7 rfl fH λ_ _ _ _ _ _ _ _=>rfl) (all_cons (Ge 2 37 (by decide+kernel) X G a8 rfl fG λ_ _ _ _ _ _ _ _=>rfl) (all_cons (Ge 2 38 (by decide+kernel) X G a9 rfl fF λ_ _ _ _ _ _ _ _=>rfl) (all_cons (Ge 2 39 (by decide+kernel) X G a10 rfl aV λ_ _ _ _ _ _ _ _=>rfl) (all_cons (Ge 2 40 (by decide+kernel) X G a11 rfl aU λ_ _ _ _ _ _ _ _=>rfl) (all_cons (Ge 2 19 (by decide+kernel) X G a12 rfl aS λ_ _ _ _ _ _ _ _=>rfl) (all_cons (Tp 3 41 (by decide+kernel) X G a13 rfl aR λ_ _ _ _ _ _ _ _ _=>rfl) (all_cons (Ge 2 42 (by decide+kernel) X G a14 rfl aQ λ_ _ _ _ _ _ _ _=>rfl) (all_cons (Tq 1 43 (by decide+kernel) X G ⟨_,F,e⟩ rfl Rc λ_ _ _ _ _ _ _=>rfl) (all_cons (LZ 920 (by decide+kernel) (G5 (by decide:1<3) oa1.n) oa1.ft me920 Qx λ_ _ _ _ _ _ _=>rfl) (all_cons (LZ 920 (by decide+kernel) (G5 (by decide:2<3) oa2.n) oa2.ft me920 Qx λ_ _ _ _ _ _ _=>rfl) (all_cons (LZ 931 (by decide+kernel) (G5 (by decide:1<3) oa1.n) oa1.fs me931 YM λ_ _ _ _ _ _ _=>rfl) (all_cons (LZ 932 (by decide+kernel) (G5 (by decide:2<3) oa2.n) oa2.fs me932 YL λ_ _ _ _ _ _ _=>rfl) (all_nil))))))))))))))))))))⟩
 exact⟨_,λs v=>.of_eq rfl,λbase _ _=>Zy (Sd T (cH T 7) (cJ T 7) (LV F) rfl Rc) lB⟩
theorem walk07{q:AJ}{loose:Ac Ag}{XP:(Ag->An Aj)->AB->Prop}{YP:AT->AB->Prop}{d:DefRec}{K:J7->Fg}(hn:l.most=Aa 63)(hdf:d.params.defaults=[])(hY:∀(w:AT)(h:AB),YP w h->(K w.params).In h)(F:∀(w:AT)(mg:Ag->An Aj)(fa:Ak)(h:AB),(K w.params).In h->h.Ns AQ mg->mg d.name=Aa (.ref fa) ->
   ∃ fd:Bq,(∀(s:Ao)(u:Aj),FM s fd ⟨[u],[]⟩ [("_law_script",u)])/\∀ base:AB,(K w.params).In base->base.Ns AQ mg->FnOk l.prog w (K w.params) mg base (CXR l.prog w) 8 fa fd ["_law_script"] (KI (K w.params))):V2 q loose XP YP l.row.toRowW d [] (λf vs=>Jj f vs):=
 L2.walk_of (n:=63) (k:=8) (x := "_law_script") (CX:=λw=>CXR l.prog w) (sp:=λw=>KI (K w.params)) hn (by decide) hdf ⟨rfl,by decide,by decide,rfl⟩ hY F (λ_ H a ns hl _ hS=>⟨a,ns,rfl,hl,hS,λ_ _ z=>z⟩) λ_ _ _ _ _ z=>fY z
end OvC
open PySem PySem.W PyProof.Rows
noncomputable def OvC.view07:PySem.Program:={ PySem.Challenge.pw_ovalfield_k07_whole_read_again with main:={PySem.Challenge.pw_ovalfield_k07_whole_read_again.main with body:=[OvC.tp07 0,OvC.tp07 2,OvC.tp07 3,OvC.tp07 4,OvC.tp07 5,OvC.tp07 7,OvC.tp07 8,OvC.tp07 10,OvC.tp07 11,OvC.tp07 12,OvC.tp07 13,OvC.tp07 14,OvC.tp07 16,OvC.tp07 17,OvC.tp07 18,OvC.tp07 19,OvC.tp07 20,OvC.tp07 22,OvC.tp07 23,OvC.tp07 24,OvC.tp07 25,OvC.tp07 26,OvC.tp07 27,OvC.tp07 28,OvC.tp07 29]} }
set_option hygiene false
local macro_rules | `(tactic| o_head $H)=>`(tactic| refine holds_open (q:=OvC.view07) (loose:=[]) (Xt:=fun s=>xlAt OvC.view07 [] s&&recOk (RowW.records (OpenRow.toRowW (PySem.Challenge.rw_ovalfield_k07_whole_read_again.row))) s) (XP:=XL OvC.view07 []) (Yf:=Hook.obs $H) (Ya:=Hook.val $H) (YP:=Hook.says $H) (N:=4768) ?hl (Hook.of $H) (Hook.keeps $H) (fun s e=>xl_of s (Bool.and_eq_true_iff.mp e).1) XL.keeps (by rfl) (by rfl) (by rfl) (fun s e=>recFacts_of (Bool.and_eq_true_iff.mp e).2) (by rfl) (by first|assumption|decide +kernel) (by decide +kernel) ⟨rfl,rfl,rfl,rfl,rfl,by decide +kernel⟩ ?hw ?hc)
set_option maxRecDepth 100000 in
set_option maxHeartbeats 0 in
theorem PySem.Challenge.cw_ovalfield_k07_whole_read_again_holds : PySem.Challenge.rw_ovalfield_k07_whole_read_again.Holds := by
 w_on;refine holds_law (by decide+kernel) λsaid=>?_;k_head
 (case hl=>intro w;unfold openEnds fencedOpening topFrom;rw[PySem.W.Fast.te10274390034422433532,PySem.W.Fast.te14364793385576792824,PySem.W.Fast.te1435165496053646825,PySem.W.Fast.te14289696077712309145,PySem.W.Fast.te14082659384304107361,PySem.W.Fast.te4187177175401517315];kernel_rfl)
 (case hw=>w_witness2)
 k_fill
 refine OvC.walk07 (l:=PySem.Challenge.rw_ovalfield_k07_whole_read_again) rfl rfl (λw h Y_=>V7 Y_) ?F
 case F=>
  intro w mg fa h KX G hmg
  refine' OvC.all07 KX G hmg ?a0 ?a1 ?a2 ?a3 ?a4 ?a5 ?a6 ?a7 ?a8 ?a9 ?a10 ?a11 ?a12 ?a13 ?a14 ?a15 ?oa0 ?oa1 ?oa2 ?kt0 ?kt1 ?kt2 ?ii ?me920 ?me931 ?me932 ?z0 ?z1 ?z2 ?z3 ?z4 ?z5 ?z6 ?z7 ?z8 ?z9 ?z10 ?z11 ?z12
  case a0|a1|a2|a3|a4|a5|a6|a7|a8|a9|a10|a11|a12|a13|a14|a15=>(refine' Ov.fni ?a ?l ?c ?k;(case a=>k_is);(case l=>k_is);(case c=>k_is);(case k=>k_is))
  case oa0|oa1|oa2=>(refine' Ov.oa_mk ?n ?i ?ft ?fs ?q1 ?q2 ?q3 ?q4 ?q5 ?q6 ?q7 ?q8 ?q9 ?r1 ?r2 ?r3 ?r4 ?r5 ?r6;(case n=>k_is);(case i=>k_is);(case ft=>k_is);(case fs=>k_is);(case q1|q2|q3|q4|q5|q6|q7|q8|q9|r1|r2|r3|r4|r5|r6=>k_is))
  case kt0|kt1|kt2=>(refine' Ov.all_cons ?q0 (Ov.all_cons ?q1 (Ov.all_cons ?q2 Ov.all_nil));(case q0|q1|q2=>dsimp only;kit_is))
  case ii=>(refine' Ov.ini_mk ?l ?m ?k;(case l=>k_is);(case m=>k_is);(case k=>k_is))
  case me920|me931|me932=>(refine' Ov.mei ?l ?m ?k;(case l=>k_is);(case m=>k_is);(case k=>k_is))
  case z0|z1|z2|z3|z4|z5|z6|z7|z8|z9|z10|z11|z12=>k_is
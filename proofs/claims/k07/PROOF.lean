import PyProof.Rows.All
import Wide.All
import OpenK.AllK
import Wide.FinOn
import PyProof.EqAt
import KE.KSortTup
import PyProof.EqKinds
import PyProof.TupleCall
import Lean
import PySem.Challenge.RW_ovalfield_k07_whole_read_again
set_option Elab.async false
set_option linter.all false
set_option maxRecDepth 100000
set_option maxHeartbeats 4000000
open Option renaming some→Aa,none→Ae,bind_eq_some_iff→As,isSome_iff_exists→BU,isNone_iff_eq_none→Db,getD_none→Ug,map_some→Uh
open Bool renaming true→Ab,false→Ad,and_eq_true→Al,false_ne_true→Av,not_eq_true'→Bi,or_eq_true→BK,or_false→Dz,and_false→GR,or_true→Hu,and_true→Tv,eq_iff_iff→Tw
open _root_ renaming List→Ac,Nat→Af,Int→Ah,Bool→Ai,Option→An,if_pos→AE,of_decide_eq_true→AH,beq_iff_eq→AI,decide_eq_true_eq→AM,if_neg→AO,False→AV,Array→A3,dif_neg→Bu,decide_eq_false→Cn,String→Cr,Unit→DQ,if_true→DV,beq_self_eq_true→D1,beq_eq_false_iff_ne→Ef,Decidable→E9,ne_true_of_eq_false→Fv,or_false→FK,bne_iff_ne→F7,True→Gp,not_or→G1,ne_eq→JE,if_false→KA,decide_eq_true→mL
open PySem renaming Str→Ag,Value→Aj,Addr→Ak,Expr→Am,Shared→Ao,wpAny_bind→Ap,starEach→Aq,wpAny→Au,Pos→Az,Heap→AA,Stmt→AC,Program→AF,mainGlobals→AN,Around→AQ,World→AS,wpAny_pure→AU,wpAny_mono→A2,FuncData→Bp,backTo→Bq,excClassObj→Bw,cLine→By,wpAny_loadPart_at→BG,Scope→BH,binaryOp→BJ,sizeLine_eq→BV,Env→BW,foldedSetIterable→B8,Tok→B9,mem_of_lookup→Ca,wpAny_newObj_type→Ch,wpAny_truthy_bool→Ci,cellsFrom→Ck,compareOp→Cm,bootBuiltins→Cq,Obj→Cv,swapsWith→CB,wpAny_Call_Name_kw→CC,wpAny_field→CG,CmpOp→CH,attributeBase→CM,OwnTail→CW,wpAny_passesOwn→CZ,assignEach→Dg,codeAny_call_builtin→Dh,PassesOwn→Dl,NameKind→Dq,wpAny_standAt→DB,wpAny_execs_nil→DF,GenState→DI,Keyword→DO,ExceptHandler→D4,rawInt→D5,wpAny_holding→D6,sliceBounds→D8,wpAny_isSubtype_exc→D9,Operator→Ep,codeAny_mono→Et,codeAny→EF,typeIs_str→EG,wpAny_setField→EH,wpAny_callSpecial?_slot→EL,wpAny_pyIter_list→EN,strLen_append→E2,checkBuiltinCall→E3,Sem→Ff,letOwnedTupleGo→Fi,wpAny_call→Fj,BindsTo→Fx,bindArgs→FB,Model→FL,keywordEach→FM,IsPart→FP,noteFrame→FQ,pushCells→FR,wpAny_pyIter_tuple→FS,behindInMarks→FU,methodCallPos→FV,call_meets→F6,OsState→F8,callerA→F9,ExcBaseFacts→Gj,Paired→Gk,wpAny_call_entry→Gm,wpAny_execs_cons→Go,Drawn→Gy,pushCells_keeps→GB,setFlight→GC,wpAny_of_eq→GD,Result→GV,isTrue→GX,newFunctionEnv→GY,notedBy→GZ,recursionLimit→G0,backToKw→G2,bindC→G3,bindL→G4,builtinsNs→G5,isInstance→G6,numAt→G7,Comprehension→Hr,JoinOk→Hy,callSpecial?→HA,concat_meets→HB,onTheHeap→HC,UnaryOp→H9,getItem→Ia,handleBy→Ic,PyData→IH,StoreFacts→IJ,call→IM,sysModules→IN,wpAny_Name→IP,IntMulOk→JH,Params→JI,intItems→JJ,pyIter→JK,codeAny_call_function→VO,firstArgMember→VP,methodCallForm→VQ,noFill_tuple_add→VR,refuseLoop_ref→VS,slot_list_getitem→VT,wpAny_JoinedStr→VU,wpAny_assign_Name→VV,wpAny_comprehension_free→VW,wpAny_newFunctionEnv_cells→VY,wpAny_pyIter_enum→VZ,wpAny_seqItems→V0
open PySem.W renaming findIn→Ar,nsIn→A5,keepIn→A7,mg_none_of→Bl,specialIn→BF,fnOf→BP,looks_findIn→B2,codeIn→Dm,kitOne→Do,isFn→Dr,mg_of→DA,callWith_K→DE,findCls→Ek,readsIn→El,OpenLaw→EW,mroIn→EZ,subIn→E1,typeIn→FA,methodObj→F5,takesIn→GA,kitAny→GW,clsIn→Hs,WalkO→Vz,cellsFrom_some→VA,codeRec_of→VB,hasDictIn→VC,instObj→VD,isNs_of_in→VE,kIn_of→VF,looks_subIn→VG,makesIn→VH,nsOkIn→VI,plainGet→VJ,plainOver→VL,tail_of_in→VM
open PySem.Heap renaming get?_push_of_some→At,lt_size→AD,get?_push_size→AY,get?_update_other→Cp,get?_update_self→Cz,get?_none_of_le→CI,size_push→DN,SameBut→Eo,MadeExcOf→GU,ExtBut→U_7,get?_push_at→U_9,get?_update_ne→Va
open List renaming mem_cons_of_mem→Ax,mem_cons_self→AB,mem_cons→AG,size_toArray→AL,length_set→AR,getElem?_eq_some_iff→AW,mem_append_right→A8,length_cons→A9,mem_singleton→Bk,all_eq_true→Bz,getElem?_eq_getElem→BA,length_append→BN,length_map→BO,lookup_cons→BQ,range→BR,getElem?_set_self→B7,append_nil→Cc,map_cons→Ce,mem_range→Cf,getElem?_map→CJ,not_mem_nil→CO,lookup→CP,length_singleton→CU,getD_eq_getElem?_getD→C3,isEmpty_eq_false_iff→Da,any_eq_true→DX,all_cons→D2,drop_eq_getElem_cons→Eg,getElem?_append_left→Eh,toArray→Em,getElem?_set_self'→EI,drop_eq_nil_of_le→EV,getElem?_set_ne→Fa,mem_append→Fb,mem_append_left→Fc,nodup_cons→Fd,filterMap_cons→Ft,getElem_of_mem→Fu,replicate→Fw,contains_cons→FN,getElem?_set→F3,getElem_mem→Gd,length_take→Ge,mem_map→Gf,nil_append→Gw,of_mem_zip→Gx,any_cons→Hq,map_nil→Hv,all_map→TM,any_map→TN,append_assoc→TQ,contains_eq_mem→TR,ext_getElem?→TU,forIn_nil→TV,getElem?_append_right→TW,getElem?_replicate→TX,length→TY,length_drop→TZ,length_replicate→T4,map_map→T5,mem_of_getElem?→T6,range_succ_eq_map→T7,reverse_cons→T8,set_set→T9
open PySem.Str renaming ofString→Ay,empty→CK
open Nat renaming lt_of_lt_of_le→AJ,le_refl→AK,ne_of_lt→Be,lt_irrefl→Bf,le_trans→BD,le_of_ble_eq_true→BS,ble→Co,lt_of_le_of_lt→DD,zero_le→D7,le_of_lt→Fe,lt_succ_of_lt→F4,log2_le_self→Gg,mod_eq_of_lt→Gh,ne_of_gt→Gi,ble_eq→Ua,le_succ→Ub,lt_succ_self→Uc,min_self→Ud,not_lt→Ue,not_lt_zero→Uf
open False renaming elim→AZ
open Int renaming emod_emod_of_dvd→A4,emod_eq_of_lt→Bj,mul_emod→Bo,emod_nonneg→Bx,dvd_refl→BL,emod_lt_of_pos→BM,one_mul→DG,zero_emod→EX,mul_assoc→FT,mul_comm→Gc,add_emod→Tx,ediv_nonneg→Tz,eq_ofNat_of_zero_le→TB,le_refl→TC,le_trans→TD,mul_one→TF,mul_zero→TH,sub_zero→TJ,toNat_natCast→TK,zero_add→TL
open Option.some renaming inj→Bc
open PySem.NameKind renaming cell→Bs,free→C5
open PySem.Value renaming ref→BZ,builtin→B4,none→De,bool→IK,type→IL,int→JC,str→JD,bytes→Vv,float→Vw
open PySem.F renaming excBase_ValueError→Cu,slot_tuple_iterator_next→C4,slot_str_split→DH,args_str_split_2→En,entry_str_split→EK,attr_ValueError→EM,args_tuple_add_2→UY,args_tuple_iterator_next_1→UZ,entry_bexc_ga→U_0,entry_tuple_add→U_1,entry_tuple_iterator_next→U_2,plainAttrs_str→U_3,slot_str_join→U_4,slot_tuple_add→U_5,typeOf_object_class→U_6
open PySem.Obj renaming data_mapFields→CA,isFreed_of_fields→DP,mapFields→EY,cls_mapFields→Vb,mapSeq→Vc
open PyProof.Rows renaming callWith_type1→CQ,envOfC→D3,boot_isinstance→Ei,AllBare→EE,IntsAre→GS,IsTup→IG,boot_list→Ui,boot_str→Uj,boot_tuple→Uk,slicePart_none→Ul,slot_tuple_getitem→Um,subscriptTail_builtinR→Uo
open Ne renaming symm→CV
open PySem.PyData renaming shownAll→CY,depthAll→Gz,hasDictAll→Ve,showableAll→Vf
open PySem.Builtin.Slice renaming slicePlaces→Dc,sliceAdjust→Ej,sliceApplied→Ur
open PySem.Builtin.SmallTypes renaming nextOf→Dd
open PySem.Builtin.Tuple renaming tupleExact→Dp
open ForInStep renaming yield→DC
open PySem.Builtin.Str renaming strSliceIndices→DW,occurrences→EJ,partsBetween→Us,strKind→Ut
open PySem.Calls renaming evalArgs_plain→DY,Name_function_global→Uu,callWith_builtin→Uv
open PySem.Txt renaming split→Er,join→Ib
open Classical renaming choose_spec→E8
open PySem.SeqAt renaming EqAt→Fh,RcNeAt→Hz,RcAt→II
open Array renaming length_toList→Fs,toList→Ht,getElem?_eq_getElem→Tu
open PySem.Code renaming quiet_builtin→FO,isFrame→Hx,frames→Uw
open Sum renaming inl→Ga,inr→Gb
open PySem.Around renaming under→Hw
open NeZero renaming ne→Jz
open PyProof.Rows.IsTup renaming new→JA
open PySem.Data renaming cell→JB,seq→JG
open Prod renaming ext→JF
open PySem.Builtin.Int renaming intBits→Up
open PySem.Builtin.ObjectAttr renaming storeInDict→Uq
open PySem.EntryCells renaming newEntry→Ux
open PySem.Expr renaming Attribute→Uy,BinOp→UA,BoolOp→UC,Call→UE,Compare→UG,Constant→UI,List→UK,ListComp→UM,Name→UO,Slice→UQ,Subscript→US,Tuple→UU,UnaryOp→UW
open PySem.Expr.Attribute renaming elim→Uz
open PySem.Expr.BinOp renaming elim→UB
open PySem.Expr.BoolOp renaming elim→UD
open PySem.Expr.Call renaming elim→UF
open PySem.Expr.Compare renaming elim→UH
open PySem.Expr.Constant renaming elim→UJ
open PySem.Expr.List renaming elim→UL
open PySem.Expr.ListComp renaming elim→UN
open PySem.Expr.Name renaming elim→UP
open PySem.Expr.Slice renaming elim→UR
open PySem.Expr.Subscript renaming elim→UT
open PySem.Expr.Tuple renaming elim→UV
open PySem.Expr.UnaryOp renaming elim→UX
open PySem.Heap.SameBut renaming update→U_8
open PySem.Paired renaming length→Vd
open PySem.SeqAt.EqAt renaming of_refs→Vg,same→Vh
open PySem.Stmt renaming Assign→Vi,Expr→Vk,Raise→Vo,Return→Vr,While→Vt
open PySem.Stmt.Assign renaming elim→Vj
open PySem.Stmt.Expr renaming elim→Vl
open PySem.Stmt.For renaming elim→Vm
open PySem.Stmt.If renaming elim→Vn
open PySem.Stmt.Raise renaming elim→Vp
open PySem.Stmt.Return renaming elim→Vs
open PySem.Stmt.While renaming elim→Vu
open PySem.W.WData renaming int→Vx
open PySem.W.WShape renaming has→Vy
open PySem.Walks renaming list→VN
abbrev Fg:=PySem.W.Frag
abbrev Pn:=Ac (PySem.Addr×PySem.Obj)
abbrev Vq:=PySem.Value->PySem.Shared->Prop
set_option genSizeOfSpec false
-- CHANGE: your row's module here,as the last of these rows
namespace L2
open PySem PySem.Spec PyProof.Rows
abbrev Key:=Sum Ah Ag
noncomputable def R7:Key->Aj->Ai
 |.inl k,v=>Value.isInt k v
 |.inr x,v=>Value.isStrOf x v
noncomputable def lE(w:AS):Key->Ah
 |.inl k=>hashInt k
 |.inr x=>hashStr w x
theorem Ha:∀{k:Key}{v:Aj},R7 k v=Ab->(∃ i t,k=Ga i/\v=JC i t)\/(∃ x t,k=Gb x/\v=JD x t)
 |.inl i,v,h=>by
  obtain⟨t,e⟩:=Value.isInt_shape (k:=i) (v:=v) h;exact .inl ⟨i,t,rfl,e⟩
 |.inr x,v,h=>by
  obtain⟨t,e⟩:=Value.isStrOf_shape (x:=x) (v:=v) h;exact .inr ⟨x,t,rfl,e⟩
theorem dB(a b:Ah):decide ((Ga a:Key)=Ga b)=(a==b):=by
 by_cases e:a=b
 .subst e;simp
 .have h:¬ (Ga a:Key)=Ga b:=λq=>e (Sum.inl.inj q)
  rw[Cn h];exact(Ef.mpr e).symm
theorem cY(a b:Ag):decide ((Gb a:Key)=Gb b)=decide (a=b):=by
 by_cases e:a=b
 .subst e;simp
 .have h:¬ (Gb a:Key)=Gb b:=λq=>e (Sum.inr.inj q)
  rw[Cn h,Cn e]
theorem dA(a:Ah)(b:Ag):decide ((Ga a:Key)=Gb b)=Ad:=Cn (λq=>nomatch q)
theorem cZ(a:Ag)(b:Ah):decide ((Gb a:Key)=Ga b)=Ad:=Cn (λq=>nomatch q)
noncomputable def Nc(prog:AF)(w:AS):PySem.KeyKind prog w Key where
 is:=R7
 hash:=lE w
 inj:=λv a b ha hb=>by
  rcases Ha ha with ⟨i,t,rfl,rfl⟩|⟨x,t,rfl,rfl⟩
  .rcases Ha hb with ⟨j,u,rfl,e⟩|⟨y,u,rfl,e⟩
   .injection e with e1 _;rw[e1]
   .exact nomatch e
  .rcases Ha hb with ⟨j,u,rfl,e⟩|⟨y,u,rfl,e⟩
   .exact nomatch e
   .injection e with e1 _;rw[e1]
 byValue:=λk v h=>by
  rcases Ha h with ⟨i,t,rfl,rfl⟩|⟨x,t,rfl,rfl⟩<;>rfl
 pyHash:=λhv h=>by
  rcases Ha hv with ⟨i,t,rfl,rfl⟩|⟨x,t,rfl,rfl⟩
  .exact wpAny_pyHash_int h
  .exact wpAny_pyHash_str h
 eqBool:=λhu hv h=>by
  rcases Ha hu with ⟨i,t,rfl,rfl⟩|⟨x,t,rfl,rfl⟩
  .rcases Ha hv with ⟨j,u,rfl,rfl⟩|⟨y,u,rfl,rfl⟩
   .rw[dB]at h;exact wpAny_eqBool_int h
   .rw[dA]at h;exact SeqAt.EqAt.int_str i t y u _ _ _ _ h
  .rcases Ha hv with ⟨j,u,rfl,rfl⟩|⟨y,u,rfl,rfl⟩
   .rw[cZ]at h;exact SeqAt.EqAt.str_int x t j u _ _ _ _ h
   .rw[cY]at h;exact wpAny_eqBool_str h
 «strs»:=λk x t v h=>by
  rcases Ha h with ⟨i,u,rfl,e⟩|⟨y,u,rfl,e⟩
  .exact nomatch e
  .injection e with e1 _
   subst e1;cases v<;>rfl
end L2
namespace L2
open PySem PySem.Spec PyProof.Rows
variable{us:Ac Aj}{a b it:Ak}{P:AF}{h:AA}{o:Cv}{g':A3 DI}{t' i k n:Af}{d':Gy}{ch fp:Ac Ak}{x qual:Ag}{M:FL}{u:Aj}{Q:DQ->Ao->Prop}{e c tg:Am}{s:Ao}{pos p:Az}{pI:Pn}{es:Ac Am}{body:Ac AC}{f:Aj->Aj->Ff Aj}{g:Ah->Ah->Ah}{op:CH}{kw:Ac (Ag×Aj)}{fd:Bp}{ps:Ac Ag}{scope:BH}
inductive V where
 |non|bl (b:Ai)|int (i:Ah)|str (x:Ag)|byt (b:A3 UInt8)|flt (b:UInt64)|ref (a:Ak)|ty (n:Cr)
 deriving DecidableEq
variable{xs vs:Ac V}{v:V}
def Bm:V->Aj->Prop
 |.non,u=>u=De
 |.bl b,u=>u=IK b
 |.int i,u=>∃ t,u=JC i t
 |.str x,u=>∃ t,u=JD x t
 |.byt b,u=>∃ t,u=Vv b t
 |.flt b,u=>∃ t,u=Vw b t
 |.ref a,u=>u=BZ a
 |.ty n,u=>u=IL n
noncomputable abbrev AX:Ac V->Ac Aj->Prop:=Gk Bm
theorem AX.length(r:AX xs us):xs.length=us.length:=Vd r
theorem AX.get:∀{xs:Ac V}{us:Ac Aj}{i:Af}{x:V},AX xs us->xs[i]?=Aa x->∃ u,us[i]?=Aa u/\Bm x u
 |_,_,_,_,.nil,e=>by simp at e
 |_,_,0,_,.cons r _,e=>by simp at e;subst e;exact⟨_,rfl,r⟩
 |_,_,i+1,x,.cons _ t,e=>by
  obtain⟨u,h1,h2⟩:=AX.get (i:=i) (x:=x) t (by simpa using e)
  exact⟨u,by simpa using h1,h2⟩
theorem AX.set{x:V}{u:Aj}(r:Bm x u):∀{xs:Ac V}{us:Ac Aj}(i:Af),AX xs us->AX (xs.set i x) (us.set i u)
 |_,_,_,.nil=>.nil
 |_,_,0,.cons _ t=>.cons r t
 |_,_,i+1,.cons q t=>.cons q (AX.set r i t)
theorem AX.append:∀{xs ys:Ac V}{us ws:Ac Aj},AX xs us->AX ys ws->AX (xs++ys) (us++ws)
 |_,_,_,_,.nil,s=>s
 |_,_,_,_,.cons r t,s=>.cons r (AX.append t s)
theorem AX.take:∀{xs:Ac V}{us:Ac Aj}(n:Af),AX xs us->AX (xs.take n) (us.take n)
 |_,_,0,_=>.nil
 |_,_,_+1,.nil=>.nil
 |_,_,n+1,.cons r t=>.cons r (AX.take n t)
theorem AX.drop:∀{xs:Ac V}{us:Ac Aj}(n:Af),AX xs us->AX (xs.drop n) (us.drop n)
 |_,_,0,r=>r
 |_,_,_+1,.nil=>.nil
 |_,_,n+1,.cons _ t=>AX.drop n t
def Kz:An V->An Aj->Prop
 |some v,Aa u=>Bm v u
 |none,Ae=>Gp
 |_,_=>AV
def KV{κ:Type}:Ac (κ×V)->Ac (κ×Aj)->Prop:=Gk fun(p:κ×V)(q:κ×Aj)=>p.1=q.1/\Bm p.2 q.2
noncomputable def kV:Key->V
 |.inl i=>.int i
 |.inr x=>.str x
inductive HO where
 /-- a list -/
 |lst (xs:Ac V)
 /-- a tuple (never changes) -/
 |tup (xs:Ac V)
 /-- a dict whose keys are ints and texts;one whose keys are tuples of ints and texts (the empty one is both) -/
 |dK (kvs:Ac (Key×V))|dT (kvs:Ac (Ac Key×V))
 /-- a set of ints: its members,its size -/
 |set (S:Ah->Ai) (n:Af)
 /-- an instance of the class at C,its dict at dx,its attributes -/
 |ins (C dx:Ak) (fs:Ac (Ag×V))
 /-- the dict of the instance at x -/
 |own (x:Ak)
 /-- the dict of an exception -/
 |xd (fs:Ac (Ag×V))
 /-- a bound method,f of x -/
 |met (f x:Ak)
 /-- a range object lo,lo+1,.. below hi -/
 |rng (lo hi:Ah)
 /-- a thing that is known to the object (the script;a dict while a loop walks it): read,never written while it is so -/
 |frz (o:Cv) (u:HO)
 /-- a code object's table -/
 |tbl (ps:A3 Aj)
 /-- any other thing,by what is Ab of its one object (a def of one's own: SetO a S n:=HO.ext fun h=>..) -/
 |ext (φ:AA->Prop)
abbrev Hp:=Ak->An HO
variable{H:Hp}
noncomputable def upd(H:Hp)(a:Ak)(o:HO):Hp:=λb=>if b=a then Aa o else H b
theorem Di{o:HO}:upd H a o a=Aa o:=by unfold upd;rw[AE rfl]
theorem A6{o:HO}(h:b≠a):upd H a o b=H b:=by unfold upd;rw[AO h]
theorem M3{o u:HO}:upd (upd H a o) a u=upd H a u:=by
 funext b;unfold upd;split<;>rfl
theorem ER{o:HO}(h:H a=Aa o)(h':H b=Ae):a≠b:=by
 intro e;subst e;rw[h]at h';cases h'
section
variable(P:AF)(w:AS)
def ObjOk(H:Hp)(h:AA)(a:Ak):HO->Prop
  |.lst xs=>xs.length<=sizeLine/\∃(its:Ac Aj)(n:Af),AX xs its/\h.get? a=Aa { cls:=.type "list",data:=.seq its.toArray n }
  |.tup xs=>xs.length<=sizeLine/\∃ its:Ac Aj,AX xs its/\IG h a its.toArray
  |.dK kvs=>kvs.length<=sizeLine/\(a==IN)=Ad/\∃ vs,KV kvs vs/\h.DictOf (Nc P w) a vs
  |.dT kvs=>kvs.length<=sizeLine/\(a==IN)=Ad/\∃ xs:Ac (Ac Key×Ak×Aj),
      Gk (fun(p:Ac Key×V)(q:Ac Key×Ak×Aj)=>p.1=q.1/\H q.2.1=Aa (.tup (p.1.map kV))/\Bm p.2 q.2.2) kvs xs /\
      ∃ o es ep,h.get? a=Aa o/\o.ExactDict/\o.data=.dict es ep/\es.toList=xs.map (entryOfKey (tupleKind (Nc P w)))/\(xs.map (·.1)).Nodup
  |.set S n=>h.SetOf (intKind P w) a S n
  |.ins C dx fs=>H dx=Aa (.own a)/\fs.length<=1000/\dx≠a/\h.get? a=Aa (VD C dx) /\
      ∃ mA,h.Ns1 dx mA/\(∀ f,Kz (fs.lookup f) (mA f))/\PySem.Within mA (fs.map (·.1))
  |.own _=>∃ o,h.get? a=Aa o
  |.xd fs=>∃ mA,h.Ns1 a mA/\∀ f,Kz (fs.lookup f) (mA f)
  |.rng lo hi=>∃ t u v,h.get? a=Aa { cls:=.type "range",data:=.fields #[.int lo t,.int hi u,.int 1 v] }
  |.frz o u=>h.get? a=Aa o/\ObjOk H h a u
  |.tbl ps=>h.get? a=Aa {cls:=.none,data:=.fields ps}
  |.met f x=>h.get? a=Aa (F5 (.ref f) (.ref x))
  |.ext φ=>φ h/\(∃ o,h.get? a=Aa o)/\∀ h1 h2:AA,φ h1->(∀ o,h1.get? a=Aa o->h2.get? a=Aa o)->φ h2
def HOk(H:Hp)(h:AA):Prop:=∀ a o,H a=Aa o->ObjOk P w H h a o
end
section
variable{P:AF}{w:AS}{H H':Hp}{h h':AA}{a:Ak}{o:HO}
theorem ObjOk.lt(x:ObjOk P w H h a o):a<h.objs.size:=by
 cases o with
 |lst xs=>obtain⟨_,_,_,_,e⟩:=x;exact AD e
 |tup xs=>obtain⟨_,_,_,p⟩:=x;exact p.lt
 |dK kvs=>obtain⟨_,_,_,_,o,_,_,e,_⟩:=x;exact AD e
 |dT kvs=>obtain⟨_,_,_,_,o,_,_,e,_⟩:=x;exact AD e
 |set S n=>obtain⟨o,_,_,_,e,_⟩:=x;exact AD e
 |ins C dx fs=>obtain⟨_,_,_,e,_⟩:=x;exact AD e
 |own y=>obtain⟨_,e⟩:=x;exact AD e
 |xd fs=>obtain⟨_,⟨_,_,_,e,_⟩,_⟩:=x;exact AD e
 |rng lo hi=>obtain⟨_,_,_,e⟩:=x;exact AD e
 |frz ob u=>obtain⟨e,_⟩:=x;exact AD e
 |tbl ps=>exact AD (show h.get? a=Aa _ from x)
 |met f y=>exact AD (show h.get? a=Aa _ from x)
 |ext φ=>obtain⟨_,⟨_,e⟩,_⟩:=x;exact AD e
theorem Gk.mapP{α β:Type}{F G:α->β->Prop}:∀{l₁:Ac α}{l₂:Ac β},Gk F l₁ l₂->(∀ a b,F a b->G a b)->Gk G l₁ l₂
 |_,_,.nil,_=>.nil
 |_,_,.cons r t,f=>.cons (f _ _ r) (Gk.mapP t f)
theorem ObjOk.stay(x:ObjOk P w H h a o)(k:∀ b u,(b=a\/H b=Aa (.own a))->h.get? b=Aa u->h'.get? b=Aa u)(ho:∀ b,H b=Aa (.own a)->H' b=Aa (.own a))(ht:∀ b xs,H b=Aa (.tup xs)->H' b=Aa (.tup xs)):ObjOk P w H' h' a o:=by
 induction o with
 |lst xs=>obtain⟨z,its,n,r,e⟩:=x;exact⟨z,its,n,r,k _ _ (.inl rfl) e⟩
 |tup xs=>obtain⟨z,its,r,ob,e,c⟩:=x;exact⟨z,its,r,ob,k _ _ (.inl rfl) e,c⟩
 |dK kvs=>obtain⟨z,y,vs,r,ob,es,ep,e,c⟩:=x;exact⟨z,y,vs,r,ob,es,ep,k _ _ (.inl rfl) e,c⟩
 |dT kvs=>
  obtain⟨z,y,xs,r,ob,es,ep,e,c⟩:=x;exact⟨z,y,xs,Gk.mapP r λp q z=>⟨z.1,ht _ _ z.2.1,z.2.2⟩,ob,es,ep,k _ _ (.inl rfl) e,c⟩
 |set S n=>obtain⟨ob,es,ep,t,e,c⟩:=x;exact⟨ob,es,ep,t,k _ _ (.inl rfl) e,c⟩
 |ins C dx fs=>
  obtain⟨d,z,ne,e,mA,⟨od,es,ep,e2,c⟩,r⟩:=x;exact⟨ho _ d,z,ne,k _ _ (.inl rfl) e,mA,⟨od,es,ep,k _ _ (.inr d) e2,c⟩,r⟩
 |own y=>obtain⟨ob,e⟩:=x;exact⟨ob,k _ _ (.inl rfl) e⟩
 |xd fs=>obtain⟨mA,⟨od,es,ep,e,c⟩,r⟩:=x;exact⟨mA,⟨od,es,ep,k _ _ (.inl rfl) e,c⟩,r⟩
 |rng lo hi=>obtain⟨t,u,v,e⟩:=x;exact⟨t,u,v,k _ _ (.inl rfl) e⟩
 |frz ob u ih=>obtain⟨e,q⟩:=x;exact⟨k _ _ (.inl rfl) e,ih q⟩
 |tbl ps=>
  have e:h.get? a=Aa {cls:=.none,data:=.fields ps}:=x;show h'.get? a=Aa {cls:=.none,data:=.fields ps};exact k a _ (.inl rfl) e
 |met f y=>
  have e:h.get? a=Aa (F5 (.ref f) (.ref y)):=x;show h'.get? a=Aa (F5 (.ref f) (.ref y));exact k a _ (.inl rfl) e
 |ext φ=>obtain⟨p,⟨o,e⟩,st⟩:=x;exact⟨st _ _ p λo q=>k _ _ (.inl rfl) q,⟨o,k _ _ (.inl rfl) e⟩,st⟩
theorem HOk.lt(x:HOk P w H h)(e:H a=Aa o):a<h.objs.size:=(x a o e).lt
theorem HOk.fresh(x:HOk P w H h)(e:h.objs.size<=a):H a=Ae:=by
 cases q:H a with
 |none=>rfl
 |some u=>exact absurd (AJ (x.lt q) e) (Bf _)
theorem HOk.kept(x:HOk P w H h)(k:∀ b u,h.get? b=Aa u->h'.get? b=Aa u):HOk P w H h':=λa o e=>
 (x a o e).stay (λb u _ q=>k b u q) (λ_ q=>q) λ_ _ q=>q
theorem HOk.laid(x:HOk P w H h)(k:∀ b u,h.get? b=Aa u->h'.get? b=Aa u)(hp:h.objs.size<=a)(new:ObjOk P w (upd H a o) h' a o):HOk P w (upd H a o) h':=λb u e=>by
 have hn:=x.fresh hp;by_cases hb:b=a
 .subst hb;rw[Di]at e;cases e;exact new
 .rw[A6 hb]at e;exact(x b u e).stay (λc v _ q=>k c v q) (λc q=>by rw[A6 (ER q hn)];exact q) λc xs q=>by rw[A6 (ER q hn)];exact q
end
def Rd(H:Hp)(a:Ak)(u:HO):Prop:=H a=Aa u\/∃ o,H a=Aa (.frz o u)
theorem Rd.ok{w:AS}{u:HO}(r:Rd H a u)(x:HOk P w H h):ObjOk P w H h a u:=by
 rcases r with r|⟨o,r⟩
 .exact x a u r
 .obtain⟨_,q⟩:=x a _ r;exact q
def Mut:An HO->Prop
 |some (.lst _)=>Gp
 |some (.dK _)=>Gp
 |some (.dT _)=>Gp
 |some (.set _ _)=>Gp
 |some (.ins _ _ _)=>Gp
 |some (.ext _)=>Gp
 |_=>AV
section
variable{P:AF}{w:AS}{H:Hp}{h h':AA}{x e:Ak}{o':HO}
theorem HOk.write(ok:HOk P w H h)(mu:Mut (H x))(he:e=x\/H e=Aa (.own x))(k:∀ b u,b≠e->h.get? b=Aa u->h'.get? b=Aa u)(heo:∃ u,h'.get? e=Aa u)(new:ObjOk P w (upd H x o') h' x o'):HOk P w (upd H x o') h':=λb u q=>by
 have nown:∀ c y,H c=Aa (.own y)->c≠x:=λc y r z=>by subst z;rw[r]at mu;exact mu
 have ntup:∀ c xs,H c=Aa (.tup xs)->c≠x:=λc xs r z=>by subst z;rw[r]at mu;exact mu
 by_cases hb:b=x
 .subst hb;rw[Di]at q;cases q;exact new
 .rw[A6 hb]at q;by_cases hbe:b=e
  .have q':H b=Aa (.own x):=by
    rcases he with z|z
    .exact absurd (hbe.trans z) hb
    .rw[hbe];exact z
   rw[q]at q';cases q';obtain⟨v,hv⟩:=heo;exact⟨v,by rw[hbe];exact hv⟩
  .refine(ok b u q).stay (λc v hc r=>k c v ?_ r) (λc r=>by rw[A6 (nown c b r)];exact r) λc xs r=>by rw[A6 (ntup c xs r)];exact r
   rcases hc with rfl|hc
   .exact hbe
   .rintro rfl;rcases he with z|z
    .exact nown c b hc z
    .rw[hc]at z;cases z;exact hb rfl
end
structure Un (fs ex:Ac Ak) (H H':Hp) (h h':AA):Prop where
 keep:∀ b o,h.get? b=Aa o->H b=Ae->b∉fs->b∉ex->h'.get? b=Aa o
 slot:∀ b o,h.get? b=Aa o->H b=Ae->b∈fs->b∉ex->∃ sl,h'.get? b=Aa {o with slots:=sl}
 free:∀ b o,h.get? b=Aa o->H b=Ae->b∉ex->H' b=Ae
 there:∀ b o,h.get? b=Aa o->b∉ex->∃ o',h'.get? b=Aa o'
 tups:∀ b xs,H b=Aa (.tup xs)->H' b=Aa (.tup xs)
 frzs:∀ b o u,H b=Aa (.frz o u)->H' b=Aa (.frz o u)
 tbls:∀ b ps,H b=Aa (.tbl ps)->∃ more,H' b=Aa (.tbl (ps++more))
section
variable{fs fs' ex ex':Ac Ak}{H H1 H2:Hp}{h h1 h2 h':AA}{a x e:Ak}{o:HO}
theorem Un.any(u:Un fs ex H H1 h h1){ob:Cv}(q:h.get? b=Aa ob)(n:H b=Ae)(hx:b∉ex):∃ sl,h1.get? b=Aa {ob with slots:=sl}:=by
 by_cases hb:b∈fs
 .exact u.slot b ob q n hb hx
 .exact⟨ob.slots,u.keep b ob q n hb hx⟩
theorem Un.kept(k:∀ b u,h.get? b=Aa u->h'.get? b=Aa u):Un fs ex H H h h':=
 ⟨λb ob q _ _ _=>k b ob q,λb ob q _ _ _=>⟨ob.slots,k b ob q⟩,λ_ _ _ n _=>n,λb ob q _=>⟨ob,k b ob q⟩,λ_ _ q=>q,λ_ _ _ q=>q,λ_ ps q=>⟨#[],by rw[q];simp⟩⟩
theorem Un.refl:Un fs ex H H h h:=Un.kept λ_ _ q=>q
theorem Un.laid(k:∀ b u,h.get? b=Aa u->h'.get? b=Aa u)(hp:h.objs.size<=a)(hn:H a=Ae):Un fs ex H (upd H a o) h h' where
 keep:=λb u q _ _ _=>k b u q
 slot:=λb u q _ _ _=>⟨u.slots,k b u q⟩
 free:=λb u q n _=>by rw[A6 (Be (AJ (AD q) hp))];exact n
 there:=λb u q _=>⟨u,k b u q⟩
 tups:=λb xs q=>by rw[A6 (ER q hn)];exact q
 frzs:=λb u xs q=>by rw[A6 (ER q hn)];exact q
 tbls:=λb ps q=>⟨#[],by rw[A6 (ER q hn),q];simp⟩
theorem Un.write(mu:Mut (H x))(he:e=x\/H e=Aa (.own x))(k:∀ b u,b≠e->h.get? b=Aa u->h'.get? b=Aa u)(heo:∃ u,h'.get? e=Aa u):Un fs ex H (upd H x o) h h':=by
 have hx:∀ b,H b=Ae->b≠x:=λb n z=>by subst z;rw[n]at mu;exact mu
 have hb:∀ b,H b=Ae->b≠e:=λb n z=>by
  subst z;rcases he with r|r
  .exact hx b n r
  .rw[n]at r;cases r
 have hm:∀ b u,H b=Aa u->¬ Mut (Aa u)->b≠x:=λb u q nm z=>by subst z;rw[q]at mu;exact nm mu
 refine⟨λb u q n _ _=>k b u (hb b n) q,λb u q n _ _=>⟨u.slots,k b u (hb b n) q⟩,λb u q n _=>by rw[A6 (hx b n)];exact n,λb u q _=>?_,
  λb xs q=>by rw[A6 (hm b _ q λz=>z)];exact q,λb u xs q=>by rw[A6 (hm b _ q λz=>z)];exact q,λb ps q=>⟨#[],by rw[A6 (hm b _ q λz=>z),q];simp⟩⟩
 by_cases hbe:b=e
 .subst hbe;exact heo
 .exact⟨u,k b u hbe q⟩
end
noncomputable def trk(h:AA)(H:Hp):Ac Ak:=(BR h.objs.size).filter λa=>(H a).isSome
noncomputable def Hj(h:AA)(H:Hp):AA:=PySem.W.hideAll h (trk h H)
theorem W3(h:AA)(H:Hp):(Hj h H).objs.size=h.objs.size:=PySem.W.hideAll_size _ _
theorem Xb(e:h.get? b=Aa o)(n:H b=Ae):(Hj h H).get? b=Aa o:=
 PySem.W.hideAll_get _ e λhm=>by
  have q:(H b).isSome=Ab:=(List.mem_filter.mp hm).2;rw[n]at q;simp at q
theorem Zj(e:(Hj h H).get? b=Aa o):h.get? b=Aa o/\H b=Ae:=by
 have e':h.get? b=Aa o:=PySem.W.of_hideAll (trk h H) e;refine⟨e',?_⟩;cases q:H b with
 |none=>rfl
 |some x=>
  have hm:b∈trk h H:=List.mem_filter.mpr ⟨Cf.mpr (AD e'),by simp[q]⟩
  have z:(Hj h H).get? b=Ae:=PySem.W.hideAll_none (trk h H) hm;rw[z]at e;cases e
noncomputable def ZU(g h:AA)(L:Ak):Pn:=(BR h.objs.size).filterMap λa=>if a=L\/(g.get? a).isSome=Ab then Ae else (h.get? a).map λo=>(a,o)
noncomputable def rest(g h:AA)(L d:Ak):Pn:=(ZU g h L).filter λp=>decide (p.1≠d)
structure Mod (K:Fg) (mg:Ag->An Aj) (base:AA):Prop where
 kin:K.In base
 glob:base.Ns AN mg
 blt:∃ mb,base.Ns G5 mb/\∀ x:Ag,x≠"__name__"->mb x=Cq x
 nolimit:base.NoLimit
structure Cx where
 prog:AF
 w:AS
 K:Fg
 mg:Ag->An Aj
 base:AA
 A:AQ
 N:Ac Ag
 s₀:Ao
 H₀:Hp
 env:BW
 outer:Ac BW
 stack:Ac BW
 ex:Ac Ak
 fn:Ag->Ai
 calm:Ai
 pn:Pn
 xe:Aj->Ao->Prop
variable{X:Cx}
noncomputable def frs(l:Ac BW):Ac Ak:=l.filterMap (·.frame)
noncomputable abbrev Cx.fs(X:Cx):Ac Ak:=frs X.outer
def Vis(sc:BH)(x:Ag):Prop:=sc.names.lookup x=Aa .local\/sc.names.lookup x=Aa .cell\/sc.names.lookup x=Aa .free
def Loc(sc:BH)(x:Ag):Prop:=sc.names.lookup x=Aa .local\/sc.names.lookup x=Aa .cell
noncomputable def lA(env:BW)(h:AA)(m:Ag->An Aj)(x:Ag)(u:Aj):Prop:=
 (env.kindOf x=Aa .local/\m x=Aa u)\/((env.kindOf x=Aa .cell\/env.kindOf x=Aa .free)/\∃ c,env.cells.lookup x=Aa c/\h.IsCell c (Aa u))
structure Cx.Ok (X:Cx):Prop where
 mod:Mod X.K X.mg X.base
 kind:X.env.scope.kind=.function
 glob:X.env.globals=AN
 blt:X.env.builtins=G5
 above:X.s₀.heap.objs.size<=X.env.locals
 inj:∀ x y c,X.env.cells.lookup x=Aa c->X.env.cells.lookup y=Aa c->x=y
 has:∀ x,(X.env.kindOf x=Aa .cell\/X.env.kindOf x=Aa .free)->∃ c,X.env.cells.lookup x=Aa c
 cab:∀ x c,X.fn x=Ab->X.env.cells.lookup x=Aa c->X.s₀.heap.objs.size<=c
 hd:X.calm=Ab->X.A.handled=Ae
 frames:X.A.frames=Aa X.stack
 stk:X.stack=X.outer\/(X.stack=X.env::X.outer/\X.env.frame=Aa X.env.locals)
 exf:∀ b∈X.ex,b≠X.env.locals/\∀ x c,X.env.cells.lookup x=Aa c->c≠b
 bs:∀ b o,X.base.get? b=Aa o->X.s₀.heap.get? b=Aa o/\X.H₀ b=Ae
 bsz:X.base.objs.size<=X.s₀.heap.objs.size
 noex:∀ b o,X.base.get? b=Aa o->b∉X.ex
 exfs:∀ b∈X.ex,b∉X.fs
 funs:X.s₀.heap.FunFrames X.base X.outer
 frf:∀ b∈X.fs,X.H₀ b=Ae
structure Inv (X:Cx) (pI:Pn) (Y:Ac (An V)) (H:Hp) (s:Ao):Prop where
 ok:X.Ok
 os:s.os=X.s₀.os
 bare:EE s.gens
 base:Un X.fs X.ex X.H₀ H X.s₀.heap s.heap
 loc:∃ m,s.heap.Ns X.env.locals m/\∀(i:Af)(x:Ag)(v:V),X.N[i]?=Aa x->Y[i]?=Aa (Aa v)->Vis X.env.scope x->∃ u,Bm v u/\lA X.env s.heap m x u
 cell:∀ x c,X.env.cells.lookup x=Aa c->∃ v,s.heap.IsCell c v
 free:H X.env.locals=Ae
 freeC:∀ x c,X.env.cells.lookup x=Aa c->H c=Ae
 pin:∀ p∈X.pn++pI,s.heap.get? p.1=Aa p.2/\H p.1=Ae/\p.1≠X.env.locals/\p.1∉X.fs/\∀ v,p.2.data≠.cell v
 hok:HOk X.prog X.w H s.heap
 len:Y.length=X.N.length
section
variable{X:Cx}{pI:Pn}{Y:Ac (An V)}{H H':Hp}{s:Ao}{h':AA}
theorem Cx.Ok.nofr(ok:X.Ok)(e:X.base.get? b=Aa o):b∉X.fs:=λhb=>by
 have:=(ok.funs.mem hb).1;rw[e]at this;cases this
theorem Inv.bs(I:Inv X pI Y H s):∀ b o,X.base.get? b=Aa o->s.heap.get? b=Aa o/\H b=Ae:=λb o e=>
 ⟨I.base.keep b o (I.ok.bs b o e).1 (I.ok.bs b o e).2 (I.ok.nofr e) (I.ok.noex b o e),I.base.free b o (I.ok.bs b o e).1 (I.ok.bs b o e).2 (I.ok.noex b o e)⟩
theorem Inv.bk(I:Inv X pI Y H s):∀ b o,X.base.get? b=Aa o->s.heap.get? b=Aa o:=λb o e=>(I.bs b o e).1
theorem Inv.mod(I:Inv X pI Y H s):Mod X.K X.mg X.base:=I.ok.mod
theorem Inv.kIn(I:Inv X pI Y H s):X.K.In s.heap:=I.ok.mod.kin.keeps I.bk
theorem Inv.lt(I:Inv X pI Y H s):X.env.locals<s.heap.objs.size:=let ⟨_,hn,_⟩:=I.loc;hn.lt
theorem Inv.sz(I:Inv X pI Y H s):X.s₀.heap.objs.size<=s.heap.objs.size:=BD I.ok.above (Fe I.lt)
theorem Inv.nofs(I:Inv X pI Y H s)(h:s.heap.objs.size<=a):a∉X.fs:=λhb=>by
 obtain⟨_,o,ho,_⟩:=I.ok.funs.mem hb;exact absurd (AJ (AD ho) (BD I.sz h)) (Bf _)
theorem Inv.cne(I:Inv X pI Y H s):∀ x c,X.env.cells.lookup x=Aa c->c≠X.env.locals:=λx c e z=>by
 obtain⟨v,o,ho,hd⟩:=I.cell x c e;obtain⟨m,⟨o',es,ep,ho',hd',_⟩,_⟩:=I.loc;rw[z,ho']at ho;cases ho;rw[hd']at hd;cases hd
theorem Inv.funs(I:Inv X pI Y H s):s.heap.FunFrames X.base X.outer:=by
 have all:∀(l:Ac BW),(∀ b∈frs l,b∈X.fs)->X.s₀.heap.FunFrames X.base l->s.heap.FunFrames X.base l:=by
  intro l
  induction l with
  |nil=>intro _ _;trivial
  |cons env r ih=>
   intro hs hl;obtain⟨hk,⟨L,o,hf,hn,ho,hd⟩,hr⟩:=hl;have hL:L∈X.fs:=hs L (by unfold frs;rw[Ft,hf];exact AB)
   obtain⟨sl,e⟩:=I.base.slot L o ho (I.ok.frf L hL) hL λz=>I.ok.exfs L z hL
   exact⟨hk,⟨L,_,hf,hn,e,hd⟩,ih (λb hb=>hs b (by unfold frs;rw[Ft,hf];exact Ax _ hb)) hr⟩
 exact all X.outer (λ_ hb=>hb) I.ok.funs
theorem Inv.stack(I:Inv X pI Y H s):s.heap.FunFrames X.base X.stack:=by
 rcases I.ok.stk with e|⟨e,hf⟩
 .rw[e];exact I.funs
 .rw[e];obtain⟨m,hn,_⟩:=I.loc;refine .cons (by rw[I.ok.kind];decide) hf hn ?_ I.funs
  exact CI (BD I.ok.bsz I.ok.above)
theorem Inv.stkSub(I:Inv X pI Y H s):∀ b∈frs X.stack,b∈X.env.locals::X.fs:=λb hb=>by
 rcases I.ok.stk with e|⟨e,hf⟩
 .rw[e]at hb;exact Ax _ hb
 .rw[e]at hb;unfold frs at hb;rw[Ft,hf]at hb;exact hb
theorem Inv.stkFree(I:Inv X pI Y H s):∀ b∈frs X.stack,H b=Ae:=λb hb=>by
 rcases AG.mp (I.stkSub b hb) with e|hb
 .rw[e];exact I.free
 .obtain⟨_,o,ho,_⟩:=I.ok.funs.mem hb;exact I.base.free b o ho (I.ok.frf b hb) λz=>I.ok.exfs b z hb
theorem Inv.step(I:Inv X pI Y H s)(hch:∀ b∈ch,(b∈X.ex\/X.s₀.heap.objs.size<=b)/\b≠X.env.locals/\(∀ x c,X.env.cells.lookup x=Aa c->c≠b)/\∀ p∈X.pn++pI,p.1≠b)(keep:∀ b o,b≠X.env.locals->b∉X.fs->b∉ch->s.heap.get? b=Aa o->H b=Ae->h'.get? b=Aa o)(slot:∀ b o,b≠X.env.locals->b∈X.fs->b∉ch->s.heap.get? b=Aa o->H b=Ae->∃ sl,h'.get? b=Aa {o with slots:=sl})(free:∀ b o,b∉ch->s.heap.get? b=Aa o->H b=Ae->H' b=Ae)(there:∀ b o,b∉ch->s.heap.get? b=Aa o->∃ o',h'.get? b=Aa o')(tups:∀ b xs,H b=Aa (.tup xs)->H' b=Aa (.tup xs))(frzs:∀ b o u,H b=Aa (.frz o u)->H' b=Aa (.frz o u))(tbls:∀ b ps,H b=Aa (.tbl ps)->∃ more,H' b=Aa (.tbl (ps++more)))(ns:∀ m,s.heap.Ns X.env.locals m->h'.Ns X.env.locals m)(hok:HOk X.prog X.w H' h')(hg:EE g'):Inv X pI Y H' {s with heap:=h',gens:=g',drawn:=d',toks:=t'}:=by
 have neL:∀ b o,X.s₀.heap.get? b=Aa o->b≠X.env.locals:=λb o e=>Be (AJ (AD e) I.ok.above)
 have neC:∀ b o,X.s₀.heap.get? b=Aa o->b∉X.ex->b∉ch:=λb o e hx hb=>by
  rcases (hch b hb).1 with z|z
  .exact hx z
  .exact absurd (AJ (AD e) z) (Bf _)
 have cellK:∀ x c,X.env.cells.lookup x=Aa c->∀ v,s.heap.IsCell c v->h'.IsCell c v:=λx c e v ⟨o,ho,hd⟩=>by
  have nch:c∉ch:=λz=>(hch c z).2.2.1 x c e rfl
  by_cases hc:c∈X.fs
  .obtain⟨sl,q⟩:=slot c o (I.cne x c e) hc nch ho (I.freeC x c e);exact⟨_,q,hd⟩
  .exact⟨o,keep c o (I.cne x c e) hc nch ho (I.freeC x c e),hd⟩
 refine⟨I.ok,I.os,hg,⟨λb o e n hb hx=>?_,λb o e n hb hx=>?_,λb o e n hx=>?_,λb o e hx=>?_,λb xs e=>tups b xs (I.base.tups b xs e),λb o xs e=>frzs b o xs (I.base.frzs b o xs e),λb ps e=>?_⟩,?_,λx c e=>?_,?_,λx c e=>?_,λp hp=>?_,hok,I.len⟩
 .exact keep b o (neL b o e) hb (neC b o e hx) (I.base.keep b o e n hb hx) (I.base.free b o e n hx)
 .obtain⟨sl,e1⟩:=I.base.slot b o e n hb hx;obtain⟨sl',e2⟩:=slot b _ (neL b o e) hb (neC b o e hx) e1 (I.base.free b o e n hx);exact⟨sl',e2⟩
 .obtain⟨o',e1⟩:=I.base.there b o e hx;exact free b o' (neC b o e hx) e1 (I.base.free b o e n hx)
 .obtain⟨o',e1⟩:=I.base.there b o e hx;exact there b o' (neC b o e hx) e1
 .obtain⟨m1,e1⟩:=I.base.tbls b ps e;obtain⟨m2,e2⟩:=tbls b _ e1;exact⟨m1++m2,by rw[e2,Array.append_assoc]⟩
 .obtain⟨m,hn,hl⟩:=I.loc;refine⟨m,ns m hn,λi x v e1 e2 e3=>?_⟩
  obtain⟨u,r,l⟩:=hl i x v e1 e2 e3;refine⟨u,r,?_⟩;rcases l with l|⟨k,c,e,z⟩
  .exact .inl l
  .exact .inr ⟨k,c,e,cellK x c e _ z⟩
 .obtain⟨v,z⟩:=I.cell x c e;exact⟨v,cellK x c e v z⟩
 .obtain⟨m,⟨o,_,_,ho,_⟩,_⟩:=I.loc;exact free _ o (λz=>(hch _ z).2.1 rfl) ho I.free
 .obtain⟨v,o,ho,hd⟩:=I.cell x c e;exact free c o (λz=>(hch c z).2.2.1 x c e rfl) ho (I.freeC x c e)
 .obtain⟨e,n,ne,nf,d⟩:=I.pin p hp;have nch:p.1∉ch:=λz=>(hch p.1 z).2.2.2 p hp rfl
  exact⟨keep p.1 p.2 ne nf nch e n,free p.1 p.2 nch e n,ne,nf,d⟩
theorem Inv.un(I:Inv X pI Y H s)(u:Un X.fs [] H H' s.heap h')(hok:HOk X.prog X.w H' h'):Inv X pI Y H' {s with heap:=h',toks:=t'}:=by
 obtain⟨m,⟨o,es,ep,ho,r⟩,_⟩:=id I.loc;obtain⟨sl,hL⟩:=u.any ho I.free (by simp)
 exact I.step (g':=s.gens) (d':=s.drawn) (ch:=[]) (λ_ z=>nomatch z) (λb o _ hb _ e n=>u.keep b o e n hb (by simp)) (λb o _ hb _ e n=>u.slot b o e n hb (by simp)) (λb o _ e n=>u.free b o e n (by simp)) (λb o _ e=>u.there b o e (by simp)) u.tups u.frzs u.tbls (λm' hm=>by
  obtain⟨o',es',ep',ho',r'⟩:=hm;rw[ho]at ho';cases ho';exact⟨_,es',ep',hL,r'⟩) hok I.bare
theorem Inv.call(I:Inv X pI Y H s)(u:Un (frs X.stack) ch H H' s.heap h')(hok:HOk X.prog X.w H' h')(hg:EE g')(hch:∀ b∈ch,(b∈X.ex\/X.s₀.heap.objs.size<=b)/\b≠X.env.locals/\(∀ x c,X.env.cells.lookup x=Aa c->c≠b)/\∀ p∈X.pn++pI,p.1≠b):Inv X pI Y H' {s with heap:=h',gens:=g',drawn:=d',toks:=t'}:=by
 obtain⟨m,⟨o,es,ep,ho,r⟩,_⟩:=id I.loc;obtain⟨sl,hL⟩:=u.any ho I.free λz=>(hch _ z).2.1 rfl
 exact I.step (ch:=ch) hch (λb o hL hb hc e n=>u.keep b o e n (λz=>(AG.mp (I.stkSub b z)).elim hL hb) hc) (λb o _ _ hc e n=>u.any e n hc) (λb o hc e n=>u.free b o e n hc) (λb o hc e=>u.there b o e hc) u.tups u.frzs u.tbls (λm' hm=>by
  obtain⟨o',es',ep',ho',r'⟩:=hm;rw[ho]at ho';cases ho';exact⟨_,es',ep',hL,r'⟩) hok hg
theorem Inv.turned(I:Inv X pI Y H s)(k:∀ b o,b≠it->s.heap.get? b=Aa o->h'.get? b=Aa o)(hn:H it=Ae)(hL:it≠X.env.locals)(h1:it∈X.ex\/X.s₀.heap.objs.size<=it)(h2:∀ x c,X.env.cells.lookup x=Aa c->c≠it)(h3:∀ p∈X.pn++pI,p.1≠it):Inv X pI Y H {s with heap:=h',toks:=t'}:=by
 have nit:∀ b u,H b=Aa u->b≠it:=λb u e z=>by rw[z,hn]at e;cases e
 refine I.step (g':=s.gens) (d':=s.drawn) (ch:=[it]) (λb hb=>?_) (λb o _ _ hc e _=>k b o (λz=>hc (by simp[z])) e) (λb o _ _ hc e _=>⟨o.slots,k b o (λz=>hc (by simp[z])) e⟩) (λ_ _ _ _ n=>n)
  (λb o hc e=>⟨o,k b o (λz=>hc (by simp[z])) e⟩) (λ_ _ e=>e) (λ_ _ _ e=>e) (λb ps e=>⟨#[],by rw[e];simp⟩) (λm hm=>?_) (λb u e=>?_) I.bare
 .have e:b=it:=by simpa using hb
  subst e;exact⟨h1,hL,h2,h3⟩
 .obtain⟨o,es,ep,ho,r⟩:=hm;exact⟨o,es,ep,k _ o (CV hL) ho,r⟩
 .refine(I.hok b u e).stay (λc v hc q=>k c v ?_ q) (λ_ q=>q) λ_ _ q=>q
  rcases hc with z|z
  .rw[z];exact nit b u e
  .exact nit c _ z
theorem Inv.tok(I:Inv X pI Y H s)(t:Af):Inv X pI Y H {s with toks:=t}:=I.un (h':=s.heap) (t':=t) Un.refl I.hok
theorem Inv.kept{t':Af}(I:Inv X pI Y H s)(k:∀ b u,s.heap.get? b=Aa u->h'.get? b=Aa u):Inv X pI Y H {s with heap:=h',toks:=t'}:=I.un (Un.kept k) (I.hok.kept k)
theorem Inv.laid{a:Ak}{o:HO}{t':Af}(I:Inv X pI Y H s)(k:∀ b u,s.heap.get? b=Aa u->h'.get? b=Aa u)(hp:s.heap.objs.size<=a)(new:ObjOk X.prog X.w (upd H a o) h' a o):Inv X pI Y (upd H a o) {s with heap:=h',toks:=t'}:=I.un (Un.laid k hp (I.hok.fresh hp)) (I.hok.laid k hp new)
theorem Inv.write{x e:Ak}{o:HO}{t':Af}(I:Inv X pI Y H s)(mu:Mut (H x))(he:e=x\/H e=Aa (.own x))(k:∀ b u,b≠e->s.heap.get? b=Aa u->h'.get? b=Aa u)(heo:∃ u,h'.get? e=Aa u)(new:ObjOk X.prog X.w (upd H x o) h' x o):Inv X pI Y (upd H x o) {s with heap:=h',toks:=t'}:=I.un (Un.write mu he k heo) (I.hok.write mu he k heo new)
theorem Inv.pins_of{pins':Pn}(I:Inv X pI Y H s)(h:∀ p∈pins',s.heap.get? p.1=Aa p.2/\H p.1=Ae/\p.1≠X.env.locals/\p.1∉X.fs/\∀ v,p.2.data≠.cell v):Inv X pins' Y H s:=
 ⟨I.ok,I.os,I.bare,I.base,I.loc,I.cell,I.free,I.freeC,λp hp=>(Fb.mp hp).elim (λz=>I.pin p (Fc _ z)) (h p),I.hok,I.len⟩
theorem MO{N:Ac Ag}(hN:N.Nodup){j:Af}(a:N[i]?=Aa x)(b:N[j]?=Aa x):i=j:=by
 obtain⟨h1,e1⟩:=AW.mp a;obtain⟨h2,e2⟩:=AW.mp b;exact(List.getElem_inj hN).mp (e1.trans e2.symm)
theorem O9{A:AQ}{E:Vq}(I:Inv X pI Y H s)(hN:X.N.Nodup)(hi:X.N[i]?=Aa x)(hx:Loc X.env.scope x)(r:Bm v u)(h:∀ s',Inv X pI (Y.set i (Aa v)) H s'->(∃ a,Eo a s.heap s'.heap/\(a=X.env.locals\/X.env.cells.lookup x=Aa a))->Q () s')(hf:X.fn x=Ab\/X.env.scope.names.lookup x=Aa .local:=by first|exact .inl rfl|exact .inr rfl|assumption):Au M A (storeName X.env x u) Q E s:=by
 obtain⟨m,hn,hl⟩:=id I.loc;have hcls:(X.env.scope.kind==.class||(X.env.scope.kind==.module&&X.env.locals != X.env.globals))=Ad:=by rw[I.ok.kind];rfl
 have hiσ:i<Y.length:=by rw[I.len];exact(AW.mp hi).1
 have cne:=I.cne;have tracked:∀{a:Ak}{h':AA},(∃ o,s.heap.get? a=Aa o/\H a=Ae)->Eo a s.heap h'->HOk X.prog X.w H h':=λ{a h'} ha hs b ob e=>by
  obtain⟨_,_,hfree⟩:=ha;refine(I.hok b ob e).stay (λc w' hc q=>(hs.2 c ?_).trans q) (λ_ q=>q) λ_ _ q=>q
  rintro rfl;rcases hc with rfl|hc
  .rw[hfree]at e;cases e
  .rw[hfree]at hc;cases hc
 rcases hx with hk|hk
 .refine wpAny_storeName_local hk hn (λh' hn' hs=>?_) hcls
  obtain⟨oL,_,_,hoL,_⟩:=id hn;refine h _ ⟨I.ok,I.os,I.bare,⟨λb o e n hb hx=>?_,λb o e n hb hx=>?_,I.base.free,λb o e hx=>?_,I.base.tups,I.base.frzs,I.base.tbls⟩,⟨_,hn',λj y v' e1 e2 e3=>?_⟩,λy c e=>?_,I.free,I.freeC,λp hp=>?_,tracked ⟨oL,hoL,I.free⟩ hs,by simpa using I.len⟩ ⟨_,hs,.inl rfl⟩
  .exact(hs.2 b (Be (AJ (AD e) I.ok.above))).trans (I.base.keep b o e n hb hx)
  .obtain⟨sl,e1⟩:=I.base.slot b o e n hb hx;exact⟨sl,(hs.2 b (Be (AJ (AD e) I.ok.above))).trans e1⟩
  .obtain⟨o',e1⟩:=I.base.there b o e hx;exact⟨o',(hs.2 b (Be (AJ (AD e) I.ok.above))).trans e1⟩
  .by_cases hj:j=i
   .subst hj;rw[hi]at e1;cases e1;rw[B7 hiσ]at e2;cases e2;exact⟨u,r,.inl ⟨hk,by simp⟩⟩
   .rw[Fa (CV hj)]at e2;obtain⟨u',r',q⟩:=hl j y v' e1 e2 e3;refine⟨u',r',?_⟩;rcases q with ⟨k,e⟩|⟨k,c,e,z⟩
    .refine .inl ⟨k,?_⟩;have:y≠x:=λe=>hj (MO hN e1 (e ▸ hi))
     simp[this,e]
    .exact .inr ⟨k,c,e,z.sameBut hs (cne y c e)⟩
  .obtain⟨w',z⟩:=I.cell y c e;exact⟨w',z.sameBut hs (cne y c e)⟩
  .obtain⟨e,n,ne,nf,d⟩:=I.pin p hp;exact⟨(hs.2 p.1 ne).trans e,n,ne,nf,d⟩
 .have hfn:X.fn x=Ab:=by
   rcases hf with z|z
   .exact z
   .rw[z]at hk;cases hk
  obtain⟨c,hc⟩:=I.ok.has x (.inl hk);obtain⟨w',z⟩:=I.cell x c hc;refine wpAny_storeName_cell I.ok.kind hk hc z (λh' hc' hs=>?_)
  obtain⟨oc,hoc,hocd⟩:=id z;refine h {s with heap:=h'} ⟨I.ok,I.os,I.bare,⟨λb o e n hb hx=>?_,λb o e n hb hx=>?_,I.base.free,λb o e hx=>?_,I.base.tups,I.base.frzs,I.base.tbls⟩,⟨m,hn.sameBut hs (CV (cne x c hc)),λj y v' e1 e2 e3=>?_⟩,λy c' e=>?_,I.free,I.freeC,λp hp=>?_,tracked ⟨oc,hoc,I.freeC x c hc⟩ hs,by simpa using I.len⟩ ⟨c,hs,.inr hc⟩
  .exact(hs.2 b (Be (AJ (AD e) (I.ok.cab x c hfn hc)))).trans (I.base.keep b o e n hb hx)
  .obtain⟨sl,e1⟩:=I.base.slot b o e n hb hx;exact⟨sl,(hs.2 b (Be (AJ (AD e) (I.ok.cab x c hfn hc)))).trans e1⟩
  .obtain⟨o',e1⟩:=I.base.there b o e hx;exact⟨o',(hs.2 b (Be (AJ (AD e) (I.ok.cab x c hfn hc)))).trans e1⟩
  .by_cases hj:j=i
   .subst hj;rw[hi]at e1;cases e1;rw[B7 hiσ]at e2;cases e2;exact⟨u,r,.inr ⟨.inl hk,c,hc,hc'⟩⟩
   .rw[Fa (CV hj)]at e2;obtain⟨u',r',q⟩:=hl j y v' e1 e2 e3;refine⟨u',r',?_⟩;rcases q with q|⟨k,c',e,z'⟩
    .exact .inl q
    .refine .inr ⟨k,c',e,z'.sameBut hs ?_⟩;rintro rfl;exact hj (MO hN e1 (I.ok.inj _ _ _ e hc ▸ hi))
  .by_cases hcc:c'=c
   .subst hcc;exact⟨_,hc'⟩
   .obtain⟨w2,z2⟩:=I.cell y c' e;exact⟨w2,z2.sameBut hs hcc⟩
  .obtain⟨e,n,ne,nf,d⟩:=I.pin p hp;refine⟨(hs.2 p.1 ?_).trans e,n,ne,nf,d⟩;intro q;rw[q,hoc]at e;have q':oc=p.2:=Bc e;exact d w' (by rw[<-q'];exact hocd)
theorem Mt{A:AQ}{E:Vq}(I:Inv X pI Y H s)(hN:X.N.Nodup)(hi:X.N[i]?=Aa x)(hx:Loc X.env.scope x)(r:Bm v u)(h:∀ s',Inv X pI (Y.set i (Aa v)) H s'->Q () s')(hf:X.fn x=Ab\/X.env.scope.names.lookup x=Aa .local:=by first|exact .inl rfl|exact .inr rfl|assumption):Au M A (storeName X.env x u) Q E s:=
 O9 I hN hi hx r (λs' I' _=>h s' I') hf
theorem Inv.call'{s':Ao}(I:Inv X pI Y H s)(ho:s'.os=s.os)(u:Un (frs X.stack) ch H H' s.heap s'.heap)(hok:HOk X.prog X.w H' s'.heap)(hg:EE s'.gens)(hch:∀ b∈ch,(b∈X.ex\/X.s₀.heap.objs.size<=b)/\b≠X.env.locals/\(∀ x c,X.env.cells.lookup x=Aa c->c≠b)/\∀ p∈X.pn++pI,p.1≠b):Inv X pI Y H' s':=by
 obtain⟨h',g',d',t',o'⟩:=s';have e:o'=s.os:=ho;subst e;exact I.call (g':=g') (t':=t') (d':=d') u hok hg hch
end
abbrev XK:=Aj->An Ak->Hp->Prop
abbrev St:=Ac (An V)
variable{Y:St}
abbrev VK:=V->Hp->Prop
abbrev TE:=St->Hp->VK->Prop
abbrev TT:=St->Hp->(Ai->Hp->Prop)->Prop
variable{tc:TT}
abbrev TA:=St->Hp->(Ac V->Hp->Prop)->Prop
variable{ta:TA}
structure Ends where
 nx:St->Hp->Prop
 rt:VK
 bk:St->Hp->Prop:=λ_ _=>AV
 ct:St->Hp->Prop:=λ_ _=>AV
abbrev TS:=Ends->St->Hp->Prop
variable{tb:TS}
def EP(X:Cx)(pI:Pn)(Y:St)(Q:VK)(u:Aj)(s':Ao):Prop:=∃ v H',Inv X pI Y H' s'/\Bm v u/\Q v H'
def TP(X:Cx)(pI:Pn)(Y:St)(Q:Ai->Hp->Prop)(b:Ai)(s':Ao):Prop:=∃ H',Inv X pI Y H' s'/\Q b H'
def AP(X:Cx)(pI:Pn)(Y:St)(Q:Ac V->Hp->Prop)(us:Ac Aj)(s':Ao):Prop:=∃ vs H',Inv X pI Y H' s'/\AX vs us/\Q vs H'
noncomputable def SP(X:Cx)(pI:Pn)(D:Ends)(f:Flow)(s':Ao):Prop:=
  match f with
  |.next=>∃ Y' H',Inv X pI Y' H' s'/\D.nx Y' H'
  |.brk=>∃ Y' H',Inv X pI Y' H' s'/\D.bk Y' H'
  |.cont=>∃ Y' H',Inv X pI Y' H' s'/\D.ct Y' H'
  |.ret u=>∃ v Y' H',Inv X pI Y' H' s'/\Bm v u/\D.rt v H'
noncomputable def PE(X:Cx)(e:Am)(t:TE):Prop:=
 ∀(pI:Pn)(s:Ao)(Y:St)(H:Hp)(Q:VK),Inv X pI Y H s->t Y H Q->Au (model X.prog X.w) X.A (eval e X.env) (EP X pI Y Q) X.xe s
noncomputable def PT(X:Cx)(e:Am)(t:TT):Prop:=
 ∀(pI:Pn)(s:Ao)(Y:St)(H:Hp)(Q:Ai->Hp->Prop),Inv X pI Y H s->t Y H Q->Au (model X.prog X.w) X.A (GX e X.env (eval e X.env)) (TP X pI Y Q) X.xe s
noncomputable def PW(X:Cx)(e:Am)(t:TT):Prop:=
 ∀(whole:Ff Aj)(pI:Pn)(s:Ao)(Y:St)(H:Hp)(Q:Ai->Hp->Prop),Inv X pI Y H s->t Y H Q->Au (model X.prog X.w) X.A (GX e X.env whole) (TP X pI Y Q) X.xe s
theorem PW.pt{t:TT}(h:PW X e t):PT X e t:=h _
noncomputable def PA(X:Cx)(es:Ac Am)(t:TA):Prop:=
 ∀(pos:Az)(pI:Pn)(s:Ao)(Y:St)(H:Hp)(Q:Ac V->Hp->Prop),Inv X pI Y H s->t Y H Q->Au (model X.prog X.w) X.A (spliced (Bq pos (Aq es X.env))) (AP X pI Y Q) X.xe s
noncomputable def PS(X:Cx)(st:AC)(t:TS):Prop:=
 ∀(pI:Pn)(s:Ao)(Y:St)(H:Hp)(D:Ends),Inv X pI Y H s->t D Y H->Au (model X.prog X.w) X.A (exec st X.env) (SP X pI D) X.xe s
noncomputable def PSs(X:Cx)(st:Ac AC)(t:TS):Prop:=
 ∀(pI:Pn)(s:Ao)(Y:St)(H:Hp)(D:Ends),Inv X pI Y H s->t D Y H->Au (model X.prog X.w) X.A (execs st X.env) (SP X pI D) X.xe s
theorem thn{α:Type}{t:Ff α}{Q Q':α->Ao->Prop}{A:AQ}{E:Vq}(h:Au M A t Q E s)(hQ:∀ a s,Q a s->Q' a s):Au M A t Q' E s:=A2 h hQ λ_ _ x=>x
section
variable{X:Cx}
def DZ(i:Af):TE:=λY H Q=>∃ v,Y[i]?=Aa (Aa v)/\Q v H
def tC(v:V):TE:=λ_ H Q=>Q v H
theorem Je(hN:X.N[i]?=Aa x)(hv:Vis X.env.scope x)(hd:(x==("__debug__" : Ag))=Ad:=by decide)(hcd:(x==("__classdict__" : Ag))=Ad:=by decide):PE X (.Name x pos) (DZ i):=by
 intro pI s Y H Q I h;obtain⟨v,e,h⟩:=h;obtain⟨m,hn,hl⟩:=I.loc;obtain⟨u,r,l⟩:=hl i x v hN e hv;have fin:EP X pI Y Q u s:=⟨v,H,I,r,h⟩;rcases l with ⟨hk,hm⟩|⟨hk,c,hc,hcell⟩
 .exact IP (wpAny_loadName_local I.ok.kind hk hn hm fin) hd
 .rcases hk with hk|hk
  .exact IP (wpAny_loadName_cell I.ok.kind hk hc hcell fin) hd
  .exact IP (wpAny_loadName_free I.ok.kind hk hc hcell fin hcd) hd
theorem eA{i j pos}:PE X (.Constant (.int i) j pos) (tC (.int i)):=λ_ _ _ H _ I h=>wpAny_Constant_int ⟨.int i,H,I.tok _,⟨_,rfl⟩,h⟩
theorem iO{b j pos}:PE X (.Constant (.bool b) j pos) (tC (.bl b)):=λ_ _ _ H _ I h=>Constant_bool ⟨.bl b,H,I,rfl,h⟩
theorem dY{j pos}:PE X (.Constant .none j pos) (tC .non):=λ_ _ _ H _ I h=>Constant_none ⟨.non,H,I,rfl,h⟩
theorem Lc{x j pos}:PE X (.Constant (.str x) j pos) (tC (.str x)):=λ_ _ _ H _ I h=>Calls.Constant_str ⟨.str x,H,I.tok _,⟨_,rfl⟩,h⟩
def Gl(X:Cx)(x:Ag):Prop:=X.env.kindOf x=Aa .globalImplicit
theorem GH{E:Vq}{Q:Vq}(I:Inv X pI Y H s)(hg:Gl X x)(hm:X.mg x=Aa u)(h:Q u s)(hd:(x==("__debug__" : Ag))=Ad:=by decide):Au (model X.prog X.w) X.A (eval (.Name x pos) X.env) Q E s:=
 Uu I.ok.kind hg (Calls.loadGlobal_global (by rw[I.ok.glob];exact I.mod.glob.keeps I.bk) hm h) hd
theorem Jh{E:Vq}{Q:Vq}(I:Inv X pI Y H s)(hg:Gl X x)(hm:X.mg x=Ae)(hv:Cq x=Aa u)(h:Q u s)(hn:x≠"__name__" := by decide)(hd:(x==("__debug__" : Ag))=Ad:=by decide):Au (model X.prog X.w) X.A (eval (.Name x pos) X.env) Q E s:=by
 obtain⟨mb,h1,h2⟩:=I.mod.blt;exact Uu I.ok.kind hg (Calls.loadGlobal_builtin (by rw[I.ok.glob];exact I.mod.glob.keeps I.bk) hm (by rw[I.ok.blt];exact h1.keeps I.bk) ((h2 x hn).trans hv) h) hd
theorem M8(hg:Gl X x)(hm:X.mg x=Aa u)(r:Bm v u)(hd:(x==("__debug__" : Ag))=Ad:=by decide):PE X (.Name x pos) (tC v):=
 λ_ _ _ H _ I h=>GH I hg hm ⟨v,H,I,r,h⟩ hd
theorem Qm(hg:Gl X x)(hm:X.mg x=Ae)(hv:Cq x=Aa u)(r:Bm v u)(hn:x≠"__name__" := by decide)(hd:(x==("__debug__" : Ag))=Ad:=by decide):PE X (.Name x pos) (tC v):=
 λ_ _ _ H _ I h=>Jh I hg hm hv ⟨v,H,I,r,h⟩ hn hd
variable{a b:Am}{ta tb:TE}{pos:Az}
variable{tA tB':TT}{rest:Ac Am}
def mG(t u:TT):TT:=λY H Q=>t Y H λc H1=>if c=Ab then u Y H1 Q else Q Ad H1
def tOr(t u:TT):TT:=λY H Q=>t Y H λc H1=>if c=Ab then Q Ab H1 else u Y H1 Q
def mB(t:TT):TT:=λY H Q=>t Y H λc H1=>Q (!c) H1
theorem Yo(ha:PT X a tA):PW X (.BoolOp .And [a] pos) tA:=by
 intro wh pI s Y H Q I h;refine isTrue_and (thn (ha pI s Y H Q I h) λc s1 e=>?_)
 cases c with
 |true=>exact isTrue_and_nil e
 |false=>exact e
theorem dO(ha:PT X a tA):PW X (.BoolOp .Or [a] pos) tA:=by
 intro wh pI s Y H Q I h;refine isTrue_or (thn (ha pI s Y H Q I h) λc s1 e=>?_)
 cases c with
 |false=>exact isTrue_or_nil e
 |true=>exact e
theorem dP(ha:PT X a tA)(hb:PW X (.BoolOp .And (b::rest) pos) tB'):PW X (.BoolOp .And (a::b::rest) pos) (mG tA tB'):=by
 intro wh pI s Y H Q I h;refine isTrue_and (thn (ha pI s Y H _ I h) λc s1 ⟨H1,I1,q1⟩=>?_)
 cases c with
 |true=>exact hb wh pI s1 Y H1 Q I1 q1
 |false=>exact⟨H1,I1,q1⟩
theorem iI(ha:PT X a tA)(hb:PW X (.BoolOp .Or (b::rest) pos) tB'):PW X (.BoolOp .Or (a::b::rest) pos) (tOr tA tB'):=by
 intro wh pI s Y H Q I h;refine isTrue_or (thn (ha pI s Y H _ I h) λc s1 ⟨H1,I1,q1⟩=>?_)
 cases c with
 |true=>exact⟨H1,I1,q1⟩
 |false=>exact hb wh pI s1 Y H1 Q I1 q1
theorem dQ(ha:PT X a tA):PT X (.UnaryOp .Not a pos) (mB tA):=by
 intro pI s Y H Q I h;exact isTrue_not (ha pI s Y H (λc H1=>Q (!c) H1) I h)
def gJ(ta tb:TE):TE:=λY H Q=>ta Y H λx H1=>∃ c,x=.bl c/\if c=Ab then tb Y H1 Q else Q (.bl Ad) H1
def lZ(ta tb:TE):TE:=λY H Q=>ta Y H λx H1=>∃ c,x=.bl c/\if c=Ab then Q (.bl Ab) H1 else tb Y H1 Q
def gE(ta:TE):TE:=λY H Q=>ta Y H λx H1=>∃ c,x=.bl c/\Q (.bl (!c)) H1
theorem dW{op}{t:TE}(h:PE X a t):PE X (.BoolOp op [a] pos) t:=λpI s Y H Q I hw=>BoolOp_one (h pI s Y H Q I hw)
theorem eB(ha:PE X a ta)(hb:PE X (.BoolOp .And (b::rest) pos) tb):PE X (.BoolOp .And (a::b::rest) pos) (gJ ta tb):=by
 intro pI s Y H Q I h;refine BoolOp_and (thn (ha pI s Y H _ I h) λv s1 ⟨x,H1,I1,r1,q1⟩=>?_)
 obtain⟨c,rfl,q1⟩:=q1;cases r1;refine Ci ?_;cases c with
 |true=>exact hb pI s1 Y H1 Q I1 q1
 |false=>exact⟨.bl Ad,H1,I1,rfl,q1⟩
theorem iM(ha:PE X a ta)(hb:PE X (.BoolOp .Or (b::rest) pos) tb):PE X (.BoolOp .Or (a::b::rest) pos) (lZ ta tb):=by
 intro pI s Y H Q I h;refine BoolOp_or (thn (ha pI s Y H _ I h) λv s1 ⟨x,H1,I1,r1,q1⟩=>?_)
 obtain⟨c,rfl,q1⟩:=q1;cases r1;refine Ci ?_;cases c with
 |false=>exact hb pI s1 Y H1 Q I1 q1
 |true=>exact⟨.bl Ab,H1,I1,rfl,q1⟩
theorem dX(ha:PE X a ta):PE X (.UnaryOp .Not a pos) (gE ta):=by
 intro pI s Y H Q I h;refine UnaryOp_ (thn (ha pI s Y H _ I h) λv s1 ⟨x,H1,I1,r1,q1⟩=>?_)
 obtain⟨c,rfl,q1⟩:=q1;cases r1;exact not_of (Ci ⟨.bl (!c),H1,I1,rfl,q1⟩)
end
noncomputable def SqL(K:Fg)(H:Hp)(a:Ak)(xs:Ac V):Prop:=
 Rd H a (.lst xs) \/
  ∃(o:Cv)(its:A3 Aj)(n:Af),K.lookup a=Aa o/\o.cls=.type "list"/\o.dict=Ae/\o.data=.seq its n/\its.size<=sizeLine/\AX xs its.toList
noncomputable def SqT(K:Fg)(H:Hp)(a:Ak)(xs:Ac V):Prop:=
 Rd H a (.tup xs) \/
  ∃(o:Cv)(its:A3 Aj)(n:Af),K.lookup a=Aa o/\o.cls=.type "tuple"/\o.data=.seq its n/\its.size<=sizeLine/\AX xs its.toList
noncomputable def kW:Aj->An V
 |.none=>Aa .non
 |.bool b=>Aa (.bl b)
 |.int i _=>Aa (.int i)
 |.str x _=>Aa (.str x)
 |.bytes b _=>Aa (.byt b)
 |.float b _=>Aa (.flt b)
 |.ref a=>Aa (.ref a)
 |.type n=>Aa (.ty n)
 |_=>Ae
theorem Bm.abs{x:V}(r:Bm x u):kW u=Aa x:=by
 cases x with
 |non=>cases r;rfl
 |bl _=>cases r;rfl
 |int _=>obtain⟨t,rfl⟩:=r;rfl
 |str _=>obtain⟨t,rfl⟩:=r;rfl
 |byt _=>obtain⟨t,rfl⟩:=r;rfl
 |flt _=>obtain⟨t,rfl⟩:=r;rfl
 |ref _=>cases r;rfl
 |ty _=>cases r;rfl
theorem Bm.inj{x y:V}(r:Bm x u)(q:Bm y u):x=y:=Bc (r.abs.symm.trans q.abs)
theorem AX.inj:∀{xs ys:Ac V}{us:Ac Aj},AX xs us->AX ys us->xs=ys
 |_,_,_,.nil,.nil=>rfl
 |_,_,_,.cons r t,.cons r' t'=>by rw[r.inj r',AX.inj t t']
section
variable{X:Cx}{pI:Pn}{Y:St}{H:Hp}{s:Ao}{a:Ak}{xs ys:Ac V}
theorem SqL.of{K:Fg}(h:H a=Aa (.lst xs)):SqL K H a xs:=.inl (.inl h)
theorem SqT.of{K:Fg}(h:H a=Aa (.tup xs)):SqT K H a xs:=.inl (.inl h)
theorem Inv.list(I:Inv X pI Y H s)(h:SqL X.K H a xs):∃ its:Ac Aj,AX xs its/\PlainL s.heap a its.toArray/\xs.length<=sizeLine:=by
 rcases h with h|⟨o,its,n,hk,hc,hd,hs,hz,r⟩
 .obtain⟨z,its,n,r,e⟩:=h.ok I.hok;exact⟨its,r,⟨_,n,e,rfl,rfl,rfl⟩,z⟩
 .refine⟨its.toList,r,⟨o,n,I.kIn a o hk,hc,hd,by simpa using hs⟩,?_⟩
  have e:=r.length;simp only[Fs]at e;omega
theorem Inv.tuple(I:Inv X pI Y H s)(h:SqT X.K H a xs):∃ its:Ac Aj,AX xs its/\IG s.heap a its.toArray/\xs.length<=sizeLine:=by
 rcases h with h|⟨o,its,n,hk,hc,hs,hz,r⟩
 .obtain⟨z,its,r,p⟩:=h.ok I.hok;exact⟨its,r,p,z⟩
 .refine⟨its.toList,r,⟨o,I.kIn a o hk,hc,n,by simpa using hs⟩,?_⟩
  have e:=r.length;simp only[Fs]at e;omega
theorem Inv.list_inj(I:Inv X pI Y H s)(h:SqL X.K H a xs)(h':SqL X.K H a ys):xs=ys:=by
 obtain⟨its,r,⟨o,n,e,_,_,d⟩,_⟩:=I.list h;obtain⟨its',r',⟨o',n',e',_,_,d'⟩,_⟩:=I.list h';rw[e]at e';cases e';rw[d]at d'
 injection d' with d1 _
 have:its=its':=by simpa using congrArg Ht d1
 subst this;exact r.inj r'
theorem Inv.tuple_inj(I:Inv X pI Y H s)(h:SqT X.K H a xs)(h':SqT X.K H a ys):xs=ys:=by
 obtain⟨its,r,⟨o,e,_,n,d⟩,_⟩:=I.tuple h;obtain⟨its',r',⟨o',e',_,n',d'⟩,_⟩:=I.tuple h';rw[e]at e';cases e';rw[d]at d'
 injection d' with d1 _
 have:its=its':=by simpa using congrArg Ht d1
 subst this;exact r.inj r'
end
noncomputable abbrev Cx.wish(X:Cx)(E:Vq):Cx:={X with xe:=E}
noncomputable abbrev Cx.nox(X:Cx):Cx:=X.wish λ_ _=>AV
theorem Cx.Ok.wish(ok:X.Ok)(E:Vq):(X.wish E).Ok:=
 ⟨ok.mod,ok.kind,ok.glob,ok.blt,ok.above,ok.inj,ok.has,ok.cab,ok.hd,ok.frames,ok.stk,ok.exf,ok.bs,ok.bsz,ok.noex,ok.exfs,ok.funs,ok.frf⟩
theorem Cx.Ok.unwish{E:Vq}(ok:(X.wish E).Ok):X.Ok:=
 ⟨ok.mod,ok.kind,ok.glob,ok.blt,ok.above,ok.inj,ok.has,ok.cab,ok.hd,ok.frames,ok.stk,ok.exf,ok.bs,ok.bsz,ok.noex,ok.exfs,ok.funs,ok.frf⟩
section
variable{X:Cx}{pI:Pn}{Y:St}{H:Hp}{s:Ao}{E:Vq}
theorem Inv.wish(I:Inv X pI Y H s)(E:Vq):Inv (X.wish E) pI Y H s:=⟨I.ok.wish E,I.os,I.bare,I.base,I.loc,I.cell,I.free,I.freeC,I.pin,I.hok,I.len⟩
theorem Inv.unwish(I:Inv (X.wish E) pI Y H s):Inv X pI Y H s:=⟨I.ok.unwish,I.os,I.bare,I.base,I.loc,I.cell,I.free,I.freeC,I.pin,I.hok,I.len⟩
theorem SP.unwish{D:Ends}{f:Flow}{s':Ao}(h:SP (X.wish E) pI D f s'):SP X pI D f s':=by
 cases f with
 |next=>obtain⟨Y',H',I,q⟩:=h;exact⟨Y',H',I.unwish,q⟩
 |brk=>obtain⟨Y',H',I,q⟩:=h;exact⟨Y',H',I.unwish,q⟩
 |cont=>obtain⟨Y',H',I,q⟩:=h;exact⟨Y',H',I.unwish,q⟩
 |ret u=>obtain⟨v,Y',H',I,r,q⟩:=h;exact⟨v,Y',H',I.unwish,r,q⟩
theorem PSs.nox{st:Ac AC}{t:TS}(h:PSs X.nox st t):PSs X st t:=λpI s Y H D I hw=>
 A2 (h pI s Y H D (I.wish _) hw) (λ_ _ q=>q.unwish) λ_ _ z=>AZ z
end
section
variable{X:Cx}{st:AC}{rest:Ac AC}{t u:TS}{e:Am}{te:TE}{pos:Az}
def R6:TS:=λD Y H=>D.nx Y H
def lX(t u:TS):TS:=λD Y H=>t {D with nx:=u D} Y H
theorem Zv:PSs X [] R6:=λ_ _ Y H _ I h=>DF ⟨Y,H,I,h⟩
theorem Mw(h1:PS X st t)(h2:PSs X rest u):PSs X (st::rest) (lX t u):=by
 intro pI s Y H D I h;refine Go (thn (h1 pI s Y H {D with nx:=u D} I h) λf s1 q=>?_)
 cases f with
 |next=>
  obtain⟨Y',H',I',q⟩:=q;exact h2 pI s1 Y' H' D I' q
 |ret v=>exact q
 |brk=>exact q
 |cont=>exact q
theorem Ja(h1:PS X st t):PSs X [st] t:=by
 intro pI s Y H D I h;refine Go (thn (h1 pI s Y H D I h) λf s1 q=>?_)
 cases f with
 |next=>exact DF q
 |ret v=>exact q
 |brk=>exact q
 |cont=>exact q
theorem Zy:PS X (.Pass pos) R6:=λ_ _ Y H _ I h=>wpAny_Pass ⟨Y,H,I,h⟩
theorem Inv.quiet(I:Inv X pI Y H s):interactive X.env=Ad:=by simp[interactive,I.ok.kind]
def gF(te:TE):TS:=λD Y H=>te Y H λ_ H1=>D.nx Y H1
theorem JP(he:PE X e te)(hs:CB e Ae pos.line X.env=pure Ad:=by rfl):PS X (.Expr e pos) (gF te):=by
 intro pI s Y H D I h;exact wpAny_Expr_any (thn (he pI s Y H _ I h) λv s1 ⟨x,H1,I1,r1,q1⟩=>⟨Y,H1,I1,q1⟩) I.quiet hs
def lY(te:TE):TS:=λD Y H=>te Y H D.rt
theorem Nj(he:PE X e te):PS X (.Return (Aa e) pos) (lY te):=by
 intro pI s Y H D I h;exact wpAny_Return_some (thn (he pI s Y H _ I h) λv s1 ⟨x,H1,I1,r1,q1⟩=>⟨x,Y,H1,I1,r1,q1⟩)
def mE(c:TT)(t u:TS):TS:=λD Y H=>c Y H λb H1=>if b=Ab then t D Y H1 else u D Y H1
theorem iK{a b:Ac AC}(hc:PT X c tc)(ha:PSs X a t)(hb:PSs X b u):PS X (.If c a b pos) (mE tc t u):=by
 intro pI s Y H D I h;refine wpAny_If (thn (hc pI s Y H _ I h) λd s1 ⟨H1,I1,q1⟩=>?_)
 cases d with
 |true=>exact ha pI s1 Y H1 D I1 q1
 |false=>exact hb pI s1 Y H1 D I1 q1
end
abbrev TG:=V->St->Hp->(St->Hp->Prop)->Prop
abbrev TGs:=Ac V->St->Hp->(St->Hp->Prop)->Prop
noncomputable def PG(X:Cx)(target:Am)(t:TG):Prop:=
 ∀(pI:Pn)(s:Ao)(Y:St)(H:Hp)(v:V)(u:Aj)(Q:St->Hp->Prop),Inv X pI Y H s->Bm v u->t v Y H Q ->
  Au (model X.prog X.w) X.A (assign target X.env u) (λ_ s'=>∃ Y' H',Inv X pI Y' H' s'/\Q Y' H') X.xe s
noncomputable def PGs(X:Cx)(ts:Ac Am)(t:TGs):Prop:=
 ∀(pI:Pn)(s:Ao)(Y:St)(H:Hp)(vs:Ac V)(us:Ac Aj)(Q:St->Hp->Prop),Inv X pI Y H s->AX vs us->t vs Y H Q ->
  Au (model X.prog X.w) X.A (assignInOrder ((Dg ts X.env).map (·.2)) us) (λ_ s'=>∃ Y' H',Inv X pI Y' H' s'/\Q Y' H') X.xe s
section
variable{X:Cx}{pos:Az}
def ES(i:Af):TG:=λv Y H Q=>Q (Y.set i (Aa v)) H
theorem JQ(hN:X.N.Nodup)(hi:X.N[i]?=Aa x)(hx:Loc X.env.scope x)(hf:X.fn x=Ab\/X.env.scope.names.lookup x=Aa .local:=by first|exact .inl rfl|exact .inr rfl|assumption):PG X (.Name x pos) (ES i):=by
 intro pI s Y H v u Q I r h;exact VV (Mt I hN hi hx r (λs' I'=>⟨_,H,I',h⟩) hf)
def Hk:TGs:=λvs Y H Q=>vs=[]/\Q Y H
def Hh(t:TG)(u:TGs):TGs:=λvs Y H Q=>∃ v r,vs=v::r/\t v Y H λY' H'=>u r Y' H' Q
theorem Qk:PGs X [] Hk:=by
 intro pI s Y H vs us Q I r h;obtain⟨e,h⟩:=h;subst e;cases r;exact assignInOrder_nil ⟨Y,H,I,h⟩
theorem PL{t:TG}{u:TGs}(h1:PG X e t)(h2:PGs X es u)(hs:(Dg (e::es) X.env).map (·.2)=assign e X.env::(Dg es X.env).map (·.2):=by rfl):PGs X (e::es) (Hh t u):=by
 intro pI s Y H vs us Q I r h;obtain⟨v,vr,e1,h⟩:=h;subst e1;cases r with
 |cons r rr=>
  rw[hs];refine assignInOrder_cons (thn (h1 pI s Y H _ _ _ I r h) λ_ s1 ⟨Y1,H1,I1,q1⟩=>?_)
  exact h2 pI s1 Y1 H1 _ _ Q I1 rr q1
def Kv(K:Fg)(n:Af)(t:TGs):TG:=λv Y H Q=>∃ a xs,v=.ref a/\SqT K H a xs/\xs.length=n/\t xs Y H Q
theorem Ri{t:TGs}(hc:X.calm=Ab)(h:PGs X es t)(hn:(Dg es X.env).length=n:=by rfl)(hst:(Dg es X.env).findIdx? (·.1)=Ae:=by rfl):PG X (.Tuple es k pos) (Kv X.K n t):=by
 intro pI s Y H v u Q I r hw;obtain⟨a,xs,e1,hq,hl,hw⟩:=hw;subst e1;cases r;obtain⟨its,rv,ht,hz⟩:=I.tuple hq;refine assign_Tuple_tuple (I.ok.hd hc) ht (by simp[hn,<-hl,rv.length]) hst λh' hx=>?_
 have I1:Inv X pI Y H {s with heap:=h'}:=I.kept (t':=s.toks) λb o e=>hx b o (Be (AD e)) e
 exact h pI _ Y H xs _ Q I1 (by simpa using rv) hw
def Oh(te:TE)(g:TG):TS:=λD Y H=>te Y H λx H1=>g x Y H1 D.nx
theorem Lb{te:TE}{pos':Az}(hN:X.N.Nodup)(hi:X.N[i]?=Aa x)(hx:Loc X.env.scope x)(he:PE X e te)(hs:CB e (Aa (.Name x pos')) pos.line X.env=pure Ad:=by rfl)(hf:X.fn x=Ab\/X.env.scope.names.lookup x=Aa .local:=by first|exact .inl rfl|exact .inr rfl|assumption):PS X (.Assign [.Name x pos'] e pos) (Oh te (ES i)):=by
 intro pI s Y H D I h;refine wpAny_Assign_Name (thn (he pI s Y H _ I h) λv s1 ⟨y,H1,I1,r1,q1⟩=>?_) hs
 exact Mt I1 hN hi hx r1 (λs2 I2=>⟨_,H1,I2,q1⟩) hf
end
section
variable{X:Cx}{pos:Az}
def bR(c:TT)(tb:TS):TS:=λD Y H=>∃ W:Af->St->Hp->Prop,(∃ m,W m Y H)/\∀ m Y H,W m Y H ->
 c Y H λb H1=>if b=Ab then ∃ N:St->Hp->Prop,(∀ Y' H',N Y' H'->∃ m',m'<m/\W m' Y' H')/\tb {D with nx:=N,ct:=N,bk:=D.nx} Y H1 else D.nx Y H1
theorem XS(hp:Dl (model X.prog X.w) X.A X.env X.xe)(hc:PT X c tc)(hb:PSs X body tb):PS X (.While c body [] pos) (bR tc tb):=by
 intro pI s Y H D I h;obtain⟨W,⟨m0,w0⟩,turn⟩:=h;refine wpAny_While (codeAny_whileLoop (λn s'=>∃ Y' H',Inv X pI Y' H' s'/\W n Y' H') ?_ m0 ⟨Y,H,I,w0⟩)
 rintro n s1 ⟨Y1,H1,I1,w1⟩;refine CZ hp (thn (hc pI s1 Y1 H1 _ I1 (turn n Y1 H1 w1)) λb s2 ⟨H2,I2,q2⟩=>?_)
 cases b with
 |true=>
  obtain⟨N,hN,q2⟩:=q2;rw[AE rfl];refine CZ hp (thn (hb pI s2 Y1 H2 _ I2 q2) λf s3 q3=>?_)
  cases f with
  |next=>
   obtain⟨Y3,H3,I3,n3⟩:=q3;obtain⟨m',hm,w3⟩:=hN Y3 H3 n3;exact⟨m',hm,Y3,H3,I3,w3⟩
  |cont=>
   obtain⟨Y3,H3,I3,n3⟩:=q3;obtain⟨m',hm,w3⟩:=hN Y3 H3 n3;exact⟨m',hm,Y3,H3,I3,w3⟩
  |brk=>exact q3
  |ret v=>exact q3
 |false=>
  rw[AO Av];exact DF ⟨Y1,H2,I2,q2⟩
end
structure It where
 go:Af->Hp->Prop
 yld:Af->Hp->V->Hp->Prop
 stop:Af->Hp->Prop
noncomputable def F0(X:Cx)(pI:Pn)(H:Hp)(b:Ak):Prop:=
 H b=Ae/\b≠X.env.locals/\b∉X.fs/\(b∈X.ex\/X.s₀.heap.objs.size<=b)/\(∀ x c,X.env.cells.lookup x=Aa c->c≠b)/\∀ p∈X.pn++pI,p.1≠b
theorem Inv.fpOk{H':Hp}(I:Inv X pI Y H s)(hb:s.heap.objs.size<=b)(hn:H' b=Ae):F0 X pI H' b:=by
 refine⟨hn,Gi (AJ I.lt hb),I.nofs hb,.inr (BD I.sz hb),λx c e z=>?_,λp hp z=>?_⟩
 .obtain⟨v,q⟩:=I.cell x c e;exact absurd (AJ q.lt (by rw[z];exact hb)) (Bf _)
 .exact absurd (AJ (AD (I.pin p hp).1) (by rw[z];exact hb)) (Bf _)
structure Turn (P:AF) (w:AS) (K:Fg) (tg:Am) (J:It) (fp:Ac Ak) (it:Ak) (tn:Af->AA->Prop):Prop where
 mem:it∈fp
 obj:∀ i h,tn i h->∀ b∈fp,∃ o,h.get? b=Aa o/\∀ v,o.data≠.cell v
 keep:∀ i h h',tn i h->(∀ b∈fp,∀ o,h.get? b=Aa o->h'.get? b=Aa o)->tn i h'
 item:∀(X:Cx),X.prog=P->X.w=w->X.K=K->X.calm=Ab->∀(i:Af)(pI:Pn)(s:Ao)(Y:St)(H:Hp)(E:Vq),Inv X pI Y H s->(∀ b∈fp,F0 X pI H b)->tn i s.heap->J.go i H ->
  Au (model P w) X.A (pyNext (.ref it)) (λr s1=>∃ u,r=Aa u /\
   Au (model P w) X.A (Fi tg (.ref it) u) (λ_ s2=>∃ x H',Inv X pI Y H' s2/\Bm x u/\J.yld i H x H'/\tn (i+1) s2.heap/\∀ b∈fp,H' b=Ae) E s1) E s
 done:∀(X:Cx),X.prog=P->X.w=w->X.K=K->X.calm=Ab->∀(i:Af)(pI:Pn)(s:Ao)(Y:St)(H:Hp)(E:Vq),Inv X pI Y H s->(∀ b∈fp,F0 X pI H b)->tn i s.heap->J.stop i H ->
  Au (model P w) X.A (pyNext (.ref it)) (λr s1=>r=Ae/\Inv X pI Y H s1) E s
 self:∀(A:AQ)(i:Af)(s:Ao)(Q:Vq)(E:Vq),tn i s.heap->Q (.ref it) s->Au (model P w) A (JK (.ref it)) Q E s
abbrev TI:=St->Hp->(It->Hp->Prop)->Prop
noncomputable def PIE(X:Cx)(pI:Pn)(Y:St)(tg:Am)(R:It->Hp->Prop)(itv:Aj)(s2:Ao):Prop:=
 ∃(it:Ak)(fp:Ac Ak)(tn:Af->AA->Prop)(J:It)(H':Hp),itv=.ref it/\Inv X pI Y H' s2/\Turn X.prog X.w X.K tg J fp it tn/\tn 0 s2.heap/\(∀ b∈fp,F0 X pI H' b)/\R J H'
noncomputable def PI(X:Cx)(tg iter:Am)(wi:TI):Prop:=
 ∀(pI:Pn)(s:Ao)(Y:St)(H:Hp)(R:It->Hp->Prop),Inv X pI Y H s->wi Y H R ->
  Au (model X.prog X.w) X.A (eval iter X.env) (λv s1=>Au (model X.prog X.w) X.A (JK v) (PIE X pI Y tg R) X.xe s1) X.xe s
theorem N3{A:AQ}{E:Vq}{n:Cr}{vs:A3 Aj}(ho:s.heap.get? it=Aa o)(hc:o.cls=.type n)(hd:o.data=.fields vs)(hn:["enumerate", "zip", "dict_itemiterator", "dict_reverseitemiterator", "odict_iterator", "itertools.zip_longest", "itertools.pairwise"].contains n=Ad)(hQ:Q () s):Au M A (Fi tg (.ref it) u) Q E s:=by
  unfold Fi;cases tg<;>first
    |exact AU hQ
    | (cases u<;>first
        |exact AU hQ
        | (refine Ap (wpAny_load ho ?_)
           rw[hc,hd];show Au M A (if (["enumerate", "zip", "dict_itemiterator", "dict_reverseitemiterator", "odict_iterator", "itertools.zip_longest", "itertools.pairwise"].contains n&&vs[0]? == Aa (D5 _))=Ab then _ else _) Q E s
           rw[AO (by intro h;rw[hn,Bool.false_and]at h;cases h)]
           exact AU hQ))
noncomputable def Itl(K:Fg)(a:Ak):It:=
 ⟨λi H=>∃ xs x,SqL K H a xs/\xs[i]?=Aa x,λi H x H'=>H'=H/\∀ xs,SqL K H a xs->xs[i]?=Aa x,λi H=>∃ xs,SqL K H a xs/\xs.length<=i⟩
noncomputable def Itt(K:Fg)(a:Ak):It:=
 ⟨λi H=>∃ xs x,SqT K H a xs/\xs[i]?=Aa x,λi H x H'=>H'=H/\∀ xs,SqT K H a xs->xs[i]?=Aa x,λi H=>∃ xs,SqT K H a xs/\xs.length<=i⟩
noncomputable def Itr(lo:Ah)(n:Af):It:=⟨λi _=>i<n,λi H x H'=>H'=H/\x=.int (lo+i),λi _=>n<=i⟩
theorem WE{w:AS}{K:Fg}(a it:Ak):Turn P w K tg (Itl K a) [it] it (λi h=>h.IsListIter it a i) where
  mem:=by simp
  obj:=λi h st b hb=>by
    have e:b=it:=by simpa using hb
    subst e;obtain⟨o,e,c,d⟩:=st;exact⟨o,e,λv z=>by rw[d]at z;cases z⟩
  keep:=λi h h' st k=>st.at λo e=>k it (by simp) o e
  item:=by
    intro X hP hw hK hc i pI s Y H E I hf st hg;subst hP hw hK;obtain⟨xs,x,hq,hx⟩:=hg;obtain⟨its,rv,p,hz⟩:=I.list hq;obtain⟨u,hu,ru⟩:=rv.get hx;obtain⟨f0,f1,f2,f3,f4,f5⟩:=hf it (by simp)
    refine wpAny_pyNext_list_item st p.isList (x:=u) (by simpa using hu) λh' st' sb=>?_
    have I1:Inv X pI Y H {s with heap:=h'}:=I.turned (t':=s.toks) (λb o hb e=>(sb.2 b hb).trans e) f0 f1 f3 f4 f5
    obtain⟨o,e,c,d⟩:=id st';exact⟨u,rfl,N3 (s:={s with heap:=h'}) e c d (by decide) ⟨x,H,I1,ru,⟨rfl,λys hy=>by rw[I.list_inj hy hq];exact hx⟩,st',λb hb=>(hf b hb).1⟩⟩
  done:=by
    intro X hP hw hK hc i pI s Y H E I hf st hg;subst hP hw hK;obtain⟨xs,hq,hx⟩:=hg;obtain⟨its,rv,p,hz⟩:=I.list hq;obtain⟨f0,f1,f2,f3,f4,f5⟩:=hf it (by simp)
    have hl:=rv.length;exact wpAny_pyNext_list_end (I.ok.hd hc) st p.isList (by simp;omega) λh' eb=>⟨rfl,I.turned (t':=s.toks) (λb o hb e=>eb b o hb e) f0 f1 f3 f4 f5⟩
  self:=λ_ _ _ _ _ st h=>wpAny_pyIter_listiter st h
theorem Wr{w:AS}{K:Fg}(a it:Ak):Turn P w K tg (Itt K a) [it] it (λi h=>h.IsTupleIter it a i) where
  mem:=by simp
  obj:=λi h st b hb=>by
    have e:b=it:=by simpa using hb
    subst e;obtain⟨o,e,c,d⟩:=st;exact⟨o,e,λv z=>by rw[d]at z;cases z⟩
  keep:=λi h h' st k=>st.at λo e=>k it (by simp) o e
  item:=by
    intro X hP hw hK hc i pI s Y H E I hf st hg;subst hP hw hK;obtain⟨xs,x,hq,hx⟩:=hg;obtain⟨its,rv,p,hz⟩:=I.tuple hq;obtain⟨u,hu,ru⟩:=rv.get hx;obtain⟨f0,f1,f2,f3,f4,f5⟩:=hf it (by simp)
    refine wpAny_pyNext_tuple_item st (show s.heap.IsTuple a its.toArray from p) (x:=u) (by simpa using hu) λh' st' sb=>?_
    have I1:Inv X pI Y H {s with heap:=h'}:=I.turned (t':=s.toks) (λb o hb e=>(sb.2 b hb).trans e) f0 f1 f3 f4 f5
    obtain⟨o,e,c,d⟩:=id st';exact⟨u,rfl,N3 (s:={s with heap:=h'}) e c d (by decide) ⟨x,H,I1,ru,⟨rfl,λys hy=>by rw[I.tuple_inj hy hq];exact hx⟩,st',λb hb=>(hf b hb).1⟩⟩
  done:=by
    intro X hP hw hK hc i pI s Y H E I hf st hg;subst hP hw hK;obtain⟨xs,hq,hx⟩:=hg;obtain⟨its,rv,p,hz⟩:=I.tuple hq;obtain⟨f0,f1,f2,f3,f4,f5⟩:=hf it (by simp)
    have hl:=rv.length;exact wpAny_pyNext_tuple_end (I.ok.hd hc) st (show s.heap.IsTuple a its.toArray from p) (by simp;omega) λh' eb=>⟨rfl,I.turned (t':=s.toks) (λb o hb e=>eb b o hb e) f0 f1 f3 f4 f5⟩
  self:=λ_ _ _ _ _ st h=>wpAny_pyIter_tupleiter st h
theorem Ws{w:AS}{K:Fg}(it:Ak)(lo:Ah)(n:Af):Turn P w K tg (Itr lo n) [it] it (λi h=>IsRangeIter h it (lo+(i:Af)*1) ((n:Ah)-(i:Af)) 1) where
  mem:=by simp
  obj:=λi h st b hb=>by
    have e:b=it:=by simpa using hb
    subst e;exact⟨_,st,λv z=>by
      have z':Data.fields _=JB v:=z;cases z'⟩
  keep:=λi h h' st k=>k it (by simp) _ st
  item:=by
    intro X hP hw hK hc i pI s Y H E I hf st hg;subst hP hw hK;obtain⟨f0,f1,f2,f3,f4,f5⟩:=hf it (by simp)
    have W:=Walks.range (prog:=X.prog) (w:=X.w) (I.ok.hd hc) it lo 1 n;refine W.item i s _ _ hg st λv h' tk hv st' kk=>?_
    obtain⟨t,rfl⟩:=hv;have I1:Inv X pI Y H {s with heap:=h',toks:=tk}:=I.turned (λb o hb e=>kk b o (by simpa using hb) e) f0 f1 f3 f4 f5
    refine⟨_,rfl,N3 (s:={s with heap:=h',toks:=tk}) (n := "range_iterator") st' rfl rfl (by decide) ⟨.int (lo+i),H,I1,⟨t,?_⟩,⟨rfl,rfl⟩,st',λb hb=>(hf b hb).1⟩⟩
    rw[TF]
  done:=by
    intro X hP hw hK hc i pI s Y H E I hf st hg;subst hP hw hK;obtain⟨f0,f1,f2,f3,f4,f5⟩:=hf it (by simp)
    exact wpAny_pyNext_range_end (I.ok.hd hc) st (by have:n<=i:=hg;omega) λh' eb=>⟨rfl,I.turned (t':=s.toks) (λb o hb e=>eb b o hb e) f0 f1 f3 f4 f5⟩
  self:=λ_ _ _ _ _ st h=>wpAny_pyIter_rangeiter st h
section
variable{X:Cx}{tg:Am}
theorem PK{R:It->Hp->Prop}{E:Vq}{lo hi:Ah}{t u v:B9}{tk:Af}(I:Inv X pI Y H s)(h1:-(2 ^ 62)<=lo)(h2:lo<2 ^ 62)(h3:-(2 ^ 62)<=hi)(h4:hi<2 ^ 62)(q:R (Itr lo (hi-lo).toNat) H):Au (model X.prog X.w) X.A (JK (.ref s.heap.objs.size)) (PIE X pI Y tg R) E { s with heap:=s.heap.push { cls:=.type "range",data:=.fields #[.int lo t,.int hi u,.int 1 v] },toks:=tk }:=by
 refine wpAny_pyIter_range (IsRange.new ..) (small_one h1 h2 h3 h4) ?_;have I1:Inv X pI Y H { s with heap:=s.heap.push { cls:=.type "range",data:=.fields #[.int lo t,.int hi u,.int 1 v] },toks:=tk }:=I.kept λb o e=>At _ e
 refine⟨(s.heap.push { cls:=.type "range",data:=.fields #[.int lo t,.int hi u,.int 1 v] }).objs.size,[(s.heap.push { cls:=.type "range",data:=.fields #[.int lo t,.int hi u,.int 1 v] }).objs.size],_,_,H,rfl,
  I1.kept (t':=tk) λb o e=>At _ e,Ws _ lo (hi-lo).toNat,?_,λb hb=>?_,q⟩
 .have e1:lo+((0:Af):Ah)*1=lo:=by simp
  have e2:(((hi-lo).toNat:Af):Ah)-((0:Af):Ah)=Builtin.Range.rangeSize lo hi 1:=by rw[rangeSize_one];split<;>omega
  show IsRangeIter _ _ (lo+((0:Af):Ah)*1) ((((hi-lo).toNat:Af):Ah)-((0:Af):Ah)) 1;rw[e1,e2];exact AY _ rfl
 .have e:b=(s.heap.push { cls:=.type "range",data:=.fields #[.int lo t,.int hi u,.int 1 v] }).objs.size:=by simpa using hb
  subst e;exact I1.fpOk (AK _) (I1.hok.fresh (AK _))
def jX(ta:TA):TI:=λY H R=>ta Y H λvs H1=>∃ j:Ah,vs=[.int j]/\-(2 ^ 62)<=j/\j<2 ^ 62/\R (Itr 0 j.toNat) H1
def jW(ta:TA):TI:=λY H R=>ta Y H λvs H1=>∃ i j:Ah,vs=[.int i,.int j]/\(-(2 ^ 62)<=i/\i<2 ^ 62/\-(2 ^ 62)<=j/\j<2 ^ 62)/\R (Itr i (j-i).toNat) H1
theorem WD{a:Am}(hg:Gl X "range")(hm:X.mg "range" = Ae)(ha:PA X [a] ta)(hs:Aq [a] X.env=[(Ad,eval a X.env)]:=by rfl):PI X tg (.Call (.Name "range" p) [a] [] pos) (jX ta):=by
 intro pI s Y H R I h;refine Call_ (Jh I hg hm boot_range (CQ (thn (ha pos pI s Y H _ I h) λus s1 ⟨vs,H1,I1,r1,q1⟩=>?_) hs rfl))
 obtain⟨j,e,q1,q2,q⟩:=q1;subst e;cases r1 with
 |cons r rr=>
  cases rr;obtain⟨t,rfl⟩:=r;exact call_range_1 (PK I1 (by omega) (by omega) q1 q2 (by simpa using q))
theorem WC{a b:Am}(hg:Gl X "range")(hm:X.mg "range" = Ae)(ha:PA X [a,b] ta)(hs:Aq [a,b] X.env=[(Ad,eval a X.env),(Ad,eval b X.env)]:=by rfl)(hs2:Aq [b] X.env=[(Ad,eval b X.env)]:=by rfl):
  PI X tg (.Call (.Name "range" p) [a,b] [] pos) (jW ta):=by
 intro pI s Y H R I h;refine Call_ (Jh I hg hm boot_range (CQ (thn (ha pos pI s Y H _ I h) λus s1 ⟨vs,H1,I1,r1,q1⟩=>?_) (by rw[hs,hs2]) (by rw[hs2];rfl)))
 obtain⟨i,j,e,⟨q1,q2,q3,q4⟩,q⟩:=q1;subst e;cases r1 with
 |cons r rr=>
  cases rr with
  |cons r' rr=>
   cases rr;obtain⟨t,rfl⟩:=r;obtain⟨t',rfl⟩:=r';exact call_range_2 (PK I1 q1 q2 q3 q4 q)
def mF(wi:TI)(g:TG)(tb:TS):TS:=λD Y H=>wi Y H λJ H1=>∃ W:Af->Af->St->Hp->Prop,(∃ m,W 0 m Y H1)/\∀ i m Y H,W i m Y H ->
 (J.stop i H/\D.nx Y H)\/(J.go i H/\∃ N:St->Hp->Prop,(∀ Y' H',N Y' H'->∃ m',m'<m/\W (i+1) m' Y' H')/\∀ x H',J.yld i H x H'->g x Y H' λY2 H2=>tb {D with nx:=N,ct:=N,bk:=D.nx} Y2 H2)
noncomputable def Iu(fp:Ac Ak)(h:AA):Pn:=fp.filterMap λb=>(h.get? b).map λo=>(b,o)
theorem KG(hb:b∈fp)(e:h.get? b=Aa o):(b,o)∈Iu fp h:=List.mem_filterMap.mpr ⟨b,hb,by rw[e];rfl⟩
theorem Ph{p:Ak×Cv}(hp:p∈Iu fp h):p.1∈fp/\h.get? p.1=Aa p.2:=by
 obtain⟨b,hb,e⟩:=List.mem_filterMap.mp hp;cases q:h.get? b with
 |none=>rw[q]at e;cases e
 |some o=>
  rw[q]at e;have e':(b,o)=p:=Bc e;subst e';exact⟨hb,q⟩
theorem Inv.pinned(I:Inv X pI Y H s)(hf:∀ b∈fp,F0 X pI H b)(ho:∀ b∈fp,∃ o,s.heap.get? b=Aa o/\∀ v,o.data≠.cell v):Inv X (pI++Iu fp s.heap) Y H s:=
 I.pins_of λp hp=>(Fb.mp hp).elim (λz=>I.pin p (A8 _ z)) λz=>by
  obtain⟨hb,e⟩:=Ph z;obtain⟨f0,f1,f2,_⟩:=hf p.1 hb;obtain⟨o,e',d⟩:=ho p.1 hb;rw[e]at e';cases e';exact⟨e,f0,f1,f2,d⟩
theorem Inv.unpinned{pl:Pn}(I:Inv X (pI++pl) Y H s):Inv X pI Y H s:=I.pins_of λp hp=>I.pin p (A8 _ (Fc _ hp))
theorem Rh{iter:Am}{wi:TI}{g:TG}(hp:Dl (model X.prog X.w) X.A X.env X.xe)(hc:X.calm=Ab)(hi:PI X tg iter wi)(hg:PG X tg g)(hb:PSs X body tb)(hs:∀ x,B8 iter X.env x=pure x:=by intro _;rfl):PS X (.For tg iter body [] pos) (mF wi g tb):=by
 intro pI s Y H D I h;refine wpAny_For (thn (hi pI s Y H _ I h) λv s1 h1=>thn h1 λitv s2 h2=>?_) hs
 obtain⟨it,fp,tn,J,H2,e,I2,T,st2,f2,W,⟨m0,w0⟩,turn⟩:=h2;subst e
 -- what stays Ab of the iterator's objects through the loop
 have stat:∀{H':Hp},(∀ b∈fp,H' b=Ae)->∀ b∈fp,F0 X pI H' b:=λhn b hb=>⟨hn b hb,(f2 b hb).2⟩
 refine codeAny_forLoop_any (λn s'=>∃ i Y' H',Inv X pI Y' H' s'/\tn i s'.heap/\(∀ b∈fp,H' b=Ae)/\W i n Y' H') ?_ m0 ⟨0,Y,H2,I2,st2,λb hb=>(f2 b hb).1,w0⟩
 rintro n s3 ⟨i,Y3,H3,I3,st3,fr3,w3⟩;rcases turn i n Y3 H3 w3 with ⟨stop,qn⟩|⟨go,N,hN,step⟩
 .refine CZ hp (thn (T.done X rfl rfl rfl hc i pI s3 Y3 H3 X.xe I3 (stat fr3) st3 stop) λr s4 ⟨hr,I4⟩=>?_)
  subst hr;exact DF ⟨Y3,H3,I4,qn⟩
 .refine CZ hp (thn (T.item X rfl rfl rfl hc i pI s3 Y3 H3 X.xe I3 (stat fr3) st3 go) λr s4 ⟨u,hr,h4⟩=>?_)
  subst hr;refine CZ hp (thn h4 λ_ s5 ⟨x,H5,I5,r5,y5,st5,fr5⟩=>?_)
  have I5':=I5.pinned (stat fr5) (T.obj _ _ st5);refine CZ hp (thn (hg _ s5 Y3 H5 x u _ I5' r5 (step x H5 y5)) λ_ s6 ⟨Y6,H6,I6,q6⟩=>?_)
  refine CZ hp (thn (hb _ s6 Y6 H6 _ I6 q6) λf s7 q7=>?_)
  have again:∀{Y7:St}{H7:Hp},Inv X (pI++Iu fp s5.heap) Y7 H7 s7->N Y7 H7->∃ m,m<n/\∃ i Y' H',Inv X pI Y' H' s7/\tn i s7.heap/\(∀ b∈fp,H' b=Ae)/\W i m Y' H':=λ{Y7 H7} I7 n7=>by
   obtain⟨m',hm,w7⟩:=hN Y7 H7 n7;refine⟨m',hm,i+1,Y7,H7,I7.unpinned,T.keep _ _ _ st5 λb hb o e=>(I7.pin (b,o) (A8 _ (A8 _ (KG hb e)))).1,λb hb=>?_,w7⟩
   obtain⟨o,e,d⟩:=T.obj _ _ st5 b hb;exact(I7.pin (b,o) (A8 _ (A8 _ (KG hb e)))).2.1
  cases f with
  |next=>obtain⟨Y7,H7,I7,n7⟩:=q7;exact again I7 n7
  |cont=>obtain⟨Y7,H7,I7,n7⟩:=q7;exact again I7 n7
  |brk=>obtain⟨Y7,H7,I7,q7⟩:=q7;exact⟨Y7,H7,I7.unpinned,q7⟩
  |ret v=>obtain⟨x7,Y7,H7,I7,r7,q7⟩:=q7;exact⟨x7,Y7,H7,I7.unpinned,r7,q7⟩
end
abbrev R2:=V->V->Hp->VK->Prop
variable{r:R2}
noncomputable def OpR(X:Cx)(f:Aj->Aj->Ff Aj)(r:R2):Prop:=
 ∀(pI:Pn)(s:Ao)(Y:St)(H:Hp)(x y:V)(v u:Aj)(Q:VK),Inv X pI Y H s->Bm x v->Bm y u->r x y H Q ->
  Au (model X.prog X.w) X.A (f v u) (EP X pI Y Q) X.xe s
noncomputable def UnR(X:Cx)(f:Aj->Ff Aj)(r:V->Hp->VK->Prop):Prop:=
 ∀(pI:Pn)(s:Ao)(Y:St)(H:Hp)(x:V)(v:Aj)(Q:VK),Inv X pI Y H s->Bm x v->r x H Q ->
  Au (model X.prog X.w) X.A (f v) (EP X pI Y Q) X.xe s
noncomputable def FZ(X:Cx)(f:Aj)(r:Ac V->Hp->VK->Prop):Prop:=
 ∀(pI:Pn)(s:Ao)(Y:St)(H:Hp)(xs:Ac V)(us:Ac Aj)(Q:VK),Inv X pI Y H s->AX xs us->r xs H Q ->
  Au (model X.prog X.w) X.A (call f us) (EP X pI Y Q) X.xe s
noncomputable def kY(X:Cx)(r:V->Hp->(Ai->Hp->Prop)->Prop):Prop:=
 ∀(pI:Pn)(s:Ao)(Y:St)(H:Hp)(x:V)(v:Aj)(Q:Ai->Hp->Prop),Inv X pI Y H s->Bm x v->r x H Q ->
  Au (model X.prog X.w) X.A (truthy v) (TP X pI Y Q) X.xe s
def tOp(r:R2)(ta tb:TE):TE:=λY H Q=>ta Y H λx H1=>tb Y H1 λy H2=>r x y H2 Q
def tUn(r:V->Hp->VK->Prop)(ta:TE):TE:=λY H Q=>ta Y H λx H1=>r x H1 Q
def rI(C:Ah->Ah->Prop)(g:Ah->Ah->V):R2:=λx y H Q=>∃ i j,x=.int i/\y=.int j/\C i j/\Q (g i j) H
def rI0(g:Ah->Ah->V):R2:=λx y H Q=>∃ i j,x=.int i/\y=.int j/\Q (g i j) H
def rU(g:Ah->V):V->Hp->VK->Prop:=λx H Q=>∃ i,x=.int i/\Q (g i) H
section
variable{X:Cx}{a b c:Am}{ta tb tc:TE}{pos:Az}
theorem Ow(ha:PE X a ta)(hb:PE X b tb){R:V->V->Hp->Prop}(I:Inv X pI Y H s)(h:ta Y H λx H1=>tb Y H1 λy H2=>R x y H2){Q:Vq}(hf:∀ v u s2 x y H2,Inv X pI Y H2 s2->Bm x v->Bm y u->R x y H2->Au (model X.prog X.w) X.A (f v u) Q X.xe s2):Au (model X.prog X.w) X.A (eval a X.env) (λv s₁=>Au (model X.prog X.w) X.A (eval b X.env) (λu s₂=>Au (model X.prog X.w) X.A (f v u) Q X.xe s₂) X.xe s₁) X.xe s:=by
 refine thn (ha pI s Y H _ I h) λv s1 ⟨x,H1,I1,r1,q1⟩=>?_
 refine thn (hb pI s1 Y H1 _ I1 q1) λu s2 ⟨y,H2,I2,r2,q2⟩=>?_
 exact hf v u s2 x y H2 I2 r1 r2 q2
theorem Sh{op:Ep}(ho:OpR X (BJ op) r)(ha:PE X a ta)(hb:PE X b tb):PE X (.BinOp a op b pos) (tOp r ta tb):=by
 intro pI s Y H Q I h;exact wpAny_BinOp (Ow ha hb I h λv u s2 x y H2 I2 rx ry q=>ho pI s2 Y H2 x y v u Q I2 rx ry q)
theorem iL{op:H9}{r:V->Hp->VK->Prop}(ho:UnR X (unaryOp op) r)(ha:PE X a ta):PE X (.UnaryOp op a pos) (tUn r ta):=by
 intro pI s Y H Q I h;exact UnaryOp_ (thn (ha pI s Y H _ I h) λv s1 ⟨x,H1,I1,r1,q1⟩=>ho pI s1 Y H1 x v Q I1 r1 q1)
theorem opI{C:Ah->Ah->Prop}(rule:∀(i j:Ah)(t u:B9)(s:Ao)(Q:Vq)(E:Vq),C i j->Q (.int (g i j) s.toks) {s with toks:=s.toks+1}->Au (model X.prog X.w) X.A (f (.int i t) (.int j u)) Q E s):OpR X f (rI C λi j=>.int (g i j)):=by
 intro pI s Y H x y v u Q I rx ry h;obtain⟨i,j,rfl,rfl,hc,q⟩:=h;obtain⟨t,rfl⟩:=rx;obtain⟨t',rfl⟩:=ry;exact rule i j t t' s _ _ hc ⟨.int (g i j),H,I.tok _,⟨_,rfl⟩,q⟩
theorem Tp(rule:∀(i j:Ah)(t u:B9)(s:Ao)(Q:Vq)(E:Vq),Q (.int (g i j) s.toks) {s with toks:=s.toks+1}->Au (model X.prog X.w) X.A (f (.int i t) (.int j u)) Q E s):OpR X f (rI0 λi j=>.int (g i j)):=by
 intro pI s Y H x y v u Q I rx ry h;obtain⟨i,j,rfl,rfl,q⟩:=h;obtain⟨t,rfl⟩:=rx;obtain⟨t',rfl⟩:=ry;exact rule i j t t' s _ _ ⟨.int (g i j),H,I.tok _,⟨_,rfl⟩,q⟩
theorem LG{g:Ah->Ah->Ai}(rule:∀(i j:Ah)(t u:B9)(s:Ao)(Q:Vq)(E:Vq),Q (.bool (g i j)) s->Au (model X.prog X.w) X.A (f (.int i t) (.int j u)) Q E s):OpR X f (rI0 λi j=>.bl (g i j)):=by
 intro pI s Y H x y v u Q I rx ry h;obtain⟨i,j,rfl,rfl,q⟩:=h;obtain⟨t,rfl⟩:=rx;obtain⟨t',rfl⟩:=ry;exact rule i j t t' s _ _ ⟨.bl (g i j),H,I,rfl,q⟩
def lC(i j:Ah):Prop:=0<j/\j<1073741824
def lB(i j:Ah):Prop:=0<=j/\j<=1000000/\i.natAbs<2 ^ 64
def LV(i j:Ah):Prop:=(-(2 ^ 64)<i/\i<2 ^ 64)\/(-(2 ^ 64)<j/\j<2 ^ 64)
theorem LV.ok{i j:Ah}(h:LV i j):JH i j:=by
 rcases h with ⟨h1,h2⟩|⟨h1,h2⟩
 .exact .of_left (intBits_le_64 h1 h2)
 .exact .of_right (intBits_le_64 h1 h2)
theorem cO:OpR X (BJ .Add) (rI0 λi j=>.int (i+j)):=Tp λ_ _ _ _ _ _ _ q=>add_int q
theorem cK:OpR X (BJ .Sub) (rI0 λi j=>.int (i-j)):=Tp λ_ _ _ _ _ _ _ q=>sub_int q
theorem ZL:OpR X (BJ .FloorDiv) (rI lC λi j=>.int (i/j)):=opI λi j _ _ _ _ _ hc q=>by
 have h1:(0:Ah)<j:=hc.1;have h2:j<1073741824:=hc.2;exact floordiv_int (by omega) (by rw[Int.fdiv_eq_ediv_of_nonneg i (by omega)];exact q) (.inl (PyProof.noPylong_small (by omega)))
theorem cM:OpR X (BJ .Mod) (rI (λ_ j=>0<j) λi j=>.int (i%j)):=opI λi j _ _ _ _ _ hc q=>by
 have h1:(0:Ah)<j:=hc;exact mod_int' (by omega) (by rw[Int.fmod_eq_emod_of_nonneg i (by omega)];exact q)
theorem cL:OpR X (BJ .Pow) (rI lB λi j=>.int (i ^ j.toNat)):=opI λ_ _ _ _ _ _ _ hc q=>pow_int_small hc.1 hc.2.1 hc.2.2 q
theorem unI{f:Aj->Ff Aj}{g:Ah->Ah}(rule:∀(i:Ah)(t:B9)(s:Ao)(Q:Vq)(E:Vq),Q (.int (g i) s.toks) {s with toks:=s.toks+1}->Au (model X.prog X.w) X.A (f (.int i t)) Q E s):UnR X f (rU λi=>.int (g i)):=by
 intro pI s Y H x v Q I rx h;obtain⟨i,rfl,q⟩:=h;obtain⟨t,rfl⟩:=rx;exact rule i t s _ _ ⟨.int (g i),H,I.tok _,⟨_,rfl⟩,q⟩
theorem bL:UnR X (unaryOp .USub) (rU λi=>.int (-i)):=unI λ_ _ _ _ _ q=>neg_int q
end
section
variable{X:Cx}{a b c:Am}{ta tb tc:TE}{pos:Az}
theorem Rz{Q:VK}{k k':Ai}(I:Inv X pI Y H s)(q:Q (.bl k) H)(e:k=k'):EP X pI Y Q (.bool k') s:=by
 subst e;exact⟨.bl k,H,I,rfl,q⟩
theorem iS:OpR X (Cm .Lt) (rI0 λi j=>.bl (decide (i<j))):=LG λ_ _ _ _ _ _ _ q=>lt_int q
theorem iT:OpR X (Cm .LtE) (rI0 λi j=>.bl (decide (i<=j))):=LG λ_ _ _ _ _ _ _ q=>le_int q
theorem gU:OpR X (Cm .Gt) (rI0 λi j=>.bl (decide (j<i))):=LG λ_ _ _ _ _ _ _ q=>gt_int q
theorem gW:OpR X (Cm .GtE) (rI0 λi j=>.bl (decide (j<=i))):=LG λ_ _ _ _ _ _ _ q=>ge_int q
theorem cN:OpR X (Cm .Is) (λx y H Q=>y=.non/\Q (.bl (decide (x=.non))) H):=by
 intro pI s Y H x y v u Q I rx ry h;obtain⟨rfl,q⟩:=h;cases ry;refine is_none_gen (Rz I q ?_);cases x<;>first
  |(cases rx;rfl)
  |(obtain⟨t,rfl⟩:=rx;rfl)
theorem ZJ:OpR X (Cm .IsNot) (λx y H Q=>y=.non/\Q (.bl (!decide (x=.non))) H):=by
 intro pI s Y H x y v u Q I rx ry h;obtain⟨rfl,q⟩:=h;cases ry;refine isnot_none_gen (Rz I q ?_);cases x<;>first
  |(cases rx;rfl)
  |(obtain⟨t,rfl⟩:=rx;rfl)
theorem ZD(ho:OpR X (Cm op) r)(ha:PE X a ta)(hb:PE X b tb)(hm:FU op b=Ad):PE X (.Compare a [op] [b] pos) (tOp r ta tb):=by
 intro pI s Y H Q I h;exact wpAny_Compare1 (Ow ha hb I h λv u s2 x y H2 I2 rx ry q=>ho pI s2 Y H2 x y v u Q I2 rx ry q) hm
def R5(t:TE):TT:=λY H Q=>t Y H λx H'=>∃ k,x=.bl k/\Q k H'
theorem Zu(ho:OpR X (Cm op) r)(ha:PE X a ta)(hb:PE X b tb)(hm:FU op b=Ad):PT X (.Compare a [op] [b] pos) (R5 (tOp r ta tb)):=by
 intro pI s Y H Q I h;refine wpAny_isTrue_Compare1 (thn (ha pI s Y H _ I h) λv s1 ⟨x,H1,I1,r1,q1⟩=>thn (hb pI s1 Y H1 _ I1 q1) λu s2 ⟨y,H2,I2,r2,q2⟩=>
  thn (ho pI s2 Y H2 x y v u _ I2 r1 r2 q2) λc s3 ⟨z,H3,I3,r3,k,e,q3⟩=>?_) hm
 subst e;cases r3;exact Ci ⟨H3,I3,q3⟩
def bS(r r':R2)(ta tb tc:TE):TE:=λY H Q=>ta Y H λx H1=>tb Y H1 λy H2=>r x y H2 λz H3=>∃ k,z=.bl k /\
 (if k=Ab then tc Y H3 λw' H4=>r' y w' H4 Q else Q (.bl Ad) H3)
theorem XQ{op':CH}{r':R2}(ho:OpR X (Cm op) r)(ho':OpR X (Cm op') r')(ha:PE X a ta)(hb:PE X b tb)(hc:PE X c tc)(hm:lastMarks [op,op'] [b,c]=Ad:=by with_unfolding_all rfl):PT X (.Compare a [op,op'] [b,c] pos) (R5 (bS r r' ta tb tc)):=by
 intro pI s Y H Q I h;refine isTrue_chain (thn (ha pI s Y H _ I h) λv s1 ⟨x,H1,I1,r1,q1⟩=>test_link (thn (hb pI s1 Y H1 _ I1 q1) λu s2 ⟨y,H2,I2,r2,q2⟩=>
  thn (ho pI s2 Y H2 x y v u _ I2 r1 r2 q2) λd s3 ⟨z,H3,I3,r3,k,e,q3⟩=>?_)) hm
 subst e;cases r3;refine Ci ?_;cases k with
 |false=>
  obtain⟨k',e',q'⟩:=q3;cases e';exact ite_ff ⟨H3,I3,q'⟩
 |true=>
  refine ite_tt (test_last (thn (hc pI s3 Y H3 _ I3 q3) λw' s4 ⟨z',H4,I4,r4,q4⟩=>thn (ho' pI s4 Y H4 y z' u w' _ I4 r2 r4 q4) λd' s5 ⟨z2,H5,I5,r5,k2,e2,q5⟩=>?_))
  subst e2;cases r5;exact Ci ⟨H5,I5,q5⟩
noncomputable def S2(K:Fg)(x:V)(H:Hp)(k:Ai):Prop:=
  match x with
  |.non=>k=Ad
  |.bl b=>k=b
  |.int i=>k=(i != 0)
  |.str y=>y.length<=sizeLine/\k=((y.length:Ah) != 0)
  |.byt y=>y.size<=sizeLine/\k=((y.size:Ah) != 0)
  |.ref p=>(∃ xs,SqL K H p xs/\k=!xs.isEmpty)\/(∃ xs,SqT K H p xs/\k=!xs.isEmpty)\/∃ kvs,H p=Aa (.dK kvs)/\k=!kvs.isEmpty
  |_=>AV
theorem Wk{κ:Type}{kvs:Ac (κ×V)}{vs:Ac (κ×Aj)}(r:KV kvs vs):(!vs.isEmpty)=!kvs.isEmpty:=by
 cases r<;>rfl
theorem OO{its:Ac Aj}(r:AX xs its):(!its.toArray.isEmpty)=!xs.isEmpty:=by
 cases r<;>simp
theorem Jg:(sizeLine:Af)<2 ^ 63:=by rw[BV];decide
theorem bN:kY X (λx H Q=>∃ k,S2 X.K x H k/\Q k H):=by
 intro pI s Y H x v Q I rx h;obtain⟨k,e,q⟩:=h;have hl:=Jg;have hs:sizeLine=16777216:=BV;cases x with
 |non=>
  cases rx;have e':k=Ad:=e;subst e';exact truthy_none ⟨H,I,q⟩
 |bl b=>
  cases rx;have e':k=b:=e;subst e';exact Ci ⟨H,I,q⟩
 |int i=>
  obtain⟨t,rfl⟩:=rx;have e':k=(i != 0):=e;subst e';exact PySem.P.truthy_int ⟨H,I,q⟩
 |str y=>
  obtain⟨t,rfl⟩:=rx;obtain⟨hy,e'⟩:y.length<=sizeLine/\k=((y.length:Ah) != 0):=e;subst e';exact PySem.P.truthy_str (by omega) ⟨H,I.tok _,q⟩
 |byt y=>
  obtain⟨t,rfl⟩:=rx;obtain⟨hy,e'⟩:y.size<=sizeLine/\k=((y.size:Ah) != 0):=e;subst e';exact PySem.W.truthy_bytes (by omega) ⟨H,I.tok _,q⟩
 |ref p=>
  cases rx;have e':(∃ xs,SqL X.K H p xs/\k=!xs.isEmpty)\/(∃ xs,SqT X.K H p xs/\k=!xs.isEmpty)\/∃ kvs,H p=Aa (.dK kvs)/\k=!kvs.isEmpty:=e;rcases e' with ⟨xs,hx,e'⟩|⟨xs,hx,e'⟩|⟨kvs,hx,e'⟩
  .subst e';obtain⟨its,r,pl,hz⟩:=I.list hx;have hlen:=r.length;exact wpAny_truthy_list pl.isList (by simp only[AL];omega) ⟨H,I.tok _,by rw[OO r];exact q⟩
  .subst e';obtain⟨its,r,pl,hz⟩:=I.tuple hx;have hlen:=r.length;exact truthy_tuple pl (by simp only[AL];omega) ⟨H,I.tok _,by rw[OO r];exact q⟩
  .subst e';obtain⟨hz,hS,vs,r,m⟩:kvs.length<=sizeLine/\(p==IN)=Ad/\∃ vs,KV kvs vs/\s.heap.DictOf (Nc X.prog X.w) p vs:=I.hok p _ hx;have hlen:kvs.length=vs.length:=Vd r;exact wpAny_truthy_dict hS m (by omega) ⟨H,I.tok _,by rw[Wk r];exact q⟩
 |_=>exact(show AV from e).elim
theorem XN(ha:PE X a ta)(he:∀ whole,GX a X.env whole=(do let v <-whole;standAt a.pos;holding [v] (truthy v))):PT X a (λY H Q=>ta Y H λx H'=>∃ k,S2 X.K x H' k/\Q k H'):=by
 intro pI s Y H Q I h;exact isTrue_plain (thn (ha pI s Y H _ I h) λv s1 ⟨x,H1,I1,r1,q1⟩=>bN pI s1 Y H1 x v Q I1 r1 q1) (he _)
theorem Wh:OpR X (BJ .Add) (λx y H Q=>∃ i j,x=.str i/\y=.str j/\i.length+j.length<=sizeLine/\Q (.str (i++j)) H):=by
 intro pI s Y H x y v u Q I rx ry h;obtain⟨i,j,rfl,rfl,hz,q⟩:=h;obtain⟨t,rfl⟩:=rx;obtain⟨t',rfl⟩:=ry;exact add_str (λt' tk=>⟨.str (i++j),H,I.tok _,⟨_,rfl⟩,q⟩) hz
theorem Gs{x:V}(r:AX [x] us):∃ u,us=[u]/\Bm x u:=by
 cases r with
 |cons r1 r2=>cases r2;exact⟨_,rfl,r1⟩
theorem HN{x y:V}(r:AX [x,y] us):∃ u w',us=[u,w']/\Bm x u/\Bm y w':=by
 cases r with
 |cons r1 r2=>
  cases r2 with
  |cons r3 r4=>cases r4;exact⟨_,_,rfl,r1,r3⟩
theorem WX(hc:X.calm=Ab):FZ X (.builtin "max") (λxs H Q=>∃ i j,xs=[.int i,.int j]/\Q (.int (if j>i then j else i)) H):=by
 intro pI s Y H xs us Q I r h;obtain⟨i,j,rfl,q⟩:=h;obtain⟨u,w',rfl,⟨t,rfl⟩,⟨t',rfl⟩⟩:=HN r;refine max_two_ints (I.ok.hd hc) λh' tk k=>⟨_,H,I.kept k,?_,q⟩
 by_cases hj:j>i
 .rw[AE hj,AE hj];exact⟨_,rfl⟩
 .rw[AO hj,AO hj];exact⟨_,rfl⟩
theorem WW(hc:X.calm=Ab):FZ X (.builtin "min") (λxs H Q=>∃ i j,xs=[.int i,.int j]/\Q (.int (if j<i then j else i)) H):=by
 intro pI s Y H xs us Q I r h;obtain⟨i,j,rfl,q⟩:=h;obtain⟨u,w',rfl,⟨t,rfl⟩,⟨t',rfl⟩⟩:=HN r;refine min_two_ints (I.ok.hd hc) λh' tk k=>⟨_,H,I.kept k,?_,q⟩
 by_cases hj:j<i
 .rw[AE hj,AE hj];exact⟨_,rfl⟩
 .rw[AO hj,AO hj];exact⟨_,rfl⟩
theorem V9:FZ X (.type "str") (λxs H Q=>∃ i,xs=[.int i]/\i.natAbs.log2<1920/\Q (.str (toString i)) H):=by
 intro pI s Y H xs us Q I r h;obtain⟨i,rfl,hz,q⟩:=h;obtain⟨u,rfl,t,rfl⟩:=Gs r;exact PySem.P.str_of_int hz ⟨.str _,H,I.tok _,⟨_,rfl⟩,q⟩
end
structure ObjM (h:AA) (x dx C:Ak) (mA:Ag->An Aj):Prop where
 obj:h.get? x=Aa (VD C dx)
 ns:h.Ns1 dx mA
 ne:dx≠x
section
variable{prog:AF}{w:AS}{A:AQ}{E:Vq}{s:Ao}{K:Fg}{x dx C f:Ak}{mA:Ag->An Aj}{name:Ag}{v:Aj}
end
noncomputable def LF(f:Ag)(v:V):Ac (Ag×V)->Ac (Ag×V)
 |[]=>[(f,v)]
 |(g,x)::r=>if g=f then (g,v)::r else (g,x)::LF f v r
theorem Kz.some_of{o:An Aj}(r:Kz (Aa v) o):∃ u,o=Aa u/\Bm v u:=by
 cases o with
 |none=>exact(show AV from r).elim
 |some u=>exact⟨u,rfl,r⟩
theorem W4(r:Bm v u):PySem.W.handedIn u=Ab:=by
 cases v with
 |non=>cases (show u=De from r);rfl
 |bl b=>cases (show u=IK b from r);rfl
 |int i=>obtain⟨t,e⟩:=(show ∃ t,u=JC i t from r);cases e;rfl
 |str x=>obtain⟨t,e⟩:=(show ∃ t,u=JD x t from r);cases e;rfl
 |byt b=>obtain⟨t,e⟩:=(show ∃ t,u=Vv b t from r);cases e;rfl
 |flt b=>obtain⟨t,e⟩:=(show ∃ t,u=Vw b t from r);cases e;rfl
 |ref a=>cases (show u=BZ a from r);rfl
 |ty n=>cases (show u=IL n from r);rfl
section
variable{P:AF}{w:AS}{H H':Hp}{h h':AA}{a C dx:Ak}{fs fs':Ac (Ag×V)}
end
structure Cls (K:Fg) (C:Ak):Prop where
 pg:VJ K C CK=Ab
 hd:VC K C=Ab
 po:VL K C=Ab
 sa:Ar K (.ref C) "__setattr__" = Aa (Aa (.builtin "object.__setattr__"))
def HK(K:Fg)(C:Ak)(f:Ag):Prop:=Ar K (.ref C) f=Aa Ae
structure Meth (K:Fg) (C:Ak) (m:Ag) (f:Ak):Prop where
 at_:Ar K (.ref C) m=Aa (Aa (.ref f))
 fn:Dr K (.ref f)=Ab
 kp:A7 K (.ref f)=Ab
section
variable{X:Cx}{pI:Pn}{Y:St}{H:Hp}{s:Ao}{a C dx:Ak}{fs:Ac (Ag×V)}{f:Ag}{v:V}{A:AQ}{E:Vq}
theorem QK{prog:AF}{w:AS}{env:BW}{f:Ag}{Q:Vq}(hb:CM e f env (eval e env)=eval e env)(h:Au (model prog w) A (eval e env) (λo s₁=>Au (model prog w) A (getAttr o f Ab) Q E s₁) E s):Au (model prog w) A (eval (.Attribute e f pos) env) Q E s:=
 Attribute_any_ h (by rw[arm_eval_Attribute,hb])
end
def Zy8(K:Fg)(ta tv:TE)(f:Ag):TS:=λD Y H=>tv Y H λy H1=>ta Y H1 λx H2=>∃ a C dx fs,x=.ref a/\H2 a=Aa (.ins C dx fs)/\Cls K C/\HK K C f/\fs.length<1000 /\
 D.nx Y (upd H2 a (.ins C dx (LF f y fs)))
section
variable{X:Cx}{o e value:Am}{f:Ag}{pos pos' tpos:Az}{ta tv:TE}
end
section
variable{X:Cx}{pI:Pn}{Y:St}{H:Hp}{s:Ao}{A:AQ}{E:Vq}{Q:Vq}{c:Aj}{b:Ai}
inductive TyOf (K:Fg) (H:Hp):V->Aj->Prop where
  |non:TyOf K H .non (.type "NoneType")
  |bl (x:Ai):TyOf K H (.bl x) (.type "bool")
  |int (i:Ah):TyOf K H (.int i) (.type "int")
  |str (x:Ag):TyOf K H (.str x) (.type "str")
  |flt (x:UInt64):TyOf K H (.flt x) (.type "float")
  |lst {a:Ak} {xs:Ac V} (e:H a=Aa (.lst xs)):TyOf K H (.ref a) (.type "list")
  |frz {a:Ak} {o:Cv} {xs:Ac V} (e:H a=Aa (.frz o (.lst xs))):TyOf K H (.ref a) (.type "list")
  |tup {a:Ak} {xs:Ac V} (e:H a=Aa (.tup xs)):TyOf K H (.ref a) (.type "tuple")
  |dK {a:Ak} {kvs:Ac (Key×V)} (e:H a=Aa (.dK kvs)):TyOf K H (.ref a) (.type "dict")
  |dT {a:Ak} {kvs:Ac (Ac Key×V)} (e:H a=Aa (.dT kvs)):TyOf K H (.ref a) (.type "dict")
  |ins {a C dx:Ak} {fs:Ac (Ag×V)} (e:H a=Aa (.ins C dx fs)) (cl:Cls K C) (ha:Ar K (.ref C) "__class__" = Aa (Aa (.builtin "object.__class__")))
      (hn:BF K (.builtin "object.__class__") "__get__" = Aa (Aa (.builtin "getset_descriptor.__get__"))) (htk:GA K (.builtin "object.__class__")=Aa Ab)
      (hm:EZ K C (.type "object")=Aa Ab):TyOf K H (.ref a) (.ref C)
end
structure Room (k:Af) (A:AQ):Prop where
 hd:A.handled=Ae
 dp:A.depth+3*k+5<G0
 un:A.units+16*k+200<By
 gd:A.guards=Aa []
theorem Room.mono{j:Af}{A:AQ}(r:Room k A)(h:j<=k):Room j A:=⟨r.hd,by have:=r.dp;omega,by have:=r.un;omega,r.gd⟩
theorem Room.deeper{A:AQ}(r:Room (k+1) A)(env:BW):Room k (A.deeper env):=
 ⟨r.hd,by have:=r.dp;show A.depth+1+3*k+5<_;omega,by have:=r.un;show A.units+3+16*k+200<_;omega,r.gd⟩
theorem ON{A:AQ}{C:Ak}:(A.under (.builtin "type.__call__" ⟨.ref C::us,kw⟩)).depth=A.depth+1:=by
 first|rfl|simp[Hw,Code.weight,Code.isCreation,Code.isGuard,Code.isCaller,Uw,Hx,guardIds]
theorem OM{A:AQ}{C:Ak}:(A.under (.builtin "type.__call__" ⟨.ref C::us,kw⟩)).units=A.units+1:=by
 first|rfl|simp[Hw,Code.cUnits,Uw,Hx]
theorem Room.depth{A:AQ}(r:Room k A):A.depth<G0:=by have:=r.dp;omega
theorem Room.units{A:AQ}(r:Room k A):A.units+64<By:=by have:=r.un;omega
def mC:TA:=λ_ H Q=>Q [] H
def gG(ta:TE)(tr:TA):TA:=λY H Q=>ta Y H λx H1=>tr Y H1 λxs H2=>Q (x::xs) H2
section
variable{X:Cx}{e:Am}{es:Ac Am}{te:TE}{t:TA}{pos:Az}
theorem EQ:PA X [] mC:=λ_ _ _ _ H Q I h=>Calls.spliced_nil ⟨[],H,I,.nil,h⟩
theorem Dt(ha:PE X e te)(hr:PA X es t)(hs:Aq (e::es) X.env=(Ad,eval e X.env)::Aq es X.env:=by rfl):PA X (e::es) (gG te t):=by
 intro pos pI s Y H Q I h;rw[hs];show Au _ _ (spliced ((Ad,eval e X.env)::Bq pos (Aq es X.env))) _ _ s;refine Calls.spliced_cons (thn (ha pI s Y H _ I h) λu s1 ⟨x,H1,I1,r1,q1⟩=>?_)
 exact thn (hr pos pI s1 Y H1 _ I1 q1) λus s2 ⟨xs,H2,I2,r2,q2⟩=>⟨x::xs,H2,I2,.cons r1 r2,q2⟩
def lW(t:TA):TE:=λY H Q=>t Y H λxs H1=>xs.length<=sizeLine/\∀ p,H1 p=Ae->Q (.ref p) (upd H1 p (.tup xs))
def mD(t:TA):TE:=λY H Q=>t Y H λxs H1=>xs.length<=sizeLine/\∀ p,H1 p=Ae->Q (.ref p) (upd H1 p (.lst xs))
theorem Rj{x1}(h:PA X es t):PE X (.Tuple es x1 pos) (lW t):=by
 intro pI s Y H Q I hq;refine wpAny_Tuple_spliced (thn (h pos pI s Y H _ I hq) λus s1 ⟨xs,H1,I1,r,z,q⟩=>⟨by rw[<-r.length];exact z,?_⟩)
 have hf:H1 s1.heap.objs.size=Ae:=I1.hok.fresh (AK _);refine⟨.ref s1.heap.objs.size,upd H1 s1.heap.objs.size (.tup xs),I1.laid (t':=s1.toks) (λb u e=>At _ e) (AK _) ?_,rfl,q _ hf⟩
 exact⟨z,us,r,⟨_,AY _ rfl,rfl,_,rfl⟩⟩
theorem dZ(h:PA X es t):PE X (.List es pos) (mD t):=by
 intro pI s Y H Q I hq;refine wpAny_List_spliced (thn (h pos pI s Y H _ I hq) λus s1 ⟨xs,H1,I1,r,z,q⟩=>⟨by rw[<-r.length];exact z,?_⟩)
 have hf:H1 s1.heap.objs.size=Ae:=I1.hok.fresh (AK _);refine⟨.ref s1.heap.objs.size,upd H1 s1.heap.objs.size (.lst xs),I1.laid (t':=s1.toks) (λb u e=>At _ e) (AK _) ?_,rfl,q _ hf⟩
 exact⟨z,us,0,r,AY _ rfl⟩
end
abbrev Sp:=Ac V->Hp->VK->XK->Prop
variable{sp:Sp}
abbrev CXT:=Ac BW->Hp->Ao->XK->Aj->Ao->Prop
variable{CX:CXT}
structure Env0 (P:AF) (w:AS) (K:Fg) (mg:Ag->An Aj) (base:AA) (A:AQ) (outer:Ac BW) (s:Ao) (H:Hp):Prop where
 frames:A.frames=Aa outer
 mod:Mod K mg base
 bs:∀ b o,base.get? b=Aa o->s.heap.get? b=Aa o/\H b=Ae
 bsz:base.objs.size<=s.heap.objs.size
 funs:s.heap.FunFrames base outer
 frf:∀ b∈frs outer,H b=Ae
 hok:HOk P w H s.heap
 bare:EE s.gens
noncomputable def CE(outer:Ac BW)(P:AF)(w:AS)(H:Hp)(s:Ao)(Q:VK)(u:Aj)(s':Ao):Prop:=
 ∃ v H',s'.os=s.os/\EE s'.gens/\Un (frs outer) [] H H' s.heap s'.heap/\HOk P w H' s'.heap/\Bm v u/\Q v H'
noncomputable def CR(CX:CXT)(outer:Ac BW)(P:AF)(w:AS)(H:Hp)(s:Ao)(Q:VK)(E:XK)(r:GV)(s':Ao):Prop:=
  match r with
  |.ok (.ret u)=>CE outer P w H s Q u s'
  |.ok _=>AV
  |.error e=>CX outer H s E e s'
structure FnOk (P:AF) (w:AS) (K:Fg) (mg:Ag->An Aj) (base:AA) (CX:CXT) (k:Af) (f:Ak) (fd:Bp) (ps:Ac Ag) (sp:Sp):Prop where
 len:∀ vs H Q E,sp vs H Q E->vs.length=ps.length
 run:∀(A:AQ)(outer:Ac BW)(s:Ao)(H:Hp)(args:Args)(us:Ac Aj)(vs:Ac V)(Q:VK)(E:XK),Room k A->Env0 P w K mg base A outer s H->Fx s fd args (ps.zip us)->AX vs us->sp vs H Q E ->
  EF (model P w) A (.call (.ref f) args) (CR CX outer P w H s Q E) s
theorem FnOk.imp{w:AS}{K:Fg}{mg:Ag->An Aj}{base:AA}{f:Ak}{sp':Sp}(F:FnOk P w K mg base CX k f fd ps sp)(h:∀ vs H Q E,sp' vs H Q E->sp vs H Q E):FnOk P w K mg base CX k f fd ps sp':=
 ⟨λvs H Q E q=>F.len vs H Q E (h _ _ _ _ q),λA outer s H args us vs Q E hr he hb hv hs=>F.run A outer s H args us vs Q E hr he hb hv (h _ _ _ _ hs)⟩
theorem Env0.make{w:AS}{K:Fg}{mg:Ag->An Aj}{base:AA}{A:AQ}{outer:Ac BW}(e:Env0 P w K mg base A outer s H)(C:Ak)(us:Ac Aj)(kw:Ac (Ag×Aj)):
    Env0 P w K mg base (A.under (.builtin "type.__call__" ⟨.ref C::us,kw⟩)) outer s H:=⟨by first|exact e.frames|(simpa [Hw,Code.envs,Hx,pushEnvs] using e.frames),e.mod,e.bs,e.bsz,e.funs,e.frf,e.hok,e.bare⟩
section
variable{X:Cx}{pI:Pn}{Y:St}{H:Hp}{s s':Ao}
theorem Inv.env0(I:Inv X pI Y H s):Env0 X.prog X.w X.K X.mg X.base X.A X.stack s H:=
 ⟨I.ok.frames,I.ok.mod,I.bs,BD I.ok.bsz I.sz,I.stack,I.stkFree,I.hok,I.bare⟩
theorem Inv.after{Q:VK}(I:Inv X pI Y H s)(h:CE X.stack X.prog X.w H s Q u s'):EP X pI Y Q u s':=by
 obtain⟨v,H',os,bare,un,hok,r,q⟩:=h;obtain⟨hh,g,d,t,os'⟩:=s';obtain rfl:os'=s.os:=os;exact⟨v,H',I.call (h':=hh) (g':=g) (d':=d) (t':=t) (ch:=[]) un hok bare (λb z=>absurd z (by simp)),r,q⟩
end
def gH(sp:Sp)(dvs:Ac V)(E:XK)(t:TA):TE:=λY H Q=>t Y H λvs H1=>sp (vs++dvs) H1 Q E
noncomputable def Ed(K:Fg)(fd:Bp)(ps:Ac Ag)(ds:Ac Aj):Prop:=
 ∀(s:Ao)(us:Ac Aj),K.In s.heap->(us++ds).length=ps.length->Fx s fd ⟨us,[]⟩ (ps.zip (us++ds))
theorem Ed.all{K:Fg}(h:∀ us:Ac Aj,us.length=ps.length->FB fd ⟨us,[]⟩=pure (ps.zip us)):Ed K fd ps []:=λs us _ hl=>by
 rw[Cc]at hl ⊢;exact .of_eq (h us hl)
def HJ(CX:CXT)(X:Cx)(E:XK):Prop:=∀(pI:Pn)(Y:St)(H:Hp)(s:Ao)(e:Aj)(s':Ao),Inv X pI Y H s->CX X.stack H s E e s'->X.xe e s'
section
variable{X:Cx}{CX:CXT}{k:Af}{f C:Ak}{fd:Bp}{ps:Ac Ag}{sp:Sp}{dvs:Ac V}{ds:Ac Aj}{E:XK}{x m:Ag}{p pos apos:Az}{e o:Am}{es:Ac Am}{ta:TE}{t:TA}
theorem Rg{Q:VK}(F:FnOk X.prog X.w X.K X.mg X.base CX k f fd ps sp)(hr:Room k X.A)(hb:Ed X.K fd ps ds)(hd:AX dvs ds)(hx:HJ CX X E)(I:Inv X pI Y H s)(r:AX vs us)(h:sp (vs++dvs) H Q E):Au (model X.prog X.w) X.A (call (.ref f) us) (EP X pI Y Q) X.xe s:=by
 have r2:AX (vs++dvs) (us++ds):=r.append hd;have hl:(us++ds).length=ps.length:=by rw[<-r2.length];exact F.len _ _ _ _ h
 refine Fj (Et (F.run X.A X.stack s H ⟨us,[]⟩ (us++ds) (vs++dvs) Q E hr I.env0 (hb s us I.kIn hl) r2 h) λr s' hq=>?_)
 cases r with
 |error e=>exact hx pI Y H s e s' I hq
 |ok fl=>
  cases fl with
  |ret u=>exact I.after hq
  |next=>exact AZ hq
  |brk=>exact AZ hq
  |cont=>exact AZ hq
theorem Ql(F:FnOk X.prog X.w X.K X.mg X.base CX k f fd ps sp)(hr:Room k X.A)(hg:Gl X x)(hm:X.mg x=Aa (.ref f))(hk:A7 X.K (.ref f)=Ab)(hb:Ed X.K fd ps ds)(hd:AX dvs ds)(hx:HJ CX X E)(ha:PA X (e::es) t)(hdb:(x==("__debug__" : Ag))=Ad:=by decide)(he:Aq (e::es) X.env=(Ad,eval e X.env)::Aq es X.env:=by rfl)(hpl:(Bq pos (Aq es X.env)).any (·.1)=Ad:=by rfl):PE X (.Call (.Name x p) (e::es) [] pos) (gH sp dvs E t):=by
 intro pI s Y H Q I h;refine CC (GH I hg hm ?_ hdb);refine DE (h₀:=X.base) I.ok.mod.kin hk (thn (ha pos pI s Y H _ I h) λus s1 ⟨vs,H1,I1,r,q⟩=>⟨I1.kIn,?_⟩) he hpl
 exact Rg F hr hb hd hx I1 r q
structure Mk (K:Fg) (C f:Ak):Prop where
 makes:VH K C=Ab
 init:Ar K (.ref C) "__init__" = Aa (Aa (.ref f))
 fn:Dr K (.ref f)=Ab
 kp:A7 K (.ref C)=Ab
end
section
variable{X:Cx}{CX:CXT}{k:Af}{f C:Ak}{fd:Bp}{ps ks:Ac Ag}{sp:Sp}{E:XK}{x m:Ag}{p pos apos kpos:Az}{e o:Am}{es:Ac Am}{kws:Ac DO}{te ta:TE}{t tk:TA}{nm:An Ag}
variable{g:Ac Aj->Ac Aj->Ac Aj}{gV:Ac V->Ac V->Ac V}
end
structure FnScope (N P:Ac Ag) (sc:BH):Prop where
 kind:sc.kind=.function
 co:sc.isCoroutine=Ad
 gen:sc.isGenerator=Ad
 nd:N.Nodup
 pre:N.take P.length=P
 par:∀ x∈P,sc.names.lookup x=Aa .local\/sc.names.lookup x=Aa .cell
 nofree:∀ y∈sc.names,y.2≠.free
theorem PQ{kindOf:Ag->An Dq}{x:Ag}:∀{binds:Ac (Ag×Aj)}{m:Ag->An Aj},(∀ v,(x,v)∉binds)->G4 kindOf binds m x=m x
 |[],_,_=>rfl
 |(n,v)::r,m,h=>by
  unfold G4;rw[PQ λw hw=>h w (Ax _ hw)]
  split
  .have:x≠n:=by rintro rfl;exact h v AB
   simp[this]
  .rfl
theorem PU{kindOf:Ag->An Dq}{x:Ag}:∀{binds:Ac (Ag×Aj)}{m:Ag->An Aj},(∀ v,(x,v)∉binds)->G3 kindOf binds m x=m x
 |[],_,_=>rfl
 |(n,v)::r,m,h=>by
  unfold G3;rw[PU λw hw=>h w (Ax _ hw)]
  split
  .rfl
  .have:x≠n:=by rintro rfl;exact h v AB
   simp[this]
theorem PR{kindOf:Ag->An Dq}{x:Ag}{v:Aj}:∀{P:Ac Ag}{vs:Ac Aj}{i:Af}{m:Ag->An Aj},P.Nodup->P[i]?=Aa x->vs[i]?=Aa v->kindOf x=Aa .local->G4 kindOf (P.zip vs) m x=Aa v
 |[],_,_,_,_,h,_,_=>by simp at h
 |_::_,[],_,_,_,_,h,_=>by simp at h
 |p::P,w::vs,0,m,nd,h1,h2,hk=>by
  simp at h1 h2;subst h1;subst h2;show G4 kindOf ((p,w)::P.zip vs) m p=_;unfold G4;rw[PQ λv hv=>(Fd.mp nd).1 (Gx hv).1,AE hk]
  simp
 |p::P,w::vs,i+1,m,nd,h1,h2,hk=>by
  show G4 kindOf ((p,w)::P.zip vs) m x=_;unfold G4;exact PR (i:=i) (Fd.mp nd).2 (by simpa using h1) (by simpa using h2) hk
theorem PV{kindOf:Ag->An Dq}{x:Ag}{v:Aj}:∀{P:Ac Ag}{vs:Ac Aj}{i:Af}{m:Ag->An Aj},P.Nodup->P[i]?=Aa x->vs[i]?=Aa v->kindOf x≠Aa .local->G3 kindOf (P.zip vs) m x=Aa v
 |[],_,_,_,_,h,_,_=>by simp at h
 |_::_,[],_,_,_,_,h,_=>by simp at h
 |p::P,w::vs,0,m,nd,h1,h2,hk=>by
  simp at h1 h2;subst h1;subst h2;show G3 kindOf ((p,w)::P.zip vs) m p=_;unfold G3;rw[PU λv hv=>(Fd.mp nd).1 (Gx hv).1,AO hk]
  simp
 |p::P,w::vs,i+1,m,nd,h1,h2,hk=>by
  show G3 kindOf ((p,w)::P.zip vs) m x=_;unfold G3;exact PV (i:=i) (Fd.mp nd).2 (by simpa using h1) (by simpa using h2) hk
noncomputable def start(N:Ac Ag)(vs:Ac V):St:=vs.map Aa++Fw (N.length-vs.length) Ae
noncomputable def EA(CX:CXT)(P:AF)(w:AS)(K:Fg)(mg:Ag->An Aj)(base:AA)(N:Ac Ag)(qual:Ag)(scope:BH)(f:Ak)(cd:Aj)(A:AQ)(outer:Ac BW)(s:Ao)(H:Hp)(E:XK):Cx where
 prog:=P
 w:=w
 K:=K
 mg:=mg
 base:=base
 A:=A.deeper (D3 qual scope s.heap.objs.size f cd)
 N:=N
 s₀:=s
 H₀:=H
 env:=D3 qual scope s.heap.objs.size f cd
 outer:=outer
 stack:=D3 qual scope s.heap.objs.size f cd::outer
 ex:=[]
 calm:=Ab
 fn:=λ_=>Ab
 pn:=[]
 xe:=λe s'=>Au (model P w) (A.deeper (D3 qual scope s.heap.objs.size f cd)) (leaving (D3 qual scope s.heap.objs.size f cd) e) (λ_ s''=>CX outer H s E e s'') (λe' s''=>CX outer H s E e' s'') s'
theorem Qd{sc:BH}(h:sc.names.lookup x=Aa .cell):∃ c,(Ck n sc.names []).lookup x=Aa c:=by
 have q:=VA sc.names n [] (.inl h);exact BU.mp q
theorem Po{w:AS}{K:Fg}{mg:Ag->An Aj}{base:AA}{N ps:Ac Ag}{f:Ak}{cd:Aj}{A:AQ}{outer:Ac BW}{s1:Ao}{E:XK}(S:FnScope N ps scope)(hd:A.handled=Ae)(e0:Env0 P w K mg base A outer s H)(hl:vs.length=ps.length)(r:AX vs us)(x:InCallC s s.heap.objs.size (G4 (D3 qual scope s.heap.objs.size f cd).kindOf (ps.zip us) λ_=>Ae) (Ck (s.heap.objs.size+1) scope.names []) (G3 (D3 qual scope s.heap.objs.size f cd).kindOf (ps.zip us) λ_=>Ae) s1):Inv (EA CX P w K mg base N qual scope f cd A outer s H E) [] (start N vs) H s1:=by
 have hpl:ps.length<=N.length:=by have:=congrArg TY S.pre;rw[Ge]at this;omega
 obtain⟨h1,tk,rfl,hk⟩:=x.done;have noA:∀ b:Ak,b∉(EA CX P w K mg base N qual scope f cd A outer s H E).ex:=λb z=>absurd (show b∈([]:Ac Ak) from z) (by simp)
 refine⟨⟨e0.mod,S.kind,rfl,rfl,AK _,λy z c h1 h2=>?_,λy hy=>?_,λy c _ h=>?_,λ_=>hd,Around.frames_deeper e0.frames,.inr ⟨rfl,rfl⟩,λb z=>absurd z (noA b),e0.bs,e0.bsz,λb _ _=>noA b,λb z=>absurd z (noA b),e0.funs,e0.frf⟩,
  rfl,e0.bare,Un.kept hk,⟨_,x.toInCall.ns,λi y v h1 h2 h3=>?_⟩,λy c h=>⟨_,x.cell y c h⟩,e0.hok.fresh (AK _),λy c h=>?_,λp hp=>absurd (show p∈([]:Pn) from hp) (by simp),e0.hok.kept hk,?_⟩
 .exact name_of_addr x.apart (Ca h1) (Ca h2)
 .have hy:scope.names.lookup y=Aa .cell\/scope.names.lookup y=Aa .free:=hy;rcases hy with hy|hy
  .exact Qd hy
  .exact absurd rfl (S.nofree _ (Ca hy))
 .exact Fe (x.above y c (Ca h))
 .have hi:i<vs.length:=by
   unfold start at h2;by_cases hi:i<vs.length
   .exact hi
   .rw[TW (by simpa using hi)]at h2
    rw[TX]at h2;split at h2<;>cases h2
  have ha:vs[i]?=Aa v:=by
   unfold start at h2;rw[Eh (by simpa using hi),CJ]at h2
   cases e:vs[i]? with
   |none=>rw[e]at h2;cases h2
   |some a=>rw[e]at h2;cases h2;rfl
  obtain⟨u,hu,rv⟩:=r.get ha;have hp:ps[i]?=Aa y:=by
   rw[<-S.pre,List.getElem?_take_of_lt (by omega)];exact h1
  have ndP:ps.Nodup:=by rw[<-S.pre];exact S.nd.sublist (List.take_sublist _ _)
  refine⟨u,rv,?_⟩;rcases S.par y (T6 hp) with k|k
  .exact .inl ⟨k,PR ndP hp hu k⟩
  .obtain⟨c,e⟩:=Qd (n:=s.heap.objs.size+1) k;refine .inr ⟨.inl k,c,e,?_⟩;have q:=x.cell y c e;rw[PV ndP hp hu (by show scope.names.lookup y≠_;rw[k];decide)]at q
   exact q
 .exact e0.hok.fresh (Fe (x.above y c (Ca h)))
 .unfold start;show _=N.length;rw[BN,BO,T4];omega
theorem N5{w:AS}{K:Fg}{mg:Ag->An Aj}{base:AA}{f:Ak}{name:Ag}{params:Arguments}{dV kV doc pm cdv ct oc:Aj}{an od:An Ak}{osl:A3 (An Aj)}{N ps:Ac Ag}(lk:K.lookup f=Aa ⟨oc,od,.func (BP name qual params body scope dV kV doc pm an cdv ct),osl⟩)(hcd:Dm K cdv qual=Ab)(S:FnScope N ps scope)(len:∀ vs H Q E,sp vs H Q E->vs.length=ps.length)(hbody:∀(A:AQ)(outer:Ac BW)(s:Ao)(H:Hp)(vs:Ac V)(Q:VK)(E:XK),Room k (A.deeper (D3 qual scope s.heap.objs.size f cdv))->sp vs H Q E ->
   ∃ t,PSs (EA CX P w K mg base N qual scope f cdv A outer s H E) body t/\t {nx:=λ_ H'=>Q .non H',rt:=Q} (start N vs) H):FnOk P w K mg base CX (k+1) f (BP name qual params body scope dV kV doc pm an cdv ct) ps sp:=by
 refine⟨len,λA outer s H args us vs Q E hr e0 hb r hsp=>?_⟩
 have hl:=len _ _ _ _ hsp;have KX:K.In s.heap:=e0.mod.kin.keeps λb o e=>(e0.bs b o e).1
 have lim:s.heap.NoLimit:=e0.mod.nolimit.keeps λb o e=>(e0.bs b o e).1
 have hkind:∀ y∈ps.zip us,scope.names.lookup y.1=Aa .local\/(scope.names.lookup y.1=Aa .cell/\((Ck (s.heap.objs.size+1) scope.names []).lookup y.1).isSome=Ab):=λ⟨n,v⟩ hy=>by
  rcases S.par n (Gx hy).1 with q|q
  .exact .inl q
  .exact .inr ⟨q,VA _ _ _ (.inl q)⟩
 refine VO hr.depth (KX _ _ lk) rfl S.co S.gen rfl (VB KX hcd) (hb _ _ _ _ ?_);refine VY S.kind hkind λenv he s1 x=>?_
 subst he;refine⟨lim.keeps x.toInCall.keep,codeAny_func ?_⟩;obtain⟨t,ht,hq⟩:=hbody A outer s H vs Q E (hr.deeper _) hsp;have I:Inv (EA CX P w K mg base N qual scope f cdv A outer s H E) [] (start N vs) H s1:=Po S hr.hd e0 hl r x;refine A2 (ht [] s1 (start N vs) H _ I hq) (λfl s' hs=>?_) λe s' hs=>hs
 have fin:∀{Y':St}{H':Hp}{v:V}{u:Aj},Inv (EA CX P w K mg base N qual scope f cdv A outer s H E) [] Y' H' s'->Bm v u->Q v H'->CE outer P w H s Q u s':=
  λ{Y' H' v u} J rv q=>⟨v,H',J.os,J.bare,J.base,J.hok,rv,q⟩
 cases fl with
 |ret u=>
  obtain⟨v,Y',H',J,rv,q⟩:=hs;exact fin J rv q
 |next=>
  obtain⟨Y',H',J,q⟩:=hs;exact fin (v:=V.non) (u:=De) J rfl q
 |brk=>
  obtain⟨_,_,_,q⟩:=hs;exact AZ q
 |cont=>
  obtain⟨_,_,_,q⟩:=hs;exact AZ q
section
variable{X:Cx}{x:Ag}{p pos:Az}{e:Am}{es:Ac Am}{t:TA}{id T:Cr}{r:Ac V->Hp->VK->Prop}
def tCB(r:Ac V->Hp->VK->Prop)(t:TA):TE:=λY H Q=>t Y H λvs H1=>r vs H1 Q
theorem IS(hc:FZ X (.builtin id) r)(hg:Gl X x)(hm:X.mg x=Ae)(hv:Cq x=Aa (.builtin id))(ha:PA X (e::es) t)(hn:x≠"__name__" := by decide)(hdb:(x==("__debug__" : Ag))=Ad:=by decide)(he:Aq (e::es) X.env=(Ad,eval e X.env)::Aq es X.env:=by rfl)(hpl:(Bq pos (Aq es X.env)).any (·.1)=Ad:=by rfl):PE X (.Call (.Name x p) (e::es) [] pos) (tCB r t):=by
 intro pI s Y H Q I h;refine CC (Jh I hg hm hv ?_ hn hdb);exact PyProof.Rows.callWith_builtin1 (thn (ha pos pI s Y H _ I h) λus s1 ⟨vs,H1,I1,r1,q1⟩=>hc pI s1 Y H1 vs us Q I1 r1 q1) he hpl
theorem Pf(hc:FZ X (.type T) r)(hg:Gl X x)(hm:X.mg x=Ae)(hv:Cq x=Aa (.type T))(ha:PA X (e::es) t)(hn:x≠"__name__" := by decide)(hdb:(x==("__debug__" : Ag))=Ad:=by decide)(he:Aq (e::es) X.env=(Ad,eval e X.env)::Aq es X.env:=by rfl)(hpl:(Bq pos (Aq es X.env)).any (·.1)=Ad:=by rfl):PE X (.Call (.Name x p) (e::es) [] pos) (tCB r t):=by
 intro pI s Y H Q I h;refine CC (Jh I hg hm hv ?_ hn hdb);exact CQ (thn (ha pos pI s Y H _ I h) λus s1 ⟨vs,H1,I1,r1,q1⟩=>hc pI s1 Y H1 vs us Q I1 r1 q1) he hpl
end
end L2
namespace HT
open PySem PyProof.Rows
variable{sl:Ak}
section
open PySem.SeqAt
open PySem.AutoSeq1 (wpAny_loadPart')
open PySem.MeetsSeq PySem.MeetsSeq2 PySem.MeetsSeq3
end
section
variable{prog:AF}{w:AS}{A:AQ}{E:Vq}{s:Ao}
theorem cat_tup{t b:Ak}{vs ws:Ac Aj}{Q:Vq}(ht:IG s.heap t vs.toArray)(hb:IG s.heap b ws.toArray)(hv:vs≠[])(h1:ws=[]->Q (.ref t) s)(h2:ws≠[]->Q (.ref s.heap.objs.size) { s with heap:=s.heap.push { cls:=.type "tuple",data:=.seq (vs++ws).toArray } })(hsz:vs.length+ws.length<=sizeLine):Au (model prog w) A (BJ .Add (.ref t) (.ref b)) Q E s:=by
 obtain⟨⟨cls,dd,data,sl⟩,ho,hc,n,hd⟩:=id ht;obtain⟨⟨cls2,dd2,data2,sl2⟩,ho2,hc2,n2,hd2⟩:=id hb;simp only at hc hd hc2 hd2;subst hc hd hc2 hd2;have e:vs.toArray++ws.toArray=(vs++ws).toArray:=by simp
 by_cases hw:ws=[]
 .exact HB ⟨_,ho,rfl⟩ ⟨_,ho2,rfl⟩ VR seq_tuple_add U_5 U_1 (UY _ _)
   (tuple_addW1 t b vs.toArray ws.toArray n n2 dd dd2 sl sl2 (by simpa using hv) (by simp[hw])) ⟨ho,ho2,h1 hw⟩
 .refine HB ⟨_,ho,rfl⟩ ⟨_,ho2,rfl⟩ VR seq_tuple_add U_5 U_1 (UY _ _)
   (tuple_addW2 t b vs.toArray ws.toArray n n2 dd dd2 sl sl2 (by simpa using hv) (by simpa using hw) (by rw[AL,AL];exact hsz)) ⟨ho,ho2,?_⟩
  rw[e];exact h2 hw
noncomputable def sIx(n d:Af):An Ah->Af
 |none=>d
 |some v=>if v<0 then (v+(n:Ah)).toNat else min v.toNat n
theorem aJ(n d:Af)(hd:d<=n)(o:An Ah):sIx n d o<=n:=by
 cases o with
 |none=>exact hd
 |some v=>
  show (if v<0 then (v+(n:Ah)).toNat else min v.toNat n)<=n
  by_cases hv:v<0
  .rw[AE hv];omega
  .rw[AO hv];exact Nat.min_le_right _ _
theorem QH(v:Ah)(n d:Af):(if v<0 then max (v+(n:Ah)) 0 else min v (n:Ah))=((sIx n d (Aa v):Af):Ah):=by
 show (if v<0 then max (v+(n:Ah)) 0 else min v (n:Ah))=(((if v<0 then (v+(n:Ah)).toNat else min v.toNat n):Af):Ah)
 by_cases hv:v<0
 .simp only[AE hv];omega
 .simp only[AO hv];omega
theorem Wn(lo hi:An Ah)(n:Af):Ej lo hi 1 (n:Ah)=(((sIx n 0 lo:Af):Ah),((sIx n n hi:Af):Ah)):=by
 have h1:¬ ((1:Ah)<0):=by omega
 unfold Ej;simp only[h1,KA];refine JF ?_ ?_
 .cases lo with
  |none=>rfl
  |some v=>exact QH v n 0
 .cases hi with
  |none=>rfl
  |some v=>exact QH v n n
theorem Wg(i j:Af):Dc (i:Ah) (j:Ah) 1=j-i:=by
 unfold Dc;have h1:(1:Ah)>0:=by omega
 simp only[h1,DV,Int.ediv_one];split<;>omega
theorem OK{v:Aj}{o:An Ah}{Q:An Ah->Ao->Prop}(p:FP v o)(h:Q o s):Au (model prog w) A (Builtin.Slice.slicePartIndex v) Q E s:=by
 cases p with
 |none=>exact Ul h
 |int i t=>exact slicePart_int h
theorem V2{vl vu:Aj}{lo hi:An Ah}{n:Af}{Q:Ah×Ah×Af->Ao->Prop}(hs:s.heap.IsSliceOf sl vl vu .none)(pl:FP vl lo)(pu:FP vu hi)(h:Q (((sIx n 0 lo:Af):Ah),1,sIx n n hi-sIx n 0 lo) s):Au (model prog w) A (Ur (.ref sl) (pure (n:Ah))) Q E s:=by
 obtain⟨os,hos,hcs,hds⟩:=id hs;unfold Ur Builtin.Slice.sliceFields;refine Ap (Ap (CG hos hds (x:=vl) rfl (Ap (CG hos hds (x:=vu) rfl (Ap (CG hos hds (x:=.none) rfl (AU ?_)))))));refine Ap (Ul ?_);show Au _ _ (if ((1:Ah)==0)=Ab then _ else _) _ _ s
 rw[AO (by decide)]
 refine Ap (OK pl (Ap (OK pu (Ap (AU ?_)))));show Au _ _ (match Ej lo hi 1 (n:Ah) with|(lo,hi)=>pure (lo,(1:Ah),Dc lo hi 1)) _ _ s
 rw[Wn lo hi n];show Au _ _ (pure (((sIx n 0 lo:Af):Ah),(1:Ah),Dc ((sIx n 0 lo:Af):Ah) ((sIx n n hi:Af):Ah) 1)) _ _ s;rw[Wg];exact AU h
theorem XU(xs:A3 Aj)(i k:Af):((BR k).filterMap fun(m:Af)=>xs[((i:Ah)+(m:Ah)*1).toNat]?).toArray=((xs.toList.drop i).take k).toArray:=by
 have e:(fun(m:Af)=>xs[((i:Ah)+(m:Ah)*1).toNat]?)=λm=>xs[i+m]?:=by
  funext m
  have:((i:Ah)+(m:Ah)*1).toNat=i+m:=by omega
  rw[this]
 rw[e];have:=pick_run xs i k;rw[List.filterMap_map]at this;have e2:((λx=>xs[x]?) ∘ λx=>i+x)=λm=>xs[i+m]?:=rfl
 rw[e2]at this;rw[this]
theorem getItem_tuple_cut{t:Ak}{items:A3 Aj}{vl vu:Aj}{lo hi:An Ah}{Q:Vq}(ht:IG s.heap t items)(hs:s.heap.IsSliceOf sl vl vu .none)(pl:FP vl lo)(pu:FP vu hi)(hw:¬ (sIx items.size 0 lo=0/\sIx items.size items.size hi=items.size))(h:Q (.ref s.heap.objs.size) { s with heap:=s.heap.push { cls:=.type "tuple",data:=.seq ((items.toList.drop (sIx items.size 0 lo)).take (sIx items.size items.size hi-sIx items.size 0 lo)).toArray } })(hsz:items.size<=sizeLine):Au (model prog w) A (Ia (.ref t) (.ref sl)) Q E s:=by
 have htake:sizeOk (.seq ((items.toList.drop (sIx items.size 0 lo)).take (sIx items.size items.size hi-sIx items.size 0 lo)).toArray):=by
  show ((items.toList.drop (sIx items.size 0 lo)).take (sIx items.size items.size hi-sIx items.size 0 lo)).toArray.size<=sizeLine;rw[AL,Ge,TZ,Fs];omega
 have hj:sIx items.size items.size hi<=items.size:=aJ _ _ (AK _) hi;obtain⟨os,hos,hcs,hds⟩:=id hs;have hTs:s.TypeIs (.ref sl) "slice" := ⟨os,hos,hcs⟩;unfold Ia
 try with_reducible refine D6 ?_
 first|refine Ap (AU ?_)|skip
 refine Ap (wpAny_sequenceKey ht.typeIs (by decide) ?_)
 refine Ap (EL (name:=Ay "__getitem__") ht.typeIs Um
  (Gm Um ht.typeIs entry_tuple_getitem ?_ (args_tuple_getitem _ _)))
 show Au _ _ (Builtin.Tuple.tupleItemsOf (.ref t) >>= _) _ _ s;refine Ap (tupleItemsOf_ ht ?_);refine Ap (wpAny_typeOf hTs ?_);rw[AE (by decide)]
 refine Ap (V2 hs pl pu ?_);have hno:¬ ((((sIx items.size 0 lo:Af):Ah)==0&&(1:Ah)==1&&(sIx items.size items.size hi-sIx items.size 0 lo)==items.size)=Ab):=by
  intro q;rw[Al,Al]at q;have q1:((sIx items.size 0 lo:Af):Ah)=0:=eq_of_beq q.1.1;have q2:sIx items.size items.size hi-sIx items.size 0 lo=items.size:=eq_of_beq q.2;exact hw ⟨by omega,by omega⟩
 show Au _ _ (if (((sIx items.size 0 lo:Af):Ah)==0&&(1:Ah)==1&&(sIx items.size items.size hi-sIx items.size 0 lo)==items.size)=Ab then _ else _) _ _ s
 rw[AO hno,XU]
 first
  |exact Ap (m:=Dp _) (Ch (AU ⟨_,rfl,AU h⟩) htake)
  |exact Ap (m:=Dp _) (Ch (Ap (AU (AU ⟨_,rfl,AU h⟩))) htake)
  |exact Ap (Ap (m:=Dp _) (Ch (AU (AU ⟨_,rfl,AU h⟩)) htake))
  |exact Ap (Ap (m:=Dp _) (Ch (AU ⟨_,rfl,AU h⟩) htake))
end
end HT
namespace L2
open PySem PySem.Spec PyProof.Rows
variable{xs:Ac V}{us its:Ac Aj}{n t':Af}{i:Ah}{pI:Pn}{Y:St}{H:Hp}{s:Ao}
abbrev TO:=St->Hp->(An Ah->Hp->Prop)->Prop
noncomputable def PO(X:Cx)(e:An Am)(t:TO):Prop:=
 ∀(pI:Pn)(s:Ao)(Y:St)(H:Hp)(Q:An Ah->Hp->Prop),Inv X pI Y H s->t Y H Q ->
  Au (model X.prog X.w) X.A (evalPart e X.env) (λu s'=>∃ o H',Inv X pI Y H' s'/\FP u o/\Q o H') X.xe s
def Ys:TO:=λ_ H Q=>Q Ae H
def gB(t:TE):TO:=λY H Q=>t Y H λx H1=>∃ i,x=.int i/\Q (Aa i) H1
section
variable{X:Cx}{e:Am}{te:TE}{lo hi:An Am}{tl th:TO}{pos p2:Az}
theorem ZA:PO X Ae Ys:=by
 intro pI s Y H Q I h;rw[evalPart_none];exact AU ⟨Ae,H,I,.none,h⟩
theorem Zz(h:PE X e te):PO X (Aa e) (gB te):=by
 intro pI s Y H Q I hw;rw[evalPart_some];refine thn (h pI s Y H _ I hw) λu s1 ⟨x,H1,I1,r1,q1⟩=>?_
 obtain⟨i,rfl,q⟩:=q1;obtain⟨t,rfl⟩:=r1;exact⟨Aa i,H1,I1,.int i t,q⟩
noncomputable def SlR(X:Cx)(r:V->An Ah->An Ah->Hp->VK->Prop):Prop:=
 ∀(pI:Pn)(s:Ao)(Y:St)(H:Hp)(x:V)(v vl vu:Aj)(lo hi:An Ah)(sl:Ak)(Q:VK),Inv X pI Y H s->Bm x v->s.heap.IsSliceOf sl vl vu .none->FP vl lo->FP vu hi->r x lo hi H Q ->
  ∃ T id,typeLookup (.type T) "__getitem__" = pure (Aa (.builtin id))/\s.TypeIs v T/\Au (model X.prog X.w) X.A (Ia v (.ref sl)) (EP X pI Y Q) X.xe s
def tSl(r:V->An Ah->An Ah->Hp->VK->Prop)(te:TE)(tl th:TO):TE:=λY H Q=>te Y H λx H1=>tl Y H1 λl H2=>th Y H2 λu H3=>r x l u H3 Q
theorem XV{r:V->An Ah->An Ah->Hp->VK->Prop}(hr:SlR X r)(he:PE X e te)(hl:PO X lo tl)(hu:PO X hi th):PE X (.Subscript e (.Slice lo hi Ae p2) pos) (tSl r te tl th):=by
 intro pI s Y H Q I h;refine Subscript_ (thn (he pI s Y H _ I h) λv s1 ⟨x,H1,I1,r1,q1⟩=>?_)
 refine wpAny_Slice (thn (hl pI s1 Y H1 _ I1 q1) λvl s2 ⟨l,H2,I2,pl,q2⟩=>thn (hu pI s2 Y H2 _ I2 q2) λvu s3 ⟨u,H3,I3,pu,q3⟩=>?_)
 rw[evalPart_none];refine AU ?_;have I4:Inv X pI Y H3 { s3 with heap:=s3.heap.push { cls:=.type "slice",data:=.fields #[vl,vu,.none] } }:=I3.kept (t':=s3.toks) λb ob q=>At _ q
 obtain⟨T,id,hT,ht,hg⟩:=hr pI { s3 with heap:=s3.heap.push { cls:=.type "slice",data:=.fields #[vl,vu,.none] } } Y H3 x v vl vu l u s3.heap.objs.size Q I4 r1 (Heap.IsSliceOf.new ..) pl pu q3
 show Au (model X.prog X.w) X.A (subscriptTail e (.Slice lo hi Ae p2) v (.ref s3.heap.objs.size)) (EP X pI Y Q) X.xe { s3 with heap:=s3.heap.push { cls:=.type "slice",data:=.fields #[vl,vu,.none] } }
 exact tail_any (ops:=[.ref s3.heap.objs.size,v]) ht hT hg (by with_unfolding_all rfl)
noncomputable def HV(xs:Ac V)(lo hi:An Ah):Ac V:=(xs.drop (HT.sIx xs.length 0 lo)).take (HT.sIx xs.length xs.length hi-HT.sIx xs.length 0 lo)
theorem O0(xs:Ac V)(lo hi:An Ah):(HV xs lo hi).length<=xs.length:=by
 unfold HV;rw[Ge,TZ];omega
def Tg(K:Fg):V->An Ah->An Ah->Hp->VK->Prop:=λx lo hi H Q=>∃ a xs,x=.ref a/\SqT K H a xs /\
 ¬ (HT.sIx xs.length 0 lo=0/\HT.sIx xs.length xs.length hi=xs.length)/\∀ p,H p=Ae->Q (.ref p) (upd H p (.tup (HV xs lo hi)))
theorem aS:SlR X (Tg X.K):=by
 intro pI s Y H x v vl vu lo hi sl Q I rx hs pl pu h;obtain⟨a,xs,rfl,hx,hw,q⟩:=h;cases rx;obtain⟨its,r,ht,hz⟩:=I.tuple hx;have hlen:its.toArray.size=xs.length:=by rw[AL];exact r.length.symm
 refine⟨"tuple",_,PyProof.Rows.slot_tuple_getitem.lookup,ht.typeIs,?_⟩;refine HT.getItem_tuple_cut ht hs pl pu (by rw[hlen];exact hw) ?_ (by rw[hlen];exact hz)
 rw[hlen];refine⟨.ref s.heap.objs.size,_,I.laid (t':=s.toks) (o:=.tup (HV xs lo hi)) (λb ob q=>At _ q) (AK _) ?_,rfl,q _ (I.hok.fresh (AK _))⟩
 exact⟨BD (O0 xs lo hi) hz,_,(r.drop (HT.sIx xs.length 0 lo)).take (HT.sIx xs.length xs.length hi-HT.sIx xs.length 0 lo),JA _ _⟩
def iG(K:Fg):R2:=λx y H Q=>∃ a b xs ys,x=.ref a/\y=.ref b/\SqT K H a xs/\SqT K H b ys/\xs≠[]/\xs.length+ys.length<=sizeLine /\
 (ys=[]->Q (.ref a) H)/\(ys≠[]->∀ p,H p=Ae->Q (.ref p) (upd H p (.tup (xs++ys))))
theorem AX.nil_iff(r:AX xs us):us=[]↔xs=[]:=by
 cases r with
 |nil=>simp
 |cons _ _=>simp
theorem ZM:OpR X (BJ .Add) (iG X.K):=by
 intro pI s Y H x y v u Q I rx ry h;obtain⟨a,b,xs,ys,rfl,rfl,ha,hb,hx,hz,q1,q2⟩:=h;cases rx;cases ry;obtain⟨its,r1,p1,_⟩:=I.tuple ha;obtain⟨its2,r2,p2,_⟩:=I.tuple hb;refine HT.cat_tup p1 p2 (λz=>hx (r1.nil_iff.mp z)) (λz=>⟨.ref a,H,I,rfl,q1 (r2.nil_iff.mp z)⟩) (λz=>?_) (by rw[<-r1.length,<-r2.length];exact hz)
 refine⟨.ref s.heap.objs.size,_,I.laid (t':=s.toks) (o:=.tup (xs++ys)) (λb ob q=>At _ q) (AK _) ?_,rfl,q2 (λw=>z (r2.nil_iff.mpr w)) _ (I.hok.fresh (AK _))⟩
 exact⟨by rw[BN];exact hz,_,r1.append r2,JA _ _⟩
end
noncomputable def ixN(n:Af)(i:Ah):An Af:=if 0<=i then (if i<n then Aa i.toNat else Ae) else if -(n:Ah)<=i then Aa (i+n).toNat else Ae
noncomputable def atI{α:Type}(xs:Ac α)(i:Ah):An α:=(ixN xs.length i).bind λj=>xs[j]?
theorem Y_6{j:Af}(h:ixN n i=Aa j):seqIndex? i n=Aa j/\j<n/\-(n:Ah)<=i/\i<n:=by
 unfold ixN at h;by_cases h0:0<=i
 .rw[AE h0]at h;by_cases h1:i<n
  .rw[AE h1]at h;have e:i.toNat=j:=Bc h;exact⟨by rw[seqIndex_of h0 h1,e],by omega,by omega,h1⟩
  .rw[AO h1]at h;cases h
 .rw[AO h0]at h;by_cases h1:-(n:Ah)<=i
  .rw[AE h1]at h;have e:(i+n).toNat=j:=Bc h;exact⟨by rw[seqIndex_neg (by omega) h1,e],by omega,h1,by omega⟩
  .rw[AO h1]at h;cases h
theorem MY{α:Type}{xs:Ac α}{v:α}(h:atI xs i=Aa v):∃ j,seqIndex? i xs.length=Aa j/\xs[j]?=Aa v/\j<xs.length/\-(xs.length:Ah)<=i/\i<xs.length:=by
 unfold atI at h;cases e:ixN xs.length i with
 |none=>rw[e]at h;cases h
 |some j=>
  rw[e]at h;obtain⟨h1,h2,h3,h4⟩:=Y_6 e;exact⟨j,h1,h,h2,h3,h4⟩
def M1(b:Am):Prop:=∀ o i,subscripted b Ad o i=operate [o,i] (Ia o i)
noncomputable def IxR(X:Cx)(r:R2):Prop:=
 ∀(value slice:Am)(pI:Pn)(s:Ao)(Y:St)(H:Hp)(x y:V)(v u:Aj)(Q:VK),Inv X pI Y H s->Bm x v->Bm y u->r x y H Q ->
  subscripted slice Ad v u=operate [v,u] (Ia v u)->Au (model X.prog X.w) X.A (subscriptTail value slice v u) (EP X pI Y Q) X.xe s
noncomputable def MtR(X:Cx)(id:Cr)(r:V->Ac V->Hp->VK->Prop):Prop:=
 ∀(pI:Pn)(s:Ao)(Y:St)(H:Hp)(x:V)(xs:Ac V)(v:Aj)(us:Ac Aj)(Q:VK),Inv X pI Y H s->Bm x v->AX xs us->r x xs H Q ->
  Au (model X.prog X.w) X.A (call (.builtin id) (v::us)) (EP X pI Y Q) X.xe s
section
variable{X:Cx}{a b:Am}{ta tb:TE}{pos:Az}
theorem IxR.or{r r':R2}(h:IxR X r)(h':IxR X r'):IxR X (λx y H Q=>r x y H Q\/r' x y H Q):=by
 intro value slice pI s Y H x y v u Q I rx ry q hs;rcases q with q|q
 .exact h value slice pI s Y H x y v u Q I rx ry q hs
 .exact h' value slice pI s Y H x y v u Q I rx ry q hs
theorem iN{r:R2}(hr:IxR X r)(ha:PE X a ta)(hb:PE X b tb)(hs:M1 b):PE X (.Subscript a b pos) (tOp r ta tb):=by
 intro pI s Y H Q I h;exact Subscript_ (Ow ha hb I h λv u s2 x y H2 I2 rx ry q=>hr a b pI s2 Y H2 x y v u Q I2 rx ry q (hs _ _))
def Tn(K:Fg):R2:=λx y H Q=>∃ p xs i v,x=.ref p/\y=.int i/\SqL K H p xs/\atI xs i=Aa v/\Q v H
def Tk(K:Fg):R2:=λx y H Q=>∃ p xs i v,x=.ref p/\y=.int i/\SqT K H p xs/\atI xs i=Aa v/\Q v H
def Tl:R2:=λx y H Q=>∃ z i c,x=.str z/\y=.int i/\z.length<=sizeLine/\atI z.cps.toList i=Aa c/\Q (.str ⟨#[c]⟩) H
theorem Zr:IxR X (Tn X.K):=by
 intro value slice pI s Y H x y v u Q I rx ry h hs;obtain⟨p,xs,i,z,rfl,rfl,hq,he,q⟩:=h;cases rx;obtain⟨t,rfl⟩:=ry;obtain⟨its,r,pl,hz⟩:=I.list hq;obtain⟨j,h1,h2,h3,h4,h5⟩:=MY he;obtain⟨w,ew,rw'⟩:=r.get h2;have hl:=r.length;have hn:=Jg;have fin:EP X pI Y Q w s:=⟨z,H,I,rw',q⟩;by_cases h0:0<=i
 .have hj:i.toNat=j:=by
   rw[seqIndex_of h0 h5]at h1;exact Bc h1
  exact item_listR pl.isList h0 (by omega) (by rw[hj];simpa using ew) fin hs
 .have hj:(i+(its.toArray.size:Ah)).toNat=j:=by
   rw[seqIndex_neg (by omega) h4]at h1
   rw[AL,<-hl];exact Bc h1
  exact Uo (x:=w) pl.isList.typeIs VT.lookup
   (wpAny_getItem_list_neg (Q:=λr s'=>r=w/\EP X pI Y Q r s') pl.isList (by omega) (by rw[AL]<;>omega) (by omega) (by rw[hj];simpa using ew) ⟨rfl,fin⟩) hs
theorem bY:IxR X (Tk X.K):=by
 intro value slice pI s Y H x y v u Q I rx ry h hs;obtain⟨p,xs,i,z,rfl,rfl,hq,he,q⟩:=h;cases rx;obtain⟨t,rfl⟩:=ry;obtain⟨its,r,pl,hz⟩:=I.tuple hq;obtain⟨j,h1,h2,h3,h4,h5⟩:=MY he;obtain⟨w,ew,rw'⟩:=r.get h2;have hl:=r.length;have hn:=Jg;have fin:EP X pI Y Q w s:=⟨z,H,I,rw',q⟩;exact Uo (x:=w) pl.typeIs slot_tuple_getitem.lookup
  (getItem_tuple (j:=j) (Q:=λr s'=>r=w/\EP X pI Y Q r s') pl (by omega) (by omega) (by rw[AL,<-hl];exact h1) (by simpa using ew) ⟨rfl,fin⟩) hs
theorem bZ:IxR X Tl:=by
 intro value slice pI s Y H x y v u Q I rx ry h hs;obtain⟨z,i,c,rfl,rfl,hz,he,q⟩:=h;obtain⟨t,rfl⟩:=rx;obtain⟨t',rfl⟩:=ry;obtain⟨j,h1,h2,h3,h4,h5⟩:=MY he;have hl:z.cps.toList.length=z.length:=by simp[Str.length]
 rw[hl]at h1 h4 h5;have hn:=Jg;exact tail_any (EG s z t) slot_str_getitem.lookup (getItem_str (c:=c) (by
  have e1:decide (i < -(2 ^ 63:Ah))=Ad:=Cn (by omega)
  have e2:decide (i ≥ 2 ^ 63)=Ad:=Cn (by omega)
  rw[e1,e2,Dz]) (by rw[h1];simpa using h2) ⟨.str ⟨#[c]⟩,H,I.tok _,⟨_,rfl⟩,q⟩) hs
def rIx(K:Fg):R2:=λx y H Q=>Tn K x y H Q\/Tk K x y H Q\/Tl x y H Q
theorem cA:IxR X (rIx X.K):=Zr.or (bY.or bZ)
theorem Inv.lst{p:Ak}(I:Inv X pI Y H s)(h:H p=Aa (.lst xs)):
  ∃(its:Ac Aj)(n:Af),AX xs its/\s.heap.get? p=Aa { cls:=.type "list",data:=.seq its.toArray n }/\xs.length<=sizeLine:=by
 obtain⟨z,its,n,r,e⟩:=I.hok p _ h;exact⟨its,n,r,e,z⟩
theorem V5(lo hi:An Ah)(n:Af):(D8 lo hi Ae n).1=((HT.sIx n 0 lo:Af):Ah)/\(D8 lo hi Ae n).2.1=((HT.sIx n n hi:Af):Ah)/\(D8 lo hi Ae n).2.2=1:=by
 refine⟨?_,?_,rfl⟩
 .cases lo with
  |none=>simp[D8,HT.sIx]
  |some i=>
   simp only[D8,HT.sIx,Ug,show (1:Ah)>0 by decide,DV]
   by_cases h:i<0
   .simp only[h,DV]<;>omega
   .simp only[h,KA]<;>omega
 .cases hi with
  |none=>simp[D8,HT.sIx]
  |some i=>
   simp only[D8,HT.sIx,Ug,show (1:Ah)>0 by decide,DV]
   by_cases h:i<0
   .simp only[h,DV]<;>omega
   .simp only[h,KA]<;>omega
theorem V3(its:Ac Aj)(lo hi:An Ah):slicePick its.toArray lo hi Ae=((its.drop (HT.sIx its.length 0 lo)).take (HT.sIx its.length its.length hi-HT.sIx its.length 0 lo)).toArray:=by
 obtain⟨h1,h2,h3⟩:=V5 lo hi its.toArray.size;unfold slicePick;rw[h1,h2,h3];simp only[sliceRange_one,pick_run,AL]<;>rfl
def Tj(K:Fg):V->An Ah->An Ah->Hp->VK->Prop:=λx lo hi H Q=>∃ a xs,x=.ref a/\SqL K H a xs/\∀ p,H p=Ae->Q (.ref p) (upd H p (.lst (HV xs lo hi)))
theorem YH:SlR X (Tj X.K):=by
 intro pI s Y H x v vl vu lo hi sl Q I rx hs pl pu h;obtain⟨a,xs,rfl,hx,q⟩:=h;cases rx;obtain⟨its,r,ht,hz⟩:=I.list hx;have hlen:=r.length;refine⟨"list",_,VT.lookup,ht.isList.typeIs,?_⟩;refine wpAny_getItem_list_slice ht.isList hs pl pu .none (by simp) ?_ (by rw[AL]<;>omega)
 rw[V3,<-hlen];refine⟨.ref s.heap.objs.size,_,I.laid (t':=s.toks) (o:=.lst (HV xs lo hi)) (λb ob q=>At _ q) (AK _) ?_,rfl,q _ (I.hok.fresh (AK _))⟩
 exact⟨BD (O0 xs lo hi) hz,_,0,(r.drop (HT.sIx xs.length 0 lo)).take (HT.sIx xs.length xs.length hi-HT.sIx xs.length 0 lo),AY _ rfl⟩
theorem OD:FZ X (.builtin "len") (λxs H Q=>∃ p ys,xs=[.ref p]/\(SqL X.K H p ys\/SqT X.K H p ys)/\Q (.int ys.length) H):=by
 intro pI s Y H xs us Q I r h;obtain⟨p,ys,rfl,hq,q⟩:=h;obtain⟨u,rfl,rx⟩:=Gs r;cases rx;have hn:=Jg;rcases hq with hq|hq
 .obtain⟨its,r',pl,hz⟩:=I.list hq;have hlen:=r'.length;exact Calls.call_len_list pl.isList (by simp only[AL]<;>omega) ⟨.int ys.length,H,I.tok _,⟨s.toks+1,by rw[AL,hlen]⟩,q⟩
 .obtain⟨its,r',pl,hz⟩:=I.tuple hq;have hlen:=r'.length;exact len_tuple pl (by simp only[AL]<;>omega) ⟨.int ys.length,H,I.tok _,⟨s.toks+1,by rw[AL,hlen]⟩,q⟩
theorem Wa:FZ X (.builtin "len") (λxs H Q=>∃ z,xs=[.str z]/\z.length<=sizeLine/\Q (.int z.length) H):=by
 intro pI s Y H xs us Q I r h;obtain⟨z,rfl,hz,q⟩:=h;obtain⟨u,rfl,t,rfl⟩:=Gs r;have hn:=Jg;exact len_str (by omega) ⟨.int z.length,H,I.tok _,⟨_,rfl⟩,q⟩
theorem OB:FZ X (.type "list") (λxs H Q=>∃ p ys,xs=[.ref p]/\(SqL X.K H p ys\/SqT X.K H p ys)/\∀ l,H l=Ae->Q (.ref l) (upd H l (.lst ys))):=by
 intro pI s Y H xs us Q I r h;obtain⟨p,ys,rfl,hq,q⟩:=h;obtain⟨u,rfl,rx⟩:=Gs r;cases rx;have fin:∀(its:Ac Aj),AX ys its->ys.length<=sizeLine->∀(h':AA)(c':Af),(∀ b o',s.heap.get? b=Aa o'->h'.get? b=Aa o') ->
   h'.get? s.heap.objs.size=Aa { cls:=.type "list",dict:=Ae,data:=.seq its.toArray c',slots:=#[] }->EP X pI Y Q (.ref s.heap.objs.size) {s with heap:=h'}:=λits r' hz h' c' kp e=>
  ⟨.ref s.heap.objs.size,_,I.laid (t':=s.toks) kp (AK _) (show ObjOk X.prog X.w _ h' _ (.lst ys) from ⟨hz,its,c',r',e⟩),rfl,q _ (I.hok.fresh (AK _))⟩
 rcases hq with hq|hq
 .obtain⟨its,r',pl,hz⟩:=I.list hq;have hlen:=r'.length;obtain⟨o,ho,hc,n,hd⟩:=pl.isList;exact call_list_seq p (.inl rfl) ho hc hd (λh' c' kp e=>fin its r' hz h' c' kp e) (by simp only[AL]<;>omega)
 .obtain⟨its,r',pl,hz⟩:=I.tuple hq;have hlen:=r'.length;obtain⟨o,ho,hc,n,hd⟩:=pl;exact call_list_seq p (.inr rfl) ho hc hd (λh' c' kp e=>fin its r' hz h' c' kp e) (by simp only[AL]<;>omega)
theorem OG:FZ X (.type "tuple") (λxs H Q=>∃ p ys,xs=[.ref p]/\((SqL X.K H p ys/\∀ l,H l=Ae->Q (.ref l) (upd H l (.tup ys)))\/(SqT X.K H p ys/\Q (.ref p) H))):=by
 intro pI s Y H xs us Q I r h;obtain⟨p,ys,rfl,h⟩:=h;obtain⟨u,rfl,rx⟩:=Gs r;cases rx;rcases h with ⟨hq,q⟩|⟨hq,q⟩
 .obtain⟨its,r',pl,hz⟩:=I.list hq;have hlen:=r'.length;refine call_tuple_list pl.isList (λh' kp=>?_) (by simp only[AL]<;>omega)
  have I1:Inv X pI Y H {s with heap:=h'}:=I.kept (t':=s.toks) kp
  have I2:Inv X pI Y (upd H h'.objs.size (.tup ys)) { s with heap:=h'.push { cls:=.type "tuple",data:=.seq its.toArray } }:=
   I1.laid (t':=s.toks) (λb o e=>At _ e) (AK _) (show ObjOk X.prog X.w _ _ _ (.tup ys) from ⟨hz,its,r',JA _ _⟩)
  exact⟨.ref h'.objs.size,_,I2,rfl,q _ (I1.hok.fresh (AK _))⟩
 .obtain⟨its,r',pl,hz⟩:=I.tuple hq;exact call_tuple_same pl ⟨.ref p,H,I,rfl,q⟩
def tyV(K:Fg)(T:Cr)(x:V)(H:Hp):Prop:=match x with
  |.str _=>T = "str"
  |.int _=>T = "int"
  |.ref p=>(T = "list"/\∃ xs,SqL K H p xs)\/(T = "tuple"/\∃ o,K.lookup p=Aa o/\o.cls=.type "tuple"/\o.dict=Ae) \/
      (T = "dict"/\((∃ kvs,H p=Aa (.dK kvs))\/∃ kvs,H p=Aa (.dT kvs)))\/(T = "set"/\∃ S n,H p=Aa (.set S n))
  |_=>AV
theorem bM{T:Cr}{x:V}{v:Aj}(I:Inv X pI Y H s)(r:Bm x v)(ty:tyV X.K T x H):s.TypeIs v T/\∀ a,v=.ref a->∃ ob,s.heap.get? a=Aa ob/\ob.dict=Ae:=by
 cases x with
 |str z=>
  obtain⟨t,rfl⟩:=r;cases (show T = "str" from ty)
  exact⟨EG s z t,λ_ e=>nomatch e⟩
 |int i=>
  obtain⟨t,rfl⟩:=r;cases (show T = "int" from ty)
  exact⟨typeIs_int s i t,λ_ e=>nomatch e⟩
 |ref p=>
  cases r;rcases ty with ⟨rfl,xs,hq⟩|⟨rfl,o,hk,hc,hd⟩|⟨rfl,hk⟩|⟨rfl,S,n,hk⟩
  .obtain⟨its,_,pl,_⟩:=I.list hq;refine⟨pl.isList.typeIs,λa e=>?_⟩
   cases e;obtain⟨o,n,e,c,hd,_⟩:=pl;exact⟨o,e,hd⟩
  .refine⟨⟨o,I.kIn p o hk,hc⟩,λa e=>?_⟩
   cases e;exact⟨o,I.kIn _ o hk,hd⟩
  .have z:∃ o,s.heap.get? p=Aa o/\o.ExactDict:=by
    rcases hk with ⟨kvs,hk⟩|⟨kvs,hk⟩
    .obtain⟨_,_,_,_,o,_,_,e,ex,_⟩:=I.hok p _ hk;exact⟨o,e,ex⟩
    .obtain⟨_,_,_,_,o,_,_,e,ex,_⟩:=I.hok p _ hk;exact⟨o,e,ex⟩
   obtain⟨o,e,ex⟩:=z;refine⟨⟨o,e,ex.1⟩,λa e2=>?_⟩
   cases e2;exact⟨o,e,ex.2.1⟩
  .obtain⟨o,_,_,_,e,ex,_⟩:=I.hok p _ hk;refine⟨⟨o,e,ex.1⟩,λa e2=>?_⟩
   cases e2;exact⟨o,e,ex.2.1⟩
 |_=>exact AZ ty
def tBM(K:Fg)(T:Cr)(r:V->Ac V->Hp->VK->Prop)(to:TE)(t:TA):TE:=λY H Q=>to Y H λx H1=>tyV K T x H1/\t Y H1 λxs H2=>r x xs H2 Q
variable{o e:Am}{es:Ac Am}{to:TE}{t:TA}{name:Ag}{apos cpos:Az}{T id:Cr}{r:V->Ac V->Hp->VK->Prop}
theorem NR(pa:PlainAttrs T)(slot:Slot T name id)(hty:typeOf (.builtin id)=pure (.type "method_descriptor"))(hm:MtR X id r)(ho:PE X o to)(ha:PA X (e::es) t)(hbase:CM o name X.env (eval o X.env)=eval o X.env:=by rfl)(hfew:((Bq cpos (Aq (e::es) X.env)).all (λx=>!x.1)&&(G2 cpos (FM [] X.env)).all (λx=>x.1.isSome)
   && decide ((e::es).length+([]:Ac DO).length+(if ([]:Ac DO).isEmpty then 0 else 1)<30))=Ab:=by rfl)(hline:(apos.endLine==cpos.line)=Ab:=by rfl)(hs:Aq (e::es) X.env=(Ad,eval e X.env)::Aq es X.env:=by rfl)(hplain:(Bq cpos (Aq es X.env)).any (·.1)=Ad:=by rfl):PE X (.Call (.Attribute o name apos) (e::es) [] cpos) (tBM X.K T r to t):=by
 intro pI s Y H Q I h;refine wpAny_Call_method_late hbase hfew hline rfl (thn (ho pI s Y H _ I h) λv s1 ⟨x,H1,I1,r1,ty,q1⟩=>?_)
 obtain⟨h1,h2⟩:=bM I1 r1 ty;refine⟨T,id,pa,slot,hty,h1,h2,?_⟩;have hA:=ha cpos pI s1 Y H1 _ I1 q1;rw[hs]at hA ⊢;refine Uv (by show (Ad||(Bq cpos (Aq es X.env)).any (·.1))=Ad;rw[hplain]<;>rfl) (DY ?_)
 exact thn hA λus s2 ⟨vs,H2,I2,r2,q2⟩=>hm pI s2 Y H2 x vs v us Q I2 r1 r2 q2
/- xs.append(e),list.index on a module's tuple .. are MtR facts of 06m -/
end
noncomputable def MtM(X:Cx)(id:Cr)(r:V->Ac V->Hp->VK->Prop):Prop:=
 ∀(pI:Pn)(s:Ao)(Y:St)(H:Hp)(x:V)(xs:Ac V)(v:Aj)(us:Ac Aj)(Q:VK),Inv X pI Y H s->Bm x v->AX xs us->r x xs H Q ->
  Au (model X.prog X.w) X.A (call (.builtin id) (v::us)) (EP X pI Y Q) X.xe s
theorem AX.one:∀{x:V}{us:Ac Aj},AX [x] us->∃ u,us=[u]/\Bm x u
 |_,_,.cons r .nil=>⟨_,rfl,r⟩
theorem AX.zero:∀{us:Ac Aj},AX [] us->us=[]
 |_,.nil=>rfl
theorem AX.eraseIdx:∀{xs:Ac V}{us:Ac Aj}(i:Af),AX xs us->AX (xs.eraseIdx i) (us.eraseIdx i)
 |_,_,_,.nil=>.nil
 |_,_,0,.cons _ t=>t
 |_,_,i+1,.cons r t=>.cons r (AX.eraseIdx i t)
theorem AX.reverse(h:AX xs us):AX xs.reverse us.reverse:=by
 induction h with
 |nil=>exact .nil
 |cons r t ih=>rw[T8,T8];exact AX.append ih (.cons r .nil)
section
variable{X:Cx}{pI:Pn}{Y:St}{H:Hp}{s:Ao}{l b:Ak}{xs ys zs:Ac V}
theorem Inv.lset{its':Ac Aj}{f:A3 Aj->A3 Aj}(I:Inv X pI Y H s)(hH:H l=Aa (.lst xs))(e:s.heap.get? l=Aa { cls:=.type "list",data:=.seq its.toArray n })(hf:f its.toArray=its'.toArray)(hv:AX ys its')(hz:ys.length<=sizeLine):Inv X pI Y (upd H l (.lst ys)) {s with heap:=s.heap.update l (Vc f),toks:=t'}:=by
 have q:=PySem.IsL.update e f;rw[hf]at q;refine I.write (x:=l) (e:=l) (by rw[hH];exact trivial) (.inl rfl) (λb' u hb hu=>(Cp s.heap (Vc f) (CV hb)).trans hu) ⟨_,q⟩ ?_
 exact⟨hz,its',_,hv,q⟩
theorem Inv.lnew(I:Inv X pI Y H s)(hv:AX ys its)(hz:ys.length<=sizeLine):
  Inv X pI Y (upd H s.heap.objs.size (.lst ys)) { s with heap:=s.heap.push { cls:=.type "list",data:=.seq its.toArray },toks:=t' }:=
 I.laid (λ_ _ q=>At _ q) (AK _) ⟨hz,its,0,hv,AY _ rfl⟩
theorem Inv.fresh(I:Inv X pI Y H s):H s.heap.objs.size=Ae:=I.hok.fresh (AK _)
theorem Inv.lstM(I:Inv X pI Y H s)(hH:H l=Aa (.lst xs)):xs.length<=sizeLine/\∃(its:Ac Aj)(n:Af),AX xs its/\xs.length=its.length/\s.heap.get? l=Aa { cls:=.type "list",data:=.seq its.toArray n }:=by
 obtain⟨z,its,n,r,e⟩:=I.hok l _ hH;exact⟨z,its,n,r,r.length,e⟩
end
section
variable{X:Cx}
def Yn:V->Ac V->Hp->VK->Prop:=λx vs H Q=>∃ l xs y,x=.ref l/\vs=[y]/\H l=Aa (.lst xs)/\xs.length<sizeLine/\Q .non (upd H l (.lst (xs++[y])))
theorem Wu:MtM X "list.append" Yn:=by
 intro pI s Y H x vs v us Q I rx rv h;obtain⟨l,xs,y,rfl,rfl,hH,hz,q⟩:=h;cases rx;obtain⟨u,rfl,ru⟩:=rv.one;obtain⟨z,its,n,r,hl,e⟩:=I.lstM hH;refine F6 F.slot_list_append ⟨_,e,rfl⟩ F.entry_list_append (F.args_list_append_2 _ _) (PySem.list_append l its.toArray n u (by rw[AL];omega)) ⟨e,?_⟩
 refine⟨.non,_,I.lset (its':=its++[u]) hH e (by simp) (r.append (.cons ru .nil)) ?_,rfl,q⟩
 rw[BN,CU];omega
end
section
variable{prog:AF}{w:AS}{A:AQ}{E:Vq}{s:Ao}
set_option maxRecDepth 100000 in
end
section
variable{X:Cx}
end
end L2
namespace Att
open PySem PySem.W PySem.Calls PyProof.Rows
variable{P:JI}{h:AA}{l:EW}{n:Af}
theorem V1:∀(ns:Ac Ah)(vs:Ac Aj),WellAll P h vs (ns.map Vx)->GS vs ns:=by
 intro ns
 induction ns with
 |nil=>
  intro vs w;rw[Hv]at w;cases w;exact .nil
 |cons n ns ih=>
  intro vs w;rw[Ce]at w;cases w with
  |cons a b=>
   cases a;exact .cons _ _ (ih _ b)
theorem WK(hn:l.most=Aa n){args:Ac WData}{vals:Ac Aj}(hpre:l.row.toRowW.claim.pre args=Ab)(hwl:WellAll P h vals args):
  ∃ a vs ns,vals=[BZ a]/\args=[WData.list (ns.map Vx)]/\h.get? a=Aa { cls:=.type "list",data:=.seq vs.toArray }/\GS vs ns/\ns.length<=n:=by
 have hsh:WShape.hasAll [] args [.list .int]=Ab:=(pre_splitW hpre).1;have hc:l.pre.holds [] {args:=args}=Ab:=(pre_splitW hpre).2;obtain⟨d,r,rfl,h1,h2⟩:=hasAllW_cons hsh;obtain rfl:=hasAllW_nil h2;obtain⟨xs,rfl,h3⟩:=hasW_list h1;obtain⟨ns,rfl⟩:=items_int h3;have hlen:ns.length<=n:=by
  unfold OpenLaw.pre at hc;have h4:(WTm.not (.lt (.lit (.int (n:Ah))) (.len (.arg 0)))).holds [] {args:=[.list (ns.map .int)]}=Ab:=by
   have h4:=(holds_andW hc).1;rw[hn]at h4;exact h4
  have h5:=condW_of h4 (w_not (w_lt w_lit (w_len_list (w_arg rfl))));rw[BO]at h5;refine Nat.le_of_not_lt λq=>?_
  have q':(n:Ah)<((ns.length:Af):Ah):=by omega
  first
   |(rw[mL q']at h5;exact absurd h5 (by decide))
   |(simp at h5;omega)
 cases hwl with
 |cons w1 w2=>
  cases w2;cases w1 with
  |list ho hall=>exact⟨_,_,ns,rfl,rfl,ho,V1 ns _ hall,hlen⟩
theorem WB(l:EW)(args:Ac WData):l.row.toRowW.claim.post args (.bool Ab) args=Ab:=
 postW_of (r:=l.row.toRowW) (X:=(Ab==Ab))
  (show Vy [] (.bool Ab) .bool=Ab by first|rfl|decide|simp[Vy,WShape.arms,WShape.armsAll])
  (show (WTm.eq .res (.lit (.bool Ab))).value [] {args:=args,res:=Aa (.bool Ab),after:=args}=Aa (.bool (Ab==Ab)) from w_eq_bool (w_res rfl) w_lit) rfl
theorem attach_call{q:AF}{loose:Ac Ag}{XP:(Ag->An Aj)->AA->Prop}{YP:AS->AA->Prop}{d:DefRec}(hn:l.most=Aa n)(hdf:d.params.defaults=[])(call:∀(w:AS)(s₀ s₁:Ao)(mg mb:Ag->An Aj)(fa:Ak)(o:Cv)(pm cd doc:Aj)(a:Ak)(vs:Ac Aj)(ns:Ac Ah),
   Ground q loose [] XP w s₀ mg mb s₁.heap->YP w s₁.heap ->
   s₁.heap.get? fa=Aa o->o.data=.func (docDef d.name d.params d.body d.scope pm cd doc)->s₁.heap.CodeRec cd d.name->mg d.name=Aa (.ref fa) ->
   s₁.heap.get? a=Aa { cls:=.type "list",data:=.seq vs.toArray }->GS vs ns->ns.length<=n->s₁.gens=#[] ->
   EF (model l.prog w) F9 (.call (.ref fa) ⟨[.ref a],[]⟩) (λr s'=>r=.ok (.ret (.bool Ab))/\OldK s₁.heap s'.heap/\s'.os=s₁.os/\EE s'.gens) s₁):WalkO q loose XP YP l.row.toRowW d [] (λf vs=>IM f vs):=by
 intro w s₀ s₁ mg mb G Y_ fa o pm cd doc dV kV ho hd hcd hD hmg hg args vals as hpre hlay hrd hwl hlo;obtain rfl:dV=.none:=Dflts.none hD hdf;obtain rfl:kV=.none:=Dflts.noKw hD;obtain⟨a,vs,ns,rfl,rfl,hobj,hints,hlen⟩:=WK hn hpre hwl;refine enter_call (Et (call w s₀ s₁ mg mb fa o pm cd doc a vs ns G Y_ ho (fd_plain hd) hcd hmg hobj hints hlen hg) λr s' hq=>?_)
 obtain⟨rfl,h2,h3,h4⟩:=hq;exact⟨.inl ⟨.bool Ab,.bool Ab,[],rfl,λ_=>rfl,.bool Ab,WB l _,λ_=>⟨List.Pairwise.nil,λ_ hm=>(nomatch hm)⟩⟩,h2,h3,h4⟩
section
variable{prog:AF}{w:AS}{A:AQ}{E:Vq}{s:Ao}{K:Frag}
end
end Att
namespace L2
open PySem PySem.Spec PyProof.Rows
variable{k:Af}{x:Ag}
theorem O8:∀{vs:Ac Aj}{ns:Ac Ah},GS vs ns->AX (ns.map V.int) vs
 |_,_,.nil=>.nil
 |_,_,.cons n t h=>.cons ⟨t,rfl⟩ (O8 h)
def Ot(H:Hp):Prop:=∀ b,H b=Ae\/∃ o xs,H b=Aa (.frz o (.lst xs))
theorem Xv{P:AF}{w:AS}{K:Fg}{mg mb:Ag->An Aj}{CX:CXT}{fa a:Ak}{fd:Bp}{sp:Sp}{s₁:Ao}{vs:Ac Aj}{ns:Ac Ah}(KX:K.In s₁.heap)(hns:s₁.heap.Ns AN mg)(hb:s₁.heap.Ns G5 mb)(hbb:∀ x:Ag,x≠"__name__"->mb x=Cq x)(hlim:s₁.heap.NoLimit)(hg:s₁.gens=#[])(ha:s₁.heap.get? a=Aa { cls:=.type "list",data:=.seq vs.toArray })(hi:GS vs ns)(hl:ns.length<=sizeLine)(hr:Room k F9)(F:∀ base:AA,K.In base->base.Ns AN mg->FnOk P w K mg base CX k fa fd [x] sp)(hbind:∀(s:Ao)(u:Aj),Fx s fd ⟨[u],[]⟩ [(x,u)])(hsp:∀ H:Hp,Ot H->SqL K H a (ns.map V.int)->sp [.ref a] H (λv _=>v=.bl Ab) λ_ _ _=>AV)(hCX:∀ H e s',CX [] H s₁ (λ_ _ _=>AV) e s'->AV):EF (model P w) F9 (.call (.ref fa) ⟨[.ref a],[]⟩) (λr s'=>r=.ok (.ret (.bool Ab))/\OldK s₁.heap s'.heap/\s'.os=s₁.os/\EE s'.gens) s₁:=by
 have rv:=O8 hi;have lenV:=hi.length
 -- from an abstract heap in which nothing but the script may be tracked
 have core:∀ H:Hp,Ot H->SqL K H a (ns.map V.int)->HOk P w H s₁.heap->(∀ b,H b≠Ae->b=a)->(H a≠Ae->K.lookup a=Ae) ->
   EF (model P w) F9 (.call (.ref fa) ⟨[.ref a],[]⟩) (λr s'=>r=.ok (.ret (.bool Ab))/\OldK s₁.heap s'.heap/\s'.os=s₁.os/\EE s'.gens) s₁:=by
  intro H hO hS hok hA hK;have base_of:∀{b:Ak}{o:Cv},s₁.heap.get? b=Aa o->H b=Ae->(Hj s₁.heap H).get? b=Aa o:=λe n=>Xb e n
  have noA:∀{b:Ak}{o:Cv}{es:A3 DictEntry}{ep:Af},s₁.heap.get? b=Aa o->o.data=.dict es ep->H b=Ae:=λ{b o es ep} e d=>by
   cases q:H b with
   |none=>rfl
   |some u=>
    have e':b=a:=hA b (by rw[q];simp)
    subst e';rw[ha]at e;cases e;have d':JG vs.toArray _=Data.dict es ep:=d;cases d'
  have nsK:∀{b:Ak}{m:Ag->An Aj},s₁.heap.Ns b m->(Hj s₁.heap H).Ns b m:=λ{b m} ⟨o,es,ep,e,d,r⟩=>⟨o,es,ep,base_of e (noA e d),d,r⟩
  have hKb:K.In (Hj s₁.heap H):=λb o e=>base_of (KX b o e) (by
   cases q:H b with
   |none=>rfl
   |some u=>
    have e':b=a:=hA b (by rw[q];simp)
    subst e';rw[hK (by rw[q];simp)]at e;cases e)
  have hM:Mod K mg (Hj s₁.heap H):=⟨hKb,nsK hns,⟨mb,nsK hb,hbb⟩,let ⟨mc,h1,h2⟩:=hlim;⟨mc,nsK h1,h2⟩⟩
  have e0:Env0 P w K mg (Hj s₁.heap H) F9 [] s₁ H:=⟨rfl,hM,λb o e=>Zj e,Nat.le_of_eq (W3 _ _),trivial,λb hb=>absurd (show b∈([]:Ac Ak) from hb) (by simp),hok,.of_eq hg⟩
  refine Et ((F _ hKb (nsK hns)).run F9 [] s₁ H ⟨[.ref a],[]⟩ [.ref a] [.ref a] _ _ hr e0 (hbind s₁ (.ref a)) (.cons rfl .nil) (hsp H hO hS)) λr s' h=>?_
  cases r with
  |error e=>exact(hCX H e s' h).elim
  |ok fl=>
   cases fl with
   |next=>exact AZ h
   |brk=>exact AZ h
   |cont=>exact AZ h
   |ret u=>
    obtain⟨v,H',os,bare,un,hok',r',q⟩:=h;have q':v=.bl Ab:=q;subst q';obtain rfl:u=IK Ab:=r';refine⟨rfl,OldK.of_keep λb o e=>?_,os,bare⟩
    cases q:H b with
    |none=>exact un.keep b o e q (by intro z;exact absurd (show b∈([]:Ac Ak) from z) (by simp)) (by simp)
    |some u=>
     rcases hO b with z|⟨ob,xs,z⟩
     .rw[q]at z;cases z
     .have z2:=un.frzs b ob _ z;obtain⟨e1,_⟩:=hok b _ z;obtain⟨e2,_⟩:=hok' b _ z2;rw[e]at e1;cases e1;exact e2
 cases hk:K.lookup a with
 |some o=>
  -- the script is one of the module's own objects
  have e:=KX a o hk;rw[ha]at e;cases e;refine core (λ_=>Ae) (λ_=>.inl rfl) (.inr ⟨_,vs.toArray,_,hk,rfl,rfl,rfl,by rw[AL,lenV];exact hl,by simpa using rv⟩) (λb u z=>by have z':(Ae:An HO)=Aa u:=z;cases z') (λb z=>absurd rfl z) λz=>absurd rfl z
 |none=>
  refine core (λb=>if b=a then Aa (.frz { cls:=.type "list",data:=.seq vs.toArray } (.lst (ns.map V.int))) else Ae) (λb=>?_) (.inl (.inr ⟨{ cls:=.type "list",data:=.seq vs.toArray },AE rfl⟩)) (λb u z=>?_) (λb z=>?_) λ_=>hk
  .by_cases hb:b=a
   .exact .inr ⟨_,_,AE hb⟩
   .exact .inl (AO hb)
  .by_cases hb:b=a
   .have z':=(AE hb).symm.trans z;cases z';subst hb;exact⟨ha,by rw[BO];exact hl,vs,_,rv,ha⟩
   .have z':=(AO hb).symm.trans z;cases z'
  .by_cases hb:b=a
   .exact hb
   .exact absurd (AO hb) z
noncomputable abbrev KOf{K:Fg}{h:AA}(_:K.In h):Fg:=K
theorem walk_of{l:EW}{n:Af}{q:AF}{loose:Ac Ag}{XP:(Ag->An Aj)->AA->Prop}{YP:AS->AA->Prop}{d:DefRec}{K:JI->Fg}{CX:AS->CXT}{sp:AS->Sp}(hn:l.most=Aa n)(hn2:n<=sizeLine)(hdf:d.params.defaults=[])(hr:Room k F9)(hY:∀(w:AS)(h:AA),YP w h->(K w.params).In h)(F:∀(w:AS)(mg:Ag->An Aj)(fa:Ak)(h:AA),(K w.params).In h->h.Ns AN mg->mg d.name=Aa (.ref fa) ->
   ∃ fd:Bp,(∀(s:Ao)(u:Aj),Fx s fd ⟨[u],[]⟩ [(x,u)]) /\
    ∀ base:AA,(K w.params).In base->base.Ns AN mg->FnOk l.prog w (K w.params) mg base (CX w) k fa fd [x] (sp w))(hsp:∀(w:AS)(H:Hp)(a:Ak)(ns:Ac Ah),ns.length<=n->Ot H->SqL (K w.params) H a (ns.map V.int)->sp w [.ref a] H (λv _=>v=.bl Ab) λ_ _ _=>AV)(hCX:∀(w:AS)(H:Hp)(s:Ao)(e:Aj)(s':Ao),CX w [] H s (λ_ _ _=>AV) e s'->AV):Vz q loose XP YP l.row.toRowW d [] (λf vs=>IM f vs):=by
 refine Att.attach_call hn hdf λw s₀ s₁ mg mb fa o pm cd doc a vs ns G Y_ ho hd hcd hmg hobj hints hlen hg=>?_
 have KX:=hY w _ Y_;obtain⟨fd,hb,hF⟩:=F w mg fa _ KX G.T.g hmg;exact Xv KX G.T.g G.T.b G.T.builtins G.T.nolimit hg hobj hints (BD hlen hn2) hr hF hb (λH hO hS=>hsp w H a ns hlen hO hS) λH e s'=>hCX w H s₁ e s'
end L2
/- THE LAST THEOREM (shape;LID,My.* are yours):
   My.Adr:a structure of the addresses that your layer names (classes,functions);My.Txt K t:a structure (Prop) of the equations over K;
   My.txt_mk:{K} {implicit addresses ..} (e1:nsIn K AN "law" = Aa (Aa (.ref f))) (e2:K.lookup f=Aa ⟨oc,od,.func (fnOf "law" "law" params body scope dV kV doc pm an cdv ct),sl⟩) (e3:codeIn K cdv "law" = Ab) ..:∃ t,My.Txt K t
set_option maxRecDepth 100000 in
set_option maxHeartbeats 0 in
theorem PySem.Challenge.cw_LID_holds:PySem.Challenge.rw_LID.Holds:=by
 w_on;o_law;k_head;(case hw=>w_witness2)
 k_fill
 refine L2.walk_of (l:=PySem.Challenge.rw_LID) (n:=63) (k:=40) (x := "script") (CX:=λw=>..) (sp:=λ_=>My.sp_law) rfl (by decide) rfl ⟨rfl,by decide,by decide⟩ (λw h Y_=>VF Y_) ?F ?S ?C
 case F=>
  intro w mg fa h KX G hmg;have T:∃ t,My.Txt (L2.KOf KX) t:=by
   dsimp only[L2.KOf]                          -- K must stand as «<heap const> w.params» for k_is
   refine' My.txt_mk ?e1 ?e2 ?e3 ..
   (case e1=>PySem.W.k_is)                    -- in the order: a name -> its address -> its object -> its parts
   (case e2=>PySem.W.k_is)
   ..
  obtain⟨t,T⟩:=T;have e0:=hmg.symm.trans (DA KX G T.law);cases e0                                       -- fa is the law's own address
  exact⟨_,fun s u=>.of_eq rfl,fun base kb nb=>My.law_fn T kb nb⟩     -- if «.of_eq rfl» comes too early: refine' ⟨_,?b,fun base kb nb=>My.law_fn T kb nb⟩;exact fun s u=>.of_eq rfl
 case S=>exact λw H a ns hl hO hS=>..
 case C=>exact ..
(the tactic k_is has no namespace:write k_is) -/
namespace L2
open PySem PySem.Spec PyProof.Rows
noncomputable def FC(s:AC):Arguments:=match s with
  |.FunctionDef _ a _ _ _ _ _ _ _ _=>a
  |_=>{posonlyargs:=[],args:=[],vararg:=Ae,kwonlyargs:=[],kw_defaults:=[],kwarg:=Ae,defaults:=[]}
noncomputable def DS(s:AC):Ac AC:=match s with
  |.FunctionDef _ _ b _ _ _ _ _ _ _=>b
  |_=>[]
noncomputable def Bt(s:AC):BH:=match s with
  |.FunctionDef _ _ _ _ _ _ sc _ _ _=>sc
  |_=>{kind:=.function,names:=[],isGenerator:=Ad,isCoroutine:=Ad}
noncomputable abbrev CX0:CXT:=λ_ _ _ _ _ _=>AV
noncomputable abbrev E0:XK:=λ_ _ _=>AV
structure Fun (K:Fg) (x qual:Ag) (st:AC) (f:Ak) (fd:Bp):Prop where
 ex:∃(oc:Aj)(od:An Ak)(kV doc pm:Aj)(an:An Ak)(cdv ct:Aj)(osl:A3 (An Aj)),
  fd=BP x qual (FC st) (DS st) (Bt st) .none kV doc pm an cdv ct/\K.lookup f=Aa ⟨oc,od,.func fd,osl⟩/\Dm K cdv qual=Ab
 kp:A7 K (.ref f)=Ab
section
variable{P:AF}{w:AS}{K:Fg}{mg:Ag->An Aj}{base:AA}
theorem Fun.ok{x qual:Ag}{st:AC}{f:Ak}{fd:Bp}{N ps:Ac Ag}{k:Af}{sp:Sp}(F:Fun K x qual st f fd)(S:FnScope N ps (Bt st))(len:∀ vs H Q E,sp vs H Q E->vs.length=ps.length)(hbody:∀(cdv:Aj)(A:AQ)(outer:Ac BW)(s:Ao)(H:Hp)(vs:Ac V)(Q:VK)(E:XK),Room k (A.deeper (D3 qual (Bt st) s.heap.objs.size f cdv))->sp vs H Q E ->
   ∃ t,PSs (EA CX0 P w K mg base N qual (Bt st) f cdv A outer s H E).nox (DS st) t/\t {nx:=λ_ H'=>Q .non H',rt:=Q} (start N vs) H):FnOk P w K mg base CX0 (k+1) f fd ps sp:=by
 obtain⟨oc,od,kV,doc,pm,an,cdv,ct,osl,rfl,lk,hcd⟩:=F.ex;refine N5 lk hcd S len λA outer s H vs Q E hr hsp=>?_
 obtain⟨t,h,q⟩:=hbody cdv A outer s H vs Q E hr hsp;exact⟨t,h.nox,q⟩
theorem Fun.binds{x qual:Ag}{st:AC}{f:Ak}{fd:Bp}{ps:Ac Ag}(F:Fun K x qual st f fd)(h:∀(kV doc pm:Aj)(an:An Ak)(cdv ct:Aj)(us:Ac Aj),us.length=ps.length->FB (BP x qual (FC st) (DS st) (Bt st) .none kV doc pm an cdv ct) ⟨us,[]⟩=pure (ps.zip us)):Ed K fd ps []:=by
 obtain⟨oc,od,kV,doc,pm,an,cdv,ct,osl,rfl,lk,hcd⟩:=F.ex;exact .all (h kV doc pm an cdv ct)
theorem NA{x qual:Ag}{st:AC}{f:Ak}{oc:Aj}{od an:An Ak}{osl:A3 (An Aj)}{kV doc pm cdv ct:Aj}(l:K.lookup f=Aa ⟨oc,od,.func (BP x qual (FC st) (DS st) (Bt st) .none kV doc pm an cdv ct),osl⟩)(c:Dm K cdv qual=Ab)(k:A7 K (.ref f)=Ab):Fun K x qual st f (BP x qual (FC st) (DS st) (Bt st) .none kV doc pm an cdv ct):=⟨⟨oc,od,kV,doc,pm,an,cdv,ct,osl,rfl,l,c⟩,k⟩
end
section
variable{X:Cx}
end
def Aw(H H':Hp):Prop:=∀ b o,H b=Aa o->H' b=Aa o
theorem Aw.refl(H:Hp):Aw H H:=λ_ _ h=>h
theorem Aw.trans{H H1 H2:Hp}(a:Aw H H1)(b:Aw H1 H2):Aw H H2:=λc o h=>b c o (a c o h)
theorem Aw.free{H H':Hp}(e:Aw H H'){l:Ak}(h:H' l=Ae):H l=Ae:=by
 cases q:H l with
 |none=>rfl
 |some o=>
  rw[e l o q]at h;cases h
end L2
section
namespace Ov
open PySem
variable{α β:Type}
inductive D where
 |non|bl (b:Ai)|int (i:Ah)|str (x:Ag)|tup (ds:Ac D)|lst (ds:Ac D)
 |obj (c:Af) (fs:Ac (Ag×D))|exc (c:Af) (fs:Ac (Ag×D))|dic (kvs:Ac (Ac Ah×D))
 deriving Inhabited
structure Ex where
 c:Af
 fs:Ac (Ag×D)
 deriving Inhabited
inductive R (α:Type) where
 |ok (a:α)|exn (x:Ex)|bad
 deriving Inhabited
noncomputable def R.bind{α β:Type}(r:R α)(f:α->R β):R β:=match r with
  |.ok a=>f a
  |.exn x=>.exn x
  |.bad=>.bad
@[simp]theorem R.bind_ok(a:α)(f:α->R β):(R.ok a).bind f=f a:=rfl
@[simp]theorem R.bind_exn(x:Ex)(f:α->R β):(R.exn x:R α).bind f=.exn x:=rfl
@[simp]theorem R.bind_bad(f:α->R β):(R.bad:R α).bind f=.bad:=rfl
theorem R.bind_assoc{γ:Type}(r:R α)(f:α->R β)(g:β->R γ):(r.bind f).bind g=r.bind λa=>(f a).bind g:=by cases r<;>rfl
noncomputable def BY(n:Af):Ai:=Co n 1000000
noncomputable def Ev(i j:Ah):Ai:=(decide (-(18446744073709551616:Ah)<i)&&decide (i<18446744073709551616))||(decide (-(18446744073709551616:Ah)<j)&&decide (j<18446744073709551616))
noncomputable def Ly(i j:Ah):Ai:=decide (i.natAbs<2 ^ 2000)&&decide (j.natAbs<2 ^ 2000)
noncomputable def CF:Ep->D->D->R D
 |.Add,.int i,.int j=>.ok (.int (i+j))
 |.Sub,.int i,.int j=>.ok (.int (i-j))
 |.Mult,.int i,.int j=>if (Ev i j||Ly i j)=Ab then .ok (.int (i*j)) else .bad
 |.FloorDiv,.int i,.int j=>if 0<j/\j<1073741824 then .ok (.int (i/j)) else .bad
 |.Mod,.int i,.int j=>if 0<j then .ok (.int (i%j)) else .bad
 |.Pow,.int i,.int j=>if (0<=j/\j<=1000000)/\(-(18446744073709551616:Ah)<i/\i<18446744073709551616) then .ok (.int (i ^ j.toNat)) else .bad
 |.Add,.str x,.str y=>if BY (x.length+y.length)=Ab then .ok (.str (x++y)) else .bad
 |.Add,.lst x,.lst y=>if BY (x.length+y.length)=Ab then .ok (.lst (x++y)) else .bad
 |.Add,.tup x,.tup y=>if (!x.isEmpty&&BY (x.length+y.length))=Ab then .ok (.tup (x++y)) else .bad
 |_,_,_=>.bad
noncomputable def unD:H9->D->R D
 |.USub,.int i=>.ok (.int (-i))
 |_,_=>.bad
noncomputable def b2i(b:Ai):Ah:=if b=Ab then 1 else 0
mutual
noncomputable def eqD:D->D->Ai
 |.non,.non=>Ab
 |.bl a,.bl b=>a==b
 |.bl a,.int j=>b2i a==j
 |.int i,.bl b=>i==b2i b
 |.int i,.int j=>i==j
 |.str x,.str y=>x==y
 |.tup xs,.tup ys=>eqDs xs ys
 |.lst xs,.lst ys=>eqDs xs ys
 |_,_=>Ad
noncomputable def eqDs:Ac D->Ac D->Ai
 |[],[]=>Ab
 |x::xs,y::ys=>eqD x y&&eqDs xs ys
 |_,_=>Ad
end
noncomputable def flD:Af->D->Ai
 |_,.non=>Ab
 |_,.bl _=>Ab
 |_,.int _=>Ab
 |_,.str _=>Ab
 |n+1,.tup xs=>xs.all (flD n)
 |n+1,.lst xs=>xs.all (flD n)
 |_,_=>Ad
noncomputable def HW:D->An (Ac Ah)
 |.tup ds=>keyDs ds
 |_=>Ae
where keyDs:Ac D->An (Ac Ah)
 |[]=>Aa []
 |.int i::r=>(keyDs r).map (i :: ·)
 |_=>Ae
noncomputable def ltD:Af->D->D->Ai
 |0,.int i,.int j=>decide (i<j)
 |n+1,.tup xs,.tup ys=>ltDs (ltD n) xs ys
 |_,_,_=>Ad
where ltDs (lt:D->D->Ai):Ac D->Ac D->Ai
 |[],[]=>Ad
 |[],_::_=>Ab
 |_::_,[]=>Ad
 |x::xs,y::ys=>if eqD x y=Ab then ltDs lt xs ys else lt x y
noncomputable def rkD:Af->D->Ai
 |0,.int _=>Ab
 |n+1,.tup xs=>xs.all (rkD n)
 |_,_=>Ad
noncomputable def S7(lt:D->D->Ai)(x:D):Ac D->Ac D
 |[]=>[x]
 |y::ys=>if lt y x=Ab then y::S7 lt x ys else x::y::ys
noncomputable def R4(lt:D->D->Ai):Ac D->Ac D
 |[]=>[]
 |x::xs=>S7 lt x (R4 lt xs)
noncomputable def Ts:Ac D->Ai
 |[]=>Ab
 |x::xs=>xs.all (λy=>!eqD x y)&&Ts xs
noncomputable def S0:Ac D->Ai
 |[]=>Ab
 |[_]=>Ab
 |x::y::r=>ltD 1 x y&&S0 (y::r)
noncomputable def QB(xs:Ac D):R (Ac D):=if (xs.all (λd=>rkD 1 d && !eqD d (.tup []))&&Ts xs&&(decide (xs.length<64)||(S0 xs&&decide (xs.length<=1000))))=Ab then .ok (R4 (ltD 1) xs) else .bad
noncomputable def Br:CH->D->D->R D
  |.Eq,x,y=>if (flD 5 x&&flD 5 y)=Ab then .ok (.bl (eqD x y)) else .bad
  |.NotEq,x,y=>if (flD 5 x&&flD 5 y)=Ab then .ok (.bl (!eqD x y)) else .bad
  |.Lt,.int i,.int j=>.ok (.bl (decide (i<j)))
  |.LtE,.int i,.int j=>.ok (.bl (decide (i<=j)))
  |.Gt,.int i,.int j=>.ok (.bl (decide (j<i)))
  |.GtE,.int i,.int j=>.ok (.bl (decide (j<=i)))
  |.In,x,.lst ys=>if (flD 5 x&&ys.all (flD 5))=Ab then .ok (.bl (ys.any λy=>eqD y x)) else .bad
  |.In,x,.dic kvs=>match HW x with
    |some k=>.ok (.bl (kvs.any λp=>p.1==k))
    |none=>.bad
  |.In,x,.tup ys=>if (flD 5 x&&ys.all (flD 5))=Ab then .ok (.bl (ys.any λy=>eqD y x)) else .bad
  |.NotIn,x,.lst ys=>if (flD 5 x&&ys.all (flD 5))=Ab then .ok (.bl (!ys.any λy=>eqD y x)) else .bad
  |.NotIn,x,.tup ys=>if (flD 5 x&&ys.all (flD 5))=Ab then .ok (.bl (!ys.any λy=>eqD y x)) else .bad
  |.Is,.non,.non=>.ok (.bl Ab)
  |.Is,.bl _,.non=>.ok (.bl Ad)
  |.Is,.int _,.non=>.ok (.bl Ad)
  |.Is,.str _,.non=>.ok (.bl Ad)
  |.Is,.tup _,.non=>.ok (.bl Ad)
  |.Is,.lst _,.non=>.ok (.bl Ad)
  |.Is,.obj _ _,.non=>.ok (.bl Ad)
  |.Is,.bl a,.bl b=>.ok (.bl (a==b))
  |.IsNot,.bl a,.bl b=>.ok (.bl (!(a==b)))
  |.IsNot,.non,.non=>.ok (.bl Ad)
  |.IsNot,.bl _,.non=>.ok (.bl Ab)
  |.IsNot,.int _,.non=>.ok (.bl Ab)
  |.IsNot,.str _,.non=>.ok (.bl Ab)
  |.IsNot,.tup _,.non=>.ok (.bl Ab)
  |.IsNot,.lst _,.non=>.ok (.bl Ab)
  |.IsNot,.obj _ _,.non=>.ok (.bl Ab)
  |_,_,_=>.bad
noncomputable def BE:D->R Ai
 |.non=>.ok Ad
 |.bl b=>.ok b
 |.int i=>.ok (i != 0)
 |.str x=>if BY x.length=Ab then .ok (x.length != 0) else .bad
 |.tup xs=>.ok (!xs.isEmpty)
 |.lst xs=>.ok (!xs.isEmpty)
 |_=>.bad
noncomputable def plD(n:Af)(i:Ah):An Af:=if 0<=i then (if i<n then Aa i.toNat else Ae) else if -(n:Ah)<=i then Aa (i+n).toNat else Ae
noncomputable def Du(xs:Ac D)(i:Ah):R D:=match plD xs.length i with
  |some k=>match xs[k]? with
    |some d=>.ok d
    |none=>.bad
  |none=>.bad
noncomputable def NB(kvs:Ac (Ac Ah×D))(k:Ac Ah):An D:=(kvs.find? λp=>p.1==k).map (·.2)
noncomputable def Q4(kvs:Ac (Ac Ah×D))(k:Ac Ah)(v:D):Ac (Ac Ah×D):=if (kvs.any λp=>p.1==k)=Ab then kvs.map (λp=>if (p.1==k)=Ab then (k,v) else p) else kvs++[(k,v)]
noncomputable def Js(x:Ag):Ac D:=x.cps.toList.map λc=>.str ⟨#[c]⟩
noncomputable def Cy:D->D->R D
  |.str x,.int i=>if BY x.length=Ab then Du (Js x) i else .bad
  |.lst xs,.int i=>Du xs i
  |.tup xs,.int i=>Du xs i
  |.dic kvs,k=>match (HW k).bind (NB kvs) with
    |some d=>.ok d
    |none=>.bad
  |_,_=>.bad
noncomputable def Ey:D->R Ah
 |.int i=>.ok i
 |_=>.bad
noncomputable def C8:D->R Ai
 |.bl b=>.ok b
 |_=>.bad
noncomputable def DK:D->R (Ac D)
 |.lst xs=>.ok xs
 |.tup xs=>.ok xs
 |_=>.bad
noncomputable def NZ:D->R (Ac D)
 |.lst xs=>.ok xs
 |_=>.bad
inductive BI where
 |len|abs|max|min|int|list|tuple|all|any|sum|sorted|str|count|stp|lset|tmin|tmax|tlt|rvs|sjoin|ssplit
 deriving DecidableEq,Inhabited
inductive Ki where
 |int|bool|str|list|tuple|verr|cls (c:Af)
 deriving DecidableEq,Inhabited
mutual
inductive E where
 |non|bl (b:Ai)|int (i:Ah)|str (x:Ag)
 |var (i:Af)|glob (g:Af)
 |bin (op:Ep) (a b:E)|un (op:H9) (a:E)|no (a:E)
 |and (es:Es)|or (es:Es)
 |cmp (op:CH) (a b:E)|cmp2 (op op':CH) (a b c:E)
 |ite (c a b:E)
 |call (f:Af) (as:Es)|bi (b:BI) (as:Es)
 |isi (a:E) (ks:Ac Ki)
 |idx (a i:E)|sl (a lo hi:E)
 |tup (es:Es)|lst (es:Es)
 |comp (elt:E) (t:Af) (it:I) (c:E)|compT (elt:E) (ts:Ac Af) (it:I) (c:E)|tupI (it:I)|dnew
 |fld (o:E) (f:Ag)|mkx (c:Af) (as:Es)
 |ofl (o:E) (f:Ag)|iso (a:E) (k:Af)|meth (m:Ag) (ms:Ac (Af×Af)) (o:E)|mkob (c:Af) (e:E)|mkn (c:Af) (as:Es)
inductive Es where
 |nil|cons (e:E) (es:Es)
inductive I where
 |e (a:E)|rng (a:E)|rng2 (a b:E)|zip (a b:E)|zip3 (a b c:E)|enm (a:E)
end
abbrev Sl:=An (D×Ai)
abbrev Rho:=Ac Sl
structure Gam where
 F:Af->Ac D->R D
 G:Af->D
 up:Af->Ac Af
 /-- the defs whose answer is a new list -/
 fr:Af->Ai
 /-- what is raised: the class,what it is made of -/
 xn:Af->Ac D->R Ex
noncomputable def EB(lo:Ah)(n:Af):Ac D:=(BR n).map fun(k:Af)=>D.int (lo+(k:Ah))
noncomputable def DJ(lo hi:Ah):R (Ac D):=if (-(4611686018427387904:Ah)<=lo/\lo<4611686018427387904)/\(-(4611686018427387904:Ah)<=hi/\hi<4611686018427387904)/\hi-lo<1000000 then .ok (EB lo (hi-lo).toNat) else .bad
noncomputable def kiD(up:Af->Ac Af):Ki->D->Ai
 |.int,.int _=>Ab
 |.int,.bl _=>Ab
 |.bool,.bl _=>Ab
 |.str,.str _=>Ab
 |.list,.lst _=>Ab
 |.tuple,.tup _=>Ab
 |.cls c,.obj k _=>(up k).contains c
 |.cls c,.exc k _=>(up k).contains c
 |.verr,.exc _ _=>Ab
 |_,_=>Ad
noncomputable def Dk:Ki->Ai
 |.cls _=>Ab
 |.verr=>Ab
 |_=>Ad
noncomputable def DL(up:Af->Ac Af)(ks:Ac Ki)(x:D):R D:=match x with
  |.obj _ _=>.bad
  |.exc _ _=>if ks.all Dk=Ab then .ok (.bl (ks.any λk=>kiD up k x)) else .bad
  |.dic _=>.bad
  |_=>if ks.any Dk=Ab then .bad else .ok (.bl (ks.any λk=>kiD up k x))
noncomputable def DM:D->R Ai
 |.non=>.ok Ad
 |.bl b=>.ok b
 |.int i=>.ok (i != 0)
 |_=>.bad
noncomputable def FY:Ac D->R Ai
 |[]=>.ok Ab
 |x::r=>(DM x).bind λb=>(FY r).bind λc=>.ok (b&&c)
noncomputable def Fn:Ac D->R Ai
 |[]=>.ok Ad
 |x::r=>(DM x).bind λb=>(Fn r).bind λc=>.ok (b||c)
noncomputable def Kl:Ah->Ac D->R Ah
 |a,[]=>.ok a
 |a,.int i::r=>Kl (a+i) r
 |_,_=>.bad
noncomputable def N8:Ac D->Ac D->Ac D
 |x::xs,y::ys=>.tup [x,y]::N8 xs ys
 |_,_=>[]
noncomputable def RV:Ac D->Ac D->Ac D->Ac D
 |x::xs,y::ys,z::zs=>.tup [x,y,z]::RV xs ys zs
 |_,_,_=>[]
noncomputable def RU(x y z:D):R (Ac D):=(DK x).bind λxs=>(DK y).bind λys=>(DK z).bind λzs=>if 0<xs.length/\xs.length<=1000/\ys.length=xs.length/\zs.length=xs.length then .ok (RV xs ys zs) else .bad
noncomputable def Cj:Ah->Ac D->Ac D
 |_,[]=>[]
 |i,x::xs=>.tup [.int i,x]::Cj (i+1) xs
noncomputable def nlD:Af->D->Ai
 |_,.non=>Ab
 |_,.bl _=>Ab
 |_,.int _=>Ab
 |_,.str _=>Ab
 |n+1,.tup xs=>xs.all (nlD n)
 |_,_=>Ad
noncomputable def FG(fr:Ai):D->Ai
 |.lst ds=>fr&&ds.all (nlD 5)
 |d=>nlD 5 d
noncomputable def Hg:Ac D->An (Ac Ah)
 |[]=>Aa []
 |.int i::r=>(Hg r).map (i :: ·)
 |_=>Ae
noncomputable def GP(i:Ah):Ac Ah->Ah
 |[]=>i
 |j::r=>GP (if j<i then j else i) r
noncomputable def pk2(k n:Af):Ac Af:=(BR ((n-min k n+1)/2)).map λj=>min k n+2*j
noncomputable def SH(k:Af)(xs:Ac D):Ac D:=(pk2 k xs.length).filterMap λi=>xs[i]?
noncomputable def ddS(acc:Ac Ah)(x:Ah):Ac Ah:=if acc.any (· == x)=Ab then acc else acc++[x]
noncomputable def ddN(is:Ac Ah):Af:=(is.foldl ddS []).length
noncomputable def Se(xs:Ac D):R D:=match Hg xs with
  |some is=>if Co is.length 4000=Ab then .ok (.int (ddN is)) else .bad
  |none=>.bad
noncomputable def mmD(mx:Ai)(x y:D):R D:=if [x,y].all (λd=>rkD 1 d && !eqD d (.tup []))=Ab then .ok (if (if mx=Ab then ltD 1 x y else ltD 1 y x)=Ab then y else x) else .bad
noncomputable def SV(x y:D):R D:=if [x,y].all (λd=>rkD 1 d && !eqD d (.tup []))=Ab then .ok (.bl (ltD 1 x y)) else .bad
noncomputable def lK(k:Ac Ah):Ah:=reduceHash (Builtin.Tuple.tupleHashOf (k.map hashInt))
noncomputable def Sf:Ac D->An (Ac (Ac Ah))
 |[]=>Aa []
 |.tup xs::r=>(Hg xs).bind λk=>(Sf r).map (k :: ·)
 |_=>Ae
noncomputable def SR:Ac Ah->Ai
 |[]=>Ab
 |h::r=>!r.contains h&&SR r
noncomputable def kF(xs:Ac D):R D:=match Sf xs with
  |some ks=>if (Co ks.length 3&&SR (ks.map lK))=Ab then .ok (.int ks.length) else .bad
  |none=>.bad
noncomputable def Jr:Ac D->An (Ac Ag)
 |[]=>Aa []
 |.str x::r=>(Jr r).map (x :: ·)
 |_=>Ae
noncomputable def Nq(s:Ag)(xs:Ac D):R D:=match Jr xs with
  |some ss=>if Hy s ss=Ab then .ok (.str (Ib s ss)) else .bad
  |none=>.bad
noncomputable def Km(i:Ah):Ai:=decide (i.natAbs<1000)
noncomputable def HY(x y:Ag):Ai:=Co x.length 1000000&&Co (Us x (EJ x y 0 x.length (x.length+1)) y.length).length 1000000
noncomputable def FF(x:Ag)(l h:An Ah):Ag:=if ((DW l h 1 x.length).length==x.length)=Ab then x else ⟨((DW l h 1 x.length).filterMap (x.cps[·]?)).toArray⟩
noncomputable def biD:BI->Ac D->R D
  |.len,[.lst xs]=>.ok (.int xs.length)
  |.len,[.tup xs]=>.ok (.int xs.length)
  |.len,[.str x]=>if BY x.length=Ab then .ok (.int x.length) else .bad
  |.abs,[.int i]=>.ok (.int (if i<0 then -i else i))
  |.max,[.int i,.int j]=>.ok (.int (if i<j then j else i))
  |.min,[.int i,.int j]=>.ok (.int (if j<i then j else i))
  |.min,[.lst xs]=>match Hg xs with
    |some (i::is)=>.ok (.int (GP i is))
    |_=>.bad
  |.int,[.int i]=>.ok (.int i)
  |.int,[.bl b]=>.ok (.int (b2i b))
  |.list,[.lst xs]=>.ok (.lst xs)
  |.list,[.tup xs]=>.ok (.lst xs)
  |.tuple,[.lst xs]=>.ok (.tup xs)
  |.tuple,[.tup xs]=>.ok (.tup xs)
  |.all,[.lst xs]=>(FY xs).bind λb=>.ok (.bl b)
  |.any,[.lst xs]=>(Fn xs).bind λb=>.ok (.bl b)
  |.any,[.tup xs]=>(Fn xs).bind λb=>.ok (.bl b)
  |.sum,[.lst xs]=>(Kl 0 xs).bind λi=>.ok (.int i)
  |.sum,[.tup xs]=>(Kl 0 xs).bind λi=>.ok (.int i)
  |.sorted,[.lst xs]=>(QB xs).bind λys=>.ok (.lst ys)
  |.count,[.lst xs,x]=>if (flD 5 x&&xs.all (flD 5))=Ab then .ok (.int ((xs.filter λy=>eqD y x).length:Af)) else .bad
  |.len,[.dic kvs]=>.ok (.int kvs.length)
  |.stp,[.lst xs,.int k]=>.ok (.lst (SH k.toNat xs))
  |.lset,[.lst xs]=>Se xs
  |.lset,[.tup xs]=>kF xs
  |.sjoin,[.str s,.lst xs]=>Nq s xs
  |.str,[.int i]=>if Km i=Ab then .ok (.str (Ay (toString i))) else .bad
  |.ssplit,[.str x,.str y]=>if (!(y.length==0)&&HY x y)=Ab then .ok (.lst ((Er x y).map D.str)) else .bad
  |.tmin,[x,y]=>mmD Ad x y
  |.tmax,[x,y]=>mmD Ab x y
  |.tlt,[x,y]=>SV x y
  |.rvs,[.lst xs]=>.ok (.lst xs.reverse)
  |_,_=>.bad
noncomputable def slE(c:E)(d:D):R (An Ah):=match c with
  |.non=>.ok Ae
  |_=>(Ey d).bind λi=>.ok (Aa i)
noncomputable def Hm(n d:Af):An Ah->Af
 |none=>d
 |some i=>if i<0 then (i+n).toNat else min i.toNat n
noncomputable def Jy(xs:Ac D)(lo hi:An Ah):Ac D:=(xs.drop (Hm xs.length 0 lo)).take (Hm xs.length xs.length hi-Hm xs.length 0 lo)
noncomputable def slD:D->An Ah->An Ah->R D
 |.lst xs,l,h=>.ok (.lst (Jy xs l h))
 |.tup xs,l,h=>if (Hm xs.length 0 l==0&&Hm xs.length xs.length h==xs.length)=Ab then .bad else .ok (.tup (Jy xs l h))
 |.str x,l,h=>if (BY x.length&&BY (FF x l h).length)=Ab then .ok (.str (FF x l h)) else .bad
 |_,_,_=>.bad
noncomputable def oup:Af->Ac Af
 |0=>[0]
 |1=>[1,0]
 |2=>[2,0]
 |_=>[]
noncomputable def ofD:D->Ag->R D
  |.obj _ fs,f=>match fs.lookup f with
    |some d=>.ok d
    |none=>.bad
  |_,_=>.bad
noncomputable def Kn(k:Af):D->R D
 |.obj c _=>.ok (.bl ((oup c).contains k))
 |_=>.bad
noncomputable def IE(F:Af->Ac D->R D)(m:Ag)(ms:Ac (Af×Af)):D->R D
  |.obj c fs=>match ms.lookup c with
    |some id=>if (fs.lookup m).isNone=Ab then F id [.obj c fs] else .bad
    |none=>.bad
  |_=>.bad
noncomputable def DT(c:Af):D->R D
 |.tup [a,b]=>if nlD 5 b=Ab then .ok (.obj c [("p",a),("triple",b)]) else .bad
 |_=>.bad
noncomputable def LL:D->Ag->R D
  |.exc _ fs,f=>match fs.lookup f with
    |some d=>.ok d
    |none=>.bad
  |_,_=>.bad
noncomputable def EU(U:Rho)(i:Af):R D:=match U[i]? with
  |some (Aa (d,Ad))=>.ok d
  |_=>.bad
noncomputable def mK:D->R D
 |.lst xs=>.ok (.lst xs)
 |_=>.bad
noncomputable def Dj(U:Rho)(i:Af):R D:=match U[i]? with
  |some (Aa (d,Ad))=>.ok d
  |some (Aa (d,Ab))=>mK d
  |_=>.bad
noncomputable def shE(U:Rho):E->Ai
  | .var i=>(match U[i]? with
    |some (Aa (_,Ab))=>Ad
    | _=>Ab)
  |_=>Ab
noncomputable def GO(U:Rho):Es->Ai
 |.nil=>Ab
 |.cons e es=>shE U e&&GO U es
noncomputable def Dv:Ac Af->Ac D->Rho->An Rho
 |[],[],U=>Aa U
 |t::ts,d::ds,U=>Dv ts ds (U.set t (Aa (d,Ad)))
 |_,_,_=>Ae
noncomputable def DR(ts:Ac Af)(d:D)(U:Rho):R Rho:=match d with
  | .tup xs=>(match Dv ts xs U with
    |some U'=>.ok U'
    | none=>.bad)
  |_=>.bad
noncomputable def Lz(ts:Ac Af)(d:D)(U:Rho):R Rho:=match d with
  | .lst xs=>(match Dv ts xs U with
    |some U'=>.ok U'
    | none=>.bad)
  |d=>DR ts d U
noncomputable def BX(g:D->R Ai)(f:D->R D):Ac D->R (Ac D)
 |[]=>.ok []
 |x::xs=>(g x).bind λb=>if b=Ab then (f x).bind λy=>(BX g f xs).bind λys=>.ok (y::ys) else BX g f xs
noncomputable def noX{α:Type}:R α->R α
 |.ok a=>.ok a
 |_=>.bad
noncomputable def top(U:Rho)(e:E)(r:R D):R D:=match e with
  |.var i=>Dj U i
  |_=>r
mutual
noncomputable def evE(Z:Gam)(U:Rho):E->R D
 |.non=>.ok .non
 |.bl b=>.ok (.bl b)
 |.int i=>.ok (.int i)
 |.str x=>.ok (.str x)
 |.var i=>EU U i
 |.glob g=>.ok (Z.G g)
 |.bin op a b=>(top U a (evE Z U a)).bind λx=>(top U b (evE Z U b)).bind λy=>CF op x y
 |.un op a=>(top U a (evE Z U a)).bind λx=>unD op x
 |.no a=>(top U a (evE Z U a)).bind λx=>(C8 x).bind λb=>.ok (.bl (!b))
 |.and es=>evN Z U es
 |.or es=>evO Z U es
 |.cmp op a b=>(top U a (evE Z U a)).bind λx=>(top U b (evE Z U b)).bind λy=>Br op x y
 |.cmp2 op op' a b c=>(top U a (evE Z U a)).bind λx=>(top U b (evE Z U b)).bind λy=>(Br op x y).bind λz=>(C8 z).bind λk=>if k=Ab then (top U c (evE Z U c)).bind λu=>Br op' y u else .ok (.bl Ad)
 |.ite c a b=>(top U c (evE Z U c)).bind λx=>(BE x).bind λk=>if k=Ab then evE Z U a else evE Z U b
 |.call f as=>(evB Z U as).bind λxs=>(Z.F f xs).bind λd=>if GO U as=Ab then .ok d else if FG (Z.fr f) d=Ab then .ok d else .bad
 |.bi b as=>(evB Z U as).bind λxs=>biD b xs
 |.isi a ks=>(top U a (evE Z U a)).bind λx=>DL Z.up ks x
 |.idx a i=>(top U a (evE Z U a)).bind λx=>(top U i (evE Z U i)).bind λy=>Cy x y
 |.sl a lo hi=>(top U a (evE Z U a)).bind λx=>(top U lo (evE Z U lo)).bind λl=>(slE lo l).bind λl'=>(top U hi (evE Z U hi)).bind λh=>(slE hi h).bind λh'=>slD x l' h'
 |.tup es=>(evA Z U es).bind λxs=>.ok (.tup xs)
 |.lst es=>(evA Z U es).bind λxs=>.ok (.lst xs)
 |.comp elt t it c=>(evI Z U it).bind λxs=>(noX (BX (λx=>(top (U.set t (Aa (x,Ad))) c (evE Z (U.set t (Aa (x,Ad))) c)).bind BE) (λx=>evE Z (U.set t (Aa (x,Ad))) elt) xs)).bind λys=>.ok (.lst ys)
 |.compT elt ts it c=>(evI Z U it).bind λxs=>(noX (BX (λx=>(DR ts x U).bind λU'=>(top U' c (evE Z U' c)).bind BE) (λx=>(DR ts x U).bind λU'=>evE Z U' elt) xs)).bind λys=>.ok (.lst ys)
 |.tupI it=>(evI Z U it).bind λxs=>.ok (.tup xs)
 |.dnew=>.ok (.dic [])
 |.fld o f=>(top U o (evE Z U o)).bind λx=>LL x f
 |.mkx c as=>(noX (evA Z U as)).bind λxs=>(Z.xn c xs).bind λx=>.ok (.exc x.c x.fs)
 |.ofl o f=>(top U o (evE Z U o)).bind λx=>ofD x f
 |.iso a k=>(top U a (evE Z U a)).bind λx=>Kn k x
 |.meth m ms o=>(top U o (evE Z U o)).bind λx=>IE Z.F m ms x
 |.mkob c e=>(noX (evE Z U e)).bind λx=>DT c x
 |.mkn c as=>(noX (evA Z U as)).bind λxs=>Z.F (900+c) xs
noncomputable def evN(Z:Gam)(U:Rho):Es->R D
 |.nil=>.bad
 |.cons e .nil=>evE Z U e
 |.cons e (.cons e' es)=>(evE Z U e).bind λx=>(C8 x).bind λc=>if c=Ab then evN Z U (.cons e' es) else .ok (.bl Ad)
noncomputable def evO(Z:Gam)(U:Rho):Es->R D
 |.nil=>.bad
 |.cons e .nil=>evE Z U e
 |.cons e (.cons e' es)=>(evE Z U e).bind λx=>(C8 x).bind λc=>if c=Ab then .ok (.bl Ab) else evO Z U (.cons e' es)
noncomputable def evA(Z:Gam)(U:Rho):Es->R (Ac D)
 |.nil=>.ok []
 |.cons e es=>(evE Z U e).bind λx=>(evA Z U es).bind λxs=>.ok (x::xs)
noncomputable def evB(Z:Gam)(U:Rho):Es->R (Ac D)
 |.nil=>.ok []
 |.cons e es=>(top U e (evE Z U e)).bind λx=>(evB Z U es).bind λxs=>.ok (x::xs)
noncomputable def evI(Z:Gam)(U:Rho):I->R (Ac D)
 |.e a=>(evE Z U a).bind DK
 |.rng a=>(top U a (evE Z U a)).bind λx=>(Ey x).bind λj=>DJ 0 j
 |.rng2 a b=>(top U a (evE Z U a)).bind λx=>(top U b (evE Z U b)).bind λy=>(Ey x).bind λi=>(Ey y).bind λj=>DJ i j
 |.zip a b=>(evE Z U a).bind λx=>(evE Z U b).bind λy=>(DK x).bind λxs=>(DK y).bind λys=>.ok (N8 xs ys)
 |.zip3 a b c=>(evE Z U a).bind λx=>(evE Z U b).bind λy=>(evE Z U c).bind λz=>RU x y z
 |.enm a=>(evE Z U a).bind λx=>(DK x).bind λxs=>.ok (Cj 0 xs)
end
noncomputable def Dy(Z:Gam):E->Ai
 |.lst _=>Ab
 |.comp _ _ _ _=>Ab
 |.compT _ _ _ _=>Ab
 |.dnew=>Ab
 |.bin .Add _ _=>Ab
 |.bi .list _=>Ab
 |.bi .sorted _=>Ab
 |.sl _ _ _=>Ab
 |.call f _=>Z.fr f
 |_=>Ad
mutual
inductive S where
 |pass
 /-- x=e;fresh: x alone holds the new list -/
 |asg (i:Af) (fresh:Ai) (e:E)
 /-- a,b,..=e -/
 |asgT (ts:Ac Af) (e:E)
 |expr (e:E)
 |ret (e:E)|retN
 |ife (c:E) (a b:Ss)
 |fors (t:Af) (it:I) (body:Ss)
 |forT (ts:Ac Af) (it:I) (body:Ss)
 /-- for t,u in enumerate(x): x is held alone -/
 |forO (i:Af) (ts:Ac Af) (body:Ss)
 |whl (c:E) (body:Ss)
 /-- raise C(e,..) -/
 |rais (c:Af) (as:Es)
 /-- try: body except C as x: h -/
 |tryx (body:Ss) (c:Af) (x:Af) (h:Ss)
 /-- .. except C as x: h,except C' as x: h',else: els -/
 |try2 (body:Ss) (c:Af) (x:Af) (h:Ss) (c':Af) (h' els:Ss)
 /-- x.append(e),x.extend(e),x.insert(k,e),x.reverse(),x.clear() -/
 |app (i:Af) (e:E)|ext (i:Af) (e:E)|ins (i:Af) (k e:E)|rev (i:Af)|clr (i:Af)
 /-- d[k]=e,d.setdefault(k,e) -/
 |dput (i:Af) (k e:E)|dsd (i:Af) (k e:E)
 /-- x[k]=e -/
 |put (i:Af) (k e:E)
 /-- x[k],x[l]=x[l],x[k] -/
 |swp (i k l:Af)
 /-- x.append(y.pop(e)) -/
 |apop (j i:Af) (e:E)
 |brk|cont
 /-- nothing: from here on x is no longer changed -/
 |rel (i:Af)
inductive Ss where
 |nil|cons (s:S) (ss:Ss)
end
inductive O where
 |next (U:Rho)|ret (d:D) (fr:Ai)|brk (U:Rho)|cont (U:Rho)|exn (x:Ex) (U:Rho)|bad
 deriving Inhabited
noncomputable def O.of{α:Type}(U:Rho)(r:R α)(f:α->O):O:=match r with
  |.ok a=>f a
  |.exn x=>.exn x U
  |.bad=>.bad
@[simp]theorem O.of_ok(U:Rho)(a:α)(f:α->O):O.of U (.ok a) f=f a:=rfl
@[simp]theorem O.of_exn(U:Rho)(x:Ex)(f:α->O):O.of U (.exn x:R α) f=.exn x U:=rfl
@[simp]theorem O.of_bad(U:Rho)(f:α->O):O.of U (.bad:R α) f=.bad:=rfl
noncomputable def GQ(Z:Gam)(U:Rho)(i:I):R (Ac D):=evI Z U i
noncomputable def CS(U:Rho)(i:Af):R (Ac D):=match U[i]? with
  |some (Aa (.lst xs,Ab))=>.ok xs
  |_=>.bad
noncomputable def To(U:Rho)(i:Af):R (Ac (Ac Ah×D)):=match U[i]? with
  |some (Aa (.dic xs,Ab))=>.ok xs
  |_=>.bad
noncomputable def Sj(d:D):R (Ac Ah):=match HW d with
  |some k=>.ok k
  |none=>.bad
noncomputable def N4:Af:=4096
noncomputable def O.seq(o:O)(f:Rho->O):O:=match o with
  |.next U=>f U
  |.ret d b=>.ret d b
  |.brk U=>.brk U
  |.cont U=>.cont U
  |.exn x U=>.exn x U
  |.bad=>.bad
noncomputable def O.turn(o:O)(f:Rho->O):O:=match o with
  |.next U=>f U
  |.cont U=>f U
  |.brk U=>.next U
  |.ret d b=>.ret d b
  |.exn x U=>.exn x U
  |.bad=>.bad
noncomputable def Cd(body:D->Rho->O):Ac D->Rho->O
 |[],U=>.next U
 |x::xs,U=>(body x U).turn (Cd body xs)
noncomputable def HX(c:Rho->R Ai)(body:Rho->O):Af->Rho->O
 |0,_=>.bad
 |n+1,U=>O.of U (c U) λb=>if b=Ab then (body U).turn (HX c body n) else .next U
noncomputable def Sk(U:Rho)(k:Af):R Ah:=(EU U k).bind Ey
noncomputable def mH(U:Rho)(d:D)(i k l:Af):O:=match d with
  |.tup [x,y]=>O.of U (CS U i) λxs=>O.of U (Sk U k) λa=>O.of U (Sk U l) λb=>match plD xs.length a,plD xs.length b with
    |some m,Aa n=>.next (U.set i (Aa (.lst ((xs.set m x).set n y),Ab)))
    |_,_=>.bad
  |_=>.bad
noncomputable def apD(U:Rho)(j i:Af)(ys xs:Ac D)(n:Ah):O:=match plD xs.length n with
  | some m=>(match xs[m]? with
    |some d=>if (j != i&&(BY xs.length&&BY (ys.length+1)))=Ab then .next ((U.set i (Aa (.lst (xs.eraseIdx m),Ab))).set j (Aa (.lst (ys++[d]),Ab))) else .bad
    | none=>.bad)
  |none=>.bad
noncomputable def hdO(i:Af)(y:Ex)(U':Rho)(fh:Rho->O):O:=match fh (U'.set i (Aa (.exc y.c y.fs,Ad))) with
  |.next U''=>.next (U''.set i Ae)
  |.ret d f=>.ret d f
  |_=>.bad
noncomputable def LD(U:Rho)(i:Af):D->O
 |.lst xs=>.next (U.set i (Aa (.lst xs,Ad)))
 |_=>.bad
noncomputable def EC(U:Rho)(i:Af):Ai:=match U[i]? with
  |some (Aa (.non,Ab))=>Ab
  |_=>Ad
noncomputable def He(i:Af)(xs:Ac D):O->O
 |.next U=>if EC U i=Ab then .next (U.set i (Aa (.lst xs,Ab))) else .bad
 |.ret d fr=>.ret d fr
 |_=>.bad
mutual
noncomputable def evS(Z:Gam)(U:Rho):S->O
  |.pass=>.next U
  | .asg i fresh e=>O.of U (evE Z U e) λd=>if fresh=Ab then (if Dy Z e=Ab then (match d with
      |.lst xs=>.next (U.set i (Aa (.lst xs,Ab)))
      |.dic xs=>.next (U.set i (Aa (.dic xs,Ab)))
      | _=>.bad) else .bad) else .next (U.set i (Aa (d,Ad)))
  |.asgT ts e=>O.of U (evE Z U e) λd=>O.of U (Lz ts d U) λU'=>.next U'
  |.expr e=>O.of U (evE Z U e) λ_=>.next U
  |.ret e=>O.of U (top U e (evE Z U e)) λd=>.ret d (Dy Z e||(match e with | .var i=>(match U[i]? with|some (Aa (_,o))=>o|_=>Ad)|_=>Ad))
  |.retN=>.ret .non Ad
  |.ife c a b=>O.of U ((top U c (evE Z U c)).bind BE) λk=>if k=Ab then evSs Z U a else evSs Z U b
  |.fors t it body=>O.of U (GQ Z U it) λxs=>Cd (λx U'=>evSs Z (U'.set t (Aa (x,Ad))) body) xs U
  |.forT ts it body=>O.of U (GQ Z U it) λxs=>Cd (λx U'=>O.of U' (DR ts x U') λU''=>evSs Z U'' body) xs U
  |.forO i ts body=>O.of U (CS U i) λxs=>He i xs (Cd (λx U'=>if EC U' i=Ab then O.of U' (DR ts x U') λU''=>evSs Z U'' body else .bad) (Cj 0 xs) (U.set i (Aa (.non,Ab))))
  |.whl c body=>HX (λU'=>(top U' c (evE Z U' c)).bind BE) (λU'=>evSs Z U' body) N4 U
  |.rais c as=>O.of U (noX (evA Z U as)) λxs=>O.of U (Z.xn c xs) λx=>.exn x U
  |.tryx body c x h=>match evSs Z U body with
      | .exn y U'=>if (Z.up y.c).contains c=Ab then (match evSs Z (U'.set x (Aa (.exc y.c y.fs,Ad))) h with
          |.next U''=>.next (U''.set x Ae)
          |.ret d f=>.ret d f
          | _=>.bad) else .bad
      |o=>o
  |.try2 body c x h c' h' els=>match evSs Z U body with
      |.exn y U'=>if (Z.up y.c).contains c=Ab then hdO x y U' (λr=>evSs Z r h) else if (Z.up y.c).contains c'=Ab then hdO x y U' (λr=>evSs Z r h') else .bad
      |.next U'=>evSs Z U' els
      |o=>o
  |.app i e=>O.of U (CS U i) λxs=>O.of U (evE Z U e) λd=>if BY (xs.length+1)=Ab then .next (U.set i (Aa (.lst (xs++[d]),Ab))) else .bad
  |.ext i e=>O.of U (CS U i) λxs=>O.of U (evE Z U e) λd=>O.of U (NZ d) λys=>if BY (xs.length+ys.length)=Ab then .next (U.set i (Aa (.lst (xs++ys),Ab))) else .bad
  |.ins i k e=>O.of U (CS U i) λxs=>O.of U ((top U k (evE Z U k)).bind Ey) λj=>O.of U (evE Z U e) λd=>if (BY (xs.length+1)&&decide (0<=j)&&decide (j<=xs.length))=Ab then .next (U.set i (Aa (.lst (xs.take j.toNat++d::xs.drop j.toNat),Ab))) else .bad
  |.rev i=>O.of U (CS U i) λxs=>.next (U.set i (Aa (.lst xs.reverse,Ab)))
  |.clr i=>O.of U (CS U i) λ_=>.next (U.set i (Aa (.lst [],Ab)))
  |.dput i k e=>O.of U (evE Z U e) λd=>O.of U (To U i) λxs=>O.of U ((evE Z U k).bind Sj) λj=>if BY (xs.length+1)=Ab then .next (U.set i (Aa (.dic (Q4 xs j d),Ab))) else .bad
  |.dsd i k e=>O.of U (To U i) λxs=>O.of U ((evE Z U k).bind Sj) λj=>O.of U (evE Z U e) λd=>if BY (xs.length+1)=Ab then .next (U.set i (Aa (.dic (if (xs.any λp=>p.1==j)=Ab then xs else Q4 xs j d),Ab))) else .bad
  |.put i k e=>O.of U (evE Z U e) λd=>O.of U (CS U i) λxs=>O.of U ((top U k (evE Z U k)).bind Ey) λj=>match plD xs.length j with
      |some n=>.next (U.set i (Aa (.lst (xs.set n d),Ab)))
      |none=>.bad
  |.swp i k l=>O.of U (evE Z U (.tup (.cons (.idx (.var i) (.var l)) (.cons (.idx (.var i) (.var k)) .nil)))) λd=>mH U d i k l
  |.apop j i e=>O.of U (CS U j) λys=>O.of U (CS U i) λxs=>O.of U (evE Z U e) λd=>O.of U (Ey d) λn=>apD U j i ys xs n
  |.brk=>.brk U
  |.cont=>.cont U
  |.rel i=>match U[i]? with
      |some (Aa (d,Ab))=>LD U i d
      |_=>.next U
noncomputable def evSs(Z:Gam)(U:Rho):Ss->O
 |.nil=>.next U
 |.cons s ss=>(evS Z U s).seq λU'=>evSs Z U' ss
end
structure Df where
 n:Af
 fr:Ai
 body:Ss
noncomputable def B5(n:Af)(ds:Ac D):Rho:=ds.map (λd=>Aa (d,Ad))++Fw (n-ds.length) Ae
noncomputable def isL:D->Ai
 |.lst _=>Ab
 |.dic _=>Ab
 |_=>Ad
noncomputable def O.ans(fr:Ai)(o:O):R D:=match o with
  |.ret d b=>if (fr&&(!b&&isL d))=Ab then .bad else .ok d
  |.next _=>if fr=Ab then .bad else .ok .non
  |.exn x _=>.exn x
  |_=>.bad
noncomputable def Df.run(Z:Gam)(f:Df)(ds:Ac D):R D:=(evSs Z (B5 f.n ds) f.body).ans f.fr
structure Prg where
 xs:Ai
 defs:Af->Df
 G:Af->D
 up:Af->Ac Af
 xn:Af->Ac D->R Ex
noncomputable def Ee(xs:Ai)(r:R D):R D:=match xs with
  |true=>r
  |false=>noX r
noncomputable def gam(P:Prg):Af->Gam
 |0=>⟨λ_ _=>.bad,P.G,P.up,λi=>(P.defs i).fr,P.xn⟩
 |n+1=>⟨λi ds=>Ee P.xs ((P.defs i).run (gam P n) ds),P.G,P.up,λi=>(P.defs i).fr,P.xn⟩
end Ov
end
section
namespace Ov
open PySem
variable{α:Type}{lo hi:Ah}{n:Af}{x:D}
section
variable(Z:Gam)(U:Rho)
@[simp]theorem Zv4:evE Z U .non=.ok .non:=rfl
@[simp]theorem ZxZ(b):evE Z U (.bl b)=.ok (.bl b):=rfl
@[simp]theorem Zwb(b):evE Z U (.int b)=.ok (.int b):=rfl
@[simp]theorem QY(b):evE Z U (.str b)=.ok (.str b):=rfl
@[simp]theorem Zv1(i):evE Z U (.var i)=EU U i:=rfl
@[simp]theorem Zsu(i):evE Z U (.glob i)=.ok (Z.G i):=rfl
@[simp]theorem Zwe(op a b):evE Z U (.bin op a b)=(top U a (evE Z U a)).bind λx=>(top U b (evE Z U b)).bind λy=>CF op x y:=rfl
@[simp]theorem ZxV(op a):evE Z U (.un op a)=(top U a (evE Z U a)).bind λx=>unD op x:=rfl
@[simp]theorem ZxY(a):evE Z U (.no a)=(top U a (evE Z U a)).bind λx=>(C8 x).bind λb=>.ok (.bl (!b)):=rfl
@[simp]theorem Zwf(es):evE Z U (.and es)=evN Z U es:=rfl
@[simp]theorem ZxX(es):evE Z U (.or es)=evO Z U es:=rfl
@[simp]theorem ZvX(e):evN Z U (.cons e .nil)=evE Z U e:=rfl
@[simp]theorem Zsl(e e' es):evN Z U (.cons e (.cons e' es))=(evE Z U e).bind λx=>(C8 x).bind λc=>if c=Ab then evN Z U (.cons e' es) else .ok (.bl Ad):=rfl
@[simp]theorem ZvW(e):evO Z U (.cons e .nil)=evE Z U e:=rfl
@[simp]theorem Zsk(e e' es):evO Z U (.cons e (.cons e' es))=(evE Z U e).bind λx=>(C8 x).bind λc=>if c=Ab then .ok (.bl Ab) else evO Z U (.cons e' es):=rfl
@[simp]theorem Z_4(op a b):evE Z U (.cmp op a b)=(top U a (evE Z U a)).bind λx=>(top U b (evE Z U b)).bind λy=>Br op x y:=rfl
@[simp]theorem Zsx(op op' a b c):evE Z U (.cmp2 op op' a b c)=(top U a (evE Z U a)).bind λx=>(top U b (evE Z U b)).bind λy=>(Br op x y).bind λz=>(C8 z).bind λk=>if k=Ab then (top U c (evE Z U c)).bind λu=>Br op' y u else .ok (.bl Ad):=rfl
@[simp]theorem Zv8(c a b):evE Z U (.ite c a b)=(top U c (evE Z U c)).bind λx=>(BE x).bind λk=>if k=Ab then evE Z U a else evE Z U b:=rfl
@[simp]theorem Zsy(f as):evE Z U (.call f as)=(evB Z U as).bind λxs=>(Z.F f xs).bind λd=>if GO U as=Ab then .ok d else if FG (Z.fr f) d=Ab then .ok d else .bad:=rfl
@[simp]theorem RB(f as):evE Z U (.bi f as)=(evB Z U as).bind λxs=>biD f xs:=rfl
@[simp]theorem Zwa(a ks):evE Z U (.isi a ks)=(top U a (evE Z U a)).bind λx=>DL Z.up ks x:=rfl
@[simp]theorem Zwc(a i):evE Z U (.idx a i)=(top U a (evE Z U a)).bind λx=>(top U i (evE Z U i)).bind λy=>Cy x y:=rfl
@[simp]theorem ZxW(a lo hi):evE Z U (.sl a lo hi)=(top U a (evE Z U a)).bind λx=>(top U lo (evE Z U lo)).bind λl=>(slE lo l).bind λl'=>(top U hi (evE Z U hi)).bind λh=>(slE hi h).bind λh'=>slD x l' h':=rfl
@[simp]theorem Zv2(es):evE Z U (.tup es)=(evA Z U es).bind λxs=>.ok (.tup xs):=rfl
@[simp]theorem Zv7(es):evE Z U (.lst es)=(evA Z U es).bind λxs=>.ok (.lst xs):=rfl
noncomputable def cG(Z:Gam)(U:Rho)(t:Af)(c:E):D->R Ai:=λx=>(top (U.set t (Aa (x,Ad))) c (evE Z (U.set t (Aa (x,Ad))) c)).bind BE
noncomputable def cF(Z:Gam)(U:Rho)(t:Af)(elt:E):D->R D:=λx=>evE Z (U.set t (Aa (x,Ad))) elt
noncomputable def mkL(r:R (Ac D)):R D:=(noX r).bind λys=>.ok (.lst ys)
@[simp]theorem Zxv(ys):mkL (.ok ys)=.ok (.lst ys):=rfl
@[simp]theorem Zsw(elt t it c):evE Z U (.comp elt t it c)=(evI Z U it).bind λxs=>mkL (BX (cG Z U t c) (cF Z U t elt) xs):=rfl
noncomputable def cGT(Z:Gam)(U:Rho)(ts:Ac Af)(c:E):D->R Ai:=λx=>(DR ts x U).bind λU'=>(top U' c (evE Z U' c)).bind BE
noncomputable def cFT(Z:Gam)(U:Rho)(ts:Ac Af)(elt:E):D->R D:=λx=>(DR ts x U).bind λU'=>evE Z U' elt
@[simp]theorem Zqs(elt ts it c):evE Z U (.compT elt ts it c)=(evI Z U it).bind λxs=>mkL (BX (cGT Z U ts c) (cFT Z U ts elt) xs):=rfl
@[simp]theorem Zsr(it):evE Z U (.tupI it)=(evI Z U it).bind λxs=>.ok (.tup xs):=rfl
@[simp]theorem Zsv:evE Z U .dnew=.ok (.dic []):=rfl
@[simp]theorem Zv3(o f):evE Z U (.ofl o f)=(top U o (evE Z U o)).bind λx=>ofD x f:=rfl
@[simp]theorem Zv9(a k):evE Z U (.iso a k)=(top U a (evE Z U a)).bind λx=>Kn k x:=rfl
@[simp]theorem Zst(m ms o):evE Z U (.meth m ms o)=(top U o (evE Z U o)).bind λx=>IE Z.F m ms x:=rfl
@[simp]theorem Zss(c e):evE Z U (.mkob c e)=(noX (evE Z U e)).bind λx=>DT c x:=rfl
@[simp]theorem Zv6(c as):evE Z U (.mkn c as)=(noX (evA Z U as)).bind λxs=>Z.F (900+c) xs:=rfl
@[simp]theorem Zv5(c as):evE Z U (.mkx c as)=(noX (evA Z U as)).bind λxs=>(Z.xn c xs).bind λx=>.ok (.exc x.c x.fs):=rfl
@[simp]theorem Zwd(o f):evE Z U (.fld o f)=(top U o (evE Z U o)).bind λx=>LL x f:=rfl
@[simp]theorem Zwh:evA Z U .nil=.ok []:=rfl
@[simp]theorem P8(e es):evA Z U (.cons e es)=(evE Z U e).bind λx=>(evA Z U es).bind λxs=>.ok (x::xs):=rfl
@[simp]theorem Zwg:evB Z U .nil=.ok []:=rfl
@[simp]theorem MT(e es):evB Z U (.cons e es)=(top U e (evE Z U e)).bind λx=>(evB Z U es).bind λxs=>.ok (x::xs):=rfl
@[simp]theorem ZyQ(a):evI Z U (.e a)=(evE Z U a).bind DK:=rfl
@[simp]theorem ZvZ(a):evI Z U (.rng a)=(top U a (evE Z U a)).bind λx=>(Ey x).bind λj=>DJ 0 j:=rfl
@[simp]theorem Zsq(a b):evI Z U (.rng2 a b)=(top U a (evE Z U a)).bind λx=>(top U b (evE Z U b)).bind λy=>(Ey x).bind λi=>(Ey y).bind λj=>DJ i j:=rfl
@[simp]theorem ZvY(a b):evI Z U (.zip a b)=(evE Z U a).bind λx=>(evE Z U b).bind λy=>(DK x).bind λxs=>(DK y).bind λys=>.ok (N8 xs ys):=rfl
@[simp]theorem Zsp(a b c):evI Z U (.zip3 a b c)=(evE Z U a).bind λx=>(evE Z U b).bind λy=>(evE Z U c).bind λz=>RU x y z:=rfl
@[simp]theorem Zv0(a):evI Z U (.enm a)=(evE Z U a).bind λx=>(DK x).bind λxs=>.ok (Cj 0 xs):=rfl
@[simp]theorem Zsm(a b):GQ Z U (.zip a b)=evI Z U (.zip a b):=rfl
@[simp]theorem Zqq(a b c):GQ Z U (.zip3 a b c)=evI Z U (.zip3 a b c):=rfl
@[simp]theorem Zso(a):GQ Z U (.enm a)=evI Z U (.enm a):=rfl
@[simp]theorem ZxU(a):GQ Z U (.e a)=(evE Z U a).bind DK:=rfl
@[simp]theorem Zsn(a):GQ Z U (.rng a)=evI Z U (.rng a):=rfl
@[simp]theorem Zqr(a b):GQ Z U (.rng2 a b)=evI Z U (.rng2 a b):=rfl
variable(r:R D)
@[simp]theorem Zs1(i):top U (.var i) r=Dj U i:=rfl
@[simp]theorem Zs4:top U .non r=r:=rfl
@[simp]theorem ZwU(b):top U (.bl b) r=r:=rfl
@[simp]theorem Ztb(b):top U (.int b) r=r:=rfl
@[simp]theorem Qw(b):top U (.str b) r=r:=rfl
@[simp]theorem Zrw(b):top U (.glob b) r=r:=rfl
@[simp]theorem Ztf(op a b):top U (.bin op a b) r=r:=rfl
@[simp]theorem ZwQ(op a):top U (.un op a) r=r:=rfl
@[simp]theorem ZwT(a):top U (.no a) r=r:=rfl
@[simp]theorem Ztg(a):top U (.and a) r=r:=rfl
@[simp]theorem ZwS(a):top U (.or a) r=r:=rfl
@[simp]theorem Zte(op a b):top U (.cmp op a b) r=r:=rfl
@[simp]theorem Zrz(op op' a b c):top U (.cmp2 op op' a b c) r=r:=rfl
@[simp]theorem Zs8(a b c):top U (.ite a b c) r=r:=rfl
@[simp]theorem ZrA(a b):top U (.call a b) r=r:=rfl
@[simp]theorem ZwV(a b):top U (.bi a b) r=r:=rfl
@[simp]theorem Zta(a b):top U (.isi a b) r=r:=rfl
@[simp]theorem Ztc(a b):top U (.idx a b) r=r:=rfl
@[simp]theorem ZwR(a b c):top U (.sl a b c) r=r:=rfl
@[simp]theorem Zs2(a):top U (.tup a) r=r:=rfl
@[simp]theorem Zs7(a):top U (.lst a) r=r:=rfl
@[simp]theorem Zry(a b c d):top U (.comp a b c d) r=r:=rfl
@[simp]theorem Zs3(a b):top U (.ofl a b) r=r:=rfl
@[simp]theorem Zs9(a b):top U (.iso a b) r=r:=rfl
@[simp]theorem Zrv(a b c):top U (.meth a b c) r=r:=rfl
@[simp]theorem Zru(a b):top U (.mkob a b) r=r:=rfl
@[simp]theorem Zs6(a b):top U (.mkn a b) r=r:=rfl
@[simp]theorem Zs5(a b):top U (.mkx a b) r=r:=rfl
@[simp]theorem Ztd(a b):top U (.fld a b) r=r:=rfl
@[simp]theorem Zol(a b c d):top U (.compT a b c d) r=r:=rfl
@[simp]theorem Zrt(a):top U (.tupI a) r=r:=rfl
@[simp]theorem Zrx:top U .dnew r=r:=rfl
end
@[simp]theorem Zoc(d:D)(U:Rho):Dj (Aa (d,Ad)::U) 0=.ok d:=rfl
@[simp]theorem ZnL(xs:Ac D)(U:Rho):Dj (Aa (.lst xs,Ab)::U) 0=.ok (.lst xs):=rfl
@[simp]theorem Zoe(x:D)(U:Rho):EU (Aa (x,Ad)::U) 0=.ok x:=rfl
@[simp]theorem ZnM(x:Sl)(U:Rho)(i:Af)[NeZero i]:Dj (x::U) i=Dj U (i-1):=by
 obtain⟨j,rfl⟩:∃ j,i=j+1:=⟨i-1,by have:=Jz i;omega⟩
 rfl
@[simp]theorem ZnN(x:Sl)(U:Rho)(i:Af)[NeZero i]:EU (x::U) i=EU U (i-1):=by
 obtain⟨j,rfl⟩:∃ j,i=j+1:=⟨i-1,by have:=Jz i;omega⟩
 rfl
noncomputable def shV(U:Rho)(i:Af):Ai:=match U[i]? with
    |some (Aa (_,Ab))=>Ad
    |_=>Ab
@[simp]theorem ZrD(x:D)(b:Ai)(U:Rho):shV (Aa (x,b)::U) 0=!b:=by cases b<;>rfl
@[simp]theorem ZoL(U:Rho):shV (Ae::U) 0=Ab:=rfl
@[simp]theorem ZoM(x:Sl)(U:Rho)(i:Af)[NeZero i]:shV (x::U) i=shV U (i-1):=by
 obtain⟨j,rfl⟩:∃ j,i=j+1:=⟨i-1,by have:=Jz i;omega⟩
 rfl
section
variable(U:Rho)
@[simp]theorem ZtI(i):shE U (.var i)=shV U i:=rfl
@[simp]theorem ZtM:shE U .non=Ab:=rfl
@[simp]theorem Zxb(b):shE U (.bl b)=Ab:=rfl
@[simp]theorem ZtT(b):shE U (.int b)=Ab:=rfl
@[simp]theorem ZtK(b):shE U (.str b)=Ab:=rfl
@[simp]theorem ZrI(b):shE U (.glob b)=Ab:=rfl
@[simp]theorem ZtX(op a b):shE U (.bin op a b)=Ab:=rfl
@[simp]theorem Zw7(op a):shE U (.un op a)=Ab:=rfl
@[simp]theorem Zxa(a):shE U (.no a)=Ab:=rfl
@[simp]theorem ZtY(a):shE U (.and a)=Ab:=rfl
@[simp]theorem Zw9(a):shE U (.or a)=Ab:=rfl
@[simp]theorem ZtW(op a b):shE U (.cmp op a b)=Ab:=rfl
@[simp]theorem ZrL(op op' a b c):shE U (.cmp2 op op' a b c)=Ab:=rfl
@[simp]theorem ZtQ(a b c):shE U (.ite a b c)=Ab:=rfl
@[simp]theorem ZrM(a b):shE U (.call a b)=Ab:=rfl
@[simp]theorem Zxc(a b):shE U (.bi a b)=Ab:=rfl
@[simp]theorem ZtS(a b):shE U (.isi a b)=Ab:=rfl
@[simp]theorem ZtU(a b):shE U (.idx a b)=Ab:=rfl
@[simp]theorem Zw8(a b c):shE U (.sl a b c)=Ab:=rfl
@[simp]theorem ZtJ(a):shE U (.tup a)=Ab:=rfl
@[simp]theorem ZtP(a):shE U (.lst a)=Ab:=rfl
@[simp]theorem ZrK(a b c d):shE U (.comp a b c d)=Ab:=rfl
@[simp]theorem ZoN(a b c d):shE U (.compT a b c d)=Ab:=rfl
@[simp]theorem ZrF(a):shE U (.tupI a)=Ab:=rfl
@[simp]theorem ZrJ:shE U .dnew=Ab:=rfl
@[simp]theorem ZtL(a b):shE U (.ofl a b)=Ab:=rfl
@[simp]theorem ZtR(a b):shE U (.iso a b)=Ab:=rfl
@[simp]theorem ZrH(a b c):shE U (.meth a b c)=Ab:=rfl
@[simp]theorem ZrG(a b):shE U (.mkob a b)=Ab:=rfl
@[simp]theorem ZtO(a b):shE U (.mkn a b)=Ab:=rfl
@[simp]theorem ZtN(a b):shE U (.mkx a b)=Ab:=rfl
@[simp]theorem ZtV(a b):shE U (.fld a b)=Ab:=rfl
@[simp]theorem ZrE:GO U .nil=Ab:=rfl
@[simp]theorem WJ(e es):GO U (.cons e es)=(shE U e&&GO U es):=rfl
end
@[simp]theorem ZnQ(U:Rho):Dv [] [] U=Aa U:=rfl
@[simp]theorem ZlV(t ts d ds)(U:Rho):Dv (t::ts) (d::ds) U=Dv ts ds (U.set t (Aa (d,Ad))):=rfl
@[simp]theorem Zq1(ts ds)(U:Rho):Lz ts (.lst ds) U=match Dv ts ds U with
  |some U'=>.ok U'
  |none=>.bad:=rfl
@[simp]theorem Zq0(ts ds)(U:Rho):Lz ts (.tup ds) U=DR ts (.tup ds) U:=rfl
@[simp]theorem OW(ts ds)(U:Rho):DR ts (.tup ds) U=match Dv ts ds U with
  |some U'=>.ok U'
  |none=>.bad:=rfl
@[simp]theorem ZsG{β:Type}(c:Prop)[E9 c](a b:R α)(f:α->R β):(if c then a else b).bind f=if c then a.bind f else b.bind f:=by split<;>rfl
@[simp]theorem Zxt(U:Rho)(c:Prop)[E9 c](a b:R α)(f:α->O):O.of U (if c then a else b) f=if c then O.of U a f else O.of U b f:=by split<;>rfl
@[simp]theorem Zu5{β:Type}(U:Rho)(a:R α)(g:α->R β)(f:β->O):O.of U (a.bind g) f=O.of U a λx=>O.of U (g x) f:=by cases a<;>rfl
@[simp]theorem Zt0(c:Prop)[E9 c](a b:O)(f:Rho->O):O.seq (if c then a else b) f=if c then a.seq f else b.seq f:=by split<;>rfl
@[simp]theorem Zrj(c:Prop)[E9 c](a b:O)(f:Rho->O):O.turn (if c then a else b) f=if c then a.turn f else b.turn f:=by split<;>rfl
@[simp]theorem ZwA(fr:Ai)(c:Prop)[E9 c](a b:O):O.ans fr (if c then a else b)=if c then a.ans fr else b.ans fr:=by split<;>rfl
@[simp]theorem ZrN(U f):O.seq (.next U) f=f U:=rfl
@[simp]theorem ZtZ(d b f):O.seq (.ret d b) f=.ret d b:=rfl
@[simp]theorem Zt2(U f):O.seq (.brk U) f=.brk U:=rfl
@[simp]theorem ZrO(U f):O.seq (.cont U) f=.cont U:=rfl
@[simp]theorem Zt1(x U f):O.seq (.exn x U) f=.exn x U:=rfl
@[simp]theorem Zt3(f):O.seq .bad f=.bad:=rfl
@[simp]theorem Zoi(U f):O.turn (.next U) f=f U:=rfl
@[simp]theorem Zri(d b f):O.turn (.ret d b) f=.ret d b:=rfl
@[simp]theorem Zrl(U f):O.turn (.brk U) f=.next U:=rfl
@[simp]theorem Zoj(U f):O.turn (.cont U) f=f U:=rfl
@[simp]theorem Zrk(x U f):O.turn (.exn x U) f=.exn x U:=rfl
@[simp]theorem Zrm(f):O.turn .bad f=.bad:=rfl
@[simp]theorem ZsK(U):O.ans Ad (.next U)=.ok .non:=rfl
@[simp]theorem Zwz(d b):O.ans Ad (.ret d b)=.ok d:=rfl
@[simp]theorem ZsJ(d b):O.ans Ab (.ret d b)=if (!b&&isL d)=Ab then .bad else .ok d:=rfl
@[simp]theorem Zvu(d):isL (.lst d)=Ab:=rfl
@[simp]theorem Zvt(d):isL (.tup d)=Ad:=rfl
@[simp]theorem Zvv(d):isL (.int d)=Ad:=rfl
@[simp]theorem ZwB(fr x U):O.ans fr (.exn x U)=.exn x:=rfl
@[simp]theorem ZwC(fr):O.ans fr .bad=.bad:=rfl
@[simp]theorem Zx5(i j:Ah):CF .Add (.int i) (.int j)=.ok (.int (i+j)):=rfl
@[simp]theorem Zw1(i j:Ah):CF .Sub (.int i) (.int j)=.ok (.int (i-j)):=rfl
@[simp]theorem cT(i j:Ah):CF .Mult (.int i) (.int j)=if (Ev i j||Ly i j)=Ab then .ok (.int (i*j)) else .bad:=rfl
@[simp]theorem ZX(i j:Ah):CF .FloorDiv (.int i) (.int j)=if 0<j/\j<1073741824 then .ok (.int (i/j)) else .bad:=rfl
@[simp]theorem cU(i j:Ah):CF .Mod (.int i) (.int j)=if 0<j then .ok (.int (i%j)) else .bad:=rfl
@[simp]theorem dS(i j:Ah):CF .Pow (.int i) (.int j)=if (0<=j/\j<=1000000)/\(-(18446744073709551616:Ah)<i/\i<18446744073709551616) then .ok (.int (i ^ j.toNat)) else .bad:=rfl
@[simp]theorem GE(x y:Ag):CF .Add (.str x) (.str y)=if BY (x.length+y.length)=Ab then .ok (.str (x++y)) else .bad:=rfl
@[simp]theorem RP(x y:Ac D):CF .Add (.lst x) (.lst y)=if BY (x.length+y.length)=Ab then .ok (.lst (x++y)) else .bad:=rfl
@[simp]theorem RO(x y:Ac D):CF .Add (.tup x) (.tup y)=if (!x.isEmpty&&BY (x.length+y.length))=Ab then .ok (.tup (x++y)) else .bad:=rfl
@[simp]theorem Zyv(i:Ah):unD .USub (.int i)=.ok (.int (-i)):=rfl
@[simp]theorem kO(x y:D):Br .Eq x y=if (flD 5 x&&flD 5 y)=Ab then .ok (.bl (eqD x y)) else .bad:=rfl
@[simp]theorem kC(x y:D):Br .NotEq x y=if (flD 5 x&&flD 5 y)=Ab then .ok (.bl (!eqD x y)) else .bad:=rfl
@[simp]theorem Zyw(i j:Ah):Br .Lt (.int i) (.int j)=.ok (.bl (decide (i<j))):=rfl
@[simp]theorem Zyz(i j:Ah):Br .LtE (.int i) (.int j)=.ok (.bl (decide (i<=j))):=rfl
@[simp]theorem ZyL(i j:Ah):Br .Gt (.int i) (.int j)=.ok (.bl (decide (j<i))):=rfl
@[simp]theorem ZyM(i j:Ah):Br .GtE (.int i) (.int j)=.ok (.bl (decide (j<=i))):=rfl
@[simp]theorem lI(x:D)(ys:Ac D):Br .In x (.lst ys)=if (flD 5 x&&ys.all (flD 5))=Ab then .ok (.bl (ys.any λy=>eqD y x)) else .bad:=rfl
@[simp]theorem lH(x:D)(ys:Ac D):Br .In x (.tup ys)=if (flD 5 x&&ys.all (flD 5))=Ab then .ok (.bl (ys.any λy=>eqD y x)) else .bad:=rfl
@[simp]theorem kB(x:D)(ys:Ac D):Br .NotIn x (.lst ys)=if (flD 5 x&&ys.all (flD 5))=Ab then .ok (.bl (!ys.any λy=>eqD y x)) else .bad:=rfl
@[simp]theorem gY(x:D)(ys:Ac D):Br .NotIn x (.tup ys)=if (flD 5 x&&ys.all (flD 5))=Ab then .ok (.bl (!ys.any λy=>eqD y x)) else .bad:=rfl
@[simp]theorem ZxG:Br .Is .non .non=.ok (.bl Ab):=rfl
@[simp]theorem ZxI(i):Br .Is (.int i) .non=.ok (.bl Ad):=rfl
@[simp]theorem ZxF(i):Br .Is (.tup i) .non=.ok (.bl Ad):=rfl
@[simp]theorem ZxH(i):Br .Is (.lst i) .non=.ok (.bl Ad):=rfl
@[simp]theorem ZyD(a b):Br .Is (.bl a) (.bl b)=.ok (.bl (a==b)):=rfl
@[simp]theorem ZxD(a b):Br .IsNot (.bl a) (.bl b)=.ok (.bl (!(a==b))):=rfl
@[simp]theorem Zvj:Br .IsNot .non .non=.ok (.bl Ad):=rfl
@[simp]theorem Zvl(i):Br .IsNot (.int i) .non=.ok (.bl Ab):=rfl
@[simp]theorem Zvi(i):Br .IsNot (.tup i) .non=.ok (.bl Ab):=rfl
@[simp]theorem Zvk(i):Br .IsNot (.lst i) .non=.ok (.bl Ab):=rfl
@[simp]theorem Zwn(i j:Ah):eqD (.int i) (.int j)=(i==j):=rfl
@[simp]theorem Zx0(i j:Ai):eqD (.bl i) (.bl j)=(i==j):=rfl
@[simp]theorem Zwk(i j:Ag):eqD (.str i) (.str j)=(i==j):=rfl
@[simp]theorem Zwj(i j:Ac D):eqD (.tup i) (.tup j)=eqDs i j:=rfl
@[simp]theorem Zwm(i j:Ac D):eqD (.lst i) (.lst j)=eqDs i j:=rfl
@[simp]theorem Zwl:eqD .non .non=Ab:=rfl
@[simp]theorem Znm(i):eqD .non (.int i)=Ad:=rfl
@[simp]theorem Znn(i):eqD (.int i) .non=Ad:=rfl
@[simp]theorem Zsz:eqDs [] []=Ab:=rfl
@[simp]theorem Mz(x y:D)(xs ys:Ac D):eqDs (x::xs) (y::ys)=(eqD x y&&eqDs xs ys):=rfl
@[simp]theorem ZvN(n)(i:Ah):flD n (.int i)=Ab:=by cases n<;>rfl
@[simp]theorem ZxT(n)(i:Ai):flD n (.bl i)=Ab:=by cases n<;>rfl
@[simp]theorem ZvL(n)(i:Ag):flD n (.str i)=Ab:=by cases n<;>rfl
@[simp]theorem ZvM(n):flD n .non=Ab:=by cases n<;>rfl
@[simp]theorem Zr0(i):flD 5 (.tup i)=i.all (flD 4):=rfl
@[simp]theorem Zr5(i):flD 5 (.lst i)=i.all (flD 4):=rfl
@[simp]theorem Zr1(i):flD 4 (.tup i)=i.all (flD 3):=rfl
@[simp]theorem Zr6(i):flD 4 (.lst i)=i.all (flD 3):=rfl
@[simp]theorem Zr2(i):flD 3 (.tup i)=i.all (flD 2):=rfl
@[simp]theorem Zr7(i):flD 3 (.lst i)=i.all (flD 2):=rfl
@[simp]theorem Zr3(i):flD 2 (.tup i)=i.all (flD 1):=rfl
@[simp]theorem Zr8(i):flD 2 (.lst i)=i.all (flD 1):=rfl
@[simp]theorem Zr4(i):flD 1 (.tup i)=i.all (flD 0):=rfl
@[simp]theorem Zr9(i):flD 1 (.lst i)=i.all (flD 0):=rfl
@[simp]theorem ZsZ(b):BE (.bl b)=.ok b:=rfl
@[simp]theorem Zrq(i):BE (.int i)=.ok (i != 0):=rfl
@[simp]theorem Zrp(i):BE (.lst i)=.ok (!i.isEmpty):=rfl
@[simp]theorem Zrn(i):BE (.tup i)=.ok (!i.isEmpty):=rfl
@[simp]theorem Zro:BE .non=.ok Ad:=rfl
@[simp]theorem Zs0(b):DM (.bl b)=.ok b:=rfl
@[simp]theorem Zrs(i):DM (.int i)=.ok (i != 0):=rfl
@[simp]theorem Zrr:DM .non=.ok Ad:=rfl
@[simp]theorem Zq9:FY []=.ok Ab:=rfl
@[simp]theorem Ms(x r):FY (x::r)=(DM x).bind λb=>(FY r).bind λc=>.ok (b&&c):=rfl
@[simp]theorem Zq8:Fn []=.ok Ad:=rfl
@[simp]theorem OY(x r):Fn (x::r)=(DM x).bind λb=>(Fn r).bind λc=>.ok (b||c):=rfl
@[simp]theorem Zwo(b)(d):Ee b (.ok d)=.ok d:=by cases b<;>rfl
@[simp]theorem ZsB(b):Ee b .bad=.bad:=by cases b<;>rfl
@[simp]theorem ZsA(x):Ee Ab (.exn x)=.exn x:=rfl
@[simp]theorem ZnX(r):Ee Ad r=noX r:=rfl
@[simp]theorem Zu6(a:α):noX (.ok a)=.ok a:=rfl
@[simp]theorem Zu8:noX (.bad:R α)=.bad:=rfl
@[simp]theorem Zu7(x):noX (.exn x:R α)=.bad:=rfl
@[simp]theorem Zww(b):C8 (.bl b)=.ok b:=rfl
@[simp]theorem Zq6(b):Ey (.int b)=.ok b:=rfl
@[simp]theorem Zq4(b):NZ (.lst b)=.ok b:=rfl
@[simp]theorem Zq3(b):DK (.lst b)=.ok b:=rfl
@[simp]theorem Zq2(b):DK (.tup b)=.ok b:=rfl
@[simp]theorem jV(xs i):Cy (.lst xs) (.int i)=Du xs i:=rfl
@[simp]theorem jU(xs i):Cy (.tup xs) (.int i)=Du xs i:=rfl
@[simp]theorem Zyy(xs):biD .len [.lst xs]=.ok (.int xs.length):=rfl
@[simp]theorem Zyx(xs):biD .len [.tup xs]=.ok (.int xs.length):=rfl
@[simp]theorem ZyZ(i):biD .abs [.int i]=.ok (.int (if i<0 then -i else i)):=rfl
@[simp]theorem Zxx(i j):biD .max [.int i,.int j]=.ok (.int (if i<j then j else i)):=rfl
@[simp]theorem Zxw(i j):biD .min [.int i,.int j]=.ok (.int (if j<i then j else i)):=rfl
@[simp]theorem ZyF(i):biD .int [.int i]=.ok (.int i):=rfl
@[simp]theorem ZyG(i):biD .int [.bl i]=.ok (.int (b2i i)):=rfl
@[simp]theorem ZxC(i):biD .list [.lst i]=.ok (.lst i):=rfl
@[simp]theorem ZxB(i):biD .list [.tup i]=.ok (.lst i):=rfl
@[simp]theorem ZsY(i):biD .tuple [.lst i]=.ok (.tup i):=rfl
@[simp]theorem ZsX(i):biD .tuple [.tup i]=.ok (.tup i):=rfl
@[simp]theorem kL(i):biD .all [.lst i]=(FY i).bind λb=>.ok (.bl b):=rfl
@[simp]theorem ZyX(i):biD .any [.lst i]=(Fn i).bind λb=>.ok (.bl b):=rfl
@[simp]theorem ZyW(i):biD .any [.tup i]=(Fn i).bind λb=>.ok (.bl b):=rfl
@[simp]theorem Zyp(i):biD .sum [.lst i]=(Kl 0 i).bind λb=>.ok (.int b):=rfl
@[simp]theorem Zyo(i):biD .sum [.tup i]=(Kl 0 i).bind λb=>.ok (.int b):=rfl
@[simp]theorem ZrB(i):biD .sorted [.lst i]=(QB i).bind λb=>.ok (.lst b):=rfl
@[simp]theorem Zyq(xs k):biD .stp [.lst xs,.int k]=.ok (.lst (SH k.toNat xs)):=rfl
@[simp]theorem Zyt(xs):biD .rvs [.lst xs]=.ok (.lst xs.reverse):=rfl
@[simp]theorem Zxz(xs):biD .lset [.lst xs]=Se xs:=rfl
@[simp]theorem ZwW(x y):biD .tmin [x,y]=mmD Ad x y:=rfl
@[simp]theorem Zyc(x y):biD .tlt [x,y]=SV x y:=rfl
@[simp]theorem ZwX(x y):biD .tmax [x,y]=mmD Ab x y:=rfl
@[simp]theorem Zwp(xs x):biD .count [.lst xs,x]=if (flD 5 x&&xs.all (flD 5))=Ab then .ok (.int ((xs.filter λy=>eqD y x).length:Af)) else .bad:=rfl
@[simp]theorem mI(xs lo hi):slD (.tup xs) lo hi=if (Hm xs.length 0 lo==0&&Hm xs.length xs.length hi==xs.length)=Ab then .bad else .ok (.tup (Jy xs lo hi)):=rfl
@[simp]theorem Zy7(xs lo hi):slD (.lst xs) lo hi=.ok (.lst (Jy xs lo hi)):=rfl
@[simp]theorem ZtD(d):slE .non d=.ok Ae:=rfl
@[simp]theorem ZtE(k i):slE (.int k) (.int i)=.ok (Aa i):=rfl
@[simp]theorem ZtC(k i):slE (.var k) (.int i)=.ok (Aa i):=rfl
@[simp]theorem ZtF(op a b i):slE (.bin op a b) (.int i)=.ok (Aa i):=rfl
@[simp]theorem Zw4(op a i):slE (.un op a) (.int i)=.ok (Aa i):=rfl
@[simp]theorem Zw5(b as i):slE (.bi b as) (.int i)=.ok (Aa i):=rfl
@[simp]theorem Zvo(up ks):DL up ks .non=if ks.any Dk=Ab then .bad else .ok (.bl (ks.any λk=>kiD up k .non)):=rfl
@[simp]theorem ZxE(up ks b):DL up ks (.bl b)=if ks.any Dk=Ab then .bad else .ok (.bl (ks.any λk=>kiD up k (.bl b))):=rfl
@[simp]theorem Zvq(up ks b):DL up ks (.int b)=if ks.any Dk=Ab then .bad else .ok (.bl (ks.any λk=>kiD up k (.int b))):=rfl
@[simp]theorem Zvn(up ks b):DL up ks (.str b)=if ks.any Dk=Ab then .bad else .ok (.bl (ks.any λk=>kiD up k (.str b))):=rfl
@[simp]theorem Zvm(up ks b):DL up ks (.tup b)=if ks.any Dk=Ab then .bad else .ok (.bl (ks.any λk=>kiD up k (.tup b))):=rfl
@[simp]theorem Zvp(up ks b):DL up ks (.lst b)=if ks.any Dk=Ab then .bad else .ok (.bl (ks.any λk=>kiD up k (.lst b))):=rfl
@[simp]theorem Zvr(up ks c f):DL up ks (.exc c f)=if ks.all Dk=Ab then .ok (.bl (ks.any λk=>kiD up k (.exc c f))) else .bad:=rfl
@[simp]theorem ZsE(c):Dk (.cls c)=Ab:=rfl
@[simp]theorem ZqD:Dk .verr=Ab:=rfl
@[simp]theorem ZsD:Dk .int=Ad:=rfl
@[simp]theorem ZqF:Dk .bool=Ad:=rfl
@[simp]theorem ZsC:Dk .str=Ad:=rfl
@[simp]theorem ZqE:Dk .list=Ad:=rfl
@[simp]theorem ZnZ:Dk .tuple=Ad:=rfl
@[simp]theorem ZnU(up i):kiD up .int (.int i)=Ab:=rfl
@[simp]theorem ZnT(up):kiD up .int .non=Ad:=rfl
@[simp]theorem ZmW(up i):kiD up .bool (.int i)=Ad:=rfl
@[simp]theorem ZnS(up i):kiD up .int (.tup i)=Ad:=rfl
@[simp]theorem ZnW(up i):kiD up .bool (.bl i)=Ab:=rfl
@[simp]theorem ZmV(up):kiD up .bool .non=Ad:=rfl
@[simp]theorem ZmU(up i):kiD up .list (.lst i)=Ab:=rfl
@[simp]theorem ZkM(up i):kiD up .tuple (.tup i)=Ab:=rfl
@[simp]theorem ZkN(up):kiD up .tuple .non=Ad:=rfl
@[simp]theorem ZnV(up c k f):kiD up (.cls c) (.exc k f)=(up k).contains c:=rfl
@[simp]theorem ZmT(up k f):kiD up .verr (.exc k f)=Ab:=rfl
theorem P5{xs:Ac D}{i:Ah}{d:D}(h0:0<=i)(h:xs[i.toNat]?=Aa d):Du xs i=.ok d:=by
 unfold Du plD;obtain⟨h1,_⟩:=AW.mp h;rw[AE h0,AE (by omega)]
 dsimp only;rw[h]
section
variable(Z:Gam)(U:Rho)
@[simp]theorem Zsa:evSs Z U .nil=.next U:=rfl
noncomputable def FE(Z:Gam)(ss:Ss)(o:O):O:=o.seq λU'=>evSs Z U' ss
@[simp]theorem W7(s ss):evSs Z U (.cons s ss)=FE Z ss (evS Z U s):=rfl
@[simp]theorem ZvF(ss):FE Z ss (.next U)=evSs Z U ss:=rfl
@[simp]theorem ZxM(ss d b):FE Z ss (.ret d b)=.ret d b:=rfl
@[simp]theorem ZxQ(ss):FE Z ss (.brk U)=.brk U:=rfl
@[simp]theorem ZvG(ss):FE Z ss (.cont U)=.cont U:=rfl
@[simp]theorem ZxP(ss x):FE Z ss (.exn x U)=.exn x U:=rfl
@[simp]theorem ZxR(ss):FE Z ss .bad=.bad:=rfl
@[simp]theorem ZxO(ss)(c:Prop)[E9 c](a b:O):FE Z ss (if c then a else b)=if c then FE Z ss a else FE Z ss b:=by split<;>rfl
@[simp]theorem ZxN(o:O):FE Z .nil o=o:=by cases o<;>rfl
noncomputable def CN(Z:Gam)(t:Af)(body:Ss):D->Rho->O:=λx U'=>evSs Z (U'.set t (Aa (x,Ad))) body
noncomputable def whC(Z:Gam)(c:E):Rho->R Ai:=λU'=>(top U' c (evE Z U' c)).bind BE
noncomputable def whB(Z:Gam)(body:Ss):Rho->O:=λU'=>evSs Z U' body
noncomputable def Om(Z:Gam)(t:Af)(body:Ss)(U:Rho)(r:R (Ac D)):O:=O.of U r λxs=>Cd (CN Z t body) xs U
@[simp]theorem ZvI(t body xs):Om Z t body U (.ok xs)=Cd (CN Z t body) xs U:=rfl
@[simp]theorem Zse:evS Z U .pass=.next U:=rfl
@[simp]theorem ZvU(i e):evS Z U (.asg i Ad e)=O.of U (evE Z U e) λd=>.next (U.set i (Aa (d,Ad))):=rfl
@[simp]theorem Zsh(e):evS Z U (.expr e)=O.of U (evE Z U e) λ_=>.next U:=rfl
@[simp]theorem QX(e):evS Z U (.ret e)=O.of U (top U e (evE Z U e)) λd=>.ret d (Dy Z e||(match e with | .var i=>(match U[i]? with|some (Aa (_,o))=>o|_=>Ad)|_=>Ad)):=rfl
@[simp]theorem Zsc:evS Z U .retN=.ret .non Ad:=rfl
@[simp]theorem ZvQ(c a b):evS Z U (.ife c a b)=O.of U ((top U c (evE Z U c)).bind BE) λk=>if k=Ab then evSs Z U a else evSs Z U b:=rfl
@[simp]theorem Zsf(t it body):evS Z U (.fors t it body)=Om Z t body U (GQ Z U it):=rfl
noncomputable def HM(Z:Gam)(ts:Ac Af)(body:Ss):D->Rho->O:=λx U'=>O.of U' (DR ts x U') λU''=>evSs Z U'' body
noncomputable def Sr(Z:Gam)(ts:Ac Af)(body:Ss)(U:Rho)(r:R (Ac D)):O:=O.of U r λxs=>Cd (HM Z ts body) xs U
@[simp]theorem ZrY(t body xs):Sr Z t body U (.ok xs)=Cd (HM Z t body) xs U:=rfl
@[simp]theorem Zsg(t it body):evS Z U (.forT t it body)=Sr Z t body U (GQ Z U it):=rfl
noncomputable def IA(Z:Gam)(i:Af)(ts:Ac Af)(body:Ss):D->Rho->O:=λx U'=>if EC U' i=Ab then O.of U' (DR ts x U') λU''=>evSs Z U'' body else .bad
theorem Xg(i ts body):evS Z U (.forO i ts body)=O.of U (CS U i) λxs=>He i xs (Cd (IA Z i ts body) (Cj 0 xs) (U.set i (Aa (.non,Ab)))):=rfl
@[simp]theorem Zsj(ts e):evS Z U (.asgT ts e)=O.of U (evE Z U e) λd=>O.of U (Lz ts d U) λU'=>.next U':=rfl
theorem X6(i e):evS Z U (.asg i Ab e)=O.of U (evE Z U e) λd=>if Dy Z e=Ab then (match d with
      |.lst xs=>.next (U.set i (Aa (.lst xs,Ab)))
      |.dic xs=>.next (U.set i (Aa (.dic xs,Ab)))
      | _=>.bad) else .bad:=rfl
noncomputable def setF(U:Rho)(i:Af):D->O
 |.lst xs=>.next (U.set i (Aa (.lst xs,Ab)))
 |.dic xs=>.next (U.set i (Aa (.dic xs,Ab)))
 |_=>.bad
@[simp]theorem Zxd(i xs):setF U i (.lst xs)=.next (U.set i (Aa (.lst xs,Ab))):=rfl
@[simp]theorem Zxe(i xs):setF U i (.dic xs)=.next (U.set i (Aa (.dic xs,Ab))):=rfl
@[simp]theorem W8(i e):evS Z U (.asg i Ab e)=O.of U (evE Z U e) λd=>if Dy Z e=Ab then setF U i d else .bad:=by
 rw[X6]
 congr 1
@[simp]theorem ZvV(i e):evS Z U (.app i e)=O.of U (CS U i) λxs=>O.of U (evE Z U e) λd=>if BY (xs.length+1)=Ab then .next (U.set i (Aa (.lst (xs++[d]),Ab))) else .bad:=rfl
@[simp]theorem ZvR(i e):evS Z U (.ext i e)=O.of U (CS U i) λxs=>O.of U (evE Z U e) λd=>O.of U (NZ d) λys=>if BY (xs.length+ys.length)=Ab then .next (U.set i (Aa (.lst (xs++ys),Ab))) else .bad:=rfl
@[simp]theorem ZvP(i):evS Z U (.rev i)=O.of U (CS U i) λxs=>.next (U.set i (Aa (.lst xs.reverse,Ab))):=rfl
@[simp]theorem ZvS(i):evS Z U (.clr i)=O.of U (CS U i) λ_=>.next (U.set i (Aa (.lst [],Ab))):=rfl
@[simp]theorem ZrQ(U:Rho)(i)(xs):LD U i (.lst xs)=.next (U.set i (Aa (.lst xs,Ad))):=rfl
theorem Z_2(i):evS Z U (.rel i)=match U[i]? with
      |some (Aa (d,Ab))=>LD U i d
      |_=>.next U:=rfl
@[simp]theorem Xf(body c x h):evS Z U (.tryx body c x h)=match evSs Z U body with
      | .exn y U'=>if (Z.up y.c).contains c=Ab then (match evSs Z (U'.set x (Aa (.exc y.c y.fs,Ad))) h with
          |.next U''=>.next (U''.set x Ae)
          |.ret d f=>.ret d f
          | _=>.bad) else .bad
      |o=>o:=rfl
@[simp]theorem Zsb(body c x h c' h' els):evS Z U (.try2 body c x h c' h' els)=match evSs Z U body with
      |.exn y U'=>if (Z.up y.c).contains c=Ab then hdO x y U' (λr=>evSs Z r h) else if (Z.up y.c).contains c'=Ab then hdO x y U' (λr=>evSs Z r h') else .bad
      |.next U'=>evSs Z U' els
      |o=>o:=rfl
@[simp]theorem ZvO(c body):evS Z U (.whl c body)=HX (whC Z c) (whB Z body) N4 U:=rfl
@[simp]theorem Zsd(c as):evS Z U (.rais c as)=O.of U (noX (evA Z U as)) λxs=>O.of U (Z.xn c xs) λx=>.exn x U:=rfl
@[simp]theorem ZvT:evS Z U .brk=.brk U:=rfl
@[simp]theorem Zsi:evS Z U .cont=.cont U:=rfl
end
end Ov
namespace Ov
open PySem
theorem P6{body:D->Rho->O}(P:Rho->Prop):∀(xs:Ac D)(U:Rho),P U->(∀ x∈xs,∀ U,P U->∃ U',body x U=.next U'/\P U')->∃ U',Cd body xs U=.next U'/\P U'
 |[],U,h,_=>⟨U,rfl,h⟩
 |x::xs,U,h,k=>by
  obtain⟨U1,e1,h1⟩:=k x AB U h;obtain⟨U2,e2,h2⟩:=P6 P xs U1 h1 λy hy=>k y (Ax _ hy)
  exact⟨U2,by show (body x U).turn _=_;rw[e1];exact e2,h2⟩
theorem OR{body:D->Rho->O}(P:Af->Rho->Prop):∀(xs:Ac D)(n:Af)(U:Rho),P n U->(∀ i x,xs[i]?=Aa x->∀ U,P (n+i) U->∃ U',body x U=.next U'/\P (n+i+1) U')->∃ U',Cd body xs U=.next U'/\P (n+xs.length) U'
 |[],n,U,h,_=>⟨U,rfl,h⟩
 |x::xs,n,U,h,k=>by
  obtain⟨U1,e1,h1⟩:=k 0 x rfl U h;obtain⟨U2,e2,h2⟩:=OR P xs (n+1) U1 h1 λi y hy U hρ=>by
   have:=k (i+1) y (by simpa using hy) U (by rw[show n+(i+1)=n+1+i by omega];exact hρ)
   rw[show n+(i+1)=n+1+i by omega]at this
   exact this
  exact⟨U2,by show (body x U).turn _=_;rw[e1];exact e2,by rw[show n+(x::xs).length=n+1+xs.length by simp;omega];exact h2⟩
theorem Wz(h1:0<=lo)(h2:lo<1000000)(h3:0<=hi)(h4:hi<1000000):DJ lo hi=.ok (EB lo (hi-lo).toNat):=by
 unfold DJ;rw[AE (by omega)]
theorem Mi(h3:0<=hi)(h4:hi<1000000):DJ 0 hi=.ok (EB 0 hi.toNat):=by
 rw[Wz (by omega) (by omega) h3 h4,TJ]
theorem Xr(h:x∈EB lo n):∃ k:Af,k<n/\x=.int (lo+(k:Ah)):=by
 obtain⟨k,hk,e⟩:=Gf.mp h;exact⟨k,Cf.mp hk,e.symm⟩
theorem KJ(lo:Ah)(n:Af):(EB lo n).length=n:=by simp[EB]
theorem P3{i:Af}(h:(EB lo n)[i]?=Aa x):i<n/\x=.int (lo+(i:Ah)):=by
 have hl:=(AW.mp h).1;rw[KJ]at hl;unfold EB at h;rw[CJ,List.getElem?_range hl]at h;cases h;exact⟨hl,rfl⟩
noncomputable def Ss.take:Af->Ss->Ss
 |0,_=>.nil
 |_,.nil=>.nil
 |n+1,.cons s ss=>.cons s (ss.take n)
noncomputable def Ss.drop:Af->Ss->Ss
 |0,ss=>ss
 |_,.nil=>.nil
 |n+1,.cons _ ss=>ss.drop n
noncomputable def mkC(c:Af):Df:=⟨2,Ad,.cons (.ret (.mkob c (.call 910 (.cons (.var 0) (.cons (.var 1) .nil))))) .nil⟩
noncomputable def inC:Df:=⟨2,Ad,.cons (.ret (.tup (.cons (.var 0) (.cons (.call 17 (.cons (.var 0) (.cons (.var 1) .nil))) .nil)))) .nil⟩
end Ov
end
section
namespace Ov
noncomputable def xfD:Af->D->Ai
 |0,.int i=>decide (0<=i)&&decide (i<100)
 |n+1,.tup ds=>Co ds.length 8&&ds.all (xfD n)
 |_,_=>Ad
noncomputable def mkX(c:Af)(f:Ag):Ac D->R Ex
 |[d]=>if (xfD 1 d||xfD 2 d)=Ab then .ok ⟨c,[(f,d)]⟩ else .bad
 |_=>.bad
noncomputable def mkA(c:Af)(f:Ag):Ac D->R Ex
 |[d]=>if (xfD 0 d||(xfD 1 d||xfD 2 d))=Ab then .ok ⟨c,[(f,d)]⟩ else .bad
 |_=>.bad
end Ov
end
section
namespace OvC
open PySem Ov PyProof.Rows
variable{j:Ah}
noncomputable abbrev scr(ns:Ac Ah):D:=.lst (ns.map .int)
noncomputable abbrev sh(d:D):Sl:=Aa (d,Ad)
noncomputable abbrev si(i:Ah):Sl:=Aa (.int i,Ad)
theorem Ta{P:Af->Prop}(h0:P 0)(h1:P 1)(h2:P 2)(h3:P 3):P (j%4).toNat:=by
 have:(j%4).toNat=0\/(j%4).toNat=1\/(j%4).toNat=2\/(j%4).toNat=3:=by omega
 rcases this with e|e|e|e<;>rw[e]<;>assumption
def P4(p:Ah):Prop:=p=3\/p=5\/p=7\/p=11
noncomputable def pr4(j:Ah):Ah:=[3,5,7,11].getD (j%4).toNat 0
theorem dR(j):P4 (pr4 j):=by
 unfold pr4;exact Ta (P:=λj=>P4 ([3,5,7,11].getD j 0)) (.inl rfl) (.inr (.inl rfl)) (.inr (.inr (.inl rfl))) (.inr (.inr (.inr rfl)))
theorem P4.pos{p}(h:P4 p):0<p:=by rcases h with rfl|rfl|rfl|rfl<;>decide
theorem P4.lo{p}(h:P4 p):3<=p:=by rcases h with rfl|rfl|rfl|rfl<;>decide
theorem P4.hi{p}(h:P4 p):p<=11:=by rcases h with rfl|rfl|rfl|rfl<;>decide
theorem Xc(j:Ah):Du [.int 3,.int 5,.int 7,.int 11] (j%4)=.ok (.int (pr4 j)):=by
 have h:=Ta (P:=λj=>[D.int 3,D.int 5,D.int 7,D.int 11][j]?=Aa (D.int ([3,5,7,11].getD j 0))) (j:=j) rfl rfl rfl rfl
 exact P5 (by omega) h
theorem JR{i:Ah}(h0:-18446744073709551616<i)(h1:i<18446744073709551616):Ev i j=Ab:=by simp[Ev];left;exact⟨h0,h1⟩
theorem Nb{i:Ah}(h0:-18446744073709551616<j)(h1:j<18446744073709551616):Ev i j=Ab:=by simp[Ev];right;exact⟨h0,h1⟩
noncomputable def Nu:Df:=⟨2,Ad,(.cons (.ret (.bin .Mod (.var 1) (.var 0))) .nil)⟩
def Lg(Z:Gam):Prop:=∀ p n:Ah,0<p->Z.F 1 [.int p,.int n]=.ok (.int (n%p))
theorem dG(Z:Gam)(p n:Ah)(h:0<p):Nu.run Z [.int p,.int n]=.ok (.int (n%p)):=by simp[Nu,Df.run,B5,h]
end OvC
end
namespace Ov
open PySem PySem.Spec PyProof.Rows L2
variable{K:Fg}{mg:Ag->An Aj}{x:Ag}{A B:Ak->Prop}{H H' H1 H0:Hp}{a b l q:Ak}{xs ys vs:Ac V}{v:V}{d:D}{Rp Rq:Hp->V->D->Prop}{r:R D}{Q:VK}{X:Cx}{e c tg iter elt:Am}{U:Rho}{i n j k:Af}{Y:L2.St}{g:D->D->R D}{op:CH}{pI:Pn}{s:Ao}{its its2:Ac Aj}{items2:A3 Aj}{h h':AA}{u:Aj}{es ifs:Ac Am}{fs fi:Rho->R (Ac D)}{Q':An Ah->Hp->Prop}{p pos' p2 pos pos2 tpos:Az}{T:Cr}{α:Type}{D':Ends}{fc:Rho->R Ai}{body:Ac AC}{fbd:Rho->O}{as:D->Rho->R Rho}{up:Af->Ac Af}{prog:AF}{w:AS}{scope:BH}{env:BW}{cl:Ac (Ag×Ak)}{N':Ac Ag}{ts:Ac Af}{fp:Ac Ak}{tt:TT}{te:TE}{J:It}{wi:TI}{t:Ai}
noncomputable def LK:Af->Ag
 |0 => "Triple"
 |1 => "Point"
 |2 => "Line"
 |_ => ""
noncomputable def OC(K:Fg)(c:Af):An Ak:=if c<3 then (match A5 K AN (LK c) with
  |some (Aa (.ref C))=>Aa C
  | _=>Ae) else Ae
noncomputable def FD:Ac (Ag×Af×Ag):=[("0.told",0, "told"),("1.told",1, "told"),("2.told",2, "told"),("0.shown",0, "shown"),("1.shown",1, "shown"),("2.shown",2, "shown")]
noncomputable def GN(K:Fg)(mg:Ag->An Aj)(x:Ag):An Aj:=match FD.lookup x with
  |some (c,m)=>(OC K c).bind λC=>(Ar K (.ref C) m).join
  |none=>mg x
theorem MQ{v:An Aj}(h:GN K mg x=v)(e:FD.lookup x=Ae):mg x=v:=by
 unfold GN at h;rw[e]at h;exact h
theorem Xs{m:Ag}{c:Af}{C:Ak}{v:Aj}(h:GN K mg x=Aa v)(e:FD.lookup x=Aa (c,m))(hC:OC K c=Aa C):Ar K (.ref C) m=Aa (Aa v):=by
 unfold GN at h;rw[e]at h;dsimp only at h;rw[hC]at h;have h':(Ar K (.ref C) m).join=Aa v:=h;cases q:Ar K (.ref C) m with
 |none=>rw[q]at h';cases h'
 |some u=>rw[q]at h';have:u=Aa v:=h';rw[this]
abbrev ClA:=Af->An Ak
variable{CL:ClA}
def KL(K:Fg)(a:Ak)(xs:Ac V):Prop:=∃(o:Cv)(its:A3 Aj)(n:Af),K.lookup a=Aa o/\o.cls=.type "list"/\o.dict=Ae/\o.data=.seq its n/\its.size<=sizeLine/\AX xs its.toList
def KT(K:Fg)(a:Ak)(xs:Ac V):Prop:=∃(o:Cv)(its:A3 Aj)(n:Af),K.lookup a=Aa o/\o.cls=.type "tuple"/\o.data=.seq its n/\its.size<=sizeLine/\AX xs its.toList
section
variable(K:Fg)(CL:ClA)(H:Hp)(A:Ak->Prop)
mutual
def Rep:V->D->Prop
 |v,.non=>v=.non
 |v,.bl b=>v=.bl b
 |v,.int i=>v=.int i
 |v,.str x=>v=.str x
 |v,.tup ds=>∃ a xs,v=.ref a/\(¬ A a\/KT K a xs)/\SqT K H a xs/\Reps xs ds
 |v,.lst ds=>∃ a xs,v=.ref a/\(¬ A a\/KL K a xs)/\SqL K H a xs/\Reps xs ds
 |v,.obj c fs=>∃ a C dx vs,v=.ref a/\¬ A a/\OC K c=Aa C/\H a=Aa (.ins C dx vs)/\Repf vs fs
 |_,.dic _=>AV
 |v,.exc c fs=>∃ a C φ,v=.ref a/\¬ A a/\CL c=Aa C/\H a=Aa (.ext φ)/\(∀ h,φ h->∃ o,h.get? a=Aa o/\o.cls=.ref C)/\(fs=[]\/∃ dx vs,¬ A dx/\H dx=Aa (.xd vs)/\Repf vs fs/\∀ h,φ h->∃ o,h.get? a=Aa o/\o.dict=Aa dx/\∃ us,o.data=.fields us)
def Reps:Ac V->Ac D->Prop
 |[],[]=>Gp
 |v::vs,d::ds=>Rep v d/\Reps vs ds
 |_,_=>AV
def Repf:Ac (Ag×V)->Ac (Ag×D)->Prop
 |[],[]=>Gp
 |v::vs,d::ds=>Repp v d/\Repf vs ds
 |_,_=>AV
def Repp:Ag×V->Ag×D->Prop
 |v,(n,d)=>v.1=n/\Rep v.2 d
end
def B6(v:V)(d:D):Prop:=Rep K CL H A v d\/∃ a xs ds,v=.ref a/\d=.lst ds/\H a=Aa (.lst xs)/\Reps K CL H A xs ds
end
def Kp(A:Ak->Prop)(H H':Hp):Prop:=∀ b o,H b=Aa o->¬ A b->H' b=Aa o
def AOk(H:Hp)(A:Ak->Prop):Prop:=∀ a,A a->∃ xs,H a=Aa (.lst xs)
theorem Kp.of(h:Aw H H'):Kp A H H':=λb o e _=>h b o e
theorem AOk.same(h:AOk H A)(s:Aw H H'):AOk H' A:=λa ha=>let ⟨xs,e⟩:=h a ha;⟨xs,s _ _ e⟩
theorem AOk.new{p:Ak}(h:AOk H A)(e:H p=Ae):¬ A p:=λha=>by
 obtain⟨xs,q⟩:=h p ha;rw[e]at q;cases q
section
variable{K:Fg}{CL:ClA}{H H':Hp}{A B:Ak->Prop}
theorem R1{u:HO}(k:Kp A H H')(na:¬ A a)(h:Rd H a u):Rd H' a u:=by
 rcases h with h|⟨o,h⟩
 .exact .inl (k _ _ h na)
 .exact .inr ⟨o,k _ _ h na⟩
theorem K9(k:Kp A H H')(na:¬ A a\/KL K a xs)(h:SqL K H a xs):SqL K H' a xs:=na.elim (λna=>h.imp (R1 k na) id) .inr
theorem K8(k:Kp A H H')(na:¬ A a\/KT K a xs)(h:SqT K H a xs):SqT K H' a xs:=na.elim (λna=>h.imp (R1 k na) id) .inr
mutual
theorem Rep.kp(k:Kp A H H'):∀{v:V}(d:D),Rep K CL H A v d->Rep K CL H' A v d
 |_,.non,h=>h
 |_,.bl _,h=>h
 |_,.int _,h=>h
 |_,.str _,h=>h
 |_,.dic _,h=>h.elim
 |_,.tup ds,h=>by
  obtain⟨a,xs,e,na,s,r⟩:=h;exact⟨a,xs,e,na,by first|exact K8 k na s|exact K9 k na s,Reps.kp k ds r⟩
 |_,.lst ds,h=>by
  obtain⟨a,xs,e,na,s,r⟩:=h;exact⟨a,xs,e,na,by first|exact K8 k na s|exact K9 k na s,Reps.kp k ds r⟩
 |_,.obj c fs,h=>by
  obtain⟨a,C,dx,vs,e,na,c,s,r⟩:=h;exact⟨a,C,dx,vs,e,na,c,k _ _ s na,Repf.kp k fs r⟩
 |_,.exc c fs,h=>by
  obtain⟨a,C,φ,e,na,c,s,p,q⟩:=h;refine⟨a,C,φ,e,na,c,k _ _ s na,p,q.imp id ?_⟩;rintro⟨dx,vs,nx,s2,r,z⟩;exact⟨dx,vs,nx,k _ _ s2 nx,Repf.kp k fs r,z⟩
theorem Reps.kp(k:Kp A H H'):∀{vs:Ac V}(ds:Ac D),Reps K CL H A vs ds->Reps K CL H' A vs ds
 |[],[],h=>h
 |_::_,d::ds,h=>⟨Rep.kp k d h.1,Reps.kp k ds h.2⟩
 |[],_::_,h=>h.elim
 |_::_,[],h=>h.elim
theorem Repf.kp(k:Kp A H H'):∀{vs:Ac (Ag×V)}(ds:Ac (Ag×D)),Repf K CL H A vs ds->Repf K CL H' A vs ds
 |[],[],h=>h
 |_::_,d::ds,h=>⟨Repp.kp k d h.1,Repf.kp k ds h.2⟩
 |[],_::_,h=>h.elim
 |_::_,[],h=>h.elim
theorem Repp.kp(k:Kp A H H'):∀{v:Ag×V}(d:Ag×D),Repp K CL H A v d->Repp K CL H' A v d
 |_,(_,d),h=>⟨h.1,Rep.kp k d h.2⟩
end
mutual
theorem Rep.sub(k:∀ a,B a->A a):∀{v:V}(d:D),Rep K CL H A v d->Rep K CL H B v d
 |_,.non,h=>h
 |_,.bl _,h=>h
 |_,.int _,h=>h
 |_,.str _,h=>h
 |_,.dic _,h=>h.elim
 |_,.tup ds,h=>by
  obtain⟨a,xs,e,na,s,r⟩:=h;exact⟨a,xs,e,na.imp (λna z=>na (k _ z)) id,s,Reps.sub k ds r⟩
 |_,.lst ds,h=>by
  obtain⟨a,xs,e,na,s,r⟩:=h;exact⟨a,xs,e,na.imp (λna z=>na (k _ z)) id,s,Reps.sub k ds r⟩
 |_,.obj c fs,h=>by
  obtain⟨a,C,dx,vs,e,na,c,s,r⟩:=h;exact⟨a,C,dx,vs,e,λz=>na (k _ z),c,s,Repf.sub k fs r⟩
 |_,.exc c fs,h=>by
  obtain⟨a,C,φ,e,na,c,s,p,q⟩:=h;refine⟨a,C,φ,e,λz=>na (k _ z),c,s,p,q.imp id ?_⟩
  rintro⟨dx,vs,nx,s2,r,z⟩;exact⟨dx,vs,λz=>nx (k _ z),s2,Repf.sub k fs r,z⟩
theorem Reps.sub(k:∀ a,B a->A a):∀{vs:Ac V}(ds:Ac D),Reps K CL H A vs ds->Reps K CL H B vs ds
 |[],[],h=>h
 |_::_,d::ds,h=>⟨Rep.sub k d h.1,Reps.sub k ds h.2⟩
 |[],_::_,h=>h.elim
 |_::_,[],h=>h.elim
theorem Repf.sub(k:∀ a,B a->A a):∀{vs:Ac (Ag×V)}(ds:Ac (Ag×D)),Repf K CL H A vs ds->Repf K CL H B vs ds
 |[],[],h=>h
 |_::_,d::ds,h=>⟨Repp.sub k d h.1,Repf.sub k ds h.2⟩
 |[],_::_,h=>h.elim
 |_::_,[],h=>h.elim
theorem Repp.sub(k:∀ a,B a->A a):∀{v:Ag×V}(d:Ag×D),Repp K CL H A v d->Repp K CL H B v d
 |_,(_,d),h=>⟨h.1,Rep.sub k d h.2⟩
end
mutual
theorem Rep.wide(hp:∀ a,B a->A a\/H a=Ae):∀{v:V}(d:D),Rep K CL H A v d->Rep K CL H B v d
 |_,.non,h=>h
 |_,.bl _,h=>h
 |_,.int _,h=>h
 |_,.str _,h=>h
 |_,.dic _,h=>h.elim
 |_,.tup ds,h=>by
  obtain⟨a,xs,e,na,s,r⟩:=h;refine⟨a,xs,e,?_,s,Reps.wide hp ds r⟩;rcases s with s|s
  .refine na.imp (λna z=>(hp _ z).elim na λe=>?_) id
   rcases s with s|⟨o,s⟩<;>rw[e]at s<;>cases s
  .exact .inr s
 |_,.lst ds,h=>by
  obtain⟨a,xs,e,na,s,r⟩:=h;refine⟨a,xs,e,?_,s,Reps.wide hp ds r⟩;rcases s with s|s
  .refine na.imp (λna z=>(hp _ z).elim na λe=>?_) id
   rcases s with s|⟨o,s⟩<;>rw[e]at s<;>cases s
  .exact .inr s
 |_,.obj c fs,h=>by
  obtain⟨a,C,dx,vs,e,na,c,s,r⟩:=h;exact⟨a,C,dx,vs,e,(λz=>(hp _ z).elim na λe=>by rw[e]at s;cases s),c,s,Repf.wide hp fs r⟩
 |_,.exc c fs,h=>by
  obtain⟨a,C,φ,e,na,c,s,p,q⟩:=h;refine⟨a,C,φ,e,(λz=>(hp _ z).elim na λe=>by rw[e]at s;cases s),c,s,p,q.imp id ?_⟩
  rintro⟨dx,vs,nx,s2,r,z⟩;exact⟨dx,vs,(λz=>(hp _ z).elim nx λe=>by rw[e]at s2;cases s2),s2,Repf.wide hp fs r,z⟩
theorem Reps.wide(hp:∀ a,B a->A a\/H a=Ae):∀{vs:Ac V}(ds:Ac D),Reps K CL H A vs ds->Reps K CL H B vs ds
 |[],[],h=>h
 |_::_,d::ds,h=>⟨Rep.wide hp d h.1,Reps.wide hp ds h.2⟩
 |[],_::_,h=>h.elim
 |_::_,[],h=>h.elim
theorem Repf.wide(hp:∀ a,B a->A a\/H a=Ae):∀{vs:Ac (Ag×V)}(ds:Ac (Ag×D)),Repf K CL H A vs ds->Repf K CL H B vs ds
 |[],[],h=>h
 |_::_,d::ds,h=>⟨Repp.wide hp d h.1,Repf.wide hp ds h.2⟩
 |[],_::_,h=>h.elim
 |_::_,[],h=>h.elim
theorem Repp.wide(hp:∀ a,B a->A a\/H a=Ae):∀{v:Ag×V}(d:Ag×D),Repp K CL H A v d->Repp K CL H B v d
 |_,(_,d),h=>⟨h.1,Rep.wide hp d h.2⟩
end
theorem Rep.same(s:Aw H H')(h:Rep K CL H A v d):Rep K CL H' A v d:=Rep.kp (Kp.of s) d h
theorem Reps.same{v:Ac V}{d:Ac D}(s:Aw H H')(h:Reps K CL H A v d):Reps K CL H' A v d:=Reps.kp (Kp.of s) d h
theorem B6.same{v:V}{d:D}(s:Aw H H')(h:B6 K CL H A v d):B6 K CL H' A v d:=by
 rcases h with h|⟨a,xs,ds,e,e2,q,r⟩
 .exact .inl (h.same s)
 .exact .inr ⟨a,xs,ds,e,e2,s _ _ q,r.same s⟩
theorem Reps.length:∀{vs:Ac V}{ds:Ac D},Reps K CL H A vs ds->vs.length=ds.length
 |[],[],_=>rfl
 |_::_,_::_,h=>congrArg (· + 1) (Reps.length h.2)
 |[],_::_,h=>h.elim
 |_::_,[],h=>h.elim
theorem Reps.append:∀{vs ws:Ac V}{ds es:Ac D},Reps K CL H A vs ds->Reps K CL H A ws es->Reps K CL H A (vs++ws) (ds++es)
 |[],_,[],_,_,h=>h
 |_::_,_,_::_,_,h,g=>⟨h.1,Reps.append h.2 g⟩
 |[],_,_::_,_,h,_=>h.elim
 |_::_,_,[],_,h,_=>h.elim
theorem Reps.get:∀{vs:Ac V}{ds:Ac D}{i:Af}{d:D},Reps K CL H A vs ds->ds[i]?=Aa d->∃ v,vs[i]?=Aa v/\Rep K CL H A v d
 |[],[],_,_,_,e=>by simp at e
 |v::_,_::_,0,_,h,e=>by simp at e;subst e;exact⟨v,rfl,h.1⟩
 |_::_,_::_,i+1,_,h,e=>by
  obtain⟨v,q,r⟩:=Reps.get (i:=i) h.2 (by simpa using e)
  exact⟨v,by simpa using q,r⟩
 |[],_::_,_,_,h,_=>h.elim
 |_::_,[],_,_,h,_=>h.elim
theorem Reps.take:∀{vs:Ac V}{ds:Ac D}(n:Af),Reps K CL H A vs ds->Reps K CL H A (vs.take n) (ds.take n)
 |_,_,0,_=>trivial
 |[],[],_+1,_=>trivial
 |_::_,_::_,n+1,h=>⟨h.1,Reps.take n h.2⟩
 |[],_::_,_+1,h=>h.elim
 |_::_,[],_+1,h=>h.elim
theorem Reps.drop:∀{vs:Ac V}{ds:Ac D}(n:Af),Reps K CL H A vs ds->Reps K CL H A (vs.drop n) (ds.drop n)
 |_,_,0,h=>h
 |[],[],_+1,_=>trivial
 |_::_,_::_,n+1,h=>Reps.drop n h.2
 |[],_::_,_+1,h=>h.elim
 |_::_,[],_+1,h=>h.elim
theorem Reps.set{x:V}{e:D}(r:Rep K CL H A x e):∀{vs:Ac V}{ds:Ac D}(n:Af),Reps K CL H A vs ds->Reps K CL H A (vs.set n x) (ds.set n e)
 |[],[],_,_=>trivial
 |_::_,_::_,0,h=>⟨r,h.2⟩
 |_::_,_::_,n+1,h=>⟨h.1,Reps.set r n h.2⟩
 |[],_::_,_,h=>h.elim
 |_::_,[],_,h=>h.elim
end
structure Good (K:Fg) (CL:ClA) (A:Ak->Prop) (U:Rho) (Y:L2.St) (H:Hp):Prop where
 sh:∀(i:Af)(d:D),U[i]?=Aa (Aa (d,Ad))->∃ v,Y[i]?=Aa (Aa v)/\Rep K CL H A v d
 ow:∀(i:Af)(d:D),U[i]?=Aa (Aa (d,Ab))->d≠.non->∃ a xs ds,Y[i]?=Aa (Aa (.ref a))/\d=.lst ds/\A a/\H a=Aa (.lst xs)/\Reps K CL H A xs ds
 len:U.length=Y.length
theorem Good.same{K:Fg}{CL:ClA}{A:Ak->Prop}{U:Rho}{Y:L2.St}{H H':Hp}(g:Good K CL A U Y H)(s:Aw H H'):Good K CL A U Y H':=
 ⟨λi d e=>let ⟨v,q,r⟩:=g.sh i d e;⟨v,q,r.same s⟩,λi d e hn=>let ⟨a,xs,ds,q,z,na,h,r⟩:=g.ow i d e hn;⟨a,xs,ds,q,z,na,s _ _ h,r.same s⟩,g.len⟩
abbrev XW:=Ex->Hp->Prop
variable{W:XW}
def AT(Rp:Hp->V->D->Prop)(W:XW)(H:Hp)(r:R D)(Q:VK):Prop:=match r with
  |.ok d=>∀ v H',Aw H H'->Rp H' v d->Q v H'
  |.exn x=>∀ H',Aw H H'->W x H'
  |.bad=>AV
def Gu(Rp:Hp->Ac V->Ac D->Prop)(W:XW)(H:Hp)(r:R (Ac D))(Q:Ac V->Hp->Prop):Prop:=match r with
  |.ok d=>∀ v H',Aw H H'->Rp H' v d->Q v H'
  |.exn x=>∀ H',Aw H H'->W x H'
  |.bad=>AV
def Ct(W:XW)(H:Hp)(r:R Ai)(Q:Ai->Hp->Prop):Prop:=match r with
  |.ok b=>∀ H',Aw H H'->Q b H'
  |.exn x=>∀ H',Aw H H'->W x H'
  |.bad=>AV
theorem AT.same(s:Aw H H')(h:AT Rp W H r Q):AT Rp W H' r Q:=by
 cases r with
 |ok d=>exact λv H2 s2 q=>h v H2 (s.trans s2) q
 |exn x=>exact λH2 s2=>h H2 (s.trans s2)
 |bad=>exact h
theorem Ct.same{r:R Ai}{Q:Ai->Hp->Prop}(s:Aw H H')(h:Ct W H r Q):Ct W H' r Q:=by
 cases r with
 |ok d=>exact λH2 s2=>h H2 (s.trans s2)
 |exn x=>exact λH2 s2=>h H2 (s.trans s2)
 |bad=>exact h
theorem AT.bind{f:D->R D}{Q':VK}(h:AT Rq W H (r.bind f) Q)(k:∀ d v H',r=.ok d->Aw H H'->Rp H' v d->AT Rq W H' (f d) Q->Q' v H'):AT Rp W H r Q':=by
 cases r with
 |ok d=>exact λv H2 s2 q=>k d v H2 rfl s2 q (AT.same s2 h)
 |exn x=>exact h
 |bad=>exact h
section
variable(X:Cx)(CL:ClA)(W:XW)
def SE(e:Am)(f:Rho->R D):Prop:=∀ A,PE X e (λY H Q=>AOk H A/\∃ U,Good X.K CL A U Y H/\AT (λH=>Rep X.K CL H A) W H (f U) Q)
def ST(e:Am)(f:Rho->R D):Prop:=∀ A,PE X e (λY H Q=>AOk H A/\∃ U,Good X.K CL A U Y H/\AT (λH=>B6 X.K CL H A) W H (f U) Q)
def SB(e:Am)(f:Rho->R Ai):Prop:=∀ A,PT X e (λY H Q=>AOk H A/\∃ U,Good X.K CL A U Y H/\Ct W H (f U) Q)
def SA(es:Ac Am)(f:Rho->R (Ac D)):Prop:=∀ A,PA X es (λY H Q=>AOk H A/\∃ U,Good X.K CL A U Y H/\Gu (λH=>Reps X.K CL H A) W H (f U) Q)
end
theorem PE.weak{t t':TE}(h:PE X e t)(k:∀ Y H Q,t' Y H Q->t Y H Q):PE X e t':=λpI s Y H Q I q=>h pI s Y H Q I (k _ _ _ q)
theorem PT.weak{t t':TT}(h:PT X e t)(k:∀ Y H Q,t' Y H Q->t Y H Q):PT X e t':=λpI s Y H Q I q=>h pI s Y H Q I (k _ _ _ q)
theorem PA.weak{e:Ac Am}{t t':TA}(h:PA X e t)(k:∀ Y H Q,t' Y H Q->t Y H Q):PA X e t':=λpos pI s Y H Q I q=>h pos pI s Y H Q I (k _ _ _ q)
noncomputable def OpD(X:Cx)(CL:ClA)(W:XW)(f:Aj->Aj->Ff Aj)(g:D->D->R D):Prop:=
 ∀ A,OpR X f (λx y H Q=>AOk H A/\∃ dx dy,B6 X.K CL H A x dx/\B6 X.K CL H A y dy/\AT (λH=>Rep X.K CL H A) W H (g dx dy) Q)
section
variable{X:Cx}{CL:ClA}{W:XW}{a b c:Am}{fa fb fc:Rho->R D}{pos:Az}
theorem SE.st(h:SE X CL W a fa):ST X CL W a fa:=λA=>PE.weak (h A) λY H Q ⟨hA,U,g,p⟩=>⟨hA,U,g,by
 cases e:fa U with
 |ok d=>rw[e]at p;exact λv H' s r=>p v H' s (.inl r)
 |exn x=>rw[e]at p;exact p
 | bad=>rw[e]at p;exact p⟩
theorem SE.congr{f g:Rho->R D}(h:SE X CL W a f)(e:∀ U,g U=f U):SE X CL W a g:=λA=>PE.weak (h A) λY H Q ⟨hA,U,q,p⟩=>⟨hA,U,q,by rw[<-e];exact p⟩
theorem Ls(h:PE X a (tC v))(r:∀ H A,AOk H A->Rep X.K CL H A v d):SE X CL W a (λ_=>.ok d):=λA=>PE.weak h λY H Q ⟨hA,U,g,p⟩=>p v H (Aw.refl H) (r H A hA)
theorem bF{i j}:SE X CL W (.Constant (.int i) j pos) (λ_=>.ok (.int i)):=Ls eA λ_ _ _=>rfl
theorem RX{b j}:SE X CL W (.Constant (.bool b) j pos) (λ_=>.ok (.bl b)):=Ls iO λ_ _ _=>rfl
theorem aY{j}:SE X CL W (.Constant .none j pos) (λ_=>.ok .non):=Ls dY λ_ _ _=>rfl
theorem La{x j}:SE X CL W (.Constant (.str x) j pos) (λ_=>.ok (.str x)):=Ls Lc λ_ _ _=>rfl
theorem Y_0(h:EU U i=.ok d):U[i]?=Aa (Aa (d,Ad)):=by
 unfold EU at h;split at h
 .rename_i e;cases h;exact e
 .cases h
theorem Qu(h:Dj U i=.ok d):∃ o,U[i]?=Aa (Aa (d,o))/\(o=Ab->d≠.non):=by
 unfold Dj at h;split at h
 .rename_i e;cases h;exact⟨_,e,λz=>nomatch z⟩
 .rename_i x e;cases x with
  |lst xs=>cases h;exact⟨_,e,λ_ z=>nomatch z⟩
  |_=>cases h
 .cases h
theorem WN{x:Ex}(h:EU U i=.exn x):AV:=by
 unfold EU at h;split at h<;>cases h
theorem KM{x:Ex}(h:Dj U i=.exn x):AV:=by
 unfold Dj at h;split at h
 .cases h
 .rename_i y _;cases y<;>cases h
 .cases h
theorem aW(h:PE X a (DZ i)):SE X CL W a (λU=>EU U i):=λA=>PE.weak h λY H Q ⟨hA,U,g,p⟩=>by
 dsimp only at p;cases e:EU U i with
 |ok d=>
  rw[e]at p;obtain⟨v,q,r⟩:=g.sh i d (Y_0 e);exact⟨v,q,p v H (Aw.refl H) r⟩
 |exn x=>exact(WN e).elim
 |bad=>rw[e]at p;exact p.elim
theorem Jd(h:PE X a (DZ i)):ST X CL W a (λU=>Dj U i):=λA=>PE.weak h λY H Q ⟨hA,U,g,p⟩=>by
 dsimp only at p;cases e:Dj U i with
 |ok d=>
  rw[e]at p;obtain⟨o,e,hn⟩:=Qu e;cases o with
  |false=>
   obtain⟨v,q,r⟩:=g.sh i d e;exact⟨v,q,p v H (Aw.refl H) (.inl r)⟩
  |true=>
   obtain⟨x,xs,ds,q,rfl,ha,hh,r⟩:=g.ow i d e (hn rfl);exact⟨_,q,p _ H (Aw.refl H) (.inr ⟨x,xs,ds,rfl,rfl,hh,r⟩)⟩
 |exn x=>exact(KM e).elim
 |bad=>rw[e]at p;exact p.elim
theorem op2(h:AOk H A/\∃ U,Good X.K CL A U Y H/\AT Rq W H ((fa U).bind λx=>(fb U).bind λy=>g x y) Q):AOk H A/\∃ U,Good X.K CL A U Y H/\AT (λH=>B6 X.K CL H A) W H (fa U) (λx H1=>AOk H1 A/\∃ U,Good X.K CL A U Y H1/\AT (λH=>B6 X.K CL H A) W H1 (fb U) (λy H2=>AOk H2 A/\∃ dx dy,B6 X.K CL H2 A x dx/\B6 X.K CL H2 A y dy/\AT Rq W H2 (g dx dy) Q)):=by
 obtain⟨hA,U,gd,p⟩:=h;refine⟨hA,U,gd,AT.bind p λdx x H1 _ s1 r1 p1=>⟨hA.same s1,U,gd.same s1,AT.bind p1 λdy y H2 _ s2 r2 p2=>⟨(hA.same s1).same s2,dx,dy,r1.same s2,r2,p2⟩⟩⟩
theorem Nt{op:Ep}(ho:OpD X CL W (BJ op) g)(ha:ST X CL W a fa)(hb:ST X CL W b fb):SE X CL W (.BinOp a op b pos) (λU=>(fa U).bind λx=>(fb U).bind λy=>g x y):=
 λA=>PE.weak (Sh (ho A) (ha A) (hb A)) λY H Q h=>op2 h
theorem bH(ho:OpD X CL W (Cm op) g)(ha:ST X CL W a fa)(hb:ST X CL W b fb)(hm:FU op b=Ad):SE X CL W (.Compare a [op] [b] pos) (λU=>(fa U).bind λx=>(fb U).bind λy=>g x y):=
 λA=>PE.weak (ZD (ho A) (ha A) (hb A) hm) λY H Q h=>op2 h
theorem B6.int_of{i:Ah}(h:B6 K CL H A v (.int i)):v=.int i:=by
 rcases h with h|⟨_,_,_,_,e,_⟩
 .exact h
 .cases e
theorem B6.str_of{i:Ag}(h:B6 K CL H A v (.str i)):v=.str i:=by
 rcases h with h|⟨_,_,_,_,e,_⟩
 .exact h
 .cases e
theorem B6.bl_of{i:Ai}(h:B6 K CL H A v (.bl i)):v=.bl i:=by
 rcases h with h|⟨_,_,_,_,e,_⟩
 .exact h
 .cases e
theorem B6.non_of(h:B6 K CL H A v .non):v=.non:=by
 rcases h with h|⟨_,_,_,_,e,_⟩
 .exact h
 .cases e
theorem B6.lst_of{ds:Ac D}(h:B6 K CL H A v (.lst ds)):∃ a xs,v=.ref a/\SqL K H a xs/\Reps K CL H A xs ds:=by
 rcases h with ⟨a,xs,e,_,s,r⟩|⟨a,xs,es,rfl,e,s,r⟩
 .exact⟨a,xs,e,s,r⟩
 .cases e;exact⟨a,xs,rfl,SqL.of s,r⟩
theorem B6.tup_of{ds:Ac D}(h:B6 K CL H A v (.tup ds)):∃ a xs,v=.ref a/\(¬ A a\/KT K a xs)/\SqT K H a xs/\Reps K CL H A xs ds:=by
 rcases h with ⟨a,xs,e,n,s,r⟩|⟨_,_,_,_,e,_⟩
 .exact⟨a,xs,e,n,s,r⟩
 .cases e
theorem Zl{i j:Ah}(h:Ev i j=Ab):LV i j:=by
 unfold Ev at h;simp only[BK,Al,AM]at h;unfold LV;omega
theorem QJ{a:Ah}(h:a.natAbs<2 ^ 2000):Up a<=2 ^ 20:=by
 unfold Up;split
 .omega
 .rename_i hz;have h0:a.natAbs≠0:=by intro z;exact hz (by rw[Int.natAbs_eq_zero.mp z];rfl)
  have:=(Nat.log2_lt h0).mpr h;omega
theorem Zk{i j:Ah}(h:(Ev i j||Ly i j)=Ab):JH i j:=by
 rcases Bool.or_eq_true_iff.mp h with h|h
 .exact(Zl h).ok
 .unfold Ly at h;rw[Al,AM,AM]at h;exact .of_bits (QJ h.1) (QJ h.2)
theorem ZK:OpR X (BJ .Mult) (rI JH λi j=>.int (i*j)):=opI λ_ _ _ _ _ _ _ hc q=>mul_int q hc
theorem Ie(h:BY n=Ab):n<=sizeLine:=by
 unfold BY at h;rw[BV];have:=BS h;omega
theorem Qg{p:Ak}{ds:Ac D}(hA:AOk H A)(hp:H p=Ae)(r:Reps K CL H A xs ds):Rep K CL (upd H p (.lst xs)) A (.ref p) (.lst ds):=
 ⟨p,xs,rfl,.inl (hA.new hp),SqL.of Di,r.same λb o e=>by rw[A6 (ER e hp)];exact e⟩
theorem Jb{p:Ak}{ds:Ac D}(hA:AOk H A)(hp:H p=Ae)(r:Reps K CL H A xs ds):Rep K CL (upd H p (.tup xs)) A (.ref p) (.tup ds):=
 ⟨p,xs,rfl,.inl (hA.new hp),SqT.of Di,r.same λb o e=>by rw[A6 (ER e hp)];exact e⟩
theorem Eb{p:Ak}(h:H p=Ae)(o:HO):Aw H (upd H p o):=λb u q=>by rw[A6 (ER q h)];exact q
def iH(K:Fg):R2:=λx y H Q=>∃ l b xs zs,x=.ref l/\y=.ref b/\SqL K H l xs/\SqL K H b zs/\xs.length+zs.length<=sizeLine/\∀ p,H p=Ae->Q (.ref p) (upd H p (.lst (xs++zs)))
end
section
variable{X:Cx}{CL:ClA}{W:XW}
theorem Qq:OpR X (BJ .Add) (iH X.K):=by
 intro pI s Y H x y v u Q I rx ry h;obtain⟨l,b,xs,zs,rfl,rfl,hH,hB,hz,q⟩:=h;cases rx;cases ry;obtain⟨its,r,⟨o,n,e,c,dd,dt⟩,z⟩:=I.list hH;obtain⟨its2,r2,⟨o2,n2,e2,c2,dd2,dt2⟩,z2⟩:=I.list hB;have hl:=r.length;have hl2:=r2.length;obtain⟨cls,dd0,data,sl⟩:=o;obtain⟨cls2,dd02,data2,sl2⟩:=o2;simp only at c dd dt c2 dd2 dt2;subst c dd dt c2 dd2 dt2;have ea:its.toArray++its2.toArray=(its++its2).toArray:=by simp
 refine HB ⟨_,e,rfl⟩ ⟨_,e2,rfl⟩ noFill_list_add seq_list_add PySem.F.slot_list_add PySem.F.entry_list_add (PySem.F.args_list_add_2 _ _) (list_addW l b its.toArray its2.toArray n n2 Ae Ae sl sl2 (by simp;omega)) ⟨e,e2,?_⟩
 rw[ea];exact⟨.ref _,_,I.lnew (t':=s.toks) (r.append r2) (by rw[BN];omega),rfl,q _ I.fresh⟩
theorem Qp:OpD X CL W (BJ .Add) (CF .Add):=by
 intro A pI s Y H x y v u Q I rx ry ⟨hA,dx,dy,hx,hy,p⟩;cases dx with
 |int i=>
  cases dy with
  |int j=>
   have ex:=hx.int_of;have ey:=hy.int_of
   subst ex ey;exact cO pI s Y H _ _ v u Q I rx ry ⟨i,j,rfl,rfl,p _ H (Aw.refl H) rfl⟩
  |_=>exact p.elim
 |str i=>
  cases dy with
  |str j=>
   have ex:=hx.str_of;have ey:=hy.str_of
   subst ex ey;simp only[GE]at p;split at p
   .rename_i h;exact Wh pI s Y H _ _ v u Q I rx ry ⟨i,j,rfl,rfl,Ie h,p _ H (Aw.refl H) rfl⟩
   .exact p.elim
  |_=>exact p.elim
 |lst ds=>
  cases dy with
  |lst es=>
   obtain⟨a,xs,rfl,s1,r1⟩:=hx.lst_of;obtain⟨b,ys,rfl,s2,r2⟩:=hy.lst_of;simp only[RP]at p;split at p
   .rename_i h;refine Qq pI s Y H _ _ v u Q I rx ry ⟨a,b,xs,ys,rfl,rfl,s1,s2,by rw[r1.length,r2.length];exact Ie h,λq hq=>?_⟩
    exact p _ _ (Eb hq _) (Qg hA hq (r1.append r2))
   .exact p.elim
  |_=>exact p.elim
 |tup ds=>
  cases dy with
  |tup es=>
   obtain⟨a,xs,rfl,na1,s1,r1⟩:=hx.tup_of;obtain⟨b,ys,rfl,_,s2,r2⟩:=hy.tup_of;simp only[RO]at p;split at p
   .rename_i h;simp only[Al]at h;refine ZM pI s Y H _ _ v u Q I rx ry ⟨a,b,xs,ys,rfl,rfl,s1,s2,?_,by rw[r1.length,r2.length];exact Ie h.2,λhy0=>?_,λ_ q hq=>?_⟩
    .rintro rfl;cases ds with
     |nil=>cases h.1
     |cons _ _=>exact r1.elim
    .subst hy0;cases es with
     |nil=>rw[Cc]at p;exact p _ H (Aw.refl H) ⟨a,xs,rfl,na1,s1,r1⟩
     |cons _ _=>exact r2.elim
    .exact p _ _ (Eb hq _) (Jb hA hq (r1.append r2))
   .exact p.elim
  |_=>exact p.elim
 |_=>exact p.elim
theorem KZ{op:Ep}{C:Ah->Ah->Prop}{g:Ah->Ah->Ah}(ho:OpR X (BJ op) (rI C λi j=>.int (g i j)))(hg:∀ dx dy,(∃ i j,dx=.int i/\dy=.int j/\((C i j/\CF op dx dy=.ok (.int (g i j)))\/CF op dx dy=.bad))\/CF op dx dy=.bad):OpD X CL W (BJ op) (CF op):=by
 intro A pI s Y H x y v u Q I rx ry ⟨hA,dx,dy,hx,hy,p⟩;rcases hg dx dy with ⟨i,j,rfl,rfl,⟨c,e⟩|e⟩|e
 .have ex:=hx.int_of;have ey:=hy.int_of
  subst ex ey;rw[e]at p;exact ho pI s Y H _ _ v u Q I rx ry ⟨i,j,rfl,rfl,c,p _ H (Aw.refl H) rfl⟩
 .rw[e]at p;exact p.elim
 .rw[e]at p;exact p.elim
theorem ZF:OpD X CL W (BJ .Sub) (CF .Sub):=by
 intro A pI s Y H x y v u Q I rx ry ⟨hA,dx,dy,hx,hy,p⟩;cases dx with
 |int i=>
  cases dy with
  |int j=>
   have ex:=hx.int_of;have ey:=hy.int_of
   subst ex ey;exact cK pI s Y H _ _ v u Q I rx ry ⟨i,j,rfl,rfl,p _ H (Aw.refl H) rfl⟩
  |_=>exact p.elim
 |_=>exact p.elim
theorem ZH:OpD X CL W (BJ .Mult) (CF .Mult):=KZ ZK λdx dy=>by
 cases dx with
 |int i=>
  cases dy with
  |int j=>
   refine .inl ⟨i,j,rfl,rfl,?_⟩;rw[cT];split
   .rename_i h;exact .inl ⟨Zk h,rfl⟩
   .exact .inr rfl
  |_=>exact .inr rfl
 |_=>exact .inr rfl
theorem XZ:OpD X CL W (BJ .FloorDiv) (CF .FloorDiv):=KZ ZL λdx dy=>by
 cases dx with
 |int i=>
  cases dy with
  |int j=>
   refine .inl ⟨i,j,rfl,rfl,?_⟩;rw[ZX];split
   .rename_i h;exact .inl ⟨h,rfl⟩
   .exact .inr rfl
  |_=>exact .inr rfl
 |_=>exact .inr rfl
theorem ZI:OpD X CL W (BJ .Mod) (CF .Mod):=KZ cM λdx dy=>by
 cases dx with
 |int i=>
  cases dy with
  |int j=>
   refine .inl ⟨i,j,rfl,rfl,?_⟩;rw[cU];split
   .rename_i h;exact .inl ⟨h,rfl⟩
   .exact .inr rfl
  |_=>exact .inr rfl
 |_=>exact .inr rfl
theorem ZG:OpD X CL W (BJ .Pow) (CF .Pow):=KZ cL λdx dy=>by
 cases dx with
 |int i=>
  cases dy with
  |int j=>
   refine .inl ⟨i,j,rfl,rfl,?_⟩;rw[dS];split
   .rename_i h;exact .inl ⟨⟨h.1.1,h.1.2,by omega⟩,rfl⟩
   .exact .inr rfl
  |_=>exact .inr rfl
 |_=>exact .inr rfl
theorem M9(op:Ep):OpD X CL W (BJ op) (CF op):=by
 cases op with
 |Add=>exact Qp
 |Sub=>exact ZF
 |Mult=>exact ZH
 |FloorDiv=>exact XZ
 |Mod=>exact ZI
 |Pow=>exact ZG
 |_=>
  intro A pI s Y H x y v u Q I rx ry ⟨hA,dx,dy,hx,hy,p⟩;exact p.elim
noncomputable abbrev A0:Ak->Prop:=λ_=>AV
theorem B6.plain(h:B6 K CL H A v d):Rep K CL H A0 v d:=by
 rcases h with h|⟨a,xs,ds,rfl,rfl,e,r⟩
 .exact Rep.sub (λ_ z=>z.elim) d h
 .exact⟨a,xs,rfl,.inl λz=>z.elim,SqL.of e,Reps.sub (λ_ z=>z.elim) ds r⟩
mutual
theorem X7:∀(n:Af)(d:D),flD n d=Ab->eqD d d=Ab
 |_,.non,_=>rfl
 |_,.bl b,_=>by simp
 |_,.int i,_=>by simp
 |_,.str x,_=>by simp
 |n+1,.tup ds,h=>by
  show eqDs ds ds=Ab;exact eqDs_refl n ds h
 |n+1,.lst ds,h=>by
  show eqDs ds ds=Ab;exact eqDs_refl n ds h
 |0,.tup ds,h=>by cases h
 |0,.lst ds,h=>by cases h
 |n,.obj _ _,h=>by cases n<;>cases h
 |n,.exc _ _,h=>by cases n<;>cases h
 |n,.dic _,h=>by cases n<;>cases h
theorem eqDs_refl:∀(n:Af)(ds:Ac D),ds.all (flD n)=Ab->eqDs ds ds=Ab
 |_,[],_=>rfl
 |n,d::ds,h=>by
  simp only[D2,Al]at h;simp only[Mz,Al];exact⟨X7 n d h.1,eqDs_refl n ds h.2⟩
end
theorem OZ(I:Inv X pI Y H s)(h:SqL X.K H a xs)(h':SqT X.K H a ys):AV:=by
 obtain⟨its,r,⟨o,n,e,c,_,_⟩,_⟩:=I.list h;obtain⟨its',r',⟨o',e',c',_⟩,_⟩:=I.tuple h';rw[e]at e';cases e';rw[c]at c'
 injection c' with z
 exact absurd z (by decide)
mutual
theorem KY{pI:Pn}{Y:L2.St}{H:Hp}{s:Ao}(I:Inv X pI Y H s):∀(n:Af)(d e:D){v:V},flD n d=Ab->flD n e=Ab->Rep X.K CL H A0 v d->Rep X.K CL H A0 v e->d=e
 |n,.tup ds,e,v,hd,he,r,q=>by
  obtain⟨a,xs,rfl,_,s1,r1⟩:=r;cases e with
  |tup es=>
   obtain⟨b,ys,e,_,s2,r2⟩:=q;cases e;have z:=I.tuple_inj s1 s2;subst z;cases n with
   |zero=>cases hd
   |succ n=>rw[reps_inj I n ds es hd he r1 r2]
  |lst es=>
   obtain⟨b,ys,e,_,s2,r2⟩:=q;cases e;exact(OZ I s2 s1).elim
  |obj=>cases n<;>cases he
  |exc=>cases n<;>cases he
  |dic=>cases n<;>cases he
  |_=>cases q
 |n,.lst ds,e,v,hd,he,r,q=>by
  obtain⟨a,xs,rfl,_,s1,r1⟩:=r;cases e with
  |lst es=>
   obtain⟨b,ys,e,_,s2,r2⟩:=q;cases e;have z:=I.list_inj s1 s2;subst z;cases n with
   |zero=>cases hd
   |succ n=>rw[reps_inj I n ds es hd he r1 r2]
  |tup es=>
   obtain⟨b,ys,e,_,s2,r2⟩:=q;cases e;exact(OZ I s1 s2).elim
  |obj=>cases n<;>cases he
  |exc=>cases n<;>cases he
  |dic=>cases n<;>cases he
  |_=>cases q
 |n,.obj _ _,e,v,hd,he,r,q=>by cases n<;>cases hd
 |n,.exc _ _,e,v,hd,he,r,q=>by cases n<;>cases hd
 |n,.dic _,e,v,hd,he,r,q=>by cases n<;>cases hd
 |n,.non,e,v,hd,he,r,q=>by
  cases r;cases e with
  |tup=>obtain⟨_,_,z,_⟩:=q;cases z
  |lst=>obtain⟨_,_,z,_⟩:=q;cases z
  |obj=>cases n<;>cases he
  |exc=>cases n<;>cases he
  |dic=>cases n<;>cases he
  |_=>cases q<;>rfl
 |n,.bl b,e,v,hd,he,r,q=>by
  cases r;cases e with
  |tup=>obtain⟨_,_,z,_⟩:=q;cases z
  |lst=>obtain⟨_,_,z,_⟩:=q;cases z
  |obj=>cases n<;>cases he
  |exc=>cases n<;>cases he
  |dic=>cases n<;>cases he
  |_=>cases q<;>rfl
 |n,.int b,e,v,hd,he,r,q=>by
  cases r;cases e with
  |tup=>obtain⟨_,_,z,_⟩:=q;cases z
  |lst=>obtain⟨_,_,z,_⟩:=q;cases z
  |obj=>cases n<;>cases he
  |exc=>cases n<;>cases he
  |dic=>cases n<;>cases he
  |_=>cases q<;>rfl
 |n,.str b,e,v,hd,he,r,q=>by
  cases r;cases e with
  |tup=>obtain⟨_,_,z,_⟩:=q;cases z
  |lst=>obtain⟨_,_,z,_⟩:=q;cases z
  |obj=>cases n<;>cases he
  |exc=>cases n<;>cases he
  |dic=>cases n<;>cases he
  |_=>cases q<;>rfl
theorem reps_inj{pI:Pn}{Y:L2.St}{H:Hp}{s:Ao}(I:Inv X pI Y H s):∀(n:Af)(ds es:Ac D){xs:Ac V},ds.all (flD n)=Ab->es.all (flD n)=Ab->Reps X.K CL H A0 xs ds->Reps X.K CL H A0 xs es->ds=es
 |_,[],[],_,_,_,_,_=>rfl
 |n,d::ds,e::es,x::xs,hd,he,r,q=>by
  simp only[D2,Al]at hd he;rw[KY I n d e hd.1 he.1 r.1 q.1,reps_inj I n ds es hd.2 he.2 r.2 q.2]
 |_,[],_::_,[],_,_,_,q=>q.elim
 |_,[],_::_,_::_,_,_,r,_=>r.elim
 |_,_::_,[],[],_,_,r,_=>r.elim
 |_,_::_,[],_::_,_,_,_,q=>q.elim
 |_,_::_,_::_,[],_,_,r,_=>r.elim
end
theorem JV:∀{ds es:Ac D},ds.length≠es.length->eqDs ds es=Ad
 |[],[],h=>absurd rfl h
 |[],_::_,_=>rfl
 |_::_,[],_=>rfl
 |d::ds,e::es,h=>by
  simp only[Mz,JV (ds:=ds) (es:=es) (by simpa using h),GR]
theorem Oy(n:Af)(f:Af->Ai):(BR (n+1)).all f=(f 0&&(BR n).all λj=>f (j+1)):=by
 rw[T7,D2,TM];rfl
theorem JW:∀{ds es:Ac D},ds.length=es.length->eqDs ds es=(BR ds.length).all λj=>eqD (ds.getD j .non) (es.getD j .non)
 |[],[],_=>rfl
 |d::ds,e::es,h=>by
  rw[Mz,JW (ds:=ds) (es:=es) (by simpa using h),A9,Oy]
  rfl
 |[],_::_,h=>by cases h
 |_::_,[],h=>by cases h
theorem Iz{ds:Ac D}(r:Reps K CL H A0 xs ds)(rv:AX xs its)(h:j<its.length):∃ x,Rep K CL H A0 x (ds.getD j .non)/\Bm x its[j]:=by
 have e1:=rv.length;have e2:=r.length;have hd:ds[j]?=Aa (ds.getD j .non):=by
  rw[C3,BA (by omega)];rfl
 obtain⟨x,hx,q⟩:=r.get hd;obtain⟨u,hu,ru⟩:=rv.get hx;refine⟨x,q,?_⟩;rw[BA h]at hu;cases hu;exact ru
theorem Ir{ds:Ac D}(h:ds.all (flD n)=Ab)(j:Af):flD n (ds.getD j .non)=Ab:=by
 rw[C3];cases e:ds[j]? with
 |none=>cases n<;>rfl
 |some d=>exact Bz.mp h d (T6 e)
def Cb(B:AQ)(s:Ao)(u t:Aj)(k:Ai):Prop:=II B s u t k/\Fh B s u t k/\Hz B s u t (!k)
section
variable{B:AQ}{s:Ao}
open SeqAt
theorem jD:Cb B s .none .none Ab:=⟨RcAt.none_none,EqAt.same _,RcNeAt.none_none⟩
theorem hV(a b:Ai):Cb B s (.bool a) (.bool b) (a==b):=⟨RcAt.bool_bool _ _,EqAt.bool_bool _ _,RcNeAt.bool_bool _ _⟩
theorem jG(b:Ai):Cb B s .none (.bool b) Ad:=⟨RcAt.none_bool _,EqAt.none_bool _,RcNeAt.none_bool _⟩
theorem gZ(b:Ai):Cb B s (.bool b) .none Ad:=⟨RcAt.bool_none _,EqAt.bool_none _,RcNeAt.bool_none _⟩
theorem jQ(a:Ah)(t:B9)(b:Ah)(u:B9):Cb B s (.int a t) (.int b u) (a==b):=⟨RcAt.int_int _ _ _ _,EqAt.int_int _ _ _ _,RcNeAt.int_int _ _ _ _⟩
theorem iW(a:Ag)(t:B9)(b:Ag)(u:B9):Cb B s (.str a t) (.str b u) (a==b):=⟨RcAt.str_str _ _ _ _,EqAt.str_str _ _ _ _,RcNeAt.str_str _ _ _ _⟩
theorem jN(a:Ah)(t:B9)(b:Ag)(u:B9):Cb B s (.int a t) (.str b u) Ad:=⟨RcAt.int_str _ _ _ _,EqAt.int_str _ _ _ _,RcNeAt.int_str _ _ _ _⟩
theorem iZ(a:Ag)(t:B9)(b:Ah)(u:B9):Cb B s (.str a t) (.int b u) Ad:=⟨RcAt.str_int _ _ _ _,EqAt.str_int _ _ _ _,RcNeAt.str_int _ _ _ _⟩
theorem jF(b:Ah)(u:B9):Cb B s .none (.int b u) Ad:=⟨RcAt.none_int _ _,EqAt.none_int _ _,RcNeAt.none_int _ _⟩
theorem jO(b:Ah)(u:B9):Cb B s (.int b u) .none Ad:=⟨RcAt.int_none _ _,EqAt.int_none _ _,RcNeAt.int_none _ _⟩
theorem jC(b:Ag)(u:B9):Cb B s .none (.str b u) Ad:=⟨RcAt.none_str _ _,EqAt.none_str _ _,RcNeAt.none_str _ _⟩
theorem iX(b:Ag)(u:B9):Cb B s (.str b u) .none Ad:=⟨RcAt.str_none _ _,EqAt.str_none _ _,RcNeAt.str_none _ _⟩
theorem hU(a:Ai)(b:Ah)(u:B9):Cb B s (.bool a) (.int b u) (b2i a==b):=⟨RcAt.bool_int _ _ _,EqAt.bool_int _ _ _,RcNeAt.bool_int _ _ _⟩
theorem jR(a:Ai)(b:Ah)(u:B9):Cb B s (.int b u) (.bool a) (b==b2i a):=⟨RcAt.int_bool _ _ _,EqAt.int_bool _ _ _,RcNeAt.int_bool _ _ _⟩
theorem jT(a:Ai)(b:Ag)(u:B9):Cb B s (.bool a) (.str b u) Ad:=⟨RcAt.bool_str _ _ _,EqAt.bool_str _ _ _,RcNeAt.bool_str _ _ _⟩
theorem jA(a:Ai)(b:Ag)(u:B9):Cb B s (.str b u) (.bool a) Ad:=⟨RcAt.str_bool _ _ _,EqAt.str_bool _ _ _,RcNeAt.str_bool _ _ _⟩
variable{l:Ak}{items:A3 Aj}
theorem jJ(h:s.heap.IsList l items)(hu:B.units<By):Cb B s (.ref l) .none Ad:=⟨RcAt.list_none h hu,EqAt.list_none h hu,RcNeAt.list_none h hu⟩
theorem jE(h:s.heap.IsList l items)(hu:B.units<By):Cb B s .none (.ref l) Ad:=⟨RcAt.none_list h hu,EqAt.none_list h hu,RcNeAt.none_list h hu⟩
theorem jL(b:Ai)(h:s.heap.IsList l items)(hu:B.units<By):Cb B s (.ref l) (.bool b) Ad:=⟨RcAt.list_bool b h hu,EqAt.list_bool b h hu,RcNeAt.list_bool b h hu⟩
theorem hJ(b:Ai)(h:s.heap.IsList l items)(hu:B.units<By):Cb B s (.bool b) (.ref l) Ad:=⟨RcAt.bool_list b h hu,EqAt.bool_list b h hu,RcNeAt.bool_list b h hu⟩
theorem jK(b:Ah)(u:B9)(h:s.heap.IsList l items)(hu:B.units<By):Cb B s (.ref l) (.int b u) Ad:=⟨RcAt.list_int b u h hu,EqAt.list_int b u h hu,RcNeAt.list_int b u h hu⟩
theorem jP(b:Ah)(u:B9)(h:s.heap.IsList l items)(hu:B.units<By):Cb B s (.int b u) (.ref l) Ad:=⟨RcAt.int_list b u h hu,EqAt.int_list b u h hu,RcNeAt.int_list b u h hu⟩
theorem jI(b:Ag)(u:B9)(h:s.heap.IsList l items)(hu:B.units<By):Cb B s (.ref l) (.str b u) Ad:=⟨RcAt.list_str b u h hu,EqAt.list_str b u h hu,RcNeAt.list_str b u h hu⟩
theorem iY(b:Ag)(u:B9)(h:s.heap.IsList l items)(hu:B.units<By):Cb B s (.str b u) (.ref l) Ad:=⟨RcAt.str_list b u h hu,EqAt.str_list b u h hu,RcNeAt.str_list b u h hu⟩
theorem fV(h:s.heap.IsTuple l items)(hu:B.units<By):Cb B s (.ref l) .none Ad:=⟨RcAt.tuple_none h hu,EqAt.tuple_none h hu,RcNeAt.tuple_none h hu⟩
theorem jB(h:s.heap.IsTuple l items)(hu:B.units<By):Cb B s .none (.ref l) Ad:=⟨RcAt.none_tuple h hu,EqAt.none_tuple h hu,RcNeAt.none_tuple h hu⟩
theorem iU(b:Ai)(h:s.heap.IsTuple l items)(hu:B.units<By):Cb B s (.ref l) (.bool b) Ad:=⟨RcAt.tuple_bool b h hu,EqAt.tuple_bool b h hu,RcNeAt.tuple_bool b h hu⟩
theorem jS(b:Ai)(h:s.heap.IsTuple l items)(hu:B.units<By):Cb B s (.bool b) (.ref l) Ad:=⟨RcAt.bool_tuple b h hu,EqAt.bool_tuple b h hu,RcNeAt.bool_tuple b h hu⟩
theorem fX(b:Ah)(u:B9)(h:s.heap.IsTuple l items)(hu:B.units<By):Cb B s (.ref l) (.int b u) Ad:=⟨RcAt.tuple_int b u h hu,EqAt.tuple_int b u h hu,RcNeAt.tuple_int b u h hu⟩
theorem jM(b:Ah)(u:B9)(h:s.heap.IsTuple l items)(hu:B.units<By):Cb B s (.int b u) (.ref l) Ad:=⟨RcAt.int_tuple b u h hu,EqAt.int_tuple b u h hu,RcNeAt.int_tuple b u h hu⟩
theorem fU(b:Ag)(u:B9)(h:s.heap.IsTuple l items)(hu:B.units<By):Cb B s (.ref l) (.str b u) Ad:=⟨RcAt.tuple_str b u h hu,EqAt.tuple_str b u h hu,RcNeAt.tuple_str b u h hu⟩
theorem iV(b:Ag)(u:B9)(h:s.heap.IsTuple l items)(hu:B.units<By):Cb B s (.str b u) (.ref l) Ad:=⟨RcAt.str_tuple b u h hu,EqAt.str_tuple b u h hu,RcNeAt.str_tuple b u h hu⟩
theorem jH(h:s.heap.IsList l items)(h2:s.heap.IsTuple b items2)(hu:B.units<By):Cb B s (.ref l) (.ref b) Ad:=⟨RcAt.list_tuple h h2 hu,EqAt.list_tuple h h2 hu,RcNeAt.list_tuple h h2 hu⟩
theorem fW(h:s.heap.IsTuple l items)(h2:s.heap.IsList b items2)(hu:B.units<By):Cb B s (.ref l) (.ref b) Ad:=⟨RcAt.tuple_list h h2 hu,EqAt.tuple_list h h2 hu,RcNeAt.tuple_list h h2 hu⟩
end
end
section
variable{X:Cx}{CL:ClA}{W:XW}
theorem HI{its:A3 Aj}(x:PlainL h a its):h.IsList a its:=let ⟨o,n,e,c,_,d⟩:=x;⟨o,e,c,n,d⟩
def kZ(X:Cx)(CL:ClA)(H:Hp)(s:Ao)(d:D)(u:Aj):Prop:=match d with
  |.non=>u=.none
  |.bl b=>u=.bool b
  |.int i=>∃ t,u=.int i t
  |.str x=>∃ t,u=.str x t
  |.tup ds=>∃ a xs its,u=.ref a/\Reps X.K CL H A0 xs ds/\AX xs its/\s.heap.IsTuple a its.toArray
  |.lst ds=>∃ a xs its,u=.ref a/\Reps X.K CL H A0 xs ds/\AX xs its/\s.heap.IsList a its.toArray
  |_=>AV
theorem QD(I:Inv X pI Y H s)(hd:flD n d=Ab)(r:Rep X.K CL H A0 v d)(q:Bm v u):kZ X CL H s d u:=by
 cases d with
 |non=>cases r;exact q
 |bl b=>cases r;exact q
 |int b=>cases r;exact q
 |str b=>cases r;exact q
 |tup ds=>
  obtain⟨a,xs,rfl,_,sq,r⟩:=r;obtain⟨its,rv,p,_⟩:=I.tuple sq;cases q;exact⟨a,xs,its,rfl,r,rv,p⟩
 |lst ds=>
  obtain⟨a,xs,rfl,_,sq,r⟩:=r;obtain⟨its,rv,p,_⟩:=I.list sq;cases q;exact⟨a,xs,its,rfl,r,rv,HI p⟩
 |obj=>cases n<;>cases hd
 |exc=>cases n<;>cases hd
 |dic=>cases n<;>cases hd
theorem Yk{B:AQ}{ds es:Ac D}(hl:s.heap.IsList l its.toArray)(hb:s.heap.IsList b its2.toArray)(e1:its.length=ds.length)(e2:its2.length=es.length)(hu:B.units<By)(hs:l=b->eqDs ds es=Ab)(he:∀ j (h1:j<its.length) (h2:j<its2.length),Fh B.in1 s its[j] its2[j] (eqD (ds.getD j .non) (es.getD j .non))):Cb B s (.ref l) (.ref b) (eqDs ds es):=by
 have rc:II B s (.ref l) (.ref b) (eqDs ds es):=by
  by_cases hz:its.length=its2.length
  .have q:=SeqAt.RcAt.lists (e:=λj=>eqD (ds.getD j .non) (es.getD j .non)) hl hb (by simpa using hz) hu (λj h1 h2=>by simpa using he j (by simpa using h1) (by simpa using h2))
   rw[JW (by omega)]
   have e:its.toArray.size=ds.length:=by simpa using e1
   rw[e]at q;exact q
  .rw[JV (by omega)]
   exact SeqAt.RcAt.lists_lengths hl hb (by simpa using hz) hu
 have ne:Hz B s (.ref l) (.ref b) (!eqDs ds es):=by
  by_cases hz:its.length=its2.length
  .have q:=SeqAt.RcNeAt.lists (e:=λj=>eqD (ds.getD j .non) (es.getD j .non)) hl hb (by simpa using hz) hu (λj h1 h2=>by simpa using he j (by simpa using h1) (by simpa using h2))
   rw[JW (by omega)]
   have e:its.toArray.size=ds.length:=by simpa using e1
   rw[e]at q;exact q
  .rw[JV (by omega)]
   exact SeqAt.RcNeAt.lists_lengths hl hb (by simpa using hz) hu
 refine⟨rc,?_,ne⟩;by_cases hlb:l=b
 .rw[hs hlb,hlb];exact Vh _
 .exact Vg hlb rc
theorem Yj{B:AQ}{ds es:Ac D}(hl:s.heap.IsTuple l its.toArray)(hb:s.heap.IsTuple b its2.toArray)(e1:its.length=ds.length)(e2:its2.length=es.length)(hu:B.units<By)(hs:l=b->eqDs ds es=Ab)(he:∀ j (h1:j<its.length) (h2:j<its2.length),Fh B.in1 s its[j] its2[j] (eqD (ds.getD j .non) (es.getD j .non))):Cb B s (.ref l) (.ref b) (eqDs ds es):=by
 have rc:II B s (.ref l) (.ref b) (eqDs ds es):=by
  have q:=SeqAt.RcAt.tuples (e:=λj=>eqD (ds.getD j .non) (es.getD j .non)) hl hb hu (λj h1 h2=>by simpa using he j (by simpa using h1) (by simpa using h2))
  have e:its.toArray.size=ds.length:=by simpa using e1
  have e':its2.toArray.size=es.length:=by simpa using e2
  rw[e,e']at q;by_cases hz:ds.length=es.length
  .rw[JW hz];rw[hz,Ud,D1,Tv]at q;rw[hz];exact q
  .rw[JV hz];rw[Ef.mpr hz,GR]at q;exact q
 have ne:Hz B s (.ref l) (.ref b) (!eqDs ds es):=by
  have q:=SeqAt.RcNeAt.tuples (e:=λj=>eqD (ds.getD j .non) (es.getD j .non)) hl hb hu (λj h1 h2=>by simpa using he j (by simpa using h1) (by simpa using h2))
  have e:its.toArray.size=ds.length:=by simpa using e1
  have e':its2.toArray.size=es.length:=by simpa using e2
  rw[e,e']at q;by_cases hz:ds.length=es.length
  .rw[JW hz];rw[hz,Ud,D1,Tv]at q;rw[hz];exact q
  .rw[JV hz];rw[Ef.mpr hz,GR]at q;exact q
 refine⟨rc,?_,ne⟩;by_cases hlb:l=b
 .rw[hs hlb,hlb];exact Vh _
 .exact Vg hlb rc
theorem J4{pI:Pn}{Y:L2.St}{H:Hp}{s:Ao}(I:Inv X pI Y H s):∀(n:Af)(d e:D)(v w':V)(u t:Aj)(B:AQ),flD n d=Ab->flD n e=Ab->Rep X.K CL H A0 v d->Rep X.K CL H A0 w' e->Bm v u->Bm w' t->B.units+n<By->Cb B s u t (eqD d e)
  |n,d,e,v,w',u,t,B,hd,he,r,q,rv,rw',hu=>by
    have hu0:B.units<By:=by omega
    have sd:=QD I hd r rv;have se:=QD I he q rw'
    match d,e,sd,se with
    |.non,.non,s1,s2=>cases s1;cases s2;exact jD
    |.non,.bl b,s1,s2=>cases s1;cases s2;exact jG b
    |.non,.int b,s1,s2=>cases s1;obtain⟨_,rfl⟩:=s2;exact jF b _
    |.non,.str b,s1,s2=>cases s1;obtain⟨_,rfl⟩:=s2;exact jC b _
    |.non,.tup es,s1,s2=>cases s1;obtain⟨_,_,_,rfl,_,_,p⟩:=s2;exact jB p hu0
    |.non,.lst es,s1,s2=>cases s1;obtain⟨_,_,_,rfl,_,_,p⟩:=s2;exact jE p hu0
    |.bl a,.non,s1,s2=>cases s1;cases s2;exact gZ a
    |.bl a,.bl b,s1,s2=>cases s1;cases s2;exact hV a b
    |.bl a,.int b,s1,s2=>cases s1;obtain⟨_,rfl⟩:=s2;exact hU a b _
    |.bl a,.str b,s1,s2=>cases s1;obtain⟨_,rfl⟩:=s2;exact jT a b _
    |.bl a,.tup es,s1,s2=>cases s1;obtain⟨_,_,_,rfl,_,_,p⟩:=s2;exact jS a p hu0
    |.bl a,.lst es,s1,s2=>cases s1;obtain⟨_,_,_,rfl,_,_,p⟩:=s2;exact hJ a p hu0
    |.int a,.non,s1,s2=>obtain⟨_,rfl⟩:=s1;cases s2;exact jO a _
    |.int a,.bl b,s1,s2=>obtain⟨_,rfl⟩:=s1;cases s2;exact jR b a _
    |.int a,.int b,s1,s2=>obtain⟨_,rfl⟩:=s1;obtain⟨_,rfl⟩:=s2;exact jQ a _ b _
    |.int a,.str b,s1,s2=>obtain⟨_,rfl⟩:=s1;obtain⟨_,rfl⟩:=s2;exact jN a _ b _
    |.int a,.tup es,s1,s2=>obtain⟨_,rfl⟩:=s1;obtain⟨_,_,_,rfl,_,_,p⟩:=s2;exact jM a _ p hu0
    |.int a,.lst es,s1,s2=>obtain⟨_,rfl⟩:=s1;obtain⟨_,_,_,rfl,_,_,p⟩:=s2;exact jP a _ p hu0
    |.str a,.non,s1,s2=>obtain⟨_,rfl⟩:=s1;cases s2;exact iX a _
    |.str a,.bl b,s1,s2=>obtain⟨_,rfl⟩:=s1;cases s2;exact jA b a _
    |.str a,.int b,s1,s2=>obtain⟨_,rfl⟩:=s1;obtain⟨_,rfl⟩:=s2;exact iZ a _ b _
    |.str a,.str b,s1,s2=>obtain⟨_,rfl⟩:=s1;obtain⟨_,rfl⟩:=s2;exact iW a _ b _
    |.str a,.tup es,s1,s2=>obtain⟨_,rfl⟩:=s1;obtain⟨_,_,_,rfl,_,_,p⟩:=s2;exact iV a _ p hu0
    |.str a,.lst es,s1,s2=>obtain⟨_,rfl⟩:=s1;obtain⟨_,_,_,rfl,_,_,p⟩:=s2;exact iY a _ p hu0
    |.tup ds,.non,s1,s2=>cases s2;obtain⟨_,_,_,rfl,_,_,p⟩:=s1;exact fV p hu0
    |.tup ds,.bl b,s1,s2=>cases s2;obtain⟨_,_,_,rfl,_,_,p⟩:=s1;exact iU b p hu0
    |.tup ds,.int b,s1,s2=>obtain⟨_,rfl⟩:=s2;obtain⟨_,_,_,rfl,_,_,p⟩:=s1;exact fX b _ p hu0
    |.tup ds,.str b,s1,s2=>obtain⟨_,rfl⟩:=s2;obtain⟨_,_,_,rfl,_,_,p⟩:=s1;exact fU b _ p hu0
    |.tup ds,.lst es,s1,s2=>obtain⟨_,_,_,rfl,_,_,p⟩:=s1;obtain⟨_,_,_,rfl,_,_,p2⟩:=s2;exact fW p p2 hu0
    |.lst ds,.non,s1,s2=>cases s2;obtain⟨_,_,_,rfl,_,_,p⟩:=s1;exact jJ p hu0
    |.lst ds,.bl b,s1,s2=>cases s2;obtain⟨_,_,_,rfl,_,_,p⟩:=s1;exact jL b p hu0
    |.lst ds,.int b,s1,s2=>obtain⟨_,rfl⟩:=s2;obtain⟨_,_,_,rfl,_,_,p⟩:=s1;exact jK b _ p hu0
    |.lst ds,.str b,s1,s2=>obtain⟨_,rfl⟩:=s2;obtain⟨_,_,_,rfl,_,_,p⟩:=s1;exact jI b _ p hu0
    |.lst ds,.tup es,s1,s2=>obtain⟨_,_,_,rfl,_,_,p⟩:=s1;obtain⟨_,_,_,rfl,_,_,p2⟩:=s2;exact jH p p2 hu0
    |.tup ds,.tup es,s1,s2=>
      match n,hd,he,hu with
      |n+1,hd,he,hu=>
        obtain⟨a,xs,its,rfl,r1,v1,p1⟩:=s1;obtain⟨b,ys,its2,rfl,r2,v2,p2⟩:=s2;have l1:=v1.length;have l2:=r1.length;have l3:=v2.length;have l4:=r2.length
        refine Yj p1 p2 (by omega) (by omega) hu0 (λhab=>?_) λj h1 h2=>?_
        · have e1:v=.ref a:=Bm.inj rv rfl;have e2:w'=.ref b:=Bm.inj rw' rfl;subst e1 e2 hab;have z:=KY I (n+1) _ _ hd he r q
          injection z with z
          rw[z];exact eqDs_refl n es he
        · obtain⟨x,rx,qx⟩:=Iz r1 v1 h1;obtain⟨y,ry,qy⟩:=Iz r2 v2 h2;exact(J4 I n _ _ x y _ _ B.in1 (Ir hd j) (Ir he j) rx ry qx qy (by show B.units+1+n<By;omega)).2.1
    |.lst ds,.lst es,s1,s2=>
      match n,hd,he,hu with
      |n+1,hd,he,hu=>
        obtain⟨a,xs,its,rfl,r1,v1,p1⟩:=s1;obtain⟨b,ys,its2,rfl,r2,v2,p2⟩:=s2;have l1:=v1.length;have l2:=r1.length;have l3:=v2.length;have l4:=r2.length
        refine Yk p1 p2 (by omega) (by omega) hu0 (λhab=>?_) λj h1 h2=>?_
        · have e1:v=.ref a:=Bm.inj rv rfl;have e2:w'=.ref b:=Bm.inj rw' rfl;subst e1 e2 hab;have z:=KY I (n+1) _ _ hd he r q
          injection z with z
          rw[z];exact eqDs_refl n es he
        · obtain⟨x,rx,qx⟩:=Iz r1 v1 h1;obtain⟨y,ry,qy⟩:=Iz r2 v2 h2;exact(J4 I n _ _ x y _ _ B.in1 (Ir hd j) (Ir he j) rx ry qx qy (by show B.units+1+n<By;omega)).2.1
    |.obj _ _,_,s1,_=>exact s1.elim
    |.exc _ _,_,s1,_=>exact s1.elim
    |.dic _,_,s1,_=>exact s1.elim
    |_,.obj _ _,_,s2=>exact s2.elim
    |_,.exc _ _,_,s2=>exact s2.elim
    |_,.dic _,_,s2=>exact s2.elim
end
section
variable{X:Cx}{CL:ClA}{W:XW}
theorem Ld(I:Inv X pI Y H s){ds:Ac D}(B:AQ)(hd:flD n d=Ab)(hs:ds.all (flD n)=Ab)(r:Reps X.K CL H A0 xs ds)(rv:AX xs its)(q:Rep X.K CL H A0 v d)(qv:Bm v u)(hu:B.units+n<By):∃ e:Aj->Ai,(∀ y,y∈its.toArray->Fh B s y u (e y))/\its.toArray.any e=ds.any λy=>eqD y d:=by
 have l1:=rv.length;have l2:=r.length
 have key:∀ y,y∈its->∃ k:Ai,Fh B s y u k/\∀ j (h:j<its.length),its[j]=y->eqD (ds.getD j .non) d=k:=λy hy=>by
  obtain⟨j,hj,rfl⟩:=Fu hy;obtain⟨x,rx,qx⟩:=Iz r rv hj;refine⟨eqD (ds.getD j .non) d,(J4 I n _ _ x v _ _ B (Ir hs j) hd rx q qx qv hu).2.1,λj' hj' e=>?_⟩
  obtain⟨x',rx',qx'⟩:=Iz r rv hj';rw[e]at qx';have z:=Bm.inj qx qx';subst z;rw[KY I n _ _ (Ir hs j') (Ir hs j) rx' rx]
 have key2:∀ y,∃ k:Ai,y∈its->Fh B s y u k/\∀ j (h:j<its.length),its[j]=y->eqD (ds.getD j .non) d=k:=λy=>by
  by_cases hy:y∈its
  .obtain⟨k,hk⟩:=key y hy;exact⟨k,λ_=>hk⟩
  .exact⟨Ab,λh=>absurd h hy⟩
 refine⟨λy=>Classical.choose (key2 y),λy hy=>(E8 (key2 y) (by simpa using hy)).1,?_⟩
 rw[Tw];simp only[List.any_toArray,DX];constructor
 .rintro⟨y,hy,hk⟩;obtain⟨j,hj,rfl⟩:=Fu hy;have z:=(E8 (key2 its[j]) hy).2 j hj rfl;rw[hk]at z;refine⟨ds.getD j .non,?_,z⟩;rw[C3,BA (by omega)]
  exact Gd _
 .rintro⟨y,hy,hk⟩;obtain⟨j,hj,rfl⟩:=Fu hy;have hj':j<its.length:=by omega
  refine⟨its[j],Gd _,?_⟩;have z:=(E8 (key2 its[j]) (Gd _)).2 j hj' rfl;rw[<-z,C3,BA hj];exact hk
theorem KP{g:Ah->Ah->Ai}(ho:OpR X (Cm op) (rI0 λi j=>.bl (g i j)))(hg:∀ dx dy,(∃ i j,dx=.int i/\dy=.int j/\Br op dx dy=.ok (.bl (g i j)))\/Br op dx dy=.bad):OpD X CL W (Cm op) (Br op):=by
 intro A pI s Y H x y v u Q I rx ry ⟨hA,dx,dy,hx,hy,p⟩;rcases hg dx dy with ⟨i,j,rfl,rfl,e⟩|e
 .have ex:=hx.int_of;have ey:=hy.int_of
  subst ex ey;rw[e]at p;exact ho pI s Y H _ _ v u Q I rx ry ⟨i,j,rfl,rfl,p _ H (Aw.refl H) rfl⟩
 .rw[e]at p;exact p.elim
theorem Rr{x:V}(h:B6 X.K CL H A x d)(hd:d≠.non):x≠.non:=by
 rintro rfl;have h:=h.plain;cases d with
 |non=>exact hd rfl
 |tup=>obtain⟨_,_,e,_⟩:=h;cases e
 |lst=>obtain⟨_,_,e,_⟩:=h;cases e
 |obj=>obtain⟨_,_,_,_,e,_⟩:=h;cases e
 |exc=>obtain⟨_,_,_,e,_⟩:=h;cases e
 |dic=>exact h.elim
 |_=>cases h
theorem K1(hu:X.A.units+64<By)(op:CH):OpD X CL W (Cm op) (Br op):=by
 cases op with
 |Eq=>
  intro A pI s Y H x y v u Q I rx ry ⟨hA,dx,dy,hx,hy,p⟩;rw[kO]at p;split at p
  .rename_i h;simp only[Al]at h;exact(J4 I 5 dx dy x y v u X.A h.1 h.2 hx.plain hy.plain rx ry (by omega)).1 X.prog X.w X.xe _ ⟨.bl _,H,I,rfl,p _ H (Aw.refl H) rfl⟩
  .exact p.elim
 |NotEq=>
  intro A pI s Y H x y v u Q I rx ry ⟨hA,dx,dy,hx,hy,p⟩;rw[kC]at p;split at p
  .rename_i h;simp only[Al]at h;exact(J4 I 5 dx dy x y v u X.A h.1 h.2 hx.plain hy.plain rx ry (by omega)).2.2 X.prog X.w X.xe _ ⟨.bl _,H,I,rfl,p _ H (Aw.refl H) rfl⟩
  .exact p.elim
 |Lt=>
  refine KP iS λdx dy=>?_
  cases dx with
  |int i=>
   cases dy with
   |int j=>exact .inl ⟨i,j,rfl,rfl,rfl⟩
   |_=>exact .inr rfl
  |_=>exact .inr rfl
 |LtE=>
  refine KP iT λdx dy=>?_
  cases dx with
  |int i=>
   cases dy with
   |int j=>exact .inl ⟨i,j,rfl,rfl,rfl⟩
   |_=>exact .inr rfl
  |_=>exact .inr rfl
 |Gt=>
  refine KP gU λdx dy=>?_
  cases dx with
  |int i=>
   cases dy with
   |int j=>exact .inl ⟨i,j,rfl,rfl,rfl⟩
   |_=>exact .inr rfl
  |_=>exact .inr rfl
 |GtE=>
  refine KP gW λdx dy=>?_
  cases dx with
  |int i=>
   cases dy with
   |int j=>exact .inl ⟨i,j,rfl,rfl,rfl⟩
   |_=>exact .inr rfl
  |_=>exact .inr rfl
 |In=>
  intro A pI s Y H x y v u Q I rx ry ⟨hA,dx,dy,hx,hy,p⟩;cases dy with
  |lst es=>
   rw[lI]at p;split at p
   .rename_i h;simp only[Al]at h;obtain⟨a,xs,e,_,sq,r⟩:=hy.plain;subst e;cases ry;obtain⟨its,rv,pl,_⟩:=I.list sq;obtain⟨e,he,ha⟩:=Ld I (n:=5) X.A.in1 h.1 h.2 r rv hx.plain rx (by show X.A.units+1+5<By;omega)
    refine SeqAt.in_listAt e (HI pl) he ?_;rw[ha];exact⟨.bl _,H,I,rfl,p _ H (Aw.refl H) rfl⟩
   .exact p.elim
  |tup es=>
   rw[lH]at p;split at p
   .rename_i h;simp only[Al]at h;obtain⟨a,xs,e,_,sq,r⟩:=hy.plain;subst e;cases ry;obtain⟨its,rv,pl,_⟩:=I.tuple sq;obtain⟨e,he,ha⟩:=Ld I (n:=5) X.A.in1 h.1 h.2 r rv hx.plain rx (by show X.A.units+1+5<By;omega)
    refine SeqAt.in_tupleAt e pl he ?_;rw[ha];exact⟨.bl _,H,I,rfl,p _ H (Aw.refl H) rfl⟩
   .exact p.elim
  |dic kvs=>exact hy.plain.elim
  |_=>exact p.elim
 |NotIn=>
  intro A pI s Y H x y v u Q I rx ry ⟨hA,dx,dy,hx,hy,p⟩;cases dy with
  |lst es=>
   rw[kB]at p;split at p
   .rename_i h;simp only[Al]at h;obtain⟨a,xs,e,_,sq,r⟩:=hy.plain;subst e;cases ry;obtain⟨its,rv,pl,_⟩:=I.list sq;obtain⟨e,he,ha⟩:=Ld I (n:=5) X.A.in1 h.1 h.2 r rv hx.plain rx (by show X.A.units+1+5<By;omega)
    refine SeqAt.notIn_listAt e (HI pl) he ?_;rw[ha];exact⟨.bl _,H,I,rfl,p _ H (Aw.refl H) rfl⟩
   .exact p.elim
  |tup es=>
   rw[gY]at p;split at p
   .rename_i h;simp only[Al]at h;obtain⟨a,xs,e,_,sq,r⟩:=hy.plain;subst e;cases ry;obtain⟨its,rv,pl,_⟩:=I.tuple sq;obtain⟨e,he,ha⟩:=Ld I (n:=5) X.A.in1 h.1 h.2 r rv hx.plain rx (by show X.A.units+1+5<By;omega)
    refine SeqAt.notIn_tupleAt e pl he ?_;rw[ha];exact⟨.bl _,H,I,rfl,p _ H (Aw.refl H) rfl⟩
   .exact p.elim
  |_=>exact p.elim
 |Is=>
  intro A pI s Y H x y v u Q I rx ry ⟨hA,dx,dy,hx,hy,p⟩;cases dy with
  |non=>
   have ey:=hy.non_of;subst ey;refine cN pI s Y H _ _ v u Q I rx ry ⟨rfl,?_⟩;cases dx with
   |non=>
    have ex:=hx.non_of;subst ex;exact p _ H (Aw.refl H) rfl
   |exc=>exact p.elim
   |dic=>exact p.elim
   |_=>rw[Cn (Rr hx (by simp))];exact p _ H (Aw.refl H) rfl
  |bl b=>
   cases dx with
   |bl a=>
    have ey:=hy.bl_of;have ex:=hx.bl_of;subst ex ey;cases rx;cases ry;refine wpAny_is_plain rfl ⟨.bl (a==b),H,I,?_,p _ H (Aw.refl H) rfl⟩;cases a<;>cases b<;>rfl
   |_=>exact p.elim
  |_=>cases dx<;>exact p.elim
 |IsNot=>
  intro A pI s Y H x y v u Q I rx ry ⟨hA,dx,dy,hx,hy,p⟩;cases dy with
  |non=>
   have ey:=hy.non_of;subst ey;refine ZJ pI s Y H _ _ v u Q I rx ry ⟨rfl,?_⟩;cases dx with
   |non=>
    have ex:=hx.non_of;subst ex;exact p _ H (Aw.refl H) rfl
   |exc=>exact p.elim
   |dic=>exact p.elim
   |_=>rw[Cn (Rr hx (by simp))];exact p _ H (Aw.refl H) rfl
  |bl b=>
   cases dx with
   |bl a=>
    have ey:=hy.bl_of;have ex:=hx.bl_of;subst ex ey;cases rx;cases ry;refine wpAny_isNot_plain rfl ⟨.bl (!(a==b)),H,I,?_,p _ H (Aw.refl H) rfl⟩;cases a<;>cases b<;>rfl
   |_=>exact p.elim
  |_=>cases dx<;>exact p.elim
end
section
variable{X:Cx}{CL:ClA}{W:XW}{a b c:Am}{fa fb fc:Rho->R D}{pos:Az}
theorem Ct.bind{f:D->R Ai}{Q:Ai->Hp->Prop}{Q':VK}(h:Ct W H (r.bind f) Q)(k:∀ d v H',r=.ok d->Aw H H'->Rp H' v d->Ct W H' (f d) Q->Q' v H'):AT Rp W H r Q':=by
 cases r with
 |ok d=>exact λv H2 s2 q=>k d v H2 rfl s2 q (Ct.same s2 h)
 |exn x=>exact h
 |bad=>exact h
theorem Ct.bindB{r:R Ai}{f:Ai->R Ai}{Q:Ai->Hp->Prop}{Q':Ai->Hp->Prop}(h:Ct W H (r.bind f) Q)(k:∀ b H',r=.ok b->Aw H H'->Ct W H' (f b) Q->Q' b H'):Ct W H r Q':=by
 cases r with
 |ok d=>exact λH2 s2=>k d H2 rfl s2 (Ct.same s2 h)
 |exn x=>exact h
 |bad=>exact h
theorem Gu.bind{Rp:Hp->Ac V->Ac D->Prop}{r:R (Ac D)}{f:Ac D->R D}{Q':Ac V->Hp->Prop}(h:AT Rq W H (r.bind f) Q)(k:∀ d v H',r=.ok d->Aw H H'->Rp H' v d->AT Rq W H' (f d) Q->Q' v H'):Gu Rp W H r Q':=by
 cases r with
 |ok d=>exact λv H2 s2 q=>k d v H2 rfl s2 q (AT.same s2 h)
 |exn x=>exact h
 |bad=>exact h
theorem aZ(ha:ST X CL W a fa):SE X CL W (.UnaryOp .USub a pos) (λU=>(fa U).bind λx=>unD .USub x):=λA=>PE.weak (iL bL (ha A)) λY H Q ⟨hA,U,g,p⟩=>⟨hA,U,g,AT.bind p λd v H1 _ s1 r1 p1=>by
 cases d with
 |int i=>
  have e:=r1.int_of;subst e;exact⟨i,rfl,p1 _ H1 (Aw.refl H1) rfl⟩
 | _=>exact p1.elim⟩
theorem MH{f:Ai->R D}(h:AT Rq W H ((C8 d).bind f) Q):∃ c,d=.bl c/\AT Rq W H (f c) Q:=by
 cases d with
 |bl c=>exact⟨c,rfl,h⟩
 |_=>exact h.elim
theorem RJ(ha:ST X CL W a fa):SE X CL W (.UnaryOp .Not a pos) (λU=>(fa U).bind λx=>(C8 x).bind λb=>.ok (.bl (!b))):=λA=>PE.weak (dX (ha A)) λY H Q ⟨hA,U,g,p⟩=>⟨hA,U,g,AT.bind p λd v H1 _ s1 r1 p1=>by
 obtain⟨c,rfl,p2⟩:=MH p1;exact⟨c,r1.bl_of,p2 _ H1 (Aw.refl H1) rfl⟩⟩
theorem Nr{op}(ha:SE X CL W a fa):SE X CL W (.BoolOp op [a] pos) fa:=λA=>dW (ha A)
theorem Ra{rest:Ac Am}(ha:SE X CL W a fa)(hb:SE X CL W (.BoolOp .And (b::rest) pos) fb):SE X CL W (.BoolOp .And (a::b::rest) pos) (λU=>(fa U).bind λx=>(C8 x).bind λc=>if c=Ab then fb U else .ok (.bl Ad)):=
 λA=>PE.weak (eB (ha A) (hb A)) λY H Q ⟨hA,U,g,p⟩=>⟨hA,U,g,AT.bind p λd v H1 _ s1 r1 p1=>by
  obtain⟨c,rfl,p2⟩:=MH p1;refine⟨c,r1,?_⟩;cases c with
  |true=>exact⟨hA.same s1,U,g.same s1,p2⟩
  | false=>exact p2 _ H1 (Aw.refl H1) rfl⟩
theorem fS{rest:Ac Am}(ha:SE X CL W a fa)(hb:SE X CL W (.BoolOp .Or (b::rest) pos) fb):SE X CL W (.BoolOp .Or (a::b::rest) pos) (λU=>(fa U).bind λx=>(C8 x).bind λc=>if c=Ab then .ok (.bl Ab) else fb U):=
 λA=>PE.weak (iM (ha A) (hb A)) λY H Q ⟨hA,U,g,p⟩=>⟨hA,U,g,AT.bind p λd v H1 _ s1 r1 p1=>by
  obtain⟨c,rfl,p2⟩:=MH p1;refine⟨c,r1,?_⟩;cases c with
  |false=>exact⟨hA.same s1,U,g.same s1,p2⟩
  | true=>exact p2 _ H1 (Aw.refl H1) rfl⟩
theorem getL_at{xs:Ac D}{i:Ah}(h:Du xs i=.ok d):∃ k,plD xs.length i=Aa k/\xs[k]?=Aa d:=by
 unfold Du at h;split at h
 .rename_i k e;split at h
  .rename_i d' e';cases h;exact⟨k,e,e'⟩
  .cases h
 .cases h
theorem IW{xs:Ac D}{i:Ah}{x:Ex}(h:Du xs i=.exn x):AV:=by
 unfold Du at h;split at h
 .split at h<;>cases h
 .cases h
theorem QL{ds:Ac D}{i:Ah}(r:Reps K CL H A xs ds)(h:Du ds i=.ok d):∃ v,atI xs i=Aa v/\Rep K CL H A v d:=by
 obtain⟨k,e,q⟩:=getL_at h;obtain⟨v,hv,rv⟩:=r.get q;refine⟨v,?_,rv⟩;unfold atI;have:ixN xs.length i=Aa k:=by rw[r.length];exact e
 rw[this];exact hv
theorem aF{z:Ag}{i:Ah}(h:Du (Js z) i=.ok d):∃ c,atI z.cps.toList i=Aa c/\d=.str ⟨#[c]⟩:=by
 obtain⟨k,e,q⟩:=getL_at h;unfold Js at e q;rw[BO]at e;rw[CJ]at q;cases hc:z.cps.toList[k]? with
 |none=>rw[hc]at q;cases q
 |some c=>
  rw[hc]at q;refine⟨c,?_,(Bc q).symm⟩;unfold atI;have:ixN z.cps.toList.length i=Aa k:=e;rw[this];exact hc
theorem OJ(h:BY n=Ab):n<=sizeLine:=by
 unfold BY at h;have:=BS h;rw[BV];omega
theorem bG(hs:M1 b)(ha:ST X CL W a fa)(hb:ST X CL W b fb):SE X CL W (.Subscript a b pos) (λU=>(fa U).bind λx=>(fb U).bind λy=>Cy x y):=
 λA=>PE.weak (iN (r:=rIx X.K) cA (ha A) (hb A) hs) λY H Q h=>by
  obtain⟨hA,U,g,h⟩:=op2 h;refine⟨hA,U,g,?_⟩;cases e:fa U with
  |bad=>rw[e]at h;exact h
  |exn x=>rw[e]at h;exact h
  |ok dx0=>
   rw[e]at h;intro x H1 s1 r1;obtain⟨hA1,U1,g1,h1⟩:=h x H1 s1 r1;refine⟨hA1,U1,g1,?_⟩;cases e1:fb U1 with
   |bad=>rw[e1]at h1;exact h1
   |exn x=>rw[e1]at h1;exact h1
   |ok dy0=>
    rw[e1]at h1;intro y H2 s2 r2;obtain⟨hA2,dx,dy,rx,ry,p⟩:=h1 y H2 s2 r2;cases dy with
    |int i=>
     have ey:=ry.int_of;subst ey;cases dx with
     |lst ds=>
      obtain⟨q,xs,rfl,sq,r⟩:=rx.lst_of;rw[jV]at p;cases e2:Du ds i with
      |ok d=>
       rw[e2]at p;obtain⟨v,hv,rv⟩:=QL r e2;exact .inl ⟨q,xs,i,v,rfl,rfl,sq,hv,p v H2 (Aw.refl H2) rv⟩
      |exn x=>exact(IW e2).elim
      |bad=>rw[e2]at p;exact p.elim
     |tup ds=>
      obtain⟨q,xs,rfl,_,sq,r⟩:=rx.tup_of;rw[jU]at p;cases e2:Du ds i with
      |ok d=>
       rw[e2]at p;obtain⟨v,hv,rv⟩:=QL r e2;exact .inr (.inl ⟨q,xs,i,v,rfl,rfl,sq,hv,p v H2 (Aw.refl H2) rv⟩)
      |exn x=>exact(IW e2).elim
      |bad=>rw[e2]at p;exact p.elim
     |str z=>
      have ex:=rx.str_of;subst ex;have p':AT (λH=>Rep X.K CL H A) W H2 (if BY z.length=Ab then Du (Js z) i else .bad) Q:=p
      split at p'
      .rename_i hz;cases e2:Du (Js z) i with
       |ok d=>
        rw[e2]at p';obtain⟨c,hc,rfl⟩:=aF e2;exact .inr (.inr ⟨z,i,c,rfl,rfl,OJ hz,hc,p' _ H2 (Aw.refl H2) rfl⟩)
       |exn x=>exact(IW e2).elim
       |bad=>rw[e2]at p';exact p'.elim
      .exact p'.elim
     |dic=>exact rx.plain.elim
     |_=>exact p.elim
    |_=>cases dx<;>first|exact p.elim|exact rx.plain.elim
theorem Re:SA X CL W [] (λ_=>.ok []):=λA=>PA.weak EQ λY H Q ⟨hA,U,g,p⟩=>p [] H (Aw.refl H) trivial
theorem Qi(ha:SE X CL W a fa)(hs:SA X CL W es fs)(hst:Aq (a::es) X.env=(Ad,eval a X.env)::Aq es X.env):SA X CL W (a::es) (λU=>(fa U).bind λx=>(fs U).bind λxs=>.ok (x::xs)):=
 λA=>PA.weak (Dt (ha A) (hs A) hst) λY H Q ⟨hA,U,g,p⟩=>by
  dsimp only at p;refine⟨hA,U,g,?_⟩;cases e:fa U with
  |bad=>rw[e]at p;exact p
  |exn x=>rw[e]at p;exact p
  |ok d=>
   rw[e]at p;intro v H1 s1 r1;refine⟨hA.same s1,U,g.same s1,?_⟩;cases e1:fs U with
   |bad=>rw[R.bind_ok,e1]at p;exact p
   |exn x=>rw[R.bind_ok,e1]at p;exact λH2 s2=>p H2 (s1.trans s2)
   |ok ds=>
    rw[R.bind_ok,e1]at p;exact λvs H2 s2 r2=>p (v::vs) H2 (s1.trans s2) ⟨r1.same s2,r2⟩
theorem RI(hs:SA X CL W es fs)(hz:∀ U ds,fs U=.ok ds->ds.length<=100000):SE X CL W (.Tuple es k pos) (λU=>(fs U).bind λxs=>.ok (.tup xs)):=
 λA=>PE.weak (Rj (hs A)) λY H Q ⟨hA,U,g,p⟩=>⟨hA,U,g,Gu.bind p λds vs H1 e s1 r1 p1=>⟨by
  rw[r1.length,BV];have:=hz U ds e;omega,λq hq=>p1 _ _ (Eb hq _) (Jb (hA.same s1) hq r1)⟩⟩
def ID(W:XW)(H:Hp)(r:R (An Ah))(Q:An Ah->Hp->Prop):Prop:=match r with
  |.ok o=>∀ H',Aw H H'->Q o H'
  |.exn x=>∀ H',Aw H H'->W x H'
  |.bad=>AV
theorem ID.bind{r:R (An Ah)}{f:An Ah->R D}(h:AT Rq W H (r.bind f) Q)(k:∀ o H',r=.ok o->Aw H H'->AT Rq W H' (f o) Q->Q' o H'):ID W H r Q':=by
 cases r with
 |ok d=>exact λH2 s2=>k d H2 rfl s2 (AT.same s2 h)
 |exn x=>exact h
 |bad=>exact h
def SO(X:Cx)(CL:ClA)(W:XW)(e:An Am)(f:Rho->R (An Ah)):Prop:=∀ A,PO X e (λY H Q=>AOk H A/\∃ U,Good X.K CL A U Y H/\ID W H (f U) Q)
theorem PO.weak{e:An Am}{t t':TO}(h:PO X e t)(k:∀ Y H Q,t' Y H Q->t Y H Q):PO X e t':=λpI s Y H Q I q=>h pI s Y H Q I (k _ _ _ q)
theorem YG:SO X CL W Ae (λ_=>.ok Ae):=λA=>PO.weak ZA λY H Q ⟨hA,U,g,p⟩=>p H (Aw.refl H)
theorem YF(ha:ST X CL W a fa):SO X CL W (Aa a) (λU=>(fa U).bind λd=>(Ey d).bind λi=>.ok (Aa i)):=λA=>PO.weak (Zz (ha A)) λY H Q ⟨hA,U,g,p⟩=>by
 dsimp only at p;refine⟨hA,U,g,?_⟩;cases e:fa U with
 |bad=>rw[e]at p;exact p
 |exn x=>rw[e]at p;exact p
 |ok d=>
  rw[e]at p;intro v H1 s1 r1;cases d with
  |int i=>exact⟨i,r1.int_of,p H1 s1⟩
  |_=>exact p.elim
theorem QZ{ds:Ac D}(lo hi:An Ah)(r:Reps K CL H A xs ds):Reps K CL H A (HV xs lo hi) (Jy ds lo hi):=by
 unfold HV Jy;have e:∀ d o,HT.sIx xs.length d o=Hm ds.length d o:=λd o=>by rw[r.length];cases o<;>rfl
 rw[e,e,r.length];exact(r.drop _).take _
end
section
variable{X:Cx}{CL:ClA}{W:XW}{a b c:Am}{fa fb fc:Rho->R D}{pos:Az}
def E6(K:Fg)(CL:ClA)(H:Hp)(A:Ak->Prop):Ac V->Ac D->Prop
 |[],[]=>Gp
 |v::vs,d::ds=>B6 K CL H A v d/\E6 K CL H A vs ds
 |_,_=>AV
theorem E6.same{K:Fg}{H H':Hp}{A:Ak->Prop}(s:Aw H H'):∀{vs:Ac V}{ds:Ac D},E6 K CL H A vs ds->E6 K CL H' A vs ds
 |[],[],h=>h
 |_::_,_::_,h=>⟨h.1.same s,E6.same s h.2⟩
 |[],_::_,h=>h.elim
 |_::_,[],h=>h.elim
theorem E6.one(h:E6 K CL H A vs [d]):∃ v,vs=[v]/\B6 K CL H A v d:=by
 cases vs with
 |nil=>exact h.elim
 |cons v vs=>
  cases vs with
  |nil=>exact⟨v,rfl,h.1⟩
  |cons=>exact h.2.elim
theorem E6.two{e:D}(h:E6 K CL H A vs [d,e]):∃ v w',vs=[v,w']/\B6 K CL H A v d/\B6 K CL H A w' e:=by
 cases vs with
 |nil=>exact h.elim
 |cons v vs=>
  cases vs with
  |nil=>exact h.2.elim
  |cons w' vs=>
   cases vs with
   |nil=>exact⟨v,w',rfl,h.1,h.2.1⟩
   |cons=>exact h.2.2.elim
def SAT(X:Cx)(CL:ClA)(W:XW)(es:Ac Am)(f:Rho->R (Ac D)):Prop:=∀ A,PA X es (λY H Q=>AOk H A/\∃ U,Good X.K CL A U Y H/\Gu (λH=>E6 X.K CL H A) W H (f U) Q)
theorem Yh:SAT X CL W [] (λ_=>.ok []):=λA=>PA.weak EQ λY H Q ⟨hA,U,g,p⟩=>p [] H (Aw.refl H) trivial
theorem XI(ha:ST X CL W a fa)(hs:SAT X CL W es fs)(hst:Aq (a::es) X.env=(Ad,eval a X.env)::Aq es X.env):SAT X CL W (a::es) (λU=>(fa U).bind λx=>(fs U).bind λxs=>.ok (x::xs)):=
 λA=>PA.weak (Dt (ha A) (hs A) hst) λY H Q ⟨hA,U,g,p⟩=>by
  dsimp only at p;refine⟨hA,U,g,?_⟩;cases e:fa U with
  |bad=>rw[e]at p;exact p
  |exn x=>rw[e]at p;exact p
  |ok d=>
   rw[e]at p;intro v H1 s1 r1;refine⟨hA.same s1,U,g.same s1,?_⟩;cases e1:fs U with
   |bad=>rw[R.bind_ok,e1]at p;exact p
   |exn x=>rw[R.bind_ok,e1]at p;exact λH2 s2=>p H2 (s1.trans s2)
   |ok ds=>
    rw[R.bind_ok,e1]at p;exact λvs H2 s2 r2=>p (v::vs) H2 (s1.trans s2) ⟨r1.same s2,r2⟩
def Hi(X:Cx)(CL:ClA)(W:XW)(f:Aj)(g:Ac D->R D):Prop:=∀ A,FZ X f (λxs H Q=>AOk H A/\∃ ds,E6 X.K CL H A xs ds/\AT (λH=>Rep X.K CL H A) W H (g ds) Q)
theorem J6{id:Cr}{g:Ac D->R D}(hc:Hi X CL W (.builtin id) g)(hg:Gl X x)(hm:X.mg x=Ae)(hv:Cq x=Aa (.builtin id))(ha:SAT X CL W (e::es) fs)(hn:x≠"__name__")(hdb:(x==("__debug__" : Ag))=Ad)(he:Aq (e::es) X.env=(Ad,eval e X.env)::Aq es X.env)(hpl:∀ pos,(Bq pos (Aq es X.env)).any (·.1)=Ad):SE X CL W (.Call (.Name x p) (e::es) [] pos) (λU=>(fs U).bind g):=λA=>PE.weak (IS (hc A) hg hm hv (ha A) hn hdb he (hpl _)) λY H Q ⟨hA,U,gd,q⟩=>⟨hA,U,gd,Gu.bind q λds vs H1 _ s1 r1 p1=>⟨hA.same s1,ds,r1,p1⟩⟩
theorem RN{g:Ac D->R D}(hc:Hi X CL W (.type T) g)(hg:Gl X x)(hm:X.mg x=Ae)(hv:Cq x=Aa (.type T))(ha:SAT X CL W (e::es) fs)(hn:x≠"__name__")(hdb:(x==("__debug__" : Ag))=Ad)(he:Aq (e::es) X.env=(Ad,eval e X.env)::Aq es X.env)(hpl:∀ pos,(Bq pos (Aq es X.env)).any (·.1)=Ad):SE X CL W (.Call (.Name x p) (e::es) [] pos) (λU=>(fs U).bind g):=λA=>PE.weak (Pf (hc A) hg hm hv (ha A) hn hdb he (hpl _)) λY H Q ⟨hA,U,gd,q⟩=>⟨hA,U,gd,Gu.bind q λds vs H1 _ s1 r1 p1=>⟨hA.same s1,ds,r1,p1⟩⟩
theorem eT:Hi X CL W (.builtin "len") (biD .len):=by
  intro A pI s Y H xs us Q I r ⟨hA,ds,rs,p⟩
  match ds,rs,p with
  |[.lst es],rs,p=>
    obtain⟨v,rfl,rv⟩:=rs.one;obtain⟨q,ys,rfl,sq,ry⟩:=rv.lst_of;exact OD pI s Y H _ us Q I r ⟨q,ys,rfl,.inl sq,p _ H (Aw.refl H) (by rw[ry.length];rfl)⟩
  |[.tup es],rs,p=>
    obtain⟨v,rfl,rv⟩:=rs.one;obtain⟨q,ys,rfl,_,sq,ry⟩:=rv.tup_of;exact OD pI s Y H _ us Q I r ⟨q,ys,rfl,.inr sq,p _ H (Aw.refl H) (by rw[ry.length];rfl)⟩
  |[.str x],rs,p=>
    obtain⟨v,rfl,rv⟩:=rs.one;have e:=rv.str_of;subst e;have p':AT (λH=>Rep X.K CL H A) W H (if BY x.length=Ab then .ok (.int x.length) else .bad) Q:=p
    split at p'
    · rename_i h;exact Wa pI s Y H _ us Q I r ⟨x,rfl,Ie h,p' _ H (Aw.refl H) rfl⟩
    · exact p'.elim
  |[],_,p=>exact p.elim
  |[.non],_,p=>exact p.elim
  |[.bl _],_,p=>exact p.elim
  |[.int _],_,p=>exact p.elim
  |[.obj _ _],_,p=>exact p.elim
  |[.exc _ _],_,p=>exact p.elim
  |[.dic _],rs,p=>first|exact p.elim|(obtain⟨v,rfl,rv⟩:=rs.one;exact rv.plain.elim)
  |x::_::_,_,p=>cases x<;>exact p.elim
theorem Ww(ds:Ac D):(∃ i j,ds=[.int i,.int j])\/biD .max ds=.bad:=by
  match ds with
  |[.int i,.int j]=>exact .inl ⟨i,j,rfl⟩
  |[]=>exact .inr rfl
  |[x]=>cases x<;>exact .inr rfl
  |x::y::z::r=>cases x<;>cases y<;>exact .inr rfl
  |[x,.non]=>cases x<;>exact .inr rfl
  |[x,.bl _]=>cases x<;>exact .inr rfl
  |[x,.str _]=>cases x<;>exact .inr rfl
  |[x,.tup _]=>cases x<;>exact .inr rfl
  |[x,.lst _]=>cases x<;>exact .inr rfl
  |[x,.obj _ _]=>cases x<;>exact .inr rfl
  |[x,.exc _ _]=>cases x<;>exact .inr rfl
  |[x,.dic _]=>cases x<;>exact .inr rfl
  |[.non,.int _]=>exact .inr rfl
  |[.bl _,.int _]=>exact .inr rfl
  |[.str _,.int _]=>exact .inr rfl
  |[.tup _,.int _]=>exact .inr rfl
  |[.lst _,.int _]=>exact .inr rfl
  |[.obj _ _,.int _]=>exact .inr rfl
  |[.exc _ _,.int _]=>exact .inr rfl
  |[.dic _,.int _]=>exact .inr rfl
theorem Pi:∀(is:Ac Ah)(i:Ah),GP i is∈i::is/\∀ a∈i::is,GP i is<=a
 |[],i=>⟨AB,λa h=>by rw[List.mem_singleton]at h;rw[h];exact TC _⟩
 |j::r,i=>by
  obtain⟨h1,h2⟩:=Pi r (if j<i then j else i)
  refine⟨?_,λa h=>?_⟩
  .show GP (if j<i then j else i) r∈_
   rcases AG.mp h1 with e|e
   .rw[e];split
    .exact Ax _ AB
    .exact AB
   .exact Ax _ (Ax _ e)
  .show GP (if j<i then j else i) r<=a
   have h0:=h2 _ AB;rcases AG.mp h with e|e
   .subst e;refine TD h0 ?_;split<;>omega
   .rcases AG.mp e with e|e
    .subst e;refine TD h0 ?_;split<;>omega
    .exact h2 a (Ax _ e)
theorem OP:∀{is:Ac Ah}{its:Ac Aj},AX (is.map V.int) its->∃ xs:A3 (Ah×B9),its.toArray=JJ xs/\xs.toList.map (·.1)=is
 |[],_,h=>by cases h;exact⟨#[],by simp[JJ],rfl⟩
 |i::is,_,h=>by
  cases h with
  |cons h1 h2=>
   obtain⟨t,rfl⟩:=h1;obtain⟨xs,e1,e2⟩:=OP h2;refine⟨((i,t)::xs.toList).toArray,?_,?_⟩
   .apply Array.toList_inj.mp
    have e1':=congrArg Ht e1;simp[JJ]at e1' ⊢;exact e1'
   .simp[e2]
theorem WV(hc:X.calm=Ab):FZ X (.builtin "min") (λxs H Q=>∃ a i is,xs=[.ref a]/\SqL X.K H a ((i::is).map V.int)/\Q (.int (GP i is)) H):=by
 intro pI s Y H xs us Q I r h;obtain⟨a,i,is,rfl,sq,q⟩:=h;obtain⟨u,rfl,ru⟩:=Gs r;cases ru;obtain⟨its,rv,pl,hz⟩:=I.list sq;obtain⟨ys,e1,e2⟩:=OP rv;have hsz:0<ys.size:=by
  have:=congrArg TY e2;simp at this;omega
 have hl:=pl.isList;rw[e1]at hl;refine min_intList (I.ok.hd hc) hl hsz λv h' tk hv hk=>?_
 obtain⟨t,rfl⟩:=intItems_at hv;obtain⟨h1,h2⟩:=argBest_lt (G7 ys) (ys.size-1);have nm:∀ j,j<ys.size->G7 ys j∈i::is:=λj hj=>by
  rw[<-e2];unfold G7;rw[Tu hj];simp only[Uh,Option.getD_some];exact List.mem_map.mpr ⟨ys[j],by simp,rfl⟩
 have nx:∀ x∈i::is,∃ j,j<ys.size/\G7 ys j=x:=λx hx=>by
  rw[<-e2]at hx;obtain⟨y,hy,rfl⟩:=Gf.mp hx;obtain⟨j,hj,ej⟩:=Array.mem_iff_getElem.mp (Array.mem_toList_iff.mp hy);refine⟨j,hj,?_⟩;unfold G7;rw[Tu hj,ej];rfl
 obtain⟨m1,m2⟩:=Pi is i;have em:G7 ys (argBest (λi j=>decide (G7 ys i<G7 ys j)) (ys.size-1))=GP i is:=by
  refine Int.le_antisymm ?_ (m2 _ (nm _ (by omega)))
  obtain⟨j,hj,ej⟩:=nx _ m1;rw[<-ej];exact h2 j (by omega)
 rw[em];exact⟨.int (GP i is),H,I.kept hk,⟨_,rfl⟩,q⟩
theorem OQ{K:Fg}{CL:ClA}{H:Hp}{A:Ak->Prop}:∀{es:Ac D}{is:Ac Ah}{ys:Ac V},Hg es=Aa is->Reps K CL H A ys es->ys=is.map V.int
 |[],_,[],h,_=>by cases h;rfl
 |[],_,_::_,_,r=>r.elim
 |_::_,_,[],_,r=>r.elim
 |e::es,is,y::ys,h,r=>by
  cases e with
  |int i=>
   have h':(Hg es).map (i :: ·)=Aa is:=h;cases e2:Hg es with
   |none=>rw[e2]at h';cases h'
   |some js=>
    rw[e2]at h';cases h';have ih:=OQ e2 r.2;have e1:y=.int i:=r.1;rw[ih,e1];rfl
  |_=>cases h
theorem Wv(ds:Ac D)(hl:∀ es,ds≠[.lst es]):(∃ i j,ds=[.int i,.int j])\/biD .min ds=.bad:=by
 rcases ds with _|⟨x,_|⟨y,_|⟨z,r⟩⟩⟩
 .exact .inr rfl
 .cases x with
  |lst es=>exact absurd rfl (hl es)
  |_=>exact .inr rfl
 .cases x with
  |int i=>
   cases y with
   |int j=>exact .inl ⟨i,j,rfl⟩
   |_=>exact .inr rfl
  |_=>exact .inr rfl
 .cases x with
  |int i=>cases y<;>exact .inr rfl
  |_=>exact .inr rfl
theorem eS(hc:X.calm=Ab):Hi X CL W (.builtin "max") (biD .max):=by
 intro A pI s Y H xs us Q I r ⟨hA,ds,rs,p⟩;rcases Ww ds with ⟨i,j,rfl⟩|e
 .obtain⟨v,w',rfl,rv,rw'⟩:=rs.two;have e1:=rv.int_of;have e2:=rw'.int_of
  subst e1 e2;exact WX hc pI s Y H _ us Q I r ⟨i,j,rfl,p _ H (Aw.refl H) rfl⟩
 .rw[e]at p;exact p.elim
theorem eR(hc:X.calm=Ab):Hi X CL W (.builtin "min") (biD .min):=by
  intro A pI s Y H xs us Q I r ⟨hA,ds,rs,p⟩;by_cases hls:∃ es,ds=[.lst es]
  · obtain⟨es,rfl⟩:=hls;obtain⟨v,rfl,rv⟩:=rs.one;obtain⟨a,ys,rfl,sq,ry⟩:=rv.lst_of;have p':AT (Rep X.K CL · A) W H (match Hg es with
      |some (i::is)=>R.ok (.int (GP i is))
      | _=>.bad) Q:=p
    cases e1:Hg es with
    |none=>rw[e1]at p';exact p'.elim
    |some is=>
      cases is with
      |nil=>rw[e1]at p';exact p'.elim
      |cons i is=>
        rw[e1]at p';have ey:=OQ e1 ry;subst ey;exact WV hc pI s Y H _ us Q I r ⟨a,i,is,rfl,sq,p' _ H (Aw.refl H) rfl⟩
  rcases Wv ds (λes z=>hls ⟨es,z⟩) with ⟨i,j,rfl⟩|e
  · obtain⟨v,w',rfl,rv,rw'⟩:=rs.two;have e1:=rv.int_of;have e2:=rw'.int_of
    subst e1 e2;exact WW hc pI s Y H _ us Q I r ⟨i,j,rfl,p _ H (Aw.refl H) rfl⟩
  · rw[e]at p;exact p.elim
theorem Yd:Hi X CL W (.type "tuple") (biD .tuple):=by
  intro A pI s Y H xs us Q I r ⟨hA,ds,rs,p⟩
  match ds,rs,p with
  |[.lst es],rs,p=>
    obtain⟨v,rfl,rv⟩:=rs.one;obtain⟨q,ys,rfl,sq,ry⟩:=rv.lst_of;exact OG pI s Y H _ us Q I r ⟨q,ys,rfl,.inl ⟨sq,λl hl=>p _ _ (Eb hl _) (Jb hA hl ry)⟩⟩
  |[.tup es],rs,p=>
    obtain⟨v,rfl,rv⟩:=rs.one;obtain⟨q,ys,rfl,na,sq,ry⟩:=rv.tup_of;exact OG pI s Y H _ us Q I r ⟨q,ys,rfl,.inr ⟨sq,p _ H (Aw.refl H) ⟨q,ys,rfl,na,sq,ry⟩⟩⟩
  |[],_,p=>exact p.elim
  |[.non],_,p=>exact p.elim
  |[.bl _],_,p=>exact p.elim
  |[.int _],_,p=>exact p.elim
  |[.str _],_,p=>exact p.elim
  |[.obj _ _],_,p=>exact p.elim
  |[.exc _ _],_,p=>exact p.elim
  |[.dic _],rs,p=>first|exact p.elim|(obtain⟨v,rfl,rv⟩:=rs.one;exact rv.plain.elim)
  |x::_::_,_,p=>cases x<;>exact p.elim
end
section
variable{X:Cx}{CL:ClA}{W:XW}{a b c:Am}{fa fb fc:Rho->R D}{pos:Az}
theorem SB.congr{f g:Rho->R Ai}(h:SB X CL W a f)(e:∀ U,g U=f U):SB X CL W a g:=λA=>PT.weak (h A) λY H Q ⟨hA,U,q,p⟩=>⟨hA,U,q,by rw[<-e];exact p⟩
theorem aH{f:Rho->R Ai}(ha:SB X CL W a f):SB X CL W (.UnaryOp .Not a pos) (λU=>(f U).bind λb=>.ok (!b)):=λA=>PT.weak (dQ (ha A)) λY H Q ⟨hA,U,g,p⟩=>⟨hA,U,g,Ct.bindB p λb H1 _ s1 p1=>p1 H1 (Aw.refl H1)⟩
def SW(X:Cx)(CL:ClA)(W:XW)(e:Am)(f:Rho->R Ai):Prop:=∀ A,PW X e (λY H Q=>AOk H A/\∃ U,Good X.K CL A U Y H/\Ct W H (f U) Q)
theorem PW.weak{t t':TT}(h:PW X e t)(k:∀ Y H Q,t' Y H Q->t Y H Q):PW X e t':=λwh pI s Y H Q I q=>h wh pI s Y H Q I (k _ _ _ q)
theorem SW.sb{f:Rho->R Ai}(h:SW X CL W a f):SB X CL W a f:=λA=>PW.pt (h A)
theorem SW.congr{f g:Rho->R Ai}(h:SW X CL W a f)(e:∀ U,g U=f U):SW X CL W a g:=λA=>PW.weak (h A) λY H Q ⟨hA,U,q,p⟩=>⟨hA,U,q,by rw[<-e];exact p⟩
theorem Yt{f:Rho->R Ai}(ha:SB X CL W a f):SW X CL W (.BoolOp .And [a] pos) f:=λA=>Yo (ha A)
theorem bT{f:Rho->R Ai}(ha:SB X CL W a f):SW X CL W (.BoolOp .Or [a] pos) f:=λA=>dO (ha A)
theorem bU{f g:Rho->R Ai}{rest:Ac Am}(ha:SB X CL W a f)(hb:SW X CL W (.BoolOp .And (b::rest) pos) g):SW X CL W (.BoolOp .And (a::b::rest) pos) (λU=>(f U).bind λc=>if c=Ab then g U else .ok Ad):=
 λA=>PW.weak (dP (ha A) (hb A)) λY H Q ⟨hA,U,gd,p⟩=>⟨hA,U,gd,Ct.bindB p λc H1 _ s1 p1=>by
  cases c with
  |true=>exact⟨hA.same s1,U,gd.same s1,p1⟩
  | false=>exact p1 H1 (Aw.refl H1)⟩
theorem gK{f g:Rho->R Ai}{rest:Ac Am}(ha:SB X CL W a f)(hb:SW X CL W (.BoolOp .Or (b::rest) pos) g):SW X CL W (.BoolOp .Or (a::b::rest) pos) (λU=>(f U).bind λc=>if c=Ab then .ok Ab else g U):=
 λA=>PW.weak (iI (ha A) (hb A)) λY H Q ⟨hA,U,gd,p⟩=>⟨hA,U,gd,Ct.bindB p λc H1 _ s1 p1=>by
  cases c with
  |false=>exact⟨hA.same s1,U,gd.same s1,p1⟩
  | true=>exact p1 H1 (Aw.refl H1)⟩
theorem aI(ho:OpD X CL W (Cm op) g)(ha:ST X CL W a fa)(hb:ST X CL W b fb)(hm:FU op b=Ad):SB X CL W (.Compare a [op] [b] pos) (λU=>(fa U).bind λx=>(fb U).bind λy=>(g x y).bind C8):=
 λA=>PT.weak (Zu (ho A) (ha A) (hb A) hm) λY H Q ⟨hA,U,gd,p⟩=>⟨hA,U,gd,Ct.bind p λdx x H1 _ s1 r1 p1=>⟨hA.same s1,U,gd.same s1,Ct.bind p1 λdy y H2 _ s2 r2 p2=>
  ⟨(hA.same s1).same s2,dx,dy,r1.same s2,r2,Ct.bind p2 λdz z H3 _ s3 r3 p3=>by
   cases dz with
   |bl k=>exact⟨k,r3,p3 H3 (Aw.refl H3)⟩
   | _=>exact p3.elim⟩⟩⟩
theorem XH{op':CH}(hu:X.A.units+64<By)(ha:ST X CL W a fa)(hb:ST X CL W b fb)(hc:ST X CL W c fc)(hm:lastMarks [op,op'] [b,c]=Ad):SB X CL W (.Compare a [op,op'] [b,c] pos) (λU=>(fa U).bind λx=>(fb U).bind λy=>(Br op x y).bind λz=>(C8 z).bind λk=>if k=Ab then (fc U).bind λu=>(Br op' y u).bind C8 else .ok Ad):=
  λA=>PT.weak (XQ (K1 hu op A) (K1 hu op' A) (ha A) (hb A) (hc A) hm) λY H Q ⟨hA,U,g,p⟩=>⟨hA,U,g,Ct.bind p λdx x H1 _ s1 r1 p1=>⟨hA.same s1,U,g.same s1,Ct.bind p1 λdy y H2 _ s2 r2 p2=>
    ⟨(hA.same s1).same s2,dx,dy,r1.same s2,r2,Ct.bind p2 λdz z H3 _ s3 r3 p3=>by
      cases dz with
      |bl k=>
        refine⟨k,r3,?_⟩;cases k with
        |false=>exact⟨Ad,rfl,p3 H3 (Aw.refl H3)⟩
        | true=>exact⟨((hA.same s1).same s2).same s3,U,((g.same s1).same s2).same s3,Ct.bind p3 λdu u H4 _ s4 r4 p5=>⟨(((hA.same s1).same s2).same s3).same s4,dy,du,(r2.same s3).same s4,r4,Ct.bind p5 λdv v H5 _ s5 r5 p6=>by
            cases dv with
            |bl k'=>exact⟨k',r5,p6 H5 (Aw.refl H5)⟩
            | _=>exact p6.elim⟩⟩
      | _=>exact p3.elim⟩⟩⟩
theorem aG(ha:ST X CL W a fa)(he:∀ whole,GX a X.env whole=(do let v <-whole;standAt a.pos;holding [v] (truthy v))):SB X CL W a (λU=>(fa U).bind BE):=
 λA=>PT.weak (XN (ha A) he) λY H Q ⟨hA,U,g,p⟩=>⟨hA,U,g,Ct.bind p λd v H1 _ s1 r1 p1=>by
  cases d with
  |non=>
   have e:=r1.non_of;subst e;exact⟨Ad,rfl,p1 H1 (Aw.refl H1)⟩
  |bl b=>
   have e:=r1.bl_of;subst e;exact⟨b,rfl,p1 H1 (Aw.refl H1)⟩
  |int i=>
   have e:=r1.int_of;subst e;exact⟨_,rfl,p1 H1 (Aw.refl H1)⟩
  |str x=>
   have e:=r1.str_of;subst e;have p2:Ct W H1 (if BY x.length=Ab then .ok (x.length != 0) else .bad) Q:=p1
   split at p2
   .rename_i h;refine⟨_,⟨Ie h,rfl⟩,?_⟩;have e:((x.length:Ah) != 0)=(x.length != 0):=by
     rw[Tw];simp
    rw[e];exact p2 H1 (Aw.refl H1)
   .exact p2.elim
  |tup ds=>
   obtain⟨q,xs,rfl,_,sq,r⟩:=r1.tup_of;refine⟨_,.inr (.inl ⟨xs,sq,rfl⟩),?_⟩;have e:xs.isEmpty=ds.isEmpty:=by
    have:=r.length;cases xs<;>cases ds<;>first|rfl|cases this
   rw[e];exact p1 H1 (Aw.refl H1)
  |lst ds=>
   obtain⟨q,xs,rfl,sq,r⟩:=r1.lst_of;refine⟨_,.inl ⟨xs,sq,rfl⟩,?_⟩;have e:xs.isEmpty=ds.isEmpty:=by
    have:=r.length;cases xs<;>cases ds<;>first|rfl|cases this
   rw[e];exact p1 H1 (Aw.refl H1)
  | _=>exact p1.elim⟩
noncomputable def kX(K:Fg)(CL:ClA)(H:Hp)(A:Ak->Prop)(cls:Aj)(dx:An Ak)(x:Ex):Prop:=
 ∃ C,CL x.c=Aa C/\cls=.ref C/\(x.fs=[]\/∃ d vs,dx=Aa d/\¬ A d/\H d=Aa (.xd vs)/\Repf K CL H A vs x.fs)
def ET(K:Fg)(CL:ClA)(H:Hp)(cls:Aj)(dx:An Ak)(x:Ex):Prop:=∀ A,AOk H A->kX K CL H A cls dx x
end
structure Fr where
 f:Ak->HO->Prop
 pin:Af->Ak->Ac V->Prop
variable{Fz:Fr}
instance:CoeFun Fr λ_=>Ak->HO->Prop:=⟨Fr.f⟩
def Ba(B:Ak->Prop)(U:Rho)(Y:L2.St):Ak->Prop:=λa=>B a\/∃(j:Af)(d:D),U[j]?=Aa (Aa (d,Ab))/\Y[j]?=Aa (Aa (.ref a))
structure Sx (K:Fg) (CL:ClA) (Fz:Fr) (B:Ak->Prop) (U:Rho) (Y:L2.St) (H:Hp):Prop where
 good:Good K CL (Ba B U Y) U Y H
 aok:AOk H (Ba B U Y)
 new:∀(j:Af)(d:D)(a:Ak),U[j]?=Aa (Aa (d,Ab))->Y[j]?=Aa (Aa (.ref a))->(∀ o,¬ Fz a o)/\¬ B a
 dis:∀(i j:Af)(d e:D)(a:Ak),U[i]?=Aa (Aa (d,Ab))->U[j]?=Aa (Aa (e,Ab))->Y[i]?=Aa (Aa (.ref a))->Y[j]?=Aa (Aa (.ref a))->i=j
 same:∀ b o,Fz b o->H b=Aa o
 len:U.length=Y.length
 pin:∀ j:Af,U[j]?=Aa (Aa (.non,Ab))->∃ a xs,Fz.pin j a xs/\Y[j]?=Aa (Aa (.ref a))/\H a=Aa (.lst xs)
def Bh(K:Fg)(CL:ClA)(Fz:Fr)(B:Ak->Prop)(W:XW)(o:O)(D:Ends):Prop:=match o with
  |.next U=>∀ Y H,Sx K CL Fz B U Y H->D.nx Y H
  |.brk U=>∀ Y H,Sx K CL Fz B U Y H->D.bk Y H
  |.cont U=>∀ Y H,Sx K CL Fz B U Y H->D.ct Y H
  |.ret d fr=>∀ v H,(∀ b o,Fz b o->H b=Aa o)->Rep K CL H B v d->(fr=Ab->∀ ds,d=.lst ds->∃ a xs,v=.ref a/\(∀ o,¬ Fz a o)/\H a=Aa (.lst xs)/\Reps K CL H (λb=>B b\/b=a) xs ds)->D.rt v H
  |.exn x _=>∀ H,(∀ b o,Fz b o->H b=Aa o)->W x H
  |.bad=>AV
section
variable{K:Fg}{CL:ClA}{Fz Fy:Fr}{B:Ak->Prop}{U:Rho}{Y:L2.St}{H H':Hp}
theorem Sx.mono(k:∀ b o,Fz b o->Fy b o)(kp:∀ j a xs,Fy.pin j a xs->Fz.pin j a xs)(x:Sx K CL Fy B U Y H):Sx K CL Fz B U Y H:=⟨x.good,x.aok,λj d a h1 h2=>⟨λo z=>(x.new j d a h1 h2).1 o (k _ _ z),(x.new j d a h1 h2).2⟩,x.dis,λb o z=>x.same b o (k _ _ z),x.len,λj h=>let ⟨a,xs,h1,h2⟩:=x.pin j h;⟨a,xs,kp _ _ _ h1,h2⟩⟩
theorem Sx.grow(x:Sx K CL Fz B U Y H)(s:Aw H H'):Sx K CL Fz B U Y H':=⟨x.good.same s,x.aok.same s,x.new,x.dis,λb o z=>s _ _ (x.same b o z),x.len,λj h=>let ⟨a,xs,h1,h2,h3⟩:=x.pin j h;⟨a,xs,h1,h2,s _ _ h3⟩⟩
theorem Bv{l:Ac α}{v:α}(h:i≠j):(l.set i v)[j]?=l[j]?:=by rw[Fa h]
theorem Fl{l:Ac α}{v w':α}(h:(l.set i v)[i]?=Aa w'):w'=v:=by
 rw[EI]at h;cases e:l[i]? with
 |none=>rw[e]at h;cases h
 |some x=>rw[e]at h;cases h;rfl
theorem Sx.set(x:Sx K CL Fz B U Y H){v:V}{d:D}(i:Af)(r:Rep K CL H (Ba B U Y) v d):Sx K CL Fz B (U.set i (Aa (d,Ad))) (Y.set i (Aa v)) H:=by
 have own:∀(j:Af)(e:D),(U.set i (Aa (d,Ad)))[j]?=Aa (Aa (e,Ab))->i≠j/\U[j]?=Aa (Aa (e,Ab)):=λj e h=>by
  by_cases hj:i=j
  .subst hj;have:=Fl h;cases this
  .exact⟨hj,by rw[Bv hj]at h;exact h⟩
 have sub:∀ a,Ba B (U.set i (Aa (d,Ad))) (Y.set i (Aa v)) a->Ba B U Y a:=λa h=>by
  rcases h with h|⟨j,e,h1,h2⟩
  .exact .inl h
  .obtain⟨hj,h1⟩:=own j e h1;rw[Bv hj]at h2;exact .inr ⟨j,e,h1,h2⟩
 refine⟨⟨λj e h=>?_,λj e h hn=>?_,by rw[AR,AR];exact x.len⟩,λa h=>x.aok a (sub a h),λj e a h1 h2=>?_,λj k e f a h1 h2 h3 h4=>?_,x.same,by rw[AR,AR];exact x.len,λj h=>?_⟩
 .by_cases hj:i=j
  .subst hj;have e1:=Fl h;cases e1;refine⟨v,?_,Rep.sub sub _ r⟩;have hl:i<Y.length:=by
    rw[<-x.len];have:=(AW.mp h).1;simpa using this
   rw[B7 hl]
  .rw[Bv hj]at h;obtain⟨w',q,rw'⟩:=x.good.sh j e h;exact⟨w',by rw[Bv hj];exact q,Rep.sub sub _ rw'⟩
 .obtain⟨hj,h1⟩:=own j e h;obtain⟨a,xs,ds,q,z,ha,hh,rr⟩:=x.good.ow j e h1 hn;exact⟨a,xs,ds,by rw[Bv hj];exact q,z,.inr ⟨j,e,h,by rw[Bv hj];exact q⟩,hh,Reps.sub sub _ rr⟩
 .obtain⟨hj,h1⟩:=own j e h1;rw[Bv hj]at h2;exact x.new j e a h1 h2
 .obtain⟨hj,h1⟩:=own j e h1;obtain⟨hk,h2⟩:=own k f h2;rw[Bv hj]at h3;rw[Bv hk]at h4;exact x.dis j k e f a h1 h2 h3 h4
 .obtain⟨hj,h1⟩:=own j _ h;obtain⟨a,xs,p1,p2,p3⟩:=x.pin j h1;exact⟨a,xs,p1,by rw[Bv hj];exact p2,p3⟩
end
section
variable{X:Cx}{CL:ClA}{W:XW}{pos:Az}{e:Am}{fe:Rho->R D}
def SS(X:Cx)(CL:ClA)(W:XW)(st:AC)(f:Rho->O):Prop:=∀ Fz B,PS X st (λD Y H=>∃ U,Sx X.K CL Fz B U Y H/\Bh X.K CL Fz B W (f U) D)
def SSs(X:Cx)(CL:ClA)(W:XW)(st:Ac AC)(f:Rho->O):Prop:=∀ Fz B,PSs X st (λD Y H=>∃ U,Sx X.K CL Fz B U Y H/\Bh X.K CL Fz B W (f U) D)
theorem PS.weak{e:AC}{t t':TS}(h:PS X e t)(k:∀ D Y H,t' D Y H->t D Y H):PS X e t':=λpI s Y H D I q=>h pI s Y H D I (k _ _ _ q)
theorem PSs.weak{e:Ac AC}{t t':TS}(h:PSs X e t)(k:∀ D Y H,t' D Y H->t D Y H):PSs X e t':=λpI s Y H D I q=>h pI s Y H D I (k _ _ _ q)
theorem Bh.ex{f:D->O}(x:Sx X.K CL Fz B U Y H)(h:Bh X.K CL Fz B W (O.of U r f) D')(k:∀ d v H',r=.ok d->Aw H H'->Rp H' v d->Sx X.K CL Fz B U Y H'->Bh X.K CL Fz B W (f d) D'->Q v H'):AT Rp W H r Q:=by
 cases r with
 |ok d=>exact λv H' s r=>k d v H' rfl s r (x.grow s) h
 |exn y=>exact λH' s=>h H' λb o z=>s _ _ (x.same b o z)
 |bad=>exact h
theorem Bh.exB{r:R Ai}{f:Ai->O}{Q:Ai->Hp->Prop}(x:Sx X.K CL Fz B U Y H)(h:Bh X.K CL Fz B W (O.of U r f) D')(k:∀ b H',r=.ok b->Aw H H'->Sx X.K CL Fz B U Y H'->Bh X.K CL Fz B W (f b) D'->Q b H'):Ct W H r Q:=by
 cases r with
 |ok d=>exact λH' s=>k d H' rfl s (x.grow s) h
 |exn y=>exact λH' s=>h H' λb o z=>s _ _ (x.same b o z)
 |bad=>exact h
theorem YC:SS X CL W (.Pass pos) (λU=>.next U):=λFz B=>PS.weak Zy λD Y H ⟨U,x,p⟩=>p Y H x
theorem YE(he:SE X CL W e fe)(hs:CB e Ae pos.line X.env=pure Ad):SS X CL W (.Expr e pos) (λU=>O.of U (fe U) λ_=>.next U):=λFz B pI s Y H D I ⟨U,x,p⟩=>
 JP (he (Ba B U Y)) hs pI s Y H D I ⟨x.aok,U,x.good,Bh.ex x p λd v H' _ s r x' q=>q Y H' x'⟩
theorem aO{n:Ag}(hN:X.N.Nodup)(hi:X.N[i]?=Aa n)(hx:Loc X.env.scope n)(he:SE X CL W e fe)(hs:CB e (Aa (.Name n pos')) pos.line X.env=pure Ad)(hf:X.fn n=Ab\/X.env.scope.names.lookup n=Aa .local):SS X CL W (.Assign [.Name n pos'] e pos) (λU=>O.of U (fe U) λd=>.next (U.set i (Aa (d,Ad)))):=λFz B pI s Y H D I ⟨U,x,p⟩=>
 Lb hN hi hx (he (Ba B U Y)) hs hf pI s Y H D I ⟨x.aok,U,x.good,Bh.ex x p λd v H' _ s r x' q=>q _ H' (x'.set i r)⟩
theorem YA(he:SE X CL W e fe):SS X CL W (.Return (Aa e) pos) (λU=>O.of U (fe U) λd=>.ret d Ad):=λFz B pI s Y H D I ⟨U,x,p⟩=>
 Nj (he (Ba B U Y)) pI s Y H D I ⟨x.aok,U,x.good,Bh.ex x p λd v H' _ s r x' q=>q v H' x'.same (Rep.sub (λa h=>.inl h) _ r) λz=>nomatch z⟩
theorem gR{a b:Ac AC}{fa fb:Rho->O}(hc:SB X CL W c fc)(ha:SSs X CL W a fa)(hb:SSs X CL W b fb):SS X CL W (.If c a b pos) (λU=>O.of U (fc U) λk=>if k=Ab then fa U else fb U):=λFz B pI s Y H D I ⟨U,x,p⟩=>
 iK (hc (Ba B U Y)) (ha Fz B) (hb Fz B) pI s Y H D I ⟨x.aok,U,x.good,Bh.exB x p λk H' _ s x' q=>by
  cases k with
  |true=>exact⟨U,x',q⟩
  | false=>exact⟨U,x',q⟩⟩
theorem Qz:SSs X CL W [] (λU=>.next U):=λFz B=>PSs.weak Zv λD Y H ⟨U,x,p⟩=>p Y H x
theorem Mu{st:AC}{rest:Ac AC}{f g:Rho->O}(h1:SS X CL W st f)(h2:SSs X CL W rest g):SSs X CL W (st::rest) (λU=>(f U).seq g):=λFz B=>PSs.weak (Mw (h1 Fz B) (h2 Fz B)) λD Y H ⟨U,x,p⟩=>⟨U,x,by
 dsimp only at p;cases e:f U with
 |next U'=>rw[e]at p;exact λY' H' x'=>⟨U',x',p⟩
 |ret d b=>rw[e]at p;exact p
 |brk U'=>rw[e]at p;exact p
 |cont U'=>rw[e]at p;exact p
 |exn y U'=>rw[e]at p;exact p
 | bad=>rw[e]at p;exact p⟩
end
def HZ(K:Fg)(CL:ClA)(A:Ak->Prop)(ds:Ac D)(J:It)(H1:Hp):Prop:=∀ H,Kp A H1 H->∀ i:Af,(ds.length<=i->J.stop i H)/\∀ d,ds[i]?=Aa d->J.go i H/\∀ x H',J.yld i H x H'->Aw H H'/\∀ B,(∀ a,B a->A a\/H1 a=Ae)->AOk H B->Rep K CL H' B x d
def Ez(K:Fg)(CL:ClA)(A:Ak->Prop)(W:XW)(H:Hp)(r:R (Ac D))(Q:It->Hp->Prop):Prop:=match r with
  |.ok ds=>∀ J H',Aw H H'->HZ K CL A ds J H'->ds.length<=sizeLine->Q J H'
  |.exn x=>∀ H',Aw H H'->W x H'
  |.bad=>AV
def SI(X:Cx)(CL:ClA)(W:XW)(tg iter:Am)(f:Rho->R (Ac D)):Prop:=∀ A,PI X tg iter (λY H R=>AOk H A/\∃ U,Good X.K CL A U Y H/\Ez X.K CL A W H (f U) R)
theorem PI.weak{t t':TI}(h:PI X tg e t)(k:∀ Y H Q,t' Y H Q->t Y H Q):PI X tg e t':=λpI s Y H Q I q=>h pI s Y H Q I (k _ _ _ q)
section
variable{X:Cx}{CL:ClA}{W:XW}{pos p:Az}{tg e a b:Am}{fe fa fb:Rho->R D}
theorem Ez.ex{f:D->R (Ac D)}{Q:It->Hp->Prop}{Q':VK}(h:Ez X.K CL A W H (r.bind f) Q)(k:∀ d v H',r=.ok d->Aw H H'->Rp H' v d->Ez X.K CL A W H' (f d) Q->Q' v H'):AT Rp W H r Q':=by
  cases r with
  | ok d=>exact λv H' s q=>k d v H' rfl s q (by
      have h':Ez X.K CL A W H (f d) Q:=h;cases e:f d with
      |ok ds=>rw[e]at h';exact λJ H2 s2 y z=>h' J H2 (s.trans s2) y z
      |exn y=>rw[e]at h';exact λH2 s2=>h' H2 (s.trans s2)
      | bad=>rw[e]at h';exact h')
  |exn y=>exact h
  |bad=>exact h
theorem Mh{x:V}(r:Rep K CL H1 A x d)(k:Kp A H1 H)(hB:∀ a,B a->A a\/H1 a=Ae):Rep K CL H B x d:=by
 have r1:Rep K CL H1 (λa=>A a\/B a) x d:=Rep.wide (λa ha=>ha.elim .inl (hB a)) _ r
 have r2:Rep K CL H (λa=>A a\/B a) x d:=Rep.kp (λb o e na=>k b o e λz=>na (.inl z)) _ r1
 exact Rep.sub (λa ha=>.inr ha) _ r2
theorem Wp{ds:Ac D}(na:¬ A q\/KL K q xs)(s:SqL K H q xs)(r:Reps K CL H A xs ds):HZ K CL A ds (Itl K q) H:=λH' k i=>by
 have s':=K9 k na s;refine⟨λh=>⟨xs,s',by rw[r.length];exact h⟩,λd hd=>?_⟩
 obtain⟨v,hv,rv⟩:=r.get hd;exact⟨⟨xs,v,s',hv⟩,λx H2 ⟨e,y⟩=>by
  subst e;have:=y xs s';rw[hv]at this;cases this;exact⟨Aw.refl _,λB hB _=>Mh rv k hB⟩⟩
theorem WY{ds:Ac D}(na:¬ A q\/KT K q xs)(s:SqT K H q xs)(r:Reps K CL H A xs ds):HZ K CL A ds (Itt K q) H:=λH' k i=>by
 have s':=K8 k na s;refine⟨λh=>⟨xs,s',by rw[r.length];exact h⟩,λd hd=>?_⟩
 obtain⟨v,hv,rv⟩:=r.get hd;exact⟨⟨xs,v,s',hv⟩,λx H2 ⟨e,y⟩=>by
  subst e;have:=y xs s';rw[hv]at this;cases this;exact⟨Aw.refl _,λB hB _=>Mh rv k hB⟩⟩
theorem PD(lo:Ah)(n:Af):HZ K CL A (EB lo n) (Itr lo n) H:=λH' k i=>by
 refine⟨λh=>by rw[KJ]at h;exact h,λd hd=>?_⟩
 obtain⟨h1,rfl⟩:=P3 hd;exact⟨h1,λx H2 ⟨e,y⟩=>by
  subst e y;exact⟨Aw.refl _,λ_ _ _=>rfl⟩⟩
theorem dU{l:Am}{tl:TE}(hl:PE X l tl):PI X tg l (λY H R=>tl Y H λx H1=>(∃ a,x=.ref a/\(∃ xs,SqL X.K H1 a xs/\(xs.length<=sizeLine->R (Itl X.K a) H1)))\/∃ a,x=.ref a/\(∃ xs,SqT X.K H1 a xs/\(xs.length<=sizeLine->R (Itt X.K a) H1))):=by
 intro pI s Y H R I h;refine thn (hl pI s Y H _ I h) λv s1 ⟨x,H1,I1,r1,q1⟩=>?_
 rcases q1 with ⟨a,e,xs,hq,q⟩|⟨a,e,xs,hq,q⟩
 .subst e;cases r1;obtain⟨its,rv,p,hz⟩:=I1.list hq;refine EN p.isList ?_;refine⟨s1.heap.objs.size,[s1.heap.objs.size],_,_,H1,rfl,I1.kept (t':=s1.toks) λb o e=>At _ e,WE a _,⟨_,AY _ rfl,rfl,rfl⟩,λb hb=>?_,q hz⟩
  have e:b=s1.heap.objs.size:=by simpa using hb
  subst e;exact I1.fpOk (AK _) (I1.hok.fresh (AK _))
 .subst e;cases r1;obtain⟨its,rv,p,hz⟩:=I1.tuple hq;refine FS (show s1.heap.IsTuple a its.toArray from p) ?_
  refine⟨s1.heap.objs.size,[s1.heap.objs.size],_,_,H1,rfl,I1.kept (t':=s1.toks) λb o e=>At _ e,Wr a _,⟨_,AY _ rfl,rfl,rfl⟩,λb hb=>?_,q hz⟩
  have e:b=s1.heap.objs.size:=by simpa using hb
  subst e;exact I1.fpOk (AK _) (I1.hok.fresh (AK _))
theorem mJ(he:SE X CL W e fe):SI X CL W tg e (λU=>(fe U).bind DK):=λA=>PI.weak (dU (he A)) λY H R ⟨hA,U,g,p⟩=>⟨hA,U,g,Ez.ex p λd v H1 _ s1 r1 p1=>by
 cases d with
 |lst ds=>
  obtain⟨q,xs,rfl,na,sq,r⟩:=r1;exact .inl ⟨q,rfl,xs,sq,λhz=>p1 _ H1 (Aw.refl H1) (Wp na sq r) (by rw[<-r.length];exact hz)⟩
 |tup ds=>
  obtain⟨q,xs,rfl,na,sq,r⟩:=r1;exact .inr ⟨q,rfl,xs,sq,λhz=>p1 _ H1 (Aw.refl H1) (WY na sq r) (by rw[<-r.length];exact hz)⟩
 | _=>exact p1.elim⟩
theorem Pd{lo hi:Ah}{ds:Ac D}(h:DJ lo hi=.ok ds):(-(2 ^ 62)<=lo/\lo<2 ^ 62)/\(-(2 ^ 62)<=hi/\hi<2 ^ 62)/\ds=EB lo (hi-lo).toNat/\(EB lo (hi-lo).toNat).length<=sizeLine:=by
 unfold DJ at h;split at h
 .rename_i q;cases h;exact⟨by omega,by omega,rfl,by rw[KJ,BV];omega⟩
 .cases h
theorem OL{lo hi:Ah}{x:Ex}(h:DJ lo hi=.exn x):AV:=by
 unfold DJ at h;split at h<;>cases h
theorem aV(ha:ST X CL W a fa)(hg:Gl X "range")(hm:X.mg "range" = Ae)(hs:Aq [a] X.env=[(Ad,eval a X.env)]):SI X CL W tg (.Call (.Name "range" p) [a] [] pos) (λU=>(fa U).bind λx=>(Ey x).bind λj=>DJ 0 j):=
 λA=>PI.weak (WD hg hm (Dt (ha A) EQ hs) hs) λY H R ⟨hA,U,g,q⟩=>⟨hA,U,g,Ez.ex q λd v H1 _ s1 r1 p1=>by
  cases d with
  |int j=>
   have e:=r1.int_of;subst e;have p2:Ez X.K CL A W H1 (DJ 0 j) R:=p1;cases e2:DJ 0 j with
   |ok ds=>
    rw[e2]at p2;obtain⟨_,h2,rfl,hz⟩:=Pd e2;exact⟨j,rfl,h2.1,h2.2,p2 _ H1 (Aw.refl H1) (by rw[TJ];exact PD 0 j.toNat) hz⟩
   |exn y=>exact(OL e2).elim
   |bad=>rw[e2]at p2;exact p2.elim
  | _=>exact p1.elim⟩
theorem YI(ha:ST X CL W a fa)(hb:ST X CL W b fb)(hg:Gl X "range")(hm:X.mg "range" = Ae)(hs:Aq [a,b] X.env=[(Ad,eval a X.env),(Ad,eval b X.env)])(hs2:Aq [b] X.env=[(Ad,eval b X.env)]):
  SI X CL W tg (.Call (.Name "range" p) [a,b] [] pos) (λU=>(fa U).bind λx=>(fb U).bind λy=>(Ey x).bind λi=>(Ey y).bind λj=>DJ i j):=
 λA=>PI.weak (WC hg hm (Dt (ha A) (Dt (hb A) EQ hs2) (by rw[hs,hs2])) hs hs2) λY H R ⟨hA,U,g,q⟩=>⟨hA,U,g,Ez.ex q λd v H1 _ s1 r1 p1=>⟨hA.same s1,U,g.same s1,Ez.ex p1 λd2 v2 H2 _ s2 r2 p2=>by
  cases d with
  |int i=>
   cases d2 with
   |int j=>
    have e:=r1.int_of;have e':=r2.int_of
    subst e e';have p3:Ez X.K CL A W H2 (DJ i j) R:=p2;cases e2:DJ i j with
    |ok ds=>
     rw[e2]at p3;obtain⟨h1,h2,rfl,hz⟩:=Pd e2;exact⟨i,j,rfl,⟨h1.1,h1.2,h2.1,h2.2⟩,p3 _ H2 (Aw.refl H2) (PD _ _) hz⟩
    |exn y=>exact(OL e2).elim
    |bad=>rw[e2]at p3;exact p3.elim
   |_=>exact p2.elim
  | _=>exact p2.elim⟩⟩
theorem Bh.exI{r:R (Ac D)}{f:Ac D->O}{Q:It->Hp->Prop}(x:Sx X.K CL Fz B U Y H)(h:Bh X.K CL Fz B W (O.of U r f) D')(k:∀ ds J H',r=.ok ds->Aw H H'->HZ X.K CL A ds J H'->ds.length<=sizeLine->Sx X.K CL Fz B U Y H'->Bh X.K CL Fz B W (f ds) D'->Q J H'):Ez X.K CL A W H r Q:=by
 cases r with
 |ok d=>exact λJ H' s y z=>k d J H' rfl s y z (x.grow s) h
 |exn y=>exact λH' s=>h H' λb o z=>s _ _ (x.same b o z)
 |bad=>exact h
theorem Bh.turn{Fy:Fr}{o:O}{g:Rho->O}{N:L2.St->Hp->Prop}(hf:∀ b q,Fz b q->Fy b q)(hp:∀ j a xs,Fy.pin j a xs->Fz.pin j a xs)(h:Bh K CL Fz B W (o.turn g) D')(k:∀ U' Y' H',Sx K CL Fy B U' Y' H'->Bh K CL Fz B W (g U') D'->N Y' H'):Bh K CL Fy B W o {D' with nx:=N,ct:=N,bk:=D'.nx}:=by
 cases o with
 |next U'=>exact λY' H' x=>k U' Y' H' x h
 |cont U'=>exact λY' H' x=>k U' Y' H' x h
 |brk U'=>exact λY' H' x=>h Y' H' (x.mono hf hp)
 |ret d b=>exact λv H' s r n=>h v H' (λb o z=>s b o (hf b o z)) r λz ds e=>let ⟨a,xs,h1,h2,h3⟩:=n z ds e;⟨a,xs,h1,λo q=>h2 o (hf a o q),h3⟩
 |exn y U'=>exact λH' s=>h H' (λb o z=>s b o (hf b o z))
 |bad=>exact h
noncomputable def Ew(ts:Ac Af)(U:Rho):Rho:=ts.foldl (λU t=>U.set t Ae) U
def GT(K:Fg)(CL:ClA)(as:D->Rho->R Rho)(g:TG):Prop:=∀ Fz B U Y H v d U' Q,Sx K CL Fz B U Y H->Rep K CL H (Ba B U Y) v d->as d U=.ok U'->(∀ Y',Sx K CL Fz B U' Y' H->Q Y' H)->g v Y H Q
theorem Zd(i:Af):GT K CL (λd U=>.ok (U.set i (Aa (d,Ad)))) (ES i):=λFz B U Y H v d U' Q x r e k=>by
 cases e;exact k _ (x.set i r)
theorem Rv{K:Fg}{Fz:Fr}{B:Ak->Prop}{H:Hp}:∀(ts:Ac Af)(ds:Ac D)(vs:Ac V)(U U':Rho)(Y:L2.St)(Q:L2.St->Hp->Prop),Sx K CL Fz B U Y H->Reps K CL H (Ba B U Y) vs ds->Dv ts ds U=Aa U'->(∀ Y',Sx K CL Fz B U' Y' H->Q Y' H)->(ts.foldr (λt u=>Hh (ES t) u) Hk) vs Y H Q
 |[],[],[],U,U',Y,Q,x,_,e,k=>by
  cases e;exact⟨rfl,k Y x⟩
 |t::ts,d::ds,v::vs,U,U',Y,Q,x,r,e,k=>by
  refine⟨v,vs,rfl,Rv ts ds vs _ U' _ Q (x.set t r.1) (Reps.sub (λa ha=>?_) ds r.2) e k⟩
  rcases ha with ha|⟨j,c,h1,h2⟩
  .exact .inl ha
  .by_cases hj:t=j
   .subst hj;have:=Fl h1;cases this
   .rw[Bv hj]at h1 h2;exact .inr ⟨j,c,h1,h2⟩
 |[],_::_,_,_,_,_,_,_,_,e,_=>by cases e
 |_::_,[],_,_,_,_,_,_,_,e,_=>by cases e
 |[],[],_::_,_,_,_,_,_,r,_,_=>r.elim
 |_::_,_::_,[],_,_,_,_,_,r,_,_=>r.elim
theorem Mm:∀(ts:Ac Af)(ds:Ac D)(U U':Rho),Dv ts ds U=Aa U'->ds.length=ts.length
 |[],[],_,_,_=>rfl
 |_::ts,_::ds,_,_,e=>congrArg (· + 1) (Mm ts ds _ _ e)
 |[],_::_,_,_,e=>by cases e
 |_::_,[],_,_,e=>by cases e
theorem Ru(ts:Ac Af):GT K CL (DR ts) (Kv K ts.length (ts.foldr (λt u=>Hh (ES t) u) Hk)):=λFz B U Y H v d U' Q x r e k=>by
 cases d with
 |tup ds=>
  obtain⟨a,xs,rfl,na,sq,rs⟩:=r;rw[OW]at e;cases e2:Dv ts ds U with
  |none=>rw[e2]at e;cases e
  |some U2=>
   rw[e2]at e;cases e;exact⟨a,xs,rfl,sq,by rw[rs.length];exact Mm _ _ _ _ e2,Rv ts ds xs U _ Y Q x rs e2 k⟩
 |_=>cases e
theorem RF{g:TG}(hp:Dl (model X.prog X.w) X.A X.env X.xe)(hc:X.calm=Ab)(hGT:GT X.K CL as g)(hg:PG X tg g)(hit:SI X CL W tg iter fi)(hb:SSs X CL W body fbd)(hs:∀ x,B8 iter X.env x=pure x)(hax:∀ d U x,as d U≠.exn x):SS X CL W (.For tg iter body [] pos) (λU=>O.of U (fi U) λxs=>Cd (λx U'=>O.of U' (as x U') fbd) xs U):=λFz B pI s Y H D I ⟨U,x,p⟩=>by
 refine Rh hp hc (hit (Ba B U Y)) hg (tb:=λD Y H=>∃ Fy,(λD Y H=>∃ U,Sx X.K CL Fy B U Y H/\Bh X.K CL Fy B W (fbd U) D) D Y H) (λpI s Y H D I ⟨Fy,q⟩=>hb Fy B pI s Y H D I q) hs pI s Y H D I ⟨x.aok,U,x.good,Bh.exI x p λds J H1 _ s1 y _ x1 q=>?_⟩
 let Fy:Fr:=⟨λb o=>H1 b=Aa o/\¬ ∃(j:Af)(d:Ov.D),U[j]?=Aa (Aa (d,Ab))/\Y[j]?=Aa (Aa (.ref b)),Fz.pin⟩
 have hfy:∀ b o,Fz b o->Fy b o:=λb o z=>⟨x1.same b o z,λ⟨j,d,h1,h2⟩=>(x1.new j d b h1 h2).1 o z⟩
 have xy:Sx X.K CL Fy B U Y H1:=⟨x1.good,x1.aok,λj d a h1 h2=>⟨λo z=>z.2 ⟨j,d,h1,h2⟩,(x1.new j d a h1 h2).2⟩,x1.dis,λb o z=>z.1,x1.len,x1.pin⟩
 refine⟨λk m Y' H'=>m=ds.length-k/\k<=ds.length/\∃ U',Sx X.K CL Fy B U' Y' H'/\Bh X.K CL Fz B W (Cd (λx U'=>O.of U' (as x U') fbd) (ds.drop k) U') D,⟨ds.length,by simp,D7 _,U,xy,q⟩,?_⟩
 rintro k m Y' H' ⟨rfl,hk,U',x',q'⟩;have kp:Kp (Ba B U Y) H1 H':=λb o e na=>x'.same b o ⟨e,λz=>na (.inr z)⟩
 obtain⟨yst,ygo⟩:=y H' kp k;by_cases hlt:k<ds.length
 .have hd:ds[k]?=Aa ds[k]:=BA hlt;obtain⟨hgo,hyl⟩:=ygo _ hd;refine .inr ⟨hgo,λY'' H''=>∃ U'',Sx X.K CL Fy B U'' Y'' H''/\Bh X.K CL Fz B W (Cd (λx U'=>O.of U' (as x U') fbd) (ds.drop (k+1)) U'') D,λY'' H'' z=>⟨ds.length-(k+1),by omega,rfl,hlt,z⟩,λv H2 hv=>?_⟩
  obtain⟨e2,rv⟩:=hyl v H2 hv;rw[Eg hlt]at q';have q2:Bh X.K CL Fz B W ((O.of U' (as ds[k] U') fbd).turn (Cd (λx U'=>O.of U' (as x U') fbd) (ds.drop (k+1)))) D:=q'
  have rv':Rep X.K CL H2 (Ba B U' Y') v ds[k]:=rv _ (λa ha=>by
    rcases ha with ha|⟨j,d,h1,h2⟩
    .exact .inl (.inl ha)
    .cases e:H1 a with
     |none=>exact .inr rfl
     |some o=>
      by_cases ho:∃(j:Af)(d:Ov.D),U[j]?=Aa (Aa (d,Ab))/\Y[j]?=Aa (Aa (.ref a))
      .exact .inl (.inr ho)
      .exact absurd ⟨e,ho⟩ ((x'.new j d a h1 h2).1 o)) x'.aok
  cases ea:as ds[k] U' with
  |bad=>rw[ea]at q2;exact q2.elim
  |exn z=>exact absurd ea (hax _ _ z)
  |ok U2=>
   rw[ea,O.of_ok]at q2;exact hGT Fy B U' Y' H2 v ds[k] U2 _ (x'.grow e2) rv' ea λY3 x3=>⟨Fy,U2,x3,Bh.turn hfy (λ_ _ _ z=>z) q2 λU3 Y3 H3 x3 q3=>⟨U3,x3,q3⟩⟩
 .have hk':ds.length<=k:=by omega
  rw[EV hk']at q';exact .inl ⟨yst hk',q' Y' H' (x'.mono hfy λ_ _ _ z=>z)⟩
theorem WT(n:Af)(hp:Dl (model X.prog X.w) X.A X.env X.xe)(hc:SB X CL W c fc)(hb:SSs X CL W body fbd):SS X CL W (.While c body [] pos) (λU=>HX fc fbd n U):=λFz B pI s Y H D I ⟨U,x,p⟩=>by
 refine XS hp (tc:=λY H Q=>∃ A,AOk H A/\∃ U,Good X.K CL A U Y H/\Ct W H (fc U) Q) (λpI s Y H Q I ⟨A,q⟩=>hc A pI s Y H Q I q) (hb Fz B) pI s Y H D I ⟨λm Y' H'=>∃ U',Sx X.K CL Fz B U' Y' H'/\Bh X.K CL Fz B W (HX fc fbd m U') D,⟨n,U,x,p⟩,?_⟩
 rintro m Y' H' ⟨U',x',q⟩;cases m with
 |zero=>exact q.elim
 |succ m=>
  refine⟨Ba B U' Y',x'.aok,U',x'.good,Bh.exB x' (f:=λb=>if b=Ab then (fbd U').turn (HX fc fbd m) else .next U') (D':=D) (by rw[HX]at q;exact q) λb H1 _ s1 x1 q1=>?_⟩
  cases b with
  |false=>exact q1 Y' H1 x1
  |true=>
   refine⟨λY'' H''=>∃ U'',Sx X.K CL Fz B U'' Y'' H''/\Bh X.K CL Fz B W (HX fc fbd m U'') D,λY'' H'' z=>⟨m,by omega,z⟩,U',x1,Bh.turn (λ_ _ z=>z) (λ_ _ _ z=>z) q1 λU3 Y3 H3 x3 q3=>⟨U3,x3,q3⟩⟩
end
section
variable{X:Cx}{CL:ClA}{W:XW}{a b c:Am}{fa fb fc:Rho->R D}{pos:Az}
noncomputable def tyK:Ki->An Cr
 |.int=>Aa "int"
 |.bool=>Aa "bool"
 |.str=>Aa "str"
 |.list=>Aa "list"
 |.tuple=>Aa "tuple"
 |_=>Ae
noncomputable def Nk:D->Ai
 |.obj _ _=>Ad
 |.exc _ _=>Ad
 |.dic _=>Ad
 |_=>Ab
theorem cJ{k:Ki}{Q:Vq}{E:Vq}(I:Inv X pI Y H s)(r:B6 X.K CL H A v d)(q:Bm v u)(hT:tyK k=Aa T)(hd:Nk d=Ab)(h:∀ s',Inv X pI Y H s'->Q (.bool (kiD up k d)) s'):
  Au (model X.prog X.w) X.A (call (.builtin "isinstance") [u,.type T]) Q E s:=by
 have r':=r.plain;have it:=λt=>h _ (I.tok t)
 cases d with
 |obj=>cases hd
 |exc=>cases hd
 |dic=>cases hd
 |non=>
  cases r';cases q;cases k<;>simp only[tyK]at hT<;>cases hT
  .exact IsiPair.NoneType_int (it _)
  .exact IsiPair.NoneType_bool (it _)
  .exact IsiPair.NoneType_str (it _)
  .exact IsiPair.NoneType_list (it _)
  .exact IsiPair.NoneType_tuple (it _)
 |bl b=>
  cases r';cases q;cases k<;>simp only[tyK]at hT<;>cases hT
  .exact IsiPair.bool_int (h _ I)
  .exact IsiPair.bool_bool (h _ I)
  .exact IsiPair.bool_str (it _)
  .exact IsiPair.bool_list (it _)
  .exact IsiPair.bool_tuple (it _)
 |int i=>
  cases r';obtain⟨t,rfl⟩:=q;cases k<;>simp only[tyK]at hT<;>cases hT
  .exact IsiPair.int_int (h _ I)
  .exact IsiPair.int_bool (it _)
  .exact IsiPair.int_str (it _)
  .exact IsiPair.int_list (it _)
  .exact IsiPair.int_tuple (it _)
 |str x=>
  cases r';obtain⟨t,rfl⟩:=q;cases k<;>simp only[tyK]at hT<;>cases hT
  .exact IsiPair.str_int (it _)
  .exact IsiPair.str_bool (it _)
  .exact IsiPair.str_str (h _ I)
  .exact IsiPair.str_list (it _)
  .exact IsiPair.str_tuple (it _)
 |tup ds=>
  obtain⟨p,xs,rfl,_,sq,rr⟩:=r';obtain⟨its,rv,pt,_⟩:=I.tuple sq;cases q;have pt':s.heap.IsTuple p its.toArray:=pt;cases k<;>simp only[tyK]at hT<;>cases hT
  .exact IsiPair.isTuple_int pt' (λ_ _ e=>e) (it _)
  .exact IsiPair.isTuple_bool pt' (λ_ _ e=>e) (it _)
  .exact IsiPair.isTuple_str pt' (λ_ _ e=>e) (it _)
  .exact IsiPair.isTuple_list pt' (λ_ _ e=>e) (it _)
  .exact IsiPair.isTuple_tuple pt' (λ_ _ e=>e) (h _ I)
 |lst ds=>
  obtain⟨p,xs,rfl,_,sq,rr⟩:=r';obtain⟨its,rv,pl,_⟩:=I.list sq;cases q;have pt':s.heap.IsList p its.toArray:=HI pl;cases k<;>simp only[tyK]at hT<;>cases hT
  .exact IsiPair.isList_int pt' (λ_ _ e=>e) (it _)
  .exact IsiPair.isList_bool pt' (λ_ _ e=>e) (it _)
  .exact IsiPair.isList_str pt' (λ_ _ e=>e) (it _)
  .exact IsiPair.isList_list pt' (λ_ _ e=>e) (h _ I)
  .exact IsiPair.isList_tuple pt' (λ_ _ e=>e) (it _)
theorem Wx{k:Ki}(hT:tyK k=Aa T)(p:AT Rp W H (DL up [k] d) Q):Nk d=Ab/\AT Rp W H (.ok (.bl (kiD up k d))) Q:=by
 cases k<;>simp only[tyK]at hT<;>cases hT<;>cases d<;>first|exact p.elim|exact⟨rfl,by simpa using p⟩
theorem bE{k:Ki}(hT:tyK k=Aa T)(hg:Gl X "isinstance")(hm:X.mg "isinstance" = Ae)(hg2:Gl X x)(hm2:X.mg x=Ae)(hv:Cq x=Aa (.type T))(hn:x≠"__name__")(hdb:(x==("__debug__" : Ag))=Ad)(ha:ST X CL W a fa)(he:Aq [a,.Name x p2] X.env=(Ad,eval a X.env)::Aq [.Name x p2] X.env):SE X CL W (.Call (.Name "isinstance" p) [a,.Name x p2] [] pos) (λU=>(fa U).bind λx=>DL up [k] x):=λA=>
 PE.weak (IS (r:=λxs H Q=>∃ y d,xs=[y,.ty T]/\B6 X.K CL H A y d/\Nk d=Ab/\Q (.bl (kiD up k d)) H) (λpI s Y H xs us Q I r ⟨y,d,e,ry,hd,q⟩=>by
   subst e;obtain⟨u,w',rfl,r1,r2⟩:=HN r;cases r2;exact cJ I ry r1 hT hd λs' I'=>⟨.bl _,H,I',rfl,q⟩)
  hg hm Ei (Dt (ha A) (Dt (Qm (v:=.ty T) hg2 hm2 hv rfl hn hdb) EQ rfl) he) (by decide) (by decide) he rfl) λY H Q ⟨hA,U,g,q⟩=>⟨hA,U,g,AT.bind q λd v H1 _ s1 r1 p1=>by
   obtain⟨hd,p2⟩:=Wx hT p1;exact⟨v,d,rfl,r1,hd,p2 _ H1 (Aw.refl H1) rfl⟩⟩
theorem M4{b:Ai}{A':AQ}{E:Vq}{Q:Ai->Ao->Prop}(r:Rep X.K CL H A v d)(q:Bm v u)(h:DM d=.ok b)(hq:Q b s):Au (model prog w) A' (truthy u) Q E s:=by
 cases d with
 |non=>
  cases r;cases q;cases h;exact truthy_none hq
 |bl k=>
  cases r;cases q;cases h;exact Ci hq
 |int i=>
  cases r;obtain⟨t,rfl⟩:=q;cases h;exact truthy_int hq
 |_=>cases h
theorem O2:∀{ds:Ac D}{b:Ai},FY ds=.ok b->(∀ j,j<ds.length->∃ c,DM (ds.getD j .non)=.ok c)/\b=(BR ds.length).all λj=>match DM (ds.getD j .non) with
  |.ok c=>c
  |_=>Ad
 |[],b,h=>by cases h;exact⟨λj hj=>absurd hj (Uf _),rfl⟩
 |d::ds,b,h=>by
  rw[Ms]at h;cases e:DM d with
  |bad=>rw[e]at h;cases h
  |exn x=>rw[e]at h;cases h
  |ok c=>
   rw[e,R.bind_ok]at h;cases e2:FY ds with
   |bad=>rw[e2]at h;cases h
   |exn x=>rw[e2]at h;cases h
   |ok c2=>
    rw[e2,R.bind_ok]at h;cases h;obtain⟨h1,h2⟩:=O2 e2;refine⟨λj hj=>?_,?_⟩
    .cases j with
     |zero=>exact⟨c,e⟩
     |succ j=>exact h1 j (by simpa using hj)
    .rw[A9,Oy,h2];show (c&&_)=((match DM d with | .ok c=>c|_=>Ad)&&_)
     rw[e];rfl
theorem O1:∀{ds:Ac D}{b:Ai},Fn ds=.ok b->(∀ j,j<ds.length->∃ c,DM (ds.getD j .non)=.ok c)/\b=(BR ds.length).any λj=>match DM (ds.getD j .non) with
  |.ok c=>c
  |_=>Ad
 |[],b,h=>by cases h;exact⟨λj hj=>absurd hj (Uf _),rfl⟩
 |d::ds,b,h=>by
  rw[OY]at h;cases e:DM d with
  |bad=>rw[e]at h;cases h
  |exn x=>rw[e]at h;cases h
  |ok c=>
   rw[e,R.bind_ok]at h;cases e2:Fn ds with
   |bad=>rw[e2]at h;cases h
   |exn x=>rw[e2]at h;cases h
   |ok c2=>
    rw[e2,R.bind_ok]at h;cases h;obtain⟨h1,h2⟩:=O1 e2;refine⟨λj hj=>?_,?_⟩
    .cases j with
     |zero=>exact⟨c,e⟩
     |succ j=>exact h1 j (by simpa using hj)
    .rw[A9,T7,Hq,TN,h2];show (c||_)=((match DM d with | .ok c=>c|_=>Ad)||_)
     rw[e];rfl
theorem MX{ds:Ac D}(r:Reps X.K CL H A0 xs ds)(rv:AX xs its){v:Aj}(h:its.toArray[j]?=Aa v):j<ds.length/\∃ x,Rep X.K CL H A0 x (ds.getD j .non)/\Bm x v:=by
 have h':its[j]?=Aa v:=by simpa using h
 obtain⟨hj,e⟩:=AW.mp h';obtain⟨x,rx,q⟩:=Iz r rv hj;have l1:=rv.length;have l2:=r.length
 exact⟨by omega,x,rx,by rw[<-e];exact q⟩
theorem NQ{o:Cv}(k:∀ b q,b∉[h.objs.size]->(h.push o).get? b=Aa q->h'.get? b=Aa q):∀ b q,h.get? b=Aa q->h'.get? b=Aa q:=λb q e=>k b q (by
 intro z;have:=Bk.mp z;rw[this]at e;exact absurd (AD e) (Bf _)) (At _ e)
theorem eV(hc:X.calm=Ab):Hi X CL W (.builtin "all") (biD .all):=by
  intro A pI s Y H xs us Q I r ⟨hA,ds,rs,p⟩
  match ds,rs,p with
  |[.lst es],rs,p=>
    obtain⟨v,rfl,rv⟩:=rs.one;obtain⟨q,ys,e,_,sq,ry⟩:=rv.plain;subst e;obtain⟨u,rfl,ru⟩:=Gs r;cases ru;rw[kL]at p;cases e1:FY es with
    |bad=>rw[e1]at p;exact p.elim
    |exn x=>
      exfalso
      have:∀(es:Ac D) x,FY es≠.exn x:=by
        intro es
        induction es with
        |nil=>intro x h;cases h
        |cons d ds ih=>
          intro x h;rw[Ms]at h;cases e:DM d with
          |bad=>rw[e]at h;cases h
          |exn y=>cases d<;>cases e
          |ok c=>
            rw[e,R.bind_ok]at h;cases e2:FY ds with
            |bad=>rw[e2]at h;cases h
            |exn y=>exact ih y e2
            |ok c2=>rw[e2]at h;cases h
      exact this es x e1
    |ok b=>
      rw[e1,R.bind_ok]at p;obtain⟨h1,h2⟩:=O2 e1;obtain⟨its,rvv,pl,_⟩:=I.list sq;have hlt:q<s.heap.objs.size:=by obtain⟨o,n,e,_⟩:=pl;exact AD e
      have hl:its.toArray.size=es.length:=by rw[AL,<-rvv.length,ry.length]
      refine call_all_walk (EN (HI pl) ⟨s.heap.objs.size,_,_,_,_,_,(λj=>match DM (es.getD j .non) with | .ok c=>c|_=>Ad),rfl,VN (A:=X.A.in1) (I.ok.hd hc) s.heap.objs.size q (Be hlt) its.toArray,⟨⟨_,AY _ rfl,rfl,rfl⟩,(HI pl).push _⟩,λj v s' Q' E' hv hQ=>?_,λh' tk k=>?_⟩)
      · obtain⟨hj,x,rx,qx⟩:=MX ry rvv hv;obtain⟨c,ec⟩:=h1 j hj;exact M4 rx qx ec (by dsimp only at hQ;rw[ec]at hQ;exact hQ)
      · rw[hl,<-h2];exact⟨.bl b,H,I.kept (NQ k),rfl,p _ H (Aw.refl H) rfl⟩
  |[],_,p=>exact p.elim
  |[.non],_,p=>exact p.elim
  |[.bl _],_,p=>exact p.elim
  |[.int _],_,p=>exact p.elim
  |[.str _],_,p=>exact p.elim
  |[.tup _],_,p=>exact p.elim
  |[.obj _ _],_,p=>exact p.elim
  |[.exc _ _],_,p=>exact p.elim
  |[.dic _],_,p=>exact p.elim
  |x::_::_,_,p=>cases x<;>exact p.elim
theorem QM(hc:X.calm=Ab){es:Ac D}(I:Inv X pI Y H s)(sq:SqL X.K H q ys\/SqT X.K H q ys)(ry:Reps X.K CL H A0 ys es)(p:AT (λH=>Rep X.K CL H A) W H ((Fn es).bind λb=>.ok (.bl b)) Q):Au (model X.prog X.w) X.A (call (.builtin "any") [.ref q]) (EP X pI Y Q) X.xe s:=by
 cases e1:Fn es with
 |bad=>rw[e1]at p;exact p.elim
 |exn x=>
  exfalso
  clear p
  have:∀(es:Ac D) x,Fn es≠.exn x:=by
   intro es
   induction es with
   |nil=>intro x h;cases h
   |cons d ds ih=>
    intro x h;rw[OY]at h;cases e:DM d with
    |bad=>rw[e]at h;cases h
    |exn y=>cases d<;>cases e
    |ok c=>
     rw[e,R.bind_ok]at h;cases e2:Fn ds with
     |bad=>rw[e2]at h;cases h
     |exn y=>exact ih y e2
     |ok c2=>rw[e2]at h;cases h
  exact this es x e1
 |ok b=>
  rw[e1,R.bind_ok]at p;obtain⟨h1,h2⟩:=O1 e1;rcases sq with sq|sq
  .obtain⟨its,rvv,pl,_⟩:=I.list sq;have hlt:q<s.heap.objs.size:=by obtain⟨o,n,e,_⟩:=pl;exact AD e
   have hl:its.toArray.size=es.length:=by rw[AL,<-rvv.length,ry.length]
   refine call_any_walk (EN (HI pl) ⟨s.heap.objs.size,_,_,_,_,_,(λj=>match DM (es.getD j .non) with | .ok c=>c|_=>Ad),rfl,VN (A:=X.A.in1) (I.ok.hd hc) s.heap.objs.size q (Be hlt) its.toArray,⟨⟨_,AY _ rfl,rfl,rfl⟩,(HI pl).push _⟩,λj v s' Q' E' hv hQ=>?_,λh' tk k=>?_⟩)
   .obtain⟨hj,x,rx,qx⟩:=MX ry rvv hv;obtain⟨c,ec⟩:=h1 j hj;exact M4 rx qx ec (by dsimp only at hQ;rw[ec]at hQ;exact hQ)
   .rw[hl,<-h2];exact⟨.bl b,H,I.kept (NQ k),rfl,p _ H (Aw.refl H) rfl⟩
  .obtain⟨its,rvv,pl,_⟩:=I.tuple sq;have pl':s.heap.IsTuple q its.toArray:=pl;have hlt:q<s.heap.objs.size:=by obtain⟨o,e,_⟩:=pl';exact AD e
   have hl:its.toArray.size=es.length:=by rw[AL,<-rvv.length,ry.length]
   refine call_any_walk (FS pl' ⟨s.heap.objs.size,_,_,_,_,_,(λj=>match DM (es.getD j .non) with | .ok c=>c|_=>Ad),rfl,Walks.tuple (A:=X.A.in1) (I.ok.hd hc) s.heap.objs.size q (Be hlt) its.toArray,⟨⟨_,AY _ rfl,rfl,rfl⟩,pl'.push _⟩,λj v s' Q' E' hv hQ=>?_,λh' tk k=>?_⟩)
   .obtain⟨hj,x,rx,qx⟩:=MX ry rvv hv;obtain⟨c,ec⟩:=h1 j hj;exact M4 rx qx ec (by dsimp only at hQ;rw[ec]at hQ;exact hQ)
   .rw[hl,<-h2];exact⟨.bl b,H,I.kept (NQ k),rfl,p _ H (Aw.refl H) rfl⟩
theorem eU(hc:X.calm=Ab):Hi X CL W (.builtin "any") (biD .any):=by
  intro A pI s Y H xs us Q I r ⟨hA,ds,rs,p⟩
  match ds,rs,p with
  |[.lst es],rs,p=>
    obtain⟨v,rfl,rv⟩:=rs.one;obtain⟨q,ys,e,_,sq,ry⟩:=rv.plain;subst e;obtain⟨u,rfl,ru⟩:=Gs r;cases ru;exact QM hc I (.inl sq) ry p
  |[.tup es],rs,p=>
    obtain⟨v,rfl,rv⟩:=rs.one;obtain⟨q,ys,e,_,sq,ry⟩:=rv.plain;subst e;obtain⟨u,rfl,ru⟩:=Gs r;cases ru;exact QM hc I (.inr sq) ry p
  |[],_,p=>exact p.elim
  |[.non],_,p=>exact p.elim
  |[.bl _],_,p=>exact p.elim
  |[.int _],_,p=>exact p.elim
  |[.str _],_,p=>exact p.elim
  |[.obj _ _],_,p=>exact p.elim
  |[.exc _ _],_,p=>exact p.elim
  |[.dic _],_,p=>exact p.elim
  |x::_::_,_,p=>cases x<;>exact p.elim
end
section
variable(K:Fg)(CL:ClA)
def kM(H0:Hp)(A:Ak->Prop)(H:Hp)(v:V)(d:D):Prop:=∀ ds,d=.lst ds->∃ a xs,v=.ref a/\H0 a=Ae/\H a=Aa (.lst xs)/\Reps K CL H (λb=>A b\/b=a) xs ds
def C9(fr:Ai)(H0:Hp)(A:Ak->Prop)(H:Hp)(v:V)(d:D):Prop:=Rep K CL H A v d/\(fr=Ab->kM K CL H0 A H v d)
end
section
variable{X:Cx}{CL:ClA}{W:XW}{a b c:Am}{fa fb fc:Rho->R D}{pos:Az}
def SC(X:Cx)(CL:ClA)(W:XW)(fr:Ai)(e:Am)(f:Rho->R D):Prop:=∀ A,PE X e (λY H Q=>AOk H A/\∃ U,Good X.K CL A U Y H/\AT (C9 X.K CL fr H A) W H (f U) Q)
theorem SC.se{fr:Ai}(h:SC X CL W fr a fa):SE X CL W a fa:=λA=>PE.weak (h A) λY H Q ⟨hA,U,g,p⟩=>⟨hA,U,g,by
 cases e:fa U with
 |ok d=>rw[e]at p;exact λv H' s r=>p v H' s r.1
 |exn x=>rw[e]at p;exact p
 | bad=>rw[e]at p;exact p⟩
theorem SE.sc(h:SE X CL W a fa):SC X CL W Ad a fa:=λA=>PE.weak (h A) λY H Q ⟨hA,U,g,p⟩=>⟨hA,U,g,by
 cases e:fa U with
 |ok d=>rw[e]at p;exact λv H' s r=>p v H' s ⟨r,λz=>nomatch z⟩
 |exn x=>rw[e]at p;exact p
 | bad=>rw[e]at p;exact p⟩
theorem SC.congr{fr:Ai}{f g:Rho->R D}(h:SC X CL W fr a f)(e:∀ U,g U=f U):SC X CL W fr a g:=λA=>PE.weak (h A) λY H Q ⟨hA,U,q,p⟩=>⟨hA,U,q,by rw[<-e];exact p⟩
theorem Il{p:Ak}{ds:Ac D}(s:Aw H0 H)(hA:AOk H A)(hp:H p=Ae)(r:Reps K CL H A xs ds):C9 K CL Ab H0 A (upd H p (.lst xs)) (.ref p) (.lst ds):=
 ⟨Qg hA hp r,λ_ ds' e=>by
  cases e;exact⟨p,xs,rfl,s.free hp,Di,(Reps.wide (λa ha=>ha.imp id λe=>by rw[e];exact hp) _ r).same (Eb hp _)⟩⟩
theorem M7{fr:Ai}(r:Rep K CL H A v d)(h:∀ ds,d≠.lst ds):C9 K CL fr H0 A H v d:=⟨r,λ_ ds e=>absurd e (h ds)⟩
theorem Np(hs:SA X CL W es fs)(hz:∀ U ds,fs U=.ok ds->ds.length<=100000):SC X CL W Ab (.List es pos) (λU=>(fs U).bind λxs=>.ok (.lst xs)):=
 λA=>PE.weak (dZ (hs A)) λY H Q ⟨hA,U,g,p⟩=>⟨hA,U,g,Gu.bind p λds vs H1 e s1 r1 p1=>⟨by
  rw[r1.length,BV];have:=hz U ds e;omega,λq hq=>p1 _ _ (Eb hq _) (Il s1 (hA.same s1) hq r1)⟩⟩
theorem AT.bindF{fr:Ai}{f:D->R D}{Q':VK}(h:AT (C9 K CL fr H A) W H (r.bind f) Q)(k:∀ d v H',r=.ok d->Aw H H'->Rp H' v d->AT (C9 K CL fr H A) W H' (f d) Q->Q' v H'):AT Rp W H r Q':=by
 cases r with
 |ok d=>exact λv H2 s2 q=>k d v H2 rfl s2 q (AT.same s2 h)
 |exn x=>exact h
 |bad=>exact h
theorem Gu.bindF{Rp:Hp->Ac V->Ac D->Prop}{r:R (Ac D)}{f:Ac D->R D}{Q':Ac V->Hp->Prop}(h:AT Rq W H (r.bind f) Q)(k:∀ d v H',r=.ok d->Aw H H'->Rp H' v d->AT Rq W H' (f d) Q->Q' v H'):Gu Rp W H r Q':=by
 cases r with
 |ok d=>exact λv H2 s2 q=>k d v H2 rfl s2 q (AT.same s2 h)
 |exn x=>exact h
 |bad=>exact h
theorem ID.bindF{r:R (An Ah)}{f:An Ah->R D}(h:AT Rq W H (r.bind f) Q)(k:∀ o H',r=.ok o->Aw H H'->AT Rq W H' (f o) Q->Q' o H'):ID W H r Q':=by
 cases r with
 |ok d=>exact λH2 s2=>k d H2 rfl s2 (AT.same s2 h)
 |exn x=>exact h
 |bad=>exact h
def Ti:V->An Ah->An Ah->Hp->VK->Prop:=λx l h H Q=>∃ z,x=.str z/\(FF z l h).length<=sizeLine/\Q (.str (FF z l h)) H
theorem Qn{v:Aj}{o:An Ah}(h:FP v o):∃ p:An (Ah×B9),v=partValue p/\p.map (·.1)=o:=by
 cases h with
 |none=>exact⟨Ae,rfl,rfl⟩
 |int i t=>exact⟨Aa (i,t),rfl,rfl⟩
theorem aU:SlR X Ti:=by
 intro pI s Y H x v vl vu lo hi sl Q I rx hs pl pu h;obtain⟨z,rfl,hz,q⟩:=h;obtain⟨t,rfl⟩:=rx;obtain⟨l,rfl,el⟩:=Qn pl;obtain⟨u,rfl,eu⟩:=Qn pu;refine⟨"str",_,PySem.F.slot_str_getitem.lookup,EG _ _ _,?_⟩;refine wpAny_getItem_str_slice (l:=l) (u:=u) (st:=Ae) hs rfl ?_;subst el eu;unfold sliceMade slicePicked;unfold FF at hz q;by_cases c:((DW (l.map (·.1)) (u.map (·.1)) 1 z.length).length==z.length)=Ab
 .rw[AE c]at q;rw[AE (by rw[Al];exact⟨rfl,c⟩)]
  exact⟨.str z,H,I,⟨t,rfl⟩,q⟩
 .rw[AO c]at q hz;rw[AO (by rw[Al];exact λh=>c h.2)]
  exact⟨hz,.str _,H,I.tok _,⟨_,rfl⟩,q⟩
theorem fY{lo hi:An Am}{fl fh:Rho->R (An Ah)}(ha:ST X CL W a fa)(hl:SO X CL W lo fl)(hh:SO X CL W hi fh):SC X CL W Ab (.Subscript a (.Slice lo hi Ae p2) pos) (λU=>(fa U).bind λx=>(fl U).bind λl=>(fh U).bind λh=>slD x l h):=
 λA=>PE.weak (XV (r:=λx l h H Q=>Tj X.K x l h H Q\/(Tg X.K x l h H Q\/Ti x l h H Q)) (SlR.or YH (SlR.or aS aU)) (ha A) (hl A) (hh A)) λY H Q ⟨hA,U,g,p⟩=>⟨hA,U,g,AT.bindF p λdx x H1 _ s1 r1 p1=>⟨hA.same s1,U,g.same s1,ID.bindF p1 λl H2 _ s2 p2=>⟨(hA.same s1).same s2,U,(g.same s1).same s2,ID.bindF p2 λh H3 _ s3 p3=>by
  cases dx with
  |lst ds=>
   obtain⟨q,xs,rfl,sq,r⟩:=((r1.same s2).same s3).lst_of;exact .inl ⟨q,xs,rfl,sq,λt ht=>p3 _ _ (Eb ht _) (Il ((s1.trans s2).trans s3) (((hA.same s1).same s2).same s3) ht (QZ l h r))⟩
  |tup ds=>
   obtain⟨q,xs,rfl,_,sq,r⟩:=((r1.same s2).same s3).tup_of;rw[mI]at p3;split at p3
   .exact p3.elim
   .rename_i hw;refine .inr (.inl ⟨q,xs,rfl,sq,?_,λt ht=>p3 _ _ (Eb ht _) (M7 (Jb (((hA.same s1).same s2).same s3) ht (QZ l h r)) (by intro _ z;cases z))⟩)
    rintro⟨h1,h2⟩;refine hw ?_;have e:∀ d o,HT.sIx xs.length d o=Hm ds.length d o:=λd o=>by rw[r.length];cases o<;>rfl
    rw[e]at h1 h2;rw[r.length]at h2;simp[h1,h2]
  |str z=>
   have e:=((r1.same s2).same s3).str_of;subst e;have p4:AT (C9 X.K CL Ab H A) W H3 (if (BY z.length&&BY (FF z l h).length)=Ab then .ok (.str (FF z l h)) else .bad) Q:=p3
   split at p4
   .rename_i hk;rw[Al]at hk;exact .inr (.inr ⟨z,rfl,OJ hk.2,p4 _ H3 (Aw.refl H3) (M7 rfl (by intro _ z;cases z))⟩)
   .exact p4.elim
  | _=>exact p3.elim⟩⟩⟩
noncomputable def OpN(X:Cx)(CL:ClA)(W:XW)(f:Aj->Aj->Ff Aj)(g:D->D->R D):Prop:=
 ∀ A H0,OpR X f (λx y H Q=>Aw H0 H/\AOk H A/\∃ dx dy,B6 X.K CL H A x dx/\B6 X.K CL H A y dy/\AT (C9 X.K CL Ab H0 A) W H (g dx dy) Q)
theorem ZE:OpN X CL W (BJ .Add) (CF .Add):=by
 intro A H0 pI s Y H x y v u Q I rx ry ⟨s0,hA,dx,dy,hx,hy,p⟩;have key:(∀ ds,dx≠.lst ds)->EP X pI Y Q=EP X pI Y Q->Au (model X.prog X.w) X.A (BJ .Add v u) (EP X pI Y Q) X.xe s:=λhd _=>by
  refine Qp (W:=W) A pI s Y H x y v u Q I rx ry ⟨hA,dx,dy,hx,hy,?_⟩;cases e:CF .Add dx dy with
  |bad=>rw[e]at p;exact p
  |exn x=>rw[e]at p;exact p
  |ok d=>
   rw[e]at p;refine λv' H' s' r'=>p v' H' s' (M7 r' λds z=>?_)
   subst z;cases dx with
   |lst ds=>exact hd _ rfl
   |tup xs=>
    cases dy with
    |tup ys=>rw[RO]at e;split at e<;>cases e
    |_=>cases e
   |str xs=>
    cases dy with
    |str ys=>rw[GE]at e;split at e<;>cases e
    |_=>cases e
   |int i=>cases dy<;>cases e
   |_=>cases e
 cases dx with
 |lst ds=>
  cases dy with
  |lst es=>
   obtain⟨a,xs,rfl,s1,r1⟩:=hx.lst_of;obtain⟨b,ys,rfl,s2,r2⟩:=hy.lst_of;simp only[RP]at p;split at p
   .rename_i h;refine Qq pI s Y H _ _ v u Q I rx ry ⟨a,b,xs,ys,rfl,rfl,s1,s2,by rw[r1.length,r2.length];exact Ie h,λq hq=>?_⟩
    exact p _ _ (Eb hq _) (Il s0 hA hq (r1.append r2))
   .exact p.elim
  |_=>exact p.elim
 |_=>exact key (by intro _ z;cases z) rfl
theorem aR(ha:ST X CL W a fa)(hb:ST X CL W b fb):SC X CL W Ab (.BinOp a .Add b pos) (λU=>(fa U).bind λx=>(fb U).bind λy=>CF .Add x y):=
 λA pI s Y H Q I h=>by
  obtain⟨hA,U,g,p⟩:=h;exact Sh (ZE (W:=W) A H) (ha A) (hb A) pI s Y H Q I ⟨hA,U,g,AT.bindF p λdx x H1 _ s1 r1 p1=>⟨hA.same s1,U,g.same s1,AT.bind (Rq:=C9 X.K CL Ab H A) p1 λdy y H2 _ s2 r2 p2=>⟨s1.trans s2,(hA.same s1).same s2,dx,dy,r1.same s2,r2,p2⟩⟩⟩
def Sz(X:Cx)(CL:ClA)(W:XW)(f:Aj)(g:Ac D->R D):Prop:=∀ A H0,FZ X f (λxs H Q=>Aw H0 H/\AOk H A/\∃ ds,E6 X.K CL H A xs ds/\AT (C9 X.K CL Ab H0 A) W H (g ds) Q)
theorem Z_7:Sz X CL W (.type "list") (biD .list):=by
  intro A H0 pI s Y H xs us Q I r ⟨s0,hA,ds,rs,p⟩
  match ds,rs,p with
  |[.lst es],rs,p=>
    obtain⟨v,rfl,rv⟩:=rs.one;obtain⟨q,ys,rfl,sq,ry⟩:=rv.lst_of;exact OB pI s Y H _ us Q I r ⟨q,ys,rfl,.inl sq,λl hl=>p _ _ (Eb hl _) (Il s0 hA hl ry)⟩
  |[.tup es],rs,p=>
    obtain⟨v,rfl,rv⟩:=rs.one;obtain⟨q,ys,rfl,_,sq,ry⟩:=rv.tup_of;exact OB pI s Y H _ us Q I r ⟨q,ys,rfl,.inr sq,λl hl=>p _ _ (Eb hl _) (Il s0 hA hl ry)⟩
  |[],_,p=>exact p.elim
  |[.non],_,p=>exact p.elim
  |[.bl _],_,p=>exact p.elim
  |[.int _],_,p=>exact p.elim
  |[.str _],_,p=>exact p.elim
  |[.obj _ _],_,p=>exact p.elim
  |[.exc _ _],_,p=>exact p.elim
  |[.dic _],_,p=>exact p.elim
  |x::_::_,_,p=>cases x<;>exact p.elim
theorem aQ{g:Ac D->R D}(hc:Sz X CL W (.type T) g)(hg:Gl X x)(hm:X.mg x=Ae)(hv:Cq x=Aa (.type T))(ha:SAT X CL W (e::es) fs)(hn:x≠"__name__")(hdb:(x==("__debug__" : Ag))=Ad)(he:Aq (e::es) X.env=(Ad,eval e X.env)::Aq es X.env)(hpl:∀ pos,(Bq pos (Aq es X.env)).any (·.1)=Ad):SC X CL W Ab (.Call (.Name x p) (e::es) [] pos) (λU=>(fs U).bind g):=λA pI s Y H Q I ⟨hA,U,gd,q⟩=>
 Pf (hc A H) hg hm hv (ha A) hn hdb he (hpl _) pI s Y H Q I ⟨hA,U,gd,Gu.bindF q λds vs H1 _ s1 r1 p1=>⟨s1,hA.same s1,ds,r1,p1⟩⟩
mutual
theorem NN{K:Fg}{H:Hp}{A:Ak->Prop}(hA:AOk H A):∀(n:Af)(d:D){v:V},nlD n d=Ab->Rep K CL H A0 v d->Rep K CL H A v d
 |_,.non,_,_,h=>h
 |_,.bl _,_,_,h=>h
 |_,.int _,_,_,h=>h
 |_,.str _,_,_,h=>h
 |0,.tup _,_,hn,_=>by cases hn
 |n+1,.tup ds,_,hn,h=>by
  obtain⟨a,xs,e,_,s,r⟩:=h;refine⟨a,xs,e,?_,s,nls_up hA n ds hn r⟩;rcases s with s|s
  .refine .inl λz=>?_
   obtain⟨ys,q⟩:=hA a z;rcases s with s|⟨o,s⟩<;>rw[q]at s<;>cases s
  .exact .inr s
 |n,.lst _,_,hn,_=>by cases n<;>cases hn
 |n,.obj _ _,_,hn,_=>by cases n<;>cases hn
 |n,.exc _ _,_,hn,_=>by cases n<;>cases hn
 |n,.dic _,_,hn,_=>by cases n<;>cases hn
theorem nls_up{K:Fg}{H:Hp}{A:Ak->Prop}(hA:AOk H A):∀(n:Af)(ds:Ac D){vs:Ac V},ds.all (nlD n)=Ab->Reps K CL H A0 vs ds->Reps K CL H A vs ds
 |_,[],[],_,h=>h
 |n,d::ds,_::_,hn,h=>by
  simp only[D2,Al]at hn;exact⟨NN hA n d hn.1 h.1,nls_up hA n ds hn.2 h.2⟩
 |_,[],_::_,_,h=>h.elim
 |_,_::_,[],_,h=>h.elim
end
theorem Q6{fr:Ai}(hA0:AOk H0 A)(s:Aw H0 H)(hc:FG fr d=Ab)(r:C9 K CL fr H0 A0 H v d):C9 K CL fr H0 A H v d:=by
 have hA:=hA0.same s;cases d with
 |lst ds=>
  have hc':(fr&&ds.all (nlD 5))=Ab:=hc;rw[Al]at hc';obtain⟨a,xs,e,h0,h1,rs⟩:=r.2 hc'.1 ds rfl;have hA2:AOk H (λb=>A b\/b=a):=λb hb=>hb.elim (hA b) λe=>by rw[e];exact⟨xs,h1⟩
  have rs':=nls_up hA2 5 ds hc'.2 (Reps.sub (λ_ z=>z.elim) _ rs)
  refine⟨⟨a,xs,e,.inl (hA0.new h0),SqL.of h1,Reps.sub (λ_ z=>.inl z) _ rs'⟩,λ_ ds' e'=>?_⟩
  cases e';exact⟨a,xs,e,h0,h1,rs'⟩
 |_=>exact⟨NN hA 5 _ hc r.1,λ_ _ z=>nomatch z⟩
def spD(K:Fg)(CL:ClA)(n:Af)(fr:Ai)(F:Ac D->R D):Sp:=λvs H Q E=>∃(ds:Ac D)(A:Ak->Prop),vs.length=n/\AOk H A/\Reps K CL H A vs ds/\(match F ds with
  |.ok d=>∀ v H',Aw H H'->C9 K CL fr H A H' v d->Q v H'
  |.exn x=>∀ cls dx H',Aw H H'->ET K CL H' cls dx x->E cls dx H'
  | .bad=>AV)
def EKW(K:Fg)(CL:ClA)(A:Ak->Prop)(W:XW):XK:=λcls dx H'=>∃ x,ET K CL H' cls dx x/\W x H'
theorem E6.plain{K:Fg}{H:Hp}{A:Ak->Prop}:∀{vs:Ac V}{ds:Ac D},E6 K CL H A vs ds->Reps K CL H A0 vs ds
 |[],[],h=>trivial
 |_::_,_::_,h=>⟨h.1.plain,E6.plain h.2⟩
 |[],_::_,h=>h.elim
 |_::_,[],h=>h.elim
theorem Yg{CX:CXT}{fr:Ai}{f:Ak}{fd:Bp}{ps:Ac Ag}{F:Ac D->R D}{ft:Rho->R (Ac D)}{sh:Rho->Ai}(G:FnOk X.prog X.w X.K X.mg X.base CX k f fd ps (spD X.K CL n fr F))(hr:Room k X.A)(hg:Gl X x)(hm:X.mg x=Aa (.ref f))(hk:A7 X.K (.ref f)=Ab)(hb:Ed X.K fd ps [])(hx:∀ A,HJ CX X (EKW X.K CL A W))(ha:SA X CL W (e::es) fs)(hat:SAT X CL W (e::es) ft)(hst:∀ U,sh U=Ab->ft U=fs U)(hn:∀ U ds,ft U=.ok ds->ds.length=n)(hdb:(x==("__debug__" : Ag))=Ad)(he:Aq (e::es) X.env=(Ad,eval e X.env)::Aq es X.env)(hpl:∀ pos,(Bq pos (Aq es X.env)).any (·.1)=Ad):SC X CL W fr (.Call (.Name x p) (e::es) [] pos) (λU=>(ft U).bind λds=>(F ds).bind λd=>if sh U=Ab then .ok d else if FG fr d=Ab then .ok d else .bad):=λA pI s Y H Q I ⟨hA,U,gd,q⟩=>by
 dsimp only at q;by_cases hs:sh U=Ab
 .rw[hst U hs]at q;refine Ql G hr hg hm hk hb .nil (hx A) (ha A) hdb he (hpl _) pI s Y H Q I ⟨hA,U,gd,?_⟩;cases e1:fs U with
  |bad=>rw[e1]at q;exact q
  |exn y=>rw[e1]at q;exact q
  |ok ds=>
   rw[e1]at q;intro vs H1 s1 r1;refine⟨ds,A,by rw[Cc,r1.length];exact hn U ds (by rw[hst U hs];exact e1),hA.same s1,by rw[Cc];exact r1,?_⟩
   have q':AT (C9 X.K CL fr H A) W H ((F ds).bind λd=>if sh U=Ab then .ok d else if FG fr d=Ab then .ok d else .bad) Q:=q
   cases e2:F ds with
   |ok d=>
    rw[e2,R.bind_ok,AE hs]at q';exact λv H2 s2 r2=>q' v H2 (s1.trans s2) ⟨r2.1,λz ds' e'=>let ⟨a,xs,z1,z2,z3⟩:=r2.2 z ds' e';⟨a,xs,z1,s1.free z2,z3⟩⟩
   |exn y=>rw[e2]at q';exact λcls dx H2 s2 xr=>⟨y,xr,q' H2 (s1.trans s2)⟩
   |bad=>rw[e2]at q';exact q'.elim
 .refine Ql G hr hg hm hk hb .nil (hx A0) (hat A) hdb he (hpl _) pI s Y H Q I ⟨hA,U,gd,?_⟩;cases e1:ft U with
  |bad=>rw[e1]at q;exact q
  |exn y=>rw[e1]at q;exact q
  |ok ds=>
   rw[e1]at q;intro vs H1 s1 r1;refine⟨ds,A0,by rw[Cc,r1.plain.length];exact hn U ds e1,λ_ z=>z.elim,by rw[Cc];exact r1.plain,?_⟩
   have q':AT (C9 X.K CL fr H A) W H ((F ds).bind λd=>if sh U=Ab then .ok d else if FG fr d=Ab then .ok d else .bad) Q:=q
   cases e2:F ds with
   |ok d=>
    rw[e2,R.bind_ok,AO hs]at q';split at q'
    .rename_i hc;exact λv H2 s2 r2=>q' v H2 (s1.trans s2) (Q6 hA (s1.trans s2) hc ⟨r2.1,λz ds' e'=>let ⟨a,xs,z1,z2,z3⟩:=r2.2 z ds' e';⟨a,xs,z1,s1.free z2,z3⟩⟩)
    .exact q'.elim
   |exn y=>rw[e2]at q';exact λcls dx H2 s2 xr=>⟨y,xr,q' H2 (s1.trans s2)⟩
   |bad=>rw[e2]at q';exact q'.elim
end
theorem Mo(env:BW):∀(ns:Ac (Ag×Dq))(acc:Ac (Ag×Ak)),(∀ x∈ns,x.2=.free->∃ c,env.cells.lookup x.1=Aa c)->(∀ x c,acc.lookup x=Aa c->env.cells.lookup x=Aa c) ->
  ∃ cl,(forIn ns acc fun(x:Ag×Dq)(cs:Ac (Ag×Ak))=>(if (x.2==.free)=Ab then do let c <-cellOf env x.1;pure (DC ((x.1,c)::cs)) else pure (DC cs):Ff (ForInStep (Ac (Ag×Ak)))))=pure cl /\
   (∀ x c,cl.lookup x=Aa c->env.cells.lookup x=Aa c)/\(∀ x,((x,C5)∈ns\/∃ c,acc.lookup x=Aa c)->∃ c,cl.lookup x=Aa c)
 |[],acc,_,h2=>⟨acc,by rw[TV],h2,λx hx=>hx.elim (λz=>nomatch z) id⟩
 |(n,k)::r,acc,h1,h2=>by
  rw[List.forIn_cons];by_cases hk:k=.free
  .subst hk;obtain⟨c,hc⟩:=h1 (n,.free) AB rfl;obtain⟨cl,e,p,q⟩:=Mo env r ((n,c)::acc) (λx hx=>h1 x (Ax _ hx)) (λx d hd=>by
    rw[BQ]at hd;split at hd
    .rename_i hx;cases hd;rw[eq_of_beq hx];exact hc
    .exact h2 x d hd)
   refine⟨cl,?_,p,λx hx=>q x ?_⟩
   .have e1:cellOf env n=pure c:=by unfold cellOf;dsimp only at hc;rw[hc]
    rw[AE (by rfl),e1]
    exact e
   .rcases hx with hx|⟨d,hd⟩
    .rcases AG.mp hx with z|z
     .cases z;exact .inr ⟨c,by simp[BQ]⟩
     .exact .inl z
    .by_cases hxn:x=n
     .exact .inr ⟨c,by subst hxn;simp[BQ]⟩
     .exact .inr ⟨d,by rw[BQ];rw[Ef.mpr hxn];exact hd⟩
  .obtain⟨cl,e,p,q⟩:=Mo env r acc (λx hx=>h1 x (Ax _ hx)) h2
   refine⟨cl,?_,p,λx hx=>q x ?_⟩
   .rw[AO (by simpa using hk)]
    exact e
   .rcases hx with hx|hx
    .rcases AG.mp hx with z|z
     .cases z;exact absurd rfl hk
     .exact .inl z
    .exact .inr hx
theorem OU(h:∀ x∈scope.names,x.2=.free->∃ c,env.cells.lookup x.1=Aa c):∃ cl,closureFor scope env=pure cl/\(∀ x c,cl.lookup x=Aa c->env.cells.lookup x=Aa c)/\∀ x,(x,C5)∈scope.names->∃ c,cl.lookup x=Aa c:=by
 obtain⟨cl,e,p,q⟩:=Mo env scope.names [] h (λx c z=>by simp at z)
 refine⟨cl,?_,p,λx hx=>q x (.inl hx)⟩
 unfold closureFor
 first
  |exact e
  |(simp only[bind_pure];exact e)
  |(rw[show (forIn scope.names ([]:Ac (Ag×Ak)) _:Ff _)=pure cl from e];rfl)
theorem MC:∀(names:Ac (Ag×Dq))(h:AA)(acc:Ac (Ag×Ak))(x:Ag)(c:Ak),(Ck h.objs.size names acc).lookup x=Aa c->acc.lookup x=Aa c\/((x,Bs)∈names/\h.objs.size<=c/\(FR h names).IsCell c Ae)
 |[],_,_,_,_,e=>.inl e
 |(n,k)::r,h,acc,x,c,e=>by
  unfold Ck at e;unfold FR;by_cases hk:(k==Bs)=Ab
  .rw[AE hk]at e ⊢;have hs:h.objs.size+1=(h.push { cls:=.type "cell",data:=.cell Ae }).objs.size:=(DN ..).symm;rw[hs]at e;rcases MC r _ _ x c e with q|⟨q1,q2,q3⟩
   .rw[BQ]at q;cases hx:x==n with
    |true=>
     rw[hx]at q;cases q;refine .inr ⟨?_,AK _,?_⟩
     .rw[eq_of_beq hx,eq_of_beq hk];exact AB
     .exact⟨_,GB r _ _ _ (AY _ rfl),rfl⟩
    |false=>rw[hx]at q;exact .inl q
   .exact .inr ⟨Ax _ q1,by omega,q3⟩
  .rw[AO hk]at e ⊢;rcases MC r h acc x c e with q|⟨q1,q2,q3⟩
   .exact .inl q
   .exact .inr ⟨Ax _ q1,q2,q3⟩
theorem MD:∀(names:Ac (Ag×Dq))(h:AA)(acc:Ac (Ag×Ak)),(∀ x y c,acc.lookup x=Aa c->acc.lookup y=Aa c->x=y)->(∀ x c,acc.lookup x=Aa c->c<h.objs.size)->∀ x y c,(Ck h.objs.size names acc).lookup x=Aa c->(Ck h.objs.size names acc).lookup y=Aa c->x=y
 |[],_,_,i,_,x,y,c,e1,e2=>i x y c e1 e2
 |(n,k)::r,h,acc,i,b,x,y,c,e1,e2=>by
  unfold Ck at e1 e2;by_cases hk:(k==Bs)=Ab
  .rw[AE hk]at e1 e2;have hs:h.objs.size+1=(h.push { cls:=.type "cell",data:=.cell Ae }).objs.size:=(DN ..).symm;rw[hs]at e1 e2;have look:∀ z d,CP z ((n,h.objs.size)::acc)=Aa d->(z=n/\d=h.objs.size)\/(z≠n/\acc.lookup z=Aa d):=λz d q=>by
    rw[BQ]at q;cases hx:z==n with
    |true=>rw[hx]at q;cases q;exact .inl ⟨eq_of_beq hx,rfl⟩
    |false=>rw[hx]at q;exact .inr ⟨λe=>by rw[e]at hx;simp at hx,q⟩
   refine MD r _ _ (λz z' d q q'=>?_) (λz d q=>?_) x y c e1 e2
   .rcases look z d q with ⟨rfl,q1⟩|⟨_,q1⟩<;>rcases look z' d q' with ⟨rfl,q2⟩|⟨_,q2⟩
    .rfl
    .exact absurd (b _ _ q2) (by rw[q1];exact Bf _)
    .exact absurd (b _ _ q1) (by rw[q2];exact Bf _)
    .exact i _ _ _ q1 q2
   .rw[<-hs];rcases look z d q with ⟨_,q1⟩|⟨_,q1⟩
    .rw[q1];exact Uc _
    .exact F4 (b _ _ q1)
  .rw[AO hk]at e1 e2;exact MD r h acc i b x y c e1 e2
theorem Mp:∀(names:Ac (Ag×Dq))(n:Af)(acc:Ac (Ag×Ak))(x:Ag),(x,Bs)∉names->(Ck n names acc).lookup x=acc.lookup x
 |[],_,_,_,_=>rfl
 |(m,k)::r,n,acc,x,hx=>by
  unfold Ck;have hr:(x,Bs)∉r:=λz=>hx (Ax _ z)
  by_cases hk:(k==Bs)=Ab
  .rw[AE hk,Mp r _ _ x hr,BQ];cases q:x==m with
   |true=>exact absurd (by rw[eq_of_beq q,eq_of_beq hk];exact AB) hx
   |false=>rfl
  .rw[AO hk];exact Mp r n acc x hr
theorem ME(n0:Af):∀(names:Ac (Ag×Dq))(n:Af)(acc:Ac (Ag×Ak))(x:Ag),n0<=n->((x,Bs)∈names\/∃ c,acc.lookup x=Aa c/\n0<=c)->∃ c,(Ck n names acc).lookup x=Aa c/\n0<=c
 |[],_,_,_,_,h=>h.elim (λz=>nomatch z) id
 |(m,k)::r,n,acc,x,hn,h=>by
  unfold Ck;by_cases hk:(k==Bs)=Ab
  .rw[AE hk];refine ME n0 r _ _ x (by omega) ?_
   by_cases hx:(x==m)=Ab
   .exact .inr ⟨n,by rw[BQ,hx],hn⟩
   .rcases h with h|⟨c,h,hc⟩
    .rcases AG.mp h with z|z
     .cases z;simp at hx
     .exact .inl z
    .exact .inr ⟨c,by rw[BQ];simp only[hx];exact h,hc⟩
  .rw[AO hk];refine ME n0 r _ _ x hn (h.imp (λh=>?_) id)
   rcases AG.mp h with z|z
   .cases z;simp at hk
   .exact z
theorem V4{M:FL}{A:AQ}{E:Vq}{globals:Ak}{qual:Ag}{Q:BW->Ao->Prop}(hQ:Q (newEnv scope s.heap.objs.size globals (Ck (s.heap.objs.size+1) scope.names cl) qual Ae .none (Aa env) G5) { s with heap:=FR (s.heap.push { cls:=.type "dict",data:=.dict #[] }) scope.names }):Au M A (GY scope globals cl [] qual Ae .none (Aa env)) Q E s:=by
 simp only[GY,Option.isSome_some,DV];refine Ap (wpAny_alloc ?_);refine Ap (wpAny_layCells _ (λname kind cells=>by cases hkc:kind==Bs<;>simp[hkc]) _ _ _ _ ?_)
 rw[show ({ s with heap:=s.heap.push { cls:=.type "dict",data:=.dict #[] } }:Ao).heap.objs.size=s.heap.objs.size+1 from DN ..]
 rw[TV];exact Ap (AU (AU hQ))
noncomputable def cxC(X:Cx)(scope:BH)(cl:Ac (Ag×Ak))(C:Ak)(N':Ac Ag)(s₀:Ao)(H₀:Hp)(fp:Ac Ak):Cx where
 prog:=X.prog
 w:=X.w
 K:=X.K
 mg:=X.mg
 base:=X.base
 A:=X.A
 N:=N'
 s₀:=s₀
 H₀:=H₀
 env:=compEnvC scope cl C X.env
 outer:=X.stack
 stack:=X.stack
 ex:=fp
 fn:=λx=>scope.names.lookup x==Aa Bs
 calm:=X.calm
 pn:=[]
 xe:=λ_ _=>AV
theorem KD{env:BW}:∀{names:Ac (Ag×Dq)}{x:Ag}{k:Dq},(names.map λ(n,k)=>if (k==C5&&env.scope.kind==.function&&env.kindOf n==Aa .cell) then (n,Bs) else (n,k)).lookup x=Aa k->names.lookup x=Aa k\/(k=.cell/\names.lookup x=Aa .free)
 |[],_,_,h=>by simp at h
 |(n,j)::r,x,k,h=>by
  have ih:=@KD env r x k;have h':CP x ((if (j==C5&&env.scope.kind==.function&&env.kindOf n==Aa .cell)=Ab then (n,Bs) else (n,j))::(r.map λ(n,k)=>if (k==C5&&env.scope.kind==.function&&env.kindOf n==Aa .cell) then (n,Bs) else (n,k)))=Aa k:=h
  by_cases hc:(j==C5&&env.scope.kind==.function&&env.kindOf n==Aa .cell)=Ab
  .rw[AE hc]at h';rw[BQ]at h' ⊢;cases hx:x==n with
   |true=>
    rw[hx]at h';cases h';simp only[Al]at hc;exact .inr ⟨rfl,by rw[eq_of_beq hc.1.1]⟩
   |false=>rw[hx]at h';exact ih h'
  .rw[AO hc]at h';rw[BQ]at h' ⊢;cases hx:x==n with
   |true=>rw[hx]at h';exact .inl h'
   |false=>rw[hx]at h';exact ih h'
structure BlockOk (X:Cx) (scope:BH) (N':Ac Ag) (ts:Ac Af):Prop where
 kind:scope.kind=.function
 uniq:∀ y∈scope.names,scope.names.lookup y.1=Aa y.2
 names:∀ y∈scope.names,y.2=.local->scope.names.lookup y.1=Aa .local
 free:∀ y∈scope.names,y.2=.free->X.env.scope.names.lookup y.1=Aa .cell\/X.env.scope.names.lookup y.1=Aa .free
 len:N'.length=X.N.length
 same:∀ i x,N'[i]?=Aa x->scope.names.lookup x=Aa .free->i∉ts->X.N[i]?=Aa x
 loc:∀ i x,N'[i]?=Aa x->(scope.names.lookup x=Aa .local\/scope.names.lookup x=Aa .cell)->i∈ts
structure BCells (X:Cx) (scope:BH) (cl:Ac (Ag×Ak)) (C:Ak) (h:AA):Prop where
 own:∀ x c,cl.lookup x=Aa c->X.env.cells.lookup x=Aa c\/(scope.names.lookup x=Aa .cell/\C<c/\h.IsCell c Ae)
 inj:∀ x y c,cl.lookup x=Aa c->cl.lookup y=Aa c->x=y
 has:∀ x,scope.names.lookup x=Aa .cell->∃ c,cl.lookup x=Aa c/\C<c
 fr:∀ x,(x,C5)∈scope.names->∃ c,cl.lookup x=Aa c/\X.env.cells.lookup x=Aa c
section
variable{X:Cx}{pI:Pn}{Y:L2.St}{H:Hp}{s:Ao}
noncomputable def hideT(ts:Ac Af)(Y:L2.St):L2.St:=ts.foldl (λY t=>Y.set t Ae) Y
theorem Mx:∀(ts:Ac Af)(Y:L2.St),(hideT ts Y).length=Y.length
 |[],_=>rfl
 |t::ts,Y=>by show (hideT ts (Y.set t Ae)).length=_;rw[Mx ts,AR]
theorem O5:∀(ts:Ac Af)(Y:L2.St){i:Af}{v:V},(hideT ts Y)[i]?=Aa (Aa v)->Y[i]?=Aa (Aa v)/\i∉ts
 |[],_,_,_,h=>⟨h,by simp⟩
 |t::ts,Y,i,v,h=>by
  obtain⟨h1,h2⟩:=O5 ts (Y.set t Ae) (i:=i) (v:=v) h;by_cases e:t=i
  .subst e;have:=Fl h1;cases this
  .rw[Bv e]at h1;exact⟨h1,by simp only[AG,G1];exact⟨λz=>e z.symm,h2⟩⟩
theorem V8{tk:Af}{C:Ak}{m:Ag->An Aj}(I:Inv X pI Y H s)(B:BlockOk X scope N' ts)(hf:∀ b∈fp,F0 X pI H b)(hfo:∀ b∈fp,b<s.heap.objs.size)(hb:BCells X scope cl C h')(hk:∀ b o,s.heap.get? b=Aa o->h'.get? b=Aa o)(hC:s.heap.objs.size<=C)(hn:h'.Ns C m):Inv (cxC X scope cl C N' s H fp) [] (hideT ts Y) H {s with heap:=h',toks:=tk}:=by
 have stf:∀ b∈fp,b∉frs X.stack:=λb hb z=>by
  rcases AG.mp (I.stkSub b z) with e|e
  .exact(hf b hb).2.1 e
  .exact(hf b hb).2.2.1 e
 have frOf:∀ x,((relabel scope X.env).names.lookup x=Aa .cell\/(relabel scope X.env).names.lookup x=Aa .free)->scope.names.lookup x=Aa .free\/scope.names.lookup x=Aa .cell:=λx hx=>by
  rcases hx with z|z
  .rcases KD z with z|⟨_,z⟩
   .exact .inr z
   .exact .inl z
  .rcases KD z with z|⟨z,_⟩
   .exact .inl z
   .cases z
 have gtC:∀ c:Ak,C<c->s.heap.objs.size<=c:=λc z=>BD hC (Fe z)
 have cellK:∀ c v,s.heap.IsCell c v->h'.IsCell c v:=λc v ⟨o,ho,hd⟩=>⟨o,hk _ _ ho,hd⟩
 refine⟨⟨I.ok.mod,B.kind,I.ok.glob,I.ok.blt,hC,hb.inj,λx hx=>?_,λx c h e=>?_,I.ok.hd,I.ok.frames,.inl rfl,λb hbb=>⟨?_,λx c e=>?_⟩,I.bs,BD I.ok.bsz I.sz,λb o e hbb=>?_,stf,I.stack,I.stkFree⟩,rfl,I.bare,Un.kept hk,⟨m,hn,λi x v h1 h2 h3=>?_⟩,λx c e=>?_,I.hok.fresh hC,λx c e=>(hb.own x c e).elim (I.freeC x c) (λz=>I.hok.fresh (gtC c z.2.1)),λp hp=>absurd (show p∈([]:Pn) from hp) (by simp),I.hok.kept hk,?_⟩
 .rcases frOf x hx with z|z
  .obtain⟨c,q,_⟩:=hb.fr x (Ca z);exact⟨c,q⟩
  .obtain⟨c,q,_⟩:=hb.has x z;exact⟨c,q⟩
 .obtain⟨c',q,z⟩:=hb.has x (eq_of_beq h);have e':cl.lookup x=Aa c:=e;rw[q]at e';cases e';exact gtC _ z
 .intro z;have z':b=C:=z;have:=hfo b hbb;rw[z']at this;exact absurd (AJ this hC) (Bf _)
 .rcases hb.own x c e with z|z
  .exact(hf b hbb).2.2.2.2.1 x c z
  .intro q;have:=hfo b hbb;have:=gtC c z.2.1;rw[q]at this;exact absurd ‹b<_› (Ue.mpr this)
 .rcases (hf b hbb).2.2.2.1 with z|z
  .exact I.ok.noex b o e z
  .exact absurd (AJ (AD e) (BD I.ok.bsz z)) (Bf _)
 .obtain⟨h2,hts⟩:=O5 ts Y h2;have h3':(relabel scope X.env).names.lookup x=Aa .local\/(relabel scope X.env).names.lookup x=Aa .cell\/(relabel scope X.env).names.lookup x=Aa .free:=h3;have h1':N'[i]?=Aa x:=h1;rcases h3' with z|z
  .rcases KD z with z|⟨z,_⟩
   .exact absurd (B.loc i x h1' (.inl z)) hts
   .cases z
  .have fr:=(frOf x z).resolve_right λq=>hts (B.loc i x h1' (.inr q))
   have hm:=Ca fr;have hX:=B.same i x h1' fr hts;obtain⟨m0,hn0,hl0⟩:=I.loc;obtain⟨u,ru,lk⟩:=hl0 i x v hX h2 (by
    rcases B.free _ hm rfl with q|q
    .exact .inr (.inl q)
    .exact .inr (.inr q))
   refine⟨u,ru,?_⟩;obtain⟨c,hc,hcX⟩:=hb.fr x hm;rcases lk with ⟨q,_⟩|⟨_,c',hc',hcell⟩
   .have q':X.env.scope.names.lookup x=Aa .local:=q;rcases B.free _ hm rfl with p|p
    .rw[show X.env.scope.names.lookup x=_ from p]at q';cases q'
    .rw[show X.env.scope.names.lookup x=_ from p]at q';cases q'
   .have e:=hcX;rw[hc']at e;cases e;exact .inr ⟨z,c,hc,cellK _ _ hcell⟩
 .rcases hb.own x c e with z|z
  .obtain⟨v,q⟩:=I.cell x c z;exact⟨v,cellK _ _ q⟩
  .exact⟨_,z.2.2⟩
 .show (hideT ts Y).length=N'.length;rw[Mx,I.len,B.len]
theorem PN{C D:Ak}{s':Ao}{Y':L2.St}{pins':Pn}{h'':AA}{ys:Ac Aj}(I:Inv X pI Y H s)(hf:∀ b∈fp,F0 X pI H b)(I':Inv (cxC X scope cl C N' s H fp) pins' Y' H' s')(hD:s.heap.objs.size<=D)(hDC:D≠C)(hC:s.heap.objs.size<=C)(hd:s'.heap.get? D=Aa { cls:=.type "list",data:=.seq ys.toArray n })(hDn:H' D=Ae)(rv:AX xs ys)(hz:xs.length<=sizeLine)(hs:Eo C s'.heap h''):Inv X pI Y (upd H' D (.lst xs)) {s' with heap:=h''}:=by
  have u:Un (frs X.stack) fp H H' s.heap s'.heap:=I'.base;have lt:∀ b o,s.heap.get? b=Aa o->b≠C/\b≠D:=λb o e=>⟨λz=>absurd (AJ (AD e) (z ▸ hC)) (Bf _),λz=>absurd (AJ (AD e) (z ▸ hD)) (Bf _)⟩
  have HD:H D=Ae:=I.hok.fresh hD;have hCn:H' C=Ae:=I'.free;have kb:∀ b o,b≠C->s'.heap.get? b=Aa o->h''.get? b=Aa o:=λb o hb e=>(hs.2 b hb).trans e
  have u2:Un (frs X.stack) fp H (upd H' D (.lst xs)) s.heap h'':=⟨λb o e q hb hx=>kb b o (lt b o e).1 (u.keep b o e q hb hx),λb o e q hb hx=>by
      obtain⟨sl,e1⟩:=u.slot b o e q hb hx;exact⟨sl,kb b _ (lt b o e).1 e1⟩,λb o e q hx=>by rw[A6 (lt b o e).2];exact u.free b o e q hx,λb o e hx=>by
      obtain⟨o',e1⟩:=u.there b o e hx;exact⟨o',kb b _ (lt b o e).1 e1⟩,λb zs q=>by rw[A6 (ER q HD)];exact u.tups b zs q,λb o zs q=>by rw[A6 (ER q HD)];exact u.frzs b o zs q,λb ps q=>by rw[A6 (ER q HD)];exact u.tbls b ps q⟩
  have hok:HOk X.prog X.w (upd H' D (.lst xs)) h'':=λb o e=>by
    by_cases hb:b=D
    · subst hb;rw[Di]at e;cases e;exact⟨hz,ys,n,rv,kb _ _ hDC hd⟩
    · rw[A6 hb]at e;refine(I'.hok b o e).stay (λc v hc q=>kb c v ?_ q) (λc q=>by rw[A6 (ER q hDn)];exact q) λc zs q=>by rw[A6 (ER q hDn)];exact q
      rcases hc with rfl|hc
      · exact ER e hCn
      · exact ER hc hCn
  exact I.call' (s':={s' with heap:=h''}) (ch:=fp) I'.os u2 hok I'.bare λb hb=>⟨(hf b hb).2.2.2.1,(hf b hb).2.1,(hf b hb).2.2.2.2.1,(hf b hb).2.2.2.2.2⟩
end
def PTs(X:Cx)(ifs:Ac Am)(tt:TT):Prop:=∀(pI:Pn)(s:Ao)(Y:L2.St)(H:Hp)(Q:Ai->Hp->Prop),Inv X pI Y H s->tt Y H Q ->
 Au (model X.prog X.w) X.A (forIn ifs Ab λc r=>if r=Ab then do let ok <-GX c X.env (eval c X.env);pure (DC ok) else pure (DC r)) (TP X pI Y Q) X.xe s
theorem Zt:PTs X [] (λY H Q=>Q Ab H):=λpI s Y H Q I h=>wpAny_tests_nil ⟨H,I,h⟩
theorem Zs{t:TT}(h:PT X c t):PTs X [c] t:=λpI s Y H Q I q=>wpAny_tests_one (h pI s Y H Q I q)
theorem Wo{D:Ak}{ys:Ac Aj}{y:Aj}{E:Vq}{Q:Vq}(I:Inv X ((D,{ cls:=.type "list",data:=.seq ys.toArray n })::pI) Y H s)(hD:X.s₀.heap.objs.size<=D)(hp:∀ p∈X.pn++pI,p.1≠D)(hc:∀ x c,X.env.cells.lookup x=Aa c->c≠D)(hz:ys.length<=sizeLine)(h:∀ s',Inv X ((D,{ cls:=.type "list",data:=.seq (ys++[y]).toArray (n+1) })::pI) Y H s'->(∀ b o,b≠D->s.heap.get? b=Aa o->s'.heap.get? b=Aa o)->Q .none s'):Au (model X.prog X.w) X.A (call (.builtin "list.append") [.ref D,y]) Q E s:=by
 obtain⟨e,hn,hL,hfs,_⟩:=I.pin (D,{ cls:=.type "list",data:=.seq ys.toArray n }) (A8 _ AB);refine append_at (hsz:=by rw[AL];exact hz) e λh' hs hd=>?_
 have hd':h'.get? D=Aa { cls:=.type "list",data:=.seq (ys++[y]).toArray (n+1) }:=by rw[hd];simp
 have kb:∀ b o,b≠D->s.heap.get? b=Aa o->h'.get? b=Aa o:=λb o hb q=>(hs.2 b hb).trans q
 have I0:Inv X pI Y H s:=I.pins_of λp hp=>I.pin p (A8 _ (Ax _ hp))
 have I1:Inv X pI Y H {s with heap:=h'}:=I0.turned (t':=s.toks) kb hn hL (.inr hD) hc hp
 refine h _ (I1.pins_of λp hp=>?_) kb
 rcases AG.mp hp with rfl|hp
 .exact⟨hd',hn,hL,hfs,λv z=>by
   have z':JG _ _=JB v:=z;cases z'⟩
 .exact I1.pin p (A8 _ hp)
section
variable{prog:AF}{w:AS}{A:AQ}{R:GV->Ao->Prop}{s:Ao}
theorem V7{target:Am}{it acc:Aj}(I:Af->Ao->Prop)(turn:∀ n s,I n s->Au (model prog w) A (pyNext it) (λr s₁=>match r with
      |none=>R (.ok .next) s₁
      | some v=>Au (model prog w) A (Fi target it v) (λ_ s₁'=>Au (model prog w) A (assign target env v) (λ_ s₂=>
          Au (model prog w) A (forIn ifs Ab λc r=>if r=Ab then do let ok <-GX c env (eval c env);pure (DC ok) else pure (DC r)) (λok s₃=>
            if ok=Ab then Au (model prog w) A (eval elt env) (λx s₄=>
              Au (model prog w) A (call (.builtin "list.append") [acc,x]) (λ_ s₅=>∃ m,m<n/\I m s₅) (GZ (model prog w) A env λe s'=>R (.error e) s') s₄) (GZ (model prog w) A env λe s'=>R (.error e) s') s₃
            else ∃ m,m<n/\I m s₃) (GZ (model prog w) A env λe s'=>R (.error e) s') s₂) (GZ (model prog w) A env λe s'=>R (.error e) s') s₁') (GZ (model prog w) A env λe s'=>R (.error e) s') s₁) (GZ (model prog w) A env λe s'=>R (.error e) s') s)(n:Af)(h:I n s):EF (model prog w) A (.compLoop (.ListComp elt [⟨target,iter,ifs,0⟩] scope pos) 0 it acc env) R s:=by
  refine codeAny_loop rfl I (λn s hI=>?_) n h
  show Au _ A ((compTurn (.ListComp elt [⟨target,iter,ifs,0⟩] scope pos) 0 it acc env).onRaise (λx=>do FQ x env;theTreesLotGoes x)) _ _ s
  refine wpAny_noted ?_;rw[compTurn_list];refine Ap (DB (Ap (A2 (turn n s hI) (λr s₁ h₁=>?_) λ_ _ h'=>h')))
  cases r with
  |none=>exact AU h₁
  |some v=>
    refine Ap (A2 h₁ (λ_ s₁' h₁'=>?_) λ_ _ h'=>h')
    refine Ap (A2 h₁' (λ_ s₂ h₂=>Ap (A2 h₂ (λok s₃ h₃=>?_) λ_ _ h'=>h')) λ_ _ h'=>h')
    cases ok with
    |false=>exact AU ⟨rfl,h₃⟩
    |true=>
      exact Ap (Ap (A2 h₃ (λx s₄ h₄=>Ap (A2 h₄ (λ_ s₅ h₅=>AU (AU ⟨rfl,h₅⟩)) λ_ _ h'=>h')) λ_ _ h'=>h'))
end
def JX(J:It)(ts:Ac Af)(g:TG)(tt:TT)(te:TE)(Y:L2.St)(H:Hp)(Q:VK):Prop:=∃ W:Af->Af->Ac V->L2.St->Hp->Prop,(∃ m,W 0 m [] (hideT ts Y) H)/\∀ i m xs Y H,W i m xs Y H ->
 (J.stop i H/\∀ p,H p=Ae->Q (.ref p) (upd H p (.lst xs))) \/
 (J.go i H/\xs.length<sizeLine/\∀ x H',J.yld i H x H'->g x Y H' λY2 H2=>tt Y2 H2 λb H3=>if b=Ab then te Y2 H3 λy H4=>∃ m',m'<m/\W (i+1) m' (xs++[y]) Y2 H4 else ∃ m',m'<m/\W (i+1) m' xs Y2 H3)
theorem P9{g:TG}{it:Ak}{tn:Af->AA->Prop}{E:Vq}{RR:Aj->Ak->GV->Ao->Prop}(hc:X.calm=Ab)(B:BlockOk X scope N' ts)(I:Inv X pI Y H s)(T:Turn X.prog X.w X.K tg J fp it tn)(st:tn 0 s.heap)(hf:∀ b∈fp,F0 X pI H b)(hcl:∀ x c,cl.lookup x=Aa c->X.env.cells.lookup x=Aa c)(hcl2:∀ x,(x,C5)∈scope.names->∃ c,cl.lookup x=Aa c)(hg:∀ cl C s H,PG (cxC X scope cl C N' s H fp) tg g)(ht:∀ cl C s H,PTs (cxC X scope cl C N' s H fp) ifs tt)(he:∀ cl C s H,PE (cxC X scope cl C N' s H fp) elt te)(h:JX J ts g tt te Y H Q)(hRR:∀ cl D C s' H' Y' pins' xs ys n m,Inv (cxC X scope cl C N' s H fp) pins' Y' H' s'->s'.heap.get? D=Aa { cls:=.type "list",data:=.seq (Em ys) n }->H' D=Ae->AX xs ys->xs.length<=sizeLine->s.heap.objs.size<=D->D≠C->s.heap.objs.size<=C->s'.heap.Ns C m->Q (.ref D) (upd H' D (.lst xs))->RR (.ref D) C (.ok .next) s'):Au (model X.prog X.w) X.A (newList []) (λacc s₃=>Au (model X.prog X.w) X.A (GY scope X.env.globals cl [] X.env.qual Ae .none (Aa X.env)) (λcenv s₄=>EF (model X.prog X.w) X.A (.compStart (.ListComp elt [⟨tg,iter,ifs,0⟩] scope pos) 0 (.ref it) acc {cenv with scope:=relabel scope X.env}) (RR acc cenv.locals) s₄) E s₃) E s:=by
 refine Ch (V4 ?_);dsimp only;generalize hH2:s.heap.push { cls:=.type "list",dict:=Ae,data:=.seq ([]:Ac Aj).toArray }=H2;have hns₁:(FR (H2.push { cls:=.type "dict",data:=.dict #[] }) scope.names).Ns H2.objs.size (λ_=>Ae):=(Heap.Ns.new H2 (.type "dict")).keeps (GB _ _)
 have hkp₁:∀ b o,H2.get? b=Aa o->(FR (H2.push { cls:=.type "dict",data:=.dict #[] }) scope.names).get? b=Aa o:=λb o e=>GB _ _ b o (At _ e)
 have hown:=MC scope.names (H2.push { cls:=.type "dict",data:=.dict #[] }) cl;have hinj:=MD scope.names (H2.push { cls:=.type "dict",data:=.dict #[] }) cl;rw[DN]at hown hinj;generalize hcl':Ck (H2.objs.size+1) scope.names cl=cl' at hown hinj;have hcf:∀ x,(x,Bs)∉scope.names->cl'.lookup x=cl.lookup x:=λx hx=>by rw[<-hcl'];exact Mp _ _ _ x hx
 have hch:∀ x,(x,Bs)∈scope.names->∃ c,cl'.lookup x=Aa c/\H2.objs.size+1<=c:=λx hx=>by rw[<-hcl'];exact ME _ _ _ _ x (AK _) (.inl hx)
 generalize hh₁:FR (H2.push { cls:=.type "dict",data:=.dict #[] }) scope.names=h₁ at hns₁ hkp₁ hown;have hC:H2.objs.size=s.heap.objs.size+1:=by rw[<-hH2,DN]
 have hCle:s.heap.objs.size<=H2.objs.size:=by rw[hC];exact Ub _
 have hDC:s.heap.objs.size≠H2.objs.size:=by rw[hC];exact Be (Uc _)
 have below:∀ b,b<s.heap.objs.size->b≠H2.objs.size:=λb hb=>by rw[hC];exact Be (F4 hb)
 have old:∀ b o,s.heap.get? b=Aa o->h₁.get? b=Aa o:=λb o e=>hkp₁ b o (hH2 ▸ At _ e)
 have hacc:h₁.get? s.heap.objs.size=Aa { cls:=.type "list",data:=.seq ([]:Ac Aj).toArray 0 }:=hkp₁ _ _ (hH2 ▸ AY _ rfl);have clt:∀ x c,cl.lookup x=Aa c->c<s.heap.objs.size:=λx c e=>by
  obtain⟨v,q⟩:=I.cell x c (hcl x c e);exact q.lt
 have bc:BCells X scope cl' H2.objs.size h₁:=by
  refine⟨λx c e=>?_,hinj (λx y c e1 e2=>I.ok.inj x y c (hcl x c e1) (hcl y c e2)) (λx c e=>F4 (AJ (clt x c e) hCle)),λx hx=>?_,λx hx=>?_⟩
  .rcases hown x c e with q|⟨q1,q2,q3⟩
   .exact .inl (hcl x c q)
   .exact .inr ⟨B.uniq _ q1,q2,q3⟩
  .have hm:=Ca hx;obtain⟨c,e,hc⟩:=hch x hm;exact⟨c,e,hc⟩
  .have hno:(x,Bs)∉scope.names:=λz=>by
    have e1:=B.uniq _ hx;have e2:=B.uniq _ z;rw[show scope.names.lookup x=_ from e1]at e2
    cases e2
   obtain⟨c,e⟩:=hcl2 x hx;exact⟨c,by rw[hcf x hno];exact e,hcl x c e⟩
 have hfo:∀ b∈fp,b<s.heap.objs.size:=λb hb=>by
  obtain⟨o,e,_⟩:=T.obj 0 _ st b hb;exact AD e
 generalize hD:s.heap.objs.size=D at *;generalize hC':H2.objs.size=C at *;have I0:Inv (cxC X scope cl' C N' s H fp) [] (hideT ts Y) H {s with heap:=h₁,toks:=s.toks+([]:Ac (Ag×Aj)).length}:=V8 (tk:=s.toks+([]:Ac (Ag×Aj)).length) I B hf (λb hb=>by rw[hD];exact hfo b hb) bc old (by rw[hD];exact hCle) hns₁
 have nD:H D=Ae:=I.hok.fresh (by rw[hD];exact AK _)
 have noD:∀ b∈fp,b≠D:=λb hb=>Be (hfo b hb)
 have noC:∀ b∈fp,b≠C:=λb hb=>below b (hfo b hb)
 have stfs:D∉frs X.stack:=λz=>by
  obtain⟨_,o,ho,_⟩:=I.stack.mem z;exact absurd (AD ho) (by rw[hD];exact Bf _)
 have cD:∀ x c,cl'.lookup x=Aa c->c≠D:=λx c e z=>by
  rcases bc.own x c e with q|⟨_,q,_⟩
  .obtain⟨v,q⟩:=I.cell x c q;exact absurd q.lt (by rw[z,hD];exact Bf _)
  .rw[z]at q;exact absurd (AJ q hCle) (Bf _)
 have I1:Inv (cxC X scope cl' C N' s H fp) [(D,{ cls:=.type "list",data:=.seq ([]:Ac Aj).toArray 0 })] (hideT ts Y) H {s with heap:=h₁,toks:=s.toks+([]:Ac (Ag×Aj)).length}:=I0.pins_of λp hp=>by
  have e:=Bk.mp hp;subst e;exact⟨hacc,nD,hDC,stfs,λv z=>by
   have z':JG _ _=JB v:=z;cases z'⟩
 have st1:tn 0 h₁:=T.keep _ _ _ st λb _ o e=>old b o e
 obtain⟨W,⟨m0,w0⟩,turn⟩:=h;have fpk:∀{pl:Pn}{H':Hp},(∀ p∈pl,p.1=D)->(∀ b∈fp,H' b=Ae)->∀ b∈fp,F0 (cxC X scope cl' C N' s H fp) pl H' b:=λ{pl H'} hp hn b hb=>
  ⟨hn b hb,noC b hb,λz=>by
   rcases AG.mp (I.stkSub b z) with e|e
   .exact(hf b hb).2.1 e
   .exact(hf b hb).2.2.1 e,.inl hb,λx c e=>(bc.own x c e).elim ((hf b hb).2.2.2.2.1 x c) (λz q=>absurd (DD hCle z.2.1) (Ue.mpr (by rw[q];exact Fe (hfo b hb)))),λp hp'=>by
   have hp2:p∈pl:=hp';rw[hp p hp2];exact(noD b hb).symm⟩
 have loop:∀ s₃:Ao,s₃={s with heap:=h₁,toks:=s.toks+([]:Ac (Ag×Aj)).length} ->
   EF (model X.prog X.w) X.A (.compLoop (.ListComp elt [⟨tg,iter,ifs,0⟩] scope pos) 0 (.ref it) (.ref D) (compEnvC scope cl' C X.env)) (RR (.ref D) C) s₃:=by
  rintro s₃ rfl;refine V7 (λk s'=>∃ i Y' H' xs ys n,Inv (cxC X scope cl' C N' s H fp) [(D,{ cls:=.type "list",data:=.seq (Em ys) n })] Y' H' s'/\tn i s'.heap/\(∀ b∈fp,H' b=Ae)/\AX xs ys/\xs.length<=sizeLine/\W i k xs Y' H') ?_ m0
   ⟨0,_,H,[],[],0,I1,st1,λb hb=>(hf b hb).1,.nil,D7 _,w0⟩
  rintro k s' ⟨i,Y',H',xs,ys,n,I',st',fr',rv,hz,w'⟩;have one:∀ p∈[((D,{ cls:=.type "list",data:=.seq (Em ys) n }):Ak×Cv)],p.1=D:=λp hp=>by rw[Bk.mp hp]
  rcases turn i k xs Y' H' w' with ⟨stop,q⟩|⟨go,hlt,step⟩
  .refine A2 (T.done (cxC X scope cl' C N' s H fp) rfl rfl rfl hc i _ s' Y' H' (λ_ _=>AV) I' (fpk one fr') st' stop) (λr s1 ⟨hr,J1⟩=>?_) λ_ _ f=>f.elim
   subst hr;obtain⟨e,hn,_⟩:=J1.pin _ (A8 _ AB);obtain⟨m,hm,_⟩:=J1.loc;exact hRR cl' D C s1 H' Y' _ xs ys n m J1 e hn rv hz (AK _) hDC hCle hm (q D hn)
  .refine A2 (T.item (cxC X scope cl' C N' s H fp) rfl rfl rfl hc i _ s' Y' H' (λ_ _=>AV) I' (fpk one fr') st' go) (λr s1 ⟨u,hr,h4⟩=>?_) λ_ _ f=>f.elim
   subst hr;refine A2 h4 (λ_ s5 ⟨x,H5,I5,r5,y5,st5,fr5⟩=>?_) λ_ _ f=>f.elim
   have I5':=I5.pinned (fpk one fr5) (T.obj _ _ st5);refine A2 (hg cl' C s H _ s5 Y' H5 x u _ I5' r5 (step x H5 y5)) (λ_ s6 ⟨Y6,H6,I6,q6⟩=>?_) λ_ _ f=>f.elim
   refine A2 (ht cl' C s H _ s6 Y6 H6 _ I6 q6) (λok s7 ⟨H7,I7,q7⟩=>?_) λ_ _ f=>f.elim
   have again:∀{s8:Ao}{H8:Hp}{ys':Ac Aj}{n':Af},Inv (cxC X scope cl' C N' s H fp) ((D,{ cls:=.type "list",data:=.seq (Em ys') n' })::Iu fp s5.heap) Y6 H8 s8->Inv (cxC X scope cl' C N' s H fp) [(D,{ cls:=.type "list",data:=.seq (Em ys') n' })] Y6 H8 s8/\tn (i+1) s8.heap/\∀ b∈fp,H8 b=Ae:=λ{s8 H8 ys' n'} I8=>
    ⟨I8.pins_of λp hp=>I8.pin p (A8 _ (by rw[Bk.mp hp];exact AB)),T.keep _ _ _ st5 λb hb o e=>(I8.pin (b,o) (A8 _ (Ax _ (KG hb e)))).1,λb hb=>by
     obtain⟨o,e,d⟩:=T.obj _ _ st5 b hb;exact(I8.pin (b,o) (A8 _ (Ax _ (KG hb e)))).2.1⟩
   cases ok with
   |false=>
    rw[AO (by decide)]at q7
    obtain⟨m',hm,w7⟩:=q7;obtain⟨a1,a2,a3⟩:=again I7;rw[AO (by decide)]
    exact⟨m',hm,i+1,Y6,H7,xs,ys,n,a1,a2,a3,rv,hz,w7⟩
   |true=>
    rw[AE rfl]at q7;rw[AE rfl];refine A2 (he cl' C s H _ s7 Y6 H7 _ I7 q7) (λval s8 ⟨y,H8,I8,r8,m',hm,w8⟩=>?_) λ_ _ f=>f.elim
    have hl:=rv.length;refine Wo (X:=cxC X scope cl' C N' s H fp) (ys:=ys) (n:=n) (pI:=Iu fp s5.heap) I8 (by show s.heap.objs.size<=D;rw[hD];exact AK _) (λp hp=>?_) cD (by omega) λs9 I9 kb=>?_
    .have hp2:p∈Iu fp s5.heap:=hp;exact noD _ (Ph hp2).1
    .obtain⟨a1,a2,a3⟩:=again I9;exact⟨m',hm,i+1,Y6,H8,xs++[y],ys++[val],n+1,a1,a2,a3,rv.append (.cons r8 .nil),by rw[BN];exact hlt,w8⟩
 exact codeAny_compStart_list (loop _ rfl) (T.self _ 0 _ _ _ st1 (loop _ rfl))
theorem ZC{g:TG}(hc:X.calm=Ab)(B:BlockOk X scope N' ts)(hi:PI X tg iter wi)(hg:∀ cl C s H fp,PG (cxC X scope cl C N' s H fp) tg g)(ht:∀ cl C s H fp,PTs (cxC X scope cl C N' s H fp) ifs tt)(he:∀ cl C s H fp,PE (cxC X scope cl C N' s H fp) elt te)(hs:∀ x,B8 iter X.env x=pure x):PE X (.ListComp elt [⟨tg,iter,ifs,0⟩] scope pos) (λY H Q=>wi Y H λJ H1=>JX J ts g tt te Y H1 Q):=by
 intro pI s Y H Q I h;obtain⟨cl,hclos,hcl,hcl2⟩:=OU (scope:=scope) (env:=X.env) λx hx hk=>I.ok.has x.1 ((B.free x hx hk).imp id id)
 rw[eval_ListComp];refine VW (use:=Ae) rfl hs hclos B.kind B.names (thn (hi pI s Y H _ I h) λv s1 h1=>thn h1 λitv s2 h2=>?_)
 obtain⟨it,fp,tn,J,H2,e,I2,T,st2,f2,h3⟩:=h2;subst e;refine P9 (RR:=λacc C=>compPost (model X.prog X.w) X.A X.xe Ae (EP X pI Y Q) acc C) hc B I2 T st2 f2 hcl hcl2 (λcl C s H=>hg cl C s H fp) (λcl C s H=>ht cl C s H fp) (λcl C s H=>he cl C s H fp) h3 λcl' D C s' H' Y' pins' xs ys n m I' hd hDn rv hz hD hDC hC hm q=>?_
 exact⟨m,hm,λh'' hs''=>⟨.ref D,_,PN I2 f2 I' hD hDC hC hd hDn rv hz hs'',rfl,q⟩⟩
theorem Zx{n:Ag}{g:TG}(hc:X.calm=Ab)(B:BlockOk X scope N' ts)(hi:PI X tg iter wi)(hg:∀ cl C s H fp,PG (cxC X scope cl C N' s H fp) tg g)(ht:∀ cl C s H fp,PTs (cxC X scope cl C N' s H fp) ifs tt)(he:∀ cl C s H fp,PE (cxC X scope cl C N' s H fp) elt te)(hs:∀ x,B8 iter X.env x=pure x)(hN:X.N.Nodup)(hni:X.N[i]?=Aa n)(hx:X.env.scope.names.lookup n=Aa .local)(hsw:CB (.ListComp elt [⟨tg,iter,ifs,0⟩] scope pos) (Aa (.Name n pos')) pos2.line X.env=pure Ab):PS X (.Assign [.Name n pos'] (.ListComp elt [⟨tg,iter,ifs,0⟩] scope pos) pos2) (Oh (λY H Q=>wi Y H λJ H1=>JX J ts g tt te Y H1 Q) (ES i)):=by
 intro pI s Y H Dn I h;obtain⟨cl,hclos,hcl,hcl2⟩:=OU (scope:=scope) (env:=X.env) λx hx hk=>I.ok.has x.1 ((B.free x hx hk).imp id id)
 rw[exec_Assign_Name_used _ _ _ _ hsw];refine Ap (DB (Ap ?_));show Au _ X.A (do let _ <-comprehension (.ListComp elt [⟨tg,iter,ifs,0⟩] scope pos) scope X.env _ (newList []) Ad (eval iter X.env) (Aa (assign (.Name n pos') X.env))) _ _ s
 refine Ap (A2 (VW (use:=Aa (assign (.Name n pos') X.env)) (Q:=λ_ s'=>SP X pI Dn .next s') rfl hs hclos B.kind B.names
  (thn (hi pI s Y H _ I h) λv s1 h1=>thn h1 λitv s2 h2=>?_)) (λ_ s' hq=>AU (AU hq)) λ_ _ e=>e)
 obtain⟨it,fp,tn,J,H2,e,I2,T,st2,f2,h3⟩:=h2;subst e;refine P9 (RR:=λacc C=>compPost (model X.prog X.w) X.A X.xe (Aa (assign (.Name n pos') X.env)) (λ_ s'=>SP X pI Dn .next s') acc C) hc B I2 T st2 f2 hcl hcl2 (λcl C s H=>hg cl C s H fp) (λcl C s H=>ht cl C s H fp) (λcl C s H=>he cl C s H fp) h3 λcl' D C s' H' Y' pins' xs ys n' m I' hd hDn rv hz hD hDC hC hm q=>?_
 have J0:Inv X pI Y (upd H' D (.lst xs)) s':=PN I2 f2 I' hD hDC hC hd hDn rv hz (Heap.SameBut.refl ..);refine VV (O9 J0 hN hni (.inl hx) (show Bm (.ref D) (.ref D) from rfl) (λs'' J1 ⟨a,sb,ha⟩=>?_) (.inr hx))
 have hC0:X.s₀.heap.objs.size<=C:=BD I2.sz hC;have hL:C≠X.env.locals:=λz=>absurd (AJ I2.lt (z ▸ hC)) (Bf _)
 have hcC:∀ x c,X.env.cells.lookup x=Aa c->c≠C:=λx c e z=>by
  obtain⟨v,q'⟩:=I2.cell x c e;exact absurd (AJ q'.lt (by rw[z];exact hC)) (Bf _)
 have hp:∀ p∈X.pn++pI,p.1≠C:=λp hp z=>absurd (AJ (AD (I2.pin p hp).1) (by rw[z];exact hC)) (Bf _)
 have hCn:upd H' D (.lst xs) C=Ae:=by rw[A6 hDC.symm];exact I'.free
 have hCa:C≠a:=by
  rcases ha with rfl|ha
  .exact hL
  .exact λz=>hcC n a ha z.symm
 refine⟨m,hm.sameBut sb hCa,λh'' hs''=>⟨_,_,J1.turned (t':=s''.toks) (λb o hb e=>(hs''.2 b hb).trans e) hCn hL (.inr hC0) hcC hp,q⟩⟩
theorem IZ:∀(ts:Ac Af)(U:Rho)(j:Af),(Ew ts U)[j]?=if j∈ts then (U[j]?).map (λ_=>Ae) else U[j]?
 |[],U,j=>by simp[Ew]
 |t::ts,U,j=>by
  show (Ew ts (U.set t Ae))[j]?=_;rw[IZ ts];by_cases h1:j∈ts
  .rw[AE h1,AE (Ax _ h1)];by_cases h2:t=j
   .subst h2;rw[EI];cases U[t]?<;>rfl
   .rw[Bv h2]
  .rw[AO h1];by_cases h2:t=j
   .subst h2;rw[AE AB,EI];cases U[t]?<;>rfl
   .rw[Bv h2,AO (by simp only[AG,G1];exact⟨λz=>h2 z.symm,h1⟩)]
theorem KS:∀(ts:Ac Af)(U:Rho),(Ew ts U).length=U.length
 |[],_=>rfl
 |t::ts,U=>by show (Ew ts (U.set t Ae)).length=_;rw[KS ts,AR]
theorem Mn:∀(ts:Ac Af)(Y:L2.St){i:Af},i∉ts->(hideT ts Y)[i]?=Y[i]?
 |[],_,_,_=>rfl
 |t::ts,Y,i,h=>by
  simp only[AG,G1]at h;show (hideT ts (Y.set t Ae))[i]?=_;rw[Mn ts _ h.2,Bv (λz=>h.1 z.symm)]
theorem Oz:∀(ts:Ac Af)(ds:Ac D)(U1 U2:Rho),U1.length=U2.length->(∀ j,j∉ts->U1[j]?=U2[j]?)->Dv ts ds U1=Dv ts ds U2
 |[],[],U1,U2,hl,h=>congrArg Aa (TU λj=>h j (by simp))
 |[],_::_,_,_,_,_=>rfl
 |_::_,[],_,_,_,_=>rfl
 |t::ts,d::ds,U1,U2,hl,h=>by
  refine Oz ts ds _ _ (by rw[AR,AR];exact hl) λj hj=>?_
  by_cases e:t=j
  .subst e;rw[F3,F3,AE rfl,AE rfl,hl]
  .rw[Bv e,Bv e];exact h j (by simp only[AG,G1];exact⟨λz=>e z.symm,hj⟩)
theorem OF:∀(ts us:Ac Af)(ds:Ac D)(U U':Rho),(∀ t∈ts,t∈us)->Dv ts ds U=Aa U'->Ew us U'=Ew us U
 |[],us,[],U,U',_,e=>by cases e;rfl
 |t::ts,us,d::ds,U,U',hs,e=>by
  rw[OF ts us ds _ U' (λu hu=>hs u (Ax _ hu)) e]
  refine TU λj=>?_
  rw[IZ,IZ];by_cases h:j∈us
  .rw[AE h,AE h,F3];split
   .rename_i e2;subst e2;split
    .rename_i h3;rw[BA h3];rfl
    .rename_i h3;rw[List.getElem?_eq_none (by omega)]
   .rfl
  .rw[AO h,AO h,Bv];rintro rfl;exact h (hs _ AB)
 |[],_,_::_,_,_,_,e=>by cases e
 |_::_,_,[],_,_,_,e=>by cases e
section
variable{K:Fg}{CL:ClA}{A:Ak->Prop}{U U':Rho}{Y:L2.St}{H:Hp}
theorem Good.less(g:Good K CL A U Y H)(hl:U'.length=U.length)(h:∀(i:Af)(d:D)(o:Ai),U'[i]?=Aa (Aa (d,o))->U[i]?=Aa (Aa (d,o))):Good K CL A U' Y H:=⟨λi d e=>g.sh i d (h i d Ad e),λi d e hn=>g.ow i d (h i d Ab e) hn,hl.trans g.len⟩
theorem Good.put(g:Good K CL A U Y H)(t:Af)(r:Rep K CL H A v d):Good K CL A (U.set t (Aa (d,Ad))) (Y.set t (Aa v)) H:=by
 refine⟨λj e h=>?_,λj e h hn=>?_,by rw[AR,AR];exact g.len⟩
 .by_cases hj:t=j
  .subst hj;have e1:=Fl h;cases e1;have hl:t<Y.length:=by
    rw[<-g.len];have:=(AW.mp h).1;simpa using this
   exact⟨v,by rw[B7 hl],r⟩
  .rw[Bv hj]at h;obtain⟨w',q,rw'⟩:=g.sh j e h;exact⟨w',by rw[Bv hj];exact q,rw'⟩
 .have hj:t≠j:=by
   rintro rfl;have:=Fl h;cases this
  rw[Bv hj]at h;obtain⟨a,xs,ds,q,z⟩:=g.ow j e h hn;exact⟨a,xs,ds,by rw[Bv hj];exact q,z⟩
theorem Good.hide(g:Good K CL A U Y H)(ts:Ac Af):Good K CL A (Ew ts U) Y H:=g.less (KS _ _) λi d o e=>by
 rw[IZ]at e;split at e
 .cases q:U[i]? with
  |none=>rw[q]at e;cases e
  |some x=>rw[q]at e;cases e
 .exact e
theorem Good.hideT(g:Good K CL A U Y H)(ts:Ac Af):Good K CL A (Ew ts U) (hideT ts Y) H:=by
 have key:∀ i x,(Ew ts U)[i]?=Aa (Aa x)->U[i]?=Aa (Aa x)/\i∉ts:=λi x e=>by
  rw[IZ]at e;split at e
  .cases q:U[i]? with
   |none=>rw[q]at e;cases e
   |some x=>rw[q]at e;cases e
  .exact⟨e,by assumption⟩
 refine⟨λi d e=>?_,λi d e hn=>?_,by rw[KS,Mx];exact g.len⟩
 .obtain⟨e1,e2⟩:=key i _ e;obtain⟨v,q,r⟩:=g.sh i d e1;exact⟨v,by rw[Mn _ _ e2];exact q,r⟩
 .obtain⟨e1,e2⟩:=key i _ e;obtain⟨a,xs,ds,q,r⟩:=g.ow i d e1 hn;exact⟨a,xs,ds,by rw[Mn _ _ e2];exact q,r⟩
end
def GG(K:Fg)(CL:ClA)(ts:Ac Af)(as:D->Rho->R Rho)(g:TG):Prop:=∀ A U Y H v d U' Q,Good K CL A (Ew ts U) Y H->Rep K CL H A v d->as d U=.ok U'->(∀ Y',Good K CL A U' Y' H->Good K CL A (Ew ts U) Y' H->Q Y' H)->g v Y H Q
theorem ZV(i:Af):GG K CL [i] (λd U=>.ok (U.set i (Aa (d,Ad)))) (ES i):=λA U Y H v d U' Q g r e k=>by
 cases e;have g2:=g.put i r;have e1:(Ew [i] U).set i (Aa (d,Ad))=U.set i (Aa (d,Ad)):=by
  show (U.set i Ae).set i (Aa (d,Ad))=_;rw[T9]
 rw[e1]at g2;refine k _ g2 ?_;have:=g2.hide [i];have e2:Ew [i] (U.set i (Aa (d,Ad)))=Ew [i] U:=by
  show (U.set i _).set i Ae=U.set i Ae;rw[T9]
 rw[e2]at this;exact this
theorem QT{K:Fg}{CL:ClA}{A:Ak->Prop}{H:Hp}:∀(ts:Ac Af)(ds:Ac D)(vs:Ac V)(U U':Rho)(Y:L2.St)(Q:L2.St->Hp->Prop),Good K CL A U Y H->Reps K CL H A vs ds->Dv ts ds U=Aa U'->(∀ Y',Good K CL A U' Y' H->Q Y' H)->(ts.foldr (λt u=>Hh (ES t) u) Hk) vs Y H Q
 |[],[],[],U,U',Y,Q,x,_,e,k=>by
  cases e;exact⟨rfl,k Y x⟩
 |t::ts,d::ds,v::vs,U,U',Y,Q,x,r,e,k=>⟨v,vs,rfl,QT ts ds vs _ U' _ Q (x.put t r.1) r.2 e k⟩
 |[],_::_,_,_,_,_,_,_,_,e,_=>by cases e
 |_::_,[],_,_,_,_,_,_,_,e,_=>by cases e
 |[],[],_::_,_,_,_,_,_,r,_,_=>r.elim
 |_::_,_::_,[],_,_,_,_,_,r,_,_=>r.elim
theorem fC(ts:Ac Af):GG K CL ts (DR ts) (Kv K ts.length (ts.foldr (λt u=>Hh (ES t) u) Hk)):=λA U Y H v d U' Q g r e k=>by
 cases d with
 |tup ds=>
  obtain⟨a,xs,rfl,na,sq,rs⟩:=r;rw[OW]at e;cases e2:Dv ts ds U with
  |none=>rw[e2]at e;cases e
  |some U2=>
   rw[e2]at e;cases e;have e3:Dv ts ds (Ew ts U)=Aa U':=by
    rw[<-e2];exact Oz ts ds _ _ (KS _ _) λj hj=>by rw[IZ,AO hj]
   refine⟨a,xs,rfl,sq,by rw[rs.length];exact Mm _ _ _ _ e2,QT ts ds xs _ U' Y Q g rs e3 λY' g'=>k Y' g' ?_⟩
   have:=g'.hide ts;rw[OF ts ts ds U U' (λ_ h=>h) e2]at this
   exact this
 |_=>cases e
noncomputable abbrev W0:XW:=λ_ _=>AV
def STs(X:Cx)(CL:ClA)(ifs:Ac Am)(f:Rho->R Ai):Prop:=∀ A,PTs X ifs (λY H Q=>AOk H A/\∃ U,Good X.K CL A U Y H/\Ct W0 H (f U) Q)
theorem Yv:STs X CL [] (λ_=>.ok Ab):=λA pI s Y H Q I ⟨hA,U,g,p⟩=>Zt pI s Y H Q I (p H (Aw.refl H))
theorem Yu{f:Rho->R Ai}(h:SB X CL W0 c f):STs X CL [c] f:=λA pI s Y H Q I q=>Zs (h A) pI s Y H Q I q
section
variable{X:Cx}{CL:ClA}{W:XW}{tg iter elt:Am}{ifs:Ac Am}{scope:BH}{pos:Az}{N':Ac Ag}{ts:Ac Af}{fi:Rho->R (Ac D)}{fc:Rho->R Ai}{fe:Rho->R D}{as:D->Rho->R Rho}{g:TG}
theorem V6{g:D->R Ai}{f:D->R D}{x:D}{xs ys:Ac D}(h:BX g f (x::xs)=.ok ys):(g x=.ok Ad/\BX g f xs=.ok ys)\/∃ y r,g x=.ok Ab/\f x=.ok y/\BX g f xs=.ok r/\ys=y::r:=by
 unfold BX at h;cases e:g x with
 |bad=>rw[e]at h;cases h
 |exn z=>rw[e]at h;cases h
 |ok b=>
  rw[e,R.bind_ok]at h;cases b with
  |false=>exact .inl ⟨rfl,h⟩
  |true=>
   rw[AE rfl]at h;cases e2:f x with
   |bad=>rw[e2]at h;cases h
   |exn z=>rw[e2]at h;cases h
   |ok y=>
    rw[e2,R.bind_ok]at h;cases e3:BX g f xs with
    |bad=>rw[e3]at h;cases h
    |exn z=>rw[e3]at h;cases h
    |ok r=>
     rw[e3,R.bind_ok]at h;cases h;exact .inr ⟨y,r,rfl,rfl,rfl,rfl⟩
theorem Ij{β:Type}{r:R α}{f:α->R β}{b:β}(h:r.bind f=.ok b):∃ a,r=.ok a/\f a=.ok b:=by
 cases r with
 |ok a=>exact⟨a,rfl,h⟩
 |exn x=>cases h
 |bad=>cases h
theorem Xa{ds ys:Ac D}(hGG:GG K CL ts as g)(hA:AOk H1 A)(gd:Good K CL A U Y H1)(yl:HZ K CL A ds J H1)(hz:ds.length<=sizeLine)(hcp:BX (λx=>(as x U).bind fc) (λx=>(as x U).bind fe) ds=.ok ys)(q:∀ xs H2,Aw H1 H2->Reps K CL H2 A xs ys->∀ p,H2 p=Ae->Q (.ref p) (upd H2 p (.lst xs))):JX J ts g (λY H Q=>AOk H A/\∃ U,Good K CL A U Y H/\Ct W0 H (fc U) Q) (λY H Q=>AOk H A/\∃ U,Good K CL A U Y H/\AT (λH=>Rep K CL H A) W0 H (fe U) Q) Y H1 Q:=by
 refine⟨λi m xs Y' H'=>m=ds.length-i/\i<=ds.length/\xs.length<=i/\Aw H1 H'/\Good K CL A (Ew ts U) Y' H'/\∃ outs rest,Reps K CL H' A xs outs/\BX (λx=>(as x U).bind fc) (λx=>(as x U).bind fe) (ds.drop i)=.ok rest/\ys=outs++rest,
  ⟨ds.length,by simp,D7 _,AK _,Aw.refl _,gd.hideT ts,[],ys,trivial,hcp,rfl⟩,?_⟩
 rintro i m xs Y' H' ⟨rfl,hi,hxl,sm,g',outs,rest,rs,hc,e⟩;obtain⟨yst,ygo⟩:=yl H' (Kp.of sm) i;by_cases hlt:i<ds.length
 .have hd:ds[i]?=Aa ds[i]:=BA hlt;obtain⟨hgo,hyl⟩:=ygo _ hd;refine .inr ⟨hgo,by omega,λx H2 hx=>?_⟩
  obtain⟨s2,rx⟩:=hyl x H2 hx;have rx':=rx A (λa ha=>.inl ha) (hA.same sm)
  rw[Eg hlt]at hc;have sm2:=sm.trans s2;rcases V6 hc with ⟨h1,h2⟩|⟨y,r,h1,h2,h3,h4⟩
  .obtain⟨U',ea,ec⟩:=Ij h1;refine hGG A U Y' H2 x ds[i] U' _ (g'.same s2) rx' ea λY3 g3 g4=>⟨hA.same sm2,U',g3,?_⟩
   rw[ec];exact λH3 s3=>by
    dsimp only;rw[AO (by decide)]
    exact⟨ds.length-(i+1),by omega,rfl,hlt,by omega,sm2.trans s3,g4.same s3,outs,rest,(rs.same s2).same s3,h2,e⟩
  .obtain⟨U',ea,ec⟩:=Ij h1;obtain⟨U2,ea2,ee⟩:=Ij h2;rw[ea]at ea2;cases ea2;refine hGG A U Y' H2 x ds[i] U' _ (g'.same s2) rx' ea λY3 g3 g4=>⟨hA.same sm2,U',g3,?_⟩
   rw[ec];exact λH3 s3=>by
    dsimp only;rw[AE rfl];refine⟨(hA.same sm2).same s3,U',g3.same s3,?_⟩;rw[ee];exact λv H4 s4 r4=>⟨ds.length-(i+1),by omega,rfl,hlt,by rw[BN,CU];omega,(sm2.trans s3).trans s4,(g4.same s3).same s4,outs++[y],r,(((rs.same s2).same s3).same s4).append ⟨r4,trivial⟩,h3,by rw[e,h4];simp⟩
 .have hk':ds.length<=i:=by omega
  rw[EV hk']at hc;have hr:rest=[]:=by cases hc;rfl
  subst hr;rw[Cc]at e;subst e;exact .inl ⟨yst hk',λp hp=>q xs H' sm rs p hp⟩
theorem Ez.ok_of{r:R (Ac D)}{f:Ac D->R D}{Q':It->Hp->Prop}(h:AT Rq W H (r.bind f) Q)(k:∀ ds J H',r=.ok ds->Aw H H'->HZ K CL A ds J H'->ds.length<=sizeLine->AT Rq W H' (f ds) Q->Q' J H'):Ez K CL A W H r Q':=by
 cases r with
 |ok d=>exact λJ H2 s2 y z=>k d J H2 rfl s2 y z (AT.same s2 h)
 |exn x=>exact h
 |bad=>exact h
theorem cS{r:R α}{a:α}(h:noX r=.ok a):r=.ok a:=by
 cases r with
 |ok b=>exact h
 |exn x=>cases h
 |bad=>cases h
theorem PM(hGG:GG X.K CL ts as g)(hA:AOk H A)(gd:Good X.K CL A U Y H)(p:AT (C9 X.K CL Ab H A) W H ((fi U).bind λxs=>(noX (BX (λx=>(as x U).bind fc) (λx=>(as x U).bind fe) xs)).bind λys=>.ok (.lst ys)) Q):Ez X.K CL A W H (fi U) (λJ H1=>JX J ts g (λY H Q=>AOk H A/\∃ U,Good X.K CL A U Y H/\Ct W0 H (fc U) Q) (λY H Q=>AOk H A/\∃ U,Good X.K CL A U Y H/\AT (λH=>Rep X.K CL H A) W0 H (fe U) Q) Y H1 Q):=
 Ez.ok_of p λds J H1 e1 s1 yl hz p1=>by
  cases e2:noX (BX (λx=>(as x U).bind fc) (λx=>(as x U).bind fe) ds) with
  |ok ys=>
   rw[e2]at p1;exact Xa hGG (hA.same s1) (gd.same s1) yl hz (cS e2) λxs H2 s2 rs q hq=>p1 _ _ (s2.trans (Eb hq _)) (Il (s1.trans s2) ((hA.same s1).same s2) hq rs)
  |exn x=>rw[e2]at p1;cases hq:BX (λx=>(as x U).bind fc) (λx=>(as x U).bind fe) ds<;>rw[hq]at e2<;>cases e2
  |bad=>rw[e2]at p1;exact p1.elim
theorem YN(hc:X.calm=Ab)(B:BlockOk X scope N' ts)(hi:SI X CL W tg iter fi)(hGG:GG X.K CL ts as g)(hg:∀ cl C s H fp,PG (cxC X scope cl C N' s H fp) tg g)(ht:∀ cl C s H fp,STs (cxC X scope cl C N' s H fp) CL ifs fc)(he:∀ cl C s H fp,SE (cxC X scope cl C N' s H fp) CL W0 elt fe)(hs:∀ x,B8 iter X.env x=pure x):SC X CL W Ab (.ListComp elt [⟨tg,iter,ifs,0⟩] scope pos) (λU=>(fi U).bind λxs=>(noX (BX (λx=>(as x U).bind fc) (λx=>(as x U).bind fe) xs)).bind λys=>.ok (.lst ys)):=λA pI s Y H Q I ⟨hA,U,gd,p⟩=>
 ZC hc B (hi A) hg (λcl C s H fp=>ht cl C s H fp A) (λcl C s H fp=>he cl C s H fp A) hs pI s Y H Q I ⟨hA,U,gd,PM hGG hA gd p⟩
end
section
variable{K:Fg}{CL:ClA}{Fz:Fr}{B:Ak->Prop}{U:Rho}{Y:L2.St}{H H':Hp}
theorem Sx.setF(x:Sx K CL Fz B U Y H)(s:Aw H H'){ds:Ac D}(h0:H a=Ae)(h1:H' a=Aa (.lst xs))(r:Reps K CL H' (λb=>Ba B U Y b\/b=a) xs ds):Sx K CL Fz B (U.set i (Aa (.lst ds,Ab))) (Y.set i (Aa (.ref a))) H':=by
 have nA:¬ Ba B U Y a:=x.aok.new h0;have own:∀(j:Af)(e:D),(U.set i (Aa (.lst ds,Ab)))[j]?=Aa (Aa (e,Ab))->(i=j/\e=.lst ds)\/(i≠j/\U[j]?=Aa (Aa (e,Ab))):=λj e h=>by
  by_cases hj:i=j
  .subst hj;have:=Fl h;cases this;exact .inl ⟨rfl,rfl⟩
  .exact .inr ⟨hj,by rw[Bv hj]at h;exact h⟩
 have atI:∀{j:Af}{y:Sl},(U.set i (Aa (.lst ds,Ab)))[j]?=Aa y->i=j->(Y.set i (Aa (.ref a)))[j]?=Aa (Aa (.ref a)):=λ{j y} h e=>by
  subst e;have hl:i<Y.length:=by
   rw[<-x.len];have:=(AW.mp h).1;simpa using this
  rw[B7 hl]
 have sub:∀ b,Ba B (U.set i (Aa (.lst ds,Ab))) (Y.set i (Aa (.ref a))) b->Ba B U Y b\/b=a:=λb h=>by
  rcases h with h|⟨j,e,h1,h2⟩
  .exact .inl (.inl h)
  .rcases own j e h1 with ⟨hj,_⟩|⟨hj,h1'⟩
   .rw[atI h1 hj]at h2;cases h2;exact .inr rfl
   .rw[Bv hj]at h2;exact .inl (.inr ⟨j,e,h1',h2⟩)
 have wide:∀{v:V}{d:D},Rep K CL H (Ba B U Y) v d->Rep K CL H' (Ba B (U.set i (Aa (.lst ds,Ab))) (Y.set i (Aa (.ref a)))) v d:=λr=>(Rep.wide (λb hb=>(sub b hb).imp id λe=>by rw[e];exact h0) _ r).same s
 have wides:∀{v:Ac V}{d:Ac D},Reps K CL H (Ba B U Y) v d->Reps K CL H' (Ba B (U.set i (Aa (.lst ds,Ab))) (Y.set i (Aa (.ref a)))) v d:=λr=>(Reps.wide (λb hb=>(sub b hb).imp id λe=>by rw[e];exact h0) _ r).same s
 refine⟨⟨λj e h=>?_,λj e h hn=>?_,by rw[AR,AR];exact x.len⟩,λb h=>?_,λj e b g1 g2=>?_,λj k e f b g1 g2 g3 g4=>?_,λb o z=>s _ _ (x.same b o z),by rw[AR,AR];exact x.len,λj h=>?_⟩
 .have hj:i≠j:=by
   rintro rfl;have:=Fl h;cases this
  rw[Bv hj]at h;obtain⟨w',q,rw'⟩:=x.good.sh j e h;exact⟨w',by rw[Bv hj];exact q,wide rw'⟩
 .rcases own j e h with ⟨hj,rfl⟩|⟨hj,h'⟩
  .have q:=atI h hj;exact⟨a,xs,ds,q,rfl,.inr ⟨j,_,h,q⟩,h1,Reps.sub sub _ r⟩
  .obtain⟨b,ys,es,q,z,ha,hh,rr⟩:=x.good.ow j e h' hn;have q':(Y.set i (Aa (.ref a)))[j]?=Aa (Aa (.ref b)):=by rw[Bv hj];exact q
   exact⟨b,ys,es,q',z,.inr ⟨j,e,h,q'⟩,s _ _ hh,wides rr⟩
 .rcases sub b h with z|z
  .obtain⟨ys,q⟩:=x.aok b z;exact⟨ys,s _ _ q⟩
  .rw[z];exact⟨xs,h1⟩
 .rcases own j e g1 with ⟨hj,_⟩|⟨hj,h'⟩
  .rw[atI g1 hj]at g2;cases g2;refine⟨λo z=>?_,λz=>nA (.inl z)⟩
   have:=x.same a o z;rw[h0]at this;cases this
  .rw[Bv hj]at g2;exact x.new j e b h' g2
 .rcases own j e g1 with ⟨hj,_⟩|⟨hj,h'⟩
  .rw[atI g1 hj]at g3;cases g3;rcases own k f g2 with ⟨hk,_⟩|⟨hk,h''⟩
   .exact hj.symm.trans hk
   .rw[Bv hk]at g4;exact absurd (.inr ⟨k,f,h'',g4⟩) nA
  .rw[Bv hj]at g3;rcases own k f g2 with ⟨hk,_⟩|⟨hk,h''⟩
   .rw[atI g2 hk]at g4;cases g4;exact absurd (.inr ⟨j,e,h',g3⟩) nA
   .rw[Bv hk]at g4;exact x.dis j k e f b h' h'' g3 g4
 .rcases own j _ h with ⟨_,z⟩|⟨hj,h'⟩
  .cases z
  .obtain⟨b,ys,p1,p2,p3⟩:=x.pin j h';exact⟨b,ys,p1,by rw[Bv hj];exact p2,s _ _ p3⟩
theorem Sx.upd(x:Sx K CL Fz B U Y H){i:Af}{d:D}{a:Ak}{xs:Ac V}{ds:Ac D}(hi:U[i]?=Aa (Aa (d,Ab)))(ha:Y[i]?=Aa (Aa (.ref a)))(r:Reps K CL H (Ba B U Y) xs ds):Sx K CL Fz B (U.set i (Aa (.lst ds,Ab))) Y (L2.upd H a (.lst xs)):=by
 have oa:Ba B U Y a:=.inr ⟨i,d,hi,ha⟩;have hil:i<U.length:=(AW.mp hi).1;have get:∀(j:Af)(e:D),(U.set i (Aa (.lst ds,Ab)))[j]?=Aa (Aa (e,Ab))↔(i=j/\e=.lst ds)\/(i≠j/\U[j]?=Aa (Aa (e,Ab))):=λj e=>by
  by_cases hj:i=j
  .subst hj;rw[B7 hil];simp;exact⟨λz=>z.symm,λz=>z.symm⟩
  .rw[Bv hj];simp[hj]
 have same:∀ b,Ba B (U.set i (Aa (.lst ds,Ab))) Y b↔Ba B U Y b:=λb=>by
  constructor
  .rintro (h|⟨j,e,h1,h2⟩)
   .exact .inl h
   .rcases (get j e).mp h1 with ⟨rfl,_⟩|⟨_,h1⟩
    .exact .inr ⟨i,d,hi,h2⟩
    .exact .inr ⟨j,e,h1,h2⟩
  .rintro (h|⟨j,e,h1,h2⟩)
   .exact .inl h
   .by_cases hj:i=j
    .subst hj;exact .inr ⟨i,.lst ds,(get i _).mpr (.inl ⟨rfl,rfl⟩),h2⟩
    .exact .inr ⟨j,e,(get j e).mpr (.inr ⟨hj,h1⟩),h2⟩
 have kp:Kp (Ba B U Y) H (L2.upd H a (.lst xs)):=λb o e na=>by
  have hne:b≠a:=by
   rintro rfl;exact na oa
  rw[A6 hne];exact e
 refine⟨⟨λj e h=>?_,λj e h hn=>?_,by rw[AR];exact x.len⟩,λb h=>?_,λj e b g1 g2=>?_,λj k e f b g1 g2 g3 g4=>?_,λb o z=>?_,by rw[AR];exact x.len,λj h=>?_⟩
 .have hj:i≠j:=by
   rintro rfl;have:=Fl h;cases this
  rw[Bv hj]at h;obtain⟨w',q,rw'⟩:=x.good.sh j e h;exact⟨w',q,Rep.sub (λb hb=>(same b).mp hb) _ (Rep.kp kp _ rw')⟩
 .rcases (get j e).mp h with ⟨rfl,rfl⟩|⟨hj,h'⟩
  .exact⟨a,xs,ds,ha,rfl,(same a).mpr oa,Di,Reps.sub (λb hb=>(same b).mp hb) _ (Reps.kp kp _ r)⟩
  .obtain⟨b,ys,es,q,z,hb,hh,rr⟩:=x.good.ow j e h' hn;have hne:b≠a:=λz=>hj (x.dis i j d e a hi h' ha (z ▸ q))
   exact⟨b,ys,es,q,z,(same b).mpr hb,by rw[A6 hne];exact hh,Reps.sub (λb hb=>(same b).mp hb) _ (Reps.kp kp _ rr)⟩
 .obtain⟨ys,q⟩:=x.aok b ((same b).mp h);by_cases e:b=a
  .rw[e];exact⟨xs,Di⟩
  .exact⟨ys,by rw[A6 e];exact q⟩
 .rcases (get j e).mp g1 with ⟨rfl,_⟩|⟨_,h'⟩
  .exact x.new i d b hi g2
  .exact x.new j e b h' g2
 .rcases (get j e).mp g1 with ⟨rfl,_⟩|⟨hj,h'⟩
  .rcases (get k f).mp g2 with ⟨rfl,_⟩|⟨hk,h''⟩
   .rfl
   .exact x.dis i k d f b hi h'' g3 g4
  .rcases (get k f).mp g2 with ⟨rfl,_⟩|⟨hk,h''⟩
   .exact x.dis j i e d b h' hi g3 g4
   .exact x.dis j k e f b h' h'' g3 g4
 .have hne:b≠a:=λe=>(x.new i d a hi ha).1 o (e ▸ z)
  rw[A6 hne];exact x.same b o z
 .rcases (get j _).mp h with ⟨_,z⟩|⟨hj,h'⟩
  .cases z
  .obtain⟨b,ys,p1,p2,p3⟩:=x.pin j h';have hne:b≠a:=λz=>hj (x.dis i j d _ a hi h' ha (z ▸ p2))
   exact⟨b,ys,p1,p2,by rw[A6 hne];exact p3⟩
theorem Sx.rel(x:Sx K CL Fz B U Y H)(hi:U[i]?=Aa (Aa (d,Ab)))(hn:d≠.non):Sx K CL Fz B (U.set i (Aa (d,Ad))) Y H:=by
 obtain⟨a,xs,ds,q,rfl,oa,hh,rr⟩:=x.good.ow i d hi hn;have own:∀(j:Af)(e:D),(U.set i (Aa (.lst ds,Ad)))[j]?=Aa (Aa (e,Ab))->i≠j/\U[j]?=Aa (Aa (e,Ab)):=λj e h=>by
  by_cases hj:i=j
  .subst hj;have:=Fl h;cases this
  .exact⟨hj,by rw[Bv hj]at h;exact h⟩
 have sub:∀ b,Ba B (U.set i (Aa (.lst ds,Ad))) Y b->Ba B U Y b:=λb h=>by
  rcases h with h|⟨j,e,h1,h2⟩
  .exact .inl h
  .exact .inr ⟨j,e,(own j e h1).2,h2⟩
 have na:¬ Ba B (U.set i (Aa (.lst ds,Ad))) Y a:=λh=>by
  rcases h with h|⟨j,e,h1,h2⟩
  .exact(x.new i _ a hi q).2 h
  .obtain⟨hj,h1⟩:=own j e h1;exact hj (x.dis i j _ e a hi h1 q h2)
 refine⟨⟨λj e h=>?_,λj e h hn=>?_,by rw[AR];exact x.len⟩,λb h=>x.aok b (sub b h),λj e b g1 g2=>x.new j e b (own j e g1).2 g2,λj k e f b g1 g2 g3 g4=>x.dis j k e f b (own j e g1).2 (own k f g2).2 g3 g4,x.same,by rw[AR];exact x.len,λj h=>x.pin j (own j _ h).2⟩
 .by_cases hj:i=j
  .subst hj;have e1:=Fl h;cases e1;exact⟨_,q,a,xs,rfl,.inl na,SqL.of hh,Reps.sub sub _ rr⟩
  .rw[Bv hj]at h;obtain⟨w',q',rw'⟩:=x.good.sh j e h;exact⟨w',q',Rep.sub sub _ rw'⟩
 .obtain⟨hj,h'⟩:=own j e h;obtain⟨b,ys,es,q',z,hb,hh',rr'⟩:=x.good.ow j e h' hn;exact⟨b,ys,es,q',z,.inr ⟨j,e,h,q'⟩,hh',Reps.sub sub _ rr'⟩
end
section
variable{X:Cx}{CL:ClA}{W:XW}{pos:Az}{e:Am}{fe:Rho->R D}{fr:Ai}
theorem Bh.exC{f:D->O}(x:Sx X.K CL Fz B U Y H)(h:Bh X.K CL Fz B W (O.of U r f) D')(k:∀ d v H',r=.ok d->Aw H H'->C9 X.K CL fr H A H' v d->Sx X.K CL Fz B U Y H'->Bh X.K CL Fz B W (f d) D'->Q v H'):AT (C9 X.K CL fr H A) W H r Q:=by
 cases r with
 |ok d=>exact λv H' s r=>k d v H' rfl s r (x.grow s) h
 |exn y=>exact λH' s=>h H' λb o z=>s _ _ (x.same b o z)
 |bad=>exact h
def SAs(X:Cx)(CL:ClA)(W:XW)(fr:Ai)(i:Af)(st:AC)(f:Rho->R D):Prop:=∀ A,PS X st (Oh (λY H Q=>AOk H A/\∃ U,Good X.K CL A U Y H/\AT (C9 X.K CL fr H A) W H (f U) Q) (ES i))
theorem SC.sas{n:Ag}(hN:X.N.Nodup)(hi:X.N[i]?=Aa n)(hx:Loc X.env.scope n)(he:SC X CL W fr e fe)(hs:CB e (Aa (.Name n pos')) pos.line X.env=pure Ad)(hf:X.fn n=Ab\/X.env.scope.names.lookup n=Aa .local):SAs X CL W fr i (.Assign [.Name n pos'] e pos) fe:=
 λA=>Lb hN hi hx (he A) hs hf
theorem XJ{n:Ag}{fe:Rho->R D}{g:TG}(hc:X.calm=Ab)(B:BlockOk X scope N' ts)(hi:SI X CL W tg iter fi)(hGG:GG X.K CL ts as g)(hg:∀ cl C s H fp,PG (cxC X scope cl C N' s H fp) tg g)(ht:∀ cl C s H fp,STs (cxC X scope cl C N' s H fp) CL ifs fc)(he:∀ cl C s H fp,SE (cxC X scope cl C N' s H fp) CL W0 elt fe)(hs:∀ x,B8 iter X.env x=pure x)(hN:X.N.Nodup)(hni:X.N[i]?=Aa n)(hx:X.env.scope.names.lookup n=Aa .local)(hsw:CB (.ListComp elt [⟨tg,iter,ifs,0⟩] scope pos) (Aa (.Name n pos')) pos2.line X.env=pure Ab):SAs X CL W Ab i (.Assign [.Name n pos'] (.ListComp elt [⟨tg,iter,ifs,0⟩] scope pos) pos2) (λU=>(fi U).bind λxs=>(noX (BX (λx=>(as x U).bind fc) (λx=>(as x U).bind fe) xs)).bind λys=>.ok (.lst ys)):=λA pI s Y H Dn I ⟨hA,U,gd,p⟩=>
 Zx hc B (hi A) hg (λcl C s H fp=>ht cl C s H fp A) (λcl C s H fp=>he cl C s H fp A) hs hN hni hx hsw pI s Y H Dn I ⟨hA,U,gd,PM hGG hA gd p⟩
theorem RH{st:AC}(h:SAs X CL W fr i st fe):SS X CL W st (λU=>O.of U (fe U) λd=>.next (U.set i (Aa (d,Ad)))):=λFz B pI s Y H D I ⟨U,x,p⟩=>
 h (Ba B U Y) pI s Y H D I ⟨x.aok,U,x.good,Bh.exC x p λd v H' _ s r x' q=>q _ H' (x'.set i r.1)⟩
theorem QA{st:AC}(h:SAs X CL W Ab i st fe):SS X CL W st (λU=>O.of U (fe U) λd=>setF U i d):=λFz B pI s Y H D I ⟨U,x,p⟩=>
 h (Ba B U Y) pI s Y H D I ⟨x.aok,U,x.good,Bh.exC x p λd v H' _ s r x' q=>by
  cases d with
  |lst ds=>
   obtain⟨a,xs,rfl,h0,h1,rs⟩:=r.2 rfl ds rfl;exact q _ H' (x.setF s h0 h1 rs)
  |dic ds=>exact r.1.elim
  | _=>exact q.elim⟩
theorem YB(he:SC X CL W Ab e fe):SS X CL W (.Return (Aa e) pos) (λU=>O.of U (fe U) λd=>.ret d Ab):=λFz B pI s Y H D I ⟨U,x,p⟩=>
 Nj (he (Ba B U Y)) pI s Y H D I ⟨x.aok,U,x.good,Bh.exC x p λd v H' _ s r x' q=>q v H' x'.same (Rep.sub (λa h=>.inl h) _ r.1) λ_ ds e=>by
  obtain⟨a,xs,h0,h1,h2,h3⟩:=r.2 rfl ds e;refine⟨a,xs,h0,λo z=>?_,h2,Reps.sub (λb hb=>hb.imp .inl id) _ h3⟩
  have:=x.same a o z;rw[h1]at this;cases this⟩
noncomputable def Ol(U:Rho)(i:Af):Ai:=match U[i]? with
  |some (Aa (_,o))=>o
  |_=>Ad
theorem Yz(he:PE X e (DZ i)):SS X CL W (.Return (Aa e) pos) (λU=>O.of U (Dj U i) λd=>.ret d (Ol U i)):=λFz B pI s Y H D I ⟨U,x,p⟩=>
 Nj he pI s Y H D I (by
  dsimp only at p;cases e:Dj U i with
  |bad=>rw[e]at p;exact p.elim
  |exn z=>exact(KM e).elim
  |ok d=>
   rw[e]at p;obtain⟨o,e,hn⟩:=Qu e;have eo:Ol U i=o:=by unfold Ol;rw[e]
   rw[O.of_ok,eo]at p;cases o with
   |false=>
    obtain⟨v,q,r⟩:=x.good.sh i d e;exact⟨v,q,p v H x.same (Rep.sub (λa h=>.inl h) _ r) λz=>nomatch z⟩
   |true=>
    obtain⟨a,xs,ds,q,rfl,ha,hh,r⟩:=x.good.ow i d e (hn rfl);obtain⟨n1,n2⟩:=x.new i _ a e q;refine⟨_,q,p _ H x.same ⟨a,xs,rfl,.inl n2,SqL.of hh,Reps.sub (λa h=>.inl h) _ r⟩ λ_ ds' e'=>?_⟩
    cases e';exact⟨a,xs,rfl,n1,hh,Reps.sub (λb hb=>hb.elim .inl λz=>z ▸ ha) _ r⟩)
theorem Qo{ds:Ac D}(h:CS U i=.ok ds):U[i]?=Aa (Aa (.lst ds,Ab)):=by
 unfold CS at h;split at h
 .rename_i e;cases h;exact e
 .cases h
theorem Pt{x:Ex}(h:CS U i=.exn x):AV:=by
 unfold CS at h;split at h<;>cases h
variable{o:Am}{i:Af}{apos cpos:Az}
theorem aP(ho:PE X o (DZ i))(he:SE X CL W e fe)(hbase:CM o "append" X.env (eval o X.env)=eval o X.env)(hfew:((Bq cpos (Aq [e] X.env)).all (λx=>!x.1)&&(G2 cpos (FM [] X.env)).all (λx=>x.1.isSome)&&decide ([e].length+([]:Ac DO).length+(if ([]:Ac DO).isEmpty then 0 else 1)<30))=Ab)(hline:(apos.endLine==cpos.line)=Ab)(hs:Aq [e] X.env=[(Ad,eval e X.env)])(hsw:CB (.Call (.Attribute o "append" apos) [e] [] cpos) Ae pos.line X.env=pure Ad):
  SS X CL W (.Expr (.Call (.Attribute o "append" apos) [e] [] cpos) pos) (λU=>O.of U (CS U i) λxs=>O.of U (fe U) λd=>if BY (xs.length+1)=Ab then .next (U.set i (Aa (.lst (xs++[d]),Ab))) else .bad):=λFz B pI s Y H D I ⟨U,x,p⟩=>by
 refine JP (NR PySem.F.plainAttrs_list PySem.F.slot_list_append PySem.F.type_list_append Wu ho (Dt (he (Ba B U Y)) EQ hs) hbase hfew hline hs rfl) hsw pI s Y H D I ?_;dsimp only at p;cases e1:CS U i with
 |bad=>rw[e1]at p;exact p.elim
 |exn z=>exact(Pt e1).elim
 |ok ds=>
  rw[e1,O.of_ok]at p;have hi:=Qo e1;obtain⟨a,xs,ds',q,e2,ha,hh,r⟩:=x.good.ow i _ hi (λz=>nomatch z)
  cases e2;refine⟨_,q,.inl ⟨rfl,xs,SqL.of hh⟩,x.aok,U,x.good,Bh.ex x p λd v H' _ s rv x' q'=>?_⟩
  split at q'
  .rename_i hz;refine⟨a,xs,v,rfl,rfl,s _ _ hh,?_,q' _ _ (x'.upd hi q ((r.same s).append ⟨rv,trivial⟩))⟩;have:=Ie hz;rw[r.length];omega
  .exact q'.elim
theorem Yy{rest:Ac AC}{f:Rho->O}(i:Af)(h:SSs X CL W rest f):SSs X CL W rest (λU=>(match U[i]? with
   |some (Aa (d,Ab))=>LD U i d
   | _=>O.next U).seq f):=λFz B=>PSs.weak (h Fz B) λD Y H ⟨U,x,p⟩=>by
 dsimp only at p;split at p
 .rename_i d e;cases d with
  |lst xs=>exact⟨_,x.rel e (λz=>nomatch z),p⟩
  |_=>exact p.elim
 .exact⟨U,x,p⟩
end
section
variable{X:Cx}{CL:ClA}{W:XW}{pos:Az}{e k o:Am}{fe fk:Rho->R D}{i:Af}{apos cpos:Az}
theorem AX.take(r:AX xs its):∀ n,AX (xs.take n) (its.take n):=by
 induction r with
 |nil=>intro n;simp;exact .nil
 |cons h _ ih=>
  intro n;cases n with
  |zero=>exact .nil
  |succ n=>exact .cons h (ih n)
theorem AX.drop(r:AX xs its):∀ n,AX (xs.drop n) (its.drop n):=by
 induction r with
 |nil=>intro n;simp;exact .nil
 |cons h t ih=>
  intro n;cases n with
  |zero=>exact .cons h t
  |succ n=>exact ih n
end
section
variable{prog:AF}{w:AS}{A:AQ}{E:Vq}{s:Ao}
theorem cQ{j t:Ak}{its:A3 Aj}{x:Aj}{Q:Vq}(st:s.heap.IsTupleIter j t k)(sq:s.heap.IsTuple t its)(at_:its[k]?=Aa x)(go:∀ h2,h2.IsTupleIter j t (k+1)->Eo j s.heap h2->Q x {s with heap:=h2}):Au (model prog w) A (Dd (.ref j)) Q E s:=by
 obtain⟨oj,gj,cj,dj⟩:=id st;obtain⟨ot,gt,_,nt,dt⟩:=sq;show Au _ _ (HA _ _ >>= _) _ _ _;refine Ap (EL st.typeIs C4 (Gm C4 st.typeIs U_2 ?_ (UZ _)));show Au _ _ (field (.ref j) 0 >>= _) _ _ _;refine Ap (CG gj dj (x:=.ref t) rfl ?_);show Au _ _ (field (.ref j) 1 >>= _) _ _ _;refine Ap (CG gj dj (x:=.int k 0) rfl ?_);refine Ap (V0 gt dt ?_);simp only[TK,at_];exact Ap (EH gj dj (by simp) (AU ⟨x,rfl,AU (go _ ⟨_,Cz _ gj (DP (CA dj _)),(Vb ..).trans cj,by rw[CA dj];simp[D5]⟩ (U_8 ..))⟩))
theorem Wt{j t:Ak}{its:A3 Aj}{Q:Vq}(calm:A.handled=Ae)(st:s.heap.IsTupleIter j t k)(sq:s.heap.IsTuple t its)(at_:its[k]?=Ae)(up:∀ h2 e,U_7 j s.heap h2->(∃ o,h2.get? e=Aa o/\o.cls=.type "StopIteration")->E (.ref e) {s with heap:=h2}):Au (model prog w) A (Dd (.ref j)) Q E s:=by
 obtain⟨oj,gj,cj,dj⟩:=id st;obtain⟨ot,gt,_,nt,dt⟩:=sq;show Au _ _ (HA _ _ >>= _) _ _ _;refine Ap (EL st.typeIs C4 (Gm C4 st.typeIs U_2 ?_ (UZ _)));show Au _ _ (field (.ref j) 0 >>= _) _ _ _;refine Ap (CG gj dj (x:=.ref t) rfl ?_);show Au _ _ (field (.ref j) 1 >>= _) _ _ _;refine Ap (CG gj dj (x:=.int k 0) rfl ?_);refine Ap (V0 gt dt ?_);simp only[TK,at_];refine Ap (wpAny_rule (Ap (EH gj dj (by simp) ?_)))
 refine Ap ?_;simp only[newExc,newTuple];refine Ap (Ch ?_ (by size_fits))
 refine Ap (m:=VP _ _) (GD (a:=.none) (by first|rfl|(simp only[VP];rfl)) (Ch ?_ (by size_fits)))
 simp only[raiseNew];refine Ap (wpAny_handled ?_)
 first|rw[show A.in1.handled=Ae from calm]|rw[calm]
 exact Ap (AU (wpAny_throw (up _ _ (((U_8 ..).extBut.push _).push _) ⟨_,AY _ rfl,rfl⟩)))
end
structure Dw (prog:AF) (w:AS) (A:AQ) (j:Ak) (fp:Ac Ak) (n:Af) (P:Af->Aj->Prop) (S:Af->AA->Prop):Prop where
 frame:∀ i h h2,S i h->(∀ c∈fp,∀ o,h.get? c=Aa o->h2.get? c=Aa o)->S i h2
 item:∀ i (s:Ao) (Q:Vq) (E:Vq),i<n->S i s.heap->(∀ x h2 tk,P i x->S (i+1) h2->Eo j s.heap h2->Q x {s with heap:=h2,toks:=tk})->Au (model prog w) A (Dd (.ref j)) Q E s
 done:∀ i (s:Ao) (Q:Vq) (E:Vq),n<=i->S i s.heap->(∀ h2 e,U_7 j s.heap h2->(∃ o,h2.get? e=Aa o/\o.cls=.type "StopIteration")->E (.ref e) {s with heap:=h2})->Au (model prog w) A (Dd (.ref j)) Q E s
def Fq(t:Ai)(h:AA)(j l:Ak)(i:Af):Prop:=match t with
  |true=>h.IsTupleIter j l i
  |false=>h.IsListIter j l i
def FH(t:Ai)(h:AA)(l:Ak)(its:A3 Aj):Prop:=match t with
  |true=>h.IsTuple l its
  |false=>h.IsList l its
theorem Sv{A:AQ}(calm:A.handled=Ae)(t:Ai)(j l:Ak)(ne:l≠j)(its:A3 Aj):Dw prog w A j [j,l] its.size (λi v=>its[i]?=Aa v) (λi h=>Fq t h j l i/\FH t h l its):=by
 cases t with
 |true=>exact⟨λ_ _ _ z k=>⟨z.1.at λo e=>k j (by simp) o e,z.2.at λo e=>k l (by simp) o e⟩,λi s Q E hi z q=>cQ z.1 z.2 (x:=its[i]) (by simp[hi]) λh2 z2 sb=>q _ h2 s.toks (by simp[hi]) ⟨z2,z.2.extBut sb.extBut ne⟩ sb,λi s Q E hi z q=>Wt calm z.1 z.2 (by simp[hi]) q⟩
 |false=>exact⟨λ_ _ _ z k=>⟨z.1.at λo e=>k j (by simp) o e,z.2.at λo e=>k l (by simp) o e⟩,λi s Q E hi z q=>wpAny_nextOf_list_item z.1 z.2 (x:=its[i]) (by simp[hi]) λh2 z2 sb=>q _ h2 s.toks (by simp[hi]) ⟨z2,z.2.extBut sb.extBut ne⟩ sb,λi s Q E hi z q=>wpAny_nextOf_list_end calm z.1 z.2 (by simp[hi]) q⟩
theorem nb2{I l c:Af}(b:l<I)(h:c∈[I+1,l]):c≠I/\c≠I+3/\c≠I+4:=by
 have h':c=I+1\/c=l:=by simpa using h
 omega
theorem ni0{I i:Af}(h:i≠0):I+i≠I:=by omega
section
variable{prog:AF}{w:AS}{A:AQ}{E:Vq}{s:Ao}
end
def SqX(t:Ai)(K:Fg)(H:Hp)(a:Ak)(xs:Ac V):Prop:=match t with
  |true=>SqT K H a xs
  |false=>SqL K H a xs
theorem Ny(I:Inv X pI Y H s)(h:SqX t X.K H a xs):∃ its:Ac Aj,AX xs its/\FH t s.heap a its.toArray/\xs.length<=sizeLine:=by
 cases t with
 |true=>
  obtain⟨its,rv,p,z⟩:=I.tuple h;exact⟨its,rv,p,z⟩
 |false=>
  obtain⟨its,rv,p,z⟩:=I.list h;exact⟨its,rv,p.isList,z⟩
theorem Wl(I:Inv X pI Y H s)(h:SqX t X.K H a xs)(h2:SqX t X.K H a ys):xs=ys:=by
 cases t with
 |true=>exact I.tuple_inj h h2
 |false=>exact I.list_inj h h2
theorem Inv.turnedL{t':Af}(ch:Ac Ak)(I:Inv X pI Y H s)(k:∀ b o,b∉ch->s.heap.get? b=Aa o->h'.get? b=Aa o)(hf:∀ b∈ch,F0 X pI H b):Inv X pI Y H {s with heap:=h',toks:=t'}:=by
 have nit:∀ b u,H b=Aa u->b∉ch:=λb u e z=>by rw[(hf b z).1]at e;cases e
 refine I.step (g':=s.gens) (d':=s.drawn) (ch:=ch) (λb hb=>⟨(hf b hb).2.2.2.1,(hf b hb).2.1,(hf b hb).2.2.2.2.1,(hf b hb).2.2.2.2.2⟩) (λb o _ _ hc e _=>k b o hc e) (λb o _ _ hc e _=>⟨o.slots,k b o hc e⟩) (λ_ _ _ _ n=>n)
  (λb o hc e=>⟨o,k b o hc e⟩) (λ_ _ e=>e) (λ_ _ _ e=>e) (λb ps e=>⟨#[],by rw[e];simp⟩) (λm ⟨o,es,ep,ho,r⟩=>⟨o,es,ep,k _ o (λz=>(hf _ z).2.1 rfl) ho,r⟩) (λb u e=>(I.hok b u e).stay (λc v hc q=>k c v ?_ q) (λ_ q=>q) λ_ _ q=>q) I.bare
 rcases hc with z|z
 .rw[z];exact nit b u e
 .exact nit c _ z
section
variable{prog:AF}{w:AS}{A:AQ}{E:Vq}{s:Ao}
noncomputable def itO(t:Ai)(l:Ak):Cv:=match t with
  |true=>{ cls:=.type "tuple_iterator",data:=.fields #[.ref l,.int 0 0] }
  |false=>{ cls:=.type "list_iterator",data:=.fields #[.ref l,.int 0 0] }
theorem NH{its:A3 Aj}{Q:Vq}(h:FH t s.heap l its)(q:Q (.ref s.heap.objs.size) {s with heap:=s.heap.push (itO t l)}):Au (model prog w) A (JK (.ref l)) Q E s:=by
 cases t with
 |true=>exact FS h q
 |false=>exact EN h q
theorem FH.push{its:A3 Aj}(z:FH t h l its)(o:Cv):FH t (h.push o) l its:=by
 cases t with
 |true=>exact PySem.Heap.IsTuple.at z λ_ e=>At _ e
 |false=>exact PySem.Heap.IsList.at z λ_ e=>At _ e
theorem cH{j:Ak}(e:h.get? j=Aa (itO t l)):Fq t h j l 0:=by
 cases t with
 |true=>exact⟨_,e,rfl,rfl⟩
 |false=>exact⟨_,e,rfl,rfl⟩
theorem Xx(t:Ai)(l:Ak):(itO t l).isFreed=Ad:=by cases t<;>rfl
end
theorem FH.lt{its:A3 Aj}(z:FH t h a its):a<h.objs.size:=by
 cases t with
 |true=>obtain⟨o,e,_⟩:=z;exact AD e
 |false=>obtain⟨o,e,_⟩:=z;exact AD e
theorem gS{ds:Ac D}(r:Rep K CL H A v d)(e:DK d=.ok ds):∃ t a xs,v=.ref a/\(∀ H2,Kp A H H2->SqX t K H2 a xs)/\Reps K CL H A xs ds:=by
 cases d with
 |lst es=>
  cases e;obtain⟨q,xs,rfl,na,sq,r⟩:=r;exact⟨Ad,q,xs,rfl,λH2 k=>K9 k na sq,r⟩
 |tup es=>
  cases e;obtain⟨q,xs,rfl,na,sq,r⟩:=r;exact⟨Ab,q,xs,rfl,λH2 k=>K8 k na sq,r⟩
 |_=>cases e
section
variable{X:Cx}{CL:ClA}{W:XW}{pos p:Az}{a b:Am}{fa fb:Rho->R D}
end
theorem Fq.live{l:Af}(z:Fq t h j l i):∃ o,h.get? j=Aa o/\∀ v,o.data≠.cell v:=by
 cases t with
 |true=>obtain⟨o,e,c,d⟩:=z;exact⟨o,e,λv z=>by rw[d]at z;cases z⟩
 |false=>obtain⟨o,e,c,d⟩:=z;exact⟨o,e,λv z=>by rw[d]at z;cases z⟩
theorem Fq.keep{h2:AA}{l:Af}(z:Fq t h j l i)(k:∀ o,h.get? j=Aa o->h2.get? j=Aa o):Fq t h2 j l i:=by
 cases t with
 |true=>exact PySem.Heap.IsTupleIter.at z k
 |false=>exact PySem.Heap.IsListIter.at z k
theorem fK{A:AQ}(calm:A.handled=Ae)(t:Ai)(j l:Ak)(ne:l≠j)(its:A3 Aj):Draws prog w A j [j,l] its.size (λi v=>its[i]?=Aa v) (λi h=>Fq t h j l i/\FH t h l its):=
 have d:=Sv (prog:=prog) (w:=w) calm t j l ne its
 ⟨λi h z=>let ⟨o,e,_⟩:=z.1.live;⟨o,e⟩,d.frame,d.item,λs Q E h q=>d.done _ s Q E (AK _) h q⟩
theorem Z_5{A:AQ}(calm:A.handled=Ae)(t:Ai)(j l:Ak)(ne:l≠j)(its:A3 Aj)(i:Af)(hi:its.size<=i):Draws prog w A j [j,l] i (λ_ _=>AV) (λk h=>k=i/\Fq t h j l i/\FH t h l its):=
 have d:=Sv (prog:=prog) (w:=w) calm t j l ne its
 ⟨λ_ h z=>let ⟨o,e,_⟩:=z.2.1.live;⟨o,e⟩,λk h h' z q=>⟨z.1,d.frame i h h' z.2 q⟩,λk s Q E lt z=>absurd z.1 (Be lt),λs Q E h q=>d.done i s Q E hi h.2 q⟩
noncomputable def Ite(K:Fg)(t:Ai)(a:Ak):It:=
 ⟨λi H=>∃ xs x,SqX t K H a xs/\xs[i]?=Aa x,λi H v H'=>∃ p x,H p=Ae/\v=.ref p/\(∀ xs,SqX t K H a xs->xs[i]?=Aa x)/\H'=upd H p (.tup [.int i,x]),λi H=>∃ xs,SqX t K H a xs/\xs.length<=i⟩
def eTn(t:Ai)(I l:Af)(i:Af)(h:AA):Prop:=(∃ old,IsEnum h (I+1) I i old)/\Fq t h I l i
theorem WF{P:AF}(t:Ai)(I l:Af)(b:l<I):Turn P w K (.Tuple es n pos) (Ite K t l) [I,I+1] (I+1) (eTn t I l) where
  mem:=by simp
  obj:=λi h ⟨⟨old,z1⟩,z2⟩ c hc=>by
    simp only[AG,CO,FK]at hc;rcases hc with rfl|rfl
    · exact z2.live
    · exact⟨_,z1,λv z=>by cases z⟩
  keep:=λi h h2 ⟨⟨old,z1⟩,z2⟩ k=>⟨⟨old,k _ (by simp) _ z1⟩,z2.keep λo e=>k _ (by simp) o e⟩
  item:=by
    intro X hP hw hK hc i pI s Y H E Iv hf ⟨⟨old,z1⟩,z2⟩ ⟨xs,x,q1,hx⟩;subst hP hw hK;obtain⟨us,rx,px,_⟩:=Ny Iv q1;obtain⟨u,hu,ru⟩:=rx.get hx;have lu:i<us.toArray.size:=by
      have:=(AW.mp hu).1;simpa using this
    refine wpAny_pyNext_enum_itemD (fK (A:=X.A.in1) (Iv.ok.hd hc) t I l (Be b) us.toArray) z1 ⟨z2,px⟩ lu (ni0 (by decide)) (by simp only[AG,CO,FK,G1];exact⟨ni0 (by decide),Gi (AJ b (Nat.le_add_right _ _))⟩) λu' h2 tk hu' ho it2 hT sz kp=>⟨_,rfl,wpAny_letOwnedTupleGo_enum ho λh3 d1 sb=>?_⟩
    have eu:u'=u:=by
      rw[List.getElem?_toArray,hu]at hu';exact(Bc hu').symm
    subst eu;have lt:I+1<s.heap.objs.size:=AD z1;have kp3:∀ c o,c∉[I,I+1]->s.heap.get? c=Aa o->h3.get? c=Aa o:=λc o nc q=>by
      simp only[AG,CO,FK,G1]at nc;exact sb.extBut c o nc.2 (kp c o nc.2 nc.1 q)
    have nT:∀ c∈[I,I+1],c≠s.heap.objs.size:=λc hc z=>by
      have:c<=I+1:=by
        simp only[AG,CO,FK]at hc;rcases hc with z|z<;>rw[z]<;>simp
      exact absurd (z ▸ DD this lt) (Bf _)
    have I1:Inv X pI Y (upd H s.heap.objs.size (.tup [.int i,x])) { s with heap:=s.heap.push { cls:=.type "tuple",data:=.seq #[.int i tk,u'] },toks:=s.toks }:=
      Iv.laid (λ_ _ q=>At _ q) (AK _) ⟨(by decide:2<=sizeLine),[.int i tk,u'],.cons ⟨_,rfl⟩ (.cons ru .nil),⟨_,AY _ rfl,rfl,_,rfl⟩⟩
    have hf':∀ b∈[I,I+1],F0 X pI (upd H s.heap.objs.size (.tup [.int i,x])) b:=λb hb=>⟨by rw[A6 (nT b hb)];exact(hf b hb).1,(hf b hb).2⟩
    have I2:Inv X pI Y (upd H s.heap.objs.size (.tup [.int i,x])) {s with heap:=h3,toks:=tk+1}:=Inv.turnedL (s:={ s with heap:=s.heap.push { cls:=.type "tuple",data:=.seq #[.int i tk,u'] },toks:=s.toks }) [I,I+1] I1 (λc o nc q=>by
      rcases Heap.get?_push_cases q with ⟨e1,e2⟩|e1
      · subst e1 e2;exact sb.extBut _ _ (Gi lt) hT
      · exact kp3 c o nc e1) hf'
    exact⟨.ref s.heap.objs.size,_,I2,rfl,⟨s.heap.objs.size,x,Iv.fresh,rfl,λzs hz=>by rw[Wl Iv hz q1];exact hx,rfl⟩,⟨⟨u',by simpa using d1⟩,it2.1.keep λo q=>sb.extBut _ o (CV (ni0 (by decide))) q⟩,λb hb=>(hf' b hb).1⟩
  done:=by
    intro X hP hw hK hc i pI s Y H E Iv hf ⟨⟨old,z1⟩,z2⟩ ⟨xs,q1,hk⟩;subst hP hw hK;obtain⟨us,rx,px,_⟩:=Ny Iv q1;have e1:=rx.length;have e2:us.toArray.size<=i:=by rw[AL,<-e1];exact hk
    refine wpAny_pyNext_enum_endD (Z_5 (A:=X.A.in1) (Iv.ok.hd hc) t I l (Be b) us.toArray i e2) z1 ⟨rfl,z2,px⟩ λh2 eb=>⟨rfl,Inv.turnedL [I] Iv (t':=s.toks) (λc o nc q=>eb c o (λz=>nc (by simp[z])) q) λc hc=>hf c ?_⟩
    have:c=I:=by simpa using hc
    subst this;simp
  self:=λ_ _ _ _ _ st h=>VZ st.1.choose_spec h
section
variable{prog:AF}{w:AS}{A:AQ}{E:Vq}{s:Ao}
theorem X8(t:Ai)(l:Ak)(xs:A3 Aj):Meets (Builtin.«enumerate.__new__» ⟨[.type "enumerate",.ref l],[]⟩) (λ_ R s=>FH t s.heap l xs /\
   R (.ok (.ret (.ref (s.heap.push (itO t l)).objs.size))) { s with heap:=(s.heap.push (itO t l)).push { cls:=.type "enumerate",data:=.fields #[.none,.bool Ad,.ref s.heap.objs.size,D5 0,.none,.none] } }):=
 .of_wp λprog w A R s h=>by
  obtain⟨hp,g,d,tk,os⟩:=s;obtain⟨hl,h⟩:=h;have hsub:=sub_enumerate;have hL:FH t (Shared.heap ⟨hp,g,d,tk,os⟩) l xs:=hl
  wp_walk
  refine wpAny_stack_any λst=>AU ?_
  split
  .rename_i c _ _ _ _ _;cases (c==IL "enumerate")
   .wp_walk using NH hL
    exact⟨_,rfl,h⟩
   .wp_walk using NH hL
    exact⟨_,rfl,h⟩
  .wp_walk using NH hL
   exact⟨_,rfl,h⟩
theorem W9{xs:A3 Aj}{Q:Vq}(hL:FH t s.heap l xs)(h:∀ h',IsEnum h' (s.heap.objs.size+1) s.heap.objs.size 0 .none->Fq t h' s.heap.objs.size l 0->(∀ b o,s.heap.get? b=Aa o->h'.get? b=Aa o)->Q (.ref (s.heap.objs.size+1)) {s with heap:=h'}):
    Au (model prog w) A (call (.type "enumerate") [.ref l]) Q E s:=by
  refine callType_new F.called_enumerate (by decide) (F.typeCall_enumerate_1 _) (F.newCall_enumerate_1 _) (λobj=>F.args_object_init_2 obj _) F.entry_enumerate_new (X8 t l xs) ⟨hL,?_⟩
  have hz:(s.heap.push (itO t l)).objs.size=s.heap.objs.size+1:=DN ..;show _/\_;rw[hz];have he:IsEnum ((s.heap.push (itO t l)).push { cls:=.type "enumerate",data:=.fields #[.none,.bool Ad,.ref s.heap.objs.size,D5 0,.none,.none] }) (s.heap.objs.size+1) s.heap.objs.size 0 .none:=by
    have:=AY (s.heap.push (itO t l)) (o:={ cls:=.type "enumerate",data:=.fields #[.none,.bool Ad,.ref s.heap.objs.size,D5 0,.none,.none] }) rfl;rw[hz]at this;exact this
  exact⟨⟨_,he,rfl⟩,h _ he (cH (At _ (AY _ (Xx _ _)))) λb o x=>At _ (At _ x)⟩
end
def lJ(K:Fg)(ta:TA):TI:=λY H R=>ta Y H λvs H1=>∃ t a xs,vs=[.ref a]/\SqX t K H1 a xs/\(xs.length<=sizeLine->R (Ite K t a) H1)
theorem Qj{a:Am}{ta:TA}(hg:Gl X "enumerate")(hm:X.mg "enumerate" = Ae)(ha:PA X [a] ta)(hs:Aq [a] X.env=[(Ad,eval a X.env)]):
  PI X (.Tuple es n tpos) (.Call (.Name "enumerate" p) [a] [] pos) (lJ X.K ta):=by
 intro pI s Y H R I h;refine Call_ (Jh I hg hm PyProof.Rows.boot_enumerate (CQ (thn (ha pos pI s Y H _ I h) λus s1 ⟨vs,H1,I1,r1,q1⟩=>?_) hs rfl))
 obtain⟨t,c,xs,e,sx,q⟩:=q1;subst e;cases r1 with
 |cons r rr=>
  cases rr;cases r;obtain⟨us,ru,pu,zu⟩:=Ny I1 sx;refine W9 pu λh2 z1 z2 kp=>VZ z1 ?_
  refine⟨s1.heap.objs.size+1,[s1.heap.objs.size,s1.heap.objs.size+1],_,_,H1,rfl,I1.kept (t':=s1.toks) kp,WF t s1.heap.objs.size c pu.lt,⟨⟨_,z1⟩,z2⟩,λb hb=>?_,q zu⟩
  have hb':s1.heap.objs.size<=b:=by
   simp only[AG,CO,FK]at hb;rcases hb with z|z<;>rw[z]<;>simp
  exact I1.fpOk hb' (I1.hok.fresh hb')
theorem KQ:∀(j:Ah)(xs:Ac D),(Cj j xs).length=xs.length
 |_,[]=>rfl
 |j,x::xs=>by rw[Cj,A9,KQ,A9]
theorem MU:∀(xs:Ac D)(j:Ah)(i:Af)(d:D),(Cj j xs)[i]?=Aa d->∃ x,xs[i]?=Aa x/\d=.tup [.int (j+i),x]
 |[],j,i,d,h=>by simp[Cj]at h
 |x::xs,j,0,d,h=>by
  rw[Cj]at h;simp only[List.getElem?_cons_zero,Option.some.injEq]at h;exact⟨x,rfl,by rw[<-h];simp⟩
 |x::xs,j,i+1,d,h=>by
  rw[Cj]at h;simp only[List.getElem?_cons_succ]at h ⊢;obtain⟨y,h1,h2⟩:=MU xs (j+1) i d h;exact⟨y,h1,by rw[h2];congr 3;omega⟩
theorem Wc{ds:Ac D}(sq:∀ H2,Kp A H1 H2->SqX t K H2 a xs)(r1:Reps K CL H1 A xs ds):HZ K CL A (Cj 0 ds) (Ite K t a) H1:=λH k i=>by
 have s1:=sq H k;refine⟨λhi=>⟨xs,s1,?_⟩,λd hd=>?_⟩
 .rw[KQ]at hi;rw[r1.length];exact hi
 .obtain⟨x,hx,rfl⟩:=MU _ _ _ _ hd;obtain⟨u,hu,ru⟩:=r1.get hx;refine⟨⟨xs,u,s1,hu⟩,?_⟩;rintro w' H' ⟨p,x',hp,rfl,c1,rfl⟩;have ex:x'=u:=Bc ((c1 xs s1).symm.trans hu);subst ex;rw[TL];exact⟨Eb hp (.tup [.int i,x']),λB hB aB=>Jb aB hp ⟨rfl,Mh ru k hB,trivial⟩⟩
section
variable{X:Cx}{CL:ClA}{W:XW}{pos p:Az}{a:Am}{fa:Rho->R D}
theorem YJ(ha:SE X CL W a fa)(hg:Gl X "enumerate")(hm:X.mg "enumerate" = Ae)(hs:Aq [a] X.env=[(Ad,eval a X.env)]):
  SI X CL W (.Tuple es n tpos) (.Call (.Name "enumerate" p) [a] [] pos) (λU=>(fa U).bind λx=>(DK x).bind λxs=>.ok (Cj 0 xs)):=
 λA=>PI.weak (Qj hg hm (Dt (ha A) EQ hs) hs) λY H R ⟨hA,U,g,q⟩=>⟨hA,U,g,Ez.ex q λd v H1 _ s1 r1 p1=>by
  cases e1:DK d with
  |bad=>rw[e1]at p1;exact p1.elim
  |exn z=>exact absurd e1 (by cases d<;>simp[DK])
  |ok ds=>
   rw[e1]at p1;obtain⟨t,c,xs,rfl,k1,rs⟩:=gS r1 e1;exact⟨t,c,xs,rfl,k1 H1 (Kp.of (Aw.refl H1)),λhz=>p1 _ H1 (Aw.refl H1) (Wc k1 rs) (by rw[KQ,<-rs.length];exact hz)⟩⟩
end
noncomputable abbrev S3(h:AA)(z TI TO:Ak)(f0 f1:Aj):Prop:=h.get? z=Aa { cls:=.type "zip",dict:=Ae,data:=.fields #[f0,f1,.bool Ad,.ref TI,.ref TO],slots:=#[] }
noncomputable abbrev S4(h:AA)(T:Ak)(a b c:Aj):Prop:=h.get? T=Aa { cls:=.type "tuple",data:=.seq #[a,b,c] }
section
variable{prog:AF}{w:AS}{A:AQ}{E:Vq}{s:Ao}
def Z_3(t1 t2 t3:Ai)(I l1 l2 l3 i:Af)(h:AA):Prop:=S4 h (I+3) (.ref (I+0)) (.ref (I+1)) (.ref (I+2))/\Fq t1 h (I+0) l1 i/\Fq t2 h (I+1) l2 i/\Fq t3 h (I+2) l3 i/\(∃ a b c,S4 h (I+4) a b c) /\
 (S3 h (I+5) (I+3) (I+4) .none (.bool Ad)\/∃(T1:Af)(f1:Ai),S3 h (I+5) (I+3) (I+4) (D5 T1) (.bool f1))
end
section
variable{prog:AF}{w:AS}{A:AQ}{R:GV->Ao->Prop}
end
section
variable{prog:AF}{w:AS}{A:AQ}{E:Vq}{s:Ao}
end
theorem Z_3.ty{t1 t2 t3:Ai}{I l1 l2 l3 i:Af}(z:Z_3 t1 t2 t3 I l1 l2 l3 i s.heap):s.TypeIs (.ref (I+5)) "zip" := by
 obtain⟨_,_,_,_,_,hz|⟨_,_,hz⟩⟩:=z
 .exact⟨_,hz,rfl⟩
 .exact⟨_,hz,rfl⟩
theorem Z_3.lt{t1 t2 t3:Ai}{I l1 l2 l3 i:Af}(z:Z_3 t1 t2 t3 I l1 l2 l3 i s.heap):I+5<s.heap.objs.size:=by
 obtain⟨o,h,_⟩:=z.ty;exact AD h
section
variable{prog:AF}{w:AS}{A:AQ}{E:Vq}{s:Ao}
end
section
variable{X:Cx}{CL:ClA}{W:XW}{pos p pos' p':Az}{a b c:Am}{fa fb fc:Rho->R D}
end
section
variable{X:Cx}{CL:ClA}{W:XW}{pos p tpos:Az}{a b c:Am}{fa fb fc:Rho->R D}{x:Ag}
end
section
variable{X:Cx}{CL:ClA}{W:XW}{a:Am}{fa:Rho->R D}
end
section
variable{X:Cx}{CL:ClA}{W:XW}{o o' e:Am}{fe:Rho->R D}{i j:Af}{apos cpos apos' cpos' pos:Az}
end
section
variable{X:Cx}{CL:ClA}{W:XW}
end
section
variable{X:Cx}
variable{CL:ClA}{W:XW}{pos p pos' p':Az}{a b:Am}{fa fb:Rho->R D}
end
section
variable{X:Cx}{CL:ClA}{W:XW}{e o o' k l:Am}{fe:Rho->R Ov.D}{i ik il:Af}{pos spos spos' tpos:Az}{kt:Af}
end
section
variable{prog:AF}{w:AS}{A:AQ}{E:Vq}{s:Ao}
end
section
variable{X:Cx}{pos:Az}{CL:ClA}
end
section
variable{X:Cx}{CL:ClA}{W:XW}
end
end Ov
namespace Ov
open PySem PySem.W PyProof.Rows
variable{p:A3 Af}{m:Af}
def Kr{α:Type}(lt:Af->Af->Ai)(n:Af):KasT α->(α->Prop)->Prop
 |.ret a,Q=>Q a
 |.ask i j k,Q=>i<n/\j<n/\Kr lt n (k (lt i j)) Q
theorem Kr.mono{α:Type}{lt:Af->Af->Ai}{n:Af}{Q Q':α->Prop}:∀{t:KasT α},Kr lt n t Q->(∀ a,Q a->Q' a)->Kr lt n t Q'
 |.ret _,h,k=>k _ h
 |.ask i j f,h,k=>⟨h.1,h.2.1,Kr.mono (t:=f (lt i j)) h.2.2 k⟩
theorem Kr.bind{α β:Type}{lt:Af->Af->Ai}{n:Af}{f:α->KasT β}{Q:β->Prop}:∀{t:KasT α},Kr lt n t (λa=>Kr lt n (f a) Q)->Kr lt n (t.bind f) Q
 |.ret _,h=>h
 |.ask i j k,h=>⟨h.1,h.2.1,Kr.bind (t:=k (lt i j)) h.2.2⟩
structure Sto (lt:Af->Af->Ai) (n:Af):Prop where
 tr:∀ i j k,i<n->j<n->k<n->lt i j=Ab->lt j k=Ab->lt i k=Ab
 tot:∀ i j,i<n->j<n->i≠j->lt i j=Ad->lt j i=Ab
 asy:∀ i j,i<n->j<n->lt i j=Ab->lt j i=Ad
noncomputable def at0(p:A3 Af)(x:Af):Af:=p.getD x 0
structure Pm (n:Af) (p:A3 Af):Prop where
 sz:p.size=n
 lt:∀ x,x<n->at0 p x<n
 inj:∀ x y,x<n->y<n->at0 p x=at0 p y->x=y
section
variable{lt:Af->Af->Ai}{n:Af}
def Os(lt:Af->Af->Ai)(p:A3 Af)(m:Af):Prop:=∀ x y,x<y->y<m->lt (at0 p x) (at0 p y)=Ab
def Ou(lt:Af->Af->Ai)(p:A3 Af)(m:Af):Prop:=∀ x y,x<y->y<m->lt (at0 p y) (at0 p x)=Ab
theorem Os.succ(S:Sto lt n)(hp:Pm n p)(h1:1<=m)(hm:m<n)(h:Os lt p m)(e:lt (at0 p (m-1)) (at0 p m)=Ab):Os lt p (m+1):=λx y hxy hy=>by
 by_cases hym:y<m
 .exact h x y hxy hym
 .have:y=m:=by omega
  subst this;by_cases hx:x=y-1
  .rw[hx];exact e
  .exact S.tr _ _ _ (hp.lt _ (by omega)) (hp.lt _ (by omega)) (hp.lt _ hm) (h x (y-1) (by omega) (by omega)) e
theorem Ou.succ(S:Sto lt n)(hp:Pm n p)(h1:1<=m)(hm:m<n)(h:Ou lt p m)(e:lt (at0 p m) (at0 p (m-1))=Ab):Ou lt p (m+1):=λx y hxy hy=>by
 by_cases hym:y<m
 .exact h x y hxy hym
 .have:y=m:=by omega
  subst this;by_cases hx:x=y-1
  .rw[hx];exact e
  .exact S.tr _ _ _ (hp.lt _ hm) (hp.lt _ (by omega)) (hp.lt _ (by omega)) e (h x (y-1) (by omega) (by omega))
end
section
variable{prog:AF}{w:AS}{A:AQ}{E:Vq}{κ:SortKind}{it:A3 Keyed}
end
section
variable{lt:Af->Af->Ai}{n:Af}
end
def MZ(h:AA)(v:Aj)(r:Ac Ah):Prop:=∃ a its,v=.ref a/\IG h a its/\GS its.toList r/\r≠[]
theorem MZ.kept{h h':AA}{v:Aj}{r:Ac Ah}(t:MZ h v r)(k:∀ b o,h.get? b=Aa o->h'.get? b=Aa o):MZ h' v r:=by
 obtain⟨a,its,e,⟨o,ho,q⟩,i,n⟩:=t;exact⟨a,its,e,⟨o,k _ _ ho,q⟩,i,n⟩
section
variable{prog:AF}{w:AS}{A:AQ}{E:Vq}{s:Ao}
end
end Ov
section
namespace Ov
open PySem PySem.Spec PyProof.Rows L2
section
variable{X:Cx}{CL:ClA}{W:XW}
end
end Ov
end
section
namespace Ov
open PySem PySem.Spec PyProof.Rows
section
variable{t:SetTable}{hashAt:Af->Ah}{h:Ah}
noncomputable def stand(i b:Af):SetTable.Probe:=⟨i,0,i,b,Ae⟩
end
section
variable{prog:AF}{w:AS}{A:AQ}{E:Vq}{s:Ao}{K:Type} [DecidableEq K] {knd:KeyKind prog w K}
end
section
variable{prog:AF}{w:AS}{A:AQ}{R:GV->Ao->Prop}{I:Ak}{fp wr:Ac Ak}{G:A3 DI->A3 DI->Prop}{n:Af}{P:Af->Aj->Prop}{St:Af->Ao->Prop}
end
section
variable{prog:AF}{w:AS}{A:AQ}{E:Vq}{s:Ao}
end
end Ov
end
namespace Ov
open PySem PySem.Spec PyProof.Rows L2
variable{h h':AA}{P:AF}{w:AS}{H H':Hp}{oe:Cv}{vs:A3 Aj}{Q:DQ->Ao->Prop}{T' C C' OV:Ak}{a0:Aj}{X:Cx}{pI:Pn}{Y Y0:L2.St}{K:Fg}{x g z par name qual q x0:Ag}{v:An Aj}{M:FL}{tk:B9}{fill expr:Ai}{φ:AA->Prop}{CL:ClA}{Fz:Fr}{B A:Ak->Prop}{U:Rho}{W:XW}{hs body:Ac AC}{h0:AC}{p1 pos p pos' p2 p3 apos cpos:Az}{fh:Rho->O}{dx od an:An Ak}{up:Af->Ac Af}{CX:CXT}{k c kk:Af}{fd:Bp}{ps:Ac Ag}{Xw:Vq}{xn:Af->Ac D->R Ex}{d d1 d2 d':D}{Rp:Hp->V->D->Prop}{ev:Am}{Z:Gam}{F:Am->Ac AC->Ac AC->Ai}{α:Type}{env:BW}{as:Es}{xs ys:Ac Am}{scope:BH}{ts:Ac Af}{u:DQ}{osl:A3 (An Aj)}
section
variable{X:Cx}
def LR(K:Fg)(H:Hp):Ac V->Ac (Ac Ah)->Prop
 |[],[]=>Gp
 |x::xs,k::ks=>(∃ b,x=.ref b/\SqT K H b (k.map V.int))/\LR K H xs ks
 |_,_=>AV
theorem LR.length{K:Fg}{H:Hp}:∀{xs:Ac V}{ks:Ac (Ac Ah)},LR K H xs ks->xs.length=ks.length
 |[],[],_=>rfl
 |_::_,_::_,h=>congrArg (· + 1) (LR.length h.2)
 |[],_::_,h=>h.elim
 |_::_,[],h=>h.elim
variable{CL:ClA}{W:XW}{pos p pos' p':Az}{a:Am}{fa:Rho->R D}
end
section
end
section
variable{X:Cx}
variable{CL:ClA}{W:XW}{o e:Am}{fe:Rho->R D}{i:Af}{apos cpos pos:Az}
end
section
open PySem.AutoSeq1 (wpAny_loadPart')
end
section
variable{prog:AF}{w:AS}{A:AQ}{R:GV->Ao->Prop}{I S T:Ak}{u v:Aj}{c:Af}{P:Af->Aj->Prop}{St:Af->AA->Prop}{s:Ao}{r q:Ac Ah}
end
section
variable{X:Cx}{CL:ClA}{W:XW}
end
def LU(e T:Ak)(cls:Aj)(dx:An Ak)(fl:Aj)(h:AA):Prop:=∃ oe vs oT ts a0,h.get? e=Aa oe/\oe.cls=cls/\oe.dict=dx/\vs[0]?=Aa a0/\oe.data=.fields vs/\vs[1]?=Aa (.ref T)/\T≠e/\h.get? T=Aa oT/\oT.data=.fields ts/\ts[3]?=Aa fl
noncomputable abbrev Fly(e T:Ak)(cls:Aj)(dx:An Ak)(h:AA):Prop:=LU e T cls dx De h
noncomputable def E5(C:Ak)(dx:An Ak)(t:Ak):Cv:={cls:=.ref C,dict:=dx,data:=.fields #[.ref t,.none,.none,.none,.bool Ad,.none]}
structure Shift (ex fs:Ac Ak) (h h':AA):Prop where
 keep:∀ b o,h.get? b=Aa o->b∉ex->b∉fs->h'.get? b=Aa o
 slot:∀ b o,h.get? b=Aa o->b∈fs->∃ sl,h'.get? b=Aa {o with slots:=sl}
theorem Shift.trans{ex fs:Ac Ak}{h1 h2:AA}(a:Shift ex fs h h1)(b:Shift ex fs h1 h2):Shift ex fs h h2:=
 ⟨λc o q n m=>b.keep c o (a.keep c o q n m) n m,λc o q m=>by
  obtain⟨sl,e1⟩:=a.slot c o q m;obtain⟨sl',e2⟩:=b.slot c _ e1 m;exact⟨sl',e2⟩⟩
theorem ObjOk.isThere{a:Ak}:∀(o:HO),L2.ObjOk P w H h a o->∃ ob,h.get? a=Aa ob
 |.lst _,x=>by obtain⟨_,_,_,_,e⟩:=x;exact⟨_,e⟩
 |.tup _,x=>by obtain⟨_,_,_,p⟩:=x;obtain⟨o,e,_⟩:=p;exact⟨_,e⟩
 |.dK _,x=>by obtain⟨_,_,_,_,o,_,_,e,_⟩:=x;exact⟨_,e⟩
 |.dT _,x=>by obtain⟨_,_,_,_,o,_,_,e,_⟩:=x;exact⟨_,e⟩
 |.set _ _,x=>by obtain⟨o,_,_,_,e,_⟩:=x;exact⟨_,e⟩
 |.ins _ _ _,x=>by obtain⟨_,_,_,e,_⟩:=x;exact⟨_,e⟩
 |.own _,x=>x
 |.xd _,x=>by obtain⟨_,⟨_,_,_,e,_⟩,_⟩:=x;exact⟨_,e⟩
 |.met _ _,x=>⟨_,x⟩
 |.rng _ _,x=>by obtain⟨_,_,_,e⟩:=x;exact⟨_,e⟩
 |.frz _ _,x=>⟨_,x.1⟩
 |.tbl _,x=>⟨_,x⟩
 |.ext _,x=>x.2.1
theorem HH{a:Ak}(x:HOk P w H h)(e:h.get? a=Ae):H a=Ae:=by
 cases q:H a with
 |none=>rfl
 |some o=>
  obtain⟨ob,z⟩:=ObjOk.isThere o (x a o q);rw[e]at z;cases z
theorem HOk.shift{ex fs:Ac Ak}(x:HOk P w H h)(sh:Shift ex fs h h')(h1:∀ b∈ex,H b=Ae)(h2:∀ b∈fs,H b=Ae):HOk P w H h':=λa o e=>
 (x a o e).stay (λb u hb q=>by
  have hs:∃ v,H b=Aa v:=by
   rcases hb with rfl|hb
   .exact⟨_,e⟩
   .exact⟨_,hb⟩
  obtain⟨v,hv⟩:=hs;exact sh.keep b u q (λz=>by rw[h1 b z]at hv;cases hv) (λz=>by rw[h2 b z]at hv;cases hv)) (λ_ q=>q) λ_ _ q=>q
theorem Un.shift{fs0 fs ex:Ac Ak}{h0:AA}(u:Un fs0 [] H H' h0 h)(sh:Shift ex fs h h')(h1:∀ b∈ex,h0.get? b=Ae)(h2:∀ b∈fs,b∈fs0\/h0.get? b=Ae):Un fs0 [] H H' h0 h' where
 keep:=λb o q n hb hx=>sh.keep b o (u.keep b o q n hb hx) (λz=>by rw[h1 b z]at q;cases q) λz=>(h2 b z).elim hb λe=>by rw[e]at q;cases q
 slot:=λb o q n hb hx=>by
  obtain⟨sl,e1⟩:=u.slot b o q n hb hx;by_cases hf:b∈fs
  .obtain⟨sl',e2⟩:=sh.slot b _ e1 hf;exact⟨sl',e2⟩
  .exact⟨sl,sh.keep b _ e1 (λz=>by rw[h1 b z]at q;cases q) hf⟩
 free:=u.free
 there:=λb o q hx=>by
  obtain⟨o',e1⟩:=u.there b o q hx;by_cases hf:b∈fs
  .obtain⟨sl',e2⟩:=sh.slot b _ e1 hf;exact⟨_,e2⟩
  .exact⟨o',sh.keep b _ e1 (λz=>by rw[h1 b z]at q;cases q) hf⟩
 tups:=u.tups
 frzs:=u.frzs
 tbls:=u.tbls
theorem Z_6(f:A3 Aj->A3 Aj)(o:Cv):(EY f o).dict=o.dict:=by
 obtain⟨c,d,dt,sl⟩:=o;cases dt<;>rfl
section
variable{M:FL}{A:AQ}{E:Vq}{s:Ao}{env:BW}{outer:Ac BW}{L e T:Ak}{cls:Aj}{dx:An Ak}{base h:AA}
theorem Pe{hd:Aj}{nx:Ai}(hfr:A.frames=Aa (env::outer))(hf:env.frame=Aa L)(ff:s.heap.FunFrames base (env::outer))(he:s.heap.get? e=Aa oe)(dt:oe.data=.fields vs)(hz:1<vs.size)(hQ:∀ h' T' oT ts,h'.get? e=Aa (EY (·.setIfInBounds 1 (.ref T')) oe)->T'≠e->s.heap.get? T'=Ae->h'.get? T'=Aa oT->oT.data=.fields ts->ts[3]?=Aa (D5 L)->Shift [e] (frs (env::outer)) s.heap h'->Q () {s with heap:=h'}):
  Au M A (do
   let fr <-frameOf env
   let pl <-entryPlaceOf L nx
   let en <-Ux hd fr .none (D5 L) .none pl
   setField (.ref e) 1 en) Q E s:=by
 have nf:e∉frs (env::outer):=λz=>by
  obtain⟨_,o,q,n⟩:=ff.mem z;rw[he]at q;cases q;exact n vs dt
 refine Ap (wpAny_frameOf_fun hfr ff hf λk1 so=>Ap (wpAny_entryPlaceOf λpl ip=>?_))
 obtain⟨sz,sm,sl⟩:=so;have e1:k1.get? e=Aa oe:=(sm e nf).trans he;unfold Ux;unfold newFields;refine Ap (Ch ?_ (ip.sizeOk5 _ _ _ _ _));generalize hX:({ cls:=.type "traceback",dict:=Ae,data:=.fields ([hd,.ref L,.none,D5 L,.none]++(if pl.isEmpty then Fw 6 De else pl)).toArray }:Cv)=ob
 have od:ob.data=.fields ([hd,.ref L,.none,D5 L,.none]++(if pl.isEmpty then Fw 6 De else pl)).toArray:=by rw[<-hX]
 have nl:k1.objs.size≠e:=Gi (AD e1);have e2:=At ob e1;refine EH e2 dt hz ?_;have up:∀ b,b≠e->((k1.push ob).update e (EY (·.setIfInBounds 1 (.ref k1.objs.size)))).get? b=(k1.push ob).get? b:=λb nb=>Cp _ _ (CV nb)
 have lf:ob.isFreed=Ad:=by rw[<-hX];rfl
 refine hQ _ k1.objs.size ob _ (Cz _ e2 (DP (CA dt _))) nl ?_ ((up _ nl).trans (AY k1 lf)) od ?_ ⟨λb o q n1 n2=>?_,λb o q hb=>?_⟩
 .rw[sz];exact CI (AK _)
 .simp
 .have nb:b≠e:=λz=>n1 (by rw[z];exact AB)
  rw[up b nb];exact At ob ((sm b n2).trans q)
 .obtain⟨sl',q'⟩:=sl b o q;have nb:b≠e:=λz=>nf (z ▸ hb)
  exact⟨sl',(up b nb).trans (At ob q')⟩
theorem O7{oT:Cv}{ts:A3 Aj}{fl:Aj}(hc:oe.cls=cls)(hx:oe.dict=dx)(h0:vs[0]?=Aa a0)(dt:oe.data=.fields vs)(hz:1<vs.size)(g:h'.get? e=Aa (EY (·.setIfInBounds 1 (.ref T')) oe))(ne:T'≠e)(gT:h'.get? T'=Aa oT)(dT:oT.data=.fields ts)(f3:ts[3]?=Aa fl):LU e T' cls dx fl h':=
 ⟨_,_,oT,ts,a0,g,(Vb _ _).trans hc,(Z_6 _ _).trans hx,by rw[Array.getElem?_setIfInBounds_ne (by decide)];exact h0,CA dt _,by simp[hz],ne,gT,dT,f3⟩
theorem IY{i:Af}{v:Aj}(q:vs[i]?=Aa v):i<vs.size:=(Array.getElem?_eq_some_iff.mp q).1
theorem P7(hfr:A.frames=Aa (env::outer))(hf:env.frame=Aa L)(ff:s.heap.FunFrames base (env::outer))(fl:Fly e T cls dx s.heap)(hQ:∀ h' T',LU e T' cls dx (D5 L) h'->Shift [e,T] (frs (env::outer)) s.heap h'->s.heap.get? T'=Ae->Q () {s with heap:=h'}):Au M A (FQ (.ref e) env) Q E s:=by
 obtain⟨oe,vs,oT,ts,a0,he,hc,hx,h0,dt,h1,ne,hT,dT,h3⟩:=fl;have z3:=IY h3;unfold FQ;simp only[hf];refine Ap (CG he dt h1 ?_);rw[AE (by simp:(BZ T != De)=Ab)]
 refine Ap (CG hT dT h3 ?_);rw[AO (by simp[D5]:¬ (De==D5 L)=Ab)]
 refine Ap (EH hT dT z3 ?_);have up:∀ b,b≠T->(s.heap.update T (EY (·.setIfInBounds 3 De))).get? b=s.heap.get? b:=λb nb=>Cp _ _ (CV nb)
 have rcd:∀ b o,s.heap.get? b=Aa o->(∀ us,o.data≠.fields us)->b≠T:=λb o q n z=>by
  rw[z,hT]at q;cases q;exact n ts dT
 refine Pe (base:=base) hfr hf (ff.of_keeps λb o q n=>⟨o,(up b (rcd b o q n)).trans q,rfl⟩) ((up e (CV ne)).trans he) dt (IY h1) λh' T' oT' ts' g nT gn gT dT' f3 sh=>?_
 have T0:s.heap.get? T'=Ae:=by
  by_cases z:T'=T
  .rw[z]at gn;rw[Cz _ hT (DP (CA dT _))]at gn;cases gn
  .rw[<-up T' z];exact gn
 refine hQ h' T' (O7 hc hx h0 dt (IY h1) g nT gT dT' f3) ⟨λb o q n1 n2=>?_,λb o q hb=>?_⟩ T0
 .simp only[AG,CO,FK,G1]at n1;exact sh.keep b o ((up b n1.2).trans q) (by simp[n1.1]) n2
 .obtain⟨_,o',q',n⟩:=ff.mem hb;rw[q]at q';cases q';exact sh.slot b o ((up b (rcd b o q n)).trans q) hb
theorem K3{fv:Aj}(fl:LU e T cls dx fv s.heap)(hQ:∀ h',Fly e T cls dx h'->(∀ b o,b≠T->s.heap.get? b=Aa o->h'.get? b=Aa o)->Q () {s with heap:=h'}):Au M A (GC (.ref e) Ae) Q E s:=by
 obtain⟨oe,vs,oT,ts,a0,he,hc,hx,h0,dt,h1,ne,hT,dT,h3⟩:=fl;have z3:=IY h3;unfold GC;refine Ap (CG he dt h1 ?_);rw[AE (by simp:(BZ T != De)=Ab)]
 refine EH hT dT z3 (hQ _ ?_ λb o nb q=>(Cp _ _ (CV nb)).trans q)
 exact⟨oe,vs,_,_,a0,(Cp _ _ ne).trans he,hc,hx,h0,dt,h1,ne,Cz _ hT (DP (CA dT _)),CA dT _,by simp[z3]⟩
theorem Ml{h1 h2:AA}{ex:Ac Ak}(ff:s.heap.FunFrames base (env::outer))(sh:Shift ex (frs (env::outer)) s.heap h1)(hT:s.heap.get? T'=Ae)(k:∀ b o,b≠T'->h1.get? b=Aa o->h2.get? b=Aa o):Shift ex (frs (env::outer)) s.heap h2:=
 ⟨λb o q n1 n2=>k b o (λz=>by rw[z,hT]at q;cases q) (sh.keep b o q n1 n2),λb o q hb=>let ⟨sl,q'⟩:=sh.slot b o q hb;⟨sl,k b _ (λz=>by rw[z,hT]at q;cases q) q'⟩⟩
theorem W5(hfr:A.frames=Aa (env::outer))(hf:env.frame=Aa L)(ff:s.heap.FunFrames base (env::outer))(fl:Fly e T cls dx s.heap)(hQ:∀ h' T',Fly e T' cls dx h'->Shift [e,T] (frs (env::outer)) s.heap h'->(T'=T\/s.heap.get? T'=Ae)->Q () {s with heap:=h'}):Au M A (leaving env (.ref e)) Q E s:=by
 unfold leaving;exact Ap (P7 hfr hf ff fl λh1 T' f1 sh hT=>K3 f1 λh2 f2 k=>hQ h2 T' f2 (Ml ff sh hT k) (.inr hT))
theorem Wi(hfr:A.frames=Aa (env::outer))(hf:env.frame=Aa L)(ff:s.heap.FunFrames base (env::outer))(he:s.heap.get? e=Aa oe)(hc:oe.cls=cls)(hx:oe.dict=dx)(dt:oe.data=.fields vs)(h0:vs[0]?=Aa a0)(h1:vs[1]?=Aa .none)(hQ:∀ h' T',Fly e T' cls dx h'->Shift [e] (frs (env::outer)) s.heap h'->s.heap.get? T'=Ae->Q () {s with heap:=h'}):Au M A (leaving env (.ref e)) Q E s:=by
 unfold leaving FQ;simp only[hf];refine Ap (Ap (CG he dt h1 ?_));rw[AO (by decide)]
 exact Pe (base:=base) hfr hf ff he dt (IY h1) λh' T' oT ts g nT gn gT dT f3 sh=>K3 (O7 hc hx h0 dt (IY h1) g nT gT dT f3) λh2 f2 k=>hQ h2 T' f2 (Ml ff sh gn k) gn
theorem Xe(hfr:A.frames=Aa (env::outer))(hf:env.frame=Aa L)(ff:s.heap.FunFrames base (env::outer))(fl:Fly e T cls dx s.heap)(hQ:∀ h' T',Fly e T' cls dx h'->Shift [e,T] (frs (env::outer)) s.heap h'->(T'=T\/s.heap.get? T'=Ae)->Q () {s with heap:=h'}):Au M A (FQ (.ref e) env) (λ_ s2=>Au M A (GC (.ref e) Ae) Q E s2) E s:=
 P7 hfr hf ff fl λh1 T' f1 sh hT=>K3 f1 λh2 f2 k=>hQ h2 T' f2 (Ml ff sh hT k) (.inr hT)
theorem W6{l:Ac BW}{A':AQ}(ff:s.heap.FunFrames base l)(fl:Fly e T cls dx s.heap)(hQ:∀ h' T',Fly e T' cls dx h'->Shift [e,T] (frs l) s.heap h'->(T'=T\/s.heap.get? T'=Ae)->Q () {s with heap:=h'}):Au M A' (GC (.ref e) Ae) Q E s:=by
 obtain⟨oe,vs,oT,ts,a0,he,hc,hx,h0,dt,h1,ne,hT,dT,h3⟩:=id fl;refine K3 fl λh' f' k=>hQ h' T f' ⟨λb o q n1 n2=>k b o (λz=>n1 (by rw[z];simp)) q,λb o q hb=>⟨o.slots,k b o (λz=>?_) q⟩⟩ (.inl rfl)
 obtain⟨_,o',q',n⟩:=ff.mem hb;rw[z,hT]at q';cases q';exact n ts dT
end
def CXR(P:AF)(w:AS):CXT:=λouter H s E ev s'=>∃ e T cls dx H',ev=.ref e/\s'.os=s.os/\EE s'.gens/\Un (frs outer) [] H H' s.heap s'.heap/\HOk P w H' s'.heap/\Fly e T cls dx s'.heap/\H' e=Ae/\H' T=Ae/\s.heap.get? e=Ae/\s.heap.get? T=Ae/\E cls dx H'
def Ky(X:Cx)(CL:ClA)(W:XW):Prop:=∀ pI Y H s e C dx t x,Inv X pI Y H s->(X.ex=[]->X.s₀.heap.get? e=Ae)->H e=Ae->s.heap.get? e=Aa (E5 C dx t)->ET X.K CL H (.ref C) dx x->W x H->X.xe (.ref e) s
section
variable{P:AF}{w:AS}{K:Fg}{mg:Ag->An Aj}{base:AA}{N:Ac Ag}{qual:Ag}{scope:BH}{f:Ak}{cd:Aj}{A:AQ}{outer:Ac BW}{s:Ao}{H:Hp}{E:XK}{CL:ClA}{W:XW}
theorem Nf{s:Ao}(I:Inv X pI Y H s):∀ b∈frs X.stack,b∈X.fs\/X.s₀.heap.get? b=Ae:=λb hb=>by
 rcases AG.mp (I.stkSub b hb) with z|z
 .exact .inr (by rw[z];exact CI I.ok.above)
 .exact .inl z
theorem Ip{s:Ao}{b:Ak}(I:Inv X pI Y H s)(hx:X.ex=[])(h:s.heap.get? b=Ae):X.s₀.heap.get? b=Ae:=by
 cases q:X.s₀.heap.get? b with
 |none=>rfl
 |some o=>
  obtain⟨o',z⟩:=I.base.there b o q (by rw[hx];simp)
  rw[h]at z;cases z
theorem Si(hE:∀ x cls dx H',W x H'->ET K CL H' cls dx x->E cls dx H'):∀ A',HJ (CXR P w) (EA (CXR P w) P w K mg base N qual scope f cd A outer s H E) (EKW K CL A' W):=by
 intro A' pI Y H1 s1 ev s2 I h;obtain⟨e,T,cls,dx,H',rfl,os,bare,un,hok,fl,he,hT,ne,nT,x,xr,wx⟩:=h;have I':=I.call' (s':=s2) (ch:=[]) os un hok bare (λb z=>absurd z (by simp))
 have hb0:Un (frs outer) [] H H' s.heap s2.heap:=I'.base;show Au (model P w) (A.deeper (D3 qual scope s.heap.objs.size f cd)) (leaving (D3 qual scope s.heap.objs.size f cd) (.ref e)) _ _ s2;refine W5 (L:=s.heap.objs.size) I'.ok.frames rfl I'.stack fl λh' T' fl' sh hT'=>?_
 have e0:s.heap.get? e=Ae:=Ip I rfl ne;have T0:s.heap.get? T=Ae:=Ip I rfl nT;refine⟨e,T',cls,dx,H',rfl,I'.os,bare,Un.shift hb0 sh ?_ (Nf I'),HOk.shift hok sh ?_ I'.stkFree,fl',he,?_,e0,?_,?_⟩
 .intro b hb;rcases AG.mp hb with rfl|hb
  .exact e0
  .rw[Bk.mp hb];exact T0
 .intro b hb;rcases AG.mp hb with rfl|hb
  .exact he
  .rw[Bk.mp hb];exact hT
 .rcases hT' with rfl|z
  .exact hT
  .exact HH hok z
 .rcases hT' with rfl|z
  .exact T0
  .exact Ip I' rfl z
 .exact hE x cls dx H' wx xr
theorem rzR(hE:∀ x cls dx H',W x H'->ET K CL H' cls dx x->E cls dx H'):Ky (EA (CXR P w) P w K mg base N qual scope f cd A outer s H E) CL W:=by
 intro pI Y H1 s1 e C dx t x I e0 he ge xr hw;have hb0:Un (frs outer) [] H H1 s.heap s1.heap:=I.base;have e0':s.heap.get? e=Ae:=e0 rfl;show Au (model P w) (A.deeper (D3 qual scope s.heap.objs.size f cd)) (leaving (D3 qual scope s.heap.objs.size f cd) (.ref e)) _ _ s1;refine Wi (cls:=.ref C) (dx:=dx) (L:=s.heap.objs.size) I.ok.frames rfl I.stack ge rfl rfl rfl (a0:=.ref t) rfl rfl λh' T' fl' sh hT'=>?_
 have one:∀{Z_:Ak->Prop},Z_ e->∀ b∈[e],Z_ b:=λ{Z_} z b hb=>by rw[Bk.mp hb];exact z
 exact⟨e,T',.ref C,dx,H1,rfl,I.os,I.bare,Un.shift hb0 sh (one e0') (Nf I),HOk.shift I.hok sh (one (Z_:=λb=>H1 b=Ae) he) I.stkFree,fl',he,HH I.hok hT',e0',Ip I rfl hT',hE x _ dx H1 hw xr⟩
theorem ownR:Dl (model P w) (EA (CXR P w) P w K mg base N qual scope f cd A outer s H E).A (EA (CXR P w) P w K mg base N qual scope f cd A outer s H E).env (EA (CXR P w) P w K mg base N qual scope f cd A outer s H E).xe:=PassesOwn.leaving
end
noncomputable def veB:Ac Aj:=[.type "ValueError",.type "Exception",.type "BaseException",.type "object"]
noncomputable def DU(K:Fg)(C:Ak)(v:An Aj):Ai:=match K.lookup C with
  | some ⟨.type "type",_,.cls c,z⟩=>(match c.mro,z.toList with
    |.ref c0::tl,[_,_,_,_,Aa (.builtin nw),_]=>c0==C&&(nw == "ValueError.__new__" && (!c.hasDel&&(PySem.W.tailIn K veB tl&&(VI K c.ns&&A5 K c.ns "__init__" == Aa v))))
    | _,_=>Ad)
  |_=>Ad
structure XcOk (K:Fg) (C:Ak):Prop where
 exc:∃ v,DU K C v=Ab
 ga:Ar K (.ref C) "__getattribute__" = Aa (Aa (.builtin "BaseException.__getattribute__"))
 gt:Ar K (.ref C) "__getattr__" = Aa Ae
 cl:Ar K (.ref C) "__class__" = Aa (Aa (.builtin "object.__class__"))
 ob:EZ K C (.type "object")=Aa Ab
 be:E1 K (.ref C) (.type "BaseException")=Aa Ab
 cs:(Hs K C).isSome=Ab
 ve:Do K (.ref C) (.type "ValueError")=Aa Ab
def XAt(e C:Ak)(h:AA):Prop:=∃ o,h.get? e=Aa o/\o.cls=.ref C
theorem cR{N:Ak}{m:Ag->An Aj}{v:Aj}(X:K.In h)(G:h.Ns N m)(q:A5 K N x=Aa (Aa v)):m x=Aa v:=by
 obtain⟨ob,es,ep,g,dt,_,fd⟩:=G;unfold A5 at q;split at q
 .rename_i es' n' sl lk;have g':=X _ _ lk;rw[g]at g';cases g';cases dt;split at q
  .rename_i hf;cases q;rw[<-fd];unfold nsFind findBy;rw[<-Array.find?_toList,hf];rfl
  .by_cases z:(es.toList.any λy=>y.refKey)=Ab
   .rw[AE z]at q;cases q
   .rw[AO z]at q;cases q
 .cases q
theorem JU{h0:AA}(X0:K.In h0)(q:DU K C v=Ab):
  ∃ bm N nm qn bs hd sn sub ab col dd k0 k1 k2 k3 k5 mN,(∀ h:AA,K.In h->h.get? C=Aa (Bw nm qn C N bs bm hd sn sub ab col dd k0 k1 k2 k3 k5 "ValueError.__new__")/\h.Ns N mN/\CW h veB bm)/\mN "__init__" = v/\bm.contains (.type "BaseException")=Ab:=by
 unfold DU at q;split at q
 .rename_i dd cd sl ho;split at q
  .rename_i C' bm k0 k1 k2 k3 n k5 hm hs;simp only[Al,AI,Bi]at q;obtain⟨rfl,rfl,hdel,ht,hok,hni⟩:=q;obtain⟨nm,bs,mro,ns,qn,hd,sn,sub,ab,col,del⟩:=cd;dsimp only at hm hdel hok hni;subst hm hdel;have hsl:sl=#[k0,k1,k2,k3,Aa (.builtin "ValueError.__new__"),k5]:=by
    obtain⟨l⟩:=sl;simp only at hs;rw[hs]
   subst hsl;have kN:∃ o,K.lookup ns=Aa o:=by
    unfold VI at hok;split at hok
    .rename_i z;exact⟨_,z⟩
    .cases hok
   obtain⟨oN,hoN⟩:=kN;have nsAt:∀ h:AA,K.In h->h.Ns ns (h0.nsMap ns):=λh X=>by
    obtain⟨o,es,ep,e1,r⟩:=Heap.Ns.of_isNs (VE X0 hok);have e2:=X0 _ _ hoN;rw[e1]at e2;cases e2;exact⟨_,es,ep,X _ _ hoN,r⟩
   refine⟨bm,ns,nm,qn,bs,hd,sn,sub,ab,col,dd,k0,k1,k2,k3,k5,h0.nsMap ns,λh X=>⟨X _ _ ho,nsAt h X,VM X ht⟩,?_,(VM X0 ht).hasType (by decide)⟩
   cases v with
   |none=>exact PySem.W.nsMap_none_of_in X0 hok hni
   |some u=>exact cR X0 (.of_isNs (VE X0 hok)) hni
  .cases q
 .cases q
theorem Z_1(X:K.In h)(q:DU K C v=Ab):
  ∃ bm N nm qn bs hd sn sub ab col dd k0 k1 k2 k3 k5 mN,h.get? C=Aa (Bw nm qn C N bs bm hd sn sub ab col dd k0 k1 k2 k3 k5 "ValueError.__new__")/\h.Ns N mN/\mN "__init__" = v/\CW h veB bm:=by
 obtain⟨bm,N,nm,qn,bs,hd,sn,sub,ab,col,dd,k0,k1,k2,k3,k5,mN,ho,hi,_⟩:=JU X q;obtain⟨o1,o2,o3⟩:=ho h X;exact⟨bm,N,nm,qn,bs,hd,sn,sub,ab,col,dd,k0,k1,k2,k3,k5,mN,o1,o2,hi,o3⟩
section
variable{prog:AF}{w:AS}{A:AQ}{E:Vq}{h:AA}{g:A3 DI}{d:Gy}{t:Af}{os:F8}{K:Fg}{e C:Ak}
theorem HL(p:XAt e C h):PySem.W.Looks M h (typeOf (.ref e)) (.ref C):=by
 obtain⟨o,h1,h2⟩:=p;exact h2 ▸ (PySem.W.Looks.ld h1).andThen .now
theorem WL{R:GV->Ao->Prop}{tp:Aj}(X:K.In h)(p:XAt e C h)(hm:EZ K C (.type "object")=Aa Ab)(hq:R (.ok (.ret (.ref C))) ⟨h,g,d,t,os⟩):
  EF (model prog w) A (.call (.builtin "getset_descriptor.__get__") ⟨[.builtin "object.__class__",.ref e,tp],[]⟩) R ⟨h,g,d,t,os⟩:=by
 have L0:=HL (M:=model prog w) p;have L1:=PySem.W.looks_mroIn (M:=model prog w) X hm;refine Dh PySem.W.KF.slot_gs.plain PySem.W.KF.entry_gs (PySem.W.KF.slot_gs.check _ _ _ _ _ _ _ _ PySem.W.KF.type_class (PySem.W.KF.args_gs _ _ _) ?_);unfold Builtin.«getset_descriptor.__get__» Builtin.Getset_descriptor.descrGet;rw[PySem.W.dga_obj];refine Ap (AU ?_);unfold Builtin.Getset_descriptor.descrGetter Builtin.Getset_descriptor.descrCheckInstance Builtin.Getset_descriptor.descrNameAndClass G6;simp only[PySem.W.KF.owner_class]
 repeat lk
 refine⟨FO _ (by decide+kernel),codeAny_builtin PySem.W.KF.entry_class ?_⟩
 unfold Builtin.«object.__class__» shownTypeOf
 repeat lk
 exact hq
theorem Wq{Q:Fin->Ao->Prop}(X:K.In h)(x:XcOk K C)(p:XAt e C h)(hq:Q (.done (.ret (.ref C))) ⟨h,g,d,t,os⟩):
  Au (model prog w) A (Builtin.«object.__getattribute__» ⟨[.ref e,.str "__class__" tk],[]⟩) Q E ⟨h,g,d,t,os⟩:=by
 have L0:=HL (M:=model prog w) p;have L1:=B2 (M:=model prog w) X x.cl;have hT5:(⟨h,g,d,t,os⟩:Ao).TypeIs (.builtin "object.__class__") "getset_descriptor" := U_6;have f5:=U_6;have f6:=F.slot_gs_get.lookup;have f7:=F.slot_gs_set.lookup
 repeat (any_goals (first|assumption|with_reducible refine L0.at ?_|with_reducible refine L1.at ?_|wp_step))
 refine WL X p x.ob ?_
 repeat (any_goals (first|assumption|wp_step))
theorem OI{nameV:Aj}(X:K.In h)(x:XcOk K C)(p:XAt e C h)(hq:Q () ⟨h,g,d,t,os⟩):Au M A (E3 "BaseException.__getattribute__" ⟨[.ref e,nameV],[]⟩) Q E ⟨h,g,d,t,os⟩:=by
 have hk:builtinKind "BaseException.__getattribute__" = Aa .slot:=by decide+kernel
 have hsplit:splitId "BaseException.__getattribute__" = Aa ("BaseException", "__getattribute__"):=by decide+kernel
 have L0:=HL (M:=M) p;have L1:=VG (M:=M) X x.be;have ha:=F.args_bexc_ga (.ref e) nameV;simp only[E3,hk,hsplit];refine Ap ?_
 .unfold G6
  repeat (first|(with_reducible refine Ap (L0.at ?_))|(with_reducible refine L1.at ?_)|wp_step)
  exact hq
theorem YR{Q:Vq}(X:K.In h)(x:XcOk K C)(p:XAt e C h)(hq:Q (.ref C) ⟨h,g,d,t,os⟩):Au (model prog w) A (getAttrBy (.ref e) (.str "__class__" tk) fill expr) Q E ⟨h,g,d,t,os⟩:=by
 have L0:=HL (M:=model prog w) p;have L1:=B2 (M:=model prog w) X x.ga;have L2:=B2 (M:=model prog w) X x.gt;have f3:=EM.ga.bind (.ref e);have hx0:(expr&&HC (B4 "BaseException.__getattribute__"))=Ad:=by cases expr<;>rfl
 have hx2:(B4 "BaseException.__getattribute__" == B4 "object.__getattribute__")=Ad:=by decide+kernel
 have hx1:(HC (BZ C)&&B4 "BaseException.__getattribute__" == B4 "object.__getattribute__")=Ad:=by rw[hx2];rfl
 repeat (any_goals (first|assumption|with_reducible refine L0.at ?_|with_reducible refine L1.at ?_|with_reducible refine L2.at ?_|wp_step))
 refine Dh EM.ga.plain U_0 (OI X x p (Wq X x p ?_))
 repeat (any_goals (first|assumption|wp_step))
theorem We{Q:An Aj->Ao->Prop}(X:K.In h)(x:XcOk K C)(p:XAt e C h)(hq:Q (Aa (.ref C)) ⟨h,g,d,t+1,os⟩):Au (model prog w) A (getAttr? (.ref e) "__class__") Q E ⟨h,g,d,t,os⟩:=by
 unfold getAttr? getAttrBy?
 repeat (any_goals (first|assumption|with_reducible apply YR X x p|wp_step))
end
theorem PB{e C:Ak}(x:XcOk K C):PySem.W.KitX K (.ref e) (.ref C) (XAt e C) where
 ty:=λM h _ p=>HL p
 it:=λM h X _=>by
  obtain⟨cd,hc⟩:=BU.mp x.cs;unfold Hs at hc;split at hc
  .rename_i c' d' cd' sl' ho;intro A' Q' E' s' k q;unfold isType loadHead;exact Ap (wpAny_loadPart (k _ _ (X _ _ ho)) (AU q))
  .cases hc
 ne:=λh tp dd its n sl X htp=>by
  obtain⟨cd,hc⟩:=BU.mp x.cs;refine Bool.eq_false_iff.mpr λq=>?_
  have e:C=tp:=Value.ref.inj (beq_iff_eq.mp q);subst e;unfold Hs at hc;split at hc
  .rename_i c' d' cd' sl' ho;have z:=(X _ _ ho).symm.trans htp;cases z
  .cases hc
 ca:=λ{_ _ _ _ _ s} X p k=>by
  obtain⟨h,g,d,t,os⟩:=s;exact We X x p k
theorem WM{A:AQ}{E:Vq}{g:A3 DI}{d:Gy}{t:Af}{os:F8}{e C C':Ak}{b:Ai}{Q:Ai->Ao->Prop}(X:K.In h)(p:XAt e C h)(x':XcOk K C')(hs:E1 K (.ref C) (.ref C')=Aa b)(hq:Q b ⟨h,g,d,t,os⟩):Au M A (excMatches (.ref e) (.ref C')) Q E ⟨h,g,d,t,os⟩:=by
 obtain⟨bm,N,nm,qn,bs,hd,sn,sub,ab,col,dd,k0,k1,k2,k3,k5,mN,hC',_,_,T⟩:=Z_1 X x'.exc.choose_spec;have hcB:(BZ C'::bm).contains (.type "BaseException")=Ab:=by rw[FN,T.hasType (show veB.contains (.type "BaseException")=Ab by decide),Hu]
 have L0:=HL (M:=M) p;have L1:=VG (M:=M) X hs;have f:=tc_notTuple;unfold excMatches
 repeat (first|(with_reducible refine Ap (L0.at ?_))|(with_reducible refine L1.at ?_)|(with_reducible refine Ap (L1.at ?_))|with_reducible refine BG hC' ?_|(with_reducible refine D9 hC' ?_;rw[hcB])|wp_step)
 all_goals first|exact hq|(cases b<;>(wp_walk;exact hq))
def E7(X:Cx)(pI:Pn)(e:Ak):Prop:=e≠X.env.locals/\(∀ x c,X.env.cells.lookup x=Aa c->c≠e)/\(∀ p∈X.pn++pI,p.1≠e)/\X.s₀.heap.get? e=Ae
section
variable{X:Cx}{pI:Pn}{Y:L2.St}{H:Hp}{s:Ao}{e:Ak}
theorem Iq(I:Inv X pI Y H s)(hx:X.ex=[])(h:s.heap.get? e=Ae):E7 X pI e:=by
 refine⟨?_,λx c q z=>?_,λp hp z=>?_,Ip I hx h⟩
 .rintro rfl;obtain⟨m,⟨o,_,_,ho,_⟩,_⟩:=I.loc;rw[h]at ho;cases ho
 .obtain⟨v,o,ho,_⟩:=I.cell x c q;rw[z,h]at ho;cases ho
 .obtain⟨q,_⟩:=I.pin p hp;rw[z,h]at q;cases q
theorem O3{ex:Ac Ak}(I:Inv X pI Y H s)(hx:X.ex=[])(sh:Shift ex (frs X.stack) s.heap h')(ha:∀ b∈ex,E7 X pI b)(hH:∀ b∈ex,H b=Ae):Inv X pI Y H {s with heap:=h'}:=by
 have kp:∀ b o,s.heap.get? b=Aa o->b∉ex->∃ sl,h'.get? b=Aa {o with slots:=sl}:=λb o q n=>by
  by_cases hb:b∈frs X.stack
  .exact sh.slot b o q hb
  .exact⟨o.slots,sh.keep b o q n hb⟩
 have cellK:∀ x c,X.env.cells.lookup x=Aa c->∀ v,s.heap.IsCell c v->h'.IsCell c v:=λx c q v ⟨o,ho,hd⟩=>by
  obtain⟨sl,z⟩:=kp c o ho λz=>(ha c z).2.1 x c q rfl
  exact⟨_,z,hd⟩
 refine⟨I.ok,I.os,I.bare,?_,?_,λx c q=>?_,I.free,I.freeC,λp hp=>?_,HOk.shift I.hok sh hH I.stkFree,I.len⟩
 .have b0:=I.base;rw[hx]at b0 ⊢;exact Un.shift b0 sh (λb hb=>(ha b hb).2.2.2) (Nf I)
 .obtain⟨m,⟨o,es,ep,ho,r⟩,hl⟩:=I.loc;obtain⟨sl,z⟩:=kp _ o ho λz=>(ha _ z).1 rfl
  refine⟨m,⟨_,es,ep,z,r⟩,λi x v e1 e2 e3=>?_⟩
  obtain⟨u,ru,l⟩:=hl i x v e1 e2 e3;refine⟨u,ru,?_⟩;rcases l with l|⟨k,c,q,z⟩
  .exact .inl l
  .exact .inr ⟨k,c,q,cellK x c q _ z⟩
 .obtain⟨v,z⟩:=I.cell x c q;exact⟨v,cellK x c q v z⟩
 .obtain⟨q,n,ne,nf,d⟩:=I.pin p hp;exact⟨sh.keep p.1 p.2 q (λz=>(ha p.1 z).2.2.1 p hp rfl) (λz=>(AG.mp (I.stkSub p.1 z)).elim ne nf),n,ne,nf,d⟩
theorem Pl(I:Inv X pI Y H s)(hx:X.ex=[])(ha:E7 X pI e)(hH:H e=Ae)(ho:∃ o,s.heap.get? e=Aa o)(p:φ s.heap)(hφ:∀ h1 h2:AA,φ h1->(∀ o,h1.get? e=Aa o->h2.get? e=Aa o)->φ h2):Inv X pI Y (upd H e (.ext φ)) s:=by
 have ne:∀ b o,H b=Aa o->b≠e:=λb o q z=>by rw[z,hH]at q;cases q
 refine⟨I.ok,I.os,I.bare,⟨I.base.keep,I.base.slot,λb o q n hb=>?_,I.base.there,λb xs q=>?_,λb o u q=>?_,λb ps q=>?_⟩,I.loc,I.cell,?_,λx c q=>?_,λp hp=>?_,λb o q=>?_,I.len⟩
 .rw[A6 λz=>by rw[z,ha.2.2.2]at q;cases q]
  exact I.base.free b o q n hb
 .have:=I.base.tups b xs q;rw[A6 (ne _ _ this)];exact this
 .have:=I.base.frzs b o u q;rw[A6 (ne _ _ this)];exact this
 .obtain⟨more,this⟩:=I.base.tbls b ps q;exact⟨more,by rw[A6 (ne _ _ this)];exact this⟩
 .rw[A6 λz=>ha.1 z.symm];exact I.free
 .rw[A6 (ha.2.1 x c q)];exact I.freeC x c q
 .obtain⟨q,n,r⟩:=I.pin p hp;exact⟨q,by rw[A6 (ha.2.2.1 p hp)];exact n,r⟩
 .by_cases hb:b=e
  .subst hb;rw[Di]at q;cases q;exact⟨p,ho,hφ⟩
  .rw[A6 hb]at q;exact(I.hok b o q).stay (λc v hc z=>z) (λc z=>by rw[A6 (ne _ _ z)];exact z) λc zs z=>by rw[A6 (ne _ _ z)];exact z
theorem Wy{i:Af}{n:Ag}{m:Ag->An Aj}{tk:Af}(I:Inv X pI Y H s)(hN:X.N.Nodup)(hi:X.N[i]?=Aa n)(hn:s.heap.Ns X.env.locals m)(hn':h'.Ns X.env.locals (λx=>if x=n then v else m x))(hs:Eo X.env.locals s.heap h'):Inv X pI (Y.set i Ae) H {s with heap:=h',toks:=tk}:=by
 obtain⟨m0,hn0,hl⟩:=I.loc;have em:m0=m:=by
  obtain⟨o,es,ep,h1,h2,_,h3⟩:=hn0;obtain⟨o',es',ep',h1',h2',_,h3'⟩:=hn;rw[h1]at h1';cases h1';rw[h2]at h2';cases h2'
  funext y
  rw[<-h3,<-h3']
 subst em;obtain⟨oL,_,_,hoL,_⟩:=id hn;have lt:∀ b o,X.s₀.heap.get? b=Aa o->b≠X.env.locals:=λb o q=>Be (AJ (AD q) I.ok.above)
 refine⟨I.ok,I.os,I.bare,⟨λb o q n hb hx=>?_,λb o q n hb hx=>?_,I.base.free,λb o q hx=>?_,I.base.tups,I.base.frzs,I.base.tbls⟩,⟨_,hn',λj y v' e1 e2 e3=>?_⟩,λy c q=>?_,I.free,I.freeC,λp hp=>?_,λb ob q=>?_,by rw[AR];exact I.len⟩
 .exact(hs.2 b (lt b o q)).trans (I.base.keep b o q n hb hx)
 .obtain⟨sl,e1⟩:=I.base.slot b o q n hb hx;exact⟨sl,(hs.2 b (lt b o q)).trans e1⟩
 .obtain⟨o',e1⟩:=I.base.there b o q hx;exact⟨o',(hs.2 b (lt b o q)).trans e1⟩
 .by_cases hj:i=j
  .subst hj;have:=Fl e2;cases this
  .rw[Bv hj]at e2;obtain⟨u',r',q⟩:=hl j y v' e1 e2 e3;refine⟨u',r',?_⟩;rcases q with ⟨k,e⟩|⟨k,c,e,z⟩
   .refine .inl ⟨k,?_⟩;have:y≠n:=λe=>hj (MO hN hi (e ▸ e1))
    simp[this,e]
   .exact .inr ⟨k,c,e,z.sameBut hs (I.cne y c e)⟩
 .obtain⟨w',z⟩:=I.cell y c q;exact⟨w',z.sameBut hs (I.cne y c q)⟩
 .obtain⟨q,n,ne,nf,d⟩:=I.pin p hp;exact⟨(hs.2 p.1 ne).trans q,n,ne,nf,d⟩
 .refine(I.hok b ob q).stay (λc w' hc z=>(hs.2 c ?_).trans z) (λ_ q=>q) λ_ _ q=>q
  rintro rfl;have hfree:=I.free;rcases hc with z|hc
  .rw[<-z,hfree]at q;cases q
  .rw[hfree]at hc;cases hc
end
noncomputable def Cx.hot(X:Cx)(e:Ak):Cx:={X with A:=X.A.mark (Aa (.ref e)),calm:=Ad,xe:=λ_ _=>AV}
section
variable{X:Cx}{pI:Pn}{Y:L2.St}{H:Hp}{s:Ao}{e:Ak}
theorem cP(ok:X.Ok):(Cx.hot X e).Ok:=⟨ok.mod,ok.kind,ok.glob,ok.blt,ok.above,ok.inj,ok.has,ok.cab,λz=>(nomatch z),ok.frames,ok.stk,ok.exf,ok.bs,ok.bsz,ok.noex,ok.exfs,ok.funs,ok.frf⟩
theorem QP(I:Inv X pI Y H s)(e:Ak):Inv (Cx.hot X e) pI Y H s:=⟨cP I.ok,I.os,I.bare,I.base,I.loc,I.cell,I.free,I.freeC,I.pin,I.hok,I.len⟩
theorem XC(ok:X.Ok)(I:Inv (Cx.hot X e) pI Y H s):Inv X pI Y H s:=⟨ok,I.os,I.bare,I.base,I.loc,I.cell,I.free,I.freeC,I.pin,I.hok,I.len⟩
theorem Sx.unset(x:Sx K CL Fz B U Y H)(i:Af):Sx K CL Fz B (U.set i Ae) (Y.set i Ae) H:=by
 have get:∀(j:Af)(y:D×Ai),(U.set i Ae)[j]?=Aa (Aa y)->i≠j/\U[j]?=Aa (Aa y):=λj y h=>by
  by_cases hj:i=j
  .subst hj;have:=Fl h;cases this
  .exact⟨hj,by rw[Bv hj]at h;exact h⟩
 have sub:∀ a,Ba B (U.set i Ae) (Y.set i Ae) a->Ba B U Y a:=λa h=>by
  rcases h with h|⟨j,d,h1,h2⟩
  .exact .inl h
  .obtain⟨hj,h1⟩:=get j _ h1;rw[Bv hj]at h2;exact .inr ⟨j,d,h1,h2⟩
 refine⟨⟨λj d h=>?_,λj d h hn=>?_,by rw[AR,AR];exact x.len⟩,λa h=>x.aok a (sub a h),λj d a h1 h2=>?_,λj k d f a h1 h2 h3 h4=>?_,x.same,by rw[AR,AR];exact x.len,λj h=>?_⟩
 .obtain⟨hj,h1⟩:=get j _ h;obtain⟨v,q,r⟩:=x.good.sh j d h1;exact⟨v,by rw[Bv hj];exact q,Rep.sub sub _ r⟩
 .obtain⟨hj,h1⟩:=get j _ h;obtain⟨a,xs,ds,q,z,ha,hh,rr⟩:=x.good.ow j d h1 hn;exact⟨a,xs,ds,by rw[Bv hj];exact q,z,.inr ⟨j,d,h,by rw[Bv hj];exact q⟩,hh,Reps.sub sub _ rr⟩
 .obtain⟨hj,h1⟩:=get j _ h1;rw[Bv hj]at h2;exact x.new j d a h1 h2
 .obtain⟨hj,h1⟩:=get j _ h1;obtain⟨hk,h2⟩:=get k _ h2;rw[Bv hj]at h3;rw[Bv hk]at h4;exact x.dis j k d f a h1 h2 h3 h4
 .obtain⟨hj,h1⟩:=get j _ h;obtain⟨a,xs,p1,p2,p3⟩:=x.pin j h1;exact⟨a,xs,p1,by rw[Bv hj];exact p2,p3⟩
end
def Hn(e C:Ak)(dx:An Ak)(h:AA):Prop:=∃ o,h.get? e=Aa o/\o.cls=.ref C/\o.dict=dx/\∃ us,o.data=.fields us
noncomputable def IB(X:Cx)(CL:ClA)(pI:Pn)(Y:L2.St)(H:Hp)(y:Ex)(Xw:Vq):Prop:=
 ∀ s' H' e T cls dx,Inv X pI Y H' s'->Aw H H'->Fly e T cls dx s'.heap->H' e=Ae->H' T=Ae->E7 X pI e->E7 X pI T->ET X.K CL H' cls dx y->Xw (.ref e) s'
def STB(X:Cx)(CL:ClA)(body:Ac AC)(f:Rho->O):Prop:=∀ Fz B pI s Y H D U (Xw:Vq),Dl (model X.prog X.w) X.A X.env Xw->Inv X pI Y H s->Sx X.K CL Fz B U Y H ->
  (match f U with
   |.exn y U'=>U'=U->IB X CL pI Y H y Xw
   | o=>Bh X.K CL Fz B (λ_ _=>AV) o D)->(∀ y U',f U=.exn y U'->U'=U)->Au (model X.prog X.w) X.A (execs body X.env) (SP X pI D) Xw s
noncomputable def SU(up:Af->Ac Af)(c i:Af)(o:O)(fh:Rho->O):O:=match o with
  | .exn y U'=>if (up y.c).contains c=Ab then (match fh (U'.set i (Aa (.exc y.c y.fs,Ad))) with
      |.next U''=>.next (U''.set i Ae)
      |.ret d f=>.ret d f
      | _=>.bad) else .bad
  |o=>o
theorem Zc{i:Af}{g n:Ag}{hp:Az}{b:Ai}{rest:Ac D4}{s1:Ao}{U':Rho}{D:Ends}{e T1:Ak}{y:Ex}(hx:X.ex=[])(hN:X.N.Nodup)(hi:X.N[i]?=Aa n)(hl:X.env.scope.names.lookup n=Aa .local)(hg:Gl X g)(hm:X.mg g=Aa (.ref C'))(hdb:(g==("__debug__" : Ag))=Ad)(xc:XcOk X.K C')(hsu:E1 X.K (.ref C) (.ref C')=Aa b)(hh:∀ e,SSs (Cx.hot X e) CL (λ_ _=>AV) (h0::hs) fh)(I1:Inv X pI Y H' s1)(fl1:Fly e T1 (.ref C) dx s1.heap)(ae:E7 X pI e)(aT1:E7 X pI T1)(he:H' e=Ae)(HT1:H' T1=Ae)(gx:Sx X.K CL Fz B U' Y H')(hcl:CL y.c=Aa C)(xr:ET X.K CL H' (.ref C) dx y)(p2:b=Ab->Bh X.K CL Fz B W (hdO i y U' fh) D)(p3:b=Ad->Au (model X.prog X.w) X.A (Ic (.ref e) X.env rest) (SP X pI D) X.xe s1):Au (model X.prog X.w) X.A (Ic (.ref e) X.env (.ExceptHandler (Aa (.Name g p1)) (Aa n) (h0::hs) hp::rest)) (SP X pI D) X.xe s1:=by
 obtain⟨Cx0,hcl0,ecl,hfs⟩:=xr (Ba B U' Y) gx.aok;have xat:∀{h:AA}{T:Ak},Fly e T (.ref C) dx h->XAt e C h:=λ{h T} z=>by
  obtain⟨oe,_,_,_,_,z1,z2,_⟩:=z;exact⟨oe,z1,z2⟩
 have xad:∀{h:AA}{T:Ak},Fly e T (.ref C) dx h->Hn e C dx h:=λ{h T} z=>by
  obtain⟨oe,vs,_,_,_,z1,z2,z3,_,z4,_⟩:=z;exact⟨oe,z1,z2,z3,vs,z4⟩
 have two:∀{T:Ak}{Z_:Ak->Prop},Z_ e->Z_ T->∀ b∈[e,T],Z_ b:=λ{T Z_} h1 h2 b hb=>by
  rcases AG.mp hb with rfl|hb
  .exact h1
  .rw[Bk.mp hb];exact h2
 refine wpAny_handleBy_cons (codeAny_handlers_test (GH (X:=Cx.hot X e) (QP I1 e) hg hm ?_ hdb)) (by intro q;cases q)
 refine WM (K:=X.K) I1.kIn (xat fl1) xc hsu ?_;cases b with
 |false=>exact p3 rfl
 |true=>
 have p2:=p2 rfl;refine codeAny_handlers_suite_as ?_;refine W6 (base:=X.base) (l:=X.stack) I1.stack fl1 λh3 T3 fl3 sh3 hT3=>?_
 have I3:=O3 I1 hx sh3 (two ae aT1) (two (Z_:=λb=>H' b=Ae) he HT1)
 obtain⟨oe,oeg,oec⟩:=xad fl3;have I3':=Pl (φ:=Hn e C dx) I3 hx ae he ⟨oe,oeg⟩ ⟨oe,oeg,oec⟩ λh1 h2 ⟨o,q1,q2⟩ k=>⟨o,k o q1,q2⟩
 have sm3:Aw H' (upd H' e (.ext (Hn e C dx))):=λb o q=>by rw[A6 λz=>by rw[z,he]at q;cases q];exact q
 refine Mt (X:=Cx.hot X e) (i:=i) (v:=.ref e) (QP I3' e) hN hi (.inl hl) rfl (λs4 I4=>?_) (.inr hl)
 have x3:=gx.grow sm3;have nA:¬ Ba B U' Y e:=λz=>by
  obtain⟨xs,q⟩:=x3.aok e z;rw[Di]at q;cases q
 have rp:Rep X.K CL (upd H' e (.ext (Hn e C dx))) (Ba B U' Y) (.ref e) (.exc y.c y.fs):=by
  refine⟨e,C,Hn e C dx,rfl,nA,hcl,Di,λh ⟨o,z1,z2,_⟩=>⟨o,z1,z2⟩,?_⟩
  rcases hfs with z|⟨d,vs,ed,nd,hd,rf⟩
  .exact .inl z
  .exact .inr ⟨d,vs,nd,sm3 _ _ hd,Repf.kp (Kp.of sm3) _ rf,λh ⟨o,z1,_,z3,z4⟩=>⟨o,z1,z3.trans ed,z4⟩⟩
 have x4:=x3.set i rp;have fin:∀{s5:Ao}{Y5:L2.St}{H5:Hp}{Q:DQ->Ao->Prop},Inv (Cx.hot X e) pI Y5 H5 s5->(∀ s6,Inv X pI (Y5.set i Ae) H5 s6->Q () s6)->Au (model X.prog X.w) X.A (do bindName X.env n .none;unbindBehindTheSuite X.env n hp) Q X.xe s5:=λ{s5 Y5 H5 Q} I5 k=>by
  have I5':=XC I1.ok I5;obtain⟨m,hn,_⟩:=id I5'.loc;refine wpAny_nameGoes_keeps hl hn (by rw[I1.ok.kind];rfl) λh6 v6 hn6 sb6=>?_
  exact k _ (Wy I5' hN hi hn hn6 sb6)
 refine A2 (hh e Fz B pI s4 _ _ {nx:=λY5 H5=>D.nx (Y5.set i Ae) H5,rt:=D.rt} I4 ⟨_,x4,?_⟩) (λf s5 hf=>?_) λ_ _ z=>AZ z
 .unfold hdO at p2;cases ef:fh (U'.set i (Aa (.exc y.c y.fs,Ad))) with
  |next U''=>rw[ef]at p2;exact λY5 H5 x5=>p2 _ _ (x5.unset i)
  |ret d b=>rw[ef]at p2;exact p2
  |brk _=>rw[ef]at p2;exact p2.elim
  |cont _=>rw[ef]at p2;exact p2.elim
  |exn _ _=>rw[ef]at p2;exact p2.elim
  |bad=>rw[ef]at p2;exact p2.elim
 .cases f with
  |next=>
   obtain⟨Y5,H5,I5,q⟩:=hf;exact fin I5 λs6 I6=>⟨_,H5,I6,q⟩
  |ret u=>
   obtain⟨v,Y5,H5,I5,r,q⟩:=hf;exact fin I5 λs6 I6=>⟨v,_,H5,I6,r,q⟩
  |brk=>obtain⟨_,_,_,q⟩:=hf;exact AZ q
  |cont=>obtain⟨_,_,_,q⟩:=hf;exact AZ q
def S5(X:Cx)(CL:ClA)(up:Af->Ac Af)(g:Ag)(c:Af):Prop:=∃ C',Gl X g/\X.mg g=Aa (.ref C')/\(g==("__debug__" : Ag))=Ad/\XcOk X.K C'/\∀ c' C,CL c'=Aa C->E1 X.K (.ref C) (.ref C')=Aa ((up c').contains c)
theorem WO{y:Ex}{Q:Flow->Ao->Prop}{hd:Ac D4}(hx:X.ex=[])(hst:X.stack=X.env::X.outer)(hfm:X.env.frame=Aa X.env.locals)(k:∀ e T1 cls dx H' s1,Inv X pI Y H' s1->Aw H H'->Fly e T1 cls dx s1.heap->E7 X pI e->E7 X pI T1->H' e=Ae->H' T1=Ae->ET X.K CL H' cls dx y->Au (model X.prog X.w) X.A (Ic (.ref e) X.env hd) Q X.xe s1):IB X CL pI Y H y (λev s1=>Au (model X.prog X.w) X.A (FQ ev X.env) (λ_ s2=>Au (model X.prog X.w) X.A (GC ev Ae) (λ_ s3=>Au (model X.prog X.w) X.A (Ic ev X.env hd) Q X.xe s3) X.xe s2) X.xe s1):=by
 intro s' H' e T cls dx I' sm fl he hT ae aT xr;have two:∀{T:Ak}{Z_:Ak->Prop},Z_ e->Z_ T->∀ b∈[e,T],Z_ b:=λ{T Z_} h1 h2 b hb=>by
  rcases AG.mp hb with rfl|hb
  .exact h1
  .rw[Bk.mp hb];exact h2
 have hfr:X.A.frames=Aa (X.env::X.outer):=by rw[<-hst];exact I'.ok.frames
 refine Xe (base:=X.base) hfr hfm (by rw[<-hst];exact I'.stack) fl λh1 T1 fl1 sh1 hT1=>?_
 rw[<-hst]at sh1;exact k e T1 cls dx H' _ (O3 I' hx sh1 (two ae aT) (two (Z_:=λb=>H' b=Ae) he hT)) sm fl1 ae (hT1.elim (λz=>z ▸ aT) λz=>Iq I' hx z) he (hT1.elim (λz=>z ▸ hT) λz=>HH I'.hok z) xr
theorem aN{c i:Af}{g n:Ag}{hp:Az}{fb:Rho->O}(hx:X.ex=[])(hst:X.stack=X.env::X.outer)(hfm:X.env.frame=Aa X.env.locals)(hN:X.N.Nodup)(hi:X.N[i]?=Aa n)(hl:X.env.scope.names.lookup n=Aa .local)(h1:S5 X CL up g c)(hb:STB X CL body fb)(hρ:∀ U y U',fb U=.exn y U'->U'=U)(hh:∀ e,SSs (Cx.hot X e) CL (λ_ _=>AV) (h0::hs) fh):SS X CL W (.Try body [.ExceptHandler (Aa (.Name g p1)) (Aa n) (h0::hs) hp] [] [] pos) (λU=>SU up c i (fb U) fh):=λFz B pI s Y H D I ⟨U,x,p⟩=>by
 refine wpAny_Try_except (A2 (hb Fz B pI s Y H D U _ PassesOwn.looking I x ?_ (hρ U)) (λf s1 hf=>?_) λ_ _ z=>z)
 .dsimp only at p;cases eb:fb U with
  |exn y U'=>
   rw[eb]at p;intro e0;subst e0;have p2:Bh X.K CL Fz B W (if (up y.c).contains c=Ab then hdO i y U' fh else .bad) D:=p
   refine WO hx hst hfm λe T1 cls dx H' s1 I1 sm fl1 ae aT1 he HT1 xr=>?_
   have gx:=x.grow sm;obtain⟨C,hcl,rfl,_⟩:=xr (Ba B U' Y) gx.aok;obtain⟨C',hg,hm,hdb,xc,hup⟩:=h1;refine Zc (W:=W) hx hN hi hl hg hm hdb xc (hup y.c C hcl) hh I1 fl1 ae aT1 he HT1 gx hcl xr (λhc=>?_) (λhc=>?_)
   .rw[AE hc]at p2;exact p2
   .rw[AO (by rw[hc];exact Av)]at p2;exact p2.elim
  |next U'=>rw[eb]at p;exact p
  |ret d b=>rw[eb]at p;exact p
  |brk U'=>rw[eb]at p;exact p
  |cont U'=>rw[eb]at p;exact p
  |bad=>rw[eb]at p;exact p.elim
 .cases f with
  |next=>exact DF hf
  |ret u=>exact hf
  |brk=>exact hf
  |cont=>exact hf
theorem Ps{f:Ak}{sp:Sp}{E:XK}{e:Am}{es:Ac Am}{t:TA}(F:FnOk X.prog X.w X.K X.mg X.base CX k f fd ps sp)(hr:Room k X.A)(hg:Gl X x)(hm:X.mg x=Aa (.ref f))(hk:A7 X.K (.ref f)=Ab)(hb:Ed X.K fd ps [])(hx:∀ pI H s e s',Inv X pI Y0 H s->CX X.stack H s E e s'->X.xe e s')(ha:PA X (e::es) t)(hdb:(x==("__debug__" : Ag))=Ad)(he:Aq (e::es) X.env=(Ad,eval e X.env)::Aq es X.env)(hpl:(Bq pos (Aq es X.env)).any (·.1)=Ad):PE X (.Call (.Name x p) (e::es) [] pos) (λY H Q=>Y=Y0/\t Y H λvs H1=>sp vs H1 Q E):=by
 intro pI s Y H Q I ⟨e0,h⟩;subst e0;refine CC (GH I hg hm ?_ hdb);refine DE (h₀:=X.base) I.ok.mod.kin hk (thn (ha pos pI s Y H _ I h) λus s1 ⟨vs,H1,I1,r,q⟩=>⟨I1.kIn,?_⟩) he hpl
 have hl:us.length=ps.length:=by rw[<-r.length];exact F.len _ _ _ _ q
 have hb':Fx s1 fd ⟨us,[]⟩ (ps.zip us):=by
  have:=hb s1 us I1.kIn (by rw[Cc];exact hl)
  rw[Cc]at this;exact this
 refine Fj (Et (F.run X.A X.stack s1 H1 ⟨us,[]⟩ us vs Q E hr I1.env0 hb' r q) λr s' hq=>?_)
 cases r with
 |error e=>exact hx pI H1 s1 e s' I1 hq
 |ok fl=>
  cases fl with
  |ret u=>exact I1.after hq
  |next=>exact AZ hq
  |brk=>exact AZ hq
  |cont=>exact AZ hq
def N2(K:Fg)(CL:ClA)(Rp:Hp->V->D->Prop)(E0:XK)(H:Hp)(r:R D)(Q:VK):Prop:=match r with
  |.ok d=>∀ v H',Aw H H'->Rp H' v d->Q v H'
  |.exn y=>∀ cls dx H',Aw H H'->ET K CL H' cls dx y->E0 cls dx H'
  |.bad=>AV
theorem KO{k n:Af}{fr:Ai}{f:Ak}{F:Ac D->R D}{e:Am}{es:Ac Am}{fs ft:Rho->R (Ac D)}{sh:Rho->Ai}{E0:XK}(G:FnOk X.prog X.w X.K X.mg X.base CX k f fd ps (spD X.K CL n fr F))(hr:Room k X.A)(hg:Gl X x)(hm:X.mg x=Aa (.ref f))(hk:A7 X.K (.ref f)=Ab)(hb:Ed X.K fd ps [])(hx:∀ pI H s e s',Inv X pI Y0 H s->CX X.stack H s E0 e s'->X.xe e s')(ha:SA X CL (λ_ _=>AV) (e::es) fs)(hat:SAT X CL (λ_ _=>AV) (e::es) ft)(hst:∀ U,sh U=Ab->ft U=fs U)(hn:∀ U ds,ft U=.ok ds->ds.length=n)(hnx:∀ U y,ft U≠.exn y)(hdb:(x==("__debug__" : Ag))=Ad)(he:Aq (e::es) X.env=(Ad,eval e X.env)::Aq es X.env)(hpl:∀ pos,(Bq pos (Aq es X.env)).any (·.1)=Ad)(A:Ak->Prop):PE X (.Call (.Name x p) (e::es) [] pos) (λY H Q=>Y=Y0/\AOk H A/\∃ U,Good X.K CL A U Y H/\N2 X.K CL (C9 X.K CL fr H A) E0 H ((ft U).bind λds=>(F ds).bind λd=>if sh U=Ab then .ok d else if FG fr d=Ab then .ok d else .bad) Q):=λpI s Y H Q I ⟨e0,hA,U,gd,q⟩=>by
 by_cases hs:sh U=Ab
 .rw[hst U hs]at q;refine Ps G hr hg hm hk hb hx (ha A) hdb he (hpl _) pI s Y H Q I ⟨e0,hA,U,gd,?_⟩;cases e1:fs U with
  |bad=>rw[e1]at q;exact q
  |exn y=>exact absurd (by rw[hst U hs];exact e1) (hnx U y)
  |ok ds=>
   rw[e1]at q;intro vs H1 s1 r1;refine⟨ds,A,by rw[r1.length];exact hn U ds (by rw[hst U hs];exact e1),hA.same s1,r1,?_⟩
   have q':N2 X.K CL (C9 X.K CL fr H A) E0 H ((F ds).bind λd=>if sh U=Ab then .ok d else if FG fr d=Ab then .ok d else .bad) Q:=q
   cases e2:F ds with
   |ok d=>
    rw[e2,R.bind_ok,AE hs]at q';exact λv H2 s2 r2=>q' v H2 (s1.trans s2) ⟨r2.1,λz ds' e'=>let ⟨a,xs,z1,z2,z3⟩:=r2.2 z ds' e';⟨a,xs,z1,s1.free z2,z3⟩⟩
   |exn y=>
    rw[e2]at q';exact λcls dx H2 s2 xr=>q' cls dx H2 (s1.trans s2) xr
   |bad=>rw[e2]at q';exact q'.elim
 .refine Ps G hr hg hm hk hb hx (hat A) hdb he (hpl _) pI s Y H Q I ⟨e0,hA,U,gd,?_⟩;cases e1:ft U with
  |bad=>rw[e1]at q;exact q
  |exn y=>exact absurd e1 (hnx U y)
  |ok ds=>
   rw[e1]at q;intro vs H1 s1 r1;refine⟨ds,A0,by rw[r1.plain.length];exact hn U ds e1,λ_ z=>z.elim,r1.plain,?_⟩
   have q':N2 X.K CL (C9 X.K CL fr H A) E0 H ((F ds).bind λd=>if sh U=Ab then .ok d else if FG fr d=Ab then .ok d else .bad) Q:=q
   cases e2:F ds with
   |ok d=>
    rw[e2,R.bind_ok,AO hs]at q';split at q'
    .rename_i hc;exact λv H2 s2 r2=>q' v H2 (s1.trans s2) (Q6 hA (s1.trans s2) hc ⟨r2.1,λz ds' e'=>let ⟨a,xs,z1,z2,z3⟩:=r2.2 z ds' e';⟨a,xs,z1,s1.free z2,z3⟩⟩)
    .exact q'.elim
   |exn y=>
    rw[e2]at q';exact λcls dx H2 s2 xr=>q' cls dx H2 (s1.trans s2) xr
   |bad=>rw[e2]at q';exact q'.elim
noncomputable def Cx.pw(X:Cx)(pI:Pn)(Xw:Vq):Cx:={X with pn:=X.pn++pI,xe:=Xw}
section
variable{X:Cx}{pI pins':Pn}{Y:L2.St}{H:Hp}{s:Ao}{Xw:Vq}
theorem gX(ok:X.Ok):(Cx.pw X pI Xw).Ok:=⟨ok.mod,ok.kind,ok.glob,ok.blt,ok.above,ok.inj,ok.has,ok.cab,ok.hd,ok.frames,ok.stk,ok.exf,ok.bs,ok.bsz,ok.noex,ok.exfs,ok.funs,ok.frf⟩
theorem JZ(I:Inv X pI Y H s)(Xw:Vq):Inv (Cx.pw X pI Xw) [] Y H s:=⟨gX I.ok,I.os,I.bare,I.base,I.loc,I.cell,I.free,I.freeC,λp hp=>I.pin p (by
 rcases Fb.mp hp with z|z
 .exact z
 .exact absurd z (by simp)),I.hok,I.len⟩
theorem IV(ok:X.Ok)(I:Inv (Cx.pw X pI Xw) pins' Y H s):Inv X pI Y H s:=⟨ok,I.os,I.bare,I.base,I.loc,I.cell,I.free,I.freeC,λp hp=>I.pin p (Fc _ hp),I.hok,I.len⟩
theorem KW(ok:X.Ok){D:Ends}{f:Flow}{s':Ao}(h:SP (Cx.pw X pI Xw) pins' D f s'):SP X pI D f s':=by
 cases f with
 |next=>obtain⟨Y',H',I,q⟩:=h;exact⟨Y',H',IV ok I,q⟩
 |brk=>obtain⟨Y',H',I,q⟩:=h;exact⟨Y',H',IV ok I,q⟩
 |cont=>obtain⟨Y',H',I,q⟩:=h;exact⟨Y',H',IV ok I,q⟩
 |ret u=>obtain⟨v,Y',H',I,r,q⟩:=h;exact⟨v,Y',H',IV ok I,r,q⟩
end
section
variable{X:Cx}{CL:ClA}{k n:Af}{fr:Ai}{f:Ak}{fd:Bp}{ps:Ac Ag}{F:Ac D->R D}{x:Ag}{p pos pos2:Az}{e:Am}{es:Ac Am}{fs ft:Rho->R (Ac D)}{sh:Rho->Ai}
theorem P0{y:Ex}(hx:X.ex=[])(ok:X.Ok)(q:IB X CL pI Y H y Xw):∀ pins' H1 s1 e s',Inv (Cx.pw X pI Xw) pins' Y H1 s1->CXR X.prog X.w (Cx.pw X pI Xw).stack H1 s1 (λcls dx H'=>ET X.K CL H' cls dx y/\Aw H H') e s'->(Cx.pw X pI Xw).xe e s':=by
 intro pins' H1 s1 ev s' J h;obtain⟨e,T,cls,dx,H',rfl,os,bare,un,hok,fl,he,hT,ne,nT,xr,sm⟩:=h;have J':=IV ok J;have J2:=J'.call' (s':=s') (ch:=[]) os un hok bare (λb z=>absurd z (by simp))
 exact q s' H' e T cls dx J2 sm fl he hT (Iq J' hx ne) (Iq J' hx nT) xr
theorem P1:∀ pins' H1 s1 e s',Inv (Cx.pw X pI Xw) pins' Y H1 s1->CXR X.prog X.w (Cx.pw X pI Xw).stack H1 s1 (λ_ _ _=>AV) e s'->(Cx.pw X pI Xw).xe e s':=by
 intro pins' H1 s1 ev s' J h;obtain⟨e,T,cls,dx,H',rfl,os,bare,un,hok,fl,he,hT,ne,nT,w⟩:=h;exact w.elim
variable(hx0:X.ex=[])(G:FnOk X.prog X.w X.K X.mg X.base (CXR X.prog X.w) k f fd ps (spD X.K CL n fr F))(hr:Room k X.A)(hg:Gl X x)(hm:X.mg x=Aa (.ref f))
    (hk:A7 X.K (.ref f)=Ab) (hb:Ed X.K fd ps []) (hst:∀ U,sh U=Ab->ft U=fs U) (hn:∀ U ds,ft U=.ok ds->ds.length=n) (hnx:∀ U y,ft U≠.exn y)
    (hdb:(x==("__debug__" : Ag))=Ad) (he:Aq (e::es) X.env=(Ad,eval e X.env)::Aq es X.env) (hpl:∀ pos,(Bq pos (Aq es X.env)).any (·.1)=Ad)
    (ha:∀ pI Xw,Dl (model X.prog X.w) X.A X.env Xw->SA (Cx.pw X pI Xw) CL (λ_ _=>AV) (e::es) fs/\SAT (Cx.pw X pI Xw) CL (λ_ _=>AV) (e::es) ft)
include hx0 G hr hg hm hk hb hst hn hnx hdb he hpl ha
theorem WS(hs:CB (.Call (.Name x p) (e::es) [] pos) Ae pos2.line X.env=pure Ad):STB X CL [.Expr (.Call (.Name x p) (e::es) [] pos) pos2] (λU=>O.of U ((ft U).bind λds=>(F ds).bind λd=>if sh U=Ab then .ok d else if FG fr d=Ab then .ok d else .bad) λ_=>.next U):=by
 intro Fz B pI s Y H D U Xw own I sx q _;obtain⟨ha1,ha2⟩:=ha pI Xw own;dsimp only at q;cases er:(ft U).bind λds=>(F ds).bind λd=>if sh U=Ab then .ok d else if FG fr d=Ab then .ok d else .bad with
 |bad=>rw[er]at q;exact q.elim
 |exn y=>
  rw[er]at q;have key:=KO (X:=Cx.pw X pI Xw) (p:=p) (pos:=pos) (Y0:=Y) (fr:=fr) (F:=F) (n:=n) (sh:=sh) G hr hg hm hk hb (P0 hx0 I.ok (q rfl)) ha1 ha2 hst hn hnx hdb he hpl (Ba B U Y);refine A2 (Ja (JP (pos:=pos2) key hs) [] s Y H D (JZ I Xw) ⟨rfl,sx.aok,U,sx.good,?_⟩) (λ_ _ z=>KW I.ok z) λ_ _ z=>z
  rw[er];exact λcls dx H' sm xr=>⟨xr,sm⟩
 |ok d=>
  rw[er]at q;have key:=KO (X:=Cx.pw X pI Xw) (p:=p) (pos:=pos) (Y0:=Y) (fr:=fr) (F:=F) (n:=n) (sh:=sh) (E0:=λ_ _ _=>AV) G hr hg hm hk hb P1 ha1 ha2 hst hn hnx hdb he hpl (Ba B U Y)
  refine A2 (Ja (JP (pos:=pos2) key hs) [] s Y H D (JZ I Xw) ⟨rfl,sx.aok,U,sx.good,?_⟩) (λ_ _ z=>KW I.ok z) λ_ _ z=>z
  rw[er];exact λv H' sm r=>q Y H' (sx.grow sm)
theorem Yx{i:Af}{m:Ag}(hN:X.N.Nodup)(hi:X.N[i]?=Aa m)(hl:Loc X.env.scope m)(hf:X.fn m=Ab\/X.env.scope.names.lookup m=Aa .local)(hs:CB (.Call (.Name x p) (e::es) [] pos) (Aa (.Name m pos')) pos2.line X.env=pure Ad):STB X CL [.Assign [.Name m pos'] (.Call (.Name x p) (e::es) [] pos) pos2] (λU=>O.of U ((ft U).bind λds=>(F ds).bind λd=>if sh U=Ab then .ok d else if FG fr d=Ab then .ok d else .bad) λd=>.next (U.set i (Aa (d,Ad)))):=by
 intro Fz B pI s Y H D U Xw own I sx q _;obtain⟨ha1,ha2⟩:=ha pI Xw own;dsimp only at q;cases er:(ft U).bind λds=>(F ds).bind λd=>if sh U=Ab then .ok d else if FG fr d=Ab then .ok d else .bad with
 |bad=>rw[er]at q;exact q.elim
 |exn y=>
  rw[er]at q;have key:=KO (X:=Cx.pw X pI Xw) (p:=p) (pos:=pos) (Y0:=Y) (fr:=fr) (F:=F) (n:=n) (sh:=sh) G hr hg hm hk hb (P0 hx0 I.ok (q rfl)) ha1 ha2 hst hn hnx hdb he hpl (Ba B U Y);refine A2 (Ja (Lb (X:=Cx.pw X pI Xw) (i:=i) (pos:=pos2) hN hi hl key hs hf) [] s Y H D (JZ I Xw) ⟨rfl,sx.aok,U,sx.good,?_⟩) (λ_ _ z=>KW I.ok z) λ_ _ z=>z
  rw[er];exact λcls dx H' sm xr=>⟨xr,sm⟩
 |ok d=>
  rw[er]at q;have key:=KO (X:=Cx.pw X pI Xw) (p:=p) (pos:=pos) (Y0:=Y) (fr:=fr) (F:=F) (n:=n) (sh:=sh) (E0:=λ_ _ _=>AV) G hr hg hm hk hb P1 ha1 ha2 hst hn hnx hdb he hpl (Ba B U Y)
  refine A2 (Ja (Lb (X:=Cx.pw X pI Xw) (i:=i) (pos:=pos2) hN hi hl key hs hf) [] s Y H D (JZ I Xw) ⟨rfl,sx.aok,U,sx.good,?_⟩) (λ_ _ z=>KW I.ok z) λ_ _ z=>z
  rw[er];exact λv H' sm r=>q _ H' ((sx.grow sm).set i r.1)
end
section
variable{X:Cx}{CL:ClA}{W:XW}
theorem WU{np cpos pos:Az}{e:Am}{es:Ac Am}{fs:Rho->R (Ac D)}(hcalm:X.calm=Ab)(rz:Ky X CL W)(hg:Gl X g)(hm:X.mg g=Aa (.ref C))(hdb:(g==("__debug__" : Ag))=Ad)(xc:DU X.K C Ae=Ab)(hcl:CL c=Aa C)(ha:SA X CL W (e::es) fs)(hxn:∀ ds,xn c ds=.bad\/xn c ds=.ok ⟨c,[]⟩)(he:Aq (e::es) X.env=(Ad,eval e X.env)::Aq es X.env)(hpl:∀ pos,(Bq pos (Aq es X.env)).any (·.1)=Ad)(hz:∀ U ds,fs U=.ok ds->ds.length<=100000):SS X CL W (.Raise (Aa (.Call (.Name g np) (e::es) [] cpos)) Ae pos) (λU=>O.of U (noX (fs U)) λxs=>O.of U (xn c xs) λx=>.exn x U):=λFz B pI s Y H D I ⟨U,x,p⟩=>by
 dsimp only at p;cases e1:fs U with
 |bad=>rw[e1]at p;exact p.elim
 |exn y=>rw[e1]at p;exact p.elim
 |ok ds=>
  rw[e1]at p;have p2:Bh X.K CL Fz B W (O.of U (xn c ds) λx=>.exn x U) D:=p
  rcases hxn ds with e2|e2
  .rw[e2]at p2;exact p2.elim
  .rw[e2]at p2;have p3:∀ H,(∀ b o,Fz b o->H b=Aa o)->W ⟨c,[]⟩ H:=p2;obtain⟨bm,N,nm,qn,bs,hd,sn,sub,ab,col,dd,k0,k1,k2,k3,k5,mN,hob,hni,hbase⟩:=JU I.kIn xc;refine wpAny_Raise_call_subT (bmB:=veB) (nm:=nm) (q:=qn) (C:=C) (N:=N) (bs:=bs) (bm:=bm) (hdct:=hd) (sn:=sn) (sub:=sub) (ab:=ab) (col:=col) (dd:=dd) (k0:=k0) (k1:=k1) (k2:=k2) (k3:=k3) (k5:=k5) (mN:=mN) Cu hbase (I.ok.hd hcalm) (by rw[he];show (Ad||(Bq cpos (Aq es X.env)).any (·.1))=Ad;rw[hpl];rfl) hni ?_
   refine GH I hg hm ⟨rfl,?_⟩ hdb;have q1:=ha (Ba B U Y) cpos pI s Y H (λvs H1=>Aw H H1/\vs.length=ds.length) I ⟨x.aok,U,x.good,by rw[e1];exact λvs H1 s1 r1=>⟨s1,r1.length⟩⟩
   rw[he]at q1 ⊢;refine DY (A2 q1 (λus s2 ⟨vs,H2,I2,r2,s2',hl⟩=>⟨rfl,?_⟩) λ_ _ z=>z)
   obtain⟨o1,o2,o3⟩:=hob _ I2.kIn;refine⟨?_,o1,o2,o3,λh' ev hmade=>?_⟩
   .rw[<-r2.length,hl,BV];have:=hz U ds e1;omega
   .obtain⟨t,ge,_⟩:=hmade.there;have I3:Inv X pI Y H2 {s2 with heap:=h'}:=I2.kept (t':=s2.toks) hmade.keeps
    exact rz pI Y H2 _ ev C Ae t ⟨c,[]⟩ I3 (λhx=>Ip I2 hx hmade.new) (HH I2.hok hmade.new) ge (λA _=>⟨C,hcl,rfl,.inl rfl⟩) (p3 H2 λb o z=>s2' _ _ (x.same b o z))
def J9(K:Fg)(CL:ClA)(up:Af->Ac Af)(c':Af)(C':Ak):Prop:=∀ c C,CL c=Aa C->Do K (.ref C) (.ref C')=Aa ((up c).contains c')
theorem P2{s:Ao}{a C:Ak}{cv:Aj}{b:Ai}{Q:VK}(I:Inv X pI Y H s)(ha:H a=Aa (.ext φ))(hφ:∀ h,φ h->∃ o,h.get? a=Aa o/\o.cls=.ref C)(xc:XcOk X.K C)(e:Do X.K (.ref C) cv=Aa b)(q:Q (.bl b) H):
  Au (model X.prog X.w) X.A (call (.builtin "isinstance") [.ref a,cv]) (EP X pI Y Q) X.xe s:=by
 have p:XAt a C s.heap:=hφ _ (I.hok a _ ha).1;exact PySem.W.kia_one (PB xc) I.kIn p e (by intro z;cases z) λtk=>⟨.bl b,H,I.tok tk,rfl,q⟩
theorem Pq:∀(Cs:Ac Ak){its:Ac Aj},AX (Cs.map V.ref) its->its=Cs.map BZ
 |[],_,rv=>by cases rv;rfl
 |c::cs,_,rv=>by
  cases rv with
  |cons h1 h2=>rw[Pq cs h2];cases h1;rfl
theorem Y_7{s:Ao}{a C tp:Ak}{Cs:Ac Ak}{b:Ai}{Q:VK}(I:Inv X pI Y H s)(ha:H a=Aa (.ext φ))(hφ:∀ h,φ h->∃ o,h.get? a=Aa o/\o.cls=.ref C)(xc:XcOk X.K C)(ht:H tp=Aa (.tup (Cs.map V.ref)))(e:GW X.K (.ref C) (Cs.map BZ)=Aa b)(q:Q (.bl b) H):
  Au (model X.prog X.w) X.A (call (.builtin "isinstance") [.ref a,.ref tp]) (EP X pI Y Q) X.xe s:=by
 have p:XAt a C s.heap:=hφ _ (I.hok a _ ha).1;obtain⟨_,its,rv,⟨o,ho,hc,n,hd⟩⟩:=I.hok tp _ ht;have ei:its=Cs.map BZ:=Pq Cs rv;subst ei;obtain⟨cls,dd,dat,sl⟩:=o;have hc':cls=.type "tuple" := hc;have hd':dat=.seq (Em (Cs.map BZ)) n:=hd;subst hc' hd';exact PySem.W.kia_tup (PB xc) I.kIn p ho e (by intro z;cases z) λtk=>⟨.bl b,H,I.tok tk,rfl,q⟩
theorem Qh{K:Fg}{up:Af->Ac Af}{c:Af}{C:Ak}(h:CL c=Aa C):∀(cs:Ac (Af×Ak)),(∀ p∈cs,J9 K CL up p.1 p.2)->GW K (.ref C) ((cs.map λq:Af×Ak=>q.2).map BZ)=Aa (cs.any λp=>(up c).contains p.1)
  |[],_=>rfl
  |p::cs,hk=>by
    have h1:=hk p AB c C h;have h2:=Qh h cs λq hq=>hk q (Ax _ hq)
    show (match Do K (.ref C) (.ref p.2) with
      |some Ab=>Aa Ab
      |some Ad=>GW K (.ref C) ((cs.map λq:Af×Ak=>q.2).map BZ)
      | none=>Ae)=_
    rw[h1,Hq];cases (up c).contains p.1 with
    |true=>rfl
    |false=>rw[h2];rfl
theorem MS{ks:Ac Ki}{Q:VK}(hk:ks.all Dk=Ab)(hne:ks≠[])(p:AT Rp W H (DL up ks d) Q):∃ c fs,d=.exc c fs/\AT Rp W H (.ok (.bl (ks.any λk=>kiD up k d))) Q:=by
 have ha:ks.any Dk=Ab:=by
  cases ks with
  |nil=>exact absurd rfl hne
  |cons k ks=>simp only[D2,Al]at hk;simp[Hq,hk.1]
 cases d with
 | exc c fs=>exact⟨c,fs,rfl,by
   have p':AT Rp W H (if ks.all Dk=Ab then .ok (.bl (ks.any λk=>kiD up k (.exc c fs))) else .bad) Q:=p
   rw[AE hk]at p';exact p'⟩
 |obj c fs=>exact AZ p
 |dic _=>exact AZ p
 |non=>simp only[DL,ha,DV]at p;exact AZ p
 |bl _=>simp only[DL,ha,DV]at p;exact AZ p
 |int _=>simp only[DL,ha,DV]at p;exact AZ p
 |str _=>simp only[DL,ha,DV]at p;exact AZ p
 |tup _=>simp only[DL,ha,DV]at p;exact AZ p
 |lst _=>simp only[DL,ha,DV]at p;exact AZ p
theorem M6{v:V}{fs:Ac (Ag×D)}(r:B6 K CL H A v (.exc c fs)):∃ a C φ,v=.ref a/\CL c=Aa C/\H a=Aa (.ext φ)/\∀ h,φ h->∃ o,h.get? a=Aa o/\o.cls=.ref C:=by
 rcases r with ⟨a,C,φ,e,_,hc,hH,hφ,_⟩|⟨a,xs,ds,_,z,_⟩
 .exact⟨a,C,φ,e,hc,hH,hφ⟩
 .cases z
variable{a:Am}{fa:Rho->R D}{up:Af->Ac Af}{x:Ag}{p p2 pos:Az}
theorem RM{c':Af}(hxc:∀ c C,CL c=Aa C->XcOk X.K C)(hg:Gl X "isinstance")(hm:X.mg "isinstance" = Ae)(hg2:Gl X x)(hm2:X.mg x=Aa (.ref C'))(hkit:J9 X.K CL up c' C')(hdb:(x==("__debug__" : Ag))=Ad)(ha:ST X CL W a fa)(he:Aq [a,.Name x p2] X.env=(Ad,eval a X.env)::Aq [.Name x p2] X.env):SE X CL W (.Call (.Name "isinstance" p) [a,.Name x p2] [] pos) (λU=>(fa U).bind λx=>DL up [.cls c'] x):=λA=>
 PE.weak (IS (r:=λxs H Q=>∃ a C φ c,xs=[.ref a,.ref C']/\CL c=Aa C/\H a=Aa (.ext φ)/\(∀ h,φ h->∃ o,h.get? a=Aa o/\o.cls=.ref C)/\Q (.bl ((up c).contains c')) H) (λpI s Y H xs us Q I r ⟨b,C,φ,c,e,hc,hH,hφ,q⟩=>by
   subst e;obtain⟨u,w',rfl,r1,r2⟩:=HN r;cases r1;cases r2;exact P2 I hH hφ (hxc c C hc) (hkit c C hc) q)
  hg hm Ei (Dt (ha A) (Dt (M8 (v:=.ref C') hg2 hm2 rfl hdb) EQ rfl) he) (by decide) (by decide) he rfl) λY H Q ⟨hA,U,g,q⟩=>⟨hA,U,g,AT.bind q λd v H1 _ s1 r1 p1=>by
   obtain⟨c,fs,rfl,p2⟩:=MS (by rfl) (by simp) p1
   obtain⟨b,C,φ,rfl,hc,hH,hφ⟩:=M6 r1;refine⟨b,C,φ,c,rfl,hc,hH,hφ,p2 _ H1 (Aw.refl H1) ?_⟩;exact congrArg V.bl (Dz _).symm⟩
theorem RK(hxc:∀ c C,CL c=Aa C->XcOk X.K C)(hg:Gl X "isinstance")(hm:X.mg "isinstance" = Ae)(hg2:Gl X "ValueError")(hm2:X.mg "ValueError" = Ae)(ha:ST X CL W a fa)(he:Aq [a,.Name "ValueError" p2] X.env=(Ad,eval a X.env)::Aq [.Name "ValueError" p2] X.env):SE X CL W (.Call (.Name "isinstance" p) [a,.Name "ValueError" p2] [] pos) (λU=>(fa U).bind λx=>DL up [.verr] x):=λA=>
 PE.weak (IS (r:=λxs H Q=>∃ a C φ c,xs=[.ref a,.ty "ValueError"]/\CL c=Aa C/\H a=Aa (.ext φ)/\(∀ h,φ h->∃ o,h.get? a=Aa o/\o.cls=.ref C)/\Q (.bl Ab) H) (λpI s Y H xs us Q I r ⟨b,C,φ,c,e,hc,hH,hφ,q⟩=>by
   subst e;obtain⟨u,w',rfl,r1,r2⟩:=HN r;cases r1;cases r2;exact P2 I hH hφ (hxc c C hc) (hxc c C hc).ve q)
  hg hm Ei (Dt (ha A) (Dt (Qm (v:=.ty "ValueError") hg2 hm2 PyProof.Rows.Boot.«ValueError» rfl (by decide) (by decide)) EQ rfl) he) (by decide) (by decide) he rfl) λY H Q ⟨hA,U,g,q⟩=>⟨hA,U,g,AT.bind q λd v H1 _ s1 r1 p1=>by
   obtain⟨c,fs,rfl,p2⟩:=MS (by rfl) (by simp) p1
   obtain⟨b,C,φ,rfl,hc,hH,hφ⟩:=M6 r1;refine⟨b,C,φ,c,rfl,hc,hH,hφ,p2 _ H1 (Aw.refl H1) ?_⟩;exact congrArg V.bl (Dz _).symm⟩
theorem ZT(up:Af->Ac Af)(c:Af)(fs:Ac (Ag×D))(cs:Ac (Af×Ak)):((cs.map λq=>Ki.cls q.1).any λk=>kiD up k (.exc c fs))=cs.any λq=>(up c).contains q.1:=TN
def SD(Cs:Ac Ak):TA:=λ_ H Q=>Q (Cs.map V.ref) H
theorem bC{ts:Ac Am}{cs:Ac (Af×Ak)}(hxc:∀ c C,CL c=Aa C->XcOk X.K C)(hg:Gl X "isinstance")(hm:X.mg "isinstance" = Ae)(hts:PA X ts (SD (cs.map λq:Af×Ak=>q.2)))(hne:cs≠[])(hl:cs.length<=1000)(hkit:∀ q∈cs,J9 X.K CL up q.1 q.2)(ha:ST X CL W a fa)(he:Aq [a,.Tuple ts kk p2] X.env=(Ad,eval a X.env)::Aq [.Tuple ts kk p2] X.env):SE X CL W (.Call (.Name "isinstance" p) [a,.Tuple ts kk p2] [] pos) (λU=>(fa U).bind λx=>DL up (cs.map λq=>.cls q.1) x):=λA=>
 PE.weak (IS (r:=λxs H Q=>∃ a C φ c tp,xs=[.ref a,.ref tp]/\CL c=Aa C/\H a=Aa (.ext φ)/\(∀ h,φ h->∃ o,h.get? a=Aa o/\o.cls=.ref C)/\H tp=Aa (.tup ((cs.map λq:Af×Ak=>q.2).map V.ref))/\Q (.bl (cs.any λq=>(up c).contains q.1)) H) (λpI s Y H xs us Q I r ⟨b,C,φ,c,tp,e,hc,hH,hφ,ht,q⟩=>by
   subst e;obtain⟨u,w',rfl,r1,r2⟩:=HN r;cases r1;cases r2;exact Y_7 I hH hφ (hxc c C hc) ht (Qh hc cs hkit) q)
  hg hm Ei (Dt (ha A) (Dt (Rj hts) EQ rfl) he) (by decide) (by decide) he rfl) λY H Q ⟨hA,U,g,q⟩=>⟨hA,U,g,AT.bind q λd v H1 _ s1 r1 p1=>by
   have hk:(cs.map λq=>Ki.cls q.1).all Dk=Ab:=by simp[TM,Dk]
   obtain⟨c,fs,rfl,p2⟩:=MS hk (by simpa using hne) p1
   obtain⟨b,C,φ,rfl,hc,hH,hφ⟩:=M6 r1;refine⟨by rw[BO,BO,BV];omega,λt ht=>?_⟩
   have hbt:b≠t:=ER hH ht;refine⟨b,C,φ,c,t,rfl,hc,by rw[A6 hbt];exact hH,hφ,Di,p2 _ _ (Eb ht _) ?_⟩
   exact congrArg V.bl (ZT up c fs cs).symm⟩
end
theorem RA(q:DU K C v=Ab):∃ dd cd sl bm,K.lookup C=Aa ⟨.type "type",dd,.cls cd,sl⟩/\cd.mro=.ref C::bm:=by
 unfold DU at q;split at q
 .rename_i dd cd sl ho;split at q
  .rename_i C' bm k0 k1 k2 k3 n k5 hm hs;simp only[Al,AI,Bi]at q;obtain⟨rfl,_⟩:=q;exact⟨dd,cd,sl,bm,ho,hm⟩
  .cases q
 .cases q
theorem fH(q:DU K C v=Ab):FA K (.ref C)=Aa (.type "type"):=by
 obtain⟨dd,cd,sl,bm,h1,h2⟩:=RA q;show (K.lookup C).map _=_;rw[h1];rfl
noncomputable abbrev LQ:CXT:=λ_ _ _ _ _ _=>AV
structure HotOk (P:AF) (w:AS) (K:Fg) (mg:Ag->An Aj) (base:AA) (k:Af) (f:Ak) (fd:Bp) (ps:Ac Ag) (sp:Sp):Prop where
 len:∀ vs H Q E,sp vs H Q E->vs.length=ps.length
 run:∀(A:AQ)(ev:Ak)(outer:Ac BW)(s:Ao)(H:Hp)(args:Args)(us:Ac Aj)(vs:Ac V)(Q:VK)(E:XK),Room k A->Env0 P w K mg base (A.mark (Aa (.ref ev))) outer s H->Fx s fd args (ps.zip us)->AX vs us->sp vs H Q E ->
  EF (model P w) (A.mark (Aa (.ref ev))) (.call (.ref f) args) (CR LQ outer P w H s Q E) s
def spH(K:Fg)(CL:ClA)(n:Af)(fr:Ai)(F:Ac D->R D):Sp:=λvs H Q _=>∃(ds:Ac D)(A:Ak->Prop),vs.length=n/\AOk H A/\Reps K CL H A vs ds/\(match F ds with
  |.ok d=>∀ v H',Aw H H'->C9 K CL fr H A H' v d->Q v H'
  |.exn _=>AV
  | .bad=>AV)
section
variable{X:Cx}{CL:ClA}{ev:Ak}
theorem Yw{t:Am}{xs ys:Ac AC}{fc:Rho->R Ai}{fx fy:Rho->O}(hc:∀ pI Xw,Dl (model X.prog X.w) X.A X.env Xw->SB (Cx.pw X pI Xw) CL (λ_ _=>AV) t fc)(hnx:∀ U y,fc U≠.exn y)(hx:STB X CL xs fx)(hy:STB X CL ys fy):STB X CL [.If t xs ys pos] (λU=>O.of U (fc U) λb=>if b=Ab then fx U else fy U):=by
  intro Fz B pI s Y H D U Xw own I sx q hρ;dsimp only at q hρ;cases ec:fc U with
  |bad=>rw[ec]at q;exact q.elim
  |exn y=>exact absurd ec (hnx U y)
  |ok b=>
    rw[ec]at q hρ;have key:=hc pI Xw own (Ba B U Y) [] s Y H (λb' H'=>b'=b/\Aw H H') (JZ I Xw) ⟨sx.aok,U,sx.good,by rw[ec];exact λH' sm=>⟨rfl,sm⟩⟩
    refine Go (thn (wpAny_If (Q:=SP X pI D) (thn key λb' s1 ⟨H1,I1,e,sm⟩=>?_)) (λf s1 z=>by
      cases f with
      |next=>exact DF z
      |ret v=>exact z
      |brk=>exact z
      | cont=>exact z))
    subst e;have J:=IV I.ok I1;have up:∀{y:Ex},IB X CL pI Y H y Xw->IB X CL pI Y H1 y Xw:=λ{y} w s' H' e T cls dx a1 a2=>w s' H' e T cls dx a1 (sm.trans a2)
    have lift:∀{o:O},(match o with
       |.exn y U'=>U'=U->IB X CL pI Y H y Xw
       |o=>Bh X.K CL Fz B (λ_ _=>AV) o D)->(match o with
       |.exn y U'=>U'=U->IB X CL pI Y H1 y Xw
       | o=>Bh X.K CL Fz B (λ_ _=>AV) o D):=λ{o} z=>by
      cases o with
      |exn y U'=>exact λe=>up (z e)
      |next _=>exact z
      |ret _ _=>exact z
      |brk _=>exact z
      |cont _=>exact z
      |bad=>exact z
    cases b' with
    |true=>exact hx Fz B pI s1 Y H1 D U Xw own J (sx.grow sm) (lift q) hρ
    |false=>exact hy Fz B pI s1 Y H1 D U Xw own J (sx.grow sm) (lift q) hρ
end
section
variable{M:FL}{A:AQ}{E:Vq}{s:Ao}{env:BW}{nm q:Ag}{C N:Ak}{bs bm bmB:Ac Aj}{hdct:Ai}{sn:Ac Ag}{sub:Ac Aj}{ab:Ai}{col:An Ai}{dd:An Ak}{k0 k1 k2 k3 k5:An Aj}{B newId initId:Cr}
theorem Yi{x:Ff Aj}{Q:Flow->Ao->Prop}(hb:bm.contains (.type "BaseException")=Ab)(hh:A.handled=Ae)(h:Au M A x (λv s'=>∃ e t dx,v=.ref e/\s'.heap.get? C=Aa (Bw nm q C N bs bm hdct sn sub ab col dd k0 k1 k2 k3 k5 newId)/\s'.heap.get? e=Aa (E5 C dx t)/\E (.ref e) s') E s):Au M A (raiseStmt env (Aa x) Ae) Q E s:=by
 have hB:(BZ C::bm).contains (.type "BaseException")=Ab:=by rw[FN,hb,Hu]
 unfold raiseStmt;refine Ap (A2 h (λv s' z=>?_) λ_ _ z=>z)
 obtain⟨e,t,dx,rfl,gC,ge,hE⟩:=z;obtain⟨hp,g,d,tk,os⟩:=s';unfold E5 at ge
 repeat (first|(with_reducible refine BG ge ?_)|(with_reducible refine BG gC ?_)|(with_reducible refine D9 gC ?_;rw[hB])|wp_step)
 exact wpAny_raiseNew_none hh hE
end
section
variable{prog:AF}{w:AS}{A:AQ}{E:Vq}{h:AA}{g:A3 DI}{d:Gy}{t:Af}{os:F8}
variable{nm q:Ag}{C N fI:Ak}{bs bm bmB:Ac Aj}{hdct:Ai}{sn:Ac Ag}{sub:Ac Aj}{ab:Ai}{col:An Ai}{dd:An Ak}{k0 k1 k2 k3 k5:An Aj}{B newId initId:Cr}{mN:Ag->An Aj}{rest:Ac Aj}{oI:Cv}
theorem YQ{Q:Fin->Ao->Prop}(F:Gj B newId initId bmB)(T:CW h bmB bm)(gC:h.get? C=Aa (Bw nm q C N bs bm hdct sn sub ab col dd k0 k1 k2 k3 k5 newId))(hn:h.Ns N mN)(hi:mN "__init__" = Aa (.ref fI))(gI:h.get? fI=Aa oI)(cI:oI.cls=.type "function")(hl:rest.length<=sizeLine)(hq:∀ h' e,GU h h' e (.ref C) rest->Au (model prog w) A (call (.ref fI) (.ref e::rest)) (λr s'=>r=.none/\Q (.done (.ret (.ref e))) s') E ⟨h',g,d,t,os⟩):Au (model prog w) A (Builtin.«type.__call__» ⟨.ref C::rest,[]⟩) Q E ⟨h,g,d,t,os⟩:=by
 repeat (first|(with_reducible refine BG gC ?_)|(with_reducible refine wpAny_madeBy_exc gC ?_)|wp_step)
 refine codeAny_call_builtin_code (FO _ F.quiet) (wpAny_check_new_subT F T gC (codeAny_exc_new_subT F T gC ?_ hl));show Au _ _ _ _ _ _;have kp:∀ b o,h.get? b=Aa o->((h.push { cls:=.type "tuple",data:=.seq rest.toArray }).push {cls:=.ref C,data:=.fields #[.ref h.objs.size,.none,.none,.none,.bool Ad,.none]}).get? b=Aa o:=λb o z=>At _ (At _ z)
 have ge:((h.push { cls:=.type "tuple",data:=.seq rest.toArray }).push {cls:=.ref C,data:=.fields #[.ref h.objs.size,.none,.none,.none,.bool Ad,.none]}).get? (h.objs.size+1)=Aa {cls:=.ref C,data:=.fields #[.ref h.objs.size,.none,.none,.none,.bool Ad,.none]}:=by heap_get
 have gt:((h.push { cls:=.type "tuple",data:=.seq rest.toArray }).push {cls:=.ref C,data:=.fields #[.ref h.objs.size,.none,.none,.none,.bool Ad,.none]}).get? h.objs.size=Aa { cls:=.type "tuple",data:=.seq rest.toArray }:=At _ (U_9 rfl rfl);generalize (h.push { cls:=.type "tuple",data:=.seq rest.toArray }).push {cls:=.ref C,data:=.fields #[.ref h.objs.size,.none,.none,.none,.bool Ad,.none]}=h2 at *;have gC2:=kp _ _ gC;have gI2:=kp _ _ gI;have hn2:h2.Ns N mN:=let ⟨o,es,ep,z,r⟩:=hn;⟨o,es,ep,kp _ _ z,r⟩
 have T2:=T.keeps (h':=h2) kp;have cC:(BZ C::bm).contains (.ref C)=Ab:=by simp
 unfold G6
 repeat (first|(with_reducible refine BG ge ?_)|(with_reducible refine D9 gC2 ?_;rw[cC])|wp_step)
 show Au _ _ (typeLookup (.ref C) _) _ _ _;refine wpAny_typeLookup_tail gC2 hn2 T2 F.mroIs F.init.lookup ?_;rw[hi];refine D6 (Ap ?_);unfold bindSpecial;refine Ap (wpAny_typeOf (T := "function") ⟨_,gI2,cI⟩ ?_);rw[AE (by decide)]
 refine AU (Ap (A2 (hq h2 (h.objs.size+1) ⟨kp,CI (Ub _),h.objs.size,ge,CI (AK _),gt⟩) (λr s' z=>?_) λ_ _ z=>z))
 obtain⟨rfl,z⟩:=z
 wp_walk
 exact z
theorem PX{Q:Vq}(F:Gj B newId initId bmB)(T:CW h bmB bm)(gC:h.get? C=Aa (Bw nm q C N bs bm hdct sn sub ab col dd k0 k1 k2 k3 k5 newId))(hn:h.Ns N mN)(hi:mN "__init__" = Aa (.ref fI))(gI:h.get? fI=Aa oI)(cI:oI.cls=.type "function")(hl:rest.length<=sizeLine)(hq:∀ h' e,GU h h' e (.ref C) rest->Au (model prog w) (A.under (.builtin "type.__call__" ⟨.ref C::rest,[]⟩)) (call (.ref fI) (.ref e::rest)) (λr s'=>r=.none/\Q (.ref e) s') E ⟨h',g,d,t,os⟩):Au (model prog w) A (call (.ref C) rest) Q E ⟨h,g,d,t,os⟩:=by
 have l1:=tc_lookup;have l2:=tc_bind (.ref C);have ty:(⟨h,g,d,t,os⟩:Ao).TypeIs (.ref C) "type" := ⟨_,gC,rfl⟩;refine Fj (codeAny_of_tree ?_);show Au _ _ (callAny (.ref C) _) _ _ _
 repeat (any_goals (first|assumption|(with_reducible refine BG gC ?_)|wp_step))
 refine⟨rfl,codeAny_call_builtin_at (FO _ (by decide+kernel)) entry_typeCall (wpAny_check_type_call_sub gC (YQ F T gC hn hi gI cI hl λh' e m=>?_))⟩
 exact hq h' e m
end
section
variable{prog:AF}{w:AS}{A:AQ}{E:Vq}{s:Ao}{env:BW}
variable{nm q:Ag}{C N fI:Ak}{bs bm bmB:Ac Aj}{hdct:Ai}{sn:Ac Ag}{sub:Ac Aj}{ab:Ai}{col:An Ai}{dd:An Ak}{k0 k1 k2 k3 k5:An Aj}{B newId initId:Cr}{mN:Ag->An Aj}
theorem WZ{Q:Flow->Ao->Prop}{np cpos pos:Az}{args:Ac Am}(F:Gj B newId initId bmB)(hb:bm.contains (.type "BaseException")=Ab)(hh:A.handled=Ae)(hp:(Bq cpos (Aq args env)).any (·.1)=Ad)(hi:mN "__init__" = Aa (.ref fI))(h:Au (model prog w) A (eval (.Name x np) env) (λf s1=>f=.ref C/\Au (model prog w) A (evalArgs (.ref C) Ab (Bq cpos (Aq args env)) [])
   (λa s2=>a.kw=[]/\a.pos.length<=sizeLine/\s2.heap.get? C=Aa (Bw nm q C N bs bm hdct sn sub ab col dd k0 k1 k2 k3 k5 newId)/\s2.heap.Ns N mN/\CW s2.heap bmB bm/\(∃ oI,s2.heap.get? fI=Aa oI/\oI.cls=.type "function") /\
    ∀ h' e,GU s2.heap h' e (.ref C) a.pos->Au (model prog w) (A.under (.builtin "type.__call__" ⟨.ref C::a.pos,[]⟩)) (call (.ref fI) (.ref e::a.pos)) (λr s'=>r=.none/\∃ t dx,s'.heap.get? C=Aa (Bw nm q C N bs bm hdct sn sub ab col dd k0 k1 k2 k3 k5 newId)/\s'.heap.get? e=Aa (E5 C dx t)/\E (.ref e) s') E {s2 with heap:=h'}) E s1) E s):Au (model prog w) A (exec (.Raise (Aa (.Call (.Name x np) args [] cpos)) Ae pos) env) Q E s:=by
 rw[arm_exec_Raise]
 try simp only[evalOpt,Option.map]
 refine Ap (DB (Yi (nm:=nm) (q:=q) (C:=C) (N:=N) (bs:=bs) (bm:=bm) (hdct:=hdct) (sn:=sn) (sub:=sub) (ab:=ab) (col:=col) (dd:=dd) (k0:=k0) (k1:=k1) (k2:=k2) (k3:=k3) (k5:=k5) (newId:=newId) hb hh ?_));refine Ap (A2 (wpAny_Call_ofName (A2 h (λf s1 z=>?_) λ_ _ z=>z)) (λv s3 z=>Ap (DB (AU z))) λ_ _ z=>z)
 obtain⟨rfl,z⟩:=z;unfold callWith;refine Ap (D6 (A2 z (λa s2 y=>Ap (DB ?_)) λ_ _ y=>y))
 obtain⟨us,kw⟩:=a;obtain⟨hk,hl,gC,hn,T,⟨oI,gI,cI⟩,k⟩:=y;obtain rfl:kw=[]:=hk;obtain⟨hp2,g,d,tk,os⟩:=s2;simp only[hp];refine Ap (wpAny_keeperOf_exc gC (Ap (PX F T gC hn hi gI cI hl λh' e m=>A2 (k h' e m) (λr s' y=>?_) λ_ _ y=>y)))
 obtain⟨rfl,t,dx,c1,c2,c3⟩:=y;exact⟨rfl,Ap (D6 (wpAny_point (AU ⟨e,t,dx,rfl,c1,c2,c3⟩)))⟩
end
section
variable{prog:AF}{w:AS}{A:AQ}{E:Vq}{h:AA}{g:A3 DI}{d:Gy}{tk0:Af}{os:F8}
variable{nm q:Ag}{C N e t:Ak}{dx:An Ak}{bs bm bmB:Ac Aj}{hdct:Ai}{sn:Ac Ag}{sub:Ac Aj}{ab:Ai}{col:An Ai}{dd:An Ak}{k0 k1 k2 k3 k5:An Aj}{B newId initId:Cr}
theorem bK{Q:Vq}(F:Gj B newId initId bmB)(T:CW h bmB bm)(gC:h.get? C=Aa (Bw nm q C N bs bm hdct sn sub ab col dd k0 k1 k2 k3 k5 newId))(ge:h.get? e=Aa (E5 C dx t))(hq:∀ h' t',(∀ b o,b≠e->h.get? b=Aa o->h'.get? b=Aa o)->h'.get? e=Aa (E5 C dx t')->Q .none ⟨h',g,d,tk0,os⟩):Au (model prog w) A (call (.builtin initId) [.ref e,.str z tk]) Q E ⟨h,g,d,tk0,os⟩:=by
 refine Fj (Dh F.init.plain F.initEntry (wpAny_check_init_subT F T gC ge rfl ?_));unfold E5 at ge
 wp_walk
 refine hq _ h.objs.size (λb o nb z=>(Cp _ _ (CV nb)).trans (At _ z)) ?_
 rw[Cz _ (At _ ge) rfl];rfl
end
noncomputable def xbd:Af->Af
 |0=>4
 |n+1=>8*xbd n+19
theorem QQ:∀ n:Fin 100,(Ay (toString ((n.val:Af):Ah))).length<=4:=by decide+kernel
theorem RE{α:Type}(f:α->Af){m:Af}:∀ l:Ac α,(∀ x∈l,f x<=m)->(l.map f).sum<=l.length*m
 |[],_=>by simp
 |x::l,h=>by
  have h1:=h x AB;have h2:=RE f l λy hy=>h y (Ax _ hy)
  rw[Ce,List.sum_cons,A9,Nat.succ_mul];omega
section
variable{X:Cx}{CL:ClA}{pI:Pn}{Y:L2.St}{H:Hp}{s:Ao}
structure Shw (h:AA) (n:Af) (u:Aj) (pd:IH):Prop where
 rd:Reads h u pd []
 sh:pd.showable=Ab
 nd:pd.hasDict=Ad
 dp:pd.depth<=n
 ln:pd.shown.length<=xbd n
inductive ShwA (h:AA) (n:Af):Ac Aj->Ac IH->Prop where
 |nil:ShwA h n [] []
 |cons {u:Aj} {pd:IH} {us:Ac Aj} {pds:Ac IH}:Shw h n u pd->ShwA h n us pds->ShwA h n (u::us) (pd::pds)
theorem QC{h:AA}{n:Af}:∀{us:Ac Aj}{pds:Ac IH},ShwA h n us pds->ReadsAll h us pds []/\Vf pds=Ab/\Ve pds=Ad/\Gz pds<=n/\(∀ t∈CY pds,t.length<=xbd n)/\(CY pds).length=us.length
 |[],[],_=>⟨.nil,rfl,rfl,D7 _,(λ_ h=>nomatch h),rfl⟩
 |u::us,pd::pds,.cons h1 h2=>by
  obtain⟨a,b,c,d,e,f⟩:=QC h2;refine⟨.cons h1.rd a,?_,?_,?_,?_,?_⟩
  .show (pd.showable&&Vf pds)=Ab;rw[h1.sh,b];rfl
  .show (pd.hasDict||Ve pds)=Ad;rw[h1.nd,c];rfl
  .show max pd.depth (Gz pds)<=n;exact Nat.max_le.mpr ⟨h1.dp,d⟩
  .intro t ht;rcases AG.mp ht with rfl|ht
   .exact h1.ln
   .exact e t ht
  .show (CY pds).length+1=us.length+1;rw[f]
theorem fQ(I:Inv X pI Y H s):∀(n:Af){d:D}{v:V}{u:Aj},xfD n d=Ab->Rep X.K CL H A v d->Bm v u->∃ pd,Shw s.heap n u pd:=by
 intro n
 induction n with
 |zero=>
  intro d v u hx r rv;cases d with
  |int i=>
   have e:v=.int i:=r;subst e;obtain⟨t,rfl⟩:=rv;simp only[xfD,Al,AM]at hx;refine⟨.int i,.int i t,?_,rfl,AK _,?_⟩
   .show decide (i.natAbs.log2<1920)=Ab;refine mL (DD (Gg _) (by omega))
   .have:=QQ ⟨i.toNat,by omega⟩
    rw[show ((i.toNat:Af):Ah)=i by omega]at this
    exact this
  |_=>exact absurd (show Ad=Ab from hx) Av
 |succ n ih0=>
  intro d v u hx r rv;cases d with
  |tup ds=>
   obtain⟨a,xs,rfl,_,sq,rs⟩:=r;cases rv;obtain⟨its,vs,⟨o,ho,hc,m,hd⟩,hz⟩:=I.tuple sq;simp only[xfD,Al,Bz]at hx;have key:∀{xs:Ac V}{ds:Ac D}{its:Ac Aj},(∀ d∈ds,xfD n d=Ab)->Reps X.K CL H A xs ds->AX xs its->∃ pds,ShwA s.heap n its pds:=λ{xs}=>by
    induction xs with
    |nil=>
     intro ds its _ rs vs;cases vs;exact⟨[],.nil⟩
    |cons x xs ih=>
     intro ds its hd rs vs;cases ds with
     |nil=>exact rs.elim
     |cons d ds=>
      cases vs with
      |cons v1 v2=>
       obtain⟨pd,h1⟩:=ih0 (hd d AB) rs.1 v1;obtain⟨pds,h2⟩:=ih (λe he=>hd e (Ax _ he)) rs.2 v2
       exact⟨pd::pds,.cons h1 h2⟩
   obtain⟨pds,hf⟩:=key hx.2 rs vs;obtain⟨p1,p2,p3,p4,p5,p6⟩:=QC hf;have l8:its.length<=8:=by
    have h8:=Nat.ble_eq.mp hx.1;rw[<-vs.length,rs.length];exact h8
   refine⟨.tuple pds,.tuple ho hc hd (by simpa using p1),p2,p3,?_,?_⟩
   .show Gz pds+1<=n+1;omega
   .show (tupleText (CY pds)).length<=8*xbd n+19;have h1:=tupleText_len_le (CY pds);have h2:=RE (λt:Ag=>t.length) (CY pds) p5
    have h3:(CY pds).length*xbd n<=8*xbd n:=Nat.mul_le_mul_right _ (by omega)
    omega
  |_=>exact absurd (show Ad=Ab from hx) Av
end
section
variable{X:Cx}{CL:ClA}
def tFs(K:Fg)(CL:ClA)(i:Af):TE:=λY H Q=>∃ v d A n,Y[i]?=Aa (Aa v)/\Rep K CL H A v d/\xfD n d=Ab/\n<=2/\∀ t:Ag,Q (.str t) H
def tFm(K:Fg)(CL:ClA)(i:Af):TE:=λY H Q=>∃ v d A n,Y[i]?=Aa (Aa v)/\Rep K CL H A v d/\xfD n d=Ab/\n<=2/\∀ t:Ag,t.length<=500->Q (.str t) H
theorem Rk{e:Am}{i:Af}(hu:X.A.units+64<By)(hg:X.A.guards=Aa [])(he:PE X e (DZ i)):PE X (.FormattedValue e (-1) Ae p1) (tFm X.K CL i):=by
 intro pI s Y H Q I ⟨v,d,A,n,hv,r,hx,hn,q⟩;refine wpAny_FormattedValue_plain (thn (he pI s Y H (λx H1=>x=v/\H1=H) I ⟨v,hv,rfl,rfl⟩) λu s1 ⟨x,H1,I1,r1,e1,e2⟩=>?_)
 subst e1 e2;have zl:sizeLine ≥ 2000:=by decide
 obtain⟨pd,sw⟩:=fQ I1 n hx r r1;have hn':n=0\/n=1\/n=2:=by omega
 have xb:xbd n<=500:=by rcases hn' with rfl|rfl|rfl<;>decide
 have ln:=sw.ln;have dp:=sw.dp;cases d with
 |int j=>
  have e:x=.int j:=r;subst e;obtain⟨t,rfl⟩:=r1;cases n with
  |zero=>
   have hx':(decide (0<=j)&&decide (j<100))=Ab:=hx;rw[Al,AM,AM]at hx';have il:=QQ ⟨j.toNat,by omega⟩
   rw[show ((j.toNat:Af):Ah)=j by omega]at il
   exact formatField_int_small (DD (Gg _) (by omega)) ⟨.str _,H1,I1.tok _,⟨_,rfl⟩,q _ (BD il (by omega))⟩
  |succ n=>cases hx
 |tup ds=>
  obtain⟨a,xs,rfl,_,sq,rs⟩:=r;cases r1;refine formatField_of_reads sw.rd sw.sh (λz=>by rw[sw.nd]at z;cases z) hg (by omega) (λ_ _ z=>z) (λh' tk1 tk2 kp=>?_) (by omega)
  exact⟨.str pd.shown,H1,I1.kept kp,⟨_,rfl⟩,q _ (by omega)⟩
 |_=>cases n<;>cases hx
theorem ZB{e:Am}{i:Af}(hu:X.A.units+64<By)(hg:X.A.guards=Aa [])(hz:z.length<=1000)(he:PE X e (DZ i)):PE X (.JoinedStr [.FormattedValue e (-1) Ae p1,.Constant (.str z) k p2] p3) (tFs X.K CL i):=by
 intro pI s Y H Q I ⟨v,d,A,n,hv,r,hx,hn,q⟩;have zl:sizeLine ≥ 2000:=by decide
 refine VU ?_;show Au (model X.prog X.w) X.A (eval (.FormattedValue e (-1) Ae p1) X.env) (λv s1=>∃ y t,v=.str y t/\(CK++y).length<=sizeLine/\Joins (model X.prog X.w) X.A X.xe [eval (.Constant (.str z) k p2) X.env] (CK++y) _ s1) X.xe s
 refine thn (Rk (CL:=CL) hu hg he pI s Y H (λx H1=>∃ y:Ag,x=.str y/\y.length<=500/\H1=H) I ⟨v,d,A,n,hv,r,hx,hn,λt ht=>⟨t,rfl,ht,rfl⟩⟩) λu s1 ⟨x,H1,I1,r1,y,e1,hy,e2⟩=>?_
 subst e1 e2;obtain⟨t1,rfl⟩:=r1;have l0:(CK++y).length<=500:=by
  rw[E2];have:CK.length=0:=rfl;omega
 refine⟨y,t1,rfl,by omega,?_⟩
 show Au (model X.prog X.w) X.A (eval (.Constant (.str z) k p2) X.env) _ X.xe s1;refine thn (Lc (X:=X) pI _ Y H1 (λx H2=>x=.str z/\H2=H1) I1 ⟨rfl,rfl⟩) λu2 s2 ⟨x2,H2,I3,r3,e3,e4⟩=>?_
 subst e3 e4;obtain⟨t3,rfl⟩:=r3;have l1:(CK++y++z).length<=sizeLine:=by
  rw[E2];omega
 exact⟨z,t3,rfl,l1,l1,⟨.str _,H2,I3.tok _,⟨_,rfl⟩,q _⟩⟩
theorem XY{e:Am}{i:Af}{z':Ag}{k':Af}{p0:Az}(hu:X.A.units+64<By)(hg:X.A.guards=Aa [])(hz':z'.length<=400)(hz:z.length<=1000)(he:PE X e (DZ i)):PE X (.JoinedStr [.Constant (.str z') k' p0,.FormattedValue e (-1) Ae p1,.Constant (.str z) k p2] p3) (tFs X.K CL i):=by
 intro pI s Y H Q I ⟨v,d,A,n,hv,r,hx,hn,q⟩;have zl:sizeLine ≥ 2000:=by decide
 refine VU ?_;show Au (model X.prog X.w) X.A (eval (.Constant (.str z') k' p0) X.env) (λv s1=>∃ y t,v=.str y t/\(CK++y).length<=sizeLine/\Joins (model X.prog X.w) X.A X.xe [eval (.FormattedValue e (-1) Ae p1) X.env,eval (.Constant (.str z) k p2) X.env] (CK++y) _ s1) X.xe s
 refine thn (Lc (X:=X) pI _ Y H (λx H2=>x=.str z'/\H2=H) I ⟨rfl,rfl⟩) λu0 s0 ⟨x0,H0,I0,r0,e0,e00⟩=>?_
 subst e0 e00;obtain⟨t0,rfl⟩:=r0;have le:(CK++z').length<=400:=by
  rw[E2];have:CK.length=0:=rfl;omega
 refine⟨z',t0,rfl,by omega,?_⟩
 show Au (model X.prog X.w) X.A (eval (.FormattedValue e (-1) Ae p1) X.env) _ X.xe s0;refine thn (Rk (CL:=CL) hu hg he pI s0 Y H0 (λx H1=>∃ y:Ag,x=.str y/\y.length<=500/\H1=H0) I0 ⟨v,d,A,n,hv,r,hx,hn,λt ht=>⟨t,rfl,ht,rfl⟩⟩) λu s1 ⟨x,H1,I1,r1,y,e1,hy,e2⟩=>?_
 subst e1 e2;obtain⟨t1,rfl⟩:=r1;have l0:(CK++z'++y).length<=900:=by
  rw[E2];omega
 refine⟨y,t1,rfl,by omega,?_⟩
 show Au (model X.prog X.w) X.A (eval (.Constant (.str z) k p2) X.env) _ X.xe s1;refine thn (Lc (X:=X) pI _ Y H1 (λx H2=>x=.str z/\H2=H1) I1 ⟨rfl,rfl⟩) λu2 s2 ⟨x2,H2,I3,r3,e3,e4⟩=>?_
 subst e3 e4;obtain⟨t3,rfl⟩:=r3;have l1:(CK++z'++y++z).length<=sizeLine:=by
  rw[E2];omega
 exact⟨z,t3,rfl,l1,l1,⟨.str _,H2,I3.tok _,⟨_,rfl⟩,q _⟩⟩
structure FsOk (par:Ag) (j:Am):Prop where
 st:∀ env,Aq [j] env=[(Ad,eval j env)]
 pe:∀(X:Cx)(CL:ClA)(i:Af),X.A.units+64<By->X.A.guards=Aa []->(∀ p,PE X (.Name par p) (DZ i))->PE X j (tFs X.K CL i)
theorem fE{p4:Az}(hz:z.length<=1000):FsOk par (.JoinedStr [.FormattedValue (.Name par p1) (-1) Ae p2,.Constant (.str z) k p3] p4):=⟨λ_=>rfl,λ_ _ _ hu hg he=>ZB hu hg hz (he _)⟩
theorem Xd{z':Ag}{k':Af}{p0 p4:Az}(hz':z'.length<=400)(hz:z.length<=1000):FsOk par (.JoinedStr [.Constant (.str z') k' p0,.FormattedValue (.Name par p1) (-1) Ae p2,.Constant (.str z) k p3] p4):=⟨λ_=>rfl,λ_ _ _ hu hg he=>XY hu hg hz' hz (he _)⟩
end
def XEx(e C:Ak)(dx:An Ak)(t:Ak):AA->Prop:=λh=>h.get? e=Aa (E5 C dx t)
theorem K5{e C:Ak}{t:Ak}:∀ h1 h2:AA,XEx e C dx t h1->(∀ o,h1.get? e=Aa o->h2.get? e=Aa o)->XEx e C dx t h2:=λ_ _ p k=>k _ p
section
variable{X:Cx}{CL:ClA}{C:Ak}{nm q:Ag}{N:Ak}{bs bm:Ac Aj}{hdct:Ai}{sn:Ac Ag}{sub:Ac Aj}{ab:Ai}{col:An Ai}{dd:An Ak}{k0 k1 k2 k3 k5:An Aj}
theorem XX{np apos cpos:Az}{es ej:Am}{i j:Af}(hob:∀ h:AA,X.K.In h->h.get? C=Aa (Bw nm q C N bs bm hdct sn sub ab col dd k0 k1 k2 k3 k5 "ValueError.__new__")/\CW h veB bm)(hg:Gl X g)(hm:X.mg g=Aa (.ref OV))(hdb:(g==("__debug__" : Ag))=Ad)(s1:BF X.K (.ref OV) "__getattribute__" = Aa (Aa (.builtin "type.__getattribute__")))(s2:El X.K OV (.type "type")=Ab)(s3:Ek X.K (.ref OV) (.type "type") "__init__" = Aa (.val (.builtin "ValueError.__init__")))(hline:(apos.endLine==cpos.line)=Ab)(he:PE X es (DZ i))(hj:PE X ej (tFs X.K CL j))(sA:Aq [es,ej] X.env=(Ad,eval es X.env)::Aq [ej] X.env)(sB:Aq [ej] X.env=[(Ad,eval ej X.env)]):
  PE X (.Call (.Attribute (.Name g np) "__init__" apos) [es,ej] [] cpos) (λY H Q=>∃ e dx t v d A n,Y[i]?=Aa (Aa (.ref e))/\H e=Aa (.ext (XEx e C dx t))/\Y[j]?=Aa (Aa v)/\Rep X.K CL H A v d/\xfD n d=Ab/\n<=2/\∀ t',Q .non (upd H e (.ext (XEx e C dx t')))):=by
 have st1:Aq [es,ej] X.env=[(Ad,eval es X.env),(Ad,eval ej X.env)]:=by rw[sA,sB]
 intro pI s Y H Q I ⟨e,dx,t,v,d,A,n,h1,h2,h3,r,hx,hn,hq⟩;rw[arm_eval_Call];refine Ap (show Au (model X.prog X.w) X.A (eval (.Name g np) X.env) _ X.xe s from GH I hg hm ?_ hdb)
 refine Ap (DB ?_);have form:VQ ([es,ej].length+([]:Ac DO).length) (Bq cpos (Aq [es,ej] X.env)) (G2 cpos (FM [] X.env))=Ab:=by
  rw[st1];rfl
 have mpos:FV Ab (.Name g np) X.env apos cpos=pure cpos:=by
  unfold FV;simp[hline]
 unfold methodCall;rw[form];refine Ap (D6 (PySem.W.method_cls I.kIn s1 (PySem.W.cls_value I.kIn s2 s3 rfl ?_)));refine Ap (GD mpos ?_);have I1:=I.tok (s.toks+1);have pa:PA X [es,ej] _:=Dt he (Dt hj EQ sB) sA;have hA:=pa cpos pI {s with toks:=s.toks+1} Y H (λxs H'=>H'=H/\∃ z,xs=[.ref e,.str z]) I1 ⟨_,h1,⟨v,d,A,n,h3,r,hx,hn,λz=>⟨rfl,z,rfl⟩⟩⟩
 rw[st1]at hA ⊢;refine Uv rfl (DY (thn hA λus s2 ⟨xs,H2,I2,rv,e2,z,ex⟩=>?_))
 subst e2 ex;obtain⟨u1,u2,rfl,ru1,ru2⟩:=HN rv;cases ru1;obtain⟨tk,rfl⟩:=ru2;obtain⟨gC,T⟩:=hob _ I2.kIn;have ge:XEx e C dx t s2.heap:=(I2.hok e _ h2).1;obtain⟨hp,g2,d2,tk2,os2⟩:=s2;refine bK Cu T gC ge λh' t' kp ge'=>?_
 refine⟨.non,_,I2.write (x:=e) (e:=e) (o:=.ext (XEx e C dx t')) (t':=tk2) (by rw[h2];exact trivial) (.inl rfl) kp ⟨_,ge'⟩ ⟨ge',⟨_,ge'⟩,K5⟩,rfl,hq t'⟩
end
theorem Wb{bmB bm:Ac Aj}(T:CW h bmB bm){self:Aj}{what:Ag}(hb:refuseLoop self what bmB=pure ()):refuseLoop self what bm=pure ():=by
 induction T with
 |base=>exact hb
 |own _ _ _ _ ih=>rw[VS];exact ih
section
variable{prog:AF}{w:AS}{A:AQ}{E:Vq}{h:AA}{g:A3 DI}{d:Gy}{tk0:Af}{os:F8}{K:Fg}
variable{nm q:Ag}{C N e t:Ak}{bs bm bmB:Ac Aj}{sn:Ac Ag}{sub:Ac Aj}{ab:Ai}{col:An Ai}{dd:An Ak}{k0 k1 k2 k3 k5:An Aj}{B newId sa owner:Cr}
theorem YS{Q:Fin->Ao->Prop}{v:Aj}(X:K.In h)(SF:IJ B bmB sa owner)(T:CW h bmB bm)(gC:h.get? C=Aa (Bw nm q C N bs bm Ab sn sub ab col dd k0 k1 k2 k3 k5 newId))(hf:Ar K (.ref C) name=Aa Ae)(ge:h.get? e=Aa (E5 C Ae t))(hq:∀ h' dx tk',(∀ b o,b≠e->h.get? b=Aa o->h'.get? b=Aa o)->h'.get? e=Aa (E5 C (Aa dx) t)->h.get? dx=Ae->h'.Ns1 dx (λy=>if y=name then Aa v else Ae)->Q (.done (.ret .none)) ⟨h',g,d,tk',os⟩):Au (model prog w) A (Builtin.«object.__setattr__» ⟨[.ref e,.str name tk,v],[]⟩) Q E ⟨h,g,d,tk0,os⟩:=by
  have pass:=Wb T (SF.passes (.ref e));have L1:=B2 (M:=model prog w) X hf;obtain⟨o,ho⟩:∃ o,E5 C Ae t=o:=⟨_,rfl⟩;rw[ho]at ge;have oc:o.cls=.ref C:=by rw[<-ho];rfl
  unfold Builtin.«object.__setattr__»
  repeat (first|rw[refuse_eq]|(rw[VS,pass])|(with_reducible refine BG ge ?_;rw[oc])|(with_reducible refine wpAny_mroOf_exc gC ?_)|(with_reducible refine L1.at ?_)|(with_reducible refine Ap (L1.at ?_))|wp_step)
  have od:o.dict=Ae:=by rw[<-ho];rfl
  have odt:o.data=.fields #[.ref t,.none,.none,.none,.bool Ad,.none]:=by rw[<-ho];rfl
  rw[od,odt,AO (by simp[typeHasDict])]
  let D:Cv:={ cls:=.type "dict",data:=.dict #[] }
  have g1:(h.push D).get? e=Aa o:=At _ ge;have ne:e≠h.objs.size:=Be (AD ge);refine Ap (wpAny_alloc' ?_);refine Ap (wpAny_update' g1 ?_);refine AU ?_
  let U_:Cv->Cv:=λo=>{cls:=o.cls,dict:=Aa h.objs.size,data:=o.data,slots:=o.slots}
  have gD:((h.push D).update e U_).get? h.objs.size=Aa D:=(Va _ _ _ _ ne.symm).trans (U_9 rfl rfl);have nD:((h.push D).update e U_).Ns h.objs.size (λ_=>Ae):=⟨_,#[],_,gD,rfl,λz hz=>absurd hz (by simp),λ_=>rfl⟩
  change Au _ _ (Uq h.objs.size (.str name tk) name v) _ _ _;unfold Uq Builtin.ObjectAttr.newKeyGuard;refine Ap (AU (Ap (wpAny_nsSet1 (Heap.Ns1.of_empty nD) λk hk hs=>?_)))
  obtain⟨oD,eD,pD,q1,q2,q3⟩:=hk.count (Within.cons name v Within.nil);have le:oD.data.pastItsLine=Ae:=by
    rw[q2];refine pastItsLine_dict (BD q3 ?_);rw[A9,List.length_nil,BV];omega
  refine Ap (wpAny_lookBehind q1 le ?_)
  wp_walk
  refine hq k h.objs.size _ (λb ob nb hb=>?_) ?_ (CI (AK _)) hk
  · rw[hs.2 b (Be (AD hb)),Va _ _ _ _ nb];exact At _ hb
  · rw[hs.2 e ne];have:Aa (E5 C (Aa h.objs.size) t)=Aa (U_ o):=by rw[<-ho];rfl
    rw[this];exact Cz _ g1 (by rw[<-ho];rfl)
end
section
variable{prog:AF}{w:AS}{A:AQ}{E:Vq}{h:AA}{g:A3 DI}{d:Gy}{tk0:Af}{os:F8}{K:Fg}
variable{nm q:Ag}{C N e t:Ak}{bs bm bmB:Ac Aj}{sn:Ac Ag}{sub:Ac Aj}{ab:Ai}{col:An Ai}{dd:An Ak}{k0 k1 k2 k3 k5:An Aj}{B newId sa owner:Cr}
theorem YT{o:Cv}{a b:Aj}(SF:IJ B bmB sa owner)(T:CW h bmB bm)(gC:h.get? C=Aa (Bw nm q C N bs bm Ab sn sub ab col dd k0 k1 k2 k3 k5 newId))(ge:h.get? e=Aa o)(hc:o.cls=.ref C)(hq:Q () ⟨h,g,d,tk0,os⟩):Au M A (E3 sa ⟨[.ref e,a,b],[]⟩) Q E ⟨h,g,d,tk0,os⟩:=by
 have hb:(BZ C::bm).contains (.type owner)=Ab:=by rw[FN,T.hasType SF.hasOwner,Hu]
 have ha:=SF.args (.ref e) a b;simp only[E3,SF.kind,SF.split];refine Ap ?_;unfold G6
 repeat (first|(with_reducible refine BG ge ?_;rw[hc])|(with_reducible refine D9 gC ?_;rw[hb])|wp_step)
 unfold argsOk at ha;split
 .rename_i sig hs;rw[hs]at ha;refine GD ha ?_;exact hq
 .exact AU hq
theorem ZQ{v:Aj}(X:K.In h)(SF:IJ B bmB sa owner)(T:CW h bmB bm)(gC:h.get? C=Aa (Bw nm q C N bs bm Ab sn sub ab col dd k0 k1 k2 k3 k5 newId))(hf:Ar K (.ref C) name=Aa Ae)(hs:Ar K (.ref C) "__setattr__" = Aa (Aa (.builtin sa)))(ge:h.get? e=Aa (E5 C Ae t))(hq:∀ h' dx tk',(∀ b o,b≠e->h.get? b=Aa o->h'.get? b=Aa o)->h'.get? e=Aa (E5 C (Aa dx) t)->h.get? dx=Ae->h'.Ns1 dx (λy=>if y=name then Aa v else Ae)->Q () ⟨h',g,d,tk',os⟩):Au (model prog w) A (setAttr (.ref e) name v) Q E ⟨h,g,d,tk0,os⟩:=by
 have f3:=SF.slot.bind (.ref e);have L1:=B2 (M:=model prog w) X hs;obtain⟨o,ho⟩:∃ o,E5 C Ae t=o:=⟨_,rfl⟩;have oc:o.cls=.ref C:=by rw[<-ho];rfl
 have ge':=ge;rw[ho]at ge';unfold setAttr HA specialOf
 repeat (any_goals (first|assumption|(with_reducible refine BG ge' ?_;rw[oc])|(with_reducible refine Ap (L1.at ?_))|(with_reducible refine L1.at ?_)|wp_step))
 refine Dh SF.slot.plain SF.entry (YT SF T gC ge' oc (YS X SF T gC hf ge λh' dx tk' k1 k2 k3 k4=>?_))
 repeat (any_goals (first|assumption|wp_step))
 exact hq h' dx tk' k1 k2 k3 k4
end
section
variable{X:Cx}{pI:Pn}{Y:L2.St}{H:Hp}{s:Ao}{e:Ak}
theorem Nd{o:HO}(I:Inv X pI Y H s)(ha:E7 X pI e)(hH:H e=Ae)(ho:ObjOk X.prog X.w (upd H e o) s.heap e o):Inv X pI Y (upd H e o) s:=by
 have ne:∀ b o,H b=Aa o->b≠e:=λb o q z=>by rw[z,hH]at q;cases q
 refine⟨I.ok,I.os,I.bare,⟨I.base.keep,I.base.slot,λb o q n hb=>?_,I.base.there,λb xs q=>?_,λb o u q=>?_,λb ps q=>?_⟩,I.loc,I.cell,?_,λx c q=>?_,λp hp=>?_,λb o q=>?_,I.len⟩
 .rw[A6 λz=>by rw[z,ha.2.2.2]at q;cases q]
  exact I.base.free b o q n hb
 .have:=I.base.tups b xs q;rw[A6 (ne _ _ this)];exact this
 .have:=I.base.frzs b o u q;rw[A6 (ne _ _ this)];exact this
 .obtain⟨more,this⟩:=I.base.tbls b ps q;exact⟨more,by rw[A6 (ne _ _ this)];exact this⟩
 .rw[A6 λz=>ha.1 z.symm];exact I.free
 .rw[A6 (ha.2.1 x c q)];exact I.freeC x c q
 .obtain⟨q,n,r⟩:=I.pin p hp;exact⟨q,by rw[A6 (ha.2.2.1 p hp)];exact n,r⟩
 .by_cases hb:b=e
  .subst hb;rw[Di]at q;cases q;exact ho
  .rw[A6 hb]at q;exact(I.hok b o q).stay (λc v hc z=>z) (λc z=>by rw[A6 (ne _ _ z)];exact z) λc zs z=>by rw[A6 (ne _ _ z)];exact z
theorem Xz(I:Inv X pI Y H s)(hH:H e=Aa (.ext φ))(h0:X.s₀.heap.get? e=Ae)(h1:X.ex=[]->Gp):Inv X pI Y (λb=>if b=e then Ae else H b) s:=by
 have get:∀ b o,(if b=e then Ae else H b)=Aa o->b≠e/\H b=Aa o:=λb o q=>by
  by_cases z:b=e
  .rw[AE z]at q;cases q
  .rw[AO z]at q;exact⟨z,q⟩
 have put:∀ b o,H b=Aa o->o≠.ext φ->(if b=e then Ae else H b)=Aa o:=λb o q n=>by
  by_cases z:b=e
  .rw[z,hH]at q;cases q;exact absurd rfl n
  .rw[AO z];exact q
 have non:∀ b,H b=Ae->(if b=e then Ae else H b)=Ae:=λb q=>by
  by_cases z:b=e
  .rw[AE z]
  .rw[AO z];exact q
 refine⟨I.ok,I.os,I.bare,⟨λb o q n hb hx=>?_,I.base.slot,λb o q n hb=>?_,I.base.there,λb xs q=>?_,λb o u q=>?_,λb ps q=>?_⟩,I.loc,I.cell,non _ I.free,λx c q=>non _ (I.freeC x c q),λp hp=>?_,λb o q=>?_,I.len⟩
 .exact I.base.keep b o q n hb hx
 .exact non b (I.base.free b o q n hb)
 .exact put b _ (I.base.tups b xs q) (by intro z;cases z)
 .exact put b _ (I.base.frzs b o u q) (by intro z;cases z)
 .obtain⟨more,this⟩:=I.base.tbls b ps q;exact⟨more,put b _ this (by intro z;cases z)⟩
 .obtain⟨q,n,r⟩:=I.pin p hp;exact⟨q,non _ n,r⟩
 .obtain⟨nb,q⟩:=get b o q;exact(I.hok b o q).stay (λc v hc z=>z) (λc z=>put c _ z (by intro z;cases z)) λc zs z=>put c _ z (by intro z;cases z)
end
section
variable{X:Cx}{C:Ak}{nm q:Ag}{N:Ak}{bs bm:Ac Aj}{sn:Ac Ag}{sub:Ac Aj}{ab:Ai}{col:An Ai}{dd:An Ak}{k0 k1 k2 k3 k5:An Aj}
theorem Zw{i j:Af}{f:Ag}{eo:Am}{p8 p10:Az}(hob:∀ h:AA,X.K.In h->h.get? C=Aa (Bw nm q C N bs bm Ab sn sub ab col dd k0 k1 k2 k3 k5 "ValueError.__new__")/\CW h veB bm)(hx:X.ex=[])(hf:Ar X.K (.ref C) f=Aa Ae)(hs:Ar X.K (.ref C) "__setattr__" = Aa (Aa (.builtin "object.__setattr__")))(he:PE X eo (DZ i))(hv:PE X ev (DZ j))(sw:CB ev (Aa (.Attribute eo f p8)) p10.line X.env=pure Ad):PS X (.Assign [.Attribute eo f p8] ev p10) (λD Y H=>∃ e t v,Y[i]?=Aa (Aa (.ref e))/\H e=Aa (.ext (XEx e C Ae t))/\Y[j]?=Aa (Aa v)/\∀ dx,H dx=Ae->dx≠e->D.nx Y (upd (upd H e (.ext (XEx e C (Aa dx) t))) dx (.xd [(f,v)]))):=by
 intro pI s Y H D I ⟨e,t,v,h1,h2,h3,hq⟩;refine plainObj_wpAny_Assign_Attribute (thn (hv pI s Y H (λx H1=>x=v/\H1=H) I ⟨v,h3,rfl,rfl⟩) λu s1 ⟨x,H1,I1,r1,e1,e2⟩=>?_) sw
 subst e1 e2;refine thn (he pI s1 Y H1 (λx H2=>x=.ref e/\H2=H1) I1 ⟨_,h1,rfl,rfl⟩) λu2 s2 ⟨x2,H2,I2,r2,e3,e4⟩=>?_
 subst e3 e4;cases r2;obtain⟨gC,T⟩:=hob _ I2.kIn;have ge:XEx e C Ae t s2.heap:=(I2.hok e _ h2).1;obtain⟨hp,g2,d2,tk2,os2⟩:=s2;refine ZQ I2.kIn PySem.F.store_ValueError T gC hf hs ge λh' dx tk' kp ge' nd ns=>?_
 have nH:H2 dx=Ae:=HH I2.hok nd;have nde:dx≠e:=λz=>by rw[z,h2]at nH;cases nH
 have ap:E7 X pI dx:=Iq I2 hx nd;have I3:=I2.write (x:=e) (e:=e) (o:=.ext (XEx e C (Aa dx) t)) (t':=tk') (by rw[h2];exact trivial) (.inl rfl) kp ⟨_,ge'⟩ ⟨ge',⟨_,ge'⟩,K5⟩
 have I4:=Nd (o:=.xd [(f,x)]) I3 ap (by rw[A6 nde];exact nH) ⟨_,ns,λy=>by
  by_cases z:y=f
  .subst z;rw[AE rfl];simp only[CP,D1];exact r1
  .rw[AO z];have:(y==f)=Ad:=by simp[z]
   simp only[CP,this]
   trivial⟩
 exact⟨Y,_,I4,hq dx nH nde⟩
end
noncomputable def Fo(K:Fg)(C:Ak):Ai:=match K.lookup C with
  |some ⟨_,_,.cls c,_⟩=>c.hasDict
  |_=>Ad
noncomputable def Op(g par f:Ag)(j:Am)(np apos p1 cpos p6 p7 p8 p9 p10:Az):Ac AC:=
 [.Expr (.Call (.Attribute (.Name g np) "__init__" apos) [.Name "self" p1,j] [] cpos) p6,.Assign [.Attribute (.Name "self" p7) f p8] (.Name par p9) p10]
inductive XIn (K:Fg) (mg:Ag->An Aj) (C:Ak) (f:Ag):Prop
 |mk {fI OV:Ak} {x qual g par:Ag} {j:Am} {st:AC} {fd:Bp} {np apos p1 cpos p6 p7 p8 p9 p10:Az} (xc:DU K C (Aa (.ref fI))=Ab) (dc:Fo K C=Ab) (fn:Fun K x qual st fI fd) (ty:FA K (.ref fI)=Aa (.type "function"))
  (S:FnScope ["self",par] ["self",par] (Bt st)) (l1:(Bt st).names.lookup ("self" : Ag)=Aa .local) (l2:(Bt st).names.lookup par=Aa .local) (bd:Ed K fd ["self",par] []) (body:DS st=Op g par f j np apos p1 cpos p6 p7 p8 p9 p10)
  (gl:(Bt st).names.lookup g=Aa .globalImplicit) (mo:mg g=Aa (.ref OV)) (dg:(g==("__debug__" : Ag))=Ad) (dp:(par==("__debug__" : Ag))=Ad) (dq:(par==("__classdict__" : Ag))=Ad)
  (s1:BF K (.ref OV) "__getattribute__" = Aa (Aa (.builtin "type.__getattribute__"))) (s2:El K OV (.type "type")=Ab) (s3:Ek K (.ref OV) (.type "type") "__init__" = Aa (.val (.builtin "ValueError.__init__")))
  (hl:(apos.endLine==cpos.line)=Ab) (hz:FsOk par j) (hf:Ar K (.ref C) f=Aa Ae) (hs:Ar K (.ref C) "__setattr__" = Aa (Aa (.builtin "object.__setattr__"))):XIn K mg C f
section
variable{P:AF}{w:AS}{K:Fg}{mg:Ag->An Aj}{base:AA}{CL:ClA}{C fI OV:Ak}{x qual g par f:Ag}{j:Am}{st:AC}{fd:Bp}{np apos p1 cpos p6 p7 p8 p9 p10:Az}
variable{nm q:Ag}{N:Ak}{bs bm:Ac Aj}{sn:Ac Ag}{sub:Ac Aj}{ab:Ai}{col:An Ai}{dd:An Ak}{k0 k1 k2 k3 k5:An Aj}
theorem QR(hob:∀ h:AA,K.In h->h.get? C=Aa (Bw nm q C N bs bm Ab sn sub ab col dd k0 k1 k2 k3 k5 "ValueError.__new__")/\CW h veB bm)(fn:Fun K x qual st fI fd)(S:FnScope ["self",par] ["self",par] (Bt st))(l1:(Bt st).names.lookup ("self" : Ag)=Aa .local)(l2:(Bt st).names.lookup par=Aa .local)(bd:Ed K fd ["self",par] [])(body:DS st=Op g par f j np apos p1 cpos p6 p7 p8 p9 p10)(gl:(Bt st).names.lookup g=Aa .globalImplicit)(mo:mg g=Aa (.ref OV))(dg:(g==("__debug__" : Ag))=Ad)(dp:(par==("__debug__" : Ag))=Ad)(dq:(par==("__classdict__" : Ag))=Ad)(s1:BF K (.ref OV) "__getattribute__" = Aa (Aa (.builtin "type.__getattribute__")))(s2:El K OV (.type "type")=Ab)(s3:Ek K (.ref OV) (.type "type") "__init__" = Aa (.val (.builtin "ValueError.__init__")))(hl:(apos.endLine==cpos.line)=Ab)(hz:FsOk par j)(hf:Ar K (.ref C) f=Aa Ae)(hs:Ar K (.ref C) "__setattr__" = Aa (Aa (.builtin "object.__setattr__"))){A:AQ}{outer:Ac BW}{s:Ao}{E:XK}{e t:Ak}{v:V}{u:Aj}{n:Af}(hh:A.handled=Ae)(hdp:A.depth<G0)(hun:A.units+70<By)(hgd:A.guards=Aa [])(e0:Env0 P w K mg base A outer s H)(he:H e=Aa (.ext (XEx e C Ae t)))(rp:Rep K CL H B v d)(hx:xfD n d=Ab)(hn:n<=2)(r:Bm v u):EF (model P w) A (.call (.ref fI) ⟨[.ref e,u],[]⟩) (CR LQ outer P w H s (λy H'=>y=.non/\∃ t' dx,H dx=Ae/\dx≠e/\H'=upd (upd H e (.ext (XEx e C (Aa dx) t'))) dx (.xd [(f,v)])) E) s:=by
 obtain⟨oc,od,kV,doc,pm,an,cdv,ct,osl,rfl,lk,hcd⟩:=fn.ex;have KX:K.In s.heap:=e0.mod.kin.keeps λb o e=>(e0.bs b o e).1
 have lim:s.heap.NoLimit:=e0.mod.nolimit.keeps λb o e=>(e0.bs b o e).1
 have hkind:∀ y∈(["self",par]:Ac Ag).zip [BZ e,u],(Bt st).names.lookup y.1=Aa .local\/((Bt st).names.lookup y.1=Aa .cell/\((Ck (s.heap.objs.size+1) (Bt st).names []).lookup y.1).isSome=Ab):=λy hy=>by
  refine .inl ?_;rcases AG.mp hy with rfl|hy
  .exact l1
  .rw[Bk.mp hy];exact l2
 have rv:AX [.ref e,v] [.ref e,u]:=.cons rfl (.cons r .nil);refine VO hdp (KX _ _ lk) rfl S.co S.gen rfl (VB KX hcd) (bd s [.ref e,u] KX rfl _ _ _ _ ?_);refine VY S.kind hkind λenv hen s1' x=>?_
 subst hen;refine⟨lim.keeps x.toInCall.keep,codeAny_func ?_⟩;have I:Inv (EA LQ P w K mg base ["self",par] qual (Bt st) fI cdv A outer s H E) [] (start ["self",par] [.ref e,v]) H s1':=Po S hh e0 rfl rv x;generalize hX:EA LQ P w K mg base ["self",par] qual (Bt st) fI cdv A outer s H E=X at I;have pself:∀ p,PE X (.Name "self" p) (DZ 0):=λp=>by rw[<-hX];exact Je rfl (.inl l1)
 have ppar:∀ p,PE X (.Name par p) (DZ 1):=λp=>by rw[<-hX];exact Je rfl (.inl l2) dp dq
 have st1:=XX (X:=X) (CL:=CL) (C:=C) (g:=g) (np:=np) (apos:=apos) (cpos:=cpos) (i:=0) (j:=1) (OV:=OV) (by rw[<-hX];exact hob) (by rw[<-hX];exact gl) (by rw[<-hX];exact mo) dg (by rw[<-hX];exact s1) (by rw[<-hX];exact s2) (by rw[<-hX];exact s3) hl (pself p1)
  (hz.pe X CL 1 (by rw[<-hX];show A.units+3+64<By;omega) (by rw[<-hX];exact hgd) ppar) rfl (hz.st _)
 have st2:=Zw (X:=X) (p8:=p8) (p10:=p10) (by rw[<-hX];exact hob) (by rw[<-hX];rfl) (by rw[<-hX];exact hf) (by rw[<-hX];exact hs) (pself p7) (ppar p9) rfl
 have all:=Mw (JP (pos:=p6) st1 rfl) (Ja st2);have hk:=all [] s1' _ H {nx:=λ_ H'=>∃ t' dx,H dx=Ae/\dx≠e/\H'=upd (upd H e (.ext (XEx e C (Aa dx) t'))) dx (.xd [(f,v)]),rt:=λ_ _=>AV} I ⟨e,Ae,t,v,d,B,n,rfl,he,rfl,by rw[<-hX];exact rp,hx,hn,λt'=>⟨e,t',v,rfl,Di,rfl,λdx h1 h2=>⟨t',dx,by rw[A6 h2]at h1;exact h1,h2,by rw[M3]⟩⟩⟩
 rw[body];refine A2 (by rw[<-hX]at hk;exact hk) (λfl s' hfl=>?_) λev s' hev=>hev
 cases fl with
 |next=>
  obtain⟨Y',H',J,w'⟩:=hfl;exact⟨.non,H',J.os,J.bare,J.base,J.hok,rfl,rfl,w'⟩
 |ret y=>obtain⟨_,_,_,_,_,w'⟩:=hfl;exact w'.elim
 |brk=>obtain⟨_,_,_,w'⟩:=hfl;exact w'.elim
 |cont=>obtain⟨_,_,_,w'⟩:=hfl;exact w'.elim
end
theorem RW:∀(n m:Af)(d:D),xfD n d=Ab->n+1<=m->nlD m d=Ab
 |0,m+1,.int i,_,_=>rfl
 |n+1,m+1,.tup ds,h,hm=>by
  have h':(Co ds.length 8&&ds.all (xfD n))=Ab:=h;rw[Al]at h';show ds.all (nlD m)=Ab;rw[Bz]at h' ⊢;exact λx hx=>RW n m x (h'.2 x hx) (by omega)
 |0,_,.tup _,h,_=>nomatch h
 |n+1,_,.int _,h,_=>nomatch h
section
variable{X:Cx}{CL:ClA}{W:XW}
def Jq(xn:Af->Ac D->R Ex)(c:Af)(f:Ag)(ds:Ac D):Prop:=∃ d n,ds=[d]/\xfD n d=Ab/\n<=2/\xn c ds=.ok ⟨c,[(f,d)]⟩
theorem WI{np cpos pos:Az}{e:Am}{es:Ac Am}{fs:Rho->R (Ac D)}(hcalm:X.calm=Ab)(hx:X.ex=[])(hr:Room k X.A)(rz:Ky X CL W)(hg:Gl X g)(hm:X.mg g=Aa (.ref C))(hdb:(g==("__debug__" : Ag))=Ad)(hcl:CL c=Aa C)(ha:SA X CL W (e::es) fs)(hxn:∀ ds,xn c ds=.bad\/(xn c ds=.ok ⟨c,[]⟩/\DU X.K C Ae=Ab)\/∃ f,XIn X.K X.mg C f/\Jq xn c f ds)(he:Aq (e::es) X.env=(Ad,eval e X.env)::Aq es X.env)(hpl:∀ pos,(Bq pos (Aq es X.env)).any (·.1)=Ad)(hz:∀ U ds,fs U=.ok ds->ds.length<=100000):SS X CL W (.Raise (Aa (.Call (.Name g np) (e::es) [] cpos)) Ae pos) (λU=>O.of U (noX (fs U)) λxs=>O.of U (xn c xs) λx=>.exn x U):=λFz B pI s Y H D I ⟨U,x,p⟩=>by
 have hpl':(Bq cpos (Aq (e::es) X.env)).any (·.1)=Ad:=by rw[he];show (Ad||(Bq cpos (Aq es X.env)).any (·.1))=Ad;rw[hpl];rfl
 cases e1:fs U with
 |bad=>dsimp only at p;rw[e1]at p;exact p.elim
 |exn y=>dsimp only at p;rw[e1]at p;exact p.elim
 |ok ds=>
  rcases hxn ds with e2|⟨e2,xc⟩|⟨f,xi,d,n,rfl,xf,hn,e2⟩
  .dsimp only at p;rw[e1]at p;have p2:Bh X.K CL Fz B W (O.of U (xn c ds) λx=>.exn x U) D:=p
   rw[e2]at p2;exact p2.elim
  .refine WU (fs:=fs) (xn:=λ_ ds'=>match xn c ds' with | .ok ⟨_,[]⟩=>.ok ⟨c,[]⟩|_=>.bad) hcalm rz hg hm hdb xc hcl ha (λds'=>by
    split
    .exact .inr rfl
    .exact .inl rfl) he hpl hz Fz B pI s Y H D I ⟨U,x,?_⟩
   dsimp only at p ⊢;rw[e1]at p ⊢;have p2:Bh X.K CL Fz B W (O.of U (xn c ds) λx=>.exn x U) D:=p
   rw[e2]at p2;show Bh X.K CL Fz B W (O.of U (match xn c ds with | .ok ⟨_,[]⟩=>(.ok ⟨c,[]⟩:R Ex)|_=>.bad) λx=>.exn x U) D
   rw[e2];exact p2
  .dsimp only at p;rw[e1]at p;have p2:Bh X.K CL Fz B W (O.of U (xn c [d]) λx=>.exn x U) D:=p
   rw[e2]at p2;have p3:∀ H,(∀ b o,Fz b o->H b=Aa o)->W ⟨c,[(f,d)]⟩ H:=p2;cases xi with
   |mk xc dc fn ty S l1 l2 bd body gl mo dg dp dq w1 w2 w3 hl hz0 hf hs=>
    rename_i fI OV x0 qual g0 par j0 st fd np0 apos q1 cpos0 q6 q7 q8 q9 q10;obtain⟨bm,N,nm,qn,bs,hd,sn,sub,ab,col,dd,k0,k1,k2,k3,k5,mN,hob,hni,hbase⟩:=JU I.kIn xc;have hdt:hd=Ab:=by
     unfold Fo at dc;split at dc
     .rename_i c0 d0 cd sl lk;have g1:=I.kIn _ _ lk;rw[(hob _ I.kIn).1]at g1;unfold Bw at g1;cases g1;exact dc
     .cases dc
    subst hdt;have hob2:∀ h:AA,X.K.In h->h.get? C=Aa (Bw nm qn C N bs bm Ab sn sub ab col dd k0 k1 k2 k3 k5 "ValueError.__new__")/\CW h veB bm:=λh z=>⟨(hob h z).1,(hob h z).2.2⟩
    refine WZ (bmB:=veB) (nm:=nm) (q:=qn) (C:=C) (N:=N) (fI:=fI) (bs:=bs) (bm:=bm) (hdct:=Ab) (sn:=sn) (sub:=sub) (ab:=ab) (col:=col) (dd:=dd) (k0:=k0) (k1:=k1) (k2:=k2) (k3:=k3) (k5:=k5) (mN:=mN) Cu hbase (I.ok.hd hcalm) hpl' hni ?_;refine GH I hg hm ⟨rfl,?_⟩ hdb;have q1:=ha (Ba B U Y) cpos pI s Y H (λvs H1=>Aw H H1/\Reps X.K CL H1 (Ba B U Y) vs [d]) I ⟨x.aok,U,x.good,by rw[e1];exact λvs H1 s1 r1=>⟨s1,r1⟩⟩
    rw[he]at q1 ⊢;refine DY (A2 q1 (λus s2 ⟨vs,H2,I2,r2,sm2,rps⟩=>⟨rfl,?_⟩) λ_ _ z=>z)
    cases vs with
    |nil=>exact rps.elim
    |cons v vs=>
     cases vs with
     |cons=>exact rps.2.elim
     |nil=>
      obtain⟨u,rfl,ru⟩:=Gs r2;obtain⟨o1,o2,o3⟩:=hob _ I2.kIn;obtain⟨oc,od,kV,doc,pm,an,cdv,ct,osl,efd,lk,hcd⟩:=fn.ex;have coc:oc=.type "function" := by
       have ty':(X.K.lookup fI).map _=_:=ty;rw[lk]at ty';exact Bc ty'
      refine⟨by rw[BV];show 1<=_;omega,o1,o2,o3,⟨_,I2.kIn _ _ lk,coc⟩,λh' e0 made=>?_⟩
      obtain⟨t,ge,_⟩:=made.there;have I3:Inv X pI Y H2 {s2 with heap:=h'}:=I2.kept (t':=s2.toks) made.keeps
      have ap:E7 X pI e0:=Iq I2 hx made.new;have n0:H2 e0=Ae:=HH I2.hok made.new;have I4:=Nd (o:=.ext (XEx e0 C Ae t)) I3 ap n0 ⟨ge,⟨_,ge⟩,K5⟩;have sm4:Aw H2 (upd H2 e0 (.ext (XEx e0 C Ae t))):=λb o z=>by rw[A6 λy=>by rw[y,n0]at z;cases z];exact z
      have ru0:=hr.mono (D7 k);have run:=QR (P:=X.prog) (w:=X.w) (mg:=X.mg) (base:=X.base) (CL:=CL) (E:=λ_ _ _=>AV) (B:=Ba B U Y) (H:=upd H2 e0 (.ext (XEx e0 C Ae t))) (t:=t) hob2 fn S l1 l2 bd body gl mo dg dp dq w1 w2 w3 hl hz0 hf hs (A:=X.A.under (.builtin "type.__call__" ⟨.ref C::[u],[]⟩)) (outer:=X.stack) hr.hd (by rw[ON];have:=ru0.dp;omega) (by rw[OM];have:=ru0.un;omega) hr.gd (I4.env0.make C [u] []) Di (Rep.same sm4 rps.1) xf hn ru
      refine Fj (Et run λr s' hq=>?_)
      cases r with
      |error _=>exact AZ hq
      |ok fl=>
       cases fl with
       |next=>exact AZ hq
       |brk=>exact AZ hq
       |cont=>exact AZ hq
       |ret u'=>
        obtain⟨v',H5,I5,rr,ev,t',dx,ndx,dne,eH⟩:=I4.after hq;subst ev;cases rr;have nd2:H2 dx=Ae:=by rw[A6 dne]at ndx;exact ndx
        rw[M3]at eH;have H5e:H5 e0=Aa (.ext (XEx e0 C (Aa dx) t')):=by rw[eH,A6 (CV dne),Di]
        have ge5:XEx e0 C (Aa dx) t' s'.heap:=(I5.hok e0 _ H5e).1;have I6:=Xz I5 H5e ap.2.2.2 λ_=>trivial
        have H6d:(if dx=e0 then Ae else H5 dx)=Aa (.xd [(f,v)]):=by rw[AO dne,eH,Di]
        have sm6:Aw H2 (λb=>if b=e0 then Ae else H5 b):=λb o z=>by
         have nb:b≠e0:=λy=>by rw[y,n0]at z;cases z
         have nb2:b≠dx:=λy=>by rw[y,nd2]at z;cases z
         show (if b=e0 then Ae else H5 b)=Aa o
         rw[AO nb,eH,A6 nb2,A6 nb];exact z
        refine⟨rfl,t',Aa dx,(hob2 _ I6.kIn).1,ge5,rz pI Y _ s' e0 C (Aa dx) t' ⟨c,[(f,d)]⟩ I6 (λhx=>Ip I2 hx made.new) (AE rfl) ge5 (λA hA=>⟨C,hcl,rfl,.inr ⟨dx,[(f,v)],rfl,λz=>?_,H6d,⟨rfl,?_⟩,trivial⟩⟩) (p3 _ λb o z=>sm6 _ _ (sm2 _ _ (x.same b o z)))⟩
        .obtain⟨ys,q⟩:=hA dx z;have q':(if dx=e0 then Ae else H5 dx)=Aa (.lst ys):=q
         rw[H6d]at q';cases q'
        .exact NN hA 5 d (RW n 5 d xf (by omega)) (Rep.sub (λ_ z=>z.elim) _ (Rep.same sm6 rps.1))
end
section
variable{prog:AF}{w:AS}{A:AQ}{E:Vq}{h:AA}{g:A3 DI}{d:Gy}{t:Af}{os:F8}{K:Fg}{e C dx:Ak}{f:Ag}{mA:Ag->An Aj}{v:Aj}
theorem Ng(p:Hn e C (Aa dx) h):XAt e C h:=let ⟨o,a,b,_⟩:=p;⟨o,a,b⟩
theorem Wd{Q:Fin->Ao->Prop}(X:K.In h)(hf:Ar K (.ref C) f=Aa Ae)(hd:Fo K C=Ab)(p:Hn e C (Aa dx) h)(hn:h.Ns1 dx mA)(hv:mA f=Aa v)(hq:Q (.done (.ret v)) ⟨h,g,d,t,os⟩):Au (model prog w) A (Builtin.«object.__getattribute__» ⟨[.ref e,.str f tk],[]⟩) Q E ⟨h,g,d,t,os⟩:=by
 have L0:=HL (M:=model prog w) (Ng p);have L1:=B2 (M:=model prog w) X hf;obtain⟨o,ge,oc,od,us,dt⟩:=p;unfold Fo at hd;split at hd
 .rename_i c' d' cd' sl' lk;have gC:=X _ _ lk;unfold Builtin.«object.__getattribute__»
  repeat (any_goals (first|assumption|with_reducible refine L0.at ?_|with_reducible refine L1.at ?_|wp_step))
  rw[dt];unfold instanceDict
  repeat (first|(with_reducible refine BG ge ?_;rw[oc])|with_reducible refine BG gC ?_|wp_step)
  rw[od]
  repeat (first|(with_reducible refine wpAny_nsGet hn.ns ?_;rw[hv])|wp_step)
  exact hq
 .cases hd
theorem ZO{Q:Vq}(X:K.In h)(x:XcOk K C)(hf:Ar K (.ref C) f=Aa Ae)(hd:Fo K C=Ab)(p:Hn e C (Aa dx) h)(hn:h.Ns1 dx mA)(hv:mA f=Aa v)(hh:handedOut v=pure v)(hq:Q v ⟨h,g,d,t,os⟩):Au (model prog w) A (getAttrBy (.ref e) (.str f tk) fill expr) Q E ⟨h,g,d,t,os⟩:=by
 have L0:=HL (M:=model prog w) (Ng p);have L1:=B2 (M:=model prog w) X x.ga;have L2:=B2 (M:=model prog w) X x.gt;have f3:=EM.ga.bind (.ref e);have hx0:(expr&&HC (B4 "BaseException.__getattribute__"))=Ad:=by cases expr<;>rfl
 have hx2:(B4 "BaseException.__getattribute__" == B4 "object.__getattribute__")=Ad:=by decide+kernel
 have hx1:(HC (BZ C)&&B4 "BaseException.__getattribute__" == B4 "object.__getattribute__")=Ad:=by rw[hx2];rfl
 repeat (any_goals (first|assumption|with_reducible refine L0.at ?_|with_reducible refine L1.at ?_|with_reducible refine L2.at ?_|wp_step))
 refine Dh EM.ga.plain U_0 (OI X x (Ng p) (Wd X hf hd p hn hv ?_))
 repeat (any_goals (first|assumption|wp_step))
 all_goals trace_state
theorem W1{b:Ai}{Q:Vq}(X:K.In h)(x:XcOk K C)(hf:Ar K (.ref C) f=Aa Ae)(hd:Fo K C=Ab)(p:Hn e C (Aa dx) h)(hn:h.Ns1 dx mA)(hv:mA f=Aa v)(hh:handedOut v=pure v)(hq:Q v ⟨h,g,d,t+1,os⟩):Au (model prog w) A (getAttr (.ref e) f b) Q E ⟨h,g,d,t,os⟩:=by
 unfold getAttr
 repeat (any_goals (first|assumption|with_reducible apply ZO X x hf hd p hn hv hh|wp_step))
end
section
variable{X:Cx}{CL:ClA}{W:XW}{K:Fg}{H:Hp}{A:Ak->Prop}
theorem Mv{f:Ag}{d:D}:∀{vs:Ac (Ag×V)}{fs:Ac (Ag×D)},Repf K CL H A vs fs->fs.lookup f=Aa d->∃ v,vs.lookup f=Aa v/\Rep K CL H A v d
 |[],[],_,q=>nomatch q
 |(n,v)::vs,(m,d')::fs,⟨⟨e,r⟩,rs⟩,q=>by
  have e':n=m:=e;subst e';by_cases z:(f==n)=Ab
  .simp only[CP,z]at q ⊢;cases q;exact⟨v,rfl,r⟩
  .simp only[CP,z]at q ⊢;exact Mv rs q
theorem QE{a:Am}{fa:Rho->R D}{f:Ag}(hxc:∀ c C,CL c=Aa C->XcOk X.K C)(hnf:∀ c C,CL c=Aa C->Fo X.K C=Ab/\Ar X.K (.ref C) f=Aa Ae)(ha:ST X CL W a fa)(hb:CM a f X.env (eval a X.env)=eval a X.env):SE X CL W (.Attribute a f pos) (λU=>(fa U).bind λx=>LL x f):=λA=>by
 intro pI s Y H Q I ⟨hA,U,gd,q⟩;refine QK hb (thn (ha A pI s Y H _ I ⟨hA,U,gd,AT.bind q (Q':=λv H1=>∃ d,B6 X.K CL H1 A v d/\AT (λH2=>Rep X.K CL H2 A) W H1 (LL d f) Q) λd v H1 _ s1 r1 p1=>⟨d,r1,p1⟩⟩) λu s1 ⟨v,H1,I1,rv,d,rp,p1⟩=>?_)
 cases d with
 |exc c fs=>
  have p2:AT (λH2=>Rep X.K CL H2 A) W H1 (match fs.lookup f with|some d=>.ok d|none=>.bad) Q:=p1
  cases el:fs.lookup f with
  |none=>rw[el]at p2;exact p2.elim
  |some d=>
   rw[el]at p2;rcases rp with ⟨e,C,φ,rfl,_,hc,hH,hφ,hfs⟩|⟨a,xs,ds,_,z,_⟩
   .rcases hfs with z|⟨dx,vs,nd,hd,rf,hφ2⟩
    .rw[z]at el;cases el
    .obtain⟨y,l,ry⟩:=Mv rf el;cases rv;have ph:=(I1.hok e _ hH).1;obtain⟨o,ge,oc⟩:=hφ _ ph;obtain⟨o',ge',od,us,odt⟩:=hφ2 _ ph;rw[ge]at ge';cases ge';obtain⟨mA,hn,rel⟩:=I1.hok dx _ hd;obtain⟨u',hu,ru⟩:=Kz.some_of (v:=y) (o:=mA f) (by rw[<-l];exact rel f)
     obtain⟨k1,k2⟩:=hnf c C hc;obtain⟨hp,g2,d2,tk2,os2⟩:=s1;exact W1 I1.kIn (hxc c C hc) k2 k1 ⟨o,ge,oc,od,us,odt⟩ hn hu (PySem.W.handedOut_of (W4 ru)) ⟨y,H1,I1.tok _,ru,p2 y H1 (Aw.refl H1) ry⟩
   .cases z
 |_=>exact p1.elim
end
section
variable{X:Cx}{CL:ClA}{W:XW}
theorem ZP{e C:Ak}:∀ h1 h2:AA,XAt e C h1->(∀ o,h1.get? e=Aa o->h2.get? e=Aa o)->XAt e C h2:=λ_ _ ⟨o,a,b⟩ k=>⟨o,k _ a,b⟩
theorem bB{np pos:Az}{e:Am}{es:Ac Am}{fs:Rho->R (Ac D)}(hx:X.ex=[])(hk:A7 X.K (.ref C)=Ab)(hg:Gl X g)(hm:X.mg g=Aa (.ref C))(hdb:(g==("__debug__" : Ag))=Ad)(xc:DU X.K C Ae=Ab)(hcl:CL c=Aa C)(ha:SA X CL W (e::es) fs)(he:Aq (e::es) X.env=(Ad,eval e X.env)::Aq es X.env)(hpl:(Bq pos (Aq es X.env)).any (·.1)=Ad)(hz:∀ U ds,fs U=.ok ds->ds.length<=100000):SE X CL W (.Call (.Name g np) (e::es) [] pos) (λU=>(fs U).bind λ_=>.ok (.exc c [])):=λA=>by
 intro pI s Y H Q I ⟨hA,U,gd,p⟩;dsimp only at p;obtain⟨bm,N,nm,qn,bs,hd,sn,sub,ab,col,dd,k0,k1,k2,k3,k5,mN,hob,hni,hbase⟩:=JU I.kIn xc;refine CC (GH I hg hm ?_ hdb);have q1:=ha A pos pI s Y H (λvs H1=>Aw H H1/\vs.length<=100000/\∀ v H',Aw H H'->Rep X.K CL H' A v (.exc c [])->Q v H') I ⟨hA,U,gd,by
  cases e1:fs U with
  |bad=>rw[e1]at p;exact p
  |exn y=>rw[e1]at p;exact p
  |ok ds=>
   rw[e1]at p;exact λvs H1 s1 r1=>⟨s1,by rw[r1.length];exact hz U ds e1,p⟩⟩
 refine DE (h₀:=X.base) I.ok.mod.kin hk (thn q1 λus s1 ⟨vs,H1,I1,r,sm,hl,q⟩=>⟨I1.kIn,?_⟩) he hpl
 obtain⟨o1,o2,o3⟩:=hob _ I1.kIn;have ap:∀ e',s1.heap.get? e'=Ae->E7 X pI e':=λe' z=>Iq I1 hx z
 have hf:=λe' (z:s1.heap.get? e'=Ae)=>HH I1.hok z
 obtain⟨h1,g1,d1,t1,os1⟩:=s1;refine wpAny_call_exc_subT Cu o3 o1 o2 hni (λh' ev hmade=>?_) (by rw[Gw,<-r.length,BV];omega)
 obtain⟨t,ge,_⟩:=hmade.there;have nH:H1 ev=Ae:=hf ev hmade.new;have xa:XAt ev C h':=⟨_,ge,rfl⟩;have I3:Inv X pI Y H1 ⟨h',g1,d1,t1,os1⟩:=I1.kept (t':=t1) hmade.keeps;have I2:=Pl I3 hx (ap ev hmade.new) nH ⟨_,ge⟩ xa ZP;have s2:Aw H1 (upd H1 ev (.ext (XAt ev C))):=Eb nH _;refine⟨.ref ev,_,I2,rfl,q _ _ (sm.trans s2) ⟨ev,C,XAt ev C,rfl,λz=>?_,hcl,Di,λh x=>x,.inl rfl⟩⟩
 obtain⟨xs,z'⟩:=hA.same sm ev z;rw[nH]at z';cases z'
theorem cV{f:Ag}{ds:Ac D}{Q:VK}(p:AT Rp W H ((mkA c f ds).bind λx=>.ok (.exc x.c x.fs)) Q):∃ d n,ds=[d]/\xfD n d=Ab/\n<=2/\mkA c f ds=.ok ⟨c,[(f,d)]⟩:=by
  match ds,p with
  |[],p=>exact p.elim
  |_::_::_,p=>exact p.elim
  |[d],p=>
    have e':mkA c f [d]=if (xfD 0 d||(xfD 1 d||xfD 2 d))=Ab then .ok ⟨c,[(f,d)]⟩ else .bad:=rfl
    by_cases z:(xfD 0 d||(xfD 1 d||xfD 2 d))=Ab
    · rw[AE z]at e';rcases (BK _ _).mp z with h|h
      · exact⟨d,0,rfl,h,by omega,e'⟩
      · rcases (BK _ _).mp h with h|h
        · exact⟨d,1,rfl,h,by omega,e'⟩
        · exact⟨d,2,rfl,h,by omega,e'⟩
    · rw[AO z]at e';rw[e']at p;exact p.elim
theorem bA{g f:Ag}{np pos:Az}{e:Am}{es:Ac Am}{fs:Rho->R (Ac D)}(hx:X.ex=[])(hr:Room k X.A)(hk:A7 X.K (.ref C)=Ab)(hg:Gl X g)(hm:X.mg g=Aa (.ref C))(hdb:(g==("__debug__" : Ag))=Ad)(xi:XIn X.K X.mg C f)(hcl:CL c=Aa C)(ha:SA X CL W (e::es) fs)(he:Aq (e::es) X.env=(Ad,eval e X.env)::Aq es X.env)(hpl:(Bq pos (Aq es X.env)).any (·.1)=Ad):SE X CL W (.Call (.Name g np) (e::es) [] pos) (λU=>(fs U).bind λds=>mkA c f ds |>.bind λx=>.ok (.exc x.c x.fs)):=λA=>by
 intro pI s Y H Q I ⟨hA,U,gd,p⟩;dsimp only at p;cases xi with
 |mk xc dc fn ty S l1 l2 bd body gl mo dg dp dq w1 w2 w3 hl hz0 hf hs=>
  rename_i fI OV x0 qual g0 par j0 st fd np0 apos q1 cpos0 q6 q7 q8 q9 q10;obtain⟨bm,N,nm,qn,bs,hd,sn,sub,ab,col,dd,k0,k1,k2,k3,k5,mN,hob,hni,hbase⟩:=JU I.kIn xc;have hdt:hd=Ab:=by
   unfold Fo at dc;split at dc
   .rename_i c0 d0 cd sl lk;have g1:=I.kIn _ _ lk;rw[(hob _ I.kIn).1]at g1;unfold Bw at g1;cases g1;exact dc
   .cases dc
  subst hdt;have hob2:∀ h:AA,X.K.In h->h.get? C=Aa (Bw nm qn C N bs bm Ab sn sub ab col dd k0 k1 k2 k3 k5 "ValueError.__new__")/\CW h veB bm:=λh z=>⟨(hob h z).1,(hob h z).2.2⟩
  refine CC (GH I hg hm ?_ hdb);have q1:=ha A pos pI s Y H (λvs H1=>Aw H H1/\∃ d n,Reps X.K CL H1 A vs [d]/\xfD n d=Ab/\n<=2/\∀ v H',Aw H H'->Rep X.K CL H' A v (.exc c [(f,d)])->Q v H') I ⟨hA,U,gd,by
   cases e1:fs U with
   |bad=>rw[e1]at p;exact p
   |exn y=>rw[e1]at p;exact p
   |ok ds=>
    rw[e1]at p;have p':AT (λH=>Rep X.K CL H A) W H ((mkA c f ds).bind λx=>.ok (.exc x.c x.fs)) Q:=p
    obtain⟨d,n,rfl,xf,hn,em⟩:∃ d n,ds=[d]/\xfD n d=Ab/\n<=2/\mkA c f ds=.ok ⟨c,[(f,d)]⟩:=cV p';rw[em]at p';exact λvs H1 s1 r1=>⟨s1,d,n,r1,xf,hn,p'⟩⟩
  refine DE (h₀:=X.base) I.ok.mod.kin hk (thn q1 λus s2 ⟨vs,H2,I2,r2,sm2,d,n,rps,xf,hn,q⟩=>⟨I2.kIn,?_⟩) he hpl
  cases vs with
  |nil=>exact rps.elim
  |cons v vs=>
   cases vs with
   |cons=>exact rps.2.elim
   |nil=>
    obtain⟨u,rfl,ru⟩:=Gs r2;obtain⟨o1,o2,o3⟩:=hob _ I2.kIn;obtain⟨oc,od,kV,doc,pm,an,cdv,ct,osl,efd,lk,hcd⟩:=fn.ex;have coc:oc=.type "function" := by
     have ty':(X.K.lookup fI).map _=_:=ty;rw[lk]at ty';exact Bc ty'
    have apO:∀ e',s2.heap.get? e'=Ae->E7 X pI e':=λe' z=>Iq I2 hx z
    have hfO:=λe' (z:s2.heap.get? e'=Ae)=>HH I2.hok z
    have lkI:=I2.kIn _ _ lk;obtain⟨h1,g1,d1,t1,os1⟩:=s2;refine PX Cu o3 o1 o2 hni lkI coc (by rw[BV];show 1<=_;omega) λh' e0 made=>?_
    obtain⟨t,ge,_⟩:=made.there;have I3:Inv X pI Y H2 ⟨h',g1,d1,t1,os1⟩:=I2.kept (t':=t1) made.keeps;have ap:E7 X pI e0:=apO e0 made.new;have n0:H2 e0=Ae:=hfO e0 made.new;have I4:=Nd (o:=.ext (XEx e0 C Ae t)) I3 ap n0 ⟨ge,⟨_,ge⟩,K5⟩;have sm4:Aw H2 (upd H2 e0 (.ext (XEx e0 C Ae t))):=Eb n0 _;have ru0:=hr.mono (D7 k);have run:=QR (P:=X.prog) (w:=X.w) (mg:=X.mg) (base:=X.base) (CL:=CL) (E:=λ_ _ _=>AV) (B:=A) (H:=upd H2 e0 (.ext (XEx e0 C Ae t))) (t:=t) hob2 fn S l1 l2 bd body gl mo dg dp dq w1 w2 w3 hl hz0 hf hs (A:=X.A.under (.builtin "type.__call__" ⟨.ref C::[u],[]⟩)) (outer:=X.stack) hr.hd (by rw[ON];have:=ru0.dp;omega) (by rw[OM];have:=ru0.un;omega) hr.gd (I4.env0.make C [u] []) Di (Rep.same sm4 rps.1) xf hn ru
    refine Fj (Et run λr s' hq=>?_)
    cases r with
    |error _=>exact AZ hq
    |ok fl=>
     cases fl with
     |next=>exact AZ hq
     |brk=>exact AZ hq
     |cont=>exact AZ hq
     |ret u'=>
      obtain⟨v',H5,I5,rr,ev,t',dx,ndx,dne,eH⟩:=I4.after hq;subst ev;cases rr;have nd2:H2 dx=Ae:=by rw[A6 dne]at ndx;exact ndx
      rw[M3]at eH;have H5e:H5 e0=Aa (.ext (XEx e0 C (Aa dx) t')):=by rw[eH,A6 (CV dne),Di]
      have H5d:H5 dx=Aa (.xd [(f,v)]):=by rw[eH,Di]
      have s5:Aw H2 H5:=λb o z=>by
       have nb:b≠e0:=λy=>by rw[y,n0]at z;cases z
       have nb2:b≠dx:=λy=>by rw[y,nd2]at z;cases z
       rw[eH,A6 nb2,A6 nb];exact z
      have nA:∀ b,H2 b=Ae->¬ A b:=λb z ha'=>by
       obtain⟨xs,q'⟩:=hA.same sm2 b ha';rw[z]at q';cases q'
      refine⟨rfl,.ref e0,H5,I5,rfl,q _ _ (sm2.trans s5) ?_⟩;exact⟨e0,C,_,rfl,nA e0 n0,hcl,H5e,λh x=>⟨_,x,rfl⟩,.inr ⟨dx,[(f,v)],nA dx nd2,H5d,⟨⟨rfl,Rep.same s5 rps.1⟩,trivial⟩,λh x=>⟨_,x,rfl,_,rfl⟩⟩⟩
theorem PC{i:An Aj}(q:DU K C i=Ab):A7 K (.ref C)=Ab:=by
  obtain⟨dd,cd,sl,bm,h1,_⟩:=RA q;have e:BF K (.ref C) "__call__" = Aa (Aa (.builtin "type.__call__")):=by
    unfold BF;rw[fH q];show PySem.fastLookup "type" "__call__" = _;decide+kernel
  show (match K.lookup C with
      |some ⟨_,_,.func _,_⟩=>Ab
      |some ⟨_,_,.cls _,_⟩=>BF K (.ref C) "__call__" == Aa (Aa (.builtin "type.__call__"))
      | _=>Ad)=Ab
  rw[h1,e];show (Aa (Aa (B4 "type.__call__"))==Aa (Aa (B4 "type.__call__")))=Ab;exact D1 _
theorem fT{np pos:Az}{e:Am}{es:Ac Am}{fs:Rho->R (Ac D)}(hx:X.ex=[])(hr:Room k X.A)(hg:Gl X g)(hm:X.mg g=Aa (.ref C))(hdb:(g==("__debug__" : Ag))=Ad)(hcl:CL c=Aa C)(ha:SA X CL W (e::es) fs)(hxn:∀ ds,xn c ds=.bad\/(xn c ds=.ok ⟨c,[]⟩/\DU X.K C Ae=Ab)\/∃ f,XIn X.K X.mg C f/\Jq xn c f ds)(he:Aq (e::es) X.env=(Ad,eval e X.env)::Aq es X.env)(hpl:(Bq pos (Aq es X.env)).any (·.1)=Ad)(hz:∀ U ds,fs U=.ok ds->ds.length<=100000):SE X CL W (.Call (.Name g np) (e::es) [] pos) (λU=>(noX (fs U)).bind λds=>(xn c ds).bind λx=>.ok (.exc x.c x.fs)):=λA=>by
 intro pI s Y H Q I ⟨hA,U,gd,p⟩;dsimp only at p;cases e1:fs U with
 |bad=>
  rw[e1]at p;exact p.elim
 |exn y=>
  rw[e1]at p;exact p.elim
 |ok ds=>
  rw[e1]at p;have p':AT (λH=>Rep X.K CL H A) W H ((xn c ds).bind λx=>.ok (.exc x.c x.fs)) Q:=p
  rcases hxn ds with e2|⟨e2,xc⟩|⟨f,xi,d,n,rfl,xf,hn,e2⟩
  .rw[e2]at p';exact p'.elim
  .rw[e2]at p';refine bB (fs:=fs) hx (PC xc) hg hm hdb xc hcl ha he hpl hz A pI s Y H Q I ⟨hA,U,gd,?_⟩;dsimp only;rw[e1];exact p'
  .rw[e2]at p';have m:mkA c f [d]=.ok ⟨c,[(f,d)]⟩:=by
    have:(xfD 0 d||(xfD 1 d||xfD 2 d))=Ab:=by
     have hn':n=0\/n=1\/n=2:=by omega
     rcases hn' with rfl|rfl|rfl<;>rw[xf]<;>simp
    show (if (xfD 0 d||(xfD 1 d||xfD 2 d))=Ab then (.ok ⟨c,[(f,d)]⟩:R Ex) else .bad)=_
    rw[AE this]
   have kp:A7 X.K (.ref C)=Ab:=by
    cases xi with
    |mk xc=>exact PC xc
   refine bA (fs:=fs) hx hr kp hg hm hdb xi hcl ha he hpl A pI s Y H Q I ⟨hA,U,gd,?_⟩;dsimp only;rw[e1];show AT (λH=>Rep X.K CL H A) W H ((mkA c f [d]).bind λx=>.ok (.exc x.c x.fs)) Q
   rw[m];exact p'
end
theorem WR:∀{ss:Ac Ag}{its:Ac Aj},AX (ss.map V.str) its->∃ l:Ac (Ag×B9),its=strValues l/\l.map (·.1)=ss:=by
 intro ss
 induction ss with
 |nil=>intro its v;cases v;exact⟨[],rfl,rfl⟩
 |cons x ss ih=>
  intro its v;cases v with
  |cons v1 v2=>
   obtain⟨t,rfl⟩:=v1;obtain⟨l,e1,e2⟩:=ih v2;exact⟨(x,t)::l,by rw[e1];rfl,by rw[Ce,e2]⟩
section
variable{X:Cx}{CL:ClA}{W:XW}
def iF(K:Fg):V->Ac V->Hp->VK->Prop:=λx xs H Q=>∃ sep q ss,x=.str sep/\xs=[.ref q]/\SqL K H q (ss.map V.str)/\Hy sep ss=Ab/\Q (.str (Ib sep ss)) H
theorem Zm:MtR X "str.join" (iF X.K):=by
 intro pI s Y H x vs v us Q I rx rv h;obtain⟨sep,l,ss,rfl,rfl,sq,hok,q⟩:=h;obtain⟨t,rfl⟩:=rx;obtain⟨u,rfl,ru⟩:=rv.one;cases ru;obtain⟨its,r,pl,hz⟩:=I.list sq;obtain⟨ls,rfl,rfl⟩:=WR r;unfold Hy at hok;rw[Bi]at hok;refine F6 U_4 (EG _ _ _) PySem.F.entry_str_join (PySem.F.args_str_join_2 _ _) (meets_str_join_list sep t l ls hok) ⟨pl.isList,post_join ls ⟨joinFit_length hok,λt' k=>?_⟩⟩
 exact⟨.str _,H,I.kept (t':=k) λ_ _ e=>e,⟨_,rfl⟩,q⟩
theorem WG:∀{es:Ac D}{ss:Ac Ag}{ys:Ac V},Jr es=Aa ss->Reps K CL H A ys es->ys=ss.map V.str:=by
 intro es
 induction es with
 |nil=>
  intro ss ys h r;cases h;cases ys with
  |nil=>rfl
  |cons=>exact r.elim
 |cons e es ih=>
  intro ss ys h r;cases ys with
  |nil=>exact r.elim
  |cons y ys=>
   cases e with
   |str x=>
    have h':(Jr es).map (x :: ·)=Aa ss:=h;cases e2:Jr es with
    |none=>rw[e2]at h';cases h'
    |some js=>
     rw[e2]at h';cases h';have e1:y=.str x:=r.1;rw[ih e2 r.2,e1];rfl
   |_=>cases h
theorem YM{y:Am}{s:Ag}{fy:Rho->R D}(hy:SE X CL W y fy)(hbase:CM (.Constant (.str s) k p) "join" X.env (eval (.Constant (.str s) k p) X.env)=eval (.Constant (.str s) k p) X.env)(hfew:((Bq cpos (Aq [y] X.env)).all (λx=>!x.1)&&(G2 cpos (FM [] X.env)).all (λx=>x.1.isSome)&&decide ([y].length+([]:Ac DO).length+(if ([]:Ac DO).isEmpty then 0 else 1)<30))=Ab)(hline:(apos.endLine==cpos.line)=Ab)(hs:Aq [y] X.env=[(Ad,eval y X.env)]):
  SE X CL W (.Call (.Attribute (.Constant (.str s) k p) "join" apos) [y] [] cpos) (λU=>(fy U).bind λx=>biD .sjoin [.str s,x]):=λA=>
 PE.weak (NR U_3 U_4 PySem.F.type_str_join Zm (La (X:=X) (CL:=CL) (W:=W) A) (Dt (hy A) EQ hs) hbase hfew hline hs rfl) λY H Q ⟨hA,U,g,p⟩=>⟨hA,U,g,λv H1 s1 r1=>by
  dsimp only at p;have ev:v=.str s:=r1;subst ev;refine⟨rfl,hA.same s1,U,g.same s1,?_⟩;cases e:fy U with
  |bad=>rw[e]at p;exact p.elim
  |exn x=>rw[e]at p;exact λH2 s2=>p H2 (s1.trans s2)
  |ok d=>
   rw[e]at p;intro v' H2 s2 r2;have p1:AT (λH=>Rep X.K CL H A) W H (biD .sjoin [.str s,d]) Q:=p
   cases d with
   |lst ds=>
    obtain⟨a,xs,rfl,_,sq,rs⟩:=r2;have p2:AT (λH=>Rep X.K CL H A) W H (Nq s ds) Q:=p1
    unfold Nq at p2;cases e3:Jr ds with
    |none=>rw[e3]at p2;exact p2.elim
    |some ss=>
     rw[e3]at p2;dsimp only at p2;split at p2
     .rename_i hok;have ex:=WG e3 rs;subst ex;exact⟨s,a,ss,rfl,rfl,sq,hok,p2 _ H2 (s1.trans s2) rfl⟩
     .exact p2.elim
   | _=>exact p1.elim⟩
end
theorem Pp:∀(l:Ac Ag)(k:Af),AX (l.map V.str) (strsFrom k l)
 |[],_=>.nil
 |_::r,k=>.cons ⟨_,rfl⟩ (Pp r (k+1))
section
variable{X:Cx}{CL:ClA}{W:XW}
def dN:V->Ac V->Hp->VK->Prop:=λx xs H Q=>∃ z y,x=.str z/\xs=[.str y]/\(y.length==0)=Ad/\HY z y=Ab/\∀ p,H p=Ae->Q (.ref p) (upd H p (.lst ((Er z y).map V.str)))
theorem Xq:MtR X "str.split" dN:=by
 intro pI s Y H x vs v us Q I rx rv h;obtain⟨z,y,rfl,rfl,hy,hok,q⟩:=h;obtain⟨t,rfl⟩:=rx;obtain⟨u0,rfl,ru⟩:=rv.one;obtain⟨u,rfl⟩:=ru;unfold HY at hok;rw[Al]at hok;have z1:z.length<=sizeLine:=by have:=BS hok.1;rw[BV];omega
 have z2:(Us z (EJ z y 0 z.length (z.length+1)) y.length).length<=sizeLine:=by have:=BS hok.2;rw[BV];omega
 have one:∀(l:Ac Ag)(its:Ac Aj)(tk:Af),Er z y=l->l.length<=sizeLine->AX (l.map V.str) its->EP X pI Y Q (.ref s.heap.objs.size) { s with heap:=s.heap.push { cls:=.type "list",data:=.seq its.toArray },toks:=tk }:=λl its tk e hl hv=>
  ⟨.ref s.heap.objs.size,_,I.laid (t':=tk) (o:=.lst (l.map V.str)) (λb ob q=>At _ q) (AK _) ⟨by rw[BO];exact hl,its,0,hv,AY _ rfl⟩,rfl,by rw[<-e];exact q _ (I.hok.fresh (AK _))⟩
 have self1:1<=sizeLine:=by decide
 cases h1:(decide (z.length<y.length)||decide (Ut z<Ut y))
 .cases hf:(EJ z y 0 z.length (z.length+1)).isEmpty
  .exact F6 DH (EG _ _ _) EK (En _ _) (meets_str_split_sep z y t u h1 hy hf z1 z2) (one _ _ _ ((AO (Fv h1)).trans (AO (Fv hf))) z2 (Pp _ _))
  .exact F6 DH (EG _ _ _) EK (En _ _) (meets_str_split_not_found z y t u h1 hy hf) (one [z] [.str z t] s.toks ((AO (Fv h1)).trans (AE hf)) self1 (.cons ⟨_,rfl⟩ .nil))
 .exact F6 DH (EG _ _ _) EK (En _ _) (meets_str_split_cannot_occur z y t u h1) (one [z] [.str z t] s.toks (AE h1) self1 (.cons ⟨_,rfl⟩ .nil))
theorem Pb{K:Fg}{H:Hp}{A:Ak->Prop}:∀ l:Ac Ag,Reps K CL H A (l.map V.str) (l.map D.str)
 |[]=>trivial
 |_::r=>⟨rfl,Pb r⟩
theorem XF{o:Am}{y:Ag}{fo:Rho->R D}(ho:ST X CL W o fo)(hbase:CM o "split" X.env (eval o X.env)=eval o X.env)(hline:(apos.endLine==cpos.line)=Ab):SC X CL W Ab (.Call (.Attribute o "split" apos) [.Constant (.str y) k p] [] cpos) (λU=>(fo U).bind λx=>biD .ssplit [x,.str y]):=λA=>
 PE.weak (NR U_3 DH PySem.F.type_str_split Xq (ho A) (Dt (La (X:=X) (CL:=CL) (W:=W) A) EQ rfl) hbase rfl hline rfl rfl) λY H Q ⟨hA,U,g,q⟩=>⟨hA,U,g,AT.bind q λd v H1 _ s1 r1 p1=>by
  cases d with
  |str z=>
   have e:=r1.str_of;subst e;refine⟨rfl,hA.same s1,U,g.same s1,λv' H2 s2 r2=>?_⟩
   have e2:v'=.str y:=r2;subst e2;have p2:AT (C9 X.K CL Ab H A) W H1 (if (!(y.length==0)&&HY z y)=Ab then .ok (.lst ((Er z y).map D.str)) else .bad) Q:=p1
   split at p2
   .rename_i hk;rw[Al,Bi]at hk;exact⟨z,y,rfl,rfl,hk.1,hk.2,λa ha=>p2 _ _ (s2.trans (Eb ha _)) (Il (s1.trans s2) ((hA.same s1).same s2) ha (Pb _))⟩
   .exact p2.elim
  | _=>exact p1.elim⟩
theorem eQ:Hi X CL W (.type "str") (biD .str):=by
  intro A pI s Y H xs us Q I r ⟨hA,ds,rs,p⟩
  match ds,rs,p with
  |[.int i],rs,p=>
    obtain⟨v,rfl,rv⟩:=rs.one;have e:=rv.int_of;subst e;have p2:AT (λH=>Rep X.K CL H A) W H (if Km i=Ab then .ok (.str (Ay (toString i))) else .bad) Q:=p
    split at p2
    · rename_i hk;have hk':i.natAbs<1000:=AH hk;exact V9 pI s Y H _ us Q I r ⟨i,rfl,DD (Gg _) (Nat.lt_trans hk' (by decide)),p2 _ H (Aw.refl H) rfl⟩
    · exact p2.elim
  |[.bl _],_,p=>exact p.elim
  |[],_,p=>exact p.elim
  |[.non],_,p=>exact p.elim
  |[.str _],_,p=>exact p.elim
  |[.tup _],_,p=>exact p.elim
  |[.lst _],_,p=>exact p.elim
  |[.obj _ _],_,p=>exact p.elim
  |[.exc _ _],_,p=>exact p.elim
  |[.dic _],rs,p=>first|exact p.elim|(obtain⟨v,rfl,rv⟩:=rs.one;exact rv.plain.elim)
  |x::_::_,_,p=>cases x<;>exact p.elim
end
structure OCls (K:Fg) (C:Ak):Prop where
 cl:Cls K C
 np:HK K C "p"
 nt:HK K C "triple"
 ha:Ar K (.ref C) "__class__" = Aa (Aa (.builtin "object.__class__"))
 hn:BF K (.builtin "object.__class__") "__get__" = Aa (Aa (.builtin "getset_descriptor.__get__"))
 htk:GA K (.builtin "object.__class__")=Aa Ab
 hm:EZ K C (.type "object")=Aa Ab
theorem Pc{K:Fg}{CL:ClA}{H:Hp}{A:Ak->Prop}{f:Ag}:∀{vs:Ac (Ag×V)}{fs:Ac (Ag×D)},Repf K CL H A vs fs->fs.lookup f=Ae->vs.lookup f=Ae
 |[],[],_,_=>rfl
 |v::vs,(n,d)::fs,h,q=>by
  obtain⟨⟨e,_⟩,h2⟩:=h;obtain⟨m,y⟩:=v;have e':m=n:=e;subst e';by_cases z:(f==m)=Ab
  .simp only[CP,z]at q;cases q
  .have z':(f==m)=Ad:=by simpa using z
   simp only[CP,z']at q ⊢;exact Pc h2 q
 |[],_::_,h,_=>h.elim
 |_::_,[],h,_=>h.elim
section
variable{CL:ClA}{K:Fg}{H:Hp}{A:Ak->Prop}{x C dx:Ak}{vs:Ac (Ag×V)}{o:HO}
mutual
theorem Rm(hx:H x=Aa (.ins C dx vs)):∀(n:Af)(d:D){v:V},nlD n d=Ab->Rep K CL H A v d->Rep K CL (upd H x o) A v d
 |_,.non,_,_,h=>h
 |_,.bl _,_,_,h=>h
 |_,.int _,_,_,h=>h
 |_,.str _,_,_,h=>h
 |0,.tup _,_,hn,_=>by cases hn
 |n+1,.tup ds,_,hn,h=>by
  obtain⟨a,xs,e,na,s,r⟩:=h;refine⟨a,xs,e,na,?_,nls_ins hx n ds hn r⟩;rcases s with s|s
  .rcases s with s|⟨ob,s⟩
   .exact .inl (.inl (by rw[A6 λz=>by rw[z,hx]at s;cases s];exact s))
   .exact .inl (.inr ⟨ob,by rw[A6 λz=>by rw[z,hx]at s;cases s];exact s⟩)
  .exact .inr s
 |n,.lst _,_,hn,_=>by cases n<;>cases hn
 |n,.obj _ _,_,hn,_=>by cases n<;>cases hn
 |n,.exc _ _,_,hn,_=>by cases n<;>cases hn
 |n,.dic _,_,hn,_=>by cases n<;>cases hn
theorem nls_ins(hx:H x=Aa (.ins C dx vs)):∀(n:Af)(ds:Ac D){us:Ac V},ds.all (nlD n)=Ab->Reps K CL H A us ds->Reps K CL (upd H x o) A us ds
 |_,[],[],_,h=>h
 |n,d::ds,_::_,hn,h=>by
  simp only[D2,Al]at hn;exact⟨Rm hx n d hn.1 h.1,nls_ins hx n ds hn.2 h.2⟩
 |_,[],_::_,_,h=>h.elim
 |_,_::_,[],_,h=>h.elim
end
theorem M5{v:V}{fs:Ac (Ag×D)}(r:B6 K CL H A v (.obj c fs)):∃ a C dx vs,v=.ref a/\¬ A a/\OC K c=Aa C/\H a=Aa (.ins C dx vs)/\Repf K CL H A vs fs:=by
 rcases r with r|⟨a,xs,ds,_,z,_⟩
 .exact r
 .cases z
end
section
variable{X:Cx}{CL:ClA}{W:XW}{a:Am}{fa:Rho->R D}
theorem aX{f:Ag}(ho:∀ c C,OC X.K c=Aa C->Cls X.K C/\HK X.K C f)(ha:ST X CL W a fa)(hb:CM a f X.env (eval a X.env)=eval a X.env):SE X CL W (.Attribute a f pos) (λU=>(fa U).bind λx=>ofD x f):=λA=>by
 intro pI s Y H Q I ⟨hA,U,gd,q⟩;refine QK hb (thn (ha A pI s Y H _ I ⟨hA,U,gd,AT.bind q (Q':=λv H1=>∃ d,B6 X.K CL H1 A v d/\AT (λH2=>Rep X.K CL H2 A) W H1 (ofD d f) Q) λd v H1 _ s1 r1 p1=>⟨d,r1,p1⟩⟩) λu s1 ⟨v,H1,I1,rv,d,rp,p1⟩=>?_)
 cases d with
 |obj c fs=>
  have p2:AT (λH2=>Rep X.K CL H2 A) W H1 (match fs.lookup f with|some d=>.ok d|none=>.bad) Q:=p1
  cases el:fs.lookup f with
  |none=>rw[el]at p2;exact p2.elim
  |some d=>
   rw[el]at p2;obtain⟨e,C,dx,vs,rfl,_,hc,hH,rf⟩:=M5 rp;obtain⟨y,l,ry⟩:=Mv rf el;cases rv;obtain⟨k1,k2⟩:=ho c C hc;exact getattr_ok I1 hH k1 k2 l λu s' I2 ru=>⟨y,H1,I2,ru,p2 y H1 (Aw.refl H1) ry⟩
 |_=>exact p1.elim
theorem bD(hoc:∀ c C,OC X.K c=Aa C->OCls X.K C)(hg:Gl X "isinstance")(hm:X.mg "isinstance" = Ae)(hg2:Gl X x)(hm2:X.mg x=Aa (.ref C'))(hkit:∀ c C,OC X.K c=Aa C->Do X.K (.ref C) (.ref C')=Aa ((oup c).contains k))(hdb:(x==("__debug__" : Ag))=Ad)(ha:ST X CL W a fa)(he:Aq [a,.Name x p2] X.env=(Ad,eval a X.env)::Aq [.Name x p2] X.env):SE X CL W (.Call (.Name "isinstance" p) [a,.Name x p2] [] pos) (λU=>(fa U).bind λx=>Kn k x):=λA=>
 PE.weak (IS (r:=λxs H Q=>∃ a C dx vs c,xs=[.ref a,.ref C']/\OC X.K c=Aa C/\H a=Aa (.ins C dx vs)/\Q (.bl ((oup c).contains k)) H) (λpI s Y H xs us Q I r ⟨b,C,dx,vs,c,e,hc,hH,q⟩=>by
   subst e;obtain⟨u,w',rfl,r1,r2⟩:=HN r;cases r2;have o:=hoc c C hc;exact isinst_ok I r1 (.ins hH o.cl o.ha o.hn o.htk o.hm) (hkit c C hc) λtk=>⟨.bl _,H,I.tok tk,rfl,q⟩)
  hg hm Ei (Dt (ha A) (Dt (M8 (v:=.ref C') hg2 hm2 rfl hdb) EQ rfl) he) (by decide) (by decide) he rfl) λY H Q ⟨hA,U,g,q⟩=>⟨hA,U,g,AT.bind q λd v H1 _ s1 r1 p1=>by
   cases d with
   |obj c fs=>
    obtain⟨b,C,dx,vs,rfl,_,hc,hH,_⟩:=M5 r1;exact⟨b,C,dx,vs,c,rfl,hc,hH,p1 _ H1 (Aw.refl H1) rfl⟩
   | _=>exact p1.elim⟩
theorem YK{m:Ag}{ms:Ac (Af×Af)}{F:Af->Ac D->R D}(hr:Room k X.A)(hx:∀ A,HJ (CXR X.prog X.w) X (EKW X.K CL A W))(ha:ST X CL W a fa)(hms:∀ c id C,ms.lookup c=Aa id->OC X.K c=Aa C->∃ f fd ps fr,Cls X.K C/\Meth X.K C m f/\Ed X.K fd ps []/\FnOk X.prog X.w X.K X.mg X.base (CXR X.prog X.w) k f fd ps (spD X.K CL 1 fr (F id)))(hbase:CM a m X.env (eval a X.env)=eval a X.env)(hline:(apos.endLine==pos.line)=Ab):SE X CL W (.Call (.Attribute a m apos) [] [] pos) (λU=>(fa U).bind λx=>IE F m ms x):=λA=>by
 intro pI s Y H Q I ⟨hA,U,gd,q⟩;rw[arm_eval_Call,hbase];refine Ap (thn (ha A pI s Y H (λv H1=>Aw H H1/\∃ d,B6 X.K CL H1 A v d/\AT (λH2=>Rep X.K CL H2 A) W H1 (IE F m ms d) Q) I ⟨hA,U,gd,AT.bind q λd v H1 _ s1 r1 p1=>⟨s1,d,r1,p1⟩⟩) λu s1 ⟨v,H1,I1,rv,s1',d,rp,p1⟩=>?_)
 refine Ap (DB ?_);have hform:VQ (([]:Ac Am).length+([]:Ac DO).length) (Bq pos (Aq [] X.env)) (G2 pos (FM [] X.env))=Ab:=rfl;have hpos:FV Ab a X.env apos pos=pure pos:=by
  unfold FV;simp[hline]
 unfold methodCall;rw[hform];cases d with
 |obj c fs=>
  have p2:AT (λH2=>Rep X.K CL H2 A) W H1 (match ms.lookup c with|some id=>if (fs.lookup m).isNone=Ab then F id [.obj c fs] else .bad|none=>.bad) Q:=p1
  cases el:ms.lookup c with
  |none=>rw[el]at p2;exact p2.elim
  |some id=>
   rw[el]at p2;dsimp only at p2;split at p2
   .rename_i hn;obtain⟨e,C,dx,vs,rfl,na,hc,hH,rf⟩:=M5 rp;obtain⟨f,fd,ps,fr,cl,me,hb,G⟩:=hms c id C el hc;cases rv;refine Ap (D6 (getmeth_ok I1 hH cl me (Pc rf (Db.mp hn)) ?_));refine Ap (GD hpos ?_);refine PySem.W.callWith_K0 (first:=[.ref e]) I1.kIn me.kp (Rg (us:=[.ref e]) (vs:=[.ref e]) G hr hb .nil (hx A) I1 (.cons rfl .nil) ?_)
    refine⟨[.obj c fs],A,rfl,hA.same s1',⟨⟨e,C,dx,vs,rfl,na,hc,hH,rf⟩,trivial⟩,?_⟩;cases e2:F id [.obj c fs] with
    |ok d=>rw[e2]at p2;exact λv H2 s2 r2=>p2 v H2 s2 r2.1
    |exn y=>rw[e2]at p2;exact λcls dx H2 s2 xr=>⟨y,xr,p2 H2 s2⟩
    |bad=>rw[e2]at p2;exact p2.elim
   .exact p2.elim
 |_=>exact p1.elim
def spI(K:Fg)(CL:ClA)(G:Ac D->R D):Sp:=λvs H Q _=>∃(x C dx:Ak)(us:Ac V)(ds:Ac D)(A:Ak->Prop)(H0:Hp),vs=.ref x::us/\us.length=2/\Cls K C/\HK K C "p"/\HK K C "triple"/\H x=Aa (.ins C dx [])/\H0 x=Ae/\Aw H0 H/\AOk H0 A/\Reps K CL H0 A us ds/\(match G ds with
  |.ok d=>∀ d1 d2,d=.tup [d1,d2]->∀ v1 v2 H',Aw H0 H'->H' x=Aa (.ins C dx [("p",v1),("triple",v2)])->Rep K CL H' A v1 d1->Rep K CL H' A v2 d2->Q .non H'
  | _=>AV)
theorem Zn{Q:VK}(p:AT Rp W H (DT c d) Q):∃ d1 d2,d=.tup [d1,d2]/\DT c d=.ok (.obj c [("p",d1),("triple",d2)]):=by
  cases d with
  |tup ds=>
    match ds,p with
    |[],p=>exact p.elim
    |[_],p=>exact p.elim
    |_::_::_::_,p=>exact p.elim
    |[a,b],p=>
      refine⟨a,b,rfl,?_⟩;have p2:AT Rp W H (if nlD 5 b=Ab then .ok (.obj c [("p",a),("triple",b)]) else .bad) Q:=p
      show (if nlD 5 b=Ab then R.ok (D.obj c [("p",a),("triple",b)]) else .bad)=_
      split at p2
      · rename_i z;rw[AE z]
      · exact p2.elim
  |_=>exact p.elim
theorem YL{C f:Ak}{np pos:Az}{e:Am}{es:Ac Am}{fs:Rho->R (Ac D)}{G F:Ac D->R D}(M:Mk X.K C f)(hoc:OC X.K c=Aa C)(o:OCls X.K C)(FI:FnOk X.prog X.w X.K X.mg X.base (CXR X.prog X.w) k f fd ["self", "p", "numbers"] (spI X.K CL G))(hr:Room (k+1) X.A)(hb:Ed X.K fd ["self", "p", "numbers"] [])(hx:∀ A,HJ (CXR X.prog X.w) X (EKW X.K CL A W))(hF:∀ ds,ds.length=2->F ds=.bad\/F ds=(G ds).bind (DT c))(hG:∀ ds y,G ds≠.exn y)(hg:Gl X g)(hm:X.mg g=Aa (.ref C))(hdb:(g==("__debug__" : Ag))=Ad)(ha:SA X CL W (e::es) fs)(hn:∀ U ds,fs U=.ok ds->ds.length=2)(he:Aq (e::es) X.env=(Ad,eval e X.env)::Aq es X.env)(hpl:(Bq pos (Aq es X.env)).any (·.1)=Ad):SE X CL W (.Call (.Name g np) (e::es) [] pos) (λU=>(noX (fs U)).bind λds=>F ds):=λA=>by
 intro pI s Y H Q I ⟨hA,U,gd,p⟩;dsimp only at p;refine CC (GH I hg hm ?_ hdb);have q1:=ha A pos pI s Y H (λvs H1=>∃ ds,Aw H H1/\ds.length=2/\Reps X.K CL H1 A vs ds/\AT (λH=>Rep X.K CL H A) W H (F ds) Q) I ⟨hA,U,gd,by
  cases e1:fs U with
  |bad=>rw[e1]at p;exact p
  |exn y=>rw[e1]at p;exact p.elim
  | ok ds=>rw[e1]at p;exact λvs H1 s1 r1=>⟨ds,s1,hn U ds e1,r1,p⟩⟩
 refine DE (h₀:=X.base) I.ok.mod.kin M.kp (thn q1 λus s1 ⟨vs,H1,I1,r,ds,sm,hl,rps,q⟩=>⟨I1.kIn,?_⟩) he hpl
 rcases hF ds hl with z|z
 .rw[z]at q;exact q.elim
 .rw[z]at q;cases e2:G ds with
  |bad=>rw[e2]at q;exact q.elim
  |exn y=>exact absurd e2 (hG ds y)
  |ok d=>
   rw[e2]at q;have q':AT (λH=>Rep X.K CL H A) W H (DT c d) Q:=q
   obtain⟨d1,d2,rfl,em⟩:=Zn q';rw[em]at q';refine run_make (Q:=Q) (E:=EKW X.K CL A W) M FI hr hb .nil (hx A) I1 r λx dx nx ndx ne=>?_
   refine⟨x,C,dx,vs,ds,A,H1,by rw[Cc],by rw[rps.length];exact hl,o.cl,o.np,o.nt,Di,nx,λb ob h=>?_,hA.same sm,rps,?_⟩
   .have n1:b≠x:=λz=>by rw[z,nx]at h;cases h
    have n2:b≠dx:=λz=>by rw[z,ndx]at h;cases h
    rw[A6 n1,A6 n2];exact h
   .rw[e2];exact λe1 e3 ee v1 v2 H' sm2 hx' r1 r2=>by
     cases ee;exact⟨rfl,q' _ H' (sm.trans sm2) ⟨x,C,dx,_,rfl,(hA.same sm).new nx,hoc,hx',⟨⟨rfl,r1⟩,⟨rfl,r2⟩,trivial⟩⟩⟩
theorem W2{p0 p4 p5 p6:Az}{id:Af}{t0:Cx}{H0:Hp}{x dx:Ak}{v1 v2:V}{Q:VK}(pself:∀ p,PE X (.Name "self" p) (DZ 0))(pp:∀ p,PE X (.Name "p" p) (DZ 1))(hv:SE X CL W ev (λU=>evE Z U (.call id (.cons (.var 1) (.cons (.var 2) .nil)))))(hs:CB ev (Aa (.Attribute (.Name "self" p3) "triple" p4)) p5.line X.env=pure Ad):
    ∃ t,PSs X [.Assign [.Attribute (.Name "self" p0) "p" p1] (.Name "p" p2) p6,.Assign [.Attribute (.Name "self" p3) "triple" p4] ev p5] t /\
      (Y=[Aa (.ref x),Aa v1,Aa v2]->Cls X.K C->HK X.K C "p"->HK X.K C "triple"->H x=Aa (.ins C dx [])->H0 x=Ae->Aw H0 H->AOk H0 A->Rep X.K CL H0 A v1 d1->Rep X.K CL H0 A v2 d2 ->
        (∃ t,Z.F id [d1,d2]=.ok t/\nlD 5 t=Ab/\∀ w1 w2 H',Aw H0 H'->H' x=Aa (.ins C dx [("p",w1),("triple",w2)])->Rep X.K CL H' A w1 d1->Rep X.K CL H' A w2 t->Q .non H')->t {nx:=λ_ H'=>Q .non H',rt:=Q} Y H):=by
  have all:=Mw (ps_fld (X:=X) (f := "p") (pos:=p6) (pos':=p1) (pself p0) (pp p2) rfl) (Ja (ps_fld (X:=X) (f := "triple") (pos:=p5) (pos':=p4) (pself p3) (hv A) hs));refine⟨_,all,?_⟩;rintro rfl cl np nt hx h0 sm hA r1 r2 ⟨t,ef,hnl,q⟩;have nx:∀ b o,H0 b=Aa o->b≠x:=λb o e z=>by rw[z,h0]at e;cases e
  have sm2:Aw H0 (upd H x (.ins C dx (LF "p" v1 []))):=λb o e=>by rw[A6 (nx b o e)];exact sm b o e
  refine⟨v1,rfl,.ref x,rfl,x,C,dx,[],rfl,hx,cl,np,by decide,hA.same sm2,[Ae,Aa (d1,Ad),Aa (d2,Ad)],⟨λi d h=>?_,λi d h=>?_,rfl⟩,?_⟩
  · match i,h with
    |0,h=>cases h
    |1,h=>cases h;exact⟨v1,rfl,Rep.same sm2 r1⟩
    |2,h=>cases h;exact⟨v2,rfl,Rep.same sm2 r2⟩
    |n+3,h=>cases h
  · match i,h with
    |0,h=>cases h
    |1,h=>cases h
    |2,h=>cases h
    |n+3,h=>cases h
  · have ee:evE Z [Ae,Aa (d1,Ad),Aa (d2,Ad)] (.call id (.cons (.var 1) (.cons (.var 2) .nil)))=.ok t:=by
      show ((Z.F id [d1,d2]).bind λd=>.ok d)=_
      rw[ef];rfl
    dsimp only;rw[ee];intro w2 H3 s3 r3;have hx3:H3 x=Aa (.ins C dx [("p",v1)]):=s3 _ _ Di;refine⟨.ref x,rfl,x,C,dx,[("p",v1)],rfl,hx3,cl,nt,show 1<1000 by decide,?_⟩
    have sm4:Aw H0 (upd H3 x (.ins C dx (LF "triple" w2 [("p",v1)]))):=λb o e=>by rw[A6 (nx b o e)];exact s3 _ _ (sm2 b o e)
    exact q v1 w2 _ sm4 Di (Rep.same sm4 r1) (Rm hx3 5 t hnl r3)
end
theorem Nl{i:Af}(h:EC U i=Ab):U[i]?=Aa (Aa (.non,Ab)):=by
 unfold EC at h;split at h
 .rename_i e;exact e
 .cases h
theorem GI{i:Af}(hi:U[i]?=Aa (Aa (d,Ab)))(j:Af)(e:D):(U.set i (Aa (d',Ab)))[j]?=Aa (Aa (e,Ab))↔(i=j/\e=d')\/(i≠j/\U[j]?=Aa (Aa (e,Ab))):=by
 have hil:=(AW.mp hi).1;by_cases hj:i=j
 .subst hj;rw[B7 hil];simp;exact⟨λz=>z.symm,λz=>z.symm⟩
 .rw[Bv hj];simp[hj]
theorem G8{i:Af}(hi:U[i]?=Aa (Aa (d,Ab)))(b:Ak):Ba B (U.set i (Aa (d',Ab))) Y b↔Ba B U Y b:=by
 constructor
 .rintro (h|⟨j,e,h1,h2⟩)
  .exact .inl h
  .rcases (GI hi j e).mp h1 with ⟨rfl,_⟩|⟨_,h1⟩
   .exact .inr ⟨i,d,hi,h2⟩
   .exact .inr ⟨j,e,h1,h2⟩
 .rintro (h|⟨j,e,h1,h2⟩)
  .exact .inl h
  .by_cases hj:i=j
   .subst hj;exact .inr ⟨i,d',(GI hi i _).mpr (.inl ⟨rfl,rfl⟩),h2⟩
   .exact .inr ⟨j,e,(GI hi j e).mpr (.inr ⟨hj,h1⟩),h2⟩
section
variable{K:Fg}{CL:ClA}{Fz Fy:Fr}{B:Ak->Prop}{U:Rho}{Y:L2.St}{H:Hp}{W:XW}
theorem Sx.dis2(x:Sx K CL Fz B U Y H){i:Af}(hi:U[i]?=Aa (Aa (d,Ab)))(j k:Af)(e f:D)(b:Ak)(g1:(U.set i (Aa (d',Ab)))[j]?=Aa (Aa (e,Ab)))(g2:(U.set i (Aa (d',Ab)))[k]?=Aa (Aa (f,Ab)))(g3:Y[j]?=Aa (Aa (.ref b)))(g4:Y[k]?=Aa (Aa (.ref b))):j=k:=by
 rcases (GI hi j e).mp g1 with ⟨rfl,_⟩|⟨hj,h'⟩
 .rcases (GI hi k f).mp g2 with ⟨rfl,_⟩|⟨hk,h''⟩
  .rfl
  .exact x.dis i k d f b hi h'' g3 g4
 .rcases (GI hi k f).mp g2 with ⟨rfl,_⟩|⟨hk,h''⟩
  .exact x.dis j i e d b h' hi g3 g4
  .exact x.dis j k e f b h' h'' g3 g4
theorem Sx.new2(x:Sx K CL Fz B U Y H){i:Af}(hi:U[i]?=Aa (Aa (d,Ab)))(j:Af)(e:D)(b:Ak)(g1:(U.set i (Aa (d',Ab)))[j]?=Aa (Aa (e,Ab)))(g2:Y[j]?=Aa (Aa (.ref b))):((∀ o,¬ Fz b o)/\¬ B b)/\∃(j:Af)(d:D),U[j]?=Aa (Aa (d,Ab))/\Y[j]?=Aa (Aa (.ref b)):=by
 rcases (GI hi j e).mp g1 with ⟨rfl,_⟩|⟨_,h'⟩
 .exact⟨x.new i d b hi g2,i,d,hi,g2⟩
 .exact⟨x.new j e b h' g2,j,e,h',g2⟩
theorem Sx.sh2(x:Sx K CL Fz B U Y H){i:Af}(hi:U[i]?=Aa (Aa (d,Ab)))(j:Af)(e:D)(h:(U.set i (Aa (d',Ab)))[j]?=Aa (Aa (e,Ad))):∃ v,Y[j]?=Aa (Aa v)/\Rep K CL H (Ba B (U.set i (Aa (d',Ab))) Y) v e:=by
 have hj:i≠j:=by
  rintro rfl;have:=Fl h;cases this
 rw[Bv hj]at h;obtain⟨v,q,r⟩:=x.good.sh j e h;exact⟨v,q,Rep.sub (λb hb=>(G8 hi b).mp hb) _ r⟩
theorem Sx.pinned(x:Sx K CL Fz B U Y H){i:Af}{ds:Ac D}{a:Ak}{xs:Ac V}(hi:U[i]?=Aa (Aa (.lst ds,Ab)))(ha:Y[i]?=Aa (Aa (.ref a)))(hh:H a=Aa (.lst xs)):Sx K CL ⟨λb o=>H b=Aa o/\¬ ∃(j:Af)(d:D),U[j]?=Aa (Aa (d,Ab))/\Y[j]?=Aa (Aa (.ref b)),λj b ys=>(j=i/\b=a/\ys=xs)\/(j≠i/\Fz.pin j b ys)⟩ B (U.set i (Aa (.non,Ab))) Y H:=by
 refine⟨⟨x.sh2 hi,λj e h hn=>?_,by rw[AR];exact x.len⟩,λb h=>x.aok b ((G8 hi b).mp h),λj e b g1 g2=>⟨λo z=>z.2 (x.new2 hi j e b g1 g2).2,(x.new2 hi j e b g1 g2).1.2⟩,x.dis2 hi,λb o z=>z.1,by rw[AR];exact x.len,λj h=>?_⟩
 .rcases (GI hi j e).mp h with ⟨_,rfl⟩|⟨hj,h'⟩
  .exact absurd rfl hn
  .obtain⟨b,ys,es,q,z,hb,h2,rr⟩:=x.good.ow j e h' hn;exact⟨b,ys,es,q,z,(G8 hi b).mpr hb,h2,Reps.sub (λb hb=>(G8 hi b).mp hb) _ rr⟩
 .by_cases hj:i=j
  .exact⟨a,xs,.inl ⟨hj.symm,rfl,rfl⟩,hj ▸ ha,hh⟩
  .rw[Bv hj]at h;obtain⟨b,ys,p1,p2⟩:=x.pin j h;exact⟨b,ys,.inr ⟨CV hj,p1⟩,p2⟩
theorem Sx.unpinned(x:Sx K CL Fy B U Y H){i:Af}{ds:Ac D}{a:Ak}{xs:Ac V}(hi:U[i]?=Aa (Aa (.non,Ab)))(hf:∀ b o,Fz b o->Fy b o)(hpn:∀ j b ys,Fy.pin j b ys->(j=i/\b=a/\ys=xs)\/(j≠i/\Fz.pin j b ys))(r:Reps K CL H (Ba B U Y) xs ds):Sx K CL Fz B (U.set i (Aa (.lst ds,Ab))) Y H:=by
 refine⟨⟨x.sh2 hi,λj e h hn=>?_,by rw[AR];exact x.len⟩,λb h=>x.aok b ((G8 hi b).mp h),λj e b g1 g2=>⟨λo z=>(x.new2 hi j e b g1 g2).1.1 o (hf b o z),(x.new2 hi j e b g1 g2).1.2⟩,x.dis2 hi,λb o z=>x.same b o (hf b o z),by rw[AR];exact x.len,λj h=>?_⟩
 .rcases (GI hi j e).mp h with ⟨rfl,rfl⟩|⟨hj,h'⟩
  .obtain⟨b,ys,p1,p2,p3⟩:=x.pin i hi;rcases hpn i b ys p1 with ⟨_,rfl,rfl⟩|⟨z,_⟩
   .exact⟨b,ys,ds,p2,rfl,(G8 hi b).mpr (.inr ⟨i,.non,hi,p2⟩),p3,Reps.sub (λb hb=>(G8 hi b).mp hb) _ r⟩
   .exact absurd rfl z
  .obtain⟨b,ys,es,q,z,hb,h2,rr⟩:=x.good.ow j e h' hn;exact⟨b,ys,es,q,z,(G8 hi b).mpr hb,h2,Reps.sub (λb hb=>(G8 hi b).mp hb) _ rr⟩
 .rcases (GI hi j _).mp h with ⟨_,z⟩|⟨hj,h'⟩
  .cases z
  .obtain⟨b,ys,p1,p2⟩:=x.pin j h';rcases hpn j b ys p1 with ⟨z,_⟩|⟨_,z⟩
   .exact absurd z.symm hj
   .exact⟨b,ys,z,p2⟩
theorem Bh.turnO{i:Af}{ds:Ac D}{o:O}{g:Rho->O}{D':Ends}{N:L2.St->Hp->Prop}(hf:∀ b q,Fz b q->Fy b q)(hu:∀ U' Y' H',Sx K CL Fy B U' Y' H'->EC U' i=Ab->Sx K CL Fz B (U'.set i (Aa (.lst ds,Ab))) Y' H')(h:Bh K CL Fz B W (He i ds (o.turn g)) D')(k:∀ U' Y' H',Sx K CL Fy B U' Y' H'->Bh K CL Fz B W (He i ds (g U')) D'->N Y' H'):Bh K CL Fy B W o {D' with nx:=N,ct:=N,bk:=D'.nx}:=by
 cases o with
 |next U'=>exact λY' H' x=>k U' Y' H' x h
 |cont U'=>exact λY' H' x=>k U' Y' H' x h
 |brk U'=>
  have h':Bh K CL Fz B W (if EC U' i=Ab then .next (U'.set i (Aa (.lst ds,Ab))) else .bad) D':=h
  by_cases hp:EC U' i=Ab
  .rw[AE hp]at h';exact λY' H' x=>h' Y' H' (hu U' Y' H' x hp)
  .rw[AO hp]at h';exact h'.elim
 |ret d b=>exact λv H' s r n=>h v H' (λb o z=>s b o (hf b o z)) r λz ds e=>let ⟨a,xs,h1,h2,h3⟩:=n z ds e;⟨a,xs,h1,λo q=>h2 o (hf a o q),h3⟩
 |exn y U'=>exact h.elim
 |bad=>exact h
end
section
variable{X:Cx}{CL:ClA}{W:XW}
theorem YD{i:Af}{es:Ac Am}{n:Af}{tpos:Az}{a:Am}{fbd:Rho->O}{as:D->Rho->R Rho}{g:TG}(hp:Dl (model X.prog X.w) X.A X.env X.xe)(hc:X.calm=Ab)(hGT:GT X.K CL as g)(hg:PG X (.Tuple es n tpos) g)(ha:PE X a (DZ i))(hgl:Gl X "enumerate")(hm:X.mg "enumerate" = Ae)(hst:Aq [a] X.env=[(Ad,eval a X.env)])(hb:SSs X CL W body fbd)(hs:∀ x,B8 (.Call (.Name "enumerate" p1) [a] [] cpos) X.env x=pure x)(hax:∀ d U x,as d U≠.exn x):
  SS X CL W (.For (.Tuple es n tpos) (.Call (.Name "enumerate" p1) [a] [] cpos) body [] pos) (λU=>O.of U (CS U i) λxs=>He i xs (Cd (λx U'=>if EC U' i=Ab then O.of U' (as x U') fbd else .bad) (Cj 0 xs) (U.set i (Aa (.non,Ab))))):=λFz B pI s Y H D I ⟨U,x,p⟩=>by
 dsimp only at p;cases e:CS U i with
 |bad=>rw[e]at p;exact p.elim
 |exn y=>exact(Pt e).elim
 |ok ds=>
  rw[e,O.of_ok]at p;have hi:=Qo e;obtain⟨a',xs,ds',qa,e2,oa,hh,r⟩:=x.good.ow i _ hi (λz=>nomatch z)
  have ez:ds=ds':=by injection e2
  subst ez;refine Rh hp hc (Qj hgl hm (Dt ha EQ hst) hst) hg (tb:=λD Y H=>∃ Fy,(λD Y H=>∃ U,Sx X.K CL Fy B U Y H/\Bh X.K CL Fy B W (fbd U) D) D Y H) (λpI s Y H D I ⟨Fy,q⟩=>hb Fy B pI s Y H D I q) hs pI s Y H D I ?_
  refine⟨.ref a',qa,Ad,a',xs,rfl,SqL.of hh,λhz=>?_⟩
  generalize hbd:(fun(x:Ov.D)(U':Rho)=>if EC U' i=Ab then O.of U' (as x U') fbd else .bad)=bd at p
  let Fy:Fr:=⟨λb o=>H b=Aa o/\¬ ∃(j:Af)(d:Ov.D),U[j]?=Aa (Aa (d,Ab))/\Y[j]?=Aa (Aa (.ref b)),λj b ys=>(j=i/\b=a'/\ys=xs)\/(j≠i/\Fz.pin j b ys)⟩
  have hfy:∀ b o,Fz b o->Fy b o:=λb o z=>⟨x.same b o z,λ⟨j,d,h1,h2⟩=>(x.new j d b h1 h2).1 o z⟩
  have xy:Sx X.K CL Fy B (U.set i (Aa (.non,Ab))) Y H:=x.pinned hi qa hh;have wd:∀{U':Rho}{Y':L2.St}{H':Hp},Sx X.K CL Fy B U' Y' H'->∀ b,Ba B U' Y' b->Ba B U Y b\/H b=Ae:=λ{U' Y' H'} x' b hb'=>by
   rcases hb' with h|⟨j,d,h1,h2⟩
   .exact .inl (.inl h)
   .cases e:H b with
    |none=>exact .inr rfl
    |some o=>
     by_cases ho:∃(j:Af)(d:Ov.D),U[j]?=Aa (Aa (d,Ab))/\Y[j]?=Aa (Aa (.ref b))
     .exact .inl (.inr ho)
     .exact absurd ⟨e,ho⟩ ((x'.new j d b h1 h2).1 o)
  have kpx:∀{U':Rho}{Y':L2.St}{H':Hp},Sx X.K CL Fy B U' Y' H'->Kp (Ba B U Y) H H':=λ{U' Y' H'} x' b o e na=>x'.same b o ⟨e,λz=>na (.inr z)⟩
  have later:∀{U':Rho}{Y':L2.St}{H':Hp},Sx X.K CL Fy B U' Y' H'->Reps X.K CL H' (Ba B U' Y') xs ds:=λ{U' Y' H'} x'=>by
   have r1:Reps X.K CL H (λb=>Ba B U Y b\/Ba B U' Y' b) xs ds:=Reps.wide (λb hb'=>hb'.elim .inl (wd x' b)) _ r
   have r2:Reps X.K CL H' (λb=>Ba B U Y b\/Ba B U' Y' b) xs ds:=Reps.kp (λb o e na=>kpx x' b o e λz=>na (.inl z)) _ r1
   exact Reps.sub (λb hb'=>.inr hb') _ r2
  have hu:∀ U' Y' H',Sx X.K CL Fy B U' Y' H'->EC U' i=Ab->Sx X.K CL Fz B (U'.set i (Aa (.lst ds,Ab))) Y' H':=λU' Y' H' x' hp'=>x'.unpinned (Nl hp') hfy (λj b ys z=>z) (later x')
  refine⟨λk m Y' H'=>m=ds.length-k/\k<=ds.length/\∃ U',Sx X.K CL Fy B U' Y' H'/\Bh X.K CL Fz B W (He i ds (Cd bd ((Cj 0 ds).drop k) U')) D,⟨ds.length,by simp,D7 _,_,xy,p⟩,?_⟩
  rintro k m Y' H' ⟨rfl,hk,U',x',q'⟩;have hle:(Cj 0 ds).length=ds.length:=KQ _ _;by_cases hlt:k<ds.length
  .have hlt':k<(Cj 0 ds).length:=by rw[hle];exact hlt
   rw[Eg hlt']at q';have q2:Bh X.K CL Fz B W (He i ds ((bd (Cj 0 ds)[k] U').turn (Cd bd ((Cj 0 ds).drop (k+1))))) D:=q';have hd:(Cj 0 ds)[k]?=Aa (Cj 0 ds)[k]:=BA hlt';obtain⟨y,hy,ed⟩:=MU _ _ _ _ hd;by_cases hpin:EC U' i=Ab
   .have hpin':=Nl hpin;obtain⟨b,ys,p1',p2',p3'⟩:=x'.pin i hpin';have hab:b=a'/\ys=xs:=by
     rcases p1' with ⟨_,h1,h2⟩|⟨z,_⟩
     .exact⟨h1,h2⟩
     .exact absurd rfl z
    obtain⟨rfl,rfl⟩:=hab;have sq:SqX Ad X.K H' b ys:=SqL.of p3';obtain⟨u,hu1,ru⟩:=(later x').get hy;refine .inr ⟨⟨ys,u,sq,hu1⟩,λY'' H''=>∃ U'',Sx X.K CL Fy B U'' Y'' H''/\Bh X.K CL Fz B W (He i ds (Cd bd ((Cj 0 ds).drop (k+1)) U'')) D,λY'' H'' z=>⟨ds.length-(k+1),by omega,rfl,hlt,z⟩,?_⟩
    rintro w' H2 ⟨pp,x2,hpp,rfl,c1,rfl⟩;have ex:x2=u:=Bc ((c1 ys sq).symm.trans hu1);subst ex;have sm:Aw H' (L2.upd H' pp (.tup [.int k,x2])):=Eb hpp _;have rv:Rep X.K CL (L2.upd H' pp (.tup [.int k,x2])) (Ba B U' Y') (.ref pp) (Cj 0 ds)[k]:=by
     rw[ed,TL];exact Jb x'.aok hpp ⟨rfl,ru,trivial⟩
    have eb:bd (Cj 0 ds)[k] U'=O.of U' (as (Cj 0 ds)[k] U') fbd:=by rw[<-hbd];exact AE hpin
    rw[eb]at q2;cases ea:as (Cj 0 ds)[k] U' with
    |bad=>rw[ea]at q2;exact q2.elim
    |exn z=>exact absurd ea (hax _ _ z)
    |ok U2=>
     rw[ea,O.of_ok]at q2;exact hGT Fy B U' Y' _ _ _ U2 _ (x'.grow sm) rv ea λY3 x3=>⟨Fy,U2,x3,Bh.turnO hfy hu q2 λU3 Y3 H3 x3 q3=>⟨U3,x3,q3⟩⟩
   .have eb:bd (Cj 0 ds)[k] U'=.bad:=by rw[<-hbd];exact AO hpin
    rw[eb]at q2;exact q2.elim
  .have hk':(Cj 0 ds).length<=k:=by omega
   rw[EV hk']at q';have q2:Bh X.K CL Fz B W (if EC U' i=Ab then .next (U'.set i (Aa (.lst ds,Ab))) else .bad) D:=q'
   by_cases hpin:EC U' i=Ab
   .rw[AE hpin]at q2;obtain⟨b,ys,p1',p2',p3'⟩:=x'.pin i (Nl hpin);have hab:b=a'/\ys=xs:=by
     rcases p1' with ⟨_,h1,h2⟩|⟨z,_⟩
     .exact⟨h1,h2⟩
     .exact absurd rfl z
    obtain⟨rfl,rfl⟩:=hab;exact .inl ⟨⟨ys,SqL.of p3',by rw[(later x').length];omega⟩,q2 Y' H' (hu U' Y' H' x' hpin)⟩
   .rw[AO hpin]at q2;exact q2.elim
end
theorem noF{P:Prop}(h:Ad=Ab):P:=nomatch h
structure Tc where
 sc:BH
 N:Ac Ag
 /-- a def's name,its number,how many parameters it has -/
 fns:Ac (Ag×Af×Af)
 /-- built-in names that the text does not hide -/
 bl:Ac Ag
 /-- exceptions' classes by their names: those that are raised,all that are asked for -/
 rzs:Ac (Ag×Af)
 exs:Ac (Ag×Af)
 /-- the text's constants -/
 gls:Ac (Ag×Af)
 /-- in no comprehension -/
 tp:Ai
noncomputable def Oc(T:Tc)(x:Ag):Ai:=match T.sc.names.lookup x with
  |some .local=>Ab
  |some .cell=>Ab
  |some .free=>Ab
  |_=>Ad
noncomputable def Hl(T:Tc)(x:Ag):Ai:=match T.sc.names.lookup x with
  |some .local=>Ab
  |some .cell=>Ab
  |_=>Ad
noncomputable def glB(T:Tc)(x:Ag):Ai:=T.sc.names.lookup x==Aa .globalImplicit
noncomputable def ED(x:Ag):Ai:=(!(x==("__debug__" : Ag)) && !(x==("__classdict__" : Ag)) && !(x==("__name__" : Ag)))&&(FD.lookup x).isNone
noncomputable def isV(T:Tc)(x:Ag)(i:Af):Ai:=T.N[i]? == Aa x&&Oc T x&&ED x
noncomputable def isB(T:Tc)(x:Ag):Ai:=T.bl.contains x&&glB T x&&ED x
theorem Bg{a b:Ai}(h:(a&&b)=Ab):a=Ab/\b=Ab:=(Al a b).mp h
theorem orT{a b:Ai}(h:(a||b)=Ab):a=Ab\/b=Ab:=(BK a b).mp h
noncomputable def Ea(e:Am)(F:Ag->Ai):Ai:=if c:e.ctorIdx=23 then UP (motive_1:=λ_=>Ai) e c λx _=>F x else Ad
theorem Eu{e:Am}{F:Ag->Ai}(h:Ea e F=Ab):∃ x p,e=UO x p/\F x=Ab:=by
 by_cases c:e.ctorIdx=23
 .exact UP (motive_1:=λe=>Ea e F=Ab->∃ x p,e=UO x p/\F x=Ab) e c (λx p h=>⟨x,p,rfl,h⟩) h
 .exact noF ((Bu c).symm.trans h)
noncomputable def FX(e:Am)(F:Const->Ai):Ai:=if c:e.ctorIdx=19 then UJ (motive_1:=λ_=>Ai) e c λc _ _=>F c else Ad
theorem HE{e:Am}{F:Const->Ai}(h:FX e F=Ab):∃ c u p,e=UI c u p/\F c=Ab:=by
 by_cases c:e.ctorIdx=19
 .exact UJ (motive_1:=λe=>FX e F=Ab->∃ c u p,e=UI c u p/\F c=Ab) e c (λc u p h=>⟨c,u,p,rfl,h⟩) h
 .exact noF ((Bu c).symm.trans h)
noncomputable def Lo(e:Am)(F:Am->Ep->Am->Ai):Ai:=if c:e.ctorIdx=2 then UB (motive_1:=λ_=>Ai) e c λx o y _=>F x o y else Ad
theorem Py{e:Am}{F:Am->Ep->Am->Ai}(h:Lo e F=Ab):∃ x o y p,e=UA x o y p/\F x o y=Ab:=by
 by_cases c:e.ctorIdx=2
 .exact UB (motive_1:=λe=>Lo e F=Ab->∃ x o y p,e=UA x o y p/\F x o y=Ab) e c (λx o y p h=>⟨x,o,y,p,rfl,h⟩) h
 .exact noF ((Bu c).symm.trans h)
noncomputable def IF(e:Am)(F:H9->Am->Ai):Ai:=if c:e.ctorIdx=3 then UX (motive_1:=λ_=>Ai) e c λo x _=>F o x else Ad
theorem K2{e:Am}{F:H9->Am->Ai}(h:IF e F=Ab):∃ o x p,e=UW o x p/\F o x=Ab:=by
 by_cases c:e.ctorIdx=3
 .exact UX (motive_1:=λe=>IF e F=Ab->∃ o x p,e=UW o x p/\F o x=Ab) e c (λo x p h=>⟨o,x,p,rfl,h⟩) h
 .exact noF ((Bu c).symm.trans h)
noncomputable def HR(e:Am)(F:BoolOp->Ac Am->Az->Ai):Ai:=if c:e.ctorIdx=0 then UD (motive_1:=λ_=>Ai) e c λo xs p=>F o xs p else Ad
theorem JT{e:Am}{F:BoolOp->Ac Am->Az->Ai}(h:HR e F=Ab):∃ o xs p,e=UC o xs p/\F o xs p=Ab:=by
 by_cases c:e.ctorIdx=0
 .exact UD (motive_1:=λe=>HR e F=Ab->∃ o xs p,e=UC o xs p/\F o xs p=Ab) e c (λo xs p h=>⟨o,xs,p,rfl,h⟩) h
 .exact noF ((Bu c).symm.trans h)
noncomputable def Kd(e:Am)(F:Am->Ac CH->Ac Am->Ai):Ai:=if c:e.ctorIdx=15 then UH (motive_1:=λ_=>Ai) e c λx os ys _=>F x os ys else Ad
theorem Pw{e:Am}{F:Am->Ac CH->Ac Am->Ai}(h:Kd e F=Ab):∃ x os ys p,e=UG x os ys p/\F x os ys=Ab:=by
 by_cases c:e.ctorIdx=15
 .exact UH (motive_1:=λe=>Kd e F=Ab->∃ x os ys p,e=UG x os ys p/\F x os ys=Ab) e c (λx os ys p h=>⟨x,os,ys,p,rfl,h⟩) h
 .exact noF ((Bu c).symm.trans h)
noncomputable def Hf(e:Am)(F:Am->Ac Am->Ac DO->Az->Ai):Ai:=if c:e.ctorIdx=16 then UF (motive_1:=λ_=>Ai) e c λf as ks p=>F f as ks p else Ad
theorem JS{e:Am}{F:Am->Ac Am->Ac DO->Az->Ai}(h:Hf e F=Ab):∃ f as ks p,e=UE f as ks p/\F f as ks p=Ab:=by
 by_cases c:e.ctorIdx=16
 .exact UF (motive_1:=λe=>Hf e F=Ab->∃ f as ks p,e=UE f as ks p/\F f as ks p=Ab) e c (λf as ks p h=>⟨f,as,ks,p,rfl,h⟩) h
 .exact noF ((Bu c).symm.trans h)
noncomputable def Gr(e:Am)(F:Am->Ag->Az->Ai):Ai:=if c:e.ctorIdx=20 then Uz (motive_1:=λ_=>Ai) e c λo m p=>F o m p else Ad
theorem Io{e:Am}{F:Am->Ag->Az->Ai}(h:Gr e F=Ab):∃ o m p,e=Uy o m p/\F o m p=Ab:=by
 by_cases c:e.ctorIdx=20
 .exact Uz (motive_1:=λe=>Gr e F=Ab->∃ o m p,e=Uy o m p/\F o m p=Ab) e c (λo m p h=>⟨o,m,p,rfl,h⟩) h
 .exact noF ((Bu c).symm.trans h)
noncomputable def Lu(e:Am)(F:Am->Am->Ai):Ai:=if c:e.ctorIdx=21 then UT (motive_1:=λ_=>Ai) e c λx y _=>F x y else Ad
theorem Pu{e:Am}{F:Am->Am->Ai}(h:Lu e F=Ab):∃ x y p,e=US x y p/\F x y=Ab:=by
 by_cases c:e.ctorIdx=21
 .exact UT (motive_1:=λe=>Lu e F=Ab->∃ x y p,e=US x y p/\F x y=Ab) e c (λx y p h=>⟨x,y,p,rfl,h⟩) h
 .exact noF ((Bu c).symm.trans h)
noncomputable def NU(e:Am)(F:An Am->An Am->An Am->Ai):Ai:=if c:e.ctorIdx=26 then UR (motive_1:=λ_=>Ai) e c λl u s _=>F l u s else Ad
theorem X2{e:Am}{F:An Am->An Am->An Am->Ai}(h:NU e F=Ab):∃ l u s p,e=UQ l u s p/\F l u s=Ab:=by
 by_cases c:e.ctorIdx=26
 .exact UR (motive_1:=λe=>NU e F=Ab->∃ l u s p,e=UQ l u s p/\F l u s=Ab) e c (λl u s p h=>⟨l,u,s,p,rfl,h⟩) h
 .exact noF ((Bu c).symm.trans h)
noncomputable def HQ(e:Am)(F:Ac Am->Ai):Ai:=if c:e.ctorIdx=25 then UV (motive_1:=λ_=>Ai) e c λxs _ _=>F xs else Ad
theorem IT{e:Am}{F:Ac Am->Ai}(h:HQ e F=Ab):∃ xs c p,e=UU xs c p/\F xs=Ab:=by
 by_cases c:e.ctorIdx=25
 .exact UV (motive_1:=λe=>HQ e F=Ab->∃ xs c p,e=UU xs c p/\F xs=Ab) e c (λxs c p h=>⟨xs,c,p,rfl,h⟩) h
 .exact noF ((Bu c).symm.trans h)
noncomputable def Lw(e:Am)(F:Ac Am->Ai):Ai:=if c:e.ctorIdx=24 then UL (motive_1:=λ_=>Ai) e c λxs _=>F xs else Ad
theorem MK{e:Am}{F:Ac Am->Ai}(h:Lw e F=Ab):∃ xs p,e=UK xs p/\F xs=Ab:=by
 by_cases c:e.ctorIdx=24
 .exact UL (motive_1:=λe=>Lw e F=Ab->∃ xs p,e=UK xs p/\F xs=Ab) e c (λxs p h=>⟨xs,p,rfl,h⟩) h
 .exact noF ((Bu c).symm.trans h)
noncomputable def NK(e:Am)(F:Am->Ac Hr->BH->Ai):Ai:=if c:e.ctorIdx=8 then UN (motive_1:=λ_=>Ai) e c λx gs sc _=>F x gs sc else Ad
theorem Xh{e:Am}{F:Am->Ac Hr->BH->Ai}(h:NK e F=Ab):∃ x gs sc p,e=UM x gs sc p/\F x gs sc=Ab:=by
 by_cases c:e.ctorIdx=8
 .exact UN (motive_1:=λe=>NK e F=Ab->∃ x gs sc p,e=UM x gs sc p/\F x gs sc=Ab) e c (λx gs sc p h=>⟨x,gs,sc,p,rfl,h⟩) h
 .exact noF ((Bu c).symm.trans h)
noncomputable def NL(e:AC)(F:Ac Am->Am->Ai):Ai:=if c:e.ctorIdx=5 then Vj (motive_2:=λ_=>Ai) e c λts v _=>F ts v else Ad
theorem Xl{e:AC}{F:Ac Am->Am->Ai}(h:NL e F=Ab):∃ ts v p,e=Vi ts v p/\F ts v=Ab:=by
 by_cases c:e.ctorIdx=5
 .exact Vj (motive_2:=λe=>NL e F=Ab->∃ ts v p,e=Vi ts v p/\F ts v=Ab) e c (λts v p h=>⟨ts,v,p,rfl,h⟩) h
 .exact noF ((Bu c).symm.trans h)
noncomputable def Jj(e:AC)(F:Am->Ai):Ai:=if c:e.ctorIdx=24 then Vl (motive_2:=λ_=>Ai) e c λv _=>F v else Ad
theorem MM{e:AC}{F:Am->Ai}(h:Jj e F=Ab):∃ v p,e=Vk v p/\F v=Ab:=by
 by_cases c:e.ctorIdx=24
 .exact Vl (motive_2:=λe=>Jj e F=Ab->∃ v p,e=Vk v p/\F v=Ab) e c (λv p h=>⟨v,p,rfl,h⟩) h
 .exact noF ((Bu c).symm.trans h)
noncomputable def NJ(e:AC)(F:An Am->Ai):Ai:=if c:e.ctorIdx=3 then Vs (motive_2:=λ_=>Ai) e c λo _=>F o else Ad
theorem X3{e:AC}{F:An Am->Ai}(h:NJ e F=Ab):∃ o p,e=Vr o p/\F o=Ab:=by
 by_cases c:e.ctorIdx=3
 .exact Vs (motive_2:=λe=>NJ e F=Ab->∃ o p,e=Vr o p/\F o=Ab) e c (λo p h=>⟨o,p,rfl,h⟩) h
 .exact noF ((Bu c).symm.trans h)
noncomputable def LJ(e:AC)(F:Am->Ac AC->Ac AC->Ai):Ai:=if c:e.ctorIdx=12 then Vn (motive_2:=λ_=>Ai) e c λt xs ys _=>F t xs ys else Ad
theorem Qs{e:AC}(h:LJ e F=Ab):∃ t xs ys p,e=Stmt.If t xs ys p/\F t xs ys=Ab:=by
 by_cases c:e.ctorIdx=12
 .exact Vn (motive_2:=λe=>LJ e F=Ab->∃ t xs ys p,e=Stmt.If t xs ys p/\F t xs ys=Ab) e c (λt xs ys p h=>⟨t,xs,ys,p,rfl,h⟩) h
 .exact noF ((Bu c).symm.trans h)
noncomputable def Kc(e:AC)(F:Am->Am->Ac AC->Ac AC->Ai):Ai:=if c:e.ctorIdx=9 then Vm (motive_2:=λ_=>Ai) e c λt it xs ys _=>F t it xs ys else Ad
theorem ML{e:AC}{F:Am->Am->Ac AC->Ac AC->Ai}(h:Kc e F=Ab):∃ t it xs ys p,e=Stmt.For t it xs ys p/\F t it xs ys=Ab:=by
 by_cases c:e.ctorIdx=9
 .exact Vm (motive_2:=λe=>Kc e F=Ab->∃ t it xs ys p,e=Stmt.For t it xs ys p/\F t it xs ys=Ab) e c (λt it xs ys p h=>⟨t,it,xs,ys,p,rfl,h⟩) h
 .exact noF ((Bu c).symm.trans h)
noncomputable def NS(e:AC)(F:Am->Ac AC->Ac AC->Ai):Ai:=if c:e.ctorIdx=11 then Vu (motive_2:=λ_=>Ai) e c λt xs ys _=>F t xs ys else Ad
theorem X1{e:AC}(h:NS e F=Ab):∃ t xs ys p,e=Vt t xs ys p/\F t xs ys=Ab:=by
 by_cases c:e.ctorIdx=11
 .exact Vu (motive_2:=λe=>NS e F=Ab->∃ t xs ys p,e=Vt t xs ys p/\F t xs ys=Ab) e c (λt xs ys p h=>⟨t,xs,ys,p,rfl,h⟩) h
 .exact noF ((Bu c).symm.trans h)
noncomputable def Lv(e:AC)(F:An Am->An Am->Ai):Ai:=if c:e.ctorIdx=16 then Vp (motive_2:=λ_=>Ai) e c λa b _=>F a b else Ad
theorem X4{e:AC}{F:An Am->An Am->Ai}(h:Lv e F=Ab):∃ a b p,e=Vo a b p/\F a b=Ab:=by
 by_cases c:e.ctorIdx=16
 .exact Vp (motive_2:=λe=>Lv e F=Ab->∃ a b p,e=Vo a b p/\F a b=Ab) e c (λa b p h=>⟨a,b,p,rfl,h⟩) h
 .exact noF ((Bu c).symm.trans h)
noncomputable def Hc{α:Type}:Ac α->(α->Ac α->Ai)->Ai
 |[],_=>Ad
 |x::xs,F=>F x xs
theorem HG{l:Ac α}{F:α->Ac α->Ai}(h:Hc l F=Ab):∃ x xs,l=x::xs/\F x xs=Ab:=by
 cases l with
 |nil=>exact noF h
 |cons x xs=>exact⟨x,xs,rfl,h⟩
theorem E4{l:Ac α}(h:l.isEmpty=Ab):l=[]:=List.isEmpty_iff.mp h
noncomputable def Ds{α:Type}(l:Ac α)(F:α->Ai):Ai:=Hc l λx r=>r.isEmpty&&F x
theorem Ec{l:Ac α}{F:α->Ai}(h:Ds l F=Ab):∃ x,l=[x]/\F x=Ab:=by
 obtain⟨x,r,rfl,h⟩:=HG h;obtain⟨h1,h2⟩:=Bg h;exact⟨x,by rw[E4 h1],h2⟩
noncomputable def GK{α:Type}(l:Ac α)(F:α->α->Ai):Ai:=Hc l λx r=>Ds r λy=>F x y
theorem Im{l:Ac α}{F:α->α->Ai}(h:GK l F=Ab):∃ x y,l=[x,y]/\F x y=Ab:=by
 obtain⟨x,r,rfl,h⟩:=HG h;obtain⟨y,rfl,h⟩:=Ec h;exact⟨x,y,rfl,h⟩
noncomputable def GL(e:Am)(F:Ag->Ac Am->Ai):Ai:=Hf e λf as ks _=>Ea f λg=>ks.isEmpty&&F g as
theorem G9{e:Am}{F:Ag->Ac Am->Ai}(h:GL e F=Ab):∃ g p as q,e=.Call (.Name g p) as [] q/\F g as=Ab:=by
 obtain⟨f,as,ks,q,rfl,h⟩:=JS h;obtain⟨g,p,rfl,h⟩:=Eu h;obtain⟨h1,h2⟩:=Bg h;exact⟨g,p,as,q,by rw[E4 h1],h2⟩
noncomputable def Iw(e:Am)(F:Ag->Am->Ac Am->Ai):Ai:=GL e λg l=>Hc l λx xs=>F g x xs
theorem IX{e:Am}{F:Ag->Am->Ac Am->Ai}(h:Iw e F=Ab):∃ g p x xs q,e=.Call (.Name g p) (x::xs) [] q/\F g x xs=Ab:=by
 obtain⟨g,p,as,q,rfl,h⟩:=G9 h;obtain⟨x,xs,rfl,h⟩:=HG h;exact⟨g,p,x,xs,q,rfl,h⟩
noncomputable def R9(st:AC)(F:Ag->Ag->Ac Am->Ai):Ai:=Jj st λe=>Hf e λf as ks cp=>Gr f λo m ap=>Ea o λx=>ks.isEmpty&&(ap.endLine==cp.line&&F x m as)
theorem X5{st:AC}{F:Ag->Ag->Ac Am->Ai}(h:R9 st F=Ab):∃ x p m ap as cp q,st=.Expr (.Call (.Attribute (.Name x p) m ap) as [] cp) q/\ap.endLine=cp.line/\F x m as=Ab:=by
 obtain⟨e,q,rfl,h⟩:=MM h;obtain⟨f,as,ks,cp,rfl,h⟩:=JS h;obtain⟨o,m,ap,rfl,h⟩:=Io h;obtain⟨x,p,rfl,h⟩:=Eu h;obtain⟨h1,h⟩:=Bg h;obtain⟨h2,h3⟩:=Bg h;exact⟨x,p,m,ap,as,cp,q,by rw[E4 h1],eq_of_beq h2,h3⟩
noncomputable def Sa(st:AC)(F:Am->Am->Ai):Ai:=NL st λts v=>Ds ts λt=>F t v
theorem Xm{st:AC}{F:Am->Am->Ai}(h:Sa st F=Ab):∃ t v q,st=.Assign [t] v q/\F t v=Ab:=by
 obtain⟨ts,v,q,rfl,h⟩:=Xl h;obtain⟨t,rfl,h⟩:=Ec h;exact⟨t,v,q,rfl,h⟩
noncomputable def Ke(st:AC)(F:Ag->Am->Ai):Ai:=Sa st λt v=>Ea t λx=>F x v
theorem MN{st:AC}{F:Ag->Am->Ai}(h:Ke st F=Ab):∃ x p v q,st=.Assign [.Name x p] v q/\F x v=Ab:=by
 obtain⟨t,v,q,rfl,h⟩:=Xm h;obtain⟨x,p,rfl,h⟩:=Eu h;exact⟨x,p,v,q,rfl,h⟩
noncomputable def Oi(e:Am)(F:Am->Am->Am->Ac Am->BH->Ai):Ai:=NK e λx gs sc=>Ds gs λg=>decide (g.is_async=0)&&F x g.target g.iter g.ifs sc
theorem Qr{e:Am}{F:Am->Am->Am->Ac Am->BH->Ai}(h:Oi e F=Ab):∃ x t it ifs sc p,e=.ListComp x [⟨t,it,ifs,0⟩] sc p/\F x t it ifs sc=Ab:=by
 obtain⟨x,gs,sc,p,rfl,h⟩:=Xh h;obtain⟨g,rfl,h⟩:=Ec h;obtain⟨t,it,ifs,a⟩:=g;obtain⟨h1,h2⟩:=Bg h;have h1:a=0:=AH h1;subst h1;exact⟨x,t,it,ifs,sc,p,rfl,h2⟩
noncomputable def LI(e:E)(F:E->Ai):Ai:=if c:e.ctorIdx=8 then E.no.elim (motive_1:=λ_=>Ai) e c F else Ad
theorem Zf{e:E}{F:E->Ai}(h:LI e F=Ab):∃ a,e=E.no a/\F a=Ab:=by
 by_cases c:e.ctorIdx=8
 .exact E.no.elim (motive_1:=λe=>LI e F=Ab->∃ a,e=E.no a/\F a=Ab) e c (λa h=>⟨a,rfl,h⟩) h
 .exact noF ((Bu c).symm.trans h)
noncomputable def Lp(e:E)(F:Es->Ai):Ai:=if c:e.ctorIdx=9 then E.and.elim (motive_1:=λ_=>Ai) e c F else Ad
theorem Xn{e:E}{F:Es->Ai}(h:Lp e F=Ab):∃ es,e=E.and es/\F es=Ab:=by
 by_cases c:e.ctorIdx=9
 .exact E.and.elim (motive_1:=λe=>Lp e F=Ab->∃ es,e=E.and es/\F es=Ab) e c (λes h=>⟨es,rfl,h⟩) h
 .exact noF ((Bu c).symm.trans h)
noncomputable def LH(e:E)(F:Es->Ai):Ai:=if c:e.ctorIdx=10 then E.or.elim (motive_1:=λ_=>Ai) e c F else Ad
theorem Ze{e:E}{F:Es->Ai}(h:LH e F=Ab):∃ es,e=E.or es/\F es=Ab:=by
 by_cases c:e.ctorIdx=10
 .exact E.or.elim (motive_1:=λe=>LH e F=Ab->∃ es,e=E.or es/\F es=Ab) e c (λes h=>⟨es,rfl,h⟩) h
 .exact noF ((Bu c).symm.trans h)
noncomputable def Ll(e:E)(F:CH->E->E->Ai):Ai:=if c:e.ctorIdx=11 then E.cmp.elim (motive_1:=λ_=>Ai) e c F else Ad
theorem Xi{e:E}{F:CH->E->E->Ai}(h:Ll e F=Ab):∃ o a b,e=E.cmp o a b/\F o a b=Ab:=by
 by_cases c:e.ctorIdx=11
 .exact E.cmp.elim (motive_1:=λe=>Ll e F=Ab->∃ o a b,e=E.cmp o a b/\F o a b=Ab) e c (λo a b h=>⟨o,a,b,rfl,h⟩) h
 .exact noF ((Bu c).symm.trans h)
noncomputable def Lm(e:E)(F:CH->CH->E->E->E->Ai):Ai:=if c:e.ctorIdx=12 then E.cmp2.elim (motive_1:=λ_=>Ai) e c F else Ad
theorem Xj{e:E}{F:CH->CH->E->E->E->Ai}(h:Lm e F=Ab):∃ o q a b c,e=E.cmp2 o q a b c/\F o q a b c=Ab:=by
 by_cases c:e.ctorIdx=12
 .exact E.cmp2.elim (motive_1:=λe=>Lm e F=Ab->∃ o q a b c,e=E.cmp2 o q a b c/\F o q a b c=Ab) e c (λo q a b c h=>⟨o,q,a,b,c,rfl,h⟩) h
 .exact noF ((Bu c).symm.trans h)
noncomputable def Ln(e:E)(F:BI->Es->Ai):Ai:=if c:e.ctorIdx=15 then E.bi.elim (motive_1:=λ_=>Ai) e c F else Ad
theorem Xk{e:E}{F:BI->Es->Ai}(h:Ln e F=Ab):∃ b as,e=E.bi b as/\F b as=Ab:=by
 by_cases c:e.ctorIdx=15
 .exact E.bi.elim (motive_1:=λe=>Ln e F=Ab->∃ b as,e=E.bi b as/\F b as=Ab) e c (λb as h=>⟨b,as,rfl,h⟩) h
 .exact noF ((Bu c).symm.trans h)
noncomputable def Oj(e:E)(F:Ai->Ai):Ai:=if c:e.ctorIdx=1 then E.bl.elim (motive_1:=λ_=>Ai) e c F else Ad
theorem Zh{e:E}{F:Ai->Ai}(h:Oj e F=Ab):∃ b,e=E.bl b/\F b=Ab:=by
 by_cases c:e.ctorIdx=1
 .exact E.bl.elim (motive_1:=λe=>Oj e F=Ab->∃ b,e=E.bl b/\F b=Ab) e c (λb h=>⟨b,rfl,h⟩) h
 .exact noF ((Bu c).symm.trans h)
noncomputable def Kb(e:E)(F:Af->Ai):Ai:=if c:e.ctorIdx=4 then E.var.elim (motive_1:=λ_=>Ai) e c F else Ad
theorem MJ{e:E}{F:Af->Ai}(h:Kb e F=Ab):∃ i,e=E.var i/\F i=Ab:=by
 by_cases c:e.ctorIdx=4
 .exact E.var.elim (motive_1:=λe=>Kb e F=Ab->∃ i,e=E.var i/\F i=Ab) e c (λi h=>⟨i,rfl,h⟩) h
 .exact noF ((Bu c).symm.trans h)
noncomputable def Jk(e:E)(F:Af->Es->Ai):Ai:=if c:e.ctorIdx=14 then E.call.elim (motive_1:=λ_=>Ai) e c F else Ad
theorem Px{e:E}{F:Af->Es->Ai}(h:Jk e F=Ab):∃ f as,e=E.call f as/\F f as=Ab:=by
 by_cases c:e.ctorIdx=14
 .exact E.call.elim (motive_1:=λe=>Jk e F=Ab->∃ f as,e=E.call f as/\F f as=Ab) e c (λf as h=>⟨f,as,rfl,h⟩) h
 .exact noF ((Bu c).symm.trans h)
noncomputable def Lq(e:E):Ai:=decide (e.ctorIdx=0)
theorem Xy{e:E}(h:Lq e=Ab):e=.non:=E.non.elim (motive_1:=λe=>e=.non) e (AH h) rfl
noncomputable def C7:Am->Ai
 |.Starred _ _=>Ad
 |_=>Ab
noncomputable def Qf:Am->Ai
 |.Slice _ _ _ _=>Ad
 |_=>Ab
noncomputable def Jm:Am->Ai
 |.Set _ _ _=>Ad
 |_=>Ab
noncomputable def Hd:Am->Ai
 |.ListComp _ _ _ _=>Ad
 |.SetComp _ _ _ _=>Ad
 |.DictComp _ _ _ _ _=>Ad
 |_=>Ab
noncomputable def SX(tu:Ai):Am->Ai
 |.Tuple ..=>tu
 |.Name ..=>!tu
 |_=>Ad
noncomputable def kI:Am->Ai
 |.Tuple _ _ _=>Ab
 |_=>Ad
noncomputable def KR:Am->Ai
 |.UnaryOp _ _ _=>Ad
 |.BoolOp _ _ _=>Ad
 |.IfExp _ _ _ _=>Ad
 |.Compare _ _ _ _=>Ad
 |_=>Ab
noncomputable def NO:Ki->An Ag
 |.int=>Aa "int"
 |.bool=>Aa "bool"
 |.str=>Aa "str"
 |.list=>Aa "list"
 |.tuple=>Aa "tuple"
 |_=>Ae
noncomputable def NP:BI->An Ag
 |.len=>Aa "len"
 |.abs=>Ae
 |.max=>Aa "max"
 |.min=>Aa "min"
 |.int=>Ae
 |.list=>Aa "list"
 |.tuple=>Aa "tuple"
 |.all=>Aa "all"
 |.any=>Aa "any"
 |.sum=>Ae
 |.sorted=>Ae
 |.str=>Aa "str"
 |.tmin=>Ae
 |.tmax=>Ae
 |_=>Ae
noncomputable def NC(o scope:BH):BH:={scope with names:=scope.names.map λ(n,k)=>if (k==.free&&o.kind==.function&&o.names.lookup n==Aa .cell) then (n,.cell) else (n,k)}
noncomputable def Jw:Ac Af->Ac Ag->Ac Ag->Ac Ag
 |t::ts,x::xs,N=>Jw ts xs ((N.map λy=>if y==x then N.getD t x else y).set t x)
 |_,_,N=>N
noncomputable def Jf:Ac Ag->Ai
 |[]=>Ab
 |x::xs=>!xs.contains x&&Jf xs
noncomputable def Ku(T:Tc)(scope:BH)(ts:Ac Af)(N':Ac Ag):Ai:=
  scope.kind==.function&&scope.names.all (λy=>scope.names.lookup y.1==Aa y.2) &&
  scope.names.all (λy=>y.2 != .free||T.sc.names.lookup y.1==Aa .cell||T.sc.names.lookup y.1==Aa .free) &&
  N'.length==T.N.length&&Jf N' &&
  (BR N'.length).all λi=>ts.contains i||(match N'[i]? with
    |some x=>(scope.names.lookup x != Aa .local&&scope.names.lookup x != Aa .cell)&&(scope.names.lookup x != Aa .free||T.N[i]? == Aa x)
    | none=>Ab)
noncomputable def EO:Ac Am->An (Ac Ag)
 |[]=>Aa []
 |.Name x _::r=>(EO r).map (x :: ·)
 |_=>Ae
noncomputable def tgN(ys:Ac Am):Ac Ag:=(EO ys).getD []
noncomputable def tgB(T:Tc):Ac Af->Ac Ag->Ai
 |[],[]=>Ab
 |t::ts,x::xs=>T.N[t]? == Aa x&&T.sc.names.lookup x==Aa .local&&tgB T ts xs
 |_,_=>Ad
noncomputable def tgO(T:Tc)(scope:BH)(t:Af)(x:Ag):Ai:=T.N[t]? == Aa x&&(T.sc.names.lookup x==Aa .local||(T.sc.names.lookup x==Aa .cell&&scope.names.lookup x==Aa .cell))
noncomputable def tgC(T:Tc):Ac Af->Ac Ag->Ai
 |[],[]=>Ab
 |t::ts,x::xs=>T.N[t]? == Aa x&&Hl T x&&tgC T ts xs
 |_,_=>Ad
noncomputable def Tc.blk(T:Tc)(scope:BH)(ts:Ac Af)(xs:Ac Ag):Tc:={T with sc:=NC T.sc scope,N:=Jw ts xs T.N,tp:=Ad}
noncomputable def lN(f:Ag):Ai:=(f==("triple" : Ag)||(f==("points" : Ag)||f==("row" : Ag)))
noncomputable def Jl:Am->Ai
 |.Call _ [] _ _=>Ad
 |_=>Ab
theorem K6{o:Am}{f:Ag}{w:Ff Aj}(h:Jl o=Ab):CM o f env w=w:=by
 cases o with
 |Call g as ks p=>
  cases as with
  |nil=>cases h
  |cons=>cases g<;>rfl
 |_=>rfl
noncomputable def inX(l:Ac (Ag×Af))(g:Ag)(c:Af):Ai:=l.any λp=>p.1==g&&p.2==c
noncomputable def ocB(T:Tc)(t:Ag)(k:Af):Ai:=t==LK k&&decide (k<3)&&glB T t&&ED t
noncomputable def lF(T:Tc)(t:Ag):Ki->Ai
 |.verr=>t==("ValueError" : Ag)&&isB T t
 |.cls c=>inX T.exs t c&&glB T t&&ED t
 |_=>Ad
noncomputable def S1:Am->An (Am×Am×Az)
  | .Compare x ops ys p=>(match ops with
    | [.Lt]=>(match ys with
      |[y]=>Aa (x,y,p)
      | _=>Ae)
    | _=>Ae)
  |_=>Ae
noncomputable def NW(_:Es):An (E×E):=Ae
noncomputable def Og(_:Tc)(_:Tc->Am->E->Ai)(_:Am)(_:Ac CH)(_:Ac Am)(_:BI)(_:Es):Ai:=Ad
noncomputable def SY(T:Tc)(e:Am)(b:BI)(as:Es):Ai:=Ad
noncomputable def Q8:Am->An (Ag×Az)
 |.Name x p=>Aa (x,p)
 |_=>Ae
noncomputable def Q9:Am->An (Am×Ac Am×Ac DO×Az)
 |.Call f as ks p=>Aa (f,as,ks,p)
 |_=>Ae
noncomputable def kS:Am->An (Ac Am×Af×Az)
 |.Tuple es k p=>Aa (es,k,p)
 |_=>Ae
noncomputable def one{α:Type}:Ac α->An α
 |[a]=>Aa a
 |_=>Ae
noncomputable def SZ(e:Am):An (Ag×Ag×Ac Am):=(Q9 e).bind λc=>(Q8 c.1).bind λg=>(one c.2.1).bind λa=>(Q9 a).bind λd=>(Q8 d.1).bind λh=>if (c.2.2.1.isEmpty&&d.2.2.1.isEmpty)=Ab then Aa (g.1,h.1,d.2.1) else Ae
noncomputable def S6(e:Am):An (Ag×Ag×Am×Am):=match SZ e with
  | some (g,h,bs)=>(match bs with
    |[x,y]=>Aa (g,h,x,y)
    | _=>Ae)
  |none=>Ae
noncomputable def N1(_:Es):An (E×E):=Ae
noncomputable def Tt(e:Am):An (Ag×Ag×Am):=match SZ e with
  | some (g,h,bs)=>(match bs with
    |[x]=>Aa (g,h,x)
    | _=>Ae)
  |none=>Ae
noncomputable def LP:Es->An (Ag×E)
  | .cons a r=>(match a with
    | .str s=>(match r with
      | .cons b r'=>(match r' with
        | .nil=>(match b with
          |.var _=>Ae
          | b=>Aa (s,b))
        | _=>Ae)
      | _=>Ae)
    | _=>Ae)
  |.nil=>Ae
theorem ZS{s:Ag}{a:E}(q:LP as=Aa (s,a)):as=.cons (.str s) (.cons a .nil)/\∀ U r,top U a r=r:=by
 cases as with
 |nil=>cases q
 |cons a r=>
  cases a with
  |str s=>
   cases r with
   |nil=>cases q
   |cons b r'=>
    cases r' with
    |nil=>cases b<;>first|(cases q;exact⟨rfl,λ_ _=>rfl⟩)|cases q
    |cons=>cases q
  |_=>cases q
noncomputable def LO:Es->An (E×Ag)
  | .cons a r=>(match r with
    | .cons b r'=>(match b with
      | .str y=>(match r' with
        |.nil=>Aa (a,y)
        | _=>Ae)
      | _=>Ae)
    | _=>Ae)
  |.nil=>Ae
theorem ZR{s:Ag}{a:E}(q:LO as=Aa (a,s)):as=.cons a (.cons (.str s) .nil):=by
 cases as with
 |nil=>cases q
 |cons a r=>
  cases r with
  |nil=>cases q
  |cons b r'=>
   cases b with
   |str s=>
    cases r' with
    |nil=>cases q;rfl
    |cons=>cases q
   |_=>cases q
noncomputable def NY(_:Es):An E:=Ae
noncomputable def two(e:Am):An (Am×Am):=(kS e).bind λt=>match t.1 with
  |[a,b]=>Aa (a,b)
  |_=>Ae
noncomputable def Ox(_:Es):An E:=Ae
noncomputable def Td(_:Am):An Am:=Ae
noncomputable def SG:Am->An (Am×Ah)
  | .Subscript v s _=>(match s with
    | .Slice lo hi st _=>(match lo with
      | some (.Constant (.int k) _ _)=>(match hi with
        | none=>(match st with
          |some (.Constant (.int j) _ _)=>if j=2 then Aa (v,k) else Ae
          | _=>Ae)
        | some _=>Ae)
      | _=>Ae)
    | _=>Ae)
  |_=>Ae
noncomputable def NX(_:Es):An (E×Ah):=Ae
mutual
noncomputable def A1:Af->Tc->Am->E->Ai
  |0,_,_,_=>Ad
  |n+1,T,e,c=>match c with
    |.non=>FX e λc=>decide (c=.none)
    |.bl b=>FX e λc=>decide (c=.bool b)
    |.int i=>FX e λc=>decide (c=.int i)
    |.str x=>FX e λc=>decide (c=.str x)
    |.var i=>Ea e λx=>isV T x i
    |.glob g=>Ad
    |.bin op a b=>Lo e λx op' y=>decide (op'=op)&&A1 n T x a&&A1 n T y b
    |.un op a=>IF e λo x=>decide (o=.USub)&&(decide (op=.USub)&&A1 n T x a)
    |.no a=>IF e λo x=>decide (o=.Not)&&A1 n T x a
    |.and es=>HR e λo xs _=>decide (o=.And)&&(chkEs n T xs es && !xs.isEmpty)
    |.or es=>HR e λo xs _=>decide (o=.Or)&&(chkEs n T xs es && !xs.isEmpty)
    |.cmp op a b=>Kd e λx os ys=>Ds os λop'=>Ds ys λy=>decide (op'=op) && !behindInMarks op y&&A1 n T x a&&A1 n T y b
    |.cmp2 op1 op2 a b c=>Ad
    |.ite c a b=>Ad
    |.call f as=>Iw e λg x xs=>(T.fns.any λp=>p.1==g&&p.2.1==f&&p.2.2==xs.length+1)&&decide (xs.length<900)&&glB T g&&ED g&&chkEs n T (x::xs) as
    |.bi b as=>(Iw e λg x xs=>NP b==Aa g&&isB T g&&chkEs n T (x::xs) as)||SY T e b as||(match N1 as with|some (a,c)=>(match S6 e with|some (g,h,x,y)=>decide (b=.list)&&g==("list" : Ag)&&h==("range" : Ag)&&isB T g&&isB T h&&C7 x&&C7 y&&A1 n T x a&&A1 n T y c|none=>Ad)|none=>Ad)||(match NX as with|some (a,k)=>(match SG e with|some (x,j)=>decide (b=.stp)&&decide (j=k)&&decide (0<=k)&&A1 n T x a|none=>Ad)|none=>Ad)||(match NY as with|some a=>(match Tt e with|some (g,h,x)=>decide (b=.lset)&&g==("len" : Ag)&&h==("set" : Ag)&&isB T g&&isB T h&&C7 x&&A1 n T x a|none=>Ad)|none=>Ad)||(match NW as with|some (a,c)=>(match S1 e with|some (x,y,_)=>decide (b=.tlt) && !behindInMarks .Lt y&&A1 n T x a&&A1 n T y c|none=>Ad)|none=>Ad)||(match LP as with|some (s,a)=>Hf e λf l ks cp=>ks.isEmpty&&(Gr f λo m ap=>m==("join" : Ag)&&ap.endLine==cp.line&&(FX o λc=>decide (c=.str s)&&decide (b=.sjoin)&&(Ds l λy=>C7 y&&A1 n T y a)))|none=>Ad)||(match LO as with|some (a,s)=>Hf e λf l ks cp=>ks.isEmpty&&(Gr f λo m ap=>m==("split" : Ag)&&ap.endLine==cp.line&&Jl o&&A1 n T o a&&(Ds l λy=>FX y λc=>decide (c=.str s)&&decide (b=.ssplit)))|none=>Ad)||(match Ox as with|some a=>(match Td e with|some x=>decide (b=.rvs)&&A1 n T x a|none=>Ad)|none=>Ad)
    |.isi a ks=>(Ds ks λk=>GL e λg l=>GK l λx t=>Ea t λt=>g==("isinstance" : Ag)&&isB T g&&NO k==Aa t&&isB T t&&C7 x&&A1 n T x a)||(Ds ks λk=>GL e λg l=>GK l λx t=>Ea t λt=>g==("isinstance" : Ag)&&isB T g&&C7 x&&A1 n T x a&&lF T t k)
    |.idx a i=>Lu e λx y=>Qf y&&A1 n T x a&&A1 n T y i
    |.sl a lo hi=>Lu e λx s=>NU s λl h st=>st.isNone&&(A1 n T x a&&chkO n T l lo&&chkO n T h hi)
    |.tup es=>HQ e λxs=>chkEs n T xs es&&decide (xs.length<=1000)
    |.lst es=>Lw e λxs=>chkEs n T xs es&&decide (xs.length<=1000)
    |.comp elt t it c=>Oi e λx tg iter ifs scope=>Ea tg λy=>chkI n T Ad iter it&&Jm iter&&Ku T scope [t] (Jw [t] [y] T.N)&&tgO (T.blk scope [t] [y]) scope t y&&chkT n (T.blk scope [t] [y]) ifs c&&A1 n (T.blk scope [t] [y]) x elt
    |.compT elt ts it c=>Oi e λx tg iter ifs scope=>HQ tg λys=>(EO ys).isSome&&chkI n T Ab iter it&&Jm iter&&Ku T scope ts (Jw ts (tgN ys) T.N)&&tgB (T.blk scope ts (tgN ys)) ts (tgN ys)&&chkT n (T.blk scope ts (tgN ys)) ifs c&&A1 n (T.blk scope ts (tgN ys)) x elt
    |.tupI _=>Ad
    |.dnew=>Ad
    |.fld o f=>Gr e λw g _=>g==f&&lN f&&Jl w&&A1 n T w o
    |.ofl o f=>Gr e λw g _=>g==f&&f==("triple" : Ag)&&Jl w&&A1 n T w o
    |.iso a k=>GL e λg l=>GK l λx t=>Ea t λt=>g==("isinstance" : Ag)&&isB T g&&C7 x&&A1 n T x a&&ocB T t k
    |.meth m ms o=>Hf e λf l ks cp=>ks.isEmpty&&(l.isEmpty&&(Gr f λw g ap=>g==m&&(m==("told" : Ag)||m==("shown" : Ag))&&ap.endLine==cp.line&&Jl w&&A1 n T w o&&ms.all λq=>T.fns.any λp=>(FD.lookup p.1==Aa (q.1,m))&&p.2.1==q.2&&p.2.2==1))
    |.mkob _ _=>Ad
    |.mkn c as=>Iw e λg x xs=>ocB T g c&&xs.length==1&&chkEs n T (x::xs) as
    |.mkx c as=>T.tp&&(Iw e λg x xs=>inX T.rzs g c&&glB T g&&ED g&&decide (xs.length<=1000)&&chkEs n T (x::xs) as)
noncomputable def Gv:Af->Tc->Am->E->Ai
 |0,_,_,_=>Ad
 |n+1,T,e,c=>(IF e λo x=>decide (o=.Not)&&(LI c λa=>Gv n T x a)) ||
  (HR e λo xs _=>(decide (o=.And)&&(Lp c λes=>chkBs n T xs es && !xs.isEmpty))||(decide (o=.Or)&&(LH c λes=>chkBs n T xs es && !xs.isEmpty))) ||
  (Kd e λx os ys=>(Ll c λop a b=>Ds os λop'=>Ds ys λy=>decide (op'=op) && !behindInMarks op y&&A1 n T x a&&A1 n T y b) ||
   (Lm c λop1 op2 a b c=>GK os λo1 o2=>GK ys λy z=>decide (o1=op1)&&decide (o2=op2) && !lastMarks [op1,op2] [y,z]&&A1 n T x a&&A1 n T y b&&A1 n T z c) ||
   (Ln c λb as=>Og T (A1 n) x os ys b as)) ||
  KR e&&A1 n T e c
noncomputable def chkBs:Af->Tc->Ac Am->Es->Ai
  |0,_,_,_=>Ad
  |n+1,T,xs,es=>match xs,es with
    |[],.nil=>Ab
    |x::xs,.cons e es=>Gv n T x e&&chkBs n T xs es
    |_,_=>Ad
noncomputable def chkEs:Af->Tc->Ac Am->Es->Ai
  |0,_,_,_=>Ad
  |n+1,T,xs,es=>match xs,es with
    |[],.nil=>Ab
    |x::xs,.cons e es=>C7 x&&A1 n T x e&&chkEs n T xs es
    |_,_=>Ad
noncomputable def chkO:Af->Tc->An Am->E->Ai
  |0,_,_,_=>Ad
  |n+1,T,x,e=>match x with
    |none=>Lq e
    |some x=>!(Lq e)&&A1 n T x e
noncomputable def chkT:Af->Tc->Ac Am->E->Ai
  |0,_,_,_=>Ad
  |n+1,T,xs,e=>match xs with
    |[]=>Oj e λb=>b
    |x::r=>r.isEmpty&&Gv n T x e
noncomputable def chkI:Af->Tc->Ai->Am->I->Ai
  |0,_,_,_,_=>Ad
  |n+1,T,tu,e,i=>match i with
    |.e a=>A1 n T e a
    |.rng a=>GL e λg l=>Ds l λx=>g==("range" : Ag)&&isB T g&&C7 x&&A1 n T x a
    |.enm a=>GL e λg l=>Ds l λx=>tu&&g==("enumerate" : Ag)&&isB T g&&C7 x&&A1 n T x a
    |.zip a b=>Ad
    |.rng2 a b=>GL e λg l=>GK l λx y=>g==("range" : Ag)&&isB T g&&C7 x&&C7 y&&A1 n T x a&&A1 n T y b
    |.zip3 a b c=>Ad
end
noncomputable def Of:E->E->Ai
 |.var _,.int _=>Ab
 |_,_=>Ad
noncomputable def SJ:Ep->Ai
 |.Sub=>Ab
 |_=>Ad
noncomputable def LB:E->Ai
 |.idx a b=>Of a b
 |.bin op a b=>SJ op&&Of a b
 |.var _=>Ab
 |.int _=>Ab
 |.bl _=>Ab
 |.str _=>Ab
 |.non=>Ab
 |_=>Ad
noncomputable def HP:Es->Ai
 |.nil=>Ab
 |.cons e es=>LB e&&HP es
noncomputable def F1:Am->An (Ag×Az)
 |.Name x p=>Aa (x,p)
 |_=>Ae
theorem GF{e:Am}{t:Ag×Az}(h:F1 e=Aa t):e=.Name t.1 t.2:=by
 cases e with
 |Name x p=>cases h;rfl
 |_=>exact nomatch (show Ae=Aa t from h)
noncomputable def SN:Am->An (Am×Ac Am×Az)
  | .Call f as ks p=>(match ks with
    |[]=>Aa (f,as,p)
    | _=>Ae)
  |_=>Ae
theorem YY{e:Am}{t:Am×Ac Am×Az}(h:SN e=Aa t):e=.Call t.1 t.2.1 [] t.2.2:=by
 cases e with
 |Call f as ks p=>
  cases ks with
  |nil=>cases h;rfl
  |cons=>exact nomatch (show Ae=Aa t from h)
 |_=>exact nomatch (show Ae=Aa t from h)
noncomputable def Kk{α:Type}:Ac α->An (α×α)
 |[a,b]=>Aa (a,b)
 |_=>Ae
theorem K0{l:Ac α}{t:α×α}(h:Kk l=Aa t):l=[t.1,t.2]:=by
 cases l with
 |nil=>exact nomatch (show Ae=Aa t from h)
 |cons a l=>
  cases l with
  |nil=>exact nomatch (show Ae=Aa t from h)
  |cons b l=>
   cases l with
   |nil=>cases h;rfl
   |cons=>exact nomatch (show Ae=Aa t from h)
noncomputable def xHd:D4->An (Ag×Ag×AC×Ac AC)
  | .ExceptHandler ty nm b _=>(match nm,b,ty with
    |some m,h0::hs,Aa e=>(F1 e).bind λg=>Aa (g.1,m,h0,hs)
    | _,_,_=>Ae)
theorem bJ{h:D4}{g m:Ag}(q:xHd h=Aa (g,m,h0,hs)):∃ p r,h=.ExceptHandler (Aa (.Name g p)) (Aa m) (h0::hs) r:=by
 obtain⟨ty,nm,b,r⟩:=h;cases nm with
 |none=>cases ty<;>cases b<;>exact nomatch (show Ae=Aa (g,m,h0,hs) from q)
 |some m'=>
  cases b with
  |nil=>cases ty<;>exact nomatch (show Ae=Aa (g,m,h0,hs) from q)
  |cons h0' hs'=>
   cases ty with
   |none=>exact nomatch (show Ae=Aa (g,m,h0,hs) from q)
   |some e=>
    obtain⟨g',e1,q⟩:=As.mp (show ((F1 e).bind λg=>Aa (g.1,m',h0',hs'))=Aa (g,m,h0,hs) from q)
    cases q;rw[GF e1];exact⟨_,_,rfl⟩
noncomputable def N9:AC->An (AC×Ac D4×Ac AC)
  | .Try b hs es fs _=>(match b,fs with
    |[bt],[]=>Aa (bt,hs,es)
    | _,_=>Ae)
  |_=>Ae
theorem YU{st bt:AC}{hs:Ac D4}{es:Ac AC}(q:N9 st=Aa (bt,hs,es)):∃ p,st=.Try [bt] hs es [] p:=by
 cases st with
 |Try b h e f p=>
  cases b with
  |nil=>cases f<;>exact nomatch (show Ae=Aa (bt,hs,es) from q)
  |cons x b=>
   cases b with
   |cons=>cases f<;>exact nomatch (show Ae=Aa (bt,hs,es) from q)
   |nil=>
    cases f with
    |nil=>cases q;exact⟨_,rfl⟩
    |cons=>exact nomatch (show Ae=Aa (bt,hs,es) from q)
 |_=>exact nomatch (show Ae=Aa (bt,hs,es) from q)
noncomputable def Tq(e:Am)(F:Ag->Ag->Am->Ai):Ai:=GL e λg l=>GK l λa t=>Ea a λv=>F g v t
theorem Zg{e:Am}{F:Ag->Ag->Am->Ai}(h:Tq e F=Ab):∃ g p v q t r,e=.Call (.Name g p) [.Name v q,t] [] r/\F g v t=Ab:=by
 obtain⟨g,p,l,r,rfl,h⟩:=G9 h;obtain⟨a,t,rfl,h⟩:=Im h;obtain⟨v,q,rfl,h⟩:=Eu h;exact⟨g,p,v,q,t,r,rfl,h⟩
noncomputable def N6(T:Tc):Ac Am->Ac Ki->Ai
  |[],ks=>ks.isEmpty
  | e::r,ks=>Hc ks λk ks=>Ea e λt=>(match k with
    |.cls c=>inX T.exs t c&&glB T t&&ED t
    | _=>Ad)&&N6 T r ks
noncomputable def Kf(f:Am->E->Ai):Ac Am->Es->Ai
 |[],.nil=>Ab
 |x::xs,.cons e es=>C7 x&&f x e&&Kf f xs es
 |_,_=>Ad
noncomputable def kP(T:Tc)(t:Am)(ks:Ac Ki):Ai:=Hc ks λk r=>match k with
  |.verr=>r.isEmpty&&(Ea t λt=>t==("ValueError" : Ag)&&isB T t)
  | .cls c=>(match r with
    |[]=>Ea t λt=>inX T.exs t c&&glB T t&&ED t
    | k2::r=>HQ t λts=>N6 T ts (.cls c::k2::r)&&decide (ts.length<=1000))
  |_=>Ad
noncomputable def GJ:Af->Tc->Af->Am->E->Ai
  |0,_,_,_,_=>Ad
  |n+1,T,x,e,c=>match c with
    |.bl b=>FX e λk=>decide (k=.bool b)
    |.no a=>IF e λo y=>decide (o=.Not)&&GJ n T x y a
    | .and es=>(match es with
      |.nil=>Ad
      | .cons a r=>(match r with
        |.nil=>HR e λo l _=>decide (o=.And)&&(Ds l λy=>GJ n T x y a)
        | .cons a' as=>HR e λo l p=>decide (o=.And)&&(Hc l λy l=>Hc l λz zs=>GJ n T x y a&&GJ n T x (.BoolOp .And (z::zs) p) (.and (.cons a' as)))))
    |.isi a ks=>Kb a λi=>Tq e λg v t=>i==x&&g==("isinstance" : Ag)&&isB T g&&isV T v x&&kP T t ks
    |.call _ _=>Ad
    |.str s=>FX e λk=>decide (k=.str s)
    |.lst es=>Lw e λxs=>Kf (GJ n T x) xs es&&decide (xs.length<=1000)
    |.tup es=>HQ e λxs=>Kf (GJ n T x) xs es&&decide (xs.length<=1000)
    |.bin op a b=>decide (op=.Add)&&(Kb a λi=>Lo e λl o y=>decide (o=.Add)&&(Ea l λv=>isV T v i&&GJ n T x y b))
    |.fld o f=>Kb o λi=>Gr e λw g _=>Ea w λv=>i==x&&g==f&&(f==("triple" : Ag)||(f==("points" : Ag)||f==("row" : Ag)))&&isV T v x
    |_=>Ad
noncomputable def lG:E->Ai
 |.lst _=>Ab
 |_=>Ad
noncomputable def N7:Af->Tc->Af->Ac AC->Ss->Ai
  |0,_,_,_,_=>Ad
  |n+1,T,x,sts,ss=>match ss with
    |.nil=>sts.isEmpty
    | .cons s ss=>Hc sts λst r=>(match s with
      |.asg i b e=>Ke st λy v=>T.N[i]? == Aa y&&Hl T y&&Hd v&&GJ n T x v e&&(!b||lG e)
      |.ife _ _ _=>Ad
      |.ret _=>Ad
      |.app _ _=>Ad
      | _=>Ad)&&N7 n T x r ss
noncomputable def Oe:E->Ai
 |.var _=>Ab
 |.cmp _ a b=>LB a&&LB b
 |_=>Ad
noncomputable def Lf(n:Af)(T:Tc)(st:AC)(s:S):Ai:=match s with
  |.expr e=>Jk e λf as=>Jj st λv=>A1 n T v (.call f as)&&HP as
  |.asg i b e=>!b&&(Jk e λf as=>Ke st λy v=>T.N[i]? == Aa y&&Hl T y&&A1 n T v (.call f as)&&HP as)
  |_=>Ad
noncomputable def NT:Ss->(S->Ai)->Ai
  |.nil,_=>Ad
  | .cons a r,F=>(match r with
    |.nil=>F a
    | .cons _ _=>Ad)
theorem Pv{l:Ss}{F:S->Ai}(h:NT l F=Ab):∃ a,l=.cons a .nil/\F a=Ab:=by
 cases l with
 |nil=>exact noF h
 |cons a r=>
  cases r with
  |nil=>exact⟨a,rfl,h⟩
  |cons=>exact noF h
noncomputable def Q7(f:AC->S->Ai)(n:Af)(T:Tc)(st:AC):S->Ai
 |.ife c a b=>NT a λa=>NT b λb=>LJ st λt xs ys=>Ds xs λx=>Ds ys λy=>Gv n T t c&&Oe c&&f x a&&f y b
 |_=>Ad
noncomputable def Lx:Af->Af->Tc->AC->S->Ai
 |0,n,T,st,s=>Lf n T st s
 |m+1,n,T,st,s=>Lf n T st s||Q7 (Lx m n T) n T st s
noncomputable def lS:E->Ai
  | .bi b as=>(match b,as with
    |.len,.nil=>Ab
    | _,_=>Ad)
  |_=>Ad
noncomputable def lR:S->Ai
 |.expr e=>lS e
 |_=>Ad
noncomputable def LN:Ss->Ai
 |.cons s _=>lR s
 |.nil=>Ad
noncomputable def hdB(T:Tc)(g:Ag)(c:Af):Ai:=inX T.exs g c&&inX T.rzs g c&&glB T g&&ED g
mutual
noncomputable def Kt:Af->Tc->AC->S->Ai
  |0,_,_,_=>Ad
  |n+1,T,st,s=>match s with
    |.pass=>decide (st.ctorIdx=25)
    |.brk=>Ad
    |.cont=>Ad
    |.asg i _ e=>Ke st λx v=>T.N[i]? == Aa x&&Hl T x&&A1 n T v e
    |.asgT ts e=>Ad
    |.expr e=>Jj st λv=>Hd v&&A1 n T v e
    |.ret e=>NJ st λo=>match o with|some v=>A1 n T v e|none=>Ad
    |.retN=>Ad
    |.ife c a b=>LJ st λt xs ys=>Gv n T t c&&chkSs n T xs a&&chkSs n T ys b
    |.fors t it body=>Kc st λtg iter xs ys=>ys.isEmpty&&(Ea tg λx=>tgC T [t] [x]&&Jm iter&&chkI n T Ad iter it&&chkSs n T xs body)
    |.forT ts it body=>Kc st λtg iter xs zs=>zs.isEmpty&&(HQ tg λys=>(EO ys).isSome&&tgC T ts (tgN ys)&&Jm iter&&chkI n T Ab iter it&&chkSs n T xs body)
    |.forO i ts body=>Kc st λtg iter xs zs=>zs.isEmpty&&(HQ tg λys=>(EO ys).isSome&&tgC T ts (tgN ys)&&Jm iter&&(GL iter λg l=>Ds l λx=>g==("enumerate" : Ag)&&isB T g&&(Ea x λz=>isV T z i)&&chkSs n T xs body))
    |.whl c body=>NS st λt xs ys=>ys.isEmpty&&(Gv n T t c&&chkSs n T xs body)
    |.rais c as=>!(T.rzs.any λp=>p.2==c)||(Lv st λa b=>b.isNone&&(match a with|some e=>Iw e λg x xs=>inX T.rzs g c&&glB T g&&ED g&&decide (xs.length<=1000)&&chkEs n T (x::xs) as|none=>Ad))
    |.tryx bs c x h=>(match bs with | .cons b .nil=>(match N9 st with|some (bt,[h1],[])=>(match xHd h1 with|some (g,m,h0,hs)=>hdB T g c&&T.N[x]? == Aa m&&T.sc.names.lookup m==Aa .local&&Lx 6 n T bt b&&N7 n T x (h0::hs) h|none=>Ad)|_=>Ad)|_=>Ad)
    |.try2 _ _ _ _ _ _ _=>Ad
    |.app i e=>R9 st λx m l=>Ds l λv=>m==("append" : Ag)&&isV T x i&&C7 v&&A1 n T v e
    |.ext i e=>Ad
    |.rev i=>Ad
    |.clr i=>Ad
    |.put i k e=>Ad
    |.swp _ _ _=>Ad
    |.apop _ _ _=>Ad
    |.ins i k e=>Ad
    |.dput _ _ _=>Ad
    |.dsd _ _ _=>Ad
    |.rel _=>Ad
noncomputable def chkSs:Af->Tc->Ac AC->Ss->Ai
  |0,_,_,_=>Ad
  | n+1,T,sts,ss=>(match ss with
    |.nil=>sts.isEmpty
    |.cons (.rel i) ss=>chkSs n T sts ss
    | .cons s ss=>(match sts with
      |st::r=>Kt n T st s&&chkSs n T r ss
      | []=>Ad))||LN ss
end
noncomputable def Fp(fuel:Af)(hot:Ai)(fns:Ac (Ag×Af×Af))(bl:Ac Ag)(rzs exs gls:Ac (Ag×Af))(ps N:Ac Ag)(st:AC)(df:Df):Ai:=
  let sc:=Bt st
  sc.kind==.function && !sc.isCoroutine && !sc.isGenerator&&Jf N&&N.take ps.length==ps&&ps.all (λx=>sc.names.lookup x==Aa .local||sc.names.lookup x==Aa .cell)&&sc.names.all (λy=>y.2 != .free)&&N.length==df.n &&
  (match hot with
  |true=>Ad
  | false=>chkSs fuel ⟨sc,N,fns,bl,rzs,exs,gls,Ab⟩ (DS st) df.body)
structure XT (up:Af->Ac Af) (xn:Af->Ac D->R Ex) (CL:ClA) (rzs exs:Ac (Ag×Af)) (K:Fg) (mg:Ag->An Aj):Prop where
 xc:∀ c C,CL c=Aa C->XcOk K C
 rz:∀ p∈rzs,∃ C,CL p.2=Aa C/\mg p.1=Aa (.ref C)
 ex:∀ p∈exs,∃ C,mg p.1=Aa (.ref C)/\J9 K CL up p.2 C/\∀ c D,CL c=Aa D->E1 K (.ref D) (.ref C)=Aa ((up c).contains p.2)
 made:∀ c C ds,CL c=Aa C->xn c ds=.bad\/(xn c ds=.ok ⟨c,[]⟩/\DU K C Ae=Ab)\/∃ f,XIn K mg C f/\Jq xn c f ds
 nf:∀ c C,CL c=Aa C->∀ f:Ag,(f==("triple" : Ag)||(f==("points" : Ag)||f==("row" : Ag)))=Ab->Fo K C=Ab/\Ar K (.ref C) f=Aa Ae
 xb:∀ c,(∀ p∈rzs,p.2≠c)->∀ ds,xn c ds=.bad
def LS(K:Fg)(mg:Ag->An Aj)(CL:ClA)(x:Ag)(d:D):Prop:=∃ u v,mg x=Aa u/\Bm v u/\∀ H A,Rep K CL H A v d
structure OS (K:Fg) (mg:Ag->An Aj):Prop where
 oc:∀ c C,OC K c=Aa C->OCls K C
 kit:∀ c C c' C',OC K c=Aa C->OC K c'=Aa C'->Do K (.ref C) (.ref C')=Aa ((oup c).contains c')
 at_:∀ c,c<3->∃ C,OC K c=Aa C/\mg (LK c)=Aa (.ref C)
 mf:∀ c C m f,OC K c=Aa C->(m==("told" : Ag)||m==("shown" : Ag))=Ab->Ar K (.ref C) m=Aa (Aa (.ref f))->Dr K (.ref f)=Ab
def MkR(P:AF)(w:AS)(K:Fg)(mg:Ag->An Aj)(base:AA)(CL:ClA)(F:Af->Ac D->R D)(k c:Af):Prop:=(∀ ds,F (900+c) ds=.bad)\/∃ C f fd G k',OC K c=Aa C/\Mk K C f/\Ed K fd ["self", "p", "numbers"] []/\k'+1=k/\FnOk P w K mg base (CXR P w) k' f fd ["self", "p", "numbers"] (spI K CL G)/\(∀ ds,ds.length=2->F (900+c) ds=.bad\/F (900+c) ds=(G ds).bind (DT c))/\∀ ds y,G ds≠.exn y
structure VX (Z:Gam) (CL:ClA) (k:Af) (W:XW) (T:Tc) (X:Cx):Prop where
 sc:X.env.scope=T.sc
 kd:T.sc.kind=.function
 N:X.N=T.N
 nd:T.N.Nodup
 calm:X.calm=Ab
 room:Room k X.A
 bl:∀ x,x∈T.bl->X.mg x=Ae
 os:OS X.K X.mg
 mkr:∀ c,c<3->MkR X.prog X.w X.K X.mg X.base CL Z.F k c
 fn:∀ p∈T.fns,∃ f fd ps,GN X.K X.mg p.1=Aa (.ref f)/\A7 X.K (.ref f)=Ab/\Ed X.K fd ps []/\ps.length=p.2.2%1000/\(p.2.2<1000->FnOk X.prog X.w X.K X.mg X.base (CXR X.prog X.w) k f fd ps (spD X.K CL (p.2.2%1000) (Z.fr p.2.1) (Z.F p.2.1)))/\(1000<=p.2.2->HotOk X.prog X.w X.K X.mg X.base k f fd ps (spH X.K CL (p.2.2%1000) (Z.fr p.2.1) (Z.F p.2.1)))
 own:Dl (model X.prog X.w) X.A X.env X.xe
 px:∀ A,HJ (CXR X.prog X.w) X (EKW X.K CL A W)
 rz:Ky X CL W
 xt:XT Z.up Z.xn CL T.rzs T.exs X.K X.mg
 gl:∀ p∈T.gls,LS X.K X.mg CL p.1 (Z.G p.2)
 ex:T.tp=Ab->X.ex=[]
theorem Rl:∀ A,HJ (CXR X.prog X.w) X (EKW X.K CL A W0):=λA pI Y H s ev s' I h=>by
 obtain⟨e,T,cls,dx,H',_,_,_,_,_,_,_,_,_,_,x,_,w⟩:=h;exact w.elim
theorem Tb:Ky X CL W0:=λ_ _ _ _ _ _ _ _ _ _ _ _ _ _ z=>z.elim
def Rf{α:Type}(g f:Rho->R α):Prop:=∀ U,g U=.bad\/g U=f U
section
variable{X:Cx}{CL:ClA}{W:XW}{a:Am}{f g:Rho->R D}
theorem SE.ref(h:SE X CL W a f)(r:Rf g f):SE X CL W a g:=λA=>PE.weak (h A) λY H Q ⟨hA,U,q,p⟩=>⟨hA,U,q,by
 rcases r U with e|e
 .rw[e]at p;exact p.elim
 .rw[e]at p;exact p⟩
theorem SB.ref{f g:Rho->R Ai}(h:SB X CL W a f)(r:Rf g f):SB X CL W a g:=λA=>PT.weak (h A) λY H Q ⟨hA,U,q,p⟩=>⟨hA,U,q,by
 rcases r U with e|e
 .rw[e]at p;exact p.elim
 .rw[e]at p;exact p⟩
theorem SW.ref{f g:Rho->R Ai}(h:SW X CL W a f)(r:Rf g f):SW X CL W a g:=λA=>PW.weak (h A) λY H Q ⟨hA,U,q,p⟩=>⟨hA,U,q,by
 rcases r U with e|e
 .rw[e]at p;exact p.elim
 .rw[e]at p;exact p⟩
theorem SC.ref{fr:Ai}(h:SC X CL W fr a f)(r:Rf g f):SC X CL W fr a g:=λA=>PE.weak (h A) λY H Q ⟨hA,U,q,p⟩=>⟨hA,U,q,by
 rcases r U with e|e
 .rw[e]at p;exact p.elim
 .rw[e]at p;exact p⟩
theorem SS.ref{st:AC}{f g:Rho->O}(h:SS X CL W st f)(r:∀ U,g U=.bad\/g U=f U):SS X CL W st g:=λFz B=>PS.weak (h Fz B) λD Y H ⟨U,x,p⟩=>⟨U,x,by
 rcases r U with e|e
 .rw[e]at p;exact p.elim
 .rw[e]at p;exact p⟩
end
theorem JN:∀{l:Ac Ag},Jf l=Ab->l.Nodup
 |[],_=>List.nodup_nil
 |x::xs,h=>by
  unfold Jf at h;simp only[Al,Bi,TR,decide_eq_false_iff_not]at h;exact List.nodup_cons.mpr ⟨h.1,JN h.2⟩
section
variable{T:Tc}{X:Cx}{Z:Gam}{CL:ClA}{k:Af}{W:XW}
theorem Qt(h:Oc T x=Ab):Vis T.sc x:=by
 unfold Oc at h;split at h
 .exact .inl (by assumption)
 .exact .inr (.inl (by assumption))
 .exact .inr (.inr (by assumption))
 .cases h
theorem Jc(h:Hl T x=Ab):Loc T.sc x:=by
 unfold Hl at h;split at h
 .exact .inl (by assumption)
 .exact .inr (by assumption)
 .cases h
theorem Na(h:ED x=Ab):FD.lookup x=Ae:=by
 unfold ED at h;exact Db.mp (Bg h).2
theorem Fk(h:ED x=Ab):(x==("__debug__" : Ag))=Ad/\(x==("__classdict__" : Ag))=Ad/\x≠"__name__" := by
 unfold ED at h;replace h:=(Bg h).1;simp only[Al,Bi]at h;exact⟨h.1.1,h.1.2,λe=>by subst e;exact absurd h.2 (by simp)⟩
theorem J8{i:Af}(v:VX Z CL k W T X)(h:isV T x i=Ab):PE X (.Name x pos) (DZ i):=by
 unfold isV at h;simp only[Al,AI]at h;obtain⟨h2,h3,_⟩:=Fk h.2;exact Je (by rw[v.N];exact h.1.1) (by rw[v.sc];exact Qt h.1.2) h2 h3
theorem FW(v:VX Z CL k W T X)(h:isB T x=Ab):Gl X x/\X.mg x=Ae/\x≠"__name__"/\(x==("__debug__" : Ag))=Ad:=by
 unfold isB glB at h;simp only[Al,AI,TR,AM]at h;obtain⟨h2,h3,h4⟩:=Fk h.2;exact⟨by show X.env.scope.names.lookup x=_;rw[v.sc];exact h.1.2,v.bl x h.1.1,h4,h2⟩
theorem Cw{x:Am}(h:C7 x=Ab):Aq (x::xs) env=(Ad,eval x env)::Aq xs env:=by
 cases x<;>first|rfl|cases h
theorem XG{y:Am}(h:Qf y=Ab):M1 y:=by
 intro o i;cases y<;>first|rfl|cases h
theorem J5{e:Am}(h:Jm e=Ab):∀ x,B8 e env x=pure x:=by
 intro x;cases e<;>first|rfl|cases h
theorem Ik{e:Am}{t:An Am}{l:Af}(h:Hd e=Ab):CB e t l env=pure Ad:=by
 cases e<;>first|rfl|cases h
theorem Yr{e:Am}(h:KR e=Ab):∀ whole,GX e env whole=(do let v <-whole;standAt e.pos;holding [v] (truthy v)):=by
 intro whole;cases e<;>first|rfl|cases h
theorem Wf(v:VX Z CL k W T X)(scope:BH):relabel scope X.env=NC T.sc scope:=by
 unfold relabel NC;have:∀ n,X.env.kindOf n=T.sc.names.lookup n:=λn=>by show X.env.scope.names.lookup n=_;rw[v.sc]
 simp only[this,v.sc]
theorem Nv{N':Ac Ag}(v:VX Z CL k W T X)(h:Ku T scope ts N'=Ab):BlockOk X scope N' ts/\N'.Nodup/\scope.kind=.function:=by
 unfold Ku at h;simp only[Al,AI,Bz,BK,F7,JE]at h;obtain⟨⟨⟨⟨⟨h1,h2⟩,h4⟩,h5⟩,h6⟩,h7⟩:=h;have at7:∀ i x,N'[i]?=Aa x->i∈ts\/((scope.names.lookup x≠Aa .local/\scope.names.lookup x≠Aa .cell)/\(scope.names.lookup x≠Aa .free\/T.N[i]?=Aa x)):=λi x e=>by
  have hi:=(AW.mp e).1;have:=h7 i (Cf.mpr hi);rcases this with z|z
  .exact .inl (by simpa using z)
  .rw[e]at z;simp only[Al,F7,JE,BK,AI]at z;exact .inr z
 refine⟨⟨h1,h2,λy hy hl=>by rw[h2 y hy,hl],λy hy hf=>?_,by rw[v.N];exact h5,λi x e hf hn=>?_,λi x e hl=>?_⟩,JN h6,h1⟩
 .rw[v.sc];rcases h4 y hy with (z|z)|z
  .exact absurd hf z
  .exact .inl z
  .exact .inr z
 .rw[v.N];rcases at7 i x e with z|⟨_,z⟩
  .exact absurd z hn
  .exact z.resolve_left λq=>q hf
 .rcases at7 i x e with z|⟨z,_⟩
  .exact z
  .exact hl.elim (λq=>absurd q z.1) (λq=>absurd q z.2)
theorem VX.blk{xs:Ac Ag}{cl:Ac (Ag×Ak)}{s:Ao}{fp:Ac Ak}(v:VX Z CL k W T X)(h:Ku T scope ts (Jw ts xs T.N)=Ab):VX Z CL k W0 (T.blk scope ts xs) (cxC X scope cl C (Jw ts xs T.N) s H fp):=by
 obtain⟨_,h2,h3⟩:=Nv v h;exact⟨Wf v scope,h3,rfl,h2,v.calm,v.room,v.bl,v.os,v.mkr,v.fn,PassesOwn.never,Rl,Tb,v.xt,v.gl,λz=>nomatch z⟩
theorem Y_3{t:Af}(v:VX Z CL k W T X)(hfn:scope.names.lookup x=Aa .cell->X.fn x=Ab)(h:tgO T scope t x=Ab):PG X (.Name x pos) (ES t):=by
 unfold tgO at h;simp only[Al,BK,AI]at h;rcases h with ⟨h1,h2|h2⟩
 .exact JQ (by rw[v.N];exact v.nd) (by rw[v.N];exact h1) (by rw[v.sc];exact .inl h2) (.inr (by rw[v.sc];exact h2))
 .exact JQ (by rw[v.N];exact v.nd) (by rw[v.N];exact h1) (by rw[v.sc];exact .inr h2.1) (.inl (hfn h2.2))
theorem L5{y:Am}{r:Ac Am}{zs:Ac Ag}(h:EO (y::r)=Aa zs):∃ x p ws,y=.Name x p/\EO r=Aa ws/\zs=x::ws:=by
 cases y with
 |Name x p=>
  have h':(EO r).map (x :: ·)=Aa zs:=h;cases e:EO r with
  |none=>rw[e]at h';cases h'
  |some ws=>rw[e]at h';cases h';exact⟨x,p,ws,rfl,rfl,rfl⟩
 |_=>cases h
theorem MA(x:Ag)(p:Az)(r:Ac Am)(env:BW):Dg (.Name x p::r) env=(Ad,assign (.Name x p) env)::Dg r env:=rfl
theorem OH:∀(ys:Ac Am)(zs:Ac Ag),EO ys=Aa zs->(Dg ys env).length=ys.length/\(Dg ys env).findIdx? (·.1)=Ae/\(Dg ys env).map (·.2)=ys.map λy=>assign y env:=by
 intro ys
 induction ys with
 |nil=>intro _ _;exact⟨rfl,rfl,rfl⟩
 |cons y r ih=>
  intro zs h;obtain⟨x,p,ws,rfl,e,rfl⟩:=L5 h;obtain⟨h1,h2,h3⟩:=ih ws e;rw[MA];refine⟨?_,?_,?_⟩
  .rw[A9,A9,h1]
  .rw[List.findIdx?_cons,h2];simp
  .rw[Ce,Ce,h3]
theorem Yq(v:VX Z CL k W T X):∀(ys:Ac Am)(ts:Ac Af)(zs:Ac Ag),EO ys=Aa zs->tgB T ts zs=Ab->PGs X ys (ts.foldr (λt u=>Hh (ES t) u) Hk)/\ts.length=ys.length:=by
 intro ys
 induction ys with
 |nil=>
  intro ts zs e h;cases e;cases ts with
  |nil=>exact⟨Qk,rfl⟩
  |cons t ts=>cases h
 |cons y r ih=>
  intro ts zs e h;obtain⟨x,p,ws,rfl,e2,rfl⟩:=L5 e;cases ts with
  |nil=>cases h
  |cons t ts=>
   have h':(T.N[t]? == Aa x&&T.sc.names.lookup x==Aa .local&&tgB T ts ws)=Ab:=h;simp only[Al,AI]at h';obtain⟨h1,h2⟩:=ih ts ws e2 h'.2;exact⟨PL (JQ (by rw[v.N];exact v.nd) (by rw[v.N];exact h'.1.1) (by rw[v.sc];exact .inl h'.1.2) (.inr (by rw[v.sc];exact h'.1.2))) h1 (by rw[MA];rfl),congrArg (· + 1) h2⟩
theorem Yp(v:VX Z CL k W T X)(hn:(EO ys).isSome=Ab)(h:tgB T ts (tgN ys)=Ab):PG X (.Tuple ys kk pos) (Kv X.K ts.length (ts.foldr (λt u=>Hh (ES t) u) Hk)):=by
 cases e:EO ys with
 |none=>rw[e]at hn;cases hn
 |some zs=>
  have e2:tgN ys=zs:=by unfold tgN;rw[e];rfl
  rw[e2]at h;obtain⟨h1,h2⟩:=Yq v ys ts zs e h;obtain⟨h3,h4,_⟩:=OH (env:=X.env) ys zs e;exact Ri v.calm h1 (by rw[h3,h2]) h4
end
noncomputable def Es.len:Es->Af
 |.nil=>0
 |.cons _ es=>es.len+1
theorem Hb(Z:Gam)(U:Rho):∀(es:Es)(ds:Ac D),evA Z U es=.ok ds->ds.length=es.len
 |.nil,ds,h=>by cases h;rfl
 |.cons e es,ds,h=>by
  obtain⟨x,h1,h2⟩:=Ij (P8 Z U e es ▸ h);obtain⟨xs,h3,h4⟩:=Ij h2;cases h4;exact congrArg (· + 1) (Hb Z U es xs h3)
theorem K4(Z:Gam)(U:Rho):∀(es:Es)(ds:Ac D),evB Z U es=.ok ds->ds.length=es.len
 |.nil,ds,h=>by cases h;rfl
 |.cons e es,ds,h=>by
  obtain⟨x,h1,h2⟩:=Ij (MT Z U e es ▸ h);obtain⟨xs,h3,h4⟩:=Ij h2;cases h4;exact congrArg (· + 1) (K4 Z U es xs h3)
theorem RC(Z:Gam)(U:Rho)(e:E)(h:shE U e=Ab):top U e (evE Z U e)=evE Z U e:=by
 cases e with
 |var i=>
  show Dj U i=EU U i;have h':shV U i=Ab:=h;unfold shV at h';unfold Dj EU;cases q:U[i]? with
  |none=>rfl
  |some x=>
   cases x with
   |none=>rfl
   |some y=>
    obtain⟨d,o⟩:=y;cases o with
    |true=>rw[q]at h';cases h'
    |false=>rfl
 |_=>rfl
theorem Le(Z:Gam)(U:Rho):∀(es:Es),GO U es=Ab->evB Z U es=evA Z U es
 |.nil,_=>rfl
 |.cons e es,h=>by
  simp only[WJ,Al]at h;rw[P8,MT,RC Z U e h.1,Le Z U es h.2]
theorem Nn(Z:Gam)(c:E):Rf (λU=>evE Z U c) (λU=>top U c (evE Z U c)):=λU=>by
 by_cases h:shE U c=Ab
 .exact .inr (RC Z U c h).symm
 .cases c with
  |var i=>
   refine .inl ?_;show EU U i=.bad;have h':¬ shV U i=Ab:=h;unfold shV at h';unfold EU;cases q:U[i]? with
   |none=>rfl
   |some x=>
    cases x with
    |none=>rfl
    |some y=>
     obtain⟨d,o⟩:=y;cases o with
     |true=>rfl
     |false=>rw[q]at h';exact absurd rfl h'
  |_=>exact absurd rfl h
def Pcs(X:Cx)(CL:ClA)(W:XW)(e:Am)(f:Rho->R D):Prop:=∃ tg iter elt ifs scope pos N' ts fi fc fe as g,e=.ListComp elt [⟨tg,iter,ifs,0⟩] scope pos/\BlockOk X scope N' ts/\SI X CL W tg iter fi/\GG X.K CL ts as g /\
 (∀ cl C s H fp,PG (cxC X scope cl C N' s H fp) tg g)/\(∀ cl C s H fp,STs (cxC X scope cl C N' s H fp) CL ifs fc)/\(∀ cl C s H fp,SE (cxC X scope cl C N' s H fp) CL W0 elt fe)/\(∀ x,B8 iter X.env x=pure x) /\
 ∀ U,f U=(fi U).bind λxs=>(noX (BX (λx=>(as x U).bind fc) (λx=>(as x U).bind fe) xs)).bind λys=>.ok (.lst ys)
theorem Pcs.sc{e:Am}{f:Rho->R D}(hc:X.calm=Ab)(h:Pcs X CL W e f):SC X CL W Ab e f:=by
 obtain⟨tg,iter,elt,ifs,scope,pos,N',ts,fi,fc,fe,as,g,rfl,B,hi,hGG,hg,ht,he,hs,ef⟩:=h;exact SC.congr (YN hc B hi hGG hg ht he hs) ef
structure OkE (Z:Gam) (CL:ClA) (W:XW) (X:Cx) (e:Am) (c:E):Prop where
 se:SE X CL W e (λU=>evE Z U c)
 st:ST X CL W e (λU=>top U c (evE Z U c))
 nw:Dy Z c=Ab->SC X CL W Ab e (λU=>evE Z U c)
 cp:Hd e=Ad->Pcs X CL W e (λU=>evE Z U c)
section
variable{Z:Gam}{CL:ClA}{W:XW}{X:Cx}{e:Am}{c:E}
theorem CD(h:SE X CL W e (λU=>evE Z U c))(ht:∀ U r,top U c r=r)(hn:Dy Z c=Ad)(hc:Hd e=Ab):OkE Z CL W X e c:=
 ⟨h,by simp only[ht];exact h.st,λz=>absurd z (by rw[hn];decide),λz=>absurd z (by rw[hc];decide)⟩
theorem Nm(h:SC X CL W Ab e (λU=>evE Z U c))(ht:∀ U r,top U c r=r)(hc:Hd e=Ab):OkE Z CL W X e c:=
 ⟨h.se,by simp only[ht];exact h.se.st,λ_=>h,λz=>absurd z (by rw[hc];decide)⟩
theorem Sb(hc:X.calm=Ab)(h:Pcs X CL W e (λU=>evE Z U c))(ht:∀ U r,top U c r=r):OkE Z CL W X e c:=
 ⟨(h.sc hc).se,by simp only[ht];exact(h.sc hc).se.st,λ_=>h.sc hc,λ_=>h⟩
end
theorem kQ{k:Ki}(h:NO k=Aa x):∃ T,tyK k=Aa T/\Cq x=Aa (.type T):=by
 cases k<;>simp only[NO]at h<;>cases h
 .exact⟨_,rfl,PyProof.Rows.boot_int⟩
 .exact⟨_,rfl,PyProof.Rows.boot_bool⟩
 .exact⟨_,rfl,Uj⟩
 .exact⟨_,rfl,Ui⟩
 .exact⟨_,rfl,Uk⟩
structure Snd (Z:Gam) (CL:ClA) (k:Af) (n:Af):Prop where
 e:∀(W:XW)(T:Tc)(X:Cx)(x:Am)(c:E),VX Z CL k W T X->A1 n T x c=Ab->OkE Z CL W X x c
 b:∀(W:XW)(T:Tc)(X:Cx)(x:Am)(c:E),VX Z CL k W T X->Gv n T x c=Ab->SB X CL W x (λU=>(top U c (evE Z U c)).bind BE)
 bs:∀(W:XW)(T:Tc)(X:Cx)(xs:Ac Am)(es:Es)(pos:Az),VX Z CL k W T X->chkBs n T xs es=Ab->xs≠[]->SW X CL W (.BoolOp .And xs pos) (λU=>(evN Z U es).bind BE)/\SW X CL W (.BoolOp .Or xs pos) (λU=>(evO Z U es).bind BE)
 es:∀(W:XW)(T:Tc)(X:Cx)(xs:Ac Am)(es:Es),VX Z CL k W T X->chkEs n T xs es=Ab->SA X CL W xs (λU=>evA Z U es)/\SAT X CL W xs (λU=>evB Z U es)/\xs.length=es.len/\(∀ pos,xs≠[]->SE X CL W (.BoolOp .And xs pos) (λU=>evN Z U es)/\SE X CL W (.BoolOp .Or xs pos) (λU=>evO Z U es))/\(∀ pos,(Bq pos (Aq xs X.env)).any (·.1)=Ad)
 o:∀(W:XW)(T:Tc)(X:Cx)(x:An Am)(c:E),VX Z CL k W T X->chkO n T x c=Ab->SO X CL W x (λU=>(top U c (evE Z U c)).bind (slE c))
 t:∀(T:Tc)(X:Cx)(xs:Ac Am)(c:E),VX Z CL k W0 T X->chkT n T xs c=Ab->STs X CL xs (λU=>(top U c (evE Z U c)).bind BE)
 i:∀(W:XW)(T:Tc)(X:Cx)(tu:Ai)(tg x:Am)(i:I),VX Z CL k W T X->SX tu tg=Ab->chkI n T tu x i=Ab->SI X CL W tg x (λU=>evI Z U i)
section
variable{Z:Gam}{CL:ClA}{W:XW}{k n:Af}{T:Tc}{X:Cx}
theorem XE:Snd Z CL k 0:=⟨λ_ _ _ _ _ _ h=>noF h,λ_ _ _ _ _ _ h=>noF h,λ_ _ _ _ _ _ _ h=>noF h,λ_ _ _ _ _ _ h=>noF h,λ_ _ _ _ _ _ h=>noF h,λ_ _ _ _ _ h=>noF h,λ_ _ _ _ _ _ _ _ _ h=>noF h⟩
theorem OE{x:Am}(h:C7 x=Ab)(hx:(Bq pos (Aq xs env)).any (·.1)=Ad):(Bq pos (Aq (x::xs) env)).any (·.1)=Ad:=by
 rw[Cw h];show (Ad||(Bq pos (Aq xs env)).any (·.1))=Ad;rw[hx];rfl
theorem aL(S:Snd Z CL k n)(W:XW)(T:Tc)(X:Cx)(xs:Ac Am)(es:Es)(v:VX Z CL k W T X)(h:chkEs (n+1) T xs es=Ab):SA X CL W xs (λU=>evA Z U es)/\SAT X CL W xs (λU=>evB Z U es)/\xs.length=es.len/\(∀ pos,xs≠[]->SE X CL W (.BoolOp .And xs pos) (λU=>evN Z U es)/\SE X CL W (.BoolOp .Or xs pos) (λU=>evO Z U es))/\(∀ pos,(Bq pos (Aq xs X.env)).any (·.1)=Ad):=by
 cases xs with
 |nil=>
  cases es with
  |nil=>exact⟨Re,Yh,rfl,λ_ z=>absurd rfl z,λ_=>rfl⟩
  |cons=>exact noF h
 |cons x xs=>
  cases es with
  |nil=>exact noF h
  |cons e es=>
   replace h:(C7 x&&A1 n T x e&&chkEs n T xs es)=Ab:=h;simp only[Al]at h;obtain⟨⟨h0,h1⟩,h2⟩:=h;have he:=S.e W T X x e v h1;obtain⟨a1,a2,a3,a4,a5⟩:=S.es W T X xs es v h2;refine⟨Qi he.se a1 (Cw h0),XI he.st a2 (Cw h0),congrArg (· + 1) a3,λpos _=>?_,λpos=>OE h0 (a5 pos)⟩
   cases xs with
   |nil=>
    cases es with
    |nil=>exact⟨Nr he.se,Nr he.se⟩
    |cons=>cases a3
   |cons y ys=>
    cases es with
    |nil=>cases a3
    |cons e' es'=>
     obtain⟨b1,b2⟩:=a4 pos (by simp)
     exact⟨Ra he.se b1,fS he.se b2⟩
theorem gN(S:Snd Z CL k n)(W:XW)(T:Tc)(X:Cx)(x:An Am)(c:E)(v:VX Z CL k W T X)(h:chkO (n+1) T x c=Ab):SO X CL W x (λU=>(top U c (evE Z U c)).bind (slE c)):=by
 cases x with
 |none=>
  obtain rfl:=Xy h;exact YG
 |some x=>
  replace h:(!(Lq c)&&A1 n T x c)=Ab:=h;rw[Al]at h;have q:=YF (S.e W T X x c v h.2).st;have e:slE c=λd=>(Ey d).bind λi=>.ok (Aa i):=by
   funext d
   cases c<;>first|rfl|exact absurd (show Ad=Ab from h.1) Av
  rw[e];exact q
theorem gL(S:Snd Z CL k n)(T:Tc)(X:Cx)(xs:Ac Am)(c:E)(v:VX Z CL k W0 T X)(h:chkT (n+1) T xs c=Ab):STs X CL xs (λU=>(top U c (evE Z U c)).bind BE):=by
 cases xs with
 |nil=>
  replace h:=Zh h;obtain⟨b,rfl,h⟩:=h;subst h;exact Yv
 |cons x xs=>
  replace h:(xs.isEmpty&&Gv n T x c)=Ab:=h;rw[Al]at h;obtain rfl:=E4 h.1;exact Yu (S.b W0 T X x c v h.2)
theorem gO(S:Snd Z CL k n)(W:XW)(T:Tc)(X:Cx)(tu:Ai)(tg x:Am)(i:I)(v:VX Z CL k W T X)(ht':SX tu tg=Ab)(h:chkI (n+1) T tu x i=Ab):SI X CL W tg x (λU=>evI Z U i):=by
 have ht:tu=Ab->kI tg=Ab:=λz=>by
  subst z;cases tg<;>first|rfl|cases ht'
 cases i with
 |e a=>
  exact mJ (S.e W T X x a v h).se
 |rng a=>
  replace h:=G9 h;obtain⟨g,pp,l,qq,rfl,h⟩:=h;replace h:=Ec h;obtain⟨y,rfl,h⟩:=h;simp only[Al,AI]at h;obtain⟨⟨⟨rfl,h1⟩,h2⟩,h3⟩:=h;obtain⟨g1,g2,_,_⟩:=FW v h1;exact aV (S.e W T X _ a v h3).st g1 g2 (Cw h2)
 |rng2 a b=>
  replace h:=G9 h;obtain⟨g,pp,l,qq,rfl,h⟩:=h;replace h:=Im h;obtain⟨y,z,rfl,h⟩:=h;simp only[Al,AI]at h;obtain⟨⟨⟨⟨⟨rfl,h1⟩,h2⟩,h3⟩,h4⟩,h5⟩:=h;obtain⟨g1,g2,_,_⟩:=FW v h1;exact YI (S.e W T X _ a v h4).st (S.e W T X _ b v h5).st g1 g2 (by rw[Cw h2,Cw h3];rfl) (by rw[Cw h3];rfl)
 |zip a b=>exact absurd (show Ad=Ab from h) Av
 |zip3 a b c=>exact absurd (show Ad=Ab from h) Av
 |enm a=>
  replace h:=G9 h;obtain⟨g,pp,l,qq,rfl,h⟩:=h;replace h:=Ec h;obtain⟨y,rfl,h⟩:=h;simp only[Al,AI]at h;obtain⟨⟨⟨⟨h0,rfl⟩,h1⟩,h2⟩,h3⟩:=h;obtain⟨g1,g2,_,_⟩:=FW v h1;have hg:=ht h0;cases tg with
  |Tuple es m tpos=>exact YJ (S.e W T X _ a v h3).se g1 g2 (Cw h2)
  |_=>cases hg
theorem IU{c:Prop}[E9 c]{b:Ai}:(if c then R.ok (D.bl b) else .bad)=.bad\/∃ b',(if c then R.ok (D.bl b) else .bad)=.ok (.bl b'):=by
 by_cases h:c
 .rw[AE h];exact .inr ⟨_,rfl⟩
 .rw[AO h];exact .inl rfl
theorem Qb(op:CH)(d d':D):Br op d d'=.bad\/∃ b,Br op d d'=.ok (.bl b):=by
 cases op with
 |Eq=>exact IU
 |NotEq=>exact IU
 |In=>
  cases d' with
  |lst ys=>exact IU
  |tup ys=>exact IU
  |dic kvs=>
   show (match HW d with|some k=>R.ok (D.bl (kvs.any λp=>p.1==k))|none=>.bad)=.bad\/∃ b,(match HW d with|some k=>R.ok (D.bl (kvs.any λp=>p.1==k))|none=>.bad)=.ok (.bl b)
   cases HW d with
   |some k=>exact .inr ⟨_,rfl⟩
   |none=>exact .inl rfl
  |_=>exact .inl rfl
 |NotIn=>
  cases d' with
  |lst ys=>exact IU
  |tup ys=>exact IU
  |_=>exact .inl rfl
 |Is=>
  cases d' with
  |non=>cases d<;>first|exact .inr ⟨_,rfl⟩|exact .inl rfl
  |_=>cases d<;>first|exact .inl rfl|exact .inr ⟨_,rfl⟩
 |IsNot=>
  cases d' with
  |non=>cases d<;>first|exact .inr ⟨_,rfl⟩|exact .inl rfl
  |_=>cases d<;>first|exact .inl rfl|exact .inr ⟨_,rfl⟩
 |_=>
  cases d with
  |int i=>cases d'<;>first|exact .inr ⟨_,rfl⟩|exact .inl rfl
  |_=>exact .inl rfl
theorem QG(op:CH)(d d':D):(Br op d d').bind BE=.bad\/(Br op d d').bind BE=(Br op d d').bind C8:=by
 rcases Qb op d d' with h|⟨b,h⟩
 .rw[h];exact .inl rfl
 .rw[h];exact .inr rfl
theorem eX(e e':E)(es:Es):Rf (λU=>(evN Z U (.cons e (.cons e' es))).bind BE) (λU=>((top U e (evE Z U e)).bind BE).bind λc=>if c=Ab then (evN Z U (.cons e' es)).bind BE else .ok Ad):=λU=>by
 have e0:evN Z U (.cons e (.cons e' es))=(evE Z U e).bind λx=>(C8 x).bind λc=>if c=Ab then evN Z U (.cons e' es) else .ok (.bl Ad):=rfl
 dsimp only;rw[e0];rcases Nn Z e U with z|z<;>dsimp only at z
 .rw[z];exact .inl rfl
 .rw[<-z];cases evE Z U e with
  |bad=>exact .inl rfl
  |exn x=>exact .inr rfl
  |ok d=>
   cases d with
   |bl b=>cases b<;>exact .inr rfl
   |_=>exact .inl rfl
theorem eW(e e':E)(es:Es):Rf (λU=>(evO Z U (.cons e (.cons e' es))).bind BE) (λU=>((top U e (evE Z U e)).bind BE).bind λc=>if c=Ab then .ok Ab else (evO Z U (.cons e' es)).bind BE):=λU=>by
 have e0:evO Z U (.cons e (.cons e' es))=(evE Z U e).bind λx=>(C8 x).bind λc=>if c=Ab then .ok (.bl Ab) else evO Z U (.cons e' es):=rfl
 dsimp only;rw[e0];rcases Nn Z e U with z|z<;>dsimp only at z
 .rw[z];exact .inl rfl
 .rw[<-z];cases evE Z U e with
  |bad=>exact .inl rfl
  |exn x=>exact .inr rfl
  |ok d=>
   cases d with
   |bl b=>cases b<;>exact .inr rfl
   |_=>exact .inl rfl
theorem Rf.tru(e:E):Rf (λU=>(evE Z U e).bind BE) (λU=>(top U e (evE Z U e)).bind BE):=λU=>by
 rcases Nn Z e U with z|z<;>dsimp only at z ⊢
 .rw[z];exact .inl rfl
 .rw[<-z];exact .inr rfl
theorem aM(S:Snd Z CL k n)(W:XW)(T:Tc)(X:Cx)(xs:Ac Am)(es:Es)(pos:Az)(v:VX Z CL k W T X)(h:chkBs (n+1) T xs es=Ab)(hne:xs≠[]):SW X CL W (.BoolOp .And xs pos) (λU=>(evN Z U es).bind BE)/\SW X CL W (.BoolOp .Or xs pos) (λU=>(evO Z U es).bind BE):=by
 cases xs with
 |nil=>exact absurd rfl hne
 |cons x xs=>
  cases es with
  |nil=>exact noF h
  |cons e es=>
   replace h:(Gv n T x e&&chkBs n T xs es)=Ab:=h;simp only[Al]at h;obtain⟨h1,h2⟩:=h;have he:=S.b W T X x e v h1;cases xs with
   |nil=>
    cases es with
    |nil=>exact⟨SW.ref (Yt he) (Rf.tru e),SW.ref (bT he) (Rf.tru e)⟩
    |cons=>
     cases n with
     |zero=>exact absurd (show Ad=Ab from h2) Av
     |succ n=>exact absurd (show Ad=Ab from h2) Av
   |cons y ys=>
    cases es with
    |nil=>
     cases n with
     |zero=>exact absurd (show Ad=Ab from h2) Av
     |succ n=>exact absurd (show Ad=Ab from h2) Av
    |cons e' es'=>
     obtain⟨b1,b2⟩:=S.bs W T X (y::ys) (.cons e' es') pos v h2 (by simp)
     exact⟨SW.ref (bU he b1) (eX e e' es'),SW.ref (gK he b2) (eW e e' es')⟩
theorem Y_2(S:Snd Z CL k n){x:Am}{ops:Ac CH}{b:BI}(v:VX Z CL k W T X)(h:Og T (A1 n) x ops ys b as=Ab):SB X CL W (.Compare x ops ys pos) (λU=>(top U (.bi b as) (evE Z U (.bi b as))).bind BE):=by
 exact absurd (show Ad=Ab from h) Av
theorem gQ(S:Snd Z CL k n)(W:XW)(T:Tc)(X:Cx)(x:Am)(c:E)(v:VX Z CL k W T X)(h:Gv (n+1) T x c=Ab):SB X CL W x (λU=>(top U c (evE Z U c)).bind BE):=by
 have plain:∀ e,KR e=Ab->A1 n T e c=Ab->SB X CL W e (λU=>(top U c (evE Z U c)).bind BE):=λe h1 h2=>aG (S.e W T X e c v h2).st (Yr h1)
 replace h:((IF x λo x=>decide (o=.Not)&&(LI c λa=>Gv n T x a))||(HR x λo xs _=>(decide (o=.And)&&(Lp c λes=>chkBs n T xs es && !xs.isEmpty))||(decide (o=.Or)&&(LH c λes=>chkBs n T xs es && !xs.isEmpty)))||(Kd x λx os ys=>(Ll c λop a b=>Ds os λop'=>Ds ys λy=>decide (op'=op) && !behindInMarks op y&&A1 n T x a&&A1 n T y b)||(Lm c λop1 op2 a b c=>GK os λo1 o2=>GK ys λy z=>decide (o1=op1)&&decide (o2=op2) && !lastMarks [op1,op2] [y,z]&&A1 n T x a&&A1 n T y b&&A1 n T z c)||(Ln c λb as=>Og T (A1 n) x os ys b as))||KR x&&A1 n T x c)=Ab:=h
 replace h:=(orT h).imp_left λz=>(orT z).imp_left orT
 rcases h with ((h|h)|h)|h
 .replace h:=K2 h;obtain⟨o,y,p,rfl,h⟩:=h;replace h:=Bg h;obtain⟨h0,h⟩:=h;obtain rfl:=AH h0;replace h:=Zf h;obtain⟨a,rfl,h⟩:=h
  .skip
   refine SB.ref (aH (S.b W T X _ a v h)) λU=>?_
   show ((top U a (evE Z U a)).bind λx=>(C8 x).bind λb=>.ok (.bl (!b))).bind BE=.bad\/((top U a (evE Z U a)).bind λx=>(C8 x).bind λb=>.ok (.bl (!b))).bind BE=_
   cases top U a (evE Z U a) with
   |bad=>exact .inl rfl
   |exn x=>exact .inr rfl
   |ok d=>cases d<;>first|exact .inr rfl|exact .inl rfl
 .replace h:=JT h;obtain⟨o,ys,p,rfl,h⟩:=h;replace h:=orT h;rcases h with h|h
  .replace h:=Bg h;obtain⟨h0,h⟩:=h;obtain rfl:=AH h0;replace h:=Xn h;obtain⟨es,rfl,h⟩:=h;simp only[Al,Bi,Da]at h;exact(S.bs W T X _ _ _ v h.1 h.2).1.sb
  .replace h:=Bg h;obtain⟨h0,h⟩:=h;obtain rfl:=AH h0;replace h:=Ze h;obtain⟨es,rfl,h⟩:=h;simp only[Al,Bi,Da]at h;exact(S.bs W T X _ _ _ v h.1 h.2).2.sb
 .replace h:=Pw h;obtain⟨w,os,ys,p,rfl,h⟩:=h;replace h:=(orT h).imp_left orT;rcases h with (h|h)|h
  .replace h:=Xi h;obtain⟨op,a,b,rfl,h⟩:=h;replace h:=Ec h;obtain⟨op',rfl,h⟩:=h;replace h:=Ec h;obtain⟨y,rfl,h⟩:=h
   .simp only[Al,Bi,AM]at h;obtain⟨⟨⟨rfl,h1⟩,h2⟩,h3⟩:=h;refine SB.ref (aI (K1 v.room.units _) (S.e W T X _ a v h2).st (S.e W T X _ b v h3).st h1) λU=>?_
    show ((top U a (evE Z U a)).bind λx=>(top U b (evE Z U b)).bind λy=>Br op' x y).bind BE=.bad\/((top U a (evE Z U a)).bind λx=>(top U b (evE Z U b)).bind λy=>Br op' x y).bind BE=_
    cases top U a (evE Z U a) with
    |bad=>exact .inl rfl
    |exn x=>exact .inr rfl
    |ok d=>
     cases top U b (evE Z U b) with
     |bad=>exact .inl rfl
     |exn x=>exact .inr rfl
     |ok d'=>
      dsimp only[R.bind];exact QG _ d d'
  .replace h:=Xj h;obtain⟨op1,op2,a,b,c,rfl,h⟩:=h;replace h:=Im h;obtain⟨o1,o2,rfl,h⟩:=h;replace h:=Im h;obtain⟨y,z,rfl,h⟩:=h
   .simp only[Al,Bi,AM]at h;obtain⟨⟨⟨⟨⟨rfl,rfl⟩,h1⟩,h2⟩,h3⟩,h4⟩:=h;refine SB.ref (XH v.room.units (S.e W T X _ a v h2).st (S.e W T X _ b v h3).st (S.e W T X _ c v h4).st h1) λU=>?_
    show ((top U a (evE Z U a)).bind λx=>(top U b (evE Z U b)).bind λy=>(Br o1 x y).bind λz=>(C8 z).bind λk=>if k=Ab then (top U c (evE Z U c)).bind λu=>Br o2 y u else .ok (.bl Ad)).bind BE=.bad\/((top U a (evE Z U a)).bind λx=>(top U b (evE Z U b)).bind λy=>(Br o1 x y).bind λz=>(C8 z).bind λk=>if k=Ab then (top U c (evE Z U c)).bind λu=>Br o2 y u else .ok (.bl Ad)).bind BE=_
    cases top U a (evE Z U a) with
    |bad=>exact .inl rfl
    |exn x=>exact .inr rfl
    |ok d=>
     cases top U b (evE Z U b) with
     |bad=>exact .inl rfl
     |exn x=>exact .inr rfl
     |ok d'=>
      dsimp only[R.bind];cases Br o1 d d' with
      |bad=>exact .inl rfl
      |exn x=>exact .inr rfl
      |ok d3=>
       cases d3 with
       |bl k=>
        cases k with
        |false=>exact .inr rfl
        |true=>
         dsimp only[R.bind,C8];rw[AE rfl,AE rfl];cases top U c (evE Z U c) with
         |bad=>exact .inl rfl
         |exn x=>exact .inr rfl
         |ok d4=>exact QG _ d' d4
       |_=>exact .inl rfl
  .replace h:=Xk h;obtain⟨b,as,rfl,h⟩:=h;exact Y_2 S v h
 .exact plain _ (Bg h).1 (Bg h).2
end
section
variable{Z:Gam}{CL:ClA}{W:XW}{k n:Af}{T:Tc}{X:Cx}
theorem kR{b:BI}{x:Am}(v:VX Z CL k W T X)(hb:NP b=Aa g)(hg:isB T g=Ab)(hs:SAT X CL W (x::xs) (λU=>evB Z U as))(h0:C7 x=Ab)(hpl:∀ pos,(Bq pos (Aq xs X.env)).any (·.1)=Ad):OkE Z CL W X (.Call (.Name g p) (x::xs) [] pos) (.bi b as):=by
 obtain⟨g1,g2,g3,g4⟩:=FW v hg;cases b<;>simp only[NP]at hb<;>cases hb
 .exact CD (J6 eT g1 g2 PySem.boot_len hs g3 g4 (Cw h0) hpl) (λ_ _=>rfl) rfl rfl
 .exact CD (J6 (eS v.calm) g1 g2 PyProof.Rows.boot_max hs g3 g4 (Cw h0) hpl) (λ_ _=>rfl) rfl rfl
 .exact CD (J6 (eR v.calm) g1 g2 PyProof.Rows.boot_min hs g3 g4 (Cw h0) hpl) (λ_ _=>rfl) rfl rfl
 .exact Nm (aQ Z_7 g1 g2 Ui hs g3 g4 (Cw h0) hpl) (λ_ _=>rfl) rfl
 .exact CD (RN Yd g1 g2 Uk hs g3 g4 (Cw h0) hpl) (λ_ _=>rfl) rfl rfl
 .exact CD (J6 (eV v.calm) g1 g2 PyProof.Rows.boot_all hs g3 g4 (Cw h0) hpl) (λ_ _=>rfl) rfl rfl
 .exact CD (J6 (eU v.calm) g1 g2 PyProof.Rows.boot_any hs g3 g4 (Cw h0) hpl) (λ_ _=>rfl) rfl rfl
 .exact CD (RN eQ g1 g2 Uj hs g3 g4 (Cw h0) hpl) (λ_ _=>rfl) rfl rfl
theorem Wj{β:Type}[BEq α][LawfulBEq α]{a:α}{b:β}:∀{l:Ac (α×β)},l.lookup a=Aa b->(a,b)∈l:=by
 intro l
 induction l with
 |nil=>intro h;cases h
 |cons p r ih=>
  intro h;obtain⟨x,y⟩:=p;by_cases z:(a==x)=Ab
  .simp only[CP,z]at h;cases h;rw[eq_of_beq z];exact AB
  .have z':(a==x)=Ad:=by simpa using z
   simp only[CP,z']at h;exact Ax _ (ih h)
theorem Ix{l:Ac (Ag×Af)}(h:inX l g c=Ab):(g,c)∈l:=by
 unfold inX at h;simp only[DX,Al,AI]at h;obtain⟨p,hp,rfl,rfl⟩:=h;exact hp
theorem HF{x:Am}{es:Es}(h:chkEs n T (x::xs) es=Ab):C7 x=Ab/\∃ e es',es=.cons e es'/\∃ m,n=m+1/\chkEs m T xs es'=Ab:=by
 cases n with
 |zero=>exact noF h
 |succ m=>
  cases es with
  |nil=>exact noF h
  |cons e es=>
   replace h:(C7 x&&A1 m T x e&&chkEs m T xs es)=Ab:=h;simp only[Al]at h;exact⟨h.1.1,e,es,rfl,m,rfl,h.2⟩
theorem Ii:∀(m:Af)(xs:Ac Am)(es:Es),chkEs m T xs es=Ab->∀ pos,(Bq pos (Aq xs X.env)).any (·.1)=Ad:=by
 intro m
 induction m with
 |zero=>intro xs es h;exact noF h
 |succ m ih=>
  intro xs es h pos;cases xs with
  |nil=>rfl
  |cons x xs=>
   obtain⟨h0,e,es',rfl,m',e1,h1⟩:=HF h;cases e1;exact OE h0 (ih xs es' h1 pos)
theorem Zq(S:Snd Z CL k n){x:Am}{b:BI}(v:VX Z CL k W T X)(h:(match LP as with|some (s,a)=>Hf x λf l ks cp=>ks.isEmpty&&(Gr f λo m ap=>m==("join" : Ag)&&ap.endLine==cp.line&&(FX o λc=>decide (c=.str s)&&decide (b=.sjoin)&&(Ds l λy=>C7 y&&A1 n T y a)))|none=>Ad)=Ab):OkE Z CL W X x (.bi b as):=by
 cases q1:LP as with
 |none=>rw[q1]at h;cases h
 |some t=>
  obtain⟨s,a⟩:=t;rw[q1]at h;obtain⟨e,te⟩:=ZS q1;subst e;replace h:=JS h;obtain⟨f,l,ks,cp,rfl,h⟩:=h;replace h:=Bg h;obtain⟨h0,h⟩:=h;obtain rfl:=E4 h0;replace h:=Io h;obtain⟨o,m,ap,rfl,h⟩:=h;replace h:=Bg h;obtain⟨h1,h⟩:=h;replace h1:=Bg h1;obtain⟨h1,h2⟩:=h1;obtain rfl:=eq_of_beq h1;replace h:=HE h;obtain⟨c,u,p,rfl,h⟩:=h;replace h:=Bg h;obtain⟨h3,h⟩:=h;replace h3:=Bg h3;obtain⟨h3,h4⟩:=h3;obtain rfl:=AH h3;obtain rfl:=AH h4;replace h:=Ec h;obtain⟨y,rfl,h⟩:=h;replace h:=Bg h;obtain⟨h5,h6⟩:=h;refine CD (SE.congr (YM (S.e W T X _ a v h6).se rfl (by rw[Cw h5];rfl) h2 (by rw[Cw h5];rfl)) λU=>?_) (λ_ _=>rfl) rfl rfl
  simp only[RB,evB,R.bind_assoc,R.bind_ok,Qw,QY,te]
theorem XD(S:Snd Z CL k n){x:Am}{b:BI}(v:VX Z CL k W T X)(h:(match LO as with|some (a,s)=>Hf x λf l ks cp=>ks.isEmpty&&(Gr f λo m ap=>m==("split" : Ag)&&ap.endLine==cp.line&&Jl o&&A1 n T o a&&(Ds l λy=>FX y λc=>decide (c=.str s)&&decide (b=.ssplit)))|none=>Ad)=Ab):OkE Z CL W X x (.bi b as):=by
 cases q1:LO as with
 |none=>rw[q1]at h;cases h
 |some t=>
  obtain⟨a,s⟩:=t;rw[q1]at h;have e:=ZR q1;subst e;replace h:=JS h;obtain⟨f,l,ks,cp,rfl,h⟩:=h;replace h:=Bg h;obtain⟨h0,h⟩:=h;obtain rfl:=E4 h0;replace h:=Io h;obtain⟨o,m,ap,rfl,h⟩:=h;replace h:=Bg h;obtain⟨h1,h⟩:=h;replace h1:=Bg h1;obtain⟨h1,h6⟩:=h1;replace h1:=Bg h1;obtain⟨h1,h3⟩:=h1;replace h1:=Bg h1;obtain⟨h1,h2⟩:=h1;obtain rfl:=eq_of_beq h1;replace h:=Ec h;obtain⟨y,rfl,h⟩:=h;replace h:=HE h;obtain⟨c,u,p,rfl,h⟩:=h;replace h:=Bg h;obtain⟨h4,h5⟩:=h;obtain rfl:=AH h4;obtain rfl:=AH h5;refine CD (SE.congr (XF (S.e W T X _ a v h6).st (K6 h3) h2).se λU=>?_) (λ_ _=>rfl) rfl rfl
  simp only[RB,evB,R.bind_assoc,R.bind_ok,Qw,QY]
theorem aK(S:Snd Z CL k n){x:Am}{b:BI}(v:VX Z CL k W T X)(h:(match Ox as with|some a=>(match Td x with|some y=>decide (b=.rvs)&&A1 n T y a|none=>Ad)|none=>Ad)=Ab):OkE Z CL W X x (.bi b as):=by
 simp[Ox]at h
theorem bO(S:Snd Z CL k n){x:Am}{b:BI}(v:VX Z CL k W T X)(h:(match NW as with|some (a,c)=>(match S1 x with|some (y,z,_)=>decide (b=.tlt) && !behindInMarks .Lt z&&A1 n T y a&&A1 n T z c|none=>Ad)|none=>Ad)=Ab):OkE Z CL W X x (.bi b as):=by
 simp[NW]at h
theorem eE{x:Am}{b:BI}(v:VX Z CL k W T X)(h:SY T x b as=Ab):OkE Z CL W X x (.bi b as):=by
 exact absurd h Av
theorem bW(S:Snd Z CL k n){x:Am}{b:BI}(v:VX Z CL k W T X)(h:(match NX as with|some (a,k)=>(match SG x with|some (y,j)=>decide (b=.stp)&&decide (j=k)&&decide (0<=k)&&A1 n T y a|none=>Ad)|none=>Ad)=Ab):OkE Z CL W X x (.bi b as):=by
 simp[NX]at h
theorem cW(S:Snd Z CL k n){x:Am}{b:BI}(v:VX Z CL k W T X)(h:(match N1 as with|some (a,c)=>(match S6 x with|some (g,h,y,z)=>decide (b=.list)&&g==("list" : Ag)&&h==("range" : Ag)&&isB T g&&isB T h&&C7 y&&C7 z&&A1 n T y a&&A1 n T z c|none=>Ad)|none=>Ad)=Ab):OkE Z CL W X x (.bi b as):=by
 simp[N1]at h
theorem Zo(S:Snd Z CL k n){x:Am}{b:BI}(v:VX Z CL k W T X)(h:(match NY as with|some a=>(match Tt x with|some (g,h,y)=>decide (b=.lset)&&g==("len" : Ag)&&h==("set" : Ag)&&isB T g&&isB T h&&C7 y&&A1 n T y a|none=>Ad)|none=>Ad)=Ab):OkE Z CL W X x (.bi b as):=by
 simp[NY]at h
theorem gP(S:Snd Z CL k n)(W:XW)(T:Tc)(X:Cx)(x:Am)(c:E)(v:VX Z CL k W T X)(h:A1 (n+1) T x c=Ab):OkE Z CL W X x c:=by
 cases c with
 |non=>
  replace h:=HE h;obtain⟨c,u,p,rfl,h⟩:=h;obtain rfl:=AH h;exact CD aY (λ_ _=>rfl) rfl rfl
 |bl b=>
  replace h:=HE h;obtain⟨c,u,p,rfl,h⟩:=h;obtain rfl:=AH h;exact CD RX (λ_ _=>rfl) rfl rfl
 |int i=>
  replace h:=HE h;obtain⟨c,u,p,rfl,h⟩:=h;obtain rfl:=AH h;exact CD bF (λ_ _=>rfl) rfl rfl
 |str i=>
  replace h:=HE h;obtain⟨c,u,p,rfl,h⟩:=h;obtain rfl:=AH h;exact CD La (λ_ _=>rfl) rfl rfl
 |var i=>
  replace h:=Eu h;obtain⟨y,p,rfl,h⟩:=h;exact⟨aW (J8 v h),Jd (J8 v h),λz=>(nomatch z),λz=>(nomatch z)⟩
 |glob g=>exact absurd (show Ad=Ab from h) Av
 |bin op a b=>
  replace h:=Py h;obtain⟨y,op',z,p,rfl,h⟩:=h;simp only[Al,AM]at h;obtain⟨⟨rfl,h1⟩,h2⟩:=h;have ha:=(S.e W T X _ a v h1).st;have hb:=(S.e W T X _ b v h2).st;refine⟨Nt (M9 _) ha hb,(Nt (M9 _) ha hb).st,λz=>?_,λz=>nomatch z⟩
  cases op'<;>first|exact aR ha hb|cases z
 |un op a=>
  replace h:=K2 h;obtain⟨o,y,p,rfl,h⟩:=h;replace h:=Bg h;obtain⟨h0,h⟩:=h;obtain rfl:=AH h0;simp only[Al,AM]at h;obtain⟨rfl,h1⟩:=h;exact CD (aZ (S.e W T X _ a v h1).st) (λ_ _=>rfl) rfl rfl
 |no a=>
  replace h:=K2 h;obtain⟨o,y,p,rfl,h⟩:=h;replace h:=Bg h;obtain⟨h0,h⟩:=h;obtain rfl:=AH h0;exact CD (RJ (S.e W T X _ a v h).st) (λ_ _=>rfl) rfl rfl
 |and es=>
  replace h:=JT h;obtain⟨o,ys,p,rfl,h⟩:=h;replace h:=Bg h;obtain⟨h0,h⟩:=h;obtain rfl:=AH h0;simp only[Al,Bi,Da]at h;exact CD ((S.es W T X _ es v h.1).2.2.2.1 _ h.2).1 (λ_ _=>rfl) rfl rfl
 |or es=>
  replace h:=JT h;obtain⟨o,ys,p,rfl,h⟩:=h;replace h:=Bg h;obtain⟨h0,h⟩:=h;obtain rfl:=AH h0;simp only[Al,Bi,Da]at h;exact CD ((S.es W T X _ es v h.1).2.2.2.1 _ h.2).2 (λ_ _=>rfl) rfl rfl
 |cmp op a b=>
  replace h:=Pw h;obtain⟨y,os,ys,p,rfl,h⟩:=h;replace h:=Ec h;obtain⟨op',rfl,h⟩:=h;replace h:=Ec h;obtain⟨z,rfl,h⟩:=h;simp only[Al,Bi,AM]at h;obtain⟨⟨⟨rfl,h1⟩,h2⟩,h3⟩:=h;exact CD (bH (K1 v.room.units _) (S.e W T X _ a v h2).st (S.e W T X _ b v h3).st h1) (λ_ _=>rfl) rfl rfl
 |cmp2 op1 op2 a b c=>exact absurd (show Ad=Ab from h) Av
 |ite c a b=>exact absurd (show Ad=Ab from h) Av
 |call f as=>
  replace h:=IX h;obtain⟨g,pp,y,ys,qq,rfl,h⟩:=h;simp only[Al,DX,AI,AM]at h;obtain⟨⟨⟨⟨⟨p,hp,⟨rfl,rfl⟩,hl⟩,h900⟩,h1⟩,h2⟩,h3⟩:=h;obtain⟨fa,fd,ps,m1,m2,m3,m4,m5,_⟩:=v.fn p hp;have hlt:p.2.2<1000:=by omega
  rw[Gh hlt]at m4 m5;have m5:=m5 hlt;obtain⟨n2,n3,n4⟩:=Fk h2;replace m1:=MQ m1 (Na h2);obtain⟨a1,a2,a3,a4,a5⟩:=S.es W T X _ as v h3;obtain⟨s0,e,es',rfl,m,rfl,s1⟩:=HF h3;have q:SC X CL W (Z.fr p.2.1) (.Call (.Name p.1 pp) (y::ys) [] qq) (λU=>evE Z U (.call p.2.1 (.cons e es'))):=Yg (sh:=λU=>GO U (.cons e es')) m5 v.room (by unfold glB at h1;show X.env.scope.names.lookup p.1=_;rw[v.sc];exact eq_of_beq h1) m1 m2 m3 v.px a1 a2 (λU z=>Le Z U _ z) (λU ds z=>by rw[K4 Z U _ _ z,<-a3,hl];rfl) n2 (Cw s0) (Ii m ys es' s1)
  exact⟨q.se,q.se.st,λz=>by
   have z':Z.fr p.2.1=Ab:=z;rw[z']at q;exact q,λz=>nomatch z⟩
 |bi b as=>
  unfold A1 at h;dsimp only at h;simp only[BK]at h;rcases h with (((((((h|h)|h)|h)|h)|h)|h)|h)|h
  .replace h:=IX h;obtain⟨g,pp,y,ys,qq,rfl,h⟩:=h;simp only[Al,AI]at h;obtain⟨⟨h1,h2⟩,h3⟩:=h;obtain⟨s0,e,es',rfl,m,rfl,s1⟩:=HF h3;exact kR v h1 h2 (S.es W T X _ _ v h3).2.1 s0 (Ii m _ es' s1)
  .exact eE v h
  .exact cW S v h
  .exact bW S v h
  .exact Zo S v h
  .exact bO S v h
  .exact Zq S v h
  .exact XD S v h
  .exact aK S v h
 |isi a ks=>
  replace h:=orT h;rcases h with h|h
  .skip
   replace h:=Ec h;obtain⟨k',rfl,h⟩:=h;replace h:=G9 h;obtain⟨g,pp,l,qq,rfl,h⟩:=h;replace h:=Im h;obtain⟨y,t,rfl,h⟩:=h;replace h:=Eu h;obtain⟨t,pt,rfl,h⟩:=h;simp only[Al,AI]at h;obtain⟨⟨⟨⟨⟨rfl,h1⟩,h2⟩,h3⟩,h4⟩,h5⟩:=h;obtain⟨g1,g2,_,_⟩:=FW v h1;obtain⟨b1,b2,b3,b4⟩:=FW v h3;obtain⟨ty,t1,t2⟩:=kQ h2;exact CD (bE t1 g1 g2 b1 b2 t2 b3 b4 (S.e W T X _ a v h5).st (Cw h4)) (λ_ _=>rfl) rfl rfl
  .replace h:=Ec h;obtain⟨k',rfl,h⟩:=h;replace h:=G9 h;obtain⟨g,pp,l,qq,rfl,h⟩:=h;replace h:=Im h;obtain⟨y,t,rfl,h⟩:=h;replace h:=Eu h;obtain⟨t,pt,rfl,h⟩:=h;simp only[Al,AI]at h;obtain⟨⟨⟨⟨rfl,h1⟩,h4⟩,h5⟩,h6⟩:=h;obtain⟨g1,g2,_,_⟩:=FW v h1;cases k' with
   |verr=>
    replace h6:=Bg (a:=t==("ValueError" : Ag)) h6;obtain⟨h6,h7⟩:=h6;obtain rfl:=eq_of_beq h6;obtain⟨b1,b2,_,_⟩:=FW v h7;exact CD (RK v.xt.xc g1 g2 b1 b2 (S.e W T X _ a v h5).st (Cw h4)) (λ_ _=>rfl) rfl rfl
   |cls c=>
    replace h6:=Bg (a:=inX T.exs t c&&glB T t) h6;obtain⟨h6,h8⟩:=h6;replace h6:=Bg h6;obtain⟨h6,h7⟩:=h6;obtain⟨C,m1,m3,_⟩:=v.xt.ex _ (Ix h6);obtain⟨n2,_,_⟩:=Fk h8;exact CD (RM v.xt.xc g1 g2 (by unfold glB at h7;show X.env.scope.names.lookup _=_;rw[v.sc];exact eq_of_beq h7) m1 m3 n2 (S.e W T X _ a v h5).st (Cw h4)) (λ_ _=>rfl) rfl rfl
   |_=>exact noF h6
 |idx a i=>
  replace h:=Pu h;obtain⟨y,z,p,rfl,h⟩:=h;simp only[Al]at h;obtain⟨⟨h1,h2⟩,h3⟩:=h;exact CD (bG (XG h1) (S.e W T X _ a v h2).st (S.e W T X _ i v h3).st) (λ_ _=>rfl) rfl rfl
 |sl a lo hi=>
  replace h:=Pu h;obtain⟨y,s,p,rfl,h⟩:=h;replace h:=X2 h;obtain⟨l,u,st,p',rfl,h⟩:=h;replace h:=Bg h;obtain⟨h0,h⟩:=h;obtain rfl:=Db.mp h0;simp only[Al]at h;obtain⟨⟨h1,h2⟩,h3⟩:=h;refine Nm (SC.congr (fY (S.e W T X _ a v h1).st (S.o W T X _ lo v h2) (S.o W T X _ hi v h3)) λU=>?_) (λ_ _=>rfl) rfl
  show ((top U a (evE Z U a)).bind λx=>(top U lo (evE Z U lo)).bind λl=>(slE lo l).bind λl'=>(top U hi (evE Z U hi)).bind λh=>(slE hi h).bind λh'=>slD x l' h')=_
  simp only[R.bind_assoc]
 |tup es=>
  replace h:=IT h;obtain⟨ys,cc,p,rfl,h⟩:=h;simp only[Al,AM]at h;have q:=S.es W T X _ es v h.1;exact CD (RI q.1 λU ds z=>by rw[Hb Z U _ _ z,<-q.2.2.1];omega) (λ_ _=>rfl) rfl rfl
 |lst es=>
  replace h:=MK h;obtain⟨ys,p,rfl,h⟩:=h;simp only[Al,AM]at h;have q:=S.es W T X _ es v h.1;exact Nm (Np q.1 λU ds z=>by rw[Hb Z U _ _ z,<-q.2.2.1];omega) (λ_ _=>rfl) rfl
 |comp elt t it c=>
  replace h:=Qr (e:=x) (F:=_) (by unfold A1 at h;exact h)
  obtain⟨y,tg,it',ifs,scope,p,rfl,h⟩:=h;replace h:=Eu h;obtain⟨w,pw,rfl,h⟩:=h;simp only[Al]at h;obtain⟨⟨⟨⟨⟨h1,h2⟩,h3⟩,h4⟩,h5⟩,h6⟩:=h;refine Sb v.calm ⟨_,_,_,_,_,_,_,_,_,_,_,_,_,rfl,(Nv v h3).1,S.i W T X Ad _ _ it v rfl h1,ZV t,λcl C s H fp=>Y_3 (v.blk h3) (λz=>AI.mpr z) h4,λcl C s H fp=>S.t _ _ _ c (v.blk h3) h5,λcl C s H fp=>(S.e W0 _ _ _ elt (v.blk h3) h6).se,J5 h2,λU=>rfl⟩ (λ_ _=>rfl)
 |compT elt ts it c=>
  replace h:=Qr (e:=x) (F:=_) (by unfold A1 at h;exact h)
  obtain⟨y,tg,it',ifs,scope,p,rfl,h⟩:=h;replace h:=IT h;obtain⟨ys,cc,pw,rfl,h⟩:=h;simp only[Al]at h;obtain⟨⟨⟨⟨⟨⟨h0,h1⟩,h2⟩,h3⟩,h4⟩,h5⟩,h6⟩:=h;refine Sb v.calm ⟨_,_,_,_,_,_,_,_,_,_,_,_,_,rfl,(Nv v h3).1,S.i W T X Ab _ _ it v rfl h1,fC ts,λcl C s H fp=>Yp (v.blk h3) h0 h4,λcl C s H fp=>S.t _ _ _ c (v.blk h3) h5,λcl C s H fp=>(S.e W0 _ _ _ elt (v.blk h3) h6).se,J5 h2,λU=>rfl⟩ (λ_ _=>rfl)
 |tupI it=>exact absurd (show Ad=Ab from h) Av
 |dnew=>exact noF h
 |fld o f=>
  replace h:=Io h;obtain⟨w,g,p,rfl,h⟩:=h;simp only[Al,AI]at h;obtain⟨⟨⟨rfl,h2⟩,h3⟩,h4⟩:=h;exact CD (QE v.xt.xc (λc C z=>v.xt.nf c C z _ h2) (S.e W T X _ o v h4).st (K6 h3)) (λ_ _=>rfl) rfl rfl
 |ofl o f=>
  replace h:=Io h;obtain⟨w,g,p,rfl,h⟩:=h;simp only[Al,AI]at h;obtain⟨⟨⟨rfl,h2⟩,h3⟩,h4⟩:=h;refine CD (aX (λc C z=>?_) (S.e W T X _ o v h4).st (K6 h3)) (λ_ _=>rfl) rfl rfl
  rw[h2];exact⟨(v.os.oc c C z).cl,(v.os.oc c C z).nt⟩
 |iso a k'=>
  replace h:=G9 h;obtain⟨g,pp,l,qq,rfl,h⟩:=h;replace h:=Im h;obtain⟨y,t,rfl,h⟩:=h;replace h:=Eu h;obtain⟨t,pt,rfl,h⟩:=h;unfold ocB at h;simp only[Al,AI,AM]at h;obtain⟨⟨⟨⟨rfl,h1⟩,h4⟩,h5⟩,⟨⟨⟨e6,h7⟩,h8⟩,h9⟩⟩:=h;obtain⟨g1,g2,_,_⟩:=FW v h1;obtain⟨n2,_,_⟩:=Fk h9;obtain⟨C',o1,o2⟩:=v.os.at_ k' h7;exact CD (bD v.os.oc g1 g2 (by unfold glB at h8;show X.env.scope.names.lookup _=_;rw[v.sc];exact eq_of_beq h8) (by rw[e6];exact o2) (λc C z=>v.os.kit c C k' C' z o1) n2 (S.e W T X _ a v h5).st (Cw h4)) (λ_ _=>rfl) rfl rfl
 |meth m ms o=>
  replace h:=JS h;obtain⟨f,l,ks,cp,rfl,h⟩:=h;replace h:=Bg h;obtain⟨h0,h⟩:=h;obtain rfl:=E4 h0;replace h:=Bg h;obtain⟨h0',h⟩:=h;obtain rfl:=E4 h0';replace h:=Io h;obtain⟨w,g,ap,rfl,h⟩:=h;replace h:=Bg h;obtain⟨h,h5⟩:=h;replace h:=Bg h;obtain⟨h,h4⟩:=h;replace h:=Bg h;obtain⟨h,h3⟩:=h;replace h:=Bg h;obtain⟨h,h2⟩:=h;replace h:=Bg h;obtain⟨h,h1⟩:=h;obtain rfl:=eq_of_beq h;refine CD (YK v.room v.px (S.e W T X _ o v h4).st (λc id C hl hC=>?_) (K6 h3) h2) (λ_ _=>rfl) rfl rfl
  have hm:=Bz.mp h5 _ (Wj hl);simp only[DX,Al,AI]at hm;obtain⟨p,hp,⟨e1,e2⟩,e3⟩:=hm;obtain⟨fa,fd,ps,m1,m2,m3,m4,m5,_⟩:=v.fn p hp;have m5:=m5 (by omega)
  rw[e3,e2]at m5;have at1:=Xs m1 e1 hC;exact⟨fa,fd,ps,_,(v.os.oc c C hC).cl,⟨at1,v.os.mf c C _ fa hC h1 at1,m2⟩,m3,m5⟩
 |mkob c e=>exact noF h
 |mkn c as=>
  replace h:=IX h;obtain⟨g,np,x,xs,cpos,rfl,h⟩:=h;unfold ocB at h;simp only[Al,AI,AM]at h;obtain⟨⟨⟨⟨⟨e6,h7⟩,h8⟩,h9⟩,hl⟩,h5⟩:=h;obtain⟨n2,_,_⟩:=Fk h9;obtain⟨s0,e,es',rfl,m,rfl,s1⟩:=HF h5;have q:=S.es W T X _ _ v h5;rcases v.mkr c h7 with hb|⟨C,f,fd,G,k',o1,M,hb,hk,FI,hF,hG⟩
  .refine CD (λA pI s Y H Q I ⟨hA,U,gd,p⟩=>?_) (λ_ _=>rfl) rfl rfl
   have p':AT (λH=>Rep X.K CL H A) W H ((noX (evA Z U (.cons e es'))).bind λxs=>Z.F (900+c) xs) Q:=p
   cases e1:evA Z U (.cons e es') with
   |bad=>rw[e1]at p';exact p'.elim
   |exn y=>rw[e1]at p';exact p'.elim
   |ok ds=>rw[e1]at p';have p2:AT (λH=>Rep X.K CL H A) W H (Z.F (900+c) ds) Q:=p';rw[hb ds]at p2;exact p2.elim
  .obtain⟨C',o2,o3⟩:=v.os.at_ c h7;have:C'=C:=by rw[o1]at o2;exact(Bc o2).symm
   subst this;subst hk;exact CD (YL M o1 (v.os.oc c _ o1) FI v.room hb v.px hF hG (by unfold glB at h8;show X.env.scope.names.lookup g=_;rw[v.sc];exact eq_of_beq h8) (by rw[e6];exact o3) n2 q.1 (λU ds z=>by rw[Hb Z U _ _ z,<-q.2.2.1,A9,hl]) (Cw s0) (Ii m xs es' s1 _)) (λ_ _=>rfl) rfl rfl
 |mkx c as=>
  replace h:=Bg h;obtain⟨h0,h⟩:=h;replace h:=IX h;obtain⟨g,np,x,xs,cpos,rfl,h⟩:=h;simp only[Al,AM]at h;obtain⟨⟨⟨⟨h1,h2⟩,h3⟩,h4⟩,h5⟩:=h;obtain⟨C,m1,m2⟩:=v.xt.rz _ (Ix h1);obtain⟨n2,_,_⟩:=Fk h3;obtain⟨s0,e,es',rfl,m,rfl,s1⟩:=HF h5;have q:=S.es W T X _ _ v h5;exact CD (fT (v.ex h0) v.room (by unfold glB at h2;show X.env.scope.names.lookup g=_;rw[v.sc];exact eq_of_beq h2) m2 n2 m1 q.1 (λds=>v.xt.made c C ds m1) (Cw s0) (Ii m xs es' s1 _) (λU ds z=>by rw[Hb Z U _ _ z,<-q.2.2.1,A9];omega)) (λ_ _=>rfl) rfl rfl
theorem snd:∀ n,Snd Z CL k n
 |0=>XE
 |n+1=>⟨gP (snd n),gQ (snd n),aM (snd n),aL (snd n),gN (snd n),gL (snd n),gO (snd n)⟩
end
section
variable{Z:Gam}{CL:ClA}{W:XW}{k n:Af}{T:Tc}{X:Cx}
theorem Y_4{t:Af}(v:VX Z CL k W T X)(hf:∀ x,X.fn x=Ab)(h:tgC T [t] [x]=Ab):PG X (.Name x pos) (ES t):=by
 unfold tgC at h;simp only[Al,AI]at h;exact JQ (by rw[v.N];exact v.nd) (by rw[v.N];exact h.1.1) (by rw[v.sc];exact Jc h.1.2) (.inl (hf x))
theorem Y_5(v:VX Z CL k W T X)(hf:∀ x,X.fn x=Ab):∀(ys:Ac Am)(ts:Ac Af)(zs:Ac Ag),EO ys=Aa zs->tgC T ts zs=Ab->PGs X ys (ts.foldr (λt u=>Hh (ES t) u) Hk)/\ts.length=ys.length:=by
 intro ys
 induction ys with
 |nil=>
  intro ts zs e h;cases e;cases ts with
  |nil=>exact⟨Qk,rfl⟩
  |cons t ts=>cases h
 |cons y r ih=>
  intro ts zs e h;obtain⟨x,p,ws,rfl,e2,rfl⟩:=L5 e;cases ts with
  |nil=>cases h
  |cons t ts=>
   have h':(T.N[t]? == Aa x&&Hl T x&&tgC T ts ws)=Ab:=h;simp only[Al,AI]at h';obtain⟨h1,h2⟩:=ih ts ws e2 h'.2;exact⟨PL (JQ (by rw[v.N];exact v.nd) (by rw[v.N];exact h'.1.1) (by rw[v.sc];exact Jc h'.1.2) (.inl (hf x))) h1 (by rw[MA];rfl),congrArg (· + 1) h2⟩
theorem Qx(v:VX Z CL k W T X)(hf:∀ x,X.fn x=Ab)(hn:(EO ys).isSome=Ab)(h:tgC T ts (tgN ys)=Ab):PG X (.Tuple ys kk pos) (Kv X.K ts.length (ts.foldr (λt u=>Hh (ES t) u) Hk)):=by
 cases e:EO ys with
 |none=>rw[e]at hn;cases hn
 |some zs=>
  have e2:tgN ys=zs:=by unfold tgN;rw[e];rfl
  rw[e2]at h;obtain⟨h1,h2⟩:=Y_5 v hf ys ts zs e h;obtain⟨h3,h4,_⟩:=OH (env:=X.env) ys zs e;exact Ri v.calm h1 (by rw[h3,h2]) h4
theorem OX(ts:Ac Af):∀ d U x,DR ts d U≠.exn x:=λd U x h=>by
 unfold DR at h;cases d with
 |tup xs=>
  dsimp only at h;cases e:Dv ts xs U with
  |some r=>rw[e]at h;cases h
  |none=>rw[e]at h;cases h
 |_=>cases h
theorem WQ{elt:Am}{gs:Ac Hr}{l:Af}:∃ b,CB (.ListComp elt gs scope pos) (Aa (.Name x pos')) l env=pure b/\(b=Ab->env.scope.names.lookup x=Aa .local):=by
 refine⟨_,rfl,λh=>?_⟩
 simp only[Al,AI]at h;exact h.1.1.2
theorem Nh{v0:Am}{i:Af}{e:E}{fr:Ai}(v:VX Z CL k W T X)(hf:∀ x,X.fn x=Ab)(hi:T.N[i]?=Aa x)(hl:Hl T x=Ab)(o:OkE Z CL W X v0 e)(hfr:fr=Ab->Dy Z e=Ab):SAs X CL W fr i (.Assign [.Name x p] v0 pos) (λU=>evE Z U e):=by
 have hN:X.N.Nodup:=by rw[v.N];exact v.nd
 have hi':X.N[i]?=Aa x:=by rw[v.N];exact hi
 have hx:Loc X.env.scope x:=by rw[v.sc];exact Jc hl
 have sc:SC X CL W fr v0 (λU=>evE Z U e):=by
  cases fr with
  |false=>exact o.se.sc
  |true=>exact o.nw (hfr rfl)
 cases hc:Hd v0 with
 |true=>exact SC.sas hN hi' hx sc (Ik hc) (.inl (hf x))
 |false=>
  obtain⟨tg,iter,elt,ifs,scope,pos2,N',ts,fi,fc,fe,as,g,rfl,B,h2,hGG,hg,ht,he,hs,ef⟩:=o.cp hc;obtain⟨b,hb,hb'⟩:=WQ (elt:=elt) (gs:=[⟨tg,iter,ifs,0⟩]) (scope:=scope) (pos:=pos2) (pos':=p) (x:=x) (l:=pos.line) (env:=X.env);cases b with
  |false=>exact SC.sas hN hi' hx sc hb (.inl (hf x))
  |true=>
   have q:=XJ (pos2:=pos) v.calm B h2 hGG hg ht he hs hN hi' (hb' rfl) hb;have q':SAs X CL W Ab i (.Assign [.Name x p] (.ListComp elt [⟨tg,iter,ifs,0⟩] scope pos2) pos) (λU=>evE Z U e):=by
    have:(λU=>evE Z U e)=_:=funext ef
    rw[this];exact q
   cases fr with
   |true=>exact q'
   | false=>exact λA=>PS.weak (q' A) λD Y H ⟨hA,U,gd,z⟩=>⟨hA,U,gd,by
     dsimp only at z ⊢;cases e0:evE Z U e with
     |ok d=>
      rw[e0]at z;exact λv' H' s' r'=>z v' H' s' ⟨r'.1,λ_=>r'.2 rfl⟩
     |exn y=>rw[e0]at z;exact z
     | bad=>rw[e0]at z;exact z⟩
theorem O6(U:Rho)(e:E)(h:∀ i,e≠.var i):evS Z U (.ret e)=O.of U (evE Z U e) λd=>.ret d (Dy Z e):=by
 have k:∀ b:Ai,b=Ad->top U e (evE Z U e)=evE Z U e->(O.of U (top U e (evE Z U e)) λd=>.ret d (Dy Z e||b))=O.of U (evE Z U e) λd=>.ret d (Dy Z e):=λb hb ht=>by
  rw[hb,ht];simp only[Dz]
 rw[QX];cases e with
 |var i=>exact absurd rfl (h i)
 |_=>exact k _ rfl rfl
structure DefX (X:Cx):Prop where
 fn:∀ x,X.fn x=Ab
 ex:X.ex=[]
 st:X.stack=X.env::X.outer
 fm:X.env.frame=Aa X.env.locals
structure SndS (Z:Gam) (CL:ClA) (k:Af) (n:Af):Prop where
 s:∀(W:XW)(T:Tc)(X:Cx)(x:AC)(c:S),VX Z CL k W T X->DefX X->Kt n T x c=Ab->SS X CL W x (λU=>evS Z U c)
 ss:∀(W:XW)(T:Tc)(X:Cx)(x:Ac AC)(c:Ss),VX Z CL k W T X->DefX X->chkSs n T x c=Ab->SSs X CL W x (λU=>evSs Z U c)
theorem Zb(x y:D)(e:Ex):Cy x y≠.exn e:=by
 intro z;cases x with
 |lst xs=>cases y<;>first|exact IW z|cases z
 |tup xs=>cases y<;>first|exact IW z|cases z
 |str x=>
  cases y with
  |int i=>
   have z':(if BY x.length=Ab then Du (Js x) i else .bad)=.exn e:=z
   split at z'
   .exact IW z'
   .cases z'
  |_=>cases z
 |dic kvs=>
  have z':(match (HW y).bind (NB kvs) with|some d=>R.ok d|none=>.bad)=.exn e:=z
  cases h:(HW y).bind (NB kvs) with
  |none=>rw[h]at z';cases z'
  |some k=>rw[h]at z';cases z'
 |_=>cases z
theorem Qv{i:Af}{y:Ex}:Dj U i≠.exn y:=λz'=>by
 exact KM z'
theorem KN(Z:Gam)(U:Rho)(e:E)(h:LB e=Ab)(y:Ex):top U e (evE Z U e)≠.exn y:=by
 cases e with
 |var i=>
  intro z;have z':Dj U i=.exn y:=z;exact KM z'
 |idx a b=>
  cases a with
  |var i=>
   cases b with
   |int j=>
    intro z;have z':(Dj U i).bind (λx=>Cy x (.int j))=.exn y:=z
    cases e1:Dj U i with
    |bad=>rw[e1]at z';cases z'
    |exn w=>exact Qv e1
    |ok d=>rw[e1]at z';exact Zb _ _ _ z'
   |_=>exact noF h
  |_=>exact noF h
 |bin op a b=>
  have h:(SJ op&&Of a b)=Ab:=h;rw[Al]at h;obtain⟨h0,h⟩:=h;cases op with
  |Sub=>
   cases a with
   |var i=>
    cases b with
    |int j=>
     intro z;have z':(Dj U i).bind (λx=>CF .Sub x (.int j))=.exn y:=z
     cases e1:Dj U i with
     |bad=>rw[e1]at z';cases z'
     |exn w=>exact Qv e1
     |ok d=>rw[e1]at z';cases d<;>cases z'
    |_=>exact noF h
   |_=>exact noF h
  |_=>exact absurd (show Ad=Ab from h0) Av
 |int i=>intro z;cases z
 |bl i=>intro z;cases z
 |str i=>intro z;cases z
 |non=>intro z;cases z
 |_=>cases h
theorem Mj(Z:Gam)(U:Rho):∀(es:Es),HP es=Ab->∀ y,evB Z U es≠.exn y
 |.nil,_,y=>λz=>by cases z
 |.cons e es,h,y=>λz=>by
  unfold HP at h;rw[Al]at h;rw[MT]at z;cases e1:top U e (evE Z U e) with
  |bad=>rw[e1]at z;cases z
  |exn w=>exact KN Z U e h.1 w e1
  |ok d=>
   rw[e1,R.bind_ok]at z;cases e2:evB Z U es with
   |bad=>rw[e2]at z;cases z
   |exn w=>exact Mj Z U es h.2 w e2
   |ok ds=>rw[e2]at z;cases z
theorem VX.pw(v:VX Z CL k W T X)(own:Dl (model X.prog X.w) X.A X.env Xw):VX Z CL k W0 T (Cx.pw X pI Xw):=⟨v.sc,v.kd,v.N,v.nd,v.calm,v.room,v.bl,v.os,v.mkr,v.fn,own,Rl,Tb,v.xt,v.gl,v.ex⟩
theorem Pa(o:O):(o.seq λU'=>O.next U')=o:=by cases o<;>rfl
theorem STB.congr{st:Ac AC}{f g:Rho->O}(h:STB X CL st f)(e:∀ U,g U=f U):STB X CL st g:=by
 have:g=f:=funext e;rw[this];exact h
theorem RD(Sn:Snd Z CL k n)(v:VX Z CL k W T X)(hf:DefX X){st:AC}{s:S}(h:Lf n T st s=Ab):STB X CL [st] (λU=>evSs Z U (.cons s .nil))/\∀ U y U',evSs Z U (.cons s .nil)=.exn y U'->U'=U:=by
 have seq:∀ U,evSs Z U (.cons s .nil)=evS Z U s:=λU=>Pa _
 have ofn:∀{r:R D}{f:D->Rho}{U U':Rho}{y:Ex},(O.of U r λd=>O.next (f d))=.exn y U'->U'=U:=λ{r f U U' y} z=>by
  cases r with
  |ok d=>cases z
  |exn w=>cases z;rfl
  |bad=>cases z
 have call:∀{e:Am}{f:Af}{as:Es},A1 n T e (.call f as)=Ab->HP as=Ab->∃ g pp y ys qq,e=.Call (.Name g pp) (y::ys) [] qq/\∃ p∈T.fns,g=p.1/\f=p.2.1/\p.2.2=ys.length+1/\ys.length<900/\glB T g=Ab/\ED g=Ab/\∃ m,n=m+1/\chkEs m T (y::ys) as=Ab:=λ{e f as} h _=>by
  cases n with
  |zero=>exact noF h
  |succ m=>
   replace h:=IX h;obtain⟨g,pp,y,ys,qq,rfl,h⟩:=h;simp only[Al,DX,AI,AM]at h;obtain⟨⟨⟨⟨⟨p,hp,⟨e1,e2⟩,hl⟩,h900⟩,h1⟩,h2⟩,h3⟩:=h;exact⟨g,pp,y,ys,qq,rfl,p,hp,e1.symm,e2.symm,hl,h900,h1,h2,m,rfl,h3⟩
 cases s with
 |expr e0=>
  replace h:(Jk e0 λf as=>Jj st λv=>A1 n T v (.call f as)&&HP as)=Ab:=h
  replace h:=Px h;obtain⟨f,as,rfl,h⟩:=h;replace h:=MM h;obtain⟨v0,pos,rfl,h⟩:=h;rw[Al]at h;obtain⟨g,pp,y,ys,qq,rfl,p,hp,rfl,rfl,hl,h900,h1,h2,m,rfl,h3⟩:=call h.1 h.2;obtain⟨fa,fd,ps,m1,m2,m3,m4,m5,_⟩:=v.fn p hp;have hlt:p.2.2<1000:=by omega
  rw[Gh hlt]at m4 m5;have m5:=m5 hlt;obtain⟨n2,n3,n4⟩:=Fk h2;replace m1:=MQ m1 (Na h2);obtain⟨s0,e,es',rfl,m',rfl,s1⟩:=HF h3;have hlen:ys.length+1=(Es.cons e es').len:=(snd (Z:=Z) (CL:=CL) (k:=k) (m'+1)).es W T X _ _ v h3 |>.2.2.1;refine⟨STB.congr (WS (X:=X) (fs:=λU=>evA Z U (.cons e es')) (sh:=λU=>GO U (.cons e es')) hf.ex m5 v.room (by unfold glB at h1;show X.env.scope.names.lookup p.1=_;rw[v.sc];exact eq_of_beq h1) m1 m2 m3 (λU z=>Le Z U _ z) (λU ds z=>by rw[K4 Z U _ _ z,<-hlen,hl]) (λU=>Mj Z U _ h.2) n2 (Cw s0) (Ii m' ys es' s1) (λpI Xw own=>by
   obtain⟨a1,a2,_⟩:=(snd (Z:=Z) (CL:=CL) (k:=k) (m'+1)).es W0 T (Cx.pw X pI Xw) _ _ (v.pw own) h3;exact⟨a1,a2⟩) (Ik rfl)) λU=>seq U,λU y U' z=>?_⟩
  rw[seq]at z;exact ofn (f:=λ_=>U) z
 |asg i b0 e0=>
  replace h:(!b0&&(Jk e0 λf as=>Ke st λy v=>T.N[i]? == Aa y&&Hl T y&&A1 n T v (.call f as)&&HP as))=Ab:=h
  replace h:=Bg h;obtain⟨hb,h⟩:=h;cases b0 with
  |true=>exact absurd (show Ad=Ab from hb) Av
  |false=>
  replace h:=Px h;obtain⟨f,as,rfl,h⟩:=h;replace h:=MN h;obtain⟨y0,p0,v0,pos,rfl,h⟩:=h;simp only[Al,AI]at h;obtain⟨⟨⟨i1,i2⟩,hc⟩,hsim⟩:=h;obtain⟨g,pp,y,ys,qq,rfl,p,hp,rfl,rfl,hl,h900,h1,h2,m,rfl,h3⟩:=call hc hsim;obtain⟨fa,fd,ps,m1,m2,m3,m4,m5,_⟩:=v.fn p hp;have hlt:p.2.2<1000:=by omega
  rw[Gh hlt]at m4 m5;have m5:=m5 hlt;obtain⟨n2,n3,n4⟩:=Fk h2;replace m1:=MQ m1 (Na h2);obtain⟨s0,e,es',rfl,m',rfl,s1⟩:=HF h3;have hlen:ys.length+1=(Es.cons e es').len:=(snd (Z:=Z) (CL:=CL) (k:=k) (m'+1)).es W T X _ _ v h3 |>.2.2.1;refine⟨STB.congr (Yx (X:=X) (fs:=λU=>evA Z U (.cons e es')) (sh:=λU=>GO U (.cons e es')) (i:=i) hf.ex m5 v.room (by unfold glB at h1;show X.env.scope.names.lookup p.1=_;rw[v.sc];exact eq_of_beq h1) m1 m2 m3 (λU z=>Le Z U _ z) (λU ds z=>by rw[K4 Z U _ _ z,<-hlen,hl]) (λU=>Mj Z U _ hsim) n2 (Cw s0) (Ii m' ys es' s1) (λpI Xw own=>by
   obtain⟨a1,a2,_⟩:=(snd (Z:=Z) (CL:=CL) (k:=k) (m'+1)).es W0 T (Cx.pw X pI Xw) _ _ (v.pw own) h3;exact⟨a1,a2⟩) (by rw[v.N];exact v.nd) (by rw[v.N];exact i1) (by rw[v.sc];exact Jc i2) (.inl (hf.fn _)) (Ik rfl)) λU=>seq U,λU y U' z=>?_⟩
  rw[seq]at z;exact ofn (f:=λd=>U.set i (Aa (d,Ad))) z
 |_=>exact noF h
theorem Z_8(op:CH)(x y:D)(e:Ex):Br op x y≠.exn e:=λz=>by
 rcases Qb op x y with w|⟨b,w⟩<;>(rw[w]at z;cases z)
theorem Y_1(x:D)(e:Ex):BE x≠.exn e:=by
 unfold BE;split<;>first|(intro z;cases z;done)|(split<;>intro z<;>cases z)
theorem PJ(Z:Gam)(U:Rho)(c:E)(h:Oe c=Ab)(y:Ex):(top U c (evE Z U c)).bind BE≠.exn y:=by
 have key:∀ e,top U c (evE Z U c)≠.exn e:=by
  cases c with
  |var i=>exact KN Z U (.var i) rfl
  |cmp op a b=>
   unfold Oe at h;rw[Al]at h;intro e z;have z':((top U a (evE Z U a)).bind λx=>(top U b (evE Z U b)).bind λy=>Br op x y)=.exn e:=by
    have e0:evE Z U (.cmp op a b)=((top U a (evE Z U a)).bind λx=>(top U b (evE Z U b)).bind λy=>Br op x y):=Z_4 Z U op a b
    rw[<-e0];exact z
   cases e1:top U a (evE Z U a) with
   |bad=>rw[e1]at z';cases z'
   |exn w=>exact KN Z U a h.1 w e1
   |ok d=>
    rw[e1,R.bind_ok]at z';cases e2:top U b (evE Z U b) with
    |bad=>rw[e2]at z';cases z'
    |exn w=>exact KN Z U b h.2 w e2
    |ok d2=>rw[e2,R.bind_ok]at z';exact Z_8 _ _ _ _ z'
  |_=>cases h
 intro z;cases e1:top U c (evE Z U c) with
 |bad=>rw[e1]at z;cases z
 |exn w=>exact key w e1
 |ok d=>rw[e1,R.bind_ok]at z;exact Y_1 _ _ z
theorem fZ(Sn:Snd Z CL k n)(v:VX Z CL k W T X)(hf:DefX X):∀(m:Af){st:AC}{s:S},Lx m n T st s=Ab->STB X CL [st] (λU=>evSs Z U (.cons s .nil))/\∀ U y U',evSs Z U (.cons s .nil)=.exn y U'->U'=U:=by
 intro m
 induction m with
 |zero=>intro st s h;exact RD Sn v hf h
 |succ m ih=>
  intro st s h;replace h:=orT (a:=Lf n T st s) (b:=Q7 (Lx m n T) n T st s) h;rcases h with h|h
  .exact RD Sn v hf h
  .cases s with
   |ife c a b=>
    replace h:=Pv h;obtain⟨a,rfl,h⟩:=h;replace h:=Pv h;obtain⟨b,rfl,h⟩:=h;replace h:=Qs h;obtain⟨t,xs,ys,pos,rfl,h⟩:=h;replace h:=Ec h;obtain⟨xs,rfl,h⟩:=h;replace h:=Ec h;obtain⟨ys,rfl,h⟩:=h;simp only[Al]at h;obtain⟨⟨⟨h1,h2⟩,h3⟩,h4⟩:=h;obtain⟨a1,a2⟩:=ih h3;obtain⟨b1,b2⟩:=ih h4;have ev:∀ U,evSs Z U (.cons (.ife c (.cons a .nil) (.cons b .nil)) .nil)=O.of U ((top U c (evE Z U c)).bind BE) λk=>if k=Ab then evSs Z U (.cons a .nil) else evSs Z U (.cons b .nil):=λU=>Pa _
    refine⟨STB.congr (Yw (λpI Xw own=>(Sn.b W0 T (Cx.pw X pI Xw) _ _ (v.pw own) h1)) (λU y=>PJ Z U c h2 y) a1 b1) λU=>ev U,λU y U' z=>?_⟩
    rw[ev]at z;cases e1:(top U c (evE Z U c)).bind BE with
    |bad=>rw[e1]at z;cases z
    |exn w=>exact absurd e1 (PJ Z U c h2 w)
    |ok k=>
     rw[e1,O.of_ok]at z;cases k with
     |true=>exact a2 U y U' z
     |false=>exact b2 U y U' z
   |_=>exact noF h
theorem JY{i:Af}{e:Ak}(v:VX Z CL k W T X)(h:isV T x i=Ab):PE (Cx.hot X e) (.Name x pos) (DZ i):=by
 unfold isV at h;simp only[Al,AI]at h;obtain⟨h2,h3,_⟩:=Fk h.2;exact Je (by show X.N[i]?=_;rw[v.N];exact h.1.1) (by show Vis X.env.scope x;rw[v.sc];exact Qt h.1.2) h2 h3
theorem Rt{x:Af}{t:Am}{c:E}:∀{n:Af},GJ n T x t c=Ab->∀ U r,top U c r=r:=λ{n} h=>by
 cases n with
 |zero=>exact noF h
 |succ n=>
  cases c with
  |var i=>exact noF h
  |_=>exact λ_ _=>rfl
theorem Yc(v:VX Z CL k W T X)(e:Ak):∀(ts:Ac Am)(ks:Ac Ki),N6 T ts ks=Ab->∃ cs:Ac (Af×Ak),ks=cs.map (λq=>Ki.cls q.1)/\cs.length=ts.length/\PA (Cx.hot X e) ts (SD (cs.map λq:Af×Ak=>q.2))/\∀ q∈cs,J9 X.K CL Z.up q.1 q.2:=by
 intro ts
 induction ts with
 |nil=>
  intro ks h;obtain rfl:=E4 h;exact⟨[],rfl,rfl,EQ,λq hq=>nomatch hq⟩
 |cons t ts ih=>
  intro ks h;replace h:=HG h;obtain⟨kk,ks,rfl,h⟩:=h;replace h:=Eu h;obtain⟨t,p,rfl,h⟩:=h;replace h:=Bg h;obtain⟨h,h4⟩:=h;cases kk with
  |cls c=>
   replace h:(inX T.exs t c&&glB T t&&ED t)=Ab:=h;simp only[Al]at h;obtain⟨⟨h1,h2⟩,h3⟩:=h;obtain⟨cs,e1,e2,e3,e4⟩:=ih ks h4;obtain⟨C,m1,m3,_⟩:=v.xt.ex _ (Ix h1);obtain⟨n2,_,_⟩:=Fk h3;refine⟨(c,C)::cs,by rw[e1];rfl,by rw[A9,A9,e2],?_,λq hq=>?_⟩
   .exact Dt (M8 (X:=Cx.hot X e) (v:=.ref C) (by unfold glB at h2;show X.env.scope.names.lookup t=_;rw[v.sc];exact eq_of_beq h2) m1 rfl n2) e3 rfl
   .rcases AG.mp hq with rfl|hq
    .exact m3
    .exact e4 q hq
  |_=>exact noF h
theorem Lr{e:Ak}{f:Am->E->Ai}(ih:∀ t c,f t c=Ab->SE (Cx.hot X e) CL W0 t (λU=>evE Z U c)):∀(xs:Ac Am)(es:Es),Kf f xs es=Ab->SA (Cx.hot X e) CL W0 xs (λU=>evA Z U es)/\xs.length=es.len
 |[],.nil,_=>⟨Re,rfl⟩
 |[],.cons _ _,h=>nomatch (show Ad=Ab from h)
 |_::_,.nil,h=>nomatch (show Ad=Ab from h)
 |x::xs,.cons c es,h=>by
  have h:(C7 x&&f x c&&Kf f xs es)=Ab:=h;simp only[Al]at h;obtain⟨⟨h1,h2⟩,h3⟩:=h;obtain⟨q,l⟩:=Lr ih xs es h3;exact⟨Qi (ih x c h2) q (Cw h1),by rw[A9,l];rfl⟩
theorem So(v:VX Z CL k W T X)(e:Ak)(x:Af):∀(n:Af)(t:Am)(c:E),GJ n T x t c=Ab->SE (Cx.hot X e) CL W0 t (λU=>evE Z U c):=by
 intro n
 induction n with
 |zero=>intro t c h;exact noF h
 |succ n ih=>
  intro t c h;cases c with
  |bl b=>
   replace h:=HE h;obtain⟨k,u,p,rfl,h⟩:=h;obtain rfl:=AH h;exact RX
  |no a=>
   replace h:=K2 h;obtain⟨o,y,p,rfl,h⟩:=h;replace h:=Bg h;obtain⟨h0,h⟩:=h;obtain rfl:=AH h0;have q:=(ih _ _ h).st;refine SE.congr (RJ q) λU=>?_
   show ((top U a (evE Z U a)).bind λx=>(C8 x).bind λb=>R.ok (D.bl (!b)))=_
   rw[Rt h]
  |and es=>
   cases es with
   |nil=>exact noF h
   |cons a as=>
    cases as with
    |nil=>
     replace h:=JT h;obtain⟨o,l,p,rfl,h⟩:=h;replace h:=Bg h;obtain⟨h0,h⟩:=h;obtain rfl:=AH h0;replace h:=Ec h;obtain⟨y,rfl,h⟩:=h;exact SE.congr (Nr (ih _ _ h)) λU=>rfl
    |cons a' as=>
     replace h:=JT h;obtain⟨o,l,p,rfl,h⟩:=h;replace h:=Bg h;obtain⟨h0,h⟩:=h;obtain rfl:=AH h0;replace h:=HG h;obtain⟨y,l,rfl,h⟩:=h;replace h:=HG h;obtain⟨z,zs,rfl,h⟩:=h;exact SE.congr (Ra (ih _ _ (Bg h).1) (ih _ _ (Bg h).2)) λU=>rfl
  |isi a ks=>
   replace h:=MJ h;obtain⟨i,rfl,h⟩:=h;replace h:=Zg h;obtain⟨g,pp,w,pq,u,pr,rfl,h⟩:=h;simp only[Al,AI]at h;obtain⟨⟨⟨⟨rfl,rfl⟩,h3⟩,h4⟩,h⟩:=h;obtain⟨g1,g2,_,_⟩:=FW v h3;replace h:=HG h;obtain⟨kk,ks,rfl,h⟩:=h;cases kk with
   |verr=>
    replace h:=Bg h;obtain⟨h0,h⟩:=h;obtain rfl:=E4 h0;replace h:=Eu h;obtain⟨t,pt,rfl,h⟩:=h;simp only[Al,AI]at h;obtain⟨h5,h6⟩:=h;obtain⟨b1,b2,_,_⟩:=FW v h6;rw[h5]at b1 b2 ⊢;exact RK (X:=Cx.hot X e) v.xt.xc g1 g2 b1 b2 (Jd (JY v h4)) rfl
   |cls c=>
    cases ks with
    |nil=>
     replace h:=Eu h;obtain⟨t,pt,rfl,h⟩:=h;simp only[Al]at h;obtain⟨⟨h5,h6⟩,h7⟩:=h;obtain⟨C,m1,m3,_⟩:=v.xt.ex _ (Ix h5);obtain⟨n2,_,_⟩:=Fk h7;exact RM (X:=Cx.hot X e) v.xt.xc g1 g2 (by unfold glB at h6;show X.env.scope.names.lookup _=_;rw[v.sc];exact eq_of_beq h6) m1 m3 n2 (Jd (JY v h4)) rfl
    |cons k2 ks=>
     replace h:=IT h;obtain⟨ts,z1,z2,rfl,h⟩:=h;replace h:=Bg h;obtain⟨h5,h6⟩:=h;obtain⟨cs,e1,e2,e3,e4⟩:=Yc v e _ _ h5;have hne:cs≠[]:=by rintro rfl;cases e1
     rw[e1];exact bC (X:=Cx.hot X e) (W:=W0) (up:=Z.up) v.xt.xc g1 g2 e3 hne (by rw[e2];exact AH h6) e4 (Jd (JY v h4)) rfl
   |_=>exact noF h
  |call f as=>exact absurd (show Ad=Ab from h) Av
  |str s=>
   replace h:=HE h;obtain⟨k,u,p,rfl,h⟩:=h;obtain rfl:=AH h;exact La
  |lst es=>
   replace h:=MK h;obtain⟨xs,p,rfl,h⟩:=h;simp only[Al,AM]at h;obtain⟨q,ql⟩:=Lr (ih) _ _ h.1;exact(Np q λU ds z=>by rw[Hb Z U _ _ z,<-ql];omega).se
  |tup es=>
   replace h:=IT h;obtain⟨xs,cc,p,rfl,h⟩:=h;simp only[Al,AM]at h;obtain⟨q,ql⟩:=Lr (ih) _ _ h.1;exact RI q λU ds z=>by rw[Hb Z U _ _ z,<-ql];omega
  |bin op a b=>
   replace h:=Bg h;obtain⟨h0,h⟩:=h;obtain rfl:=AH h0;replace h:=MJ h;obtain⟨i,rfl,h⟩:=h;replace h:=Py h;obtain⟨l,o,y,p,rfl,h⟩:=h;replace h:=Bg h;obtain⟨h0,h⟩:=h;obtain rfl:=AH h0;replace h:=Eu h;obtain⟨w,pw,rfl,h⟩:=h;replace h:=Bg h;obtain⟨h1,h2⟩:=h;refine SE.congr (Nt (M9 .Add) (Jd (JY v h1)) (ih _ _ h2).st) λU=>?_
   show ((Dj U i).bind λx=>(top U b (evE Z U b)).bind λy=>CF .Add x y)=_
   rw[Rt h2]
  |fld o f=>
   replace h:=MJ h;obtain⟨i,rfl,h⟩:=h;replace h:=Io h;obtain⟨w,g,p,rfl,h⟩:=h;replace h:=Eu h;obtain⟨w,pw,rfl,h⟩:=h;simp only[Al,AI]at h;obtain⟨⟨⟨rfl,rfl⟩,h3⟩,h4⟩:=h;exact QE (X:=Cx.hot X e) v.xt.xc (λc C z=>v.xt.nf c C z _ h3) (Jd (JY v h4)) rfl
  |_=>exact noF h
theorem jY(v:VX Z CL k W T X)(hf:DefX X)(e:Ak)(x:Af):∀(n:Af)(sts:Ac AC)(ss:Ss),N7 n T x sts ss=Ab->SSs (Cx.hot X e) CL W0 sts (λU=>evSs Z U ss):=by
 intro n
 induction n with
 |zero=>intro t c h;exact noF h
 |succ n ih=>
  intro sts ss0 h;cases ss0 with
  |nil=>
   obtain rfl:=E4 h;exact Qz
  |cons s ss0=>
   replace h:=HG h;obtain⟨st,r,rfl,h⟩:=h;replace h:=Bg h;obtain⟨h,h5⟩:=h;cases s with
   |asg i b e0=>
    replace h:=MN h;obtain⟨y,py,v0,pos,rfl,h⟩:=h;simp only[Al,AI]at h;obtain⟨⟨⟨⟨h1,h2⟩,h3⟩,h4⟩,h6⟩:=h;cases b with
    |true=>
     cases e0 with
     |lst es=>
      have sc:SC (Cx.hot X e) CL W0 Ab v0 (λU=>evE Z U (.lst es)):=by
       cases n with
       |zero=>exact absurd (show Ad=Ab from h4) Av
       |succ n=>
        replace h4:=MK h4;obtain⟨l,pl,rfl,h4⟩:=h4;obtain⟨q,ql⟩:=Lr (So v e x n) _ _ (Bg h4).1;have hle:=AH (Bg h4).2;exact Np q λU ds z=>by rw[Hb Z U _ _ z,<-ql];omega
      have q:=Mu (QA (SC.sas (X:=Cx.hot X e) (pos:=pos) (pos':=py) (by show X.N.Nodup;rw[v.N];exact v.nd) (by show X.N[i]?=_;rw[v.N];exact h1) (by show Loc X.env.scope _;rw[v.sc];exact Jc h2) sc (Ik h3) (.inl (hf.fn _)))) (ih _ _ h5)
      have ef:(λU=>evSs Z U (.cons (.asg i Ab (.lst es)) ss0))=λU=>(O.of U (evE Z U (.lst es)) λd=>setF U i d).seq λU=>evSs Z U ss0:=by
       funext U
       show (evS Z U (.asg i Ab (.lst es))).seq _=_;rw[W8];rfl
      rw[ef];exact q
     |_=>exact absurd (show Ad=Ab from h6) Av
    |false=>
    exact Mu (aO (X:=Cx.hot X e) (by show X.N.Nodup;rw[v.N];exact v.nd) (by show X.N[_]?=_;rw[v.N];exact h1) (by show Loc X.env.scope _;rw[v.sc];exact Jc h2) (So v e x n _ _ h4) (Ik h3) (.inl (hf.fn _))) (ih _ _ h5)
   |ife c a b=>exact absurd (show Ad=Ab from h) Av
   |ret e0=>exact absurd (show Ad=Ab from h) Av
   |app i e0=>exact absurd (show Ad=Ab from h) Av
   |_=>exact noF h
theorem fB(v:VX Z CL k W T X)(h:hdB T g c=Ab):S5 X CL Z.up g c:=by
 unfold hdB at h;simp only[Al]at h;obtain⟨⟨⟨i1,i0⟩,i2⟩,i3⟩:=h;obtain⟨C,m1,m3,m4⟩:=v.xt.ex _ (Ix i1);obtain⟨C0,r1,r2⟩:=v.xt.rz _ (Ix i0);obtain⟨n2,_,_⟩:=Fk i3;refine⟨C,by unfold glB at i2;show X.env.scope.names.lookup g=_;rw[v.sc];exact eq_of_beq i2,m1,n2,?_,λc' D hD=>m4 c' D hD⟩
 have e0:=m1.symm.trans r2;cases e0;exact v.xt.xc _ _ r1
theorem gM(Z_:SndS Z CL k n)(W:XW)(T:Tc)(X:Cx)(st:AC)(c:S)(v:VX Z CL k W T X)(hf:DefX X)(h:Kt (n+1) T st c=Ab):SS X CL W st (λU=>evS Z U c):=by
  have E:=snd (Z:=Z) (CL:=CL) (k:=k) n;cases c with
  |pass=>
    exact Stmt.Pass.elim (motive_2:=λst=>SS X CL W st (λU=>evS Z U .pass)) st (AH h) λp=>YC
  |brk=>exact absurd (show Ad=Ab from h) Av
  |cont=>exact absurd (show Ad=Ab from h) Av
  |asg i fresh e=>
    replace h:=MN h;obtain⟨x,px,v0,pos,rfl,h⟩:=h;simp only[Al,AI]at h;obtain⟨⟨h1,h2⟩,h3⟩:=h;have o:=E.e W T X _ e v h3;cases fresh with
    |false=>exact RH (Nh (fr:=Ad) v hf.fn h1 h2 o (λz=>nomatch z))
    |true=>
      cases hn:Dy Z e with
      |true=>
        refine SS.ref (QA (Nh (fr:=Ab) v hf.fn h1 h2 o (λ_=>hn))) λU=>.inr ?_
        show O.of U (evE Z U e) (λd=>if Ab=Ab then (if Dy Z e=Ab then (match d with
          |.lst xs=>.next (U.set i (Aa (.lst xs,Ab)))
          |.dic xs=>.next (U.set i (Aa (.dic xs,Ab)))
          | _=>.bad) else .bad) else .next (U.set i (Aa (d,Ad))))=_
        rw[hn];rfl
      |false=>
        refine SS.ref (RH (Nh (fr:=Ad) v hf.fn h1 h2 o (λz=>nomatch z))) λU=>?_
        have e0:evS Z U (.asg i Ab e)=O.of U (evE Z U e) (λd=>if Ab=Ab then (if Dy Z e=Ab then (match d with
          |.lst xs=>.next (U.set i (Aa (.lst xs,Ab)))
          |.dic xs=>.next (U.set i (Aa (.dic xs,Ab)))
          | _=>.bad) else .bad) else .next (U.set i (Aa (d,Ad)))):=rfl
        rw[e0,hn];cases evE Z U e with
        |ok d=>exact .inl rfl
        |exn y=>exact .inr rfl
        |bad=>exact .inl rfl
  |asgT ts e=>exact absurd (show Ad=Ab from h) Av
  |expr e=>
    replace h:=MM h;obtain⟨v0,pos,rfl,h⟩:=h;simp only[Al]at h;exact YE (E.e W T X _ e v h.2).se (Ik h.1)
  |ret e=>
    replace h:=X3 h;obtain⟨o,pos,rfl,h⟩:=h;cases o with
    |none=>exact noF h
    |some v0=>
    replace h:A1 n T v0 e=Ab:=h;have o:=E.e W T X _ e v h;cases hv:Dy Z e with
    |true=>
      refine SS.ref (YB (o.nw hv)) λU=>.inr ?_
      rw[O6 U e (λi z=>by subst z;cases hv),hv]
    |false=>
      cases e with
      |var i=>
        cases n with
        |zero=>exact noF h
        |succ n=>
          replace h:=Eu h;obtain⟨y,py,rfl,h⟩:=h;exact Yz (J8 v h)
      |_=>
        refine SS.ref (YA o.se) λU=>.inr ?_
        rw[O6 U _ (by intro i z;cases z),hv]
  |retN=>exact absurd (show Ad=Ab from h) Av
  |ife c a b=>
    replace h:=Qs h;obtain⟨t,xs,ys,pos,rfl,h⟩:=h;simp only[Al]at h;exact gR (E.b W T X _ c v h.1.1) (Z_.ss W T X _ a v hf h.1.2) (Z_.ss W T X _ b v hf h.2)
  |fors t it body=>
    replace h:=ML h;obtain⟨tg,it',xs,ys,pos,rfl,h⟩:=h;replace h:=Bg h;obtain⟨hn,h⟩:=h;obtain rfl:=E4 hn;replace h:=Eu h;obtain⟨y,py,rfl,h⟩:=h;simp only[Al]at h;obtain⟨⟨⟨h1,h2⟩,h3⟩,h4⟩:=h;exact RF v.own v.calm (Zd t) (Y_4 v hf.fn h1) (E.i W T X Ad _ _ it v rfl h3) (Z_.ss W T X _ body v hf h4) (J5 h2) (λ_ _ _ z=>nomatch z)
  |forT ts it body=>
    replace h:=ML h;obtain⟨tg,it',xs,zs,pos,rfl,h⟩:=h;replace h:=Bg h;obtain⟨hn,h⟩:=h;obtain rfl:=E4 hn;replace h:=IT h;obtain⟨ys,cc,py,rfl,h⟩:=h;simp only[Al]at h;obtain⟨⟨⟨⟨h0,h1⟩,h2⟩,h3⟩,h4⟩:=h;exact RF v.own v.calm (Ru ts) (Qx v hf.fn h0 h1) (E.i W T X Ab _ _ it v rfl h3) (Z_.ss W T X _ body v hf h4) (J5 h2) (OX ts)
  |forO i ts body=>
    replace h:=ML h;obtain⟨tg,it',xs,zs,pos,rfl,h⟩:=h;replace h:=Bg h;obtain⟨hn,h⟩:=h;obtain rfl:=E4 hn;replace h:=IT h;obtain⟨ys,cc,py,rfl,h⟩:=h;simp only[Al]at h;obtain⟨⟨⟨h0,h1⟩,h2⟩,h3⟩:=h;replace h3:=G9 h3;obtain⟨g,pp,l,qq,rfl,h3⟩:=h3;replace h3:=Ec h3;obtain⟨y,rfl,h3⟩:=h3;simp only[Al,AI]at h3;obtain⟨⟨⟨rfl,g0⟩,hz⟩,h4⟩:=h3;replace hz:=Eu hz;obtain⟨z,pz,rfl,hz⟩:=hz;obtain⟨g1,g2,_,_⟩:=FW v g0;exact YD v.own v.calm (Ru ts) (Qx v hf.fn h0 h1) (J8 v hz) g1 g2 rfl (Z_.ss W T X _ body v hf h4) (J5 h2) (OX ts)
  |whl c body=>
    replace h:=X1 h;obtain⟨t,xs,ys,pos,rfl,h⟩:=h;replace h:=Bg h;obtain⟨hn,h⟩:=h;obtain rfl:=E4 hn;simp only[Al]at h;exact WT N4 v.own (E.b W T X _ c v h.1) (Z_.ss W T X _ body v hf h.2)
  |rais c as=>
    replace h:(!(T.rzs.any λp=>p.2==c)||(Lv st λa b=>b.isNone&&(match a with|some e=>Iw e λg x xs=>inX T.rzs g c&&glB T g&&ED g&&decide (xs.length<=1000)&&chkEs n T (x::xs) as|none=>Ad)))=Ab:=h
    cases hc:T.rzs.any (λp=>p.2==c) with
    |false=>
      have hb:∀ ds,Z.xn c ds=.bad:=v.xt.xb c λp hp z=>by
        have:T.rzs.any (λp=>p.2==c)=Ab:=List.any_eq_true.mpr ⟨p,hp,AI.mpr z⟩
        rw[hc]at this;cases this
      intro Fz B pI s Y H D I ⟨U,x,p⟩;have p':Bh X.K CL Fz B W (O.of U (noX (evA Z U as)) λxs=>O.of U (Z.xn c xs) λx=>.exn x U) D:=p
      cases e1:evA Z U as with
      |bad=>rw[e1]at p';exact p'.elim
      |exn y=>rw[e1]at p';exact p'.elim
      |ok ds=>
        rw[e1]at p';have p2:Bh X.K CL Fz B W (O.of U (Z.xn c ds) λx=>.exn x U) D:=p'
        rw[hb ds]at p2;exact p2.elim
    |true=>
      rw[hc,Bool.not_true,Bool.false_or]at h;replace h:=X4 h;obtain⟨ea,eb,pos,rfl,h⟩:=h;replace h:=Bg h;obtain⟨h0,h⟩:=h;obtain rfl:=Db.mp h0;cases ea with
      |none=>exact noF h
      |some e0=>
        replace h:=IX h;obtain⟨g,np,x,xs,cpos,rfl,h⟩:=h;simp only[Al,AM]at h;obtain⟨⟨⟨⟨h1,h2⟩,h3⟩,h4⟩,h5⟩:=h;obtain⟨C,m1,m2⟩:=v.xt.rz _ (Ix h1);obtain⟨n2,_,_⟩:=Fk h3;obtain⟨s0,e,es',rfl,m,rfl,s1⟩:=HF h5;have q:=E.es W T X _ _ v h5;exact WI v.calm hf.ex v.room v.rz (by unfold glB at h2;show X.env.scope.names.lookup g=_;rw[v.sc];exact eq_of_beq h2) m2 n2 m1 q.1 (λds=>v.xt.made c C ds m1) (Cw s0) (Ii m xs es' s1) (λU ds z=>by rw[Hb Z U _ _ z,<-q.2.2.1,A9];omega)
  |app i e=>
    replace h:=X5 h;obtain⟨x,px,m,ap,l,cp,pos,rfl,h2,h⟩:=h;replace h:=Ec h;obtain⟨v0,rfl,h⟩:=h;simp only[Al,AI]at h;obtain⟨⟨⟨rfl,h1⟩,h3⟩,h4⟩:=h;exact aP (J8 v h1) (E.e W T X _ e v h4).se rfl (by rw[Cw h3];rfl) (by rw[h2];exact D1 _) (Cw h3) rfl
  |ext i e=>exact absurd (show Ad=Ab from h) Av
  |rev i=>exact absurd (show Ad=Ab from h) Av
  |clr i=>exact absurd (show Ad=Ab from h) Av
  |put i k e=>exact absurd (show Ad=Ab from h) Av
  |tryx body c x hd=>
    cases body with
    |nil=>exact noF h
    |cons b bs=>
      cases bs with
      |cons=>exact noF h
      |nil=>
        unfold Kt at h;dsimp only at h;cases q:N9 st with
        |none=>rw[q]at h;cases h
        |some t=>
          obtain⟨bt,hl,es⟩:=t;rw[q]at h;obtain⟨pos,rfl⟩:=YU q;cases hl with
          |nil=>exact noF h
          |cons h1 hl=>
            cases hl with
            |cons=>exact noF h
            |nil=>
              cases es with
              |cons=>exact noF h
              |nil=>
                dsimp only at h;cases q1:xHd h1 with
                |none=>rw[q1]at h;cases h
                |some t1=>
                  obtain⟨g,m,h0,hs⟩:=t1;obtain⟨p1,hp,rfl⟩:=bJ q1;rw[q1]at h;simp only[Al,AI]at h;obtain⟨⟨⟨⟨i1,i4⟩,i5⟩,i6⟩,i7⟩:=h;obtain⟨t1,t2⟩:=fZ E v hf 6 i6;refine SS.ref (aN (up:=Z.up) (c:=c) (i:=x) hf.ex hf.st hf.fm (by rw[v.N];exact v.nd) (by rw[v.N];exact i4) (by rw[v.sc];exact i5) (fB v i1) t1 t2 (λe=>jY v hf e x n _ _ i7)) λU=>.inr ?_
                  rw[Xf];unfold SU;cases evSs Z U (.cons b .nil)<;>rfl
  |try2 body c x hd c' hd' els=>exact absurd (show Ad=Ab from h) Av
  |swp i k l=>exact absurd (show Ad=Ab from h) Av
  |apop j i e=>exact absurd (show Ad=Ab from h) Av
  |ins i k e=>exact absurd (show Ad=Ab from h) Av
  |dput=>exact noF h
  |dsd=>exact noF h
  |rel=>exact noF h
theorem Ye{c:Ss}(h:LN c=Ab)(U:Rho):evSs Z U c=.bad:=by
 cases c with
 |nil=>cases h
 |cons s ss=>
  cases s with
  |expr e=>
   cases e with
   |bi b as=>
    cases as with
    |nil=>
     cases b with
     |len=>rfl
     |_=>exact noF h
    |cons=>cases b<;>exact noF h
   |_=>exact noF h
  |_=>exact noF h
theorem bX(Z_:SndS Z CL k n)(W:XW)(T:Tc)(X:Cx)(xs:Ac AC)(c:Ss)(v:VX Z CL k W T X)(hf:DefX X)(h:chkSs (n+1) T xs c=Ab):SSs X CL W xs (λU=>evSs Z U c):=by
 by_cases hb:LN c=Ab
 .exact λFz B pI s Y H D I ⟨U,x,p⟩=>by
   dsimp only at p;rw[Ye hb]at p;exact p.elim
 have hb:LN c=Ad:=by simpa using hb
 cases c with
 |nil=>
  simp only[chkSs,hb,Dz,List.isEmpty_iff]at h;subst h;exact Qz
 |cons s ss=>
  by_cases hr:∃ i,s=.rel i
  .obtain⟨i,rfl⟩:=hr;simp only[chkSs,hb,Dz]at h;exact Yy i (Z_.ss W T X xs ss v hf h)
  .cases xs with
   |nil=>cases s<;>first|(simp[chkSs,hb]at h;done)|exact absurd ⟨_,rfl⟩ hr
   |cons st r=>
    have h':Kt n T st s=Ab/\chkSs n T r ss=Ab:=by
     cases s<;>first|(simp only[chkSs,hb,Dz,Al]at h;exact h)|exact absurd ⟨_,rfl⟩ hr
    exact Mu (Z_.s W T X st s v hf h'.1) (Z_.ss W T X r ss v hf h'.2)
theorem Od:∀ n,SndS Z CL k n
 |0=>⟨λ_ _ _ _ _ _ _ h=>noF h,λ_ _ _ _ _ _ _ h=>noF h⟩
 |n+1=>⟨gM (Od n),bX (Od n)⟩
end
theorem IQ{n:Af}{ds:Ac D}{i:Af}{o:Ai}(h:(B5 n ds)[i]?=Aa (Aa (d,o))):o=Ad/\ds[i]?=Aa d:=by
 unfold B5 at h;by_cases hi:i<ds.length
 .rw[Eh (by simpa using hi),CJ]at h
  cases e:ds[i]? with
  |none=>rw[e]at h;cases h
  |some x=>rw[e]at h;cases h;exact⟨rfl,rfl⟩
 .rw[TW (by simpa using Nat.le_of_not_lt hi),TX]at h
  split at h<;>cases h
theorem WH{N:Ac Ag}{vs:Ac V}{i:Af}{v:V}(h:vs[i]?=Aa v):(L2.start N vs)[i]?=Aa (Aa v):=by
 unfold L2.start;have hi:=(AW.mp h).1;rw[Eh (by simpa using hi),CJ,h]
 rfl
theorem WP{N:Ac Ag}{n:Af}{vs:Ac V}{ds:Ac D}(hn:N.length=n)(hA:AOk H A)(r:Reps K CL H A vs ds):Sx K CL ⟨λb o=>H b=Aa o,λ_ _ _=>AV⟩ A (B5 n ds) (L2.start N vs) H:=by
 have own:∀ a,Ba A (B5 n ds) (L2.start N vs) a->A a:=λa h=>by
  rcases h with h|⟨j,d,h,_⟩
  .exact h
  .exact absurd (IQ h).1 (by decide)
 have hlen:(B5 n ds).length=(L2.start N vs).length:=by
  unfold B5 L2.start;simp only[BN,BO,T4,r.length,hn]
 refine⟨⟨λi d h=>?_,λi d h _=>absurd (IQ h).1 (by decide),hlen⟩,λa h=>hA a (own a h),λj d a h _=>absurd (IQ h).1 (by decide),λi j d e a h _ _ _=>absurd (IQ h).1 (by decide),λb o h=>h,hlen,λj h=>absurd (IQ h).1 (by decide)⟩
 obtain⟨v,h1,h2⟩:=r.get (IQ h).2;exact⟨v,WH h1,Rep.sub own _ h2⟩
structure FunX (K:Fg) (x qual:Ag) (st:AC) (f:Ak) (fd:Bp):Prop where
 ex:∃(oc:Aj)(od:An Ak)(dV kV doc pm:Aj)(an:An Ak)(cdv ct:Aj)(osl:A3 (An Aj)),
  fd=BP x qual (FC st) (DS st) (Bt st) dV kV doc pm an cdv ct/\K.lookup f=Aa ⟨oc,od,.func fd,osl⟩/\Dm K cdv qual=Ab
 kp:A7 K (.ref f)=Ab
theorem Lj{st:AC}{f:Ak}(F:Fun K x qual st f fd):FunX K x qual st f fd:=by
 obtain⟨oc,od,kV,doc,pm,an,cdv,ct,osl,e,lk,hcd⟩:=F.ex;exact⟨⟨oc,od,.none,kV,doc,pm,an,cdv,ct,osl,e,lk,hcd⟩,F.kp⟩
def Ju(K:Fg)(mg:Ag->An Aj)(fns:Ac (Ag×Af×Af))(bl:Ac Ag)(rzs exs gls:Ac (Ag×Af))(Pg:Prg)(fuel:Af)(p:Ag×Af×Af):Prop:=∃ f fd ps qual st N,GN K mg p.1=Aa (.ref f)/\(∃ x,FunX K x qual st f fd)/\Ed K fd ps []/\ps.length=p.2.2%1000/\Fp fuel (Co 1000 p.2.2) fns bl rzs exs gls ps N st (Pg.defs p.2.1)=Ab
noncomputable def NE:AC->An (Am×Am×Az)
  | .Assign ts v p=>(match ts with
    |[t]=>Aa (t,v,p)
    | _=>Ae)
  |_=>Ae
theorem PH{e:AC}{t:Am×Am×Az}(h:NE e=Aa t):e=.Assign [t.1] t.2.1 t.2.2:=by
 cases e with
 |Assign ts v p=>
  cases ts with
  |nil=>exact nomatch (show Ae=Aa t from h)
  |cons a ts=>
   cases ts with
   |nil=>cases h;rfl
   |cons=>exact nomatch (show Ae=Aa t from h)
 |_=>exact nomatch (show Ae=Aa t from h)
noncomputable def ND:Am->An (Am×Ag×Az)
 |.Attribute e x p=>Aa (e,x,p)
 |_=>Ae
theorem PF{e:Am}{t:Am×Ag×Az}(h:ND e=Aa t):e=.Attribute t.1 t.2.1 t.2.2:=by
 cases e with
 |Attribute e x p=>cases h;rfl
 |_=>exact nomatch (show Ae=Aa t from h)
noncomputable def Tr(n:Af)(T:Tc)(b:Ac AC):An DQ:=(Kk b).bind λs=>(NE s.1).bind λt1=>(ND t1.1).bind λa1=>(F1 a1.1).bind λs1=>(F1 t1.2.1).bind λq1=>(NE s.2).bind λt2=>(ND t2.1).bind λa2=>(F1 a2.1).bind λs2=>
 if (s1.1==("self" : Ag)&&(a1.2.1==("p" : Ag)&&(q1.1==("p" : Ag)&&(s2.1==("self" : Ag)&&(a2.2.1==("triple" : Ag)&&(Hd t2.2.1&&A1 n T t2.2.1 (.call 17 (.cons (.var 1) (.cons (.var 2) .nil)))))))))=Ab then Aa () else Ae
theorem Zi{n:Af}{T:Tc}{b:Ac AC}(h:Tr n T b=Aa u):∃ p0 p1 p2 p3 p4 p5 p6 ev,b=[.Assign [.Attribute (.Name "self" p0) "p" p1] (.Name "p" p2) p6,.Assign [.Attribute (.Name "self" p3) "triple" p4] ev p5]/\Hd ev=Ab/\A1 n T ev (.call 17 (.cons (.var 1) (.cons (.var 2) .nil)))=Ab:=by
 obtain⟨s,e1,h⟩:=As.mp h;obtain⟨t1,e2,h⟩:=As.mp h;obtain⟨a1,e3,h⟩:=As.mp h;obtain⟨s1,e4,h⟩:=As.mp h;obtain⟨q1,e5,h⟩:=As.mp h;obtain⟨t2,e6,h⟩:=As.mp h;obtain⟨a2,e7,h⟩:=As.mp h;obtain⟨s2,e8,h⟩:=As.mp h;split at h
 .rename_i hc;simp only[Al,AI]at hc;obtain⟨c1,c2,c3,c4,c5,c6,c7⟩:=hc;rw[K0 e1,PH e2,PF e3,GF e4,GF e5,PH e6,PF e7,GF e8,c1,c2,c3,c4,c5];exact⟨_,_,_,_,_,_,_,_,rfl,c6,c7⟩
 .cases h
noncomputable def Ko(fuel:Af)(fns:Ac (Ag×Af×Af))(bl:Ac Ag)(rzs exs gls:Ac (Ag×Af))(st:AC):Ai:=
 (Bt st).kind==.function&&((Bt st).isCoroutine==Ad&&((Bt st).isGenerator==Ad&&((Bt st).names.lookup ("self" : Ag)==Aa .local&&((Bt st).names.lookup ("p" : Ag)==Aa .local&&((Bt st).names.lookup ("numbers" : Ag)==Aa .local&&(((Bt st).names.all λy=>y.2 != .free) &&
  (Tr fuel ⟨Bt st,["self", "p", "numbers"],fns,bl,rzs,exs,gls,Ab⟩ (DS st)).isSome))))))
noncomputable def HS(s:AC)(j:Af):AC:=match s with
  |.ClassDef _ _ _ b _ _ _ _ _ _ _=>b.getD j s
  |s=>s
def InR(K:Fg)(fns:Ac (Ag×Af×Af))(bl:Ac Ag)(rzs exs gls:Ac (Ag×Af))(Pg:Prg)(fuel:Af):Prop:=(∀ c,c<3->Pg.defs (900+c)=mkC c)/\Pg.defs 910=inC/\∃ f fd x qual st,FunX K x qual st f fd/\Ed K fd ["self", "p", "numbers"] []/\Ko fuel fns bl rzs exs gls st=Ab/\∀ c,c<3->∃ C,OC K c=Aa C/\Mk K C f
structure Tab (K:Fg) (mg:Ag->An Aj) (CL:ClA) (fns:Ac (Ag×Af×Af)) (bl:Ac Ag) (rzs exs gls:Ac (Ag×Af)) (Pg:Prg) (fuel:Af):Prop where
 os:OS K mg
 ini:InR K fns bl rzs exs gls Pg fuel
 xt:XT Pg.up Pg.xn CL rzs exs K mg
 bln:∀ x,x∈bl->mg x=Ae
 gl:∀ p∈gls,LS K mg CL p.1 (Pg.G p.2)
 fn:∀ p∈fns,Ju K mg fns bl rzs exs gls Pg fuel p
theorem fD(Pg:Prg)(n i:Af):(gam Pg n).fr i=(Pg.defs i).fr:=by cases n<;>rfl
theorem Ry(Pg:Prg)(n:Af):(gam Pg n).up=Pg.up:=by cases n<;>rfl
theorem Sq(Pg:Prg)(n:Af):(gam Pg n).G=Pg.G:=by cases n<;>rfl
theorem Rx(Pg:Prg)(n:Af):(gam Pg n).xn=Pg.xn:=by cases n<;>rfl
section
variable{P:AF}{w:AS}{K:Fg}{mg:Ag->An Aj}{base:AA}{CL:ClA}{fns:Ac (Ag×Af×Af)}{bl:Ac Ag}{rzs exs gls:Ac (Ag×Af)}{Pg:Prg}{fuel:Af}
def Lvl(P:AF)(w:AS)(K:Fg)(mg:Ag->An Aj)(base:AA)(CL:ClA)(Pg:Prg)(n:Af)(p:Ag×Af×Af):Prop:=∃ f fd ps,GN K mg p.1=Aa (.ref f)/\A7 K (.ref f)=Ab/\Ed K fd ps []/\ps.length=p.2.2%1000/\(p.2.2<1000->FnOk P w K mg base (CXR P w) n f fd ps (spD K CL (p.2.2%1000) ((gam Pg n).fr p.2.1) ((gam Pg n).F p.2.1)))/\(1000<=p.2.2->HotOk P w K mg base n f fd ps (spH K CL (p.2.2%1000) ((gam Pg n).fr p.2.1) ((gam Pg n).F p.2.1)))
theorem Q5(t:Tab K mg CL fns bl rzs exs gls Pg fuel){n:Af}(hlv:∀ q∈fns,Lvl P w K mg base CL Pg n q)(hmk:∀ c,c<3->MkR P w K mg base CL (gam Pg n).F n c){st:AC}{f:Ak}{ps N:Ac Ag}{m id:Af}(h2:FunX K x qual st f fd)(h4:ps.length=m)(h5:Fp fuel Ad fns bl rzs exs gls ps N st (Pg.defs id)=Ab):FnOk P w K mg base (CXR P w) (n+1) f fd ps (spD K CL m ((gam Pg (n+1)).fr id) ((gam Pg (n+1)).F id)):=by
  unfold Fp at h5;simp only[Al,AI,Bi,Bz,BK,F7,JE]at h5;obtain⟨⟨⟨⟨⟨⟨⟨⟨c1,c2⟩,c3⟩,c4⟩,c5⟩,c6⟩,c7⟩,c8⟩,c9⟩:=h5;obtain⟨oc,od,dV,kV,doc,pm,an,cdv,ct,osl,rfl,lk,hcd⟩:=h2.ex;refine N5 (N:=N) lk hcd ⟨c1,c2,c3,JN c4,c5,c6,c7⟩ (λvs H Q E ⟨ds,A,z,_⟩=>z.trans h4.symm) λA outer s H vs Q E hr ⟨ds,B,hl,hA,hreps,hpost⟩=>?_
  have xt:XT (gam Pg n).up (gam Pg n).xn CL rzs exs K mg:=by rw[Ry,Rx];exact t.xt
  have gl:∀ p∈gls,LS K mg CL p.1 ((gam Pg n).G p.2):=by rw[Sq];exact t.gl
  have key:∀ W:XW,(∀ x cls dx H',W x H'->ET K CL H' cls dx x->E cls dx H')->Bh K CL ⟨λb o=>H b=Aa o,λ_ _ _=>AV⟩ B W (evSs (gam Pg n) (B5 (Pg.defs id).n ds) (Pg.defs id).body) {nx:=λ_ H'=>Q .non H',rt:=Q} ->
      ∃ t,PSs (EA (CXR P w) P w K mg base N qual (Bt st) f cdv A outer s H E) (DS st) t/\t {nx:=λ_ H'=>Q .non H',rt:=Q} (start N vs) H:=λW hW hp=>by
    have v:VX (gam Pg n) CL n W ⟨Bt st,N,fns,bl,rzs,exs,gls,Ab⟩ (EA (CXR P w) P w K mg base N qual (Bt st) f cdv A outer s H E):=⟨rfl,c1,rfl,JN c4,rfl,hr,t.bln,t.os,hmk,hlv,ownR,Si hW,rzR hW,xt,gl,λ_=>rfl⟩
    exact⟨_,(Od fuel).ss W _ _ _ (Pg.defs id).body v ⟨λ_=>rfl,rfl,rfl,rfl⟩ c9 ⟨λb o=>H b=Aa o,λ_ _ _=>AV⟩ B,_,WP c8 hA hreps,hp⟩
  have no:∀ x cls dx H',W0 x H'->ET K CL H' cls dx x->E cls dx H':=λ_ _ _ _ z=>z.elim
  have e:(gam Pg (n+1)).F id ds=Ee Pg.xs ((evSs (gam Pg n) (B5 (Pg.defs id).n ds) (Pg.defs id).body).ans (Pg.defs id).fr):=rfl;rw[e,fD]at hpost;have cutO:∀ r:R D,(∀ x,r≠.exn x)->Ee Pg.xs r=r:=λr hr=>by
    cases Pg.xs<;>cases r<;>first|rfl|exact absurd rfl (hr _)
  cases eo:evSs (gam Pg n) (B5 (Pg.defs id).n ds) (Pg.defs id).body with
  |next U'=>
    refine key W0 no ?_;rw[eo]at hpost ⊢;cases ef:(Pg.defs id).fr with
    |true=>rw[ef]at hpost;rw[cutO _ (by intro x z;cases z)]at hpost;exact hpost.elim
    |false=>
      rw[ef]at hpost;rw[cutO _ (by intro x z;cases z)]at hpost
      exact λY' H' x'=>hpost .non H' (λb o z=>x'.same b o z) ⟨rfl,λz=>nomatch z⟩
  |ret d b=>
    refine key W0 no ?_;rw[eo]at hpost ⊢;intro v H' sm rp fr;have hp2:(match Ee Pg.xs (if ((Pg.defs id).fr&&(!b&&isL d))=Ab then R.bad else R.ok d) with
      |.ok d=>∀ v H',Aw H H'->C9 K CL (Pg.defs id).fr H B H' v d->Q v H'
      |.exn x=>∀ cls dx H',Aw H H'->ET K CL H' cls dx x->E cls dx H'
      | .bad=>AV):=hpost
    cases ec:((Pg.defs id).fr&&(!b&&isL d)) with
    |true=>rw[ec,AE rfl,cutO _ (by intro x z;cases z)]at hp2;exact hp2.elim
    |false=>
      rw[ec,AO (by decide),cutO _ (by intro x z;cases z)]at hp2
      refine hp2 v H' sm ⟨rp,λefr es hd=>?_⟩
      subst hd;have eb:b=Ab:=by
        cases b with
        |true=>rfl
        |false=>rw[efr]at ec;cases ec
      obtain⟨a,xs,h1,h2,h3,h4⟩:=fr eb es rfl;refine⟨a,xs,h1,?_,h3,h4⟩;cases ha:H a with
      |none=>rfl
      |some o=>exact absurd ha (h2 o)
  |brk U'=>rw[eo]at hpost;have hp2:(match Ee Pg.xs (R.bad:R D) with | .ok _=>_ | .exn _=>_ | .bad=>AV):=hpost;rw[cutO _ (by intro x z;cases z)]at hp2;exact hp2.elim
  |cont U'=>rw[eo]at hpost;have hp2:(match Ee Pg.xs (R.bad:R D) with | .ok _=>_ | .exn _=>_ | .bad=>AV):=hpost;rw[cutO _ (by intro x z;cases z)]at hp2;exact hp2.elim
  |bad=>rw[eo]at hpost;have hp2:(match Ee Pg.xs (R.bad:R D) with | .ok _=>_ | .exn _=>_ | .bad=>AV):=hpost;rw[cutO _ (by intro x z;cases z)]at hp2;exact hp2.elim
  |exn x U'=>
    rw[eo]at hpost;have hp2:(match Ee Pg.xs (R.exn x:R D) with
      |.ok d=>∀ v H',Aw H H'->C9 K CL (Pg.defs id).fr H B H' v d->Q v H'
      |.exn x=>∀ cls dx H',Aw H H'->ET K CL H' cls dx x->E cls dx H'
      | .bad=>AV):=hpost
    cases ex:Pg.xs with
    |false=>rw[ex]at hp2;exact hp2.elim
    |true=>
      rw[ex]at hp2;have hp3:∀ cls dx H',Aw H H'->ET K CL H' cls dx x->E cls dx H':=hp2;refine key (λy H'=>y=x/\Aw H H') (λy cls dx H' ⟨e1,sm⟩ xr=>?_) ?_
      · subst e1;exact hp3 cls dx H' sm xr
      · rw[eo];exact λH' sm=>⟨rfl,sm⟩
theorem eZ(t:Tab K mg CL fns bl rzs exs gls Pg fuel){n:Af}(hlv:∀ q∈fns,Lvl P w K mg base CL Pg n q)(hmk:∀ c,c<3->MkR P w K mg base CL (gam Pg n).F n c){st:AC}{f:Ak}{ps N:Ac Ag}{m id:Af}(h2:FunX K x qual st f fd)(h4:ps.length=m)(h5:Fp fuel Ab fns bl rzs exs gls ps N st (Pg.defs id)=Ab):HotOk P w K mg base (n+1) f fd ps (spH K CL m ((gam Pg (n+1)).fr id) ((gam Pg (n+1)).F id)):=by
 exfalso
 unfold Fp at h5;simp at h5
noncomputable def Gn(Pg:Prg)(n:Af):Ac D->R D
  | [d1,d2]=>(match (gam Pg n).F 17 [d1,d2] with
    |.ok t=>if nlD 5 t=Ab then .ok (.tup [d1,t]) else .bad
    | _=>.bad)
  |_=>.bad
theorem fP(Pg:Prg)(n:Af)(ds:Ac D)(y:Ex):Gn Pg n ds≠.exn y:=by
  match ds with
  |[]=>exact λz=>nomatch z
  |[_]=>exact λz=>nomatch z
  |_::_::_::_=>exact λz=>nomatch z
  |[d1,d2]=>
    show (match (gam Pg n).F 17 [d1,d2] with
      |.ok t=>if nlD 5 t=Ab then .ok (.tup [d1,t]) else .bad
      | _=>.bad:R D)≠.exn y
    split
    · split<;>exact λz=>nomatch z
    · exact λz=>nomatch z
theorem Y_9(t:Tab K mg CL fns bl rzs exs gls Pg fuel){n:Af}(hlv:∀ q∈fns,Lvl P w K mg base CL Pg n q)(hmk:∀ c,c<3->MkR P w K mg base CL (gam Pg n).F n c){st:AC}{f:Ak}(h2:FunX K x qual st f fd)(h5:Ko fuel fns bl rzs exs gls st=Ab):
    FnOk P w K mg base (CXR P w) (n+1) f fd ["self", "p", "numbers"] (spI K CL (Gn Pg n)):=by
  unfold Ko at h5;simp only[Al,AI,Bz,F7,JE]at h5;obtain⟨c1,c2,c3,c4,c5,c6,c7,c8⟩:=h5;obtain⟨u,c8⟩:=BU.mp c8;obtain⟨p0,p1,p2,p3,p4,p5,p6,ev,eb,hnc,hck⟩:=Zi c8;obtain⟨oc,od,dV,kV,doc,pm,an,cdv,ct,osl,rfl,lk,hcd⟩:=h2.ex;refine N5 (N:=["self", "p", "numbers"]) lk hcd ⟨c1,c2,c3,by decide,rfl,λy hy=>?_,c7⟩ (λvs H Q E ⟨x,C,dx,us,ds,A,H0,e,z,_⟩=>by rw[e,A9,z];rfl) λA outer s H vs Q E hr ⟨x,C,dx,us,ds,B,H0,e,hl,cl,np,nt,hx,h0,sm,hA,hreps,hpost⟩=>?_
  · rcases AG.mp hy with rfl|hy
    · exact .inl c4
    · rcases AG.mp hy with rfl|hy
      · exact .inl c5
      · rw[Bk.mp hy];exact .inl c6
  subst e;have xt:XT (gam Pg n).up (gam Pg n).xn CL rzs exs K mg:=by rw[Ry,Rx];exact t.xt
  have gl:∀ p∈gls,LS K mg CL p.1 ((gam Pg n).G p.2):=by rw[Sq];exact t.gl
  have no:∀ x cls dx H',W0 x H'->ET K CL H' cls dx x->E cls dx H':=λ_ _ _ _ z=>z.elim
  have v:VX (gam Pg n) CL n W0 ⟨Bt st,["self", "p", "numbers"],fns,bl,rzs,exs,gls,Ab⟩ (EA (CXR P w) P w K mg base ["self", "p", "numbers"] qual (Bt st) f cdv A outer s H E):=⟨rfl,c1,rfl,(show (["self", "p", "numbers"]:Ac Ag).Nodup by decide),rfl,hr,t.bln,t.os,hmk,hlv,ownR,Si no,rzR no,xt,gl,λ_=>rfl⟩
  match us,hl with
  |[v1,v2],_=>
    match ds,hreps with
    |[],r=>exact r.elim
    |[_],r=>exact r.2.elim
    |_::_::_::_,r=>exact r.2.2.elim
    |[d1,d2],r=>
      have sv:=((snd fuel).e W0 _ _ ev _ v hck).se;obtain⟨tt,pss,rd⟩:=W2 (H:=H) (H0:=H0) (x:=x) (C:=C) (dx:=dx) (v1:=v1) (v2:=v2) (d1:=d1) (d2:=d2) (A:=B) (Q:=Q) (Y:=L2.start ["self", "p", "numbers"] [.ref x,v1,v2]) (p0:=p0) (p1:=p1) (p2:=p2) (p3:=p3) (p4:=p4) (p5:=p5) (p6:=p6) (t0:=EA (CXR P w) P w K mg base ["self", "p", "numbers"] qual (Bt st) f cdv A outer s H E)
        (λp=>Je rfl (.inl c4)) (λp=>Je rfl (.inl c5)) sv (Ik hnc)
      refine⟨tt,by rw[eb];exact pss,rd rfl cl np nt hx h0 sm hA r.1 r.2.1 ?_⟩
      have hp2:(match (match (gam Pg n).F 17 [d1,d2] with
          |.ok t=>if nlD 5 t=Ab then R.ok (D.tup [d1,t]) else .bad
          | _=>.bad) with
        |.ok d=>∀ e1 e2,d=.tup [e1,e2]->∀ v1 v2 H',Aw H0 H'->H' x=Aa (.ins C dx [("p",v1),("triple",v2)])->Rep K CL H' B v1 e1->Rep K CL H' B v2 e2->Q .non H'
        | _=>AV):=hpost
      cases e17:(gam Pg n).F 17 [d1,d2] with
      |bad=>rw[e17]at hp2;exact hp2.elim
      |exn y=>rw[e17]at hp2;exact hp2.elim
      |ok t0=>
        rw[e17]at hp2;dsimp only at hp2;by_cases hn:nlD 5 t0=Ab
        · rw[AE hn]at hp2;exact⟨t0,rfl,hn,λw1 w2 H' a b c d=>hp2 _ _ rfl w1 w2 H' a b c d⟩
        · rw[AO hn]at hp2;exact hp2.elim
theorem mkF:(mkC c).run Z [d1,d2]=(noX (Z.F 910 [d1,d2])).bind (DT c):=by
 simp only[Df.run,mkC,B5,W7,QX];show (O.seq (O.of _ ((noX ((Z.F 910 [d1,d2]).bind λd=>.ok d)).bind λx=>DT c x) λd=>O.ret d _) _).ans Ad=_
 have nx:∀ d y,DT c d≠.exn y:=λd y z=>by
  unfold DT at z;split at z
  .split at z<;>cases z
  .cases z
 cases Z.F 910 [d1,d2] with
 |bad=>rfl
 |exn y=>rfl
 |ok d=>
  show (O.seq (O.of _ (DT c d) λd=>O.ret d _) _).ans Ad=DT c d
  cases e:DT c d with
  |ok _=>rfl
  |bad=>rfl
  |exn y=>exact absurd e (nx d y)
theorem inF:noX (inC.run Z [d1,d2])=noX ((Z.F 17 [d1,d2]).bind λt=>.ok (.tup [d1,t])):=by
 simp[Df.run,inC,B5];cases Z.F 17 [d1,d2]<;>rfl
theorem Sd(t:Tab K mg CL fns bl rzs exs gls Pg fuel):∀ n,(∀ m,m<=n->∀ q∈fns,Lvl P w K mg base CL Pg m q)->∀ c,c<3->MkR P w K mg base CL (gam Pg n).F n c:=by
  intro n
  induction n using Nat.strongRecOn with
  |ind n ih=>
    intro hl c hc;obtain⟨i1,i2,f,fd,x,qual,st,h2,h3,h5,h6⟩:=t.ini
    match n,ih,hl with
    |0,_,_=>exact .inl λds=>rfl
    |1,_,_=>
      refine .inl λds=>?_
      have e:(gam Pg 1).F (900+c) ds=Ee Pg.xs ((Pg.defs (900+c)).run (gam Pg 0) ds):=rfl;rw[e,i1 c hc];have e2:(mkC c).run (gam Pg 0) ds=.bad:=by
        match ds with
        |[]=>rfl
        |[_]=>rfl
        |_::_::_=>rfl
      rw[e2];cases Pg.xs<;>rfl
    |m+2,ih,hl=>
      obtain⟨C,o1,M⟩:=h6 c hc;refine .inr ⟨C,f,fd,Gn Pg m,m+1,o1,M,h3,rfl,Y_9 t (λq hq=>hl m (by omega) q hq) (ih m (by omega) λk hk=>hl k (by omega)) h2 h5,λds hd=>?_,fP Pg m⟩
      match ds,hd with
      |[d1,d2],_=>
        have cutN:∀ r:R D,noX (Ee Pg.xs r)=noX r:=λr=>by cases Pg.xs<;>cases r<;>rfl
        have e:(gam Pg (m+2)).F (900+c) [d1,d2]=Ee Pg.xs ((Pg.defs (900+c)).run (gam Pg (m+1)) [d1,d2]):=rfl;have e0:(gam Pg (m+1)).F 910 [d1,d2]=Ee Pg.xs ((Pg.defs 910).run (gam Pg m) [d1,d2]):=rfl;rw[e,i1 c hc,mkF,e0,i2,cutN,inF];cases e17:(gam Pg m).F 17 [d1,d2] with
        |bad=>refine .inl ?_;cases Pg.xs<;>rfl
        |exn y=>refine .inl ?_;cases Pg.xs<;>rfl
        |ok t0=>
          by_cases hn:nlD 5 t0=Ab
          · refine .inr ?_;have g:Gn Pg m [d1,d2]=.ok (.tup [d1,t0]):=by
              show (match (gam Pg m).F 17 [d1,d2] with
                |.ok t=>if nlD 5 t=Ab then .ok (.tup [d1,t]) else .bad
                | _=>.bad:R D)=_
              rw[e17];exact AE hn
            rw[g];show Ee Pg.xs (DT c (.tup [d1,t0]))=DT c (.tup [d1,t0]);have:DT c (.tup [d1,t0])=.ok (.obj c [("p",d1),("triple",t0)]):=AE hn;rw[this];cases Pg.xs<;>rfl
          · refine .inl ?_;have:DT c (.tup [d1,t0])=.bad:=AO hn;show Ee Pg.xs (DT c (.tup [d1,t0]))=.bad;rw[this];cases Pg.xs<;>rfl
theorem Qy(t:Tab K mg CL fns bl rzs exs gls Pg fuel):∀ n m,m<=n->∀ p∈fns,Lvl P w K mg base CL Pg m p:=by
 have zero:∀ p∈fns,Lvl P w K mg base CL Pg 0 p:=λp hp=>by
  obtain⟨f,fd,ps,qual,st,N,h1,⟨x0,h2⟩,h3,h4,h5⟩:=t.fn p hp;exact⟨f,fd,ps,h1,h2.kp,h3,h4,λ_=>⟨λvs H Q E ⟨ds,A,_,_,_,z⟩=>z.elim,λA outer s H args us vs Q E _ _ _ _ ⟨ds,A,_,_,_,z⟩=>z.elim⟩,λ_=>⟨λvs H Q E ⟨ds,A,_,_,_,z⟩=>z.elim,λA ev outer s H args us vs Q E _ _ _ _ ⟨ds,A,_,_,_,z⟩=>z.elim⟩⟩
 intro n
 induction n with
 |zero=>intro m hm p hp;obtain rfl:=Nat.le_zero.mp hm;exact zero p hp
 |succ n ih=>
  intro m hm p hp;by_cases hmn:m<=n
  .exact ih m hmn p hp
  .have:m=n+1:=by omega
   subst this;have mk:=Sd (P:=P) (w:=w) (base:=base) t n ih;obtain⟨f,fd,ps,qual,st,N,h1,⟨x0,h2⟩,h3,h4,h5⟩:=t.fn p hp;refine⟨f,fd,ps,h1,h2.kp,h3,h4,λhlt=>?_,λhge=>?_⟩
   .have eb:Co 1000 p.2.2=Ad:=by
     cases e:Co 1000 p.2.2 with
     |false=>rfl
     |true=>exact absurd (BS e) (by omega)
    rw[eb]at h5;exact Q5 t (λq hq=>ih n (AK _) q hq) mk h2 h4 h5
   .rw[Nat.ble_eq_true_of_le hge]at h5;exact eZ t (λq hq=>ih n (AK _) q hq) mk h2 h4 h5
theorem bP(t:Tab K mg CL fns bl rzs exs gls Pg fuel)(n:Af):∀ p∈fns,Lvl P w K mg base CL Pg n p:=Qy t n n (AK _)
theorem bQ(t:Tab K mg CL fns bl rzs exs gls Pg fuel)(n:Af):∀ c,c<3->MkR P w K mg base CL (gam Pg n).F n c:=Sd t n (Qy t n)
theorem fM{s s':Ao}{e:Aj}(h:CXR P w [] H s (λ_ _ _=>AV) e s'):AV:=by
 obtain⟨_,_,_,_,_,_,_,_,_,_,_,_,_,_,_,z⟩:=h;exact z
noncomputable def SM:AC->An (Am×Az)
 |.Expr e p=>Aa (e,p)
 |_=>Ae
theorem YX{e:AC}{t:Am×Az}(h:SM e=Aa t):e=.Expr t.1 t.2:=by
 cases e with
 |Expr x p=>cases h;rfl
 |_=>exact nomatch (show Ae=Aa t from h)
noncomputable def SQ:AC->An (Am×Am×Az)
  | .Assign ts v p=>(match ts with
    |[t]=>Aa (t,v,p)
    | _=>Ae)
  |_=>Ae
theorem YZ{e:AC}{t:Am×Am×Az}(h:SQ e=Aa t):e=.Assign [t.1] t.2.1 t.2.2:=by
 cases e with
 |Assign ts v p=>
  cases ts with
  |nil=>exact nomatch (show Ae=Aa t from h)
  |cons a ts=>
   cases ts with
   |nil=>cases h;rfl
   |cons=>exact nomatch (show Ae=Aa t from h)
 |_=>exact nomatch (show Ae=Aa t from h)
noncomputable def Ob:Am->An (Am×Ag×Az)
 |.Attribute e x p=>Aa (e,x,p)
 |_=>Ae
theorem PZ{e:Am}{t:Am×Ag×Az}(h:Ob e=Aa t):e=.Attribute t.1 t.2.1 t.2.2:=by
 cases e with
 |Attribute e x p=>cases h;rfl
 |_=>exact nomatch (show Ae=Aa t from h)
noncomputable def SL:Am->An (Ac Am×Az)
 |.JoinedStr l p=>Aa (l,p)
 |_=>Ae
theorem YW{e:Am}{t:Ac Am×Az}(h:SL e=Aa t):e=.JoinedStr t.1 t.2:=by
 cases e with
 |JoinedStr l p=>cases h;rfl
 |_=>exact nomatch (show Ae=Aa t from h)
noncomputable def Oa:Am->An (Am×Ah×Az)
  | .FormattedValue e n f p=>(match f with
    |none=>Aa (e,n,p)
    | _=>Ae)
  |_=>Ae
theorem PY{e:Am}{t:Am×Ah×Az}(h:Oa e=Aa t):e=.FormattedValue t.1 t.2.1 Ae t.2.2:=by
 cases e with
 |FormattedValue e n f p=>
  cases f with
  |none=>cases h;rfl
  |some=>exact nomatch (show Ae=Aa t from h)
 |_=>exact nomatch (show Ae=Aa t from h)
noncomputable def LM:Am->An (Ag×Af×Az)
  | .Constant c k p=>(match c with
    |.str z=>Aa (z,k,p)
    | _=>Ae)
  |_=>Ae
theorem M2{e:Am}{t:Ag×Af×Az}(h:LM e=Aa t):e=.Constant (.str t.1) t.2.1 t.2.2:=by
 cases e with
 |Constant c k p=>
  cases c with
  |str z=>cases h;rfl
  |_=>exact nomatch (show Ae=Aa t from h)
 |_=>exact nomatch (show Ae=Aa t from h)
noncomputable def SK{α:Type}:Ac α->An (α×α×α)
 |[a,b,c]=>Aa (a,b,c)
 |_=>Ae
theorem YV{l:Ac α}{t:α×α×α}(h:SK l=Aa t):l=[t.1,t.2.1,t.2.2]:=by
  match l,h with
  |[a,b,c],h=>cases h;rfl
  |[],h=>cases h
  |[_],h=>cases h
  |[_,_],h=>cases h
  |_::_::_::_::_,h=>cases h
noncomputable def lM(par:Ag)(j:Ac Am):An DQ:=(Kk j).bind λfk=>(Oa fk.1).bind λfm=>(F1 fm.1).bind λq1=>(LM fk.2).bind λz=>if (q1.1==par&&(decide (fm.2.1=-1)&&Co z.1.length 1000))=Ab then Aa () else Ae
noncomputable def lL(par:Ag)(j:Ac Am):An DQ:=(SK j).bind λfk=>(LM fk.1).bind λy=>(Oa fk.2.1).bind λfm=>(F1 fm.1).bind λq1=>(LM fk.2.2).bind λz=>if (q1.1==par&&(decide (fm.2.1=-1)&&(Co y.1.length 400&&Co z.1.length 1000)))=Ab then Aa () else Ae
noncomputable def fsX(par:Ag)(e:Am):An DQ:=(SL e).bind λj=>if ((lM par j.1).isSome||(lL par j.1).isSome)=Ab then Aa () else Ae
theorem fF{e:Am}(h:fsX par e=Aa u):FsOk par e:=by
 obtain⟨j,e1,h⟩:=As.mp h;rw[YW e1];split at h
 .rename_i hc;rcases orT hc with hc|hc
  .obtain⟨_,h⟩:=BU.mp hc;obtain⟨fk,e2,h⟩:=As.mp h;obtain⟨fm,e3,h⟩:=As.mp h;obtain⟨q1,e4,h⟩:=As.mp h;obtain⟨z,e5,h⟩:=As.mp h;split at h
   .rename_i hc;simp only[Al,AI,AM]at hc;obtain⟨c1,c2,c3⟩:=hc;rw[K0 e2,PY e3,GF e4,M2 e5,c1,c2];exact fE (BS c3)
   .cases h
  .obtain⟨_,h⟩:=BU.mp hc;obtain⟨fk,e2,h⟩:=As.mp h;obtain⟨y,e6,h⟩:=As.mp h;obtain⟨fm,e3,h⟩:=As.mp h;obtain⟨q1,e4,h⟩:=As.mp h;obtain⟨z,e5,h⟩:=As.mp h;split at h
   .rename_i hc;simp only[Al,AI,AM]at hc;obtain⟨c1,c2,c4,c3⟩:=hc;rw[YV e2,M2 e6,PY e3,GF e4,M2 e5,c1,c2];exact Xd (BS c4) (BS c3)
   .cases h
 .cases h
noncomputable def S8(g par f:Ag)(b:Ac AC):An DQ:=(Kk b).bind λs=>(SM s.1).bind λc=>(SN c.1).bind λcl=>(Ob cl.1).bind λat1=>(F1 at1.1).bind λg1=>(Kk cl.2.1).bind λab=>(F1 ab.1).bind λs1=>(fsX par ab.2).bind λ_=>(SQ s.2).bind λt=>(Ob t.1).bind λat2=>(F1 at2.1).bind λs2=>(F1 t.2.1).bind λq2=>
 if (g1.1==g&&(at1.2.1==("__init__" : Ag)&&(s1.1==("self" : Ag)&&(s2.1==("self" : Ag)&&(at2.2.1==f&&(q2.1==par&&at1.2.2.endLine==cl.2.2.line))))))=Ab then Aa () else Ae
noncomputable def S9(g par f:Ag)(b:Ac AC):Ai:=(S8 g par f b).isSome
theorem Za{g par f:Ag}{b:Ac AC}(h:S9 g par f b=Ab):∃ j np apos p1 cpos p6 p7 p8 p9 p10,b=Op g par f j np apos p1 cpos p6 p7 p8 p9 p10/\(apos.endLine==cpos.line)=Ab/\FsOk par j:=by
 obtain⟨_,h⟩:=BU.mp (show (S8 g par f b).isSome=Ab from h)
 obtain⟨s,e1,h⟩:=As.mp h;obtain⟨c,e2,h⟩:=As.mp h;obtain⟨cl,e3,h⟩:=As.mp h;obtain⟨at1,e4,h⟩:=As.mp h;obtain⟨g1,e5,h⟩:=As.mp h;obtain⟨ab,e6,h⟩:=As.mp h;obtain⟨s1,e7,h⟩:=As.mp h;obtain⟨_,e8,h⟩:=As.mp h;obtain⟨t,f4,h⟩:=As.mp h;obtain⟨at2,f5,h⟩:=As.mp h;obtain⟨s2,f6,h⟩:=As.mp h;obtain⟨q2,f7,h⟩:=As.mp h;split at h
 .rename_i hc;simp only[Al,AI,AM]at hc;obtain⟨c1,c2,c3,c6,c7,c8,h1⟩:=hc;rw[K0 e1,YX e2,YY e3,PZ e4,GF e5,K0 e6,GF e7,YZ f4,PZ f5,GF f6,GF f7,c1,c2,c3,c6,c7,c8];exact⟨_,_,_,_,_,_,_,_,_,_,rfl,by rw[AI];exact h1,fF e8⟩
 .cases h
noncomputable def Oo(g par f:Ag)(st:AC):Ai:=
 (Bt st).kind==.function&&((Bt st).isCoroutine==Ad&&((Bt st).isGenerator==Ad&&(Jf ["self",par]&&((Bt st).names.lookup ("self" : Ag)==Aa .local&&((Bt st).names.lookup par==Aa .local&&(((Bt st).names.all λy=>y.2 != .free) &&
  ((Bt st).names.lookup g==Aa .globalImplicit&&(g != ("__debug__" : Ag)&&(par != ("__debug__" : Ag)&&(par != ("__classdict__" : Ag)&&S9 g par f (DS st)))))))))))
def InI(K:Fg)(f:Ak)(qual:Ag)(st:AC):Prop:=∃ fd,Fun K "__init__" qual st f fd
theorem ini_mk{st:AC}{f:Ak}{oc:Aj}{kV doc pm cdv ct:Aj}(l:K.lookup f=Aa ⟨oc,od,.func (BP "__init__" qual (FC st) (DS st) (Bt st) .none kV doc pm an cdv ct),osl⟩)(c:Dm K cdv qual=Ab)(k:A7 K (.ref f)=Ab):InI K f qual st:=⟨_,NA l c k⟩
theorem ZN{fI:Ak}{g par f qual:Ag}{st:AC}(a:InI K fI qual st)(hk:Oo g par f st=Ab)(hb:∀(u0 u1 kV doc pm:Aj)(an:An Ak)(cdv ct:Aj),FB (BP "__init__" qual (FC st) (DS st) (Bt st) .none kV doc pm an cdv ct) ⟨[u0,u1],[]⟩=pure ((["self",par]:Ac Ag).zip [u0,u1]))(xc:DU K C (Aa (.ref fI))=Ab)(dc:Fo K C=Ab)(ty:FA K (.ref fI)=Aa (.type "function"))(mo:mg g=Aa (.ref OV))(s1:BF K (.ref OV) "__getattribute__" = Aa (Aa (.builtin "type.__getattribute__")))(s2:El K OV (.type "type")=Ab)(s3:Ek K (.ref OV) (.type "type") "__init__" = Aa (.val (.builtin "ValueError.__init__")))(hf:Ar K (.ref C) f=Aa Ae)(hs:Ar K (.ref C) "__setattr__" = Aa (Aa (.builtin "object.__setattr__"))):XIn K mg C f:=by
 obtain⟨fd,fn⟩:=a;unfold Oo at hk;simp only[Al,AI,Bz,F7,JE]at hk;obtain⟨c1,c2,c3,c4,c5,c6,c7,c8,c9,c10,c11,c12⟩:=hk;obtain⟨j,np,apos,p1,cpos,p6,p7,p8,p9,p10,eb,hl,hz⟩:=Za c12;exact .mk xc dc fn ty ⟨c1,c2,c3,JN c4,rfl,λx hx=>by
  rcases AG.mp hx with rfl|hx
  .exact .inl c5
  .rw[Bk.mp hx];exact .inl c6,c7⟩ c5 c6 (fn.binds λkV doc pm an cdv ct us hu=>match us,hu with | [u0,u1],_=>hb u0 u1 kV doc pm an cdv ct) eb c8 mo (by simpa using c9) (by simpa using c10) (by simpa using c11) s1 s2 s3 hl hz hf hs
theorem kE(h:∀ ds,xn c ds=.bad\/xn c ds=.ok ⟨c,[]⟩)(e:DU K C Ae=Ab)(ds:Ac D):xn c ds=.bad\/(xn c ds=.ok ⟨c,[]⟩/\DU K C Ae=Ab)\/∃ f,XIn K mg C f/\Jq xn c f ds:=(h ds).imp id λz=>.inl ⟨z,e⟩
theorem kD{f:Ag}(h:∀ ds,xn c ds=mkX c f ds)(x:XIn K mg C f)(ds:Ac D):xn c ds=.bad\/(xn c ds=.ok ⟨c,[]⟩/\DU K C Ae=Ab)\/∃ f,XIn K mg C f/\Jq xn c f ds:=by
  have e:=h ds
  match ds,e with
  |[],e=>exact .inl e
  |_::_::_,e=>exact .inl e
  |[d],e=>
    have e':xn c [d]=if (xfD 1 d||xfD 2 d)=Ab then .ok ⟨c,[(f,d)]⟩ else .bad:=e
    by_cases z:(xfD 1 d||xfD 2 d)=Ab
    · rw[AE z]at e';refine .inr (.inr ⟨f,x,d,?_⟩);rw[BK]at z;rcases z with z|z
      · exact⟨1,rfl,z,by decide,e'⟩
      · exact⟨2,rfl,z,by decide,e'⟩
    · rw[AO z]at e';exact .inl e'
theorem Sc(dc:Fo K C=Ab)(h1:Ar K (.ref C) "triple" = Aa Ae)(h2:Ar K (.ref C) "points" = Aa Ae)(h3:Ar K (.ref C) "row" = Aa Ae)(f:Ag)(h:(f==("triple" : Ag)||(f==("points" : Ag)||f==("row" : Ag)))=Ab):Fo K C=Ab/\Ar K (.ref C) f=Aa Ae:=by
 rw[BK,BK]at h;rcases h with h|h|h
 .rw[eq_of_beq h];exact⟨dc,h1⟩
 .rw[eq_of_beq h];exact⟨dc,h2⟩
 .rw[eq_of_beq h];exact⟨dc,h3⟩
theorem YO(h:∀ c ds,xn c ds=.bad):XT up xn (λ_=>Ae) [] [] K mg:=⟨λ_ _ z=>(nomatch z),λ_ z=>(nomatch z),λ_ z=>(nomatch z),λc _ ds z=>.inl (h c ds),λ_ _ z=>(nomatch z),λc _ ds=>h c ds⟩
structure XA (K:Fg) (c:Ag) (x:Ak) (i:An Aj):Prop where
 n:A5 K AN c=Aa (Aa (.ref x))
 y:DU K x i=Ab
 dc:Fo K x=Ab
 ft:Ar K (.ref x) "triple" = Aa Ae
 fp:Ar K (.ref x) "points" = Aa Ae
 fr:Ar K (.ref x) "row" = Aa Ae
 ok:XcOk K x
structure XB (K:Fg) (c:Ag) (x i:Ak) (q:Ag) (st:AC):Prop where
 fi:Ar K (.ref x) "__init__" = Aa (Aa (.ref i))
 a:XA K c x (Aa (.ref i))
 ii:InI K i q st
 ti:FA K (.ref i)=Aa (.type "function")
 sn:Ar K (.ref x) "__setattr__" = Aa (Aa (.builtin "object.__setattr__"))
structure XO (K:Fg) (x:Ak):Prop where
 sa:BF K (.ref x) "__getattribute__" = Aa (Aa (.builtin "type.__getattribute__"))
 sb:El K x (.type "type")=Ab
 sc:Ek K (.ref x) (.type "type") "__init__" = Aa (.val (.builtin "ValueError.__init__"))
structure XR (K:Fg) (mg:Ag->An Aj) (xn:Af->Ac D->R Ex) (p:Af×Ak):Prop where
 ok:XcOk K p.2
 nf:∀ f:Ag,(f==("triple" : Ag)||(f==("points" : Ag)||f==("row" : Ag)))=Ab->Fo K p.2=Ab/\Ar K (.ref p.2) f=Aa Ae
 md:∀ ds,xn p.1 ds=.bad\/(xn p.1 ds=.ok ⟨p.1,[]⟩/\DU K p.2 Ae=Ab)\/∃ f,XIn K mg p.2 f/\Jq xn p.1 f ds
theorem XA.row{c:Ag}{x:Ak}(a:XA K c x Ae)(h:∀ ds,xn k ds=.bad\/xn k ds=.ok ⟨k,[]⟩):XR K mg xn (k,x):=⟨a.ok,Sc a.dc a.ft a.fp a.fr,kE h a.y⟩
theorem XB.row{c:Ag}{x i o:Ak}{st:AC}{g par f:Ag}(X:K.In h)(G:h.Ns AN mg)(b:XB K c x i q st)(w:XO K o)(no:A5 K AN g=Aa (Aa (.ref o)))(hf:f = "triple"\/f = "points")(hk:Oo g par f st=Ab)(hb:∀(u0 u1 kV doc pm:Aj)(an:An Ak)(cdv ct:Aj),FB (BP "__init__" q (FC st) (DS st) (Bt st) .none kV doc pm an cdv ct) ⟨[u0,u1],[]⟩=pure ((["self",par]:Ac Ag).zip [u0,u1]))(hx:∀ ds,xn k ds=mkX k f ds):XR K mg xn (k,x):=
 ⟨b.a.ok,Sc b.a.dc b.a.ft b.a.fp b.a.fr,kD hx (ZN b.ii hk hb b.a.y b.a.dc b.ti (DA X G no) w.sa w.sb w.sc (by rcases hf with rfl|rfl;exact b.a.ft;exact b.a.fp) b.sn)⟩
def Ka(K:Fg):Sp:=λvs H Q _=>∃(a:Ak)(ns:Ac Ah),vs=[.ref a]/\ns.length<=63/\SqL K H a (ns.map V.int)/\∀ v H',v=V.bl Ab->Q v H'
theorem law_fn{f:Ak}{F:Ac D->R D}(G:FnOk P w K mg base CX k f fd ps (spD K CL 1 Ad F))(h:∀ ns:Ac Ah,F [.lst (ns.map .int)]=.ok (.bl Ab)):FnOk P w K mg base CX k f fd ps (Ka K):=G.imp λvs H Q E ⟨a,ns,e,hl,hS,q⟩=>by
 subst e;have rs:∀ l:Ac Ah,Reps K CL H A0 (l.map V.int) (l.map D.int):=λl=>by
  induction l with
  |nil=>trivial
  |cons x l ih=>exact⟨rfl,ih⟩
 refine⟨[.lst (ns.map .int)],A0,rfl,λ_ z=>z.elim,⟨⟨a,_,rfl,.inl (λz=>z),hS,rs ns⟩,trivial⟩,?_⟩
 rw[h ns];exact λv H' _ r=>q v H' r.1
theorem Zp{f:Ak}{F:Ac D->R D}(G:FnOk P w K mg base CX k f fd ps (spD K CL 1 Ad F))(h:∀ ns:Ac Ah,ns.length<=63->F [.lst (ns.map .int)]=.ok (.bl Ab)):FnOk P w K mg base CX k f fd ps (Ka K):=G.imp λvs H Q E ⟨a,ns,e,hl,hS,q⟩=>by
 subst e;have rs:∀ l:Ac Ah,Reps K CL H A0 (l.map V.int) (l.map D.int):=λl=>by
  induction l with
  |nil=>trivial
  |cons x l ih=>exact⟨rfl,ih⟩
 refine⟨[.lst (ns.map .int)],A0,rfl,λ_ z=>z.elim,⟨⟨a,_,rfl,.inl (λz=>z),hS,rs ns⟩,trivial⟩,?_⟩
 rw[h ns hl];exact λv H' _ r=>q v H' r.1
theorem all_nil{Q:α->Prop}:∀ x∈([]:Ac α),Q x:=λ_ h=>nomatch h
theorem all_cons{Q:α->Prop}{a:α}{l:Ac α}(h1:Q a)(h2:∀ x∈l,Q x):∀ x∈a::l,Q x:=List.forall_mem_cons.2 ⟨h1,h2⟩
def FnI(K:Fg)(f:Ak)(n:Ag)(st:AC):Prop:=∃ fd,Fun K n n st f fd/\A5 K AN n=Aa (Aa (.ref f))
theorem fni{n:Ag}{st:AC}{f:Ak}{oc:Aj}{kV doc pm cdv ct:Aj}(a:A5 K AN n=Aa (Aa (.ref f)))(l:K.lookup f=Aa ⟨oc,od,.func (BP n n (FC st) (DS st) (Bt st) .none kV doc pm an cdv ct),osl⟩)(c:Dm K cdv n=Ab)(k:A7 K (.ref f)=Ab):FnI K f n st:=⟨_,NA l c k,a⟩
def Bd(n:Ag)(st:AC)(ps:Ac Ag)(us:Ac Aj):Prop:=∀(kV doc pm:Aj)(an:An Ak)(cdv ct:Aj),FB (BP n n (FC st) (DS st) (Bt st) .none kV doc pm an cdv ct) ⟨us,[]⟩=pure (ps.zip us)
theorem Xu(h:mg x=v)(e:FD.lookup x=Ae):GN K mg x=v:=by
 unfold GN;rw[e];exact h
def MeI(K:Fg)(f:Ak)(m q:Ag)(st:AC):Prop:=∃ fd,Fun K m q st f fd
theorem mei{m q:Ag}{st:AC}{f:Ak}{oc:Aj}{kV doc pm cdv ct:Aj}(l:K.lookup f=Aa ⟨oc,od,.func (BP m q (FC st) (DS st) (Bt st) .none kV doc pm an cdv ct),osl⟩)(c:Dm K cdv q=Ab)(k:A7 K (.ref f)=Ab):MeI K f m q st:=⟨_,NA l c k⟩
theorem LC{key m q:Ag}{C f:Ak}{st:AC}{N:Ac Ag}(id:Af)(hk:FD.lookup key=Aa (c,m))(hC:OC K c=Aa C)(hf:Ar K (.ref C) m=Aa (Aa (.ref f)))(A:MeI K f m q st)(hc:Fp fuel Ad fns bl rzs exs gls ["self"] N st (Pg.defs id)=Ab)(hb:∀(u0 kV doc pm:Aj)(an:An Ak)(cdv ct:Aj),FB (BP m q (FC st) (DS st) (Bt st) .none kV doc pm an cdv ct) ⟨[u0],[]⟩=pure ((["self"]:Ac Ag).zip [u0])):Ju K mg fns bl rzs exs gls Pg fuel (key,id,1):=by
 obtain⟨fd,F⟩:=A;refine⟨_,_,["self"],_,_,_,?_,⟨_,Lj F⟩,F.binds λkV doc pm an cdv ct us hu=>match us,hu with | [u0],_=>hb u0 kV doc pm an cdv ct,rfl,hc⟩
 unfold GN;rw[show FD.lookup (key,id,1).1=Aa (c,m) from hk]
 dsimp only;rw[hC];show (Ar K (.ref C) m).join=_;rw[hf];rfl
structure OA (K:Fg) (n:Ag) (C t s f:Ak):Prop where
 n:A5 K AN n=Aa (Aa (.ref C))
 o:OCls K C
 ft:Ar K (.ref C) "told" = Aa (Aa (.ref t))
 fs:Ar K (.ref C) "shown" = Aa (Aa (.ref s))
 nt:Dr K (.ref t)=Ab
 ns:Dr K (.ref s)=Ab
 m:Mk K C f
theorem oa_mk{n:Ag}{C t s f:Ak}(n1:A5 K AN n=Aa (Aa (.ref C)))(i:Ar K (.ref C) "__init__" = Aa (Aa (.ref f)))(ft:Ar K (.ref C) "told" = Aa (Aa (.ref t)))(fs:Ar K (.ref C) "shown" = Aa (Aa (.ref s)))(pg:VJ K C CK=Ab)(hd:VC K C=Ab)(po:VL K C=Ab)(sa:Ar K (.ref C) "__setattr__" = Aa (Aa (.builtin "object.__setattr__")))(np:Ar K (.ref C) "p" = Aa Ae)(nt:Ar K (.ref C) "triple" = Aa Ae)(ha:Ar K (.ref C) "__class__" = Aa (Aa (.builtin "object.__class__")))(hn:BF K (.builtin "object.__class__") "__get__" = Aa (Aa (.builtin "getset_descriptor.__get__")))(htk:GA K (.builtin "object.__class__")=Aa Ab)(hm:EZ K C (.type "object")=Aa Ab)(t1:Dr K (.ref t)=Ab)(s1:Dr K (.ref s)=Ab)(mk:VH K C=Ab)(f1:Dr K (.ref f)=Ab)(kp:A7 K (.ref C)=Ab):OA K n C t s f:=
 ⟨n1,⟨⟨pg,hd,po,sa⟩,np,nt,ha,hn,htk,hm⟩,ft,fs,t1,s1,⟨mk,i,f1,kp⟩⟩
theorem GM(h:c<3)(n:A5 K AN (LK c)=Aa (Aa (.ref C))):OC K c=Aa C:=by
 unfold OC;rw[AE h,n]
def KtC(K:Fg)(C:Ak)(l:Ac (Ak×Ai)):Prop:=∀ q∈l,Do K (.ref C) (.ref q.1)=Aa q.2
theorem iR{C0 C1 C2 t0 t1 t2 s0 s1 s2 f:Ak}(X:K.In h)(G:h.Ns AN mg)(a0:OA K "Triple" C0 t0 s0 f)(a1:OA K "Point" C1 t1 s1 f)(a2:OA K "Line" C2 t2 s2 f)(k0:KtC K C0 [(C0,Ab),(C1,Ad),(C2,Ad)])(k1:KtC K C1 [(C0,Ab),(C1,Ab),(C2,Ad)])(k2:KtC K C2 [(C0,Ab),(C1,Ad),(C2,Ab)]):OS K mg:=by
  have e0:OC K 0=Aa C0:=GM (by decide) a0.n
  have e1:OC K 1=Aa C1:=GM (by decide) a1.n
  have e2:OC K 2=Aa C2:=GM (by decide) a2.n
  have three:∀ c C,OC K c=Aa C->(c=0/\C=C0)\/(c=1/\C=C1)\/(c=2/\C=C2):=λc C e=>by
    match c,e with
    |0,e=>exact .inl ⟨rfl,(Bc (e0.symm.trans e)).symm⟩
    |1,e=>exact .inr (.inl ⟨rfl,(Bc (e1.symm.trans e)).symm⟩)
    |2,e=>exact .inr (.inr ⟨rfl,(Bc (e2.symm.trans e)).symm⟩)
    |n+3,e=>
      unfold OC at e;rw[AO (by omega)]at e
      cases e
  have fu:∀{f f':Ak}{r:An (An Aj)},r=Aa (Aa (.ref f))->r=Aa (Aa (.ref f'))->f'=f:=λa b=>by rw[a]at b;cases b;rfl
  refine⟨λc C e=>?_,λc C c' C' e e'=>?_,λc hc=>?_,λc C m f' e hm hf=>?_⟩
  · rcases three c C e with ⟨rfl,rfl⟩|⟨rfl,rfl⟩|⟨rfl,rfl⟩
    · exact a0.o
    · exact a1.o
    · exact a2.o
  · rcases three c C e with ⟨rfl,rfl⟩|⟨rfl,rfl⟩|⟨rfl,rfl⟩<;>rcases three c' C' e' with ⟨rfl,rfl⟩|⟨rfl,rfl⟩|⟨rfl,rfl⟩
    · exact k0 (_,Ab) (by simp)
    · exact k0 (_,Ad) (by simp)
    · exact k0 (_,Ad) (by simp)
    · exact k1 (_,Ab) (by simp)
    · exact k1 (_,Ab) (by simp)
    · exact k1 (_,Ad) (by simp)
    · exact k2 (_,Ab) (by simp)
    · exact k2 (_,Ad) (by simp)
    · exact k2 (_,Ab) (by simp)
  · match c,hc with
    |0,_=>exact⟨_,e0,DA X G a0.n⟩
    |1,_=>exact⟨_,e1,DA X G a1.n⟩
    |2,_=>exact⟨_,e2,DA X G a2.n⟩
    |n+3,h=>omega
  · rcases orT hm with z|z
    · obtain rfl:=eq_of_beq z;rcases three c C e with ⟨rfl,rfl⟩|⟨rfl,rfl⟩|⟨rfl,rfl⟩
      · rw[fu a0.ft hf];exact a0.nt
      · rw[fu a1.ft hf];exact a1.nt
      · rw[fu a2.ft hf];exact a2.nt
    · obtain rfl:=eq_of_beq z;rcases three c C e with ⟨rfl,rfl⟩|⟨rfl,rfl⟩|⟨rfl,rfl⟩
      · rw[fu a0.fs hf];exact a0.ns
      · rw[fu a1.fs hf];exact a1.ns
      · rw[fu a2.fs hf];exact a2.ns
theorem kJ{C0 C1 C2 t0 t1 t2 s0 s1 s2 f:Ak}{st:AC}(a0:OA K "Triple" C0 t0 s0 f)(a1:OA K "Point" C1 t1 s1 f)(a2:OA K "Line" C2 t2 s2 f)(A:InI K f q st)(hc:Ko fuel fns bl rzs exs gls st=Ab)(d0:Pg.defs 900=mkC 0)(d1:Pg.defs 901=mkC 1)(d2:Pg.defs 902=mkC 2)(d3:Pg.defs 910=inC)(hb:∀(u0 u1 u2 kV doc pm:Aj)(an:An Ak)(cdv ct:Aj),FB (BP "__init__" q (FC st) (DS st) (Bt st) .none kV doc pm an cdv ct) ⟨[u0,u1,u2],[]⟩=pure ((["self", "p", "numbers"]:Ac Ag).zip [u0,u1,u2])):InR K fns bl rzs exs gls Pg fuel:=by
  obtain⟨fd,F⟩:=A;refine⟨λc hc=>?_,d3,f,fd,_,q,st,Lj F,F.binds λkV doc pm an cdv ct us hu=>match us,hu with | [u0,u1,u2],_=>hb u0 u1 u2 kV doc pm an cdv ct,hc,λc hc=>?_⟩
  · match c,hc with
    |0,_=>exact d0
    |1,_=>exact d1
    |2,_=>exact d2
    |n+3,h=>omega
  · match c,hc with
    |0,_=>exact⟨_,GM (by decide) a0.n,a0.m⟩
    |1,_=>exact⟨_,GM (by decide) a1.n,a1.m⟩
    |2,_=>exact⟨_,GM (by decide) a2.n,a2.m⟩
    |n+3,h=>omega
theorem Ni{n:Ag}{f:Ak}{st:AC}{ps N:Ac Ag}(m id:Af)(hm:FD.lookup n=Ae)(X:K.In h)(G:h.Ns AN mg)(A:FnI K f n st)(hl:ps.length=m%1000)(hc:Fp fuel (Co 1000 m) fns bl rzs exs gls ps N st (Pg.defs id)=Ab)(hb:∀ us:Ac Aj,us.length=ps.length->Bd n st ps us):Ju K mg fns bl rzs exs gls Pg fuel (n,id,m):=by
 obtain⟨fd,F,a⟩:=A;exact⟨_,_,_,_,_,_,Xu (DA X G a) hm,⟨_,Lj F⟩,F.binds λkV doc pm an cdv ct us hu=>hb us hu kV doc pm an cdv ct,hl,hc⟩
theorem On{l:Ac α}(h:l.length=0):l=[]:=List.eq_nil_of_length_eq_zero h
theorem Jx{l:Ac α}{n:Af}(h:l.length=n+1):∃ a r,l=a::r/\r.length=n:=by
 cases l with
 |nil=>cases h
 |cons a r=>exact⟨a,r,rfl,Nat.succ.inj h⟩
theorem Tf{n:Ag}{f:Ak}{st:AC}{N:Ac Ag}(m id:Af)(hm:FD.lookup n=Ae)(X:K.In h)(G:h.Ns AN mg)(A:FnI K f n st)(hl:1=m%1000)(hc:Fp fuel (Co 1000 m) fns bl rzs exs gls [x0] N st (Pg.defs id)=Ab)(hb:∀ u0,Bd n st [x0] [u0]):Ju K mg fns bl rzs exs gls Pg fuel (n,id,m):=
 Ni (ps:=[x0]) m id hm X G A hl hc λus hu=>by obtain⟨u0,v0,rfl,h0⟩:=Jx hu;obtain rfl:=On h0;exact hb u0
theorem F2{n:Ag}{f:Ak}{st:AC}{N:Ac Ag}{x1:Ag}(m id:Af)(hm:FD.lookup n=Ae)(X:K.In h)(G:h.Ns AN mg)(A:FnI K f n st)(hl:2=m%1000)(hc:Fp fuel (Co 1000 m) fns bl rzs exs gls [x0,x1] N st (Pg.defs id)=Ab)(hb:∀ u0 u1,Bd n st [x0,x1] [u0,u1]):Ju K mg fns bl rzs exs gls Pg fuel (n,id,m):=
 Ni (ps:=[x0,x1]) m id hm X G A hl hc λus hu=>by obtain⟨u0,v0,rfl,h0⟩:=Jx hu;obtain⟨u1,v1,rfl,h1⟩:=Jx h0;obtain rfl:=On h1;exact hb u0 u1
theorem Te{n:Ag}{f:Ak}{st:AC}{N:Ac Ag}{x1 x2:Ag}(m id:Af)(hm:FD.lookup n=Ae)(X:K.In h)(G:h.Ns AN mg)(A:FnI K f n st)(hl:3=m%1000)(hc:Fp fuel (Co 1000 m) fns bl rzs exs gls [x0,x1,x2] N st (Pg.defs id)=Ab)(hb:∀ u0 u1 u2,Bd n st [x0,x1,x2] [u0,u1,u2]):Ju K mg fns bl rzs exs gls Pg fuel (n,id,m):=
 Ni (ps:=[x0,x1,x2]) m id hm X G A hl hc λus hu=>by obtain⟨u0,v0,rfl,h0⟩:=Jx hu;obtain⟨u1,v1,rfl,h1⟩:=Jx h0;obtain⟨u2,v2,rfl,h2⟩:=Jx h1;obtain rfl:=On h2;exact hb u0 u1 u2
end
end Ov
namespace OvC
open PySem Ov
variable{x p k:Ah}{ns:Ac Ah}{n:Af}{Z:Gam}
noncomputable abbrev tr(a b c:Ah):D:=.tup [.int a,.int b,.int c]
noncomputable def det(a0 a1 a2 b0 b1 b2 c0 c1 c2:Ah):Ah:=a0*(b1*c2-b2*c1)-a1*(b0*c2-b2*c0)+a2*(b0*c1-b1*c0)
def Sm(x:Ah):Prop:=0<=x/\x<11
theorem mo(h:Sm x)(y:Ah):Ev x y=Ab:=JR (by have:=h.1;omega) (by have:=h.2;omega)
theorem Sm.of(h:P4 p)(x:Ah):Sm (x%p):=⟨Bx _ (by have:=h.pos;omega),by have:=BM x h.pos;have:=h.hi;omega⟩
theorem OT{body:D->Rho->O}(I:Rho->Prop)(g:Ah->Ai):∀(L:Ac Ah),(∀ t∈L,∀ U,I U->(g t=Ab/\body (.int t) U=.ret (.int t) Ad)\/(g t=Ad/\∃ U',body (.int t) U=.next U'/\I U'))->∀ U,I U->(∃ t∈L,g t=Ab/\Cd body (L.map D.int) U=.ret (.int t) Ad)\/((∀ t∈L,g t=Ad)/\∃ U',Cd body (L.map D.int) U=.next U'/\I U')
 |[],_,U,i=>.inr ⟨(λ_ h=>nomatch h),U,rfl,i⟩
 |m::L,h,U,i=>by
  rcases h m (AB ..) U i with ⟨e1,e2⟩|⟨e1,U',e2,i'⟩
  .refine .inl ⟨m,AB ..,e1,?_⟩;show (body (.int m) U).turn _=_;rw[e2];rfl
  .rcases OT I g L (λm' h'=>h m' (Ax _ h')) U' i' with ⟨t,ht,a,b⟩|⟨a,r,b,c⟩
   .refine .inl ⟨t,Ax _ ht,a,?_⟩;show (body (.int m) U).turn _=_;rw[e2];exact b
   .refine .inr ⟨λt ht=>?_,r,?_,c⟩
    .rcases AG.mp ht with rfl|ht
     .exact e1
     .exact a t ht
    .show (body (.int m) U).turn _=_;rw[e2];exact b
noncomputable def IR:Ss:=(.cons (.ife (.cmp .Eq (.call 1 (.cons (.var 0) (.cons (.bin .Mult (.var 1) (.var 2)) .nil))) (.int 1)) (.cons (.ret (.var 2)) .nil) .nil) .nil)
noncomputable def KB:Df:=⟨3,Ad,(.cons (.fors 2 (.rng2 (.int 1) (.var 0)) IR) (.cons (.rais 2 (.cons (.str (Ay "a number with the rest 0 is not turned over")) .nil)) .nil))⟩
noncomputable def Jv(p:Ah):Ac Ah:=(BR (p-1).toNat).map fun(k:Af)=>1+(k:Ah)
theorem MP{t:Ah}:t∈Jv p↔1<=t/\t<p:=by
 unfold Jv;rw[List.mem_map];constructor
 .rintro⟨k,hk,rfl⟩;have:=Cf.mp hk;omega
 .rintro⟨h1,h2⟩;exact⟨(t-1).toNat,Cf.mpr (by omega),by omega⟩
theorem XM(h:P4 p):DJ 1 p=.ok ((Jv p).map D.int):=by
 rcases h with rfl|rfl|rfl|rfl<;>rfl
theorem Y_8:∀ p:Fin 12,(p.val=3\/p.val=5\/p.val=7\/p.val=11)->∀ r:Fin 12,r.val<p.val->r.val≠0->∃ t:Fin 12,1<=t.val/\t.val<p.val/\r.val*t.val%p.val=1:=by decide+kernel
theorem J3{n:Ah}(h:P4 p)(hn:n%p≠0):∃ t,1<=t/\t<p/\n*t%p=1:=by
 have p0:0<p/\p<12:=by rcases h with rfl|rfl|rfl|rfl<;>decide
 obtain⟨q,rfl⟩:∃ q:Af,p=q:=⟨p.toNat,by omega⟩
 have h0:=Bx n (b:=(q:Ah)) (by omega)
 have h1:=BM n p0.1;obtain⟨r,hr⟩:∃ r:Af,n%(q:Ah)=r:=⟨(n%(q:Ah)).toNat,by omega⟩
 obtain⟨t,t1,t2,t3⟩:=Y_8 ⟨q,by omega⟩ (by rcases h with e|e|e|e<;>simp<;>omega) ⟨r,by omega⟩ (by show r<q;omega) (by show r≠0;omega)
 refine⟨(t.val:Ah),by omega,by show (t.val:Ah)<q;exact Int.ofNat_lt.mpr t2,?_⟩
 have e:((r*t.val%q:Af):Ah)=1:=by rw[show r*t.val%q=1 from t3];rfl
 rw[<-e,Int.natCast_emod,Int.natCast_mul,<-hr];exact(Bo n _ _).trans (by rw[Bo (n%(q:Ah)) (t.val:Ah) (q:Ah),A4 n (BL _)])
def Ho(p n t:Ah):Prop:=1<=t/\t<p/\n*t%p=1
theorem O4{n t u:Ah}(h1:Ho p n t)(h2:Ho p n u):t=u:=by
 have hp:1<p:=by have:=h1.1;have:=h1.2.1;omega
 have e:t%p=u%p:=by
  have a:t%p=t*(n*u)%p:=by rw[Bo,h2.2.2,TF,A4 _ (BL p)]
  have b:u%p=(n*t)*u%p:=by rw[Bo (n*t) u p,h1.2.2,DG,A4 _ (BL p)]
  rw[a,b]
  congr 1
  rw[<-FT,Gc t n]
 rw[Bj (by have:=h1.1;omega) h1.2.1,Bj (by have:=h2.1;omega) h2.2.1]at e
 exact e
theorem J7{c:Ah}(hp:P4 p)(hc:c%p≠0)(hx:x%p≠0):c*x%p≠0:=λz=>by
 obtain⟨t,_,_,e⟩:=J3 hp hc;refine hx ?_;have e1:x%p=(c*t)*x%p:=by rw[Bo (c*t) x p,e,DG,A4 _ (BL p)]
 rw[e1,show c*t*x=t*(c*x) by rw[Gc c t,FT],Bo,z,TH,EX]
noncomputable def CT(p:Ah):Ac Ah->An Ah
 |[]=>Ae
 |x::xs=>if x%p=0 then CT p xs else Aa (x%p)
theorem Pk{p:Ah}:∀{xs:Ac Ah},CT p xs=Ae↔∀ x∈xs,x%p=0
 |[]=>by simp[CT]
 |x::xs=>by
  unfold CT;by_cases h:x%p=0
  .rw[AE h,Pk (xs:=xs)];simp[h]
  .rw[AO h];simp[h]
theorem Pj{p l:Ah}(hp:0<p):∀{xs:Ac Ah},CT p xs=Aa l->l%p≠0/\0<l/\l<p
 |[],h=>by cases h
 |x::xs,h=>by
  unfold CT at h;by_cases hx:x%p=0
  .rw[AE hx]at h;exact Pj hp h
  .rw[AO hx]at h;cases h;have h0:=Bx x (b:=p) (by omega)
   have h1:=BM x hp;exact⟨by rw[A4 _ (BL p)];exact hx,by omega,h1⟩
theorem MR{p c:Ah}(hp:P4 p)(hc:c%p≠0){f:Ah->Ah}(hf:∀ x,f x%p=c*x%p):∀ xs:Ac Ah,CT p (xs.map f)=(CT p xs).map λl=>c*l%p
 |[]=>rfl
 |x::xs=>by
  rw[Ce];unfold CT;rw[hf x];by_cases hx:x%p=0
  .rw[AE hx,AE (by rw[Bo,hx,TH,EX]),MR hp hc hf xs]
  .rw[AO hx,AO (J7 hp hc hx),Uh]
   congr 1
   rw[Bo c (x%p),A4 _ (BL p),<-Bo]
noncomputable def ds(xs:Ac Ah):Ac D:=xs.map D.int
noncomputable def D0(b:Ai)(xs:Ac Ah):D:=if b=Ab then .tup (ds xs) else .lst (ds xs)
theorem Wm(b xs):DK (D0 b xs)=.ok (ds xs):=by unfold D0;cases b<;>rfl
theorem MB{g:D->R Ai}{f:D->R D}{φ:Ah->Ah}:∀(xs:Ac Ah),(∀ x∈xs,g (.int x)=.ok Ab/\f (.int x)=.ok (.int (φ x)))->BX g f (ds xs)=.ok (ds (xs.map φ))
 |[],_=>rfl
 |x::xs,h=>by
  obtain⟨h1,h2⟩:=h x (AB ..);show (g (.int x)).bind _=_;rw[h1,R.bind_ok,AE rfl,h2,R.bind_ok];show (BX g f (ds xs)).bind _=_;rw[MB xs λy hy=>h y (Ax _ hy)]
  rfl
noncomputable def Dx:E:=(.bl Ab)
noncomputable def Mf:E:=(.call 1 (.cons (.var 0) (.cons (.var 5) .nil)))
noncomputable def Me:E:=(.call 1 (.cons (.var 0) (.cons (.bin .Mult (.var 4) (.var 6)) .nil)))
noncomputable def Gq:Ss:=(.cons (.ife (.cmp .NotEq (.var 3) (.int 0)) (.cons (.asg 4 Ad (.call 9 (.cons (.var 0) (.cons (.var 3) .nil)))) (.cons (.ret (.bi .tuple (.cons (.comp Me 6 (.e (.var 2)) Dx) .nil))) .nil)) .nil) .nil)
noncomputable def KH:Df:=⟨7,Ad,(.cons (.asg 2 Ad (.comp Mf 5 (.e (.var 1)) Dx)) (.cons (.fors 3 (.e (.var 2)) Gq) (.cons (.rais 3 (.cons (.str (Ay "all the numbers have the rest 0")) .nil)) .nil)))⟩
noncomputable def fmI(p t:Ah)(xs:Ac Ah):Ac Ah:=xs.map λx=>t*(x%p)%p
section
variable{Z:Gam}{p:Ah}{xs:Ac Ah}{b:Ai}
end
noncomputable def LX:E:=(.and (.cons (.isi (.var 2) [.int]) (.cons (.no (.isi (.var 2) [.bool])) .nil)))
noncomputable def LZ:Df:=⟨3,Ad,(.cons (.ife (.or (.cons (.no (.isi (.var 0) [.tuple])) (.cons (.cmp .NotEq (.var 0) (.var 1)) .nil))) (.cons (.ret (.bl Ad)) .nil) .nil) (.cons (.ret (.bi .all (.cons (.comp LX 2 (.e (.var 0)) Dx) .nil))) .nil))⟩
theorem kA(n:Af)(xs:Ac Ah):(ds xs).all (flD n)=Ab:=by simp[ds]
theorem Q3:∀ xs:Ac Ah,eqDs (ds xs) (ds xs)=Ab
 |[]=>rfl
 |x::xs=>by
  show (eqD (.int x) (.int x)&&eqDs (ds xs) (ds xs))=Ab;rw[Q3 xs];simp
theorem Qe:∀ xs:Ac Ah,FY (xs.map λ_=>D.bl Ab)=.ok Ab
 |[]=>rfl
 |x::xs=>by
  rw[Ce,Ms,Qe xs];rfl
theorem Q1{g:D->R Ai}{f:D->R D}:∀(xs:Ac Ah),(∀ x∈xs,g (.int x)=.ok Ab/\f (.int x)=.ok (.bl Ab))->BX g f (ds xs)=.ok (xs.map λ_=>D.bl Ab)
 |[],_=>rfl
 |x::xs,h=>by
  obtain⟨h1,h2⟩:=h x (AB ..);show (g (.int x)).bind _=_;rw[h1,R.bind_ok,AE rfl,h2,R.bind_ok];show (BX g f (ds xs)).bind _=_;rw[Q1 xs λy hy=>h y (Ax _ hy)]
  rfl
theorem dD(Z:Gam)(xs:Ac Ah):LZ.run Z [.tup (ds xs),.tup (ds xs)]=.ok (.bl Ab):=by
 have c1:BX (cG Z [sh (.tup (ds xs)),sh (.tup (ds xs)),Ae] 2 Dx) (cF Z [sh (.tup (ds xs)),sh (.tup (ds xs)),Ae] 2 LX) (ds xs)=.ok (xs.map λ_=>D.bl Ab):=by
  refine Q1 xs λx _=>⟨rfl,?_⟩
  simp[cF,LX,kiD,Dk]
 simp[LZ,Df.run,B5,kiD,Dk,kA,Q3,c1,Qe]
noncomputable abbrev own(xs:Ac Ah):Sl:=Aa (.lst (ds xs),Ab)
section
variable{Z:Gam}{ns:Ac Ah}{a1 a2 a4 a6 a7 a8 a9 b0 b1 b2 b3 b4:Sl}{p:Ah}
end
theorem Xp{p c l t:Ah}(hp:P4 p)(hc:c%p≠0)(hl:l%p≠0)(it:Ho p l t){f:Ah->Ah}(hf:∀ x,f x%p=c*x%p)(xs:Ac Ah):∃ u,Ho p (c*l%p) u/\fmI p u (xs.map f)=fmI p t xs:=by
 have h1:(c*l%p)%p≠0:=by rw[A4 _ (BL p)];exact J7 hp hc hl
 obtain⟨u,u1,u2,u3⟩:=J3 hp h1;refine⟨u,⟨u1,u2,u3⟩,?_⟩;unfold fmI;rw[T5];refine List.map_congr_left λx _=>?_
 show u*(f x%p)%p=t*(x%p)%p;have u4:c*l*u%p=1:=by rw[<-u3,Bo (c*l%p) u p,A4 _ (BL p),<-Bo]
 have e1:u*(f x%p)%p=u*(c*x)%p:=by rw[hf,Bo u (c*x%p) p,A4 _ (BL p),<-Bo]
 have e2:t*(x%p)%p=t*x%p:=by rw[Bo t (x%p) p,A4 _ (BL p),<-Bo]
 have e3:u*(c*x)%p=(l*t)*(u*(c*x))%p:=by rw[Bo (l*t) _ p,it.2.2,DG,A4 _ (BL p)]
 have e4:t*x%p=(c*l*u)*(t*x)%p:=by rw[Bo (c*l*u) _ p,u4,DG,A4 _ (BL p)]
 rw[e1,e2,e3,e4]
 congr 1
 grind
section
variable{Z:Gam}{ns:Ac Ah}{a1 a4 a6 a7 a8 a9 b2 b3 b4:Sl}{p m:Ah}{xs:Ac Ah}
end
def Cg(p x y:Ah):Prop:=x%p=y%p
section
variable{p a b c d:Ah}
theorem Cg.rfl:Cg p a a:=Eq.refl _
theorem Cg.of(h:a=b):Cg p a b:=by unfold Cg;rw[h]
theorem Cg.trans{a b c:Ah}(h:Cg p a b)(g:Cg p b c):Cg p a c:=Eq.trans h g
theorem Cg.symm(h:Cg p a b):Cg p b a:=Eq.symm h
theorem Cg.add(h:Cg p a b)(g:Cg p c d):Cg p (a+c) (b+d):=by unfold Cg at *;rw[Tx,h,g,<-Tx]
theorem Cg.mul(h:Cg p a b)(g:Cg p c d):Cg p (a*c) (b*d):=by unfold Cg at *;rw[Bo,h,g,<-Bo]
end
theorem P4.m1(h:P4 p):(-1:Ah)%p≠0:=by rcases h with rfl|rfl|rfl|rfl<;>decide
theorem P4.o1(h:P4 p):(1:Ah)%p≠0:=by rcases h with rfl|rfl|rfl|rfl<;>decide
abbrev R3:=Ah×Ah×Ah
variable{a q:R3}
noncomputable def Kj(a:R3):D:=.lst [.int a.1,.int a.2.1,.int a.2.2]
@[simp]theorem Zod(a:R3)(U:Rho):Dj (Aa (Kj a,Ab)::U) 0=.ok (Kj a):=rfl
noncomputable def Kw(a b c:R3):Ah:=det a.1 a.2.1 a.2.2 b.1 b.2.1 b.2.2 c.1 c.2.1 c.2.2
def In3(p:Ah)(a:R3):Prop:=(0<=a.1/\a.1<p)/\(0<=a.2.1/\a.2.1<p)/\(0<=a.2.2/\a.2.2<p)
structure GoodR (p:Ah) (a b c:R3):Prop where
 p4:P4 p
 ia:In3 p a
 ib:In3 p b
 ic:In3 p c
 nz:Kw a b c%p≠0
theorem GoodR.of{a b c a' b' c':R3}(h:GoodR p a b c)(hk:k%p≠0)(e:Cg p (Kw a' b' c') (k*Kw a b c))(hin:In3 p a'/\In3 p b'/\In3 p c'):GoodR p a' b' c':=⟨h.p4,hin.1,hin.2.1,hin.2.2,by rw[show Kw a' b' c'%p=_ from e];exact J7 h.p4 hk h.nz⟩
theorem ZW(h0:0<=k)(h1:k<ns.length):Du (ns.map D.int) k=.ok (.int (ns.getD k.toNat 0)):=P5 h0 (by
 have:k.toNat<ns.length:=by omega
 simp[this])
noncomputable abbrev ownR(a b c:R3):Sl:=Aa (.lst [Kj a,Kj b,Kj c],Ab)
section
variable{Z:Gam}{ns:Ac Ah}{at_ many s5 s0 s1 s2:Sl}{p t m:Ah}{a b c:R3}
end
section
variable{Z:Gam}{ns:Ac Ah}{many s5 s6 s7 s8 s9 s0 s1 s2:Sl}{p:Ah}{a b c:R3}
end
def Bd(n:Af)(x:Ah):Prop:=x.natAbs<2 ^ n
theorem Bd.mul{m:Af}{y:Ah}(h:Bd m x)(g:Bd n y):Bd (m+n) (x*y):=by
 unfold Bd at *;rw[Int.natAbs_mul,Nat.pow_add];exact Nat.mul_lt_mul'' h g
def B3(a:R3):Prop:=Bd 300 a.1/\Bd 300 a.2.1/\Bd 300 a.2.2
noncomputable def Bb(q:Ai)(a:R3):D:=D0 q [a.1,a.2.1,a.2.2]
section
variable{Z:Gam}{ns:Ac Ah}{p t:Ah}{a b c r:R3}{made s6 s7:Sl}
end
section
variable{Z:Gam}{ns:Ac Ah}{p m:Ah}{a b c:R3}{fa fb fc:R3}{q:Ai}{s9 s0 s1 s2:Sl}
end
def MI(Z:Gam):Prop:=∀ p n:Ah,P4 p->n%p≠0->∃ t,1<=t/\t<p/\n*t%p=1/\Z.F 9 [.int p,.int n]=.ok (.int t)
def M0(Z:Gam):Prop:=∀(p:Ah)(b:Ai)(xs:Ac Ah)(l t:Ah),P4 p->CT p xs=Aa l->Ho p l t->Z.F 17 [.int p,D0 b xs]=.ok (.tup (ds (fmI p t xs)))
theorem WA(hr:Lg Z)(p n:Ah)(hp:P4 p)(z:n%p≠0):∃ t,1<=t/\t<p/\n*t%p=1/\KB.run Z [.int p,.int n]=.ok (.int t):=by
 have p0:=hp.pos;have ph:=hp.hi;have body:∀ t∈Jv p,∀ U,(∃ s,U=[si p,si n,s])->(decide (n*t%p=1)=Ab/\CN Z 2 IR (.int t) U=.ret (.int t) Ad)\/(decide (n*t%p=1)=Ad/\∃ U',CN Z 2 IR (.int t) U=.next U'/\∃ s,U'=[si p,si n,s]):=by
  rintro t ht U ⟨s,rfl⟩;obtain⟨t1,t2⟩:=MP.mp ht;have m:Ev n t=Ab:=Nb (by omega) (by omega)
  by_cases e:n*t%p=1
  .exact .inl ⟨by simp[e],by simp[CN,IR,hr p (n*t) p0,m,e,Dy]⟩
  .exact .inr ⟨by simp[e],_,by simp[CN,IR,hr p (n*t) p0,m,e];rfl,_,rfl⟩
 have run:∀ o,Cd (CN Z 2 IR) ((Jv p).map D.int) [si p,si n,Ae]=o->KB.run Z [.int p,.int n]=(FE Z (.cons (.rais 2 (.cons (.str (Ay "a number with the rest 0 is not turned over")) .nil)) .nil) o).ans Ad:=by
  rintro o rfl;simp[KB,Df.run,B5,XM hp]
 rcases OT (λU=>∃ s,U=[si p,si n,s]) (λt=>decide (n*t%p=1)) (Jv p) body [si p,si n,Ae] ⟨_,rfl⟩ with ⟨t,ht,a,b⟩|⟨a,r,b,s,rfl⟩
 .obtain⟨t1,t2⟩:=MP.mp ht;have a':n*t%p=1:=by simpa using a
  exact⟨t,t1,t2,a',by rw[run _ b];rfl⟩
 .obtain⟨t,t1,t2,e⟩:=J3 hp z;have:=a t (MP.mpr ⟨t1,t2⟩);simp[e]at this
section
variable{Z:Gam}{p:Ah}{xs:Ac Ah}{b:Ai}
theorem Pz(hr:Lg Z)(ht:MI Z)(hp:P4 p)(rs:Ac Ah):∀(ys:Ac Ah),(∀ y∈ys,0<=y/\y<p)->∀ s3,(CT p ys=Ae->∃ s3',Cd (CN Z 3 Gq) (ds ys) [si p,sh (D0 b xs),sh (.lst (ds rs)),s3,Ae,Ae,Ae]=.next [si p,sh (D0 b xs),sh (.lst (ds rs)),s3',Ae,Ae,Ae])/\(∀ l t,CT p ys=Aa l->Ho p l t->Cd (CN Z 3 Gq) (ds ys) [si p,sh (D0 b xs),sh (.lst (ds rs)),s3,Ae,Ae,Ae]=.ret (.tup (ds (rs.map λr=>t*r%p))) Ad)
 |[],_,s3=>⟨λ_=>⟨s3,rfl⟩,(λl t h=>nomatch h)⟩
 |y::ys,hy,s3=>by
  obtain⟨y0,y1⟩:=hy y (AB ..);have ym:y%p=y:=Bj y0 y1;have ih:=Pz hr ht hp rs ys (λz hz=>hy z (Ax _ hz)) (si y)
  have step:∀ o,CN Z 3 Gq (.int y) [si p,sh (D0 b xs),sh (.lst (ds rs)),s3,Ae,Ae,Ae]=o->Cd (CN Z 3 Gq) (ds (y::ys)) [si p,sh (D0 b xs),sh (.lst (ds rs)),s3,Ae,Ae,Ae]=o.turn (Cd (CN Z 3 Gq) (ds ys)):=by
   rintro o rfl;rfl
  unfold CT;rw[ym];by_cases hz:y=0
  .have e:CN Z 3 Gq (.int y) [si p,sh (D0 b xs),sh (.lst (ds rs)),s3,Ae,Ae,Ae]=.next [si p,sh (D0 b xs),sh (.lst (ds rs)),si y,Ae,Ae,Ae]:=by
    simp[CN,Gq,hz]
   rw[AE hz,step _ e];exact ih
  .rw[AO hz];refine⟨(λz=>nomatch z),λl t e it=>?_⟩
   cases e;obtain⟨u,u1,u2,u3,u4⟩:=ht p y hp (by rw[ym];exact hz)
   have:t=u:=O4 it ⟨u1,u2,u3⟩;subst this;have p0:=hp.pos;have ph:=hp.hi;have cp:BX (cG Z [si p,sh (D0 b xs),sh (.lst (ds rs)),si y,si t,Ae,Ae] 6 Dx) (cF Z [si p,sh (D0 b xs),sh (.lst (ds rs)),si y,si t,Ae,Ae] 6 Me) (ds rs)=.ok (ds (rs.map λr=>t*r%p)):=by
    refine MB rs λr _=>⟨rfl,?_⟩
    have m:Ev t r=Ab:=JR (by omega) (by omega)
    simp[cF,Me,m,hr p (t*r) p0]
   have e:CN Z 3 Gq (.int y) [si p,sh (D0 b xs),sh (.lst (ds rs)),s3,Ae,Ae,Ae]=.ret (.tup (ds (rs.map λr=>t*r%p))) Ad:=by
    simp[CN,Gq,hz,u4,cp,Dy]
   rw[step _ e];rfl
theorem Ym(hr:Lg Z)(ht:MI Z)(hp:P4 p){l t:Ah}(e:CT p xs=Aa l)(it:Ho p l t):KH.run Z [.int p,D0 b xs]=.ok (.tup (ds (fmI p t xs))):=by
 have p0:=hp.pos;have cp:BX (cG Z [si p,sh (D0 b xs),Ae,Ae,Ae,Ae,Ae] 5 Dx) (cF Z [si p,sh (D0 b xs),Ae,Ae,Ae,Ae,Ae] 5 Mf) (ds xs)=.ok (ds (xs.map λx=>x%p)):=by
  refine MB xs λx _=>⟨rfl,?_⟩
  simp[cF,Mf,hr p x p0]
 have run:∀ o,Cd (CN Z 3 Gq) (ds (xs.map λx=>x%p)) [si p,sh (D0 b xs),sh (.lst (ds (xs.map λx=>x%p))),Ae,Ae,Ae,Ae]=o->KH.run Z [.int p,D0 b xs]=(FE Z (.cons (.rais 3 (.cons (.str (Ay "all the numbers have the rest 0")) .nil)) .nil) o).ans Ad:=by
  rintro o rfl;simp[KH,Df.run,B5,Wm,cp]
 have le:CT p (xs.map λx=>x%p)=CT p xs:=by
  have:=MR (c:=1) hp (by rcases hp with rfl|rfl|rfl|rfl<;>decide) (f:=λx=>x%p) (λx=>by rw[DG,A4 _ (BL p)]) xs
  rw[this];cases e:CT p xs with
  |none=>rfl
  |some l=>
   obtain⟨_,l0,l1⟩:=Pj p0 e;simp[Bj (Int.le_of_lt l0) l1]
 obtain⟨a,c⟩:=Pz (b:=b) (xs:=xs) hr ht hp (xs.map λx=>x%p) (xs.map λx=>x%p) (λy hy=>by
  obtain⟨x,_,rfl⟩:=Gf.mp hy;exact⟨Bx _ (by omega),BM _ p0⟩) Ae
 rw[le]at a c;rw[run _ (c l t e it)];simp[fmI,T5,Function.comp_def]
end
theorem No(q:Ai)(a:R3):DK (Bb q a)=.ok [.int a.1,.int a.2.1,.int a.2.2]:=by cases q<;>rfl
noncomputable def Ks(a b c:R3):R3:=(a.1,b.1,c.1)
noncomputable def Kq(a b c:R3):R3:=(a.2.1,b.2.1,c.2.1)
noncomputable def Kx(a b c:R3):R3:=(a.2.2,b.2.2,c.2.2)
noncomputable def HU(a x:R3):Ah:=a.1*x.1+a.2.1*x.2.1+a.2.2*x.2.2
theorem kK(hp:P4 p)(h0:0<=x)(h1:x<p):Bd 10 x:=by
 unfold Bd;have:=hp.hi;omega
theorem Bd.mono{m:Af}(h:Bd m x)(hm:m<=n):Bd n x:=AJ h (Nat.pow_le_pow_right (by decide) hm)
def Bn(n:Af)(a:R3):Prop:=Bd n a.1/\Bd n a.2.1/\Bd n a.2.2
theorem Bn.b3(h:Bn n a)(hn:n<=300):B3 a:=⟨h.1.mono hn,h.2.1.mono hn,h.2.2.mono hn⟩
noncomputable def FJ(k:Ah)(a:R3):R3:=(k*a.1,k*a.2.1,k*a.2.2)
noncomputable def fk0(p:Ah)(a b c d:R3):Ah:=Kw d b c%p
noncomputable def fs0(p:Ah)(a b c d:R3):R3:=FJ (fk0 p a b c d) a
def CgR(p:Ah)(x y:R3):Prop:=Cg p x.1 y.1/\Cg p x.2.1 y.2.1/\Cg p x.2.2 y.2.2
section
variable{p:Ah}{a b c a' b' c' x y z x':R3}{k l m k':Ah}
theorem CgR.rfl:CgR p a a:=⟨Cg.rfl,Cg.rfl,Cg.rfl⟩
theorem CgR.of(h:a=b):CgR p a b:=by rw[h];exact CgR.rfl
theorem CgR.trans(h:CgR p a b)(g:CgR p b c):CgR p a c:=⟨h.1.trans g.1,h.2.1.trans g.2.1,h.2.2.trans g.2.2⟩
theorem CgR.symm(h:CgR p a b):CgR p b a:=⟨h.1.symm,h.2.1.symm,h.2.2.symm⟩
theorem CgR.sc(hk:Cg p k k')(h:CgR p a b):CgR p (FJ k a) (FJ k' b):=⟨hk.mul h.1,hk.mul h.2.1,hk.mul h.2.2⟩
theorem Iy(ha:CgR p a a')(hb:CgR p b b'):Cg p (HU a b) (HU a' b'):=((ha.1.mul hb.1).add (ha.2.1.mul hb.2.1)).add (ha.2.2.mul hb.2.2)
theorem fN(ha:CgR p a a')(hb:CgR p b b')(hc:CgR p c c'):CgR p (Ks a b c) (Ks a' b' c')/\CgR p (Kq a b c) (Kq a' b' c')/\CgR p (Kx a b c) (Kx a' b' c'):=⟨⟨ha.1,hb.1,hc.1⟩,⟨ha.2.1,hb.2.1,hc.2.1⟩,⟨ha.2.2,hb.2.2,hc.2.2⟩⟩
noncomputable def ap(a b c x:R3):R3:=(HU a x,HU b x,HU c x)
theorem RY(k l:Ah)(x:R3):FJ k (FJ l x)=FJ (k*l) x:=by
 unfold FJ;simp only[FT]
theorem kT(a b c x:R3)(k:Ah):ap a b c (FJ k x)=FJ k (ap a b c x):=by
 unfold ap FJ HU;refine JF ?_ (JF ?_ ?_)<;>(simp only;grind)
end
section
variable{p:Ah}{a b c f0 f1 f2 f3 g0 g1 g2 g3:R3}{d0 d1 d2 d3:Ah}
end
section
variable{Z:Gam}{ns:Ac Ah}
end
section
variable{Z:Gam}{ns:Ac Ah}{many s5 s6 s7 s8 s9 s0 s1 s2:Sl}{p:Ah}{a b c:R3}
end
def InL(p:Ah)(xs:Ac Ah):Prop:=∀ x∈xs,0<=x/\x<p
theorem InL.set{xs:Ac Ah}(h:InL p xs)(k:Af){v:Ah}(h0:0<=v)(h1:v<p):InL p (xs.set k v):=λx hx=>by
 rcases List.mem_or_eq_of_mem_set hx with z|rfl
 .exact h x z
 .exact⟨h0,h1⟩
section
variable{Z:Gam}{ns:Ac Ah}{p at_:Ah}
end
section
variable{Z:Gam}{ns:Ac Ah}{p t:Ah}
end
structure C6 where
 c0:Ah
 c1:Ah
 c2:Ah
 c3:Ah
 c4:Ah
 c5:Ah
noncomputable def C6.l(C:C6):Ac Ah:=[C.c0,C.c1,C.c2,C.c3,C.c4,C.c5]
noncomputable def vI(C:C6)(x:R3):Ah:=C.c0*x.1*x.1+C.c1*x.2.1*x.2.1+C.c2*x.2.2*x.2.2+(C.c3*x.1*x.2.1+C.c4*x.1*x.2.2+C.c5*x.2.1*x.2.2)
noncomputable def tw0(C:C6):R3:=(2*C.c0,C.c3,C.c4)
noncomputable def tw1(C:C6):R3:=(C.c3,2*C.c1,C.c5)
noncomputable def tw2(C:C6):R3:=(C.c4,C.c5,2*C.c2)
noncomputable def bI(C:C6)(x y:R3):Ah:=HU (ap (tw0 C) (tw1 C) (tw2 C) x) y
noncomputable def scC(k:Ah)(C:C6):C6:=⟨k*C.c0,k*C.c1,k*C.c2,k*C.c3,k*C.c4,k*C.c5⟩
def CgC(p:Ah)(C D:C6):Prop:=Cg p C.c0 D.c0/\Cg p C.c1 D.c1/\Cg p C.c2 D.c2/\Cg p C.c3 D.c3/\Cg p C.c4 D.c4/\Cg p C.c5 D.c5
noncomputable def pb(C:C6)(a b c:R3):C6:=⟨vI C (Ks a b c),vI C (Kq a b c),vI C (Kx a b c),bI C (Ks a b c) (Kq a b c),bI C (Ks a b c) (Kx a b c),bI C (Kq a b c) (Kx a b c)⟩
section
variable{p:Ah}{C D E:C6}{a b c a' b' c' x y x' y':R3}{k k':Ah}
theorem C6.ext'(h0:C.c0=D.c0)(h1:C.c1=D.c1)(h2:C.c2=D.c2)(h3:C.c3=D.c3)(h4:C.c4=D.c4)(h5:C.c5=D.c5):C=D:=by
 cases C;cases D;simp_all
theorem CgC.rfl:CgC p C C:=⟨Cg.rfl,Cg.rfl,Cg.rfl,Cg.rfl,Cg.rfl,Cg.rfl⟩
theorem CgC.of(h:C=D):CgC p C D:=by rw[h];exact CgC.rfl
theorem CgC.symm(h:CgC p C D):CgC p D C:=⟨h.1.symm,h.2.1.symm,h.2.2.1.symm,h.2.2.2.1.symm,h.2.2.2.2.1.symm,h.2.2.2.2.2.symm⟩
theorem CgC.trans(h:CgC p C D)(g:CgC p D E):CgC p C E:=⟨h.1.trans g.1,h.2.1.trans g.2.1,h.2.2.1.trans g.2.2.1,h.2.2.2.1.trans g.2.2.2.1,h.2.2.2.2.1.trans g.2.2.2.2.1,h.2.2.2.2.2.trans g.2.2.2.2.2⟩
theorem CgC.sc(hk:Cg p k k')(h:CgC p C D):CgC p (scC k C) (scC k' D):=⟨hk.mul h.1,hk.mul h.2.1,hk.mul h.2.2.1,hk.mul h.2.2.2.1,hk.mul h.2.2.2.2.1,hk.mul h.2.2.2.2.2⟩
theorem NG(h:CgC p C D)(hx:CgR p x x'):Cg p (vI C x) (vI D x'):=
 (((((h.1.mul hx.1).mul hx.1).add ((h.2.1.mul hx.2.1).mul hx.2.1)).add ((h.2.2.1.mul hx.2.2).mul hx.2.2))).add ((((h.2.2.2.1.mul hx.1).mul hx.2.1).add ((h.2.2.2.2.1.mul hx.1).mul hx.2.2)).add ((h.2.2.2.2.2.mul hx.2.1).mul hx.2.2))
theorem fR(h:CgC p C D):CgR p (tw0 C) (tw0 D)/\CgR p (tw1 C) (tw1 D)/\CgR p (tw2 C) (tw2 D):=
 ⟨⟨Cg.rfl.mul h.1,h.2.2.2.1,h.2.2.2.2.1⟩,⟨h.2.2.2.1,Cg.rfl.mul h.2.1,h.2.2.2.2.2⟩,⟨h.2.2.2.2.1,h.2.2.2.2.2,Cg.rfl.mul h.2.2.1⟩⟩
theorem eC(ha:CgR p a a')(hb:CgR p b b')(hc:CgR p c c')(hx:CgR p x x'):CgR p (ap a b c x) (ap a' b' c' x'):=⟨Iy ha hx,Iy hb hx,Iy hc hx⟩
theorem NV(h:CgC p C D)(hx:CgR p x x')(hy:CgR p y y'):Cg p (bI C x y) (bI D x' y'):=
 let ⟨t0,t1,t2⟩:=fR h
 Iy (eC t0 t1 t2 hx) hy
theorem iQ(h:CgC p C D)(ha:CgR p a a')(hb:CgR p b b')(hc:CgR p c c'):CgC p (pb C a b c) (pb D a' b' c'):=
 let ⟨s0,s1,s2⟩:=fN ha hb hc
 ⟨NG h s0,NG h s1,NG h s2,NV h s0 s1,NV h s0 s2,NV h s1 s2⟩
theorem Rb(k l:Ah)(C:C6):scC k (scC l C)=scC (k*l) C:=by
 unfold scC;simp only[FT]
theorem QF(C:C6):scC 1 C=C:=by unfold scC;simp only[DG]
theorem iP(k:Ah)(C:C6)(a b c:R3):pb (scC k C) a b c=scC k (pb C a b c):=by
 unfold pb scC vI bI ap tw0 tw1 tw2 HU;refine C6.ext' ?_ ?_ ?_ ?_ ?_ ?_<;>(simp only;grind)
def PrC(p:Ah)(C D:C6):Prop:=∃ d,d%p≠0/\CgC p C (scC d D)
theorem PrC.rfl(hp:P4 p):PrC p C C:=⟨1,hp.o1,CgC.of (QF C).symm⟩
theorem PrC.trans(hp:P4 p)(i:PrC p C D)(j:PrC p D E):PrC p C E:=by
 obtain⟨d,dz,e⟩:=i;obtain⟨d',dz',e'⟩:=j;exact⟨d*d',J7 hp dz dz',e.trans ((CgC.sc Cg.rfl e').trans (CgC.of (Rb _ _ _)))⟩
theorem eY(hp:P4 p)(dz:k%p≠0):∃ u,u%p≠0/\Cg p (u*k) 1:=by
 obtain⟨u,u1,u2,u3⟩:=J3 hp dz;refine⟨u,by rw[Bj (by omega) u2];omega,?_⟩
 show u*k%p=1%p;rw[Gc,u3,Bj (by decide) (by have:=hp.lo;omega)]
theorem PrC.symm(hp:P4 p)(i:PrC p C D):PrC p D C:=by
 obtain⟨d,dz,e⟩:=i;obtain⟨u,uz,o⟩:=eY hp dz;refine⟨u,uz,?_⟩;have q:=CgC.sc (k:=u) (k':=u) Cg.rfl e;rw[Rb]at q;exact(q.trans ((CgC.sc o CgC.rfl).trans (CgC.of (QF D)))).symm
theorem PrC.pb(i:PrC p C D):PrC p (OvC.pb C a b c) (OvC.pb D a b c):=by
 obtain⟨d,dz,e⟩:=i;exact⟨d,dz,(iQ e CgR.rfl CgR.rfl CgR.rfl).trans (CgC.of (iP d D a b c))⟩
def InC(p:Ah)(C:C6):Prop:=∀ x∈C.l,0<=x/\x<p
end
structure BC (C:C6):Prop where
 b0:Bd 10 C.c0
 b1:Bd 10 C.c1
 b2:Bd 10 C.c2
 b3:Bd 10 C.c3
 b4:Bd 10 C.c4
 b5:Bd 10 C.c5
theorem InC.b{C:C6}(hp:P4 p)(h:InC p C):BC C:=by
 have k:∀ x∈C.l,Bd 10 x:=λx hx=>kK hp (h x hx).1 (h x hx).2
 exact⟨k _ (by simp[C6.l]),k _ (by simp[C6.l]),k _ (by simp[C6.l]),k _ (by simp[C6.l]),k _ (by simp[C6.l]),k _ (by simp[C6.l])⟩
noncomputable def t0(p:Ah)(C:C6):R3:=(2*C.c0%p,C.c3,C.c4)
noncomputable def t1(p:Ah)(C:C6):R3:=(C.c3,2*C.c1%p,C.c5)
noncomputable def t2(p:Ah)(C:C6):R3:=(C.c4,C.c5,2*C.c2%p)
section
variable{Z:Gam}{ns:Ac Ah}{p at_:Ah}{φ:Ah->Ah}
end
def Pr(p:Ah)(x y:R3):Prop:=∃ d,d%p≠0/\CgR p x (FJ d y)
section
variable{p:Ah}{a b c x y z f g h:R3}{k:Ah}
theorem Rc(x:R3):FJ 1 x=x:=by unfold FJ;simp only[DG]
theorem Pr.rfl(hp:P4 p):Pr p x x:=⟨1,hp.o1,CgR.of (Rc x).symm⟩
theorem Pr.trans(hp:P4 p)(i:Pr p x y)(j:Pr p y z):Pr p x z:=by
 obtain⟨d,dz,e⟩:=i;obtain⟨d',dz',e'⟩:=j;exact⟨d*d',J7 hp dz dz',e.trans ((CgR.sc Cg.rfl e').trans (CgR.of (RY _ _ _)))⟩
theorem Pr.symm(hp:P4 p)(i:Pr p x y):Pr p y x:=by
 obtain⟨d,dz,e⟩:=i;obtain⟨u,u1,u2,u3⟩:=J3 hp dz;have uz:u%p≠0:=by rw[Bj (by omega) u2];omega
 have o:Cg p (u*d) 1:=by
  show u*d%p=1%p;rw[Gc,u3,Bj (by decide) (by have:=hp.lo;omega)]
 refine⟨u,uz,?_⟩;have q:=CgR.sc (k:=u) (k':=u) Cg.rfl e;rw[RY]at q;exact(q.trans ((CgR.sc o CgR.rfl).trans (CgR.of (Rc y)))).symm
theorem kU{a' b' c' x':R3}(ha:CgR p a a')(hb:CgR p b b')(hc:CgR p c c')(hx:CgR p x x'):CgR p (ap a b c x) (ap a' b' c' x'):=⟨Iy ha hx,Iy hb hx,Iy hc hx⟩
theorem Pr.ap(i:Pr p x y):Pr p (OvC.ap a b c x) (OvC.ap a b c y):=by
 obtain⟨d,dz,e⟩:=i;exact⟨d,dz,(kU CgR.rfl CgR.rfl CgR.rfl e).trans (CgR.of (kT a b c y d))⟩
end
noncomputable def tri(g:R3):Ac Ah:=[g.1,g.2.1,g.2.2]
section
variable{p:Ah}{a b c a' b' c' f0 f1 f2 f3 g0 g1 g2 g3 h0 h1 h2 h3:R3}
end
section
variable{Z:Gam}{ns:Ac Ah}{p:Ah}
end
def Li(Z:Gam)(mid:Af)(ns:Ac Ah):Prop:=∀ k:Ah,0<=k->∃ m,0<=m/\Z.F mid [scr ns,.int k]=.ok (.int m)
section
variable{Z:Gam}{ns:Ac Ah}{mid:Af}{p:Ah}{a b c:R3}{s2 s4 s5 s6 s7 s8:Sl}
end
theorem cX(h:1<p):CT p [0,0,1]=Aa 1:=by
 simp[CT,Bj (by decide:(0:Ah)<=1) h]
theorem kG(h:1<p)(z:Ah):CT p [0,1,z]=Aa 1:=by
 simp[CT,Bj (by decide:(0:Ah)<=1) h]
theorem lD(h:1<p)(y z:Ah):CT p [1,y,z]=Aa 1:=by
 simp[CT,Bj (by decide:(0:Ah)<=1) h]
section
variable{Z:Gam}{ns:Ac Ah}{p:Ah}{C:C6}{s3 s4 s5 s6 s7 s8:Sl}
end
noncomputable def JM:Ss:=(.cons (.asg 2 Ad (.bin .FloorDiv (.var 2) (.int 1000033))) .nil)
noncomputable def JL:Df:=⟨4,Ad,(.cons (.asg 2 Ad (.int 0)) (.cons (.ife (.cmp .Gt (.bi .len (.cons (.var 0) .nil)) (.int 0)) (.cons (.asg 2 Ad (.idx (.var 0) (.bin .Mod (.var 1) (.bi .len (.cons (.var 0) .nil))))) .nil) .nil) (.cons (.ife (.cmp .Eq (.bin .Mod (.bi .len (.cons (.var 0) .nil)) (.int 2)) (.int 0)) (.cons (.fors 3 (.rng (.bi .min (.cons (.int 60) (.cons (.bin .FloorDiv (.var 1) (.bi .max (.cons (.int 1) (.cons (.bi .len (.cons (.var 0) .nil)) .nil)))) .nil)))) JM) (.cons (.ret (.bin .Mod (.var 2) (.int 1000033))) .nil)) .nil) (.cons (.ret (.bin .Mod (.bin .Mult (.bin .Mod (.bin .Mult (.bin .Add (.bin .Add (.bin .Mod (.var 2) (.int 1000003)) (.bin .Mult (.int 7919) (.var 1))) (.int 11)) (.int 48271)) (.int 1000033)) (.int 69621)) (.int 1000033))) .nil))))⟩
section
variable{Z:Gam}{ns:Ac Ah}
theorem Xo(k x:Ah)(n:Af):∃ y s3,Cd (CN Z 3 JM) (EB 0 n) [sh (scr ns),si k,si x,Ae]=.next [sh (scr ns),si k,si y,s3]:=by
 obtain⟨U',e,y,s3,rfl⟩:=P6 (body:=CN Z 3 JM) (λU=>∃ y s3,U=[sh (scr ns),si k,si y,s3]) (EB 0 n) [sh (scr ns),si k,si x,Ae] ⟨x,Ae,rfl⟩ (by
  rintro z hz U ⟨y,s3,rfl⟩;obtain⟨j,_,rfl⟩:=Xr hz;exact⟨[sh (scr ns),si k,si (y/1000033),si (0+(j:Ah))],by simp[CN,JM],_,_,rfl⟩)
 exact⟨y,s3,e⟩
theorem dL(Z:Gam)(ns:Ac Ah)(hl:ns.length<=63)(k:Ah)(k0:0<=k):∃ m,0<=m/\JL.run Z [scr ns,.int k]=.ok (.int m):=by
 have m1:Ev 7919 k=Ab:=JR (by decide) (by decide)
 have m2:∀ x,Ev x 48271=Ab:=λx=>Nb (by decide) (by decide)
 have m3:∀ x,Ev x 69621=Ab:=λx=>Nb (by decide) (by decide)
 generalize hn:(ns.length:Ah)=n;have n0:0<=n:=by omega
 have n1:n<=63:=by omega
 have len:biD .len [scr ns]=.ok (.int n):=by rw[<-hn];show R.ok (D.int ((ns.map D.int).length:Af))=_;rw[BO]
 have fin:∀ x hi:Ah,0<=hi->hi<=60->∃ y s3,Om Z 3 JM [sh (scr ns),si k,si x,Ae] (DJ 0 hi)=.next [sh (scr ns),si k,si y,s3]:=λx hi h0 h1=>by
  rw[Mi h0 (by omega)]
  exact Xo (Z:=Z) (ns:=ns) k x hi.toNat
 have mx:0<(if 1<n then n else 1)/\(if 1<n then n else 1)<1073741824:=by split<;>omega
 generalize hM:(if 1<n then n else 1)=M at mx
 have hi:∀ q:Ah,0<=q->0<=(if q<60 then q else 60)/\(if q<60 then q else 60)<=60:=λq h=>by split<;>omega
 have q0:0<=k/M:=Tz k0 (by omega)
 obtain⟨u1,u2⟩:=hi _ q0;by_cases hp:0<n
 .have r0:0<=k%n:=Bx _ (by omega)
  have r1:k%n<ns.length:=by rw[hn];exact BM _ hp
  have g:=ZW r0 r1;generalize ns.getD (k%n).toNat 0=x at g;by_cases h2:n%2=0
  .obtain⟨y,s3,e⟩:=fin x _ u1 u2;refine⟨y%1000033,Bx _ (by decide),?_⟩
   have gx:Cy (scr ns) (.int (k%n))=.ok (.int x):=g;simp[JL,Df.run,B5,len,hp,gx,h2,hM,mx.1,mx.2,e]
  .refine⟨((x%1000003+7919*k+11)*48271%1000033)*69621%1000033,Bx _ (by decide),?_⟩
   have gx:Cy (scr ns) (.int (k%n))=.ok (.int x):=g;simp[JL,Df.run,B5,len,hp,gx,h2,m1,m2,m3]
 .have z:n=0:=by omega
  subst z;obtain⟨y,s3,e⟩:=fin 0 _ u1 u2;refine⟨y%1000033,Bx _ (by decide),?_⟩
  have hM':M=1:=by rw[<-hM];rfl
  subst hM';simp at e;simp[JL,Df.run,B5,len,e]
end
section
variable{Z:Gam}{ns:Ac Ah}{p:Ah}{C:C6}{s3 s4 s5 s6 s7 s8:Sl}
end
def NF(p:Ah)(x:R3):Prop:=In3 p x/\CT p (tri x)=Aa 1
noncomputable def ptI(p n:Ah):R3:=if n=0 then (0,0,1) else if n<=p then (0,1,n-1) else (1,(n-p-1)/p,(n-p-1)%p)
theorem iJ{n:Ah}(hp:P4 p)(h0:0<=n)(h1:n<p*p+p+1):NF p (ptI p n):=by
 have p1:1<p:=by have:=hp.lo;omega
 have p0:=hp.pos;unfold ptI;by_cases z:n=0
 .rw[AE z];exact⟨⟨⟨by decide,p0⟩,⟨by decide,p0⟩,⟨by decide,p1⟩⟩,cX p1⟩
 .rw[AO z];by_cases z1:n<=p
  .rw[AE z1];exact⟨⟨⟨TC 0,p0⟩,⟨(by decide:(0:Ah)<=1),p1⟩,⟨by show 0<=n-1;omega,by show n-1<p;omega⟩⟩,kG p1 _⟩
  .rw[AO z1];have d0:0<=(n-p-1)/p:=Tz (by omega) (by omega)
   have d1:(n-p-1)/p<p:=by rw[Int.ediv_lt_iff_lt_mul p0];omega
   exact⟨⟨⟨(by decide:(0:Ah)<=1),p1⟩,⟨d0,d1⟩,⟨Bx _ (by omega),BM _ p0⟩⟩,lD p1 _ _⟩
noncomputable def q4(w:Af)(k:Ah)(y:R3):Ah:=match w with
  |0=>y.1*y.2.2-y.2.1*y.2.1
  |1=>y.1*y.1
  |2=>y.1*y.2.1
  |_=>y.1*y.1-k*(y.2.1*y.2.1)
section
variable{Z:Gam}{p i j k d N:Ah}{PP x y u:D}{RL:Ac D}{s t s' t' v:Sl}
end
section
variable{Z:Gam}{p:Ah}{pts:Ac R3}
end
noncomputable def MG:Df:=⟨2,Ad,(.cons (.ret (.idx (.lst (.cons (.int 3) (.cons (.int 5) (.cons (.int 7) (.cons (.int 11) .nil))))) (.bin .Mod (.bin .FloorDiv (.call 38 (.cons (.var 0) (.cons (.var 1) .nil))) (.int 16)) (.int 4)))) .nil)⟩
def fO(Z:Gam)(ns:Ac Ah):Prop:=∀ k,0<=k->∃ p,P4 p/\Z.F 39 [scr ns,.int k]=.ok (.int p)
theorem dI(h:Li Z 38 ns)(k:Ah)(k0:0<=k):∃ p,P4 p/\MG.run Z [scr ns,.int k]=.ok (.int p):=by
 obtain⟨m,m0,e⟩:=h k k0;refine⟨_,dR (m/16),?_⟩;generalize scr ns=S at *;simp[MG,Df.run,B5,e,Xc]
noncomputable def JO:Df:=⟨2,Ad,(.cons (.asg 0 Ad (.bin .Mod (.var 0) (.bin .Add (.bin .Add (.bin .Mult (.var 1) (.var 1)) (.var 1)) (.int 1)))) (.cons (.ife (.cmp .Eq (.var 0) (.int 0)) (.cons (.ret (.tup (.cons (.int 0) (.cons (.int 0) (.cons (.int 1) .nil))))) .nil) .nil) (.cons (.ife (.cmp .LtE (.var 0) (.var 1)) (.cons (.ret (.tup (.cons (.int 0) (.cons (.int 1) (.cons (.bin .Sub (.var 0) (.int 1)) .nil))))) .nil) .nil) (.cons (.ret (.tup (.cons (.int 1) (.cons (.bin .FloorDiv (.bin .Sub (.bin .Sub (.var 0) (.var 1)) (.int 1)) (.var 1)) (.cons (.bin .Mod (.bin .Sub (.bin .Sub (.var 0) (.var 1)) (.int 1)) (.var 1)) .nil))))) .nil))))⟩
def RQ(Z:Gam):Prop:=∀(p n:Ah),P4 p->∃ x,NF p x/\Z.F 40 [.int n,.int p]=.ok (Bb Ab x)
theorem dC(Z:Gam)(p n:Ah)(hp:P4 p):∃ x,NF p x/\JO.run Z [.int n,.int p]=.ok (Bb Ab x):=by
 have pp:Ev p p=Ab:=JR (by have:=hp.lo;omega) (by have:=hp.hi;omega)
 have p0:=hp.pos;have ph:=hp.hi;have N0:0<p*p+p+1:=by have:=Int.mul_pos p0 p0;omega
 have h0:=Bx n (Int.ne_of_gt N0);have h1:=BM n N0;have pb:p<1073741824:=by omega
 refine⟨ptI p (n%(p*p+p+1)),iJ hp h0 h1,?_⟩;generalize hr:n%(p*p+p+1)=r at *;unfold ptI;by_cases z0:r=0
 .rw[AE z0];simp[JO,Df.run,B5,pp,N0,hr,z0];rfl
 .rw[AO z0];by_cases z1:r<=p
  .rw[AE z1];simp[JO,Df.run,B5,pp,N0,hr,z0,z1];rfl
  .rw[AO z1];simp[JO,Df.run,B5,pp,N0,hr,z0,z1,p0,pb];rfl
noncomputable def sp7:Ag:=Ay " "
noncomputable def dg(n:Af):Ag:=if n<10 then ⟨#[48+n]⟩ else ⟨#[49,48]⟩
theorem bV:∀ n:Af,n<11->Ay (toString (n:Ah))=dg n:=by decide+kernel
theorem fL:∀ a:Af,a<11->∀ b:Af,b<11->(dg a==dg b)=(a==b):=by decide+kernel
noncomputable def br0(s:Ai):Ag:=if s=Ab then Ay "[" else Ay "("
noncomputable def br1(s:Ai):Ag:=if s=Ab then Ay "]" else Ay ")"
noncomputable def jn(a b c:Af):Ag:=Ib sp7 [dg a,dg b,dg c]
noncomputable def tx(s:Ai)(a b c:Af):Ag:=br0 s++jn a b c++br1 s
noncomputable def isS(r:R D)(x:Ag):Ai:=match r with
  |.ok (.str y)=>y==x
  |_=>Ad
theorem Ro{r:R D}{x:Ag}(h:isS r x=Ab):r=.ok (.str x):=by
 unfold isS at h;split at h
 .rw[eq_of_beq h]
 .cases h
noncomputable def tOk(a b c:Af):Ai:=Hy sp7 [dg a,dg b,dg c]&&(Er (jn a b c) sp7==[dg a,dg b,dg c])&&HY (jn a b c) sp7&&Co (jn a b c).length 10
noncomputable def bOk(s:Ai)(a b c:Af):Ai:=(FF (tx s a b c) (Aa 1) (Aa (-1))==jn a b c)&&Co (tx s a b c).length 20&&isS (Cy (.str (tx s a b c)) (.int 0)) (br0 s)&&isS (Cy (.str (tx s a b c)) (.int (-1))) (br1 s)
theorem gA:((BR 11).all λa=>(BR 11).all λb=>(BR 11).all λc=>tOk a b c&&(bOk Ad a b c&&bOk Ab a b c))=Ab:=by decide+kernel
noncomputable def L3:E:=(.bi .str (.cons (.var 1) .nil))
noncomputable def MV:Df:=⟨2,Ad,(.cons (.ret (.bi .sjoin (.cons (.str (Ay " ")) (.cons (.comp L3 1 (.e (.var 0)) Dx) .nil)))) .nil)⟩
noncomputable def KC:Ss:=(.cons (.ife (.cmp .Eq (.var 1) (.bi .str (.cons (.var 2) .nil))) (.cons (.ret (.var 2)) .nil) .nil) .nil)
noncomputable def L4:Df:=⟨3,Ad,(.cons (.fors 2 (.rng (.var 0)) KC) (.cons (.ret .non) .nil))⟩
noncomputable def LW:E:=(.call 33 (.cons (.var 0) (.cons (.var 3) .nil)))
noncomputable def L6:Df:=⟨4,Ad,(.cons (.asg 2 Ad (.comp LW 3 (.e (.var 1)) Dx)) (.cons (.ife (.cmp .In .non (.var 2)) (.cons (.ret .non) .nil) .nil) (.cons (.ret (.var 2)) .nil)))⟩
noncomputable def KU:Df:=⟨5,Ad,(.cons (.asg 3 Ad (.call 34 (.cons (.var 0) (.cons (.bi .ssplit (.cons (.sl (.var 1) (.int 1) (.un .USub (.int 1))) (.cons (.str (Ay " ")) .nil))) .nil)))) (.cons (.ife (.or (.cons (.cmp .Is (.var 3) .non) (.cons (.cmp .NotEq (.bi .len (.cons (.var 3) .nil)) (.int 3)) (.cons (.no (.bi .any (.cons (.var 3) .nil))) .nil)))) (.cons (.rais 106 (.cons (.var 2) .nil)) .nil) .nil) (.cons (.asg 4 Ad (.bin .Add (.idx (.var 1) (.int 0)) (.idx (.var 1) (.un .USub (.int 1))))) (.cons (.ife (.cmp .Eq (.var 4) (.str (Ay "()"))) (.cons (.ret (.mkn 1 (.cons (.var 0) (.cons (.var 3) .nil)))) .nil) .nil) (.cons (.ife (.cmp .Eq (.var 4) (.str (Ay "[]"))) (.cons (.ret (.mkn 2 (.cons (.var 0) (.cons (.var 3) .nil)))) .nil) .nil) (.cons (.rais 106 (.cons (.var 2) .nil)) .nil))))))⟩
noncomputable def Mq:Df:=⟨2,Ad,(.cons (.ret (.call 35 (.cons (.var 0) (.cons (.var 1) (.cons (.int 0) .nil))))) .nil)⟩
noncomputable def Mc:E:=(.call 35 (.cons (.var 0) (.cons (.var 3) (.cons (.var 2) .nil))))
noncomputable def Mr:Df:=⟨4,Ab,(.cons (.ret (.compT Mc [2,3] (.enm (.var 1)) Dx)) .nil)⟩
noncomputable def MW:Df:=⟨3,Ad,(.cons (.ife (.or (.cons (.cmp .NotEq (.iso (.var 0) 1) (.cmp .Eq (.var 1) (.int 0))) (.cons (.cmp .NotEq (.iso (.var 0) 2) (.cmp .Eq (.var 1) (.int 1))) .nil))) (.cons (.ret (.bl Ad)) .nil) .nil) (.cons (.ret (.call 19 (.cons (.meth (Ay "told") [(1,920),(2,920)] (.var 0)) (.cons (.var 2) .nil)))) .nil))⟩
noncomputable def LY:E:=(.bi .str (.cons (.var 3) .nil))
noncomputable def Mg:Df:=⟨4,Ad,(.cons (.asg 2 Ad (.bi .sjoin (.cons (.str (Ay " ")) (.cons (.comp LY 3 (.e (.var 1)) Dx) .nil)))) (.cons (.ret (.bin .Add (.bin .Add (.idx (.lst (.cons (.str (Ay "(")) (.cons (.str (Ay "[")) .nil))) (.var 0)) (.var 2)) (.idx (.lst (.cons (.str (Ay ")")) (.cons (.str (Ay "]")) .nil))) (.var 0)))) .nil))⟩
noncomputable def Mb:Df:=⟨1,Ad,(.cons (.ret (.ofl (.var 0) (Ay "triple"))) .nil)⟩
noncomputable def Md:Df:=⟨1,Ad,(.cons (.ret (.bin .Add (.bin .Add (.str (Ay "(")) (.call 25 (.cons (.ofl (.var 0) (Ay "triple")) .nil))) (.str (Ay ")")))) .nil)⟩
noncomputable def L7:Df:=⟨1,Ad,(.cons (.ret (.bin .Add (.bin .Add (.str (Ay "[")) (.call 25 (.cons (.ofl (.var 0) (Ay "triple")) .nil))) (.str (Ay "]")))) .nil)⟩
structure TxF (a b c:Af):Prop where
 jo:Hy sp7 [dg a,dg b,dg c]=Ab
 spl:Er (jn a b c) sp7=[dg a,dg b,dg c]
 spo:HY (jn a b c) sp7=Ab
 ln:(jn a b c).length<=10
 cut:∀ s,FF (tx s a b c) (Aa 1) (Aa (-1))=jn a b c
 tl:∀ s,(tx s a b c).length<=20
 i0:∀ s,Cy (.str (tx s a b c)) (.int 0)=.ok (.str (br0 s))
 i1:∀ s,Cy (.str (tx s a b c)) (.int (-1))=.ok (.str (br1 s))
theorem txf{a b c:Af}(ha:a<11)(hb:b<11)(hc:c<11):TxF a b c:=by
 have h:=gA;rw[Bz]at h;have h:=h a (Cf.mpr ha);rw[Bz]at h;have h:=h b (Cf.mpr hb);rw[Bz]at h;have h:=h c (Cf.mpr hc);rw[Al,Al]at h;obtain⟨h1,h2,h3⟩:=h;have g:∀ s,bOk s a b c=Ab:=λs=>by cases s with|false=>exact h2|true=>exact h3
 unfold tOk at h1;simp only[Al,AI,Ua]at h1;obtain⟨⟨⟨e1,e2⟩,e3⟩,e4⟩:=h1;have g':∀ s,((FF (tx s a b c) (Aa 1) (Aa (-1))=jn a b c/\(tx s a b c).length<=20)/\isS (Cy (.str (tx s a b c)) (.int 0)) (br0 s)=Ab)/\isS (Cy (.str (tx s a b c)) (.int (-1))) (br1 s)=Ab:=λs=>by
  have:=g s;unfold bOk at this;simp only[Al,AI,Ua]at this;exact this
 exact⟨e1,e2,e3,e4,λs=>(g' s).1.1.1,λs=>(g' s).1.1.2,λs=>Ro (g' s).1.2,λs=>Ro (g' s).2⟩
noncomputable def jq(q:R3):Ag:=jn q.1.toNat q.2.1.toNat q.2.2.toNat
noncomputable def tq(s:Ai)(q:R3):Ag:=tx s q.1.toNat q.2.1.toNat q.2.2.toNat
theorem Nz(hp:P4 p)(h:In3 p q):TxF q.1.toNat q.2.1.toNat q.2.2.toNat:=by
 have:=hp.hi;obtain⟨⟨a0,a1⟩,⟨b0,b1⟩,c0,c1⟩:=h;exact txf (by omega) (by omega) (by omega)
theorem K7(h0:0<=x)(h1:x<11):biD .str [.int x]=.ok (.str (dg x.toNat)):=by
 obtain⟨n,rfl⟩:=TB h0;show (if Km (n:Ah)=Ab then R.ok (D.str (Ay (toString (n:Ah)))) else .bad)=_
 have:Km (n:Ah)=Ab:=by unfold Km;simp;omega
 rw[AE this,bV n (by omega)]
 rfl
theorem QS(hp:P4 p)(h:In3 p q):biD .str [.int q.1]=.ok (.str (dg q.1.toNat))/\biD .str [.int q.2.1]=.ok (.str (dg q.2.1.toNat))/\biD .str [.int q.2.2]=.ok (.str (dg q.2.2.toNat)):=by
 have:=hp.hi;obtain⟨⟨a0,a1⟩,⟨b0,b1⟩,c0,c1⟩:=h;exact⟨K7 a0 (by omega),K7 b0 (by omega),K7 c0 (by omega)⟩
theorem R8(hp:P4 p)(h:In3 p q):biD .sjoin [.str (Ay " "),.lst [.str (dg q.1.toNat),.str (dg q.2.1.toNat),.str (dg q.2.2.toNat)]]=.ok (.str (jq q)):=by
 show (if Hy sp7 [dg q.1.toNat,dg q.2.1.toNat,dg q.2.2.toNat]=Ab then R.ok (D.str (Ib sp7 [dg q.1.toNat,dg q.2.1.toNat,dg q.2.2.toNat])) else .bad)=_
 rw[AE (Nz hp h).jo];rfl
theorem Rn(s:Ai):(br0 s).length=1/\(br1 s).length=1:=by cases s<;>exact⟨rfl,rfl⟩
theorem sz7(h:n<=1000):BY n=Ab:=Nat.ble_eq.mpr (by omega)
theorem Oq(hp:P4 p)(h:In3 p q)(s:Ai):CF .Add (.str (br0 s)) (.str (jq q))=.ok (.str (br0 s++jq q))/\CF .Add (.str (br0 s++jq q)) (.str (br1 s))=.ok (.str (tq s q)):=by
 have t:=Nz hp h;have l:=Rn s;have lj:(jq q).length<=10:=t.ln;have la:(br0 s++jq q).length=(br0 s).length+(jq q).length:=Array.size_append;rw[GE,GE,AE (sz7 (by omega)),AE (sz7 (by omega))]
 exact⟨rfl,rfl⟩
section
variable{Z:Gam}
def Nw(Z:Gam):Prop:=∀(p:Ah)(q:R3),P4 p->In3 p q->Z.F 25 [Bb Ab q]=.ok (.str (jq q))
theorem dF(Z:Gam)(p:Ah)(q:R3)(hp:P4 p)(h:In3 p q):MV.run Z [Bb Ab q]=.ok (.str (jq q)):=by
 obtain⟨s0,s1,s2⟩:=QS hp h;have e:BX (cG Z [sh (Bb Ab q),Ae] 1 Dx) (cF Z [sh (Bb Ab q),Ae] 1 L3) [.int q.1,.int q.2.1,.int q.2.2]=.ok [.str (dg q.1.toNat),.str (dg q.2.1.toNat),.str (dg q.2.2.toNat)]:=by
  simp[BX,cG,cF,Dx,L3,s0,s1,s2]
 have j:=R8 hp h;have sq:=No Ab q;generalize Bb Ab q=Q at *;simp[MV,Df.run,B5,sq,e,j]
noncomputable def sI(s:Ai):Ah:=b2i s
def LA(Z:Gam):Prop:=∀(p:Ah)(s b:Ai)(q:R3),P4 p->In3 p q->Z.F 42 [.int (sI s),Bb b q]=.ok (.str (tq s q))
theorem cE(s:Ai):Cy (.lst [.str (Ay "("),.str (Ay "[")]) (.int (sI s))=.ok (.str (br0 s)):=by cases s<;>rfl
theorem cB(s:Ai):Cy (.lst [.str (Ay ")"),.str (Ay "]")]) (.int (sI s))=.ok (.str (br1 s)):=by cases s<;>rfl
theorem hZ(Z:Gam)(p:Ah)(s b:Ai)(q:R3)(hp:P4 p)(h:In3 p q):Mg.run Z [.int (sI s),Bb b q]=.ok (.str (tq s q)):=by
 obtain⟨s0,s1,s2⟩:=QS hp h;have e:BX (cG Z [si (sI s),sh (Bb b q),Ae,Ae] 3 Dx) (cF Z [si (sI s),sh (Bb b q),Ae,Ae] 3 LY) [.int q.1,.int q.2.1,.int q.2.2]=.ok [.str (dg q.1.toNat),.str (dg q.2.1.toNat),.str (dg q.2.2.toNat)]:=by
  simp[BX,cG,cF,Dx,LY,s0,s1,s2]
 have j:=R8 hp h;have sq:=No b q;obtain⟨a1,a2⟩:=Oq hp h s;have i0:=cE s;have i1:=cB s;generalize Bb b q=Q at *;generalize sI s=S at *;simp[Mg,Df.run,B5,sq,e,j,i0,i1,a1,a2,-GE]
noncomputable def cl7(s:Ai):Af:=if s=Ab then 2 else 1
noncomputable def obD(p:Ah)(s:Ai)(q:R3):D:=.obj (cl7 s) [("p",.int p),("triple",Bb Ab q)]
def QN(Z:Gam):Prop:=∀(p:Ah)(s:Ai)(q:R3),Z.F 920 [obD p s q]=.ok (Bb Ab q)
theorem NM(p:Ah)(s:Ai)(q:R3):ofD (obD p s q) (Ay "triple")=.ok (Bb Ab q):=rfl
theorem Yl(Z:Gam)(p:Ah)(s:Ai)(q:R3):Mb.run Z [obD p s q]=.ok (Bb Ab q):=by
 have e:=NM p s q;generalize obD p s q=o at *;simp[Mb,Df.run,B5,e]
def IC(Z:Gam):Prop:=∀(p:Ah)(s:Ai)(q:R3),P4 p->In3 p q->Z.F (if s=Ab then 932 else 931) [obD p s q]=.ok (.str (tq s q))
theorem iB(hr:Nw Z)(p:Ah)(q:R3)(hp:P4 p)(h:In3 p q):Md.run Z [obD p Ad q]=.ok (.str (tq Ad q)):=by
 have e:=NM p Ad q;have r:=hr p q hp h;obtain⟨a1,a2⟩:=Oq hp h Ad;have b0:br0 Ad=Ay "(" := rfl
 have b1:br1 Ad=Ay ")" := rfl
 rw[b0]at a1 a2;rw[b1]at a2;generalize obD p Ad q=o at *;generalize Bb Ab q=Q at *;simp[Md,Df.run,B5,e,r,a1,a2,-GE]
theorem iA(hr:Nw Z)(p:Ah)(q:R3)(hp:P4 p)(h:In3 p q):L7.run Z [obD p Ab q]=.ok (.str (tq Ab q)):=by
 have e:=NM p Ab q;have r:=hr p q hp h;obtain⟨a1,a2⟩:=Oq hp h Ab;have b0:br0 Ab=Ay "[" := rfl
 have b1:br1 Ab=Ay "]" := rfl
 rw[b0]at a1 a2;rw[b1]at a2;generalize obD p Ab q=o at *;generalize Bb Ab q=Q at *;simp[L7,Df.run,B5,e,r,a1,a2,-GE]
def Fm(p:Ah)(q a:R3):Prop:=∃ l u,CT p (tri q)=Aa l/\Ho p l u/\fmI p u (tri q)=tri a
def Sy(Z:Gam):Prop:=∀(p:Ah)(b:Ai)(q a:R3),P4 p->Fm p q a->Z.F 910 [.int p,Bb b q]=.ok (.tup [.int p,Bb Ab a])
theorem jZ(hf:M0 Z)(b:Ai)(hp:P4 p)(h:Fm p q a):Z.F 17 [.int p,Bb b q]=.ok (Bb Ab a):=by
 obtain⟨l,u,h1,h2,h3⟩:=h;have e:=hf p b (tri q) l u hp h1 h2;rw[h3]at e;exact e
theorem iE(hf:M0 Z)(p:Ah)(b:Ai)(q a:R3)(hp:P4 p)(h:Fm p q a):inC.run Z [.int p,Bb b q]=.ok (.tup [.int p,Bb Ab a]):=by
 have e:=jZ hf b hp h;generalize Bb b q=Q at *;generalize Bb Ab a=A at *;simp[inC,Df.run,B5,e]
def Kg(Z:Gam):Prop:=∀(p:Ah)(s b:Ai)(q a:R3),P4 p->Fm p q a->Z.F (900+cl7 s) [.int p,Bb b q]=.ok (obD p s a)
theorem Sg(hi:Sy Z)(c:Af)(p:Ah)(b:Ai)(q a:R3)(hp:P4 p)(h:Fm p q a):(mkC c).run Z [.int p,Bb b q]=.ok (.obj c [("p",.int p),("triple",Bb Ab a)]):=by
 have e:=hi p b q a hp h;have m:DT c (.tup [.int p,Bb Ab a])=.ok (.obj c [("p",.int p),("triple",Bb Ab a)]):=rfl;generalize Bb b q=Q at *;generalize Bb Ab a=A at *;simp[mkC,Df.run,B5,e,m,noX]
end
section
variable{Z:Gam}
theorem Su{body:D->Rho->O}(I:Rho->Prop)(x:Af):∀(l:Ac Af),(∀ j∈l,∀ U,I U->(j=x->body (.int (j:Ah)) U=.ret (.int (x:Ah)) Ad)/\(j≠x->∃ U',body (.int (j:Ah)) U=.next U'/\I U'))->x∈l->∀ U,I U->Cd body (l.map fun(k:Af)=>D.int (k:Ah)) U=.ret (.int (x:Ah)) Ad
 |[],_,hx,_,_=>absurd hx (by simp)
 |j::l,h,hx,U,hI=>by
  obtain⟨h1,h2⟩:=h j (AB ..) U hI;show (body (.int (j:Ah)) U).turn _=_;by_cases e:j=x
  .rw[h1 e];rfl
  .obtain⟨U',e1,I'⟩:=h2 e;rw[e1];exact Su I x l (λk hk=>h k (Ax _ hk)) ((AG.mp hx).resolve_left (CV e)) U' I'
def Sw(Z:Gam):Prop:=∀(p x:Ah),P4 p->0<=x->x<p->Z.F 33 [.int p,.str (dg x.toNat)]=.ok (.int x)
theorem iC(Z:Gam)(p x:Ah)(hp:P4 p)(h0:0<=x)(h1:x<p):L4.run Z [.int p,.str (dg x.toNat)]=.ok (.int x):=by
 have ph:=hp.hi;have pp:=hp.pos;obtain⟨n,rfl⟩:=TB h0;have hn:n<11:=by omega
 have tn:((n:Ah)).toNat=n:=rfl;rw[tn];have rg:DJ 0 p=.ok ((BR p.toNat).map fun(k:Af)=>D.int (k:Ah)):=by
  rw[Mi (by omega) (by omega)]
  simp[EB]
 have key:=Su (body:=CN Z 2 KC) (λU=>∃ s,U=[si p,sh (.str (dg n)),s]) n (BR p.toNat) (by
  rintro j hj U ⟨s,rfl⟩;have hj':=Cf.mp hj;have jl:j<11:=by omega
  have st:biD .str [.int (j:Ah)]=.ok (.str (dg j)):=K7 (by omega) (by omega)
  have eq:(dg n==dg j)=(n==j):=fL n hn j jl;refine⟨λe=>?_,λe=>⟨[si p,sh (.str (dg n)),si (j:Ah)],?_,_,rfl⟩⟩
  .subst e;generalize dg j=dj at *;simp[CN,KC,st,Dy]
  .have ne:dg n≠dg j:=λz=>by
    rw[z]at eq;have:(n==j)=Ab:=by rw[<-eq];simp
    exact e (by have:=eq_of_beq this;exact this.symm)
   generalize dg j=dj at *;generalize dg n=dn at *;simp[CN,KC,st,ne]) (Cf.mpr (by omega)) [si p,sh (.str (dg n)),Ae] ⟨_,rfl⟩
 generalize dg n=dn at *;simp[L4,Df.run,B5,rg,key]
def RS(Z:Gam):Prop:=∀(p:Ah)(q:R3),P4 p->In3 p q->Z.F 34 [.int p,.lst [.str (dg q.1.toNat),.str (dg q.2.1.toNat),.str (dg q.2.2.toNat)]]=.ok (Bb Ad q)
theorem dE(hr:Sw Z)(p:Ah)(q:R3)(hp:P4 p)(h:In3 p q):L6.run Z [.int p,.lst [.str (dg q.1.toNat),.str (dg q.2.1.toNat),.str (dg q.2.2.toNat)]]=.ok (Bb Ad q):=by
 have e1:=hr p q.1 hp h.1.1 h.1.2;have e2:=hr p q.2.1 hp h.2.1.1 h.2.1.2;have e3:=hr p q.2.2 hp h.2.2.1 h.2.2.2;generalize dg q.1.toNat=d1 at *;generalize dg q.2.1.toNat=d2 at *;generalize dg q.2.2.toNat=d3 at *;have e:BX (cG Z [si p,sh (.lst [.str d1,.str d2,.str d3]),Ae,Ae] 3 Dx) (cF Z [si p,sh (.lst [.str d1,.str d2,.str d3]),Ae,Ae] 3 LW) [.str d1,.str d2,.str d3]=.ok [.int q.1,.int q.2.1,.int q.2.2]:=by
  simp[BX,cG,cF,Dx,LW,e1,e2,e3]
 have ci:Br .In .non (.lst [.int q.1,.int q.2.1,.int q.2.2])=.ok (.bl Ad):=rfl;simp[L6,Df.run,B5,e,ci];rfl
def Nx(Z:Gam):Prop:=∀(p r:Ah)(s:Ai)(q a:R3),P4 p->In3 p q->Fm p q a->Z.F 35 [.int p,.str (tq s q),.int r]=.ok (obD p s a)
theorem lT(hi:In3 p q)(h:Fm p q a):biD .any [Bb Ad q]=.ok (.bl Ab):=by
 obtain⟨l,u,h1,_⟩:=h;have:(q.1 != 0||(q.2.1 != 0||(q.2.2 != 0||false)))=Ab:=by
  rw[<-Bool.not_eq_false];intro z;simp only[Bool.or_eq_false_iff,bne_eq_false_iff_eq]at z;have:CT p (tri q)=Ae:=Pk.mpr λx hx=>by
   simp only[tri,AG,CO,FK]at hx;rcases hx with rfl|rfl|rfl
   .rw[z.1];exact EX p
   .rw[z.2.1];exact EX p
   .rw[z.2.2.1];exact EX p
  rw[this]at h1;cases h1
 show R.ok (D.bl (q.1 != 0||(q.2.1 != 0||(q.2.2 != 0||false))))=_;rw[this]
theorem lQ:∀ s:Ai,(br0 s++br1 s=Ay "()")↔s=Ad:=by decide+kernel
theorem lP:∀ s:Ai,(br0 s++br1 s=Ay "[]")↔s=Ab:=by decide+kernel
theorem dH(hr:RS Z)(hm:Kg Z)(p r:Ah)(s:Ai)(q a:R3)(hp:P4 p)(h:In3 p q)(hf:Fm p q a):KU.run Z [.int p,.str (tq s q),.int r]=.ok (obD p s a):=by
 have t:=Nz hp h;have e1:=hr p q hp h;have an:=lT h hf;have mk:=hm p s Ad q a hp hf;have i0:Cy (.str (tq s q)) (.int 0)=.ok (.str (br0 s)):=t.i0 s;have i1:Cy (.str (tq s q)) (.int (-1))=.ok (.str (br1 s)):=t.i1 s;have sl:slD (.str (tq s q)) (Aa 1) (Aa (-1))=.ok (.str (jq q)):=by
  have hc:FF (tq s q) (Aa 1) (Aa (-1))=jq q:=t.cut s;have z1:BY (tq s q).length=Ab:=sz7 (by have:=t.tl s;exact BD this (by decide))
  have z2:BY (jq q).length=Ab:=sz7 (by have:=t.ln;exact BD this (by decide))
  show (if (BY (tq s q).length&&BY (FF (tq s q) (Aa 1) (Aa (-1))).length)=Ab then R.ok (D.str (FF (tq s q) (Aa 1) (Aa (-1)))) else .bad)=_
  rw[hc,z1,z2];rfl
 have sp:biD .ssplit [.str (jq q),.str (Ay " ")]=.ok (.lst [.str (dg q.1.toNat),.str (dg q.2.1.toNat),.str (dg q.2.2.toNat)]):=by
  have hs:Er (jq q) sp7=[dg q.1.toNat,dg q.2.1.toNat,dg q.2.2.toNat]:=t.spl;have ho:HY (jq q) sp7=Ab:=t.spo;show (if (!(sp7.length==0)&&HY (jq q) sp7)=Ab then R.ok (D.lst ((Er (jq q) sp7).map D.str)) else .bad)=_
  rw[hs,ho];rfl
 have ad:CF .Add (.str (br0 s)) (.str (br1 s))=.ok (.str (br0 s++br1 s)):=by
  rw[GE,AE (sz7 (by have:=Rn s;omega))]
 have c1:=lQ s;have c2:=lP s;have ne:¬ Ay "[]" = Ay "()" := by decide+kernel
 have ln:biD .len [Bb Ad q]=.ok (.int 3):=rfl;have is:Br .Is (Bb Ad q) .non=.ok (.bl Ad):=rfl;generalize tq s q=T at *;generalize jq q=J at *;generalize dg q.1.toNat=d1 at *;generalize dg q.2.1.toNat=d2 at *;generalize dg q.2.2.toNat=d3 at *;generalize br0 s++br1 s=BB at *;generalize br0 s=B0 at *;generalize br1 s=B1 at *;generalize Bb Ad q=Q at *;cases s with
 |false=>
  replace c1:=c1.mpr rfl;have mk:Z.F 901 [.int p,Q]=.ok (obD p Ad a):=mk;generalize obD p Ad a=o at *;simp[KU,Df.run,B5,sl,sp,e1,is,ln,an,i0,i1,ad,c1,mk,Dy,slE,-GE]
 |true=>
  replace c2:=c2.mpr rfl;have c1:¬ BB=Ay "()" := λz=>nomatch c1.mp z
  have mk:Z.F 902 [.int p,Q]=.ok (obD p Ab a):=mk;generalize obD p Ab a=o at *;simp[KU,Df.run,B5,sl,sp,e1,is,ln,an,i0,i1,ad,ne,c2,mk,Dy,slE,-GE]
def Lh(Z:Gam):Prop:=∀(p:Ah)(s:Ai)(q a:R3),P4 p->In3 p q->Fm p q a->Z.F 36 [.int p,.str (tq s q)]=.ok (obD p s a)
theorem dJ(hr:Nx Z)(p:Ah)(s:Ai)(q a:R3)(hp:P4 p)(h:In3 p q)(hf:Fm p q a):Mq.run Z [.int p,.str (tq s q)]=.ok (obD p s a):=by
 have e:=hr p 0 s q a hp h hf;generalize obD p s a=o at *;generalize tq s q=T at *;simp[Mq,Df.run,B5,e]
abbrev Th:=Ai×R3×Ah
noncomputable def obT(p:Ah)(t:Th):D:=obD p t.1 t.2.1
noncomputable def txT(φ:Th->R3)(t:Th):D:=.str (tq t.1 (φ t))
def RT(Z:Gam):Prop:=∀(p:Ah)(φ:Th->R3)(l:Ac Th),P4 p->(∀ t∈l,In3 p (φ t)/\Fm p (φ t) t.2.1)->Z.F 37 [.int p,.lst (l.map (txT φ))]=.ok (.lst (l.map (obT p)))
theorem Qa{g:D->R Ai}{f:D->R D}{φ ψ:Th->D}:∀(l:Ac Th)(j:Ah),(∀ t∈l,∀ i:Ah,g (.tup [.int i,φ t])=.ok Ab/\f (.tup [.int i,φ t])=.ok (ψ t))->BX g f (Cj j (l.map φ))=.ok (l.map ψ)
 |[],_,_=>rfl
 |t::l,j,h=>by
  obtain⟨h1,h2⟩:=h t (AB ..) j;show (g (.tup [.int j,φ t])).bind _=_;rw[h1,R.bind_ok,AE rfl,h2,R.bind_ok];show (BX g f (Cj (j+1) (l.map φ))).bind _=_;rw[Qa l (j+1) λy hy=>h y (Ax _ hy)]
  rfl
theorem dM(hr:Nx Z)(p:Ah)(φ:Th->R3)(l:Ac Th)(hp:P4 p)(hl:∀ t∈l,In3 p (φ t)/\Fm p (φ t) t.2.1):Mr.run Z [.int p,.lst (l.map (txT φ))]=.ok (.lst (l.map (obT p))):=by
 have e:∀ X:D,BX (cGT Z [si p,sh X,Ae,Ae] [2,3] Dx) (cFT Z [si p,sh X,Ae,Ae] [2,3] Mc) (Cj 0 (l.map (txT φ)))=.ok (l.map (obT p)):=λX=>Qa l 0 λt ht i=>by
  obtain⟨h1,h2⟩:=hl t ht;have e:=hr p i t.1 (φ t) t.2.1 hp h1 h2;have e':Z.F 35 [.int p,txT φ t,.int i]=.ok (obT p t):=e;generalize txT φ t=T at *;generalize obT p t=o at *;exact⟨rfl,by simp[cFT,Mc,DR,e']⟩
 generalize l.map (txT φ)=L at *;generalize l.map (obT p)=M at *;simp[Mr,Df.run,B5,e];rfl
def QO(Z:Gam):Prop:=∀ xs:Ac Ah,Z.F 19 [.tup (ds xs),.tup (ds xs)]=.ok (.bl Ab)
def Kh(Z:Gam):Prop:=∀(p:Ah)(s:Ai)(a:R3),Z.F 41 [obD p s a,.int (sI s),Bb Ab a]=.ok (.bl Ab)
theorem iD(ht:QN Z)(hs:QO Z)(p:Ah)(s:Ai)(a:R3):MW.run Z [obD p s a,.int (sI s),Bb Ab a]=.ok (.bl Ab):=by
 have e1:=ht p s a;have e2:Z.F 19 [Bb Ab a,Bb Ab a]=.ok (.bl Ab):=hs (tri a);have m:IE Z.F (Ay "told") [(1,920),(2,920)] (obD p s a)=.ok (Bb Ab a):=by
  cases s<;>exact e1
 have i1:Kn 1 (obD p s a)=.ok (.bl (!s)):=by cases s<;>rfl
 have i2:Kn 2 (obD p s a)=.ok (.bl s):=by cases s<;>rfl
 have c1:Br .Eq (.int (sI s)) (.int 0)=.ok (.bl (!s)):=by cases s<;>rfl
 have c2:Br .Eq (.int (sI s)) (.int 1)=.ok (.bl s):=by cases s<;>rfl
 have n:∀ b:Ai,Br .NotEq (.bl b) (.bl b)=.ok (.bl Ad):=by intro b;cases b<;>rfl
 have n1:=n s;have n2:=n (!s);generalize obD p s a=o at *;generalize Bb Ab a=A at *;have k0:(sI s==0)=!s:=by cases s<;>rfl
 have k1:(sI s==1)=s:=by cases s<;>rfl
 generalize sI s=S at *;simp[MW,Df.run,B5,i1,i2,k0,k1,m,e2]
end
noncomputable def KI:Ss:=(.cons (.asg 4 Ad (.call 38 (.cons (.var 0) (.cons (.var 3) .nil)))) (.cons (.app 2 (.tup (.cons (.bin .Mod (.var 4) (.int 2)) (.cons (.call 40 (.cons (.bin .FloorDiv (.var 4) (.int 2)) (.cons (.var 1) .nil))) (.cons (.bin .Add (.int 1) (.bin .Mod (.bin .FloorDiv (.var 4) (.int 512)) (.bin .Sub (.var 1) (.int 1)))) .nil))))) .nil))
noncomputable def Ma:E:=(.bin .Mod (.bin .Mult (.var 9) (.var 15)) (.var 1))
noncomputable def Ih:Ss:=(.cons (.app 5 (.meth (Ay "shown") [(1,931),(2,932)] (.idx (.lst (.cons (.mkn 1 (.cons (.var 1) (.cons (.var 8) .nil))) (.cons (.mkn 2 (.cons (.var 1) (.cons (.var 8) .nil))) .nil))) (.var 7)))) (.cons (.app 6 (.call 42 (.cons (.var 7) (.cons (.comp Ma 15 (.e (.var 8)) Dx) .nil)))) .nil))
noncomputable def L9:E:=(.call 42 (.cons (.var 16) (.cons (.var 17) .nil)))
noncomputable def Ig:Ss:=(.cons (.ife (.or (.cons (.no (.call 41 (.cons (.var 13) (.cons (.idx (.idx (.var 2) (.var 3)) (.int 0)) (.cons (.idx (.idx (.var 2) (.var 3)) (.int 1)) .nil))))) (.cons (.cmp .NotEq (.meth (Ay "shown") [(1,931),(2,932)] (.var 13)) (.idx (.var 5) (.var 3))) .nil))) (.cons (.ret (.bl Ad)) .nil) .nil) (.cons (.ife (.cmp .Eq (.bin .Mod (.var 3) (.int 5)) (.int 0)) (.cons (.asg 14 Ad (.call 36 (.cons (.var 1) (.cons (.idx (.var 10) (.var 3)) .nil)))) (.cons (.ife (.no (.call 41 (.cons (.var 14) (.cons (.idx (.idx (.var 2) (.var 3)) (.int 0)) (.cons (.idx (.idx (.var 2) (.var 3)) (.int 1)) .nil))))) (.cons (.ret (.bl Ad)) .nil) .nil) .nil)) .nil) .nil))
noncomputable def L8:Ss:=(.cons (.asg 11 Ad (.bi .list (.cons (.var 10) .nil))) (.cons (.asg 12 Ab (.call 37 (.cons (.var 1) (.cons (.var 11) .nil)))) (.cons (.ife (.or (.cons (.no (.isi (.var 12) [.list])) (.cons (.cmp .NotEq (.bi .len (.cons (.var 12) .nil)) (.bi .len (.cons (.var 2) .nil))) (.cons (.cmp .NotEq (.var 11) (.var 10)) .nil)))) (.cons (.ret (.bl Ad)) .nil) .nil) (.cons (.forO 12 [3,13] Ig) (.cons (.app 12 (.int 0)) (.cons (.ife (.cmp .NotEq (.bi .len (.cons (.call 37 (.cons (.var 1) (.cons (.var 11) .nil))) .nil)) (.bi .len (.cons (.var 2) .nil))) (.cons (.ret (.bl Ad)) .nil) .nil) .nil))))))
noncomputable def MF:Df:=⟨19,Ad,(.cons (.asg 1 Ad (.call 39 (.cons (.var 0) (.cons (.int 60) .nil)))) (.cons (.asg 2 Ab (.lst .nil)) (.cons (.fors 3 (.rng (.bin .Mod (.call 38 (.cons (.var 0) (.cons (.int 61) .nil))) (.int 31))) KI) (.cons (.asg 5 Ab (.lst .nil)) (.cons (.asg 6 Ab (.lst .nil)) (.cons (.rel 2) (.cons (.forT [7,8,9] (.e (.var 2)) Ih) (.cons (.rel 2) (.cons (.ife (.cmp .NotEq (.var 5) (.compT L9 [16,17,18] (.e (.var 2)) Dx)) (.cons (.ret (.bl Ad)) .nil) .nil) (.cons (.rel 5) (.cons (.rel 6) (.cons (.fors 10 (.e (.tup (.cons (.var 5) (.cons (.var 6) .nil)))) L8) (.cons (.ret (.bl Ab)) .nil)))))))))))))⟩
def Thv(p:Ah)(t:Th):Prop:=NF p t.2.1/\1<=t.2.2/\t.2.2<p
noncomputable def thD(t:Th):D:=.tup [.int (sI t.1),Bb Ab t.2.1,.int t.2.2]
noncomputable def scl(p:Ah)(t:Th):R3:=(t.2.2*t.2.1.1%p,t.2.2*t.2.1.2.1%p,t.2.2*t.2.1.2.2%p)
theorem NI(hp:P4 p):Ho p 1 1:=by
 have:=hp.lo;exact⟨by omega,by omega,Bj (by omega) (by omega)⟩
theorem Lk(hp:P4 p)(h:NF p a):Fm p a a:=by
 refine⟨1,1,h.2,NI hp,?_⟩;obtain⟨⟨⟨a0,a1⟩,⟨b0,b1⟩,c0,c1⟩,_⟩:=h;have e:∀ x:Ah,0<=x->x<p->1*(x%p)%p=x:=λx h0 h1=>by rw[DG,A4 _ (BL p),Bj h0 h1]
 simp only[fmI,tri,Ce,Hv,e _ a0 a1,e _ b0 b1,e _ c0 c1]
theorem Rs(hp:P4 p)(t:Th):In3 p (scl p t):=by
 have p0:=hp.pos;have f:∀ x:Ah,0<=x%p/\x%p<p:=λx=>⟨Bx _ (by omega),BM _ p0⟩
 exact⟨f _,f _,f _⟩
theorem fG{t:Th}(hp:P4 p)(h:Thv p t):Fm p (scl p t) t.2.1:=by
 obtain⟨hn,f1,f2⟩:=h;have hc:t.2.2%p≠0:=by rw[Bj (by omega) f2];omega
 have hl:(1:Ah)%p≠0:=hp.o1;have hf:∀ x:Ah,(t.2.2*x%p)%p=t.2.2*x%p:=λx=>A4 _ (BL p)
 obtain⟨u,h1,h2⟩:=Xp hp hc hl (NI hp) (f:=λx=>t.2.2*x%p) hf (tri t.2.1)
 have e:=MR hp hc (f:=λx=>t.2.2*x%p) hf (tri t.2.1)
 rw[hn.2]at e;obtain⟨l',u',g1,g2,g3⟩:=Lk hp hn;rw[hn.2]at g1;cases g1;have:u'=1:=O4 g2 (NI hp);subst this;exact⟨_,u,e,h1,h2.trans g3⟩
section
variable{Z:Gam}{ns:Ac Ah}{p:Ah}
theorem Z_0(hm:Li Z 38 ns)(ht:RQ Z)(hp:P4 p)(j:Af)(l:Ac Th)(hl:l.length<=100)(s3 s4:Sl):∃ t m,Thv p t/\CN Z 3 KI (.int (0+(j:Ah))) [sh (scr ns),si p,Aa (.lst (l.map thD),Ab),s3,s4,Ae,Ae,Ae,Ae,Ae,Ae,Ae,Ae,Ae,Ae,Ae,Ae,Ae,Ae]=.next [sh (scr ns),si p,Aa (.lst ((l++[t]).map thD),Ab),si j,si m,Ae,Ae,Ae,Ae,Ae,Ae,Ae,Ae,Ae,Ae,Ae,Ae,Ae,Ae]:=by
 obtain⟨m,m0,e⟩:=hm (j:Ah) (by omega)
 obtain⟨x,nx,e2⟩:=ht p (m/2) hp;have lo:=hp.lo;have hi:=hp.hi;have q0:1<p:=by omega
 have q1:p-1<1073741824:=by omega
 have r0:=Bx (m/512) (b:=p-1) (by omega)
 have r1:=BM (m/512) (b:=p-1) (by omega)
 have es:sI (decide (m%2=1))=m%2:=by
  unfold sI b2i;by_cases z:m%2=1
  .simp[z]
  .have:m%2=0:=by omega
   simp[this]
 refine⟨(decide (m%2=1),x,1+m/512%(p-1)),m,⟨nx,(show 1<=1+m/512%(p-1) by omega),(show 1+m/512%(p-1)<p by omega)⟩,?_⟩
 have td:thD (decide (m%2=1),x,1+m/512%(p-1))=.tup [.int (m%2),Bb Ab x,.int (1+m/512%(p-1))]:=by
  unfold thD;rw[es]
 have sz:BY ((l.map thD).length+1)=Ab:=sz7 (by rw[BO];omega)
 rw[List.map_append,Ce,Hv,td];generalize Bb Ab x=X at *;generalize l.map thD=L at *;generalize scr ns=S at *;simp[CN,KI,e,e2,CS,q0,q1,sz]
noncomputable def txA:Th->R3:=λt=>t.2.1
theorem ZZ(hk:Kg Z)(hs:IC Z)(hw:LA Z)(hp:P4 p)(t:Th)(hv:Thv p t)(S T:D)(A B:Ac D)(hA:A.length<=100)(hB:B.length<=100)(s3 s4 s7 s8 s9:Sl):HM Z [7,8,9] Ih (thD t) [sh S,si p,sh T,s3,s4,Aa (.lst A,Ab),Aa (.lst B,Ab),s7,s8,s9,Ae,Ae,Ae,Ae,Ae,Ae,Ae,Ae,Ae]=.next [sh S,si p,sh T,s3,s4,Aa (.lst (A++[txT txA t]),Ab),Aa (.lst (B++[txT (scl p) t]),Ab),si (sI t.1),sh (Bb Ab t.2.1),si t.2.2,Ae,Ae,Ae,Ae,Ae,Ae,Ae,Ae,Ae]:=by
 have k1:=hk p Ad Ab t.2.1 t.2.1 hp (Lk hp hv.1);have k2:=hk p Ab Ab t.2.1 t.2.1 hp (Lk hp hv.1);have k1:Z.F 901 [.int p,Bb Ab t.2.1]=.ok (obD p Ad t.2.1):=k1;have k2:Z.F 902 [.int p,Bb Ab t.2.1]=.ok (obD p Ab t.2.1):=k2;have ix:Du [obD p Ad t.2.1,obD p Ab t.2.1] (sI t.1)=.ok (obD p t.1 t.2.1):=by cases t.1<;>rfl
 have sh0:=hs p t.1 t.2.1 hp hv.1.1;have me:IE Z.F (Ay "shown") [(1,931),(2,932)] (obD p t.1 t.2.1)=.ok (txT txA t):=by
  generalize hb:t.1=b at *;have tx:txT txA t=.str (tq b t.2.1):=by unfold txT txA;rw[hb]
  rw[tx];cases b<;>exact sh0
 have wr:Z.F 42 [.int (sI t.1),Bb Ad (scl p t)]=.ok (txT (scl p) t):=hw p t.1 Ad (scl p t) hp (Rs hp t);have p0:=hp.pos;have hi:=hp.hi;have mo:∀ x:Ah,Ev t.2.2 x=Ab:=λx=>JR (by have:=hv.2.1;omega) (by have:=hv.2.2;omega)
 have cp:∀ A' B':Ac D,BX (cG Z [sh S,si p,sh T,s3,s4,Aa (.lst A',Ab),Aa (.lst B',Ab),si (sI t.1),sh (Bb Ab t.2.1),si t.2.2,Ae,Ae,Ae,Ae,Ae,Ae,Ae,Ae,Ae] 15 Dx) (cF Z [sh S,si p,sh T,s3,s4,Aa (.lst A',Ab),Aa (.lst B',Ab),si (sI t.1),sh (Bb Ab t.2.1),si t.2.2,Ae,Ae,Ae,Ae,Ae,Ae,Ae,Ae,Ae] 15 Ma) [.int t.2.1.1,.int t.2.1.2.1,.int t.2.1.2.2]=.ok [.int (t.2.2*t.2.1.1%p),.int (t.2.2*t.2.1.2.1%p),.int (t.2.2*t.2.1.2.2%p)]:=λA' B'=>by
  simp[BX,cG,cF,Dx,Ma,mo,p0]
 have sq:=No Ab t.2.1;have za:BY (A.length+1)=Ab:=sz7 (by omega)
 have zb:BY (B.length+1)=Ab:=sz7 (by omega)
 have rq:Bb Ad (scl p t)=.lst [.int (t.2.2*t.2.1.1%p),.int (t.2.2*t.2.1.2.1%p),.int (t.2.2*t.2.1.2.2%p)]:=rfl;rw[rq]at wr;unfold thD;generalize Bb Ab t.2.1=Q at *;generalize obD p t.1 t.2.1=o at *;generalize obD p Ad t.2.1=o1 at *;generalize obD p Ab t.2.1=o2 at *;generalize txT txA t=x1 at *;generalize txT (scl p) t=x2 at *;generalize sI t.1=s at *;simp[HM,DR,Dv,Ih,k1,k2,ix,me,CS,za,sq,cp,wr,zb,noX]
theorem QW(hk:Kg Z)(hs:IC Z)(hw:LA Z)(hp:P4 p)(S T:D)(s3 s4:Sl):∀(l:Ac Th),(∀ t∈l,Thv p t)->∀(A B:Ac D)(s7 s8 s9:Sl),A.length+l.length<=100->B.length+l.length<=100->∃ s7' s8' s9',Cd (HM Z [7,8,9] Ih) (l.map thD) [sh S,si p,sh T,s3,s4,Aa (.lst A,Ab),Aa (.lst B,Ab),s7,s8,s9,Ae,Ae,Ae,Ae,Ae,Ae,Ae,Ae,Ae]=.next [sh S,si p,sh T,s3,s4,Aa (.lst (A++l.map (txT txA)),Ab),Aa (.lst (B++l.map (txT (scl p))),Ab),s7',s8',s9',Ae,Ae,Ae,Ae,Ae,Ae,Ae,Ae,Ae]
 |[],_,A,B,s7,s8,s9,_,_=>⟨s7,s8,s9,by simp[Cd]⟩
 |t::l,hv,A,B,s7,s8,s9,hA,hB=>by
  rw[A9]at hA hB;have e:=ZZ hk hs hw hp t (hv t (AB ..)) S T A B (by omega) (by omega) s3 s4 s7 s8 s9
  obtain⟨a,b,c,ih⟩:=QW hk hs hw hp S T s3 s4 l (λu hu=>hv u (Ax _ hu)) (A++[txT txA t]) (B++[txT (scl p) t]) (si (sI t.1)) (sh (Bb Ab t.2.1)) (si t.2.2) (by rw[BN,CU];omega) (by rw[BN,CU];omega)
  refine⟨a,b,c,?_⟩;show (HM Z [7,8,9] Ih (thD t) _).turn (Cd (HM Z [7,8,9] Ih) (l.map thD))=_;rw[e];show Cd (HM Z [7,8,9] Ih) (l.map thD) _=_;rw[ih,Ce,Ce,TQ,TQ];rfl
end
section
variable{Z:Gam}{p:Ah}
theorem getL_at{xs:Ac D}{k:Af}{d:D}(h:xs[k]?=Aa d):Du xs (k:Ah)=.ok d:=by
 have hl:=(AW.mp h).1;have e:plD xs.length (k:Ah)=Aa k:=by
  unfold plD;simp;omega
 unfold Du;rw[e];dsimp only;rw[h]
theorem ZY(hi:Kh Z)(hs:IC Z)(ho:Lh Z)(hp:P4 p)(φ:Th->R3)(t:Th)(hv:Thv p t)(hq:In3 p (φ t)/\Fm p (φ t) t.2.1)(k:Af)(S T X Y_ R0:D)(hT:Cy T (.int k)=.ok (thD t))(hX:Cy X (.int k)=.ok (txT txA t))(hR:Cy R0 (.int k)=.ok (txT φ t))(s3 s4 s7 s8 s9 s11 s13 s14:Sl):∃ s14',IA Z 12 [3,13] Ig (.tup [.int k,obT p t]) [sh S,si p,sh T,s3,s4,sh X,sh Y_,s7,s8,s9,sh R0,s11,Aa (.non,Ab),s13,s14,Ae,Ae,Ae,Ae]=.next [sh S,si p,sh T,si k,s4,sh X,sh Y_,s7,s8,s9,sh R0,s11,Aa (.non,Ab),sh (obT p t),s14',Ae,Ae,Ae,Ae]:=by
 have e1:Z.F 41 [obT p t,.int (sI t.1),Bb Ab t.2.1]=.ok (.bl Ab):=hi p t.1 t.2.1;have sh0:=hs p t.1 t.2.1 hp hv.1.1;have me:IE Z.F (Ay "shown") [(1,931),(2,932)] (obT p t)=.ok (txT txA t):=by
  have ob:obT p t=obD p t.1 t.2.1:=rfl;rw[ob];generalize hb:t.1=b at *;have tx:txT txA t=.str (tq b t.2.1):=by unfold txT txA;rw[hb]
  rw[tx];cases b<;>exact sh0
 have on:Z.F 36 [.int p,txT φ t]=.ok (obT p t):=ho p t.1 (φ t) t.2.1 hp hq.1 hq.2;have fl:flD 5 (txT txA t)=Ab:=rfl;have eq:eqD (txT txA t) (txT txA t)=Ab:=by
  show (tq t.1 (txA t)==tq t.1 (txA t))=Ab;simp
 have t0:Cy (thD t) (.int 0)=.ok (.int (sI t.1)):=rfl;have t1:Cy (thD t) (.int 1)=.ok (Bb Ab t.2.1):=rfl;generalize obT p t=o at *;generalize txT φ t=x1 at *;generalize txT txA t=x2 at *;generalize thD t=th at *;generalize Bb Ab t.2.1=Q at *;generalize sI t.1=s at *;by_cases z:(k:Ah)%5=0
 .refine⟨sh o,?_⟩;simp[IA,EC,DR,Dv,Ig,hT,hX,hR,t0,t1,e1,me,fl,eq,on,z]
 .refine⟨s14,?_⟩;simp[IA,EC,DR,Dv,Ig,hT,hX,hR,t0,t1,e1,me,fl,eq,on,z]
theorem QV(hi:Kh Z)(hs:IC Z)(ho:Lh Z)(hp:P4 p)(φ:Th->R3)(S T X Y_ R0:D)(s4 s7 s8 s9 s11:Sl)(l:Ac Th)(hv:∀ t∈l,Thv p t/\In3 p (φ t)/\Fm p (φ t) t.2.1)(hT:∀(k:Af) t,l[k]?=Aa t->Cy T (.int k)=.ok (thD t))(hX:∀(k:Af) t,l[k]?=Aa t->Cy X (.int k)=.ok (txT txA t))(hR:∀(k:Af) t,l[k]?=Aa t->Cy R0 (.int k)=.ok (txT φ t)):∀(l2 l1:Ac Th),l=l1++l2->∀(k:Ah),k=l1.length->∀ s3 s13 s14:Sl,∃ s3' s13' s14',Cd (IA Z 12 [3,13] Ig) (Cj k (l2.map (obT p))) [sh S,si p,sh T,s3,s4,sh X,sh Y_,s7,s8,s9,sh R0,s11,Aa (.non,Ab),s13,s14,Ae,Ae,Ae,Ae]=.next [sh S,si p,sh T,s3',s4,sh X,sh Y_,s7,s8,s9,sh R0,s11,Aa (.non,Ab),s13',s14',Ae,Ae,Ae,Ae]
 |[],_,_,_,_,s3,s13,s14=>⟨s3,s13,s14,rfl⟩
 |t::l2,l1,e,k,hk,s3,s13,s14=>by
  subst hk;have hg:l[l1.length]?=Aa t:=by rw[e];simp
  have hm:t∈l:=by rw[e];simp
  obtain⟨s,e1⟩:=ZY hi hs ho hp φ t (hv t hm).1 (hv t hm).2 l1.length S T X Y_ R0 (hT _ _ hg) (hX _ _ hg) (hR _ _ hg) s3 s4 s7 s8 s9 s11 s13 s14;obtain⟨a,b,c,ih⟩:=QV hi hs ho hp φ S T X Y_ R0 s4 s7 s8 s9 s11 l hv hT hX hR l2 (l1++[t]) (by rw[e];simp) ((l1.length:Ah)+1) (by simp) (si l1.length) (sh (obT p t)) s
  refine⟨a,b,c,?_⟩;show (IA Z 12 [3,13] Ig (.tup [.int (l1.length:Ah),obT p t]) _).turn (Cd (IA Z 12 [3,13] Ig) (Cj ((l1.length:Ah)+1) (l2.map (obT p))))=_;rw[e1];exact ih
structure Rw (Z:Gam) (p:Ah) (φ:Th->R3) (l:Ac Th) (R0:D):Prop where
 ix:∀(k:Af) t,l[k]?=Aa t->Cy R0 (.int k)=.ok (txT φ t)
 all:Z.F 37 [.int p,R0]=.ok (.lst (l.map (obT p)))
 li:biD .list [R0]=.ok R0
 fl:flD 5 R0=Ab
 eq:eqD R0 R0=Ab
 ok:∀ t∈l,In3 p (φ t)/\Fm p (φ t) t.2.1
theorem Q2(φ:Th->R3):∀ l:Ac Th,eqDs (l.map (txT φ)) (l.map (txT φ))=Ab
 |[]=>rfl
 |t::l=>by
  show ((tq t.1 (φ t)==tq t.1 (φ t))&&eqDs (l.map (txT φ)) (l.map (txT φ)))=Ab;rw[Q2 φ l];simp
theorem RZ(ha:RT Z)(hp:P4 p)(φ:Th->R3)(l:Ac Th)(h:∀ t∈l,In3 p (φ t)/\Fm p (φ t) t.2.1):Rw Z p φ l (.lst (l.map (txT φ))):=by
 refine⟨λk t e=>getL_at (by rw[CJ,e];rfl),ha p φ l hp h,rfl,?_,Q2 φ l,h⟩
 show (l.map (txT φ)).all (flD 4)=Ab;rw[Bz];intro x hx;obtain⟨t,_,rfl⟩:=Gf.mp hx;rfl
theorem QU(hi:Kh Z)(hs:IC Z)(ho:Lh Z)(hfr:Z.fr 37=Ab)(hp:P4 p)(φ:Th->R3)(l:Ac Th)(hl:l.length<=100)(hv:∀ t∈l,Thv p t)(S T X Y_ R0:D)(hr:Rw Z p φ l R0)(hT:∀(k:Af) t,l[k]?=Aa t->Cy T (.int k)=.ok (thD t))(hTl:biD .len [T]=.ok (.int l.length))(hX:∀(k:Af) t,l[k]?=Aa t->Cy X (.int k)=.ok (txT txA t))(s3 s4 s7 s8 s9 s10 s11 s12 s13 s14:Sl):∃ s3' s11' s12' s13' s14',CN Z 10 L8 R0 [sh S,si p,sh T,s3,s4,sh X,sh Y_,s7,s8,s9,s10,s11,s12,s13,s14,Ae,Ae,Ae,Ae]=.next [sh S,si p,sh T,s3',s4,sh X,sh Y_,s7,s8,s9,sh R0,s11',s12',s13',s14',Ae,Ae,Ae,Ae]:=by
 obtain⟨a,b,c,lp⟩:=QV hi hs ho hp φ S T X Y_ R0 s4 s7 s8 s9 (sh R0) l (λt ht=>⟨hv t ht,hr.ok t ht⟩) hT hX hr.ix l [] rfl 0 rfl s3 s13 s14
 have e1:=hr.all;have e2:=hr.li;have e3:=hr.fl;have e4:=hr.eq;have hM:(l.map (obT p)).length=l.length:=BO ..;have sz:BY (l.length+1)=Ab:=sz7 (by omega)
 generalize l.map (obT p)=M at *;generalize l.length=n at *;refine⟨a,sh R0,Aa (.lst (M++[.int 0]),Ab),b,c,?_⟩;simp[CN,L8,e1,e2,e3,e4,Dy,hfr,hM,hTl,Xg,CS,lp,He,EC,sz,kiD,Dk]
end
structure H07 (Z:Gam) (ns:Ac Ah):Prop where
 mi:Li Z 38 ns
 pr:fO Z ns
 tr:RQ Z
 ma:Kg Z
 sh:IC Z
 wr:LA Z
 is:Kh Z
 on:Lh Z
 al:RT Z
 fr:Z.fr 37=Ab
theorem Q0{g:D->R Ai}{f:D->R D}{ψ:Th->D}:∀(l:Ac Th),(∀ t∈l,g (thD t)=.ok Ab/\f (thD t)=.ok (ψ t))->BX g f (l.map thD)=.ok (l.map ψ)
 |[],_=>rfl
 |t::l,h=>by
  obtain⟨h1,h2⟩:=h t (AB ..);show (g (thD t)).bind _=_;rw[h1,R.bind_ok,AE rfl,h2,R.bind_ok];show (BX g f (l.map thD)).bind _=_;rw[Q0 l λy hy=>h y (Ax _ hy)]
  rfl
theorem fJ(h:H07 Z ns):MF.run Z [scr ns]=.ok (.bl Ab):=by
  obtain⟨p,hp,ep⟩:=h.pr 60 (by decide)
  obtain⟨m,m0,em⟩:=h.mi 61 (by decide)
  have r0:=Bx m (b:=31) (by decide)
  have r1:=BM m (b:=31) (by decide)
  have rg:DJ 0 (m%31)=.ok (EB 0 (m%31).toNat):=Mi r0 (by omega)
  obtain⟨U1,e1,l,hl,hv,s3,s4,rfl⟩:=OR (body:=CN Z 3 KI) (λn U=>∃ l:Ac Th,l.length=n/\(∀ t∈l,Thv p t)/\∃ s3 s4:Sl,U=[sh (scr ns),si p,Aa (.lst (l.map thD),Ab),s3,s4,Ae,Ae,Ae,Ae,Ae,Ae,Ae,Ae,Ae,Ae,Ae,Ae,Ae,Ae]) (EB 0 (m%31).toNat) 0 [sh (scr ns),si p,Aa (.lst [],Ab),Ae,Ae,Ae,Ae,Ae,Ae,Ae,Ae,Ae,Ae,Ae,Ae,Ae,Ae,Ae,Ae] ⟨[],rfl,λ_ z=>absurd z (by simp),Ae,Ae,rfl⟩ (by
    rintro i x hx U ⟨l,hl,hv,s3,s4,rfl⟩;obtain⟨hi,rfl⟩:=P3 hx;obtain⟨t,m',ht,e⟩:=Z_0 h.mi h.tr hp i l (by omega) s3 s4
    refine⟨_,e,l++[t],by rw[BN,CU];omega,λu hu=>?_,_,_,rfl⟩
    rcases Fb.mp hu with z|z
    · exact hv u z
    · rw[Bk.mp z];exact ht)
  have hll:l.length<=40:=by rw[hl,KJ];omega
  obtain⟨s7,s8,s9,e2⟩:=QW h.ma h.sh h.wr hp (scr ns) (.lst (l.map thD)) s3 s4 l hv [] [] Ae Ae Ae (by simp;omega) (by simp;omega)
  rw[Gw,Gw]at e2;have oA:∀ t∈l,In3 p (txA t)/\Fm p (txA t) t.2.1:=λt ht=>⟨(hv t ht).1.1,Lk hp (hv t ht).1⟩
  have oS:∀ t∈l,In3 p (scl p t)/\Fm p (scl p t) t.2.1:=λt ht=>⟨Rs hp t,fG hp (hv t ht)⟩
  have rA:=RZ h.al hp txA l oA;have rS:=RZ h.al hp (scl p) l oS;have cp:∀ U:Rho,U.length=19->BX (cGT Z U [16,17,18] Dx) (cFT Z U [16,17,18] L9) (l.map thD)=.ok (l.map (txT txA)):=λU hρ=>Q0 l λt ht=>by
    have w:Z.F 42 [.int (sI t.1),Bb Ab t.2.1]=.ok (txT txA t):=h.wr p t.1 Ab t.2.1 hp (hv t ht).1.1
    match U,hρ with
    |[a0,a1,a2,a3,a4,a5,a6,a7,a8,a9,a10,a11,a12,a13,a14,a15,a16,a17,a18],_=>
      unfold thD;generalize txT txA t=x at *;generalize Bb Ab t.2.1=Q at *;generalize sI t.1=s at *;exact⟨rfl,by simp[cFT,L9,DR,Dv,w]⟩
  have hT:∀(k:Af) t,l[k]?=Aa t->Cy (.lst (l.map thD)) (.int k)=.ok (thD t):=λk t e=>getL_at (by rw[CJ,e];rfl)
  have hTl:biD .len [.lst (l.map thD)]=.ok (.int l.length):=by
    show R.ok (D.int ((l.map thD).length:Af))=_;rw[BO]
  obtain⟨t3,t11,t12,t13,t14,e3⟩:=QU h.is h.sh h.on h.fr hp txA l (by omega) hv (scr ns) (.lst (l.map thD)) (.lst (l.map (txT txA))) (.lst (l.map (txT (scl p)))) _ rA hT hTl rA.ix s3 s4 s7 s8 s9 Ae Ae Ae Ae Ae
  obtain⟨u3,u11,u12,u13,u14,e4⟩:=QU h.is h.sh h.on h.fr hp (scl p) l (by omega) hv (scr ns) (.lst (l.map thD)) (.lst (l.map (txT txA))) (.lst (l.map (txT (scl p)))) _ rS hT hTl rA.ix t3 s4 s7 s8 s9 (sh (.lst (l.map (txT txA)))) t11 t12 t13 t14
  have fA:=rA.fl;have qA:=rA.eq;have cq:=cp [sh (scr ns),si p,sh (.lst (l.map thD)),s3,s4,Aa (.lst (l.map (txT txA)),Ab),Aa (.lst (l.map (txT (scl p))),Ab),s7,s8,s9,Ae,Ae,Ae,Ae,Ae,Ae,Ae,Ae,Ae] rfl
  clear hT hTl rA rS cp oA oS
  generalize l.map (txT (scl p))=Y_ at *;generalize l.map (txT txA)=X at *;generalize l.map thD=L at *;generalize EB 0 (m%31).toNat=RG at *;generalize scr ns=S at *;simp[MF,Df.run,B5,ep,em,rg,e1,Dy,Z_2,e2,cq,fA,qA,Cd,e3,e4]
noncomputable def lV:Af->Ac Af:=λ_=>[]
noncomputable def lU:Af->Ac D->R Ex:=λ_ _=>.bad
noncomputable def Q07:Prg:=⟨Ab,fun
 |1=>Nu
 |9=>KB
 |17=>KH
 |25=>MV
 |33=>L4
 |34=>L6
 |35=>KU
 |36=>Mq
 |37=>Mr
 |38=>JL
 |39=>MG
 |40=>JO
 |19=>LZ
 |41=>MW
 |42=>Mg
 |43=>MF
 |900=>mkC 0
 |901=>mkC 1
 |902=>mkC 2
 |910=>inC
 |920=>Mb
 |931=>Md
 |932=>L7
 | _=>⟨0,Ad,.nil⟩,λ_=>.non,lV,lU⟩
theorem kH(ns:Ac Ah)(hl:ns.length<=63):(gam Q07 8).F 43 [scr ns]=.ok (.bl Ab):=by
 have rs:∀ n,Lg (gam Q07 (n+1)):=λn p m hp=>dG (gam Q07 n) p m hp
 have tu:∀ n,MI (gam Q07 (n+2)):=λn p m hp z=>WA (rs n) p m hp z
 have fo:∀ n,M0 (gam Q07 (n+3)):=λn p b xs l t hp e it=>Ym (rs (n+1)) (tu n) hp e it
 have ii:∀ n,Sy (gam Q07 (n+4)):=λn p b q a hp h=>iE (fo n) p b q a hp h
 have ma:∀ n,Kg (gam Q07 (n+5)):=λn p s b q a hp h=>by
  cases s with
  |false=>exact Sg (ii n) 1 p b q a hp h
  |true=>exact Sg (ii n) 2 p b q a hp h
 have ro:∀ n,Nw (gam Q07 (n+1)):=λn p q hp h=>dF (gam Q07 n) p q hp h
 have sw:∀ n,IC (gam Q07 (n+2)):=λn p s q hp h=>by
  cases s with
  |false=>exact iB (ro n) p q hp h
  |true=>exact iA (ro n) p q hp h
 have wr:∀ n,LA (gam Q07 (n+1)):=λn p s b q hp h=>hZ (gam Q07 n) p s b q hp h
 have to':∀ n,QN (gam Q07 (n+1)):=λn p s q=>Yl (gam Q07 n) p s q
 have sa:∀ n,QO (gam Q07 (n+1)):=λn xs=>dD (gam Q07 n) xs
 have is:∀ n,Kh (gam Q07 (n+2)):=λn p s a=>iD (to' n) (sa n) p s a
 have rr:∀ n,Sw (gam Q07 (n+1)):=λn p x hp h0 h1=>iC (gam Q07 n) p x hp h0 h1
 have rt:∀ n,RS (gam Q07 (n+2)):=λn p q hp h=>dE (rr n) p q hp h
 have ra:∀ n,Nx (gam Q07 (n+6)):=λn p r s q a hp h hf=>dH (rt (n+3)) (ma n) p r s q a hp h hf
 have mi:∀ n,Li (gam Q07 (n+1)) 38 ns:=λn k hk=>dL (gam Q07 n) ns hl k hk
 exact fJ (Z:=gam Q07 7) ⟨mi 6,λk hk=>dI (mi 5) k hk,λp n hp=>dC (gam Q07 6) p n hp,ma 2,sw 5,wr 6,is 5,λp s q a hp h hf=>dJ (ra 0) p s q a hp h hf,λp φ l hp h=>dM (ra 0) p φ l hp h,rfl⟩
end OvC
namespace OvC
open PySem PySem.Spec PyProof.Rows Ov L2
variable{l:EW}
noncomputable def tp07(i:Af):AC:=PySem.Challenge.pw_ovalfield_k07_whole_read_again.main.body.getD i (.Pass ⟨0,0,0,0⟩)
noncomputable def Jo:Ac (Ag×Af×Af):=([("rest",1,2),("turned_over",9,2),("one_form",17,2),("row_of",25,1),("rest_read",33,2),("rests_read",34,2),("read_at",35,3),("read_one",36,2),("read_all",37,2),("_law_mixed",38,2),("_law_prime",39,2),("_law_triple",40,2),("_law_same_tuple",19,2),("_law_is",41,3),("_law_written",42,2),("law",43,1),("1.told",920,1),("2.told",920,1),("1.shown",931,1),("2.shown",932,1)]:Ac (Ag×Af×Af))
noncomputable def Jt:Ac Ag:=["all", "any", "bool", "enumerate", "int", "isinstance", "len", "list", "max", "min", "range", "str", "tuple"]
noncomputable def Ji:Ac (Ag×Af):=[]
noncomputable def Jp:Ac (Ag×Af):=[]
noncomputable def Jn:Ac (Ag×Af):=[]
noncomputable abbrev C07(h:Ai)(n:Af)(N:Ac Ag)(i d:Af):Ai:=Fp 80 h Jo Jt Ji Jp Jn (N.take n) N (tp07 i) (Q07.defs d)
theorem eP:C07 Ad 2 ["p", "n"] 7 1=Ab:=by decide+kernel
theorem eO:C07 Ad 2 ["p", "n", "turned"] 8 9=Ab:=by decide+kernel
theorem eN:C07 Ad 2 ["p", "numbers", "rests", "first", "factor", "#5", "#6"] 10 17=Ab:=by decide+kernel
theorem eM:C07 Ad 1 ["triple", "#1"] 11 25=Ab:=by decide+kernel
theorem eL:C07 Ad 2 ["p", "word", "number"] 16 33=Ab:=by decide+kernel
theorem eK:C07 Ad 2 ["p", "words", "rests", "#3"] 17 34=Ab:=by decide+kernel
theorem eJ:C07 Ad 3 ["p", "text", "row", "rests", "brackets"] 18 35=Ab:=by decide+kernel
theorem eI:C07 Ad 2 ["p", "text"] 19 36=Ab:=by decide+kernel
theorem eG:C07 Ad 2 ["p", "texts", "#2", "#3"] 20 37=Ab:=by decide+kernel
theorem eF:C07 Ad 2 ["_law_script", "_law_k", "_law_cell", "_law_step"] 23 38=Ab:=by decide+kernel
theorem aE:C07 Ad 2 ["_law_script", "_law_k"] 24 39=Ab:=by decide+kernel
theorem aD:C07 Ad 2 ["_law_n", "_law_p"] 25 40=Ab:=by decide+kernel
theorem aC:C07 Ad 2 ["_law_found", "_law_due", "#2"] 26 19=Ab:=by decide+kernel
theorem aA:C07 Ad 3 ["_law_thing", "_law_sort_of", "_law_due"] 27 41=Ab:=by decide+kernel
theorem Z_9:C07 Ad 2 ["_law_sort_of", "_law_numbers", "_law_text", "#3"] 28 42=Ab:=by decide+kernel
theorem QI:C07 Ad 1 ["_law_script", "_law_p", "_law_things", "_law_k", "_law_mix", "_law_texts", "_law_plain", "_law_sort_of", "_law_triple_here", "_law_factor", "_law_rows", "_law_handed", "_law_found", "_law_thing", "_law_alone", "#15", "#16", "#17", "#18"] 29 43=Ab:=by decide+kernel
theorem Qc:Fp 80 Ad Jo Jt Ji Jp Jn ["self"] ["self"] (HS (tp07 12) 1) (Q07.defs 920)=Ab:=by decide+kernel
theorem Yb:Fp 80 Ad Jo Jt Ji Jp Jn ["self"] ["self"] (HS (tp07 13) 0) (Q07.defs 931)=Ab:=by decide+kernel
theorem X9:Fp 80 Ad Jo Jt Ji Jp Jn ["self"] ["self"] (HS (tp07 14) 0) (Q07.defs 932)=Ab:=by decide+kernel
theorem lO:Ko 80 Jo Jt Ji Jp Jn (HS (tp07 12) 0)=Ab:=by decide+kernel
set_option maxHeartbeats 0 in
theorem all07{w:AS}{K:Fg}{h:AA}{mg:Ag->An Aj}{fa f0 f1 f2 f3 f4 f5 f6 f7 f8 f9 f10 f11 f12 f13 f14 f15:Ak}(X:K.In h)(G:h.Ns AN mg)(hfa:mg "law" = Aa (.ref fa)){o0 o1 o2 mt ms0 ms1 ms2 fi:Ak}(a0:FnI K f0 "rest" (tp07 7))(a1:FnI K f1 "turned_over" (tp07 8))(a2:FnI K f2 "one_form" (tp07 10))(a3:FnI K f3 "row_of" (tp07 11))(a4:FnI K f4 "rest_read" (tp07 16))(a5:FnI K f5 "rests_read" (tp07 17))(a6:FnI K f6 "read_at" (tp07 18))(a7:FnI K f7 "read_one" (tp07 19))(a8:FnI K f8 "read_all" (tp07 20))(a9:FnI K f9 "_law_mixed" (tp07 23))(a10:FnI K f10 "_law_prime" (tp07 24))(a11:FnI K f11 "_law_triple" (tp07 25))(a12:FnI K f12 "_law_same_tuple" (tp07 26))(a13:FnI K f13 "_law_is" (tp07 27))(a14:FnI K f14 "_law_written" (tp07 28))(a15:FnI K f15 "law" (tp07 29))(oa0:OA K "Triple" o0 mt ms0 fi)(oa1:OA K "Point" o1 mt ms1 fi)(oa2:OA K "Line" o2 mt ms2 fi)(kt0:KtC K o0 [(o0,Ab),(o1,Ad),(o2,Ad)])(kt1:KtC K o1 [(o0,Ab),(o1,Ab),(o2,Ad)])(kt2:KtC K o2 [(o0,Ab),(o1,Ad),(o2,Ab)])(ii:InI K fi "Triple.__init__" (HS (tp07 12) 0))(me920:MeI K mt "told" "Triple.told" (HS (tp07 12) 1))(me931:MeI K ms1 "shown" "Point.shown" (HS (tp07 13) 0))(me932:MeI K ms2 "shown" "Line.shown" (HS (tp07 14) 0))(z0:A5 K AN "all" = Aa Ae)(z1:A5 K AN "any" = Aa Ae)(z2:A5 K AN "bool" = Aa Ae)(z3:A5 K AN "enumerate" = Aa Ae)(z4:A5 K AN "int" = Aa Ae)(z5:A5 K AN "isinstance" = Aa Ae)(z6:A5 K AN "len" = Aa Ae)(z7:A5 K AN "list" = Aa Ae)(z8:A5 K AN "max" = Aa Ae)(z9:A5 K AN "min" = Aa Ae)(z10:A5 K AN "range" = Aa Ae)(z11:A5 K AN "str" = Aa Ae)(z12:A5 K AN "tuple" = Aa Ae):
  ∃ fd:Bp,(∀(s:Ao)(v:Aj),Fx s fd ⟨[v],[]⟩ [("_law_script",v)])/\∀ base:AA,K.In base->base.Ns AN mg->FnOk l.prog w K mg base (CXR l.prog w) 8 fa fd ["_law_script"] (Ka K):=by
 obtain⟨_,F,e⟩:=a15;obtain⟨_,_,_,_,_,_,_,_,_,rfl,_,_⟩:=F.ex;cases hfa.symm.trans (DA X G e);have T:Tab K mg (λ_=>Ae) Jo Jt Ji Jp Jn Q07 80:=⟨iR X G oa0 oa1 oa2 kt0 kt1 kt2,kJ oa0 oa1 oa2 ii lO rfl rfl rfl rfl λ_ _ _ _ _ _ _ _ _=>rfl,YO λ_ _=>rfl,all_cons (Bl X G z0) (all_cons (Bl X G z1) (all_cons (Bl X G z2) (all_cons (Bl X G z3) (all_cons (Bl X G z4) (all_cons (Bl X G z5) (all_cons (Bl X G z6) (all_cons (Bl X G z7) (all_cons (Bl X G z8) (all_cons (Bl X G z9) (all_cons (Bl X G z10) (all_cons (Bl X G z11) (all_cons (Bl X G z12) (all_nil))))))))))))),all_nil,all_cons (F2 2 1 (by decide+kernel) X G a0 rfl eP λ_ _ _ _ _ _ _ _=>rfl) (all_cons (F2 2 9 (by decide+kernel) X G a1 rfl eO λ_ _ _ _ _ _ _ _=>rfl) (all_cons (F2 2 17 (by decide+kernel) X G a2 rfl eN λ_ _ _ _ _ _ _ _=>rfl) (all_cons (Tf 1 25 (by decide+kernel) X G a3 rfl eM λ_ _ _ _ _ _ _=>rfl) (all_cons (F2 2 33 (by decide+kernel) X G a4 rfl eL λ_ _ _ _ _ _ _ _=>rfl) (all_cons (F2 2 34 (by decide+kernel) X G a5 rfl eK λ_ _ _ _ _ _ _ _=>rfl) (all_cons (Te 3 35 (by decide+kernel) X G a6 rfl eJ λ_ _ _ _ _ _ _ _ _=>rfl) (all_cons (F2 2 36 (by decide+kernel) X G a7 rfl eI λ_ _ _ _ _ _ _ _=>rfl) (all_cons (F2 2 37 (by decide+kernel) X G a8 rfl eG λ_ _ _ _ _ _ _ _=>rfl) (all_cons (F2 2 38 (by decide+kernel) X G a9 rfl eF λ_ _ _ _ _ _ _ _=>rfl) (all_cons (F2 2 39 (by decide+kernel) X G a10 rfl aE λ_ _ _ _ _ _ _ _=>rfl) (all_cons (F2 2 40 (by decide+kernel) X G a11 rfl aD λ_ _ _ _ _ _ _ _=>rfl) (all_cons (F2 2 19 (by decide+kernel) X G a12 rfl aC λ_ _ _ _ _ _ _ _=>rfl) (all_cons (Te 3 41 (by decide+kernel) X G a13 rfl aA λ_ _ _ _ _ _ _ _ _=>rfl) (all_cons (F2 2 42 (by decide+kernel) X G a14 rfl Z_9 λ_ _ _ _ _ _ _ _=>rfl) (all_cons (Tf 1 43 (by decide+kernel) X G ⟨_,F,e⟩ rfl QI λ_ _ _ _ _ _ _=>rfl) (all_cons (LC 920 (by decide+kernel) (GM (by decide:1<3) oa1.n) oa1.ft me920 Qc λ_ _ _ _ _ _ _=>rfl) (all_cons (LC 920 (by decide+kernel) (GM (by decide:2<3) oa2.n) oa2.ft me920 Qc λ_ _ _ _ _ _ _=>rfl) (all_cons (LC 931 (by decide+kernel) (GM (by decide:1<3) oa1.n) oa1.fs me931 Yb λ_ _ _ _ _ _ _=>rfl) (all_cons (LC 932 (by decide+kernel) (GM (by decide:2<3) oa2.n) oa2.fs me932 X9 λ_ _ _ _ _ _ _=>rfl) (all_nil))))))))))))))))))))⟩
 exact⟨_,λs v=>.of_eq rfl,λbase _ _=>Zp (Q5 T (bP T 7) (bQ T 7) (Lj F) rfl QI) kH⟩
theorem walk07{q:AF}{loose:Ac Ag}{XP:(Ag->An Aj)->AA->Prop}{YP:AS->AA->Prop}{d:DefRec}{K:JI->Fg}(hn:l.most=Aa 63)(hdf:d.params.defaults=[])(hY:∀(w:AS)(h:AA),YP w h->(K w.params).In h)(F:∀(w:AS)(mg:Ag->An Aj)(fa:Ak)(h:AA),(K w.params).In h->h.Ns AN mg->mg d.name=Aa (.ref fa) ->
   ∃ fd:Bp,(∀(s:Ao)(u:Aj),Fx s fd ⟨[u],[]⟩ [("_law_script",u)])/\∀ base:AA,(K w.params).In base->base.Ns AN mg->FnOk l.prog w (K w.params) mg base (CXR l.prog w) 8 fa fd ["_law_script"] (Ka (K w.params))):Vz q loose XP YP l.row.toRowW d [] (λf vs=>IM f vs):=
 L2.walk_of (n:=63) (k:=8) (x := "_law_script") (CX:=λw=>CXR l.prog w) (sp:=λw=>Ka (K w.params)) hn (by decide) hdf ⟨rfl,by decide,by decide,rfl⟩ hY F (λ_ H a ns hl _ hS=>⟨a,ns,rfl,hl,hS,λ_ _ z=>z⟩) λ_ _ _ _ _ z=>fM z
end OvC
open PySem PySem.W PyProof.Rows
noncomputable def OvC.view07:PySem.Program:={ PySem.Challenge.pw_ovalfield_k07_whole_read_again with main:={PySem.Challenge.pw_ovalfield_k07_whole_read_again.main with body:=[OvC.tp07 0,OvC.tp07 2,OvC.tp07 3,OvC.tp07 4,OvC.tp07 5,OvC.tp07 7,OvC.tp07 8,OvC.tp07 10,OvC.tp07 11,OvC.tp07 12,OvC.tp07 13,OvC.tp07 14,OvC.tp07 16,OvC.tp07 17,OvC.tp07 18,OvC.tp07 19,OvC.tp07 20,OvC.tp07 22,OvC.tp07 23,OvC.tp07 24,OvC.tp07 25,OvC.tp07 26,OvC.tp07 27,OvC.tp07 28,OvC.tp07 29]} }
set_option hygiene false
local macro_rules | `(tactic| o_head $H)=>`(tactic| refine holds_open (q:=OvC.view07) (loose:=[]) (Xt:=fun s=>xlAt OvC.view07 [] s&&recOk (RowW.records (OpenRow.toRowW (PySem.Challenge.rw_ovalfield_k07_whole_read_again.row))) s) (XP:=XL OvC.view07 []) (Yf:=Hook.obs $H) (Ya:=Hook.val $H) (YP:=Hook.says $H) (N:=4768) ?hl (Hook.of $H) (Hook.keeps $H) (fun s e=>xl_of s (Bool.and_eq_true_iff.mp e).1) XL.keeps (by rfl) (by rfl) (by rfl) (fun s e=>recFacts_of (Bool.and_eq_true_iff.mp e).2) (by rfl) (by first|assumption|decide +kernel) (by decide +kernel) ⟨rfl,rfl,rfl,rfl,rfl,by decide +kernel⟩ ?hw ?hc)
set_option maxRecDepth 100000 in
set_option maxHeartbeats 0 in
theorem PySem.Challenge.cw_ovalfield_k07_whole_read_again_holds : PySem.Challenge.rw_ovalfield_k07_whole_read_again.Holds := by
 w_on;refine holds_law (by decide+kernel) λsaid=>?_;k_head
 (case hl=>intro w;unfold openEnds fencedOpening topFrom;rw[PySem.W.Fast.te10274390034422433532,PySem.W.Fast.te14364793385576792824,PySem.W.Fast.te1435165496053646825,PySem.W.Fast.te14289696077712309145,PySem.W.Fast.te14082659384304107361,PySem.W.Fast.te4187177175401517315];kernel_rfl)
 (case hw=>w_witness2)
 k_fill
 refine OvC.walk07 (l:=PySem.Challenge.rw_ovalfield_k07_whole_read_again) rfl rfl (λw h Y_=>VF Y_) ?F
 case F=>
  intro w mg fa h KX G hmg
  refine' OvC.all07 KX G hmg ?a0 ?a1 ?a2 ?a3 ?a4 ?a5 ?a6 ?a7 ?a8 ?a9 ?a10 ?a11 ?a12 ?a13 ?a14 ?a15 ?oa0 ?oa1 ?oa2 ?kt0 ?kt1 ?kt2 ?ii ?me920 ?me931 ?me932 ?z0 ?z1 ?z2 ?z3 ?z4 ?z5 ?z6 ?z7 ?z8 ?z9 ?z10 ?z11 ?z12
  case a0|a1|a2|a3|a4|a5|a6|a7|a8|a9|a10|a11|a12|a13|a14|a15=>(refine' Ov.fni ?a ?l ?c ?k;(case a=>k_is);(case l=>k_is);(case c=>k_is);(case k=>k_is))
  case oa0|oa1|oa2=>(refine' Ov.oa_mk ?n ?i ?ft ?fs ?q1 ?q2 ?q3 ?q4 ?q5 ?q6 ?q7 ?q8 ?q9 ?r1 ?r2 ?r3 ?r4 ?r5 ?r6;(case n=>k_is);(case i=>k_is);(case ft=>k_is);(case fs=>k_is);(case q1|q2|q3|q4|q5|q6|q7|q8|q9|r1|r2|r3|r4|r5|r6=>k_is))
  case kt0|kt1|kt2=>(refine' Ov.all_cons ?q0 (Ov.all_cons ?q1 (Ov.all_cons ?q2 Ov.all_nil));(case q0|q1|q2=>dsimp only;kit_is))
  case ii=>(refine' Ov.ini_mk ?l ?m ?k;(case l=>k_is);(case m=>k_is);(case k=>k_is))
  case me920|me931|me932=>(refine' Ov.mei ?l ?m ?k;(case l=>k_is);(case m=>k_is);(case k=>k_is))
  case z0|z1|z2|z3|z4|z5|z6|z7|z8|z9|z10|z11|z12=>k_is
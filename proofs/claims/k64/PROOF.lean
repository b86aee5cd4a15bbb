import PyProof.Rows.All
import Wide.All
import OpenK.AllK
import Wide.FinOn
import PyProof.EqAt
import KE.KSortTup
import PyProof.EqKinds
import PyProof.TupleCall
import Lean
import PySem.Challenge.RW_ovalfield_k64_meets_and_six_refused
set_option Elab.async false
set_option linter.all false
set_option maxRecDepth 100000
set_option maxHeartbeats 4000000
open Option renaming some→Aa,none→Ae,bind_eq_some_iff→AJ,isSome_iff_exists→Dv,map_some→Et,bind_some→YW,getD_none→YX,isNone_iff_eq_none→YY,map→YZ
open Bool renaming true→Ab,false→Ad,and_eq_true→Ak,false_ne_true→AF,not_eq_true'→Bu,or_eq_true→CH,toNat_true→CI,eq_iff_iff→DS,or_false→E3,false_eq_true→G3,or_true→HE,and_false→IF,and_true→Ye,not_true→Yg
open _root_ renaming List→Ac,Int→Af,Nat→Ag,Bool→Ai,Option→Ao,if_pos→Ax,if_neg→AC,of_decide_eq_true→AN,beq_iff_eq→AQ,False→AV,decide_eq_true_eq→AW,decide_eq_true→A9,Array→Ba,or_false→BO,dif_neg→B4,decide_eq_false→C1,beq_eq_false_iff_ne→C3,String→Da,not_or→Dd,beq_self_eq_true→Do,not_false_eq_true→DZ,if_true→Ep,Unit→Ge,Decidable→Gm,bne_iff_ne→GH,and_true→GZ,if_false→G0,True→HM,ne_eq→K8
open PySem renaming Str→Ah,Value→Aj,Addr→Al,Expr→Am,wpAny_bind→An,Shared→Ap,starEach→As,wpAny→Au,wpAny_pure→Az,Heap→AD,Pos→AG,Program→AK,Stmt→AO,Around→AX,World→AZ,mainGlobals→A3,wpAny_mono→Bg,FuncData→BM,backTo→BP,cLine→BW,wpAny_field→BX,wpAny_holding→BZ,Scope→B5,wpAny_loadPart_at→B6,binaryOp→B7,Env→B8,assignEach→B9,excClassObj→Cd,compareOp→CC,wpAny_truthy_bool→CD,mem_of_lookup→CF,Tok→CK,cellsFrom→CM,Obj→CU,foldedSetIterable→CV,wpAny_newObj_type→CW,swapsWith→CZ,bootBuiltins→C8,sizeLine_eq→C9,CmpOp→Dg,wpAny_seqItems→Dr,codeAny_call_builtin→Dy,wpAny_callSpecial?_slot→DG,wpAny_setField_rec→DQ,swappedStores→DW,wpAny_standAt→DX,OwnTail→D7,NameKind→Eg,codeAny_mono→Eh,rawInt→Ei,attributeBase→Eo,wpAny_Call_Name_kw→Eu,wpAny_pyIter_tuple→Ev,GenState→Ey,wpAny_pyIter_list→EE,IsPair→EH,Keyword→EI,intKind→EK,IsTupleKey→ET,wpAny_call_entry→EU,ExceptHandler→E5,wpAny_newFunctionEnv_cells→E7,codeAny→E9,sliceBounds→Fa,wpAny_isSubtype_exc→Ff,wpAny_execs_nil→Fw,wpAny_passesOwn→Fx,Operator→FE,PassesOwn→FH,wpAny_call→FL,wpAny_setField→FN,swapsWithSole→F8,wpAny_onRaise→F9,checkBuiltinCall→Gd,BindsTo→Gn,codeAny_call_function→Go,IsZip→Gw,codeAny_builtin→Gy,letOwnedTupleGo→Gz,wpAny_updateSeq_pair→GA,Sem→GN,recursionLimit→GO,Model→G2,noteFrame→G9,pushCells→Ha,pyNext→Hb,seqIndex?→Hc,behindInMarks→Hg,wpAny_setState_of→Hu,OsState→Hy,callerA→Hz,standAt→HA,ExcBaseFacts→HI,IsPart→HJ,Paired→HK,wpAny_execs_cons→HL,Drawn→Ie,pushCells_keeps→Ih,setFlight→Ii,keywordEach→Im,Result→IH,isTrue→IK,newFunctionEnv→IL,notedBy→IM,bindArgs→IP,bindC→IQ,bindL→IR,builtinsNs→IS,isInstance→IT,numAt→IU,Comprehension→Jr,callSpecial?→JD,codeAny_func→JE,concat_meets→JF,lastMarks→JG,onTheHeap→JH,preSum→JI,seqIndex_neg→JJ,UnaryOp→J5,getItem→J6,setItem→J7,hashByValue→Kc,seqIndex_of→Kd,wpAny_letGo→Ke,wpAny_of_eq→Kf,backToKw→Kg,handleBy→Kh,PyData→KY,StoreFacts→K0,call→K2,call_meets→K3,pyIter→K4,sysModules→K5,wpAny_Name→K6,wpAny_rule→K7,Arguments→Mm,IntMulOk→Ms,Params→Mt,SetTable→Mu,intItems→Mv,call_sum_walkG→aU,codeAny_of_tree→aV,firstArgMember→aW,isSubtype_type→aX,noFill_tuple_add→aY,refuseLoop_ref→aZ,slot_list_getitem→bA,wpAny_assign_Name→bB,wpAny_comprehension_free→bD,wpAny_pyIter_enum→bE,wpAny_pyIter_zip→bF,wpAny_pyNext_list_end→bG,wpAny_pyNext_list_item→bH,wpAny_specialOf→bJ
open PySem.Heap renaming get?_push_of_some→Ar,lt_size→AB,get?_push_size→AH,size_push→Bz,get?_update_self→Cn,get?_update_other→CB,get?_none_of_le→Dx,SameBut→Ef,ExtBut→Il,MadeExcOf→IG,get?_push_at→ZS,get?_push_cases→ZT,get?_update_ne→ZU
open List renaming mem_cons→Av,mem_cons_of_mem→Aw,mem_cons_self→Ay,size_toArray→AA,not_mem_nil→AR,getElem?_eq_some_iff→A2,length_set→A5,range→A6,getElem?_eq_getElem→Be,length_map→Bi,mem_singleton→Bl,length_cons→Bm,mem_range→Bp,getD_eq_getElem?_getD→Bq,mem_append_right→Bt,mem_filter→BU,nodup_cons→BV,lookup_cons→Cc,map_cons→Cj,append_nil→Cq,length_append→Cu,findSome?_eq_none_iff→Cy,isEmpty_eq_false_iff→CJ,getElem?_set_self→C5,mem_map→C7,mem_append_left→Du,getElem_mem→DH,nodup_nil→DI,getElem?_map→DY,all_eq_true→D9,exists_of_findSome?_eq_some→Ea,filter_cons→Eb,zipWith→Ec,range_succ_eq_map→Ew,any_eq_true→EQ,getElem_of_mem→Fd,map_congr_left→Fe,drop_eq_getElem_cons→Fp,getElem?_append_left→Fq,mem_append→Fs,toArray→FB,getElem?_set_self'→FO,lookup→F0,all_cons→F4,length_drop→Ga,length_take→Gb,getElem?_set_ne→Gp,map_map→Gq,of_mem_zip→Gr,filterMap_cons→GI,findSome?_cons→GJ,forIn_nil→GL,replicate→GM,contains_cons→G4,any_cons→He,getElem?_set→Hq,length_range→Hr,isEmpty_iff→HF,forIn_cons→Ic,map_nil→Jx,map→Mq,all_map→Yr,any_map→Ys,contains_eq_mem→Yu,drop_eq_nil_of_le→Yv,ext_getElem?→Yw,getElem?_append_right→Yx,getElem?_cons_succ→Yy,getElem?_cons_zero→Yz,getElem?_replicate→YA,getElem?_toArray→YB,length→YC,length_nil→YD,length_replicate→YE,length_singleton→YF,map_append→YG,mem_map_of_mem→YH,mem_of_getElem?→YI,mem_or_eq_of_mem_set→YJ,perm_append_comm→YK,reverse_cons→YL,set_set→YM,take_of_length_le→YN,zipIdx_cons→YO,zipIdx_nil→YQ
open Nat renaming lt_of_lt_of_le→AI,le_refl→AU,ne_of_lt→A1,lt_irrefl→Bx,lt_succ_of_lt→Ch,le_trans→Cz,ble→C2,le_of_ble_eq_true→Dp,lt_succ_self→DJ,ne_of_gt→Ed,pow_le_pow_right→ER,zero_le→E8,lt_of_le_of_lt→FC,le_of_lt→Gs,le_succ→G1,lt_or_gt_of_ne→G5,le_add_right→HG,mod_eq_of_lt→HH,min_self→YR,not_lt→YS,not_lt_zero→YT,pow_succ→YU,zero_add→YV
open PySem.W renaming findIn→AM,nsIn→Bv,mg_none_of→BE,subIn→BQ,keepIn→B2,mg_of→Ck,fnOf→Co,looks_findIn→Cv,mroIn→CO,kitOne→CS,clsIn→DD,typeIn→DK,codeIn→D8,specialIn→ED,findCls→Fu,readsIn→Fv,OpenLaw→F2,cellsFrom_some→F3,callWith_K→G7,codeRec_of→G8,methodObj→Ht,kitAny→IJ,excIn→Ju,WalkO→aL,isNs_of_in→aM,kIn_of→aN,kitMeta→aO,looks_subIn→aP,nsOkIn→aQ,tail_of_in→aR
open Int renaming emod_eq_of_lt→AT,emod_lt_of_pos→Bf,zero_emod→Bk,emod_nonneg→Bo,emod_emod_of_dvd→Br,mul_comm→BH,mul_emod→BJ,dvd_refl→Cm,mul_zero→C4,one_mul→Dt,mul_one→DO,zero_mul→DP,zero_add→FA,mul_assoc→Hd,toNat_natCast→Ho,mul_pos→Ik,le_trans→Jw,le_refl→J8,neg_neg→J9,add_emod→Yj,dvd_neg→Yk,emod_eq_zero_of_dvd→Yl,mul_nonneg→Ym,sub_emod→Yn,sub_zero→Yo,zero_sub→Yp
open PySem.Str renaming ofString→AY,empty→JC
open False renaming elim→Bc
open Option.some renaming inj→Bj,injEq→Ci
open Prod renaming ext→BF
open PySem.Builtin.SmallTypes renaming nextOf→BL,ownedTupleIsFree→CQ,ownedTupleHandOut→Zb
open PyProof.Rows renaming callWith_type1→BR,envOfC→EG,AllBare→FK,boot_list→F1,boot_isinstance→Gu,IntsAre→Hx,Call_→IN,IsTup→KU,boot_range→KW,boot_int→Y_1,boot_tuple→Y_2,callWith_builtin1→Y_3,slicePart_none→Y_4,slot_tuple_getitem→Y_5,subscriptTail_builtinR→Y_6
open PySem.NameKind renaming cell→BY,free→DV
open PySem.Value renaming ref→Cf,builtin→Dh,none→Di,type→Hw,bool→K1,int→Mo,str→Mp,bytes→aH,float→aI
open Ne renaming symm→CP
open Array renaming getElem?_eq_some_iff→De,length_toList→Fb,getElem?_eq_getElem→Fo,toList→Jv,getElem?_toList→Yb,getElem_mem→Yc,mem_iff_getElem→Yd
open PySem.Obj renaming data_mapFields→Dq,isFreed_of_fields→EJ,mapFields→F6,mapSeq→Hv,cls_mapFields→ZW
open Classical renaming byContradiction→Ds,choose_spec→EF,choose→Yh
open PySem.SetTable renaming insertAt→DC,bits→F7,below→II,fits→Js,has→JB,runEnd→Z_4,slot→Z_5
open PySem.PyData renaming shownAll→DT,depthAll→Ig,hasDictAll→ZZ,showableAll→Z_0
open PySem.F renaming slot_tuple_iterator_next→DU,plainAttrs_list→Ek,excBase_ValueError→E6,attr_ValueError→FR,slot_zip_next→Gv,args_tuple_add_2→ZG,args_tuple_iterator_next_1→ZH,args_zip_next_1→ZI,entry_bexc_ga→ZJ,entry_tuple_add→ZK,entry_tuple_iterator_next→ZL,entry_zip_next→ZM,slot_list_append→ZN,slot_tuple_add→ZO,typeOf_object_class→ZP,type_list_append→ZQ
open PySem.Builtin.Slice renaming slicePlaces→D0,sliceAdjust→Ft,sliceApplied→Za
open PySem.Builtin.Tuple renaming tupleExact→Ee
open ForInStep renaming yield→Er
open PySem.Calls renaming evalArgs_plain→ES,spliced_nil→FQ,spliced_cons→G6,Name_function_global→Zc,callWith_builtin→Zd
open PySem.Code renaming quiet_builtin→FD,isFrame→Jz,frames→Ze
open PyProof.Rows.F renaming plain_set_update_loop→FP,entry_set_update_loop→Y_0
open PySem.SeqAt renaming EqAt→Gx,RcNeAt→JA,RcAt→KZ
open PySem.Heap.SameBut renaming update→GK,refl→ZR
open Prod.mk renaming injEq→Hf
open PySem.SetTable.probe renaming go→Hs
open Sum renaming inl→HB,inr→HC
open PySem.Value.ref renaming inj→Jt
open PySem.Around renaming under→Jy,under_plainId→Y_7
open PySem.Shared renaming heap→Ka
open PySem.Walks renaming tuple→Kb,list→aS
open NeZero renaming ne→Mk
open PyProof.Rows.IsTup renaming new→Ml
open PySem.Data renaming cell→Mn,seq→Mr
open Function renaming comp_def→Yi
open List.Perm renaming refl→Yq
open List.cons renaming injEq→Yt
open PySem.Builtin.Int renaming intBits→Y_8
open PySem.Builtin.ObjectAttr renaming storeInDict→Y_9
open PySem.EntryCells renaming newEntry→Zf
open PySem.Expr renaming Attribute→Zg,BinOp→Zi,BoolOp→Zk,Call→Zm,Compare→Zo,Constant→Zq,List→Zs,ListComp→Zu,Name→Zw,Slice→Zy,Subscript→ZA,Tuple→ZC,UnaryOp→ZE
open PySem.Expr.Attribute renaming elim→Zh
open PySem.Expr.BinOp renaming elim→Zj
open PySem.Expr.BoolOp renaming elim→Zl
open PySem.Expr.Call renaming elim→Zn
open PySem.Expr.Compare renaming elim→Zp
open PySem.Expr.Constant renaming elim→Zr
open PySem.Expr.List renaming elim→Zt
open PySem.Expr.ListComp renaming elim→Zv
open PySem.Expr.Name renaming elim→Zx
open PySem.Expr.Slice renaming elim→Zz
open PySem.Expr.Subscript renaming elim→ZB
open PySem.Expr.Tuple renaming elim→ZD
open PySem.Expr.UnaryOp renaming elim→ZF
open PySem.IsRange renaming new→ZV
open PySem.Paired renaming length→ZX
open PySem.PassesOwn renaming leaving→ZY
open PySem.SeqAt.EqAt renaming of_refs→Z_1,same→Z_2
open PySem.Stmt renaming Assign→Z_6,Expr→Z_8,Raise→aD,Return→aF
open PySem.Stmt.Assign renaming elim→Z_7
open PySem.Stmt.Expr renaming elim→Z_9
open PySem.Stmt.For renaming elim→aA
open PySem.Stmt.If renaming elim→aC
open PySem.Stmt.Raise renaming elim→aE
open PySem.Stmt.Return renaming elim→aG
open PySem.W.WData renaming int→aJ
open PySem.W.WShape renaming has→aK
abbrev Fg:=PySem.W.Frag
abbrev Pn:=Ac (PySem.Addr×PySem.Obj)
abbrev Vq:=PySem.Value->PySem.Shared->Prop
set_option genSizeOfSpec false
-- CHANGE: your row's module here,as the last of these rows
namespace L2
open PySem PySem.Spec PyProof.Rows
abbrev Key:=Sum Af Ah
noncomputable def XF:Key->Aj->Ai
 |.inl k,v=>Value.isInt k v
 |.inr x,v=>Value.isStrOf x v
noncomputable def cU(w:AZ):Key->Af
 |.inl k=>hashInt k
 |.inr x=>hashStr w x
theorem IX:∀{k:Key}{v:Aj},XF k v=Ab->(∃ i t,k=HB i/\v=Mo i t)\/(∃ x t,k=HC x/\v=Mp x t)
 |.inl i,v,h=>by
  obtain⟨t,e⟩:=Value.isInt_shape (k:=i) (v:=v) h;exact .inl ⟨i,t,rfl,e⟩
 |.inr x,v,h=>by
  obtain⟨t,e⟩:=Value.isStrOf_shape (x:=x) (v:=v) h;exact .inr ⟨x,t,rfl,e⟩
theorem wG(a b:Af):decide ((HB a:Key)=HB b)=(a==b):=by
 by_cases e:a=b
 .subst e;simp
 .have h:¬ (HB a:Key)=HB b:=λq=>e (Sum.inl.inj q)
  rw[C1 h];exact(C3.mpr e).symm
theorem wD(a b:Ah):decide ((HC a:Key)=HC b)=decide (a=b):=by
 by_cases e:a=b
 .subst e;simp
 .have h:¬ (HC a:Key)=HC b:=λq=>e (Sum.inr.inj q)
  rw[C1 h,C1 e]
theorem wF(a:Af)(b:Ah):decide ((HB a:Key)=HC b)=Ad:=C1 (λq=>nomatch q)
theorem wE(a:Ah)(b:Af):decide ((HC a:Key)=HB b)=Ad:=C1 (λq=>nomatch q)
noncomputable def QD(prog:AK)(w:AZ):PySem.KeyKind prog w Key where
 is:=XF
 hash:=cU w
 inj:=λv a b ha hb=>by
  rcases IX ha with ⟨i,t,rfl,rfl⟩|⟨x,t,rfl,rfl⟩
  .rcases IX hb with ⟨j,u,rfl,e⟩|⟨y,u,rfl,e⟩
   .injection e with e1 _;rw[e1]
   .exact nomatch e
  .rcases IX hb with ⟨j,u,rfl,e⟩|⟨y,u,rfl,e⟩
   .exact nomatch e
   .injection e with e1 _;rw[e1]
 byValue:=λk v h=>by
  rcases IX h with ⟨i,t,rfl,rfl⟩|⟨x,t,rfl,rfl⟩<;>rfl
 pyHash:=λhv h=>by
  rcases IX hv with ⟨i,t,rfl,rfl⟩|⟨x,t,rfl,rfl⟩
  .exact wpAny_pyHash_int h
  .exact wpAny_pyHash_str h
 eqBool:=λhu hv h=>by
  rcases IX hu with ⟨i,t,rfl,rfl⟩|⟨x,t,rfl,rfl⟩
  .rcases IX hv with ⟨j,u,rfl,rfl⟩|⟨y,u,rfl,rfl⟩
   .rw[wG]at h;exact wpAny_eqBool_int h
   .rw[wF]at h;exact SeqAt.EqAt.int_str i t y u _ _ _ _ h
  .rcases IX hv with ⟨j,u,rfl,rfl⟩|⟨y,u,rfl,rfl⟩
   .rw[wE]at h;exact SeqAt.EqAt.str_int x t j u _ _ _ _ h
   .rw[wD]at h;exact wpAny_eqBool_str h
 «strs»:=λk x t v h=>by
  rcases IX h with ⟨i,u,rfl,e⟩|⟨y,u,rfl,e⟩
  .exact nomatch e
  .injection e with e1 _
   subst e1;cases v<;>rfl
end L2
namespace L2
open PySem PySem.Spec PyProof.Rows
variable{us:Ac Aj}{a b it:Al}{P:AK}{h:AD}{o:CU}{g':Ba Ey}{t' i k n:Ag}{d':Ie}{ch fp:Ac Al}{x qual:Ah}{M:G2}{u:Aj}{Q:Ge->Ap->Prop}{e tg:Am}{s:Ap}{pos p:AG}{pI:Pn}{es:Ac Am}{body:Ac AO}{f:Aj->Aj->GN Aj}{g:Af->Af->Af}{op:Dg}{kw:Ac (Ah×Aj)}{fd:BM}{ps:Ac Ah}{scope:B5}
inductive V where
 |non|bl (b:Ai)|int (i:Af)|str (x:Ah)|byt (b:Ba UInt8)|flt (b:UInt64)|ref (a:Al)|ty (n:Da)
 deriving DecidableEq
variable{xs vs:Ac V}{v:V}
def BB:V->Aj->Prop
 |.non,u=>u=Di
 |.bl b,u=>u=K1 b
 |.int i,u=>∃ t,u=Mo i t
 |.str x,u=>∃ t,u=Mp x t
 |.byt b,u=>∃ t,u=aH b t
 |.flt b,u=>∃ t,u=aI b t
 |.ref a,u=>u=Cf a
 |.ty n,u=>u=Hw n
noncomputable abbrev A8:Ac V->Ac Aj->Prop:=HK BB
theorem A8.length(r:A8 xs us):xs.length=us.length:=ZX r
theorem A8.get:∀{xs:Ac V}{us:Ac Aj}{i:Ag}{x:V},A8 xs us->xs[i]?=Aa x->∃ u,us[i]?=Aa u/\BB x u
 |_,_,_,_,.nil,e=>by simp at e
 |_,_,0,_,.cons r _,e=>by simp at e;subst e;exact⟨_,rfl,r⟩
 |_,_,i+1,x,.cons _ t,e=>by
  obtain⟨u,h1,h2⟩:=A8.get (i:=i) (x:=x) t (by simpa using e)
  exact⟨u,by simpa using h1,h2⟩
theorem A8.set{x:V}{u:Aj}(r:BB x u):∀{xs:Ac V}{us:Ac Aj}(i:Ag),A8 xs us->A8 (xs.set i x) (us.set i u)
 |_,_,_,.nil=>.nil
 |_,_,0,.cons _ t=>.cons r t
 |_,_,i+1,.cons q t=>.cons q (A8.set r i t)
theorem A8.append:∀{xs ys:Ac V}{us ws:Ac Aj},A8 xs us->A8 ys ws->A8 (xs++ys) (us++ws)
 |_,_,_,_,.nil,s=>s
 |_,_,_,_,.cons r t,s=>.cons r (A8.append t s)
theorem A8.take:∀{xs:Ac V}{us:Ac Aj}(n:Ag),A8 xs us->A8 (xs.take n) (us.take n)
 |_,_,0,_=>.nil
 |_,_,_+1,.nil=>.nil
 |_,_,n+1,.cons r t=>.cons r (A8.take n t)
theorem A8.drop:∀{xs:Ac V}{us:Ac Aj}(n:Ag),A8 xs us->A8 (xs.drop n) (us.drop n)
 |_,_,0,r=>r
 |_,_,_+1,.nil=>.nil
 |_,_,n+1,.cons _ t=>A8.drop n t
def Nn:Ao V->Ao Aj->Prop
 |some v,Aa u=>BB v u
 |none,Ae=>HM
 |_,_=>AV
def KV{κ:Type}:Ac (κ×V)->Ac (κ×Aj)->Prop:=HK fun(p:κ×V)(q:κ×Aj)=>p.1=q.1/\BB p.2 q.2
noncomputable def kV:Key->V
 |.inl i=>.int i
 |.inr x=>.str x
inductive HO where
 /-- a list -/
 |lst (xs:Ac V)
 /-- a tuple (never changes) -/
 |tup (xs:Ac V)
 /-- a dict whose keys are ints and texts;one whose keys are tuples of ints and texts (the empty one is both) -/
 |dK (kvs:Ac (Key×V))|dT (kvs:Ac (Ac Key×V))
 /-- a set of ints: its members,its size -/
 |set (S:Af->Ai) (n:Ag)
 /-- an instance of the class at C,its dict at dx,its attributes -/
 |ins (C dx:Al) (fs:Ac (Ah×V))
 /-- the dict of the instance at x -/
 |own (x:Al)
 /-- the dict of an exception -/
 |xd (fs:Ac (Ah×V))
 /-- a bound method,f of x -/
 |met (f x:Al)
 /-- a range object lo,lo+1,.. below hi -/
 |rng (lo hi:Af)
 /-- a thing that is known to the object (the script;a dict while a loop walks it): read,never written while it is so -/
 |frz (o:CU) (u:HO)
 /-- a code object's table -/
 |tbl (ps:Ba Aj)
 /-- any other thing,by what is Ab of its one object (a def of one's own: SetO a S n:=HO.ext fun h=>..) -/
 |ext (φ:AD->Prop)
abbrev Hp:=Al->Ao HO
variable{H:Hp}
noncomputable def upd(H:Hp)(a:Al)(o:HO):Hp:=λb=>if b=a then Aa o else H b
theorem EM{o:HO}:upd H a o a=Aa o:=by unfold upd;rw[Ax rfl]
theorem Bw{o:HO}(h:b≠a):upd H a o b=H b:=by unfold upd;rw[AC h]
theorem VF{o u:HO}:upd (upd H a o) a u=upd H a u:=by
 funext b;unfold upd;split<;>rfl
theorem FT{o:HO}(h:H a=Aa o)(h':H b=Ae):a≠b:=by
 intro e;subst e;rw[h]at h';cases h'
section
variable(P:AK)(w:AZ)
def ObjOk(H:Hp)(h:AD)(a:Al):HO->Prop
  |.lst xs=>xs.length<=sizeLine/\∃(its:Ac Aj)(n:Ag),A8 xs its/\h.get? a=Aa { cls:=.type "list",data:=.seq its.toArray n }
  |.tup xs=>xs.length<=sizeLine/\∃ its:Ac Aj,A8 xs its/\KU h a its.toArray
  |.dK kvs=>kvs.length<=sizeLine/\(a==K5)=Ad/\∃ vs,KV kvs vs/\h.DictOf (QD P w) a vs
  |.dT kvs=>kvs.length<=sizeLine/\(a==K5)=Ad/\∃ xs:Ac (Ac Key×Al×Aj),
      HK (fun(p:Ac Key×V)(q:Ac Key×Al×Aj)=>p.1=q.1/\H q.2.1=Aa (.tup (p.1.map kV))/\BB p.2 q.2.2) kvs xs /\
      ∃ o es ep,h.get? a=Aa o/\o.ExactDict/\o.data=.dict es ep/\es.toList=xs.map (entryOfKey (tupleKind (QD P w)))/\(xs.map (·.1)).Nodup
  |.set S n=>h.SetOf (EK P w) a S n
  |.ins C dx fs=>H dx=Aa (.own a)/\fs.length<=1000/\dx≠a/\h.get? a=Aa (PySem.W.instObj C dx) /\
      ∃ mA,h.Ns1 dx mA/\(∀ f,Nn (fs.lookup f) (mA f))/\PySem.Within mA (fs.map (·.1))
  |.own _=>∃ o,h.get? a=Aa o
  |.xd fs=>∃ mA,h.Ns1 a mA/\∀ f,Nn (fs.lookup f) (mA f)
  |.rng lo hi=>∃ t u v,h.get? a=Aa { cls:=.type "range",data:=.fields #[.int lo t,.int hi u,.int 1 v] }
  |.frz o u=>h.get? a=Aa o/\ObjOk H h a u
  |.tbl ps=>h.get? a=Aa {cls:=.none,data:=.fields ps}
  |.met f x=>h.get? a=Aa (Ht (.ref f) (.ref x))
  |.ext φ=>φ h/\(∃ o,h.get? a=Aa o)/\∀ h1 h2:AD,φ h1->(∀ o,h1.get? a=Aa o->h2.get? a=Aa o)->φ h2
def HOk(H:Hp)(h:AD):Prop:=∀ a o,H a=Aa o->ObjOk P w H h a o
end
section
variable{P:AK}{w:AZ}{H H':Hp}{h h':AD}{a:Al}{o:HO}
theorem ObjOk.lt(x:ObjOk P w H h a o):a<h.objs.size:=by
 cases o with
 |lst xs=>obtain⟨_,_,_,_,e⟩:=x;exact AB e
 |tup xs=>obtain⟨_,_,_,p⟩:=x;exact p.lt
 |dK kvs=>obtain⟨_,_,_,_,o,_,_,e,_⟩:=x;exact AB e
 |dT kvs=>obtain⟨_,_,_,_,o,_,_,e,_⟩:=x;exact AB e
 |set S n=>obtain⟨o,_,_,_,e,_⟩:=x;exact AB e
 |ins C dx fs=>obtain⟨_,_,_,e,_⟩:=x;exact AB e
 |own y=>obtain⟨_,e⟩:=x;exact AB e
 |xd fs=>obtain⟨_,⟨_,_,_,e,_⟩,_⟩:=x;exact AB e
 |rng lo hi=>obtain⟨_,_,_,e⟩:=x;exact AB e
 |frz ob u=>obtain⟨e,_⟩:=x;exact AB e
 |tbl ps=>exact AB (show h.get? a=Aa _ from x)
 |met f y=>exact AB (show h.get? a=Aa _ from x)
 |ext φ=>obtain⟨_,⟨_,e⟩,_⟩:=x;exact AB e
theorem HK.mapP{α β:Type}{F G:α->β->Prop}:∀{l₁:Ac α}{l₂:Ac β},HK F l₁ l₂->(∀ a b,F a b->G a b)->HK G l₁ l₂
 |_,_,.nil,_=>.nil
 |_,_,.cons r t,f=>.cons (f _ _ r) (HK.mapP t f)
theorem ObjOk.stay(x:ObjOk P w H h a o)(k:∀ b u,(b=a\/H b=Aa (.own a))->h.get? b=Aa u->h'.get? b=Aa u)(ho:∀ b,H b=Aa (.own a)->H' b=Aa (.own a))(ht:∀ b xs,H b=Aa (.tup xs)->H' b=Aa (.tup xs)):ObjOk P w H' h' a o:=by
 induction o with
 |lst xs=>obtain⟨z,its,n,r,e⟩:=x;exact⟨z,its,n,r,k _ _ (.inl rfl) e⟩
 |tup xs=>obtain⟨z,its,r,ob,e,c⟩:=x;exact⟨z,its,r,ob,k _ _ (.inl rfl) e,c⟩
 |dK kvs=>obtain⟨z,y,vs,r,ob,es,ep,e,c⟩:=x;exact⟨z,y,vs,r,ob,es,ep,k _ _ (.inl rfl) e,c⟩
 |dT kvs=>
  obtain⟨z,y,xs,r,ob,es,ep,e,c⟩:=x;exact⟨z,y,xs,HK.mapP r λp q z=>⟨z.1,ht _ _ z.2.1,z.2.2⟩,ob,es,ep,k _ _ (.inl rfl) e,c⟩
 |set S n=>obtain⟨ob,es,ep,t,e,c⟩:=x;exact⟨ob,es,ep,t,k _ _ (.inl rfl) e,c⟩
 |ins C dx fs=>
  obtain⟨d,z,ne,e,mA,⟨od,es,ep,e2,c⟩,r⟩:=x;exact⟨ho _ d,z,ne,k _ _ (.inl rfl) e,mA,⟨od,es,ep,k _ _ (.inr d) e2,c⟩,r⟩
 |own y=>obtain⟨ob,e⟩:=x;exact⟨ob,k _ _ (.inl rfl) e⟩
 |xd fs=>obtain⟨mA,⟨od,es,ep,e,c⟩,r⟩:=x;exact⟨mA,⟨od,es,ep,k _ _ (.inl rfl) e,c⟩,r⟩
 |rng lo hi=>obtain⟨t,u,v,e⟩:=x;exact⟨t,u,v,k _ _ (.inl rfl) e⟩
 |frz ob u ih=>obtain⟨e,q⟩:=x;exact⟨k _ _ (.inl rfl) e,ih q⟩
 |tbl ps=>
  have e:h.get? a=Aa {cls:=.none,data:=.fields ps}:=x;show h'.get? a=Aa {cls:=.none,data:=.fields ps};exact k a _ (.inl rfl) e
 |met f y=>
  have e:h.get? a=Aa (Ht (.ref f) (.ref y)):=x;show h'.get? a=Aa (Ht (.ref f) (.ref y));exact k a _ (.inl rfl) e
 |ext φ=>obtain⟨p,⟨o,e⟩,st⟩:=x;exact⟨st _ _ p λo q=>k _ _ (.inl rfl) q,⟨o,k _ _ (.inl rfl) e⟩,st⟩
theorem HOk.lt(x:HOk P w H h)(e:H a=Aa o):a<h.objs.size:=(x a o e).lt
theorem HOk.fresh(x:HOk P w H h)(e:h.objs.size<=a):H a=Ae:=by
 cases q:H a with
 |none=>rfl
 |some u=>exact absurd (AI (x.lt q) e) (Bx _)
theorem HOk.kept(x:HOk P w H h)(k:∀ b u,h.get? b=Aa u->h'.get? b=Aa u):HOk P w H h':=λa o e=>
 (x a o e).stay (λb u _ q=>k b u q) (λ_ q=>q) λ_ _ q=>q
theorem HOk.laid(x:HOk P w H h)(k:∀ b u,h.get? b=Aa u->h'.get? b=Aa u)(hp:h.objs.size<=a)(new:ObjOk P w (upd H a o) h' a o):HOk P w (upd H a o) h':=λb u e=>by
 have hn:=x.fresh hp;by_cases hb:b=a
 .subst hb;rw[EM]at e;cases e;exact new
 .rw[Bw hb]at e;exact(x b u e).stay (λc v _ q=>k c v q) (λc q=>by rw[Bw (FT q hn)];exact q) λc xs q=>by rw[Bw (FT q hn)];exact q
end
def Rd(H:Hp)(a:Al)(u:HO):Prop:=H a=Aa u\/∃ o,H a=Aa (.frz o u)
theorem Rd.ok{w:AZ}{u:HO}(r:Rd H a u)(x:HOk P w H h):ObjOk P w H h a u:=by
 rcases r with r|⟨o,r⟩
 .exact x a u r
 .obtain⟨_,q⟩:=x a _ r;exact q
def Mut:Ao HO->Prop
 |some (.lst _)=>HM
 |some (.dK _)=>HM
 |some (.dT _)=>HM
 |some (.set _ _)=>HM
 |some (.ins _ _ _)=>HM
 |some (.ext _)=>HM
 |_=>AV
section
variable{P:AK}{w:AZ}{H:Hp}{h h':AD}{x e:Al}{o':HO}
theorem HOk.write(ok:HOk P w H h)(mu:Mut (H x))(he:e=x\/H e=Aa (.own x))(k:∀ b u,b≠e->h.get? b=Aa u->h'.get? b=Aa u)(heo:∃ u,h'.get? e=Aa u)(new:ObjOk P w (upd H x o') h' x o'):HOk P w (upd H x o') h':=λb u q=>by
 have nown:∀ c y,H c=Aa (.own y)->c≠x:=λc y r z=>by subst z;rw[r]at mu;exact mu
 have ntup:∀ c xs,H c=Aa (.tup xs)->c≠x:=λc xs r z=>by subst z;rw[r]at mu;exact mu
 by_cases hb:b=x
 .subst hb;rw[EM]at q;cases q;exact new
 .rw[Bw hb]at q;by_cases hbe:b=e
  .have q':H b=Aa (.own x):=by
    rcases he with z|z
    .exact absurd (hbe.trans z) hb
    .rw[hbe];exact z
   rw[q]at q';cases q';obtain⟨v,hv⟩:=heo;exact⟨v,by rw[hbe];exact hv⟩
  .refine(ok b u q).stay (λc v hc r=>k c v ?_ r) (λc r=>by rw[Bw (nown c b r)];exact r) λc xs r=>by rw[Bw (ntup c xs r)];exact r
   rcases hc with rfl|hc
   .exact hbe
   .rintro rfl;rcases he with z|z
    .exact nown c b hc z
    .rw[hc]at z;cases z;exact hb rfl
end
structure Un (fs ex:Ac Al) (H H':Hp) (h h':AD):Prop where
 keep:∀ b o,h.get? b=Aa o->H b=Ae->b∉fs->b∉ex->h'.get? b=Aa o
 slot:∀ b o,h.get? b=Aa o->H b=Ae->b∈fs->b∉ex->∃ sl,h'.get? b=Aa {o with slots:=sl}
 free:∀ b o,h.get? b=Aa o->H b=Ae->b∉ex->H' b=Ae
 there:∀ b o,h.get? b=Aa o->b∉ex->∃ o',h'.get? b=Aa o'
 tups:∀ b xs,H b=Aa (.tup xs)->H' b=Aa (.tup xs)
 frzs:∀ b o u,H b=Aa (.frz o u)->H' b=Aa (.frz o u)
 tbls:∀ b ps,H b=Aa (.tbl ps)->∃ more,H' b=Aa (.tbl (ps++more))
section
variable{fs fs' ex ex':Ac Al}{H H1 H2:Hp}{h h1 h2 h':AD}{a x e:Al}{o:HO}
theorem Un.any(u:Un fs ex H H1 h h1){ob:CU}(q:h.get? b=Aa ob)(n:H b=Ae)(hx:b∉ex):∃ sl,h1.get? b=Aa {ob with slots:=sl}:=by
 by_cases hb:b∈fs
 .exact u.slot b ob q n hb hx
 .exact⟨ob.slots,u.keep b ob q n hb hx⟩
theorem Un.kept(k:∀ b u,h.get? b=Aa u->h'.get? b=Aa u):Un fs ex H H h h':=
 ⟨λb ob q _ _ _=>k b ob q,λb ob q _ _ _=>⟨ob.slots,k b ob q⟩,λ_ _ _ n _=>n,λb ob q _=>⟨ob,k b ob q⟩,λ_ _ q=>q,λ_ _ _ q=>q,λ_ ps q=>⟨#[],by rw[q];simp⟩⟩
theorem Un.refl:Un fs ex H H h h:=Un.kept λ_ _ q=>q
theorem Un.laid(k:∀ b u,h.get? b=Aa u->h'.get? b=Aa u)(hp:h.objs.size<=a)(hn:H a=Ae):Un fs ex H (upd H a o) h h' where
 keep:=λb u q _ _ _=>k b u q
 slot:=λb u q _ _ _=>⟨u.slots,k b u q⟩
 free:=λb u q n _=>by rw[Bw (A1 (AI (AB q) hp))];exact n
 there:=λb u q _=>⟨u,k b u q⟩
 tups:=λb xs q=>by rw[Bw (FT q hn)];exact q
 frzs:=λb u xs q=>by rw[Bw (FT q hn)];exact q
 tbls:=λb ps q=>⟨#[],by rw[Bw (FT q hn),q];simp⟩
theorem Un.write(mu:Mut (H x))(he:e=x\/H e=Aa (.own x))(k:∀ b u,b≠e->h.get? b=Aa u->h'.get? b=Aa u)(heo:∃ u,h'.get? e=Aa u):Un fs ex H (upd H x o) h h':=by
 have hx:∀ b,H b=Ae->b≠x:=λb n z=>by subst z;rw[n]at mu;exact mu
 have hb:∀ b,H b=Ae->b≠e:=λb n z=>by
  subst z;rcases he with r|r
  .exact hx b n r
  .rw[n]at r;cases r
 have hm:∀ b u,H b=Aa u->¬ Mut (Aa u)->b≠x:=λb u q nm z=>by subst z;rw[q]at mu;exact nm mu
 refine⟨λb u q n _ _=>k b u (hb b n) q,λb u q n _ _=>⟨u.slots,k b u (hb b n) q⟩,λb u q n _=>by rw[Bw (hx b n)];exact n,λb u q _=>?_,
  λb xs q=>by rw[Bw (hm b _ q λz=>z)];exact q,λb u xs q=>by rw[Bw (hm b _ q λz=>z)];exact q,λb ps q=>⟨#[],by rw[Bw (hm b _ q λz=>z),q];simp⟩⟩
 by_cases hbe:b=e
 .subst hbe;exact heo
 .exact⟨u,k b u hbe q⟩
end
noncomputable def trk(h:AD)(H:Hp):Ac Al:=(A6 h.objs.size).filter λa=>(H a).isSome
noncomputable def Jn(h:AD)(H:Hp):AD:=PySem.W.hideAll h (trk h H)
theorem hJ(h:AD)(H:Hp):(Jn h H).objs.size=h.objs.size:=PySem.W.hideAll_size _ _
theorem kU(e:h.get? b=Aa o)(n:H b=Ae):(Jn h H).get? b=Aa o:=
 PySem.W.hideAll_get _ e λhm=>by
  have q:(H b).isSome=Ab:=(BU.mp hm).2;rw[n]at q;simp at q
theorem oQ(e:(Jn h H).get? b=Aa o):h.get? b=Aa o/\H b=Ae:=by
 have e':h.get? b=Aa o:=PySem.W.of_hideAll (trk h H) e;refine⟨e',?_⟩;cases q:H b with
 |none=>rfl
 |some x=>
  have hm:b∈trk h H:=BU.mpr ⟨Bp.mpr (AB e'),by simp[q]⟩
  have z:(Jn h H).get? b=Ae:=PySem.W.hideAll_none (trk h H) hm;rw[z]at e;cases e
noncomputable def tI(g h:AD)(L:Al):Pn:=(A6 h.objs.size).filterMap λa=>if a=L\/(g.get? a).isSome=Ab then Ae else (h.get? a).map λo=>(a,o)
noncomputable def rest(g h:AD)(L d:Al):Pn:=(tI g h L).filter λp=>decide (p.1≠d)
structure Mod (K:Fg) (mg:Ah->Ao Aj) (base:AD):Prop where
 kin:K.In base
 glob:base.Ns A3 mg
 blt:∃ mb,base.Ns IS mb/\∀ x:Ah,x≠"__name__"->mb x=C8 x
 nolimit:base.NoLimit
structure Cx where
 prog:AK
 w:AZ
 K:Fg
 mg:Ah->Ao Aj
 base:AD
 A:AX
 N:Ac Ah
 s₀:Ap
 H₀:Hp
 env:B8
 outer:Ac B8
 stack:Ac B8
 ex:Ac Al
 fn:Ah->Ai
 calm:Ai
 pn:Pn
 xe:Aj->Ap->Prop
variable{X:Cx}
noncomputable def frs(l:Ac B8):Ac Al:=l.filterMap (·.frame)
noncomputable abbrev Cx.fs(X:Cx):Ac Al:=frs X.outer
def Vis(sc:B5)(x:Ah):Prop:=sc.names.lookup x=Aa .local\/sc.names.lookup x=Aa .cell\/sc.names.lookup x=Aa .free
def Loc(sc:B5)(x:Ah):Prop:=sc.names.lookup x=Aa .local\/sc.names.lookup x=Aa .cell
noncomputable def cS(env:B8)(h:AD)(m:Ah->Ao Aj)(x:Ah)(u:Aj):Prop:=
 (env.kindOf x=Aa .local/\m x=Aa u)\/((env.kindOf x=Aa .cell\/env.kindOf x=Aa .free)/\∃ c,env.cells.lookup x=Aa c/\h.IsCell c (Aa u))
structure Cx.Ok (X:Cx):Prop where
 mod:Mod X.K X.mg X.base
 kind:X.env.scope.kind=.function
 glob:X.env.globals=A3
 blt:X.env.builtins=IS
 above:X.s₀.heap.objs.size<=X.env.locals
 inj:∀ x y c,X.env.cells.lookup x=Aa c->X.env.cells.lookup y=Aa c->x=y
 has:∀ x,(X.env.kindOf x=Aa .cell\/X.env.kindOf x=Aa .free)->∃ c,X.env.cells.lookup x=Aa c
 cab:∀ x c,X.fn x=Ab->X.env.cells.lookup x=Aa c->X.s₀.heap.objs.size<=c
 hd:X.calm=Ab->X.A.handled=Ae
 frames:X.A.frames=Aa X.stack
 stk:X.stack=X.outer\/(X.stack=X.env::X.outer/\X.env.frame=Aa X.env.locals)
 exf:∀ b∈X.ex,b≠X.env.locals/\∀ x c,X.env.cells.lookup x=Aa c->c≠b
 bs:∀ b o,X.base.get? b=Aa o->X.s₀.heap.get? b=Aa o/\X.H₀ b=Ae
 bsz:X.base.objs.size<=X.s₀.heap.objs.size
 noex:∀ b o,X.base.get? b=Aa o->b∉X.ex
 exfs:∀ b∈X.ex,b∉X.fs
 funs:X.s₀.heap.FunFrames X.base X.outer
 frf:∀ b∈X.fs,X.H₀ b=Ae
structure Inv (X:Cx) (pI:Pn) (Y:Ac (Ao V)) (H:Hp) (s:Ap):Prop where
 ok:X.Ok
 os:s.os=X.s₀.os
 bare:FK s.gens
 base:Un X.fs X.ex X.H₀ H X.s₀.heap s.heap
 loc:∃ m,s.heap.Ns X.env.locals m/\∀(i:Ag)(x:Ah)(v:V),X.N[i]?=Aa x->Y[i]?=Aa (Aa v)->Vis X.env.scope x->∃ u,BB v u/\cS X.env s.heap m x u
 cell:∀ x c,X.env.cells.lookup x=Aa c->∃ v,s.heap.IsCell c v
 free:H X.env.locals=Ae
 freeC:∀ x c,X.env.cells.lookup x=Aa c->H c=Ae
 pin:∀ p∈X.pn++pI,s.heap.get? p.1=Aa p.2/\H p.1=Ae/\p.1≠X.env.locals/\p.1∉X.fs/\∀ v,p.2.data≠.cell v
 hok:HOk X.prog X.w H s.heap
 len:Y.length=X.N.length
section
variable{X:Cx}{pI:Pn}{Y:Ac (Ao V)}{H H':Hp}{s:Ap}{h':AD}
theorem Cx.Ok.nofr(ok:X.Ok)(e:X.base.get? b=Aa o):b∉X.fs:=λhb=>by
 have:=(ok.funs.mem hb).1;rw[e]at this;cases this
theorem Inv.bs(I:Inv X pI Y H s):∀ b o,X.base.get? b=Aa o->s.heap.get? b=Aa o/\H b=Ae:=λb o e=>
 ⟨I.base.keep b o (I.ok.bs b o e).1 (I.ok.bs b o e).2 (I.ok.nofr e) (I.ok.noex b o e),I.base.free b o (I.ok.bs b o e).1 (I.ok.bs b o e).2 (I.ok.noex b o e)⟩
theorem Inv.bk(I:Inv X pI Y H s):∀ b o,X.base.get? b=Aa o->s.heap.get? b=Aa o:=λb o e=>(I.bs b o e).1
theorem Inv.mod(I:Inv X pI Y H s):Mod X.K X.mg X.base:=I.ok.mod
theorem Inv.kIn(I:Inv X pI Y H s):X.K.In s.heap:=I.ok.mod.kin.keeps I.bk
theorem Inv.lt(I:Inv X pI Y H s):X.env.locals<s.heap.objs.size:=let ⟨_,hn,_⟩:=I.loc;hn.lt
theorem Inv.sz(I:Inv X pI Y H s):X.s₀.heap.objs.size<=s.heap.objs.size:=Cz I.ok.above (Gs I.lt)
theorem Inv.nofs(I:Inv X pI Y H s)(h:s.heap.objs.size<=a):a∉X.fs:=λhb=>by
 obtain⟨_,o,ho,_⟩:=I.ok.funs.mem hb;exact absurd (AI (AB ho) (Cz I.sz h)) (Bx _)
theorem Inv.cne(I:Inv X pI Y H s):∀ x c,X.env.cells.lookup x=Aa c->c≠X.env.locals:=λx c e z=>by
 obtain⟨v,o,ho,hd⟩:=I.cell x c e;obtain⟨m,⟨o',es,ep,ho',hd',_⟩,_⟩:=I.loc;rw[z,ho']at ho;cases ho;rw[hd']at hd;cases hd
theorem Inv.funs(I:Inv X pI Y H s):s.heap.FunFrames X.base X.outer:=by
 have all:∀(l:Ac B8),(∀ b∈frs l,b∈X.fs)->X.s₀.heap.FunFrames X.base l->s.heap.FunFrames X.base l:=by
  intro l
  induction l with
  |nil=>intro _ _;trivial
  |cons env r ih=>
   intro hs hl;obtain⟨hk,⟨L,o,hf,hn,ho,hd⟩,hr⟩:=hl;have hL:L∈X.fs:=hs L (by unfold frs;rw[GI,hf];exact Ay)
   obtain⟨sl,e⟩:=I.base.slot L o ho (I.ok.frf L hL) hL λz=>I.ok.exfs L z hL
   exact⟨hk,⟨L,_,hf,hn,e,hd⟩,ih (λb hb=>hs b (by unfold frs;rw[GI,hf];exact Aw _ hb)) hr⟩
 exact all X.outer (λ_ hb=>hb) I.ok.funs
theorem Inv.stack(I:Inv X pI Y H s):s.heap.FunFrames X.base X.stack:=by
 rcases I.ok.stk with e|⟨e,hf⟩
 .rw[e];exact I.funs
 .rw[e];obtain⟨m,hn,_⟩:=I.loc;refine .cons (by rw[I.ok.kind];decide) hf hn ?_ I.funs
  exact Dx (Cz I.ok.bsz I.ok.above)
theorem Inv.stkSub(I:Inv X pI Y H s):∀ b∈frs X.stack,b∈X.env.locals::X.fs:=λb hb=>by
 rcases I.ok.stk with e|⟨e,hf⟩
 .rw[e]at hb;exact Aw _ hb
 .rw[e]at hb;unfold frs at hb;rw[GI,hf]at hb;exact hb
theorem Inv.stkFree(I:Inv X pI Y H s):∀ b∈frs X.stack,H b=Ae:=λb hb=>by
 rcases Av.mp (I.stkSub b hb) with e|hb
 .rw[e];exact I.free
 .obtain⟨_,o,ho,_⟩:=I.ok.funs.mem hb;exact I.base.free b o ho (I.ok.frf b hb) λz=>I.ok.exfs b z hb
theorem Inv.step(I:Inv X pI Y H s)(hch:∀ b∈ch,(b∈X.ex\/X.s₀.heap.objs.size<=b)/\b≠X.env.locals/\(∀ x c,X.env.cells.lookup x=Aa c->c≠b)/\∀ p∈X.pn++pI,p.1≠b)(keep:∀ b o,b≠X.env.locals->b∉X.fs->b∉ch->s.heap.get? b=Aa o->H b=Ae->h'.get? b=Aa o)(slot:∀ b o,b≠X.env.locals->b∈X.fs->b∉ch->s.heap.get? b=Aa o->H b=Ae->∃ sl,h'.get? b=Aa {o with slots:=sl})(free:∀ b o,b∉ch->s.heap.get? b=Aa o->H b=Ae->H' b=Ae)(there:∀ b o,b∉ch->s.heap.get? b=Aa o->∃ o',h'.get? b=Aa o')(tups:∀ b xs,H b=Aa (.tup xs)->H' b=Aa (.tup xs))(frzs:∀ b o u,H b=Aa (.frz o u)->H' b=Aa (.frz o u))(tbls:∀ b ps,H b=Aa (.tbl ps)->∃ more,H' b=Aa (.tbl (ps++more)))(ns:∀ m,s.heap.Ns X.env.locals m->h'.Ns X.env.locals m)(hok:HOk X.prog X.w H' h')(hg:FK g'):Inv X pI Y H' {s with heap:=h',gens:=g',drawn:=d',toks:=t'}:=by
 have neL:∀ b o,X.s₀.heap.get? b=Aa o->b≠X.env.locals:=λb o e=>A1 (AI (AB e) I.ok.above)
 have neC:∀ b o,X.s₀.heap.get? b=Aa o->b∉X.ex->b∉ch:=λb o e hx hb=>by
  rcases (hch b hb).1 with z|z
  .exact hx z
  .exact absurd (AI (AB e) z) (Bx _)
 have cellK:∀ x c,X.env.cells.lookup x=Aa c->∀ v,s.heap.IsCell c v->h'.IsCell c v:=λx c e v ⟨o,ho,hd⟩=>by
  have nch:c∉ch:=λz=>(hch c z).2.2.1 x c e rfl
  by_cases hc:c∈X.fs
  .obtain⟨sl,q⟩:=slot c o (I.cne x c e) hc nch ho (I.freeC x c e);exact⟨_,q,hd⟩
  .exact⟨o,keep c o (I.cne x c e) hc nch ho (I.freeC x c e),hd⟩
 refine⟨I.ok,I.os,hg,⟨λb o e n hb hx=>?_,λb o e n hb hx=>?_,λb o e n hx=>?_,λb o e hx=>?_,λb xs e=>tups b xs (I.base.tups b xs e),λb o xs e=>frzs b o xs (I.base.frzs b o xs e),λb ps e=>?_⟩,?_,λx c e=>?_,?_,λx c e=>?_,λp hp=>?_,hok,I.len⟩
 .exact keep b o (neL b o e) hb (neC b o e hx) (I.base.keep b o e n hb hx) (I.base.free b o e n hx)
 .obtain⟨sl,e1⟩:=I.base.slot b o e n hb hx;obtain⟨sl',e2⟩:=slot b _ (neL b o e) hb (neC b o e hx) e1 (I.base.free b o e n hx);exact⟨sl',e2⟩
 .obtain⟨o',e1⟩:=I.base.there b o e hx;exact free b o' (neC b o e hx) e1 (I.base.free b o e n hx)
 .obtain⟨o',e1⟩:=I.base.there b o e hx;exact there b o' (neC b o e hx) e1
 .obtain⟨m1,e1⟩:=I.base.tbls b ps e;obtain⟨m2,e2⟩:=tbls b _ e1;exact⟨m1++m2,by rw[e2,Array.append_assoc]⟩
 .obtain⟨m,hn,hl⟩:=I.loc;refine⟨m,ns m hn,λi x v e1 e2 e3=>?_⟩
  obtain⟨u,r,l⟩:=hl i x v e1 e2 e3;refine⟨u,r,?_⟩;rcases l with l|⟨k,c,e,z⟩
  .exact .inl l
  .exact .inr ⟨k,c,e,cellK x c e _ z⟩
 .obtain⟨v,z⟩:=I.cell x c e;exact⟨v,cellK x c e v z⟩
 .obtain⟨m,⟨o,_,_,ho,_⟩,_⟩:=I.loc;exact free _ o (λz=>(hch _ z).2.1 rfl) ho I.free
 .obtain⟨v,o,ho,hd⟩:=I.cell x c e;exact free c o (λz=>(hch c z).2.2.1 x c e rfl) ho (I.freeC x c e)
 .obtain⟨e,n,ne,nf,d⟩:=I.pin p hp;have nch:p.1∉ch:=λz=>(hch p.1 z).2.2.2 p hp rfl
  exact⟨keep p.1 p.2 ne nf nch e n,free p.1 p.2 nch e n,ne,nf,d⟩
theorem Inv.un(I:Inv X pI Y H s)(u:Un X.fs [] H H' s.heap h')(hok:HOk X.prog X.w H' h'):Inv X pI Y H' {s with heap:=h',toks:=t'}:=by
 obtain⟨m,⟨o,es,ep,ho,r⟩,_⟩:=id I.loc;obtain⟨sl,hL⟩:=u.any ho I.free (by simp)
 exact I.step (g':=s.gens) (d':=s.drawn) (ch:=[]) (λ_ z=>nomatch z) (λb o _ hb _ e n=>u.keep b o e n hb (by simp)) (λb o _ hb _ e n=>u.slot b o e n hb (by simp)) (λb o _ e n=>u.free b o e n (by simp)) (λb o _ e=>u.there b o e (by simp)) u.tups u.frzs u.tbls (λm' hm=>by
  obtain⟨o',es',ep',ho',r'⟩:=hm;rw[ho]at ho';cases ho';exact⟨_,es',ep',hL,r'⟩) hok I.bare
theorem Inv.call(I:Inv X pI Y H s)(u:Un (frs X.stack) ch H H' s.heap h')(hok:HOk X.prog X.w H' h')(hg:FK g')(hch:∀ b∈ch,(b∈X.ex\/X.s₀.heap.objs.size<=b)/\b≠X.env.locals/\(∀ x c,X.env.cells.lookup x=Aa c->c≠b)/\∀ p∈X.pn++pI,p.1≠b):Inv X pI Y H' {s with heap:=h',gens:=g',drawn:=d',toks:=t'}:=by
 obtain⟨m,⟨o,es,ep,ho,r⟩,_⟩:=id I.loc;obtain⟨sl,hL⟩:=u.any ho I.free λz=>(hch _ z).2.1 rfl
 exact I.step (ch:=ch) hch (λb o hL hb hc e n=>u.keep b o e n (λz=>(Av.mp (I.stkSub b z)).elim hL hb) hc) (λb o _ _ hc e n=>u.any e n hc) (λb o hc e n=>u.free b o e n hc) (λb o hc e=>u.there b o e hc) u.tups u.frzs u.tbls (λm' hm=>by
  obtain⟨o',es',ep',ho',r'⟩:=hm;rw[ho]at ho';cases ho';exact⟨_,es',ep',hL,r'⟩) hok hg
theorem Inv.turned(I:Inv X pI Y H s)(k:∀ b o,b≠it->s.heap.get? b=Aa o->h'.get? b=Aa o)(hn:H it=Ae)(hL:it≠X.env.locals)(h1:it∈X.ex\/X.s₀.heap.objs.size<=it)(h2:∀ x c,X.env.cells.lookup x=Aa c->c≠it)(h3:∀ p∈X.pn++pI,p.1≠it):Inv X pI Y H {s with heap:=h',toks:=t'}:=by
 have nit:∀ b u,H b=Aa u->b≠it:=λb u e z=>by rw[z,hn]at e;cases e
 refine I.step (g':=s.gens) (d':=s.drawn) (ch:=[it]) (λb hb=>?_) (λb o _ _ hc e _=>k b o (λz=>hc (by simp[z])) e) (λb o _ _ hc e _=>⟨o.slots,k b o (λz=>hc (by simp[z])) e⟩) (λ_ _ _ _ n=>n)
  (λb o hc e=>⟨o,k b o (λz=>hc (by simp[z])) e⟩) (λ_ _ e=>e) (λ_ _ _ e=>e) (λb ps e=>⟨#[],by rw[e];simp⟩) (λm hm=>?_) (λb u e=>?_) I.bare
 .have e:b=it:=by simpa using hb
  subst e;exact⟨h1,hL,h2,h3⟩
 .obtain⟨o,es,ep,ho,r⟩:=hm;exact⟨o,es,ep,k _ o (CP hL) ho,r⟩
 .refine(I.hok b u e).stay (λc v hc q=>k c v ?_ q) (λ_ q=>q) λ_ _ q=>q
  rcases hc with z|z
  .rw[z];exact nit b u e
  .exact nit c _ z
theorem Inv.tok(I:Inv X pI Y H s)(t:Ag):Inv X pI Y H {s with toks:=t}:=I.un (h':=s.heap) (t':=t) Un.refl I.hok
theorem Inv.kept{t':Ag}(I:Inv X pI Y H s)(k:∀ b u,s.heap.get? b=Aa u->h'.get? b=Aa u):Inv X pI Y H {s with heap:=h',toks:=t'}:=I.un (Un.kept k) (I.hok.kept k)
theorem Inv.laid{a:Al}{o:HO}{t':Ag}(I:Inv X pI Y H s)(k:∀ b u,s.heap.get? b=Aa u->h'.get? b=Aa u)(hp:s.heap.objs.size<=a)(new:ObjOk X.prog X.w (upd H a o) h' a o):Inv X pI Y (upd H a o) {s with heap:=h',toks:=t'}:=I.un (Un.laid k hp (I.hok.fresh hp)) (I.hok.laid k hp new)
theorem Inv.write{x e:Al}{o:HO}{t':Ag}(I:Inv X pI Y H s)(mu:Mut (H x))(he:e=x\/H e=Aa (.own x))(k:∀ b u,b≠e->s.heap.get? b=Aa u->h'.get? b=Aa u)(heo:∃ u,h'.get? e=Aa u)(new:ObjOk X.prog X.w (upd H x o) h' x o):Inv X pI Y (upd H x o) {s with heap:=h',toks:=t'}:=I.un (Un.write mu he k heo) (I.hok.write mu he k heo new)
theorem Inv.pins_of{pins':Pn}(I:Inv X pI Y H s)(h:∀ p∈pins',s.heap.get? p.1=Aa p.2/\H p.1=Ae/\p.1≠X.env.locals/\p.1∉X.fs/\∀ v,p.2.data≠.cell v):Inv X pins' Y H s:=
 ⟨I.ok,I.os,I.bare,I.base,I.loc,I.cell,I.free,I.freeC,λp hp=>(Fs.mp hp).elim (λz=>I.pin p (Du _ z)) (h p),I.hok,I.len⟩
theorem Qz{N:Ac Ah}(hN:N.Nodup){j:Ag}(a:N[i]?=Aa x)(b:N[j]?=Aa x):i=j:=by
 obtain⟨h1,e1⟩:=A2.mp a;obtain⟨h2,e2⟩:=A2.mp b;exact(List.getElem_inj hN).mp (e1.trans e2.symm)
theorem TY{A:AX}{E:Vq}(I:Inv X pI Y H s)(hN:X.N.Nodup)(hi:X.N[i]?=Aa x)(hx:Loc X.env.scope x)(r:BB v u)(h:∀ s',Inv X pI (Y.set i (Aa v)) H s'->(∃ a,Ef a s.heap s'.heap/\(a=X.env.locals\/X.env.cells.lookup x=Aa a))->Q () s')(hf:X.fn x=Ab\/X.env.scope.names.lookup x=Aa .local:=by first|exact .inl rfl|exact .inr rfl|assumption):Au M A (storeName X.env x u) Q E s:=by
 obtain⟨m,hn,hl⟩:=id I.loc;have hcls:(X.env.scope.kind==.class||(X.env.scope.kind==.module&&X.env.locals != X.env.globals))=Ad:=by rw[I.ok.kind];rfl
 have hiσ:i<Y.length:=by rw[I.len];exact(A2.mp hi).1
 have cne:=I.cne;have tracked:∀{a:Al}{h':AD},(∃ o,s.heap.get? a=Aa o/\H a=Ae)->Ef a s.heap h'->HOk X.prog X.w H h':=λ{a h'} ha hs b ob e=>by
  obtain⟨_,_,hfree⟩:=ha;refine(I.hok b ob e).stay (λc w' hc q=>(hs.2 c ?_).trans q) (λ_ q=>q) λ_ _ q=>q
  rintro rfl;rcases hc with rfl|hc
  .rw[hfree]at e;cases e
  .rw[hfree]at hc;cases hc
 rcases hx with hk|hk
 .refine wpAny_storeName_local hk hn (λh' hn' hs=>?_) hcls
  obtain⟨oL,_,_,hoL,_⟩:=id hn;refine h _ ⟨I.ok,I.os,I.bare,⟨λb o e n hb hx=>?_,λb o e n hb hx=>?_,I.base.free,λb o e hx=>?_,I.base.tups,I.base.frzs,I.base.tbls⟩,⟨_,hn',λj y v' e1 e2 e3=>?_⟩,λy c e=>?_,I.free,I.freeC,λp hp=>?_,tracked ⟨oL,hoL,I.free⟩ hs,by simpa using I.len⟩ ⟨_,hs,.inl rfl⟩
  .exact(hs.2 b (A1 (AI (AB e) I.ok.above))).trans (I.base.keep b o e n hb hx)
  .obtain⟨sl,e1⟩:=I.base.slot b o e n hb hx;exact⟨sl,(hs.2 b (A1 (AI (AB e) I.ok.above))).trans e1⟩
  .obtain⟨o',e1⟩:=I.base.there b o e hx;exact⟨o',(hs.2 b (A1 (AI (AB e) I.ok.above))).trans e1⟩
  .by_cases hj:j=i
   .subst hj;rw[hi]at e1;cases e1;rw[C5 hiσ]at e2;cases e2;exact⟨u,r,.inl ⟨hk,by simp⟩⟩
   .rw[Gp (CP hj)]at e2;obtain⟨u',r',q⟩:=hl j y v' e1 e2 e3;refine⟨u',r',?_⟩;rcases q with ⟨k,e⟩|⟨k,c,e,z⟩
    .refine .inl ⟨k,?_⟩;have:y≠x:=λe=>hj (Qz hN e1 (e ▸ hi))
     simp[this,e]
    .exact .inr ⟨k,c,e,z.sameBut hs (cne y c e)⟩
  .obtain⟨w',z⟩:=I.cell y c e;exact⟨w',z.sameBut hs (cne y c e)⟩
  .obtain⟨e,n,ne,nf,d⟩:=I.pin p hp;exact⟨(hs.2 p.1 ne).trans e,n,ne,nf,d⟩
 .have hfn:X.fn x=Ab:=by
   rcases hf with z|z
   .exact z
   .rw[z]at hk;cases hk
  obtain⟨c,hc⟩:=I.ok.has x (.inl hk);obtain⟨w',z⟩:=I.cell x c hc;refine wpAny_storeName_cell I.ok.kind hk hc z (λh' hc' hs=>?_)
  obtain⟨oc,hoc,hocd⟩:=id z;refine h {s with heap:=h'} ⟨I.ok,I.os,I.bare,⟨λb o e n hb hx=>?_,λb o e n hb hx=>?_,I.base.free,λb o e hx=>?_,I.base.tups,I.base.frzs,I.base.tbls⟩,⟨m,hn.sameBut hs (CP (cne x c hc)),λj y v' e1 e2 e3=>?_⟩,λy c' e=>?_,I.free,I.freeC,λp hp=>?_,tracked ⟨oc,hoc,I.freeC x c hc⟩ hs,by simpa using I.len⟩ ⟨c,hs,.inr hc⟩
  .exact(hs.2 b (A1 (AI (AB e) (I.ok.cab x c hfn hc)))).trans (I.base.keep b o e n hb hx)
  .obtain⟨sl,e1⟩:=I.base.slot b o e n hb hx;exact⟨sl,(hs.2 b (A1 (AI (AB e) (I.ok.cab x c hfn hc)))).trans e1⟩
  .obtain⟨o',e1⟩:=I.base.there b o e hx;exact⟨o',(hs.2 b (A1 (AI (AB e) (I.ok.cab x c hfn hc)))).trans e1⟩
  .by_cases hj:j=i
   .subst hj;rw[hi]at e1;cases e1;rw[C5 hiσ]at e2;cases e2;exact⟨u,r,.inr ⟨.inl hk,c,hc,hc'⟩⟩
   .rw[Gp (CP hj)]at e2;obtain⟨u',r',q⟩:=hl j y v' e1 e2 e3;refine⟨u',r',?_⟩;rcases q with q|⟨k,c',e,z'⟩
    .exact .inl q
    .refine .inr ⟨k,c',e,z'.sameBut hs ?_⟩;rintro rfl;exact hj (Qz hN e1 (I.ok.inj _ _ _ e hc ▸ hi))
  .by_cases hcc:c'=c
   .subst hcc;exact⟨_,hc'⟩
   .obtain⟨w2,z2⟩:=I.cell y c' e;exact⟨w2,z2.sameBut hs hcc⟩
  .obtain⟨e,n,ne,nf,d⟩:=I.pin p hp;refine⟨(hs.2 p.1 ?_).trans e,n,ne,nf,d⟩;intro q;rw[q,hoc]at e;have q':oc=p.2:=Bj e;exact d w' (by rw[<-q'];exact hocd)
theorem Qq{A:AX}{E:Vq}(I:Inv X pI Y H s)(hN:X.N.Nodup)(hi:X.N[i]?=Aa x)(hx:Loc X.env.scope x)(r:BB v u)(h:∀ s',Inv X pI (Y.set i (Aa v)) H s'->Q () s')(hf:X.fn x=Ab\/X.env.scope.names.lookup x=Aa .local:=by first|exact .inl rfl|exact .inr rfl|assumption):Au M A (storeName X.env x u) Q E s:=
 TY I hN hi hx r (λs' I' _=>h s' I') hf
theorem Inv.call'{s':Ap}(I:Inv X pI Y H s)(ho:s'.os=s.os)(u:Un (frs X.stack) ch H H' s.heap s'.heap)(hok:HOk X.prog X.w H' s'.heap)(hg:FK s'.gens)(hch:∀ b∈ch,(b∈X.ex\/X.s₀.heap.objs.size<=b)/\b≠X.env.locals/\(∀ x c,X.env.cells.lookup x=Aa c->c≠b)/\∀ p∈X.pn++pI,p.1≠b):Inv X pI Y H' s':=by
 obtain⟨h',g',d',t',o'⟩:=s';have e:o'=s.os:=ho;subst e;exact I.call (g':=g') (t':=t') (d':=d') u hok hg hch
end
abbrev XK:=Aj->Ao Al->Hp->Prop
abbrev St:=Ac (Ao V)
variable{Y:St}
abbrev VK:=V->Hp->Prop
abbrev TE:=St->Hp->VK->Prop
variable{te:TE}
abbrev TT:=St->Hp->(Ai->Hp->Prop)->Prop
abbrev TA:=St->Hp->(Ac V->Hp->Prop)->Prop
variable{ta:TA}
structure Ends where
 nx:St->Hp->Prop
 rt:VK
 bk:St->Hp->Prop:=λ_ _=>AV
 ct:St->Hp->Prop:=λ_ _=>AV
abbrev TS:=Ends->St->Hp->Prop
def EP(X:Cx)(pI:Pn)(Y:St)(Q:VK)(u:Aj)(s':Ap):Prop:=∃ v H',Inv X pI Y H' s'/\BB v u/\Q v H'
def TP(X:Cx)(pI:Pn)(Y:St)(Q:Ai->Hp->Prop)(b:Ai)(s':Ap):Prop:=∃ H',Inv X pI Y H' s'/\Q b H'
def AP(X:Cx)(pI:Pn)(Y:St)(Q:Ac V->Hp->Prop)(us:Ac Aj)(s':Ap):Prop:=∃ vs H',Inv X pI Y H' s'/\A8 vs us/\Q vs H'
noncomputable def SP(X:Cx)(pI:Pn)(D:Ends)(f:Flow)(s':Ap):Prop:=
  match f with
  |.next=>∃ Y' H',Inv X pI Y' H' s'/\D.nx Y' H'
  |.brk=>∃ Y' H',Inv X pI Y' H' s'/\D.bk Y' H'
  |.cont=>∃ Y' H',Inv X pI Y' H' s'/\D.ct Y' H'
  |.ret u=>∃ v Y' H',Inv X pI Y' H' s'/\BB v u/\D.rt v H'
noncomputable def PE(X:Cx)(e:Am)(t:TE):Prop:=
 ∀(pI:Pn)(s:Ap)(Y:St)(H:Hp)(Q:VK),Inv X pI Y H s->t Y H Q->Au (model X.prog X.w) X.A (eval e X.env) (EP X pI Y Q) X.xe s
noncomputable def PT(X:Cx)(e:Am)(t:TT):Prop:=
 ∀(pI:Pn)(s:Ap)(Y:St)(H:Hp)(Q:Ai->Hp->Prop),Inv X pI Y H s->t Y H Q->Au (model X.prog X.w) X.A (IK e X.env (eval e X.env)) (TP X pI Y Q) X.xe s
noncomputable def PW(X:Cx)(e:Am)(t:TT):Prop:=
 ∀(whole:GN Aj)(pI:Pn)(s:Ap)(Y:St)(H:Hp)(Q:Ai->Hp->Prop),Inv X pI Y H s->t Y H Q->Au (model X.prog X.w) X.A (IK e X.env whole) (TP X pI Y Q) X.xe s
theorem PW.pt{t:TT}(h:PW X e t):PT X e t:=h _
noncomputable def PA(X:Cx)(es:Ac Am)(t:TA):Prop:=
 ∀(pos:AG)(pI:Pn)(s:Ap)(Y:St)(H:Hp)(Q:Ac V->Hp->Prop),Inv X pI Y H s->t Y H Q->Au (model X.prog X.w) X.A (spliced (BP pos (As es X.env))) (AP X pI Y Q) X.xe s
noncomputable def PS(X:Cx)(st:AO)(t:TS):Prop:=
 ∀(pI:Pn)(s:Ap)(Y:St)(H:Hp)(D:Ends),Inv X pI Y H s->t D Y H->Au (model X.prog X.w) X.A (exec st X.env) (SP X pI D) X.xe s
noncomputable def PSs(X:Cx)(st:Ac AO)(t:TS):Prop:=
 ∀(pI:Pn)(s:Ap)(Y:St)(H:Hp)(D:Ends),Inv X pI Y H s->t D Y H->Au (model X.prog X.w) X.A (execs st X.env) (SP X pI D) X.xe s
theorem thn{α:Type}{t:GN α}{Q Q':α->Ap->Prop}{A:AX}{E:Vq}(h:Au M A t Q E s)(hQ:∀ a s,Q a s->Q' a s):Au M A t Q' E s:=Bg h hQ λ_ _ x=>x
section
variable{X:Cx}
def EB(i:Ag):TE:=λY H Q=>∃ v,Y[i]?=Aa (Aa v)/\Q v H
def tC(v:V):TE:=λ_ H Q=>Q v H
theorem Ol(hN:X.N[i]?=Aa x)(hv:Vis X.env.scope x)(hd:(x==("__debug__" : Ah))=Ad:=by decide)(hcd:(x==("__classdict__" : Ah))=Ad:=by decide):PE X (.Name x pos) (EB i):=by
 intro pI s Y H Q I h;obtain⟨v,e,h⟩:=h;obtain⟨m,hn,hl⟩:=I.loc;obtain⟨u,r,l⟩:=hl i x v hN e hv;have fin:EP X pI Y Q u s:=⟨v,H,I,r,h⟩;rcases l with ⟨hk,hm⟩|⟨hk,c,hc,hcell⟩
 .exact K6 (wpAny_loadName_local I.ok.kind hk hn hm fin) hd
 .rcases hk with hk|hk
  .exact K6 (wpAny_loadName_cell I.ok.kind hk hc hcell fin) hd
  .exact K6 (wpAny_loadName_free I.ok.kind hk hc hcell fin hcd) hd
theorem wQ{i j pos}:PE X (.Constant (.int i) j pos) (tC (.int i)):=λ_ _ _ H _ I h=>wpAny_Constant_int ⟨.int i,H,I.tok _,⟨_,rfl⟩,h⟩
theorem fg{b j pos}:PE X (.Constant (.bool b) j pos) (tC (.bl b)):=λ_ _ _ H _ I h=>Constant_bool ⟨.bl b,H,I,rfl,h⟩
theorem wN{j pos}:PE X (.Constant .none j pos) (tC .non):=λ_ _ _ H _ I h=>Constant_none ⟨.non,H,I,rfl,h⟩
theorem Wr{x j pos}:PE X (.Constant (.str x) j pos) (tC (.str x)):=λ_ _ _ H _ I h=>Calls.Constant_str ⟨.str x,H,I.tok _,⟨_,rfl⟩,h⟩
def Gl(X:Cx)(x:Ah):Prop:=X.env.kindOf x=Aa .globalImplicit
theorem JO{E:Vq}{Q:Vq}(I:Inv X pI Y H s)(hg:Gl X x)(hm:X.mg x=Aa u)(h:Q u s)(hd:(x==("__debug__" : Ah))=Ad:=by decide):Au (model X.prog X.w) X.A (eval (.Name x pos) X.env) Q E s:=
 Zc I.ok.kind hg (Calls.loadGlobal_global (by rw[I.ok.glob];exact I.mod.glob.keeps I.bk) hm h) hd
theorem HS{E:Vq}{Q:Vq}(I:Inv X pI Y H s)(hg:Gl X x)(hm:X.mg x=Ae)(hv:C8 x=Aa u)(h:Q u s)(hn:x≠"__name__" := by decide)(hd:(x==("__debug__" : Ah))=Ad:=by decide):Au (model X.prog X.w) X.A (eval (.Name x pos) X.env) Q E s:=by
 obtain⟨mb,h1,h2⟩:=I.mod.blt;exact Zc I.ok.kind hg (Calls.loadGlobal_builtin (by rw[I.ok.glob];exact I.mod.glob.keeps I.bk) hm (by rw[I.ok.blt];exact h1.keeps I.bk) ((h2 x hn).trans hv) h) hd
theorem Vj(hg:Gl X x)(hm:X.mg x=Aa u)(r:BB v u)(hd:(x==("__debug__" : Ah))=Ad:=by decide):PE X (.Name x pos) (tC v):=
 λ_ _ _ H _ I h=>JO I hg hm ⟨v,H,I,r,h⟩ hd
theorem Vl(hg:Gl X x)(hm:X.mg x=Ae)(hv:C8 x=Aa u)(r:BB v u)(hn:x≠"__name__" := by decide)(hd:(x==("__debug__" : Ah))=Ad:=by decide):PE X (.Name x pos) (tC v):=
 λ_ _ _ H _ I h=>HS I hg hm hv ⟨v,H,I,r,h⟩ hn hd
variable{a b:Am}{ta tb:TE}{pos:AG}
variable{tA tB':TT}{rest:Ac Am}
def dY(t u:TT):TT:=λY H Q=>t Y H λc H1=>if c=Ab then u Y H1 Q else Q Ad H1
def tOr(t u:TT):TT:=λY H Q=>t Y H λc H1=>if c=Ab then Q Ab H1 else u Y H1 Q
def dQ(t:TT):TT:=λY H Q=>t Y H λc H1=>Q (!c) H1
theorem pG(ha:PT X a tA):PW X (.BoolOp .And [a] pos) tA:=by
 intro wh pI s Y H Q I h;refine isTrue_and (thn (ha pI s Y H Q I h) λc s1 e=>?_)
 cases c with
 |true=>exact isTrue_and_nil e
 |false=>exact e
theorem uM(ha:PT X a tA):PW X (.BoolOp .Or [a] pos) tA:=by
 intro wh pI s Y H Q I h;refine isTrue_or (thn (ha pI s Y H Q I h) λc s1 e=>?_)
 cases c with
 |false=>exact isTrue_or_nil e
 |true=>exact e
theorem uN(ha:PT X a tA)(hb:PW X (.BoolOp .And (b::rest) pos) tB'):PW X (.BoolOp .And (a::b::rest) pos) (dY tA tB'):=by
 intro wh pI s Y H Q I h;refine isTrue_and (thn (ha pI s Y H _ I h) λc s1 ⟨H1,I1,q1⟩=>?_)
 cases c with
 |true=>exact hb wh pI s1 Y H1 Q I1 q1
 |false=>exact⟨H1,I1,q1⟩
theorem dn(ha:PT X a tA)(hb:PW X (.BoolOp .Or (b::rest) pos) tB'):PW X (.BoolOp .Or (a::b::rest) pos) (tOr tA tB'):=by
 intro wh pI s Y H Q I h;refine isTrue_or (thn (ha pI s Y H _ I h) λc s1 ⟨H1,I1,q1⟩=>?_)
 cases c with
 |true=>exact⟨H1,I1,q1⟩
 |false=>exact hb wh pI s1 Y H1 Q I1 q1
theorem uO(ha:PT X a tA):PT X (.UnaryOp .Not a pos) (dQ tA):=by
 intro pI s Y H Q I h;exact isTrue_not (ha pI s Y H (λc H1=>Q (!c) H1) I h)
def yI(ta tb:TE):TE:=λY H Q=>ta Y H λx H1=>∃ c,x=.bl c/\if c=Ab then tb Y H1 Q else Q (.bl Ad) H1
def dP(ta tb:TE):TE:=λY H Q=>ta Y H λx H1=>∃ c,x=.bl c/\if c=Ab then Q (.bl Ab) H1 else tb Y H1 Q
def yS(ta:TE):TE:=λY H Q=>ta Y H λx H1=>∃ c,x=.bl c/\Q (.bl (!c)) H1
theorem wL{op}{t:TE}(h:PE X a t):PE X (.BoolOp op [a] pos) t:=λpI s Y H Q I hw=>BoolOp_one (h pI s Y H Q I hw)
theorem wR(ha:PE X a ta)(hb:PE X (.BoolOp .And (b::rest) pos) tb):PE X (.BoolOp .And (a::b::rest) pos) (yI ta tb):=by
 intro pI s Y H Q I h;refine BoolOp_and (thn (ha pI s Y H _ I h) λv s1 ⟨x,H1,I1,r1,q1⟩=>?_)
 obtain⟨c,rfl,q1⟩:=q1;cases r1;refine CD ?_;cases c with
 |true=>exact hb pI s1 Y H1 Q I1 q1
 |false=>exact⟨.bl Ad,H1,I1,rfl,q1⟩
theorem et(ha:PE X a ta)(hb:PE X (.BoolOp .Or (b::rest) pos) tb):PE X (.BoolOp .Or (a::b::rest) pos) (dP ta tb):=by
 intro pI s Y H Q I h;refine BoolOp_or (thn (ha pI s Y H _ I h) λv s1 ⟨x,H1,I1,r1,q1⟩=>?_)
 obtain⟨c,rfl,q1⟩:=q1;cases r1;refine CD ?_;cases c with
 |false=>exact hb pI s1 Y H1 Q I1 q1
 |true=>exact⟨.bl Ab,H1,I1,rfl,q1⟩
theorem wM(ha:PE X a ta):PE X (.UnaryOp .Not a pos) (yS ta):=by
 intro pI s Y H Q I h;refine UnaryOp_ (thn (ha pI s Y H _ I h) λv s1 ⟨x,H1,I1,r1,q1⟩=>?_)
 obtain⟨c,rfl,q1⟩:=q1;cases r1;exact not_of (CD ⟨.bl (!c),H1,I1,rfl,q1⟩)
end
noncomputable def SqL(K:Fg)(H:Hp)(a:Al)(xs:Ac V):Prop:=
 Rd H a (.lst xs) \/
  ∃(o:CU)(its:Ba Aj)(n:Ag),K.lookup a=Aa o/\o.cls=.type "list"/\o.dict=Ae/\o.data=.seq its n/\its.size<=sizeLine/\A8 xs its.toList
noncomputable def SqT(K:Fg)(H:Hp)(a:Al)(xs:Ac V):Prop:=
 Rd H a (.tup xs) \/
  ∃(o:CU)(its:Ba Aj)(n:Ag),K.lookup a=Aa o/\o.cls=.type "tuple"/\o.data=.seq its n/\its.size<=sizeLine/\A8 xs its.toList
noncomputable def cN:Aj->Ao V
 |.none=>Aa .non
 |.bool b=>Aa (.bl b)
 |.int i _=>Aa (.int i)
 |.str x _=>Aa (.str x)
 |.bytes b _=>Aa (.byt b)
 |.float b _=>Aa (.flt b)
 |.ref a=>Aa (.ref a)
 |.type n=>Aa (.ty n)
 |_=>Ae
theorem BB.abs{x:V}(r:BB x u):cN u=Aa x:=by
 cases x with
 |non=>cases r;rfl
 |bl _=>cases r;rfl
 |int _=>obtain⟨t,rfl⟩:=r;rfl
 |str _=>obtain⟨t,rfl⟩:=r;rfl
 |byt _=>obtain⟨t,rfl⟩:=r;rfl
 |flt _=>obtain⟨t,rfl⟩:=r;rfl
 |ref _=>cases r;rfl
 |ty _=>cases r;rfl
theorem BB.inj{x y:V}(r:BB x u)(q:BB y u):x=y:=Bj (r.abs.symm.trans q.abs)
theorem A8.inj:∀{xs ys:Ac V}{us:Ac Aj},A8 xs us->A8 ys us->xs=ys
 |_,_,_,.nil,.nil=>rfl
 |_,_,_,.cons r t,.cons r' t'=>by rw[r.inj r',A8.inj t t']
section
variable{X:Cx}{pI:Pn}{Y:St}{H:Hp}{s:Ap}{a:Al}{xs ys:Ac V}
theorem SqL.of{K:Fg}(h:H a=Aa (.lst xs)):SqL K H a xs:=.inl (.inl h)
theorem SqT.of{K:Fg}(h:H a=Aa (.tup xs)):SqT K H a xs:=.inl (.inl h)
theorem Inv.list(I:Inv X pI Y H s)(h:SqL X.K H a xs):∃ its:Ac Aj,A8 xs its/\PlainL s.heap a its.toArray/\xs.length<=sizeLine:=by
 rcases h with h|⟨o,its,n,hk,hc,hd,hs,hz,r⟩
 .obtain⟨z,its,n,r,e⟩:=h.ok I.hok;exact⟨its,r,⟨_,n,e,rfl,rfl,rfl⟩,z⟩
 .refine⟨its.toList,r,⟨o,n,I.kIn a o hk,hc,hd,by simpa using hs⟩,?_⟩
  have e:=r.length;simp only[Fb]at e;omega
theorem Inv.tuple(I:Inv X pI Y H s)(h:SqT X.K H a xs):∃ its:Ac Aj,A8 xs its/\KU s.heap a its.toArray/\xs.length<=sizeLine:=by
 rcases h with h|⟨o,its,n,hk,hc,hs,hz,r⟩
 .obtain⟨z,its,r,p⟩:=h.ok I.hok;exact⟨its,r,p,z⟩
 .refine⟨its.toList,r,⟨o,I.kIn a o hk,hc,n,by simpa using hs⟩,?_⟩
  have e:=r.length;simp only[Fb]at e;omega
theorem Inv.list_inj(I:Inv X pI Y H s)(h:SqL X.K H a xs)(h':SqL X.K H a ys):xs=ys:=by
 obtain⟨its,r,⟨o,n,e,_,_,d⟩,_⟩:=I.list h;obtain⟨its',r',⟨o',n',e',_,_,d'⟩,_⟩:=I.list h';rw[e]at e';cases e';rw[d]at d'
 injection d' with d1 _
 have:its=its':=by simpa using congrArg Jv d1
 subst this;exact r.inj r'
theorem Inv.tuple_inj(I:Inv X pI Y H s)(h:SqT X.K H a xs)(h':SqT X.K H a ys):xs=ys:=by
 obtain⟨its,r,⟨o,e,_,n,d⟩,_⟩:=I.tuple h;obtain⟨its',r',⟨o',e',_,n',d'⟩,_⟩:=I.tuple h';rw[e]at e';cases e';rw[d]at d'
 injection d' with d1 _
 have:its=its':=by simpa using congrArg Jv d1
 subst this;exact r.inj r'
end
noncomputable abbrev Cx.wish(X:Cx)(E:Vq):Cx:={X with xe:=E}
noncomputable abbrev Cx.nox(X:Cx):Cx:=X.wish λ_ _=>AV
theorem Cx.Ok.wish(ok:X.Ok)(E:Vq):(X.wish E).Ok:=
 ⟨ok.mod,ok.kind,ok.glob,ok.blt,ok.above,ok.inj,ok.has,ok.cab,ok.hd,ok.frames,ok.stk,ok.exf,ok.bs,ok.bsz,ok.noex,ok.exfs,ok.funs,ok.frf⟩
theorem Cx.Ok.unwish{E:Vq}(ok:(X.wish E).Ok):X.Ok:=
 ⟨ok.mod,ok.kind,ok.glob,ok.blt,ok.above,ok.inj,ok.has,ok.cab,ok.hd,ok.frames,ok.stk,ok.exf,ok.bs,ok.bsz,ok.noex,ok.exfs,ok.funs,ok.frf⟩
section
variable{X:Cx}{pI:Pn}{Y:St}{H:Hp}{s:Ap}{E:Vq}
theorem Inv.wish(I:Inv X pI Y H s)(E:Vq):Inv (X.wish E) pI Y H s:=⟨I.ok.wish E,I.os,I.bare,I.base,I.loc,I.cell,I.free,I.freeC,I.pin,I.hok,I.len⟩
theorem Inv.unwish(I:Inv (X.wish E) pI Y H s):Inv X pI Y H s:=⟨I.ok.unwish,I.os,I.bare,I.base,I.loc,I.cell,I.free,I.freeC,I.pin,I.hok,I.len⟩
theorem SP.unwish{D:Ends}{f:Flow}{s':Ap}(h:SP (X.wish E) pI D f s'):SP X pI D f s':=by
 cases f with
 |next=>obtain⟨Y',H',I,q⟩:=h;exact⟨Y',H',I.unwish,q⟩
 |brk=>obtain⟨Y',H',I,q⟩:=h;exact⟨Y',H',I.unwish,q⟩
 |cont=>obtain⟨Y',H',I,q⟩:=h;exact⟨Y',H',I.unwish,q⟩
 |ret u=>obtain⟨v,Y',H',I,r,q⟩:=h;exact⟨v,Y',H',I.unwish,r,q⟩
theorem PSs.nox{st:Ac AO}{t:TS}(h:PSs X.nox st t):PSs X st t:=λpI s Y H D I hw=>
 Bg (h pI s Y H D (I.wish _) hw) (λ_ _ q=>q.unwish) λ_ _ z=>Bc z
end
section
variable{X:Cx}{st:AO}{rest:Ac AO}{t u:TS}{e:Am}{te:TE}{pos:AG}
def yT:TS:=λD Y H=>D.nx Y H
def cK(t u:TS):TS:=λD Y H=>t {D with nx:=u D} Y H
theorem pM:PSs X [] yT:=λ_ _ Y H _ I h=>Fw ⟨Y,H,I,h⟩
theorem UK(h1:PS X st t)(h2:PSs X rest u):PSs X (st::rest) (cK t u):=by
 intro pI s Y H D I h;refine HL (thn (h1 pI s Y H {D with nx:=u D} I h) λf s1 q=>?_)
 cases f with
 |next=>
  obtain⟨Y',H',I',q⟩:=q;exact h2 pI s1 Y' H' D I' q
 |ret v=>exact q
 |brk=>exact q
 |cont=>exact q
theorem MP(h1:PS X st t):PSs X [st] t:=by
 intro pI s Y H D I h;refine HL (thn (h1 pI s Y H D I h) λf s1 q=>?_)
 cases f with
 |next=>exact Fw q
 |ret v=>exact q
 |brk=>exact q
 |cont=>exact q
theorem Inv.quiet(I:Inv X pI Y H s):interactive X.env=Ad:=by simp[interactive,I.ok.kind]
def yV(te:TE):TS:=λD Y H=>te Y H λ_ H1=>D.nx Y H1
theorem Kt(he:PE X e te)(hs:CZ e Ae pos.line X.env=pure Ad:=by rfl):PS X (.Expr e pos) (yV te):=by
 intro pI s Y H D I h;exact wpAny_Expr_any (thn (he pI s Y H _ I h) λv s1 ⟨x,H1,I1,r1,q1⟩=>⟨Y,H1,I1,q1⟩) I.quiet hs
def dO(te:TE):TS:=λD Y H=>te Y H D.rt
theorem Q6(he:PE X e te):PS X (.Return (Aa e) pos) (dO te):=by
 intro pI s Y H D I h;exact wpAny_Return_some (thn (he pI s Y H _ I h) λv s1 ⟨x,H1,I1,r1,q1⟩=>⟨x,Y,H1,I1,r1,q1⟩)
def dW(c:TT)(t u:TS):TS:=λD Y H=>c Y H λb H1=>if b=Ab then t D Y H1 else u D Y H1
theorem dr{c:Am}{a b:Ac AO}{tc:TT}(hc:PT X c tc)(ha:PSs X a t)(hb:PSs X b u):PS X (.If c a b pos) (dW tc t u):=by
 intro pI s Y H D I h;refine wpAny_If (thn (hc pI s Y H _ I h) λd s1 ⟨H1,I1,q1⟩=>?_)
 cases d with
 |true=>exact ha pI s1 Y H1 D I1 q1
 |false=>exact hb pI s1 Y H1 D I1 q1
end
abbrev TG:=V->St->Hp->(St->Hp->Prop)->Prop
abbrev TGs:=Ac V->St->Hp->(St->Hp->Prop)->Prop
noncomputable def PG(X:Cx)(target:Am)(t:TG):Prop:=
 ∀(pI:Pn)(s:Ap)(Y:St)(H:Hp)(v:V)(u:Aj)(Q:St->Hp->Prop),Inv X pI Y H s->BB v u->t v Y H Q ->
  Au (model X.prog X.w) X.A (assign target X.env u) (λ_ s'=>∃ Y' H',Inv X pI Y' H' s'/\Q Y' H') X.xe s
noncomputable def PGs(X:Cx)(ts:Ac Am)(t:TGs):Prop:=
 ∀(pI:Pn)(s:Ap)(Y:St)(H:Hp)(vs:Ac V)(us:Ac Aj)(Q:St->Hp->Prop),Inv X pI Y H s->A8 vs us->t vs Y H Q ->
  Au (model X.prog X.w) X.A (assignInOrder ((B9 ts X.env).map (·.2)) us) (λ_ s'=>∃ Y' H',Inv X pI Y' H' s'/\Q Y' H') X.xe s
abbrev O9:=V->V->V->Hp->(Hp->Prop)->Prop
noncomputable def SJ(X:Cx)(t:O9):Prop:=
 ∀(pI:Pn)(s:Ap)(Y:St)(H:Hp)(o i v:V)(ov iv u:Aj)(Q:Hp->Prop),Inv X pI Y H s->BB o ov->BB i iv->BB v u->t o i v H Q ->
  Au (model X.prog X.w) X.A (J7 ov iv u) (λ_ s'=>∃ H',Inv X pI Y H' s'/\Q H') X.xe s
section
variable{X:Cx}{pos:AG}
def Fl(i:Ag):TG:=λv Y H Q=>Q (Y.set i (Aa v)) H
theorem MQ(hN:X.N.Nodup)(hi:X.N[i]?=Aa x)(hx:Loc X.env.scope x)(hf:X.fn x=Ab\/X.env.scope.names.lookup x=Aa .local:=by first|exact .inl rfl|exact .inr rfl|assumption):PG X (.Name x pos) (Fl i):=by
 intro pI s Y H v u Q I r h;exact bB (Qq I hN hi hx r (λs' I'=>⟨_,H,I',h⟩) hf)
def Ib:TGs:=λvs Y H Q=>vs=[]/\Q Y H
def HX(t:TG)(u:TGs):TGs:=λvs Y H Q=>∃ v r,vs=v::r/\t v Y H λY' H'=>u r Y' H' Q
theorem QM:PGs X [] Ib:=by
 intro pI s Y H vs us Q I r h;obtain⟨e,h⟩:=h;subst e;cases r;exact assignInOrder_nil ⟨Y,H,I,h⟩
theorem NM{t:TG}{u:TGs}(h1:PG X e t)(h2:PGs X es u)(hs:(B9 (e::es) X.env).map (·.2)=assign e X.env::(B9 es X.env).map (·.2):=by rfl):PGs X (e::es) (HX t u):=by
 intro pI s Y H vs us Q I r h;obtain⟨v,vr,e1,h⟩:=h;subst e1;cases r with
 |cons r rr=>
  rw[hs];refine assignInOrder_cons (thn (h1 pI s Y H _ _ _ I r h) λ_ s1 ⟨Y1,H1,I1,q1⟩=>?_)
  exact h2 pI s1 Y1 H1 _ _ Q I1 rr q1
def Mj(K:Fg)(n:Ag)(t:TGs):TG:=λv Y H Q=>∃ a xs,v=.ref a/\SqT K H a xs/\xs.length=n/\t xs Y H Q
theorem Oj{t:TGs}(hc:X.calm=Ab)(h:PGs X es t)(hn:(B9 es X.env).length=n:=by rfl)(hst:(B9 es X.env).findIdx? (·.1)=Ae:=by rfl):PG X (.Tuple es k pos) (Mj X.K n t):=by
 intro pI s Y H v u Q I r hw;obtain⟨a,xs,e1,hq,hl,hw⟩:=hw;subst e1;cases r;obtain⟨its,rv,ht,hz⟩:=I.tuple hq;refine assign_Tuple_tuple (I.ok.hd hc) ht (by simp[hn,<-hl,rv.length]) hst λh' hx=>?_
 have I1:Inv X pI Y H {s with heap:=h'}:=I.kept (t':=s.toks) λb o e=>hx b o (A1 (AB e)) e
 exact h pI _ Y H xs _ Q I1 (by simpa using rv) hw
def dA(to ti:TE)(t:O9):TG:=λv Y H Q=>to Y H λo H1=>ti Y H1 λi H2=>t o i v H2 λH3=>Q Y H3
theorem QY{o i:Am}{to ti:TE}{t:O9}(ho:PE X o to)(hi:PE X i ti)(hs:SJ X t)(ha:∀ v,assign (.Subscript o i pos) X.env v=(do
   let ov <-holding [v] (eval o X.env)
   let iv <-holding [v,ov] (eval i X.env)
   HA pos
   holding [v,ov,iv] (J7 ov iv v)
   release [v,ov,iv] []):=by intro _;rfl):PG X (.Subscript o i pos) (dA to ti t):=by
 intro pI s Y H v u Q I r h;rw[ha];refine An (BZ (thn (ho pI s Y H _ I h) λov s1 ⟨x,H1,I1,r1,q1⟩=>?_))
 refine An (BZ (thn (hi pI s1 Y H1 _ I1 q1) λiv s2 ⟨y,H2,I2,r2,q2⟩=>?_))
 refine An (DX (An (BZ (thn (hs pI s2 Y H2 x y v ov iv u _ I2 r1 r2 r q2) λ_ s3 ⟨H3,I3,q3⟩=>?_))))
 exact wpAny_release ⟨Y,H3,I3,q3⟩
def OY(te:TE)(g:TG):TS:=λD Y H=>te Y H λx H1=>g x Y H1 D.nx
theorem Q7{g:TG}(he:PE X e te)(hg:PG X tg g)(hs:F8 [tg] e pos.line X.env=pure Ad:=by rfl)(hw:DW [tg] e X.env=pure Ae:=by rfl)(h1:(B9 [tg] X.env).map (·.2)=[assign tg X.env]:=by rfl):PS X (.Assign [tg] e pos) (OY te g):=by
 intro pI s Y H D I h;refine wpAny_Assign_stores (thn (he pI s Y H _ I h) λv s1 ⟨x,H1,I1,r1,q1⟩=>?_) hs hw
 rw[h1];exact thn (hg pI s1 Y H1 x v _ I1 r1 q1) λ_ s2 q=>q
theorem Oh{pos':AG}(hN:X.N.Nodup)(hi:X.N[i]?=Aa x)(hx:Loc X.env.scope x)(he:PE X e te)(hs:CZ e (Aa (.Name x pos')) pos.line X.env=pure Ad:=by rfl)(hf:X.fn x=Ab\/X.env.scope.names.lookup x=Aa .local:=by first|exact .inl rfl|exact .inr rfl|assumption):PS X (.Assign [.Name x pos'] e pos) (OY te (Fl i)):=by
 intro pI s Y H D I h;refine wpAny_Assign_Name (thn (he pI s Y H _ I h) λv s1 ⟨y,H1,I1,r1,q1⟩=>?_) hs
 exact Qq I1 hN hi hx r1 (λs2 I2=>⟨_,H1,I2,q1⟩) hf
end
section
variable{X:Cx}{pos:AG}
end
structure It where
 go:Ag->Hp->Prop
 yld:Ag->Hp->V->Hp->Prop
 stop:Ag->Hp->Prop
noncomputable def GW(X:Cx)(pI:Pn)(H:Hp)(b:Al):Prop:=
 H b=Ae/\b≠X.env.locals/\b∉X.fs/\(b∈X.ex\/X.s₀.heap.objs.size<=b)/\(∀ x c,X.env.cells.lookup x=Aa c->c≠b)/\∀ p∈X.pn++pI,p.1≠b
theorem Inv.fpOk{H':Hp}(I:Inv X pI Y H s)(hb:s.heap.objs.size<=b)(hn:H' b=Ae):GW X pI H' b:=by
 refine⟨hn,Ed (AI I.lt hb),I.nofs hb,.inr (Cz I.sz hb),λx c e z=>?_,λp hp z=>?_⟩
 .obtain⟨v,q⟩:=I.cell x c e;exact absurd (AI q.lt (by rw[z];exact hb)) (Bx _)
 .exact absurd (AI (AB (I.pin p hp).1) (by rw[z];exact hb)) (Bx _)
structure Turn (P:AK) (w:AZ) (K:Fg) (tg:Am) (J:It) (fp:Ac Al) (it:Al) (tn:Ag->AD->Prop):Prop where
 mem:it∈fp
 obj:∀ i h,tn i h->∀ b∈fp,∃ o,h.get? b=Aa o/\∀ v,o.data≠.cell v
 keep:∀ i h h',tn i h->(∀ b∈fp,∀ o,h.get? b=Aa o->h'.get? b=Aa o)->tn i h'
 item:∀(X:Cx),X.prog=P->X.w=w->X.K=K->X.calm=Ab->∀(i:Ag)(pI:Pn)(s:Ap)(Y:St)(H:Hp)(E:Vq),Inv X pI Y H s->(∀ b∈fp,GW X pI H b)->tn i s.heap->J.go i H ->
  Au (model P w) X.A (Hb (.ref it)) (λr s1=>∃ u,r=Aa u /\
   Au (model P w) X.A (Gz tg (.ref it) u) (λ_ s2=>∃ x H',Inv X pI Y H' s2/\BB x u/\J.yld i H x H'/\tn (i+1) s2.heap/\∀ b∈fp,H' b=Ae) E s1) E s
 done:∀(X:Cx),X.prog=P->X.w=w->X.K=K->X.calm=Ab->∀(i:Ag)(pI:Pn)(s:Ap)(Y:St)(H:Hp)(E:Vq),Inv X pI Y H s->(∀ b∈fp,GW X pI H b)->tn i s.heap->J.stop i H ->
  Au (model P w) X.A (Hb (.ref it)) (λr s1=>r=Ae/\Inv X pI Y H s1) E s
 self:∀(A:AX)(i:Ag)(s:Ap)(Q:Vq)(E:Vq),tn i s.heap->Q (.ref it) s->Au (model P w) A (K4 (.ref it)) Q E s
abbrev TI:=St->Hp->(It->Hp->Prop)->Prop
noncomputable def PIE(X:Cx)(pI:Pn)(Y:St)(tg:Am)(R:It->Hp->Prop)(itv:Aj)(s2:Ap):Prop:=
 ∃(it:Al)(fp:Ac Al)(tn:Ag->AD->Prop)(J:It)(H':Hp),itv=.ref it/\Inv X pI Y H' s2/\Turn X.prog X.w X.K tg J fp it tn/\tn 0 s2.heap/\(∀ b∈fp,GW X pI H' b)/\R J H'
noncomputable def PI(X:Cx)(tg iter:Am)(wi:TI):Prop:=
 ∀(pI:Pn)(s:Ap)(Y:St)(H:Hp)(R:It->Hp->Prop),Inv X pI Y H s->wi Y H R ->
  Au (model X.prog X.w) X.A (eval iter X.env) (λv s1=>Au (model X.prog X.w) X.A (K4 v) (PIE X pI Y tg R) X.xe s1) X.xe s
theorem RS{A:AX}{E:Vq}{n:Da}{vs:Ba Aj}(ho:s.heap.get? it=Aa o)(hc:o.cls=.type n)(hd:o.data=.fields vs)(hn:["enumerate", "zip", "dict_itemiterator", "dict_reverseitemiterator", "odict_iterator", "itertools.zip_longest", "itertools.pairwise"].contains n=Ad)(hQ:Q () s):Au M A (Gz tg (.ref it) u) Q E s:=by
  unfold Gz;cases tg<;>first
    |exact Az hQ
    | (cases u<;>first
        |exact Az hQ
        | (refine An (wpAny_load ho ?_)
           rw[hc,hd];show Au M A (if (["enumerate", "zip", "dict_itemiterator", "dict_reverseitemiterator", "odict_iterator", "itertools.zip_longest", "itertools.pairwise"].contains n&&vs[0]? == Aa (Ei _))=Ab then _ else _) Q E s
           rw[AC (by intro h;rw[hn,Bool.false_and]at h;cases h)]
           exact Az hQ))
noncomputable def Itl(K:Fg)(a:Al):It:=
 ⟨λi H=>∃ xs x,SqL K H a xs/\xs[i]?=Aa x,λi H x H'=>H'=H/\∀ xs,SqL K H a xs->xs[i]?=Aa x,λi H=>∃ xs,SqL K H a xs/\xs.length<=i⟩
noncomputable def Itt(K:Fg)(a:Al):It:=
 ⟨λi H=>∃ xs x,SqT K H a xs/\xs[i]?=Aa x,λi H x H'=>H'=H/\∀ xs,SqT K H a xs->xs[i]?=Aa x,λi H=>∃ xs,SqT K H a xs/\xs.length<=i⟩
noncomputable def Itr(lo:Af)(n:Ag):It:=⟨λi _=>i<n,λi H x H'=>H'=H/\x=.int (lo+i),λi _=>n<=i⟩
theorem gR{w:AZ}{K:Fg}(a it:Al):Turn P w K tg (Itl K a) [it] it (λi h=>h.IsListIter it a i) where
  mem:=by simp
  obj:=λi h st b hb=>by
    have e:b=it:=by simpa using hb
    subst e;obtain⟨o,e,c,d⟩:=st;exact⟨o,e,λv z=>by rw[d]at z;cases z⟩
  keep:=λi h h' st k=>st.at λo e=>k it (by simp) o e
  item:=by
    intro X hP hw hK hc i pI s Y H E I hf st hg;subst hP hw hK;obtain⟨xs,x,hq,hx⟩:=hg;obtain⟨its,rv,p,hz⟩:=I.list hq;obtain⟨u,hu,ru⟩:=rv.get hx;obtain⟨f0,f1,f2,f3,f4,f5⟩:=hf it (by simp)
    refine bH st p.isList (x:=u) (by simpa using hu) λh' st' sb=>?_
    have I1:Inv X pI Y H {s with heap:=h'}:=I.turned (t':=s.toks) (λb o hb e=>(sb.2 b hb).trans e) f0 f1 f3 f4 f5
    obtain⟨o,e,c,d⟩:=id st';exact⟨u,rfl,RS (s:={s with heap:=h'}) e c d (by decide) ⟨x,H,I1,ru,⟨rfl,λys hy=>by rw[I.list_inj hy hq];exact hx⟩,st',λb hb=>(hf b hb).1⟩⟩
  done:=by
    intro X hP hw hK hc i pI s Y H E I hf st hg;subst hP hw hK;obtain⟨xs,hq,hx⟩:=hg;obtain⟨its,rv,p,hz⟩:=I.list hq;obtain⟨f0,f1,f2,f3,f4,f5⟩:=hf it (by simp)
    have hl:=rv.length;exact bG (I.ok.hd hc) st p.isList (by simp;omega) λh' eb=>⟨rfl,I.turned (t':=s.toks) (λb o hb e=>eb b o hb e) f0 f1 f3 f4 f5⟩
  self:=λ_ _ _ _ _ st h=>wpAny_pyIter_listiter st h
theorem gE{w:AZ}{K:Fg}(a it:Al):Turn P w K tg (Itt K a) [it] it (λi h=>h.IsTupleIter it a i) where
  mem:=by simp
  obj:=λi h st b hb=>by
    have e:b=it:=by simpa using hb
    subst e;obtain⟨o,e,c,d⟩:=st;exact⟨o,e,λv z=>by rw[d]at z;cases z⟩
  keep:=λi h h' st k=>st.at λo e=>k it (by simp) o e
  item:=by
    intro X hP hw hK hc i pI s Y H E I hf st hg;subst hP hw hK;obtain⟨xs,x,hq,hx⟩:=hg;obtain⟨its,rv,p,hz⟩:=I.tuple hq;obtain⟨u,hu,ru⟩:=rv.get hx;obtain⟨f0,f1,f2,f3,f4,f5⟩:=hf it (by simp)
    refine wpAny_pyNext_tuple_item st (show s.heap.IsTuple a its.toArray from p) (x:=u) (by simpa using hu) λh' st' sb=>?_
    have I1:Inv X pI Y H {s with heap:=h'}:=I.turned (t':=s.toks) (λb o hb e=>(sb.2 b hb).trans e) f0 f1 f3 f4 f5
    obtain⟨o,e,c,d⟩:=id st';exact⟨u,rfl,RS (s:={s with heap:=h'}) e c d (by decide) ⟨x,H,I1,ru,⟨rfl,λys hy=>by rw[I.tuple_inj hy hq];exact hx⟩,st',λb hb=>(hf b hb).1⟩⟩
  done:=by
    intro X hP hw hK hc i pI s Y H E I hf st hg;subst hP hw hK;obtain⟨xs,hq,hx⟩:=hg;obtain⟨its,rv,p,hz⟩:=I.tuple hq;obtain⟨f0,f1,f2,f3,f4,f5⟩:=hf it (by simp)
    have hl:=rv.length;exact wpAny_pyNext_tuple_end (I.ok.hd hc) st (show s.heap.IsTuple a its.toArray from p) (by simp;omega) λh' eb=>⟨rfl,I.turned (t':=s.toks) (λb o hb e=>eb b o hb e) f0 f1 f3 f4 f5⟩
  self:=λ_ _ _ _ _ st h=>wpAny_pyIter_tupleiter st h
theorem fM{w:AZ}{K:Fg}(it:Al)(lo:Af)(n:Ag):Turn P w K tg (Itr lo n) [it] it (λi h=>IsRangeIter h it (lo+(i:Ag)*1) ((n:Af)-(i:Ag)) 1) where
  mem:=by simp
  obj:=λi h st b hb=>by
    have e:b=it:=by simpa using hb
    subst e;exact⟨_,st,λv z=>by
      have z':Data.fields _=Mn v:=z;cases z'⟩
  keep:=λi h h' st k=>k it (by simp) _ st
  item:=by
    intro X hP hw hK hc i pI s Y H E I hf st hg;subst hP hw hK;obtain⟨f0,f1,f2,f3,f4,f5⟩:=hf it (by simp)
    have W:=Walks.range (prog:=X.prog) (w:=X.w) (I.ok.hd hc) it lo 1 n;refine W.item i s _ _ hg st λv h' tk hv st' kk=>?_
    obtain⟨t,rfl⟩:=hv;have I1:Inv X pI Y H {s with heap:=h',toks:=tk}:=I.turned (λb o hb e=>kk b o (by simpa using hb) e) f0 f1 f3 f4 f5
    refine⟨_,rfl,RS (s:={s with heap:=h',toks:=tk}) (n := "range_iterator") st' rfl rfl (by decide) ⟨.int (lo+i),H,I1,⟨t,?_⟩,⟨rfl,rfl⟩,st',λb hb=>(hf b hb).1⟩⟩
    rw[DO]
  done:=by
    intro X hP hw hK hc i pI s Y H E I hf st hg;subst hP hw hK;obtain⟨f0,f1,f2,f3,f4,f5⟩:=hf it (by simp)
    exact wpAny_pyNext_range_end (I.ok.hd hc) st (by have:n<=i:=hg;omega) λh' eb=>⟨rfl,I.turned (t':=s.toks) (λb o hb e=>eb b o hb e) f0 f1 f3 f4 f5⟩
  self:=λ_ _ _ _ _ st h=>wpAny_pyIter_rangeiter st h
section
variable{X:Cx}{tg:Am}
theorem UI{R:It->Hp->Prop}{E:Vq}{lo hi:Af}{t u v:CK}{tk:Ag}(I:Inv X pI Y H s)(h1:-(2 ^ 62)<=lo)(h2:lo<2 ^ 62)(h3:-(2 ^ 62)<=hi)(h4:hi<2 ^ 62)(q:R (Itr lo (hi-lo).toNat) H):Au (model X.prog X.w) X.A (K4 (.ref s.heap.objs.size)) (PIE X pI Y tg R) E { s with heap:=s.heap.push { cls:=.type "range",data:=.fields #[.int lo t,.int hi u,.int 1 v] },toks:=tk }:=by
 refine wpAny_pyIter_range (ZV ..) (small_one h1 h2 h3 h4) ?_;have I1:Inv X pI Y H { s with heap:=s.heap.push { cls:=.type "range",data:=.fields #[.int lo t,.int hi u,.int 1 v] },toks:=tk }:=I.kept λb o e=>Ar _ e
 refine⟨(s.heap.push { cls:=.type "range",data:=.fields #[.int lo t,.int hi u,.int 1 v] }).objs.size,[(s.heap.push { cls:=.type "range",data:=.fields #[.int lo t,.int hi u,.int 1 v] }).objs.size],_,_,H,rfl,
  I1.kept (t':=tk) λb o e=>Ar _ e,fM _ lo (hi-lo).toNat,?_,λb hb=>?_,q⟩
 .have e1:lo+((0:Ag):Af)*1=lo:=by simp
  have e2:(((hi-lo).toNat:Ag):Af)-((0:Ag):Af)=Builtin.Range.rangeSize lo hi 1:=by rw[rangeSize_one];split<;>omega
  show IsRangeIter _ _ (lo+((0:Ag):Af)*1) ((((hi-lo).toNat:Ag):Af)-((0:Ag):Af)) 1;rw[e1,e2];exact AH _ rfl
 .have e:b=(s.heap.push { cls:=.type "range",data:=.fields #[.int lo t,.int hi u,.int 1 v] }).objs.size:=by simpa using hb
  subst e;exact I1.fpOk (AU _) (I1.hok.fresh (AU _))
def gp(ta:TA):TI:=λY H R=>ta Y H λvs H1=>∃ j:Af,vs=[.int j]/\-(2 ^ 62)<=j/\j<2 ^ 62/\R (Itr 0 j.toNat) H1
def gm(ta:TA):TI:=λY H R=>ta Y H λvs H1=>∃ i j:Af,vs=[.int i,.int j]/\(-(2 ^ 62)<=i/\i<2 ^ 62/\-(2 ^ 62)<=j/\j<2 ^ 62)/\R (Itr i (j-i).toNat) H1
theorem gP{a:Am}(hg:Gl X "range")(hm:X.mg "range" = Ae)(ha:PA X [a] ta)(hs:As [a] X.env=[(Ad,eval a X.env)]:=by rfl):PI X tg (.Call (.Name "range" p) [a] [] pos) (gp ta):=by
 intro pI s Y H R I h;refine IN (HS I hg hm KW (BR (thn (ha pos pI s Y H _ I h) λus s1 ⟨vs,H1,I1,r1,q1⟩=>?_) hs rfl))
 obtain⟨j,e,q1,q2,q⟩:=q1;subst e;cases r1 with
 |cons r rr=>
  cases rr;obtain⟨t,rfl⟩:=r;exact call_range_1 (UI I1 (by omega) (by omega) q1 q2 (by simpa using q))
theorem gO{a b:Am}(hg:Gl X "range")(hm:X.mg "range" = Ae)(ha:PA X [a,b] ta)(hs:As [a,b] X.env=[(Ad,eval a X.env),(Ad,eval b X.env)]:=by rfl)(hs2:As [b] X.env=[(Ad,eval b X.env)]:=by rfl):
  PI X tg (.Call (.Name "range" p) [a,b] [] pos) (gm ta):=by
 intro pI s Y H R I h;refine IN (HS I hg hm KW (BR (thn (ha pos pI s Y H _ I h) λus s1 ⟨vs,H1,I1,r1,q1⟩=>?_) (by rw[hs,hs2]) (by rw[hs2];rfl)))
 obtain⟨i,j,e,⟨q1,q2,q3,q4⟩,q⟩:=q1;subst e;cases r1 with
 |cons r rr=>
  cases rr with
  |cons r' rr=>
   cases rr;obtain⟨t,rfl⟩:=r;obtain⟨t',rfl⟩:=r';exact call_range_2 (UI I1 q1 q2 q3 q4 q)
def dX(wi:TI)(g:TG)(tb:TS):TS:=λD Y H=>wi Y H λJ H1=>∃ W:Ag->Ag->St->Hp->Prop,(∃ m,W 0 m Y H1)/\∀ i m Y H,W i m Y H ->
 (J.stop i H/\D.nx Y H)\/(J.go i H/\∃ N:St->Hp->Prop,(∀ Y' H',N Y' H'->∃ m',m'<m/\W (i+1) m' Y' H')/\∀ x H',J.yld i H x H'->g x Y H' λY2 H2=>tb {D with nx:=N,ct:=N,bk:=D.nx} Y2 H2)
noncomputable def KH(fp:Ac Al)(h:AD):Pn:=fp.filterMap λb=>(h.get? b).map λo=>(b,o)
theorem NG(hb:b∈fp)(e:h.get? b=Aa o):(b,o)∈KH fp h:=List.mem_filterMap.mpr ⟨b,hb,by rw[e];rfl⟩
theorem TV{p:Al×CU}(hp:p∈KH fp h):p.1∈fp/\h.get? p.1=Aa p.2:=by
 obtain⟨b,hb,e⟩:=List.mem_filterMap.mp hp;cases q:h.get? b with
 |none=>rw[q]at e;cases e
 |some o=>
  rw[q]at e;have e':(b,o)=p:=Bj e;subst e';exact⟨hb,q⟩
theorem Inv.pinned(I:Inv X pI Y H s)(hf:∀ b∈fp,GW X pI H b)(ho:∀ b∈fp,∃ o,s.heap.get? b=Aa o/\∀ v,o.data≠.cell v):Inv X (pI++KH fp s.heap) Y H s:=
 I.pins_of λp hp=>(Fs.mp hp).elim (λz=>I.pin p (Bt _ z)) λz=>by
  obtain⟨hb,e⟩:=TV z;obtain⟨f0,f1,f2,_⟩:=hf p.1 hb;obtain⟨o,e',d⟩:=ho p.1 hb;rw[e]at e';cases e';exact⟨e,f0,f1,f2,d⟩
theorem Inv.unpinned{pl:Pn}(I:Inv X (pI++pl) Y H s):Inv X pI Y H s:=I.pins_of λp hp=>I.pin p (Bt _ (Du _ hp))
theorem tJ{iter:Am}{wi:TI}{g:TG}{tb:TS}(hp:FH (model X.prog X.w) X.A X.env X.xe)(hc:X.calm=Ab)(hi:PI X tg iter wi)(hg:PG X tg g)(hb:PSs X body tb)(hs:∀ x,CV iter X.env x=pure x:=by intro _;rfl):PS X (.For tg iter body [] pos) (dX wi g tb):=by
 intro pI s Y H D I h;refine wpAny_For (thn (hi pI s Y H _ I h) λv s1 h1=>thn h1 λitv s2 h2=>?_) hs
 obtain⟨it,fp,tn,J,H2,e,I2,T,st2,f2,W,⟨m0,w0⟩,turn⟩:=h2;subst e
 -- what stays Ab of the iterator's objects through the loop
 have stat:∀{H':Hp},(∀ b∈fp,H' b=Ae)->∀ b∈fp,GW X pI H' b:=λhn b hb=>⟨hn b hb,(f2 b hb).2⟩
 refine codeAny_forLoop_any (λn s'=>∃ i Y' H',Inv X pI Y' H' s'/\tn i s'.heap/\(∀ b∈fp,H' b=Ae)/\W i n Y' H') ?_ m0 ⟨0,Y,H2,I2,st2,λb hb=>(f2 b hb).1,w0⟩
 rintro n s3 ⟨i,Y3,H3,I3,st3,fr3,w3⟩;rcases turn i n Y3 H3 w3 with ⟨stop,qn⟩|⟨go,N,hN,step⟩
 .refine Fx hp (thn (T.done X rfl rfl rfl hc i pI s3 Y3 H3 X.xe I3 (stat fr3) st3 stop) λr s4 ⟨hr,I4⟩=>?_)
  subst hr;exact Fw ⟨Y3,H3,I4,qn⟩
 .refine Fx hp (thn (T.item X rfl rfl rfl hc i pI s3 Y3 H3 X.xe I3 (stat fr3) st3 go) λr s4 ⟨u,hr,h4⟩=>?_)
  subst hr;refine Fx hp (thn h4 λ_ s5 ⟨x,H5,I5,r5,y5,st5,fr5⟩=>?_)
  have I5':=I5.pinned (stat fr5) (T.obj _ _ st5);refine Fx hp (thn (hg _ s5 Y3 H5 x u _ I5' r5 (step x H5 y5)) λ_ s6 ⟨Y6,H6,I6,q6⟩=>?_)
  refine Fx hp (thn (hb _ s6 Y6 H6 _ I6 q6) λf s7 q7=>?_)
  have again:∀{Y7:St}{H7:Hp},Inv X (pI++KH fp s5.heap) Y7 H7 s7->N Y7 H7->∃ m,m<n/\∃ i Y' H',Inv X pI Y' H' s7/\tn i s7.heap/\(∀ b∈fp,H' b=Ae)/\W i m Y' H':=λ{Y7 H7} I7 n7=>by
   obtain⟨m',hm,w7⟩:=hN Y7 H7 n7;refine⟨m',hm,i+1,Y7,H7,I7.unpinned,T.keep _ _ _ st5 λb hb o e=>(I7.pin (b,o) (Bt _ (Bt _ (NG hb e)))).1,λb hb=>?_,w7⟩
   obtain⟨o,e,d⟩:=T.obj _ _ st5 b hb;exact(I7.pin (b,o) (Bt _ (Bt _ (NG hb e)))).2.1
  cases f with
  |next=>obtain⟨Y7,H7,I7,n7⟩:=q7;exact again I7 n7
  |cont=>obtain⟨Y7,H7,I7,n7⟩:=q7;exact again I7 n7
  |brk=>obtain⟨Y7,H7,I7,q7⟩:=q7;exact⟨Y7,H7,I7.unpinned,q7⟩
  |ret v=>obtain⟨x7,Y7,H7,I7,r7,q7⟩:=q7;exact⟨x7,Y7,H7,I7.unpinned,r7,q7⟩
end
abbrev R2:=V->V->Hp->VK->Prop
variable{r:R2}
noncomputable def OpR(X:Cx)(f:Aj->Aj->GN Aj)(r:R2):Prop:=
 ∀(pI:Pn)(s:Ap)(Y:St)(H:Hp)(x y:V)(v u:Aj)(Q:VK),Inv X pI Y H s->BB x v->BB y u->r x y H Q ->
  Au (model X.prog X.w) X.A (f v u) (EP X pI Y Q) X.xe s
noncomputable def UnR(X:Cx)(f:Aj->GN Aj)(r:V->Hp->VK->Prop):Prop:=
 ∀(pI:Pn)(s:Ap)(Y:St)(H:Hp)(x:V)(v:Aj)(Q:VK),Inv X pI Y H s->BB x v->r x H Q ->
  Au (model X.prog X.w) X.A (f v) (EP X pI Y Q) X.xe s
noncomputable def HV(X:Cx)(f:Aj)(r:Ac V->Hp->VK->Prop):Prop:=
 ∀(pI:Pn)(s:Ap)(Y:St)(H:Hp)(xs:Ac V)(us:Ac Aj)(Q:VK),Inv X pI Y H s->A8 xs us->r xs H Q ->
  Au (model X.prog X.w) X.A (call f us) (EP X pI Y Q) X.xe s
noncomputable def cP(X:Cx)(r:V->Hp->(Ai->Hp->Prop)->Prop):Prop:=
 ∀(pI:Pn)(s:Ap)(Y:St)(H:Hp)(x:V)(v:Aj)(Q:Ai->Hp->Prop),Inv X pI Y H s->BB x v->r x H Q ->
  Au (model X.prog X.w) X.A (truthy v) (TP X pI Y Q) X.xe s
def tOp(r:R2)(ta tb:TE):TE:=λY H Q=>ta Y H λx H1=>tb Y H1 λy H2=>r x y H2 Q
def tUn(r:V->Hp->VK->Prop)(ta:TE):TE:=λY H Q=>ta Y H λx H1=>r x H1 Q
def rI(C:Af->Af->Prop)(g:Af->Af->V):R2:=λx y H Q=>∃ i j,x=.int i/\y=.int j/\C i j/\Q (g i j) H
def rI0(g:Af->Af->V):R2:=λx y H Q=>∃ i j,x=.int i/\y=.int j/\Q (g i j) H
def rU(g:Af->V):V->Hp->VK->Prop:=λx H Q=>∃ i,x=.int i/\Q (g i) H
section
variable{X:Cx}{a b c:Am}{ta tb tc:TE}{pos:AG}
theorem O7(ha:PE X a ta)(hb:PE X b tb){R:V->V->Hp->Prop}(I:Inv X pI Y H s)(h:ta Y H λx H1=>tb Y H1 λy H2=>R x y H2){Q:Vq}(hf:∀ v u s2 x y H2,Inv X pI Y H2 s2->BB x v->BB y u->R x y H2->Au (model X.prog X.w) X.A (f v u) Q X.xe s2):Au (model X.prog X.w) X.A (eval a X.env) (λv s₁=>Au (model X.prog X.w) X.A (eval b X.env) (λu s₂=>Au (model X.prog X.w) X.A (f v u) Q X.xe s₂) X.xe s₁) X.xe s:=by
 refine thn (ha pI s Y H _ I h) λv s1 ⟨x,H1,I1,r1,q1⟩=>?_
 refine thn (hb pI s1 Y H1 _ I1 q1) λu s2 ⟨y,H2,I2,r2,q2⟩=>?_
 exact hf v u s2 x y H2 I2 r1 r2 q2
theorem XI{op:FE}(ho:OpR X (B7 op) r)(ha:PE X a ta)(hb:PE X b tb):PE X (.BinOp a op b pos) (tOp r ta tb):=by
 intro pI s Y H Q I h;exact wpAny_BinOp (O7 ha hb I h λv u s2 x y H2 I2 rx ry q=>ho pI s2 Y H2 x y v u Q I2 rx ry q)
theorem eh{op:J5}{r:V->Hp->VK->Prop}(ho:UnR X (unaryOp op) r)(ha:PE X a ta):PE X (.UnaryOp op a pos) (tUn r ta):=by
 intro pI s Y H Q I h;exact UnaryOp_ (thn (ha pI s Y H _ I h) λv s1 ⟨x,H1,I1,r1,q1⟩=>ho pI s1 Y H1 x v Q I1 r1 q1)
theorem opI{C:Af->Af->Prop}(rule:∀(i j:Af)(t u:CK)(s:Ap)(Q:Vq)(E:Vq),C i j->Q (.int (g i j) s.toks) {s with toks:=s.toks+1}->Au (model X.prog X.w) X.A (f (.int i t) (.int j u)) Q E s):OpR X f (rI C λi j=>.int (g i j)):=by
 intro pI s Y H x y v u Q I rx ry h;obtain⟨i,j,rfl,rfl,hc,q⟩:=h;obtain⟨t,rfl⟩:=rx;obtain⟨t',rfl⟩:=ry;exact rule i j t t' s _ _ hc ⟨.int (g i j),H,I.tok _,⟨_,rfl⟩,q⟩
theorem Te(rule:∀(i j:Af)(t u:CK)(s:Ap)(Q:Vq)(E:Vq),Q (.int (g i j) s.toks) {s with toks:=s.toks+1}->Au (model X.prog X.w) X.A (f (.int i t) (.int j u)) Q E s):OpR X f (rI0 λi j=>.int (g i j)):=by
 intro pI s Y H x y v u Q I rx ry h;obtain⟨i,j,rfl,rfl,q⟩:=h;obtain⟨t,rfl⟩:=rx;obtain⟨t',rfl⟩:=ry;exact rule i j t t' s _ _ ⟨.int (g i j),H,I.tok _,⟨_,rfl⟩,q⟩
theorem OW{g:Af->Af->Ai}(rule:∀(i j:Af)(t u:CK)(s:Ap)(Q:Vq)(E:Vq),Q (.bool (g i j)) s->Au (model X.prog X.w) X.A (f (.int i t) (.int j u)) Q E s):OpR X f (rI0 λi j=>.bl (g i j)):=by
 intro pI s Y H x y v u Q I rx ry h;obtain⟨i,j,rfl,rfl,q⟩:=h;obtain⟨t,rfl⟩:=rx;obtain⟨t',rfl⟩:=ry;exact rule i j t t' s _ _ ⟨.bl (g i j),H,I,rfl,q⟩
def eN(i j:Af):Prop:=0<j/\j<1073741824
def eK(i j:Af):Prop:=0<=j/\j<=1000000/\i.natAbs<2 ^ 64
def O5(i j:Af):Prop:=(-(2 ^ 64)<i/\i<2 ^ 64)\/(-(2 ^ 64)<j/\j<2 ^ 64)
theorem O5.ok{i j:Af}(h:O5 i j):Ms i j:=by
 rcases h with ⟨h1,h2⟩|⟨h1,h2⟩
 .exact .of_left (intBits_le_64 h1 h2)
 .exact .of_right (intBits_le_64 h1 h2)
theorem wW:OpR X (B7 .Add) (rI0 λi j=>.int (i+j)):=Te λ_ _ _ _ _ _ _ q=>add_int q
theorem wS:OpR X (B7 .Sub) (rI0 λi j=>.int (i-j)):=Te λ_ _ _ _ _ _ _ q=>sub_int q
theorem oK:OpR X (B7 .FloorDiv) (rI eN λi j=>.int (i/j)):=opI λi j _ _ _ _ _ hc q=>by
 have h1:(0:Af)<j:=hc.1;have h2:j<1073741824:=hc.2;exact floordiv_int (by omega) (by rw[Int.fdiv_eq_ediv_of_nonneg i (by omega)];exact q) (.inl (PyProof.noPylong_small (by omega)))
theorem wU:OpR X (B7 .Mod) (rI (λ_ j=>0<j) λi j=>.int (i%j)):=opI λi j _ _ _ _ _ hc q=>by
 have h1:(0:Af)<j:=hc;exact mod_int' (by omega) (by rw[Int.fmod_eq_emod_of_nonneg i (by omega)];exact q)
theorem wT:OpR X (B7 .Pow) (rI eK λi j=>.int (i ^ j.toNat)):=opI λ_ _ _ _ _ _ _ hc q=>pow_int_small hc.1 hc.2.1 hc.2.2 q
theorem unI{f:Aj->GN Aj}{g:Af->Af}(rule:∀(i:Af)(t:CK)(s:Ap)(Q:Vq)(E:Vq),Q (.int (g i) s.toks) {s with toks:=s.toks+1}->Au (model X.prog X.w) X.A (f (.int i t)) Q E s):UnR X f (rU λi=>.int (g i)):=by
 intro pI s Y H x v Q I rx h;obtain⟨i,rfl,q⟩:=h;obtain⟨t,rfl⟩:=rx;exact rule i t s _ _ ⟨.int (g i),H,I.tok _,⟨_,rfl⟩,q⟩
theorem sX:UnR X (unaryOp .USub) (rU λi=>.int (-i)):=unI λ_ _ _ _ _ q=>neg_int q
end
section
variable{X:Cx}{a b c:Am}{ta tb tc:TE}{pos:AG}
theorem WC{Q:VK}{k k':Ai}(I:Inv X pI Y H s)(q:Q (.bl k) H)(e:k=k'):EP X pI Y Q (.bool k') s:=by
 subst e;exact⟨.bl k,H,I,rfl,q⟩
theorem bo:OpR X (CC .Lt) (rI0 λi j=>.bl (decide (i<j))):=OW λ_ _ _ _ _ _ _ q=>lt_int q
theorem bp:OpR X (CC .LtE) (rI0 λi j=>.bl (decide (i<=j))):=OW λ_ _ _ _ _ _ _ q=>le_int q
theorem bq:OpR X (CC .Gt) (rI0 λi j=>.bl (decide (j<i))):=OW λ_ _ _ _ _ _ _ q=>gt_int q
theorem br:OpR X (CC .GtE) (rI0 λi j=>.bl (decide (j<=i))):=OW λ_ _ _ _ _ _ _ q=>ge_int q
theorem wV:OpR X (CC .Is) (λx y H Q=>y=.non/\Q (.bl (decide (x=.non))) H):=by
 intro pI s Y H x y v u Q I rx ry h;obtain⟨rfl,q⟩:=h;cases ry;refine is_none_gen (WC I q ?_);cases x<;>first
  |(cases rx;rfl)
  |(obtain⟨t,rfl⟩:=rx;rfl)
theorem qC:OpR X (CC .IsNot) (λx y H Q=>y=.non/\Q (.bl (!decide (x=.non))) H):=by
 intro pI s Y H x y v u Q I rx ry h;obtain⟨rfl,q⟩:=h;cases ry;refine isnot_none_gen (WC I q ?_);cases x<;>first
  |(cases rx;rfl)
  |(obtain⟨t,rfl⟩:=rx;rfl)
theorem pW(ho:OpR X (CC op) r)(ha:PE X a ta)(hb:PE X b tb)(hm:Hg op b=Ad):PE X (.Compare a [op] [b] pos) (tOp r ta tb):=by
 intro pI s Y H Q I h;exact wpAny_Compare1 (O7 ha hb I h λv u s2 x y H2 I2 rx ry q=>ho pI s2 Y H2 x y v u Q I2 rx ry q) hm
def Xm(t:TE):TT:=λY H Q=>t Y H λx H'=>∃ k,x=.bl k/\Q k H'
theorem pL(ho:OpR X (CC op) r)(ha:PE X a ta)(hb:PE X b tb)(hm:Hg op b=Ad):PT X (.Compare a [op] [b] pos) (Xm (tOp r ta tb)):=by
 intro pI s Y H Q I h;refine wpAny_isTrue_Compare1 (thn (ha pI s Y H _ I h) λv s1 ⟨x,H1,I1,r1,q1⟩=>thn (hb pI s1 Y H1 _ I1 q1) λu s2 ⟨y,H2,I2,r2,q2⟩=>
  thn (ho pI s2 Y H2 x y v u _ I2 r1 r2 q2) λc s3 ⟨z,H3,I3,r3,k,e,q3⟩=>?_) hm
 subst e;cases r3;exact CD ⟨H3,I3,q3⟩
def WQ(r r':R2)(ta tb tc:TE):TE:=λY H Q=>ta Y H λx H1=>tb Y H1 λy H2=>r x y H2 λz H3=>∃ k,z=.bl k /\
 (if k=Ab then tc Y H3 λw' H4=>r' y w' H4 Q else Q (.bl Ad) H3)
theorem lI{op':Dg}{r':R2}(ho:OpR X (CC op) r)(ho':OpR X (CC op') r')(ha:PE X a ta)(hb:PE X b tb)(hc:PE X c tc)(hm:JG [op,op'] [b,c]=Ad:=by with_unfolding_all rfl):PE X (.Compare a [op,op'] [b,c] pos) (WQ r r' ta tb tc):=by
 intro pI s Y H Q I h;refine Compare_chain (thn (ha pI s Y H _ I h) λv s1 ⟨x,H1,I1,r1,q1⟩=>chain_link (thn (hb pI s1 Y H1 _ I1 q1) λu s2 ⟨y,H2,I2,r2,q2⟩=>
  thn (ho pI s2 Y H2 x y v u _ I2 r1 r2 q2) λd s3 ⟨z,H3,I3,r3,k,e,q3⟩=>?_)) hm
 subst e;cases r3;refine CD ?_;cases k with
 |false=>exact ite_ff ⟨.bl Ad,H3,I3,rfl,q3⟩
 |true=>exact ite_tt (chain_last (thn (hc pI s3 Y H3 _ I3 q3) λw' s4 ⟨z',H4,I4,r4,q4⟩=>ho' pI s4 Y H4 y z' u w' Q I4 r2 r4 q4))
theorem iT{op':Dg}{r':R2}(ho:OpR X (CC op) r)(ho':OpR X (CC op') r')(ha:PE X a ta)(hb:PE X b tb)(hc:PE X c tc)(hm:JG [op,op'] [b,c]=Ad:=by with_unfolding_all rfl):PT X (.Compare a [op,op'] [b,c] pos) (Xm (WQ r r' ta tb tc)):=by
 intro pI s Y H Q I h;refine isTrue_chain (thn (ha pI s Y H _ I h) λv s1 ⟨x,H1,I1,r1,q1⟩=>test_link (thn (hb pI s1 Y H1 _ I1 q1) λu s2 ⟨y,H2,I2,r2,q2⟩=>
  thn (ho pI s2 Y H2 x y v u _ I2 r1 r2 q2) λd s3 ⟨z,H3,I3,r3,k,e,q3⟩=>?_)) hm
 subst e;cases r3;refine CD ?_;cases k with
 |false=>
  obtain⟨k',e',q'⟩:=q3;cases e';exact ite_ff ⟨H3,I3,q'⟩
 |true=>
  refine ite_tt (test_last (thn (hc pI s3 Y H3 _ I3 q3) λw' s4 ⟨z',H4,I4,r4,q4⟩=>thn (ho' pI s4 Y H4 y z' u w' _ I4 r2 r4 q4) λd' s5 ⟨z2,H5,I5,r5,k2,e2,q5⟩=>?_))
  subst e2;cases r5;exact CD ⟨H5,I5,q5⟩
noncomputable def SH(K:Fg)(x:V)(H:Hp)(k:Ai):Prop:=
  match x with
  |.non=>k=Ad
  |.bl b=>k=b
  |.int i=>k=(i != 0)
  |.str y=>y.length<=sizeLine/\k=((y.length:Af) != 0)
  |.byt y=>y.size<=sizeLine/\k=((y.size:Af) != 0)
  |.ref p=>(∃ xs,SqL K H p xs/\k=!xs.isEmpty)\/(∃ xs,SqT K H p xs/\k=!xs.isEmpty)\/∃ kvs,H p=Aa (.dK kvs)/\k=!kvs.isEmpty
  |_=>AV
theorem fW{κ:Type}{kvs:Ac (κ×V)}{vs:Ac (κ×Aj)}(r:KV kvs vs):(!vs.isEmpty)=!kvs.isEmpty:=by
 cases r<;>rfl
theorem Tx{its:Ac Aj}(r:A8 xs its):(!its.toArray.isEmpty)=!xs.isEmpty:=by
 cases r<;>simp
theorem KJ:(sizeLine:Ag)<2 ^ 63:=by rw[C9];decide
theorem tD:cP X (λx H Q=>∃ k,SH X.K x H k/\Q k H):=by
 intro pI s Y H x v Q I rx h;obtain⟨k,e,q⟩:=h;have hl:=KJ;have hs:sizeLine=16777216:=C9;cases x with
 |non=>
  cases rx;have e':k=Ad:=e;subst e';exact truthy_none ⟨H,I,q⟩
 |bl b=>
  cases rx;have e':k=b:=e;subst e';exact CD ⟨H,I,q⟩
 |int i=>
  obtain⟨t,rfl⟩:=rx;have e':k=(i != 0):=e;subst e';exact PySem.P.truthy_int ⟨H,I,q⟩
 |str y=>
  obtain⟨t,rfl⟩:=rx;obtain⟨hy,e'⟩:y.length<=sizeLine/\k=((y.length:Af) != 0):=e;subst e';exact PySem.P.truthy_str (by omega) ⟨H,I.tok _,q⟩
 |byt y=>
  obtain⟨t,rfl⟩:=rx;obtain⟨hy,e'⟩:y.size<=sizeLine/\k=((y.size:Af) != 0):=e;subst e';exact PySem.W.truthy_bytes (by omega) ⟨H,I.tok _,q⟩
 |ref p=>
  cases rx;have e':(∃ xs,SqL X.K H p xs/\k=!xs.isEmpty)\/(∃ xs,SqT X.K H p xs/\k=!xs.isEmpty)\/∃ kvs,H p=Aa (.dK kvs)/\k=!kvs.isEmpty:=e;rcases e' with ⟨xs,hx,e'⟩|⟨xs,hx,e'⟩|⟨kvs,hx,e'⟩
  .subst e';obtain⟨its,r,pl,hz⟩:=I.list hx;have hlen:=r.length;exact wpAny_truthy_list pl.isList (by simp only[AA];omega) ⟨H,I.tok _,by rw[Tx r];exact q⟩
  .subst e';obtain⟨its,r,pl,hz⟩:=I.tuple hx;have hlen:=r.length;exact truthy_tuple pl (by simp only[AA];omega) ⟨H,I.tok _,by rw[Tx r];exact q⟩
  .subst e';obtain⟨hz,hS,vs,r,m⟩:kvs.length<=sizeLine/\(p==K5)=Ad/\∃ vs,KV kvs vs/\s.heap.DictOf (QD X.prog X.w) p vs:=I.hok p _ hx;have hlen:kvs.length=vs.length:=ZX r;exact wpAny_truthy_dict hS m (by omega) ⟨H,I.tok _,by rw[fW r];exact q⟩
 |_=>exact(show AV from e).elim
theorem iS(ha:PE X a ta)(he:∀ whole,IK a X.env whole=(do let v <-whole;HA a.pos;holding [v] (truthy v))):PT X a (λY H Q=>ta Y H λx H'=>∃ k,SH X.K x H' k/\Q k H'):=by
 intro pI s Y H Q I h;exact isTrue_plain (thn (ha pI s Y H _ I h) λv s1 ⟨x,H1,I1,r1,q1⟩=>tD pI s1 Y H1 x v Q I1 r1 q1) (he _)
theorem fR:OpR X (B7 .Add) (λx y H Q=>∃ i j,x=.str i/\y=.str j/\i.length+j.length<=sizeLine/\Q (.str (i++j)) H):=by
 intro pI s Y H x y v u Q I rx ry h;obtain⟨i,j,rfl,rfl,hz,q⟩:=h;obtain⟨t,rfl⟩:=rx;obtain⟨t',rfl⟩:=ry;exact add_str (λt' tk=>⟨.str (i++j),H,I.tok _,⟨_,rfl⟩,q⟩) hz
theorem Hl{x:V}(r:A8 [x] us):∃ u,us=[u]/\BB x u:=by
 cases r with
 |cons r1 r2=>cases r2;exact⟨_,rfl,r1⟩
theorem L7{x y:V}(r:A8 [x,y] us):∃ u w',us=[u,w']/\BB x u/\BB y w':=by
 cases r with
 |cons r1 r2=>
  cases r2 with
  |cons r3 r4=>cases r4;exact⟨_,_,rfl,r1,r3⟩
theorem gZ(hc:X.calm=Ab):HV X (.builtin "min") (λxs H Q=>∃ i j,xs=[.int i,.int j]/\Q (.int (if j<i then j else i)) H):=by
 intro pI s Y H xs us Q I r h;obtain⟨i,j,rfl,q⟩:=h;obtain⟨u,w',rfl,⟨t,rfl⟩,⟨t',rfl⟩⟩:=L7 r;refine min_two_ints (I.ok.hd hc) λh' tk k=>⟨_,H,I.kept k,?_,q⟩
 by_cases hj:j<i
 .rw[Ax hj,Ax hj];exact⟨_,rfl⟩
 .rw[AC hj,AC hj];exact⟨_,rfl⟩
theorem T7:HV X (.type "int") (λxs H Q=>(∃ i,xs=[.int i]/\Q (.int i) H)\/∃ k,xs=[.bl k]/\Q (.int (if k then 1 else 0)) H):=by
 intro pI s Y H xs us Q I r h;rcases h with ⟨i,rfl,q⟩|⟨k,rfl,q⟩
 .obtain⟨u,rfl,t,rfl⟩:=Hl r;exact call_int_int ⟨.int i,H,I,⟨_,rfl⟩,q⟩
 .obtain⟨u,rfl,r1⟩:=Hl r;cases r1;exact call_int_bool ⟨.int (if k then 1 else 0),H,I.tok _,⟨_,rfl⟩,q⟩
end
section
variable{prog:AK}{w:AZ}{A:AX}{E:Vq}{s:Ap}{K:Fg}{x dx C f:Al}{mA:Ah->Ao Aj}{name:Ah}{v:Aj}
end
theorem Nn.some_of{o:Ao Aj}(r:Nn (Aa v) o):∃ u,o=Aa u/\BB v u:=by
 cases o with
 |none=>exact(show AV from r).elim
 |some u=>exact⟨u,rfl,r⟩
theorem hV(r:BB v u):PySem.W.handedIn u=Ab:=by
 cases v with
 |non=>cases (show u=Di from r);rfl
 |bl b=>cases (show u=K1 b from r);rfl
 |int i=>obtain⟨t,e⟩:=(show ∃ t,u=Mo i t from r);cases e;rfl
 |str x=>obtain⟨t,e⟩:=(show ∃ t,u=Mp x t from r);cases e;rfl
 |byt b=>obtain⟨t,e⟩:=(show ∃ t,u=aH b t from r);cases e;rfl
 |flt b=>obtain⟨t,e⟩:=(show ∃ t,u=aI b t from r);cases e;rfl
 |ref a=>cases (show u=Cf a from r);rfl
 |ty n=>cases (show u=Hw n from r);rfl
section
variable{P:AK}{w:AZ}{H H':Hp}{h h':AD}{a C dx:Al}{fs fs':Ac (Ah×V)}
end
section
variable{X:Cx}{pI:Pn}{Y:St}{H:Hp}{s:Ap}{a C dx:Al}{fs:Ac (Ah×V)}{f:Ah}{v:V}{A:AX}{E:Vq}
theorem qL{prog:AK}{w:AZ}{env:B8}{f:Ah}{Q:Vq}(hb:Eo e f env (eval e env)=eval e env)(h:Au (model prog w) A (eval e env) (λo s₁=>Au (model prog w) A (getAttr o f Ab) Q E s₁) E s):Au (model prog w) A (eval (.Attribute e f pos) env) Q E s:=
 Attribute_any_ h (by rw[arm_eval_Attribute,hb])
end
section
variable{X:Cx}{o e value:Am}{f:Ah}{pos pos' tpos:AG}{ta tv:TE}
end
section
variable{X:Cx}{pI:Pn}{Y:St}{H:Hp}{s:Ap}{A:AX}{E:Vq}{Q:Vq}{c:Aj}{b:Ai}
end
structure Room (k:Ag) (A:AX):Prop where
 hd:A.handled=Ae
 dp:A.depth+3*k+5<GO
 un:A.units+16*k+200<BW
 gd:A.guards=Aa []
theorem Room.mono{j:Ag}{A:AX}(r:Room k A)(h:j<=k):Room j A:=⟨r.hd,by have:=r.dp;omega,by have:=r.un;omega,r.gd⟩
theorem Room.deeper{A:AX}(r:Room (k+1) A)(env:B8):Room k (A.deeper env):=
 ⟨r.hd,by have:=r.dp;show A.depth+1+3*k+5<_;omega,by have:=r.un;show A.units+3+16*k+200<_;omega,r.gd⟩
theorem fU{A:AX}{C:Al}:(A.under (.builtin "type.__call__" ⟨.ref C::us,kw⟩)).depth=A.depth+1:=by
 first|rfl|simp[Jy,Code.weight,Code.isCreation,Code.isGuard,Code.isCaller,Ze,Jz,guardIds]
theorem fT{A:AX}{C:Al}:(A.under (.builtin "type.__call__" ⟨.ref C::us,kw⟩)).units=A.units+1:=by
 first|rfl|simp[Jy,Code.cUnits,Ze,Jz]
theorem Room.depth{A:AX}(r:Room k A):A.depth<GO:=by have:=r.dp;omega
theorem Room.units{A:AX}(r:Room k A):A.units+64<BW:=by have:=r.un;omega
def dR:TA:=λ_ H Q=>Q [] H
def yW(ta:TE)(tr:TA):TA:=λY H Q=>ta Y H λx H1=>tr Y H1 λxs H2=>Q (x::xs) H2
section
variable{X:Cx}{e:Am}{es:Ac Am}{te:TE}{t:TA}{pos:AG}
theorem Fk:PA X [] dR:=λ_ _ _ _ H Q I h=>FQ ⟨[],H,I,.nil,h⟩
theorem DM(ha:PE X e te)(hr:PA X es t)(hs:As (e::es) X.env=(Ad,eval e X.env)::As es X.env:=by rfl):PA X (e::es) (yW te t):=by
 intro pos pI s Y H Q I h;rw[hs];show Au _ _ (spliced ((Ad,eval e X.env)::BP pos (As es X.env))) _ _ s;refine G6 (thn (ha pI s Y H _ I h) λu s1 ⟨x,H1,I1,r1,q1⟩=>?_)
 exact thn (hr pos pI s1 Y H1 _ I1 q1) λus s2 ⟨xs,H2,I2,r2,q2⟩=>⟨x::xs,H2,I2,.cons r1 r2,q2⟩
def cJ(t:TA):TE:=λY H Q=>t Y H λxs H1=>xs.length<=sizeLine/\∀ p,H1 p=Ae->Q (.ref p) (upd H1 p (.tup xs))
def dS(t:TA):TE:=λY H Q=>t Y H λxs H1=>xs.length<=sizeLine/\∀ p,H1 p=Ae->Q (.ref p) (upd H1 p (.lst xs))
theorem W9{x1}(h:PA X es t):PE X (.Tuple es x1 pos) (cJ t):=by
 intro pI s Y H Q I hq;refine wpAny_Tuple_spliced (thn (h pos pI s Y H _ I hq) λus s1 ⟨xs,H1,I1,r,z,q⟩=>⟨by rw[<-r.length];exact z,?_⟩)
 have hf:H1 s1.heap.objs.size=Ae:=I1.hok.fresh (AU _);refine⟨.ref s1.heap.objs.size,upd H1 s1.heap.objs.size (.tup xs),I1.laid (t':=s1.toks) (λb u e=>Ar _ e) (AU _) ?_,rfl,q _ hf⟩
 exact⟨z,us,r,⟨_,AH _ rfl,rfl,_,rfl⟩⟩
theorem wO(h:PA X es t):PE X (.List es pos) (dS t):=by
 intro pI s Y H Q I hq;refine wpAny_List_spliced (thn (h pos pI s Y H _ I hq) λus s1 ⟨xs,H1,I1,r,z,q⟩=>⟨by rw[<-r.length];exact z,?_⟩)
 have hf:H1 s1.heap.objs.size=Ae:=I1.hok.fresh (AU _);refine⟨.ref s1.heap.objs.size,upd H1 s1.heap.objs.size (.lst xs),I1.laid (t':=s1.toks) (λb u e=>Ar _ e) (AU _) ?_,rfl,q _ hf⟩
 exact⟨z,us,0,r,AH _ rfl⟩
end
abbrev Sp:=Ac V->Hp->VK->XK->Prop
variable{sp:Sp}
abbrev CXT:=Ac B8->Hp->Ap->XK->Aj->Ap->Prop
variable{CX:CXT}
structure Env0 (P:AK) (w:AZ) (K:Fg) (mg:Ah->Ao Aj) (base:AD) (A:AX) (outer:Ac B8) (s:Ap) (H:Hp):Prop where
 frames:A.frames=Aa outer
 mod:Mod K mg base
 bs:∀ b o,base.get? b=Aa o->s.heap.get? b=Aa o/\H b=Ae
 bsz:base.objs.size<=s.heap.objs.size
 funs:s.heap.FunFrames base outer
 frf:∀ b∈frs outer,H b=Ae
 hok:HOk P w H s.heap
 bare:FK s.gens
noncomputable def CE(outer:Ac B8)(P:AK)(w:AZ)(H:Hp)(s:Ap)(Q:VK)(u:Aj)(s':Ap):Prop:=
 ∃ v H',s'.os=s.os/\FK s'.gens/\Un (frs outer) [] H H' s.heap s'.heap/\HOk P w H' s'.heap/\BB v u/\Q v H'
noncomputable def CR(CX:CXT)(outer:Ac B8)(P:AK)(w:AZ)(H:Hp)(s:Ap)(Q:VK)(E:XK)(r:IH)(s':Ap):Prop:=
  match r with
  |.ok (.ret u)=>CE outer P w H s Q u s'
  |.ok _=>AV
  |.error e=>CX outer H s E e s'
structure FnOk (P:AK) (w:AZ) (K:Fg) (mg:Ah->Ao Aj) (base:AD) (CX:CXT) (k:Ag) (f:Al) (fd:BM) (ps:Ac Ah) (sp:Sp):Prop where
 len:∀ vs H Q E,sp vs H Q E->vs.length=ps.length
 run:∀(A:AX)(outer:Ac B8)(s:Ap)(H:Hp)(args:Args)(us:Ac Aj)(vs:Ac V)(Q:VK)(E:XK),Room k A->Env0 P w K mg base A outer s H->Gn s fd args (ps.zip us)->A8 vs us->sp vs H Q E ->
  E9 (model P w) A (.call (.ref f) args) (CR CX outer P w H s Q E) s
theorem FnOk.imp{w:AZ}{K:Fg}{mg:Ah->Ao Aj}{base:AD}{f:Al}{sp':Sp}(F:FnOk P w K mg base CX k f fd ps sp)(h:∀ vs H Q E,sp' vs H Q E->sp vs H Q E):FnOk P w K mg base CX k f fd ps sp':=
 ⟨λvs H Q E q=>F.len vs H Q E (h _ _ _ _ q),λA outer s H args us vs Q E hr he hb hv hs=>F.run A outer s H args us vs Q E hr he hb hv (h _ _ _ _ hs)⟩
theorem Env0.make{w:AZ}{K:Fg}{mg:Ah->Ao Aj}{base:AD}{A:AX}{outer:Ac B8}(e:Env0 P w K mg base A outer s H)(C:Al)(us:Ac Aj)(kw:Ac (Ah×Aj)):
    Env0 P w K mg base (A.under (.builtin "type.__call__" ⟨.ref C::us,kw⟩)) outer s H:=⟨by first|exact e.frames|(simpa [Jy,Code.envs,Jz,pushEnvs] using e.frames),e.mod,e.bs,e.bsz,e.funs,e.frf,e.hok,e.bare⟩
section
variable{X:Cx}{pI:Pn}{Y:St}{H:Hp}{s s':Ap}
theorem Inv.env0(I:Inv X pI Y H s):Env0 X.prog X.w X.K X.mg X.base X.A X.stack s H:=
 ⟨I.ok.frames,I.ok.mod,I.bs,Cz I.ok.bsz I.sz,I.stack,I.stkFree,I.hok,I.bare⟩
theorem Inv.after{Q:VK}(I:Inv X pI Y H s)(h:CE X.stack X.prog X.w H s Q u s'):EP X pI Y Q u s':=by
 obtain⟨v,H',os,bare,un,hok,r,q⟩:=h;obtain⟨hh,g,d,t,os'⟩:=s';obtain rfl:os'=s.os:=os;exact⟨v,H',I.call (h':=hh) (g':=g) (d':=d) (t':=t) (ch:=[]) un hok bare (λb z=>absurd z (by simp)),r,q⟩
end
def yH(sp:Sp)(dvs:Ac V)(E:XK)(t:TA):TE:=λY H Q=>t Y H λvs H1=>sp (vs++dvs) H1 Q E
noncomputable def FV(K:Fg)(fd:BM)(ps:Ac Ah)(ds:Ac Aj):Prop:=
 ∀(s:Ap)(us:Ac Aj),K.In s.heap->(us++ds).length=ps.length->Gn s fd ⟨us,[]⟩ (ps.zip (us++ds))
theorem FV.all{K:Fg}(h:∀ us:Ac Aj,us.length=ps.length->IP fd ⟨us,[]⟩=pure (ps.zip us)):FV K fd ps []:=λs us _ hl=>by
 rw[Cq]at hl ⊢;exact .of_eq (h us hl)
def LK(CX:CXT)(X:Cx)(E:XK):Prop:=∀(pI:Pn)(Y:St)(H:Hp)(s:Ap)(e:Aj)(s':Ap),Inv X pI Y H s->CX X.stack H s E e s'->X.xe e s'
section
variable{X:Cx}{CX:CXT}{k:Ag}{f C:Al}{fd:BM}{ps:Ac Ah}{sp:Sp}{dvs:Ac V}{ds:Ac Aj}{E:XK}{x m:Ah}{p pos apos:AG}{e o:Am}{es:Ac Am}{ta:TE}{t:TA}
theorem tU{Q:VK}(F:FnOk X.prog X.w X.K X.mg X.base CX k f fd ps sp)(hr:Room k X.A)(hb:FV X.K fd ps ds)(hd:A8 dvs ds)(hx:LK CX X E)(I:Inv X pI Y H s)(r:A8 vs us)(h:sp (vs++dvs) H Q E):Au (model X.prog X.w) X.A (call (.ref f) us) (EP X pI Y Q) X.xe s:=by
 have r2:A8 (vs++dvs) (us++ds):=r.append hd;have hl:(us++ds).length=ps.length:=by rw[<-r2.length];exact F.len _ _ _ _ h
 refine FL (Eh (F.run X.A X.stack s H ⟨us,[]⟩ (us++ds) (vs++dvs) Q E hr I.env0 (hb s us I.kIn hl) r2 h) λr s' hq=>?_)
 cases r with
 |error e=>exact hx pI Y H s e s' I hq
 |ok fl=>
  cases fl with
  |ret u=>exact I.after hq
  |next=>exact Bc hq
  |brk=>exact Bc hq
  |cont=>exact Bc hq
theorem Vk(F:FnOk X.prog X.w X.K X.mg X.base CX k f fd ps sp)(hr:Room k X.A)(hg:Gl X x)(hm:X.mg x=Aa (.ref f))(hk:B2 X.K (.ref f)=Ab)(hb:FV X.K fd ps ds)(hd:A8 dvs ds)(hx:LK CX X E)(ha:PA X (e::es) t)(hdb:(x==("__debug__" : Ah))=Ad:=by decide)(he:As (e::es) X.env=(Ad,eval e X.env)::As es X.env:=by rfl)(hpl:(BP pos (As es X.env)).any (·.1)=Ad:=by rfl):PE X (.Call (.Name x p) (e::es) [] pos) (yH sp dvs E t):=by
 intro pI s Y H Q I h;refine Eu (JO I hg hm ?_ hdb);refine G7 (h₀:=X.base) I.ok.mod.kin hk (thn (ha pos pI s Y H _ I h) λus s1 ⟨vs,H1,I1,r,q⟩=>⟨I1.kIn,?_⟩) he hpl
 exact tU F hr hb hd hx I1 r q
end
section
variable{X:Cx}{CX:CXT}{k:Ag}{f C:Al}{fd:BM}{ps ks:Ac Ah}{sp:Sp}{E:XK}{x m:Ah}{p pos apos kpos:AG}{e o:Am}{es:Ac Am}{kws:Ac EI}{te ta:TE}{t tk:TA}{nm:Ao Ah}
variable{g:Ac Aj->Ac Aj->Ac Aj}{gV:Ac V->Ac V->Ac V}
end
structure FnScope (N P:Ac Ah) (sc:B5):Prop where
 kind:sc.kind=.function
 co:sc.isCoroutine=Ad
 gen:sc.isGenerator=Ad
 nd:N.Nodup
 pre:N.take P.length=P
 par:∀ x∈P,sc.names.lookup x=Aa .local\/sc.names.lookup x=Aa .cell
 nofree:∀ y∈sc.names,y.2≠.free
theorem T9{kindOf:Ah->Ao Eg}{x:Ah}:∀{binds:Ac (Ah×Aj)}{m:Ah->Ao Aj},(∀ v,(x,v)∉binds)->IR kindOf binds m x=m x
 |[],_,_=>rfl
 |(n,v)::r,m,h=>by
  unfold IR;rw[T9 λw hw=>h w (Aw _ hw)]
  split
  .have:x≠n:=by rintro rfl;exact h v Ay
   simp[this]
  .rfl
theorem Ub{kindOf:Ah->Ao Eg}{x:Ah}:∀{binds:Ac (Ah×Aj)}{m:Ah->Ao Aj},(∀ v,(x,v)∉binds)->IQ kindOf binds m x=m x
 |[],_,_=>rfl
 |(n,v)::r,m,h=>by
  unfold IQ;rw[Ub λw hw=>h w (Aw _ hw)]
  split
  .rfl
  .have:x≠n:=by rintro rfl;exact h v Ay
   simp[this]
theorem Ua{kindOf:Ah->Ao Eg}{x:Ah}{v:Aj}:∀{P:Ac Ah}{vs:Ac Aj}{i:Ag}{m:Ah->Ao Aj},P.Nodup->P[i]?=Aa x->vs[i]?=Aa v->kindOf x=Aa .local->IR kindOf (P.zip vs) m x=Aa v
 |[],_,_,_,_,h,_,_=>by simp at h
 |_::_,[],_,_,_,_,h,_=>by simp at h
 |p::P,w::vs,0,m,nd,h1,h2,hk=>by
  simp at h1 h2;subst h1;subst h2;show IR kindOf ((p,w)::P.zip vs) m p=_;unfold IR;rw[T9 λv hv=>(BV.mp nd).1 (Gr hv).1,Ax hk]
  simp
 |p::P,w::vs,i+1,m,nd,h1,h2,hk=>by
  show IR kindOf ((p,w)::P.zip vs) m x=_;unfold IR;exact Ua (i:=i) (BV.mp nd).2 (by simpa using h1) (by simpa using h2) hk
theorem Uc{kindOf:Ah->Ao Eg}{x:Ah}{v:Aj}:∀{P:Ac Ah}{vs:Ac Aj}{i:Ag}{m:Ah->Ao Aj},P.Nodup->P[i]?=Aa x->vs[i]?=Aa v->kindOf x≠Aa .local->IQ kindOf (P.zip vs) m x=Aa v
 |[],_,_,_,_,h,_,_=>by simp at h
 |_::_,[],_,_,_,_,h,_=>by simp at h
 |p::P,w::vs,0,m,nd,h1,h2,hk=>by
  simp at h1 h2;subst h1;subst h2;show IQ kindOf ((p,w)::P.zip vs) m p=_;unfold IQ;rw[Ub λv hv=>(BV.mp nd).1 (Gr hv).1,AC hk]
  simp
 |p::P,w::vs,i+1,m,nd,h1,h2,hk=>by
  show IQ kindOf ((p,w)::P.zip vs) m x=_;unfold IQ;exact Uc (i:=i) (BV.mp nd).2 (by simpa using h1) (by simpa using h2) hk
noncomputable def start(N:Ac Ah)(vs:Ac V):St:=vs.map Aa++GM (N.length-vs.length) Ae
noncomputable def EO(CX:CXT)(P:AK)(w:AZ)(K:Fg)(mg:Ah->Ao Aj)(base:AD)(N:Ac Ah)(qual:Ah)(scope:B5)(f:Al)(cd:Aj)(A:AX)(outer:Ac B8)(s:Ap)(H:Hp)(E:XK):Cx where
 prog:=P
 w:=w
 K:=K
 mg:=mg
 base:=base
 A:=A.deeper (EG qual scope s.heap.objs.size f cd)
 N:=N
 s₀:=s
 H₀:=H
 env:=EG qual scope s.heap.objs.size f cd
 outer:=outer
 stack:=EG qual scope s.heap.objs.size f cd::outer
 ex:=[]
 calm:=Ab
 fn:=λ_=>Ab
 pn:=[]
 xe:=λe s'=>Au (model P w) (A.deeper (EG qual scope s.heap.objs.size f cd)) (leaving (EG qual scope s.heap.objs.size f cd) e) (λ_ s''=>CX outer H s E e s'') (λe' s''=>CX outer H s E e' s'') s'
theorem Vg{sc:B5}(h:sc.names.lookup x=Aa .cell):∃ c,(CM n sc.names []).lookup x=Aa c:=by
 have q:=F3 sc.names n [] (.inl h);exact Dv.mp q
theorem Qc{w:AZ}{K:Fg}{mg:Ah->Ao Aj}{base:AD}{N ps:Ac Ah}{f:Al}{cd:Aj}{A:AX}{outer:Ac B8}{s1:Ap}{E:XK}(S:FnScope N ps scope)(hd:A.handled=Ae)(e0:Env0 P w K mg base A outer s H)(hl:vs.length=ps.length)(r:A8 vs us)(x:InCallC s s.heap.objs.size (IR (EG qual scope s.heap.objs.size f cd).kindOf (ps.zip us) λ_=>Ae) (CM (s.heap.objs.size+1) scope.names []) (IQ (EG qual scope s.heap.objs.size f cd).kindOf (ps.zip us) λ_=>Ae) s1):Inv (EO CX P w K mg base N qual scope f cd A outer s H E) [] (start N vs) H s1:=by
 have hpl:ps.length<=N.length:=by have:=congrArg YC S.pre;rw[Gb]at this;omega
 obtain⟨h1,tk,rfl,hk⟩:=x.done;have noA:∀ b:Al,b∉(EO CX P w K mg base N qual scope f cd A outer s H E).ex:=λb z=>absurd (show b∈([]:Ac Al) from z) (by simp)
 refine⟨⟨e0.mod,S.kind,rfl,rfl,AU _,λy z c h1 h2=>?_,λy hy=>?_,λy c _ h=>?_,λ_=>hd,Around.frames_deeper e0.frames,.inr ⟨rfl,rfl⟩,λb z=>absurd z (noA b),e0.bs,e0.bsz,λb _ _=>noA b,λb z=>absurd z (noA b),e0.funs,e0.frf⟩,
  rfl,e0.bare,Un.kept hk,⟨_,x.toInCall.ns,λi y v h1 h2 h3=>?_⟩,λy c h=>⟨_,x.cell y c h⟩,e0.hok.fresh (AU _),λy c h=>?_,λp hp=>absurd (show p∈([]:Pn) from hp) (by simp),e0.hok.kept hk,?_⟩
 .exact name_of_addr x.apart (CF h1) (CF h2)
 .have hy:scope.names.lookup y=Aa .cell\/scope.names.lookup y=Aa .free:=hy;rcases hy with hy|hy
  .exact Vg hy
  .exact absurd rfl (S.nofree _ (CF hy))
 .exact Gs (x.above y c (CF h))
 .have hi:i<vs.length:=by
   unfold start at h2;by_cases hi:i<vs.length
   .exact hi
   .rw[Yx (by simpa using hi)]at h2
    rw[YA]at h2;split at h2<;>cases h2
  have ha:vs[i]?=Aa v:=by
   unfold start at h2;rw[Fq (by simpa using hi),DY]at h2
   cases e:vs[i]? with
   |none=>rw[e]at h2;cases h2
   |some a=>rw[e]at h2;cases h2;rfl
  obtain⟨u,hu,rv⟩:=r.get ha;have hp:ps[i]?=Aa y:=by
   rw[<-S.pre,List.getElem?_take_of_lt (by omega)];exact h1
  have ndP:ps.Nodup:=by rw[<-S.pre];exact S.nd.sublist (List.take_sublist _ _)
  refine⟨u,rv,?_⟩;rcases S.par y (YI hp) with k|k
  .exact .inl ⟨k,Ua ndP hp hu k⟩
  .obtain⟨c,e⟩:=Vg (n:=s.heap.objs.size+1) k;refine .inr ⟨.inl k,c,e,?_⟩;have q:=x.cell y c e;rw[Uc ndP hp hu (by show scope.names.lookup y≠_;rw[k];decide)]at q
   exact q
 .exact e0.hok.fresh (Gs (x.above y c (CF h)))
 .unfold start;show _=N.length;rw[Cu,Bi,YE];omega
theorem X8{w:AZ}{K:Fg}{mg:Ah->Ao Aj}{base:AD}{f:Al}{name:Ah}{params:Mm}{dV kV doc pm cdv ct oc:Aj}{an od:Ao Al}{osl:Ba (Ao Aj)}{N ps:Ac Ah}(lk:K.lookup f=Aa ⟨oc,od,.func (Co name qual params body scope dV kV doc pm an cdv ct),osl⟩)(hcd:D8 K cdv qual=Ab)(S:FnScope N ps scope)(len:∀ vs H Q E,sp vs H Q E->vs.length=ps.length)(hbody:∀(A:AX)(outer:Ac B8)(s:Ap)(H:Hp)(vs:Ac V)(Q:VK)(E:XK),Room k (A.deeper (EG qual scope s.heap.objs.size f cdv))->sp vs H Q E ->
   ∃ t,PSs (EO CX P w K mg base N qual scope f cdv A outer s H E) body t/\t {nx:=λ_ H'=>Q .non H',rt:=Q} (start N vs) H):FnOk P w K mg base CX (k+1) f (Co name qual params body scope dV kV doc pm an cdv ct) ps sp:=by
 refine⟨len,λA outer s H args us vs Q E hr e0 hb r hsp=>?_⟩
 have hl:=len _ _ _ _ hsp;have KX:K.In s.heap:=e0.mod.kin.keeps λb o e=>(e0.bs b o e).1
 have lim:s.heap.NoLimit:=e0.mod.nolimit.keeps λb o e=>(e0.bs b o e).1
 have hkind:∀ y∈ps.zip us,scope.names.lookup y.1=Aa .local\/(scope.names.lookup y.1=Aa .cell/\((CM (s.heap.objs.size+1) scope.names []).lookup y.1).isSome=Ab):=λ⟨n,v⟩ hy=>by
  rcases S.par n (Gr hy).1 with q|q
  .exact .inl q
  .exact .inr ⟨q,F3 _ _ _ (.inl q)⟩
 refine Go hr.depth (KX _ _ lk) rfl S.co S.gen rfl (G8 KX hcd) (hb _ _ _ _ ?_);refine E7 S.kind hkind λenv he s1 x=>?_
 subst he;refine⟨lim.keeps x.toInCall.keep,JE ?_⟩;obtain⟨t,ht,hq⟩:=hbody A outer s H vs Q E (hr.deeper _) hsp;have I:Inv (EO CX P w K mg base N qual scope f cdv A outer s H E) [] (start N vs) H s1:=Qc S hr.hd e0 hl r x;refine Bg (ht [] s1 (start N vs) H _ I hq) (λfl s' hs=>?_) λe s' hs=>hs
 have fin:∀{Y':St}{H':Hp}{v:V}{u:Aj},Inv (EO CX P w K mg base N qual scope f cdv A outer s H E) [] Y' H' s'->BB v u->Q v H'->CE outer P w H s Q u s':=
  λ{Y' H' v u} J rv q=>⟨v,H',J.os,J.bare,J.base,J.hok,rv,q⟩
 cases fl with
 |ret u=>
  obtain⟨v,Y',H',J,rv,q⟩:=hs;exact fin J rv q
 |next=>
  obtain⟨Y',H',J,q⟩:=hs;exact fin (v:=V.non) (u:=Di) J rfl q
 |brk=>
  obtain⟨_,_,_,q⟩:=hs;exact Bc q
 |cont=>
  obtain⟨_,_,_,q⟩:=hs;exact Bc q
section
variable{X:Cx}{x:Ah}{p pos:AG}{e:Am}{es:Ac Am}{t:TA}{id T:Da}{r:Ac V->Hp->VK->Prop}
def tCB(r:Ac V->Hp->VK->Prop)(t:TA):TE:=λY H Q=>t Y H λvs H1=>r vs H1 Q
theorem MG(hc:HV X (.builtin id) r)(hg:Gl X x)(hm:X.mg x=Ae)(hv:C8 x=Aa (.builtin id))(ha:PA X (e::es) t)(hn:x≠"__name__" := by decide)(hdb:(x==("__debug__" : Ah))=Ad:=by decide)(he:As (e::es) X.env=(Ad,eval e X.env)::As es X.env:=by rfl)(hpl:(BP pos (As es X.env)).any (·.1)=Ad:=by rfl):PE X (.Call (.Name x p) (e::es) [] pos) (tCB r t):=by
 intro pI s Y H Q I h;refine Eu (HS I hg hm hv ?_ hn hdb);exact Y_3 (thn (ha pos pI s Y H _ I h) λus s1 ⟨vs,H1,I1,r1,q1⟩=>hc pI s1 Y H1 vs us Q I1 r1 q1) he hpl
theorem TU(hc:HV X (.type T) r)(hg:Gl X x)(hm:X.mg x=Ae)(hv:C8 x=Aa (.type T))(ha:PA X (e::es) t)(hn:x≠"__name__" := by decide)(hdb:(x==("__debug__" : Ah))=Ad:=by decide)(he:As (e::es) X.env=(Ad,eval e X.env)::As es X.env:=by rfl)(hpl:(BP pos (As es X.env)).any (·.1)=Ad:=by rfl):PE X (.Call (.Name x p) (e::es) [] pos) (tCB r t):=by
 intro pI s Y H Q I h;refine Eu (HS I hg hm hv ?_ hn hdb);exact BR (thn (ha pos pI s Y H _ I h) λus s1 ⟨vs,H1,I1,r1,q1⟩=>hc pI s1 Y H1 vs us Q I1 r1 q1) he hpl
end
end L2
namespace HT
open PySem PyProof.Rows
variable{sl:Al}
section
open PySem.SeqAt
open PySem.AutoSeq1 (wpAny_loadPart')
open PySem.MeetsSeq PySem.MeetsSeq2 PySem.MeetsSeq3
end
section
variable{prog:AK}{w:AZ}{A:AX}{E:Vq}{s:Ap}
theorem cat_tup{t b:Al}{vs ws:Ac Aj}{Q:Vq}(ht:KU s.heap t vs.toArray)(hb:KU s.heap b ws.toArray)(hv:vs≠[])(h1:ws=[]->Q (.ref t) s)(h2:ws≠[]->Q (.ref s.heap.objs.size) { s with heap:=s.heap.push { cls:=.type "tuple",data:=.seq (vs++ws).toArray } })(hsz:vs.length+ws.length<=sizeLine):Au (model prog w) A (B7 .Add (.ref t) (.ref b)) Q E s:=by
 obtain⟨⟨cls,dd,data,sl⟩,ho,hc,n,hd⟩:=id ht;obtain⟨⟨cls2,dd2,data2,sl2⟩,ho2,hc2,n2,hd2⟩:=id hb;simp only at hc hd hc2 hd2;subst hc hd hc2 hd2;have e:vs.toArray++ws.toArray=(vs++ws).toArray:=by simp
 by_cases hw:ws=[]
 .exact JF ⟨_,ho,rfl⟩ ⟨_,ho2,rfl⟩ aY seq_tuple_add ZO ZK (ZG _ _)
   (tuple_addW1 t b vs.toArray ws.toArray n n2 dd dd2 sl sl2 (by simpa using hv) (by simp[hw])) ⟨ho,ho2,h1 hw⟩
 .refine JF ⟨_,ho,rfl⟩ ⟨_,ho2,rfl⟩ aY seq_tuple_add ZO ZK (ZG _ _)
   (tuple_addW2 t b vs.toArray ws.toArray n n2 dd dd2 sl sl2 (by simpa using hv) (by simpa using hw) (by rw[AA,AA];exact hsz)) ⟨ho,ho2,?_⟩
  rw[e];exact h2 hw
noncomputable def sIx(n d:Ag):Ao Af->Ag
 |none=>d
 |some v=>if v<0 then (v+(n:Af)).toNat else min v.toNat n
theorem vG(n d:Ag)(hd:d<=n)(o:Ao Af):sIx n d o<=n:=by
 cases o with
 |none=>exact hd
 |some v=>
  show (if v<0 then (v+(n:Af)).toNat else min v.toNat n)<=n
  by_cases hv:v<0
  .rw[Ax hv];omega
  .rw[AC hv];exact Nat.min_le_right _ _
theorem V1(v:Af)(n d:Ag):(if v<0 then max (v+(n:Af)) 0 else min v (n:Af))=((sIx n d (Aa v):Ag):Af):=by
 show (if v<0 then max (v+(n:Af)) 0 else min v (n:Af))=(((if v<0 then (v+(n:Af)).toNat else min v.toNat n):Ag):Af)
 by_cases hv:v<0
 .simp only[Ax hv];omega
 .simp only[AC hv];omega
theorem fH(lo hi:Ao Af)(n:Ag):Ft lo hi 1 (n:Af)=(((sIx n 0 lo:Ag):Af),((sIx n n hi:Ag):Af)):=by
 have h1:¬ ((1:Af)<0):=by omega
 unfold Ft;simp only[h1,G0];refine BF ?_ ?_
 .cases lo with
  |none=>rfl
  |some v=>exact V1 v n 0
 .cases hi with
  |none=>rfl
  |some v=>exact V1 v n n
theorem fQ(i j:Ag):D0 (i:Af) (j:Af) 1=j-i:=by
 unfold D0;have h1:(1:Af)>0:=by omega
 simp only[h1,Ep,Int.ediv_one];split<;>omega
theorem TK{v:Aj}{o:Ao Af}{Q:Ao Af->Ap->Prop}(p:HJ v o)(h:Q o s):Au (model prog w) A (Builtin.Slice.slicePartIndex v) Q E s:=by
 cases p with
 |none=>exact Y_4 h
 |int i t=>exact slicePart_int h
theorem eP{vl vu:Aj}{lo hi:Ao Af}{n:Ag}{Q:Af×Af×Ag->Ap->Prop}(hs:s.heap.IsSliceOf sl vl vu .none)(pl:HJ vl lo)(pu:HJ vu hi)(h:Q (((sIx n 0 lo:Ag):Af),1,sIx n n hi-sIx n 0 lo) s):Au (model prog w) A (Za (.ref sl) (pure (n:Af))) Q E s:=by
 obtain⟨os,hos,hcs,hds⟩:=id hs;unfold Za Builtin.Slice.sliceFields;refine An (An (BX hos hds (x:=vl) rfl (An (BX hos hds (x:=vu) rfl (An (BX hos hds (x:=.none) rfl (Az ?_)))))));refine An (Y_4 ?_);show Au _ _ (if ((1:Af)==0)=Ab then _ else _) _ _ s
 rw[AC (by decide)]
 refine An (TK pl (An (TK pu (An (Az ?_)))));show Au _ _ (match Ft lo hi 1 (n:Af) with|(lo,hi)=>pure (lo,(1:Af),D0 lo hi 1)) _ _ s
 rw[fH lo hi n];show Au _ _ (pure (((sIx n 0 lo:Ag):Af),(1:Af),D0 ((sIx n 0 lo:Ag):Af) ((sIx n n hi:Ag):Af) 1)) _ _ s;rw[fQ];exact Az h
theorem iV(xs:Ba Aj)(i k:Ag):((A6 k).filterMap fun(m:Ag)=>xs[((i:Af)+(m:Af)*1).toNat]?).toArray=((xs.toList.drop i).take k).toArray:=by
 have e:(fun(m:Ag)=>xs[((i:Af)+(m:Af)*1).toNat]?)=λm=>xs[i+m]?:=by
  funext m
  have:((i:Af)+(m:Af)*1).toNat=i+m:=by omega
  rw[this]
 rw[e];have:=pick_run xs i k;rw[List.filterMap_map]at this;have e2:((λx=>xs[x]?) ∘ λx=>i+x)=λm=>xs[i+m]?:=rfl
 rw[e2]at this;rw[this]
theorem getItem_tuple_cut{t:Al}{items:Ba Aj}{vl vu:Aj}{lo hi:Ao Af}{Q:Vq}(ht:KU s.heap t items)(hs:s.heap.IsSliceOf sl vl vu .none)(pl:HJ vl lo)(pu:HJ vu hi)(hw:¬ (sIx items.size 0 lo=0/\sIx items.size items.size hi=items.size))(h:Q (.ref s.heap.objs.size) { s with heap:=s.heap.push { cls:=.type "tuple",data:=.seq ((items.toList.drop (sIx items.size 0 lo)).take (sIx items.size items.size hi-sIx items.size 0 lo)).toArray } })(hsz:items.size<=sizeLine):Au (model prog w) A (J6 (.ref t) (.ref sl)) Q E s:=by
 have htake:sizeOk (.seq ((items.toList.drop (sIx items.size 0 lo)).take (sIx items.size items.size hi-sIx items.size 0 lo)).toArray):=by
  show ((items.toList.drop (sIx items.size 0 lo)).take (sIx items.size items.size hi-sIx items.size 0 lo)).toArray.size<=sizeLine;rw[AA,Gb,Ga,Fb];omega
 have hj:sIx items.size items.size hi<=items.size:=vG _ _ (AU _) hi;obtain⟨os,hos,hcs,hds⟩:=id hs;have hTs:s.TypeIs (.ref sl) "slice" := ⟨os,hos,hcs⟩;unfold J6
 try with_reducible refine BZ ?_
 first|refine An (Az ?_)|skip
 refine An (wpAny_sequenceKey ht.typeIs (by decide) ?_)
 refine An (DG (name:=AY "__getitem__") ht.typeIs Y_5
  (EU Y_5 ht.typeIs entry_tuple_getitem ?_ (args_tuple_getitem _ _)))
 show Au _ _ (Builtin.Tuple.tupleItemsOf (.ref t) >>= _) _ _ s;refine An (tupleItemsOf_ ht ?_);refine An (wpAny_typeOf hTs ?_);rw[Ax (by decide)]
 refine An (eP hs pl pu ?_);have hno:¬ ((((sIx items.size 0 lo:Ag):Af)==0&&(1:Af)==1&&(sIx items.size items.size hi-sIx items.size 0 lo)==items.size)=Ab):=by
  intro q;rw[Ak,Ak]at q;have q1:((sIx items.size 0 lo:Ag):Af)=0:=eq_of_beq q.1.1;have q2:sIx items.size items.size hi-sIx items.size 0 lo=items.size:=eq_of_beq q.2;exact hw ⟨by omega,by omega⟩
 show Au _ _ (if (((sIx items.size 0 lo:Ag):Af)==0&&(1:Af)==1&&(sIx items.size items.size hi-sIx items.size 0 lo)==items.size)=Ab then _ else _) _ _ s
 rw[AC hno,iV]
 first
  |exact An (m:=Ee _) (CW (Az ⟨_,rfl,Az h⟩) htake)
  |exact An (m:=Ee _) (CW (An (Az (Az ⟨_,rfl,Az h⟩))) htake)
  |exact An (An (m:=Ee _) (CW (Az (Az ⟨_,rfl,Az h⟩)) htake))
  |exact An (An (m:=Ee _) (CW (Az ⟨_,rfl,Az h⟩) htake))
end
end HT
namespace L2
open PySem PySem.Spec PyProof.Rows
variable{xs:Ac V}{us its its':Ac Aj}{n t':Ag}{i:Af}{pI:Pn}{Y:St}{H:Hp}{s:Ap}{p:Al}
abbrev TO:=St->Hp->(Ao Af->Hp->Prop)->Prop
noncomputable def PO(X:Cx)(e:Ao Am)(t:TO):Prop:=
 ∀(pI:Pn)(s:Ap)(Y:St)(H:Hp)(Q:Ao Af->Hp->Prop),Inv X pI Y H s->t Y H Q ->
  Au (model X.prog X.w) X.A (evalPart e X.env) (λu s'=>∃ o H',Inv X pI Y H' s'/\HJ u o/\Q o H') X.xe s
def mI:TO:=λ_ H Q=>Q Ae H
def yR(t:TE):TO:=λY H Q=>t Y H λx H1=>∃ i,x=.int i/\Q (Aa i) H1
section
variable{X:Cx}{e:Am}{te:TE}{lo hi:Ao Am}{tl th:TO}{pos p2:AG}
theorem pR:PO X Ae mI:=by
 intro pI s Y H Q I h;rw[evalPart_none];exact Az ⟨Ae,H,I,.none,h⟩
theorem pQ(h:PE X e te):PO X (Aa e) (yR te):=by
 intro pI s Y H Q I hw;rw[evalPart_some];refine thn (h pI s Y H _ I hw) λu s1 ⟨x,H1,I1,r1,q1⟩=>?_
 obtain⟨i,rfl,q⟩:=q1;obtain⟨t,rfl⟩:=r1;exact⟨Aa i,H1,I1,.int i t,q⟩
noncomputable def SlR(X:Cx)(r:V->Ao Af->Ao Af->Hp->VK->Prop):Prop:=
 ∀(pI:Pn)(s:Ap)(Y:St)(H:Hp)(x:V)(v vl vu:Aj)(lo hi:Ao Af)(sl:Al)(Q:VK),Inv X pI Y H s->BB x v->s.heap.IsSliceOf sl vl vu .none->HJ vl lo->HJ vu hi->r x lo hi H Q ->
  ∃ T id,typeLookup (.type T) "__getitem__" = pure (Aa (.builtin id))/\s.TypeIs v T/\Au (model X.prog X.w) X.A (J6 v (.ref sl)) (EP X pI Y Q) X.xe s
def tSl(r:V->Ao Af->Ao Af->Hp->VK->Prop)(te:TE)(tl th:TO):TE:=λY H Q=>te Y H λx H1=>tl Y H1 λl H2=>th Y H2 λu H3=>r x l u H3 Q
theorem iW{r:V->Ao Af->Ao Af->Hp->VK->Prop}(hr:SlR X r)(he:PE X e te)(hl:PO X lo tl)(hu:PO X hi th):PE X (.Subscript e (.Slice lo hi Ae p2) pos) (tSl r te tl th):=by
 intro pI s Y H Q I h;refine Subscript_ (thn (he pI s Y H _ I h) λv s1 ⟨x,H1,I1,r1,q1⟩=>?_)
 refine wpAny_Slice (thn (hl pI s1 Y H1 _ I1 q1) λvl s2 ⟨l,H2,I2,pl,q2⟩=>thn (hu pI s2 Y H2 _ I2 q2) λvu s3 ⟨u,H3,I3,pu,q3⟩=>?_)
 rw[evalPart_none];refine Az ?_;have I4:Inv X pI Y H3 { s3 with heap:=s3.heap.push { cls:=.type "slice",data:=.fields #[vl,vu,.none] } }:=I3.kept (t':=s3.toks) λb ob q=>Ar _ q
 obtain⟨T,id,hT,ht,hg⟩:=hr pI { s3 with heap:=s3.heap.push { cls:=.type "slice",data:=.fields #[vl,vu,.none] } } Y H3 x v vl vu l u s3.heap.objs.size Q I4 r1 (Heap.IsSliceOf.new ..) pl pu q3
 show Au (model X.prog X.w) X.A (subscriptTail e (.Slice lo hi Ae p2) v (.ref s3.heap.objs.size)) (EP X pI Y Q) X.xe { s3 with heap:=s3.heap.push { cls:=.type "slice",data:=.fields #[vl,vu,.none] } }
 exact tail_any (ops:=[.ref s3.heap.objs.size,v]) ht hT hg (by with_unfolding_all rfl)
noncomputable def JZ(xs:Ac V)(lo hi:Ao Af):Ac V:=(xs.drop (HT.sIx xs.length 0 lo)).take (HT.sIx xs.length xs.length hi-HT.sIx xs.length 0 lo)
theorem TM(xs:Ac V)(lo hi:Ao Af):(JZ xs lo hi).length<=xs.length:=by
 unfold JZ;rw[Gb,Ga];omega
def S8(K:Fg):V->Ao Af->Ao Af->Hp->VK->Prop:=λx lo hi H Q=>∃ a xs,x=.ref a/\SqT K H a xs /\
 ¬ (HT.sIx xs.length 0 lo=0/\HT.sIx xs.length xs.length hi=xs.length)/\∀ p,H p=Ae->Q (.ref p) (upd H p (.tup (JZ xs lo hi)))
theorem uT:SlR X (S8 X.K):=by
 intro pI s Y H x v vl vu lo hi sl Q I rx hs pl pu h;obtain⟨a,xs,rfl,hx,hw,q⟩:=h;cases rx;obtain⟨its,r,ht,hz⟩:=I.tuple hx;have hlen:its.toArray.size=xs.length:=by rw[AA];exact r.length.symm
 refine⟨"tuple",_,PyProof.Rows.slot_tuple_getitem.lookup,ht.typeIs,?_⟩;refine HT.getItem_tuple_cut ht hs pl pu (by rw[hlen];exact hw) ?_ (by rw[hlen];exact hz)
 rw[hlen];refine⟨.ref s.heap.objs.size,_,I.laid (t':=s.toks) (o:=.tup (JZ xs lo hi)) (λb ob q=>Ar _ q) (AU _) ?_,rfl,q _ (I.hok.fresh (AU _))⟩
 exact⟨Cz (TM xs lo hi) hz,_,(r.drop (HT.sIx xs.length 0 lo)).take (HT.sIx xs.length xs.length hi-HT.sIx xs.length 0 lo),Ml _ _⟩
def db(K:Fg):R2:=λx y H Q=>∃ a b xs ys,x=.ref a/\y=.ref b/\SqT K H a xs/\SqT K H b ys/\xs≠[]/\xs.length+ys.length<=sizeLine /\
 (ys=[]->Q (.ref a) H)/\(ys≠[]->∀ p,H p=Ae->Q (.ref p) (upd H p (.tup (xs++ys))))
theorem A8.nil_iff(r:A8 xs us):us=[]↔xs=[]:=by
 cases r with
 |nil=>simp
 |cons _ _=>simp
theorem oM:OpR X (B7 .Add) (db X.K):=by
 intro pI s Y H x y v u Q I rx ry h;obtain⟨a,b,xs,ys,rfl,rfl,ha,hb,hx,hz,q1,q2⟩:=h;cases rx;cases ry;obtain⟨its,r1,p1,_⟩:=I.tuple ha;obtain⟨its2,r2,p2,_⟩:=I.tuple hb;refine HT.cat_tup p1 p2 (λz=>hx (r1.nil_iff.mp z)) (λz=>⟨.ref a,H,I,rfl,q1 (r2.nil_iff.mp z)⟩) (λz=>?_) (by rw[<-r1.length,<-r2.length];exact hz)
 refine⟨.ref s.heap.objs.size,_,I.laid (t':=s.toks) (o:=.tup (xs++ys)) (λb ob q=>Ar _ q) (AU _) ?_,rfl,q2 (λw=>z (r2.nil_iff.mpr w)) _ (I.hok.fresh (AU _))⟩
 exact⟨by rw[Cu];exact hz,_,r1.append r2,Ml _ _⟩
end
noncomputable def ixN(n:Ag)(i:Af):Ao Ag:=if 0<=i then (if i<n then Aa i.toNat else Ae) else if -(n:Af)<=i then Aa (i+n).toNat else Ae
noncomputable def atI{α:Type}(xs:Ac α)(i:Af):Ao α:=(ixN xs.length i).bind λj=>xs[j]?
theorem V8{j:Ag}(h:ixN n i=Aa j):Hc i n=Aa j/\j<n/\-(n:Af)<=i/\i<n:=by
 unfold ixN at h;by_cases h0:0<=i
 .rw[Ax h0]at h;by_cases h1:i<n
  .rw[Ax h1]at h;have e:i.toNat=j:=Bj h;exact⟨by rw[Kd h0 h1,e],by omega,by omega,h1⟩
  .rw[AC h1]at h;cases h
 .rw[AC h0]at h;by_cases h1:-(n:Af)<=i
  .rw[Ax h1]at h;have e:(i+n).toNat=j:=Bj h;exact⟨by rw[JJ (by omega) h1,e],by omega,h1,by omega⟩
  .rw[AC h1]at h;cases h
theorem Wd{α:Type}{xs:Ac α}{v:α}(h:atI xs i=Aa v):∃ j,Hc i xs.length=Aa j/\xs[j]?=Aa v/\j<xs.length/\-(xs.length:Af)<=i/\i<xs.length:=by
 unfold atI at h;cases e:ixN xs.length i with
 |none=>rw[e]at h;cases h
 |some j=>
  rw[e]at h;obtain⟨h1,h2,h3,h4⟩:=V8 e;exact⟨j,h1,h,h2,h3,h4⟩
def QX(b:Am):Prop:=∀ o i,subscripted b Ad o i=operate [o,i] (J6 o i)
noncomputable def IxR(X:Cx)(r:R2):Prop:=
 ∀(value slice:Am)(pI:Pn)(s:Ap)(Y:St)(H:Hp)(x y:V)(v u:Aj)(Q:VK),Inv X pI Y H s->BB x v->BB y u->r x y H Q ->
  subscripted slice Ad v u=operate [v,u] (J6 v u)->Au (model X.prog X.w) X.A (subscriptTail value slice v u) (EP X pI Y Q) X.xe s
noncomputable def MtR(X:Cx)(id:Da)(r:V->Ac V->Hp->VK->Prop):Prop:=
 ∀(pI:Pn)(s:Ap)(Y:St)(H:Hp)(x:V)(xs:Ac V)(v:Aj)(us:Ac Aj)(Q:VK),Inv X pI Y H s->BB x v->A8 xs us->r x xs H Q ->
  Au (model X.prog X.w) X.A (call (.builtin id) (v::us)) (EP X pI Y Q) X.xe s
section
variable{X:Cx}{a b:Am}{ta tb:TE}{pos:AG}
theorem IxR.or{r r':R2}(h:IxR X r)(h':IxR X r'):IxR X (λx y H Q=>r x y H Q\/r' x y H Q):=by
 intro value slice pI s Y H x y v u Q I rx ry q hs;rcases q with q|q
 .exact h value slice pI s Y H x y v u Q I rx ry q hs
 .exact h' value slice pI s Y H x y v u Q I rx ry q hs
theorem ez{r:R2}(hr:IxR X r)(ha:PE X a ta)(hb:PE X b tb)(hs:QX b):PE X (.Subscript a b pos) (tOp r ta tb):=by
 intro pI s Y H Q I h;exact Subscript_ (O7 ha hb I h λv u s2 x y H2 I2 rx ry q=>hr a b pI s2 Y H2 x y v u Q I2 rx ry q (hs _ _))
def Tb(K:Fg):R2:=λx y H Q=>∃ p xs i v,x=.ref p/\y=.int i/\SqL K H p xs/\atI xs i=Aa v/\Q v H
def Ta(K:Fg):R2:=λx y H Q=>∃ p xs i v,x=.ref p/\y=.int i/\SqT K H p xs/\atI xs i=Aa v/\Q v H
theorem oC:IxR X (Tb X.K):=by
 intro value slice pI s Y H x y v u Q I rx ry h hs;obtain⟨p,xs,i,z,rfl,rfl,hq,he,q⟩:=h;cases rx;obtain⟨t,rfl⟩:=ry;obtain⟨its,r,pl,hz⟩:=I.list hq;obtain⟨j,h1,h2,h3,h4,h5⟩:=Wd he;obtain⟨w,ew,rw'⟩:=r.get h2;have hl:=r.length;have hn:=KJ;have fin:EP X pI Y Q w s:=⟨z,H,I,rw',q⟩;by_cases h0:0<=i
 .have hj:i.toNat=j:=by
   rw[Kd h0 h5]at h1;exact Bj h1
  exact item_listR pl.isList h0 (by omega) (by rw[hj];simpa using ew) fin hs
 .have hj:(i+(its.toArray.size:Af)).toNat=j:=by
   rw[JJ (by omega) h4]at h1
   rw[AA,<-hl];exact Bj h1
  exact Y_6 (x:=w) pl.isList.typeIs bA.lookup
   (wpAny_getItem_list_neg (Q:=λr s'=>r=w/\EP X pI Y Q r s') pl.isList (by omega) (by rw[AA]<;>omega) (by omega) (by rw[hj];simpa using ew) ⟨rfl,fin⟩) hs
theorem wH:IxR X (Ta X.K):=by
 intro value slice pI s Y H x y v u Q I rx ry h hs;obtain⟨p,xs,i,z,rfl,rfl,hq,he,q⟩:=h;cases rx;obtain⟨t,rfl⟩:=ry;obtain⟨its,r,pl,hz⟩:=I.tuple hq;obtain⟨j,h1,h2,h3,h4,h5⟩:=Wd he;obtain⟨w,ew,rw'⟩:=r.get h2;have hl:=r.length;have hn:=KJ;have fin:EP X pI Y Q w s:=⟨z,H,I,rw',q⟩;exact Y_6 (x:=w) pl.typeIs slot_tuple_getitem.lookup
  (getItem_tuple (j:=j) (Q:=λr s'=>r=w/\EP X pI Y Q r s') pl (by omega) (by omega) (by rw[AA,<-hl];exact h1) (by simpa using ew) ⟨rfl,fin⟩) hs
theorem fS(its:Ac Aj)(n j:Ag)(u:Aj):Hv (·.setIfInBounds j u) { cls:=.type "list",data:=.seq its.toArray n }={ cls:=.type "list",data:=.seq (its.set j u).toArray n }:=by
 simp[Hv]
theorem Inv.lst(I:Inv X pI Y H s)(h:H p=Aa (.lst xs)):
  ∃(its:Ac Aj)(n:Ag),A8 xs its/\s.heap.get? p=Aa { cls:=.type "list",data:=.seq its.toArray n }/\xs.length<=sizeLine:=by
 obtain⟨z,its,n,r,e⟩:=I.hok p _ h;exact⟨its,n,r,e,z⟩
theorem Inv.lstUpd{ys:Ac V}{n':Ag}{f:CU->CU}(I:Inv X pI Y H s)(h:H p=Aa (.lst xs))(ho:s.heap.get? p=Aa { cls:=.type "list",data:=.seq its.toArray n })(hf:f { cls:=.type "list",data:=.seq its.toArray n }={ cls:=.type "list",data:=.seq its'.toArray n' })(r:A8 ys its')(hz:ys.length<=sizeLine)(t:Ag):Inv X pI Y (upd H p (.lst ys)) {s with heap:=s.heap.update p f,toks:=t}:=by
 have e:(s.heap.update p f).get? p=Aa { cls:=.type "list",data:=.seq its'.toArray n' }:=by
  rw[Cn f ho (by rw[hf]<;>rfl),hf]
 refine I.write (x:=p) (e:=p) (by rw[h];trivial) (.inl rfl) (λb u hb q=>(CB _ _ (CP hb)).trans q) ⟨_,e⟩ ?_
 exact⟨hz,its',n',r,e⟩
def da:V->V->V->Hp->(Hp->Prop)->Prop:=λo i v H Q=>∃ p xs k j,o=.ref p/\i=.int k/\H p=Aa (.lst xs)/\ixN xs.length k=Aa j/\Q (upd H p (.lst (xs.set j v)))
theorem Qr:SJ X da:=by
 intro pI s Y H o i v ov iv u Q I ro ri rv h;obtain⟨p,xs,k,j,rfl,rfl,hp,hj,q⟩:=h;cases ro;obtain⟨t,rfl⟩:=ri;obtain⟨its,n,r,ho,hz⟩:=I.lst hp;obtain⟨h1,h2,h3,h4⟩:=V8 hj;have hl:=r.length;have hn:=KJ;have I':Inv X pI Y (upd H p (.lst (xs.set j v))) {s with heap:=s.heap.update p (Hv (·.setIfInBounds j u))}:=
  I.lstUpd hp ho (fS its n j u) (r.set rv j) (by rw[A5];exact hz) s.toks
 by_cases h0:0<=k
 .have hk:k.toNat=j:=by
   rw[Kd h0 h4]at h1;exact Bj h1
  exact PySem.W.ki_setAt ho h0 (by omega) (by rw[AA,<-hl];exact h4) (by rw[hk];exact⟨_,I',q⟩)
 .have hk:(k+(its.toArray.size:Af)).toNat=j:=by
   rw[JJ (by omega) h3]at h1
   rw[AA,<-hl];exact Bj h1
  exact PySem.W.ki_setBack ho (by omega) (by rw[AA,<-hl];exact h3) (by omega) (by rw[hk];exact⟨_,I',q⟩)
theorem eW(lo hi:Ao Af)(n:Ag):(Fa lo hi Ae n).1=((HT.sIx n 0 lo:Ag):Af)/\(Fa lo hi Ae n).2.1=((HT.sIx n n hi:Ag):Af)/\(Fa lo hi Ae n).2.2=1:=by
 refine⟨?_,?_,rfl⟩
 .cases lo with
  |none=>simp[Fa,HT.sIx]
  |some i=>
   simp only[Fa,HT.sIx,YX,show (1:Af)>0 by decide,Ep]
   by_cases h:i<0
   .simp only[h,Ep]<;>omega
   .simp only[h,G0]<;>omega
 .cases hi with
  |none=>simp[Fa,HT.sIx]
  |some i=>
   simp only[Fa,HT.sIx,YX,show (1:Af)>0 by decide,Ep]
   by_cases h:i<0
   .simp only[h,Ep]<;>omega
   .simp only[h,G0]<;>omega
theorem eZ(its:Ac Aj)(lo hi:Ao Af):slicePick its.toArray lo hi Ae=((its.drop (HT.sIx its.length 0 lo)).take (HT.sIx its.length its.length hi-HT.sIx its.length 0 lo)).toArray:=by
 obtain⟨h1,h2,h3⟩:=eW lo hi its.toArray.size;unfold slicePick;rw[h1,h2,h3];simp only[sliceRange_one,pick_run,AA]<;>rfl
def S9(K:Fg):V->Ao Af->Ao Af->Hp->VK->Prop:=λx lo hi H Q=>∃ a xs,x=.ref a/\SqL K H a xs/\∀ p,H p=Ae->Q (.ref p) (upd H p (.lst (JZ xs lo hi)))
theorem mV:SlR X (S9 X.K):=by
 intro pI s Y H x v vl vu lo hi sl Q I rx hs pl pu h;obtain⟨a,xs,rfl,hx,q⟩:=h;cases rx;obtain⟨its,r,ht,hz⟩:=I.list hx;have hlen:=r.length;refine⟨"list",_,bA.lookup,ht.isList.typeIs,?_⟩;refine wpAny_getItem_list_slice ht.isList hs pl pu .none (by simp) ?_ (by rw[AA]<;>omega)
 rw[eZ,<-hlen];refine⟨.ref s.heap.objs.size,_,I.laid (t':=s.toks) (o:=.lst (JZ xs lo hi)) (λb ob q=>Ar _ q) (AU _) ?_,rfl,q _ (I.hok.fresh (AU _))⟩
 exact⟨Cz (TM xs lo hi) hz,_,0,(r.drop (HT.sIx xs.length 0 lo)).take (HT.sIx xs.length xs.length hi-HT.sIx xs.length 0 lo),AH _ rfl⟩
theorem Tt:HV X (.builtin "len") (λxs H Q=>∃ p ys,xs=[.ref p]/\(SqL X.K H p ys\/SqT X.K H p ys)/\Q (.int ys.length) H):=by
 intro pI s Y H xs us Q I r h;obtain⟨p,ys,rfl,hq,q⟩:=h;obtain⟨u,rfl,rx⟩:=Hl r;cases rx;have hn:=KJ;rcases hq with hq|hq
 .obtain⟨its,r',pl,hz⟩:=I.list hq;have hlen:=r'.length;exact Calls.call_len_list pl.isList (by simp only[AA]<;>omega) ⟨.int ys.length,H,I.tok _,⟨s.toks+1,by rw[AA,hlen]⟩,q⟩
 .obtain⟨its,r',pl,hz⟩:=I.tuple hq;have hlen:=r'.length;exact len_tuple pl (by simp only[AA]<;>omega) ⟨.int ys.length,H,I.tok _,⟨s.toks+1,by rw[AA,hlen]⟩,q⟩
theorem fA:HV X (.builtin "len") (λxs H Q=>∃ z,xs=[.str z]/\z.length<=sizeLine/\Q (.int z.length) H):=by
 intro pI s Y H xs us Q I r h;obtain⟨z,rfl,hz,q⟩:=h;obtain⟨u,rfl,t,rfl⟩:=Hl r;have hn:=KJ;exact len_str (by omega) ⟨.int z.length,H,I.tok _,⟨_,rfl⟩,q⟩
theorem Ts:HV X (.type "list") (λxs H Q=>∃ p ys,xs=[.ref p]/\(SqL X.K H p ys\/SqT X.K H p ys)/\∀ l,H l=Ae->Q (.ref l) (upd H l (.lst ys))):=by
 intro pI s Y H xs us Q I r h;obtain⟨p,ys,rfl,hq,q⟩:=h;obtain⟨u,rfl,rx⟩:=Hl r;cases rx;have fin:∀(its:Ac Aj),A8 ys its->ys.length<=sizeLine->∀(h':AD)(c':Ag),(∀ b o',s.heap.get? b=Aa o'->h'.get? b=Aa o') ->
   h'.get? s.heap.objs.size=Aa { cls:=.type "list",dict:=Ae,data:=.seq its.toArray c',slots:=#[] }->EP X pI Y Q (.ref s.heap.objs.size) {s with heap:=h'}:=λits r' hz h' c' kp e=>
  ⟨.ref s.heap.objs.size,_,I.laid (t':=s.toks) kp (AU _) (show ObjOk X.prog X.w _ h' _ (.lst ys) from ⟨hz,its,c',r',e⟩),rfl,q _ (I.hok.fresh (AU _))⟩
 rcases hq with hq|hq
 .obtain⟨its,r',pl,hz⟩:=I.list hq;have hlen:=r'.length;obtain⟨o,ho,hc,n,hd⟩:=pl.isList;exact call_list_seq p (.inl rfl) ho hc hd (λh' c' kp e=>fin its r' hz h' c' kp e) (by simp only[AA]<;>omega)
 .obtain⟨its,r',pl,hz⟩:=I.tuple hq;have hlen:=r'.length;obtain⟨o,ho,hc,n,hd⟩:=pl;exact call_list_seq p (.inr rfl) ho hc hd (λh' c' kp e=>fin its r' hz h' c' kp e) (by simp only[AA]<;>omega)
theorem Tv:HV X (.type "tuple") (λxs H Q=>∃ p ys,xs=[.ref p]/\((SqL X.K H p ys/\∀ l,H l=Ae->Q (.ref l) (upd H l (.tup ys)))\/(SqT X.K H p ys/\Q (.ref p) H))):=by
 intro pI s Y H xs us Q I r h;obtain⟨p,ys,rfl,h⟩:=h;obtain⟨u,rfl,rx⟩:=Hl r;cases rx;rcases h with ⟨hq,q⟩|⟨hq,q⟩
 .obtain⟨its,r',pl,hz⟩:=I.list hq;have hlen:=r'.length;refine call_tuple_list pl.isList (λh' kp=>?_) (by simp only[AA]<;>omega)
  have I1:Inv X pI Y H {s with heap:=h'}:=I.kept (t':=s.toks) kp
  have I2:Inv X pI Y (upd H h'.objs.size (.tup ys)) { s with heap:=h'.push { cls:=.type "tuple",data:=.seq its.toArray } }:=
   I1.laid (t':=s.toks) (λb o e=>Ar _ e) (AU _) (show ObjOk X.prog X.w _ _ _ (.tup ys) from ⟨hz,its,r',Ml _ _⟩)
  exact⟨.ref h'.objs.size,_,I2,rfl,q _ (I1.hok.fresh (AU _))⟩
 .obtain⟨its,r',pl,hz⟩:=I.tuple hq;exact call_tuple_same pl ⟨.ref p,H,I,rfl,q⟩
def tyV(K:Fg)(T:Da)(x:V)(H:Hp):Prop:=match x with
  |.str _=>T = "str"
  |.int _=>T = "int"
  |.ref p=>(T = "list"/\∃ xs,SqL K H p xs)\/(T = "tuple"/\∃ o,K.lookup p=Aa o/\o.cls=.type "tuple"/\o.dict=Ae) \/
      (T = "dict"/\((∃ kvs,H p=Aa (.dK kvs))\/∃ kvs,H p=Aa (.dT kvs)))\/(T = "set"/\∃ S n,H p=Aa (.set S n))
  |_=>AV
theorem sY{T:Da}{x:V}{v:Aj}(I:Inv X pI Y H s)(r:BB x v)(ty:tyV X.K T x H):s.TypeIs v T/\∀ a,v=.ref a->∃ ob,s.heap.get? a=Aa ob/\ob.dict=Ae:=by
 cases x with
 |str z=>
  obtain⟨t,rfl⟩:=r;cases (show T = "str" from ty)
  exact⟨typeIs_str s z t,λ_ e=>nomatch e⟩
 |int i=>
  obtain⟨t,rfl⟩:=r;cases (show T = "int" from ty)
  exact⟨typeIs_int s i t,λ_ e=>nomatch e⟩
 |ref p=>
  cases r;rcases ty with ⟨rfl,xs,hq⟩|⟨rfl,o,hk,hc,hd⟩|⟨rfl,hk⟩|⟨rfl,S,n,hk⟩
  .obtain⟨its,_,pl,_⟩:=I.list hq;refine⟨pl.isList.typeIs,λa e=>?_⟩
   cases e;obtain⟨o,n,e,c,hd,_⟩:=pl;exact⟨o,e,hd⟩
  .refine⟨⟨o,I.kIn p o hk,hc⟩,λa e=>?_⟩
   cases e;exact⟨o,I.kIn _ o hk,hd⟩
  .have z:∃ o,s.heap.get? p=Aa o/\o.ExactDict:=by
    rcases hk with ⟨kvs,hk⟩|⟨kvs,hk⟩
    .obtain⟨_,_,_,_,o,_,_,e,ex,_⟩:=I.hok p _ hk;exact⟨o,e,ex⟩
    .obtain⟨_,_,_,_,o,_,_,e,ex,_⟩:=I.hok p _ hk;exact⟨o,e,ex⟩
   obtain⟨o,e,ex⟩:=z;refine⟨⟨o,e,ex.1⟩,λa e2=>?_⟩
   cases e2;exact⟨o,e,ex.2.1⟩
  .obtain⟨o,_,_,_,e,ex,_⟩:=I.hok p _ hk;refine⟨⟨o,e,ex.1⟩,λa e2=>?_⟩
   cases e2;exact⟨o,e,ex.2.1⟩
 |_=>exact Bc ty
def tBM(K:Fg)(T:Da)(r:V->Ac V->Hp->VK->Prop)(to:TE)(t:TA):TE:=λY H Q=>to Y H λx H1=>tyV K T x H1/\t Y H1 λxs H2=>r x xs H2 Q
variable{o e:Am}{es:Ac Am}{to:TE}{t:TA}{name:Ah}{apos cpos:AG}{T id:Da}{r:V->Ac V->Hp->VK->Prop}
theorem OD(pa:PlainAttrs T)(slot:Slot T name id)(hty:typeOf (.builtin id)=pure (.type "method_descriptor"))(hm:MtR X id r)(ho:PE X o to)(ha:PA X (e::es) t)(hbase:Eo o name X.env (eval o X.env)=eval o X.env:=by rfl)(hfew:((BP cpos (As (e::es) X.env)).all (λx=>!x.1)&&(Kg cpos (Im [] X.env)).all (λx=>x.1.isSome)
   && decide ((e::es).length+([]:Ac EI).length+(if ([]:Ac EI).isEmpty then 0 else 1)<30))=Ab:=by rfl)(hline:(apos.endLine==cpos.line)=Ab:=by rfl)(hs:As (e::es) X.env=(Ad,eval e X.env)::As es X.env:=by rfl)(hplain:(BP cpos (As es X.env)).any (·.1)=Ad:=by rfl):PE X (.Call (.Attribute o name apos) (e::es) [] cpos) (tBM X.K T r to t):=by
 intro pI s Y H Q I h;refine wpAny_Call_method_late hbase hfew hline rfl (thn (ho pI s Y H _ I h) λv s1 ⟨x,H1,I1,r1,ty,q1⟩=>?_)
 obtain⟨h1,h2⟩:=sY I1 r1 ty;refine⟨T,id,pa,slot,hty,h1,h2,?_⟩;have hA:=ha cpos pI s1 Y H1 _ I1 q1;rw[hs]at hA ⊢;refine Zd (by show (Ad||(BP cpos (As es X.env)).any (·.1))=Ad;rw[hplain]<;>rfl) (ES ?_)
 exact thn hA λus s2 ⟨vs,H2,I2,r2,q2⟩=>hm pI s2 Y H2 x vs v us Q I2 r1 r2 q2
/- xs.append(e),list.index on a module's tuple .. are MtR facts of 06m -/
end
noncomputable def MtM(X:Cx)(id:Da)(r:V->Ac V->Hp->VK->Prop):Prop:=
 ∀(pI:Pn)(s:Ap)(Y:St)(H:Hp)(x:V)(xs:Ac V)(v:Aj)(us:Ac Aj)(Q:VK),Inv X pI Y H s->BB x v->A8 xs us->r x xs H Q ->
  Au (model X.prog X.w) X.A (call (.builtin id) (v::us)) (EP X pI Y Q) X.xe s
theorem A8.one:∀{x:V}{us:Ac Aj},A8 [x] us->∃ u,us=[u]/\BB x u
 |_,_,.cons r .nil=>⟨_,rfl,r⟩
theorem A8.zero:∀{us:Ac Aj},A8 [] us->us=[]
 |_,.nil=>rfl
theorem A8.eraseIdx:∀{xs:Ac V}{us:Ac Aj}(i:Ag),A8 xs us->A8 (xs.eraseIdx i) (us.eraseIdx i)
 |_,_,_,.nil=>.nil
 |_,_,0,.cons _ t=>t
 |_,_,i+1,.cons r t=>.cons r (A8.eraseIdx i t)
theorem A8.reverse(h:A8 xs us):A8 xs.reverse us.reverse:=by
 induction h with
 |nil=>exact .nil
 |cons r t ih=>rw[YL,YL];exact A8.append ih (.cons r .nil)
theorem Uh{α:Type}:∀(l:Ac α)(i:Ag),(l.eraseIdx i).length<=l.length
 |[],_=>AU _
 |_::_,0=>G1 _
 |_::r,i+1=>Nat.succ_le_succ (Uh r i)
section
variable{X:Cx}{pI:Pn}{Y:St}{H:Hp}{s:Ap}{l b:Al}{xs ys zs:Ac V}
theorem Inv.lset{f:Ba Aj->Ba Aj}(I:Inv X pI Y H s)(hH:H l=Aa (.lst xs))(e:s.heap.get? l=Aa { cls:=.type "list",data:=.seq its.toArray n })(hf:f its.toArray=its'.toArray)(hv:A8 ys its')(hz:ys.length<=sizeLine):Inv X pI Y (upd H l (.lst ys)) {s with heap:=s.heap.update l (Hv f),toks:=t'}:=by
 have q:=PySem.IsL.update e f;rw[hf]at q;refine I.write (x:=l) (e:=l) (by rw[hH];exact trivial) (.inl rfl) (λb' u hb hu=>(CB s.heap (Hv f) (CP hb)).trans hu) ⟨_,q⟩ ?_
 exact⟨hz,its',_,hv,q⟩
theorem Inv.lnew(I:Inv X pI Y H s)(hv:A8 ys its)(hz:ys.length<=sizeLine):
  Inv X pI Y (upd H s.heap.objs.size (.lst ys)) { s with heap:=s.heap.push { cls:=.type "list",data:=.seq its.toArray },toks:=t' }:=
 I.laid (λ_ _ q=>Ar _ q) (AU _) ⟨hz,its,0,hv,AH _ rfl⟩
theorem Inv.fresh(I:Inv X pI Y H s):H s.heap.objs.size=Ae:=I.hok.fresh (AU _)
theorem Inv.lstM(I:Inv X pI Y H s)(hH:H l=Aa (.lst xs)):xs.length<=sizeLine/\∃(its:Ac Aj)(n:Ag),A8 xs its/\xs.length=its.length/\s.heap.get? l=Aa { cls:=.type "list",data:=.seq its.toArray n }:=by
 obtain⟨z,its,n,r,e⟩:=I.hok l _ hH;exact⟨z,its,n,r,r.length,e⟩
end
section
variable{X:Cx}
def pF:V->Ac V->Hp->VK->Prop:=λx vs H Q=>∃ l xs y,x=.ref l/\vs=[y]/\H l=Aa (.lst xs)/\xs.length<sizeLine/\Q .non (upd H l (.lst (xs++[y])))
theorem Uf:MtM X "list.append" pF:=by
 intro pI s Y H x vs v us Q I rx rv h;obtain⟨l,xs,y,rfl,rfl,hH,hz,q⟩:=h;cases rx;obtain⟨u,rfl,ru⟩:=rv.one;obtain⟨z,its,n,r,hl,e⟩:=I.lstM hH;refine K3 F.slot_list_append ⟨_,e,rfl⟩ F.entry_list_append (F.args_list_append_2 _ _) (PySem.list_append l its.toArray n u (by rw[AA];omega)) ⟨e,?_⟩
 refine⟨.non,_,I.lset (its':=its++[u]) hH e (by simp) (r.append (.cons ru .nil)) ?_,rfl,q⟩
 rw[Cu,YF];omega
def uL:V->Ac V->Hp->VK->Prop:=λx vs H Q=>∃ l xs i k y,x=.ref l/\vs=[.int i]/\H l=Aa (.lst xs)/\-(2 ^ 63)<=i/\i<2 ^ 63/\Hc i xs.length=Aa k/\xs[k]?=Aa y/\Q y (upd H l (.lst (xs.eraseIdx k)))
theorem lS:MtM X "list.pop" uL:=by
 intro pI s Y H x vs v us Q I rx rv h;obtain⟨l,xs,i,k,y,rfl,rfl,hH,h1,h2,hk,hy,q⟩:=h;cases rx;obtain⟨u,rfl,ru⟩:=rv.one;obtain⟨t,rfl⟩:=ru;obtain⟨z,its,n,r,hl,e⟩:=I.lstM hH;obtain⟨w,hw,rw'⟩:=r.get hy;refine K3 F.slot_list_pop ⟨_,e,rfl⟩ F.entry_list_pop (F.args_list_pop_2 _ _)
  (MeetsSeq.list_pop_at l its.toArray n i t k w (fitsIndex_both h1 h2) (by rw[AA,<-hl];exact hk) (by rw[<-Yb];exact hw) (by rw[AA];omega)) ⟨e,?_⟩
 refine⟨y,_,I.lset (its':=its.eraseIdx k) hH e ?_ (r.eraseIdx k) ?_,rw',q⟩
 .show its.toArray.eraseIdxIfInBounds k=(its.eraseIdx k).toArray;rw[List.eraseIdxIfInBounds_toArray]
 .have:=Uh xs k;omega
end
section
variable{prog:AK}{w:AZ}{A:AX}{E:Vq}{s:Ap}
set_option maxRecDepth 100000 in
end
section
variable{X:Cx}
end
end L2
namespace Att
open PySem PySem.W PySem.Calls PyProof.Rows
variable{P:Mt}{h:AD}{l:F2}{n:Ag}
theorem eV:∀(ns:Ac Af)(vs:Ac Aj),WellAll P h vs (ns.map aJ)->Hx vs ns:=by
 intro ns
 induction ns with
 |nil=>
  intro vs w;rw[Jx]at w;cases w;exact .nil
 |cons n ns ih=>
  intro vs w;rw[Cj]at w;cases w with
  |cons a b=>
   cases a;exact .cons _ _ (ih _ b)
theorem gJ(hn:l.most=Aa n){args:Ac WData}{vals:Ac Aj}(hpre:l.row.toRowW.claim.pre args=Ab)(hwl:WellAll P h vals args):
  ∃ a vs ns,vals=[Cf a]/\args=[WData.list (ns.map aJ)]/\h.get? a=Aa { cls:=.type "list",data:=.seq vs.toArray }/\Hx vs ns/\ns.length<=n:=by
 have hsh:WShape.hasAll [] args [.list .int]=Ab:=(pre_splitW hpre).1;have hc:l.pre.holds [] {args:=args}=Ab:=(pre_splitW hpre).2;obtain⟨d,r,rfl,h1,h2⟩:=hasAllW_cons hsh;obtain rfl:=hasAllW_nil h2;obtain⟨xs,rfl,h3⟩:=hasW_list h1;obtain⟨ns,rfl⟩:=items_int h3;have hlen:ns.length<=n:=by
  unfold OpenLaw.pre at hc;have h4:(WTm.not (.lt (.lit (.int (n:Af))) (.len (.arg 0)))).holds [] {args:=[.list (ns.map .int)]}=Ab:=by
   have h4:=(holds_andW hc).1;rw[hn]at h4;exact h4
  have h5:=condW_of h4 (w_not (w_lt w_lit (w_len_list (w_arg rfl))));rw[Bi]at h5;refine Nat.le_of_not_lt λq=>?_
  have q':(n:Af)<((ns.length:Ag):Af):=by omega
  first
   |(rw[A9 q']at h5;exact absurd h5 (by decide))
   |(simp at h5;omega)
 cases hwl with
 |cons w1 w2=>
  cases w2;cases w1 with
  |list ho hall=>exact⟨_,_,ns,rfl,rfl,ho,eV ns _ hall,hlen⟩
theorem gN(l:F2)(args:Ac WData):l.row.toRowW.claim.post args (.bool Ab) args=Ab:=
 postW_of (r:=l.row.toRowW) (X:=(Ab==Ab))
  (show aK [] (.bool Ab) .bool=Ab by first|rfl|decide|simp[aK,WShape.arms,WShape.armsAll])
  (show (WTm.eq .res (.lit (.bool Ab))).value [] {args:=args,res:=Aa (.bool Ab),after:=args}=Aa (.bool (Ab==Ab)) from w_eq_bool (w_res rfl) w_lit) rfl
theorem attach_call{q:AK}{loose:Ac Ah}{XP:(Ah->Ao Aj)->AD->Prop}{YP:AZ->AD->Prop}{d:DefRec}(hn:l.most=Aa n)(hdf:d.params.defaults=[])(call:∀(w:AZ)(s₀ s₁:Ap)(mg mb:Ah->Ao Aj)(fa:Al)(o:CU)(pm cd doc:Aj)(a:Al)(vs:Ac Aj)(ns:Ac Af),
   Ground q loose [] XP w s₀ mg mb s₁.heap->YP w s₁.heap ->
   s₁.heap.get? fa=Aa o->o.data=.func (docDef d.name d.params d.body d.scope pm cd doc)->s₁.heap.CodeRec cd d.name->mg d.name=Aa (.ref fa) ->
   s₁.heap.get? a=Aa { cls:=.type "list",data:=.seq vs.toArray }->Hx vs ns->ns.length<=n->s₁.gens=#[] ->
   E9 (model l.prog w) Hz (.call (.ref fa) ⟨[.ref a],[]⟩) (λr s'=>r=.ok (.ret (.bool Ab))/\OldK s₁.heap s'.heap/\s'.os=s₁.os/\FK s'.gens) s₁):WalkO q loose XP YP l.row.toRowW d [] (λf vs=>K2 f vs):=by
 intro w s₀ s₁ mg mb G Y_ fa o pm cd doc dV kV ho hd hcd hD hmg hg args vals as hpre hlay hrd hwl hlo;obtain rfl:dV=.none:=Dflts.none hD hdf;obtain rfl:kV=.none:=Dflts.noKw hD;obtain⟨a,vs,ns,rfl,rfl,hobj,hints,hlen⟩:=gJ hn hpre hwl;refine enter_call (Eh (call w s₀ s₁ mg mb fa o pm cd doc a vs ns G Y_ ho (fd_plain hd) hcd hmg hobj hints hlen hg) λr s' hq=>?_)
 obtain⟨rfl,h2,h3,h4⟩:=hq;exact⟨.inl ⟨.bool Ab,.bool Ab,[],rfl,λ_=>rfl,.bool Ab,gN l _,λ_=>⟨List.Pairwise.nil,λ_ hm=>(nomatch hm)⟩⟩,h2,h3,h4⟩
section
variable{prog:AK}{w:AZ}{A:AX}{E:Vq}{s:Ap}{K:Frag}
end
end Att
namespace L2
open PySem PySem.Spec PyProof.Rows
variable{k:Ag}{x:Ah}
theorem TX:∀{vs:Ac Aj}{ns:Ac Af},Hx vs ns->A8 (ns.map V.int) vs
 |_,_,.nil=>.nil
 |_,_,.cons n t h=>.cons ⟨t,rfl⟩ (TX h)
def Pb(H:Hp):Prop:=∀ b,H b=Ae\/∃ o xs,H b=Aa (.frz o (.lst xs))
theorem kO{P:AK}{w:AZ}{K:Fg}{mg mb:Ah->Ao Aj}{CX:CXT}{fa a:Al}{fd:BM}{sp:Sp}{s₁:Ap}{vs:Ac Aj}{ns:Ac Af}(KX:K.In s₁.heap)(hns:s₁.heap.Ns A3 mg)(hb:s₁.heap.Ns IS mb)(hbb:∀ x:Ah,x≠"__name__"->mb x=C8 x)(hlim:s₁.heap.NoLimit)(hg:s₁.gens=#[])(ha:s₁.heap.get? a=Aa { cls:=.type "list",data:=.seq vs.toArray })(hi:Hx vs ns)(hl:ns.length<=sizeLine)(hr:Room k Hz)(F:∀ base:AD,K.In base->base.Ns A3 mg->FnOk P w K mg base CX k fa fd [x] sp)(hbind:∀(s:Ap)(u:Aj),Gn s fd ⟨[u],[]⟩ [(x,u)])(hsp:∀ H:Hp,Pb H->SqL K H a (ns.map V.int)->sp [.ref a] H (λv _=>v=.bl Ab) λ_ _ _=>AV)(hCX:∀ H e s',CX [] H s₁ (λ_ _ _=>AV) e s'->AV):E9 (model P w) Hz (.call (.ref fa) ⟨[.ref a],[]⟩) (λr s'=>r=.ok (.ret (.bool Ab))/\OldK s₁.heap s'.heap/\s'.os=s₁.os/\FK s'.gens) s₁:=by
 have rv:=TX hi;have lenV:=hi.length
 -- from an abstract heap in which nothing but the script may be tracked
 have core:∀ H:Hp,Pb H->SqL K H a (ns.map V.int)->HOk P w H s₁.heap->(∀ b,H b≠Ae->b=a)->(H a≠Ae->K.lookup a=Ae) ->
   E9 (model P w) Hz (.call (.ref fa) ⟨[.ref a],[]⟩) (λr s'=>r=.ok (.ret (.bool Ab))/\OldK s₁.heap s'.heap/\s'.os=s₁.os/\FK s'.gens) s₁:=by
  intro H hO hS hok hA hK;have base_of:∀{b:Al}{o:CU},s₁.heap.get? b=Aa o->H b=Ae->(Jn s₁.heap H).get? b=Aa o:=λe n=>kU e n
  have noA:∀{b:Al}{o:CU}{es:Ba DictEntry}{ep:Ag},s₁.heap.get? b=Aa o->o.data=.dict es ep->H b=Ae:=λ{b o es ep} e d=>by
   cases q:H b with
   |none=>rfl
   |some u=>
    have e':b=a:=hA b (by rw[q];simp)
    subst e';rw[ha]at e;cases e;have d':Mr vs.toArray _=Data.dict es ep:=d;cases d'
  have nsK:∀{b:Al}{m:Ah->Ao Aj},s₁.heap.Ns b m->(Jn s₁.heap H).Ns b m:=λ{b m} ⟨o,es,ep,e,d,r⟩=>⟨o,es,ep,base_of e (noA e d),d,r⟩
  have hKb:K.In (Jn s₁.heap H):=λb o e=>base_of (KX b o e) (by
   cases q:H b with
   |none=>rfl
   |some u=>
    have e':b=a:=hA b (by rw[q];simp)
    subst e';rw[hK (by rw[q];simp)]at e;cases e)
  have hM:Mod K mg (Jn s₁.heap H):=⟨hKb,nsK hns,⟨mb,nsK hb,hbb⟩,let ⟨mc,h1,h2⟩:=hlim;⟨mc,nsK h1,h2⟩⟩
  have e0:Env0 P w K mg (Jn s₁.heap H) Hz [] s₁ H:=⟨rfl,hM,λb o e=>oQ e,Nat.le_of_eq (hJ _ _),trivial,λb hb=>absurd (show b∈([]:Ac Al) from hb) (by simp),hok,.of_eq hg⟩
  refine Eh ((F _ hKb (nsK hns)).run Hz [] s₁ H ⟨[.ref a],[]⟩ [.ref a] [.ref a] _ _ hr e0 (hbind s₁ (.ref a)) (.cons rfl .nil) (hsp H hO hS)) λr s' h=>?_
  cases r with
  |error e=>exact(hCX H e s' h).elim
  |ok fl=>
   cases fl with
   |next=>exact Bc h
   |brk=>exact Bc h
   |cont=>exact Bc h
   |ret u=>
    obtain⟨v,H',os,bare,un,hok',r',q⟩:=h;have q':v=.bl Ab:=q;subst q';obtain rfl:u=K1 Ab:=r';refine⟨rfl,OldK.of_keep λb o e=>?_,os,bare⟩
    cases q:H b with
    |none=>exact un.keep b o e q (by intro z;exact absurd (show b∈([]:Ac Al) from z) (by simp)) (by simp)
    |some u=>
     rcases hO b with z|⟨ob,xs,z⟩
     .rw[q]at z;cases z
     .have z2:=un.frzs b ob _ z;obtain⟨e1,_⟩:=hok b _ z;obtain⟨e2,_⟩:=hok' b _ z2;rw[e]at e1;cases e1;exact e2
 cases hk:K.lookup a with
 |some o=>
  -- the script is one of the module's own objects
  have e:=KX a o hk;rw[ha]at e;cases e;refine core (λ_=>Ae) (λ_=>.inl rfl) (.inr ⟨_,vs.toArray,_,hk,rfl,rfl,rfl,by rw[AA,lenV];exact hl,by simpa using rv⟩) (λb u z=>by have z':(Ae:Ao HO)=Aa u:=z;cases z') (λb z=>absurd rfl z) λz=>absurd rfl z
 |none=>
  refine core (λb=>if b=a then Aa (.frz { cls:=.type "list",data:=.seq vs.toArray } (.lst (ns.map V.int))) else Ae) (λb=>?_) (.inl (.inr ⟨{ cls:=.type "list",data:=.seq vs.toArray },Ax rfl⟩)) (λb u z=>?_) (λb z=>?_) λ_=>hk
  .by_cases hb:b=a
   .exact .inr ⟨_,_,Ax hb⟩
   .exact .inl (AC hb)
  .by_cases hb:b=a
   .have z':=(Ax hb).symm.trans z;cases z';subst hb;exact⟨ha,by rw[Bi];exact hl,vs,_,rv,ha⟩
   .have z':=(AC hb).symm.trans z;cases z'
  .by_cases hb:b=a
   .exact hb
   .exact absurd (AC hb) z
noncomputable abbrev KOf{K:Fg}{h:AD}(_:K.In h):Fg:=K
theorem walk_of{l:F2}{n:Ag}{q:AK}{loose:Ac Ah}{XP:(Ah->Ao Aj)->AD->Prop}{YP:AZ->AD->Prop}{d:DefRec}{K:Mt->Fg}{CX:AZ->CXT}{sp:AZ->Sp}(hn:l.most=Aa n)(hn2:n<=sizeLine)(hdf:d.params.defaults=[])(hr:Room k Hz)(hY:∀(w:AZ)(h:AD),YP w h->(K w.params).In h)(F:∀(w:AZ)(mg:Ah->Ao Aj)(fa:Al)(h:AD),(K w.params).In h->h.Ns A3 mg->mg d.name=Aa (.ref fa) ->
   ∃ fd:BM,(∀(s:Ap)(u:Aj),Gn s fd ⟨[u],[]⟩ [(x,u)]) /\
    ∀ base:AD,(K w.params).In base->base.Ns A3 mg->FnOk l.prog w (K w.params) mg base (CX w) k fa fd [x] (sp w))(hsp:∀(w:AZ)(H:Hp)(a:Al)(ns:Ac Af),ns.length<=n->Pb H->SqL (K w.params) H a (ns.map V.int)->sp w [.ref a] H (λv _=>v=.bl Ab) λ_ _ _=>AV)(hCX:∀(w:AZ)(H:Hp)(s:Ap)(e:Aj)(s':Ap),CX w [] H s (λ_ _ _=>AV) e s'->AV):aL q loose XP YP l.row.toRowW d [] (λf vs=>K2 f vs):=by
 refine Att.attach_call hn hdf λw s₀ s₁ mg mb fa o pm cd doc a vs ns G Y_ ho hd hcd hmg hobj hints hlen hg=>?_
 have KX:=hY w _ Y_;obtain⟨fd,hb,hF⟩:=F w mg fa _ KX G.T.g hmg;exact kO KX G.T.g G.T.b G.T.builtins G.T.nolimit hg hobj hints (Cz hlen hn2) hr hF hb (λH hO hS=>hsp w H a ns hlen hO hS) λH e s'=>hCX w H s₁ e s'
end L2
/- THE LAST THEOREM (shape;LID,My.* are yours):
   My.Adr:a structure of the addresses that your layer names (classes,functions);My.Txt K t:a structure (Prop) of the equations over K;
   My.txt_mk:{K} {implicit addresses ..} (e1:nsIn K A3 "law" = Aa (Aa (.ref f))) (e2:K.lookup f=Aa ⟨oc,od,.func (fnOf "law" "law" params body scope dV kV doc pm an cdv ct),sl⟩) (e3:codeIn K cdv "law" = Ab) ..:∃ t,My.Txt K t
set_option maxRecDepth 100000 in
set_option maxHeartbeats 0 in
theorem PySem.Challenge.cw_LID_holds:PySem.Challenge.rw_LID.Holds:=by
 w_on;o_law;k_head;(case hw=>w_witness2)
 k_fill
 refine L2.walk_of (l:=PySem.Challenge.rw_LID) (n:=63) (k:=40) (x := "script") (CX:=λw=>..) (sp:=λ_=>My.sp_law) rfl (by decide) rfl ⟨rfl,by decide,by decide⟩ (λw h Y_=>aN Y_) ?F ?S ?C
 case F=>
  intro w mg fa h KX G hmg;have T:∃ t,My.Txt (L2.KOf KX) t:=by
   dsimp only[L2.KOf]                          -- K must stand as «<heap const> w.params» for k_is
   refine' My.txt_mk ?e1 ?e2 ?e3 ..
   (case e1=>PySem.W.k_is)                    -- in the order: a name -> its address -> its object -> its parts
   (case e2=>PySem.W.k_is)
   ..
  obtain⟨t,T⟩:=T;have e0:=hmg.symm.trans (Ck KX G T.law);cases e0                                       -- fa is the law's own address
  exact⟨_,fun s u=>.of_eq rfl,fun base kb nb=>My.law_fn T kb nb⟩     -- if «.of_eq rfl» comes too early: refine' ⟨_,?b,fun base kb nb=>My.law_fn T kb nb⟩;exact fun s u=>.of_eq rfl
 case S=>exact λw H a ns hl hO hS=>..
 case C=>exact ..
(the tactic k_is has no namespace:write k_is) -/
namespace L2
open PySem PySem.Spec PyProof.Rows
noncomputable def Ir(s:AO):Mm:=match s with
  |.FunctionDef _ a _ _ _ _ _ _ _ _=>a
  |_=>{posonlyargs:=[],args:=[],vararg:=Ae,kwonlyargs:=[],kw_defaults:=[],kwarg:=Ae,defaults:=[]}
noncomputable def Fj(s:AO):Ac AO:=match s with
  |.FunctionDef _ _ b _ _ _ _ _ _ _=>b
  |_=>[]
noncomputable def Ct(s:AO):B5:=match s with
  |.FunctionDef _ _ _ _ _ _ sc _ _ _=>sc
  |_=>{kind:=.function,names:=[],isGenerator:=Ad,isCoroutine:=Ad}
noncomputable abbrev CX0:CXT:=λ_ _ _ _ _ _=>AV
noncomputable abbrev E0:XK:=λ_ _ _=>AV
structure Fun (K:Fg) (x qual:Ah) (st:AO) (f:Al) (fd:BM):Prop where
 ex:∃(oc:Aj)(od:Ao Al)(kV doc pm:Aj)(an:Ao Al)(cdv ct:Aj)(osl:Ba (Ao Aj)),
  fd=Co x qual (Ir st) (Fj st) (Ct st) .none kV doc pm an cdv ct/\K.lookup f=Aa ⟨oc,od,.func fd,osl⟩/\D8 K cdv qual=Ab
 kp:B2 K (.ref f)=Ab
section
variable{P:AK}{w:AZ}{K:Fg}{mg:Ah->Ao Aj}{base:AD}
theorem Fun.ok{x qual:Ah}{st:AO}{f:Al}{fd:BM}{N ps:Ac Ah}{k:Ag}{sp:Sp}(F:Fun K x qual st f fd)(S:FnScope N ps (Ct st))(len:∀ vs H Q E,sp vs H Q E->vs.length=ps.length)(hbody:∀(cdv:Aj)(A:AX)(outer:Ac B8)(s:Ap)(H:Hp)(vs:Ac V)(Q:VK)(E:XK),Room k (A.deeper (EG qual (Ct st) s.heap.objs.size f cdv))->sp vs H Q E ->
   ∃ t,PSs (EO CX0 P w K mg base N qual (Ct st) f cdv A outer s H E).nox (Fj st) t/\t {nx:=λ_ H'=>Q .non H',rt:=Q} (start N vs) H):FnOk P w K mg base CX0 (k+1) f fd ps sp:=by
 obtain⟨oc,od,kV,doc,pm,an,cdv,ct,osl,rfl,lk,hcd⟩:=F.ex;refine X8 lk hcd S len λA outer s H vs Q E hr hsp=>?_
 obtain⟨t,h,q⟩:=hbody cdv A outer s H vs Q E hr hsp;exact⟨t,h.nox,q⟩
theorem Fun.binds{x qual:Ah}{st:AO}{f:Al}{fd:BM}{ps:Ac Ah}(F:Fun K x qual st f fd)(h:∀(kV doc pm:Aj)(an:Ao Al)(cdv ct:Aj)(us:Ac Aj),us.length=ps.length->IP (Co x qual (Ir st) (Fj st) (Ct st) .none kV doc pm an cdv ct) ⟨us,[]⟩=pure (ps.zip us)):FV K fd ps []:=by
 obtain⟨oc,od,kV,doc,pm,an,cdv,ct,osl,rfl,lk,hcd⟩:=F.ex;exact .all (h kV doc pm an cdv ct)
theorem WB{x qual:Ah}{st:AO}{f:Al}{oc:Aj}{od an:Ao Al}{osl:Ba (Ao Aj)}{kV doc pm cdv ct:Aj}(l:K.lookup f=Aa ⟨oc,od,.func (Co x qual (Ir st) (Fj st) (Ct st) .none kV doc pm an cdv ct),osl⟩)(c:D8 K cdv qual=Ab)(k:B2 K (.ref f)=Ab):Fun K x qual st f (Co x qual (Ir st) (Fj st) (Ct st) .none kV doc pm an cdv ct):=⟨⟨oc,od,kV,doc,pm,an,cdv,ct,osl,rfl,l,c⟩,k⟩
end
section
variable{X:Cx}
end
def AE(H H':Hp):Prop:=∀ b o,H b=Aa o->H' b=Aa o
theorem AE.refl(H:Hp):AE H H:=λ_ _ h=>h
theorem AE.trans{H H1 H2:Hp}(a:AE H H1)(b:AE H1 H2):AE H H2:=λc o h=>b c o (a c o h)
theorem AE.free{H H':Hp}(e:AE H H'){l:Al}(h:H' l=Ae):H l=Ae:=by
 cases q:H l with
 |none=>rfl
 |some o=>
  rw[e l o q]at h;cases h
end L2
section
namespace Ov
open PySem
variable{α β:Type}
inductive D where
 |non|bl (b:Ai)|int (i:Af)|str (x:Ah)|tup (ds:Ac D)|lst (ds:Ac D)
 |obj (c:Ag) (fs:Ac (Ah×D))|exc (c:Ag) (fs:Ac (Ah×D))|dic (kvs:Ac (Ac Af×D))
 deriving Inhabited
structure Ex where
 c:Ag
 fs:Ac (Ah×D)
 deriving Inhabited
inductive R (α:Type) where
 |ok (a:α)|exn (x:Ex)|bad
 deriving Inhabited
noncomputable def R.bind{α β:Type}(r:R α)(f:α->R β):R β:=match r with
  |.ok a=>f a
  |.exn x=>.exn x
  |.bad=>.bad
@[simp]theorem R.bind_ok(a:α)(f:α->R β):(R.ok a).bind f=f a:=rfl
@[simp]theorem R.bind_exn(x:Ex)(f:α->R β):(R.exn x:R α).bind f=.exn x:=rfl
@[simp]theorem R.bind_bad(f:α->R β):(R.bad:R α).bind f=.bad:=rfl
theorem R.bind_assoc{γ:Type}(r:R α)(f:α->R β)(g:β->R γ):(r.bind f).bind g=r.bind λa=>(f a).bind g:=by cases r<;>rfl
noncomputable def Dz(n:Ag):Ai:=C2 n 1000000
noncomputable def D4(i j:Af):Ai:=(decide (-(18446744073709551616:Af)<i)&&decide (i<18446744073709551616))||(decide (-(18446744073709551616:Af)<j)&&decide (j<18446744073709551616))
noncomputable def EW(i j:Af):Ai:=decide (i.natAbs<2 ^ 2000)&&decide (j.natAbs<2 ^ 2000)
noncomputable def Dm:FE->D->D->R D
 |.Add,.int i,.int j=>.ok (.int (i+j))
 |.Sub,.int i,.int j=>.ok (.int (i-j))
 |.Mult,.int i,.int j=>if (D4 i j||EW i j)=Ab then .ok (.int (i*j)) else .bad
 |.FloorDiv,.int i,.int j=>if 0<j/\j<1073741824 then .ok (.int (i/j)) else .bad
 |.Mod,.int i,.int j=>if 0<j then .ok (.int (i%j)) else .bad
 |.Pow,.int i,.int j=>if (0<=j/\j<=1000000)/\(-(18446744073709551616:Af)<i/\i<18446744073709551616) then .ok (.int (i ^ j.toNat)) else .bad
 |.Add,.str x,.str y=>if Dz (x.length+y.length)=Ab then .ok (.str (x++y)) else .bad
 |.Add,.lst x,.lst y=>if Dz (x.length+y.length)=Ab then .ok (.lst (x++y)) else .bad
 |.Add,.tup x,.tup y=>if (!x.isEmpty&&Dz (x.length+y.length))=Ab then .ok (.tup (x++y)) else .bad
 |_,_,_=>.bad
noncomputable def unD:J5->D->R D
 |.USub,.int i=>.ok (.int (-i))
 |_,_=>.bad
noncomputable def b2i(b:Ai):Af:=if b=Ab then 1 else 0
mutual
noncomputable def eqD:D->D->Ai
 |.non,.non=>Ab
 |.bl a,.bl b=>a==b
 |.bl a,.int j=>b2i a==j
 |.int i,.bl b=>i==b2i b
 |.int i,.int j=>i==j
 |.str x,.str y=>x==y
 |.tup xs,.tup ys=>eqDs xs ys
 |.lst xs,.lst ys=>eqDs xs ys
 |_,_=>Ad
noncomputable def eqDs:Ac D->Ac D->Ai
 |[],[]=>Ab
 |x::xs,y::ys=>eqD x y&&eqDs xs ys
 |_,_=>Ad
end
noncomputable def flD:Ag->D->Ai
 |_,.non=>Ab
 |_,.bl _=>Ab
 |_,.int _=>Ab
 |_,.str _=>Ab
 |n+1,.tup xs=>xs.all (flD n)
 |n+1,.lst xs=>xs.all (flD n)
 |_,_=>Ad
noncomputable def JW:D->Ao (Ac Af)
 |.tup ds=>keyDs ds
 |_=>Ae
where keyDs:Ac D->Ao (Ac Af)
 |[]=>Aa []
 |.int i::r=>(keyDs r).map (i :: ·)
 |_=>Ae
noncomputable def ltD:Ag->D->D->Ai
 |0,.int i,.int j=>decide (i<j)
 |n+1,.tup xs,.tup ys=>ltDs (ltD n) xs ys
 |_,_,_=>Ad
where ltDs (lt:D->D->Ai):Ac D->Ac D->Ai
 |[],[]=>Ad
 |[],_::_=>Ab
 |_::_,[]=>Ad
 |x::xs,y::ys=>if eqD x y=Ab then ltDs lt xs ys else lt x y
noncomputable def rkD:Ag->D->Ai
 |0,.int _=>Ab
 |n+1,.tup xs=>xs.all (rkD n)
 |_,_=>Ad
noncomputable def Tj(lt:D->D->Ai)(x:D):Ac D->Ac D
 |[]=>[x]
 |y::ys=>if lt y x=Ab then y::Tj lt x ys else x::y::ys
noncomputable def Xu(lt:D->D->Ai):Ac D->Ac D
 |[]=>[]
 |x::xs=>Tj lt x (Xu lt xs)
noncomputable def Tg:Ac D->Ai
 |[]=>Ab
 |x::xs=>xs.all (λy=>!eqD x y)&&Tg xs
noncomputable def S4:Ac D->Ai
 |[]=>Ab
 |[_]=>Ab
 |x::y::r=>ltD 1 x y&&S4 (y::r)
noncomputable def Vs(xs:Ac D):R (Ac D):=if (xs.all (λd=>rkD 1 d && !eqD d (.tup []))&&Tg xs&&(decide (xs.length<64)||(S4 xs&&decide (xs.length<=1000))))=Ab then .ok (Xu (ltD 1) xs) else .bad
noncomputable def B1:Dg->D->D->R D
  |.Eq,x,y=>if (flD 5 x&&flD 5 y)=Ab then .ok (.bl (eqD x y)) else .bad
  |.NotEq,x,y=>if (flD 5 x&&flD 5 y)=Ab then .ok (.bl (!eqD x y)) else .bad
  |.Lt,.int i,.int j=>.ok (.bl (decide (i<j)))
  |.LtE,.int i,.int j=>.ok (.bl (decide (i<=j)))
  |.Gt,.int i,.int j=>.ok (.bl (decide (j<i)))
  |.GtE,.int i,.int j=>.ok (.bl (decide (j<=i)))
  |.In,x,.lst ys=>if (flD 5 x&&ys.all (flD 5))=Ab then .ok (.bl (ys.any λy=>eqD y x)) else .bad
  |.In,x,.dic kvs=>match JW x with
    |some k=>.ok (.bl (kvs.any λp=>p.1==k))
    |none=>.bad
  |.In,x,.tup ys=>if (flD 5 x&&ys.all (flD 5))=Ab then .ok (.bl (ys.any λy=>eqD y x)) else .bad
  |.NotIn,x,.lst ys=>if (flD 5 x&&ys.all (flD 5))=Ab then .ok (.bl (!ys.any λy=>eqD y x)) else .bad
  |.NotIn,x,.tup ys=>if (flD 5 x&&ys.all (flD 5))=Ab then .ok (.bl (!ys.any λy=>eqD y x)) else .bad
  |.Is,.non,.non=>.ok (.bl Ab)
  |.Is,.bl _,.non=>.ok (.bl Ad)
  |.Is,.int _,.non=>.ok (.bl Ad)
  |.Is,.str _,.non=>.ok (.bl Ad)
  |.Is,.tup _,.non=>.ok (.bl Ad)
  |.Is,.lst _,.non=>.ok (.bl Ad)
  |.Is,.obj _ _,.non=>.ok (.bl Ad)
  |.Is,.bl a,.bl b=>.ok (.bl (a==b))
  |.IsNot,.bl a,.bl b=>.ok (.bl (!(a==b)))
  |.IsNot,.non,.non=>.ok (.bl Ad)
  |.IsNot,.bl _,.non=>.ok (.bl Ab)
  |.IsNot,.int _,.non=>.ok (.bl Ab)
  |.IsNot,.str _,.non=>.ok (.bl Ab)
  |.IsNot,.tup _,.non=>.ok (.bl Ab)
  |.IsNot,.lst _,.non=>.ok (.bl Ab)
  |.IsNot,.obj _ _,.non=>.ok (.bl Ab)
  |_,_,_=>.bad
noncomputable def BN:D->R Ai
 |.non=>.ok Ad
 |.bl b=>.ok b
 |.int i=>.ok (i != 0)
 |.str x=>if Dz x.length=Ab then .ok (x.length != 0) else .bad
 |.tup xs=>.ok (!xs.isEmpty)
 |.lst xs=>.ok (!xs.isEmpty)
 |_=>.bad
noncomputable def plD(n:Ag)(i:Af):Ao Ag:=if 0<=i then (if i<n then Aa i.toNat else Ae) else if -(n:Af)<=i then Aa (i+n).toNat else Ae
noncomputable def DA(xs:Ac D)(i:Af):R D:=match plD xs.length i with
  |some k=>match xs[k]? with
    |some d=>.ok d
    |none=>.bad
  |none=>.bad
noncomputable def Rm(kvs:Ac (Ac Af×D))(k:Ac Af):Ao D:=(kvs.find? λp=>p.1==k).map (·.2)
noncomputable def WE(kvs:Ac (Ac Af×D))(k:Ac Af)(v:D):Ac (Ac Af×D):=if (kvs.any λp=>p.1==k)=Ab then kvs.map (λp=>if (p.1==k)=Ab then (k,v) else p) else kvs++[(k,v)]
noncomputable def BA:D->D->R D
  |.lst xs,.int i=>DA xs i
  |.tup xs,.int i=>DA xs i
  |.dic kvs,k=>match (JW k).bind (Rm kvs) with
    |some d=>.ok d
    |none=>.bad
  |_,_=>.bad
noncomputable def D3:D->R Af
 |.int i=>.ok i
 |_=>.bad
noncomputable def DF:D->R Ai
 |.bl b=>.ok b
 |_=>.bad
noncomputable def Db:D->R (Ac D)
 |.lst xs=>.ok xs
 |.tup xs=>.ok xs
 |_=>.bad
noncomputable def RW:D->R (Ac D)
 |.lst xs=>.ok xs
 |_=>.bad
inductive BI where
 |len|abs|max|min|int|list|tuple|all|any|sum|sorted|str|count|stp|lset|tmin|tmax|tlt|rvs
 deriving DecidableEq,Inhabited
inductive Ki where
 |int|bool|str|list|tuple|verr|cls (c:Ag)
 deriving DecidableEq,Inhabited
mutual
inductive E where
 |non|bl (b:Ai)|int (i:Af)|str (x:Ah)
 |var (i:Ag)|glob (g:Ag)
 |bin (op:FE) (a b:E)|un (op:J5) (a:E)|no (a:E)
 |and (es:Es)|or (es:Es)
 |cmp (op:Dg) (a b:E)|cmp2 (op op':Dg) (a b c:E)
 |ite (c a b:E)
 |call (f:Ag) (as:Es)|bi (b:BI) (as:Es)
 |isi (a:E) (ks:Ac Ki)
 |idx (a i:E)|sl (a lo hi:E)
 |tup (es:Es)|lst (es:Es)
 |comp (elt:E) (t:Ag) (it:I) (c:E)|compT (elt:E) (ts:Ac Ag) (it:I) (c:E)|tupI (it:I)|dnew
 |fld (o:E) (f:Ah)
inductive Es where
 |nil|cons (e:E) (es:Es)
inductive I where
 |e (a:E)|rng (a:E)|rng2 (a b:E)|zip (a b:E)|zip3 (a b c:E)|enm (a:E)
end
abbrev Sl:=Ao (D×Ai)
abbrev Rho:=Ac Sl
structure Gam where
 F:Ag->Ac D->R D
 G:Ag->D
 up:Ag->Ac Ag
 /-- the defs whose answer is a new list -/
 fr:Ag->Ai
 /-- what is raised: the class,what it is made of -/
 xn:Ag->Ac D->R Ex
noncomputable def Cb(lo:Af)(n:Ag):Ac D:=(A6 n).map fun(k:Ag)=>D.int (lo+(k:Af))
noncomputable def CT(lo hi:Af):R (Ac D):=if (-(4611686018427387904:Af)<=lo/\lo<4611686018427387904)/\(-(4611686018427387904:Af)<=hi/\hi<4611686018427387904)/\hi-lo<1000000 then .ok (Cb lo (hi-lo).toNat) else .bad
noncomputable def kiD(up:Ag->Ac Ag):Ki->D->Ai
 |.int,.int _=>Ab
 |.int,.bl _=>Ab
 |.bool,.bl _=>Ab
 |.str,.str _=>Ab
 |.list,.lst _=>Ab
 |.tuple,.tup _=>Ab
 |.cls c,.obj k _=>(up k).contains c
 |.cls c,.exc k _=>(up k).contains c
 |.verr,.exc _ _=>Ab
 |_,_=>Ad
noncomputable def Em:Ki->Ai
 |.cls _=>Ab
 |.verr=>Ab
 |_=>Ad
noncomputable def D6(up:Ag->Ac Ag)(ks:Ac Ki)(x:D):R D:=match x with
  |.obj _ _=>.bad
  |.exc _ _=>if ks.all Em=Ab then .ok (.bl (ks.any λk=>kiD up k x)) else .bad
  |.dic _=>.bad
  |_=>if ks.any Em=Ab then .bad else .ok (.bl (ks.any λk=>kiD up k x))
noncomputable def FW:D->R Ai
 |.non=>.ok Ad
 |.bl b=>.ok b
 |.int i=>.ok (i != 0)
 |_=>.bad
noncomputable def LZ:Ac D->R Ai
 |[]=>.ok Ab
 |x::r=>(FW x).bind λb=>(LZ r).bind λc=>.ok (b&&c)
noncomputable def FU:Ac D->R Ai
 |[]=>.ok Ad
 |x::r=>(FW x).bind λb=>(FU r).bind λc=>.ok (b||c)
noncomputable def H9:Af->Ac D->R Af
 |a,[]=>.ok a
 |a,.int i::r=>H9 (a+i) r
 |_,_=>.bad
noncomputable def D5:Ac D->Ac D->Ac D
 |x::xs,y::ys=>.tup [x,y]::D5 xs ys
 |_,_=>[]
noncomputable def Xj:Ac D->Ac D->Ac D->Ac D
 |x::xs,y::ys,z::zs=>.tup [x,y,z]::Xj xs ys zs
 |_,_,_=>[]
noncomputable def Xi(x y z:D):R (Ac D):=(Db x).bind λxs=>(Db y).bind λys=>(Db z).bind λzs=>if 0<xs.length/\xs.length<=1000/\ys.length=xs.length/\zs.length=xs.length then .ok (Xj xs ys zs) else .bad
noncomputable def FY:Af->Ac D->Ac D
 |_,[]=>[]
 |i,x::xs=>.tup [.int i,x]::FY (i+1) xs
noncomputable def nlD:Ag->D->Ai
 |_,.non=>Ab
 |_,.bl _=>Ab
 |_,.int _=>Ab
 |_,.str _=>Ab
 |n+1,.tup xs=>xs.all (nlD n)
 |_,_=>Ad
noncomputable def FZ(fr:Ai):D->Ai
 |.lst ds=>fr&&ds.all (nlD 5)
 |d=>nlD 5 d
noncomputable def Hi:Ac D->Ao (Ac Af)
 |[]=>Aa []
 |.int i::r=>(Hi r).map (i :: ·)
 |_=>Ae
noncomputable def IB(i:Af):Ac Af->Af
 |[]=>i
 |j::r=>IB (if j<i then j else i) r
noncomputable def pk2(k n:Ag):Ac Ag:=(A6 ((n-min k n+1)/2)).map λj=>min k n+2*j
noncomputable def SG(k:Ag)(xs:Ac D):Ac D:=(pk2 k xs.length).filterMap λi=>xs[i]?
noncomputable def ddS(acc:Ac Af)(x:Af):Ac Af:=if acc.any (· == x)=Ab then acc else acc++[x]
noncomputable def ddN(is:Ac Af):Ag:=(is.foldl ddS []).length
noncomputable def Ox(xs:Ac D):R D:=match Hi xs with
  |some is=>if C2 is.length 4000=Ab then .ok (.int (ddN is)) else .bad
  |none=>.bad
noncomputable def mmD(mx:Ai)(x y:D):R D:=if [x,y].all (λd=>rkD 1 d && !eqD d (.tup []))=Ab then .ok (if (if mx=Ab then ltD 1 x y else ltD 1 y x)=Ab then y else x) else .bad
noncomputable def Sw(x y:D):R D:=if [x,y].all (λd=>rkD 1 d && !eqD d (.tup []))=Ab then .ok (.bl (ltD 1 x y)) else .bad
noncomputable def Gi(k:Ac Af):Af:=reduceHash (Builtin.Tuple.tupleHashOf (k.map hashInt))
noncomputable def LV:Ac D->Ao (Ac (Ac Af))
 |[]=>Aa []
 |.tup xs::r=>(Hi xs).bind λk=>(LV r).map (k :: ·)
 |_=>Ae
noncomputable def HZ:Ac Af->Ai
 |[]=>Ab
 |h::r=>!r.contains h&&HZ r
noncomputable def RK(xs:Ac D):R D:=match LV xs with
  |some ks=>if (C2 ks.length 3&&HZ (ks.map Gi))=Ab then .ok (.int ks.length) else .bad
  |none=>.bad
noncomputable def biD:BI->Ac D->R D
  |.len,[.lst xs]=>.ok (.int xs.length)
  |.len,[.tup xs]=>.ok (.int xs.length)
  |.len,[.str x]=>if Dz x.length=Ab then .ok (.int x.length) else .bad
  |.abs,[.int i]=>.ok (.int (if i<0 then -i else i))
  |.max,[.int i,.int j]=>.ok (.int (if i<j then j else i))
  |.min,[.int i,.int j]=>.ok (.int (if j<i then j else i))
  |.min,[.lst xs]=>match Hi xs with
    |some (i::is)=>.ok (.int (IB i is))
    |_=>.bad
  |.int,[.int i]=>.ok (.int i)
  |.int,[.bl b]=>.ok (.int (b2i b))
  |.list,[.lst xs]=>.ok (.lst xs)
  |.list,[.tup xs]=>.ok (.lst xs)
  |.tuple,[.lst xs]=>.ok (.tup xs)
  |.tuple,[.tup xs]=>.ok (.tup xs)
  |.all,[.lst xs]=>(LZ xs).bind λb=>.ok (.bl b)
  |.any,[.lst xs]=>(FU xs).bind λb=>.ok (.bl b)
  |.any,[.tup xs]=>(FU xs).bind λb=>.ok (.bl b)
  |.sum,[.lst xs]=>(H9 0 xs).bind λi=>.ok (.int i)
  |.sum,[.tup xs]=>(H9 0 xs).bind λi=>.ok (.int i)
  |.sorted,[.lst xs]=>(Vs xs).bind λys=>.ok (.lst ys)
  |.count,[.lst xs,x]=>if (flD 5 x&&xs.all (flD 5))=Ab then .ok (.int ((xs.filter λy=>eqD y x).length:Ag)) else .bad
  |.len,[.dic kvs]=>.ok (.int kvs.length)
  |.stp,[.lst xs,.int k]=>.ok (.lst (SG k.toNat xs))
  |.lset,[.lst xs]=>Ox xs
  |.lset,[.tup xs]=>RK xs
  |.tmin,[x,y]=>mmD Ad x y
  |.tmax,[x,y]=>mmD Ab x y
  |.tlt,[x,y]=>Sw x y
  |.rvs,[.lst xs]=>.ok (.lst xs.reverse)
  |_,_=>.bad
noncomputable def slE(c:E)(d:D):R (Ao Af):=match c with
  |.non=>.ok Ae
  |_=>(D3 d).bind λi=>.ok (Aa i)
noncomputable def IA(n d:Ag):Ao Af->Ag
 |none=>d
 |some i=>if i<0 then (i+n).toNat else min i.toNat n
noncomputable def KR(xs:Ac D)(lo hi:Ao Af):Ac D:=(xs.drop (IA xs.length 0 lo)).take (IA xs.length xs.length hi-IA xs.length 0 lo)
noncomputable def slD:D->Ao Af->Ao Af->R D
 |.lst xs,l,h=>.ok (.lst (KR xs l h))
 |.tup xs,l,h=>if (IA xs.length 0 l==0&&IA xs.length xs.length h==xs.length)=Ab then .bad else .ok (.tup (KR xs l h))
 |_,_,_=>.bad
noncomputable def Np:D->Ah->R D
  |.exc _ fs,f=>match fs.lookup f with
    |some d=>.ok d
    |none=>.bad
  |_,_=>.bad
noncomputable def E2(U:Rho)(i:Ag):R D:=match U[i]? with
  |some (Aa (d,Ad))=>.ok d
  |_=>.bad
noncomputable def Dk(U:Rho)(i:Ag):R D:=match U[i]? with
  |some (Aa (d,_))=>.ok d
  |_=>.bad
noncomputable def shE(U:Rho):E->Ai
  | .var i=>(match U[i]? with
    |some (Aa (_,Ab))=>Ad
    | _=>Ab)
  |_=>Ab
noncomputable def HY(U:Rho):Es->Ai
 |.nil=>Ab
 |.cons e es=>shE U e&&HY U es
noncomputable def EV:Ac Ag->Ac D->Rho->Ao Rho
 |[],[],U=>Aa U
 |t::ts,d::ds,U=>EV ts ds (U.set t (Aa (d,Ad)))
 |_,_,_=>Ae
noncomputable def GU(ts:Ac Ag)(d:D)(U:Rho):R Rho:=match d with
  | .tup xs=>(match EV ts xs U with
    |some U'=>.ok U'
    | none=>.bad)
  |_=>.bad
noncomputable def Hj(ts:Ac Ag)(d:D)(U:Rho):R Rho:=match d with
  | .lst xs=>(match EV ts xs U with
    |some U'=>.ok U'
    | none=>.bad)
  |d=>GU ts d U
noncomputable def BD(g:D->R Ai)(f:D->R D):Ac D->R (Ac D)
 |[]=>.ok []
 |x::xs=>(g x).bind λb=>if b=Ab then (f x).bind λy=>(BD g f xs).bind λys=>.ok (y::ys) else BD g f xs
noncomputable def noX{α:Type}:R α->R α
 |.ok a=>.ok a
 |_=>.bad
noncomputable def top(U:Rho)(e:E)(r:R D):R D:=match e with
  |.var i=>Dk U i
  |_=>r
mutual
noncomputable def evE(Z:Gam)(U:Rho):E->R D
 |.non=>.ok .non
 |.bl b=>.ok (.bl b)
 |.int i=>.ok (.int i)
 |.str x=>.ok (.str x)
 |.var i=>E2 U i
 |.glob g=>.ok (Z.G g)
 |.bin op a b=>(top U a (evE Z U a)).bind λx=>(top U b (evE Z U b)).bind λy=>Dm op x y
 |.un op a=>(top U a (evE Z U a)).bind λx=>unD op x
 |.no a=>(top U a (evE Z U a)).bind λx=>(DF x).bind λb=>.ok (.bl (!b))
 |.and es=>evN Z U es
 |.or es=>evO Z U es
 |.cmp op a b=>(top U a (evE Z U a)).bind λx=>(top U b (evE Z U b)).bind λy=>B1 op x y
 |.cmp2 op op' a b c=>(top U a (evE Z U a)).bind λx=>(top U b (evE Z U b)).bind λy=>(B1 op x y).bind λz=>(DF z).bind λk=>if k=Ab then (top U c (evE Z U c)).bind λu=>B1 op' y u else .ok (.bl Ad)
 |.ite c a b=>(top U c (evE Z U c)).bind λx=>(BN x).bind λk=>if k=Ab then evE Z U a else evE Z U b
 |.call f as=>(evB Z U as).bind λxs=>(Z.F f xs).bind λd=>if HY U as=Ab then .ok d else if FZ (Z.fr f) d=Ab then .ok d else .bad
 |.bi b as=>(evB Z U as).bind λxs=>biD b xs
 |.isi a ks=>(top U a (evE Z U a)).bind λx=>D6 Z.up ks x
 |.idx a i=>(top U a (evE Z U a)).bind λx=>(top U i (evE Z U i)).bind λy=>BA x y
 |.sl a lo hi=>(top U a (evE Z U a)).bind λx=>(top U lo (evE Z U lo)).bind λl=>(slE lo l).bind λl'=>(top U hi (evE Z U hi)).bind λh=>(slE hi h).bind λh'=>slD x l' h'
 |.tup es=>(evA Z U es).bind λxs=>.ok (.tup xs)
 |.lst es=>(evA Z U es).bind λxs=>.ok (.lst xs)
 |.comp elt t it c=>(evI Z U it).bind λxs=>(noX (BD (λx=>(top (U.set t (Aa (x,Ad))) c (evE Z (U.set t (Aa (x,Ad))) c)).bind BN) (λx=>evE Z (U.set t (Aa (x,Ad))) elt) xs)).bind λys=>.ok (.lst ys)
 |.compT elt ts it c=>(evI Z U it).bind λxs=>(noX (BD (λx=>(GU ts x U).bind λU'=>(top U' c (evE Z U' c)).bind BN) (λx=>(GU ts x U).bind λU'=>evE Z U' elt) xs)).bind λys=>.ok (.lst ys)
 |.tupI it=>(evI Z U it).bind λxs=>.ok (.tup xs)
 |.dnew=>.ok (.dic [])
 |.fld o f=>(top U o (evE Z U o)).bind λx=>Np x f
noncomputable def evN(Z:Gam)(U:Rho):Es->R D
 |.nil=>.bad
 |.cons e .nil=>evE Z U e
 |.cons e (.cons e' es)=>(evE Z U e).bind λx=>(DF x).bind λc=>if c=Ab then evN Z U (.cons e' es) else .ok (.bl Ad)
noncomputable def evO(Z:Gam)(U:Rho):Es->R D
 |.nil=>.bad
 |.cons e .nil=>evE Z U e
 |.cons e (.cons e' es)=>(evE Z U e).bind λx=>(DF x).bind λc=>if c=Ab then .ok (.bl Ab) else evO Z U (.cons e' es)
noncomputable def evA(Z:Gam)(U:Rho):Es->R (Ac D)
 |.nil=>.ok []
 |.cons e es=>(evE Z U e).bind λx=>(evA Z U es).bind λxs=>.ok (x::xs)
noncomputable def evB(Z:Gam)(U:Rho):Es->R (Ac D)
 |.nil=>.ok []
 |.cons e es=>(top U e (evE Z U e)).bind λx=>(evB Z U es).bind λxs=>.ok (x::xs)
noncomputable def evI(Z:Gam)(U:Rho):I->R (Ac D)
 |.e a=>(evE Z U a).bind Db
 |.rng a=>(top U a (evE Z U a)).bind λx=>(D3 x).bind λj=>CT 0 j
 |.rng2 a b=>(top U a (evE Z U a)).bind λx=>(top U b (evE Z U b)).bind λy=>(D3 x).bind λi=>(D3 y).bind λj=>CT i j
 |.zip a b=>(evE Z U a).bind λx=>(evE Z U b).bind λy=>(Db x).bind λxs=>(Db y).bind λys=>.ok (D5 xs ys)
 |.zip3 a b c=>(evE Z U a).bind λx=>(evE Z U b).bind λy=>(evE Z U c).bind λz=>Xi x y z
 |.enm a=>(evE Z U a).bind λx=>(Db x).bind λxs=>.ok (FY 0 xs)
end
noncomputable def DR(Z:Gam):E->Ai
 |.lst _=>Ab
 |.comp _ _ _ _=>Ab
 |.compT _ _ _ _=>Ab
 |.dnew=>Ab
 |.bin .Add _ _=>Ab
 |.bi .list _=>Ab
 |.bi .sorted _=>Ab
 |.sl _ _ _=>Ab
 |.call f _=>Z.fr f
 |_=>Ad
mutual
inductive S where
 |pass
 /-- x=e;fresh: x alone holds the new list -/
 |asg (i:Ag) (fresh:Ai) (e:E)
 /-- a,b,..=e -/
 |asgT (ts:Ac Ag) (e:E)
 |expr (e:E)
 |ret (e:E)|retN
 |ife (c:E) (a b:Ss)
 |fors (t:Ag) (it:I) (body:Ss)
 |forT (ts:Ac Ag) (it:I) (body:Ss)
 |whl (c:E) (body:Ss)
 /-- raise C(e,..) -/
 |rais (c:Ag) (as:Es)
 /-- try: body except C as x: h -/
 |tryx (body:Ss) (c:Ag) (x:Ag) (h:Ss)
 /-- .. except C as x: h,except C' as x: h',else: els -/
 |try2 (body:Ss) (c:Ag) (x:Ag) (h:Ss) (c':Ag) (h' els:Ss)
 /-- x.append(e),x.extend(e),x.insert(k,e),x.reverse(),x.clear() -/
 |app (i:Ag) (e:E)|ext (i:Ag) (e:E)|ins (i:Ag) (k e:E)|rev (i:Ag)|clr (i:Ag)
 /-- d[k]=e,d.setdefault(k,e) -/
 |dput (i:Ag) (k e:E)|dsd (i:Ag) (k e:E)
 /-- x[k]=e -/
 |put (i:Ag) (k e:E)
 /-- x[k],x[l]=x[l],x[k] -/
 |swp (i k l:Ag)
 /-- x.append(y.pop(e)) -/
 |apop (j i:Ag) (e:E)
 |brk|cont
 /-- nothing: from here on x is no longer changed -/
 |rel (i:Ag)
inductive Ss where
 |nil|cons (s:S) (ss:Ss)
end
inductive O where
 |next (U:Rho)|ret (d:D) (fr:Ai)|brk (U:Rho)|cont (U:Rho)|exn (x:Ex) (U:Rho)|bad
 deriving Inhabited
noncomputable def O.of{α:Type}(U:Rho)(r:R α)(f:α->O):O:=match r with
  |.ok a=>f a
  |.exn x=>.exn x U
  |.bad=>.bad
@[simp]theorem O.of_ok(U:Rho)(a:α)(f:α->O):O.of U (.ok a) f=f a:=rfl
@[simp]theorem O.of_exn(U:Rho)(x:Ex)(f:α->O):O.of U (.exn x:R α) f=.exn x U:=rfl
@[simp]theorem O.of_bad(U:Rho)(f:α->O):O.of U (.bad:R α) f=.bad:=rfl
noncomputable def Fn(Z:Gam)(U:Rho)(i:I):R (Ac D):=evI Z U i
noncomputable def Cw(U:Rho)(i:Ag):R (Ac D):=match U[i]? with
  |some (Aa (.lst xs,Ab))=>.ok xs
  |_=>.bad
noncomputable def Td(U:Rho)(i:Ag):R (Ac (Ac Af×D)):=match U[i]? with
  |some (Aa (.dic xs,Ab))=>.ok xs
  |_=>.bad
noncomputable def X2(d:D):R (Ac Af):=match JW d with
  |some k=>.ok k
  |none=>.bad
noncomputable def X5:Ag:=4096
noncomputable def O.seq(o:O)(f:Rho->O):O:=match o with
  |.next U=>f U
  |.ret d b=>.ret d b
  |.brk U=>.brk U
  |.cont U=>.cont U
  |.exn x U=>.exn x U
  |.bad=>.bad
noncomputable def O.turn(o:O)(f:Rho->O):O:=match o with
  |.next U=>f U
  |.cont U=>f U
  |.brk U=>.next U
  |.ret d b=>.ret d b
  |.exn x U=>.exn x U
  |.bad=>.bad
noncomputable def CY(body:D->Rho->O):Ac D->Rho->O
 |[],U=>.next U
 |x::xs,U=>(body x U).turn (CY body xs)
noncomputable def R6(c:Rho->R Ai)(body:Rho->O):Ag->Rho->O
 |0,_=>.bad
 |n+1,U=>O.of U (c U) λb=>if b=Ab then (body U).turn (R6 c body n) else .next U
noncomputable def HW(U:Rho)(k:Ag):R Af:=(E2 U k).bind D3
noncomputable def OZ(U:Rho)(d:D)(i k l:Ag):O:=match d with
  |.tup [x,y]=>O.of U (Cw U i) λxs=>O.of U (HW U k) λa=>O.of U (HW U l) λb=>match plD xs.length a,plD xs.length b with
    |some m,Aa n=>.next (U.set i (Aa (.lst ((xs.set m x).set n y),Ab)))
    |_,_=>.bad
  |_=>.bad
noncomputable def apD(U:Rho)(j i:Ag)(ys xs:Ac D)(n:Af):O:=match plD xs.length n with
  | some m=>(match xs[m]? with
    |some d=>if (j != i&&(Dz xs.length&&Dz (ys.length+1)))=Ab then .next ((U.set i (Aa (.lst (xs.eraseIdx m),Ab))).set j (Aa (.lst (ys++[d]),Ab))) else .bad
    | none=>.bad)
  |none=>.bad
noncomputable def hdO(i:Ag)(y:Ex)(U':Rho)(fh:Rho->O):O:=match fh (U'.set i (Aa (.exc y.c y.fs,Ad))) with
  |.next U''=>.next (U''.set i Ae)
  |.ret d f=>.ret d f
  |_=>.bad
mutual
noncomputable def evS(Z:Gam)(U:Rho):S->O
  |.pass=>.next U
  | .asg i fresh e=>O.of U (evE Z U e) λd=>if fresh=Ab then (if DR Z e=Ab then (match d with
      |.lst xs=>.next (U.set i (Aa (.lst xs,Ab)))
      |.dic xs=>.next (U.set i (Aa (.dic xs,Ab)))
      | _=>.bad) else .bad) else .next (U.set i (Aa (d,Ad)))
  |.asgT ts e=>O.of U (evE Z U e) λd=>O.of U (Hj ts d U) λU'=>.next U'
  |.expr e=>O.of U (evE Z U e) λ_=>.next U
  |.ret e=>O.of U (top U e (evE Z U e)) λd=>.ret d (DR Z e||(match e with | .var i=>(match U[i]? with|some (Aa (_,o))=>o|_=>Ad)|_=>Ad))
  |.retN=>.ret .non Ad
  |.ife c a b=>O.of U ((top U c (evE Z U c)).bind BN) λk=>if k=Ab then evSs Z U a else evSs Z U b
  |.fors t it body=>O.of U (Fn Z U it) λxs=>CY (λx U'=>evSs Z (U'.set t (Aa (x,Ad))) body) xs U
  |.forT ts it body=>O.of U (Fn Z U it) λxs=>CY (λx U'=>O.of U' (GU ts x U') λU''=>evSs Z U'' body) xs U
  |.whl c body=>R6 (λU'=>(top U' c (evE Z U' c)).bind BN) (λU'=>evSs Z U' body) X5 U
  |.rais c as=>O.of U (noX (evA Z U as)) λxs=>O.of U (Z.xn c xs) λx=>.exn x U
  |.tryx body c x h=>match evSs Z U body with
      | .exn y U'=>if (Z.up y.c).contains c=Ab then (match evSs Z (U'.set x (Aa (.exc y.c y.fs,Ad))) h with
          |.next U''=>.next (U''.set x Ae)
          |.ret d f=>.ret d f
          | _=>.bad) else .bad
      |o=>o
  |.try2 body c x h c' h' els=>match evSs Z U body with
      |.exn y U'=>if (Z.up y.c).contains c=Ab then hdO x y U' (λr=>evSs Z r h) else if (Z.up y.c).contains c'=Ab then hdO x y U' (λr=>evSs Z r h') else .bad
      |.next U'=>evSs Z U' els
      |o=>o
  |.app i e=>O.of U (Cw U i) λxs=>O.of U (evE Z U e) λd=>if Dz (xs.length+1)=Ab then .next (U.set i (Aa (.lst (xs++[d]),Ab))) else .bad
  |.ext i e=>O.of U (Cw U i) λxs=>O.of U (evE Z U e) λd=>O.of U (RW d) λys=>if Dz (xs.length+ys.length)=Ab then .next (U.set i (Aa (.lst (xs++ys),Ab))) else .bad
  |.ins i k e=>O.of U (Cw U i) λxs=>O.of U ((top U k (evE Z U k)).bind D3) λj=>O.of U (evE Z U e) λd=>if (Dz (xs.length+1)&&decide (0<=j)&&decide (j<=xs.length))=Ab then .next (U.set i (Aa (.lst (xs.take j.toNat++d::xs.drop j.toNat),Ab))) else .bad
  |.rev i=>O.of U (Cw U i) λxs=>.next (U.set i (Aa (.lst xs.reverse,Ab)))
  |.clr i=>O.of U (Cw U i) λ_=>.next (U.set i (Aa (.lst [],Ab)))
  |.dput i k e=>O.of U (evE Z U e) λd=>O.of U (Td U i) λxs=>O.of U ((evE Z U k).bind X2) λj=>if Dz (xs.length+1)=Ab then .next (U.set i (Aa (.dic (WE xs j d),Ab))) else .bad
  |.dsd i k e=>O.of U (Td U i) λxs=>O.of U ((evE Z U k).bind X2) λj=>O.of U (evE Z U e) λd=>if Dz (xs.length+1)=Ab then .next (U.set i (Aa (.dic (if (xs.any λp=>p.1==j)=Ab then xs else WE xs j d),Ab))) else .bad
  |.put i k e=>O.of U (evE Z U e) λd=>O.of U (Cw U i) λxs=>O.of U ((top U k (evE Z U k)).bind D3) λj=>match plD xs.length j with
      |some n=>.next (U.set i (Aa (.lst (xs.set n d),Ab)))
      |none=>.bad
  |.swp i k l=>O.of U (evE Z U (.tup (.cons (.idx (.var i) (.var l)) (.cons (.idx (.var i) (.var k)) .nil)))) λd=>OZ U d i k l
  |.apop j i e=>O.of U (Cw U j) λys=>O.of U (Cw U i) λxs=>O.of U (evE Z U e) λd=>O.of U (D3 d) λn=>apD U j i ys xs n
  |.brk=>.brk U
  |.cont=>.cont U
  |.rel i=>match U[i]? with
      |some (Aa (d,Ab))=>.next (U.set i (Aa (d,Ad)))
      |_=>.next U
noncomputable def evSs(Z:Gam)(U:Rho):Ss->O
 |.nil=>.next U
 |.cons s ss=>(evS Z U s).seq λU'=>evSs Z U' ss
end
structure Df where
 n:Ag
 fr:Ai
 body:Ss
noncomputable def By(n:Ag)(ds:Ac D):Rho:=ds.map (λd=>Aa (d,Ad))++GM (n-ds.length) Ae
noncomputable def isL:D->Ai
 |.lst _=>Ab
 |.dic _=>Ab
 |_=>Ad
noncomputable def O.ans(fr:Ai)(o:O):R D:=match o with
  |.ret d b=>if (fr&&(!b&&isL d))=Ab then .bad else .ok d
  |.next _=>if fr=Ab then .bad else .ok .non
  |.exn x _=>.exn x
  |_=>.bad
noncomputable def Df.run(Z:Gam)(f:Df)(ds:Ac D):R D:=(evSs Z (By f.n ds) f.body).ans f.fr
structure Prg where
 xs:Ai
 defs:Ag->Df
 G:Ag->D
 up:Ag->Ac Ag
 xn:Ag->Ac D->R Ex
noncomputable def El(xs:Ai)(r:R D):R D:=match xs with
  |true=>r
  |false=>noX r
noncomputable def gam(P:Prg):Ag->Gam
 |0=>⟨λ_ _=>.bad,P.G,P.up,λi=>(P.defs i).fr,P.xn⟩
 |n+1=>⟨λi ds=>El P.xs ((P.defs i).run (gam P n) ds),P.G,P.up,λi=>(P.defs i).fr,P.xn⟩
end Ov
end
section
namespace Ov
open PySem
variable{α:Type}{lo:Af}{n:Ag}{x:D}
section
variable(Z:Gam)(U:Rho)
@[simp]theorem ZzL:evE Z U .non=.ok .non:=rfl
@[simp]theorem ZBP(b):evE Z U (.bl b)=.ok (.bl b):=rfl
@[simp]theorem ZzP(b):evE Z U (.int b)=.ok (.int b):=rfl
@[simp]theorem ZzK(b):evE Z U (.str b)=.ok (.str b):=rfl
@[simp]theorem ZzI(i):evE Z U (.var i)=E2 U i:=rfl
@[simp]theorem Zv6(i):evE Z U (.glob i)=.ok (Z.G i):=rfl
@[simp]theorem ZzS(op a b):evE Z U (.bin op a b)=(top U a (evE Z U a)).bind λx=>(top U b (evE Z U b)).bind λy=>Dm op x y:=rfl
@[simp]theorem ZBL(op a):evE Z U (.un op a)=(top U a (evE Z U a)).bind λx=>unD op x:=rfl
@[simp]theorem ZBO(a):evE Z U (.no a)=(top U a (evE Z U a)).bind λx=>(DF x).bind λb=>.ok (.bl (!b)):=rfl
@[simp]theorem ZzT(es):evE Z U (.and es)=evN Z U es:=rfl
@[simp]theorem ZBN(es):evE Z U (.or es)=evO Z U es:=rfl
@[simp]theorem ZzE(e):evN Z U (.cons e .nil)=evE Z U e:=rfl
@[simp]theorem Zv1(e e' es):evN Z U (.cons e (.cons e' es))=(evE Z U e).bind λx=>(DF x).bind λc=>if c=Ab then evN Z U (.cons e' es) else .ok (.bl Ad):=rfl
@[simp]theorem ZzD(e):evO Z U (.cons e .nil)=evE Z U e:=rfl
@[simp]theorem Zv0(e e' es):evO Z U (.cons e (.cons e' es))=(evE Z U e).bind λx=>(DF x).bind λc=>if c=Ab then .ok (.bl Ab) else evO Z U (.cons e' es):=rfl
@[simp]theorem sG(op a b):evE Z U (.cmp op a b)=(top U a (evE Z U a)).bind λx=>(top U b (evE Z U b)).bind λy=>B1 op x y:=rfl
@[simp]theorem Zv9(op op' a b c):evE Z U (.cmp2 op op' a b c)=(top U a (evE Z U a)).bind λx=>(top U b (evE Z U b)).bind λy=>(B1 op x y).bind λz=>(DF z).bind λk=>if k=Ab then (top U c (evE Z U c)).bind λu=>B1 op' y u else .ok (.bl Ad):=rfl
@[simp]theorem ZzN(c a b):evE Z U (.ite c a b)=(top U c (evE Z U c)).bind λx=>(BN x).bind λk=>if k=Ab then evE Z U a else evE Z U b:=rfl
@[simp]theorem Zwa(f as):evE Z U (.call f as)=(evB Z U as).bind λxs=>(Z.F f xs).bind λd=>if HY U as=Ab then .ok d else if FZ (Z.fr f) d=Ab then .ok d else .bad:=rfl
@[simp]theorem Rl(f as):evE Z U (.bi f as)=(evB Z U as).bind λxs=>biD f xs:=rfl
@[simp]theorem ZzO(a ks):evE Z U (.isi a ks)=(top U a (evE Z U a)).bind λx=>D6 Z.up ks x:=rfl
@[simp]theorem ZzQ(a i):evE Z U (.idx a i)=(top U a (evE Z U a)).bind λx=>(top U i (evE Z U i)).bind λy=>BA x y:=rfl
@[simp]theorem ZBM(a lo hi):evE Z U (.sl a lo hi)=(top U a (evE Z U a)).bind λx=>(top U lo (evE Z U lo)).bind λl=>(slE lo l).bind λl'=>(top U hi (evE Z U hi)).bind λh=>(slE hi h).bind λh'=>slD x l' h':=rfl
@[simp]theorem ZzJ(es):evE Z U (.tup es)=(evA Z U es).bind λxs=>.ok (.tup xs):=rfl
@[simp]theorem ZzM(es):evE Z U (.lst es)=(evA Z U es).bind λxs=>.ok (.lst xs):=rfl
noncomputable def cG(Z:Gam)(U:Rho)(t:Ag)(c:E):D->R Ai:=λx=>(top (U.set t (Aa (x,Ad))) c (evE Z (U.set t (Aa (x,Ad))) c)).bind BN
noncomputable def cF(Z:Gam)(U:Rho)(t:Ag)(elt:E):D->R D:=λx=>evE Z (U.set t (Aa (x,Ad))) elt
noncomputable def mkL(r:R (Ac D)):R D:=(noX r).bind λys=>.ok (.lst ys)
@[simp]theorem ZBl(ys):mkL (.ok ys)=.ok (.lst ys):=rfl
@[simp]theorem Zv8(elt t it c):evE Z U (.comp elt t it c)=(evI Z U it).bind λxs=>mkL (BD (cG Z U t c) (cF Z U t elt) xs):=rfl
noncomputable def cGT(Z:Gam)(U:Rho)(ts:Ac Ag)(c:E):D->R Ai:=λx=>(GU ts x U).bind λU'=>(top U' c (evE Z U' c)).bind BN
noncomputable def cFT(Z:Gam)(U:Rho)(ts:Ac Ag)(elt:E):D->R D:=λx=>(GU ts x U).bind λU'=>evE Z U' elt
@[simp]theorem Zul(elt ts it c):evE Z U (.compT elt ts it c)=(evI Z U it).bind λxs=>mkL (BD (cGT Z U ts c) (cFT Z U ts elt) xs):=rfl
@[simp]theorem lF(it):evE Z U (.tupI it)=(evI Z U it).bind λxs=>.ok (.tup xs):=rfl
@[simp]theorem Zv7:evE Z U .dnew=.ok (.dic []):=rfl
@[simp]theorem ZzR(o f):evE Z U (.fld o f)=(top U o (evE Z U o)).bind λx=>Np x f:=rfl
@[simp]theorem ZzV:evA Z U .nil=.ok []:=rfl
@[simp]theorem Vb(e es):evA Z U (.cons e es)=(evE Z U e).bind λx=>(evA Z U es).bind λxs=>.ok (x::xs):=rfl
@[simp]theorem ZzU:evB Z U .nil=.ok []:=rfl
@[simp]theorem Qm(e es):evB Z U (.cons e es)=(top U e (evE Z U e)).bind λx=>(evB Z U es).bind λxs=>.ok (x::xs):=rfl
@[simp]theorem ZCP(a):evI Z U (.e a)=(evE Z U a).bind Db:=rfl
@[simp]theorem ZzG(a):evI Z U (.rng a)=(top U a (evE Z U a)).bind λx=>(D3 x).bind λj=>CT 0 j:=rfl
@[simp]theorem Ql(a b):evI Z U (.rng2 a b)=(top U a (evE Z U a)).bind λx=>(top U b (evE Z U b)).bind λy=>(D3 x).bind λi=>(D3 y).bind λj=>CT i j:=rfl
@[simp]theorem ZzF(a b):evI Z U (.zip a b)=(evE Z U a).bind λx=>(evE Z U b).bind λy=>(Db x).bind λxs=>(Db y).bind λys=>.ok (D5 xs ys):=rfl
@[simp]theorem Zv5(a b c):evI Z U (.zip3 a b c)=(evE Z U a).bind λx=>(evE Z U b).bind λy=>(evE Z U c).bind λz=>Xi x y z:=rfl
@[simp]theorem ZzH(a):evI Z U (.enm a)=(evE Z U a).bind λx=>(Db x).bind λxs=>.ok (FY 0 xs):=rfl
@[simp]theorem Zv2(a b):Fn Z U (.zip a b)=evI Z U (.zip a b):=rfl
@[simp]theorem Zuk(a b c):Fn Z U (.zip3 a b c)=evI Z U (.zip3 a b c):=rfl
@[simp]theorem Zv4(a):Fn Z U (.enm a)=evI Z U (.enm a):=rfl
@[simp]theorem ZBK(a):Fn Z U (.e a)=(evE Z U a).bind Db:=rfl
@[simp]theorem Zv3(a):Fn Z U (.rng a)=evI Z U (.rng a):=rfl
@[simp]theorem Uq(a b):Fn Z U (.rng2 a b)=evI Z U (.rng2 a b):=rfl
variable(r:R D)
@[simp]theorem ZwE(i):top U (.var i) r=Dk U i:=rfl
@[simp]theorem ZwH:top U .non r=r:=rfl
@[simp]theorem ZAP(b):top U (.bl b) r=r:=rfl
@[simp]theorem ZwL(b):top U (.int b) r=r:=rfl
@[simp]theorem ZwG(b):top U (.str b) r=r:=rfl
@[simp]theorem Zvl(b):top U (.glob b) r=r:=rfl
@[simp]theorem ZwP(op a b):top U (.bin op a b) r=r:=rfl
@[simp]theorem ZAL(op a):top U (.un op a) r=r:=rfl
@[simp]theorem ZAO(a):top U (.no a) r=r:=rfl
@[simp]theorem ZwQ(a):top U (.and a) r=r:=rfl
@[simp]theorem ZAN(a):top U (.or a) r=r:=rfl
@[simp]theorem ZwO(op a b):top U (.cmp op a b) r=r:=rfl
@[simp]theorem Zvo(op op' a b c):top U (.cmp2 op op' a b c) r=r:=rfl
@[simp]theorem ZwJ(a b c):top U (.ite a b c) r=r:=rfl
@[simp]theorem Zvp(a b):top U (.call a b) r=r:=rfl
@[simp]theorem ZAQ(a b):top U (.bi a b) r=r:=rfl
@[simp]theorem ZwK(a b):top U (.isi a b) r=r:=rfl
@[simp]theorem ZwM(a b):top U (.idx a b) r=r:=rfl
@[simp]theorem ZAM(a b c):top U (.sl a b c) r=r:=rfl
@[simp]theorem ZwF(a):top U (.tup a) r=r:=rfl
@[simp]theorem ZwI(a):top U (.lst a) r=r:=rfl
@[simp]theorem Zvn(a b c d):top U (.comp a b c d) r=r:=rfl
@[simp]theorem ZwN(a b):top U (.fld a b) r=r:=rfl
@[simp]theorem ZrW(a b c d):top U (.compT a b c d) r=r:=rfl
@[simp]theorem jF(a):top U (.tupI a) r=r:=rfl
@[simp]theorem Zvm:top U .dnew r=r:=rfl
end
@[simp]theorem ZrM(x:D×Ai)(U:Rho):Dk (Aa x::U) 0=.ok x.1:=rfl
@[simp]theorem ZrN(x:D)(U:Rho):E2 (Aa (x,Ad)::U) 0=.ok x:=rfl
@[simp]theorem Zrh(x:Sl)(U:Rho)(i:Ag)[NeZero i]:Dk (x::U) i=Dk U (i-1):=by
 obtain⟨j,rfl⟩:∃ j,i=j+1:=⟨i-1,by have:=Mk i;omega⟩
 rfl
@[simp]theorem Zri(x:Sl)(U:Rho)(i:Ag)[NeZero i]:E2 (x::U) i=E2 U (i-1):=by
 obtain⟨j,rfl⟩:∃ j,i=j+1:=⟨i-1,by have:=Mk i;omega⟩
 rfl
noncomputable def shV(U:Rho)(i:Ag):Ai:=match U[i]? with
    |some (Aa (_,Ab))=>Ad
    |_=>Ab
@[simp]theorem Zvu(x:D)(b:Ai)(U:Rho):shV (Aa (x,b)::U) 0=!b:=by cases b<;>rfl
@[simp]theorem Zsk(U:Rho):shV (Ae::U) 0=Ab:=rfl
@[simp]theorem Zsl(x:Sl)(U:Rho)(i:Ag)[NeZero i]:shV (x::U) i=shV U (i-1):=by
 obtain⟨j,rfl⟩:∃ j,i=j+1:=⟨i-1,by have:=Mk i;omega⟩
 rfl
section
variable(U:Rho)
@[simp]theorem Zxi(i):shE U (.var i)=shV U i:=rfl
@[simp]theorem Zxl:shE U .non=Ab:=rfl
@[simp]theorem ZA6(b):shE U (.bl b)=Ab:=rfl
@[simp]theorem Zxp(b):shE U (.int b)=Ab:=rfl
@[simp]theorem Zxk(b):shE U (.str b)=Ab:=rfl
@[simp]theorem Zvx(b):shE U (.glob b)=Ab:=rfl
@[simp]theorem Zxt(op a b):shE U (.bin op a b)=Ab:=rfl
@[simp]theorem ZA2(op a):shE U (.un op a)=Ab:=rfl
@[simp]theorem ZA5(a):shE U (.no a)=Ab:=rfl
@[simp]theorem Zxu(a):shE U (.and a)=Ab:=rfl
@[simp]theorem ZA4(a):shE U (.or a)=Ab:=rfl
@[simp]theorem Zxs(op a b):shE U (.cmp op a b)=Ab:=rfl
@[simp]theorem ZvA(op op' a b c):shE U (.cmp2 op op' a b c)=Ab:=rfl
@[simp]theorem Zxn(a b c):shE U (.ite a b c)=Ab:=rfl
@[simp]theorem ZvB(a b):shE U (.call a b)=Ab:=rfl
@[simp]theorem ZA7(a b):shE U (.bi a b)=Ab:=rfl
@[simp]theorem Zxo(a b):shE U (.isi a b)=Ab:=rfl
@[simp]theorem Zxq(a b):shE U (.idx a b)=Ab:=rfl
@[simp]theorem ZA3(a b c):shE U (.sl a b c)=Ab:=rfl
@[simp]theorem Zxj(a):shE U (.tup a)=Ab:=rfl
@[simp]theorem Zxm(a):shE U (.lst a)=Ab:=rfl
@[simp]theorem Zvz(a b c d):shE U (.comp a b c d)=Ab:=rfl
@[simp]theorem Zsm(a b c d):shE U (.compT a b c d)=Ab:=rfl
@[simp]theorem Zvw(a):shE U (.tupI a)=Ab:=rfl
@[simp]theorem Zvy:shE U .dnew=Ab:=rfl
@[simp]theorem Zxr(a b):shE U (.fld a b)=Ab:=rfl
@[simp]theorem Zvv:HY U .nil=Ab:=rfl
@[simp]theorem gH(e es):HY U (.cons e es)=(shE U e&&HY U es):=rfl
end
@[simp]theorem Zro(U:Rho):EV [] [] U=Aa U:=rfl
@[simp]theorem ZoU(t ts d ds)(U:Rho):EV (t::ts) (d::ds) U=EV ts ds (U.set t (Aa (d,Ad))):=rfl
@[simp]theorem jY(ts ds)(U:Rho):Hj ts (.lst ds) U=match EV ts ds U with
  |some U'=>.ok U'
  |none=>.bad:=rfl
@[simp]theorem ZuO(ts ds)(U:Rho):Hj ts (.tup ds) U=GU ts (.tup ds) U:=rfl
@[simp]theorem TZ(ts ds)(U:Rho):GU ts (.tup ds) U=match EV ts ds U with
  |some U'=>.ok U'
  |none=>.bad:=rfl
@[simp]theorem Zwj{β:Type}(c:Prop)[Gm c](a b:R α)(f:α->R β):(if c then a else b).bind f=if c then a.bind f else b.bind f:=by split<;>rfl
@[simp]theorem ZBj(U:Rho)(c:Prop)[Gm c](a b:R α)(f:α->O):O.of U (if c then a else b) f=if c then O.of U a f else O.of U b f:=by split<;>rfl
@[simp]theorem ZyI{β:Type}(U:Rho)(a:R α)(g:α->R β)(f:β->O):O.of U (a.bind g) f=O.of U a λx=>O.of U (g x) f:=by cases a<;>rfl
@[simp]theorem Zxw(c:Prop)[Gm c](a b:O)(f:Rho->O):O.seq (if c then a else b) f=if c then a.seq f else b.seq f:=by split<;>rfl
@[simp]theorem Zvb(c:Prop)[Gm c](a b:O)(f:Rho->O):O.turn (if c then a else b) f=if c then a.turn f else b.turn f:=by split<;>rfl
@[simp]theorem ZAm(fr:Ai)(c:Prop)[Gm c](a b:O):O.ans fr (if c then a else b)=if c then a.ans fr else b.ans fr:=by split<;>rfl
@[simp]theorem ZvC(U f):O.seq (.next U) f=f U:=rfl
@[simp]theorem Zxv(d b f):O.seq (.ret d b) f=.ret d b:=rfl
@[simp]theorem Zxy(U f):O.seq (.brk U) f=.brk U:=rfl
@[simp]theorem ZvD(U f):O.seq (.cont U) f=.cont U:=rfl
@[simp]theorem Zxx(x U f):O.seq (.exn x U) f=.exn x U:=rfl
@[simp]theorem Zxz(f):O.seq .bad f=.bad:=rfl
@[simp]theorem ZrS(U f):O.turn (.next U) f=f U:=rfl
@[simp]theorem Zva(d b f):O.turn (.ret d b) f=.ret d b:=rfl
@[simp]theorem Zvd(U f):O.turn (.brk U) f=.next U:=rfl
@[simp]theorem ZrT(U f):O.turn (.cont U) f=f U:=rfl
@[simp]theorem Zvc(x U f):O.turn (.exn x U) f=.exn x U:=rfl
@[simp]theorem Zve(f):O.turn .bad f=.bad:=rfl
@[simp]theorem Zwl(U):O.ans Ad (.next U)=.ok .non:=rfl
@[simp]theorem ZAl(d b):O.ans Ad (.ret d b)=.ok d:=rfl
@[simp]theorem Zwk(d b):O.ans Ab (.ret d b)=if (!b&&isL d)=Ab then .bad else .ok d:=rfl
@[simp]theorem Zza(d):isL (.lst d)=Ab:=rfl
@[simp]theorem Zy9(d):isL (.tup d)=Ad:=rfl
@[simp]theorem Zzb(d):isL (.int d)=Ad:=rfl
@[simp]theorem ZAn(fr x U):O.ans fr (.exn x U)=.exn x:=rfl
@[simp]theorem ZAo(fr):O.ans fr .bad=.bad:=rfl
@[simp]theorem ZBZ(i j:Af):Dm .Add (.int i) (.int j)=.ok (.int (i+j)):=rfl
@[simp]theorem ZAW(i j:Af):Dm .Sub (.int i) (.int j)=.ok (.int (i-j)):=rfl
@[simp]theorem xC(i j:Af):Dm .Mult (.int i) (.int j)=if (D4 i j||EW i j)=Ab then .ok (.int (i*j)) else .bad:=rfl
@[simp]theorem rZ(i j:Af):Dm .FloorDiv (.int i) (.int j)=if 0<j/\j<1073741824 then .ok (.int (i/j)) else .bad:=rfl
@[simp]theorem vU(i j:Af):Dm .Mod (.int i) (.int j)=if 0<j then .ok (.int (i%j)) else .bad:=rfl
@[simp]theorem tN(i j:Af):Dm .Pow (.int i) (.int j)=if (0<=j/\j<=1000000)/\(-(18446744073709551616:Af)<i/\i<18446744073709551616) then .ok (.int (i ^ j.toNat)) else .bad:=rfl
@[simp]theorem Wm(x y:Ah):Dm .Add (.str x) (.str y)=if Dz (x.length+y.length)=Ab then .ok (.str (x++y)) else .bad:=rfl
@[simp]theorem Rv(x y:Ac D):Dm .Add (.lst x) (.lst y)=if Dz (x.length+y.length)=Ab then .ok (.lst (x++y)) else .bad:=rfl
@[simp]theorem Wl(x y:Ac D):Dm .Add (.tup x) (.tup y)=if (!x.isEmpty&&Dz (x.length+y.length))=Ab then .ok (.tup (x++y)) else .bad:=rfl
@[simp]theorem ZCu(i:Af):unD .USub (.int i)=.ok (.int (-i)):=rfl
@[simp]theorem gf(x y:D):B1 .Eq x y=if (flD 5 x&&flD 5 y)=Ab then .ok (.bl (eqD x y)) else .bad:=rfl
@[simp]theorem cb(x y:D):B1 .NotEq x y=if (flD 5 x&&flD 5 y)=Ab then .ok (.bl (!eqD x y)) else .bad:=rfl
@[simp]theorem ZCv(i j:Af):B1 .Lt (.int i) (.int j)=.ok (.bl (decide (i<j))):=rfl
@[simp]theorem ZCy(i j:Af):B1 .LtE (.int i) (.int j)=.ok (.bl (decide (i<=j))):=rfl
@[simp]theorem ZCJ(i j:Af):B1 .Gt (.int i) (.int j)=.ok (.bl (decide (j<i))):=rfl
@[simp]theorem ZCK(i j:Af):B1 .GtE (.int i) (.int j)=.ok (.bl (decide (j<=i))):=rfl
@[simp]theorem cX(x:D)(ys:Ac D):B1 .In x (.lst ys)=if (flD 5 x&&ys.all (flD 5))=Ab then .ok (.bl (ys.any λy=>eqD y x)) else .bad:=rfl
@[simp]theorem cW(x:D)(ys:Ac D):B1 .In x (.tup ys)=if (flD 5 x&&ys.all (flD 5))=Ab then .ok (.bl (ys.any λy=>eqD y x)) else .bad:=rfl
@[simp]theorem bw(x:D)(ys:Ac D):B1 .NotIn x (.lst ys)=if (flD 5 x&&ys.all (flD 5))=Ab then .ok (.bl (!ys.any λy=>eqD y x)) else .bad:=rfl
@[simp]theorem bv(x:D)(ys:Ac D):B1 .NotIn x (.tup ys)=if (flD 5 x&&ys.all (flD 5))=Ab then .ok (.bl (!ys.any λy=>eqD y x)) else .bad:=rfl
@[simp]theorem ZBv:B1 .Is .non .non=.ok (.bl Ab):=rfl
@[simp]theorem ZBx(i):B1 .Is (.int i) .non=.ok (.bl Ad):=rfl
@[simp]theorem ZBu(i):B1 .Is (.tup i) .non=.ok (.bl Ad):=rfl
@[simp]theorem ZBw(i):B1 .Is (.lst i) .non=.ok (.bl Ad):=rfl
@[simp]theorem ZCB(a b):B1 .Is (.bl a) (.bl b)=.ok (.bl (a==b)):=rfl
@[simp]theorem ZBr(a b):B1 .IsNot (.bl a) (.bl b)=.ok (.bl (!(a==b))):=rfl
@[simp]theorem ZyZ:B1 .IsNot .non .non=.ok (.bl Ad):=rfl
@[simp]theorem Zy1(i):B1 .IsNot (.int i) .non=.ok (.bl Ab):=rfl
@[simp]theorem ZyY(i):B1 .IsNot (.tup i) .non=.ok (.bl Ab):=rfl
@[simp]theorem Zy0(i):B1 .IsNot (.lst i) .non=.ok (.bl Ab):=rfl
@[simp]theorem Zz1(i j:Af):eqD (.int i) (.int j)=(i==j):=rfl
@[simp]theorem ZBQ(i j:Ai):eqD (.bl i) (.bl j)=(i==j):=rfl
@[simp]theorem ZzY(i j:Ah):eqD (.str i) (.str j)=(i==j):=rfl
@[simp]theorem ZzX(i j:Ac D):eqD (.tup i) (.tup j)=eqDs i j:=rfl
@[simp]theorem Zz0(i j:Ac D):eqD (.lst i) (.lst j)=eqDs i j:=rfl
@[simp]theorem ZzZ:eqD .non .non=Ab:=rfl
@[simp]theorem Zqx(i):eqD .non (.int i)=Ad:=rfl
@[simp]theorem Zqy(i):eqD (.int i) .non=Ad:=rfl
@[simp]theorem Zwb:eqDs [] []=Ab:=rfl
@[simp]theorem Qe(x y:D)(xs ys:Ac D):eqDs (x::xs) (y::ys)=(eqD x y&&eqDs xs ys):=rfl
@[simp]theorem Zzs(n)(i:Af):flD n (.int i)=Ab:=by cases n<;>rfl
@[simp]theorem ZBJ(n)(i:Ai):flD n (.bl i)=Ab:=by cases n<;>rfl
@[simp]theorem Zzq(n)(i:Ah):flD n (.str i)=Ab:=by cases n<;>rfl
@[simp]theorem Zzr(n):flD n .non=Ab:=by cases n<;>rfl
@[simp]theorem ZvI(i):flD 5 (.tup i)=i.all (flD 4):=rfl
@[simp]theorem ZvN(i):flD 5 (.lst i)=i.all (flD 4):=rfl
@[simp]theorem ZvJ(i):flD 4 (.tup i)=i.all (flD 3):=rfl
@[simp]theorem ZvO(i):flD 4 (.lst i)=i.all (flD 3):=rfl
@[simp]theorem ZvK(i):flD 3 (.tup i)=i.all (flD 2):=rfl
@[simp]theorem ZvP(i):flD 3 (.lst i)=i.all (flD 2):=rfl
@[simp]theorem ZvL(i):flD 2 (.tup i)=i.all (flD 1):=rfl
@[simp]theorem ZvQ(i):flD 2 (.lst i)=i.all (flD 1):=rfl
@[simp]theorem ZvM(i):flD 1 (.tup i)=i.all (flD 0):=rfl
@[simp]theorem ZvR(i):flD 1 (.lst i)=i.all (flD 0):=rfl
@[simp]theorem ZwC(b):BN (.bl b)=.ok b:=rfl
@[simp]theorem Zvi(i):BN (.int i)=.ok (i != 0):=rfl
@[simp]theorem Zvh(i):BN (.lst i)=.ok (!i.isEmpty):=rfl
@[simp]theorem Zvf(i):BN (.tup i)=.ok (!i.isEmpty):=rfl
@[simp]theorem Zvg:BN .non=.ok Ad:=rfl
@[simp]theorem ZwD(b):FW (.bl b)=.ok b:=rfl
@[simp]theorem Zvk(i):FW (.int i)=.ok (i != 0):=rfl
@[simp]theorem Zvj:FW .non=.ok Ad:=rfl
@[simp]theorem ZuY:LZ []=.ok Ab:=rfl
@[simp]theorem ZrB(x r):LZ (x::r)=(FW x).bind λb=>(LZ r).bind λc=>.ok (b&&c):=rfl
@[simp]theorem ZuX:FU []=.ok Ad:=rfl
@[simp]theorem T5(x r):FU (x::r)=(FW x).bind λb=>(FU r).bind λc=>.ok (b||c):=rfl
@[simp]theorem Zz9(b)(d):El b (.ok d)=.ok d:=by cases b<;>rfl
@[simp]theorem Zwe(b):El b .bad=.bad:=by cases b<;>rfl
@[simp]theorem Zwd(x):El Ab (.exn x)=.exn x:=rfl
@[simp]theorem Zry(r):El Ad r=noX r:=rfl
@[simp]theorem ZyJ(a:α):noX (.ok a)=.ok a:=rfl
@[simp]theorem ZyL:noX (.bad:R α)=.bad:=rfl
@[simp]theorem ZyK(x):noX (.exn x:R α)=.bad:=rfl
@[simp]theorem ZAj(b):DF (.bl b)=.ok b:=rfl
@[simp]theorem MD(b):D3 (.int b)=.ok b:=rfl
@[simp]theorem ZuS(b):RW (.lst b)=.ok b:=rfl
@[simp]theorem ZuR(b):Db (.lst b)=.ok b:=rfl
@[simp]theorem ZuQ(b):Db (.tup b)=.ok b:=rfl
@[simp]theorem gk(xs i):BA (.lst xs) (.int i)=DA xs i:=rfl
@[simp]theorem gh(xs i):BA (.tup xs) (.int i)=DA xs i:=rfl
@[simp]theorem ZCx(xs):biD .len [.lst xs]=.ok (.int xs.length):=rfl
@[simp]theorem ZCw(xs):biD .len [.tup xs]=.ok (.int xs.length):=rfl
@[simp]theorem ZC2(i):biD .abs [.int i]=.ok (.int (if i<0 then -i else i)):=rfl
@[simp]theorem ZBn(i j):biD .max [.int i,.int j]=.ok (.int (if i<j then j else i)):=rfl
@[simp]theorem ZBm(i j):biD .min [.int i,.int j]=.ok (.int (if j<i then j else i)):=rfl
@[simp]theorem ZCD(i):biD .int [.int i]=.ok (.int i):=rfl
@[simp]theorem ZCE(i):biD .int [.bl i]=.ok (.int (b2i i)):=rfl
@[simp]theorem ZBq(i):biD .list [.lst i]=.ok (.lst i):=rfl
@[simp]theorem vZ(i):biD .list [.tup i]=.ok (.lst i):=rfl
@[simp]theorem ZwB(i):biD .tuple [.lst i]=.ok (.tup i):=rfl
@[simp]theorem ZwA(i):biD .tuple [.tup i]=.ok (.tup i):=rfl
@[simp]theorem ZC1(i):biD .all [.lst i]=(LZ i).bind λb=>.ok (.bl b):=rfl
@[simp]theorem ZC0(i):biD .any [.lst i]=(FU i).bind λb=>.ok (.bl b):=rfl
@[simp]theorem ZCZ(i):biD .any [.tup i]=(FU i).bind λb=>.ok (.bl b):=rfl
@[simp]theorem ZCk(i):biD .sum [.lst i]=(H9 0 i).bind λb=>.ok (.int b):=rfl
@[simp]theorem ZCj(i):biD .sum [.tup i]=(H9 0 i).bind λb=>.ok (.int b):=rfl
@[simp]theorem Zvs(i):biD .sorted [.lst i]=(Vs i).bind λb=>.ok (.lst b):=rfl
@[simp]theorem ZCl(xs k):biD .stp [.lst xs,.int k]=.ok (.lst (SG k.toNat xs)):=rfl
@[simp]theorem ZCp(xs):biD .rvs [.lst xs]=.ok (.lst xs.reverse):=rfl
@[simp]theorem ZBo(xs):biD .lset [.lst xs]=Ox xs:=rfl
@[simp]theorem ZAR(x y):biD .tmin [x,y]=mmD Ad x y:=rfl
@[simp]theorem ZB7(x y):biD .tlt [x,y]=Sw x y:=rfl
@[simp]theorem ZAS(x y):biD .tmax [x,y]=mmD Ab x y:=rfl
@[simp]theorem ZAb(xs x):biD .count [.lst xs,x]=if (flD 5 x&&xs.all (flD 5))=Ab then .ok (.int ((xs.filter λy=>eqD y x).length:Ag)) else .bad:=rfl
@[simp]theorem eA(xs lo hi):slD (.tup xs) lo hi=if (IA xs.length 0 lo==0&&IA xs.length xs.length hi==xs.length)=Ab then .bad else .ok (.tup (KR xs lo hi)):=rfl
@[simp]theorem ZDd(xs lo hi):slD (.lst xs) lo hi=.ok (.lst (KR xs lo hi)):=rfl
@[simp]theorem Zxc(d):slE .non d=.ok Ae:=rfl
@[simp]theorem Zxd(k i):slE (.int k) (.int i)=.ok (Aa i):=rfl
@[simp]theorem Zxb(k i):slE (.var k) (.int i)=.ok (Aa i):=rfl
@[simp]theorem Zxe(op a b i):slE (.bin op a b) (.int i)=.ok (Aa i):=rfl
@[simp]theorem ZAZ(op a i):slE (.un op a) (.int i)=.ok (Aa i):=rfl
@[simp]theorem ZA0(b as i):slE (.bi b as) (.int i)=.ok (Aa i):=rfl
@[simp]theorem Zy4(up ks):D6 up ks .non=if ks.any Em=Ab then .bad else .ok (.bl (ks.any λk=>kiD up k .non)):=rfl
@[simp]theorem ZBs(up ks b):D6 up ks (.bl b)=if ks.any Em=Ab then .bad else .ok (.bl (ks.any λk=>kiD up k (.bl b))):=rfl
@[simp]theorem Zy6(up ks b):D6 up ks (.int b)=if ks.any Em=Ab then .bad else .ok (.bl (ks.any λk=>kiD up k (.int b))):=rfl
@[simp]theorem Zy3(up ks b):D6 up ks (.str b)=if ks.any Em=Ab then .bad else .ok (.bl (ks.any λk=>kiD up k (.str b))):=rfl
@[simp]theorem Zy2(up ks b):D6 up ks (.tup b)=if ks.any Em=Ab then .bad else .ok (.bl (ks.any λk=>kiD up k (.tup b))):=rfl
@[simp]theorem Zy5(up ks b):D6 up ks (.lst b)=if ks.any Em=Ab then .bad else .ok (.bl (ks.any λk=>kiD up k (.lst b))):=rfl
@[simp]theorem Zy7(up ks c f):D6 up ks (.exc c f)=if ks.all Em=Ab then .ok (.bl (ks.any λk=>kiD up k (.exc c f))) else .bad:=rfl
@[simp]theorem Zwh(c):Em (.cls c)=Ab:=rfl
@[simp]theorem Zut:Em .verr=Ab:=rfl
@[simp]theorem Zwg:Em .int=Ad:=rfl
@[simp]theorem Zuv:Em .bool=Ad:=rfl
@[simp]theorem Zwf:Em .str=Ad:=rfl
@[simp]theorem Zuu:Em .list=Ad:=rfl
@[simp]theorem Zrz:Em .tuple=Ad:=rfl
@[simp]theorem Zru(up i):kiD up .int (.int i)=Ab:=rfl
@[simp]theorem Zrt(up):kiD up .int .non=Ad:=rfl
@[simp]theorem Zp0(up i):kiD up .bool (.int i)=Ad:=rfl
@[simp]theorem Zrs(up i):kiD up .int (.tup i)=Ad:=rfl
@[simp]theorem Zrw(up i):kiD up .bool (.bl i)=Ab:=rfl
@[simp]theorem ZpZ(up):kiD up .bool .non=Ad:=rfl
@[simp]theorem ZpY(up i):kiD up .list (.lst i)=Ab:=rfl
@[simp]theorem ZnE(up i):kiD up .tuple (.tup i)=Ab:=rfl
@[simp]theorem ZnF(up):kiD up .tuple .non=Ad:=rfl
@[simp]theorem Zrv(up c k f):kiD up (.cls c) (.exc k f)=(up k).contains c:=rfl
@[simp]theorem ZpX(up k f):kiD up .verr (.exc k f)=Ab:=rfl
theorem kX(xs:Ac D)(k:Ag)(h:k<xs.length):DA xs (k:Af)=.ok (xs[k]):=by
 unfold DA plD;have h1:(0:Af)<=k:=Int.natCast_nonneg k;have h2:(k:Af)<(xs.length:Ag):=by omega
 rw[Ax h1,Ax h2];simp[h]
theorem Qi{xs:Ac D}{i:Af}{d:D}(h0:0<=i)(h:xs[i.toNat]?=Aa d):DA xs i=.ok d:=by
 unfold DA plD;obtain⟨h1,_⟩:=A2.mp h;rw[Ax h0,Ax (by omega)]
 dsimp only;rw[h]
section
variable(Z:Gam)(U:Rho)
@[simp]theorem ZvS:evSs Z U .nil=.next U:=rfl
noncomputable def Gj(Z:Gam)(ss:Ss)(o:O):O:=o.seq λU'=>evSs Z U' ss
@[simp]theorem MC(s ss):evSs Z U (.cons s ss)=Gj Z ss (evS Z U s):=rfl
@[simp]theorem Zzl(ss):Gj Z ss (.next U)=evSs Z U ss:=rfl
@[simp]theorem ZBC(ss d b):Gj Z ss (.ret d b)=.ret d b:=rfl
@[simp]theorem ZBF(ss):Gj Z ss (.brk U)=.brk U:=rfl
@[simp]theorem Zzm(ss):Gj Z ss (.cont U)=.cont U:=rfl
@[simp]theorem ZBE(ss x):Gj Z ss (.exn x U)=.exn x U:=rfl
@[simp]theorem ZBG(ss):Gj Z ss .bad=.bad:=rfl
@[simp]theorem ZBD(ss)(c:Prop)[Gm c](a b:O):Gj Z ss (if c then a else b)=if c then Gj Z ss a else Gj Z ss b:=by split<;>rfl
@[simp]theorem vQ(o:O):Gj Z .nil o=o:=by cases o<;>rfl
noncomputable def BK(Z:Gam)(t:Ag)(body:Ss):D->Rho->O:=λx U'=>evSs Z (U'.set t (Aa (x,Ad))) body
noncomputable def whC(Z:Gam)(c:E):Rho->R Ai:=λU'=>(top U' c (evE Z U' c)).bind BN
noncomputable def whB(Z:Gam)(body:Ss):Rho->O:=λU'=>evSs Z U' body
noncomputable def SR(Z:Gam)(t:Ag)(body:Ss)(U:Rho)(r:R (Ac D)):O:=O.of U r λxs=>CY (BK Z t body) xs U
@[simp]theorem QP(t body xs):SR Z t body U (.ok xs)=CY (BK Z t body) xs U:=rfl
@[simp]theorem ZvW:evS Z U .pass=.next U:=rfl
@[simp]theorem ZzB(i e):evS Z U (.asg i Ad e)=O.of U (evE Z U e) λd=>.next (U.set i (Aa (d,Ad))):=rfl
@[simp]theorem ZvX(e):evS Z U (.expr e)=O.of U (evE Z U e) λ_=>.next U:=rfl
@[simp]theorem sF(e):evS Z U (.ret e)=O.of U (top U e (evE Z U e)) λd=>.ret d (DR Z e||(match e with | .var i=>(match U[i]? with|some (Aa (_,o))=>o|_=>Ad)|_=>Ad)):=rfl
@[simp]theorem ZvU:evS Z U .retN=.ret .non Ad:=rfl
@[simp]theorem Zzx(c a b):evS Z U (.ife c a b)=O.of U ((top U c (evE Z U c)).bind BN) λk=>if k=Ab then evSs Z U a else evSs Z U b:=rfl
@[simp]theorem Qk(t it body):evS Z U (.fors t it body)=SR Z t body U (Fn Z U it):=rfl
noncomputable def Jh(Z:Gam)(ts:Ac Ag)(body:Ss):D->Rho->O:=λx U'=>O.of U' (GU ts x U') λU''=>evSs Z U'' body
noncomputable def X6(Z:Gam)(ts:Ac Ag)(body:Ss)(U:Rho)(r:R (Ac D)):O:=O.of U r λxs=>CY (Jh Z ts body) xs U
@[simp]theorem U_6(t body xs):X6 Z t body U (.ok xs)=CY (Jh Z t body) xs U:=rfl
@[simp]theorem Va(t it body):evS Z U (.forT t it body)=X6 Z t body U (Fn Z U it):=rfl
@[simp]theorem ZvZ(ts e):evS Z U (.asgT ts e)=O.of U (evE Z U e) λd=>O.of U (Hj ts d U) λU'=>.next U':=rfl
theorem lB(i e):evS Z U (.asg i Ab e)=O.of U (evE Z U e) λd=>if DR Z e=Ab then (match d with
      |.lst xs=>.next (U.set i (Aa (.lst xs,Ab)))
      |.dic xs=>.next (U.set i (Aa (.dic xs,Ab)))
      | _=>.bad) else .bad:=rfl
noncomputable def setF(U:Rho)(i:Ag):D->O
 |.lst xs=>.next (U.set i (Aa (.lst xs,Ab)))
 |.dic xs=>.next (U.set i (Aa (.dic xs,Ab)))
 |_=>.bad
@[simp]theorem ZA8(i xs):setF U i (.lst xs)=.next (U.set i (Aa (.lst xs,Ab))):=rfl
@[simp]theorem ZA9(i xs):setF U i (.dic xs)=.next (U.set i (Aa (.dic xs,Ab))):=rfl
@[simp]theorem iB(i e):evS Z U (.asg i Ab e)=O.of U (evE Z U e) λd=>if DR Z e=Ab then setF U i d else .bad:=by
 rw[lB]
 congr 1
@[simp]theorem ZzC(i e):evS Z U (.app i e)=O.of U (Cw U i) λxs=>O.of U (evE Z U e) λd=>if Dz (xs.length+1)=Ab then .next (U.set i (Aa (.lst (xs++[d]),Ab))) else .bad:=rfl
@[simp]theorem Zzy(i e):evS Z U (.ext i e)=O.of U (Cw U i) λxs=>O.of U (evE Z U e) λd=>O.of U (RW d) λys=>if Dz (xs.length+ys.length)=Ab then .next (U.set i (Aa (.lst (xs++ys),Ab))) else .bad:=rfl
@[simp]theorem Zzw(i):evS Z U (.rev i)=O.of U (Cw U i) λxs=>.next (U.set i (Aa (.lst xs.reverse,Ab))):=rfl
@[simp]theorem Zzz(i):evS Z U (.clr i)=O.of U (Cw U i) λ_=>.next (U.set i (Aa (.lst [],Ab))):=rfl
theorem QQ(i k e):evS Z U (.put i k e)=O.of U (evE Z U e) λd=>O.of U (Cw U i) λxs=>O.of U ((top U k (evE Z U k)).bind D3) λj=>match plD xs.length j with
      |some n=>.next (U.set i (Aa (.lst (xs.set n d),Ab)))
      |none=>.bad:=rfl
theorem sE(i k l):evS Z U (.swp i k l)=O.of U (evE Z U (.tup (.cons (.idx (.var i) (.var l)) (.cons (.idx (.var i) (.var k)) .nil)))) λd=>OZ U d i k l:=rfl
theorem lE(j i e):evS Z U (.apop j i e)=O.of U (Cw U j) λys=>O.of U (Cw U i) λxs=>O.of U (evE Z U e) λd=>O.of U (D3 d) λn=>apD U j i ys xs n:=rfl
theorem VT(i):evS Z U (.rel i)=match U[i]? with
      |some (Aa (d,Ab))=>.next (U.set i (Aa (d,Ad)))
      |_=>.next U:=rfl
@[simp]theorem lA(body c x h):evS Z U (.tryx body c x h)=match evSs Z U body with
      | .exn y U'=>if (Z.up y.c).contains c=Ab then (match evSs Z (U'.set x (Aa (.exc y.c y.fs,Ad))) h with
          |.next U''=>.next (U''.set x Ae)
          |.ret d f=>.ret d f
          | _=>.bad) else .bad
      |o=>o:=rfl
@[simp]theorem ZvT(body c x h c' h' els):evS Z U (.try2 body c x h c' h' els)=match evSs Z U body with
      |.exn y U'=>if (Z.up y.c).contains c=Ab then hdO x y U' (λr=>evSs Z r h) else if (Z.up y.c).contains c'=Ab then hdO x y U' (λr=>evSs Z r h') else .bad
      |.next U'=>evSs Z U' els
      |o=>o:=rfl
@[simp]theorem Zzv(c body):evS Z U (.whl c body)=R6 (whC Z c) (whB Z body) X5 U:=rfl
@[simp]theorem ZvV(c as):evS Z U (.rais c as)=O.of U (noX (evA Z U as)) λxs=>O.of U (Z.xn c xs) λx=>.exn x U:=rfl
@[simp]theorem ZzA:evS Z U .brk=.brk U:=rfl
@[simp]theorem ZvY:evS Z U .cont=.cont U:=rfl
end
end Ov
namespace Ov
open PySem
theorem U_7{body:D->Rho->O}(P:Rho->Prop):∀(xs:Ac D)(U:Rho),P U->(∀ x∈xs,∀ U,P U->∃ U',body x U=.next U'/\P U')->∃ U',CY body xs U=.next U'/\P U'
 |[],U,h,_=>⟨U,rfl,h⟩
 |x::xs,U,h,k=>by
  obtain⟨U1,e1,h1⟩:=k x Ay U h;obtain⟨U2,e2,h2⟩:=U_7 P xs U1 h1 λy hy=>k y (Aw _ hy)
  exact⟨U2,by show (body x U).turn _=_;rw[e1];exact e2,h2⟩
theorem lU(h:x∈Cb lo n):∃ k:Ag,k<n/\x=.int (lo+(k:Af)):=by
 obtain⟨k,hk,e⟩:=C7.mp h;exact⟨k,Bp.mp hk,e.symm⟩
theorem Ll(lo:Af)(n:Ag):(Cb lo n).length=n:=by simp[Cb]
theorem U_5{i:Ag}(h:(Cb lo n)[i]?=Aa x):i<n/\x=.int (lo+(i:Af)):=by
 have hl:=(A2.mp h).1;rw[Ll]at hl;unfold Cb at h;rw[DY,List.getElem?_range hl]at h;cases h;exact⟨hl,rfl⟩
noncomputable def Ss.take:Ag->Ss->Ss
 |0,_=>.nil
 |_,.nil=>.nil
 |n+1,.cons s ss=>.cons s (ss.take n)
noncomputable def Ss.drop:Ag->Ss->Ss
 |0,ss=>ss
 |_,.nil=>.nil
 |n+1,.cons _ ss=>ss.drop n
theorem U_9(Z:Gam):∀(n:Ag)(ss:Ss)(U:Rho),evSs Z U ss=Gj Z (ss.drop n) (evSs Z U (ss.take n))
 |0,_,_=>rfl
 |_+1,.nil,_=>rfl
 |n+1,.cons s ss,U=>by
  show (evS Z U s).seq (λU'=>evSs Z U' ss)=Gj Z (ss.drop n) ((evS Z U s).seq λU'=>evSs Z U' (ss.take n))
  cases evS Z U s with
  |next U'=>exact U_9 Z n ss U'
  |_=>rfl
end Ov
end
section
namespace Ov
noncomputable def xfD:Ag->D->Ai
 |0,.int i=>decide (0<=i)&&decide (i<100)
 |n+1,.tup ds=>C2 ds.length 8&&ds.all (xfD n)
 |_,_=>Ad
noncomputable def mkX(c:Ag)(f:PySem.Str):Ac D->R Ex
 |[d]=>if (xfD 1 d||xfD 2 d)=Ab then .ok ⟨c,[(f,d)]⟩ else .bad
 |_=>.bad
end Ov
end
section
namespace OvC
open PySem Ov PyProof.Rows
variable{j:Af}
noncomputable abbrev scr(ns:Ac Af):D:=.lst (ns.map .int)
noncomputable abbrev sh(d:D):Sl:=Aa (d,Ad)
noncomputable abbrev si(i:Af):Sl:=Aa (.int i,Ad)
theorem four{P:Ag->Prop}(h0:P 0)(h1:P 1)(h2:P 2)(h3:P 3):P (j%4).toNat:=by
 have:(j%4).toNat=0\/(j%4).toNat=1\/(j%4).toNat=2\/(j%4).toNat=3:=by omega
 rcases this with e|e|e|e<;>rw[e]<;>assumption
def P4(p:Af):Prop:=p=3\/p=5\/p=7\/p=11
noncomputable def pr4(j:Af):Af:=[3,5,7,11].getD (j%4).toNat 0
theorem tM(j):P4 (pr4 j):=by
 unfold pr4;exact four (P:=λj=>P4 ([3,5,7,11].getD j 0)) (.inl rfl) (.inr (.inl rfl)) (.inr (.inr (.inl rfl))) (.inr (.inr (.inr rfl)))
theorem P4.pos{p}(h:P4 p):0<p:=by rcases h with rfl|rfl|rfl|rfl<;>decide
theorem P4.lo{p}(h:P4 p):3<=p:=by rcases h with rfl|rfl|rfl|rfl<;>decide
theorem P4.hi{p}(h:P4 p):p<=11:=by rcases h with rfl|rfl|rfl|rfl<;>decide
theorem kW(j:Af):DA [.int 3,.int 5,.int 7,.int 11] (j%4)=.ok (.int (pr4 j)):=by
 have h:=four (P:=λj=>[D.int 3,D.int 5,D.int 7,D.int 11][j]?=Aa (D.int ([3,5,7,11].getD j 0))) (j:=j) rfl rfl rfl rfl
 exact Qi (by omega) h
theorem IZ{i:Af}(h0:-18446744073709551616<i)(h1:i<18446744073709551616):D4 i j=Ab:=by simp[D4];left;exact⟨h0,h1⟩
theorem QC{i:Af}(h0:-18446744073709551616<j)(h1:j<18446744073709551616):D4 i j=Ab:=by simp[D4];right;exact⟨h0,h1⟩
noncomputable def Re:Df:=⟨2,Ad,(.cons (.ret (.bin .Mod (.var 1) (.var 0))) .nil)⟩
def KB(Z:Gam):Prop:=∀ p n:Af,0<p->Z.F 1 [.int p,.int n]=.ok (.int (n%p))
theorem uA(Z:Gam)(p n:Af)(h:0<p):Re.run Z [.int p,.int n]=.ok (.int (n%p)):=by simp[Re,Df.run,By,h]
end OvC
end
namespace Ov
open PySem PySem.Spec PyProof.Rows L2
variable{A B:Al->Prop}{H H' H1 H0:Hp}{a b l q:Al}{xs ys vs:Ac V}{v:V}{d:D}{Rp Rq:Hp->V->D->Prop}{r:R D}{Q:VK}{X:Cx}{e c tg iter elt:Am}{U:Rho}{i n j k:Ag}{x:Ex}{Y:L2.St}{g:D->D->R D}{op:Dg}{K:Fg}{pI:Pn}{s:Ap}{items2 its items:Ba Aj}{h h' h2:AD}{u:Aj}{its2:Ac Aj}{es ifs:Ac Am}{fs fi:Rho->R (Ac D)}{Q':Ao Af->Hp->Prop}{p pos' p2 pos pos2 tpos:AG}{T:Da}{f fc:Rho->R Ai}{α:Type}{Fz:Al->HO->Prop}{D':Ends}{lo:Af}{as:D->Rho->R Rho}{up:Ag->Ac Ag}{prog P:AK}{w:AZ}{scope:B5}{env:B8}{cl:Ac (Ah×Al)}{N':Ac Ah}{ts:Ac Ag}{fp:Ac Al}{tt:TT}{te:TE}{J:It}{wi:TI}{t:Ai}{ta:TA}
abbrev ClA:=Ag->Ao Al
variable{CL:ClA}
def KL(K:Fg)(a:Al)(xs:Ac V):Prop:=∃(o:CU)(its:Ba Aj)(n:Ag),K.lookup a=Aa o/\o.cls=.type "list"/\o.dict=Ae/\o.data=.seq its n/\its.size<=sizeLine/\A8 xs its.toList
def KT(K:Fg)(a:Al)(xs:Ac V):Prop:=∃(o:CU)(its:Ba Aj)(n:Ag),K.lookup a=Aa o/\o.cls=.type "tuple"/\o.data=.seq its n/\its.size<=sizeLine/\A8 xs its.toList
section
variable(K:Fg)(CL:ClA)(H:Hp)(A:Al->Prop)
mutual
def Rep:V->D->Prop
 |v,.non=>v=.non
 |v,.bl b=>v=.bl b
 |v,.int i=>v=.int i
 |v,.str x=>v=.str x
 |v,.tup ds=>∃ a xs,v=.ref a/\(¬ A a\/KT K a xs)/\SqT K H a xs/\Reps xs ds
 |v,.lst ds=>∃ a xs,v=.ref a/\(¬ A a\/KL K a xs)/\SqL K H a xs/\Reps xs ds
 |v,.obj c fs=>∃ a C dx vs,v=.ref a/\¬ A a/\CL c=Aa C/\H a=Aa (.ins C dx vs)/\Repf vs fs
 |_,.dic _=>AV
 |v,.exc c fs=>∃ a C φ,v=.ref a/\¬ A a/\CL c=Aa C/\H a=Aa (.ext φ)/\(∀ h,φ h->∃ o,h.get? a=Aa o/\o.cls=.ref C)/\(fs=[]\/∃ dx vs,¬ A dx/\H dx=Aa (.xd vs)/\Repf vs fs/\∀ h,φ h->∃ o,h.get? a=Aa o/\o.dict=Aa dx/\∃ us,o.data=.fields us)
def Reps:Ac V->Ac D->Prop
 |[],[]=>HM
 |v::vs,d::ds=>Rep v d/\Reps vs ds
 |_,_=>AV
def Repf:Ac (Ah×V)->Ac (Ah×D)->Prop
 |[],[]=>HM
 |v::vs,d::ds=>Repp v d/\Repf vs ds
 |_,_=>AV
def Repp:Ah×V->Ah×D->Prop
 |v,(n,d)=>v.1=n/\Rep v.2 d
end
def CN(v:V)(d:D):Prop:=Rep K CL H A v d\/∃ a xs ds,v=.ref a/\d=.lst ds/\H a=Aa (.lst xs)/\Reps K CL H A xs ds
end
def Kp(A:Al->Prop)(H H':Hp):Prop:=∀ b o,H b=Aa o->¬ A b->H' b=Aa o
def AOk(H:Hp)(A:Al->Prop):Prop:=∀ a,A a->∃ xs,H a=Aa (.lst xs)
theorem Kp.of(h:AE H H'):Kp A H H':=λb o e _=>h b o e
theorem AOk.same(h:AOk H A)(s:AE H H'):AOk H' A:=λa ha=>let ⟨xs,e⟩:=h a ha;⟨xs,s _ _ e⟩
theorem AOk.new{p:Al}(h:AOk H A)(e:H p=Ae):¬ A p:=λha=>by
 obtain⟨xs,q⟩:=h p ha;rw[e]at q;cases q
section
variable{K:Fg}{CL:ClA}{H H':Hp}{A B:Al->Prop}
theorem Xp{u:HO}(k:Kp A H H')(na:¬ A a)(h:Rd H a u):Rd H' a u:=by
 rcases h with h|⟨o,h⟩
 .exact .inl (k _ _ h na)
 .exact .inr ⟨o,k _ _ h na⟩
theorem On(k:Kp A H H')(na:¬ A a\/KL K a xs)(h:SqL K H a xs):SqL K H' a xs:=na.elim (λna=>h.imp (Xp k na) id) .inr
theorem Om(k:Kp A H H')(na:¬ A a\/KT K a xs)(h:SqT K H a xs):SqT K H' a xs:=na.elim (λna=>h.imp (Xp k na) id) .inr
mutual
theorem Rep.kp(k:Kp A H H'):∀{v:V}(d:D),Rep K CL H A v d->Rep K CL H' A v d
 |_,.non,h=>h
 |_,.bl _,h=>h
 |_,.int _,h=>h
 |_,.str _,h=>h
 |_,.dic _,h=>h.elim
 |_,.tup ds,h=>by
  obtain⟨a,xs,e,na,s,r⟩:=h;exact⟨a,xs,e,na,by first|exact Om k na s|exact On k na s,Reps.kp k ds r⟩
 |_,.lst ds,h=>by
  obtain⟨a,xs,e,na,s,r⟩:=h;exact⟨a,xs,e,na,by first|exact Om k na s|exact On k na s,Reps.kp k ds r⟩
 |_,.obj c fs,h=>by
  obtain⟨a,C,dx,vs,e,na,c,s,r⟩:=h;exact⟨a,C,dx,vs,e,na,c,k _ _ s na,Repf.kp k fs r⟩
 |_,.exc c fs,h=>by
  obtain⟨a,C,φ,e,na,c,s,p,q⟩:=h;refine⟨a,C,φ,e,na,c,k _ _ s na,p,q.imp id ?_⟩;rintro⟨dx,vs,nx,s2,r,z⟩;exact⟨dx,vs,nx,k _ _ s2 nx,Repf.kp k fs r,z⟩
theorem Reps.kp(k:Kp A H H'):∀{vs:Ac V}(ds:Ac D),Reps K CL H A vs ds->Reps K CL H' A vs ds
 |[],[],h=>h
 |_::_,d::ds,h=>⟨Rep.kp k d h.1,Reps.kp k ds h.2⟩
 |[],_::_,h=>h.elim
 |_::_,[],h=>h.elim
theorem Repf.kp(k:Kp A H H'):∀{vs:Ac (Ah×V)}(ds:Ac (Ah×D)),Repf K CL H A vs ds->Repf K CL H' A vs ds
 |[],[],h=>h
 |_::_,d::ds,h=>⟨Repp.kp k d h.1,Repf.kp k ds h.2⟩
 |[],_::_,h=>h.elim
 |_::_,[],h=>h.elim
theorem Repp.kp(k:Kp A H H'):∀{v:Ah×V}(d:Ah×D),Repp K CL H A v d->Repp K CL H' A v d
 |_,(_,d),h=>⟨h.1,Rep.kp k d h.2⟩
end
mutual
theorem Rep.sub(k:∀ a,B a->A a):∀{v:V}(d:D),Rep K CL H A v d->Rep K CL H B v d
 |_,.non,h=>h
 |_,.bl _,h=>h
 |_,.int _,h=>h
 |_,.str _,h=>h
 |_,.dic _,h=>h.elim
 |_,.tup ds,h=>by
  obtain⟨a,xs,e,na,s,r⟩:=h;exact⟨a,xs,e,na.imp (λna z=>na (k _ z)) id,s,Reps.sub k ds r⟩
 |_,.lst ds,h=>by
  obtain⟨a,xs,e,na,s,r⟩:=h;exact⟨a,xs,e,na.imp (λna z=>na (k _ z)) id,s,Reps.sub k ds r⟩
 |_,.obj c fs,h=>by
  obtain⟨a,C,dx,vs,e,na,c,s,r⟩:=h;exact⟨a,C,dx,vs,e,λz=>na (k _ z),c,s,Repf.sub k fs r⟩
 |_,.exc c fs,h=>by
  obtain⟨a,C,φ,e,na,c,s,p,q⟩:=h;refine⟨a,C,φ,e,λz=>na (k _ z),c,s,p,q.imp id ?_⟩
  rintro⟨dx,vs,nx,s2,r,z⟩;exact⟨dx,vs,λz=>nx (k _ z),s2,Repf.sub k fs r,z⟩
theorem Reps.sub(k:∀ a,B a->A a):∀{vs:Ac V}(ds:Ac D),Reps K CL H A vs ds->Reps K CL H B vs ds
 |[],[],h=>h
 |_::_,d::ds,h=>⟨Rep.sub k d h.1,Reps.sub k ds h.2⟩
 |[],_::_,h=>h.elim
 |_::_,[],h=>h.elim
theorem Repf.sub(k:∀ a,B a->A a):∀{vs:Ac (Ah×V)}(ds:Ac (Ah×D)),Repf K CL H A vs ds->Repf K CL H B vs ds
 |[],[],h=>h
 |_::_,d::ds,h=>⟨Repp.sub k d h.1,Repf.sub k ds h.2⟩
 |[],_::_,h=>h.elim
 |_::_,[],h=>h.elim
theorem Repp.sub(k:∀ a,B a->A a):∀{v:Ah×V}(d:Ah×D),Repp K CL H A v d->Repp K CL H B v d
 |_,(_,d),h=>⟨h.1,Rep.sub k d h.2⟩
end
mutual
theorem Rep.wide(hp:∀ a,B a->A a\/H a=Ae):∀{v:V}(d:D),Rep K CL H A v d->Rep K CL H B v d
 |_,.non,h=>h
 |_,.bl _,h=>h
 |_,.int _,h=>h
 |_,.str _,h=>h
 |_,.dic _,h=>h.elim
 |_,.tup ds,h=>by
  obtain⟨a,xs,e,na,s,r⟩:=h;refine⟨a,xs,e,?_,s,Reps.wide hp ds r⟩;rcases s with s|s
  .refine na.imp (λna z=>(hp _ z).elim na λe=>?_) id
   rcases s with s|⟨o,s⟩<;>rw[e]at s<;>cases s
  .exact .inr s
 |_,.lst ds,h=>by
  obtain⟨a,xs,e,na,s,r⟩:=h;refine⟨a,xs,e,?_,s,Reps.wide hp ds r⟩;rcases s with s|s
  .refine na.imp (λna z=>(hp _ z).elim na λe=>?_) id
   rcases s with s|⟨o,s⟩<;>rw[e]at s<;>cases s
  .exact .inr s
 |_,.obj c fs,h=>by
  obtain⟨a,C,dx,vs,e,na,c,s,r⟩:=h;exact⟨a,C,dx,vs,e,(λz=>(hp _ z).elim na λe=>by rw[e]at s;cases s),c,s,Repf.wide hp fs r⟩
 |_,.exc c fs,h=>by
  obtain⟨a,C,φ,e,na,c,s,p,q⟩:=h;refine⟨a,C,φ,e,(λz=>(hp _ z).elim na λe=>by rw[e]at s;cases s),c,s,p,q.imp id ?_⟩
  rintro⟨dx,vs,nx,s2,r,z⟩;exact⟨dx,vs,(λz=>(hp _ z).elim nx λe=>by rw[e]at s2;cases s2),s2,Repf.wide hp fs r,z⟩
theorem Reps.wide(hp:∀ a,B a->A a\/H a=Ae):∀{vs:Ac V}(ds:Ac D),Reps K CL H A vs ds->Reps K CL H B vs ds
 |[],[],h=>h
 |_::_,d::ds,h=>⟨Rep.wide hp d h.1,Reps.wide hp ds h.2⟩
 |[],_::_,h=>h.elim
 |_::_,[],h=>h.elim
theorem Repf.wide(hp:∀ a,B a->A a\/H a=Ae):∀{vs:Ac (Ah×V)}(ds:Ac (Ah×D)),Repf K CL H A vs ds->Repf K CL H B vs ds
 |[],[],h=>h
 |_::_,d::ds,h=>⟨Repp.wide hp d h.1,Repf.wide hp ds h.2⟩
 |[],_::_,h=>h.elim
 |_::_,[],h=>h.elim
theorem Repp.wide(hp:∀ a,B a->A a\/H a=Ae):∀{v:Ah×V}(d:Ah×D),Repp K CL H A v d->Repp K CL H B v d
 |_,(_,d),h=>⟨h.1,Rep.wide hp d h.2⟩
end
theorem Rep.same(s:AE H H')(h:Rep K CL H A v d):Rep K CL H' A v d:=Rep.kp (Kp.of s) d h
theorem Reps.same{v:Ac V}{d:Ac D}(s:AE H H')(h:Reps K CL H A v d):Reps K CL H' A v d:=Reps.kp (Kp.of s) d h
theorem CN.same{v:V}{d:D}(s:AE H H')(h:CN K CL H A v d):CN K CL H' A v d:=by
 rcases h with h|⟨a,xs,ds,e,e2,q,r⟩
 .exact .inl (h.same s)
 .exact .inr ⟨a,xs,ds,e,e2,s _ _ q,r.same s⟩
theorem Reps.length:∀{vs:Ac V}{ds:Ac D},Reps K CL H A vs ds->vs.length=ds.length
 |[],[],_=>rfl
 |_::_,_::_,h=>congrArg (· + 1) (Reps.length h.2)
 |[],_::_,h=>h.elim
 |_::_,[],h=>h.elim
theorem Reps.append:∀{vs ws:Ac V}{ds es:Ac D},Reps K CL H A vs ds->Reps K CL H A ws es->Reps K CL H A (vs++ws) (ds++es)
 |[],_,[],_,_,h=>h
 |_::_,_,_::_,_,h,g=>⟨h.1,Reps.append h.2 g⟩
 |[],_,_::_,_,h,_=>h.elim
 |_::_,_,[],_,h,_=>h.elim
theorem Reps.get:∀{vs:Ac V}{ds:Ac D}{i:Ag}{d:D},Reps K CL H A vs ds->ds[i]?=Aa d->∃ v,vs[i]?=Aa v/\Rep K CL H A v d
 |[],[],_,_,_,e=>by simp at e
 |v::_,_::_,0,_,h,e=>by simp at e;subst e;exact⟨v,rfl,h.1⟩
 |_::_,_::_,i+1,_,h,e=>by
  obtain⟨v,q,r⟩:=Reps.get (i:=i) h.2 (by simpa using e)
  exact⟨v,by simpa using q,r⟩
 |[],_::_,_,_,h,_=>h.elim
 |_::_,[],_,_,h,_=>h.elim
theorem Reps.take:∀{vs:Ac V}{ds:Ac D}(n:Ag),Reps K CL H A vs ds->Reps K CL H A (vs.take n) (ds.take n)
 |_,_,0,_=>trivial
 |[],[],_+1,_=>trivial
 |_::_,_::_,n+1,h=>⟨h.1,Reps.take n h.2⟩
 |[],_::_,_+1,h=>h.elim
 |_::_,[],_+1,h=>h.elim
theorem Reps.drop:∀{vs:Ac V}{ds:Ac D}(n:Ag),Reps K CL H A vs ds->Reps K CL H A (vs.drop n) (ds.drop n)
 |_,_,0,h=>h
 |[],[],_+1,_=>trivial
 |_::_,_::_,n+1,h=>Reps.drop n h.2
 |[],_::_,_+1,h=>h.elim
 |_::_,[],_+1,h=>h.elim
theorem Reps.set{x:V}{e:D}(r:Rep K CL H A x e):∀{vs:Ac V}{ds:Ac D}(n:Ag),Reps K CL H A vs ds->Reps K CL H A (vs.set n x) (ds.set n e)
 |[],[],_,_=>trivial
 |_::_,_::_,0,h=>⟨r,h.2⟩
 |_::_,_::_,n+1,h=>⟨h.1,Reps.set r n h.2⟩
 |[],_::_,_,h=>h.elim
 |_::_,[],_,h=>h.elim
end
structure Good (K:Fg) (CL:ClA) (A:Al->Prop) (U:Rho) (Y:L2.St) (H:Hp):Prop where
 sh:∀(i:Ag)(d:D),U[i]?=Aa (Aa (d,Ad))->∃ v,Y[i]?=Aa (Aa v)/\Rep K CL H A v d
 ow:∀(i:Ag)(d:D),U[i]?=Aa (Aa (d,Ab))->∃ a xs ds,Y[i]?=Aa (Aa (.ref a))/\d=.lst ds/\A a/\H a=Aa (.lst xs)/\Reps K CL H A xs ds
 len:U.length=Y.length
theorem Good.same{K:Fg}{CL:ClA}{A:Al->Prop}{U:Rho}{Y:L2.St}{H H':Hp}(g:Good K CL A U Y H)(s:AE H H'):Good K CL A U Y H':=
 ⟨λi d e=>let ⟨v,q,r⟩:=g.sh i d e;⟨v,q,r.same s⟩,λi d e=>let ⟨a,xs,ds,q,z,na,h,r⟩:=g.ow i d e;⟨a,xs,ds,q,z,na,s _ _ h,r.same s⟩,g.len⟩
abbrev XW:=Ex->Hp->Prop
variable{W:XW}
def Bb(Rp:Hp->V->D->Prop)(W:XW)(H:Hp)(r:R D)(Q:VK):Prop:=match r with
  |.ok d=>∀ v H',AE H H'->Rp H' v d->Q v H'
  |.exn x=>∀ H',AE H H'->W x H'
  |.bad=>AV
def HU(Rp:Hp->Ac V->Ac D->Prop)(W:XW)(H:Hp)(r:R (Ac D))(Q:Ac V->Hp->Prop):Prop:=match r with
  |.ok d=>∀ v H',AE H H'->Rp H' v d->Q v H'
  |.exn x=>∀ H',AE H H'->W x H'
  |.bad=>AV
def Dj(W:XW)(H:Hp)(r:R Ai)(Q:Ai->Hp->Prop):Prop:=match r with
  |.ok b=>∀ H',AE H H'->Q b H'
  |.exn x=>∀ H',AE H H'->W x H'
  |.bad=>AV
theorem Bb.same(s:AE H H')(h:Bb Rp W H r Q):Bb Rp W H' r Q:=by
 cases r with
 |ok d=>exact λv H2 s2 q=>h v H2 (s.trans s2) q
 |exn x=>exact λH2 s2=>h H2 (s.trans s2)
 |bad=>exact h
theorem Dj.same{r:R Ai}{Q:Ai->Hp->Prop}(s:AE H H')(h:Dj W H r Q):Dj W H' r Q:=by
 cases r with
 |ok d=>exact λH2 s2=>h H2 (s.trans s2)
 |exn x=>exact λH2 s2=>h H2 (s.trans s2)
 |bad=>exact h
theorem Bb.bind{f:D->R D}{Q':VK}(h:Bb Rq W H (r.bind f) Q)(k:∀ d v H',r=.ok d->AE H H'->Rp H' v d->Bb Rq W H' (f d) Q->Q' v H'):Bb Rp W H r Q':=by
 cases r with
 |ok d=>exact λv H2 s2 q=>k d v H2 rfl s2 q (Bb.same s2 h)
 |exn x=>exact h
 |bad=>exact h
section
variable(X:Cx)(CL:ClA)(W:XW)
def SE(e:Am)(f:Rho->R D):Prop:=∀ A,PE X e (λY H Q=>AOk H A/\∃ U,Good X.K CL A U Y H/\Bb (λH=>Rep X.K CL H A) W H (f U) Q)
def ST(e:Am)(f:Rho->R D):Prop:=∀ A,PE X e (λY H Q=>AOk H A/\∃ U,Good X.K CL A U Y H/\Bb (λH=>CN X.K CL H A) W H (f U) Q)
def SB(e:Am)(f:Rho->R Ai):Prop:=∀ A,PT X e (λY H Q=>AOk H A/\∃ U,Good X.K CL A U Y H/\Dj W H (f U) Q)
def SA(es:Ac Am)(f:Rho->R (Ac D)):Prop:=∀ A,PA X es (λY H Q=>AOk H A/\∃ U,Good X.K CL A U Y H/\HU (λH=>Reps X.K CL H A) W H (f U) Q)
end
theorem PE.weak{t t':TE}(h:PE X e t)(k:∀ Y H Q,t' Y H Q->t Y H Q):PE X e t':=λpI s Y H Q I q=>h pI s Y H Q I (k _ _ _ q)
theorem PT.weak{t t':TT}(h:PT X e t)(k:∀ Y H Q,t' Y H Q->t Y H Q):PT X e t':=λpI s Y H Q I q=>h pI s Y H Q I (k _ _ _ q)
theorem PA.weak{e:Ac Am}{t t':TA}(h:PA X e t)(k:∀ Y H Q,t' Y H Q->t Y H Q):PA X e t':=λpos pI s Y H Q I q=>h pos pI s Y H Q I (k _ _ _ q)
noncomputable def OpD(X:Cx)(CL:ClA)(W:XW)(f:Aj->Aj->GN Aj)(g:D->D->R D):Prop:=
 ∀ A,OpR X f (λx y H Q=>AOk H A/\∃ dx dy,CN X.K CL H A x dx/\CN X.K CL H A y dy/\Bb (λH=>Rep X.K CL H A) W H (g dx dy) Q)
section
variable{X:Cx}{CL:ClA}{W:XW}{a b c:Am}{fa fb fc:Rho->R D}{pos:AG}
theorem SE.st(h:SE X CL W a fa):ST X CL W a fa:=λA=>PE.weak (h A) λY H Q ⟨hA,U,g,p⟩=>⟨hA,U,g,by
 cases e:fa U with
 |ok d=>rw[e]at p;exact λv H' s r=>p v H' s (.inl r)
 |exn x=>rw[e]at p;exact p
 | bad=>rw[e]at p;exact p⟩
theorem SE.congr{f g:Rho->R D}(h:SE X CL W a f)(e:∀ U,g U=f U):SE X CL W a g:=λA=>PE.weak (h A) λY H Q ⟨hA,U,q,p⟩=>⟨hA,U,q,by rw[<-e];exact p⟩
theorem Ou(h:PE X a (tC v))(r:∀ H A,AOk H A->Rep X.K CL H A v d):SE X CL W a (λ_=>.ok d):=λA=>PE.weak h λY H Q ⟨hA,U,g,p⟩=>p v H (AE.refl H) (r H A hA)
theorem vC{i j}:SE X CL W (.Constant (.int i) j pos) (λ_=>.ok (.int i)):=Ou wQ λ_ _ _=>rfl
theorem Xv{b j}:SE X CL W (.Constant (.bool b) j pos) (λ_=>.ok (.bl b)):=Ou fg λ_ _ _=>rfl
theorem uW{j}:SE X CL W (.Constant .none j pos) (λ_=>.ok .non):=Ou wN λ_ _ _=>rfl
theorem WZ{x j}:SE X CL W (.Constant (.str x) j pos) (λ_=>.ok (.str x)):=Ou Wr λ_ _ _=>rfl
theorem nV(h:E2 U i=.ok d):U[i]?=Aa (Aa (d,Ad)):=by
 unfold E2 at h;split at h
 .rename_i e;cases h;exact e
 .cases h
theorem VD(h:Dk U i=.ok d):∃ o,U[i]?=Aa (Aa (d,o)):=by
 unfold Dk at h;split at h
 .rename_i e;cases h;exact⟨_,e⟩
 .cases h
theorem jA(h:E2 U i=.exn x):AV:=by
 unfold E2 at h;split at h<;>cases h
theorem UY(h:Dk U i=.exn x):AV:=by
 unfold Dk at h;split at h<;>cases h
theorem WX(h:PE X a (EB i)):SE X CL W a (λU=>E2 U i):=λA=>PE.weak h λY H Q ⟨hA,U,g,p⟩=>by
 dsimp only at p;cases e:E2 U i with
 |ok d=>
  rw[e]at p;obtain⟨v,q,r⟩:=g.sh i d (nV e);exact⟨v,q,p v H (AE.refl H) r⟩
 |exn x=>exact(jA e).elim
 |bad=>rw[e]at p;exact p.elim
theorem KG(h:PE X a (EB i)):ST X CL W a (λU=>Dk U i):=λA=>PE.weak h λY H Q ⟨hA,U,g,p⟩=>by
 dsimp only at p;cases e:Dk U i with
 |ok d=>
  rw[e]at p;obtain⟨o,e⟩:=VD e;cases o with
  |false=>
   obtain⟨v,q,r⟩:=g.sh i d e;exact⟨v,q,p v H (AE.refl H) (.inl r)⟩
  |true=>
   obtain⟨x,xs,ds,q,rfl,ha,hh,r⟩:=g.ow i d e;exact⟨_,q,p _ H (AE.refl H) (.inr ⟨x,xs,ds,rfl,rfl,hh,r⟩)⟩
 |exn x=>exact(UY e).elim
 |bad=>rw[e]at p;exact p.elim
theorem op2(h:AOk H A/\∃ U,Good X.K CL A U Y H/\Bb Rq W H ((fa U).bind λx=>(fb U).bind λy=>g x y) Q):AOk H A/\∃ U,Good X.K CL A U Y H/\Bb (λH=>CN X.K CL H A) W H (fa U) (λx H1=>AOk H1 A/\∃ U,Good X.K CL A U Y H1/\Bb (λH=>CN X.K CL H A) W H1 (fb U) (λy H2=>AOk H2 A/\∃ dx dy,CN X.K CL H2 A x dx/\CN X.K CL H2 A y dy/\Bb Rq W H2 (g dx dy) Q)):=by
 obtain⟨hA,U,gd,p⟩:=h;refine⟨hA,U,gd,Bb.bind p λdx x H1 _ s1 r1 p1=>⟨hA.same s1,U,gd.same s1,Bb.bind p1 λdy y H2 _ s2 r2 p2=>⟨(hA.same s1).same s2,dx,dy,r1.same s2,r2,p2⟩⟩⟩
theorem Q2{op:FE}(ho:OpD X CL W (B7 op) g)(ha:ST X CL W a fa)(hb:ST X CL W b fb):SE X CL W (.BinOp a op b pos) (λU=>(fa U).bind λx=>(fb U).bind λy=>g x y):=
 λA=>PE.weak (XI (ho A) (ha A) (hb A)) λY H Q h=>op2 h
theorem vE(ho:OpD X CL W (CC op) g)(ha:ST X CL W a fa)(hb:ST X CL W b fb)(hm:Hg op b=Ad):SE X CL W (.Compare a [op] [b] pos) (λU=>(fa U).bind λx=>(fb U).bind λy=>g x y):=
 λA=>PE.weak (pW (ho A) (ha A) (hb A) hm) λY H Q h=>op2 h
theorem CN.int_of{i:Af}(h:CN K CL H A v (.int i)):v=.int i:=by
 rcases h with h|⟨_,_,_,_,e,_⟩
 .exact h
 .cases e
theorem CN.str_of{i:Ah}(h:CN K CL H A v (.str i)):v=.str i:=by
 rcases h with h|⟨_,_,_,_,e,_⟩
 .exact h
 .cases e
theorem CN.bl_of{i:Ai}(h:CN K CL H A v (.bl i)):v=.bl i:=by
 rcases h with h|⟨_,_,_,_,e,_⟩
 .exact h
 .cases e
theorem CN.non_of(h:CN K CL H A v .non):v=.non:=by
 rcases h with h|⟨_,_,_,_,e,_⟩
 .exact h
 .cases e
theorem CN.lst_of{ds:Ac D}(h:CN K CL H A v (.lst ds)):∃ a xs,v=.ref a/\SqL K H a xs/\Reps K CL H A xs ds:=by
 rcases h with ⟨a,xs,e,_,s,r⟩|⟨a,xs,es,rfl,e,s,r⟩
 .exact⟨a,xs,e,s,r⟩
 .cases e;exact⟨a,xs,rfl,SqL.of s,r⟩
theorem CN.tup_of{ds:Ac D}(h:CN K CL H A v (.tup ds)):∃ a xs,v=.ref a/\(¬ A a\/KT K a xs)/\SqT K H a xs/\Reps K CL H A xs ds:=by
 rcases h with ⟨a,xs,e,n,s,r⟩|⟨_,_,_,_,e,_⟩
 .exact⟨a,xs,e,n,s,r⟩
 .cases e
theorem oS{i j:Af}(h:D4 i j=Ab):O5 i j:=by
 unfold D4 at h;simp only[CH,Ak,AW]at h;unfold O5;omega
theorem Wb{a:Af}(h:a.natAbs<2 ^ 2000):Y_8 a<=2 ^ 20:=by
 unfold Y_8;split
 .omega
 .rename_i hz;have h0:a.natAbs≠0:=by intro z;exact hz (by rw[Int.natAbs_eq_zero.mp z];rfl)
  have:=(Nat.log2_lt h0).mpr h;omega
theorem oR{i j:Af}(h:(D4 i j||EW i j)=Ab):Ms i j:=by
 rcases Bool.or_eq_true_iff.mp h with h|h
 .exact(oS h).ok
 .unfold EW at h;rw[Ak,AW,AW]at h;exact .of_bits (Wb h.1) (Wb h.2)
theorem qD:OpR X (B7 .Mult) (rI Ms λi j=>.int (i*j)):=opI λ_ _ _ _ _ _ _ hc q=>mul_int q hc
theorem Ip(h:Dz n=Ab):n<=sizeLine:=by
 unfold Dz at h;rw[C9];have:=Dp h;omega
theorem V5{p:Al}{ds:Ac D}(hA:AOk H A)(hp:H p=Ae)(r:Reps K CL H A xs ds):Rep K CL (upd H p (.lst xs)) A (.ref p) (.lst ds):=
 ⟨p,xs,rfl,.inl (hA.new hp),SqL.of EM,r.same λb o e=>by rw[Bw (FT e hp)];exact e⟩
theorem Lx{p:Al}{ds:Ac D}(hA:AOk H A)(hp:H p=Ae)(r:Reps K CL H A xs ds):Rep K CL (upd H p (.tup xs)) A (.ref p) (.tup ds):=
 ⟨p,xs,rfl,.inl (hA.new hp),SqT.of EM,r.same λb o e=>by rw[Bw (FT e hp)];exact e⟩
theorem FS{p:Al}(h:H p=Ae)(o:HO):AE H (upd H p o):=λb u q=>by rw[Bw (FT q h)];exact q
def dh(K:Fg):R2:=λx y H Q=>∃ l b xs zs,x=.ref l/\y=.ref b/\SqL K H l xs/\SqL K H b zs/\xs.length+zs.length<=sizeLine/\∀ p,H p=Ae->Q (.ref p) (upd H p (.lst (xs++zs)))
end
section
variable{X:Cx}{CL:ClA}{W:XW}
theorem Vn:OpR X (B7 .Add) (dh X.K):=by
 intro pI s Y H x y v u Q I rx ry h;obtain⟨l,b,xs,zs,rfl,rfl,hH,hB,hz,q⟩:=h;cases rx;cases ry;obtain⟨its,r,⟨o,n,e,c,dd,dt⟩,z⟩:=I.list hH;obtain⟨its2,r2,⟨o2,n2,e2,c2,dd2,dt2⟩,z2⟩:=I.list hB;have hl:=r.length;have hl2:=r2.length;obtain⟨cls,dd0,data,sl⟩:=o;obtain⟨cls2,dd02,data2,sl2⟩:=o2;simp only at c dd dt c2 dd2 dt2;subst c dd dt c2 dd2 dt2;have ea:its.toArray++its2.toArray=(its++its2).toArray:=by simp
 refine JF ⟨_,e,rfl⟩ ⟨_,e2,rfl⟩ noFill_list_add seq_list_add PySem.F.slot_list_add PySem.F.entry_list_add (PySem.F.args_list_add_2 _ _) (list_addW l b its.toArray its2.toArray n n2 Ae Ae sl sl2 (by simp;omega)) ⟨e,e2,?_⟩
 rw[ea];exact⟨.ref _,_,I.lnew (t':=s.toks) (r.append r2) (by rw[Cu];omega),rfl,q _ I.fresh⟩
theorem Vm:OpD X CL W (B7 .Add) (Dm .Add):=by
 intro A pI s Y H x y v u Q I rx ry ⟨hA,dx,dy,hx,hy,p⟩;cases dx with
 |int i=>
  cases dy with
  |int j=>
   have ex:=hx.int_of;have ey:=hy.int_of
   subst ex ey;exact wW pI s Y H _ _ v u Q I rx ry ⟨i,j,rfl,rfl,p _ H (AE.refl H) rfl⟩
  |_=>exact p.elim
 |str i=>
  cases dy with
  |str j=>
   have ex:=hx.str_of;have ey:=hy.str_of
   subst ex ey;simp only[Wm]at p;split at p
   .rename_i h;exact fR pI s Y H _ _ v u Q I rx ry ⟨i,j,rfl,rfl,Ip h,p _ H (AE.refl H) rfl⟩
   .exact p.elim
  |_=>exact p.elim
 |lst ds=>
  cases dy with
  |lst es=>
   obtain⟨a,xs,rfl,s1,r1⟩:=hx.lst_of;obtain⟨b,ys,rfl,s2,r2⟩:=hy.lst_of;simp only[Rv]at p;split at p
   .rename_i h;refine Vn pI s Y H _ _ v u Q I rx ry ⟨a,b,xs,ys,rfl,rfl,s1,s2,by rw[r1.length,r2.length];exact Ip h,λq hq=>?_⟩
    exact p _ _ (FS hq _) (V5 hA hq (r1.append r2))
   .exact p.elim
  |_=>exact p.elim
 |tup ds=>
  cases dy with
  |tup es=>
   obtain⟨a,xs,rfl,na1,s1,r1⟩:=hx.tup_of;obtain⟨b,ys,rfl,_,s2,r2⟩:=hy.tup_of;simp only[Wl]at p;split at p
   .rename_i h;simp only[Ak]at h;refine oM pI s Y H _ _ v u Q I rx ry ⟨a,b,xs,ys,rfl,rfl,s1,s2,?_,by rw[r1.length,r2.length];exact Ip h.2,λhy0=>?_,λ_ q hq=>?_⟩
    .rintro rfl;cases ds with
     |nil=>cases h.1
     |cons _ _=>exact r1.elim
    .subst hy0;cases es with
     |nil=>rw[Cq]at p;exact p _ H (AE.refl H) ⟨a,xs,rfl,na1,s1,r1⟩
     |cons _ _=>exact r2.elim
    .exact p _ _ (FS hq _) (Lx hA hq (r1.append r2))
   .exact p.elim
  |_=>exact p.elim
 |_=>exact p.elim
theorem N9{op:FE}{C:Af->Af->Prop}{g:Af->Af->Af}(ho:OpR X (B7 op) (rI C λi j=>.int (g i j)))(hg:∀ dx dy,(∃ i j,dx=.int i/\dy=.int j/\((C i j/\Dm op dx dy=.ok (.int (g i j)))\/Dm op dx dy=.bad))\/Dm op dx dy=.bad):OpD X CL W (B7 op) (Dm op):=by
 intro A pI s Y H x y v u Q I rx ry ⟨hA,dx,dy,hx,hy,p⟩;rcases hg dx dy with ⟨i,j,rfl,rfl,⟨c,e⟩|e⟩|e
 .have ex:=hx.int_of;have ey:=hy.int_of
  subst ex ey;rw[e]at p;exact ho pI s Y H _ _ v u Q I rx ry ⟨i,j,rfl,rfl,c,p _ H (AE.refl H) rfl⟩
 .rw[e]at p;exact p.elim
 .rw[e]at p;exact p.elim
theorem pY:OpD X CL W (B7 .Sub) (Dm .Sub):=by
 intro A pI s Y H x y v u Q I rx ry ⟨hA,dx,dy,hx,hy,p⟩;cases dx with
 |int i=>
  cases dy with
  |int j=>
   have ex:=hx.int_of;have ey:=hy.int_of
   subst ex ey;exact wS pI s Y H _ _ v u Q I rx ry ⟨i,j,rfl,rfl,p _ H (AE.refl H) rfl⟩
  |_=>exact p.elim
 |_=>exact p.elim
theorem qA:OpD X CL W (B7 .Mult) (Dm .Mult):=N9 qD λdx dy=>by
 cases dx with
 |int i=>
  cases dy with
  |int j=>
   refine .inl ⟨i,j,rfl,rfl,?_⟩;rw[xC];split
   .rename_i h;exact .inl ⟨oR h,rfl⟩
   .exact .inr rfl
  |_=>exact .inr rfl
 |_=>exact .inr rfl
theorem lK:OpD X CL W (B7 .FloorDiv) (Dm .FloorDiv):=N9 oK λdx dy=>by
 cases dx with
 |int i=>
  cases dy with
  |int j=>
   refine .inl ⟨i,j,rfl,rfl,?_⟩;rw[rZ];split
   .rename_i h;exact .inl ⟨h,rfl⟩
   .exact .inr rfl
  |_=>exact .inr rfl
 |_=>exact .inr rfl
theorem qB:OpD X CL W (B7 .Mod) (Dm .Mod):=N9 wU λdx dy=>by
 cases dx with
 |int i=>
  cases dy with
  |int j=>
   refine .inl ⟨i,j,rfl,rfl,?_⟩;rw[vU];split
   .rename_i h;exact .inl ⟨h,rfl⟩
   .exact .inr rfl
  |_=>exact .inr rfl
 |_=>exact .inr rfl
theorem pZ:OpD X CL W (B7 .Pow) (Dm .Pow):=N9 wT λdx dy=>by
 cases dx with
 |int i=>
  cases dy with
  |int j=>
   refine .inl ⟨i,j,rfl,rfl,?_⟩;rw[tN];split
   .rename_i h;exact .inl ⟨⟨h.1.1,h.1.2,by omega⟩,rfl⟩
   .exact .inr rfl
  |_=>exact .inr rfl
 |_=>exact .inr rfl
theorem QN(op:FE):OpD X CL W (B7 op) (Dm op):=by
 cases op with
 |Add=>exact Vm
 |Sub=>exact pY
 |Mult=>exact qA
 |FloorDiv=>exact lK
 |Mod=>exact qB
 |Pow=>exact pZ
 |_=>
  intro A pI s Y H x y v u Q I rx ry ⟨hA,dx,dy,hx,hy,p⟩;exact p.elim
noncomputable abbrev A0:Al->Prop:=λ_=>AV
theorem CN.plain(h:CN K CL H A v d):Rep K CL H A0 v d:=by
 rcases h with h|⟨a,xs,ds,rfl,rfl,e,r⟩
 .exact Rep.sub (λ_ z=>z.elim) d h
 .exact⟨a,xs,rfl,.inl λz=>z.elim,SqL.of e,Reps.sub (λ_ z=>z.elim) ds r⟩
mutual
theorem lG:∀(n:Ag)(d:D),flD n d=Ab->eqD d d=Ab
 |_,.non,_=>rfl
 |_,.bl b,_=>by simp
 |_,.int i,_=>by simp
 |_,.str x,_=>by simp
 |n+1,.tup ds,h=>by
  show eqDs ds ds=Ab;exact eqDs_refl n ds h
 |n+1,.lst ds,h=>by
  show eqDs ds ds=Ab;exact eqDs_refl n ds h
 |0,.tup ds,h=>by cases h
 |0,.lst ds,h=>by cases h
 |n,.obj _ _,h=>by cases n<;>cases h
 |n,.exc _ _,h=>by cases n<;>cases h
 |n,.dic _,h=>by cases n<;>cases h
theorem eqDs_refl:∀(n:Ag)(ds:Ac D),ds.all (flD n)=Ab->eqDs ds ds=Ab
 |_,[],_=>rfl
 |n,d::ds,h=>by
  simp only[F4,Ak]at h;simp only[Qe,Ak];exact⟨lG n d h.1,eqDs_refl n ds h.2⟩
end
theorem T6(I:Inv X pI Y H s)(h:SqL X.K H a xs)(h':SqT X.K H a ys):AV:=by
 obtain⟨its,r,⟨o,n,e,c,_,_⟩,_⟩:=I.list h;obtain⟨its',r',⟨o',e',c',_⟩,_⟩:=I.tuple h';rw[e]at e';cases e';rw[c]at c'
 injection c' with z
 exact absurd z (by decide)
mutual
theorem N8{pI:Pn}{Y:L2.St}{H:Hp}{s:Ap}(I:Inv X pI Y H s):∀(n:Ag)(d e:D){v:V},flD n d=Ab->flD n e=Ab->Rep X.K CL H A0 v d->Rep X.K CL H A0 v e->d=e
 |n,.tup ds,e,v,hd,he,r,q=>by
  obtain⟨a,xs,rfl,_,s1,r1⟩:=r;cases e with
  |tup es=>
   obtain⟨b,ys,e,_,s2,r2⟩:=q;cases e;have z:=I.tuple_inj s1 s2;subst z;cases n with
   |zero=>cases hd
   |succ n=>rw[reps_inj I n ds es hd he r1 r2]
  |lst es=>
   obtain⟨b,ys,e,_,s2,r2⟩:=q;cases e;exact(T6 I s2 s1).elim
  |obj=>cases n<;>cases he
  |exc=>cases n<;>cases he
  |dic=>cases n<;>cases he
  |_=>cases q
 |n,.lst ds,e,v,hd,he,r,q=>by
  obtain⟨a,xs,rfl,_,s1,r1⟩:=r;cases e with
  |lst es=>
   obtain⟨b,ys,e,_,s2,r2⟩:=q;cases e;have z:=I.list_inj s1 s2;subst z;cases n with
   |zero=>cases hd
   |succ n=>rw[reps_inj I n ds es hd he r1 r2]
  |tup es=>
   obtain⟨b,ys,e,_,s2,r2⟩:=q;cases e;exact(T6 I s1 s2).elim
  |obj=>cases n<;>cases he
  |exc=>cases n<;>cases he
  |dic=>cases n<;>cases he
  |_=>cases q
 |n,.obj _ _,e,v,hd,he,r,q=>by cases n<;>cases hd
 |n,.exc _ _,e,v,hd,he,r,q=>by cases n<;>cases hd
 |n,.dic _,e,v,hd,he,r,q=>by cases n<;>cases hd
 |n,.non,e,v,hd,he,r,q=>by
  cases r;cases e with
  |tup=>obtain⟨_,_,z,_⟩:=q;cases z
  |lst=>obtain⟨_,_,z,_⟩:=q;cases z
  |obj=>cases n<;>cases he
  |exc=>cases n<;>cases he
  |dic=>cases n<;>cases he
  |_=>cases q<;>rfl
 |n,.bl b,e,v,hd,he,r,q=>by
  cases r;cases e with
  |tup=>obtain⟨_,_,z,_⟩:=q;cases z
  |lst=>obtain⟨_,_,z,_⟩:=q;cases z
  |obj=>cases n<;>cases he
  |exc=>cases n<;>cases he
  |dic=>cases n<;>cases he
  |_=>cases q<;>rfl
 |n,.int b,e,v,hd,he,r,q=>by
  cases r;cases e with
  |tup=>obtain⟨_,_,z,_⟩:=q;cases z
  |lst=>obtain⟨_,_,z,_⟩:=q;cases z
  |obj=>cases n<;>cases he
  |exc=>cases n<;>cases he
  |dic=>cases n<;>cases he
  |_=>cases q<;>rfl
 |n,.str b,e,v,hd,he,r,q=>by
  cases r;cases e with
  |tup=>obtain⟨_,_,z,_⟩:=q;cases z
  |lst=>obtain⟨_,_,z,_⟩:=q;cases z
  |obj=>cases n<;>cases he
  |exc=>cases n<;>cases he
  |dic=>cases n<;>cases he
  |_=>cases q<;>rfl
theorem reps_inj{pI:Pn}{Y:L2.St}{H:Hp}{s:Ap}(I:Inv X pI Y H s):∀(n:Ag)(ds es:Ac D){xs:Ac V},ds.all (flD n)=Ab->es.all (flD n)=Ab->Reps X.K CL H A0 xs ds->Reps X.K CL H A0 xs es->ds=es
 |_,[],[],_,_,_,_,_=>rfl
 |n,d::ds,e::es,x::xs,hd,he,r,q=>by
  simp only[F4,Ak]at hd he;rw[N8 I n d e hd.1 he.1 r.1 q.1,reps_inj I n ds es hd.2 he.2 r.2 q.2]
 |_,[],_::_,[],_,_,_,q=>q.elim
 |_,[],_::_,_::_,_,_,r,_=>r.elim
 |_,_::_,[],[],_,_,r,_=>r.elim
 |_,_::_,[],_::_,_,_,_,q=>q.elim
 |_,_::_,_::_,[],_,_,r,_=>r.elim
end
theorem MK:∀{ds es:Ac D},ds.length≠es.length->eqDs ds es=Ad
 |[],[],h=>absurd rfl h
 |[],_::_,_=>rfl
 |_::_,[],_=>rfl
 |d::ds,e::es,h=>by
  simp only[Qe,MK (ds:=ds) (es:=es) (by simpa using h),IF]
theorem eU(n:Ag)(f:Ag->Ai):(A6 (n+1)).all f=(f 0&&(A6 n).all λj=>f (j+1)):=by
 rw[Ew,F4,Yr];rfl
theorem ML:∀{ds es:Ac D},ds.length=es.length->eqDs ds es=(A6 ds.length).all λj=>eqD (ds.getD j .non) (es.getD j .non)
 |[],[],_=>rfl
 |d::ds,e::es,h=>by
  rw[Qe,ML (ds:=ds) (es:=es) (by simpa using h),Bm,eU]
  rfl
 |[],_::_,h=>by cases h
 |_::_,[],h=>by cases h
theorem KA{ds:Ac D}{its:Ac Aj}(r:Reps K CL H A0 xs ds)(rv:A8 xs its)(h:j<its.length):∃ x,Rep K CL H A0 x (ds.getD j .non)/\BB x its[j]:=by
 have e1:=rv.length;have e2:=r.length;have hd:ds[j]?=Aa (ds.getD j .non):=by
  rw[Bq,Be (by omega)];rfl
 obtain⟨x,hx,q⟩:=r.get hd;obtain⟨u,hu,ru⟩:=rv.get hx;refine⟨x,q,?_⟩;rw[Be h]at hu;cases hu;exact ru
theorem Kz{ds:Ac D}(h:ds.all (flD n)=Ab)(j:Ag):flD n (ds.getD j .non)=Ab:=by
 rw[Bq];cases e:ds[j]? with
 |none=>cases n<;>rfl
 |some d=>exact List.all_eq_true.mp h d (YI e)
def CG(B:AX)(s:Ap)(u t:Aj)(k:Ai):Prop:=KZ B s u t k/\Gx B s u t k/\JA B s u t (!k)
section
variable{B:AX}{s:Ap}
open SeqAt
theorem ag:CG B s .none .none Ab:=⟨RcAt.none_none,EqAt.same _,RcNeAt.none_none⟩
theorem zO(a b:Ai):CG B s (.bool a) (.bool b) (a==b):=⟨RcAt.bool_bool _ _,EqAt.bool_bool _ _,RcNeAt.bool_bool _ _⟩
theorem ak(b:Ai):CG B s .none (.bool b) Ad:=⟨RcAt.none_bool _,EqAt.none_bool _,RcNeAt.none_bool _⟩
theorem zL(b:Ai):CG B s (.bool b) .none Ad:=⟨RcAt.bool_none _,EqAt.bool_none _,RcNeAt.bool_none _⟩
theorem zG(a:Af)(t:CK)(b:Af)(u:CK):CG B s (.int a t) (.int b u) (a==b):=⟨RcAt.int_int _ _ _ _,EqAt.int_int _ _ _ _,RcNeAt.int_int _ _ _ _⟩
theorem zW(a:Ah)(t:CK)(b:Ah)(u:CK):CG B s (.str a t) (.str b u) (a==b):=⟨RcAt.str_str _ _ _ _,EqAt.str_str _ _ _ _,RcNeAt.str_str _ _ _ _⟩
theorem b9(a:Af)(t:CK)(b:Ah)(u:CK):CG B s (.int a t) (.str b u) Ad:=⟨RcAt.int_str _ _ _ _,EqAt.int_str _ _ _ _,RcNeAt.int_str _ _ _ _⟩
theorem zZ(a:Ah)(t:CK)(b:Af)(u:CK):CG B s (.str a t) (.int b u) Ad:=⟨RcAt.str_int _ _ _ _,EqAt.str_int _ _ _ _,RcNeAt.str_int _ _ _ _⟩
theorem aj(b:Af)(u:CK):CG B s .none (.int b u) Ad:=⟨RcAt.none_int _ _,EqAt.none_int _ _,RcNeAt.none_int _ _⟩
theorem zE(b:Af)(u:CK):CG B s (.int b u) .none Ad:=⟨RcAt.int_none _ _,EqAt.int_none _ _,RcNeAt.int_none _ _⟩
theorem af(b:Ah)(u:CK):CG B s .none (.str b u) Ad:=⟨RcAt.none_str _ _,EqAt.none_str _ _,RcNeAt.none_str _ _⟩
theorem zX(b:Ah)(u:CK):CG B s (.str b u) .none Ad:=⟨RcAt.str_none _ _,EqAt.str_none _ _,RcNeAt.str_none _ _⟩
theorem zN(a:Ai)(b:Af)(u:CK):CG B s (.bool a) (.int b u) (b2i a==b):=⟨RcAt.bool_int _ _ _,EqAt.bool_int _ _ _,RcNeAt.bool_int _ _ _⟩
theorem zH(a:Ai)(b:Af)(u:CK):CG B s (.int b u) (.bool a) (b==b2i a):=⟨RcAt.int_bool _ _ _,EqAt.int_bool _ _ _,RcNeAt.int_bool _ _ _⟩
theorem zK(a:Ai)(b:Ah)(u:CK):CG B s (.bool a) (.str b u) Ad:=⟨RcAt.bool_str _ _ _,EqAt.bool_str _ _ _,RcNeAt.bool_str _ _ _⟩
theorem aa(a:Ai)(b:Ah)(u:CK):CG B s (.str b u) (.bool a) Ad:=⟨RcAt.str_bool _ _ _,EqAt.str_bool _ _ _,RcNeAt.str_bool _ _ _⟩
variable{l:Al}{items:Ba Aj}
theorem ar(h:s.heap.IsList l items)(hu:B.units<BW):CG B s (.ref l) .none Ad:=⟨RcAt.list_none h hu,EqAt.list_none h hu,RcNeAt.list_none h hu⟩
theorem ah(h:s.heap.IsList l items)(hu:B.units<BW):CG B s .none (.ref l) Ad:=⟨RcAt.none_list h hu,EqAt.none_list h hu,RcNeAt.none_list h hu⟩
theorem b7(b:Ai)(h:s.heap.IsList l items)(hu:B.units<BW):CG B s (.ref l) (.bool b) Ad:=⟨RcAt.list_bool b h hu,EqAt.list_bool b h hu,RcNeAt.list_bool b h hu⟩
theorem zM(b:Ai)(h:s.heap.IsList l items)(hu:B.units<BW):CG B s (.bool b) (.ref l) Ad:=⟨RcAt.bool_list b h hu,EqAt.bool_list b h hu,RcNeAt.bool_list b h hu⟩
theorem av(b:Af)(u:CK)(h:s.heap.IsList l items)(hu:B.units<BW):CG B s (.ref l) (.int b u) Ad:=⟨RcAt.list_int b u h hu,EqAt.list_int b u h hu,RcNeAt.list_int b u h hu⟩
theorem zF(b:Af)(u:CK)(h:s.heap.IsList l items)(hu:B.units<BW):CG B s (.int b u) (.ref l) Ad:=⟨RcAt.int_list b u h hu,EqAt.int_list b u h hu,RcNeAt.int_list b u h hu⟩
theorem aq(b:Ah)(u:CK)(h:s.heap.IsList l items)(hu:B.units<BW):CG B s (.ref l) (.str b u) Ad:=⟨RcAt.list_str b u h hu,EqAt.list_str b u h hu,RcNeAt.list_str b u h hu⟩
theorem zY(b:Ah)(u:CK)(h:s.heap.IsList l items)(hu:B.units<BW):CG B s (.str b u) (.ref l) Ad:=⟨RcAt.str_list b u h hu,EqAt.str_list b u h hu,RcNeAt.str_list b u h hu⟩
theorem zR(h:s.heap.IsTuple l items)(hu:B.units<BW):CG B s (.ref l) .none Ad:=⟨RcAt.tuple_none h hu,EqAt.tuple_none h hu,RcNeAt.tuple_none h hu⟩
theorem ac(h:s.heap.IsTuple l items)(hu:B.units<BW):CG B s .none (.ref l) Ad:=⟨RcAt.none_tuple h hu,EqAt.none_tuple h hu,RcNeAt.none_tuple h hu⟩
theorem zU(b:Ai)(h:s.heap.IsTuple l items)(hu:B.units<BW):CG B s (.ref l) (.bool b) Ad:=⟨RcAt.tuple_bool b h hu,EqAt.tuple_bool b h hu,RcNeAt.tuple_bool b h hu⟩
theorem zJ(b:Ai)(h:s.heap.IsTuple l items)(hu:B.units<BW):CG B s (.bool b) (.ref l) Ad:=⟨RcAt.bool_tuple b h hu,EqAt.bool_tuple b h hu,RcNeAt.bool_tuple b h hu⟩
theorem zT(b:Af)(u:CK)(h:s.heap.IsTuple l items)(hu:B.units<BW):CG B s (.ref l) (.int b u) Ad:=⟨RcAt.tuple_int b u h hu,EqAt.tuple_int b u h hu,RcNeAt.tuple_int b u h hu⟩
theorem b8(b:Af)(u:CK)(h:s.heap.IsTuple l items)(hu:B.units<BW):CG B s (.int b u) (.ref l) Ad:=⟨RcAt.int_tuple b u h hu,EqAt.int_tuple b u h hu,RcNeAt.int_tuple b u h hu⟩
theorem zQ(b:Ah)(u:CK)(h:s.heap.IsTuple l items)(hu:B.units<BW):CG B s (.ref l) (.str b u) Ad:=⟨RcAt.tuple_str b u h hu,EqAt.tuple_str b u h hu,RcNeAt.tuple_str b u h hu⟩
theorem zV(b:Ah)(u:CK)(h:s.heap.IsTuple l items)(hu:B.units<BW):CG B s (.str b u) (.ref l) Ad:=⟨RcAt.str_tuple b u h hu,EqAt.str_tuple b u h hu,RcNeAt.str_tuple b u h hu⟩
theorem ao(h:s.heap.IsList l items)(h2:s.heap.IsTuple b items2)(hu:B.units<BW):CG B s (.ref l) (.ref b) Ad:=⟨RcAt.list_tuple h h2 hu,EqAt.list_tuple h h2 hu,RcNeAt.list_tuple h h2 hu⟩
theorem zS(h:s.heap.IsTuple l items)(h2:s.heap.IsList b items2)(hu:B.units<BW):CG B s (.ref l) (.ref b) Ad:=⟨RcAt.tuple_list h h2 hu,EqAt.tuple_list h h2 hu,RcNeAt.tuple_list h h2 hu⟩
end
end
section
variable{X:Cx}{CL:ClA}{W:XW}
theorem JQ(x:PlainL h a its):h.IsList a its:=let ⟨o,n,e,c,_,d⟩:=x;⟨o,e,c,n,d⟩
def cQ(X:Cx)(CL:ClA)(H:Hp)(s:Ap)(d:D)(u:Aj):Prop:=match d with
  |.non=>u=.none
  |.bl b=>u=.bool b
  |.int i=>∃ t,u=.int i t
  |.str x=>∃ t,u=.str x t
  |.tup ds=>∃ a xs its,u=.ref a/\Reps X.K CL H A0 xs ds/\A8 xs its/\s.heap.IsTuple a its.toArray
  |.lst ds=>∃ a xs its,u=.ref a/\Reps X.K CL H A0 xs ds/\A8 xs its/\s.heap.IsList a its.toArray
  |_=>AV
theorem Vu(I:Inv X pI Y H s)(hd:flD n d=Ab)(r:Rep X.K CL H A0 v d)(q:BB v u):cQ X CL H s d u:=by
 cases d with
 |non=>cases r;exact q
 |bl b=>cases r;exact q
 |int b=>cases r;exact q
 |str b=>cases r;exact q
 |tup ds=>
  obtain⟨a,xs,rfl,_,sq,r⟩:=r;obtain⟨its,rv,p,_⟩:=I.tuple sq;cases q;exact⟨a,xs,its,rfl,r,rv,p⟩
 |lst ds=>
  obtain⟨a,xs,rfl,_,sq,r⟩:=r;obtain⟨its,rv,p,_⟩:=I.list sq;cases q;exact⟨a,xs,its,rfl,r,rv,JQ p⟩
 |obj=>cases n<;>cases hd
 |exc=>cases n<;>cases hd
 |dic=>cases n<;>cases hd
theorem lY{B:AX}{its:Ac Aj}{ds es:Ac D}(hl:s.heap.IsList l its.toArray)(hb:s.heap.IsList b its2.toArray)(e1:its.length=ds.length)(e2:its2.length=es.length)(hu:B.units<BW)(hs:l=b->eqDs ds es=Ab)(he:∀ j (h1:j<its.length) (h2:j<its2.length),Gx B.in1 s its[j] its2[j] (eqD (ds.getD j .non) (es.getD j .non))):CG B s (.ref l) (.ref b) (eqDs ds es):=by
 have rc:KZ B s (.ref l) (.ref b) (eqDs ds es):=by
  by_cases hz:its.length=its2.length
  .have q:=SeqAt.RcAt.lists (e:=λj=>eqD (ds.getD j .non) (es.getD j .non)) hl hb (by simpa using hz) hu (λj h1 h2=>by simpa using he j (by simpa using h1) (by simpa using h2))
   rw[ML (by omega)]
   have e:its.toArray.size=ds.length:=by simpa using e1
   rw[e]at q;exact q
  .rw[MK (by omega)]
   exact SeqAt.RcAt.lists_lengths hl hb (by simpa using hz) hu
 have ne:JA B s (.ref l) (.ref b) (!eqDs ds es):=by
  by_cases hz:its.length=its2.length
  .have q:=SeqAt.RcNeAt.lists (e:=λj=>eqD (ds.getD j .non) (es.getD j .non)) hl hb (by simpa using hz) hu (λj h1 h2=>by simpa using he j (by simpa using h1) (by simpa using h2))
   rw[ML (by omega)]
   have e:its.toArray.size=ds.length:=by simpa using e1
   rw[e]at q;exact q
  .rw[MK (by omega)]
   exact SeqAt.RcNeAt.lists_lengths hl hb (by simpa using hz) hu
 refine⟨rc,?_,ne⟩;by_cases hlb:l=b
 .rw[hs hlb,hlb];exact Z_2 _
 .exact Z_1 hlb rc
theorem lX{B:AX}{its:Ac Aj}{ds es:Ac D}(hl:s.heap.IsTuple l its.toArray)(hb:s.heap.IsTuple b its2.toArray)(e1:its.length=ds.length)(e2:its2.length=es.length)(hu:B.units<BW)(hs:l=b->eqDs ds es=Ab)(he:∀ j (h1:j<its.length) (h2:j<its2.length),Gx B.in1 s its[j] its2[j] (eqD (ds.getD j .non) (es.getD j .non))):CG B s (.ref l) (.ref b) (eqDs ds es):=by
 have rc:KZ B s (.ref l) (.ref b) (eqDs ds es):=by
  have q:=SeqAt.RcAt.tuples (e:=λj=>eqD (ds.getD j .non) (es.getD j .non)) hl hb hu (λj h1 h2=>by simpa using he j (by simpa using h1) (by simpa using h2))
  have e:its.toArray.size=ds.length:=by simpa using e1
  have e':its2.toArray.size=es.length:=by simpa using e2
  rw[e,e']at q;by_cases hz:ds.length=es.length
  .rw[ML hz];rw[hz,YR,Do,Ye]at q;rw[hz];exact q
  .rw[MK hz];rw[C3.mpr hz,IF]at q;exact q
 have ne:JA B s (.ref l) (.ref b) (!eqDs ds es):=by
  have q:=SeqAt.RcNeAt.tuples (e:=λj=>eqD (ds.getD j .non) (es.getD j .non)) hl hb hu (λj h1 h2=>by simpa using he j (by simpa using h1) (by simpa using h2))
  have e:its.toArray.size=ds.length:=by simpa using e1
  have e':its2.toArray.size=es.length:=by simpa using e2
  rw[e,e']at q;by_cases hz:ds.length=es.length
  .rw[ML hz];rw[hz,YR,Do,Ye]at q;rw[hz];exact q
  .rw[MK hz];rw[C3.mpr hz,IF]at q;exact q
 refine⟨rc,?_,ne⟩;by_cases hlb:l=b
 .rw[hs hlb,hlb];exact Z_2 _
 .exact Z_1 hlb rc
theorem M2{pI:Pn}{Y:L2.St}{H:Hp}{s:Ap}(I:Inv X pI Y H s):∀(n:Ag)(d e:D)(v w':V)(u t:Aj)(B:AX),flD n d=Ab->flD n e=Ab->Rep X.K CL H A0 v d->Rep X.K CL H A0 w' e->BB v u->BB w' t->B.units+n<BW->CG B s u t (eqD d e)
  |n,d,e,v,w',u,t,B,hd,he,r,q,rv,rw',hu=>by
    have hu0:B.units<BW:=by omega
    have sd:=Vu I hd r rv;have se:=Vu I he q rw'
    match d,e,sd,se with
    |.non,.non,s1,s2=>cases s1;cases s2;exact ag
    |.non,.bl b,s1,s2=>cases s1;cases s2;exact ak b
    |.non,.int b,s1,s2=>cases s1;obtain⟨_,rfl⟩:=s2;exact aj b _
    |.non,.str b,s1,s2=>cases s1;obtain⟨_,rfl⟩:=s2;exact af b _
    |.non,.tup es,s1,s2=>cases s1;obtain⟨_,_,_,rfl,_,_,p⟩:=s2;exact ac p hu0
    |.non,.lst es,s1,s2=>cases s1;obtain⟨_,_,_,rfl,_,_,p⟩:=s2;exact ah p hu0
    |.bl a,.non,s1,s2=>cases s1;cases s2;exact zL a
    |.bl a,.bl b,s1,s2=>cases s1;cases s2;exact zO a b
    |.bl a,.int b,s1,s2=>cases s1;obtain⟨_,rfl⟩:=s2;exact zN a b _
    |.bl a,.str b,s1,s2=>cases s1;obtain⟨_,rfl⟩:=s2;exact zK a b _
    |.bl a,.tup es,s1,s2=>cases s1;obtain⟨_,_,_,rfl,_,_,p⟩:=s2;exact zJ a p hu0
    |.bl a,.lst es,s1,s2=>cases s1;obtain⟨_,_,_,rfl,_,_,p⟩:=s2;exact zM a p hu0
    |.int a,.non,s1,s2=>obtain⟨_,rfl⟩:=s1;cases s2;exact zE a _
    |.int a,.bl b,s1,s2=>obtain⟨_,rfl⟩:=s1;cases s2;exact zH b a _
    |.int a,.int b,s1,s2=>obtain⟨_,rfl⟩:=s1;obtain⟨_,rfl⟩:=s2;exact zG a _ b _
    |.int a,.str b,s1,s2=>obtain⟨_,rfl⟩:=s1;obtain⟨_,rfl⟩:=s2;exact b9 a _ b _
    |.int a,.tup es,s1,s2=>obtain⟨_,rfl⟩:=s1;obtain⟨_,_,_,rfl,_,_,p⟩:=s2;exact b8 a _ p hu0
    |.int a,.lst es,s1,s2=>obtain⟨_,rfl⟩:=s1;obtain⟨_,_,_,rfl,_,_,p⟩:=s2;exact zF a _ p hu0
    |.str a,.non,s1,s2=>obtain⟨_,rfl⟩:=s1;cases s2;exact zX a _
    |.str a,.bl b,s1,s2=>obtain⟨_,rfl⟩:=s1;cases s2;exact aa b a _
    |.str a,.int b,s1,s2=>obtain⟨_,rfl⟩:=s1;obtain⟨_,rfl⟩:=s2;exact zZ a _ b _
    |.str a,.str b,s1,s2=>obtain⟨_,rfl⟩:=s1;obtain⟨_,rfl⟩:=s2;exact zW a _ b _
    |.str a,.tup es,s1,s2=>obtain⟨_,rfl⟩:=s1;obtain⟨_,_,_,rfl,_,_,p⟩:=s2;exact zV a _ p hu0
    |.str a,.lst es,s1,s2=>obtain⟨_,rfl⟩:=s1;obtain⟨_,_,_,rfl,_,_,p⟩:=s2;exact zY a _ p hu0
    |.tup ds,.non,s1,s2=>cases s2;obtain⟨_,_,_,rfl,_,_,p⟩:=s1;exact zR p hu0
    |.tup ds,.bl b,s1,s2=>cases s2;obtain⟨_,_,_,rfl,_,_,p⟩:=s1;exact zU b p hu0
    |.tup ds,.int b,s1,s2=>obtain⟨_,rfl⟩:=s2;obtain⟨_,_,_,rfl,_,_,p⟩:=s1;exact zT b _ p hu0
    |.tup ds,.str b,s1,s2=>obtain⟨_,rfl⟩:=s2;obtain⟨_,_,_,rfl,_,_,p⟩:=s1;exact zQ b _ p hu0
    |.tup ds,.lst es,s1,s2=>obtain⟨_,_,_,rfl,_,_,p⟩:=s1;obtain⟨_,_,_,rfl,_,_,p2⟩:=s2;exact zS p p2 hu0
    |.lst ds,.non,s1,s2=>cases s2;obtain⟨_,_,_,rfl,_,_,p⟩:=s1;exact ar p hu0
    |.lst ds,.bl b,s1,s2=>cases s2;obtain⟨_,_,_,rfl,_,_,p⟩:=s1;exact b7 b p hu0
    |.lst ds,.int b,s1,s2=>obtain⟨_,rfl⟩:=s2;obtain⟨_,_,_,rfl,_,_,p⟩:=s1;exact av b _ p hu0
    |.lst ds,.str b,s1,s2=>obtain⟨_,rfl⟩:=s2;obtain⟨_,_,_,rfl,_,_,p⟩:=s1;exact aq b _ p hu0
    |.lst ds,.tup es,s1,s2=>obtain⟨_,_,_,rfl,_,_,p⟩:=s1;obtain⟨_,_,_,rfl,_,_,p2⟩:=s2;exact ao p p2 hu0
    |.tup ds,.tup es,s1,s2=>
      match n,hd,he,hu with
      |n+1,hd,he,hu=>
        obtain⟨a,xs,its,rfl,r1,v1,p1⟩:=s1;obtain⟨b,ys,its2,rfl,r2,v2,p2⟩:=s2;have l1:=v1.length;have l2:=r1.length;have l3:=v2.length;have l4:=r2.length
        refine lX p1 p2 (by omega) (by omega) hu0 (λhab=>?_) λj h1 h2=>?_
        · have e1:v=.ref a:=BB.inj rv rfl;have e2:w'=.ref b:=BB.inj rw' rfl;subst e1 e2 hab;have z:=N8 I (n+1) _ _ hd he r q
          injection z with z
          rw[z];exact eqDs_refl n es he
        · obtain⟨x,rx,qx⟩:=KA r1 v1 h1;obtain⟨y,ry,qy⟩:=KA r2 v2 h2;exact(M2 I n _ _ x y _ _ B.in1 (Kz hd j) (Kz he j) rx ry qx qy (by show B.units+1+n<BW;omega)).2.1
    |.lst ds,.lst es,s1,s2=>
      match n,hd,he,hu with
      |n+1,hd,he,hu=>
        obtain⟨a,xs,its,rfl,r1,v1,p1⟩:=s1;obtain⟨b,ys,its2,rfl,r2,v2,p2⟩:=s2;have l1:=v1.length;have l2:=r1.length;have l3:=v2.length;have l4:=r2.length
        refine lY p1 p2 (by omega) (by omega) hu0 (λhab=>?_) λj h1 h2=>?_
        · have e1:v=.ref a:=BB.inj rv rfl;have e2:w'=.ref b:=BB.inj rw' rfl;subst e1 e2 hab;have z:=N8 I (n+1) _ _ hd he r q
          injection z with z
          rw[z];exact eqDs_refl n es he
        · obtain⟨x,rx,qx⟩:=KA r1 v1 h1;obtain⟨y,ry,qy⟩:=KA r2 v2 h2;exact(M2 I n _ _ x y _ _ B.in1 (Kz hd j) (Kz he j) rx ry qx qy (by show B.units+1+n<BW;omega)).2.1
    |.obj _ _,_,s1,_=>exact s1.elim
    |.exc _ _,_,s1,_=>exact s1.elim
    |.dic _,_,s1,_=>exact s1.elim
    |_,.obj _ _,_,s2=>exact s2.elim
    |_,.exc _ _,_,s2=>exact s2.elim
    |_,.dic _,_,s2=>exact s2.elim
end
section
variable{X:Cx}{CL:ClA}{W:XW}
theorem Oq(I:Inv X pI Y H s){ds:Ac D}{its:Ac Aj}(B:AX)(hd:flD n d=Ab)(hs:ds.all (flD n)=Ab)(r:Reps X.K CL H A0 xs ds)(rv:A8 xs its)(q:Rep X.K CL H A0 v d)(qv:BB v u)(hu:B.units+n<BW):∃ e:Aj->Ai,(∀ y,y∈its.toArray->Gx B s y u (e y))/\its.toArray.any e=ds.any λy=>eqD y d:=by
 have l1:=rv.length;have l2:=r.length
 have key:∀ y,y∈its->∃ k:Ai,Gx B s y u k/\∀ j (h:j<its.length),its[j]=y->eqD (ds.getD j .non) d=k:=λy hy=>by
  obtain⟨j,hj,rfl⟩:=Fd hy;obtain⟨x,rx,qx⟩:=KA r rv hj;refine⟨eqD (ds.getD j .non) d,(M2 I n _ _ x v _ _ B (Kz hs j) hd rx q qx qv hu).2.1,λj' hj' e=>?_⟩
  obtain⟨x',rx',qx'⟩:=KA r rv hj';rw[e]at qx';have z:=BB.inj qx qx';subst z;rw[N8 I n _ _ (Kz hs j') (Kz hs j) rx' rx]
 have key2:∀ y,∃ k:Ai,y∈its->Gx B s y u k/\∀ j (h:j<its.length),its[j]=y->eqD (ds.getD j .non) d=k:=λy=>by
  by_cases hy:y∈its
  .obtain⟨k,hk⟩:=key y hy;exact⟨k,λ_=>hk⟩
  .exact⟨Ab,λh=>absurd h hy⟩
 refine⟨λy=>Yh (key2 y),λy hy=>(EF (key2 y) (by simpa using hy)).1,?_⟩
 rw[DS];simp only[List.any_toArray,EQ];constructor
 .rintro⟨y,hy,hk⟩;obtain⟨j,hj,rfl⟩:=Fd hy;have z:=(EF (key2 its[j]) hy).2 j hj rfl;rw[hk]at z;refine⟨ds.getD j .non,?_,z⟩;rw[Bq,Be (by omega)]
  exact DH _
 .rintro⟨y,hy,hk⟩;obtain⟨j,hj,rfl⟩:=Fd hy;have hj':j<its.length:=by omega
  refine⟨its[j],DH _,?_⟩;have z:=(EF (key2 its[j]) (DH _)).2 j hj' rfl;rw[<-z,Bq,Be hj];exact hk
theorem NN{g:Af->Af->Ai}(ho:OpR X (CC op) (rI0 λi j=>.bl (g i j)))(hg:∀ dx dy,(∃ i j,dx=.int i/\dy=.int j/\B1 op dx dy=.ok (.bl (g i j)))\/B1 op dx dy=.bad):OpD X CL W (CC op) (B1 op):=by
 intro A pI s Y H x y v u Q I rx ry ⟨hA,dx,dy,hx,hy,p⟩;rcases hg dx dy with ⟨i,j,rfl,rfl,e⟩|e
 .have ex:=hx.int_of;have ey:=hy.int_of
  subst ex ey;rw[e]at p;exact ho pI s Y H _ _ v u Q I rx ry ⟨i,j,rfl,rfl,p _ H (AE.refl H) rfl⟩
 .rw[e]at p;exact p.elim
theorem Wv{x:V}(h:CN X.K CL H A x d)(hd:d≠.non):x≠.non:=by
 rintro rfl;have h:=h.plain;cases d with
 |non=>exact hd rfl
 |tup=>obtain⟨_,_,e,_⟩:=h;cases e
 |lst=>obtain⟨_,_,e,_⟩:=h;cases e
 |obj=>obtain⟨_,_,_,_,e,_⟩:=h;cases e
 |exc=>obtain⟨_,_,_,e,_⟩:=h;cases e
 |dic=>exact h.elim
 |_=>cases h
theorem Lw(hu:X.A.units+64<BW)(op:Dg):OpD X CL W (CC op) (B1 op):=by
 cases op with
 |Eq=>
  intro A pI s Y H x y v u Q I rx ry ⟨hA,dx,dy,hx,hy,p⟩;rw[gf]at p;split at p
  .rename_i h;simp only[Ak]at h;exact(M2 I 5 dx dy x y v u X.A h.1 h.2 hx.plain hy.plain rx ry (by omega)).1 X.prog X.w X.xe _ ⟨.bl _,H,I,rfl,p _ H (AE.refl H) rfl⟩
  .exact p.elim
 |NotEq=>
  intro A pI s Y H x y v u Q I rx ry ⟨hA,dx,dy,hx,hy,p⟩;rw[cb]at p;split at p
  .rename_i h;simp only[Ak]at h;exact(M2 I 5 dx dy x y v u X.A h.1 h.2 hx.plain hy.plain rx ry (by omega)).2.2 X.prog X.w X.xe _ ⟨.bl _,H,I,rfl,p _ H (AE.refl H) rfl⟩
  .exact p.elim
 |Lt=>
  refine NN bo λdx dy=>?_
  cases dx with
  |int i=>
   cases dy with
   |int j=>exact .inl ⟨i,j,rfl,rfl,rfl⟩
   |_=>exact .inr rfl
  |_=>exact .inr rfl
 |LtE=>
  refine NN bp λdx dy=>?_
  cases dx with
  |int i=>
   cases dy with
   |int j=>exact .inl ⟨i,j,rfl,rfl,rfl⟩
   |_=>exact .inr rfl
  |_=>exact .inr rfl
 |Gt=>
  refine NN bq λdx dy=>?_
  cases dx with
  |int i=>
   cases dy with
   |int j=>exact .inl ⟨i,j,rfl,rfl,rfl⟩
   |_=>exact .inr rfl
  |_=>exact .inr rfl
 |GtE=>
  refine NN br λdx dy=>?_
  cases dx with
  |int i=>
   cases dy with
   |int j=>exact .inl ⟨i,j,rfl,rfl,rfl⟩
   |_=>exact .inr rfl
  |_=>exact .inr rfl
 |In=>
  intro A pI s Y H x y v u Q I rx ry ⟨hA,dx,dy,hx,hy,p⟩;cases dy with
  |lst es=>
   rw[cX]at p;split at p
   .rename_i h;simp only[Ak]at h;obtain⟨a,xs,e,_,sq,r⟩:=hy.plain;subst e;cases ry;obtain⟨its,rv,pl,_⟩:=I.list sq;obtain⟨e,he,ha⟩:=Oq I (n:=5) X.A.in1 h.1 h.2 r rv hx.plain rx (by show X.A.units+1+5<BW;omega)
    refine SeqAt.in_listAt e (JQ pl) he ?_;rw[ha];exact⟨.bl _,H,I,rfl,p _ H (AE.refl H) rfl⟩
   .exact p.elim
  |tup es=>
   rw[cW]at p;split at p
   .rename_i h;simp only[Ak]at h;obtain⟨a,xs,e,_,sq,r⟩:=hy.plain;subst e;cases ry;obtain⟨its,rv,pl,_⟩:=I.tuple sq;obtain⟨e,he,ha⟩:=Oq I (n:=5) X.A.in1 h.1 h.2 r rv hx.plain rx (by show X.A.units+1+5<BW;omega)
    refine SeqAt.in_tupleAt e pl he ?_;rw[ha];exact⟨.bl _,H,I,rfl,p _ H (AE.refl H) rfl⟩
   .exact p.elim
  |dic kvs=>exact hy.plain.elim
  |_=>exact p.elim
 |NotIn=>
  intro A pI s Y H x y v u Q I rx ry ⟨hA,dx,dy,hx,hy,p⟩;cases dy with
  |lst es=>
   rw[bw]at p;split at p
   .rename_i h;simp only[Ak]at h;obtain⟨a,xs,e,_,sq,r⟩:=hy.plain;subst e;cases ry;obtain⟨its,rv,pl,_⟩:=I.list sq;obtain⟨e,he,ha⟩:=Oq I (n:=5) X.A.in1 h.1 h.2 r rv hx.plain rx (by show X.A.units+1+5<BW;omega)
    refine SeqAt.notIn_listAt e (JQ pl) he ?_;rw[ha];exact⟨.bl _,H,I,rfl,p _ H (AE.refl H) rfl⟩
   .exact p.elim
  |tup es=>
   rw[bv]at p;split at p
   .rename_i h;simp only[Ak]at h;obtain⟨a,xs,e,_,sq,r⟩:=hy.plain;subst e;cases ry;obtain⟨its,rv,pl,_⟩:=I.tuple sq;obtain⟨e,he,ha⟩:=Oq I (n:=5) X.A.in1 h.1 h.2 r rv hx.plain rx (by show X.A.units+1+5<BW;omega)
    refine SeqAt.notIn_tupleAt e pl he ?_;rw[ha];exact⟨.bl _,H,I,rfl,p _ H (AE.refl H) rfl⟩
   .exact p.elim
  |_=>exact p.elim
 |Is=>
  intro A pI s Y H x y v u Q I rx ry ⟨hA,dx,dy,hx,hy,p⟩;cases dy with
  |non=>
   have ey:=hy.non_of;subst ey;refine wV pI s Y H _ _ v u Q I rx ry ⟨rfl,?_⟩;cases dx with
   |non=>
    have ex:=hx.non_of;subst ex;exact p _ H (AE.refl H) rfl
   |exc=>exact p.elim
   |dic=>exact p.elim
   |_=>rw[C1 (Wv hx (by simp))];exact p _ H (AE.refl H) rfl
  |bl b=>
   cases dx with
   |bl a=>
    have ey:=hy.bl_of;have ex:=hx.bl_of;subst ex ey;cases rx;cases ry;refine wpAny_is_plain rfl ⟨.bl (a==b),H,I,?_,p _ H (AE.refl H) rfl⟩;cases a<;>cases b<;>rfl
   |_=>exact p.elim
  |_=>cases dx<;>exact p.elim
 |IsNot=>
  intro A pI s Y H x y v u Q I rx ry ⟨hA,dx,dy,hx,hy,p⟩;cases dy with
  |non=>
   have ey:=hy.non_of;subst ey;refine qC pI s Y H _ _ v u Q I rx ry ⟨rfl,?_⟩;cases dx with
   |non=>
    have ex:=hx.non_of;subst ex;exact p _ H (AE.refl H) rfl
   |exc=>exact p.elim
   |dic=>exact p.elim
   |_=>rw[C1 (Wv hx (by simp))];exact p _ H (AE.refl H) rfl
  |bl b=>
   cases dx with
   |bl a=>
    have ey:=hy.bl_of;have ex:=hx.bl_of;subst ex ey;cases rx;cases ry;refine wpAny_isNot_plain rfl ⟨.bl (!(a==b)),H,I,?_,p _ H (AE.refl H) rfl⟩;cases a<;>cases b<;>rfl
   |_=>exact p.elim
  |_=>cases dx<;>exact p.elim
end
section
variable{X:Cx}{CL:ClA}{W:XW}{a b c:Am}{fa fb fc:Rho->R D}{pos:AG}
theorem Dj.bind{f:D->R Ai}{Q:Ai->Hp->Prop}{Q':VK}(h:Dj W H (r.bind f) Q)(k:∀ d v H',r=.ok d->AE H H'->Rp H' v d->Dj W H' (f d) Q->Q' v H'):Bb Rp W H r Q':=by
 cases r with
 |ok d=>exact λv H2 s2 q=>k d v H2 rfl s2 q (Dj.same s2 h)
 |exn x=>exact h
 |bad=>exact h
theorem Dj.bindB{r:R Ai}{f:Ai->R Ai}{Q:Ai->Hp->Prop}{Q':Ai->Hp->Prop}(h:Dj W H (r.bind f) Q)(k:∀ b H',r=.ok b->AE H H'->Dj W H' (f b) Q->Q' b H'):Dj W H r Q':=by
 cases r with
 |ok d=>exact λH2 s2=>k d H2 rfl s2 (Dj.same s2 h)
 |exn x=>exact h
 |bad=>exact h
theorem HU.bind{Rp:Hp->Ac V->Ac D->Prop}{r:R (Ac D)}{f:Ac D->R D}{Q':Ac V->Hp->Prop}(h:Bb Rq W H (r.bind f) Q)(k:∀ d v H',r=.ok d->AE H H'->Rp H' v d->Bb Rq W H' (f d) Q->Q' v H'):HU Rp W H r Q':=by
 cases r with
 |ok d=>exact λv H2 s2 q=>k d v H2 rfl s2 q (Bb.same s2 h)
 |exn x=>exact h
 |bad=>exact h
theorem uX(ha:ST X CL W a fa):SE X CL W (.UnaryOp .USub a pos) (λU=>(fa U).bind λx=>unD .USub x):=λA=>PE.weak (eh sX (ha A)) λY H Q ⟨hA,U,g,p⟩=>⟨hA,U,g,Bb.bind p λd v H1 _ s1 r1 p1=>by
 cases d with
 |int i=>
  have e:=r1.int_of;subst e;exact⟨i,rfl,p1 _ H1 (AE.refl H1) rfl⟩
 | _=>exact p1.elim⟩
theorem NS{f:Ai->R D}(h:Bb Rq W H ((DF d).bind f) Q):∃ c,d=.bl c/\Bb Rq W H (f c) Q:=by
 cases d with
 |bl c=>exact⟨c,rfl,h⟩
 |_=>exact h.elim
theorem W1(ha:ST X CL W a fa):SE X CL W (.UnaryOp .Not a pos) (λU=>(fa U).bind λx=>(DF x).bind λb=>.ok (.bl (!b))):=λA=>PE.weak (wM (ha A)) λY H Q ⟨hA,U,g,p⟩=>⟨hA,U,g,Bb.bind p λd v H1 _ s1 r1 p1=>by
 obtain⟨c,rfl,p2⟩:=NS p1;exact⟨c,r1.bl_of,p2 _ H1 (AE.refl H1) rfl⟩⟩
theorem Q1{op}(ha:SE X CL W a fa):SE X CL W (.BoolOp op [a] pos) fa:=λA=>wL (ha A)
theorem W3{rest:Ac Am}(ha:SE X CL W a fa)(hb:SE X CL W (.BoolOp .And (b::rest) pos) fb):SE X CL W (.BoolOp .And (a::b::rest) pos) (λU=>(fa U).bind λx=>(DF x).bind λc=>if c=Ab then fb U else .ok (.bl Ad)):=
 λA=>PE.weak (wR (ha A) (hb A)) λY H Q ⟨hA,U,g,p⟩=>⟨hA,U,g,Bb.bind p λd v H1 _ s1 r1 p1=>by
  obtain⟨c,rfl,p2⟩:=NS p1;refine⟨c,r1,?_⟩;cases c with
  |true=>exact⟨hA.same s1,U,g.same s1,p2⟩
  | false=>exact p2 _ H1 (AE.refl H1) rfl⟩
theorem zP{rest:Ac Am}(ha:SE X CL W a fa)(hb:SE X CL W (.BoolOp .Or (b::rest) pos) fb):SE X CL W (.BoolOp .Or (a::b::rest) pos) (λU=>(fa U).bind λx=>(DF x).bind λc=>if c=Ab then .ok (.bl Ab) else fb U):=
 λA=>PE.weak (et (ha A) (hb A)) λY H Q ⟨hA,U,g,p⟩=>⟨hA,U,g,Bb.bind p λd v H1 _ s1 r1 p1=>by
  obtain⟨c,rfl,p2⟩:=NS p1;refine⟨c,r1,?_⟩;cases c with
  |false=>exact⟨hA.same s1,U,g.same s1,p2⟩
  | true=>exact p2 _ H1 (AE.refl H1) rfl⟩
theorem jN{op':Dg}(hu:X.A.units+64<BW)(ha:ST X CL W a fa)(hb:ST X CL W b fb)(hc:ST X CL W c fc)(hm:JG [op,op'] [b,c]=Ad):SE X CL W (.Compare a [op,op'] [b,c] pos) (λU=>(fa U).bind λx=>(fb U).bind λy=>(B1 op x y).bind λz=>(DF z).bind λk=>if k=Ab then (fc U).bind λu=>B1 op' y u else .ok (.bl Ad)):=
 λA=>PE.weak (lI (Lw hu op A) (Lw hu op' A) (ha A) (hb A) (hc A) hm) λY H Q ⟨hA,U,g,p⟩=>⟨hA,U,g,Bb.bind p λdx x H1 _ s1 r1 p1=>⟨hA.same s1,U,g.same s1,Bb.bind p1 λdy y H2 _ s2 r2 p2=>
  ⟨(hA.same s1).same s2,dx,dy,r1.same s2,r2,Bb.bind p2 λdz z H3 _ s3 r3 p3=>by
   obtain⟨k,rfl,p4⟩:=NS p3;refine⟨k,r3,?_⟩;cases k with
   |false=>exact p4 _ H3 (AE.refl H3) rfl
   | true=>exact⟨((hA.same s1).same s2).same s3,U,((g.same s1).same s2).same s3,Bb.bind p4 λdu u H4 _ s4 r4 p5=>⟨(((hA.same s1).same s2).same s3).same s4,dy,du,(r2.same s3).same s4,r4,p5⟩⟩⟩⟩⟩
theorem rW{xs:Ac D}{i:Af}(h:DA xs i=.ok d):∃ k,plD xs.length i=Aa k/\xs[k]?=Aa d:=by
 unfold DA at h;split at h
 .rename_i k e;split at h
  .rename_i d' e';cases h;exact⟨k,e,e'⟩
  .cases h
 .cases h
theorem NT{xs:Ac D}{i:Af}(h:DA xs i=.exn x):AV:=by
 unfold DA at h;split at h
 .split at h<;>cases h
 .cases h
theorem Wc{ds:Ac D}{i:Af}(r:Reps K CL H A xs ds)(h:DA ds i=.ok d):∃ v,atI xs i=Aa v/\Rep K CL H A v d:=by
 obtain⟨k,e,q⟩:=rW h;obtain⟨v,hv,rv⟩:=r.get q;refine⟨v,?_,rv⟩;unfold atI;have:ixN xs.length i=Aa k:=by rw[r.length];exact e
 rw[this];exact hv
theorem vD(hs:QX b)(ha:ST X CL W a fa)(hb:ST X CL W b fb):SE X CL W (.Subscript a b pos) (λU=>(fa U).bind λx=>(fb U).bind λy=>BA x y):=
 λA=>PE.weak (ez (r:=λx y H Q=>Tb X.K x y H Q\/Ta X.K x y H Q) (oC.or wH) (ha A) (hb A) hs) λY H Q h=>by
  obtain⟨hA,U,g,h⟩:=op2 h;refine⟨hA,U,g,?_⟩;cases e:fa U with
  |bad=>rw[e]at h;exact h
  |exn x=>rw[e]at h;exact h
  |ok dx0=>
   rw[e]at h;intro x H1 s1 r1;obtain⟨hA1,U1,g1,h1⟩:=h x H1 s1 r1;refine⟨hA1,U1,g1,?_⟩;cases e1:fb U1 with
   |bad=>rw[e1]at h1;exact h1
   |exn x=>rw[e1]at h1;exact h1
   |ok dy0=>
    rw[e1]at h1;intro y H2 s2 r2;obtain⟨hA2,dx,dy,rx,ry,p⟩:=h1 y H2 s2 r2;cases dy with
    |int i=>
     have ey:=ry.int_of;subst ey;cases dx with
     |lst ds=>
      obtain⟨q,xs,rfl,sq,r⟩:=rx.lst_of;rw[gk]at p;cases e2:DA ds i with
      |ok d=>
       rw[e2]at p;obtain⟨v,hv,rv⟩:=Wc r e2;exact .inl ⟨q,xs,i,v,rfl,rfl,sq,hv,p v H2 (AE.refl H2) rv⟩
      |exn x=>exact(NT e2).elim
      |bad=>rw[e2]at p;exact p.elim
     |tup ds=>
      obtain⟨q,xs,rfl,_,sq,r⟩:=rx.tup_of;rw[gh]at p;cases e2:DA ds i with
      |ok d=>
       rw[e2]at p;obtain⟨v,hv,rv⟩:=Wc r e2;exact .inr ⟨q,xs,i,v,rfl,rfl,sq,hv,p v H2 (AE.refl H2) rv⟩
      |exn x=>exact(NT e2).elim
      |bad=>rw[e2]at p;exact p.elim
     |dic=>exact rx.plain.elim
     |_=>exact p.elim
    |_=>cases dx<;>first|exact p.elim|exact rx.plain.elim
theorem Q5:SA X CL W [] (λ_=>.ok []):=λA=>PA.weak Fk λY H Q ⟨hA,U,g,p⟩=>p [] H (AE.refl H) trivial
theorem QK(ha:SE X CL W a fa)(hs:SA X CL W es fs)(hst:As (a::es) X.env=(Ad,eval a X.env)::As es X.env):SA X CL W (a::es) (λU=>(fa U).bind λx=>(fs U).bind λxs=>.ok (x::xs)):=
 λA=>PA.weak (DM (ha A) (hs A) hst) λY H Q ⟨hA,U,g,p⟩=>by
  dsimp only at p;refine⟨hA,U,g,?_⟩;cases e:fa U with
  |bad=>rw[e]at p;exact p
  |exn x=>rw[e]at p;exact p
  |ok d=>
   rw[e]at p;intro v H1 s1 r1;refine⟨hA.same s1,U,g.same s1,?_⟩;cases e1:fs U with
   |bad=>rw[R.bind_ok,e1]at p;exact p
   |exn x=>rw[R.bind_ok,e1]at p;exact λH2 s2=>p H2 (s1.trans s2)
   |ok ds=>
    rw[R.bind_ok,e1]at p;exact λvs H2 s2 r2=>p (v::vs) H2 (s1.trans s2) ⟨r1.same s2,r2⟩
theorem WY(hs:SA X CL W es fs)(hz:∀ U ds,fs U=.ok ds->ds.length<=100000):SE X CL W (.Tuple es k pos) (λU=>(fs U).bind λxs=>.ok (.tup xs)):=
 λA=>PE.weak (W9 (hs A)) λY H Q ⟨hA,U,g,p⟩=>⟨hA,U,g,HU.bind p λds vs H1 e s1 r1 p1=>⟨by
  rw[r1.length,C9];have:=hz U ds e;omega,λq hq=>p1 _ _ (FS hq _) (Lx (hA.same s1) hq r1)⟩⟩
def KP(W:XW)(H:Hp)(r:R (Ao Af))(Q:Ao Af->Hp->Prop):Prop:=match r with
  |.ok o=>∀ H',AE H H'->Q o H'
  |.exn x=>∀ H',AE H H'->W x H'
  |.bad=>AV
theorem KP.bind{r:R (Ao Af)}{f:Ao Af->R D}(h:Bb Rq W H (r.bind f) Q)(k:∀ o H',r=.ok o->AE H H'->Bb Rq W H' (f o) Q->Q' o H'):KP W H r Q':=by
 cases r with
 |ok d=>exact λH2 s2=>k d H2 rfl s2 (Bb.same s2 h)
 |exn x=>exact h
 |bad=>exact h
def SO(X:Cx)(CL:ClA)(W:XW)(e:Ao Am)(f:Rho->R (Ao Af)):Prop:=∀ A,PO X e (λY H Q=>AOk H A/\∃ U,Good X.K CL A U Y H/\KP W H (f U) Q)
theorem PO.weak{e:Ao Am}{t t':TO}(h:PO X e t)(k:∀ Y H Q,t' Y H Q->t Y H Q):PO X e t':=λpI s Y H Q I q=>h pI s Y H Q I (k _ _ _ q)
theorem mU:SO X CL W Ae (λ_=>.ok Ae):=λA=>PO.weak pR λY H Q ⟨hA,U,g,p⟩=>p H (AE.refl H)
theorem mT(ha:ST X CL W a fa):SO X CL W (Aa a) (λU=>(fa U).bind λd=>(D3 d).bind λi=>.ok (Aa i)):=λA=>PO.weak (pQ (ha A)) λY H Q ⟨hA,U,g,p⟩=>by
 dsimp only at p;refine⟨hA,U,g,?_⟩;cases e:fa U with
 |bad=>rw[e]at p;exact p
 |exn x=>rw[e]at p;exact p
 |ok d=>
  rw[e]at p;intro v H1 s1 r1;cases d with
  |int i=>exact⟨i,r1.int_of,p H1 s1⟩
  |_=>exact p.elim
theorem VW{ds:Ac D}(lo hi:Ao Af)(r:Reps K CL H A xs ds):Reps K CL H A (JZ xs lo hi) (KR ds lo hi):=by
 unfold JZ KR;have e:∀ d o,HT.sIx xs.length d o=IA ds.length d o:=λd o=>by rw[r.length];cases o<;>rfl
 rw[e,e,r.length];exact(r.drop _).take _
end
section
variable{X:Cx}{CL:ClA}{W:XW}{a b c:Am}{fa fb fc:Rho->R D}{pos:AG}
def Gh(K:Fg)(CL:ClA)(H:Hp)(A:Al->Prop):Ac V->Ac D->Prop
 |[],[]=>HM
 |v::vs,d::ds=>CN K CL H A v d/\Gh K CL H A vs ds
 |_,_=>AV
theorem Gh.same{K:Fg}{H H':Hp}{A:Al->Prop}(s:AE H H'):∀{vs:Ac V}{ds:Ac D},Gh K CL H A vs ds->Gh K CL H' A vs ds
 |[],[],h=>h
 |_::_,_::_,h=>⟨h.1.same s,Gh.same s h.2⟩
 |[],_::_,h=>h.elim
 |_::_,[],h=>h.elim
theorem Gh.one(h:Gh K CL H A vs [d]):∃ v,vs=[v]/\CN K CL H A v d:=by
 cases vs with
 |nil=>exact h.elim
 |cons v vs=>
  cases vs with
  |nil=>exact⟨v,rfl,h.1⟩
  |cons=>exact h.2.elim
theorem Gh.two{e:D}(h:Gh K CL H A vs [d,e]):∃ v w',vs=[v,w']/\CN K CL H A v d/\CN K CL H A w' e:=by
 cases vs with
 |nil=>exact h.elim
 |cons v vs=>
  cases vs with
  |nil=>exact h.2.elim
  |cons w' vs=>
   cases vs with
   |nil=>exact⟨v,w',rfl,h.1,h.2.1⟩
   |cons=>exact h.2.2.elim
def SAT(X:Cx)(CL:ClA)(W:XW)(es:Ac Am)(f:Rho->R (Ac D)):Prop:=∀ A,PA X es (λY H Q=>AOk H A/\∃ U,Good X.K CL A U Y H/\HU (λH=>Gh X.K CL H A) W H (f U) Q)
theorem Vw:SAT X CL W [] (λ_=>.ok []):=λA=>PA.weak Fk λY H Q ⟨hA,U,g,p⟩=>p [] H (AE.refl H) trivial
theorem UE(ha:ST X CL W a fa)(hs:SAT X CL W es fs)(hst:As (a::es) X.env=(Ad,eval a X.env)::As es X.env):SAT X CL W (a::es) (λU=>(fa U).bind λx=>(fs U).bind λxs=>.ok (x::xs)):=
 λA=>PA.weak (DM (ha A) (hs A) hst) λY H Q ⟨hA,U,g,p⟩=>by
  dsimp only at p;refine⟨hA,U,g,?_⟩;cases e:fa U with
  |bad=>rw[e]at p;exact p
  |exn x=>rw[e]at p;exact p
  |ok d=>
   rw[e]at p;intro v H1 s1 r1;refine⟨hA.same s1,U,g.same s1,?_⟩;cases e1:fs U with
   |bad=>rw[R.bind_ok,e1]at p;exact p
   |exn x=>rw[R.bind_ok,e1]at p;exact λH2 s2=>p H2 (s1.trans s2)
   |ok ds=>
    rw[R.bind_ok,e1]at p;exact λvs H2 s2 r2=>p (v::vs) H2 (s1.trans s2) ⟨r1.same s2,r2⟩
def JV(X:Cx)(CL:ClA)(W:XW)(f:Aj)(g:Ac D->R D):Prop:=∀ A,HV X f (λxs H Q=>AOk H A/\∃ ds,Gh X.K CL H A xs ds/\Bb (λH=>Rep X.K CL H A) W H (g ds) Q)
theorem Op{x:Ah}{id:Da}{g:Ac D->R D}(hc:JV X CL W (.builtin id) g)(hg:Gl X x)(hm:X.mg x=Ae)(hv:C8 x=Aa (.builtin id))(ha:SAT X CL W (e::es) fs)(hn:x≠"__name__")(hdb:(x==("__debug__" : Ah))=Ad)(he:As (e::es) X.env=(Ad,eval e X.env)::As es X.env)(hpl:∀ pos,(BP pos (As es X.env)).any (·.1)=Ad):SE X CL W (.Call (.Name x p) (e::es) [] pos) (λU=>(fs U).bind g):=λA=>PE.weak (MG (hc A) hg hm hv (ha A) hn hdb he (hpl _)) λY H Q ⟨hA,U,gd,q⟩=>⟨hA,U,gd,HU.bind q λds vs H1 _ s1 r1 p1=>⟨hA.same s1,ds,r1,p1⟩⟩
theorem W2{x:Ah}{g:Ac D->R D}(hc:JV X CL W (.type T) g)(hg:Gl X x)(hm:X.mg x=Ae)(hv:C8 x=Aa (.type T))(ha:SAT X CL W (e::es) fs)(hn:x≠"__name__")(hdb:(x==("__debug__" : Ah))=Ad)(he:As (e::es) X.env=(Ad,eval e X.env)::As es X.env)(hpl:∀ pos,(BP pos (As es X.env)).any (·.1)=Ad):SE X CL W (.Call (.Name x p) (e::es) [] pos) (λU=>(fs U).bind g):=λA=>PE.weak (TU (hc A) hg hm hv (ha A) hn hdb he (hpl _)) λY H Q ⟨hA,U,gd,q⟩=>⟨hA,U,gd,HU.bind q λds vs H1 _ s1 r1 p1=>⟨hA.same s1,ds,r1,p1⟩⟩
theorem xP:JV X CL W (.builtin "len") (biD .len):=by
  intro A pI s Y H xs us Q I r ⟨hA,ds,rs,p⟩
  match ds,rs,p with
  |[.lst es],rs,p=>
    obtain⟨v,rfl,rv⟩:=rs.one;obtain⟨q,ys,rfl,sq,ry⟩:=rv.lst_of;exact Tt pI s Y H _ us Q I r ⟨q,ys,rfl,.inl sq,p _ H (AE.refl H) (by rw[ry.length];rfl)⟩
  |[.tup es],rs,p=>
    obtain⟨v,rfl,rv⟩:=rs.one;obtain⟨q,ys,rfl,_,sq,ry⟩:=rv.tup_of;exact Tt pI s Y H _ us Q I r ⟨q,ys,rfl,.inr sq,p _ H (AE.refl H) (by rw[ry.length];rfl)⟩
  |[.str x],rs,p=>
    obtain⟨v,rfl,rv⟩:=rs.one;have e:=rv.str_of;subst e;have p':Bb (λH=>Rep X.K CL H A) W H (if Dz x.length=Ab then .ok (.int x.length) else .bad) Q:=p
    split at p'
    · rename_i h;exact fA pI s Y H _ us Q I r ⟨x,rfl,Ip h,p' _ H (AE.refl H) rfl⟩
    · exact p'.elim
  |[],_,p=>exact p.elim
  |[.non],_,p=>exact p.elim
  |[.bl _],_,p=>exact p.elim
  |[.int _],_,p=>exact p.elim
  |[.obj _ _],_,p=>exact p.elim
  |[.exc _ _],_,p=>exact p.elim
  |[.dic _],rs,p=>first|exact p.elim|(obtain⟨v,rfl,rv⟩:=rs.one;exact rv.plain.elim)
  |x::_::_,_,p=>cases x<;>exact p.elim
theorem Ug:∀(is:Ac Af)(i:Af),IB i is∈i::is/\∀ a∈i::is,IB i is<=a
 |[],i=>⟨Ay,λa h=>by rw[Bl]at h;rw[h];exact J8 _⟩
 |j::r,i=>by
  obtain⟨h1,h2⟩:=Ug r (if j<i then j else i)
  refine⟨?_,λa h=>?_⟩
  .show IB (if j<i then j else i) r∈_
   rcases Av.mp h1 with e|e
   .rw[e];split
    .exact Aw _ Ay
    .exact Ay
   .exact Aw _ (Aw _ e)
  .show IB (if j<i then j else i) r<=a
   have h0:=h2 _ Ay;rcases Av.mp h with e|e
   .subst e;refine Jw h0 ?_;split<;>omega
   .rcases Av.mp e with e|e
    .subst e;refine Jw h0 ?_;split<;>omega
    .exact h2 a (Aw _ e)
theorem Tz:∀{is:Ac Af}{its:Ac Aj},A8 (is.map V.int) its->∃ xs:Ba (Af×CK),its.toArray=Mv xs/\xs.toList.map (·.1)=is
 |[],_,h=>by cases h;exact⟨#[],by simp[Mv],rfl⟩
 |i::is,_,h=>by
  cases h with
  |cons h1 h2=>
   obtain⟨t,rfl⟩:=h1;obtain⟨xs,e1,e2⟩:=Tz h2;refine⟨((i,t)::xs.toList).toArray,?_,?_⟩
   .apply Array.toList_inj.mp
    have e1':=congrArg Jv e1;simp[Mv]at e1' ⊢;exact e1'
   .simp[e2]
theorem gY(hc:X.calm=Ab):HV X (.builtin "min") (λxs H Q=>∃ a i is,xs=[.ref a]/\SqL X.K H a ((i::is).map V.int)/\Q (.int (IB i is)) H):=by
 intro pI s Y H xs us Q I r h;obtain⟨a,i,is,rfl,sq,q⟩:=h;obtain⟨u,rfl,ru⟩:=Hl r;cases ru;obtain⟨its,rv,pl,hz⟩:=I.list sq;obtain⟨ys,e1,e2⟩:=Tz rv;have hsz:0<ys.size:=by
  have:=congrArg YC e2;simp at this;omega
 have hl:=pl.isList;rw[e1]at hl;refine min_intList (I.ok.hd hc) hl hsz λv h' tk hv hk=>?_
 obtain⟨t,rfl⟩:=intItems_at hv;obtain⟨h1,h2⟩:=argBest_lt (IU ys) (ys.size-1);have nm:∀ j,j<ys.size->IU ys j∈i::is:=λj hj=>by
  rw[<-e2];unfold IU;rw[Fo hj];simp only[Et,Option.getD_some];exact C7.mpr ⟨ys[j],by simp,rfl⟩
 have nx:∀ x∈i::is,∃ j,j<ys.size/\IU ys j=x:=λx hx=>by
  rw[<-e2]at hx;obtain⟨y,hy,rfl⟩:=C7.mp hx;obtain⟨j,hj,ej⟩:=Yd.mp (Array.mem_toList_iff.mp hy);refine⟨j,hj,?_⟩;unfold IU;rw[Fo hj,ej];rfl
 obtain⟨m1,m2⟩:=Ug is i;have em:IU ys (argBest (λi j=>decide (IU ys i<IU ys j)) (ys.size-1))=IB i is:=by
  refine Int.le_antisymm ?_ (m2 _ (nm _ (by omega)))
  obtain⟨j,hj,ej⟩:=nx _ m1;rw[<-ej];exact h2 j (by omega)
 rw[em];exact⟨.int (IB i is),H,I.kept hk,⟨_,rfl⟩,q⟩
theorem NI{K:Fg}{CL:ClA}{H:Hp}{A:Al->Prop}:∀{es:Ac D}{is:Ac Af}{ys:Ac V},Hi es=Aa is->Reps K CL H A ys es->ys=is.map V.int
 |[],_,[],h,_=>by cases h;rfl
 |[],_,_::_,_,r=>r.elim
 |_::_,_,[],_,r=>r.elim
 |e::es,is,y::ys,h,r=>by
  cases e with
  |int i=>
   have h':(Hi es).map (i :: ·)=Aa is:=h;cases e2:Hi es with
   |none=>rw[e2]at h';cases h'
   |some js=>
    rw[e2]at h';cases h';have ih:=NI e2 r.2;have e1:y=.int i:=r.1;rw[ih,e1];rfl
  |_=>cases h
theorem iI(ds:Ac D)(hl:∀ es,ds≠[.lst es]):(∃ i j,ds=[.int i,.int j])\/biD .min ds=.bad:=by
 rcases ds with _|⟨x,_|⟨y,_|⟨z,r⟩⟩⟩
 .exact .inr rfl
 .cases x with
  |lst es=>exact absurd rfl (hl es)
  |_=>exact .inr rfl
 .cases x with
  |int i=>
   cases y with
   |int j=>exact .inl ⟨i,j,rfl⟩
   |_=>exact .inr rfl
  |_=>exact .inr rfl
 .cases x with
  |int i=>cases y<;>exact .inr rfl
  |_=>exact .inr rfl
theorem xO(hc:X.calm=Ab):JV X CL W (.builtin "min") (biD .min):=by
  intro A pI s Y H xs us Q I r ⟨hA,ds,rs,p⟩;by_cases hls:∃ es,ds=[.lst es]
  · obtain⟨es,rfl⟩:=hls;obtain⟨v,rfl,rv⟩:=rs.one;obtain⟨a,ys,rfl,sq,ry⟩:=rv.lst_of;have p':Bb (Rep X.K CL · A) W H (match Hi es with
      |some (i::is)=>R.ok (.int (IB i is))
      | _=>.bad) Q:=p
    cases e1:Hi es with
    |none=>rw[e1]at p';exact p'.elim
    |some is=>
      cases is with
      |nil=>rw[e1]at p';exact p'.elim
      |cons i is=>
        rw[e1]at p';have ey:=NI e1 ry;subst ey;exact gY hc pI s Y H _ us Q I r ⟨a,i,is,rfl,sq,p' _ H (AE.refl H) rfl⟩
  rcases iI ds (λes z=>hls ⟨es,z⟩) with ⟨i,j,rfl⟩|e
  · obtain⟨v,w',rfl,rv,rw'⟩:=rs.two;have e1:=rv.int_of;have e2:=rw'.int_of
    subst e1 e2;exact gZ hc pI s Y H _ us Q I r ⟨i,j,rfl,p _ H (AE.refl H) rfl⟩
  · rw[e]at p;exact p.elim
theorem xQ:JV X CL W (.type "int") (biD .int):=by
  intro A pI s Y H xs us Q I r ⟨hA,ds,rs,p⟩
  match ds,rs,p with
  |[.int i],rs,p=>
    obtain⟨v,rfl,rv⟩:=rs.one;have e:=rv.int_of;subst e;exact T7 pI s Y H _ us Q I r (.inl ⟨i,rfl,p _ H (AE.refl H) rfl⟩)
  |[.bl i],rs,p=>
    obtain⟨v,rfl,rv⟩:=rs.one;have e:=rv.bl_of;subst e;exact T7 pI s Y H _ us Q I r (.inr ⟨i,rfl,p _ H (AE.refl H) rfl⟩)
  |[],_,p=>exact p.elim
  |[.non],_,p=>exact p.elim
  |[.str _],_,p=>exact p.elim
  |[.tup _],_,p=>exact p.elim
  |[.lst _],_,p=>exact p.elim
  |[.obj _ _],_,p=>exact p.elim
  |[.exc _ _],_,p=>exact p.elim
  |[.dic _],rs,p=>first|exact p.elim|(obtain⟨v,rfl,rv⟩:=rs.one;exact rv.plain.elim)
  |x::_::_,_,p=>cases x<;>exact p.elim
theorem kH:JV X CL W (.type "tuple") (biD .tuple):=by
  intro A pI s Y H xs us Q I r ⟨hA,ds,rs,p⟩
  match ds,rs,p with
  |[.lst es],rs,p=>
    obtain⟨v,rfl,rv⟩:=rs.one;obtain⟨q,ys,rfl,sq,ry⟩:=rv.lst_of;exact Tv pI s Y H _ us Q I r ⟨q,ys,rfl,.inl ⟨sq,λl hl=>p _ _ (FS hl _) (Lx hA hl ry)⟩⟩
  |[.tup es],rs,p=>
    obtain⟨v,rfl,rv⟩:=rs.one;obtain⟨q,ys,rfl,na,sq,ry⟩:=rv.tup_of;exact Tv pI s Y H _ us Q I r ⟨q,ys,rfl,.inr ⟨sq,p _ H (AE.refl H) ⟨q,ys,rfl,na,sq,ry⟩⟩⟩
  |[],_,p=>exact p.elim
  |[.non],_,p=>exact p.elim
  |[.bl _],_,p=>exact p.elim
  |[.int _],_,p=>exact p.elim
  |[.str _],_,p=>exact p.elim
  |[.obj _ _],_,p=>exact p.elim
  |[.exc _ _],_,p=>exact p.elim
  |[.dic _],rs,p=>first|exact p.elim|(obtain⟨v,rfl,rv⟩:=rs.one;exact rv.plain.elim)
  |x::_::_,_,p=>cases x<;>exact p.elim
end
section
variable{X:Cx}{CL:ClA}{W:XW}{a b c:Am}{fa fb fc:Rho->R D}{pos:AG}
theorem SB.congr{g:Rho->R Ai}(h:SB X CL W a f)(e:∀ U,g U=f U):SB X CL W a g:=λA=>PT.weak (h A) λY H Q ⟨hA,U,q,p⟩=>⟨hA,U,q,by rw[<-e];exact p⟩
theorem W6(ha:SB X CL W a f):SB X CL W (.UnaryOp .Not a pos) (λU=>(f U).bind λb=>.ok (!b)):=λA=>PT.weak (uO (ha A)) λY H Q ⟨hA,U,g,p⟩=>⟨hA,U,g,Dj.bindB p λb H1 _ s1 p1=>p1 H1 (AE.refl H1)⟩
def SW(X:Cx)(CL:ClA)(W:XW)(e:Am)(f:Rho->R Ai):Prop:=∀ A,PW X e (λY H Q=>AOk H A/\∃ U,Good X.K CL A U Y H/\Dj W H (f U) Q)
theorem PW.weak{t t':TT}(h:PW X e t)(k:∀ Y H Q,t' Y H Q->t Y H Q):PW X e t':=λwh pI s Y H Q I q=>h wh pI s Y H Q I (k _ _ _ q)
theorem SW.sb(h:SW X CL W a f):SB X CL W a f:=λA=>PW.pt (h A)
theorem SW.congr{g:Rho->R Ai}(h:SW X CL W a f)(e:∀ U,g U=f U):SW X CL W a g:=λA=>PW.weak (h A) λY H Q ⟨hA,U,q,p⟩=>⟨hA,U,q,by rw[<-e];exact p⟩
theorem VJ(ha:SB X CL W a f):SW X CL W (.BoolOp .And [a] pos) f:=λA=>pG (ha A)
theorem WR(ha:SB X CL W a f):SW X CL W (.BoolOp .Or [a] pos) f:=λA=>uM (ha A)
theorem WS{g:Rho->R Ai}{rest:Ac Am}(ha:SB X CL W a f)(hb:SW X CL W (.BoolOp .And (b::rest) pos) g):SW X CL W (.BoolOp .And (a::b::rest) pos) (λU=>(f U).bind λc=>if c=Ab then g U else .ok Ad):=
 λA=>PW.weak (uN (ha A) (hb A)) λY H Q ⟨hA,U,gd,p⟩=>⟨hA,U,gd,Dj.bindB p λc H1 _ s1 p1=>by
  cases c with
  |true=>exact⟨hA.same s1,U,gd.same s1,p1⟩
  | false=>exact p1 H1 (AE.refl H1)⟩
theorem Xf{g:Rho->R Ai}{rest:Ac Am}(ha:SB X CL W a f)(hb:SW X CL W (.BoolOp .Or (b::rest) pos) g):SW X CL W (.BoolOp .Or (a::b::rest) pos) (λU=>(f U).bind λc=>if c=Ab then .ok Ab else g U):=
 λA=>PW.weak (dn (ha A) (hb A)) λY H Q ⟨hA,U,gd,p⟩=>⟨hA,U,gd,Dj.bindB p λc H1 _ s1 p1=>by
  cases c with
  |false=>exact⟨hA.same s1,U,gd.same s1,p1⟩
  | true=>exact p1 H1 (AE.refl H1)⟩
theorem vF(ho:OpD X CL W (CC op) g)(ha:ST X CL W a fa)(hb:ST X CL W b fb)(hm:Hg op b=Ad):SB X CL W (.Compare a [op] [b] pos) (λU=>(fa U).bind λx=>(fb U).bind λy=>(g x y).bind DF):=
 λA=>PT.weak (pL (ho A) (ha A) (hb A) hm) λY H Q ⟨hA,U,gd,p⟩=>⟨hA,U,gd,Dj.bind p λdx x H1 _ s1 r1 p1=>⟨hA.same s1,U,gd.same s1,Dj.bind p1 λdy y H2 _ s2 r2 p2=>
  ⟨(hA.same s1).same s2,dx,dy,r1.same s2,r2,Dj.bind p2 λdz z H3 _ s3 r3 p3=>by
   cases dz with
   |bl k=>exact⟨k,r3,p3 H3 (AE.refl H3)⟩
   | _=>exact p3.elim⟩⟩⟩
theorem jP{op':Dg}(hu:X.A.units+64<BW)(ha:ST X CL W a fa)(hb:ST X CL W b fb)(hc:ST X CL W c fc)(hm:JG [op,op'] [b,c]=Ad):SB X CL W (.Compare a [op,op'] [b,c] pos) (λU=>(fa U).bind λx=>(fb U).bind λy=>(B1 op x y).bind λz=>(DF z).bind λk=>if k=Ab then (fc U).bind λu=>(B1 op' y u).bind DF else .ok Ad):=
  λA=>PT.weak (iT (Lw hu op A) (Lw hu op' A) (ha A) (hb A) (hc A) hm) λY H Q ⟨hA,U,g,p⟩=>⟨hA,U,g,Dj.bind p λdx x H1 _ s1 r1 p1=>⟨hA.same s1,U,g.same s1,Dj.bind p1 λdy y H2 _ s2 r2 p2=>
    ⟨(hA.same s1).same s2,dx,dy,r1.same s2,r2,Dj.bind p2 λdz z H3 _ s3 r3 p3=>by
      cases dz with
      |bl k=>
        refine⟨k,r3,?_⟩;cases k with
        |false=>exact⟨Ad,rfl,p3 H3 (AE.refl H3)⟩
        | true=>exact⟨((hA.same s1).same s2).same s3,U,((g.same s1).same s2).same s3,Dj.bind p3 λdu u H4 _ s4 r4 p5=>⟨(((hA.same s1).same s2).same s3).same s4,dy,du,(r2.same s3).same s4,r4,Dj.bind p5 λdv v H5 _ s5 r5 p6=>by
            cases dv with
            |bl k'=>exact⟨k',r5,p6 H5 (AE.refl H5)⟩
            | _=>exact p6.elim⟩⟩
      | _=>exact p3.elim⟩⟩⟩
theorem W5(ha:ST X CL W a fa)(he:∀ whole,IK a X.env whole=(do let v <-whole;HA a.pos;holding [v] (truthy v))):SB X CL W a (λU=>(fa U).bind BN):=
 λA=>PT.weak (iS (ha A) he) λY H Q ⟨hA,U,g,p⟩=>⟨hA,U,g,Dj.bind p λd v H1 _ s1 r1 p1=>by
  cases d with
  |non=>
   have e:=r1.non_of;subst e;exact⟨Ad,rfl,p1 H1 (AE.refl H1)⟩
  |bl b=>
   have e:=r1.bl_of;subst e;exact⟨b,rfl,p1 H1 (AE.refl H1)⟩
  |int i=>
   have e:=r1.int_of;subst e;exact⟨_,rfl,p1 H1 (AE.refl H1)⟩
  |str x=>
   have e:=r1.str_of;subst e;have p2:Dj W H1 (if Dz x.length=Ab then .ok (x.length != 0) else .bad) Q:=p1
   split at p2
   .rename_i h;refine⟨_,⟨Ip h,rfl⟩,?_⟩;have e:((x.length:Af) != 0)=(x.length != 0):=by
     rw[DS];simp
    rw[e];exact p2 H1 (AE.refl H1)
   .exact p2.elim
  |tup ds=>
   obtain⟨q,xs,rfl,_,sq,r⟩:=r1.tup_of;refine⟨_,.inr (.inl ⟨xs,sq,rfl⟩),?_⟩;have e:xs.isEmpty=ds.isEmpty:=by
    have:=r.length;cases xs<;>cases ds<;>first|rfl|cases this
   rw[e];exact p1 H1 (AE.refl H1)
  |lst ds=>
   obtain⟨q,xs,rfl,sq,r⟩:=r1.lst_of;refine⟨_,.inl ⟨xs,sq,rfl⟩,?_⟩;have e:xs.isEmpty=ds.isEmpty:=by
    have:=r.length;cases xs<;>cases ds<;>first|rfl|cases this
   rw[e];exact p1 H1 (AE.refl H1)
  | _=>exact p1.elim⟩
noncomputable def cO(K:Fg)(CL:ClA)(H:Hp)(A:Al->Prop)(cls:Aj)(dx:Ao Al)(x:Ex):Prop:=
 ∃ C,CL x.c=Aa C/\cls=.ref C/\(x.fs=[]\/∃ d vs,dx=Aa d/\¬ A d/\H d=Aa (.xd vs)/\Repf K CL H A vs x.fs)
def Gg(K:Fg)(CL:ClA)(H:Hp)(cls:Aj)(dx:Ao Al)(x:Ex):Prop:=∀ A,AOk H A->cO K CL H A cls dx x
end
def BG(B:Al->Prop)(U:Rho)(Y:L2.St):Al->Prop:=λa=>B a\/∃(j:Ag)(d:D),U[j]?=Aa (Aa (d,Ab))/\Y[j]?=Aa (Aa (.ref a))
structure Sx (K:Fg) (CL:ClA) (Fz:Al->HO->Prop) (B:Al->Prop) (U:Rho) (Y:L2.St) (H:Hp):Prop where
 good:Good K CL (BG B U Y) U Y H
 aok:AOk H (BG B U Y)
 new:∀(j:Ag)(d:D)(a:Al),U[j]?=Aa (Aa (d,Ab))->Y[j]?=Aa (Aa (.ref a))->(∀ o,¬ Fz a o)/\¬ B a
 dis:∀(i j:Ag)(d e:D)(a:Al),U[i]?=Aa (Aa (d,Ab))->U[j]?=Aa (Aa (e,Ab))->Y[i]?=Aa (Aa (.ref a))->Y[j]?=Aa (Aa (.ref a))->i=j
 same:∀ b o,Fz b o->H b=Aa o
 len:U.length=Y.length
def BS(K:Fg)(CL:ClA)(Fz:Al->HO->Prop)(B:Al->Prop)(W:XW)(o:O)(D:Ends):Prop:=match o with
  |.next U=>∀ Y H,Sx K CL Fz B U Y H->D.nx Y H
  |.brk U=>∀ Y H,Sx K CL Fz B U Y H->D.bk Y H
  |.cont U=>∀ Y H,Sx K CL Fz B U Y H->D.ct Y H
  |.ret d fr=>∀ v H,(∀ b o,Fz b o->H b=Aa o)->Rep K CL H B v d->(fr=Ab->∀ ds,d=.lst ds->∃ a xs,v=.ref a/\(∀ o,¬ Fz a o)/\H a=Aa (.lst xs)/\Reps K CL H (λb=>B b\/b=a) xs ds)->D.rt v H
  |.exn x _=>∀ H,(∀ b o,Fz b o->H b=Aa o)->W x H
  |.bad=>AV
section
variable{K:Fg}{CL:ClA}{Fz Fy:Al->HO->Prop}{B:Al->Prop}{U:Rho}{Y:L2.St}{H H':Hp}
theorem Sx.mono(k:∀ b o,Fz b o->Fy b o)(x:Sx K CL Fy B U Y H):Sx K CL Fz B U Y H:=⟨x.good,x.aok,λj d a h1 h2=>⟨λo z=>(x.new j d a h1 h2).1 o (k _ _ z),(x.new j d a h1 h2).2⟩,x.dis,λb o z=>x.same b o (k _ _ z),x.len⟩
theorem Sx.grow(x:Sx K CL Fz B U Y H)(s:AE H H'):Sx K CL Fz B U Y H':=⟨x.good.same s,x.aok.same s,x.new,x.dis,λb o z=>s _ _ (x.same b o z),x.len⟩
theorem Ca{l:Ac α}{v:α}(h:i≠j):(l.set i v)[j]?=l[j]?:=by rw[Gp h]
theorem GP{l:Ac α}{v w':α}(h:(l.set i v)[i]?=Aa w'):w'=v:=by
 rw[FO]at h;cases e:l[i]? with
 |none=>rw[e]at h;cases h
 |some x=>rw[e]at h;cases h;rfl
theorem Sx.set(x:Sx K CL Fz B U Y H){v:V}{d:D}(i:Ag)(r:Rep K CL H (BG B U Y) v d):Sx K CL Fz B (U.set i (Aa (d,Ad))) (Y.set i (Aa v)) H:=by
 have own:∀(j:Ag)(e:D),(U.set i (Aa (d,Ad)))[j]?=Aa (Aa (e,Ab))->i≠j/\U[j]?=Aa (Aa (e,Ab)):=λj e h=>by
  by_cases hj:i=j
  .subst hj;have:=GP h;cases this
  .exact⟨hj,by rw[Ca hj]at h;exact h⟩
 have sub:∀ a,BG B (U.set i (Aa (d,Ad))) (Y.set i (Aa v)) a->BG B U Y a:=λa h=>by
  rcases h with h|⟨j,e,h1,h2⟩
  .exact .inl h
  .obtain⟨hj,h1⟩:=own j e h1;rw[Ca hj]at h2;exact .inr ⟨j,e,h1,h2⟩
 refine⟨⟨λj e h=>?_,λj e h=>?_,by rw[A5,A5];exact x.len⟩,λa h=>x.aok a (sub a h),λj e a h1 h2=>?_,λj k e f a h1 h2 h3 h4=>?_,x.same,by rw[A5,A5];exact x.len⟩
 .by_cases hj:i=j
  .subst hj;have e1:=GP h;cases e1;refine⟨v,?_,Rep.sub sub _ r⟩;have hl:i<Y.length:=by
    rw[<-x.len];have:=(A2.mp h).1;simpa using this
   rw[C5 hl]
  .rw[Ca hj]at h;obtain⟨w',q,rw'⟩:=x.good.sh j e h;exact⟨w',by rw[Ca hj];exact q,Rep.sub sub _ rw'⟩
 .obtain⟨hj,h1⟩:=own j e h;obtain⟨a,xs,ds,q,z,ha,hh,rr⟩:=x.good.ow j e h1;exact⟨a,xs,ds,by rw[Ca hj];exact q,z,.inr ⟨j,e,h,by rw[Ca hj];exact q⟩,hh,Reps.sub sub _ rr⟩
 .obtain⟨hj,h1⟩:=own j e h1;rw[Ca hj]at h2;exact x.new j e a h1 h2
 .obtain⟨hj,h1⟩:=own j e h1;obtain⟨hk,h2⟩:=own k f h2;rw[Ca hj]at h3;rw[Ca hk]at h4;exact x.dis j k e f a h1 h2 h3 h4
end
section
variable{X:Cx}{CL:ClA}{W:XW}{pos:AG}{e:Am}{fe:Rho->R D}
def SS(X:Cx)(CL:ClA)(W:XW)(st:AO)(f:Rho->O):Prop:=∀ Fz B,PS X st (λD Y H=>∃ U,Sx X.K CL Fz B U Y H/\BS X.K CL Fz B W (f U) D)
def SSs(X:Cx)(CL:ClA)(W:XW)(st:Ac AO)(f:Rho->O):Prop:=∀ Fz B,PSs X st (λD Y H=>∃ U,Sx X.K CL Fz B U Y H/\BS X.K CL Fz B W (f U) D)
theorem PS.weak{e:AO}{t t':TS}(h:PS X e t)(k:∀ D Y H,t' D Y H->t D Y H):PS X e t':=λpI s Y H D I q=>h pI s Y H D I (k _ _ _ q)
theorem PSs.weak{e:Ac AO}{t t':TS}(h:PSs X e t)(k:∀ D Y H,t' D Y H->t D Y H):PSs X e t':=λpI s Y H D I q=>h pI s Y H D I (k _ _ _ q)
theorem BS.ex{f:D->O}(x:Sx X.K CL Fz B U Y H)(h:BS X.K CL Fz B W (O.of U r f) D')(k:∀ d v H',r=.ok d->AE H H'->Rp H' v d->Sx X.K CL Fz B U Y H'->BS X.K CL Fz B W (f d) D'->Q v H'):Bb Rp W H r Q:=by
 cases r with
 |ok d=>exact λv H' s r=>k d v H' rfl s r (x.grow s) h
 |exn y=>exact λH' s=>h H' λb o z=>s _ _ (x.same b o z)
 |bad=>exact h
theorem BS.exB{r:R Ai}{f:Ai->O}{Q:Ai->Hp->Prop}(x:Sx X.K CL Fz B U Y H)(h:BS X.K CL Fz B W (O.of U r f) D')(k:∀ b H',r=.ok b->AE H H'->Sx X.K CL Fz B U Y H'->BS X.K CL Fz B W (f b) D'->Q b H'):Dj W H r Q:=by
 cases r with
 |ok d=>exact λH' s=>k d H' rfl s (x.grow s) h
 |exn y=>exact λH' s=>h H' λb o z=>s _ _ (x.same b o z)
 |bad=>exact h
theorem mQ(he:SE X CL W e fe)(hs:CZ e Ae pos.line X.env=pure Ad):SS X CL W (.Expr e pos) (λU=>O.of U (fe U) λ_=>.next U):=λFz B pI s Y H D I ⟨U,x,p⟩=>
 Kt (he (BG B U Y)) hs pI s Y H D I ⟨x.aok,U,x.good,BS.ex x p λd v H' _ s r x' q=>q Y H' x'⟩
theorem sQ{n:Ah}(hN:X.N.Nodup)(hi:X.N[i]?=Aa n)(hx:Loc X.env.scope n)(he:SE X CL W e fe)(hs:CZ e (Aa (.Name n pos')) pos.line X.env=pure Ad)(hf:X.fn n=Ab\/X.env.scope.names.lookup n=Aa .local):SS X CL W (.Assign [.Name n pos'] e pos) (λU=>O.of U (fe U) λd=>.next (U.set i (Aa (d,Ad)))):=λFz B pI s Y H D I ⟨U,x,p⟩=>
 Oh hN hi hx (he (BG B U Y)) hs hf pI s Y H D I ⟨x.aok,U,x.good,BS.ex x p λd v H' _ s r x' q=>q _ H' (x'.set i r)⟩
theorem VN(he:SE X CL W e fe):SS X CL W (.Return (Aa e) pos) (λU=>O.of U (fe U) λd=>.ret d Ad):=λFz B pI s Y H D I ⟨U,x,p⟩=>
 Q6 (he (BG B U Y)) pI s Y H D I ⟨x.aok,U,x.good,BS.ex x p λd v H' _ s r x' q=>q v H' x'.same (Rep.sub (λa h=>.inl h) _ r) λz=>nomatch z⟩
theorem Xr{a b:Ac AO}{fa fb:Rho->O}(hc:SB X CL W c fc)(ha:SSs X CL W a fa)(hb:SSs X CL W b fb):SS X CL W (.If c a b pos) (λU=>O.of U (fc U) λk=>if k=Ab then fa U else fb U):=λFz B pI s Y H D I ⟨U,x,p⟩=>
 dr (hc (BG B U Y)) (ha Fz B) (hb Fz B) pI s Y H D I ⟨x.aok,U,x.good,BS.exB x p λk H' _ s x' q=>by
  cases k with
  |true=>exact⟨U,x',q⟩
  | false=>exact⟨U,x',q⟩⟩
theorem QI:SSs X CL W [] (λU=>.next U):=λFz B=>PSs.weak pM λD Y H ⟨U,x,p⟩=>p Y H x
theorem Kv{st:AO}{rest:Ac AO}{f g:Rho->O}(h1:SS X CL W st f)(h2:SSs X CL W rest g):SSs X CL W (st::rest) (λU=>(f U).seq g):=λFz B=>PSs.weak (UK (h1 Fz B) (h2 Fz B)) λD Y H ⟨U,x,p⟩=>⟨U,x,by
 dsimp only at p;cases e:f U with
 |next U'=>rw[e]at p;exact λY' H' x'=>⟨U',x',p⟩
 |ret d b=>rw[e]at p;exact p
 |brk U'=>rw[e]at p;exact p
 |cont U'=>rw[e]at p;exact p
 |exn y U'=>rw[e]at p;exact p
 | bad=>rw[e]at p;exact p⟩
end
def Jk(K:Fg)(CL:ClA)(A:Al->Prop)(ds:Ac D)(J:It)(H1:Hp):Prop:=∀ H,Kp A H1 H->∀ i:Ag,(ds.length<=i->J.stop i H)/\∀ d,ds[i]?=Aa d->J.go i H/\∀ x H',J.yld i H x H'->AE H H'/\∀ B,(∀ a,B a->A a\/H1 a=Ae)->AOk H B->Rep K CL H' B x d
def EX(K:Fg)(CL:ClA)(A:Al->Prop)(W:XW)(H:Hp)(r:R (Ac D))(Q:It->Hp->Prop):Prop:=match r with
  |.ok ds=>∀ J H',AE H H'->Jk K CL A ds J H'->ds.length<=sizeLine->Q J H'
  |.exn x=>∀ H',AE H H'->W x H'
  |.bad=>AV
def SI(X:Cx)(CL:ClA)(W:XW)(tg iter:Am)(f:Rho->R (Ac D)):Prop:=∀ A,PI X tg iter (λY H R=>AOk H A/\∃ U,Good X.K CL A U Y H/\EX X.K CL A W H (f U) R)
theorem PI.weak{t t':TI}(h:PI X tg e t)(k:∀ Y H Q,t' Y H Q->t Y H Q):PI X tg e t':=λpI s Y H Q I q=>h pI s Y H Q I (k _ _ _ q)
section
variable{X:Cx}{CL:ClA}{W:XW}{pos p:AG}{tg e a b:Am}{fe fa fb:Rho->R D}
theorem EX.ex{f:D->R (Ac D)}{Q:It->Hp->Prop}{Q':VK}(h:EX X.K CL A W H (r.bind f) Q)(k:∀ d v H',r=.ok d->AE H H'->Rp H' v d->EX X.K CL A W H' (f d) Q->Q' v H'):Bb Rp W H r Q':=by
  cases r with
  | ok d=>exact λv H' s q=>k d v H' rfl s q (by
      have h':EX X.K CL A W H (f d) Q:=h;cases e:f d with
      |ok ds=>rw[e]at h';exact λJ H2 s2 y z=>h' J H2 (s.trans s2) y z
      |exn y=>rw[e]at h';exact λH2 s2=>h' H2 (s.trans s2)
      | bad=>rw[e]at h';exact h')
  |exn y=>exact h
  |bad=>exact h
theorem ME{x:V}(r:Rep K CL H1 A x d)(k:Kp A H1 H)(hB:∀ a,B a->A a\/H1 a=Ae):Rep K CL H B x d:=by
 have r1:Rep K CL H1 (λa=>A a\/B a) x d:=Rep.wide (λa ha=>ha.elim .inl (hB a)) _ r
 have r2:Rep K CL H (λa=>A a\/B a) x d:=Rep.kp (λb o e na=>k b o e λz=>na (.inl z)) _ r1
 exact Rep.sub (λa ha=>.inr ha) _ r2
theorem gA{ds:Ac D}(na:¬ A q\/KL K q xs)(s:SqL K H q xs)(r:Reps K CL H A xs ds):Jk K CL A ds (Itl K q) H:=λH' k i=>by
 have s':=On k na s;refine⟨λh=>⟨xs,s',by rw[r.length];exact h⟩,λd hd=>?_⟩
 obtain⟨v,hv,rv⟩:=r.get hd;exact⟨⟨xs,v,s',hv⟩,λx H2 ⟨e,y⟩=>by
  subst e;have:=y xs s';rw[hv]at this;cases this;exact⟨AE.refl _,λB hB _=>ME rv k hB⟩⟩
theorem kC{ds:Ac D}(na:¬ A q\/KT K q xs)(s:SqT K H q xs)(r:Reps K CL H A xs ds):Jk K CL A ds (Itt K q) H:=λH' k i=>by
 have s':=Om k na s;refine⟨λh=>⟨xs,s',by rw[r.length];exact h⟩,λd hd=>?_⟩
 obtain⟨v,hv,rv⟩:=r.get hd;exact⟨⟨xs,v,s',hv⟩,λx H2 ⟨e,y⟩=>by
  subst e;have:=y xs s';rw[hv]at this;cases this;exact⟨AE.refl _,λB hB _=>ME rv k hB⟩⟩
theorem UX(lo:Af)(n:Ag):Jk K CL A (Cb lo n) (Itr lo n) H:=λH' k i=>by
 refine⟨λh=>by rw[Ll]at h;exact h,λd hd=>?_⟩
 obtain⟨h1,rfl⟩:=U_5 hd;exact⟨h1,λx H2 ⟨e,y⟩=>by
  subst e y;exact⟨AE.refl _,λ_ _ _=>rfl⟩⟩
theorem wK{l:Am}{tl:TE}(hl:PE X l tl):PI X tg l (λY H R=>tl Y H λx H1=>(∃ a,x=.ref a/\(∃ xs,SqL X.K H1 a xs/\(xs.length<=sizeLine->R (Itl X.K a) H1)))\/∃ a,x=.ref a/\(∃ xs,SqT X.K H1 a xs/\(xs.length<=sizeLine->R (Itt X.K a) H1))):=by
 intro pI s Y H R I h;refine thn (hl pI s Y H _ I h) λv s1 ⟨x,H1,I1,r1,q1⟩=>?_
 rcases q1 with ⟨a,e,xs,hq,q⟩|⟨a,e,xs,hq,q⟩
 .subst e;cases r1;obtain⟨its,rv,p,hz⟩:=I1.list hq;refine EE p.isList ?_;refine⟨s1.heap.objs.size,[s1.heap.objs.size],_,_,H1,rfl,I1.kept (t':=s1.toks) λb o e=>Ar _ e,gR a _,⟨_,AH _ rfl,rfl,rfl⟩,λb hb=>?_,q hz⟩
  have e:b=s1.heap.objs.size:=by simpa using hb
  subst e;exact I1.fpOk (AU _) (I1.hok.fresh (AU _))
 .subst e;cases r1;obtain⟨its,rv,p,hz⟩:=I1.tuple hq;refine Ev (show s1.heap.IsTuple a its.toArray from p) ?_
  refine⟨s1.heap.objs.size,[s1.heap.objs.size],_,_,H1,rfl,I1.kept (t':=s1.toks) λb o e=>Ar _ e,gE a _,⟨_,AH _ rfl,rfl,rfl⟩,λb hb=>?_,q hz⟩
  have e:b=s1.heap.objs.size:=by simpa using hb
  subst e;exact I1.fpOk (AU _) (I1.hok.fresh (AU _))
theorem eB(he:SE X CL W e fe):SI X CL W tg e (λU=>(fe U).bind Db):=λA=>PI.weak (wK (he A)) λY H R ⟨hA,U,g,p⟩=>⟨hA,U,g,EX.ex p λd v H1 _ s1 r1 p1=>by
 cases d with
 |lst ds=>
  obtain⟨q,xs,rfl,na,sq,r⟩:=r1;exact .inl ⟨q,rfl,xs,sq,λhz=>p1 _ H1 (AE.refl H1) (gA na sq r) (by rw[<-r.length];exact hz)⟩
 |tup ds=>
  obtain⟨q,xs,rfl,na,sq,r⟩:=r1;exact .inr ⟨q,rfl,xs,sq,λhz=>p1 _ H1 (AE.refl H1) (kC na sq r) (by rw[<-r.length];exact hz)⟩
 | _=>exact p1.elim⟩
theorem Qa{hi:Af}{ds:Ac D}(h:CT lo hi=.ok ds):(-(2 ^ 62)<=lo/\lo<2 ^ 62)/\(-(2 ^ 62)<=hi/\hi<2 ^ 62)/\ds=Cb lo (hi-lo).toNat/\(Cb lo (hi-lo).toNat).length<=sizeLine:=by
 unfold CT at h;split at h
 .rename_i q;cases h;exact⟨by omega,by omega,rfl,by rw[Ll,C9];omega⟩
 .cases h
theorem PK{hi:Af}(h:CT lo hi=.exn x):AV:=by
 unfold CT at h;split at h<;>cases h
theorem uV(ha:ST X CL W a fa)(hg:Gl X "range")(hm:X.mg "range" = Ae)(hs:As [a] X.env=[(Ad,eval a X.env)]):SI X CL W tg (.Call (.Name "range" p) [a] [] pos) (λU=>(fa U).bind λx=>(D3 x).bind λj=>CT 0 j):=
 λA=>PI.weak (gP hg hm (DM (ha A) Fk hs) hs) λY H R ⟨hA,U,g,q⟩=>⟨hA,U,g,EX.ex q λd v H1 _ s1 r1 p1=>by
  cases d with
  |int j=>
   have e:=r1.int_of;subst e;have p2:EX X.K CL A W H1 (CT 0 j) R:=p1;cases e2:CT 0 j with
   |ok ds=>
    rw[e2]at p2;obtain⟨_,h2,rfl,hz⟩:=Qa e2;exact⟨j,rfl,h2.1,h2.2,p2 _ H1 (AE.refl H1) (by rw[Yo];exact UX 0 j.toNat) hz⟩
   |exn y=>exact(PK e2).elim
   |bad=>rw[e2]at p2;exact p2.elim
  | _=>exact p1.elim⟩
theorem mW(ha:ST X CL W a fa)(hb:ST X CL W b fb)(hg:Gl X "range")(hm:X.mg "range" = Ae)(hs:As [a,b] X.env=[(Ad,eval a X.env),(Ad,eval b X.env)])(hs2:As [b] X.env=[(Ad,eval b X.env)]):
  SI X CL W tg (.Call (.Name "range" p) [a,b] [] pos) (λU=>(fa U).bind λx=>(fb U).bind λy=>(D3 x).bind λi=>(D3 y).bind λj=>CT i j):=
 λA=>PI.weak (gO hg hm (DM (ha A) (DM (hb A) Fk hs2) (by rw[hs,hs2])) hs hs2) λY H R ⟨hA,U,g,q⟩=>⟨hA,U,g,EX.ex q λd v H1 _ s1 r1 p1=>⟨hA.same s1,U,g.same s1,EX.ex p1 λd2 v2 H2 _ s2 r2 p2=>by
  cases d with
  |int i=>
   cases d2 with
   |int j=>
    have e:=r1.int_of;have e':=r2.int_of
    subst e e';have p3:EX X.K CL A W H2 (CT i j) R:=p2;cases e2:CT i j with
    |ok ds=>
     rw[e2]at p3;obtain⟨h1,h2,rfl,hz⟩:=Qa e2;exact⟨i,j,rfl,⟨h1.1,h1.2,h2.1,h2.2⟩,p3 _ H2 (AE.refl H2) (UX _ _) hz⟩
    |exn y=>exact(PK e2).elim
    |bad=>rw[e2]at p3;exact p3.elim
   |_=>exact p2.elim
  | _=>exact p2.elim⟩⟩
theorem BS.exI{r:R (Ac D)}{f:Ac D->O}{Q:It->Hp->Prop}(x:Sx X.K CL Fz B U Y H)(h:BS X.K CL Fz B W (O.of U r f) D')(k:∀ ds J H',r=.ok ds->AE H H'->Jk X.K CL A ds J H'->ds.length<=sizeLine->Sx X.K CL Fz B U Y H'->BS X.K CL Fz B W (f ds) D'->Q J H'):EX X.K CL A W H r Q:=by
 cases r with
 |ok d=>exact λJ H' s y z=>k d J H' rfl s y z (x.grow s) h
 |exn y=>exact λH' s=>h H' λb o z=>s _ _ (x.same b o z)
 |bad=>exact h
theorem BS.turn{Fy:Al->HO->Prop}{o:O}{g:Rho->O}{N:L2.St->Hp->Prop}(hf:∀ b q,Fz b q->Fy b q)(h:BS K CL Fz B W (o.turn g) D')(k:∀ U' Y' H',Sx K CL Fy B U' Y' H'->BS K CL Fz B W (g U') D'->N Y' H'):BS K CL Fy B W o {D' with nx:=N,ct:=N,bk:=D'.nx}:=by
 cases o with
 |next U'=>exact λY' H' x=>k U' Y' H' x h
 |cont U'=>exact λY' H' x=>k U' Y' H' x h
 |brk U'=>exact λY' H' x=>h Y' H' (x.mono hf)
 |ret d b=>exact λv H' s r n=>h v H' (λb o z=>s b o (hf b o z)) r λz ds e=>let ⟨a,xs,h1,h2,h3⟩:=n z ds e;⟨a,xs,h1,λo q=>h2 o (hf a o q),h3⟩
 |exn y U'=>exact λH' s=>h H' (λb o z=>s b o (hf b o z))
 |bad=>exact h
noncomputable def FJ(ts:Ac Ag)(U:Rho):Rho:=ts.foldl (λU t=>U.set t Ae) U
def GT(K:Fg)(CL:ClA)(as:D->Rho->R Rho)(g:TG):Prop:=∀ Fz B U Y H v d U' Q,Sx K CL Fz B U Y H->Rep K CL H (BG B U Y) v d->as d U=.ok U'->(∀ Y',Sx K CL Fz B U' Y' H->Q Y' H)->g v Y H Q
theorem rR(i:Ag):GT K CL (λd U=>.ok (U.set i (Aa (d,Ad)))) (Fl i):=λFz B U Y H v d U' Q x r e k=>by
 cases e;exact k _ (x.set i r)
theorem Rk{K:Fg}{Fz:Al->HO->Prop}{B:Al->Prop}{H:Hp}:∀(ts:Ac Ag)(ds:Ac D)(vs:Ac V)(U U':Rho)(Y:L2.St)(Q:L2.St->Hp->Prop),Sx K CL Fz B U Y H->Reps K CL H (BG B U Y) vs ds->EV ts ds U=Aa U'->(∀ Y',Sx K CL Fz B U' Y' H->Q Y' H)->(ts.foldr (λt u=>HX (Fl t) u) Ib) vs Y H Q
 |[],[],[],U,U',Y,Q,x,_,e,k=>by
  cases e;exact⟨rfl,k Y x⟩
 |t::ts,d::ds,v::vs,U,U',Y,Q,x,r,e,k=>by
  refine⟨v,vs,rfl,Rk ts ds vs _ U' _ Q (x.set t r.1) (Reps.sub (λa ha=>?_) ds r.2) e k⟩
  rcases ha with ha|⟨j,c,h1,h2⟩
  .exact .inl ha
  .by_cases hj:t=j
   .subst hj;have:=GP h1;cases this
   .rw[Ca hj]at h1 h2;exact .inr ⟨j,c,h1,h2⟩
 |[],_::_,_,_,_,_,_,_,_,e,_=>by cases e
 |_::_,[],_,_,_,_,_,_,_,e,_=>by cases e
 |[],[],_::_,_,_,_,_,_,r,_,_=>r.elim
 |_::_,_::_,[],_,_,_,_,_,r,_,_=>r.elim
theorem NE:∀(ts:Ac Ag)(ds:Ac D)(U U':Rho),EV ts ds U=Aa U'->ds.length=ts.length
 |[],[],_,_,_=>rfl
 |_::ts,_::ds,_,_,e=>congrArg (· + 1) (NE ts ds _ _ e)
 |[],_::_,_,_,e=>by cases e
 |_::_,[],_,_,e=>by cases e
theorem Wx(ts:Ac Ag):GT K CL (GU ts) (Mj K ts.length (ts.foldr (λt u=>HX (Fl t) u) Ib)):=λFz B U Y H v d U' Q x r e k=>by
 cases d with
 |tup ds=>
  obtain⟨a,xs,rfl,na,sq,rs⟩:=r;rw[TZ]at e;cases e2:EV ts ds U with
  |none=>rw[e2]at e;cases e
  |some U2=>
   rw[e2]at e;cases e;exact⟨a,xs,rfl,sq,by rw[rs.length];exact NE _ _ _ _ e2,Rk ts ds xs U _ Y Q x rs e2 k⟩
 |_=>cases e
theorem WU{body:Ac AO}{fbd:Rho->O}{g:TG}(hp:FH (model X.prog X.w) X.A X.env X.xe)(hc:X.calm=Ab)(hGT:GT X.K CL as g)(hg:PG X tg g)(hit:SI X CL W tg iter fi)(hb:SSs X CL W body fbd)(hs:∀ x,CV iter X.env x=pure x)(hax:∀ d U x,as d U≠.exn x):SS X CL W (.For tg iter body [] pos) (λU=>O.of U (fi U) λxs=>CY (λx U'=>O.of U' (as x U') fbd) xs U):=λFz B pI s Y H D I ⟨U,x,p⟩=>by
 refine tJ hp hc (hit (BG B U Y)) hg (tb:=λD Y H=>∃ Fy,(λD Y H=>∃ U,Sx X.K CL Fy B U Y H/\BS X.K CL Fy B W (fbd U) D) D Y H) (λpI s Y H D I ⟨Fy,q⟩=>hb Fy B pI s Y H D I q) hs pI s Y H D I ⟨x.aok,U,x.good,BS.exI x p λds J H1 _ s1 y _ x1 q=>?_⟩
 let Fy:Al->HO->Prop:=λb o=>H1 b=Aa o/\¬ ∃(j:Ag)(d:Ov.D),U[j]?=Aa (Aa (d,Ab))/\Y[j]?=Aa (Aa (.ref b))
 have hfy:∀ b o,Fz b o->Fy b o:=λb o z=>⟨x1.same b o z,λ⟨j,d,h1,h2⟩=>(x1.new j d b h1 h2).1 o z⟩
 have xy:Sx X.K CL Fy B U Y H1:=⟨x1.good,x1.aok,λj d a h1 h2=>⟨λo z=>z.2 ⟨j,d,h1,h2⟩,(x1.new j d a h1 h2).2⟩,x1.dis,λb o z=>z.1,x1.len⟩
 refine⟨λk m Y' H'=>m=ds.length-k/\k<=ds.length/\∃ U',Sx X.K CL Fy B U' Y' H'/\BS X.K CL Fz B W (CY (λx U'=>O.of U' (as x U') fbd) (ds.drop k) U') D,⟨ds.length,by simp,E8 _,U,xy,q⟩,?_⟩
 rintro k m Y' H' ⟨rfl,hk,U',x',q'⟩;have kp:Kp (BG B U Y) H1 H':=λb o e na=>x'.same b o ⟨e,λz=>na (.inr z)⟩
 obtain⟨yst,ygo⟩:=y H' kp k;by_cases hlt:k<ds.length
 .have hd:ds[k]?=Aa ds[k]:=Be hlt;obtain⟨hgo,hyl⟩:=ygo _ hd;refine .inr ⟨hgo,λY'' H''=>∃ U'',Sx X.K CL Fy B U'' Y'' H''/\BS X.K CL Fz B W (CY (λx U'=>O.of U' (as x U') fbd) (ds.drop (k+1)) U'') D,λY'' H'' z=>⟨ds.length-(k+1),by omega,rfl,hlt,z⟩,λv H2 hv=>?_⟩
  obtain⟨e2,rv⟩:=hyl v H2 hv;rw[Fp hlt]at q';have q2:BS X.K CL Fz B W ((O.of U' (as ds[k] U') fbd).turn (CY (λx U'=>O.of U' (as x U') fbd) (ds.drop (k+1)))) D:=q'
  have rv':Rep X.K CL H2 (BG B U' Y') v ds[k]:=rv _ (λa ha=>by
    rcases ha with ha|⟨j,d,h1,h2⟩
    .exact .inl (.inl ha)
    .cases e:H1 a with
     |none=>exact .inr rfl
     |some o=>
      by_cases ho:∃(j:Ag)(d:Ov.D),U[j]?=Aa (Aa (d,Ab))/\Y[j]?=Aa (Aa (.ref a))
      .exact .inl (.inr ho)
      .exact absurd ⟨e,ho⟩ ((x'.new j d a h1 h2).1 o)) x'.aok
  cases ea:as ds[k] U' with
  |bad=>rw[ea]at q2;exact q2.elim
  |exn z=>exact absurd ea (hax _ _ z)
  |ok U2=>
   rw[ea,O.of_ok]at q2;exact hGT Fy B U' Y' H2 v ds[k] U2 _ (x'.grow e2) rv' ea λY3 x3=>⟨Fy,U2,x3,BS.turn hfy q2 λU3 Y3 H3 x3 q3=>⟨U3,x3,q3⟩⟩
 .have hk':ds.length<=k:=by omega
  rw[Yv hk']at q';exact .inl ⟨yst hk',q' Y' H' (x'.mono hfy)⟩
end
section
variable{X:Cx}{CL:ClA}{W:XW}{a b c:Am}{fa fb fc:Rho->R D}{pos:AG}
noncomputable def tyK:Ki->Ao Da
 |.int=>Aa "int"
 |.bool=>Aa "bool"
 |.str=>Aa "str"
 |.list=>Aa "list"
 |.tuple=>Aa "tuple"
 |_=>Ae
noncomputable def Q8:D->Ai
 |.obj _ _=>Ad
 |.exc _ _=>Ad
 |.dic _=>Ad
 |_=>Ab
theorem wI{k:Ki}{Q:Vq}{E:Vq}(I:Inv X pI Y H s)(r:CN X.K CL H A v d)(q:BB v u)(hT:tyK k=Aa T)(hd:Q8 d=Ab)(h:∀ s',Inv X pI Y H s'->Q (.bool (kiD up k d)) s'):
  Au (model X.prog X.w) X.A (call (.builtin "isinstance") [u,.type T]) Q E s:=by
 have r':=r.plain;have it:=λt=>h _ (I.tok t)
 cases d with
 |obj=>cases hd
 |exc=>cases hd
 |dic=>cases hd
 |non=>
  cases r';cases q;cases k<;>simp only[tyK]at hT<;>cases hT
  .exact IsiPair.NoneType_int (it _)
  .exact IsiPair.NoneType_bool (it _)
  .exact IsiPair.NoneType_str (it _)
  .exact IsiPair.NoneType_list (it _)
  .exact IsiPair.NoneType_tuple (it _)
 |bl b=>
  cases r';cases q;cases k<;>simp only[tyK]at hT<;>cases hT
  .exact IsiPair.bool_int (h _ I)
  .exact IsiPair.bool_bool (h _ I)
  .exact IsiPair.bool_str (it _)
  .exact IsiPair.bool_list (it _)
  .exact IsiPair.bool_tuple (it _)
 |int i=>
  cases r';obtain⟨t,rfl⟩:=q;cases k<;>simp only[tyK]at hT<;>cases hT
  .exact IsiPair.int_int (h _ I)
  .exact IsiPair.int_bool (it _)
  .exact IsiPair.int_str (it _)
  .exact IsiPair.int_list (it _)
  .exact IsiPair.int_tuple (it _)
 |str x=>
  cases r';obtain⟨t,rfl⟩:=q;cases k<;>simp only[tyK]at hT<;>cases hT
  .exact IsiPair.str_int (it _)
  .exact IsiPair.str_bool (it _)
  .exact IsiPair.str_str (h _ I)
  .exact IsiPair.str_list (it _)
  .exact IsiPair.str_tuple (it _)
 |tup ds=>
  obtain⟨p,xs,rfl,_,sq,rr⟩:=r';obtain⟨its,rv,pt,_⟩:=I.tuple sq;cases q;have pt':s.heap.IsTuple p its.toArray:=pt;cases k<;>simp only[tyK]at hT<;>cases hT
  .exact IsiPair.isTuple_int pt' (λ_ _ e=>e) (it _)
  .exact IsiPair.isTuple_bool pt' (λ_ _ e=>e) (it _)
  .exact IsiPair.isTuple_str pt' (λ_ _ e=>e) (it _)
  .exact IsiPair.isTuple_list pt' (λ_ _ e=>e) (it _)
  .exact IsiPair.isTuple_tuple pt' (λ_ _ e=>e) (h _ I)
 |lst ds=>
  obtain⟨p,xs,rfl,_,sq,rr⟩:=r';obtain⟨its,rv,pl,_⟩:=I.list sq;cases q;have pt':s.heap.IsList p its.toArray:=JQ pl;cases k<;>simp only[tyK]at hT<;>cases hT
  .exact IsiPair.isList_int pt' (λ_ _ e=>e) (it _)
  .exact IsiPair.isList_bool pt' (λ_ _ e=>e) (it _)
  .exact IsiPair.isList_str pt' (λ_ _ e=>e) (it _)
  .exact IsiPair.isList_list pt' (λ_ _ e=>e) (h _ I)
  .exact IsiPair.isList_tuple pt' (λ_ _ e=>e) (it _)
theorem iL{k:Ki}(hT:tyK k=Aa T)(p:Bb Rp W H (D6 up [k] d) Q):Q8 d=Ab/\Bb Rp W H (.ok (.bl (kiD up k d))) Q:=by
 cases k<;>simp only[tyK]at hT<;>cases hT<;>cases d<;>first|exact p.elim|exact⟨rfl,by simpa using p⟩
theorem vA{k:Ki}{x:Ah}(hT:tyK k=Aa T)(hg:Gl X "isinstance")(hm:X.mg "isinstance" = Ae)(hg2:Gl X x)(hm2:X.mg x=Ae)(hv:C8 x=Aa (.type T))(hn:x≠"__name__")(hdb:(x==("__debug__" : Ah))=Ad)(ha:ST X CL W a fa)(he:As [a,.Name x p2] X.env=(Ad,eval a X.env)::As [.Name x p2] X.env):SE X CL W (.Call (.Name "isinstance" p) [a,.Name x p2] [] pos) (λU=>(fa U).bind λx=>D6 up [k] x):=λA=>
 PE.weak (MG (r:=λxs H Q=>∃ y d,xs=[y,.ty T]/\CN X.K CL H A y d/\Q8 d=Ab/\Q (.bl (kiD up k d)) H) (λpI s Y H xs us Q I r ⟨y,d,e,ry,hd,q⟩=>by
   subst e;obtain⟨u,w',rfl,r1,r2⟩:=L7 r;cases r2;exact wI I ry r1 hT hd λs' I'=>⟨.bl _,H,I',rfl,q⟩)
  hg hm Gu (DM (ha A) (DM (Vl (v:=.ty T) hg2 hm2 hv rfl hn hdb) Fk rfl) he) (by decide) (by decide) he rfl) λY H Q ⟨hA,U,g,q⟩=>⟨hA,U,g,Bb.bind q λd v H1 _ s1 r1 p1=>by
   obtain⟨hd,p2⟩:=iL hT p1;exact⟨v,d,rfl,r1,hd,p2 _ H1 (AE.refl H1) rfl⟩⟩
theorem VG{b:Ai}{A':AX}{E:Vq}{Q:Ai->Ap->Prop}(r:Rep X.K CL H A v d)(q:BB v u)(h:FW d=.ok b)(hq:Q b s):Au (model prog w) A' (truthy u) Q E s:=by
 cases d with
 |non=>
  cases r;cases q;cases h;exact truthy_none hq
 |bl k=>
  cases r;cases q;cases h;exact CD hq
 |int i=>
  cases r;obtain⟨t,rfl⟩:=q;cases h;exact truthy_int hq
 |_=>cases h
theorem TH:∀{ds:Ac D}{b:Ai},FU ds=.ok b->(∀ j,j<ds.length->∃ c,FW (ds.getD j .non)=.ok c)/\b=(A6 ds.length).any λj=>match FW (ds.getD j .non) with
  |.ok c=>c
  |_=>Ad
 |[],b,h=>by cases h;exact⟨λj hj=>absurd hj (YT _),rfl⟩
 |d::ds,b,h=>by
  rw[T5]at h;cases e:FW d with
  |bad=>rw[e]at h;cases h
  |exn x=>rw[e]at h;cases h
  |ok c=>
   rw[e,R.bind_ok]at h;cases e2:FU ds with
   |bad=>rw[e2]at h;cases h
   |exn x=>rw[e2]at h;cases h
   |ok c2=>
    rw[e2,R.bind_ok]at h;cases h;obtain⟨h1,h2⟩:=TH e2;refine⟨λj hj=>?_,?_⟩
    .cases j with
     |zero=>exact⟨c,e⟩
     |succ j=>exact h1 j (by simpa using hj)
    .rw[Bm,Ew,He,Ys,h2];show (c||_)=((match FW d with | .ok c=>c|_=>Ad)||_)
     rw[e];rfl
theorem U_0:∀(ds:Ac D)(a z:Af),H9 a ds=.ok z->(∀ j,j<ds.length->∃ i,ds.getD j .non=.int i)/\z=a+JI (λj=>match ds.getD j .non with
  |.int i=>i
  | _=>0) ds.length
 |[],a,z,h=>by cases h;exact⟨λj hj=>absurd hj (YT _),by simp[JI]⟩
 |.int i::ds,a,z,h=>by
  obtain⟨h1,h2⟩:=U_0 ds (a+i) z h;refine⟨λj hj=>?_,?_⟩
  .cases j with
   |zero=>exact⟨i,rfl⟩
   |succ j=>exact h1 j (by simpa using hj)
  .have key:∀ n,JI (λj=>match (D.int i::ds).getD j .non with | .int i=>i|_=>0) (n+1)=i+JI (λj=>match ds.getD j .non with | .int i=>i|_=>0) n:=by
    intro n
    induction n with
    |zero=>show (0:Af)+i=i+0;omega
    |succ n ih=>
     show JI _ (n+1)+(match ds.getD n .non with | .int i=>i|_=>0)=i+(JI _ n+(match ds.getD n .non with | .int i=>i|_=>0))
     rw[ih];omega
   rw[h2,Bm,key];omega
 |.non::_,_,_,h=>by cases h
 |.bl _::_,_,_,h=>by cases h
 |.str _::_,_,_,h=>by cases h
 |.tup _::_,_,_,h=>by cases h
 |.lst _::_,_,_,h=>by cases h
 |.obj _ _::_,_,_,h=>by cases h
 |.exc _ _::_,_,_,h=>by cases h
 |.dic _::_,_,_,h=>by cases h
theorem N2{ds:Ac D}{its:Ac Aj}(r:Reps X.K CL H A0 xs ds)(rv:A8 xs its){v:Aj}(h:its.toArray[j]?=Aa v):j<ds.length/\∃ x,Rep X.K CL H A0 x (ds.getD j .non)/\BB x v:=by
 have h':its[j]?=Aa v:=by simpa using h
 obtain⟨hj,e⟩:=A2.mp h';obtain⟨x,rx,q⟩:=KA r rv hj;have l1:=rv.length;have l2:=r.length
 exact⟨by omega,x,rx,by rw[<-e];exact q⟩
theorem Oy{o:CU}(k:∀ b q,b∉[h.objs.size]->(h.push o).get? b=Aa q->h'.get? b=Aa q):∀ b q,h.get? b=Aa q->h'.get? b=Aa q:=λb q e=>k b q (by
 intro z;have:=Bl.mp z;rw[this]at e;exact absurd (AB e) (Bx _)) (Ar _ e)
theorem We(hc:X.calm=Ab){es:Ac D}(I:Inv X pI Y H s)(sq:SqL X.K H q ys\/SqT X.K H q ys)(ry:Reps X.K CL H A0 ys es)(p:Bb (λH=>Rep X.K CL H A) W H ((FU es).bind λb=>.ok (.bl b)) Q):Au (model X.prog X.w) X.A (call (.builtin "any") [.ref q]) (EP X pI Y Q) X.xe s:=by
 cases e1:FU es with
 |bad=>rw[e1]at p;exact p.elim
 |exn x=>
  exfalso
  clear p
  have:∀(es:Ac D) x,FU es≠.exn x:=by
   intro es
   induction es with
   |nil=>intro x h;cases h
   |cons d ds ih=>
    intro x h;rw[T5]at h;cases e:FW d with
    |bad=>rw[e]at h;cases h
    |exn y=>cases d<;>cases e
    |ok c=>
     rw[e,R.bind_ok]at h;cases e2:FU ds with
     |bad=>rw[e2]at h;cases h
     |exn y=>exact ih y e2
     |ok c2=>rw[e2]at h;cases h
  exact this es x e1
 |ok b=>
  rw[e1,R.bind_ok]at p;obtain⟨h1,h2⟩:=TH e1;rcases sq with sq|sq
  .obtain⟨its,rvv,pl,_⟩:=I.list sq;have hlt:q<s.heap.objs.size:=by obtain⟨o,n,e,_⟩:=pl;exact AB e
   have hl:its.toArray.size=es.length:=by rw[AA,<-rvv.length,ry.length]
   refine call_any_walk (EE (JQ pl) ⟨s.heap.objs.size,_,_,_,_,_,(λj=>match FW (es.getD j .non) with | .ok c=>c|_=>Ad),rfl,aS (A:=X.A.in1) (I.ok.hd hc) s.heap.objs.size q (A1 hlt) its.toArray,⟨⟨_,AH _ rfl,rfl,rfl⟩,(JQ pl).push _⟩,λj v s' Q' E' hv hQ=>?_,λh' tk k=>?_⟩)
   .obtain⟨hj,x,rx,qx⟩:=N2 ry rvv hv;obtain⟨c,ec⟩:=h1 j hj;exact VG rx qx ec (by dsimp only at hQ;rw[ec]at hQ;exact hQ)
   .rw[hl,<-h2];exact⟨.bl b,H,I.kept (Oy k),rfl,p _ H (AE.refl H) rfl⟩
  .obtain⟨its,rvv,pl,_⟩:=I.tuple sq;have pl':s.heap.IsTuple q its.toArray:=pl;have hlt:q<s.heap.objs.size:=by obtain⟨o,e,_⟩:=pl';exact AB e
   have hl:its.toArray.size=es.length:=by rw[AA,<-rvv.length,ry.length]
   refine call_any_walk (Ev pl' ⟨s.heap.objs.size,_,_,_,_,_,(λj=>match FW (es.getD j .non) with | .ok c=>c|_=>Ad),rfl,Kb (A:=X.A.in1) (I.ok.hd hc) s.heap.objs.size q (A1 hlt) its.toArray,⟨⟨_,AH _ rfl,rfl,rfl⟩,pl'.push _⟩,λj v s' Q' E' hv hQ=>?_,λh' tk k=>?_⟩)
   .obtain⟨hj,x,rx,qx⟩:=N2 ry rvv hv;obtain⟨c,ec⟩:=h1 j hj;exact VG rx qx ec (by dsimp only at hQ;rw[ec]at hQ;exact hQ)
   .rw[hl,<-h2];exact⟨.bl b,H,I.kept (Oy k),rfl,p _ H (AE.refl H) rfl⟩
theorem xR(hc:X.calm=Ab):JV X CL W (.builtin "any") (biD .any):=by
  intro A pI s Y H xs us Q I r ⟨hA,ds,rs,p⟩
  match ds,rs,p with
  |[.lst es],rs,p=>
    obtain⟨v,rfl,rv⟩:=rs.one;obtain⟨q,ys,e,_,sq,ry⟩:=rv.plain;subst e;obtain⟨u,rfl,ru⟩:=Hl r;cases ru;exact We hc I (.inl sq) ry p
  |[.tup es],rs,p=>
    obtain⟨v,rfl,rv⟩:=rs.one;obtain⟨q,ys,e,_,sq,ry⟩:=rv.plain;subst e;obtain⟨u,rfl,ru⟩:=Hl r;cases ru;exact We hc I (.inr sq) ry p
  |[],_,p=>exact p.elim
  |[.non],_,p=>exact p.elim
  |[.bl _],_,p=>exact p.elim
  |[.int _],_,p=>exact p.elim
  |[.str _],_,p=>exact p.elim
  |[.obj _ _],_,p=>exact p.elim
  |[.exc _ _],_,p=>exact p.elim
  |[.dic _],_,p=>exact p.elim
  |x::_::_,_,p=>cases x<;>exact p.elim
theorem VL(hc:X.calm=Ab){es:Ac D}(I:Inv X pI Y H s)(sq:SqL X.K H q ys\/SqT X.K H q ys)(ry:Reps X.K CL H A0 ys es)(p:Bb (λH=>Rep X.K CL H A) W H ((H9 0 es).bind λb=>.ok (.int b)) Q):Au (model X.prog X.w) X.A (call (.builtin "sum") [.ref q]) (EP X pI Y Q) X.xe s:=by
 cases e1:H9 0 es with
 |bad=>rw[e1]at p;exact p.elim
 |exn x=>
  exfalso
  have:∀(es:Ac D)(a:Af) x,H9 a es≠.exn x:=by
   intro es
   induction es with
   |nil=>intro a x h;cases h
   |cons d ds ih=>
    intro a x h;cases d<;>first|exact ih _ _ h|cases h
  exact this es 0 x e1
 |ok z=>
  rw[e1,R.bind_ok]at p;obtain⟨h1,h2⟩:=U_0 es 0 z e1;rw[FA]at h2;rcases sq with sq|sq
  .obtain⟨its,rvv,pl,_⟩:=I.list sq;have hlt:q<s.heap.objs.size:=by obtain⟨o,n,e,_⟩:=pl;exact AB e
   have hl:its.toArray.size=es.length:=by rw[AA,<-rvv.length,ry.length]
   refine aU (EE (JQ pl) ⟨s.heap.objs.size,_,_,_,_,_,(λj=>match es.getD j .non with | .int i=>i|_=>0),rfl,aS (A:=X.A.in1) (I.ok.hd hc) s.heap.objs.size q (A1 hlt) its.toArray,⟨⟨_,AH _ rfl,rfl,rfl⟩,(JQ pl).push _⟩,λb hb=>?_,λj v hv=>?_,λh' tk t' k=>?_⟩)
   .show b<(s.heap.push _).objs.size;rw[Bz];rcases Av.mp hb with rfl|hb
    .exact DJ _
    .rw[Bl.mp hb];exact Ch hlt
   .obtain⟨hj,x,rx,qx⟩:=N2 ry rvv hv;obtain⟨i,ei⟩:=h1 j hj;rw[ei]at rx;dsimp only;rw[ei];cases rx;exact qx
   .rw[hl,<-h2];exact⟨.int z,H,I.kept (Oy k),⟨_,rfl⟩,p _ H (AE.refl H) rfl⟩
  .obtain⟨its,rvv,pl,_⟩:=I.tuple sq;have pl':s.heap.IsTuple q its.toArray:=pl;have hlt:q<s.heap.objs.size:=by obtain⟨o,e,_⟩:=pl';exact AB e
   have hl:its.toArray.size=es.length:=by rw[AA,<-rvv.length,ry.length]
   refine aU (Ev pl' ⟨s.heap.objs.size,_,_,_,_,_,(λj=>match es.getD j .non with | .int i=>i|_=>0),rfl,Kb (A:=X.A.in1) (I.ok.hd hc) s.heap.objs.size q (A1 hlt) its.toArray,⟨⟨_,AH _ rfl,rfl,rfl⟩,pl'.push _⟩,λb hb=>?_,λj v hv=>?_,λh' tk t' k=>?_⟩)
   .show b<(s.heap.push _).objs.size;rw[Bz];rcases Av.mp hb with rfl|hb
    .exact DJ _
    .rw[Bl.mp hb];exact Ch hlt
   .obtain⟨hj,x,rx,qx⟩:=N2 ry rvv hv;obtain⟨i,ei⟩:=h1 j hj;rw[ei]at rx;dsimp only;rw[ei];cases rx;exact qx
   .rw[hl,<-h2];exact⟨.int z,H,I.kept (Oy k),⟨_,rfl⟩,p _ H (AE.refl H) rfl⟩
theorem xN(hc:X.calm=Ab):JV X CL W (.builtin "sum") (biD .sum):=by
  intro A pI s Y H xs us Q I r ⟨hA,ds,rs,p⟩
  match ds,rs,p with
  |[.lst es],rs,p=>
    obtain⟨v,rfl,rv⟩:=rs.one;obtain⟨q,ys,e,_,sq,ry⟩:=rv.plain;subst e;obtain⟨u,rfl,ru⟩:=Hl r;cases ru;exact VL hc I (.inl sq) ry p
  |[.tup es],rs,p=>
    obtain⟨v,rfl,rv⟩:=rs.one;obtain⟨q,ys,e,_,sq,ry⟩:=rv.plain;subst e;obtain⟨u,rfl,ru⟩:=Hl r;cases ru;exact VL hc I (.inr sq) ry p
  |[],_,p=>exact p.elim
  |[.non],_,p=>exact p.elim
  |[.bl _],_,p=>exact p.elim
  |[.int _],_,p=>exact p.elim
  |[.str _],_,p=>exact p.elim
  |[.obj _ _],_,p=>exact p.elim
  |[.exc _ _],_,p=>exact p.elim
  |[.dic _],_,p=>exact p.elim
  |x::_::_,_,p=>cases x<;>exact p.elim
end
section
variable(K:Fg)(CL:ClA)
def bK(H0:Hp)(A:Al->Prop)(H:Hp)(v:V)(d:D):Prop:=∀ ds,d=.lst ds->∃ a xs,v=.ref a/\H0 a=Ae/\H a=Aa (.lst xs)/\Reps K CL H (λb=>A b\/b=a) xs ds
def DB(fr:Ai)(H0:Hp)(A:Al->Prop)(H:Hp)(v:V)(d:D):Prop:=Rep K CL H A v d/\(fr=Ab->bK K CL H0 A H v d)
end
section
variable{X:Cx}{CL:ClA}{W:XW}{a b c:Am}{fa fb fc:Rho->R D}{pos:AG}
def SC(X:Cx)(CL:ClA)(W:XW)(fr:Ai)(e:Am)(f:Rho->R D):Prop:=∀ A,PE X e (λY H Q=>AOk H A/\∃ U,Good X.K CL A U Y H/\Bb (DB X.K CL fr H A) W H (f U) Q)
theorem SC.se{fr:Ai}(h:SC X CL W fr a fa):SE X CL W a fa:=λA=>PE.weak (h A) λY H Q ⟨hA,U,g,p⟩=>⟨hA,U,g,by
 cases e:fa U with
 |ok d=>rw[e]at p;exact λv H' s r=>p v H' s r.1
 |exn x=>rw[e]at p;exact p
 | bad=>rw[e]at p;exact p⟩
theorem SE.sc(h:SE X CL W a fa):SC X CL W Ad a fa:=λA=>PE.weak (h A) λY H Q ⟨hA,U,g,p⟩=>⟨hA,U,g,by
 cases e:fa U with
 |ok d=>rw[e]at p;exact λv H' s r=>p v H' s ⟨r,λz=>nomatch z⟩
 |exn x=>rw[e]at p;exact p
 | bad=>rw[e]at p;exact p⟩
theorem SC.congr{fr:Ai}{f g:Rho->R D}(h:SC X CL W fr a f)(e:∀ U,g U=f U):SC X CL W fr a g:=λA=>PE.weak (h A) λY H Q ⟨hA,U,q,p⟩=>⟨hA,U,q,by rw[<-e];exact p⟩
theorem Kw{p:Al}{ds:Ac D}(s:AE H0 H)(hA:AOk H A)(hp:H p=Ae)(r:Reps K CL H A xs ds):DB K CL Ab H0 A (upd H p (.lst xs)) (.ref p) (.lst ds):=
 ⟨V5 hA hp r,λ_ ds' e=>by
  cases e;exact⟨p,xs,rfl,s.free hp,EM,(Reps.wide (λa ha=>ha.imp id λe=>by rw[e];exact hp) _ r).same (FS hp _)⟩⟩
theorem Vx{fr:Ai}(r:Rep K CL H A v d)(h:∀ ds,d≠.lst ds):DB K CL fr H0 A H v d:=⟨r,λ_ ds e=>absurd e (h ds)⟩
theorem Q0(hs:SA X CL W es fs)(hz:∀ U ds,fs U=.ok ds->ds.length<=100000):SC X CL W Ab (.List es pos) (λU=>(fs U).bind λxs=>.ok (.lst xs)):=
 λA=>PE.weak (wO (hs A)) λY H Q ⟨hA,U,g,p⟩=>⟨hA,U,g,HU.bind p λds vs H1 e s1 r1 p1=>⟨by
  rw[r1.length,C9];have:=hz U ds e;omega,λq hq=>p1 _ _ (FS hq _) (Kw s1 (hA.same s1) hq r1)⟩⟩
theorem Bb.bindF{fr:Ai}{f:D->R D}{Q':VK}(h:Bb (DB K CL fr H A) W H (r.bind f) Q)(k:∀ d v H',r=.ok d->AE H H'->Rp H' v d->Bb (DB K CL fr H A) W H' (f d) Q->Q' v H'):Bb Rp W H r Q':=by
 cases r with
 |ok d=>exact λv H2 s2 q=>k d v H2 rfl s2 q (Bb.same s2 h)
 |exn x=>exact h
 |bad=>exact h
theorem HU.bindF{Rp:Hp->Ac V->Ac D->Prop}{r:R (Ac D)}{f:Ac D->R D}{Q':Ac V->Hp->Prop}(h:Bb Rq W H (r.bind f) Q)(k:∀ d v H',r=.ok d->AE H H'->Rp H' v d->Bb Rq W H' (f d) Q->Q' v H'):HU Rp W H r Q':=by
 cases r with
 |ok d=>exact λv H2 s2 q=>k d v H2 rfl s2 q (Bb.same s2 h)
 |exn x=>exact h
 |bad=>exact h
theorem KP.bindF{r:R (Ao Af)}{f:Ao Af->R D}(h:Bb Rq W H (r.bind f) Q)(k:∀ o H',r=.ok o->AE H H'->Bb Rq W H' (f o) Q->Q' o H'):KP W H r Q':=by
 cases r with
 |ok d=>exact λH2 s2=>k d H2 rfl s2 (Bb.same s2 h)
 |exn x=>exact h
 |bad=>exact h
theorem bg{lo hi:Ao Am}{fl fh:Rho->R (Ao Af)}(ha:ST X CL W a fa)(hl:SO X CL W lo fl)(hh:SO X CL W hi fh):SC X CL W Ab (.Subscript a (.Slice lo hi Ae p2) pos) (λU=>(fa U).bind λx=>(fl U).bind λl=>(fh U).bind λh=>slD x l h):=
 λA=>PE.weak (iW (r:=λx l h H Q=>S9 X.K x l h H Q\/S8 X.K x l h H Q) (λpI s Y H x v vl vu lo hi sl Q I rx hs pl pu h=>h.elim (mV pI s Y H x v vl vu lo hi sl Q I rx hs pl pu) (uT pI s Y H x v vl vu lo hi sl Q I rx hs pl pu)) (ha A) (hl A) (hh A)) λY H Q ⟨hA,U,g,p⟩=>⟨hA,U,g,Bb.bindF p λdx x H1 _ s1 r1 p1=>⟨hA.same s1,U,g.same s1,KP.bindF p1 λl H2 _ s2 p2=>⟨(hA.same s1).same s2,U,(g.same s1).same s2,KP.bindF p2 λh H3 _ s3 p3=>by
  cases dx with
  |lst ds=>
   obtain⟨q,xs,rfl,sq,r⟩:=((r1.same s2).same s3).lst_of;exact .inl ⟨q,xs,rfl,sq,λt ht=>p3 _ _ (FS ht _) (Kw ((s1.trans s2).trans s3) (((hA.same s1).same s2).same s3) ht (VW l h r))⟩
  |tup ds=>
   obtain⟨q,xs,rfl,_,sq,r⟩:=((r1.same s2).same s3).tup_of;rw[eA]at p3;split at p3
   .exact p3.elim
   .rename_i hw;refine .inr ⟨q,xs,rfl,sq,?_,λt ht=>p3 _ _ (FS ht _) (Vx (Lx (((hA.same s1).same s2).same s3) ht (VW l h r)) (by intro _ z;cases z))⟩
    rintro⟨h1,h2⟩;refine hw ?_;have e:∀ d o,HT.sIx xs.length d o=IA ds.length d o:=λd o=>by rw[r.length];cases o<;>rfl
    rw[e]at h1 h2;rw[r.length]at h2;simp[h1,h2]
  | _=>exact p3.elim⟩⟩⟩
noncomputable def OpN(X:Cx)(CL:ClA)(W:XW)(f:Aj->Aj->GN Aj)(g:D->D->R D):Prop:=
 ∀ A H0,OpR X f (λx y H Q=>AE H0 H/\AOk H A/\∃ dx dy,CN X.K CL H A x dx/\CN X.K CL H A y dy/\Bb (DB X.K CL Ab H0 A) W H (g dx dy) Q)
theorem pX:OpN X CL W (B7 .Add) (Dm .Add):=by
 intro A H0 pI s Y H x y v u Q I rx ry ⟨s0,hA,dx,dy,hx,hy,p⟩;have key:(∀ ds,dx≠.lst ds)->EP X pI Y Q=EP X pI Y Q->Au (model X.prog X.w) X.A (B7 .Add v u) (EP X pI Y Q) X.xe s:=λhd _=>by
  refine Vm (W:=W) A pI s Y H x y v u Q I rx ry ⟨hA,dx,dy,hx,hy,?_⟩;cases e:Dm .Add dx dy with
  |bad=>rw[e]at p;exact p
  |exn x=>rw[e]at p;exact p
  |ok d=>
   rw[e]at p;refine λv' H' s' r'=>p v' H' s' (Vx r' λds z=>?_)
   subst z;cases dx with
   |lst ds=>exact hd _ rfl
   |tup xs=>
    cases dy with
    |tup ys=>rw[Wl]at e;split at e<;>cases e
    |_=>cases e
   |str xs=>
    cases dy with
    |str ys=>rw[Wm]at e;split at e<;>cases e
    |_=>cases e
   |int i=>cases dy<;>cases e
   |_=>cases e
 cases dx with
 |lst ds=>
  cases dy with
  |lst es=>
   obtain⟨a,xs,rfl,s1,r1⟩:=hx.lst_of;obtain⟨b,ys,rfl,s2,r2⟩:=hy.lst_of;simp only[Rv]at p;split at p
   .rename_i h;refine Vn pI s Y H _ _ v u Q I rx ry ⟨a,b,xs,ys,rfl,rfl,s1,s2,by rw[r1.length,r2.length];exact Ip h,λq hq=>?_⟩
    exact p _ _ (FS hq _) (Kw s0 hA hq (r1.append r2))
   .exact p.elim
  |_=>exact p.elim
 |_=>exact key (by intro _ z;cases z) rfl
theorem uS(ha:ST X CL W a fa)(hb:ST X CL W b fb):SC X CL W Ab (.BinOp a .Add b pos) (λU=>(fa U).bind λx=>(fb U).bind λy=>Dm .Add x y):=
 λA pI s Y H Q I h=>by
  obtain⟨hA,U,g,p⟩:=h;exact XI (pX (W:=W) A H) (ha A) (hb A) pI s Y H Q I ⟨hA,U,g,Bb.bindF p λdx x H1 _ s1 r1 p1=>⟨hA.same s1,U,g.same s1,Bb.bind (Rq:=DB X.K CL Ab H A) p1 λdy y H2 _ s2 r2 p2=>⟨s1.trans s2,(hA.same s1).same s2,dx,dy,r1.same s2,r2,p2⟩⟩⟩
def XY(X:Cx)(CL:ClA)(W:XW)(f:Aj)(g:Ac D->R D):Prop:=∀ A H0,HV X f (λxs H Q=>AE H0 H/\AOk H A/\∃ ds,Gh X.K CL H A xs ds/\Bb (DB X.K CL Ab H0 A) W H (g ds) Q)
theorem qR:XY X CL W (.type "list") (biD .list):=by
  intro A H0 pI s Y H xs us Q I r ⟨s0,hA,ds,rs,p⟩
  match ds,rs,p with
  |[.lst es],rs,p=>
    obtain⟨v,rfl,rv⟩:=rs.one;obtain⟨q,ys,rfl,sq,ry⟩:=rv.lst_of;exact Ts pI s Y H _ us Q I r ⟨q,ys,rfl,.inl sq,λl hl=>p _ _ (FS hl _) (Kw s0 hA hl ry)⟩
  |[.tup es],rs,p=>
    obtain⟨v,rfl,rv⟩:=rs.one;obtain⟨q,ys,rfl,_,sq,ry⟩:=rv.tup_of;exact Ts pI s Y H _ us Q I r ⟨q,ys,rfl,.inr sq,λl hl=>p _ _ (FS hl _) (Kw s0 hA hl ry)⟩
  |[],_,p=>exact p.elim
  |[.non],_,p=>exact p.elim
  |[.bl _],_,p=>exact p.elim
  |[.int _],_,p=>exact p.elim
  |[.str _],_,p=>exact p.elim
  |[.obj _ _],_,p=>exact p.elim
  |[.exc _ _],_,p=>exact p.elim
  |[.dic _],_,p=>exact p.elim
  |x::_::_,_,p=>cases x<;>exact p.elim
theorem uR{x:Ah}{g:Ac D->R D}(hc:XY X CL W (.type T) g)(hg:Gl X x)(hm:X.mg x=Ae)(hv:C8 x=Aa (.type T))(ha:SAT X CL W (e::es) fs)(hn:x≠"__name__")(hdb:(x==("__debug__" : Ah))=Ad)(he:As (e::es) X.env=(Ad,eval e X.env)::As es X.env)(hpl:∀ pos,(BP pos (As es X.env)).any (·.1)=Ad):SC X CL W Ab (.Call (.Name x p) (e::es) [] pos) (λU=>(fs U).bind g):=λA pI s Y H Q I ⟨hA,U,gd,q⟩=>
 TU (hc A H) hg hm hv (ha A) hn hdb he (hpl _) pI s Y H Q I ⟨hA,U,gd,HU.bindF q λds vs H1 _ s1 r1 p1=>⟨s1,hA.same s1,ds,r1,p1⟩⟩
mutual
theorem RG{K:Fg}{H:Hp}{A:Al->Prop}(hA:AOk H A):∀(n:Ag)(d:D){v:V},nlD n d=Ab->Rep K CL H A0 v d->Rep K CL H A v d
 |_,.non,_,_,h=>h
 |_,.bl _,_,_,h=>h
 |_,.int _,_,_,h=>h
 |_,.str _,_,_,h=>h
 |0,.tup _,_,hn,_=>by cases hn
 |n+1,.tup ds,_,hn,h=>by
  obtain⟨a,xs,e,_,s,r⟩:=h;refine⟨a,xs,e,?_,s,nls_up hA n ds hn r⟩;rcases s with s|s
  .refine .inl λz=>?_
   obtain⟨ys,q⟩:=hA a z;rcases s with s|⟨o,s⟩<;>rw[q]at s<;>cases s
  .exact .inr s
 |n,.lst _,_,hn,_=>by cases n<;>cases hn
 |n,.obj _ _,_,hn,_=>by cases n<;>cases hn
 |n,.exc _ _,_,hn,_=>by cases n<;>cases hn
 |n,.dic _,_,hn,_=>by cases n<;>cases hn
theorem nls_up{K:Fg}{H:Hp}{A:Al->Prop}(hA:AOk H A):∀(n:Ag)(ds:Ac D){vs:Ac V},ds.all (nlD n)=Ab->Reps K CL H A0 vs ds->Reps K CL H A vs ds
 |_,[],[],_,h=>h
 |n,d::ds,_::_,hn,h=>by
  simp only[F4,Ak]at hn;exact⟨RG hA n d hn.1 h.1,nls_up hA n ds hn.2 h.2⟩
 |_,[],_::_,_,h=>h.elim
 |_,_::_,[],_,h=>h.elim
end
theorem Rn{fr:Ai}(hA0:AOk H0 A)(s:AE H0 H)(hc:FZ fr d=Ab)(r:DB K CL fr H0 A0 H v d):DB K CL fr H0 A H v d:=by
 have hA:=hA0.same s;cases d with
 |lst ds=>
  have hc':(fr&&ds.all (nlD 5))=Ab:=hc;rw[Ak]at hc';obtain⟨a,xs,e,h0,h1,rs⟩:=r.2 hc'.1 ds rfl;have hA2:AOk H (λb=>A b\/b=a):=λb hb=>hb.elim (hA b) λe=>by rw[e];exact⟨xs,h1⟩
  have rs':=nls_up hA2 5 ds hc'.2 (Reps.sub (λ_ z=>z.elim) _ rs)
  refine⟨⟨a,xs,e,.inl (hA0.new h0),SqL.of h1,Reps.sub (λ_ z=>.inl z) _ rs'⟩,λ_ ds' e'=>?_⟩
  cases e';exact⟨a,xs,e,h0,h1,rs'⟩
 |_=>exact⟨RG hA 5 _ hc r.1,λ_ _ z=>nomatch z⟩
def spD(K:Fg)(CL:ClA)(n:Ag)(fr:Ai)(F:Ac D->R D):Sp:=λvs H Q E=>∃(ds:Ac D)(A:Al->Prop),vs.length=n/\AOk H A/\Reps K CL H A vs ds/\(match F ds with
  |.ok d=>∀ v H',AE H H'->DB K CL fr H A H' v d->Q v H'
  |.exn x=>∀ cls dx H',AE H H'->Gg K CL H' cls dx x->E cls dx H'
  | .bad=>AV)
def EKW(K:Fg)(CL:ClA)(A:Al->Prop)(W:XW):XK:=λcls dx H'=>∃ x,Gg K CL H' cls dx x/\W x H'
theorem Gh.plain{K:Fg}{H:Hp}{A:Al->Prop}:∀{vs:Ac V}{ds:Ac D},Gh K CL H A vs ds->Reps K CL H A0 vs ds
 |[],[],h=>trivial
 |_::_,_::_,h=>⟨h.1.plain,Gh.plain h.2⟩
 |[],_::_,h=>h.elim
 |_::_,[],h=>h.elim
theorem nC{CX:CXT}{fr:Ai}{f:Al}{fd:BM}{ps:Ac Ah}{F:Ac D->R D}{x:Ah}{ft:Rho->R (Ac D)}{sh:Rho->Ai}(G:FnOk X.prog X.w X.K X.mg X.base CX k f fd ps (spD X.K CL n fr F))(hr:Room k X.A)(hg:Gl X x)(hm:X.mg x=Aa (.ref f))(hk:B2 X.K (.ref f)=Ab)(hb:FV X.K fd ps [])(hx:∀ A,LK CX X (EKW X.K CL A W))(ha:SA X CL W (e::es) fs)(hat:SAT X CL W (e::es) ft)(hst:∀ U,sh U=Ab->ft U=fs U)(hn:∀ U ds,ft U=.ok ds->ds.length=n)(hdb:(x==("__debug__" : Ah))=Ad)(he:As (e::es) X.env=(Ad,eval e X.env)::As es X.env)(hpl:∀ pos,(BP pos (As es X.env)).any (·.1)=Ad):SC X CL W fr (.Call (.Name x p) (e::es) [] pos) (λU=>(ft U).bind λds=>(F ds).bind λd=>if sh U=Ab then .ok d else if FZ fr d=Ab then .ok d else .bad):=λA pI s Y H Q I ⟨hA,U,gd,q⟩=>by
 dsimp only at q;by_cases hs:sh U=Ab
 .rw[hst U hs]at q;refine Vk G hr hg hm hk hb .nil (hx A) (ha A) hdb he (hpl _) pI s Y H Q I ⟨hA,U,gd,?_⟩;cases e1:fs U with
  |bad=>rw[e1]at q;exact q
  |exn y=>rw[e1]at q;exact q
  |ok ds=>
   rw[e1]at q;intro vs H1 s1 r1;refine⟨ds,A,by rw[Cq,r1.length];exact hn U ds (by rw[hst U hs];exact e1),hA.same s1,by rw[Cq];exact r1,?_⟩
   have q':Bb (DB X.K CL fr H A) W H ((F ds).bind λd=>if sh U=Ab then .ok d else if FZ fr d=Ab then .ok d else .bad) Q:=q
   cases e2:F ds with
   |ok d=>
    rw[e2,R.bind_ok,Ax hs]at q';exact λv H2 s2 r2=>q' v H2 (s1.trans s2) ⟨r2.1,λz ds' e'=>let ⟨a,xs,z1,z2,z3⟩:=r2.2 z ds' e';⟨a,xs,z1,s1.free z2,z3⟩⟩
   |exn y=>rw[e2]at q';exact λcls dx H2 s2 xr=>⟨y,xr,q' H2 (s1.trans s2)⟩
   |bad=>rw[e2]at q';exact q'.elim
 .refine Vk G hr hg hm hk hb .nil (hx A0) (hat A) hdb he (hpl _) pI s Y H Q I ⟨hA,U,gd,?_⟩;cases e1:ft U with
  |bad=>rw[e1]at q;exact q
  |exn y=>rw[e1]at q;exact q
  |ok ds=>
   rw[e1]at q;intro vs H1 s1 r1;refine⟨ds,A0,by rw[Cq,r1.plain.length];exact hn U ds e1,λ_ z=>z.elim,by rw[Cq];exact r1.plain,?_⟩
   have q':Bb (DB X.K CL fr H A) W H ((F ds).bind λd=>if sh U=Ab then .ok d else if FZ fr d=Ab then .ok d else .bad) Q:=q
   cases e2:F ds with
   |ok d=>
    rw[e2,R.bind_ok,AC hs]at q';split at q'
    .rename_i hc;exact λv H2 s2 r2=>q' v H2 (s1.trans s2) (Rn hA (s1.trans s2) hc ⟨r2.1,λz ds' e'=>let ⟨a,xs,z1,z2,z3⟩:=r2.2 z ds' e';⟨a,xs,z1,s1.free z2,z3⟩⟩)
    .exact q'.elim
   |exn y=>rw[e2]at q';exact λcls dx H2 s2 xr=>⟨y,xr,q' H2 (s1.trans s2)⟩
   |bad=>rw[e2]at q';exact q'.elim
end
theorem PN(env:B8):∀(ns:Ac (Ah×Eg))(acc:Ac (Ah×Al)),(∀ x∈ns,x.2=.free->∃ c,env.cells.lookup x.1=Aa c)->(∀ x c,acc.lookup x=Aa c->env.cells.lookup x=Aa c) ->
  ∃ cl,(forIn ns acc fun(x:Ah×Eg)(cs:Ac (Ah×Al))=>(if (x.2==.free)=Ab then do let c <-cellOf env x.1;pure (Er ((x.1,c)::cs)) else pure (Er cs):GN (ForInStep (Ac (Ah×Al)))))=pure cl /\
   (∀ x c,cl.lookup x=Aa c->env.cells.lookup x=Aa c)/\(∀ x,((x,DV)∈ns\/∃ c,acc.lookup x=Aa c)->∃ c,cl.lookup x=Aa c)
 |[],acc,_,h2=>⟨acc,by rw[GL],h2,λx hx=>hx.elim (λz=>nomatch z) id⟩
 |(n,k)::r,acc,h1,h2=>by
  rw[Ic];by_cases hk:k=.free
  .subst hk;obtain⟨c,hc⟩:=h1 (n,.free) Ay rfl;obtain⟨cl,e,p,q⟩:=PN env r ((n,c)::acc) (λx hx=>h1 x (Aw _ hx)) (λx d hd=>by
    rw[Cc]at hd;split at hd
    .rename_i hx;cases hd;rw[eq_of_beq hx];exact hc
    .exact h2 x d hd)
   refine⟨cl,?_,p,λx hx=>q x ?_⟩
   .have e1:cellOf env n=pure c:=by unfold cellOf;dsimp only at hc;rw[hc]
    rw[Ax (by rfl),e1]
    exact e
   .rcases hx with hx|⟨d,hd⟩
    .rcases Av.mp hx with z|z
     .cases z;exact .inr ⟨c,by simp[Cc]⟩
     .exact .inl z
    .by_cases hxn:x=n
     .exact .inr ⟨c,by subst hxn;simp[Cc]⟩
     .exact .inr ⟨d,by rw[Cc];rw[C3.mpr hxn];exact hd⟩
  .obtain⟨cl,e,p,q⟩:=PN env r acc (λx hx=>h1 x (Aw _ hx)) h2
   refine⟨cl,?_,p,λx hx=>q x ?_⟩
   .rw[AC (by simpa using hk)]
    exact e
   .rcases hx with hx|hx
    .rcases Av.mp hx with z|z
     .cases z;exact absurd rfl hk
     .exact .inl z
    .exact .inr hx
theorem TD(h:∀ x∈scope.names,x.2=.free->∃ c,env.cells.lookup x.1=Aa c):∃ cl,closureFor scope env=pure cl/\(∀ x c,cl.lookup x=Aa c->env.cells.lookup x=Aa c)/\∀ x,(x,DV)∈scope.names->∃ c,cl.lookup x=Aa c:=by
 obtain⟨cl,e,p,q⟩:=PN env scope.names [] h (λx c z=>by simp at z)
 refine⟨cl,?_,p,λx hx=>q x (.inl hx)⟩
 unfold closureFor
 first
  |exact e
  |(simp only[bind_pure];exact e)
  |(rw[show (forIn scope.names ([]:Ac (Ah×Al)) _:GN _)=pure cl from e];rfl)
theorem PV:∀(names:Ac (Ah×Eg))(h:AD)(acc:Ac (Ah×Al))(x:Ah)(c:Al),(CM h.objs.size names acc).lookup x=Aa c->acc.lookup x=Aa c\/((x,BY)∈names/\h.objs.size<=c/\(Ha h names).IsCell c Ae)
 |[],_,_,_,_,e=>.inl e
 |(n,k)::r,h,acc,x,c,e=>by
  unfold CM at e;unfold Ha;by_cases hk:(k==BY)=Ab
  .rw[Ax hk]at e ⊢;have hs:h.objs.size+1=(h.push { cls:=.type "cell",data:=.cell Ae }).objs.size:=(Bz ..).symm;rw[hs]at e;rcases PV r _ _ x c e with q|⟨q1,q2,q3⟩
   .rw[Cc]at q;cases hx:x==n with
    |true=>
     rw[hx]at q;cases q;refine .inr ⟨?_,AU _,?_⟩
     .rw[eq_of_beq hx,eq_of_beq hk];exact Ay
     .exact⟨_,Ih r _ _ _ (AH _ rfl),rfl⟩
    |false=>rw[hx]at q;exact .inl q
   .exact .inr ⟨Aw _ q1,by omega,q3⟩
  .rw[AC hk]at e ⊢;rcases PV r h acc x c e with q|⟨q1,q2,q3⟩
   .exact .inl q
   .exact .inr ⟨Aw _ q1,q2,q3⟩
theorem PX:∀(names:Ac (Ah×Eg))(h:AD)(acc:Ac (Ah×Al)),(∀ x y c,acc.lookup x=Aa c->acc.lookup y=Aa c->x=y)->(∀ x c,acc.lookup x=Aa c->c<h.objs.size)->∀ x y c,(CM h.objs.size names acc).lookup x=Aa c->(CM h.objs.size names acc).lookup y=Aa c->x=y
 |[],_,_,i,_,x,y,c,e1,e2=>i x y c e1 e2
 |(n,k)::r,h,acc,i,b,x,y,c,e1,e2=>by
  unfold CM at e1 e2;by_cases hk:(k==BY)=Ab
  .rw[Ax hk]at e1 e2;have hs:h.objs.size+1=(h.push { cls:=.type "cell",data:=.cell Ae }).objs.size:=(Bz ..).symm;rw[hs]at e1 e2;have look:∀ z d,F0 z ((n,h.objs.size)::acc)=Aa d->(z=n/\d=h.objs.size)\/(z≠n/\acc.lookup z=Aa d):=λz d q=>by
    rw[Cc]at q;cases hx:z==n with
    |true=>rw[hx]at q;cases q;exact .inl ⟨eq_of_beq hx,rfl⟩
    |false=>rw[hx]at q;exact .inr ⟨λe=>by rw[e]at hx;simp at hx,q⟩
   refine PX r _ _ (λz z' d q q'=>?_) (λz d q=>?_) x y c e1 e2
   .rcases look z d q with ⟨rfl,q1⟩|⟨_,q1⟩<;>rcases look z' d q' with ⟨rfl,q2⟩|⟨_,q2⟩
    .rfl
    .exact absurd (b _ _ q2) (by rw[q1];exact Bx _)
    .exact absurd (b _ _ q1) (by rw[q2];exact Bx _)
    .exact i _ _ _ q1 q2
   .rw[<-hs];rcases look z d q with ⟨_,q1⟩|⟨_,q1⟩
    .rw[q1];exact DJ _
    .exact Ch (b _ _ q1)
  .rw[AC hk]at e1 e2;exact PX r h acc i b x y c e1 e2
theorem PQ:∀(names:Ac (Ah×Eg))(n:Ag)(acc:Ac (Ah×Al))(x:Ah),(x,BY)∉names->(CM n names acc).lookup x=acc.lookup x
 |[],_,_,_,_=>rfl
 |(m,k)::r,n,acc,x,hx=>by
  unfold CM;have hr:(x,BY)∉r:=λz=>hx (Aw _ z)
  by_cases hk:(k==BY)=Ab
  .rw[Ax hk,PQ r _ _ x hr,Cc];cases q:x==m with
   |true=>exact absurd (by rw[eq_of_beq q,eq_of_beq hk];exact Ay) hx
   |false=>rfl
  .rw[AC hk];exact PQ r n acc x hr
theorem PY(n0:Ag):∀(names:Ac (Ah×Eg))(n:Ag)(acc:Ac (Ah×Al))(x:Ah),n0<=n->((x,BY)∈names\/∃ c,acc.lookup x=Aa c/\n0<=c)->∃ c,(CM n names acc).lookup x=Aa c/\n0<=c
 |[],_,_,_,_,h=>h.elim (λz=>nomatch z) id
 |(m,k)::r,n,acc,x,hn,h=>by
  unfold CM;by_cases hk:(k==BY)=Ab
  .rw[Ax hk];refine PY n0 r _ _ x (by omega) ?_
   by_cases hx:(x==m)=Ab
   .exact .inr ⟨n,by rw[Cc,hx],hn⟩
   .rcases h with h|⟨c,h,hc⟩
    .rcases Av.mp h with z|z
     .cases z;simp at hx
     .exact .inl z
    .exact .inr ⟨c,by rw[Cc];simp only[hx];exact h,hc⟩
  .rw[AC hk];refine PY n0 r _ _ x hn (h.imp (λh=>?_) id)
   rcases Av.mp h with z|z
   .cases z;simp at hk
   .exact z
theorem eT{M:G2}{A:AX}{E:Vq}{globals:Al}{qual:Ah}{Q:B8->Ap->Prop}(hQ:Q (newEnv scope s.heap.objs.size globals (CM (s.heap.objs.size+1) scope.names cl) qual Ae .none (Aa env) IS) { s with heap:=Ha (s.heap.push { cls:=.type "dict",data:=.dict #[] }) scope.names }):Au M A (IL scope globals cl [] qual Ae .none (Aa env)) Q E s:=by
 simp only[IL,Option.isSome_some,Ep];refine An (wpAny_alloc ?_);refine An (wpAny_layCells _ (λname kind cells=>by cases hkc:kind==BY<;>simp[hkc]) _ _ _ _ ?_)
 rw[show ({ s with heap:=s.heap.push { cls:=.type "dict",data:=.dict #[] } }:Ap).heap.objs.size=s.heap.objs.size+1 from Bz ..]
 rw[GL];exact An (Az (Az hQ))
noncomputable def cxC(X:Cx)(scope:B5)(cl:Ac (Ah×Al))(C:Al)(N':Ac Ah)(s₀:Ap)(H₀:Hp)(fp:Ac Al):Cx where
 prog:=X.prog
 w:=X.w
 K:=X.K
 mg:=X.mg
 base:=X.base
 A:=X.A
 N:=N'
 s₀:=s₀
 H₀:=H₀
 env:=compEnvC scope cl C X.env
 outer:=X.stack
 stack:=X.stack
 ex:=fp
 fn:=λx=>scope.names.lookup x==Aa BY
 calm:=X.calm
 pn:=[]
 xe:=λ_ _=>AV
theorem Nt{env:B8}:∀{names:Ac (Ah×Eg)}{x:Ah}{k:Eg},(names.map λ(n,k)=>if (k==DV&&env.scope.kind==.function&&env.kindOf n==Aa .cell) then (n,BY) else (n,k)).lookup x=Aa k->names.lookup x=Aa k\/(k=.cell/\names.lookup x=Aa .free)
 |[],_,_,h=>by simp at h
 |(n,j)::r,x,k,h=>by
  have ih:=@Nt env r x k;have h':F0 x ((if (j==DV&&env.scope.kind==.function&&env.kindOf n==Aa .cell)=Ab then (n,BY) else (n,j))::(r.map λ(n,k)=>if (k==DV&&env.scope.kind==.function&&env.kindOf n==Aa .cell) then (n,BY) else (n,k)))=Aa k:=h
  by_cases hc:(j==DV&&env.scope.kind==.function&&env.kindOf n==Aa .cell)=Ab
  .rw[Ax hc]at h';rw[Cc]at h' ⊢;cases hx:x==n with
   |true=>
    rw[hx]at h';cases h';simp only[Ak]at hc;exact .inr ⟨rfl,by rw[eq_of_beq hc.1.1]⟩
   |false=>rw[hx]at h';exact ih h'
  .rw[AC hc]at h';rw[Cc]at h' ⊢;cases hx:x==n with
   |true=>rw[hx]at h';exact .inl h'
   |false=>rw[hx]at h';exact ih h'
structure BlockOk (X:Cx) (scope:B5) (N':Ac Ah) (ts:Ac Ag):Prop where
 kind:scope.kind=.function
 uniq:∀ y∈scope.names,scope.names.lookup y.1=Aa y.2
 names:∀ y∈scope.names,y.2=.local->scope.names.lookup y.1=Aa .local
 free:∀ y∈scope.names,y.2=.free->X.env.scope.names.lookup y.1=Aa .cell\/X.env.scope.names.lookup y.1=Aa .free
 len:N'.length=X.N.length
 same:∀ i x,N'[i]?=Aa x->scope.names.lookup x=Aa .free->i∉ts->X.N[i]?=Aa x
 loc:∀ i x,N'[i]?=Aa x->(scope.names.lookup x=Aa .local\/scope.names.lookup x=Aa .cell)->i∈ts
structure BCells (X:Cx) (scope:B5) (cl:Ac (Ah×Al)) (C:Al) (h:AD):Prop where
 own:∀ x c,cl.lookup x=Aa c->X.env.cells.lookup x=Aa c\/(scope.names.lookup x=Aa .cell/\C<c/\h.IsCell c Ae)
 inj:∀ x y c,cl.lookup x=Aa c->cl.lookup y=Aa c->x=y
 has:∀ x,scope.names.lookup x=Aa .cell->∃ c,cl.lookup x=Aa c/\C<c
 fr:∀ x,(x,DV)∈scope.names->∃ c,cl.lookup x=Aa c/\X.env.cells.lookup x=Aa c
section
variable{X:Cx}{pI:Pn}{Y:L2.St}{H:Hp}{s:Ap}
noncomputable def hideT(ts:Ac Ag)(Y:L2.St):L2.St:=ts.foldl (λY t=>Y.set t Ae) Y
theorem Qd:∀(ts:Ac Ag)(Y:L2.St),(hideT ts Y).length=Y.length
 |[],_=>rfl
 |t::ts,Y=>by show (hideT ts (Y.set t Ae)).length=_;rw[Qd ts,A5]
theorem Um:∀(ts:Ac Ag)(Y:L2.St){i:Ag}{v:V},(hideT ts Y)[i]?=Aa (Aa v)->Y[i]?=Aa (Aa v)/\i∉ts
 |[],_,_,_,h=>⟨h,by simp⟩
 |t::ts,Y,i,v,h=>by
  obtain⟨h1,h2⟩:=Um ts (Y.set t Ae) (i:=i) (v:=v) h;by_cases e:t=i
  .subst e;have:=GP h1;cases this
  .rw[Ca e]at h1;exact⟨h1,by simp only[Av,Dd];exact⟨λz=>e z.symm,h2⟩⟩
theorem fG{tk:Ag}{C:Al}{m:Ah->Ao Aj}(I:Inv X pI Y H s)(B:BlockOk X scope N' ts)(hf:∀ b∈fp,GW X pI H b)(hfo:∀ b∈fp,b<s.heap.objs.size)(hb:BCells X scope cl C h')(hk:∀ b o,s.heap.get? b=Aa o->h'.get? b=Aa o)(hC:s.heap.objs.size<=C)(hn:h'.Ns C m):Inv (cxC X scope cl C N' s H fp) [] (hideT ts Y) H {s with heap:=h',toks:=tk}:=by
 have stf:∀ b∈fp,b∉frs X.stack:=λb hb z=>by
  rcases Av.mp (I.stkSub b z) with e|e
  .exact(hf b hb).2.1 e
  .exact(hf b hb).2.2.1 e
 have frOf:∀ x,((relabel scope X.env).names.lookup x=Aa .cell\/(relabel scope X.env).names.lookup x=Aa .free)->scope.names.lookup x=Aa .free\/scope.names.lookup x=Aa .cell:=λx hx=>by
  rcases hx with z|z
  .rcases Nt z with z|⟨_,z⟩
   .exact .inr z
   .exact .inl z
  .rcases Nt z with z|⟨z,_⟩
   .exact .inl z
   .cases z
 have gtC:∀ c:Al,C<c->s.heap.objs.size<=c:=λc z=>Cz hC (Gs z)
 have cellK:∀ c v,s.heap.IsCell c v->h'.IsCell c v:=λc v ⟨o,ho,hd⟩=>⟨o,hk _ _ ho,hd⟩
 refine⟨⟨I.ok.mod,B.kind,I.ok.glob,I.ok.blt,hC,hb.inj,λx hx=>?_,λx c h e=>?_,I.ok.hd,I.ok.frames,.inl rfl,λb hbb=>⟨?_,λx c e=>?_⟩,I.bs,Cz I.ok.bsz I.sz,λb o e hbb=>?_,stf,I.stack,I.stkFree⟩,rfl,I.bare,Un.kept hk,⟨m,hn,λi x v h1 h2 h3=>?_⟩,λx c e=>?_,I.hok.fresh hC,λx c e=>(hb.own x c e).elim (I.freeC x c) (λz=>I.hok.fresh (gtC c z.2.1)),λp hp=>absurd (show p∈([]:Pn) from hp) (by simp),I.hok.kept hk,?_⟩
 .rcases frOf x hx with z|z
  .obtain⟨c,q,_⟩:=hb.fr x (CF z);exact⟨c,q⟩
  .obtain⟨c,q,_⟩:=hb.has x z;exact⟨c,q⟩
 .obtain⟨c',q,z⟩:=hb.has x (eq_of_beq h);have e':cl.lookup x=Aa c:=e;rw[q]at e';cases e';exact gtC _ z
 .intro z;have z':b=C:=z;have:=hfo b hbb;rw[z']at this;exact absurd (AI this hC) (Bx _)
 .rcases hb.own x c e with z|z
  .exact(hf b hbb).2.2.2.2.1 x c z
  .intro q;have:=hfo b hbb;have:=gtC c z.2.1;rw[q]at this;exact absurd ‹b<_› (YS.mpr this)
 .rcases (hf b hbb).2.2.2.1 with z|z
  .exact I.ok.noex b o e z
  .exact absurd (AI (AB e) (Cz I.ok.bsz z)) (Bx _)
 .obtain⟨h2,hts⟩:=Um ts Y h2;have h3':(relabel scope X.env).names.lookup x=Aa .local\/(relabel scope X.env).names.lookup x=Aa .cell\/(relabel scope X.env).names.lookup x=Aa .free:=h3;have h1':N'[i]?=Aa x:=h1;rcases h3' with z|z
  .rcases Nt z with z|⟨z,_⟩
   .exact absurd (B.loc i x h1' (.inl z)) hts
   .cases z
  .have fr:=(frOf x z).resolve_right λq=>hts (B.loc i x h1' (.inr q))
   have hm:=CF fr;have hX:=B.same i x h1' fr hts;obtain⟨m0,hn0,hl0⟩:=I.loc;obtain⟨u,ru,lk⟩:=hl0 i x v hX h2 (by
    rcases B.free _ hm rfl with q|q
    .exact .inr (.inl q)
    .exact .inr (.inr q))
   refine⟨u,ru,?_⟩;obtain⟨c,hc,hcX⟩:=hb.fr x hm;rcases lk with ⟨q,_⟩|⟨_,c',hc',hcell⟩
   .have q':X.env.scope.names.lookup x=Aa .local:=q;rcases B.free _ hm rfl with p|p
    .rw[show X.env.scope.names.lookup x=_ from p]at q';cases q'
    .rw[show X.env.scope.names.lookup x=_ from p]at q';cases q'
   .have e:=hcX;rw[hc']at e;cases e;exact .inr ⟨z,c,hc,cellK _ _ hcell⟩
 .rcases hb.own x c e with z|z
  .obtain⟨v,q⟩:=I.cell x c z;exact⟨v,cellK _ _ q⟩
  .exact⟨_,z.2.2⟩
 .show (hideT ts Y).length=N'.length;rw[Qd,I.len,B.len]
theorem T8{C D:Al}{s':Ap}{Y':L2.St}{pins':Pn}{h'':AD}{ys:Ac Aj}(I:Inv X pI Y H s)(hf:∀ b∈fp,GW X pI H b)(I':Inv (cxC X scope cl C N' s H fp) pins' Y' H' s')(hD:s.heap.objs.size<=D)(hDC:D≠C)(hC:s.heap.objs.size<=C)(hd:s'.heap.get? D=Aa { cls:=.type "list",data:=.seq ys.toArray n })(hDn:H' D=Ae)(rv:A8 xs ys)(hz:xs.length<=sizeLine)(hs:Ef C s'.heap h''):Inv X pI Y (upd H' D (.lst xs)) {s' with heap:=h''}:=by
  have u:Un (frs X.stack) fp H H' s.heap s'.heap:=I'.base;have lt:∀ b o,s.heap.get? b=Aa o->b≠C/\b≠D:=λb o e=>⟨λz=>absurd (AI (AB e) (z ▸ hC)) (Bx _),λz=>absurd (AI (AB e) (z ▸ hD)) (Bx _)⟩
  have HD:H D=Ae:=I.hok.fresh hD;have hCn:H' C=Ae:=I'.free;have kb:∀ b o,b≠C->s'.heap.get? b=Aa o->h''.get? b=Aa o:=λb o hb e=>(hs.2 b hb).trans e
  have u2:Un (frs X.stack) fp H (upd H' D (.lst xs)) s.heap h'':=⟨λb o e q hb hx=>kb b o (lt b o e).1 (u.keep b o e q hb hx),λb o e q hb hx=>by
      obtain⟨sl,e1⟩:=u.slot b o e q hb hx;exact⟨sl,kb b _ (lt b o e).1 e1⟩,λb o e q hx=>by rw[Bw (lt b o e).2];exact u.free b o e q hx,λb o e hx=>by
      obtain⟨o',e1⟩:=u.there b o e hx;exact⟨o',kb b _ (lt b o e).1 e1⟩,λb zs q=>by rw[Bw (FT q HD)];exact u.tups b zs q,λb o zs q=>by rw[Bw (FT q HD)];exact u.frzs b o zs q,λb ps q=>by rw[Bw (FT q HD)];exact u.tbls b ps q⟩
  have hok:HOk X.prog X.w (upd H' D (.lst xs)) h'':=λb o e=>by
    by_cases hb:b=D
    · subst hb;rw[EM]at e;cases e;exact⟨hz,ys,n,rv,kb _ _ hDC hd⟩
    · rw[Bw hb]at e;refine(I'.hok b o e).stay (λc v hc q=>kb c v ?_ q) (λc q=>by rw[Bw (FT q hDn)];exact q) λc zs q=>by rw[Bw (FT q hDn)];exact q
      rcases hc with rfl|hc
      · exact FT e hCn
      · exact FT hc hCn
  exact I.call' (s':={s' with heap:=h''}) (ch:=fp) I'.os u2 hok I'.bare λb hb=>⟨(hf b hb).2.2.2.1,(hf b hb).2.1,(hf b hb).2.2.2.2.1,(hf b hb).2.2.2.2.2⟩
end
def PTs(X:Cx)(ifs:Ac Am)(tt:TT):Prop:=∀(pI:Pn)(s:Ap)(Y:L2.St)(H:Hp)(Q:Ai->Hp->Prop),Inv X pI Y H s->tt Y H Q ->
 Au (model X.prog X.w) X.A (forIn ifs Ab λc r=>if r=Ab then do let ok <-IK c X.env (eval c X.env);pure (Er ok) else pure (Er r)) (TP X pI Y Q) X.xe s
theorem pJ:PTs X [] (λY H Q=>Q Ab H):=λpI s Y H Q I h=>wpAny_tests_nil ⟨H,I,h⟩
theorem pH{t:TT}(h:PT X c t):PTs X [c] t:=λpI s Y H Q I q=>wpAny_tests_one (h pI s Y H Q I q)
theorem fJ{D:Al}{ys:Ac Aj}{y:Aj}{E:Vq}{Q:Vq}(I:Inv X ((D,{ cls:=.type "list",data:=.seq ys.toArray n })::pI) Y H s)(hD:X.s₀.heap.objs.size<=D)(hp:∀ p∈X.pn++pI,p.1≠D)(hc:∀ x c,X.env.cells.lookup x=Aa c->c≠D)(hz:ys.length<=sizeLine)(h:∀ s',Inv X ((D,{ cls:=.type "list",data:=.seq (ys++[y]).toArray (n+1) })::pI) Y H s'->(∀ b o,b≠D->s.heap.get? b=Aa o->s'.heap.get? b=Aa o)->Q .none s'):Au (model X.prog X.w) X.A (call (.builtin "list.append") [.ref D,y]) Q E s:=by
 obtain⟨e,hn,hL,hfs,_⟩:=I.pin (D,{ cls:=.type "list",data:=.seq ys.toArray n }) (Bt _ Ay);refine append_at (hsz:=by rw[AA];exact hz) e λh' hs hd=>?_
 have hd':h'.get? D=Aa { cls:=.type "list",data:=.seq (ys++[y]).toArray (n+1) }:=by rw[hd];simp
 have kb:∀ b o,b≠D->s.heap.get? b=Aa o->h'.get? b=Aa o:=λb o hb q=>(hs.2 b hb).trans q
 have I0:Inv X pI Y H s:=I.pins_of λp hp=>I.pin p (Bt _ (Aw _ hp))
 have I1:Inv X pI Y H {s with heap:=h'}:=I0.turned (t':=s.toks) kb hn hL (.inr hD) hc hp
 refine h _ (I1.pins_of λp hp=>?_) kb
 rcases Av.mp hp with rfl|hp
 .exact⟨hd',hn,hL,hfs,λv z=>by
   have z':Mr _ _=Mn v:=z;cases z'⟩
 .exact I1.pin p (Bt _ hp)
section
variable{prog:AK}{w:AZ}{A:AX}{R:IH->Ap->Prop}{s:Ap}
theorem fF{target:Am}{it acc:Aj}(I:Ag->Ap->Prop)(turn:∀ n s,I n s->Au (model prog w) A (Hb it) (λr s₁=>match r with
      |none=>R (.ok .next) s₁
      | some v=>Au (model prog w) A (Gz target it v) (λ_ s₁'=>Au (model prog w) A (assign target env v) (λ_ s₂=>
          Au (model prog w) A (forIn ifs Ab λc r=>if r=Ab then do let ok <-IK c env (eval c env);pure (Er ok) else pure (Er r)) (λok s₃=>
            if ok=Ab then Au (model prog w) A (eval elt env) (λx s₄=>
              Au (model prog w) A (call (.builtin "list.append") [acc,x]) (λ_ s₅=>∃ m,m<n/\I m s₅) (IM (model prog w) A env λe s'=>R (.error e) s') s₄) (IM (model prog w) A env λe s'=>R (.error e) s') s₃
            else ∃ m,m<n/\I m s₃) (IM (model prog w) A env λe s'=>R (.error e) s') s₂) (IM (model prog w) A env λe s'=>R (.error e) s') s₁') (IM (model prog w) A env λe s'=>R (.error e) s') s₁) (IM (model prog w) A env λe s'=>R (.error e) s') s)(n:Ag)(h:I n s):E9 (model prog w) A (.compLoop (.ListComp elt [⟨target,iter,ifs,0⟩] scope pos) 0 it acc env) R s:=by
  refine codeAny_loop rfl I (λn s hI=>?_) n h
  show Au _ A ((compTurn (.ListComp elt [⟨target,iter,ifs,0⟩] scope pos) 0 it acc env).onRaise (λx=>do G9 x env;theTreesLotGoes x)) _ _ s
  refine wpAny_noted ?_;rw[compTurn_list];refine An (DX (An (Bg (turn n s hI) (λr s₁ h₁=>?_) λ_ _ h'=>h')))
  cases r with
  |none=>exact Az h₁
  |some v=>
    refine An (Bg h₁ (λ_ s₁' h₁'=>?_) λ_ _ h'=>h')
    refine An (Bg h₁' (λ_ s₂ h₂=>An (Bg h₂ (λok s₃ h₃=>?_) λ_ _ h'=>h')) λ_ _ h'=>h')
    cases ok with
    |false=>exact Az ⟨rfl,h₃⟩
    |true=>
      exact An (An (Bg h₃ (λx s₄ h₄=>An (Bg h₄ (λ_ s₅ h₅=>Az (Az ⟨rfl,h₅⟩)) λ_ _ h'=>h')) λ_ _ h'=>h'))
end
def MO(J:It)(ts:Ac Ag)(g:TG)(tt:TT)(te:TE)(Y:L2.St)(H:Hp)(Q:VK):Prop:=∃ W:Ag->Ag->Ac V->L2.St->Hp->Prop,(∃ m,W 0 m [] (hideT ts Y) H)/\∀ i m xs Y H,W i m xs Y H ->
 (J.stop i H/\∀ p,H p=Ae->Q (.ref p) (upd H p (.lst xs))) \/
 (J.go i H/\xs.length<sizeLine/\∀ x H',J.yld i H x H'->g x Y H' λY2 H2=>tt Y2 H2 λb H3=>if b=Ab then te Y2 H3 λy H4=>∃ m',m'<m/\W (i+1) m' (xs++[y]) Y2 H4 else ∃ m',m'<m/\W (i+1) m' xs Y2 H3)
theorem Ve{g:TG}{it:Al}{tn:Ag->AD->Prop}{E:Vq}{RR:Aj->Al->IH->Ap->Prop}(hc:X.calm=Ab)(B:BlockOk X scope N' ts)(I:Inv X pI Y H s)(T:Turn X.prog X.w X.K tg J fp it tn)(st:tn 0 s.heap)(hf:∀ b∈fp,GW X pI H b)(hcl:∀ x c,cl.lookup x=Aa c->X.env.cells.lookup x=Aa c)(hcl2:∀ x,(x,DV)∈scope.names->∃ c,cl.lookup x=Aa c)(hg:∀ cl C s H,PG (cxC X scope cl C N' s H fp) tg g)(ht:∀ cl C s H,PTs (cxC X scope cl C N' s H fp) ifs tt)(he:∀ cl C s H,PE (cxC X scope cl C N' s H fp) elt te)(h:MO J ts g tt te Y H Q)(hRR:∀ cl D C s' H' Y' pins' xs ys n m,Inv (cxC X scope cl C N' s H fp) pins' Y' H' s'->s'.heap.get? D=Aa { cls:=.type "list",data:=.seq (FB ys) n }->H' D=Ae->A8 xs ys->xs.length<=sizeLine->s.heap.objs.size<=D->D≠C->s.heap.objs.size<=C->s'.heap.Ns C m->Q (.ref D) (upd H' D (.lst xs))->RR (.ref D) C (.ok .next) s'):Au (model X.prog X.w) X.A (newList []) (λacc s₃=>Au (model X.prog X.w) X.A (IL scope X.env.globals cl [] X.env.qual Ae .none (Aa X.env)) (λcenv s₄=>E9 (model X.prog X.w) X.A (.compStart (.ListComp elt [⟨tg,iter,ifs,0⟩] scope pos) 0 (.ref it) acc {cenv with scope:=relabel scope X.env}) (RR acc cenv.locals) s₄) E s₃) E s:=by
 refine CW (eT ?_);dsimp only;generalize hH2:s.heap.push { cls:=.type "list",dict:=Ae,data:=.seq ([]:Ac Aj).toArray }=H2;have hns₁:(Ha (H2.push { cls:=.type "dict",data:=.dict #[] }) scope.names).Ns H2.objs.size (λ_=>Ae):=(Heap.Ns.new H2 (.type "dict")).keeps (Ih _ _)
 have hkp₁:∀ b o,H2.get? b=Aa o->(Ha (H2.push { cls:=.type "dict",data:=.dict #[] }) scope.names).get? b=Aa o:=λb o e=>Ih _ _ b o (Ar _ e)
 have hown:=PV scope.names (H2.push { cls:=.type "dict",data:=.dict #[] }) cl;have hinj:=PX scope.names (H2.push { cls:=.type "dict",data:=.dict #[] }) cl;rw[Bz]at hown hinj;generalize hcl':CM (H2.objs.size+1) scope.names cl=cl' at hown hinj;have hcf:∀ x,(x,BY)∉scope.names->cl'.lookup x=cl.lookup x:=λx hx=>by rw[<-hcl'];exact PQ _ _ _ x hx
 have hch:∀ x,(x,BY)∈scope.names->∃ c,cl'.lookup x=Aa c/\H2.objs.size+1<=c:=λx hx=>by rw[<-hcl'];exact PY _ _ _ _ x (AU _) (.inl hx)
 generalize hh₁:Ha (H2.push { cls:=.type "dict",data:=.dict #[] }) scope.names=h₁ at hns₁ hkp₁ hown;have hC:H2.objs.size=s.heap.objs.size+1:=by rw[<-hH2,Bz]
 have hCle:s.heap.objs.size<=H2.objs.size:=by rw[hC];exact G1 _
 have hDC:s.heap.objs.size≠H2.objs.size:=by rw[hC];exact A1 (DJ _)
 have below:∀ b,b<s.heap.objs.size->b≠H2.objs.size:=λb hb=>by rw[hC];exact A1 (Ch hb)
 have old:∀ b o,s.heap.get? b=Aa o->h₁.get? b=Aa o:=λb o e=>hkp₁ b o (hH2 ▸ Ar _ e)
 have hacc:h₁.get? s.heap.objs.size=Aa { cls:=.type "list",data:=.seq ([]:Ac Aj).toArray 0 }:=hkp₁ _ _ (hH2 ▸ AH _ rfl);have clt:∀ x c,cl.lookup x=Aa c->c<s.heap.objs.size:=λx c e=>by
  obtain⟨v,q⟩:=I.cell x c (hcl x c e);exact q.lt
 have bc:BCells X scope cl' H2.objs.size h₁:=by
  refine⟨λx c e=>?_,hinj (λx y c e1 e2=>I.ok.inj x y c (hcl x c e1) (hcl y c e2)) (λx c e=>Ch (AI (clt x c e) hCle)),λx hx=>?_,λx hx=>?_⟩
  .rcases hown x c e with q|⟨q1,q2,q3⟩
   .exact .inl (hcl x c q)
   .exact .inr ⟨B.uniq _ q1,q2,q3⟩
  .have hm:=CF hx;obtain⟨c,e,hc⟩:=hch x hm;exact⟨c,e,hc⟩
  .have hno:(x,BY)∉scope.names:=λz=>by
    have e1:=B.uniq _ hx;have e2:=B.uniq _ z;rw[show scope.names.lookup x=_ from e1]at e2
    cases e2
   obtain⟨c,e⟩:=hcl2 x hx;exact⟨c,by rw[hcf x hno];exact e,hcl x c e⟩
 have hfo:∀ b∈fp,b<s.heap.objs.size:=λb hb=>by
  obtain⟨o,e,_⟩:=T.obj 0 _ st b hb;exact AB e
 generalize hD:s.heap.objs.size=D at *;generalize hC':H2.objs.size=C at *;have I0:Inv (cxC X scope cl' C N' s H fp) [] (hideT ts Y) H {s with heap:=h₁,toks:=s.toks+([]:Ac (Ah×Aj)).length}:=fG (tk:=s.toks+([]:Ac (Ah×Aj)).length) I B hf (λb hb=>by rw[hD];exact hfo b hb) bc old (by rw[hD];exact hCle) hns₁
 have nD:H D=Ae:=I.hok.fresh (by rw[hD];exact AU _)
 have noD:∀ b∈fp,b≠D:=λb hb=>A1 (hfo b hb)
 have noC:∀ b∈fp,b≠C:=λb hb=>below b (hfo b hb)
 have stfs:D∉frs X.stack:=λz=>by
  obtain⟨_,o,ho,_⟩:=I.stack.mem z;exact absurd (AB ho) (by rw[hD];exact Bx _)
 have cD:∀ x c,cl'.lookup x=Aa c->c≠D:=λx c e z=>by
  rcases bc.own x c e with q|⟨_,q,_⟩
  .obtain⟨v,q⟩:=I.cell x c q;exact absurd q.lt (by rw[z,hD];exact Bx _)
  .rw[z]at q;exact absurd (AI q hCle) (Bx _)
 have I1:Inv (cxC X scope cl' C N' s H fp) [(D,{ cls:=.type "list",data:=.seq ([]:Ac Aj).toArray 0 })] (hideT ts Y) H {s with heap:=h₁,toks:=s.toks+([]:Ac (Ah×Aj)).length}:=I0.pins_of λp hp=>by
  have e:=Bl.mp hp;subst e;exact⟨hacc,nD,hDC,stfs,λv z=>by
   have z':Mr _ _=Mn v:=z;cases z'⟩
 have st1:tn 0 h₁:=T.keep _ _ _ st λb _ o e=>old b o e
 obtain⟨W,⟨m0,w0⟩,turn⟩:=h;have fpk:∀{pl:Pn}{H':Hp},(∀ p∈pl,p.1=D)->(∀ b∈fp,H' b=Ae)->∀ b∈fp,GW (cxC X scope cl' C N' s H fp) pl H' b:=λ{pl H'} hp hn b hb=>
  ⟨hn b hb,noC b hb,λz=>by
   rcases Av.mp (I.stkSub b z) with e|e
   .exact(hf b hb).2.1 e
   .exact(hf b hb).2.2.1 e,.inl hb,λx c e=>(bc.own x c e).elim ((hf b hb).2.2.2.2.1 x c) (λz q=>absurd (FC hCle z.2.1) (YS.mpr (by rw[q];exact Gs (hfo b hb)))),λp hp'=>by
   have hp2:p∈pl:=hp';rw[hp p hp2];exact(noD b hb).symm⟩
 have loop:∀ s₃:Ap,s₃={s with heap:=h₁,toks:=s.toks+([]:Ac (Ah×Aj)).length} ->
   E9 (model X.prog X.w) X.A (.compLoop (.ListComp elt [⟨tg,iter,ifs,0⟩] scope pos) 0 (.ref it) (.ref D) (compEnvC scope cl' C X.env)) (RR (.ref D) C) s₃:=by
  rintro s₃ rfl;refine fF (λk s'=>∃ i Y' H' xs ys n,Inv (cxC X scope cl' C N' s H fp) [(D,{ cls:=.type "list",data:=.seq (FB ys) n })] Y' H' s'/\tn i s'.heap/\(∀ b∈fp,H' b=Ae)/\A8 xs ys/\xs.length<=sizeLine/\W i k xs Y' H') ?_ m0
   ⟨0,_,H,[],[],0,I1,st1,λb hb=>(hf b hb).1,.nil,E8 _,w0⟩
  rintro k s' ⟨i,Y',H',xs,ys,n,I',st',fr',rv,hz,w'⟩;have one:∀ p∈[((D,{ cls:=.type "list",data:=.seq (FB ys) n }):Al×CU)],p.1=D:=λp hp=>by rw[Bl.mp hp]
  rcases turn i k xs Y' H' w' with ⟨stop,q⟩|⟨go,hlt,step⟩
  .refine Bg (T.done (cxC X scope cl' C N' s H fp) rfl rfl rfl hc i _ s' Y' H' (λ_ _=>AV) I' (fpk one fr') st' stop) (λr s1 ⟨hr,J1⟩=>?_) λ_ _ f=>f.elim
   subst hr;obtain⟨e,hn,_⟩:=J1.pin _ (Bt _ Ay);obtain⟨m,hm,_⟩:=J1.loc;exact hRR cl' D C s1 H' Y' _ xs ys n m J1 e hn rv hz (AU _) hDC hCle hm (q D hn)
  .refine Bg (T.item (cxC X scope cl' C N' s H fp) rfl rfl rfl hc i _ s' Y' H' (λ_ _=>AV) I' (fpk one fr') st' go) (λr s1 ⟨u,hr,h4⟩=>?_) λ_ _ f=>f.elim
   subst hr;refine Bg h4 (λ_ s5 ⟨x,H5,I5,r5,y5,st5,fr5⟩=>?_) λ_ _ f=>f.elim
   have I5':=I5.pinned (fpk one fr5) (T.obj _ _ st5);refine Bg (hg cl' C s H _ s5 Y' H5 x u _ I5' r5 (step x H5 y5)) (λ_ s6 ⟨Y6,H6,I6,q6⟩=>?_) λ_ _ f=>f.elim
   refine Bg (ht cl' C s H _ s6 Y6 H6 _ I6 q6) (λok s7 ⟨H7,I7,q7⟩=>?_) λ_ _ f=>f.elim
   have again:∀{s8:Ap}{H8:Hp}{ys':Ac Aj}{n':Ag},Inv (cxC X scope cl' C N' s H fp) ((D,{ cls:=.type "list",data:=.seq (FB ys') n' })::KH fp s5.heap) Y6 H8 s8->Inv (cxC X scope cl' C N' s H fp) [(D,{ cls:=.type "list",data:=.seq (FB ys') n' })] Y6 H8 s8/\tn (i+1) s8.heap/\∀ b∈fp,H8 b=Ae:=λ{s8 H8 ys' n'} I8=>
    ⟨I8.pins_of λp hp=>I8.pin p (Bt _ (by rw[Bl.mp hp];exact Ay)),T.keep _ _ _ st5 λb hb o e=>(I8.pin (b,o) (Bt _ (Aw _ (NG hb e)))).1,λb hb=>by
     obtain⟨o,e,d⟩:=T.obj _ _ st5 b hb;exact(I8.pin (b,o) (Bt _ (Aw _ (NG hb e)))).2.1⟩
   cases ok with
   |false=>
    rw[AC (by decide)]at q7
    obtain⟨m',hm,w7⟩:=q7;obtain⟨a1,a2,a3⟩:=again I7;rw[AC (by decide)]
    exact⟨m',hm,i+1,Y6,H7,xs,ys,n,a1,a2,a3,rv,hz,w7⟩
   |true=>
    rw[Ax rfl]at q7;rw[Ax rfl];refine Bg (he cl' C s H _ s7 Y6 H7 _ I7 q7) (λval s8 ⟨y,H8,I8,r8,m',hm,w8⟩=>?_) λ_ _ f=>f.elim
    have hl:=rv.length;refine fJ (X:=cxC X scope cl' C N' s H fp) (ys:=ys) (n:=n) (pI:=KH fp s5.heap) I8 (by show s.heap.objs.size<=D;rw[hD];exact AU _) (λp hp=>?_) cD (by omega) λs9 I9 kb=>?_
    .have hp2:p∈KH fp s5.heap:=hp;exact noD _ (TV hp2).1
    .obtain⟨a1,a2,a3⟩:=again I9;exact⟨m',hm,i+1,Y6,H8,xs++[y],ys++[val],n+1,a1,a2,a3,rv.append (.cons r8 .nil),by rw[Cu];exact hlt,w8⟩
 exact codeAny_compStart_list (loop _ rfl) (T.self _ 0 _ _ _ st1 (loop _ rfl))
theorem pV{g:TG}(hc:X.calm=Ab)(B:BlockOk X scope N' ts)(hi:PI X tg iter wi)(hg:∀ cl C s H fp,PG (cxC X scope cl C N' s H fp) tg g)(ht:∀ cl C s H fp,PTs (cxC X scope cl C N' s H fp) ifs tt)(he:∀ cl C s H fp,PE (cxC X scope cl C N' s H fp) elt te)(hs:∀ x,CV iter X.env x=pure x):PE X (.ListComp elt [⟨tg,iter,ifs,0⟩] scope pos) (λY H Q=>wi Y H λJ H1=>MO J ts g tt te Y H1 Q):=by
 intro pI s Y H Q I h;obtain⟨cl,hclos,hcl,hcl2⟩:=TD (scope:=scope) (env:=X.env) λx hx hk=>I.ok.has x.1 ((B.free x hx hk).imp id id)
 rw[eval_ListComp];refine bD (use:=Ae) rfl hs hclos B.kind B.names (thn (hi pI s Y H _ I h) λv s1 h1=>thn h1 λitv s2 h2=>?_)
 obtain⟨it,fp,tn,J,H2,e,I2,T,st2,f2,h3⟩:=h2;subst e;refine Ve (RR:=λacc C=>compPost (model X.prog X.w) X.A X.xe Ae (EP X pI Y Q) acc C) hc B I2 T st2 f2 hcl hcl2 (λcl C s H=>hg cl C s H fp) (λcl C s H=>ht cl C s H fp) (λcl C s H=>he cl C s H fp) h3 λcl' D C s' H' Y' pins' xs ys n m I' hd hDn rv hz hD hDC hC hm q=>?_
 exact⟨m,hm,λh'' hs''=>⟨.ref D,_,T8 I2 f2 I' hD hDC hC hd hDn rv hz hs'',rfl,q⟩⟩
theorem pO{n:Ah}{g:TG}(hc:X.calm=Ab)(B:BlockOk X scope N' ts)(hi:PI X tg iter wi)(hg:∀ cl C s H fp,PG (cxC X scope cl C N' s H fp) tg g)(ht:∀ cl C s H fp,PTs (cxC X scope cl C N' s H fp) ifs tt)(he:∀ cl C s H fp,PE (cxC X scope cl C N' s H fp) elt te)(hs:∀ x,CV iter X.env x=pure x)(hN:X.N.Nodup)(hni:X.N[i]?=Aa n)(hx:X.env.scope.names.lookup n=Aa .local)(hsw:CZ (.ListComp elt [⟨tg,iter,ifs,0⟩] scope pos) (Aa (.Name n pos')) pos2.line X.env=pure Ab):PS X (.Assign [.Name n pos'] (.ListComp elt [⟨tg,iter,ifs,0⟩] scope pos) pos2) (OY (λY H Q=>wi Y H λJ H1=>MO J ts g tt te Y H1 Q) (Fl i)):=by
 intro pI s Y H Dn I h;obtain⟨cl,hclos,hcl,hcl2⟩:=TD (scope:=scope) (env:=X.env) λx hx hk=>I.ok.has x.1 ((B.free x hx hk).imp id id)
 rw[exec_Assign_Name_used _ _ _ _ hsw];refine An (DX (An ?_));show Au _ X.A (do let _ <-comprehension (.ListComp elt [⟨tg,iter,ifs,0⟩] scope pos) scope X.env _ (newList []) Ad (eval iter X.env) (Aa (assign (.Name n pos') X.env))) _ _ s
 refine An (Bg (bD (use:=Aa (assign (.Name n pos') X.env)) (Q:=λ_ s'=>SP X pI Dn .next s') rfl hs hclos B.kind B.names
  (thn (hi pI s Y H _ I h) λv s1 h1=>thn h1 λitv s2 h2=>?_)) (λ_ s' hq=>Az (Az hq)) λ_ _ e=>e)
 obtain⟨it,fp,tn,J,H2,e,I2,T,st2,f2,h3⟩:=h2;subst e;refine Ve (RR:=λacc C=>compPost (model X.prog X.w) X.A X.xe (Aa (assign (.Name n pos') X.env)) (λ_ s'=>SP X pI Dn .next s') acc C) hc B I2 T st2 f2 hcl hcl2 (λcl C s H=>hg cl C s H fp) (λcl C s H=>ht cl C s H fp) (λcl C s H=>he cl C s H fp) h3 λcl' D C s' H' Y' pins' xs ys n' m I' hd hDn rv hz hD hDC hC hm q=>?_
 have J0:Inv X pI Y (upd H' D (.lst xs)) s':=T8 I2 f2 I' hD hDC hC hd hDn rv hz (ZR ..);refine bB (TY J0 hN hni (.inl hx) (show BB (.ref D) (.ref D) from rfl) (λs'' J1 ⟨a,sb,ha⟩=>?_) (.inr hx))
 have hC0:X.s₀.heap.objs.size<=C:=Cz I2.sz hC;have hL:C≠X.env.locals:=λz=>absurd (AI I2.lt (z ▸ hC)) (Bx _)
 have hcC:∀ x c,X.env.cells.lookup x=Aa c->c≠C:=λx c e z=>by
  obtain⟨v,q'⟩:=I2.cell x c e;exact absurd (AI q'.lt (by rw[z];exact hC)) (Bx _)
 have hp:∀ p∈X.pn++pI,p.1≠C:=λp hp z=>absurd (AI (AB (I2.pin p hp).1) (by rw[z];exact hC)) (Bx _)
 have hCn:upd H' D (.lst xs) C=Ae:=by rw[Bw hDC.symm];exact I'.free
 have hCa:C≠a:=by
  rcases ha with rfl|ha
  .exact hL
  .exact λz=>hcC n a ha z.symm
 refine⟨m,hm.sameBut sb hCa,λh'' hs''=>⟨_,_,J1.turned (t':=s''.toks) (λb o hb e=>(hs''.2 b hb).trans e) hCn hL (.inr hC0) hcC hp,q⟩⟩
theorem Lf:∀(ts:Ac Ag)(U:Rho)(j:Ag),(FJ ts U)[j]?=if j∈ts then (U[j]?).map (λ_=>Ae) else U[j]?
 |[],U,j=>by simp[FJ]
 |t::ts,U,j=>by
  show (FJ ts (U.set t Ae))[j]?=_;rw[Lf ts];by_cases h1:j∈ts
  .rw[Ax h1,Ax (Aw _ h1)];by_cases h2:t=j
   .subst h2;rw[FO];cases U[t]?<;>rfl
   .rw[Ca h2]
  .rw[AC h1];by_cases h2:t=j
   .subst h2;rw[Ax Ay,FO];cases U[t]?<;>rfl
   .rw[Ca h2,AC (by simp only[Av,Dd];exact⟨λz=>h2 z.symm,h1⟩)]
theorem NR:∀(ts:Ac Ag)(U:Rho),(FJ ts U).length=U.length
 |[],_=>rfl
 |t::ts,U=>by show (FJ ts (U.set t Ae)).length=_;rw[NR ts,A5]
theorem PM:∀(ts:Ac Ag)(Y:L2.St){i:Ag},i∉ts->(hideT ts Y)[i]?=Y[i]?
 |[],_,_,_=>rfl
 |t::ts,Y,i,h=>by
  simp only[Av,Dd]at h;show (hideT ts (Y.set t Ae))[i]?=_;rw[PM ts _ h.2,Ca (λz=>h.1 z.symm)]
theorem Tr:∀(ts:Ac Ag)(ds:Ac D)(U1 U2:Rho),U1.length=U2.length->(∀ j,j∉ts->U1[j]?=U2[j]?)->EV ts ds U1=EV ts ds U2
 |[],[],U1,U2,hl,h=>congrArg Aa (Yw λj=>h j (by simp))
 |[],_::_,_,_,_,_=>rfl
 |_::_,[],_,_,_,_=>rfl
 |t::ts,d::ds,U1,U2,hl,h=>by
  refine Tr ts ds _ _ (by rw[A5,A5];exact hl) λj hj=>?_
  by_cases e:t=j
  .subst e;rw[Hq,Hq,Ax rfl,Ax rfl,hl]
  .rw[Ca e,Ca e];exact h j (by simp only[Av,Dd];exact⟨λz=>e z.symm,hj⟩)
theorem TL:∀(ts us:Ac Ag)(ds:Ac D)(U U':Rho),(∀ t∈ts,t∈us)->EV ts ds U=Aa U'->FJ us U'=FJ us U
 |[],us,[],U,U',_,e=>by cases e;rfl
 |t::ts,us,d::ds,U,U',hs,e=>by
  rw[TL ts us ds _ U' (λu hu=>hs u (Aw _ hu)) e]
  refine Yw λj=>?_
  rw[Lf,Lf];by_cases h:j∈us
  .rw[Ax h,Ax h,Hq];split
   .rename_i e2;subst e2;split
    .rename_i h3;rw[Be h3];rfl
    .rename_i h3;rw[List.getElem?_eq_none (by omega)]
   .rfl
  .rw[AC h,AC h,Ca];rintro rfl;exact h (hs _ Ay)
 |[],_,_::_,_,_,_,e=>by cases e
 |_::_,_,[],_,_,_,e=>by cases e
section
variable{K:Fg}{CL:ClA}{A:Al->Prop}{U U':Rho}{Y:L2.St}{H:Hp}
theorem Good.less(g:Good K CL A U Y H)(hl:U'.length=U.length)(h:∀(i:Ag)(d:D)(o:Ai),U'[i]?=Aa (Aa (d,o))->U[i]?=Aa (Aa (d,o))):Good K CL A U' Y H:=⟨λi d e=>g.sh i d (h i d Ad e),λi d e=>g.ow i d (h i d Ab e),hl.trans g.len⟩
theorem Good.put(g:Good K CL A U Y H)(t:Ag)(r:Rep K CL H A v d):Good K CL A (U.set t (Aa (d,Ad))) (Y.set t (Aa v)) H:=by
 refine⟨λj e h=>?_,λj e h=>?_,by rw[A5,A5];exact g.len⟩
 .by_cases hj:t=j
  .subst hj;have e1:=GP h;cases e1;have hl:t<Y.length:=by
    rw[<-g.len];have:=(A2.mp h).1;simpa using this
   exact⟨v,by rw[C5 hl],r⟩
  .rw[Ca hj]at h;obtain⟨w',q,rw'⟩:=g.sh j e h;exact⟨w',by rw[Ca hj];exact q,rw'⟩
 .have hj:t≠j:=by
   rintro rfl;have:=GP h;cases this
  rw[Ca hj]at h;obtain⟨a,xs,ds,q,z⟩:=g.ow j e h;exact⟨a,xs,ds,by rw[Ca hj];exact q,z⟩
theorem Good.hide(g:Good K CL A U Y H)(ts:Ac Ag):Good K CL A (FJ ts U) Y H:=g.less (NR _ _) λi d o e=>by
 rw[Lf]at e;split at e
 .cases q:U[i]? with
  |none=>rw[q]at e;cases e
  |some x=>rw[q]at e;cases e
 .exact e
theorem Good.hideT(g:Good K CL A U Y H)(ts:Ac Ag):Good K CL A (FJ ts U) (hideT ts Y) H:=by
 have key:∀ i x,(FJ ts U)[i]?=Aa (Aa x)->U[i]?=Aa (Aa x)/\i∉ts:=λi x e=>by
  rw[Lf]at e;split at e
  .cases q:U[i]? with
   |none=>rw[q]at e;cases e
   |some x=>rw[q]at e;cases e
  .exact⟨e,by assumption⟩
 refine⟨λi d e=>?_,λi d e=>?_,by rw[NR,Qd];exact g.len⟩
 .obtain⟨e1,e2⟩:=key i _ e;obtain⟨v,q,r⟩:=g.sh i d e1;exact⟨v,by rw[PM _ _ e2];exact q,r⟩
 .obtain⟨e1,e2⟩:=key i _ e;obtain⟨a,xs,ds,q,r⟩:=g.ow i d e1;exact⟨a,xs,ds,by rw[PM _ _ e2];exact q,r⟩
end
def GG(K:Fg)(CL:ClA)(ts:Ac Ag)(as:D->Rho->R Rho)(g:TG):Prop:=∀ A U Y H v d U' Q,Good K CL A (FJ ts U) Y H->Rep K CL H A v d->as d U=.ok U'->(∀ Y',Good K CL A U' Y' H->Good K CL A (FJ ts U) Y' H->Q Y' H)->g v Y H Q
theorem rS(i:Ag):GG K CL [i] (λd U=>.ok (U.set i (Aa (d,Ad)))) (Fl i):=λA U Y H v d U' Q g r e k=>by
 cases e;have g2:=g.put i r;have e1:(FJ [i] U).set i (Aa (d,Ad))=U.set i (Aa (d,Ad)):=by
  show (U.set i Ae).set i (Aa (d,Ad))=_;rw[YM]
 rw[e1]at g2;refine k _ g2 ?_;have:=g2.hide [i];have e2:FJ [i] (U.set i (Aa (d,Ad)))=FJ [i] U:=by
  show (U.set i _).set i Ae=U.set i Ae;rw[YM]
 rw[e2]at this;exact this
theorem VQ{K:Fg}{CL:ClA}{A:Al->Prop}{H:Hp}:∀(ts:Ac Ag)(ds:Ac D)(vs:Ac V)(U U':Rho)(Y:L2.St)(Q:L2.St->Hp->Prop),Good K CL A U Y H->Reps K CL H A vs ds->EV ts ds U=Aa U'->(∀ Y',Good K CL A U' Y' H->Q Y' H)->(ts.foldr (λt u=>HX (Fl t) u) Ib) vs Y H Q
 |[],[],[],U,U',Y,Q,x,_,e,k=>by
  cases e;exact⟨rfl,k Y x⟩
 |t::ts,d::ds,v::vs,U,U',Y,Q,x,r,e,k=>⟨v,vs,rfl,VQ ts ds vs _ U' _ Q (x.put t r.1) r.2 e k⟩
 |[],_::_,_,_,_,_,_,_,_,e,_=>by cases e
 |_::_,[],_,_,_,_,_,_,_,e,_=>by cases e
 |[],[],_::_,_,_,_,_,_,r,_,_=>r.elim
 |_::_,_::_,[],_,_,_,_,_,r,_,_=>r.elim
theorem vR(ts:Ac Ag):GG K CL ts (GU ts) (Mj K ts.length (ts.foldr (λt u=>HX (Fl t) u) Ib)):=λA U Y H v d U' Q g r e k=>by
 cases d with
 |tup ds=>
  obtain⟨a,xs,rfl,na,sq,rs⟩:=r;rw[TZ]at e;cases e2:EV ts ds U with
  |none=>rw[e2]at e;cases e
  |some U2=>
   rw[e2]at e;cases e;have e3:EV ts ds (FJ ts U)=Aa U':=by
    rw[<-e2];exact Tr ts ds _ _ (NR _ _) λj hj=>by rw[Lf,AC hj]
   refine⟨a,xs,rfl,sq,by rw[rs.length];exact NE _ _ _ _ e2,VQ ts ds xs _ U' Y Q g rs e3 λY' g'=>k Y' g' ?_⟩
   have:=g'.hide ts;rw[TL ts ts ds U U' (λ_ h=>h) e2]at this
   exact this
 |_=>cases e
noncomputable abbrev W0:XW:=λ_ _=>AV
def STs(X:Cx)(CL:ClA)(ifs:Ac Am)(f:Rho->R Ai):Prop:=∀ A,PTs X ifs (λY H Q=>AOk H A/\∃ U,Good X.K CL A U Y H/\Dj W0 H (f U) Q)
theorem mK:STs X CL [] (λ_=>.ok Ab):=λA pI s Y H Q I ⟨hA,U,g,p⟩=>pJ pI s Y H Q I (p H (AE.refl H))
theorem mJ(h:SB X CL W0 c f):STs X CL [c] f:=λA pI s Y H Q I q=>pH (h A) pI s Y H Q I q
section
variable{X:Cx}{CL:ClA}{W:XW}{tg iter elt:Am}{ifs:Ac Am}{scope:B5}{pos:AG}{N':Ac Ah}{ts:Ac Ag}{fi:Rho->R (Ac D)}{fc:Rho->R Ai}{fe:Rho->R D}{as:D->Rho->R Rho}{g:TG}
theorem eX{g:D->R Ai}{f:D->R D}{x:D}{xs ys:Ac D}(h:BD g f (x::xs)=.ok ys):(g x=.ok Ad/\BD g f xs=.ok ys)\/∃ y r,g x=.ok Ab/\f x=.ok y/\BD g f xs=.ok r/\ys=y::r:=by
 unfold BD at h;cases e:g x with
 |bad=>rw[e]at h;cases h
 |exn z=>rw[e]at h;cases h
 |ok b=>
  rw[e,R.bind_ok]at h;cases b with
  |false=>exact .inl ⟨rfl,h⟩
  |true=>
   rw[Ax rfl]at h;cases e2:f x with
   |bad=>rw[e2]at h;cases h
   |exn z=>rw[e2]at h;cases h
   |ok y=>
    rw[e2,R.bind_ok]at h;cases e3:BD g f xs with
    |bad=>rw[e3]at h;cases h
    |exn z=>rw[e3]at h;cases h
    |ok r=>
     rw[e3,R.bind_ok]at h;cases h;exact .inr ⟨y,r,rfl,rfl,rfl,rfl⟩
theorem Ks{β:Type}{r:R α}{f:α->R β}{b:β}(h:r.bind f=.ok b):∃ a,r=.ok a/\f a=.ok b:=by
 cases r with
 |ok a=>exact⟨a,rfl,h⟩
 |exn x=>cases h
 |bad=>cases h
theorem iF{ds ys:Ac D}(hGG:GG K CL ts as g)(hA:AOk H1 A)(gd:Good K CL A U Y H1)(yl:Jk K CL A ds J H1)(hz:ds.length<=sizeLine)(hcp:BD (λx=>(as x U).bind fc) (λx=>(as x U).bind fe) ds=.ok ys)(q:∀ xs H2,AE H1 H2->Reps K CL H2 A xs ys->∀ p,H2 p=Ae->Q (.ref p) (upd H2 p (.lst xs))):MO J ts g (λY H Q=>AOk H A/\∃ U,Good K CL A U Y H/\Dj W0 H (fc U) Q) (λY H Q=>AOk H A/\∃ U,Good K CL A U Y H/\Bb (λH=>Rep K CL H A) W0 H (fe U) Q) Y H1 Q:=by
 refine⟨λi m xs Y' H'=>m=ds.length-i/\i<=ds.length/\xs.length<=i/\AE H1 H'/\Good K CL A (FJ ts U) Y' H'/\∃ outs rest,Reps K CL H' A xs outs/\BD (λx=>(as x U).bind fc) (λx=>(as x U).bind fe) (ds.drop i)=.ok rest/\ys=outs++rest,
  ⟨ds.length,by simp,E8 _,AU _,AE.refl _,gd.hideT ts,[],ys,trivial,hcp,rfl⟩,?_⟩
 rintro i m xs Y' H' ⟨rfl,hi,hxl,sm,g',outs,rest,rs,hc,e⟩;obtain⟨yst,ygo⟩:=yl H' (Kp.of sm) i;by_cases hlt:i<ds.length
 .have hd:ds[i]?=Aa ds[i]:=Be hlt;obtain⟨hgo,hyl⟩:=ygo _ hd;refine .inr ⟨hgo,by omega,λx H2 hx=>?_⟩
  obtain⟨s2,rx⟩:=hyl x H2 hx;have rx':=rx A (λa ha=>.inl ha) (hA.same sm)
  rw[Fp hlt]at hc;have sm2:=sm.trans s2;rcases eX hc with ⟨h1,h2⟩|⟨y,r,h1,h2,h3,h4⟩
  .obtain⟨U',ea,ec⟩:=Ks h1;refine hGG A U Y' H2 x ds[i] U' _ (g'.same s2) rx' ea λY3 g3 g4=>⟨hA.same sm2,U',g3,?_⟩
   rw[ec];exact λH3 s3=>by
    dsimp only;rw[AC (by decide)]
    exact⟨ds.length-(i+1),by omega,rfl,hlt,by omega,sm2.trans s3,g4.same s3,outs,rest,(rs.same s2).same s3,h2,e⟩
  .obtain⟨U',ea,ec⟩:=Ks h1;obtain⟨U2,ea2,ee⟩:=Ks h2;rw[ea]at ea2;cases ea2;refine hGG A U Y' H2 x ds[i] U' _ (g'.same s2) rx' ea λY3 g3 g4=>⟨hA.same sm2,U',g3,?_⟩
   rw[ec];exact λH3 s3=>by
    dsimp only;rw[Ax rfl];refine⟨(hA.same sm2).same s3,U',g3.same s3,?_⟩;rw[ee];exact λv H4 s4 r4=>⟨ds.length-(i+1),by omega,rfl,hlt,by rw[Cu,YF];omega,(sm2.trans s3).trans s4,(g4.same s3).same s4,outs++[y],r,(((rs.same s2).same s3).same s4).append ⟨r4,trivial⟩,h3,by rw[e,h4];simp⟩
 .have hk':ds.length<=i:=by omega
  rw[Yv hk']at hc;have hr:rest=[]:=by cases hc;rfl
  subst hr;rw[Cq]at e;subst e;exact .inl ⟨yst hk',λp hp=>q xs H' sm rs p hp⟩
theorem EX.ok_of{r:R (Ac D)}{f:Ac D->R D}{Q':It->Hp->Prop}(h:Bb Rq W H (r.bind f) Q)(k:∀ ds J H',r=.ok ds->AE H H'->Jk K CL A ds J H'->ds.length<=sizeLine->Bb Rq W H' (f ds) Q->Q' J H'):EX K CL A W H r Q':=by
 cases r with
 |ok d=>exact λJ H2 s2 y z=>k d J H2 rfl s2 y z (Bb.same s2 h)
 |exn x=>exact h
 |bad=>exact h
theorem xB{r:R α}{a:α}(h:noX r=.ok a):r=.ok a:=by
 cases r with
 |ok b=>exact h
 |exn x=>cases h
 |bad=>cases h
theorem Uv(hGG:GG X.K CL ts as g)(hA:AOk H A)(gd:Good X.K CL A U Y H)(p:Bb (DB X.K CL Ab H A) W H ((fi U).bind λxs=>(noX (BD (λx=>(as x U).bind fc) (λx=>(as x U).bind fe) xs)).bind λys=>.ok (.lst ys)) Q):EX X.K CL A W H (fi U) (λJ H1=>MO J ts g (λY H Q=>AOk H A/\∃ U,Good X.K CL A U Y H/\Dj W0 H (fc U) Q) (λY H Q=>AOk H A/\∃ U,Good X.K CL A U Y H/\Bb (λH=>Rep X.K CL H A) W0 H (fe U) Q) Y H1 Q):=
 EX.ok_of p λds J H1 e1 s1 yl hz p1=>by
  cases e2:noX (BD (λx=>(as x U).bind fc) (λx=>(as x U).bind fe) ds) with
  |ok ys=>
   rw[e2]at p1;exact iF hGG (hA.same s1) (gd.same s1) yl hz (xB e2) λxs H2 s2 rs q hq=>p1 _ _ (s2.trans (FS hq _)) (Kw (s1.trans s2) ((hA.same s1).same s2) hq rs)
  |exn x=>rw[e2]at p1;cases hq:BD (λx=>(as x U).bind fc) (λx=>(as x U).bind fe) ds<;>rw[hq]at e2<;>cases e2
  |bad=>rw[e2]at p1;exact p1.elim
theorem nB(hc:X.calm=Ab)(B:BlockOk X scope N' ts)(hi:SI X CL W tg iter fi)(hGG:GG X.K CL ts as g)(hg:∀ cl C s H fp,PG (cxC X scope cl C N' s H fp) tg g)(ht:∀ cl C s H fp,STs (cxC X scope cl C N' s H fp) CL ifs fc)(he:∀ cl C s H fp,SE (cxC X scope cl C N' s H fp) CL W0 elt fe)(hs:∀ x,CV iter X.env x=pure x):SC X CL W Ab (.ListComp elt [⟨tg,iter,ifs,0⟩] scope pos) (λU=>(fi U).bind λxs=>(noX (BD (λx=>(as x U).bind fc) (λx=>(as x U).bind fe) xs)).bind λys=>.ok (.lst ys)):=λA pI s Y H Q I ⟨hA,U,gd,p⟩=>
 pV hc B (hi A) hg (λcl C s H fp=>ht cl C s H fp A) (λcl C s H fp=>he cl C s H fp A) hs pI s Y H Q I ⟨hA,U,gd,Uv hGG hA gd p⟩
end
section
variable{K:Fg}{CL:ClA}{Fz:Al->HO->Prop}{B:Al->Prop}{U:Rho}{Y:L2.St}{H H':Hp}
theorem Sx.setF(x:Sx K CL Fz B U Y H)(s:AE H H'){ds:Ac D}(h0:H a=Ae)(h1:H' a=Aa (.lst xs))(r:Reps K CL H' (λb=>BG B U Y b\/b=a) xs ds):Sx K CL Fz B (U.set i (Aa (.lst ds,Ab))) (Y.set i (Aa (.ref a))) H':=by
 have nA:¬ BG B U Y a:=x.aok.new h0;have own:∀(j:Ag)(e:D),(U.set i (Aa (.lst ds,Ab)))[j]?=Aa (Aa (e,Ab))->(i=j/\e=.lst ds)\/(i≠j/\U[j]?=Aa (Aa (e,Ab))):=λj e h=>by
  by_cases hj:i=j
  .subst hj;have:=GP h;cases this;exact .inl ⟨rfl,rfl⟩
  .exact .inr ⟨hj,by rw[Ca hj]at h;exact h⟩
 have atI:∀{j:Ag}{y:Sl},(U.set i (Aa (.lst ds,Ab)))[j]?=Aa y->i=j->(Y.set i (Aa (.ref a)))[j]?=Aa (Aa (.ref a)):=λ{j y} h e=>by
  subst e;have hl:i<Y.length:=by
   rw[<-x.len];have:=(A2.mp h).1;simpa using this
  rw[C5 hl]
 have sub:∀ b,BG B (U.set i (Aa (.lst ds,Ab))) (Y.set i (Aa (.ref a))) b->BG B U Y b\/b=a:=λb h=>by
  rcases h with h|⟨j,e,h1,h2⟩
  .exact .inl (.inl h)
  .rcases own j e h1 with ⟨hj,_⟩|⟨hj,h1'⟩
   .rw[atI h1 hj]at h2;cases h2;exact .inr rfl
   .rw[Ca hj]at h2;exact .inl (.inr ⟨j,e,h1',h2⟩)
 have wide:∀{v:V}{d:D},Rep K CL H (BG B U Y) v d->Rep K CL H' (BG B (U.set i (Aa (.lst ds,Ab))) (Y.set i (Aa (.ref a)))) v d:=λr=>(Rep.wide (λb hb=>(sub b hb).imp id λe=>by rw[e];exact h0) _ r).same s
 have wides:∀{v:Ac V}{d:Ac D},Reps K CL H (BG B U Y) v d->Reps K CL H' (BG B (U.set i (Aa (.lst ds,Ab))) (Y.set i (Aa (.ref a)))) v d:=λr=>(Reps.wide (λb hb=>(sub b hb).imp id λe=>by rw[e];exact h0) _ r).same s
 refine⟨⟨λj e h=>?_,λj e h=>?_,by rw[A5,A5];exact x.len⟩,λb h=>?_,λj e b g1 g2=>?_,λj k e f b g1 g2 g3 g4=>?_,λb o z=>s _ _ (x.same b o z),by rw[A5,A5];exact x.len⟩
 .have hj:i≠j:=by
   rintro rfl;have:=GP h;cases this
  rw[Ca hj]at h;obtain⟨w',q,rw'⟩:=x.good.sh j e h;exact⟨w',by rw[Ca hj];exact q,wide rw'⟩
 .rcases own j e h with ⟨hj,rfl⟩|⟨hj,h'⟩
  .have q:=atI h hj;exact⟨a,xs,ds,q,rfl,.inr ⟨j,_,h,q⟩,h1,Reps.sub sub _ r⟩
  .obtain⟨b,ys,es,q,z,ha,hh,rr⟩:=x.good.ow j e h';have q':(Y.set i (Aa (.ref a)))[j]?=Aa (Aa (.ref b)):=by rw[Ca hj];exact q
   exact⟨b,ys,es,q',z,.inr ⟨j,e,h,q'⟩,s _ _ hh,wides rr⟩
 .rcases sub b h with z|z
  .obtain⟨ys,q⟩:=x.aok b z;exact⟨ys,s _ _ q⟩
  .rw[z];exact⟨xs,h1⟩
 .rcases own j e g1 with ⟨hj,_⟩|⟨hj,h'⟩
  .rw[atI g1 hj]at g2;cases g2;refine⟨λo z=>?_,λz=>nA (.inl z)⟩
   have:=x.same a o z;rw[h0]at this;cases this
  .rw[Ca hj]at g2;exact x.new j e b h' g2
 .rcases own j e g1 with ⟨hj,_⟩|⟨hj,h'⟩
  .rw[atI g1 hj]at g3;cases g3;rcases own k f g2 with ⟨hk,_⟩|⟨hk,h''⟩
   .exact hj.symm.trans hk
   .rw[Ca hk]at g4;exact absurd (.inr ⟨k,f,h'',g4⟩) nA
  .rw[Ca hj]at g3;rcases own k f g2 with ⟨hk,_⟩|⟨hk,h''⟩
   .rw[atI g2 hk]at g4;cases g4;exact absurd (.inr ⟨j,e,h',g3⟩) nA
   .rw[Ca hk]at g4;exact x.dis j k e f b h' h'' g3 g4
theorem Sx.upd(x:Sx K CL Fz B U Y H){i:Ag}{d:D}{a:Al}{xs:Ac V}{ds:Ac D}(hi:U[i]?=Aa (Aa (d,Ab)))(ha:Y[i]?=Aa (Aa (.ref a)))(r:Reps K CL H (BG B U Y) xs ds):Sx K CL Fz B (U.set i (Aa (.lst ds,Ab))) Y (L2.upd H a (.lst xs)):=by
 have oa:BG B U Y a:=.inr ⟨i,d,hi,ha⟩;have hil:i<U.length:=(A2.mp hi).1;have get:∀(j:Ag)(e:D),(U.set i (Aa (.lst ds,Ab)))[j]?=Aa (Aa (e,Ab))↔(i=j/\e=.lst ds)\/(i≠j/\U[j]?=Aa (Aa (e,Ab))):=λj e=>by
  by_cases hj:i=j
  .subst hj;rw[C5 hil];simp;exact⟨λz=>z.symm,λz=>z.symm⟩
  .rw[Ca hj];simp[hj]
 have same:∀ b,BG B (U.set i (Aa (.lst ds,Ab))) Y b↔BG B U Y b:=λb=>by
  constructor
  .rintro (h|⟨j,e,h1,h2⟩)
   .exact .inl h
   .rcases (get j e).mp h1 with ⟨rfl,_⟩|⟨_,h1⟩
    .exact .inr ⟨i,d,hi,h2⟩
    .exact .inr ⟨j,e,h1,h2⟩
  .rintro (h|⟨j,e,h1,h2⟩)
   .exact .inl h
   .by_cases hj:i=j
    .subst hj;exact .inr ⟨i,.lst ds,(get i _).mpr (.inl ⟨rfl,rfl⟩),h2⟩
    .exact .inr ⟨j,e,(get j e).mpr (.inr ⟨hj,h1⟩),h2⟩
 have kp:Kp (BG B U Y) H (L2.upd H a (.lst xs)):=λb o e na=>by
  have hne:b≠a:=by
   rintro rfl;exact na oa
  rw[Bw hne];exact e
 refine⟨⟨λj e h=>?_,λj e h=>?_,by rw[A5];exact x.len⟩,λb h=>?_,λj e b g1 g2=>?_,λj k e f b g1 g2 g3 g4=>?_,λb o z=>?_,by rw[A5];exact x.len⟩
 .have hj:i≠j:=by
   rintro rfl;have:=GP h;cases this
  rw[Ca hj]at h;obtain⟨w',q,rw'⟩:=x.good.sh j e h;exact⟨w',q,Rep.sub (λb hb=>(same b).mp hb) _ (Rep.kp kp _ rw')⟩
 .rcases (get j e).mp h with ⟨rfl,rfl⟩|⟨hj,h'⟩
  .exact⟨a,xs,ds,ha,rfl,(same a).mpr oa,EM,Reps.sub (λb hb=>(same b).mp hb) _ (Reps.kp kp _ r)⟩
  .obtain⟨b,ys,es,q,z,hb,hh,rr⟩:=x.good.ow j e h';have hne:b≠a:=λz=>hj (x.dis i j d e a hi h' ha (z ▸ q))
   exact⟨b,ys,es,q,z,(same b).mpr hb,by rw[Bw hne];exact hh,Reps.sub (λb hb=>(same b).mp hb) _ (Reps.kp kp _ rr)⟩
 .obtain⟨ys,q⟩:=x.aok b ((same b).mp h);by_cases e:b=a
  .rw[e];exact⟨xs,EM⟩
  .exact⟨ys,by rw[Bw e];exact q⟩
 .rcases (get j e).mp g1 with ⟨rfl,_⟩|⟨_,h'⟩
  .exact x.new i d b hi g2
  .exact x.new j e b h' g2
 .rcases (get j e).mp g1 with ⟨rfl,_⟩|⟨hj,h'⟩
  .rcases (get k f).mp g2 with ⟨rfl,_⟩|⟨hk,h''⟩
   .rfl
   .exact x.dis i k d f b hi h'' g3 g4
  .rcases (get k f).mp g2 with ⟨rfl,_⟩|⟨hk,h''⟩
   .exact x.dis j i e d b h' hi g3 g4
   .exact x.dis j k e f b h' h'' g3 g4
 .have hne:b≠a:=λe=>(x.new i d a hi ha).1 o (e ▸ z)
  rw[Bw hne];exact x.same b o z
theorem Sx.rel(x:Sx K CL Fz B U Y H)(hi:U[i]?=Aa (Aa (d,Ab))):Sx K CL Fz B (U.set i (Aa (d,Ad))) Y H:=by
 obtain⟨a,xs,ds,q,rfl,oa,hh,rr⟩:=x.good.ow i d hi;have own:∀(j:Ag)(e:D),(U.set i (Aa (.lst ds,Ad)))[j]?=Aa (Aa (e,Ab))->i≠j/\U[j]?=Aa (Aa (e,Ab)):=λj e h=>by
  by_cases hj:i=j
  .subst hj;have:=GP h;cases this
  .exact⟨hj,by rw[Ca hj]at h;exact h⟩
 have sub:∀ b,BG B (U.set i (Aa (.lst ds,Ad))) Y b->BG B U Y b:=λb h=>by
  rcases h with h|⟨j,e,h1,h2⟩
  .exact .inl h
  .exact .inr ⟨j,e,(own j e h1).2,h2⟩
 have na:¬ BG B (U.set i (Aa (.lst ds,Ad))) Y a:=λh=>by
  rcases h with h|⟨j,e,h1,h2⟩
  .exact(x.new i _ a hi q).2 h
  .obtain⟨hj,h1⟩:=own j e h1;exact hj (x.dis i j _ e a hi h1 q h2)
 refine⟨⟨λj e h=>?_,λj e h=>?_,by rw[A5];exact x.len⟩,λb h=>x.aok b (sub b h),λj e b g1 g2=>x.new j e b (own j e g1).2 g2,λj k e f b g1 g2 g3 g4=>x.dis j k e f b (own j e g1).2 (own k f g2).2 g3 g4,x.same,by rw[A5];exact x.len⟩
 .by_cases hj:i=j
  .subst hj;have e1:=GP h;cases e1;exact⟨_,q,a,xs,rfl,.inl na,SqL.of hh,Reps.sub sub _ rr⟩
  .rw[Ca hj]at h;obtain⟨w',q',rw'⟩:=x.good.sh j e h;exact⟨w',q',Rep.sub sub _ rw'⟩
 .obtain⟨hj,h'⟩:=own j e h;obtain⟨b,ys,es,q',z,hb,hh',rr'⟩:=x.good.ow j e h';exact⟨b,ys,es,q',z,.inr ⟨j,e,h,q'⟩,hh',Reps.sub sub _ rr'⟩
end
section
variable{X:Cx}{CL:ClA}{W:XW}{pos:AG}{e:Am}{fe:Rho->R D}{fr:Ai}
theorem BS.exC{f:D->O}(x:Sx X.K CL Fz B U Y H)(h:BS X.K CL Fz B W (O.of U r f) D')(k:∀ d v H',r=.ok d->AE H H'->DB X.K CL fr H A H' v d->Sx X.K CL Fz B U Y H'->BS X.K CL Fz B W (f d) D'->Q v H'):Bb (DB X.K CL fr H A) W H r Q:=by
 cases r with
 |ok d=>exact λv H' s r=>k d v H' rfl s r (x.grow s) h
 |exn y=>exact λH' s=>h H' λb o z=>s _ _ (x.same b o z)
 |bad=>exact h
def SAs(X:Cx)(CL:ClA)(W:XW)(fr:Ai)(i:Ag)(st:AO)(f:Rho->R D):Prop:=∀ A,PS X st (OY (λY H Q=>AOk H A/\∃ U,Good X.K CL A U Y H/\Bb (DB X.K CL fr H A) W H (f U) Q) (Fl i))
theorem SC.sas{n:Ah}(hN:X.N.Nodup)(hi:X.N[i]?=Aa n)(hx:Loc X.env.scope n)(he:SC X CL W fr e fe)(hs:CZ e (Aa (.Name n pos')) pos.line X.env=pure Ad)(hf:X.fn n=Ab\/X.env.scope.names.lookup n=Aa .local):SAs X CL W fr i (.Assign [.Name n pos'] e pos) fe:=
 λA=>Oh hN hi hx (he A) hs hf
theorem jQ{n:Ah}{fe:Rho->R D}{g:TG}(hc:X.calm=Ab)(B:BlockOk X scope N' ts)(hi:SI X CL W tg iter fi)(hGG:GG X.K CL ts as g)(hg:∀ cl C s H fp,PG (cxC X scope cl C N' s H fp) tg g)(ht:∀ cl C s H fp,STs (cxC X scope cl C N' s H fp) CL ifs fc)(he:∀ cl C s H fp,SE (cxC X scope cl C N' s H fp) CL W0 elt fe)(hs:∀ x,CV iter X.env x=pure x)(hN:X.N.Nodup)(hni:X.N[i]?=Aa n)(hx:X.env.scope.names.lookup n=Aa .local)(hsw:CZ (.ListComp elt [⟨tg,iter,ifs,0⟩] scope pos) (Aa (.Name n pos')) pos2.line X.env=pure Ab):SAs X CL W Ab i (.Assign [.Name n pos'] (.ListComp elt [⟨tg,iter,ifs,0⟩] scope pos) pos2) (λU=>(fi U).bind λxs=>(noX (BD (λx=>(as x U).bind fc) (λx=>(as x U).bind fe) xs)).bind λys=>.ok (.lst ys)):=λA pI s Y H Dn I ⟨hA,U,gd,p⟩=>
 pO hc B (hi A) hg (λcl C s H fp=>ht cl C s H fp A) (λcl C s H fp=>he cl C s H fp A) hs hN hni hx hsw pI s Y H Dn I ⟨hA,U,gd,Uv hGG hA gd p⟩
theorem WV{st:AO}(h:SAs X CL W fr i st fe):SS X CL W st (λU=>O.of U (fe U) λd=>.next (U.set i (Aa (d,Ad)))):=λFz B pI s Y H D I ⟨U,x,p⟩=>
 h (BG B U Y) pI s Y H D I ⟨x.aok,U,x.good,BS.exC x p λd v H' _ s r x' q=>q _ H' (x'.set i r.1)⟩
theorem Vr{st:AO}(h:SAs X CL W Ab i st fe):SS X CL W st (λU=>O.of U (fe U) λd=>setF U i d):=λFz B pI s Y H D I ⟨U,x,p⟩=>
 h (BG B U Y) pI s Y H D I ⟨x.aok,U,x.good,BS.exC x p λd v H' _ s r x' q=>by
  cases d with
  |lst ds=>
   obtain⟨a,xs,rfl,h0,h1,rs⟩:=r.2 rfl ds rfl;exact q _ H' (x.setF s h0 h1 rs)
  |dic ds=>exact r.1.elim
  | _=>exact q.elim⟩
theorem mP(he:SC X CL W Ab e fe):SS X CL W (.Return (Aa e) pos) (λU=>O.of U (fe U) λd=>.ret d Ab):=λFz B pI s Y H D I ⟨U,x,p⟩=>
 Q6 (he (BG B U Y)) pI s Y H D I ⟨x.aok,U,x.good,BS.exC x p λd v H' _ s r x' q=>q v H' x'.same (Rep.sub (λa h=>.inl h) _ r.1) λ_ ds e=>by
  obtain⟨a,xs,h0,h1,h2,h3⟩:=r.2 rfl ds e;refine⟨a,xs,h0,λo z=>?_,h2,Reps.sub (λb hb=>hb.imp .inl id) _ h3⟩
  have:=x.same a o z;rw[h1]at this;cases this⟩
noncomputable def Sb(U:Rho)(i:Ag):Ai:=match U[i]? with
  |some (Aa (_,o))=>o
  |_=>Ad
theorem VM(he:PE X e (EB i)):SS X CL W (.Return (Aa e) pos) (λU=>O.of U (Dk U i) λd=>.ret d (Sb U i)):=λFz B pI s Y H D I ⟨U,x,p⟩=>
 Q6 he pI s Y H D I (by
  dsimp only at p;cases e:Dk U i with
  |bad=>rw[e]at p;exact p.elim
  |exn z=>exact(UY e).elim
  |ok d=>
   rw[e]at p;obtain⟨o,e⟩:=VD e;have eo:Sb U i=o:=by unfold Sb;rw[e]
   rw[O.of_ok,eo]at p;cases o with
   |false=>
    obtain⟨v,q,r⟩:=x.good.sh i d e;exact⟨v,q,p v H x.same (Rep.sub (λa h=>.inl h) _ r) λz=>nomatch z⟩
   |true=>
    obtain⟨a,xs,ds,q,rfl,ha,hh,r⟩:=x.good.ow i d e;obtain⟨n1,n2⟩:=x.new i _ a e q;refine⟨_,q,p _ H x.same ⟨a,xs,rfl,.inl n2,SqL.of hh,Reps.sub (λa h=>.inl h) _ r⟩ λ_ ds' e'=>?_⟩
    cases e';exact⟨a,xs,rfl,n1,hh,Reps.sub (λb hb=>hb.elim .inl λz=>z ▸ ha) _ r⟩)
theorem Lv{ds:Ac D}(h:Cw U i=.ok ds):U[i]?=Aa (Aa (.lst ds,Ab)):=by
 unfold Cw at h;split at h
 .rename_i e;cases h;exact e
 .cases h
theorem Lm(h:Cw U i=.exn x):AV:=by
 unfold Cw at h;split at h<;>cases h
variable{o:Am}{i:Ag}{apos cpos:AG}
theorem WW(ho:PE X o (EB i))(he:SE X CL W e fe)(hbase:Eo o "append" X.env (eval o X.env)=eval o X.env)(hfew:((BP cpos (As [e] X.env)).all (λx=>!x.1)&&(Kg cpos (Im [] X.env)).all (λx=>x.1.isSome)&&decide ([e].length+([]:Ac EI).length+(if ([]:Ac EI).isEmpty then 0 else 1)<30))=Ab)(hline:(apos.endLine==cpos.line)=Ab)(hs:As [e] X.env=[(Ad,eval e X.env)])(hsw:CZ (.Call (.Attribute o "append" apos) [e] [] cpos) Ae pos.line X.env=pure Ad):
  SS X CL W (.Expr (.Call (.Attribute o "append" apos) [e] [] cpos) pos) (λU=>O.of U (Cw U i) λxs=>O.of U (fe U) λd=>if Dz (xs.length+1)=Ab then .next (U.set i (Aa (.lst (xs++[d]),Ab))) else .bad):=λFz B pI s Y H D I ⟨U,x,p⟩=>by
 refine Kt (OD Ek ZN ZQ Uf ho (DM (he (BG B U Y)) Fk hs) hbase hfew hline hs rfl) hsw pI s Y H D I ?_;dsimp only at p;cases e1:Cw U i with
 |bad=>rw[e1]at p;exact p.elim
 |exn z=>exact(Lm e1).elim
 |ok ds=>
  rw[e1,O.of_ok]at p;have hi:=Lv e1;obtain⟨a,xs,ds',q,e2,ha,hh,r⟩:=x.good.ow i _ hi;cases e2;refine⟨_,q,.inl ⟨rfl,xs,SqL.of hh⟩,x.aok,U,x.good,BS.ex x p λd v H' _ s rv x' q'=>?_⟩
  split at q'
  .rename_i hz;refine⟨a,xs,v,rfl,rfl,s _ _ hh,?_,q' _ _ (x'.upd hi q ((r.same s).append ⟨rv,trivial⟩))⟩;have:=Ip hz;rw[r.length];omega
  .exact q'.elim
theorem sR{k:Am}{fk:Rho->R Ov.D}{spos:AG}(ho:PE X o (EB i))(hk:ST X CL W k fk)(he:SE X CL W e fe)(ha:∀ v,assign (.Subscript o k spos) X.env v=(do
      let ov <-holding [v] (eval o X.env)
      let iv <-holding [v,ov] (eval k X.env)
      HA spos
      holding [v,ov,iv] (J7 ov iv v)
      release [v,ov,iv] []))(hs:F8 [.Subscript o k spos] e pos.line X.env=pure Ad)(hw:DW [.Subscript o k spos] e X.env=pure Ae)(h1:(B9 [.Subscript o k spos] X.env).map (·.2)=[assign (.Subscript o k spos) X.env]):
    SS X CL W (.Assign [.Subscript o k spos] e pos) (λU=>O.of U (fe U) λd=>O.of U (Cw U i) λxs=>O.of U ((fk U).bind D3) λj=>match plD xs.length j with
      |some n=>.next (U.set i (Aa (.lst (xs.set n d),Ab)))
      | none=>.bad):=λFz B pI s Y H D I ⟨U,x,p⟩=>
  Q7 (he (BG B U Y)) (QY ho (hk (BG B U Y)) Qr ha) hs hw h1 pI s Y H D I ⟨x.aok,U,x.good,BS.ex x p λd v H' _ s rv x' q'=>by
    cases e1:Cw U i with
    |bad=>rw[e1]at q';exact q'.elim
    |exn z=>exact(Lm e1).elim
    |ok ds=>
      rw[e1,O.of_ok]at q';have hi:=Lv e1;obtain⟨a,xs,ds',q,e2,ha,hh,r⟩:=x'.good.ow i _ hi;cases e2;refine⟨_,q,x'.aok,U,x'.good,?_⟩;cases e3:fk U with
      |bad=>rw[e3]at q';exact q'.elim
      |exn z=>rw[e3]at q';exact λH2 s2=>q' H2 λb o z=>s2 _ _ (x'.same b o z)
      |ok dk=>
        rw[e3]at q';intro y H2 s2 ry;cases dk with
        |int j=>
          have ey:=ry.int_of;subst ey;rw[R.bind_ok,MD,O.of_ok]at q';cases e4:plD ds.length j with
          |none=>rw[e4]at q';exact q'.elim
          |some n=>
            rw[e4]at q';refine⟨a,xs,j,n,rfl,rfl,s2 _ _ hh,?_,q' _ _ ((x'.grow s2).upd hi q (Reps.set (rv.same s2) n (r.same s2)))⟩;rw[r.length];exact e4
        | _=>exact q'.elim⟩
theorem mR{as:Ov.D->Rho->R Rho}{g:TG}(hGT:GT X.K CL as g)(hg:PG X tg g)(he:SE X CL W e fe)(hs:F8 [tg] e pos.line X.env=pure Ad)(hw:DW [tg] e X.env=pure Ae)(h1:(B9 [tg] X.env).map (·.2)=[assign tg X.env])(hax:∀ d U x,as d U≠.exn x):SS X CL W (.Assign [tg] e pos) (λU=>O.of U (fe U) λd=>O.of U (as d U) λU'=>.next U'):=λFz B pI s Y H D I ⟨U,x,p⟩=>
 Q7 (he (BG B U Y)) hg hs hw h1 pI s Y H D I ⟨x.aok,U,x.good,BS.ex x p λd v H' _ s rv x' q'=>by
  cases ea:as d U with
  |bad=>rw[ea]at q';exact q'.elim
  |exn z=>exact absurd ea (hax _ _ z)
  |ok U2=>
   rw[ea,O.of_ok]at q';exact hGT Fz B U Y H' v d U2 _ x' rv ea λY' x3=>q' Y' H' x3⟩
theorem mO{rest:Ac AO}{f:Rho->O}(i:Ag)(h:SSs X CL W rest f):SSs X CL W rest (λU=>(match U[i]? with
   |some (Aa (d,Ab))=>O.next (U.set i (Aa (d,Ad)))
   | _=>O.next U).seq f):=λFz B=>PSs.weak (h Fz B) λD Y H ⟨U,x,p⟩=>by
 dsimp only at p;split at p
 .rename_i d e;exact⟨_,x.rel e,p⟩
 .exact⟨U,x,p⟩
end
section
variable{X:Cx}{CL:ClA}{W:XW}{pos:AG}{e k o:Am}{fe fk:Rho->R D}{i:Ag}{apos cpos:AG}
def eF:V->Ac V->Hp->VK->Prop:=λx vs H Q=>∃ l xs j y,x=.ref l/\vs=[.int j,y]/\H l=Aa (.lst xs)/\xs.length+1<=sizeLine/\0<=j/\j.toNat<=xs.length/\Q .non (upd H l (.lst (xs.take j.toNat++y::xs.drop j.toNat)))
theorem A8.take{its:Ac Aj}(r:A8 xs its):∀ n,A8 (xs.take n) (its.take n):=by
 induction r with
 |nil=>intro n;simp;exact .nil
 |cons h _ ih=>
  intro n;cases n with
  |zero=>exact .nil
  |succ n=>exact .cons h (ih n)
theorem A8.drop{its:Ac Aj}(r:A8 xs its):∀ n,A8 (xs.drop n) (its.drop n):=by
 induction r with
 |nil=>intro n;simp;exact .nil
 |cons h t ih=>
  intro n;cases n with
  |zero=>exact .cons h t
  |succ n=>exact ih n
theorem vT:MtM X "list.insert" eF:=by
 intro pI s Y H x vs v us Q I rx rv h;obtain⟨l,xs,j,y,rfl,rfl,hH,hz,j0,j1,q⟩:=h;cases rx;cases rv with
 |cons rj rv=>
  obtain⟨t,rfl⟩:=rj;obtain⟨u,rfl,ru⟩:=A8.one rv;obtain⟨z,its,n,r,hl,e⟩:=I.lstM hH;have ln:=r.length;have hn:=KJ;have fit:¬ (!Builtin.List.listFitsIndex j)=Ab:=by
   unfold Builtin.List.listFitsIndex;simp;constructor<;>omega
  refine K3 F.slot_list_insert ⟨_,e,rfl⟩ F.entry_list_insert (F.args_list_insert_3 _ _ _) (PySem.AutoListH.list_insert_list_int_val_1 l its.toArray n j t u fit (by rw[AA];omega)) ⟨e,?_⟩
  refine⟨.non,_,I.lset (its':=its.take j.toNat++u::its.drop j.toNat) hH e ?_ ((r.take _).append (.cons ru (r.drop _))) ?_,rfl,q⟩
  .have hk:(if j<0 then (j+((its.toArray.size:Ag):Af)).toNat else min j.toNat its.toArray.size)=j.toNat:=by
    rw[AC (by omega),AA,Nat.min_eq_left (by omega)]
   show (its.toArray.extract 0 _).push u++its.toArray.extract _=_;rw[hk]
   apply Array.ext'
   simp;exact YN (by rw[Ga];exact AU _)
  .simp only[Cu,Gb,Bm,Ga];omega
theorem uP(ho:PE X o (EB i))(hk:ST X CL W k fk)(he:SE X CL W e fe)(hbase:Eo o "insert" X.env (eval o X.env)=eval o X.env)(hfew:((BP cpos (As [k,e] X.env)).all (λx=>!x.1)&&(Kg cpos (Im [] X.env)).all (λx=>x.1.isSome)&&decide ([k,e].length+([]:Ac EI).length+(if ([]:Ac EI).isEmpty then 0 else 1)<30))=Ab)(hline:(apos.endLine==cpos.line)=Ab)(hs:As [k,e] X.env=(Ad,eval k X.env)::As [e] X.env)(hs2:As [e] X.env=[(Ad,eval e X.env)])(hpl:(BP cpos (As [e] X.env)).any (·.1)=Ad)(hsw:CZ (.Call (.Attribute o "insert" apos) [k,e] [] cpos) Ae pos.line X.env=pure Ad):
  SS X CL W (.Expr (.Call (.Attribute o "insert" apos) [k,e] [] cpos) pos) (λU=>O.of U (Cw U i) λxs=>O.of U ((fk U).bind D3) λj=>O.of U (fe U) λd=>if (Dz (xs.length+1)&&decide (0<=j)&&decide (j<=xs.length))=Ab then .next (U.set i (Aa (.lst (xs.take j.toNat++d::xs.drop j.toNat),Ab))) else .bad):=λFz B pI s Y H D I ⟨U,x,p⟩=>by
 refine Kt (OD Ek PySem.F.slot_list_insert PySem.F.type_list_insert vT ho (DM (hk (BG B U Y)) (DM (he (BG B U Y)) Fk hs2) hs) hbase hfew hline hs hpl) hsw pI s Y H D I ?_;dsimp only at p;cases e1:Cw U i with
 |bad=>rw[e1]at p;exact p.elim
 |exn z=>exact(Lm e1).elim
 |ok ds=>
  rw[e1,O.of_ok]at p;have hi:=Lv e1;obtain⟨a,xs,ds',q,e2,ha,hh,r⟩:=x.good.ow i _ hi;cases e2;refine⟨_,q,.inl ⟨rfl,xs,SqL.of hh⟩,x.aok,U,x.good,?_⟩;cases e3:fk U with
  |bad=>rw[e3]at p;exact p.elim
  |exn z=>rw[e3]at p;exact λH2 s2=>p H2 λb o z=>s2 _ _ (x.same b o z)
  |ok dk=>
   rw[e3,R.bind_ok]at p;intro y H1 s1 ry;cases dk with
   |int j=>
    have ey:=ry.int_of;subst ey;rw[MD,O.of_ok]at p;have x1:=x.grow s1;refine⟨x1.aok,U,x1.good,BS.ex x1 p λd v H' _ s2 rv x' q'=>?_⟩
    split at q'
    .rename_i hz;simp only[Ak,AW]at hz;obtain⟨⟨h1,h2⟩,h3⟩:=hz;have h1:=Ip h1;have r':=r.same (s1.trans s2);have ln:=r.length;exact⟨a,xs,j,v,rfl,rfl,s2 _ _ (s1 _ _ hh),by omega,h2,by omega,q' _ _ (x'.upd hi q ((Reps.take _ r').append ⟨rv,Reps.drop _ r'⟩))⟩
    .exact q'.elim
   |_=>exact p.elim
end
section
variable{prog:AK}{w:AZ}{A:AX}{E:Vq}{s:Ap}
theorem wZ{j t:Al}{x:Aj}{Q:Vq}(st:s.heap.IsTupleIter j t k)(sq:s.heap.IsTuple t its)(at_:its[k]?=Aa x)(go:∀ h2,h2.IsTupleIter j t (k+1)->Ef j s.heap h2->Q x {s with heap:=h2}):Au (model prog w) A (BL (.ref j)) Q E s:=by
 obtain⟨oj,gj,cj,dj⟩:=id st;obtain⟨ot,gt,_,nt,dt⟩:=sq;show Au _ _ (JD _ _ >>= _) _ _ _;refine An (DG st.typeIs DU (EU DU st.typeIs ZL ?_ (ZH _)));show Au _ _ (field (.ref j) 0 >>= _) _ _ _;refine An (BX gj dj (x:=.ref t) rfl ?_);show Au _ _ (field (.ref j) 1 >>= _) _ _ _;refine An (BX gj dj (x:=.int k 0) rfl ?_);refine An (Dr gt dt ?_);simp only[Ho,at_];exact An (FN gj dj (by simp) (Az ⟨x,rfl,Az (go _ ⟨_,Cn _ gj (EJ (Dq dj _)),(ZW ..).trans cj,by rw[Dq dj];simp[Ei]⟩ (GK ..))⟩))
theorem iG{j t:Al}{Q:Vq}(calm:A.handled=Ae)(st:s.heap.IsTupleIter j t k)(sq:s.heap.IsTuple t its)(at_:its[k]?=Ae)(up:∀ h2 e,Il j s.heap h2->(∃ o,h2.get? e=Aa o/\o.cls=.type "StopIteration")->E (.ref e) {s with heap:=h2}):Au (model prog w) A (BL (.ref j)) Q E s:=by
 obtain⟨oj,gj,cj,dj⟩:=id st;obtain⟨ot,gt,_,nt,dt⟩:=sq;show Au _ _ (JD _ _ >>= _) _ _ _;refine An (DG st.typeIs DU (EU DU st.typeIs ZL ?_ (ZH _)));show Au _ _ (field (.ref j) 0 >>= _) _ _ _;refine An (BX gj dj (x:=.ref t) rfl ?_);show Au _ _ (field (.ref j) 1 >>= _) _ _ _;refine An (BX gj dj (x:=.int k 0) rfl ?_);refine An (Dr gt dt ?_);simp only[Ho,at_];refine An (K7 (An (FN gj dj (by simp) ?_)))
 refine An ?_;simp only[newExc,newTuple];refine An (CW ?_ (by size_fits))
 refine An (m:=aW _ _) (Kf (a:=.none) (by first|rfl|(simp only[aW];rfl)) (CW ?_ (by size_fits)))
 simp only[raiseNew];refine An (wpAny_handled ?_)
 first|rw[show A.in1.handled=Ae from calm]|rw[calm]
 exact An (Az (wpAny_throw (up _ _ (((GK ..).extBut.push _).push _) ⟨_,AH _ rfl,rfl⟩)))
end
structure Dw (prog:AK) (w:AZ) (A:AX) (j:Al) (fp:Ac Al) (n:Ag) (P:Ag->Aj->Prop) (S:Ag->AD->Prop):Prop where
 frame:∀ i h h2,S i h->(∀ c∈fp,∀ o,h.get? c=Aa o->h2.get? c=Aa o)->S i h2
 item:∀ i (s:Ap) (Q:Vq) (E:Vq),i<n->S i s.heap->(∀ x h2 tk,P i x->S (i+1) h2->Ef j s.heap h2->Q x {s with heap:=h2,toks:=tk})->Au (model prog w) A (BL (.ref j)) Q E s
 done:∀ i (s:Ap) (Q:Vq) (E:Vq),n<=i->S i s.heap->(∀ h2 e,Il j s.heap h2->(∃ o,h2.get? e=Aa o/\o.cls=.type "StopIteration")->E (.ref e) {s with heap:=h2})->Au (model prog w) A (BL (.ref j)) Q E s
def EC(t:Ai)(h:AD)(j l:Al)(i:Ag):Prop:=match t with
  |true=>h.IsTupleIter j l i
  |false=>h.IsListIter j l i
def En(t:Ai)(h:AD)(l:Al)(its:Ba Aj):Prop:=match t with
  |true=>h.IsTuple l its
  |false=>h.IsList l its
theorem LX{A:AX}(calm:A.handled=Ae)(t:Ai)(j l:Al)(ne:l≠j)(its:Ba Aj):Dw prog w A j [j,l] its.size (λi v=>its[i]?=Aa v) (λi h=>EC t h j l i/\En t h l its):=by
 cases t with
 |true=>exact⟨λ_ _ _ z k=>⟨z.1.at λo e=>k j (by simp) o e,z.2.at λo e=>k l (by simp) o e⟩,λi s Q E hi z q=>wZ z.1 z.2 (x:=its[i]) (by simp[hi]) λh2 z2 sb=>q _ h2 s.toks (by simp[hi]) ⟨z2,z.2.extBut sb.extBut ne⟩ sb,λi s Q E hi z q=>iG calm z.1 z.2 (by simp[hi]) q⟩
 |false=>exact⟨λ_ _ _ z k=>⟨z.1.at λo e=>k j (by simp) o e,z.2.at λo e=>k l (by simp) o e⟩,λi s Q E hi z q=>wpAny_nextOf_list_item z.1 z.2 (x:=its[i]) (by simp[hi]) λh2 z2 sb=>q _ h2 s.toks (by simp[hi]) ⟨z2,z.2.extBut sb.extBut ne⟩ sb,λi s Q E hi z q=>wpAny_nextOf_list_end calm z.1 z.2 (by simp[hi]) q⟩
theorem nb1{I l c:Ag}(b:l<I)(h:c∈[I,l])(j:Ag):c≠I+(j+1):=by
 have h':c=I\/c=l:=by simpa using h
 omega
theorem nb2{I l c:Ag}(b:l<I)(h:c∈[I+1,l]):c≠I/\c≠I+3/\c≠I+4:=by
 have h':c=I+1\/c=l:=by simpa using h
 omega
theorem nij{I i j:Ag}(h:i≠j):I+i≠I+j:=by omega
theorem ni0{I i:Ag}(h:i≠0):I+i≠I:=by omega
section
variable{prog:AK}{w:AZ}{A:AX}{E:Vq}{s:Ap}
theorem jZ{I l1 l2 n1 n2 k:Ag}{P1 P2:Ag->Aj->Prop}{S1 S2:Ag->AD->Prop}{a b:Aj}{Q:Vq}(b1:l1<I)(b2:l2<I)(D1:Dw prog w A I [I,l1] n1 P1 S1)(D2:Dw prog w A (I+1) [I+1,l2] n2 P2 S2)(hz:Gw s.heap (I+4) (I+2) (I+3) .none)(hI:EH s.heap (I+2) (.ref I) (.ref (I+1)))(hO:EH s.heap (I+3) a b)(g1:S1 k s.heap)(g2:S2 k s.heap)(k1:k<n1)(k2:k<n2)(go:∀ x y h2 tk,P1 k x->P2 k y->Gw h2 (I+4) (I+2) (I+3) (Ei s.heap.objs.size)->EH h2 (I+3) x y->S1 (k+1) h2->S2 (k+1) h2->EH h2 s.heap.objs.size x y ->
   (∀ c o,c∉[I,I+1,I+3,I+4]->s.heap.get? c=Aa o->h2.get? c=Aa o)->Q (.ref s.heap.objs.size) {s with heap:=h2,toks:=tk}):Au (model prog w) A (Builtin.«zip.__next__» ⟨[.ref (I+4)],[]⟩) (λfin s'=>∃ v,fin=.done (.ret v)/\Q v s') E s:=by
 refine An (m:=field (.ref (I+4)) 2) (BX hz rfl (x:=.bool Ad) rfl ?_);refine An (m:=field (.ref (I+4)) 3) (BX hz rfl (x:=.ref (I+2)) rfl (An (Dr hI rfl ?_)));refine An (m:=CQ (.ref (I+4))) ?_;simp only[CQ];refine An (BX hz rfl (x:=.none) rfl (Az ?_));rw[Ax rfl];refine An (K7 (An (BX hz rfl (x:=.ref (I+3)) rfl (An (DQ hz (by simp) λp1 z1 e1=>An ?_)))))
 have z1':Gw p1 (I+4) (I+2) (I+3) .ellipsis:=z1;simp only[YO,YQ,Ic,GL];refine An (An (F9 (An (m:=BL (.ref I)) (D1.item k _ _ _ k1 (D1.frame _ _ _ g1 λc hc o q=>e1.extBut c o (nb1 b1 hc 3) q) λx p2 t2 px s2 e2=>Az ?_))))
 have o2:EH p2 (I+3) a b:=e2.extBut _ _ (ni0 (by decide)) (e1.extBut _ _ (nij (by decide)) hO)
 refine An (Dr o2 rfl (An (GA o2 λp3 o3 e3=>An (Ke (Az ?_)))))
 have o3':EH p3 (I+3) x b:=o3;have g2':S2 k p3:=D2.frame _ _ _ g2 λc hc o q=>e3.extBut c o (nb2 b2 hc).2.1 (e2.extBut c o (nb2 b2 hc).1 (e1.extBut c o (nb2 b2 hc).2.2 q))
 refine An (An (F9 (An (m:=BL (.ref (I+1))) (D2.item k _ _ _ k2 g2' λy p4 t4 py s4 e4=>Az ?_))))
 have o4:EH p4 (I+3) x b:=e4.extBut _ _ (nij (by decide)) o3'
 refine An (Dr o4 rfl (An (GA o4 λp5 o5 e5=>An (Ke (Az (Az ?_))))))
 have o5':EH p5 (I+3) x y:=o5;have sz:p5.objs.size=s.heap.objs.size:=by rw[e5.1,e4.1,e3.1,e2.1,e1.1]
 have z5:Gw p5 (I+4) (I+2) (I+3) .ellipsis:=e5.extBut _ _ (nij (by decide)) (e4.extBut _ _ (nij (by decide)) (e3.extBut _ _ (nij (by decide)) (e2.extBut _ _ (ni0 (by decide)) z1')))
 refine An (Dr o5' rfl (An (wpAny_newTuple ?_)));refine An (m:=Zb (.ref (I+4)) (.ref p5.objs.size)) ?_;simp only[Zb];have z6:Gw (p5.push { cls:=.type "tuple",data:=.seq #[x,y] }) (I+4) (I+2) (I+3) .ellipsis:=Ar _ z5;refine An (DQ z6 (by simp) λp7 z7 e7=>?_)
 have z7':Gw p7 (I+4) (I+2) (I+3) (Ei p5.objs.size):=z7;refine DQ z7' (by simp) λp8 z8 e8=>Az ⟨_,rfl,?_⟩
 have z8':Gw p8 (I+4) (I+2) (I+3) (Ei p5.objs.size):=z8;have lt5:I+4<p5.objs.size:=AB z5;have up:∀ c o,c≠I+4->p5.get? c=Aa o->p8.get? c=Aa o:=λc o nc q=>e8.extBut _ _ nc (e7.extBut _ _ nc (Ar _ q))
 have t8:EH p8 p5.objs.size x y:=e8.extBut _ _ (Ed lt5) (e7.extBut _ _ (Ed lt5) (AH _ rfl));have a1:S1 (k+1) p8:=D1.frame _ _ _ s2 λc hc o q=>up c o (nb1 b1 hc 3) (e5.extBut c o (nb1 b1 hc 2) (e4.extBut c o (nb1 b1 hc 0) (e3.extBut c o (nb1 b1 hc 2) q)))
 have a2:S2 (k+1) p8:=D2.frame _ _ _ s4 λc hc o q=>up c o (nb2 b2 hc).2.2 (e5.extBut c o (nb2 b2 hc).2.1 q)
 have kp:∀ c o,c∉[I,I+1,I+3,I+4]->s.heap.get? c=Aa o->p8.get? c=Aa o:=λc o nc q=>by
  simp only[Av,AR,BO,Dd]at nc;exact up c o nc.2.2.2 (e5.extBut c o nc.2.2.1 (e4.extBut c o nc.2.1 (e3.extBut c o nc.2.2.1 (e2.extBut c o nc.1 (e1.extBut c o nc.2.2.2 q)))))
 have q:=go x y p8 t4 px py (by rw[<-sz];exact z8') (up _ _ (nij (by decide)) o5') a1 a2 (by rw[<-sz];exact t8) kp
 rw[<-sz]at q;exact q
theorem nF{I l1 l2 n1 n2 k:Ag}{P1 P2:Ag->Aj->Prop}{S1 S2:Ag->AD->Prop}{a b:Aj}{Q:Fin->Ap->Prop}(b1:l1<I)(b2:l2<I)(D1:Dw prog w A I [I,l1] n1 P1 S1)(D2:Dw prog w A (I+1) [I+1,l2] n2 P2 S2)(hz:Gw s.heap (I+4) (I+2) (I+3) .none)(hI:EH s.heap (I+2) (.ref I) (.ref (I+1)))(hO:EH s.heap (I+3) a b)(g1:S1 k s.heap)(g2:S2 k s.heap)(hk:n1<=k\/(k<n1/\n2<=k))(up:∀ h2 e tk,(∀ c o,c∉[I,I+1,I+3,I+4]->s.heap.get? c=Aa o->h2.get? c=Aa o)->(∃ o,h2.get? e=Aa o/\o.cls=.type "StopIteration")->E (.ref e) {s with heap:=h2,toks:=tk}):Au (model prog w) A (Builtin.«zip.__next__» ⟨[.ref (I+4)],[]⟩) Q E s:=by
 refine An (m:=field (.ref (I+4)) 2) (BX hz rfl (x:=.bool Ad) rfl ?_);refine An (m:=field (.ref (I+4)) 3) (BX hz rfl (x:=.ref (I+2)) rfl (An (Dr hI rfl ?_)));refine An (m:=CQ (.ref (I+4))) ?_;simp only[CQ];refine An (BX hz rfl (x:=.none) rfl (Az ?_));rw[Ax rfl];refine An (K7 (An (BX hz rfl (x:=.ref (I+3)) rfl (An (DQ hz (by simp) λp1 z1 e1=>An ?_)))))
 have z1':Gw p1 (I+4) (I+2) (I+3) .ellipsis:=z1;simp only[YO,YQ,Ic,GL];have g1':S1 k p1:=D1.frame _ _ _ g1 λc hc o q=>e1.extBut c o (nb1 b1 hc 3) q
 rcases hk with k1|⟨k1,k2⟩
 .refine An (An (F9 (An (m:=BL (.ref I)) (D1.done _ _ _ _ k1 g1' λp2 e e2 he=>?_))))
  obtain⟨oe,hoe,hce⟩:=he;have z2:Gw p2 (I+4) (I+2) (I+3) .ellipsis:=e2 _ _ (ni0 (by decide)) z1'
  have ne:e≠I+4:=λx=>by subst x;rw[z2]at hoe;cases hoe;simp at hce
  refine DQ z2 (by simp) λp3 _ e3=>up p3 e s.toks (λc o nc q=>?_) ⟨oe,e3.extBut _ _ ne hoe,hce⟩
  simp only[Av,AR,BO,Dd]at nc;exact e3.extBut c o nc.2.2.2 (e2 c o nc.1 (e1.extBut c o nc.2.2.2 q))
 .refine An (An (F9 (An (m:=BL (.ref I)) (D1.item k _ _ _ k1 g1' λx p2 t2 px s2 e2=>Az ?_))))
  have o2:EH p2 (I+3) a b:=e2.extBut _ _ (ni0 (by decide)) (e1.extBut _ _ (nij (by decide)) hO)
  refine An (Dr o2 rfl (An (GA o2 λp3 o3 e3=>An (Ke (Az ?_)))))
  have g2':S2 k p3:=D2.frame _ _ _ g2 λc hc o q=>e3.extBut c o (nb2 b2 hc).2.1 (e2.extBut c o (nb2 b2 hc).1 (e1.extBut c o (nb2 b2 hc).2.2 q))
  refine An (An (F9 (An (m:=BL (.ref (I+1))) (D2.done _ _ _ _ k2 g2' λp4 e e4 he=>?_))))
  obtain⟨oe,hoe,hce⟩:=he;have z4:Gw p4 (I+4) (I+2) (I+3) .ellipsis:=e4 _ _ (nij (by decide)) (e3.extBut _ _ (nij (by decide)) (e2.extBut _ _ (ni0 (by decide)) z1'))
  have ne:e≠I+4:=λx=>by subst x;rw[z4]at hoe;cases hoe;simp at hce
  refine DQ z4 (by simp) λp5 _ e5=>up p5 e t2 (λc o nc q=>?_) ⟨oe,e5.extBut _ _ ne hoe,hce⟩
  simp only[Av,AR,BO,Dd]at nc;exact e5.extBut c o nc.2.2.2 (e4 c o nc.2.1 (e3.extBut c o nc.2.2.1 (e2.extBut c o nc.1 (e1.extBut c o nc.2.2.2 q))))
end
def SqX(t:Ai)(K:Fg)(H:Hp)(a:Al)(xs:Ac V):Prop:=match t with
  |true=>SqT K H a xs
  |false=>SqL K H a xs
theorem Je(I:Inv X pI Y H s)(h:SqX t X.K H a xs):∃ its:Ac Aj,A8 xs its/\En t s.heap a its.toArray/\xs.length<=sizeLine:=by
 cases t with
 |true=>
  obtain⟨its,rv,p,z⟩:=I.tuple h;exact⟨its,rv,p,z⟩
 |false=>
  obtain⟨its,rv,p,z⟩:=I.list h;exact⟨its,rv,p.isList,z⟩
theorem PL(I:Inv X pI Y H s)(h:SqX t X.K H a xs)(h2:SqX t X.K H a ys):xs=ys:=by
 cases t with
 |true=>exact I.tuple_inj h h2
 |false=>exact I.list_inj h h2
noncomputable def Itz(K:Fg)(t1 t2:Ai)(a b:Al):It:=
  ⟨λi H=>∃ xs ys x y,SqX t1 K H a xs/\SqX t2 K H b ys/\xs[i]?=Aa x/\ys[i]?=Aa y,
   λi H v H'=>∃ p x y,H p=Ae/\v=.ref p/\(∀ xs,SqX t1 K H a xs->xs[i]?=Aa x)/\(∀ ys,SqX t2 K H b ys->ys[i]?=Aa y)/\H'=upd H p (.tup [x,y]),
   λi H=>∃ xs ys,SqX t1 K H a xs/\SqX t2 K H b ys/\(xs.length<=i\/(i<xs.length/\ys.length<=i))⟩
theorem Inv.turnedL{t':Ag}(ch:Ac Al)(I:Inv X pI Y H s)(k:∀ b o,b∉ch->s.heap.get? b=Aa o->h'.get? b=Aa o)(hf:∀ b∈ch,GW X pI H b):Inv X pI Y H {s with heap:=h',toks:=t'}:=by
 have nit:∀ b u,H b=Aa u->b∉ch:=λb u e z=>by rw[(hf b z).1]at e;cases e
 refine I.step (g':=s.gens) (d':=s.drawn) (ch:=ch) (λb hb=>⟨(hf b hb).2.2.2.1,(hf b hb).2.1,(hf b hb).2.2.2.2.1,(hf b hb).2.2.2.2.2⟩) (λb o _ _ hc e _=>k b o hc e) (λb o _ _ hc e _=>⟨o.slots,k b o hc e⟩) (λ_ _ _ _ n=>n)
  (λb o hc e=>⟨o,k b o hc e⟩) (λ_ _ e=>e) (λ_ _ _ e=>e) (λb ps e=>⟨#[],by rw[e];simp⟩) (λm ⟨o,es,ep,ho,r⟩=>⟨o,es,ep,k _ o (λz=>(hf _ z).2.1 rfl) ho,r⟩) (λb u e=>(I.hok b u e).stay (λc v hc q=>k c v ?_ q) (λ_ q=>q) λ_ _ q=>q) I.bare
 rcases hc with z|z
 .rw[z];exact nit b u e
 .exact nit c _ z
def zTn(t1 t2:Ai)(I l1 l2:Ag)(i:Ag)(h:AD):Prop:=Gw h (I+4) (I+2) (I+3) .none/\EH h (I+2) (.ref I) (.ref (I+1))/\(∃ a b,EH h (I+3) a b)/\EC t1 h I l1 i/\EC t2 h (I+1) l2 i
noncomputable def zFp(I:Ag):Ac Al:=[I,I+1,I+2,I+3,I+4]
theorem EC.obj{j:Al}(z:EC t h j l i):∃ o,h.get? j=Aa o/\∀ v,o.data≠.cell v:=by
 cases t with
 |true=>obtain⟨o,e,c,d⟩:=z;exact⟨o,e,λv z=>by rw[d]at z;cases z⟩
 |false=>obtain⟨o,e,c,d⟩:=z;exact⟨o,e,λv z=>by rw[d]at z;cases z⟩
theorem EC.at'{j:Al}(z:EC t h j l i)(k:∀ o,h.get? j=Aa o->h2.get? j=Aa o):EC t h2 j l i:=by
 cases t with
 |true=>exact PySem.Heap.IsTupleIter.at z k
 |false=>exact PySem.Heap.IsListIter.at z k
theorem jC(t1 t2:Ai)(I l1 l2:Ag)(b1:l1<I)(b2:l2<I):Turn P w K (.Tuple es n pos) (Itz K t1 t2 l1 l2) (zFp I) (I+4) (zTn t1 t2 I l1 l2) where
  mem:=by simp[zFp]
  obj:=λi h ⟨z1,z2,⟨a,b,z3⟩,z4,z5⟩ c hc=>by
    simp only[zFp,Av,AR,BO]at hc;rcases hc with rfl|rfl|rfl|rfl|rfl
    · exact z4.obj
    · exact z5.obj
    · exact⟨_,z2,λv z=>by cases z⟩
    · exact⟨_,z3,λv z=>by cases z⟩
    · exact⟨_,z1,λv z=>by cases z⟩
  keep:=λi h h2 ⟨z1,z2,⟨a,b,z3⟩,z4,z5⟩ k=>⟨k _ (by simp[zFp]) _ z1,k _ (by simp[zFp]) _ z2,⟨a,b,k _ (by simp[zFp]) _ z3⟩,z4.at' λo e=>k _ (by simp[zFp]) o e,z5.at' λo e=>k _ (by simp[zFp]) o e⟩
  item:=by
    intro X hP hw hK hc i pI s Y H E Iv hf ⟨z1,z2,⟨a,b,z3⟩,z4,z5⟩ ⟨xs,ys,x,y,q1,q2,hx,hy⟩;subst hP hw hK;obtain⟨us,rx,sx,_⟩:=Je Iv q1;obtain⟨vs,ry,sy,_⟩:=Je Iv q2;obtain⟨u,hu,ru⟩:=rx.get hx;obtain⟨v,hv,rv⟩:=ry.get hy;have hT:s.TypeIs (.ref (I+4)) "zip" := ⟨_,z1,rfl⟩;have calm:X.A.in1.handled=Ae:=Iv.ok.hd hc;show Au _ _ (Hb _) _ _ _;simp only[Hb];refine An (wpAny_attempt (DG hT Gv (EU Gv hT ZM (jZ (k:=i) b1 b2 (LX calm t1 I l1 (A1 b1) us.toArray) (LX calm t2 (I+1) l2 (A1 (Ch b2)) vs.toArray) z1 z2 z3 ⟨z4,sx⟩ ⟨z5,sy⟩
      (by have:=(A2.mp hu).1;simpa using this) (by have:=(A2.mp hv).1;simpa using this) λx' y' h2 tk px py c1 c2 c3 c4 c5 kp=>Az ?_) (ZI _))))
    have ex:x'=u:=by
      have px':us[i]?=Aa x':=by simpa using px
      rw[hu]at px';exact(Bj px').symm
    have ey:y'=v:=by
      have py':vs[i]?=Aa y':=by simpa using py
      rw[hv]at py';exact(Bj py').symm
    subst ex ey;refine⟨_,rfl,wpAny_letOwnedTupleGo_zip c1 λh3 d1 sb=>?_⟩
    have lt4:I+4<s.heap.objs.size:=AB z1;have kp3:∀ c o,c∉zFp I->s.heap.get? c=Aa o->h3.get? c=Aa o:=λc o nc q=>by
      simp only[zFp,Av,AR,BO,Dd]at nc;exact sb.extBut c o nc.2.2.2.2 (kp c o (by simp only[Av,AR,BO,Dd];exact⟨nc.1,nc.2.1,nc.2.2.2.1,nc.2.2.2.2⟩) q)
    have nT:∀ c∈zFp I,c≠s.heap.objs.size:=λc hc z=>by
      have:c<=I+4:=by
        simp only[zFp,Av,AR,BO]at hc;rcases hc with z|z|z|z|z<;>rw[z]<;>simp
      exact absurd (z ▸ FC this lt4) (Bx _)
    have I1:Inv X pI Y (upd H s.heap.objs.size (.tup [x,y])) { s with heap:=s.heap.push { cls:=.type "tuple",data:=.seq #[x',y'] },toks:=s.toks }:=
      Iv.laid (λ_ _ q=>Ar _ q) (AU _) ⟨(by decide:2<=sizeLine),[x',y'],.cons ru (.cons rv .nil),⟨_,AH _ rfl,rfl,_,rfl⟩⟩
    have hf':∀ b∈zFp I,GW X pI (upd H s.heap.objs.size (.tup [x,y])) b:=λb hb=>⟨by rw[Bw (nT b hb)];exact(hf b hb).1,(hf b hb).2⟩
    have I2:Inv X pI Y (upd H s.heap.objs.size (.tup [x,y])) {s with heap:=h3,toks:=tk}:=Inv.turnedL (s:={ s with heap:=s.heap.push { cls:=.type "tuple",data:=.seq #[x',y'] },toks:=s.toks }) (zFp I) I1 (λc o nc q=>by
      rcases ZT q with ⟨e1,e2⟩|e1
      · subst e1 e2;exact sb.extBut _ _ (Ed lt4) c5
      · exact kp3 c o nc e1) hf'
    refine⟨.ref s.heap.objs.size,_,I2,rfl,⟨s.heap.objs.size,x,y,Iv.fresh,rfl,λzs hz=>by rw[PL Iv hz q1];exact hx,λzs hz=>by rw[PL Iv hz q2];exact hy,rfl⟩,⟨d1,sb.extBut _ _ (nij (by decide)) (kp _ _ (by simp) z2),⟨_,_,sb.extBut _ _ (nij (by decide)) c2⟩,c3.1.at' λo q=>sb.extBut _ o (CP (ni0 (by decide))) q,c4.1.at' λo q=>sb.extBut _ o (nij (by decide)) q⟩,λb hb=>(hf' b hb).1⟩
  done:=by
    intro X hP hw hK hc i pI s Y H E Iv hf ⟨z1,z2,⟨a,b,z3⟩,z4,z5⟩ ⟨xs,ys,q1,q2,hk⟩;subst hP hw hK;obtain⟨us,rx,sx,_⟩:=Je Iv q1;obtain⟨vs,ry,sy,_⟩:=Je Iv q2;have hT:s.TypeIs (.ref (I+4)) "zip" := ⟨_,z1,rfl⟩;have calm:X.A.in1.handled=Ae:=Iv.ok.hd hc;have e1:=rx.length;have e2:=ry.length;simp only[Hb];refine An (wpAny_attempt (DG hT Gv (EU Gv hT ZM (nF (k:=i) b1 b2 (LX calm t1 I l1 (A1 b1) us.toArray) (LX calm t2 (I+1) l2 (A1 (Ch b2)) vs.toArray) z1 z2 z3 ⟨z4,sx⟩ ⟨z5,sy⟩
      (by simp only[AA];omega) λh2 e tk kp he=>?_) (ZI _))))
    obtain⟨o,ho,hcl⟩:=he;refine An (wpAny_isInstance (T := "StopIteration") (b:=Ab) ⟨o,ho,hcl⟩ isSubtype_stop (Az ⟨rfl,Inv.turnedL [I,I+1,I+3,I+4] Iv (λc o nc q=>kp c o nc q) λc hc=>hf c ?_⟩))
    simp only[Av,AR,BO]at hc;simp only[zFp,Av,AR,BO];rcases hc with rfl|rfl|rfl|rfl<;>simp
  self:=λ_ _ _ _ _ st h=>bF st.1 h
section
variable{prog:AK}{w:AZ}{A:AX}{E:Vq}{s:Ap}
noncomputable def itO(t:Ai)(l:Al):CU:=match t with
  |true=>{ cls:=.type "tuple_iterator",data:=.fields #[.ref l,.int 0 0] }
  |false=>{ cls:=.type "list_iterator",data:=.fields #[.ref l,.int 0 0] }
theorem Nc{Q:Vq}(h:En t s.heap l its)(q:Q (.ref s.heap.objs.size) {s with heap:=s.heap.push (itO t l)}):Au (model prog w) A (K4 (.ref l)) Q E s:=by
 cases t with
 |true=>exact Ev h q
 |false=>exact EE h q
theorem En.push(z:En t h l its)(o:CU):En t (h.push o) l its:=by
 cases t with
 |true=>exact PySem.Heap.IsTuple.at z λ_ e=>Ar _ e
 |false=>exact PySem.Heap.IsList.at z λ_ e=>Ar _ e
theorem Rs{j:Al}(e:h.get? j=Aa (itO t l)):EC t h j l 0:=by
 cases t with
 |true=>exact⟨_,e,rfl,rfl⟩
 |false=>exact⟨_,e,rfl,rfl⟩
theorem Qg(t:Ai)(l:Al):(itO t l).isFreed=Ad:=by cases t<;>rfl
noncomputable abbrev zh2(t1 t2:Ai)(h:AD)(l1 l2:Al):AD:=(h.push (itO t1 l1)).push (itO t2 l2)
noncomputable abbrev zh3(t1 t2:Ai)(h:AD)(l1 l2:Al):AD:=(zh2 t1 t2 h l1 l2).push { cls:=.type "tuple",data:=.seq #[.ref h.objs.size,.ref (h.push (itO t1 l1)).objs.size] }
noncomputable abbrev zh4(t1 t2:Ai)(h:AD)(l1 l2:Al):AD:=(zh3 t1 t2 h l1 l2).push { cls:=.type "tuple",data:=.seq #[.none,.none] }
noncomputable abbrev zh5(t1 t2:Ai)(h:AD)(l1 l2:Al):AD:=(zh4 t1 t2 h l1 l2).push { cls:=.type "zip",data:=.fields #[.none,.bool Ad,.bool Ad,.ref (zh2 t1 t2 h l1 l2).objs.size,.ref (zh3 t1 t2 h l1 l2).objs.size] }
theorem nE(t1 t2:Ai)(l1 l2:Al)(xs ys:Ba Aj):Meets (Builtin.«zip.__new__» ⟨[.type "zip",.ref l1,.ref l2],[]⟩) (λ_ R s=>En t1 s.heap l1 xs/\En t2 s.heap l2 ys/\R (.ok (.ret (.ref (zh4 t1 t2 s.heap l1 l2).objs.size))) {s with heap:=zh5 t1 t2 s.heap l1 l2}):=
 .of_wp λprog w A R s h=>by
  obtain⟨hp,g,d,tk,os⟩:=s;obtain⟨a1,a2,q⟩:=h;have hsub:=sub_zip;have L1:En t1 (Ka ⟨hp,g,d,tk,os⟩) l1 xs:=a1;have L2:En t2 (Ka ⟨hp.push (itO t1 l1),g,d,tk,os⟩) l2 ys:=a2.push _
  wp_walk using Nc L1,Nc L2
  exact⟨_,rfl,q⟩
theorem kA{t1 t2:Ai}{l1 l2:Al}{xs ys:Ba Aj}{Q:Vq}(a1:En t1 s.heap l1 xs)(a2:En t2 s.heap l2 ys)(q:∀ h2,zTn t1 t2 s.heap.objs.size l1 l2 0 h2->(∀ c o,s.heap.get? c=Aa o->h2.get? c=Aa o)->Q (.ref (s.heap.objs.size+4)) {s with heap:=h2}):Au (model prog w) A (call (.type "zip") [.ref l1,.ref l2]) Q E s:=by
 refine callType_new F.called_zip (by decide) (F.typeCall_zip_2 _ _) (F.newCall_zip_2 _ _) (λobj=>F.args_object_init_3 obj _ _) F.entry_zip_new (nE t1 t2 l1 l2 xs ys) ⟨a1,a2,?_⟩
 have s1:(s.heap.push (itO t1 l1)).objs.size=s.heap.objs.size+1:=Bz ..;have s2:(zh2 t1 t2 s.heap l1 l2).objs.size=s.heap.objs.size+2:=by rw[Bz,s1]
 have s3:(zh3 t1 t2 s.heap l1 l2).objs.size=s.heap.objs.size+3:=by rw[Bz,s2]
 have s4:(zh4 t1 t2 s.heap l1 l2).objs.size=s.heap.objs.size+4:=by rw[Bz,s3]
 have u5:∀ {c o},(zh4 t1 t2 s.heap l1 l2).get? c=Aa o->(zh5 t1 t2 s.heap l1 l2).get? c=Aa o:=λe=>Ar _ e
 have u4:∀ {c o},(zh3 t1 t2 s.heap l1 l2).get? c=Aa o->(zh5 t1 t2 s.heap l1 l2).get? c=Aa o:=λe=>u5 (Ar _ e)
 have u3:∀ {c o},(zh2 t1 t2 s.heap l1 l2).get? c=Aa o->(zh5 t1 t2 s.heap l1 l2).get? c=Aa o:=λe=>u4 (Ar _ e)
 have u2:∀ {c o},(s.heap.push (itO t1 l1)).get? c=Aa o->(zh5 t1 t2 s.heap l1 l2).get? c=Aa o:=λe=>u3 (Ar _ e)
 have g5:(zh5 t1 t2 s.heap l1 l2).get? (zh4 t1 t2 s.heap l1 l2).objs.size=Aa _:=AH _ rfl;have g4:(zh5 t1 t2 s.heap l1 l2).get? (zh3 t1 t2 s.heap l1 l2).objs.size=Aa _:=u5 (AH _ rfl);have g3:(zh5 t1 t2 s.heap l1 l2).get? (zh2 t1 t2 s.heap l1 l2).objs.size=Aa _:=u4 (AH _ rfl);have g2:(zh5 t1 t2 s.heap l1 l2).get? (s.heap.push (itO t1 l1)).objs.size=Aa _:=u3 (AH _ (Qg _ _));have g1:(zh5 t1 t2 s.heap l1 l2).get? s.heap.objs.size=Aa _:=u2 (AH _ (Qg _ _));show _/\_;rw[s2,s3,s4]at g5;rw[s3]at g4;rw[s1,s2]at g3;rw[s1]at g2;rw[s4];exact⟨⟨_,g5,rfl⟩,q _ ⟨g5,g3,⟨_,_,g4⟩,Rs g1,Rs g2⟩ λc o e=>u2 (Ar _ e)⟩
end
def cY(K:Fg)(ta:TA):TI:=λY H R=>ta Y H λvs H1=>∃ t1 t2 a b xs ys,vs=[.ref a,.ref b]/\SqX t1 K H1 a xs/\SqX t2 K H1 b ys/\(xs.length<=sizeLine->R (Itz K t1 t2 a b) H1)
theorem En.lt(z:En t h a its):a<h.objs.size:=by
 cases t with
 |true=>obtain⟨o,e,_⟩:=z;exact AB e
 |false=>obtain⟨o,e,_⟩:=z;exact AB e
theorem tQ{a b:Am}(hg:Gl X "zip")(hm:X.mg "zip" = Ae)(ha:PA X [a,b] ta)(hs:As [a,b] X.env=[(Ad,eval a X.env),(Ad,eval b X.env)])(hs2:As [b] X.env=[(Ad,eval b X.env)]):
  PI X (.Tuple es n tpos) (.Call (.Name "zip" p) [a,b] [] pos) (cY X.K ta):=by
 intro pI s Y H R I h;refine IN (HS I hg hm PyProof.Rows.boot_zip (BR (thn (ha pos pI s Y H _ I h) λus s1 ⟨vs,H1,I1,r1,q1⟩=>?_) (by rw[hs,hs2]) (by rw[hs2];rfl)))
 obtain⟨t1,t2,c,d,xs,ys,e,sx,sy,q⟩:=q1;subst e;cases r1 with
 |cons r rr=>
  cases rr with
  |cons r' rr=>
   cases rr;cases r;cases r';obtain⟨us,ru,iu,zu⟩:=Je I1 sx;obtain⟨vs,rv,iv,_⟩:=Je I1 sy;refine kA iu iv λh2 z kp=>bF z.1 ?_
   refine⟨s1.heap.objs.size+4,zFp s1.heap.objs.size,_,_,H1,rfl,I1.kept (t':=s1.toks) kp,jC t1 t2 s1.heap.objs.size c d iu.lt iv.lt,z,λb hb=>?_,q zu⟩
   have hb':s1.heap.objs.size<=b:=by
    simp only[zFp,Av,AR,BO]at hb;rcases hb with z|z|z|z|z<;>rw[z]<;>simp
   exact I1.fpOk hb' (I1.hok.fresh hb')
theorem Rz{ds:Ac D}(r:Rep K CL H A v d)(e:Db d=.ok ds):∃ t a xs,v=.ref a/\(∀ H2,Kp A H H2->SqX t K H2 a xs)/\Reps K CL H A xs ds:=by
 cases d with
 |lst es=>
  cases e;obtain⟨q,xs,rfl,na,sq,r⟩:=r;exact⟨Ad,q,xs,rfl,λH2 k=>On k na sq,r⟩
 |tup es=>
  cases e;obtain⟨q,xs,rfl,na,sq,r⟩:=r;exact⟨Ab,q,xs,rfl,λH2 k=>Om k na sq,r⟩
 |_=>cases e
theorem Qo:∀(xs ys:Ac D),(D5 xs ys).length=min xs.length ys.length
 |[],_=>by simp[D5]
 |_::_,[]=>by simp[D5]
 |x::xs,y::ys=>by
  rw[D5,Bm,Qo xs ys];simp only[Bm];omega
theorem UW:∀(xs ys:Ac D)(i:Ag)(d:D),(D5 xs ys)[i]?=Aa d->∃ x y,xs[i]?=Aa x/\ys[i]?=Aa y/\d=.tup [x,y]
 |[],_,i,d,h=>by simp[D5]at h
 |_::_,[],i,d,h=>by simp[D5]at h
 |x::xs,y::ys,0,d,h=>by
  rw[D5]at h;simp only[Yz,Ci]at h;exact⟨x,y,rfl,rfl,h.symm⟩
 |x::xs,y::ys,i+1,d,h=>by
  rw[D5]at h;simp only[Yy]at h ⊢;exact UW xs ys i d h
theorem kB{t1 t2:Ai}{ds es:Ac D}(s1:∀ H2,Kp A H1 H2->SqX t1 K H2 a xs)(s2:∀ H2,Kp A H1 H2->SqX t2 K H2 b ys)(r1:Reps K CL H1 A xs ds)(r2:Reps K CL H1 A ys es):Jk K CL A (D5 ds es) (Itz K t1 t2 a b) H1:=λH k i=>by
 refine⟨λhi=>⟨xs,ys,s1 H k,s2 H k,?_⟩,λd hd=>?_⟩
 .rw[Qo]at hi;rw[r1.length,r2.length];omega
 .obtain⟨x,y,hx,hy,rfl⟩:=UW _ _ _ _ hd;obtain⟨u,hu,ru⟩:=r1.get hx;obtain⟨v,hv,rv⟩:=r2.get hy;refine⟨⟨xs,ys,u,v,s1 H k,s2 H k,hu,hv⟩,?_⟩;rintro w' H' ⟨p,x',y',hp,rfl,c1,c2,rfl⟩;have ex:x'=u:=Bj ((c1 xs (s1 H k)).symm.trans hu);have ey:y'=v:=Bj ((c2 ys (s2 H k)).symm.trans hv);subst ex ey;have sm:=FS hp (.tup [x',y']);exact⟨sm,λB hB aB=>Lx aB hp ⟨ME ru k hB,ME rv k hB,trivial⟩⟩
section
variable{X:Cx}{CL:ClA}{W:XW}{pos p:AG}{a b:Am}{fa fb:Rho->R D}
theorem uU(ha:SE X CL W a fa)(hb:SE X CL W b fb)(hg:Gl X "zip")(hm:X.mg "zip" = Ae)(hs:As [a,b] X.env=[(Ad,eval a X.env),(Ad,eval b X.env)])(hs2:As [b] X.env=[(Ad,eval b X.env)]):
  SI X CL W (.Tuple es n tpos) (.Call (.Name "zip" p) [a,b] [] pos) (λU=>(fa U).bind λx=>(fb U).bind λy=>(Db x).bind λxs=>(Db y).bind λys=>.ok (D5 xs ys)):=
 λA=>PI.weak (tQ hg hm (DM (ha A) (DM (hb A) Fk hs2) (by rw[hs,hs2])) hs hs2) λY H R ⟨hA,U,g,q⟩=>⟨hA,U,g,EX.ex q λd v H1 _ s1 r1 p1=>⟨hA.same s1,U,g.same s1,EX.ex p1 λd2 v2 H2 _ s2 r2 p2=>by
  cases e1:Db d with
  |bad=>rw[e1]at p2;exact p2.elim
  |exn z=>exact absurd e1 (by cases d<;>simp[Db])
  |ok ds=>
   cases e2:Db d2 with
   |bad=>rw[e1,e2]at p2;exact p2.elim
   |exn z=>exact absurd e2 (by cases d2<;>simp[Db])
   |ok es=>
    rw[e1,e2]at p2;obtain⟨t1,c1,xs,rfl,k1,rs1⟩:=Rz (r1.same s2) e1;obtain⟨t2,c2,ys,rfl,k2,rs2⟩:=Rz r2 e2;refine⟨t1,t2,c1,c2,xs,ys,rfl,k1 H2 (Kp.of (AE.refl H2)),k2 H2 (Kp.of (AE.refl H2)),λhz=>p2 _ H2 (AE.refl H2) (kB k1 k2 rs1 rs2) ?_⟩
    rw[Qo,<-rs1.length];omega⟩⟩
end
theorem EC.live{l:Ag}(z:EC t h j l i):∃ o,h.get? j=Aa o/\∀ v,o.data≠.cell v:=by
 cases t with
 |true=>obtain⟨o,e,c,d⟩:=z;exact⟨o,e,λv z=>by rw[d]at z;cases z⟩
 |false=>obtain⟨o,e,c,d⟩:=z;exact⟨o,e,λv z=>by rw[d]at z;cases z⟩
theorem EC.keep{l:Ag}(z:EC t h j l i)(k:∀ o,h.get? j=Aa o->h2.get? j=Aa o):EC t h2 j l i:=by
 cases t with
 |true=>exact PySem.Heap.IsTupleIter.at z k
 |false=>exact PySem.Heap.IsListIter.at z k
theorem xZ{A:AX}(calm:A.handled=Ae)(t:Ai)(j l:Al)(ne:l≠j)(its:Ba Aj):Draws prog w A j [j,l] its.size (λi v=>its[i]?=Aa v) (λi h=>EC t h j l i/\En t h l its):=
 have d:=LX (prog:=prog) (w:=w) calm t j l ne its
 ⟨λi h z=>let ⟨o,e,_⟩:=z.1.live;⟨o,e⟩,d.frame,d.item,λs Q E h q=>d.done _ s Q E (AU _) h q⟩
theorem sH{A:AX}(calm:A.handled=Ae)(t:Ai)(j l:Al)(ne:l≠j)(its:Ba Aj)(i:Ag)(hi:its.size<=i):Draws prog w A j [j,l] i (λ_ _=>AV) (λk h=>k=i/\EC t h j l i/\En t h l its):=
 have d:=LX (prog:=prog) (w:=w) calm t j l ne its
 ⟨λ_ h z=>let ⟨o,e,_⟩:=z.2.1.live;⟨o,e⟩,λk h h' z q=>⟨z.1,d.frame i h h' z.2 q⟩,λk s Q E lt z=>absurd z.1 (A1 lt),λs Q E h q=>d.done i s Q E hi h.2 q⟩
noncomputable def Ite(K:Fg)(t:Ai)(a:Al):It:=
 ⟨λi H=>∃ xs x,SqX t K H a xs/\xs[i]?=Aa x,λi H v H'=>∃ p x,H p=Ae/\v=.ref p/\(∀ xs,SqX t K H a xs->xs[i]?=Aa x)/\H'=upd H p (.tup [.int i,x]),λi H=>∃ xs,SqX t K H a xs/\xs.length<=i⟩
def eTn(t:Ai)(I l:Ag)(i:Ag)(h:AD):Prop:=(∃ old,IsEnum h (I+1) I i old)/\EC t h I l i
theorem gS(t:Ai)(I l:Ag)(b:l<I):Turn P w K (.Tuple es n pos) (Ite K t l) [I,I+1] (I+1) (eTn t I l) where
  mem:=by simp
  obj:=λi h ⟨⟨old,z1⟩,z2⟩ c hc=>by
    simp only[Av,AR,BO]at hc;rcases hc with rfl|rfl
    · exact z2.live
    · exact⟨_,z1,λv z=>by cases z⟩
  keep:=λi h h2 ⟨⟨old,z1⟩,z2⟩ k=>⟨⟨old,k _ (by simp) _ z1⟩,z2.keep λo e=>k _ (by simp) o e⟩
  item:=by
    intro X hP hw hK hc i pI s Y H E Iv hf ⟨⟨old,z1⟩,z2⟩ ⟨xs,x,q1,hx⟩;subst hP hw hK;obtain⟨us,rx,px,_⟩:=Je Iv q1;obtain⟨u,hu,ru⟩:=rx.get hx;have lu:i<us.toArray.size:=by
      have:=(A2.mp hu).1;simpa using this
    refine wpAny_pyNext_enum_itemD (xZ (A:=X.A.in1) (Iv.ok.hd hc) t I l (A1 b) us.toArray) z1 ⟨z2,px⟩ lu (ni0 (by decide)) (by simp only[Av,AR,BO,Dd];exact⟨ni0 (by decide),Ed (AI b (HG _ _))⟩) λu' h2 tk hu' ho it2 hT sz kp=>⟨_,rfl,wpAny_letOwnedTupleGo_enum ho λh3 d1 sb=>?_⟩
    have eu:u'=u:=by
      rw[YB,hu]at hu';exact(Bj hu').symm
    subst eu;have lt:I+1<s.heap.objs.size:=AB z1;have kp3:∀ c o,c∉[I,I+1]->s.heap.get? c=Aa o->h3.get? c=Aa o:=λc o nc q=>by
      simp only[Av,AR,BO,Dd]at nc;exact sb.extBut c o nc.2 (kp c o nc.2 nc.1 q)
    have nT:∀ c∈[I,I+1],c≠s.heap.objs.size:=λc hc z=>by
      have:c<=I+1:=by
        simp only[Av,AR,BO]at hc;rcases hc with z|z<;>rw[z]<;>simp
      exact absurd (z ▸ FC this lt) (Bx _)
    have I1:Inv X pI Y (upd H s.heap.objs.size (.tup [.int i,x])) { s with heap:=s.heap.push { cls:=.type "tuple",data:=.seq #[.int i tk,u'] },toks:=s.toks }:=
      Iv.laid (λ_ _ q=>Ar _ q) (AU _) ⟨(by decide:2<=sizeLine),[.int i tk,u'],.cons ⟨_,rfl⟩ (.cons ru .nil),⟨_,AH _ rfl,rfl,_,rfl⟩⟩
    have hf':∀ b∈[I,I+1],GW X pI (upd H s.heap.objs.size (.tup [.int i,x])) b:=λb hb=>⟨by rw[Bw (nT b hb)];exact(hf b hb).1,(hf b hb).2⟩
    have I2:Inv X pI Y (upd H s.heap.objs.size (.tup [.int i,x])) {s with heap:=h3,toks:=tk+1}:=Inv.turnedL (s:={ s with heap:=s.heap.push { cls:=.type "tuple",data:=.seq #[.int i tk,u'] },toks:=s.toks }) [I,I+1] I1 (λc o nc q=>by
      rcases ZT q with ⟨e1,e2⟩|e1
      · subst e1 e2;exact sb.extBut _ _ (Ed lt) hT
      · exact kp3 c o nc e1) hf'
    exact⟨.ref s.heap.objs.size,_,I2,rfl,⟨s.heap.objs.size,x,Iv.fresh,rfl,λzs hz=>by rw[PL Iv hz q1];exact hx,rfl⟩,⟨⟨u',by simpa using d1⟩,it2.1.keep λo q=>sb.extBut _ o (CP (ni0 (by decide))) q⟩,λb hb=>(hf' b hb).1⟩
  done:=by
    intro X hP hw hK hc i pI s Y H E Iv hf ⟨⟨old,z1⟩,z2⟩ ⟨xs,q1,hk⟩;subst hP hw hK;obtain⟨us,rx,px,_⟩:=Je Iv q1;have e1:=rx.length;have e2:us.toArray.size<=i:=by rw[AA,<-e1];exact hk
    refine wpAny_pyNext_enum_endD (sH (A:=X.A.in1) (Iv.ok.hd hc) t I l (A1 b) us.toArray i e2) z1 ⟨rfl,z2,px⟩ λh2 eb=>⟨rfl,Inv.turnedL [I] Iv (t':=s.toks) (λc o nc q=>eb c o (λz=>nc (by simp[z])) q) λc hc=>hf c ?_⟩
    have:c=I:=by simpa using hc
    subst this;simp
  self:=λ_ _ _ _ _ st h=>bE st.1.choose_spec h
section
variable{prog:AK}{w:AZ}{A:AX}{E:Vq}{s:Ap}
theorem lH(t:Ai)(l:Al)(xs:Ba Aj):Meets (Builtin.«enumerate.__new__» ⟨[.type "enumerate",.ref l],[]⟩) (λ_ R s=>En t s.heap l xs /\
   R (.ok (.ret (.ref (s.heap.push (itO t l)).objs.size))) { s with heap:=(s.heap.push (itO t l)).push { cls:=.type "enumerate",data:=.fields #[.none,.bool Ad,.ref s.heap.objs.size,Ei 0,.none,.none] } }):=
 .of_wp λprog w A R s h=>by
  obtain⟨hp,g,d,tk,os⟩:=s;obtain⟨hl,h⟩:=h;have hsub:=sub_enumerate;have hL:En t (Ka ⟨hp,g,d,tk,os⟩) l xs:=hl
  wp_walk
  refine wpAny_stack_any λst=>Az ?_
  split
  .rename_i c _ _ _ _ _;cases (c==Hw "enumerate")
   .wp_walk using Nc hL
    exact⟨_,rfl,h⟩
   .wp_walk using Nc hL
    exact⟨_,rfl,h⟩
  .wp_walk using Nc hL
   exact⟨_,rfl,h⟩
theorem iE{xs:Ba Aj}{Q:Vq}(hL:En t s.heap l xs)(h:∀ h',IsEnum h' (s.heap.objs.size+1) s.heap.objs.size 0 .none->EC t h' s.heap.objs.size l 0->(∀ b o,s.heap.get? b=Aa o->h'.get? b=Aa o)->Q (.ref (s.heap.objs.size+1)) {s with heap:=h'}):
    Au (model prog w) A (call (.type "enumerate") [.ref l]) Q E s:=by
  refine callType_new F.called_enumerate (by decide) (F.typeCall_enumerate_1 _) (F.newCall_enumerate_1 _) (λobj=>F.args_object_init_2 obj _) F.entry_enumerate_new (lH t l xs) ⟨hL,?_⟩
  have hz:(s.heap.push (itO t l)).objs.size=s.heap.objs.size+1:=Bz ..;show _/\_;rw[hz];have he:IsEnum ((s.heap.push (itO t l)).push { cls:=.type "enumerate",data:=.fields #[.none,.bool Ad,.ref s.heap.objs.size,Ei 0,.none,.none] }) (s.heap.objs.size+1) s.heap.objs.size 0 .none:=by
    have:=AH (s.heap.push (itO t l)) (o:={ cls:=.type "enumerate",data:=.fields #[.none,.bool Ad,.ref s.heap.objs.size,Ei 0,.none,.none] }) rfl;rw[hz]at this;exact this
  exact⟨⟨_,he,rfl⟩,h _ he (Rs (Ar _ (AH _ (Qg _ _)))) λb o x=>Ar _ (Ar _ x)⟩
end
def cZ(K:Fg)(ta:TA):TI:=λY H R=>ta Y H λvs H1=>∃ t a xs,vs=[.ref a]/\SqX t K H1 a xs/\(xs.length<=sizeLine->R (Ite K t a) H1)
theorem pS{a:Am}(hg:Gl X "enumerate")(hm:X.mg "enumerate" = Ae)(ha:PA X [a] ta)(hs:As [a] X.env=[(Ad,eval a X.env)]):
  PI X (.Tuple es n tpos) (.Call (.Name "enumerate" p) [a] [] pos) (cZ X.K ta):=by
 intro pI s Y H R I h;refine IN (HS I hg hm PyProof.Rows.boot_enumerate (BR (thn (ha pos pI s Y H _ I h) λus s1 ⟨vs,H1,I1,r1,q1⟩=>?_) hs rfl))
 obtain⟨t,c,xs,e,sx,q⟩:=q1;subst e;cases r1 with
 |cons r rr=>
  cases rr;cases r;obtain⟨us,ru,pu,zu⟩:=Je I1 sx;refine iE pu λh2 z1 z2 kp=>bE z1 ?_
  refine⟨s1.heap.objs.size+1,[s1.heap.objs.size,s1.heap.objs.size+1],_,_,H1,rfl,I1.kept (t':=s1.toks) kp,gS t s1.heap.objs.size c pu.lt,⟨⟨_,z1⟩,z2⟩,λb hb=>?_,q zu⟩
  have hb':s1.heap.objs.size<=b:=by
   simp only[Av,AR,BO]at hb;rcases hb with z|z<;>rw[z]<;>simp
  exact I1.fpOk hb' (I1.hok.fresh hb')
theorem Qn:∀(j:Af)(xs:Ac D),(FY j xs).length=xs.length
 |_,[]=>rfl
 |j,x::xs=>by rw[FY,Bm,Qn,Bm]
theorem Vc:∀(xs:Ac D)(j:Af)(i:Ag)(d:D),(FY j xs)[i]?=Aa d->∃ x,xs[i]?=Aa x/\d=.tup [.int (j+i),x]
 |[],j,i,d,h=>by simp[FY]at h
 |x::xs,j,0,d,h=>by
  rw[FY]at h;simp only[Yz,Ci]at h;exact⟨x,rfl,by rw[<-h];simp⟩
 |x::xs,j,i+1,d,h=>by
  rw[FY]at h;simp only[Yy]at h ⊢;obtain⟨y,h1,h2⟩:=Vc xs (j+1) i d h;exact⟨y,h1,by rw[h2];congr 3;omega⟩
theorem fK{ds:Ac D}(sq:∀ H2,Kp A H1 H2->SqX t K H2 a xs)(r1:Reps K CL H1 A xs ds):Jk K CL A (FY 0 ds) (Ite K t a) H1:=λH k i=>by
 have s1:=sq H k;refine⟨λhi=>⟨xs,s1,?_⟩,λd hd=>?_⟩
 .rw[Qn]at hi;rw[r1.length];exact hi
 .obtain⟨x,hx,rfl⟩:=Vc _ _ _ _ hd;obtain⟨u,hu,ru⟩:=r1.get hx;refine⟨⟨xs,u,s1,hu⟩,?_⟩;rintro w' H' ⟨p,x',hp,rfl,c1,rfl⟩;have ex:x'=u:=Bj ((c1 xs s1).symm.trans hu);subst ex;rw[FA];exact⟨FS hp (.tup [.int i,x']),λB hB aB=>Lx aB hp ⟨rfl,ME ru k hB,trivial⟩⟩
section
variable{X:Cx}{CL:ClA}{W:XW}{pos p:AG}{a:Am}{fa:Rho->R D}
theorem mX(ha:SE X CL W a fa)(hg:Gl X "enumerate")(hm:X.mg "enumerate" = Ae)(hs:As [a] X.env=[(Ad,eval a X.env)]):
  SI X CL W (.Tuple es n tpos) (.Call (.Name "enumerate" p) [a] [] pos) (λU=>(fa U).bind λx=>(Db x).bind λxs=>.ok (FY 0 xs)):=
 λA=>PI.weak (pS hg hm (DM (ha A) Fk hs) hs) λY H R ⟨hA,U,g,q⟩=>⟨hA,U,g,EX.ex q λd v H1 _ s1 r1 p1=>by
  cases e1:Db d with
  |bad=>rw[e1]at p1;exact p1.elim
  |exn z=>exact absurd e1 (by cases d<;>simp[Db])
  |ok ds=>
   rw[e1]at p1;obtain⟨t,c,xs,rfl,k1,rs⟩:=Rz r1 e1;exact⟨t,c,xs,rfl,k1 H1 (Kp.of (AE.refl H1)),λhz=>p1 _ H1 (AE.refl H1) (fK k1 rs) (by rw[Qn,<-rs.length];exact hz)⟩⟩
end
noncomputable abbrev SK(h:AD)(z TI TO:Al)(f0 f1:Aj):Prop:=h.get? z=Aa { cls:=.type "zip",dict:=Ae,data:=.fields #[f0,f1,.bool Ad,.ref TI,.ref TO],slots:=#[] }
noncomputable abbrev SL(h:AD)(T:Al)(a b c:Aj):Prop:=h.get? T=Aa { cls:=.type "tuple",data:=.seq #[a,b,c] }
section
variable{prog:AK}{w:AZ}{A:AX}{E:Vq}{s:Ap}
def Z_3(t1 t2 t3:Ai)(I l1 l2 l3 i:Ag)(h:AD):Prop:=SL h (I+3) (.ref (I+0)) (.ref (I+1)) (.ref (I+2))/\EC t1 h (I+0) l1 i/\EC t2 h (I+1) l2 i/\EC t3 h (I+2) l3 i/\(∃ a b c,SL h (I+4) a b c) /\
 (SK h (I+5) (I+3) (I+4) .none (.bool Ad)\/∃(T1:Ag)(f1:Ai),SK h (I+5) (I+3) (I+4) (Ei T1) (.bool f1))
end
section
variable{prog:AK}{w:AZ}{A:AX}{R:IH->Ap->Prop}
theorem En.at'(z:En t h l its)(k:∀ o,h.get? l=Aa o->h2.get? l=Aa o):En t h2 l its:=by
 cases t with
 |true=>exact PySem.Heap.IsTuple.at z k
 |false=>exact PySem.Heap.IsList.at z k
theorem Z_3.at'{t1 t2 t3:Ai}{I l1 l2 l3 i:Ag}{h h2:AD}(z:Z_3 t1 t2 t3 I l1 l2 l3 i h)(k:∀ j,j<=5->∀ o,h.get? (I+j)=Aa o->h2.get? (I+j)=Aa o):Z_3 t1 t2 t3 I l1 l2 l3 i h2:=by
 obtain⟨zI,i1,i2,i3,⟨a,b,c,hO⟩,zz⟩:=z;exact⟨k 3 (by decide) _ zI,i1.at' λo q=>k 0 (by decide) o q,i2.at' λo q=>k 1 (by decide) o q,i3.at' λo q=>k 2 (by decide) o q,⟨a,b,c,k 4 (by decide) _ hO⟩,zz.imp (k 5 (by decide) _) λ⟨T1,f1,hz⟩=>⟨T1,f1,k 5 (by decide) _ hz⟩⟩
end
section
variable{prog:AK}{w:AZ}{A:AX}{E:Vq}{s:Ap}
end
theorem Z_3.ty{t1 t2 t3:Ai}{I l1 l2 l3 i:Ag}(z:Z_3 t1 t2 t3 I l1 l2 l3 i s.heap):s.TypeIs (.ref (I+5)) "zip" := by
 obtain⟨_,_,_,_,_,hz|⟨_,_,hz⟩⟩:=z
 .exact⟨_,hz,rfl⟩
 .exact⟨_,hz,rfl⟩
theorem Z_3.lt{t1 t2 t3:Ai}{I l1 l2 l3 i:Ag}(z:Z_3 t1 t2 t3 I l1 l2 l3 i s.heap):I+5<s.heap.objs.size:=by
 obtain⟨o,h,_⟩:=z.ty;exact AB h
section
variable{prog:AK}{w:AZ}{A:AX}{E:Vq}{s:Ap}
end
section
variable{X:Cx}{CL:ClA}{W:XW}{pos p pos' p':AG}{a b c:Am}{fa fb fc:Rho->R D}
end
section
variable{X:Cx}{CL:ClA}{W:XW}{pos p tpos:AG}{a b c:Am}{fa fb fc:Rho->R D}{x:Ah}
end
section
variable{X:Cx}{CL:ClA}{W:XW}{a:Am}{fa:Rho->R D}
end
theorem tP{i:Af}{m:Ag}(h:plD n i=Aa m):-(n:Af)<=i/\i<n/\Hc i n=Aa m:=by
 unfold plD at h;unfold Hc;by_cases h0:0<=i
 .rw[Ax h0]at h;by_cases h1:i<n
  .rw[Ax h1]at h;have h2:¬ i<0:=by omega
   refine⟨by omega,h1,?_⟩
   simp only[h2,G0];rw[Ax (by simp;omega)]
   exact h
  .rw[AC h1]at h;cases h
 .rw[AC h0]at h;by_cases h1:-(n:Af)<=i
  .rw[Ax h1]at h;have h2:i<0:=by omega
   refine⟨h1,by omega,?_⟩
   simp only[h2,Ep];rw[Ax (by simp;omega)]
   exact h
  .rw[AC h1]at h;cases h
theorem Tw{K:Fg}{CL:ClA}{H:Hp}{A:Al->Prop}:∀{xs:Ac V}{ds:Ac D}(m:Ag),Reps K CL H A xs ds->Reps K CL H A (xs.eraseIdx m) (ds.eraseIdx m)
 |[],[],_,h=>h
 |v::vs,d::ds,0,h=>h.2
 |v::vs,d::ds,m+1,h=>⟨h.1,Tw m h.2⟩
 |[],_::_,_,h=>h.elim
 |_::_,[],_,h=>h.elim
section
variable{X:Cx}{CL:ClA}{W:XW}{o o' e:Am}{fe:Rho->R D}{i j:Ag}{apos cpos apos' cpos' pos:AG}
theorem mS(ho:PE X o (EB j))(ho':PE X o' (EB i))(he:SE X CL W e fe)(hbase:Eo o "append" X.env (eval o X.env)=eval o X.env)(hbase':Eo o' "pop" X.env (eval o' X.env)=eval o' X.env)(hline:(apos.endLine==cpos.line)=Ab)(hline':(apos'.endLine==cpos'.line)=Ab)(hs:As [e] X.env=[(Ad,eval e X.env)]):
  SS X CL W (.Expr (.Call (.Attribute o "append" apos) [.Call (.Attribute o' "pop" apos') [e] [] cpos'] [] cpos) pos) (λU=>O.of U (Cw U j) λys=>O.of U (Cw U i) λxs=>O.of U (fe U) λd=>O.of U (D3 d) λn=>apD U j i ys xs n):=λFz B pI s Y H D I ⟨U,x,p⟩=>by
 refine Kt (OD Ek ZN ZQ Uf ho (DM (OD Ek PySem.F.slot_list_pop PySem.F.type_list_pop lS ho' (DM (he (BG B U Y)) Fk hs) hbase' (by rw[hs];rfl) hline' hs rfl) Fk rfl) hbase rfl hline rfl rfl) rfl pI s Y H D I ?_
 dsimp only at p;cases e1:Cw U j with
 |bad=>rw[e1]at p;exact p.elim
 |exn z=>exact(Lm e1).elim
 |ok es=>
  rw[e1,O.of_ok]at p;have hj:=Lv e1;obtain⟨a,ys,es',qa,e2,ha,hh,r⟩:=x.good.ow j _ hj;cases e2;cases e3:Cw U i with
  |bad=>rw[e3]at p;exact p.elim
  |exn z=>exact(Lm e3).elim
  |ok ds=>
   rw[e3,O.of_ok]at p;have hi:=Lv e3;obtain⟨b,xs,ds',qb,e4,hb,hh',r'⟩:=x.good.ow i _ hi;cases e4;refine⟨_,qa,.inl ⟨rfl,ys,SqL.of hh⟩,_,qb,.inl ⟨rfl,xs,SqL.of hh'⟩,x.aok,U,x.good,BS.ex x p λd v H' _ s rv x' q'=>?_⟩
   cases d with
   |int n=>
    have ev:v=.int n:=rv;subst ev;rw[MD,O.of_ok]at q';unfold apD at q';cases e5:plD ds.length n with
    |none=>rw[e5]at q';exact q'.elim
    |some m=>
     rw[e5]at q';dsimp only at q';cases e6:ds[m]? with
     |none=>rw[e6]at q';exact q'.elim
     |some d=>
      rw[e6]at q';dsimp only at q';split at q'
      .rename_i hz;simp only[Ak,GH,K8]at hz;obtain⟨hne,hz1,hz2⟩:=hz;have z1:=Ip hz1;have z2:=Ip hz2;obtain⟨y,hy,ry⟩:=(r'.same s).get e6;have hlen:=r'.length;have hne':a≠b:=λz=>hne (x'.dis j i _ _ a hj hi qa (z ▸ qb))
       have u1:=x'.upd hj qa ((r.same s).append (ws:=[y]) (es:=[d]) ⟨ry,trivial⟩);have hi1:(U.set j (Aa (.lst (es++[d]),Ab)))[i]?=Aa (Aa (.lst ds,Ab)):=by rw[Ca hne];exact hi
       obtain⟨n1,n2,n3⟩:-(2 ^ 63)<=n/\n<2 ^ 63/\Hc n xs.length=Aa m:=by
        have hl:(ds.length:Af)<=sizeLine:=by omega
        have hs:(sizeLine:Af)<2 ^ 63:=by decide
        obtain⟨q1,q2,q3⟩:=tP e5;rw[hlen];exact⟨by omega,by omega,q3⟩
       obtain⟨b',xs',ds',qb',e7,hb',hh7,r7⟩:=u1.good.ow i _ hi1;cases e7;have eb:b'=b:=by rw[qb]at qb';injection qb' with z;injection z with z;injection z with z;exact z.symm
       subst eb;have hx:H' b'=Aa (.lst xs):=s _ _ hh';have e8:xs'=xs:=by
        rw[Bw hne'.symm,hx]at hh7;cases hh7;rfl
       subst e8;have u2:=u1.upd hi1 qb (Tw m r7);have ec:L2.upd (L2.upd H' a (.lst (ys++[y]))) b' (.lst (xs'.eraseIdx m))=L2.upd (L2.upd H' b' (.lst (xs'.eraseIdx m))) a (.lst (ys++[y])):=by
        funext c
        unfold L2.upd;by_cases c1:c=b'
        .subst c1;rw[Ax rfl,AC hne'.symm,Ax rfl]
        .rw[AC c1];by_cases c2:c=a
         .rw[Ax c2,Ax c2]
         .rw[AC c2,AC c2,AC c1]
       rw[ec,List.set_comm _ _ hne]at u2;refine⟨b',xs',n,m,y,rfl,rfl,hx,n1,n2,n3,hy,?_⟩;refine⟨a,ys,y,rfl,rfl,by rw[Bw hne'];exact s _ _ hh,?_,q' _ _ u2⟩
       rw[r.length];omega
      .exact q'.elim
   |_=>exact q'.elim
end
section
variable{X:Cx}{CL:ClA}{W:XW}
end
noncomputable def LW(lo:Af)(n:Ag):Ac V:=(A6 n).map fun(k:Ag)=>V.int (lo+(k:Af))
theorem fD(lo:Af)(n:Ag):(LW lo n).length=n:=by simp[LW]
theorem fY(lo:Af)(n:Ag):Reps K CL H A (LW lo n) (Cb lo n):=by
 have key:∀ L:Ac Ag,Reps K CL H A (L.map fun(k:Ag)=>V.int (lo+(k:Af))) (L.map fun(k:Ag)=>D.int (lo+(k:Af))):=λL=>by
  induction L with
  |nil=>exact trivial
  |cons x L ih=>exact⟨rfl,ih⟩
 exact key _
theorem fX{acc:Ba Aj}(h:ItemsOf (λi v=>∃ t,v=.int (lo+i*1) t) acc n):A8 (LW lo n) acc.toList:=by
 obtain⟨h1,h2⟩:=h;have key:∀(L:Ac Aj)(m:Ag),(∀(j:Ag)(v:Aj),L[j]?=Aa v->∃ t,v=.int (lo+((m+j:Ag):Af)) t)->A8 ((List.range' m L.length).map fun(k:Ag)=>V.int (lo+(k:Af))) L:=λL=>by
  induction L with
  |nil=>intro m _;exact .nil
  |cons v L ih=>
   intro m h;obtain⟨t,rfl⟩:=h 0 v rfl;refine .cons ⟨t,rfl⟩ (ih (m+1) λj w hw=>?_)
   obtain⟨u,rfl⟩:=h (j+1) w hw;exact⟨u,by rw[show m+1+j=m+(j+1) by omega]⟩
 have k:=key acc.toList 0 λj v hv=>by
  obtain⟨t,rfl⟩:=h2 j v (by rw[<-Yb];exact hv)
  exact⟨t,by rw[DO,YV]⟩
 rw[Fb,h1,<-List.range_eq_range']at k;exact k
section
variable{X:Cx}
def dU(ta:TA):TE:=λY H Q=>ta Y H λvs H1=>∃ i j:Af,vs=[.int i,.int j]/\(-(2 ^ 62)<=i/\i<2 ^ 62/\-(2 ^ 62)<=j/\j<2 ^ 62)/\(j-i).toNat<=2 ^ 24/\(j-i).toNat<=sizeLine/\∀ l,H1 l=Ae->Q (.ref l) (upd H1 l (.lst (LW i (j-i).toNat)))
theorem wP{a b:Am}{p':AG}(hc:X.calm=Ab)(hg:Gl X "list")(hm:X.mg "list" = Ae)(hg':Gl X "range")(hm':X.mg "range" = Ae)(ha:PA X [a,b] ta)(hs:As [a,b] X.env=[(Ad,eval a X.env),(Ad,eval b X.env)])(hs2:As [b] X.env=[(Ad,eval b X.env)]):
  PE X (.Call (.Name "list" p) [.Call (.Name "range" p') [a,b] [] pos'] [] pos) (dU ta):=by
 intro pI s Y H Q I h;refine IN (HS I hg hm F1 (BR ?_ rfl rfl));show Au _ _ (spliced ((Ad,eval (.Call (.Name "range" p') [a,b] [] pos') X.env)::BP pos (As [] X.env))) _ _ s;refine G6 ?_;refine IN (HS I hg' hm' KW (BR (thn (ha pos' pI s Y H _ I h) λus s1 ⟨vs,H1,I1,r1,q1⟩=>?_) (by rw[hs,hs2]) (by rw[hs2];rfl)))
 obtain⟨i,j,e,⟨b1,b2,b3,b4⟩,hn,hz,q⟩:=q1;subst e;cases r1 with
 |cons r rr=>
  cases rr with
  |cons r' rr=>
   cases rr;obtain⟨t,rfl⟩:=r;obtain⟨t',rfl⟩:=r';refine call_range_2 (FQ ?_);refine call_list_range (n:=(j-i).toNat) (I1.ok.hd hc) (ZV ..) (small_one b1 b2 b3 b4) (by rw[rangeSize_one];split<;>omega) hn λh' tk acc c' kp e it=>?_
   have e':=fX it;refine⟨.ref (s1.heap.push { cls:=.type "range",data:=.fields #[.int i t,.int j t',.int 1 s1.toks] }).objs.size,_,I1.laid (t':=tk) (λb o e=>kp b o (Ar _ e)) ?_ (show ObjOk X.prog X.w _ h' _ (.lst (LW i (j-i).toNat)) from ⟨by rw[fD];exact hz,acc.toList,c',e',by rw[Array.toArray_toList];exact e⟩),rfl,q _ (I1.hok.fresh ?_)⟩
   .rw[Bz];exact G1 _
   .rw[Bz];exact G1 _
noncomputable def Th(x y:D):R D:=(D3 x).bind λi=>(D3 y).bind λj=>(CT i j).bind λxs=>.ok (.lst xs)
variable{CL:ClA}{W:XW}{pos p pos' p':AG}{a b:Am}{fa fb:Rho->R D}
theorem uQ(ha:ST X CL W a fa)(hb:ST X CL W b fb)(hc:X.calm=Ab)(hg:Gl X "list")(hm:X.mg "list" = Ae)(hg':Gl X "range")(hm':X.mg "range" = Ae)(hs:As [a,b] X.env=[(Ad,eval a X.env),(Ad,eval b X.env)])(hs2:As [b] X.env=[(Ad,eval b X.env)]):
  SC X CL W Ab (.Call (.Name "list" p) [.Call (.Name "range" p') [a,b] [] pos'] [] pos) (λU=>(fa U).bind λx=>(fb U).bind λy=>Th x y):=λA pI s Y H Q I h=>by
 obtain⟨hA,U,g,pp⟩:=h;refine wP hc hg hm hg' hm' (DM (ha A) (DM (hb A) Fk hs2) (by rw[hs,hs2])) hs hs2 pI s Y H Q I ?_
 refine⟨hA,U,g,Bb.bindF pp λdx x H1 _ s1 r1 p1=>⟨hA.same s1,U,g.same s1,Bb.bind (Rq:=DB X.K CL Ab H A) p1 λdy y H2 _ s2 r2 p2=>?_⟩⟩
 cases dx with
 |int i=>
  cases dy with
  |int j=>
   have e:=r1.int_of;have e':=r2.int_of;subst e e';have p3:Bb (DB X.K CL Ab H A) W H2 ((CT i j).bind λxs=>.ok (.lst xs)) Q:=p2
   cases e2:CT i j with
   |ok ds=>
    rw[e2]at p3;obtain⟨h1,h2,rfl,hz⟩:=Qa e2;rw[Ll]at hz;refine⟨i,j,rfl,⟨h1.1,h1.2,h2.1,h2.2⟩,by rw[C9]at hz;omega,hz,λl hl=>?_⟩
    exact p3 _ _ (FS hl _) (Kw (s1.trans s2) ((hA.same s1).same s2) hl (fY i _))
   |exn y=>exact(PK e2).elim
   |bad=>rw[e2]at p3;exact p3.elim
  |_=>exact p2.elim
 |_=>exact p2.elim
end
section
variable{X:Cx}{CL:ClA}{W:XW}{e o o' k l:Am}{fe:Rho->R Ov.D}{i ik il:Ag}{pos spos spos' tpos:AG}{kt:Ag}
theorem U_4{k:Ag}{j:Af}(h:HW U k=.ok j):U[k]?=Aa (Aa (.int j,Ad)):=by
 unfold HW E2 at h;split at h
 .rename_i d hd;cases d<;>first|(cases h;exact hd)|cases h
 .cases h
theorem Ul{k:Ag}{z:Ex}(h:HW U k=.exn z):AV:=by
 unfold HW E2 at h;split at h
 .rename_i d hd;cases d<;>cases h
 .cases h
theorem sP(hc:X.calm=Ab)(ho:PE X o (EB i))(ho':PE X o' (EB i))(hk:PE X k (EB ik))(hl:PE X l (EB il))(he:SE X CL W e fe)(ha:∀ v,assign (.Subscript o k spos) X.env v=(do
      let ov <-holding [v] (eval o X.env)
      let iv <-holding [v,ov] (eval k X.env)
      HA spos
      holding [v,ov,iv] (J7 ov iv v)
      release [v,ov,iv] []))(ha':∀ v,assign (.Subscript o' l spos') X.env v=(do
      let ov <-holding [v] (eval o' X.env)
      let iv <-holding [v,ov] (eval l X.env)
      HA spos'
      holding [v,ov,iv] (J7 ov iv v)
      release [v,ov,iv] []))(hs:F8 [.Tuple [.Subscript o k spos,.Subscript o' l spos'] kt tpos] e pos.line X.env=pure Ad)(hw:DW [.Tuple [.Subscript o k spos,.Subscript o' l spos'] kt tpos] e X.env=pure Ae):SS X CL W (.Assign [.Tuple [.Subscript o k spos,.Subscript o' l spos'] kt tpos] e pos) (λU=>O.of U (fe U) λd=>OZ U d i ik il):=λFz B pI s Y H D I ⟨U,x,p⟩=>
  Q7 (he (BG B U Y)) (Oj hc (NM (QY ho hk Qr ha) (NM (QY ho' hl Qr ha') QM))) hs hw rfl pI s Y H D I ⟨x.aok,U,x.good,BS.ex x p λd v H' _ s rv x' q'=>by
    cases d with
    |tup es=>
     cases es with
     |nil=>exact q'.elim
     |cons dx es=>
      cases es with
      |nil=>exact q'.elim
      |cons dy es=>
       cases es with
       |cons _ _=>exact q'.elim
       |nil=>
        have q':BS X.K CL Fz B W (O.of U (Cw U i) λxs=>O.of U (HW U ik) λa=>O.of U (HW U il) λb=>match plD xs.length a,plD xs.length b with
          |some m,Aa n=>.next (U.set i (Aa (.lst ((xs.set m dx).set n dy),Ab)))
          | _,_=>.bad) D:=q'
        obtain⟨t,vs,rfl,_,sq,r⟩:=rv;cases vs with
        |nil=>exact r.elim
        |cons vx vs=>
         cases vs with
         |nil=>exact r.2.elim
         |cons vy vs=>
          cases vs with
          |cons _ _=>exact r.2.2.elim
          |nil=>
            obtain⟨rx,ry,_⟩:=r;cases e1:Cw U i with
            |bad=>rw[e1]at q';exact q'.elim
            |exn z=>exact(Lm e1).elim
            |ok ds=>
              rw[e1,O.of_ok]at q';have hi:=Lv e1;obtain⟨a,xs,ds',q,e2,ha,hh,rr⟩:=x'.good.ow i _ hi;cases e2;cases e3:HW U ik with
              |bad=>rw[e3]at q';exact q'.elim
              |exn z=>exact(Ul e3).elim
              |ok j=>
                rw[e3,O.of_ok]at q';obtain⟨w1,qk,rk⟩:=x'.good.sh ik _ (U_4 e3);subst rk;cases e4:HW U il with
                |bad=>rw[e4]at q';exact q'.elim
                |exn z=>exact(Ul e4).elim
                |ok j'=>
                  rw[e4,O.of_ok]at q';obtain⟨w2,ql,rl⟩:=x'.good.sh il _ (U_4 e4);subst rl;cases e5:plD ds.length j with
                  |none=>rw[e5]at q';exact q'.elim
                  |some m=>
                    cases e6:plD ds.length j' with
                    |none=>rw[e5,e6]at q';exact q'.elim
                    |some n=>
                      rw[e5,e6]at q';have lx:=rr.length;refine⟨t,[vx,vy],rfl,sq,rfl,vx,[vy],rfl,_,q,_,qk,a,xs,j,m,rfl,rfl,hh,by rw[lx];exact e5,vy,[],rfl,_,q,_,ql,a,xs.set m vx,j',n,rfl,rfl,EM,by rw[A5,lx];exact e6,rfl,?_⟩
                      have uu:L2.upd (L2.upd H' a (.lst (xs.set m vx))) a (.lst ((xs.set m vx).set n vy))=L2.upd H' a (.lst ((xs.set m vx).set n vy)):=by
                        funext b
                        by_cases hb:b=a
                        · subst hb;rw[EM,EM]
                        · rw[Bw hb,Bw hb,Bw hb]
                      rw[uu];exact q' _ _ (x'.upd hi q (Reps.set ry n (Reps.set rx m rr)))
    | _=>exact q'.elim⟩
end
section
variable{prog:AK}{w:AZ}{A:AX}{E:Vq}{s:Ap}
theorem Ut{it t:Al}{items:Ba Aj}(hne:t≠it):∀(n i:Ag)(s:Ap)(Q:Ac Aj->Ap->Prop),s.heap.IsListIter it t i->s.heap.IsList t items->i+n<=items.size->(∀ h',h'.IsListIter it t (i+n)->Ef it s.heap h'->Q ((items.toList.drop i).take n) {s with heap:=h'})->Au (model prog w) A (draw (.ref it) n) Q E s
 |0,i,s,Q,hit,_,_,hQ=>by
  show Au _ _ (pure []) Q E s;exact Az (by simpa using hQ s.heap hit (ZR ..))
 |n+1,i,s,Q,hit,ht,hle,hQ=>by
  have hlt:i<items.size:=by omega
  show Au _ _ (Hb (.ref it) >>= _) Q E s;refine An (bH hit ht (x:=items[i]) (by simp[hlt]) λh₁ hit₁ hs₁=>?_)
  refine An (BZ (Ut hne n (i+1) _ _ hit₁ (ht.extBut hs₁.extBut hne) (by omega) λh₂ hit₂ hs₂=>Az ?_))
  have hd:items.toList.drop i=items[i]::items.toList.drop (i+1):=by simp[Fp,hlt]
  have:=hQ h₂ (by rw[show i+(n+1)=i+1+n by omega];exact hit₂) (hs₁.trans hs₂)
  rw[hd,List.take_succ_cons]at this;exact this
theorem eS{t:Al}{Q:Ac Aj->Ap->Prop}(hh:A.handled=Ae)(ht:s.heap.IsList t items)(hQ:∀ h',Il s.heap.objs.size s.heap h'->Q items.toList {s with heap:=h'}):Au (model prog w) A (unpackItems (.ref t) items.size Ae) Q E s:=by
 have hlt:t≠s.heap.objs.size:=by obtain⟨o,ho,_⟩:=ht;exact A1 (AB ho)
 have htp:(s.heap.push { cls:=.type "list_iterator",data:=.fields #[.ref t,.int 0 0] }).IsList t items:=by
  obtain⟨o,ho,r⟩:=ht;exact⟨o,Ar _ ho,r⟩
 unfold unpackItems;refine An ?_
 .unfold notIterableAtAll;refine An (bJ ht.typeIs slot_list_iter.lookup ?_);refine Az ?_;simp only[G3,G0];refine An (BZ (EE ht ?_));refine An (BZ (Ut hlt items.size 0 _ _ ⟨_,AH _ rfl,rfl,rfl⟩ htp (by omega) λh₁ hit₁ hs₁=>?_))
  have hall:List.take items.size (List.drop 0 items.toList)=items.toList:=by
   rw[List.drop_zero];exact YN (by simp)
  rw[hall];rw[AC (by simp)]
  have ht₁:h₁.IsList t items:=htp.extBut hs₁.extBut hlt;refine An (BZ (bG hh hit₁ ht₁ (by simp) λh₂ he₂=>?_))
  simp only[Option.isSome_none,G3,G0];refine Az (hQ h₂ λb o hb e=>he₂ b o hb (hs₁.extBut b o hb (Ar _ e)))
theorem eR{elts:Ac Am}{x1}{t:Al}{Q:Ge->Ap->Prop}(hh:A.handled=Ae)(ht:s.heap.IsList t items) (hn:(B9 elts env).length=items.size) (hstar:(B9 elts env).findIdx? (·.1)=Ae) (h:∀ h',Il s.heap.objs.size s.heap h'->Au (model prog w) A (assignInOrder ((B9 elts env).map (·.2)) items.toList) Q E {s with heap:=h'}):Au (model prog w) A (assign (.Tuple elts x1 pos) env (.ref t)) Q E s:=by
 rw[assign_Tuple];refine An (DX ?_);unfold unpack;rw[hn,hstar];exact An (BZ (eS hh ht h))
end
section
variable{X:Cx}{pos:AG}{CL:ClA}
def gSq(K:Fg)(n:Ag)(t:TGs):TG:=λv Y H Q=>Mj K n t v Y H Q\/∃ a xs,v=.ref a/\SqL K H a xs/\xs.length=n/\t xs Y H Q
theorem dw{t:TGs}(hc:X.calm=Ab)(h:PGs X es t)(hn:(B9 es X.env).length=n)(hst:(B9 es X.env).findIdx? (·.1)=Ae):PG X (.Tuple es k pos) (gSq X.K n t):=by
 intro pI s Y H v u Q I r hw;rcases hw with hw|hw
 .exact Oj hc h hn hst pI s Y H v u Q I r hw
 .obtain⟨a,xs,e1,hq,hl,hw⟩:=hw;subst e1;cases r;obtain⟨its,rv,ht,hz⟩:=I.list hq;refine eR (I.ok.hd hc) ht.isList (by simp[hn,<-hl,rv.length]) hst λh' hx=>?_
  have I1:Inv X pI Y H {s with heap:=h'}:=I.kept (t':=s.toks) λb o e=>hx b o (A1 (AB e)) e
  exact h pI _ Y H xs _ Q I1 (by simpa using rv) hw
theorem gr(ts:Ac Ag):GT K CL (Hj ts) (gSq K ts.length (ts.foldr (λt u=>HX (Fl t) u) Ib)):=λFz B U Y H v d U' Q x r e k=>by
 cases d with
 |lst ds=>
  obtain⟨a,xs,rfl,na,sq,rs⟩:=r;rw[jY]at e;cases e2:EV ts ds U with
  |none=>rw[e2]at e;cases e
  |some U2=>
   rw[e2]at e;cases e;exact .inr ⟨a,xs,rfl,sq,by rw[rs.length];exact NE _ _ _ _ e2,Rk ts ds xs U _ Y Q x rs e2 k⟩
 |_=>exact .inl (Wx ts Fz B U Y H v _ U' Q x r e k)
end
section
variable{X:Cx}{CL:ClA}{W:XW}
end
end Ov
namespace Ov
open PySem PySem.W PyProof.Rows
variable{p:Ba Ag}{m:Ag}
def Kr{α:Type}(lt:Ag->Ag->Ai)(n:Ag):KasT α->(α->Prop)->Prop
 |.ret a,Q=>Q a
 |.ask i j k,Q=>i<n/\j<n/\Kr lt n (k (lt i j)) Q
theorem Kr.mono{α:Type}{lt:Ag->Ag->Ai}{n:Ag}{Q Q':α->Prop}:∀{t:KasT α},Kr lt n t Q->(∀ a,Q a->Q' a)->Kr lt n t Q'
 |.ret _,h,k=>k _ h
 |.ask i j f,h,k=>⟨h.1,h.2.1,Kr.mono (t:=f (lt i j)) h.2.2 k⟩
theorem Kr.bind{α β:Type}{lt:Ag->Ag->Ai}{n:Ag}{f:α->KasT β}{Q:β->Prop}:∀{t:KasT α},Kr lt n t (λa=>Kr lt n (f a) Q)->Kr lt n (t.bind f) Q
 |.ret _,h=>h
 |.ask i j k,h=>⟨h.1,h.2.1,Kr.bind (t:=k (lt i j)) h.2.2⟩
structure Sto (lt:Ag->Ag->Ai) (n:Ag):Prop where
 tr:∀ i j k,i<n->j<n->k<n->lt i j=Ab->lt j k=Ab->lt i k=Ab
 tot:∀ i j,i<n->j<n->i≠j->lt i j=Ad->lt j i=Ab
 asy:∀ i j,i<n->j<n->lt i j=Ab->lt j i=Ad
noncomputable def at0(p:Ba Ag)(x:Ag):Ag:=p.getD x 0
structure Pm (n:Ag) (p:Ba Ag):Prop where
 sz:p.size=n
 lt:∀ x,x<n->at0 p x<n
 inj:∀ x y,x<n->y<n->at0 p x=at0 p y->x=y
section
variable{lt:Ag->Ag->Ai}{n:Ag}
def Pa(lt:Ag->Ag->Ai)(p:Ba Ag)(m:Ag):Prop:=∀ x y,x<y->y<m->lt (at0 p x) (at0 p y)=Ab
def O6(lt:Ag->Ag->Ai)(p:Ba Ag)(m:Ag):Prop:=∀ x y,x<y->y<m->lt (at0 p y) (at0 p x)=Ab
theorem Pa.succ(S:Sto lt n)(hp:Pm n p)(h1:1<=m)(hm:m<n)(h:Pa lt p m)(e:lt (at0 p (m-1)) (at0 p m)=Ab):Pa lt p (m+1):=λx y hxy hy=>by
 by_cases hym:y<m
 .exact h x y hxy hym
 .have:y=m:=by omega
  subst this;by_cases hx:x=y-1
  .rw[hx];exact e
  .exact S.tr _ _ _ (hp.lt _ (by omega)) (hp.lt _ (by omega)) (hp.lt _ hm) (h x (y-1) (by omega) (by omega)) e
theorem O6.succ(S:Sto lt n)(hp:Pm n p)(h1:1<=m)(hm:m<n)(h:O6 lt p m)(e:lt (at0 p m) (at0 p (m-1))=Ab):O6 lt p (m+1):=λx y hxy hy=>by
 by_cases hym:y<m
 .exact h x y hxy hym
 .have:y=m:=by omega
  subst this;by_cases hx:x=y-1
  .rw[hx];exact e
  .exact S.tr _ _ _ (hp.lt _ hm) (hp.lt _ (by omega)) (hp.lt _ (by omega)) e (h x (y-1) (by omega) (by omega))
end
section
variable{prog:AK}{w:AZ}{A:AX}{E:Vq}{κ:SortKind}{it:Ba Keyed}
end
section
variable{lt:Ag->Ag->Ai}{n:Ag}
end
def QU(h:AD)(v:Aj)(r:Ac Af):Prop:=∃ a its,v=.ref a/\KU h a its/\Hx its.toList r/\r≠[]
theorem QU.kept{h h':AD}{v:Aj}{r:Ac Af}(t:QU h v r)(k:∀ b o,h.get? b=Aa o->h'.get? b=Aa o):QU h' v r:=by
 obtain⟨a,its,e,⟨o,ho,q⟩,i,n⟩:=t;exact⟨a,its,e,⟨o,k _ _ ho,q⟩,i,n⟩
section
variable{prog:AK}{w:AZ}{A:AX}{E:Vq}{s:Ap}
end
end Ov
section
namespace Ov
open PySem PySem.Spec PyProof.Rows L2
section
variable{X:Cx}{CL:ClA}{W:XW}
theorem U_3:∀{is:Ac Af}{its:Ac Aj},A8 (is.map V.int) its->Hx its is
 |[],_,h=>by cases h;exact .nil
 |i::is,_,h=>by
  cases h with
  |cons h1 h2=>
   obtain⟨t,rfl⟩:=h1;exact .cons i t (U_3 h2)
end
end Ov
end
section
namespace Ov
open PySem PySem.Spec PyProof.Rows
variable{α:Type}{a b:Al}{h:Af}{Q:Ai->Ap->Prop}{hs k:Ac Af}
section
variable{t:Mu}{hashAt:Ag->Af}{h:Af}
noncomputable def stand(i b:Ag):SetTable.Probe:=⟨i,0,i,b,Ae⟩
noncomputable def nxt(i b:Ag):Ag:=(i*5+1+b/32)%8
noncomputable def itP:Ag->Ag->Ag->Ag
 |i,_,0=>i
 |i,b,k+1=>itP (nxt i b) (b/32) k
theorem xT(hm:t.mask=7)(i b:Ag):t.advance (stand i b)=stand (nxt i b) (b/32):=by
 unfold SetTable.advance stand SetTable.leap Z_4 nxt;simp[hm]
theorem gu(hm:t.mask=7)(hd:∀ j,t.slot j≠.dummy)(hl:∀ j i,t.slot j=.live i->(hashAt i==h)=Ad):∀(k f i b:Ag),k<f->t.slot (itP i b k)=.empty->∃ j,Hs t hashAt h f (stand i b)=Aa (.empty j Ae):=by
 intro k
 induction k with
 |zero=>
  intro f i b hf e;obtain⟨f,rfl⟩:∃ f',f=f'+1:=⟨f-1,by omega⟩
  refine⟨i,?_⟩;unfold Hs;rw[show (stand i b).j=i from rfl,show t.slot i=.empty from e]
  rfl
 |succ k ih=>
  intro f i b hf e;obtain⟨f,rfl⟩:∃ f',f=f'+1:=⟨f-1,by omega⟩
  unfold Hs;rw[show (stand i b).j=i from rfl]
  cases e1:t.slot i with
  |empty=>exact⟨i,rfl⟩
  |dummy=>exact absurd e1 (hd i)
  |live i'=>
   dsimp only;rw[hl i i' e1,xT hm];exact ih f _ _ (by omega) e
theorem NU:∀(k i b:Ag),itP i b (k+1)=(itP i b k*5+1+b/32 ^ (k+1))%8
 |0,i,b=>by
  show nxt i b=_;unfold nxt itP;rw[Nat.pow_one]
 |k+1,i,b=>by
  show itP (nxt i b) (b/32) (k+1)=(itP (nxt i b) (b/32) k*5+1+_)%8;rw[NU k,Nat.div_div_eq_div_mul,YU 32 (k+1),Nat.mul_comm 32]
theorem NP{j i:Ag}(e:t.slot j=.live i):t.place[i]?=Aa j:=by
 unfold Z_5 at e;dsimp only at e;split at e
 .rename_i h1;cases e;exact eq_of_beq h1
 .split at e<;>cases e
theorem N6(hd:t.dummies=#[])(j:Ag):t.slot j≠.dummy:=by
 unfold Z_5 JB;rw[hd];dsimp only;split
 .exact λz=>nomatch z
 .rw[AC (by simp)]
  exact λz=>nomatch z
theorem fO(hm:t.mask=7)(hd:t.dummies=#[])(hn:t.place.size<=2)(i:Ag){b:Ag}(hb:b<2 ^ 64):∃ k,k<20/\t.slot (itP i b k)=.empty:=by
  have z:∀ k,13<=k->b/32 ^ (k+1)=0:=λk hk=>Nat.div_eq_of_lt (AI hb (by
    calc 2 ^ 64<=32 ^ 14:=by decide
      _<=32 ^ (k+1):=ER (by decide) (by omega)))
  have e0:=NU 13 i b;have e1:=NU 14 i b;have e2:=NU 15 i b;rw[z 13 (by omega)]at e0
  rw[z 14 (by omega)]at e1
  rw[z 15 (by omega)]at e2
  have l14:itP i b 14<8:=by rw[e0];exact Nat.mod_lt _ (by decide)
  have key:∀ a:Ag,a<8->a≠(a*5+1+0)%8/\a≠((a*5+1+0)%8*5+1+0)%8/\(a*5+1+0)%8≠((a*5+1+0)%8*5+1+0)%8:=by decide
  rw[e1]at e2;obtain⟨k1,k2,k3⟩:=key _ l14;rw[<-e1]at k1;rw[<-e2]at k2;rw[<-e2,<-e1]at k3;cases s0:t.slot (itP i b 14) with
  |empty=>exact⟨14,by omega,s0⟩
  |dummy=>exact absurd s0 (N6 hd _)
  |live i0=>
    cases s1:t.slot (itP i b 15) with
    |empty=>exact⟨15,by omega,s1⟩
    |dummy=>exact absurd s1 (N6 hd _)
    |live i1=>
      cases s2:t.slot (itP i b 16) with
      |empty=>exact⟨16,by omega,s2⟩
      |dummy=>exact absurd s2 (N6 hd _)
      |live i2=>
        exfalso
        have p0:=NP s0;have p1:=NP s1;have p2:=NP s2;have l0:=(De.mp p0).1;have l1:=(De.mp p1).1;have l2:=(De.mp p2).1;have d01:i0≠i1:=λz=>by
          subst z;exact k1 (Bj (p0.symm.trans p1))
        have d02:i0≠i2:=λz=>by
          subst z;exact k2 (Bj (p0.symm.trans p2))
        have d12:i1≠i2:=λz=>by
          subst z;exact k3 (Bj (p1.symm.trans p2))
        omega
theorem iU(hm:t.mask=7)(hd:t.dummies=#[])(hn:t.place.size<=2)(hl:∀ i,i<t.place.size->hashAt i≠h):∃ j,t.probe hashAt h (t.probeStart h)=Aa (.empty j Ae):=by
 have hb:F7 h<2 ^ 64:=by
  unfold F7;have h0:=Bo h (show (2 ^ 64:Af)≠0 by decide)
  have h1:=Bf h (show (0:Af)<2 ^ 64 by decide)
  omega
 have e:t.probeStart h=stand (F7 h%8) (F7 h):=by
  unfold SetTable.probeStart Z_4 stand;simp[hm]
 obtain⟨k,hk,ek⟩:=fO hm hd hn (F7 h%8) hb;unfold SetTable.probe;rw[e];refine gu hm (N6 hd) (λj i s=>?_) k _ _ _ ?_ ek
 .have:=NP s;exact C3.mpr (hl i (De.mp this).1)
 .rw[hm];unfold SetTable.turns;omega
theorem MJ(xs:Ba α)(p:Ag)(x:α):(DC xs p x).size=xs.size+1:=by
 unfold DC;simp;omega
theorem VS{xs:Ba α}{a b:Ag}{y:α}(hy:y∈xs.extract a b):y∈xs:=by
 obtain⟨i,hi,rfl⟩:=Yd.mp hy;rw[Array.getElem_extract];exact Yc _
theorem oH{xs:Ba α}{p:Ag}{x y:α}(hy:y∈DC xs p x):y=x\/y∈xs:=by
 unfold DC at hy;rcases Array.mem_append.mp hy with hy|hy
 .rcases Array.mem_push.mp hy with hy|hy
  .exact .inr (VS hy)
  .exact .inl hy
 .exact .inr (VS hy)
end
section
variable{prog:AK}{w:AZ}{A:AX}{E:Vq}{s:Ap}{K:Type} [DecidableEq K] {knd:KeyKind prog w K}
theorem dZ{o:CU}{es:Ba (Af×Aj)}{ep:Ag}{t:Mu}{x:Aj}{Q:SetFound->Ap->Prop}(ho:s.heap.get? a=Aa o)(hd:o.data=.set es ep t)(hf:t.fits es.size=Ab)(hm:t.mask=7)(hdm:t.dummies=#[])(hn:es.size<=2)(hh:∀ e∈es,e.1≠h)(q:∀ j,Q (.free j Ad) s):Au (model prog w) A (setSearch a x h Ab) Q E s:=by
 have hp:t.place.size=es.size:=by
  unfold Js at hf;exact eq_of_beq (Ak _ _ |>.mp hf).1
 obtain⟨j,ej⟩:=iU (t:=t) (hashAt:=λi=>(es[i]?.map (·.1)).getD 0) (h:=h) hm hdm (by omega) λi hi=>by
  have hi':i<es.size:=by omega
  rw[Fo hi'];exact hh _ (Yc _)
 unfold setSearch setSearchFrom;refine An (Hu ho hd hf ?_);dsimp only;rw[AC (by unfold SetTable.gaveWay;rw[hm];decide)]
 show Au _ _ (match t.probe (λi=>(es[i]?.map (·.1)).getD 0) h (t.probeStart h) with|some met=>_|_=>_) _ _ _
 rw[ej];exact Az (q j)
theorem hbv{ks:Ac Af}(hk:ET (EK prog w) s.heap ks a)(h:Q Ab s):Au (model prog w) A (Kc 8 (.ref a)) Q E s:=by
 have hT:=hk.typeIs;obtain⟨o,items,n,ho,_,hd,hi⟩:=hk;unfold Kc;refine An (bJ hT F.slot_tuple_hash.lookup ?_);dsimp only;refine An (Dr ho hd ?_);refine An ?_;show Au _ _ (forIn items _ _) _ _ s;rw[<-Array.forIn_toList];refine wpAny_forIn_list _ (λrest r s'=>r.1=Ae/\s'=s/\∃ ks,ItemsAre (EK prog w) ks rest) _ ?_ ?_ _ _ ⟨rfl,rfl,ks,hi⟩
 .rintro v rest r s' ⟨hr,rfl,ks,hall⟩;cases hall with
  | @cons k _ ks' _ h1 h2=>
   cases v with
   |int i t=>
    unfold Kc;refine An (Az ?_);simp only[Yg,G3,G0];exact Az ⟨rfl,rfl,ks',h2⟩
   |_=>exact absurd (show Ad=Ab from h1) AF
 .rintro⟨r1,r2⟩ s' ⟨hr,rfl,_⟩;simp only at hr;subst hr;exact Az h
def IE(hp:AD)(a:Al)(hs:Ac Af):Prop:=∃ o es ep t,hp.get? a=Aa o/\o.ExactSet/\o.data=.set es ep t/\t.fits es.size=Ab/\t.mask=7/\t.dummies=#[]/\es.size=hs.length/\∀ e∈es,e.1∈hs
theorem bU(S:IE s.heap a hs)(hk:ET (EK prog w) s.heap k b)(hn:hs.length<=2)(hh:h∉hs)(q:∀ h',Ef a s.heap h'->IE h' a (hs++[h])->Q Ab {s with heap:=h'}):Au (model prog w) A (setAddHashed a (.ref b) h) Q E s:=by
 obtain⟨o,es,ep,t,ho,hex,hd,hf,hm,hdm,hsz,hme⟩:=S;have hp:t.place.size=es.size:=by
  unfold Js at hf;exact eq_of_beq (Ak _ _ |>.mp hf).1
 unfold setAddHashed setAddHashedIn;refine BZ (An (Hu ho hd hf ?_));dsimp only;rw[AC (by unfold byScan;simp[Value.scannable])]
 refine An (dZ ho hd hf hm hdm (by omega) (λe he z=>hh (z ▸ hme e he)) λj=>?_)
 dsimp only;refine An (Hu ho hd hf ?_);dsimp only;have nd:JB t.dummies j=Ad:=by
  unfold JB;rw[hdm];simp
 have fin:∀ t':Mu,t'.mask=7->t'.dummies=#[]->t'.place=DC t.place (II t.place j) j ->
   Au (model prog w) A (do
    storeSet a (DC es (II t.place j) (h,.ref b)) t'
    if (!false&&t'.tooFull)=Ab then setRelay a (SetTable.grown (es.size+1))
    pure Ab) Q E s:=by
  intro t' h1 h2 h3;have hfi:t'.fill=es.size+1:=by
   unfold SetTable.fill;rw[h2,h3,MJ,hp];rfl
  refine An (wpAny_storeSet_of ho hd ?_ (by rw[MJ,C9];omega))
  rw[AC (by unfold SetTable.tooFull;rw[hfi,h1];simp;omega)]
  refine Az (q _ (GK s.heap a _) ?_);have hg:=Cn (Obj.putSet (DC es (II t.place j) (h,.ref b)) t') ho (by rw[putSet_of _ t' hd];rfl)
  rw[putSet_of _ t' hd]at hg;refine⟨_,_,_,_,hg,hex,rfl,?_,h1,h2,?_,?_⟩
  .unfold Js;rw[hfi,h1,h3,MJ,MJ,hp];simp;omega
  .rw[MJ,hsz,Cu];rfl
  .intro e he;rcases oH he with rfl|he
   .simp
   .exact Du _ (hme e he)
 unfold SetTable.put;dsimp only;rw[nd];split
 .refine An (hbv hk ?_);exact fin _ hm hdm rfl
 .refine An (Az ?_);exact fin _ hm hdm rfl
end
section
variable{prog:AK}{w:AZ}{A:AX}{R:IH->Ap->Prop}{I:Al}{fp wr:Ac Al}{G:Ba Ey->Ba Ey->Prop}{n:Ag}{P:Ag->Aj->Prop}{St:Ag->Ap->Prop}
theorem RB{h h':AD}(x:ET (EK prog w) h k b)(e:∀ o,h.get? b=Aa o->h'.get? b=Aa o):ET (EK prog w) h' k b:=by
 obtain⟨o,items,n,ho,r⟩:=x;exact⟨o,items,n,e o ho,r⟩
theorem Xg{h h':AD}(x:IE h b hs)(e:∀ o,h.get? b=Aa o->h'.get? b=Aa o):IE h' b hs:=by
 obtain⟨o,es,ep,t,ho,r⟩:=x;exact⟨o,es,ep,t,e o ho,r⟩
theorem vY(W:WalksS prog w A.in1 I fp wr G n P St)(S:Al)(hSf:S∉fp)(hu:A.in1.units<BW)(key:Ag->Ac Af)(hn:n<=3)(hne:∀ i j,i<j->j<n->Gi (key i)≠Gi (key j)):
    ∀(k i:Ag)(s:Ap),n-i=k->i<=n->St i s->(∀ j v,P j v->∃ b,v=.ref b/\b∉S::wr/\ET (EK prog w) s.heap (key j) b) ->
      IE s.heap S ((A6 i).map λj=>Gi (key j)) ->
      (∀ s',Moved (S::wr) G s s'->IE s'.heap S ((A6 n).map λj=>Gi (key j))->R (.ok (.ret .none)) s') ->
      E9 (model prog w) A (.builtin "set.update.loop" ⟨[.ref S,.ref I],[]⟩) R s:=by
  have hSw:S∉wr:=λh=>hSf (W.sub _ h)
  have hsub:∀ b∈wr,b∈S::wr:=λb hb=>Aw _ hb
  intro k
  induction k with
  |zero=>
    intro i s hk hi hst hky hS hR;have hin:i=n:=by omega
    subst hin;refine Gy Y_0 ?_;rw[Y_7 FP _];show Au _ A.in1 (Hb (.ref I) >>= _) _ _ s;refine An (W.done s _ _ hst λs' hm=>?_)
    show Au _ A.in1 (ret Di) _ _ s';exact Az (hR s' (hm.mono hsub) (Xg hS λo e=>hm.heap S _ hSw e))
  |succ k ih=>
    intro i s hk hi hst hky hS hR;have hlt:i<n:=by omega
    refine Gy Y_0 ?_;rw[Y_7 FP _];show Au _ A.in1 (Hb (.ref I) >>= _) _ _ s;refine An (W.item i s _ _ hlt hst λv s' hP hst' hm=>?_)
    obtain⟨b,rfl,hb,hkb⟩:=hky i v hP;have hkb':ET (EK prog w) s'.heap (key i) b:=RB hkb λo e=>hm.heap b _ (λz=>hb (hsub _ z)) e
    have hS':=Xg hS λo e=>hm.heap S _ hSw e
    show Au _ A.in1 (holding [Cf b] (setAdd S (.ref b)) >>= _) _ _ s';refine An (BZ ?_);unfold setAdd;refine BZ ?_;refine An (wpAny_pyHash_tuple hu hkb' ?_);refine bU (s:={s' with toks:=s'.toks+((key i).length+1)}) (h:=Gi (key i)) hS' hkb' (by rw[Bi,Hr];omega) ?_ λh' hsb hS2=>?_
    · intro z;obtain⟨j,hj,e⟩:=C7.mp z;exact hne j i (Bp.mp hj) hlt e
    have hSi:IE h' S ((A6 (i+1)).map λj=>Gi (key j)):=by
      rw[List.range_succ,YG];exact hS2
    refine Az ⟨plainId_quiet FP _,ih (i+1) _ (by omega) hlt (W.frame _ s' _ _ hst' (HG _ _) λb hb o e=>?_) (λj v hP=>?_) hSi λs'' hm'' hS''=>?_⟩
    · rw[hsb.2 b (λh:b=S=>hSf (by rw[<-h];exact hb))];exact e
    · obtain⟨c,ec,hc,hkc⟩:=hky j v hP;refine⟨c,ec,hc,RB hkc λo e=>?_⟩
      rw[hsb.2 c (λh:c=S=>hc (by rw[h];exact Ay))]
      exact hm.heap c _ (λz=>hc (hsub _ z)) e
    · refine hR s'' (Moved.trans W.gtrans ((hm.mono hsub).then_heap (HG _ _) λb o hb e=>?_) hm'') hS''
      rw[hsb.2 b (λh:b=S=>hb (by rw[h];exact Ay))];exact e
end
theorem fB:isSubtype (.type "tuple") (.type "set")=pure Ad:=by rw[aX];kernel_rfl
theorem eY:isSubtype (.type "tuple") (.type "frozenset")=pure Ad:=by rw[aX];kernel_rfl
section
variable{prog:AK}{w:AZ}{A:AX}{E:Vq}{s:Ap}
theorem fE{l:Al}{items:Ba Aj}{key:Ag->Ac Af}{Q:Vq}(hu:A.units+8<BW)(hh:A.handled=Ae)(hl:s.heap.IsTuple l items)(hi:∀ j v,items[j]?=Aa v->∃ b,v=.ref b/\ET (EK prog w) s.heap (key j) b)(hn:items.size<=3)(hne:∀ i j,i<j->j<items.size->Gi (key i)≠Gi (key j))(h:∀(h':AD)(tk:Ag),IE h' s.heap.objs.size ((A6 items.size).map λj=>Gi (key j)) ->
   (∀ b o,b<s.heap.objs.size->s.heap.get? b=Aa o->h'.get? b=Aa o)->Q (.ref s.heap.objs.size) {s with heap:=h',toks:=tk}):
  Au (model prog w) A (call (.type "set") [.ref l]) Q E s:=by
 obtain⟨c,tl,hmro⟩:=F.called_set.mro;have hmade:=F.called_set.made;have hsub:=F.called_set.sub;refine FL (aV ?_);show Au _ _ (callAny (.type "set") _) _ _ _;refine Az ⟨FD _ (by decide+kernel),Gy F.entry_type_call ?_⟩
 rw[Around.under_plain (weight_type_call_type "set" [.ref l] []) rfl];have h1:=F.called_set.notType;have h2:=F.called_set.canCreate;have hct:=F.typeCall_set_1 (.ref l)
 repeat (any_goals (first|assumption|wp_step))
 refine Eh (code_set_new_1 (.ref l) (E:=E) (Q₁:=λobj s₁=>∃ led:Ai,obj=.ref s.heap.objs.size/\s₁={ s with heap:=s.heap.push { cls:=.type "set",dict:=Ae,data:=.set #[] 0 (.fresh 0 0 led) } }) λled=>⟨led,rfl,rfl⟩) λr s₁ hr=>?_
 cases r with
 |error e=>exact hr
 |ok fl=>
  cases fl with
  |ret obj=>
   obtain⟨led,rfl,rfl⟩:=hr;have hS:(s.heap.push { cls:=.type "set",dict:=Ae,data:=.set #[] 0 (.fresh 0 0 led) }).get? s.heap.objs.size=Aa { cls:=.type "set",dict:=Ae,data:=.set #[] 0 (.fresh 0 0 led) }:=AH _ rfl;have hT:Shared.TypeIs { s with heap:=s.heap.push { cls:=.type "set",dict:=Ae,data:=.set #[] 0 (.fresh 0 0 led) } } (.ref s.heap.objs.size) "set" := ⟨_,hS,rfl⟩
   have hli:=F.called_set.init.lookup;have hbi:=F.called_set.init.bind (.ref s.heap.objs.size)
   repeat (any_goals (first|assumption|wp_step))
   refine Eh (Dy (R:=wants (λr s₂=>r=.none/\∃ h' tk,s₂={s with heap:=h',toks:=tk} /\
     IE h' s.heap.objs.size ((A6 items.size).map λj=>Gi (key j)) /\
     (∀ b o,b<s.heap.objs.size->s.heap.get? b=Aa o->h'.get? b=Aa o)) E) F.called_set.init.plain F.entry_set_init (check_set_init_1 hT ?_)) λr₂ s₂ hr₂=>?_
   .obtain⟨ol,hol,hcl,nl,hdl⟩:=hl;obtain⟨ocls,odict,odata,oslots⟩:=ol;simp only at hcl hdl;subst hcl;subst hdl;have hol':(s.heap.push { cls:=.type "set",dict:=Ae,data:=.set #[] 0 (.fresh 0 0 led) }).get? l=Aa { cls:=.type "tuple",dict:=odict,data:=.seq items nl,slots:=oslots }:=Ar _ hol;have hsls:=fB;have hslf:=eY;have hne':(Hw "tuple" == Hw "dict")=Ad:=by decide
    have hl1:(s.heap.push { cls:=.type "set",dict:=Ae,data:=.set #[] 0 (.fresh 0 0 led) }).IsTuple l items:=⟨_,hol',rfl,nl,rfl⟩;unfold Builtin.«set.__init__» noKeywords Builtin.Frozenset.updateFrom;generalize hPI:K4=PI
    wp_walk
    subst hPI;refine Ev hl1 ?_;refine An (wpAny_runValue ?_);have hlS:l<s.heap.objs.size:=AB hol;have hh3:A.in1.in1.in1.handled=Ae:=by simp[hh]
    have hneI:l≠(s.heap.push { cls:=.type "set",dict:=Ae,data:=.set #[] 0 (.fresh 0 0 led) }).objs.size:=by
     rw[Bz];exact A1 (Ch hlS)
    have hSf:s.heap.objs.size∉[(s.heap.push { cls:=.type "set",dict:=Ae,data:=.set #[] 0 (.fresh 0 0 led) }).objs.size,l]:=by
     rw[Bz];simp only[Av,Bl,AR,BO,Dd];exact⟨A1 (DJ _),Ed hlS⟩
    refine vY ((Kb hh3 _ l hneI items).toS) s.heap.objs.size hSf (show A.units+1+1+1<BW by omega) key hn hne (items.size-0) 0 _ (by omega) (E8 _)
     ⟨⟨_,AH _ rfl,rfl,rfl⟩,(hl1.push _)⟩ ?hK ?hS0 ?hR
    case hK=>
     intro j v hv;obtain⟨b,e,hk⟩:=hi j v hv;have hb:b<s.heap.objs.size:=by
      obtain⟨o,_,_,ho,_⟩:=id hk;exact AB ho
     refine⟨b,e,?_,RB hk λo e=>Ar _ (Ar _ e)⟩
     rw[Bz];simp only[Av,AR,BO,Dd];exact⟨A1 hb,A1 (Ch hb)⟩
    case hS0=>
     have hget:((s.heap.push { cls:=.type "set",dict:=Ae,data:=.set #[] 0 (.fresh 0 0 led) }).push { cls:=.type "tuple_iterator",data:=.fields #[.ref l,.int 0 0] }).get? s.heap.objs.size
       = Aa { cls:=.type "set",dict:=Ae,data:=.set #[] 0 (.fresh 0 0 led) }:=Ar _ hS
     exact⟨_,#[],0,.fresh 0 0 led,hget,⟨rfl,rfl,rfl⟩,rfl,rfl,rfl,rfl,rfl,λe he=>absurd he (by simp)⟩
    case hR=>
     intro s' hm hS';obtain⟨h',g',d',tk',os'⟩:=s';have eg:g'=s.gens:=hm.gens;have ed:d'=s.drawn:=hm.drawn;have eo:os'=s.os:=hm.os;subst eg;subst ed;subst eo;show Au _ _ _ _ _ _;refine Az ?_;show Au _ _ (ret Di) _ _ _;refine Az ⟨rfl,h',tk',rfl,hS',λb o hb e=>?_⟩
     have hb1:b≠s.heap.objs.size:=A1 hb;have hb2:b≠(s.heap.push { cls:=.type "set",dict:=Ae,data:=.set #[] 0 (.fresh 0 0 led) }).objs.size:=by
      rw[Bz];exact A1 (Ch hb)
     exact hm.heap b o (by simp only[Av,Bl,AR,BO,Dd];exact⟨hb1,hb2⟩) (Ar _ (Ar _ e))
   .cases r₂ with
    |error e=>exact hr₂
    |ok fl₂=>
     cases fl₂ with
     |ret r=>
      obtain⟨rfl,h',tk,rfl,hS',hk'⟩:=hr₂
      repeat (any_goals (first|assumption|wp_step))
      exact h _ _ hS' hk'
     |_=>exact hr₂.elim
  |_=>exact hr.elim
theorem wA{Q:Vq}(S:IE s.heap a hs)(hn:hs.length<=3)(q:Q (.int hs.length (s.toks+1)) {s with toks:=s.toks+1+1}):Au (model prog w) A (call (.builtin "len") [.ref a]) Q E s:=by
 obtain⟨o,es,ep,t,ho,hex,hd,hf,_,_,hz,_⟩:=S;refine call_len_set ho hex hd hf (by omega) ?_
 rw[hz];exact q
end
end Ov
end
namespace Ov
open PySem PySem.Spec PyProof.Rows L2
variable{w:AZ}{P:AK}{K:Fg}{CL:ClA}{H H':Hp}{A B:Al->Prop}{X:Cx}{pI:Pn}{Y Y0:L2.St}{p pos pos' p1 np cpos:AG}{h h':AD}{oe:CU}{vs:Ba Aj}{Q:Ge->Ap->Prop}{T' C C' OV:Al}{a0 oc:Aj}{m:Ah->Ao Aj}{x g name qual z x0 x1:Ah}{v:Ao Aj}{M:G2}{tk:CK}{fill expr fr:Ai}{φ:AD->Prop}{Fz:Al->HO->Prop}{U:Rho}{W:XW}{hs body:Ac AO}{h0:AO}{fh:Rho->O}{dx an od:Ao Al}{up:Ag->Ac Ag}{CX:CXT}{k c kk l:Ag}{fd:BM}{ps:Ac Ah}{sp:Sp}{F:Ac D->R D}{Xw:Vq}{fs:Rho->R (Ac D)}{xn:Ag->Ac D->R Ex}{d:D}{scope:B5}{osl:Ba (Ao Aj)}{α:Type}{as:Es}{xs ys:Ac Am}{env:B8}{ts:Ac Ag}
theorem Wt(is:Ac Af):(firstMet (λi=>is.getD i 0) is.length).length=ddN is:=by
 have e:(A6 is.length).map (λi=>is.getD i 0)=is:=by
  apply List.ext_getElem
  .simp
  .intro i h1 h2;simp[Bq,Be h2]
 unfold firstMet ddN;rw[e];rfl
theorem oX{prog:AK}{A:AX}{E:Vq}{s:Ap}{a:Al}{S:Af->Ai}{n:Ag}{Q:Vq}(h:s.heap.SetOf (EK prog w) a S n)(hf:(n:Af)<2 ^ 63)(q:Q (.int n (s.toks+1)) {s with toks:=s.toks+1+1}):Au (model prog w) A (call (.builtin "len") [.ref a]) Q E s:=by
 obtain⟨o,es,ep,t,ho,hex,hd,_,_,_,hfi,rfl⟩:=h;exact call_len_set ho hex hd hfi hf q
section
variable{X:Cx}
theorem kQ:∀{k:Ac Af}{its:Ac Aj},A8 (k.map V.int) its->ItemsAre (EK P w) k its:=by
 intro k
 induction k with
 |nil=>intro its v;cases v;exact .nil
 |cons i k ih=>
  intro its v;cases v with
  |cons v1 v2=>
   obtain⟨t,rfl⟩:=v1;exact .cons (intKind_is _ _ _ _) (ih v2)
def KS(K:Fg)(H:Hp):Ac V->Ac (Ac Af)->Prop
 |[],[]=>HM
 |x::xs,k::ks=>(∃ b,x=.ref b/\SqT K H b (k.map V.int))/\KS K H xs ks
 |_,_=>AV
theorem oA:∀{ds:Ac D}{ks:Ac (Ac Af)}{xs:Ac V},LV ds=Aa ks->Reps K CL H A xs ds->KS K H xs ks:=by
 intro ds
 induction ds with
 |nil=>
  intro ks xs e r;cases e;cases xs with
  |nil=>exact trivial
  |cons=>exact r.elim
 |cons d ds ih=>
  intro ks xs e r;cases xs with
  |nil=>exact r.elim
  |cons x xs=>
   cases d with
   |tup es=>
    have e':((Hi es).bind λk=>(LV ds).map (k :: ·))=Aa ks:=e
    cases e1:Hi es with
    |none=>rw[e1]at e';cases e'
    |some k=>
     cases e2:LV ds with
     |none=>rw[e1,e2]at e';cases e'
     |some ks'=>
      rw[e1,e2]at e';cases e';obtain⟨a,ys,ev,na,sq,rs⟩:=r.1;exact⟨⟨a,ev,NI e1 rs ▸ sq⟩,ih e2 r.2⟩
   |_=>cases e
theorem KS.length{K:Fg}{H:Hp}:∀{xs:Ac V}{ks:Ac (Ac Af)},KS K H xs ks->xs.length=ks.length
 |[],[],_=>rfl
 |_::_,_::_,h=>congrArg (· + 1) (KS.length h.2)
 |[],_::_,h=>h.elim
 |_::_,[],h=>h.elim
theorem oB{s:Ap}(I:Inv X pI Y H s):∀{xs:Ac V}{ks:Ac (Ac Af)}{its:Ac Aj},KS X.K H xs ks->A8 xs its->∀(j:Ag)(v:Aj),its[j]?=Aa v->∃ b,v=.ref b/\ET (EK X.prog X.w) s.heap (ks.getD j []) b:=by
 intro xs
 induction xs with
 |nil=>intro ks its k v j u e;cases v;cases e
 |cons x xs ih=>
  intro ks its k v j u e;cases ks with
  |nil=>exact k.elim
  |cons k0 ks=>
   cases v with
   |cons v1 v2=>
    cases j with
    |zero=>
     cases e;obtain⟨⟨b,rfl,sq⟩,_⟩:=k;cases v1;obtain⟨its,vs,⟨o,ho,hc,n,hd⟩,_⟩:=I.tuple sq;exact⟨b,rfl,o,its.toArray,n,ho,hc,hd,kQ vs⟩
    |succ j=>exact ih k.2 v2 j u e
theorem nW:∀{hs:Ac Af},HZ hs=Ab->∀ i j,i<j->j<hs.length->hs.getD i 0≠hs.getD j 0:=by
 intro hs
 induction hs with
 |nil=>intro _ i j _ hj;cases hj
 |cons h r ih=>
  intro e i j hij hj;obtain⟨e1,e2⟩:=(Ak _ _).mp (show (!r.contains h&&HZ r)=Ab from e)
  cases j with
  |zero=>omega
  |succ j=>
   have hj':j<r.length:=by simpa using hj
   cases i with
   |zero=>
    intro z;have:r.contains h=Ab:=by
     rw[List.contains_iff_mem,show h=r.getD j 0 from z,Bq,Be hj']
     exact DH _
    rw[this]at e1;cases e1
   |succ i=>exact ih e2 i j (by omega) hj'
theorem Wa(ks:Ac (Ac Af)){i:Ag}(h:i<ks.length):(ks.map Gi).getD i 0=Gi (ks.getD i []):=by
 rw[Bq,Bq,DY,Be h];rfl
def yU(K:Fg)(ta:TA):TE:=λY H Q=>ta Y H λvs H1=>∃ a,vs=[.ref a]/\((∃ is:Ac Af,SqL K H1 a (is.map V.int)/\is.length<=4000/\Q (.int (ddN is)) H1)\/∃ xs ks,SqT K H1 a xs/\KS K H1 xs ks/\ks.length<=3/\HZ (ks.map Gi)=Ab/\Q (.int ks.length) H1)
theorem pT{a:Am}{ta:TA}{p':AG}(hu:X.A.units+64<BW)(hc:X.calm=Ab)(hg:Gl X "len")(hm:X.mg "len" = Ae)(hg':Gl X "set")(hm':X.mg "set" = Ae)(ha:PA X [a] ta)(hs:As [a] X.env=[(Ad,eval a X.env)]):
    PE X (.Call (.Name "len" p) [.Call (.Name "set" p') [a] [] pos'] [] pos) (yU X.K ta):=by
  intro pI s Y H Q I h;refine IN (HS I hg hm boot_len (Y_3 ?_ rfl rfl));show Au _ _ (spliced ((Ad,eval (.Call (.Name "set" p') [a] [] pos') X.env)::BP pos (As [] X.env))) _ _ s;refine G6 ?_;refine IN (HS I hg' hm' PyProof.Rows.boot_set (BR (thn (ha pos' pI s Y H _ I h) λus s1 ⟨vs,H1,I1,r1,q1⟩=>?_) (by rw[hs];rfl) rfl))
  obtain⟨b,e,q1⟩:=q1;subst e;cases r1 with
  |cons r rr=>
    cases rr;cases r;rcases q1 with ⟨is,sq,hn,q⟩|⟨xs,ks,sq,kv,hn,hl,q⟩
    rotate_left
    · obtain⟨its,rv,pl,hz⟩:=I1.tuple sq;have hsz:its.toArray.size=ks.length:=by rw[AA,<-rv.length,kv.length]
      refine fE (key:=λj=>ks.getD j []) (by omega) (I1.ok.hd hc) pl (λj v e=>oB I1 kv rv j v (by rw[<-YB];exact e)) (by rw[hsz];exact hn) (λi j hij hj=>?_) λh' tk hS kp=>FQ ?_
      · rw[hsz]at hj;have:=nW hl i j hij (by rw[Bi];exact hj)
        rw[Wa ks (by omega),Wa ks hj]at this
        exact this
      · refine wA (s:={s1 with heap:=h',toks:=tk}) hS (by rw[Bi,Hr,hsz];exact hn) ?_
        rw[Bi,Hr,hsz];exact⟨.int ks.length,H1,I1.kept (t':=tk+1+1) λb o e=>kp b o (AB e) e,⟨_,rfl⟩,q⟩
    obtain⟨its,rv,pl,hz⟩:=I1.list sq;have ia:=U_3 rv;have hl:its.length=is.length:=by rw[<-rv.length,Bi]
    refine PySem.call_set_list (ns:=is) (I1.ok.hd hc) pl.isList ia (by rw[AA,hl];unfold scanBound;omega) λh' tk hS kp=>FQ ?_
    have hsz:its.toArray.size=is.length:=by rw[AA,hl]
    rw[hsz,Wt]at hS;have hle:ddN is<=is.length:=by
      rw[<-Wt];exact firstMet_length_le _ _
    refine oX (s:={s1 with heap:=h',toks:=tk}) hS (by omega) ?_
    exact⟨.int (ddN is),H1,I1.kept (t':=tk+1+1) λb o e=>kp b o (AB e) e,⟨_,rfl⟩,q⟩
variable{CL:ClA}{W:XW}{pos p pos' p':AG}{a:Am}{fa:Rho->R D}
theorem mZ(ha:ST X CL W a fa)(hu:X.A.units+64<BW)(hc:X.calm=Ab)(hg:Gl X "len")(hm:X.mg "len" = Ae)(hg':Gl X "set")(hm':X.mg "set" = Ae)(hs:As [a] X.env=[(Ad,eval a X.env)]):
  SE X CL W (.Call (.Name "len" p) [.Call (.Name "set" p') [a] [] pos'] [] pos) (λU=>(fa U).bind λx=>biD .lset [x]):=
 λA=>PE.weak (pT hu hc hg hm hg' hm' (DM (ha A) Fk hs) hs) λY H Q ⟨hA,U,g,q⟩=>⟨hA,U,g,Bb.bind q λd v H1 _ s1 r1 p1=>by
  cases d with
  |lst ds=>
   obtain⟨b,xs,rfl,sq,r⟩:=r1.lst_of;have p2:Bb (λH=>Rep X.K CL H A) W H1 (Ox ds) Q:=p1
   unfold Ox at p2;cases e:Hi ds with
   |none=>rw[e]at p2;exact p2.elim
   |some is=>
    rw[e]at p2;have ex:=NI e r;subst ex;dsimp only at p2;split at p2
    .rename_i hb;exact⟨b,rfl,.inl ⟨is,sq,Dp hb,p2 _ H1 (AE.refl H1) rfl⟩⟩
    .exact p2.elim
  |tup ds=>
   obtain⟨b,xs,rfl,_,sq,r⟩:=r1.tup_of;have p2:Bb (λH=>Rep X.K CL H A) W H1 (RK ds) Q:=p1
   unfold RK at p2;cases e:LV ds with
   |none=>rw[e]at p2;exact p2.elim
   |some ks=>
    rw[e]at p2;dsimp only at p2;split at p2
    .rename_i hb;obtain⟨h1,h2⟩:=(Ak _ _).mp hb;exact⟨b,rfl,.inr ⟨xs,ks,sq,oA e r,Dp h1,h2,p2 _ H1 (AE.refl H1) rfl⟩⟩
    .exact p2.elim
  | _=>exact p1.elim⟩
end
section
end
section
variable{X:Cx}
variable{CL:ClA}{W:XW}{o e:Am}{fe:Rho->R D}{i:Ag}{apos cpos pos:AG}
end
section
open PySem.AutoSeq1 (wpAny_loadPart')
end
section
variable{prog:AK}{w:AZ}{A:AX}{R:IH->Ap->Prop}{I S T:Al}{u v:Aj}{c:Ag}{P:Ag->Aj->Prop}{St:Ag->AD->Prop}{s:Ap}{r q:Ac Af}
end
section
variable{X:Cx}{CL:ClA}{W:XW}
end
def O4(e T:Al)(cls:Aj)(dx:Ao Al)(fl:Aj)(h:AD):Prop:=∃ oe vs oT ts a0,h.get? e=Aa oe/\oe.cls=cls/\oe.dict=dx/\vs[0]?=Aa a0/\oe.data=.fields vs/\vs[1]?=Aa (.ref T)/\T≠e/\h.get? T=Aa oT/\oT.data=.fields ts/\ts[3]?=Aa fl
noncomputable abbrev Fly(e T:Al)(cls:Aj)(dx:Ao Al)(h:AD):Prop:=O4 e T cls dx Di h
noncomputable def Gf(C:Al)(dx:Ao Al)(t:Al):CU:={cls:=.ref C,dict:=dx,data:=.fields #[.ref t,.none,.none,.none,.bool Ad,.none]}
structure Shift (ex fs:Ac Al) (h h':AD):Prop where
 keep:∀ b o,h.get? b=Aa o->b∉ex->b∉fs->h'.get? b=Aa o
 slot:∀ b o,h.get? b=Aa o->b∈fs->∃ sl,h'.get? b=Aa {o with slots:=sl}
theorem Shift.trans{ex fs:Ac Al}{h1 h2:AD}(a:Shift ex fs h h1)(b:Shift ex fs h1 h2):Shift ex fs h h2:=
 ⟨λc o q n m=>b.keep c o (a.keep c o q n m) n m,λc o q m=>by
  obtain⟨sl,e1⟩:=a.slot c o q m;obtain⟨sl',e2⟩:=b.slot c _ e1 m;exact⟨sl',e2⟩⟩
theorem ObjOk.isThere{a:Al}:∀(o:HO),L2.ObjOk P w H h a o->∃ ob,h.get? a=Aa ob
 |.lst _,x=>by obtain⟨_,_,_,_,e⟩:=x;exact⟨_,e⟩
 |.tup _,x=>by obtain⟨_,_,_,p⟩:=x;obtain⟨o,e,_⟩:=p;exact⟨_,e⟩
 |.dK _,x=>by obtain⟨_,_,_,_,o,_,_,e,_⟩:=x;exact⟨_,e⟩
 |.dT _,x=>by obtain⟨_,_,_,_,o,_,_,e,_⟩:=x;exact⟨_,e⟩
 |.set _ _,x=>by obtain⟨o,_,_,_,e,_⟩:=x;exact⟨_,e⟩
 |.ins _ _ _,x=>by obtain⟨_,_,_,e,_⟩:=x;exact⟨_,e⟩
 |.own _,x=>x
 |.xd _,x=>by obtain⟨_,⟨_,_,_,e,_⟩,_⟩:=x;exact⟨_,e⟩
 |.met _ _,x=>⟨_,x⟩
 |.rng _ _,x=>by obtain⟨_,_,_,e⟩:=x;exact⟨_,e⟩
 |.frz _ _,x=>⟨_,x.1⟩
 |.tbl _,x=>⟨_,x⟩
 |.ext _,x=>x.2.1
theorem Lu{a:Al}(x:HOk P w H h)(e:h.get? a=Ae):H a=Ae:=by
 cases q:H a with
 |none=>rfl
 |some o=>
  obtain⟨ob,z⟩:=ObjOk.isThere o (x a o q);rw[e]at z;cases z
theorem HOk.shift{ex fs:Ac Al}(x:HOk P w H h)(sh:Shift ex fs h h')(h1:∀ b∈ex,H b=Ae)(h2:∀ b∈fs,H b=Ae):HOk P w H h':=λa o e=>
 (x a o e).stay (λb u hb q=>by
  have hs:∃ v,H b=Aa v:=by
   rcases hb with rfl|hb
   .exact⟨_,e⟩
   .exact⟨_,hb⟩
  obtain⟨v,hv⟩:=hs;exact sh.keep b u q (λz=>by rw[h1 b z]at hv;cases hv) (λz=>by rw[h2 b z]at hv;cases hv)) (λ_ q=>q) λ_ _ q=>q
theorem Un.shift{fs0 fs ex:Ac Al}{h0:AD}(u:Un fs0 [] H H' h0 h)(sh:Shift ex fs h h')(h1:∀ b∈ex,h0.get? b=Ae)(h2:∀ b∈fs,b∈fs0\/h0.get? b=Ae):Un fs0 [] H H' h0 h' where
 keep:=λb o q n hb hx=>sh.keep b o (u.keep b o q n hb hx) (λz=>by rw[h1 b z]at q;cases q) λz=>(h2 b z).elim hb λe=>by rw[e]at q;cases q
 slot:=λb o q n hb hx=>by
  obtain⟨sl,e1⟩:=u.slot b o q n hb hx;by_cases hf:b∈fs
  .obtain⟨sl',e2⟩:=sh.slot b _ e1 hf;exact⟨sl',e2⟩
  .exact⟨sl,sh.keep b _ e1 (λz=>by rw[h1 b z]at q;cases q) hf⟩
 free:=u.free
 there:=λb o q hx=>by
  obtain⟨o',e1⟩:=u.there b o q hx;by_cases hf:b∈fs
  .obtain⟨sl',e2⟩:=sh.slot b _ e1 hf;exact⟨_,e2⟩
  .exact⟨o',sh.keep b _ e1 (λz=>by rw[h1 b z]at q;cases q) hf⟩
 tups:=u.tups
 frzs:=u.frzs
 tbls:=u.tbls
theorem qM(f:Ba Aj->Ba Aj)(o:CU):(F6 f o).dict=o.dict:=by
 obtain⟨c,d,dt,sl⟩:=o;cases dt<;>rfl
section
variable{M:G2}{A:AX}{E:Vq}{s:Ap}{env:B8}{outer:Ac B8}{L e T:Al}{cls:Aj}{dx:Ao Al}{base h:AD}
theorem TR{hd:Aj}{nx:Ai}(hfr:A.frames=Aa (env::outer))(hf:env.frame=Aa L)(ff:s.heap.FunFrames base (env::outer))(he:s.heap.get? e=Aa oe)(dt:oe.data=.fields vs)(hz:1<vs.size)(hQ:∀ h' T' oT ts,h'.get? e=Aa (F6 (·.setIfInBounds 1 (.ref T')) oe)->T'≠e->s.heap.get? T'=Ae->h'.get? T'=Aa oT->oT.data=.fields ts->ts[3]?=Aa (Ei L)->Shift [e] (frs (env::outer)) s.heap h'->Q () {s with heap:=h'}):
  Au M A (do
   let fr <-frameOf env
   let pl <-entryPlaceOf L nx
   let en <-Zf hd fr .none (Ei L) .none pl
   setField (.ref e) 1 en) Q E s:=by
 have nf:e∉frs (env::outer):=λz=>by
  obtain⟨_,o,q,n⟩:=ff.mem z;rw[he]at q;cases q;exact n vs dt
 refine An (wpAny_frameOf_fun hfr ff hf λk1 so=>An (wpAny_entryPlaceOf λpl ip=>?_))
 obtain⟨sz,sm,sl⟩:=so;have e1:k1.get? e=Aa oe:=(sm e nf).trans he;unfold Zf;unfold newFields;refine An (CW ?_ (ip.sizeOk5 _ _ _ _ _));generalize hX:({ cls:=.type "traceback",dict:=Ae,data:=.fields ([hd,.ref L,.none,Ei L,.none]++(if pl.isEmpty then GM 6 Di else pl)).toArray }:CU)=ob
 have od:ob.data=.fields ([hd,.ref L,.none,Ei L,.none]++(if pl.isEmpty then GM 6 Di else pl)).toArray:=by rw[<-hX]
 have nl:k1.objs.size≠e:=Ed (AB e1);have e2:=Ar ob e1;refine FN e2 dt hz ?_;have up:∀ b,b≠e->((k1.push ob).update e (F6 (·.setIfInBounds 1 (.ref k1.objs.size)))).get? b=(k1.push ob).get? b:=λb nb=>CB _ _ (CP nb)
 have lf:ob.isFreed=Ad:=by rw[<-hX];rfl
 refine hQ _ k1.objs.size ob _ (Cn _ e2 (EJ (Dq dt _))) nl ?_ ((up _ nl).trans (AH k1 lf)) od ?_ ⟨λb o q n1 n2=>?_,λb o q hb=>?_⟩
 .rw[sz];exact Dx (AU _)
 .simp
 .have nb:b≠e:=λz=>n1 (by rw[z];exact Ay)
  rw[up b nb];exact Ar ob ((sm b n2).trans q)
 .obtain⟨sl',q'⟩:=sl b o q;have nb:b≠e:=λz=>nf (z ▸ hb)
  exact⟨sl',(up b nb).trans (Ar ob q')⟩
theorem Us{oT:CU}{ts:Ba Aj}{fl:Aj}(hc:oe.cls=cls)(hx:oe.dict=dx)(h0:vs[0]?=Aa a0)(dt:oe.data=.fields vs)(hz:1<vs.size)(g:h'.get? e=Aa (F6 (·.setIfInBounds 1 (.ref T')) oe))(ne:T'≠e)(gT:h'.get? T'=Aa oT)(dT:oT.data=.fields ts)(f3:ts[3]?=Aa fl):O4 e T' cls dx fl h':=
 ⟨_,_,oT,ts,a0,g,(ZW _ _).trans hc,(qM _ _).trans hx,by rw[Array.getElem?_setIfInBounds_ne (by decide)];exact h0,Dq dt _,by simp[hz],ne,gT,dT,f3⟩
theorem Lk{i:Ag}{v:Aj}(q:vs[i]?=Aa v):i<vs.size:=(De.mp q).1
theorem U_8(hfr:A.frames=Aa (env::outer))(hf:env.frame=Aa L)(ff:s.heap.FunFrames base (env::outer))(fl:Fly e T cls dx s.heap)(hQ:∀ h' T',O4 e T' cls dx (Ei L) h'->Shift [e,T] (frs (env::outer)) s.heap h'->s.heap.get? T'=Ae->Q () {s with heap:=h'}):Au M A (G9 (.ref e) env) Q E s:=by
 obtain⟨oe,vs,oT,ts,a0,he,hc,hx,h0,dt,h1,ne,hT,dT,h3⟩:=fl;have z3:=Lk h3;unfold G9;simp only[hf];refine An (BX he dt h1 ?_);rw[Ax (by simp:(Cf T != Di)=Ab)]
 refine An (BX hT dT h3 ?_);rw[AC (by simp[Ei]:¬ (Di==Ei L)=Ab)]
 refine An (FN hT dT z3 ?_);have up:∀ b,b≠T->(s.heap.update T (F6 (·.setIfInBounds 3 Di))).get? b=s.heap.get? b:=λb nb=>CB _ _ (CP nb)
 have rcd:∀ b o,s.heap.get? b=Aa o->(∀ us,o.data≠.fields us)->b≠T:=λb o q n z=>by
  rw[z,hT]at q;cases q;exact n ts dT
 refine TR (base:=base) hfr hf (ff.of_keeps λb o q n=>⟨o,(up b (rcd b o q n)).trans q,rfl⟩) ((up e (CP ne)).trans he) dt (Lk h1) λh' T' oT' ts' g nT gn gT dT' f3 sh=>?_
 have T0:s.heap.get? T'=Ae:=by
  by_cases z:T'=T
  .rw[z]at gn;rw[Cn _ hT (EJ (Dq dT _))]at gn;cases gn
  .rw[<-up T' z];exact gn
 refine hQ h' T' (Us hc hx h0 dt (Lk h1) g nT gT dT' f3) ⟨λb o q n1 n2=>?_,λb o q hb=>?_⟩ T0
 .simp only[Av,AR,BO,Dd]at n1;exact sh.keep b o ((up b n1.2).trans q) (by simp[n1.1]) n2
 .obtain⟨_,o',q',n⟩:=ff.mem hb;rw[q]at q';cases q';exact sh.slot b o ((up b (rcd b o q n)).trans q) hb
theorem NV{fv:Aj}(fl:O4 e T cls dx fv s.heap)(hQ:∀ h',Fly e T cls dx h'->(∀ b o,b≠T->s.heap.get? b=Aa o->h'.get? b=Aa o)->Q () {s with heap:=h'}):Au M A (Ii (.ref e) Ae) Q E s:=by
 obtain⟨oe,vs,oT,ts,a0,he,hc,hx,h0,dt,h1,ne,hT,dT,h3⟩:=fl;have z3:=Lk h3;unfold Ii;refine An (BX he dt h1 ?_);rw[Ax (by simp:(Cf T != Di)=Ab)]
 refine FN hT dT z3 (hQ _ ?_ λb o nb q=>(CB _ _ (CP nb)).trans q)
 exact⟨oe,vs,_,_,a0,(CB _ _ ne).trans he,hc,hx,h0,dt,h1,ne,Cn _ hT (EJ (Dq dT _)),Dq dT _,by simp[z3]⟩
theorem P8{h1 h2:AD}{ex:Ac Al}(ff:s.heap.FunFrames base (env::outer))(sh:Shift ex (frs (env::outer)) s.heap h1)(hT:s.heap.get? T'=Ae)(k:∀ b o,b≠T'->h1.get? b=Aa o->h2.get? b=Aa o):Shift ex (frs (env::outer)) s.heap h2:=
 ⟨λb o q n1 n2=>k b o (λz=>by rw[z,hT]at q;cases q) (sh.keep b o q n1 n2),λb o q hb=>let ⟨sl,q'⟩:=sh.slot b o q hb;⟨sl,k b _ (λz=>by rw[z,hT]at q;cases q) q'⟩⟩
theorem hZ(hfr:A.frames=Aa (env::outer))(hf:env.frame=Aa L)(ff:s.heap.FunFrames base (env::outer))(fl:Fly e T cls dx s.heap)(hQ:∀ h' T',Fly e T' cls dx h'->Shift [e,T] (frs (env::outer)) s.heap h'->(T'=T\/s.heap.get? T'=Ae)->Q () {s with heap:=h'}):Au M A (leaving env (.ref e)) Q E s:=by
 unfold leaving;exact An (U_8 hfr hf ff fl λh1 T' f1 sh hT=>NV f1 λh2 f2 k=>hQ h2 T' f2 (P8 ff sh hT k) (.inr hT))
theorem fV(hfr:A.frames=Aa (env::outer))(hf:env.frame=Aa L)(ff:s.heap.FunFrames base (env::outer))(he:s.heap.get? e=Aa oe)(hc:oe.cls=cls)(hx:oe.dict=dx)(dt:oe.data=.fields vs)(h0:vs[0]?=Aa a0)(h1:vs[1]?=Aa .none)(hQ:∀ h' T',Fly e T' cls dx h'->Shift [e] (frs (env::outer)) s.heap h'->s.heap.get? T'=Ae->Q () {s with heap:=h'}):Au M A (leaving env (.ref e)) Q E s:=by
 unfold leaving G9;simp only[hf];refine An (An (BX he dt h1 ?_));rw[AC (by decide)]
 exact TR (base:=base) hfr hf ff he dt (Lk h1) λh' T' oT ts g nT gn gT dT f3 sh=>NV (Us hc hx h0 dt (Lk h1) g nT gT dT f3) λh2 f2 k=>hQ h2 T' f2 (P8 ff sh gn k) gn
theorem kZ(hfr:A.frames=Aa (env::outer))(hf:env.frame=Aa L)(ff:s.heap.FunFrames base (env::outer))(fl:Fly e T cls dx s.heap)(hQ:∀ h' T',Fly e T' cls dx h'->Shift [e,T] (frs (env::outer)) s.heap h'->(T'=T\/s.heap.get? T'=Ae)->Q () {s with heap:=h'}):Au M A (G9 (.ref e) env) (λ_ s2=>Au M A (Ii (.ref e) Ae) Q E s2) E s:=
 U_8 hfr hf ff fl λh1 T' f1 sh hT=>NV f1 λh2 f2 k=>hQ h2 T' f2 (P8 ff sh hT k) (.inr hT)
theorem iA{l:Ac B8}{A':AX}(ff:s.heap.FunFrames base l)(fl:Fly e T cls dx s.heap)(hQ:∀ h' T',Fly e T' cls dx h'->Shift [e,T] (frs l) s.heap h'->(T'=T\/s.heap.get? T'=Ae)->Q () {s with heap:=h'}):Au M A' (Ii (.ref e) Ae) Q E s:=by
 obtain⟨oe,vs,oT,ts,a0,he,hc,hx,h0,dt,h1,ne,hT,dT,h3⟩:=id fl;refine NV fl λh' f' k=>hQ h' T f' ⟨λb o q n1 n2=>k b o (λz=>n1 (by rw[z];simp)) q,λb o q hb=>⟨o.slots,k b o (λz=>?_) q⟩⟩ (.inl rfl)
 obtain⟨_,o',q',n⟩:=ff.mem hb;rw[z,hT]at q';cases q';exact n ts dT
end
def CXR(P:AK)(w:AZ):CXT:=λouter H s E ev s'=>∃ e T cls dx H',ev=.ref e/\s'.os=s.os/\FK s'.gens/\Un (frs outer) [] H H' s.heap s'.heap/\HOk P w H' s'.heap/\Fly e T cls dx s'.heap/\H' e=Ae/\H' T=Ae/\s.heap.get? e=Ae/\s.heap.get? T=Ae/\E cls dx H'
def Nm(X:Cx)(CL:ClA)(W:XW):Prop:=∀ pI Y H s e C dx t x,Inv X pI Y H s->(X.ex=[]->X.s₀.heap.get? e=Ae)->H e=Ae->s.heap.get? e=Aa (Gf C dx t)->Gg X.K CL H (.ref C) dx x->W x H->X.xe (.ref e) s
section
variable{P:AK}{w:AZ}{K:Fg}{mg:Ah->Ao Aj}{base:AD}{N:Ac Ah}{qual:Ah}{scope:B5}{f:Al}{cd:Aj}{A:AX}{outer:Ac B8}{s:Ap}{H:Hp}{E:XK}{CL:ClA}{W:XW}
theorem QO{s:Ap}(I:Inv X pI Y H s):∀ b∈frs X.stack,b∈X.fs\/X.s₀.heap.get? b=Ae:=λb hb=>by
 rcases Av.mp (I.stkSub b hb) with z|z
 .exact .inr (by rw[z];exact Dx I.ok.above)
 .exact .inl z
theorem Kx{s:Ap}{b:Al}(I:Inv X pI Y H s)(hx:X.ex=[])(h:s.heap.get? b=Ae):X.s₀.heap.get? b=Ae:=by
 cases q:X.s₀.heap.get? b with
 |none=>rfl
 |some o=>
  obtain⟨o',z⟩:=I.base.there b o q (by rw[hx];simp)
  rw[h]at z;cases z
theorem fw(hE:∀ x cls dx H',W x H'->Gg K CL H' cls dx x->E cls dx H'):∀ A',LK (CXR P w) (EO (CXR P w) P w K mg base N qual scope f cd A outer s H E) (EKW K CL A' W):=by
 intro A' pI Y H1 s1 ev s2 I h;obtain⟨e,T,cls,dx,H',rfl,os,bare,un,hok,fl,he,hT,ne,nT,x,xr,wx⟩:=h;have I':=I.call' (s':=s2) (ch:=[]) os un hok bare (λb z=>absurd z (by simp))
 have hb0:Un (frs outer) [] H H' s.heap s2.heap:=I'.base;show Au (model P w) (A.deeper (EG qual scope s.heap.objs.size f cd)) (leaving (EG qual scope s.heap.objs.size f cd) (.ref e)) _ _ s2;refine hZ (L:=s.heap.objs.size) I'.ok.frames rfl I'.stack fl λh' T' fl' sh hT'=>?_
 have e0:s.heap.get? e=Ae:=Kx I rfl ne;have T0:s.heap.get? T=Ae:=Kx I rfl nT;refine⟨e,T',cls,dx,H',rfl,I'.os,bare,Un.shift hb0 sh ?_ (QO I'),HOk.shift hok sh ?_ I'.stkFree,fl',he,?_,e0,?_,?_⟩
 .intro b hb;rcases Av.mp hb with rfl|hb
  .exact e0
  .rw[Bl.mp hb];exact T0
 .intro b hb;rcases Av.mp hb with rfl|hb
  .exact he
  .rw[Bl.mp hb];exact hT
 .rcases hT' with rfl|z
  .exact hT
  .exact Lu hok z
 .rcases hT' with rfl|z
  .exact T0
  .exact Kx I' rfl z
 .exact hE x cls dx H' wx xr
theorem rzR(hE:∀ x cls dx H',W x H'->Gg K CL H' cls dx x->E cls dx H'):Nm (EO (CXR P w) P w K mg base N qual scope f cd A outer s H E) CL W:=by
 intro pI Y H1 s1 e C dx t x I e0 he ge xr hw;have hb0:Un (frs outer) [] H H1 s.heap s1.heap:=I.base;have e0':s.heap.get? e=Ae:=e0 rfl;show Au (model P w) (A.deeper (EG qual scope s.heap.objs.size f cd)) (leaving (EG qual scope s.heap.objs.size f cd) (.ref e)) _ _ s1;refine fV (cls:=.ref C) (dx:=dx) (L:=s.heap.objs.size) I.ok.frames rfl I.stack ge rfl rfl rfl (a0:=.ref t) rfl rfl λh' T' fl' sh hT'=>?_
 have one:∀{Z_:Al->Prop},Z_ e->∀ b∈[e],Z_ b:=λ{Z_} z b hb=>by rw[Bl.mp hb];exact z
 exact⟨e,T',.ref C,dx,H1,rfl,I.os,I.bare,Un.shift hb0 sh (one e0') (QO I),HOk.shift I.hok sh (one (Z_:=λb=>H1 b=Ae) he) I.stkFree,fl',he,Lu I.hok hT',e0',Kx I rfl hT',hE x _ dx H1 hw xr⟩
theorem ownR:FH (model P w) (EO (CXR P w) P w K mg base N qual scope f cd A outer s H E).A (EO (CXR P w) P w K mg base N qual scope f cd A outer s H E).env (EO (CXR P w) P w K mg base N qual scope f cd A outer s H E).xe:=ZY
end
noncomputable def veB:Ac Aj:=[.type "ValueError",.type "Exception",.type "BaseException",.type "object"]
noncomputable def DN(K:Fg)(C:Al)(v:Ao Aj):Ai:=match K.lookup C with
  | some ⟨.type "type",_,.cls c,z⟩=>(match c.mro,z.toList with
    |.ref c0::tl,[_,_,_,_,Aa (.builtin nw),_]=>c0==C&&(nw == "ValueError.__new__" && (!c.hasDel&&(PySem.W.tailIn K veB tl&&(aQ K c.ns&&Bv K c.ns "__init__" == Aa v))))
    | _,_=>Ad)
  |_=>Ad
theorem nJ(q:Ju K C veB "ValueError.__new__" = Ab):DN K C Ae=Ab:=by
 unfold Ju at q;unfold DN;split at q
 .rename_i dd cd sl ho;split at q
  .rename_i C' bm k0 k1 k2 k3 n k5 hm hs;simp only[Ak]at q;obtain⟨⟨⟨⟨⟨h1,h2⟩,h3⟩,h4⟩,h5⟩,h6⟩:=q;simp only[ho,hm,hs,Ak];exact⟨h1,h2,h3,h4,h5,h6⟩
  .cases q
 .cases q
structure XcOk (K:Fg) (C:Al):Prop where
 exc:∃ v,DN K C v=Ab
 ga:AM K (.ref C) "__getattribute__" = Aa (Aa (.builtin "BaseException.__getattribute__"))
 gt:AM K (.ref C) "__getattr__" = Aa Ae
 cl:AM K (.ref C) "__class__" = Aa (Aa (.builtin "object.__class__"))
 ob:CO K C (.type "object")=Aa Ab
 be:BQ K (.ref C) (.type "BaseException")=Aa Ab
 cs:(DD K C).isSome=Ab
 ve:CS K (.ref C) (.type "ValueError")=Aa Ab
def XAt(e C:Al)(h:AD):Prop:=∃ o,h.get? e=Aa o/\o.cls=.ref C
theorem xA{N:Al}{v:Aj}(X:K.In h)(G:h.Ns N m)(q:Bv K N x=Aa (Aa v)):m x=Aa v:=by
 obtain⟨ob,es,ep,g,dt,_,fd⟩:=G;unfold Bv at q;split at q
 .rename_i es' n' sl lk;have g':=X _ _ lk;rw[g]at g';cases g';cases dt;split at q
  .rename_i hf;cases q;rw[<-fd];unfold nsFind findBy;rw[<-Array.find?_toList,hf];rfl
  .by_cases z:(es.toList.any λy=>y.refKey)=Ab
   .rw[Ax z]at q;cases q
   .rw[AC z]at q;cases q
 .cases q
theorem Qj{h0:AD}(X0:K.In h0)(q:DN K C v=Ab):
  ∃ bm N nm qn bs hd sn sub ab col dd k0 k1 k2 k3 k5 mN,(∀ h:AD,K.In h->h.get? C=Aa (Cd nm qn C N bs bm hd sn sub ab col dd k0 k1 k2 k3 k5 "ValueError.__new__")/\h.Ns N mN/\D7 h veB bm)/\mN "__init__" = v/\bm.contains (.type "BaseException")=Ab:=by
 unfold DN at q;split at q
 .rename_i dd cd sl ho;split at q
  .rename_i C' bm k0 k1 k2 k3 n k5 hm hs;simp only[Ak,AQ,Bu]at q;obtain⟨rfl,rfl,hdel,ht,hok,hni⟩:=q;obtain⟨nm,bs,mro,ns,qn,hd,sn,sub,ab,col,del⟩:=cd;dsimp only at hm hdel hok hni;subst hm hdel;have hsl:sl=#[k0,k1,k2,k3,Aa (.builtin "ValueError.__new__"),k5]:=by
    obtain⟨l⟩:=sl;simp only at hs;rw[hs]
   subst hsl;have kN:∃ o,K.lookup ns=Aa o:=by
    unfold aQ at hok;split at hok
    .rename_i z;exact⟨_,z⟩
    .cases hok
   obtain⟨oN,hoN⟩:=kN;have nsAt:∀ h:AD,K.In h->h.Ns ns (h0.nsMap ns):=λh X=>by
    obtain⟨o,es,ep,e1,r⟩:=Heap.Ns.of_isNs (aM X0 hok);have e2:=X0 _ _ hoN;rw[e1]at e2;cases e2;exact⟨_,es,ep,X _ _ hoN,r⟩
   refine⟨bm,ns,nm,qn,bs,hd,sn,sub,ab,col,dd,k0,k1,k2,k3,k5,h0.nsMap ns,λh X=>⟨X _ _ ho,nsAt h X,aR X ht⟩,?_,(aR X0 ht).hasType (by decide)⟩
   cases v with
   |none=>exact PySem.W.nsMap_none_of_in X0 hok hni
   |some u=>exact xA X0 (.of_isNs (aM X0 hok)) hni
  .cases q
 .cases q
theorem sD(X:K.In h)(q:DN K C v=Ab):
  ∃ bm N nm qn bs hd sn sub ab col dd k0 k1 k2 k3 k5 mN,h.get? C=Aa (Cd nm qn C N bs bm hd sn sub ab col dd k0 k1 k2 k3 k5 "ValueError.__new__")/\h.Ns N mN/\mN "__init__" = v/\D7 h veB bm:=by
 obtain⟨bm,N,nm,qn,bs,hd,sn,sub,ab,col,dd,k0,k1,k2,k3,k5,mN,ho,hi,_⟩:=Qj X q;obtain⟨o1,o2,o3⟩:=ho h X;exact⟨bm,N,nm,qn,bs,hd,sn,sub,ab,col,dd,k0,k1,k2,k3,k5,mN,o1,o2,hi,o3⟩
section
variable{prog:AK}{w:AZ}{A:AX}{E:Vq}{h:AD}{g:Ba Ey}{d:Ie}{t:Ag}{os:Hy}{K:Fg}{e C:Al}
theorem JP(p:XAt e C h):PySem.W.Looks M h (typeOf (.ref e)) (.ref C):=by
 obtain⟨o,h1,h2⟩:=p;exact h2 ▸ (PySem.W.Looks.ld h1).andThen .now
theorem iY{R:IH->Ap->Prop}{tp:Aj}(X:K.In h)(p:XAt e C h)(hm:CO K C (.type "object")=Aa Ab)(hq:R (.ok (.ret (.ref C))) ⟨h,g,d,t,os⟩):
  E9 (model prog w) A (.call (.builtin "getset_descriptor.__get__") ⟨[.builtin "object.__class__",.ref e,tp],[]⟩) R ⟨h,g,d,t,os⟩:=by
 have L0:=JP (M:=model prog w) p;have L1:=PySem.W.looks_mroIn (M:=model prog w) X hm;refine Dy PySem.W.KF.slot_gs.plain PySem.W.KF.entry_gs (PySem.W.KF.slot_gs.check _ _ _ _ _ _ _ _ PySem.W.KF.type_class (PySem.W.KF.args_gs _ _ _) ?_);unfold Builtin.«getset_descriptor.__get__» Builtin.Getset_descriptor.descrGet;rw[PySem.W.dga_obj];refine An (Az ?_);unfold Builtin.Getset_descriptor.descrGetter Builtin.Getset_descriptor.descrCheckInstance Builtin.Getset_descriptor.descrNameAndClass IT;simp only[PySem.W.KF.owner_class]
 repeat lk
 refine⟨FD _ (by decide+kernel),Gy PySem.W.KF.entry_class ?_⟩
 unfold Builtin.«object.__class__» shownTypeOf
 repeat lk
 exact hq
theorem gB{Q:Fin->Ap->Prop}(X:K.In h)(x:XcOk K C)(p:XAt e C h)(hq:Q (.done (.ret (.ref C))) ⟨h,g,d,t,os⟩):
  Au (model prog w) A (Builtin.«object.__getattribute__» ⟨[.ref e,.str "__class__" tk],[]⟩) Q E ⟨h,g,d,t,os⟩:=by
 have L0:=JP (M:=model prog w) p;have L1:=Cv (M:=model prog w) X x.cl;have hT5:(⟨h,g,d,t,os⟩:Ap).TypeIs (.builtin "object.__class__") "getset_descriptor" := ZP;have f5:=ZP;have f6:=F.slot_gs_get.lookup;have f7:=F.slot_gs_set.lookup
 repeat (any_goals (first|assumption|with_reducible refine L0.at ?_|with_reducible refine L1.at ?_|wp_step))
 refine iY X p x.ob ?_
 repeat (any_goals (first|assumption|wp_step))
theorem TJ{nameV:Aj}(X:K.In h)(x:XcOk K C)(p:XAt e C h)(hq:Q () ⟨h,g,d,t,os⟩):Au M A (Gd "BaseException.__getattribute__" ⟨[.ref e,nameV],[]⟩) Q E ⟨h,g,d,t,os⟩:=by
 have hk:builtinKind "BaseException.__getattribute__" = Aa .slot:=by decide+kernel
 have hsplit:splitId "BaseException.__getattribute__" = Aa ("BaseException", "__getattribute__"):=by decide+kernel
 have L0:=JP (M:=M) p;have L1:=aP (M:=M) X x.be;have ha:=F.args_bexc_ga (.ref e) nameV;simp only[Gd,hk,hsplit];refine An ?_
 .unfold IT
  repeat (first|(with_reducible refine An (L0.at ?_))|(with_reducible refine L1.at ?_)|wp_step)
  exact hq
theorem nK{Q:Vq}(X:K.In h)(x:XcOk K C)(p:XAt e C h)(hq:Q (.ref C) ⟨h,g,d,t,os⟩):Au (model prog w) A (getAttrBy (.ref e) (.str "__class__" tk) fill expr) Q E ⟨h,g,d,t,os⟩:=by
 have L0:=JP (M:=model prog w) p;have L1:=Cv (M:=model prog w) X x.ga;have L2:=Cv (M:=model prog w) X x.gt;have f3:=FR.ga.bind (.ref e);have hx0:(expr&&JH (Dh "BaseException.__getattribute__"))=Ad:=by cases expr<;>rfl
 have hx2:(Dh "BaseException.__getattribute__" == Dh "object.__getattribute__")=Ad:=by decide+kernel
 have hx1:(JH (Cf C)&&Dh "BaseException.__getattribute__" == Dh "object.__getattribute__")=Ad:=by rw[hx2];rfl
 repeat (any_goals (first|assumption|with_reducible refine L0.at ?_|with_reducible refine L1.at ?_|with_reducible refine L2.at ?_|wp_step))
 refine Dy FR.ga.plain ZJ (TJ X x p (gB X x p ?_))
 repeat (any_goals (first|assumption|wp_step))
theorem gQ{Q:Ao Aj->Ap->Prop}(X:K.In h)(x:XcOk K C)(p:XAt e C h)(hq:Q (Aa (.ref C)) ⟨h,g,d,t+1,os⟩):Au (model prog w) A (getAttr? (.ref e) "__class__") Q E ⟨h,g,d,t,os⟩:=by
 unfold getAttr? getAttrBy?
 repeat (any_goals (first|assumption|with_reducible apply nK X x p|wp_step))
end
theorem UC{e C:Al}(x:XcOk K C):PySem.W.KitX K (.ref e) (.ref C) (XAt e C) where
 ty:=λM h _ p=>JP p
 it:=λM h X _=>by
  obtain⟨cd,hc⟩:=Dv.mp x.cs;unfold DD at hc;split at hc
  .rename_i c' d' cd' sl' ho;intro A' Q' E' s' k q;unfold isType loadHead;exact An (wpAny_loadPart (k _ _ (X _ _ ho)) (Az q))
  .cases hc
 ne:=λh tp dd its n sl X htp=>by
  obtain⟨cd,hc⟩:=Dv.mp x.cs;refine Bool.eq_false_iff.mpr λq=>?_
  have e:C=tp:=Jt (AQ.mp q);subst e;unfold DD at hc;split at hc
  .rename_i c' d' cd' sl' ho;have z:=(X _ _ ho).symm.trans htp;cases z
  .cases hc
 ca:=λ{_ _ _ _ _ s} X p k=>by
  obtain⟨h,g,d,t,os⟩:=s;exact gQ X x p k
theorem iZ{A:AX}{E:Vq}{g:Ba Ey}{d:Ie}{t:Ag}{os:Hy}{e C C':Al}{b:Ai}{Q:Ai->Ap->Prop}(X:K.In h)(p:XAt e C h)(x':XcOk K C')(hs:BQ K (.ref C) (.ref C')=Aa b)(hq:Q b ⟨h,g,d,t,os⟩):Au M A (excMatches (.ref e) (.ref C')) Q E ⟨h,g,d,t,os⟩:=by
 obtain⟨bm,N,nm,qn,bs,hd,sn,sub,ab,col,dd,k0,k1,k2,k3,k5,mN,hC',_,_,T⟩:=sD X x'.exc.choose_spec;have hcB:(Cf C'::bm).contains (.type "BaseException")=Ab:=by rw[G4,T.hasType (show veB.contains (.type "BaseException")=Ab by decide),HE]
 have L0:=JP (M:=M) p;have L1:=aP (M:=M) X hs;have f:=tc_notTuple;unfold excMatches
 repeat (first|(with_reducible refine An (L0.at ?_))|(with_reducible refine L1.at ?_)|(with_reducible refine An (L1.at ?_))|with_reducible refine B6 hC' ?_|(with_reducible refine Ff hC' ?_;rw[hcB])|wp_step)
 all_goals first|exact hq|(cases b<;>(wp_walk;exact hq))
def Hk(X:Cx)(pI:Pn)(e:Al):Prop:=e≠X.env.locals/\(∀ x c,X.env.cells.lookup x=Aa c->c≠e)/\(∀ p∈X.pn++pI,p.1≠e)/\X.s₀.heap.get? e=Ae
section
variable{X:Cx}{pI:Pn}{Y:L2.St}{H:Hp}{s:Ap}{e:Al}
theorem MN(I:Inv X pI Y H s)(hx:X.ex=[])(h:s.heap.get? e=Ae):Hk X pI e:=by
 refine⟨?_,λx c q z=>?_,λp hp z=>?_,Kx I hx h⟩
 .rintro rfl;obtain⟨m,⟨o,_,_,ho,_⟩,_⟩:=I.loc;rw[h]at ho;cases ho
 .obtain⟨v,o,ho,_⟩:=I.cell x c q;rw[z,h]at ho;cases ho
 .obtain⟨q,_⟩:=I.pin p hp;rw[z,h]at q;cases q
theorem Uj{ex:Ac Al}(I:Inv X pI Y H s)(hx:X.ex=[])(sh:Shift ex (frs X.stack) s.heap h')(ha:∀ b∈ex,Hk X pI b)(hH:∀ b∈ex,H b=Ae):Inv X pI Y H {s with heap:=h'}:=by
 have kp:∀ b o,s.heap.get? b=Aa o->b∉ex->∃ sl,h'.get? b=Aa {o with slots:=sl}:=λb o q n=>by
  by_cases hb:b∈frs X.stack
  .exact sh.slot b o q hb
  .exact⟨o.slots,sh.keep b o q n hb⟩
 have cellK:∀ x c,X.env.cells.lookup x=Aa c->∀ v,s.heap.IsCell c v->h'.IsCell c v:=λx c q v ⟨o,ho,hd⟩=>by
  obtain⟨sl,z⟩:=kp c o ho λz=>(ha c z).2.1 x c q rfl
  exact⟨_,z,hd⟩
 refine⟨I.ok,I.os,I.bare,?_,?_,λx c q=>?_,I.free,I.freeC,λp hp=>?_,HOk.shift I.hok sh hH I.stkFree,I.len⟩
 .have b0:=I.base;rw[hx]at b0 ⊢;exact Un.shift b0 sh (λb hb=>(ha b hb).2.2.2) (QO I)
 .obtain⟨m,⟨o,es,ep,ho,r⟩,hl⟩:=I.loc;obtain⟨sl,z⟩:=kp _ o ho λz=>(ha _ z).1 rfl
  refine⟨m,⟨_,es,ep,z,r⟩,λi x v e1 e2 e3=>?_⟩
  obtain⟨u,ru,l⟩:=hl i x v e1 e2 e3;refine⟨u,ru,?_⟩;rcases l with l|⟨k,c,q,z⟩
  .exact .inl l
  .exact .inr ⟨k,c,q,cellK x c q _ z⟩
 .obtain⟨v,z⟩:=I.cell x c q;exact⟨v,cellK x c q v z⟩
 .obtain⟨q,n,ne,nf,d⟩:=I.pin p hp;exact⟨sh.keep p.1 p.2 q (λz=>(ha p.1 z).2.2.1 p hp rfl) (λz=>(Av.mp (I.stkSub p.1 z)).elim ne nf),n,ne,nf,d⟩
theorem iN(I:Inv X pI Y H s)(hx:X.ex=[])(ha:Hk X pI e)(hH:H e=Ae)(ho:∃ o,s.heap.get? e=Aa o)(p:φ s.heap)(hφ:∀ h1 h2:AD,φ h1->(∀ o,h1.get? e=Aa o->h2.get? e=Aa o)->φ h2):Inv X pI Y (upd H e (.ext φ)) s:=by
 have ne:∀ b o,H b=Aa o->b≠e:=λb o q z=>by rw[z,hH]at q;cases q
 refine⟨I.ok,I.os,I.bare,⟨I.base.keep,I.base.slot,λb o q n hb=>?_,I.base.there,λb xs q=>?_,λb o u q=>?_,λb ps q=>?_⟩,I.loc,I.cell,?_,λx c q=>?_,λp hp=>?_,λb o q=>?_,I.len⟩
 .rw[Bw λz=>by rw[z,ha.2.2.2]at q;cases q]
  exact I.base.free b o q n hb
 .have:=I.base.tups b xs q;rw[Bw (ne _ _ this)];exact this
 .have:=I.base.frzs b o u q;rw[Bw (ne _ _ this)];exact this
 .obtain⟨more,this⟩:=I.base.tbls b ps q;exact⟨more,by rw[Bw (ne _ _ this)];exact this⟩
 .rw[Bw λz=>ha.1 z.symm];exact I.free
 .rw[Bw (ha.2.1 x c q)];exact I.freeC x c q
 .obtain⟨q,n,r⟩:=I.pin p hp;exact⟨q,by rw[Bw (ha.2.2.1 p hp)];exact n,r⟩
 .by_cases hb:b=e
  .subst hb;rw[EM]at q;cases q;exact⟨p,ho,hφ⟩
  .rw[Bw hb]at q;exact(I.hok b o q).stay (λc v hc z=>z) (λc z=>by rw[Bw (ne _ _ z)];exact z) λc zs z=>by rw[Bw (ne _ _ z)];exact z
theorem iM{i:Ag}{n:Ah}{tk:Ag}(I:Inv X pI Y H s)(hN:X.N.Nodup)(hi:X.N[i]?=Aa n)(hn:s.heap.Ns X.env.locals m)(hn':h'.Ns X.env.locals (λx=>if x=n then v else m x))(hs:Ef X.env.locals s.heap h'):Inv X pI (Y.set i Ae) H {s with heap:=h',toks:=tk}:=by
 obtain⟨m0,hn0,hl⟩:=I.loc;have em:m0=m:=by
  obtain⟨o,es,ep,h1,h2,_,h3⟩:=hn0;obtain⟨o',es',ep',h1',h2',_,h3'⟩:=hn;rw[h1]at h1';cases h1';rw[h2]at h2';cases h2'
  funext y
  rw[<-h3,<-h3']
 subst em;obtain⟨oL,_,_,hoL,_⟩:=id hn;have lt:∀ b o,X.s₀.heap.get? b=Aa o->b≠X.env.locals:=λb o q=>A1 (AI (AB q) I.ok.above)
 refine⟨I.ok,I.os,I.bare,⟨λb o q n hb hx=>?_,λb o q n hb hx=>?_,I.base.free,λb o q hx=>?_,I.base.tups,I.base.frzs,I.base.tbls⟩,⟨_,hn',λj y v' e1 e2 e3=>?_⟩,λy c q=>?_,I.free,I.freeC,λp hp=>?_,λb ob q=>?_,by rw[A5];exact I.len⟩
 .exact(hs.2 b (lt b o q)).trans (I.base.keep b o q n hb hx)
 .obtain⟨sl,e1⟩:=I.base.slot b o q n hb hx;exact⟨sl,(hs.2 b (lt b o q)).trans e1⟩
 .obtain⟨o',e1⟩:=I.base.there b o q hx;exact⟨o',(hs.2 b (lt b o q)).trans e1⟩
 .by_cases hj:i=j
  .subst hj;have:=GP e2;cases this
  .rw[Ca hj]at e2;obtain⟨u',r',q⟩:=hl j y v' e1 e2 e3;refine⟨u',r',?_⟩;rcases q with ⟨k,e⟩|⟨k,c,e,z⟩
   .refine .inl ⟨k,?_⟩;have:y≠n:=λe=>hj (Qz hN hi (e ▸ e1))
    simp[this,e]
   .exact .inr ⟨k,c,e,z.sameBut hs (I.cne y c e)⟩
 .obtain⟨w',z⟩:=I.cell y c q;exact⟨w',z.sameBut hs (I.cne y c q)⟩
 .obtain⟨q,n,ne,nf,d⟩:=I.pin p hp;exact⟨(hs.2 p.1 ne).trans q,n,ne,nf,d⟩
 .refine(I.hok b ob q).stay (λc w' hc z=>(hs.2 c ?_).trans z) (λ_ q=>q) λ_ _ q=>q
  rintro rfl;have hfree:=I.free;rcases hc with z|hc
  .rw[<-z,hfree]at q;cases q
  .rw[hfree]at hc;cases hc
end
noncomputable def Cx.hot(X:Cx)(e:Al):Cx:={X with A:=X.A.mark (Aa (.ref e)),calm:=Ad,xe:=λ_ _=>AV}
section
variable{X:Cx}{pI:Pn}{Y:L2.St}{H:Hp}{s:Ap}{e:Al}
theorem wY(ok:X.Ok):(Cx.hot X e).Ok:=⟨ok.mod,ok.kind,ok.glob,ok.blt,ok.above,ok.inj,ok.has,ok.cab,λz=>(nomatch z),ok.frames,ok.stk,ok.exf,ok.bs,ok.bsz,ok.noex,ok.exfs,ok.funs,ok.frf⟩
theorem QG(I:Inv X pI Y H s)(e:Al):Inv (Cx.hot X e) pI Y H s:=⟨wY I.ok,I.os,I.bare,I.base,I.loc,I.cell,I.free,I.freeC,I.pin,I.hok,I.len⟩
theorem kT(ok:X.Ok)(I:Inv (Cx.hot X e) pI Y H s):Inv X pI Y H s:=⟨ok,I.os,I.bare,I.base,I.loc,I.cell,I.free,I.freeC,I.pin,I.hok,I.len⟩
theorem Sx.unset(x:Sx K CL Fz B U Y H)(i:Ag):Sx K CL Fz B (U.set i Ae) (Y.set i Ae) H:=by
 have get:∀(j:Ag)(y:D×Ai),(U.set i Ae)[j]?=Aa (Aa y)->i≠j/\U[j]?=Aa (Aa y):=λj y h=>by
  by_cases hj:i=j
  .subst hj;have:=GP h;cases this
  .exact⟨hj,by rw[Ca hj]at h;exact h⟩
 have sub:∀ a,BG B (U.set i Ae) (Y.set i Ae) a->BG B U Y a:=λa h=>by
  rcases h with h|⟨j,d,h1,h2⟩
  .exact .inl h
  .obtain⟨hj,h1⟩:=get j _ h1;rw[Ca hj]at h2;exact .inr ⟨j,d,h1,h2⟩
 refine⟨⟨λj d h=>?_,λj d h=>?_,by rw[A5,A5];exact x.len⟩,λa h=>x.aok a (sub a h),λj d a h1 h2=>?_,λj k d f a h1 h2 h3 h4=>?_,x.same,by rw[A5,A5];exact x.len⟩
 .obtain⟨hj,h1⟩:=get j _ h;obtain⟨v,q,r⟩:=x.good.sh j d h1;exact⟨v,by rw[Ca hj];exact q,Rep.sub sub _ r⟩
 .obtain⟨hj,h1⟩:=get j _ h;obtain⟨a,xs,ds,q,z,ha,hh,rr⟩:=x.good.ow j d h1;exact⟨a,xs,ds,by rw[Ca hj];exact q,z,.inr ⟨j,d,h,by rw[Ca hj];exact q⟩,hh,Reps.sub sub _ rr⟩
 .obtain⟨hj,h1⟩:=get j _ h1;rw[Ca hj]at h2;exact x.new j d a h1 h2
 .obtain⟨hj,h1⟩:=get j _ h1;obtain⟨hk,h2⟩:=get k _ h2;rw[Ca hj]at h3;rw[Ca hk]at h4;exact x.dis j k d f a h1 h2 h3 h4
end
def Jl(e C:Al)(dx:Ao Al)(h:AD):Prop:=∃ o,h.get? e=Aa o/\o.cls=.ref C/\o.dict=dx/\∃ us,o.data=.fields us
noncomputable def KO(X:Cx)(CL:ClA)(pI:Pn)(Y:L2.St)(H:Hp)(y:Ex)(Xw:Vq):Prop:=
 ∀ s' H' e T cls dx,Inv X pI Y H' s'->AE H H'->Fly e T cls dx s'.heap->H' e=Ae->H' T=Ae->Hk X pI e->Hk X pI T->Gg X.K CL H' cls dx y->Xw (.ref e) s'
def STB(X:Cx)(CL:ClA)(body:Ac AO)(f:Rho->O):Prop:=∀ Fz B pI s Y H D U (Xw:Vq),FH (model X.prog X.w) X.A X.env Xw->Inv X pI Y H s->Sx X.K CL Fz B U Y H ->
  (match f U with
   |.exn y U'=>U'=U->KO X CL pI Y H y Xw
   | o=>BS X.K CL Fz B (λ_ _=>AV) o D)->(∀ y U',f U=.exn y U'->U'=U)->Au (model X.prog X.w) X.A (execs body X.env) (SP X pI D) Xw s
noncomputable def Sv(up:Ag->Ac Ag)(c i:Ag)(o:O)(fh:Rho->O):O:=match o with
  | .exn y U'=>if (up y.c).contains c=Ab then (match fh (U'.set i (Aa (.exc y.c y.fs,Ad))) with
      |.next U''=>.next (U''.set i Ae)
      |.ret d f=>.ret d f
      | _=>.bad) else .bad
  |o=>o
theorem rQ{i:Ag}{g n:Ah}{hp:AG}{b:Ai}{rest:Ac E5}{s1:Ap}{U':Rho}{D:Ends}{e T1:Al}{y:Ex}(hx:X.ex=[])(hN:X.N.Nodup)(hi:X.N[i]?=Aa n)(hl:X.env.scope.names.lookup n=Aa .local)(hg:Gl X g)(hm:X.mg g=Aa (.ref C'))(hdb:(g==("__debug__" : Ah))=Ad)(xc:XcOk X.K C')(hsu:BQ X.K (.ref C) (.ref C')=Aa b)(hh:∀ e,SSs (Cx.hot X e) CL (λ_ _=>AV) (h0::hs) fh)(I1:Inv X pI Y H' s1)(fl1:Fly e T1 (.ref C) dx s1.heap)(ae:Hk X pI e)(aT1:Hk X pI T1)(he:H' e=Ae)(HT1:H' T1=Ae)(gx:Sx X.K CL Fz B U' Y H')(hcl:CL y.c=Aa C)(xr:Gg X.K CL H' (.ref C) dx y)(p2:b=Ab->BS X.K CL Fz B W (hdO i y U' fh) D)(p3:b=Ad->Au (model X.prog X.w) X.A (Kh (.ref e) X.env rest) (SP X pI D) X.xe s1):Au (model X.prog X.w) X.A (Kh (.ref e) X.env (.ExceptHandler (Aa (.Name g p1)) (Aa n) (h0::hs) hp::rest)) (SP X pI D) X.xe s1:=by
 obtain⟨Cx0,hcl0,ecl,hfs⟩:=xr (BG B U' Y) gx.aok;have xat:∀{h:AD}{T:Al},Fly e T (.ref C) dx h->XAt e C h:=λ{h T} z=>by
  obtain⟨oe,_,_,_,_,z1,z2,_⟩:=z;exact⟨oe,z1,z2⟩
 have xad:∀{h:AD}{T:Al},Fly e T (.ref C) dx h->Jl e C dx h:=λ{h T} z=>by
  obtain⟨oe,vs,_,_,_,z1,z2,z3,_,z4,_⟩:=z;exact⟨oe,z1,z2,z3,vs,z4⟩
 have two:∀{T:Al}{Z_:Al->Prop},Z_ e->Z_ T->∀ b∈[e,T],Z_ b:=λ{T Z_} h1 h2 b hb=>by
  rcases Av.mp hb with rfl|hb
  .exact h1
  .rw[Bl.mp hb];exact h2
 refine wpAny_handleBy_cons (codeAny_handlers_test (JO (X:=Cx.hot X e) (QG I1 e) hg hm ?_ hdb)) (by intro q;cases q)
 refine iZ (K:=X.K) I1.kIn (xat fl1) xc hsu ?_;cases b with
 |false=>exact p3 rfl
 |true=>
 have p2:=p2 rfl;refine codeAny_handlers_suite_as ?_;refine iA (base:=X.base) (l:=X.stack) I1.stack fl1 λh3 T3 fl3 sh3 hT3=>?_
 have I3:=Uj I1 hx sh3 (two ae aT1) (two (Z_:=λb=>H' b=Ae) he HT1)
 obtain⟨oe,oeg,oec⟩:=xad fl3;have I3':=iN (φ:=Jl e C dx) I3 hx ae he ⟨oe,oeg⟩ ⟨oe,oeg,oec⟩ λh1 h2 ⟨o,q1,q2⟩ k=>⟨o,k o q1,q2⟩
 have sm3:AE H' (upd H' e (.ext (Jl e C dx))):=λb o q=>by rw[Bw λz=>by rw[z,he]at q;cases q];exact q
 refine Qq (X:=Cx.hot X e) (i:=i) (v:=.ref e) (QG I3' e) hN hi (.inl hl) rfl (λs4 I4=>?_) (.inr hl)
 have x3:=gx.grow sm3;have nA:¬ BG B U' Y e:=λz=>by
  obtain⟨xs,q⟩:=x3.aok e z;rw[EM]at q;cases q
 have rp:Rep X.K CL (upd H' e (.ext (Jl e C dx))) (BG B U' Y) (.ref e) (.exc y.c y.fs):=by
  refine⟨e,C,Jl e C dx,rfl,nA,hcl,EM,λh ⟨o,z1,z2,_⟩=>⟨o,z1,z2⟩,?_⟩
  rcases hfs with z|⟨d,vs,ed,nd,hd,rf⟩
  .exact .inl z
  .exact .inr ⟨d,vs,nd,sm3 _ _ hd,Repf.kp (Kp.of sm3) _ rf,λh ⟨o,z1,_,z3,z4⟩=>⟨o,z1,z3.trans ed,z4⟩⟩
 have x4:=x3.set i rp;have fin:∀{s5:Ap}{Y5:L2.St}{H5:Hp}{Q:Ge->Ap->Prop},Inv (Cx.hot X e) pI Y5 H5 s5->(∀ s6,Inv X pI (Y5.set i Ae) H5 s6->Q () s6)->Au (model X.prog X.w) X.A (do bindName X.env n .none;unbindBehindTheSuite X.env n hp) Q X.xe s5:=λ{s5 Y5 H5 Q} I5 k=>by
  have I5':=kT I1.ok I5;obtain⟨m,hn,_⟩:=id I5'.loc;refine wpAny_nameGoes_keeps hl hn (by rw[I1.ok.kind];rfl) λh6 v6 hn6 sb6=>?_
  exact k _ (iM I5' hN hi hn hn6 sb6)
 refine Bg (hh e Fz B pI s4 _ _ {nx:=λY5 H5=>D.nx (Y5.set i Ae) H5,rt:=D.rt} I4 ⟨_,x4,?_⟩) (λf s5 hf=>?_) λ_ _ z=>Bc z
 .unfold hdO at p2;cases ef:fh (U'.set i (Aa (.exc y.c y.fs,Ad))) with
  |next U''=>rw[ef]at p2;exact λY5 H5 x5=>p2 _ _ (x5.unset i)
  |ret d b=>rw[ef]at p2;exact p2
  |brk _=>rw[ef]at p2;exact p2.elim
  |cont _=>rw[ef]at p2;exact p2.elim
  |exn _ _=>rw[ef]at p2;exact p2.elim
  |bad=>rw[ef]at p2;exact p2.elim
 .cases f with
  |next=>
   obtain⟨Y5,H5,I5,q⟩:=hf;exact fin I5 λs6 I6=>⟨_,H5,I6,q⟩
  |ret u=>
   obtain⟨v,Y5,H5,I5,r,q⟩:=hf;exact fin I5 λs6 I6=>⟨v,_,H5,I6,r,q⟩
  |brk=>obtain⟨_,_,_,q⟩:=hf;exact Bc q
  |cont=>obtain⟨_,_,_,q⟩:=hf;exact Bc q
def SM(X:Cx)(CL:ClA)(up:Ag->Ac Ag)(g:Ah)(c:Ag):Prop:=∃ C',Gl X g/\X.mg g=Aa (.ref C')/\(g==("__debug__" : Ah))=Ad/\XcOk X.K C'/\∀ c' C,CL c'=Aa C->BQ X.K (.ref C) (.ref C')=Aa ((up c').contains c)
theorem jE{y:Ex}{Q:Flow->Ap->Prop}{hd:Ac E5}(hx:X.ex=[])(hst:X.stack=X.env::X.outer)(hfm:X.env.frame=Aa X.env.locals)(k:∀ e T1 cls dx H' s1,Inv X pI Y H' s1->AE H H'->Fly e T1 cls dx s1.heap->Hk X pI e->Hk X pI T1->H' e=Ae->H' T1=Ae->Gg X.K CL H' cls dx y->Au (model X.prog X.w) X.A (Kh (.ref e) X.env hd) Q X.xe s1):KO X CL pI Y H y (λev s1=>Au (model X.prog X.w) X.A (G9 ev X.env) (λ_ s2=>Au (model X.prog X.w) X.A (Ii ev Ae) (λ_ s3=>Au (model X.prog X.w) X.A (Kh ev X.env hd) Q X.xe s3) X.xe s2) X.xe s1):=by
 intro s' H' e T cls dx I' sm fl he hT ae aT xr;have two:∀{T:Al}{Z_:Al->Prop},Z_ e->Z_ T->∀ b∈[e,T],Z_ b:=λ{T Z_} h1 h2 b hb=>by
  rcases Av.mp hb with rfl|hb
  .exact h1
  .rw[Bl.mp hb];exact h2
 have hfr:X.A.frames=Aa (X.env::X.outer):=by rw[<-hst];exact I'.ok.frames
 refine kZ (base:=X.base) hfr hfm (by rw[<-hst];exact I'.stack) fl λh1 T1 fl1 sh1 hT1=>?_
 rw[<-hst]at sh1;exact k e T1 cls dx H' _ (Uj I' hx sh1 (two ae aT) (two (Z_:=λb=>H' b=Ae) he hT)) sm fl1 ae (hT1.elim (λz=>z ▸ aT) λz=>MN I' hx z) he (hT1.elim (λz=>z ▸ hT) λz=>Lu I'.hok z) xr
theorem sO{c i:Ag}{g n:Ah}{hp:AG}{fb:Rho->O}(hx:X.ex=[])(hst:X.stack=X.env::X.outer)(hfm:X.env.frame=Aa X.env.locals)(hN:X.N.Nodup)(hi:X.N[i]?=Aa n)(hl:X.env.scope.names.lookup n=Aa .local)(h1:SM X CL up g c)(hb:STB X CL body fb)(hρ:∀ U y U',fb U=.exn y U'->U'=U)(hh:∀ e,SSs (Cx.hot X e) CL (λ_ _=>AV) (h0::hs) fh):SS X CL W (.Try body [.ExceptHandler (Aa (.Name g p1)) (Aa n) (h0::hs) hp] [] [] pos) (λU=>Sv up c i (fb U) fh):=λFz B pI s Y H D I ⟨U,x,p⟩=>by
 refine wpAny_Try_except (Bg (hb Fz B pI s Y H D U _ PassesOwn.looking I x ?_ (hρ U)) (λf s1 hf=>?_) λ_ _ z=>z)
 .dsimp only at p;cases eb:fb U with
  |exn y U'=>
   rw[eb]at p;intro e0;subst e0;have p2:BS X.K CL Fz B W (if (up y.c).contains c=Ab then hdO i y U' fh else .bad) D:=p
   refine jE hx hst hfm λe T1 cls dx H' s1 I1 sm fl1 ae aT1 he HT1 xr=>?_
   have gx:=x.grow sm;obtain⟨C,hcl,rfl,_⟩:=xr (BG B U' Y) gx.aok;obtain⟨C',hg,hm,hdb,xc,hup⟩:=h1;refine rQ (W:=W) hx hN hi hl hg hm hdb xc (hup y.c C hcl) hh I1 fl1 ae aT1 he HT1 gx hcl xr (λhc=>?_) (λhc=>?_)
   .rw[Ax hc]at p2;exact p2
   .rw[AC (by rw[hc];exact AF)]at p2;exact p2.elim
  |next U'=>rw[eb]at p;exact p
  |ret d b=>rw[eb]at p;exact p
  |brk U'=>rw[eb]at p;exact p
  |cont U'=>rw[eb]at p;exact p
  |bad=>rw[eb]at p;exact p.elim
 .cases f with
  |next=>exact Fw hf
  |ret u=>exact hf
  |brk=>exact hf
  |cont=>exact hf
theorem UL{f:Al}{E:XK}{e:Am}{es:Ac Am}{t:TA}(F:FnOk X.prog X.w X.K X.mg X.base CX k f fd ps sp)(hr:Room k X.A)(hg:Gl X x)(hm:X.mg x=Aa (.ref f))(hk:B2 X.K (.ref f)=Ab)(hb:FV X.K fd ps [])(hx:∀ pI H s e s',Inv X pI Y0 H s->CX X.stack H s E e s'->X.xe e s')(ha:PA X (e::es) t)(hdb:(x==("__debug__" : Ah))=Ad)(he:As (e::es) X.env=(Ad,eval e X.env)::As es X.env)(hpl:(BP pos (As es X.env)).any (·.1)=Ad):PE X (.Call (.Name x p) (e::es) [] pos) (λY H Q=>Y=Y0/\t Y H λvs H1=>sp vs H1 Q E):=by
 intro pI s Y H Q I ⟨e0,h⟩;subst e0;refine Eu (JO I hg hm ?_ hdb);refine G7 (h₀:=X.base) I.ok.mod.kin hk (thn (ha pos pI s Y H _ I h) λus s1 ⟨vs,H1,I1,r,q⟩=>⟨I1.kIn,?_⟩) he hpl
 have hl:us.length=ps.length:=by rw[<-r.length];exact F.len _ _ _ _ q
 have hb':Gn s1 fd ⟨us,[]⟩ (ps.zip us):=by
  have:=hb s1 us I1.kIn (by rw[Cq];exact hl)
  rw[Cq]at this;exact this
 refine FL (Eh (F.run X.A X.stack s1 H1 ⟨us,[]⟩ us vs Q E hr I1.env0 hb' r q) λr s' hq=>?_)
 cases r with
 |error e=>exact hx pI H1 s1 e s' I1 hq
 |ok fl=>
  cases fl with
  |ret u=>exact I1.after hq
  |next=>exact Bc hq
  |brk=>exact Bc hq
  |cont=>exact Bc hq
def RX(K:Fg)(CL:ClA)(Rp:Hp->V->D->Prop)(E0:XK)(H:Hp)(r:R D)(Q:VK):Prop:=match r with
  |.ok d=>∀ v H',AE H H'->Rp H' v d->Q v H'
  |.exn y=>∀ cls dx H',AE H H'->Gg K CL H' cls dx y->E0 cls dx H'
  |.bad=>AV
theorem NL{k n:Ag}{f:Al}{e:Am}{es:Ac Am}{fs ft:Rho->R (Ac D)}{sh:Rho->Ai}{E0:XK}(G:FnOk X.prog X.w X.K X.mg X.base CX k f fd ps (spD X.K CL n fr F))(hr:Room k X.A)(hg:Gl X x)(hm:X.mg x=Aa (.ref f))(hk:B2 X.K (.ref f)=Ab)(hb:FV X.K fd ps [])(hx:∀ pI H s e s',Inv X pI Y0 H s->CX X.stack H s E0 e s'->X.xe e s')(ha:SA X CL (λ_ _=>AV) (e::es) fs)(hat:SAT X CL (λ_ _=>AV) (e::es) ft)(hst:∀ U,sh U=Ab->ft U=fs U)(hn:∀ U ds,ft U=.ok ds->ds.length=n)(hnx:∀ U y,ft U≠.exn y)(hdb:(x==("__debug__" : Ah))=Ad)(he:As (e::es) X.env=(Ad,eval e X.env)::As es X.env)(hpl:∀ pos,(BP pos (As es X.env)).any (·.1)=Ad)(A:Al->Prop):PE X (.Call (.Name x p) (e::es) [] pos) (λY H Q=>Y=Y0/\AOk H A/\∃ U,Good X.K CL A U Y H/\RX X.K CL (DB X.K CL fr H A) E0 H ((ft U).bind λds=>(F ds).bind λd=>if sh U=Ab then .ok d else if FZ fr d=Ab then .ok d else .bad) Q):=λpI s Y H Q I ⟨e0,hA,U,gd,q⟩=>by
 by_cases hs:sh U=Ab
 .rw[hst U hs]at q;refine UL G hr hg hm hk hb hx (ha A) hdb he (hpl _) pI s Y H Q I ⟨e0,hA,U,gd,?_⟩;cases e1:fs U with
  |bad=>rw[e1]at q;exact q
  |exn y=>exact absurd (by rw[hst U hs];exact e1) (hnx U y)
  |ok ds=>
   rw[e1]at q;intro vs H1 s1 r1;refine⟨ds,A,by rw[r1.length];exact hn U ds (by rw[hst U hs];exact e1),hA.same s1,r1,?_⟩
   have q':RX X.K CL (DB X.K CL fr H A) E0 H ((F ds).bind λd=>if sh U=Ab then .ok d else if FZ fr d=Ab then .ok d else .bad) Q:=q
   cases e2:F ds with
   |ok d=>
    rw[e2,R.bind_ok,Ax hs]at q';exact λv H2 s2 r2=>q' v H2 (s1.trans s2) ⟨r2.1,λz ds' e'=>let ⟨a,xs,z1,z2,z3⟩:=r2.2 z ds' e';⟨a,xs,z1,s1.free z2,z3⟩⟩
   |exn y=>
    rw[e2]at q';exact λcls dx H2 s2 xr=>q' cls dx H2 (s1.trans s2) xr
   |bad=>rw[e2]at q';exact q'.elim
 .refine UL G hr hg hm hk hb hx (hat A) hdb he (hpl _) pI s Y H Q I ⟨e0,hA,U,gd,?_⟩;cases e1:ft U with
  |bad=>rw[e1]at q;exact q
  |exn y=>exact absurd e1 (hnx U y)
  |ok ds=>
   rw[e1]at q;intro vs H1 s1 r1;refine⟨ds,A0,by rw[r1.plain.length];exact hn U ds e1,λ_ z=>z.elim,r1.plain,?_⟩
   have q':RX X.K CL (DB X.K CL fr H A) E0 H ((F ds).bind λd=>if sh U=Ab then .ok d else if FZ fr d=Ab then .ok d else .bad) Q:=q
   cases e2:F ds with
   |ok d=>
    rw[e2,R.bind_ok,AC hs]at q';split at q'
    .rename_i hc;exact λv H2 s2 r2=>q' v H2 (s1.trans s2) (Rn hA (s1.trans s2) hc ⟨r2.1,λz ds' e'=>let ⟨a,xs,z1,z2,z3⟩:=r2.2 z ds' e';⟨a,xs,z1,s1.free z2,z3⟩⟩)
    .exact q'.elim
   |exn y=>
    rw[e2]at q';exact λcls dx H2 s2 xr=>q' cls dx H2 (s1.trans s2) xr
   |bad=>rw[e2]at q';exact q'.elim
noncomputable def Cx.pw(X:Cx)(pI:Pn)(Xw:Vq):Cx:={X with pn:=X.pn++pI,xe:=Xw}
section
variable{X:Cx}{pI pins':Pn}{Y:L2.St}{H:Hp}{s:Ap}{Xw:Vq}
theorem bu(ok:X.Ok):(Cx.pw X pI Xw).Ok:=⟨ok.mod,ok.kind,ok.glob,ok.blt,ok.above,ok.inj,ok.has,ok.cab,ok.hd,ok.frames,ok.stk,ok.exf,ok.bs,ok.bsz,ok.noex,ok.exfs,ok.funs,ok.frf⟩
theorem MY(I:Inv X pI Y H s)(Xw:Vq):Inv (Cx.pw X pI Xw) [] Y H s:=⟨bu I.ok,I.os,I.bare,I.base,I.loc,I.cell,I.free,I.freeC,λp hp=>I.pin p (by
 rcases Fs.mp hp with z|z
 .exact z
 .exact absurd z (by simp)),I.hok,I.len⟩
theorem Ls(ok:X.Ok)(I:Inv (Cx.pw X pI Xw) pins' Y H s):Inv X pI Y H s:=⟨ok,I.os,I.bare,I.base,I.loc,I.cell,I.free,I.freeC,λp hp=>I.pin p (Du _ hp),I.hok,I.len⟩
theorem N5(ok:X.Ok){D:Ends}{f:Flow}{s':Ap}(h:SP (Cx.pw X pI Xw) pins' D f s'):SP X pI D f s':=by
 cases f with
 |next=>obtain⟨Y',H',I,q⟩:=h;exact⟨Y',H',Ls ok I,q⟩
 |brk=>obtain⟨Y',H',I,q⟩:=h;exact⟨Y',H',Ls ok I,q⟩
 |cont=>obtain⟨Y',H',I,q⟩:=h;exact⟨Y',H',Ls ok I,q⟩
 |ret u=>obtain⟨v,Y',H',I,r,q⟩:=h;exact⟨v,Y',H',Ls ok I,r,q⟩
end
section
variable{X:Cx}{CL:ClA}{k n:Ag}{fr:Ai}{f:Al}{fd:BM}{ps:Ac Ah}{F:Ac D->R D}{x:Ah}{p pos pos2:AG}{e:Am}{es:Ac Am}{fs ft:Rho->R (Ac D)}{sh:Rho->Ai}
theorem VA{y:Ex}(hx:X.ex=[])(ok:X.Ok)(q:KO X CL pI Y H y Xw):∀ pins' H1 s1 e s',Inv (Cx.pw X pI Xw) pins' Y H1 s1->CXR X.prog X.w (Cx.pw X pI Xw).stack H1 s1 (λcls dx H'=>Gg X.K CL H' cls dx y/\AE H H') e s'->(Cx.pw X pI Xw).xe e s':=by
 intro pins' H1 s1 ev s' J h;obtain⟨e,T,cls,dx,H',rfl,os,bare,un,hok,fl,he,hT,ne,nT,xr,sm⟩:=h;have J':=Ls ok J;have J2:=J'.call' (s':=s') (ch:=[]) os un hok bare (λb z=>absurd z (by simp))
 exact q s' H' e T cls dx J2 sm fl he hT (MN J' hx ne) (MN J' hx nT) xr
theorem VB:∀ pins' H1 s1 e s',Inv (Cx.pw X pI Xw) pins' Y H1 s1->CXR X.prog X.w (Cx.pw X pI Xw).stack H1 s1 (λ_ _ _=>AV) e s'->(Cx.pw X pI Xw).xe e s':=by
 intro pins' H1 s1 ev s' J h;obtain⟨e,T,cls,dx,H',rfl,os,bare,un,hok,fl,he,hT,ne,nT,w⟩:=h;exact w.elim
variable(hx0:X.ex=[])(G:FnOk X.prog X.w X.K X.mg X.base (CXR X.prog X.w) k f fd ps (spD X.K CL n fr F))(hr:Room k X.A)(hg:Gl X x)(hm:X.mg x=Aa (.ref f))
    (hk:B2 X.K (.ref f)=Ab) (hb:FV X.K fd ps []) (hst:∀ U,sh U=Ab->ft U=fs U) (hn:∀ U ds,ft U=.ok ds->ds.length=n) (hnx:∀ U y,ft U≠.exn y)
    (hdb:(x==("__debug__" : Ah))=Ad) (he:As (e::es) X.env=(Ad,eval e X.env)::As es X.env) (hpl:∀ pos,(BP pos (As es X.env)).any (·.1)=Ad)
    (ha:∀ pI Xw,FH (model X.prog X.w) X.A X.env Xw->SA (Cx.pw X pI Xw) CL (λ_ _=>AV) (e::es) fs/\SAT (Cx.pw X pI Xw) CL (λ_ _=>AV) (e::es) ft)
include hx0 G hr hg hm hk hb hst hn hnx hdb he hpl ha
theorem jJ(hs:CZ (.Call (.Name x p) (e::es) [] pos) Ae pos2.line X.env=pure Ad):STB X CL [.Expr (.Call (.Name x p) (e::es) [] pos) pos2] (λU=>O.of U ((ft U).bind λds=>(F ds).bind λd=>if sh U=Ab then .ok d else if FZ fr d=Ab then .ok d else .bad) λ_=>.next U):=by
 intro Fz B pI s Y H D U Xw own I sx q _;obtain⟨ha1,ha2⟩:=ha pI Xw own;dsimp only at q;cases er:(ft U).bind λds=>(F ds).bind λd=>if sh U=Ab then .ok d else if FZ fr d=Ab then .ok d else .bad with
 |bad=>rw[er]at q;exact q.elim
 |exn y=>
  rw[er]at q;have key:=NL (X:=Cx.pw X pI Xw) (p:=p) (pos:=pos) (Y0:=Y) (fr:=fr) (F:=F) (n:=n) (sh:=sh) G hr hg hm hk hb (VA hx0 I.ok (q rfl)) ha1 ha2 hst hn hnx hdb he hpl (BG B U Y);refine Bg (MP (Kt (pos:=pos2) key hs) [] s Y H D (MY I Xw) ⟨rfl,sx.aok,U,sx.good,?_⟩) (λ_ _ z=>N5 I.ok z) λ_ _ z=>z
  rw[er];exact λcls dx H' sm xr=>⟨xr,sm⟩
 |ok d=>
  rw[er]at q;have key:=NL (X:=Cx.pw X pI Xw) (p:=p) (pos:=pos) (Y0:=Y) (fr:=fr) (F:=F) (n:=n) (sh:=sh) (E0:=λ_ _ _=>AV) G hr hg hm hk hb VB ha1 ha2 hst hn hnx hdb he hpl (BG B U Y)
  refine Bg (MP (Kt (pos:=pos2) key hs) [] s Y H D (MY I Xw) ⟨rfl,sx.aok,U,sx.good,?_⟩) (λ_ _ z=>N5 I.ok z) λ_ _ z=>z
  rw[er];exact λv H' sm r=>q Y H' (sx.grow sm)
theorem mM{i:Ag}{m:Ah}(hN:X.N.Nodup)(hi:X.N[i]?=Aa m)(hl:Loc X.env.scope m)(hf:X.fn m=Ab\/X.env.scope.names.lookup m=Aa .local)(hs:CZ (.Call (.Name x p) (e::es) [] pos) (Aa (.Name m pos')) pos2.line X.env=pure Ad):STB X CL [.Assign [.Name m pos'] (.Call (.Name x p) (e::es) [] pos) pos2] (λU=>O.of U ((ft U).bind λds=>(F ds).bind λd=>if sh U=Ab then .ok d else if FZ fr d=Ab then .ok d else .bad) λd=>.next (U.set i (Aa (d,Ad)))):=by
 intro Fz B pI s Y H D U Xw own I sx q _;obtain⟨ha1,ha2⟩:=ha pI Xw own;dsimp only at q;cases er:(ft U).bind λds=>(F ds).bind λd=>if sh U=Ab then .ok d else if FZ fr d=Ab then .ok d else .bad with
 |bad=>rw[er]at q;exact q.elim
 |exn y=>
  rw[er]at q;have key:=NL (X:=Cx.pw X pI Xw) (p:=p) (pos:=pos) (Y0:=Y) (fr:=fr) (F:=F) (n:=n) (sh:=sh) G hr hg hm hk hb (VA hx0 I.ok (q rfl)) ha1 ha2 hst hn hnx hdb he hpl (BG B U Y);refine Bg (MP (Oh (X:=Cx.pw X pI Xw) (i:=i) (pos:=pos2) hN hi hl key hs hf) [] s Y H D (MY I Xw) ⟨rfl,sx.aok,U,sx.good,?_⟩) (λ_ _ z=>N5 I.ok z) λ_ _ z=>z
  rw[er];exact λcls dx H' sm xr=>⟨xr,sm⟩
 |ok d=>
  rw[er]at q;have key:=NL (X:=Cx.pw X pI Xw) (p:=p) (pos:=pos) (Y0:=Y) (fr:=fr) (F:=F) (n:=n) (sh:=sh) (E0:=λ_ _ _=>AV) G hr hg hm hk hb VB ha1 ha2 hst hn hnx hdb he hpl (BG B U Y)
  refine Bg (MP (Oh (X:=Cx.pw X pI Xw) (i:=i) (pos:=pos2) hN hi hl key hs hf) [] s Y H D (MY I Xw) ⟨rfl,sx.aok,U,sx.good,?_⟩) (λ_ _ z=>N5 I.ok z) λ_ _ z=>z
  rw[er];exact λv H' sm r=>q _ H' ((sx.grow sm).set i r.1)
end
section
variable{X:Cx}{CL:ClA}{W:XW}
theorem jK{e:Am}{es:Ac Am}(hcalm:X.calm=Ab)(rz:Nm X CL W)(hg:Gl X g)(hm:X.mg g=Aa (.ref C))(hdb:(g==("__debug__" : Ah))=Ad)(xc:DN X.K C Ae=Ab)(hcl:CL c=Aa C)(ha:SA X CL W (e::es) fs)(hxn:∀ ds,xn c ds=.bad\/xn c ds=.ok ⟨c,[]⟩)(he:As (e::es) X.env=(Ad,eval e X.env)::As es X.env)(hpl:∀ pos,(BP pos (As es X.env)).any (·.1)=Ad)(hz:∀ U ds,fs U=.ok ds->ds.length<=100000):SS X CL W (.Raise (Aa (.Call (.Name g np) (e::es) [] cpos)) Ae pos) (λU=>O.of U (noX (fs U)) λxs=>O.of U (xn c xs) λx=>.exn x U):=λFz B pI s Y H D I ⟨U,x,p⟩=>by
 dsimp only at p;cases e1:fs U with
 |bad=>rw[e1]at p;exact p.elim
 |exn y=>rw[e1]at p;exact p.elim
 |ok ds=>
  rw[e1]at p;have p2:BS X.K CL Fz B W (O.of U (xn c ds) λx=>.exn x U) D:=p
  rcases hxn ds with e2|e2
  .rw[e2]at p2;exact p2.elim
  .rw[e2]at p2;have p3:∀ H,(∀ b o,Fz b o->H b=Aa o)->W ⟨c,[]⟩ H:=p2;obtain⟨bm,N,nm,qn,bs,hd,sn,sub,ab,col,dd,k0,k1,k2,k3,k5,mN,hob,hni,hbase⟩:=Qj I.kIn xc;refine wpAny_Raise_call_subT (bmB:=veB) (nm:=nm) (q:=qn) (C:=C) (N:=N) (bs:=bs) (bm:=bm) (hdct:=hd) (sn:=sn) (sub:=sub) (ab:=ab) (col:=col) (dd:=dd) (k0:=k0) (k1:=k1) (k2:=k2) (k3:=k3) (k5:=k5) (mN:=mN) E6 hbase (I.ok.hd hcalm) (by rw[he];show (Ad||(BP cpos (As es X.env)).any (·.1))=Ad;rw[hpl];rfl) hni ?_
   refine JO I hg hm ⟨rfl,?_⟩ hdb;have q1:=ha (BG B U Y) cpos pI s Y H (λvs H1=>AE H H1/\vs.length=ds.length) I ⟨x.aok,U,x.good,by rw[e1];exact λvs H1 s1 r1=>⟨s1,r1.length⟩⟩
   rw[he]at q1 ⊢;refine ES (Bg q1 (λus s2 ⟨vs,H2,I2,r2,s2',hl⟩=>⟨rfl,?_⟩) λ_ _ z=>z)
   obtain⟨o1,o2,o3⟩:=hob _ I2.kIn;refine⟨?_,o1,o2,o3,λh' ev hmade=>?_⟩
   .rw[<-r2.length,hl,C9];have:=hz U ds e1;omega
   .obtain⟨t,ge,_⟩:=hmade.there;have I3:Inv X pI Y H2 {s2 with heap:=h'}:=I2.kept (t':=s2.toks) hmade.keeps
    exact rz pI Y H2 _ ev C Ae t ⟨c,[]⟩ I3 (λhx=>Kx I2 hx hmade.new) (Lu I2.hok hmade.new) ge (λA _=>⟨C,hcl,rfl,.inl rfl⟩) (p3 H2 λb o z=>s2' _ _ (x.same b o z))
def MW(K:Fg)(CL:ClA)(up:Ag->Ac Ag)(c':Ag)(C':Al):Prop:=∀ c C,CL c=Aa C->CS K (.ref C) (.ref C')=Aa ((up c).contains c')
theorem UD{s:Ap}{a C:Al}{cv:Aj}{b:Ai}{Q:VK}(I:Inv X pI Y H s)(ha:H a=Aa (.ext φ))(hφ:∀ h,φ h->∃ o,h.get? a=Aa o/\o.cls=.ref C)(xc:XcOk X.K C)(e:CS X.K (.ref C) cv=Aa b)(q:Q (.bl b) H):
  Au (model X.prog X.w) X.A (call (.builtin "isinstance") [.ref a,cv]) (EP X pI Y Q) X.xe s:=by
 have p:XAt a C s.heap:=hφ _ (I.hok a _ ha).1;exact PySem.W.kia_one (UC xc) I.kIn p e (by intro z;cases z) λtk=>⟨.bl b,H,I.tok tk,rfl,q⟩
theorem TW:∀(Cs:Ac Al){its:Ac Aj},A8 (Cs.map V.ref) its->its=Cs.map Cf
 |[],_,rv=>by cases rv;rfl
 |c::cs,_,rv=>by
  cases rv with
  |cons h1 h2=>rw[TW cs h2];cases h1;rfl
theorem oE{s:Ap}{a C tp:Al}{Cs:Ac Al}{b:Ai}{Q:VK}(I:Inv X pI Y H s)(ha:H a=Aa (.ext φ))(hφ:∀ h,φ h->∃ o,h.get? a=Aa o/\o.cls=.ref C)(xc:XcOk X.K C)(ht:H tp=Aa (.tup (Cs.map V.ref)))(e:IJ X.K (.ref C) (Cs.map Cf)=Aa b)(q:Q (.bl b) H):
  Au (model X.prog X.w) X.A (call (.builtin "isinstance") [.ref a,.ref tp]) (EP X pI Y Q) X.xe s:=by
 have p:XAt a C s.heap:=hφ _ (I.hok a _ ha).1;obtain⟨_,its,rv,⟨o,ho,hc,n,hd⟩⟩:=I.hok tp _ ht;have ei:its=Cs.map Cf:=TW Cs rv;subst ei;obtain⟨cls,dd,dat,sl⟩:=o;have hc':cls=.type "tuple" := hc;have hd':dat=.seq (FB (Cs.map Cf)) n:=hd;subst hc' hd';exact PySem.W.kia_tup (UC xc) I.kIn p ho e (by intro z;cases z) λtk=>⟨.bl b,H,I.tok tk,rfl,q⟩
theorem V7{K:Fg}{up:Ag->Ac Ag}{c:Ag}{C:Al}(h:CL c=Aa C):∀(cs:Ac (Ag×Al)),(∀ p∈cs,MW K CL up p.1 p.2)->IJ K (.ref C) ((cs.map λq:Ag×Al=>q.2).map Cf)=Aa (cs.any λp=>(up c).contains p.1)
  |[],_=>rfl
  |p::cs,hk=>by
    have h1:=hk p Ay c C h;have h2:=V7 h cs λq hq=>hk q (Aw _ hq)
    show (match CS K (.ref C) (.ref p.2) with
      |some Ab=>Aa Ab
      |some Ad=>IJ K (.ref C) ((cs.map λq:Ag×Al=>q.2).map Cf)
      | none=>Ae)=_
    rw[h1,He];cases (up c).contains p.1 with
    |true=>rfl
    |false=>rw[h2];rfl
theorem Qh{ks:Ac Ki}{Rp:Hp->V->D->Prop}{Q:VK}(hk:ks.all Em=Ab)(hne:ks≠[])(p:Bb Rp W H (D6 up ks d) Q):∃ c fs,d=.exc c fs/\Bb Rp W H (.ok (.bl (ks.any λk=>kiD up k d))) Q:=by
 have ha:ks.any Em=Ab:=by
  cases ks with
  |nil=>exact absurd rfl hne
  |cons k ks=>simp only[F4,Ak]at hk;simp[He,hk.1]
 cases d with
 | exc c fs=>exact⟨c,fs,rfl,by
   have p':Bb Rp W H (if ks.all Em=Ab then .ok (.bl (ks.any λk=>kiD up k (.exc c fs))) else .bad) Q:=p
   rw[Ax hk]at p';exact p'⟩
 |obj c fs=>exact Bc p
 |dic _=>exact Bc p
 |non=>simp only[D6,ha,Ep]at p;exact Bc p
 |bl _=>simp only[D6,ha,Ep]at p;exact Bc p
 |int _=>simp only[D6,ha,Ep]at p;exact Bc p
 |str _=>simp only[D6,ha,Ep]at p;exact Bc p
 |tup _=>simp only[D6,ha,Ep]at p;exact Bc p
 |lst _=>simp only[D6,ha,Ep]at p;exact Bc p
theorem QL{v:V}{fs:Ac (Ah×D)}(r:CN K CL H A v (.exc c fs)):∃ a C φ,v=.ref a/\CL c=Aa C/\H a=Aa (.ext φ)/\∀ h,φ h->∃ o,h.get? a=Aa o/\o.cls=.ref C:=by
 rcases r with ⟨a,C,φ,e,_,hc,hH,hφ,_⟩|⟨a,xs,ds,_,z,_⟩
 .exact⟨a,C,φ,e,hc,hH,hφ⟩
 .cases z
variable{a:Am}{fa:Rho->R D}{up:Ag->Ac Ag}{x:Ah}{p p2 pos:AG}
theorem vB{c':Ag}(hxc:∀ c C,CL c=Aa C->XcOk X.K C)(hg:Gl X "isinstance")(hm:X.mg "isinstance" = Ae)(hg2:Gl X x)(hm2:X.mg x=Aa (.ref C'))(hkit:MW X.K CL up c' C')(hdb:(x==("__debug__" : Ah))=Ad)(ha:ST X CL W a fa)(he:As [a,.Name x p2] X.env=(Ad,eval a X.env)::As [.Name x p2] X.env):SE X CL W (.Call (.Name "isinstance" p) [a,.Name x p2] [] pos) (λU=>(fa U).bind λx=>D6 up [.cls c'] x):=λA=>
 PE.weak (MG (r:=λxs H Q=>∃ a C φ c,xs=[.ref a,.ref C']/\CL c=Aa C/\H a=Aa (.ext φ)/\(∀ h,φ h->∃ o,h.get? a=Aa o/\o.cls=.ref C)/\Q (.bl ((up c).contains c')) H) (λpI s Y H xs us Q I r ⟨b,C,φ,c,e,hc,hH,hφ,q⟩=>by
   subst e;obtain⟨u,w',rfl,r1,r2⟩:=L7 r;cases r1;cases r2;exact UD I hH hφ (hxc c C hc) (hkit c C hc) q)
  hg hm Gu (DM (ha A) (DM (Vj (v:=.ref C') hg2 hm2 rfl hdb) Fk rfl) he) (by decide) (by decide) he rfl) λY H Q ⟨hA,U,g,q⟩=>⟨hA,U,g,Bb.bind q λd v H1 _ s1 r1 p1=>by
   obtain⟨c,fs,rfl,p2⟩:=Qh (by rfl) (by simp) p1
   obtain⟨b,C,φ,rfl,hc,hH,hφ⟩:=QL r1;refine⟨b,C,φ,c,rfl,hc,hH,hφ,p2 _ H1 (AE.refl H1) ?_⟩;exact congrArg V.bl (E3 _).symm⟩
theorem uY(hxc:∀ c C,CL c=Aa C->XcOk X.K C)(hg:Gl X "isinstance")(hm:X.mg "isinstance" = Ae)(hg2:Gl X "ValueError")(hm2:X.mg "ValueError" = Ae)(ha:ST X CL W a fa)(he:As [a,.Name "ValueError" p2] X.env=(Ad,eval a X.env)::As [.Name "ValueError" p2] X.env):SE X CL W (.Call (.Name "isinstance" p) [a,.Name "ValueError" p2] [] pos) (λU=>(fa U).bind λx=>D6 up [.verr] x):=λA=>
 PE.weak (MG (r:=λxs H Q=>∃ a C φ c,xs=[.ref a,.ty "ValueError"]/\CL c=Aa C/\H a=Aa (.ext φ)/\(∀ h,φ h->∃ o,h.get? a=Aa o/\o.cls=.ref C)/\Q (.bl Ab) H) (λpI s Y H xs us Q I r ⟨b,C,φ,c,e,hc,hH,hφ,q⟩=>by
   subst e;obtain⟨u,w',rfl,r1,r2⟩:=L7 r;cases r1;cases r2;exact UD I hH hφ (hxc c C hc) (hxc c C hc).ve q)
  hg hm Gu (DM (ha A) (DM (Vl (v:=.ty "ValueError") hg2 hm2 PyProof.Rows.Boot.«ValueError» rfl (by decide) (by decide)) Fk rfl) he) (by decide) (by decide) he rfl) λY H Q ⟨hA,U,g,q⟩=>⟨hA,U,g,Bb.bind q λd v H1 _ s1 r1 p1=>by
   obtain⟨c,fs,rfl,p2⟩:=Qh (by rfl) (by simp) p1
   obtain⟨b,C,φ,rfl,hc,hH,hφ⟩:=QL r1;refine⟨b,C,φ,c,rfl,hc,hH,hφ,p2 _ H1 (AE.refl H1) ?_⟩;exact congrArg V.bl (E3 _).symm⟩
theorem tH(up:Ag->Ac Ag)(c:Ag)(fs:Ac (Ah×D))(cs:Ac (Ag×Al)):((cs.map λq=>Ki.cls q.1).any λk=>kiD up k (.exc c fs))=cs.any λq=>(up c).contains q.1:=Ys
def Sz(Cs:Ac Al):TA:=λ_ H Q=>Q (Cs.map V.ref) H
theorem uZ{ts:Ac Am}{cs:Ac (Ag×Al)}(hxc:∀ c C,CL c=Aa C->XcOk X.K C)(hg:Gl X "isinstance")(hm:X.mg "isinstance" = Ae)(hts:PA X ts (Sz (cs.map λq:Ag×Al=>q.2)))(hne:cs≠[])(hl:cs.length<=1000)(hkit:∀ q∈cs,MW X.K CL up q.1 q.2)(ha:ST X CL W a fa)(he:As [a,.Tuple ts kk p2] X.env=(Ad,eval a X.env)::As [.Tuple ts kk p2] X.env):SE X CL W (.Call (.Name "isinstance" p) [a,.Tuple ts kk p2] [] pos) (λU=>(fa U).bind λx=>D6 up (cs.map λq=>.cls q.1) x):=λA=>
 PE.weak (MG (r:=λxs H Q=>∃ a C φ c tp,xs=[.ref a,.ref tp]/\CL c=Aa C/\H a=Aa (.ext φ)/\(∀ h,φ h->∃ o,h.get? a=Aa o/\o.cls=.ref C)/\H tp=Aa (.tup ((cs.map λq:Ag×Al=>q.2).map V.ref))/\Q (.bl (cs.any λq=>(up c).contains q.1)) H) (λpI s Y H xs us Q I r ⟨b,C,φ,c,tp,e,hc,hH,hφ,ht,q⟩=>by
   subst e;obtain⟨u,w',rfl,r1,r2⟩:=L7 r;cases r1;cases r2;exact oE I hH hφ (hxc c C hc) ht (V7 hc cs hkit) q)
  hg hm Gu (DM (ha A) (DM (W9 hts) Fk rfl) he) (by decide) (by decide) he rfl) λY H Q ⟨hA,U,g,q⟩=>⟨hA,U,g,Bb.bind q λd v H1 _ s1 r1 p1=>by
   have hk:(cs.map λq=>Ki.cls q.1).all Em=Ab:=by simp[Yr,Em]
   obtain⟨c,fs,rfl,p2⟩:=Qh hk (by simpa using hne) p1
   obtain⟨b,C,φ,rfl,hc,hH,hφ⟩:=QL r1;refine⟨by rw[Bi,Bi,C9];omega,λt ht=>?_⟩
   have hbt:b≠t:=FT hH ht;refine⟨b,C,φ,c,t,rfl,hc,by rw[Bw hbt];exact hH,hφ,EM,p2 _ _ (FS ht _) ?_⟩
   exact congrArg V.bl (tH up c fs cs).symm⟩
end
theorem WD(q:DN K C v=Ab):∃ dd cd sl bm,K.lookup C=Aa ⟨.type "type",dd,.cls cd,sl⟩/\cd.mro=.ref C::bm:=by
 unfold DN at q;split at q
 .rename_i dd cd sl ho;split at q
  .rename_i C' bm k0 k1 k2 k3 n k5 hm hs;simp only[Ak,AQ,Bu]at q;obtain⟨rfl,_⟩:=q;exact⟨dd,cd,sl,bm,ho,hm⟩
  .cases q
 .cases q
theorem NX(q:DN K C v=Ab):∃ cd bm,DD K C=Aa cd/\cd.mro=.ref C::bm:=by
 obtain⟨dd,cd,sl,bm,h1,h2⟩:=WD q;exact⟨cd,bm,by unfold DD;rw[h1],h2⟩
theorem xX(q:DN K C v=Ab):DK K (.ref C)=Aa (.type "type"):=by
 obtain⟨dd,cd,sl,bm,h1,h2⟩:=WD q;show (K.lookup C).map _=_;rw[h1];rfl
theorem pA{v:Ai}{i i':Ao Aj}(q:DN K C i=Ab)(q':DN K C' i'=Ab)(su:BQ K (.ref C) (.ref C')=Aa v):CS K (.ref C) (.ref C')=Aa v:=by
 unfold CS;by_cases e:C=C'
 .subst e;obtain⟨cd,bm,h1,h2⟩:=NX q;have su':CO K C (.ref C)=Aa v:=su;have:v=Ab:=by
   unfold CO at su';rw[h1,YW,h2,AC (by simp)]at su'
   rw[<-Bj su'];simp
  rw[Ax (by simp),this]
 .rw[AC (λz=>e (Jt (AQ.mp z)))]
  obtain⟨cd,bm,h1,h2⟩:=NX q';show (if ((DD K C').isSome&&DK K (.ref C')==Aa (.type "type"))=Ab then BQ K (.ref C) (.ref C') else Ae)=_
  rw[h1,xX q',Ax (by simp),su]
theorem yZ(exc:DN K C v=Ab)(ga:AM K (.ref C) "__getattribute__" = Aa (Aa (.builtin "BaseException.__getattribute__")))(gt:AM K (.ref C) "__getattr__" = Aa Ae)(cl:AM K (.ref C) "__class__" = Aa (Aa (.builtin "object.__class__")))(ob:CO K C (.type "object")=Aa Ab)(be:BQ K (.ref C) (.type "BaseException")=Aa Ab)(sv:BQ K (.ref C) (.type "ValueError")=Aa Ab):XcOk K C:=by
 obtain⟨cd,bm,h1,h2⟩:=NX exc;refine⟨⟨v,exc⟩,ga,gt,cl,ob,be,by rw[h1];rfl,?_⟩
 unfold CS;rw[AC (λz=>by cases AQ.mp z)]
 have hm:aO "ValueError" = Ab:=by decide+kernel
 show (if aO "ValueError" = Ab then BQ K (.ref C) (.type "ValueError") else Ae)=_
 rw[Ax hm,sv]
noncomputable abbrev Jq:CXT:=λ_ _ _ _ _ _=>AV
structure HotOk (P:AK) (w:AZ) (K:Fg) (mg:Ah->Ao Aj) (base:AD) (k:Ag) (f:Al) (fd:BM) (ps:Ac Ah) (sp:Sp):Prop where
 len:∀ vs H Q E,sp vs H Q E->vs.length=ps.length
 run:∀(A:AX)(ev:Al)(outer:Ac B8)(s:Ap)(H:Hp)(args:Args)(us:Ac Aj)(vs:Ac V)(Q:VK)(E:XK),Room k A->Env0 P w K mg base (A.mark (Aa (.ref ev))) outer s H->Gn s fd args (ps.zip us)->A8 vs us->sp vs H Q E ->
  E9 (model P w) (A.mark (Aa (.ref ev))) (.call (.ref f) args) (CR Jq outer P w H s Q E) s
theorem vK{mg:Ah->Ao Aj}{base:AD}{f:Al}{params:Mm}{dV kV doc pm cdv ct oc:Aj}{N ps:Ac Ah}(lk:K.lookup f=Aa ⟨oc,od,.func (Co name qual params body scope dV kV doc pm an cdv ct),osl⟩)(hcd:D8 K cdv qual=Ab)(S:FnScope N ps scope)(len:∀ vs H Q E,sp vs H Q E->vs.length=ps.length)(hbody:∀(A:AX)(ev:Al)(outer:Ac B8)(s:Ap)(H:Hp)(vs:Ac V)(Q:VK)(E:XK),Room k (A.deeper (EG qual scope s.heap.objs.size f cdv))->sp vs H Q E ->
   ∃ t,PSs (Cx.hot (EO Jq P w K mg base N qual scope f cdv A outer s H E) ev) body t/\t {nx:=λ_ H'=>Q .non H',rt:=Q} (start N vs) H):HotOk P w K mg base (k+1) f (Co name qual params body scope dV kV doc pm an cdv ct) ps sp:=by
 refine⟨len,λA ev outer s H args us vs Q E hr e0 hb r hsp=>?_⟩
 have hl:=len _ _ _ _ hsp;have e1:Env0 P w K mg base A outer s H:=⟨e0.frames,e0.mod,e0.bs,e0.bsz,e0.funs,e0.frf,e0.hok,e0.bare⟩;have KX:K.In s.heap:=e0.mod.kin.keeps λb o e=>(e0.bs b o e).1
 have lim:s.heap.NoLimit:=e0.mod.nolimit.keeps λb o e=>(e0.bs b o e).1
 have hkind:∀ y∈ps.zip us,scope.names.lookup y.1=Aa .local\/(scope.names.lookup y.1=Aa .cell/\((CM (s.heap.objs.size+1) scope.names []).lookup y.1).isSome=Ab):=λ⟨n,v⟩ hy=>by
  rcases S.par n (Gr hy).1 with q|q
  .exact .inl q
  .exact .inr ⟨q,F3 _ _ _ (.inl q)⟩
 have hdp:(A.mark (Aa (.ref ev))).depth<GO:=hr.depth;refine Go hdp (KX _ _ lk) rfl S.co S.gen rfl (G8 KX hcd) (hb _ _ _ _ ?_);refine E7 S.kind hkind λenv he s1 x=>?_
 subst he;refine⟨lim.keeps x.toInCall.keep,JE ?_⟩;obtain⟨t,ht,hq⟩:=hbody A ev outer s H vs Q E (hr.deeper _) hsp;have I:Inv (EO Jq P w K mg base N qual scope f cdv A outer s H E) [] (start N vs) H s1:=Qc S hr.hd e1 hl r x;refine Bg (ht [] s1 (start N vs) H _ (QG I ev) hq) (λfl s' hs=>?_) λe s' hs=>hs.elim
 have fin:∀{Y':L2.St}{H':Hp}{v:V}{u:Aj},Inv (Cx.hot (EO Jq P w K mg base N qual scope f cdv A outer s H E) ev) [] Y' H' s'->BB v u->Q v H'->CE outer P w H s Q u s':=
  λ{Y' H' v u} J rv q=>⟨v,H',J.os,J.bare,J.base,J.hok,rv,q⟩
 cases fl with
 |ret u=>
  obtain⟨v,Y',H',J,rv,q⟩:=hs;exact fin J rv q
 |next=>
  obtain⟨Y',H',J,q⟩:=hs;exact fin (v:=V.non) (u:=Di) J rfl q
 |brk=>
  obtain⟨_,_,_,q⟩:=hs;exact Bc q
 |cont=>
  obtain⟨_,_,_,q⟩:=hs;exact Bc q
theorem kP{v:Ai}{i:Ao Aj}(q:DN K C i=Ab)(mr:CO K C' (.type "object")=Aa Ab)(ty:DK K (.ref C')=Aa (.type "type"))(su:BQ K (.ref C) (.ref C')=Aa v):CS K (.ref C) (.ref C')=Aa v:=by
 unfold CS;by_cases e:C=C'
 .subst e;obtain⟨cd,bm,h1,h2⟩:=NX q;have su':CO K C (.ref C)=Aa v:=su;have:v=Ab:=by
   unfold CO at su';rw[h1,YW,h2,AC (by simp)]at su'
   rw[<-Bj su'];simp
  rw[Ax (by simp),this]
 .rw[AC (λz=>e (Jt (AQ.mp z)))]
  show (if ((DD K C').isSome&&DK K (.ref C')==Aa (.type "type"))=Ab then BQ K (.ref C) (.ref C') else Ae)=_
  have cs:(DD K C').isSome=Ab:=by
   unfold CO at mr;cases e1:DD K C' with
   |none=>rw[e1]at mr;cases mr
   |some cd=>rfl
  rw[cs,ty,Ax (by simp),su]
def spH(K:Fg)(CL:ClA)(n:Ag)(fr:Ai)(F:Ac D->R D):Sp:=λvs H Q _=>∃(ds:Ac D)(A:Al->Prop),vs.length=n/\AOk H A/\Reps K CL H A vs ds/\(match F ds with
  |.ok d=>∀ v H',AE H H'->DB K CL fr H A H' v d->Q v H'
  |.exn _=>AV
  | .bad=>AV)
section
variable{X:Cx}{CL:ClA}{ev:Al}
theorem UM{f:Al}{E:XK}{e:Am}{es:Ac Am}{t:TA}(F:HotOk X.prog X.w X.K X.mg X.base k f fd ps sp)(hr:Room k X.A)(hg:Gl X x)(hm:X.mg x=Aa (.ref f))(hk:B2 X.K (.ref f)=Ab)(hb:FV X.K fd ps [])(ha:PA (Cx.hot X ev) (e::es) t)(hdb:(x==("__debug__" : Ah))=Ad)(he:As (e::es) X.env=(Ad,eval e X.env)::As es X.env)(hpl:(BP pos (As es X.env)).any (·.1)=Ad):PE (Cx.hot X ev) (.Call (.Name x p) (e::es) [] pos) (λY H Q=>t Y H λvs H1=>sp vs H1 Q E):=by
 intro pI s Y H Q I h;refine Eu (JO (X:=Cx.hot X ev) I hg hm ?_ hdb);refine G7 (h₀:=X.base) I.ok.mod.kin hk (thn (ha pos pI s Y H _ I h) λus s1 ⟨vs,H1,I1,r,q⟩=>⟨I1.kIn,?_⟩) he hpl
 have hl:us.length=ps.length:=by rw[<-r.length];exact F.len _ _ _ _ q
 have hb':Gn s1 fd ⟨us,[]⟩ (ps.zip us):=by
  have:=hb s1 us I1.kIn (by rw[Cq];exact hl)
  rw[Cq]at this;exact this
 refine FL (Eh (F.run X.A ev X.stack s1 H1 ⟨us,[]⟩ us vs Q E hr I1.env0 hb' r q) λr s' hq=>?_)
 cases r with
 |error e=>exact Bc hq
 |ok fl=>
  cases fl with
  |ret u=>exact I1.after hq
  |next=>exact Bc hq
  |brk=>exact Bc hq
  |cont=>exact Bc hq
theorem jO{k n:Ag}{f:Al}{e:Am}{es:Ac Am}{fs ft:Rho->R (Ac D)}{sh:Rho->Ai}(G:HotOk X.prog X.w X.K X.mg X.base k f fd ps (spH X.K CL n fr F))(hr:Room k X.A)(hg:Gl X x)(hm:X.mg x=Aa (.ref f))(hk:B2 X.K (.ref f)=Ab)(hb:FV X.K fd ps [])(ha:SA (Cx.hot X ev) CL (λ_ _=>AV) (e::es) fs)(hat:SAT (Cx.hot X ev) CL (λ_ _=>AV) (e::es) ft)(hst:∀ U,sh U=Ab->ft U=fs U)(hn:∀ U ds,ft U=.ok ds->ds.length=n)(hdb:(x==("__debug__" : Ah))=Ad)(he:As (e::es) X.env=(Ad,eval e X.env)::As es X.env)(hpl:∀ pos,(BP pos (As es X.env)).any (·.1)=Ad):SC (Cx.hot X ev) CL (λ_ _=>AV) fr (.Call (.Name x p) (e::es) [] pos) (λU=>(ft U).bind λds=>(F ds).bind λd=>if sh U=Ab then .ok d else if FZ fr d=Ab then .ok d else .bad):=λA pI s Y H Q I ⟨hA,U,gd,q⟩=>by
 dsimp only at q;by_cases hs:sh U=Ab
 .rw[hst U hs]at q;refine UM (E:=λ_ _ _=>AV) G hr hg hm hk hb (ha A) hdb he (hpl _) pI s Y H Q I ⟨hA,U,gd,?_⟩
  cases e1:fs U with
  |bad=>rw[e1]at q;exact q
  |exn y=>rw[e1]at q;exact q
  |ok ds=>
   rw[e1]at q;intro vs H1 s1 r1;refine⟨ds,A,by rw[r1.length];exact hn U ds (by rw[hst U hs];exact e1),hA.same s1,r1,?_⟩
   have q':Bb (DB X.K CL fr H A) (λ_ _=>AV) H ((F ds).bind λd=>if sh U=Ab then .ok d else if FZ fr d=Ab then .ok d else .bad) Q:=q
   cases e2:F ds with
   |ok d=>
    rw[e2,R.bind_ok,Ax hs]at q';exact λv H2 s2 r2=>q' v H2 (s1.trans s2) ⟨r2.1,λz ds' e'=>let ⟨a,xs,z1,z2,z3⟩:=r2.2 z ds' e';⟨a,xs,z1,s1.free z2,z3⟩⟩
   |exn y=>rw[e2]at q';exact(q' H (AE.refl H)).elim
   |bad=>rw[e2]at q';exact q'.elim
 .refine UM (E:=λ_ _ _=>AV) G hr hg hm hk hb (hat A) hdb he (hpl _) pI s Y H Q I ⟨hA,U,gd,?_⟩
  cases e1:ft U with
  |bad=>rw[e1]at q;exact q
  |exn y=>rw[e1]at q;exact q
  |ok ds=>
   rw[e1]at q;intro vs H1 s1 r1;refine⟨ds,A0,by rw[r1.plain.length];exact hn U ds e1,λ_ z=>z.elim,r1.plain,?_⟩
   have q':Bb (DB X.K CL fr H A) (λ_ _=>AV) H ((F ds).bind λd=>if sh U=Ab then .ok d else if FZ fr d=Ab then .ok d else .bad) Q:=q
   cases e2:F ds with
   |ok d=>
    rw[e2,R.bind_ok,AC hs]at q';split at q'
    .rename_i hc;exact λv H2 s2 r2=>q' v H2 (s1.trans s2) (Rn hA (s1.trans s2) hc ⟨r2.1,λz ds' e'=>let ⟨a,xs,z1,z2,z3⟩:=r2.2 z ds' e';⟨a,xs,z1,s1.free z2,z3⟩⟩)
    .exact q'.elim
   |exn y=>rw[e2]at q';exact(q' H (AE.refl H)).elim
   |bad=>rw[e2]at q';exact q'.elim
theorem mL{t:Am}{xs ys:Ac AO}{fc:Rho->R Ai}{fx fy:Rho->O}(hc:∀ pI Xw,FH (model X.prog X.w) X.A X.env Xw->SB (Cx.pw X pI Xw) CL (λ_ _=>AV) t fc)(hnx:∀ U y,fc U≠.exn y)(hx:STB X CL xs fx)(hy:STB X CL ys fy):STB X CL [.If t xs ys pos] (λU=>O.of U (fc U) λb=>if b=Ab then fx U else fy U):=by
  intro Fz B pI s Y H D U Xw own I sx q hρ;dsimp only at q hρ;cases ec:fc U with
  |bad=>rw[ec]at q;exact q.elim
  |exn y=>exact absurd ec (hnx U y)
  |ok b=>
    rw[ec]at q hρ;have key:=hc pI Xw own (BG B U Y) [] s Y H (λb' H'=>b'=b/\AE H H') (MY I Xw) ⟨sx.aok,U,sx.good,by rw[ec];exact λH' sm=>⟨rfl,sm⟩⟩
    refine HL (thn (wpAny_If (Q:=SP X pI D) (thn key λb' s1 ⟨H1,I1,e,sm⟩=>?_)) (λf s1 z=>by
      cases f with
      |next=>exact Fw z
      |ret v=>exact z
      |brk=>exact z
      | cont=>exact z))
    subst e;have J:=Ls I.ok I1;have up:∀{y:Ex},KO X CL pI Y H y Xw->KO X CL pI Y H1 y Xw:=λ{y} w s' H' e T cls dx a1 a2=>w s' H' e T cls dx a1 (sm.trans a2)
    have lift:∀{o:O},(match o with
       |.exn y U'=>U'=U->KO X CL pI Y H y Xw
       |o=>BS X.K CL Fz B (λ_ _=>AV) o D)->(match o with
       |.exn y U'=>U'=U->KO X CL pI Y H1 y Xw
       | o=>BS X.K CL Fz B (λ_ _=>AV) o D):=λ{o} z=>by
      cases o with
      |exn y U'=>exact λe=>up (z e)
      |next _=>exact z
      |ret _ _=>exact z
      |brk _=>exact z
      |cont _=>exact z
      |bad=>exact z
    cases b' with
    |true=>exact hx Fz B pI s1 Y H1 D U Xw own J (sx.grow sm) (lift q) hρ
    |false=>exact hy Fz B pI s1 Y H1 D U Xw own J (sx.grow sm) (lift q) hρ
end
section
variable{M:G2}{A:AX}{E:Vq}{s:Ap}{env:B8}{nm q:Ah}{C N:Al}{bs bm bmB:Ac Aj}{hdct:Ai}{sn:Ac Ah}{sub:Ac Aj}{ab:Ai}{col:Ao Ai}{dd:Ao Al}{k0 k1 k2 k3 k5:Ao Aj}{B newId initId:Da}
theorem lV{x:GN Aj}{Q:Flow->Ap->Prop}(hb:bm.contains (.type "BaseException")=Ab)(hh:A.handled=Ae)(h:Au M A x (λv s'=>∃ e t dx,v=.ref e/\s'.heap.get? C=Aa (Cd nm q C N bs bm hdct sn sub ab col dd k0 k1 k2 k3 k5 newId)/\s'.heap.get? e=Aa (Gf C dx t)/\E (.ref e) s') E s):Au M A (raiseStmt env (Aa x) Ae) Q E s:=by
 have hB:(Cf C::bm).contains (.type "BaseException")=Ab:=by rw[G4,hb,HE]
 unfold raiseStmt;refine An (Bg h (λv s' z=>?_) λ_ _ z=>z)
 obtain⟨e,t,dx,rfl,gC,ge,hE⟩:=z;obtain⟨hp,g,d,tk,os⟩:=s';unfold Gf at ge
 repeat (first|(with_reducible refine B6 ge ?_)|(with_reducible refine B6 gC ?_)|(with_reducible refine Ff gC ?_;rw[hB])|wp_step)
 exact wpAny_raiseNew_none hh hE
end
section
variable{prog:AK}{w:AZ}{A:AX}{E:Vq}{h:AD}{g:Ba Ey}{d:Ie}{t:Ag}{os:Hy}
variable{nm q:Ah}{C N fI:Al}{bs bm bmB:Ac Aj}{hdct:Ai}{sn:Ac Ah}{sub:Ac Aj}{ab:Ai}{col:Ao Ai}{dd:Ao Al}{k0 k1 k2 k3 k5:Ao Aj}{B newId initId:Da}{mN:Ah->Ao Aj}{rest:Ac Aj}{oI:CU}
theorem nG{Q:Fin->Ap->Prop}(F:HI B newId initId bmB)(T:D7 h bmB bm)(gC:h.get? C=Aa (Cd nm q C N bs bm hdct sn sub ab col dd k0 k1 k2 k3 k5 newId))(hn:h.Ns N mN)(hi:mN "__init__" = Aa (.ref fI))(gI:h.get? fI=Aa oI)(cI:oI.cls=.type "function")(hl:rest.length<=sizeLine)(hq:∀ h' e,IG h h' e (.ref C) rest->Au (model prog w) A (call (.ref fI) (.ref e::rest)) (λr s'=>r=.none/\Q (.done (.ret (.ref e))) s') E ⟨h',g,d,t,os⟩):Au (model prog w) A (Builtin.«type.__call__» ⟨.ref C::rest,[]⟩) Q E ⟨h,g,d,t,os⟩:=by
 repeat (first|(with_reducible refine B6 gC ?_)|(with_reducible refine wpAny_madeBy_exc gC ?_)|wp_step)
 refine codeAny_call_builtin_code (FD _ F.quiet) (wpAny_check_new_subT F T gC (codeAny_exc_new_subT F T gC ?_ hl));show Au _ _ _ _ _ _;have kp:∀ b o,h.get? b=Aa o->((h.push { cls:=.type "tuple",data:=.seq rest.toArray }).push {cls:=.ref C,data:=.fields #[.ref h.objs.size,.none,.none,.none,.bool Ad,.none]}).get? b=Aa o:=λb o z=>Ar _ (Ar _ z)
 have ge:((h.push { cls:=.type "tuple",data:=.seq rest.toArray }).push {cls:=.ref C,data:=.fields #[.ref h.objs.size,.none,.none,.none,.bool Ad,.none]}).get? (h.objs.size+1)=Aa {cls:=.ref C,data:=.fields #[.ref h.objs.size,.none,.none,.none,.bool Ad,.none]}:=by heap_get
 have gt:((h.push { cls:=.type "tuple",data:=.seq rest.toArray }).push {cls:=.ref C,data:=.fields #[.ref h.objs.size,.none,.none,.none,.bool Ad,.none]}).get? h.objs.size=Aa { cls:=.type "tuple",data:=.seq rest.toArray }:=Ar _ (ZS rfl rfl);generalize (h.push { cls:=.type "tuple",data:=.seq rest.toArray }).push {cls:=.ref C,data:=.fields #[.ref h.objs.size,.none,.none,.none,.bool Ad,.none]}=h2 at *;have gC2:=kp _ _ gC;have gI2:=kp _ _ gI;have hn2:h2.Ns N mN:=let ⟨o,es,ep,z,r⟩:=hn;⟨o,es,ep,kp _ _ z,r⟩
 have T2:=T.keeps (h':=h2) kp;have cC:(Cf C::bm).contains (.ref C)=Ab:=by simp
 unfold IT
 repeat (first|(with_reducible refine B6 ge ?_)|(with_reducible refine Ff gC2 ?_;rw[cC])|wp_step)
 show Au _ _ (typeLookup (.ref C) _) _ _ _;refine wpAny_typeLookup_tail gC2 hn2 T2 F.mroIs F.init.lookup ?_;rw[hi];refine BZ (An ?_);unfold bindSpecial;refine An (wpAny_typeOf (T := "function") ⟨_,gI2,cI⟩ ?_);rw[Ax (by decide)]
 refine Az (An (Bg (hq h2 (h.objs.size+1) ⟨kp,Dx (G1 _),h.objs.size,ge,Dx (AU _),gt⟩) (λr s' z=>?_) λ_ _ z=>z))
 obtain⟨rfl,z⟩:=z
 wp_walk
 exact z
theorem nI{Q:Vq}(F:HI B newId initId bmB)(T:D7 h bmB bm)(gC:h.get? C=Aa (Cd nm q C N bs bm hdct sn sub ab col dd k0 k1 k2 k3 k5 newId))(hn:h.Ns N mN)(hi:mN "__init__" = Aa (.ref fI))(gI:h.get? fI=Aa oI)(cI:oI.cls=.type "function")(hl:rest.length<=sizeLine)(hq:∀ h' e,IG h h' e (.ref C) rest->Au (model prog w) (A.under (.builtin "type.__call__" ⟨.ref C::rest,[]⟩)) (call (.ref fI) (.ref e::rest)) (λr s'=>r=.none/\Q (.ref e) s') E ⟨h',g,d,t,os⟩):Au (model prog w) A (call (.ref C) rest) Q E ⟨h,g,d,t,os⟩:=by
 have l1:=tc_lookup;have l2:=tc_bind (.ref C);have ty:(⟨h,g,d,t,os⟩:Ap).TypeIs (.ref C) "type" := ⟨_,gC,rfl⟩;refine FL (aV ?_);show Au _ _ (callAny (.ref C) _) _ _ _
 repeat (any_goals (first|assumption|(with_reducible refine B6 gC ?_)|wp_step))
 refine⟨rfl,codeAny_call_builtin_at (FD _ (by decide+kernel)) entry_typeCall (wpAny_check_type_call_sub gC (nG F T gC hn hi gI cI hl λh' e m=>?_))⟩
 exact hq h' e m
end
section
variable{prog:AK}{w:AZ}{A:AX}{E:Vq}{s:Ap}{env:B8}
variable{nm q:Ah}{C N fI:Al}{bs bm bmB:Ac Aj}{hdct:Ai}{sn:Ac Ah}{sub:Ac Aj}{ab:Ai}{col:Ao Ai}{dd:Ao Al}{k0 k1 k2 k3 k5:Ao Aj}{B newId initId:Da}{mN:Ah->Ao Aj}
theorem kD{Q:Flow->Ap->Prop}{args:Ac Am}(F:HI B newId initId bmB)(hb:bm.contains (.type "BaseException")=Ab)(hh:A.handled=Ae)(hp:(BP cpos (As args env)).any (·.1)=Ad)(hi:mN "__init__" = Aa (.ref fI))(h:Au (model prog w) A (eval (.Name x np) env) (λf s1=>f=.ref C/\Au (model prog w) A (evalArgs (.ref C) Ab (BP cpos (As args env)) [])
   (λa s2=>a.kw=[]/\a.pos.length<=sizeLine/\s2.heap.get? C=Aa (Cd nm q C N bs bm hdct sn sub ab col dd k0 k1 k2 k3 k5 newId)/\s2.heap.Ns N mN/\D7 s2.heap bmB bm/\(∃ oI,s2.heap.get? fI=Aa oI/\oI.cls=.type "function") /\
    ∀ h' e,IG s2.heap h' e (.ref C) a.pos->Au (model prog w) (A.under (.builtin "type.__call__" ⟨.ref C::a.pos,[]⟩)) (call (.ref fI) (.ref e::a.pos)) (λr s'=>r=.none/\∃ t dx,s'.heap.get? C=Aa (Cd nm q C N bs bm hdct sn sub ab col dd k0 k1 k2 k3 k5 newId)/\s'.heap.get? e=Aa (Gf C dx t)/\E (.ref e) s') E {s2 with heap:=h'}) E s1) E s):Au (model prog w) A (exec (.Raise (Aa (.Call (.Name x np) args [] cpos)) Ae pos) env) Q E s:=by
 rw[arm_exec_Raise]
 try simp only[evalOpt,YZ]
 refine An (DX (lV (nm:=nm) (q:=q) (C:=C) (N:=N) (bs:=bs) (bm:=bm) (hdct:=hdct) (sn:=sn) (sub:=sub) (ab:=ab) (col:=col) (dd:=dd) (k0:=k0) (k1:=k1) (k2:=k2) (k3:=k3) (k5:=k5) (newId:=newId) hb hh ?_));refine An (Bg (wpAny_Call_ofName (Bg h (λf s1 z=>?_) λ_ _ z=>z)) (λv s3 z=>An (DX (Az z))) λ_ _ z=>z)
 obtain⟨rfl,z⟩:=z;unfold callWith;refine An (BZ (Bg z (λa s2 y=>An (DX ?_)) λ_ _ y=>y))
 obtain⟨us,kw⟩:=a;obtain⟨hk,hl,gC,hn,T,⟨oI,gI,cI⟩,k⟩:=y;obtain rfl:kw=[]:=hk;obtain⟨hp2,g,d,tk,os⟩:=s2;simp only[hp];refine An (wpAny_keeperOf_exc gC (An (nI F T gC hn hi gI cI hl λh' e m=>Bg (k h' e m) (λr s' y=>?_) λ_ _ y=>y)))
 obtain⟨rfl,t,dx,c1,c2,c3⟩:=y;exact⟨rfl,An (BZ (wpAny_point (Az ⟨e,t,dx,rfl,c1,c2,c3⟩)))⟩
end
section
variable{prog:AK}{w:AZ}{A:AX}{E:Vq}{h:AD}{g:Ba Ey}{d:Ie}{tk0:Ag}{os:Hy}
variable{nm q:Ah}{C N e t:Al}{dx:Ao Al}{bs bm bmB:Ac Aj}{hdct:Ai}{sn:Ac Ah}{sub:Ac Aj}{ab:Ai}{col:Ao Ai}{dd:Ao Al}{k0 k1 k2 k3 k5:Ao Aj}{B newId initId:Da}
theorem sW{Q:Vq}(F:HI B newId initId bmB)(T:D7 h bmB bm)(gC:h.get? C=Aa (Cd nm q C N bs bm hdct sn sub ab col dd k0 k1 k2 k3 k5 newId))(ge:h.get? e=Aa (Gf C dx t))(hq:∀ h' t',(∀ b o,b≠e->h.get? b=Aa o->h'.get? b=Aa o)->h'.get? e=Aa (Gf C dx t')->Q .none ⟨h',g,d,tk0,os⟩):Au (model prog w) A (call (.builtin initId) [.ref e,.str z tk]) Q E ⟨h,g,d,tk0,os⟩:=by
 refine FL (Dy F.init.plain F.initEntry (wpAny_check_init_subT F T gC ge rfl ?_));unfold Gf at ge
 wp_walk
 refine hq _ h.objs.size (λb o nb z=>(CB _ _ (CP nb)).trans (Ar _ z)) ?_
 rw[Cn _ (Ar _ ge) rfl];rfl
end
noncomputable def xbd:Ag->Ag
 |0=>4
 |n+1=>8*xbd n+19
theorem oG:∀ n:Fin 100,(AY (toString ((n.val:Ag):Af))).length<=4:=by decide+kernel
theorem WT{α:Type}(f:α->Ag){m:Ag}:∀ l:Ac α,(∀ x∈l,f x<=m)->(l.map f).sum<=l.length*m
 |[],_=>by simp
 |x::l,h=>by
  have h1:=h x Ay;have h2:=WT f l λy hy=>h y (Aw _ hy)
  rw[Cj,List.sum_cons,Bm,Nat.succ_mul];omega
section
variable{X:Cx}{CL:ClA}{pI:Pn}{Y:L2.St}{H:Hp}{s:Ap}
structure Shw (h:AD) (n:Ag) (u:Aj) (pd:KY):Prop where
 rd:Reads h u pd []
 sh:pd.showable=Ab
 nd:pd.hasDict=Ad
 dp:pd.depth<=n
 ln:pd.shown.length<=xbd n
inductive ShwA (h:AD) (n:Ag):Ac Aj->Ac KY->Prop where
 |nil:ShwA h n [] []
 |cons {u:Aj} {pd:KY} {us:Ac Aj} {pds:Ac KY}:Shw h n u pd->ShwA h n us pds->ShwA h n (u::us) (pd::pds)
theorem Vt{h:AD}{n:Ag}:∀{us:Ac Aj}{pds:Ac KY},ShwA h n us pds->ReadsAll h us pds []/\Z_0 pds=Ab/\ZZ pds=Ad/\Ig pds<=n/\(∀ t∈DT pds,t.length<=xbd n)/\(DT pds).length=us.length
 |[],[],_=>⟨.nil,rfl,rfl,E8 _,(λ_ h=>nomatch h),rfl⟩
 |u::us,pd::pds,.cons h1 h2=>by
  obtain⟨a,b,c,d,e,f⟩:=Vt h2;refine⟨.cons h1.rd a,?_,?_,?_,?_,?_⟩
  .show (pd.showable&&Z_0 pds)=Ab;rw[h1.sh,b];rfl
  .show (pd.hasDict||ZZ pds)=Ad;rw[h1.nd,c];rfl
  .show max pd.depth (Ig pds)<=n;exact Nat.max_le.mpr ⟨h1.dp,d⟩
  .intro t ht;rcases Av.mp ht with rfl|ht
   .exact h1.ln
   .exact e t ht
  .show (DT pds).length+1=us.length+1;rw[f]
theorem zA(I:Inv X pI Y H s):∀(n:Ag){d:D}{v:V}{u:Aj},xfD n d=Ab->Rep X.K CL H A v d->BB v u->∃ pd,Shw s.heap n u pd:=by
 intro n
 induction n with
 |zero=>
  intro d v u hx r rv;cases d with
  |int i=>
   have e:v=.int i:=r;subst e;obtain⟨t,rfl⟩:=rv;simp only[xfD,Ak,AW]at hx;refine⟨.int i,.int i t,?_,rfl,AU _,?_⟩
   .show decide (i.natAbs.log2<1920)=Ab;refine A9 (FC (Nat.log2_le_self _) (by omega))
   .have:=oG ⟨i.toNat,by omega⟩
    rw[show ((i.toNat:Ag):Af)=i by omega]at this
    exact this
  |_=>exact absurd (show Ad=Ab from hx) AF
 |succ n ih0=>
  intro d v u hx r rv;cases d with
  |tup ds=>
   obtain⟨a,xs,rfl,_,sq,rs⟩:=r;cases rv;obtain⟨its,vs,⟨o,ho,hc,m,hd⟩,hz⟩:=I.tuple sq;simp only[xfD,Ak,D9]at hx;have key:∀{xs:Ac V}{ds:Ac D}{its:Ac Aj},(∀ d∈ds,xfD n d=Ab)->Reps X.K CL H A xs ds->A8 xs its->∃ pds,ShwA s.heap n its pds:=λ{xs}=>by
    induction xs with
    |nil=>
     intro ds its _ rs vs;cases vs;exact⟨[],.nil⟩
    |cons x xs ih=>
     intro ds its hd rs vs;cases ds with
     |nil=>exact rs.elim
     |cons d ds=>
      cases vs with
      |cons v1 v2=>
       obtain⟨pd,h1⟩:=ih0 (hd d Ay) rs.1 v1;obtain⟨pds,h2⟩:=ih (λe he=>hd e (Aw _ he)) rs.2 v2
       exact⟨pd::pds,.cons h1 h2⟩
   obtain⟨pds,hf⟩:=key hx.2 rs vs;obtain⟨p1,p2,p3,p4,p5,p6⟩:=Vt hf;have l8:its.length<=8:=by
    have h8:=Nat.ble_eq.mp hx.1;rw[<-vs.length,rs.length];exact h8
   refine⟨.tuple pds,.tuple ho hc hd (by simpa using p1),p2,p3,?_,?_⟩
   .show Ig pds+1<=n+1;omega
   .show (tupleText (DT pds)).length<=8*xbd n+19;have h1:=tupleText_len_le (DT pds);have h2:=WT (λt:Ah=>t.length) (DT pds) p5
    have h3:(DT pds).length*xbd n<=8*xbd n:=Nat.mul_le_mul_right _ (by omega)
    omega
  |_=>exact absurd (show Ad=Ab from hx) AF
end
section
variable{X:Cx}{CL:ClA}
def tFs(K:Fg)(CL:ClA)(i:Ag):TE:=λY H Q=>∃ v d A n,Y[i]?=Aa (Aa v)/\Rep K CL H A v d/\xfD (n+1) d=Ab/\n<=1/\∀ t:Ah,Q (.str t) H
theorem pU{e:Am}{i:Ag}{p2 p3:AG}(hu:X.A.units+64<BW)(hg:X.A.guards=Aa [])(hz:z.length<=1000)(he:PE X e (EB i)):PE X (.JoinedStr [.FormattedValue e (-1) Ae p1,.Constant (.str z) k p2] p3) (tFs X.K CL i):=by
 intro pI s Y H Q I ⟨v,d,A,n,hv,r,hx,hn,q⟩;refine wpAny_JoinedStr ?_;show Au (model X.prog X.w) X.A (eval (.FormattedValue e (-1) Ae p1) X.env) (λv s1=>∃ y t,v=.str y t/\(JC++y).length<=sizeLine/\Joins (model X.prog X.w) X.A X.xe [eval (.Constant (.str z) k p2) X.env] (JC++y) _ s1) X.xe s
 refine wpAny_FormattedValue_plain (thn (he pI s Y H (λx H1=>x=v/\H1=H) I ⟨v,hv,rfl,rfl⟩) λu s1 ⟨x,H1,I1,r1,e1,e2⟩=>?_)
 subst e1 e2;have zl:sizeLine ≥ 2000:=by decide
 obtain⟨pd,sw⟩:=zA I1 (n+1) hx r r1;cases d with
 |tup ds=>
  obtain⟨a,xs,rfl,_,sq,rs⟩:=r;cases r1;have xb:xbd (n+1)<=500:=by
   have:n=0\/n=1:=by omega
   rcases this with rfl|rfl<;>decide
  have ln:=sw.ln;have dp:=sw.dp;refine formatField_of_reads sw.rd sw.sh (λz=>by rw[sw.nd]at z;cases z) hg (by omega) (λ_ _ z=>z) (λh' tk1 tk2 kp=>?_) (by omega)
  have l0:(JC++pd.shown).length<=500:=by
   rw[strLen_append];have:Str.empty.length=0:=rfl;omega
  refine⟨pd.shown,tk1,rfl,by omega,?_⟩
  have I2:Inv X pI Y H1 {s1 with heap:=h',toks:=tk2}:=I1.kept kp
  show Au (model X.prog X.w) X.A (eval (.Constant (.str z) k p2) X.env) _ X.xe {s1 with heap:=h',toks:=tk2}
  refine thn (Wr (X:=X) pI _ Y H1 (λx H2=>x=.str z/\H2=H1) I2 ⟨rfl,rfl⟩) λu2 s2 ⟨x2,H2,I3,r3,e3,e4⟩=>?_
  subst e3 e4;obtain⟨t3,rfl⟩:=r3;have l1:(JC++pd.shown++z).length<=sizeLine:=by
   rw[strLen_append];omega
  exact⟨z,t3,rfl,l1,l1,⟨.str _,H2,I3.tok _,⟨_,rfl⟩,q _⟩⟩
 |_=>cases hx
end
def XEx(e C:Al)(dx:Ao Al)(t:Al):AD->Prop:=λh=>h.get? e=Aa (Gf C dx t)
theorem Q9{e C:Al}{t:Al}:∀ h1 h2:AD,XEx e C dx t h1->(∀ o,h1.get? e=Aa o->h2.get? e=Aa o)->XEx e C dx t h2:=λ_ _ p k=>k _ p
section
variable{X:Cx}{CL:ClA}{C:Al}{nm q:Ah}{N:Al}{bs bm:Ac Aj}{hdct:Ai}{sn:Ac Ah}{sub:Ac Aj}{ab:Ai}{col:Ao Ai}{dd:Ao Al}{k0 k1 k2 k3 k5:Ao Aj}
theorem iX{apos:AG}{es ej:Am}{i j:Ag}(hob:∀ h:AD,X.K.In h->h.get? C=Aa (Cd nm q C N bs bm hdct sn sub ab col dd k0 k1 k2 k3 k5 "ValueError.__new__")/\D7 h veB bm)(hg:Gl X g)(hm:X.mg g=Aa (.ref OV))(hdb:(g==("__debug__" : Ah))=Ad)(s1:ED X.K (.ref OV) "__getattribute__" = Aa (Aa (.builtin "type.__getattribute__")))(s2:Fv X.K OV (.type "type")=Ab)(s3:Fu X.K (.ref OV) (.type "type") "__init__" = Aa (.val (.builtin "ValueError.__init__")))(hline:(apos.endLine==cpos.line)=Ab)(he:PE X es (EB i))(hj:PE X ej (tFs X.K CL j))(sA:As [es,ej] X.env=(Ad,eval es X.env)::As [ej] X.env)(sB:As [ej] X.env=[(Ad,eval ej X.env)]):
  PE X (.Call (.Attribute (.Name g np) "__init__" apos) [es,ej] [] cpos) (λY H Q=>∃ e dx t v d A n,Y[i]?=Aa (Aa (.ref e))/\H e=Aa (.ext (XEx e C dx t))/\Y[j]?=Aa (Aa v)/\Rep X.K CL H A v d/\xfD (n+1) d=Ab/\n<=1/\∀ t',Q .non (upd H e (.ext (XEx e C dx t')))):=by
 have st1:As [es,ej] X.env=[(Ad,eval es X.env),(Ad,eval ej X.env)]:=by rw[sA,sB]
 intro pI s Y H Q I ⟨e,dx,t,v,d,A,n,h1,h2,h3,r,hx,hn,hq⟩;rw[arm_eval_Call];refine An (show Au (model X.prog X.w) X.A (eval (.Name g np) X.env) _ X.xe s from JO I hg hm ?_ hdb)
 refine An (DX ?_);have form:methodCallForm ([es,ej].length+([]:Ac EI).length) (BP cpos (As [es,ej] X.env)) (Kg cpos (Im [] X.env))=Ab:=by
  rw[st1];rfl
 have mpos:methodCallPos Ab (.Name g np) X.env apos cpos=pure cpos:=by
  unfold methodCallPos;simp[hline]
 unfold methodCall;rw[form];refine An (BZ (PySem.W.method_cls I.kIn s1 (PySem.W.cls_value I.kIn s2 s3 rfl ?_)));refine An (Kf mpos ?_);have I1:=I.tok (s.toks+1);have pa:PA X [es,ej] _:=DM he (DM hj Fk sB) sA;have hA:=pa cpos pI {s with toks:=s.toks+1} Y H (λxs H'=>H'=H/\∃ z,xs=[.ref e,.str z]) I1 ⟨_,h1,⟨v,d,A,n,h3,r,hx,hn,λz=>⟨rfl,z,rfl⟩⟩⟩
 rw[st1]at hA ⊢;refine Zd rfl (ES (thn hA λus s2 ⟨xs,H2,I2,rv,e2,z,ex⟩=>?_))
 subst e2 ex;obtain⟨u1,u2,rfl,ru1,ru2⟩:=L7 rv;cases ru1;obtain⟨tk,rfl⟩:=ru2;obtain⟨gC,T⟩:=hob _ I2.kIn;have ge:XEx e C dx t s2.heap:=(I2.hok e _ h2).1;obtain⟨hp,g2,d2,tk2,os2⟩:=s2;refine sW E6 T gC ge λh' t' kp ge'=>?_
 refine⟨.non,_,I2.write (x:=e) (e:=e) (o:=.ext (XEx e C dx t')) (t':=tk2) (by rw[h2];exact trivial) (.inl rfl) kp ⟨_,ge'⟩ ⟨ge',⟨_,ge'⟩,Q9⟩,rfl,hq t'⟩
end
theorem fC{bmB bm:Ac Aj}(T:D7 h bmB bm){self:Aj}{what:Ah}(hb:refuseLoop self what bmB=pure ()):refuseLoop self what bm=pure ():=by
 induction T with
 |base=>exact hb
 |own _ _ _ _ ih=>rw[aZ];exact ih
section
variable{prog:AK}{w:AZ}{A:AX}{E:Vq}{h:AD}{g:Ba Ey}{d:Ie}{tk0:Ag}{os:Hy}{K:Fg}
variable{nm q:Ah}{C N e t:Al}{bs bm bmB:Ac Aj}{sn:Ac Ah}{sub:Ac Aj}{ab:Ai}{col:Ao Ai}{dd:Ao Al}{k0 k1 k2 k3 k5:Ao Aj}{B newId sa owner:Da}
theorem nL{Q:Fin->Ap->Prop}{v:Aj}(X:K.In h)(SF:K0 B bmB sa owner)(T:D7 h bmB bm)(gC:h.get? C=Aa (Cd nm q C N bs bm Ab sn sub ab col dd k0 k1 k2 k3 k5 newId))(hf:AM K (.ref C) name=Aa Ae)(ge:h.get? e=Aa (Gf C Ae t))(hq:∀ h' dx tk',(∀ b o,b≠e->h.get? b=Aa o->h'.get? b=Aa o)->h'.get? e=Aa (Gf C (Aa dx) t)->h.get? dx=Ae->h'.Ns1 dx (λy=>if y=name then Aa v else Ae)->Q (.done (.ret .none)) ⟨h',g,d,tk',os⟩):Au (model prog w) A (Builtin.«object.__setattr__» ⟨[.ref e,.str name tk,v],[]⟩) Q E ⟨h,g,d,tk0,os⟩:=by
  have pass:=fC T (SF.passes (.ref e));have L1:=Cv (M:=model prog w) X hf;obtain⟨o,ho⟩:∃ o,Gf C Ae t=o:=⟨_,rfl⟩;rw[ho]at ge;have oc:o.cls=.ref C:=by rw[<-ho];rfl
  unfold Builtin.«object.__setattr__»
  repeat (first|rw[refuse_eq]|(rw[aZ,pass])|(with_reducible refine B6 ge ?_;rw[oc])|(with_reducible refine wpAny_mroOf_exc gC ?_)|(with_reducible refine L1.at ?_)|(with_reducible refine An (L1.at ?_))|wp_step)
  have od:o.dict=Ae:=by rw[<-ho];rfl
  have odt:o.data=.fields #[.ref t,.none,.none,.none,.bool Ad,.none]:=by rw[<-ho];rfl
  rw[od,odt,AC (by simp[typeHasDict])]
  let D:CU:={ cls:=.type "dict",data:=.dict #[] }
  have g1:(h.push D).get? e=Aa o:=Ar _ ge;have ne:e≠h.objs.size:=A1 (AB ge);refine An (wpAny_alloc' ?_);refine An (wpAny_update' g1 ?_);refine Az ?_
  let U_:CU->CU:=λo=>{cls:=o.cls,dict:=Aa h.objs.size,data:=o.data,slots:=o.slots}
  have gD:((h.push D).update e U_).get? h.objs.size=Aa D:=(ZU _ _ _ _ ne.symm).trans (ZS rfl rfl);have nD:((h.push D).update e U_).Ns h.objs.size (λ_=>Ae):=⟨_,#[],_,gD,rfl,λz hz=>absurd hz (by simp),λ_=>rfl⟩
  change Au _ _ (Y_9 h.objs.size (.str name tk) name v) _ _ _;unfold Y_9 Builtin.ObjectAttr.newKeyGuard;refine An (Az (An (wpAny_nsSet1 (Heap.Ns1.of_empty nD) λk hk hs=>?_)))
  obtain⟨oD,eD,pD,q1,q2,q3⟩:=hk.count (Within.cons name v Within.nil);have le:oD.data.pastItsLine=Ae:=by
    rw[q2];refine pastItsLine_dict (Cz q3 ?_);rw[Bm,YD,C9];omega
  refine An (wpAny_lookBehind q1 le ?_)
  wp_walk
  refine hq k h.objs.size _ (λb ob nb hb=>?_) ?_ (Dx (AU _)) hk
  · rw[hs.2 b (A1 (AB hb)),ZU _ _ _ _ nb];exact Ar _ hb
  · rw[hs.2 e ne];have:Aa (Gf C (Aa h.objs.size) t)=Aa (U_ o):=by rw[<-ho];rfl
    rw[this];exact Cn _ g1 (by rw[<-ho];rfl)
end
section
variable{prog:AK}{w:AZ}{A:AX}{E:Vq}{h:AD}{g:Ba Ey}{d:Ie}{tk0:Ag}{os:Hy}{K:Fg}
variable{nm q:Ah}{C N e t:Al}{bs bm bmB:Ac Aj}{sn:Ac Ah}{sub:Ac Aj}{ab:Ai}{col:Ao Ai}{dd:Ao Al}{k0 k1 k2 k3 k5:Ao Aj}{B newId sa owner:Da}
theorem nM{o:CU}{a b:Aj}(SF:K0 B bmB sa owner)(T:D7 h bmB bm)(gC:h.get? C=Aa (Cd nm q C N bs bm Ab sn sub ab col dd k0 k1 k2 k3 k5 newId))(ge:h.get? e=Aa o)(hc:o.cls=.ref C)(hq:Q () ⟨h,g,d,tk0,os⟩):Au M A (Gd sa ⟨[.ref e,a,b],[]⟩) Q E ⟨h,g,d,tk0,os⟩:=by
 have hb:(Cf C::bm).contains (.type owner)=Ab:=by rw[G4,T.hasType SF.hasOwner,HE]
 have ha:=SF.args (.ref e) a b;simp only[Gd,SF.kind,SF.split];refine An ?_;unfold IT
 repeat (first|(with_reducible refine B6 ge ?_;rw[hc])|(with_reducible refine Ff gC ?_;rw[hb])|wp_step)
 unfold argsOk at ha;split
 .rename_i sig hs;rw[hs]at ha;refine Kf ha ?_;exact hq
 .exact Az hq
theorem sU{v:Aj}(X:K.In h)(SF:K0 B bmB sa owner)(T:D7 h bmB bm)(gC:h.get? C=Aa (Cd nm q C N bs bm Ab sn sub ab col dd k0 k1 k2 k3 k5 newId))(hf:AM K (.ref C) name=Aa Ae)(hs:AM K (.ref C) "__setattr__" = Aa (Aa (.builtin sa)))(ge:h.get? e=Aa (Gf C Ae t))(hq:∀ h' dx tk',(∀ b o,b≠e->h.get? b=Aa o->h'.get? b=Aa o)->h'.get? e=Aa (Gf C (Aa dx) t)->h.get? dx=Ae->h'.Ns1 dx (λy=>if y=name then Aa v else Ae)->Q () ⟨h',g,d,tk',os⟩):Au (model prog w) A (setAttr (.ref e) name v) Q E ⟨h,g,d,tk0,os⟩:=by
 have f3:=SF.slot.bind (.ref e);have L1:=Cv (M:=model prog w) X hs;obtain⟨o,ho⟩:∃ o,Gf C Ae t=o:=⟨_,rfl⟩;have oc:o.cls=.ref C:=by rw[<-ho];rfl
 have ge':=ge;rw[ho]at ge';unfold setAttr JD specialOf
 repeat (any_goals (first|assumption|(with_reducible refine B6 ge' ?_;rw[oc])|(with_reducible refine An (L1.at ?_))|(with_reducible refine L1.at ?_)|wp_step))
 refine Dy SF.slot.plain SF.entry (nM SF T gC ge' oc (nL X SF T gC hf ge λh' dx tk' k1 k2 k3 k4=>?_))
 repeat (any_goals (first|assumption|wp_step))
 exact hq h' dx tk' k1 k2 k3 k4
end
section
variable{X:Cx}{pI:Pn}{Y:L2.St}{H:Hp}{s:Ap}{e:Al}
theorem V9{o:HO}(I:Inv X pI Y H s)(ha:Hk X pI e)(hH:H e=Ae)(ho:ObjOk X.prog X.w (upd H e o) s.heap e o):Inv X pI Y (upd H e o) s:=by
 have ne:∀ b o,H b=Aa o->b≠e:=λb o q z=>by rw[z,hH]at q;cases q
 refine⟨I.ok,I.os,I.bare,⟨I.base.keep,I.base.slot,λb o q n hb=>?_,I.base.there,λb xs q=>?_,λb o u q=>?_,λb ps q=>?_⟩,I.loc,I.cell,?_,λx c q=>?_,λp hp=>?_,λb o q=>?_,I.len⟩
 .rw[Bw λz=>by rw[z,ha.2.2.2]at q;cases q]
  exact I.base.free b o q n hb
 .have:=I.base.tups b xs q;rw[Bw (ne _ _ this)];exact this
 .have:=I.base.frzs b o u q;rw[Bw (ne _ _ this)];exact this
 .obtain⟨more,this⟩:=I.base.tbls b ps q;exact⟨more,by rw[Bw (ne _ _ this)];exact this⟩
 .rw[Bw λz=>ha.1 z.symm];exact I.free
 .rw[Bw (ha.2.1 x c q)];exact I.freeC x c q
 .obtain⟨q,n,r⟩:=I.pin p hp;exact⟨q,by rw[Bw (ha.2.2.1 p hp)];exact n,r⟩
 .by_cases hb:b=e
  .subst hb;rw[EM]at q;cases q;exact ho
  .rw[Bw hb]at q;exact(I.hok b o q).stay (λc v hc z=>z) (λc z=>by rw[Bw (ne _ _ z)];exact z) λc zs z=>by rw[Bw (ne _ _ z)];exact z
theorem kS(I:Inv X pI Y H s)(hH:H e=Aa (.ext φ))(h0:X.s₀.heap.get? e=Ae)(h1:X.ex=[]->HM):Inv X pI Y (λb=>if b=e then Ae else H b) s:=by
 have get:∀ b o,(if b=e then Ae else H b)=Aa o->b≠e/\H b=Aa o:=λb o q=>by
  by_cases z:b=e
  .rw[Ax z]at q;cases q
  .rw[AC z]at q;exact⟨z,q⟩
 have put:∀ b o,H b=Aa o->o≠.ext φ->(if b=e then Ae else H b)=Aa o:=λb o q n=>by
  by_cases z:b=e
  .rw[z,hH]at q;cases q;exact absurd rfl n
  .rw[AC z];exact q
 have non:∀ b,H b=Ae->(if b=e then Ae else H b)=Ae:=λb q=>by
  by_cases z:b=e
  .rw[Ax z]
  .rw[AC z];exact q
 refine⟨I.ok,I.os,I.bare,⟨λb o q n hb hx=>?_,I.base.slot,λb o q n hb=>?_,I.base.there,λb xs q=>?_,λb o u q=>?_,λb ps q=>?_⟩,I.loc,I.cell,non _ I.free,λx c q=>non _ (I.freeC x c q),λp hp=>?_,λb o q=>?_,I.len⟩
 .exact I.base.keep b o q n hb hx
 .exact non b (I.base.free b o q n hb)
 .exact put b _ (I.base.tups b xs q) (by intro z;cases z)
 .exact put b _ (I.base.frzs b o u q) (by intro z;cases z)
 .obtain⟨more,this⟩:=I.base.tbls b ps q;exact⟨more,put b _ this (by intro z;cases z)⟩
 .obtain⟨q,n,r⟩:=I.pin p hp;exact⟨q,non _ n,r⟩
 .obtain⟨nb,q⟩:=get b o q;exact(I.hok b o q).stay (λc v hc z=>z) (λc z=>put c _ z (by intro z;cases z)) λc zs z=>put c _ z (by intro z;cases z)
end
section
variable{X:Cx}{C:Al}{nm q:Ah}{N:Al}{bs bm:Ac Aj}{sn:Ac Ah}{sub:Ac Aj}{ab:Ai}{col:Ao Ai}{dd:Ao Al}{k0 k1 k2 k3 k5:Ao Aj}
theorem pN{i j:Ag}{f:Ah}{eo ev:Am}{p8 p10:AG}(hob:∀ h:AD,X.K.In h->h.get? C=Aa (Cd nm q C N bs bm Ab sn sub ab col dd k0 k1 k2 k3 k5 "ValueError.__new__")/\D7 h veB bm)(hx:X.ex=[])(hf:AM X.K (.ref C) f=Aa Ae)(hs:AM X.K (.ref C) "__setattr__" = Aa (Aa (.builtin "object.__setattr__")))(he:PE X eo (EB i))(hv:PE X ev (EB j))(sw:CZ ev (Aa (.Attribute eo f p8)) p10.line X.env=pure Ad):PS X (.Assign [.Attribute eo f p8] ev p10) (λD Y H=>∃ e t v,Y[i]?=Aa (Aa (.ref e))/\H e=Aa (.ext (XEx e C Ae t))/\Y[j]?=Aa (Aa v)/\∀ dx,H dx=Ae->dx≠e->D.nx Y (upd (upd H e (.ext (XEx e C (Aa dx) t))) dx (.xd [(f,v)]))):=by
 intro pI s Y H D I ⟨e,t,v,h1,h2,h3,hq⟩;refine plainObj_wpAny_Assign_Attribute (thn (hv pI s Y H (λx H1=>x=v/\H1=H) I ⟨v,h3,rfl,rfl⟩) λu s1 ⟨x,H1,I1,r1,e1,e2⟩=>?_) sw
 subst e1 e2;refine thn (he pI s1 Y H1 (λx H2=>x=.ref e/\H2=H1) I1 ⟨_,h1,rfl,rfl⟩) λu2 s2 ⟨x2,H2,I2,r2,e3,e4⟩=>?_
 subst e3 e4;cases r2;obtain⟨gC,T⟩:=hob _ I2.kIn;have ge:XEx e C Ae t s2.heap:=(I2.hok e _ h2).1;obtain⟨hp,g2,d2,tk2,os2⟩:=s2;refine sU I2.kIn PySem.F.store_ValueError T gC hf hs ge λh' dx tk' kp ge' nd ns=>?_
 have nH:H2 dx=Ae:=Lu I2.hok nd;have nde:dx≠e:=λz=>by rw[z,h2]at nH;cases nH
 have ap:Hk X pI dx:=MN I2 hx nd;have I3:=I2.write (x:=e) (e:=e) (o:=.ext (XEx e C (Aa dx) t)) (t':=tk') (by rw[h2];exact trivial) (.inl rfl) kp ⟨_,ge'⟩ ⟨ge',⟨_,ge'⟩,Q9⟩
 have I4:=V9 (o:=.xd [(f,x)]) I3 ap (by rw[Bw nde];exact nH) ⟨_,ns,λy=>by
  by_cases z:y=f
  .subst z;rw[Ax rfl];simp only[F0,Do];exact r1
  .rw[AC z];have:(y==f)=Ad:=by simp[z]
   simp only[F0,this]
   trivial⟩
 exact⟨Y,_,I4,hq dx nH nde⟩
end
noncomputable def GC(K:Fg)(C:Al):Ai:=match K.lookup C with
  |some ⟨_,_,.cls c,_⟩=>c.hasDict
  |_=>Ad
noncomputable def Sf(g par f z:Ah)(k:Ag)(np apos p1 p2 p3 p4 p5 cpos p6 p7 p8 p9 p10:AG):Ac AO:=
 [.Expr (.Call (.Attribute (.Name g np) "__init__" apos) [.Name "self" p1,.JoinedStr [.FormattedValue (.Name par p2) (-1) Ae p3,.Constant (.str z) k p4] p5] [] cpos) p6,.Assign [.Attribute (.Name "self" p7) f p8] (.Name par p9) p10]
inductive XIn (K:Fg) (mg:Ah->Ao Aj) (C:Al) (f:Ah):Prop
 |mk {fI OV:Al} {x qual g par z:Ah} {st:AO} {fd:BM} {k:Ag} {np apos p1 p2 p3 p4 p5 cpos p6 p7 p8 p9 p10:AG} (xc:DN K C (Aa (.ref fI))=Ab) (dc:GC K C=Ab) (fn:Fun K x qual st fI fd) (ty:DK K (.ref fI)=Aa (.type "function"))
  (S:FnScope ["self",par] ["self",par] (Ct st)) (l1:(Ct st).names.lookup ("self" : Ah)=Aa .local) (l2:(Ct st).names.lookup par=Aa .local) (bd:FV K fd ["self",par] []) (body:Fj st=Sf g par f z k np apos p1 p2 p3 p4 p5 cpos p6 p7 p8 p9 p10)
  (gl:(Ct st).names.lookup g=Aa .globalImplicit) (mo:mg g=Aa (.ref OV)) (dg:(g==("__debug__" : Ah))=Ad) (dp:(par==("__debug__" : Ah))=Ad) (dq:(par==("__classdict__" : Ah))=Ad)
  (s1:ED K (.ref OV) "__getattribute__" = Aa (Aa (.builtin "type.__getattribute__"))) (s2:Fv K OV (.type "type")=Ab) (s3:Fu K (.ref OV) (.type "type") "__init__" = Aa (.val (.builtin "ValueError.__init__")))
  (hl:(apos.endLine==cpos.line)=Ab) (hz:z.length<=1000) (hf:AM K (.ref C) f=Aa Ae) (hs:AM K (.ref C) "__setattr__" = Aa (Aa (.builtin "object.__setattr__"))):XIn K mg C f
section
variable{P:AK}{w:AZ}{K:Fg}{mg:Ah->Ao Aj}{base:AD}{CL:ClA}{C fI OV:Al}{x qual g par z f:Ah}{st:AO}{fd:BM}{k:Ag}{np apos p1 p2 p3 p4 p5 cpos p6 p7 p8 p9 p10:AG}
variable{nm q:Ah}{N:Al}{bs bm:Ac Aj}{sn:Ac Ah}{sub:Ac Aj}{ab:Ai}{col:Ao Ai}{dd:Ao Al}{k0 k1 k2 k3 k5:Ao Aj}
theorem oJ(hob:∀ h:AD,K.In h->h.get? C=Aa (Cd nm q C N bs bm Ab sn sub ab col dd k0 k1 k2 k3 k5 "ValueError.__new__")/\D7 h veB bm)(fn:Fun K x qual st fI fd)(S:FnScope ["self",par] ["self",par] (Ct st))(l1:(Ct st).names.lookup ("self" : Ah)=Aa .local)(l2:(Ct st).names.lookup par=Aa .local)(bd:FV K fd ["self",par] [])(body:Fj st=Sf g par f z k np apos p1 p2 p3 p4 p5 cpos p6 p7 p8 p9 p10)(gl:(Ct st).names.lookup g=Aa .globalImplicit)(mo:mg g=Aa (.ref OV))(dg:(g==("__debug__" : Ah))=Ad)(dp:(par==("__debug__" : Ah))=Ad)(dq:(par==("__classdict__" : Ah))=Ad)(s1:ED K (.ref OV) "__getattribute__" = Aa (Aa (.builtin "type.__getattribute__")))(s2:Fv K OV (.type "type")=Ab)(s3:Fu K (.ref OV) (.type "type") "__init__" = Aa (.val (.builtin "ValueError.__init__")))(hl:(apos.endLine==cpos.line)=Ab)(hz:z.length<=1000)(hf:AM K (.ref C) f=Aa Ae)(hs:AM K (.ref C) "__setattr__" = Aa (Aa (.builtin "object.__setattr__"))){A:AX}{outer:Ac B8}{s:Ap}{E:XK}{e t:Al}{v:V}{u:Aj}{n:Ag}(hh:A.handled=Ae)(hdp:A.depth<GO)(hun:A.units+70<BW)(hgd:A.guards=Aa [])(e0:Env0 P w K mg base A outer s H)(he:H e=Aa (.ext (XEx e C Ae t)))(rp:Rep K CL H B v d)(hx:xfD (n+1) d=Ab)(hn:n<=1)(r:BB v u):E9 (model P w) A (.call (.ref fI) ⟨[.ref e,u],[]⟩) (CR Jq outer P w H s (λy H'=>y=.non/\∃ t' dx,H dx=Ae/\dx≠e/\H'=upd (upd H e (.ext (XEx e C (Aa dx) t'))) dx (.xd [(f,v)])) E) s:=by
 obtain⟨oc,od,kV,doc,pm,an,cdv,ct,osl,rfl,lk,hcd⟩:=fn.ex;have KX:K.In s.heap:=e0.mod.kin.keeps λb o e=>(e0.bs b o e).1
 have lim:s.heap.NoLimit:=e0.mod.nolimit.keeps λb o e=>(e0.bs b o e).1
 have hkind:∀ y∈(["self",par]:Ac Ah).zip [Cf e,u],(Ct st).names.lookup y.1=Aa .local\/((Ct st).names.lookup y.1=Aa .cell/\((CM (s.heap.objs.size+1) (Ct st).names []).lookup y.1).isSome=Ab):=λy hy=>by
  refine .inl ?_;rcases Av.mp hy with rfl|hy
  .exact l1
  .rw[Bl.mp hy];exact l2
 have rv:A8 [.ref e,v] [.ref e,u]:=.cons rfl (.cons r .nil);refine Go hdp (KX _ _ lk) rfl S.co S.gen rfl (G8 KX hcd) (bd s [.ref e,u] KX rfl _ _ _ _ ?_);refine E7 S.kind hkind λenv hen s1' x=>?_
 subst hen;refine⟨lim.keeps x.toInCall.keep,JE ?_⟩;have I:Inv (EO Jq P w K mg base ["self",par] qual (Ct st) fI cdv A outer s H E) [] (start ["self",par] [.ref e,v]) H s1':=Qc S hh e0 rfl rv x;generalize hX:EO Jq P w K mg base ["self",par] qual (Ct st) fI cdv A outer s H E=X at I;have pself:∀ p,PE X (.Name "self" p) (EB 0):=λp=>by rw[<-hX];exact Ol rfl (.inl l1)
 have ppar:∀ p,PE X (.Name par p) (EB 1):=λp=>by rw[<-hX];exact Ol rfl (.inl l2) dp dq
 have st1:=iX (X:=X) (CL:=CL) (C:=C) (g:=g) (np:=np) (apos:=apos) (cpos:=cpos) (i:=0) (j:=1) (OV:=OV) (by rw[<-hX];exact hob) (by rw[<-hX];exact gl) (by rw[<-hX];exact mo) dg (by rw[<-hX];exact s1) (by rw[<-hX];exact s2) (by rw[<-hX];exact s3) hl (pself p1)
  (pU (k:=k) (p1:=p3) (p2:=p4) (p3:=p5) (by rw[<-hX];show A.units+3+64<BW;omega) (by rw[<-hX];exact hgd) hz (ppar p2)) rfl rfl
 have st2:=pN (X:=X) (p8:=p8) (p10:=p10) (by rw[<-hX];exact hob) (by rw[<-hX];rfl) (by rw[<-hX];exact hf) (by rw[<-hX];exact hs) (pself p7) (ppar p9) rfl
 have all:=UK (Kt (pos:=p6) st1 rfl) (MP st2);have hk:=all [] s1' _ H {nx:=λ_ H'=>∃ t' dx,H dx=Ae/\dx≠e/\H'=upd (upd H e (.ext (XEx e C (Aa dx) t'))) dx (.xd [(f,v)]),rt:=λ_ _=>AV} I ⟨e,Ae,t,v,d,B,n,rfl,he,rfl,by rw[<-hX];exact rp,hx,hn,λt'=>⟨e,t',v,rfl,EM,rfl,λdx h1 h2=>⟨t',dx,by rw[Bw h2]at h1;exact h1,h2,by rw[VF]⟩⟩⟩
 rw[body];refine Bg (by rw[<-hX]at hk;exact hk) (λfl s' hfl=>?_) λev s' hev=>hev
 cases fl with
 |next=>
  obtain⟨Y',H',J,w'⟩:=hfl;exact⟨.non,H',J.os,J.bare,J.base,J.hok,rfl,rfl,w'⟩
 |ret y=>obtain⟨_,_,_,_,_,w'⟩:=hfl;exact w'.elim
 |brk=>obtain⟨_,_,_,w'⟩:=hfl;exact w'.elim
 |cont=>obtain⟨_,_,_,w'⟩:=hfl;exact w'.elim
end
theorem Xl:∀(n m:Ag)(d:D),xfD n d=Ab->n+1<=m->nlD m d=Ab
 |0,m+1,.int i,_,_=>rfl
 |n+1,m+1,.tup ds,h,hm=>by
  have h':(C2 ds.length 8&&ds.all (xfD n))=Ab:=h;rw[Ak]at h';show ds.all (nlD m)=Ab;rw[D9]at h' ⊢;exact λx hx=>Xl n m x (h'.2 x hx) (by omega)
 |0,_,.tup _,h,_=>nomatch h
 |n+1,_,.int _,h,_=>nomatch h
section
variable{X:Cx}{CL:ClA}{W:XW}
def Nh(xn:Ag->Ac D->R Ex)(c:Ag)(f:Ah)(ds:Ac D):Prop:=∃ d n,ds=[d]/\xfD (n+1) d=Ab/\n<=1/\xn c ds=.ok ⟨c,[(f,d)]⟩
theorem gX{e:Am}{es:Ac Am}(hcalm:X.calm=Ab)(hx:X.ex=[])(hr:Room k X.A)(rz:Nm X CL W)(hg:Gl X g)(hm:X.mg g=Aa (.ref C))(hdb:(g==("__debug__" : Ah))=Ad)(hcl:CL c=Aa C)(ha:SA X CL W (e::es) fs)(hxn:∀ ds,xn c ds=.bad\/(xn c ds=.ok ⟨c,[]⟩/\DN X.K C Ae=Ab)\/∃ f,XIn X.K X.mg C f/\Nh xn c f ds)(he:As (e::es) X.env=(Ad,eval e X.env)::As es X.env)(hpl:∀ pos,(BP pos (As es X.env)).any (·.1)=Ad)(hz:∀ U ds,fs U=.ok ds->ds.length<=100000):SS X CL W (.Raise (Aa (.Call (.Name g np) (e::es) [] cpos)) Ae pos) (λU=>O.of U (noX (fs U)) λxs=>O.of U (xn c xs) λx=>.exn x U):=λFz B pI s Y H D I ⟨U,x,p⟩=>by
 have hpl':(BP cpos (As (e::es) X.env)).any (·.1)=Ad:=by rw[he];show (Ad||(BP cpos (As es X.env)).any (·.1))=Ad;rw[hpl];rfl
 cases e1:fs U with
 |bad=>dsimp only at p;rw[e1]at p;exact p.elim
 |exn y=>dsimp only at p;rw[e1]at p;exact p.elim
 |ok ds=>
  rcases hxn ds with e2|⟨e2,xc⟩|⟨f,xi,d,n,rfl,xf,hn,e2⟩
  .dsimp only at p;rw[e1]at p;have p2:BS X.K CL Fz B W (O.of U (xn c ds) λx=>.exn x U) D:=p
   rw[e2]at p2;exact p2.elim
  .refine jK (fs:=fs) (xn:=λ_ ds'=>match xn c ds' with | .ok ⟨_,[]⟩=>.ok ⟨c,[]⟩|_=>.bad) hcalm rz hg hm hdb xc hcl ha (λds'=>by
    split
    .exact .inr rfl
    .exact .inl rfl) he hpl hz Fz B pI s Y H D I ⟨U,x,?_⟩
   dsimp only at p ⊢;rw[e1]at p ⊢;have p2:BS X.K CL Fz B W (O.of U (xn c ds) λx=>.exn x U) D:=p
   rw[e2]at p2;show BS X.K CL Fz B W (O.of U (match xn c ds with | .ok ⟨_,[]⟩=>(.ok ⟨c,[]⟩:R Ex)|_=>.bad) λx=>.exn x U) D
   rw[e2];exact p2
  .dsimp only at p;rw[e1]at p;have p2:BS X.K CL Fz B W (O.of U (xn c [d]) λx=>.exn x U) D:=p
   rw[e2]at p2;have p3:∀ H,(∀ b o,Fz b o->H b=Aa o)->W ⟨c,[(f,d)]⟩ H:=p2;cases xi with
   |mk xc dc fn ty S l1 l2 bd body gl mo dg dp dq w1 w2 w3 hl hz0 hf hs=>
    rename_i fI OV x0 qual g0 par z st fd k0' np0 apos q1 q2 q3 q4 q5 cpos0 q6 q7 q8 q9 q10;obtain⟨bm,N,nm,qn,bs,hd,sn,sub,ab,col,dd,k0,k1,k2,k3,k5,mN,hob,hni,hbase⟩:=Qj I.kIn xc;have hdt:hd=Ab:=by
     unfold GC at dc;split at dc
     .rename_i c0 d0 cd sl lk;have g1:=I.kIn _ _ lk;rw[(hob _ I.kIn).1]at g1;unfold Cd at g1;cases g1;exact dc
     .cases dc
    subst hdt;have hob2:∀ h:AD,X.K.In h->h.get? C=Aa (Cd nm qn C N bs bm Ab sn sub ab col dd k0 k1 k2 k3 k5 "ValueError.__new__")/\D7 h veB bm:=λh z=>⟨(hob h z).1,(hob h z).2.2⟩
    refine kD (bmB:=veB) (nm:=nm) (q:=qn) (C:=C) (N:=N) (fI:=fI) (bs:=bs) (bm:=bm) (hdct:=Ab) (sn:=sn) (sub:=sub) (ab:=ab) (col:=col) (dd:=dd) (k0:=k0) (k1:=k1) (k2:=k2) (k3:=k3) (k5:=k5) (mN:=mN) E6 hbase (I.ok.hd hcalm) hpl' hni ?_;refine JO I hg hm ⟨rfl,?_⟩ hdb;have q1:=ha (BG B U Y) cpos pI s Y H (λvs H1=>AE H H1/\Reps X.K CL H1 (BG B U Y) vs [d]) I ⟨x.aok,U,x.good,by rw[e1];exact λvs H1 s1 r1=>⟨s1,r1⟩⟩
    rw[he]at q1 ⊢;refine ES (Bg q1 (λus s2 ⟨vs,H2,I2,r2,sm2,rps⟩=>⟨rfl,?_⟩) λ_ _ z=>z)
    cases vs with
    |nil=>exact rps.elim
    |cons v vs=>
     cases vs with
     |cons=>exact rps.2.elim
     |nil=>
      obtain⟨u,rfl,ru⟩:=Hl r2;obtain⟨o1,o2,o3⟩:=hob _ I2.kIn;obtain⟨oc,od,kV,doc,pm,an,cdv,ct,osl,efd,lk,hcd⟩:=fn.ex;have coc:oc=.type "function" := by
       have ty':(X.K.lookup fI).map _=_:=ty;rw[lk]at ty';exact Bj ty'
      refine⟨by rw[C9];show 1<=_;omega,o1,o2,o3,⟨_,I2.kIn _ _ lk,coc⟩,λh' e0 made=>?_⟩
      obtain⟨t,ge,_⟩:=made.there;have I3:Inv X pI Y H2 {s2 with heap:=h'}:=I2.kept (t':=s2.toks) made.keeps
      have ap:Hk X pI e0:=MN I2 hx made.new;have n0:H2 e0=Ae:=Lu I2.hok made.new;have I4:=V9 (o:=.ext (XEx e0 C Ae t)) I3 ap n0 ⟨ge,⟨_,ge⟩,Q9⟩;have sm4:AE H2 (upd H2 e0 (.ext (XEx e0 C Ae t))):=λb o z=>by rw[Bw λy=>by rw[y,n0]at z;cases z];exact z
      have ru0:=hr.mono (E8 k);have run:=oJ (P:=X.prog) (w:=X.w) (mg:=X.mg) (base:=X.base) (CL:=CL) (E:=λ_ _ _=>AV) (B:=BG B U Y) (H:=upd H2 e0 (.ext (XEx e0 C Ae t))) (t:=t) hob2 fn S l1 l2 bd body gl mo dg dp dq w1 w2 w3 hl hz0 hf hs (A:=X.A.under (.builtin "type.__call__" ⟨.ref C::[u],[]⟩)) (outer:=X.stack) hr.hd (by rw[fU];have:=ru0.dp;omega) (by rw[fT];have:=ru0.un;omega) hr.gd (I4.env0.make C [u] []) EM (Rep.same sm4 rps.1) xf hn ru
      refine FL (Eh run λr s' hq=>?_)
      cases r with
      |error _=>exact Bc hq
      |ok fl=>
       cases fl with
       |next=>exact Bc hq
       |brk=>exact Bc hq
       |cont=>exact Bc hq
       |ret u'=>
        obtain⟨v',H5,I5,rr,ev,t',dx,ndx,dne,eH⟩:=I4.after hq;subst ev;cases rr;have nd2:H2 dx=Ae:=by rw[Bw dne]at ndx;exact ndx
        rw[VF]at eH;have H5e:H5 e0=Aa (.ext (XEx e0 C (Aa dx) t')):=by rw[eH,Bw (CP dne),EM]
        have ge5:XEx e0 C (Aa dx) t' s'.heap:=(I5.hok e0 _ H5e).1;have I6:=kS I5 H5e ap.2.2.2 λ_=>trivial
        have H6d:(if dx=e0 then Ae else H5 dx)=Aa (.xd [(f,v)]):=by rw[AC dne,eH,EM]
        have sm6:AE H2 (λb=>if b=e0 then Ae else H5 b):=λb o z=>by
         have nb:b≠e0:=λy=>by rw[y,n0]at z;cases z
         have nb2:b≠dx:=λy=>by rw[y,nd2]at z;cases z
         show (if b=e0 then Ae else H5 b)=Aa o
         rw[AC nb,eH,Bw nb2,Bw nb];exact z
        refine⟨rfl,t',Aa dx,(hob2 _ I6.kIn).1,ge5,rz pI Y _ s' e0 C (Aa dx) t' ⟨c,[(f,d)]⟩ I6 (λhx=>Kx I2 hx made.new) (Ax rfl) ge5 (λA hA=>⟨C,hcl,rfl,.inr ⟨dx,[(f,v)],rfl,λz=>?_,H6d,⟨rfl,?_⟩,trivial⟩⟩) (p3 _ λb o z=>sm6 _ _ (sm2 _ _ (x.same b o z)))⟩
        .obtain⟨ys,q⟩:=hA dx z;have q':(if dx=e0 then Ae else H5 dx)=Aa (.lst ys):=q
         rw[H6d]at q';cases q'
        .exact RG hA 5 d (Xl (n+1) 5 d xf (by omega)) (Rep.sub (λ_ z=>z.elim) _ (Rep.same sm6 rps.1))
end
section
variable{prog:AK}{w:AZ}{A:AX}{E:Vq}{h:AD}{g:Ba Ey}{d:Ie}{t:Ag}{os:Hy}{K:Fg}{e C dx:Al}{f:Ah}{mA:Ah->Ao Aj}{v:Aj}
theorem Ra(p:Jl e C (Aa dx) h):XAt e C h:=let ⟨o,a,b,_⟩:=p;⟨o,a,b⟩
theorem fL{Q:Fin->Ap->Prop}(X:K.In h)(hf:AM K (.ref C) f=Aa Ae)(hd:GC K C=Ab)(p:Jl e C (Aa dx) h)(hn:h.Ns1 dx mA)(hv:mA f=Aa v)(hq:Q (.done (.ret v)) ⟨h,g,d,t,os⟩):Au (model prog w) A (Builtin.«object.__getattribute__» ⟨[.ref e,.str f tk],[]⟩) Q E ⟨h,g,d,t,os⟩:=by
 have L0:=JP (M:=model prog w) (Ra p);have L1:=Cv (M:=model prog w) X hf;obtain⟨o,ge,oc,od,us,dt⟩:=p;unfold GC at hd;split at hd
 .rename_i c' d' cd' sl' lk;have gC:=X _ _ lk;unfold Builtin.«object.__getattribute__»
  repeat (any_goals (first|assumption|with_reducible refine L0.at ?_|with_reducible refine L1.at ?_|wp_step))
  rw[dt];unfold instanceDict
  repeat (first|(with_reducible refine B6 ge ?_;rw[oc])|with_reducible refine B6 gC ?_|wp_step)
  rw[od]
  repeat (first|(with_reducible refine wpAny_nsGet hn.ns ?_;rw[hv])|wp_step)
  exact hq
 .cases hd
theorem sT{Q:Vq}(X:K.In h)(x:XcOk K C)(hf:AM K (.ref C) f=Aa Ae)(hd:GC K C=Ab)(p:Jl e C (Aa dx) h)(hn:h.Ns1 dx mA)(hv:mA f=Aa v)(hh:handedOut v=pure v)(hq:Q v ⟨h,g,d,t,os⟩):Au (model prog w) A (getAttrBy (.ref e) (.str f tk) fill expr) Q E ⟨h,g,d,t,os⟩:=by
 have L0:=JP (M:=model prog w) (Ra p);have L1:=Cv (M:=model prog w) X x.ga;have L2:=Cv (M:=model prog w) X x.gt;have f3:=FR.ga.bind (.ref e);have hx0:(expr&&JH (Dh "BaseException.__getattribute__"))=Ad:=by cases expr<;>rfl
 have hx2:(Dh "BaseException.__getattribute__" == Dh "object.__getattribute__")=Ad:=by decide+kernel
 have hx1:(JH (Cf C)&&Dh "BaseException.__getattribute__" == Dh "object.__getattribute__")=Ad:=by rw[hx2];rfl
 repeat (any_goals (first|assumption|with_reducible refine L0.at ?_|with_reducible refine L1.at ?_|with_reducible refine L2.at ?_|wp_step))
 refine Dy FR.ga.plain ZJ (TJ X x (Ra p) (fL X hf hd p hn hv ?_))
 repeat (any_goals (first|assumption|wp_step))
 all_goals trace_state
theorem kE{b:Ai}{Q:Vq}(X:K.In h)(x:XcOk K C)(hf:AM K (.ref C) f=Aa Ae)(hd:GC K C=Ab)(p:Jl e C (Aa dx) h)(hn:h.Ns1 dx mA)(hv:mA f=Aa v)(hh:handedOut v=pure v)(hq:Q v ⟨h,g,d,t+1,os⟩):Au (model prog w) A (getAttr (.ref e) f b) Q E ⟨h,g,d,t,os⟩:=by
 unfold getAttr
 repeat (any_goals (first|assumption|with_reducible apply sT X x hf hd p hn hv hh|wp_step))
end
section
variable{X:Cx}{CL:ClA}{W:XW}{K:Fg}{H:Hp}{A:Al->Prop}
theorem UH{f:Ah}{d:D}:∀{vs:Ac (Ah×V)}{fs:Ac (Ah×D)},Repf K CL H A vs fs->fs.lookup f=Aa d->∃ v,vs.lookup f=Aa v/\Rep K CL H A v d
 |[],[],_,q=>nomatch q
 |(n,v)::vs,(m,d')::fs,⟨⟨e,r⟩,rs⟩,q=>by
  have e':n=m:=e;subst e';by_cases z:(f==n)=Ab
  .simp only[F0,z]at q ⊢;cases q;exact⟨v,rfl,r⟩
  .simp only[F0,z]at q ⊢;exact UH rs q
theorem mY{a:Am}{fa:Rho->R D}{f:Ah}(hxc:∀ c C,CL c=Aa C->XcOk X.K C)(hnf:∀ c C,CL c=Aa C->GC X.K C=Ab/\AM X.K (.ref C) f=Aa Ae)(ha:ST X CL W a fa)(hb:Eo a f X.env (eval a X.env)=eval a X.env):SE X CL W (.Attribute a f pos) (λU=>(fa U).bind λx=>Np x f):=λA=>by
 intro pI s Y H Q I ⟨hA,U,gd,q⟩;refine qL hb (thn (ha A pI s Y H _ I ⟨hA,U,gd,Bb.bind q (Q':=λv H1=>∃ d,CN X.K CL H1 A v d/\Bb (λH2=>Rep X.K CL H2 A) W H1 (Np d f) Q) λd v H1 _ s1 r1 p1=>⟨d,r1,p1⟩⟩) λu s1 ⟨v,H1,I1,rv,d,rp,p1⟩=>?_)
 cases d with
 |exc c fs=>
  have p2:Bb (λH2=>Rep X.K CL H2 A) W H1 (match fs.lookup f with|some d=>.ok d|none=>.bad) Q:=p1
  cases el:fs.lookup f with
  |none=>rw[el]at p2;exact p2.elim
  |some d=>
   rw[el]at p2;rcases rp with ⟨e,C,φ,rfl,_,hc,hH,hφ,hfs⟩|⟨a,xs,ds,_,z,_⟩
   .rcases hfs with z|⟨dx,vs,nd,hd,rf,hφ2⟩
    .rw[z]at el;cases el
    .obtain⟨y,l,ry⟩:=UH rf el;cases rv;have ph:=(I1.hok e _ hH).1;obtain⟨o,ge,oc⟩:=hφ _ ph;obtain⟨o',ge',od,us,odt⟩:=hφ2 _ ph;rw[ge]at ge';cases ge';obtain⟨mA,hn,rel⟩:=I1.hok dx _ hd;obtain⟨u',hu,ru⟩:=Nn.some_of (v:=y) (o:=mA f) (by rw[<-l];exact rel f)
     obtain⟨k1,k2⟩:=hnf c C hc;obtain⟨hp,g2,d2,tk2,os2⟩:=s1;exact kE I1.kIn (hxc c C hc) k2 k1 ⟨o,ge,oc,od,us,odt⟩ hn hu (PySem.W.handedOut_of (hV ru)) ⟨y,H1,I1.tok _,ru,p2 y H1 (AE.refl H1) ry⟩
   .cases z
 |_=>exact p1.elim
end
theorem noF{P:Prop}(h:Ad=Ab):P:=nomatch h
structure Tc where
 sc:B5
 N:Ac Ah
 /-- a def's name,its number,how many parameters it has -/
 fns:Ac (Ah×Ag×Ag)
 /-- built-in names that the text does not hide -/
 bl:Ac Ah
 /-- exceptions' classes by their names: those that are raised,all that are asked for -/
 rzs:Ac (Ah×Ag)
 exs:Ac (Ah×Ag)
 /-- the text's constants -/
 gls:Ac (Ah×Ag)
noncomputable def R7(T:Tc)(x:Ah):Ai:=match T.sc.names.lookup x with
  |some .local=>Ab
  |some .cell=>Ab
  |some .free=>Ab
  |_=>Ad
noncomputable def Jm(T:Tc)(x:Ah):Ai:=match T.sc.names.lookup x with
  |some .local=>Ab
  |some .cell=>Ab
  |_=>Ad
noncomputable def glB(T:Tc)(x:Ah):Ai:=T.sc.names.lookup x==Aa .globalImplicit
noncomputable def GX(x:Ah):Ai:=!(x==("__debug__" : Ah)) && !(x==("__classdict__" : Ah)) && !(x==("__name__" : Ah))
noncomputable def isV(T:Tc)(x:Ah)(i:Ag):Ai:=T.N[i]? == Aa x&&R7 T x&&GX x
noncomputable def isB(T:Tc)(x:Ah):Ai:=T.bl.contains x&&glB T x&&GX x
theorem Ce{a b:Ai}(h:(a&&b)=Ab):a=Ab/\b=Ab:=(Ak a b).mp h
theorem orT{a b:Ai}(h:(a||b)=Ab):a=Ab\/b=Ab:=(CH a b).mp h
noncomputable def Ej(e:Am)(F:Ah->Ai):Ai:=if c:e.ctorIdx=23 then Zx (motive_1:=λ_=>Ai) e c λx _=>F x else Ad
theorem Ez{e:Am}{F:Ah->Ai}(h:Ej e F=Ab):∃ x p,e=Zw x p/\F x=Ab:=by
 by_cases c:e.ctorIdx=23
 .exact Zx (motive_1:=λe=>Ej e F=Ab->∃ x p,e=Zw x p/\F x=Ab) e c (λx p h=>⟨x,p,rfl,h⟩) h
 .exact noF ((B4 c).symm.trans h)
noncomputable def JU(e:Am)(F:Const->Ai):Ai:=if c:e.ctorIdx=19 then Zr (motive_1:=λ_=>Ai) e c λc _ _=>F c else Ad
theorem Ln{e:Am}{F:Const->Ai}(h:JU e F=Ab):∃ c u p,e=Zq c u p/\F c=Ab:=by
 by_cases c:e.ctorIdx=19
 .exact Zr (motive_1:=λe=>JU e F=Ab->∃ c u p,e=Zq c u p/\F c=Ab) e c (λc u p h=>⟨c,u,p,rfl,h⟩) h
 .exact noF ((B4 c).symm.trans h)
noncomputable def OO(e:Am)(F:Am->FE->Am->Ai):Ai:=if c:e.ctorIdx=2 then Zj (motive_1:=λ_=>Ai) e c λx o y _=>F x o y else Ad
theorem US{e:Am}{F:Am->FE->Am->Ai}(h:OO e F=Ab):∃ x o y p,e=Zi x o y p/\F x o y=Ab:=by
 by_cases c:e.ctorIdx=2
 .exact Zj (motive_1:=λe=>OO e F=Ab->∃ x o y p,e=Zi x o y p/\F x o y=Ab) e c (λx o y p h=>⟨x,o,y,p,rfl,h⟩) h
 .exact noF ((B4 c).symm.trans h)
noncomputable def Jo(e:Am)(F:J5->Am->Ai):Ai:=if c:e.ctorIdx=3 then ZF (motive_1:=λ_=>Ai) e c λo x _=>F o x else Ad
theorem MR{e:Am}{F:J5->Am->Ai}(h:Jo e F=Ab):∃ o x p,e=ZE o x p/\F o x=Ab:=by
 by_cases c:e.ctorIdx=3
 .exact ZF (motive_1:=λe=>Jo e F=Ab->∃ o x p,e=ZE o x p/\F o x=Ab) e c (λo x p h=>⟨o,x,p,rfl,h⟩) h
 .exact noF ((B4 c).symm.trans h)
noncomputable def Iy(e:Am)(F:BoolOp->Ac Am->AG->Ai):Ai:=if c:e.ctorIdx=0 then Zl (motive_1:=λ_=>Ai) e c λo xs p=>F o xs p else Ad
theorem Lo{e:Am}{F:BoolOp->Ac Am->AG->Ai}(h:Iy e F=Ab):∃ o xs p,e=Zk o xs p/\F o xs p=Ab:=by
 by_cases c:e.ctorIdx=0
 .exact Zl (motive_1:=λe=>Iy e F=Ab->∃ o xs p,e=Zk o xs p/\F o xs p=Ab) e c (λo xs p h=>⟨o,xs,p,rfl,h⟩) h
 .exact noF ((B4 c).symm.trans h)
noncomputable def LR(e:Am)(F:Am->Ac Dg->Ac Am->Ai):Ai:=if c:e.ctorIdx=15 then Zp (motive_1:=λ_=>Ai) e c λx os ys _=>F x os ys else Ad
theorem Qw{e:Am}{F:Am->Ac Dg->Ac Am->Ai}(h:LR e F=Ab):∃ x os ys p,e=Zo x os ys p/\F x os ys=Ab:=by
 by_cases c:e.ctorIdx=15
 .exact Zp (motive_1:=λe=>LR e F=Ab->∃ x os ys p,e=Zo x os ys p/\F x os ys=Ab) e c (λx os ys p h=>⟨x,os,ys,p,rfl,h⟩) h
 .exact noF ((B4 c).symm.trans h)
noncomputable def ON(e:Am)(F:Am->Ac Am->Ac EI->AG->Ai):Ai:=if c:e.ctorIdx=16 then Zn (motive_1:=λ_=>Ai) e c λf as ks p=>F f as ks p else Ad
theorem UQ{e:Am}{F:Am->Ac Am->Ac EI->AG->Ai}(h:ON e F=Ab):∃ f as ks p,e=Zm f as ks p/\F f as ks p=Ab:=by
 by_cases c:e.ctorIdx=16
 .exact Zn (motive_1:=λe=>ON e F=Ab->∃ f as ks p,e=Zm f as ks p/\F f as ks p=Ab) e c (λf as ks p h=>⟨f,as,ks,p,rfl,h⟩) h
 .exact noF ((B4 c).symm.trans h)
noncomputable def OP(e:Am)(F:Am->Ah->AG->Ai):Ai:=if c:e.ctorIdx=20 then Zh (motive_1:=λ_=>Ai) e c λo m p=>F o m p else Ad
theorem UT{e:Am}{F:Am->Ah->AG->Ai}(h:OP e F=Ab):∃ o m p,e=Zg o m p/\F o m p=Ab:=by
 by_cases c:e.ctorIdx=20
 .exact Zh (motive_1:=λe=>OP e F=Ab->∃ o m p,e=Zg o m p/\F o m p=Ab) e c (λo m p h=>⟨o,m,p,rfl,h⟩) h
 .exact noF ((B4 c).symm.trans h)
noncomputable def KM(e:Am)(F:Am->Am->Ai):Ai:=if c:e.ctorIdx=21 then ZB (motive_1:=λ_=>Ai) e c λx y _=>F x y else Ad
theorem MI{e:Am}{F:Am->Am->Ai}(h:KM e F=Ab):∃ x y p,e=ZA x y p/\F x y=Ab:=by
 by_cases c:e.ctorIdx=21
 .exact ZB (motive_1:=λe=>KM e F=Ab->∃ x y p,e=ZA x y p/\F x y=Ab) e c (λx y p h=>⟨x,y,p,rfl,h⟩) h
 .exact noF ((B4 c).symm.trans h)
noncomputable def RE(e:Am)(F:Ao Am->Ao Am->Ao Am->Ai):Ai:=if c:e.ctorIdx=26 then Zz (motive_1:=λ_=>Ai) e c λl u s _=>F l u s else Ad
theorem lL{e:Am}{F:Ao Am->Ao Am->Ao Am->Ai}(h:RE e F=Ab):∃ l u s p,e=Zy l u s p/\F l u s=Ab:=by
 by_cases c:e.ctorIdx=26
 .exact Zz (motive_1:=λe=>RE e F=Ab->∃ l u s p,e=Zy l u s p/\F l u s=Ab) e c (λl u s p h=>⟨l,u,s,p,rfl,h⟩) h
 .exact noF ((B4 c).symm.trans h)
noncomputable def Ix(e:Am)(F:Ac Am->Ai):Ai:=if c:e.ctorIdx=25 then ZD (motive_1:=λ_=>Ai) e c λxs _ _=>F xs else Ad
theorem JK{e:Am}{F:Ac Am->Ai}(h:Ix e F=Ab):∃ xs c p,e=ZC xs c p/\F xs=Ab:=by
 by_cases c:e.ctorIdx=25
 .exact ZD (motive_1:=λe=>Ix e F=Ab->∃ xs c p,e=ZC xs c p/\F xs=Ab) e c (λxs c p h=>⟨xs,c,p,rfl,h⟩) h
 .exact noF ((B4 c).symm.trans h)
noncomputable def OH(e:Am)(F:Ac Am->Ai):Ai:=if c:e.ctorIdx=24 then Zt (motive_1:=λ_=>Ai) e c λxs _=>F xs else Ad
theorem Qu{e:Am}{F:Ac Am->Ai}(h:OH e F=Ab):∃ xs p,e=Zs xs p/\F xs=Ab:=by
 by_cases c:e.ctorIdx=24
 .exact Zt (motive_1:=λe=>OH e F=Ab->∃ xs p,e=Zs xs p/\F xs=Ab) e c (λxs p h=>⟨xs,p,rfl,h⟩) h
 .exact noF ((B4 c).symm.trans h)
noncomputable def RF(e:Am)(F:Am->Ac Jr->B5->Ai):Ai:=if c:e.ctorIdx=8 then Zv (motive_1:=λ_=>Ai) e c λx gs sc _=>F x gs sc else Ad
theorem lN{e:Am}{F:Am->Ac Jr->B5->Ai}(h:RF e F=Ab):∃ x gs sc p,e=Zu x gs sc p/\F x gs sc=Ab:=by
 by_cases c:e.ctorIdx=8
 .exact Zv (motive_1:=λe=>RF e F=Ab->∃ x gs sc p,e=Zu x gs sc p/\F x gs sc=Ab) e c (λx gs sc p h=>⟨x,gs,sc,p,rfl,h⟩) h
 .exact noF ((B4 c).symm.trans h)
noncomputable def OQ(e:AO)(F:Ac Am->Am->Ai):Ai:=if c:e.ctorIdx=5 then Z_7 (motive_2:=λ_=>Ai) e c λts v _=>F ts v else Ad
theorem UU{e:AO}{F:Ac Am->Am->Ai}(h:OQ e F=Ab):∃ ts v p,e=Z_6 ts v p/\F ts v=Ab:=by
 by_cases c:e.ctorIdx=5
 .exact Z_7 (motive_2:=λe=>OQ e F=Ab->∃ ts v p,e=Z_6 ts v p/\F ts v=Ab) e c (λts v p h=>⟨ts,v,p,rfl,h⟩) h
 .exact noF ((B4 c).symm.trans h)
noncomputable def LQ(e:AO)(F:Am->Ai):Ai:=if c:e.ctorIdx=24 then Z_9 (motive_2:=λ_=>Ai) e c λv _=>F v else Ad
theorem Qv{e:AO}{F:Am->Ai}(h:LQ e F=Ab):∃ v p,e=Z_8 v p/\F v=Ab:=by
 by_cases c:e.ctorIdx=24
 .exact Z_9 (motive_2:=λe=>LQ e F=Ab->∃ v p,e=Z_8 v p/\F v=Ab) e c (λv p h=>⟨v,p,rfl,h⟩) h
 .exact noF ((B4 c).symm.trans h)
noncomputable def OE(e:AO)(F:Ao Am->Ai):Ai:=if c:e.ctorIdx=3 then aG (motive_2:=λ_=>Ai) e c λo _=>F o else Ad
theorem UO{e:AO}{F:Ao Am->Ai}(h:OE e F=Ab):∃ o p,e=aF o p/\F o=Ab:=by
 by_cases c:e.ctorIdx=3
 .exact aG (motive_2:=λe=>OE e F=Ab->∃ o p,e=aF o p/\F o=Ab) e c (λo p h=>⟨o,p,rfl,h⟩) h
 .exact noF ((B4 c).symm.trans h)
noncomputable def Nl(e:AO)(F:Am->Ac AO->Ac AO->Ai):Ai:=if c:e.ctorIdx=12 then aC (motive_2:=λ_=>Ai) e c λt xs ys _=>F t xs ys else Ad
theorem QA{e:AO}{F:Am->Ac AO->Ac AO->Ai}(h:Nl e F=Ab):∃ t xs ys p,e=Stmt.If t xs ys p/\F t xs ys=Ab:=by
 by_cases c:e.ctorIdx=12
 .exact aC (motive_2:=λe=>Nl e F=Ab->∃ t xs ys p,e=Stmt.If t xs ys p/\F t xs ys=Ab) e c (λt xs ys p h=>⟨t,xs,ys,p,rfl,h⟩) h
 .exact noF ((B4 c).symm.trans h)
noncomputable def OI(e:AO)(F:Am->Am->Ac AO->Ac AO->Ai):Ai:=if c:e.ctorIdx=9 then aA (motive_2:=λ_=>Ai) e c λt it xs ys _=>F t it xs ys else Ad
theorem UP{e:AO}{F:Am->Am->Ac AO->Ac AO->Ai}(h:OI e F=Ab):∃ t it xs ys p,e=Stmt.For t it xs ys p/\F t it xs ys=Ab:=by
 by_cases c:e.ctorIdx=9
 .exact aA (motive_2:=λe=>OI e F=Ab->∃ t it xs ys p,e=Stmt.For t it xs ys p/\F t it xs ys=Ab) e c (λt it xs ys p h=>⟨t,it,xs,ys,p,rfl,h⟩) h
 .exact noF ((B4 c).symm.trans h)
noncomputable def OG(e:AO)(F:Ao Am->Ao Am->Ai):Ai:=if c:e.ctorIdx=16 then aE (motive_2:=λ_=>Ai) e c λa b _=>F a b else Ad
theorem lM{e:AO}{F:Ao Am->Ao Am->Ai}(h:OG e F=Ab):∃ a b p,e=aD a b p/\F a b=Ab:=by
 by_cases c:e.ctorIdx=16
 .exact aE (motive_2:=λe=>OG e F=Ab->∃ a b p,e=aD a b p/\F a b=Ab) e c (λa b p h=>⟨a,b,p,rfl,h⟩) h
 .exact noF ((B4 c).symm.trans h)
noncomputable def Jc{α:Type}:Ac α->(α->Ac α->Ai)->Ai
 |[],_=>Ad
 |x::xs,F=>F x xs
theorem JM{l:Ac α}{F:α->Ac α->Ai}(h:Jc l F=Ab):∃ x xs,l=x::xs/\F x xs=Ab:=by
 cases l with
 |nil=>exact noF h
 |cons x xs=>exact⟨x,xs,rfl,h⟩
theorem Iu{l:Ac α}(h:l.isEmpty=Ab):l=[]:=List.isEmpty_iff.mp h
noncomputable def EA{α:Type}(l:Ac α)(F:α->Ai):Ai:=Jc l λx r=>r.isEmpty&&F x
theorem Fh{l:Ac α}{F:α->Ai}(h:EA l F=Ab):∃ x,l=[x]/\F x=Ab:=by
 obtain⟨x,r,rfl,h⟩:=JM h;obtain⟨h1,h2⟩:=Ce h;exact⟨x,by rw[Iu h1],h2⟩
noncomputable def GB{α:Type}(l:Ac α)(F:α->α->Ai):Ai:=Jc l λx r=>EA r λy=>F x y
theorem HN{l:Ac α}{F:α->α->Ai}(h:GB l F=Ab):∃ x y,l=[x,y]/\F x y=Ab:=by
 obtain⟨x,r,rfl,h⟩:=JM h;obtain⟨y,rfl,h⟩:=Fh h;exact⟨x,y,rfl,h⟩
noncomputable def Ji(e:Am)(F:Ah->Ac Am->Ai):Ai:=ON e λf as ks _=>Ej f λg=>ks.isEmpty&&F g as
theorem JL{e:Am}{F:Ah->Ac Am->Ai}(h:Ji e F=Ab):∃ g p as q,e=.Call (.Name g p) as [] q/\F g as=Ab:=by
 obtain⟨f,as,ks,q,rfl,h⟩:=UQ h;obtain⟨g,p,rfl,h⟩:=Ez h;obtain⟨h1,h2⟩:=Ce h;exact⟨g,p,as,q,by rw[Iu h1],h2⟩
noncomputable def MV(e:Am)(F:Ah->Am->Ac Am->Ai):Ai:=Ji e λg l=>Jc l λx xs=>F g x xs
theorem NQ{e:Am}{F:Ah->Am->Ac Am->Ai}(h:MV e F=Ab):∃ g p x xs q,e=.Call (.Name g p) (x::xs) [] q/\F g x xs=Ab:=by
 obtain⟨g,p,as,q,rfl,h⟩:=JL h;obtain⟨x,xs,rfl,h⟩:=JM h;exact⟨g,p,x,xs,q,rfl,h⟩
noncomputable def M8(st:AO)(F:Ah->Ah->Ac Am->Ai):Ai:=LQ st λe=>ON e λf as ks cp=>OP f λo m ap=>Ej o λx=>ks.isEmpty&&(ap.endLine==cp.line&&F x m as)
theorem NO{st:AO}{F:Ah->Ah->Ac Am->Ai}(h:M8 st F=Ab):∃ x p m ap as cp q,st=.Expr (.Call (.Attribute (.Name x p) m ap) as [] cp) q/\ap.endLine=cp.line/\F x m as=Ab:=by
 obtain⟨e,q,rfl,h⟩:=Qv h;obtain⟨f,as,ks,cp,rfl,h⟩:=UQ h;obtain⟨o,m,ap,rfl,h⟩:=UT h;obtain⟨x,p,rfl,h⟩:=Ez h;obtain⟨h1,h⟩:=Ce h;obtain⟨h2,h3⟩:=Ce h;exact⟨x,p,m,ap,as,cp,q,by rw[Iu h1],eq_of_beq h2,h3⟩
noncomputable def OR(st:AO)(F:Am->Am->Ai):Ai:=OQ st λts v=>EA ts λt=>F t v
theorem Qy{st:AO}{F:Am->Am->Ai}(h:OR st F=Ab):∃ t v q,st=.Assign [t] v q/\F t v=Ab:=by
 obtain⟨ts,v,q,rfl,h⟩:=UU h;obtain⟨t,rfl,h⟩:=Fh h;exact⟨t,v,q,rfl,h⟩
noncomputable def M9(st:AO)(F:Ah->Am->Ai):Ai:=OR st λt v=>Ej t λx=>F x v
theorem Qx{st:AO}{F:Ah->Am->Ai}(h:M9 st F=Ab):∃ x p v q,st=.Assign [.Name x p] v q/\F x v=Ab:=by
 obtain⟨t,v,q,rfl,h⟩:=Qy h;obtain⟨x,p,rfl,h⟩:=Ez h;exact⟨x,p,v,q,rfl,h⟩
noncomputable def Sc(e:Am)(F:Am->Am->Am->Ac Am->B5->Ai):Ai:=RF e λx gs sc=>EA gs λg=>decide (g.is_async=0)&&F x g.target g.iter g.ifs sc
theorem V3{e:Am}{F:Am->Am->Am->Ac Am->B5->Ai}(h:Sc e F=Ab):∃ x t it ifs sc p,e=.ListComp x [⟨t,it,ifs,0⟩] sc p/\F x t it ifs sc=Ab:=by
 obtain⟨x,gs,sc,p,rfl,h⟩:=lN h;obtain⟨g,rfl,h⟩:=Fh h;obtain⟨t,it,ifs,a⟩:=g;obtain⟨h1,h2⟩:=Ce h;have h1:a=0:=AN h1;subst h1;exact⟨x,t,it,ifs,sc,p,rfl,h2⟩
noncomputable def Mi(e:E)(F:E->Ai):Ai:=if c:e.ctorIdx=8 then E.no.elim (motive_1:=λ_=>Ai) e c F else Ad
theorem V2{e:E}{F:E->Ai}(h:Mi e F=Ab):∃ a,e=E.no a/\F a=Ab:=by
 by_cases c:e.ctorIdx=8
 .exact E.no.elim (motive_1:=λe=>Mi e F=Ab->∃ a,e=E.no a/\F a=Ab) e c (λa h=>⟨a,rfl,h⟩) h
 .exact noF ((B4 c).symm.trans h)
noncomputable def LU(e:E)(F:Es->Ai):Ai:=if c:e.ctorIdx=9 then E.and.elim (motive_1:=λ_=>Ai) e c F else Ad
theorem UV{e:E}{F:Es->Ai}(h:LU e F=Ab):∃ es,e=E.and es/\F es=Ab:=by
 by_cases c:e.ctorIdx=9
 .exact E.and.elim (motive_1:=λe=>LU e F=Ab->∃ es,e=E.and es/\F es=Ab) e c (λes h=>⟨es,rfl,h⟩) h
 .exact noF ((B4 c).symm.trans h)
noncomputable def Mh(e:E)(F:Es->Ai):Ai:=if c:e.ctorIdx=10 then E.or.elim (motive_1:=λ_=>Ai) e c F else Ad
theorem Vp{e:E}{F:Es->Ai}(h:Mh e F=Ab):∃ es,e=E.or es/\F es=Ab:=by
 by_cases c:e.ctorIdx=10
 .exact E.or.elim (motive_1:=λe=>Mh e F=Ab->∃ es,e=E.or es/\F es=Ab) e c (λes h=>⟨es,rfl,h⟩) h
 .exact noF ((B4 c).symm.trans h)
noncomputable def OJ(e:E)(F:Dg->E->E->Ai):Ai:=if c:e.ctorIdx=11 then E.cmp.elim (motive_1:=λ_=>Ai) e c F else Ad
theorem lO{e:E}{F:Dg->E->E->Ai}(h:OJ e F=Ab):∃ o a b,e=E.cmp o a b/\F o a b=Ab:=by
 by_cases c:e.ctorIdx=11
 .exact E.cmp.elim (motive_1:=λe=>OJ e F=Ab->∃ o a b,e=E.cmp o a b/\F o a b=Ab) e c (λo a b h=>⟨o,a,b,rfl,h⟩) h
 .exact noF ((B4 c).symm.trans h)
noncomputable def OK(e:E)(F:Dg->Dg->E->E->E->Ai):Ai:=if c:e.ctorIdx=12 then E.cmp2.elim (motive_1:=λ_=>Ai) e c F else Ad
theorem lP{e:E}{F:Dg->Dg->E->E->E->Ai}(h:OK e F=Ab):∃ o q a b c,e=E.cmp2 o q a b c/\F o q a b c=Ab:=by
 by_cases c:e.ctorIdx=12
 .exact E.cmp2.elim (motive_1:=λe=>OK e F=Ab->∃ o q a b c,e=E.cmp2 o q a b c/\F o q a b c=Ab) e c (λo q a b c h=>⟨o,q,a,b,c,rfl,h⟩) h
 .exact noF ((B4 c).symm.trans h)
noncomputable def OM(e:E)(F:BI->Es->Ai):Ai:=if c:e.ctorIdx=15 then E.bi.elim (motive_1:=λ_=>Ai) e c F else Ad
theorem lR{e:E}{F:BI->Es->Ai}(h:OM e F=Ab):∃ b as,e=E.bi b as/\F b as=Ab:=by
 by_cases c:e.ctorIdx=15
 .exact E.bi.elim (motive_1:=λe=>OM e F=Ab->∃ b as,e=E.bi b as/\F b as=Ab) e c (λb as h=>⟨b,as,rfl,h⟩) h
 .exact noF ((B4 c).symm.trans h)
noncomputable def Sd(e:E)(F:Ai->Ai):Ai:=if c:e.ctorIdx=1 then E.bl.elim (motive_1:=λ_=>Ai) e c F else Ad
theorem oP{e:E}{F:Ai->Ai}(h:Sd e F=Ab):∃ b,e=E.bl b/\F b=Ab:=by
 by_cases c:e.ctorIdx=1
 .exact E.bl.elim (motive_1:=λe=>Sd e F=Ab->∃ b,e=E.bl b/\F b=Ab) e c (λb h=>⟨b,rfl,h⟩) h
 .exact noF ((B4 c).symm.trans h)
noncomputable def JT(e:E)(F:Ag->Ai):Ai:=if c:e.ctorIdx=4 then E.var.elim (motive_1:=λ_=>Ai) e c F else Ad
theorem MH{e:E}{F:Ag->Ai}(h:JT e F=Ab):∃ i,e=E.var i/\F i=Ab:=by
 by_cases c:e.ctorIdx=4
 .exact E.var.elim (motive_1:=λe=>JT e F=Ab->∃ i,e=E.var i/\F i=Ab) e c (λi h=>⟨i,rfl,h⟩) h
 .exact noF ((B4 c).symm.trans h)
noncomputable def LS(e:E)(F:Ag->Es->Ai):Ai:=if c:e.ctorIdx=14 then E.call.elim (motive_1:=λ_=>Ai) e c F else Ad
theorem UR{e:E}{F:Ag->Es->Ai}(h:LS e F=Ab):∃ f as,e=E.call f as/\F f as=Ab:=by
 by_cases c:e.ctorIdx=14
 .exact E.call.elim (motive_1:=λe=>LS e F=Ab->∃ f as,e=E.call f as/\F f as=Ab) e c (λf as h=>⟨f,as,rfl,h⟩) h
 .exact noF ((B4 c).symm.trans h)
noncomputable def OA(e:E):Ai:=decide (e.ctorIdx=0)
theorem kR{e:E}(h:OA e=Ab):e=.non:=E.non.elim (motive_1:=λe=>e=.non) e (AN h) rfl
noncomputable def DE:Am->Ai
 |.Starred _ _=>Ad
 |_=>Ab
noncomputable def QB:Am->Ai
 |.Slice _ _ _ _=>Ad
 |_=>Ab
noncomputable def Na:Am->Ai
 |.Set _ _ _=>Ad
 |_=>Ab
noncomputable def KI:Am->Ai
 |.ListComp _ _ _ _=>Ad
 |.SetComp _ _ _ _=>Ad
 |.DictComp _ _ _ _ _=>Ad
 |_=>Ab
noncomputable def Sy(tu:Ai):Am->Ai
 |.Tuple ..=>tu
 |.Name ..=>!tu
 |_=>Ad
noncomputable def bj:Am->Ai
 |.Tuple _ _ _=>Ab
 |_=>Ad
noncomputable def XN:Am->Ai
 |.Tuple _ _ _=>Ad
 |_=>Ab
noncomputable def IV:Am->Ai
 |.UnaryOp _ _ _=>Ad
 |.BoolOp _ _ _=>Ad
 |.IfExp _ _ _ _=>Ad
 |.Compare _ _ _ _=>Ad
 |_=>Ab
noncomputable def RI:Ki->Ao Ah
 |.int=>Aa "int"
 |.bool=>Aa "bool"
 |.str=>Aa "str"
 |.list=>Aa "list"
 |.tuple=>Aa "tuple"
 |_=>Ae
noncomputable def RJ:BI->Ao Ah
 |.len=>Aa "len"
 |.abs=>Ae
 |.max=>Ae
 |.min=>Aa "min"
 |.int=>Aa "int"
 |.list=>Aa "list"
 |.tuple=>Aa "tuple"
 |.all=>Ae
 |.any=>Aa "any"
 |.sum=>Aa "sum"
 |.sorted=>Ae
 |.tmin=>Ae
 |.tmax=>Ae
 |_=>Ae
noncomputable def Ry(o scope:B5):B5:={scope with names:=scope.names.map λ(n,k)=>if (k==.free&&o.kind==.function&&o.names.lookup n==Aa .cell) then (n,.cell) else (n,k)}
noncomputable def Mb:Ac Ag->Ac Ah->Ac Ah->Ac Ah
 |t::ts,x::xs,N=>Mb ts xs ((N.map λy=>if y==x then N.getD t x else y).set t x)
 |_,_,N=>N
noncomputable def LH:Ac Ah->Ai
 |[]=>Ab
 |x::xs=>!xs.contains x&&LH xs
noncomputable def No(T:Tc)(scope:B5)(ts:Ac Ag)(N':Ac Ah):Ai:=
  scope.kind==.function&&scope.names.all (λy=>scope.names.lookup y.1==Aa y.2) &&
  scope.names.all (λy=>y.2 != .free||T.sc.names.lookup y.1==Aa .cell||T.sc.names.lookup y.1==Aa .free) &&
  N'.length==T.N.length&&LH N' &&
  (A6 N'.length).all λi=>ts.contains i||(match N'[i]? with
    |some x=>(scope.names.lookup x != Aa .local&&scope.names.lookup x != Aa .cell)&&(scope.names.lookup x != Aa .free||T.N[i]? == Aa x)
    | none=>Ab)
noncomputable def Fi:Ac Am->Ao (Ac Ah)
 |[]=>Aa []
 |.Name x _::r=>(Fi r).map (x :: ·)
 |_=>Ae
noncomputable def tgN(ys:Ac Am):Ac Ah:=(Fi ys).getD []
noncomputable def tgB(T:Tc):Ac Ag->Ac Ah->Ai
 |[],[]=>Ab
 |t::ts,x::xs=>T.N[t]? == Aa x&&T.sc.names.lookup x==Aa .local&&tgB T ts xs
 |_,_=>Ad
noncomputable def tgO(T:Tc)(scope:B5)(t:Ag)(x:Ah):Ai:=T.N[t]? == Aa x&&(T.sc.names.lookup x==Aa .local||(T.sc.names.lookup x==Aa .cell&&scope.names.lookup x==Aa .cell))
noncomputable def tgC(T:Tc):Ac Ag->Ac Ah->Ai
 |[],[]=>Ab
 |t::ts,x::xs=>T.N[t]? == Aa x&&Jm T x&&tgC T ts xs
 |_,_=>Ad
noncomputable def Tc.blk(T:Tc)(scope:B5)(ts:Ac Ag)(xs:Ac Ah):Tc:={T with sc:=Ry T.sc scope,N:=Mb ts xs T.N}
noncomputable def inX(l:Ac (Ah×Ag))(g:Ah)(c:Ag):Ai:=l.any λp=>p.1==g&&p.2==c
noncomputable def S5:Am->Ao (Am×Am×AG)
  | .Compare x ops ys p=>(match ops with
    | [.Lt]=>(match ys with
      |[y]=>Aa (x,y,p)
      | _=>Ae)
    | _=>Ae)
  |_=>Ae
noncomputable def RN(_:Es):Ao (E×E):=Ae
noncomputable def RZ(_:Tc)(_:Tc->Am->E->Ai)(_:Am)(_:Ac Dg)(_:Ac Am)(_:BI)(_:Es):Ai:=Ad
noncomputable def S0(T:Tc)(e:Am)(b:BI)(as:Es):Ai:=Ad
noncomputable def Rt:Am->Ao (Ah×AG)
 |.Name x p=>Aa (x,p)
 |_=>Ae
theorem Ud{e:Am}{t:Ah×AG}(q:Rt e=Aa t):e=.Name t.1 t.2:=by
 cases e with
 |Name x p=>cases q;rfl
 |_=>cases q
noncomputable def Ru:Am->Ao (Am×Ac Am×Ac EI×AG)
 |.Call f as ks p=>Aa (f,as,ks,p)
 |_=>Ae
theorem Ue{e:Am}{t:Am×Ac Am×Ac EI×AG}(q:Ru e=Aa t):e=.Call t.1 t.2.1 t.2.2.1 t.2.2.2:=by
 cases e with
 |Call f as ks p=>cases q;rfl
 |_=>cases q
noncomputable def X1:Am->Ao (Am×Am×AG)
 |.Subscript v s p=>Aa (v,s,p)
 |_=>Ae
theorem kJ{e:Am}{t:Am×Am×AG}(q:X1 e=Aa t):e=.Subscript t.1 t.2.1 t.2.2:=by
 cases e with
 |Subscript v s p=>cases q;rfl
 |_=>cases q
noncomputable def bS:Am->Ao (Ac Am×Ag×AG)
 |.Tuple es k p=>Aa (es,k,p)
 |_=>Ae
noncomputable def one{α:Type}:Ac α->Ao α
 |[a]=>Aa a
 |_=>Ae
theorem wX{l:Ac α}{a:α}(q:one l=Aa a):l=[a]:=by
  match l,q with
  |[b],q=>cases q;rfl
noncomputable def Nr(e:Am):Ao (Ah×Ah×Ac Am):=(Ru e).bind λc=>(Rt c.1).bind λg=>(one c.2.1).bind λa=>(Ru a).bind λd=>(Rt d.1).bind λh=>if (c.2.2.1.isEmpty&&d.2.2.1.isEmpty)=Ab then Aa (g.1,h.1,d.2.1) else Ae
theorem V0{e:Am}{h:Ah}{bs:Ac Am}(q:Nr e=Aa (g,h,bs)):∃ p p' pos pos',e=.Call (.Name g p) [.Call (.Name h p') bs [] pos'] [] pos:=by
 obtain⟨⟨f,as,ks,pos⟩,e1,q⟩:=AJ.mp q;obtain⟨⟨g',p⟩,e2,q⟩:=AJ.mp q;obtain⟨a,e3,q⟩:=AJ.mp q;obtain⟨⟨f',bs',ks',pos'⟩,e4,q⟩:=AJ.mp q;obtain⟨⟨h',p'⟩,e5,q⟩:=AJ.mp q;by_cases hk:(ks.isEmpty&&ks'.isEmpty)=Ab
 .rw[Ax hk]at q;cases q;rw[Ak,HF,HF]at hk;obtain⟨rfl,rfl⟩:=hk;have x1:=Ue e1;have x2:=Ud e2;have x3:=wX e3;have x4:=Ue e4;have x5:=Ud e5;dsimp only at x1 x2 x3 x4 x5;subst x1 x2 x3 x4 x5;exact⟨_,_,_,_,rfl⟩
 .rw[AC hk]at q;cases q
noncomputable def Nj(e:Am):Ao (Ah×Ah×Am×Am):=match Nr e with
  | some (g,h,bs)=>(match bs with
    |[x,y]=>Aa (g,h,x,y)
    | _=>Ae)
  |none=>Ae
theorem oW{e:Am}{h:Ah}{x y:Am}(q:Nj e=Aa (g,h,x,y)):∃ p p' pos pos',e=.Call (.Name g p) [.Call (.Name h p') [x,y] [] pos'] [] pos:=by
  unfold Nj at q;cases c:Nr e with
  |none=>rw[c]at q;cases q
  |some t=>
    obtain⟨g',h',bs⟩:=t;rw[c]at q
    match bs,q,c with
    |[a,b],q,c=>cases q;exact V0 c
noncomputable def Ng:Es->Ao (E×E)
 |.cons (.tupI (.rng2 a b)) .nil=>Aa (a,b)
 |_=>Ae
theorem kL{a b:E}(q:Ng as=Aa (a,b)):as=.cons (.tupI (.rng2 a b)) .nil:=by
 unfold Ng at q;split at q
 .cases q;rfl
 .cases q
noncomputable def Ni(e:Am):Ao (Ah×Ah×Am):=match Nr e with
  | some (g,h,bs)=>(match bs with
    |[x]=>Aa (g,h,x)
    | _=>Ae)
  |none=>Ae
theorem oU{e:Am}{h:Ah}{x:Am}(q:Ni e=Aa (g,h,x)):∃ p p' pos pos',e=.Call (.Name g p) [.Call (.Name h p') [x] [] pos'] [] pos:=by
  unfold Ni at q;cases c:Nr e with
  |none=>rw[c]at q;cases q
  |some t=>
    obtain⟨g',h',bs⟩:=t;rw[c]at q
    match bs,q,c with
    |[a],q,c=>cases q;exact V0 c
noncomputable def Nf:Es->Ao E
  | .cons a r=>(match r with
    |.nil=>Aa a
    | _=>Ae)
  |.nil=>Ae
theorem kK{a:E}(q:Nf as=Aa a):as=.cons a .nil:=by
 unfold Nf at q;split at q
 .split at q
  .cases q;rfl
  .cases q
 .cases q
noncomputable def RC(e:Am):Ai:=(X1 e).isSome
theorem U_2{e:Am}(q:RC e=Ab):∃ o a p,e=.Subscript o a p:=by
 obtain⟨t,h⟩:=Dv.mp q;exact⟨_,_,_,kJ h⟩
noncomputable def two(e:Am):Ao (Am×Am):=(bS e).bind λt=>match t.1 with
  |[a,b]=>Aa (a,b)
  |_=>Ae
noncomputable def O8(_:Es):Ao E:=Ae
noncomputable def S6(_:Am):Ao Am:=Ae
noncomputable def OU:Am->Ao (Ah×Am)
  | .Call f as ks cp=>(match f,as,ks with
    | .Attribute o m ap,[v],[]=>(match o with
      |.Name x _=>if (m==("pop" : Ah)&&ap.endLine==cp.line&&DE v)=Ab then Aa (x,v) else Ae
      | _=>Ae)
    | _,_,_=>Ae)
  |_=>Ae
theorem pP{e v:Am}(q:OU e=Aa (x,v)):∃ p ap cp,e=.Call (.Attribute (.Name x p) "pop" ap) [v] [] cp/\ap.endLine=cp.line/\DE v=Ab:=by
 unfold OU at q
 repeat' split at q
 all_goals first|cases q;done|skip
 rename_i h;cases q;simp only[Ak,AQ]at h;obtain⟨⟨rfl,h1⟩,h2⟩:=h;exact⟨_,_,_,rfl,h1,h2⟩
noncomputable def SD:Am->Ao (Am×Af)
  | .Subscript v s _=>(match s with
    | .Slice lo hi st _=>(match lo with
      | some (.Constant (.int k) _ _)=>(match hi with
        | none=>(match st with
          |some (.Constant (.int j) _ _)=>if j=2 then Aa (v,k) else Ae
          | _=>Ae)
        | some _=>Ae)
      | _=>Ae)
    | _=>Ae)
  |_=>Ae
noncomputable def RV(_:Es):Ao (E×Af):=Ae
mutual
noncomputable def Bh:Ag->Tc->Am->E->Ai
  |0,_,_,_=>Ad
  |n+1,T,e,c=>match c with
    |.non=>JU e λc=>decide (c=.none)
    |.bl b=>JU e λc=>decide (c=.bool b)
    |.int i=>JU e λc=>decide (c=.int i)
    |.str x=>JU e λc=>decide (c=.str x)
    |.var i=>Ej e λx=>isV T x i
    |.glob g=>Ad
    |.bin op a b=>OO e λx op' y=>decide (op'=op)&&Bh n T x a&&Bh n T y b
    |.un op a=>Jo e λo x=>decide (o=.USub)&&(decide (op=.USub)&&Bh n T x a)
    |.no a=>Jo e λo x=>decide (o=.Not)&&Bh n T x a
    |.and es=>Iy e λo xs _=>decide (o=.And)&&(chkEs n T xs es && !xs.isEmpty)
    |.or es=>Iy e λo xs _=>decide (o=.Or)&&(chkEs n T xs es && !xs.isEmpty)
    |.cmp op a b=>LR e λx os ys=>EA os λop'=>EA ys λy=>decide (op'=op) && !behindInMarks op y&&Bh n T x a&&Bh n T y b
    |.cmp2 op1 op2 a b c=>LR e λx os ys=>GB os λo1 o2=>GB ys λy z=>decide (o1=op1)&&decide (o2=op2) && !lastMarks [op1,op2] [y,z]&&Bh n T x a&&Bh n T y b&&Bh n T z c
    |.ite c a b=>Ad
    |.call f as=>MV e λg x xs=>(T.fns.any λp=>p.1==g&&p.2.1==f&&p.2.2==xs.length+1)&&decide (xs.length<900)&&glB T g&&GX g&&chkEs n T (x::xs) as
    |.bi b as=>(MV e λg x xs=>RJ b==Aa g&&isB T g&&chkEs n T (x::xs) as)||S0 T e b as||(match Ng as with|some (a,c)=>(match Nj e with|some (g,h,x,y)=>decide (b=.list)&&g==("list" : Ah)&&h==("range" : Ah)&&isB T g&&isB T h&&DE x&&DE y&&Bh n T x a&&Bh n T y c|none=>Ad)|none=>Ad)||(match RV as with|some (a,k)=>(match SD e with|some (x,j)=>decide (b=.stp)&&decide (j=k)&&decide (0<=k)&&Bh n T x a|none=>Ad)|none=>Ad)||(match Nf as with|some a=>(match Ni e with|some (g,h,x)=>decide (b=.lset)&&g==("len" : Ah)&&h==("set" : Ah)&&isB T g&&isB T h&&DE x&&Bh n T x a|none=>Ad)|none=>Ad)||(match RN as with|some (a,c)=>(match S5 e with|some (x,y,_)=>decide (b=.tlt) && !behindInMarks .Lt y&&Bh n T x a&&Bh n T y c|none=>Ad)|none=>Ad)||(match O8 as with|some a=>(match S6 e with|some x=>decide (b=.rvs)&&Bh n T x a|none=>Ad)|none=>Ad)
    |.isi a ks=>EA ks λk=>Ji e λg l=>GB l λx t=>Ej t λt=>g==("isinstance" : Ah)&&isB T g&&RI k==Aa t&&isB T t&&DE x&&Bh n T x a
    |.idx a i=>KM e λx y=>QB y&&Bh n T x a&&Bh n T y i
    |.sl a lo hi=>KM e λx s=>RE s λl h st=>st.isNone&&(Bh n T x a&&chkO n T l lo&&chkO n T h hi)
    |.tup es=>Ix e λxs=>chkEs n T xs es&&decide (xs.length<=1000)
    |.lst es=>OH e λxs=>chkEs n T xs es&&decide (xs.length<=1000)
    |.comp elt t it c=>Sc e λx tg iter ifs scope=>Ej tg λy=>chkI n T Ad iter it&&Na iter&&No T scope [t] (Mb [t] [y] T.N)&&tgO (T.blk scope [t] [y]) scope t y&&chkT n (T.blk scope [t] [y]) ifs c&&Bh n (T.blk scope [t] [y]) x elt
    |.compT elt ts it c=>Sc e λx tg iter ifs scope=>Ix tg λys=>(Fi ys).isSome&&chkI n T Ab iter it&&Na iter&&No T scope ts (Mb ts (tgN ys) T.N)&&tgB (T.blk scope ts (tgN ys)) ts (tgN ys)&&chkT n (T.blk scope ts (tgN ys)) ifs c&&Bh n (T.blk scope ts (tgN ys)) x elt
    |.tupI _=>Ad
    |.dnew=>Ad
    |.fld _ _=>Ad
noncomputable def ID:Ag->Tc->Am->E->Ai
 |0,_,_,_=>Ad
 |n+1,T,e,c=>(Jo e λo x=>decide (o=.Not)&&(Mi c λa=>ID n T x a)) ||
  (Iy e λo xs _=>(decide (o=.And)&&(LU c λes=>chkBs n T xs es && !xs.isEmpty))||(decide (o=.Or)&&(Mh c λes=>chkBs n T xs es && !xs.isEmpty))) ||
  (LR e λx os ys=>(OJ c λop a b=>EA os λop'=>EA ys λy=>decide (op'=op) && !behindInMarks op y&&Bh n T x a&&Bh n T y b) ||
   (OK c λop1 op2 a b c=>GB os λo1 o2=>GB ys λy z=>decide (o1=op1)&&decide (o2=op2) && !lastMarks [op1,op2] [y,z]&&Bh n T x a&&Bh n T y b&&Bh n T z c) ||
   (OM c λb as=>RZ T (Bh n) x os ys b as)) ||
  IV e&&Bh n T e c
noncomputable def chkBs:Ag->Tc->Ac Am->Es->Ai
  |0,_,_,_=>Ad
  |n+1,T,xs,es=>match xs,es with
    |[],.nil=>Ab
    |x::xs,.cons e es=>ID n T x e&&chkBs n T xs es
    |_,_=>Ad
noncomputable def chkEs:Ag->Tc->Ac Am->Es->Ai
  |0,_,_,_=>Ad
  |n+1,T,xs,es=>match xs,es with
    |[],.nil=>Ab
    |x::xs,.cons e es=>DE x&&Bh n T x e&&chkEs n T xs es
    |_,_=>Ad
noncomputable def chkO:Ag->Tc->Ao Am->E->Ai
  |0,_,_,_=>Ad
  |n+1,T,x,e=>match x with
    |none=>OA e
    |some x=>!(OA e)&&Bh n T x e
noncomputable def chkT:Ag->Tc->Ac Am->E->Ai
  |0,_,_,_=>Ad
  |n+1,T,xs,e=>match xs with
    |[]=>Sd e λb=>b
    |x::r=>r.isEmpty&&ID n T x e
noncomputable def chkI:Ag->Tc->Ai->Am->I->Ai
  |0,_,_,_,_=>Ad
  |n+1,T,tu,e,i=>match i with
    |.e a=>Bh n T e a
    |.rng a=>Ji e λg l=>EA l λx=>g==("range" : Ah)&&isB T g&&DE x&&Bh n T x a
    |.enm a=>Ji e λg l=>EA l λx=>tu&&g==("enumerate" : Ah)&&isB T g&&DE x&&Bh n T x a
    |.zip a b=>Ji e λg l=>GB l λx y=>tu&&g==("zip" : Ah)&&isB T g&&DE x&&DE y&&Bh n T x a&&Bh n T y b
    |.rng2 a b=>Ji e λg l=>GB l λx y=>g==("range" : Ah)&&isB T g&&DE x&&DE y&&Bh n T x a&&Bh n T y b
    |.zip3 a b c=>Ad
end
noncomputable def Sa:E->E->Ai
 |.var _,.int _=>Ab
 |_,_=>Ad
noncomputable def Sg:FE->Ai
 |.Sub=>Ab
 |_=>Ad
noncomputable def O0:E->Ai
 |.idx a b=>Sa a b
 |.bin op a b=>Sg op&&Sa a b
 |.var _=>Ab
 |.int _=>Ab
 |.bl _=>Ab
 |.str _=>Ab
 |.non=>Ab
 |_=>Ad
noncomputable def JS:Es->Ai
 |.nil=>Ab
 |.cons e es=>O0 e&&JS es
noncomputable def J3:Am->Ao (Ah×AG)
 |.Name x p=>Aa (x,p)
 |_=>Ae
theorem LG{e:Am}{t:Ah×AG}(h:J3 e=Aa t):e=.Name t.1 t.2:=by
 cases e with
 |Name x p=>cases h;rfl
 |_=>exact nomatch (show Ae=Aa t from h)
noncomputable def So:Am->Ao (Am×Ac Am×AG)
  | .Call f as ks p=>(match ks with
    |[]=>Aa (f,as,p)
    | _=>Ae)
  |_=>Ae
theorem nS{e:Am}{t:Am×Ac Am×AG}(h:So e=Aa t):e=.Call t.1 t.2.1 [] t.2.2:=by
 cases e with
 |Call f as ks p=>
  cases ks with
  |nil=>cases h;rfl
  |cons=>exact nomatch (show Ae=Aa t from h)
 |_=>exact nomatch (show Ae=Aa t from h)
noncomputable def OS{α:Type}:Ac α->Ao (α×α)
 |[a,b]=>Aa (a,b)
 |_=>Ae
theorem QH{l:Ac α}{t:α×α}(h:OS l=Aa t):l=[t.1,t.2]:=by
 cases l with
 |nil=>exact nomatch (show Ae=Aa t from h)
 |cons a l=>
  cases l with
  |nil=>exact nomatch (show Ae=Aa t from h)
  |cons b l=>
   cases l with
   |nil=>cases h;rfl
   |cons=>exact nomatch (show Ae=Aa t from h)
noncomputable def xHd:E5->Ao (Ah×Ah×AO×Ac AO)
  | .ExceptHandler ty nm b _=>(match nm,b,ty with
    |some m,h0::hs,Aa e=>(J3 e).bind λg=>Aa (g.1,m,h0,hs)
    | _,_,_=>Ae)
theorem sV{h:E5}{m:Ah}(q:xHd h=Aa (g,m,h0,hs)):∃ p r,h=.ExceptHandler (Aa (.Name g p)) (Aa m) (h0::hs) r:=by
 obtain⟨ty,nm,b,r⟩:=h;cases nm with
 |none=>cases ty<;>cases b<;>exact nomatch (show Ae=Aa (g,m,h0,hs) from q)
 |some m'=>
  cases b with
  |nil=>cases ty<;>exact nomatch (show Ae=Aa (g,m,h0,hs) from q)
  |cons h0' hs'=>
   cases ty with
   |none=>exact nomatch (show Ae=Aa (g,m,h0,hs) from q)
   |some e=>
    obtain⟨g',e1,q⟩:=AJ.mp (show ((J3 e).bind λg=>Aa (g.1,m',h0',hs'))=Aa (g,m,h0,hs) from q)
    cases q;rw[LG e1];exact⟨_,_,rfl⟩
noncomputable def R4:AO->Ao (AO×Ac E5×Ac AO)
  | .Try b hs es fs _=>(match b,fs with
    |[bt],[]=>Aa (bt,hs,es)
    | _,_=>Ae)
  |_=>Ae
theorem nN{st bt:AO}{hs:Ac E5}{es:Ac AO}(q:R4 st=Aa (bt,hs,es)):∃ p,st=.Try [bt] hs es [] p:=by
 cases st with
 |Try b h e f p=>
  cases b with
  |nil=>cases f<;>exact nomatch (show Ae=Aa (bt,hs,es) from q)
  |cons x b=>
   cases b with
   |cons=>cases f<;>exact nomatch (show Ae=Aa (bt,hs,es) from q)
   |nil=>
    cases f with
    |nil=>cases q;exact⟨_,rfl⟩
    |cons=>exact nomatch (show Ae=Aa (bt,hs,es) from q)
 |_=>exact nomatch (show Ae=Aa (bt,hs,es) from q)
noncomputable def Tf(e:Am)(F:Ah->Ah->Am->Ai):Ai:=Ji e λg l=>GB l λa t=>Ej a λv=>F g v t
theorem oO{e:Am}{F:Ah->Ah->Am->Ai}(h:Tf e F=Ab):∃ g p v q t r,e=.Call (.Name g p) [.Name v q,t] [] r/\F g v t=Ab:=by
 obtain⟨g,p,l,r,rfl,h⟩:=JL h;obtain⟨a,t,rfl,h⟩:=HN h;obtain⟨v,q,rfl,h⟩:=Ez h;exact⟨g,p,v,q,t,r,rfl,h⟩
noncomputable def RO(T:Tc):Ac Am->Ac Ki->Ai
  |[],ks=>ks.isEmpty
  | e::r,ks=>Jc ks λk ks=>Ej e λt=>(match k with
    |.cls c=>inX T.exs t c&&glB T t&&GX t
    | _=>Ad)&&RO T r ks
noncomputable def SQ(T:Tc)(g:Ah)(f:Ag):Ai:=(T.fns.any λp=>p.1==g&&p.2.1==f&&p.2.2==1001)&&glB T g&&GX g
noncomputable def M6(f:Am->E->Ai):Ac Am->Es->Ai
 |[],.nil=>Ab
 |x::xs,.cons e es=>DE x&&f x e&&M6 f xs es
 |_,_=>Ad
noncomputable def bP(T:Tc)(t:Am)(ks:Ac Ki):Ai:=Jc ks λk r=>match k with
  |.verr=>r.isEmpty&&(Ej t λt=>t==("ValueError" : Ah)&&isB T t)
  | .cls c=>(match r with
    |[]=>Ej t λt=>inX T.exs t c&&glB T t&&GX t
    | k2::r=>Ix t λts=>RO T ts (.cls c::k2::r)&&decide (ts.length<=1000))
  |_=>Ad
noncomputable def Fm:Ag->Tc->Ag->Am->E->Ai
  |0,_,_,_,_=>Ad
  |n+1,T,x,e,c=>match c with
    |.bl b=>JU e λk=>decide (k=.bool b)
    |.no a=>Jo e λo y=>decide (o=.Not)&&Fm n T x y a
    | .and es=>(match es with
      |.nil=>Ad
      | .cons a r=>(match r with
        |.nil=>Iy e λo l _=>decide (o=.And)&&(EA l λy=>Fm n T x y a)
        | .cons a' as=>Iy e λo l p=>decide (o=.And)&&(Jc l λy l=>Jc l λz zs=>Fm n T x y a&&Fm n T x (.BoolOp .And (z::zs) p) (.and (.cons a' as)))))
    |.isi a ks=>JT a λi=>Tf e λg v t=>i==x&&g==("isinstance" : Ah)&&isB T g&&isV T v x&&bP T t ks
    | .call f as=>(match as with
      |.nil=>Ad
      | .cons a r=>(match r with
        |.nil=>JT a λi=>Ji e λg l=>EA l λw=>Ej w λv=>SQ T g f&&isV T v i
        | .cons _ _=>Ad))
    |.str s=>JU e λk=>decide (k=.str s)
    |.lst es=>OH e λxs=>M6 (Fm n T x) xs es&&decide (xs.length<=1000)
    |.tup es=>Ix e λxs=>M6 (Fm n T x) xs es&&decide (xs.length<=1000)
    |.bin op a b=>decide (op=.Add)&&(JT a λi=>OO e λl o y=>decide (o=.Add)&&(Ej l λv=>isV T v i&&Fm n T x y b))
    |.fld o f=>JT o λi=>OP e λw g _=>Ej w λv=>i==x&&g==f&&(f==("triple" : Ah)||f==("points" : Ah))&&isV T v x
    |_=>Ad
noncomputable def LY(n:Ag)(T:Tc)(x:Ag)(y:Am)(e:E):Ai:=(Jo y λo z=>decide (o=.Not)&&(Mi e λa=>IV z&&Fm n T x z a))||(IV y&&Fm n T x y e)
noncomputable def Jg(n:Ag)(T:Tc)(x:Ag):Ac Am->Es->Ai
 |[],.nil=>Ab
 |y::ys,.cons e es=>LY n T x y e&&Jg n T x ys es
 |_,_=>Ad
noncomputable def XZ(n:Ag)(T:Tc)(x:Ag)(e:Am)(c:E):Ai:=(Iy e λo ys _=>(decide (o=.Or)&&(Mh c λes=>Jg n T x ys es && !ys.isEmpty))||(decide (o=.And)&&(LU c λes=>Jg n T x ys es && !ys.isEmpty)))||LY n T x e c
noncomputable def Ti:E->Ai
 |.isi _ _=>Ab
 |.bl _=>Ab
 |_=>Ad
noncomputable def cV:E->Ai
 |.lst _=>Ab
 |_=>Ad
noncomputable def bO(n:Ag)(T:Tc)(x:Ag)(v:Am)(e:E):Ai:=(JT e λi=>Ej v λy=>isV T y i)||(Ti e&&Fm n T x v e)
noncomputable def M5:Ag->Tc->Ag->Ac AO->Ss->Ai
  |0,_,_,_,_=>Ad
  |n+1,T,x,sts,ss=>match ss with
    |.nil=>sts.isEmpty
    | .cons s ss=>Jc sts λst r=>(match s with
      |.asg i b e=>M9 st λy v=>T.N[i]? == Aa y&&Jm T y&&KI v&&Fm n T x v e&&(!b||cV e)
      | .ife c a b=>(match b with
        |.nil=>Nl st λt xs ys=>ys.isEmpty&&(XZ n T x t c&&M5 n T x xs a)
        | .cons _ _=>Ad)
      | .ret e=>OE st λo=>(match o with
        |some v=>bO n T x v e
        | none=>Ad)
      |.app i e=>M8 st λy m l=>EA l λv=>m==("append" : Ah)&&isV T y i&&DE v&&Fm n T x v e
      | _=>Ad)&&M5 n T x r ss
noncomputable def R9:E->Ai
 |.var _=>Ab
 |.cmp _ a b=>O0 a&&O0 b
 |_=>Ad
noncomputable def Os(n:Ag)(T:Tc)(st:AO)(s:S):Ai:=match s with
  |.expr e=>LS e λf as=>LQ st λv=>Bh n T v (.call f as)&&JS as
  |.asg i b e=>!b&&(LS e λf as=>M9 st λy v=>T.N[i]? == Aa y&&Jm T y&&Bh n T v (.call f as)&&JS as)
  |_=>Ad
noncomputable def RD:Ss->(S->Ai)->Ai
  |.nil,_=>Ad
  | .cons a r,F=>(match r with
    |.nil=>F a
    | .cons _ _=>Ad)
theorem UN{l:Ss}{F:S->Ai}(h:RD l F=Ab):∃ a,l=.cons a .nil/\F a=Ab:=by
 cases l with
 |nil=>exact noF h
 |cons a r=>
  cases r with
  |nil=>exact⟨a,rfl,h⟩
  |cons=>exact noF h
noncomputable def WJ(f:AO->S->Ai)(n:Ag)(T:Tc)(st:AO):S->Ai
 |.ife c a b=>RD a λa=>RD b λb=>Nl st λt xs ys=>EA xs λx=>EA ys λy=>ID n T t c&&R9 c&&f x a&&f y b
 |_=>Ad
noncomputable def Ow:Ag->Ag->Tc->AO->S->Ai
 |0,n,T,st,s=>Os n T st s
 |m+1,n,T,st,s=>Os n T st s||WJ (Ow m n T) n T st s
noncomputable def dL:E->Ai
  | .bi b as=>(match b,as with
    |.len,.nil=>Ab
    | _,_=>Ad)
  |_=>Ad
noncomputable def dJ:S->Ai
 |.expr e=>dL e
 |_=>Ad
noncomputable def O2:Ss->Ai
 |.cons s _=>dJ s
 |.nil=>Ad
noncomputable def hdB(T:Tc)(g:Ah)(c:Ag):Ai:=inX T.exs g c&&inX T.rzs g c&&glB T g&&GX g
mutual
noncomputable def L9:Ag->Tc->AO->S->Ai
  |0,_,_,_=>Ad
  |n+1,T,st,s=>match s with
    |.pass=>Ad
    |.brk=>Ad
    |.cont=>Ad
    |.asg i _ e=>M9 st λx v=>T.N[i]? == Aa x&&Jm T x&&Bh n T v e
    |.asgT ts e=>OR st λt v=>Ix t λys=>(Fi ys).isSome&&tgC T ts (tgN ys)&&(XN v||C2 4 ys.length)&&Bh n T v e
    |.expr e=>LQ st λv=>KI v&&Bh n T v e
    |.ret e=>OE st λo=>match o with|some v=>Bh n T v e|none=>Ad
    |.retN=>Ad
    |.ife c a b=>Nl st λt xs ys=>ID n T t c&&chkSs n T xs a&&chkSs n T ys b
    |.fors t it body=>OI st λtg iter xs ys=>ys.isEmpty&&(Ej tg λx=>tgC T [t] [x]&&Na iter&&chkI n T Ad iter it&&chkSs n T xs body)
    |.forT ts it body=>OI st λtg iter xs zs=>zs.isEmpty&&(Ix tg λys=>(Fi ys).isSome&&tgC T ts (tgN ys)&&Na iter&&chkI n T Ab iter it&&chkSs n T xs body)
    |.whl c body=>Ad
    |.rais c as=>!(T.rzs.any λp=>p.2==c)||(OG st λa b=>b.isNone&&(match a with|some e=>MV e λg x xs=>inX T.rzs g c&&glB T g&&GX g&&decide (xs.length<=1000)&&chkEs n T (x::xs) as|none=>Ad))
    |.tryx bs c x h=>(match bs with | .cons b .nil=>(match R4 st with|some (bt,[h1],[])=>(match xHd h1 with|some (g,m,h0,hs)=>hdB T g c&&T.N[x]? == Aa m&&T.sc.names.lookup m==Aa .local&&Ow 6 n T bt b&&M5 n T x (h0::hs) h|none=>Ad)|_=>Ad)|_=>Ad)
    |.try2 _ _ _ _ _ _ _=>Ad
    |.app i e=>M8 st λx m l=>EA l λv=>m==("append" : Ah)&&isV T x i&&DE v&&Bh n T v e
    |.ext i e=>Ad
    |.rev i=>Ad
    |.clr i=>Ad
    |.put i k e=>OR st λt v=>KM t λo y=>Ej o λx=>isV T x i&&QB y&&Bh n T y k&&Bh n T v e
    |.swp i k l=>OQ st λts v=>EA ts λt=>Ix t λab=>GB ab λa b=>KM a λx y=>KM b λu z=>Ej x λx=>Ej y λy=>Ej u λu=>Ej z λz=>Ix v λcd=>GB cd λc d=>RC c&&(RC d&&(isV T x i&&isV T u i&&isV T y k&&isV T z l&&Bh n T v (.tup (.cons (.idx (.var i) (.var l)) (.cons (.idx (.var i) (.var k)) .nil)))))
    |.apop j i e=>M8 st λx m l=>EA l λv=>m==("append" : Ah)&&isV T x j&&(match OU v with|some (y,w)=>isV T y i&&Bh n T w e|none=>Ad)
    |.ins i k e=>M8 st λx m l=>GB l λy v=>m==("insert" : Ah)&&isV T x i&&DE y&&DE v&&Bh n T y k&&Bh n T v e
    |.dput _ _ _=>Ad
    |.dsd _ _ _=>Ad
    |.rel _=>Ad
noncomputable def chkSs:Ag->Tc->Ac AO->Ss->Ai
  |0,_,_,_=>Ad
  | n+1,T,sts,ss=>(match ss with
    |.nil=>sts.isEmpty
    |.cons (.rel i) ss=>chkSs n T sts ss
    | .cons s ss=>(match sts with
      |st::r=>L9 n T st s&&chkSs n T r ss
      | []=>Ad))||O2 ss
end
noncomputable def Ia(fuel:Ag)(hot:Ai)(fns:Ac (Ah×Ag×Ag))(bl:Ac Ah)(rzs exs gls:Ac (Ah×Ag))(ps N:Ac Ah)(st:AO)(df:Df):Ai:=
  let sc:=Ct st
  sc.kind==.function && !sc.isCoroutine && !sc.isGenerator&&LH N&&N.take ps.length==ps&&ps.all (λx=>sc.names.lookup x==Aa .local||sc.names.lookup x==Aa .cell)&&sc.names.all (λy=>y.2 != .free)&&N.length==df.n &&
  (match hot with
  |true=>M5 fuel ⟨sc,N,fns,bl,rzs,exs,gls⟩ 0 (Fj st) df.body
  | false=>chkSs fuel ⟨sc,N,fns,bl,rzs,exs,gls⟩ (Fj st) df.body)
structure XT (up:Ag->Ac Ag) (xn:Ag->Ac D->R Ex) (CL:ClA) (rzs exs:Ac (Ah×Ag)) (K:Fg) (mg:Ah->Ao Aj):Prop where
 xc:∀ c C,CL c=Aa C->XcOk K C
 rz:∀ p∈rzs,∃ C,CL p.2=Aa C/\mg p.1=Aa (.ref C)
 ex:∀ p∈exs,∃ C,mg p.1=Aa (.ref C)/\MW K CL up p.2 C/\∀ c D,CL c=Aa D->BQ K (.ref D) (.ref C)=Aa ((up c).contains p.2)
 made:∀ c C ds,CL c=Aa C->xn c ds=.bad\/(xn c ds=.ok ⟨c,[]⟩/\DN K C Ae=Ab)\/∃ f,XIn K mg C f/\Nh xn c f ds
 nf:∀ c C,CL c=Aa C->∀ f:Ah,(f==("triple" : Ah)||f==("points" : Ah))=Ab->GC K C=Ab/\AM K (.ref C) f=Aa Ae
 xb:∀ c,(∀ p∈rzs,p.2≠c)->∀ ds,xn c ds=.bad
def O3(K:Fg)(mg:Ah->Ao Aj)(CL:ClA)(x:Ah)(d:D):Prop:=∃ u v,mg x=Aa u/\BB v u/\∀ H A,Rep K CL H A v d
structure VX (Z:Gam) (CL:ClA) (k:Ag) (W:XW) (T:Tc) (X:Cx):Prop where
 sc:X.env.scope=T.sc
 kd:T.sc.kind=.function
 N:X.N=T.N
 nd:T.N.Nodup
 calm:X.calm=Ab
 room:Room k X.A
 bl:∀ x,x∈T.bl->X.mg x=Ae
 fn:∀ p∈T.fns,∃ f fd ps,X.mg p.1=Aa (.ref f)/\B2 X.K (.ref f)=Ab/\FV X.K fd ps []/\ps.length=p.2.2%1000/\(p.2.2<1000->FnOk X.prog X.w X.K X.mg X.base (CXR X.prog X.w) k f fd ps (spD X.K CL (p.2.2%1000) (Z.fr p.2.1) (Z.F p.2.1)))/\(1000<=p.2.2->HotOk X.prog X.w X.K X.mg X.base k f fd ps (spH X.K CL (p.2.2%1000) (Z.fr p.2.1) (Z.F p.2.1)))
 own:FH (model X.prog X.w) X.A X.env X.xe
 px:∀ A,LK (CXR X.prog X.w) X (EKW X.K CL A W)
 rz:Nm X CL W
 xt:XT Z.up Z.xn CL T.rzs T.exs X.K X.mg
 gl:∀ p∈T.gls,O3 X.K X.mg CL p.1 (Z.G p.2)
theorem QZ:∀ A,LK (CXR X.prog X.w) X (EKW X.K CL A W0):=λA pI Y H s ev s' I h=>by
 obtain⟨e,T,cls,dx,H',_,_,_,_,_,_,_,_,_,_,x,_,w⟩:=h;exact w.elim
theorem R8:Nm X CL W0:=λ_ _ _ _ _ _ _ _ _ _ _ _ _ _ z=>z.elim
def Rf{α:Type}(g f:Rho->R α):Prop:=∀ U,g U=.bad\/g U=f U
section
variable{X:Cx}{CL:ClA}{W:XW}{a:Am}{f g:Rho->R D}
theorem SE.ref(h:SE X CL W a f)(r:Rf g f):SE X CL W a g:=λA=>PE.weak (h A) λY H Q ⟨hA,U,q,p⟩=>⟨hA,U,q,by
 rcases r U with e|e
 .rw[e]at p;exact p.elim
 .rw[e]at p;exact p⟩
theorem SB.ref{f g:Rho->R Ai}(h:SB X CL W a f)(r:Rf g f):SB X CL W a g:=λA=>PT.weak (h A) λY H Q ⟨hA,U,q,p⟩=>⟨hA,U,q,by
 rcases r U with e|e
 .rw[e]at p;exact p.elim
 .rw[e]at p;exact p⟩
theorem SW.ref{f g:Rho->R Ai}(h:SW X CL W a f)(r:Rf g f):SW X CL W a g:=λA=>PW.weak (h A) λY H Q ⟨hA,U,q,p⟩=>⟨hA,U,q,by
 rcases r U with e|e
 .rw[e]at p;exact p.elim
 .rw[e]at p;exact p⟩
theorem SC.ref(h:SC X CL W fr a f)(r:Rf g f):SC X CL W fr a g:=λA=>PE.weak (h A) λY H Q ⟨hA,U,q,p⟩=>⟨hA,U,q,by
 rcases r U with e|e
 .rw[e]at p;exact p.elim
 .rw[e]at p;exact p⟩
theorem SS.ref{st:AO}{f g:Rho->O}(h:SS X CL W st f)(r:∀ U,g U=.bad\/g U=f U):SS X CL W st g:=λFz B=>PS.weak (h Fz B) λD Y H ⟨U,x,p⟩=>⟨U,x,by
 rcases r U with e|e
 .rw[e]at p;exact p.elim
 .rw[e]at p;exact p⟩
end
theorem Kn:∀{l:Ac Ah},LH l=Ab->l.Nodup
 |[],_=>DI
 |x::xs,h=>by
  unfold LH at h;simp only[Ak,Bu,Yu,decide_eq_false_iff_not]at h;exact List.nodup_cons.mpr ⟨h.1,Kn h.2⟩
section
variable{T:Tc}{X:Cx}{Z:Gam}{CL:ClA}{k:Ag}{W:XW}
theorem VC(h:R7 T x=Ab):Vis T.sc x:=by
 unfold R7 at h;split at h
 .exact .inl (by assumption)
 .exact .inr (.inl (by assumption))
 .exact .inr (.inr (by assumption))
 .cases h
theorem Ly(h:Jm T x=Ab):Loc T.sc x:=by
 unfold Jm at h;split at h
 .exact .inl (by assumption)
 .exact .inr (by assumption)
 .cases h
theorem HQ(h:GX x=Ab):(x==("__debug__" : Ah))=Ad/\(x==("__classdict__" : Ah))=Ad/\x≠"__name__" := by
 unfold GX at h;simp only[Ak,Bu]at h;exact⟨h.1.1,h.1.2,λe=>by subst e;exact absurd h.2 (by simp)⟩
theorem Hh{i:Ag}(v:VX Z CL k W T X)(h:isV T x i=Ab):PE X (.Name x pos) (EB i):=by
 unfold isV at h;simp only[Ak,AQ]at h;obtain⟨h2,h3,_⟩:=HQ h.2;exact Ol (by rw[v.N];exact h.1.1) (by rw[v.sc];exact VC h.1.2) h2 h3
theorem GQ(v:VX Z CL k W T X)(h:isB T x=Ab):Gl X x/\X.mg x=Ae/\x≠"__name__"/\(x==("__debug__" : Ah))=Ad:=by
 unfold isB glB at h;simp only[Ak,AQ,Yu,AW]at h;obtain⟨h2,h3,h4⟩:=HQ h.2;exact⟨by show X.env.scope.names.lookup x=_;rw[v.sc];exact h.1.2,v.bl x h.1.1,h4,h2⟩
theorem CA{x:Am}(h:DE x=Ab):As (x::xs) env=(Ad,eval x env)::As xs env:=by
 cases x<;>first|rfl|cases h
theorem jM{y:Am}(h:QB y=Ab):QX y:=by
 intro o i;cases y<;>first|rfl|cases h
theorem Oo{e:Am}(h:Na e=Ab):∀ x,CV e env x=pure x:=by
 intro x;cases e<;>first|rfl|cases h
theorem Lz{e:Am}{t:Ao Am}(h:KI e=Ab):CZ e t l env=pure Ad:=by
 cases e<;>first|rfl|cases h
theorem VI{e:Am}(h:IV e=Ab):∀ whole,IK e env whole=(do let v <-whole;HA e.pos;holding [v] (truthy v)):=by
 intro whole;cases e<;>first|rfl|cases h
theorem fP(v:VX Z CL k W T X)(scope:B5):relabel scope X.env=Ry T.sc scope:=by
 unfold relabel Ry;have:∀ n,X.env.kindOf n=T.sc.names.lookup n:=λn=>by show X.env.scope.names.lookup n=_;rw[v.sc]
 simp only[this,v.sc]
theorem Rh{N':Ac Ah}(v:VX Z CL k W T X)(h:No T scope ts N'=Ab):BlockOk X scope N' ts/\N'.Nodup/\scope.kind=.function:=by
 unfold No at h;simp only[Ak,AQ,D9,CH,GH,K8]at h;obtain⟨⟨⟨⟨⟨h1,h2⟩,h4⟩,h5⟩,h6⟩,h7⟩:=h;have at7:∀ i x,N'[i]?=Aa x->i∈ts\/((scope.names.lookup x≠Aa .local/\scope.names.lookup x≠Aa .cell)/\(scope.names.lookup x≠Aa .free\/T.N[i]?=Aa x)):=λi x e=>by
  have hi:=(A2.mp e).1;have:=h7 i (Bp.mpr hi);rcases this with z|z
  .exact .inl (by simpa using z)
  .rw[e]at z;simp only[Ak,GH,K8,CH,AQ]at z;exact .inr z
 refine⟨⟨h1,h2,λy hy hl=>by rw[h2 y hy,hl],λy hy hf=>?_,by rw[v.N];exact h5,λi x e hf hn=>?_,λi x e hl=>?_⟩,Kn h6,h1⟩
 .rw[v.sc];rcases h4 y hy with (z|z)|z
  .exact absurd hf z
  .exact .inl z
  .exact .inr z
 .rw[v.N];rcases at7 i x e with z|⟨_,z⟩
  .exact absurd z hn
  .exact z.resolve_left λq=>q hf
 .rcases at7 i x e with z|⟨z,_⟩
  .exact z
  .exact hl.elim (λq=>absurd q z.1) (λq=>absurd q z.2)
theorem VX.blk{xs:Ac Ah}{cl:Ac (Ah×Al)}{s:Ap}{fp:Ac Al}(v:VX Z CL k W T X)(h:No T scope ts (Mb ts xs T.N)=Ab):VX Z CL k W0 (T.blk scope ts xs) (cxC X scope cl C (Mb ts xs T.N) s H fp):=by
 obtain⟨_,h2,h3⟩:=Rh v h;exact⟨fP v scope,h3,rfl,h2,v.calm,v.room,v.bl,v.fn,PassesOwn.never,QZ,R8,v.xt,v.gl⟩
theorem nZ{t:Ag}(v:VX Z CL k W T X)(hfn:scope.names.lookup x=Aa .cell->X.fn x=Ab)(h:tgO T scope t x=Ab):PG X (.Name x pos) (Fl t):=by
 unfold tgO at h;simp only[Ak,CH,AQ]at h;rcases h with ⟨h1,h2|h2⟩
 .exact MQ (by rw[v.N];exact v.nd) (by rw[v.N];exact h1) (by rw[v.sc];exact .inl h2) (.inr (by rw[v.sc];exact h2))
 .exact MQ (by rw[v.N];exact v.nd) (by rw[v.N];exact h1) (by rw[v.sc];exact .inr h2.1) (.inl (hfn h2.2))
theorem PJ{y:Am}{r:Ac Am}{zs:Ac Ah}(h:Fi (y::r)=Aa zs):∃ x p ws,y=.Name x p/\Fi r=Aa ws/\zs=x::ws:=by
 cases y with
 |Name x p=>
  have h':(Fi r).map (x :: ·)=Aa zs:=h;cases e:Fi r with
  |none=>rw[e]at h';cases h'
  |some ws=>rw[e]at h';cases h';exact⟨x,p,ws,rfl,rfl,rfl⟩
 |_=>cases h
theorem Qf(x:Ah)(p:AG)(r:Ac Am)(env:B8):B9 (.Name x p::r) env=(Ad,assign (.Name x p) env)::B9 r env:=rfl
theorem PH:∀(ys:Ac Am)(zs:Ac Ah),Fi ys=Aa zs->(B9 ys env).length=ys.length/\(B9 ys env).findIdx? (·.1)=Ae/\(B9 ys env).map (·.2)=ys.map λy=>assign y env:=by
 intro ys
 induction ys with
 |nil=>intro _ _;exact⟨rfl,rfl,rfl⟩
 |cons y r ih=>
  intro zs h;obtain⟨x,p,ws,rfl,e,rfl⟩:=PJ h;obtain⟨h1,h2,h3⟩:=ih ws e;rw[Qf];refine⟨?_,?_,?_⟩
  .rw[Bm,Bm,h1]
  .rw[List.findIdx?_cons,h2];simp
  .rw[Cj,Cj,h3]
theorem mH(v:VX Z CL k W T X):∀(ys:Ac Am)(ts:Ac Ag)(zs:Ac Ah),Fi ys=Aa zs->tgB T ts zs=Ab->PGs X ys (ts.foldr (λt u=>HX (Fl t) u) Ib)/\ts.length=ys.length:=by
 intro ys
 induction ys with
 |nil=>
  intro ts zs e h;cases e;cases ts with
  |nil=>exact⟨QM,rfl⟩
  |cons t ts=>cases h
 |cons y r ih=>
  intro ts zs e h;obtain⟨x,p,ws,rfl,e2,rfl⟩:=PJ e;cases ts with
  |nil=>cases h
  |cons t ts=>
   have h':(T.N[t]? == Aa x&&T.sc.names.lookup x==Aa .local&&tgB T ts ws)=Ab:=h;simp only[Ak,AQ]at h';obtain⟨h1,h2⟩:=ih ts ws e2 h'.2;exact⟨NM (MQ (by rw[v.N];exact v.nd) (by rw[v.N];exact h'.1.1) (by rw[v.sc];exact .inl h'.1.2) (.inr (by rw[v.sc];exact h'.1.2))) h1 (by rw[Qf];rfl),congrArg (· + 1) h2⟩
theorem mG(v:VX Z CL k W T X)(hn:(Fi ys).isSome=Ab)(h:tgB T ts (tgN ys)=Ab):PG X (.Tuple ys kk pos) (Mj X.K ts.length (ts.foldr (λt u=>HX (Fl t) u) Ib)):=by
 cases e:Fi ys with
 |none=>rw[e]at hn;cases hn
 |some zs=>
  have e2:tgN ys=zs:=by unfold tgN;rw[e];rfl
  rw[e2]at h;obtain⟨h1,h2⟩:=mH v ys ts zs e h;obtain⟨h3,h4,_⟩:=PH (env:=X.env) ys zs e;exact Oj v.calm h1 (by rw[h3,h2]) h4
end
noncomputable def Es.len:Es->Ag
 |.nil=>0
 |.cons _ es=>es.len+1
theorem Ku(Z:Gam)(U:Rho):∀(es:Es)(ds:Ac D),evA Z U es=.ok ds->ds.length=es.len
 |.nil,ds,h=>by cases h;rfl
 |.cons e es,ds,h=>by
  obtain⟨x,h1,h2⟩:=Ks (Vb Z U e es ▸ h);obtain⟨xs,h3,h4⟩:=Ks h2;cases h4;exact congrArg (· + 1) (Ku Z U es xs h3)
theorem MU(Z:Gam)(U:Rho):∀(es:Es)(ds:Ac D),evB Z U es=.ok ds->ds.length=es.len
 |.nil,ds,h=>by cases h;rfl
 |.cons e es,ds,h=>by
  obtain⟨x,h1,h2⟩:=Ks (Qm Z U e es ▸ h);obtain⟨xs,h3,h4⟩:=Ks h2;cases h4;exact congrArg (· + 1) (MU Z U es xs h3)
theorem WO(Z:Gam)(U:Rho)(e:E)(h:shE U e=Ab):top U e (evE Z U e)=evE Z U e:=by
 cases e with
 |var i=>
  show Dk U i=E2 U i;have h':shV U i=Ab:=h;unfold shV at h';unfold Dk E2;cases q:U[i]? with
  |none=>rfl
  |some x=>
   cases x with
   |none=>rfl
   |some y=>
    obtain⟨d,o⟩:=y;cases o with
    |true=>rw[q]at h';cases h'
    |false=>rfl
 |_=>rfl
theorem M0(Z:Gam)(U:Rho):∀(es:Es),HY U es=Ab->evB Z U es=evA Z U es
 |.nil,_=>rfl
 |.cons e es,h=>by
  simp only[gH,Ak]at h;rw[Vb,Qm,WO Z U e h.1,M0 Z U es h.2]
theorem Rb(Z:Gam)(c:E):Rf (λU=>evE Z U c) (λU=>top U c (evE Z U c)):=λU=>by
 by_cases h:shE U c=Ab
 .exact .inr (WO Z U c h).symm
 .cases c with
  |var i=>
   refine .inl ?_;show E2 U i=.bad;have h':¬ shV U i=Ab:=h;unfold shV at h';unfold E2;cases q:U[i]? with
   |none=>rfl
   |some x=>
    cases x with
    |none=>rfl
    |some y=>
     obtain⟨d,o⟩:=y;cases o with
     |true=>rfl
     |false=>rw[q]at h';exact absurd rfl h'
  |_=>exact absurd rfl h
def Pcs(X:Cx)(CL:ClA)(W:XW)(e:Am)(f:Rho->R D):Prop:=∃ tg iter elt ifs scope pos N' ts fi fc fe as g,e=.ListComp elt [⟨tg,iter,ifs,0⟩] scope pos/\BlockOk X scope N' ts/\SI X CL W tg iter fi/\GG X.K CL ts as g /\
 (∀ cl C s H fp,PG (cxC X scope cl C N' s H fp) tg g)/\(∀ cl C s H fp,STs (cxC X scope cl C N' s H fp) CL ifs fc)/\(∀ cl C s H fp,SE (cxC X scope cl C N' s H fp) CL W0 elt fe)/\(∀ x,CV iter X.env x=pure x) /\
 ∀ U,f U=(fi U).bind λxs=>(noX (BD (λx=>(as x U).bind fc) (λx=>(as x U).bind fe) xs)).bind λys=>.ok (.lst ys)
theorem Pcs.sc{e:Am}{f:Rho->R D}(hc:X.calm=Ab)(h:Pcs X CL W e f):SC X CL W Ab e f:=by
 obtain⟨tg,iter,elt,ifs,scope,pos,N',ts,fi,fc,fe,as,g,rfl,B,hi,hGG,hg,ht,he,hs,ef⟩:=h;exact SC.congr (nB hc B hi hGG hg ht he hs) ef
structure OkE (Z:Gam) (CL:ClA) (W:XW) (X:Cx) (e:Am) (c:E):Prop where
 se:SE X CL W e (λU=>evE Z U c)
 st:ST X CL W e (λU=>top U c (evE Z U c))
 nw:DR Z c=Ab->SC X CL W Ab e (λU=>evE Z U c)
 cp:KI e=Ad->Pcs X CL W e (λU=>evE Z U c)
section
variable{Z:Gam}{CL:ClA}{W:XW}{X:Cx}{e:Am}{c:E}
theorem EL(h:SE X CL W e (λU=>evE Z U c))(ht:∀ U r,top U c r=r)(hn:DR Z c=Ad)(hc:KI e=Ab):OkE Z CL W X e c:=
 ⟨h,by simp only[ht];exact h.st,λz=>absurd z (by rw[hn];decide),λz=>absurd z (by rw[hc];decide)⟩
theorem Oa(h:SC X CL W Ab e (λU=>evE Z U c))(ht:∀ U r,top U c r=r)(hc:KI e=Ab):OkE Z CL W X e c:=
 ⟨h.se,by simp only[ht];exact h.se.st,λ_=>h,λz=>absurd z (by rw[hc];decide)⟩
theorem XM(hc:X.calm=Ab)(h:Pcs X CL W e (λU=>evE Z U c))(ht:∀ U r,top U c r=r):OkE Z CL W X e c:=
 ⟨(h.sc hc).se,by simp only[ht];exact(h.sc hc).se.st,λ_=>h.sc hc,λ_=>h⟩
end
theorem bQ{k:Ki}(h:RI k=Aa x):∃ T,tyK k=Aa T/\C8 x=Aa (.type T):=by
 cases k<;>simp only[RI]at h<;>cases h
 .exact⟨_,rfl,Y_1⟩
 .exact⟨_,rfl,PyProof.Rows.boot_bool⟩
 .exact⟨_,rfl,PyProof.Rows.boot_str⟩
 .exact⟨_,rfl,F1⟩
 .exact⟨_,rfl,Y_2⟩
structure Snd (Z:Gam) (CL:ClA) (k:Ag) (n:Ag):Prop where
 e:∀(W:XW)(T:Tc)(X:Cx)(x:Am)(c:E),VX Z CL k W T X->Bh n T x c=Ab->OkE Z CL W X x c
 b:∀(W:XW)(T:Tc)(X:Cx)(x:Am)(c:E),VX Z CL k W T X->ID n T x c=Ab->SB X CL W x (λU=>(top U c (evE Z U c)).bind BN)
 bs:∀(W:XW)(T:Tc)(X:Cx)(xs:Ac Am)(es:Es)(pos:AG),VX Z CL k W T X->chkBs n T xs es=Ab->xs≠[]->SW X CL W (.BoolOp .And xs pos) (λU=>(evN Z U es).bind BN)/\SW X CL W (.BoolOp .Or xs pos) (λU=>(evO Z U es).bind BN)
 es:∀(W:XW)(T:Tc)(X:Cx)(xs:Ac Am)(es:Es),VX Z CL k W T X->chkEs n T xs es=Ab->SA X CL W xs (λU=>evA Z U es)/\SAT X CL W xs (λU=>evB Z U es)/\xs.length=es.len/\(∀ pos,xs≠[]->SE X CL W (.BoolOp .And xs pos) (λU=>evN Z U es)/\SE X CL W (.BoolOp .Or xs pos) (λU=>evO Z U es))/\(∀ pos,(BP pos (As xs X.env)).any (·.1)=Ad)
 o:∀(W:XW)(T:Tc)(X:Cx)(x:Ao Am)(c:E),VX Z CL k W T X->chkO n T x c=Ab->SO X CL W x (λU=>(top U c (evE Z U c)).bind (slE c))
 t:∀(T:Tc)(X:Cx)(xs:Ac Am)(c:E),VX Z CL k W0 T X->chkT n T xs c=Ab->STs X CL xs (λU=>(top U c (evE Z U c)).bind BN)
 i:∀(W:XW)(T:Tc)(X:Cx)(tu:Ai)(tg x:Am)(i:I),VX Z CL k W T X->Sy tu tg=Ab->chkI n T tu x i=Ab->SI X CL W tg x (λU=>evI Z U i)
section
variable{Z:Gam}{CL:ClA}{W:XW}{k n:Ag}{T:Tc}{X:Cx}
theorem jL:Snd Z CL k 0:=⟨λ_ _ _ _ _ _ h=>noF h,λ_ _ _ _ _ _ h=>noF h,λ_ _ _ _ _ _ _ h=>noF h,λ_ _ _ _ _ _ h=>noF h,λ_ _ _ _ _ _ h=>noF h,λ_ _ _ _ _ h=>noF h,λ_ _ _ _ _ _ _ _ _ h=>noF h⟩
theorem Tu{x:Am}(h:DE x=Ab)(hx:(BP pos (As xs env)).any (·.1)=Ad):(BP pos (As (x::xs) env)).any (·.1)=Ad:=by
 rw[CA h];show (Ad||(BP pos (As xs env)).any (·.1))=Ad;rw[hx];rfl
theorem sK(S:Snd Z CL k n)(W:XW)(T:Tc)(X:Cx)(xs:Ac Am)(es:Es)(v:VX Z CL k W T X)(h:chkEs (n+1) T xs es=Ab):SA X CL W xs (λU=>evA Z U es)/\SAT X CL W xs (λU=>evB Z U es)/\xs.length=es.len/\(∀ pos,xs≠[]->SE X CL W (.BoolOp .And xs pos) (λU=>evN Z U es)/\SE X CL W (.BoolOp .Or xs pos) (λU=>evO Z U es))/\(∀ pos,(BP pos (As xs X.env)).any (·.1)=Ad):=by
 cases xs with
 |nil=>
  cases es with
  |nil=>exact⟨Q5,Vw,rfl,λ_ z=>absurd rfl z,λ_=>rfl⟩
  |cons=>exact noF h
 |cons x xs=>
  cases es with
  |nil=>exact noF h
  |cons e es=>
   replace h:(DE x&&Bh n T x e&&chkEs n T xs es)=Ab:=h;simp only[Ak]at h;obtain⟨⟨h0,h1⟩,h2⟩:=h;have he:=S.e W T X x e v h1;obtain⟨a1,a2,a3,a4,a5⟩:=S.es W T X xs es v h2;refine⟨QK he.se a1 (CA h0),UE he.st a2 (CA h0),congrArg (· + 1) a3,λpos _=>?_,λpos=>Tu h0 (a5 pos)⟩
   cases xs with
   |nil=>
    cases es with
    |nil=>exact⟨Q1 he.se,Q1 he.se⟩
    |cons=>cases a3
   |cons y ys=>
    cases es with
    |nil=>cases a3
    |cons e' es'=>
     obtain⟨b1,b2⟩:=a4 pos (by simp)
     exact⟨W3 he.se b1,zP he.se b2⟩
theorem yL(S:Snd Z CL k n)(W:XW)(T:Tc)(X:Cx)(x:Ao Am)(c:E)(v:VX Z CL k W T X)(h:chkO (n+1) T x c=Ab):SO X CL W x (λU=>(top U c (evE Z U c)).bind (slE c)):=by
 cases x with
 |none=>
  obtain rfl:=kR h;exact mU
 |some x=>
  replace h:(!(OA c)&&Bh n T x c)=Ab:=h;rw[Ak]at h;have q:=mT (S.e W T X x c v h.2).st;have e:slE c=λd=>(D3 d).bind λi=>.ok (Aa i):=by
   funext d
   cases c<;>first|rfl|exact absurd (show Ad=Ab from h.1) AF
  rw[e];exact q
theorem yJ(S:Snd Z CL k n)(T:Tc)(X:Cx)(xs:Ac Am)(c:E)(v:VX Z CL k W0 T X)(h:chkT (n+1) T xs c=Ab):STs X CL xs (λU=>(top U c (evE Z U c)).bind BN):=by
 cases xs with
 |nil=>
  replace h:=oP h;obtain⟨b,rfl,h⟩:=h;subst h;exact mK
 |cons x xs=>
  replace h:(xs.isEmpty&&ID n T x c)=Ab:=h;rw[Ak]at h;obtain rfl:=Iu h.1;exact mJ (S.b W0 T X x c v h.2)
theorem yM(S:Snd Z CL k n)(W:XW)(T:Tc)(X:Cx)(tu:Ai)(tg x:Am)(i:I)(v:VX Z CL k W T X)(ht':Sy tu tg=Ab)(h:chkI (n+1) T tu x i=Ab):SI X CL W tg x (λU=>evI Z U i):=by
 have ht:tu=Ab->bj tg=Ab:=λz=>by
  subst z;cases tg<;>first|rfl|cases ht'
 cases i with
 |e a=>
  exact eB (S.e W T X x a v h).se
 |rng a=>
  replace h:=JL h;obtain⟨g,pp,l,qq,rfl,h⟩:=h;replace h:=Fh h;obtain⟨y,rfl,h⟩:=h;simp only[Ak,AQ]at h;obtain⟨⟨⟨rfl,h1⟩,h2⟩,h3⟩:=h;obtain⟨g1,g2,_,_⟩:=GQ v h1;exact uV (S.e W T X _ a v h3).st g1 g2 (CA h2)
 |rng2 a b=>
  replace h:=JL h;obtain⟨g,pp,l,qq,rfl,h⟩:=h;replace h:=HN h;obtain⟨y,z,rfl,h⟩:=h;simp only[Ak,AQ]at h;obtain⟨⟨⟨⟨⟨rfl,h1⟩,h2⟩,h3⟩,h4⟩,h5⟩:=h;obtain⟨g1,g2,_,_⟩:=GQ v h1;exact mW (S.e W T X _ a v h4).st (S.e W T X _ b v h5).st g1 g2 (by rw[CA h2,CA h3];rfl) (by rw[CA h3];rfl)
 |zip a b=>
  replace h:=JL h;obtain⟨g,pp,l,qq,rfl,h⟩:=h;replace h:=HN h;obtain⟨y,z,rfl,h⟩:=h;simp only[Ak,AQ]at h;obtain⟨⟨⟨⟨⟨⟨h0,rfl⟩,h1⟩,h2⟩,h3⟩,h4⟩,h5⟩:=h;obtain⟨g1,g2,_,_⟩:=GQ v h1;have hg:=ht h0;cases tg with
  |Tuple es m tpos=>exact uU (S.e W T X _ a v h4).se (S.e W T X _ b v h5).se g1 g2 (by rw[CA h2,CA h3];rfl) (by rw[CA h3];rfl)
  |_=>cases hg
 |zip3 a b c=>exact absurd (show Ad=Ab from h) AF
 |enm a=>
  replace h:=JL h;obtain⟨g,pp,l,qq,rfl,h⟩:=h;replace h:=Fh h;obtain⟨y,rfl,h⟩:=h;simp only[Ak,AQ]at h;obtain⟨⟨⟨⟨h0,rfl⟩,h1⟩,h2⟩,h3⟩:=h;obtain⟨g1,g2,_,_⟩:=GQ v h1;have hg:=ht h0;cases tg with
  |Tuple es m tpos=>exact mX (S.e W T X _ a v h3).se g1 g2 (CA h2)
  |_=>cases hg
theorem Lr{c:Prop}[Gm c]{b:Ai}:(if c then R.ok (D.bl b) else .bad)=.bad\/∃ b',(if c then R.ok (D.bl b) else .bad)=.ok (.bl b'):=by
 by_cases h:c
 .rw[Ax h];exact .inr ⟨_,rfl⟩
 .rw[AC h];exact .inl rfl
theorem Vf(op:Dg)(d d':D):B1 op d d'=.bad\/∃ b,B1 op d d'=.ok (.bl b):=by
 cases op with
 |Eq=>exact Lr
 |NotEq=>exact Lr
 |In=>
  cases d' with
  |lst ys=>exact Lr
  |tup ys=>exact Lr
  |dic kvs=>
   show (match JW d with|some k=>R.ok (D.bl (kvs.any λp=>p.1==k))|none=>.bad)=.bad\/∃ b,(match JW d with|some k=>R.ok (D.bl (kvs.any λp=>p.1==k))|none=>.bad)=.ok (.bl b)
   cases JW d with
   |some k=>exact .inr ⟨_,rfl⟩
   |none=>exact .inl rfl
  |_=>exact .inl rfl
 |NotIn=>
  cases d' with
  |lst ys=>exact Lr
  |tup ys=>exact Lr
  |_=>exact .inl rfl
 |Is=>
  cases d' with
  |non=>cases d<;>first|exact .inr ⟨_,rfl⟩|exact .inl rfl
  |_=>cases d<;>first|exact .inl rfl|exact .inr ⟨_,rfl⟩
 |IsNot=>
  cases d' with
  |non=>cases d<;>first|exact .inr ⟨_,rfl⟩|exact .inl rfl
  |_=>cases d<;>first|exact .inl rfl|exact .inr ⟨_,rfl⟩
 |_=>
  cases d with
  |int i=>cases d'<;>first|exact .inr ⟨_,rfl⟩|exact .inl rfl
  |_=>exact .inl rfl
theorem VZ(op:Dg)(d d':D):(B1 op d d').bind BN=.bad\/(B1 op d d').bind BN=(B1 op d d').bind DF:=by
 rcases Vf op d d' with h|⟨b,h⟩
 .rw[h];exact .inl rfl
 .rw[h];exact .inr rfl
theorem Wi(e e':E)(es:Es):Rf (λU=>(evN Z U (.cons e (.cons e' es))).bind BN) (λU=>((top U e (evE Z U e)).bind BN).bind λc=>if c=Ab then (evN Z U (.cons e' es)).bind BN else .ok Ad):=λU=>by
 have e0:evN Z U (.cons e (.cons e' es))=(evE Z U e).bind λx=>(DF x).bind λc=>if c=Ab then evN Z U (.cons e' es) else .ok (.bl Ad):=rfl
 dsimp only;rw[e0];rcases Rb Z e U with z|z<;>dsimp only at z
 .rw[z];exact .inl rfl
 .rw[<-z];cases evE Z U e with
  |bad=>exact .inl rfl
  |exn x=>exact .inr rfl
  |ok d=>
   cases d with
   |bl b=>cases b<;>exact .inr rfl
   |_=>exact .inl rfl
theorem Wh(e e':E)(es:Es):Rf (λU=>(evO Z U (.cons e (.cons e' es))).bind BN) (λU=>((top U e (evE Z U e)).bind BN).bind λc=>if c=Ab then .ok Ab else (evO Z U (.cons e' es)).bind BN):=λU=>by
 have e0:evO Z U (.cons e (.cons e' es))=(evE Z U e).bind λx=>(DF x).bind λc=>if c=Ab then .ok (.bl Ab) else evO Z U (.cons e' es):=rfl
 dsimp only;rw[e0];rcases Rb Z e U with z|z<;>dsimp only at z
 .rw[z];exact .inl rfl
 .rw[<-z];cases evE Z U e with
  |bad=>exact .inl rfl
  |exn x=>exact .inr rfl
  |ok d=>
   cases d with
   |bl b=>cases b<;>exact .inr rfl
   |_=>exact .inl rfl
theorem Rf.tru(e:E):Rf (λU=>(evE Z U e).bind BN) (λU=>(top U e (evE Z U e)).bind BN):=λU=>by
 rcases Rb Z e U with z|z<;>dsimp only at z ⊢
 .rw[z];exact .inl rfl
 .rw[<-z];exact .inr rfl
theorem sN(S:Snd Z CL k n)(W:XW)(T:Tc)(X:Cx)(xs:Ac Am)(es:Es)(pos:AG)(v:VX Z CL k W T X)(h:chkBs (n+1) T xs es=Ab)(hne:xs≠[]):SW X CL W (.BoolOp .And xs pos) (λU=>(evN Z U es).bind BN)/\SW X CL W (.BoolOp .Or xs pos) (λU=>(evO Z U es).bind BN):=by
 cases xs with
 |nil=>exact absurd rfl hne
 |cons x xs=>
  cases es with
  |nil=>exact noF h
  |cons e es=>
   replace h:(ID n T x e&&chkBs n T xs es)=Ab:=h;simp only[Ak]at h;obtain⟨h1,h2⟩:=h;have he:=S.b W T X x e v h1;cases xs with
   |nil=>
    cases es with
    |nil=>exact⟨SW.ref (VJ he) (Rf.tru e),SW.ref (WR he) (Rf.tru e)⟩
    |cons=>
     cases n with
     |zero=>exact absurd (show Ad=Ab from h2) AF
     |succ n=>exact absurd (show Ad=Ab from h2) AF
   |cons y ys=>
    cases es with
    |nil=>
     cases n with
     |zero=>exact absurd (show Ad=Ab from h2) AF
     |succ n=>exact absurd (show Ad=Ab from h2) AF
    |cons e' es'=>
     obtain⟨b1,b2⟩:=S.bs W T X (y::ys) (.cons e' es') pos v h2 (by simp)
     exact⟨SW.ref (WS he b1) (Wi e e' es'),SW.ref (Xf he b2) (Wh e e' es')⟩
theorem nY(S:Snd Z CL k n){x:Am}{ops:Ac Dg}{b:BI}(v:VX Z CL k W T X)(h:RZ T (Bh n) x ops ys b as=Ab):SB X CL W (.Compare x ops ys pos) (λU=>(top U (.bi b as) (evE Z U (.bi b as))).bind BN):=by
 exact absurd (show Ad=Ab from h) AF
theorem yO(S:Snd Z CL k n)(W:XW)(T:Tc)(X:Cx)(x:Am)(c:E)(v:VX Z CL k W T X)(h:ID (n+1) T x c=Ab):SB X CL W x (λU=>(top U c (evE Z U c)).bind BN):=by
 have plain:∀ e,IV e=Ab->Bh n T e c=Ab->SB X CL W e (λU=>(top U c (evE Z U c)).bind BN):=λe h1 h2=>W5 (S.e W T X e c v h2).st (VI h1)
 replace h:((Jo x λo x=>decide (o=.Not)&&(Mi c λa=>ID n T x a))||(Iy x λo xs _=>(decide (o=.And)&&(LU c λes=>chkBs n T xs es && !xs.isEmpty))||(decide (o=.Or)&&(Mh c λes=>chkBs n T xs es && !xs.isEmpty)))||(LR x λx os ys=>(OJ c λop a b=>EA os λop'=>EA ys λy=>decide (op'=op) && !behindInMarks op y&&Bh n T x a&&Bh n T y b)||(OK c λop1 op2 a b c=>GB os λo1 o2=>GB ys λy z=>decide (o1=op1)&&decide (o2=op2) && !lastMarks [op1,op2] [y,z]&&Bh n T x a&&Bh n T y b&&Bh n T z c)||(OM c λb as=>RZ T (Bh n) x os ys b as))||IV x&&Bh n T x c)=Ab:=h
 replace h:=(orT h).imp_left λz=>(orT z).imp_left orT
 rcases h with ((h|h)|h)|h
 .replace h:=MR h;obtain⟨o,y,p,rfl,h⟩:=h;replace h:=Ce h;obtain⟨h0,h⟩:=h;obtain rfl:=AN h0;replace h:=V2 h;obtain⟨a,rfl,h⟩:=h
  .skip
   refine SB.ref (W6 (S.b W T X _ a v h)) λU=>?_
   show ((top U a (evE Z U a)).bind λx=>(DF x).bind λb=>.ok (.bl (!b))).bind BN=.bad\/((top U a (evE Z U a)).bind λx=>(DF x).bind λb=>.ok (.bl (!b))).bind BN=_
   cases top U a (evE Z U a) with
   |bad=>exact .inl rfl
   |exn x=>exact .inr rfl
   |ok d=>cases d<;>first|exact .inr rfl|exact .inl rfl
 .replace h:=Lo h;obtain⟨o,ys,p,rfl,h⟩:=h;replace h:=orT h;rcases h with h|h
  .replace h:=Ce h;obtain⟨h0,h⟩:=h;obtain rfl:=AN h0;replace h:=UV h;obtain⟨es,rfl,h⟩:=h;simp only[Ak,Bu,CJ]at h;exact(S.bs W T X _ _ _ v h.1 h.2).1.sb
  .replace h:=Ce h;obtain⟨h0,h⟩:=h;obtain rfl:=AN h0;replace h:=Vp h;obtain⟨es,rfl,h⟩:=h;simp only[Ak,Bu,CJ]at h;exact(S.bs W T X _ _ _ v h.1 h.2).2.sb
 .replace h:=Qw h;obtain⟨w,os,ys,p,rfl,h⟩:=h;replace h:=(orT h).imp_left orT;rcases h with (h|h)|h
  .replace h:=lO h;obtain⟨op,a,b,rfl,h⟩:=h;replace h:=Fh h;obtain⟨op',rfl,h⟩:=h;replace h:=Fh h;obtain⟨y,rfl,h⟩:=h
   .simp only[Ak,Bu,AW]at h;obtain⟨⟨⟨rfl,h1⟩,h2⟩,h3⟩:=h;refine SB.ref (vF (Lw v.room.units _) (S.e W T X _ a v h2).st (S.e W T X _ b v h3).st h1) λU=>?_
    show ((top U a (evE Z U a)).bind λx=>(top U b (evE Z U b)).bind λy=>B1 op' x y).bind BN=.bad\/((top U a (evE Z U a)).bind λx=>(top U b (evE Z U b)).bind λy=>B1 op' x y).bind BN=_
    cases top U a (evE Z U a) with
    |bad=>exact .inl rfl
    |exn x=>exact .inr rfl
    |ok d=>
     cases top U b (evE Z U b) with
     |bad=>exact .inl rfl
     |exn x=>exact .inr rfl
     |ok d'=>
      dsimp only[R.bind];exact VZ _ d d'
  .replace h:=lP h;obtain⟨op1,op2,a,b,c,rfl,h⟩:=h;replace h:=HN h;obtain⟨o1,o2,rfl,h⟩:=h;replace h:=HN h;obtain⟨y,z,rfl,h⟩:=h
   .simp only[Ak,Bu,AW]at h;obtain⟨⟨⟨⟨⟨rfl,rfl⟩,h1⟩,h2⟩,h3⟩,h4⟩:=h;refine SB.ref (jP v.room.units (S.e W T X _ a v h2).st (S.e W T X _ b v h3).st (S.e W T X _ c v h4).st h1) λU=>?_
    show ((top U a (evE Z U a)).bind λx=>(top U b (evE Z U b)).bind λy=>(B1 o1 x y).bind λz=>(DF z).bind λk=>if k=Ab then (top U c (evE Z U c)).bind λu=>B1 o2 y u else .ok (.bl Ad)).bind BN=.bad\/((top U a (evE Z U a)).bind λx=>(top U b (evE Z U b)).bind λy=>(B1 o1 x y).bind λz=>(DF z).bind λk=>if k=Ab then (top U c (evE Z U c)).bind λu=>B1 o2 y u else .ok (.bl Ad)).bind BN=_
    cases top U a (evE Z U a) with
    |bad=>exact .inl rfl
    |exn x=>exact .inr rfl
    |ok d=>
     cases top U b (evE Z U b) with
     |bad=>exact .inl rfl
     |exn x=>exact .inr rfl
     |ok d'=>
      dsimp only[R.bind];cases B1 o1 d d' with
      |bad=>exact .inl rfl
      |exn x=>exact .inr rfl
      |ok d3=>
       cases d3 with
       |bl k=>
        cases k with
        |false=>exact .inr rfl
        |true=>
         dsimp only[R.bind,DF];rw[Ax rfl,Ax rfl];cases top U c (evE Z U c) with
         |bad=>exact .inl rfl
         |exn x=>exact .inr rfl
         |ok d4=>exact VZ _ d' d4
       |_=>exact .inl rfl
  .replace h:=lR h;obtain⟨b,as,rfl,h⟩:=h;exact nY S v h
 .exact plain _ (Ce h).1 (Ce h).2
end
section
variable{Z:Gam}{CL:ClA}{W:XW}{k n:Ag}{T:Tc}{X:Cx}
theorem bR{b:BI}{x:Am}(v:VX Z CL k W T X)(hb:RJ b=Aa g)(hg:isB T g=Ab)(hs:SAT X CL W (x::xs) (λU=>evB Z U as))(h0:DE x=Ab)(hpl:∀ pos,(BP pos (As xs X.env)).any (·.1)=Ad):OkE Z CL W X (.Call (.Name g p) (x::xs) [] pos) (.bi b as):=by
 obtain⟨g1,g2,g3,g4⟩:=GQ v hg;cases b<;>simp only[RJ]at hb<;>cases hb
 .exact EL (Op xP g1 g2 PySem.boot_len hs g3 g4 (CA h0) hpl) (λ_ _=>rfl) rfl rfl
 .exact EL (Op (xO v.calm) g1 g2 PyProof.Rows.boot_min hs g3 g4 (CA h0) hpl) (λ_ _=>rfl) rfl rfl
 .exact EL (W2 xQ g1 g2 Y_1 hs g3 g4 (CA h0) hpl) (λ_ _=>rfl) rfl rfl
 .exact Oa (uR qR g1 g2 F1 hs g3 g4 (CA h0) hpl) (λ_ _=>rfl) rfl
 .exact EL (W2 kH g1 g2 Y_2 hs g3 g4 (CA h0) hpl) (λ_ _=>rfl) rfl rfl
 .exact EL (Op (xR v.calm) g1 g2 PyProof.Rows.boot_any hs g3 g4 (CA h0) hpl) (λ_ _=>rfl) rfl rfl
 .exact EL (Op (xN v.calm) g1 g2 PyProof.Rows.boot_sum hs g3 g4 (CA h0) hpl) (λ_ _=>rfl) rfl rfl
theorem MZ{l:Ac (Ah×Ag)}(h:inX l g c=Ab):(g,c)∈l:=by
 unfold inX at h;simp only[EQ,Ak,AQ]at h;obtain⟨p,hp,rfl,rfl⟩:=h;exact hp
theorem Li{x:Am}{es:Es}(h:chkEs n T (x::xs) es=Ab):DE x=Ab/\∃ e es',es=.cons e es'/\∃ m,n=m+1/\chkEs m T xs es'=Ab:=by
 cases n with
 |zero=>exact noF h
 |succ m=>
  cases es with
  |nil=>exact noF h
  |cons e es=>
   replace h:(DE x&&Bh m T x e&&chkEs m T xs es)=Ab:=h;simp only[Ak]at h;exact⟨h.1.1,e,es,rfl,m,rfl,h.2⟩
theorem Mx:∀(m:Ag)(xs:Ac Am)(es:Es),chkEs m T xs es=Ab->∀ pos,(BP pos (As xs X.env)).any (·.1)=Ad:=by
 intro m
 induction m with
 |zero=>intro xs es h;exact noF h
 |succ m ih=>
  intro xs es h pos;cases xs with
  |nil=>rfl
  |cons x xs=>
   obtain⟨h0,e,es',rfl,m',e1,h1⟩:=Li h;cases e1;exact Tu h0 (ih xs es' h1 pos)
theorem tT(S:Snd Z CL k n){x:Am}{b:BI}(v:VX Z CL k W T X)(h:(match O8 as with|some a=>(match S6 x with|some y=>decide (b=.rvs)&&Bh n T y a|none=>Ad)|none=>Ad)=Ab):OkE Z CL W X x (.bi b as):=by
 simp[O8]at h
theorem tE(S:Snd Z CL k n){x:Am}{b:BI}(v:VX Z CL k W T X)(h:(match RN as with|some (a,c)=>(match S5 x with|some (y,z,_)=>decide (b=.tlt) && !behindInMarks .Lt z&&Bh n T y a&&Bh n T z c|none=>Ad)|none=>Ad)=Ab):OkE Z CL W X x (.bi b as):=by
 simp[RN]at h
theorem yD{x:Am}{b:BI}(v:VX Z CL k W T X)(h:S0 T x b as=Ab):OkE Z CL W X x (.bi b as):=by
 exact absurd h AF
theorem sI(S:Snd Z CL k n){x:Am}{b:BI}(v:VX Z CL k W T X)(h:(match RV as with|some (a,k)=>(match SD x with|some (y,j)=>decide (b=.stp)&&decide (j=k)&&decide (0<=k)&&Bh n T y a|none=>Ad)|none=>Ad)=Ab):OkE Z CL W X x (.bi b as):=by
 simp[RV]at h
theorem vX(S:Snd Z CL k n){x:Am}{b:BI}(v:VX Z CL k W T X)(h:(match Ng as with|some (a,c)=>(match Nj x with|some (g,h,y,z)=>decide (b=.list)&&g==("list" : Ah)&&h==("range" : Ah)&&isB T g&&isB T h&&DE y&&DE z&&Bh n T y a&&Bh n T z c|none=>Ad)|none=>Ad)=Ab):OkE Z CL W X x (.bi b as):=by
 cases q1:Ng as with
 |none=>rw[q1]at h;cases h
 |some t1=>
  obtain⟨a,c⟩:=t1;cases q2:Nj x with
  |none=>rw[q1,q2]at h;cases h
  |some t2=>
   obtain⟨g,f,y,z⟩:=t2;rw[q1,q2]at h;simp only[Ak,AQ,AW]at h;obtain⟨⟨⟨⟨⟨⟨⟨⟨rfl,rfl⟩,rfl⟩,h1⟩,h2⟩,h3⟩,h4⟩,h5⟩,h6⟩:=h;obtain⟨p,p',pos,pos',rfl⟩:=oW q2;have e:=kL q1;subst e;obtain⟨g1,g2,_,_⟩:=GQ v h1;obtain⟨g3,g4,_,_⟩:=GQ v h2;refine Oa (SC.congr (uQ (S.e W T X _ a v h5).st (S.e W T X _ c v h6).st v.calm g1 g2 g3 g4 (by rw[CA h3,CA h4];rfl) (by rw[CA h4];rfl)) λU=>?_) (λ_ _=>rfl) rfl
   simp only[Rl,evB,lF,Ql,jF,R.bind_assoc,R.bind_ok,Th,vZ]
theorem oV(S:Snd Z CL k n){x:Am}{b:BI}(v:VX Z CL k W T X)(h:(match Nf as with|some a=>(match Ni x with|some (g,h,y)=>decide (b=.lset)&&g==("len" : Ah)&&h==("set" : Ah)&&isB T g&&isB T h&&DE y&&Bh n T y a|none=>Ad)|none=>Ad)=Ab):OkE Z CL W X x (.bi b as):=by
 cases q1:Nf as with
 |none=>rw[q1]at h;cases h
 |some a=>
  cases q2:Ni x with
  |none=>rw[q1,q2]at h;cases h
  |some t2=>
   obtain⟨g,f,y⟩:=t2;rw[q1,q2]at h;simp only[Ak,AQ,AW]at h;obtain⟨⟨⟨⟨⟨⟨rfl,rfl⟩,rfl⟩,h1⟩,h2⟩,h3⟩,h4⟩:=h;obtain⟨p,p',pos,pos',rfl⟩:=oU q2;have e:=kK q1;subst e;obtain⟨g1,g2,_,_⟩:=GQ v h1;obtain⟨g3,g4,_,_⟩:=GQ v h2;refine EL (SE.congr (mZ (S.e W T X _ a v h4).st v.room.units v.calm g1 g2 g3 g4 (by rw[CA h3];rfl)) λU=>?_) (λ_ _=>rfl) rfl rfl
   simp only[Rl,evB,R.bind_assoc,R.bind_ok]
theorem yN(S:Snd Z CL k n)(W:XW)(T:Tc)(X:Cx)(x:Am)(c:E)(v:VX Z CL k W T X)(h:Bh (n+1) T x c=Ab):OkE Z CL W X x c:=by
 cases c with
 |non=>
  replace h:=Ln h;obtain⟨c,u,p,rfl,h⟩:=h;obtain rfl:=AN h;exact EL uW (λ_ _=>rfl) rfl rfl
 |bl b=>
  replace h:=Ln h;obtain⟨c,u,p,rfl,h⟩:=h;obtain rfl:=AN h;exact EL Xv (λ_ _=>rfl) rfl rfl
 |int i=>
  replace h:=Ln h;obtain⟨c,u,p,rfl,h⟩:=h;obtain rfl:=AN h;exact EL vC (λ_ _=>rfl) rfl rfl
 |str i=>
  replace h:=Ln h;obtain⟨c,u,p,rfl,h⟩:=h;obtain rfl:=AN h;exact EL WZ (λ_ _=>rfl) rfl rfl
 |var i=>
  replace h:=Ez h;obtain⟨y,p,rfl,h⟩:=h;exact⟨WX (Hh v h),KG (Hh v h),λz=>(nomatch z),λz=>(nomatch z)⟩
 |glob g=>exact absurd (show Ad=Ab from h) AF
 |bin op a b=>
  replace h:=US h;obtain⟨y,op',z,p,rfl,h⟩:=h;simp only[Ak,AW]at h;obtain⟨⟨rfl,h1⟩,h2⟩:=h;have ha:=(S.e W T X _ a v h1).st;have hb:=(S.e W T X _ b v h2).st;refine⟨Q2 (QN _) ha hb,(Q2 (QN _) ha hb).st,λz=>?_,λz=>nomatch z⟩
  cases op'<;>first|exact uS ha hb|cases z
 |un op a=>
  replace h:=MR h;obtain⟨o,y,p,rfl,h⟩:=h;replace h:=Ce h;obtain⟨h0,h⟩:=h;obtain rfl:=AN h0;simp only[Ak,AW]at h;obtain⟨rfl,h1⟩:=h;exact EL (uX (S.e W T X _ a v h1).st) (λ_ _=>rfl) rfl rfl
 |no a=>
  replace h:=MR h;obtain⟨o,y,p,rfl,h⟩:=h;replace h:=Ce h;obtain⟨h0,h⟩:=h;obtain rfl:=AN h0;exact EL (W1 (S.e W T X _ a v h).st) (λ_ _=>rfl) rfl rfl
 |and es=>
  replace h:=Lo h;obtain⟨o,ys,p,rfl,h⟩:=h;replace h:=Ce h;obtain⟨h0,h⟩:=h;obtain rfl:=AN h0;simp only[Ak,Bu,CJ]at h;exact EL ((S.es W T X _ es v h.1).2.2.2.1 _ h.2).1 (λ_ _=>rfl) rfl rfl
 |or es=>
  replace h:=Lo h;obtain⟨o,ys,p,rfl,h⟩:=h;replace h:=Ce h;obtain⟨h0,h⟩:=h;obtain rfl:=AN h0;simp only[Ak,Bu,CJ]at h;exact EL ((S.es W T X _ es v h.1).2.2.2.1 _ h.2).2 (λ_ _=>rfl) rfl rfl
 |cmp op a b=>
  replace h:=Qw h;obtain⟨y,os,ys,p,rfl,h⟩:=h;replace h:=Fh h;obtain⟨op',rfl,h⟩:=h;replace h:=Fh h;obtain⟨z,rfl,h⟩:=h;simp only[Ak,Bu,AW]at h;obtain⟨⟨⟨rfl,h1⟩,h2⟩,h3⟩:=h;exact EL (vE (Lw v.room.units _) (S.e W T X _ a v h2).st (S.e W T X _ b v h3).st h1) (λ_ _=>rfl) rfl rfl
 |cmp2 op1 op2 a b c=>
  replace h:=Qw h;obtain⟨y,os,ys,p,rfl,h⟩:=h;replace h:=HN h;obtain⟨o1,o2,rfl,h⟩:=h;replace h:=HN h;obtain⟨z,w,rfl,h⟩:=h;simp only[Ak,Bu,AW]at h;obtain⟨⟨⟨⟨⟨rfl,rfl⟩,h1⟩,h2⟩,h3⟩,h4⟩:=h;exact EL (jN v.room.units (S.e W T X _ a v h2).st (S.e W T X _ b v h3).st (S.e W T X _ c v h4).st h1) (λ_ _=>rfl) rfl rfl
 |ite c a b=>exact absurd (show Ad=Ab from h) AF
 |call f as=>
  replace h:=NQ h;obtain⟨g,pp,y,ys,qq,rfl,h⟩:=h;simp only[Ak,EQ,AQ,AW]at h;obtain⟨⟨⟨⟨⟨p,hp,⟨rfl,rfl⟩,hl⟩,h900⟩,h1⟩,h2⟩,h3⟩:=h;obtain⟨fa,fd,ps,m1,m2,m3,m4,m5,_⟩:=v.fn p hp;have hlt:p.2.2<1000:=by omega
  rw[HH hlt]at m4 m5;have m5:=m5 hlt;obtain⟨n2,n3,n4⟩:=HQ h2;obtain⟨a1,a2,a3,a4,a5⟩:=S.es W T X _ as v h3;obtain⟨s0,e,es',rfl,m,rfl,s1⟩:=Li h3;have q:SC X CL W (Z.fr p.2.1) (.Call (.Name p.1 pp) (y::ys) [] qq) (λU=>evE Z U (.call p.2.1 (.cons e es'))):=nC (sh:=λU=>HY U (.cons e es')) m5 v.room (by unfold glB at h1;show X.env.scope.names.lookup p.1=_;rw[v.sc];exact eq_of_beq h1) m1 m2 m3 v.px a1 a2 (λU z=>M0 Z U _ z) (λU ds z=>by rw[MU Z U _ _ z,<-a3,hl];rfl) n2 (CA s0) (Mx m ys es' s1)
  exact⟨q.se,q.se.st,λz=>by
   have z':Z.fr p.2.1=Ab:=z;rw[z']at q;exact q,λz=>nomatch z⟩
 |bi b as=>
  unfold Bh at h;dsimp only at h;simp only[CH]at h;rcases h with (((((h|h)|h)|h)|h)|h)|h
  .replace h:=NQ h;obtain⟨g,pp,y,ys,qq,rfl,h⟩:=h;simp only[Ak,AQ]at h;obtain⟨⟨h1,h2⟩,h3⟩:=h;obtain⟨s0,e,es',rfl,m,rfl,s1⟩:=Li h3;exact bR v h1 h2 (S.es W T X _ _ v h3).2.1 s0 (Mx m _ es' s1)
  .exact yD v h
  .exact vX S v h
  .exact sI S v h
  .exact oV S v h
  .exact tE S v h
  .exact tT S v h
 |isi a ks=>
  replace h:=Fh h;obtain⟨k',rfl,h⟩:=h;replace h:=JL h;obtain⟨g,pp,l,qq,rfl,h⟩:=h;replace h:=HN h;obtain⟨y,t,rfl,h⟩:=h;replace h:=Ez h;obtain⟨t,pt,rfl,h⟩:=h;simp only[Ak,AQ]at h;obtain⟨⟨⟨⟨⟨rfl,h1⟩,h2⟩,h3⟩,h4⟩,h5⟩:=h;obtain⟨g1,g2,_,_⟩:=GQ v h1;obtain⟨b1,b2,b3,b4⟩:=GQ v h3;obtain⟨ty,t1,t2⟩:=bQ h2;exact EL (vA t1 g1 g2 b1 b2 t2 b3 b4 (S.e W T X _ a v h5).st (CA h4)) (λ_ _=>rfl) rfl rfl
 |idx a i=>
  replace h:=MI h;obtain⟨y,z,p,rfl,h⟩:=h;simp only[Ak]at h;obtain⟨⟨h1,h2⟩,h3⟩:=h;exact EL (vD (jM h1) (S.e W T X _ a v h2).st (S.e W T X _ i v h3).st) (λ_ _=>rfl) rfl rfl
 |sl a lo hi=>
  replace h:=MI h;obtain⟨y,s,p,rfl,h⟩:=h;replace h:=lL h;obtain⟨l,u,st,p',rfl,h⟩:=h;replace h:=Ce h;obtain⟨h0,h⟩:=h;obtain rfl:=YY.mp h0;simp only[Ak]at h;obtain⟨⟨h1,h2⟩,h3⟩:=h;refine Oa (SC.congr (bg (S.e W T X _ a v h1).st (S.o W T X _ lo v h2) (S.o W T X _ hi v h3)) λU=>?_) (λ_ _=>rfl) rfl
  show ((top U a (evE Z U a)).bind λx=>(top U lo (evE Z U lo)).bind λl=>(slE lo l).bind λl'=>(top U hi (evE Z U hi)).bind λh=>(slE hi h).bind λh'=>slD x l' h')=_
  simp only[R.bind_assoc]
 |tup es=>
  replace h:=JK h;obtain⟨ys,cc,p,rfl,h⟩:=h;simp only[Ak,AW]at h;have q:=S.es W T X _ es v h.1;exact EL (WY q.1 λU ds z=>by rw[Ku Z U _ _ z,<-q.2.2.1];omega) (λ_ _=>rfl) rfl rfl
 |lst es=>
  replace h:=Qu h;obtain⟨ys,p,rfl,h⟩:=h;simp only[Ak,AW]at h;have q:=S.es W T X _ es v h.1;exact Oa (Q0 q.1 λU ds z=>by rw[Ku Z U _ _ z,<-q.2.2.1];omega) (λ_ _=>rfl) rfl
 |comp elt t it c=>
  replace h:=V3 (e:=x) (F:=_) (by unfold Bh at h;exact h)
  obtain⟨y,tg,it',ifs,scope,p,rfl,h⟩:=h;replace h:=Ez h;obtain⟨w,pw,rfl,h⟩:=h;simp only[Ak]at h;obtain⟨⟨⟨⟨⟨h1,h2⟩,h3⟩,h4⟩,h5⟩,h6⟩:=h;refine XM v.calm ⟨_,_,_,_,_,_,_,_,_,_,_,_,_,rfl,(Rh v h3).1,S.i W T X Ad _ _ it v rfl h1,rS t,λcl C s H fp=>nZ (v.blk h3) (λz=>AQ.mpr z) h4,λcl C s H fp=>S.t _ _ _ c (v.blk h3) h5,λcl C s H fp=>(S.e W0 _ _ _ elt (v.blk h3) h6).se,Oo h2,λU=>rfl⟩ (λ_ _=>rfl)
 |compT elt ts it c=>
  replace h:=V3 (e:=x) (F:=_) (by unfold Bh at h;exact h)
  obtain⟨y,tg,it',ifs,scope,p,rfl,h⟩:=h;replace h:=JK h;obtain⟨ys,cc,pw,rfl,h⟩:=h;simp only[Ak]at h;obtain⟨⟨⟨⟨⟨⟨h0,h1⟩,h2⟩,h3⟩,h4⟩,h5⟩,h6⟩:=h;refine XM v.calm ⟨_,_,_,_,_,_,_,_,_,_,_,_,_,rfl,(Rh v h3).1,S.i W T X Ab _ _ it v rfl h1,vR ts,λcl C s H fp=>mG (v.blk h3) h0 h4,λcl C s H fp=>S.t _ _ _ c (v.blk h3) h5,λcl C s H fp=>(S.e W0 _ _ _ elt (v.blk h3) h6).se,Oo h2,λU=>rfl⟩ (λ_ _=>rfl)
 |tupI it=>exact absurd (show Ad=Ab from h) AF
 |dnew=>exact noF h
 |fld o f=>exact noF h
theorem snd:∀ n,Snd Z CL k n
 |0=>jL
 |n+1=>⟨yN (snd n),yO (snd n),sN (snd n),sK (snd n),yL (snd n),yJ (snd n),yM (snd n)⟩
end
section
variable{Z:Gam}{CL:ClA}{W:XW}{k n:Ag}{T:Tc}{X:Cx}
theorem mF{t:Ag}(v:VX Z CL k W T X)(hf:∀ x,X.fn x=Ab)(h:tgC T [t] [x]=Ab):PG X (.Name x pos) (Fl t):=by
 unfold tgC at h;simp only[Ak,AQ]at h;exact MQ (by rw[v.N];exact v.nd) (by rw[v.N];exact h.1.1) (by rw[v.sc];exact Ly h.1.2) (.inl (hf x))
theorem VH(v:VX Z CL k W T X)(hf:∀ x,X.fn x=Ab):∀(ys:Ac Am)(ts:Ac Ag)(zs:Ac Ah),Fi ys=Aa zs->tgC T ts zs=Ab->PGs X ys (ts.foldr (λt u=>HX (Fl t) u) Ib)/\ts.length=ys.length:=by
 intro ys
 induction ys with
 |nil=>
  intro ts zs e h;cases e;cases ts with
  |nil=>exact⟨QM,rfl⟩
  |cons t ts=>cases h
 |cons y r ih=>
  intro ts zs e h;obtain⟨x,p,ws,rfl,e2,rfl⟩:=PJ e;cases ts with
  |nil=>cases h
  |cons t ts=>
   have h':(T.N[t]? == Aa x&&Jm T x&&tgC T ts ws)=Ab:=h;simp only[Ak,AQ]at h';obtain⟨h1,h2⟩:=ih ts ws e2 h'.2;exact⟨NM (MQ (by rw[v.N];exact v.nd) (by rw[v.N];exact h'.1.1) (by rw[v.sc];exact Ly h'.1.2) (.inl (hf x))) h1 (by rw[Qf];rfl),congrArg (· + 1) h2⟩
theorem mE(v:VX Z CL k W T X)(hf:∀ x,X.fn x=Ab)(hn:(Fi ys).isSome=Ab)(h:tgC T ts (tgN ys)=Ab):PG X (.Tuple ys kk pos) (Mj X.K ts.length (ts.foldr (λt u=>HX (Fl t) u) Ib)):=by
 cases e:Fi ys with
 |none=>rw[e]at hn;cases hn
 |some zs=>
  have e2:tgN ys=zs:=by unfold tgN;rw[e];rfl
  rw[e2]at h;obtain⟨h1,h2⟩:=VH v hf ys ts zs e h;obtain⟨h3,h4,_⟩:=PH (env:=X.env) ys zs e;exact Oj v.calm h1 (by rw[h3,h2]) h4
theorem tF(v:VX Z CL k W T X)(hf:∀ x,X.fn x=Ab)(hn:(Fi ys).isSome=Ab)(h:tgC T ts (tgN ys)=Ab):PG X (.Tuple ys kk pos) (gSq X.K ts.length (ts.foldr (λt u=>HX (Fl t) u) Ib)):=by
 cases e:Fi ys with
 |none=>rw[e]at hn;cases hn
 |some zs=>
  have e2:tgN ys=zs:=by unfold tgN;rw[e];rfl
  rw[e2]at h;obtain⟨h1,h2⟩:=VH v hf ys ts zs e h;obtain⟨h3,h4,_⟩:=PH (env:=X.env) ys zs e;exact dw v.calm h1 (by rw[h3,h2]) h4
theorem tB{e:Am}(h:(XN e||C2 4 ys.length)=Ab):DW [.Tuple ys kk pos] e env=pure Ae:=by
 cases e with
 |Tuple vs a b=>
  have h4:=Dp (show C2 4 ys.length=Ab from h)
  have e2:(ys.length==2)=Ad:=by rw[C3];omega
  have e3:(ys.length==3)=Ad:=by rw[C3];omega
  unfold DW;dsimp only;rw[e2,e3];rfl
 |_=>rfl
theorem T4(ts:Ac Ag):∀ d U x,GU ts d U≠.exn x:=λd U x h=>by
 unfold GU at h;cases d with
 |tup xs=>
  dsimp only at h;cases e:EV ts xs U with
  |some r=>rw[e]at h;cases h
  |none=>rw[e]at h;cases h
 |_=>cases h
theorem jX(ts:Ac Ag):∀ d U x,Hj ts d U≠.exn x:=λd U x h=>by
 unfold Hj at h;split at h
 .split at h<;>cases h
 .exact T4 ts _ U x h
theorem jI{elt:Am}{gs:Ac Jr}:∃ b,CZ (.ListComp elt gs scope pos) (Aa (.Name x pos')) l env=pure b/\(b=Ab->env.scope.names.lookup x=Aa .local):=by
 refine⟨_,rfl,λh=>?_⟩
 simp only[Ak,AQ]at h;exact h.1.1.2
theorem Q4{v0:Am}{i:Ag}{e:E}(v:VX Z CL k W T X)(hf:∀ x,X.fn x=Ab)(hi:T.N[i]?=Aa x)(hl:Jm T x=Ab)(o:OkE Z CL W X v0 e)(hfr:fr=Ab->DR Z e=Ab):SAs X CL W fr i (.Assign [.Name x p] v0 pos) (λU=>evE Z U e):=by
 have hN:X.N.Nodup:=by rw[v.N];exact v.nd
 have hi':X.N[i]?=Aa x:=by rw[v.N];exact hi
 have hx:Loc X.env.scope x:=by rw[v.sc];exact Ly hl
 have sc:SC X CL W fr v0 (λU=>evE Z U e):=by
  cases fr with
  |false=>exact o.se.sc
  |true=>exact o.nw (hfr rfl)
 cases hc:KI v0 with
 |true=>exact SC.sas hN hi' hx sc (Lz hc) (.inl (hf x))
 |false=>
  obtain⟨tg,iter,elt,ifs,scope,pos2,N',ts,fi,fc,fe,as,g,rfl,B,h2,hGG,hg,ht,he,hs,ef⟩:=o.cp hc;obtain⟨b,hb,hb'⟩:=jI (elt:=elt) (gs:=[⟨tg,iter,ifs,0⟩]) (scope:=scope) (pos:=pos2) (pos':=p) (x:=x) (l:=pos.line) (env:=X.env);cases b with
  |false=>exact SC.sas hN hi' hx sc hb (.inl (hf x))
  |true=>
   have q:=jQ (pos2:=pos) v.calm B h2 hGG hg ht he hs hN hi' (hb' rfl) hb;have q':SAs X CL W Ab i (.Assign [.Name x p] (.ListComp elt [⟨tg,iter,ifs,0⟩] scope pos2) pos) (λU=>evE Z U e):=by
    have:(λU=>evE Z U e)=_:=funext ef
    rw[this];exact q
   cases fr with
   |true=>exact q'
   | false=>exact λA=>PS.weak (q' A) λD Y H ⟨hA,U,gd,z⟩=>⟨hA,U,gd,by
     dsimp only at z ⊢;cases e0:evE Z U e with
     |ok d=>
      rw[e0]at z;exact λv' H' s' r'=>z v' H' s' ⟨r'.1,λ_=>r'.2 rfl⟩
     |exn y=>rw[e0]at z;exact z
     | bad=>rw[e0]at z;exact z⟩
theorem QJ{e t:Am}(h:∀ x p,t≠.Name x p):F8 [t] e l env=pure Ad:=by
 show CZ e (Aa t) l env=pure Ad;cases e<;>first|rfl|(cases t<;>first|rfl|exact absurd rfl (h _ _))
theorem fN{x y x' z:Ah}{p2 p3 p4 p5 p6 tp p' q1:AG}{kt q0:Ag}{o a o' a':Am}:DW [.Tuple [.Subscript (.Name x p1) (.Name y p2) p3,.Subscript (.Name x' p4) (.Name z p5) p6] kt tp] (.Tuple [.Subscript o a p,.Subscript o' a' p'] q0 q1) env=pure Ae:=by
 unfold DW;cases env.blockKind<;>rfl
theorem Up(U:Rho)(e:E)(h:∀ i,e≠.var i):evS Z U (.ret e)=O.of U (evE Z U e) λd=>.ret d (DR Z e):=by
 have k:∀ b:Ai,b=Ad->top U e (evE Z U e)=evE Z U e->(O.of U (top U e (evE Z U e)) λd=>.ret d (DR Z e||b))=O.of U (evE Z U e) λd=>.ret d (DR Z e):=λb hb ht=>by
  rw[hb,ht];simp only[E3]
 rw[sF];cases e with
 |var i=>exact absurd rfl (h i)
 |_=>exact k _ rfl rfl
structure DefX (X:Cx):Prop where
 fn:∀ x,X.fn x=Ab
 ex:X.ex=[]
 st:X.stack=X.env::X.outer
 fm:X.env.frame=Aa X.env.locals
structure SndS (Z:Gam) (CL:ClA) (k:Ag) (n:Ag):Prop where
 s:∀(W:XW)(T:Tc)(X:Cx)(x:AO)(c:S),VX Z CL k W T X->DefX X->L9 n T x c=Ab->SS X CL W x (λU=>evS Z U c)
 ss:∀(W:XW)(T:Tc)(X:Cx)(x:Ac AO)(c:Ss),VX Z CL k W T X->DefX X->chkSs n T x c=Ab->SSs X CL W x (λU=>evSs Z U c)
theorem rO(x y:D)(e:Ex):BA x y≠.exn e:=by
 intro z;cases x with
 |lst xs=>cases y<;>first|exact NT z|cases z
 |tup xs=>cases y<;>first|exact NT z|cases z
 |dic kvs=>
  have z':(match (JW y).bind (Rm kvs) with|some d=>R.ok d|none=>.bad)=.exn e:=z
  cases h:(JW y).bind (Rm kvs) with
  |none=>rw[h]at z';cases z'
  |some k=>rw[h]at z';cases z'
 |_=>cases z
theorem VE{i:Ag}{y:Ex}:Dk U i≠.exn y:=λz'=>by
 unfold Dk at z';split at z'<;>cases z'
theorem NK(Z:Gam)(U:Rho)(e:E)(h:O0 e=Ab)(y:Ex):top U e (evE Z U e)≠.exn y:=by
 cases e with
 |var i=>
  intro z;have z':Dk U i=.exn y:=z;unfold Dk at z';split at z'<;>cases z'
 |idx a b=>
  cases a with
  |var i=>
   cases b with
   |int j=>
    intro z;have z':(Dk U i).bind (λx=>BA x (.int j))=.exn y:=z
    cases e1:Dk U i with
    |bad=>rw[e1]at z';cases z'
    |exn w=>exact VE e1
    |ok d=>rw[e1]at z';exact rO _ _ _ z'
   |_=>exact noF h
  |_=>exact noF h
 |bin op a b=>
  have h:(Sg op&&Sa a b)=Ab:=h;rw[Ak]at h;obtain⟨h0,h⟩:=h;cases op with
  |Sub=>
   cases a with
   |var i=>
    cases b with
    |int j=>
     intro z;have z':(Dk U i).bind (λx=>Dm .Sub x (.int j))=.exn y:=z
     cases e1:Dk U i with
     |bad=>rw[e1]at z';cases z'
     |exn w=>exact VE e1
     |ok d=>rw[e1]at z';cases d<;>cases z'
    |_=>exact noF h
   |_=>exact noF h
  |_=>exact absurd (show Ad=Ab from h0) AF
 |int i=>intro z;cases z
 |bl i=>intro z;cases z
 |str i=>intro z;cases z
 |non=>intro z;cases z
 |_=>cases h
theorem P7(Z:Gam)(U:Rho):∀(es:Es),JS es=Ab->∀ y,evB Z U es≠.exn y
 |.nil,_,y=>λz=>by cases z
 |.cons e es,h,y=>λz=>by
  unfold JS at h;rw[Ak]at h;rw[Qm]at z;cases e1:top U e (evE Z U e) with
  |bad=>rw[e1]at z;cases z
  |exn w=>exact NK Z U e h.1 w e1
  |ok d=>
   rw[e1,R.bind_ok]at z;cases e2:evB Z U es with
   |bad=>rw[e2]at z;cases z
   |exn w=>exact P7 Z U es h.2 w e2
   |ok ds=>rw[e2]at z;cases z
theorem VX.pw(v:VX Z CL k W T X)(own:FH (model X.prog X.w) X.A X.env Xw):VX Z CL k W0 T (Cx.pw X pI Xw):=⟨v.sc,v.kd,v.N,v.nd,v.calm,v.room,v.bl,v.fn,own,QZ,R8,v.xt,v.gl⟩
theorem TN(o:O):(o.seq λU'=>O.next U')=o:=by cases o<;>rfl
theorem STB.congr{st:Ac AO}{f g:Rho->O}(h:STB X CL st f)(e:∀ U,g U=f U):STB X CL st g:=by
 have:g=f:=funext e;rw[this];exact h
theorem WP(Sn:Snd Z CL k n)(v:VX Z CL k W T X)(hf:DefX X){st:AO}{s:S}(h:Os n T st s=Ab):STB X CL [st] (λU=>evSs Z U (.cons s .nil))/\∀ U y U',evSs Z U (.cons s .nil)=.exn y U'->U'=U:=by
 have seq:∀ U,evSs Z U (.cons s .nil)=evS Z U s:=λU=>TN _
 have ofn:∀{r:R D}{f:D->Rho}{U U':Rho}{y:Ex},(O.of U r λd=>O.next (f d))=.exn y U'->U'=U:=λ{r f U U' y} z=>by
  cases r with
  |ok d=>cases z
  |exn w=>cases z;rfl
  |bad=>cases z
 have call:∀{e:Am}{f:Ag}{as:Es},Bh n T e (.call f as)=Ab->JS as=Ab->∃ g pp y ys qq,e=.Call (.Name g pp) (y::ys) [] qq/\∃ p∈T.fns,g=p.1/\f=p.2.1/\p.2.2=ys.length+1/\ys.length<900/\glB T g=Ab/\GX g=Ab/\∃ m,n=m+1/\chkEs m T (y::ys) as=Ab:=λ{e f as} h _=>by
  cases n with
  |zero=>exact noF h
  |succ m=>
   replace h:=NQ h;obtain⟨g,pp,y,ys,qq,rfl,h⟩:=h;simp only[Ak,EQ,AQ,AW]at h;obtain⟨⟨⟨⟨⟨p,hp,⟨e1,e2⟩,hl⟩,h900⟩,h1⟩,h2⟩,h3⟩:=h;exact⟨g,pp,y,ys,qq,rfl,p,hp,e1.symm,e2.symm,hl,h900,h1,h2,m,rfl,h3⟩
 cases s with
 |expr e0=>
  replace h:(LS e0 λf as=>LQ st λv=>Bh n T v (.call f as)&&JS as)=Ab:=h
  replace h:=UR h;obtain⟨f,as,rfl,h⟩:=h;replace h:=Qv h;obtain⟨v0,pos,rfl,h⟩:=h;rw[Ak]at h;obtain⟨g,pp,y,ys,qq,rfl,p,hp,rfl,rfl,hl,h900,h1,h2,m,rfl,h3⟩:=call h.1 h.2;obtain⟨fa,fd,ps,m1,m2,m3,m4,m5,_⟩:=v.fn p hp;have hlt:p.2.2<1000:=by omega
  rw[HH hlt]at m4 m5;have m5:=m5 hlt;obtain⟨n2,n3,n4⟩:=HQ h2;obtain⟨s0,e,es',rfl,m',rfl,s1⟩:=Li h3;have hlen:ys.length+1=(Es.cons e es').len:=(snd (Z:=Z) (CL:=CL) (k:=k) (m'+1)).es W T X _ _ v h3 |>.2.2.1;refine⟨STB.congr (jJ (X:=X) (fs:=λU=>evA Z U (.cons e es')) (sh:=λU=>HY U (.cons e es')) hf.ex m5 v.room (by unfold glB at h1;show X.env.scope.names.lookup p.1=_;rw[v.sc];exact eq_of_beq h1) m1 m2 m3 (λU z=>M0 Z U _ z) (λU ds z=>by rw[MU Z U _ _ z,<-hlen,hl]) (λU=>P7 Z U _ h.2) n2 (CA s0) (Mx m' ys es' s1) (λpI Xw own=>by
   obtain⟨a1,a2,_⟩:=(snd (Z:=Z) (CL:=CL) (k:=k) (m'+1)).es W0 T (Cx.pw X pI Xw) _ _ (v.pw own) h3;exact⟨a1,a2⟩) (Lz rfl)) λU=>seq U,λU y U' z=>?_⟩
  rw[seq]at z;exact ofn (f:=λ_=>U) z
 |asg i b0 e0=>
  replace h:(!b0&&(LS e0 λf as=>M9 st λy v=>T.N[i]? == Aa y&&Jm T y&&Bh n T v (.call f as)&&JS as))=Ab:=h
  replace h:=Ce h;obtain⟨hb,h⟩:=h;cases b0 with
  |true=>exact absurd (show Ad=Ab from hb) AF
  |false=>
  replace h:=UR h;obtain⟨f,as,rfl,h⟩:=h;replace h:=Qx h;obtain⟨y0,p0,v0,pos,rfl,h⟩:=h;simp only[Ak,AQ]at h;obtain⟨⟨⟨i1,i2⟩,hc⟩,hsim⟩:=h;obtain⟨g,pp,y,ys,qq,rfl,p,hp,rfl,rfl,hl,h900,h1,h2,m,rfl,h3⟩:=call hc hsim;obtain⟨fa,fd,ps,m1,m2,m3,m4,m5,_⟩:=v.fn p hp;have hlt:p.2.2<1000:=by omega
  rw[HH hlt]at m4 m5;have m5:=m5 hlt;obtain⟨n2,n3,n4⟩:=HQ h2;obtain⟨s0,e,es',rfl,m',rfl,s1⟩:=Li h3;have hlen:ys.length+1=(Es.cons e es').len:=(snd (Z:=Z) (CL:=CL) (k:=k) (m'+1)).es W T X _ _ v h3 |>.2.2.1;refine⟨STB.congr (mM (X:=X) (fs:=λU=>evA Z U (.cons e es')) (sh:=λU=>HY U (.cons e es')) (i:=i) hf.ex m5 v.room (by unfold glB at h1;show X.env.scope.names.lookup p.1=_;rw[v.sc];exact eq_of_beq h1) m1 m2 m3 (λU z=>M0 Z U _ z) (λU ds z=>by rw[MU Z U _ _ z,<-hlen,hl]) (λU=>P7 Z U _ hsim) n2 (CA s0) (Mx m' ys es' s1) (λpI Xw own=>by
   obtain⟨a1,a2,_⟩:=(snd (Z:=Z) (CL:=CL) (k:=k) (m'+1)).es W0 T (Cx.pw X pI Xw) _ _ (v.pw own) h3;exact⟨a1,a2⟩) (by rw[v.N];exact v.nd) (by rw[v.N];exact i1) (by rw[v.sc];exact Ly i2) (.inl (hf.fn _)) (Lz rfl)) λU=>seq U,λU y U' z=>?_⟩
  rw[seq]at z;exact ofn (f:=λd=>U.set i (Aa (d,Ad))) z
 |_=>exact noF h
theorem qS(op:Dg)(x y:D)(e:Ex):B1 op x y≠.exn e:=λz=>by
 rcases Vf op x y with w|⟨b,w⟩<;>(rw[w]at z;cases z)
theorem nX(x:D)(e:Ex):BN x≠.exn e:=by
 unfold BN;split<;>first|(intro z;cases z;done)|(split<;>intro z<;>cases z)
theorem U_1(Z:Gam)(U:Rho)(c:E)(h:R9 c=Ab)(y:Ex):(top U c (evE Z U c)).bind BN≠.exn y:=by
 have key:∀ e,top U c (evE Z U c)≠.exn e:=by
  cases c with
  |var i=>exact NK Z U (.var i) rfl
  |cmp op a b=>
   unfold R9 at h;rw[Ak]at h;intro e z;have z':((top U a (evE Z U a)).bind λx=>(top U b (evE Z U b)).bind λy=>B1 op x y)=.exn e:=by
    have e0:evE Z U (.cmp op a b)=((top U a (evE Z U a)).bind λx=>(top U b (evE Z U b)).bind λy=>B1 op x y):=sG Z U op a b
    rw[<-e0];exact z
   cases e1:top U a (evE Z U a) with
   |bad=>rw[e1]at z';cases z'
   |exn w=>exact NK Z U a h.1 w e1
   |ok d=>
    rw[e1,R.bind_ok]at z';cases e2:top U b (evE Z U b) with
    |bad=>rw[e2]at z';cases z'
    |exn w=>exact NK Z U b h.2 w e2
    |ok d2=>rw[e2,R.bind_ok]at z';exact qS _ _ _ _ z'
  |_=>cases h
 intro z;cases e1:top U c (evE Z U c) with
 |bad=>rw[e1]at z;cases z
 |exn w=>exact key w e1
 |ok d=>rw[e1,R.bind_ok]at z;exact nX _ _ z
theorem yQ(Sn:Snd Z CL k n)(v:VX Z CL k W T X)(hf:DefX X):∀(m:Ag){st:AO}{s:S},Ow m n T st s=Ab->STB X CL [st] (λU=>evSs Z U (.cons s .nil))/\∀ U y U',evSs Z U (.cons s .nil)=.exn y U'->U'=U:=by
 intro m
 induction m with
 |zero=>intro st s h;exact WP Sn v hf h
 |succ m ih=>
  intro st s h;replace h:=orT (a:=Os n T st s) (b:=WJ (Ow m n T) n T st s) h;rcases h with h|h
  .exact WP Sn v hf h
  .cases s with
   |ife c a b=>
    replace h:=UN h;obtain⟨a,rfl,h⟩:=h;replace h:=UN h;obtain⟨b,rfl,h⟩:=h;replace h:=QA h;obtain⟨t,xs,ys,pos,rfl,h⟩:=h;replace h:=Fh h;obtain⟨xs,rfl,h⟩:=h;replace h:=Fh h;obtain⟨ys,rfl,h⟩:=h;simp only[Ak]at h;obtain⟨⟨⟨h1,h2⟩,h3⟩,h4⟩:=h;obtain⟨a1,a2⟩:=ih h3;obtain⟨b1,b2⟩:=ih h4;have ev:∀ U,evSs Z U (.cons (.ife c (.cons a .nil) (.cons b .nil)) .nil)=O.of U ((top U c (evE Z U c)).bind BN) λk=>if k=Ab then evSs Z U (.cons a .nil) else evSs Z U (.cons b .nil):=λU=>TN _
    refine⟨STB.congr (mL (λpI Xw own=>(Sn.b W0 T (Cx.pw X pI Xw) _ _ (v.pw own) h1)) (λU y=>U_1 Z U c h2 y) a1 b1) λU=>ev U,λU y U' z=>?_⟩
    rw[ev]at z;cases e1:(top U c (evE Z U c)).bind BN with
    |bad=>rw[e1]at z;cases z
    |exn w=>exact absurd e1 (U_1 Z U c h2 w)
    |ok k=>
     rw[e1,O.of_ok]at z;cases k with
     |true=>exact a2 U y U' z
     |false=>exact b2 U y U' z
   |_=>exact noF h
theorem JN{i:Ag}{e:Al}(v:VX Z CL k W T X)(h:isV T x i=Ab):PE (Cx.hot X e) (.Name x pos) (EB i):=by
 unfold isV at h;simp only[Ak,AQ]at h;obtain⟨h2,h3,_⟩:=HQ h.2;exact Ol (by show X.N[i]?=_;rw[v.N];exact h.1.1) (by show Vis X.env.scope x;rw[v.sc];exact VC h.1.2) h2 h3
theorem Rj{x:Ag}{t:Am}{c:E}:∀{n:Ag},Fm n T x t c=Ab->∀ U r,top U c r=r:=λ{n} h=>by
 cases n with
 |zero=>exact noF h
 |succ n=>
  cases c with
  |var i=>exact noF h
  |_=>exact λ_ _=>rfl
theorem kG(v:VX Z CL k W T X)(e:Al):∀(ts:Ac Am)(ks:Ac Ki),RO T ts ks=Ab->∃ cs:Ac (Ag×Al),ks=cs.map (λq=>Ki.cls q.1)/\cs.length=ts.length/\PA (Cx.hot X e) ts (Sz (cs.map λq:Ag×Al=>q.2))/\∀ q∈cs,MW X.K CL Z.up q.1 q.2:=by
 intro ts
 induction ts with
 |nil=>
  intro ks h;obtain rfl:=Iu h;exact⟨[],rfl,rfl,Fk,λq hq=>nomatch hq⟩
 |cons t ts ih=>
  intro ks h;replace h:=JM h;obtain⟨kk,ks,rfl,h⟩:=h;replace h:=Ez h;obtain⟨t,p,rfl,h⟩:=h;replace h:=Ce h;obtain⟨h,h4⟩:=h;cases kk with
  |cls c=>
   replace h:(inX T.exs t c&&glB T t&&GX t)=Ab:=h;simp only[Ak]at h;obtain⟨⟨h1,h2⟩,h3⟩:=h;obtain⟨cs,e1,e2,e3,e4⟩:=ih ks h4;obtain⟨C,m1,m3,_⟩:=v.xt.ex _ (MZ h1);obtain⟨n2,_,_⟩:=HQ h3;refine⟨(c,C)::cs,by rw[e1];rfl,by rw[Bm,Bm,e2],?_,λq hq=>?_⟩
   .exact DM (Vj (X:=Cx.hot X e) (v:=.ref C) (by unfold glB at h2;show X.env.scope.names.lookup t=_;rw[v.sc];exact eq_of_beq h2) m1 rfl n2) e3 rfl
   .rcases Av.mp hq with rfl|hq
    .exact m3
    .exact e4 q hq
  |_=>exact noF h
theorem OC{e:Al}{f:Am->E->Ai}(ih:∀ t c,f t c=Ab->SE (Cx.hot X e) CL W0 t (λU=>evE Z U c)):∀(xs:Ac Am)(es:Es),M6 f xs es=Ab->SA (Cx.hot X e) CL W0 xs (λU=>evA Z U es)/\xs.length=es.len
 |[],.nil,_=>⟨Q5,rfl⟩
 |[],.cons _ _,h=>nomatch (show Ad=Ab from h)
 |_::_,.nil,h=>nomatch (show Ad=Ab from h)
 |x::xs,.cons c es,h=>by
  have h:(DE x&&f x c&&M6 f xs es)=Ab:=h;simp only[Ak]at h;obtain⟨⟨h1,h2⟩,h3⟩:=h;obtain⟨q,l⟩:=OC ih xs es h3;exact⟨QK (ih x c h2) q (CA h1),by rw[Bm,l];rfl⟩
theorem M7(v:VX Z CL k W T X)(e:Al)(x:Ag):∀(n:Ag)(t:Am)(c:E),Fm n T x t c=Ab->SE (Cx.hot X e) CL W0 t (λU=>evE Z U c):=by
 intro n
 induction n with
 |zero=>intro t c h;exact noF h
 |succ n ih=>
  intro t c h;cases c with
  |bl b=>
   replace h:=Ln h;obtain⟨k,u,p,rfl,h⟩:=h;obtain rfl:=AN h;exact Xv
  |no a=>
   replace h:=MR h;obtain⟨o,y,p,rfl,h⟩:=h;replace h:=Ce h;obtain⟨h0,h⟩:=h;obtain rfl:=AN h0;have q:=(ih _ _ h).st;refine SE.congr (W1 q) λU=>?_
   show ((top U a (evE Z U a)).bind λx=>(DF x).bind λb=>R.ok (D.bl (!b)))=_
   rw[Rj h]
  |and es=>
   cases es with
   |nil=>exact noF h
   |cons a as=>
    cases as with
    |nil=>
     replace h:=Lo h;obtain⟨o,l,p,rfl,h⟩:=h;replace h:=Ce h;obtain⟨h0,h⟩:=h;obtain rfl:=AN h0;replace h:=Fh h;obtain⟨y,rfl,h⟩:=h;exact SE.congr (Q1 (ih _ _ h)) λU=>rfl
    |cons a' as=>
     replace h:=Lo h;obtain⟨o,l,p,rfl,h⟩:=h;replace h:=Ce h;obtain⟨h0,h⟩:=h;obtain rfl:=AN h0;replace h:=JM h;obtain⟨y,l,rfl,h⟩:=h;replace h:=JM h;obtain⟨z,zs,rfl,h⟩:=h;exact SE.congr (W3 (ih _ _ (Ce h).1) (ih _ _ (Ce h).2)) λU=>rfl
  |isi a ks=>
   replace h:=MH h;obtain⟨i,rfl,h⟩:=h;replace h:=oO h;obtain⟨g,pp,w,pq,u,pr,rfl,h⟩:=h;simp only[Ak,AQ]at h;obtain⟨⟨⟨⟨rfl,rfl⟩,h3⟩,h4⟩,h⟩:=h;obtain⟨g1,g2,_,_⟩:=GQ v h3;replace h:=JM h;obtain⟨kk,ks,rfl,h⟩:=h;cases kk with
   |verr=>
    replace h:=Ce h;obtain⟨h0,h⟩:=h;obtain rfl:=Iu h0;replace h:=Ez h;obtain⟨t,pt,rfl,h⟩:=h;simp only[Ak,AQ]at h;obtain⟨h5,h6⟩:=h;obtain⟨b1,b2,_,_⟩:=GQ v h6;rw[h5]at b1 b2 ⊢;exact uY (X:=Cx.hot X e) v.xt.xc g1 g2 b1 b2 (KG (JN v h4)) rfl
   |cls c=>
    cases ks with
    |nil=>
     replace h:=Ez h;obtain⟨t,pt,rfl,h⟩:=h;simp only[Ak]at h;obtain⟨⟨h5,h6⟩,h7⟩:=h;obtain⟨C,m1,m3,_⟩:=v.xt.ex _ (MZ h5);obtain⟨n2,_,_⟩:=HQ h7;exact vB (X:=Cx.hot X e) v.xt.xc g1 g2 (by unfold glB at h6;show X.env.scope.names.lookup _=_;rw[v.sc];exact eq_of_beq h6) m1 m3 n2 (KG (JN v h4)) rfl
    |cons k2 ks=>
     replace h:=JK h;obtain⟨ts,z1,z2,rfl,h⟩:=h;replace h:=Ce h;obtain⟨h5,h6⟩:=h;obtain⟨cs,e1,e2,e3,e4⟩:=kG v e _ _ h5;have hne:cs≠[]:=by rintro rfl;cases e1
     rw[e1];exact uZ (X:=Cx.hot X e) (W:=W0) (up:=Z.up) v.xt.xc g1 g2 e3 hne (by rw[e2];exact AN h6) e4 (KG (JN v h4)) rfl
   |_=>exact noF h
  |call f as=>
   cases as with
   |nil=>exact noF h
   |cons a as=>
    cases as with
    |cons=>exact noF h
    |nil=>
    replace h:=MH h;obtain⟨i,rfl,h⟩:=h;replace h:=JL h;obtain⟨g,p0,l,p2,rfl,h⟩:=h;replace h:=Fh h;obtain⟨w,rfl,h⟩:=h;replace h:=Ez h;obtain⟨w0,p1,rfl,h⟩:=h;replace h:=Ce h;obtain⟨h1,h4⟩:=h;unfold SQ at h1;simp only[Ak,EQ,AQ]at h1;obtain⟨⟨⟨p,hp,⟨rfl,rfl⟩,hl⟩,g1⟩,g2⟩:=h1;obtain⟨fa,fd,ps,m1,m2,m3,m4,_,m5⟩:=v.fn p hp;have m5:=m5 (by omega)
    obtain⟨n2,_,_⟩:=HQ g2;have hv:=JN (e:=e) (pos:=p1) v h4;have a1:SA (Cx.hot X e) CL W0 [.Name w0 p1] (λU=>evA Z U (.cons (.var i) .nil)):=QK (WX hv) Q5 rfl
    have a2:SAT (Cx.hot X e) CL W0 [.Name w0 p1] (λU=>evB Z U (.cons (.var i) .nil)):=UE (KG hv) Vw rfl
    exact(jO (X:=X) (ev:=e) (sh:=λU=>HY U (.cons (.var i) .nil)) m5 v.room (by unfold glB at g1;show X.env.scope.names.lookup p.1=_;rw[v.sc];exact eq_of_beq g1) m1 m2 m3 a1 a2 (λU z=>M0 Z U _ z) (λU ds z=>by rw[MU Z U _ _ z,hl];rfl) n2 rfl (λ_=>rfl)).se
  |str s=>
   replace h:=Ln h;obtain⟨k,u,p,rfl,h⟩:=h;obtain rfl:=AN h;exact WZ
  |lst es=>
   replace h:=Qu h;obtain⟨xs,p,rfl,h⟩:=h;simp only[Ak,AW]at h;obtain⟨q,ql⟩:=OC (ih) _ _ h.1;exact(Q0 q λU ds z=>by rw[Ku Z U _ _ z,<-ql];omega).se
  |tup es=>
   replace h:=JK h;obtain⟨xs,cc,p,rfl,h⟩:=h;simp only[Ak,AW]at h;obtain⟨q,ql⟩:=OC (ih) _ _ h.1;exact WY q λU ds z=>by rw[Ku Z U _ _ z,<-ql];omega
  |bin op a b=>
   replace h:=Ce h;obtain⟨h0,h⟩:=h;obtain rfl:=AN h0;replace h:=MH h;obtain⟨i,rfl,h⟩:=h;replace h:=US h;obtain⟨l,o,y,p,rfl,h⟩:=h;replace h:=Ce h;obtain⟨h0,h⟩:=h;obtain rfl:=AN h0;replace h:=Ez h;obtain⟨w,pw,rfl,h⟩:=h;replace h:=Ce h;obtain⟨h1,h2⟩:=h;refine SE.congr (Q2 (QN .Add) (KG (JN v h1)) (ih _ _ h2).st) λU=>?_
   show ((Dk U i).bind λx=>(top U b (evE Z U b)).bind λy=>Dm .Add x y)=_
   rw[Rj h2]
  |fld o f=>
   replace h:=MH h;obtain⟨i,rfl,h⟩:=h;replace h:=UT h;obtain⟨w,g,p,rfl,h⟩:=h;replace h:=Ez h;obtain⟨w,pw,rfl,h⟩:=h;simp only[Ak,AQ]at h;obtain⟨⟨⟨rfl,rfl⟩,h3⟩,h4⟩:=h;exact mY (X:=Cx.hot X e) v.xt.xc (λc C z=>v.xt.nf c C z _ h3) (KG (JN v h4)) rfl
  |_=>exact noF h
theorem RQ(v:VX Z CL k W T X)(e:Al)(x n:Ag)(y:Am)(c:E)(h:LY n T x y c=Ab):SB (Cx.hot X e) CL W0 y (λU=>(top U c (evE Z U c)).bind BN):=by
 have one:∀{y:Am}{c:E},(IV y&&Fm n T x y c)=Ab->SB (Cx.hot X e) CL W0 y (λU=>(top U c (evE Z U c)).bind BN):=λ{y c} h=>by
  rw[Ak]at h;exact SB.congr (W5 ((M7 v e x n y c h.2).st) (VI h.1)) λU=>by rw[Rj h.2]
 replace h:((Jo y λo z=>decide (o=.Not)&&(Mi c λa=>IV z&&Fm n T x z a))||(IV y&&Fm n T x y c))=Ab:=h
 replace h:=orT h;rcases h with h|h
 .replace h:=MR h;obtain⟨o,z,p,rfl,h⟩:=h;replace h:=Ce h;obtain⟨h0,h⟩:=h;obtain rfl:=AN h0;replace h:=V2 h;obtain⟨a,rfl,h⟩:=h
  .skip
   refine SB.ref (W6 (one h)) λU=>?_
   show (((top U a (evE Z U a)).bind λx=>(DF x).bind λb=>R.ok (D.bl (!b))).bind BN)=.bad\/(((top U a (evE Z U a)).bind λx=>(DF x).bind λb=>R.ok (D.bl (!b))).bind BN)=((top U a (evE Z U a)).bind BN).bind λb=>.ok (!b)
   cases top U a (evE Z U a) with
   |ok d=>cases d<;>first|exact .inl rfl|exact .inr rfl
   |exn y=>exact .inr rfl
   |bad=>exact .inl rfl
 .exact one h
theorem vO(v:VX Z CL k W T X)(e:Al)(x n:Ag)(pos:AG):∀(ys:Ac Am)(es:Es),Jg n T x ys es=Ab->ys≠[]->SW (Cx.hot X e) CL W0 (.BoolOp .Or ys pos) (λU=>(evO Z U es).bind BN):=by
 intro ys
 induction ys with
 |nil=>intro es _ h;exact absurd rfl h
 |cons y ys ih=>
  intro es h _;cases es with
  |nil=>exact noF h
  |cons c es=>
   replace h:(LY n T x y c&&Jg n T x ys es)=Ab:=h;simp only[Ak]at h;obtain⟨h1,h3⟩:=h;have he:=RQ v e x n y c h1;cases ys with
   |nil=>
    cases es with
    |nil=>exact SW.ref (WR he) (Rf.tru c)
    |cons=>exact absurd (show Ad=Ab from h3) AF
   |cons z zs=>
    cases es with
    |nil=>exact absurd (show Ad=Ab from h3) AF
    |cons c' es'=>exact SW.ref (Xf he (ih (.cons c' es') h3 (by simp))) (Wh c c' es')
theorem vP(v:VX Z CL k W T X)(e:Al)(x n:Ag)(pos:AG):∀(ys:Ac Am)(es:Es),Jg n T x ys es=Ab->ys≠[]->SW (Cx.hot X e) CL W0 (.BoolOp .And ys pos) (λU=>(evN Z U es).bind BN):=by
 intro ys
 induction ys with
 |nil=>intro es _ h;exact absurd rfl h
 |cons y ys ih=>
  intro es h _;cases es with
  |nil=>exact noF h
  |cons c es=>
   replace h:(LY n T x y c&&Jg n T x ys es)=Ab:=h;simp only[Ak]at h;obtain⟨h1,h3⟩:=h;have he:=RQ v e x n y c h1;cases ys with
   |nil=>
    cases es with
    |nil=>exact SW.ref (VJ he) (Rf.tru c)
    |cons=>exact absurd (show Ad=Ab from h3) AF
   |cons z zs=>
    cases es with
    |nil=>exact absurd (show Ad=Ab from h3) AF
    |cons c' es'=>exact SW.ref (WS he (ih (.cons c' es') h3 (by simp))) (Wi c c' es')
theorem gq(v:VX Z CL k W T X)(e:Al)(x n:Ag)(t:Am)(c:E)(h:XZ n T x t c=Ab):SB (Cx.hot X e) CL W0 t (λU=>(top U c (evE Z U c)).bind BN):=by
 replace h:((Iy t λo ys _=>(decide (o=.Or)&&(Mh c λes=>Jg n T x ys es && !ys.isEmpty))||(decide (o=.And)&&(LU c λes=>Jg n T x ys es && !ys.isEmpty)))||LY n T x t c)=Ab:=h
 replace h:=orT h;rcases h with h|h
 .replace h:=Lo h;obtain⟨o,ys,p,rfl,h⟩:=h;replace h:=orT h;rcases h with h|h
  .replace h:=Ce h;obtain⟨h0,h⟩:=h;obtain rfl:=AN h0;replace h:=Vp h;obtain⟨es,rfl,h⟩:=h;simp only[Ak,Bu,CJ]at h;exact(vO v e x n _ _ _ h.1 h.2).sb
  .replace h:=Ce h;obtain⟨h0,h⟩:=h;obtain rfl:=AN h0;replace h:=UV h;obtain⟨es,rfl,h⟩:=h;simp only[Ak,Bu,CJ]at h;exact(vP v e x n _ _ _ h.1 h.2).sb
 .exact RQ v e x n _ c h
theorem XH(v:VX Z CL k W T X)(hf:DefX X)(e:Al)(x:Ag):∀(n:Ag)(sts:Ac AO)(ss:Ss),M5 n T x sts ss=Ab->SSs (Cx.hot X e) CL W0 sts (λU=>evSs Z U ss):=by
 intro n
 induction n with
 |zero=>intro t c h;exact noF h
 |succ n ih=>
  intro sts ss0 h;cases ss0 with
  |nil=>
   obtain rfl:=Iu h;exact QI
  |cons s ss0=>
   replace h:=JM h;obtain⟨st,r,rfl,h⟩:=h;replace h:=Ce h;obtain⟨h,h5⟩:=h;cases s with
   |asg i b e0=>
    replace h:=Qx h;obtain⟨y,py,v0,pos,rfl,h⟩:=h;simp only[Ak,AQ]at h;obtain⟨⟨⟨⟨h1,h2⟩,h3⟩,h4⟩,h6⟩:=h;cases b with
    |true=>
     cases e0 with
     |lst es=>
      have sc:SC (Cx.hot X e) CL W0 Ab v0 (λU=>evE Z U (.lst es)):=by
       cases n with
       |zero=>exact absurd (show Ad=Ab from h4) AF
       |succ n=>
        replace h4:=Qu h4;obtain⟨l,pl,rfl,h4⟩:=h4;obtain⟨q,ql⟩:=OC (M7 v e x n) _ _ (Ce h4).1;have hle:=AN (Ce h4).2;exact Q0 q λU ds z=>by rw[Ku Z U _ _ z,<-ql];omega
      have q:=Kv (Vr (SC.sas (X:=Cx.hot X e) (pos:=pos) (pos':=py) (by show X.N.Nodup;rw[v.N];exact v.nd) (by show X.N[i]?=_;rw[v.N];exact h1) (by show Loc X.env.scope _;rw[v.sc];exact Ly h2) sc (Lz h3) (.inl (hf.fn _)))) (ih _ _ h5)
      have ef:(λU=>evSs Z U (.cons (.asg i Ab (.lst es)) ss0))=λU=>(O.of U (evE Z U (.lst es)) λd=>setF U i d).seq λU=>evSs Z U ss0:=by
       funext U
       show (evS Z U (.asg i Ab (.lst es))).seq _=_;rw[iB];rfl
      rw[ef];exact q
     |_=>exact absurd (show Ad=Ab from h6) AF
    |false=>
    exact Kv (sQ (X:=Cx.hot X e) (by show X.N.Nodup;rw[v.N];exact v.nd) (by show X.N[_]?=_;rw[v.N];exact h1) (by show Loc X.env.scope _;rw[v.sc];exact Ly h2) (M7 v e x n _ _ h4) (Lz h3) (.inl (hf.fn _))) (ih _ _ h5)
   |ife c a b=>
    cases b with
    |cons=>exact noF h
    |nil=>
    replace h:=QA h;obtain⟨t,xs,ys,pos,rfl,h⟩:=h;replace h:=Ce h;obtain⟨h0,h⟩:=h;obtain rfl:=Iu h0;replace h:=Ce h;obtain⟨h1,h2⟩:=h;exact Kv (Xr (X:=Cx.hot X e) (gq v e x n _ _ h1) (ih _ _ h2) QI) (ih _ _ h5)
   |ret e0=>
    replace h:=UO h;obtain⟨o,pos,rfl,h⟩:=h;cases o with
    |none=>exact noF h
    |some v0=>
    replace h:((JT e0 λi=>Ej v0 λy=>isV T y i)||(Ti e0&&Fm n T x v0 e0))=Ab:=h
    replace h:=orT h;rcases h with h|h
    .replace h:=MH h;obtain⟨i,rfl,h⟩:=h;replace h:=Ez h;obtain⟨y,py,rfl,h⟩:=h;exact Kv (VM (X:=Cx.hot X e) (pos:=pos) (JN v h)) (ih _ _ h5)
    replace h:=Ce h;obtain⟨h0,h1⟩:=h;have q:=Kv (VN (X:=Cx.hot X e) (pos:=pos) (M7 v e x n _ _ h1)) (ih _ _ h5);have ef:(λU=>evSs Z U (.cons (.ret e0) ss0))=λU=>(O.of U (evE Z U e0) λd=>O.ret d Ad).seq λU=>evSs Z U ss0:=by
     funext U
     cases e0<;>first|rfl|(cases h0;done)
    rw[ef];exact q
   |app i e0=>
    replace h:=NO h;obtain⟨y,p,m,ap,l,cp,pos,rfl,hl,h⟩:=h;replace h:=Fh h;obtain⟨v0,rfl,h⟩:=h;simp only[Ak,AQ]at h;obtain⟨⟨⟨rfl,h1⟩,h2⟩,h3⟩:=h;exact Kv (WW (X:=Cx.hot X e) (JN v h1) (M7 v e x n _ _ h3) rfl (by rw[CA h2];rfl) (by rw[hl];exact Do _) (CA h2) rfl) (ih _ _ h5)
   |_=>exact noF h
theorem vN(v:VX Z CL k W T X)(h:hdB T g c=Ab):SM X CL Z.up g c:=by
 unfold hdB at h;simp only[Ak]at h;obtain⟨⟨⟨i1,i0⟩,i2⟩,i3⟩:=h;obtain⟨C,m1,m3,m4⟩:=v.xt.ex _ (MZ i1);obtain⟨C0,r1,r2⟩:=v.xt.rz _ (MZ i0);obtain⟨n2,_,_⟩:=HQ i3;refine⟨C,by unfold glB at i2;show X.env.scope.names.lookup g=_;rw[v.sc];exact eq_of_beq i2,m1,n2,?_,λc' D hD=>m4 c' D hD⟩
 have e0:=m1.symm.trans r2;cases e0;exact v.xt.xc _ _ r1
theorem yK(Z_:SndS Z CL k n)(W:XW)(T:Tc)(X:Cx)(st:AO)(c:S)(v:VX Z CL k W T X)(hf:DefX X)(h:L9 (n+1) T st c=Ab):SS X CL W st (λU=>evS Z U c):=by
  have E:=snd (Z:=Z) (CL:=CL) (k:=k) n;cases c with
  |pass=>exact absurd (show Ad=Ab from h) AF
  |brk=>exact absurd (show Ad=Ab from h) AF
  |cont=>exact absurd (show Ad=Ab from h) AF
  |asg i fresh e=>
    replace h:=Qx h;obtain⟨x,px,v0,pos,rfl,h⟩:=h;simp only[Ak,AQ]at h;obtain⟨⟨h1,h2⟩,h3⟩:=h;have o:=E.e W T X _ e v h3;cases fresh with
    |false=>exact WV (Q4 (fr:=Ad) v hf.fn h1 h2 o (λz=>nomatch z))
    |true=>
      cases hn:DR Z e with
      |true=>
        refine SS.ref (Vr (Q4 (fr:=Ab) v hf.fn h1 h2 o (λ_=>hn))) λU=>.inr ?_
        show O.of U (evE Z U e) (λd=>if Ab=Ab then (if DR Z e=Ab then (match d with
          |.lst xs=>.next (U.set i (Aa (.lst xs,Ab)))
          |.dic xs=>.next (U.set i (Aa (.dic xs,Ab)))
          | _=>.bad) else .bad) else .next (U.set i (Aa (d,Ad))))=_
        rw[hn];rfl
      |false=>
        refine SS.ref (WV (Q4 (fr:=Ad) v hf.fn h1 h2 o (λz=>nomatch z))) λU=>?_
        have e0:evS Z U (.asg i Ab e)=O.of U (evE Z U e) (λd=>if Ab=Ab then (if DR Z e=Ab then (match d with
          |.lst xs=>.next (U.set i (Aa (.lst xs,Ab)))
          |.dic xs=>.next (U.set i (Aa (.dic xs,Ab)))
          | _=>.bad) else .bad) else .next (U.set i (Aa (d,Ad)))):=rfl
        rw[e0,hn];cases evE Z U e with
        |ok d=>exact .inl rfl
        |exn y=>exact .inr rfl
        |bad=>exact .inl rfl
  |asgT ts e=>
    replace h:=Qy h;obtain⟨t,v0,pos,rfl,h⟩:=h;replace h:=JK h;obtain⟨ys,cc,pw,rfl,h⟩:=h;simp only[Ak]at h;obtain⟨⟨⟨h1,h2⟩,h3⟩,h5⟩:=h;exact mR (gr ts) (tF v hf.fn h1 h2) (E.e W T X _ e v h5).se (QJ (λ_ _ z=>by cases z)) (tB h3) rfl (jX ts)
  |expr e=>
    replace h:=Qv h;obtain⟨v0,pos,rfl,h⟩:=h;simp only[Ak]at h;exact mQ (E.e W T X _ e v h.2).se (Lz h.1)
  |ret e=>
    replace h:=UO h;obtain⟨o,pos,rfl,h⟩:=h;cases o with
    |none=>exact noF h
    |some v0=>
    replace h:Bh n T v0 e=Ab:=h;have o:=E.e W T X _ e v h;cases hv:DR Z e with
    |true=>
      refine SS.ref (mP (o.nw hv)) λU=>.inr ?_
      rw[Up U e (λi z=>by subst z;cases hv),hv]
    |false=>
      cases e with
      |var i=>
        cases n with
        |zero=>exact noF h
        |succ n=>
          replace h:=Ez h;obtain⟨y,py,rfl,h⟩:=h;exact VM (Hh v h)
      |_=>
        refine SS.ref (VN o.se) λU=>.inr ?_
        rw[Up U _ (by intro i z;cases z),hv]
  |retN=>exact absurd (show Ad=Ab from h) AF
  |ife c a b=>
    replace h:=QA h;obtain⟨t,xs,ys,pos,rfl,h⟩:=h;simp only[Ak]at h;exact Xr (E.b W T X _ c v h.1.1) (Z_.ss W T X _ a v hf h.1.2) (Z_.ss W T X _ b v hf h.2)
  |fors t it body=>
    replace h:=UP h;obtain⟨tg,it',xs,ys,pos,rfl,h⟩:=h;replace h:=Ce h;obtain⟨hn,h⟩:=h;obtain rfl:=Iu hn;replace h:=Ez h;obtain⟨y,py,rfl,h⟩:=h;simp only[Ak]at h;obtain⟨⟨⟨h1,h2⟩,h3⟩,h4⟩:=h;exact WU v.own v.calm (rR t) (mF v hf.fn h1) (E.i W T X Ad _ _ it v rfl h3) (Z_.ss W T X _ body v hf h4) (Oo h2) (λ_ _ _ z=>nomatch z)
  |forT ts it body=>
    replace h:=UP h;obtain⟨tg,it',xs,zs,pos,rfl,h⟩:=h;replace h:=Ce h;obtain⟨hn,h⟩:=h;obtain rfl:=Iu hn;replace h:=JK h;obtain⟨ys,cc,py,rfl,h⟩:=h;simp only[Ak]at h;obtain⟨⟨⟨⟨h0,h1⟩,h2⟩,h3⟩,h4⟩:=h;exact WU v.own v.calm (Wx ts) (mE v hf.fn h0 h1) (E.i W T X Ab _ _ it v rfl h3) (Z_.ss W T X _ body v hf h4) (Oo h2) (T4 ts)
  |whl c body=>exact absurd (show Ad=Ab from h) AF
  |rais c as=>
    replace h:(!(T.rzs.any λp=>p.2==c)||(OG st λa b=>b.isNone&&(match a with|some e=>MV e λg x xs=>inX T.rzs g c&&glB T g&&GX g&&decide (xs.length<=1000)&&chkEs n T (x::xs) as|none=>Ad)))=Ab:=h
    cases hc:T.rzs.any (λp=>p.2==c) with
    |false=>
      have hb:∀ ds,Z.xn c ds=.bad:=v.xt.xb c λp hp z=>by
        have:T.rzs.any (λp=>p.2==c)=Ab:=List.any_eq_true.mpr ⟨p,hp,AQ.mpr z⟩
        rw[hc]at this;cases this
      intro Fz B pI s Y H D I ⟨U,x,p⟩;have p':BS X.K CL Fz B W (O.of U (noX (evA Z U as)) λxs=>O.of U (Z.xn c xs) λx=>.exn x U) D:=p
      cases e1:evA Z U as with
      |bad=>rw[e1]at p';exact p'.elim
      |exn y=>rw[e1]at p';exact p'.elim
      |ok ds=>
        rw[e1]at p';have p2:BS X.K CL Fz B W (O.of U (Z.xn c ds) λx=>.exn x U) D:=p'
        rw[hb ds]at p2;exact p2.elim
    |true=>
      rw[hc,Yg,Bool.false_or]at h;replace h:=lM h;obtain⟨ea,eb,pos,rfl,h⟩:=h;replace h:=Ce h;obtain⟨h0,h⟩:=h;obtain rfl:=YY.mp h0;cases ea with
      |none=>exact noF h
      |some e0=>
        replace h:=NQ h;obtain⟨g,np,x,xs,cpos,rfl,h⟩:=h;simp only[Ak,AW]at h;obtain⟨⟨⟨⟨h1,h2⟩,h3⟩,h4⟩,h5⟩:=h;obtain⟨C,m1,m2⟩:=v.xt.rz _ (MZ h1);obtain⟨n2,_,_⟩:=HQ h3;obtain⟨s0,e,es',rfl,m,rfl,s1⟩:=Li h5;have q:=E.es W T X _ _ v h5;exact gX v.calm hf.ex v.room v.rz (by unfold glB at h2;show X.env.scope.names.lookup g=_;rw[v.sc];exact eq_of_beq h2) m2 n2 m1 q.1 (λds=>v.xt.made c C ds m1) (CA s0) (Mx m xs es' s1) (λU ds z=>by rw[Ku Z U _ _ z,<-q.2.2.1,Bm];omega)
  |app i e=>
    replace h:=NO h;obtain⟨x,px,m,ap,l,cp,pos,rfl,h2,h⟩:=h;replace h:=Fh h;obtain⟨v0,rfl,h⟩:=h;simp only[Ak,AQ]at h;obtain⟨⟨⟨rfl,h1⟩,h3⟩,h4⟩:=h;exact WW (Hh v h1) (E.e W T X _ e v h4).se rfl (by rw[CA h3];rfl) (by rw[h2];exact Do _) (CA h3) rfl
  |ext i e=>exact absurd (show Ad=Ab from h) AF
  |rev i=>exact absurd (show Ad=Ab from h) AF
  |clr i=>exact absurd (show Ad=Ab from h) AF
  |put i k e=>
    replace h:=Qy h;obtain⟨t,v0,pos,rfl,h⟩:=h;replace h:=MI h;obtain⟨o,y,sp,rfl,h⟩:=h;replace h:=Ez h;obtain⟨x,p,rfl,h⟩:=h;simp only[Ak]at h;obtain⟨⟨⟨h1,h2⟩,h4⟩,h5⟩:=h;exact sR (Hh v h1) (E.e W T X _ k v h4).st (E.e W T X _ e v h5).se (λw=>by cases y<;>first|rfl|cases h2) (QJ (λ_ _ z=>by cases z)) rfl rfl
  |tryx body c x hd=>
    cases body with
    |nil=>exact noF h
    |cons b bs=>
      cases bs with
      |cons=>exact noF h
      |nil=>
        unfold L9 at h;dsimp only at h;cases q:R4 st with
        |none=>rw[q]at h;cases h
        |some t=>
          obtain⟨bt,hl,es⟩:=t;rw[q]at h;obtain⟨pos,rfl⟩:=nN q;cases hl with
          |nil=>exact noF h
          |cons h1 hl=>
            cases hl with
            |cons=>exact noF h
            |nil=>
              cases es with
              |cons=>exact noF h
              |nil=>
                dsimp only at h;cases q1:xHd h1 with
                |none=>rw[q1]at h;cases h
                |some t1=>
                  obtain⟨g,m,h0,hs⟩:=t1;obtain⟨p1,hp,rfl⟩:=sV q1;rw[q1]at h;simp only[Ak,AQ]at h;obtain⟨⟨⟨⟨i1,i4⟩,i5⟩,i6⟩,i7⟩:=h;obtain⟨t1,t2⟩:=yQ E v hf 6 i6;refine SS.ref (sO (up:=Z.up) (c:=c) (i:=x) hf.ex hf.st hf.fm (by rw[v.N];exact v.nd) (by rw[v.N];exact i4) (by rw[v.sc];exact i5) (vN v i1) t1 t2 (λe=>XH v hf e x n _ _ i7)) λU=>.inr ?_
                  rw[lA];unfold Sv;cases evSs Z U (.cons b .nil)<;>rfl
  |try2 body c x hd c' hd' els=>exact absurd (show Ad=Ab from h) AF
  |swp i k l=>
    unfold L9 at h;dsimp only at h;replace h:=UU h;obtain⟨ts,v0,pos,rfl,h⟩:=h;replace h:=Fh h;obtain⟨t,rfl,h⟩:=h;replace h:=JK h;obtain⟨ab,kt,tp,rfl,h⟩:=h;replace h:=HN h;obtain⟨a,b,rfl,h⟩:=h;replace h:=MI h;obtain⟨x,y,p3,rfl,h⟩:=h;replace h:=MI h;obtain⟨u,z,p6,rfl,h⟩:=h;replace h:=Ez h;obtain⟨x,p1,rfl,h⟩:=h;replace h:=Ez h;obtain⟨y,p2,rfl,h⟩:=h;replace h:=Ez h;obtain⟨u,p4,rfl,h⟩:=h;replace h:=Ez h;obtain⟨z,p5,rfl,h⟩:=h;replace h:=JK h;obtain⟨cd,q0,q1,rfl,h⟩:=h;replace h:=HN h;obtain⟨c,d,rfl,h⟩:=h;obtain⟨hc,h⟩:=Ce h;obtain⟨hd,h⟩:=Ce h;obtain⟨o,a,p,rfl⟩:=U_2 hc;obtain⟨o',a',p',rfl⟩:=U_2 hd;simp only[Ak]at h;obtain⟨⟨⟨⟨h1,h2⟩,h3⟩,h4⟩,h5⟩:=h;exact sP v.calm (Hh v h1) (Hh v h2) (Hh v h3) (Hh v h4) (E.e W T X _ _ v h5).se (λ_=>rfl) (λ_=>rfl) (QJ (λ_ _ z=>by cases z)) fN
  |apop j i e=>
    replace h:=NO h;obtain⟨x,px,m,ap,l,cp,pos,rfl,h2,h⟩:=h;replace h:=Fh h;obtain⟨w,rfl,h⟩:=h;simp only[Ak,AQ]at h;obtain⟨⟨rfl,h1⟩,h3⟩:=h;cases q:OU w with
    |none=>rw[q]at h3;cases h3
    |some t=>
      obtain⟨y,u⟩:=t;rw[q]at h3;simp only[Ak]at h3;obtain⟨h3,h4⟩:=h3;obtain⟨p',ap',cp',rfl,h5,h6⟩:=pP q;exact mS (Hh v h1) (Hh v h3) (E.e W T X _ e v h4).se rfl rfl (by rw[h2];exact Do _) (by rw[h5];exact Do _) (CA h6)
  |ins i k e=>
    replace h:=NO h;obtain⟨x,p,m,ap,l,cp,pos,rfl,hl,h⟩:=h;replace h:=HN h;obtain⟨y,z,rfl,h⟩:=h;simp only[Ak,AQ]at h;obtain⟨⟨⟨⟨⟨rfl,h1⟩,h2⟩,h3⟩,h4⟩,h5⟩:=h;exact uP (Hh v h1) (E.e W T X _ k v h4).st (E.e W T X _ e v h5).se rfl (by rw[CA h2,CA h3];rfl) (by rw[hl];exact Do _) (CA h2) (CA h3) (by rw[CA h3];rfl) rfl
  |dput=>exact noF h
  |dsd=>exact noF h
  |rel=>exact noF h
theorem kI{c:Ss}(h:O2 c=Ab)(U:Rho):evSs Z U c=.bad:=by
 cases c with
 |nil=>cases h
 |cons s ss=>
  cases s with
  |expr e=>
   cases e with
   |bi b as=>
    cases as with
    |nil=>
     cases b with
     |len=>rfl
     |_=>exact noF h
    |cons=>cases b<;>exact noF h
   |_=>exact noF h
  |_=>exact noF h
theorem sJ(Z_:SndS Z CL k n)(W:XW)(T:Tc)(X:Cx)(xs:Ac AO)(c:Ss)(v:VX Z CL k W T X)(hf:DefX X)(h:chkSs (n+1) T xs c=Ab):SSs X CL W xs (λU=>evSs Z U c):=by
 by_cases hb:O2 c=Ab
 .exact λFz B pI s Y H D I ⟨U,x,p⟩=>by
   dsimp only at p;rw[kI hb]at p;exact p.elim
 have hb:O2 c=Ad:=by simpa using hb
 cases c with
 |nil=>
  simp only[chkSs,hb,E3,HF]at h;subst h;exact QI
 |cons s ss=>
  by_cases hr:∃ i,s=.rel i
  .obtain⟨i,rfl⟩:=hr;simp only[chkSs,hb,E3]at h;exact mO i (Z_.ss W T X xs ss v hf h)
  .cases xs with
   |nil=>cases s<;>first|(simp[chkSs,hb]at h;done)|exact absurd ⟨_,rfl⟩ hr
   |cons st r=>
    have h':L9 n T st s=Ab/\chkSs n T r ss=Ab:=by
     cases s<;>first|(simp only[chkSs,hb,E3,Ak]at h;exact h)|exact absurd ⟨_,rfl⟩ hr
    exact Kv (Z_.s W T X st s v hf h'.1) (Z_.ss W T X r ss v hf h'.2)
theorem RY:∀ n,SndS Z CL k n
 |0=>⟨λ_ _ _ _ _ _ _ h=>noF h,λ_ _ _ _ _ _ _ h=>noF h⟩
 |n+1=>⟨yK (RY n),sJ (RY n)⟩
end
theorem MA{n:Ag}{ds:Ac D}{i:Ag}{o:Ai}(h:(By n ds)[i]?=Aa (Aa (d,o))):o=Ad/\ds[i]?=Aa d:=by
 unfold By at h;by_cases hi:i<ds.length
 .rw[Fq (by simpa using hi),DY]at h
  cases e:ds[i]? with
  |none=>rw[e]at h;cases h
  |some x=>rw[e]at h;cases h;exact⟨rfl,rfl⟩
 .rw[Yx (by simpa using Nat.le_of_not_lt hi),YA]at h
  split at h<;>cases h
theorem gW{N:Ac Ah}{vs:Ac V}{i:Ag}{v:V}(h:vs[i]?=Aa v):(L2.start N vs)[i]?=Aa (Aa v):=by
 unfold L2.start;have hi:=(A2.mp h).1;rw[Fq (by simpa using hi),DY,h]
 rfl
theorem UZ{N:Ac Ah}{n:Ag}{vs:Ac V}{ds:Ac D}(hn:N.length=n)(hA:AOk H A)(r:Reps K CL H A vs ds):Sx K CL (λb o=>H b=Aa o) A (By n ds) (L2.start N vs) H:=by
 have own:∀ a,BG A (By n ds) (L2.start N vs) a->A a:=λa h=>by
  rcases h with h|⟨j,d,h,_⟩
  .exact h
  .exact absurd (MA h).1 (by decide)
 have hlen:(By n ds).length=(L2.start N vs).length:=by
  unfold By L2.start;simp only[Cu,Bi,YE,r.length,hn]
 refine⟨⟨λi d h=>?_,λi d h=>absurd (MA h).1 (by decide),hlen⟩,λa h=>hA a (own a h),λj d a h _=>absurd (MA h).1 (by decide),λi j d e a h _ _ _=>absurd (MA h).1 (by decide),λb o h=>h,hlen⟩
 obtain⟨v,h1,h2⟩:=r.get (MA h).2;exact⟨v,gW h1,Rep.sub own _ h2⟩
structure FunX (K:Fg) (x qual:Ah) (st:AO) (f:Al) (fd:BM):Prop where
 ex:∃(oc:Aj)(od:Ao Al)(dV kV doc pm:Aj)(an:Ao Al)(cdv ct:Aj)(osl:Ba (Ao Aj)),
  fd=Co x qual (Ir st) (Fj st) (Ct st) dV kV doc pm an cdv ct/\K.lookup f=Aa ⟨oc,od,.func fd,osl⟩/\D8 K cdv qual=Ab
 kp:B2 K (.ref f)=Ab
theorem Xz{st:AO}{f:Al}(F:Fun K x qual st f fd):FunX K x qual st f fd:=by
 obtain⟨oc,od,kV,doc,pm,an,cdv,ct,osl,e,lk,hcd⟩:=F.ex;exact⟨⟨oc,od,.none,kV,doc,pm,an,cdv,ct,osl,e,lk,hcd⟩,F.kp⟩
def Ma(K:Fg)(mg:Ah->Ao Aj)(fns:Ac (Ah×Ag×Ag))(bl:Ac Ah)(rzs exs gls:Ac (Ah×Ag))(Pg:Prg)(fuel:Ag)(p:Ah×Ag×Ag):Prop:=∃ f fd ps qual st N,mg p.1=Aa (.ref f)/\FunX K p.1 qual st f fd/\FV K fd ps []/\ps.length=p.2.2%1000/\Ia fuel (C2 1000 p.2.2) fns bl rzs exs gls ps N st (Pg.defs p.2.1)=Ab
structure Tab (K:Fg) (mg:Ah->Ao Aj) (CL:ClA) (fns:Ac (Ah×Ag×Ag)) (bl:Ac Ah) (rzs exs gls:Ac (Ah×Ag)) (Pg:Prg) (fuel:Ag):Prop where
 xt:XT Pg.up Pg.xn CL rzs exs K mg
 bln:∀ x,x∈bl->mg x=Ae
 gl:∀ p∈gls,O3 K mg CL p.1 (Pg.G p.2)
 fn:∀ p∈fns,Ma K mg fns bl rzs exs gls Pg fuel p
theorem WA(Pg:Prg)(n i:Ag):(gam Pg n).fr i=(Pg.defs i).fr:=by cases n<;>rfl
theorem Wz(Pg:Prg)(n:Ag):(gam Pg n).up=Pg.up:=by cases n<;>rfl
theorem Xy(Pg:Prg)(n:Ag):(gam Pg n).G=Pg.G:=by cases n<;>rfl
theorem Wy(Pg:Prg)(n:Ag):(gam Pg n).xn=Pg.xn:=by cases n<;>rfl
section
variable{P:AK}{w:AZ}{K:Fg}{mg:Ah->Ao Aj}{base:AD}{CL:ClA}{fns:Ac (Ah×Ag×Ag)}{bl:Ac Ah}{rzs exs gls:Ac (Ah×Ag)}{Pg:Prg}{fuel:Ag}
def Lvl(P:AK)(w:AZ)(K:Fg)(mg:Ah->Ao Aj)(base:AD)(CL:ClA)(Pg:Prg)(n:Ag)(p:Ah×Ag×Ag):Prop:=∃ f fd ps,mg p.1=Aa (.ref f)/\B2 K (.ref f)=Ab/\FV K fd ps []/\ps.length=p.2.2%1000/\(p.2.2<1000->FnOk P w K mg base (CXR P w) n f fd ps (spD K CL (p.2.2%1000) ((gam Pg n).fr p.2.1) ((gam Pg n).F p.2.1)))/\(1000<=p.2.2->HotOk P w K mg base n f fd ps (spH K CL (p.2.2%1000) ((gam Pg n).fr p.2.1) ((gam Pg n).F p.2.1)))
theorem WF(t:Tab K mg CL fns bl rzs exs gls Pg fuel){n:Ag}(hlv:∀ q∈fns,Lvl P w K mg base CL Pg n q){st:AO}{f:Al}{ps N:Ac Ah}{m id:Ag}(h2:FunX K x qual st f fd)(h4:ps.length=m)(h5:Ia fuel Ad fns bl rzs exs gls ps N st (Pg.defs id)=Ab):FnOk P w K mg base (CXR P w) (n+1) f fd ps (spD K CL m ((gam Pg (n+1)).fr id) ((gam Pg (n+1)).F id)):=by
  unfold Ia at h5;simp only[Ak,AQ,Bu,D9,CH,GH,K8]at h5;obtain⟨⟨⟨⟨⟨⟨⟨⟨c1,c2⟩,c3⟩,c4⟩,c5⟩,c6⟩,c7⟩,c8⟩,c9⟩:=h5;obtain⟨oc,od,dV,kV,doc,pm,an,cdv,ct,osl,rfl,lk,hcd⟩:=h2.ex;refine X8 (N:=N) lk hcd ⟨c1,c2,c3,Kn c4,c5,c6,c7⟩ (λvs H Q E ⟨ds,A,z,_⟩=>z.trans h4.symm) λA outer s H vs Q E hr ⟨ds,B,hl,hA,hreps,hpost⟩=>?_
  have xt:XT (gam Pg n).up (gam Pg n).xn CL rzs exs K mg:=by rw[Wz,Wy];exact t.xt
  have gl:∀ p∈gls,O3 K mg CL p.1 ((gam Pg n).G p.2):=by rw[Xy];exact t.gl
  have key:∀ W:XW,(∀ x cls dx H',W x H'->Gg K CL H' cls dx x->E cls dx H')->BS K CL (λb o=>H b=Aa o) B W (evSs (gam Pg n) (By (Pg.defs id).n ds) (Pg.defs id).body) {nx:=λ_ H'=>Q .non H',rt:=Q} ->
      ∃ t,PSs (EO (CXR P w) P w K mg base N qual (Ct st) f cdv A outer s H E) (Fj st) t/\t {nx:=λ_ H'=>Q .non H',rt:=Q} (start N vs) H:=λW hW hp=>by
    have v:VX (gam Pg n) CL n W ⟨Ct st,N,fns,bl,rzs,exs,gls⟩ (EO (CXR P w) P w K mg base N qual (Ct st) f cdv A outer s H E):=⟨rfl,c1,rfl,Kn c4,rfl,hr,t.bln,hlv,ownR,fw hW,rzR hW,xt,gl⟩;exact⟨_,(RY fuel).ss W _ _ _ (Pg.defs id).body v ⟨λ_=>rfl,rfl,rfl,rfl⟩ c9 (λb o=>H b=Aa o) B,_,UZ c8 hA hreps,hp⟩
  have no:∀ x cls dx H',W0 x H'->Gg K CL H' cls dx x->E cls dx H':=λ_ _ _ _ z=>z.elim
  have e:(gam Pg (n+1)).F id ds=El Pg.xs ((evSs (gam Pg n) (By (Pg.defs id).n ds) (Pg.defs id).body).ans (Pg.defs id).fr):=rfl;rw[e,WA]at hpost;have cutO:∀ r:R D,(∀ x,r≠.exn x)->El Pg.xs r=r:=λr hr=>by
    cases Pg.xs<;>cases r<;>first|rfl|exact absurd rfl (hr _)
  cases eo:evSs (gam Pg n) (By (Pg.defs id).n ds) (Pg.defs id).body with
  |next U'=>
    refine key W0 no ?_;rw[eo]at hpost ⊢;cases ef:(Pg.defs id).fr with
    |true=>rw[ef]at hpost;rw[cutO _ (by intro x z;cases z)]at hpost;exact hpost.elim
    |false=>
      rw[ef]at hpost;rw[cutO _ (by intro x z;cases z)]at hpost
      exact λY' H' x'=>hpost .non H' (λb o z=>x'.same b o z) ⟨rfl,λz=>nomatch z⟩
  |ret d b=>
    refine key W0 no ?_;rw[eo]at hpost ⊢;intro v H' sm rp fr;have hp2:(match El Pg.xs (if ((Pg.defs id).fr&&(!b&&isL d))=Ab then R.bad else R.ok d) with
      |.ok d=>∀ v H',AE H H'->DB K CL (Pg.defs id).fr H B H' v d->Q v H'
      |.exn x=>∀ cls dx H',AE H H'->Gg K CL H' cls dx x->E cls dx H'
      | .bad=>AV):=hpost
    cases ec:((Pg.defs id).fr&&(!b&&isL d)) with
    |true=>rw[ec,Ax rfl,cutO _ (by intro x z;cases z)]at hp2;exact hp2.elim
    |false=>
      rw[ec,AC (by decide),cutO _ (by intro x z;cases z)]at hp2
      refine hp2 v H' sm ⟨rp,λefr es hd=>?_⟩
      subst hd;have eb:b=Ab:=by
        cases b with
        |true=>rfl
        |false=>rw[efr]at ec;cases ec
      obtain⟨a,xs,h1,h2,h3,h4⟩:=fr eb es rfl;refine⟨a,xs,h1,?_,h3,h4⟩;cases ha:H a with
      |none=>rfl
      |some o=>exact absurd ha (h2 o)
  |brk U'=>rw[eo]at hpost;have hp2:(match El Pg.xs (R.bad:R D) with | .ok _=>_ | .exn _=>_ | .bad=>AV):=hpost;rw[cutO _ (by intro x z;cases z)]at hp2;exact hp2.elim
  |cont U'=>rw[eo]at hpost;have hp2:(match El Pg.xs (R.bad:R D) with | .ok _=>_ | .exn _=>_ | .bad=>AV):=hpost;rw[cutO _ (by intro x z;cases z)]at hp2;exact hp2.elim
  |bad=>rw[eo]at hpost;have hp2:(match El Pg.xs (R.bad:R D) with | .ok _=>_ | .exn _=>_ | .bad=>AV):=hpost;rw[cutO _ (by intro x z;cases z)]at hp2;exact hp2.elim
  |exn x U'=>
    rw[eo]at hpost;have hp2:(match El Pg.xs (R.exn x:R D) with
      |.ok d=>∀ v H',AE H H'->DB K CL (Pg.defs id).fr H B H' v d->Q v H'
      |.exn x=>∀ cls dx H',AE H H'->Gg K CL H' cls dx x->E cls dx H'
      | .bad=>AV):=hpost
    cases ex:Pg.xs with
    |false=>rw[ex]at hp2;exact hp2.elim
    |true=>
      rw[ex]at hp2;have hp3:∀ cls dx H',AE H H'->Gg K CL H' cls dx x->E cls dx H':=hp2;refine key (λy H'=>y=x/\AE H H') (λy cls dx H' ⟨e1,sm⟩ xr=>?_) ?_
      · subst e1;exact hp3 cls dx H' sm xr
      · rw[eo];exact λH' sm=>⟨rfl,sm⟩
theorem vJ(t:Tab K mg CL fns bl rzs exs gls Pg fuel){n:Ag}(hlv:∀ q∈fns,Lvl P w K mg base CL Pg n q){st:AO}{f:Al}{ps N:Ac Ah}{m id:Ag}(h2:FunX K x qual st f fd)(h4:ps.length=m)(h5:Ia fuel Ab fns bl rzs exs gls ps N st (Pg.defs id)=Ab):HotOk P w K mg base (n+1) f fd ps (spH K CL m ((gam Pg (n+1)).fr id) ((gam Pg (n+1)).F id)):=by
  unfold Ia at h5;simp only[Ak,AQ,Bu,D9,CH,GH,K8]at h5;obtain⟨⟨⟨⟨⟨⟨⟨⟨c1,c2⟩,c3⟩,c4⟩,c5⟩,c6⟩,c7⟩,c8⟩,c9⟩:=h5;obtain⟨oc,od,dV,kV,doc,pm,an,cdv,ct,osl,rfl,lk,hcd⟩:=h2.ex;refine vK (N:=N) lk hcd ⟨c1,c2,c3,Kn c4,c5,c6,c7⟩ (λvs H Q E ⟨ds,A,z,_⟩=>z.trans h4.symm) λA ev outer s H vs Q E hr ⟨ds,B,hl,hA,hreps,hpost⟩=>?_
  have xt:XT (gam Pg n).up (gam Pg n).xn CL rzs exs K mg:=by rw[Wz,Wy];exact t.xt
  have gl:∀ p∈gls,O3 K mg CL p.1 ((gam Pg n).G p.2):=by rw[Xy];exact t.gl
  have key:BS K CL (λb o=>H b=Aa o) B W0 (evSs (gam Pg n) (By (Pg.defs id).n ds) (Pg.defs id).body) {nx:=λ_ H'=>Q .non H',rt:=Q} ->
      ∃ t,PSs (Cx.hot (EO Jq P w K mg base N qual (Ct st) f cdv A outer s H E) ev) (Fj st) t/\t {nx:=λ_ H'=>Q .non H',rt:=Q} (start N vs) H:=λhp=>by
    have v:VX (gam Pg n) CL n W0 ⟨Ct st,N,fns,bl,rzs,exs,gls⟩ (EO Jq P w K mg base N qual (Ct st) f cdv A outer s H E):=⟨rfl,c1,rfl,Kn c4,rfl,hr,t.bln,hlv,ZY,QZ,R8,xt,gl⟩;exact⟨_,XH v ⟨λ_=>rfl,rfl,rfl,rfl⟩ ev 0 fuel _ (Pg.defs id).body c9 (λb o=>H b=Aa o) B,_,UZ c8 hA hreps,hp⟩
  have e:(gam Pg (n+1)).F id ds=El Pg.xs ((evSs (gam Pg n) (By (Pg.defs id).n ds) (Pg.defs id).body).ans (Pg.defs id).fr):=rfl;rw[e,WA]at hpost;have cutO:∀ r:R D,(∀ x,r≠.exn x)->El Pg.xs r=r:=λr hr=>by
    cases Pg.xs<;>cases r<;>first|rfl|exact absurd rfl (hr _)
  refine key ?_;cases eo:evSs (gam Pg n) (By (Pg.defs id).n ds) (Pg.defs id).body with
  |next U'=>
    rw[eo]at hpost;cases ef:(Pg.defs id).fr with
    |true=>rw[ef]at hpost;rw[cutO _ (by intro x z;cases z)]at hpost;exact hpost.elim
    |false=>
      rw[ef]at hpost;rw[cutO _ (by intro x z;cases z)]at hpost
      exact λY' H' x'=>hpost .non H' (λb o z=>x'.same b o z) ⟨rfl,λz=>nomatch z⟩
  |ret d b=>
    rw[eo]at hpost;intro v H' sm rp fr;have hp2:(match El Pg.xs (if ((Pg.defs id).fr&&(!b&&isL d))=Ab then R.bad else R.ok d) with
      |.ok d=>∀ v H',AE H H'->DB K CL (Pg.defs id).fr H B H' v d->Q v H'
      |.exn x=>AV
      | .bad=>AV):=hpost
    cases ec:((Pg.defs id).fr&&(!b&&isL d)) with
    |true=>rw[ec,Ax rfl,cutO _ (by intro x z;cases z)]at hp2;exact hp2.elim
    |false=>
      rw[ec,AC (by decide),cutO _ (by intro x z;cases z)]at hp2
      refine hp2 v H' sm ⟨rp,λefr es hd=>?_⟩
      subst hd;have eb:b=Ab:=by
        cases b with
        |true=>rfl
        |false=>rw[efr]at ec;cases ec
      obtain⟨a,xs,h1,h2,h3,h4⟩:=fr eb es rfl;refine⟨a,xs,h1,?_,h3,h4⟩;cases ha:H a with
      |none=>rfl
      |some o=>exact absurd ha (h2 o)
  |brk U'=>rw[eo]at hpost;have hp2:(match El Pg.xs (R.bad:R D) with | .ok _=>_ | .exn _=>_ | .bad=>AV):=hpost;rw[cutO _ (by intro x z;cases z)]at hp2;exact hp2.elim
  |cont U'=>rw[eo]at hpost;have hp2:(match El Pg.xs (R.bad:R D) with | .ok _=>_ | .exn _=>_ | .bad=>AV):=hpost;rw[cutO _ (by intro x z;cases z)]at hp2;exact hp2.elim
  |bad=>rw[eo]at hpost;have hp2:(match El Pg.xs (R.bad:R D) with | .ok _=>_ | .exn _=>_ | .bad=>AV):=hpost;rw[cutO _ (by intro x z;cases z)]at hp2;exact hp2.elim
  |exn x U'=>
    rw[eo]at hpost;have hp2:(match El Pg.xs (R.exn x:R D) with
      |.ok d=>∀ v H',AE H H'->DB K CL (Pg.defs id).fr H B H' v d->Q v H'
      |.exn x=>AV
      | .bad=>AV):=hpost
    exfalso
    cases ex:Pg.xs with
    |false=>rw[ex]at hp2;exact hp2
    |true=>
      rw[ex]at hp2;exact hp2
theorem Rc(t:Tab K mg CL fns bl rzs exs gls Pg fuel):∀ n,∀ p∈fns,Lvl P w K mg base CL Pg n p
 |0,p,hp=>by
  obtain⟨f,fd,ps,qual,st,N,h1,h2,h3,h4,h5⟩:=t.fn p hp;exact⟨f,fd,ps,h1,h2.kp,h3,h4,λ_=>⟨λvs H Q E ⟨ds,A,_,_,_,z⟩=>z.elim,λA outer s H args us vs Q E _ _ _ _ ⟨ds,A,_,_,_,z⟩=>z.elim⟩,λ_=>⟨λvs H Q E ⟨ds,A,_,_,_,z⟩=>z.elim,λA ev outer s H args us vs Q E _ _ _ _ ⟨ds,A,_,_,_,z⟩=>z.elim⟩⟩
 |n+1,p,hp=>by
  obtain⟨f,fd,ps,qual,st,N,h1,h2,h3,h4,h5⟩:=t.fn p hp;refine⟨f,fd,ps,h1,h2.kp,h3,h4,λhlt=>?_,λhge=>?_⟩
  .have eb:C2 1000 p.2.2=Ad:=by
    cases e:C2 1000 p.2.2 with
    |false=>rfl
    |true=>exact absurd (Dp e) (by omega)
   rw[eb]at h5;exact WF t (λq hq=>Rc t n q hq) h2 h4 h5
  .rw[Nat.ble_eq_true_of_le hge]at h5;exact vJ t (λq hq=>Rc t n q hq) h2 h4 h5
theorem yA{s s':Ap}{e:Aj}(h:CXR P w [] H s (λ_ _ _=>AV) e s'):AV:=by
 obtain⟨_,_,_,_,_,_,_,_,_,_,_,_,_,_,_,z⟩:=h;exact z
noncomputable def Sj:AO->Ao (Am×AG)
 |.Expr e p=>Aa (e,p)
 |_=>Ae
theorem nQ{e:AO}{t:Am×AG}(h:Sj e=Aa t):e=.Expr t.1 t.2:=by
 cases e with
 |Expr x p=>cases h;rfl
 |_=>exact nomatch (show Ae=Aa t from h)
noncomputable def Sq:AO->Ao (Am×Am×AG)
  | .Assign ts v p=>(match ts with
    |[t]=>Aa (t,v,p)
    | _=>Ae)
  |_=>Ae
theorem nU{e:AO}{t:Am×Am×AG}(h:Sq e=Aa t):e=.Assign [t.1] t.2.1 t.2.2:=by
 cases e with
 |Assign ts v p=>
  cases ts with
  |nil=>exact nomatch (show Ae=Aa t from h)
  |cons a ts=>
   cases ts with
   |nil=>cases h;rfl
   |cons=>exact nomatch (show Ae=Aa t from h)
 |_=>exact nomatch (show Ae=Aa t from h)
noncomputable def R5:Am->Ao (Am×Ah×AG)
 |.Attribute e x p=>Aa (e,x,p)
 |_=>Ae
theorem Vz{e:Am}{t:Am×Ah×AG}(h:R5 e=Aa t):e=.Attribute t.1 t.2.1 t.2.2:=by
 cases e with
 |Attribute e x p=>cases h;rfl
 |_=>exact nomatch (show Ae=Aa t from h)
noncomputable def Sh:Am->Ao (Ac Am×AG)
 |.JoinedStr l p=>Aa (l,p)
 |_=>Ae
theorem nO{e:Am}{t:Ac Am×AG}(h:Sh e=Aa t):e=.JoinedStr t.1 t.2:=by
 cases e with
 |JoinedStr l p=>cases h;rfl
 |_=>exact nomatch (show Ae=Aa t from h)
noncomputable def Si:Am->Ao (Am×Af×AG)
  | .FormattedValue e n f p=>(match f with
    |none=>Aa (e,n,p)
    | _=>Ae)
  |_=>Ae
theorem nP{e:Am}{t:Am×Af×AG}(h:Si e=Aa t):e=.FormattedValue t.1 t.2.1 Ae t.2.2:=by
 cases e with
 |FormattedValue e n f p=>
  cases f with
  |none=>cases h;rfl
  |some=>exact nomatch (show Ae=Aa t from h)
 |_=>exact nomatch (show Ae=Aa t from h)
noncomputable def Sk:Am->Ao (Ah×Ag×AG)
  | .Constant c k p=>(match c with
    |.str z=>Aa (z,k,p)
    | _=>Ae)
  |_=>Ae
theorem nR{e:Am}{t:Ah×Ag×AG}(h:Sk e=Aa t):e=.Constant (.str t.1) t.2.1 t.2.2:=by
 cases e with
 |Constant c k p=>
  cases c with
  |str z=>cases h;rfl
  |_=>exact nomatch (show Ae=Aa t from h)
 |_=>exact nomatch (show Ae=Aa t from h)
noncomputable def Tk(g par f:Ah)(b:Ac AO):Ao Ge:=(OS b).bind λs=>(Sj s.1).bind λc=>(So c.1).bind λcl=>(R5 cl.1).bind λat1=>(J3 at1.1).bind λg1=>(OS cl.2.1).bind λab=>(J3 ab.1).bind λs1=>(Sh ab.2).bind λj=>(OS j.1).bind λfk=>(Si fk.1).bind λfm=>(J3 fm.1).bind λq1=>(Sk fk.2).bind λz=>(Sq s.2).bind λt=>(R5 t.1).bind λat2=>(J3 at2.1).bind λs2=>(J3 t.2.1).bind λq2=>
 if (g1.1==g&&(at1.2.1==("__init__" : Ah)&&(s1.1==("self" : Ah)&&(q1.1==par&&(decide (fm.2.1=-1)&&(s2.1==("self" : Ah)&&(at2.2.1==f&&(q2.1==par&&(at1.2.2.endLine==cl.2.2.line&&C2 z.1.length 1000)))))))))=Ab then Aa () else Ae
noncomputable def SN(g par f:Ah)(b:Ac AO):Ai:=(Tk g par f b).isSome
theorem rL{g par f:Ah}{b:Ac AO}(h:SN g par f b=Ab):∃ z k np apos p1 p2 p3 p4 p5 cpos p6 p7 p8 p9 p10,b=Sf g par f z k np apos p1 p2 p3 p4 p5 cpos p6 p7 p8 p9 p10/\(apos.endLine==cpos.line)=Ab/\z.length<=1000:=by
 obtain⟨_,h⟩:=Dv.mp (show (Tk g par f b).isSome=Ab from h)
 obtain⟨s,e1,h⟩:=AJ.mp h;obtain⟨c,e2,h⟩:=AJ.mp h;obtain⟨cl,e3,h⟩:=AJ.mp h;obtain⟨at1,e4,h⟩:=AJ.mp h;obtain⟨g1,e5,h⟩:=AJ.mp h;obtain⟨ab,e6,h⟩:=AJ.mp h;obtain⟨s1,e7,h⟩:=AJ.mp h;obtain⟨j,e8,h⟩:=AJ.mp h;obtain⟨fk,e9,h⟩:=AJ.mp h;obtain⟨fm,f1,h⟩:=AJ.mp h;obtain⟨q1,f2,h⟩:=AJ.mp h;obtain⟨z,f3,h⟩:=AJ.mp h;obtain⟨t,f4,h⟩:=AJ.mp h;obtain⟨at2,f5,h⟩:=AJ.mp h;obtain⟨s2,f6,h⟩:=AJ.mp h;obtain⟨q2,f7,h⟩:=AJ.mp h;split at h
 .rename_i hc;simp only[Ak,AQ,AW]at hc;obtain⟨c1,c2,c3,c4,c5,c6,c7,c8,h1,h2⟩:=hc;rw[QH e1,nQ e2,nS e3,Vz e4,LG e5,QH e6,LG e7,nO e8,QH e9,nP f1,LG f2,nR f3,nU f4,Vz f5,LG f6,LG f7,c1,c2,c3,c4,c5,c6,c7,c8];exact⟨_,_,_,_,_,_,_,_,_,_,_,_,_,_,_,rfl,by rw[AQ];exact h1,Dp h2⟩
 .cases h
noncomputable def Nk(g par f:Ah)(st:AO):Ai:=
 (Ct st).kind==.function&&((Ct st).isCoroutine==Ad&&((Ct st).isGenerator==Ad&&(LH ["self",par]&&((Ct st).names.lookup ("self" : Ah)==Aa .local&&((Ct st).names.lookup par==Aa .local&&(((Ct st).names.all λy=>y.2 != .free) &&
  ((Ct st).names.lookup g==Aa .globalImplicit&&(g != ("__debug__" : Ah)&&(par != ("__debug__" : Ah)&&(par != ("__classdict__" : Ah)&&SN g par f (Fj st)))))))))))
noncomputable def OB(s:AO):AO:=match s with
  |.ClassDef _ _ _ (b::_) _ _ _ _ _ _ _=>b
  |s=>s
def InI(K:Fg)(f:Al)(qual:Ah)(st:AO):Prop:=∃ fd,Fun K "__init__" qual st f fd
theorem ini_mk{st:AO}{f:Al}{kV doc pm cdv ct:Aj}(l:K.lookup f=Aa ⟨oc,od,.func (Co "__init__" qual (Ir st) (Fj st) (Ct st) .none kV doc pm an cdv ct),osl⟩)(c:D8 K cdv qual=Ab)(k:B2 K (.ref f)=Ab):InI K f qual st:=⟨_,WB l c k⟩
theorem sS{fI:Al}{g par f qual:Ah}{st:AO}(a:InI K fI qual st)(hk:Nk g par f st=Ab)(hb:∀(u0 u1 kV doc pm:Aj)(an:Ao Al)(cdv ct:Aj),IP (Co "__init__" qual (Ir st) (Fj st) (Ct st) .none kV doc pm an cdv ct) ⟨[u0,u1],[]⟩=pure ((["self",par]:Ac Ah).zip [u0,u1]))(xc:DN K C (Aa (.ref fI))=Ab)(dc:GC K C=Ab)(ty:DK K (.ref fI)=Aa (.type "function"))(mo:mg g=Aa (.ref OV))(s1:ED K (.ref OV) "__getattribute__" = Aa (Aa (.builtin "type.__getattribute__")))(s2:Fv K OV (.type "type")=Ab)(s3:Fu K (.ref OV) (.type "type") "__init__" = Aa (.val (.builtin "ValueError.__init__")))(hf:AM K (.ref C) f=Aa Ae)(hs:AM K (.ref C) "__setattr__" = Aa (Aa (.builtin "object.__setattr__"))):XIn K mg C f:=by
 obtain⟨fd,fn⟩:=a;unfold Nk at hk;simp only[Ak,AQ,D9,GH,K8]at hk;obtain⟨c1,c2,c3,c4,c5,c6,c7,c8,c9,c10,c11,c12⟩:=hk;obtain⟨z,k,np,apos,p1,p2,p3,p4,p5,cpos,p6,p7,p8,p9,p10,eb,hl,hz⟩:=rL c12;exact .mk xc dc fn ty ⟨c1,c2,c3,Kn c4,rfl,λx hx=>by
  rcases Av.mp hx with rfl|hx
  .exact .inl c5
  .rw[Bl.mp hx];exact .inl c6,c7⟩ c5 c6 (fn.binds λkV doc pm an cdv ct us hu=>match us,hu with | [u0,u1],_=>hb u0 u1 kV doc pm an cdv ct) eb c8 mo (by simpa using c9) (by simpa using c10) (by simpa using c11) s1 s2 s3 hl hz hf hs
theorem ck(h:∀ ds,xn c ds=.bad\/xn c ds=.ok ⟨c,[]⟩)(e:DN K C Ae=Ab)(ds:Ac D):xn c ds=.bad\/(xn c ds=.ok ⟨c,[]⟩/\DN K C Ae=Ab)\/∃ f,XIn K mg C f/\Nh xn c f ds:=(h ds).imp id λz=>.inl ⟨z,e⟩
theorem ci{f:Ah}(h:∀ ds,xn c ds=mkX c f ds)(x:XIn K mg C f)(ds:Ac D):xn c ds=.bad\/(xn c ds=.ok ⟨c,[]⟩/\DN K C Ae=Ab)\/∃ f,XIn K mg C f/\Nh xn c f ds:=by
  have e:=h ds
  match ds,e with
  |[],e=>exact .inl e
  |_::_::_,e=>exact .inl e
  |[d],e=>
    have e':xn c [d]=if (xfD 1 d||xfD 2 d)=Ab then .ok ⟨c,[(f,d)]⟩ else .bad:=e
    by_cases z:(xfD 1 d||xfD 2 d)=Ab
    · rw[Ax z]at e';refine .inr (.inr ⟨f,x,d,?_⟩);rw[CH]at z;rcases z with z|z
      · exact⟨0,rfl,z,by decide,e'⟩
      · exact⟨1,rfl,z,by decide,e'⟩
    · rw[AC z]at e';exact .inl e'
theorem XQ(dc:GC K C=Ab)(h1:AM K (.ref C) "triple" = Aa Ae)(h2:AM K (.ref C) "points" = Aa Ae)(f:Ah)(h:(f==("triple" : Ah)||f==("points" : Ah))=Ab):GC K C=Ab/\AM K (.ref C) f=Aa Ae:=by
 rw[CH]at h;rcases h with h|h
 .rw[eq_of_beq h];exact⟨dc,h1⟩
 .rw[eq_of_beq h];exact⟨dc,h2⟩
structure XA (K:Fg) (c:Ah) (x:Al) (i:Ao Aj):Prop where
 n:Bv K A3 c=Aa (Aa (.ref x))
 y:DN K x i=Ab
 dc:GC K x=Ab
 ft:AM K (.ref x) "triple" = Aa Ae
 fp:AM K (.ref x) "points" = Aa Ae
 ok:XcOk K x
theorem xcls_l{x:Al}(e:Ju K x [.type "ValueError",.type "Exception",.type "BaseException",.type "object"] "ValueError.__new__" = Ab):DN K x Ae=Ab:=nJ e
theorem xa_mk{c:Ah}{x:Al}{i:Ao Aj}(n:Bv K A3 c=Aa (Aa (.ref x)))(e:DN K x i=Ab)(dc:GC K x=Ab)(ft:AM K (.ref x) "triple" = Aa Ae)(fp:AM K (.ref x) "points" = Aa Ae)(ga:AM K (.ref x) "__getattribute__" = Aa (Aa (.builtin "BaseException.__getattribute__")))(gt:AM K (.ref x) "__getattr__" = Aa Ae)(cl:AM K (.ref x) "__class__" = Aa (Aa (.builtin "object.__class__")))(ob:CO K x (.type "object")=Aa Ab)(be:BQ K (.ref x) (.type "BaseException")=Aa Ab)(sv:BQ K (.ref x) (.type "ValueError")=Aa Ab):XA K c x i:=⟨n,e,dc,ft,fp,yZ e ga gt cl ob be sv⟩
structure XB (K:Fg) (c:Ah) (x i:Al) (q:Ah) (st:AO):Prop where
 fi:AM K (.ref x) "__init__" = Aa (Aa (.ref i))
 a:XA K c x (Aa (.ref i))
 ii:InI K i q st
 ti:DK K (.ref i)=Aa (.type "function")
 sn:AM K (.ref x) "__setattr__" = Aa (Aa (.builtin "object.__setattr__"))
structure XE (K:Fg) (c:Ah) (x:Al):Prop where
 n:Bv K A3 c=Aa (Aa (.ref x))
 cs:CO K x (.type "object")=Aa Ab
 ty:DK K (.ref x)=Aa (.type "type")
structure XO (K:Fg) (x:Al):Prop where
 sa:ED K (.ref x) "__getattribute__" = Aa (Aa (.builtin "type.__getattribute__"))
 sb:Fv K x (.type "type")=Ab
 sc:Fu K (.ref x) (.type "type") "__init__" = Aa (.val (.builtin "ValueError.__init__"))
def SuC(K:Fg)(C:Al)(l:Ac (Al×Ai)):Prop:=∀ q∈l,BQ K (.ref q.1) (.ref C)=Aa q.2
def KC(K:Fg)(C:Al):Prop:=∀ x i v,DN K x i=Ab->BQ K (.ref x) (.ref C)=Aa v->CS K (.ref x) (.ref C)=Aa v
theorem XA.kc{c:Ah}{x:Al}{i:Ao Aj}(a:XA K c x i):KC K x:=λ_ _ _ y s=>pA y a.y s
theorem XE.kc{c:Ah}{x:Al}(a:XE K c x):KC K x:=λ_ _ _ y s=>kP y a.cs a.ty s
noncomputable def clL:Ac (Ag×Al)->Ag->Ao Al
 |[],_=>Ae
 |p::r,c=>if Nat.beq c p.1=Ab then Aa p.2 else clL r c
theorem M3:∀{l:Ac (Ag×Al)},clL l c=Aa C->(c,C)∈l:=by
 intro l
 induction l with
 |nil=>intro q;cases q
 |cons p r ih=>
  intro q;obtain⟨n,x⟩:=p;by_cases e:Nat.beq c n=Ab
  .cases Nat.eq_of_beq_eq_true e;cases (show Aa x=Aa C from (Ax e).symm.trans q)
   exact Ay
  .exact Aw _ (ih ((AC e).symm.trans q))
structure XR (K:Fg) (mg:Ah->Ao Aj) (xn:Ag->Ac D->R Ex) (p:Ag×Al):Prop where
 ok:XcOk K p.2
 nf:∀ f:Ah,(f==("triple" : Ah)||f==("points" : Ah))=Ab->GC K p.2=Ab/\AM K (.ref p.2) f=Aa Ae
 md:∀ ds,xn p.1 ds=.bad\/(xn p.1 ds=.ok ⟨p.1,[]⟩/\DN K p.2 Ae=Ab)\/∃ f,XIn K mg p.2 f/\Nh xn p.1 f ds
theorem XA.row{c:Ah}{x:Al}(a:XA K c x Ae)(h:∀ ds,xn k ds=.bad\/xn k ds=.ok ⟨k,[]⟩):XR K mg xn (k,x):=⟨a.ok,XQ a.dc a.ft a.fp,ck h a.y⟩
theorem XB.row{c q:Ah}{x i o:Al}{st:AO}{g par f:Ah}(X:K.In h)(G:h.Ns A3 mg)(b:XB K c x i q st)(w:XO K o)(no:Bv K A3 g=Aa (Aa (.ref o)))(hf:f = "triple"\/f = "points")(hk:Nk g par f st=Ab)(hb:∀(u0 u1 kV doc pm:Aj)(an:Ao Al)(cdv ct:Aj),IP (Co "__init__" q (Ir st) (Fj st) (Ct st) .none kV doc pm an cdv ct) ⟨[u0,u1],[]⟩=pure ((["self",par]:Ac Ah).zip [u0,u1]))(hx:∀ ds,xn k ds=mkX k f ds):XR K mg xn (k,x):=
 ⟨b.a.ok,XQ b.a.dc b.a.ft b.a.fp,ci hx (sS b.ii hk hb b.a.y b.a.dc b.ti (Ck X G no) w.sa w.sb w.sc (by rcases hf with rfl|rfl;exact b.a.ft;exact b.a.fp) b.sn)⟩
theorem yY{l:Ac (Ag×Al)}{rzs exs:Ac (Ah×Ag)}(r:∀ p∈l,XR K mg xn p)(rz:∀ p∈rzs,∃ C,clL l p.2=Aa C/\mg p.1=Aa (.ref C))(ex:∀ p∈exs,∃ C,mg p.1=Aa (.ref C)/\KC K C/\SuC K C (l.map λq=>(q.2,(up q.1).contains p.2)))(xb:∀ c,(∀ p∈rzs,p.2≠c)->∀ ds,xn c ds=.bad):XT up xn (clL l) rzs exs K mg:=by
 refine⟨λc C q=>(r _ (M3 q)).ok,rz,λp hp=>?_,λc C ds q=>(r _ (M3 q)).md ds,λc C q=>(r _ (M3 q)).nf,xb⟩
 obtain⟨C,e,kc,su⟩:=ex p hp;have s:∀ c D,clL l c=Aa D->BQ K (.ref D) (.ref C)=Aa ((up c).contains p.2):=λc D q=>su _ (YH (f:=λq:Ag×Al=>(q.2,(up q.1).contains p.2)) (M3 q))
 exact⟨C,e,λc D q=>let ⟨_,y⟩:=(r _ (M3 q)).ok.exc;kc _ _ _ y (s c D q),s⟩
def Nb(K:Fg):Sp:=λvs H Q _=>∃(a:Al)(ns:Ac Af),vs=[.ref a]/\ns.length<=63/\SqL K H a (ns.map V.int)/\∀ v H',v=V.bl Ab->Q v H'
theorem law_fn{f:Al}(G:FnOk P w K mg base CX k f fd ps (spD K CL 1 Ad F))(h:∀ ns:Ac Af,F [.lst (ns.map .int)]=.ok (.bl Ab)):FnOk P w K mg base CX k f fd ps (Nb K):=G.imp λvs H Q E ⟨a,ns,e,hl,hS,q⟩=>by
 subst e;have rs:∀ l:Ac Af,Reps K CL H A0 (l.map V.int) (l.map D.int):=λl=>by
  induction l with
  |nil=>trivial
  |cons x l ih=>exact⟨rfl,ih⟩
 refine⟨[.lst (ns.map .int)],A0,rfl,λ_ z=>z.elim,⟨⟨a,_,rfl,.inl (λz=>z),hS,rs ns⟩,trivial⟩,?_⟩
 rw[h ns];exact λv H' _ r=>q v H' r.1
theorem oZ{f:Al}(G:FnOk P w K mg base CX k f fd ps (spD K CL 1 Ad F))(h:∀ ns:Ac Af,ns.length<=63->F [.lst (ns.map .int)]=.ok (.bl Ab)):FnOk P w K mg base CX k f fd ps (Nb K):=G.imp λvs H Q E ⟨a,ns,e,hl,hS,q⟩=>by
 subst e;have rs:∀ l:Ac Af,Reps K CL H A0 (l.map V.int) (l.map D.int):=λl=>by
  induction l with
  |nil=>trivial
  |cons x l ih=>exact⟨rfl,ih⟩
 refine⟨[.lst (ns.map .int)],A0,rfl,λ_ z=>z.elim,⟨⟨a,_,rfl,.inl (λz=>z),hS,rs ns⟩,trivial⟩,?_⟩
 rw[h ns hl];exact λv H' _ r=>q v H' r.1
theorem all_nil{Q:α->Prop}:∀ x∈([]:Ac α),Q x:=λ_ h=>nomatch h
theorem all_cons{Q:α->Prop}{a:α}{l:Ac α}(h1:Q a)(h2:∀ x∈l,Q x):∀ x∈a::l,Q x:=List.forall_mem_cons.2 ⟨h1,h2⟩
def FnI(K:Fg)(f:Al)(n:Ah)(st:AO):Prop:=∃ fd,Fun K n n st f fd/\Bv K A3 n=Aa (Aa (.ref f))
theorem fni{n:Ah}{st:AO}{f:Al}{kV doc pm cdv ct:Aj}(a:Bv K A3 n=Aa (Aa (.ref f)))(l:K.lookup f=Aa ⟨oc,od,.func (Co n n (Ir st) (Fj st) (Ct st) .none kV doc pm an cdv ct),osl⟩)(c:D8 K cdv n=Ab)(k:B2 K (.ref f)=Ab):FnI K f n st:=⟨_,WB l c k,a⟩
def Bd(n:Ah)(st:AO)(ps:Ac Ah)(us:Ac Aj):Prop:=∀(kV doc pm:Aj)(an:Ao Al)(cdv ct:Aj),IP (Co n n (Ir st) (Fj st) (Ct st) .none kV doc pm an cdv ct) ⟨us,[]⟩=pure (ps.zip us)
theorem Of{n:Ah}{f:Al}{st:AO}{ps N:Ac Ah}(m id:Ag)(X:K.In h)(G:h.Ns A3 mg)(A:FnI K f n st)(hl:ps.length=m%1000)(hc:Ia fuel (C2 1000 m) fns bl rzs exs gls ps N st (Pg.defs id)=Ab)(hb:∀ us:Ac Aj,us.length=ps.length->Bd n st ps us):Ma K mg fns bl rzs exs gls Pg fuel (n,id,m):=by
 obtain⟨fd,F,a⟩:=A;exact⟨_,_,_,_,_,_,Ck X G a,Xz F,F.binds λkV doc pm an cdv ct us hu=>hb us hu kV doc pm an cdv ct,hl,hc⟩
theorem OX{l:Ac α}(h:l.length=0):l=[]:=List.eq_nil_of_length_eq_zero h
theorem IC{l:Ac α}{n:Ag}(h:l.length=n+1):∃ a r,l=a::r/\r.length=n:=by
 cases l with
 |nil=>cases h
 |cons a r=>exact⟨a,r,rfl,Nat.succ.inj h⟩
theorem OT{n:Ah}{f:Al}{st:AO}{N:Ac Ah}(m id:Ag)(X:K.In h)(G:h.Ns A3 mg)(A:FnI K f n st)(hl:1=m%1000)(hc:Ia fuel (C2 1000 m) fns bl rzs exs gls [x0] N st (Pg.defs id)=Ab)(hb:∀ u0,Bd n st [x0] [u0]):Ma K mg fns bl rzs exs gls Pg fuel (n,id,m):=
 Of (ps:=[x0]) m id X G A hl hc λus hu=>by obtain⟨u0,v0,rfl,h0⟩:=IC hu;obtain rfl:=OX h0;exact hb u0
theorem EN{n:Ah}{f:Al}{st:AO}{N:Ac Ah}(m id:Ag)(X:K.In h)(G:h.Ns A3 mg)(A:FnI K f n st)(hl:2=m%1000)(hc:Ia fuel (C2 1000 m) fns bl rzs exs gls [x0,x1] N st (Pg.defs id)=Ab)(hb:∀ u0 u1,Bd n st [x0,x1] [u0,u1]):Ma K mg fns bl rzs exs gls Pg fuel (n,id,m):=
 Of (ps:=[x0,x1]) m id X G A hl hc λus hu=>by obtain⟨u0,v0,rfl,h0⟩:=IC hu;obtain⟨u1,v1,rfl,h1⟩:=IC h0;obtain rfl:=OX h1;exact hb u0 u1
theorem J4{n:Ah}{f:Al}{st:AO}{N:Ac Ah}{x2:Ah}(m id:Ag)(X:K.In h)(G:h.Ns A3 mg)(A:FnI K f n st)(hl:3=m%1000)(hc:Ia fuel (C2 1000 m) fns bl rzs exs gls [x0,x1,x2] N st (Pg.defs id)=Ab)(hb:∀ u0 u1 u2,Bd n st [x0,x1,x2] [u0,u1,u2]):Ma K mg fns bl rzs exs gls Pg fuel (n,id,m):=
 Of (ps:=[x0,x1,x2]) m id X G A hl hc λus hu=>by obtain⟨u0,v0,rfl,h0⟩:=IC hu;obtain⟨u1,v1,rfl,h1⟩:=IC h0;obtain⟨u2,v2,rfl,h2⟩:=IC h1;obtain rfl:=OX h2;exact hb u0 u1 u2
theorem S7{n:Ah}{f:Al}{st:AO}{N:Ac Ah}{x2 x3:Ah}(m id:Ag)(X:K.In h)(G:h.Ns A3 mg)(A:FnI K f n st)(hl:4=m%1000)(hc:Ia fuel (C2 1000 m) fns bl rzs exs gls [x0,x1,x2,x3] N st (Pg.defs id)=Ab)(hb:∀ u0 u1 u2 u3,Bd n st [x0,x1,x2,x3] [u0,u1,u2,u3]):Ma K mg fns bl rzs exs gls Pg fuel (n,id,m):=
 Of (ps:=[x0,x1,x2,x3]) m id X G A hl hc λus hu=>by obtain⟨u0,v0,rfl,h0⟩:=IC hu;obtain⟨u1,v1,rfl,h1⟩:=IC h0;obtain⟨u2,v2,rfl,h2⟩:=IC h1;obtain⟨u3,v3,rfl,h3⟩:=IC h2;obtain rfl:=OX h3;exact hb u0 u1 u2 u3
end
end Ov
namespace OvC
open PySem Ov
variable{x p t k v:Af}{d PP:D}{xs ns:Ac Af}{m n i' mid w i j:Ag}{Z:Gam}{L:Ac D}{α:Type}{U:Rho}
noncomputable def PZ:Df:=⟨4,Ad,(.cons (.ret (.call 1 (.cons (.var 0) (.cons (.bin .Add (.bin .Sub (.bin .Mult (.idx (.var 1) (.int 0)) (.bin .Sub (.bin .Mult (.idx (.var 2) (.int 1)) (.idx (.var 3) (.int 2))) (.bin .Mult (.idx (.var 2) (.int 2)) (.idx (.var 3) (.int 1))))) (.bin .Mult (.idx (.var 1) (.int 1)) (.bin .Sub (.bin .Mult (.idx (.var 2) (.int 0)) (.idx (.var 3) (.int 2))) (.bin .Mult (.idx (.var 2) (.int 2)) (.idx (.var 3) (.int 0)))))) (.bin .Mult (.idx (.var 1) (.int 2)) (.bin .Sub (.bin .Mult (.idx (.var 2) (.int 0)) (.idx (.var 3) (.int 1))) (.bin .Mult (.idx (.var 2) (.int 1)) (.idx (.var 3) (.int 0)))))) .nil)))) .nil)⟩
noncomputable abbrev tr(a b c:Af):D:=.tup [.int a,.int b,.int c]
noncomputable def det(a0 a1 a2 b0 b1 b2 c0 c1 c2:Af):Af:=a0*(b1*c2-b2*c1)-a1*(b0*c2-b2*c0)+a2*(b0*c1-b1*c0)
def Sm(x:Af):Prop:=0<=x/\x<11
theorem mo(h:Sm x)(y:Af):D4 x y=Ab:=IZ (by have:=h.1;omega) (by have:=h.2;omega)
theorem Sm.of(h:P4 p)(x:Af):Sm (x%p):=⟨Bo _ (by have:=h.pos;omega),by have:=Bf x h.pos;have:=h.hi;omega⟩
theorem TB{body:D->Rho->O}(I:Rho->Prop)(g:Af->Ai):∀(L:Ac Af),(∀ t∈L,∀ U,I U->(g t=Ab/\body (.int t) U=.ret (.int t) Ad)\/(g t=Ad/\∃ U',body (.int t) U=.next U'/\I U'))->∀ U,I U->(∃ t∈L,g t=Ab/\CY body (L.map D.int) U=.ret (.int t) Ad)\/((∀ t∈L,g t=Ad)/\∃ U',CY body (L.map D.int) U=.next U'/\I U')
 |[],_,U,i=>.inr ⟨(λ_ h=>nomatch h),U,rfl,i⟩
 |m::L,h,U,i=>by
  rcases h m (Ay ..) U i with ⟨e1,e2⟩|⟨e1,U',e2,i'⟩
  .refine .inl ⟨m,Ay ..,e1,?_⟩;show (body (.int m) U).turn _=_;rw[e2];rfl
  .rcases TB I g L (λm' h'=>h m' (Aw _ h')) U' i' with ⟨t,ht,a,b⟩|⟨a,r,b,c⟩
   .refine .inl ⟨t,Aw _ ht,a,?_⟩;show (body (.int m) U).turn _=_;rw[e2];exact b
   .refine .inr ⟨λt ht=>?_,r,?_,c⟩
    .rcases Av.mp ht with rfl|ht
     .exact e1
     .exact a t ht
    .show (body (.int m) U).turn _=_;rw[e2];exact b
noncomputable def Lb:Ss:=(.cons (.ife (.cmp .Eq (.call 1 (.cons (.var 0) (.cons (.bin .Mult (.var 1) (.var 2)) .nil))) (.int 1)) (.cons (.ret (.var 2)) .nil) .nil) .nil)
noncomputable def Nv:Df:=⟨3,Ad,(.cons (.fors 2 (.rng2 (.int 1) (.var 0)) Lb) (.cons (.rais 2 (.cons (.str (AY "a number with the rest 0 is not turned over")) .nil)) .nil))⟩
noncomputable def GD(p:Af):Ac Af:=(A6 (p-1).toNat).map fun(k:Ag)=>1+(k:Af)
theorem Lp:t∈GD p↔1<=t/\t<p:=by
 unfold GD;rw[List.mem_map];constructor
 .rintro⟨k,hk,rfl⟩;have:=Bp.mp hk;omega
 .rintro⟨h1,h2⟩;exact⟨(t-1).toNat,Bp.mpr (by omega),by omega⟩
theorem UG(h:P4 p):CT 1 p=.ok ((GD p).map D.int):=by
 rcases h with rfl|rfl|rfl|rfl<;>rfl
theorem oF:∀ p:Fin 12,(p.val=3\/p.val=5\/p.val=7\/p.val=11)->∀ r:Fin 12,r.val<p.val->r.val≠0->∃ t:Fin 12,1<=t.val/\t.val<p.val/\r.val*t.val%p.val=1:=by decide+kernel
theorem LI{n:Af}(h:P4 p)(hn:n%p≠0):∃ t,1<=t/\t<p/\n*t%p=1:=by
 have p0:0<p/\p<12:=by rcases h with rfl|rfl|rfl|rfl<;>decide
 obtain⟨q,rfl⟩:∃ q:Ag,p=q:=⟨p.toNat,by omega⟩
 have h0:=Bo n (b:=(q:Af)) (by omega)
 have h1:=Bf n p0.1;obtain⟨r,hr⟩:∃ r:Ag,n%(q:Af)=r:=⟨(n%(q:Af)).toNat,by omega⟩
 obtain⟨t,t1,t2,t3⟩:=oF ⟨q,by omega⟩ (by rcases h with e|e|e|e<;>simp<;>omega) ⟨r,by omega⟩ (by show r<q;omega) (by show r≠0;omega)
 refine⟨(t.val:Af),by omega,by show (t.val:Af)<q;exact Int.ofNat_lt.mpr t2,?_⟩
 have e:((r*t.val%q:Ag):Af)=1:=by rw[show r*t.val%q=1 from t3];rfl
 rw[<-e,Int.natCast_emod,Int.natCast_mul,<-hr];exact(BJ n _ _).trans (by rw[BJ (n%(q:Af)) (t.val:Af) (q:Af),Br n (Cm _)])
theorem DL{r:R D}(h:r=.ok d):El Ab r=.ok d:=by rw[h];rfl
def Hn(p n t:Af):Prop:=1<=t/\t<p/\n*t%p=1
theorem Uk{n u:Af}(h1:Hn p n t)(h2:Hn p n u):t=u:=by
 have hp:1<p:=by have:=h1.1;have:=h1.2.1;omega
 have e:t%p=u%p:=by
  have a:t%p=t*(n*u)%p:=by rw[BJ,h2.2.2,DO,Br _ (Cm p)]
  have b:u%p=(n*t)*u%p:=by rw[BJ (n*t) u p,h1.2.2,Dt,Br _ (Cm p)]
  rw[a,b]
  congr 1
  rw[<-Hd,BH t n]
 rw[AT (by have:=h1.1;omega) h1.2.1,AT (by have:=h2.1;omega) h2.2.1]at e
 exact e
theorem Dc{c:Af}(hp:P4 p)(hc:c%p≠0)(hx:x%p≠0):c*x%p≠0:=λz=>by
 obtain⟨t,_,_,e⟩:=LI hp hc;refine hx ?_;have e1:x%p=(c*t)*x%p:=by rw[BJ (c*t) x p,e,Dt,Br _ (Cm p)]
 rw[e1,show c*t*x=t*(c*x) by rw[BH c t,Hd],BJ,z,C4,Bk]
noncomputable def A4(p:Af):Ac Af->Ao Af
 |[]=>Ae
 |x::xs=>if x%p=0 then A4 p xs else Aa (x%p)
theorem Ko{p:Af}:∀{xs:Ac Af},A4 p xs=Ae↔∀ x∈xs,x%p=0
 |[]=>by simp[A4]
 |x::xs=>by
  unfold A4;by_cases h:x%p=0
  .rw[Ax h,Ko (xs:=xs)];simp[h]
  .rw[AC h];simp[h]
theorem MF{p l:Af}(hp:0<p):∀{xs:Ac Af},A4 p xs=Aa l->l%p≠0/\0<l/\l<p
 |[],h=>by cases h
 |x::xs,h=>by
  unfold A4 at h;by_cases hx:x%p=0
  .rw[Ax hx]at h;exact MF hp h
  .rw[AC hx]at h;cases h;have h0:=Bo x (b:=p) (by omega)
   have h1:=Bf x hp;exact⟨by rw[Br _ (Cm p)];exact hx,by omega,h1⟩
theorem Lq{p c:Af}(hp:P4 p)(hc:c%p≠0){f:Af->Af}(hf:∀ x,f x%p=c*x%p):∀ xs:Ac Af,A4 p (xs.map f)=(A4 p xs).map λl=>c*l%p
 |[]=>rfl
 |x::xs=>by
  rw[Cj];unfold A4;rw[hf x];by_cases hx:x%p=0
  .rw[Ax hx,Ax (by rw[BJ,hx,C4,Bk]),Lq hp hc hf xs]
  .rw[AC hx,AC (Dc hp hc hx),Et]
   congr 1
   rw[BJ c (x%p),Br _ (Cm p),<-BJ]
noncomputable def ds(xs:Ac Af):Ac D:=xs.map D.int
noncomputable def Dl(b:Ai)(xs:Ac Af):D:=if b=Ab then .tup (ds xs) else .lst (ds xs)
theorem PU(b xs):Db (Dl b xs)=.ok (ds xs):=by unfold Dl;cases b<;>rfl
theorem Lg{g:D->R Ai}{f:D->R D}{φ:Af->Af}:∀(xs:Ac Af),(∀ x∈xs,g (.int x)=.ok Ab/\f (.int x)=.ok (.int (φ x)))->BD g f (ds xs)=.ok (ds (xs.map φ))
 |[],_=>rfl
 |x::xs,h=>by
  obtain⟨h1,h2⟩:=h x (Ay ..);show (g (.int x)).bind _=_;rw[h1,R.bind_ok,Ax rfl,h2,R.bind_ok];show (BD g f (ds xs)).bind _=_;rw[Lg xs λy hy=>h y (Aw _ hy)]
  rfl
noncomputable def Cr:E:=(.bl Ab)
noncomputable def PB:E:=(.call 1 (.cons (.var 0) (.cons (.var 5) .nil)))
noncomputable def Pz:E:=(.call 1 (.cons (.var 0) (.cons (.bin .Mult (.var 4) (.var 6)) .nil)))
noncomputable def HP:Ss:=(.cons (.ife (.cmp .NotEq (.var 3) (.int 0)) (.cons (.asg 4 Ad (.call 9 (.cons (.var 0) (.cons (.var 3) .nil)))) (.cons (.ret (.bi .tuple (.cons (.comp Pz 6 (.e (.var 2)) Cr) .nil))) .nil)) .nil) .nil)
noncomputable def NJ:Df:=⟨7,Ad,(.cons (.asg 2 Ad (.comp PB 5 (.e (.var 1)) Cr)) (.cons (.fors 3 (.e (.var 2)) HP) (.cons (.rais 3 (.cons (.str (AY "all the numbers have the rest 0")) .nil)) .nil)))⟩
noncomputable def fmI(p t:Af)(xs:Ac Af):Ac Af:=xs.map λx=>t*(x%p)%p
section
variable{Z:Gam}{p:Af}{xs:Ac Af}{b:Ai}
end
theorem TF{g:D->R Ai}{f:D->R D}{q:Af->Ai}:∀(xs:Ac Af),(∀ x∈xs,g (.int x)=.ok (q x)/\f (.int x)=.ok (.int x))->BD g f (ds xs)=.ok (ds (xs.filter q))
 |[],_=>rfl
 |x::xs,h=>by
  obtain⟨h1,h2⟩:=h x (Ay ..);have ih:=TF xs λy hy=>h y (Aw _ hy)
  show (g (.int x)).bind _=_;rw[h1,R.bind_ok];cases hq:q x with
  |true=>
   rw[Ax rfl,h2,R.bind_ok,Eb,hq,Ax rfl];show (BD g f (ds xs)).bind _=_;rw[ih];rfl
  |false=>
   rw[AC (by decide),Eb,hq,AC (by decide)]
   exact ih
theorem fZ{p l t:Af}(it:Hn p l t):((GD p).filter λk=>decide (k*l%p=1)).head?=Aa t:=by
 have hm:t∈(GD p).filter λk=>decide (k*l%p=1):=BU.mpr ⟨Lp.mpr ⟨it.1,it.2.1⟩,by simp[BH t l,it.2.2]⟩
 cases e:(GD p).filter λk=>decide (k*l%p=1) with
 |nil=>rw[e]at hm;cases hm
 |cons u us=>
  have hu:u∈(GD p).filter λk=>decide (k*l%p=1):=by rw[e];exact Ay ..
  obtain⟨h1,h2⟩:=BU.mp hu;obtain⟨a,b⟩:=Lp.mp h1;have h3:u*l%p=1:=by simpa using h2
  rw[Uk it ⟨a,b,by rw[BH];exact h3⟩]
  rfl
theorem Uo{l:Af}(h:xs.head?=Aa l):DA (ds xs) 0=.ok (.int l):=by
 cases xs with
 |nil=>cases h
 |cons x xs=>cases h;exact Qi (by omega) rfl
noncomputable abbrev own(xs:Ac Af):Sl:=Aa (.lst (ds xs),Ab)
section
variable{Z:Gam}{ns:Ac Af}{a1 a2 a4 a6 a7 a8 a9 b0 b1 b2 b3 b4:Sl}{p:Af}
end
section
variable{Z:Gam}{ns:Ac Af}{a1 a4 a6 a7 a8 a9 b2 b3 b4:Sl}{p m:Af}{xs:Ac Af}
end
def Cg(p x y:Af):Prop:=x%p=y%p
section
variable{p a b c d:Af}
theorem Cg.rfl:Cg p a a:=Eq.refl _
theorem Cg.of(h:a=b):Cg p a b:=by unfold Cg;rw[h]
theorem Cg.trans{a b c:Af}(h:Cg p a b)(g:Cg p b c):Cg p a c:=Eq.trans h g
theorem Cg.symm(h:Cg p a b):Cg p b a:=Eq.symm h
theorem Cg.add(h:Cg p a b)(g:Cg p c d):Cg p (a+c) (b+d):=by unfold Cg at *;rw[Yj,h,g,<-Yj]
theorem Cg.sub(h:Cg p a b)(g:Cg p c d):Cg p (a-c) (b-d):=by unfold Cg at *;rw[Yn,h,g,<-Yn]
theorem Cg.mul(h:Cg p a b)(g:Cg p c d):Cg p (a*c) (b*d):=by unfold Cg at *;rw[BJ,h,g,<-BJ]
theorem Cg.md(h:a=b%p):Cg p a b:=by unfold Cg;rw[h,Br _ (Cm p)]
end
theorem Jf{p a0 a1 a2 b0 b1 b2 c0 c1 c2 x0 x1 x2 y0 y1 y2 z0 z1 z2:Af}(h0:Cg p a0 x0)(h1:Cg p a1 x1)(h2:Cg p a2 x2)(h3:Cg p b0 y0)(h4:Cg p b1 y1)(h5:Cg p b2 y2)(h6:Cg p c0 z0)(h7:Cg p c1 z1)(h8:Cg p c2 z2):Cg p (a0*(b1*c2-b2*c1)-a1*(b0*c2-b2*c0)+a2*(b0*c1-b1*c0)) (x0*(y1*z2-y2*z1)-x1*(y0*z2-y2*z0)+x2*(y0*z1-y1*z0)):=
 ((h0.mul ((h4.mul h8).sub (h5.mul h7))).sub (h1.mul ((h3.mul h8).sub (h5.mul h6)))).add (h2.mul ((h3.mul h7).sub (h4.mul h6)))
theorem P4.m1(h:P4 p):(-1:Af)%p≠0:=by rcases h with rfl|rfl|rfl|rfl<;>decide
theorem P4.o1(h:P4 p):(1:Af)%p≠0:=by rcases h with rfl|rfl|rfl|rfl<;>decide
abbrev R3:=Af×Af×Af
variable{a y r g y':R3}{pts:Ac R3}
noncomputable def Bs(a:R3):D:=.lst [.int a.1,.int a.2.1,.int a.2.2]
noncomputable def Aq(a b c:R3):Af:=det a.1 a.2.1 a.2.2 b.1 b.2.1 b.2.2 c.1 c.2.1 c.2.2
def In3(p:Af)(a:R3):Prop:=(0<=a.1/\a.1<p)/\(0<=a.2.1/\a.2.1<p)/\(0<=a.2.2/\a.2.2<p)
structure GoodR (p:Af) (a b c:R3):Prop where
 p4:P4 p
 ia:In3 p a
 ib:In3 p b
 ic:In3 p c
 nz:Aq a b c%p≠0
theorem GoodR.of{a b c a' b' c':R3}(h:GoodR p a b c)(hk:k%p≠0)(e:Cg p (Aq a' b' c') (k*Aq a b c))(hin:In3 p a'/\In3 p b'/\In3 p c'):GoodR p a' b' c':=⟨h.p4,hin.1,hin.2.1,hin.2.2,by rw[show Aq a' b' c'%p=_ from e];exact Dc h.p4 hk h.nz⟩
noncomputable def KQ(t:Af)(a:R3):R3:=(a.1*t,a.2.1*t,a.2.2*t)
noncomputable def GV(t:Af)(a b:R3):R3:=(a.1+t*b.1,a.2.1+t*b.2.1,a.2.2+t*b.2.2)
noncomputable def mdR(p:Af)(a:R3):R3:=(a.1%p,a.2.1%p,a.2.2%p)
noncomputable def scR(p t:Af)(a:R3):R3:=mdR p (KQ t a)
noncomputable def adR(p t:Af)(a b:R3):R3:=mdR p (GV t a b)
theorem XD(h:0<p)(a:R3):In3 p (mdR p a):=⟨⟨Bo _ (by omega),Bf _ h⟩,⟨Bo _ (by omega),Bf _ h⟩,⟨Bo _ (by omega),Bf _ h⟩⟩
theorem LP(h:0<p)(t:Af)(a:R3):In3 p (scR p t a):=XD h _
theorem LN(h:0<p)(t:Af)(a b:R3):In3 p (adR p t a b):=XD h _
theorem SY(p t:Af)(a b c:R3):Cg p (Aq (scR p t a) b c) (t*Aq a b c):=by
 refine Cg.trans (b:=Aq (KQ t a) b c) ?_ (Cg.of (by unfold Aq det KQ;grind))
 unfold Aq det;exact Jf (Cg.md (by rfl)) (Cg.md (by rfl)) (Cg.md (by rfl)) Cg.rfl Cg.rfl Cg.rfl Cg.rfl Cg.rfl Cg.rfl
theorem gc(p t:Af)(a b c:R3):Cg p (Aq (adR p t a b) b c) (1*Aq a b c):=by
 refine Cg.trans (b:=Aq (GV t a b) b c) ?_ (Cg.of (by unfold Aq det GV;grind))
 unfold Aq det;exact Jf (Cg.md (by rfl)) (Cg.md (by rfl)) (Cg.md (by rfl)) Cg.rfl Cg.rfl Cg.rfl Cg.rfl Cg.rfl Cg.rfl
theorem gb(p t:Af)(a b c:R3):Cg p (Aq (adR p t a c) b c) (1*Aq a b c):=by
 refine Cg.trans (b:=Aq (GV t a c) b c) ?_ (Cg.of (by unfold Aq det GV;grind))
 unfold Aq det;exact Jf (Cg.md (by rfl)) (Cg.md (by rfl)) (Cg.md (by rfl)) Cg.rfl Cg.rfl Cg.rfl Cg.rfl Cg.rfl Cg.rfl
theorem SX(p t:Af)(a b c:R3):Cg p (Aq a (scR p t b) c) (t*Aq a b c):=by
 refine Cg.trans (b:=Aq a (KQ t b) c) ?_ (Cg.of (by unfold Aq det KQ;grind))
 unfold Aq det;exact Jf Cg.rfl Cg.rfl Cg.rfl (Cg.md (by rfl)) (Cg.md (by rfl)) (Cg.md (by rfl)) Cg.rfl Cg.rfl Cg.rfl
theorem g9(p t:Af)(a b c:R3):Cg p (Aq a (adR p t b a) c) (1*Aq a b c):=by
 refine Cg.trans (b:=Aq a (GV t b a) c) ?_ (Cg.of (by unfold Aq det GV;grind))
 unfold Aq det;exact Jf Cg.rfl Cg.rfl Cg.rfl (Cg.md (by rfl)) (Cg.md (by rfl)) (Cg.md (by rfl)) Cg.rfl Cg.rfl Cg.rfl
theorem g8(p t:Af)(a b c:R3):Cg p (Aq a (adR p t b c) c) (1*Aq a b c):=by
 refine Cg.trans (b:=Aq a (GV t b c) c) ?_ (Cg.of (by unfold Aq det GV;grind))
 unfold Aq det;exact Jf Cg.rfl Cg.rfl Cg.rfl (Cg.md (by rfl)) (Cg.md (by rfl)) (Cg.md (by rfl)) Cg.rfl Cg.rfl Cg.rfl
theorem SV(p t:Af)(a b c:R3):Cg p (Aq a b (scR p t c)) (t*Aq a b c):=by
 refine Cg.trans (b:=Aq a b (KQ t c)) ?_ (Cg.of (by unfold Aq det KQ;grind))
 unfold Aq det;exact Jf Cg.rfl Cg.rfl Cg.rfl Cg.rfl Cg.rfl Cg.rfl (Cg.md (by rfl)) (Cg.md (by rfl)) (Cg.md (by rfl))
theorem g7(p t:Af)(a b c:R3):Cg p (Aq a b (adR p t c a)) (1*Aq a b c):=by
 refine Cg.trans (b:=Aq a b (GV t c a)) ?_ (Cg.of (by unfold Aq det GV;grind))
 unfold Aq det;exact Jf Cg.rfl Cg.rfl Cg.rfl Cg.rfl Cg.rfl Cg.rfl (Cg.md (by rfl)) (Cg.md (by rfl)) (Cg.md (by rfl))
theorem g6(p t:Af)(a b c:R3):Cg p (Aq a b (adR p t c b)) (1*Aq a b c):=by
 refine Cg.trans (b:=Aq a b (GV t c b)) ?_ (Cg.of (by unfold Aq det GV;grind))
 unfold Aq det;exact Jf Cg.rfl Cg.rfl Cg.rfl Cg.rfl Cg.rfl Cg.rfl (Cg.md (by rfl)) (Cg.md (by rfl)) (Cg.md (by rfl))/-! ### draws -/
theorem rT(h0:0<=k)(h1:k<ns.length):DA (ns.map D.int) k=.ok (.int (ns.getD k.toNat 0)):=Qi h0 (by
 have:k.toNat<ns.length:=by omega
 simp[this])
noncomputable abbrev ownR(a b c:R3):Sl:=Aa (.lst [Bs a,Bs b,Bs c],Ab)
section
variable{Z:Gam}{ns:Ac Af}{at_ many s5 s0 s1 s2:Sl}{p t m:Af}{a b c:R3}
end
section
variable{Z:Gam}{ns:Ac Af}{many s5 s6 s7 s8 s9 s0 s1 s2:Sl}{p:Af}{a b c:R3}
end
noncomputable def KN(a b c:R3):D:=.lst [Bs a,Bs b,Bs c]
noncomputable def eG(a b c:R3):Ac Af:=[a.1,a.2.1,a.2.2,b.1,b.2.1,b.2.2,c.1,c.2.1,c.2.2]
noncomputable def fmR(p t:Af)(a:R3):R3:=(t*(a.1%p)%p,t*(a.2.1%p)%p,t*(a.2.2%p)%p)
def Bd(n:Ag)(x:Af):Prop:=x.natAbs<2 ^ n
theorem Bd.mul{y:Af}(h:Bd m x)(g:Bd n y):Bd (m+n) (x*y):=by
 unfold Bd at *;rw[Int.natAbs_mul,Nat.pow_add];exact Nat.mul_lt_mul'' h g
theorem Bd.sub{y:Af}(h:Bd n x)(g:Bd n y):Bd (n+1) (x-y):=by
 unfold Bd at *;rw[YU];omega
theorem GS{y:Af}(h:Bd m x)(g:Bd n y)(hm:m<=2000)(hn:n<=2000):EW x y=Ab:=by
 unfold EW Bd at *;rw[Ak,AW,AW];exact⟨AI h (ER (by decide) hm),AI g (ER (by decide) hn)⟩
def B3(a:R3):Prop:=Bd 300 a.1/\Bd 300 a.2.1/\Bd 300 a.2.2
noncomputable def At(q:Ai)(a:R3):D:=Dl q [a.1,a.2.1,a.2.2]
theorem Jd(q:Ai)(a:R3):BA (At q a) (.int 0)=.ok (.int a.1)/\BA (At q a) (.int 1)=.ok (.int a.2.1)/\BA (At q a) (.int 2)=.ok (.int a.2.2):=by cases q<;>exact⟨rfl,rfl,rfl⟩
def LF(Z:Gam):Prop:=∀(p:Af)(q:Ai)(a b c:R3),0<p->B3 a->B3 b->B3 c->Z.F 61 [.int p,At q a,At q b,At q c]=.ok (.int (Aq a b c%p))
theorem lZ(h:KB Z)(p:Af)(q:Ai)(a b c:R3)(hp:0<p)(ha:B3 a)(hb:B3 b)(hc:B3 c):PZ.run Z [.int p,At q a,At q b,At q c]=.ok (.int (Aq a b c%p)):=by
 obtain⟨a0,a1,a2⟩:=Jd q a;obtain⟨b0,b1,b2⟩:=Jd q b;obtain⟨c0,c1,c2⟩:=Jd q c;have k:∀ {x y},Bd 300 x->Bd 300 y->EW x y=Ab:=λhx hy=>GS hx hy (by decide) (by decide)
 have k2:∀ {x y z u v},Bd 300 x->Bd 300 y->Bd 300 z->Bd 300 u->Bd 300 v->EW x (y*z-u*v)=Ab:=λhx hy hz hu hv=>GS hx ((hy.mul hz).sub (hu.mul hv)) (by decide) (by decide)
 simp[PZ,Df.run,By,a0,a1,a2,b0,b1,b2,c0,c1,c2,k hb.2.1 hc.2.2,k hb.2.2 hc.2.1,k hb.1 hc.2.2,k hb.2.2 hc.1,k hb.1 hc.2.1,k hb.2.1 hc.1,k2 ha.1 hb.2.1 hc.2.2 hb.2.2 hc.2.1,k2 ha.2.1 hb.1 hc.2.2 hb.2.2 hc.1,k2 ha.2.2 hb.1 hc.2.1 hb.2.1 hc.1,h p _ hp];rfl
section
variable{Z:Gam}{ns:Ac Af}{p t:Af}{a b c r:R3}{made s6 s7:Sl}
end
theorem NH{p:Af}:∀{xs ys:Ac Af},xs.map (λx=>x%p)=ys.map (λx=>x%p)->A4 p xs=A4 p ys
 |[],[],_=>rfl
 |x::xs,y::ys,h=>by
  rw[Cj,Cj,Yt]at h;unfold A4;rw[h.1,NH h.2]
 |[],_::_,h=>by simp at h
 |_::_,[],h=>by simp at h
theorem kY{ys:Ac Af}(h:xs.map (λx=>x%p)=ys.map (λx=>x%p)):fmI p t xs=fmI p t ys:=by
 have e:∀ zs:Ac Af,fmI p t zs=(zs.map λx=>x%p).map λr=>t*r%p:=λzs=>by simp[fmI,Gq,Yi]
 rw[e,e,h]
theorem gw(hp:0<p)(t:Af)(a:R3):In3 p (fmR p t a):=⟨⟨Bo _ (by omega),Bf _ hp⟩,⟨Bo _ (by omega),Bf _ hp⟩,⟨Bo _ (by omega),Bf _ hp⟩⟩
section
variable{Z:Gam}{ns:Ac Af}{p m:Af}{a b c:R3}{fa fb fc:R3}{q:Ai}{s9 s0 s1 s2:Sl}
end
def P6(Z:Gam):Prop:=∀ p n:Af,P4 p->n%p≠0->∃ t,1<=t/\t<p/\n*t%p=1/\Z.F 9 [.int p,.int n]=.ok (.int t)
def N4(Z:Gam):Prop:=∀(p:Af)(b:Ai)(xs:Ac Af)(l t:Af),P4 p->A4 p xs=Aa l->Hn p l t->Z.F 17 [.int p,Dl b xs]=.ok (.tup (ds (fmI p t xs)))
theorem gL(hr:KB Z)(p n:Af)(hp:P4 p)(z:n%p≠0):∃ t,1<=t/\t<p/\n*t%p=1/\Nv.run Z [.int p,.int n]=.ok (.int t):=by
 have p0:=hp.pos;have ph:=hp.hi;have body:∀ t∈GD p,∀ U,(∃ s,U=[si p,si n,s])->(decide (n*t%p=1)=Ab/\BK Z 2 Lb (.int t) U=.ret (.int t) Ad)\/(decide (n*t%p=1)=Ad/\∃ U',BK Z 2 Lb (.int t) U=.next U'/\∃ s,U'=[si p,si n,s]):=by
  rintro t ht U ⟨s,rfl⟩;obtain⟨t1,t2⟩:=Lp.mp ht;have m:D4 n t=Ab:=QC (by omega) (by omega)
  by_cases e:n*t%p=1
  .exact .inl ⟨by simp[e],by simp[BK,Lb,hr p (n*t) p0,m,e,DR]⟩
  .exact .inr ⟨by simp[e],_,by simp[BK,Lb,hr p (n*t) p0,m,e];rfl,_,rfl⟩
 have run:∀ o,CY (BK Z 2 Lb) ((GD p).map D.int) [si p,si n,Ae]=o->Nv.run Z [.int p,.int n]=(Gj Z (.cons (.rais 2 (.cons (.str (AY "a number with the rest 0 is not turned over")) .nil)) .nil) o).ans Ad:=by
  rintro o rfl;simp[Nv,Df.run,By,UG hp]
 rcases TB (λU=>∃ s,U=[si p,si n,s]) (λt=>decide (n*t%p=1)) (GD p) body [si p,si n,Ae] ⟨_,rfl⟩ with ⟨t,ht,a,b⟩|⟨a,r,b,s,rfl⟩
 .obtain⟨t1,t2⟩:=Lp.mp ht;have a':n*t%p=1:=by simpa using a
  exact⟨t,t1,t2,a',by rw[run _ b];rfl⟩
 .obtain⟨t,t1,t2,e⟩:=LI hp z;have:=a t (Lp.mpr ⟨t1,t2⟩);simp[e]at this
section
variable{Z:Gam}{p:Af}{xs:Ac Af}{b:Ai}
theorem Ux(hr:KB Z)(ht:P6 Z)(hp:P4 p)(rs:Ac Af):∀(ys:Ac Af),(∀ y∈ys,0<=y/\y<p)->∀ s3,(A4 p ys=Ae->∃ s3',CY (BK Z 3 HP) (ds ys) [si p,sh (Dl b xs),sh (.lst (ds rs)),s3,Ae,Ae,Ae]=.next [si p,sh (Dl b xs),sh (.lst (ds rs)),s3',Ae,Ae,Ae])/\(∀ l t,A4 p ys=Aa l->Hn p l t->CY (BK Z 3 HP) (ds ys) [si p,sh (Dl b xs),sh (.lst (ds rs)),s3,Ae,Ae,Ae]=.ret (.tup (ds (rs.map λr=>t*r%p))) Ad)
 |[],_,s3=>⟨λ_=>⟨s3,rfl⟩,(λl t h=>nomatch h)⟩
 |y::ys,hy,s3=>by
  obtain⟨y0,y1⟩:=hy y (Ay ..);have ym:y%p=y:=AT y0 y1;have ih:=Ux hr ht hp rs ys (λz hz=>hy z (Aw _ hz)) (si y)
  have step:∀ o,BK Z 3 HP (.int y) [si p,sh (Dl b xs),sh (.lst (ds rs)),s3,Ae,Ae,Ae]=o->CY (BK Z 3 HP) (ds (y::ys)) [si p,sh (Dl b xs),sh (.lst (ds rs)),s3,Ae,Ae,Ae]=o.turn (CY (BK Z 3 HP) (ds ys)):=by
   rintro o rfl;rfl
  unfold A4;rw[ym];by_cases hz:y=0
  .have e:BK Z 3 HP (.int y) [si p,sh (Dl b xs),sh (.lst (ds rs)),s3,Ae,Ae,Ae]=.next [si p,sh (Dl b xs),sh (.lst (ds rs)),si y,Ae,Ae,Ae]:=by
    simp[BK,HP,hz]
   rw[Ax hz,step _ e];exact ih
  .rw[AC hz];refine⟨(λz=>nomatch z),λl t e it=>?_⟩
   cases e;obtain⟨u,u1,u2,u3,u4⟩:=ht p y hp (by rw[ym];exact hz)
   have:t=u:=Uk it ⟨u1,u2,u3⟩;subst this;have p0:=hp.pos;have ph:=hp.hi;have cp:BD (cG Z [si p,sh (Dl b xs),sh (.lst (ds rs)),si y,si t,Ae,Ae] 6 Cr) (cF Z [si p,sh (Dl b xs),sh (.lst (ds rs)),si y,si t,Ae,Ae] 6 Pz) (ds rs)=.ok (ds (rs.map λr=>t*r%p)):=by
    refine Lg rs λr _=>⟨rfl,?_⟩
    have m:D4 t r=Ab:=IZ (by omega) (by omega)
    simp[cF,Pz,m,hr p (t*r) p0]
   have e:BK Z 3 HP (.int y) [si p,sh (Dl b xs),sh (.lst (ds rs)),s3,Ae,Ae,Ae]=.ret (.tup (ds (rs.map λr=>t*r%p))) Ad:=by
    simp[BK,HP,hz,u4,cp,DR]
   rw[step _ e];rfl
theorem mB(hr:KB Z)(ht:P6 Z)(hp:P4 p){l t:Af}(e:A4 p xs=Aa l)(it:Hn p l t):NJ.run Z [.int p,Dl b xs]=.ok (.tup (ds (fmI p t xs))):=by
 have p0:=hp.pos;have cp:BD (cG Z [si p,sh (Dl b xs),Ae,Ae,Ae,Ae,Ae] 5 Cr) (cF Z [si p,sh (Dl b xs),Ae,Ae,Ae,Ae,Ae] 5 PB) (ds xs)=.ok (ds (xs.map λx=>x%p)):=by
  refine Lg xs λx _=>⟨rfl,?_⟩
  simp[cF,PB,hr p x p0]
 have run:∀ o,CY (BK Z 3 HP) (ds (xs.map λx=>x%p)) [si p,sh (Dl b xs),sh (.lst (ds (xs.map λx=>x%p))),Ae,Ae,Ae,Ae]=o->NJ.run Z [.int p,Dl b xs]=(Gj Z (.cons (.rais 3 (.cons (.str (AY "all the numbers have the rest 0")) .nil)) .nil) o).ans Ad:=by
  rintro o rfl;simp[NJ,Df.run,By,PU,cp]
 have le:A4 p (xs.map λx=>x%p)=A4 p xs:=by
  have:=Lq (c:=1) hp (by rcases hp with rfl|rfl|rfl|rfl<;>decide) (f:=λx=>x%p) (λx=>by rw[Dt,Br _ (Cm p)]) xs
  rw[this];cases e:A4 p xs with
  |none=>rfl
  |some l=>
   obtain⟨_,l0,l1⟩:=MF p0 e;simp[AT (Int.le_of_lt l0) l1]
 obtain⟨a,c⟩:=Ux (b:=b) (xs:=xs) hr ht hp (xs.map λx=>x%p) (xs.map λx=>x%p) (λy hy=>by
  obtain⟨x,_,rfl⟩:=C7.mp hy;exact⟨Bo _ (by omega),Bf _ p0⟩) Ae
 rw[le]at a c;rw[run _ (c l t e it)];simp[fmI,Gq,Yi]
end
noncomputable def E1(a b c:R3):R3:=(a.1,b.1,c.1)
noncomputable def EZ(a b c:R3):R3:=(a.2.1,b.2.1,c.2.1)
noncomputable def EY(a b c:R3):R3:=(a.2.2,b.2.2,c.2.2)
noncomputable def AS(a x:R3):Af:=a.1*x.1+a.2.1*x.2.1+a.2.2*x.2.2
noncomputable def crs(a b:R3):R3:=(a.2.1*b.2.2-a.2.2*b.2.1,a.2.2*b.1-a.1*b.2.2,a.1*b.2.1-a.2.1*b.1)
theorem VU:∀ xs ys:Ac Af,eqDs (ds xs) (ds ys)=decide (xs=ys)
 |[],[]=>rfl
 |[],_::_=>rfl
 |_::_,[]=>rfl
 |x::xs,y::ys=>by
  show ((x==y)&&eqDs (ds xs) (ds ys))=_;rw[VU xs ys,DS];simp
theorem M1(a b:R3):eqD (At Ab a) (At Ab b)=decide (a=b):=by
 show eqDs (ds [a.1,a.2.1,a.2.2]) (ds [b.1,b.2.1,b.2.2])=_;rw[VU,DS];simp only[Yt,GZ,AW];exact⟨λ⟨h1,h2,h3⟩=>by obtain⟨a1,a2,a3⟩:=a;obtain⟨b1,b2,b3⟩:=b;simp at h1 h2 h3;rw[h1,h2,h3],λh=>by rw[h];exact⟨rfl,rfl,rfl⟩⟩
def QW(Z:Gam):Prop:=∀ a b:R3,B3 a->B3 b->a≠b->Z.F 23 [At Ab a,At Ab b]=.ok (At Ab (crs a b))
noncomputable def bk0(a b c:R3):R3:=E1 (crs b c) (crs c a) (crs a b)
noncomputable def bk1(a b c:R3):R3:=EZ (crs b c) (crs c a) (crs a b)
noncomputable def bk2(a b c:R3):R3:=EY (crs b c) (crs c a) (crs a b)
theorem Nd(hp:P4 p)(h0:0<=x)(h1:x<p):Bd 10 x:=by
 unfold Bd;have:=hp.hi;omega
theorem Bd.mono(h:Bd m x)(hm:m<=n):Bd n x:=AI h (ER (by decide) hm)
def Bn(n:Ag)(a:R3):Prop:=Bd n a.1/\Bd n a.2.1/\Bd n a.2.2
theorem Bn.b3(h:Bn n a)(hn:n<=300):B3 a:=⟨h.1.mono hn,h.2.1.mono hn,h.2.2.mono hn⟩
theorem FX(hp:P4 p)(h:In3 p a):Bn 10 a:=⟨Nd hp h.1.1 h.1.2,Nd hp h.2.1.1 h.2.1.2,Nd hp h.2.2.1 h.2.2.2⟩
theorem bN{a b:R3}(ha:Bn n a)(hb:Bn n b):Bn (n+n+1) (crs a b):=
 ⟨(ha.2.1.mul hb.2.2).sub (ha.2.2.mul hb.2.1),(ha.2.2.mul hb.1).sub (ha.1.mul hb.2.2),(ha.1.mul hb.2.1).sub (ha.2.1.mul hb.1)⟩
theorem Ri(a b c:R3):Aq (bk0 a b c) (bk1 a b c) (bk2 a b c)=Aq a b c*Aq a b c:=by
 unfold Aq det bk0 bk1 bk2 E1 EZ EY crs;grind
noncomputable def B0(k:Af)(a:R3):R3:=(k*a.1,k*a.2.1,k*a.2.2)
noncomputable def fk0(p:Af)(a b c d:R3):Af:=Aq d b c%p
noncomputable def fs0(p:Af)(a b c d:R3):R3:=B0 (fk0 p a b c d) a
noncomputable def Km:Ss:=(.cons (.ife (.cmp .Eq (.call 61 (.cons (.var 0) (.cons (.var 3) (.cons (.idx (.var 1) (.var 4)) (.cons (.idx (.var 1) (.var 5)) .nil))))) (.int 0)) (.cons (.ret (.tup (.cons (.var 3) (.cons (.idx (.var 1) (.var 4)) (.cons (.idx (.var 1) (.var 5)) .nil))))) .nil) .nil) .nil)
noncomputable def Lc:Ss:=(.cons (.fors 5 (.rng2 (.bin .Add (.var 4) (.int 1)) (.bi .len (.cons (.var 1) .nil))) Km) .nil)
noncomputable def Iq:Ss:=(.cons (.fors 4 (.rng2 (.bin .Add (.var 2) (.int 1)) (.bi .len (.cons (.var 1) .nil))) Lc) .nil)
noncomputable def PD:Df:=⟨6,Ad,(.cons (.forT [2,3] (.enm (.var 1)) Iq) (.cons (.ret .non) .nil))⟩
def eJ(p:Af)(a b c d:R3):Prop:=Aq a b c%p≠0/\Aq a b d%p≠0/\Aq a c d%p≠0/\Aq b c d%p≠0
def CgR(p:Af)(x y:R3):Prop:=Cg p x.1 y.1/\Cg p x.2.1 y.2.1/\Cg p x.2.2 y.2.2
section
variable{p:Af}{a b c a' b' c' x y z x':R3}{k l m k':Af}
theorem CgR.rfl:CgR p a a:=⟨Cg.rfl,Cg.rfl,Cg.rfl⟩
theorem CgR.of(h:a=b):CgR p a b:=by rw[h];exact CgR.rfl
theorem CgR.trans(h:CgR p a b)(g:CgR p b c):CgR p a c:=⟨h.1.trans g.1,h.2.1.trans g.2.1,h.2.2.trans g.2.2⟩
theorem CgR.symm(h:CgR p a b):CgR p b a:=⟨h.1.symm,h.2.1.symm,h.2.2.symm⟩
theorem CgR.sc(hk:Cg p k k')(h:CgR p a b):CgR p (B0 k a) (B0 k' b):=⟨hk.mul h.1,hk.mul h.2.1,hk.mul h.2.2⟩
theorem JR(ha:CgR p a a')(hb:CgR p b b'):Cg p (AS a b) (AS a' b'):=((ha.1.mul hb.1).add (ha.2.1.mul hb.2.1)).add (ha.2.2.mul hb.2.2)
theorem yC(ha:CgR p a a')(hb:CgR p b b')(hc:CgR p c c'):CgR p (E1 a b c) (E1 a' b' c')/\CgR p (EZ a b c) (EZ a' b' c')/\CgR p (EY a b c) (EY a' b' c'):=⟨⟨ha.1,hb.1,hc.1⟩,⟨ha.2.1,hb.2.1,hc.2.1⟩,⟨ha.2.2,hb.2.2,hc.2.2⟩⟩
theorem yB(ha:CgR p a a')(hb:CgR p b b'):CgR p (crs a b) (crs a' b'):=
 ⟨(ha.2.1.mul hb.2.2).sub (ha.2.2.mul hb.2.1),(ha.2.2.mul hb.1).sub (ha.1.mul hb.2.2),(ha.1.mul hb.2.1).sub (ha.2.1.mul hb.1)⟩
theorem gy(p t:Af)(a:R3):CgR p (fmR p t a) (B0 t a):=by
 have key:∀ x:Af,Cg p (t*(x%p)%p) (t*x):=λx=>(Cg.md _root_.rfl).trans (Cg.rfl.mul (Cg.md _root_.rfl))
 exact⟨key _,key _,key _⟩
noncomputable def rm(a x y z:R3):R3:=(AS (E1 x y z) a,AS (EZ x y z) a,AS (EY x y z) a)
noncomputable def ap(a b c x:R3):R3:=(AS a x,AS b x,AS c x)
theorem RA(k l:Af)(x:R3):B0 k (B0 l x)=B0 (k*l) x:=by
 unfold B0;simp only[Hd]
theorem bT(a b c x:R3)(k:Af):ap a b c (B0 k x)=B0 k (ap a b c x):=by
 unfold ap B0 AS;refine BF ?_ (BF ?_ ?_)<;>(simp only;grind)
end
section
variable{p:Af}{a b c f0 f1 f2 f3 g0 g1 g2 g3:R3}{d0 d1 d2 d3:Af}
end
section
variable{Z:Gam}{ns:Ac Af}
end
section
variable{Z:Gam}{ns:Ac Af}{many s5 s6 s7 s8 s9 s0 s1 s2:Sl}{p:Af}{a b c:R3}
end
noncomputable def PF:E:=(.call 1 (.cons (.var 0) (.cons (.var 3) .nil)))
noncomputable def PR:Df:=⟨4,Ad,(.cons (.asg 2 Ad (.comp PF 3 (.e (.var 1)) Cr)) (.cons (.ife (.no (.bi .any (.cons (.var 2) .nil))) (.cons (.rais 5 (.cons (.str (AY "all six numbers have the rest 0")) .nil)) .nil) .nil) (.cons (.ret (.call 17 (.cons (.var 0) (.cons (.var 2) .nil)))) .nil)))⟩
theorem Vh:∀ xs:Ac Af,FU (ds xs)=.ok (xs.any λx=>x != 0)
 |[]=>rfl
 |x::xs=>by
  show (FW (.int x)).bind (λb=>(FU (ds xs)).bind λc=>.ok (b||c))=_
  rw[Vh xs];rfl
theorem UB{p:Af}(hp:0<p):∀ xs:Ac Af,((xs.map λx=>x%p).any λx=>x != 0)=(A4 p xs).isSome
 |[]=>rfl
 |x::xs=>by
  unfold A4;rw[Cj,He];by_cases h:x%p=0
  .rw[Ax h,h,UB hp xs];rfl
  .rw[AC h];simp[h]
theorem XC(xs:Ac Af):(xs.map λx=>x%p).map (λx=>x%p)=xs.map λx=>x%p:=by
 rw[Gq];refine Fe λx _=>?_
 show x%p%p=x%p;rw[Br _ (Cm p)]
def InL(p:Af)(xs:Ac Af):Prop:=∀ x∈xs,0<=x/\x<p
theorem InL.set(h:InL p xs)(k:Ag)(h0:0<=v)(h1:v<p):InL p (xs.set k v):=λx hx=>by
 rcases YJ hx with z|rfl
 .exact h x z
 .exact⟨h0,h1⟩
section
variable{Z:Gam}{ns:Ac Af}{p at_:Af}
end
section
variable{Z:Gam}{ns:Ac Af}{p t:Af}
end
structure C6 where
 c0:Af
 c1:Af
 c2:Af
 c3:Af
 c4:Af
 c5:Af
variable{C:C6}
noncomputable def C6.l(C:C6):Ac Af:=[C.c0,C.c1,C.c2,C.c3,C.c4,C.c5]
noncomputable def Cp(C:C6):D:=.tup (ds C.l)
noncomputable def vI(C:C6)(x:R3):Af:=C.c0*x.1*x.1+C.c1*x.2.1*x.2.1+C.c2*x.2.2*x.2.2+(C.c3*x.1*x.2.1+C.c4*x.1*x.2.2+C.c5*x.2.1*x.2.2)
noncomputable def tw0(C:C6):R3:=(2*C.c0,C.c3,C.c4)
noncomputable def tw1(C:C6):R3:=(C.c3,2*C.c1,C.c5)
noncomputable def tw2(C:C6):R3:=(C.c4,C.c5,2*C.c2)
noncomputable def bI(C:C6)(x y:R3):Af:=AS (ap (tw0 C) (tw1 C) (tw2 C) x) y
noncomputable def scC(k:Af)(C:C6):C6:=⟨k*C.c0,k*C.c1,k*C.c2,k*C.c3,k*C.c4,k*C.c5⟩
def CgC(p:Af)(C D:C6):Prop:=Cg p C.c0 D.c0/\Cg p C.c1 D.c1/\Cg p C.c2 D.c2/\Cg p C.c3 D.c3/\Cg p C.c4 D.c4/\Cg p C.c5 D.c5
noncomputable def pb(C:C6)(a b c:R3):C6:=⟨vI C (E1 a b c),vI C (EZ a b c),vI C (EY a b c),bI C (E1 a b c) (EZ a b c),bI C (E1 a b c) (EY a b c),bI C (EZ a b c) (EY a b c)⟩
section
variable{p:Af}{C D E:C6}{a b c a' b' c' x y x' y':R3}{k k':Af}
theorem C6.ext'(h0:C.c0=D.c0)(h1:C.c1=D.c1)(h2:C.c2=D.c2)(h3:C.c3=D.c3)(h4:C.c4=D.c4)(h5:C.c5=D.c5):C=D:=by
 cases C;cases D;simp_all
theorem CgC.rfl:CgC p C C:=⟨Cg.rfl,Cg.rfl,Cg.rfl,Cg.rfl,Cg.rfl,Cg.rfl⟩
theorem CgC.of(h:C=D):CgC p C D:=by rw[h];exact CgC.rfl
theorem CgC.symm(h:CgC p C D):CgC p D C:=⟨h.1.symm,h.2.1.symm,h.2.2.1.symm,h.2.2.2.1.symm,h.2.2.2.2.1.symm,h.2.2.2.2.2.symm⟩
theorem CgC.trans(h:CgC p C D)(g:CgC p D E):CgC p C E:=⟨h.1.trans g.1,h.2.1.trans g.2.1,h.2.2.1.trans g.2.2.1,h.2.2.2.1.trans g.2.2.2.1,h.2.2.2.2.1.trans g.2.2.2.2.1,h.2.2.2.2.2.trans g.2.2.2.2.2⟩
theorem CgC.sc(hk:Cg p k k')(h:CgC p C D):CgC p (scC k C) (scC k' D):=⟨hk.mul h.1,hk.mul h.2.1,hk.mul h.2.2.1,hk.mul h.2.2.2.1,hk.mul h.2.2.2.2.1,hk.mul h.2.2.2.2.2⟩
theorem Iw(h:CgC p C D)(hx:CgR p x x'):Cg p (vI C x) (vI D x'):=
 (((((h.1.mul hx.1).mul hx.1).add ((h.2.1.mul hx.2.1).mul hx.2.1)).add ((h.2.2.1.mul hx.2.2).mul hx.2.2))).add ((((h.2.2.2.1.mul hx.1).mul hx.2.1).add ((h.2.2.2.2.1.mul hx.1).mul hx.2.2)).add ((h.2.2.2.2.2.mul hx.2.1).mul hx.2.2))
theorem zD(h:CgC p C D):CgR p (tw0 C) (tw0 D)/\CgR p (tw1 C) (tw1 D)/\CgR p (tw2 C) (tw2 D):=
 ⟨⟨Cg.rfl.mul h.1,h.2.2.2.1,h.2.2.2.2.1⟩,⟨h.2.2.2.1,Cg.rfl.mul h.2.1,h.2.2.2.2.2⟩,⟨h.2.2.2.2.1,h.2.2.2.2.2,Cg.rfl.mul h.2.2.1⟩⟩
theorem xS(ha:CgR p a a')(hb:CgR p b b')(hc:CgR p c c')(hx:CgR p x x'):CgR p (ap a b c x) (ap a' b' c' x'):=⟨JR ha hx,JR hb hx,JR hc hx⟩
theorem RM(h:CgC p C D)(hx:CgR p x x')(hy:CgR p y y'):Cg p (bI C x y) (bI D x' y'):=
 let ⟨t0,t1,t2⟩:=zD h
 JR (xS t0 t1 t2 hx) hy
theorem XJ(h:CgC p C D)(ha:CgR p a a')(hb:CgR p b b')(hc:CgR p c c'):CgC p (pb C a b c) (pb D a' b' c'):=
 let ⟨s0,s1,s2⟩:=yC ha hb hc
 ⟨Iw h s0,Iw h s1,Iw h s2,RM h s0 s1,RM h s0 s2,RM h s1 s2⟩
theorem Q3(k l:Af)(C:C6):scC k (scC l C)=scC (k*l) C:=by
 unfold scC;simp only[Hd]
theorem N7(C:C6):scC 1 C=C:=by unfold scC;simp only[Dt]
theorem fj(k:Af)(C:C6)(a b c:R3):pb (scC k C) a b c=scC k (pb C a b c):=by
 unfold pb scC vI bI ap tw0 tw1 tw2 AS;refine C6.ext' ?_ ?_ ?_ ?_ ?_ ?_<;>(simp only;grind)
theorem WL(C:C6)(x y z:R3)(k l m:Af):vI C (k*x.1+l*y.1+m*z.1,k*x.2.1+l*y.2.1+m*z.2.1,k*x.2.2+l*y.2.2+m*z.2.2)=k*k*vI C x+l*l*vI C y+m*m*vI C z+(k*l*bI C x y+k*m*bI C x z+l*m*bI C y z):=by
 unfold vI bI ap tw0 tw1 tw2 AS;simp only;grind
theorem Wj(C:C6)(x y z w:R3)(k l m:Af):bI C (k*x.1+l*y.1+m*z.1,k*x.2.1+l*y.2.1+m*z.2.1,k*x.2.2+l*y.2.2+m*z.2.2) w=k*bI C x w+l*bI C y w+m*bI C z w:=by
 unfold bI ap tw0 tw1 tw2 AS;simp only;grind
theorem NZ(C:C6)(x y:R3):bI C x y=bI C y x:=by
 unfold bI ap tw0 tw1 tw2 AS;simp only;grind
theorem QT(C:C6)(x:R3):bI C x x=2*vI C x:=by
 unfold vI bI ap tw0 tw1 tw2 AS;simp only;grind
theorem cm(v0 v1 v2 b0 b1 b2:Af)(u:R3):vI ⟨v0,v1,v2,b0,b1,b2⟩ u=u.1*u.1*v0+u.2.1*u.2.1*v1+u.2.2*u.2.2*v2+(u.1*u.2.1*b0+u.1*u.2.2*b1+u.2.1*u.2.2*b2):=by
 unfold vI;simp only;grind
theorem cn(v0 v1 v2 b0 b1 b2:Af)(u w:R3):bI ⟨v0,v1,v2,b0,b1,b2⟩ u w=u.1*(w.1*(2*v0)+w.2.1*b0+w.2.2*b1)+u.2.1*(w.1*b0+w.2.1*(2*v1)+w.2.2*b2)+u.2.2*(w.1*b1+w.2.1*b2+w.2.2*(2*v2)):=by
 unfold bI ap tw0 tw1 tw2 AS;simp only;grind
theorem dM(C:C6)(s0 s1 s2 u:R3):vI C (u.1*s0.1+u.2.1*s1.1+u.2.2*s2.1,u.1*s0.2.1+u.2.1*s1.2.1+u.2.2*s2.2.1,u.1*s0.2.2+u.2.1*s1.2.2+u.2.2*s2.2.2)=vI ⟨vI C s0,vI C s1,vI C s2,bI C s0 s1,bI C s0 s2,bI C s1 s2⟩ u:=by
 exact(WL C s0 s1 s2 u.1 u.2.1 u.2.2).trans (cm _ _ _ _ _ _ u).symm
theorem dN(C:C6)(s0 s1 s2 u w:R3):bI C (u.1*s0.1+u.2.1*s1.1+u.2.2*s2.1,u.1*s0.2.1+u.2.1*s1.2.1+u.2.2*s2.2.1,u.1*s0.2.2+u.2.1*s1.2.2+u.2.2*s2.2.2) (w.1*s0.1+w.2.1*s1.1+w.2.2*s2.1,w.1*s0.2.1+w.2.1*s1.2.1+w.2.2*s2.2.1,w.1*s0.2.2+w.2.1*s1.2.2+w.2.2*s2.2.2)=bI ⟨vI C s0,vI C s1,vI C s2,bI C s0 s1,bI C s0 s2,bI C s1 s2⟩ u w:=by
 have e:∀ s:R3,bI C s (w.1*s0.1+w.2.1*s1.1+w.2.2*s2.1,w.1*s0.2.1+w.2.1*s1.2.1+w.2.2*s2.2.1,w.1*s0.2.2+w.2.1*s1.2.2+w.2.2*s2.2.2)=w.1*bI C s0 s+w.2.1*bI C s1 s+w.2.2*bI C s2 s:=λs=>(NZ C _ _).trans (Wj C s0 s1 s2 s w.1 w.2.1 w.2.2)
 refine Eq.trans ?_ (cn _ _ _ _ _ _ u w).symm;rw[Wj,e,e,e,QT C s0,QT C s1,QT C s2,NZ C s1 s0,NZ C s2 s0,NZ C s2 s1]
theorem fq(C:C6)(a b c x y z:R3):pb (pb C a b c) x y z=pb C (rm a x y z) (rm b x y z) (rm c x y z):=by
 have v:=λu=>(dM C (E1 a b c) (EZ a b c) (EY a b c) u).symm
 have w:=λu u'=>(dN C (E1 a b c) (EZ a b c) (EY a b c) u u').symm
 exact C6.ext' (v (E1 x y z)) (v (EZ x y z)) (v (EY x y z)) (w (E1 x y z) (EZ x y z)) (w (E1 x y z) (EY x y z)) (w (EZ x y z) (EY x y z))
theorem fu(C:C6)(k:Af):pb C (k,0,0) (0,k,0) (0,0,k)=scC (k*k) C:=by
 unfold pb scC vI bI ap tw0 tw1 tw2 AS E1 EZ EY;refine C6.ext' ?_ ?_ ?_ ?_ ?_ ?_<;>(simp only;grind)
theorem tV(a b c:R3):rm a (bk0 a b c) (bk1 a b c) (bk2 a b c)=(Aq a b c,0,0)/\rm b (bk0 a b c) (bk1 a b c) (bk2 a b c)=(0,Aq a b c,0)/\rm c (bk0 a b c) (bk1 a b c) (bk2 a b c)=(0,0,Aq a b c):=by
 unfold rm AS bk0 bk1 bk2 E1 EZ EY crs Aq det;refine⟨?_,?_,?_⟩<;>refine BF ?_ (BF ?_ ?_)<;>(simp only;grind)
def PrC(p:Af)(C D:C6):Prop:=∃ d,d%p≠0/\CgC p C (scC d D)
theorem PrC.rfl(hp:P4 p):PrC p C C:=⟨1,hp.o1,CgC.of (N7 C).symm⟩
theorem PrC.trans(hp:P4 p)(i:PrC p C D)(j:PrC p D E):PrC p C E:=by
 obtain⟨d,dz,e⟩:=i;obtain⟨d',dz',e'⟩:=j;exact⟨d*d',Dc hp dz dz',e.trans ((CgC.sc Cg.rfl e').trans (CgC.of (Q3 _ _ _)))⟩
theorem Ww(hp:P4 p)(dz:k%p≠0):∃ u,u%p≠0/\Cg p (u*k) 1:=by
 obtain⟨u,u1,u2,u3⟩:=LI hp dz;refine⟨u,by rw[AT (by omega) u2];omega,?_⟩
 show u*k%p=1%p;rw[BH,u3,AT (by decide) (by have:=hp.lo;omega)]
theorem PrC.symm(hp:P4 p)(i:PrC p C D):PrC p D C:=by
 obtain⟨d,dz,e⟩:=i;obtain⟨u,uz,o⟩:=Ww hp dz;refine⟨u,uz,?_⟩;have q:=CgC.sc (k:=u) (k':=u) Cg.rfl e;rw[Q3]at q;exact(q.trans ((CgC.sc o CgC.rfl).trans (CgC.of (N7 D)))).symm
theorem PrC.pb(i:PrC p C D):PrC p (OvC.pb C a b c) (OvC.pb D a b c):=by
 obtain⟨d,dz,e⟩:=i;exact⟨d,dz,(XJ e CgR.rfl CgR.rfl CgR.rfl).trans (CgC.of (fj d D a b c))⟩
def InC(p:Af)(C:C6):Prop:=∀ x∈C.l,0<=x/\x<p
theorem gG(hp:P4 p)(iC:InC p C)(iD:InC p D)(lC:A4 p C.l=Aa 1)(lD:A4 p D.l=Aa 1)(h:PrC p C D):C=D:=by
 obtain⟨d,dz,e⟩:=h;have p1:1<p:=by have:=hp.lo;omega
 have rs:C.l.map (λx=>x%p)=(D.l.map λx=>d*x).map (λx=>x%p):=by
  obtain⟨h0,h1,h2,h3,h4,h5⟩:=e;simp only[C6.l,Cj,Jx];rw[show C.c0%p=d*D.c0%p from h0,show C.c1%p=d*D.c1%p from h1,show C.c2%p=d*D.c2%p from h2,show C.c3%p=d*D.c3%p from h3,show C.c4%p=d*D.c4%p from h4,show C.c5%p=d*D.c5%p from h5]
 have el:=Lq hp dz (f:=λx=>d*x) (λ_=>rfl) D.l
 rw[lD,<-NH rs,lC,Et,Ci,DO]at el;have o:Cg p d 1:=by
  show d%p=1%p;rw[<-el,AT (by decide) p1]
 obtain⟨h0,h1,h2,h3,h4,h5⟩:=e.trans ((CgC.sc o CgC.rfl).trans (CgC.of (N7 D)));have same:∀{u v:Af},u∈C.l->v∈D.l->Cg p u v->u=v:=λhu hv huv=>by
  have:=show _%p=_%p from huv
  rwa [AT (iC _ hu).1 (iC _ hu).2,AT (iD _ hv).1 (iD _ hv).2]at this
 exact C6.ext' (same (by simp[C6.l]) (by simp[C6.l]) h0) (same (by simp[C6.l]) (by simp[C6.l]) h1) (same (by simp[C6.l]) (by simp[C6.l]) h2) (same (by simp[C6.l]) (by simp[C6.l]) h3) (same (by simp[C6.l]) (by simp[C6.l]) h4) (same (by simp[C6.l]) (by simp[C6.l]) h5)
end
noncomputable def QS:Df:=⟨5,Ad,(.cons (.asg 3 Ad (.bin .Add (.bin .Add (.bin .Mult (.bin .Mult (.idx (.var 1) (.int 0)) (.idx (.var 2) (.int 0))) (.idx (.var 2) (.int 0))) (.bin .Mult (.bin .Mult (.idx (.var 1) (.int 1)) (.idx (.var 2) (.int 1))) (.idx (.var 2) (.int 1)))) (.bin .Mult (.bin .Mult (.idx (.var 1) (.int 2)) (.idx (.var 2) (.int 2))) (.idx (.var 2) (.int 2))))) (.cons (.asg 4 Ad (.bin .Add (.bin .Add (.bin .Mult (.bin .Mult (.idx (.var 1) (.int 3)) (.idx (.var 2) (.int 0))) (.idx (.var 2) (.int 1))) (.bin .Mult (.bin .Mult (.idx (.var 1) (.int 4)) (.idx (.var 2) (.int 0))) (.idx (.var 2) (.int 2)))) (.bin .Mult (.bin .Mult (.idx (.var 1) (.int 5)) (.idx (.var 2) (.int 1))) (.idx (.var 2) (.int 2))))) (.cons (.ret (.call 1 (.cons (.var 0) (.cons (.bin .Add (.var 3) (.var 4)) .nil)))) .nil)))⟩
theorem ix6(C:C6):BA (Cp C) (.int 0)=.ok (.int C.c0)/\BA (Cp C) (.int 1)=.ok (.int C.c1)/\BA (Cp C) (.int 2)=.ok (.int C.c2)/\BA (Cp C) (.int 3)=.ok (.int C.c3)/\BA (Cp C) (.int 4)=.ok (.int C.c4)/\BA (Cp C) (.int 5)=.ok (.int C.c5):=⟨rfl,rfl,rfl,rfl,rfl,rfl⟩
structure BC (C:C6):Prop where
 b0:Bd 10 C.c0
 b1:Bd 10 C.c1
 b2:Bd 10 C.c2
 b3:Bd 10 C.c3
 b4:Bd 10 C.c4
 b5:Bd 10 C.c5
theorem InC.b(hp:P4 p)(h:InC p C):BC C:=by
 have k:∀ x∈C.l,Bd 10 x:=λx hx=>Nd hp (h x hx).1 (h x hx).2
 exact⟨k _ (by simp[C6.l]),k _ (by simp[C6.l]),k _ (by simp[C6.l]),k _ (by simp[C6.l]),k _ (by simp[C6.l]),k _ (by simp[C6.l])⟩
noncomputable def t0(p:Af)(C:C6):R3:=(2*C.c0%p,C.c3,C.c4)
noncomputable def t1(p:Af)(C:C6):R3:=(C.c3,2*C.c1%p,C.c5)
noncomputable def t2(p:Af)(C:C6):R3:=(C.c4,C.c5,2*C.c2%p)
def Xd(Z:Gam):Prop:=∀(p:Af)(b:Ai)(xs:Ac Af)(l t:Af),P4 p->A4 p xs=Aa l->Hn p l t->Z.F 122 [.int p,Dl b xs]=.ok (.tup (ds (fmI p t xs)))
theorem uJ(hr:KB Z)(hf:N4 Z){b:Ai}{l t:Af}(hp:P4 p)(e:A4 p xs=Aa l)(it:Hn p l t):PR.run Z [.int p,Dl b xs]=.ok (.tup (ds (fmI p t xs))):=by
 have p0:=hp.pos;have cp:BD (cG Z [si p,sh (Dl b xs),Ae,Ae] 3 Cr) (cF Z [si p,sh (Dl b xs),Ae,Ae] 3 PF) (ds xs)=.ok (ds (xs.map λx=>x%p)):=by
  refine Lg xs λx _=>⟨rfl,?_⟩
  simp[cF,PF,hr p x p0]
 have an:=Vh (xs.map λx=>x%p)
 rw[UB p0,e]at an;have le:A4 p (xs.map λx=>x%p)=Aa l:=by rw[NH (XC xs)];exact e
 have f:=hf p Ad (xs.map λx=>x%p) l t hp le it
 rw[kY (XC xs)]at f;have f':Z.F 17 [.int p,.lst (ds (xs.map λx=>x%p))]=.ok (.tup (ds (fmI p t xs))):=f
 simp[PR,Df.run,By,PU,cp,an,f']
theorem RT{E:C6}{l:Af}(hp:P4 p)(el:A4 p E.l=Aa l):∃(t:Af)(D:C6),Hn p l t/\fmI p t E.l=D.l/\InC p D/\A4 p D.l=Aa 1/\PrC p D E:=by
 have p0:=hp.pos;obtain⟨lz,_,_⟩:=MF p0 el;obtain⟨t,t1,t2,t3⟩:=LI hp lz;have tz:t%p≠0:=by rw[AT (by omega) t2];omega
 have ff:∀ x,(t*(x%p)%p)%p=t*x%p:=λx=>by rw[Br _ (Cm p),BJ t (x%p) p,Br _ (Cm p),<-BJ]
 have lv:=Lq hp tz (f:=λx=>t*(x%p)%p) ff E.l
 rw[el,Et,BH,t3]at lv;have key:∀ x:Af,Cg p (t*(x%p)%p) (t*x):=λx=>(Cg.md rfl).trans (Cg.rfl.mul (Cg.md rfl))
 refine⟨t,⟨t*(E.c0%p)%p,t*(E.c1%p)%p,t*(E.c2%p)%p,t*(E.c3%p)%p,t*(E.c4%p)%p,t*(E.c5%p)%p⟩,⟨t1,t2,t3⟩,rfl,λx hx=>?_,lv,t,tz,key _,key _,key _,key _,key _,key _⟩
 obtain⟨y,_,rfl⟩:=C7.mp (show x∈E.l.map λx=>t*(x%p)%p from hx)
 exact⟨Bo _ (by omega),Bf _ p0⟩
section
variable{Z:Gam}{ns:Ac Af}{p at_:Af}{φ:Af->Af}
end
noncomputable def e0R:R3:=(1,0,0)
noncomputable def e1R:R3:=(0,1,0)
noncomputable def e2R:R3:=(0,0,1)
noncomputable def e3R:R3:=(1,1,1)
theorem dE(hp:P4 p):In3 p e0R/\In3 p e1R/\In3 p e2R/\In3 p e3R:=by
 have z:0<=(0:Af)/\(0:Af)<p:=⟨by decide,hp.pos⟩
 have o:0<=(1:Af)/\(1:Af)<p:=⟨by decide,by have:=hp.lo;omega⟩
 exact⟨⟨o,z,z⟩,⟨z,o,z⟩,⟨z,z,o⟩,⟨o,o,o⟩⟩
theorem fz(hp:P4 p):eJ p e0R e1R e2R e3R:=by
 rcases hp with rfl|rfl|rfl|rfl<;>exact⟨by decide,by decide,by decide,by decide⟩
def Pr(p:Af)(x y:R3):Prop:=∃ d,d%p≠0/\CgR p x (B0 d y)
section
variable{p:Af}{a b c x y z f g h:R3}{k:Af}
theorem Oe(x:R3):B0 1 x=x:=by unfold B0;simp only[Dt]
theorem Pr.rfl(hp:P4 p):Pr p x x:=⟨1,hp.o1,CgR.of (Oe x).symm⟩
theorem Pr.trans(hp:P4 p)(i:Pr p x y)(j:Pr p y z):Pr p x z:=by
 obtain⟨d,dz,e⟩:=i;obtain⟨d',dz',e'⟩:=j;exact⟨d*d',Dc hp dz dz',e.trans ((CgR.sc Cg.rfl e').trans (CgR.of (RA _ _ _)))⟩
theorem Pr.symm(hp:P4 p)(i:Pr p x y):Pr p y x:=by
 obtain⟨d,dz,e⟩:=i;obtain⟨u,u1,u2,u3⟩:=LI hp dz;have uz:u%p≠0:=by rw[AT (by omega) u2];omega
 have o:Cg p (u*d) 1:=by
  show u*d%p=1%p;rw[BH,u3,AT (by decide) (by have:=hp.lo;omega)]
 refine⟨u,uz,?_⟩;have q:=CgR.sc (k:=u) (k':=u) Cg.rfl e;rw[RA]at q;exact(q.trans ((CgR.sc o CgR.rfl).trans (CgR.of (Oe y)))).symm
theorem X3{a' b' c' x':R3}(ha:CgR p a a')(hb:CgR p b b')(hc:CgR p c c')(hx:CgR p x x'):CgR p (ap a b c x) (ap a' b' c' x'):=⟨JR ha hx,JR hb hx,JR hc hx⟩
theorem Pr.ap(i:Pr p x y):Pr p (OvC.ap a b c x) (OvC.ap a b c y):=by
 obtain⟨d,dz,e⟩:=i;exact⟨d,dz,(X3 CgR.rfl CgR.rfl CgR.rfl e).trans (CgR.of (bT a b c y d))⟩
theorem X4(a b c v:R3):ap (bk0 a b c) (bk1 a b c) (bk2 a b c) (ap a b c v)=B0 (Aq a b c) v:=by
 unfold ap B0 AS bk0 bk1 bk2 E1 EZ EY crs Aq det;refine BF ?_ (BF ?_ ?_)<;>(simp only;grind)
end
noncomputable def tri(g:R3):Ac Af:=[g.1,g.2.1,g.2.2]
theorem Vo{x:R3}(hp:P4 p)(ix:In3 p x)(iy:In3 p y)(lx:A4 p (tri x)=Aa 1)(ly:A4 p (tri y)=Aa 1)(h:Pr p x y):x=y:=by
 obtain⟨d,dz,e⟩:=h;have p1:1<p:=by have:=hp.lo;omega
 have rs:(tri x).map (λx=>x%p)=((tri y).map λx=>d*x).map (λx=>x%p):=by
  simp only[tri,Cj,Jx];rw[show x.1%p=d*y.1%p from e.1,show x.2.1%p=d*y.2.1%p from e.2.1,show x.2.2%p=d*y.2.2%p from e.2.2]
 have el:=Lq hp dz (f:=λx=>d*x) (λ_=>rfl) (tri y)
 rw[ly,<-NH rs,lx,Et,Ci,DO]at el;have o:Cg p d 1:=by
  show d%p=1%p;rw[<-el,AT (by decide) p1]
 have q:=e.trans ((CgR.sc o CgR.rfl).trans (CgR.of (Oe y)));have same:∀{u v:Af},(0<=u/\u<p)->(0<=v/\v<p)->Cg p u v->u=v:=λhu hv huv=>by
  have:=show _%p=_%p from huv
  rwa [AT hu.1 hu.2,AT hv.1 hv.2]at this
 exact BF (same ix.1 iy.1 q.1) (BF (same ix.2.1 iy.2.1 q.2.1) (same ix.2.2 iy.2.2 q.2.2))
section
variable{p:Af}{a b c a' b' c' f0 f1 f2 f3 g0 g1 g2 g3 h0 h1 h2 h3:R3}
end
section
variable{Z:Gam}{ns:Ac Af}{p:Af}
theorem rP(hp:P4 p):GoodR p e0R e1R e2R/\A4 p (eG e0R e1R e2R)=Aa 1:=by
 obtain⟨i0,i1,i2,i3⟩:=dE hp;refine⟨⟨hp,i0,i1,i2,(fz hp).1⟩,?_⟩;rcases hp with rfl|rfl|rfl|rfl<;>decide
end
noncomputable def L3(a b c:R3):Ac D:=[Bs a,Bs b,Bs c]
def Ij(i j:Af):Prop:=(i=0/\j=1)\/(i=0/\j=2)\/(i=1/\j=0)\/(i=1/\j=2)\/(i=2/\j=0)\/(i=2/\j=1)
theorem gg{m:Af}{i j:Af}(hi:m%3=i)(hj:(i+1+m/3%2)%3=j):Ij i j:=by
 have i3:i=0\/i=1\/i=2:=by omega
 have e2:m/3%2=0\/m/3%2=1:=by omega
 rcases i3 with z|z|z<;>rcases e2 with e|e<;>rw[z,e]at hj
 .exact .inl ⟨z,hj.symm⟩
 .exact .inr (.inl ⟨z,hj.symm⟩)
 .exact .inr (.inr (.inr (.inl ⟨z,hj.symm⟩)))
 .exact .inr (.inr (.inl ⟨z,hj.symm⟩))
 .exact .inr (.inr (.inr (.inr (.inl ⟨z,hj.symm⟩))))
 .exact .inr (.inr (.inr (.inr (.inr ⟨z,hj.symm⟩))))
theorem gK{a b c:R3}{i j:Af}(h:GoodR p a b c)(ht:0<t/\t<p)(ij:Ij i j):∃(i' j':Ag)(x y:R3),DA (L3 a b c) i=.ok (Bs x)/\DA (L3 a b c) j=.ok (Bs y)/\plD 3 i=Aa i'/\plD 3 j=Aa j'/\(∃ a' b' c',GoodR p a' b' c'/\((L3 a b c).set i' (Bs y)).set j' (Bs x)=L3 a' b' c')/\(∃ a' b' c',GoodR p a' b' c'/\(L3 a b c).set i' (Bs (scR p t x))=L3 a' b' c')/\(∃ a' b' c',GoodR p a' b' c'/\(L3 a b c).set i' (Bs (adR p t x y))=L3 a' b' c'):=by
 have p0:=h.p4.pos;have tz:t%p≠0:=by rw[AT (by omega) ht.2];omega
 rcases ij with ⟨rfl,rfl⟩|⟨rfl,rfl⟩|⟨rfl,rfl⟩|⟨rfl,rfl⟩|⟨rfl,rfl⟩|⟨rfl,rfl⟩
 .exact⟨0,1,a,b,rfl,rfl,rfl,rfl,⟨b,a,c,h.of (k:=-1) h.p4.m1 (Cg.of (by unfold Aq det;grind)) ⟨h.ib,h.ia,h.ic⟩,rfl⟩,⟨_,_,_,h.of (k:=t) tz (SY p t a b c) ⟨LP p0 _ _,h.ib,h.ic⟩,rfl⟩,⟨_,_,_,h.of (k:=1) h.p4.o1 (gc p t a b c) ⟨LN p0 _ _ _,h.ib,h.ic⟩,rfl⟩⟩
 .exact⟨0,2,a,c,rfl,rfl,rfl,rfl,⟨c,b,a,h.of (k:=-1) h.p4.m1 (Cg.of (by unfold Aq det;grind)) ⟨h.ic,h.ib,h.ia⟩,rfl⟩,⟨_,_,_,h.of (k:=t) tz (SY p t a b c) ⟨LP p0 _ _,h.ib,h.ic⟩,rfl⟩,⟨_,_,_,h.of (k:=1) h.p4.o1 (gb p t a b c) ⟨LN p0 _ _ _,h.ib,h.ic⟩,rfl⟩⟩
 .exact⟨1,0,b,a,rfl,rfl,rfl,rfl,⟨b,a,c,h.of (k:=-1) h.p4.m1 (Cg.of (by unfold Aq det;grind)) ⟨h.ib,h.ia,h.ic⟩,rfl⟩,⟨_,_,_,h.of (k:=t) tz (SX p t a b c) ⟨h.ia,LP p0 _ _,h.ic⟩,rfl⟩,⟨_,_,_,h.of (k:=1) h.p4.o1 (g9 p t a b c) ⟨h.ia,LN p0 _ _ _,h.ic⟩,rfl⟩⟩
 .exact⟨1,2,b,c,rfl,rfl,rfl,rfl,⟨a,c,b,h.of (k:=-1) h.p4.m1 (Cg.of (by unfold Aq det;grind)) ⟨h.ia,h.ic,h.ib⟩,rfl⟩,⟨_,_,_,h.of (k:=t) tz (SX p t a b c) ⟨h.ia,LP p0 _ _,h.ic⟩,rfl⟩,⟨_,_,_,h.of (k:=1) h.p4.o1 (g8 p t a b c) ⟨h.ia,LN p0 _ _ _,h.ic⟩,rfl⟩⟩
 .exact⟨2,0,c,a,rfl,rfl,rfl,rfl,⟨c,b,a,h.of (k:=-1) h.p4.m1 (Cg.of (by unfold Aq det;grind)) ⟨h.ic,h.ib,h.ia⟩,rfl⟩,⟨_,_,_,h.of (k:=t) tz (SV p t a b c) ⟨h.ia,h.ib,LP p0 _ _⟩,rfl⟩,⟨_,_,_,h.of (k:=1) h.p4.o1 (g7 p t a b c) ⟨h.ia,h.ib,LN p0 _ _ _⟩,rfl⟩⟩
 .exact⟨2,1,c,b,rfl,rfl,rfl,rfl,⟨a,c,b,h.of (k:=-1) h.p4.m1 (Cg.of (by unfold Aq det;grind)) ⟨h.ia,h.ic,h.ib⟩,rfl⟩,⟨_,_,_,h.of (k:=t) tz (SV p t a b c) ⟨h.ia,h.ib,LP p0 _ _⟩,rfl⟩,⟨_,_,_,h.of (k:=1) h.p4.o1 (g6 p t a b c) ⟨h.ia,h.ib,LN p0 _ _ _⟩,rfl⟩⟩
def KD(Z:Gam)(mid:Ag)(ns:Ac Af):Prop:=∀ k:Af,0<=k->∃ m,0<=m/\Z.F mid [scr ns,.int k]=.ok (.int m)
noncomputable def Pk:E:=(.bin .Mod (.bin .Mult (.var 8) (.var 9)) (.var 0))
noncomputable def Pj:E:=(.bin .Mod (.bin .Add (.var 10) (.bin .Mult (.var 8) (.var 11))) (.var 0))
noncomputable def Gk(mid:Ag):Ss:=(.cons (.asg 5 Ad (.bin .FloorDiv (.call mid (.cons (.var 1) (.cons (.var 4) .nil))) (.int 3))) (.cons (.asg 6 Ad (.bin .Mod (.var 5) (.int 3))) (.cons (.asg 7 Ad (.bin .Mod (.bin .Add (.bin .Add (.var 6) (.int 1)) (.bin .Mod (.bin .FloorDiv (.var 5) (.int 3)) (.int 2))) (.int 3))) (.cons (.asg 8 Ad (.bin .Add (.int 1) (.bin .Mod (.bin .FloorDiv (.var 5) (.int 24)) (.bin .Sub (.var 0) (.int 1))))) (.cons (.ife (.cmp .Eq (.bin .Mod (.bin .FloorDiv (.var 5) (.int 6)) (.int 4)) (.int 0)) (.cons (.swp 3 6 7) .nil) (.cons (.ife (.cmp .Eq (.bin .Mod (.bin .FloorDiv (.var 5) (.int 6)) (.int 4)) (.int 1)) (.cons (.put 3 (.var 6) (.comp Pk 9 (.e (.idx (.var 3) (.var 6))) Cr)) .nil) (.cons (.put 3 (.var 6) (.compT Pj [10,11] (.zip (.idx (.var 3) (.var 6)) (.idx (.var 3) (.var 7))) Cr)) .nil)) .nil)) .nil)))))
noncomputable def R0(mid:Ag):Df:=⟨12,Ad,(.cons (.asg 3 Ab (.lst (.cons (.lst (.cons (.int 1) (.cons (.int 0) (.cons (.int 0) .nil)))) (.cons (.lst (.cons (.int 0) (.cons (.int 1) (.cons (.int 0) .nil)))) (.cons (.lst (.cons (.int 0) (.cons (.int 0) (.cons (.int 1) .nil)))) .nil))))) (.cons (.fors 4 (.e (.bin .Add (.bi .list (.cons (.tupI (.rng2 (.var 2) (.bin .Add (.var 2) (.int 9)))) .nil)) (.bi .list (.cons (.tupI (.rng2 (.int 23) (.bi .min (.cons (.bi .len (.cons (.var 1) .nil)) (.cons (.int 63) .nil))))) .nil)))) (Gk mid)) (.cons (.ret (.var 3)) .nil)))⟩
section
variable{Z:Gam}{ns:Ac Af}{mid:Ag}{p:Af}{a b c:R3}{s2 s4 s5 s6 s7 s8:Sl}
theorem vH{k cl i j t:Af}{j':Ag}{x:R3}(hi:DA L i=.ok (Bs x))(hj:DA L j=.ok (Bs y))(pi:plD L.length i=Aa i')(pj:plD L.length j=Aa j')(k0:cl/6%4=0):evSs Z [si p,sh (scr ns),s2,Aa (.lst L,Ab),s4,si cl,si i,si j,si t,Ae,Ae,Ae] ((Gk mid).drop 4)=.next [si p,sh (scr ns),s2,Aa (.lst ((L.set i' (Bs y)).set j' (Bs x)),Ab),s4,si cl,si i,si j,si t,Ae,Ae,Ae]:=by
 simp[Gk,Ss.drop,k0,sE,OZ,Cw,HW,E2,hi,hj,pi,pj]
theorem tR{cl i j:Af}{x:R3}(hi:DA L i=.ok (Bs x))(pi:plD L.length i=Aa i')(p0:0<p)(mt:∀ x,D4 t x=Ab)(k0:¬ cl/6%4=0)(k1:cl/6%4=1):evSs Z [si p,sh (scr ns),s2,Aa (.lst L,Ab),s4,si cl,si i,si j,si t,Ae,Ae,Ae] ((Gk mid).drop 4)=.next [si p,sh (scr ns),s2,Aa (.lst (L.set i' (Bs (scR p t x))),Ab),s4,si cl,si i,si j,si t,Ae,Ae,Ae]:=by
 have cp:BD (cG Z [si p,sh (scr ns),s2,Aa (.lst L,Ab),s4,si cl,si i,si j,si t,Ae,Ae,Ae] 9 Cr) (cF Z [si p,sh (scr ns),s2,Aa (.lst L,Ab),s4,si cl,si i,si j,si t,Ae,Ae,Ae] 9 Pk) [.int x.1,.int x.2.1,.int x.2.2]=.ok [.int (x.1*t%p),.int (x.2.1*t%p),.int (x.2.2*t%p)]:=by
  refine Lg (φ:=λx=>x*t%p) [x.1,x.2.1,x.2.2] λx _=>⟨rfl,?_⟩
  simp[cF,Pk,mt,p0,BH]
 rw[Bs]at hi;simp[Gk,Ss.drop,k1,QQ,Cw,hi,pi,cp];rfl
theorem tS{cl i j:Af}{x:R3}(hi:DA L i=.ok (Bs x))(hj:DA L j=.ok (Bs y))(pi:plD L.length i=Aa i')(p0:0<p)(mt:∀ x,D4 t x=Ab)(k0:¬ cl/6%4=0)(k1:¬ cl/6%4=1):evSs Z [si p,sh (scr ns),s2,Aa (.lst L,Ab),s4,si cl,si i,si j,si t,Ae,Ae,Ae] ((Gk mid).drop 4)=.next [si p,sh (scr ns),s2,Aa (.lst (L.set i' (Bs (adR p t x y))),Ab),s4,si cl,si i,si j,si t,Ae,Ae,Ae]:=by
 have cp:BD (cGT Z [si p,sh (scr ns),s2,Aa (.lst L,Ab),s4,si cl,si i,si j,si t,Ae,Ae,Ae] [10,11] Cr) (cFT Z [si p,sh (scr ns),s2,Aa (.lst L,Ab),s4,si cl,si i,si j,si t,Ae,Ae,Ae] [10,11] Pj) (D5 [.int x.1,.int x.2.1,.int x.2.2] [.int y.1,.int y.2.1,.int y.2.2])=.ok [.int ((x.1+t*y.1)%p),.int ((x.2.1+t*y.2.1)%p),.int ((x.2.2+t*y.2.2)%p)]:=by
  generalize x.1=x0;generalize x.2.1=x1;generalize x.2.2=x2;generalize y.1=y0;generalize y.2.1=y1;generalize y.2.2=y2;simp[BD,cGT,cFT,D5,Pj,Cr,p0,mt]
 rw[Bs]at hi hj;simp[Gk,Ss.drop,k0,k1,QQ,Cw,hi,hj,pi,cp];rfl
theorem jD(hm:KD Z mid ns)(h:GoodR p a b c)(hk:0<=k):∃ a' b' c' v5 v6 v7 v8,GoodR p a' b' c'/\BK Z 4 (Gk mid) (.int k) [si p,sh (scr ns),s2,Aa (.lst (L3 a b c),Ab),s4,s5,s6,s7,s8,Ae,Ae,Ae]=.next [si p,sh (scr ns),s2,Aa (.lst (L3 a' b' c'),Ab),si k,v5,v6,v7,v8,Ae,Ae,Ae]:=by
 have p0:=h.p4.pos;have pl:=h.p4.lo;have ph:=h.p4.hi;obtain⟨m,m0,e0⟩:=hm k hk;generalize hcl:m/3=cl;have q1:0<p-1:=by omega
 have q2:1<p:=by omega
 have t0:0<1+cl/24%(p-1):=by have:=Bo (cl/24) (b:=p-1) (by omega);omega
 have t1:1+cl/24%(p-1)<p:=by have:=Bf (cl/24) q1;omega
 generalize ht:1+cl/24%(p-1)=t at t0 t1;generalize hi:cl%3=i;generalize hj:(i+1+cl/3%2)%3=j;have ij:=gg hi hj;have hd:evSs Z [si p,sh (scr ns),s2,Aa (.lst (L3 a b c),Ab),si k,s5,s6,s7,s8,Ae,Ae,Ae] ((Gk mid).take 4)=.next [si p,sh (scr ns),s2,Aa (.lst (L3 a b c),Ab),si k,si cl,si i,si j,si t,Ae,Ae,Ae]:=by
  simp[Gk,Ss.take,e0,hcl,hi,hj,q1,q2,ht]
 have mt:∀ x,D4 t x=Ab:=λx=>IZ (by omega) (by omega)
 obtain⟨i',j',x,y,gi,gj,pi,pj,⟨a1,b1,c1,g1,f1⟩,⟨a2,b2,c2,g2,f2⟩,⟨a3,b3,c3,g3,f3⟩⟩:=gK h ⟨t0,t1⟩ ij;have pi':plD (L3 a b c).length i=Aa i':=pi;have pj':plD (L3 a b c).length j=Aa j':=pj;have fin:∀ {o},evSs Z [si p,sh (scr ns),s2,Aa (.lst (L3 a b c),Ab),si k,si cl,si i,si j,si t,Ae,Ae,Ae] ((Gk mid).drop 4)=o->BK Z 4 (Gk mid) (.int k) [si p,sh (scr ns),s2,Aa (.lst (L3 a b c),Ab),s4,s5,s6,s7,s8,Ae,Ae,Ae]=o:=λ{o} h=>by
  show evSs Z [si p,sh (scr ns),s2,Aa (.lst (L3 a b c),Ab),si k,s5,s6,s7,s8,Ae,Ae,Ae] (Gk mid)=o;rw[U_9 Z 4,hd];exact h
 by_cases k0:cl/6%4=0
 .refine⟨a1,b1,c1,si cl,si i,si j,si t,g1,fin ?_⟩;rw[vH (k:=0) gi gj pi' pj' k0,f1]
 .by_cases k1:cl/6%4=1
  .refine⟨a2,b2,c2,si cl,si i,si j,si t,g2,fin ?_⟩;rw[tR gi pi' p0 mt k0 k1,f2]
  .refine⟨a3,b3,c3,si cl,si i,si j,si t,g3,fin ?_⟩;rw[tS gi gj pi' p0 mt k0 k1,f3]
end
theorem Uz{lo:Af}{x:D}(h:x∈Cb lo n):∃ j:Ag,j<n/\x=.int (lo+(j:Af)):=by
 obtain⟨j,hj⟩:=List.getElem?_of_mem h;exact⟨j,U_5 hj⟩
theorem TQ{lo hi:Af}(h1:-1000<=lo)(h2:lo<=1000)(h3:-1000<=hi)(h4:hi<=1000):CT lo hi=.ok (Cb lo (hi-lo).toNat):=by
 unfold CT;rw[Ax (by refine⟨⟨by omega,by omega⟩,⟨by omega,by omega⟩,?_⟩;omega)]
def bV(Z:Gam)(id:Ag)(ns:Ac Af):Prop:=∀(p:Af),P4 p->∃ a b c,GoodR p a b c/\Z.F id [.int p,scr ns,.int 1]=.ok (KN a b c)
theorem cw(hl:ns.length<=63)(hm:KD Z mid ns)(p:Af)(hp:P4 p):∃ a b c,GoodR p a b c/\(R0 mid).run Z [.int p,scr ns,.int 1]=.ok (KN a b c):=by
 have g0:GoodR p e0R e1R e2R:=(rP hp).1;have r1:CT 1 10=.ok (Cb 1 9):=rfl;generalize hn:(if (63:Af)<(ns.length:Af) then (63:Af) else (ns.length:Af))=n
 have n0:0<=n/\n<=63:=by split at hn<;>omega
 have r2:CT 23 n=.ok (Cb 23 (n-23).toNat):=TQ (by decide) (by decide) (by omega) (by omega)
 have ad:Dm .Add (.lst (Cb 1 9)) (.lst (Cb 23 (n-23).toNat))=.ok (.lst (Cb 1 9++Cb 23 (n-23).toNat)):=by
  rw[Rv,Ax];rw[Ll,Ll];unfold Dz;simp;omega
 obtain⟨U',e,a,b,c,s4,s5,s6,s7,s8,g,rfl⟩:=U_7 (body:=BK Z 4 (Gk mid)) (λU=>∃ a b c s4 s5 s6 s7 s8,GoodR p a b c/\U=[si p,sh (scr ns),si 1,Aa (.lst (L3 a b c),Ab),s4,s5,s6,s7,s8,Ae,Ae,Ae]) (Cb 1 9++Cb 23 (n-23).toNat) [si p,sh (scr ns),si 1,Aa (.lst (L3 e0R e1R e2R),Ab),Ae,Ae,Ae,Ae,Ae,Ae,Ae,Ae] ⟨_,_,_,_,_,_,_,_,g0,rfl⟩ (by
  rintro x hx U ⟨a,b,c,s4,s5,s6,s7,s8,g,rfl⟩;have hk:∃ k:Af,0<=k/\x=.int k:=by
   rcases Fs.mp hx with z|z
   .obtain⟨j,_,rfl⟩:=Uz z;exact⟨_,by omega,rfl⟩
   .obtain⟨j,_,rfl⟩:=Uz z;exact⟨_,by omega,rfl⟩
  obtain⟨k,k0,rfl⟩:=hk;obtain⟨a',b',c',v5,v6,v7,v8,g',e⟩:=jD (s2:=si 1) (s4:=s4) (s5:=s5) (s6:=s6) (s7:=s7) (s8:=s8) hm g k0;exact⟨_,e,a',b',c',_,_,_,_,_,g',rfl⟩)
 refine⟨a,b,c,g,?_⟩;have ln:biD .len [scr ns]=.ok (.int ns.length):=by simp[scr]
 have mn:biD .min [.int (ns.length:Af),.int 63]=.ok (.int n):=by rw[<-hn];rfl
 have sq:Db (.lst (Cb 1 9++Cb 23 (n-23).toNat))=.ok (Cb 1 9++Cb 23 (n-23).toNat):=rfl;have e':CY (BK Z 4 (Gk mid)) (Cb 1 9++Cb 23 (n-23).toNat) [si p,sh (scr ns),si 1,Aa (.lst [.lst [.int 1,.int 0,.int 0],.lst [.int 0,.int 1,.int 0],.lst [.int 0,.int 0,.int 1]],Ab),Ae,Ae,Ae,Ae,Ae,Ae,Ae,Ae]=_:=e;generalize Cb 1 9=A at *;generalize Cb 23 (n-23).toNat=B at *;generalize scr ns=S at *;simp[R0,Df.run,By,DR,ln,mn,r1,r2,ad,sq,e'];rfl
theorem VY{g:D->R Ai}{f:D->R D}{q:Af->Ai}{φ:Af->Af}:∀(xs:Ac Af),(∀ x∈xs,g (.int x)=.ok (q x)/\f (.int x)=.ok (.int (φ x)))->BD g f (ds xs)=.ok (ds ((xs.filter q).map φ))
 |[],_=>rfl
 |x::xs,h=>by
  obtain⟨h1,h2⟩:=h x (Ay ..);have ih:=VY xs λy hy=>h y (Aw _ hy)
  show (g (.int x)).bind _=_;rw[h1,R.bind_ok,Eb];cases hq:q x with
  |true=>
   rw[Ax rfl,Ax rfl,h2,R.bind_ok,show BD g f (Mq D.int xs)=_ from ih]
   rfl
  |false=>
   rw[AC (by decide),AC (by decide)]
   exact ih
theorem Ui{p:Af}:∀ xs:Ac Af,((xs.filter λx=>decide (x%p≠0)).map λx=>x%p).head?=A4 p xs
 |[]=>rfl
 |x::xs=>by
  unfold A4;rw[Eb];by_cases h:x%p=0
  .rw[AC (by simp[h]),Ax h]
   exact Ui xs
  .rw[Ax (by simp[h]),AC h]
   rfl
noncomputable def Pq:E:=(.cmp .NotEq (.bin .Mod (.var 4) (.var 0)) (.int 0))
noncomputable def Pu:E:=(.bin .Mod (.var 4) (.var 0))
noncomputable def Pp:E:=(.cmp .Eq (.bin .Mod (.bin .Mult (.var 5) (.var 2)) (.var 0)) (.int 1))
noncomputable def Pt:E:=(.var 5)
noncomputable def Ps:E:=(.bin .Mod (.bin .Mult (.var 6) (.var 3)) (.var 0))
noncomputable def PC:Df:=⟨7,Ad,(.cons (.asg 2 Ad (.idx (.comp Pu 4 (.e (.var 1)) Pq) (.int 0))) (.cons (.asg 3 Ad (.idx (.comp Pt 5 (.rng2 (.int 1) (.var 0)) Pp) (.int 0))) (.cons (.ret (.bi .tuple (.cons (.comp Ps 6 (.e (.var 1)) Cr) .nil))) .nil)))⟩
def QV(Z:Gam):Prop:=∀(p:Af)(b:Ai)(xs:Ac Af)(l t:Af),P4 p->A4 p xs=Aa l->Hn p l t->Z.F 158 [.int p,Dl b xs]=.ok (.tup (ds (fmI p t xs)))
theorem mC(Z:Gam){b:Ai}{l t:Af}(hp:P4 p)(e:A4 p xs=Aa l)(it:Hn p l t):PC.run Z [.int p,Dl b xs]=.ok (.tup (ds (fmI p t xs))):=by
 have p0:=hp.pos;have ph:=hp.hi;have c1:BD (cG Z [si p,sh (Dl b xs),Ae,Ae,Ae,Ae,Ae] 4 Pq) (cF Z [si p,sh (Dl b xs),Ae,Ae,Ae,Ae,Ae] 4 Pu) (ds xs)=.ok (ds ((xs.filter λx=>decide (x%p≠0)).map λx=>x%p)):=by
  refine VY xs λx _=>⟨?_,?_⟩
  .simp[cG,Pq,p0];rw[DS];simp
  .simp[cF,Pu,p0]
 have hl:=Ui (p:=p) xs;rw[e]at hl;generalize ((xs.filter λx=>decide (x%p≠0)).map λx=>x%p)=ls at c1 hl
 have g0:=Uo hl;obtain⟨_,l0,l1⟩:=MF p0 e;have c3:BD (cG Z [si p,sh (Dl b xs),si l,Ae,Ae,Ae,Ae] 5 Pp) (cF Z [si p,sh (Dl b xs),si l,Ae,Ae,Ae,Ae] 5 Pt) (ds (GD p))=.ok (ds ((GD p).filter λk=>decide (k*l%p=1))):=by
  refine TF (GD p) λx hx=>⟨?_,?_⟩
  .obtain⟨x1,x2⟩:=Lp.mp hx;have m:D4 x l=Ab:=IZ (by omega) (by omega)
   simp[cG,Pp,m,p0];rw[DS];simp
  .simp[cF,Pt]
 have g1:=Uo (fZ it);have c4:BD (cG Z [si p,sh (Dl b xs),si l,si t,Ae,Ae,Ae] 6 Cr) (cF Z [si p,sh (Dl b xs),si l,si t,Ae,Ae,Ae] 6 Ps) (ds xs)=.ok (ds (xs.map λx=>x*t%p)):=by
  refine Lg xs λx _=>⟨rfl,?_⟩
  have m:D4 x t=Ab:=QC (by have:=it.1;omega) (by have:=it.2.1;omega)
  simp[cF,Ps,m,p0]
 have ru:CT 1 p=.ok (ds (GD p)):=UG hp;have fe:fmI p t xs=xs.map λx=>x*t%p:=by
  unfold fmI;refine Fe λx _=>?_
  rw[BH x t,BJ t (x%p) p,Br _ (Cm p),<-BJ]
 simp[PC,Df.run,By,PU,c1,g0,ru,c3,g1,c4,fe]
noncomputable def IY:Df:=⟨3,Ad,(.cons (.asg 2 Ad (.bin .Mod (.var 1) (.bin .Add (.bin .Add (.bin .Mult (.var 0) (.var 0)) (.var 0)) (.int 1)))) (.cons (.ife (.cmp .Eq (.var 2) (.int 0)) (.cons (.ret (.tup (.cons (.int 0) (.cons (.int 0) (.cons (.int 1) .nil))))) .nil) .nil) (.cons (.ife (.cmp .LtE (.var 2) (.var 0)) (.cons (.ret (.tup (.cons (.int 0) (.cons (.int 1) (.cons (.bin .Sub (.var 2) (.int 1)) .nil))))) .nil) .nil) (.cons (.ret (.tup (.cons (.int 1) (.cons (.bin .FloorDiv (.bin .Sub (.bin .Sub (.var 2) (.var 0)) (.int 1)) (.var 0)) (.cons (.bin .Mod (.bin .Sub (.bin .Sub (.var 2) (.var 0)) (.int 1)) (.var 0)) .nil))))) .nil))))⟩
theorem wB(h:1<p):A4 p [0,0,1]=Aa 1:=by
 simp[A4,AT (by decide:(0:Af)<=1) h]
theorem cq(h:1<p)(z:Af):A4 p [0,1,z]=Aa 1:=by
 simp[A4,AT (by decide:(0:Af)<=1) h]
theorem eI(h:1<p)(y z:Af):A4 p [1,y,z]=Aa 1:=by
 simp[A4,AT (by decide:(0:Af)<=1) h]
noncomputable def Pd:E:=(.bin .Mult (.idx (.var 0) (.var 5)) (.idx (.var 1) (.var 5)))
noncomputable def Tp:Ss:=(.cons (.app 2 (.bin .Add (.bin .Mult (.idx (.var 0) (.var 3)) (.idx (.var 1) (.var 4))) (.bin .Mult (.idx (.var 0) (.var 4)) (.idx (.var 1) (.var 3))))) .nil)
noncomputable def Pl:Df:=⟨6,Ad,(.cons (.asg 2 Ab (.comp Pd 5 (.rng (.int 3)) Cr)) (.cons (.forT [3,4] (.e (.lst (.cons (.tup (.cons (.int 0) (.cons (.int 1) .nil))) (.cons (.tup (.cons (.int 0) (.cons (.int 2) .nil))) (.cons (.tup (.cons (.int 1) (.cons (.int 2) .nil))) .nil))))) Tp) (.cons (.ret (.var 2)) .nil)))⟩
noncomputable def prd(a b:R3):C6:=⟨a.1*b.1,a.2.1*b.2.1,a.2.2*b.2.2,a.1*b.2.1+a.2.1*b.1,a.1*b.2.2+a.2.2*b.1,a.2.1*b.2.2+a.2.2*b.2.1⟩
def xF(Z:Gam):Prop:=∀(p:Af)(a b:R3),P4 p->In3 p a->In3 p b->Z.F 160 [Bs a,Bs b]=.ok (.lst (ds (prd a b).l))
theorem uB(Z:Gam)(p:Af)(a b:R3)(hp:P4 p)(ha:In3 p a)(hb:In3 p b):Pl.run Z [Bs a,Bs b]=.ok (.lst (ds (prd a b).l)):=by
 have ba:=FX hp ha;have bb:=FX hp hb;have k:∀ {u v},Bd 10 u->Bd 10 v->EW u v=Ab:=λhu hv=>GS hu hv (by decide) (by decide)
 obtain⟨a0,a1,a2⟩:=a;obtain⟨b0,b1,b2⟩:=b;have i0:BA (Bs (a0,a1,a2)) (.int 0)=.ok (.int a0):=rfl;have i1:BA (Bs (a0,a1,a2)) (.int 1)=.ok (.int a1):=rfl;have i2:BA (Bs (a0,a1,a2)) (.int 2)=.ok (.int a2):=rfl;have j0:BA (Bs (b0,b1,b2)) (.int 0)=.ok (.int b0):=rfl;have j1:BA (Bs (b0,b1,b2)) (.int 1)=.ok (.int b1):=rfl;have j2:BA (Bs (b0,b1,b2)) (.int 2)=.ok (.int b2):=rfl;have rg:CT 0 3=.ok [.int 0,.int 1,.int 2]:=rfl;have c1:BD (cG Z [sh (Bs (a0,a1,a2)),sh (Bs (b0,b1,b2)),Ae,Ae,Ae,Ae] 5 Cr) (cF Z [sh (Bs (a0,a1,a2)),sh (Bs (b0,b1,b2)),Ae,Ae,Ae,Ae] 5 Pd) [.int 0,.int 1,.int 2]=.ok [.int (a0*b0),.int (a1*b1),.int (a2*b2)]:=by
  simp[BD,cG,cF,Cr,Pd,i0,i1,i2,j0,j1,j2,k ba.1 bb.1,k ba.2.1 bb.2.1,k ba.2.2 bb.2.2]
 simp[Pl,Tp,Df.run,By,DR,rg,c1,CY,Jh,Cw,i0,i1,i2,j0,j1,j2,k ba.1 bb.2.1,k ba.2.1 bb.1,k ba.1 bb.2.2,k ba.2.2 bb.1,k ba.2.1 bb.2.2,k ba.2.2 bb.2.1,Dz];rfl
noncomputable def eQ:E:=(.bin .Mod (.bin .Mult (.var 9) (.var 9)) (.var 0))
noncomputable def Tl:E:=(.cmp .NotIn (.var 8) (.comp eQ 9 (.rng (.var 0)) Cr))
noncomputable def To:E:=(.var 8)
noncomputable def Nu:E:=(.bin .Sub (.var 10) (.bin .Mult (.var 7) (.var 11)))
noncomputable def Tn:E:=(.bin .Sub (.var 12) (.var 13))
noncomputable def Le:Df:=⟨14,Ad,(.cons (.asgT [3,4,5] (.var 1)) (.cons (.ife (.cmp .Eq (.var 2) (.int 1)) (.cons (.ret (.call 158 (.cons (.var 0) (.cons (.call 160 (.cons (.var 3) (.cons (.var 3) .nil))) .nil)))) .nil) .nil) (.cons (.ife (.cmp .Eq (.var 2) (.int 2)) (.cons (.ret (.call 158 (.cons (.var 0) (.cons (.call 160 (.cons (.var 3) (.cons (.var 4) .nil))) .nil)))) .nil) .nil) (.cons (.asg 6 Ad (.call 160 (.cons (.var 4) (.cons (.var 4) .nil)))) (.cons (.ife (.cmp .Eq (.var 2) (.int 3)) (.cons (.asg 7 Ad (.bi .min (.cons (.comp To 8 (.rng2 (.int 2) (.var 0)) Tl) .nil))) (.cons (.ret (.call 158 (.cons (.var 0) (.cons (.compT Nu [10,11] (.zip (.call 160 (.cons (.var 3) (.cons (.var 3) .nil))) (.var 6)) Cr) .nil)))) .nil)) .nil) (.cons (.ret (.call 158 (.cons (.var 0) (.cons (.compT Tn [12,13] (.zip (.call 160 (.cons (.var 3) (.cons (.var 5) .nil))) (.var 6)) Cr) .nil)))) .nil))))))⟩
noncomputable def Mc(C D:C6):C6:=⟨C.c0-D.c0,C.c1-D.c1,C.c2-D.c2,C.c3-D.c3,C.c4-D.c4,C.c5-D.c5⟩
theorem Qt{p l:Af}(hp:P4 p)(el:A4 p (tri r)=Aa l):∃ u,Hn p l u/\In3 p (fmR p u r)/\A4 p (tri (fmR p u r))=Aa 1/\Pr p (fmR p u r) r/\fmI p u (tri r)=tri (fmR p u r):=by
 have p0:=hp.pos;obtain⟨lz,_,_⟩:=MF p0 el;obtain⟨t,t1,t2,t3⟩:=LI hp lz;have tz:t%p≠0:=by rw[AT (by omega) t2];omega
 have ff:∀ x,(t*(x%p)%p)%p=t*x%p:=λx=>by rw[Br _ (Cm p),BJ t (x%p) p,Br _ (Cm p),<-BJ]
 have lv:=Lq hp tz (f:=λx=>t*(x%p)%p) ff (tri r)
 rw[el,Et,BH,t3]at lv;exact⟨t,⟨t1,t2,t3⟩,gw p0 t r,lv,⟨t,tz,gy p t r⟩,rfl⟩
theorem Qp(h:A4 p (tri g)=Ae):CgR p g (0,0,0):=by
 have hz:=Ko.mp h;have k:∀ x∈tri g,Cg p x 0:=λx hx=>by show x%p=0%p;rw[hz x hx,Bk]
 exact⟨k _ (by simp[tri]),k _ (by simp[tri]),k _ (by simp[tri])⟩
theorem UF(h:CgR p g (0,0,0)):A4 p (tri g)=Ae:=by
 refine Ko.mpr λx hx=>?_
 have k:∀{x:Af},Cg p x 0->x%p=0:=λ{x} h=>by rw[show x%p=_ from h,Bk]
 simp only[tri,Av,AR,BO]at hx;rcases hx with rfl|rfl|rfl
 .exact k h.1
 .exact k h.2.1
 .exact k h.2.2
theorem tG{p l:Af}{a b c f g:R3}(hp:P4 p)(z:Aq a b c%p≠0)(lf:A4 p (tri f)=Aa l)(h:CgR p g (ap a b c f)):∃ l,A4 p (tri g)=Aa l:=by
 cases el:A4 p (tri g) with
 |some l=>exact⟨l,rfl⟩
 |none=>
  have q0:CgR p (ap a b c f) (0,0,0):=h.symm.trans (Qp el);have q1:CgR p (B0 (Aq a b c) f) (0,0,0):=by
   have:=X3 (CgR.rfl (a:=bk0 a b c)) (CgR.rfl (a:=bk1 a b c)) (CgR.rfl (a:=bk2 a b c)) q0;rw[X4]at this;refine this.trans (CgR.of ?_);unfold ap AS;simp
  obtain⟨u,uz,o⟩:=Ww hp z;have q2:CgR p f (0,0,0):=by
   have w:=CgR.sc (k:=u) (k':=u) Cg.rfl q1;rw[RA]at w;refine((CgR.of (Oe f).symm).trans (CgR.sc o.symm CgR.rfl)).trans (w.trans (CgR.of ?_));unfold B0;simp
  rw[UF q2]at lf;cases lf
theorem Wk(a b c v:R3):ap a b c (ap (bk0 a b c) (bk1 a b c) (bk2 a b c) v)=B0 (Aq a b c) v:=by
 unfold ap B0 AS bk0 bk1 bk2 E1 EZ EY crs Aq det;refine BF ?_ (BF ?_ ?_)<;>(simp only;grind)
noncomputable def ND:Df:=⟨3,Ad,(.cons (.asg 2 Ad (.int 0)) (.cons (.ife (.cmp .Lt (.var 1) (.bi .len (.cons (.var 0) .nil))) (.cons (.asg 2 Ad (.idx (.var 0) (.var 1))) .nil) .nil) (.cons (.ret (.bin .Mod (.bin .Mult (.bin .Add (.bin .Add (.bin .Mod (.var 2) (.int 1000003)) (.bin .Mult (.int 7919) (.var 1))) (.int 11)) (.int 48271)) (.int 1000033))) .nil)))⟩
theorem uD(Z:Gam)(ns:Ac Af)(k:Af)(h0:0<=k):∃ m,0<=m/\ND.run Z [scr ns,.int k]=.ok (.int m):=by
 have m1:D4 7919 k=Ab:=IZ (by decide) (by decide)
 have m2:∀ x,D4 x 48271=Ab:=λx=>QC (by decide) (by decide)
 by_cases h1:k<ns.length
 .have g:=rT h0 h1;generalize ns.getD k.toNat 0=x at g;refine⟨(x%1000003+7919*k+11)*48271%1000033,Bo _ (by decide),?_⟩
  simp[ND,Df.run,By,h1,g,m1,m2]
 .refine⟨(0%1000003+7919*k+11)*48271%1000033,Bo _ (by decide),?_⟩
  simp[ND,Df.run,By,h1,m1,m2]
noncomputable def Se(mid:Ag):Df:=⟨1,Ad,(.cons (.ret (.idx (.lst (.cons (.int 3) (.cons (.int 5) (.cons (.int 7) (.cons (.int 11) .nil))))) (.bin .Mod (.bin .FloorDiv (.call mid (.cons (.var 0) (.cons (.int 0) .nil))) (.int 5)) (.int 4)))) .nil)⟩
theorem iO(h:KD Z mid ns):∃ p,P4 p/\(Se mid).run Z [scr ns]=.ok (.int p):=by
 obtain⟨m,m0,e⟩:=h 0 (by decide)
 refine⟨_,tM (m/5),?_⟩;simp[Se,Df.run,By,e,kW]
noncomputable def Mz:Df:=⟨8,Ad,(.cons (.asgT [2,3,4] (.var 0)) (.cons (.asgT [5,6,7] (.var 1)) (.cons (.ret (.lst (.cons (.bin .Sub (.bin .Mult (.var 3) (.var 7)) (.bin .Mult (.var 4) (.var 6))) (.cons (.bin .Sub (.bin .Mult (.var 4) (.var 5)) (.bin .Mult (.var 2) (.var 7))) (.cons (.bin .Sub (.bin .Mult (.var 2) (.var 6)) (.bin .Mult (.var 3) (.var 5))) .nil))))) .nil)))⟩
noncomputable def Pi:E:=(.bin .Mult (.var 7) (.var 8))
noncomputable def Pf:Df:=⟨9,Ad,(.cons (.asgT [3,4,5] (.var 2)) (.cons (.asg 6 Ad (.lst (.cons (.bin .Mult (.var 3) (.var 3)) (.cons (.bin .Mult (.var 4) (.var 4)) (.cons (.bin .Mult (.var 5) (.var 5)) (.cons (.bin .Mult (.var 3) (.var 4)) (.cons (.bin .Mult (.var 3) (.var 5)) (.cons (.bin .Mult (.var 4) (.var 5)) .nil)))))))) (.cons (.ret (.bin .Mod (.bi .sum (.cons (.compT Pi [7,8] (.zip (.var 1) (.var 6)) Cr) .nil)) (.var 0))) .nil)))⟩
section
variable{Z:Gam}{ns:Ac Af}{p:Af}{C:C6}{s3 s4 s5 s6 s7 s8:Sl}
end
section
variable{Z:Gam}{ns:Ac Af}
end
noncomputable def Rg:Df:=⟨3,Ad,(.cons (.ret (.call 17 (.cons (.var 0) (.cons (.call 23 (.cons (.var 1) (.cons (.var 2) .nil))) .nil)))) .nil)⟩
theorem Vd{a b:R3}(hp:P4 p)(h:CgR p (crs a b) (0,0,0))(la:A4 p (tri a)=Aa 1)(lb:A4 p (tri b)=Aa 1):Pr p b a:=by
 obtain⟨h0,h1,h2⟩:=h;have p1:1<p:=by have:=hp.lo;omega
 have sw:∀{x y:Af},Cg p (x-y) 0->Cg p x y:=λ{x y} h=>by
  have:=h.add (Cg.rfl (a:=y))
  rwa [Int.sub_add_cancel,FA]at this
 have e0:Cg p (a.2.1*b.2.2) (a.2.2*b.2.1):=sw h0;have e1:Cg p (a.2.2*b.1) (a.1*b.2.2):=sw h1;have e2:Cg p (a.1*b.2.1) (a.2.1*b.1):=sw h2;have one:∀{x:Af},x%p=1->Cg p x 1:=λ{x} h=>by show x%p=1%p;rw[h,AT (by decide) p1]
 have fin:∀ k,CgR p b (B0 k a)->Pr p b a:=λk hk=>by
  refine⟨k,λz=>?_,hk⟩
  have:CgR p b (0,0,0):=by
   have kz:Cg p k 0:=by show k%p=0%p;rw[z,Bk]
   refine hk.trans ((CgR.sc kz CgR.rfl).trans (CgR.of ?_));unfold B0;simp
  rw[UF this]at lb;cases lb
 unfold tri A4 at la;by_cases z0:a.1%p=0
 .rw[Ax z0]at la;have c0:Cg p a.1 0:=by show a.1%p=0%p;rw[z0,Bk]
  unfold A4 at la;by_cases z1:a.2.1%p=0
  .rw[Ax z1]at la;have c1:Cg p a.2.1 0:=by show a.2.1%p=0%p;rw[z1,Bk]
   unfold A4 at la;by_cases z2:a.2.2%p=0
   .rw[Ax z2]at la;cases la
   .rw[AC z2,Ci]at la;have c2:=one la;refine fin b.2.2 ⟨?_,?_,?_⟩
    .have:=(c2.symm.mul (Cg.rfl (a:=b.1))).trans e1;rw[Dt]at this;exact this.trans (Cg.of (BH _ _))
    .have:=(c2.symm.mul (Cg.rfl (a:=b.2.1))).trans e0.symm;rw[Dt]at this;exact this.trans (Cg.of (BH _ _))
    .have:=(Cg.rfl (a:=b.2.2)).mul c2;rw[DO]at this;exact this.symm
  .rw[AC z1,Ci]at la;have c1:=one la;refine fin b.2.1 ⟨?_,?_,?_⟩
   .have:=(c1.symm.mul (Cg.rfl (a:=b.1))).trans e2.symm;rw[Dt]at this;exact this.trans (Cg.of (BH _ _))
   .have:=(Cg.rfl (a:=b.2.1)).mul c1;rw[DO]at this;exact this.symm
   .have:=(c1.symm.mul (Cg.rfl (a:=b.2.2))).trans e0;rw[Dt]at this;exact this.trans (Cg.of (BH _ _))
 .rw[AC z0,Ci]at la;have c0:=one la;refine fin b.1 ⟨?_,?_,?_⟩
  .have:=(Cg.rfl (a:=b.1)).mul c0;rw[DO]at this;exact this.symm
  .have:=(c0.symm.mul (Cg.rfl (a:=b.2.1))).trans e2;rw[Dt]at this;exact this.trans (Cg.of (BH _ _))
  .have:=(c0.symm.mul (Cg.rfl (a:=b.2.2))).trans e1.symm;rw[Dt]at this;exact this.trans (Cg.of (BH _ _))
def Ot(Z:Gam):Prop:=∀(p:Af)(a b:R3),P4 p->In3 p a->In3 p b->A4 p (tri a)=Aa 1->A4 p (tri b)=Aa 1->a≠b->∃ y,In3 p y/\A4 p (tri y)=Aa 1/\Pr p y (crs a b)/\Z.F 57 [.int p,At Ab a,At Ab b]=.ok (At Ab y)
theorem W8(hc:QW Z)(hf:N4 Z)(p:Af)(a b:R3)(hp:P4 p)(ia:In3 p a)(ib:In3 p b)(la:A4 p (tri a)=Aa 1)(lb:A4 p (tri b)=Aa 1)(ne:a≠b):∃ y,In3 p y/\A4 p (tri y)=Aa 1/\Pr p y (crs a b)/\Rg.run Z [.int p,At Ab a,At Ab b]=.ok (At Ab y):=by
 have e1:=hc a b ((FX hp ia).b3 (by decide)) ((FX hp ib).b3 (by decide)) ne
 cases el:A4 p (tri (crs a b)) with
 |none=>exact absurd (Vo hp ib ia lb la (Vd hp (Qp el) la lb)).symm ne
 |some l=>
  obtain⟨u,iu,j,l1,pr,ef⟩:=Qt hp el;have e2:=hf p Ab _ l u hp el iu;rw[ef]at e2;have e2':Z.F 17 [.int p,At Ab (crs a b)]=.ok (At Ab (fmR p u (crs a b))):=e2;refine⟨_,j,l1,pr,?_⟩;generalize At Ab (fmR p u (crs a b))=Y_ at *;simp[Rg,Df.run,By,e1,e2']
def Xa(Z:Gam):Prop:=∀(p:Af)(C:C6)(x:R3),P4 p->InC p C->In3 p x->Z.F 162 [.int p,Cp C,At Ab x]=.ok (.int (vI C x%p))
theorem uG(Z:Gam)(p:Af)(C:C6)(x:R3)(hp:P4 p)(iC:InC p C)(ix:In3 p x):Pf.run Z [.int p,Cp C,At Ab x]=.ok (.int (vI C x%p)):=by
 have p0:=hp.pos;have bC:=iC.b hp;have bx:=FX hp ix;have k:∀ {u v},Bd 10 u->Bd 10 v->EW u v=Ab:=λhu hv=>GS hu hv (by decide) (by decide)
 have k2:∀ {u v w},Bd 10 u->Bd 10 v->Bd 10 w->EW u (v*w)=Ab:=λhu hv hw=>GS hu (hv.mul hw) (by decide) (by decide)
 obtain⟨c0,c1,c2,c3,c4,c5⟩:=C;obtain⟨x0,x1,x2⟩:=x;have q00:=k bx.1 bx.1;have q11:=k bx.2.1 bx.2.1;have q22:=k bx.2.2 bx.2.2;have q01:=k bx.1 bx.2.1;have q02:=k bx.1 bx.2.2;have q12:=k bx.2.1 bx.2.2;have m0:=k2 bC.b0 bx.1 bx.1;have m1:=k2 bC.b1 bx.2.1 bx.2.1;have m2:=k2 bC.b2 bx.2.2 bx.2.2;have m3:=k2 bC.b3 bx.1 bx.2.1;have m4:=k2 bC.b4 bx.1 bx.2.2;have m5:=k2 bC.b5 bx.2.1 bx.2.2;simp only at q00 q11 q22 q01 q02 q12 m0 m1 m2 m3 m4 m5;have sC:Db (Cp ⟨c0,c1,c2,c3,c4,c5⟩)=.ok [.int c0,.int c1,.int c2,.int c3,.int c4,.int c5]:=rfl;have as:∀ U:Rho,Hj [3,4,5] (At Ab (x0,x1,x2)) U=.ok (((U.set 3 (si x0)).set 4 (si x1)).set 5 (si x2)):=λ_=>rfl
 have ev:vI ⟨c0,c1,c2,c3,c4,c5⟩ (x0,x1,x2)=c0*(x0*x0)+c1*(x1*x1)+c2*(x2*x2)+c3*(x0*x1)+c4*(x0*x2)+c5*(x1*x2):=by
  unfold vI;simp only;grind
 rw[ev];generalize Cp ⟨c0,c1,c2,c3,c4,c5⟩=cC at *;generalize At Ab (x0,x1,x2)=xx at *;generalize hz0:x0*x0=z0 at *;generalize hz1:x1*x1=z1 at *;generalize hz2:x2*x2=z2 at *;generalize hz3:x0*x1=z3 at *;generalize hz4:x0*x2=z4 at *;generalize hz5:x1*x2=z5 at *;have cp:BD (cGT Z [si p,sh cC,sh xx,si x0,si x1,si x2,sh (.lst [.int z0,.int z1,.int z2,.int z3,.int z4,.int z5]),Ae,Ae] [7,8] Cr) (cFT Z [si p,sh cC,sh xx,si x0,si x1,si x2,sh (.lst [.int z0,.int z1,.int z2,.int z3,.int z4,.int z5]),Ae,Ae] [7,8] Pi) (D5 [.int c0,.int c1,.int c2,.int c3,.int c4,.int c5] [.int z0,.int z1,.int z2,.int z3,.int z4,.int z5])=.ok [.int (c0*z0),.int (c1*z1),.int (c2*z2),.int (c3*z3),.int (c4*z4),.int (c5*z5)]:=by
  simp[BD,cGT,cFT,D5,Pi,Cr,m0,m1,m2,m3,m4,m5]
 generalize hs:c0*z0+c1*z1+c2*z2+c3*z3+c4*z4+c5*z5=s;have sm:H9 0 [.int (c0*z0),.int (c1*z1),.int (c2*z2),.int (c3*z3),.int (c4*z4),.int (c5*z5)]=.ok s:=by rw[<-hs];simp[H9]
 simp[Pf,Df.run,By,as,q00,q11,q22,q01,q02,q12,hz0,hz1,hz2,hz3,hz4,hz5,sC,cp,sm,p0]
theorem QR(a b:R3):AS (crs a b) a=0/\AS (crs a b) b=0:=by
 unfold AS crs;constructor<;>grind
theorem FI(hp:P4 p)(kz:k%p≠0):k*x%p=0↔x%p=0:=by
 constructor
 .intro z;exact Ds λn=>Dc hp kz n z
 .intro z;rw[BJ,z,C4,Bk]
section
variable{Z:Gam}{ns:Ac Af}{p:Af}{C:C6}{s3 s4 s5 s6 s7 s8:Sl}
end
def NF(p:Af)(x:R3):Prop:=In3 p x/\A4 p (tri x)=Aa 1
noncomputable def ptI(p n:Af):R3:=if n=0 then (0,0,1) else if n<=p then (0,1,n-1) else (1,(n-p-1)/p,(n-p-1)%p)
noncomputable def GE(p:Af):Ac R3:=(A6 (p*p+p+1).toNat).map fun(n:Ag)=>ptI p n
theorem Xn{n:Af}(hp:P4 p)(h0:0<=n)(h1:n<p*p+p+1):NF p (ptI p n):=by
 have p1:1<p:=by have:=hp.lo;omega
 have p0:=hp.pos;unfold ptI;by_cases z:n=0
 .rw[Ax z];exact⟨⟨⟨by decide,p0⟩,⟨by decide,p0⟩,⟨by decide,p1⟩⟩,wB p1⟩
 .rw[AC z];by_cases z1:n<=p
  .rw[Ax z1];exact⟨⟨⟨J8 0,p0⟩,⟨(by decide:(0:Af)<=1),p1⟩,⟨by show 0<=n-1;omega,by show n-1<p;omega⟩⟩,cq p1 _⟩
  .rw[AC z1];have d0:0<=(n-p-1)/p:=Int.ediv_nonneg (by omega) (by omega)
   have d1:(n-p-1)/p<p:=by rw[Int.ediv_lt_iff_lt_mul p0];omega
   exact⟨⟨⟨(by decide:(0:Af)<=1),p1⟩,⟨d0,d1⟩,⟨Bo _ (by omega),Bf _ p0⟩⟩,eI p1 _ _⟩
theorem bz{x:R3}(hp:P4 p)(h:NF p x):∃ n:Af,0<=n/\n<p*p+p+1/\x=ptI p n:=by
 obtain⟨⟨i0,i1,i2⟩,l⟩:=h;have p1:1<p:=by have:=hp.lo;omega
 have p0:=hp.pos;have pp:=Ik p0 p0;obtain⟨x0,x1,x2⟩:=x;simp only at i0 i1 i2;unfold tri A4 at l;simp only at l;rw[AT i0.1 i0.2]at l;by_cases z0:x0=0
 .rw[Ax z0]at l;unfold A4 at l;rw[AT i1.1 i1.2]at l;by_cases z1:x1=0
  .rw[Ax z1]at l;unfold A4 at l;rw[AT i2.1 i2.2]at l;by_cases z2:x2=0
   .rw[Ax z2]at l;cases l
   .rw[AC z2,Ci]at l;exact⟨0,J8 0,by omega,by rw[z0,z1,l];rfl⟩
  .rw[AC z1,Ci]at l;refine⟨x2+1,by omega,by omega,?_⟩
   unfold ptI;rw[AC (by omega),Ax (by omega),z0,l,Int.add_sub_cancel]
 .rw[AC z0,Ci]at l;have m1:p*x1<=p*(p-1):=Int.mul_le_mul_of_nonneg_left (by omega) (by omega)
  have m0:0<=p*x1:=Ym (by omega) i1.1
  rw[Int.mul_sub,DO]at m1;refine⟨p+1+p*x1+x2,by omega,by omega,?_⟩
  unfold ptI;have e:p+1+p*x1+x2-p-1=x2+p*x1:=by omega
  rw[AC (by omega),AC (by omega),e,Int.add_mul_ediv_left _ _ (by omega),Int.ediv_eq_zero_of_lt i2.1 i2.2,Int.add_mul_emod_self_left,AT i2.1 i2.2,FA,l]
theorem HR{x:R3}(hp:P4 p):x∈GE p↔NF p x:=by
 have p0:=hp.pos;have pp:=Ik p0 p0;constructor
 .intro h;obtain⟨n,hn,rfl⟩:=C7.mp h;have:=Bp.mp hn;exact Xn hp (by omega) (by omega)
 .intro h;obtain⟨n,n0,n1,rfl⟩:=bz hp h;refine C7.mpr ⟨n.toNat,Bp.mpr (by omega),?_⟩
  rw[Int.toNat_of_nonneg n0]
theorem iH(hp:P4 p):(GE p).Nodup:=by
 rcases hp with rfl|rfl|rfl|rfl<;>decide+kernel
theorem QF{α:Type}[DecidableEq α]:∀{l1 l2:Ac α},l1.Nodup->(∀ x∈l1,x∈l2)->l1.length<=l2.length
 |[],_,_,_=>E8 _
 |x::l1,l2,nd,h=>by
  obtain⟨n1,n2⟩:=BV.mp nd;have hx:=h x Ay;have:=QF (l1:=l1) (l2:=l2.erase x) n2 λy hy=>by
   have hy2:=h y (Aw _ hy);have ne:y≠x:=λe=>n1 (e ▸ hy)
   exact(List.mem_erase_of_ne ne).mpr hy2
  rw[List.length_erase_of_mem hx]at this;have l0:0<l2.length:=List.length_pos_of_mem hx;rw[Bm];omega
theorem Qb{α β:Type}{f:α->β}:∀{l:Ac α},l.Nodup->(∀ x∈l,∀ y∈l,f x=f y->x=y)->(l.map f).Nodup
 |[],_,_=>DI
 |x::l,nd,h=>by
  obtain⟨n1,n2⟩:=BV.mp nd;rw[Cj,BV];refine⟨λm=>?_,Qb n2 λy hy z hz=>h y (Aw _ hy) z (Aw _ hz)⟩
  obtain⟨y,hy,e⟩:=C7.mp m;have:=h y (Aw _ hy) x Ay e;exact n1 (this ▸ hy)
theorem qQ[DecidableEq α]{l:Ac α}(nd:l.Nodup)(F G:α->α)(hF:∀ x∈l,F x∈l)(hG:∀ y∈l,G y∈l)(GF:∀ x∈l,G (F x)=x)(FG:∀ y∈l,F (G y)=y)(Q:α->Ai):(l.filter λx=>Q (F x)).length=(l.filter Q).length:=by
 refine Nat.le_antisymm ?_ ?_
 .have n:((l.filter λx=>Q (F x)).map F).Nodup:=Qb (nd.filter _) λx hx y hy e=>by
   have h1:=GF x (BU.mp hx).1;have h2:=GF y (BU.mp hy).1;rw[<-h1,<-h2,e]
  have:=QF (l2:=l.filter Q) n λz hz=>by
   obtain⟨x,hx,rfl⟩:=C7.mp hz;obtain⟨h1,h2⟩:=BU.mp hx;exact BU.mpr ⟨hF x h1,h2⟩
  rwa [Bi]at this
 .have n:((l.filter Q).map G).Nodup:=Qb (nd.filter _) λx hx y hy e=>by
   have h1:=FG x (BU.mp hx).1;have h2:=FG y (BU.mp hy).1;rw[<-h1,<-h2,e]
  have:=QF (l2:=l.filter λx=>Q (F x)) n λz hz=>by
   obtain⟨x,hx,rfl⟩:=C7.mp hz;obtain⟨h1,h2⟩:=BU.mp hx;exact BU.mpr ⟨hG x h1,by rw[FG x h1];exact h2⟩
  rwa [Bi]at this
noncomputable def nrm(p:Af)(r:R3):R3:=open Classical in if h:∃ y,NF p y/\Pr p y r then Yh h else r
theorem Uy{p l:Af}(hp:P4 p)(el:A4 p (tri r)=Aa l):NF p (nrm p r)/\Pr p (nrm p r) r:=by
 have h:∃ y,NF p y/\Pr p y r:=by
  obtain⟨u,iu,j,l1,pr,_⟩:=Qt hp el;exact⟨_,⟨j,l1⟩,pr⟩
 unfold nrm;rw[dif_pos h];exact EF h
theorem Ky{a b c x:R3}(hp:P4 p)(z:Aq a b c%p≠0)(hx:NF p x):NF p (nrm p (ap a b c x))/\Pr p (nrm p (ap a b c x)) (ap a b c x):=by
 obtain⟨l,el⟩:=tG hp z hx.2 CgR.rfl;exact Uy hp el
theorem Oc{x:R3}(hp:P4 p)(hx:NF p x)(hy:NF p y)(h:Pr p x y):x=y:=Vo hp hx.1 hy.1 hx.2 hy.2 h
theorem iK{a b c x:R3}(hp:P4 p)(z:Aq a b c%p≠0)(hx:NF p x):nrm p (ap (bk0 a b c) (bk1 a b c) (bk2 a b c) (nrm p (ap a b c x)))=x:=by
 obtain⟨h1,h2⟩:=Ky hp z hx;have zB:Aq (bk0 a b c) (bk1 a b c) (bk2 a b c)%p≠0:=by rw[Ri];exact Dc hp z z
 obtain⟨h3,h4⟩:=Ky hp zB h1;refine Oc hp h3 hx (h4.trans hp ((Pr.ap h2).trans hp ?_));rw[X4];exact⟨_,z,CgR.rfl⟩
theorem iJ{a b c x:R3}(hp:P4 p)(z:Aq a b c%p≠0)(hx:NF p x):nrm p (ap a b c (nrm p (ap (bk0 a b c) (bk1 a b c) (bk2 a b c) x)))=x:=by
 have zB:Aq (bk0 a b c) (bk1 a b c) (bk2 a b c)%p≠0:=by rw[Ri];exact Dc hp z z
 obtain⟨h1,h2⟩:=Ky hp zB hx;obtain⟨h3,h4⟩:=Ky hp z h1;refine Oc hp h3 hx (h4.trans hp ((Pr.ap h2).trans hp ?_));rw[Wk];exact⟨_,z,CgR.rfl⟩
theorem qP{a b c:R3}(hp:P4 p)(z:Aq a b c%p≠0)(Q:R3->Ai):((GE p).filter λx=>Q (nrm p (ap a b c x))).length=((GE p).filter Q).length:=by
 have zB:Aq (bk0 a b c) (bk1 a b c) (bk2 a b c)%p≠0:=by rw[Ri];exact Dc hp z z
 exact qQ (iH hp) (λx=>nrm p (ap a b c x)) (λx=>nrm p (ap (bk0 a b c) (bk1 a b c) (bk2 a b c) x)) (λx hx=>(HR hp).mpr (Ky hp z ((HR hp).mp hx)).1) (λx hx=>(HR hp).mpr (Ky hp zB ((HR hp).mp hx)).1) (λx hx=>iK hp z ((HR hp).mp hx)) (λx hx=>iJ hp z ((HR hp).mp hx)) Q
noncomputable def Jp(p:Af):Af:=if p=7 then 3 else 2
noncomputable def q4(w:Ag)(k:Af)(y:R3):Af:=match w with
  |0=>y.1*y.2.2-y.2.1*y.2.1
  |1=>y.1*y.1
  |2=>y.1*y.2.1
  |_=>y.1*y.1-k*(y.2.1*y.2.1)
noncomputable def E4(w:Ag)(k:Af)(a b c:R3):C6:=match w with
  |0=>Mc (prd a c) (prd b b)
  |1=>prd a a
  |2=>prd a b
  |_=>Mc (prd a a) (scC k (prd b b))
def W4(w:Ag):Prop:=w=0\/w=1\/w=2\/w=3
theorem Jb(u v x:R3):vI (prd u v) x=AS u x*AS v x:=by
 unfold vI prd AS;simp only;grind
theorem WM(A B:C6)(x:R3):vI (Mc A B) x=vI A x-vI B x:=by
 unfold vI Mc;simp only;grind
theorem LJ(k:Af)(A:C6)(x:R3):vI (scC k A) x=k*vI A x:=by
 unfold vI scC;simp only;grind
theorem Su(hw:W4 w)(k:Af)(a b c x:R3):vI (E4 w k a b c) x=q4 w k (ap a b c x):=by
 rcases hw with rfl|rfl|rfl|rfl
 .show vI (Mc _ _) x=AS a x*AS c x-AS b x*AS b x;rw[WM,Jb,Jb]
 .show vI (prd _ _) x=AS a x*AS a x;rw[Jb]
 .show vI (prd _ _) x=AS a x*AS b x;rw[Jb]
 .show vI (Mc _ _) x=AS a x*AS a x-k*(AS b x*AS b x);rw[WM,LJ,Jb,Jb]
theorem Xq(hw:W4 w)(k d:Af)(y:R3):q4 w k (B0 d y)=d*d*q4 w k y:=by
 rcases hw with rfl|rfl|rfl|rfl<;>(unfold q4 B0;simp only;grind)
theorem dm(hw:W4 w)(h:CgR p y y'):Cg p (q4 w k y) (q4 w k y'):=by
 rcases hw with rfl|rfl|rfl|rfl
 .exact(h.1.mul h.2.2).sub (h.2.1.mul h.2.1)
 .exact h.1.mul h.1
 .exact h.1.mul h.2.1
 .exact(h.1.mul h.1).sub (Cg.rfl.mul (h.2.1.mul h.2.1))
theorem di(hw:W4 w)(hp:P4 p)(h:Pr p y y'):(q4 w k y%p=0)↔(q4 w k y'%p=0):=by
 obtain⟨d,dz,e⟩:=h;have q:=(dm (k:=k) hw e).trans (Cg.of (Xq hw k d y'));rw[show q4 w k y%p=_ from q]
 exact FI hp (Dc hp dz dz)
theorem zC(hw:W4 w){a b c x:R3}(hp:P4 p)(z:Aq a b c%p≠0)(h:PrC p C (E4 w k a b c))(hx:NF p x):(vI C x%p=0)↔(q4 w k (nrm p (ap a b c x))%p=0):=by
 rw[di hw hp (Ky hp z hx).2,<-Su hw];obtain⟨d,dz,e⟩:=h;have q:=(Iw e CgR.rfl (x:=x)).trans (Cg.of (LJ d _ x));rw[show vI C x%p=_ from q]
 exact FI hp dz
noncomputable def Sr(p:Af)(w:Ag):Ag:=match w with
  |0=>(p+1).toNat
  |1=>(p+1).toNat
  |2=>(2*p+1).toNat
  |_=>1
theorem dI(hp:P4 p)(hw:W4 w):((GE p).filter λy=>decide (q4 w (Jp p) y%p=0)).length=Sr p w:=by
 rcases hp with rfl|rfl|rfl|rfl<;>rcases hw with rfl|rfl|rfl|rfl<;>decide+kernel
noncomputable def Mg(p:Af)(C:C6):Ac R3:=(GE p).filter λx=>decide (vI C x%p=0)
theorem pK(hw:W4 w){a b c:R3}(hp:P4 p)(z:Aq a b c%p≠0)(h:PrC p C (E4 w (Jp p) a b c)):(Mg p C).length=Sr p w:=by
 rw[<-dI hp hw,<-qP hp z];unfold Mg
 congr 1
 refine List.filter_congr λx hx=>?_
 rw[decide_eq_decide];exact zC hw hp z h ((HR hp).mp hx)
theorem oY(hw:W4 w){a b c:R3}(hp:P4 p)(z:Aq a b c%p≠0):∃ l,A4 p (E4 w k a b c).l=Aa l:=by
 cases el:A4 p (E4 w k a b c).l with
 |some l=>exact⟨l,rfl⟩
 |none=>
  have hz:=Ko.mp el;have kk:∀ x∈(E4 w k a b c).l,Cg p x (0*x):=λx hx=>by show x%p=0*x%p;rw[hz x hx,DP,Bk]
  have e0:CgC p (E4 w k a b c) (scC 0 (E4 w k a b c)):=⟨kk _ (by simp[C6.l]),kk _ (by simp[C6.l]),kk _ (by simp[C6.l]),kk _ (by simp[C6.l]),kk _ (by simp[C6.l]),kk _ (by simp[C6.l])⟩
  have zero:∀ x:R3,vI (E4 w k a b c) x%p=0:=λx=>by
   rw[show vI (E4 w k a b c) x%p=_ from Iw e0 CgR.rfl,LJ,DP,Bk]
  obtain⟨y,hy⟩:∃ y:R3,q4 w k y=1:=by
   rcases hw with rfl|rfl|rfl|rfl
   .exact⟨(1,0,1),rfl⟩
   .exact⟨(1,0,0),rfl⟩
   .exact⟨(1,1,0),rfl⟩
   .exact⟨(1,0,0),by unfold q4;simp⟩
  have:=zero (ap (bk0 a b c) (bk1 a b c) (bk2 a b c) y);rw[Su hw,Wk,Xq hw,hy,DO]at this;exact absurd this (Dc hp z z)
noncomputable def A7(pts:Ac R3):D:=.lst (pts.map (At Ab))
theorem Uw{g:D->R Ai}{f:D->R D}{q:R3->Ai}:∀(xs:Ac R3),(∀ x∈xs,g (At Ab x)=.ok (q x)/\f (At Ab x)=.ok (At Ab x))->BD g f (xs.map (At Ab))=.ok ((xs.filter q).map (At Ab))
 |[],_=>rfl
 |x::xs,h=>by
  obtain⟨h1,h2⟩:=h x (Ay ..);have ih:=Uw xs λy hy=>h y (Aw _ hy)
  show (g (At Ab x)).bind _=_;rw[h1,R.bind_ok,Eb];cases hq:q x with
  |true=>
   rw[Ax rfl,Ax rfl,h2,R.bind_ok,show BD g f (Mq (At Ab) xs)=_ from ih]
   rfl
  |false=>
   rw[AC (by decide),AC (by decide)]
   exact ih
def XS(Z:Gam):Prop:=∀(p n:Af),P4 p->0<=n->n<p*p+p+1->Z.F 157 [.int p,.int n]=.ok (At Ab (ptI p n))
theorem cz(Z:Gam)(p n:Af)(hp:P4 p)(h0:0<=n)(h1:n<p*p+p+1):IY.run Z [.int p,.int n]=.ok (At Ab (ptI p n)):=by
 have pp:D4 p p=Ab:=IZ (by have:=hp.lo;omega) (by have:=hp.hi;omega)
 have p0:=hp.pos;have ph:=hp.hi;have N0:0<p*p+p+1:=by have:=Ik p0 p0;omega
 have hr:n%(p*p+p+1)=n:=AT h0 h1;have pb:p<1073741824:=by omega
 unfold ptI;by_cases z0:n=0
 .rw[Ax z0];simp[IY,Df.run,By,pp,N0,hr,z0];rfl
 .rw[AC z0];by_cases z1:n<=p
  .rw[Ax z1];simp[IY,Df.run,By,pp,N0,hr,z0,z1];rfl
  .rw[AC z1];simp[IY,Df.run,By,pp,N0,hr,z0,z1,p0,pb];rfl
noncomputable def Mw:E:=(.call 157 (.cons (.var 0) (.cons (.var 1) .nil)))
noncomputable def Nx:Df:=⟨2,Ad,(.cons (.ret (.comp Mw 1 (.rng (.bin .Add (.bin .Add (.bin .Mult (.var 0) (.var 0)) (.var 0)) (.int 1))) Cr)) .nil)⟩
def XX(Z:Gam):Prop:=∀ p:Af,P4 p->Z.F 164 [.int p]=.ok (A7 (GE p))
theorem d9(h:XS Z)(p:Af)(hp:P4 p):Nx.run Z [.int p]=.ok (A7 (GE p)):=by
 have pp:D4 p p=Ab:=IZ (by have:=hp.lo;omega) (by have:=hp.hi;omega)
 have N1:0<=p*p+p+1/\p*p+p+1<=1000:=by rcases hp with rfl|rfl|rfl|rfl<;>decide
 have rg:CT 0 (p*p+p+1)=.ok (Cb 0 (p*p+p+1-0).toNat):=TQ (by decide) (by decide) (by omega) (by omega)
 rw[Yo]at rg;have cp:BD (cG Z [si p,Ae] 1 Cr) (cF Z [si p,Ae] 1 Mw) (Cb 0 (p*p+p+1).toNat)=.ok ((GE p).map (At Ab)):=by
  have key:∀ L:Ac Ag,(∀ k∈L,(k:Af)<p*p+p+1)->BD (cG Z [si p,Ae] 1 Cr) (cF Z [si p,Ae] 1 Mw) (L.map fun(k:Ag)=>D.int (0+(k:Af)))=.ok ((L.map fun(n:Ag)=>ptI p n).map (At Ab)):=λL=>by
   induction L with
   |nil=>intro _;rfl
   |cons k L ih=>
    intro hL;have e:=h p k hp (by omega) (hL k Ay)
    have f:cF Z [si p,Ae] 1 Mw (.int (0+(k:Af)))=.ok (At Ab (ptI p k)):=by
     rw[FA];simp[cF,Mw,e]
    have ih':=ih λm hm=>hL m (Aw _ hm)
    show (R.ok Ab).bind _=_;rw[R.bind_ok,Ax rfl,f,R.bind_ok,show BD _ _ (Mq _ L)=_ from ih']
    rfl
  exact key _ λk hk=>by have:=Bp.mp hk;omega
 generalize hN:p*p+p+1=N at *;generalize Cb 0 N.toNat=RL at *;have e1:p*p+p+1=N:=hN;simp[Nx,Df.run,By,pp,e1,rg,cp];rfl
def bZ(Z:Gam):Prop:=∀(p:Af)(a b c:R3)(w:Ag),GoodR p a b c->W4 w->∃ C:C6,InC p C/\A4 p C.l=Aa 1/\PrC p C (E4 w (Jp p) a b c)/\Z.F 163 [.int p,KN a b c,.int w]=.ok (Cp C)
theorem od4(Z:Gam)(RR ra rb rc:D)(s6:Sl)(hp:P4 p):evE Z [si p,sh RR,si 3,sh ra,sh rb,sh rc,s6,Ae,Ae,Ae,Ae,Ae,Ae,Ae] (.bi .min (.cons (.comp To 8 (.rng2 (.int 2) (.var 0)) Tl) .nil))=.ok (.int (Jp p)):=by
 rcases hp with rfl|rfl|rfl|rfl<;>kernel_rfl!
theorem WG{Z:Gam}{s0 s1 s2 s3 s4 s5 s6 s7 s8 s9 s10 s11:Sl}:∀ xs ys:Ac Af,BD (cGT Z [s0,s1,s2,s3,s4,s5,s6,s7,s8,s9,s10,s11,Ae,Ae] [12,13] Cr) (cFT Z [s0,s1,s2,s3,s4,s5,s6,s7,s8,s9,s10,s11,Ae,Ae] [12,13] Tn) (D5 (ds xs) (ds ys))=.ok (ds (Ec (λx y=>x-y) xs ys))
 |[],_=>rfl
 |_::_,[]=>rfl
 |x::xs,y::ys=>by
  have ih:=WG (Z:=Z) (s0:=s0) (s1:=s1) (s2:=s2) (s3:=s3) (s4:=s4) (s5:=s5) (s6:=s6) (s7:=s7) (s8:=s8) (s9:=s9) (s10:=s10) (s11:=s11) xs ys;show BD _ _ (.tup [.int x,.int y]::D5 (ds xs) (ds ys))=.ok (.int (x-y)::ds (Ec (λx y=>x-y) xs ys))
  rw[BD,ih];rfl
theorem VV{Z:Gam}{o:Af}{s0 s1 s2 s3 s4 s5 s6 s8 s9:Sl}(ob:∀ y,D4 o y=Ab):∀ xs ys:Ac Af,BD (cGT Z [s0,s1,s2,s3,s4,s5,s6,si o,s8,s9,Ae,Ae,Ae,Ae] [10,11] Cr) (cFT Z [s0,s1,s2,s3,s4,s5,s6,si o,s8,s9,Ae,Ae,Ae,Ae] [10,11] Nu) (D5 (ds xs) (ds ys))=.ok (ds (Ec (λx y=>x-o*y) xs ys))
 |[],_=>rfl
 |_::_,[]=>rfl
 |x::xs,y::ys=>by
  have ih:=VV (Z:=Z) (s0:=s0) (s1:=s1) (s2:=s2) (s3:=s3) (s4:=s4) (s5:=s5) (s6:=s6) (s8:=s8) (s9:=s9) ob xs ys;have f:cFT Z [s0,s1,s2,s3,s4,s5,s6,si o,s8,s9,Ae,Ae,Ae,Ae] [10,11] Nu (.tup [.int x,.int y])=.ok (.int (x-o*y)):=by
   simp[cFT,Nu,ob]
  show BD _ _ (.tup [.int x,.int y]::D5 (ds xs) (ds ys))=.ok (.int (x-o*y)::ds (Ec (λx y=>x-o*y) xs ys))
  rw[BD,ih,f];rfl
theorem d8(hf:QV Z)(hd:xF Z)(p:Af)(a b c:R3)(w:Ag)(g:GoodR p a b c)(hw:W4 w):∃ C:C6,InC p C/\A4 p C.l=Aa 1/\PrC p C (E4 w (Jp p) a b c)/\Le.run Z [.int p,KN a b c,.int w]=.ok (Cp C):=by
 have hp:=g.p4;obtain⟨l,el⟩:=oY hw (k:=Jp p) hp g.nz;obtain⟨t,C,it,eD,iC,lC,pC⟩:=RT hp el;have e3:=hf p Ad _ l t hp el it;rw[eD]at e3;refine⟨C,iC,lC,pC,?_⟩
 clear pC lC iC eD it el
 have eaa:=hd p a a hp g.ia g.ia;have eab:=hd p a b hp g.ia g.ib;have eac:=hd p a c hp g.ia g.ic;have ebb:=hd p b b hp g.ib g.ib;have as:∀ U:Rho,Hj [3,4,5] (KN a b c) U=.ok (((U.set 3 (sh (Bs a))).set 4 (sh (Bs b))).set 5 (sh (Bs c))):=λ_=>rfl
 rcases hw with rfl|rfl|rfl|rfl
 .have e3':Z.F 158 [.int p,.lst (ds (Ec (λx y=>x-y) (prd a c).l (prd b b).l))]=.ok (Cp C):=e3
  have e1':Z.F 160 [Bs a,Bs c]=.ok (.lst (ds (prd a c).l)):=eac;have e2':Z.F 160 [Bs b,Bs b]=.ok (.lst (ds (prd b b).l)):=ebb;have cp:=fun(s0 s1 s2 s3 s4 s5 s6 s7 s8 s9 s10 s11:Sl)=>WG (Z:=Z) (s0:=s0) (s1:=s1) (s2:=s2) (s3:=s3) (s4:=s4) (s5:=s5) (s6:=s6) (s7:=s7) (s8:=s8) (s9:=s9) (s10:=s10) (s11:=s11) (prd a c).l (prd b b).l
  generalize ds (Ec (λx y=>x-y) (prd a c).l (prd b b).l)=LC at *
  generalize ds (prd a c).l=LA at *;generalize ds (prd b b).l=LB at *;generalize Bs a=ra at *;generalize Bs b=rb at *;generalize Bs c=rc at *;generalize KN a b c=RR at *;simp[Le,Df.run,By,as,e1',e2',cp,e3']
 .have e3':Z.F 158 [.int p,.lst (ds (prd a a).l)]=.ok (Cp C):=e3;generalize D.lst (ds (prd a a).l)=A at *;simp[Le,Df.run,By,as,eaa,e3']
 .have e3':Z.F 158 [.int p,.lst (ds (prd a b).l)]=.ok (Cp C):=e3;generalize D.lst (ds (prd a b).l)=A at *;simp[Le,Df.run,By,as,eab,e3']
 .have ob:∀ y,D4 (Jp p) y=Ab:=λy=>by rcases hp with rfl|rfl|rfl|rfl<;>exact IZ (by decide) (by decide)
  have e3':Z.F 158 [.int p,.lst (ds (Ec (λx y=>x-Jp p*y) (prd a a).l (prd b b).l))]=.ok (Cp C):=e3
  have e1':Z.F 160 [Bs a,Bs a]=.ok (.lst (ds (prd a a).l)):=eaa;have e2':Z.F 160 [Bs b,Bs b]=.ok (.lst (ds (prd b b).l)):=ebb;have od:=fun(RR ra rb rc:D)(s6:Sl)=>od4 Z RR ra rb rc s6 hp
  have cp:=fun(s0 s1 s2 s3 s4 s5 s6 s8 s9:Sl)=>VV (Z:=Z) (s0:=s0) (s1:=s1) (s2:=s2) (s3:=s3) (s4:=s4) (s5:=s5) (s6:=s6) (s8:=s8) (s9:=s9) ob (prd a a).l (prd b b).l
  generalize Jp p=o at *;generalize ds (Ec (λx y=>x-o*y) (prd a a).l (prd b b).l)=LC at *
  generalize ds (prd a a).l=LA at *;generalize ds (prd b b).l=LB at *;generalize Bs a=ra at *;generalize Bs b=rb at *;generalize Bs c=rc at *;generalize KN a b c=RR at *;simp[-Rl,Le,Df.run,By,as,e1',e2',od,cp,e3']
noncomputable def lc2(a:Af)(A:C6)(b:Af)(B:C6):C6:=⟨a*A.c0+b*B.c0,a*A.c1+b*B.c1,a*A.c2+b*B.c2,a*A.c3+b*B.c3,a*A.c4+b*B.c4,a*A.c5+b*B.c5⟩
noncomputable def l3(a:Af)(A:C6)(b:Af)(B:C6)(c:Af)(G:C6):C6:=⟨a*A.c0+b*B.c0+c*G.c0,a*A.c1+b*B.c1+c*G.c1,a*A.c2+b*B.c2+c*G.c2,a*A.c3+b*B.c3+c*G.c3,a*A.c4+b*B.c4+c*G.c4,a*A.c5+b*B.c5+c*G.c5⟩
section
variable{p:Af}{x y z w:R3}{Q A B G L M:C6}
theorem GR(hp:P4 p)(hx:NF p x)(hy:NF p y)(ne:x≠y):¬ CgR p (crs x y) (0,0,0):=λh=>ne (Oc hp hx hy (Pr.symm hp (Vd hp h hx.2 hy.2)))
theorem qK(x y z:R3):bk0 (x.1,y.1,z.1) (x.2.1,y.2.1,z.2.1) (x.2.2,y.2.2,z.2.2)=crs y z/\bk1 (x.1,y.1,z.1) (x.2.1,y.2.1,z.2.1) (x.2.2,y.2.2,z.2.2)=crs z x/\bk2 (x.1,y.1,z.1) (x.2.1,y.2.1,z.2.1) (x.2.2,y.2.2,z.2.2)=crs x y:=by
 refine⟨?_,?_,?_⟩<;>simp only[bk0,bk1,bk2,E1,EZ,EY,crs]<;>refine BF ?_ (BF ?_ ?_)<;>simp only<;>grind
theorem kF(x y z:R3):Aq (x.1,y.1,z.1) (x.2.1,y.2.1,z.2.1) (x.2.2,y.2.2,z.2.2)=Aq x y z:=by
 unfold Aq det;simp only;grind
theorem lJ(b0 b1 b2:Af)(r0 r1 r2:R3):pb ⟨0,0,0,b0,b1,b2⟩ r0 r1 r2=l3 b0 (prd r0 r1) b1 (prd r0 r2) b2 (prd r1 r2):=by
 simp only[pb,l3,prd,vI,bI,AS,ap,tw0,tw1,tw2,E1,EZ,EY]
 congr 1<;>grind
theorem gU(hx:vI Q x%p=0)(hy:vI Q y%p=0)(hz:vI Q z%p=0):CgC p (scC (Aq x y z*Aq x y z) Q) (l3 (bI Q x y) (prd (crs y z) (crs z x)) (bI Q x z) (prd (crs y z) (crs x y)) (bI Q y z) (prd (crs z x) (crs x y))):=by
 obtain⟨e0,e1,e2⟩:=tV (x.1,y.1,z.1) (x.2.1,y.2.1,z.2.1) (x.2.2,y.2.2,z.2.2);have h:=fq Q (x.1,y.1,z.1) (x.2.1,y.2.1,z.2.1) (x.2.2,y.2.2,z.2.2) (bk0 (x.1,y.1,z.1) (x.2.1,y.2.1,z.2.1) (x.2.2,y.2.2,z.2.2)) (bk1 (x.1,y.1,z.1) (x.2.1,y.2.1,z.2.1) (x.2.2,y.2.2,z.2.2)) (bk2 (x.1,y.1,z.1) (x.2.1,y.2.1,z.2.1) (x.2.2,y.2.2,z.2.2));rw[e0,e1,e2,fu,kF]at h;obtain⟨f0,f1,f2⟩:=qK x y z;rw[f0,f1,f2]at h;rw[<-h,<-lJ];refine XJ ?_ ⟨Cg.rfl,Cg.rfl,Cg.rfl⟩ ⟨Cg.rfl,Cg.rfl,Cg.rfl⟩ ⟨Cg.rfl,Cg.rfl,Cg.rfl⟩;have k:∀{n:Af},n%p=0->Cg p n 0:=λ{n} h=>by show n%p=0%p;rw[h,Bk]
 exact⟨k hx,k hy,k hz,Cg.rfl,Cg.rfl,Cg.rfl⟩
theorem cE(x y z w:R3):B0 (Aq x y z) w=(Aq w y z*x.1+Aq x w z*y.1+Aq x y w*z.1,Aq w y z*x.2.1+Aq x w z*y.2.1+Aq x y w*z.2.1,Aq w y z*x.2.2+Aq x w z*y.2.2+Aq x y w*z.2.2):=by
 unfold B0 Aq det;refine BF ?_ (BF ?_ ?_)<;>simp only<;>grind
theorem Xh(x y z w:R3):B0 (Aq x y z) (crs z w)=(Aq w y z*(crs z x).1-Aq x w z*(crs y z).1,Aq w y z*(crs z x).2.1-Aq x w z*(crs y z).2.1,Aq w y z*(crs z x).2.2-Aq x w z*(crs y z).2.2):=by
 unfold B0 Aq det crs;refine BF ?_ (BF ?_ ?_)<;>simp only<;>grind
theorem Xk(x y z w:R3):B0 (Aq x y z) (crs y w)=(Aq x y w*(crs y z).1-Aq w y z*(crs x y).1,Aq x y w*(crs y z).2.1-Aq w y z*(crs x y).2.1,Aq x y w*(crs y z).2.2-Aq w y z*(crs x y).2.2):=by
 unfold B0 Aq det crs;refine BF ?_ (BF ?_ ?_)<;>simp only<;>grind
theorem yX(x y z w:R3):B0 (Aq x y z) (crs x w)=(Aq x w z*(crs x y).1-Aq x y w*(crs z x).1,Aq x w z*(crs x y).2.1-Aq x y w*(crs z x).2.1,Aq x w z*(crs x y).2.2-Aq x y w*(crs z x).2.2):=by
 unfold B0 Aq det crs;refine BF ?_ (BF ?_ ?_)<;>simp only<;>grind
theorem cT(x y z w:R3):scC (Aq x y z) (prd (crs x y) (crs z w))=lc2 (Aq w y z) (prd (crs z x) (crs x y)) (-Aq x w z) (prd (crs y z) (crs x y)):=by
 have e:=Xh x y z w;unfold B0 at e;simp only[Hf]at e;obtain⟨e0,e1,e2⟩:=e;generalize Aq x y z=d at *;generalize Aq w y z=u0 at *;generalize Aq x w z=u1 at *;generalize crs z w=c at *;generalize crs x y=r2 at *;generalize crs y z=r0 at *;generalize crs z x=r1 at *;simp only[scC,lc2,prd]
 congr 1<;>grind
theorem cR(x y z w:R3):scC (Aq x y z) (prd (crs x z) (crs y w))=lc2 (Aq w y z) (prd (crs z x) (crs x y)) (-Aq x y w) (prd (crs y z) (crs z x)):=by
 have e:=Xk x y z w;have f:crs x z=B0 (-1) (crs z x):=by
  unfold B0 crs;refine BF ?_ (BF ?_ ?_)<;>simp only<;>grind
 rw[f];unfold B0 at e ⊢;simp only[Hf]at e;obtain⟨e0,e1,e2⟩:=e;generalize Aq x y z=d at *;generalize Aq w y z=u0 at *;generalize Aq x y w=u2 at *;generalize crs y w=c at *;generalize crs x y=r2 at *;generalize crs y z=r0 at *;generalize crs z x=r1 at *;simp only[scC,lc2,prd]
 congr 1<;>grind
theorem z0{n:Af}(h:n%p=0):Cg p n 0:=by show n%p=0%p;rw[h,Bk]
theorem z0'{n:Af}(h:Cg p n 0):n%p=0:=by
 have:n%p=0%p:=h;rw[this,Bk]
theorem eC(hx:vI Q x%p=0)(hy:vI Q y%p=0)(hz:vI Q z%p=0)(hw:vI Q w%p=0):Cg p (Aq w y z*Aq x w z*bI Q x y+Aq w y z*Aq x y w*bI Q x z+Aq x w z*Aq x y w*bI Q y z) 0:=by
 have e:=WL Q x y z (Aq w y z) (Aq x w z) (Aq x y w);rw[<-cE]at e;have f:vI Q (B0 (Aq x y z) w)=Aq x y z*Aq x y z*vI Q w:=by
  unfold vI B0;simp only;grind
 rw[f]at e;have h1:Cg p (Aq x y z*Aq x y z*vI Q w) 0:=(Cg.mul Cg.rfl (z0 hw)).trans (Cg.of (C4 _));rw[e]at h1;have k:∀{a n:Af},n%p=0->Cg p (a*a*n) 0:=λh=>(Cg.mul Cg.rfl (z0 h)).trans (Cg.of (C4 _))
 have h2:=h1.sub (((k (a:=Aq w y z) hx).add (k (a:=Aq x w z) hy)).add (k (a:=Aq x y w) hz));refine(Cg.of ?_).trans (h2.trans (Cg.of (by rfl)))
 generalize vI Q x=q0;generalize vI Q y=q1;generalize vI Q z=q2;generalize bI Q x y=b0;generalize bI Q x z=b1;generalize bI Q y z=b2;generalize Aq w y z=u0;generalize Aq x w z=u1;generalize Aq x y w=u2;grind
def Spn(p:Af)(Q L M:C6):Prop:=∃ g a b,g%p≠0/\CgC p (scC g Q) (lc2 a L b M)
section
variable{d u0 u1 u2 b0 b1 b2 q A B G l m:Af}
theorem Mf(h:Cg p (d*d*q) (b0*A+b1*B+b2*G))(r:Cg p (u0*u1*b0+u0*u2*b1+u1*u2*b2) 0)(hl:d*l=u0*G + -u1*B)(hm:d*m=u0*G + -u2*A):Cg p (u1*u2*(d*d)*q) (-(u2*b1*d)*l + -(u1*b0*d)*m):=by
 have h1:=(Cg.rfl (p:=p) (a:=u1*u2)).mul h;have h2:=(Cg.rfl (p:=p) (a:=G)).mul r;have h3:=h1.sub h2.symm;refine(Cg.of (by clear h r h1 h2 h3 hl hm;grind)).trans (h3.trans (Cg.of ?_))
 clear h r h1 h2 h3
 have e1:-(u2*b1*d)*l=-(u2*b1)*(d*l):=by grind
 have e2:-(u1*b0*d)*m=-(u1*b0)*(d*m):=by grind
 rw[e1,e2,hl,hm];grind
theorem Me(h:Cg p (d*d*q) (b0*A+b1*B+b2*G))(h1:Cg p u1 0)(hb:Cg p b1 0)(hl:d*l=u0*G + -u1*B)(hm:d*m=u0*G + -u2*A):Cg p (u0*u2*(d*d)*q) ((u0*b0+u2*b2)*d*l + -(u0*b0*d)*m):=by
 have e1:=(Cg.rfl (p:=p) (a:=u0*u2)).mul h;have e2:=(Cg.rfl (p:=p) (a:=u0*u2*B)).mul hb;have e3:=(Cg.rfl (p:=p) (a:=(u0*b0+u2*b2)*B)).mul h1;have e4:=(e1.sub e2.symm).sub e3.symm;refine(Cg.of (by clear h e1 e2 e3 e4 hl hm;grind)).trans (e4.trans (Cg.of ?_))
 clear h e1 e2 e3 e4
 have f1:(u0*b0+u2*b2)*d*l=(u0*b0+u2*b2)*(d*l):=by grind
 have f2:-(u0*b0*d)*m=-(u0*b0)*(d*m):=by grind
 rw[f1,f2,hl,hm];grind
theorem Md(h:Cg p (d*d*q) (b0*A+b1*B+b2*G))(h2:Cg p u2 0)(hb:Cg p b0 0)(hl:d*l=u0*G + -u1*B)(hm:d*m=u0*G + -u2*A):Cg p (u0*u1*(d*d)*q) (-(u0*b1*d)*l+(u0*b1+u1*b2)*d*m):=by
 have e1:=(Cg.rfl (p:=p) (a:=u0*u1)).mul h;have e2:=(Cg.rfl (p:=p) (a:=u0*u1*A)).mul hb;have e3:=(Cg.rfl (p:=p) (a:=(u0*b1+u1*b2)*A)).mul h2;have e4:=(e1.sub e2.symm).sub e3.symm;refine(Cg.of (by clear h e1 e2 e3 e4 hl hm;grind)).trans (e4.trans (Cg.of ?_))
 clear h e1 e2 e3 e4
 have f1:-(u0*b1*d)*l=-(u0*b1)*(d*l):=by grind
 have f2:(u0*b1+u1*b2)*d*m=(u0*b1+u1*b2)*(d*m):=by grind
 rw[f1,f2,hl,hm];grind
end
theorem Hm{a b c d:Af}(ha:Cg p a 0)(hb:Cg p b 0):Cg p (a*c-b*d) 0:=((ha.mul Cg.rfl).sub (hb.mul Cg.rfl)).trans (Cg.of (by rw[DP,DP];rfl))
theorem Od(hp:P4 p){d:Af}(dz:d%p≠0)(h:CgR p (B0 d r) (0,0,0)):CgR p r (0,0,0):=⟨z0 ((FI hp dz).mp (z0' h.1)),z0 ((FI hp dz).mp (z0' h.2.1)),z0 ((FI hp dz).mp (z0' h.2.2))⟩
theorem Xs(hp:P4 p)(dz:Aq x y z%p≠0)(hx:vI Q x%p=0)(hy:vI Q y%p=0)(hz:vI Q z%p=0)(hw:vI Q w%p=0)(n0:¬ CgR p (crs x w) (0,0,0))(n1:¬ CgR p (crs y w) (0,0,0))(n2:¬ CgR p (crs z w) (0,0,0)):Spn p Q (prd (crs x y) (crs z w)) (prd (crs x z) (crs y w)):=by
 have t:=gU (Q:=Q) hx hy hz;have r:=eC (Q:=Q) hx hy hz hw;have eL:=cT x y z w;have eM:=cR x y z w;have m01:¬ (Cg p (Aq w y z) 0/\Cg p (Aq x w z) 0):=λ⟨a,b⟩=>n2 (Od hp dz (by rw[Xh];exact⟨Hm a b,Hm a b,Hm a b⟩))
 have m02:¬ (Cg p (Aq w y z) 0/\Cg p (Aq x y w) 0):=λ⟨a,b⟩=>n1 (Od hp dz (by rw[Xk];exact⟨Hm b a,Hm b a,Hm b a⟩))
 have m12:¬ (Cg p (Aq x w z) 0/\Cg p (Aq x y w) 0):=λ⟨a,b⟩=>n0 (Od hp dz (by rw[yX];exact⟨Hm a b,Hm a b,Hm a b⟩))
 generalize prd (crs x y) (crs z w)=L at *;generalize prd (crs x z) (crs y w)=M at *;generalize prd (crs z x) (crs x y)=G at *;generalize prd (crs y z) (crs x y)=B at *;generalize prd (crs y z) (crs z x)=A at *;generalize bI Q x y=b0 at *;generalize bI Q x z=b1 at *;generalize bI Q y z=b2 at *;generalize Aq x y z=d at *;generalize Aq w y z=u0 at *;generalize Aq x w z=u1 at *;generalize Aq x y w=u2 at *;obtain⟨t0,t1,t2,t3,t4,t5⟩:=t;simp only[scC,l3]at t0 t1 t2 t3 t4 t5;simp only[scC,lc2,C6.mk.injEq]at eL eM;obtain⟨l0,l1,l2,l3,l4,l5⟩:=eL;obtain⟨k0,k1,k2,k3,k4,k5⟩:=eM;have dd:=Dc hp dz dz;by_cases c1:Cg p u1 0
 .have v0:u0%p≠0:=λh=>m01 ⟨z0 h,c1⟩
  have v2:u2%p≠0:=λh=>m12 ⟨c1,z0 h⟩
  have hb:Cg p b1 0:=by
   have e:Cg p (u0*u2*b1) 0:=by
    have h1:=((c1.mul (Cg.rfl (a:=u0*b0))).add (c1.mul (Cg.rfl (a:=u2*b2))));exact(Cg.of (by clear r h1;grind)).trans ((r.sub h1).trans (Cg.of (by clear r h1;grind)))
   exact z0 ((FI hp (Dc hp v0 v2)).mp (z0' e))
  exact⟨u0*u2*(d*d),_,_,Dc hp (Dc hp v0 v2) dd,Me t0 c1 hb l0 k0,Me t1 c1 hb l1 k1,Me t2 c1 hb l2 k2,Me t3 c1 hb l3 k3,Me t4 c1 hb l4 k4,Me t5 c1 hb l5 k5⟩
 .have v1:u1%p≠0:=λh=>c1 (z0 h)
  by_cases c2:Cg p u2 0
  .have v0:u0%p≠0:=λh=>m02 ⟨z0 h,c2⟩
   have hb:Cg p b0 0:=by
    have e:Cg p (u0*u1*b0) 0:=by
     have h1:=((c2.mul (Cg.rfl (a:=u0*b1))).add (c2.mul (Cg.rfl (a:=u1*b2))));exact(Cg.of (by clear r h1;grind)).trans ((r.sub h1).trans (Cg.of (by clear r h1;grind)))
    exact z0 ((FI hp (Dc hp v0 v1)).mp (z0' e))
   exact⟨u0*u1*(d*d),_,_,Dc hp (Dc hp v0 v1) dd,Md t0 c2 hb l0 k0,Md t1 c2 hb l1 k1,Md t2 c2 hb l2 k2,Md t3 c2 hb l3 k3,Md t4 c2 hb l4 k4,Md t5 c2 hb l5 k5⟩
  .have v2:u2%p≠0:=λh=>c2 (z0 h)
   exact⟨u1*u2*(d*d),_,_,Dc hp (Dc hp v1 v2) dd,Mf t0 r l0 k0,Mf t1 r l1 k1,Mf t2 r l2 k2,Mf t3 r l3 k3,Mf t4 r l4 k4,Mf t5 r l5 k5⟩
theorem yP(hp:P4 p)(hd:Aq x y z%p≠0\/Aq x y w%p≠0)(hx:vI Q x%p=0)(hy:vI Q y%p=0)(hz:vI Q z%p=0)(hw:vI Q w%p=0)(ax:NF p x)(ay:NF p y)(az:NF p z)(aw:NF p w)(xz:x≠z)(yz:y≠z)(zw:z≠w)(xw:x≠w)(yw:y≠w):Spn p Q (prd (crs x y) (crs z w)) (prd (crs x z) (crs y w)):=by
 rcases hd with hd|hd
 .exact Xs hp hd hx hy hz hw (GR hp ax aw xw) (GR hp ay aw yw) (GR hp az aw zw)
 .have hd':Aq y x w%p≠0:=by
   have e:Aq y x w=-1*Aq x y w:=by unfold Aq det;grind
   rw[e];exact Dc hp hp.m1 hd
  have q:=Xs hp hd' hy hx hw hz (GR hp ay az yz) (GR hp ax az xz) (GR hp aw az zw.symm);have e1:prd (crs y x) (crs w z)=prd (crs x y) (crs z w):=by
   unfold prd crs;congr 1<;>grind
  have e2:prd (crs y w) (crs x z)=prd (crs x z) (crs y w):=by
   unfold prd;congr 1<;>grind
  rw[e1,e2]at q;exact q
theorem WN(a b:Af)(v:R3):vI (lc2 a L b M) v=a*vI L v+b*vI M v:=by
 unfold vI lc2;simp only;grind
theorem wC{a a' b b':Af}{L' M':C6}(ha:Cg p a a')(hL:CgC p L L')(hb:Cg p b b')(hM:CgC p M M'):CgC p (lc2 a L b M) (lc2 a' L' b' M'):=
 ⟨(ha.mul hL.1).add (hb.mul hM.1),(ha.mul hL.2.1).add (hb.mul hM.2.1),(ha.mul hL.2.2.1).add (hb.mul hM.2.2.1),(ha.mul hL.2.2.2.1).add (hb.mul hM.2.2.2.1),(ha.mul hL.2.2.2.2.1).add (hb.mul hM.2.2.2.2.1),(ha.mul hL.2.2.2.2.2).add (hb.mul hM.2.2.2.2.2)⟩
theorem Wu{l:Af}(hp:P4 p)(lQ:A4 p Q.l=Aa l)(h:CgC p Q ⟨0,0,0,0,0,0⟩):AV:=by
 have:A4 p Q.l=Ae:=Ko.mpr λn hn=>by
  simp only[C6.l,Av,AR,BO]at hn;obtain⟨h0,h1,h2,h3,h4,h5⟩:=h;rcases hn with rfl|rfl|rfl|rfl|rfl|rfl
  .exact z0' h0
  .exact z0' h1
  .exact z0' h2
  .exact z0' h3
  .exact z0' h4
  .exact z0' h5
 rw[this]at lQ;cases lQ
theorem Vv(hp:P4 p){d:Af}(dz:d%p≠0)(h:CgC p (scC d Q) ⟨0,0,0,0,0,0⟩):CgC p Q ⟨0,0,0,0,0,0⟩:=⟨z0 ((FI hp dz).mp (z0' h.1)),z0 ((FI hp dz).mp (z0' h.2.1)),z0 ((FI hp dz).mp (z0' h.2.2.1)),z0 ((FI hp dz).mp (z0' h.2.2.2.1)),z0 ((FI hp dz).mp (z0' h.2.2.2.2.1)),z0 ((FI hp dz).mp (z0' h.2.2.2.2.2))⟩
theorem tL(hp:P4 p){l k n:Af}{F:C6}(lQ:A4 p Q.l=Aa l)(kz:k%p≠0)(h:CgC p (scC k Q) (scC n F)):PrC p F Q:=by
 have nz:n%p≠0:=λz=>by
  refine Wu hp lQ (Vv hp kz (h.trans ?_));have q:∀ c:Af,Cg p (n*c) 0:=λc=>((z0 z).mul Cg.rfl).trans (Cg.of (DP c))
  exact⟨q _,q _,q _,q _,q _,q _⟩
 exact(PrC.symm hp ⟨n,nz,CgC.rfl⟩).trans hp (PrC.trans hp ⟨1,hp.o1,(h.symm).trans (CgC.of (N7 _).symm)⟩ ⟨k,kz,CgC.rfl⟩)
theorem rX(hp:P4 p){l:Af}{v:R3}(lQ:A4 p Q.l=Aa l)(s:Spn p Q L M)(hv:vI Q v%p=0)(n:¬ (vI L v%p=0/\vI M v%p=0)):PrC p (lc2 (vI M v) L (-vI L v) M) Q:=by
 obtain⟨g,a,b,gz,e⟩:=s;have e1:Cg p (a*vI L v+b*vI M v) 0:=by
  have q:=Iw (x:=v) (x':=v) e ⟨Cg.rfl,Cg.rfl,Cg.rfl⟩;rw[LJ,WN]at q;exact q.symm.trans ((Cg.mul Cg.rfl (z0 hv)).trans (Cg.of (C4 _)))
 generalize vI L v=L4 at *;generalize vI M v=M4 at *;have key:∀(k c:Af),k%p≠0->(∀ A B:Af,Cg p (k*(a*A+b*B)) (c*(M4*A + -L4*B)))->PrC p (lc2 M4 L (-L4) M) Q:=λk c kz h=>by
  refine tL hp (k:=k*g) (n:=c) lQ (Dc hp kz gz) ?_;have e':CgC p (scC (k*g) Q) (scC k (lc2 a L b M)):=by
   rw[<-Q3];exact CgC.sc Cg.rfl e
  exact e'.trans ⟨h _ _,h _ _,h _ _,h _ _,h _ _,h _ _⟩
 by_cases c:L4%p=0
 .have c':M4%p≠0:=λz=>n ⟨c,z⟩
  refine key M4 a c' λA B=>?_
  have h:=(Cg.rfl (p:=p) (a:=B)).mul e1;refine(Cg.of ?_).trans (((Cg.rfl (p:=p) (a:=a*(M4*A + -L4*B))).add h).trans (Cg.of ?_))
  .clear e e1 h key;grind
  .clear e e1 h key;grind
 .refine key L4 (-b) c λA B=>?_
  have h:=(Cg.rfl (p:=p) (a:=A)).mul e1;refine(Cg.of ?_).trans (((Cg.rfl (p:=p) (a:=-b*(M4*A + -L4*B))).add h).trans (Cg.of ?_))
  .clear e e1 h key;grind
  .clear e e1 h key;grind
end
noncomputable def Tq:Ss:=(.cons (.ife (.cmp .In (.var 2) (.sl (.var 0) .non (.var 1))) (.cons (.rais 107 (.cons (.var 2) .nil)) .nil) .nil) .nil)
--
noncomputable def NA:Df:=⟨3,Ad,(.cons (.forT [1,2] (.enm (.var 0)) Tq) .nil)⟩
--
noncomputable def NB:Ss:=(.cons (.asg 3 Ad (.bin .Add (.sl (.var 1) .non (.var 2)) (.sl (.var 1) (.bin .Add (.var 2) (.int 1)) .non))) (.cons (.ife (.and (.cons (.cmp .Eq (.call 61 (.cons (.var 0) (.cons (.idx (.var 3) (.int 0)) (.cons (.idx (.var 3) (.int 1)) (.cons (.idx (.var 3) (.int 2)) .nil))))) (.int 0)) (.cons (.cmp .Eq (.call 61 (.cons (.var 0) (.cons (.idx (.var 3) (.int 0)) (.cons (.idx (.var 3) (.int 1)) (.cons (.idx (.var 3) (.int 3)) .nil))))) (.int 0)) .nil))) (.cons (.ret (.bi .tuple (.cons (.var 3) .nil))) .nil) .nil) .nil))
--
noncomputable def Nz:Df:=⟨4,Ad,(.cons (.fors 2 (.e (.tup (.cons (.int 4) (.cons (.int 3) (.cons (.int 2) (.cons (.int 1) (.cons (.int 0) .nil))))))) NB) (.cons (.ret .non) .nil))⟩
--
noncomputable def Pc:Df:=⟨2,Ad,(.cons (.ret (.tup (.cons (.bin .Mult (.idx (.var 0) (.int 0)) (.idx (.var 1) (.int 0))) (.cons (.bin .Mult (.idx (.var 0) (.int 1)) (.idx (.var 1) (.int 1))) (.cons (.bin .Mult (.idx (.var 0) (.int 2)) (.idx (.var 1) (.int 2))) (.cons (.bin .Add (.bin .Mult (.idx (.var 0) (.int 0)) (.idx (.var 1) (.int 1))) (.bin .Mult (.idx (.var 0) (.int 1)) (.idx (.var 1) (.int 0)))) (.cons (.bin .Add (.bin .Mult (.idx (.var 0) (.int 0)) (.idx (.var 1) (.int 2))) (.bin .Mult (.idx (.var 0) (.int 2)) (.idx (.var 1) (.int 0)))) (.cons (.bin .Add (.bin .Mult (.idx (.var 0) (.int 1)) (.idx (.var 1) (.int 2))) (.bin .Mult (.idx (.var 0) (.int 2)) (.idx (.var 1) (.int 1)))) .nil)))))))) .nil)⟩
noncomputable def Pe:E:=(.bin .Sub (.bin .Mult (.var 4) (.var 6)) (.bin .Mult (.var 5) (.var 7)))
--
noncomputable def Ny:Df:=⟨8,Ad,(.cons (.asg 2 Ad (.call 196 (.cons (.call 57 (.cons (.var 0) (.cons (.idx (.var 1) (.int 0)) (.cons (.idx (.var 1) (.int 1)) .nil)))) (.cons (.call 57 (.cons (.var 0) (.cons (.idx (.var 1) (.int 2)) (.cons (.idx (.var 1) (.int 3)) .nil)))) .nil)))) (.cons (.asg 3 Ad (.call 196 (.cons (.call 57 (.cons (.var 0) (.cons (.idx (.var 1) (.int 0)) (.cons (.idx (.var 1) (.int 2)) .nil)))) (.cons (.call 57 (.cons (.var 0) (.cons (.idx (.var 1) (.int 1)) (.cons (.idx (.var 1) (.int 3)) .nil)))) .nil)))) (.cons (.asg 4 Ad (.call 126 (.cons (.var 0) (.cons (.var 3) (.cons (.idx (.var 1) (.int 4)) .nil))))) (.cons (.asg 5 Ad (.call 126 (.cons (.var 0) (.cons (.var 2) (.cons (.idx (.var 1) (.int 4)) .nil))))) (.cons (.ret (.call 122 (.cons (.var 0) (.cons (.compT Pe [6,7] (.zip (.var 2) (.var 3)) Cr) .nil)))) .nil)))))⟩
--
noncomputable def NC:Df:=⟨3,Ad,(.cons (.ife (.cmp .NotEq (.bi .len (.cons (.var 1) .nil)) (.int 5)) (.cons (.rais 13 (.cons (.str (AY "a curve is told by five points")) .nil)) .nil) .nil) (.cons (.expr (.call 194 (.cons (.var 1) .nil))) (.cons (.asg 2 Ad (.call 195 (.cons (.var 0) (.cons (.var 1) .nil)))) (.cons (.ife (.cmp .IsNot (.var 2) .non) (.cons (.rais 118 (.cons (.var 2) .nil)) .nil) .nil) (.cons (.ret (.call 197 (.cons (.var 0) (.cons (.var 1) .nil)))) .nil)))))⟩
section
variable{Z:Gam}{p:Af}{P0 P1 P2 P3 P4:D}
noncomputable def five(P0 P1 P2 P3 P4:D):D:=.lst [P0,P1,P2,P3,P4]
theorem uK(f0:flD 5 P0=Ab)(f1:flD 5 P1=Ab)(f2:flD 5 P2=Ab)(f3:flD 5 P3=Ab)(f4:flD 5 P4=Ab)(n01:eqD P0 P1=Ad)(n02:eqD P0 P2=Ad)(n03:eqD P0 P3=Ad)(n04:eqD P0 P4=Ad)(n12:eqD P1 P2=Ad)(n13:eqD P1 P3=Ad)(n14:eqD P1 P4=Ad)(n23:eqD P2 P3=Ad)(n24:eqD P2 P4=Ad)(n34:eqD P3 P4=Ad):NA.run Z [five P0 P1 P2 P3 P4]=.ok .non:=by
 simp[five,NA,Df.run,By,FY,CY,Jh,Tq,KR,IA,f0,f1,f2,f3,f4,n01,n02,n03,n04,n12,n13,n14,n23,n24,n34]
theorem MT{k a b:Af}{q0 q1 q2 q3:D}{u v:Ac D}{s2 s3:Sl}(c0:slD PP Ae (Aa k)=.ok (.lst u))(c1:slD PP (Aa (k+1)) Ae=.ok (.lst v))(ad:Dm .Add (.lst u) (.lst v)=.ok (.lst [q0,q1,q2,q3]))(e0:Z.F 61 [.int p,q0,q1,q2]=.ok (.int a))(e1:Z.F 61 [.int p,q0,q1,q3]=.ok (.int b))(h:¬ (a=0/\b=0)):BK Z 2 NB (.int k) [si p,sh PP,s2,s3]=.next [si p,sh PP,si k,sh (.lst [q0,q1,q2,q3])]:=by
 have i0:BA (.lst [q0,q1,q2,q3]) (.int 0)=.ok q0:=rfl;have i1:BA (.lst [q0,q1,q2,q3]) (.int 1)=.ok q1:=rfl;have i2:BA (.lst [q0,q1,q2,q3]) (.int 2)=.ok q2:=rfl;have i3:BA (.lst [q0,q1,q2,q3]) (.int 3)=.ok q3:=rfl;generalize D.lst [q0,q1,q2,q3]=FF at *;generalize D.lst u=U_ at *;generalize D.lst v=V at *;by_cases ha:a=0
 .have hb:b≠0:=λz=>h ⟨ha,z⟩
  simp[BK,NB,c0,c1,ad,i0,i1,i2,i3,e0,e1,ha,hb]
 .simp[BK,NB,c0,c1,ad,i0,i1,i2,i3,e0,e1,ha]
theorem eE{m012 m013 m014 m023 m024 m123 m124:Af}(e012:Z.F 61 [.int p,P0,P1,P2]=.ok (.int m012))(e013:Z.F 61 [.int p,P0,P1,P3]=.ok (.int m013))(e014:Z.F 61 [.int p,P0,P1,P4]=.ok (.int m014))(e023:Z.F 61 [.int p,P0,P2,P3]=.ok (.int m023))(e024:Z.F 61 [.int p,P0,P2,P4]=.ok (.int m024))(e123:Z.F 61 [.int p,P1,P2,P3]=.ok (.int m123))(e124:Z.F 61 [.int p,P1,P2,P4]=.ok (.int m124))(h4:¬ (m012=0/\m013=0))(h3:¬ (m012=0/\m014=0))(h2:¬ (m013=0/\m014=0))(h1:¬ (m023=0/\m024=0))(h0:¬ (m123=0/\m124=0)):Nz.run Z [.int p,five P0 P1 P2 P3 P4]=.ok .non:=by
 have t4:=fun(s2 s3:Sl)=>MT (Z:=Z) (p:=p) (k:=4) (PP:=five P0 P1 P2 P3 P4) (s2:=s2) (s3:=s3) rfl rfl rfl e012 e013 h4
 have t3:=fun(s2 s3:Sl)=>MT (Z:=Z) (p:=p) (k:=3) (PP:=five P0 P1 P2 P3 P4) (s2:=s2) (s3:=s3) rfl rfl rfl e012 e014 h3
 have t2:=fun(s2 s3:Sl)=>MT (Z:=Z) (p:=p) (k:=2) (PP:=five P0 P1 P2 P3 P4) (s2:=s2) (s3:=s3) rfl rfl rfl e013 e014 h2
 have t1:=fun(s2 s3:Sl)=>MT (Z:=Z) (p:=p) (k:=1) (PP:=five P0 P1 P2 P3 P4) (s2:=s2) (s3:=s3) rfl rfl rfl e023 e024 h1
 have t0:=fun(s2 s3:Sl)=>MT (Z:=Z) (p:=p) (k:=0) (PP:=five P0 P1 P2 P3 P4) (s2:=s2) (s3:=s3) rfl rfl rfl e123 e124 h0
 generalize five P0 P1 P2 P3 P4=PP at *;simp[Nz,Df.run,By,CY,t4,t3,t2,t1,t0]
theorem tX{R:D}(e1:Z.F 194 [five P0 P1 P2 P3 P4]=.ok .non)(e2:Z.F 195 [.int p,five P0 P1 P2 P3 P4]=.ok .non)(e3:Z.F 197 [.int p,five P0 P1 P2 P3 P4]=.ok R):NC.run Z [.int p,five P0 P1 P2 P3 P4]=.ok R:=by
 have ln:biD .len [five P0 P1 P2 P3 P4]=.ok (.int 5):=rfl;generalize five P0 P1 P2 P3 P4=PP at *;simp[NC,Df.run,By,ln,e1,e2,e3]
end
structure Five (p:Af) (C:C6) (pts:Ac R3):Prop where
 len:pts.length=5
 nd:pts.Nodup
 nf:∀ x∈pts,NF p x
 on:∀ x∈pts,vI C x%p=0
 n4:∀ n:R3,¬ CgR p n (0,0,0)->(pts.filter λx=>decide (AS n x%p=0)).length<=3
theorem Five.perm{a b:Ac R3}(h:Five p C a)(e:b.Perm a):Five p C b:=
 ⟨e.length_eq.trans h.len,e.nodup_iff.mpr h.nd,λx hx=>h.nf x (e.mem_iff.mp hx),λx hx=>h.on x (e.mem_iff.mp hx),λn hn=>by rw[(e.filter _).length_eq];exact h.n4 n hn⟩
theorem NW{l:Ac α}(h:l.length=5):∃ a b c d e,l=[a,b,c,d,e]:=by
  match l,h with
  |[a,b,c,d,e],_=>exact⟨a,b,c,d,e,rfl⟩
theorem P9(a b c d e:R3):A7 [a,b,c,d,e]=five (At Ab a) (At Ab b) (At Ab c) (At Ab d) (At Ab e):=rfl
theorem MS(a:R3):flD 5 (At Ab a)=Ab:=rfl
section
variable{Z:Gam}{p:Af}{C:C6}
def Vi(Z:Gam):Prop:=∀(p:Af)(C:C6)(pts:Ac R3),Five p C pts->Z.F 194 [A7 pts]=.ok .non
theorem iR(Z:Gam)(p:Af)(C:C6)(pts:Ac R3)(h:Five p C pts):NA.run Z [A7 pts]=.ok .non:=by
 obtain⟨a,b,c,d,e,rfl⟩:=NW h.len;have nd:=h.nd;simp only[BV,Av,AR,BO,Dd,DZ,DI,GZ]at nd;obtain⟨⟨n01,n02,n03,n04⟩,⟨n12,n13,n14⟩,⟨n23,n24⟩,n34⟩:=nd;rw[P9];have k:∀{x y:R3},¬ x=y->eqD (At Ab x) (At Ab y)=Ad:=λh=>by rw[M1];exact C1 h
 exact uK (MS _) (MS _) (MS _) (MS _) (MS _) (k n01) (k n02) (k n03) (k n04) (k n12) (k n13) (k n14) (k n23) (k n24) (k n34)
theorem VR{a b c d e:R3}(hp:P4 p)(h:Five p C [a,b,c,d,e]):∀ n:R3,¬ CgR p n (0,0,0)->(decide (AS n a%p=0)).toNat+(decide (AS n b%p=0)).toNat+(decide (AS n c%p=0)).toNat+(decide (AS n d%p=0)).toNat+(decide (AS n e%p=0)).toNat<=3:=λn hn=>by
 have:=h.n4 n hn;have k:∀(q:R3->Ai)(x:R3)(l:Ac R3),((x::l).filter q).length=(q x).toNat+(l.filter q).length:=λq x l=>by
  rw[Eb];cases q x<;>simp<;>omega
 rw[k,k,k,k,k]at this;simp only[List.filter_nil,YD]at this;omega
theorem JY(x y z:R3):AS (crs x y) z=Aq x y z:=by
 unfold AS crs Aq det;grind
def Wf(Z:Gam):Prop:=∀(p:Af)(C:C6)(pts:Ac R3),P4 p->Five p C pts->Z.F 195 [.int p,A7 pts]=.ok .non
theorem mD(hm:LF Z)(p:Af)(C:C6)(pts:Ac R3)(hp:P4 p)(h:Five p C pts):Nz.run Z [.int p,A7 pts]=.ok .non:=by
 obtain⟨a,b,c,d,e,rfl⟩:=NW h.len;have nd:=h.nd;simp only[BV,Av,AR,BO,Dd,DZ,DI,GZ]at nd;obtain⟨⟨n01,n02,n03,n04⟩,⟨n12,n13,n14⟩,⟨n23,n24⟩,n34⟩:=nd;have na:=h.nf a (by simp)
 have nb:=h.nf b (by simp)
 have nc:=h.nf c (by simp)
 have nd:=h.nf d (by simp)
 have ne:=h.nf e (by simp)
 have B:∀{x:R3},NF p x->B3 x:=λhx=>(FX hp hx.1).b3 (by decide)
 have m:∀{x y z:R3},NF p x->NF p y->NF p z->Z.F 61 [.int p,At Ab x,At Ab y,At Ab z]=.ok (.int (Aq x y z%p)):=λhx hy hz=>hm p Ab _ _ _ hp.pos (B hx) (B hy) (B hz)
 have key:∀ x y:R3,NF p x->NF p y->x≠y->(decide (AS (crs x y) a%p=0)).toNat+(decide (AS (crs x y) b%p=0)).toNat+(decide (AS (crs x y) c%p=0)).toNat+(decide (AS (crs x y) d%p=0)).toNat+(decide (AS (crs x y) e%p=0)).toNat<=3:=λx y hx hy hne=>VR hp h _ (GR hp hx hy hne)
 have z:∀ x y:R3,decide (AS (crs x y) x%p=0)=Ab/\decide (AS (crs x y) y%p=0)=Ab:=λx y=>by
  obtain⟨h1,h2⟩:=QR x y;rw[h1,h2];exact⟨A9 (Bk p),A9 (Bk p)⟩
 have fin:∀{x y u v:R3},(decide (AS (crs x y) u%p=0)=Ab->decide (AS (crs x y) v%p=0)=Ab->AV)->¬ (Aq x y u%p=0/\Aq x y v%p=0):=λf ⟨h1,h2⟩=>by
  rw[<-JY]at h1 h2;exact f (A9 h1) (A9 h2)
 rw[P9];refine eE (m na nb nc) (m na nb nd) (m na nb ne) (m na nc nd) (m na nc ne) (m nb nc nd) (m nb nc ne) (fin λh1 h2=>?_) (fin λh1 h2=>?_) (fin λh1 h2=>?_) (fin λh1 h2=>?_) (fin λh1 h2=>?_)
 .have q:=key a b na nb n01;rw[(z a b).1,(z a b).2,h1,h2]at q;simp only[CI]at q;omega
 .have q:=key a b na nb n01;rw[(z a b).1,(z a b).2,h1,h2]at q;simp only[CI]at q;omega
 .have q:=key a b na nb n01;rw[(z a b).1,(z a b).2,h1,h2]at q;simp only[CI]at q;omega
 .have q:=key a c na nc n02;rw[(z a c).1,(z a c).2,h1,h2]at q;simp only[CI]at q;omega
 .have q:=key b c nb nc n12;rw[(z b c).1,(z b c).2,h1,h2]at q;simp only[CI]at q;omega
def Xb(Z:Gam):Prop:=∀(p:Af)(a b:R3),P4 p->In3 p a->In3 p b->Z.F 196 [At Ab a,At Ab b]=.ok (Cp (prd a b))
theorem uH(Z:Gam)(p:Af)(a b:R3)(hp:P4 p)(ia:In3 p a)(ib:In3 p b):Pc.run Z [At Ab a,At Ab b]=.ok (Cp (prd a b)):=by
 have ba:=FX hp ia;have bb:=FX hp ib;have k:∀ {u v},Bd 10 u->Bd 10 v->EW u v=Ab:=λhu hv=>GS hu hv (by decide) (by decide)
 obtain⟨x0,x1,x2⟩:=Jd Ab a;obtain⟨y0,y1,y2⟩:=Jd Ab b;simp[Pc,Df.run,By,x0,x1,x2,y0,y1,y2,k ba.1 bb.1,k ba.2.1 bb.2.1,k ba.2.2 bb.2.2,k ba.1 bb.2.1,k ba.2.1 bb.1,k ba.1 bb.2.2,k ba.2.2 bb.1,k ba.2.1 bb.2.2,k ba.2.2 bb.2.1];rfl
theorem Oi{a b:R3}(hp:P4 p)(ia:In3 p a)(ib:In3 p b):BC (prd a b):=by
 have hh:=hp.hi;have k:∀{x y:Af},0<=x/\x<p->0<=y/\y<p->0<=x*y/\x*y<=100:=λ{x y} hx hy=>by
  refine⟨Ym hx.1 hy.1,?_⟩;exact Jw (Int.mul_le_mul (show x<=10 by omega) (show y<=10 by omega) hy.1 (by decide)) (by decide)
 have b1:∀{n:Af},0<=n/\n<=100->Bd 10 n:=λh=>by unfold Bd;omega
 have b2:∀{m n:Af},0<=m/\m<=100->0<=n/\n<=100->Bd 10 (m+n):=λh g=>by unfold Bd;omega
 obtain⟨a0,a1,a2⟩:=ia;obtain⟨b0,b1',b2'⟩:=ib;exact⟨b1 (k a0 b0),b1 (k a1 b1'),b1 (k a2 b2'),b2 (k a0 b1') (k a1 b0),b2 (k a0 b2') (k a2 b0),b2 (k a1 b2') (k a2 b1')⟩
def Rw(Z:Gam):Prop:=∀(p:Af)(C:C6)(x:R3),P4 p->BC C->In3 p x->Z.F 126 [.int p,Cp C,At Ab x]=.ok (.int (vI C x%p))
theorem tW(hr:KB Z)(p:Af)(C:C6)(x:R3)(hp:P4 p)(bC:BC C)(ix:In3 p x):QS.run Z [.int p,Cp C,At Ab x]=.ok (.int (vI C x%p)):=by
 obtain⟨i0,i1,i2,i3,i4,i5⟩:=ix6 C;obtain⟨x0,x1,x2⟩:=Jd Ab x;have bx:=FX hp ix;have k:∀ {u v},Bd 10 u->Bd 10 v->EW u v=Ab:=λhu hv=>GS hu hv (by decide) (by decide)
 have k2:∀ {u v w},Bd 10 u->Bd 10 v->Bd 10 w->EW (u*v) w=Ab:=λhu hv hw=>GS (hu.mul hv) hw (by decide) (by decide)
 simp[QS,Df.run,By,i0,i1,i2,i3,i4,i5,x0,x1,x2,k bC.b0 bx.1,k bC.b1 bx.2.1,k bC.b2 bx.2.2,k bC.b3 bx.1,k bC.b4 bx.1,k bC.b5 bx.2.1,k2 bC.b0 bx.1 bx.1,k2 bC.b1 bx.2.1 bx.2.1,k2 bC.b2 bx.2.2 bx.2.2,k2 bC.b3 bx.1 bx.2.1,k2 bC.b4 bx.1 bx.2.2,k2 bC.b5 bx.2.1 bx.2.2,hr p _ hp.pos];rfl
theorem xV{P0 P1 P2 P3 P4 A B A' B' R:D}{L M:C6}{l m:Af}(bL:BC L)(bM:BC M)(bl:Bd 10 l)(bm:Bd 10 m)(e01:Z.F 57 [.int p,P0,P1]=.ok A)(e23:Z.F 57 [.int p,P2,P3]=.ok B)(eL:Z.F 196 [A,B]=.ok (Cp L))(e02:Z.F 57 [.int p,P0,P2]=.ok A')(e13:Z.F 57 [.int p,P1,P3]=.ok B')(eM:Z.F 196 [A',B']=.ok (Cp M))(vM:Z.F 126 [.int p,Cp M,P4]=.ok (.int m))(vL:Z.F 126 [.int p,Cp L,P4]=.ok (.int l))(ec:Z.F 122 [.int p,.lst (ds (lc2 m L (-l) M).l)]=.ok R):Ny.run Z [.int p,five P0 P1 P2 P3 P4]=.ok R:=by
 have i0:BA (five P0 P1 P2 P3 P4) (.int 0)=.ok P0:=rfl;have i1:BA (five P0 P1 P2 P3 P4) (.int 1)=.ok P1:=rfl;have i2:BA (five P0 P1 P2 P3 P4) (.int 2)=.ok P2:=rfl;have i3:BA (five P0 P1 P2 P3 P4) (.int 3)=.ok P3:=rfl;have i4:BA (five P0 P1 P2 P3 P4) (.int 4)=.ok P4:=rfl;have sL:Db (Cp L)=.ok (ds L.l):=rfl;have sM:Db (Cp M)=.ok (ds M.l):=rfl;have k:∀ {u v},Bd 10 u->Bd 10 v->EW u v=Ab:=λhu hv=>GS hu hv (by decide) (by decide)
 have cp:∀(PP cL cM:D),BD (cGT Z [si p,sh PP,sh cL,sh cM,si m,si l,Ae,Ae] [6,7] Cr) (cFT Z [si p,sh PP,sh cL,sh cM,si m,si l,Ae,Ae] [6,7] Pe) (D5 (ds L.l) (ds M.l))=.ok (ds (lc2 m L (-l) M).l):=λPP cL cM=>by
  obtain⟨l0,l1,l2,l3,l4,l5⟩:=L;obtain⟨m0,m1,m2,m3,m4,m5⟩:=M;have n:∀ a b:Af,m*a + -l*b=m*a-l*b:=λa b=>by rw[Int.neg_mul,Int.sub_eq_add_neg]
  simp[BD,cGT,cFT,D5,ds,C6.l,lc2,Pe,Cr,n,k bm bL.b0,k bm bL.b1,k bm bL.b2,k bm bL.b3,k bm bL.b4,k bm bL.b5,k bl bM.b0,k bl bM.b1,k bl bM.b2,k bl bM.b3,k bl bM.b4,k bl bM.b5]
 generalize five P0 P1 P2 P3 P4=PP at *;generalize ds (lc2 m L (-l) M).l=FF at *;generalize ds L.l=LL at *;generalize ds M.l=MM at *;generalize Cp L=cL at *;generalize Cp M=cM at *;simp[Ny,Df.run,By,i0,i1,i2,i3,i4,e01,e23,eL,e02,e13,eM,vM,vL,sL,sM,cp,ec]
theorem tK{a a' b b':R3}(ha:CgR p a a')(hb:CgR p b b'):CgC p (prd a b) (prd a' b'):=
 ⟨ha.1.mul hb.1,ha.2.1.mul hb.2.1,ha.2.2.mul hb.2.2,(ha.1.mul hb.2.1).add (ha.2.1.mul hb.1),(ha.1.mul hb.2.2).add (ha.2.2.mul hb.1),(ha.2.1.mul hb.2.2).add (ha.2.2.mul hb.2.1)⟩
theorem Vy(hp:P4 p){a a' b b':R3}(ha:Pr p a a')(hb:Pr p b b'):PrC p (prd a b) (prd a' b'):=by
 obtain⟨d,dz,e⟩:=ha;obtain⟨d',dz',e'⟩:=hb;refine⟨d*d',Dc hp dz dz',(tK e e').trans (CgC.of ?_)⟩;unfold prd scC B0
 congr 1<;>grind
theorem xW(hp:P4 p){L M L' M':C6}(hL:PrC p L' L)(hM:PrC p M' M)(v:R3):PrC p (lc2 (vI M' v%p) L' (-(vI L' v%p)) M') (lc2 (vI M v) L (-vI L v) M):=by
 obtain⟨d,dz,e⟩:=hL;obtain⟨d',dz',e'⟩:=hM;refine⟨d*d',Dc hp dz dz',?_⟩;have r:CgR p v v:=⟨Cg.rfl,Cg.rfl,Cg.rfl⟩;have q:=Iw e r;have q':=Iw e' r;rw[LJ]at q q';have neg:∀{a b:Af},Cg p a b->Cg p (-a) (-b):=λ{a b} h=>by
  have:=(Cg.rfl (p:=p) (a:=0)).sub h
  rwa [Yp,Yp]at this
 refine(wC ((Cg.md rfl).trans q') e (neg ((Cg.md rfl).trans q)) e').trans (CgC.of ?_);generalize vI M v=m;generalize vI L v=l;unfold lc2 scC
 congr 1<;>grind
def Wg(Z:Gam):Prop:=∀(p:Af)(C:C6)(pts:Ac R3),P4 p->InC p C->A4 p C.l=Aa 1->Five p C pts->Z.F 197 [.int p,A7 pts]=.ok (Cp C)
theorem kM(hp:P4 p){l:Af}{E:C6}(lC:A4 p C.l=Aa l)(h:PrC p E C):∃ l',A4 p E.l=Aa l':=by
 cases e:A4 p E.l with
 |some l'=>exact⟨l',rfl⟩
 |none=>
  exfalso
  obtain⟨d,dz,q⟩:=h;have z:=Ko.mp e;have k:∀{n:Af},n∈E.l->Cg p n 0:=λhn=>z0 (z _ hn)
  have q2:CgC p E ⟨0,0,0,0,0,0⟩:=⟨k (by simp[C6.l]),k (by simp[C6.l]),k (by simp[C6.l]),k (by simp[C6.l]),k (by simp[C6.l]),k (by simp[C6.l])⟩
  exact Wu hp lC (Vv hp dz (q.symm.trans q2))
noncomputable def Fc(a b c d e:R3):C6:=lc2 (vI (prd (crs a c) (crs b d)) e) (prd (crs a b) (crs c d)) (-vI (prd (crs a b) (crs c d)) e) (prd (crs a c) (crs b d))
theorem xU{a b c d e:R3}{l:Af}(hp:P4 p)(lC:A4 p C.l=Aa l)(h:Five p C [a,b,c,d,e]):PrC p (Fc a b c d e) C:=by
 have nd:=h.nd;simp only[BV,Av,AR,BO,Dd,DZ,DI,GZ]at nd;obtain⟨⟨n01,n02,n03,n04⟩,⟨n12,n13,n14⟩,⟨n23,n24⟩,n34⟩:=nd;have na:=h.nf a (by simp)
 have nb:=h.nf b (by simp)
 have nc:=h.nf c (by simp)
 have nd:=h.nf d (by simp)
 have ne:=h.nf e (by simp)
 have z:∀ x y:R3,AS (crs x y) x%p=0/\AS (crs x y) y%p=0:=λx y=>by
  obtain⟨h1,h2⟩:=QR x y;rw[h1,h2];exact⟨Bk p,Bk p⟩
 -- no four of them on a line
 have key:∀ n:R3,¬ CgR p n (0,0,0)->(decide (AS n a%p=0)).toNat+(decide (AS n b%p=0)).toNat+(decide (AS n c%p=0)).toNat+(decide (AS n d%p=0)).toNat+(decide (AS n e%p=0)).toNat<=3:=VR hp h;have dd:Aq a b c%p≠0\/Aq a b d%p≠0:=by
  apply Ds
  intro hn;have hn':Aq a b c%p=0/\Aq a b d%p=0:=⟨Ds λz=>hn (.inl z),Ds λz=>hn (.inr z)⟩
  have q:=key _ (GR hp na nb n01);rw[A9 (z a b).1,A9 (z a b).2,JY a b c,JY a b d,A9 hn'.1,A9 hn'.2]at q;simp only[CI]at q;omega
 have sp:=yP hp dd (h.on a (by simp)) (h.on b (by simp)) (h.on c (by simp)) (h.on d (by simp)) na nb nc nd n02 n12 n23 n03 n13
 have nn:¬ (vI (prd (crs a b) (crs c d)) e%p=0/\vI (prd (crs a c) (crs b d)) e%p=0):=λ⟨h1,h2⟩=>by
  rw[Jb]at h1 h2;have sw:∀ x y:R3,AS (crs x y) e%p=0->AS (crs x e) y%p=0:=λx y hz=>by
   have:AS (crs x e) y=-1*AS (crs x y) e:=by unfold AS crs;grind
   rw[this,BJ,hz,C4,Bk]
  have sw':∀ x y:R3,AS (crs x y) e%p=0->AS (crs y e) x%p=0:=λx y hz=>by
   have:AS (crs y e) x=AS (crs x y) e:=by unfold AS crs;grind
   rw[this,hz]
  have spl:∀{u v:Af},u*v%p=0->u%p=0\/v%p=0:=λ{u v} hz=>by
   by_cases hu:u%p=0
   .exact .inl hu
   .exact .inr ((FI hp hu).mp hz)
  rcases spl h1 with g1|g1<;>rcases spl h2 with g2|g2
  .have q:=key _ (GR hp na ne n04);rw[A9 (z a e).1,A9 (z a e).2,A9 (sw _ _ g1),A9 (sw _ _ g2)]at q;simp only[CI]at q;omega
  .have q:=key _ (GR hp nb ne n14);rw[A9 (z b e).1,A9 (z b e).2,A9 (sw' _ _ g1),A9 (sw _ _ g2)]at q;simp only[CI]at q;omega
  .have q:=key _ (GR hp nc ne n24);rw[A9 (z c e).1,A9 (z c e).2,A9 (sw _ _ g1),A9 (sw' _ _ g2)]at q;simp only[CI]at q;omega
  .have q:=key _ (GR hp nd ne n34);rw[A9 (z d e).1,A9 (z d e).2,A9 (sw' _ _ g1),A9 (sw' _ _ g2)]at q;simp only[CI]at q;omega
 exact rX hp lC sp (h.on e (by simp)) nn
theorem pB(hj:Ot Z)(hl:Xb Z)(hv:Rw Z)(hc:Xd Z)(p:Af)(C:C6)(pts:Ac R3)(hp:P4 p)(iC:InC p C)(lC:A4 p C.l=Aa 1)(h:Five p C pts):Ny.run Z [.int p,A7 pts]=.ok (Cp C):=by
 obtain⟨a,b,c,d,e,rfl⟩:=NW h.len;have fp:=xU hp lC h;have nd:=h.nd;simp only[BV,Av,AR,BO,Dd,DZ,DI,GZ]at nd;obtain⟨⟨n01,n02,n03,n04⟩,⟨n12,n13,n14⟩,⟨n23,n24⟩,n34⟩:=nd;have na:=h.nf a (by simp)
 have nb:=h.nf b (by simp)
 have nc:=h.nf c (by simp)
 have nd:=h.nf d (by simp)
 have ne:=h.nf e (by simp)
 obtain⟨y01,i01,_,p01,e01⟩:=hj p a b hp na.1 nb.1 na.2 nb.2 n01;obtain⟨y23,i23,_,p23,e23⟩:=hj p c d hp nc.1 nd.1 nc.2 nd.2 n23;obtain⟨y02,i02,_,p02,e02⟩:=hj p a c hp na.1 nc.1 na.2 nc.2 n02;obtain⟨y13,i13,_,p13,e13⟩:=hj p b d hp nb.1 nd.1 nb.2 nd.2 n13;have pr:=(xW hp (Vy hp p01 p23) (Vy hp p02 p13) e).trans hp fp;obtain⟨l,el⟩:=kM hp lC pr;obtain⟨t,D,it,eD,iD,lD,pD⟩:=RT hp el;have ec:=hc p Ad _ l t hp el it;rw[eD]at ec;have eq:=gG hp iD iC lD lC (pD.trans hp pr);subst eq;have bd:∀ n:Af,Bd 10 (n%p):=λn=>Nd hp (Bo _ (by have:=hp.pos;omega)) (Bf _ hp.pos)
 rw[P9];exact xV (Oi hp i01 i23) (Oi hp i02 i13) (bd _) (bd _) e01 e23 (hl p _ _ hp i01 i23) e02 e13 (hl p _ _ hp i02 i13) (hv p _ _ hp (Oi hp i02 i13) ne.1) (hv p _ _ hp (Oi hp i01 i23) ne.1) ec
def Wn(Z:Gam):Prop:=∀(p:Af)(C:C6)(pts:Ac R3),P4 p->InC p C->A4 p C.l=Aa 1->Five p C pts->Z.F 198 [.int p,A7 pts]=.ok (Cp C)
theorem jV(h1:Vi Z)(h2:Wf Z)(h3:Wg Z)(p:Af)(C:C6)(pts:Ac R3)(hp:P4 p)(iC:InC p C)(lC:A4 p C.l=Aa 1)(h:Five p C pts):NC.run Z [.int p,A7 pts]=.ok (Cp C):=by
 have e1:=h1 p C pts h;have e2:=h2 p C pts hp h;have e3:=h3 p C pts hp iC lC h;obtain⟨a,b,c,d,e,rfl⟩:=NW h.len;exact tX e1 e2 e3
end
section
variable{p:Af}{r n a b c x y z u:R3}
theorem qO(x y n:R3):crs (crs x y) n=(AS n x*y.1-AS n y*x.1,AS n x*y.2.1-AS n y*x.2.1,AS n x*y.2.2-AS n y*x.2.2):=by
 unfold crs AS;refine BF ?_ (BF ?_ ?_)<;>simp only<;>grind
theorem par(hp:P4 p)(h1:CgR p (crs r n) (0,0,0))(h2:CgR p (crs r a) (0,0,0))(rz:¬ CgR p r (0,0,0))(nz:¬ CgR p n (0,0,0))(e:AS n z%p=0):AS a z%p=0:=by
 obtain⟨f0,f1,f2⟩:=h1;obtain⟨g0,g1,g2⟩:=h2;simp only[crs]at f0 f1 f2 g0 g1 g2;have sw:∀{x y:Af},Cg p (x-y) 0->Cg p x y:=λ{x y} h=>(Cg.of (by omega)).trans ((h.add (Cg.rfl (a:=y))).trans (Cg.of (by omega)))
 have d1:=sw f0;have d2:=sw f1;have d3:=sw f2;have c1:=sw g0;have c2:=sw g1;have c3:=sw g2
 -- r i n j=r j n i
 have key:∀ ri ni ai:Af,Cg p (ri*n.1) (r.1*ni)->Cg p (ri*n.2.1) (r.2.1*ni)->Cg p (ri*n.2.2) (r.2.2*ni)->Cg p (ri*a.1) (r.1*ai)->Cg p (ri*a.2.1) (r.2.1*ai)->Cg p (ri*a.2.2) (r.2.2*ai)->ni%p≠0->AS a z%p=0:=λri ni ai k0 k1 k2 l0 l1 l2 hz=>by
  have rn:ri%p≠0:=λq=>rz ⟨?_,?_,?_⟩
  .have s1:Cg p (ni*AS r z) 0:=by
    have t:=(((k0.mul (Cg.rfl (a:=z.1))).add (k1.mul (Cg.rfl (a:=z.2.1)))).add (k2.mul (Cg.rfl (a:=z.2.2)))).symm;refine(Cg.of ?_).trans (t.trans ((Cg.of ?_).trans (((Cg.rfl (a:=ri)).mul (z0 e)).trans (Cg.of (C4 _)))))
    .unfold AS;clear e k0 k1 k2 l0 l1 l2 t c1 c2 c3 d1 d2 d3 f0 f1 f2 g0 g1 g2 sw;grind
    .unfold AS;clear e k0 k1 k2 l0 l1 l2 t c1 c2 c3 d1 d2 d3 f0 f1 f2 g0 g1 g2 sw;grind
   have s2:=z0 ((FI hp hz).mp (z0' s1));have s3:Cg p (ri*AS a z) 0:=by
    have t:=(((l0.mul (Cg.rfl (a:=z.1))).add (l1.mul (Cg.rfl (a:=z.2.1)))).add (l2.mul (Cg.rfl (a:=z.2.2))));refine(Cg.of ?_).trans (t.trans ((Cg.of ?_).trans (((Cg.rfl (a:=ai)).mul s2).trans (Cg.of (C4 _)))))
    .unfold AS;clear e k0 k1 k2 l0 l1 l2 t c1 c2 c3 d1 d2 d3 f0 f1 f2 g0 g1 g2 sw s1 s2;grind
    .unfold AS;clear e k0 k1 k2 l0 l1 l2 t c1 c2 c3 d1 d2 d3 f0 f1 f2 g0 g1 g2 sw s1 s2;grind
   exact(FI hp rn).mp (z0' s3)
  all_goals
   refine z0 ((FI hp hz).mp (z0' ?_))
  .exact(Cg.of (BH _ _)).trans (k0.symm.trans (((z0 q).mul Cg.rfl).trans (Cg.of (DP _))))
  .exact(Cg.of (BH _ _)).trans (k1.symm.trans (((z0 q).mul Cg.rfl).trans (Cg.of (DP _))))
  .exact(Cg.of (BH _ _)).trans (k2.symm.trans (((z0 q).mul Cg.rfl).trans (Cg.of (DP _))))
 by_cases n0:n.1%p=0
 .by_cases n1:n.2.1%p=0
  .have n2:n.2.2%p≠0:=λq=>nz ⟨z0 n0,z0 n1,z0 q⟩
   exact key r.2.2 n.2.2 a.2.2 d2 d1.symm Cg.rfl c2 c1.symm Cg.rfl n2
  .exact key r.2.1 n.2.1 a.2.1 d3.symm Cg.rfl d1 c3.symm Cg.rfl c1 n1
 .exact key r.1 n.1 a.1 Cg.rfl d3 d2.symm Cg.rfl c3 c2.symm n0
theorem SZ(h1:AS n x%p=0)(h2:AS n y%p=0):CgR p (crs (crs x y) n) (0,0,0):=by
 rw[qO];exact⟨Hm (z0 h1) (z0 h2),Hm (z0 h1) (z0 h2),Hm (z0 h1) (z0 h2)⟩
theorem sZ(hp:P4 p)(hx:NF p x)(hy:NF p y)(ne:x≠y)(nz:¬ CgR p n (0,0,0))(n1:AS n x%p=0)(n2:AS n y%p=0)(a1:AS a x%p=0)(a2:AS a y%p=0)(e:AS n z%p=0):AS a z%p=0:=
 par hp (SZ n1 n2) (SZ a1 a2) (GR hp hx hy ne) nz e
theorem jG(hp:P4 p)(hx:NF p x)(hy:NF p y)(ne:x≠y)(nz:¬ CgR p n (0,0,0))(n1:AS n x%p=0)(n2:AS n y%p=0)(e:AS n u%p=0):Aq x y u%p=0:=by
 rw[<-JY];obtain⟨h1,h2⟩:=QR x y;exact sZ hp hx hy ne nz n1 n2 (by rw[h1];exact Bk p) (by rw[h2];exact Bk p) e
end
theorem Ur{α β:Type}(g:α->β):∀(l:Ac α)(k:Ag),(l.map g).eraseIdx k=(l.eraseIdx k).map g
 |[],_=>rfl
 |_::_,0=>rfl
 |x::l,k+1=>congrArg (g x :: ·) (Ur g l k)
theorem TC{α:Type}:∀(l:Ac α)(i:Ag)(h:i<l.length),(l[i]::l.eraseIdx i).Perm l
 |_::_,0,_=>Yq _
 |x::l,i+1,h=>(List.Perm.swap ..).trans (List.Perm.cons x (TC l i (Nat.lt_of_succ_lt_succ h)))
noncomputable def ow(l:Ac R3):Sl:=Aa (A7 l,Ab)
theorem jT(a:Af)(n:Ag):Cb a (n+1)=.int a::Cb (a+1) n:=by
 unfold Cb;rw[Ew,Cj,Gq]
 congr 1
 .simp
 .refine Fe λk _=>?_
  simp only[Function.comp]
  congr 1
  omega
theorem tO(U:Rho)(j i:Ag)(f l:Ac R3)(k:Ag)(x:R3)(hk:l[k]?=Aa x)(hj:(j != i)=Ab)(h1:Dz l.length=Ab)(h2:Dz (f.length+1)=Ab):apD U j i (f.map (At Ab)) (l.map (At Ab)) (k:Af)=.next ((U.set i (ow (l.eraseIdx k))).set j (ow (f++[x]))):=by
 have kl:k<l.length:=(A2.mp hk).1;unfold apD;have e:plD (l.map (At Ab)).length (k:Af)=Aa k:=by
  unfold plD;rw[Ax (by omega),Bi,Ax (by omega),Ho]
 rw[e];dsimp only;rw[DY,hk];dsimp only[YZ];rw[Bi,Bi,hj,h1,h2];rw[Ax (by rfl)]
 unfold ow A7;rw[Ur,YG];rfl
theorem jH{q:R3->Ai}{l:Ac R3}(nd:l.Nodup)(h:3<=(l.filter q).length):∃ x y u,x∈l/\y∈l/\u∈l/\x≠y/\x≠u/\y≠u/\q x=Ab/\q y=Ab/\q u=Ab:=by
  have nf:(l.filter q).Nodup:=nd.filter (p:=q);have hm:∀ x∈l.filter q,x∈l/\q x=Ab:=λx hx=>BU.mp hx
  generalize l.filter q=F at *
  match F,h,nf,hm with
  |x::y::u::r,_,nf,hm=>
    simp only[BV,Av,Dd]at nf;have a:=hm x (by simp)
    have b:=hm y (by simp)
    have c:=hm u (by simp)
    exact⟨x,y,u,a.1,b.1,c.1,nf.1.1,nf.1.2.1,nf.2.1.1,a.2,b.2,c.2⟩
theorem QE(a b d e:R3):crs (crs a b) (crs d e)=(Aq a d e*b.1-Aq b d e*a.1,Aq a d e*b.2.1-Aq b d e*a.2.1,Aq a d e*b.2.2-Aq b d e*a.2.2):=by
 unfold crs Aq det;refine BF ?_ (BF ?_ ?_)<;>simp only<;>grind
section
variable{p:Af}{C:C6}
structure N3 (p:Af) (pts:Ac R3):Prop where
 nd:pts.Nodup
 nf:∀ x∈pts,NF p x
 n3:∀ x y u,x∈pts->y∈pts->u∈pts->x≠y->x≠u->y≠u->Aq x y u%p≠0
theorem N3.perm{a b:Ac R3}(h:N3 p a)(e:b.Perm a):N3 p b:=⟨e.nodup_iff.mpr h.nd,λx hx=>h.nf x (e.mem_iff.mp hx),λx y u hx hy hu=>h.n3 x y u (e.mem_iff.mp hx) (e.mem_iff.mp hy) (e.mem_iff.mp hu)⟩
theorem N3.sub{a b:Ac R3}(h:N3 p a)(e:b.Sublist a):N3 p b:=⟨e.nodup h.nd,λx hx=>h.nf x (e.subset hx),λx y u hx hy hu=>h.n3 x y u (e.subset hx) (e.subset hy) (e.subset hu)⟩
theorem N3.five(hp:P4 p)(h:N3 p pts)(len:pts.length=5)(on:∀ x∈pts,vI C x%p=0):Five p C pts:=by
 refine⟨len,h.nd,h.nf,on,λn hn=>?_⟩
 apply Ds
 intro hc;obtain⟨x,y,u,hx,hy,hu,n1,n2,n3,q1,q2,q3⟩:=jH (q:=λx=>decide (AS n x%p=0)) h.nd (by omega)
 exact h.n3 x y u hx hy hu n1 n2 n3 (jG hp (h.nf x hx) (h.nf y hy) n1 hn (AN q1) (AN q2) (AN q3))
noncomputable def Gc(a b c d e:R3):C6:=lc2 (Aq a b c*Aq b d e) (prd (crs c e) (crs a d)) (Aq a b d*Aq e b c) (prd (crs a c) (crs e d))
theorem L8(a b c d e f:R3):vI (Gc a b c d e) f=Aq a b c*Aq b d e*(Aq c e f*Aq d f a)+Aq a b d*Aq e b c*(Aq c f a*Aq e d f):=by
 unfold Gc;rw[WN,Jb,Jb,JY,JY,JY,JY];have h1:Aq a d f=Aq d f a:=by unfold Aq det;grind
 have h2:Aq a c f=Aq c f a:=by unfold Aq det;grind
 rw[h1,h2]
theorem cA(a b c d e:R3):vI (Gc a b c d e) a=0/\vI (Gc a b c d e) b=0/\vI (Gc a b c d e) c=0/\vI (Gc a b c d e) d=0/\vI (Gc a b c d e) e=0:=by
 have same:∀ x y:R3,Aq x x y=0/\Aq x y x=0/\Aq y x x=0:=λx y=>by unfold Aq det;refine⟨?_,?_,?_⟩<;>grind
 refine⟨?_,?_,?_,?_,?_⟩
 .rw[L8,(same a d).2.2,(same a c).2.2];simp
 .rw[L8];have h1:Aq c e b=Aq e b c:=by unfold Aq det;grind
  have h2:Aq d b a=-Aq a b d:=by unfold Aq det;grind
  have h3:Aq c b a=-Aq a b c:=by unfold Aq det;grind
  have h4:Aq e d b=-Aq b d e:=by unfold Aq det;grind
  rw[h1,h2,h3,h4];generalize Aq a b c=x;generalize Aq b d e=y;generalize Aq e b c=z;generalize Aq a b d=w;grind
 .rw[L8,(same c e).2.1,(same c a).1];simp
 .rw[L8,(same d a).1,(same d e).2.2];simp
 .rw[L8,(same e c).2.2,(same e d).2.1];simp
theorem cB(hp:P4 p){a b c d e:R3}(h1:Aq a b c%p≠0)(h2:Aq b d e%p≠0)(h3:Aq a c e%p≠0)(h4:Aq a c d%p≠0):∃ l,A4 p (Gc a b c d e).l=Aa l:=by
 cases q:A4 p (Gc a b c d e).l with
 |some l=>exact⟨l,rfl⟩
 |none=>
  exfalso
  have z:=Ko.mp q;have k:∀{n:Af},n∈(Gc a b c d e).l->Cg p n 0:=λhn=>z0 (z _ hn)
  have q2:CgC p (Gc a b c d e) ⟨0,0,0,0,0,0⟩:=⟨k (by simp[C6.l]),k (by simp[C6.l]),k (by simp[C6.l]),k (by simp[C6.l]),k (by simp[C6.l]),k (by simp[C6.l])⟩
  have v:=Iw (x:=(a.1+c.1,a.2.1+c.2.1,a.2.2+c.2.2)) (x':=(a.1+c.1,a.2.1+c.2.1,a.2.2+c.2.2)) q2 ⟨Cg.rfl,Cg.rfl,Cg.rfl⟩;rw[L8]at v;have e1:Aq c e (a.1+c.1,a.2.1+c.2.1,a.2.2+c.2.2)=Aq a c e:=by unfold Aq det;simp only;grind
  have e2:Aq d (a.1+c.1,a.2.1+c.2.1,a.2.2+c.2.2) a=-Aq a c d:=by unfold Aq det;simp only;grind
  have e3:Aq c (a.1+c.1,a.2.1+c.2.1,a.2.2+c.2.2) a=0:=by unfold Aq det;simp only;grind
  rw[e1,e2,e3]at v;refine Dc hp (Dc hp h1 h2) (Dc hp h3 (Dc hp hp.m1 h4)) (z0' ((Cg.of ?_).trans (v.trans (Cg.of ?_))))
  .rw[DP,C4,Int.add_zero,Int.neg_one_mul]
  .unfold vI;simp
theorem rY(hp:P4 p){a b c d e:R3}(h:N3 p [a,b,c,d,e]):∃ C,InC p C/\A4 p C.l=Aa 1/\PrC p C (Gc a b c d e)/\Five p C [a,b,c,d,e]:=by
 have nd:=h.nd;simp only[BV,Av,AR,BO,Dd,DZ,DI,GZ]at nd;obtain⟨⟨n01,n02,n03,n04⟩,⟨n12,n13,n14⟩,⟨n23,n24⟩,n34⟩:=nd;obtain⟨l,el⟩:=cB hp (h.n3 a b c (by simp) (by simp) (by simp) n01 n02 n12) (h.n3 b d e (by simp) (by simp) (by simp) n13 n14 n34) (h.n3 a c e (by simp) (by simp) (by simp) n02 n04 n24) (h.n3 a c d (by simp) (by simp) (by simp) n02 n03 n23)
 obtain⟨t,D,it,eD,iD,lD,pD⟩:=RT hp el;refine⟨D,iD,lD,pD,h.five hp rfl λx hx=>?_⟩
 have k:∀ x,vI (Gc a b c d e) x=0->vI D x%p=0:=λx hz=>by
  obtain⟨d,dz,q⟩:=pD;have q:=Iw (x:=x) (x':=x) q ⟨Cg.rfl,Cg.rfl,Cg.rfl⟩;rw[LJ,hz,C4]at q;exact z0' q
 obtain⟨g0,g1,g2,g3,g4⟩:=cA a b c d e;simp only[Av,AR,BO]at hx;rcases hx with rfl|rfl|rfl|rfl|rfl
 .exact k _ g0
 .exact k _ g1
 .exact k _ g2
 .exact k _ g3
 .exact k _ g4
end
section
variable{Z:Gam}{p:Af}
end
noncomputable def Kj:Df:=⟨5,Ad,(.cons (.asg 3 Ad (.call 57 (.cons (.var 0) (.cons (.idx (.var 1) (.var 2)) (.cons (.idx (.var 1) (.bin .Add (.var 2) (.int 1))) .nil))))) (.cons (.asg 4 Ad (.call 57 (.cons (.var 0) (.cons (.idx (.var 1) (.bin .Add (.var 2) (.int 3))) (.cons (.idx (.var 1) (.bin .Mod (.bin .Add (.var 2) (.int 4)) (.int 6))) .nil))))) (.cons (.ret (.call 58 (.cons (.var 0) (.cons (.var 3) (.cons (.var 4) .nil))))) .nil)))⟩
noncomputable def Lj:Df:=⟨2,Ad,(.cons (.ife (.cmp .NotEq (.bi .len (.cons (.var 1) .nil)) (.int 6)) (.cons (.rais 13 (.cons (.str (AY "six points are asked for")) .nil)) .nil) .nil) (.cons (.expr (.call 109 (.cons (.var 0) (.cons (.var 1) .nil)))) (.cons (.ret (.tup (.cons (.call 209 (.cons (.var 0) (.cons (.var 1) (.cons (.int 0) .nil)))) (.cons (.call 209 (.cons (.var 0) (.cons (.var 1) (.cons (.int 1) .nil)))) (.cons (.call 209 (.cons (.var 0) (.cons (.var 1) (.cons (.int 2) .nil)))) .nil))))) .nil)))⟩
noncomputable def Io:Df:=⟨4,Ad,(.cons (.asg 2 Ad (.call 210 (.cons (.var 0) (.cons (.var 1) .nil)))) (.cons (.asg 3 Ad (.call 198 (.cons (.var 0) (.cons (.sl (.var 1) .non (.int 5)) .nil)))) (.cons (.ife (.cmp .Eq (.call 126 (.cons (.var 0) (.cons (.var 3) (.cons (.idx (.var 1) (.int 5)) .nil)))) (.int 0)) (.cons (.ret (.tup (.cons (.str (AY "one")) (.cons (.var 3) (.cons (.var 2) (.cons (.call 57 (.cons (.var 0) (.cons (.idx (.var 2) (.int 0)) (.cons (.idx (.var 2) (.int 1)) .nil)))) .nil)))))) .nil) .nil) (.cons (.ret (.tup (.cons (.str (AY "apart")) (.cons (.var 2) .nil)))) .nil))))⟩
noncomputable def WK:Df:=⟨3,Ad,(.cons (.ret (.call 17 (.cons (.var 0) (.cons (.call 23 (.cons (.var 1) (.cons (.var 2) .nil))) .nil)))) .nil)⟩
def Wq(Z:Gam):Prop:=∀(p:Af)(a b:R3),P4 p->In3 p a->In3 p b->A4 p (tri a)=Aa 1->A4 p (tri b)=Aa 1->a≠b->∃ y,In3 p y/\A4 p (tri y)=Aa 1/\Pr p y (crs a b)/\Z.F 58 [.int p,At Ab a,At Ab b]=.ok (At Ab y)
theorem uF(hc:QW Z)(hf:N4 Z)(p:Af)(a b:R3)(hp:P4 p)(ia:In3 p a)(ib:In3 p b)(la:A4 p (tri a)=Aa 1)(lb:A4 p (tri b)=Aa 1)(ne:a≠b):∃ y,In3 p y/\A4 p (tri y)=Aa 1/\Pr p y (crs a b)/\WK.run Z [.int p,At Ab a,At Ab b]=.ok (At Ab y):=W8 hc hf p a b hp ia ib la lb ne
section
variable{Z:Gam}{p:Af}{a b c d e f x y:R3}{C:C6}
noncomputable def mtI(p:Af)(a b d e:R3):R3:=nrm p (crs (crs a b) (crs d e))
theorem Ws{n:R3}(h:AS n r%p≠0):¬ CgR p r (0,0,0):=λz=>h (z0' ((JR (⟨Cg.rfl,Cg.rfl,Cg.rfl⟩:CgR p n n) z).trans (Cg.of (by unfold AS;simp))))
theorem V4(h:¬ CgR p r (0,0,0)):∃ l,A4 p (tri r)=Aa l:=by
 cases q:A4 p (tri r) with
 |some l=>exact⟨l,rfl⟩
 |none=>exact absurd (Qp q) h
theorem MX(hp:P4 p)(h:¬ CgR p r (0,0,0)):NF p (nrm p r)/\Pr p (nrm p r) r:=by
 obtain⟨l,el⟩:=V4 h;exact Uy hp el
theorem Ob(hp:P4 p)(h:¬ CgR p r (0,0,0))(hy:NF p y)(e:Pr p y r):y=nrm p r:=by
 obtain⟨h1,h2⟩:=MX hp h;exact Oc hp hy h1 (e.trans hp (Pr.symm hp h2))
theorem WH{x':R3}(hp:P4 p)(hx:Pr p x x')(hy:Pr p y y'):Pr p (crs x y) (crs x' y'):=by
 obtain⟨d,dz,e⟩:=hx;obtain⟨d',dz',e'⟩:=hy;refine⟨d*d',Dc hp dz dz',(yB e e').trans ?_⟩;have:crs (B0 d x') (B0 d' y')=B0 (d*d') (crs x' y'):=by
  unfold crs B0;refine BF ?_ (BF ?_ ?_)<;>simp only<;>grind
 rw[this];exact⟨Cg.rfl,Cg.rfl,Cg.rfl⟩
theorem Xo{s:R3}(hp:P4 p)(h:Pr p r s)(z:¬ CgR p s (0,0,0)):¬ CgR p r (0,0,0):=λq=>by
 obtain⟨d,dz,e⟩:=h;refine z (Od hp dz ⟨e.1.symm.trans q.1,e.2.1.symm.trans q.2.1,e.2.2.symm.trans q.2.2⟩)
theorem Jj(hp:P4 p)(h1:Aq a d e%p≠0)(h2:Aq a d b%p≠0):¬ CgR p (crs (crs a b) (crs d e)) (0,0,0):=by
 refine Ws (n:=crs a d) ?_;have:AS (crs a d) (crs (crs a b) (crs d e))=Aq a d e*Aq a d b:=by
  rw[QE];unfold AS crs Aq det;simp only;grind
 rw[this];exact Dc hp h1 h2
def XU(Z:Gam):Prop:=∀(p:Af)(a b d e:R3),P4 p->NF p a->NF p b->NF p d->NF p e->a≠b->d≠e->Aq a d e%p≠0->Aq a d b%p≠0->∃ l l',Z.F 57 [.int p,At Ab a,At Ab b]=.ok l/\Z.F 57 [.int p,At Ab d,At Ab e]=.ok l'/\Z.F 58 [.int p,l,l']=.ok (At Ab (mtI p a b d e))
theorem d5(hj:Ot Z)(hm:Wq Z):XU Z:=λp a b d e hp na nb nd ne n1 n2 h1 h2=>by
 obtain⟨l,il,ll,pl,el⟩:=hj p a b hp na.1 nb.1 na.2 nb.2 n1;obtain⟨l',il',ll',pl',el'⟩:=hj p d e hp nd.1 ne.1 nd.2 ne.2 n2;have z:=Jj (b:=b) hp h1 h2;have pc:=WH hp pl pl';have ll0:l≠l':=λq=>by
  subst q;refine Xo hp pc z ?_;unfold crs;exact⟨Cg.of (by grind),Cg.of (by grind),Cg.of (by grind)⟩
 obtain⟨y,iy,ly,py,ey⟩:=hm p l l' hp il il' ll ll' ll0;refine⟨_,_,el,el',?_⟩;rw[ey,Ob hp z ⟨iy,ly⟩ (py.trans hp pc)];rfl
structure Six (p:Af) (a b c d e f:R3):Prop where
 n3:N3 p [a,b,c,d,e,f]
 m0:Aq a d e%p≠0/\Aq a d b%p≠0
 m1:Aq b e f%p≠0/\Aq b e c%p≠0
 m2:Aq c f a%p≠0/\Aq c f d%p≠0
 ab:a≠b
 bc:b≠c
 cd:c≠d
 de:d≠e
 ef:e≠f
 fa:f≠a
 mj:Aq b d e%p≠0/\Aq b e f%p≠0/\Aq a b c%p≠0
theorem Six.of(h:N3 p [a,b,c,d,e,f]):Six p a b c d e f:=by
 have nd:=h.nd;simp only[BV,Av,AR,BO,Dd,DZ,DI,GZ]at nd;obtain⟨⟨n01,n02,n03,n04,n05⟩,⟨n12,n13,n14,n15⟩,⟨n23,n24,n25⟩,⟨n34,n35⟩,n45⟩:=nd;have k:∀{x y u:R3},x∈[a,b,c,d,e,f]->y∈[a,b,c,d,e,f]->u∈[a,b,c,d,e,f]->x≠y->x≠u->y≠u->Aq x y u%p≠0:=λhx hy hu=>h.n3 _ _ _ hx hy hu
 exact⟨h,⟨k (by simp) (by simp) (by simp) n03 n04 n34,k (by simp) (by simp) (by simp) n03 n01 (CP n13)⟩,⟨k (by simp) (by simp) (by simp) n14 n15 n45,k (by simp) (by simp) (by simp) n14 n12 (CP n24)⟩,⟨k (by simp) (by simp) (by simp) n25 (CP n02) (CP n05),k (by simp) (by simp) (by simp) n25 n23 (CP n35)⟩,n01,n12,n23,n34,n45,CP n05,k (by simp) (by simp) (by simp) n13 n14 n34,k (by simp) (by simp) (by simp) n14 n15 n45,k (by simp) (by simp) (by simp) n01 n02 n12⟩
theorem Qs{PP A B A' B' l l' R:D}(i0:BA PP (.int k)=.ok A)(i1:BA PP (.int (k+1))=.ok B)(i2:BA PP (.int (k+3))=.ok A')(i3:BA PP (.int ((k+4)%6))=.ok B')(e1:Z.F 57 [.int p,A,B]=.ok l)(e2:Z.F 57 [.int p,A',B']=.ok l')(e3:Z.F 58 [.int p,l,l']=.ok R):Kj.run Z [.int p,PP,.int k]=.ok R:=by
 simp[Kj,Df.run,By,i0,i1,i2,i3,e1,e2,e3]
theorem Rr(P0 P1 P2 P3 P4 P5:D):BA (.lst [P0,P1,P2,P3,P4,P5]) (.int 0)=.ok P0/\BA (.lst [P0,P1,P2,P3,P4,P5]) (.int 1)=.ok P1/\BA (.lst [P0,P1,P2,P3,P4,P5]) (.int 2)=.ok P2/\BA (.lst [P0,P1,P2,P3,P4,P5]) (.int 3)=.ok P3/\BA (.lst [P0,P1,P2,P3,P4,P5]) (.int 4)=.ok P4/\BA (.lst [P0,P1,P2,P3,P4,P5]) (.int 5)=.ok P5:=⟨rfl,rfl,rfl,rfl,rfl,rfl⟩
def Wo(Z:Gam):Prop:=∀(p:Af)(a b c d e f:R3),P4 p->Six p a b c d e f->Z.F 209 [.int p,A7 [a,b,c,d,e,f],.int 0]=.ok (At Ab (mtI p a b d e))/\Z.F 209 [.int p,A7 [a,b,c,d,e,f],.int 1]=.ok (At Ab (mtI p b c e f))/\Z.F 209 [.int p,A7 [a,b,c,d,e,f],.int 2]=.ok (At Ab (mtI p c d f a))
theorem tZ(hm:XU Z)(p:Af)(a b c d e f:R3)(hp:P4 p)(h:Six p a b c d e f):Kj.run Z [.int p,A7 [a,b,c,d,e,f],.int 0]=.ok (At Ab (mtI p a b d e))/\Kj.run Z [.int p,A7 [a,b,c,d,e,f],.int 1]=.ok (At Ab (mtI p b c e f))/\Kj.run Z [.int p,A7 [a,b,c,d,e,f],.int 2]=.ok (At Ab (mtI p c d f a)):=by
 have nf:∀{x:R3},x∈[a,b,c,d,e,f]->NF p x:=λhx=>h.n3.nf _ hx
 have na:=nf (x:=a) (by simp)
 have nb:=nf (x:=b) (by simp)
 have nc:=nf (x:=c) (by simp)
 have nd:=nf (x:=d) (by simp)
 have ne:=nf (x:=e) (by simp)
 have nf':=nf (x:=f) (by simp)
 obtain⟨i0,i1,i2,i3,i4,i5⟩:=Rr (At Ab a) (At Ab b) (At Ab c) (At Ab d) (At Ab e) (At Ab f);refine⟨?_,?_,?_⟩
 .obtain⟨l,l',e1,e2,e3⟩:=hm p a b d e hp na nb nd ne h.ab h.de h.m0.1 h.m0.2;exact Qs (k:=0) i0 i1 i3 i4 e1 e2 e3
 .obtain⟨l,l',e1,e2,e3⟩:=hm p b c e f hp nb nc ne nf' h.bc h.ef h.m1.1 h.m1.2;exact Qs (k:=1) i1 i2 i4 i5 e1 e2 e3
 .obtain⟨l,l',e1,e2,e3⟩:=hm p c d f a hp nc nd nf' na h.cd h.fa h.m2.1 h.m2.2;exact Qs (k:=2) i2 i3 i5 i0 e1 e2 e3
def Xe(Z:Gam):Prop:=∀(p:Af)(pts:Ac R3),P4 p->pts.length<=100->N3 p pts->Z.F 109 [.int p,A7 pts]=.ok .non
noncomputable def GY(p:Af)(a b c d e f:R3):D:=.tup [At Ab (mtI p a b d e),At Ab (mtI p b c e f),At Ab (mtI p c d f a)]
def Wp(Z:Gam):Prop:=∀(p:Af)(a b c d e f:R3),P4 p->Six p a b c d e f->Z.F 210 [.int p,A7 [a,b,c,d,e,f]]=.ok (GY p a b c d e f)
theorem uC(ha:Xe Z)(hs:Wo Z)(p:Af)(a b c d e f:R3)(hp:P4 p)(h:Six p a b c d e f):Lj.run Z [.int p,A7 [a,b,c,d,e,f]]=.ok (GY p a b c d e f):=by
 have e1:=ha p _ hp (by simp) h.n3
 obtain⟨s0,s1,s2⟩:=hs p a b c d e f hp h;have ln:biD .len [A7 [a,b,c,d,e,f]]=.ok (.int 6):=rfl;unfold GY;generalize A7 [a,b,c,d,e,f]=PP at *;generalize At Ab (mtI p a b d e)=X at *;generalize At Ab (mtI p b c e f)=Y_ at *;generalize At Ab (mtI p c d f a)=Z_ at *;simp[Lj,Df.run,By,ln,e1,s0,s1,s2]
theorem Ro(hp:P4 p)(h:Six p a b c d e f):(NF p (mtI p a b d e)/\Pr p (mtI p a b d e) (crs (crs a b) (crs d e)))/\(NF p (mtI p b c e f)/\Pr p (mtI p b c e f) (crs (crs b c) (crs e f)))/\(NF p (mtI p c d f a)/\Pr p (mtI p c d f a) (crs (crs c d) (crs f a))):=
 ⟨MX hp (Jj hp h.m0.1 h.m0.2),MX hp (Jj hp h.m1.1 h.m1.2),MX hp (Jj hp h.m2.1 h.m2.2)⟩
theorem XG(hp:P4 p)(h:Six p a b c d e f):¬ CgR p (crs (mtI p a b d e) (mtI p b c e f)) (0,0,0):=by
 obtain⟨⟨_,p0⟩,⟨_,p1⟩,_⟩:=Ro hp h;refine Xo hp (WH hp p0 p1) (Ws (n:=b) ?_);have:AS b (crs (crs (crs a b) (crs d e)) (crs (crs b c) (crs e f)))=Aq b d e*(Aq b e f*Aq a b c):=by
  rw[QE a b d e,QE b c e f];generalize Aq a d e=α;generalize Aq b d e=β;generalize Aq b e f=γ;generalize Aq c e f=δ;unfold AS crs Aq det;simp only;grind
 rw[this];exact Dc hp h.mj.1 (Dc hp h.mj.2.1 h.mj.2.2)
theorem Oz(hp:P4 p)(h:Six p a b c d e f):mtI p a b d e≠mtI p b c e f:=λq=>by
 refine XG hp h ?_;rw[q];unfold crs;exact⟨Cg.of (by grind),Cg.of (by grind),Cg.of (by grind)⟩
noncomputable def jnI(p:Af)(a b c d e f:R3):R3:=nrm p (crs (mtI p a b d e) (mtI p b c e f))
def xE(Z:Gam):Prop:=∀(p:Af)(a b c d e f:R3),P4 p->Six p a b c d e f->(∀ C,InC p C->A4 p C.l=Aa 1->(∀ x∈[a,b,c,d,e,f],vI C x%p=0)->Z.F 211 [.int p,A7 [a,b,c,d,e,f]]=.ok (.tup [.str (AY "one"),Cp C,GY p a b c d e f,At Ab (jnI p a b c d e f)]))/\((¬ ∃ C,InC p C/\A4 p C.l=Aa 1/\∀ x∈[a,b,c,d,e,f],vI C x%p=0)->Z.F 211 [.int p,A7 [a,b,c,d,e,f]]=.ok (.tup [.str (AY "apart"),GY p a b c d e f]))
theorem lW{M X Y_ J cC P5 F5:D}(e1:Z.F 210 [.int p,PP]=.ok M)(sl:slD PP Ae (Aa 5)=.ok F5)(e2:Z.F 198 [.int p,F5]=.ok cC)(i5:BA PP (.int 5)=.ok P5)(e3:Z.F 126 [.int p,cC,P5]=.ok (.int v))(i0:BA M (.int 0)=.ok X)(i1:BA M (.int 1)=.ok Y_)(e4:v=0->Z.F 57 [.int p,X,Y_]=.ok J):Io.run Z [.int p,PP]=.ok (if v=0 then .tup [.str (AY "one"),cC,M,J] else .tup [.str (AY "apart"),M]):=by
 by_cases hv:v=0
 .have e4':=e4 hv;subst hv;simp[Io,Df.run,By,e1,sl,e2,i5,e3,i0,i1,e4']
 .simp[Io,Df.run,By,e1,sl,e2,i5,e3,i0,i1,hv]
theorem tY(hm:Wp Z)(ht:Wn Z)(hv:Rw Z)(hj:Ot Z)(p:Af)(a b c d e f:R3)(hp:P4 p)(h:Six p a b c d e f):(∀ C,InC p C->A4 p C.l=Aa 1->(∀ x∈[a,b,c,d,e,f],vI C x%p=0)->Io.run Z [.int p,A7 [a,b,c,d,e,f]]=.ok (.tup [.str (AY "one"),Cp C,GY p a b c d e f,At Ab (jnI p a b c d e f)]))/\((¬ ∃ C,InC p C/\A4 p C.l=Aa 1/\∀ x∈[a,b,c,d,e,f],vI C x%p=0)->Io.run Z [.int p,A7 [a,b,c,d,e,f]]=.ok (.tup [.str (AY "apart"),GY p a b c d e f])):=by
 have e1:=hm p a b c d e f hp h;have h5:N3 p [a,b,c,d,e]:=h.n3.sub (List.sublist_append_left [a,b,c,d,e] [f]);obtain⟨⟨n0,_⟩,⟨n1,_⟩,_⟩:=Ro hp h;obtain⟨j,ij,lj,pj,ej⟩:=hj p _ _ hp n0.1 n1.1 n0.2 n1.2 (Oz hp h);have jq:j=jnI p a b c d e f:=Ob hp (XG hp h) ⟨ij,lj⟩ pj;rw[jq]at ej;have run:∀ C,InC p C->Z.F 198 [.int p,A7 [a,b,c,d,e]]=.ok (Cp C)->Io.run Z [.int p,A7 [a,b,c,d,e,f]]=.ok (if vI C f%p=0 then .tup [.str (AY "one"),Cp C,GY p a b c d e f,At Ab (jnI p a b c d e f)] else .tup [.str (AY "apart"),GY p a b c d e f]):=λC iC e2=>
  lW e1 rfl e2 (Rr _ _ _ _ _ _).2.2.2.2.2 (hv p C f hp (iC.b hp) (h.n3.nf f (by simp)).1) rfl rfl (λ_=>ej)
 constructor
 .intro C iC lC on;have F:Five p C [a,b,c,d,e]:=h5.five hp rfl λx hx=>on x (Du [f] hx)
  rw[run C iC (ht p C _ hp iC lC F),Ax (on f (by simp))]
 .intro no;obtain⟨C,iC,lC,_,F⟩:=rY hp h5;rw[run C iC (ht p C _ hp iC lC F),AC];intro hf;refine no ⟨C,iC,lC,λx hx=>?_⟩
  rcases Fs.mp (show x∈[a,b,c,d,e]++[f] from hx) with hx|hx
  .exact F.on x hx
  .rw[Bl.mp hx];exact hf
end
def bY(Z:Gam):Prop:=∀(p:Af)(a b:R3),P4 p->In3 p a->In3 p b->Z.F 161 [At Ab a,At Ab b]=.ok (Bs (crs a b))
theorem d7(Z:Gam)(p:Af)(a b:R3)(hp:P4 p)(ia:In3 p a)(ib:In3 p b):Mz.run Z [At Ab a,At Ab b]=.ok (Bs (crs a b)):=by
 have ba:=FX hp ia;have bb:=FX hp ib;have k:∀ {u v},Bd 10 u->Bd 10 v->EW u v=Ab:=λhu hv=>GS hu hv (by decide) (by decide)
 obtain⟨a0,a1,a2⟩:=a;obtain⟨b0,b1,b2⟩:=b;have ea:∀(x y z:Af)(i j k:Ag)(U:Rho),Hj [i,j,k] (At Ab (x,y,z)) U=.ok (((U.set i (si x)).set j (si y)).set k (si z)):=λ_ _ _ _ _ _ _=>rfl
 simp[Mz,Df.run,By,ea,k ba.2.1 bb.2.2,k ba.2.2 bb.2.1,k ba.2.2 bb.1,k ba.1 bb.2.2,k ba.1 bb.2.1,k ba.2.1 bb.1];rfl
noncomputable def Po:Df:=⟨7,Ad,(.cons (.asgT [4,5,6] (.call 161 (.cons (.var 1) (.cons (.var 2) .nil)))) (.cons (.ret (.bin .Mod (.bin .Add (.bin .Add (.bin .Mult (.var 4) (.idx (.var 3) (.int 0))) (.bin .Mult (.var 5) (.idx (.var 3) (.int 1)))) (.bin .Mult (.var 6) (.idx (.var 3) (.int 2)))) (.var 0))) .nil))⟩
def LO(Z:Gam):Prop:=∀(p:Af)(a b c:R3),P4 p->In3 p a->In3 p b->In3 p c->Z.F 165 [.int p,At Ab a,At Ab b,At Ab c]=.ok (.int (Aq a b c%p))
theorem qN(a b c:R3):AS (crs a b) c=Aq a b c:=by
 unfold AS crs Aq det;grind
theorem d6(h:bY Z)(p:Af)(a b c:R3)(hp:P4 p)(ia:In3 p a)(ib:In3 p b)(ic:In3 p c):Po.run Z [.int p,At Ab a,At Ab b,At Ab c]=.ok (.int (Aq a b c%p)):=by
 have e1:=h p a b hp ia ib;have bc:=FX hp ic;have bx:=bN (FX hp ia) (FX hp ib);have k:∀ {u v},Bd 21 u->Bd 10 v->EW u v=Ab:=λhu hv=>GS hu hv (by decide) (by decide)
 have k0:=k bx.1 bc.1;have k1:=k bx.2.1 bc.2.1;have k2:=k bx.2.2 bc.2.2;have p0:=hp.pos;obtain⟨x0,x1,x2⟩:=Jd Ab c;rw[<-qN];unfold AS;generalize crs a b=w at *;obtain⟨w0,w1,w2⟩:=w;have ea:∀ U:Rho,Hj [4,5,6] (Bs (w0,w1,w2)) U=.ok (((U.set 4 (si w0)).set 5 (si w1)).set 6 (si w2)):=λ_=>rfl
 generalize Bs (w0,w1,w2)=ww at *;simp[Po,Df.run,By,e1,ea,x0,x1,x2,k0,k1,k2,p0]
section
variable{Z:Gam}{p i j k d N:Af}{PP x y u:D}{RL:Ac D}{s t s' t' v:Sl}
end
section
variable{Z:Gam}{p:Af}{pts:Ac R3}
end
section
variable{Z:Gam}{p:Af}{a b c d e f x y:R3}{C:C6}
def Xc(Z:Gam):Prop:=∀(q:Ai)(a b:R3),Bn 100 a->Bn 100 b->Z.F 161 [At q a,At q b]=.ok (Bs (crs a b))
theorem uI(Z:Gam)(q:Ai)(a b:R3)(ba:Bn 100 a)(bb:Bn 100 b):Mz.run Z [At q a,At q b]=.ok (Bs (crs a b)):=by
 have k:∀ {u v},Bd 100 u->Bd 100 v->EW u v=Ab:=λhu hv=>GS hu hv (by decide) (by decide)
 obtain⟨a0,a1,a2⟩:=a;obtain⟨b0,b1,b2⟩:=b;have ea:∀(x y z:Af)(i j k:Ag)(U:Rho),Hj [i,j,k] (At q (x,y,z)) U=.ok (((U.set i (si x)).set j (si y)).set k (si z)):=λ_ _ _ _ _ _ _=>by cases q<;>rfl
 simp[Mz,Df.run,By,ea,k ba.2.1 bb.2.2,k ba.2.2 bb.2.1,k ba.2.2 bb.1,k ba.1 bb.2.2,k ba.1 bb.2.1,k ba.2.1 bb.1];rfl
theorem Bn.mono{m n:Ag}{a:R3}(h:Bn m a)(g:m<=n):Bn n a:=⟨h.1.mono g,h.2.1.mono g,h.2.2.mono g⟩
theorem WI(ba:Bn 10 a)(bb:Bn 10 b):Bn 100 (crs a b):=by
 have k:∀{u v w z:Af},Bd 10 u->Bd 10 v->Bd 10 w->Bd 10 z->Bd 100 (u*v-w*z):=λh1 h2 h3 h4=>((h1.mul h2).sub (h3.mul h4)).mono (by decide)
 exact⟨k ba.2.1 bb.2.2 ba.2.2 bb.2.1,k ba.2.2 bb.1 ba.1 bb.2.2,k ba.1 bb.2.1 ba.2.1 bb.1⟩
def XV(Z:Gam):Prop:=∀(p:Af)(r:R3),P4 p->¬ CgR p r (0,0,0)->Z.F 158 [.int p,Bs r]=.ok (At Ab (nrm p r))
theorem fmN(hf:QV Z):XV Z:=λp r hp z=>by
 obtain⟨l,el⟩:=V4 z;obtain⟨t,it,io,ll,po,eo⟩:=Qt hp el;have ef:=hf p Ad _ l t hp el it;rw[eo]at ef;have q:=Ob hp z ⟨io,ll⟩ po;rw[q]at ef;exact ef
section
variable{cC PP A B C' D' E F L0 L1 L2 L3 L4 L5 U_ V W X Y_ Z_ J Q:D}
end
theorem SU(x y z:R3):flD 4 (.tup [At Ab x,At Ab y,At Ab z])=Ab/\eqD (.tup [At Ab x,At Ab y,At Ab z]) (.tup [At Ab x,At Ab y,At Ab z])=Ab:=by
 refine⟨rfl,?_⟩;show (eqD (At Ab x) (At Ab x)&&(eqD (At Ab y) (At Ab y)&&(eqD (At Ab z) (At Ab z)&&Ab)))=Ab;rw[M1,M1,M1];simp
end
section
variable{Z:Gam}{p:Af}{C:C6}
end
theorem Kq{body:D->Rho->O}(I:Rho->Prop)(f:Ag->D)(g:Ag->Ao D):∀(L:Ac Ag),(∀ m∈L,∀ U,I U->(∃ d,g m=Aa d/\body (f m) U=.ret d Ad)\/(g m=Ae/\∃ U',body (f m) U=.next U'/\I U'))->∀ U,I U->(∃ d,L.findSome? g=Aa d/\CY body (L.map f) U=.ret d Ad)\/(L.findSome? g=Ae/\∃ U',CY body (L.map f) U=.next U'/\I U')
 |[],_,U,i=>.inr ⟨rfl,U,rfl,i⟩
 |m::L,h,U,i=>by
  rcases h m (Ay ..) U i with ⟨d,e1,e2⟩|⟨e1,U',e2,i'⟩
  .refine .inl ⟨d,by rw[GJ,e1],?_⟩
   show (body (f m) U).turn _=_;rw[e2];rfl
  .rcases Kq I f g L (λm' h'=>h m' (Aw _ h')) U' i' with ⟨d,a,b⟩|⟨a,r,b,c⟩
   .refine .inl ⟨d,by rw[GJ,e1];exact a,?_⟩
    show (body (f m) U).turn _=_;rw[e2];exact b
   .refine .inr ⟨by rw[GJ,e1];exact a,r,?_,c⟩
    show (body (f m) U).turn _=_;rw[e2];exact b
noncomputable def at6(pts:Ac R3)(i:Ag):R3:=pts.getD i (0,0,0)
theorem in6(hg:∀ t∈pts,In3 p t)(h:i<pts.length):In3 p (at6 pts i):=by
 have e:at6 pts i=pts[i]:=by simp[at6,h]
 rw[e];exact hg _ (DH h)
theorem b6(hp:P4 p)(hg:∀ t∈pts,In3 p t)(h:i<pts.length):B3 (at6 pts i):=(FX hp (in6 hg h)).b3 (by decide)
noncomputable def Kl:Ss:=(.cons (.ife (.cmp .Eq (.call 165 (.cons (.var 0) (.cons (.idx (.var 1) (.var 2)) (.cons (.idx (.var 1) (.var 3)) (.cons (.idx (.var 1) (.var 4)) .nil))))) (.int 0)) (.cons (.ret (.tup (.cons (.idx (.var 1) (.var 2)) (.cons (.idx (.var 1) (.var 3)) (.cons (.idx (.var 1) (.var 4)) .nil))))) .nil) .nil) .nil)
noncomputable def La:Ss:=(.cons (.fors 4 (.rng2 (.bin .Add (.var 3) (.int 1)) (.int 6)) Kl) .nil)
noncomputable def Kk:Ss:=(.cons (.fors 3 (.rng2 (.bin .Add (.var 2) (.int 1)) (.int 6)) La) .nil)
noncomputable def Ph:Df:=⟨5,Ad,(.cons (.fors 2 (.rng (.int 6)) Kk) (.cons (.ret .non) .nil))⟩
theorem rV(h:i<pts.length):DA (pts.map (At Ab)) (i:Af)=.ok (At Ab (at6 pts i)):=by
 have h':i<(pts.map (At Ab)).length:=by simpa using h
 rw[kX _ i h'];simp[at6,h]
theorem Iz(h:i<pts.length):BA (A7 pts) (.int (i:Af))=.ok (At Ab (at6 pts i)):=rV h
def JX(n:Ag):Prop:=n<20000
theorem W7(hn:JX n)(hj:j<n):CT ((j:Af)+1) (n:Af)=.ok ((A6 (n-(j+1))).map λm=>D.int ((j+1+m:Ag):Af)):=by
 have hn':n<20000:=hn;unfold CT;rw[Ax (by omega)]
 unfold Cb;have e:((n:Af)-((j:Af)+1)).toNat=n-(j+1):=by omega
 rw[e]
 congr 1
theorem X9:∀(xs:Ac D)(s:Ag),FY (s:Af) xs=(A6 xs.length).map λm=>D.tup [.int ((s+m:Ag):Af),xs.getD m .non]
 |[],s=>rfl
 |x::xs,s=>by
  have ih:=X9 xs (s+1);rw[FY,Bm,Ew,Cj,Gq];have e:((s:Af)+1)=((s+1:Ag):Af):=by omega
  rw[e,ih]
  congr 1
  apply Fe
  intro m _;show D.tup [.int ((s+1+m:Ag):Af),xs.getD m .non]=D.tup [.int ((s+(m+1):Ag):Af),(x::xs).getD (m+1) .non];have e2:s+1+m=s+(m+1):=by omega
  rw[e2];rfl
noncomputable def h3_(p:Af)(pts:Ac R3)(i j k:Ag):Ao D:=if Aq (at6 pts i) (at6 pts j) (at6 pts k)%p=0 then Aa (.tup [At Ab (at6 pts i),At Ab (at6 pts j),At Ab (at6 pts k)]) else Ae
noncomputable def h2_(p:Af)(pts:Ac R3)(i j:Ag):Ao D:=(A6 (pts.length-(j+1))).findSome? λm=>h3_ p pts i j (j+1+m)
noncomputable def h1_(p:Af)(pts:Ac R3)(i:Ag):Ao D:=(A6 (pts.length-(i+1))).findSome? λm=>h2_ p pts i (i+1+m)
noncomputable def h0_(p:Af)(pts:Ac R3):Ao D:=(A6 pts.length).findSome? (h1_ p pts)
theorem NY{t:Ag}{it:I}{body:Ss}{xs:Ac D}(h:Fn Z U it=.ok xs):evSs Z U (.cons (.fors t it body) .nil)=CY (BK Z t body) xs U:=by rw[MC,vQ,Qk,h,QP]
theorem UA{j a l:Ag}(hn:JX pts.length)(hj:j<pts.length)(h1:Dk U a=.ok (.int (j:Af)))(h2:Dk U l=.ok (A7 pts)):Fn Z U (.rng2 (.bin .Add (.var a) (.int 1)) (.bi .len (.cons (.var l) .nil)))=.ok ((A6 (pts.length-(j+1))).map λm=>D.int ((j+1+m:Ag):Af)):=by
 have e1:evE Z U (.bin .Add (.var a) (.int 1))=.ok (.int ((j:Af)+1)):=by
  show ((Dk U a).bind λx=>R.bind (.ok (.int 1)) λy=>Dm .Add x y)=_
  rw[h1];rfl
 have e2:evE Z U (.bi .len (.cons (.var l) .nil))=.ok (.int (pts.length:Af)):=by
  show (((Dk U l).bind λx=>R.bind (.ok []) λxs=>.ok (x::xs)).bind λxs=>biD .len xs)=_
  rw[h2];show R.ok (D.int (((pts.map (At Ab)).length:Ag):Af))=_;rw[Bi]
 have e3:∀ x y:E,(∀ r,top U x r=r)->(∀ r,top U y r=r)->∀ i j:Af,evE Z U x=.ok (.int i)->evE Z U y=.ok (.int j)->Fn Z U (.rng2 x y)=CT i j:=λx y tx ty i j hx hy=>by
  rw[Uq,Ql,tx,ty,hx,hy];simp only[R.bind_ok,MD]
 rw[e3 _ _ (λ_=>rfl) (λ_=>rfl) _ _ e1 e2]
 exact W7 hn hj
section
variable{Z:Gam}{p:Af}{pts:Ac R3}
theorem dB(h:LF Z)(hp:P4 p)(hg:∀ t∈pts,In3 p t){k:Ag}(hi:i<pts.length)(hj:j<pts.length)(hk:k<pts.length)(U:Rho)(I:∃ s,U=[si p,sh (A7 pts),si i,sh (At Ab (at6 pts i)),si j,s]):(∃ d,h3_ p pts i j k=Aa d/\BK Z 5 Km (.int (k:Af)) U=.ret d Ad)\/(h3_ p pts i j k=Ae/\∃ U',BK Z 5 Km (.int (k:Af)) U=.next U'/\∃ s,U'=[si p,sh (A7 pts),si i,sh (At Ab (at6 pts i)),si j,s]):=by
 obtain⟨s,rfl⟩:=I;have e:=h p Ab _ _ _ hp.pos (b6 hp hg hi) (b6 hp hg hj) (b6 hp hg hk);by_cases z:Aq (at6 pts i) (at6 pts j) (at6 pts k)%p=0
 .rw[z]at e;exact .inl ⟨_,Ax z,by simp[BK,Km,Iz hj,Iz hk,e,DR]⟩
 .exact .inr ⟨AC z,[si p,sh (A7 pts),si i,sh (At Ab (at6 pts i)),si j,si k],by simp[BK,Km,Iz hj,Iz hk,e,z],_,rfl⟩
theorem dC(h:LF Z)(hp:P4 p)(hg:∀ t∈pts,In3 p t)(hn:JX pts.length)(hi:i<pts.length)(hj:j<pts.length)(U:Rho)(I:∃ s t,U=[si p,sh (A7 pts),si i,sh (At Ab (at6 pts i)),s,t]):(∃ d,h2_ p pts i j=Aa d/\BK Z 4 Lc (.int (j:Af)) U=.ret d Ad)\/(h2_ p pts i j=Ae/\∃ U',BK Z 4 Lc (.int (j:Af)) U=.next U'/\∃ s t,U'=[si p,sh (A7 pts),si i,sh (At Ab (at6 pts i)),s,t]):=by
 obtain⟨s,t,rfl⟩:=I;have e:BK Z 4 Lc (.int (j:Af)) [si p,sh (A7 pts),si i,sh (At Ab (at6 pts i)),s,t]=CY (BK Z 5 Km) ((A6 (pts.length-(j+1))).map λm=>D.int ((j+1+m:Ag):Af)) [si p,sh (A7 pts),si i,sh (At Ab (at6 pts i)),si j,t]:=by
  exact NY (UA hn hj rfl rfl)
 rw[e];rcases Kq (body:=BK Z 5 Km) (λU=>∃ s,U=[si p,sh (A7 pts),si i,sh (At Ab (at6 pts i)),si j,s]) (λm=>D.int ((j+1+m:Ag):Af)) (λm=>h3_ p pts i j (j+1+m)) (A6 (pts.length-(j+1))) (λm hm U I=>dB h hp hg hi hj (by have:=Bp.mp hm;omega) U I) [si p,sh (A7 pts),si i,sh (At Ab (at6 pts i)),si j,t] ⟨t,rfl⟩ with ⟨d,a,b⟩|⟨a,r,b,u,c⟩
 .exact .inl ⟨d,a,b⟩
 .exact .inr ⟨a,r,b,_,u,c⟩
theorem dD(h:LF Z)(hp:P4 p)(hg:∀ t∈pts,In3 p t)(hn:JX pts.length)(hi:i<pts.length)(U:Rho)(I:∃ a b s t,U=[si p,sh (A7 pts),a,b,s,t]):(∃ d,h1_ p pts i=Aa d/\Jh Z [2,3] Iq (.tup [.int ((0+i:Ag):Af),(pts.map (At Ab)).getD i .non]) U=.ret d Ad)\/(h1_ p pts i=Ae/\∃ U',Jh Z [2,3] Iq (.tup [.int ((0+i:Ag):Af),(pts.map (At Ab)).getD i .non]) U=.next U'/\∃ a b s t,U'=[si p,sh (A7 pts),a,b,s,t]):=by
 obtain⟨a,b,s,t,rfl⟩:=I;have e0:(pts.map (At Ab)).getD i .non=At Ab (at6 pts i):=by simp[at6,hi]
 have e:Jh Z [2,3] Iq (.tup [.int ((0+i:Ag):Af),(pts.map (At Ab)).getD i .non]) [si p,sh (A7 pts),a,b,s,t]=CY (BK Z 4 Lc) ((A6 (pts.length-(i+1))).map λm=>D.int ((i+1+m:Ag):Af)) [si p,sh (A7 pts),si i,sh (At Ab (at6 pts i)),s,t]:=by
  have e':∀(x y:D),Jh Z [2,3] Iq (.tup [x,y]) [si p,sh (A7 pts),a,b,s,t]=evSs Z [si p,sh (A7 pts),sh x,sh y,s,t] Iq:=λ_ _=>rfl
  rw[e0,YV,e'];unfold Iq;rw[NY (UA hn hi rfl rfl)]
 rw[e];rcases Kq (body:=BK Z 4 Lc) (λU=>∃ s t,U=[si p,sh (A7 pts),si i,sh (At Ab (at6 pts i)),s,t]) (λm=>D.int ((i+1+m:Ag):Af)) (λm=>h2_ p pts i (i+1+m)) (A6 (pts.length-(i+1))) (λm hm U I=>dC h hp hg hn hi (by have:=Bp.mp hm;omega) U I) [si p,sh (A7 pts),si i,sh (At Ab (at6 pts i)),s,t] ⟨s,t,rfl⟩ with ⟨d,a,b⟩|⟨a,r,b,u,v,c⟩
 .exact .inl ⟨d,a,b⟩
 .exact .inr ⟨a,r,b,_,_,u,v,c⟩
theorem UJ(h:LF Z)(hp:P4 p)(hg:∀ t∈pts,In3 p t)(hn:JX pts.length):PD.run Z [.int p,A7 pts]=.ok ((h0_ p pts).getD .non):=by
 have en:=X9 (pts.map (At Ab)) 0;rw[Bi]at en;have en':FY 0 (pts.map (At Ab))=(A6 pts.length).map λm=>D.tup [.int ((0+m:Ag):Af),(pts.map (At Ab)).getD m .non]:=en
 have hE:Fn Z [si p,sh (A7 pts),Ae,Ae,Ae,Ae] (.enm (.var 1))=.ok ((A6 pts.length).map λm=>D.tup [.int ((0+m:Ag):Af),(pts.map (At Ab)).getD m .non]):=by
  show R.ok (FY 0 (pts.map (At Ab)))=_;rw[en']
 rcases Kq (body:=Jh Z [2,3] Iq) (λU=>∃ a b s t,U=[si p,sh (A7 pts),a,b,s,t]) (λm=>D.tup [.int ((0+m:Ag):Af),(pts.map (At Ab)).getD m .non]) (h1_ p pts) (A6 pts.length) (λm hm U I=>dD h hp hg hn (Bp.mp hm) U I) [si p,sh (A7 pts),Ae,Ae,Ae,Ae] ⟨_,_,_,_,rfl⟩ with ⟨d,a,b⟩|⟨a,r,b,u1,u2,u3,u4,c⟩
 .have e:h0_ p pts=Aa d:=a;show (evSs Z [si p,sh (A7 pts),Ae,Ae,Ae,Ae] (.cons (.forT [2,3] (.enm (.var 1)) Iq) (.cons (.ret .non) .nil))).ans Ad=_;rw[MC,Va,hE,U_6,b,e];rfl
 .have e:h0_ p pts=Ae:=a;subst c;show (evSs Z [si p,sh (A7 pts),Ae,Ae,Ae,Ae] (.cons (.forT [2,3] (.enm (.var 1)) Iq) (.cons (.ret .non) .nil))).ans Ad=_;rw[MC,Va,hE,U_6,b,e];rfl
theorem V6{a:Ag}(hn:pts.length=6)(hj:j<pts.length)(h1:Dk U a=.ok (.int (j:Af))):Fn Z U (.rng2 (.bin .Add (.var a) (.int 1)) (.int 6))=.ok ((A6 (pts.length-(j+1))).map λm=>D.int ((j+1+m:Ag):Af)):=by
 have e1:evE Z U (.bin .Add (.var a) (.int 1))=.ok (.int ((j:Af)+1)):=by
  show ((Dk U a).bind λx=>R.bind (.ok (.int 1)) λy=>Dm .Add x y)=_
  rw[h1];rfl
 have e3:∀ x y:E,(∀ r,top U x r=r)->(∀ r,top U y r=r)->∀ i j:Af,evE Z U x=.ok (.int i)->evE Z U y=.ok (.int j)->Fn Z U (.rng2 x y)=CT i j:=λx y tx ty i j hx hy=>by
  rw[Uq,Ql,tx,ty,hx,hy];simp only[R.bind_ok,MD]
 rw[e3 _ _ (λ_=>rfl) (λ_=>rfl) _ _ e1 (rfl:evE Z U (.int 6)=.ok (.int 6)),hn]
 rw[hn]at hj;exact W7 (n:=6) (show (6:Ag)<20000 by decide) hj
theorem lm6(h:LO Z)(hp:P4 p)(hg:∀ t∈pts,In3 p t){k:Ag}(hi:i<pts.length)(hj:j<pts.length)(hk:k<pts.length):Z.F 165 [.int p,At Ab (at6 pts i),At Ab (at6 pts j),At Ab (at6 pts k)]=.ok (.int (Aq (at6 pts i) (at6 pts j) (at6 pts k)%p)):=h p _ _ _ hp (in6 hg hi) (in6 hg hj) (in6 hg hk)
theorem dF(h:LO Z)(hp:P4 p)(hg:∀ t∈pts,In3 p t){k:Ag}(hi:i<pts.length)(hj:j<pts.length)(hk:k<pts.length)(U:Rho)(I:∃ s,U=[si p,sh (A7 pts),si i,si j,s]):(∃ d,h3_ p pts i j k=Aa d/\BK Z 4 Kl (.int (k:Af)) U=.ret d Ad)\/(h3_ p pts i j k=Ae/\∃ U',BK Z 4 Kl (.int (k:Af)) U=.next U'/\∃ s,U'=[si p,sh (A7 pts),si i,si j,s]):=by
 obtain⟨s,rfl⟩:=I;have e:=lm6 h hp hg hi hj hk;by_cases z:Aq (at6 pts i) (at6 pts j) (at6 pts k)%p=0
 .rw[z]at e;exact .inl ⟨_,Ax z,by simp[BK,Kl,Iz hi,Iz hj,Iz hk,e,DR]⟩
 .exact .inr ⟨AC z,[si p,sh (A7 pts),si i,si j,si k],by simp[BK,Kl,Iz hi,Iz hj,Iz hk,e,z],_,rfl⟩
theorem dG(h:LO Z)(hp:P4 p)(hg:∀ t∈pts,In3 p t)(hn:pts.length=6)(hi:i<pts.length)(hj:j<pts.length)(U:Rho)(I:∃ s t,U=[si p,sh (A7 pts),si i,s,t]):(∃ d,h2_ p pts i j=Aa d/\BK Z 3 La (.int (j:Af)) U=.ret d Ad)\/(h2_ p pts i j=Ae/\∃ U',BK Z 3 La (.int (j:Af)) U=.next U'/\∃ s t,U'=[si p,sh (A7 pts),si i,s,t]):=by
 obtain⟨s,t,rfl⟩:=I;have e:BK Z 3 La (.int (j:Af)) [si p,sh (A7 pts),si i,s,t]=CY (BK Z 4 Kl) ((A6 (pts.length-(j+1))).map λm=>D.int ((j+1+m:Ag):Af)) [si p,sh (A7 pts),si i,si j,t]:=by
  exact NY (V6 hn hj rfl)
 rw[e];rcases Kq (body:=BK Z 4 Kl) (λU=>∃ s,U=[si p,sh (A7 pts),si i,si j,s]) (λm=>D.int ((j+1+m:Ag):Af)) (λm=>h3_ p pts i j (j+1+m)) (A6 (pts.length-(j+1))) (λm hm U I=>dF h hp hg hi hj (by have:=Bp.mp hm;omega) U I) [si p,sh (A7 pts),si i,si j,t] ⟨t,rfl⟩ with ⟨d,a,b⟩|⟨a,r,b,u,c⟩
 .exact .inl ⟨d,a,b⟩
 .exact .inr ⟨a,r,b,_,u,c⟩
theorem dH(h:LO Z)(hp:P4 p)(hg:∀ t∈pts,In3 p t)(hn:pts.length=6)(hi:i<pts.length)(U:Rho)(I:∃ r s t,U=[si p,sh (A7 pts),r,s,t]):(∃ d,h1_ p pts i=Aa d/\BK Z 2 Kk (.int (0+(i:Af))) U=.ret d Ad)\/(h1_ p pts i=Ae/\∃ U',BK Z 2 Kk (.int (0+(i:Af))) U=.next U'/\∃ r s t,U'=[si p,sh (A7 pts),r,s,t]):=by
 obtain⟨r,s,t,rfl⟩:=I;rw[FA];have e:BK Z 2 Kk (.int (i:Af)) [si p,sh (A7 pts),r,s,t]=CY (BK Z 3 La) ((A6 (pts.length-(i+1))).map λm=>D.int ((i+1+m:Ag):Af)) [si p,sh (A7 pts),si i,s,t]:=by
  exact NY (V6 hn hi rfl)
 rw[e];rcases Kq (body:=BK Z 3 La) (λU=>∃ s t,U=[si p,sh (A7 pts),si i,s,t]) (λm=>D.int ((i+1+m:Ag):Af)) (λm=>h2_ p pts i (i+1+m)) (A6 (pts.length-(i+1))) (λm hm U I=>dG h hp hg hn hi (by have:=Bp.mp hm;omega) U I) [si p,sh (A7 pts),si i,s,t] ⟨s,t,rfl⟩ with ⟨d,a,b⟩|⟨a,r,b,u,v,c⟩
 .exact .inl ⟨d,a,b⟩
 .exact .inr ⟨a,r,b,_,u,v,c⟩
theorem jU(h:LO Z)(hp:P4 p)(hg:∀ t∈pts,In3 p t)(hn:pts.length=6):Ph.run Z [.int p,A7 pts]=.ok ((h0_ p pts).getD .non):=by
 have r6:CT 0 6=.ok ((A6 pts.length).map fun(i:Ag)=>D.int (0+(i:Af))):=by rw[hn];rfl
 rcases Kq (body:=BK Z 2 Kk) (λU=>∃ r s t,U=[si p,sh (A7 pts),r,s,t]) (fun(m:Ag)=>D.int (0+(m:Af))) (h1_ p pts) (A6 pts.length) (λm hm U I=>dH h hp hg hn (Bp.mp hm) U I) [si p,sh (A7 pts),Ae,Ae,Ae] ⟨_,_,_,rfl⟩ with ⟨d,a,b⟩|⟨a,r,b,u1,u2,u3,c⟩
 .have e:h0_ p pts=Aa d:=a;show (evSs Z [si p,sh (A7 pts),Ae,Ae,Ae] (.cons (.fors 2 (.rng (.int 6)) Kk) (.cons (.ret .non) .nil))).ans Ad=_;rw[MC,Qk,show Fn Z [si p,sh (A7 pts),Ae,Ae,Ae] (.rng (.int 6))=_ from r6,QP,b,e]
  rfl
 .have e:h0_ p pts=Ae:=a;subst c;show (evSs Z [si p,sh (A7 pts),Ae,Ae,Ae] (.cons (.fors 2 (.rng (.int 6)) Kk) (.cons (.ret .non) .nil))).ans Ad=_;rw[MC,Qk,show Fn Z [si p,sh (A7 pts),Ae,Ae,Ae] (.rng (.int 6))=_ from r6,QP,b,e]
  rfl
end
section
variable{Z:Gam}{p:Af}{pts:Ac R3}
theorem VP(h:h0_ p pts=Aa d):∃ x y u,x∈pts/\y∈pts/\u∈pts/\d=.tup [At Ab x,At Ab y,At Ab u]:=by
 have mem:∀{i:Ag},i<pts.length->at6 pts i∈pts:=λ{i} hi=>by
  have e:at6 pts i=pts[i]:=by simp[at6,hi]
  rw[e];exact DH hi
 obtain⟨i,hi,h1⟩:=Ea h;obtain⟨j,hj,h2⟩:=Ea h1;obtain⟨k,hk,h3⟩:=Ea h2;have hi:=Bp.mp hi;have hj:=Bp.mp hj;have hk:=Bp.mp hk;unfold h3_ at h3;split at h3
 .cases h3;exact⟨_,_,_,mem hi,mem (by omega),mem (by omega),rfl⟩
 .cases h3
theorem Ja(h:h0_ p pts=Ae){k:Ag}(h1:i<j)(h2:j<k)(h3:k<pts.length):Aq (at6 pts i) (at6 pts j) (at6 pts k)%p≠0:=by
 have a:=Cy.mp h i (Bp.mpr (by omega))
 have b:=Cy.mp a (j-(i+1)) (Bp.mpr (by omega))
 rw[show i+1+(j-(i+1))=j by omega]at b
 have c:=Cy.mp b (k-(j+1)) (Bp.mpr (by omega))
 rw[show j+1+(k-(j+1))=k by omega]at c
 unfold h3_ at c;split at c
 .cases c
 .rename_i z;exact z
theorem Nq(x y u:R3):Aq y x u=-Aq x y u:=by
 unfold Aq det;grind
theorem O1(x y u:R3):Aq x u y=-Aq x y u:=by
 unfold Aq det;grind
theorem RH(h:x%p≠0):(-x)%p≠0:=λz=>h (Yl (Yk.mp (Int.dvd_of_emod_eq_zero z)))
theorem dxx(x u:R3):Aq x x u=0/\Aq x u x=0/\Aq u x x=0:=by
 unfold Aq det;refine⟨?_,?_,?_⟩<;>grind
theorem ce(hn:pts.length=6)(nf:∀ x∈pts,NF p x)(h:h0_ p pts=Ae):N3 p pts:=by
 have idx:∀ x∈pts,∃ i,i<pts.length/\x=at6 pts i:=λx hx=>by
  obtain⟨i,hi,rfl⟩:=Fd hx;exact⟨i,hi,by simp[at6,hi]⟩
 have ne:∀ i j,i<j->j<pts.length->at6 pts i≠at6 pts j:=λi j hij hj e=>by
  by_cases c1:j<5
  .exact Ja h hij (DJ j) (by omega) (by rw[e,(dxx _ _).1,Bk])
  .by_cases c2:i+1<j
   .exact Ja h (DJ i) c2 hj (by rw[e,(dxx _ _).2.1,Bk])
   .exact Ja h (show 0<i by omega) hij hj (by rw[e,(dxx _ _).2.2,Bk])
 refine⟨?_,nf,λx y u hx hy hu nxy nxu nyu=>?_⟩
 .rw[List.nodup_iff_pairwise_ne,List.pairwise_iff_getElem];intro i j hi hj hij;have:=ne i j hij hj;simpa [at6,hi,hj] using this
 .obtain⟨i,hi,rfl⟩:=idx x hx;obtain⟨j,hj,rfl⟩:=idx y hy;obtain⟨k,hk,rfl⟩:=idx u hu;have a1:i≠j:=λe=>nxy (by rw[e])
  have a2:i≠k:=λe=>nxu (by rw[e])
  have a3:j≠k:=λe=>nyu (by rw[e])
  rcases G5 a1 with b1|b1<;>rcases G5 a2 with b2|b2<;>rcases G5 a3 with b3|b3
  .exact Ja h b1 b3 hk
  .rw[O1];exact RH (Ja h b2 b3 hj)
  .omega
  .rw[O1,Nq,J9];exact Ja h b2 b1 hj
  .rw[Nq];exact RH (Ja h b1 b2 hk)
  .omega
  .rw[Nq,O1,J9];exact Ja h b3 b2 hi
  .rw[Nq,O1,Nq,J9];exact RH (Ja h b3 b1 hi)
noncomputable def onl(d:D):Ex:=⟨118,[(AY "points",d)]⟩
theorem vV{x u:R3}(hp:P4 p)(hx:In3 p x)(hy:In3 p y)(hu:In3 p u)(e:d=.tup [At Ab x,At Ab y,At Ab u]):mkX 118 "points" [d]=.ok (onl d):=by
 have ph:=hp.hi;have one:∀{a:R3},In3 p a->xfD 1 (At Ab a)=Ab:=λ{a} h=>by
  obtain⟨⟨x0,x1⟩,⟨y0,y1⟩,z0,z1⟩:=h;show (C2 3 8&&([D.int a.1,.int a.2.1,.int a.2.2].all (xfD 0)))=Ab;simp[xfD];omega
 have e2:xfD 2 d=Ab:=by
  rw[e];show (C2 3 8&&([At Ab x,At Ab y,At Ab u].all (xfD 1)))=Ab;simp[one hx,one hy,one hu]
 show (if (xfD 1 d||xfD 2 d)=Ab then R.ok (onl d) else .bad)=_
 rw[e2,HE];rfl
noncomputable def LD:Df:=⟨3,Ad,(.cons (.asg 2 Ad (.call 65 (.cons (.var 0) (.cons (.var 1) .nil)))) (.cons (.ife (.cmp .IsNot (.var 2) .non) (.cons (.rais 118 (.cons (.var 2) .nil)) .nil) .nil) .nil))⟩
theorem pE(e:Z.F 65 [.int p,PP]=.ok .non):LD.run Z [.int p,PP]=.ok .non:=by
 simp[LD,Df.run,By,e]
theorem iQ{ds:Ac D}(e:Z.F 65 [.int p,PP]=.ok (.tup ds))(hx:Z.xn 118 [.tup ds]=.ok (onl (.tup ds))):LD.run Z [.int p,PP]=.exn (onl (.tup ds)):=by
 simp[LD,Df.run,By,e,hx]
theorem iP{x:Ex}(ln:biD .len [PP]=.ok (.int 6))(e:Z.F 109 [.int p,PP]=.exn x):Lj.run Z [.int p,PP]=.exn x:=by
 simp[Lj,Df.run,By,ln,e]
theorem jW{x:Ex}(e:Z.F 210 [.int p,PP]=.exn x):Io.run Z [.int p,PP]=.exn x:=by
 simp[Io,Df.run,By,e]
noncomputable def Ld:Df:=⟨6,Ad,(.cons (.asg 3 Ad .non) (.cons (.asg 4 Ad .non) (.cons (.tryx (.cons (.ife (.var 2) (.cons (.asg 3 Ad (.call 211 (.cons (.var 0) (.cons (.var 1) .nil)))) .nil) (.cons (.asg 3 Ad (.call 210 (.cons (.var 0) (.cons (.var 1) .nil)))) .nil)) .nil) 0 5 (.cons (.asg 4 Ad (.str (AY "odd"))) (.cons (.ife (.and (.cons (.isi (.var 5) [.cls 118]) (.cons (.isi (.var 5) [.verr]) .nil))) (.cons (.asg 4 Ad (.fld (.var 5) (AY "points"))) .nil) .nil) .nil))) (.cons (.ret (.tup (.cons (.var 3) (.cons (.var 4) .nil)))) .nil))))⟩
theorem uE(w:Ai)(e:Z.F 210 [.int p,PP]=.exn (onl d))(e':Z.F 211 [.int p,PP]=.exn (onl d))(hu:Z.up 118=[118,0]):Ld.run Z [.int p,PP,.bl w]=.ok (.tup [.non,d]):=by
 unfold onl at e e';cases w<;>simp[Ld,Df.run,By,e,e',hu,kiD,Em,Np]
theorem Og{M T:D}(w:Ai)(e:Z.F 210 [.int p,PP]=.ok M)(e':Z.F 211 [.int p,PP]=.ok T):Ld.run Z [.int p,PP,.bl w]=.ok (.tup [if w=Ab then T else M,.non]):=by
 cases w<;>simp[Ld,Df.run,By,e,e']
end
noncomputable def MB:E:=(.call 157 (.cons (.var 0) (.cons (.bin .FloorDiv (.call 155 (.cons (.var 1) (.cons (.bin .Add (.int 12) (.var 8)) .nil))) (.int 5)) .nil)))
noncomputable def Nw:E:=(.cmp .Eq (.call 162 (.cons (.var 0) (.cons (.var 4) (.cons (.var 9) .nil)))) (.int 0))
noncomputable def Pw:E:=(.var 9)
noncomputable def K9:Ss:=(.cons (.apop 6 5 (.bin .Mod (.bin .FloorDiv (.call 155 (.cons (.var 1) (.cons (.bin .Add (.int 18) (.var 7)) .nil))) (.int 3)) (.bi .len (.cons (.var 5) .nil)))) .nil)
noncomputable def IW:Df:=⟨10,Ad,(.cons (.asg 2 Ad (.comp MB 8 (.rng (.int 6)) Cr)) (.cons (.asg 3 Ad (.bin .FloorDiv (.call 155 (.cons (.var 1) (.cons (.int 10) .nil))) (.int 3))) (.cons (.ife (.and (.cons (.cmp .Gt (.var 0) (.int 3)) (.cons (.cmp .Gt (.bin .Mod (.var 3) (.int 4)) (.int 0)) .nil))) (.cons (.asg 4 Ad (.call 163 (.cons (.var 0) (.cons (.call 159 (.cons (.var 0) (.cons (.var 1) (.cons (.int 1) .nil)))) (.cons (.int 0) .nil))))) (.cons (.asg 5 Ab (.comp Pw 9 (.e (.call 164 (.cons (.var 0) .nil))) Nw)) (.cons (.asg 6 Ab (.lst .nil)) (.cons (.fors 7 (.rng (.int 6)) K9) (.cons (.ife (.cmp .Eq (.bin .Mod (.var 3) (.int 4)) (.int 1)) (.cons (.put 6 (.bin .Mod (.bin .FloorDiv (.var 3) (.int 4)) (.int 6)) (.idx (.var 2) (.int 0))) .nil) .nil) (.cons (.rel 6) (.cons (.asg 2 Ad (.var 6)) .nil))))))) .nil) (.cons (.ret (.var 2)) .nil))))⟩
section
variable{Z:Gam}{ns:Ac Af}{p:Af}{C:C6}
theorem t64(hm:KD Z 155 ns){s1 s2 s3 s4:Sl}{r:Rho}{f l:Ac R3}{s5:Sl}(ha:0<=18+k)(hl:0<l.length)(h1:l.length<=1000)(h2:f.length<=1000):∃ f' l',f'.length=f.length+1/\l'.length+1=l.length/\(f'++l').Perm (f++l)/\BK Z 7 K9 (.int k) (s1::sh (scr ns)::s2::s3::s4::ow l::ow f::s5::r)=.next (s1::sh (scr ns)::s2::s3::s4::ow l'::ow f'::si k::r):=by
 obtain⟨m,m0,e⟩:=hm (18+k) ha;have hL:(0:Af)<l.length:=by omega
 have q0:=Bo (m/3) (b:=(l.length:Af)) (by omega)
 have q1:=Bf (m/3) hL;obtain⟨i,hi⟩:∃ i:Ag,m/3%(l.length:Af)=(i:Af):=⟨(m/3%(l.length:Af)).toNat,by omega⟩
 have il:i<l.length:=by omega
 have sz:∀ n:Ag,n<=1001->Dz n=Ab:=λn hn=>by
  unfold Dz;exact Nat.ble_eq.mpr (by omega)
 have pa:=λU:Rho=>tO U 6 5 f l i l[i] (Be il) rfl (sz _ (by omega)) (sz _ (by omega))
 refine⟨f++[l[i]],l.eraseIdx i,by simp,by rw[List.length_eraseIdx_of_lt il];omega,?_,?_⟩
 .rw[List.append_assoc];exact List.Perm.append_left _ (TC l i il)
 .have ln:biD .len [A7 l]=.ok (.int l.length):=by
   show R.ok (D.int ((l.map (At Ab)).length:Af))=_;rw[Bi]
  have o1:∀(a b c d e g:Sl)(r:Rho),Cw (a::b::c::d::e::ow l::ow f::g::r) 6=.ok (f.map (At Ab)):=λ_ _ _ _ _ _ _=>rfl
  have o2:∀(a b c d e g:Sl)(r:Rho),Cw (a::b::c::d::e::ow l::ow f::g::r) 5=.ok (l.map (At Ab)):=λ_ _ _ _ _ _ _=>rfl
  have t4:∀(a b c d e g:Sl)(r:Rho),Dk (a::b::c::d::e::ow l::ow f::g::r) 5=.ok (A7 l):=λ_ _ _ _ _ _ _=>rfl
  generalize hT:ow (f++[l[i]])=F' at *;generalize hU:ow (l.eraseIdx i)=L' at *;generalize ow l=OL at *;generalize ow f=OF at *;generalize A7 l=RL at *;generalize f.map (At Ab)=FM at *;generalize l.map (At Ab)=LM at *;generalize hn:(l.length:Af)=N at *;simp[BK,K9,lE,o1,o2,t4,ln,e,hi,hL,pa]
theorem l64(hm:KD Z 155 ns){s1 s2 s3 s4:Sl}{r:Rho}:∀(n:Ag)(k:Af)(f l:Ac R3)(s5:Sl),0<=k->n<=l.length->f.length+l.length<=1000->∃ f' l' s5',f'.length=f.length+n/\(f'++l').Perm (f++l)/\CY (BK Z 7 K9) (Cb k n) (s1::sh (scr ns)::s2::s3::s4::ow l::ow f::s5::r)=.next (s1::sh (scr ns)::s2::s3::s4::ow l'::ow f'::s5'::r)
 |0,k,f,l,s5,_,_,_=>⟨f,l,s5,rfl,Yq _,rfl⟩
 |n+1,k,f,l,s5,hk,hl,hz=>by
  obtain⟨f1,l1,a1,a2,a3,a4⟩:=t64 hm (k:=k) (s1:=s1) (s2:=s2) (s3:=s3) (s4:=s4) (r:=r) (f:=f) (l:=l) (s5:=s5) (by omega) (by omega) (by omega) (by omega)
  obtain⟨f2,l2,s5',b1,b2,b3⟩:=l64 hm (s1:=s1) (s2:=s2) (s3:=s3) (s4:=s4) (r:=r) n (k+1) f1 l1 (si k) (by omega) (by omega) (by omega)
  refine⟨f2,l2,s5',by omega,b2.trans a3,?_⟩
  rw[jT];show (BK Z 7 K9 (.int k) _).turn _=_;rw[a4];exact b3
def bX(Z:Gam):Prop:=∀(p n:Af),P4 p->∃ x,NF p x/\Z.F 157 [.int p,.int n]=.ok (At Ab x)
theorem cy(Z:Gam)(p n:Af)(hp:P4 p):∃ x,NF p x/\IY.run Z [.int p,.int n]=.ok (At Ab x):=by
 have pp:D4 p p=Ab:=IZ (by have:=hp.lo;omega) (by have:=hp.hi;omega)
 have p0:=hp.pos;have ph:=hp.hi;have N0:0<p*p+p+1:=by have:=Ik p0 p0;omega
 have h0:=Bo n (Int.ne_of_gt N0);have h1:=Bf n N0;have pb:p<1073741824:=by omega
 refine⟨ptI p (n%(p*p+p+1)),Xn hp h0 h1,?_⟩;generalize hr:n%(p*p+p+1)=r at *;unfold ptI;by_cases z0:r=0
 .rw[Ax z0];simp[IY,Df.run,By,pp,N0,hr,z0];rfl
 .rw[AC z0];by_cases z1:r<=p
  .rw[Ax z1];simp[IY,Df.run,By,pp,N0,hr,z0,z1];rfl
  .rw[AC z1];simp[IY,Df.run,By,pp,N0,hr,z0,z1,p0,pb];rfl
theorem Uu{g:D->R Ai}{f:D->R D}:∀ L:Ac D,(∀ x∈L,g x=.ok Ab/\∃ y,NF p y/\f x=.ok (At Ab y))->∃ ys:Ac R3,ys.length=L.length/\(∀ y∈ys,NF p y)/\BD g f L=.ok (ys.map (At Ab))
 |[],_=>⟨[],rfl,(λ_ z=>(nomatch z)),rfl⟩
 |x::L,h=>by
  obtain⟨h1,y,ny,h2⟩:=h x Ay;obtain⟨ys,a,b,c⟩:=Uu L λz hz=>h z (Aw _ hz)
  refine⟨y::ys,by simp[a],λz hz=>?_,?_⟩
  .rcases Av.mp hz with rfl|hz
   .exact ny
   .exact b z hz
  .show (g x).bind _=_;rw[h1,R.bind_ok,Ax rfl,h2,R.bind_ok,c];rfl
structure H64s (Z:Gam) (ns:Ac Af):Prop where
 mi:KD Z 155 ns
 pt:bX Z
 tb:bV Z 159 ns
 cv:bZ Z
 al:XX Z
 lv:Xa Z
section
variable{S RR cC AL X0:D}{as lm P0 L6:Ac D}{OL OL' s7:Sl}{m:Af}{j:Ag}
theorem jS(cp0:BD (cG Z [si p,sh S,Ae,Ae,Ae,Ae,Ae,Ae,Ae,Ae] 8 Cr) (cF Z [si p,sh S,Ae,Ae,Ae,Ae,Ae,Ae,Ae,Ae] 8 MB) (Cb 0 6)=.ok P0)(em:Z.F 155 [S,.int 10]=.ok (.int m))(c:¬ (3<p/\0<m/3%4)):IW.run Z [.int p,S]=.ok (.lst P0):=by
 have rg:CT 0 6=.ok (Cb 0 6):=by rfl
 generalize Cb 0 6=RL at *;by_cases c1:3<p
 .have c2:¬ 0<m/3%4:=λz=>c ⟨c1,z⟩
  simp[IW,Df.run,By,rg,cp0,em,c1,c2,DR]
 .simp[IW,Df.run,By,rg,cp0,em,c1,DR]
theorem jR(cp0:BD (cG Z [si p,sh S,Ae,Ae,Ae,Ae,Ae,Ae,Ae,Ae] 8 Cr) (cF Z [si p,sh S,Ae,Ae,Ae,Ae,Ae,Ae,Ae,Ae] 8 MB) (Cb 0 6)=.ok P0)(em:Z.F 155 [S,.int 10]=.ok (.int m))(c1:3<p)(c2:0<m/3%4)(tb:Z.F 159 [.int p,S,.int 1]=.ok RR)(cv:Z.F 163 [.int p,RR,.int 0]=.ok cC)(al:Z.F 164 [.int p]=.ok AL)(sq:Db AL=.ok as)(cp:BD (cG Z [si p,sh S,sh (.lst P0),si (m/3),sh cC,Ae,Ae,Ae,Ae,Ae] 9 Nw) (cF Z [si p,sh S,sh (.lst P0),si (m/3),sh cC,Ae,Ae,Ae,Ae,Ae] 9 Pw) as=.ok lm)(eO:(Aa (.lst lm,Ab):Sl)=OL)(lp:CY (BK Z 7 K9) (Cb 0 6) [si p,sh S,sh (.lst P0),si (m/3),sh cC,OL,Aa (.lst [],Ab),Ae,Ae,Ae]=.next [si p,sh S,sh (.lst P0),si (m/3),sh cC,OL',Aa (.lst L6,Ab),s7,Ae,Ae])(x0:DA P0 0=.ok X0)(pl:plD L6.length (m/3/4%6)=Aa j):IW.run Z [.int p,S]=.ok (.lst (if m/3%4=1 then L6.set j X0 else L6)):=by
 have rg:CT 0 6=.ok (Cb 0 6):=by rfl
 generalize Cb 0 6=RL at *;have o6:∀(a b c d e f g h i:Sl),Cw [a,b,c,d,e,f,Aa (.lst L6,Ab),g,h,i] 6=.ok L6:=λ_ _ _ _ _ _ _ _ _=>rfl
 by_cases c3:m/3%4=1
 .rw[Ax c3];simp[IW,Df.run,By,rg,cp0,em,c1,c2,c3,tb,cv,al,sq,cp,eO,lp,x0,pl,QQ,VT,o6,DR]
 .rw[AC c3];simp[IW,Df.run,By,rg,cp0,em,c1,c2,c3,tb,cv,al,sq,cp,eO,lp,VT,DR]
end
theorem gv{x:D}{l:Ac D}:DA (x::l) 0=.ok x:=by
 have h:plD (x::l).length 0=Aa 0:=by
  unfold plD;rw[Ax (by decide),Ax (by rw[Bm];omega)]
  rfl
 unfold DA;rw[h];rfl
def bW(Z:Gam)(ns:Ac Af):Prop:=∀ p:Af,P4 p->∃ pts:Ac R3,pts.length=6/\(∀ x∈pts,NF p x)/\Z.F 214 [.int p,scr ns]=.ok (A7 pts)
theorem cx(h:H64s Z ns)(p:Af)(hp:P4 p):∃ pts:Ac R3,pts.length=6/\(∀ x∈pts,NF p x)/\IW.run Z [.int p,scr ns]=.ok (A7 pts):=by
 obtain⟨P0,l0,n0,cp0⟩:=Uu (p:=p) (g:=cG Z [si p,sh (scr ns),Ae,Ae,Ae,Ae,Ae,Ae,Ae,Ae] 8 Cr) (f:=cF Z [si p,sh (scr ns),Ae,Ae,Ae,Ae,Ae,Ae,Ae,Ae] 8 MB) (Cb 0 6) λx hx=>by
  obtain⟨k,_,rfl⟩:=lU hx;refine⟨rfl,?_⟩;obtain⟨m,m0,e⟩:=h.mi (12+(0+(k:Af))) (by omega)
  obtain⟨y,ny,ey⟩:=h.pt p (m/5) hp;refine⟨y,ny,?_⟩;generalize 0+(k:Af)=K at *;generalize At Ab y=Y_ at *;generalize scr ns=S at *;simp[cF,MB,e,ey]
 have l6:P0.length=6:=l0;obtain⟨m,_,em⟩:=h.mi 10 (by decide)
 by_cases c:3<p/\0<m/3%4
 .obtain⟨x,y,z,g,tb⟩:=h.tb p hp;obtain⟨C,iC,lC,pC,cv⟩:=h.cv p x y z 0 g (.inl rfl);have al:=h.al p hp;have sq:Db (A7 (GE p))=.ok ((GE p).map (At Ab)):=rfl;have cp:BD (cG Z [si p,sh (scr ns),sh (.lst (P0.map (At Ab))),si (m/3),sh (Cp C),Ae,Ae,Ae,Ae,Ae] 9 Nw) (cF Z [si p,sh (scr ns),sh (.lst (P0.map (At Ab))),si (m/3),sh (Cp C),Ae,Ae,Ae,Ae,Ae] 9 Pw) ((GE p).map (At Ab))=.ok ((Mg p C).map (At Ab)):=by
   refine Uw (GE p) λu hu=>⟨?_,rfl⟩
   have e:=h.lv p C u hp iC ((HR hp).mp hu).1;generalize vI C u%p=v at *;generalize Cp C=cC at *;generalize scr ns=S at *;generalize At Ab u=xx at *;generalize D.lst (P0.map (At Ab))=PP at *;simp[cG,Nw,e];rw[DS];simp
  have len:6<=(Mg p C).length/\(Mg p C).length<=1000:=by
   rw[pK (.inl rfl) hp g.nz pC];have c1:=c.1;rcases hp with rfl|rfl|rfl|rfl
   .omega
   all_goals decide
  obtain⟨f,l,s7,f6,pm,lp⟩:=l64 h.mi (s1:=si p) (s2:=sh (.lst (P0.map (At Ab)))) (s3:=si (m/3)) (s4:=sh (Cp C)) (r:=[Ae,Ae]) 6 0 [] (Mg p C) Ae (by decide) len.1 (by simpa using len.2)
  rw[List.nil_append]at pm;have nf:∀ u∈f,NF p u:=λu hu=>(HR hp).mp (BU.mp (pm.mem_iff.mp (Du l hu))).1
  obtain⟨x0,P1,rfl⟩:∃ a b,P0=a::b:=by
   cases P0 with
   |nil=>cases l6
   |cons a b=>exact⟨a,b,rfl⟩
  have f6':(f.map (At Ab)).length=6:=by rw[Bi];exact f6.trans (by simp)
  have q0:=Bo (m/3/4) (b:=6) (by decide)
  have q1:=Bf (m/3/4) (b:=6) (by decide)
  have pl:plD (f.map (At Ab)).length (m/3/4%6)=Aa (m/3/4%6).toNat:=by
   unfold plD;rw[Ax q0,f6',Ax (by exact q1)]
  have r:=jR cp0 em c.1 c.2 tb cv al sq cp rfl lp (gv (x:=At Ab x0) (l:=P1.map (At Ab))) pl;by_cases c3:m/3%4=1
  .rw[Ax c3]at r;refine⟨f.set (m/3/4%6).toNat x0,by rw[A5];simpa using f6',λu hu=>?_,?_⟩
   .rcases YJ hu with q|q
    .exact nf u q
    .rw[q];exact n0 x0 Ay
   .rw[r];show R.ok (D.lst ((f.map (At Ab)).set _ (At Ab x0)))=R.ok (D.lst ((f.set _ x0).map (At Ab)));rw[List.map_set]
  .rw[AC c3]at r;exact⟨f,by simpa using f6',nf,r⟩
 .exact⟨P0,l6,n0,jS cp0 em c⟩
end
noncomputable def Py:E:=(.call 161 (.cons (.idx (.var 2) (.var 10)) (.cons (.idx (.var 2) (.bin .Mod (.bin .Add (.var 10) (.int 1)) (.int 6))) .nil)))
noncomputable def Px:E:=(.call 158 (.cons (.var 1) (.cons (.call 161 (.cons (.idx (.var 8) (.var 11)) (.cons (.idx (.var 8) (.bin .Add (.var 11) (.int 3))) .nil))) .nil)))
noncomputable def Lh:Df:=⟨12,Ad,(.cons (.asg 1 Ad (.call 156 (.cons (.var 0) .nil))) (.cons (.asg 2 Ad (.call 214 (.cons (.var 1) (.cons (.var 0) .nil)))) (.cons (.asg 3 Ad (.call 215 (.cons (.var 1) (.cons (.var 2) .nil)))) (.cons (.asgT [4,5] (.call 216 (.cons (.var 1) (.cons (.bi .list (.cons (.var 2) .nil)) (.cons (.bl Ad) .nil))))) (.cons (.asgT [6,7] (.call 216 (.cons (.var 1) (.cons (.bi .list (.cons (.var 2) .nil)) (.cons (.bl Ab) .nil))))) (.cons (.ife (.cmp .IsNot (.var 3) .non) (.cons (.ret (.and (.cons (.cmp .Is (.var 4) .non) (.cons (.cmp .Is (.var 6) .non) (.cons (.cmp .Eq (.var 5) (.var 3)) (.cons (.cmp .Eq (.var 7) (.var 3)) .nil)))))) .nil) .nil) (.cons (.ife (.or (.cons (.cmp .IsNot (.var 5) .non) (.cons (.cmp .IsNot (.var 7) .non) (.cons (.no (.isi (.var 4) [.tuple])) (.cons (.no (.isi (.var 6) [.tuple])) .nil))))) (.cons (.ret (.bl Ad)) .nil) .nil) (.cons (.asg 8 Ad (.comp Py 10 (.rng (.int 6)) Cr)) (.cons (.asg 9 Ad (.bi .tuple (.cons (.comp Px 11 (.rng (.int 3)) Cr) .nil))) (.cons (.ife (.or (.cons (.cmp .NotEq (.var 4) (.var 9)) (.cons (.cmp .NotEq (.bi .lset (.cons (.var 9) .nil)) (.int 3)) .nil))) (.cons (.ret (.bl Ad)) .nil) .nil) (.cons (.ret (.and (.cons (.cmp .In (.idx (.var 6) (.int 0)) (.tup (.cons (.str (AY "one")) (.cons (.str (AY "apart")) .nil)))) (.cons (.cmp .Eq (.idx (.var 6) (.bin .Sub (.un .USub (.int 1)) (.bi .int (.cons (.cmp .Eq (.idx (.var 6) (.int 0)) (.str (AY "one"))) .nil)))) (.var 9)) .nil)))) .nil)))))))))))⟩
section
variable{Z:Gam}{ns:Ac Af}{p:Af}
theorem h9{S PP:D}{ds:Ac D}(e1:Z.F 156 [S]=.ok (.int p))(e2:Z.F 214 [.int p,S]=.ok PP)(e3:Z.F 215 [.int p,PP]=.ok (.tup ds))(li:biD .list [PP]=.ok PP)(e4:∀ w,Z.F 216 [.int p,PP,.bl w]=.ok (.tup [.non,.tup ds]))(fd:flD 5 (.tup ds)=Ab)(qd:eqD (.tup ds) (.tup ds)=Ab):Lh.run Z [S]=.ok (.bl Ab):=by
 generalize hd:D.tup ds=d at *;have i1:B1 .IsNot d .non=.ok (.bl Ab):=by rw[<-hd];rfl
 simp[Lh,Df.run,By,e1,e2,e3,li,e4,fd,qd,i1]
end
section
variable{Z:Gam}{ns:Ac Af}{p:Af}{a b c d e f x y u:R3}
theorem jB{g:α->Af}:∀{l:Ac α},HZ (l.map g)=Ab->∀ x∈l,∀ y∈l,g x=g y->x=y:=by
 intro l
 induction l with
 |nil=>intro _ x hx;cases hx
 |cons a r ih=>
  intro h x hx y hy e;obtain⟨h1,h2⟩:=(Ak _ _).mp (show (!(r.map g).contains (g a)&&HZ (r.map g))=Ab from h)
  have na:∀ z∈r,g z≠g a:=λz hz q=>by
   have:(r.map g).contains (g a)=Ab:=List.contains_iff_mem.mpr (q ▸ YH hz);rw[this]at h1;cases h1
  rcases Av.mp hx with hx'|hx'<;>rcases Av.mp hy with hy'|hy'
  .exact hx'.trans hy'.symm
  .exact absurd (hx' ▸ e).symm (na y hy')
  .exact absurd (hy' ▸ e) (na x hx')
  .exact ih h2 x hx' y hy' e
noncomputable def hsR(x:R3):Af:=Gi [x.1,x.2.1,x.2.2]
theorem wJ(hp:P4 p):HZ ((GE p).map hsR)=Ab:=by
 rcases hp with rfl|rfl|rfl|rfl<;>decide+kernel
theorem RP(hp:P4 p)(hx:NF p x)(hy:NF p y)(ne:x≠y):hsR x≠hsR y:=λz=>ne (jB (wJ hp) x ((HR hp).mpr hx) y ((HR hp).mpr hy) z)
theorem vW(hp:P4 p)(hx:NF p x)(hy:NF p y)(hu:NF p u)(n1:x≠y)(n2:x≠u)(n3:y≠u):biD .lset [.tup [At Ab x,At Ab y,At Ab u]]=.ok (.int 3):=by
 have h1:=RP hp hx hy n1;have h2:=RP hp hx hu n2;have h3:=RP hp hy hu n3;have k:HZ [hsR x,hsR y,hsR u]=Ab:=by
  simp[HZ,h1,h2,h3]
 show (if (Ab&&HZ [hsR x,hsR y,hsR u])=Ab then R.ok (D.int 3) else R.bad)=_
 rw[k];rfl
theorem cg0(h:v%p=0):Cg p v 0:=(show v%p=0%p from h.trans (Bk p).symm)
theorem vS(hp:P4 p)(h1:Aq a d e%p≠0)(h2:Aq a d b%p≠0):mtI p d e a b=mtI p a b d e:=by
 obtain⟨n,q⟩:=MX hp (Jj hp h1 h2);obtain⟨k,kz,kc⟩:=q;have cs:crs (crs d e) (crs a b)=B0 (-1) (crs (crs a b) (crs d e)):=by
  unfold B0 crs;simp only[Hf];refine⟨?_,?_,?_⟩<;>grind
 have q':Pr p (nrm p (crs (crs a b) (crs d e))) (crs (crs d e) (crs a b)):=by
  refine⟨-1*k,Dc hp hp.m1 kz,?_⟩;rw[cs];have:B0 (-1*k) (B0 (-1) (crs (crs a b) (crs d e)))=B0 k (crs (crs a b) (crs d e)):=by
   unfold B0;simp only[Hf];refine⟨?_,?_,?_⟩<;>grind
  rw[this];exact kc
 have nz:¬ CgR p (crs (crs d e) (crs a b)) (0,0,0):=by
  rw[cs];intro z;refine Jj hp h1 h2 ?_;obtain⟨z0,z1,z2⟩:=z;have g:∀{v:Af},Cg p (-1*v) 0->Cg p v 0:=λ{v} hv=>by
   have:=z0' hv;exact cg0 (Yl (Yk.mp (by simpa using Int.dvd_of_emod_eq_zero this)))
  exact⟨g z0,g z1,g z2⟩
 exact(Ob hp nz n q').symm
theorem xD(hp:P4 p)(h:N3 p [a,b,c,d,e,f]):mtI p a b d e≠mtI p b c e f/\mtI p a b d e≠mtI p c d f a/\mtI p b c e f≠mtI p c d f a:=by
 have r1:[b,c,d,e,f,a].Perm [a,b,c,d,e,f]:=YK (l₁:=[b,c,d,e,f]) (l₂:=[a]);have r2:[c,d,e,f,a,b].Perm [a,b,c,d,e,f]:=YK (l₁:=[c,d,e,f]) (l₂:=[a,b]);have s0:=Six.of h;have q2:=Oz hp (Six.of (h.perm r2));refine⟨Oz hp s0,λz=>q2 ?_,Oz hp (Six.of (h.perm r1))⟩
 rw[vS hp s0.m0.1 s0.m0.2];exact z.symm
theorem cg(h:N3 p pts):h0_ p pts=Ae:=by
 refine Cy.mpr λi hi=>Cy.mpr λa ha=>Cy.mpr λb hb=>AC ?_
 rw[List.mem_range]at hi ha hb;have g:∀{k:Ag},k<pts.length->at6 pts k∈pts:=λ{k} hk=>by
  unfold at6;rw[Bq,Be hk];exact DH hk
 have ne:∀{k l:Ag},k<l->l<pts.length->at6 pts k≠at6 pts l:=λ{k l} hk hl=>by
  unfold at6;rw[Bq,Be (show k<pts.length by omega),Bq,Be hl]
  exact List.pairwise_iff_getElem.mp h.nd k l (by omega) hl hk
 exact h.n3 _ _ _ (g (by omega)) (g (by omega)) (g (by omega)) (ne (by omega) (by omega)) (ne (by omega) (by omega)) (ne (by omega) (by omega))
section
variable{S PP A B C' D' E F L0 L1 L2 L3 L4 L5 U_ V W X Y_ Z_ T cC J:D}
theorem i8(e1:Z.F 156 [S]=.ok (.int p))(e2:Z.F 214 [.int p,S]=.ok PP)(e3:Z.F 215 [.int p,PP]=.ok .non)(li:biD .list [PP]=.ok PP)(e4:Z.F 216 [.int p,PP,.bl Ad]=.ok (.tup [.tup [X,Y_,Z_],.non]))(e5:Z.F 216 [.int p,PP,.bl Ab]=.ok (.tup [T,.non]))(ix:BA PP (.int 0)=.ok A/\BA PP (.int 1)=.ok B/\BA PP (.int 2)=.ok C'/\BA PP (.int 3)=.ok D'/\BA PP (.int 4)=.ok E/\BA PP (.int 5)=.ok F)(c0:Z.F 161 [A,B]=.ok L0)(c1:Z.F 161 [B,C']=.ok L1)(c2:Z.F 161 [C',D']=.ok L2)(c3:Z.F 161 [D',E]=.ok L3)(c4:Z.F 161 [E,F]=.ok L4)(c5:Z.F 161 [F,A]=.ok L5)(m0:Z.F 161 [L0,L3]=.ok U_)(m1:Z.F 161 [L1,L4]=.ok V)(m2:Z.F 161 [L2,L5]=.ok W)(f0:Z.F 158 [.int p,U_]=.ok X)(f1:Z.F 158 [.int p,V]=.ok Y_)(f2:Z.F 158 [.int p,W]=.ok Z_)(fl:flD 5 (.tup [X,Y_,Z_])=Ab)(eq:eqD (.tup [X,Y_,Z_]) (.tup [X,Y_,Z_])=Ab)(ls:biD .lset [.tup [X,Y_,Z_]]=.ok (.int 3)){so:Ah}(it1:D6 Z.up [.tuple] T=.ok (.bl Ab))(t0:BA T (.int 0)=.ok (.str so))(t1:AY "one" = so\/AY "apart" = so)(t2:BA T (.int (-1-b2i (so==AY "one")))=.ok (.tup [X,Y_,Z_])):Lh.run Z [S]=.ok (.bl Ab):=by
 obtain⟨i0,i1,i2,i3,i4,i5⟩:=ix;have rg6:CT 0 6=.ok [.int 0,.int 1,.int 2,.int 3,.int 4,.int 5]:=by rfl
 have rg3:CT 0 3=.ok [.int 0,.int 1,.int 2]:=by rfl
 have cp1:∀ s0 s1 s3 s4 s5 s6 s7 s8 s9 s10 s11,BD (cG Z [s0,s1,sh PP,s3,s4,s5,s6,s7,s8,s9,s10,s11] 10 Cr) (cF Z [s0,s1,sh PP,s3,s4,s5,s6,s7,s8,s9,s10,s11] 10 Py) [.int 0,.int 1,.int 2,.int 3,.int 4,.int 5]=.ok [L0,L1,L2,L3,L4,L5]:=λ_ _ _ _ _ _ _ _ _ _ _=>by
  simp[BD,cG,cF,Cr,Py,i0,i1,i2,i3,i4,i5,c0,c1,c2,c3,c4,c5]
 have k0:BA (.lst [L0,L1,L2,L3,L4,L5]) (.int 0)=.ok L0:=rfl;have k1:BA (.lst [L0,L1,L2,L3,L4,L5]) (.int 1)=.ok L1:=rfl;have k2:BA (.lst [L0,L1,L2,L3,L4,L5]) (.int 2)=.ok L2:=rfl;have k3:BA (.lst [L0,L1,L2,L3,L4,L5]) (.int 3)=.ok L3:=rfl;have k4:BA (.lst [L0,L1,L2,L3,L4,L5]) (.int 4)=.ok L4:=rfl;have k5:BA (.lst [L0,L1,L2,L3,L4,L5]) (.int 5)=.ok L5:=rfl;have cp2:∀ s0 s2 s3 s4 s5 s6 s7 s9 s10 s11,BD (cG Z [s0,si p,s2,s3,s4,s5,s6,s7,sh (.lst [L0,L1,L2,L3,L4,L5]),s9,s10,s11] 11 Cr) (cF Z [s0,si p,s2,s3,s4,s5,s6,s7,sh (.lst [L0,L1,L2,L3,L4,L5]),s9,s10,s11] 11 Px) [.int 0,.int 1,.int 2]=.ok [X,Y_,Z_]:=λ_ _ _ _ _ _ _ _ _ _=>by
  generalize D.lst [L0,L1,L2,L3,L4,L5]=LL at *;simp[BD,cG,cF,Cr,Px,k0,k1,k2,k3,k4,k5,m0,m1,m2,f0,f1,f2]
 have it2:D6 Z.up [.tuple] (.tup [X,Y_,Z_])=.ok (.bl Ab):=rfl;generalize hLL:D.lst [L0,L1,L2,L3,L4,L5]=LL at *;generalize hM:D.tup [X,Y_,Z_]=MM at *;simp[Lh,Df.run,By,e1,e2,e3,li,e4,e5,rg6,cp1,rg3,hLL,cp2,hM,it1,it2,fl,eq,ls,t0,t1,t2,DR]
end
theorem bh{l:Ac α}(h:l.length=6):∃ a b c d e f,l=[a,b,c,d,e,f]:=by
  match l,h with
  |[a,b,c,d,e,f],_=>exact⟨a,b,c,d,e,f,rfl⟩
structure H64 (Z:Gam) (ns:Ac Af):Prop where
 pr:∃ p,P4 p/\Z.F 156 [scr ns]=.ok (.int p)
 six:bW Z ns
 th:∀(p:Af)(pts:Ac R3),P4 p->(∀ t∈pts,In3 p t)->pts.length=6->Z.F 215 [.int p,A7 pts]=.ok ((h0_ p pts).getD .non)
 lx:∀(p:Af)(pts:Ac R3)(d:D)(w:Ai),P4 p->(∀ t∈pts,In3 p t)->pts.length=6->h0_ p pts=Aa d->Z.F 216 [.int p,A7 pts,.bl w]=.ok (.tup [.non,d])
 lo:∀(p:Af)(a b c d e f:R3),P4 p->N3 p [a,b,c,d,e,f]->Z.F 216 [.int p,A7 [a,b,c,d,e,f],.bl Ad]=.ok (.tup [GY p a b c d e f,.non])/\∃ T cC J,(T=.tup [.str (AY "one"),cC,GY p a b c d e f,J]\/T=.tup [.str (AY "apart"),GY p a b c d e f])/\Z.F 216 [.int p,A7 [a,b,c,d,e,f],.bl Ab]=.ok (.tup [T,.non])
 lc:Xc Z
 fm:XV Z
theorem xY(h:H64 Z ns):Lh.run Z [scr ns]=.ok (.bl Ab):=by
 obtain⟨p,hp,e1⟩:=h.pr;obtain⟨pts,l6,nf,e2⟩:=h.six p hp;have i3:∀ t∈pts,In3 p t:=λt ht=>(nf t ht).1
 have e3:=h.th p pts hp i3 l6;cases q:h0_ p pts with
 |some d=>
  obtain⟨x,y,u,_,_,_,rfl⟩:=VP q;rw[q]at e3;have lx:=λw=>h.lx p pts _ w hp i3 l6 q
  have li:biD .list [A7 pts]=.ok (A7 pts):=rfl;generalize A7 pts=PP at *;exact h9 e1 e2 e3 li lx rfl (SU x y u).2
 |none=>
  have n3:=ce l6 nf q;rw[q]at e3;obtain⟨a,b,c,d,e,f,rfl⟩:=bh l6;have s6:=Six.of n3;have bn:∀{x:R3},x∈[a,b,c,d,e,f]->Bn 10 x:=λhx=>FX hp (n3.nf _ hx).1
  have ba:=bn (x:=a) (by simp)
  have bb:=bn (x:=b) (by simp)
  have bc:=bn (x:=c) (by simp)
  have bd:=bn (x:=d) (by simp)
  have be:=bn (x:=e) (by simp)
  have bf:=bn (x:=f) (by simp)
  have c1:∀{x y:R3},Bn 10 x->Bn 10 y->Z.F 161 [At Ab x,At Ab y]=.ok (Bs (crs x y)):=λhx hy=>h.lc Ab _ _ (hx.mono (by decide)) (hy.mono (by decide))
  have c2:∀{x y u v:R3},Bn 10 x->Bn 10 y->Bn 10 u->Bn 10 v->Z.F 161 [Bs (crs x y),Bs (crs u v)]=.ok (Bs (crs (crs x y) (crs u v))):=λhx hy hu hv=>h.lc Ad _ _ (WI hx hy) (WI hu hv)
  have f0:=h.fm p _ hp (Jj hp s6.m0.1 s6.m0.2);have f1:=h.fm p _ hp (Jj hp s6.m1.1 s6.m1.2);have f2:=h.fm p _ hp (Jj hp s6.m2.1 s6.m2.2);obtain⟨⟨n0,_⟩,⟨n1,_⟩,⟨n2,_⟩⟩:=Ro hp s6;obtain⟨d1,d2,d3⟩:=xD hp n3;obtain⟨lo,T,cC,J,hT,lT⟩:=h.lo p a b c d e f hp n3;obtain⟨so,t0,t1,t2⟩:∃ so,BA T (.int 0)=.ok (.str so)/\(AY "one" = so\/AY "apart" = so)/\BA T (.int (-1-b2i (so==AY "one")))=.ok (GY p a b c d e f):=by
   rcases hT with rfl|rfl
   .exact⟨AY "one",rfl,.inl rfl,rfl⟩
   .exact⟨AY "apart",rfl,.inr rfl,rfl⟩
  have it1:D6 Z.up [.tuple] T=.ok (.bl Ab):=by rcases hT with rfl|rfl<;>rfl
  exact i8 e1 e2 e3 rfl lo lT (Rr _ _ _ _ _ _) (c1 ba bb) (c1 bb bc) (c1 bc bd) (c1 bd be) (c1 be bf) (c1 bf ba) (c2 ba bb bd be) (c2 bb bc be bf) (c2 bc bd bf ba) f0 f1 f2 rfl (SU _ _ _).2 (vW hp n0 n1 n2 d1 d2 d3) it1 t0 t1 t2
end
noncomputable def Pv:Df:=⟨2,Ad,(.cons (.ife (.cmp .Eq (.var 0) (.var 1)) (.cons (.rais 107 (.cons (.var 0) .nil)) .nil) .nil) (.cons (.ret (.tup (.cons (.bin .Sub (.bin .Mult (.idx (.var 0) (.int 1)) (.idx (.var 1) (.int 2))) (.bin .Mult (.idx (.var 0) (.int 2)) (.idx (.var 1) (.int 1)))) (.cons (.bin .Sub (.bin .Mult (.idx (.var 0) (.int 2)) (.idx (.var 1) (.int 0))) (.bin .Mult (.idx (.var 0) (.int 0)) (.idx (.var 1) (.int 2)))) (.cons (.bin .Sub (.bin .Mult (.idx (.var 0) (.int 0)) (.idx (.var 1) (.int 1))) (.bin .Mult (.idx (.var 0) (.int 1)) (.idx (.var 1) (.int 0)))) .nil))))) .nil))⟩
theorem gM(Z:Gam)(a b:R3)(ha:B3 a)(hb:B3 b)(ne:a≠b):Pv.run Z [At Ab a,At Ab b]=.ok (At Ab (crs a b)):=by
 obtain⟨x0,x1,x2⟩:=Jd Ab a;obtain⟨y0,y1,y2⟩:=Jd Ab b;have k:∀ {u v},Bd 300 u->Bd 300 v->EW u v=Ab:=λhu hv=>GS hu hv (by decide) (by decide)
 have f:∀ r:R3,flD 5 (At Ab r)=Ab:=λ_=>rfl
 have e:eqD (At Ab a) (At Ab b)=Ad:=by rw[M1];exact C1 ne
 simp[Pv,Df.run,By,f,e,x0,x1,x2,y0,y1,y2,k ha.2.1 hb.2.2,k ha.2.2 hb.2.1,k ha.2.2 hb.1,k ha.1 hb.2.2,k ha.1 hb.2.1,k ha.2.1 hb.1];rfl
noncomputable def cH:Ag->Ac Ag
 |0=>[0]
 |2=>[2,0]
 |3=>[3,0]
 |5=>[5,0]
 |13=>[13,0]
 |107=>[107,0]
 |118=>[118,0]
 |_=>[]
noncomputable def R1:Ag->Ac D->R Ex
 |2,_=>.ok ⟨2,[]⟩
 |3,_=>.ok ⟨3,[]⟩
 |5,_=>.ok ⟨5,[]⟩
 |13,_=>.ok ⟨13,[]⟩
 |107,ds=>mkX 107 "triple" ds
 |118,ds=>mkX 118 "points" ds
 |_,_=>.bad
noncomputable def Q64:Prg:=⟨Ab,fun
 |1=>Re
 |9=>Nv
 |17=>NJ
 |23=>Pv
 |57=>Rg
 |58=>WK
 |61=>PZ
 |65=>PD
 |194=>NA
 |109=>LD
 |122=>PR
 |126=>QS
 |195=>Nz
 |196=>Pc
 |197=>Ny
 |198=>NC
 |209=>Kj
 |210=>Lj
 |211=>Io
 |155=>ND
 |156=>Se 155
 |157=>IY
 |158=>PC
 |159=>R0 155
 |160=>Pl
 |161=>Mz
 |162=>Pf
 |163=>Le
 |164=>Nx
 |165=>Po
 |214=>IW
 |215=>Ph
 |216=>Ld
 |217=>Lh
 | _=>⟨0,Ad,.nil⟩,λ_=>.non,cH,R1⟩
theorem cu(ns:Ac Af)(hl:ns.length<=63):(gam Q64 9).F 217 [scr ns]=.ok (.bl Ab):=by
 have gF:∀ n i as,(gam Q64 (n+1)).F i as=El Ab ((Q64.defs i).run (gam Q64 n) as):=λ_ _ _=>rfl
 have d65:Q64.defs 65=PD:=rfl;have d109:Q64.defs 109=LD:=rfl;have d210:Q64.defs 210=Lj:=rfl;have d211:Q64.defs 211=Io:=rfl;have d209:Q64.defs 209=Kj:=rfl;have d214:Q64.defs 214=IW:=rfl;have d215:Q64.defs 215=Ph:=rfl;have d216:Q64.defs 216=Ld:=rfl;have rs:∀ n,KB (gam Q64 (n+1)):=λn p m hp=>DL (uA _ p m hp)
 have mi:∀ n,KD (gam Q64 (n+1)) 155 ns:=λn k hk=>(uD _ ns k hk).imp λ_ h=>⟨h.1,DL h.2⟩
 have tu:∀ n,P6 (gam Q64 (n+2)):=λn p m hp z=>(gL (rs n) p m hp z).imp λ_ h=>⟨h.1,h.2.1,h.2.2.1,DL h.2.2.2⟩
 have fo:∀ n,N4 (gam Q64 (n+3)):=λn p b xs l t hp e it=>DL (mB (rs (n+1)) (tu n) hp e it)
 have me:∀ n,LF (gam Q64 (n+2)):=λn p q a b c hp ha hb hc=>DL (lZ (rs n) p q a b c hp ha hb hc)
 have cr:∀ n,QW (gam Q64 (n+1)):=λn a b ha hb ne=>DL (gM _ a b ha hb ne)
 have jo:∀ n,Ot (gam Q64 (n+4)):=λn p a b hp ia ib la lb ne=>(W8 (cr (n+2)) (fo n) p a b hp ia ib la lb ne).imp λ_ h=>⟨h.1,h.2.1,h.2.2.1,DL h.2.2.2⟩
 have mt:∀ n,Wq (gam Q64 (n+4)):=λn p a b hp ia ib la lb ne=>(uF (cr (n+2)) (fo n) p a b hp ia ib la lb ne).imp λ_ h=>⟨h.1,h.2.1,h.2.2.1,DL h.2.2.2⟩
 have vb:∀ n,Rw (gam Q64 (n+2)):=λn p C x hp bC ix=>DL (tW (rs n) p C x hp bC ix)
 have cf:∀ n,Xd (gam Q64 (n+4)):=λn p b xs l t hp e it=>DL (uJ (rs (n+2)) (fo n) hp e it)
 have lm:∀ n,Xb (gam Q64 (n+1)):=λn p a b hp ia ib=>DL (uH _ p a b hp ia ib)
 have fc:∀ n,Wg (gam Q64 (n+5)):=λn p C pts hp iC lC h=>DL (pB (jo n) (lm (n+3)) (vb (n+2)) (cf n) p C pts hp iC lC h)
 have ff:∀ n,Wf (gam Q64 (n+3)):=λn p C pts hp h=>DL (mD (me n) p C pts hp h)
 have au:∀ n,Vi (gam Q64 (n+1)):=λn p C pts h=>DL (iR _ p C pts h)
 have th:∀ n,Wn (gam Q64 (n+6)):=λn p C pts hp iC lC h=>DL (jV (au (n+4)) (ff (n+2)) (fc n) p C pts hp iC lC h)
 have f3:∀ n,QV (gam Q64 (n+1)):=λn p b xs l t hp e it=>DL (mC _ hp e it)
 have px:∀ n,XS (gam Q64 (n+1)):=λn p k hp h0 h1=>DL (cz _ p k hp h0 h1)
 have al:∀ n,XX (gam Q64 (n+2)):=λn p hp=>by
  have e:=d9 (px n) p hp;show El Ab (Nx.run (gam Q64 (n+1)) [.int p])=_;rw[e];rfl
 have few:∀{pts:Ac R3},pts.length=6->JX pts.length:=λh=>by unfold JX;omega
 have fr:∀ n p pts,P4 p->(∀ t∈pts,In3 p t)->pts.length=6->(gam Q64 (n+3)).F 65 [.int p,A7 pts]=.ok ((h0_ p pts).getD .non):=λn p pts hp hg h6=>by
  rw[gF,d65,UJ (me n) hp hg (few h6)];rfl
 have a6:∀ n,Xe (gam Q64 (n+4)):=λn p pts hp hn h=>by
  have e:(gam Q64 (n+3)).F 65 [.int p,A7 pts]=.ok .non:=by
   rw[gF,d65,UJ (me n) hp (λt ht=>(h.nf t ht).1) (by unfold JX;omega),cg h]
   rfl
  rw[gF,d109,pE e];rfl
 have ax:∀ n p pts d,P4 p->(∀ t∈pts,In3 p t)->pts.length=6->h0_ p pts=Aa d->(gam Q64 (n+4)).F 109 [.int p,A7 pts]=.exn (onl d):=λn p pts d hp hg h6 q=>by
  obtain⟨x,y,u,hx,hy,hu,rfl⟩:=VP q;have e:=fr n p pts hp hg h6;rw[q]at e;have hx:(gam Q64 (n+3)).xn 118 [.tup [At Ab x,At Ab y,At Ab u]]=.ok (onl (.tup [At Ab x,At Ab y,At Ab u])):=vV hp (hg x hx) (hg y hy) (hg u hu) rfl;rw[gF,d109,iQ e hx];rfl
 have ln6:∀{pts:Ac R3},pts.length=6->biD .len [A7 pts]=.ok (.int 6):=λ{pts} h=>by
  show R.ok (D.int ((pts.map (At Ab)).length:Af))=_;rw[Bi,h];rfl
 have mx:∀ n p pts d,P4 p->(∀ t∈pts,In3 p t)->pts.length=6->h0_ p pts=Aa d->(gam Q64 (n+5)).F 210 [.int p,A7 pts]=.exn (onl d):=λn p pts d hp hg h6 q=>by
  rw[gF,d210,iP (ln6 h6) (ax n p pts d hp hg h6 q)];rfl
 have tx:∀ n p pts d,P4 p->(∀ t∈pts,In3 p t)->pts.length=6->h0_ p pts=Aa d->(gam Q64 (n+6)).F 211 [.int p,A7 pts]=.exn (onl d):=λn p pts d hp hg h6 q=>by
  rw[gF,d211,jW (mx n p pts d hp hg h6 q)];rfl
 have sd:∀ n,Wo (gam Q64 (n+5)):=λn p a b c d e f hp h=>by
  obtain⟨h0,h1,h2⟩:=tZ (d5 (jo n) (mt n)) p a b c d e f hp h;rw[gF,gF,gF,d209,h0,h1,h2];exact⟨rfl,rfl,rfl⟩
 have ms:∀ n,Wp (gam Q64 (n+6)):=λn p a b c d e f hp h=>by
  rw[gF,d210,uC (a6 (n+1)) (sd n) p a b c d e f hp h];rfl
 have sx:∀ n,xE (gam Q64 (n+7)):=λn p a b c d e f hp h=>by
  obtain⟨h1,h0⟩:=tY (ms n) (th n) (vb (n+4)) (jo (n+2)) p a b c d e f hp h;refine⟨λC iC lC on=>?_,λno=>?_⟩
  .rw[gF,d211,h1 C iC lC on];rfl
  .rw[gF,d211,h0 no];rfl
 have lc:∀ n,Xc (gam Q64 (n+1)):=λn q a b ha hb=>DL (uI _ q a b ha hb)
 have l4:∀ n,LO (gam Q64 (n+2)):=λn p a b c hp ia ib ic=>DL (d6 (λp a b hp ia ib=>DL (d7 _ p a b hp ia ib)) p a b c hp ia ib ic)
 have lv:∀ n,Xa (gam Q64 (n+1)):=λn p C x hp iC ix=>DL (uG _ p C x hp iC ix)
 have hs:∀ n,H64s (gam Q64 (n+3)) ns:=λn=>by
  refine⟨mi (n+2),λp n hp=>?_,λp hp=>?_,λp a b c w g hw=>?_,al (n+1),lv (n+2)⟩
  .obtain⟨x,nx,e⟩:=cy _ p n hp;exact⟨x,nx,DL e⟩
  .obtain⟨a,b,c,g,e⟩:=cw hl (mi (n+1)) p hp;exact⟨a,b,c,g,DL e⟩
  .obtain⟨C,h1,h2,h3,e⟩:=d8 (f3 (n+1)) (λp a b hp ha hb=>DL (uB _ p a b hp ha hb)) p a b c w g hw
   exact⟨C,h1,h2,h3,DL e⟩
 have h:H64 (gam Q64 8) ns:=by
  refine⟨?_,λp hp=>?_,λp pts hp hg h6=>?_,λp pts d w hp hg h6 q=>?_,λp a b c d e f hp n3=>?_,lc 7,fmN (f3 7)⟩
  .obtain⟨p,hp,e⟩:=iO (mi 6);exact⟨p,hp,DL e⟩
  .obtain⟨pts,h1,h2,e⟩:=cx (hs 4) p hp;refine⟨pts,h1,h2,?_⟩;rw[gF,d214,e];rfl
  .rw[gF,d215,jU (l4 5) hp hg h6];rfl
  .rw[gF,d216,uE w (mx 2 p pts d hp hg h6 q) (tx 1 p pts d hp hg h6 q) rfl];rfl
  .have s6:=Six.of n3;have em:=ms 1 p a b c d e f hp s6;obtain⟨h1,h0⟩:=sx 0 p a b c d e f hp s6;by_cases hC:∃ C,InC p C/\A4 p C.l=Aa 1/\∀ x∈[a,b,c,d,e,f],vI C x%p=0
   .obtain⟨C,iC,lC,on⟩:=hC;have e':=h1 C iC lC on;refine⟨?_,_,Cp C,At Ab (jnI p a b c d e f),.inl rfl,?_⟩
    .rw[gF,d216,Og Ad em e'];rfl
    .rw[gF,d216,Og Ab em e'];rfl
   .have e':=h0 hC;refine⟨?_,_,.non,.non,.inr rfl,?_⟩
    .rw[gF,d216,Og Ad em e'];rfl
    .rw[gF,d216,Og Ab em e'];rfl
 exact DL (xY h)
end OvC
namespace OvC
open PySem PySem.Spec PyProof.Rows Ov L2
variable{l:F2}
noncomputable def tp64(i:Ag):AO:=PySem.Challenge.pw_ovalfield_k64_meets_and_six_refused.main.body.getD i (.Pass ⟨0,0,0,0⟩)
noncomputable def X7:Ac (Ah×Ag×Ag):=([("rest",1,2),("turned_over",9,2),("one_form",17,2),("crossed",23,2),("join",57,3),("meet",58,3),("measure",61,4),("first_three",65,2),("ask_unlike",194,1),("ask_no_three",109,2),("curve_of",122,2),("value",126,3),("first_four",195,2),("lines_multiplied",196,2),("five_curve",197,2),("curve_through",198,2),("side_meet",209,3),("meets_of",210,2),("six_told",211,2),("_law_mixed",155,2),("_law_prime",156,1),("_law_point",157,2),("_law_form",158,2),("_law_table",159,3),("_law_product",160,2),("_law_cross",161,2),("_law_value",162,3),("_law_curve",163,3),("_law_all",164,1),("_law_measure",165,4)]:Ac (Ah×Ag×Ag))++([("_law_six",214,2),("_law_three",215,2),("_law_line_met",216,3),("law",217,1)]:Ac (Ah×Ag×Ag))
noncomputable def S3:Ac Ah:=["ValueError", "any", "enumerate", "int", "isinstance", "len", "list", "min", "range", "set", "sum", "tuple", "zip"]
noncomputable def Rx:Ac (Ah×Ag):=[("NoOver",2),("NoTriple",3),("Alike",107),("OnLine",118),("NoCurve",5),("NoCount",13),("OvalError",0)]
noncomputable def RU:Ac (Ah×Ag):=[("OvalError",0),("OnLine",118)]
noncomputable def Xx:Ac (Ah×Ag):=[]
noncomputable abbrev C64(h:Ai)(n:Ag)(N:Ac Ah)(i d:Ag):Ai:=Ia 80 h X7 S3 Rx RU Xx (N.take n) N (tp64 i) (Q64.defs d)
theorem xM:C64 Ad 2 ["p", "n"] 9 1=Ab:=by decide+kernel
theorem xL:C64 Ad 2 ["p", "n", "turned"] 10 9=Ab:=by decide+kernel
theorem xK:C64 Ad 2 ["p", "numbers", "rests", "first", "factor", "#5", "#6"] 12 17=Ab:=by decide+kernel
theorem xJ:C64 Ad 2 ["one", "other"] 13 23=Ab:=by decide+kernel
theorem xI:C64 Ad 3 ["p", "one", "other"] 15 57=Ab:=by decide+kernel
theorem xH:C64 Ad 3 ["p", "one", "other"] 16 58=Ab:=by decide+kernel
theorem xG:C64 Ad 4 ["p", "one", "other", "third"] 17 61=Ab:=by decide+kernel
theorem yG:C64 Ad 2 ["p", "points", "i", "one", "j", "k"] 18 65=Ab:=by decide+kernel
theorem yF:C64 Ad 1 ["points", "place", "point"] 19 194=Ab:=by decide+kernel
theorem yE:C64 Ad 2 ["p", "points", "three"] 20 109=Ab:=by decide+kernel
theorem qJ:C64 Ad 2 ["p", "numbers", "rests", "#3"] 22 122=Ab:=by decide+kernel
theorem qI:C64 Ad 3 ["p", "curve", "point", "squares", "products"] 23 126=Ab:=by decide+kernel
theorem qH:C64 Ad 2 ["p", "points", "place", "four"] 25 195=Ab:=by decide+kernel
theorem qG:C64 Ad 2 ["one", "other"] 26 196=Ab:=by decide+kernel
theorem qF:C64 Ad 2 ["p", "points", "one", "other", "by_one", "by_other", "#6", "#7"] 27 197=Ab:=by decide+kernel
theorem qE:C64 Ad 2 ["p", "points", "four"] 28 198=Ab:=by decide+kernel
theorem rK:C64 Ad 3 ["p", "points", "place", "one", "other"] 30 209=Ab:=by decide+kernel
theorem rJ:C64 Ad 2 ["p", "points"] 31 210=Ab:=by decide+kernel
theorem rH:C64 Ad 2 ["p", "points", "meets", "curve"] 32 211=Ab:=by decide+kernel
theorem rG:C64 Ad 2 ["_law_script", "_law_k", "_law_cell"] 34 155=Ab:=by decide+kernel
theorem rF:C64 Ad 1 ["_law_script"] 35 156=Ab:=by decide+kernel
theorem rE:C64 Ad 2 ["_law_p", "_law_number", "_law_n"] 36 157=Ab:=by decide+kernel
theorem rD:C64 Ad 2 ["_law_p", "_law_numbers", "_law_head", "_law_by", "#4", "#5", "#6"] 37 158=Ab:=by decide+kernel
theorem rC:C64 Ad 3 ["_law_p", "_law_script", "_law_at", "_law_rows", "_law_k", "_law_cell", "_law_i", "_law_j", "_law_times", "#9", "#10", "#11"] 38 159=Ab:=by decide+kernel
theorem rB:C64 Ad 2 ["_law_one", "_law_other", "_law_numbers", "_law_i", "_law_j", "#5"] 39 160=Ab:=by decide+kernel
theorem rA:C64 Ad 2 ["_law_one", "_law_other", "_law_a", "_law_b", "_law_c", "_law_d", "_law_e", "_law_f"] 40 161=Ab:=by decide+kernel
theorem qZ:C64 Ad 3 ["_law_p", "_law_curve_here", "_law_point_here", "_law_x", "_law_y", "_law_z", "_law_some", "#7", "#8"] 41 162=Ab:=by decide+kernel
theorem qY:C64 Ad 3 ["_law_p", "_law_rows", "_law_way", "_law_one", "_law_other", "_law_third", "_law_square", "_law_odd", "#8", "#9", "#10", "#11", "#12", "#13"] 42 163=Ab:=by decide+kernel
theorem qX:C64 Ad 1 ["_law_p", "#1"] 43 164=Ab:=by decide+kernel
theorem qW:C64 Ad 4 ["_law_p", "_law_one", "_law_other", "_law_third", "_law_a", "_law_b", "_law_c"] 44 165=Ab:=by decide+kernel
theorem qV:C64 Ad 2 ["_law_p", "_law_script", "_law_points", "_law_pick", "_law_curve_here", "_law_left", "_law_some", "_law_k", "#8", "#9"] 45 214=Ab:=by decide+kernel
theorem qU:C64 Ad 2 ["_law_p", "_law_points", "_law_i", "_law_j", "_law_k"] 46 215=Ab:=by decide+kernel
theorem qT:C64 Ad 3 ["_law_p", "_law_points", "_law_whole", "_law_found", "_law_three_here", "error"] 47 216=Ab:=by decide+kernel
theorem VO:C64 Ad 1 ["_law_script", "_law_p", "_law_points", "_law_three_here", "_law_found", "_law_refused", "_law_told", "_law_refused_too", "_law_lines", "_law_due", "#10", "#11"] 48 217=Ab:=by decide+kernel
theorem rN:Nk "OvalError" "triple" "triple" (OB (tp64 6))=Ab:=by decide+kernel
theorem rM:Nk "OvalError" "points" "points" (OB (tp64 7))=Ab:=by decide+kernel
set_option maxHeartbeats 0 in
theorem all64{w:AZ}{K:Fg}{h:AD}{mg:Ah->Ao Aj}{fa f0 f1 f2 f3 f4 f5 f6 f7 f8 f9 f10 f11 f12 f13 f14 f15 f16 f17 f18 f19 f20 f21 f22 f23 f24 f25 f26 f27 f28 f29 f30 f31 f32 f33 x0 x1 x2 x3 x4 x5 x6 ix2 ix3:Al}(X:K.In h)(G:h.Ns A3 mg)(hfa:mg "law" = Aa (.ref fa))(a0:FnI K f0 "rest" (tp64 9))(a1:FnI K f1 "turned_over" (tp64 10))(a2:FnI K f2 "one_form" (tp64 12))(a3:FnI K f3 "crossed" (tp64 13))(a4:FnI K f4 "join" (tp64 15))(a5:FnI K f5 "meet" (tp64 16))(a6:FnI K f6 "measure" (tp64 17))(a7:FnI K f7 "first_three" (tp64 18))(a8:FnI K f8 "ask_unlike" (tp64 19))(a9:FnI K f9 "ask_no_three" (tp64 20))(a10:FnI K f10 "curve_of" (tp64 22))(a11:FnI K f11 "value" (tp64 23))(a12:FnI K f12 "first_four" (tp64 25))(a13:FnI K f13 "lines_multiplied" (tp64 26))(a14:FnI K f14 "five_curve" (tp64 27))(a15:FnI K f15 "curve_through" (tp64 28))(a16:FnI K f16 "side_meet" (tp64 30))(a17:FnI K f17 "meets_of" (tp64 31))(a18:FnI K f18 "six_told" (tp64 32))(a19:FnI K f19 "_law_mixed" (tp64 34))(a20:FnI K f20 "_law_prime" (tp64 35))(a21:FnI K f21 "_law_point" (tp64 36))(a22:FnI K f22 "_law_form" (tp64 37))(a23:FnI K f23 "_law_table" (tp64 38))(a24:FnI K f24 "_law_product" (tp64 39))(a25:FnI K f25 "_law_cross" (tp64 40))(a26:FnI K f26 "_law_value" (tp64 41))(a27:FnI K f27 "_law_curve" (tp64 42))(a28:FnI K f28 "_law_all" (tp64 43))(a29:FnI K f29 "_law_measure" (tp64 44))(a30:FnI K f30 "_law_six" (tp64 45))(a31:FnI K f31 "_law_three" (tp64 46))(a32:FnI K f32 "_law_line_met" (tp64 47))(a33:FnI K f33 "law" (tp64 48))(cx0:XA K "NoOver" x0 Ae)(cx1:XA K "NoTriple" x1 Ae)(cx2:XB K "Alike" x2 ix2 "Alike.__init__" (OB (tp64 6)))(cx3:XB K "OnLine" x3 ix3 "OnLine.__init__" (OB (tp64 7)))(cx4:XA K "NoCurve" x4 Ae)(cx5:XA K "NoCount" x5 Ae)(cx6:XA K "OvalError" x6 Ae)(ox6:XO K x6)(sx6:SuC K x6 [(x0,Ab),(x1,Ab),(x2,Ab),(x3,Ab),(x4,Ab),(x5,Ab),(x6,Ab)])(sx3:SuC K x3 [(x0,Ad),(x1,Ad),(x2,Ad),(x3,Ab),(x4,Ad),(x5,Ad),(x6,Ad)])(z0:Bv K A3 "ValueError" = Aa Ae)(z1:Bv K A3 "any" = Aa Ae)(z2:Bv K A3 "enumerate" = Aa Ae)(z3:Bv K A3 "int" = Aa Ae)(z4:Bv K A3 "isinstance" = Aa Ae)(z5:Bv K A3 "len" = Aa Ae)(z6:Bv K A3 "list" = Aa Ae)(z7:Bv K A3 "min" = Aa Ae)(z8:Bv K A3 "range" = Aa Ae)(z9:Bv K A3 "set" = Aa Ae)(z10:Bv K A3 "sum" = Aa Ae)(z11:Bv K A3 "tuple" = Aa Ae)(z12:Bv K A3 "zip" = Aa Ae):
    ∃ fd:BM,(∀(s:Ap)(v:Aj),Gn s fd ⟨[v],[]⟩ [("_law_script",v)])/\∀ base:AD,K.In base->base.Ns A3 mg->FnOk l.prog w K mg base (CXR l.prog w) 9 fa fd ["_law_script"] (Nb K):=by
  obtain⟨_,F,e⟩:=a33;obtain⟨_,_,_,_,_,_,_,_,_,rfl,_,_⟩:=F.ex;cases hfa.symm.trans (Ck X G e);have XT64:XT Q64.up Q64.xn (clL [(2,x0),(3,x1),(107,x2),(118,x3),(5,x4),(13,x5),(0,x6)]) Rx RU K mg:=by
    refine yY (all_cons (cx0.row λ_=>by first|exact .inr rfl|exact .inl rfl) (all_cons (cx1.row λ_=>by first|exact .inr rfl|exact .inl rfl) (all_cons (XB.row X G cx2 ox6 cx6.n (.inl rfl) rN (λ_ _ _ _ _ _ _ _=>rfl) λ_=>rfl) (all_cons (XB.row X G cx3 ox6 cx6.n (.inr rfl) rM (λ_ _ _ _ _ _ _ _=>rfl) λ_=>rfl) (all_cons (cx4.row λ_=>by first|exact .inr rfl|exact .inl rfl) (all_cons (cx5.row λ_=>by first|exact .inr rfl|exact .inl rfl) (all_cons (cx6.row λ_=>by first|exact .inr rfl|exact .inl rfl) (all_nil)))))))) (all_cons ⟨_,rfl,Ck X G cx0.n⟩ (all_cons ⟨_,rfl,Ck X G cx1.n⟩ (all_cons ⟨_,rfl,Ck X G cx2.a.n⟩ (all_cons ⟨_,rfl,Ck X G cx3.a.n⟩ (all_cons ⟨_,rfl,Ck X G cx4.n⟩ (all_cons ⟨_,rfl,Ck X G cx5.n⟩ (all_cons ⟨_,rfl,Ck X G cx6.n⟩ (all_nil)))))))) (all_cons ⟨_,Ck X G cx6.n,cx6.kc,sx6⟩ (all_cons ⟨_,Ck X G cx3.a.n,cx3.a.kc,sx3⟩ (all_nil))) ?_
    intro c q ds;show R1 c ds=.bad;unfold R1;split<;>first|rfl|exact absurd rfl (q ("NoOver",2) (by decide))|exact absurd rfl (q ("NoTriple",3) (by decide))|exact absurd rfl (q ("Alike",107) (by decide))|exact absurd rfl (q ("OnLine",118) (by decide))|exact absurd rfl (q ("NoCurve",5) (by decide))|exact absurd rfl (q ("NoCount",13) (by decide))|exact absurd rfl (q ("OvalError",0) (by decide))
  have T:Tab K mg (clL [(2,x0),(3,x1),(107,x2),(118,x3),(5,x4),(13,x5),(0,x6)]) X7 S3 Rx RU Xx Q64 80:=⟨XT64,all_cons (BE X G z0) (all_cons (BE X G z1) (all_cons (BE X G z2) (all_cons (BE X G z3) (all_cons (BE X G z4) (all_cons (BE X G z5) (all_cons (BE X G z6) (all_cons (BE X G z7) (all_cons (BE X G z8) (all_cons (BE X G z9) (all_cons (BE X G z10) (all_cons (BE X G z11) (all_cons (BE X G z12) (all_nil))))))))))))),all_nil,all_cons (EN 2 1 X G a0 rfl xM λ_ _ _ _ _ _ _ _=>rfl) (all_cons (EN 2 9 X G a1 rfl xL λ_ _ _ _ _ _ _ _=>rfl) (all_cons (EN 2 17 X G a2 rfl xK λ_ _ _ _ _ _ _ _=>rfl) (all_cons (EN 2 23 X G a3 rfl xJ λ_ _ _ _ _ _ _ _=>rfl) (all_cons (J4 3 57 X G a4 rfl xI λ_ _ _ _ _ _ _ _ _=>rfl) (all_cons (J4 3 58 X G a5 rfl xH λ_ _ _ _ _ _ _ _ _=>rfl) (all_cons (S7 4 61 X G a6 rfl xG λ_ _ _ _ _ _ _ _ _ _=>rfl) (all_cons (EN 2 65 X G a7 rfl yG λ_ _ _ _ _ _ _ _=>rfl) (all_cons (OT 1 194 X G a8 rfl yF λ_ _ _ _ _ _ _=>rfl) (all_cons (EN 2 109 X G a9 rfl yE λ_ _ _ _ _ _ _ _=>rfl) (all_cons (EN 2 122 X G a10 rfl qJ λ_ _ _ _ _ _ _ _=>rfl) (all_cons (J4 3 126 X G a11 rfl qI λ_ _ _ _ _ _ _ _ _=>rfl) (all_cons (EN 2 195 X G a12 rfl qH λ_ _ _ _ _ _ _ _=>rfl) (all_cons (EN 2 196 X G a13 rfl qG λ_ _ _ _ _ _ _ _=>rfl) (all_cons (EN 2 197 X G a14 rfl qF λ_ _ _ _ _ _ _ _=>rfl) (all_cons (EN 2 198 X G a15 rfl qE λ_ _ _ _ _ _ _ _=>rfl) (all_cons (J4 3 209 X G a16 rfl rK λ_ _ _ _ _ _ _ _ _=>rfl) (all_cons (EN 2 210 X G a17 rfl rJ λ_ _ _ _ _ _ _ _=>rfl) (all_cons (EN 2 211 X G a18 rfl rH λ_ _ _ _ _ _ _ _=>rfl) (all_cons (EN 2 155 X G a19 rfl rG λ_ _ _ _ _ _ _ _=>rfl) (all_cons (OT 1 156 X G a20 rfl rF λ_ _ _ _ _ _ _=>rfl) (all_cons (EN 2 157 X G a21 rfl rE λ_ _ _ _ _ _ _ _=>rfl) (all_cons (EN 2 158 X G a22 rfl rD λ_ _ _ _ _ _ _ _=>rfl) (all_cons (J4 3 159 X G a23 rfl rC λ_ _ _ _ _ _ _ _ _=>rfl) (all_cons (EN 2 160 X G a24 rfl rB λ_ _ _ _ _ _ _ _=>rfl) (all_cons (EN 2 161 X G a25 rfl rA λ_ _ _ _ _ _ _ _=>rfl) (all_cons (J4 3 162 X G a26 rfl qZ λ_ _ _ _ _ _ _ _ _=>rfl) (all_cons (J4 3 163 X G a27 rfl qY λ_ _ _ _ _ _ _ _ _=>rfl) (all_cons (OT 1 164 X G a28 rfl qX λ_ _ _ _ _ _ _=>rfl) (all_cons (S7 4 165 X G a29 rfl qW λ_ _ _ _ _ _ _ _ _ _=>rfl) (all_cons (EN 2 214 X G a30 rfl qV λ_ _ _ _ _ _ _ _=>rfl) (all_cons (EN 2 215 X G a31 rfl qU λ_ _ _ _ _ _ _ _=>rfl) (all_cons (J4 3 216 X G a32 rfl qT λ_ _ _ _ _ _ _ _ _=>rfl) (all_cons (OT 1 217 X G ⟨_,F,e⟩ rfl VO λ_ _ _ _ _ _ _=>rfl) (all_nil))))))))))))))))))))))))))))))))))⟩
  exact⟨_,λs v=>.of_eq rfl,λbase _ _=>oZ (WF T (Rc T 8) (Xz F) rfl VO) cu⟩
theorem walk64{q:AK}{loose:Ac Ah}{XP:(Ah->Ao Aj)->AD->Prop}{YP:AZ->AD->Prop}{d:DefRec}{K:Mt->Fg}(hn:l.most=Aa 63)(hdf:d.params.defaults=[])(hY:∀(w:AZ)(h:AD),YP w h->(K w.params).In h)(F:∀(w:AZ)(mg:Ah->Ao Aj)(fa:Al)(h:AD),(K w.params).In h->h.Ns A3 mg->mg d.name=Aa (.ref fa) ->
   ∃ fd:BM,(∀(s:Ap)(u:Aj),Gn s fd ⟨[u],[]⟩ [("_law_script",u)])/\∀ base:AD,(K w.params).In base->base.Ns A3 mg->FnOk l.prog w (K w.params) mg base (CXR l.prog w) 9 fa fd ["_law_script"] (Nb (K w.params))):aL q loose XP YP l.row.toRowW d [] (λf vs=>K2 f vs):=
 L2.walk_of (n:=63) (k:=9) (x := "_law_script") (CX:=λw=>CXR l.prog w) (sp:=λw=>Nb (K w.params)) hn (by decide) hdf ⟨rfl,by decide,by decide,rfl⟩ hY F (λ_ H a ns hl _ hS=>⟨a,ns,rfl,hl,hS,λ_ _ z=>z⟩) λ_ _ _ _ _ z=>yA z
end OvC
open PySem PySem.W PyProof.Rows
noncomputable def OvC.view64:PySem.Program:={ PySem.Challenge.pw_ovalfield_k64_meets_and_six_refused with main:={PySem.Challenge.pw_ovalfield_k64_meets_and_six_refused.main with body:=[OvC.tp64 1,OvC.tp64 2,OvC.tp64 3,OvC.tp64 4,OvC.tp64 5,OvC.tp64 6,OvC.tp64 7,OvC.tp64 9,OvC.tp64 10,OvC.tp64 12,OvC.tp64 13,OvC.tp64 15,OvC.tp64 16,OvC.tp64 17,OvC.tp64 18,OvC.tp64 19,OvC.tp64 20,OvC.tp64 22,OvC.tp64 23,OvC.tp64 25,OvC.tp64 26,OvC.tp64 27,OvC.tp64 28,OvC.tp64 30,OvC.tp64 31,OvC.tp64 32,OvC.tp64 34,OvC.tp64 35,OvC.tp64 36,OvC.tp64 37,OvC.tp64 38,OvC.tp64 39,OvC.tp64 40,OvC.tp64 41,OvC.tp64 42,OvC.tp64 43,OvC.tp64 44,OvC.tp64 45,OvC.tp64 46,OvC.tp64 47,OvC.tp64 48]} }
set_option hygiene false
local macro_rules | `(tactic| o_head $H)=>`(tactic| refine holds_open (q:=OvC.view64) (loose:=[]) (Xt:=fun s=>xlAt OvC.view64 [] s&&recOk (RowW.records (OpenRow.toRowW (PySem.Challenge.rw_ovalfield_k64_meets_and_six_refused.row))) s) (XP:=XL OvC.view64 []) (Yf:=Hook.obs $H) (Ya:=Hook.val $H) (YP:=Hook.says $H) (N:=5360) ?hl (Hook.of $H) (Hook.keeps $H) (fun s e=>xl_of s (Bool.and_eq_true_iff.mp e).1) XL.keeps (by rfl) (by rfl) (by rfl) (fun s e=>recFacts_of (Bool.and_eq_true_iff.mp e).2) (by rfl) (by first|assumption|decide +kernel) (by decide +kernel) ⟨rfl,rfl,rfl,rfl,rfl,by decide +kernel⟩ ?hw ?hc)
set_option maxRecDepth 100000 in
set_option maxHeartbeats 0 in
theorem PySem.Challenge.cw_ovalfield_k64_meets_and_six_refused_holds : PySem.Challenge.rw_ovalfield_k64_meets_and_six_refused.Holds := by
 w_on;refine holds_law (by decide+kernel) λsaid=>?_;k_head
 (case hl=>intro w;unfold openEnds fencedOpening topFrom;rw[PySem.W.Fast.te10274390034422433532,PySem.W.Fast.te14364793385576792824,PySem.W.Fast.te1435165496053646825,PySem.W.Fast.te14289696077712309145,PySem.W.Fast.te14082659384304107361,PySem.W.Fast.te4187177175401517315];kernel_rfl)
 (case hw=>w_witness2)
 k_fill
 refine OvC.walk64 (l:=PySem.Challenge.rw_ovalfield_k64_meets_and_six_refused) rfl rfl (λw h Y_=>aN Y_) ?F
 case F=>
  intro w mg fa h KX G hmg
  refine' OvC.all64 KX G hmg ?a0 ?a1 ?a2 ?a3 ?a4 ?a5 ?a6 ?a7 ?a8 ?a9 ?a10 ?a11 ?a12 ?a13 ?a14 ?a15 ?a16 ?a17 ?a18 ?a19 ?a20 ?a21 ?a22 ?a23 ?a24 ?a25 ?a26 ?a27 ?a28 ?a29 ?a30 ?a31 ?a32 ?a33 ?cx0 ?cx1 ?cx2 ?cx3 ?cx4 ?cx5 ?cx6 ?ox6 ?sx6 ?sx3 ?z0 ?z1 ?z2 ?z3 ?z4 ?z5 ?z6 ?z7 ?z8 ?z9 ?z10 ?z11 ?z12
  case a0|a1|a2|a3|a4|a5|a6|a7|a8|a9|a10|a11|a12|a13|a14|a15|a16|a17|a18|a19|a20|a21|a22|a23|a24|a25|a26|a27|a28|a29|a30|a31|a32|a33=>(refine' Ov.fni ?a ?l ?c ?k;(case a=>k_is);(case l=>k_is);(case c=>k_is);(case k=>k_is))
  case cx0|cx1|cx4|cx5|cx6=>(refine' Ov.xa_mk ?n (Ov.xcls_l ?e) ?d ?f ?g ?a ?b ?c ?o ?h ?v;(case n=>k_is);(case e=>k_exc);(case d=>kernel_rfl);(case f|g|a|b|c|o|h|v=>k_is))
  case cx2|cx3=>(refine' Ov.XB.mk ?i (Ov.xa_mk ?n ?e ?d ?f ?g ?a ?b ?c ?o ?h ?v) (Ov.ini_mk ?l ?m ?k) ?t ?s;(case n=>k_is);(case i=>k_is);(case l=>k_is);(case e|d=>kernel_rfl);(case m|k|t|s|f|g|a|b|c|o|h|v=>k_is))
  case ox6=>(refine' Ov.XO.mk ?a ?b ?c;(case a|b|c=>k_is))
  case sx6|sx3=>(refine' Ov.all_cons ?q0 (Ov.all_cons ?q1 (Ov.all_cons ?q2 (Ov.all_cons ?q3 (Ov.all_cons ?q4 (Ov.all_cons ?q5 (Ov.all_cons ?q6 (Ov.all_nil)))))));(case q0|q1|q2|q3|q4|q5|q6=>dsimp only;k_is))
  case z0|z1|z2|z3|z4|z5|z6|z7|z8|z9|z10|z11|z12=>k_is
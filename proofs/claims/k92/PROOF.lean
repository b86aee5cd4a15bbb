import PyProof.Rows.All
import Wide.All
import OpenK.AllK
import Wide.FinOn
import PyProof.EqAt
import KE.KSortTup
import PyProof.EqKinds
import PyProof.TupleCall
import Lean
import PyProof.Rows.SortRuns
import KE.KSortAsk
import KE.KStateDown
import PySem.Challenge.RW_ovalfield_k92_no_picture
set_option Elab.async false
set_option linter.all false
set_option maxRecDepth 100000
set_option maxHeartbeats 4000000
open Bool renaming true→Aa,false→Ad,and_eq_true→Al,false_ne_true→Az,not_eq_true'→BA,or_eq_true→CY,false_and→DB,or_false→Eu,true_and→EV,and_false→Fk,eq_iff_iff→Hy,not_true→IS,and_true→UV,not_false→UW
open Option renaming some→Ab,none→Af,isSome_iff_exists→Eg,getD_some→Hm,bind_some→Vz,getD_none→VA,isNone_iff_eq_none→VB,map→VC
open _root_ renaming List→Ac,Nat→Ae,Int→Ag,Bool→Ai,Option→Am,if_pos→Aq,if_neg→As,Array→Ax,decide_eq_true_eq→AQ,of_decide_eq_true→AW,False→A5,beq_iff_eq→A7,decide_eq_false→Bu,dif_neg→BO,String→CD,or_false→CW,decide_eq_true→DH,StateT→DZ,Decidable→Ez,if_true→EO,beq_self_eq_true→EU,beq_eq_false_iff_ne→E1,decide_eq_false_iff_not→Fv,not_or→FN,Unit→FW,True→HK,PUnit→Io,if_false→JV,bne_iff_ne→J8
open PySem renaming Str→Ah,Value→Aj,Addr→Ak,Expr→An,wpAny_bind→Ao,Shared→Ap,starEach→Ay,wpAny→AB,Heap→AD,wpAny_pure→AK,Program→AM,Pos→AR,Around→AT,World→AY,Stmt→AZ,mainGlobals→Bc,wpAny_mono→Bt,wpAny_field→BG,FuncData→BQ,backTo→BR,Tok→BV,Scope→BX,binaryOp→BY,sizeLine_eq→B9,cLine→Cf,wpAny_callSpecial?_slot→Ck,Env→Cr,mem_of_lookup→Ct,bootBuiltins→CB,compareOp→CC,foldedSetIterable→CS,wpAny_newObj_type→CT,wpAny_truthy_bool→CU,wpAny_call_entry→Da,cellsFrom→Dg,swapsWith→Dh,CmpOp→Do,Sem→Dq,Obj→DE,wpAny_seqItems→DF,wpAny_setField_rec→DQ,assignEach→D9,Keyword→Ee,IsPair→Ej,NameKind→Ek,Model→Eo,attributeBase→Ew,GenState→ED,ExceptHandler→EX,rawInt→EY,sliceBounds→EZ,wpAny_execs_nil→E3,wpAny_passesOwn→E4,Operator→Fa,PassesOwn→Fb,wpAny_Call_Name_kw→Fc,wpAny_setField→Fq,IsZip→FO,wpAny_attempt→FQ,wpAny_onRaise→FR,wpAny_pyIter_zip→FV,codeAny→F9,codeAny_call_builtin→Gh,letOwnedTupleGo→Gi,wpAny_updateSeq_pair→Gj,BindsTo→GD,keywordEach→GM,IsPart→GO,noteFrame→GQ,pushCells→GR,pyNext→GS,behindInMarks→GU,wpAny_loadPart_at→G8,wpAny_pyIter_list→G9,OsState→Ha,callerA→Hb,Paired→Ho,codeAny_mono→Hq,wpAny_execs_cons→Hr,Drawn→HE,pushCells_keeps→HF,setFlight→HG,IsRangeIter→HJ,Result→Ih,isTrue→Ik,newFunctionEnv→Il,notedBy→Im,backToKw→Ip,bindC→Iq,bindL→Ir,builtinsNs→Iu,call_meets→Iw,typeIs_str→Ix,wpAny_rule→Iy,Comprehension→IT,wpAny_holding→IW,JoinOk→IY,concat_meets→Ja,onTheHeap→Jb,UnaryOp→Js,getItem→Jt,wpAny_letGo→Jy,handleBy→Jz,call→J4,pyIter→J5,sysModules→J6,wpAny_Name→J7,IntMulOk→K0,Params→K4,bindArgs→K7,checkBuiltinCall→W9,firstArgMember→Xa,isSubtype_stop→Xb,noFill_tuple_add→Xc,recursionLimit→Xd,slot_list_getitem→Xe,wpAny_assign_Name→Xf,wpAny_comprehension_free→Xg,wpAny_eqBool_int→Xh,wpAny_isInstance→Xi,wpAny_letOwnedTupleGo_zip→Xj,wpAny_newTuple→Xk,wpAny_pyIter_range→Xl,wpAny_pyIter_rangeiter→Xm,wpAny_pyIter_tuple→Xn,wpAny_pyNext_range_end→Xo
open PySem.Heap renaming get?_push_of_some→Ar,get?_push_size→AJ,lt_size→AL,size_push→BF,get?_update_other→C4,get?_update_self→EL,SameBut→E9,get?_push_ne→FC,get?_none_of_le→Gf,size_update→Hn,ExtBut→WB,get?_push_cases→WD
open PyProof.Rows renaming Keyed→At,wpS_bind→Au,arrOf→Av,wpS_pure→AA,SortSt→AU,pendingOf→Bi,wpS→Bl,wpS_forRange→BC,wpS_mono→CA,callWith_type1→C1,seqObj→Dc,failedOf→DD,wpS_modify→D7,SortKind→Eh,IntsAre→Ev,envOfC→EW,AllBare→Fl,wpS_get→Fm,boot_isinstance→Ge,IsTup→JW,boot_range→JY,boot_int→VD,boot_list→VE,boot_tuple→VF,slicePart_none→VG,slot_tuple_getitem→VH,subscriptTail_builtinR→VI
open Nat renaming le_refl→Aw,lt_of_lt_of_le→AO,ne_of_lt→Bj,lt_irrefl→Br,le_trans→B5,lt_succ_of_lt→Cq,zero_le→CH,zero_add→C3,zero_max→DN,ne_of_gt→E8,ble→F7,le_of_ble_eq_true→F8,le_of_lt→Gd,lt_of_le_of_lt→GN,add_zero→Hj,lt_succ_self→Hk,mod_eq_of_lt→Hl,le_succ→Jw,le_of_eq→Vt,lt_trans→Vu,lt_trichotomy→Vv,min_self→Vw,mul_zero→Vx,not_lt→Vy
open List renaming mem_cons_of_mem→AC,getElem?_eq_getElem→AE,size_toArray→AH,mem_cons→AI,mem_cons_self→AN,length_cons→AS,length_map→AX,getElem?_eq_some_iff→A4,range→A8,getD_eq_getElem?_getD→Ba,length_set→Bb,length_append→Be,mem_singleton→Bk,append_nil→Bo,mem_append_right→Bp,not_mem_nil→Bq,drop_eq_getElem_cons→By,getElem_mem→BH,map_cons→BP,getElem?_append_right→B0,lookup_cons→B8,extract_eq_drop_take→Ca,append_assoc→Cc,mem_append→Ce,toArray→Cn,getElem?_map→Cp,pairwise_iff_getElem→Cv,getElem?_set_self→C2,all_cons→C5,all_eq_true→C8,length_take→C9,getElem?_append_left→Di,map_map→Dl,reverse_append→DA,mem_range→DC,drop_of_length_le→DJ,pairwise_cons→DM,take_append_drop→DS,isEmpty_eq_false_iff→D5,pairwise_append→D6,drop_zero→Ec,length_drop→Ef,getElem_of_mem→Em,map_congr_left→En,nodup_cons→EB,range_succ_eq_map→EC,length_singleton→EJ,mem_append_left→EQ,reverse_reverse→ER,all_map→E6,mem_map→E7,getElem?_set_self'→Ft,take_of_length_le→FL,any_eq_true→FS,nil_sublist→FT,pairwise_reverse→F6,getElem?_set_ne→Gb,mem_filter→Gc,filterMap_cons→Gz,getElem?_range→GA,forIn_nil→GB,replicate→GC,range'→GL,length_range→G5,reverse_perm→G6,ext_getElem→Hg,filter_cons→Hh,zipIdx_cons→Hi,forIn_cons→HA,nil_append→HB,of_mem_zip→HC,lookup→HH,drop_drop→Ie,take_zero→Ig,length→Jv,any_cons→U_6,contains_eq_mem→U_7,drop_eq_nil_of_le→U_8,getElem?_drop→U_9,getElem?_eq_none→Va,getElem?_replicate→Vb,getElem?_take→Vc,length_eq_zero_iff→Vd,length_pos_iff→Ve,length_replicate→Vf,map_append→Vg,map_nil→Vh,mem_filterMap→Vi,mem_of_getElem?→Vj,mem_of_mem_drop→Vk,mem_of_mem_take→Vl,mem_reverse→Vm,range'_succ→Vn,reverse_cons→Vo,set_set→Vp,take_succ_eq_append_getElem→Vr,zipIdx_nil→Vs
open Array renaming length_toList→AF,toList_append→A9,size_push→BE,getElem?_toList→Cy,getElem_toList→CJ,toList_extract→CK,toList_push→Du,getD→DI,getD_eq_getD_getElem?→DK,toList_reverse→D4,size_extract→Ey,size_append→Fw,toList_inj→He,find?_toList→UP,getElem?_eq_some_iff→UQ,getElem_extract→UR,perm_iff_toList_perm→US,toList→UT,toList_setIfInBounds→UU
open PySem.Str renaming ofString→AV,join→K5
open PySem.Value renaming none→A3,builtin→C7,ref→De,type→Fn,int→GP,bool→J3,str→KY,bytes→WT,float→WU
open PySem.W renaming findIn→Bf,nsIn→Bv,subIn→BB,mg_none_of→BM,keepIn→Co,mroIn→CI,kitOne→CO,emptyDict→CQ,looks_findIn→Dr,clsIn→Dv,mg_of→Dx,fnOf→DP,instObj→DT,codeIn→Fo,typeIn→Fp,OpenLaw→FM,methodObj→G7,kitAny→Ii,lookIn→Ij,excIn→IV,WalkO→WX,callWith_K→WY,cellsFrom_some→WZ,isNs_of_in→W1,kIn_of→W2,kitMeta→W3,looks_subIn→W4,nsOkIn→W5,plainGet→W6,tail_of_in→W7
open Option.some renaming inj→Bh
open False renaming elim→Bs
open PySem.Builtin.SmallTypes renaming nextOf→Bz,ownedTupleIsFree→CN,ownedTupleHandOut→VP
open PySem.NameKind renaming cell→BJ,free→DV
open Int renaming emod_lt_of_pos→Cz,emod_emod_of_dvd→CM,emod_nonneg→CZ,mul_emod→DL,dvd_refl→EI,zero_add→E5,eq_ofNat_of_zero_le→Fs,emod_eq_of_lt→Fx,mul_comm→Ga,one_mul→Ju,mul_assoc→UZ,mul_one→U_0,mul_zero→U_1,sub_zero→U_2,toNat_natCast→U_3,zero_emod→U_4
open PySem.Obj renaming mapSeq→C6,data_mapFields→Dd,isFreed_of_fields→EM,mapFields→FP,cls_mapFields→WF
open PySem.Builtin.List renaming listTooLong→Dm
open PySem.F renaming slot_zip_next→Dp,slot_tuple_iterator_next→DU,slot_list_extend→EK,plainAttrs_list→Fu,args_zip_next_1→FA,attr_ValueError→FB,entry_zip_next→FU,args_list_extend_2→Wl,args_object_init_3→Wm,args_tuple_add_2→Wn,args_tuple_iterator_next_1→Wo,called_zip→Wp,entry_bexc_ga→Wq,entry_list_extend→Wr,entry_tuple_add→Ws,entry_tuple_iterator_next→Wt,entry_zip_new→Wu,newCall_zip_2→Wv,slot_str_join→Ww,slot_tuple_add→Wx,typeCall_zip_2→Wy,typeOf_object_class→Wz,type_list_extend→WA
open PySem.Builtin.Str renaming strSliceIndices→DO,occurrences→EG
open PySem.Builtin.Slice renaming slicePlaces→D8,sliceAdjust→E2,sliceApplied→VO
open Ne renaming symm→Ed
open PySem.Builtin.Tuple renaming tupleExact→Ei
open ForInStep renaming yield→EA
open Classical renaming choose_spec→EH,choose→UX
open PySem.SeqAt renaming EqAt→Gg,RcNeAt→IZ,RcAt→JZ
open Sum renaming inl→Hc,inr→Hd
open List.Perm renaming append→Hf,of_eq→Hz,cons→Ib,refl→Ic,trans→U_5
open PySem.Value.ref renaming inj→IU
open PySem.Data renaming cell→IX,seq→KZ,fields→VS
open PySem.Shared renaming heap→Jx
open PyProof.Rows.SortSt renaming mk'→JX
open NeZero renaming ne→KU
open PyProof.Rows.IsTup renaming new→KW
open PySem.Txt renaming join→K6
open Function renaming comp_def→UY
open PyProof renaming noPylong_small→VJ
open PySem.AutoSeq1 renaming wpAny_loadPart'→VL
open PySem.Builtin.Int renaming intBits→VM
open PySem.Builtin.Range renaming rangeSize→VN
open PySem.Calls renaming Name_function_global→VQ,evalArgs_plain→VR
open PySem.EntryCells renaming newEntry→VT
open PySem.Expr renaming Attribute→VU,BinOp→VW,BoolOp→VZ,Call→V1,Compare→V3,Constant→V5,List→V7,ListComp→V9,Name→Wb,Slice→Wd,Subscript→Wf,Tuple→Wh,UnaryOp→Wj
open PySem.Expr.Attribute renaming elim→VV
open PySem.Expr.BinOp renaming elim→VY
open PySem.Expr.BoolOp renaming elim→V0
open PySem.Expr.Call renaming elim→V2
open PySem.Expr.Compare renaming elim→V4
open PySem.Expr.Constant renaming elim→V6
open PySem.Expr.List renaming elim→V8
open PySem.Expr.ListComp renaming elim→Wa
open PySem.Expr.Name renaming elim→Wc
open PySem.Expr.Slice renaming elim→We
open PySem.Expr.Subscript renaming elim→Wg
open PySem.Expr.Tuple renaming elim→Wi
open PySem.Expr.UnaryOp renaming elim→Wk
open PySem.Heap.SameBut renaming update→WC
open PySem.IsRange renaming new→WE
open PySem.Paired renaming length→WG
open PySem.SeqAt.EqAt renaming of_refs→WH,same→WI
open PySem.Stmt renaming Assign→WJ,Expr→WL,Raise→WP,Return→WR
open PySem.Stmt.Assign renaming elim→WK
open PySem.Stmt.Expr renaming elim→WM
open PySem.Stmt.For renaming elim→WN
open PySem.Stmt.If renaming elim→WO
open PySem.Stmt.Raise renaming elim→WQ
open PySem.Stmt.Return renaming elim→WS
open PySem.W.WData renaming int→WV
open PySem.W.WShape renaming has→WW
open PySem.Walks renaming range→W8
abbrev Fg:=PySem.W.Frag
abbrev Pn:=Ac (PySem.Addr×PySem.Obj)
abbrev Vq:=PySem.Value->PySem.Shared->Prop
set_option genSizeOfSpec false
-- CHANGE: your row's module here,as the last of these rows
namespace L2
open PySem PySem.Spec PyProof.Rows
abbrev Key:=Sum Ag Ah
noncomputable def TX:Key->Aj->Ai
 |.inl k,v=>Value.isInt k v
 |.inr x,v=>Value.isStrOf x v
noncomputable def qA(w:AY):Key->Ag
 |.inl k=>hashInt k
 |.inr x=>hashStr w x
theorem IA:∀{k:Key}{v:Aj},TX k v=Aa->(∃ i t,k=Hc i/\v=GP i t)\/(∃ x t,k=Hd x/\v=KY x t)
 |.inl i,v,h=>by
  obtain⟨t,e⟩:=Value.isInt_shape (k:=i) (v:=v) h;exact .inl ⟨i,t,rfl,e⟩
 |.inr x,v,h=>by
  obtain⟨t,e⟩:=Value.isStrOf_shape (x:=x) (v:=v) h;exact .inr ⟨x,t,rfl,e⟩
theorem iW(a b:Ag):decide ((Hc a:Key)=Hc b)=(a==b):=by
 by_cases e:a=b
 .subst e;simp
 .have h:¬ (Hc a:Key)=Hc b:=λq=>e (Sum.inl.inj q)
  rw[Bu h];exact(E1.mpr e).symm
theorem iT(a b:Ah):decide ((Hd a:Key)=Hd b)=decide (a=b):=by
 by_cases e:a=b
 .subst e;simp
 .have h:¬ (Hd a:Key)=Hd b:=λq=>e (Sum.inr.inj q)
  rw[Bu h,Bu e]
theorem iV(a:Ag)(b:Ah):decide ((Hc a:Key)=Hd b)=Ad:=Bu (λq=>nomatch q)
theorem iU(a:Ah)(b:Ag):decide ((Hd a:Key)=Hc b)=Ad:=Bu (λq=>nomatch q)
noncomputable def Ou(prog:AM)(w:AY):PySem.KeyKind prog w Key where
 is:=TX
 hash:=qA w
 inj:=λv a b ha hb=>by
  rcases IA ha with ⟨i,t,rfl,rfl⟩|⟨x,t,rfl,rfl⟩
  .rcases IA hb with ⟨j,u,rfl,e⟩|⟨y,u,rfl,e⟩
   .injection e with e1 _;rw[e1]
   .exact nomatch e
  .rcases IA hb with ⟨j,u,rfl,e⟩|⟨y,u,rfl,e⟩
   .exact nomatch e
   .injection e with e1 _;rw[e1]
 byValue:=λk v h=>by
  rcases IA h with ⟨i,t,rfl,rfl⟩|⟨x,t,rfl,rfl⟩<;>rfl
 pyHash:=λhv h=>by
  rcases IA hv with ⟨i,t,rfl,rfl⟩|⟨x,t,rfl,rfl⟩
  .exact wpAny_pyHash_int h
  .exact wpAny_pyHash_str h
 eqBool:=λhu hv h=>by
  rcases IA hu with ⟨i,t,rfl,rfl⟩|⟨x,t,rfl,rfl⟩
  .rcases IA hv with ⟨j,u,rfl,rfl⟩|⟨y,u,rfl,rfl⟩
   .rw[iW]at h;exact Xh h
   .rw[iV]at h;exact SeqAt.EqAt.int_str i t y u _ _ _ _ h
  .rcases IA hv with ⟨j,u,rfl,rfl⟩|⟨y,u,rfl,rfl⟩
   .rw[iU]at h;exact SeqAt.EqAt.str_int x t j u _ _ _ _ h
   .rw[iT]at h;exact wpAny_eqBool_str h
 «strs»:=λk x t v h=>by
  rcases IA h with ⟨i,u,rfl,e⟩|⟨y,u,rfl,e⟩
  .exact nomatch e
  .injection e with e1 _
   subst e1;cases v<;>rfl
end L2
namespace L2
open PySem PySem.Spec PyProof.Rows
variable{us:Ac Aj}{a b it dx:Ak}{P:AM}{h:AD}{o:DE}{g':Ax ED}{t' i k n:Ae}{d':HE}{ch fp:Ac Ak}{x qual:Ah}{M:Eo}{u:Aj}{Q:FW->Ap->Prop}{e tg:An}{s:Ap}{pos p:AR}{pI:Pn}{es:Ac An}{body:Ac AZ}{f:Aj->Aj->Dq Aj}{g:Ag->Ag->Ag}{op:Do}{mA:Ah->Am Aj}{fd:BQ}{ps:Ac Ah}{scope:BX}
inductive V where
 |non|bl (b:Ai)|int (i:Ag)|str (x:Ah)|byt (b:Ax UInt8)|flt (b:UInt64)|ref (a:Ak)|ty (n:CD)
 deriving DecidableEq
variable{xs vs:Ac V}{v:V}
def Bx:V->Aj->Prop
 |.non,u=>u=A3
 |.bl b,u=>u=J3 b
 |.int i,u=>∃ t,u=GP i t
 |.str x,u=>∃ t,u=KY x t
 |.byt b,u=>∃ t,u=WT b t
 |.flt b,u=>∃ t,u=WU b t
 |.ref a,u=>u=De a
 |.ty n,u=>u=Fn n
noncomputable abbrev A6:Ac V->Ac Aj->Prop:=Ho Bx
theorem A6.length(r:A6 xs us):xs.length=us.length:=WG r
theorem A6.get:∀{xs:Ac V}{us:Ac Aj}{i:Ae}{x:V},A6 xs us->xs[i]?=Ab x->∃ u,us[i]?=Ab u/\Bx x u
 |_,_,_,_,.nil,e=>by simp at e
 |_,_,0,_,.cons r _,e=>by simp at e;subst e;exact⟨_,rfl,r⟩
 |_,_,i+1,x,.cons _ t,e=>by
  obtain⟨u,h1,h2⟩:=A6.get (i:=i) (x:=x) t (by simpa using e)
  exact⟨u,by simpa using h1,h2⟩
theorem A6.set{x:V}{u:Aj}(r:Bx x u):∀{xs:Ac V}{us:Ac Aj}(i:Ae),A6 xs us->A6 (xs.set i x) (us.set i u)
 |_,_,_,.nil=>.nil
 |_,_,0,.cons _ t=>.cons r t
 |_,_,i+1,.cons q t=>.cons q (A6.set r i t)
theorem A6.append:∀{xs ys:Ac V}{us ws:Ac Aj},A6 xs us->A6 ys ws->A6 (xs++ys) (us++ws)
 |_,_,_,_,.nil,s=>s
 |_,_,_,_,.cons r t,s=>.cons r (A6.append t s)
theorem A6.take:∀{xs:Ac V}{us:Ac Aj}(n:Ae),A6 xs us->A6 (xs.take n) (us.take n)
 |_,_,0,_=>.nil
 |_,_,_+1,.nil=>.nil
 |_,_,n+1,.cons r t=>.cons r (A6.take n t)
theorem A6.drop:∀{xs:Ac V}{us:Ac Aj}(n:Ae),A6 xs us->A6 (xs.drop n) (us.drop n)
 |_,_,0,r=>r
 |_,_,_+1,.nil=>.nil
 |_,_,n+1,.cons _ t=>A6.drop n t
def LQ:Am V->Am Aj->Prop
 |some v,Ab u=>Bx v u
 |none,Af=>HK
 |_,_=>A5
def KV{κ:Type}:Ac (κ×V)->Ac (κ×Aj)->Prop:=Ho fun(p:κ×V)(q:κ×Aj)=>p.1=q.1/\Bx p.2 q.2
noncomputable def kV:Key->V
 |.inl i=>.int i
 |.inr x=>.str x
inductive HO where
 /-- a list -/
 |lst (xs:Ac V)
 /-- a tuple (never changes) -/
 |tup (xs:Ac V)
 /-- a dict whose keys are ints and texts;one whose keys are tuples of ints and texts (the empty one is both) -/
 |dK (kvs:Ac (Key×V))|dT (kvs:Ac (Ac Key×V))
 /-- a set of ints: its members,its size -/
 |set (S:Ag->Ai) (n:Ae)
 /-- an instance of the class at C,its dict at dx,its attributes -/
 |ins (C dx:Ak) (fs:Ac (Ah×V))
 /-- the dict of the instance at x -/
 |own (x:Ak)
 /-- the dict of an exception -/
 |xd (fs:Ac (Ah×V))
 /-- a bound method,f of x -/
 |met (f x:Ak)
 /-- a range object lo,lo+1,.. below hi -/
 |rng (lo hi:Ag)
 /-- a thing that is known to the object (the script;a dict while a loop walks it): read,never written while it is so -/
 |frz (o:DE) (u:HO)
 /-- a code object's table -/
 |tbl (ps:Ax Aj)
 /-- any other thing,by what is Aa of its one object (a def of one's own: SetO a S n:=HO.ext fun h=>..) -/
 |ext (φ:AD->Prop)
abbrev Hp:=Ak->Am HO
variable{H:Hp}
noncomputable def upd(H:Hp)(a:Ak)(o:HO):Hp:=λb=>if b=a then Ab o else H b
theorem GE{o:HO}:upd H a o a=Ab o:=by unfold upd;rw[Aq rfl]
theorem B6{o:HO}(h:b≠a):upd H a o b=H b:=by unfold upd;rw[As h]
theorem FE{o:HO}(h:H a=Ab o)(h':H b=Af):a≠b:=by
 intro e;subst e;rw[h]at h';cases h'
section
variable(P:AM)(w:AY)
def ObjOk(H:Hp)(h:AD)(a:Ak):HO->Prop
  |.lst xs=>xs.length<=sizeLine/\∃(its:Ac Aj)(n:Ae),A6 xs its/\h.get? a=Ab { cls:=.type "list",data:=.seq its.toArray n }
  |.tup xs=>xs.length<=sizeLine/\∃ its:Ac Aj,A6 xs its/\JW h a its.toArray
  |.dK kvs=>kvs.length<=sizeLine/\(a==J6)=Ad/\∃ vs,KV kvs vs/\h.DictOf (Ou P w) a vs
  |.dT kvs=>kvs.length<=sizeLine/\(a==J6)=Ad/\∃ xs:Ac (Ac Key×Ak×Aj),
      Ho (fun(p:Ac Key×V)(q:Ac Key×Ak×Aj)=>p.1=q.1/\H q.2.1=Ab (.tup (p.1.map kV))/\Bx p.2 q.2.2) kvs xs /\
      ∃ o es ep,h.get? a=Ab o/\o.ExactDict/\o.data=.dict es ep/\es.toList=xs.map (entryOfKey (tupleKind (Ou P w)))/\(xs.map (·.1)).Nodup
  |.set S n=>h.SetOf (intKind P w) a S n
  |.ins C dx fs=>H dx=Ab (.own a)/\fs.length<=1000/\dx≠a/\h.get? a=Ab (DT C dx) /\
      ∃ mA,h.Ns1 dx mA/\(∀ f,LQ (fs.lookup f) (mA f))/\PySem.Within mA (fs.map (·.1))
  |.own _=>∃ o,h.get? a=Ab o
  |.xd fs=>∃ mA,h.Ns1 a mA/\∀ f,LQ (fs.lookup f) (mA f)
  |.rng lo hi=>∃ t u v,h.get? a=Ab { cls:=.type "range",data:=.fields #[.int lo t,.int hi u,.int 1 v] }
  |.frz o u=>h.get? a=Ab o/\ObjOk H h a u
  |.tbl ps=>h.get? a=Ab {cls:=.none,data:=.fields ps}
  |.met f x=>h.get? a=Ab (G7 (.ref f) (.ref x))
  |.ext φ=>φ h/\(∃ o,h.get? a=Ab o)/\∀ h1 h2:AD,φ h1->(∀ o,h1.get? a=Ab o->h2.get? a=Ab o)->φ h2
def HOk(H:Hp)(h:AD):Prop:=∀ a o,H a=Ab o->ObjOk P w H h a o
end
section
variable{P:AM}{w:AY}{H H':Hp}{h h':AD}{a:Ak}{o:HO}
theorem ObjOk.lt(x:ObjOk P w H h a o):a<h.objs.size:=by
 cases o with
 |lst xs=>obtain⟨_,_,_,_,e⟩:=x;exact AL e
 |tup xs=>obtain⟨_,_,_,p⟩:=x;exact p.lt
 |dK kvs=>obtain⟨_,_,_,_,o,_,_,e,_⟩:=x;exact AL e
 |dT kvs=>obtain⟨_,_,_,_,o,_,_,e,_⟩:=x;exact AL e
 |set S n=>obtain⟨o,_,_,_,e,_⟩:=x;exact AL e
 |ins C dx fs=>obtain⟨_,_,_,e,_⟩:=x;exact AL e
 |own y=>obtain⟨_,e⟩:=x;exact AL e
 |xd fs=>obtain⟨_,⟨_,_,_,e,_⟩,_⟩:=x;exact AL e
 |rng lo hi=>obtain⟨_,_,_,e⟩:=x;exact AL e
 |frz ob u=>obtain⟨e,_⟩:=x;exact AL e
 |tbl ps=>exact AL (show h.get? a=Ab _ from x)
 |met f y=>exact AL (show h.get? a=Ab _ from x)
 |ext φ=>obtain⟨_,⟨_,e⟩,_⟩:=x;exact AL e
theorem Ho.mapP{α β:Type}{F G:α->β->Prop}:∀{l₁:Ac α}{l₂:Ac β},Ho F l₁ l₂->(∀ a b,F a b->G a b)->Ho G l₁ l₂
 |_,_,.nil,_=>.nil
 |_,_,.cons r t,f=>.cons (f _ _ r) (Ho.mapP t f)
theorem ObjOk.stay(x:ObjOk P w H h a o)(k:∀ b u,(b=a\/H b=Ab (.own a))->h.get? b=Ab u->h'.get? b=Ab u)(ho:∀ b,H b=Ab (.own a)->H' b=Ab (.own a))(ht:∀ b xs,H b=Ab (.tup xs)->H' b=Ab (.tup xs)):ObjOk P w H' h' a o:=by
 induction o with
 |lst xs=>obtain⟨z,its,n,r,e⟩:=x;exact⟨z,its,n,r,k _ _ (.inl rfl) e⟩
 |tup xs=>obtain⟨z,its,r,ob,e,c⟩:=x;exact⟨z,its,r,ob,k _ _ (.inl rfl) e,c⟩
 |dK kvs=>obtain⟨z,y,vs,r,ob,es,ep,e,c⟩:=x;exact⟨z,y,vs,r,ob,es,ep,k _ _ (.inl rfl) e,c⟩
 |dT kvs=>
  obtain⟨z,y,xs,r,ob,es,ep,e,c⟩:=x;exact⟨z,y,xs,Ho.mapP r λp q z=>⟨z.1,ht _ _ z.2.1,z.2.2⟩,ob,es,ep,k _ _ (.inl rfl) e,c⟩
 |set S n=>obtain⟨ob,es,ep,t,e,c⟩:=x;exact⟨ob,es,ep,t,k _ _ (.inl rfl) e,c⟩
 |ins C dx fs=>
  obtain⟨d,z,ne,e,mA,⟨od,es,ep,e2,c⟩,r⟩:=x;exact⟨ho _ d,z,ne,k _ _ (.inl rfl) e,mA,⟨od,es,ep,k _ _ (.inr d) e2,c⟩,r⟩
 |own y=>obtain⟨ob,e⟩:=x;exact⟨ob,k _ _ (.inl rfl) e⟩
 |xd fs=>obtain⟨mA,⟨od,es,ep,e,c⟩,r⟩:=x;exact⟨mA,⟨od,es,ep,k _ _ (.inl rfl) e,c⟩,r⟩
 |rng lo hi=>obtain⟨t,u,v,e⟩:=x;exact⟨t,u,v,k _ _ (.inl rfl) e⟩
 |frz ob u ih=>obtain⟨e,q⟩:=x;exact⟨k _ _ (.inl rfl) e,ih q⟩
 |tbl ps=>
  have e:h.get? a=Ab {cls:=.none,data:=.fields ps}:=x;show h'.get? a=Ab {cls:=.none,data:=.fields ps};exact k a _ (.inl rfl) e
 |met f y=>
  have e:h.get? a=Ab (G7 (.ref f) (.ref y)):=x;show h'.get? a=Ab (G7 (.ref f) (.ref y));exact k a _ (.inl rfl) e
 |ext φ=>obtain⟨p,⟨o,e⟩,st⟩:=x;exact⟨st _ _ p λo q=>k _ _ (.inl rfl) q,⟨o,k _ _ (.inl rfl) e⟩,st⟩
theorem HOk.lt(x:HOk P w H h)(e:H a=Ab o):a<h.objs.size:=(x a o e).lt
theorem HOk.fresh(x:HOk P w H h)(e:h.objs.size<=a):H a=Af:=by
 cases q:H a with
 |none=>rfl
 |some u=>exact absurd (AO (x.lt q) e) (Br _)
theorem HOk.kept(x:HOk P w H h)(k:∀ b u,h.get? b=Ab u->h'.get? b=Ab u):HOk P w H h':=λa o e=>
 (x a o e).stay (λb u _ q=>k b u q) (λ_ q=>q) λ_ _ q=>q
theorem HOk.laid(x:HOk P w H h)(k:∀ b u,h.get? b=Ab u->h'.get? b=Ab u)(hp:h.objs.size<=a)(new:ObjOk P w (upd H a o) h' a o):HOk P w (upd H a o) h':=λb u e=>by
 have hn:=x.fresh hp;by_cases hb:b=a
 .subst hb;rw[GE]at e;cases e;exact new
 .rw[B6 hb]at e;exact(x b u e).stay (λc v _ q=>k c v q) (λc q=>by rw[B6 (FE q hn)];exact q) λc xs q=>by rw[B6 (FE q hn)];exact q
end
def Rd(H:Hp)(a:Ak)(u:HO):Prop:=H a=Ab u\/∃ o,H a=Ab (.frz o u)
theorem Rd.ok{w:AY}{u:HO}(r:Rd H a u)(x:HOk P w H h):ObjOk P w H h a u:=by
 rcases r with r|⟨o,r⟩
 .exact x a u r
 .obtain⟨_,q⟩:=x a _ r;exact q
def Mut:Am HO->Prop
 |some (.lst _)=>HK
 |some (.dK _)=>HK
 |some (.dT _)=>HK
 |some (.set _ _)=>HK
 |some (.ins _ _ _)=>HK
 |some (.ext _)=>HK
 |_=>A5
section
variable{P:AM}{w:AY}{H:Hp}{h h':AD}{x e:Ak}{o':HO}
theorem HOk.write(ok:HOk P w H h)(mu:Mut (H x))(he:e=x\/H e=Ab (.own x))(k:∀ b u,b≠e->h.get? b=Ab u->h'.get? b=Ab u)(heo:∃ u,h'.get? e=Ab u)(new:ObjOk P w (upd H x o') h' x o'):HOk P w (upd H x o') h':=λb u q=>by
 have nown:∀ c y,H c=Ab (.own y)->c≠x:=λc y r z=>by subst z;rw[r]at mu;exact mu
 have ntup:∀ c xs,H c=Ab (.tup xs)->c≠x:=λc xs r z=>by subst z;rw[r]at mu;exact mu
 by_cases hb:b=x
 .subst hb;rw[GE]at q;cases q;exact new
 .rw[B6 hb]at q;by_cases hbe:b=e
  .have q':H b=Ab (.own x):=by
    rcases he with z|z
    .exact absurd (hbe.trans z) hb
    .rw[hbe];exact z
   rw[q]at q';cases q';obtain⟨v,hv⟩:=heo;exact⟨v,by rw[hbe];exact hv⟩
  .refine(ok b u q).stay (λc v hc r=>k c v ?_ r) (λc r=>by rw[B6 (nown c b r)];exact r) λc xs r=>by rw[B6 (ntup c xs r)];exact r
   rcases hc with rfl|hc
   .exact hbe
   .rintro rfl;rcases he with z|z
    .exact nown c b hc z
    .rw[hc]at z;cases z;exact hb rfl
end
structure Un (fs ex:Ac Ak) (H H':Hp) (h h':AD):Prop where
 keep:∀ b o,h.get? b=Ab o->H b=Af->b∉fs->b∉ex->h'.get? b=Ab o
 slot:∀ b o,h.get? b=Ab o->H b=Af->b∈fs->b∉ex->∃ sl,h'.get? b=Ab {o with slots:=sl}
 free:∀ b o,h.get? b=Ab o->H b=Af->b∉ex->H' b=Af
 there:∀ b o,h.get? b=Ab o->b∉ex->∃ o',h'.get? b=Ab o'
 tups:∀ b xs,H b=Ab (.tup xs)->H' b=Ab (.tup xs)
 frzs:∀ b o u,H b=Ab (.frz o u)->H' b=Ab (.frz o u)
 tbls:∀ b ps,H b=Ab (.tbl ps)->∃ more,H' b=Ab (.tbl (ps++more))
section
variable{fs fs' ex ex':Ac Ak}{H H1 H2:Hp}{h h1 h2 h':AD}{a x e:Ak}{o:HO}
theorem Un.any(u:Un fs ex H H1 h h1){ob:DE}(q:h.get? b=Ab ob)(n:H b=Af)(hx:b∉ex):∃ sl,h1.get? b=Ab {ob with slots:=sl}:=by
 by_cases hb:b∈fs
 .exact u.slot b ob q n hb hx
 .exact⟨ob.slots,u.keep b ob q n hb hx⟩
theorem Un.kept(k:∀ b u,h.get? b=Ab u->h'.get? b=Ab u):Un fs ex H H h h':=
 ⟨λb ob q _ _ _=>k b ob q,λb ob q _ _ _=>⟨ob.slots,k b ob q⟩,λ_ _ _ n _=>n,λb ob q _=>⟨ob,k b ob q⟩,λ_ _ q=>q,λ_ _ _ q=>q,λ_ ps q=>⟨#[],by rw[q];simp⟩⟩
theorem Un.refl:Un fs ex H H h h:=Un.kept λ_ _ q=>q
theorem Un.laid(k:∀ b u,h.get? b=Ab u->h'.get? b=Ab u)(hp:h.objs.size<=a)(hn:H a=Af):Un fs ex H (upd H a o) h h' where
 keep:=λb u q _ _ _=>k b u q
 slot:=λb u q _ _ _=>⟨u.slots,k b u q⟩
 free:=λb u q n _=>by rw[B6 (Bj (AO (AL q) hp))];exact n
 there:=λb u q _=>⟨u,k b u q⟩
 tups:=λb xs q=>by rw[B6 (FE q hn)];exact q
 frzs:=λb u xs q=>by rw[B6 (FE q hn)];exact q
 tbls:=λb ps q=>⟨#[],by rw[B6 (FE q hn),q];simp⟩
theorem Un.write(mu:Mut (H x))(he:e=x\/H e=Ab (.own x))(k:∀ b u,b≠e->h.get? b=Ab u->h'.get? b=Ab u)(heo:∃ u,h'.get? e=Ab u):Un fs ex H (upd H x o) h h':=by
 have hx:∀ b,H b=Af->b≠x:=λb n z=>by subst z;rw[n]at mu;exact mu
 have hb:∀ b,H b=Af->b≠e:=λb n z=>by
  subst z;rcases he with r|r
  .exact hx b n r
  .rw[n]at r;cases r
 have hm:∀ b u,H b=Ab u->¬ Mut (Ab u)->b≠x:=λb u q nm z=>by subst z;rw[q]at mu;exact nm mu
 refine⟨λb u q n _ _=>k b u (hb b n) q,λb u q n _ _=>⟨u.slots,k b u (hb b n) q⟩,λb u q n _=>by rw[B6 (hx b n)];exact n,λb u q _=>?_,
  λb xs q=>by rw[B6 (hm b _ q λz=>z)];exact q,λb u xs q=>by rw[B6 (hm b _ q λz=>z)];exact q,λb ps q=>⟨#[],by rw[B6 (hm b _ q λz=>z),q];simp⟩⟩
 by_cases hbe:b=e
 .subst hbe;exact heo
 .exact⟨u,k b u hbe q⟩
end
noncomputable def trk(h:AD)(H:Hp):Ac Ak:=(A8 h.objs.size).filter λa=>(H a).isSome
noncomputable def IQ(h:AD)(H:Hp):AD:=PySem.W.hideAll h (trk h H)
theorem Yn(h:AD)(H:Hp):(IQ h H).objs.size=h.objs.size:=PySem.W.hideAll_size _ _
theorem Zx(e:h.get? b=Ab o)(n:H b=Af):(IQ h H).get? b=Ab o:=
 PySem.W.hideAll_get _ e λhm=>by
  have q:(H b).isSome=Aa:=(Gc.mp hm).2;rw[n]at q;simp at q
theorem cL(e:(IQ h H).get? b=Ab o):h.get? b=Ab o/\H b=Af:=by
 have e':h.get? b=Ab o:=PySem.W.of_hideAll (trk h H) e;refine⟨e',?_⟩;cases q:H b with
 |none=>rfl
 |some x=>
  have hm:b∈trk h H:=Gc.mpr ⟨DC.mpr (AL e'),by simp[q]⟩
  have z:(IQ h H).get? b=Af:=PySem.W.hideAll_none (trk h H) hm;rw[z]at e;cases e
noncomputable def eJ(g h:AD)(L:Ak):Pn:=(A8 h.objs.size).filterMap λa=>if a=L\/(g.get? a).isSome=Aa then Af else (h.get? a).map λo=>(a,o)
noncomputable def rest(g h:AD)(L d:Ak):Pn:=(eJ g h L).filter λp=>decide (p.1≠d)
structure Mod (K:Fg) (mg:Ah->Am Aj) (base:AD):Prop where
 kin:K.In base
 glob:base.Ns Bc mg
 blt:∃ mb,base.Ns Iu mb/\∀ x:Ah,x≠"__name__"->mb x=CB x
 nolimit:base.NoLimit
structure Cx where
 prog:AM
 w:AY
 K:Fg
 mg:Ah->Am Aj
 base:AD
 A:AT
 N:Ac Ah
 s₀:Ap
 H₀:Hp
 env:Cr
 outer:Ac Cr
 stack:Ac Cr
 ex:Ac Ak
 fn:Ah->Ai
 calm:Ai
 pn:Pn
 xe:Aj->Ap->Prop
variable{X:Cx}
noncomputable def frs(l:Ac Cr):Ac Ak:=l.filterMap (·.frame)
noncomputable abbrev Cx.fs(X:Cx):Ac Ak:=frs X.outer
def Vis(sc:BX)(x:Ah):Prop:=sc.names.lookup x=Ab .local\/sc.names.lookup x=Ab .cell\/sc.names.lookup x=Ab .free
def Loc(sc:BX)(x:Ah):Prop:=sc.names.lookup x=Ab .local\/sc.names.lookup x=Ab .cell
noncomputable def pT(env:Cr)(h:AD)(m:Ah->Am Aj)(x:Ah)(u:Aj):Prop:=
 (env.kindOf x=Ab .local/\m x=Ab u)\/((env.kindOf x=Ab .cell\/env.kindOf x=Ab .free)/\∃ c,env.cells.lookup x=Ab c/\h.IsCell c (Ab u))
structure Cx.Ok (X:Cx):Prop where
 mod:Mod X.K X.mg X.base
 kind:X.env.scope.kind=.function
 glob:X.env.globals=Bc
 blt:X.env.builtins=Iu
 above:X.s₀.heap.objs.size<=X.env.locals
 inj:∀ x y c,X.env.cells.lookup x=Ab c->X.env.cells.lookup y=Ab c->x=y
 has:∀ x,(X.env.kindOf x=Ab .cell\/X.env.kindOf x=Ab .free)->∃ c,X.env.cells.lookup x=Ab c
 cab:∀ x c,X.fn x=Aa->X.env.cells.lookup x=Ab c->X.s₀.heap.objs.size<=c
 hd:X.calm=Aa->X.A.handled=Af
 frames:X.A.frames=Ab X.stack
 stk:X.stack=X.outer\/(X.stack=X.env::X.outer/\X.env.frame=Ab X.env.locals)
 exf:∀ b∈X.ex,b≠X.env.locals/\∀ x c,X.env.cells.lookup x=Ab c->c≠b
 bs:∀ b o,X.base.get? b=Ab o->X.s₀.heap.get? b=Ab o/\X.H₀ b=Af
 bsz:X.base.objs.size<=X.s₀.heap.objs.size
 noex:∀ b o,X.base.get? b=Ab o->b∉X.ex
 exfs:∀ b∈X.ex,b∉X.fs
 funs:X.s₀.heap.FunFrames X.base X.outer
 frf:∀ b∈X.fs,X.H₀ b=Af
structure Inv (X:Cx) (pI:Pn) (Y:Ac (Am V)) (H:Hp) (s:Ap):Prop where
 ok:X.Ok
 os:s.os=X.s₀.os
 bare:Fl s.gens
 base:Un X.fs X.ex X.H₀ H X.s₀.heap s.heap
 loc:∃ m,s.heap.Ns X.env.locals m/\∀(i:Ae)(x:Ah)(v:V),X.N[i]?=Ab x->Y[i]?=Ab (Ab v)->Vis X.env.scope x->∃ u,Bx v u/\pT X.env s.heap m x u
 cell:∀ x c,X.env.cells.lookup x=Ab c->∃ v,s.heap.IsCell c v
 free:H X.env.locals=Af
 freeC:∀ x c,X.env.cells.lookup x=Ab c->H c=Af
 pin:∀ p∈X.pn++pI,s.heap.get? p.1=Ab p.2/\H p.1=Af/\p.1≠X.env.locals/\p.1∉X.fs/\∀ v,p.2.data≠.cell v
 hok:HOk X.prog X.w H s.heap
 len:Y.length=X.N.length
section
variable{X:Cx}{pI:Pn}{Y:Ac (Am V)}{H H':Hp}{s:Ap}{h':AD}
theorem Cx.Ok.nofr(ok:X.Ok)(e:X.base.get? b=Ab o):b∉X.fs:=λhb=>by
 have:=(ok.funs.mem hb).1;rw[e]at this;cases this
theorem Inv.bs(I:Inv X pI Y H s):∀ b o,X.base.get? b=Ab o->s.heap.get? b=Ab o/\H b=Af:=λb o e=>
 ⟨I.base.keep b o (I.ok.bs b o e).1 (I.ok.bs b o e).2 (I.ok.nofr e) (I.ok.noex b o e),I.base.free b o (I.ok.bs b o e).1 (I.ok.bs b o e).2 (I.ok.noex b o e)⟩
theorem Inv.bk(I:Inv X pI Y H s):∀ b o,X.base.get? b=Ab o->s.heap.get? b=Ab o:=λb o e=>(I.bs b o e).1
theorem Inv.mod(I:Inv X pI Y H s):Mod X.K X.mg X.base:=I.ok.mod
theorem Inv.kIn(I:Inv X pI Y H s):X.K.In s.heap:=I.ok.mod.kin.keeps I.bk
theorem Inv.lt(I:Inv X pI Y H s):X.env.locals<s.heap.objs.size:=let ⟨_,hn,_⟩:=I.loc;hn.lt
theorem Inv.sz(I:Inv X pI Y H s):X.s₀.heap.objs.size<=s.heap.objs.size:=B5 I.ok.above (Gd I.lt)
theorem Inv.nofs(I:Inv X pI Y H s)(h:s.heap.objs.size<=a):a∉X.fs:=λhb=>by
 obtain⟨_,o,ho,_⟩:=I.ok.funs.mem hb;exact absurd (AO (AL ho) (B5 I.sz h)) (Br _)
theorem Inv.cne(I:Inv X pI Y H s):∀ x c,X.env.cells.lookup x=Ab c->c≠X.env.locals:=λx c e z=>by
 obtain⟨v,o,ho,hd⟩:=I.cell x c e;obtain⟨m,⟨o',es,ep,ho',hd',_⟩,_⟩:=I.loc;rw[z,ho']at ho;cases ho;rw[hd']at hd;cases hd
theorem Inv.funs(I:Inv X pI Y H s):s.heap.FunFrames X.base X.outer:=by
 have all:∀(l:Ac Cr),(∀ b∈frs l,b∈X.fs)->X.s₀.heap.FunFrames X.base l->s.heap.FunFrames X.base l:=by
  intro l
  induction l with
  |nil=>intro _ _;trivial
  |cons env r ih=>
   intro hs hl;obtain⟨hk,⟨L,o,hf,hn,ho,hd⟩,hr⟩:=hl;have hL:L∈X.fs:=hs L (by unfold frs;rw[Gz,hf];exact AN)
   obtain⟨sl,e⟩:=I.base.slot L o ho (I.ok.frf L hL) hL λz=>I.ok.exfs L z hL
   exact⟨hk,⟨L,_,hf,hn,e,hd⟩,ih (λb hb=>hs b (by unfold frs;rw[Gz,hf];exact AC _ hb)) hr⟩
 exact all X.outer (λ_ hb=>hb) I.ok.funs
theorem Inv.stack(I:Inv X pI Y H s):s.heap.FunFrames X.base X.stack:=by
 rcases I.ok.stk with e|⟨e,hf⟩
 .rw[e];exact I.funs
 .rw[e];obtain⟨m,hn,_⟩:=I.loc;refine .cons (by rw[I.ok.kind];decide) hf hn ?_ I.funs
  exact Gf (B5 I.ok.bsz I.ok.above)
theorem Inv.stkSub(I:Inv X pI Y H s):∀ b∈frs X.stack,b∈X.env.locals::X.fs:=λb hb=>by
 rcases I.ok.stk with e|⟨e,hf⟩
 .rw[e]at hb;exact AC _ hb
 .rw[e]at hb;unfold frs at hb;rw[Gz,hf]at hb;exact hb
theorem Inv.stkFree(I:Inv X pI Y H s):∀ b∈frs X.stack,H b=Af:=λb hb=>by
 rcases AI.mp (I.stkSub b hb) with e|hb
 .rw[e];exact I.free
 .obtain⟨_,o,ho,_⟩:=I.ok.funs.mem hb;exact I.base.free b o ho (I.ok.frf b hb) λz=>I.ok.exfs b z hb
theorem Inv.step(I:Inv X pI Y H s)(hch:∀ b∈ch,(b∈X.ex\/X.s₀.heap.objs.size<=b)/\b≠X.env.locals/\(∀ x c,X.env.cells.lookup x=Ab c->c≠b)/\∀ p∈X.pn++pI,p.1≠b)(keep:∀ b o,b≠X.env.locals->b∉X.fs->b∉ch->s.heap.get? b=Ab o->H b=Af->h'.get? b=Ab o)(slot:∀ b o,b≠X.env.locals->b∈X.fs->b∉ch->s.heap.get? b=Ab o->H b=Af->∃ sl,h'.get? b=Ab {o with slots:=sl})(free:∀ b o,b∉ch->s.heap.get? b=Ab o->H b=Af->H' b=Af)(there:∀ b o,b∉ch->s.heap.get? b=Ab o->∃ o',h'.get? b=Ab o')(tups:∀ b xs,H b=Ab (.tup xs)->H' b=Ab (.tup xs))(frzs:∀ b o u,H b=Ab (.frz o u)->H' b=Ab (.frz o u))(tbls:∀ b ps,H b=Ab (.tbl ps)->∃ more,H' b=Ab (.tbl (ps++more)))(ns:∀ m,s.heap.Ns X.env.locals m->h'.Ns X.env.locals m)(hok:HOk X.prog X.w H' h')(hg:Fl g'):Inv X pI Y H' {s with heap:=h',gens:=g',drawn:=d',toks:=t'}:=by
 have neL:∀ b o,X.s₀.heap.get? b=Ab o->b≠X.env.locals:=λb o e=>Bj (AO (AL e) I.ok.above)
 have neC:∀ b o,X.s₀.heap.get? b=Ab o->b∉X.ex->b∉ch:=λb o e hx hb=>by
  rcases (hch b hb).1 with z|z
  .exact hx z
  .exact absurd (AO (AL e) z) (Br _)
 have cellK:∀ x c,X.env.cells.lookup x=Ab c->∀ v,s.heap.IsCell c v->h'.IsCell c v:=λx c e v ⟨o,ho,hd⟩=>by
  have nch:c∉ch:=λz=>(hch c z).2.2.1 x c e rfl
  by_cases hc:c∈X.fs
  .obtain⟨sl,q⟩:=slot c o (I.cne x c e) hc nch ho (I.freeC x c e);exact⟨_,q,hd⟩
  .exact⟨o,keep c o (I.cne x c e) hc nch ho (I.freeC x c e),hd⟩
 refine⟨I.ok,I.os,hg,⟨λb o e n hb hx=>?_,λb o e n hb hx=>?_,λb o e n hx=>?_,λb o e hx=>?_,λb xs e=>tups b xs (I.base.tups b xs e),λb o xs e=>frzs b o xs (I.base.frzs b o xs e),λb ps e=>?_⟩,?_,λx c e=>?_,?_,λx c e=>?_,λp hp=>?_,hok,I.len⟩
 .exact keep b o (neL b o e) hb (neC b o e hx) (I.base.keep b o e n hb hx) (I.base.free b o e n hx)
 .obtain⟨sl,e1⟩:=I.base.slot b o e n hb hx;obtain⟨sl',e2⟩:=slot b _ (neL b o e) hb (neC b o e hx) e1 (I.base.free b o e n hx);exact⟨sl',e2⟩
 .obtain⟨o',e1⟩:=I.base.there b o e hx;exact free b o' (neC b o e hx) e1 (I.base.free b o e n hx)
 .obtain⟨o',e1⟩:=I.base.there b o e hx;exact there b o' (neC b o e hx) e1
 .obtain⟨m1,e1⟩:=I.base.tbls b ps e;obtain⟨m2,e2⟩:=tbls b _ e1;exact⟨m1++m2,by rw[e2,Array.append_assoc]⟩
 .obtain⟨m,hn,hl⟩:=I.loc;refine⟨m,ns m hn,λi x v e1 e2 e3=>?_⟩
  obtain⟨u,r,l⟩:=hl i x v e1 e2 e3;refine⟨u,r,?_⟩;rcases l with l|⟨k,c,e,z⟩
  .exact .inl l
  .exact .inr ⟨k,c,e,cellK x c e _ z⟩
 .obtain⟨v,z⟩:=I.cell x c e;exact⟨v,cellK x c e v z⟩
 .obtain⟨m,⟨o,_,_,ho,_⟩,_⟩:=I.loc;exact free _ o (λz=>(hch _ z).2.1 rfl) ho I.free
 .obtain⟨v,o,ho,hd⟩:=I.cell x c e;exact free c o (λz=>(hch c z).2.2.1 x c e rfl) ho (I.freeC x c e)
 .obtain⟨e,n,ne,nf,d⟩:=I.pin p hp;have nch:p.1∉ch:=λz=>(hch p.1 z).2.2.2 p hp rfl
  exact⟨keep p.1 p.2 ne nf nch e n,free p.1 p.2 nch e n,ne,nf,d⟩
theorem Inv.un(I:Inv X pI Y H s)(u:Un X.fs [] H H' s.heap h')(hok:HOk X.prog X.w H' h'):Inv X pI Y H' {s with heap:=h',toks:=t'}:=by
 obtain⟨m,⟨o,es,ep,ho,r⟩,_⟩:=id I.loc;obtain⟨sl,hL⟩:=u.any ho I.free (by simp)
 exact I.step (g':=s.gens) (d':=s.drawn) (ch:=[]) (λ_ z=>nomatch z) (λb o _ hb _ e n=>u.keep b o e n hb (by simp)) (λb o _ hb _ e n=>u.slot b o e n hb (by simp)) (λb o _ e n=>u.free b o e n (by simp)) (λb o _ e=>u.there b o e (by simp)) u.tups u.frzs u.tbls (λm' hm=>by
  obtain⟨o',es',ep',ho',r'⟩:=hm;rw[ho]at ho';cases ho';exact⟨_,es',ep',hL,r'⟩) hok I.bare
theorem Inv.call(I:Inv X pI Y H s)(u:Un (frs X.stack) ch H H' s.heap h')(hok:HOk X.prog X.w H' h')(hg:Fl g')(hch:∀ b∈ch,(b∈X.ex\/X.s₀.heap.objs.size<=b)/\b≠X.env.locals/\(∀ x c,X.env.cells.lookup x=Ab c->c≠b)/\∀ p∈X.pn++pI,p.1≠b):Inv X pI Y H' {s with heap:=h',gens:=g',drawn:=d',toks:=t'}:=by
 obtain⟨m,⟨o,es,ep,ho,r⟩,_⟩:=id I.loc;obtain⟨sl,hL⟩:=u.any ho I.free λz=>(hch _ z).2.1 rfl
 exact I.step (ch:=ch) hch (λb o hL hb hc e n=>u.keep b o e n (λz=>(AI.mp (I.stkSub b z)).elim hL hb) hc) (λb o _ _ hc e n=>u.any e n hc) (λb o hc e n=>u.free b o e n hc) (λb o hc e=>u.there b o e hc) u.tups u.frzs u.tbls (λm' hm=>by
  obtain⟨o',es',ep',ho',r'⟩:=hm;rw[ho]at ho';cases ho';exact⟨_,es',ep',hL,r'⟩) hok hg
theorem Inv.turned(I:Inv X pI Y H s)(k:∀ b o,b≠it->s.heap.get? b=Ab o->h'.get? b=Ab o)(hn:H it=Af)(hL:it≠X.env.locals)(h1:it∈X.ex\/X.s₀.heap.objs.size<=it)(h2:∀ x c,X.env.cells.lookup x=Ab c->c≠it)(h3:∀ p∈X.pn++pI,p.1≠it):Inv X pI Y H {s with heap:=h',toks:=t'}:=by
 have nit:∀ b u,H b=Ab u->b≠it:=λb u e z=>by rw[z,hn]at e;cases e
 refine I.step (g':=s.gens) (d':=s.drawn) (ch:=[it]) (λb hb=>?_) (λb o _ _ hc e _=>k b o (λz=>hc (by simp[z])) e) (λb o _ _ hc e _=>⟨o.slots,k b o (λz=>hc (by simp[z])) e⟩) (λ_ _ _ _ n=>n)
  (λb o hc e=>⟨o,k b o (λz=>hc (by simp[z])) e⟩) (λ_ _ e=>e) (λ_ _ _ e=>e) (λb ps e=>⟨#[],by rw[e];simp⟩) (λm hm=>?_) (λb u e=>?_) I.bare
 .have e:b=it:=by simpa using hb
  subst e;exact⟨h1,hL,h2,h3⟩
 .obtain⟨o,es,ep,ho,r⟩:=hm;exact⟨o,es,ep,k _ o (Ed hL) ho,r⟩
 .refine(I.hok b u e).stay (λc v hc q=>k c v ?_ q) (λ_ q=>q) λ_ _ q=>q
  rcases hc with z|z
  .rw[z];exact nit b u e
  .exact nit c _ z
theorem Inv.tok(I:Inv X pI Y H s)(t:Ae):Inv X pI Y H {s with toks:=t}:=I.un (h':=s.heap) (t':=t) Un.refl I.hok
theorem Inv.kept{t':Ae}(I:Inv X pI Y H s)(k:∀ b u,s.heap.get? b=Ab u->h'.get? b=Ab u):Inv X pI Y H {s with heap:=h',toks:=t'}:=I.un (Un.kept k) (I.hok.kept k)
theorem Inv.laid{a:Ak}{o:HO}{t':Ae}(I:Inv X pI Y H s)(k:∀ b u,s.heap.get? b=Ab u->h'.get? b=Ab u)(hp:s.heap.objs.size<=a)(new:ObjOk X.prog X.w (upd H a o) h' a o):Inv X pI Y (upd H a o) {s with heap:=h',toks:=t'}:=I.un (Un.laid k hp (I.hok.fresh hp)) (I.hok.laid k hp new)
theorem Inv.write{x e:Ak}{o:HO}{t':Ae}(I:Inv X pI Y H s)(mu:Mut (H x))(he:e=x\/H e=Ab (.own x))(k:∀ b u,b≠e->s.heap.get? b=Ab u->h'.get? b=Ab u)(heo:∃ u,h'.get? e=Ab u)(new:ObjOk X.prog X.w (upd H x o) h' x o):Inv X pI Y (upd H x o) {s with heap:=h',toks:=t'}:=I.un (Un.write mu he k heo) (I.hok.write mu he k heo new)
theorem Inv.pins_of{pins':Pn}(I:Inv X pI Y H s)(h:∀ p∈pins',s.heap.get? p.1=Ab p.2/\H p.1=Af/\p.1≠X.env.locals/\p.1∉X.fs/\∀ v,p.2.data≠.cell v):Inv X pins' Y H s:=
 ⟨I.ok,I.os,I.bare,I.base,I.loc,I.cell,I.free,I.freeC,λp hp=>(Ce.mp hp).elim (λz=>I.pin p (EQ _ z)) (h p),I.hok,I.len⟩
theorem N3{N:Ac Ah}(hN:N.Nodup){j:Ae}(a:N[i]?=Ab x)(b:N[j]?=Ab x):i=j:=by
 obtain⟨h1,e1⟩:=A4.mp a;obtain⟨h2,e2⟩:=A4.mp b;exact(List.getElem_inj hN).mp (e1.trans e2.symm)
theorem Qi{A:AT}{E:Vq}(I:Inv X pI Y H s)(hN:X.N.Nodup)(hi:X.N[i]?=Ab x)(hx:Loc X.env.scope x)(r:Bx v u)(h:∀ s',Inv X pI (Y.set i (Ab v)) H s'->(∃ a,E9 a s.heap s'.heap/\(a=X.env.locals\/X.env.cells.lookup x=Ab a))->Q () s')(hf:X.fn x=Aa\/X.env.scope.names.lookup x=Ab .local:=by first|exact .inl rfl|exact .inr rfl|assumption):AB M A (storeName X.env x u) Q E s:=by
 obtain⟨m,hn,hl⟩:=id I.loc;have hcls:(X.env.scope.kind==.class||(X.env.scope.kind==.module&&X.env.locals != X.env.globals))=Ad:=by rw[I.ok.kind];rfl
 have hiσ:i<Y.length:=by rw[I.len];exact(A4.mp hi).1
 have cne:=I.cne;have tracked:∀{a:Ak}{h':AD},(∃ o,s.heap.get? a=Ab o/\H a=Af)->E9 a s.heap h'->HOk X.prog X.w H h':=λ{a h'} ha hs b ob e=>by
  obtain⟨_,_,hfree⟩:=ha;refine(I.hok b ob e).stay (λc w' hc q=>(hs.2 c ?_).trans q) (λ_ q=>q) λ_ _ q=>q
  rintro rfl;rcases hc with rfl|hc
  .rw[hfree]at e;cases e
  .rw[hfree]at hc;cases hc
 rcases hx with hk|hk
 .refine wpAny_storeName_local hk hn (λh' hn' hs=>?_) hcls
  obtain⟨oL,_,_,hoL,_⟩:=id hn;refine h _ ⟨I.ok,I.os,I.bare,⟨λb o e n hb hx=>?_,λb o e n hb hx=>?_,I.base.free,λb o e hx=>?_,I.base.tups,I.base.frzs,I.base.tbls⟩,⟨_,hn',λj y v' e1 e2 e3=>?_⟩,λy c e=>?_,I.free,I.freeC,λp hp=>?_,tracked ⟨oL,hoL,I.free⟩ hs,by simpa using I.len⟩ ⟨_,hs,.inl rfl⟩
  .exact(hs.2 b (Bj (AO (AL e) I.ok.above))).trans (I.base.keep b o e n hb hx)
  .obtain⟨sl,e1⟩:=I.base.slot b o e n hb hx;exact⟨sl,(hs.2 b (Bj (AO (AL e) I.ok.above))).trans e1⟩
  .obtain⟨o',e1⟩:=I.base.there b o e hx;exact⟨o',(hs.2 b (Bj (AO (AL e) I.ok.above))).trans e1⟩
  .by_cases hj:j=i
   .subst hj;rw[hi]at e1;cases e1;rw[C2 hiσ]at e2;cases e2;exact⟨u,r,.inl ⟨hk,by simp⟩⟩
   .rw[Gb (Ed hj)]at e2;obtain⟨u',r',q⟩:=hl j y v' e1 e2 e3;refine⟨u',r',?_⟩;rcases q with ⟨k,e⟩|⟨k,c,e,z⟩
    .refine .inl ⟨k,?_⟩;have:y≠x:=λe=>hj (N3 hN e1 (e ▸ hi))
     simp[this,e]
    .exact .inr ⟨k,c,e,z.sameBut hs (cne y c e)⟩
  .obtain⟨w',z⟩:=I.cell y c e;exact⟨w',z.sameBut hs (cne y c e)⟩
  .obtain⟨e,n,ne,nf,d⟩:=I.pin p hp;exact⟨(hs.2 p.1 ne).trans e,n,ne,nf,d⟩
 .have hfn:X.fn x=Aa:=by
   rcases hf with z|z
   .exact z
   .rw[z]at hk;cases hk
  obtain⟨c,hc⟩:=I.ok.has x (.inl hk);obtain⟨w',z⟩:=I.cell x c hc;refine wpAny_storeName_cell I.ok.kind hk hc z (λh' hc' hs=>?_)
  obtain⟨oc,hoc,hocd⟩:=id z;refine h {s with heap:=h'} ⟨I.ok,I.os,I.bare,⟨λb o e n hb hx=>?_,λb o e n hb hx=>?_,I.base.free,λb o e hx=>?_,I.base.tups,I.base.frzs,I.base.tbls⟩,⟨m,hn.sameBut hs (Ed (cne x c hc)),λj y v' e1 e2 e3=>?_⟩,λy c' e=>?_,I.free,I.freeC,λp hp=>?_,tracked ⟨oc,hoc,I.freeC x c hc⟩ hs,by simpa using I.len⟩ ⟨c,hs,.inr hc⟩
  .exact(hs.2 b (Bj (AO (AL e) (I.ok.cab x c hfn hc)))).trans (I.base.keep b o e n hb hx)
  .obtain⟨sl,e1⟩:=I.base.slot b o e n hb hx;exact⟨sl,(hs.2 b (Bj (AO (AL e) (I.ok.cab x c hfn hc)))).trans e1⟩
  .obtain⟨o',e1⟩:=I.base.there b o e hx;exact⟨o',(hs.2 b (Bj (AO (AL e) (I.ok.cab x c hfn hc)))).trans e1⟩
  .by_cases hj:j=i
   .subst hj;rw[hi]at e1;cases e1;rw[C2 hiσ]at e2;cases e2;exact⟨u,r,.inr ⟨.inl hk,c,hc,hc'⟩⟩
   .rw[Gb (Ed hj)]at e2;obtain⟨u',r',q⟩:=hl j y v' e1 e2 e3;refine⟨u',r',?_⟩;rcases q with q|⟨k,c',e,z'⟩
    .exact .inl q
    .refine .inr ⟨k,c',e,z'.sameBut hs ?_⟩;rintro rfl;exact hj (N3 hN e1 (I.ok.inj _ _ _ e hc ▸ hi))
  .by_cases hcc:c'=c
   .subst hcc;exact⟨_,hc'⟩
   .obtain⟨w2,z2⟩:=I.cell y c' e;exact⟨w2,z2.sameBut hs hcc⟩
  .obtain⟨e,n,ne,nf,d⟩:=I.pin p hp;refine⟨(hs.2 p.1 ?_).trans e,n,ne,nf,d⟩;intro q;rw[q,hoc]at e;have q':oc=p.2:=Bh e;exact d w' (by rw[<-q'];exact hocd)
theorem Of{A:AT}{E:Vq}(I:Inv X pI Y H s)(hN:X.N.Nodup)(hi:X.N[i]?=Ab x)(hx:Loc X.env.scope x)(r:Bx v u)(h:∀ s',Inv X pI (Y.set i (Ab v)) H s'->Q () s')(hf:X.fn x=Aa\/X.env.scope.names.lookup x=Ab .local:=by first|exact .inl rfl|exact .inr rfl|assumption):AB M A (storeName X.env x u) Q E s:=
 Qi I hN hi hx r (λs' I' _=>h s' I') hf
theorem Inv.call'{s':Ap}(I:Inv X pI Y H s)(ho:s'.os=s.os)(u:Un (frs X.stack) ch H H' s.heap s'.heap)(hok:HOk X.prog X.w H' s'.heap)(hg:Fl s'.gens)(hch:∀ b∈ch,(b∈X.ex\/X.s₀.heap.objs.size<=b)/\b≠X.env.locals/\(∀ x c,X.env.cells.lookup x=Ab c->c≠b)/\∀ p∈X.pn++pI,p.1≠b):Inv X pI Y H' s':=by
 obtain⟨h',g',d',t',o'⟩:=s';have e:o'=s.os:=ho;subst e;exact I.call (g':=g') (t':=t') (d':=d') u hok hg hch
end
abbrev XK:=Aj->Am Ak->Hp->Prop
abbrev St:=Ac (Am V)
variable{Y:St}
abbrev VK:=V->Hp->Prop
abbrev TE:=St->Hp->VK->Prop
abbrev TT:=St->Hp->(Ai->Hp->Prop)->Prop
abbrev TA:=St->Hp->(Ac V->Hp->Prop)->Prop
variable{ta:TA}
structure Ends where
 nx:St->Hp->Prop
 rt:VK
 bk:St->Hp->Prop:=λ_ _=>A5
 ct:St->Hp->Prop:=λ_ _=>A5
abbrev TS:=Ends->St->Hp->Prop
def EP(X:Cx)(pI:Pn)(Y:St)(Q:VK)(u:Aj)(s':Ap):Prop:=∃ v H',Inv X pI Y H' s'/\Bx v u/\Q v H'
def TP(X:Cx)(pI:Pn)(Y:St)(Q:Ai->Hp->Prop)(b:Ai)(s':Ap):Prop:=∃ H',Inv X pI Y H' s'/\Q b H'
def AP(X:Cx)(pI:Pn)(Y:St)(Q:Ac V->Hp->Prop)(us:Ac Aj)(s':Ap):Prop:=∃ vs H',Inv X pI Y H' s'/\A6 vs us/\Q vs H'
noncomputable def SP(X:Cx)(pI:Pn)(D:Ends)(f:Flow)(s':Ap):Prop:=
  match f with
  |.next=>∃ Y' H',Inv X pI Y' H' s'/\D.nx Y' H'
  |.brk=>∃ Y' H',Inv X pI Y' H' s'/\D.bk Y' H'
  |.cont=>∃ Y' H',Inv X pI Y' H' s'/\D.ct Y' H'
  |.ret u=>∃ v Y' H',Inv X pI Y' H' s'/\Bx v u/\D.rt v H'
noncomputable def PE(X:Cx)(e:An)(t:TE):Prop:=
 ∀(pI:Pn)(s:Ap)(Y:St)(H:Hp)(Q:VK),Inv X pI Y H s->t Y H Q->AB (model X.prog X.w) X.A (eval e X.env) (EP X pI Y Q) X.xe s
noncomputable def PT(X:Cx)(e:An)(t:TT):Prop:=
 ∀(pI:Pn)(s:Ap)(Y:St)(H:Hp)(Q:Ai->Hp->Prop),Inv X pI Y H s->t Y H Q->AB (model X.prog X.w) X.A (Ik e X.env (eval e X.env)) (TP X pI Y Q) X.xe s
noncomputable def PW(X:Cx)(e:An)(t:TT):Prop:=
 ∀(whole:Dq Aj)(pI:Pn)(s:Ap)(Y:St)(H:Hp)(Q:Ai->Hp->Prop),Inv X pI Y H s->t Y H Q->AB (model X.prog X.w) X.A (Ik e X.env whole) (TP X pI Y Q) X.xe s
theorem PW.pt{t:TT}(h:PW X e t):PT X e t:=h _
noncomputable def PA(X:Cx)(es:Ac An)(t:TA):Prop:=
 ∀(pos:AR)(pI:Pn)(s:Ap)(Y:St)(H:Hp)(Q:Ac V->Hp->Prop),Inv X pI Y H s->t Y H Q->AB (model X.prog X.w) X.A (spliced (BR pos (Ay es X.env))) (AP X pI Y Q) X.xe s
noncomputable def PS(X:Cx)(st:AZ)(t:TS):Prop:=
 ∀(pI:Pn)(s:Ap)(Y:St)(H:Hp)(D:Ends),Inv X pI Y H s->t D Y H->AB (model X.prog X.w) X.A (exec st X.env) (SP X pI D) X.xe s
noncomputable def PSs(X:Cx)(st:Ac AZ)(t:TS):Prop:=
 ∀(pI:Pn)(s:Ap)(Y:St)(H:Hp)(D:Ends),Inv X pI Y H s->t D Y H->AB (model X.prog X.w) X.A (execs st X.env) (SP X pI D) X.xe s
theorem thn{α:Type}{t:Dq α}{Q Q':α->Ap->Prop}{A:AT}{E:Vq}(h:AB M A t Q E s)(hQ:∀ a s,Q a s->Q' a s):AB M A t Q' E s:=Bt h hQ λ_ _ x=>x
section
variable{X:Cx}
def IK(i:Ae):TE:=λY H Q=>∃ v,Y[i]?=Ab (Ab v)/\Q v H
def tC(v:V):TE:=λ_ H Q=>Q v H
theorem Ts(hN:X.N[i]?=Ab x)(hv:Vis X.env.scope x)(hd:(x==("__debug__" : Ah))=Ad:=by decide)(hcd:(x==("__classdict__" : Ah))=Ad:=by decide):PE X (.Name x pos) (IK i):=by
 intro pI s Y H Q I h;obtain⟨v,e,h⟩:=h;obtain⟨m,hn,hl⟩:=I.loc;obtain⟨u,r,l⟩:=hl i x v hN e hv;have fin:EP X pI Y Q u s:=⟨v,H,I,r,h⟩;rcases l with ⟨hk,hm⟩|⟨hk,c,hc,hcell⟩
 .exact J7 (wpAny_loadName_local I.ok.kind hk hn hm fin) hd
 .rcases hk with hk|hk
  .exact J7 (wpAny_loadName_cell I.ok.kind hk hc hcell fin) hd
  .exact J7 (wpAny_loadName_free I.ok.kind hk hc hcell fin hcd) hd
theorem jS{i j pos}:PE X (.Constant (.int i) j pos) (tC (.int i)):=λ_ _ _ H _ I h=>wpAny_Constant_int ⟨.int i,H,I.tok _,⟨_,rfl⟩,h⟩
theorem oP{b j pos}:PE X (.Constant (.bool b) j pos) (tC (.bl b)):=λ_ _ _ H _ I h=>Constant_bool ⟨.bl b,H,I,rfl,h⟩
theorem jQ{j pos}:PE X (.Constant .none j pos) (tC .non):=λ_ _ _ H _ I h=>Constant_none ⟨.non,H,I,rfl,h⟩
theorem jN{x j pos}:PE X (.Constant (.str x) j pos) (tC (.str x)):=λ_ _ _ H _ I h=>Calls.Constant_str ⟨.str x,H,I.tok _,⟨_,rfl⟩,h⟩
def Gl(X:Cx)(x:Ah):Prop:=X.env.kindOf x=Ab .globalImplicit
theorem Lr{E:Vq}{Q:Vq}(I:Inv X pI Y H s)(hg:Gl X x)(hm:X.mg x=Ab u)(h:Q u s)(hd:(x==("__debug__" : Ah))=Ad:=by decide):AB (model X.prog X.w) X.A (eval (.Name x pos) X.env) Q E s:=
 VQ I.ok.kind hg (Calls.loadGlobal_global (by rw[I.ok.glob];exact I.mod.glob.keeps I.bk) hm h) hd
theorem JM{E:Vq}{Q:Vq}(I:Inv X pI Y H s)(hg:Gl X x)(hm:X.mg x=Af)(hv:CB x=Ab u)(h:Q u s)(hn:x≠"__name__" := by decide)(hd:(x==("__debug__" : Ah))=Ad:=by decide):AB (model X.prog X.w) X.A (eval (.Name x pos) X.env) Q E s:=by
 obtain⟨mb,h1,h2⟩:=I.mod.blt;exact VQ I.ok.kind hg (Calls.loadGlobal_builtin (by rw[I.ok.glob];exact I.mod.glob.keeps I.bk) hm (by rw[I.ok.blt];exact h1.keeps I.bk) ((h2 x hn).trans hv) h) hd
theorem RO(hg:Gl X x)(hm:X.mg x=Ab u)(r:Bx v u)(hd:(x==("__debug__" : Ah))=Ad:=by decide):PE X (.Name x pos) (tC v):=
 λ_ _ _ H _ I h=>Lr I hg hm ⟨v,H,I,r,h⟩ hd
theorem RQ(hg:Gl X x)(hm:X.mg x=Af)(hv:CB x=Ab u)(r:Bx v u)(hn:x≠"__name__" := by decide)(hd:(x==("__debug__" : Ah))=Ad:=by decide):PE X (.Name x pos) (tC v):=
 λ_ _ _ H _ I h=>JM I hg hm hv ⟨v,H,I,r,h⟩ hn hd
variable{a b:An}{ta tb:TE}{pos:AR}
variable{tA tB':TT}{rest:Ac An}
def qS(t u:TT):TT:=λY H Q=>t Y H λc H1=>if c=Aa then u Y H1 Q else Q Ad H1
def tOr(t u:TT):TT:=λY H Q=>t Y H λc H1=>if c=Aa then Q Aa H1 else u Y H1 Q
def qN(t:TT):TT:=λY H Q=>t Y H λc H1=>Q (!c) H1
theorem Z_5(ha:PT X a tA):PW X (.BoolOp .And [a] pos) tA:=by
 intro wh pI s Y H Q I h;refine isTrue_and (thn (ha pI s Y H Q I h) λc s1 e=>?_)
 cases c with
 |true=>exact isTrue_and_nil e
 |false=>exact e
theorem jE(ha:PT X a tA):PW X (.BoolOp .Or [a] pos) tA:=by
 intro wh pI s Y H Q I h;refine isTrue_or (thn (ha pI s Y H Q I h) λc s1 e=>?_)
 cases c with
 |false=>exact isTrue_or_nil e
 |true=>exact e
theorem jF(ha:PT X a tA)(hb:PW X (.BoolOp .And (b::rest) pos) tB'):PW X (.BoolOp .And (a::b::rest) pos) (qS tA tB'):=by
 intro wh pI s Y H Q I h;refine isTrue_and (thn (ha pI s Y H _ I h) λc s1 ⟨H1,I1,q1⟩=>?_)
 cases c with
 |true=>exact hb wh pI s1 Y H1 Q I1 q1
 |false=>exact⟨H1,I1,q1⟩
theorem oG(ha:PT X a tA)(hb:PW X (.BoolOp .Or (b::rest) pos) tB'):PW X (.BoolOp .Or (a::b::rest) pos) (tOr tA tB'):=by
 intro wh pI s Y H Q I h;refine isTrue_or (thn (ha pI s Y H _ I h) λc s1 ⟨H1,I1,q1⟩=>?_)
 cases c with
 |true=>exact⟨H1,I1,q1⟩
 |false=>exact hb wh pI s1 Y H1 Q I1 q1
theorem jG(ha:PT X a tA):PT X (.UnaryOp .Not a pos) (qN tA):=by
 intro pI s Y H Q I h;exact isTrue_not (ha pI s Y H (λc H1=>Q (!c) H1) I h)
def lN(ta tb:TE):TE:=λY H Q=>ta Y H λx H1=>∃ c,x=.bl c/\if c=Aa then tb Y H1 Q else Q (.bl Ad) H1
def qM(ta tb:TE):TE:=λY H Q=>ta Y H λx H1=>∃ c,x=.bl c/\if c=Aa then Q (.bl Aa) H1 else tb Y H1 Q
def lI(ta:TE):TE:=λY H Q=>ta Y H λx H1=>∃ c,x=.bl c/\Q (.bl (!c)) H1
theorem jO{op}{t:TE}(h:PE X a t):PE X (.BoolOp op [a] pos) t:=λpI s Y H Q I hw=>BoolOp_one (h pI s Y H Q I hw)
theorem jT(ha:PE X a ta)(hb:PE X (.BoolOp .And (b::rest) pos) tb):PE X (.BoolOp .And (a::b::rest) pos) (lN ta tb):=by
 intro pI s Y H Q I h;refine BoolOp_and (thn (ha pI s Y H _ I h) λv s1 ⟨x,H1,I1,r1,q1⟩=>?_)
 obtain⟨c,rfl,q1⟩:=q1;cases r1;refine CU ?_;cases c with
 |true=>exact hb pI s1 Y H1 Q I1 q1
 |false=>exact⟨.bl Ad,H1,I1,rfl,q1⟩
theorem oM(ha:PE X a ta)(hb:PE X (.BoolOp .Or (b::rest) pos) tb):PE X (.BoolOp .Or (a::b::rest) pos) (qM ta tb):=by
 intro pI s Y H Q I h;refine BoolOp_or (thn (ha pI s Y H _ I h) λv s1 ⟨x,H1,I1,r1,q1⟩=>?_)
 obtain⟨c,rfl,q1⟩:=q1;cases r1;refine CU ?_;cases c with
 |false=>exact hb pI s1 Y H1 Q I1 q1
 |true=>exact⟨.bl Aa,H1,I1,rfl,q1⟩
theorem jP(ha:PE X a ta):PE X (.UnaryOp .Not a pos) (lI ta):=by
 intro pI s Y H Q I h;refine UnaryOp_ (thn (ha pI s Y H _ I h) λv s1 ⟨x,H1,I1,r1,q1⟩=>?_)
 obtain⟨c,rfl,q1⟩:=q1;cases r1;exact not_of (CU ⟨.bl (!c),H1,I1,rfl,q1⟩)
end
noncomputable def SqL(K:Fg)(H:Hp)(a:Ak)(xs:Ac V):Prop:=
 Rd H a (.lst xs) \/
  ∃(o:DE)(its:Ax Aj)(n:Ae),K.lookup a=Ab o/\o.cls=.type "list"/\o.dict=Af/\o.data=.seq its n/\its.size<=sizeLine/\A6 xs its.toList
noncomputable def SqT(K:Fg)(H:Hp)(a:Ak)(xs:Ac V):Prop:=
 Rd H a (.tup xs) \/
  ∃(o:DE)(its:Ax Aj)(n:Ae),K.lookup a=Ab o/\o.cls=.type "tuple"/\o.data=.seq its n/\its.size<=sizeLine/\A6 xs its.toList
noncomputable def pO:Aj->Am V
 |.none=>Ab .non
 |.bool b=>Ab (.bl b)
 |.int i _=>Ab (.int i)
 |.str x _=>Ab (.str x)
 |.bytes b _=>Ab (.byt b)
 |.float b _=>Ab (.flt b)
 |.ref a=>Ab (.ref a)
 |.type n=>Ab (.ty n)
 |_=>Af
theorem Bx.abs{x:V}(r:Bx x u):pO u=Ab x:=by
 cases x with
 |non=>cases r;rfl
 |bl _=>cases r;rfl
 |int _=>obtain⟨t,rfl⟩:=r;rfl
 |str _=>obtain⟨t,rfl⟩:=r;rfl
 |byt _=>obtain⟨t,rfl⟩:=r;rfl
 |flt _=>obtain⟨t,rfl⟩:=r;rfl
 |ref _=>cases r;rfl
 |ty _=>cases r;rfl
theorem Bx.inj{x y:V}(r:Bx x u)(q:Bx y u):x=y:=Bh (r.abs.symm.trans q.abs)
theorem A6.inj:∀{xs ys:Ac V}{us:Ac Aj},A6 xs us->A6 ys us->xs=ys
 |_,_,_,.nil,.nil=>rfl
 |_,_,_,.cons r t,.cons r' t'=>by rw[r.inj r',A6.inj t t']
section
variable{X:Cx}{pI:Pn}{Y:St}{H:Hp}{s:Ap}{a:Ak}{xs ys:Ac V}
theorem SqL.of{K:Fg}(h:H a=Ab (.lst xs)):SqL K H a xs:=.inl (.inl h)
theorem SqT.of{K:Fg}(h:H a=Ab (.tup xs)):SqT K H a xs:=.inl (.inl h)
theorem Inv.list(I:Inv X pI Y H s)(h:SqL X.K H a xs):∃ its:Ac Aj,A6 xs its/\PlainL s.heap a its.toArray/\xs.length<=sizeLine:=by
 rcases h with h|⟨o,its,n,hk,hc,hd,hs,hz,r⟩
 .obtain⟨z,its,n,r,e⟩:=h.ok I.hok;exact⟨its,r,⟨_,n,e,rfl,rfl,rfl⟩,z⟩
 .refine⟨its.toList,r,⟨o,n,I.kIn a o hk,hc,hd,by simpa using hs⟩,?_⟩
  have e:=r.length;simp only[AF]at e;omega
theorem Inv.tuple(I:Inv X pI Y H s)(h:SqT X.K H a xs):∃ its:Ac Aj,A6 xs its/\JW s.heap a its.toArray/\xs.length<=sizeLine:=by
 rcases h with h|⟨o,its,n,hk,hc,hs,hz,r⟩
 .obtain⟨z,its,r,p⟩:=h.ok I.hok;exact⟨its,r,p,z⟩
 .refine⟨its.toList,r,⟨o,I.kIn a o hk,hc,n,by simpa using hs⟩,?_⟩
  have e:=r.length;simp only[AF]at e;omega
theorem Inv.list_inj(I:Inv X pI Y H s)(h:SqL X.K H a xs)(h':SqL X.K H a ys):xs=ys:=by
 obtain⟨its,r,⟨o,n,e,_,_,d⟩,_⟩:=I.list h;obtain⟨its',r',⟨o',n',e',_,_,d'⟩,_⟩:=I.list h';rw[e]at e';cases e';rw[d]at d'
 injection d' with d1 _
 have:its=its':=by simpa using congrArg UT d1
 subst this;exact r.inj r'
theorem Inv.tuple_inj(I:Inv X pI Y H s)(h:SqT X.K H a xs)(h':SqT X.K H a ys):xs=ys:=by
 obtain⟨its,r,⟨o,e,_,n,d⟩,_⟩:=I.tuple h;obtain⟨its',r',⟨o',e',_,n',d'⟩,_⟩:=I.tuple h';rw[e]at e';cases e';rw[d]at d'
 injection d' with d1 _
 have:its=its':=by simpa using congrArg UT d1
 subst this;exact r.inj r'
end
noncomputable abbrev Cx.wish(X:Cx)(E:Vq):Cx:={X with xe:=E}
noncomputable abbrev Cx.nox(X:Cx):Cx:=X.wish λ_ _=>A5
theorem Cx.Ok.wish(ok:X.Ok)(E:Vq):(X.wish E).Ok:=
 ⟨ok.mod,ok.kind,ok.glob,ok.blt,ok.above,ok.inj,ok.has,ok.cab,ok.hd,ok.frames,ok.stk,ok.exf,ok.bs,ok.bsz,ok.noex,ok.exfs,ok.funs,ok.frf⟩
theorem Cx.Ok.unwish{E:Vq}(ok:(X.wish E).Ok):X.Ok:=
 ⟨ok.mod,ok.kind,ok.glob,ok.blt,ok.above,ok.inj,ok.has,ok.cab,ok.hd,ok.frames,ok.stk,ok.exf,ok.bs,ok.bsz,ok.noex,ok.exfs,ok.funs,ok.frf⟩
section
variable{X:Cx}{pI:Pn}{Y:St}{H:Hp}{s:Ap}{E:Vq}
theorem Inv.wish(I:Inv X pI Y H s)(E:Vq):Inv (X.wish E) pI Y H s:=⟨I.ok.wish E,I.os,I.bare,I.base,I.loc,I.cell,I.free,I.freeC,I.pin,I.hok,I.len⟩
theorem Inv.unwish(I:Inv (X.wish E) pI Y H s):Inv X pI Y H s:=⟨I.ok.unwish,I.os,I.bare,I.base,I.loc,I.cell,I.free,I.freeC,I.pin,I.hok,I.len⟩
theorem SP.unwish{D:Ends}{f:Flow}{s':Ap}(h:SP (X.wish E) pI D f s'):SP X pI D f s':=by
 cases f with
 |next=>obtain⟨Y',H',I,q⟩:=h;exact⟨Y',H',I.unwish,q⟩
 |brk=>obtain⟨Y',H',I,q⟩:=h;exact⟨Y',H',I.unwish,q⟩
 |cont=>obtain⟨Y',H',I,q⟩:=h;exact⟨Y',H',I.unwish,q⟩
 |ret u=>obtain⟨v,Y',H',I,r,q⟩:=h;exact⟨v,Y',H',I.unwish,r,q⟩
theorem PSs.nox{st:Ac AZ}{t:TS}(h:PSs X.nox st t):PSs X st t:=λpI s Y H D I hw=>
 Bt (h pI s Y H D (I.wish _) hw) (λ_ _ q=>q.unwish) λ_ _ z=>Bs z
end
section
variable{X:Cx}{st:AZ}{rest:Ac AZ}{t u:TS}{e:An}{te:TE}{pos:AR}
def lJ:TS:=λD Y H=>D.nx Y H
def qK(t u:TS):TS:=λD Y H=>t {D with nx:=u D} Y H
theorem Z_9:PSs X [] lJ:=λ_ _ Y H _ I h=>E3 ⟨Y,H,I,h⟩
theorem YQ(h1:PS X st t)(h2:PSs X rest u):PSs X (st::rest) (qK t u):=by
 intro pI s Y H D I h;refine Hr (thn (h1 pI s Y H {D with nx:=u D} I h) λf s1 q=>?_)
 cases f with
 |next=>
  obtain⟨Y',H',I',q⟩:=q;exact h2 pI s1 Y' H' D I' q
 |ret v=>exact q
 |brk=>exact q
 |cont=>exact q
theorem Ms(h1:PS X st t):PSs X [st] t:=by
 intro pI s Y H D I h;refine Hr (thn (h1 pI s Y H D I h) λf s1 q=>?_)
 cases f with
 |next=>exact E3 q
 |ret v=>exact q
 |brk=>exact q
 |cont=>exact q
theorem Inv.quiet(I:Inv X pI Y H s):interactive X.env=Ad:=by simp[interactive,I.ok.kind]
def lK(te:TE):TS:=λD Y H=>te Y H λ_ H1=>D.nx Y H1
theorem Kq(he:PE X e te)(hs:Dh e Af pos.line X.env=pure Ad:=by rfl):PS X (.Expr e pos) (lK te):=by
 intro pI s Y H D I h;exact wpAny_Expr_any (thn (he pI s Y H _ I h) λv s1 ⟨x,H1,I1,r1,q1⟩=>⟨Y,H1,I1,q1⟩) I.quiet hs
def qL(te:TE):TS:=λD Y H=>te Y H D.rt
theorem OS(he:PE X e te):PS X (.Return (Ab e) pos) (qL te):=by
 intro pI s Y H D I h;exact wpAny_Return_some (thn (he pI s Y H _ I h) λv s1 ⟨x,H1,I1,r1,q1⟩=>⟨x,Y,H1,I1,r1,q1⟩)
def qQ(c:TT)(t u:TS):TS:=λD Y H=>c Y H λb H1=>if b=Aa then t D Y H1 else u D Y H1
theorem oH{c:An}{a b:Ac AZ}{tc:TT}(hc:PT X c tc)(ha:PSs X a t)(hb:PSs X b u):PS X (.If c a b pos) (qQ tc t u):=by
 intro pI s Y H D I h;refine wpAny_If (thn (hc pI s Y H _ I h) λd s1 ⟨H1,I1,q1⟩=>?_)
 cases d with
 |true=>exact ha pI s1 Y H1 D I1 q1
 |false=>exact hb pI s1 Y H1 D I1 q1
end
abbrev TG:=V->St->Hp->(St->Hp->Prop)->Prop
abbrev TGs:=Ac V->St->Hp->(St->Hp->Prop)->Prop
noncomputable def PG(X:Cx)(target:An)(t:TG):Prop:=
 ∀(pI:Pn)(s:Ap)(Y:St)(H:Hp)(v:V)(u:Aj)(Q:St->Hp->Prop),Inv X pI Y H s->Bx v u->t v Y H Q ->
  AB (model X.prog X.w) X.A (assign target X.env u) (λ_ s'=>∃ Y' H',Inv X pI Y' H' s'/\Q Y' H') X.xe s
noncomputable def PGs(X:Cx)(ts:Ac An)(t:TGs):Prop:=
 ∀(pI:Pn)(s:Ap)(Y:St)(H:Hp)(vs:Ac V)(us:Ac Aj)(Q:St->Hp->Prop),Inv X pI Y H s->A6 vs us->t vs Y H Q ->
  AB (model X.prog X.w) X.A (assignInOrder ((D9 ts X.env).map (·.2)) us) (λ_ s'=>∃ Y' H',Inv X pI Y' H' s'/\Q Y' H') X.xe s
section
variable{X:Cx}{pos:AR}
def GZ(i:Ae):TG:=λv Y H Q=>Q (Y.set i (Ab v)) H
theorem Mt(hN:X.N.Nodup)(hi:X.N[i]?=Ab x)(hx:Loc X.env.scope x)(hf:X.fn x=Aa\/X.env.scope.names.lookup x=Ab .local:=by first|exact .inl rfl|exact .inr rfl|assumption):PG X (.Name x pos) (GZ i):=by
 intro pI s Y H v u Q I r h;exact Xf (Of I hN hi hx r (λs' I'=>⟨_,H,I',h⟩) hf)
def LU:TGs:=λvs Y H Q=>vs=[]/\Q Y H
def LF(t:TG)(u:TGs):TGs:=λvs Y H Q=>∃ v r,vs=v::r/\t v Y H λY' H'=>u r Y' H' Q
theorem dH:PGs X [] LU:=by
 intro pI s Y H vs us Q I r h;obtain⟨e,h⟩:=h;subst e;cases r;exact assignInOrder_nil ⟨Y,H,I,h⟩
theorem ZF{t:TG}{u:TGs}(h1:PG X e t)(h2:PGs X es u)(hs:(D9 (e::es) X.env).map (·.2)=assign e X.env::(D9 es X.env).map (·.2):=by rfl):PGs X (e::es) (LF t u):=by
 intro pI s Y H vs us Q I r h;obtain⟨v,vr,e1,h⟩:=h;subst e1;cases r with
 |cons r rr=>
  rw[hs];refine assignInOrder_cons (thn (h1 pI s Y H _ _ _ I r h) λ_ s1 ⟨Y1,H1,I1,q1⟩=>?_)
  exact h2 pI s1 Y1 H1 _ _ Q I1 rr q1
def PD(K:Fg)(n:Ae)(t:TGs):TG:=λv Y H Q=>∃ a xs,v=.ref a/\SqT K H a xs/\xs.length=n/\t xs Y H Q
theorem jM{t:TGs}(hc:X.calm=Aa)(h:PGs X es t)(hn:(D9 es X.env).length=n:=by rfl)(hst:(D9 es X.env).findIdx? (·.1)=Af:=by rfl):PG X (.Tuple es k pos) (PD X.K n t):=by
 intro pI s Y H v u Q I r hw;obtain⟨a,xs,e1,hq,hl,hw⟩:=hw;subst e1;cases r;obtain⟨its,rv,ht,hz⟩:=I.tuple hq;refine assign_Tuple_tuple (I.ok.hd hc) ht (by simp[hn,<-hl,rv.length]) hst λh' hx=>?_
 have I1:Inv X pI Y H {s with heap:=h'}:=I.kept (t':=s.toks) λb o e=>hx b o (Bj (AL e)) e
 exact h pI _ Y H xs _ Q I1 (by simpa using rv) hw
def Pr(te:TE)(g:TG):TS:=λD Y H=>te Y H λx H1=>g x Y H1 D.nx
theorem MA{te:TE}{pos':AR}(hN:X.N.Nodup)(hi:X.N[i]?=Ab x)(hx:Loc X.env.scope x)(he:PE X e te)(hs:Dh e (Ab (.Name x pos')) pos.line X.env=pure Ad:=by rfl)(hf:X.fn x=Aa\/X.env.scope.names.lookup x=Ab .local:=by first|exact .inl rfl|exact .inr rfl|assumption):PS X (.Assign [.Name x pos'] e pos) (Pr te (GZ i)):=by
 intro pI s Y H D I h;refine wpAny_Assign_Name (thn (he pI s Y H _ I h) λv s1 ⟨y,H1,I1,r1,q1⟩=>?_) hs
 exact Of I1 hN hi hx r1 (λs2 I2=>⟨_,H1,I2,q1⟩) hf
end
section
variable{X:Cx}{pos:AR}
end
structure It where
 go:Ae->Hp->Prop
 yld:Ae->Hp->V->Hp->Prop
 stop:Ae->Hp->Prop
noncomputable def Gy(X:Cx)(pI:Pn)(H:Hp)(b:Ak):Prop:=
 H b=Af/\b≠X.env.locals/\b∉X.fs/\(b∈X.ex\/X.s₀.heap.objs.size<=b)/\(∀ x c,X.env.cells.lookup x=Ab c->c≠b)/\∀ p∈X.pn++pI,p.1≠b
theorem Inv.fpOk{H':Hp}(I:Inv X pI Y H s)(hb:s.heap.objs.size<=b)(hn:H' b=Af):Gy X pI H' b:=by
 refine⟨hn,E8 (AO I.lt hb),I.nofs hb,.inr (B5 I.sz hb),λx c e z=>?_,λp hp z=>?_⟩
 .obtain⟨v,q⟩:=I.cell x c e;exact absurd (AO q.lt (by rw[z];exact hb)) (Br _)
 .exact absurd (AO (AL (I.pin p hp).1) (by rw[z];exact hb)) (Br _)
structure Turn (P:AM) (w:AY) (K:Fg) (tg:An) (J:It) (fp:Ac Ak) (it:Ak) (tn:Ae->AD->Prop):Prop where
 mem:it∈fp
 obj:∀ i h,tn i h->∀ b∈fp,∃ o,h.get? b=Ab o/\∀ v,o.data≠.cell v
 keep:∀ i h h',tn i h->(∀ b∈fp,∀ o,h.get? b=Ab o->h'.get? b=Ab o)->tn i h'
 item:∀(X:Cx),X.prog=P->X.w=w->X.K=K->X.calm=Aa->∀(i:Ae)(pI:Pn)(s:Ap)(Y:St)(H:Hp)(E:Vq),Inv X pI Y H s->(∀ b∈fp,Gy X pI H b)->tn i s.heap->J.go i H ->
  AB (model P w) X.A (GS (.ref it)) (λr s1=>∃ u,r=Ab u /\
   AB (model P w) X.A (Gi tg (.ref it) u) (λ_ s2=>∃ x H',Inv X pI Y H' s2/\Bx x u/\J.yld i H x H'/\tn (i+1) s2.heap/\∀ b∈fp,H' b=Af) E s1) E s
 done:∀(X:Cx),X.prog=P->X.w=w->X.K=K->X.calm=Aa->∀(i:Ae)(pI:Pn)(s:Ap)(Y:St)(H:Hp)(E:Vq),Inv X pI Y H s->(∀ b∈fp,Gy X pI H b)->tn i s.heap->J.stop i H ->
  AB (model P w) X.A (GS (.ref it)) (λr s1=>r=Af/\Inv X pI Y H s1) E s
 self:∀(A:AT)(i:Ae)(s:Ap)(Q:Vq)(E:Vq),tn i s.heap->Q (.ref it) s->AB (model P w) A (J5 (.ref it)) Q E s
abbrev TI:=St->Hp->(It->Hp->Prop)->Prop
noncomputable def PIE(X:Cx)(pI:Pn)(Y:St)(tg:An)(R:It->Hp->Prop)(itv:Aj)(s2:Ap):Prop:=
 ∃(it:Ak)(fp:Ac Ak)(tn:Ae->AD->Prop)(J:It)(H':Hp),itv=.ref it/\Inv X pI Y H' s2/\Turn X.prog X.w X.K tg J fp it tn/\tn 0 s2.heap/\(∀ b∈fp,Gy X pI H' b)/\R J H'
noncomputable def PI(X:Cx)(tg iter:An)(wi:TI):Prop:=
 ∀(pI:Pn)(s:Ap)(Y:St)(H:Hp)(R:It->Hp->Prop),Inv X pI Y H s->wi Y H R ->
  AB (model X.prog X.w) X.A (eval iter X.env) (λv s1=>AB (model X.prog X.w) X.A (J5 v) (PIE X pI Y tg R) X.xe s1) X.xe s
theorem MZ{A:AT}{E:Vq}{n:CD}{vs:Ax Aj}(ho:s.heap.get? it=Ab o)(hc:o.cls=.type n)(hd:o.data=.fields vs)(hn:["enumerate", "zip", "dict_itemiterator", "dict_reverseitemiterator", "odict_iterator", "itertools.zip_longest", "itertools.pairwise"].contains n=Ad)(hQ:Q () s):AB M A (Gi tg (.ref it) u) Q E s:=by
  unfold Gi;cases tg<;>first
    |exact AK hQ
    | (cases u<;>first
        |exact AK hQ
        | (refine Ao (wpAny_load ho ?_)
           rw[hc,hd];show AB M A (if (["enumerate", "zip", "dict_itemiterator", "dict_reverseitemiterator", "odict_iterator", "itertools.zip_longest", "itertools.pairwise"].contains n&&vs[0]? == Ab (EY _))=Aa then _ else _) Q E s
           rw[As (by intro h;rw[hn,DB]at h;cases h)]
           exact AK hQ))
noncomputable def Itl(K:Fg)(a:Ak):It:=
 ⟨λi H=>∃ xs x,SqL K H a xs/\xs[i]?=Ab x,λi H x H'=>H'=H/\∀ xs,SqL K H a xs->xs[i]?=Ab x,λi H=>∃ xs,SqL K H a xs/\xs.length<=i⟩
noncomputable def Itt(K:Fg)(a:Ak):It:=
 ⟨λi H=>∃ xs x,SqT K H a xs/\xs[i]?=Ab x,λi H x H'=>H'=H/\∀ xs,SqT K H a xs->xs[i]?=Ab x,λi H=>∃ xs,SqT K H a xs/\xs.length<=i⟩
noncomputable def Itr(lo:Ag)(n:Ae):It:=⟨λi _=>i<n,λi H x H'=>H'=H/\x=.int (lo+i),λi _=>n<=i⟩
theorem XI{w:AY}{K:Fg}(a it:Ak):Turn P w K tg (Itl K a) [it] it (λi h=>h.IsListIter it a i) where
  mem:=by simp
  obj:=λi h st b hb=>by
    have e:b=it:=by simpa using hb
    subst e;obtain⟨o,e,c,d⟩:=st;exact⟨o,e,λv z=>by rw[d]at z;cases z⟩
  keep:=λi h h' st k=>st.at λo e=>k it (by simp) o e
  item:=by
    intro X hP hw hK hc i pI s Y H E I hf st hg;subst hP hw hK;obtain⟨xs,x,hq,hx⟩:=hg;obtain⟨its,rv,p,hz⟩:=I.list hq;obtain⟨u,hu,ru⟩:=rv.get hx;obtain⟨f0,f1,f2,f3,f4,f5⟩:=hf it (by simp)
    refine wpAny_pyNext_list_item st p.isList (x:=u) (by simpa using hu) λh' st' sb=>?_
    have I1:Inv X pI Y H {s with heap:=h'}:=I.turned (t':=s.toks) (λb o hb e=>(sb.2 b hb).trans e) f0 f1 f3 f4 f5
    obtain⟨o,e,c,d⟩:=id st';exact⟨u,rfl,MZ (s:={s with heap:=h'}) e c d (by decide) ⟨x,H,I1,ru,⟨rfl,λys hy=>by rw[I.list_inj hy hq];exact hx⟩,st',λb hb=>(hf b hb).1⟩⟩
  done:=by
    intro X hP hw hK hc i pI s Y H E I hf st hg;subst hP hw hK;obtain⟨xs,hq,hx⟩:=hg;obtain⟨its,rv,p,hz⟩:=I.list hq;obtain⟨f0,f1,f2,f3,f4,f5⟩:=hf it (by simp)
    have hl:=rv.length;exact wpAny_pyNext_list_end (I.ok.hd hc) st p.isList (by simp;omega) λh' eb=>⟨rfl,I.turned (t':=s.toks) (λb o hb e=>eb b o hb e) f0 f1 f3 f4 f5⟩
  self:=λ_ _ _ _ _ st h=>wpAny_pyIter_listiter st h
theorem X4{w:AY}{K:Fg}(a it:Ak):Turn P w K tg (Itt K a) [it] it (λi h=>h.IsTupleIter it a i) where
  mem:=by simp
  obj:=λi h st b hb=>by
    have e:b=it:=by simpa using hb
    subst e;obtain⟨o,e,c,d⟩:=st;exact⟨o,e,λv z=>by rw[d]at z;cases z⟩
  keep:=λi h h' st k=>st.at λo e=>k it (by simp) o e
  item:=by
    intro X hP hw hK hc i pI s Y H E I hf st hg;subst hP hw hK;obtain⟨xs,x,hq,hx⟩:=hg;obtain⟨its,rv,p,hz⟩:=I.tuple hq;obtain⟨u,hu,ru⟩:=rv.get hx;obtain⟨f0,f1,f2,f3,f4,f5⟩:=hf it (by simp)
    refine wpAny_pyNext_tuple_item st (show s.heap.IsTuple a its.toArray from p) (x:=u) (by simpa using hu) λh' st' sb=>?_
    have I1:Inv X pI Y H {s with heap:=h'}:=I.turned (t':=s.toks) (λb o hb e=>(sb.2 b hb).trans e) f0 f1 f3 f4 f5
    obtain⟨o,e,c,d⟩:=id st';exact⟨u,rfl,MZ (s:={s with heap:=h'}) e c d (by decide) ⟨x,H,I1,ru,⟨rfl,λys hy=>by rw[I.tuple_inj hy hq];exact hx⟩,st',λb hb=>(hf b hb).1⟩⟩
  done:=by
    intro X hP hw hK hc i pI s Y H E I hf st hg;subst hP hw hK;obtain⟨xs,hq,hx⟩:=hg;obtain⟨its,rv,p,hz⟩:=I.tuple hq;obtain⟨f0,f1,f2,f3,f4,f5⟩:=hf it (by simp)
    have hl:=rv.length;exact wpAny_pyNext_tuple_end (I.ok.hd hc) st (show s.heap.IsTuple a its.toArray from p) (by simp;omega) λh' eb=>⟨rfl,I.turned (t':=s.toks) (λb o hb e=>eb b o hb e) f0 f1 f3 f4 f5⟩
  self:=λ_ _ _ _ _ st h=>wpAny_pyIter_tupleiter st h
theorem X5{w:AY}{K:Fg}(it:Ak)(lo:Ag)(n:Ae):Turn P w K tg (Itr lo n) [it] it (λi h=>HJ h it (lo+(i:Ae)*1) ((n:Ag)-(i:Ae)) 1) where
  mem:=by simp
  obj:=λi h st b hb=>by
    have e:b=it:=by simpa using hb
    subst e;exact⟨_,st,λv z=>by
      have z':VS _=IX v:=z;cases z'⟩
  keep:=λi h h' st k=>k it (by simp) _ st
  item:=by
    intro X hP hw hK hc i pI s Y H E I hf st hg;subst hP hw hK;obtain⟨f0,f1,f2,f3,f4,f5⟩:=hf it (by simp)
    have W:=W8 (prog:=X.prog) (w:=X.w) (I.ok.hd hc) it lo 1 n;refine W.item i s _ _ hg st λv h' tk hv st' kk=>?_
    obtain⟨t,rfl⟩:=hv;have I1:Inv X pI Y H {s with heap:=h',toks:=tk}:=I.turned (λb o hb e=>kk b o (by simpa using hb) e) f0 f1 f3 f4 f5
    refine⟨_,rfl,MZ (s:={s with heap:=h',toks:=tk}) (n := "range_iterator") st' rfl rfl (by decide) ⟨.int (lo+i),H,I1,⟨t,?_⟩,⟨rfl,rfl⟩,st',λb hb=>(hf b hb).1⟩⟩
    rw[U_0]
  done:=by
    intro X hP hw hK hc i pI s Y H E I hf st hg;subst hP hw hK;obtain⟨f0,f1,f2,f3,f4,f5⟩:=hf it (by simp)
    exact Xo (I.ok.hd hc) st (by have:n<=i:=hg;omega) λh' eb=>⟨rfl,I.turned (t':=s.toks) (λb o hb e=>eb b o hb e) f0 f1 f3 f4 f5⟩
  self:=λ_ _ _ _ _ st h=>Xm st h
section
variable{X:Cx}{tg:An}
theorem Q5{R:It->Hp->Prop}{E:Vq}{lo hi:Ag}{t u v:BV}{tk:Ae}(I:Inv X pI Y H s)(h1:-(2 ^ 62)<=lo)(h2:lo<2 ^ 62)(h3:-(2 ^ 62)<=hi)(h4:hi<2 ^ 62)(q:R (Itr lo (hi-lo).toNat) H):AB (model X.prog X.w) X.A (J5 (.ref s.heap.objs.size)) (PIE X pI Y tg R) E { s with heap:=s.heap.push { cls:=.type "range",data:=.fields #[.int lo t,.int hi u,.int 1 v] },toks:=tk }:=by
 refine Xl (WE ..) (small_one h1 h2 h3 h4) ?_;have I1:Inv X pI Y H { s with heap:=s.heap.push { cls:=.type "range",data:=.fields #[.int lo t,.int hi u,.int 1 v] },toks:=tk }:=I.kept λb o e=>Ar _ e
 refine⟨(s.heap.push { cls:=.type "range",data:=.fields #[.int lo t,.int hi u,.int 1 v] }).objs.size,[(s.heap.push { cls:=.type "range",data:=.fields #[.int lo t,.int hi u,.int 1 v] }).objs.size],_,_,H,rfl,
  I1.kept (t':=tk) λb o e=>Ar _ e,X5 _ lo (hi-lo).toNat,?_,λb hb=>?_,q⟩
 .have e1:lo+((0:Ae):Ag)*1=lo:=by simp
  have e2:(((hi-lo).toNat:Ae):Ag)-((0:Ae):Ag)=VN lo hi 1:=by rw[rangeSize_one];split<;>omega
  show HJ _ _ (lo+((0:Ae):Ag)*1) ((((hi-lo).toNat:Ae):Ag)-((0:Ae):Ag)) 1;rw[e1,e2];exact AJ _ rfl
 .have e:b=(s.heap.push { cls:=.type "range",data:=.fields #[.int lo t,.int hi u,.int 1 v] }).objs.size:=by simpa using hb
  subst e;exact I1.fpOk (Aw _) (I1.hok.fresh (Aw _))
def nL(ta:TA):TI:=λY H R=>ta Y H λvs H1=>∃ j:Ag,vs=[.int j]/\-(2 ^ 62)<=j/\j<2 ^ 62/\R (Itr 0 j.toNat) H1
def oC(ta:TA):TI:=λY H R=>ta Y H λvs H1=>∃ i j:Ag,vs=[.int i,.int j]/\(-(2 ^ 62)<=i/\i<2 ^ 62/\-(2 ^ 62)<=j/\j<2 ^ 62)/\R (Itr i (j-i).toNat) H1
theorem Yq{a:An}(hg:Gl X "range")(hm:X.mg "range" = Af)(ha:PA X [a] ta)(hs:Ay [a] X.env=[(Ad,eval a X.env)]:=by rfl):PI X tg (.Call (.Name "range" p) [a] [] pos) (nL ta):=by
 intro pI s Y H R I h;refine Call_ (JM I hg hm JY (C1 (thn (ha pos pI s Y H _ I h) λus s1 ⟨vs,H1,I1,r1,q1⟩=>?_) hs rfl))
 obtain⟨j,e,q1,q2,q⟩:=q1;subst e;cases r1 with
 |cons r rr=>
  cases rr;obtain⟨t,rfl⟩:=r;exact call_range_1 (Q5 I1 (by omega) (by omega) q1 q2 (by simpa using q))
theorem YI{a b:An}(hg:Gl X "range")(hm:X.mg "range" = Af)(ha:PA X [a,b] ta)(hs:Ay [a,b] X.env=[(Ad,eval a X.env),(Ad,eval b X.env)]:=by rfl)(hs2:Ay [b] X.env=[(Ad,eval b X.env)]:=by rfl):
  PI X tg (.Call (.Name "range" p) [a,b] [] pos) (oC ta):=by
 intro pI s Y H R I h;refine Call_ (JM I hg hm JY (C1 (thn (ha pos pI s Y H _ I h) λus s1 ⟨vs,H1,I1,r1,q1⟩=>?_) (by rw[hs,hs2]) (by rw[hs2];rfl)))
 obtain⟨i,j,e,⟨q1,q2,q3,q4⟩,q⟩:=q1;subst e;cases r1 with
 |cons r rr=>
  cases rr with
  |cons r' rr=>
   cases rr;obtain⟨t,rfl⟩:=r;obtain⟨t',rfl⟩:=r';exact call_range_2 (Q5 I1 q1 q2 q3 q4 q)
def qR(wi:TI)(g:TG)(tb:TS):TS:=λD Y H=>wi Y H λJ H1=>∃ W:Ae->Ae->St->Hp->Prop,(∃ m,W 0 m Y H1)/\∀ i m Y H,W i m Y H ->
 (J.stop i H/\D.nx Y H)\/(J.go i H/\∃ N:St->Hp->Prop,(∀ Y' H',N Y' H'->∃ m',m'<m/\W (i+1) m' Y' H')/\∀ x H',J.yld i H x H'->g x Y H' λY2 H2=>tb {D with nx:=N,ct:=N,bk:=D.nx} Y2 H2)
noncomputable def JO(fp:Ac Ak)(h:AD):Pn:=fp.filterMap λb=>(h.get? b).map λo=>(b,o)
theorem L5(hb:b∈fp)(e:h.get? b=Ab o):(b,o)∈JO fp h:=List.mem_filterMap.mpr ⟨b,hb,by rw[e];rfl⟩
theorem QH{p:Ak×DE}(hp:p∈JO fp h):p.1∈fp/\h.get? p.1=Ab p.2:=by
 obtain⟨b,hb,e⟩:=Vi.mp hp;cases q:h.get? b with
 |none=>rw[q]at e;cases e
 |some o=>
  rw[q]at e;have e':(b,o)=p:=Bh e;subst e';exact⟨hb,q⟩
theorem Inv.pinned(I:Inv X pI Y H s)(hf:∀ b∈fp,Gy X pI H b)(ho:∀ b∈fp,∃ o,s.heap.get? b=Ab o/\∀ v,o.data≠.cell v):Inv X (pI++JO fp s.heap) Y H s:=
 I.pins_of λp hp=>(Ce.mp hp).elim (λz=>I.pin p (Bp _ z)) λz=>by
  obtain⟨hb,e⟩:=QH z;obtain⟨f0,f1,f2,_⟩:=hf p.1 hb;obtain⟨o,e',d⟩:=ho p.1 hb;rw[e]at e';cases e';exact⟨e,f0,f1,f2,d⟩
theorem Inv.unpinned{pl:Pn}(I:Inv X (pI++pl) Y H s):Inv X pI Y H s:=I.pins_of λp hp=>I.pin p (Bp _ (EQ _ hp))
theorem jH{iter:An}{wi:TI}{g:TG}{tb:TS}(hp:Fb (model X.prog X.w) X.A X.env X.xe)(hc:X.calm=Aa)(hi:PI X tg iter wi)(hg:PG X tg g)(hb:PSs X body tb)(hs:∀ x,CS iter X.env x=pure x:=by intro _;rfl):PS X (.For tg iter body [] pos) (qR wi g tb):=by
 intro pI s Y H D I h;refine wpAny_For (thn (hi pI s Y H _ I h) λv s1 h1=>thn h1 λitv s2 h2=>?_) hs
 obtain⟨it,fp,tn,J,H2,e,I2,T,st2,f2,W,⟨m0,w0⟩,turn⟩:=h2;subst e
 -- what stays Aa of the iterator's objects through the loop
 have stat:∀{H':Hp},(∀ b∈fp,H' b=Af)->∀ b∈fp,Gy X pI H' b:=λhn b hb=>⟨hn b hb,(f2 b hb).2⟩
 refine codeAny_forLoop_any (λn s'=>∃ i Y' H',Inv X pI Y' H' s'/\tn i s'.heap/\(∀ b∈fp,H' b=Af)/\W i n Y' H') ?_ m0 ⟨0,Y,H2,I2,st2,λb hb=>(f2 b hb).1,w0⟩
 rintro n s3 ⟨i,Y3,H3,I3,st3,fr3,w3⟩;rcases turn i n Y3 H3 w3 with ⟨stop,qn⟩|⟨go,N,hN,step⟩
 .refine E4 hp (thn (T.done X rfl rfl rfl hc i pI s3 Y3 H3 X.xe I3 (stat fr3) st3 stop) λr s4 ⟨hr,I4⟩=>?_)
  subst hr;exact E3 ⟨Y3,H3,I4,qn⟩
 .refine E4 hp (thn (T.item X rfl rfl rfl hc i pI s3 Y3 H3 X.xe I3 (stat fr3) st3 go) λr s4 ⟨u,hr,h4⟩=>?_)
  subst hr;refine E4 hp (thn h4 λ_ s5 ⟨x,H5,I5,r5,y5,st5,fr5⟩=>?_)
  have I5':=I5.pinned (stat fr5) (T.obj _ _ st5);refine E4 hp (thn (hg _ s5 Y3 H5 x u _ I5' r5 (step x H5 y5)) λ_ s6 ⟨Y6,H6,I6,q6⟩=>?_)
  refine E4 hp (thn (hb _ s6 Y6 H6 _ I6 q6) λf s7 q7=>?_)
  have again:∀{Y7:St}{H7:Hp},Inv X (pI++JO fp s5.heap) Y7 H7 s7->N Y7 H7->∃ m,m<n/\∃ i Y' H',Inv X pI Y' H' s7/\tn i s7.heap/\(∀ b∈fp,H' b=Af)/\W i m Y' H':=λ{Y7 H7} I7 n7=>by
   obtain⟨m',hm,w7⟩:=hN Y7 H7 n7;refine⟨m',hm,i+1,Y7,H7,I7.unpinned,T.keep _ _ _ st5 λb hb o e=>(I7.pin (b,o) (Bp _ (Bp _ (L5 hb e)))).1,λb hb=>?_,w7⟩
   obtain⟨o,e,d⟩:=T.obj _ _ st5 b hb;exact(I7.pin (b,o) (Bp _ (Bp _ (L5 hb e)))).2.1
  cases f with
  |next=>obtain⟨Y7,H7,I7,n7⟩:=q7;exact again I7 n7
  |cont=>obtain⟨Y7,H7,I7,n7⟩:=q7;exact again I7 n7
  |brk=>obtain⟨Y7,H7,I7,q7⟩:=q7;exact⟨Y7,H7,I7.unpinned,q7⟩
  |ret v=>obtain⟨x7,Y7,H7,I7,r7,q7⟩:=q7;exact⟨x7,Y7,H7,I7.unpinned,r7,q7⟩
end
abbrev R2:=V->V->Hp->VK->Prop
variable{r:R2}
noncomputable def OpR(X:Cx)(f:Aj->Aj->Dq Aj)(r:R2):Prop:=
 ∀(pI:Pn)(s:Ap)(Y:St)(H:Hp)(x y:V)(v u:Aj)(Q:VK),Inv X pI Y H s->Bx x v->Bx y u->r x y H Q ->
  AB (model X.prog X.w) X.A (f v u) (EP X pI Y Q) X.xe s
noncomputable def UnR(X:Cx)(f:Aj->Dq Aj)(r:V->Hp->VK->Prop):Prop:=
 ∀(pI:Pn)(s:Ap)(Y:St)(H:Hp)(x:V)(v:Aj)(Q:VK),Inv X pI Y H s->Bx x v->r x H Q ->
  AB (model X.prog X.w) X.A (f v) (EP X pI Y Q) X.xe s
noncomputable def IH(X:Cx)(f:Aj)(r:Ac V->Hp->VK->Prop):Prop:=
 ∀(pI:Pn)(s:Ap)(Y:St)(H:Hp)(xs:Ac V)(us:Ac Aj)(Q:VK),Inv X pI Y H s->A6 xs us->r xs H Q ->
  AB (model X.prog X.w) X.A (call f us) (EP X pI Y Q) X.xe s
noncomputable def pQ(X:Cx)(r:V->Hp->(Ai->Hp->Prop)->Prop):Prop:=
 ∀(pI:Pn)(s:Ap)(Y:St)(H:Hp)(x:V)(v:Aj)(Q:Ai->Hp->Prop),Inv X pI Y H s->Bx x v->r x H Q ->
  AB (model X.prog X.w) X.A (truthy v) (TP X pI Y Q) X.xe s
def tOp(r:R2)(ta tb:TE):TE:=λY H Q=>ta Y H λx H1=>tb Y H1 λy H2=>r x y H2 Q
def tUn(r:V->Hp->VK->Prop)(ta:TE):TE:=λY H Q=>ta Y H λx H1=>r x H1 Q
def rI(C:Ag->Ag->Prop)(g:Ag->Ag->V):R2:=λx y H Q=>∃ i j,x=.int i/\y=.int j/\C i j/\Q (g i j) H
def rI0(g:Ag->Ag->V):R2:=λx y H Q=>∃ i j,x=.int i/\y=.int j/\Q (g i j) H
def rU(g:Ag->V):V->Hp->VK->Prop:=λx H Q=>∃ i,x=.int i/\Q (g i) H
section
variable{X:Cx}{a b c:An}{ta tb tc:TE}{pos:AR}
theorem PL(ha:PE X a ta)(hb:PE X b tb){R:V->V->Hp->Prop}(I:Inv X pI Y H s)(h:ta Y H λx H1=>tb Y H1 λy H2=>R x y H2){Q:Vq}(hf:∀ v u s2 x y H2,Inv X pI Y H2 s2->Bx x v->Bx y u->R x y H2->AB (model X.prog X.w) X.A (f v u) Q X.xe s2):AB (model X.prog X.w) X.A (eval a X.env) (λv s₁=>AB (model X.prog X.w) X.A (eval b X.env) (λu s₂=>AB (model X.prog X.w) X.A (f v u) Q X.xe s₂) X.xe s₁) X.xe s:=by
 refine thn (ha pI s Y H _ I h) λv s1 ⟨x,H1,I1,r1,q1⟩=>?_
 refine thn (hb pI s1 Y H1 _ I1 q1) λu s2 ⟨y,H2,I2,r2,q2⟩=>?_
 exact hf v u s2 x y H2 I2 r1 r2 q2
theorem T2{op:Fa}(ho:OpR X (BY op) r)(ha:PE X a ta)(hb:PE X b tb):PE X (.BinOp a op b pos) (tOp r ta tb):=by
 intro pI s Y H Q I h;exact wpAny_BinOp (PL ha hb I h λv u s2 x y H2 I2 rx ry q=>ho pI s2 Y H2 x y v u Q I2 rx ry q)
theorem oK{op:Js}{r:V->Hp->VK->Prop}(ho:UnR X (unaryOp op) r)(ha:PE X a ta):PE X (.UnaryOp op a pos) (tUn r ta):=by
 intro pI s Y H Q I h;exact UnaryOp_ (thn (ha pI s Y H _ I h) λv s1 ⟨x,H1,I1,r1,q1⟩=>ho pI s1 Y H1 x v Q I1 r1 q1)
theorem opI{C:Ag->Ag->Prop}(rule:∀(i j:Ag)(t u:BV)(s:Ap)(Q:Vq)(E:Vq),C i j->Q (.int (g i j) s.toks) {s with toks:=s.toks+1}->AB (model X.prog X.w) X.A (f (.int i t) (.int j u)) Q E s):OpR X f (rI C λi j=>.int (g i j)):=by
 intro pI s Y H x y v u Q I rx ry h;obtain⟨i,j,rfl,rfl,hc,q⟩:=h;obtain⟨t,rfl⟩:=rx;obtain⟨t',rfl⟩:=ry;exact rule i j t t' s _ _ hc ⟨.int (g i j),H,I.tok _,⟨_,rfl⟩,q⟩
theorem UH(rule:∀(i j:Ag)(t u:BV)(s:Ap)(Q:Vq)(E:Vq),Q (.int (g i j) s.toks) {s with toks:=s.toks+1}->AB (model X.prog X.w) X.A (f (.int i t) (.int j u)) Q E s):OpR X f (rI0 λi j=>.int (g i j)):=by
 intro pI s Y H x y v u Q I rx ry h;obtain⟨i,j,rfl,rfl,q⟩:=h;obtain⟨t,rfl⟩:=rx;obtain⟨t',rfl⟩:=ry;exact rule i j t t' s _ _ ⟨.int (g i j),H,I.tok _,⟨_,rfl⟩,q⟩
theorem Ni{g:Ag->Ag->Ai}(rule:∀(i j:Ag)(t u:BV)(s:Ap)(Q:Vq)(E:Vq),Q (.bool (g i j)) s->AB (model X.prog X.w) X.A (f (.int i t) (.int j u)) Q E s):OpR X f (rI0 λi j=>.bl (g i j)):=by
 intro pI s Y H x y v u Q I rx ry h;obtain⟨i,j,rfl,rfl,q⟩:=h;obtain⟨t,rfl⟩:=rx;obtain⟨t',rfl⟩:=ry;exact rule i j t t' s _ _ ⟨.bl (g i j),H,I,rfl,q⟩
def pV(i j:Ag):Prop:=0<j/\j<1073741824
def pU(i j:Ag):Prop:=0<=j/\j<=1000000/\i.natAbs<2 ^ 64
def Nt(i j:Ag):Prop:=(-(2 ^ 64)<i/\i<2 ^ 64)\/(-(2 ^ 64)<j/\j<2 ^ 64)
theorem Nt.ok{i j:Ag}(h:Nt i j):K0 i j:=by
 rcases h with ⟨h1,h2⟩|⟨h1,h2⟩
 .exact .of_left (intBits_le_64 h1 h2)
 .exact .of_right (intBits_le_64 h1 h2)
theorem jY:OpR X (BY .Add) (rI0 λi j=>.int (i+j)):=UH λ_ _ _ _ _ _ _ q=>add_int q
theorem jU:OpR X (BY .Sub) (rI0 λi j=>.int (i-j)):=UH λ_ _ _ _ _ _ _ q=>sub_int q
theorem dS:OpR X (BY .FloorDiv) (rI pV λi j=>.int (i/j)):=opI λi j _ _ _ _ _ hc q=>by
 have h1:(0:Ag)<j:=hc.1;have h2:j<1073741824:=hc.2;exact floordiv_int (by omega) (by rw[Int.fdiv_eq_ediv_of_nonneg i (by omega)];exact q) (.inl (VJ (by omega)))
theorem jW:OpR X (BY .Mod) (rI (λ_ j=>0<j) λi j=>.int (i%j)):=opI λi j _ _ _ _ _ hc q=>by
 have h1:(0:Ag)<j:=hc;exact mod_int' (by omega) (by rw[Int.fmod_eq_emod_of_nonneg i (by omega)];exact q)
theorem jV:OpR X (BY .Pow) (rI pU λi j=>.int (i ^ j.toNat)):=opI λ_ _ _ _ _ _ _ hc q=>pow_int_small hc.1 hc.2.1 hc.2.2 q
theorem unI{f:Aj->Dq Aj}{g:Ag->Ag}(rule:∀(i:Ag)(t:BV)(s:Ap)(Q:Vq)(E:Vq),Q (.int (g i) s.toks) {s with toks:=s.toks+1}->AB (model X.prog X.w) X.A (f (.int i t)) Q E s):UnR X f (rU λi=>.int (g i)):=by
 intro pI s Y H x v Q I rx h;obtain⟨i,rfl,q⟩:=h;obtain⟨t,rfl⟩:=rx;exact rule i t s _ _ ⟨.int (g i),H,I.tok _,⟨_,rfl⟩,q⟩
theorem eD:UnR X (unaryOp .USub) (rU λi=>.int (-i)):=unI λ_ _ _ _ _ q=>neg_int q
end
section
variable{X:Cx}{a b c:An}{ta tb tc:TE}{pos:AR}
theorem SV{Q:VK}{k k':Ai}(I:Inv X pI Y H s)(q:Q (.bl k) H)(e:k=k'):EP X pI Y Q (.bool k') s:=by
 subst e;exact⟨.bl k,H,I,rfl,q⟩
theorem oR:OpR X (CC .Lt) (rI0 λi j=>.bl (decide (i<j))):=Ni λ_ _ _ _ _ _ _ q=>lt_int q
theorem oS:OpR X (CC .LtE) (rI0 λi j=>.bl (decide (i<=j))):=Ni λ_ _ _ _ _ _ _ q=>le_int q
theorem oU:OpR X (CC .Gt) (rI0 λi j=>.bl (decide (j<i))):=Ni λ_ _ _ _ _ _ _ q=>gt_int q
theorem oV:OpR X (CC .GtE) (rI0 λi j=>.bl (decide (j<=i))):=Ni λ_ _ _ _ _ _ _ q=>ge_int q
theorem jX:OpR X (CC .Is) (λx y H Q=>y=.non/\Q (.bl (decide (x=.non))) H):=by
 intro pI s Y H x y v u Q I rx ry h;obtain⟨rfl,q⟩:=h;cases ry;refine is_none_gen (SV I q ?_);cases x<;>first
  |(cases rx;rfl)
  |(obtain⟨t,rfl⟩:=rx;rfl)
theorem dQ:OpR X (CC .IsNot) (λx y H Q=>y=.non/\Q (.bl (!decide (x=.non))) H):=by
 intro pI s Y H x y v u Q I rx ry h;obtain⟨rfl,q⟩:=h;cases ry;refine isnot_none_gen (SV I q ?_);cases x<;>first
  |(cases rx;rfl)
  |(obtain⟨t,rfl⟩:=rx;rfl)
theorem dJ(ho:OpR X (CC op) r)(ha:PE X a ta)(hb:PE X b tb)(hm:GU op b=Ad):PE X (.Compare a [op] [b] pos) (tOp r ta tb):=by
 intro pI s Y H Q I h;exact wpAny_Compare1 (PL ha hb I h λv u s2 x y H2 I2 rx ry q=>ho pI s2 Y H2 x y v u Q I2 rx ry q) hm
def TK(t:TE):TT:=λY H Q=>t Y H λx H'=>∃ k,x=.bl k/\Q k H'
theorem Z_8(ho:OpR X (CC op) r)(ha:PE X a ta)(hb:PE X b tb)(hm:GU op b=Ad):PT X (.Compare a [op] [b] pos) (TK (tOp r ta tb)):=by
 intro pI s Y H Q I h;refine wpAny_isTrue_Compare1 (thn (ha pI s Y H _ I h) λv s1 ⟨x,H1,I1,r1,q1⟩=>thn (hb pI s1 Y H1 _ I1 q1) λu s2 ⟨y,H2,I2,r2,q2⟩=>
  thn (ho pI s2 Y H2 x y v u _ I2 r1 r2 q2) λc s3 ⟨z,H3,I3,r3,k,e,q3⟩=>?_) hm
 subst e;cases r3;exact CU ⟨H3,I3,q3⟩
def gO(r r':R2)(ta tb tc:TE):TE:=λY H Q=>ta Y H λx H1=>tb Y H1 λy H2=>r x y H2 λz H3=>∃ k,z=.bl k /\
 (if k=Aa then tc Y H3 λw' H4=>r' y w' H4 Q else Q (.bl Ad) H3)
theorem YO{op':Do}{r':R2}(ho:OpR X (CC op) r)(ho':OpR X (CC op') r')(ha:PE X a ta)(hb:PE X b tb)(hc:PE X c tc)(hm:lastMarks [op,op'] [b,c]=Ad:=by with_unfolding_all rfl):PT X (.Compare a [op,op'] [b,c] pos) (TK (gO r r' ta tb tc)):=by
 intro pI s Y H Q I h;refine isTrue_chain (thn (ha pI s Y H _ I h) λv s1 ⟨x,H1,I1,r1,q1⟩=>test_link (thn (hb pI s1 Y H1 _ I1 q1) λu s2 ⟨y,H2,I2,r2,q2⟩=>
  thn (ho pI s2 Y H2 x y v u _ I2 r1 r2 q2) λd s3 ⟨z,H3,I3,r3,k,e,q3⟩=>?_)) hm
 subst e;cases r3;refine CU ?_;cases k with
 |false=>
  obtain⟨k',e',q'⟩:=q3;cases e';exact ite_ff ⟨H3,I3,q'⟩
 |true=>
  refine ite_tt (test_last (thn (hc pI s3 Y H3 _ I3 q3) λw' s4 ⟨z',H4,I4,r4,q4⟩=>thn (ho' pI s4 Y H4 y z' u w' _ I4 r2 r4 q4) λd' s5 ⟨z2,H5,I5,r5,k2,e2,q5⟩=>?_))
  subst e2;cases r5;exact CU ⟨H5,I5,q5⟩
noncomputable def UL(K:Fg)(x:V)(H:Hp)(k:Ai):Prop:=
  match x with
  |.non=>k=Ad
  |.bl b=>k=b
  |.int i=>k=(i != 0)
  |.str y=>y.length<=sizeLine/\k=((y.length:Ag) != 0)
  |.byt y=>y.size<=sizeLine/\k=((y.size:Ag) != 0)
  |.ref p=>(∃ xs,SqL K H p xs/\k=!xs.isEmpty)\/(∃ xs,SqT K H p xs/\k=!xs.isEmpty)\/∃ kvs,H p=Ab (.dK kvs)/\k=!kvs.isEmpty
  |_=>A5
theorem Yj{κ:Type}{kvs:Ac (κ×V)}{vs:Ac (κ×Aj)}(r:KV kvs vs):(!vs.isEmpty)=!kvs.isEmpty:=by
 cases r<;>rfl
theorem Qo{its:Ac Aj}(r:A6 xs its):(!its.toArray.isEmpty)=!xs.isEmpty:=by
 cases r<;>simp
theorem Kx:(sizeLine:Ae)<2 ^ 63:=by rw[B9];decide
theorem gL:pQ X (λx H Q=>∃ k,UL X.K x H k/\Q k H):=by
 intro pI s Y H x v Q I rx h;obtain⟨k,e,q⟩:=h;have hl:=Kx;have hs:sizeLine=16777216:=B9;cases x with
 |non=>
  cases rx;have e':k=Ad:=e;subst e';exact truthy_none ⟨H,I,q⟩
 |bl b=>
  cases rx;have e':k=b:=e;subst e';exact CU ⟨H,I,q⟩
 |int i=>
  obtain⟨t,rfl⟩:=rx;have e':k=(i != 0):=e;subst e';exact PySem.P.truthy_int ⟨H,I,q⟩
 |str y=>
  obtain⟨t,rfl⟩:=rx;obtain⟨hy,e'⟩:y.length<=sizeLine/\k=((y.length:Ag) != 0):=e;subst e';exact PySem.P.truthy_str (by omega) ⟨H,I.tok _,q⟩
 |byt y=>
  obtain⟨t,rfl⟩:=rx;obtain⟨hy,e'⟩:y.size<=sizeLine/\k=((y.size:Ag) != 0):=e;subst e';exact PySem.W.truthy_bytes (by omega) ⟨H,I.tok _,q⟩
 |ref p=>
  cases rx;have e':(∃ xs,SqL X.K H p xs/\k=!xs.isEmpty)\/(∃ xs,SqT X.K H p xs/\k=!xs.isEmpty)\/∃ kvs,H p=Ab (.dK kvs)/\k=!kvs.isEmpty:=e;rcases e' with ⟨xs,hx,e'⟩|⟨xs,hx,e'⟩|⟨kvs,hx,e'⟩
  .subst e';obtain⟨its,r,pl,hz⟩:=I.list hx;have hlen:=r.length;exact wpAny_truthy_list pl.isList (by simp only[AH];omega) ⟨H,I.tok _,by rw[Qo r];exact q⟩
  .subst e';obtain⟨its,r,pl,hz⟩:=I.tuple hx;have hlen:=r.length;exact truthy_tuple pl (by simp only[AH];omega) ⟨H,I.tok _,by rw[Qo r];exact q⟩
  .subst e';obtain⟨hz,hS,vs,r,m⟩:kvs.length<=sizeLine/\(p==J6)=Ad/\∃ vs,KV kvs vs/\s.heap.DictOf (Ou X.prog X.w) p vs:=I.hok p _ hx;have hlen:kvs.length=vs.length:=WG r;exact wpAny_truthy_dict hS m (by omega) ⟨H,I.tok _,by rw[Yj r];exact q⟩
 |_=>exact(show A5 from e).elim
theorem YN(ha:PE X a ta)(he:∀ whole,Ik a X.env whole=(do let v <-whole;standAt a.pos;holding [v] (truthy v))):PT X a (λY H Q=>ta Y H λx H'=>∃ k,UL X.K x H' k/\Q k H'):=by
 intro pI s Y H Q I h;exact isTrue_plain (thn (ha pI s Y H _ I h) λv s1 ⟨x,H1,I1,r1,q1⟩=>gL pI s1 Y H1 x v Q I1 r1 q1) (he _)
theorem Yh:OpR X (BY .Add) (λx y H Q=>∃ i j,x=.str i/\y=.str j/\i.length+j.length<=sizeLine/\Q (.str (i++j)) H):=by
 intro pI s Y H x y v u Q I rx ry h;obtain⟨i,j,rfl,rfl,hz,q⟩:=h;obtain⟨t,rfl⟩:=rx;obtain⟨t',rfl⟩:=ry;exact add_str (λt' tk=>⟨.str (i++j),H,I.tok _,⟨_,rfl⟩,q⟩) hz
theorem Jk{x:V}(r:A6 [x] us):∃ u,us=[u]/\Bx x u:=by
 cases r with
 |cons r1 r2=>cases r2;exact⟨_,rfl,r1⟩
theorem MN{x y:V}(r:A6 [x,y] us):∃ u w',us=[u,w']/\Bx x u/\Bx y w':=by
 cases r with
 |cons r1 r2=>
  cases r2 with
  |cons r3 r4=>cases r4;exact⟨_,_,rfl,r1,r3⟩
theorem Qv:IH X (.type "int") (λxs H Q=>(∃ i,xs=[.int i]/\Q (.int i) H)\/∃ k,xs=[.bl k]/\Q (.int (if k then 1 else 0)) H):=by
 intro pI s Y H xs us Q I r h;rcases h with ⟨i,rfl,q⟩|⟨k,rfl,q⟩
 .obtain⟨u,rfl,t,rfl⟩:=Jk r;exact call_int_int ⟨.int i,H,I,⟨_,rfl⟩,q⟩
 .obtain⟨u,rfl,r1⟩:=Jk r;cases r1;exact call_int_bool ⟨.int (if k then 1 else 0),H,I.tok _,⟨_,rfl⟩,q⟩
end
structure ObjM (h:AD) (x dx C:Ak) (mA:Ah->Am Aj):Prop where
 obj:h.get? x=Ab (DT C dx)
 ns:h.Ns1 dx mA
 ne:dx≠x
theorem Yv(n:h.Ns1 dx mA):∃ od,h.get? dx=Ab od/\∀ name,Ij name od=Ab (mA name):=by
 obtain⟨o,es,ep,ho,hd,hk,_,hm⟩:=n;refine⟨o,ho,λname=>?_⟩
 have e:=hm name;unfold nsFind findBy at e;rw[<-UP]at e;unfold Ij;rw[hd];dsimp only;split
 .rename_i y q;rw[q]at e;exact congrArg Ab e
 .rename_i q;rw[q]at e;have a:es.toList.any (·.refKey)=Ad:=by
   rw[List.any_eq_false];intro y hy;obtain⟨z,t,hkey⟩:=hk y (Array.mem_toList_iff.mp hy);simp[DictEntry.refKey,hkey]
  have a':¬ es.toList.any (·.refKey)=Aa:=by rw[a];exact Az
  rw[As a'];exact congrArg Ab e
theorem ObjM.look{x C:Ak}(I:ObjM h x dx C mA):∃ od,PySem.W.InstAt h x (DT C dx) C (Ab od)/\∀ name,Ij name od=Ab (mA name):=
 let ⟨od,ho,hl⟩:=Yv I.ns
 ⟨od,⟨I.obj,rfl,rfl,ho⟩,hl⟩
section
variable{prog:AM}{w:AY}{A:AT}{E:Vq}{s:Ap}{K:Fg}{x dx C f:Ak}{mA:Ah->Am Aj}{name:Ah}{v:Aj}
end
theorem LQ.some_of{o:Am Aj}(r:LQ (Ab v) o):∃ u,o=Ab u/\Bx v u:=by
 cases o with
 |none=>exact(show A5 from r).elim
 |some u=>exact⟨u,rfl,r⟩
theorem Yo(r:Bx v u):PySem.W.handedIn u=Aa:=by
 cases v with
 |non=>cases (show u=A3 from r);rfl
 |bl b=>cases (show u=J3 b from r);rfl
 |int i=>obtain⟨t,e⟩:=(show ∃ t,u=GP i t from r);cases e;rfl
 |str x=>obtain⟨t,e⟩:=(show ∃ t,u=KY x t from r);cases e;rfl
 |byt b=>obtain⟨t,e⟩:=(show ∃ t,u=WT b t from r);cases e;rfl
 |flt b=>obtain⟨t,e⟩:=(show ∃ t,u=WU b t from r);cases e;rfl
 |ref a=>cases (show u=De a from r);rfl
 |ty n=>cases (show u=Fn n from r);rfl
section
variable{P:AM}{w:AY}{H H':Hp}{h h':AD}{a C dx:Ak}{fs fs':Ac (Ah×V)}
end
structure Cls (K:Fg) (C:Ak):Prop where
 pg:W6 K C Str.empty=Aa
 hd:PySem.W.hasDictIn K C=Aa
 po:PySem.W.plainOver K C=Aa
 sa:Bf K (.ref C) "__setattr__" = Ab (Ab (.builtin "object.__setattr__"))
theorem Cls.get{K:Fg}{C:Ak}(c:Cls K C)(f:Ah):W6 K C f=Aa:=c.pg
section
variable{X:Cx}{pI:Pn}{Y:St}{H:Hp}{s:Ap}{a C dx:Ak}{fs:Ac (Ah×V)}{f:Ah}{v:V}{A:AT}{E:Vq}
theorem Inv.made(I:Inv X pI Y H s):Inv X pI Y (upd (upd H s.heap.objs.size (.own (s.heap.objs.size+1))) (s.heap.objs.size+1) (.ins C s.heap.objs.size [])) {s with heap:=(s.heap.push CQ).push (DT C s.heap.objs.size)}:=by
  have e1:(s.heap.push CQ).get? s.heap.objs.size=Ab CQ:=AJ s.heap rfl;have e2:((s.heap.push CQ).push (DT C s.heap.objs.size)).get? (s.heap.objs.size+1)=Ab (DT C s.heap.objs.size):=by
    have:=AJ (s.heap.push CQ) (o:=DT C s.heap.objs.size) rfl
    rwa [BF]at this
  have e3:(s.heap.push CQ).Ns s.heap.objs.size (λ_=>Af):=⟨CQ,#[],_,e1,rfl,(λe he=>absurd he (by simp)),λ_=>rfl⟩
  have I1:=I.laid (a:=s.heap.objs.size) (o:=.own (s.heap.objs.size+1)) (h':=s.heap.push CQ) (t':=s.toks) (λb u q=>Ar _ q) (Aw _) ⟨_,e1⟩
  refine I1.laid (a:=s.heap.objs.size+1) (o:=.ins C s.heap.objs.size []) (t':=s.toks) (λb u q=>Ar _ q) (Vt (BF _ _)) ?_
  have ne:s.heap.objs.size≠s.heap.objs.size+1:=Bj (Hk _);refine⟨by rw[B6 ne,GE],CH _,ne,e2,λ_=>Af,(Heap.Ns1.of_empty e3).at λo q=>Ar _ q,λ_=>True.intro,λy hy=>absurd rfl hy⟩
theorem fD{prog:AM}{w:AY}{env:Cr}{f:Ah}{Q:Vq}(hb:Ew e f env (eval e env)=eval e env)(h:AB (model prog w) A (eval e env) (λo s₁=>AB (model prog w) A (getAttr o f Aa) Q E s₁) E s):AB (model prog w) A (eval (.Attribute e f pos) env) Q E s:=
 Attribute_any_ h (by rw[arm_eval_Attribute,hb])
end
section
variable{X:Cx}{o e value:An}{f:Ah}{pos pos' tpos:AR}{ta tv:TE}
end
section
variable{X:Cx}{pI:Pn}{Y:St}{H:Hp}{s:Ap}{A:AT}{E:Vq}{Q:Vq}{c:Aj}{b:Ai}
end
structure Room (k:Ae) (A:AT):Prop where
 hd:A.handled=Af
 dp:A.depth+3*k+5<Xd
 un:A.units+16*k+200<Cf
 gd:A.guards=Ab []
theorem Room.mono{j:Ae}{A:AT}(r:Room k A)(h:j<=k):Room j A:=⟨r.hd,by have:=r.dp;omega,by have:=r.un;omega,r.gd⟩
theorem Room.deeper{A:AT}(r:Room (k+1) A)(env:Cr):Room k (A.deeper env):=
 ⟨r.hd,by have:=r.dp;show A.depth+1+3*k+5<_;omega,by have:=r.un;show A.units+3+16*k+200<_;omega,r.gd⟩
theorem Room.depth{A:AT}(r:Room k A):A.depth<Xd:=by have:=r.dp;omega
theorem Room.units{A:AT}(r:Room k A):A.units+64<Cf:=by have:=r.un;omega
def qO:TA:=λ_ H Q=>Q [] H
def lL(ta:TE)(tr:TA):TA:=λY H Q=>ta Y H λx H1=>tr Y H1 λxs H2=>Q (x::xs) H2
section
variable{X:Cx}{e:An}{es:Ac An}{te:TE}{t:TA}{pos:AR}
theorem FY:PA X [] qO:=λ_ _ _ _ H Q I h=>Calls.spliced_nil ⟨[],H,I,.nil,h⟩
theorem El(ha:PE X e te)(hr:PA X es t)(hs:Ay (e::es) X.env=(Ad,eval e X.env)::Ay es X.env:=by rfl):PA X (e::es) (lL te t):=by
 intro pos pI s Y H Q I h;rw[hs];show AB _ _ (spliced ((Ad,eval e X.env)::BR pos (Ay es X.env))) _ _ s;refine Calls.spliced_cons (thn (ha pI s Y H _ I h) λu s1 ⟨x,H1,I1,r1,q1⟩=>?_)
 exact thn (hr pos pI s1 Y H1 _ I1 q1) λus s2 ⟨xs,H2,I2,r2,q2⟩=>⟨x::xs,H2,I2,.cons r1 r2,q2⟩
def qJ(t:TA):TE:=λY H Q=>t Y H λxs H1=>xs.length<=sizeLine/\∀ p,H1 p=Af->Q (.ref p) (upd H1 p (.tup xs))
def qP(t:TA):TE:=λY H Q=>t Y H λxs H1=>xs.length<=sizeLine/\∀ p,H1 p=Af->Q (.ref p) (upd H1 p (.lst xs))
theorem Tt{x1}(h:PA X es t):PE X (.Tuple es x1 pos) (qJ t):=by
 intro pI s Y H Q I hq;refine wpAny_Tuple_spliced (thn (h pos pI s Y H _ I hq) λus s1 ⟨xs,H1,I1,r,z,q⟩=>⟨by rw[<-r.length];exact z,?_⟩)
 have hf:H1 s1.heap.objs.size=Af:=I1.hok.fresh (Aw _);refine⟨.ref s1.heap.objs.size,upd H1 s1.heap.objs.size (.tup xs),I1.laid (t':=s1.toks) (λb u e=>Ar _ e) (Aw _) ?_,rfl,q _ hf⟩
 exact⟨z,us,r,⟨_,AJ _ rfl,rfl,_,rfl⟩⟩
theorem jR(h:PA X es t):PE X (.List es pos) (qP t):=by
 intro pI s Y H Q I hq;refine wpAny_List_spliced (thn (h pos pI s Y H _ I hq) λus s1 ⟨xs,H1,I1,r,z,q⟩=>⟨by rw[<-r.length];exact z,?_⟩)
 have hf:H1 s1.heap.objs.size=Af:=I1.hok.fresh (Aw _);refine⟨.ref s1.heap.objs.size,upd H1 s1.heap.objs.size (.lst xs),I1.laid (t':=s1.toks) (λb u e=>Ar _ e) (Aw _) ?_,rfl,q _ hf⟩
 exact⟨z,us,0,r,AJ _ rfl⟩
end
abbrev Sp:=Ac V->Hp->VK->XK->Prop
variable{sp:Sp}
abbrev CXT:=Ac Cr->Hp->Ap->XK->Aj->Ap->Prop
variable{CX:CXT}
structure Env0 (P:AM) (w:AY) (K:Fg) (mg:Ah->Am Aj) (base:AD) (A:AT) (outer:Ac Cr) (s:Ap) (H:Hp):Prop where
 frames:A.frames=Ab outer
 mod:Mod K mg base
 bs:∀ b o,base.get? b=Ab o->s.heap.get? b=Ab o/\H b=Af
 bsz:base.objs.size<=s.heap.objs.size
 funs:s.heap.FunFrames base outer
 frf:∀ b∈frs outer,H b=Af
 hok:HOk P w H s.heap
 bare:Fl s.gens
noncomputable def CE(outer:Ac Cr)(P:AM)(w:AY)(H:Hp)(s:Ap)(Q:VK)(u:Aj)(s':Ap):Prop:=
 ∃ v H',s'.os=s.os/\Fl s'.gens/\Un (frs outer) [] H H' s.heap s'.heap/\HOk P w H' s'.heap/\Bx v u/\Q v H'
noncomputable def CR(CX:CXT)(outer:Ac Cr)(P:AM)(w:AY)(H:Hp)(s:Ap)(Q:VK)(E:XK)(r:Ih)(s':Ap):Prop:=
  match r with
  |.ok (.ret u)=>CE outer P w H s Q u s'
  |.ok _=>A5
  |.error e=>CX outer H s E e s'
structure FnOk (P:AM) (w:AY) (K:Fg) (mg:Ah->Am Aj) (base:AD) (CX:CXT) (k:Ae) (f:Ak) (fd:BQ) (ps:Ac Ah) (sp:Sp):Prop where
 len:∀ vs H Q E,sp vs H Q E->vs.length=ps.length
 run:∀(A:AT)(outer:Ac Cr)(s:Ap)(H:Hp)(args:Args)(us:Ac Aj)(vs:Ac V)(Q:VK)(E:XK),Room k A->Env0 P w K mg base A outer s H->GD s fd args (ps.zip us)->A6 vs us->sp vs H Q E ->
  F9 (model P w) A (.call (.ref f) args) (CR CX outer P w H s Q E) s
theorem FnOk.imp{w:AY}{K:Fg}{mg:Ah->Am Aj}{base:AD}{f:Ak}{sp':Sp}(F:FnOk P w K mg base CX k f fd ps sp)(h:∀ vs H Q E,sp' vs H Q E->sp vs H Q E):FnOk P w K mg base CX k f fd ps sp':=
 ⟨λvs H Q E q=>F.len vs H Q E (h _ _ _ _ q),λA outer s H args us vs Q E hr he hb hv hs=>F.run A outer s H args us vs Q E hr he hb hv (h _ _ _ _ hs)⟩
section
variable{X:Cx}{pI:Pn}{Y:St}{H:Hp}{s s':Ap}
theorem Inv.env0(I:Inv X pI Y H s):Env0 X.prog X.w X.K X.mg X.base X.A X.stack s H:=
 ⟨I.ok.frames,I.ok.mod,I.bs,B5 I.ok.bsz I.sz,I.stack,I.stkFree,I.hok,I.bare⟩
theorem Inv.after{Q:VK}(I:Inv X pI Y H s)(h:CE X.stack X.prog X.w H s Q u s'):EP X pI Y Q u s':=by
 obtain⟨v,H',os,bare,un,hok,r,q⟩:=h;obtain⟨hh,g,d,t,os'⟩:=s';obtain rfl:os'=s.os:=os;exact⟨v,H',I.call (h':=hh) (g':=g) (d':=d) (t':=t) (ch:=[]) un hok bare (λb z=>absurd z (by simp)),r,q⟩
end
def lM(sp:Sp)(dvs:Ac V)(E:XK)(t:TA):TE:=λY H Q=>t Y H λvs H1=>sp (vs++dvs) H1 Q E
noncomputable def G1(K:Fg)(fd:BQ)(ps:Ac Ah)(ds:Ac Aj):Prop:=
 ∀(s:Ap)(us:Ac Aj),K.In s.heap->(us++ds).length=ps.length->GD s fd ⟨us,[]⟩ (ps.zip (us++ds))
theorem G1.all{K:Fg}(h:∀ us:Ac Aj,us.length=ps.length->K7 fd ⟨us,[]⟩=pure (ps.zip us)):G1 K fd ps []:=λs us _ hl=>by
 rw[Bo]at hl ⊢;exact .of_eq (h us hl)
def KA(CX:CXT)(X:Cx)(E:XK):Prop:=∀(pI:Pn)(Y:St)(H:Hp)(s:Ap)(e:Aj)(s':Ap),Inv X pI Y H s->CX X.stack H s E e s'->X.xe e s'
section
variable{X:Cx}{CX:CXT}{k:Ae}{f C:Ak}{fd:BQ}{ps:Ac Ah}{sp:Sp}{dvs:Ac V}{ds:Ac Aj}{E:XK}{x m:Ah}{p pos apos:AR}{e o:An}{es:Ac An}{ta:TE}{t:TA}
theorem fG{Q:VK}(F:FnOk X.prog X.w X.K X.mg X.base CX k f fd ps sp)(hr:Room k X.A)(hb:G1 X.K fd ps ds)(hd:A6 dvs ds)(hx:KA CX X E)(I:Inv X pI Y H s)(r:A6 vs us)(h:sp (vs++dvs) H Q E):AB (model X.prog X.w) X.A (call (.ref f) us) (EP X pI Y Q) X.xe s:=by
 have r2:A6 (vs++dvs) (us++ds):=r.append hd;have hl:(us++ds).length=ps.length:=by rw[<-r2.length];exact F.len _ _ _ _ h
 refine wpAny_call (Hq (F.run X.A X.stack s H ⟨us,[]⟩ (us++ds) (vs++dvs) Q E hr I.env0 (hb s us I.kIn hl) r2 h) λr s' hq=>?_)
 cases r with
 |error e=>exact hx pI Y H s e s' I hq
 |ok fl=>
  cases fl with
  |ret u=>exact I.after hq
  |next=>exact Bs hq
  |brk=>exact Bs hq
  |cont=>exact Bs hq
theorem RP(F:FnOk X.prog X.w X.K X.mg X.base CX k f fd ps sp)(hr:Room k X.A)(hg:Gl X x)(hm:X.mg x=Ab (.ref f))(hk:Co X.K (.ref f)=Aa)(hb:G1 X.K fd ps ds)(hd:A6 dvs ds)(hx:KA CX X E)(ha:PA X (e::es) t)(hdb:(x==("__debug__" : Ah))=Ad:=by decide)(he:Ay (e::es) X.env=(Ad,eval e X.env)::Ay es X.env:=by rfl)(hpl:(BR pos (Ay es X.env)).any (·.1)=Ad:=by rfl):PE X (.Call (.Name x p) (e::es) [] pos) (lM sp dvs E t):=by
 intro pI s Y H Q I h;refine Fc (Lr I hg hm ?_ hdb);refine WY (h₀:=X.base) I.ok.mod.kin hk (thn (ha pos pI s Y H _ I h) λus s1 ⟨vs,H1,I1,r,q⟩=>⟨I1.kIn,?_⟩) he hpl
 exact fG F hr hb hd hx I1 r q
end
section
variable{X:Cx}{CX:CXT}{k:Ae}{f C:Ak}{fd:BQ}{ps ks:Ac Ah}{sp:Sp}{E:XK}{x m:Ah}{p pos apos kpos:AR}{e o:An}{es:Ac An}{kws:Ac Ee}{te ta:TE}{t tk:TA}{nm:Am Ah}
variable{g:Ac Aj->Ac Aj->Ac Aj}{gV:Ac V->Ac V->Ac V}
end
structure FnScope (N P:Ac Ah) (sc:BX):Prop where
 kind:sc.kind=.function
 co:sc.isCoroutine=Ad
 gen:sc.isGenerator=Ad
 nd:N.Nodup
 pre:N.take P.length=P
 par:∀ x∈P,sc.names.lookup x=Ab .local\/sc.names.lookup x=Ab .cell
 nofree:∀ y∈sc.names,y.2≠.free
theorem Qx{kindOf:Ah->Am Ek}{x:Ah}:∀{binds:Ac (Ah×Aj)}{m:Ah->Am Aj},(∀ v,(x,v)∉binds)->Ir kindOf binds m x=m x
 |[],_,_=>rfl
 |(n,v)::r,m,h=>by
  unfold Ir;rw[Qx λw hw=>h w (AC _ hw)]
  split
  .have:x≠n:=by rintro rfl;exact h v AN
   simp[this]
  .rfl
theorem Qz{kindOf:Ah->Am Ek}{x:Ah}:∀{binds:Ac (Ah×Aj)}{m:Ah->Am Aj},(∀ v,(x,v)∉binds)->Iq kindOf binds m x=m x
 |[],_,_=>rfl
 |(n,v)::r,m,h=>by
  unfold Iq;rw[Qz λw hw=>h w (AC _ hw)]
  split
  .rfl
  .have:x≠n:=by rintro rfl;exact h v AN
   simp[this]
theorem Qy{kindOf:Ah->Am Ek}{x:Ah}{v:Aj}:∀{P:Ac Ah}{vs:Ac Aj}{i:Ae}{m:Ah->Am Aj},P.Nodup->P[i]?=Ab x->vs[i]?=Ab v->kindOf x=Ab .local->Ir kindOf (P.zip vs) m x=Ab v
 |[],_,_,_,_,h,_,_=>by simp at h
 |_::_,[],_,_,_,_,h,_=>by simp at h
 |p::P,w::vs,0,m,nd,h1,h2,hk=>by
  simp at h1 h2;subst h1;subst h2;show Ir kindOf ((p,w)::P.zip vs) m p=_;unfold Ir;rw[Qx λv hv=>(EB.mp nd).1 (HC hv).1,Aq hk]
  simp
 |p::P,w::vs,i+1,m,nd,h1,h2,hk=>by
  show Ir kindOf ((p,w)::P.zip vs) m x=_;unfold Ir;exact Qy (i:=i) (EB.mp nd).2 (by simpa using h1) (by simpa using h2) hk
theorem QA{kindOf:Ah->Am Ek}{x:Ah}{v:Aj}:∀{P:Ac Ah}{vs:Ac Aj}{i:Ae}{m:Ah->Am Aj},P.Nodup->P[i]?=Ab x->vs[i]?=Ab v->kindOf x≠Ab .local->Iq kindOf (P.zip vs) m x=Ab v
 |[],_,_,_,_,h,_,_=>by simp at h
 |_::_,[],_,_,_,_,h,_=>by simp at h
 |p::P,w::vs,0,m,nd,h1,h2,hk=>by
  simp at h1 h2;subst h1;subst h2;show Iq kindOf ((p,w)::P.zip vs) m p=_;unfold Iq;rw[Qz λv hv=>(EB.mp nd).1 (HC hv).1,As hk]
  simp
 |p::P,w::vs,i+1,m,nd,h1,h2,hk=>by
  show Iq kindOf ((p,w)::P.zip vs) m x=_;unfold Iq;exact QA (i:=i) (EB.mp nd).2 (by simpa using h1) (by simpa using h2) hk
noncomputable def start(N:Ac Ah)(vs:Ac V):St:=vs.map Ab++GC (N.length-vs.length) Af
noncomputable def GJ(CX:CXT)(P:AM)(w:AY)(K:Fg)(mg:Ah->Am Aj)(base:AD)(N:Ac Ah)(qual:Ah)(scope:BX)(f:Ak)(cd:Aj)(A:AT)(outer:Ac Cr)(s:Ap)(H:Hp)(E:XK):Cx where
 prog:=P
 w:=w
 K:=K
 mg:=mg
 base:=base
 A:=A.deeper (EW qual scope s.heap.objs.size f cd)
 N:=N
 s₀:=s
 H₀:=H
 env:=EW qual scope s.heap.objs.size f cd
 outer:=outer
 stack:=EW qual scope s.heap.objs.size f cd::outer
 ex:=[]
 calm:=Aa
 fn:=λ_=>Aa
 pn:=[]
 xe:=λe s'=>AB (model P w) (A.deeper (EW qual scope s.heap.objs.size f cd)) (leaving (EW qual scope s.heap.objs.size f cd) e) (λ_ s''=>CX outer H s E e s'') (λe' s''=>CX outer H s E e' s'') s'
theorem Q1{sc:BX}(h:sc.names.lookup x=Ab .cell):∃ c,(Dg n sc.names []).lookup x=Ab c:=by
 have q:=WZ sc.names n [] (.inl h);exact Eg.mp q
theorem Ym{w:AY}{K:Fg}{mg:Ah->Am Aj}{base:AD}{N ps:Ac Ah}{f:Ak}{cd:Aj}{A:AT}{outer:Ac Cr}{s1:Ap}{E:XK}(S:FnScope N ps scope)(hd:A.handled=Af)(e0:Env0 P w K mg base A outer s H)(hl:vs.length=ps.length)(r:A6 vs us)(x:InCallC s s.heap.objs.size (Ir (EW qual scope s.heap.objs.size f cd).kindOf (ps.zip us) λ_=>Af) (Dg (s.heap.objs.size+1) scope.names []) (Iq (EW qual scope s.heap.objs.size f cd).kindOf (ps.zip us) λ_=>Af) s1):Inv (GJ CX P w K mg base N qual scope f cd A outer s H E) [] (start N vs) H s1:=by
 have hpl:ps.length<=N.length:=by have:=congrArg Jv S.pre;rw[C9]at this;omega
 obtain⟨h1,tk,rfl,hk⟩:=x.done;have noA:∀ b:Ak,b∉(GJ CX P w K mg base N qual scope f cd A outer s H E).ex:=λb z=>absurd (show b∈([]:Ac Ak) from z) (by simp)
 refine⟨⟨e0.mod,S.kind,rfl,rfl,Aw _,λy z c h1 h2=>?_,λy hy=>?_,λy c _ h=>?_,λ_=>hd,Around.frames_deeper e0.frames,.inr ⟨rfl,rfl⟩,λb z=>absurd z (noA b),e0.bs,e0.bsz,λb _ _=>noA b,λb z=>absurd z (noA b),e0.funs,e0.frf⟩,
  rfl,e0.bare,Un.kept hk,⟨_,x.toInCall.ns,λi y v h1 h2 h3=>?_⟩,λy c h=>⟨_,x.cell y c h⟩,e0.hok.fresh (Aw _),λy c h=>?_,λp hp=>absurd (show p∈([]:Pn) from hp) (by simp),e0.hok.kept hk,?_⟩
 .exact name_of_addr x.apart (Ct h1) (Ct h2)
 .have hy:scope.names.lookup y=Ab .cell\/scope.names.lookup y=Ab .free:=hy;rcases hy with hy|hy
  .exact Q1 hy
  .exact absurd rfl (S.nofree _ (Ct hy))
 .exact Gd (x.above y c (Ct h))
 .have hi:i<vs.length:=by
   unfold start at h2;by_cases hi:i<vs.length
   .exact hi
   .rw[B0 (by simpa using hi)]at h2
    rw[Vb]at h2;split at h2<;>cases h2
  have ha:vs[i]?=Ab v:=by
   unfold start at h2;rw[Di (by simpa using hi),Cp]at h2
   cases e:vs[i]? with
   |none=>rw[e]at h2;cases h2
   |some a=>rw[e]at h2;cases h2;rfl
  obtain⟨u,hu,rv⟩:=r.get ha;have hp:ps[i]?=Ab y:=by
   rw[<-S.pre,List.getElem?_take_of_lt (by omega)];exact h1
  have ndP:ps.Nodup:=by rw[<-S.pre];exact S.nd.sublist (List.take_sublist _ _)
  refine⟨u,rv,?_⟩;rcases S.par y (Vj hp) with k|k
  .exact .inl ⟨k,Qy ndP hp hu k⟩
  .obtain⟨c,e⟩:=Q1 (n:=s.heap.objs.size+1) k;refine .inr ⟨.inl k,c,e,?_⟩;have q:=x.cell y c e;rw[QA ndP hp hu (by show scope.names.lookup y≠_;rw[k];decide)]at q
   exact q
 .exact e0.hok.fresh (Gd (x.above y c (Ct h)))
 .unfold start;show _=N.length;rw[Be,AX,Vf];omega
theorem Ue{w:AY}{K:Fg}{mg:Ah->Am Aj}{base:AD}{f:Ak}{name:Ah}{params:Arguments}{dV kV doc pm cdv ct oc:Aj}{an od:Am Ak}{osl:Ax (Am Aj)}{N ps:Ac Ah}(lk:K.lookup f=Ab ⟨oc,od,.func (DP name qual params body scope dV kV doc pm an cdv ct),osl⟩)(hcd:Fo K cdv qual=Aa)(S:FnScope N ps scope)(len:∀ vs H Q E,sp vs H Q E->vs.length=ps.length)(hbody:∀(A:AT)(outer:Ac Cr)(s:Ap)(H:Hp)(vs:Ac V)(Q:VK)(E:XK),Room k (A.deeper (EW qual scope s.heap.objs.size f cdv))->sp vs H Q E ->
   ∃ t,PSs (GJ CX P w K mg base N qual scope f cdv A outer s H E) body t/\t {nx:=λ_ H'=>Q .non H',rt:=Q} (start N vs) H):FnOk P w K mg base CX (k+1) f (DP name qual params body scope dV kV doc pm an cdv ct) ps sp:=by
 refine⟨len,λA outer s H args us vs Q E hr e0 hb r hsp=>?_⟩
 have hl:=len _ _ _ _ hsp;have KX:K.In s.heap:=e0.mod.kin.keeps λb o e=>(e0.bs b o e).1
 have lim:s.heap.NoLimit:=e0.mod.nolimit.keeps λb o e=>(e0.bs b o e).1
 have hkind:∀ y∈ps.zip us,scope.names.lookup y.1=Ab .local\/(scope.names.lookup y.1=Ab .cell/\((Dg (s.heap.objs.size+1) scope.names []).lookup y.1).isSome=Aa):=λ⟨n,v⟩ hy=>by
  rcases S.par n (HC hy).1 with q|q
  .exact .inl q
  .exact .inr ⟨q,WZ _ _ _ (.inl q)⟩
 refine codeAny_call_function hr.depth (KX _ _ lk) rfl S.co S.gen rfl (PySem.W.codeRec_of KX hcd) (hb _ _ _ _ ?_);refine wpAny_newFunctionEnv_cells S.kind hkind λenv he s1 x=>?_
 subst he;refine⟨lim.keeps x.toInCall.keep,codeAny_func ?_⟩;obtain⟨t,ht,hq⟩:=hbody A outer s H vs Q E (hr.deeper _) hsp;have I:Inv (GJ CX P w K mg base N qual scope f cdv A outer s H E) [] (start N vs) H s1:=Ym S hr.hd e0 hl r x;refine Bt (ht [] s1 (start N vs) H _ I hq) (λfl s' hs=>?_) λe s' hs=>hs
 have fin:∀{Y':St}{H':Hp}{v:V}{u:Aj},Inv (GJ CX P w K mg base N qual scope f cdv A outer s H E) [] Y' H' s'->Bx v u->Q v H'->CE outer P w H s Q u s':=
  λ{Y' H' v u} J rv q=>⟨v,H',J.os,J.bare,J.base,J.hok,rv,q⟩
 cases fl with
 |ret u=>
  obtain⟨v,Y',H',J,rv,q⟩:=hs;exact fin J rv q
 |next=>
  obtain⟨Y',H',J,q⟩:=hs;exact fin (v:=V.non) (u:=A3) J rfl q
 |brk=>
  obtain⟨_,_,_,q⟩:=hs;exact Bs q
 |cont=>
  obtain⟨_,_,_,q⟩:=hs;exact Bs q
section
variable{X:Cx}{x:Ah}{p pos:AR}{e:An}{es:Ac An}{t:TA}{id T:CD}{r:Ac V->Hp->VK->Prop}
def tCB(r:Ac V->Hp->VK->Prop)(t:TA):TE:=λY H Q=>t Y H λvs H1=>r vs H1 Q
theorem Kb(hc:IH X (.builtin id) r)(hg:Gl X x)(hm:X.mg x=Af)(hv:CB x=Ab (.builtin id))(ha:PA X (e::es) t)(hn:x≠"__name__" := by decide)(hdb:(x==("__debug__" : Ah))=Ad:=by decide)(he:Ay (e::es) X.env=(Ad,eval e X.env)::Ay es X.env:=by rfl)(hpl:(BR pos (Ay es X.env)).any (·.1)=Ad:=by rfl):PE X (.Call (.Name x p) (e::es) [] pos) (tCB r t):=by
 intro pI s Y H Q I h;refine Fc (JM I hg hm hv ?_ hn hdb);exact PyProof.Rows.callWith_builtin1 (thn (ha pos pI s Y H _ I h) λus s1 ⟨vs,H1,I1,r1,q1⟩=>hc pI s1 Y H1 vs us Q I1 r1 q1) he hpl
theorem QG(hc:IH X (.type T) r)(hg:Gl X x)(hm:X.mg x=Af)(hv:CB x=Ab (.type T))(ha:PA X (e::es) t)(hn:x≠"__name__" := by decide)(hdb:(x==("__debug__" : Ah))=Ad:=by decide)(he:Ay (e::es) X.env=(Ad,eval e X.env)::Ay es X.env:=by rfl)(hpl:(BR pos (Ay es X.env)).any (·.1)=Ad:=by rfl):PE X (.Call (.Name x p) (e::es) [] pos) (tCB r t):=by
 intro pI s Y H Q I h;refine Fc (JM I hg hm hv ?_ hn hdb);exact C1 (thn (ha pos pI s Y H _ I h) λus s1 ⟨vs,H1,I1,r1,q1⟩=>hc pI s1 Y H1 vs us Q I1 r1 q1) he hpl
end
end L2
namespace HT
open PySem PyProof.Rows
variable{sl:Ak}
section
open PySem.SeqAt
open PySem.AutoSeq1 (wpAny_loadPart')
open PySem.MeetsSeq PySem.MeetsSeq2 PySem.MeetsSeq3
end
section
variable{prog:AM}{w:AY}{A:AT}{E:Vq}{s:Ap}
theorem cat_tup{t b:Ak}{vs ws:Ac Aj}{Q:Vq}(ht:JW s.heap t vs.toArray)(hb:JW s.heap b ws.toArray)(hv:vs≠[])(h1:ws=[]->Q (.ref t) s)(h2:ws≠[]->Q (.ref s.heap.objs.size) { s with heap:=s.heap.push { cls:=.type "tuple",data:=.seq (vs++ws).toArray } })(hsz:vs.length+ws.length<=sizeLine):AB (model prog w) A (BY .Add (.ref t) (.ref b)) Q E s:=by
 obtain⟨⟨cls,dd,data,sl⟩,ho,hc,n,hd⟩:=id ht;obtain⟨⟨cls2,dd2,data2,sl2⟩,ho2,hc2,n2,hd2⟩:=id hb;simp only at hc hd hc2 hd2;subst hc hd hc2 hd2;have e:vs.toArray++ws.toArray=(vs++ws).toArray:=by simp
 by_cases hw:ws=[]
 .exact Ja ⟨_,ho,rfl⟩ ⟨_,ho2,rfl⟩ Xc seq_tuple_add Wx Ws (Wn _ _)
   (tuple_addW1 t b vs.toArray ws.toArray n n2 dd dd2 sl sl2 (by simpa using hv) (by simp[hw])) ⟨ho,ho2,h1 hw⟩
 .refine Ja ⟨_,ho,rfl⟩ ⟨_,ho2,rfl⟩ Xc seq_tuple_add Wx Ws (Wn _ _)
   (tuple_addW2 t b vs.toArray ws.toArray n n2 dd dd2 sl sl2 (by simpa using hv) (by simpa using hw) (by rw[AH,AH];exact hsz)) ⟨ho,ho2,?_⟩
  rw[e];exact h2 hw
noncomputable def sIx(n d:Ae):Am Ag->Ae
 |none=>d
 |some v=>if v<0 then (v+(n:Ag)).toNat else min v.toNat n
theorem gJ(n d:Ae)(hd:d<=n)(o:Am Ag):sIx n d o<=n:=by
 cases o with
 |none=>exact hd
 |some v=>
  show (if v<0 then (v+(n:Ag)).toNat else min v.toNat n)<=n
  by_cases hv:v<0
  .rw[Aq hv];omega
  .rw[As hv];exact Nat.min_le_right _ _
theorem Si(v:Ag)(n d:Ae):(if v<0 then max (v+(n:Ag)) 0 else min v (n:Ag))=((sIx n d (Ab v):Ae):Ag):=by
 show (if v<0 then max (v+(n:Ag)) 0 else min v (n:Ag))=(((if v<0 then (v+(n:Ag)).toNat else min v.toNat n):Ae):Ag)
 by_cases hv:v<0
 .simp only[Aq hv];omega
 .simp only[As hv];omega
theorem XU(lo hi:Am Ag)(n:Ae):E2 lo hi 1 (n:Ag)=(((sIx n 0 lo:Ae):Ag),((sIx n n hi:Ae):Ag)):=by
 have h1:¬ ((1:Ag)<0):=by omega
 unfold E2;simp only[h1,JV];refine Prod.ext ?_ ?_
 .cases lo with
  |none=>rfl
  |some v=>exact Si v n 0
 .cases hi with
  |none=>rfl
  |some v=>exact Si v n n
theorem Yg(i j:Ae):D8 (i:Ag) (j:Ag) 1=j-i:=by
 unfold D8;have h1:(1:Ag)>0:=by omega
 simp only[h1,EO,Int.ediv_one];split<;>omega
theorem P5{v:Aj}{o:Am Ag}{Q:Am Ag->Ap->Prop}(p:GO v o)(h:Q o s):AB (model prog w) A (Builtin.Slice.slicePartIndex v) Q E s:=by
 cases p with
 |none=>exact VG h
 |int i t=>exact slicePart_int h
theorem Xr{vl vu:Aj}{lo hi:Am Ag}{n:Ae}{Q:Ag×Ag×Ae->Ap->Prop}(hs:s.heap.IsSliceOf sl vl vu .none)(pl:GO vl lo)(pu:GO vu hi)(h:Q (((sIx n 0 lo:Ae):Ag),1,sIx n n hi-sIx n 0 lo) s):AB (model prog w) A (VO (.ref sl) (pure (n:Ag))) Q E s:=by
 obtain⟨os,hos,hcs,hds⟩:=id hs;unfold VO Builtin.Slice.sliceFields;refine Ao (Ao (BG hos hds (x:=vl) rfl (Ao (BG hos hds (x:=vu) rfl (Ao (BG hos hds (x:=.none) rfl (AK ?_)))))));refine Ao (VG ?_);show AB _ _ (if ((1:Ag)==0)=Aa then _ else _) _ _ s
 rw[As (by decide)]
 refine Ao (P5 pl (Ao (P5 pu (Ao (AK ?_)))));show AB _ _ (match E2 lo hi 1 (n:Ag) with|(lo,hi)=>pure (lo,(1:Ag),D8 lo hi 1)) _ _ s
 rw[XU lo hi n];show AB _ _ (pure (((sIx n 0 lo:Ae):Ag),(1:Ag),D8 ((sIx n 0 lo:Ae):Ag) ((sIx n n hi:Ae):Ag) 1)) _ _ s;rw[Yg];exact AK h
theorem YS(xs:Ax Aj)(i k:Ae):((A8 k).filterMap fun(m:Ae)=>xs[((i:Ag)+(m:Ag)*1).toNat]?).toArray=((xs.toList.drop i).take k).toArray:=by
 have e:(fun(m:Ae)=>xs[((i:Ag)+(m:Ag)*1).toNat]?)=λm=>xs[i+m]?:=by
  funext m
  have:((i:Ag)+(m:Ag)*1).toNat=i+m:=by omega
  rw[this]
 rw[e];have:=pick_run xs i k;rw[List.filterMap_map]at this;have e2:((λx=>xs[x]?) ∘ λx=>i+x)=λm=>xs[i+m]?:=rfl
 rw[e2]at this;rw[this]
theorem getItem_tuple_cut{t:Ak}{items:Ax Aj}{vl vu:Aj}{lo hi:Am Ag}{Q:Vq}(ht:JW s.heap t items)(hs:s.heap.IsSliceOf sl vl vu .none)(pl:GO vl lo)(pu:GO vu hi)(hw:¬ (sIx items.size 0 lo=0/\sIx items.size items.size hi=items.size))(h:Q (.ref s.heap.objs.size) { s with heap:=s.heap.push { cls:=.type "tuple",data:=.seq ((items.toList.drop (sIx items.size 0 lo)).take (sIx items.size items.size hi-sIx items.size 0 lo)).toArray } })(hsz:items.size<=sizeLine):AB (model prog w) A (Jt (.ref t) (.ref sl)) Q E s:=by
 have htake:sizeOk (.seq ((items.toList.drop (sIx items.size 0 lo)).take (sIx items.size items.size hi-sIx items.size 0 lo)).toArray):=by
  show ((items.toList.drop (sIx items.size 0 lo)).take (sIx items.size items.size hi-sIx items.size 0 lo)).toArray.size<=sizeLine;rw[AH,C9,Ef,AF];omega
 have hj:sIx items.size items.size hi<=items.size:=gJ _ _ (Aw _) hi;obtain⟨os,hos,hcs,hds⟩:=id hs;have hTs:s.TypeIs (.ref sl) "slice" := ⟨os,hos,hcs⟩;unfold Jt
 try with_reducible refine IW ?_
 first|refine Ao (AK ?_)|skip
 refine Ao (wpAny_sequenceKey ht.typeIs (by decide) ?_)
 refine Ao (Ck (name:=AV "__getitem__") ht.typeIs VH
  (Da VH ht.typeIs entry_tuple_getitem ?_ (args_tuple_getitem _ _)))
 show AB _ _ (Builtin.Tuple.tupleItemsOf (.ref t) >>= _) _ _ s;refine Ao (tupleItemsOf_ ht ?_);refine Ao (wpAny_typeOf hTs ?_);rw[Aq (by decide)]
 refine Ao (Xr hs pl pu ?_);have hno:¬ ((((sIx items.size 0 lo:Ae):Ag)==0&&(1:Ag)==1&&(sIx items.size items.size hi-sIx items.size 0 lo)==items.size)=Aa):=by
  intro q;rw[Al,Al]at q;have q1:((sIx items.size 0 lo:Ae):Ag)=0:=eq_of_beq q.1.1;have q2:sIx items.size items.size hi-sIx items.size 0 lo=items.size:=eq_of_beq q.2;exact hw ⟨by omega,by omega⟩
 show AB _ _ (if (((sIx items.size 0 lo:Ae):Ag)==0&&(1:Ag)==1&&(sIx items.size items.size hi-sIx items.size 0 lo)==items.size)=Aa then _ else _) _ _ s
 rw[As hno,YS]
 first
  |exact Ao (m:=Ei _) (CT (AK ⟨_,rfl,AK h⟩) htake)
  |exact Ao (m:=Ei _) (CT (Ao (AK (AK ⟨_,rfl,AK h⟩))) htake)
  |exact Ao (Ao (m:=Ei _) (CT (AK (AK ⟨_,rfl,AK h⟩)) htake))
  |exact Ao (Ao (m:=Ei _) (CT (AK ⟨_,rfl,AK h⟩) htake))
end
end HT
namespace L2
open PySem PySem.Spec PyProof.Rows
variable{r:V->Am Ag->Am Ag->Hp->VK->Prop}{xs:Ac V}{us its:Ac Aj}{n t':Ae}{i:Ag}{pI:Pn}{Y:St}{H:Hp}{s:Ap}
abbrev TO:=St->Hp->(Am Ag->Hp->Prop)->Prop
noncomputable def PO(X:Cx)(e:Am An)(t:TO):Prop:=
 ∀(pI:Pn)(s:Ap)(Y:St)(H:Hp)(Q:Am Ag->Hp->Prop),Inv X pI Y H s->t Y H Q ->
  AB (model X.prog X.w) X.A (evalPart e X.env) (λu s'=>∃ o H',Inv X pI Y H' s'/\GO u o/\Q o H') X.xe s
def bP:TO:=λ_ H Q=>Q Af H
def lH(t:TE):TO:=λY H Q=>t Y H λx H1=>∃ i,x=.int i/\Q (Ab i) H1
section
variable{X:Cx}{e:An}{te:TE}{lo hi:Am An}{tl th:TO}{pos p2:AR}
theorem dF:PO X Af bP:=by
 intro pI s Y H Q I h;rw[evalPart_none];exact AK ⟨Af,H,I,.none,h⟩
theorem dE(h:PE X e te):PO X (Ab e) (lH te):=by
 intro pI s Y H Q I hw;rw[evalPart_some];refine thn (h pI s Y H _ I hw) λu s1 ⟨x,H1,I1,r1,q1⟩=>?_
 obtain⟨i,rfl,q⟩:=q1;obtain⟨t,rfl⟩:=r1;exact⟨Ab i,H1,I1,.int i t,q⟩
noncomputable def SlR(X:Cx)(r:V->Am Ag->Am Ag->Hp->VK->Prop):Prop:=
 ∀(pI:Pn)(s:Ap)(Y:St)(H:Hp)(x:V)(v vl vu:Aj)(lo hi:Am Ag)(sl:Ak)(Q:VK),Inv X pI Y H s->Bx x v->s.heap.IsSliceOf sl vl vu .none->GO vl lo->GO vu hi->r x lo hi H Q ->
  ∃ T id,typeLookup (.type T) "__getitem__" = pure (Ab (.builtin id))/\s.TypeIs v T/\AB (model X.prog X.w) X.A (Jt v (.ref sl)) (EP X pI Y Q) X.xe s
theorem SlR.or{r':V->Am Ag->Am Ag->Hp->VK->Prop}(h:SlR X r)(h':SlR X r'):SlR X (λx lo hi H Q=>r x lo hi H Q\/r' x lo hi H Q):=by
 intro pI s Y H x v vl vu lo hi sl Q I rx hs pl pu q;rcases q with q|q
 .exact h pI s Y H x v vl vu lo hi sl Q I rx hs pl pu q
 .exact h' pI s Y H x v vl vu lo hi sl Q I rx hs pl pu q
def tSl(r:V->Am Ag->Am Ag->Hp->VK->Prop)(te:TE)(tl th:TO):TE:=λY H Q=>te Y H λx H1=>tl Y H1 λl H2=>th Y H2 λu H3=>r x l u H3 Q
theorem ZH(hr:SlR X r)(he:PE X e te)(hl:PO X lo tl)(hu:PO X hi th):PE X (.Subscript e (.Slice lo hi Af p2) pos) (tSl r te tl th):=by
 intro pI s Y H Q I h;refine Subscript_ (thn (he pI s Y H _ I h) λv s1 ⟨x,H1,I1,r1,q1⟩=>?_)
 refine wpAny_Slice (thn (hl pI s1 Y H1 _ I1 q1) λvl s2 ⟨l,H2,I2,pl,q2⟩=>thn (hu pI s2 Y H2 _ I2 q2) λvu s3 ⟨u,H3,I3,pu,q3⟩=>?_)
 rw[evalPart_none];refine AK ?_;have I4:Inv X pI Y H3 { s3 with heap:=s3.heap.push { cls:=.type "slice",data:=.fields #[vl,vu,.none] } }:=I3.kept (t':=s3.toks) λb ob q=>Ar _ q
 obtain⟨T,id,hT,ht,hg⟩:=hr pI { s3 with heap:=s3.heap.push { cls:=.type "slice",data:=.fields #[vl,vu,.none] } } Y H3 x v vl vu l u s3.heap.objs.size Q I4 r1 (Heap.IsSliceOf.new ..) pl pu q3
 show AB (model X.prog X.w) X.A (subscriptTail e (.Slice lo hi Af p2) v (.ref s3.heap.objs.size)) (EP X pI Y Q) X.xe { s3 with heap:=s3.heap.push { cls:=.type "slice",data:=.fields #[vl,vu,.none] } }
 exact tail_any (ops:=[.ref s3.heap.objs.size,v]) ht hT hg (by with_unfolding_all rfl)
noncomputable def Jq(xs:Ac V)(lo hi:Am Ag):Ac V:=(xs.drop (HT.sIx xs.length 0 lo)).take (HT.sIx xs.length xs.length hi-HT.sIx xs.length 0 lo)
theorem P9(xs:Ac V)(lo hi:Am Ag):(Jq xs lo hi).length<=xs.length:=by
 unfold Jq;rw[C9,Ef];omega
def UA(K:Fg):V->Am Ag->Am Ag->Hp->VK->Prop:=λx lo hi H Q=>∃ a xs,x=.ref a/\SqT K H a xs /\
 ¬ (HT.sIx xs.length 0 lo=0/\HT.sIx xs.length xs.length hi=xs.length)/\∀ p,H p=Af->Q (.ref p) (upd H p (.tup (Jq xs lo hi)))
theorem fS:SlR X (UA X.K):=by
 intro pI s Y H x v vl vu lo hi sl Q I rx hs pl pu h;obtain⟨a,xs,rfl,hx,hw,q⟩:=h;cases rx;obtain⟨its,r,ht,hz⟩:=I.tuple hx;have hlen:its.toArray.size=xs.length:=by rw[AH];exact r.length.symm
 refine⟨"tuple",_,PyProof.Rows.slot_tuple_getitem.lookup,ht.typeIs,?_⟩;refine HT.getItem_tuple_cut ht hs pl pu (by rw[hlen];exact hw) ?_ (by rw[hlen];exact hz)
 rw[hlen];refine⟨.ref s.heap.objs.size,_,I.laid (t':=s.toks) (o:=.tup (Jq xs lo hi)) (λb ob q=>Ar _ q) (Aw _) ?_,rfl,q _ (I.hok.fresh (Aw _))⟩
 exact⟨B5 (P9 xs lo hi) hz,_,(r.drop (HT.sIx xs.length 0 lo)).take (HT.sIx xs.length xs.length hi-HT.sIx xs.length 0 lo),KW _ _⟩
def oE(K:Fg):R2:=λx y H Q=>∃ a b xs ys,x=.ref a/\y=.ref b/\SqT K H a xs/\SqT K H b ys/\xs≠[]/\xs.length+ys.length<=sizeLine /\
 (ys=[]->Q (.ref a) H)/\(ys≠[]->∀ p,H p=Af->Q (.ref p) (upd H p (.tup (xs++ys))))
theorem A6.nil_iff(r:A6 xs us):us=[]↔xs=[]:=by
 cases r with
 |nil=>simp
 |cons _ _=>simp
theorem dU:OpR X (BY .Add) (oE X.K):=by
 intro pI s Y H x y v u Q I rx ry h;obtain⟨a,b,xs,ys,rfl,rfl,ha,hb,hx,hz,q1,q2⟩:=h;cases rx;cases ry;obtain⟨its,r1,p1,_⟩:=I.tuple ha;obtain⟨its2,r2,p2,_⟩:=I.tuple hb;refine HT.cat_tup p1 p2 (λz=>hx (r1.nil_iff.mp z)) (λz=>⟨.ref a,H,I,rfl,q1 (r2.nil_iff.mp z)⟩) (λz=>?_) (by rw[<-r1.length,<-r2.length];exact hz)
 refine⟨.ref s.heap.objs.size,_,I.laid (t':=s.toks) (o:=.tup (xs++ys)) (λb ob q=>Ar _ q) (Aw _) ?_,rfl,q2 (λw=>z (r2.nil_iff.mpr w)) _ (I.hok.fresh (Aw _))⟩
 exact⟨by rw[Be];exact hz,_,r1.append r2,KW _ _⟩
end
noncomputable def ixN(n:Ae)(i:Ag):Am Ae:=if 0<=i then (if i<n then Ab i.toNat else Af) else if -(n:Ag)<=i then Ab (i+n).toNat else Af
noncomputable def atI{α:Type}(xs:Ac α)(i:Ag):Am α:=(ixN xs.length i).bind λj=>xs[j]?
theorem cX{j:Ae}(h:ixN n i=Ab j):seqIndex? i n=Ab j/\j<n/\-(n:Ag)<=i/\i<n:=by
 unfold ixN at h;by_cases h0:0<=i
 .rw[Aq h0]at h;by_cases h1:i<n
  .rw[Aq h1]at h;have e:i.toNat=j:=Bh h;exact⟨by rw[seqIndex_of h0 h1,e],by omega,by omega,h1⟩
  .rw[As h1]at h;cases h
 .rw[As h0]at h;by_cases h1:-(n:Ag)<=i
  .rw[Aq h1]at h;have e:(i+n).toNat=j:=Bh h;exact⟨by rw[seqIndex_neg (by omega) h1,e],by omega,h1,by omega⟩
  .rw[As h1]at h;cases h
theorem OC{α:Type}{xs:Ac α}{v:α}(h:atI xs i=Ab v):∃ j,seqIndex? i xs.length=Ab j/\xs[j]?=Ab v/\j<xs.length/\-(xs.length:Ag)<=i/\i<xs.length:=by
 unfold atI at h;cases e:ixN xs.length i with
 |none=>rw[e]at h;cases h
 |some j=>
  rw[e]at h;obtain⟨h1,h2,h3,h4⟩:=cX e;exact⟨j,h1,h,h2,h3,h4⟩
def OF(b:An):Prop:=∀ o i,subscripted b Ad o i=operate [o,i] (Jt o i)
noncomputable def IxR(X:Cx)(r:R2):Prop:=
 ∀(value slice:An)(pI:Pn)(s:Ap)(Y:St)(H:Hp)(x y:V)(v u:Aj)(Q:VK),Inv X pI Y H s->Bx x v->Bx y u->r x y H Q ->
  subscripted slice Ad v u=operate [v,u] (Jt v u)->AB (model X.prog X.w) X.A (subscriptTail value slice v u) (EP X pI Y Q) X.xe s
noncomputable def MtR(X:Cx)(id:CD)(r:V->Ac V->Hp->VK->Prop):Prop:=
 ∀(pI:Pn)(s:Ap)(Y:St)(H:Hp)(x:V)(xs:Ac V)(v:Aj)(us:Ac Aj)(Q:VK),Inv X pI Y H s->Bx x v->A6 xs us->r x xs H Q ->
  AB (model X.prog X.w) X.A (call (.builtin id) (v::us)) (EP X pI Y Q) X.xe s
section
variable{X:Cx}{a b:An}{ta tb:TE}{pos:AR}
theorem IxR.or{r r':R2}(h:IxR X r)(h':IxR X r'):IxR X (λx y H Q=>r x y H Q\/r' x y H Q):=by
 intro value slice pI s Y H x y v u Q I rx ry q hs;rcases q with q|q
 .exact h value slice pI s Y H x y v u Q I rx ry q hs
 .exact h' value slice pI s Y H x y v u Q I rx ry q hs
theorem oO{r:R2}(hr:IxR X r)(ha:PE X a ta)(hb:PE X b tb)(hs:OF b):PE X (.Subscript a b pos) (tOp r ta tb):=by
 intro pI s Y H Q I h;exact Subscript_ (PL ha hb I h λv u s2 x y H2 I2 rx ry q=>hr a b pI s2 Y H2 x y v u Q I2 rx ry q (hs _ _))
def UF(K:Fg):R2:=λx y H Q=>∃ p xs i v,x=.ref p/\y=.int i/\SqL K H p xs/\atI xs i=Ab v/\Q v H
def UD(K:Fg):R2:=λx y H Q=>∃ p xs i v,x=.ref p/\y=.int i/\SqT K H p xs/\atI xs i=Ab v/\Q v H
def UE:R2:=λx y H Q=>∃ z i c,x=.str z/\y=.int i/\z.length<=sizeLine/\atI z.cps.toList i=Ab c/\Q (.str ⟨#[c]⟩) H
theorem cW:IxR X (UF X.K):=by
 intro value slice pI s Y H x y v u Q I rx ry h hs;obtain⟨p,xs,i,z,rfl,rfl,hq,he,q⟩:=h;cases rx;obtain⟨t,rfl⟩:=ry;obtain⟨its,r,pl,hz⟩:=I.list hq;obtain⟨j,h1,h2,h3,h4,h5⟩:=OC he;obtain⟨w,ew,rw'⟩:=r.get h2;have hl:=r.length;have hn:=Kx;have fin:EP X pI Y Q w s:=⟨z,H,I,rw',q⟩;by_cases h0:0<=i
 .have hj:i.toNat=j:=by
   rw[seqIndex_of h0 h5]at h1;exact Bh h1
  exact item_listR pl.isList h0 (by omega) (by rw[hj];simpa using ew) fin hs
 .have hj:(i+(its.toArray.size:Ag)).toNat=j:=by
   rw[seqIndex_neg (by omega) h4]at h1
   rw[AH,<-hl];exact Bh h1
  exact VI (x:=w) pl.isList.typeIs Xe.lookup
   (wpAny_getItem_list_neg (Q:=λr s'=>r=w/\EP X pI Y Q r s') pl.isList (by omega) (by rw[AH]<;>omega) (by omega) (by rw[hj];simpa using ew) ⟨rfl,fin⟩) hs
theorem iX:IxR X (UD X.K):=by
 intro value slice pI s Y H x y v u Q I rx ry h hs;obtain⟨p,xs,i,z,rfl,rfl,hq,he,q⟩:=h;cases rx;obtain⟨t,rfl⟩:=ry;obtain⟨its,r,pl,hz⟩:=I.tuple hq;obtain⟨j,h1,h2,h3,h4,h5⟩:=OC he;obtain⟨w,ew,rw'⟩:=r.get h2;have hl:=r.length;have hn:=Kx;have fin:EP X pI Y Q w s:=⟨z,H,I,rw',q⟩;exact VI (x:=w) pl.typeIs slot_tuple_getitem.lookup
  (getItem_tuple (j:=j) (Q:=λr s'=>r=w/\EP X pI Y Q r s') pl (by omega) (by omega) (by rw[AH,<-hl];exact h1) (by simpa using ew) ⟨rfl,fin⟩) hs
theorem iY:IxR X UE:=by
 intro value slice pI s Y H x y v u Q I rx ry h hs;obtain⟨z,i,c,rfl,rfl,hz,he,q⟩:=h;obtain⟨t,rfl⟩:=rx;obtain⟨t',rfl⟩:=ry;obtain⟨j,h1,h2,h3,h4,h5⟩:=OC he;have hl:z.cps.toList.length=z.length:=by simp[Str.length]
 rw[hl]at h1 h4 h5;have hn:=Kx;exact tail_any (Ix s z t) slot_str_getitem.lookup (getItem_str (c:=c) (by
  have e1:decide (i < -(2 ^ 63:Ag))=Ad:=Bu (by omega)
  have e2:decide (i ≥ 2 ^ 63)=Ad:=Bu (by omega)
  rw[e1,e2,Eu]) (by rw[h1];simpa using h2) ⟨.str ⟨#[c]⟩,H,I.tok _,⟨_,rfl⟩,q⟩) hs
def rIx(K:Fg):R2:=λx y H Q=>UF K x y H Q\/UD K x y H Q\/UE x y H Q
theorem iZ:IxR X (rIx X.K):=cW.or (iX.or iY)
theorem Inv.lst{p:Ak}(I:Inv X pI Y H s)(h:H p=Ab (.lst xs)):
  ∃(its:Ac Aj)(n:Ae),A6 xs its/\s.heap.get? p=Ab { cls:=.type "list",data:=.seq its.toArray n }/\xs.length<=sizeLine:=by
 obtain⟨z,its,n,r,e⟩:=I.hok p _ h;exact⟨its,n,r,e,z⟩
theorem Xu(lo hi:Am Ag)(n:Ae):(EZ lo hi Af n).1=((HT.sIx n 0 lo:Ae):Ag)/\(EZ lo hi Af n).2.1=((HT.sIx n n hi:Ae):Ag)/\(EZ lo hi Af n).2.2=1:=by
 refine⟨?_,?_,rfl⟩
 .cases lo with
  |none=>simp[EZ,HT.sIx]
  |some i=>
   simp only[EZ,HT.sIx,VA,show (1:Ag)>0 by decide,EO]
   by_cases h:i<0
   .simp only[h,EO]<;>omega
   .simp only[h,JV]<;>omega
 .cases hi with
  |none=>simp[EZ,HT.sIx]
  |some i=>
   simp only[EZ,HT.sIx,VA,show (1:Ag)>0 by decide,EO]
   by_cases h:i<0
   .simp only[h,EO]<;>omega
   .simp only[h,JV]<;>omega
theorem Xy(its:Ac Aj)(lo hi:Am Ag):slicePick its.toArray lo hi Af=((its.drop (HT.sIx its.length 0 lo)).take (HT.sIx its.length its.length hi-HT.sIx its.length 0 lo)).toArray:=by
 obtain⟨h1,h2,h3⟩:=Xu lo hi its.toArray.size;unfold slicePick;rw[h1,h2,h3];simp only[sliceRange_one,pick_run,AH]<;>rfl
def UC(K:Fg):V->Am Ag->Am Ag->Hp->VK->Prop:=λx lo hi H Q=>∃ a xs,x=.ref a/\SqL K H a xs/\∀ p,H p=Af->Q (.ref p) (upd H p (.lst (Jq xs lo hi)))
theorem aH:SlR X (UC X.K):=by
 intro pI s Y H x v vl vu lo hi sl Q I rx hs pl pu h;obtain⟨a,xs,rfl,hx,q⟩:=h;cases rx;obtain⟨its,r,ht,hz⟩:=I.list hx;have hlen:=r.length;refine⟨"list",_,Xe.lookup,ht.isList.typeIs,?_⟩;refine wpAny_getItem_list_slice ht.isList hs pl pu .none (by simp) ?_ (by rw[AH]<;>omega)
 rw[Xy,<-hlen];refine⟨.ref s.heap.objs.size,_,I.laid (t':=s.toks) (o:=.lst (Jq xs lo hi)) (λb ob q=>Ar _ q) (Aw _) ?_,rfl,q _ (I.hok.fresh (Aw _))⟩
 exact⟨B5 (P9 xs lo hi) hz,_,0,(r.drop (HT.sIx xs.length 0 lo)).take (HT.sIx xs.length xs.length hi-HT.sIx xs.length 0 lo),AJ _ rfl⟩
theorem XD:OpR X (CC .NotIn) (λx y H Q=>∃ i j,x=.str i/\y=.str j/\Q (.bl (!(!(Builtin.Str.occurrences j i 0 j.length 1).isEmpty))) H):=by
 intro pI s Y H x y v u Q I rx ry h;obtain⟨i,j,rfl,rfl,q⟩:=h;obtain⟨t,rfl⟩:=rx;obtain⟨t',rfl⟩:=ry;exact notIn_str ⟨.bl _,H,I,rfl,q⟩
theorem PV:IH X (.builtin "len") (λxs H Q=>∃ p ys,xs=[.ref p]/\(SqL X.K H p ys\/SqT X.K H p ys)/\Q (.int ys.length) H):=by
 intro pI s Y H xs us Q I r h;obtain⟨p,ys,rfl,hq,q⟩:=h;obtain⟨u,rfl,rx⟩:=Jk r;cases rx;have hn:=Kx;rcases hq with hq|hq
 .obtain⟨its,r',pl,hz⟩:=I.list hq;have hlen:=r'.length;exact Calls.call_len_list pl.isList (by simp only[AH]<;>omega) ⟨.int ys.length,H,I.tok _,⟨s.toks+1,by rw[AH,hlen]⟩,q⟩
 .obtain⟨its,r',pl,hz⟩:=I.tuple hq;have hlen:=r'.length;exact len_tuple pl (by simp only[AH]<;>omega) ⟨.int ys.length,H,I.tok _,⟨s.toks+1,by rw[AH,hlen]⟩,q⟩
theorem XB:IH X (.builtin "len") (λxs H Q=>∃ z,xs=[.str z]/\z.length<=sizeLine/\Q (.int z.length) H):=by
 intro pI s Y H xs us Q I r h;obtain⟨z,rfl,hz,q⟩:=h;obtain⟨u,rfl,t,rfl⟩:=Jk r;have hn:=Kx;exact len_str (by omega) ⟨.int z.length,H,I.tok _,⟨_,rfl⟩,q⟩
theorem PU:IH X (.type "list") (λxs H Q=>∃ p ys,xs=[.ref p]/\(SqL X.K H p ys\/SqT X.K H p ys)/\∀ l,H l=Af->Q (.ref l) (upd H l (.lst ys))):=by
 intro pI s Y H xs us Q I r h;obtain⟨p,ys,rfl,hq,q⟩:=h;obtain⟨u,rfl,rx⟩:=Jk r;cases rx;have fin:∀(its:Ac Aj),A6 ys its->ys.length<=sizeLine->∀(h':AD)(c':Ae),(∀ b o',s.heap.get? b=Ab o'->h'.get? b=Ab o') ->
   h'.get? s.heap.objs.size=Ab { cls:=.type "list",dict:=Af,data:=.seq its.toArray c',slots:=#[] }->EP X pI Y Q (.ref s.heap.objs.size) {s with heap:=h'}:=λits r' hz h' c' kp e=>
  ⟨.ref s.heap.objs.size,_,I.laid (t':=s.toks) kp (Aw _) (show ObjOk X.prog X.w _ h' _ (.lst ys) from ⟨hz,its,c',r',e⟩),rfl,q _ (I.hok.fresh (Aw _))⟩
 rcases hq with hq|hq
 .obtain⟨its,r',pl,hz⟩:=I.list hq;have hlen:=r'.length;obtain⟨o,ho,hc,n,hd⟩:=pl.isList;exact call_list_seq p (.inl rfl) ho hc hd (λh' c' kp e=>fin its r' hz h' c' kp e) (by simp only[AH]<;>omega)
 .obtain⟨its,r',pl,hz⟩:=I.tuple hq;have hlen:=r'.length;obtain⟨o,ho,hc,n,hd⟩:=pl;exact call_list_seq p (.inr rfl) ho hc hd (λh' c' kp e=>fin its r' hz h' c' kp e) (by simp only[AH]<;>omega)
theorem PX:IH X (.type "tuple") (λxs H Q=>∃ p ys,xs=[.ref p]/\((SqL X.K H p ys/\∀ l,H l=Af->Q (.ref l) (upd H l (.tup ys)))\/(SqT X.K H p ys/\Q (.ref p) H))):=by
 intro pI s Y H xs us Q I r h;obtain⟨p,ys,rfl,h⟩:=h;obtain⟨u,rfl,rx⟩:=Jk r;cases rx;rcases h with ⟨hq,q⟩|⟨hq,q⟩
 .obtain⟨its,r',pl,hz⟩:=I.list hq;have hlen:=r'.length;refine call_tuple_list pl.isList (λh' kp=>?_) (by simp only[AH]<;>omega)
  have I1:Inv X pI Y H {s with heap:=h'}:=I.kept (t':=s.toks) kp
  have I2:Inv X pI Y (upd H h'.objs.size (.tup ys)) { s with heap:=h'.push { cls:=.type "tuple",data:=.seq its.toArray } }:=
   I1.laid (t':=s.toks) (λb o e=>Ar _ e) (Aw _) (show ObjOk X.prog X.w _ _ _ (.tup ys) from ⟨hz,its,r',KW _ _⟩)
  exact⟨.ref h'.objs.size,_,I2,rfl,q _ (I1.hok.fresh (Aw _))⟩
 .obtain⟨its,r',pl,hz⟩:=I.tuple hq;exact call_tuple_same pl ⟨.ref p,H,I,rfl,q⟩
def tyV(K:Fg)(T:CD)(x:V)(H:Hp):Prop:=match x with
  |.str _=>T = "str"
  |.int _=>T = "int"
  |.ref p=>(T = "list"/\∃ xs,SqL K H p xs)\/(T = "tuple"/\∃ o,K.lookup p=Ab o/\o.cls=.type "tuple"/\o.dict=Af) \/
      (T = "dict"/\((∃ kvs,H p=Ab (.dK kvs))\/∃ kvs,H p=Ab (.dT kvs)))\/(T = "set"/\∃ S n,H p=Ab (.set S n))
  |_=>A5
theorem eE{T:CD}{x:V}{v:Aj}(I:Inv X pI Y H s)(r:Bx x v)(ty:tyV X.K T x H):s.TypeIs v T/\∀ a,v=.ref a->∃ ob,s.heap.get? a=Ab ob/\ob.dict=Af:=by
 cases x with
 |str z=>
  obtain⟨t,rfl⟩:=r;cases (show T = "str" from ty)
  exact⟨Ix s z t,λ_ e=>nomatch e⟩
 |int i=>
  obtain⟨t,rfl⟩:=r;cases (show T = "int" from ty)
  exact⟨typeIs_int s i t,λ_ e=>nomatch e⟩
 |ref p=>
  cases r;rcases ty with ⟨rfl,xs,hq⟩|⟨rfl,o,hk,hc,hd⟩|⟨rfl,hk⟩|⟨rfl,S,n,hk⟩
  .obtain⟨its,_,pl,_⟩:=I.list hq;refine⟨pl.isList.typeIs,λa e=>?_⟩
   cases e;obtain⟨o,n,e,c,hd,_⟩:=pl;exact⟨o,e,hd⟩
  .refine⟨⟨o,I.kIn p o hk,hc⟩,λa e=>?_⟩
   cases e;exact⟨o,I.kIn _ o hk,hd⟩
  .have z:∃ o,s.heap.get? p=Ab o/\o.ExactDict:=by
    rcases hk with ⟨kvs,hk⟩|⟨kvs,hk⟩
    .obtain⟨_,_,_,_,o,_,_,e,ex,_⟩:=I.hok p _ hk;exact⟨o,e,ex⟩
    .obtain⟨_,_,_,_,o,_,_,e,ex,_⟩:=I.hok p _ hk;exact⟨o,e,ex⟩
   obtain⟨o,e,ex⟩:=z;refine⟨⟨o,e,ex.1⟩,λa e2=>?_⟩
   cases e2;exact⟨o,e,ex.2.1⟩
  .obtain⟨o,_,_,_,e,ex,_⟩:=I.hok p _ hk;refine⟨⟨o,e,ex.1⟩,λa e2=>?_⟩
   cases e2;exact⟨o,e,ex.2.1⟩
 |_=>exact Bs ty
def tBM(K:Fg)(T:CD)(r:V->Ac V->Hp->VK->Prop)(to:TE)(t:TA):TE:=λY H Q=>to Y H λx H1=>tyV K T x H1/\t Y H1 λxs H2=>r x xs H2 Q
variable{o e:An}{es:Ac An}{to:TE}{t:TA}{name:Ah}{apos cpos:AR}{T id:CD}{r:V->Ac V->Hp->VK->Prop}
theorem M0(pa:PlainAttrs T)(slot:Slot T name id)(hty:typeOf (.builtin id)=pure (.type "method_descriptor"))(hm:MtR X id r)(ho:PE X o to)(ha:PA X (e::es) t)(hbase:Ew o name X.env (eval o X.env)=eval o X.env:=by rfl)(hfew:((BR cpos (Ay (e::es) X.env)).all (λx=>!x.1)&&(Ip cpos (GM [] X.env)).all (λx=>x.1.isSome)
   && decide ((e::es).length+([]:Ac Ee).length+(if ([]:Ac Ee).isEmpty then 0 else 1)<30))=Aa:=by rfl)(hline:(apos.endLine==cpos.line)=Aa:=by rfl)(hs:Ay (e::es) X.env=(Ad,eval e X.env)::Ay es X.env:=by rfl)(hplain:(BR cpos (Ay es X.env)).any (·.1)=Ad:=by rfl):PE X (.Call (.Attribute o name apos) (e::es) [] cpos) (tBM X.K T r to t):=by
 intro pI s Y H Q I h;refine wpAny_Call_method_late hbase hfew hline rfl (thn (ho pI s Y H _ I h) λv s1 ⟨x,H1,I1,r1,ty,q1⟩=>?_)
 obtain⟨h1,h2⟩:=eE I1 r1 ty;refine⟨T,id,pa,slot,hty,h1,h2,?_⟩;have hA:=ha cpos pI s1 Y H1 _ I1 q1;rw[hs]at hA ⊢;refine Calls.callWith_builtin (by show (Ad||(BR cpos (Ay es X.env)).any (·.1))=Ad;rw[hplain]<;>rfl) (VR ?_)
 exact thn hA λus s2 ⟨vs,H2,I2,r2,q2⟩=>hm pI s2 Y H2 x vs v us Q I2 r1 r2 q2
/- xs.append(e),list.index on a module's tuple .. are MtR facts of 06m -/
end
noncomputable def MtM(X:Cx)(id:CD)(r:V->Ac V->Hp->VK->Prop):Prop:=
 ∀(pI:Pn)(s:Ap)(Y:St)(H:Hp)(x:V)(xs:Ac V)(v:Aj)(us:Ac Aj)(Q:VK),Inv X pI Y H s->Bx x v->A6 xs us->r x xs H Q ->
  AB (model X.prog X.w) X.A (call (.builtin id) (v::us)) (EP X pI Y Q) X.xe s
theorem A6.one:∀{x:V}{us:Ac Aj},A6 [x] us->∃ u,us=[u]/\Bx x u
 |_,_,.cons r .nil=>⟨_,rfl,r⟩
theorem A6.zero:∀{us:Ac Aj},A6 [] us->us=[]
 |_,.nil=>rfl
theorem A6.eraseIdx:∀{xs:Ac V}{us:Ac Aj}(i:Ae),A6 xs us->A6 (xs.eraseIdx i) (us.eraseIdx i)
 |_,_,_,.nil=>.nil
 |_,_,0,.cons _ t=>t
 |_,_,i+1,.cons r t=>.cons r (A6.eraseIdx i t)
theorem A6.reverse(h:A6 xs us):A6 xs.reverse us.reverse:=by
 induction h with
 |nil=>exact .nil
 |cons r t ih=>rw[Vo,Vo];exact A6.append ih (.cons r .nil)
section
variable{X:Cx}{pI:Pn}{Y:St}{H:Hp}{s:Ap}{l b:Ak}{xs ys zs:Ac V}
theorem Inv.lset{its':Ac Aj}{f:Ax Aj->Ax Aj}(I:Inv X pI Y H s)(hH:H l=Ab (.lst xs))(e:s.heap.get? l=Ab { cls:=.type "list",data:=.seq its.toArray n })(hf:f its.toArray=its'.toArray)(hv:A6 ys its')(hz:ys.length<=sizeLine):Inv X pI Y (upd H l (.lst ys)) {s with heap:=s.heap.update l (C6 f),toks:=t'}:=by
 have q:=PySem.IsL.update e f;rw[hf]at q;refine I.write (x:=l) (e:=l) (by rw[hH];exact trivial) (.inl rfl) (λb' u hb hu=>(C4 s.heap (C6 f) (Ed hb)).trans hu) ⟨_,q⟩ ?_
 exact⟨hz,its',_,hv,q⟩
theorem Inv.lnew(I:Inv X pI Y H s)(hv:A6 ys its)(hz:ys.length<=sizeLine):
  Inv X pI Y (upd H s.heap.objs.size (.lst ys)) { s with heap:=s.heap.push { cls:=.type "list",data:=.seq its.toArray },toks:=t' }:=
 I.laid (λ_ _ q=>Ar _ q) (Aw _) ⟨hz,its,0,hv,AJ _ rfl⟩
theorem Inv.fresh(I:Inv X pI Y H s):H s.heap.objs.size=Af:=I.hok.fresh (Aw _)
theorem Inv.lstM(I:Inv X pI Y H s)(hH:H l=Ab (.lst xs)):xs.length<=sizeLine/\∃(its:Ac Aj)(n:Ae),A6 xs its/\xs.length=its.length/\s.heap.get? l=Ab { cls:=.type "list",data:=.seq its.toArray n }:=by
 obtain⟨z,its,n,r,e⟩:=I.hok l _ hH;exact⟨z,its,n,r,r.length,e⟩
theorem Ri(h:n<=sizeLine):Dm n=Ad:=by
 unfold Dm;exact Bu (by omega)
end
section
variable{X:Cx}
def Z_4:V->Ac V->Hp->VK->Prop:=λx vs H Q=>∃ l xs y,x=.ref l/\vs=[y]/\H l=Ab (.lst xs)/\xs.length<sizeLine/\Q .non (upd H l (.lst (xs++[y])))
theorem Yu:MtM X "list.append" Z_4:=by
 intro pI s Y H x vs v us Q I rx rv h;obtain⟨l,xs,y,rfl,rfl,hH,hz,q⟩:=h;cases rx;obtain⟨u,rfl,ru⟩:=rv.one;obtain⟨z,its,n,r,hl,e⟩:=I.lstM hH;refine Iw F.slot_list_append ⟨_,e,rfl⟩ F.entry_list_append (F.args_list_append_2 _ _) (PySem.list_append l its.toArray n u (by rw[AH];omega)) ⟨e,?_⟩
 refine⟨.non,_,I.lset (its':=its++[u]) hH e (by simp) (r.append (.cons ru .nil)) ?_,rfl,q⟩
 rw[Be,EJ];omega
def Z_2:V->Ac V->Hp->VK->Prop:=λx vs H Q=>∃ l b xs zs,x=.ref l/\vs=[.ref b]/\H l=Ab (.lst xs)/\H b=Ab (.lst zs)/\xs.length+zs.length<=sizeLine/\Q .non (upd H l (.lst (xs++zs)))
theorem Yt:MtM X "list.extend" Z_2:=by
 intro pI s Y H x vs v us Q I rx rv h;obtain⟨l,b,xs,zs,rfl,rfl,hH,hB,hz,q⟩:=h;cases rx;obtain⟨u,rfl,ru⟩:=rv.one;cases ru;obtain⟨z,its,n,r,hl,e⟩:=I.lstM hH;obtain⟨z2,its2,n2,r2,hl2,e2⟩:=I.lstM hB;have hsz:its.toArray.size+its2.toArray.size<=sizeLine:=by rw[AH,AH];omega
 have hlong:¬ (!its.toArray.isEmpty&&Dm (its.toArray.size+its2.toArray.size))=Aa:=by
  rw[Ri hsz,Fk];exact Az
 refine Iw EK ⟨_,e,rfl⟩ Wr (Wl _ _)
  (AutoSeq1.list_extend_list_list_0 l its.toArray n b its2.toArray n2 hlong (by rw[AH];omega) (by omega)) ⟨e,e2,?_⟩
 refine⟨.non,_,I.lset (its':=its++its2) hH e (by simp) (r.append r2) ?_,rfl,q⟩
 rw[Be];omega
end
section
variable{prog:AM}{w:AY}{A:AT}{E:Vq}{s:Ap}
set_option maxRecDepth 100000 in
end
section
variable{X:Cx}
end
end L2
namespace Att
open PySem PySem.W PySem.Calls PyProof.Rows
variable{P:K4}{h:AD}{l:FM}{n:Ae}
theorem Xp:∀(ns:Ac Ag)(vs:Ac Aj),WellAll P h vs (ns.map WV)->Ev vs ns:=by
 intro ns
 induction ns with
 |nil=>
  intro vs w;rw[Vh]at w;cases w;exact .nil
 |cons n ns ih=>
  intro vs w;rw[BP]at w;cases w with
  |cons a b=>
   cases a;exact .cons _ _ (ih _ b)
theorem YB(hn:l.most=Ab n){args:Ac WData}{vals:Ac Aj}(hpre:l.row.toRowW.claim.pre args=Aa)(hwl:WellAll P h vals args):
  ∃ a vs ns,vals=[De a]/\args=[WData.list (ns.map WV)]/\h.get? a=Ab { cls:=.type "list",data:=.seq vs.toArray }/\Ev vs ns/\ns.length<=n:=by
 have hsh:WShape.hasAll [] args [.list .int]=Aa:=(pre_splitW hpre).1;have hc:l.pre.holds [] {args:=args}=Aa:=(pre_splitW hpre).2;obtain⟨d,r,rfl,h1,h2⟩:=hasAllW_cons hsh;obtain rfl:=hasAllW_nil h2;obtain⟨xs,rfl,h3⟩:=hasW_list h1;obtain⟨ns,rfl⟩:=items_int h3;have hlen:ns.length<=n:=by
  unfold OpenLaw.pre at hc;have h4:(WTm.not (.lt (.lit (.int (n:Ag))) (.len (.arg 0)))).holds [] {args:=[.list (ns.map .int)]}=Aa:=by
   have h4:=(holds_andW hc).1;rw[hn]at h4;exact h4
  have h5:=condW_of h4 (w_not (w_lt w_lit (w_len_list (w_arg rfl))));rw[AX]at h5;refine Nat.le_of_not_lt λq=>?_
  have q':(n:Ag)<((ns.length:Ae):Ag):=by omega
  first
   |(rw[DH q']at h5;exact absurd h5 (by decide))
   |(simp at h5;omega)
 cases hwl with
 |cons w1 w2=>
  cases w2;cases w1 with
  |list ho hall=>exact⟨_,_,ns,rfl,rfl,ho,Xp ns _ hall,hlen⟩
theorem YF(l:FM)(args:Ac WData):l.row.toRowW.claim.post args (.bool Aa) args=Aa:=
 postW_of (r:=l.row.toRowW) (X:=(Aa==Aa))
  (show WW [] (.bool Aa) .bool=Aa by first|rfl|decide|simp[WW,WShape.arms,WShape.armsAll])
  (show (WTm.eq .res (.lit (.bool Aa))).value [] {args:=args,res:=Ab (.bool Aa),after:=args}=Ab (.bool (Aa==Aa)) from w_eq_bool (w_res rfl) w_lit) rfl
theorem attach_call{q:AM}{loose:Ac Ah}{XP:(Ah->Am Aj)->AD->Prop}{YP:AY->AD->Prop}{d:DefRec}(hn:l.most=Ab n)(hdf:d.params.defaults=[])(call:∀(w:AY)(s₀ s₁:Ap)(mg mb:Ah->Am Aj)(fa:Ak)(o:DE)(pm cd doc:Aj)(a:Ak)(vs:Ac Aj)(ns:Ac Ag),
   Ground q loose [] XP w s₀ mg mb s₁.heap->YP w s₁.heap ->
   s₁.heap.get? fa=Ab o->o.data=.func (docDef d.name d.params d.body d.scope pm cd doc)->s₁.heap.CodeRec cd d.name->mg d.name=Ab (.ref fa) ->
   s₁.heap.get? a=Ab { cls:=.type "list",data:=.seq vs.toArray }->Ev vs ns->ns.length<=n->s₁.gens=#[] ->
   F9 (model l.prog w) Hb (.call (.ref fa) ⟨[.ref a],[]⟩) (λr s'=>r=.ok (.ret (.bool Aa))/\OldK s₁.heap s'.heap/\s'.os=s₁.os/\Fl s'.gens) s₁):WalkO q loose XP YP l.row.toRowW d [] (λf vs=>J4 f vs):=by
 intro w s₀ s₁ mg mb G Y_ fa o pm cd doc dV kV ho hd hcd hD hmg hg args vals as hpre hlay hrd hwl hlo;obtain rfl:dV=.none:=Dflts.none hD hdf;obtain rfl:kV=.none:=Dflts.noKw hD;obtain⟨a,vs,ns,rfl,rfl,hobj,hints,hlen⟩:=YB hn hpre hwl;refine enter_call (Hq (call w s₀ s₁ mg mb fa o pm cd doc a vs ns G Y_ ho (fd_plain hd) hcd hmg hobj hints hlen hg) λr s' hq=>?_)
 obtain⟨rfl,h2,h3,h4⟩:=hq;exact⟨.inl ⟨.bool Aa,.bool Aa,[],rfl,λ_=>rfl,.bool Aa,YF l _,λ_=>⟨List.Pairwise.nil,λ_ hm=>(nomatch hm)⟩⟩,h2,h3,h4⟩
section
variable{prog:AM}{w:AY}{A:AT}{E:Vq}{s:Ap}{K:Frag}
end
end Att
namespace L2
open PySem PySem.Spec PyProof.Rows
variable{k:Ae}{x:Ah}
theorem Qn:∀{vs:Ac Aj}{ns:Ac Ag},Ev vs ns->A6 (ns.map V.int) vs
 |_,_,.nil=>.nil
 |_,_,.cons n t h=>.cons ⟨t,rfl⟩ (Qn h)
def PP(H:Hp):Prop:=∀ b,H b=Af\/∃ o xs,H b=Ab (.frz o (.lst xs))
theorem Zt{P:AM}{w:AY}{K:Fg}{mg mb:Ah->Am Aj}{CX:CXT}{fa a:Ak}{fd:BQ}{sp:Sp}{s₁:Ap}{vs:Ac Aj}{ns:Ac Ag}(KX:K.In s₁.heap)(hns:s₁.heap.Ns Bc mg)(hb:s₁.heap.Ns Iu mb)(hbb:∀ x:Ah,x≠"__name__"->mb x=CB x)(hlim:s₁.heap.NoLimit)(hg:s₁.gens=#[])(ha:s₁.heap.get? a=Ab { cls:=.type "list",data:=.seq vs.toArray })(hi:Ev vs ns)(hl:ns.length<=sizeLine)(hr:Room k Hb)(F:∀ base:AD,K.In base->base.Ns Bc mg->FnOk P w K mg base CX k fa fd [x] sp)(hbind:∀(s:Ap)(u:Aj),GD s fd ⟨[u],[]⟩ [(x,u)])(hsp:∀ H:Hp,PP H->SqL K H a (ns.map V.int)->sp [.ref a] H (λv _=>v=.bl Aa) λ_ _ _=>A5)(hCX:∀ H e s',CX [] H s₁ (λ_ _ _=>A5) e s'->A5):F9 (model P w) Hb (.call (.ref fa) ⟨[.ref a],[]⟩) (λr s'=>r=.ok (.ret (.bool Aa))/\OldK s₁.heap s'.heap/\s'.os=s₁.os/\Fl s'.gens) s₁:=by
 have rv:=Qn hi;have lenV:=hi.length
 -- from an abstract heap in which nothing but the script may be tracked
 have core:∀ H:Hp,PP H->SqL K H a (ns.map V.int)->HOk P w H s₁.heap->(∀ b,H b≠Af->b=a)->(H a≠Af->K.lookup a=Af) ->
   F9 (model P w) Hb (.call (.ref fa) ⟨[.ref a],[]⟩) (λr s'=>r=.ok (.ret (.bool Aa))/\OldK s₁.heap s'.heap/\s'.os=s₁.os/\Fl s'.gens) s₁:=by
  intro H hO hS hok hA hK;have base_of:∀{b:Ak}{o:DE},s₁.heap.get? b=Ab o->H b=Af->(IQ s₁.heap H).get? b=Ab o:=λe n=>Zx e n
  have noA:∀{b:Ak}{o:DE}{es:Ax DictEntry}{ep:Ae},s₁.heap.get? b=Ab o->o.data=.dict es ep->H b=Af:=λ{b o es ep} e d=>by
   cases q:H b with
   |none=>rfl
   |some u=>
    have e':b=a:=hA b (by rw[q];simp)
    subst e';rw[ha]at e;cases e;have d':KZ vs.toArray _=Data.dict es ep:=d;cases d'
  have nsK:∀{b:Ak}{m:Ah->Am Aj},s₁.heap.Ns b m->(IQ s₁.heap H).Ns b m:=λ{b m} ⟨o,es,ep,e,d,r⟩=>⟨o,es,ep,base_of e (noA e d),d,r⟩
  have hKb:K.In (IQ s₁.heap H):=λb o e=>base_of (KX b o e) (by
   cases q:H b with
   |none=>rfl
   |some u=>
    have e':b=a:=hA b (by rw[q];simp)
    subst e';rw[hK (by rw[q];simp)]at e;cases e)
  have hM:Mod K mg (IQ s₁.heap H):=⟨hKb,nsK hns,⟨mb,nsK hb,hbb⟩,let ⟨mc,h1,h2⟩:=hlim;⟨mc,nsK h1,h2⟩⟩
  have e0:Env0 P w K mg (IQ s₁.heap H) Hb [] s₁ H:=⟨rfl,hM,λb o e=>cL e,Vt (Yn _ _),trivial,λb hb=>absurd (show b∈([]:Ac Ak) from hb) (by simp),hok,.of_eq hg⟩
  refine Hq ((F _ hKb (nsK hns)).run Hb [] s₁ H ⟨[.ref a],[]⟩ [.ref a] [.ref a] _ _ hr e0 (hbind s₁ (.ref a)) (.cons rfl .nil) (hsp H hO hS)) λr s' h=>?_
  cases r with
  |error e=>exact(hCX H e s' h).elim
  |ok fl=>
   cases fl with
   |next=>exact Bs h
   |brk=>exact Bs h
   |cont=>exact Bs h
   |ret u=>
    obtain⟨v,H',os,bare,un,hok',r',q⟩:=h;have q':v=.bl Aa:=q;subst q';obtain rfl:u=J3 Aa:=r';refine⟨rfl,OldK.of_keep λb o e=>?_,os,bare⟩
    cases q:H b with
    |none=>exact un.keep b o e q (by intro z;exact absurd (show b∈([]:Ac Ak) from z) (by simp)) (by simp)
    |some u=>
     rcases hO b with z|⟨ob,xs,z⟩
     .rw[q]at z;cases z
     .have z2:=un.frzs b ob _ z;obtain⟨e1,_⟩:=hok b _ z;obtain⟨e2,_⟩:=hok' b _ z2;rw[e]at e1;cases e1;exact e2
 cases hk:K.lookup a with
 |some o=>
  -- the script is one of the module's own objects
  have e:=KX a o hk;rw[ha]at e;cases e;refine core (λ_=>Af) (λ_=>.inl rfl) (.inr ⟨_,vs.toArray,_,hk,rfl,rfl,rfl,by rw[AH,lenV];exact hl,by simpa using rv⟩) (λb u z=>by have z':(Af:Am HO)=Ab u:=z;cases z') (λb z=>absurd rfl z) λz=>absurd rfl z
 |none=>
  refine core (λb=>if b=a then Ab (.frz { cls:=.type "list",data:=.seq vs.toArray } (.lst (ns.map V.int))) else Af) (λb=>?_) (.inl (.inr ⟨{ cls:=.type "list",data:=.seq vs.toArray },Aq rfl⟩)) (λb u z=>?_) (λb z=>?_) λ_=>hk
  .by_cases hb:b=a
   .exact .inr ⟨_,_,Aq hb⟩
   .exact .inl (As hb)
  .by_cases hb:b=a
   .have z':=(Aq hb).symm.trans z;cases z';subst hb;exact⟨ha,by rw[AX];exact hl,vs,_,rv,ha⟩
   .have z':=(As hb).symm.trans z;cases z'
  .by_cases hb:b=a
   .exact hb
   .exact absurd (As hb) z
noncomputable abbrev KOf{K:Fg}{h:AD}(_:K.In h):Fg:=K
theorem walk_of{l:FM}{n:Ae}{q:AM}{loose:Ac Ah}{XP:(Ah->Am Aj)->AD->Prop}{YP:AY->AD->Prop}{d:DefRec}{K:K4->Fg}{CX:AY->CXT}{sp:AY->Sp}(hn:l.most=Ab n)(hn2:n<=sizeLine)(hdf:d.params.defaults=[])(hr:Room k Hb)(hY:∀(w:AY)(h:AD),YP w h->(K w.params).In h)(F:∀(w:AY)(mg:Ah->Am Aj)(fa:Ak)(h:AD),(K w.params).In h->h.Ns Bc mg->mg d.name=Ab (.ref fa) ->
   ∃ fd:BQ,(∀(s:Ap)(u:Aj),GD s fd ⟨[u],[]⟩ [(x,u)]) /\
    ∀ base:AD,(K w.params).In base->base.Ns Bc mg->FnOk l.prog w (K w.params) mg base (CX w) k fa fd [x] (sp w))(hsp:∀(w:AY)(H:Hp)(a:Ak)(ns:Ac Ag),ns.length<=n->PP H->SqL (K w.params) H a (ns.map V.int)->sp w [.ref a] H (λv _=>v=.bl Aa) λ_ _ _=>A5)(hCX:∀(w:AY)(H:Hp)(s:Ap)(e:Aj)(s':Ap),CX w [] H s (λ_ _ _=>A5) e s'->A5):WX q loose XP YP l.row.toRowW d [] (λf vs=>J4 f vs):=by
 refine Att.attach_call hn hdf λw s₀ s₁ mg mb fa o pm cd doc a vs ns G Y_ ho hd hcd hmg hobj hints hlen hg=>?_
 have KX:=hY w _ Y_;obtain⟨fd,hb,hF⟩:=F w mg fa _ KX G.T.g hmg;exact Zt KX G.T.g G.T.b G.T.builtins G.T.nolimit hg hobj hints (B5 hlen hn2) hr hF hb (λH hO hS=>hsp w H a ns hlen hO hS) λH e s'=>hCX w H s₁ e s'
end L2
/- THE LAST THEOREM (shape;LID,My.* are yours):
   My.Adr:a structure of the addresses that your layer names (classes,functions);My.Txt K t:a structure (Prop) of the equations over K;
   My.txt_mk:{K} {implicit addresses ..} (e1:nsIn K Bc "law" = Ab (Ab (.ref f))) (e2:K.lookup f=Ab ⟨oc,od,.func (fnOf "law" "law" params body scope dV kV doc pm an cdv ct),sl⟩) (e3:codeIn K cdv "law" = Aa) ..:∃ t,My.Txt K t
set_option maxRecDepth 100000 in
set_option maxHeartbeats 0 in
theorem PySem.Challenge.cw_LID_holds:PySem.Challenge.rw_LID.Holds:=by
 w_on;o_law;k_head;(case hw=>w_witness2)
 k_fill
 refine L2.walk_of (l:=PySem.Challenge.rw_LID) (n:=63) (k:=40) (x := "script") (CX:=λw=>..) (sp:=λ_=>My.sp_law) rfl (by decide) rfl ⟨rfl,by decide,by decide⟩ (λw h Y_=>W2 Y_) ?F ?S ?C
 case F=>
  intro w mg fa h KX G hmg;have T:∃ t,My.Txt (L2.KOf KX) t:=by
   dsimp only[L2.KOf]                          -- K must stand as «<heap const> w.params» for k_is
   refine' My.txt_mk ?e1 ?e2 ?e3 ..
   (case e1=>PySem.W.k_is)                    -- in the order: a name -> its address -> its object -> its parts
   (case e2=>PySem.W.k_is)
   ..
  obtain⟨t,T⟩:=T;have e0:=hmg.symm.trans (Dx KX G T.law);cases e0                                       -- fa is the law's own address
  exact⟨_,fun s u=>.of_eq rfl,fun base kb nb=>My.law_fn T kb nb⟩     -- if «.of_eq rfl» comes too early: refine' ⟨_,?b,fun base kb nb=>My.law_fn T kb nb⟩;exact fun s u=>.of_eq rfl
 case S=>exact λw H a ns hl hO hS=>..
 case C=>exact ..
(the tactic k_is has no namespace:write k_is) -/
namespace L2
open PySem PySem.Spec PyProof.Rows
noncomputable def JL(s:AZ):Arguments:=match s with
  |.FunctionDef _ a _ _ _ _ _ _ _ _=>a
  |_=>{posonlyargs:=[],args:=[],vararg:=Af,kwonlyargs:=[],kw_defaults:=[],kwarg:=Af,defaults:=[]}
noncomputable def HP(s:AZ):Ac AZ:=match s with
  |.FunctionDef _ _ b _ _ _ _ _ _ _=>b
  |_=>[]
noncomputable def Gk(s:AZ):BX:=match s with
  |.FunctionDef _ _ _ _ _ _ sc _ _ _=>sc
  |_=>{kind:=.function,names:=[],isGenerator:=Ad,isCoroutine:=Ad}
noncomputable abbrev CX0:CXT:=λ_ _ _ _ _ _=>A5
noncomputable abbrev E0:XK:=λ_ _ _=>A5
structure Fun (K:Fg) (x qual:Ah) (st:AZ) (f:Ak) (fd:BQ):Prop where
 ex:∃(oc:Aj)(od:Am Ak)(kV doc pm:Aj)(an:Am Ak)(cdv ct:Aj)(osl:Ax (Am Aj)),
  fd=DP x qual (JL st) (HP st) (Gk st) .none kV doc pm an cdv ct/\K.lookup f=Ab ⟨oc,od,.func fd,osl⟩/\Fo K cdv qual=Aa
 kp:Co K (.ref f)=Aa
section
variable{P:AM}{w:AY}{K:Fg}{mg:Ah->Am Aj}{base:AD}
theorem Fun.ok{x qual:Ah}{st:AZ}{f:Ak}{fd:BQ}{N ps:Ac Ah}{k:Ae}{sp:Sp}(F:Fun K x qual st f fd)(S:FnScope N ps (Gk st))(len:∀ vs H Q E,sp vs H Q E->vs.length=ps.length)(hbody:∀(cdv:Aj)(A:AT)(outer:Ac Cr)(s:Ap)(H:Hp)(vs:Ac V)(Q:VK)(E:XK),Room k (A.deeper (EW qual (Gk st) s.heap.objs.size f cdv))->sp vs H Q E ->
   ∃ t,PSs (GJ CX0 P w K mg base N qual (Gk st) f cdv A outer s H E).nox (HP st) t/\t {nx:=λ_ H'=>Q .non H',rt:=Q} (start N vs) H):FnOk P w K mg base CX0 (k+1) f fd ps sp:=by
 obtain⟨oc,od,kV,doc,pm,an,cdv,ct,osl,rfl,lk,hcd⟩:=F.ex;refine Ue lk hcd S len λA outer s H vs Q E hr hsp=>?_
 obtain⟨t,h,q⟩:=hbody cdv A outer s H vs Q E hr hsp;exact⟨t,h.nox,q⟩
theorem Fun.binds{x qual:Ah}{st:AZ}{f:Ak}{fd:BQ}{ps:Ac Ah}(F:Fun K x qual st f fd)(h:∀(kV doc pm:Aj)(an:Am Ak)(cdv ct:Aj)(us:Ac Aj),us.length=ps.length->K7 (DP x qual (JL st) (HP st) (Gk st) .none kV doc pm an cdv ct) ⟨us,[]⟩=pure (ps.zip us)):G1 K fd ps []:=by
 obtain⟨oc,od,kV,doc,pm,an,cdv,ct,osl,rfl,lk,hcd⟩:=F.ex;exact .all (h kV doc pm an cdv ct)
theorem kQ{x qual:Ah}{st:AZ}{f:Ak}{oc:Aj}{od an:Am Ak}{osl:Ax (Am Aj)}{kV doc pm cdv ct:Aj}(l:K.lookup f=Ab ⟨oc,od,.func (DP x qual (JL st) (HP st) (Gk st) .none kV doc pm an cdv ct),osl⟩)(c:Fo K cdv qual=Aa)(k:Co K (.ref f)=Aa):Fun K x qual st f (DP x qual (JL st) (HP st) (Gk st) .none kV doc pm an cdv ct):=⟨⟨oc,od,kV,doc,pm,an,cdv,ct,osl,rfl,l,c⟩,k⟩
end
section
variable{X:Cx}
end
def AG(H H':Hp):Prop:=∀ b o,H b=Ab o->H' b=Ab o
theorem AG.refl(H:Hp):AG H H:=λ_ _ h=>h
theorem AG.trans{H H1 H2:Hp}(a:AG H H1)(b:AG H1 H2):AG H H2:=λc o h=>b c o (a c o h)
theorem AG.free{H H':Hp}(e:AG H H'){l:Ak}(h:H' l=Af):H l=Af:=by
 cases q:H l with
 |none=>rfl
 |some o=>
  rw[e l o q]at h;cases h
end L2
section
namespace Ov
open PySem
variable{α β:Type}
inductive D where
 |non|bl (b:Ai)|int (i:Ag)|str (x:Ah)|tup (ds:Ac D)|lst (ds:Ac D)
 |obj (c:Ae) (fs:Ac (Ah×D))|exc (c:Ae) (fs:Ac (Ah×D))|dic (kvs:Ac (Ac Ag×D))
 deriving Inhabited
structure Ex where
 c:Ae
 fs:Ac (Ah×D)
 deriving Inhabited
inductive R (α:Type) where
 |ok (a:α)|exn (x:Ex)|bad
 deriving Inhabited
noncomputable def R.bind{α β:Type}(r:R α)(f:α->R β):R β:=match r with
  |.ok a=>f a
  |.exn x=>.exn x
  |.bad=>.bad
@[simp]theorem R.bind_ok(a:α)(f:α->R β):(R.ok a).bind f=f a:=rfl
@[simp]theorem R.bind_exn(x:Ex)(f:α->R β):(R.exn x:R α).bind f=.exn x:=rfl
@[simp]theorem R.bind_bad(f:α->R β):(R.bad:R α).bind f=.bad:=rfl
theorem R.bind_assoc{γ:Type}(r:R α)(f:α->R β)(g:β->R γ):(r.bind f).bind g=r.bind λa=>(f a).bind g:=by cases r<;>rfl
noncomputable def BD(n:Ae):Ai:=F7 n 1000000
noncomputable def FG(i j:Ag):Ai:=(decide (-(18446744073709551616:Ag)<i)&&decide (i<18446744073709551616))||(decide (-(18446744073709551616:Ag)<j)&&decide (j<18446744073709551616))
noncomputable def MT(i j:Ag):Ai:=decide (i.natAbs<2 ^ 2000)&&decide (j.natAbs<2 ^ 2000)
noncomputable def CG:Fa->D->D->R D
 |.Add,.int i,.int j=>.ok (.int (i+j))
 |.Sub,.int i,.int j=>.ok (.int (i-j))
 |.Mult,.int i,.int j=>if (FG i j||MT i j)=Aa then .ok (.int (i*j)) else .bad
 |.FloorDiv,.int i,.int j=>if 0<j/\j<1073741824 then .ok (.int (i/j)) else .bad
 |.Mod,.int i,.int j=>if 0<j then .ok (.int (i%j)) else .bad
 |.Pow,.int i,.int j=>if (0<=j/\j<=1000000)/\(-(18446744073709551616:Ag)<i/\i<18446744073709551616) then .ok (.int (i ^ j.toNat)) else .bad
 |.Add,.str x,.str y=>if BD (x.length+y.length)=Aa then .ok (.str (x++y)) else .bad
 |.Add,.lst x,.lst y=>if BD (x.length+y.length)=Aa then .ok (.lst (x++y)) else .bad
 |.Add,.tup x,.tup y=>if (!x.isEmpty&&BD (x.length+y.length))=Aa then .ok (.tup (x++y)) else .bad
 |_,_,_=>.bad
noncomputable def unD:Js->D->R D
 |.USub,.int i=>.ok (.int (-i))
 |_,_=>.bad
noncomputable def b2i(b:Ai):Ag:=if b=Aa then 1 else 0
mutual
noncomputable def eqD:D->D->Ai
 |.non,.non=>Aa
 |.bl a,.bl b=>a==b
 |.bl a,.int j=>b2i a==j
 |.int i,.bl b=>i==b2i b
 |.int i,.int j=>i==j
 |.str x,.str y=>x==y
 |.tup xs,.tup ys=>eqDs xs ys
 |.lst xs,.lst ys=>eqDs xs ys
 |_,_=>Ad
noncomputable def eqDs:Ac D->Ac D->Ai
 |[],[]=>Aa
 |x::xs,y::ys=>eqD x y&&eqDs xs ys
 |_,_=>Ad
end
noncomputable def flD:Ae->D->Ai
 |_,.non=>Aa
 |_,.bl _=>Aa
 |_,.int _=>Aa
 |_,.str _=>Aa
 |n+1,.tup xs=>xs.all (flD n)
 |n+1,.lst xs=>xs.all (flD n)
 |_,_=>Ad
noncomputable def Jp:D->Am (Ac Ag)
 |.tup ds=>keyDs ds
 |_=>Af
where keyDs:Ac D->Am (Ac Ag)
 |[]=>Ab []
 |.int i::r=>(keyDs r).map (i :: ·)
 |_=>Af
noncomputable def ltD:Ae->D->D->Ai
 |0,.int i,.int j=>decide (i<j)
 |n+1,.tup xs,.tup ys=>ltDs (ltD n) xs ys
 |_,_,_=>Ad
where ltDs (lt:D->D->Ai):Ac D->Ac D->Ai
 |[],[]=>Ad
 |[],_::_=>Aa
 |_::_,[]=>Ad
 |x::xs,y::ys=>if eqD x y=Aa then ltDs lt xs ys else lt x y
noncomputable def rkD:Ae->D->Ai
 |0,.int _=>Aa
 |n+1,.tup xs=>xs.all (rkD n)
 |_,_=>Ad
noncomputable def KR(lt:D->D->Ai)(x:D):Ac D->Ac D
 |[]=>[x]
 |y::ys=>if lt y x=Aa then y::KR lt x ys else x::y::ys
noncomputable def MO(lt:D->D->Ai):Ac D->Ac D
 |[]=>[]
 |x::xs=>KR lt x (MO lt xs)
noncomputable def KQ:Ac D->Ai
 |[]=>Aa
 |x::xs=>xs.all (λy=>!eqD x y)&&KQ xs
noncomputable def Gm(xs:Ac D):R (Ac D):=if (xs.all (λd=>rkD 1 d && !eqD d (.tup []))&&KQ xs&&decide (xs.length<=1000))=Aa then .ok (MO (ltD 1) xs) else .bad
noncomputable def BK:Do->D->D->R D
  |.Eq,x,y=>if (flD 5 x&&flD 5 y)=Aa then .ok (.bl (eqD x y)) else .bad
  |.NotEq,x,y=>if (flD 5 x&&flD 5 y)=Aa then .ok (.bl (!eqD x y)) else .bad
  |.Lt,.int i,.int j=>.ok (.bl (decide (i<j)))
  |.LtE,.int i,.int j=>.ok (.bl (decide (i<=j)))
  |.Gt,.int i,.int j=>.ok (.bl (decide (j<i)))
  |.GtE,.int i,.int j=>.ok (.bl (decide (j<=i)))
  |.In,x,.lst ys=>if (flD 5 x&&ys.all (flD 5))=Aa then .ok (.bl (ys.any λy=>eqD y x)) else .bad
  |.In,x,.dic kvs=>match Jp x with
    |some k=>.ok (.bl (kvs.any λp=>p.1==k))
    |none=>.bad
  |.In,x,.tup ys=>if (flD 5 x&&ys.all (flD 5))=Aa then .ok (.bl (ys.any λy=>eqD y x)) else .bad
  |.NotIn,x,.lst ys=>if (flD 5 x&&ys.all (flD 5))=Aa then .ok (.bl (!ys.any λy=>eqD y x)) else .bad
  |.NotIn,x,.tup ys=>if (flD 5 x&&ys.all (flD 5))=Aa then .ok (.bl (!ys.any λy=>eqD y x)) else .bad
  |.NotIn,.str x,.str y=>.ok (.bl (!(!(EG y x 0 y.length 1).isEmpty)))
  |.Is,.non,.non=>.ok (.bl Aa)
  |.Is,.bl _,.non=>.ok (.bl Ad)
  |.Is,.int _,.non=>.ok (.bl Ad)
  |.Is,.str _,.non=>.ok (.bl Ad)
  |.Is,.tup _,.non=>.ok (.bl Ad)
  |.Is,.lst _,.non=>.ok (.bl Ad)
  |.Is,.obj _ _,.non=>.ok (.bl Ad)
  |.Is,.bl a,.bl b=>.ok (.bl (a==b))
  |.IsNot,.bl a,.bl b=>.ok (.bl (!(a==b)))
  |.IsNot,.non,.non=>.ok (.bl Ad)
  |.IsNot,.bl _,.non=>.ok (.bl Aa)
  |.IsNot,.int _,.non=>.ok (.bl Aa)
  |.IsNot,.str _,.non=>.ok (.bl Aa)
  |.IsNot,.tup _,.non=>.ok (.bl Aa)
  |.IsNot,.lst _,.non=>.ok (.bl Aa)
  |.IsNot,.obj _ _,.non=>.ok (.bl Aa)
  |_,_,_=>.bad
noncomputable def BU:D->R Ai
 |.non=>.ok Ad
 |.bl b=>.ok b
 |.int i=>.ok (i != 0)
 |.str x=>if BD x.length=Aa then .ok (x.length != 0) else .bad
 |.tup xs=>.ok (!xs.isEmpty)
 |.lst xs=>.ok (!xs.isEmpty)
 |_=>.bad
noncomputable def plD(n:Ae)(i:Ag):Am Ae:=if 0<=i then (if i<n then Ab i.toNat else Af) else if -(n:Ag)<=i then Ab (i+n).toNat else Af
noncomputable def CP(xs:Ac D)(i:Ag):R D:=match plD xs.length i with
  |some k=>match xs[k]? with
    |some d=>.ok d
    |none=>.bad
  |none=>.bad
noncomputable def OX(kvs:Ac (Ac Ag×D))(k:Ac Ag):Am D:=(kvs.find? λp=>p.1==k).map (·.2)
noncomputable def S5(kvs:Ac (Ac Ag×D))(k:Ac Ag)(v:D):Ac (Ac Ag×D):=if (kvs.any λp=>p.1==k)=Aa then kvs.map (λp=>if (p.1==k)=Aa then (k,v) else p) else kvs++[(k,v)]
noncomputable def IL(x:Ah):Ac D:=x.cps.toList.map λc=>.str ⟨#[c]⟩
noncomputable def Hw:D->D->R D
  |.str x,.int i=>if BD x.length=Aa then CP (IL x) i else .bad
  |.lst xs,.int i=>CP xs i
  |.tup xs,.int i=>CP xs i
  |.dic kvs,k=>match (Jp k).bind (OX kvs) with
    |some d=>.ok d
    |none=>.bad
  |_,_=>.bad
noncomputable def DR:D->R Ag
 |.int i=>.ok i
 |_=>.bad
noncomputable def DX:D->R Ai
 |.bl b=>.ok b
 |_=>.bad
noncomputable def DW:D->R (Ac D)
 |.lst xs=>.ok xs
 |.tup xs=>.ok xs
 |_=>.bad
noncomputable def Jl:D->R (Ac D)
 |.lst xs=>.ok xs
 |_=>.bad
inductive BI where
 |len|abs|max|min|int|list|tuple|all|any|sum|sorted|str|count|stp|lset|tmin|tmax|tlt|rvs|sjoin
 deriving DecidableEq,Inhabited
inductive Ki where
 |int|bool|str|list|tuple|verr|cls (c:Ae)
 deriving DecidableEq,Inhabited
mutual
inductive E where
 |non|bl (b:Ai)|int (i:Ag)|str (x:Ah)
 |var (i:Ae)|glob (g:Ae)
 |bin (op:Fa) (a b:E)|un (op:Js) (a:E)|no (a:E)
 |and (es:Es)|or (es:Es)
 |cmp (op:Do) (a b:E)|cmp2 (op op':Do) (a b c:E)
 |ite (c a b:E)
 |call (f:Ae) (as:Es)|bi (b:BI) (as:Es)
 |isi (a:E) (ks:Ac Ki)
 |idx (a i:E)|sl (a lo hi:E)
 |tup (es:Es)|lst (es:Es)
 |comp (elt:E) (t:Ae) (it:I) (c:E)|compT (elt:E) (ts:Ac Ae) (it:I) (c:E)|tupI (it:I)|dnew
 |fld (o:E) (f:Ah)
inductive Es where
 |nil|cons (e:E) (es:Es)
inductive I where
 |e (a:E)|rng (a:E)|rng2 (a b:E)|rng3 (a b c:E)|zip (a b:E)|zip3 (a b c:E)|enm (a:E)
end
abbrev Sl:=Am (D×Ai)
abbrev Rho:=Ac Sl
structure Gam where
 F:Ae->Ac D->R D
 G:Ae->D
 up:Ae->Ac Ae
 /-- the defs whose answer is a new list -/
 fr:Ae->Ai
 /-- what is raised: the class,what it is made of -/
 xn:Ae->Ac D->R Ex
noncomputable def Dt(lo:Ag)(n:Ae):Ac D:=(A8 n).map fun(k:Ae)=>D.int (lo+(k:Ag))
noncomputable def Dj(lo hi:Ag):R (Ac D):=if (-(4611686018427387904:Ag)<=lo/\lo<4611686018427387904)/\(-(4611686018427387904:Ag)<=hi/\hi<4611686018427387904)/\hi-lo<1000000 then .ok (Dt lo (hi-lo).toNat) else .bad
noncomputable def Gu(lo:Ag)(n:Ae):Ac D:=(A8 n).map fun(k:Ae)=>D.int (lo-(k:Ag))
noncomputable def GV(lo hi c:Ag):R (Ac D):=if c=-1/\(-(4611686018427387904:Ag)<=lo/\lo<4611686018427387904)/\(-(4611686018427387904:Ag)<=hi/\hi<4611686018427387904)/\lo-hi<1000000 then .ok (Gu lo (lo-hi).toNat) else .bad
noncomputable def Ji(x:Ah):Ac D:=x.cps.toList.map λc=>D.str ⟨#[c]⟩
noncomputable def asZ:D->R (Ac D)
 |.str x=>if x.cps.all (· < 128)=Aa then .ok (Ji x) else .bad
 |d=>DW d
noncomputable def kiD(up:Ae->Ac Ae):Ki->D->Ai
 |.int,.int _=>Aa
 |.int,.bl _=>Aa
 |.bool,.bl _=>Aa
 |.str,.str _=>Aa
 |.list,.lst _=>Aa
 |.tuple,.tup _=>Aa
 |.cls c,.obj k _=>(up k).contains c
 |.cls c,.exc k _=>(up k).contains c
 |.verr,.exc _ _=>Aa
 |_,_=>Ad
noncomputable def Et:Ki->Ai
 |.cls _=>Aa
 |.verr=>Aa
 |_=>Ad
noncomputable def EF(up:Ae->Ac Ae)(ks:Ac Ki)(x:D):R D:=match x with
  |.obj _ _=>.bad
  |.exc _ _=>if ks.all Et=Aa then .ok (.bl (ks.any λk=>kiD up k x)) else .bad
  |.dic _=>.bad
  |_=>if ks.any Et=Aa then .bad else .ok (.bl (ks.any λk=>kiD up k x))
noncomputable def F4:D->R Ai
 |.non=>.ok Ad
 |.bl b=>.ok b
 |.int i=>.ok (i != 0)
 |_=>.bad
noncomputable def F1:Ac D->R Ai
 |[]=>.ok Aa
 |x::r=>(F4 x).bind λb=>(F1 r).bind λc=>.ok (b&&c)
noncomputable def Jm:Ac D->R Ai
 |[]=>.ok Ad
 |x::r=>(F4 x).bind λb=>(Jm r).bind λc=>.ok (b||c)
noncomputable def LO:Ag->Ac D->R Ag
 |a,[]=>.ok a
 |a,.int i::r=>LO (a+i) r
 |_,_=>.bad
noncomputable def DG:Ac D->Ac D->Ac D
 |x::xs,y::ys=>.tup [x,y]::DG xs ys
 |_,_=>[]
noncomputable def Tz:Ac D->Ac D->Ac D->Ac D
 |x::xs,y::ys,z::zs=>.tup [x,y,z]::Tz xs ys zs
 |_,_,_=>[]
noncomputable def TC(x y z:D):R (Ac D):=(DW x).bind λxs=>(DW y).bind λys=>(DW z).bind λzs=>if 0<xs.length/\xs.length<=1000/\ys.length=xs.length/\zs.length=xs.length then .ok (Tz xs ys zs) else .bad
noncomputable def PK:Ag->Ac D->Ac D
 |_,[]=>[]
 |i,x::xs=>.tup [.int i,x]::PK (i+1) xs
noncomputable def nlD:Ae->D->Ai
 |_,.non=>Aa
 |_,.bl _=>Aa
 |_,.int _=>Aa
 |_,.str _=>Aa
 |n+1,.tup xs=>xs.all (nlD n)
 |_,_=>Ad
noncomputable def FK(fr:Ai):D->Ai
 |.lst ds=>fr&&ds.all (nlD 5)
 |d=>nlD 5 d
noncomputable def MX:Ac D->Am (Ac Ag)
 |[]=>Ab []
 |.int i::r=>(MX r).map (i :: ·)
 |_=>Af
noncomputable def Uo(i:Ag):Ac Ag->Ag
 |[]=>i
 |j::r=>Uo (if j<i then j else i) r
noncomputable def pk2(k n:Ae):Ac Ae:=(A8 ((n-min k n+1)/2)).map λj=>min k n+2*j
noncomputable def Uv(k:Ae)(xs:Ac D):Ac D:=(pk2 k xs.length).filterMap λi=>xs[i]?
noncomputable def ddS(acc:Ac Ag)(x:Ag):Ac Ag:=if acc.any (· == x)=Aa then acc else acc++[x]
noncomputable def ddN(is:Ac Ag):Ae:=(is.foldl ddS []).length
noncomputable def TV(xs:Ac D):R D:=match MX xs with
  |some is=>if F7 is.length 4000=Aa then .ok (.int (ddN is)) else .bad
  |none=>.bad
noncomputable def mmD(mx:Ai)(x y:D):R D:=if [x,y].all (λd=>rkD 1 d && !eqD d (.tup []))=Aa then .ok (if (if mx=Aa then ltD 1 x y else ltD 1 y x)=Aa then y else x) else .bad
noncomputable def Uf(x y:D):R D:=if [x,y].all (λd=>rkD 1 d && !eqD d (.tup []))=Aa then .ok (.bl (ltD 1 x y)) else .bad
noncomputable def qE(k:Ac Ag):Ag:=reduceHash (Builtin.Tuple.tupleHashOf (k.map hashInt))
noncomputable def TW:Ac D->Am (Ac (Ac Ag))
 |[]=>Ab []
 |.tup xs::r=>(MX xs).bind λk=>(TW r).map (k :: ·)
 |_=>Af
noncomputable def Uh:Ac Ag->Ai
 |[]=>Aa
 |h::r=>!r.contains h&&Uh r
noncomputable def nU(xs:Ac D):R D:=match TW xs with
  |some ks=>if (F7 ks.length 3&&Uh (ks.map qE))=Aa then .ok (.int ks.length) else .bad
  |none=>.bad
noncomputable def Jg:Ac D->Am (Ac Ah)
 |[]=>Ab []
 |.str x::r=>(Jg r).map (x :: ·)
 |_=>Af
noncomputable def Lv(s:Ah)(xs:Ac D):R D:=match Jg xs with
  |some ss=>if IY s ss=Aa then .ok (.str (K6 s ss)) else .bad
  |none=>.bad
noncomputable def Fj(x:Ah)(l h:Am Ag):Ah:=if ((DO l h 1 x.length).length==x.length)=Aa then x else ⟨((DO l h 1 x.length).filterMap (x.cps[·]?)).toArray⟩
noncomputable def biD:BI->Ac D->R D
  |.len,[.lst xs]=>.ok (.int xs.length)
  |.len,[.tup xs]=>.ok (.int xs.length)
  |.len,[.str x]=>if BD x.length=Aa then .ok (.int x.length) else .bad
  |.abs,[.int i]=>.ok (.int (if i<0 then -i else i))
  |.max,[.int i,.int j]=>.ok (.int (if i<j then j else i))
  |.min,[.int i,.int j]=>.ok (.int (if j<i then j else i))
  |.min,[.lst xs]=>match MX xs with
    |some (i::is)=>.ok (.int (Uo i is))
    |_=>.bad
  |.int,[.int i]=>.ok (.int i)
  |.int,[.bl b]=>.ok (.int (b2i b))
  |.list,[.lst xs]=>.ok (.lst xs)
  |.list,[.tup xs]=>.ok (.lst xs)
  |.tuple,[.lst xs]=>.ok (.tup xs)
  |.tuple,[.tup xs]=>.ok (.tup xs)
  |.all,[.lst xs]=>(F1 xs).bind λb=>.ok (.bl b)
  |.any,[.lst xs]=>(Jm xs).bind λb=>.ok (.bl b)
  |.any,[.tup xs]=>(Jm xs).bind λb=>.ok (.bl b)
  |.sum,[.lst xs]=>(LO 0 xs).bind λi=>.ok (.int i)
  |.sum,[.tup xs]=>(LO 0 xs).bind λi=>.ok (.int i)
  |.sorted,[.lst xs]=>(Gm xs).bind λys=>.ok (.lst ys)
  |.count,[.lst xs,x]=>if (flD 5 x&&xs.all (flD 5))=Aa then .ok (.int ((xs.filter λy=>eqD y x).length:Ae)) else .bad
  |.len,[.dic kvs]=>.ok (.int kvs.length)
  |.stp,[.lst xs,.int k]=>.ok (.lst (Uv k.toNat xs))
  |.lset,[.lst xs]=>TV xs
  |.lset,[.tup xs]=>nU xs
  |.sjoin,[.str s,.lst xs]=>Lv s xs
  |.tmin,[x,y]=>mmD Ad x y
  |.tmax,[x,y]=>mmD Aa x y
  |.tlt,[x,y]=>Uf x y
  |.rvs,[.lst xs]=>.ok (.lst xs.reverse)
  |_,_=>.bad
noncomputable def slE(c:E)(d:D):R (Am Ag):=match c with
  |.non=>.ok Af
  |_=>(DR d).bind λi=>.ok (Ab i)
noncomputable def IJ(n d:Ae):Am Ag->Ae
 |none=>d
 |some i=>if i<0 then (i+n).toNat else min i.toNat n
noncomputable def Gv(xs:Ac D)(lo hi:Am Ag):Ac D:=(xs.drop (IJ xs.length 0 lo)).take (IJ xs.length xs.length hi-IJ xs.length 0 lo)
noncomputable def slD:D->Am Ag->Am Ag->R D
 |.lst xs,l,h=>.ok (.lst (Gv xs l h))
 |.tup xs,l,h=>if (IJ xs.length 0 l==0&&IJ xs.length xs.length h==xs.length)=Aa then .bad else .ok (.tup (Gv xs l h))
 |.str x,l,h=>if (BD x.length&&BD (Fj x l h).length)=Aa then .ok (.str (Fj x l h)) else .bad
 |_,_,_=>.bad
noncomputable def Ng:D->Ah->R D
  |.exc _ fs,f=>match fs.lookup f with
    |some d=>.ok d
    |none=>.bad
  |_,_=>.bad
noncomputable def FI(U:Rho)(i:Ae):R D:=match U[i]? with
  |some (Ab (d,Ad))=>.ok d
  |_=>.bad
noncomputable def Eb(U:Rho)(i:Ae):R D:=match U[i]? with
  |some (Ab (d,_))=>.ok d
  |_=>.bad
noncomputable def shE(U:Rho):E->Ai
  | .var i=>(match U[i]? with
    |some (Ab (_,Aa))=>Ad
    | _=>Aa)
  |_=>Aa
noncomputable def HY(U:Rho):Es->Ai
 |.nil=>Aa
 |.cons e es=>shE U e&&HY U es
noncomputable def GX:Ac Ae->Ac D->Rho->Am Rho
 |[],[],U=>Ab U
 |t::ts,d::ds,U=>GX ts ds (U.set t (Ab (d,Ad)))
 |_,_,_=>Af
noncomputable def Fe(ts:Ac Ae)(d:D)(U:Rho):R Rho:=match d with
  | .tup xs=>(match GX ts xs U with
    |some U'=>.ok U'
    | none=>.bad)
  |_=>.bad
noncomputable def Na(ts:Ac Ae)(d:D)(U:Rho):R Rho:=match d with
  | .lst xs=>(match GX ts xs U with
    |some U'=>.ok U'
    | none=>.bad)
  |d=>Fe ts d U
noncomputable def Ch(g:D->R Ai)(f:D->R D):Ac D->R (Ac D)
 |[]=>.ok []
 |x::xs=>(g x).bind λb=>if b=Aa then (f x).bind λy=>(Ch g f xs).bind λys=>.ok (y::ys) else Ch g f xs
noncomputable def noX{α:Type}:R α->R α
 |.ok a=>.ok a
 |_=>.bad
noncomputable def top(U:Rho)(e:E)(r:R D):R D:=match e with
  |.var i=>Eb U i
  |_=>r
mutual
noncomputable def evE(Z:Gam)(U:Rho):E->R D
 |.non=>.ok .non
 |.bl b=>.ok (.bl b)
 |.int i=>.ok (.int i)
 |.str x=>.ok (.str x)
 |.var i=>FI U i
 |.glob g=>.ok (Z.G g)
 |.bin op a b=>(top U a (evE Z U a)).bind λx=>(top U b (evE Z U b)).bind λy=>CG op x y
 |.un op a=>(top U a (evE Z U a)).bind λx=>unD op x
 |.no a=>(top U a (evE Z U a)).bind λx=>(DX x).bind λb=>.ok (.bl (!b))
 |.and es=>evN Z U es
 |.or es=>evO Z U es
 |.cmp op a b=>(top U a (evE Z U a)).bind λx=>(top U b (evE Z U b)).bind λy=>BK op x y
 |.cmp2 op op' a b c=>(top U a (evE Z U a)).bind λx=>(top U b (evE Z U b)).bind λy=>(BK op x y).bind λz=>(DX z).bind λk=>if k=Aa then (top U c (evE Z U c)).bind λu=>BK op' y u else .ok (.bl Ad)
 |.ite c a b=>(top U c (evE Z U c)).bind λx=>(BU x).bind λk=>if k=Aa then evE Z U a else evE Z U b
 |.call f as=>(evB Z U as).bind λxs=>(Z.F f xs).bind λd=>if HY U as=Aa then .ok d else if FK (Z.fr f) d=Aa then .ok d else .bad
 |.bi b as=>(evB Z U as).bind λxs=>biD b xs
 |.isi a ks=>(top U a (evE Z U a)).bind λx=>EF Z.up ks x
 |.idx a i=>(top U a (evE Z U a)).bind λx=>(top U i (evE Z U i)).bind λy=>Hw x y
 |.sl a lo hi=>(top U a (evE Z U a)).bind λx=>(top U lo (evE Z U lo)).bind λl=>(slE lo l).bind λl'=>(top U hi (evE Z U hi)).bind λh=>(slE hi h).bind λh'=>slD x l' h'
 |.tup es=>(evA Z U es).bind λxs=>.ok (.tup xs)
 |.lst es=>(evA Z U es).bind λxs=>.ok (.lst xs)
 |.comp elt t it c=>(evI Z U it).bind λxs=>(noX (Ch (λx=>(top (U.set t (Ab (x,Ad))) c (evE Z (U.set t (Ab (x,Ad))) c)).bind BU) (λx=>evE Z (U.set t (Ab (x,Ad))) elt) xs)).bind λys=>.ok (.lst ys)
 |.compT elt ts it c=>(evI Z U it).bind λxs=>(noX (Ch (λx=>(Fe ts x U).bind λU'=>(top U' c (evE Z U' c)).bind BU) (λx=>(Fe ts x U).bind λU'=>evE Z U' elt) xs)).bind λys=>.ok (.lst ys)
 |.tupI it=>(evI Z U it).bind λxs=>.ok (.tup xs)
 |.dnew=>.ok (.dic [])
 |.fld o f=>(top U o (evE Z U o)).bind λx=>Ng x f
noncomputable def evN(Z:Gam)(U:Rho):Es->R D
 |.nil=>.bad
 |.cons e .nil=>evE Z U e
 |.cons e (.cons e' es)=>(evE Z U e).bind λx=>(DX x).bind λc=>if c=Aa then evN Z U (.cons e' es) else .ok (.bl Ad)
noncomputable def evO(Z:Gam)(U:Rho):Es->R D
 |.nil=>.bad
 |.cons e .nil=>evE Z U e
 |.cons e (.cons e' es)=>(evE Z U e).bind λx=>(DX x).bind λc=>if c=Aa then .ok (.bl Aa) else evO Z U (.cons e' es)
noncomputable def evA(Z:Gam)(U:Rho):Es->R (Ac D)
 |.nil=>.ok []
 |.cons e es=>(evE Z U e).bind λx=>(evA Z U es).bind λxs=>.ok (x::xs)
noncomputable def evB(Z:Gam)(U:Rho):Es->R (Ac D)
 |.nil=>.ok []
 |.cons e es=>(top U e (evE Z U e)).bind λx=>(evB Z U es).bind λxs=>.ok (x::xs)
noncomputable def evI(Z:Gam)(U:Rho):I->R (Ac D)
 |.e a=>(evE Z U a).bind DW
 |.rng a=>(top U a (evE Z U a)).bind λx=>(DR x).bind λj=>Dj 0 j
 |.rng2 a b=>(top U a (evE Z U a)).bind λx=>(top U b (evE Z U b)).bind λy=>(DR x).bind λi=>(DR y).bind λj=>Dj i j
 |.rng3 a b c=>(top U a (evE Z U a)).bind λx=>(top U b (evE Z U b)).bind λy=>(top U c (evE Z U c)).bind λz=>(DR x).bind λi=>(DR y).bind λj=>(DR z).bind λk=>GV i j k
 |.zip a b=>(evE Z U a).bind λx=>(evE Z U b).bind λy=>(asZ x).bind λxs=>(DW y).bind λys=>.ok (DG xs ys)
 |.zip3 a b c=>(evE Z U a).bind λx=>(evE Z U b).bind λy=>(evE Z U c).bind λz=>TC x y z
 |.enm a=>(evE Z U a).bind λx=>(DW x).bind λxs=>.ok (PK 0 xs)
end
noncomputable def BZ(Z:Gam):E->Ai
 |.lst _=>Aa
 |.comp _ _ _ _=>Aa
 |.compT _ _ _ _=>Aa
 |.dnew=>Aa
 |.bin .Add _ _=>Aa
 |.bi .list _=>Aa
 |.bi .sorted _=>Aa
 |.sl _ _ _=>Aa
 |.call f _=>Z.fr f
 |_=>Ad
mutual
inductive S where
 |pass
 /-- x=e;fresh: x alone holds the new list -/
 |asg (i:Ae) (fresh:Ai) (e:E)
 /-- a,b,..=e -/
 |asgT (ts:Ac Ae) (e:E)
 |expr (e:E)
 |ret (e:E)|retN
 |ife (c:E) (a b:Ss)
 |fors (t:Ae) (it:I) (body:Ss)
 |forT (ts:Ac Ae) (it:I) (body:Ss)
 |whl (c:E) (body:Ss)
 /-- raise C(e,..) -/
 |rais (c:Ae) (as:Es)
 /-- try: body except C as x: h -/
 |tryx (body:Ss) (c:Ae) (x:Ae) (h:Ss)
 /-- .. except C as x: h,except C' as x: h',else: els -/
 |try2 (body:Ss) (c:Ae) (x:Ae) (h:Ss) (c':Ae) (h' els:Ss)
 /-- x.append(e),x.extend(e),x.insert(k,e),x.reverse(),x.clear() -/
 |app (i:Ae) (e:E)|ext (i:Ae) (e:E)|ins (i:Ae) (k e:E)|rev (i:Ae)|clr (i:Ae)
 /-- d[k]=e,d.setdefault(k,e) -/
 |dput (i:Ae) (k e:E)|dsd (i:Ae) (k e:E)
 /-- x[k]=e -/
 |put (i:Ae) (k e:E)
 /-- x[k],x[l]=x[l],x[k] -/
 |swp (i k l:Ae)
 /-- x.append(y.pop(e)) -/
 |apop (j i:Ae) (e:E)
 |brk|cont
 /-- nothing: from here on x is no longer changed -/
 |rel (i:Ae)
inductive Ss where
 |nil|cons (s:S) (ss:Ss)
end
inductive O where
 |next (U:Rho)|ret (d:D) (fr:Ai)|brk (U:Rho)|cont (U:Rho)|exn (x:Ex) (U:Rho)|bad
 deriving Inhabited
noncomputable def O.of{α:Type}(U:Rho)(r:R α)(f:α->O):O:=match r with
  |.ok a=>f a
  |.exn x=>.exn x U
  |.bad=>.bad
@[simp]theorem O.of_ok(U:Rho)(a:α)(f:α->O):O.of U (.ok a) f=f a:=rfl
@[simp]theorem O.of_exn(U:Rho)(x:Ex)(f:α->O):O.of U (.exn x:R α) f=.exn x U:=rfl
@[simp]theorem O.of_bad(U:Rho)(f:α->O):O.of U (.bad:R α) f=.bad:=rfl
noncomputable def G3(Z:Gam)(U:Rho)(i:I):R (Ac D):=evI Z U i
noncomputable def Cj(U:Rho)(i:Ae):R (Ac D):=match U[i]? with
  |some (Ab (.lst xs,Aa))=>.ok xs
  |_=>.bad
noncomputable def UG(U:Rho)(i:Ae):R (Ac (Ac Ag×D)):=match U[i]? with
  |some (Ab (.dic xs,Aa))=>.ok xs
  |_=>.bad
noncomputable def T8(d:D):R (Ac Ag):=match Jp d with
  |some k=>.ok k
  |none=>.bad
noncomputable def Ua:Ae:=4096
noncomputable def O.seq(o:O)(f:Rho->O):O:=match o with
  |.next U=>f U
  |.ret d b=>.ret d b
  |.brk U=>.brk U
  |.cont U=>.cont U
  |.exn x U=>.exn x U
  |.bad=>.bad
noncomputable def O.turn(o:O)(f:Rho->O):O:=match o with
  |.next U=>f U
  |.cont U=>f U
  |.brk U=>.next U
  |.ret d b=>.ret d b
  |.exn x U=>.exn x U
  |.bad=>.bad
noncomputable def BN(body:D->Rho->O):Ac D->Rho->O
 |[],U=>.next U
 |x::xs,U=>(body x U).turn (BN body xs)
noncomputable def Pv(c:Rho->R Ai)(body:Rho->O):Ae->Rho->O
 |0,_=>.bad
 |n+1,U=>O.of U (c U) λb=>if b=Aa then (body U).turn (Pv c body n) else .next U
noncomputable def TY(U:Rho)(k:Ae):R Ag:=(FI U k).bind DR
noncomputable def qT(U:Rho)(d:D)(i k l:Ae):O:=match d with
  |.tup [x,y]=>O.of U (Cj U i) λxs=>O.of U (TY U k) λa=>O.of U (TY U l) λb=>match plD xs.length a,plD xs.length b with
    |some m,Ab n=>.next (U.set i (Ab (.lst ((xs.set m x).set n y),Aa)))
    |_,_=>.bad
  |_=>.bad
noncomputable def apD(U:Rho)(j i:Ae)(ys xs:Ac D)(n:Ag):O:=match plD xs.length n with
  | some m=>(match xs[m]? with
    |some d=>if (j != i&&(BD xs.length&&BD (ys.length+1)))=Aa then .next ((U.set i (Ab (.lst (xs.eraseIdx m),Aa))).set j (Ab (.lst (ys++[d]),Aa))) else .bad
    | none=>.bad)
  |none=>.bad
noncomputable def hdO(i:Ae)(y:Ex)(U':Rho)(fh:Rho->O):O:=match fh (U'.set i (Ab (.exc y.c y.fs,Ad))) with
  |.next U''=>.next (U''.set i Af)
  |.ret d f=>.ret d f
  |_=>.bad
mutual
noncomputable def evS(Z:Gam)(U:Rho):S->O
  |.pass=>.next U
  | .asg i fresh e=>O.of U (evE Z U e) λd=>if fresh=Aa then (if BZ Z e=Aa then (match d with
      |.lst xs=>.next (U.set i (Ab (.lst xs,Aa)))
      |.dic xs=>.next (U.set i (Ab (.dic xs,Aa)))
      | _=>.bad) else .bad) else .next (U.set i (Ab (d,Ad)))
  |.asgT ts e=>O.of U (evE Z U e) λd=>O.of U (Na ts d U) λU'=>.next U'
  |.expr e=>O.of U (evE Z U e) λ_=>.next U
  |.ret e=>O.of U (top U e (evE Z U e)) λd=>.ret d (BZ Z e||(match e with | .var i=>(match U[i]? with|some (Ab (_,o))=>o|_=>Ad)|_=>Ad))
  |.retN=>.ret .non Ad
  |.ife c a b=>O.of U ((top U c (evE Z U c)).bind BU) λk=>if k=Aa then evSs Z U a else evSs Z U b
  |.fors t it body=>O.of U (G3 Z U it) λxs=>BN (λx U'=>evSs Z (U'.set t (Ab (x,Ad))) body) xs U
  |.forT ts it body=>O.of U (G3 Z U it) λxs=>BN (λx U'=>O.of U' (Fe ts x U') λU''=>evSs Z U'' body) xs U
  |.whl c body=>Pv (λU'=>(top U' c (evE Z U' c)).bind BU) (λU'=>evSs Z U' body) Ua U
  |.rais c as=>O.of U (noX (evA Z U as)) λxs=>O.of U (Z.xn c xs) λx=>.exn x U
  |.tryx body c x h=>match evSs Z U body with
      | .exn y U'=>if (Z.up y.c).contains c=Aa then (match evSs Z (U'.set x (Ab (.exc y.c y.fs,Ad))) h with
          |.next U''=>.next (U''.set x Af)
          |.ret d f=>.ret d f
          | _=>.bad) else .bad
      |o=>o
  |.try2 body c x h c' h' els=>match evSs Z U body with
      |.exn y U'=>if (Z.up y.c).contains c=Aa then hdO x y U' (λr=>evSs Z r h) else if (Z.up y.c).contains c'=Aa then hdO x y U' (λr=>evSs Z r h') else .bad
      |.next U'=>evSs Z U' els
      |o=>o
  |.app i e=>O.of U (Cj U i) λxs=>O.of U (evE Z U e) λd=>if BD (xs.length+1)=Aa then .next (U.set i (Ab (.lst (xs++[d]),Aa))) else .bad
  |.ext i e=>if BZ Z e=Aa then (O.of U (Cj U i) λxs=>O.of U (evE Z U e) λd=>O.of U (Jl d) λys=>if BD (xs.length+ys.length)=Aa then .next (U.set i (Ab (.lst (xs++ys),Aa))) else .bad) else .bad
  |.ins i k e=>O.of U (Cj U i) λxs=>O.of U ((top U k (evE Z U k)).bind DR) λj=>O.of U (evE Z U e) λd=>if (BD (xs.length+1)&&decide (0<=j)&&decide (j<=xs.length))=Aa then .next (U.set i (Ab (.lst (xs.take j.toNat++d::xs.drop j.toNat),Aa))) else .bad
  |.rev i=>O.of U (Cj U i) λxs=>.next (U.set i (Ab (.lst xs.reverse,Aa)))
  |.clr i=>O.of U (Cj U i) λ_=>.next (U.set i (Ab (.lst [],Aa)))
  |.dput i k e=>O.of U (evE Z U e) λd=>O.of U (UG U i) λxs=>O.of U ((evE Z U k).bind T8) λj=>if BD (xs.length+1)=Aa then .next (U.set i (Ab (.dic (S5 xs j d),Aa))) else .bad
  |.dsd i k e=>O.of U (UG U i) λxs=>O.of U ((evE Z U k).bind T8) λj=>O.of U (evE Z U e) λd=>if BD (xs.length+1)=Aa then .next (U.set i (Ab (.dic (if (xs.any λp=>p.1==j)=Aa then xs else S5 xs j d),Aa))) else .bad
  |.put i k e=>O.of U (evE Z U e) λd=>O.of U (Cj U i) λxs=>O.of U ((top U k (evE Z U k)).bind DR) λj=>match plD xs.length j with
      |some n=>.next (U.set i (Ab (.lst (xs.set n d),Aa)))
      |none=>.bad
  |.swp i k l=>O.of U (evE Z U (.tup (.cons (.idx (.var i) (.var l)) (.cons (.idx (.var i) (.var k)) .nil)))) λd=>qT U d i k l
  |.apop j i e=>O.of U (Cj U j) λys=>O.of U (Cj U i) λxs=>O.of U (evE Z U e) λd=>O.of U (DR d) λn=>apD U j i ys xs n
  |.brk=>.brk U
  |.cont=>.cont U
  |.rel i=>match U[i]? with
      |some (Ab (d,Aa))=>.next (U.set i (Ab (d,Ad)))
      |_=>.next U
noncomputable def evSs(Z:Gam)(U:Rho):Ss->O
 |.nil=>.next U
 |.cons s ss=>(evS Z U s).seq λU'=>evSs Z U' ss
end
structure Df where
 n:Ae
 fr:Ai
 body:Ss
noncomputable def Cb(n:Ae)(ds:Ac D):Rho:=ds.map (λd=>Ab (d,Ad))++GC (n-ds.length) Af
noncomputable def isL:D->Ai
 |.lst _=>Aa
 |.dic _=>Aa
 |_=>Ad
noncomputable def O.ans(fr:Ai)(o:O):R D:=match o with
  |.ret d b=>if (fr&&(!b&&isL d))=Aa then .bad else .ok d
  |.next _=>if fr=Aa then .bad else .ok .non
  |.exn x _=>.exn x
  |_=>.bad
noncomputable def Df.run(Z:Gam)(f:Df)(ds:Ac D):R D:=(evSs Z (Cb f.n ds) f.body).ans f.fr
structure Prg where
 xs:Ai
 defs:Ae->Df
 G:Ae->D
 up:Ae->Ac Ae
 xn:Ae->Ac D->R Ex
noncomputable def G4(xs:Ai)(r:R D):R D:=match xs with
  |true=>r
  |false=>noX r
noncomputable def gam(P:Prg):Ae->Gam
 |0=>⟨λ_ _=>.bad,P.G,P.up,λi=>(P.defs i).fr,P.xn⟩
 |n+1=>⟨λi ds=>G4 P.xs ((P.defs i).run (gam P n) ds),P.G,P.up,λi=>(P.defs i).fr,P.xn⟩
end Ov
end
section
namespace Ov
open PySem
variable{α:Type}{lo hi:Ag}{n:Ae}{x:D}
section
variable(Z:Gam)(U:Rho)
@[simp]theorem Zwq:evE Z U .non=.ok .non:=rfl
@[simp]theorem Zx7(b):evE Z U (.bl b)=.ok (.bl b):=rfl
@[simp]theorem Zwu(b):evE Z U (.int b)=.ok (.int b):=rfl
@[simp]theorem eL(b):evE Z U (.str b)=.ok (.str b):=rfl
@[simp]theorem Zwp(i):evE Z U (.var i)=FI U i:=rfl
@[simp]theorem Zs5(i):evE Z U (.glob i)=.ok (Z.G i):=rfl
@[simp]theorem eN(op a b):evE Z U (.bin op a b)=(top U a (evE Z U a)).bind λx=>(top U b (evE Z U b)).bind λy=>CG op x y:=rfl
@[simp]theorem Zx3(op a):evE Z U (.un op a)=(top U a (evE Z U a)).bind λx=>unD op x:=rfl
@[simp]theorem Zx6(a):evE Z U (.no a)=(top U a (evE Z U a)).bind λx=>(DX x).bind λb=>.ok (.bl (!b)):=rfl
@[simp]theorem Zwx(es):evE Z U (.and es)=evN Z U es:=rfl
@[simp]theorem Zx5(es):evE Z U (.or es)=evO Z U es:=rfl
@[simp]theorem Zwl(e):evN Z U (.cons e .nil)=evE Z U e:=rfl
@[simp]theorem ZsX(e e' es):evN Z U (.cons e (.cons e' es))=(evE Z U e).bind λx=>(DX x).bind λc=>if c=Aa then evN Z U (.cons e' es) else .ok (.bl Ad):=rfl
@[simp]theorem Zwk(e):evO Z U (.cons e .nil)=evE Z U e:=rfl
@[simp]theorem ZsW(e e' es):evO Z U (.cons e (.cons e' es))=(evE Z U e).bind λx=>(DX x).bind λc=>if c=Aa then .ok (.bl Aa) else evO Z U (.cons e' es):=rfl
@[simp]theorem eM(op a b):evE Z U (.cmp op a b)=(top U a (evE Z U a)).bind λx=>(top U b (evE Z U b)).bind λy=>BK op x y:=rfl
@[simp]theorem Zs8(op op' a b c):evE Z U (.cmp2 op op' a b c)=(top U a (evE Z U a)).bind λx=>(top U b (evE Z U b)).bind λy=>(BK op x y).bind λz=>(DX z).bind λk=>if k=Aa then (top U c (evE Z U c)).bind λu=>BK op' y u else .ok (.bl Ad):=rfl
@[simp]theorem Zws(c a b):evE Z U (.ite c a b)=(top U c (evE Z U c)).bind λx=>(BU x).bind λk=>if k=Aa then evE Z U a else evE Z U b:=rfl
@[simp]theorem Zs9(f as):evE Z U (.call f as)=(evB Z U as).bind λxs=>(Z.F f xs).bind λd=>if HY U as=Aa then .ok d else if FK (Z.fr f) d=Aa then .ok d else .bad:=rfl
@[simp]theorem SY(f as):evE Z U (.bi f as)=(evB Z U as).bind λxs=>biD f xs:=rfl
@[simp]theorem Zwt(a ks):evE Z U (.isi a ks)=(top U a (evE Z U a)).bind λx=>EF Z.up ks x:=rfl
@[simp]theorem Zwv(a i):evE Z U (.idx a i)=(top U a (evE Z U a)).bind λx=>(top U i (evE Z U i)).bind λy=>Hw x y:=rfl
@[simp]theorem Zx4(a lo hi):evE Z U (.sl a lo hi)=(top U a (evE Z U a)).bind λx=>(top U lo (evE Z U lo)).bind λl=>(slE lo l).bind λl'=>(top U hi (evE Z U hi)).bind λh=>(slE hi h).bind λh'=>slD x l' h':=rfl
@[simp]theorem eK(es):evE Z U (.tup es)=(evA Z U es).bind λxs=>.ok (.tup xs):=rfl
@[simp]theorem Zwr(es):evE Z U (.lst es)=(evA Z U es).bind λxs=>.ok (.lst xs):=rfl
noncomputable def cG(Z:Gam)(U:Rho)(t:Ae)(c:E):D->R Ai:=λx=>(top (U.set t (Ab (x,Ad))) c (evE Z (U.set t (Ab (x,Ad))) c)).bind BU
noncomputable def cF(Z:Gam)(U:Rho)(t:Ae)(elt:E):D->R D:=λx=>evE Z (U.set t (Ab (x,Ad))) elt
noncomputable def mkL(r:R (Ac D)):R D:=(noX r).bind λys=>.ok (.lst ys)
@[simp]theorem ZxD(ys):mkL (.ok ys)=.ok (.lst ys):=rfl
@[simp]theorem Zs7(elt t it c):evE Z U (.comp elt t it c)=(evI Z U it).bind λxs=>mkL (Ch (cG Z U t c) (cF Z U t elt) xs):=rfl
noncomputable def cGT(Z:Gam)(U:Rho)(ts:Ac Ae)(c:E):D->R Ai:=λx=>(Fe ts x U).bind λU'=>(top U' c (evE Z U' c)).bind BU
noncomputable def cFT(Z:Gam)(U:Rho)(ts:Ac Ae)(elt:E):D->R D:=λx=>(Fe ts x U).bind λU'=>evE Z U' elt
@[simp]theorem Zrq(elt ts it c):evE Z U (.compT elt ts it c)=(evI Z U it).bind λxs=>mkL (Ch (cGT Z U ts c) (cFT Z U ts elt) xs):=rfl
@[simp]theorem Zs4(it):evE Z U (.tupI it)=(evI Z U it).bind λxs=>.ok (.tup xs):=rfl
@[simp]theorem Zs6:evE Z U .dnew=.ok (.dic []):=rfl
@[simp]theorem Zww(o f):evE Z U (.fld o f)=(top U o (evE Z U o)).bind λx=>Ng x f:=rfl
@[simp]theorem Zwz:evA Z U .nil=.ok []:=rfl
@[simp]theorem QX(e es):evA Z U (.cons e es)=(evE Z U e).bind λx=>(evA Z U es).bind λxs=>.ok (x::xs):=rfl
@[simp]theorem Zwy:evB Z U .nil=.ok []:=rfl
@[simp]theorem N9(e es):evB Z U (.cons e es)=(top U e (evE Z U e)).bind λx=>(evB Z U es).bind λxs=>.ok (x::xs):=rfl
@[simp]theorem ZyT(a):evI Z U (.e a)=(evE Z U a).bind DW:=rfl
@[simp]theorem Zwn(a):evI Z U (.rng a)=(top U a (evE Z U a)).bind λx=>(DR x).bind λj=>Dj 0 j:=rfl
@[simp]theorem Zs3(a b):evI Z U (.rng2 a b)=(top U a (evE Z U a)).bind λx=>(top U b (evE Z U b)).bind λy=>(DR x).bind λi=>(DR y).bind λj=>Dj i j:=rfl
@[simp]theorem ZyY(xs):asZ (.lst xs)=.ok xs:=rfl
@[simp]theorem ZyX(xs):asZ (.tup xs)=.ok xs:=rfl
@[simp]theorem Zs2(a b c):evI Z U (.rng3 a b c)=(top U a (evE Z U a)).bind λx=>(top U b (evE Z U b)).bind λy=>(top U c (evE Z U c)).bind λz=>(DR x).bind λi=>(DR y).bind λj=>(DR z).bind λk=>GV i j k:=rfl
@[simp]theorem Zro(a b c):G3 Z U (.rng3 a b c)=evI Z U (.rng3 a b c):=rfl
@[simp]theorem Zwm(a b):evI Z U (.zip a b)=(evE Z U a).bind λx=>(evE Z U b).bind λy=>(asZ x).bind λxs=>(DW y).bind λys=>.ok (DG xs ys):=rfl
@[simp]theorem Zs1(a b c):evI Z U (.zip3 a b c)=(evE Z U a).bind λx=>(evE Z U b).bind λy=>(evE Z U c).bind λz=>TC x y z:=rfl
@[simp]theorem Zwo(a):evI Z U (.enm a)=(evE Z U a).bind λx=>(DW x).bind λxs=>.ok (PK 0 xs):=rfl
@[simp]theorem ZsY(a b):G3 Z U (.zip a b)=evI Z U (.zip a b):=rfl
@[simp]theorem Zrn(a b c):G3 Z U (.zip3 a b c)=evI Z U (.zip3 a b c):=rfl
@[simp]theorem Zs0(a):G3 Z U (.enm a)=evI Z U (.enm a):=rfl
@[simp]theorem Zx2(a):G3 Z U (.e a)=(evE Z U a).bind DW:=rfl
@[simp]theorem ZsZ(a):G3 Z U (.rng a)=evI Z U (.rng a):=rfl
@[simp]theorem Zrp(a b):G3 Z U (.rng2 a b)=evI Z U (.rng2 a b):=rfl
variable(r:R D)
@[simp]theorem ZtC(i):top U (.var i) r=Eb U i:=rfl
@[simp]theorem ZtD:top U .non r=r:=rfl
@[simp]theorem Zw4(b):top U (.bl b) r=r:=rfl
@[simp]theorem ZtH(b):top U (.int b) r=r:=rfl
@[simp]theorem bH(b):top U (.str b) r=r:=rfl
@[simp]theorem Zsg(b):top U (.glob b) r=r:=rfl
@[simp]theorem bI(op a b):top U (.bin op a b) r=r:=rfl
@[simp]theorem Zw0(op a):top U (.un op a) r=r:=rfl
@[simp]theorem Zw3(a):top U (.no a) r=r:=rfl
@[simp]theorem ZtL(a):top U (.and a) r=r:=rfl
@[simp]theorem Zw2(a):top U (.or a) r=r:=rfl
@[simp]theorem ZtK(op a b):top U (.cmp op a b) r=r:=rfl
@[simp]theorem Zsj(op op' a b c):top U (.cmp2 op op' a b c) r=r:=rfl
@[simp]theorem ZtF(a b c):top U (.ite a b c) r=r:=rfl
@[simp]theorem Zsk(a b):top U (.call a b) r=r:=rfl
@[simp]theorem Zw5(a b):top U (.bi a b) r=r:=rfl
@[simp]theorem ZtG(a b):top U (.isi a b) r=r:=rfl
@[simp]theorem ZtI(a b):top U (.idx a b) r=r:=rfl
@[simp]theorem Zw1(a b c):top U (.sl a b c) r=r:=rfl
@[simp]theorem bG(a):top U (.tup a) r=r:=rfl
@[simp]theorem ZtE(a):top U (.lst a) r=r:=rfl
@[simp]theorem Zsi(a b c d):top U (.comp a b c d) r=r:=rfl
@[simp]theorem ZtJ(a b):top U (.fld a b) r=r:=rfl
@[simp]theorem Zpe(a b c d):top U (.compT a b c d) r=r:=rfl
@[simp]theorem Zsf(a):top U (.tupI a) r=r:=rfl
@[simp]theorem Zsh:top U .dnew r=r:=rfl
end
@[simp]theorem Zo5(x:D×Ai)(U:Rho):Eb (Ab x::U) 0=.ok x.1:=rfl
@[simp]theorem Zo6(x:D)(U:Rho):FI (Ab (x,Ad)::U) 0=.ok x:=rfl
@[simp]theorem ZoK(x:Sl)(U:Rho)(i:Ae)[NeZero i]:Eb (x::U) i=Eb U (i-1):=by
 obtain⟨j,rfl⟩:∃ j,i=j+1:=⟨i-1,by have:=KU i;omega⟩
 rfl
@[simp]theorem ZoL(x:Sl)(U:Rho)(i:Ae)[NeZero i]:FI (x::U) i=FI U (i-1):=by
 obtain⟨j,rfl⟩:∃ j,i=j+1:=⟨i-1,by have:=KU i;omega⟩
 rfl
noncomputable def shV(U:Rho)(i:Ae):Ai:=match U[i]? with
    |some (Ab (_,Aa))=>Ad
    |_=>Aa
@[simp]theorem Zsn(x:D)(b:Ai)(U:Rho):shV (Ab (x,b)::U) 0=!b:=by cases b<;>rfl
@[simp]theorem ZpI(U:Rho):shV (Af::U) 0=Aa:=rfl
@[simp]theorem ZpJ(x:Sl)(U:Rho)(i:Ae)[NeZero i]:shV (x::U) i=shV U (i-1):=by
 obtain⟨j,rfl⟩:∃ j,i=j+1:=⟨i-1,by have:=KU i;omega⟩
 rfl
section
variable(U:Rho)
@[simp]theorem Zue(i):shE U (.var i)=shV U i:=rfl
@[simp]theorem Zuh:shE U .non=Aa:=rfl
@[simp]theorem Zxl(b):shE U (.bl b)=Aa:=rfl
@[simp]theorem Zul(b):shE U (.int b)=Aa:=rfl
@[simp]theorem Zug(b):shE U (.str b)=Aa:=rfl
@[simp]theorem Zsq(b):shE U (.glob b)=Aa:=rfl
@[simp]theorem Zup(op a b):shE U (.bin op a b)=Aa:=rfl
@[simp]theorem Zxh(op a):shE U (.un op a)=Aa:=rfl
@[simp]theorem Zxk(a):shE U (.no a)=Aa:=rfl
@[simp]theorem Zuq(a):shE U (.and a)=Aa:=rfl
@[simp]theorem Zxj(a):shE U (.or a)=Aa:=rfl
@[simp]theorem Zuo(op a b):shE U (.cmp op a b)=Aa:=rfl
@[simp]theorem Zst(op op' a b c):shE U (.cmp2 op op' a b c)=Aa:=rfl
@[simp]theorem Zuj(a b c):shE U (.ite a b c)=Aa:=rfl
@[simp]theorem Zsu(a b):shE U (.call a b)=Aa:=rfl
@[simp]theorem Zxm(a b):shE U (.bi a b)=Aa:=rfl
@[simp]theorem Zuk(a b):shE U (.isi a b)=Aa:=rfl
@[simp]theorem Zum(a b):shE U (.idx a b)=Aa:=rfl
@[simp]theorem Zxi(a b c):shE U (.sl a b c)=Aa:=rfl
@[simp]theorem Zuf(a):shE U (.tup a)=Aa:=rfl
@[simp]theorem Zui(a):shE U (.lst a)=Aa:=rfl
@[simp]theorem Zss(a b c d):shE U (.comp a b c d)=Aa:=rfl
@[simp]theorem ZpK(a b c d):shE U (.compT a b c d)=Aa:=rfl
@[simp]theorem Zsp(a):shE U (.tupI a)=Aa:=rfl
@[simp]theorem Zsr:shE U .dnew=Aa:=rfl
@[simp]theorem Zun(a b):shE U (.fld a b)=Aa:=rfl
@[simp]theorem Zso:HY U .nil=Aa:=rfl
@[simp]theorem YA(e es):HY U (.cons e es)=(shE U e&&HY U es):=rfl
end
@[simp]theorem ZoN(U:Rho):GX [] [] U=Ab U:=rfl
@[simp]theorem ZmK(t ts d ds)(U:Rho):GX (t::ts) (d::ds) U=GX ts ds (U.set t (Ab (d,Ad))):=rfl
@[simp]theorem ZrU(ts ds)(U:Rho):Na ts (.lst ds) U=match GX ts ds U with
  |some U'=>.ok U'
  |none=>.bad:=rfl
@[simp]theorem ZrT(ts ds)(U:Rho):Na ts (.tup ds) U=Fe ts (.tup ds) U:=rfl
@[simp]theorem XO(ts ds)(U:Rho):Fe ts (.tup ds) U=match GX ts ds U with
  |some U'=>.ok U'
  |none=>.bad:=rfl
@[simp]theorem Ztj{β:Type}(c:Prop)[Ez c](a b:R α)(f:α->R β):(if c then a else b).bind f=if c then a.bind f else b.bind f:=by split<;>rfl
@[simp]theorem ZxC(U:Rho)(c:Prop)[Ez c](a b:R α)(f:α->O):O.of U (if c then a else b) f=if c then O.of U a f else O.of U b f:=by split<;>rfl
@[simp]theorem Zvt{β:Type}(U:Rho)(a:R α)(g:α->R β)(f:β->O):O.of U (a.bind g) f=O.of U a λx=>O.of U (g x) f:=by cases a<;>rfl
@[simp]theorem Zus(c:Prop)[Ez c](a b:O)(f:Rho->O):O.seq (if c then a else b) f=if c then a.seq f else b.seq f:=by split<;>rfl
@[simp]theorem Zr5(c:Prop)[Ez c](a b:O)(f:Rho->O):O.turn (if c then a else b) f=if c then a.turn f else b.turn f:=by split<;>rfl
@[simp]theorem ZwR(fr:Ai)(c:Prop)[Ez c](a b:O):O.ans fr (if c then a else b)=if c then a.ans fr else b.ans fr:=by split<;>rfl
@[simp]theorem Zsv(U f):O.seq (.next U) f=f U:=rfl
@[simp]theorem Zur(d b f):O.seq (.ret d b) f=.ret d b:=rfl
@[simp]theorem Zuu(U f):O.seq (.brk U) f=.brk U:=rfl
@[simp]theorem Zsw(U f):O.seq (.cont U) f=.cont U:=rfl
@[simp]theorem Zut(x U f):O.seq (.exn x U) f=.exn x U:=rfl
@[simp]theorem Zuv(f):O.seq .bad f=.bad:=rfl
@[simp]theorem Zpa(U f):O.turn (.next U) f=f U:=rfl
@[simp]theorem Zr4(d b f):O.turn (.ret d b) f=.ret d b:=rfl
@[simp]theorem Zr7(U f):O.turn (.brk U) f=.next U:=rfl
@[simp]theorem Zpb(U f):O.turn (.cont U) f=f U:=rfl
@[simp]theorem Zr6(x U f):O.turn (.exn x U) f=.exn x U:=rfl
@[simp]theorem Zr8(f):O.turn .bad f=.bad:=rfl
@[simp]theorem Ztm(U):O.ans Ad (.next U)=.ok .non:=rfl
@[simp]theorem ZwQ(d b):O.ans Ad (.ret d b)=.ok d:=rfl
@[simp]theorem Ztl(d b):O.ans Aa (.ret d b)=if (!b&&isL d)=Aa then .bad else .ok d:=rfl
@[simp]theorem ZvT(d):isL (.lst d)=Aa:=rfl
@[simp]theorem ZvS(d):isL (.tup d)=Ad:=rfl
@[simp]theorem ZvU(d):isL (.int d)=Ad:=rfl
@[simp]theorem ZwS(fr x U):O.ans fr (.exn x U)=.exn x:=rfl
@[simp]theorem ZwT(fr):O.ans fr .bad=.bad:=rfl
@[simp]theorem Zyd(i j:Ag):CG .Add (.int i) (.int j)=.ok (.int (i+j)):=rfl
@[simp]theorem Zxb(i j:Ag):CG .Sub (.int i) (.int j)=.ok (.int (i-j)):=rfl
@[simp]theorem iN(i j:Ag):CG .Mult (.int i) (.int j)=if (FG i j||MT i j)=Aa then .ok (.int (i*j)) else .bad:=rfl
@[simp]theorem cE(i j:Ag):CG .FloorDiv (.int i) (.int j)=if 0<j/\j<1073741824 then .ok (.int (i/j)) else .bad:=rfl
@[simp]theorem iP(i j:Ag):CG .Mod (.int i) (.int j)=if 0<j then .ok (.int (i%j)) else .bad:=rfl
@[simp]theorem jJ(i j:Ag):CG .Pow (.int i) (.int j)=if (0<=j/\j<=1000000)/\(-(18446744073709551616:Ag)<i/\i<18446744073709551616) then .ok (.int (i ^ j.toNat)) else .bad:=rfl
@[simp]theorem Ht(x y:Ah):CG .Add (.str x) (.str y)=if BD (x.length+y.length)=Aa then .ok (.str (x++y)) else .bad:=rfl
@[simp]theorem GY(x y:Ac D):CG .Add (.lst x) (.lst y)=if BD (x.length+y.length)=Aa then .ok (.lst (x++y)) else .bad:=rfl
@[simp]theorem Sv(x y:Ac D):CG .Add (.tup x) (.tup y)=if (!x.isEmpty&&BD (x.length+y.length))=Aa then .ok (.tup (x++y)) else .bad:=rfl
@[simp]theorem ZyF(i:Ag):unD .USub (.int i)=.ok (.int (-i)):=rfl
@[simp]theorem pD(x y:D):BK .Eq x y=if (flD 5 x&&flD 5 y)=Aa then .ok (.bl (eqD x y)) else .bad:=rfl
@[simp]theorem nR(x y:D):BK .NotEq x y=if (flD 5 x&&flD 5 y)=Aa then .ok (.bl (!eqD x y)) else .bad:=rfl
@[simp]theorem ZyG(i j:Ag):BK .Lt (.int i) (.int j)=.ok (.bl (decide (i<j))):=rfl
@[simp]theorem ZyI(i j:Ag):BK .LtE (.int i) (.int j)=.ok (.bl (decide (i<=j))):=rfl
@[simp]theorem ZyR(i j:Ag):BK .Gt (.int i) (.int j)=.ok (.bl (decide (j<i))):=rfl
@[simp]theorem ZyS(i j:Ag):BK .GtE (.int i) (.int j)=.ok (.bl (decide (j<=i))):=rfl
@[simp]theorem qD(x:D)(ys:Ac D):BK .In x (.lst ys)=if (flD 5 x&&ys.all (flD 5))=Aa then .ok (.bl (ys.any λy=>eqD y x)) else .bad:=rfl
@[simp]theorem qC(x:D)(ys:Ac D):BK .In x (.tup ys)=if (flD 5 x&&ys.all (flD 5))=Aa then .ok (.bl (ys.any λy=>eqD y x)) else .bad:=rfl
@[simp]theorem oZ(x:D)(ys:Ac D):BK .NotIn x (.lst ys)=if (flD 5 x&&ys.all (flD 5))=Aa then .ok (.bl (!ys.any λy=>eqD y x)) else .bad:=rfl
@[simp]theorem oY(x:D)(ys:Ac D):BK .NotIn x (.tup ys)=if (flD 5 x&&ys.all (flD 5))=Aa then .ok (.bl (!ys.any λy=>eqD y x)) else .bad:=rfl
@[simp]theorem ZxQ:BK .Is .non .non=.ok (.bl Aa):=rfl
@[simp]theorem ZxS(i):BK .Is (.int i) .non=.ok (.bl Ad):=rfl
@[simp]theorem ZxP(i):BK .Is (.tup i) .non=.ok (.bl Ad):=rfl
@[simp]theorem ZxR(i):BK .Is (.lst i) .non=.ok (.bl Ad):=rfl
@[simp]theorem ZyK(a b):BK .Is (.bl a) (.bl b)=.ok (.bl (a==b)):=rfl
@[simp]theorem ZxN(a b):BK .IsNot (.bl a) (.bl b)=.ok (.bl (!(a==b))):=rfl
@[simp]theorem ZvI:BK .IsNot .non .non=.ok (.bl Ad):=rfl
@[simp]theorem ZvK(i):BK .IsNot (.int i) .non=.ok (.bl Aa):=rfl
@[simp]theorem ZvH(i):BK .IsNot (.tup i) .non=.ok (.bl Aa):=rfl
@[simp]theorem ZvJ(i):BK .IsNot (.lst i) .non=.ok (.bl Aa):=rfl
@[simp]theorem ZwF(i j:Ag):eqD (.int i) (.int j)=(i==j):=rfl
@[simp]theorem Zx8(i j:Ai):eqD (.bl i) (.bl j)=(i==j):=rfl
@[simp]theorem ZwC(i j:Ah):eqD (.str i) (.str j)=(i==j):=rfl
@[simp]theorem ZwB(i j:Ac D):eqD (.tup i) (.tup j)=eqDs i j:=rfl
@[simp]theorem ZwE(i j:Ac D):eqD (.lst i) (.lst j)=eqDs i j:=rfl
@[simp]theorem ZwD:eqD .non .non=Aa:=rfl
@[simp]theorem Zoe(i):eqD .non (.int i)=Ad:=rfl
@[simp]theorem Zof(i):eqD (.int i) .non=Ad:=rfl
@[simp]theorem Zta:eqDs [] []=Aa:=rfl
@[simp]theorem NS(x y:D)(xs ys:Ac D):eqDs (x::xs) (y::ys)=(eqD x y&&eqDs xs ys):=rfl
@[simp]theorem Zv8(n)(i:Ag):flD n (.int i)=Aa:=by cases n<;>rfl
@[simp]theorem Zx1(n)(i:Ai):flD n (.bl i)=Aa:=by cases n<;>rfl
@[simp]theorem Zv6(n)(i:Ah):flD n (.str i)=Aa:=by cases n<;>rfl
@[simp]theorem Zv7(n):flD n .non=Aa:=by cases n<;>rfl
@[simp]theorem ZsD(i):flD 5 (.tup i)=i.all (flD 4):=rfl
@[simp]theorem ZsI(i):flD 5 (.lst i)=i.all (flD 4):=rfl
@[simp]theorem ZsE(i):flD 4 (.tup i)=i.all (flD 3):=rfl
@[simp]theorem ZsJ(i):flD 4 (.lst i)=i.all (flD 3):=rfl
@[simp]theorem ZsF(i):flD 3 (.tup i)=i.all (flD 2):=rfl
@[simp]theorem ZsK(i):flD 3 (.lst i)=i.all (flD 2):=rfl
@[simp]theorem ZsG(i):flD 2 (.tup i)=i.all (flD 1):=rfl
@[simp]theorem ZsL(i):flD 2 (.lst i)=i.all (flD 1):=rfl
@[simp]theorem ZsH(i):flD 1 (.tup i)=i.all (flD 0):=rfl
@[simp]theorem ZsM(i):flD 1 (.lst i)=i.all (flD 0):=rfl
@[simp]theorem ZtA(b):BU (.bl b)=.ok b:=rfl
@[simp]theorem Zsc(i):BU (.int i)=.ok (i != 0):=rfl
@[simp]theorem Zsb(i):BU (.lst i)=.ok (!i.isEmpty):=rfl
@[simp]theorem Zr9(i):BU (.tup i)=.ok (!i.isEmpty):=rfl
@[simp]theorem Zsa:BU .non=.ok Ad:=rfl
@[simp]theorem ZtB(b):F4 (.bl b)=.ok b:=rfl
@[simp]theorem Zse(i):F4 (.int i)=.ok (i != 0):=rfl
@[simp]theorem Zsd:F4 .non=.ok Ad:=rfl
@[simp]theorem Zr0:F1 []=.ok Aa:=rfl
@[simp]theorem Qr(x r):F1 (x::r)=(F4 x).bind λb=>(F1 r).bind λc=>.ok (b&&c):=rfl
@[simp]theorem ZrZ:Jm []=.ok Ad:=rfl
@[simp]theorem ZoX(x r):Jm (x::r)=(F4 x).bind λb=>(Jm r).bind λc=>.ok (b||c):=rfl
@[simp]theorem ZwH(b)(d):G4 b (.ok d)=.ok d:=by cases b<;>rfl
@[simp]theorem Ztd(b):G4 b .bad=.bad:=by cases b<;>rfl
@[simp]theorem Ztc(x):G4 Aa (.exn x)=.exn x:=rfl
@[simp]theorem ZoV(r):G4 Ad r=noX r:=rfl
@[simp]theorem Zvu(a:α):noX (.ok a)=.ok a:=rfl
@[simp]theorem Zvw:noX (.bad:R α)=.bad:=rfl
@[simp]theorem Zvv(x):noX (.exn x:R α)=.bad:=rfl
@[simp]theorem ZwP(b):DX (.bl b)=.ok b:=rfl
@[simp]theorem ZrY(b):DR (.int b)=.ok b:=rfl
@[simp]theorem QB(b):Jl (.lst b)=.ok b:=rfl
@[simp]theorem ZrW(b):DW (.lst b)=.ok b:=rfl
@[simp]theorem ZrV(b):DW (.tup b)=.ok b:=rfl
@[simp]theorem oA(xs i):Hw (.lst xs) (.int i)=CP xs i:=rfl
@[simp]theorem nZ(xs i):Hw (.tup xs) (.int i)=CP xs i:=rfl
@[simp]theorem Gq(xs):biD .len [.lst xs]=.ok (.int xs.length):=rfl
@[simp]theorem ZyH(xs):biD .len [.tup xs]=.ok (.int xs.length):=rfl
@[simp]theorem Zy1(i):biD .abs [.int i]=.ok (.int (if i<0 then -i else i)):=rfl
@[simp]theorem ZxG(i j):biD .max [.int i,.int j]=.ok (.int (if i<j then j else i)):=rfl
@[simp]theorem ZxE(i j):biD .min [.int i,.int j]=.ok (.int (if j<i then j else i)):=rfl
@[simp]theorem ZyM(i):biD .int [.int i]=.ok (.int i):=rfl
@[simp]theorem ZyN(i):biD .int [.bl i]=.ok (.int (b2i i)):=rfl
@[simp]theorem ZxL(i):biD .list [.lst i]=.ok (.lst i):=rfl
@[simp]theorem ZxK(i):biD .list [.tup i]=.ok (.lst i):=rfl
@[simp]theorem Ztz(i):biD .tuple [.lst i]=.ok (.tup i):=rfl
@[simp]theorem Zty(i):biD .tuple [.tup i]=.ok (.tup i):=rfl
@[simp]theorem pJ(i):biD .all [.lst i]=(F1 i).bind λb=>.ok (.bl b):=rfl
@[simp]theorem Zy0(i):biD .any [.lst i]=(Jm i).bind λb=>.ok (.bl b):=rfl
@[simp]theorem ZyZ(i):biD .any [.tup i]=(Jm i).bind λb=>.ok (.bl b):=rfl
@[simp]theorem Zyw(i):biD .sum [.lst i]=(LO 0 i).bind λb=>.ok (.int b):=rfl
@[simp]theorem Zyv(i):biD .sum [.tup i]=(LO 0 i).bind λb=>.ok (.int b):=rfl
@[simp]theorem Zsl(i):biD .sorted [.lst i]=(Gm i).bind λb=>.ok (.lst b):=rfl
@[simp]theorem Zyx(xs k):biD .stp [.lst xs,.int k]=.ok (.lst (Uv k.toNat xs)):=rfl
@[simp]theorem ZyC(xs):biD .rvs [.lst xs]=.ok (.lst xs.reverse):=rfl
@[simp]theorem ZxI(xs):biD .lset [.lst xs]=TV xs:=rfl
@[simp]theorem Zw6(x y):biD .tmin [x,y]=mmD Ad x y:=rfl
@[simp]theorem Zyj(x y):biD .tlt [x,y]=Uf x y:=rfl
@[simp]theorem Zw7(x y):biD .tmax [x,y]=mmD Aa x y:=rfl
@[simp]theorem ZwI(xs x):biD .count [.lst xs,x]=if (flD 5 x&&xs.all (flD 5))=Aa then .ok (.int ((xs.filter λy=>eqD y x).length:Ae)) else .bad:=rfl
@[simp]theorem qU(xs lo hi):slD (.tup xs) lo hi=if (IJ xs.length 0 lo==0&&IJ xs.length xs.length hi==xs.length)=Aa then .bad else .ok (.tup (Gv xs lo hi)):=rfl
@[simp]theorem Zza(xs lo hi):slD (.lst xs) lo hi=.ok (.lst (Gv xs lo hi)):=rfl
@[simp]theorem Zt7(d):slE .non d=.ok Af:=rfl
@[simp]theorem Zt8(k i):slE (.int k) (.int i)=.ok (Ab i):=rfl
@[simp]theorem Zt6(k i):slE (.var k) (.int i)=.ok (Ab i):=rfl
@[simp]theorem Zt9(op a b i):slE (.bin op a b) (.int i)=.ok (Ab i):=rfl
@[simp]theorem Zxe(op a i):slE (.un op a) (.int i)=.ok (Ab i):=rfl
@[simp]theorem Zxf(b as i):slE (.bi b as) (.int i)=.ok (Ab i):=rfl
@[simp]theorem ZvN(up ks):EF up ks .non=if ks.any Et=Aa then .bad else .ok (.bl (ks.any λk=>kiD up k .non)):=rfl
@[simp]theorem ZxO(up ks b):EF up ks (.bl b)=if ks.any Et=Aa then .bad else .ok (.bl (ks.any λk=>kiD up k (.bl b))):=rfl
@[simp]theorem ZvP(up ks b):EF up ks (.int b)=if ks.any Et=Aa then .bad else .ok (.bl (ks.any λk=>kiD up k (.int b))):=rfl
@[simp]theorem ZvM(up ks b):EF up ks (.str b)=if ks.any Et=Aa then .bad else .ok (.bl (ks.any λk=>kiD up k (.str b))):=rfl
@[simp]theorem ZvL(up ks b):EF up ks (.tup b)=if ks.any Et=Aa then .bad else .ok (.bl (ks.any λk=>kiD up k (.tup b))):=rfl
@[simp]theorem ZvO(up ks b):EF up ks (.lst b)=if ks.any Et=Aa then .bad else .ok (.bl (ks.any λk=>kiD up k (.lst b))):=rfl
@[simp]theorem ZvQ(up ks c f):EF up ks (.exc c f)=if ks.all Et=Aa then .ok (.bl (ks.any λk=>kiD up k (.exc c f))) else .bad:=rfl
@[simp]theorem Ztg(c):Et (.cls c)=Aa:=rfl
@[simp]theorem Zrx:Et .verr=Aa:=rfl
@[simp]theorem Ztf:Et .int=Ad:=rfl
@[simp]theorem Zrz:Et .bool=Ad:=rfl
@[simp]theorem Zte:Et .str=Ad:=rfl
@[simp]theorem Zry:Et .list=Ad:=rfl
@[simp]theorem ZoW:Et .tuple=Ad:=rfl
@[simp]theorem ZoR(up i):kiD up .int (.int i)=Aa:=rfl
@[simp]theorem ZoQ(up):kiD up .int .non=Ad:=rfl
@[simp]theorem ZnQ(up i):kiD up .bool (.int i)=Ad:=rfl
@[simp]theorem ZoP(up i):kiD up .int (.tup i)=Ad:=rfl
@[simp]theorem ZoT(up i):kiD up .bool (.bl i)=Aa:=rfl
@[simp]theorem ZnP(up):kiD up .bool .non=Ad:=rfl
@[simp]theorem ZnO(up i):kiD up .list (.lst i)=Aa:=rfl
@[simp]theorem ZlC(up i):kiD up .tuple (.tup i)=Aa:=rfl
@[simp]theorem ZlD(up):kiD up .tuple .non=Ad:=rfl
@[simp]theorem ZoS(up c k f):kiD up (.cls c) (.exc k f)=(up k).contains c:=rfl
@[simp]theorem ZnN(up k f):kiD up .verr (.exc k f)=Aa:=rfl
theorem JI{xs:Ac D}{i:Ag}{d:D}(h0:0<=i)(h:xs[i.toNat]?=Ab d):CP xs i=.ok d:=by
 unfold CP plD;obtain⟨h1,_⟩:=A4.mp h;rw[Aq h0,Aq (by omega)]
 dsimp only;rw[h]
section
variable(Z:Gam)(U:Rho)
@[simp]theorem ZsN:evSs Z U .nil=.next U:=rfl
noncomputable def F3(Z:Gam)(ss:Ss)(o:O):O:=o.seq λU'=>evSs Z U' ss
@[simp]theorem Zg(s ss):evSs Z U (.cons s ss)=F3 Z ss (evS Z U s):=rfl
@[simp]theorem RM(ss):F3 Z ss (.next U)=evSs Z U ss:=rfl
@[simp]theorem ZxT(ss d b):F3 Z ss (.ret d b)=.ret d b:=rfl
@[simp]theorem ZxX(ss):F3 Z ss (.brk U)=.brk U:=rfl
@[simp]theorem Zv3(ss):F3 Z ss (.cont U)=.cont U:=rfl
@[simp]theorem ZxW(ss x):F3 Z ss (.exn x U)=.exn x U:=rfl
@[simp]theorem ZxY(ss):F3 Z ss .bad=.bad:=rfl
@[simp]theorem ZxV(ss)(c:Prop)[Ez c](a b:O):F3 Z ss (if c then a else b)=if c then F3 Z ss a else F3 Z ss b:=by split<;>rfl
@[simp]theorem ZxU(o:O):F3 Z .nil o=o:=by cases o<;>rfl
noncomputable def Bw(Z:Gam)(t:Ae)(body:Ss):D->Rho->O:=λx U'=>evSs Z (U'.set t (Ab (x,Ad))) body
noncomputable def whC(Z:Gam)(c:E):Rho->R Ai:=λU'=>(top U' c (evE Z U' c)).bind BU
noncomputable def whB(Z:Gam)(body:Ss):Rho->O:=λU'=>evSs Z U' body
noncomputable def Uj(Z:Gam)(t:Ae)(body:Ss)(U:Rho)(r:R (Ac D)):O:=O.of U r λxs=>BN (Bw Z t body) xs U
@[simp]theorem cC(t body xs):Uj Z t body U (.ok xs)=BN (Bw Z t body) xs U:=rfl
@[simp]theorem ZsR:evS Z U .pass=.next U:=rfl
@[simp]theorem Zwi(i e):evS Z U (.asg i Ad e)=O.of U (evE Z U e) λd=>.next (U.set i (Ab (d,Ad))):=rfl
@[simp]theorem ZsT(e):evS Z U (.expr e)=O.of U (evE Z U e) λ_=>.next U:=rfl
@[simp]theorem cJ(e):evS Z U (.ret e)=O.of U (top U e (evE Z U e)) λd=>.ret d (BZ Z e||(match e with | .var i=>(match U[i]? with|some (Ab (_,o))=>o|_=>Ad)|_=>Ad)):=rfl
@[simp]theorem ZsP:evS Z U .retN=.ret .non Ad:=rfl
@[simp]theorem Zwf(c a b):evS Z U (.ife c a b)=O.of U ((top U c (evE Z U c)).bind BU) λk=>if k=Aa then evSs Z U a else evSs Z U b:=rfl
@[simp]theorem ZD(t it body):evS Z U (.fors t it body)=Uj Z t body U (G3 Z U it):=rfl
noncomputable def FH(Z:Gam)(ts:Ac Ae)(body:Ss):D->Rho->O:=λx U'=>O.of U' (Fe ts x U') λU''=>evSs Z U'' body
noncomputable def Uc(Z:Gam)(ts:Ac Ae)(body:Ss)(U:Rho)(r:R (Ac D)):O:=O.of U r λxs=>BN (FH Z ts body) xs U
@[simp]theorem ZsB(t body xs):Uc Z t body U (.ok xs)=BN (FH Z t body) xs U:=rfl
@[simp]theorem ZsS(t it body):evS Z U (.forT t it body)=Uc Z t body U (G3 Z U it):=rfl
@[simp]theorem ZsV(ts e):evS Z U (.asgT ts e)=O.of U (evE Z U e) λd=>O.of U (Na ts d U) λU'=>.next U':=rfl
theorem Iz(i e):evS Z U (.asg i Aa e)=O.of U (evE Z U e) λd=>if BZ Z e=Aa then (match d with
      |.lst xs=>.next (U.set i (Ab (.lst xs,Aa)))
      |.dic xs=>.next (U.set i (Ab (.dic xs,Aa)))
      | _=>.bad) else .bad:=rfl
noncomputable def setF(U:Rho)(i:Ae):D->O
 |.lst xs=>.next (U.set i (Ab (.lst xs,Aa)))
 |.dic xs=>.next (U.set i (Ab (.dic xs,Aa)))
 |_=>.bad
@[simp]theorem Zxn(i xs):setF U i (.lst xs)=.next (U.set i (Ab (.lst xs,Aa))):=rfl
@[simp]theorem Zxo(i xs):setF U i (.dic xs)=.next (U.set i (Ab (.dic xs,Aa))):=rfl
@[simp]theorem Zh(i e):evS Z U (.asg i Aa e)=O.of U (evE Z U e) λd=>if BZ Z e=Aa then setF U i d else .bad:=by
 rw[Iz]
 congr 1
@[simp]theorem Zwj(i e):evS Z U (.app i e)=O.of U (Cj U i) λxs=>O.of U (evE Z U e) λd=>if BD (xs.length+1)=Aa then .next (U.set i (Ab (.lst (xs++[d]),Aa))) else .bad:=rfl
@[simp]theorem OA(i e):evS Z U (.ext i e)=if BZ Z e=Aa then (O.of U (Cj U i) λxs=>O.of U (evE Z U e) λd=>O.of U (Jl d) λys=>if BD (xs.length+ys.length)=Aa then .next (U.set i (Ab (.lst (xs++ys),Aa))) else .bad) else .bad:=rfl
@[simp]theorem Zwe(i):evS Z U (.rev i)=O.of U (Cj U i) λxs=>.next (U.set i (Ab (.lst xs.reverse,Aa))):=rfl
@[simp]theorem Zwg(i):evS Z U (.clr i)=O.of U (Cj U i) λ_=>.next (U.set i (Ab (.lst [],Aa))):=rfl
@[simp]theorem ZC(body c x h):evS Z U (.tryx body c x h)=match evSs Z U body with
      | .exn y U'=>if (Z.up y.c).contains c=Aa then (match evSs Z (U'.set x (Ab (.exc y.c y.fs,Ad))) h with
          |.next U''=>.next (U''.set x Af)
          |.ret d f=>.ret d f
          | _=>.bad) else .bad
      |o=>o:=rfl
@[simp]theorem ZsO(body c x h c' h' els):evS Z U (.try2 body c x h c' h' els)=match evSs Z U body with
      |.exn y U'=>if (Z.up y.c).contains c=Aa then hdO x y U' (λr=>evSs Z r h) else if (Z.up y.c).contains c'=Aa then hdO x y U' (λr=>evSs Z r h') else .bad
      |.next U'=>evSs Z U' els
      |o=>o:=rfl
@[simp]theorem Zwd(c body):evS Z U (.whl c body)=Pv (whC Z c) (whB Z body) Ua U:=rfl
@[simp]theorem ZsQ(c as):evS Z U (.rais c as)=O.of U (noX (evA Z U as)) λxs=>O.of U (Z.xn c xs) λx=>.exn x U:=rfl
@[simp]theorem Zwh:evS Z U .brk=.brk U:=rfl
@[simp]theorem ZsU:evS Z U .cont=.cont U:=rfl
end
end Ov
namespace Ov
open PySem
theorem Ma{body:D->Rho->O}(P:Ae->Rho->Prop):∀(xs:Ac D)(n:Ae)(U:Rho),P n U->(∀ i x,xs[i]?=Ab x->∀ U,P (n+i) U->∃ U',body x U=.next U'/\P (n+i+1) U')->∃ U',BN body xs U=.next U'/\P (n+xs.length) U'
 |[],n,U,h,_=>⟨U,rfl,h⟩
 |x::xs,n,U,h,k=>by
  obtain⟨U1,e1,h1⟩:=k 0 x rfl U h;obtain⟨U2,e2,h2⟩:=Ma P xs (n+1) U1 h1 λi y hy U hρ=>by
   have:=k (i+1) y (by simpa using hy) U (by rw[show n+(i+1)=n+1+i by omega];exact hρ)
   rw[show n+(i+1)=n+1+i by omega]at this
   exact this
  exact⟨U2,by show (body x U).turn _=_;rw[e1];exact e2,by rw[show n+(x::xs).length=n+1+xs.length by simp;omega];exact h2⟩
theorem YD(h1:0<=lo)(h2:lo<1000000)(h3:0<=hi)(h4:hi<1000000):Dj lo hi=.ok (Dt lo (hi-lo).toNat):=by
 unfold Dj;rw[Aq (by omega)]
theorem Ld(h3:0<=hi)(h4:hi<1000000):Dj 0 hi=.ok (Dt 0 hi.toNat):=by
 rw[YD (by omega) (by omega) h3 h4,U_2]
theorem Zq(h:x∈Dt lo n):∃ k:Ae,k<n/\x=.int (lo+(k:Ag)):=by
 obtain⟨k,hk,e⟩:=E7.mp h;exact⟨k,DC.mp hk,e.symm⟩
theorem J9(lo:Ag)(n:Ae):(Dt lo n).length=n:=by simp[Dt]
theorem N8{i:Ae}(h:(Dt lo n)[i]?=Ab x):i<n/\x=.int (lo+(i:Ag)):=by
 have hl:=(A4.mp h).1;rw[J9]at hl;unfold Dt at h;rw[Cp,GA hl]at h;cases h;exact⟨hl,rfl⟩
noncomputable def Ss.take:Ae->Ss->Ss
 |0,_=>.nil
 |_,.nil=>.nil
 |n+1,.cons s ss=>.cons s (ss.take n)
noncomputable def Ss.drop:Ae->Ss->Ss
 |0,ss=>ss
 |_,.nil=>.nil
 |n+1,.cons _ ss=>ss.drop n
theorem QW(Z:Gam):∀(n:Ae)(ss:Ss)(U:Rho),evSs Z U ss=F3 Z (ss.drop n) (evSs Z U (ss.take n))
 |0,_,_=>rfl
 |_+1,.nil,_=>rfl
 |n+1,.cons s ss,U=>by
  show (evS Z U s).seq (λU'=>evSs Z U' ss)=F3 Z (ss.drop n) ((evS Z U s).seq λU'=>evSs Z U' (ss.take n))
  cases evS Z U s with
  |next U'=>exact QW Z n ss U'
  |_=>rfl
end Ov
end
section
namespace Ov
end Ov
end
section
namespace OvC
open PySem Ov PyProof.Rows
variable{j:Ag}{Z:Gam}
noncomputable abbrev scr(ns:Ac Ag):D:=.lst (ns.map .int)
noncomputable abbrev sh(d:D):Sl:=Ab (d,Ad)
noncomputable abbrev si(i:Ag):Sl:=Ab (.int i,Ad)
noncomputable def MS(ns:Ac Ag)(k:Ag):Ag:=if ns=[] then 0 else ns.getD (k%ns.length).toNat 0
noncomputable def IN(ns:Ac Ag)(k:Ag):Ag:=(MS ns k%1000003+7919*k+11)*48271%1000033
noncomputable def OT(ns:Ac Ag)(k:Ag):Ag:=[3,5,7,11].getD (IN ns k/16%4).toNat 0
theorem iQ(ns k):0<=IN ns k:=by unfold IN;omega
theorem Us{P:Ae->Prop}(h0:P 0)(h1:P 1)(h2:P 2)(h3:P 3):P (j%4).toNat:=by
 have:(j%4).toNat=0\/(j%4).toNat=1\/(j%4).toNat=2\/(j%4).toNat=3:=by omega
 rcases this with e|e|e|e<;>rw[e]<;>assumption
def P4(p:Ag):Prop:=p=3\/p=5\/p=7\/p=11
noncomputable def pr4(j:Ag):Ag:=[3,5,7,11].getD (j%4).toNat 0
theorem jI(j):P4 (pr4 j):=by
 unfold pr4;exact Us (P:=λj=>P4 ([3,5,7,11].getD j 0)) (.inl rfl) (.inr (.inl rfl)) (.inr (.inr (.inl rfl))) (.inr (.inr (.inr rfl)))
theorem YR(ns k):P4 (OT ns k):=jI _
theorem P4.pos{p}(h:P4 p):0<p:=by rcases h with rfl|rfl|rfl|rfl<;>decide
theorem P4.lo{p}(h:P4 p):3<=p:=by rcases h with rfl|rfl|rfl|rfl<;>decide
theorem P4.hi{p}(h:P4 p):p<=11:=by rcases h with rfl|rfl|rfl|rfl<;>decide
theorem ZA(j:Ag):CP [.int 3,.int 5,.int 7,.int 11] (j%4)=.ok (.int (pr4 j)):=by
 have h:=Us (P:=λj=>[D.int 3,D.int 5,D.int 7,D.int 11][j]?=Ab (D.int ([3,5,7,11].getD j 0))) (j:=j) rfl rfl rfl rfl
 exact JI (by omega) h
theorem Ot{i:Ag}(h0:-18446744073709551616<i)(h1:i<18446744073709551616):FG i j=Aa:=by simp[FG];left;exact⟨h0,h1⟩
theorem R5{i:Ag}(h0:-18446744073709551616<j)(h1:j<18446744073709551616):FG i j=Aa:=by simp[FG];right;exact⟨h0,h1⟩
noncomputable def OY:Df:=⟨2,Ad,(.cons (.ret (.bin .Mod (.var 1) (.var 0))) .nil)⟩
def MM(Z:Gam):Prop:=∀ p n:Ag,0<p->Z.F 1 [.int p,.int n]=.ok (.int (n%p))
theorem fM(Z:Gam)(p n:Ag)(h:0<p):OY.run Z [.int p,.int n]=.ok (.int (n%p)):=by simp[OY,Df.run,Cb,h]
noncomputable def NE:Df:=⟨2,Ad,(.cons (.ife (.cmp .Eq (.bi .len (.cons (.var 0) .nil)) (.int 0)) (.cons (.ret (.int 0)) .nil) .nil) (.cons (.ret (.idx (.var 0) (.bin .Mod (.var 1) (.bi .len (.cons (.var 0) .nil))))) .nil))⟩
def SG(Z:Gam):Prop:=∀(ns:Ac Ag)(k:Ag),Z.F 2 [scr ns,.int k]=.ok (.int (MS ns k))
theorem jD(Z:Gam)(ns:Ac Ag)(k:Ag):NE.run Z [scr ns,.int k]=.ok (.int (MS ns k)):=by
 simp[NE,Df.run,Cb,MS];by_cases h:ns=[]
 .simp[h]
 .have hn:=Ve.mpr h;have hl:0<(ns.length:Ag):=by omega
  have h1:=CZ k (Int.ne_of_gt hl);have h2:=Cz k hl;have h3:(k%ns.length).toNat<ns.length:=by omega
  simp[h,hn,JI (xs:=ns.map .int) (d:=.int (ns.getD (k%ns.length).toNat 0)) h1 (by simp[h3])]
noncomputable def NM:Df:=⟨2,Ad,(.cons (.ret (.bin .Mod (.bin .Mult (.bin .Add (.bin .Add (.bin .Mod (.call 2 (.cons (.var 0) (.cons (.var 1) .nil))) (.int 1000003)) (.bin .Mult (.int 7919) (.var 1))) (.int 11)) (.int 48271)) (.int 1000033))) .nil)⟩
def Km(Z:Gam):Prop:=∀(ns:Ac Ag)(k:Ag),Z.F 3 [scr ns,.int k]=.ok (.int (IN ns k))
theorem ZY(h2:SG Z)(ns:Ac Ag)(k:Ag):NM.run Z [scr ns,.int k]=.ok (.int (IN ns k)):=by
 simp[NM,Df.run,Cb,h2 ns k,FG,IN]
noncomputable def NL:Df:=⟨2,Ad,(.cons (.ret (.idx (.lst (.cons (.int 3) (.cons (.int 5) (.cons (.int 7) (.cons (.int 11) .nil))))) (.bin .Mod (.bin .FloorDiv (.call 3 (.cons (.var 0) (.cons (.var 1) .nil))) (.int 16)) (.int 4)))) .nil)⟩
def Sq(Z:Gam):Prop:=∀(ns:Ac Ag)(k:Ag),Z.F 4 [scr ns,.int k]=.ok (.int (OT ns k))
theorem aX(h:Km Z)(ns:Ac Ag)(k:Ag):NL.run Z [scr ns,.int k]=.ok (.int (OT ns k)):=by
 simp[NL,Df.run,Cb,h ns k,ZA];rfl
end OvC
end
namespace Ov
open PySem PySem.Spec PyProof.Rows L2
variable{A B:Ak->Prop}{H H' H1 H0:Hp}{a b l q j l2:Ak}{xs ys:Ac V}{v:V}{d:D}{Rp Rq:Hp->V->D->Prop}{r:R D}{Q:VK}{X:Cx}{e c tg iter elt:An}{U:Rho}{i n k tk:Ae}{Y:L2.St}{g:D->D->R D}{op:Do}{K:Fg}{pI:Pn}{s:Ap}{items2 its:Ax Aj}{h h':AD}{u:Aj}{its2:Ac Aj}{es ifs:Ac An}{fs fi:Rho->R (Ac D)}{Q':Am Ag->Hp->Prop}{x:Ah}{id T:CD}{p pos' p2 pos pos2 tpos:AR}{f fc:Rho->R Ai}{α:Type}{Fz:Ak->HO->Prop}{D':Ends}{lo hi:Ag}{as:D->Rho->R Rho}{up:Ae->Ac Ae}{prog P:AM}{w:AY}{scope:BX}{env:Cr}{cl:Ac (Ah×Ak)}{N':Ac Ah}{ts:Ac Ae}{fp:Ac Ak}{tt:TT}{te:TE}{J:It}{wi:TI}{t t1 t2:Ai}{ta:TA}
abbrev ClA:=Ae->Am Ak
variable{CL:ClA}
def KL(K:Fg)(a:Ak)(xs:Ac V):Prop:=∃(o:DE)(its:Ax Aj)(n:Ae),K.lookup a=Ab o/\o.cls=.type "list"/\o.dict=Af/\o.data=.seq its n/\its.size<=sizeLine/\A6 xs its.toList
def KT(K:Fg)(a:Ak)(xs:Ac V):Prop:=∃(o:DE)(its:Ax Aj)(n:Ae),K.lookup a=Ab o/\o.cls=.type "tuple"/\o.data=.seq its n/\its.size<=sizeLine/\A6 xs its.toList
section
variable(K:Fg)(CL:ClA)(H:Hp)(A:Ak->Prop)
mutual
def Rep:V->D->Prop
 |v,.non=>v=.non
 |v,.bl b=>v=.bl b
 |v,.int i=>v=.int i
 |v,.str x=>v=.str x
 |v,.tup ds=>∃ a xs,v=.ref a/\(¬ A a\/KT K a xs)/\SqT K H a xs/\Reps xs ds
 |v,.lst ds=>∃ a xs,v=.ref a/\(¬ A a\/KL K a xs)/\SqL K H a xs/\Reps xs ds
 |v,.obj c fs=>∃ a C dx vs,v=.ref a/\¬ A a/\CL c=Ab C/\H a=Ab (.ins C dx vs)/\Repf vs fs
 |_,.dic _=>A5
 |v,.exc c fs=>∃ a C φ,v=.ref a/\¬ A a/\CL c=Ab C/\H a=Ab (.ext φ)/\(∀ h,φ h->∃ o,h.get? a=Ab o/\o.cls=.ref C)/\(fs=[]\/∃ dx vs,¬ A dx/\H dx=Ab (.xd vs)/\Repf vs fs/\∀ h,φ h->∃ o,h.get? a=Ab o/\o.dict=Ab dx/\∃ us,o.data=.fields us)
def Reps:Ac V->Ac D->Prop
 |[],[]=>HK
 |v::vs,d::ds=>Rep v d/\Reps vs ds
 |_,_=>A5
def Repf:Ac (Ah×V)->Ac (Ah×D)->Prop
 |[],[]=>HK
 |v::vs,d::ds=>Repp v d/\Repf vs ds
 |_,_=>A5
def Repp:Ah×V->Ah×D->Prop
 |v,(n,d)=>v.1=n/\Rep v.2 d
end
def CF(v:V)(d:D):Prop:=Rep K CL H A v d\/∃ a xs ds,v=.ref a/\d=.lst ds/\H a=Ab (.lst xs)/\Reps K CL H A xs ds
end
def Kp(A:Ak->Prop)(H H':Hp):Prop:=∀ b o,H b=Ab o->¬ A b->H' b=Ab o
def AOk(H:Hp)(A:Ak->Prop):Prop:=∀ a,A a->∃ xs,H a=Ab (.lst xs)
theorem Kp.of(h:AG H H'):Kp A H H':=λb o e _=>h b o e
theorem AOk.same(h:AOk H A)(s:AG H H'):AOk H' A:=λa ha=>let ⟨xs,e⟩:=h a ha;⟨xs,s _ _ e⟩
theorem AOk.new{p:Ak}(h:AOk H A)(e:H p=Af):¬ A p:=λha=>by
 obtain⟨xs,q⟩:=h p ha;rw[e]at q;cases q
section
variable{K:Fg}{CL:ClA}{H H':Hp}{A B:Ak->Prop}
theorem TF{u:HO}(k:Kp A H H')(na:¬ A a)(h:Rd H a u):Rd H' a u:=by
 rcases h with h|⟨o,h⟩
 .exact .inl (k _ _ h na)
 .exact .inr ⟨o,k _ _ h na⟩
theorem ML(k:Kp A H H')(na:¬ A a\/KL K a xs)(h:SqL K H a xs):SqL K H' a xs:=na.elim (λna=>h.imp (TF k na) id) .inr
theorem MK(k:Kp A H H')(na:¬ A a\/KT K a xs)(h:SqT K H a xs):SqT K H' a xs:=na.elim (λna=>h.imp (TF k na) id) .inr
mutual
theorem Rep.kp(k:Kp A H H'):∀{v:V}(d:D),Rep K CL H A v d->Rep K CL H' A v d
 |_,.non,h=>h
 |_,.bl _,h=>h
 |_,.int _,h=>h
 |_,.str _,h=>h
 |_,.dic _,h=>h.elim
 |_,.tup ds,h=>by
  obtain⟨a,xs,e,na,s,r⟩:=h;exact⟨a,xs,e,na,by first|exact MK k na s|exact ML k na s,Reps.kp k ds r⟩
 |_,.lst ds,h=>by
  obtain⟨a,xs,e,na,s,r⟩:=h;exact⟨a,xs,e,na,by first|exact MK k na s|exact ML k na s,Reps.kp k ds r⟩
 |_,.obj c fs,h=>by
  obtain⟨a,C,dx,vs,e,na,c,s,r⟩:=h;exact⟨a,C,dx,vs,e,na,c,k _ _ s na,Repf.kp k fs r⟩
 |_,.exc c fs,h=>by
  obtain⟨a,C,φ,e,na,c,s,p,q⟩:=h;refine⟨a,C,φ,e,na,c,k _ _ s na,p,q.imp id ?_⟩;rintro⟨dx,vs,nx,s2,r,z⟩;exact⟨dx,vs,nx,k _ _ s2 nx,Repf.kp k fs r,z⟩
theorem Reps.kp(k:Kp A H H'):∀{vs:Ac V}(ds:Ac D),Reps K CL H A vs ds->Reps K CL H' A vs ds
 |[],[],h=>h
 |_::_,d::ds,h=>⟨Rep.kp k d h.1,Reps.kp k ds h.2⟩
 |[],_::_,h=>h.elim
 |_::_,[],h=>h.elim
theorem Repf.kp(k:Kp A H H'):∀{vs:Ac (Ah×V)}(ds:Ac (Ah×D)),Repf K CL H A vs ds->Repf K CL H' A vs ds
 |[],[],h=>h
 |_::_,d::ds,h=>⟨Repp.kp k d h.1,Repf.kp k ds h.2⟩
 |[],_::_,h=>h.elim
 |_::_,[],h=>h.elim
theorem Repp.kp(k:Kp A H H'):∀{v:Ah×V}(d:Ah×D),Repp K CL H A v d->Repp K CL H' A v d
 |_,(_,d),h=>⟨h.1,Rep.kp k d h.2⟩
end
mutual
theorem Rep.sub(k:∀ a,B a->A a):∀{v:V}(d:D),Rep K CL H A v d->Rep K CL H B v d
 |_,.non,h=>h
 |_,.bl _,h=>h
 |_,.int _,h=>h
 |_,.str _,h=>h
 |_,.dic _,h=>h.elim
 |_,.tup ds,h=>by
  obtain⟨a,xs,e,na,s,r⟩:=h;exact⟨a,xs,e,na.imp (λna z=>na (k _ z)) id,s,Reps.sub k ds r⟩
 |_,.lst ds,h=>by
  obtain⟨a,xs,e,na,s,r⟩:=h;exact⟨a,xs,e,na.imp (λna z=>na (k _ z)) id,s,Reps.sub k ds r⟩
 |_,.obj c fs,h=>by
  obtain⟨a,C,dx,vs,e,na,c,s,r⟩:=h;exact⟨a,C,dx,vs,e,λz=>na (k _ z),c,s,Repf.sub k fs r⟩
 |_,.exc c fs,h=>by
  obtain⟨a,C,φ,e,na,c,s,p,q⟩:=h;refine⟨a,C,φ,e,λz=>na (k _ z),c,s,p,q.imp id ?_⟩
  rintro⟨dx,vs,nx,s2,r,z⟩;exact⟨dx,vs,λz=>nx (k _ z),s2,Repf.sub k fs r,z⟩
theorem Reps.sub(k:∀ a,B a->A a):∀{vs:Ac V}(ds:Ac D),Reps K CL H A vs ds->Reps K CL H B vs ds
 |[],[],h=>h
 |_::_,d::ds,h=>⟨Rep.sub k d h.1,Reps.sub k ds h.2⟩
 |[],_::_,h=>h.elim
 |_::_,[],h=>h.elim
theorem Repf.sub(k:∀ a,B a->A a):∀{vs:Ac (Ah×V)}(ds:Ac (Ah×D)),Repf K CL H A vs ds->Repf K CL H B vs ds
 |[],[],h=>h
 |_::_,d::ds,h=>⟨Repp.sub k d h.1,Repf.sub k ds h.2⟩
 |[],_::_,h=>h.elim
 |_::_,[],h=>h.elim
theorem Repp.sub(k:∀ a,B a->A a):∀{v:Ah×V}(d:Ah×D),Repp K CL H A v d->Repp K CL H B v d
 |_,(_,d),h=>⟨h.1,Rep.sub k d h.2⟩
end
mutual
theorem Rep.wide(hp:∀ a,B a->A a\/H a=Af):∀{v:V}(d:D),Rep K CL H A v d->Rep K CL H B v d
 |_,.non,h=>h
 |_,.bl _,h=>h
 |_,.int _,h=>h
 |_,.str _,h=>h
 |_,.dic _,h=>h.elim
 |_,.tup ds,h=>by
  obtain⟨a,xs,e,na,s,r⟩:=h;refine⟨a,xs,e,?_,s,Reps.wide hp ds r⟩;rcases s with s|s
  .refine na.imp (λna z=>(hp _ z).elim na λe=>?_) id
   rcases s with s|⟨o,s⟩<;>rw[e]at s<;>cases s
  .exact .inr s
 |_,.lst ds,h=>by
  obtain⟨a,xs,e,na,s,r⟩:=h;refine⟨a,xs,e,?_,s,Reps.wide hp ds r⟩;rcases s with s|s
  .refine na.imp (λna z=>(hp _ z).elim na λe=>?_) id
   rcases s with s|⟨o,s⟩<;>rw[e]at s<;>cases s
  .exact .inr s
 |_,.obj c fs,h=>by
  obtain⟨a,C,dx,vs,e,na,c,s,r⟩:=h;exact⟨a,C,dx,vs,e,(λz=>(hp _ z).elim na λe=>by rw[e]at s;cases s),c,s,Repf.wide hp fs r⟩
 |_,.exc c fs,h=>by
  obtain⟨a,C,φ,e,na,c,s,p,q⟩:=h;refine⟨a,C,φ,e,(λz=>(hp _ z).elim na λe=>by rw[e]at s;cases s),c,s,p,q.imp id ?_⟩
  rintro⟨dx,vs,nx,s2,r,z⟩;exact⟨dx,vs,(λz=>(hp _ z).elim nx λe=>by rw[e]at s2;cases s2),s2,Repf.wide hp fs r,z⟩
theorem Reps.wide(hp:∀ a,B a->A a\/H a=Af):∀{vs:Ac V}(ds:Ac D),Reps K CL H A vs ds->Reps K CL H B vs ds
 |[],[],h=>h
 |_::_,d::ds,h=>⟨Rep.wide hp d h.1,Reps.wide hp ds h.2⟩
 |[],_::_,h=>h.elim
 |_::_,[],h=>h.elim
theorem Repf.wide(hp:∀ a,B a->A a\/H a=Af):∀{vs:Ac (Ah×V)}(ds:Ac (Ah×D)),Repf K CL H A vs ds->Repf K CL H B vs ds
 |[],[],h=>h
 |_::_,d::ds,h=>⟨Repp.wide hp d h.1,Repf.wide hp ds h.2⟩
 |[],_::_,h=>h.elim
 |_::_,[],h=>h.elim
theorem Repp.wide(hp:∀ a,B a->A a\/H a=Af):∀{v:Ah×V}(d:Ah×D),Repp K CL H A v d->Repp K CL H B v d
 |_,(_,d),h=>⟨h.1,Rep.wide hp d h.2⟩
end
theorem Rep.same(s:AG H H')(h:Rep K CL H A v d):Rep K CL H' A v d:=Rep.kp (Kp.of s) d h
theorem Reps.same{v:Ac V}{d:Ac D}(s:AG H H')(h:Reps K CL H A v d):Reps K CL H' A v d:=Reps.kp (Kp.of s) d h
theorem CF.same{v:V}{d:D}(s:AG H H')(h:CF K CL H A v d):CF K CL H' A v d:=by
 rcases h with h|⟨a,xs,ds,e,e2,q,r⟩
 .exact .inl (h.same s)
 .exact .inr ⟨a,xs,ds,e,e2,s _ _ q,r.same s⟩
theorem Reps.length:∀{vs:Ac V}{ds:Ac D},Reps K CL H A vs ds->vs.length=ds.length
 |[],[],_=>rfl
 |_::_,_::_,h=>congrArg (· + 1) (Reps.length h.2)
 |[],_::_,h=>h.elim
 |_::_,[],h=>h.elim
theorem Reps.append:∀{vs ws:Ac V}{ds es:Ac D},Reps K CL H A vs ds->Reps K CL H A ws es->Reps K CL H A (vs++ws) (ds++es)
 |[],_,[],_,_,h=>h
 |_::_,_,_::_,_,h,g=>⟨h.1,Reps.append h.2 g⟩
 |[],_,_::_,_,h,_=>h.elim
 |_::_,_,[],_,h,_=>h.elim
theorem Reps.get:∀{vs:Ac V}{ds:Ac D}{i:Ae}{d:D},Reps K CL H A vs ds->ds[i]?=Ab d->∃ v,vs[i]?=Ab v/\Rep K CL H A v d
 |[],[],_,_,_,e=>by simp at e
 |v::_,_::_,0,_,h,e=>by simp at e;subst e;exact⟨v,rfl,h.1⟩
 |_::_,_::_,i+1,_,h,e=>by
  obtain⟨v,q,r⟩:=Reps.get (i:=i) h.2 (by simpa using e)
  exact⟨v,by simpa using q,r⟩
 |[],_::_,_,_,h,_=>h.elim
 |_::_,[],_,_,h,_=>h.elim
theorem Reps.take:∀{vs:Ac V}{ds:Ac D}(n:Ae),Reps K CL H A vs ds->Reps K CL H A (vs.take n) (ds.take n)
 |_,_,0,_=>trivial
 |[],[],_+1,_=>trivial
 |_::_,_::_,n+1,h=>⟨h.1,Reps.take n h.2⟩
 |[],_::_,_+1,h=>h.elim
 |_::_,[],_+1,h=>h.elim
theorem Reps.drop:∀{vs:Ac V}{ds:Ac D}(n:Ae),Reps K CL H A vs ds->Reps K CL H A (vs.drop n) (ds.drop n)
 |_,_,0,h=>h
 |[],[],_+1,_=>trivial
 |_::_,_::_,n+1,h=>Reps.drop n h.2
 |[],_::_,_+1,h=>h.elim
 |_::_,[],_+1,h=>h.elim
theorem Reps.set{x:V}{e:D}(r:Rep K CL H A x e):∀{vs:Ac V}{ds:Ac D}(n:Ae),Reps K CL H A vs ds->Reps K CL H A (vs.set n x) (ds.set n e)
 |[],[],_,_=>trivial
 |_::_,_::_,0,h=>⟨r,h.2⟩
 |_::_,_::_,n+1,h=>⟨h.1,Reps.set r n h.2⟩
 |[],_::_,_,h=>h.elim
 |_::_,[],_,h=>h.elim
end
structure Good (K:Fg) (CL:ClA) (A:Ak->Prop) (U:Rho) (Y:L2.St) (H:Hp):Prop where
 sh:∀(i:Ae)(d:D),U[i]?=Ab (Ab (d,Ad))->∃ v,Y[i]?=Ab (Ab v)/\Rep K CL H A v d
 ow:∀(i:Ae)(d:D),U[i]?=Ab (Ab (d,Aa))->∃ a xs ds,Y[i]?=Ab (Ab (.ref a))/\d=.lst ds/\A a/\H a=Ab (.lst xs)/\Reps K CL H A xs ds
 len:U.length=Y.length
theorem Good.same{K:Fg}{CL:ClA}{A:Ak->Prop}{U:Rho}{Y:L2.St}{H H':Hp}(g:Good K CL A U Y H)(s:AG H H'):Good K CL A U Y H':=
 ⟨λi d e=>let ⟨v,q,r⟩:=g.sh i d e;⟨v,q,r.same s⟩,λi d e=>let ⟨a,xs,ds,q,z,na,h,r⟩:=g.ow i d e;⟨a,xs,ds,q,z,na,s _ _ h,r.same s⟩,g.len⟩
abbrev XW:=Ex->Hp->Prop
variable{W:XW}
def Bg(Rp:Hp->V->D->Prop)(W:XW)(H:Hp)(r:R D)(Q:VK):Prop:=match r with
  |.ok d=>∀ v H',AG H H'->Rp H' v d->Q v H'
  |.exn x=>∀ H',AG H H'->W x H'
  |.bad=>A5
def G0(Rp:Hp->Ac V->Ac D->Prop)(W:XW)(H:Hp)(r:R (Ac D))(Q:Ac V->Hp->Prop):Prop:=match r with
  |.ok d=>∀ v H',AG H H'->Rp H' v d->Q v H'
  |.exn x=>∀ H',AG H H'->W x H'
  |.bad=>A5
def Db(W:XW)(H:Hp)(r:R Ai)(Q:Ai->Hp->Prop):Prop:=match r with
  |.ok b=>∀ H',AG H H'->Q b H'
  |.exn x=>∀ H',AG H H'->W x H'
  |.bad=>A5
theorem Bg.same(s:AG H H')(h:Bg Rp W H r Q):Bg Rp W H' r Q:=by
 cases r with
 |ok d=>exact λv H2 s2 q=>h v H2 (s.trans s2) q
 |exn x=>exact λH2 s2=>h H2 (s.trans s2)
 |bad=>exact h
theorem Db.same{r:R Ai}{Q:Ai->Hp->Prop}(s:AG H H')(h:Db W H r Q):Db W H' r Q:=by
 cases r with
 |ok d=>exact λH2 s2=>h H2 (s.trans s2)
 |exn x=>exact λH2 s2=>h H2 (s.trans s2)
 |bad=>exact h
theorem Bg.bind{f:D->R D}{Q':VK}(h:Bg Rq W H (r.bind f) Q)(k:∀ d v H',r=.ok d->AG H H'->Rp H' v d->Bg Rq W H' (f d) Q->Q' v H'):Bg Rp W H r Q':=by
 cases r with
 |ok d=>exact λv H2 s2 q=>k d v H2 rfl s2 q (Bg.same s2 h)
 |exn x=>exact h
 |bad=>exact h
section
variable(X:Cx)(CL:ClA)(W:XW)
def SE(e:An)(f:Rho->R D):Prop:=∀ A,PE X e (λY H Q=>AOk H A/\∃ U,Good X.K CL A U Y H/\Bg (λH=>Rep X.K CL H A) W H (f U) Q)
def ST(e:An)(f:Rho->R D):Prop:=∀ A,PE X e (λY H Q=>AOk H A/\∃ U,Good X.K CL A U Y H/\Bg (λH=>CF X.K CL H A) W H (f U) Q)
def SB(e:An)(f:Rho->R Ai):Prop:=∀ A,PT X e (λY H Q=>AOk H A/\∃ U,Good X.K CL A U Y H/\Db W H (f U) Q)
def SA(es:Ac An)(f:Rho->R (Ac D)):Prop:=∀ A,PA X es (λY H Q=>AOk H A/\∃ U,Good X.K CL A U Y H/\G0 (λH=>Reps X.K CL H A) W H (f U) Q)
end
theorem PE.weak{t t':TE}(h:PE X e t)(k:∀ Y H Q,t' Y H Q->t Y H Q):PE X e t':=λpI s Y H Q I q=>h pI s Y H Q I (k _ _ _ q)
theorem PT.weak{t t':TT}(h:PT X e t)(k:∀ Y H Q,t' Y H Q->t Y H Q):PT X e t':=λpI s Y H Q I q=>h pI s Y H Q I (k _ _ _ q)
theorem PA.weak{e:Ac An}{t t':TA}(h:PA X e t)(k:∀ Y H Q,t' Y H Q->t Y H Q):PA X e t':=λpos pI s Y H Q I q=>h pos pI s Y H Q I (k _ _ _ q)
noncomputable def OpD(X:Cx)(CL:ClA)(W:XW)(f:Aj->Aj->Dq Aj)(g:D->D->R D):Prop:=
 ∀ A,OpR X f (λx y H Q=>AOk H A/\∃ dx dy,CF X.K CL H A x dx/\CF X.K CL H A y dy/\Bg (λH=>Rep X.K CL H A) W H (g dx dy) Q)
section
variable{X:Cx}{CL:ClA}{W:XW}{a b c:An}{fa fb fc:Rho->R D}{pos:AR}
theorem SE.st(h:SE X CL W a fa):ST X CL W a fa:=λA=>PE.weak (h A) λY H Q ⟨hA,U,g,p⟩=>⟨hA,U,g,by
 cases e:fa U with
 |ok d=>rw[e]at p;exact λv H' s r=>p v H' s (.inl r)
 |exn x=>rw[e]at p;exact p
 | bad=>rw[e]at p;exact p⟩
theorem SE.congr{f g:Rho->R D}(h:SE X CL W a f)(e:∀ U,g U=f U):SE X CL W a g:=λA=>PE.weak (h A) λY H Q ⟨hA,U,q,p⟩=>⟨hA,U,q,by rw[<-e];exact p⟩
theorem MP(h:PE X a (tC v))(r:∀ H A,AOk H A->Rep X.K CL H A v d):SE X CL W a (λ_=>.ok d):=λA=>PE.weak h λY H Q ⟨hA,U,g,p⟩=>p v H (AG.refl H) (r H A hA)
theorem gD{i j}:SE X CL W (.Constant (.int i) j pos) (λ_=>.ok (.int i)):=MP jS λ_ _ _=>rfl
theorem TJ{b j}:SE X CL W (.Constant (.bool b) j pos) (λ_=>.ok (.bl b)):=MP oP λ_ _ _=>rfl
theorem fW{j}:SE X CL W (.Constant .none j pos) (λ_=>.ok .non):=MP jQ λ_ _ _=>rfl
theorem OO{x j}:SE X CL W (.Constant (.str x) j pos) (λ_=>.ok (.str x)):=MP jN λ_ _ _=>rfl
theorem bD(h:FI U i=.ok d):U[i]?=Ab (Ab (d,Ad)):=by
 unfold FI at h;split at h
 .rename_i e;cases h;exact e
 .cases h
theorem RI(h:Eb U i=.ok d):∃ o,U[i]?=Ab (Ab (d,o)):=by
 unfold Eb at h;split at h
 .rename_i e;cases h;exact⟨_,e⟩
 .cases h
theorem Y_0{x:Ex}(h:FI U i=.exn x):A5:=by
 unfold FI at h;split at h<;>cases h
theorem Ru{x:Ex}(h:Eb U i=.exn x):A5:=by
 unfold Eb at h;split at h<;>cases h
theorem fV(h:PE X a (IK i)):SE X CL W a (λU=>FI U i):=λA=>PE.weak h λY H Q ⟨hA,U,g,p⟩=>by
 dsimp only at p;cases e:FI U i with
 |ok d=>
  rw[e]at p;obtain⟨v,q,r⟩:=g.sh i d (bD e);exact⟨v,q,p v H (AG.refl H) r⟩
 |exn x=>exact(Y_0 e).elim
 |bad=>rw[e]at p;exact p.elim
theorem Kw(h:PE X a (IK i)):ST X CL W a (λU=>Eb U i):=λA=>PE.weak h λY H Q ⟨hA,U,g,p⟩=>by
 dsimp only at p;cases e:Eb U i with
 |ok d=>
  rw[e]at p;obtain⟨o,e⟩:=RI e;cases o with
  |false=>
   obtain⟨v,q,r⟩:=g.sh i d e;exact⟨v,q,p v H (AG.refl H) (.inl r)⟩
  |true=>
   obtain⟨x,xs,ds,q,rfl,ha,hh,r⟩:=g.ow i d e;exact⟨_,q,p _ H (AG.refl H) (.inr ⟨x,xs,ds,rfl,rfl,hh,r⟩)⟩
 |exn x=>exact(Ru e).elim
 |bad=>rw[e]at p;exact p.elim
theorem op2(h:AOk H A/\∃ U,Good X.K CL A U Y H/\Bg Rq W H ((fa U).bind λx=>(fb U).bind λy=>g x y) Q):AOk H A/\∃ U,Good X.K CL A U Y H/\Bg (λH=>CF X.K CL H A) W H (fa U) (λx H1=>AOk H1 A/\∃ U,Good X.K CL A U Y H1/\Bg (λH=>CF X.K CL H A) W H1 (fb U) (λy H2=>AOk H2 A/\∃ dx dy,CF X.K CL H2 A x dx/\CF X.K CL H2 A y dy/\Bg Rq W H2 (g dx dy) Q)):=by
 obtain⟨hA,U,gd,p⟩:=h;refine⟨hA,U,gd,Bg.bind p λdx x H1 _ s1 r1 p1=>⟨hA.same s1,U,gd.same s1,Bg.bind p1 λdy y H2 _ s2 r2 p2=>⟨(hA.same s1).same s2,dx,dy,r1.same s2,r2,p2⟩⟩⟩
theorem OQ{op:Fa}(ho:OpD X CL W (BY op) g)(ha:ST X CL W a fa)(hb:ST X CL W b fb):SE X CL W (.BinOp a op b pos) (λU=>(fa U).bind λx=>(fb U).bind λy=>g x y):=
 λA=>PE.weak (T2 (ho A) (ha A) (hb A)) λY H Q h=>op2 h
theorem gF(ho:OpD X CL W (CC op) g)(ha:ST X CL W a fa)(hb:ST X CL W b fb)(hm:GU op b=Ad):SE X CL W (.Compare a [op] [b] pos) (λU=>(fa U).bind λx=>(fb U).bind λy=>g x y):=
 λA=>PE.weak (dJ (ho A) (ha A) (hb A) hm) λY H Q h=>op2 h
theorem CF.int_of{i:Ag}(h:CF K CL H A v (.int i)):v=.int i:=by
 rcases h with h|⟨_,_,_,_,e,_⟩
 .exact h
 .cases e
theorem CF.str_of{i:Ah}(h:CF K CL H A v (.str i)):v=.str i:=by
 rcases h with h|⟨_,_,_,_,e,_⟩
 .exact h
 .cases e
theorem CF.bl_of{i:Ai}(h:CF K CL H A v (.bl i)):v=.bl i:=by
 rcases h with h|⟨_,_,_,_,e,_⟩
 .exact h
 .cases e
theorem CF.non_of(h:CF K CL H A v .non):v=.non:=by
 rcases h with h|⟨_,_,_,_,e,_⟩
 .exact h
 .cases e
theorem CF.lst_of{ds:Ac D}(h:CF K CL H A v (.lst ds)):∃ a xs,v=.ref a/\SqL K H a xs/\Reps K CL H A xs ds:=by
 rcases h with ⟨a,xs,e,_,s,r⟩|⟨a,xs,es,rfl,e,s,r⟩
 .exact⟨a,xs,e,s,r⟩
 .cases e;exact⟨a,xs,rfl,SqL.of s,r⟩
theorem CF.tup_of{ds:Ac D}(h:CF K CL H A v (.tup ds)):∃ a xs,v=.ref a/\(¬ A a\/KT K a xs)/\SqT K H a xs/\Reps K CL H A xs ds:=by
 rcases h with ⟨a,xs,e,n,s,r⟩|⟨_,_,_,_,e,_⟩
 .exact⟨a,xs,e,n,s,r⟩
 .cases e
theorem cN{i j:Ag}(h:FG i j=Aa):Nt i j:=by
 unfold FG at h;simp only[CY,Al,AQ]at h;unfold Nt;omega
theorem Sk{a:Ag}(h:a.natAbs<2 ^ 2000):VM a<=2 ^ 20:=by
 unfold VM;split
 .omega
 .rename_i hz;have h0:a.natAbs≠0:=by intro z;exact hz (by rw[Int.natAbs_eq_zero.mp z];rfl)
  have:=(Nat.log2_lt h0).mpr h;omega
theorem cM{i j:Ag}(h:(FG i j||MT i j)=Aa):K0 i j:=by
 rcases Bool.or_eq_true_iff.mp h with h|h
 .exact(cN h).ok
 .unfold MT at h;rw[Al,AQ,AQ]at h;exact .of_bits (Sk h.1) (Sk h.2)
theorem dR:OpR X (BY .Mult) (rI K0 λi j=>.int (i*j)):=opI λ_ _ _ _ _ _ _ hc q=>mul_int q hc
theorem IB(h:BD n=Aa):n<=sizeLine:=by
 unfold BD at h;rw[B9];have:=F8 h;omega
theorem RZ{p:Ak}{ds:Ac D}(hA:AOk H A)(hp:H p=Af)(r:Reps K CL H A xs ds):Rep K CL (upd H p (.lst xs)) A (.ref p) (.lst ds):=
 ⟨p,xs,rfl,.inl (hA.new hp),SqL.of GE,r.same λb o e=>by rw[B6 (FE e hp)];exact e⟩
theorem Kr{p:Ak}{ds:Ac D}(hA:AOk H A)(hp:H p=Af)(r:Reps K CL H A xs ds):Rep K CL (upd H p (.tup xs)) A (.ref p) (.tup ds):=
 ⟨p,xs,rfl,.inl (hA.new hp),SqT.of GE,r.same λb o e=>by rw[B6 (FE e hp)];exact e⟩
theorem FF{p:Ak}(h:H p=Af)(o:HO):AG H (upd H p o):=λb u q=>by rw[B6 (FE q h)];exact q
def oF(K:Fg):R2:=λx y H Q=>∃ l b xs zs,x=.ref l/\y=.ref b/\SqL K H l xs/\SqL K H b zs/\xs.length+zs.length<=sizeLine/\∀ p,H p=Af->Q (.ref p) (upd H p (.lst (xs++zs)))
end
section
variable{X:Cx}{CL:ClA}{W:XW}
theorem RV:OpR X (BY .Add) (oF X.K):=by
 intro pI s Y H x y v u Q I rx ry h;obtain⟨l,b,xs,zs,rfl,rfl,hH,hB,hz,q⟩:=h;cases rx;cases ry;obtain⟨its,r,⟨o,n,e,c,dd,dt⟩,z⟩:=I.list hH;obtain⟨its2,r2,⟨o2,n2,e2,c2,dd2,dt2⟩,z2⟩:=I.list hB;have hl:=r.length;have hl2:=r2.length;obtain⟨cls,dd0,data,sl⟩:=o;obtain⟨cls2,dd02,data2,sl2⟩:=o2;simp only at c dd dt c2 dd2 dt2;subst c dd dt c2 dd2 dt2;have ea:its.toArray++its2.toArray=(its++its2).toArray:=by simp
 refine Ja ⟨_,e,rfl⟩ ⟨_,e2,rfl⟩ noFill_list_add seq_list_add PySem.F.slot_list_add PySem.F.entry_list_add (PySem.F.args_list_add_2 _ _) (list_addW l b its.toArray its2.toArray n n2 Af Af sl sl2 (by simp;omega)) ⟨e,e2,?_⟩
 rw[ea];exact⟨.ref _,_,I.lnew (t':=s.toks) (r.append r2) (by rw[Be];omega),rfl,q _ I.fresh⟩
theorem RU:OpD X CL W (BY .Add) (CG .Add):=by
 intro A pI s Y H x y v u Q I rx ry ⟨hA,dx,dy,hx,hy,p⟩;cases dx with
 |int i=>
  cases dy with
  |int j=>
   have ex:=hx.int_of;have ey:=hy.int_of
   subst ex ey;exact jY pI s Y H _ _ v u Q I rx ry ⟨i,j,rfl,rfl,p _ H (AG.refl H) rfl⟩
  |_=>exact p.elim
 |str i=>
  cases dy with
  |str j=>
   have ex:=hx.str_of;have ey:=hy.str_of
   subst ex ey;simp only[Ht]at p;split at p
   .rename_i h;exact Yh pI s Y H _ _ v u Q I rx ry ⟨i,j,rfl,rfl,IB h,p _ H (AG.refl H) rfl⟩
   .exact p.elim
  |_=>exact p.elim
 |lst ds=>
  cases dy with
  |lst es=>
   obtain⟨a,xs,rfl,s1,r1⟩:=hx.lst_of;obtain⟨b,ys,rfl,s2,r2⟩:=hy.lst_of;simp only[GY]at p;split at p
   .rename_i h;refine RV pI s Y H _ _ v u Q I rx ry ⟨a,b,xs,ys,rfl,rfl,s1,s2,by rw[r1.length,r2.length];exact IB h,λq hq=>?_⟩
    exact p _ _ (FF hq _) (RZ hA hq (r1.append r2))
   .exact p.elim
  |_=>exact p.elim
 |tup ds=>
  cases dy with
  |tup es=>
   obtain⟨a,xs,rfl,na1,s1,r1⟩:=hx.tup_of;obtain⟨b,ys,rfl,_,s2,r2⟩:=hy.tup_of;simp only[Sv]at p;split at p
   .rename_i h;simp only[Al]at h;refine dU pI s Y H _ _ v u Q I rx ry ⟨a,b,xs,ys,rfl,rfl,s1,s2,?_,by rw[r1.length,r2.length];exact IB h.2,λhy0=>?_,λ_ q hq=>?_⟩
    .rintro rfl;cases ds with
     |nil=>cases h.1
     |cons _ _=>exact r1.elim
    .subst hy0;cases es with
     |nil=>rw[Bo]at p;exact p _ H (AG.refl H) ⟨a,xs,rfl,na1,s1,r1⟩
     |cons _ _=>exact r2.elim
    .exact p _ _ (FF hq _) (Kr hA hq (r1.append r2))
   .exact p.elim
  |_=>exact p.elim
 |_=>exact p.elim
theorem Mu{op:Fa}{C:Ag->Ag->Prop}{g:Ag->Ag->Ag}(ho:OpR X (BY op) (rI C λi j=>.int (g i j)))(hg:∀ dx dy,(∃ i j,dx=.int i/\dy=.int j/\((C i j/\CG op dx dy=.ok (.int (g i j)))\/CG op dx dy=.bad))\/CG op dx dy=.bad):OpD X CL W (BY op) (CG op):=by
 intro A pI s Y H x y v u Q I rx ry ⟨hA,dx,dy,hx,hy,p⟩;rcases hg dx dy with ⟨i,j,rfl,rfl,⟨c,e⟩|e⟩|e
 .have ex:=hx.int_of;have ey:=hy.int_of
  subst ex ey;rw[e]at p;exact ho pI s Y H _ _ v u Q I rx ry ⟨i,j,rfl,rfl,c,p _ H (AG.refl H) rfl⟩
 .rw[e]at p;exact p.elim
 .rw[e]at p;exact p.elim
theorem dM:OpD X CL W (BY .Sub) (CG .Sub):=by
 intro A pI s Y H x y v u Q I rx ry ⟨hA,dx,dy,hx,hy,p⟩;cases dx with
 |int i=>
  cases dy with
  |int j=>
   have ex:=hx.int_of;have ey:=hy.int_of
   subst ex ey;exact jU pI s Y H _ _ v u Q I rx ry ⟨i,j,rfl,rfl,p _ H (AG.refl H) rfl⟩
  |_=>exact p.elim
 |_=>exact p.elim
theorem dO:OpD X CL W (BY .Mult) (CG .Mult):=Mu dR λdx dy=>by
 cases dx with
 |int i=>
  cases dy with
  |int j=>
   refine .inl ⟨i,j,rfl,rfl,?_⟩;rw[iN];split
   .rename_i h;exact .inl ⟨cM h,rfl⟩
   .exact .inr rfl
  |_=>exact .inr rfl
 |_=>exact .inr rfl
theorem ZJ:OpD X CL W (BY .FloorDiv) (CG .FloorDiv):=Mu dS λdx dy=>by
 cases dx with
 |int i=>
  cases dy with
  |int j=>
   refine .inl ⟨i,j,rfl,rfl,?_⟩;rw[cE];split
   .rename_i h;exact .inl ⟨h,rfl⟩
   .exact .inr rfl
  |_=>exact .inr rfl
 |_=>exact .inr rfl
theorem dP:OpD X CL W (BY .Mod) (CG .Mod):=Mu jW λdx dy=>by
 cases dx with
 |int i=>
  cases dy with
  |int j=>
   refine .inl ⟨i,j,rfl,rfl,?_⟩;rw[iP];split
   .rename_i h;exact .inl ⟨h,rfl⟩
   .exact .inr rfl
  |_=>exact .inr rfl
 |_=>exact .inr rfl
theorem dN:OpD X CL W (BY .Pow) (CG .Pow):=Mu jV λdx dy=>by
 cases dx with
 |int i=>
  cases dy with
  |int j=>
   refine .inl ⟨i,j,rfl,rfl,?_⟩;rw[jJ];split
   .rename_i h;exact .inl ⟨⟨h.1.1,h.1.2,by omega⟩,rfl⟩
   .exact .inr rfl
  |_=>exact .inr rfl
 |_=>exact .inr rfl
theorem Oq(op:Fa):OpD X CL W (BY op) (CG op):=by
 cases op with
 |Add=>exact RU
 |Sub=>exact dM
 |Mult=>exact dO
 |FloorDiv=>exact ZJ
 |Mod=>exact dP
 |Pow=>exact dN
 |_=>
  intro A pI s Y H x y v u Q I rx ry ⟨hA,dx,dy,hx,hy,p⟩;exact p.elim
noncomputable abbrev A0:Ak->Prop:=λ_=>A5
theorem CF.plain(h:CF K CL H A v d):Rep K CL H A0 v d:=by
 rcases h with h|⟨a,xs,ds,rfl,rfl,e,r⟩
 .exact Rep.sub (λ_ z=>z.elim) d h
 .exact⟨a,xs,rfl,.inl λz=>z.elim,SqL.of e,Reps.sub (λ_ z=>z.elim) ds r⟩
mutual
theorem Mk:∀(n:Ae)(d:D),flD n d=Aa->eqD d d=Aa
 |_,.non,_=>rfl
 |_,.bl b,_=>by simp
 |_,.int i,_=>by simp
 |_,.str x,_=>by simp
 |n+1,.tup ds,h=>by
  show eqDs ds ds=Aa;exact eqDs_refl n ds h
 |n+1,.lst ds,h=>by
  show eqDs ds ds=Aa;exact eqDs_refl n ds h
 |0,.tup ds,h=>by cases h
 |0,.lst ds,h=>by cases h
 |n,.obj _ _,h=>by cases n<;>cases h
 |n,.exc _ _,h=>by cases n<;>cases h
 |n,.dic _,h=>by cases n<;>cases h
theorem eqDs_refl:∀(n:Ae)(ds:Ac D),ds.all (flD n)=Aa->eqDs ds ds=Aa
 |_,[],_=>rfl
 |n,d::ds,h=>by
  simp only[C5,Al]at h;simp only[NS,Al];exact⟨Mk n d h.1,eqDs_refl n ds h.2⟩
end
theorem Qs(I:Inv X pI Y H s)(h:SqL X.K H a xs)(h':SqT X.K H a ys):A5:=by
 obtain⟨its,r,⟨o,n,e,c,_,_⟩,_⟩:=I.list h;obtain⟨its',r',⟨o',e',c',_⟩,_⟩:=I.tuple h';rw[e]at e';cases e';rw[c]at c'
 injection c' with z
 exact absurd z (by decide)
mutual
theorem Mr{pI:Pn}{Y:L2.St}{H:Hp}{s:Ap}(I:Inv X pI Y H s):∀(n:Ae)(d e:D){v:V},flD n d=Aa->flD n e=Aa->Rep X.K CL H A0 v d->Rep X.K CL H A0 v e->d=e
 |n,.tup ds,e,v,hd,he,r,q=>by
  obtain⟨a,xs,rfl,_,s1,r1⟩:=r;cases e with
  |tup es=>
   obtain⟨b,ys,e,_,s2,r2⟩:=q;cases e;have z:=I.tuple_inj s1 s2;subst z;cases n with
   |zero=>cases hd
   |succ n=>rw[reps_inj I n ds es hd he r1 r2]
  |lst es=>
   obtain⟨b,ys,e,_,s2,r2⟩:=q;cases e;exact(Qs I s2 s1).elim
  |obj=>cases n<;>cases he
  |exc=>cases n<;>cases he
  |dic=>cases n<;>cases he
  |_=>cases q
 |n,.lst ds,e,v,hd,he,r,q=>by
  obtain⟨a,xs,rfl,_,s1,r1⟩:=r;cases e with
  |lst es=>
   obtain⟨b,ys,e,_,s2,r2⟩:=q;cases e;have z:=I.list_inj s1 s2;subst z;cases n with
   |zero=>cases hd
   |succ n=>rw[reps_inj I n ds es hd he r1 r2]
  |tup es=>
   obtain⟨b,ys,e,_,s2,r2⟩:=q;cases e;exact(Qs I s1 s2).elim
  |obj=>cases n<;>cases he
  |exc=>cases n<;>cases he
  |dic=>cases n<;>cases he
  |_=>cases q
 |n,.obj _ _,e,v,hd,he,r,q=>by cases n<;>cases hd
 |n,.exc _ _,e,v,hd,he,r,q=>by cases n<;>cases hd
 |n,.dic _,e,v,hd,he,r,q=>by cases n<;>cases hd
 |n,.non,e,v,hd,he,r,q=>by
  cases r;cases e with
  |tup=>obtain⟨_,_,z,_⟩:=q;cases z
  |lst=>obtain⟨_,_,z,_⟩:=q;cases z
  |obj=>cases n<;>cases he
  |exc=>cases n<;>cases he
  |dic=>cases n<;>cases he
  |_=>cases q<;>rfl
 |n,.bl b,e,v,hd,he,r,q=>by
  cases r;cases e with
  |tup=>obtain⟨_,_,z,_⟩:=q;cases z
  |lst=>obtain⟨_,_,z,_⟩:=q;cases z
  |obj=>cases n<;>cases he
  |exc=>cases n<;>cases he
  |dic=>cases n<;>cases he
  |_=>cases q<;>rfl
 |n,.int b,e,v,hd,he,r,q=>by
  cases r;cases e with
  |tup=>obtain⟨_,_,z,_⟩:=q;cases z
  |lst=>obtain⟨_,_,z,_⟩:=q;cases z
  |obj=>cases n<;>cases he
  |exc=>cases n<;>cases he
  |dic=>cases n<;>cases he
  |_=>cases q<;>rfl
 |n,.str b,e,v,hd,he,r,q=>by
  cases r;cases e with
  |tup=>obtain⟨_,_,z,_⟩:=q;cases z
  |lst=>obtain⟨_,_,z,_⟩:=q;cases z
  |obj=>cases n<;>cases he
  |exc=>cases n<;>cases he
  |dic=>cases n<;>cases he
  |_=>cases q<;>rfl
theorem reps_inj{pI:Pn}{Y:L2.St}{H:Hp}{s:Ap}(I:Inv X pI Y H s):∀(n:Ae)(ds es:Ac D){xs:Ac V},ds.all (flD n)=Aa->es.all (flD n)=Aa->Reps X.K CL H A0 xs ds->Reps X.K CL H A0 xs es->ds=es
 |_,[],[],_,_,_,_,_=>rfl
 |n,d::ds,e::es,x::xs,hd,he,r,q=>by
  simp only[C5,Al]at hd he;rw[Mr I n d e hd.1 he.1 r.1 q.1,reps_inj I n ds es hd.2 he.2 r.2 q.2]
 |_,[],_::_,[],_,_,_,q=>q.elim
 |_,[],_::_,_::_,_,_,r,_=>r.elim
 |_,_::_,[],[],_,_,r,_=>r.elim
 |_,_::_,[],_::_,_,_,_,q=>q.elim
 |_,_::_,_::_,[],_,_,r,_=>r.elim
end
theorem Ln:∀{ds es:Ac D},ds.length≠es.length->eqDs ds es=Ad
 |[],[],h=>absurd rfl h
 |[],_::_,_=>rfl
 |_::_,[],_=>rfl
 |d::ds,e::es,h=>by
  simp only[NS,Ln (ds:=ds) (es:=es) (by simpa using h),Fk]
theorem PY(n:Ae)(f:Ae->Ai):(A8 (n+1)).all f=(f 0&&(A8 n).all λj=>f (j+1)):=by
 rw[EC,C5,E6];rfl
theorem Lo:∀{ds es:Ac D},ds.length=es.length->eqDs ds es=(A8 ds.length).all λj=>eqD (ds.getD j .non) (es.getD j .non)
 |[],[],_=>rfl
 |d::ds,e::es,h=>by
  rw[NS,Lo (ds:=ds) (es:=es) (by simpa using h),AS,PY]
  rfl
 |[],_::_,h=>by cases h
 |_::_,[],h=>by cases h
theorem JN{ds:Ac D}{its:Ac Aj}(r:Reps K CL H A0 xs ds)(rv:A6 xs its){j:Ae}(h:j<its.length):∃ x,Rep K CL H A0 x (ds.getD j .non)/\Bx x its[j]:=by
 have e1:=rv.length;have e2:=r.length;have hd:ds[j]?=Ab (ds.getD j .non):=by
  rw[Ba,AE (by omega)];rfl
 obtain⟨x,hx,q⟩:=r.get hd;obtain⟨u,hu,ru⟩:=rv.get hx;refine⟨x,q,?_⟩;rw[AE h]at hu;cases hu;exact ru
theorem JC{ds:Ac D}(h:ds.all (flD n)=Aa)(j:Ae):flD n (ds.getD j .non)=Aa:=by
 rw[Ba];cases e:ds[j]? with
 |none=>cases n<;>rfl
 |some d=>exact List.all_eq_true.mp h d (Vj e)
def Cu(B:AT)(s:Ap)(u t:Aj)(k:Ai):Prop:=JZ B s u t k/\Gg B s u t k/\IZ B s u t (!k)
section
variable{B:AT}{s:Ap}
open SeqAt
theorem mO:Cu B s .none .none Aa:=⟨RcAt.none_none,EqAt.same _,RcNeAt.none_none⟩
theorem lY(a b:Ai):Cu B s (.bool a) (.bool b) (a==b):=⟨RcAt.bool_bool _ _,EqAt.bool_bool _ _,RcNeAt.bool_bool _ _⟩
theorem mR(b:Ai):Cu B s .none (.bool b) Ad:=⟨RcAt.none_bool _,EqAt.none_bool _,RcNeAt.none_bool _⟩
theorem lV(b:Ai):Cu B s (.bool b) .none Ad:=⟨RcAt.bool_none _,EqAt.bool_none _,RcNeAt.bool_none _⟩
theorem nC(a:Ag)(t:BV)(b:Ag)(u:BV):Cu B s (.int a t) (.int b u) (a==b):=⟨RcAt.int_int _ _ _ _,EqAt.int_int _ _ _ _,RcNeAt.int_int _ _ _ _⟩
theorem mG(a:Ah)(t:BV)(b:Ah)(u:BV):Cu B s (.str a t) (.str b u) (a==b):=⟨RcAt.str_str _ _ _ _,EqAt.str_str _ _ _ _,RcNeAt.str_str _ _ _ _⟩
theorem mY(a:Ag)(t:BV)(b:Ah)(u:BV):Cu B s (.int a t) (.str b u) Ad:=⟨RcAt.int_str _ _ _ _,EqAt.int_str _ _ _ _,RcNeAt.int_str _ _ _ _⟩
theorem mJ(a:Ah)(t:BV)(b:Ag)(u:BV):Cu B s (.str a t) (.int b u) Ad:=⟨RcAt.str_int _ _ _ _,EqAt.str_int _ _ _ _,RcNeAt.str_int _ _ _ _⟩
theorem mQ(b:Ag)(u:BV):Cu B s .none (.int b u) Ad:=⟨RcAt.none_int _ _,EqAt.none_int _ _,RcNeAt.none_int _ _⟩
theorem mZ(b:Ag)(u:BV):Cu B s (.int b u) .none Ad:=⟨RcAt.int_none _ _,EqAt.int_none _ _,RcNeAt.int_none _ _⟩
theorem mM(b:Ah)(u:BV):Cu B s .none (.str b u) Ad:=⟨RcAt.none_str _ _,EqAt.none_str _ _,RcNeAt.none_str _ _⟩
theorem mH(b:Ah)(u:BV):Cu B s (.str b u) .none Ad:=⟨RcAt.str_none _ _,EqAt.str_none _ _,RcNeAt.str_none _ _⟩
theorem lX(a:Ai)(b:Ag)(u:BV):Cu B s (.bool a) (.int b u) (b2i a==b):=⟨RcAt.bool_int _ _ _,EqAt.bool_int _ _ _,RcNeAt.bool_int _ _ _⟩
theorem nE(a:Ai)(b:Ag)(u:BV):Cu B s (.int b u) (.bool a) (b==b2i a):=⟨RcAt.int_bool _ _ _,EqAt.int_bool _ _ _,RcNeAt.int_bool _ _ _⟩
theorem lU(a:Ai)(b:Ah)(u:BV):Cu B s (.bool a) (.str b u) Ad:=⟨RcAt.bool_str _ _ _,EqAt.bool_str _ _ _,RcNeAt.bool_str _ _ _⟩
theorem mK(a:Ai)(b:Ah)(u:BV):Cu B s (.str b u) (.bool a) Ad:=⟨RcAt.str_bool _ _ _,EqAt.str_bool _ _ _,RcNeAt.str_bool _ _ _⟩
variable{l:Ak}{items:Ax Aj}
theorem mU(h:s.heap.IsList l items)(hu:B.units<Cf):Cu B s (.ref l) .none Ad:=⟨RcAt.list_none h hu,EqAt.list_none h hu,RcNeAt.list_none h hu⟩
theorem mP(h:s.heap.IsList l items)(hu:B.units<Cf):Cu B s .none (.ref l) Ad:=⟨RcAt.none_list h hu,EqAt.none_list h hu,RcNeAt.none_list h hu⟩
theorem mW(b:Ai)(h:s.heap.IsList l items)(hu:B.units<Cf):Cu B s (.ref l) (.bool b) Ad:=⟨RcAt.list_bool b h hu,EqAt.list_bool b h hu,RcNeAt.list_bool b h hu⟩
theorem lW(b:Ai)(h:s.heap.IsList l items)(hu:B.units<Cf):Cu B s (.bool b) (.ref l) Ad:=⟨RcAt.bool_list b h hu,EqAt.bool_list b h hu,RcNeAt.bool_list b h hu⟩
theorem mV(b:Ag)(u:BV)(h:s.heap.IsList l items)(hu:B.units<Cf):Cu B s (.ref l) (.int b u) Ad:=⟨RcAt.list_int b u h hu,EqAt.list_int b u h hu,RcNeAt.list_int b u h hu⟩
theorem nB(b:Ag)(u:BV)(h:s.heap.IsList l items)(hu:B.units<Cf):Cu B s (.int b u) (.ref l) Ad:=⟨RcAt.int_list b u h hu,EqAt.int_list b u h hu,RcNeAt.int_list b u h hu⟩
theorem mT(b:Ah)(u:BV)(h:s.heap.IsList l items)(hu:B.units<Cf):Cu B s (.ref l) (.str b u) Ad:=⟨RcAt.list_str b u h hu,EqAt.list_str b u h hu,RcNeAt.list_str b u h hu⟩
theorem mI(b:Ah)(u:BV)(h:s.heap.IsList l items)(hu:B.units<Cf):Cu B s (.str b u) (.ref l) Ad:=⟨RcAt.str_list b u h hu,EqAt.str_list b u h hu,RcNeAt.str_list b u h hu⟩
theorem nJ(h:s.heap.IsTuple l items)(hu:B.units<Cf):Cu B s (.ref l) .none Ad:=⟨RcAt.tuple_none h hu,EqAt.tuple_none h hu,RcNeAt.tuple_none h hu⟩
theorem mL(h:s.heap.IsTuple l items)(hu:B.units<Cf):Cu B s .none (.ref l) Ad:=⟨RcAt.none_tuple h hu,EqAt.none_tuple h hu,RcNeAt.none_tuple h hu⟩
theorem mE(b:Ai)(h:s.heap.IsTuple l items)(hu:B.units<Cf):Cu B s (.ref l) (.bool b) Ad:=⟨RcAt.tuple_bool b h hu,EqAt.tuple_bool b h hu,RcNeAt.tuple_bool b h hu⟩
theorem nF(b:Ai)(h:s.heap.IsTuple l items)(hu:B.units<Cf):Cu B s (.bool b) (.ref l) Ad:=⟨RcAt.bool_tuple b h hu,EqAt.bool_tuple b h hu,RcNeAt.bool_tuple b h hu⟩
theorem mD(b:Ag)(u:BV)(h:s.heap.IsTuple l items)(hu:B.units<Cf):Cu B s (.ref l) (.int b u) Ad:=⟨RcAt.tuple_int b u h hu,EqAt.tuple_int b u h hu,RcNeAt.tuple_int b u h hu⟩
theorem mX(b:Ag)(u:BV)(h:s.heap.IsTuple l items)(hu:B.units<Cf):Cu B s (.int b u) (.ref l) Ad:=⟨RcAt.int_tuple b u h hu,EqAt.int_tuple b u h hu,RcNeAt.int_tuple b u h hu⟩
theorem nI(b:Ah)(u:BV)(h:s.heap.IsTuple l items)(hu:B.units<Cf):Cu B s (.ref l) (.str b u) Ad:=⟨RcAt.tuple_str b u h hu,EqAt.tuple_str b u h hu,RcNeAt.tuple_str b u h hu⟩
theorem mF(b:Ah)(u:BV)(h:s.heap.IsTuple l items)(hu:B.units<Cf):Cu B s (.str b u) (.ref l) Ad:=⟨RcAt.str_tuple b u h hu,EqAt.str_tuple b u h hu,RcNeAt.str_tuple b u h hu⟩
theorem mS(h:s.heap.IsList l items)(h2:s.heap.IsTuple b items2)(hu:B.units<Cf):Cu B s (.ref l) (.ref b) Ad:=⟨RcAt.list_tuple h h2 hu,EqAt.list_tuple h h2 hu,RcNeAt.list_tuple h h2 hu⟩
theorem nK(h:s.heap.IsTuple l items)(h2:s.heap.IsList b items2)(hu:B.units<Cf):Cu B s (.ref l) (.ref b) Ad:=⟨RcAt.tuple_list h h2 hu,EqAt.tuple_list h h2 hu,RcNeAt.tuple_list h h2 hu⟩
end
end
section
variable{X:Cx}{CL:ClA}{W:XW}
theorem Kz(x:PlainL h a its):h.IsList a its:=let ⟨o,n,e,c,_,d⟩:=x;⟨o,e,c,n,d⟩
def pR(X:Cx)(CL:ClA)(H:Hp)(s:Ap)(d:D)(u:Aj):Prop:=match d with
  |.non=>u=.none
  |.bl b=>u=.bool b
  |.int i=>∃ t,u=.int i t
  |.str x=>∃ t,u=.str x t
  |.tup ds=>∃ a xs its,u=.ref a/\Reps X.K CL H A0 xs ds/\A6 xs its/\s.heap.IsTuple a its.toArray
  |.lst ds=>∃ a xs its,u=.ref a/\Reps X.K CL H A0 xs ds/\A6 xs its/\s.heap.IsList a its.toArray
  |_=>A5
theorem Sa(I:Inv X pI Y H s)(hd:flD n d=Aa)(r:Rep X.K CL H A0 v d)(q:Bx v u):pR X CL H s d u:=by
 cases d with
 |non=>cases r;exact q
 |bl b=>cases r;exact q
 |int b=>cases r;exact q
 |str b=>cases r;exact q
 |tup ds=>
  obtain⟨a,xs,rfl,_,sq,r⟩:=r;obtain⟨its,rv,p,_⟩:=I.tuple sq;cases q;exact⟨a,xs,its,rfl,r,rv,p⟩
 |lst ds=>
  obtain⟨a,xs,rfl,_,sq,r⟩:=r;obtain⟨its,rv,p,_⟩:=I.list sq;cases q;exact⟨a,xs,its,rfl,r,rv,Kz p⟩
 |obj=>cases n<;>cases hd
 |exc=>cases n<;>cases hd
 |dic=>cases n<;>cases hd
theorem aV{B:AT}{its:Ac Aj}{ds es:Ac D}(hl:s.heap.IsList l its.toArray)(hb:s.heap.IsList b its2.toArray)(e1:its.length=ds.length)(e2:its2.length=es.length)(hu:B.units<Cf)(hs:l=b->eqDs ds es=Aa)(he:∀ j (h1:j<its.length) (h2:j<its2.length),Gg B.in1 s its[j] its2[j] (eqD (ds.getD j .non) (es.getD j .non))):Cu B s (.ref l) (.ref b) (eqDs ds es):=by
 have rc:JZ B s (.ref l) (.ref b) (eqDs ds es):=by
  by_cases hz:its.length=its2.length
  .have q:=SeqAt.RcAt.lists (e:=λj=>eqD (ds.getD j .non) (es.getD j .non)) hl hb (by simpa using hz) hu (λj h1 h2=>by simpa using he j (by simpa using h1) (by simpa using h2))
   rw[Lo (by omega)]
   have e:its.toArray.size=ds.length:=by simpa using e1
   rw[e]at q;exact q
  .rw[Ln (by omega)]
   exact SeqAt.RcAt.lists_lengths hl hb (by simpa using hz) hu
 have ne:IZ B s (.ref l) (.ref b) (!eqDs ds es):=by
  by_cases hz:its.length=its2.length
  .have q:=SeqAt.RcNeAt.lists (e:=λj=>eqD (ds.getD j .non) (es.getD j .non)) hl hb (by simpa using hz) hu (λj h1 h2=>by simpa using he j (by simpa using h1) (by simpa using h2))
   rw[Lo (by omega)]
   have e:its.toArray.size=ds.length:=by simpa using e1
   rw[e]at q;exact q
  .rw[Ln (by omega)]
   exact SeqAt.RcNeAt.lists_lengths hl hb (by simpa using hz) hu
 refine⟨rc,?_,ne⟩;by_cases hlb:l=b
 .rw[hs hlb,hlb];exact WI _
 .exact WH hlb rc
theorem aU{B:AT}{its:Ac Aj}{ds es:Ac D}(hl:s.heap.IsTuple l its.toArray)(hb:s.heap.IsTuple b its2.toArray)(e1:its.length=ds.length)(e2:its2.length=es.length)(hu:B.units<Cf)(hs:l=b->eqDs ds es=Aa)(he:∀ j (h1:j<its.length) (h2:j<its2.length),Gg B.in1 s its[j] its2[j] (eqD (ds.getD j .non) (es.getD j .non))):Cu B s (.ref l) (.ref b) (eqDs ds es):=by
 have rc:JZ B s (.ref l) (.ref b) (eqDs ds es):=by
  have q:=SeqAt.RcAt.tuples (e:=λj=>eqD (ds.getD j .non) (es.getD j .non)) hl hb hu (λj h1 h2=>by simpa using he j (by simpa using h1) (by simpa using h2))
  have e:its.toArray.size=ds.length:=by simpa using e1
  have e':its2.toArray.size=es.length:=by simpa using e2
  rw[e,e']at q;by_cases hz:ds.length=es.length
  .rw[Lo hz];rw[hz,Vw,EU,UV]at q;rw[hz];exact q
  .rw[Ln hz];rw[E1.mpr hz,Fk]at q;exact q
 have ne:IZ B s (.ref l) (.ref b) (!eqDs ds es):=by
  have q:=SeqAt.RcNeAt.tuples (e:=λj=>eqD (ds.getD j .non) (es.getD j .non)) hl hb hu (λj h1 h2=>by simpa using he j (by simpa using h1) (by simpa using h2))
  have e:its.toArray.size=ds.length:=by simpa using e1
  have e':its2.toArray.size=es.length:=by simpa using e2
  rw[e,e']at q;by_cases hz:ds.length=es.length
  .rw[Lo hz];rw[hz,Vw,EU,UV]at q;rw[hz];exact q
  .rw[Ln hz];rw[E1.mpr hz,Fk]at q;exact q
 refine⟨rc,?_,ne⟩;by_cases hlb:l=b
 .rw[hs hlb,hlb];exact WI _
 .exact WH hlb rc
theorem LD{pI:Pn}{Y:L2.St}{H:Hp}{s:Ap}(I:Inv X pI Y H s):∀(n:Ae)(d e:D)(v w':V)(u t:Aj)(B:AT),flD n d=Aa->flD n e=Aa->Rep X.K CL H A0 v d->Rep X.K CL H A0 w' e->Bx v u->Bx w' t->B.units+n<Cf->Cu B s u t (eqD d e)
  |n,d,e,v,w',u,t,B,hd,he,r,q,rv,rw',hu=>by
    have hu0:B.units<Cf:=by omega
    have sd:=Sa I hd r rv;have se:=Sa I he q rw'
    match d,e,sd,se with
    |.non,.non,s1,s2=>cases s1;cases s2;exact mO
    |.non,.bl b,s1,s2=>cases s1;cases s2;exact mR b
    |.non,.int b,s1,s2=>cases s1;obtain⟨_,rfl⟩:=s2;exact mQ b _
    |.non,.str b,s1,s2=>cases s1;obtain⟨_,rfl⟩:=s2;exact mM b _
    |.non,.tup es,s1,s2=>cases s1;obtain⟨_,_,_,rfl,_,_,p⟩:=s2;exact mL p hu0
    |.non,.lst es,s1,s2=>cases s1;obtain⟨_,_,_,rfl,_,_,p⟩:=s2;exact mP p hu0
    |.bl a,.non,s1,s2=>cases s1;cases s2;exact lV a
    |.bl a,.bl b,s1,s2=>cases s1;cases s2;exact lY a b
    |.bl a,.int b,s1,s2=>cases s1;obtain⟨_,rfl⟩:=s2;exact lX a b _
    |.bl a,.str b,s1,s2=>cases s1;obtain⟨_,rfl⟩:=s2;exact lU a b _
    |.bl a,.tup es,s1,s2=>cases s1;obtain⟨_,_,_,rfl,_,_,p⟩:=s2;exact nF a p hu0
    |.bl a,.lst es,s1,s2=>cases s1;obtain⟨_,_,_,rfl,_,_,p⟩:=s2;exact lW a p hu0
    |.int a,.non,s1,s2=>obtain⟨_,rfl⟩:=s1;cases s2;exact mZ a _
    |.int a,.bl b,s1,s2=>obtain⟨_,rfl⟩:=s1;cases s2;exact nE b a _
    |.int a,.int b,s1,s2=>obtain⟨_,rfl⟩:=s1;obtain⟨_,rfl⟩:=s2;exact nC a _ b _
    |.int a,.str b,s1,s2=>obtain⟨_,rfl⟩:=s1;obtain⟨_,rfl⟩:=s2;exact mY a _ b _
    |.int a,.tup es,s1,s2=>obtain⟨_,rfl⟩:=s1;obtain⟨_,_,_,rfl,_,_,p⟩:=s2;exact mX a _ p hu0
    |.int a,.lst es,s1,s2=>obtain⟨_,rfl⟩:=s1;obtain⟨_,_,_,rfl,_,_,p⟩:=s2;exact nB a _ p hu0
    |.str a,.non,s1,s2=>obtain⟨_,rfl⟩:=s1;cases s2;exact mH a _
    |.str a,.bl b,s1,s2=>obtain⟨_,rfl⟩:=s1;cases s2;exact mK b a _
    |.str a,.int b,s1,s2=>obtain⟨_,rfl⟩:=s1;obtain⟨_,rfl⟩:=s2;exact mJ a _ b _
    |.str a,.str b,s1,s2=>obtain⟨_,rfl⟩:=s1;obtain⟨_,rfl⟩:=s2;exact mG a _ b _
    |.str a,.tup es,s1,s2=>obtain⟨_,rfl⟩:=s1;obtain⟨_,_,_,rfl,_,_,p⟩:=s2;exact mF a _ p hu0
    |.str a,.lst es,s1,s2=>obtain⟨_,rfl⟩:=s1;obtain⟨_,_,_,rfl,_,_,p⟩:=s2;exact mI a _ p hu0
    |.tup ds,.non,s1,s2=>cases s2;obtain⟨_,_,_,rfl,_,_,p⟩:=s1;exact nJ p hu0
    |.tup ds,.bl b,s1,s2=>cases s2;obtain⟨_,_,_,rfl,_,_,p⟩:=s1;exact mE b p hu0
    |.tup ds,.int b,s1,s2=>obtain⟨_,rfl⟩:=s2;obtain⟨_,_,_,rfl,_,_,p⟩:=s1;exact mD b _ p hu0
    |.tup ds,.str b,s1,s2=>obtain⟨_,rfl⟩:=s2;obtain⟨_,_,_,rfl,_,_,p⟩:=s1;exact nI b _ p hu0
    |.tup ds,.lst es,s1,s2=>obtain⟨_,_,_,rfl,_,_,p⟩:=s1;obtain⟨_,_,_,rfl,_,_,p2⟩:=s2;exact nK p p2 hu0
    |.lst ds,.non,s1,s2=>cases s2;obtain⟨_,_,_,rfl,_,_,p⟩:=s1;exact mU p hu0
    |.lst ds,.bl b,s1,s2=>cases s2;obtain⟨_,_,_,rfl,_,_,p⟩:=s1;exact mW b p hu0
    |.lst ds,.int b,s1,s2=>obtain⟨_,rfl⟩:=s2;obtain⟨_,_,_,rfl,_,_,p⟩:=s1;exact mV b _ p hu0
    |.lst ds,.str b,s1,s2=>obtain⟨_,rfl⟩:=s2;obtain⟨_,_,_,rfl,_,_,p⟩:=s1;exact mT b _ p hu0
    |.lst ds,.tup es,s1,s2=>obtain⟨_,_,_,rfl,_,_,p⟩:=s1;obtain⟨_,_,_,rfl,_,_,p2⟩:=s2;exact mS p p2 hu0
    |.tup ds,.tup es,s1,s2=>
      match n,hd,he,hu with
      |n+1,hd,he,hu=>
        obtain⟨a,xs,its,rfl,r1,v1,p1⟩:=s1;obtain⟨b,ys,its2,rfl,r2,v2,p2⟩:=s2;have l1:=v1.length;have l2:=r1.length;have l3:=v2.length;have l4:=r2.length
        refine aU p1 p2 (by omega) (by omega) hu0 (λhab=>?_) λj h1 h2=>?_
        · have e1:v=.ref a:=Bx.inj rv rfl;have e2:w'=.ref b:=Bx.inj rw' rfl;subst e1 e2 hab;have z:=Mr I (n+1) _ _ hd he r q
          injection z with z
          rw[z];exact eqDs_refl n es he
        · obtain⟨x,rx,qx⟩:=JN r1 v1 h1;obtain⟨y,ry,qy⟩:=JN r2 v2 h2;exact(LD I n _ _ x y _ _ B.in1 (JC hd j) (JC he j) rx ry qx qy (by show B.units+1+n<Cf;omega)).2.1
    |.lst ds,.lst es,s1,s2=>
      match n,hd,he,hu with
      |n+1,hd,he,hu=>
        obtain⟨a,xs,its,rfl,r1,v1,p1⟩:=s1;obtain⟨b,ys,its2,rfl,r2,v2,p2⟩:=s2;have l1:=v1.length;have l2:=r1.length;have l3:=v2.length;have l4:=r2.length
        refine aV p1 p2 (by omega) (by omega) hu0 (λhab=>?_) λj h1 h2=>?_
        · have e1:v=.ref a:=Bx.inj rv rfl;have e2:w'=.ref b:=Bx.inj rw' rfl;subst e1 e2 hab;have z:=Mr I (n+1) _ _ hd he r q
          injection z with z
          rw[z];exact eqDs_refl n es he
        · obtain⟨x,rx,qx⟩:=JN r1 v1 h1;obtain⟨y,ry,qy⟩:=JN r2 v2 h2;exact(LD I n _ _ x y _ _ B.in1 (JC hd j) (JC he j) rx ry qx qy (by show B.units+1+n<Cf;omega)).2.1
    |.obj _ _,_,s1,_=>exact s1.elim
    |.exc _ _,_,s1,_=>exact s1.elim
    |.dic _,_,s1,_=>exact s1.elim
    |_,.obj _ _,_,s2=>exact s2.elim
    |_,.exc _ _,_,s2=>exact s2.elim
    |_,.dic _,_,s2=>exact s2.elim
end
section
variable{X:Cx}{CL:ClA}{W:XW}
theorem MD(I:Inv X pI Y H s){ds:Ac D}{its:Ac Aj}(B:AT)(hd:flD n d=Aa)(hs:ds.all (flD n)=Aa)(r:Reps X.K CL H A0 xs ds)(rv:A6 xs its)(q:Rep X.K CL H A0 v d)(qv:Bx v u)(hu:B.units+n<Cf):∃ e:Aj->Ai,(∀ y,y∈its.toArray->Gg B s y u (e y))/\its.toArray.any e=ds.any λy=>eqD y d:=by
 have l1:=rv.length;have l2:=r.length
 have key:∀ y,y∈its->∃ k:Ai,Gg B s y u k/\∀ j (h:j<its.length),its[j]=y->eqD (ds.getD j .non) d=k:=λy hy=>by
  obtain⟨j,hj,rfl⟩:=Em hy;obtain⟨x,rx,qx⟩:=JN r rv hj;refine⟨eqD (ds.getD j .non) d,(LD I n _ _ x v _ _ B (JC hs j) hd rx q qx qv hu).2.1,λj' hj' e=>?_⟩
  obtain⟨x',rx',qx'⟩:=JN r rv hj';rw[e]at qx';have z:=Bx.inj qx qx';subst z;rw[Mr I n _ _ (JC hs j') (JC hs j) rx' rx]
 have key2:∀ y,∃ k:Ai,y∈its->Gg B s y u k/\∀ j (h:j<its.length),its[j]=y->eqD (ds.getD j .non) d=k:=λy=>by
  by_cases hy:y∈its
  .obtain⟨k,hk⟩:=key y hy;exact⟨k,λ_=>hk⟩
  .exact⟨Aa,λh=>absurd h hy⟩
 refine⟨λy=>UX (key2 y),λy hy=>(EH (key2 y) (by simpa using hy)).1,?_⟩
 rw[Hy];simp only[List.any_toArray,FS];constructor
 .rintro⟨y,hy,hk⟩;obtain⟨j,hj,rfl⟩:=Em hy;have z:=(EH (key2 its[j]) hy).2 j hj rfl;rw[hk]at z;refine⟨ds.getD j .non,?_,z⟩;rw[Ba,AE (by omega)]
  exact BH _
 .rintro⟨y,hy,hk⟩;obtain⟨j,hj,rfl⟩:=Em hy;have hj':j<its.length:=by omega
  refine⟨its[j],BH _,?_⟩;have z:=(EH (key2 its[j]) (BH _)).2 j hj' rfl;rw[<-z,Ba,AE hj];exact hk
theorem Mf{g:Ag->Ag->Ai}(ho:OpR X (CC op) (rI0 λi j=>.bl (g i j)))(hg:∀ dx dy,(∃ i j,dx=.int i/\dy=.int j/\BK op dx dy=.ok (.bl (g i j)))\/BK op dx dy=.bad):OpD X CL W (CC op) (BK op):=by
 intro A pI s Y H x y v u Q I rx ry ⟨hA,dx,dy,hx,hy,p⟩;rcases hg dx dy with ⟨i,j,rfl,rfl,e⟩|e
 .have ex:=hx.int_of;have ey:=hy.int_of
  subst ex ey;rw[e]at p;exact ho pI s Y H _ _ v u Q I rx ry ⟨i,j,rfl,rfl,p _ H (AG.refl H) rfl⟩
 .rw[e]at p;exact p.elim
theorem SK{x:V}(h:CF X.K CL H A x d)(hd:d≠.non):x≠.non:=by
 rintro rfl;have h:=h.plain;cases d with
 |non=>exact hd rfl
 |tup=>obtain⟨_,_,e,_⟩:=h;cases e
 |lst=>obtain⟨_,_,e,_⟩:=h;cases e
 |obj=>obtain⟨_,_,_,_,e,_⟩:=h;cases e
 |exc=>obtain⟨_,_,_,e,_⟩:=h;cases e
 |dic=>exact h.elim
 |_=>cases h
theorem Mv(hu:X.A.units+64<Cf)(op:Do):OpD X CL W (CC op) (BK op):=by
 cases op with
 |Eq=>
  intro A pI s Y H x y v u Q I rx ry ⟨hA,dx,dy,hx,hy,p⟩;rw[pD]at p;split at p
  .rename_i h;simp only[Al]at h;exact(LD I 5 dx dy x y v u X.A h.1 h.2 hx.plain hy.plain rx ry (by omega)).1 X.prog X.w X.xe _ ⟨.bl _,H,I,rfl,p _ H (AG.refl H) rfl⟩
  .exact p.elim
 |NotEq=>
  intro A pI s Y H x y v u Q I rx ry ⟨hA,dx,dy,hx,hy,p⟩;rw[nR]at p;split at p
  .rename_i h;simp only[Al]at h;exact(LD I 5 dx dy x y v u X.A h.1 h.2 hx.plain hy.plain rx ry (by omega)).2.2 X.prog X.w X.xe _ ⟨.bl _,H,I,rfl,p _ H (AG.refl H) rfl⟩
  .exact p.elim
 |Lt=>
  refine Mf oR λdx dy=>?_
  cases dx with
  |int i=>
   cases dy with
   |int j=>exact .inl ⟨i,j,rfl,rfl,rfl⟩
   |_=>exact .inr rfl
  |_=>exact .inr rfl
 |LtE=>
  refine Mf oS λdx dy=>?_
  cases dx with
  |int i=>
   cases dy with
   |int j=>exact .inl ⟨i,j,rfl,rfl,rfl⟩
   |_=>exact .inr rfl
  |_=>exact .inr rfl
 |Gt=>
  refine Mf oU λdx dy=>?_
  cases dx with
  |int i=>
   cases dy with
   |int j=>exact .inl ⟨i,j,rfl,rfl,rfl⟩
   |_=>exact .inr rfl
  |_=>exact .inr rfl
 |GtE=>
  refine Mf oV λdx dy=>?_
  cases dx with
  |int i=>
   cases dy with
   |int j=>exact .inl ⟨i,j,rfl,rfl,rfl⟩
   |_=>exact .inr rfl
  |_=>exact .inr rfl
 |In=>
  intro A pI s Y H x y v u Q I rx ry ⟨hA,dx,dy,hx,hy,p⟩;cases dy with
  |lst es=>
   rw[qD]at p;split at p
   .rename_i h;simp only[Al]at h;obtain⟨a,xs,e,_,sq,r⟩:=hy.plain;subst e;cases ry;obtain⟨its,rv,pl,_⟩:=I.list sq;obtain⟨e,he,ha⟩:=MD I (n:=5) X.A.in1 h.1 h.2 r rv hx.plain rx (by show X.A.units+1+5<Cf;omega)
    refine SeqAt.in_listAt e (Kz pl) he ?_;rw[ha];exact⟨.bl _,H,I,rfl,p _ H (AG.refl H) rfl⟩
   .exact p.elim
  |tup es=>
   rw[qC]at p;split at p
   .rename_i h;simp only[Al]at h;obtain⟨a,xs,e,_,sq,r⟩:=hy.plain;subst e;cases ry;obtain⟨its,rv,pl,_⟩:=I.tuple sq;obtain⟨e,he,ha⟩:=MD I (n:=5) X.A.in1 h.1 h.2 r rv hx.plain rx (by show X.A.units+1+5<Cf;omega)
    refine SeqAt.in_tupleAt e pl he ?_;rw[ha];exact⟨.bl _,H,I,rfl,p _ H (AG.refl H) rfl⟩
   .exact p.elim
  |dic kvs=>exact hy.plain.elim
  |_=>exact p.elim
 |NotIn=>
  intro A pI s Y H x y v u Q I rx ry ⟨hA,dx,dy,hx,hy,p⟩;cases dy with
  |lst es=>
   rw[oZ]at p;split at p
   .rename_i h;simp only[Al]at h;obtain⟨a,xs,e,_,sq,r⟩:=hy.plain;subst e;cases ry;obtain⟨its,rv,pl,_⟩:=I.list sq;obtain⟨e,he,ha⟩:=MD I (n:=5) X.A.in1 h.1 h.2 r rv hx.plain rx (by show X.A.units+1+5<Cf;omega)
    refine SeqAt.notIn_listAt e (Kz pl) he ?_;rw[ha];exact⟨.bl _,H,I,rfl,p _ H (AG.refl H) rfl⟩
   .exact p.elim
  |tup es=>
   rw[oY]at p;split at p
   .rename_i h;simp only[Al]at h;obtain⟨a,xs,e,_,sq,r⟩:=hy.plain;subst e;cases ry;obtain⟨its,rv,pl,_⟩:=I.tuple sq;obtain⟨e,he,ha⟩:=MD I (n:=5) X.A.in1 h.1 h.2 r rv hx.plain rx (by show X.A.units+1+5<Cf;omega)
    refine SeqAt.notIn_tupleAt e pl he ?_;rw[ha];exact⟨.bl _,H,I,rfl,p _ H (AG.refl H) rfl⟩
   .exact p.elim
  |str j=>
   cases dx with
   |str i=>exact XD pI s Y H x y v u _ I rx ry ⟨i,j,hx.plain,hy.plain,p _ H (AG.refl H) rfl⟩
   |_=>exact p.elim
  |_=>exact p.elim
 |Is=>
  intro A pI s Y H x y v u Q I rx ry ⟨hA,dx,dy,hx,hy,p⟩;cases dy with
  |non=>
   have ey:=hy.non_of;subst ey;refine jX pI s Y H _ _ v u Q I rx ry ⟨rfl,?_⟩;cases dx with
   |non=>
    have ex:=hx.non_of;subst ex;exact p _ H (AG.refl H) rfl
   |exc=>exact p.elim
   |dic=>exact p.elim
   |_=>rw[Bu (SK hx (by simp))];exact p _ H (AG.refl H) rfl
  |bl b=>
   cases dx with
   |bl a=>
    have ey:=hy.bl_of;have ex:=hx.bl_of;subst ex ey;cases rx;cases ry;refine wpAny_is_plain rfl ⟨.bl (a==b),H,I,?_,p _ H (AG.refl H) rfl⟩;cases a<;>cases b<;>rfl
   |_=>exact p.elim
  |_=>cases dx<;>exact p.elim
 |IsNot=>
  intro A pI s Y H x y v u Q I rx ry ⟨hA,dx,dy,hx,hy,p⟩;cases dy with
  |non=>
   have ey:=hy.non_of;subst ey;refine dQ pI s Y H _ _ v u Q I rx ry ⟨rfl,?_⟩;cases dx with
   |non=>
    have ex:=hx.non_of;subst ex;exact p _ H (AG.refl H) rfl
   |exc=>exact p.elim
   |dic=>exact p.elim
   |_=>rw[Bu (SK hx (by simp))];exact p _ H (AG.refl H) rfl
  |bl b=>
   cases dx with
   |bl a=>
    have ey:=hy.bl_of;have ex:=hx.bl_of;subst ex ey;cases rx;cases ry;refine wpAny_isNot_plain rfl ⟨.bl (!(a==b)),H,I,?_,p _ H (AG.refl H) rfl⟩;cases a<;>cases b<;>rfl
   |_=>exact p.elim
  |_=>cases dx<;>exact p.elim
end
section
variable{X:Cx}{CL:ClA}{W:XW}{a b c:An}{fa fb fc:Rho->R D}{pos:AR}
theorem Db.bind{f:D->R Ai}{Q:Ai->Hp->Prop}{Q':VK}(h:Db W H (r.bind f) Q)(k:∀ d v H',r=.ok d->AG H H'->Rp H' v d->Db W H' (f d) Q->Q' v H'):Bg Rp W H r Q':=by
 cases r with
 |ok d=>exact λv H2 s2 q=>k d v H2 rfl s2 q (Db.same s2 h)
 |exn x=>exact h
 |bad=>exact h
theorem Db.bindB{r:R Ai}{f:Ai->R Ai}{Q:Ai->Hp->Prop}{Q':Ai->Hp->Prop}(h:Db W H (r.bind f) Q)(k:∀ b H',r=.ok b->AG H H'->Db W H' (f b) Q->Q' b H'):Db W H r Q':=by
 cases r with
 |ok d=>exact λH2 s2=>k d H2 rfl s2 (Db.same s2 h)
 |exn x=>exact h
 |bad=>exact h
theorem G0.bind{Rp:Hp->Ac V->Ac D->Prop}{r:R (Ac D)}{f:Ac D->R D}{Q':Ac V->Hp->Prop}(h:Bg Rq W H (r.bind f) Q)(k:∀ d v H',r=.ok d->AG H H'->Rp H' v d->Bg Rq W H' (f d) Q->Q' v H'):G0 Rp W H r Q':=by
 cases r with
 |ok d=>exact λv H2 s2 q=>k d v H2 rfl s2 q (Bg.same s2 h)
 |exn x=>exact h
 |bad=>exact h
theorem fX(ha:ST X CL W a fa):SE X CL W (.UnaryOp .USub a pos) (λU=>(fa U).bind λx=>unD .USub x):=λA=>PE.weak (oK eD (ha A)) λY H Q ⟨hA,U,g,p⟩=>⟨hA,U,g,Bg.bind p λd v H1 _ s1 r1 p1=>by
 cases d with
 |int i=>
  have e:=r1.int_of;subst e;exact⟨i,rfl,p1 _ H1 (AG.refl H1) rfl⟩
 | _=>exact p1.elim⟩
theorem NW{f:Ai->R D}(h:Bg Rq W H ((DX d).bind f) Q):∃ c,d=.bl c/\Bg Rq W H (f c) Q:=by
 cases d with
 |bl c=>exact⟨c,rfl,h⟩
 |_=>exact h.elim
theorem Tj(ha:ST X CL W a fa):SE X CL W (.UnaryOp .Not a pos) (λU=>(fa U).bind λx=>(DX x).bind λb=>.ok (.bl (!b))):=λA=>PE.weak (jP (ha A)) λY H Q ⟨hA,U,g,p⟩=>⟨hA,U,g,Bg.bind p λd v H1 _ s1 r1 p1=>by
 obtain⟨c,rfl,p2⟩:=NW p1;exact⟨c,r1.bl_of,p2 _ H1 (AG.refl H1) rfl⟩⟩
theorem OP{op}(ha:SE X CL W a fa):SE X CL W (.BoolOp op [a] pos) fa:=λA=>jO (ha A)
theorem Tn{rest:Ac An}(ha:SE X CL W a fa)(hb:SE X CL W (.BoolOp .And (b::rest) pos) fb):SE X CL W (.BoolOp .And (a::b::rest) pos) (λU=>(fa U).bind λx=>(DX x).bind λc=>if c=Aa then fb U else .ok (.bl Ad)):=
 λA=>PE.weak (jT (ha A) (hb A)) λY H Q ⟨hA,U,g,p⟩=>⟨hA,U,g,Bg.bind p λd v H1 _ s1 r1 p1=>by
  obtain⟨c,rfl,p2⟩:=NW p1;refine⟨c,r1,?_⟩;cases c with
  |true=>exact⟨hA.same s1,U,g.same s1,p2⟩
  | false=>exact p2 _ H1 (AG.refl H1) rfl⟩
theorem nH{rest:Ac An}(ha:SE X CL W a fa)(hb:SE X CL W (.BoolOp .Or (b::rest) pos) fb):SE X CL W (.BoolOp .Or (a::b::rest) pos) (λU=>(fa U).bind λx=>(DX x).bind λc=>if c=Aa then .ok (.bl Aa) else fb U):=
 λA=>PE.weak (oM (ha A) (hb A)) λY H Q ⟨hA,U,g,p⟩=>⟨hA,U,g,Bg.bind p λd v H1 _ s1 r1 p1=>by
  obtain⟨c,rfl,p2⟩:=NW p1;refine⟨c,r1,?_⟩;cases c with
  |false=>exact⟨hA.same s1,U,g.same s1,p2⟩
  | true=>exact p2 _ H1 (AG.refl H1) rfl⟩
theorem RN{xs:Ac D}{i:Ag}(h:CP xs i=.ok d):∃ k,plD xs.length i=Ab k/\xs[k]?=Ab d:=by
 unfold CP at h;split at h
 .rename_i k e;split at h
  .rename_i d' e';cases h;exact⟨k,e,e'⟩
  .cases h
 .cases h
theorem Kh{xs:Ac D}{i:Ag}{x:Ex}(h:CP xs i=.exn x):A5:=by
 unfold CP at h;split at h
 .split at h<;>cases h
 .cases h
theorem So{ds:Ac D}{i:Ag}(r:Reps K CL H A xs ds)(h:CP ds i=.ok d):∃ v,atI xs i=Ab v/\Rep K CL H A v d:=by
 obtain⟨k,e,q⟩:=RN h;obtain⟨v,hv,rv⟩:=r.get q;refine⟨v,?_,rv⟩;unfold atI;have:ixN xs.length i=Ab k:=by rw[r.length];exact e
 rw[this];exact hv
theorem fB{z:Ah}{i:Ag}(h:CP (IL z) i=.ok d):∃ c,atI z.cps.toList i=Ab c/\d=.str ⟨#[c]⟩:=by
 obtain⟨k,e,q⟩:=RN h;unfold IL at e q;rw[AX]at e;rw[Cp]at q;cases hc:z.cps.toList[k]? with
 |none=>rw[hc]at q;cases q
 |some c=>
  rw[hc]at q;refine⟨c,?_,(Bh q).symm⟩;unfold atI;have:ixN z.cps.toList.length i=Ab k:=e;rw[this];exact hc
theorem P0(h:BD n=Aa):n<=sizeLine:=by
 unfold BD at h;have:=F8 h;rw[B9];omega
theorem gE(hs:OF b)(ha:ST X CL W a fa)(hb:ST X CL W b fb):SE X CL W (.Subscript a b pos) (λU=>(fa U).bind λx=>(fb U).bind λy=>Hw x y):=
 λA=>PE.weak (oO (r:=rIx X.K) iZ (ha A) (hb A) hs) λY H Q h=>by
  obtain⟨hA,U,g,h⟩:=op2 h;refine⟨hA,U,g,?_⟩;cases e:fa U with
  |bad=>rw[e]at h;exact h
  |exn x=>rw[e]at h;exact h
  |ok dx0=>
   rw[e]at h;intro x H1 s1 r1;obtain⟨hA1,U1,g1,h1⟩:=h x H1 s1 r1;refine⟨hA1,U1,g1,?_⟩;cases e1:fb U1 with
   |bad=>rw[e1]at h1;exact h1
   |exn x=>rw[e1]at h1;exact h1
   |ok dy0=>
    rw[e1]at h1;intro y H2 s2 r2;obtain⟨hA2,dx,dy,rx,ry,p⟩:=h1 y H2 s2 r2;cases dy with
    |int i=>
     have ey:=ry.int_of;subst ey;cases dx with
     |lst ds=>
      obtain⟨q,xs,rfl,sq,r⟩:=rx.lst_of;rw[oA]at p;cases e2:CP ds i with
      |ok d=>
       rw[e2]at p;obtain⟨v,hv,rv⟩:=So r e2;exact .inl ⟨q,xs,i,v,rfl,rfl,sq,hv,p v H2 (AG.refl H2) rv⟩
      |exn x=>exact(Kh e2).elim
      |bad=>rw[e2]at p;exact p.elim
     |tup ds=>
      obtain⟨q,xs,rfl,_,sq,r⟩:=rx.tup_of;rw[nZ]at p;cases e2:CP ds i with
      |ok d=>
       rw[e2]at p;obtain⟨v,hv,rv⟩:=So r e2;exact .inr (.inl ⟨q,xs,i,v,rfl,rfl,sq,hv,p v H2 (AG.refl H2) rv⟩)
      |exn x=>exact(Kh e2).elim
      |bad=>rw[e2]at p;exact p.elim
     |str z=>
      have ex:=rx.str_of;subst ex;have p':Bg (λH=>Rep X.K CL H A) W H2 (if BD z.length=Aa then CP (IL z) i else .bad) Q:=p
      split at p'
      .rename_i hz;cases e2:CP (IL z) i with
       |ok d=>
        rw[e2]at p';obtain⟨c,hc,rfl⟩:=fB e2;exact .inr (.inr ⟨z,i,c,rfl,rfl,P0 hz,hc,p' _ H2 (AG.refl H2) rfl⟩)
       |exn x=>exact(Kh e2).elim
       |bad=>rw[e2]at p';exact p'.elim
      .exact p'.elim
     |dic=>exact rx.plain.elim
     |_=>exact p.elim
    |_=>cases dx<;>first|exact p.elim|exact rx.plain.elim
theorem To:SA X CL W [] (λ_=>.ok []):=λA=>PA.weak FY λY H Q ⟨hA,U,g,p⟩=>p [] H (AG.refl H) trivial
theorem Sb(ha:SE X CL W a fa)(hs:SA X CL W es fs)(hst:Ay (a::es) X.env=(Ad,eval a X.env)::Ay es X.env):SA X CL W (a::es) (λU=>(fa U).bind λx=>(fs U).bind λxs=>.ok (x::xs)):=
 λA=>PA.weak (El (ha A) (hs A) hst) λY H Q ⟨hA,U,g,p⟩=>by
  dsimp only at p;refine⟨hA,U,g,?_⟩;cases e:fa U with
  |bad=>rw[e]at p;exact p
  |exn x=>rw[e]at p;exact p
  |ok d=>
   rw[e]at p;intro v H1 s1 r1;refine⟨hA.same s1,U,g.same s1,?_⟩;cases e1:fs U with
   |bad=>rw[R.bind_ok,e1]at p;exact p
   |exn x=>rw[R.bind_ok,e1]at p;exact λH2 s2=>p H2 (s1.trans s2)
   |ok ds=>
    rw[R.bind_ok,e1]at p;exact λvs H2 s2 r2=>p (v::vs) H2 (s1.trans s2) ⟨r1.same s2,r2⟩
theorem Ti(hs:SA X CL W es fs)(hz:∀ U ds,fs U=.ok ds->ds.length<=100000):SE X CL W (.Tuple es k pos) (λU=>(fs U).bind λxs=>.ok (.tup xs)):=
 λA=>PE.weak (Tt (hs A)) λY H Q ⟨hA,U,g,p⟩=>⟨hA,U,g,G0.bind p λds vs H1 e s1 r1 p1=>⟨by
  rw[r1.length,B9];have:=hz U ds e;omega,λq hq=>p1 _ _ (FF hq _) (Kr (hA.same s1) hq r1)⟩⟩
def JT(W:XW)(H:Hp)(r:R (Am Ag))(Q:Am Ag->Hp->Prop):Prop:=match r with
  |.ok o=>∀ H',AG H H'->Q o H'
  |.exn x=>∀ H',AG H H'->W x H'
  |.bad=>A5
theorem JT.bind{r:R (Am Ag)}{f:Am Ag->R D}(h:Bg Rq W H (r.bind f) Q)(k:∀ o H',r=.ok o->AG H H'->Bg Rq W H' (f o) Q->Q' o H'):JT W H r Q':=by
 cases r with
 |ok d=>exact λH2 s2=>k d H2 rfl s2 (Bg.same s2 h)
 |exn x=>exact h
 |bad=>exact h
def SO(X:Cx)(CL:ClA)(W:XW)(e:Am An)(f:Rho->R (Am Ag)):Prop:=∀ A,PO X e (λY H Q=>AOk H A/\∃ U,Good X.K CL A U Y H/\JT W H (f U) Q)
theorem PO.weak{e:Am An}{t t':TO}(h:PO X e t)(k:∀ Y H Q,t' Y H Q->t Y H Q):PO X e t':=λpI s Y H Q I q=>h pI s Y H Q I (k _ _ _ q)
theorem aG:SO X CL W Af (λ_=>.ok Af):=λA=>PO.weak dF λY H Q ⟨hA,U,g,p⟩=>p H (AG.refl H)
theorem aF(ha:ST X CL W a fa):SO X CL W (Ab a) (λU=>(fa U).bind λd=>(DR d).bind λi=>.ok (Ab i)):=λA=>PO.weak (dE (ha A)) λY H Q ⟨hA,U,g,p⟩=>by
 dsimp only at p;refine⟨hA,U,g,?_⟩;cases e:fa U with
 |bad=>rw[e]at p;exact p
 |exn x=>rw[e]at p;exact p
 |ok d=>
  rw[e]at p;intro v H1 s1 r1;cases d with
  |int i=>exact⟨i,r1.int_of,p H1 s1⟩
  |_=>exact p.elim
theorem Sg{ds:Ac D}(lo hi:Am Ag)(r:Reps K CL H A xs ds):Reps K CL H A (Jq xs lo hi) (Gv ds lo hi):=by
 unfold Jq Gv;have e:∀ d o,HT.sIx xs.length d o=IJ ds.length d o:=λd o=>by rw[r.length];cases o<;>rfl
 rw[e,e,r.length];exact(r.drop _).take _
end
section
variable{X:Cx}{CL:ClA}{W:XW}{a b c:An}{fa fb fc:Rho->R D}{pos:AR}
def GI(K:Fg)(CL:ClA)(H:Hp)(A:Ak->Prop):Ac V->Ac D->Prop
 |[],[]=>HK
 |v::vs,d::ds=>CF K CL H A v d/\GI K CL H A vs ds
 |_,_=>A5
theorem GI.same{K:Fg}{H H':Hp}{A:Ak->Prop}(s:AG H H'):∀{vs:Ac V}{ds:Ac D},GI K CL H A vs ds->GI K CL H' A vs ds
 |[],[],h=>h
 |_::_,_::_,h=>⟨h.1.same s,GI.same s h.2⟩
 |[],_::_,h=>h.elim
 |_::_,[],h=>h.elim
theorem GI.one{vs:Ac V}(h:GI K CL H A vs [d]):∃ v,vs=[v]/\CF K CL H A v d:=by
 cases vs with
 |nil=>exact h.elim
 |cons v vs=>
  cases vs with
  |nil=>exact⟨v,rfl,h.1⟩
  |cons=>exact h.2.elim
def SAT(X:Cx)(CL:ClA)(W:XW)(es:Ac An)(f:Rho->R (Ac D)):Prop:=∀ A,PA X es (λY H Q=>AOk H A/\∃ U,Good X.K CL A U Y H/\G0 (λH=>GI X.K CL H A) W H (f U) Q)
theorem aR:SAT X CL W [] (λ_=>.ok []):=λA=>PA.weak FY λY H Q ⟨hA,U,g,p⟩=>p [] H (AG.refl H) trivial
theorem Zd(ha:ST X CL W a fa)(hs:SAT X CL W es fs)(hst:Ay (a::es) X.env=(Ad,eval a X.env)::Ay es X.env):SAT X CL W (a::es) (λU=>(fa U).bind λx=>(fs U).bind λxs=>.ok (x::xs)):=
 λA=>PA.weak (El (ha A) (hs A) hst) λY H Q ⟨hA,U,g,p⟩=>by
  dsimp only at p;refine⟨hA,U,g,?_⟩;cases e:fa U with
  |bad=>rw[e]at p;exact p
  |exn x=>rw[e]at p;exact p
  |ok d=>
   rw[e]at p;intro v H1 s1 r1;refine⟨hA.same s1,U,g.same s1,?_⟩;cases e1:fs U with
   |bad=>rw[R.bind_ok,e1]at p;exact p
   |exn x=>rw[R.bind_ok,e1]at p;exact λH2 s2=>p H2 (s1.trans s2)
   |ok ds=>
    rw[R.bind_ok,e1]at p;exact λvs H2 s2 r2=>p (v::vs) H2 (s1.trans s2) ⟨r1.same s2,r2⟩
def KG(X:Cx)(CL:ClA)(W:XW)(f:Aj)(g:Ac D->R D):Prop:=∀ A,IH X f (λxs H Q=>AOk H A/\∃ ds,GI X.K CL H A xs ds/\Bg (λH=>Rep X.K CL H A) W H (g ds) Q)
theorem Tl{g:Ac D->R D}(hc:KG X CL W (.builtin id) g)(hg:Gl X x)(hm:X.mg x=Af)(hv:CB x=Ab (.builtin id))(ha:SAT X CL W (e::es) fs)(hn:x≠"__name__")(hdb:(x==("__debug__" : Ah))=Ad)(he:Ay (e::es) X.env=(Ad,eval e X.env)::Ay es X.env)(hpl:∀ pos,(BR pos (Ay es X.env)).any (·.1)=Ad):SE X CL W (.Call (.Name x p) (e::es) [] pos) (λU=>(fs U).bind g):=λA=>PE.weak (Kb (hc A) hg hm hv (ha A) hn hdb he (hpl _)) λY H Q ⟨hA,U,gd,q⟩=>⟨hA,U,gd,G0.bind q λds vs H1 _ s1 r1 p1=>⟨hA.same s1,ds,r1,p1⟩⟩
theorem Tk{g:Ac D->R D}(hc:KG X CL W (.type T) g)(hg:Gl X x)(hm:X.mg x=Af)(hv:CB x=Ab (.type T))(ha:SAT X CL W (e::es) fs)(hn:x≠"__name__")(hdb:(x==("__debug__" : Ah))=Ad)(he:Ay (e::es) X.env=(Ad,eval e X.env)::Ay es X.env)(hpl:∀ pos,(BR pos (Ay es X.env)).any (·.1)=Ad):SE X CL W (.Call (.Name x p) (e::es) [] pos) (λU=>(fs U).bind g):=λA=>PE.weak (QG (hc A) hg hm hv (ha A) hn hdb he (hpl _)) λY H Q ⟨hA,U,gd,q⟩=>⟨hA,U,gd,G0.bind q λds vs H1 _ s1 r1 p1=>⟨hA.same s1,ds,r1,p1⟩⟩
theorem kJ:KG X CL W (.builtin "len") (biD .len):=by
  intro A pI s Y H xs us Q I r ⟨hA,ds,rs,p⟩
  match ds,rs,p with
  |[.lst es],rs,p=>
    obtain⟨v,rfl,rv⟩:=rs.one;obtain⟨q,ys,rfl,sq,ry⟩:=rv.lst_of;exact PV pI s Y H _ us Q I r ⟨q,ys,rfl,.inl sq,p _ H (AG.refl H) (by rw[ry.length];rfl)⟩
  |[.tup es],rs,p=>
    obtain⟨v,rfl,rv⟩:=rs.one;obtain⟨q,ys,rfl,_,sq,ry⟩:=rv.tup_of;exact PV pI s Y H _ us Q I r ⟨q,ys,rfl,.inr sq,p _ H (AG.refl H) (by rw[ry.length];rfl)⟩
  |[.str x],rs,p=>
    obtain⟨v,rfl,rv⟩:=rs.one;have e:=rv.str_of;subst e;have p':Bg (λH=>Rep X.K CL H A) W H (if BD x.length=Aa then .ok (.int x.length) else .bad) Q:=p
    split at p'
    · rename_i h;exact XB pI s Y H _ us Q I r ⟨x,rfl,IB h,p' _ H (AG.refl H) rfl⟩
    · exact p'.elim
  |[],_,p=>exact p.elim
  |[.non],_,p=>exact p.elim
  |[.bl _],_,p=>exact p.elim
  |[.int _],_,p=>exact p.elim
  |[.obj _ _],_,p=>exact p.elim
  |[.exc _ _],_,p=>exact p.elim
  |[.dic _],rs,p=>first|exact p.elim|(obtain⟨v,rfl,rv⟩:=rs.one;exact rv.plain.elim)
  |x::_::_,_,p=>cases x<;>exact p.elim
theorem kK:KG X CL W (.type "int") (biD .int):=by
  intro A pI s Y H xs us Q I r ⟨hA,ds,rs,p⟩
  match ds,rs,p with
  |[.int i],rs,p=>
    obtain⟨v,rfl,rv⟩:=rs.one;have e:=rv.int_of;subst e;exact Qv pI s Y H _ us Q I r (.inl ⟨i,rfl,p _ H (AG.refl H) rfl⟩)
  |[.bl i],rs,p=>
    obtain⟨v,rfl,rv⟩:=rs.one;have e:=rv.bl_of;subst e;exact Qv pI s Y H _ us Q I r (.inr ⟨i,rfl,p _ H (AG.refl H) rfl⟩)
  |[],_,p=>exact p.elim
  |[.non],_,p=>exact p.elim
  |[.str _],_,p=>exact p.elim
  |[.tup _],_,p=>exact p.elim
  |[.lst _],_,p=>exact p.elim
  |[.obj _ _],_,p=>exact p.elim
  |[.exc _ _],_,p=>exact p.elim
  |[.dic _],rs,p=>first|exact p.elim|(obtain⟨v,rfl,rv⟩:=rs.one;exact rv.plain.elim)
  |x::_::_,_,p=>cases x<;>exact p.elim
theorem Zm:KG X CL W (.type "tuple") (biD .tuple):=by
  intro A pI s Y H xs us Q I r ⟨hA,ds,rs,p⟩
  match ds,rs,p with
  |[.lst es],rs,p=>
    obtain⟨v,rfl,rv⟩:=rs.one;obtain⟨q,ys,rfl,sq,ry⟩:=rv.lst_of;exact PX pI s Y H _ us Q I r ⟨q,ys,rfl,.inl ⟨sq,λl hl=>p _ _ (FF hl _) (Kr hA hl ry)⟩⟩
  |[.tup es],rs,p=>
    obtain⟨v,rfl,rv⟩:=rs.one;obtain⟨q,ys,rfl,na,sq,ry⟩:=rv.tup_of;exact PX pI s Y H _ us Q I r ⟨q,ys,rfl,.inr ⟨sq,p _ H (AG.refl H) ⟨q,ys,rfl,na,sq,ry⟩⟩⟩
  |[],_,p=>exact p.elim
  |[.non],_,p=>exact p.elim
  |[.bl _],_,p=>exact p.elim
  |[.int _],_,p=>exact p.elim
  |[.str _],_,p=>exact p.elim
  |[.obj _ _],_,p=>exact p.elim
  |[.exc _ _],_,p=>exact p.elim
  |[.dic _],rs,p=>first|exact p.elim|(obtain⟨v,rfl,rv⟩:=rs.one;exact rv.plain.elim)
  |x::_::_,_,p=>cases x<;>exact p.elim
end
section
variable{X:Cx}{CL:ClA}{W:XW}{a b c:An}{fa fb fc:Rho->R D}{pos:AR}
theorem SB.congr{g:Rho->R Ai}(h:SB X CL W a f)(e:∀ U,g U=f U):SB X CL W a g:=λA=>PT.weak (h A) λY H Q ⟨hA,U,q,p⟩=>⟨hA,U,q,by rw[<-e];exact p⟩
theorem gH(ha:SB X CL W a f):SB X CL W (.UnaryOp .Not a pos) (λU=>(f U).bind λb=>.ok (!b)):=λA=>PT.weak (jG (ha A)) λY H Q ⟨hA,U,g,p⟩=>⟨hA,U,g,Db.bindB p λb H1 _ s1 p1=>p1 H1 (AG.refl H1)⟩
def SW(X:Cx)(CL:ClA)(W:XW)(e:An)(f:Rho->R Ai):Prop:=∀ A,PW X e (λY H Q=>AOk H A/\∃ U,Good X.K CL A U Y H/\Db W H (f U) Q)
theorem PW.weak{t t':TT}(h:PW X e t)(k:∀ Y H Q,t' Y H Q->t Y H Q):PW X e t':=λwh pI s Y H Q I q=>h wh pI s Y H Q I (k _ _ _ q)
theorem SW.sb(h:SW X CL W a f):SB X CL W a f:=λA=>PW.pt (h A)
theorem SW.congr{g:Rho->R Ai}(h:SW X CL W a f)(e:∀ U,g U=f U):SW X CL W a g:=λA=>PW.weak (h A) λY H Q ⟨hA,U,q,p⟩=>⟨hA,U,q,by rw[<-e];exact p⟩
theorem bQ(ha:SB X CL W a f):SW X CL W (.BoolOp .And [a] pos) f:=λA=>Z_5 (ha A)
theorem gP(ha:SB X CL W a f):SW X CL W (.BoolOp .Or [a] pos) f:=λA=>jE (ha A)
theorem gU{g:Rho->R Ai}{rest:Ac An}(ha:SB X CL W a f)(hb:SW X CL W (.BoolOp .And (b::rest) pos) g):SW X CL W (.BoolOp .And (a::b::rest) pos) (λU=>(f U).bind λc=>if c=Aa then g U else .ok Ad):=
 λA=>PW.weak (jF (ha A) (hb A)) λY H Q ⟨hA,U,gd,p⟩=>⟨hA,U,gd,Db.bindB p λc H1 _ s1 p1=>by
  cases c with
  |true=>exact⟨hA.same s1,U,gd.same s1,p1⟩
  | false=>exact p1 H1 (AG.refl H1)⟩
theorem lO{g:Rho->R Ai}{rest:Ac An}(ha:SB X CL W a f)(hb:SW X CL W (.BoolOp .Or (b::rest) pos) g):SW X CL W (.BoolOp .Or (a::b::rest) pos) (λU=>(f U).bind λc=>if c=Aa then .ok Aa else g U):=
 λA=>PW.weak (oG (ha A) (hb A)) λY H Q ⟨hA,U,gd,p⟩=>⟨hA,U,gd,Db.bindB p λc H1 _ s1 p1=>by
  cases c with
  |false=>exact⟨hA.same s1,U,gd.same s1,p1⟩
  | true=>exact p1 H1 (AG.refl H1)⟩
theorem gI(ho:OpD X CL W (CC op) g)(ha:ST X CL W a fa)(hb:ST X CL W b fb)(hm:GU op b=Ad):SB X CL W (.Compare a [op] [b] pos) (λU=>(fa U).bind λx=>(fb U).bind λy=>(g x y).bind DX):=
 λA=>PT.weak (Z_8 (ho A) (ha A) (hb A) hm) λY H Q ⟨hA,U,gd,p⟩=>⟨hA,U,gd,Db.bind p λdx x H1 _ s1 r1 p1=>⟨hA.same s1,U,gd.same s1,Db.bind p1 λdy y H2 _ s2 r2 p2=>
  ⟨(hA.same s1).same s2,dx,dy,r1.same s2,r2,Db.bind p2 λdz z H3 _ s3 r3 p3=>by
   cases dz with
   |bl k=>exact⟨k,r3,p3 H3 (AG.refl H3)⟩
   | _=>exact p3.elim⟩⟩⟩
theorem Zc{op':Do}(hu:X.A.units+64<Cf)(ha:ST X CL W a fa)(hb:ST X CL W b fb)(hc:ST X CL W c fc)(hm:lastMarks [op,op'] [b,c]=Ad):SB X CL W (.Compare a [op,op'] [b,c] pos) (λU=>(fa U).bind λx=>(fb U).bind λy=>(BK op x y).bind λz=>(DX z).bind λk=>if k=Aa then (fc U).bind λu=>(BK op' y u).bind DX else .ok Ad):=
  λA=>PT.weak (YO (Mv hu op A) (Mv hu op' A) (ha A) (hb A) (hc A) hm) λY H Q ⟨hA,U,g,p⟩=>⟨hA,U,g,Db.bind p λdx x H1 _ s1 r1 p1=>⟨hA.same s1,U,g.same s1,Db.bind p1 λdy y H2 _ s2 r2 p2=>
    ⟨(hA.same s1).same s2,dx,dy,r1.same s2,r2,Db.bind p2 λdz z H3 _ s3 r3 p3=>by
      cases dz with
      |bl k=>
        refine⟨k,r3,?_⟩;cases k with
        |false=>exact⟨Ad,rfl,p3 H3 (AG.refl H3)⟩
        | true=>exact⟨((hA.same s1).same s2).same s3,U,((g.same s1).same s2).same s3,Db.bind p3 λdu u H4 _ s4 r4 p5=>⟨(((hA.same s1).same s2).same s3).same s4,dy,du,(r2.same s3).same s4,r4,Db.bind p5 λdv v H5 _ s5 r5 p6=>by
            cases dv with
            |bl k'=>exact⟨k',r5,p6 H5 (AG.refl H5)⟩
            | _=>exact p6.elim⟩⟩
      | _=>exact p3.elim⟩⟩⟩
theorem gG(ha:ST X CL W a fa)(he:∀ whole,Ik a X.env whole=(do let v <-whole;standAt a.pos;holding [v] (truthy v))):SB X CL W a (λU=>(fa U).bind BU):=
 λA=>PT.weak (YN (ha A) he) λY H Q ⟨hA,U,g,p⟩=>⟨hA,U,g,Db.bind p λd v H1 _ s1 r1 p1=>by
  cases d with
  |non=>
   have e:=r1.non_of;subst e;exact⟨Ad,rfl,p1 H1 (AG.refl H1)⟩
  |bl b=>
   have e:=r1.bl_of;subst e;exact⟨b,rfl,p1 H1 (AG.refl H1)⟩
  |int i=>
   have e:=r1.int_of;subst e;exact⟨_,rfl,p1 H1 (AG.refl H1)⟩
  |str x=>
   have e:=r1.str_of;subst e;have p2:Db W H1 (if BD x.length=Aa then .ok (x.length != 0) else .bad) Q:=p1
   split at p2
   .rename_i h;refine⟨_,⟨IB h,rfl⟩,?_⟩;have e:((x.length:Ag) != 0)=(x.length != 0):=by
     rw[Hy];simp
    rw[e];exact p2 H1 (AG.refl H1)
   .exact p2.elim
  |tup ds=>
   obtain⟨q,xs,rfl,_,sq,r⟩:=r1.tup_of;refine⟨_,.inr (.inl ⟨xs,sq,rfl⟩),?_⟩;have e:xs.isEmpty=ds.isEmpty:=by
    have:=r.length;cases xs<;>cases ds<;>first|rfl|cases this
   rw[e];exact p1 H1 (AG.refl H1)
  |lst ds=>
   obtain⟨q,xs,rfl,sq,r⟩:=r1.lst_of;refine⟨_,.inl ⟨xs,sq,rfl⟩,?_⟩;have e:xs.isEmpty=ds.isEmpty:=by
    have:=r.length;cases xs<;>cases ds<;>first|rfl|cases this
   rw[e];exact p1 H1 (AG.refl H1)
  | _=>exact p1.elim⟩
noncomputable def pP(K:Fg)(CL:ClA)(H:Hp)(A:Ak->Prop)(cls:Aj)(dx:Am Ak)(x:Ex):Prop:=
 ∃ C,CL x.c=Ab C/\cls=.ref C/\(x.fs=[]\/∃ d vs,dx=Ab d/\¬ A d/\H d=Ab (.xd vs)/\Repf K CL H A vs x.fs)
def F2(K:Fg)(CL:ClA)(H:Hp)(cls:Aj)(dx:Am Ak)(x:Ex):Prop:=∀ A,AOk H A->pP K CL H A cls dx x
end
def BL(B:Ak->Prop)(U:Rho)(Y:L2.St):Ak->Prop:=λa=>B a\/∃(j:Ae)(d:D),U[j]?=Ab (Ab (d,Aa))/\Y[j]?=Ab (Ab (.ref a))
structure Sx (K:Fg) (CL:ClA) (Fz:Ak->HO->Prop) (B:Ak->Prop) (U:Rho) (Y:L2.St) (H:Hp):Prop where
 good:Good K CL (BL B U Y) U Y H
 aok:AOk H (BL B U Y)
 new:∀(j:Ae)(d:D)(a:Ak),U[j]?=Ab (Ab (d,Aa))->Y[j]?=Ab (Ab (.ref a))->(∀ o,¬ Fz a o)/\¬ B a
 dis:∀(i j:Ae)(d e:D)(a:Ak),U[i]?=Ab (Ab (d,Aa))->U[j]?=Ab (Ab (e,Aa))->Y[i]?=Ab (Ab (.ref a))->Y[j]?=Ab (Ab (.ref a))->i=j
 same:∀ b o,Fz b o->H b=Ab o
 len:U.length=Y.length
def BW(K:Fg)(CL:ClA)(Fz:Ak->HO->Prop)(B:Ak->Prop)(W:XW)(o:O)(D:Ends):Prop:=match o with
  |.next U=>∀ Y H,Sx K CL Fz B U Y H->D.nx Y H
  |.brk U=>∀ Y H,Sx K CL Fz B U Y H->D.bk Y H
  |.cont U=>∀ Y H,Sx K CL Fz B U Y H->D.ct Y H
  |.ret d fr=>∀ v H,(∀ b o,Fz b o->H b=Ab o)->Rep K CL H B v d->(fr=Aa->∀ ds,d=.lst ds->∃ a xs,v=.ref a/\(∀ o,¬ Fz a o)/\H a=Ab (.lst xs)/\Reps K CL H (λb=>B b\/b=a) xs ds)->D.rt v H
  |.exn x _=>∀ H,(∀ b o,Fz b o->H b=Ab o)->W x H
  |.bad=>A5
section
variable{K:Fg}{CL:ClA}{Fz Fy:Ak->HO->Prop}{B:Ak->Prop}{U:Rho}{Y:L2.St}{H H':Hp}
theorem Sx.mono(k:∀ b o,Fz b o->Fy b o)(x:Sx K CL Fy B U Y H):Sx K CL Fz B U Y H:=⟨x.good,x.aok,λj d a h1 h2=>⟨λo z=>(x.new j d a h1 h2).1 o (k _ _ z),(x.new j d a h1 h2).2⟩,x.dis,λb o z=>x.same b o (k _ _ z),x.len⟩
theorem Sx.grow(x:Sx K CL Fz B U Y H)(s:AG H H'):Sx K CL Fz B U Y H':=⟨x.good.same s,x.aok.same s,x.new,x.dis,λb o z=>s _ _ (x.same b o z),x.len⟩
theorem Ci{l:Ac α}{j:Ae}{v:α}(h:i≠j):(l.set i v)[j]?=l[j]?:=by rw[Gb h]
theorem GF{l:Ac α}{v w':α}(h:(l.set i v)[i]?=Ab w'):w'=v:=by
 rw[Ft]at h;cases e:l[i]? with
 |none=>rw[e]at h;cases h
 |some x=>rw[e]at h;cases h;rfl
theorem Sx.set(x:Sx K CL Fz B U Y H){v:V}{d:D}(i:Ae)(r:Rep K CL H (BL B U Y) v d):Sx K CL Fz B (U.set i (Ab (d,Ad))) (Y.set i (Ab v)) H:=by
 have own:∀(j:Ae)(e:D),(U.set i (Ab (d,Ad)))[j]?=Ab (Ab (e,Aa))->i≠j/\U[j]?=Ab (Ab (e,Aa)):=λj e h=>by
  by_cases hj:i=j
  .subst hj;have:=GF h;cases this
  .exact⟨hj,by rw[Ci hj]at h;exact h⟩
 have sub:∀ a,BL B (U.set i (Ab (d,Ad))) (Y.set i (Ab v)) a->BL B U Y a:=λa h=>by
  rcases h with h|⟨j,e,h1,h2⟩
  .exact .inl h
  .obtain⟨hj,h1⟩:=own j e h1;rw[Ci hj]at h2;exact .inr ⟨j,e,h1,h2⟩
 refine⟨⟨λj e h=>?_,λj e h=>?_,by rw[Bb,Bb];exact x.len⟩,λa h=>x.aok a (sub a h),λj e a h1 h2=>?_,λj k e f a h1 h2 h3 h4=>?_,x.same,by rw[Bb,Bb];exact x.len⟩
 .by_cases hj:i=j
  .subst hj;have e1:=GF h;cases e1;refine⟨v,?_,Rep.sub sub _ r⟩;have hl:i<Y.length:=by
    rw[<-x.len];have:=(A4.mp h).1;simpa using this
   rw[C2 hl]
  .rw[Ci hj]at h;obtain⟨w',q,rw'⟩:=x.good.sh j e h;exact⟨w',by rw[Ci hj];exact q,Rep.sub sub _ rw'⟩
 .obtain⟨hj,h1⟩:=own j e h;obtain⟨a,xs,ds,q,z,ha,hh,rr⟩:=x.good.ow j e h1;exact⟨a,xs,ds,by rw[Ci hj];exact q,z,.inr ⟨j,e,h,by rw[Ci hj];exact q⟩,hh,Reps.sub sub _ rr⟩
 .obtain⟨hj,h1⟩:=own j e h1;rw[Ci hj]at h2;exact x.new j e a h1 h2
 .obtain⟨hj,h1⟩:=own j e h1;obtain⟨hk,h2⟩:=own k f h2;rw[Ci hj]at h3;rw[Ci hk]at h4;exact x.dis j k e f a h1 h2 h3 h4
end
section
variable{X:Cx}{CL:ClA}{W:XW}{pos:AR}{e:An}{fe:Rho->R D}
def SS(X:Cx)(CL:ClA)(W:XW)(st:AZ)(f:Rho->O):Prop:=∀ Fz B,PS X st (λD Y H=>∃ U,Sx X.K CL Fz B U Y H/\BW X.K CL Fz B W (f U) D)
def SSs(X:Cx)(CL:ClA)(W:XW)(st:Ac AZ)(f:Rho->O):Prop:=∀ Fz B,PSs X st (λD Y H=>∃ U,Sx X.K CL Fz B U Y H/\BW X.K CL Fz B W (f U) D)
theorem PS.weak{e:AZ}{t t':TS}(h:PS X e t)(k:∀ D Y H,t' D Y H->t D Y H):PS X e t':=λpI s Y H D I q=>h pI s Y H D I (k _ _ _ q)
theorem PSs.weak{e:Ac AZ}{t t':TS}(h:PSs X e t)(k:∀ D Y H,t' D Y H->t D Y H):PSs X e t':=λpI s Y H D I q=>h pI s Y H D I (k _ _ _ q)
theorem BW.ex{f:D->O}(x:Sx X.K CL Fz B U Y H)(h:BW X.K CL Fz B W (O.of U r f) D')(k:∀ d v H',r=.ok d->AG H H'->Rp H' v d->Sx X.K CL Fz B U Y H'->BW X.K CL Fz B W (f d) D'->Q v H'):Bg Rp W H r Q:=by
 cases r with
 |ok d=>exact λv H' s r=>k d v H' rfl s r (x.grow s) h
 |exn y=>exact λH' s=>h H' λb o z=>s _ _ (x.same b o z)
 |bad=>exact h
theorem BW.exB{r:R Ai}{f:Ai->O}{Q:Ai->Hp->Prop}(x:Sx X.K CL Fz B U Y H)(h:BW X.K CL Fz B W (O.of U r f) D')(k:∀ b H',r=.ok b->AG H H'->Sx X.K CL Fz B U Y H'->BW X.K CL Fz B W (f b) D'->Q b H'):Db W H r Q:=by
 cases r with
 |ok d=>exact λH' s=>k d H' rfl s (x.grow s) h
 |exn y=>exact λH' s=>h H' λb o z=>s _ _ (x.same b o z)
 |bad=>exact h
theorem aD(he:SE X CL W e fe)(hs:Dh e Af pos.line X.env=pure Ad):SS X CL W (.Expr e pos) (λU=>O.of U (fe U) λ_=>.next U):=λFz B pI s Y H D I ⟨U,x,p⟩=>
 Kq (he (BL B U Y)) hs pI s Y H D I ⟨x.aok,U,x.good,BW.ex x p λd v H' _ s r x' q=>q Y H' x'⟩
theorem hV{n:Ah}(hN:X.N.Nodup)(hi:X.N[i]?=Ab n)(hx:Loc X.env.scope n)(he:SE X CL W e fe)(hs:Dh e (Ab (.Name n pos')) pos.line X.env=pure Ad)(hf:X.fn n=Aa\/X.env.scope.names.lookup n=Ab .local):SS X CL W (.Assign [.Name n pos'] e pos) (λU=>O.of U (fe U) λd=>.next (U.set i (Ab (d,Ad)))):=λFz B pI s Y H D I ⟨U,x,p⟩=>
 MA hN hi hx (he (BL B U Y)) hs hf pI s Y H D I ⟨x.aok,U,x.good,BW.ex x p λd v H' _ s r x' q=>q _ H' (x'.set i r)⟩
theorem bY(he:SE X CL W e fe):SS X CL W (.Return (Ab e) pos) (λU=>O.of U (fe U) λd=>.ret d Ad):=λFz B pI s Y H D I ⟨U,x,p⟩=>
 OS (he (BL B U Y)) pI s Y H D I ⟨x.aok,U,x.good,BW.ex x p λd v H' _ s r x' q=>q v H' x'.same (Rep.sub (λa h=>.inl h) _ r) λz=>nomatch z⟩
theorem lE{a b:Ac AZ}{fa fb:Rho->O}(hc:SB X CL W c fc)(ha:SSs X CL W a fa)(hb:SSs X CL W b fb):SS X CL W (.If c a b pos) (λU=>O.of U (fc U) λk=>if k=Aa then fa U else fb U):=λFz B pI s Y H D I ⟨U,x,p⟩=>
 oH (hc (BL B U Y)) (ha Fz B) (hb Fz B) pI s Y H D I ⟨x.aok,U,x.good,BW.exB x p λk H' _ s x' q=>by
  cases k with
  |true=>exact⟨U,x',q⟩
  | false=>exact⟨U,x',q⟩⟩
theorem R8:SSs X CL W [] (λU=>.next U):=λFz B=>PSs.weak Z_9 λD Y H ⟨U,x,p⟩=>p Y H x
theorem Og{st:AZ}{rest:Ac AZ}{f g:Rho->O}(h1:SS X CL W st f)(h2:SSs X CL W rest g):SSs X CL W (st::rest) (λU=>(f U).seq g):=λFz B=>PSs.weak (YQ (h1 Fz B) (h2 Fz B)) λD Y H ⟨U,x,p⟩=>⟨U,x,by
 dsimp only at p;cases e:f U with
 |next U'=>rw[e]at p;exact λY' H' x'=>⟨U',x',p⟩
 |ret d b=>rw[e]at p;exact p
 |brk U'=>rw[e]at p;exact p
 |cont U'=>rw[e]at p;exact p
 |exn y U'=>rw[e]at p;exact p
 | bad=>rw[e]at p;exact p⟩
end
def Ia(K:Fg)(CL:ClA)(A:Ak->Prop)(ds:Ac D)(J:It)(H1:Hp):Prop:=∀ H,Kp A H1 H->∀ i:Ae,(ds.length<=i->J.stop i H)/\∀ d,ds[i]?=Ab d->J.go i H/\∀ x H',J.yld i H x H'->AG H H'/\∀ B,(∀ a,B a->A a\/H1 a=Af)->AOk H B->Rep K CL H' B x d
def Er(K:Fg)(CL:ClA)(A:Ak->Prop)(W:XW)(H:Hp)(r:R (Ac D))(Q:It->Hp->Prop):Prop:=match r with
  |.ok ds=>∀ J H',AG H H'->Ia K CL A ds J H'->ds.length<=sizeLine->Q J H'
  |.exn x=>∀ H',AG H H'->W x H'
  |.bad=>A5
def SI(X:Cx)(CL:ClA)(W:XW)(tg iter:An)(f:Rho->R (Ac D)):Prop:=∀ A,PI X tg iter (λY H R=>AOk H A/\∃ U,Good X.K CL A U Y H/\Er X.K CL A W H (f U) R)
theorem PI.weak{t t':TI}(h:PI X tg e t)(k:∀ Y H Q,t' Y H Q->t Y H Q):PI X tg e t':=λpI s Y H Q I q=>h pI s Y H Q I (k _ _ _ q)
section
variable{X:Cx}{CL:ClA}{W:XW}{pos p:AR}{tg e a b:An}{fe fa fb:Rho->R D}
theorem Er.ex{f:D->R (Ac D)}{Q:It->Hp->Prop}{Q':VK}(h:Er X.K CL A W H (r.bind f) Q)(k:∀ d v H',r=.ok d->AG H H'->Rp H' v d->Er X.K CL A W H' (f d) Q->Q' v H'):Bg Rp W H r Q':=by
  cases r with
  | ok d=>exact λv H' s q=>k d v H' rfl s q (by
      have h':Er X.K CL A W H (f d) Q:=h;cases e:f d with
      |ok ds=>rw[e]at h';exact λJ H2 s2 y z=>h' J H2 (s.trans s2) y z
      |exn y=>rw[e]at h';exact λH2 s2=>h' H2 (s.trans s2)
      | bad=>rw[e]at h';exact h')
  |exn y=>exact h
  |bad=>exact h
theorem Lc{x:V}(r:Rep K CL H1 A x d)(k:Kp A H1 H)(hB:∀ a,B a->A a\/H1 a=Af):Rep K CL H B x d:=by
 have r1:Rep K CL H1 (λa=>A a\/B a) x d:=Rep.wide (λa ha=>ha.elim .inl (hB a)) _ r
 have r2:Rep K CL H (λa=>A a\/B a) x d:=Rep.kp (λb o e na=>k b o e λz=>na (.inl z)) _ r1
 exact Rep.sub (λa ha=>.inr ha) _ r2
theorem X2{ds:Ac D}(na:¬ A q\/KL K q xs)(s:SqL K H q xs)(r:Reps K CL H A xs ds):Ia K CL A ds (Itl K q) H:=λH' k i=>by
 have s':=ML k na s;refine⟨λh=>⟨xs,s',by rw[r.length];exact h⟩,λd hd=>?_⟩
 obtain⟨v,hv,rv⟩:=r.get hd;exact⟨⟨xs,v,s',hv⟩,λx H2 ⟨e,y⟩=>by
  subst e;have:=y xs s';rw[hv]at this;cases this;exact⟨AG.refl _,λB hB _=>Lc rv k hB⟩⟩
theorem YW{ds:Ac D}(na:¬ A q\/KT K q xs)(s:SqT K H q xs)(r:Reps K CL H A xs ds):Ia K CL A ds (Itt K q) H:=λH' k i=>by
 have s':=MK k na s;refine⟨λh=>⟨xs,s',by rw[r.length];exact h⟩,λd hd=>?_⟩
 obtain⟨v,hv,rv⟩:=r.get hd;exact⟨⟨xs,v,s',hv⟩,λx H2 ⟨e,y⟩=>by
  subst e;have:=y xs s';rw[hv]at this;cases this;exact⟨AG.refl _,λB hB _=>Lc rv k hB⟩⟩
theorem Rt(lo:Ag)(n:Ae):Ia K CL A (Dt lo n) (Itr lo n) H:=λH' k i=>by
 refine⟨λh=>by rw[J9]at h;exact h,λd hd=>?_⟩
 obtain⟨h1,rfl⟩:=N8 hd;exact⟨h1,λx H2 ⟨e,y⟩=>by
  subst e y;exact⟨AG.refl _,λ_ _ _=>rfl⟩⟩
theorem jL{l:An}{tl:TE}(hl:PE X l tl):PI X tg l (λY H R=>tl Y H λx H1=>(∃ a,x=.ref a/\(∃ xs,SqL X.K H1 a xs/\(xs.length<=sizeLine->R (Itl X.K a) H1)))\/∃ a,x=.ref a/\(∃ xs,SqT X.K H1 a xs/\(xs.length<=sizeLine->R (Itt X.K a) H1))):=by
 intro pI s Y H R I h;refine thn (hl pI s Y H _ I h) λv s1 ⟨x,H1,I1,r1,q1⟩=>?_
 rcases q1 with ⟨a,e,xs,hq,q⟩|⟨a,e,xs,hq,q⟩
 .subst e;cases r1;obtain⟨its,rv,p,hz⟩:=I1.list hq;refine G9 p.isList ?_;refine⟨s1.heap.objs.size,[s1.heap.objs.size],_,_,H1,rfl,I1.kept (t':=s1.toks) λb o e=>Ar _ e,XI a _,⟨_,AJ _ rfl,rfl,rfl⟩,λb hb=>?_,q hz⟩
  have e:b=s1.heap.objs.size:=by simpa using hb
  subst e;exact I1.fpOk (Aw _) (I1.hok.fresh (Aw _))
 .subst e;cases r1;obtain⟨its,rv,p,hz⟩:=I1.tuple hq;refine Xn (show s1.heap.IsTuple a its.toArray from p) ?_
  refine⟨s1.heap.objs.size,[s1.heap.objs.size],_,_,H1,rfl,I1.kept (t':=s1.toks) λb o e=>Ar _ e,X4 a _,⟨_,AJ _ rfl,rfl,rfl⟩,λb hb=>?_,q hz⟩
  have e:b=s1.heap.objs.size:=by simpa using hb
  subst e;exact I1.fpOk (Aw _) (I1.hok.fresh (Aw _))
theorem pW(he:SE X CL W e fe):SI X CL W tg e (λU=>(fe U).bind DW):=λA=>PI.weak (jL (he A)) λY H R ⟨hA,U,g,p⟩=>⟨hA,U,g,Er.ex p λd v H1 _ s1 r1 p1=>by
 cases d with
 |lst ds=>
  obtain⟨q,xs,rfl,na,sq,r⟩:=r1;exact .inl ⟨q,rfl,xs,sq,λhz=>p1 _ H1 (AG.refl H1) (X2 na sq r) (by rw[<-r.length];exact hz)⟩
 |tup ds=>
  obtain⟨q,xs,rfl,na,sq,r⟩:=r1;exact .inr ⟨q,rfl,xs,sq,λhz=>p1 _ H1 (AG.refl H1) (YW na sq r) (by rw[<-r.length];exact hz)⟩
 | _=>exact p1.elim⟩
theorem QE{ds:Ac D}(h:Dj lo hi=.ok ds):(-(2 ^ 62)<=lo/\lo<2 ^ 62)/\(-(2 ^ 62)<=hi/\hi<2 ^ 62)/\ds=Dt lo (hi-lo).toNat/\(Dt lo (hi-lo).toNat).length<=sizeLine:=by
 unfold Dj at h;split at h
 .rename_i q;cases h;exact⟨by omega,by omega,rfl,by rw[J9,B9];omega⟩
 .cases h
theorem P7{x:Ex}(h:Dj lo hi=.exn x):A5:=by
 unfold Dj at h;split at h<;>cases h
theorem fU(ha:ST X CL W a fa)(hg:Gl X "range")(hm:X.mg "range" = Af)(hs:Ay [a] X.env=[(Ad,eval a X.env)]):SI X CL W tg (.Call (.Name "range" p) [a] [] pos) (λU=>(fa U).bind λx=>(DR x).bind λj=>Dj 0 j):=
 λA=>PI.weak (Yq hg hm (El (ha A) FY hs) hs) λY H R ⟨hA,U,g,q⟩=>⟨hA,U,g,Er.ex q λd v H1 _ s1 r1 p1=>by
  cases d with
  |int j=>
   have e:=r1.int_of;subst e;have p2:Er X.K CL A W H1 (Dj 0 j) R:=p1;cases e2:Dj 0 j with
   |ok ds=>
    rw[e2]at p2;obtain⟨_,h2,rfl,hz⟩:=QE e2;exact⟨j,rfl,h2.1,h2.2,p2 _ H1 (AG.refl H1) (by rw[U_2];exact Rt 0 j.toNat) hz⟩
   |exn y=>exact(P7 e2).elim
   |bad=>rw[e2]at p2;exact p2.elim
  | _=>exact p1.elim⟩
theorem aJ(ha:ST X CL W a fa)(hb:ST X CL W b fb)(hg:Gl X "range")(hm:X.mg "range" = Af)(hs:Ay [a,b] X.env=[(Ad,eval a X.env),(Ad,eval b X.env)])(hs2:Ay [b] X.env=[(Ad,eval b X.env)]):
  SI X CL W tg (.Call (.Name "range" p) [a,b] [] pos) (λU=>(fa U).bind λx=>(fb U).bind λy=>(DR x).bind λi=>(DR y).bind λj=>Dj i j):=
 λA=>PI.weak (YI hg hm (El (ha A) (El (hb A) FY hs2) (by rw[hs,hs2])) hs hs2) λY H R ⟨hA,U,g,q⟩=>⟨hA,U,g,Er.ex q λd v H1 _ s1 r1 p1=>⟨hA.same s1,U,g.same s1,Er.ex p1 λd2 v2 H2 _ s2 r2 p2=>by
  cases d with
  |int i=>
   cases d2 with
   |int j=>
    have e:=r1.int_of;have e':=r2.int_of
    subst e e';have p3:Er X.K CL A W H2 (Dj i j) R:=p2;cases e2:Dj i j with
    |ok ds=>
     rw[e2]at p3;obtain⟨h1,h2,rfl,hz⟩:=QE e2;exact⟨i,j,rfl,⟨h1.1,h1.2,h2.1,h2.2⟩,p3 _ H2 (AG.refl H2) (Rt _ _) hz⟩
    |exn y=>exact(P7 e2).elim
    |bad=>rw[e2]at p3;exact p3.elim
   |_=>exact p2.elim
  | _=>exact p2.elim⟩⟩
theorem BW.exI{r:R (Ac D)}{f:Ac D->O}{Q:It->Hp->Prop}(x:Sx X.K CL Fz B U Y H)(h:BW X.K CL Fz B W (O.of U r f) D')(k:∀ ds J H',r=.ok ds->AG H H'->Ia X.K CL A ds J H'->ds.length<=sizeLine->Sx X.K CL Fz B U Y H'->BW X.K CL Fz B W (f ds) D'->Q J H'):Er X.K CL A W H r Q:=by
 cases r with
 |ok d=>exact λJ H' s y z=>k d J H' rfl s y z (x.grow s) h
 |exn y=>exact λH' s=>h H' λb o z=>s _ _ (x.same b o z)
 |bad=>exact h
theorem BW.turn{Fy:Ak->HO->Prop}{o:O}{g:Rho->O}{N:L2.St->Hp->Prop}(hf:∀ b q,Fz b q->Fy b q)(h:BW K CL Fz B W (o.turn g) D')(k:∀ U' Y' H',Sx K CL Fy B U' Y' H'->BW K CL Fz B W (g U') D'->N Y' H'):BW K CL Fy B W o {D' with nx:=N,ct:=N,bk:=D'.nx}:=by
 cases o with
 |next U'=>exact λY' H' x=>k U' Y' H' x h
 |cont U'=>exact λY' H' x=>k U' Y' H' x h
 |brk U'=>exact λY' H' x=>h Y' H' (x.mono hf)
 |ret d b=>exact λv H' s r n=>h v H' (λb o z=>s b o (hf b o z)) r λz ds e=>let ⟨a,xs,h1,h2,h3⟩:=n z ds e;⟨a,xs,h1,λo q=>h2 o (hf a o q),h3⟩
 |exn y U'=>exact λH' s=>h H' (λb o z=>s b o (hf b o z))
 |bad=>exact h
noncomputable def Gr(ts:Ac Ae)(U:Rho):Rho:=ts.foldl (λU t=>U.set t Af) U
def GT(K:Fg)(CL:ClA)(as:D->Rho->R Rho)(g:TG):Prop:=∀ Fz B U Y H v d U' Q,Sx K CL Fz B U Y H->Rep K CL H (BL B U Y) v d->as d U=.ok U'->(∀ Y',Sx K CL Fz B U' Y' H->Q Y' H)->g v Y H Q
theorem dC(i:Ae):GT K CL (λd U=>.ok (U.set i (Ab (d,Ad)))) (GZ i):=λFz B U Y H v d U' Q x r e k=>by
 cases e;exact k _ (x.set i r)
theorem SR{K:Fg}{Fz:Ak->HO->Prop}{B:Ak->Prop}{H:Hp}:∀(ts:Ac Ae)(ds:Ac D)(vs:Ac V)(U U':Rho)(Y:L2.St)(Q:L2.St->Hp->Prop),Sx K CL Fz B U Y H->Reps K CL H (BL B U Y) vs ds->GX ts ds U=Ab U'->(∀ Y',Sx K CL Fz B U' Y' H->Q Y' H)->(ts.foldr (λt u=>LF (GZ t) u) LU) vs Y H Q
 |[],[],[],U,U',Y,Q,x,_,e,k=>by
  cases e;exact⟨rfl,k Y x⟩
 |t::ts,d::ds,v::vs,U,U',Y,Q,x,r,e,k=>by
  refine⟨v,vs,rfl,SR ts ds vs _ U' _ Q (x.set t r.1) (Reps.sub (λa ha=>?_) ds r.2) e k⟩
  rcases ha with ha|⟨j,c,h1,h2⟩
  .exact .inl ha
  .by_cases hj:t=j
   .subst hj;have:=GF h1;cases this
   .rw[Ci hj]at h1 h2;exact .inr ⟨j,c,h1,h2⟩
 |[],_::_,_,_,_,_,_,_,_,e,_=>by cases e
 |_::_,[],_,_,_,_,_,_,_,e,_=>by cases e
 |[],[],_::_,_,_,_,_,_,r,_,_=>r.elim
 |_::_,_::_,[],_,_,_,_,_,r,_,_=>r.elim
theorem P6:∀(ts:Ac Ae)(ds:Ac D)(U U':Rho),GX ts ds U=Ab U'->ds.length=ts.length
 |[],[],_,_,_=>rfl
 |_::ts,_::ds,_,_,e=>congrArg (· + 1) (P6 ts ds _ _ e)
 |[],_::_,_,_,e=>by cases e
 |_::_,[],_,_,e=>by cases e
theorem iE(ts:Ac Ae):GT K CL (Fe ts) (PD K ts.length (ts.foldr (λt u=>LF (GZ t) u) LU)):=λFz B U Y H v d U' Q x r e k=>by
 cases d with
 |tup ds=>
  obtain⟨a,xs,rfl,na,sq,rs⟩:=r;rw[XO]at e;cases e2:GX ts ds U with
  |none=>rw[e2]at e;cases e
  |some U2=>
   rw[e2]at e;cases e;exact⟨a,xs,rfl,sq,by rw[rs.length];exact P6 _ _ _ _ e2,SR ts ds xs U _ Y Q x rs e2 k⟩
 |_=>cases e
theorem Tg{body:Ac AZ}{fbd:Rho->O}{g:TG}(hp:Fb (model X.prog X.w) X.A X.env X.xe)(hc:X.calm=Aa)(hGT:GT X.K CL as g)(hg:PG X tg g)(hit:SI X CL W tg iter fi)(hb:SSs X CL W body fbd)(hs:∀ x,CS iter X.env x=pure x)(hax:∀ d U x,as d U≠.exn x):SS X CL W (.For tg iter body [] pos) (λU=>O.of U (fi U) λxs=>BN (λx U'=>O.of U' (as x U') fbd) xs U):=λFz B pI s Y H D I ⟨U,x,p⟩=>by
 refine jH hp hc (hit (BL B U Y)) hg (tb:=λD Y H=>∃ Fy,(λD Y H=>∃ U,Sx X.K CL Fy B U Y H/\BW X.K CL Fy B W (fbd U) D) D Y H) (λpI s Y H D I ⟨Fy,q⟩=>hb Fy B pI s Y H D I q) hs pI s Y H D I ⟨x.aok,U,x.good,BW.exI x p λds J H1 _ s1 y _ x1 q=>?_⟩
 let Fy:Ak->HO->Prop:=λb o=>H1 b=Ab o/\¬ ∃(j:Ae)(d:Ov.D),U[j]?=Ab (Ab (d,Aa))/\Y[j]?=Ab (Ab (.ref b))
 have hfy:∀ b o,Fz b o->Fy b o:=λb o z=>⟨x1.same b o z,λ⟨j,d,h1,h2⟩=>(x1.new j d b h1 h2).1 o z⟩
 have xy:Sx X.K CL Fy B U Y H1:=⟨x1.good,x1.aok,λj d a h1 h2=>⟨λo z=>z.2 ⟨j,d,h1,h2⟩,(x1.new j d a h1 h2).2⟩,x1.dis,λb o z=>z.1,x1.len⟩
 refine⟨λk m Y' H'=>m=ds.length-k/\k<=ds.length/\∃ U',Sx X.K CL Fy B U' Y' H'/\BW X.K CL Fz B W (BN (λx U'=>O.of U' (as x U') fbd) (ds.drop k) U') D,⟨ds.length,by simp,CH _,U,xy,q⟩,?_⟩
 rintro k m Y' H' ⟨rfl,hk,U',x',q'⟩;have kp:Kp (BL B U Y) H1 H':=λb o e na=>x'.same b o ⟨e,λz=>na (.inr z)⟩
 obtain⟨yst,ygo⟩:=y H' kp k;by_cases hlt:k<ds.length
 .have hd:ds[k]?=Ab ds[k]:=AE hlt;obtain⟨hgo,hyl⟩:=ygo _ hd;refine .inr ⟨hgo,λY'' H''=>∃ U'',Sx X.K CL Fy B U'' Y'' H''/\BW X.K CL Fz B W (BN (λx U'=>O.of U' (as x U') fbd) (ds.drop (k+1)) U'') D,λY'' H'' z=>⟨ds.length-(k+1),by omega,rfl,hlt,z⟩,λv H2 hv=>?_⟩
  obtain⟨e2,rv⟩:=hyl v H2 hv;rw[By hlt]at q';have q2:BW X.K CL Fz B W ((O.of U' (as ds[k] U') fbd).turn (BN (λx U'=>O.of U' (as x U') fbd) (ds.drop (k+1)))) D:=q'
  have rv':Rep X.K CL H2 (BL B U' Y') v ds[k]:=rv _ (λa ha=>by
    rcases ha with ha|⟨j,d,h1,h2⟩
    .exact .inl (.inl ha)
    .cases e:H1 a with
     |none=>exact .inr rfl
     |some o=>
      by_cases ho:∃(j:Ae)(d:Ov.D),U[j]?=Ab (Ab (d,Aa))/\Y[j]?=Ab (Ab (.ref a))
      .exact .inl (.inr ho)
      .exact absurd ⟨e,ho⟩ ((x'.new j d a h1 h2).1 o)) x'.aok
  cases ea:as ds[k] U' with
  |bad=>rw[ea]at q2;exact q2.elim
  |exn z=>exact absurd ea (hax _ _ z)
  |ok U2=>
   rw[ea,O.of_ok]at q2;exact hGT Fy B U' Y' H2 v ds[k] U2 _ (x'.grow e2) rv' ea λY3 x3=>⟨Fy,U2,x3,BW.turn hfy q2 λU3 Y3 H3 x3 q3=>⟨U3,x3,q3⟩⟩
 .have hk':ds.length<=k:=by omega
  rw[U_8 hk']at q';exact .inl ⟨yst hk',q' Y' H' (x'.mono hfy)⟩
end
section
variable{X:Cx}{CL:ClA}{W:XW}{a b c:An}{fa fb fc:Rho->R D}{pos:AR}
noncomputable def tyK:Ki->Am CD
 |.int=>Ab "int"
 |.bool=>Ab "bool"
 |.str=>Ab "str"
 |.list=>Ab "list"
 |.tuple=>Ab "tuple"
 |_=>Af
noncomputable def OU:D->Ai
 |.obj _ _=>Ad
 |.exc _ _=>Ad
 |.dic _=>Ad
 |_=>Aa
theorem jB{k:Ki}{Q:Vq}{E:Vq}(I:Inv X pI Y H s)(r:CF X.K CL H A v d)(q:Bx v u)(hT:tyK k=Ab T)(hd:OU d=Aa)(h:∀ s',Inv X pI Y H s'->Q (.bool (kiD up k d)) s'):
  AB (model X.prog X.w) X.A (call (.builtin "isinstance") [u,.type T]) Q E s:=by
 have r':=r.plain;have it:=λt=>h _ (I.tok t)
 cases d with
 |obj=>cases hd
 |exc=>cases hd
 |dic=>cases hd
 |non=>
  cases r';cases q;cases k<;>simp only[tyK]at hT<;>cases hT
  .exact IsiPair.NoneType_int (it _)
  .exact IsiPair.NoneType_bool (it _)
  .exact IsiPair.NoneType_str (it _)
  .exact IsiPair.NoneType_list (it _)
  .exact IsiPair.NoneType_tuple (it _)
 |bl b=>
  cases r';cases q;cases k<;>simp only[tyK]at hT<;>cases hT
  .exact IsiPair.bool_int (h _ I)
  .exact IsiPair.bool_bool (h _ I)
  .exact IsiPair.bool_str (it _)
  .exact IsiPair.bool_list (it _)
  .exact IsiPair.bool_tuple (it _)
 |int i=>
  cases r';obtain⟨t,rfl⟩:=q;cases k<;>simp only[tyK]at hT<;>cases hT
  .exact IsiPair.int_int (h _ I)
  .exact IsiPair.int_bool (it _)
  .exact IsiPair.int_str (it _)
  .exact IsiPair.int_list (it _)
  .exact IsiPair.int_tuple (it _)
 |str x=>
  cases r';obtain⟨t,rfl⟩:=q;cases k<;>simp only[tyK]at hT<;>cases hT
  .exact IsiPair.str_int (it _)
  .exact IsiPair.str_bool (it _)
  .exact IsiPair.str_str (h _ I)
  .exact IsiPair.str_list (it _)
  .exact IsiPair.str_tuple (it _)
 |tup ds=>
  obtain⟨p,xs,rfl,_,sq,rr⟩:=r';obtain⟨its,rv,pt,_⟩:=I.tuple sq;cases q;have pt':s.heap.IsTuple p its.toArray:=pt;cases k<;>simp only[tyK]at hT<;>cases hT
  .exact IsiPair.isTuple_int pt' (λ_ _ e=>e) (it _)
  .exact IsiPair.isTuple_bool pt' (λ_ _ e=>e) (it _)
  .exact IsiPair.isTuple_str pt' (λ_ _ e=>e) (it _)
  .exact IsiPair.isTuple_list pt' (λ_ _ e=>e) (it _)
  .exact IsiPair.isTuple_tuple pt' (λ_ _ e=>e) (h _ I)
 |lst ds=>
  obtain⟨p,xs,rfl,_,sq,rr⟩:=r';obtain⟨its,rv,pl,_⟩:=I.list sq;cases q;have pt':s.heap.IsList p its.toArray:=Kz pl;cases k<;>simp only[tyK]at hT<;>cases hT
  .exact IsiPair.isList_int pt' (λ_ _ e=>e) (it _)
  .exact IsiPair.isList_bool pt' (λ_ _ e=>e) (it _)
  .exact IsiPair.isList_str pt' (λ_ _ e=>e) (it _)
  .exact IsiPair.isList_list pt' (λ_ _ e=>e) (h _ I)
  .exact IsiPair.isList_tuple pt' (λ_ _ e=>e) (it _)
theorem Yw{k:Ki}(hT:tyK k=Ab T)(p:Bg Rp W H (EF up [k] d) Q):OU d=Aa/\Bg Rp W H (.ok (.bl (kiD up k d))) Q:=by
 cases k<;>simp only[tyK]at hT<;>cases hT<;>cases d<;>first|exact p.elim|exact⟨rfl,by simpa using p⟩
theorem gA{k:Ki}(hT:tyK k=Ab T)(hg:Gl X "isinstance")(hm:X.mg "isinstance" = Af)(hg2:Gl X x)(hm2:X.mg x=Af)(hv:CB x=Ab (.type T))(hn:x≠"__name__")(hdb:(x==("__debug__" : Ah))=Ad)(ha:ST X CL W a fa)(he:Ay [a,.Name x p2] X.env=(Ad,eval a X.env)::Ay [.Name x p2] X.env):SE X CL W (.Call (.Name "isinstance" p) [a,.Name x p2] [] pos) (λU=>(fa U).bind λx=>EF up [k] x):=λA=>
 PE.weak (Kb (r:=λxs H Q=>∃ y d,xs=[y,.ty T]/\CF X.K CL H A y d/\OU d=Aa/\Q (.bl (kiD up k d)) H) (λpI s Y H xs us Q I r ⟨y,d,e,ry,hd,q⟩=>by
   subst e;obtain⟨u,w',rfl,r1,r2⟩:=MN r;cases r2;exact jB I ry r1 hT hd λs' I'=>⟨.bl _,H,I',rfl,q⟩)
  hg hm Ge (El (ha A) (El (RQ (v:=.ty T) hg2 hm2 hv rfl hn hdb) FY rfl) he) (by decide) (by decide) he rfl) λY H Q ⟨hA,U,g,q⟩=>⟨hA,U,g,Bg.bind q λd v H1 _ s1 r1 p1=>by
   obtain⟨hd,p2⟩:=Yw hT p1;exact⟨v,d,rfl,r1,hd,p2 _ H1 (AG.refl H1) rfl⟩⟩
theorem bF{b:Ai}{A':AT}{E:Vq}{Q:Ai->Ap->Prop}(r:Rep X.K CL H A v d)(q:Bx v u)(h:F4 d=.ok b)(hq:Q b s):AB (model prog w) A' (truthy u) Q E s:=by
 cases d with
 |non=>
  cases r;cases q;cases h;exact truthy_none hq
 |bl k=>
  cases r;cases q;cases h;exact CU hq
 |int i=>
  cases r;obtain⟨t,rfl⟩:=q;cases h;exact truthy_int hq
 |_=>cases h
theorem Qd:∀{ds:Ac D}{b:Ai},F1 ds=.ok b->(∀ j,j<ds.length->∃ c,F4 (ds.getD j .non)=.ok c)/\b=(A8 ds.length).all λj=>match F4 (ds.getD j .non) with
  |.ok c=>c
  |_=>Ad
 |[],b,h=>by cases h;exact⟨λj hj=>absurd hj (Nat.not_lt_zero _),rfl⟩
 |d::ds,b,h=>by
  rw[Qr]at h;cases e:F4 d with
  |bad=>rw[e]at h;cases h
  |exn x=>rw[e]at h;cases h
  |ok c=>
   rw[e,R.bind_ok]at h;cases e2:F1 ds with
   |bad=>rw[e2]at h;cases h
   |exn x=>rw[e2]at h;cases h
   |ok c2=>
    rw[e2,R.bind_ok]at h;cases h;obtain⟨h1,h2⟩:=Qd e2;refine⟨λj hj=>?_,?_⟩
    .cases j with
     |zero=>exact⟨c,e⟩
     |succ j=>exact h1 j (by simpa using hj)
    .rw[AS,PY,h2];show (c&&_)=((match F4 d with | .ok c=>c|_=>Ad)&&_)
     rw[e];rfl
theorem fE{ds:Ac D}{its:Ac Aj}(r:Reps X.K CL H A0 xs ds)(rv:A6 xs its){j:Ae}{v:Aj}(h:its.toArray[j]?=Ab v):j<ds.length/\∃ x,Rep X.K CL H A0 x (ds.getD j .non)/\Bx x v:=by
 have h':its[j]?=Ab v:=by simpa using h
 obtain⟨hj,e⟩:=A4.mp h';obtain⟨x,rx,q⟩:=JN r rv hj;have l1:=rv.length;have l2:=r.length
 exact⟨by omega,x,rx,by rw[<-e];exact q⟩
theorem nW{o:DE}(k:∀ b q,b∉[h.objs.size]->(h.push o).get? b=Ab q->h'.get? b=Ab q):∀ b q,h.get? b=Ab q->h'.get? b=Ab q:=λb q e=>k b q (by
 intro z;have:=Bk.mp z;rw[this]at e;exact absurd (AL e) (Br _)) (Ar _ e)
theorem kL(hc:X.calm=Aa):KG X CL W (.builtin "all") (biD .all):=by
  intro A pI s Y H xs us Q I r ⟨hA,ds,rs,p⟩
  match ds,rs,p with
  |[.lst es],rs,p=>
    obtain⟨v,rfl,rv⟩:=rs.one;obtain⟨q,ys,e,_,sq,ry⟩:=rv.plain;subst e;obtain⟨u,rfl,ru⟩:=Jk r;cases ru;rw[pJ]at p;cases e1:F1 es with
    |bad=>rw[e1]at p;exact p.elim
    |exn x=>
      exfalso
      have:∀(es:Ac D) x,F1 es≠.exn x:=by
        intro es
        induction es with
        |nil=>intro x h;cases h
        |cons d ds ih=>
          intro x h;rw[Qr]at h;cases e:F4 d with
          |bad=>rw[e]at h;cases h
          |exn y=>cases d<;>cases e
          |ok c=>
            rw[e,R.bind_ok]at h;cases e2:F1 ds with
            |bad=>rw[e2]at h;cases h
            |exn y=>exact ih y e2
            |ok c2=>rw[e2]at h;cases h
      exact this es x e1
    |ok b=>
      rw[e1,R.bind_ok]at p;obtain⟨h1,h2⟩:=Qd e1;obtain⟨its,rvv,pl,_⟩:=I.list sq;have hlt:q<s.heap.objs.size:=by obtain⟨o,n,e,_⟩:=pl;exact AL e
      have hl:its.toArray.size=es.length:=by rw[AH,<-rvv.length,ry.length]
      refine call_all_walk (G9 (Kz pl) ⟨s.heap.objs.size,_,_,_,_,_,(λj=>match F4 (es.getD j .non) with | .ok c=>c|_=>Ad),rfl,Walks.list (A:=X.A.in1) (I.ok.hd hc) s.heap.objs.size q (Bj hlt) its.toArray,⟨⟨_,AJ _ rfl,rfl,rfl⟩,(Kz pl).push _⟩,λj v s' Q' E' hv hQ=>?_,λh' tk k=>?_⟩)
      · obtain⟨hj,x,rx,qx⟩:=fE ry rvv hv;obtain⟨c,ec⟩:=h1 j hj;exact bF rx qx ec (by dsimp only at hQ;rw[ec]at hQ;exact hQ)
      · rw[hl,<-h2];exact⟨.bl b,H,I.kept (nW k),rfl,p _ H (AG.refl H) rfl⟩
  |[],_,p=>exact p.elim
  |[.non],_,p=>exact p.elim
  |[.bl _],_,p=>exact p.elim
  |[.int _],_,p=>exact p.elim
  |[.str _],_,p=>exact p.elim
  |[.tup _],_,p=>exact p.elim
  |[.obj _ _],_,p=>exact p.elim
  |[.exc _ _],_,p=>exact p.elim
  |[.dic _],_,p=>exact p.elim
  |x::_::_,_,p=>cases x<;>exact p.elim
end
section
variable(K:Fg)(CL:ClA)
def pK(H0:Hp)(A:Ak->Prop)(H:Hp)(v:V)(d:D):Prop:=∀ ds,d=.lst ds->∃ a xs,v=.ref a/\H0 a=Af/\H a=Ab (.lst xs)/\Reps K CL H (λb=>A b\/b=a) xs ds
def DY(fr:Ai)(H0:Hp)(A:Ak->Prop)(H:Hp)(v:V)(d:D):Prop:=Rep K CL H A v d/\(fr=Aa->pK K CL H0 A H v d)
end
section
variable{X:Cx}{CL:ClA}{W:XW}{a b c:An}{fa fb fc:Rho->R D}{pos:AR}
def SC(X:Cx)(CL:ClA)(W:XW)(fr:Ai)(e:An)(f:Rho->R D):Prop:=∀ A,PE X e (λY H Q=>AOk H A/\∃ U,Good X.K CL A U Y H/\Bg (DY X.K CL fr H A) W H (f U) Q)
theorem SC.se{fr:Ai}(h:SC X CL W fr a fa):SE X CL W a fa:=λA=>PE.weak (h A) λY H Q ⟨hA,U,g,p⟩=>⟨hA,U,g,by
 cases e:fa U with
 |ok d=>rw[e]at p;exact λv H' s r=>p v H' s r.1
 |exn x=>rw[e]at p;exact p
 | bad=>rw[e]at p;exact p⟩
theorem SE.sc(h:SE X CL W a fa):SC X CL W Ad a fa:=λA=>PE.weak (h A) λY H Q ⟨hA,U,g,p⟩=>⟨hA,U,g,by
 cases e:fa U with
 |ok d=>rw[e]at p;exact λv H' s r=>p v H' s ⟨r,λz=>nomatch z⟩
 |exn x=>rw[e]at p;exact p
 | bad=>rw[e]at p;exact p⟩
theorem SC.congr{fr:Ai}{f g:Rho->R D}(h:SC X CL W fr a f)(e:∀ U,g U=f U):SC X CL W fr a g:=λA=>PE.weak (h A) λY H Q ⟨hA,U,q,p⟩=>⟨hA,U,q,by rw[<-e];exact p⟩
theorem JE{p:Ak}{ds:Ac D}(s:AG H0 H)(hA:AOk H A)(hp:H p=Af)(r:Reps K CL H A xs ds):DY K CL Aa H0 A (upd H p (.lst xs)) (.ref p) (.lst ds):=
 ⟨RZ hA hp r,λ_ ds' e=>by
  cases e;exact⟨p,xs,rfl,s.free hp,GE,(Reps.wide (λa ha=>ha.imp id λe=>by rw[e];exact hp) _ r).same (FF hp _)⟩⟩
theorem Oo{fr:Ai}(r:Rep K CL H A v d)(h:∀ ds,d≠.lst ds):DY K CL fr H0 A H v d:=⟨r,λ_ ds e=>absurd e (h ds)⟩
theorem OM(hs:SA X CL W es fs)(hz:∀ U ds,fs U=.ok ds->ds.length<=100000):SC X CL W Aa (.List es pos) (λU=>(fs U).bind λxs=>.ok (.lst xs)):=
 λA=>PE.weak (jR (hs A)) λY H Q ⟨hA,U,g,p⟩=>⟨hA,U,g,G0.bind p λds vs H1 e s1 r1 p1=>⟨by
  rw[r1.length,B9];have:=hz U ds e;omega,λq hq=>p1 _ _ (FF hq _) (JE s1 (hA.same s1) hq r1)⟩⟩
theorem Bg.bindF{fr:Ai}{f:D->R D}{Q':VK}(h:Bg (DY K CL fr H A) W H (r.bind f) Q)(k:∀ d v H',r=.ok d->AG H H'->Rp H' v d->Bg (DY K CL fr H A) W H' (f d) Q->Q' v H'):Bg Rp W H r Q':=by
 cases r with
 |ok d=>exact λv H2 s2 q=>k d v H2 rfl s2 q (Bg.same s2 h)
 |exn x=>exact h
 |bad=>exact h
theorem G0.bindF{Rp:Hp->Ac V->Ac D->Prop}{r:R (Ac D)}{f:Ac D->R D}{Q':Ac V->Hp->Prop}(h:Bg Rq W H (r.bind f) Q)(k:∀ d v H',r=.ok d->AG H H'->Rp H' v d->Bg Rq W H' (f d) Q->Q' v H'):G0 Rp W H r Q':=by
 cases r with
 |ok d=>exact λv H2 s2 q=>k d v H2 rfl s2 q (Bg.same s2 h)
 |exn x=>exact h
 |bad=>exact h
theorem JT.bindF{r:R (Am Ag)}{f:Am Ag->R D}(h:Bg Rq W H (r.bind f) Q)(k:∀ o H',r=.ok o->AG H H'->Bg Rq W H' (f o) Q->Q' o H'):JT W H r Q':=by
 cases r with
 |ok d=>exact λH2 s2=>k d H2 rfl s2 (Bg.same s2 h)
 |exn x=>exact h
 |bad=>exact h
def UB:V->Am Ag->Am Ag->Hp->VK->Prop:=λx l h H Q=>∃ z,x=.str z/\(Fj z l h).length<=sizeLine/\Q (.str (Fj z l h)) H
theorem RT{v:Aj}{o:Am Ag}(h:GO v o):∃ p:Am (Ag×BV),v=partValue p/\p.map (·.1)=o:=by
 cases h with
 |none=>exact⟨Af,rfl,rfl⟩
 |int i t=>exact⟨Ab (i,t),rfl,rfl⟩
theorem fT:SlR X UB:=by
 intro pI s Y H x v vl vu lo hi sl Q I rx hs pl pu h;obtain⟨z,rfl,hz,q⟩:=h;obtain⟨t,rfl⟩:=rx;obtain⟨l,rfl,el⟩:=RT pl;obtain⟨u,rfl,eu⟩:=RT pu;refine⟨"str",_,PySem.F.slot_str_getitem.lookup,Ix _ _ _,?_⟩;refine wpAny_getItem_str_slice (l:=l) (u:=u) (st:=Af) hs rfl ?_;subst el eu;unfold sliceMade slicePicked;unfold Fj at hz q;by_cases c:((DO (l.map (·.1)) (u.map (·.1)) 1 z.length).length==z.length)=Aa
 .rw[Aq c]at q;rw[Aq (by rw[Al];exact⟨rfl,c⟩)]
  exact⟨.str z,H,I,⟨t,rfl⟩,q⟩
 .rw[As c]at q hz;rw[As (by rw[Al];exact λh=>c h.2)]
  exact⟨hz,.str _,H,I.tok _,⟨_,rfl⟩,q⟩
theorem lF{lo hi:Am An}{fl fh:Rho->R (Am Ag)}(ha:ST X CL W a fa)(hl:SO X CL W lo fl)(hh:SO X CL W hi fh):SC X CL W Aa (.Subscript a (.Slice lo hi Af p2) pos) (λU=>(fa U).bind λx=>(fl U).bind λl=>(fh U).bind λh=>slD x l h):=
 λA=>PE.weak (ZH (r:=λx l h H Q=>UC X.K x l h H Q\/(UA X.K x l h H Q\/UB x l h H Q)) (SlR.or aH (SlR.or fS fT)) (ha A) (hl A) (hh A)) λY H Q ⟨hA,U,g,p⟩=>⟨hA,U,g,Bg.bindF p λdx x H1 _ s1 r1 p1=>⟨hA.same s1,U,g.same s1,JT.bindF p1 λl H2 _ s2 p2=>⟨(hA.same s1).same s2,U,(g.same s1).same s2,JT.bindF p2 λh H3 _ s3 p3=>by
  cases dx with
  |lst ds=>
   obtain⟨q,xs,rfl,sq,r⟩:=((r1.same s2).same s3).lst_of;exact .inl ⟨q,xs,rfl,sq,λt ht=>p3 _ _ (FF ht _) (JE ((s1.trans s2).trans s3) (((hA.same s1).same s2).same s3) ht (Sg l h r))⟩
  |tup ds=>
   obtain⟨q,xs,rfl,_,sq,r⟩:=((r1.same s2).same s3).tup_of;rw[qU]at p3;split at p3
   .exact p3.elim
   .rename_i hw;refine .inr (.inl ⟨q,xs,rfl,sq,?_,λt ht=>p3 _ _ (FF ht _) (Oo (Kr (((hA.same s1).same s2).same s3) ht (Sg l h r)) (by intro _ z;cases z))⟩)
    rintro⟨h1,h2⟩;refine hw ?_;have e:∀ d o,HT.sIx xs.length d o=IJ ds.length d o:=λd o=>by rw[r.length];cases o<;>rfl
    rw[e]at h1 h2;rw[r.length]at h2;simp[h1,h2]
  |str z=>
   have e:=((r1.same s2).same s3).str_of;subst e;have p4:Bg (DY X.K CL Aa H A) W H3 (if (BD z.length&&BD (Fj z l h).length)=Aa then .ok (.str (Fj z l h)) else .bad) Q:=p3
   split at p4
   .rename_i hk;rw[Al]at hk;exact .inr (.inr ⟨z,rfl,P0 hk.2,p4 _ H3 (AG.refl H3) (Oo rfl (by intro _ z;cases z))⟩)
   .exact p4.elim
  | _=>exact p3.elim⟩⟩⟩
noncomputable def OpN(X:Cx)(CL:ClA)(W:XW)(f:Aj->Aj->Dq Aj)(g:D->D->R D):Prop:=
 ∀ A H0,OpR X f (λx y H Q=>AG H0 H/\AOk H A/\∃ dx dy,CF X.K CL H A x dx/\CF X.K CL H A y dy/\Bg (DY X.K CL Aa H0 A) W H (g dx dy) Q)
theorem dL:OpN X CL W (BY .Add) (CG .Add):=by
 intro A H0 pI s Y H x y v u Q I rx ry ⟨s0,hA,dx,dy,hx,hy,p⟩;have key:(∀ ds,dx≠.lst ds)->EP X pI Y Q=EP X pI Y Q->AB (model X.prog X.w) X.A (BY .Add v u) (EP X pI Y Q) X.xe s:=λhd _=>by
  refine RU (W:=W) A pI s Y H x y v u Q I rx ry ⟨hA,dx,dy,hx,hy,?_⟩;cases e:CG .Add dx dy with
  |bad=>rw[e]at p;exact p
  |exn x=>rw[e]at p;exact p
  |ok d=>
   rw[e]at p;refine λv' H' s' r'=>p v' H' s' (Oo r' λds z=>?_)
   subst z;cases dx with
   |lst ds=>exact hd _ rfl
   |tup xs=>
    cases dy with
    |tup ys=>rw[Sv]at e;split at e<;>cases e
    |_=>cases e
   |str xs=>
    cases dy with
    |str ys=>rw[Ht]at e;split at e<;>cases e
    |_=>cases e
   |int i=>cases dy<;>cases e
   |_=>cases e
 cases dx with
 |lst ds=>
  cases dy with
  |lst es=>
   obtain⟨a,xs,rfl,s1,r1⟩:=hx.lst_of;obtain⟨b,ys,rfl,s2,r2⟩:=hy.lst_of;simp only[GY]at p;split at p
   .rename_i h;refine RV pI s Y H _ _ v u Q I rx ry ⟨a,b,xs,ys,rfl,rfl,s1,s2,by rw[r1.length,r2.length];exact IB h,λq hq=>?_⟩
    exact p _ _ (FF hq _) (JE s0 hA hq (r1.append r2))
   .exact p.elim
  |_=>exact p.elim
 |_=>exact key (by intro _ z;cases z) rfl
theorem fR(ha:ST X CL W a fa)(hb:ST X CL W b fb):SC X CL W Aa (.BinOp a .Add b pos) (λU=>(fa U).bind λx=>(fb U).bind λy=>CG .Add x y):=
 λA pI s Y H Q I h=>by
  obtain⟨hA,U,g,p⟩:=h;exact T2 (dL (W:=W) A H) (ha A) (hb A) pI s Y H Q I ⟨hA,U,g,Bg.bindF p λdx x H1 _ s1 r1 p1=>⟨hA.same s1,U,g.same s1,Bg.bind (Rq:=DY X.K CL Aa H A) p1 λdy y H2 _ s2 r2 p2=>⟨s1.trans s2,(hA.same s1).same s2,dx,dy,r1.same s2,r2,p2⟩⟩⟩
def Nd(X:Cx)(CL:ClA)(W:XW)(f:Aj)(g:Ac D->R D):Prop:=∀ A H0,IH X f (λxs H Q=>AG H0 H/\AOk H A/\∃ ds,GI X.K CL H A xs ds/\Bg (DY X.K CL Aa H0 A) W H (g ds) Q)
theorem eS:Nd X CL W (.type "list") (biD .list):=by
  intro A H0 pI s Y H xs us Q I r ⟨s0,hA,ds,rs,p⟩
  match ds,rs,p with
  |[.lst es],rs,p=>
    obtain⟨v,rfl,rv⟩:=rs.one;obtain⟨q,ys,rfl,sq,ry⟩:=rv.lst_of;exact PU pI s Y H _ us Q I r ⟨q,ys,rfl,.inl sq,λl hl=>p _ _ (FF hl _) (JE s0 hA hl ry)⟩
  |[.tup es],rs,p=>
    obtain⟨v,rfl,rv⟩:=rs.one;obtain⟨q,ys,rfl,_,sq,ry⟩:=rv.tup_of;exact PU pI s Y H _ us Q I r ⟨q,ys,rfl,.inr sq,λl hl=>p _ _ (FF hl _) (JE s0 hA hl ry)⟩
  |[],_,p=>exact p.elim
  |[.non],_,p=>exact p.elim
  |[.bl _],_,p=>exact p.elim
  |[.int _],_,p=>exact p.elim
  |[.str _],_,p=>exact p.elim
  |[.obj _ _],_,p=>exact p.elim
  |[.exc _ _],_,p=>exact p.elim
  |[.dic _],_,p=>exact p.elim
  |x::_::_,_,p=>cases x<;>exact p.elim
theorem fP{g:Ac D->R D}(hc:Nd X CL W (.type T) g)(hg:Gl X x)(hm:X.mg x=Af)(hv:CB x=Ab (.type T))(ha:SAT X CL W (e::es) fs)(hn:x≠"__name__")(hdb:(x==("__debug__" : Ah))=Ad)(he:Ay (e::es) X.env=(Ad,eval e X.env)::Ay es X.env)(hpl:∀ pos,(BR pos (Ay es X.env)).any (·.1)=Ad):SC X CL W Aa (.Call (.Name x p) (e::es) [] pos) (λU=>(fs U).bind g):=λA pI s Y H Q I ⟨hA,U,gd,q⟩=>
 QG (hc A H) hg hm hv (ha A) hn hdb he (hpl _) pI s Y H Q I ⟨hA,U,gd,G0.bindF q λds vs H1 _ s1 r1 p1=>⟨s1,hA.same s1,ds,r1,p1⟩⟩
theorem fQ{g:Ac D->R D}(hc:Nd X CL W (.builtin id) g)(hg:Gl X x)(hm:X.mg x=Af)(hv:CB x=Ab (.builtin id))(ha:SAT X CL W (e::es) fs)(hn:x≠"__name__")(hdb:(x==("__debug__" : Ah))=Ad)(he:Ay (e::es) X.env=(Ad,eval e X.env)::Ay es X.env)(hpl:∀ pos,(BR pos (Ay es X.env)).any (·.1)=Ad):SC X CL W Aa (.Call (.Name x p) (e::es) [] pos) (λU=>(fs U).bind g):=λA pI s Y H Q I ⟨hA,U,gd,q⟩=>
 Kb (hc A H) hg hm hv (ha A) hn hdb he (hpl _) pI s Y H Q I ⟨hA,U,gd,G0.bindF q λds vs H1 _ s1 r1 p1=>⟨s1,hA.same s1,ds,r1,p1⟩⟩
mutual
theorem TU{K:Fg}{H:Hp}{A:Ak->Prop}(hA:AOk H A):∀(n:Ae)(d:D){v:V},nlD n d=Aa->Rep K CL H A0 v d->Rep K CL H A v d
 |_,.non,_,_,h=>h
 |_,.bl _,_,_,h=>h
 |_,.int _,_,_,h=>h
 |_,.str _,_,_,h=>h
 |0,.tup _,_,hn,_=>by cases hn
 |n+1,.tup ds,_,hn,h=>by
  obtain⟨a,xs,e,_,s,r⟩:=h;refine⟨a,xs,e,?_,s,nls_up hA n ds hn r⟩;rcases s with s|s
  .refine .inl λz=>?_
   obtain⟨ys,q⟩:=hA a z;rcases s with s|⟨o,s⟩<;>rw[q]at s<;>cases s
  .exact .inr s
 |n,.lst _,_,hn,_=>by cases n<;>cases hn
 |n,.obj _ _,_,hn,_=>by cases n<;>cases hn
 |n,.exc _ _,_,hn,_=>by cases n<;>cases hn
 |n,.dic _,_,hn,_=>by cases n<;>cases hn
theorem nls_up{K:Fg}{H:Hp}{A:Ak->Prop}(hA:AOk H A):∀(n:Ae)(ds:Ac D){vs:Ac V},ds.all (nlD n)=Aa->Reps K CL H A0 vs ds->Reps K CL H A vs ds
 |_,[],[],_,h=>h
 |n,d::ds,_::_,hn,h=>by
  simp only[C5,Al]at hn;exact⟨TU hA n d hn.1 h.1,nls_up hA n ds hn.2 h.2⟩
 |_,[],_::_,_,h=>h.elim
 |_,_::_,[],_,h=>h.elim
end
theorem S7{fr:Ai}(hA0:AOk H0 A)(s:AG H0 H)(hc:FK fr d=Aa)(r:DY K CL fr H0 A0 H v d):DY K CL fr H0 A H v d:=by
 have hA:=hA0.same s;cases d with
 |lst ds=>
  have hc':(fr&&ds.all (nlD 5))=Aa:=hc;rw[Al]at hc';obtain⟨a,xs,e,h0,h1,rs⟩:=r.2 hc'.1 ds rfl;have hA2:AOk H (λb=>A b\/b=a):=λb hb=>hb.elim (hA b) λe=>by rw[e];exact⟨xs,h1⟩
  have rs':=nls_up hA2 5 ds hc'.2 (Reps.sub (λ_ z=>z.elim) _ rs)
  refine⟨⟨a,xs,e,.inl (hA0.new h0),SqL.of h1,Reps.sub (λ_ z=>.inl z) _ rs'⟩,λ_ ds' e'=>?_⟩
  cases e';exact⟨a,xs,e,h0,h1,rs'⟩
 |_=>exact⟨TU hA 5 _ hc r.1,λ_ _ z=>nomatch z⟩
def spD(K:Fg)(CL:ClA)(n:Ae)(fr:Ai)(F:Ac D->R D):Sp:=λvs H Q E=>∃(ds:Ac D)(A:Ak->Prop),vs.length=n/\AOk H A/\Reps K CL H A vs ds/\(match F ds with
  |.ok d=>∀ v H',AG H H'->DY K CL fr H A H' v d->Q v H'
  |.exn x=>∀ cls dx H',AG H H'->F2 K CL H' cls dx x->E cls dx H'
  | .bad=>A5)
def EKW(K:Fg)(CL:ClA)(A:Ak->Prop)(W:XW):XK:=λcls dx H'=>∃ x,F2 K CL H' cls dx x/\W x H'
theorem GI.plain{K:Fg}{H:Hp}{A:Ak->Prop}:∀{vs:Ac V}{ds:Ac D},GI K CL H A vs ds->Reps K CL H A0 vs ds
 |[],[],h=>trivial
 |_::_,_::_,h=>⟨h.1.plain,GI.plain h.2⟩
 |[],_::_,h=>h.elim
 |_::_,[],h=>h.elim
theorem aQ{CX:CXT}{fr:Ai}{f:Ak}{fd:BQ}{ps:Ac Ah}{F:Ac D->R D}{ft:Rho->R (Ac D)}{sh:Rho->Ai}(G:FnOk X.prog X.w X.K X.mg X.base CX k f fd ps (spD X.K CL n fr F))(hr:Room k X.A)(hg:Gl X x)(hm:X.mg x=Ab (.ref f))(hk:Co X.K (.ref f)=Aa)(hb:G1 X.K fd ps [])(hx:∀ A,KA CX X (EKW X.K CL A W))(ha:SA X CL W (e::es) fs)(hat:SAT X CL W (e::es) ft)(hst:∀ U,sh U=Aa->ft U=fs U)(hn:∀ U ds,ft U=.ok ds->ds.length=n)(hdb:(x==("__debug__" : Ah))=Ad)(he:Ay (e::es) X.env=(Ad,eval e X.env)::Ay es X.env)(hpl:∀ pos,(BR pos (Ay es X.env)).any (·.1)=Ad):SC X CL W fr (.Call (.Name x p) (e::es) [] pos) (λU=>(ft U).bind λds=>(F ds).bind λd=>if sh U=Aa then .ok d else if FK fr d=Aa then .ok d else .bad):=λA pI s Y H Q I ⟨hA,U,gd,q⟩=>by
 dsimp only at q;by_cases hs:sh U=Aa
 .rw[hst U hs]at q;refine RP G hr hg hm hk hb .nil (hx A) (ha A) hdb he (hpl _) pI s Y H Q I ⟨hA,U,gd,?_⟩;cases e1:fs U with
  |bad=>rw[e1]at q;exact q
  |exn y=>rw[e1]at q;exact q
  |ok ds=>
   rw[e1]at q;intro vs H1 s1 r1;refine⟨ds,A,by rw[Bo,r1.length];exact hn U ds (by rw[hst U hs];exact e1),hA.same s1,by rw[Bo];exact r1,?_⟩
   have q':Bg (DY X.K CL fr H A) W H ((F ds).bind λd=>if sh U=Aa then .ok d else if FK fr d=Aa then .ok d else .bad) Q:=q
   cases e2:F ds with
   |ok d=>
    rw[e2,R.bind_ok,Aq hs]at q';exact λv H2 s2 r2=>q' v H2 (s1.trans s2) ⟨r2.1,λz ds' e'=>let ⟨a,xs,z1,z2,z3⟩:=r2.2 z ds' e';⟨a,xs,z1,s1.free z2,z3⟩⟩
   |exn y=>rw[e2]at q';exact λcls dx H2 s2 xr=>⟨y,xr,q' H2 (s1.trans s2)⟩
   |bad=>rw[e2]at q';exact q'.elim
 .refine RP G hr hg hm hk hb .nil (hx A0) (hat A) hdb he (hpl _) pI s Y H Q I ⟨hA,U,gd,?_⟩;cases e1:ft U with
  |bad=>rw[e1]at q;exact q
  |exn y=>rw[e1]at q;exact q
  |ok ds=>
   rw[e1]at q;intro vs H1 s1 r1;refine⟨ds,A0,by rw[Bo,r1.plain.length];exact hn U ds e1,λ_ z=>z.elim,by rw[Bo];exact r1.plain,?_⟩
   have q':Bg (DY X.K CL fr H A) W H ((F ds).bind λd=>if sh U=Aa then .ok d else if FK fr d=Aa then .ok d else .bad) Q:=q
   cases e2:F ds with
   |ok d=>
    rw[e2,R.bind_ok,As hs]at q';split at q'
    .rename_i hc;exact λv H2 s2 r2=>q' v H2 (s1.trans s2) (S7 hA (s1.trans s2) hc ⟨r2.1,λz ds' e'=>let ⟨a,xs,z1,z2,z3⟩:=r2.2 z ds' e';⟨a,xs,z1,s1.free z2,z3⟩⟩)
    .exact q'.elim
   |exn y=>rw[e2]at q';exact λcls dx H2 s2 xr=>⟨y,xr,q' H2 (s1.trans s2)⟩
   |bad=>rw[e2]at q';exact q'.elim
end
theorem NF(env:Cr):∀(ns:Ac (Ah×Ek))(acc:Ac (Ah×Ak)),(∀ x∈ns,x.2=.free->∃ c,env.cells.lookup x.1=Ab c)->(∀ x c,acc.lookup x=Ab c->env.cells.lookup x=Ab c) ->
  ∃ cl,(forIn ns acc fun(x:Ah×Ek)(cs:Ac (Ah×Ak))=>(if (x.2==.free)=Aa then do let c <-cellOf env x.1;pure (EA ((x.1,c)::cs)) else pure (EA cs):Dq (ForInStep (Ac (Ah×Ak)))))=pure cl /\
   (∀ x c,cl.lookup x=Ab c->env.cells.lookup x=Ab c)/\(∀ x,((x,DV)∈ns\/∃ c,acc.lookup x=Ab c)->∃ c,cl.lookup x=Ab c)
 |[],acc,_,h2=>⟨acc,by rw[GB],h2,λx hx=>hx.elim (λz=>nomatch z) id⟩
 |(n,k)::r,acc,h1,h2=>by
  rw[HA];by_cases hk:k=.free
  .subst hk;obtain⟨c,hc⟩:=h1 (n,.free) AN rfl;obtain⟨cl,e,p,q⟩:=NF env r ((n,c)::acc) (λx hx=>h1 x (AC _ hx)) (λx d hd=>by
    rw[B8]at hd;split at hd
    .rename_i hx;cases hd;rw[eq_of_beq hx];exact hc
    .exact h2 x d hd)
   refine⟨cl,?_,p,λx hx=>q x ?_⟩
   .have e1:cellOf env n=pure c:=by unfold cellOf;dsimp only at hc;rw[hc]
    rw[Aq (by rfl),e1]
    exact e
   .rcases hx with hx|⟨d,hd⟩
    .rcases AI.mp hx with z|z
     .cases z;exact .inr ⟨c,by simp[B8]⟩
     .exact .inl z
    .by_cases hxn:x=n
     .exact .inr ⟨c,by subst hxn;simp[B8]⟩
     .exact .inr ⟨d,by rw[B8];rw[E1.mpr hxn];exact hd⟩
  .obtain⟨cl,e,p,q⟩:=NF env r acc (λx hx=>h1 x (AC _ hx)) h2
   refine⟨cl,?_,p,λx hx=>q x ?_⟩
   .rw[As (by simpa using hk)]
    exact e
   .rcases hx with hx|hx
    .rcases AI.mp hx with z|z
     .cases z;exact absurd rfl hk
     .exact .inl z
    .exact .inr hx
theorem Qq(h:∀ x∈scope.names,x.2=.free->∃ c,env.cells.lookup x.1=Ab c):∃ cl,closureFor scope env=pure cl/\(∀ x c,cl.lookup x=Ab c->env.cells.lookup x=Ab c)/\∀ x,(x,DV)∈scope.names->∃ c,cl.lookup x=Ab c:=by
 obtain⟨cl,e,p,q⟩:=NF env scope.names [] h (λx c z=>by simp at z)
 refine⟨cl,?_,p,λx hx=>q x (.inl hx)⟩
 unfold closureFor
 first
  |exact e
  |(simp only[bind_pure];exact e)
  |(rw[show (forIn scope.names ([]:Ac (Ah×Ak)) _:Dq _)=pure cl from e];rfl)
theorem NT:∀(names:Ac (Ah×Ek))(h:AD)(acc:Ac (Ah×Ak))(x:Ah)(c:Ak),(Dg h.objs.size names acc).lookup x=Ab c->acc.lookup x=Ab c\/((x,BJ)∈names/\h.objs.size<=c/\(GR h names).IsCell c Af)
 |[],_,_,_,_,e=>.inl e
 |(n,k)::r,h,acc,x,c,e=>by
  unfold Dg at e;unfold GR;by_cases hk:(k==BJ)=Aa
  .rw[Aq hk]at e ⊢;have hs:h.objs.size+1=(h.push { cls:=.type "cell",data:=.cell Af }).objs.size:=(BF ..).symm;rw[hs]at e;rcases NT r _ _ x c e with q|⟨q1,q2,q3⟩
   .rw[B8]at q;cases hx:x==n with
    |true=>
     rw[hx]at q;cases q;refine .inr ⟨?_,Aw _,?_⟩
     .rw[eq_of_beq hx,eq_of_beq hk];exact AN
     .exact⟨_,HF r _ _ _ (AJ _ rfl),rfl⟩
    |false=>rw[hx]at q;exact .inl q
   .exact .inr ⟨AC _ q1,by omega,q3⟩
  .rw[As hk]at e ⊢;rcases NT r h acc x c e with q|⟨q1,q2,q3⟩
   .exact .inl q
   .exact .inr ⟨AC _ q1,q2,q3⟩
theorem NU:∀(names:Ac (Ah×Ek))(h:AD)(acc:Ac (Ah×Ak)),(∀ x y c,acc.lookup x=Ab c->acc.lookup y=Ab c->x=y)->(∀ x c,acc.lookup x=Ab c->c<h.objs.size)->∀ x y c,(Dg h.objs.size names acc).lookup x=Ab c->(Dg h.objs.size names acc).lookup y=Ab c->x=y
 |[],_,_,i,_,x,y,c,e1,e2=>i x y c e1 e2
 |(n,k)::r,h,acc,i,b,x,y,c,e1,e2=>by
  unfold Dg at e1 e2;by_cases hk:(k==BJ)=Aa
  .rw[Aq hk]at e1 e2;have hs:h.objs.size+1=(h.push { cls:=.type "cell",data:=.cell Af }).objs.size:=(BF ..).symm;rw[hs]at e1 e2;have look:∀ z d,HH z ((n,h.objs.size)::acc)=Ab d->(z=n/\d=h.objs.size)\/(z≠n/\acc.lookup z=Ab d):=λz d q=>by
    rw[B8]at q;cases hx:z==n with
    |true=>rw[hx]at q;cases q;exact .inl ⟨eq_of_beq hx,rfl⟩
    |false=>rw[hx]at q;exact .inr ⟨λe=>by rw[e]at hx;simp at hx,q⟩
   refine NU r _ _ (λz z' d q q'=>?_) (λz d q=>?_) x y c e1 e2
   .rcases look z d q with ⟨rfl,q1⟩|⟨_,q1⟩<;>rcases look z' d q' with ⟨rfl,q2⟩|⟨_,q2⟩
    .rfl
    .exact absurd (b _ _ q2) (by rw[q1];exact Br _)
    .exact absurd (b _ _ q1) (by rw[q2];exact Br _)
    .exact i _ _ _ q1 q2
   .rw[<-hs];rcases look z d q with ⟨_,q1⟩|⟨_,q1⟩
    .rw[q1];exact Hk _
    .exact Cq (b _ _ q1)
  .rw[As hk]at e1 e2;exact NU r h acc i b x y c e1 e2
theorem NG:∀(names:Ac (Ah×Ek))(n:Ae)(acc:Ac (Ah×Ak))(x:Ah),(x,BJ)∉names->(Dg n names acc).lookup x=acc.lookup x
 |[],_,_,_,_=>rfl
 |(m,k)::r,n,acc,x,hx=>by
  unfold Dg;have hr:(x,BJ)∉r:=λz=>hx (AC _ z)
  by_cases hk:(k==BJ)=Aa
  .rw[Aq hk,NG r _ _ x hr,B8];cases q:x==m with
   |true=>exact absurd (by rw[eq_of_beq q,eq_of_beq hk];exact AN) hx
   |false=>rfl
  .rw[As hk];exact NG r n acc x hr
theorem NV(n0:Ae):∀(names:Ac (Ah×Ek))(n:Ae)(acc:Ac (Ah×Ak))(x:Ah),n0<=n->((x,BJ)∈names\/∃ c,acc.lookup x=Ab c/\n0<=c)->∃ c,(Dg n names acc).lookup x=Ab c/\n0<=c
 |[],_,_,_,_,h=>h.elim (λz=>nomatch z) id
 |(m,k)::r,n,acc,x,hn,h=>by
  unfold Dg;by_cases hk:(k==BJ)=Aa
  .rw[Aq hk];refine NV n0 r _ _ x (by omega) ?_
   by_cases hx:(x==m)=Aa
   .exact .inr ⟨n,by rw[B8,hx],hn⟩
   .rcases h with h|⟨c,h,hc⟩
    .rcases AI.mp h with z|z
     .cases z;simp at hx
     .exact .inl z
    .exact .inr ⟨c,by rw[B8];simp only[hx];exact h,hc⟩
  .rw[As hk];refine NV n0 r _ _ x hn (h.imp (λh=>?_) id)
   rcases AI.mp h with z|z
   .cases z;simp at hk
   .exact z
theorem Xq{M:Eo}{A:AT}{E:Vq}{globals:Ak}{qual:Ah}{Q:Cr->Ap->Prop}(hQ:Q (newEnv scope s.heap.objs.size globals (Dg (s.heap.objs.size+1) scope.names cl) qual Af .none (Ab env) Iu) { s with heap:=GR (s.heap.push { cls:=.type "dict",data:=.dict #[] }) scope.names }):AB M A (Il scope globals cl [] qual Af .none (Ab env)) Q E s:=by
 simp only[Il,Option.isSome_some,EO];refine Ao (wpAny_alloc ?_);refine Ao (wpAny_layCells _ (λname kind cells=>by cases hkc:kind==BJ<;>simp[hkc]) _ _ _ _ ?_)
 rw[show ({ s with heap:=s.heap.push { cls:=.type "dict",data:=.dict #[] } }:Ap).heap.objs.size=s.heap.objs.size+1 from BF ..]
 rw[GB];exact Ao (AK (AK hQ))
noncomputable def cxC(X:Cx)(scope:BX)(cl:Ac (Ah×Ak))(C:Ak)(N':Ac Ah)(s₀:Ap)(H₀:Hp)(fp:Ac Ak):Cx where
 prog:=X.prog
 w:=X.w
 K:=X.K
 mg:=X.mg
 base:=X.base
 A:=X.A
 N:=N'
 s₀:=s₀
 H₀:=H₀
 env:=compEnvC scope cl C X.env
 outer:=X.stack
 stack:=X.stack
 ex:=fp
 fn:=λx=>scope.names.lookup x==Ab BJ
 calm:=X.calm
 pn:=[]
 xe:=λ_ _=>A5
theorem L4{env:Cr}:∀{names:Ac (Ah×Ek)}{x:Ah}{k:Ek},(names.map λ(n,k)=>if (k==DV&&env.scope.kind==.function&&env.kindOf n==Ab .cell) then (n,BJ) else (n,k)).lookup x=Ab k->names.lookup x=Ab k\/(k=.cell/\names.lookup x=Ab .free)
 |[],_,_,h=>by simp at h
 |(n,j)::r,x,k,h=>by
  have ih:=@L4 env r x k;have h':HH x ((if (j==DV&&env.scope.kind==.function&&env.kindOf n==Ab .cell)=Aa then (n,BJ) else (n,j))::(r.map λ(n,k)=>if (k==DV&&env.scope.kind==.function&&env.kindOf n==Ab .cell) then (n,BJ) else (n,k)))=Ab k:=h
  by_cases hc:(j==DV&&env.scope.kind==.function&&env.kindOf n==Ab .cell)=Aa
  .rw[Aq hc]at h';rw[B8]at h' ⊢;cases hx:x==n with
   |true=>
    rw[hx]at h';cases h';simp only[Al]at hc;exact .inr ⟨rfl,by rw[eq_of_beq hc.1.1]⟩
   |false=>rw[hx]at h';exact ih h'
  .rw[As hc]at h';rw[B8]at h' ⊢;cases hx:x==n with
   |true=>rw[hx]at h';exact .inl h'
   |false=>rw[hx]at h';exact ih h'
structure BlockOk (X:Cx) (scope:BX) (N':Ac Ah) (ts:Ac Ae):Prop where
 kind:scope.kind=.function
 uniq:∀ y∈scope.names,scope.names.lookup y.1=Ab y.2
 names:∀ y∈scope.names,y.2=.local->scope.names.lookup y.1=Ab .local
 free:∀ y∈scope.names,y.2=.free->X.env.scope.names.lookup y.1=Ab .cell\/X.env.scope.names.lookup y.1=Ab .free
 len:N'.length=X.N.length
 same:∀ i x,N'[i]?=Ab x->scope.names.lookup x=Ab .free->i∉ts->X.N[i]?=Ab x
 loc:∀ i x,N'[i]?=Ab x->(scope.names.lookup x=Ab .local\/scope.names.lookup x=Ab .cell)->i∈ts
structure BCells (X:Cx) (scope:BX) (cl:Ac (Ah×Ak)) (C:Ak) (h:AD):Prop where
 own:∀ x c,cl.lookup x=Ab c->X.env.cells.lookup x=Ab c\/(scope.names.lookup x=Ab .cell/\C<c/\h.IsCell c Af)
 inj:∀ x y c,cl.lookup x=Ab c->cl.lookup y=Ab c->x=y
 has:∀ x,scope.names.lookup x=Ab .cell->∃ c,cl.lookup x=Ab c/\C<c
 fr:∀ x,(x,DV)∈scope.names->∃ c,cl.lookup x=Ab c/\X.env.cells.lookup x=Ab c
section
variable{X:Cx}{pI:Pn}{Y:L2.St}{H:Hp}{s:Ap}
noncomputable def hideT(ts:Ac Ae)(Y:L2.St):L2.St:=ts.foldl (λY t=>Y.set t Af) Y
theorem NO:∀(ts:Ac Ae)(Y:L2.St),(hideT ts Y).length=Y.length
 |[],_=>rfl
 |t::ts,Y=>by show (hideT ts (Y.set t Af)).length=_;rw[NO ts,Bb]
theorem QP:∀(ts:Ac Ae)(Y:L2.St){i:Ae}{v:V},(hideT ts Y)[i]?=Ab (Ab v)->Y[i]?=Ab (Ab v)/\i∉ts
 |[],_,_,_,h=>⟨h,by simp⟩
 |t::ts,Y,i,v,h=>by
  obtain⟨h1,h2⟩:=QP ts (Y.set t Af) (i:=i) (v:=v) h;by_cases e:t=i
  .subst e;have:=GF h1;cases this
  .rw[Ci e]at h1;exact⟨h1,by simp only[AI,FN];exact⟨λz=>e z.symm,h2⟩⟩
theorem XG{C:Ak}{m:Ah->Am Aj}(I:Inv X pI Y H s)(B:BlockOk X scope N' ts)(hf:∀ b∈fp,Gy X pI H b)(hfo:∀ b∈fp,b<s.heap.objs.size)(hb:BCells X scope cl C h')(hk:∀ b o,s.heap.get? b=Ab o->h'.get? b=Ab o)(hC:s.heap.objs.size<=C)(hn:h'.Ns C m):Inv (cxC X scope cl C N' s H fp) [] (hideT ts Y) H {s with heap:=h',toks:=tk}:=by
 have stf:∀ b∈fp,b∉frs X.stack:=λb hb z=>by
  rcases AI.mp (I.stkSub b z) with e|e
  .exact(hf b hb).2.1 e
  .exact(hf b hb).2.2.1 e
 have frOf:∀ x,((relabel scope X.env).names.lookup x=Ab .cell\/(relabel scope X.env).names.lookup x=Ab .free)->scope.names.lookup x=Ab .free\/scope.names.lookup x=Ab .cell:=λx hx=>by
  rcases hx with z|z
  .rcases L4 z with z|⟨_,z⟩
   .exact .inr z
   .exact .inl z
  .rcases L4 z with z|⟨z,_⟩
   .exact .inl z
   .cases z
 have gtC:∀ c:Ak,C<c->s.heap.objs.size<=c:=λc z=>B5 hC (Gd z)
 have cellK:∀ c v,s.heap.IsCell c v->h'.IsCell c v:=λc v ⟨o,ho,hd⟩=>⟨o,hk _ _ ho,hd⟩
 refine⟨⟨I.ok.mod,B.kind,I.ok.glob,I.ok.blt,hC,hb.inj,λx hx=>?_,λx c h e=>?_,I.ok.hd,I.ok.frames,.inl rfl,λb hbb=>⟨?_,λx c e=>?_⟩,I.bs,B5 I.ok.bsz I.sz,λb o e hbb=>?_,stf,I.stack,I.stkFree⟩,rfl,I.bare,Un.kept hk,⟨m,hn,λi x v h1 h2 h3=>?_⟩,λx c e=>?_,I.hok.fresh hC,λx c e=>(hb.own x c e).elim (I.freeC x c) (λz=>I.hok.fresh (gtC c z.2.1)),λp hp=>absurd (show p∈([]:Pn) from hp) (by simp),I.hok.kept hk,?_⟩
 .rcases frOf x hx with z|z
  .obtain⟨c,q,_⟩:=hb.fr x (Ct z);exact⟨c,q⟩
  .obtain⟨c,q,_⟩:=hb.has x z;exact⟨c,q⟩
 .obtain⟨c',q,z⟩:=hb.has x (eq_of_beq h);have e':cl.lookup x=Ab c:=e;rw[q]at e';cases e';exact gtC _ z
 .intro z;have z':b=C:=z;have:=hfo b hbb;rw[z']at this;exact absurd (AO this hC) (Br _)
 .rcases hb.own x c e with z|z
  .exact(hf b hbb).2.2.2.2.1 x c z
  .intro q;have:=hfo b hbb;have:=gtC c z.2.1;rw[q]at this;exact absurd ‹b<_› (Vy.mpr this)
 .rcases (hf b hbb).2.2.2.1 with z|z
  .exact I.ok.noex b o e z
  .exact absurd (AO (AL e) (B5 I.ok.bsz z)) (Br _)
 .obtain⟨h2,hts⟩:=QP ts Y h2;have h3':(relabel scope X.env).names.lookup x=Ab .local\/(relabel scope X.env).names.lookup x=Ab .cell\/(relabel scope X.env).names.lookup x=Ab .free:=h3;have h1':N'[i]?=Ab x:=h1;rcases h3' with z|z
  .rcases L4 z with z|⟨z,_⟩
   .exact absurd (B.loc i x h1' (.inl z)) hts
   .cases z
  .have fr:=(frOf x z).resolve_right λq=>hts (B.loc i x h1' (.inr q))
   have hm:=Ct fr;have hX:=B.same i x h1' fr hts;obtain⟨m0,hn0,hl0⟩:=I.loc;obtain⟨u,ru,lk⟩:=hl0 i x v hX h2 (by
    rcases B.free _ hm rfl with q|q
    .exact .inr (.inl q)
    .exact .inr (.inr q))
   refine⟨u,ru,?_⟩;obtain⟨c,hc,hcX⟩:=hb.fr x hm;rcases lk with ⟨q,_⟩|⟨_,c',hc',hcell⟩
   .have q':X.env.scope.names.lookup x=Ab .local:=q;rcases B.free _ hm rfl with p|p
    .rw[show X.env.scope.names.lookup x=_ from p]at q';cases q'
    .rw[show X.env.scope.names.lookup x=_ from p]at q';cases q'
   .have e:=hcX;rw[hc']at e;cases e;exact .inr ⟨z,c,hc,cellK _ _ hcell⟩
 .rcases hb.own x c e with z|z
  .obtain⟨v,q⟩:=I.cell x c z;exact⟨v,cellK _ _ q⟩
  .exact⟨_,z.2.2⟩
 .show (hideT ts Y).length=N'.length;rw[NO,I.len,B.len]
theorem Qw{C D:Ak}{s':Ap}{Y':L2.St}{pins':Pn}{h'':AD}{ys:Ac Aj}(I:Inv X pI Y H s)(hf:∀ b∈fp,Gy X pI H b)(I':Inv (cxC X scope cl C N' s H fp) pins' Y' H' s')(hD:s.heap.objs.size<=D)(hDC:D≠C)(hC:s.heap.objs.size<=C)(hd:s'.heap.get? D=Ab { cls:=.type "list",data:=.seq ys.toArray n })(hDn:H' D=Af)(rv:A6 xs ys)(hz:xs.length<=sizeLine)(hs:E9 C s'.heap h''):Inv X pI Y (upd H' D (.lst xs)) {s' with heap:=h''}:=by
  have u:Un (frs X.stack) fp H H' s.heap s'.heap:=I'.base;have lt:∀ b o,s.heap.get? b=Ab o->b≠C/\b≠D:=λb o e=>⟨λz=>absurd (AO (AL e) (z ▸ hC)) (Br _),λz=>absurd (AO (AL e) (z ▸ hD)) (Br _)⟩
  have HD:H D=Af:=I.hok.fresh hD;have hCn:H' C=Af:=I'.free;have kb:∀ b o,b≠C->s'.heap.get? b=Ab o->h''.get? b=Ab o:=λb o hb e=>(hs.2 b hb).trans e
  have u2:Un (frs X.stack) fp H (upd H' D (.lst xs)) s.heap h'':=⟨λb o e q hb hx=>kb b o (lt b o e).1 (u.keep b o e q hb hx),λb o e q hb hx=>by
      obtain⟨sl,e1⟩:=u.slot b o e q hb hx;exact⟨sl,kb b _ (lt b o e).1 e1⟩,λb o e q hx=>by rw[B6 (lt b o e).2];exact u.free b o e q hx,λb o e hx=>by
      obtain⟨o',e1⟩:=u.there b o e hx;exact⟨o',kb b _ (lt b o e).1 e1⟩,λb zs q=>by rw[B6 (FE q HD)];exact u.tups b zs q,λb o zs q=>by rw[B6 (FE q HD)];exact u.frzs b o zs q,λb ps q=>by rw[B6 (FE q HD)];exact u.tbls b ps q⟩
  have hok:HOk X.prog X.w (upd H' D (.lst xs)) h'':=λb o e=>by
    by_cases hb:b=D
    · subst hb;rw[GE]at e;cases e;exact⟨hz,ys,n,rv,kb _ _ hDC hd⟩
    · rw[B6 hb]at e;refine(I'.hok b o e).stay (λc v hc q=>kb c v ?_ q) (λc q=>by rw[B6 (FE q hDn)];exact q) λc zs q=>by rw[B6 (FE q hDn)];exact q
      rcases hc with rfl|hc
      · exact FE e hCn
      · exact FE hc hCn
  exact I.call' (s':={s' with heap:=h''}) (ch:=fp) I'.os u2 hok I'.bare λb hb=>⟨(hf b hb).2.2.2.1,(hf b hb).2.1,(hf b hb).2.2.2.2.1,(hf b hb).2.2.2.2.2⟩
end
def PTs(X:Cx)(ifs:Ac An)(tt:TT):Prop:=∀(pI:Pn)(s:Ap)(Y:L2.St)(H:Hp)(Q:Ai->Hp->Prop),Inv X pI Y H s->tt Y H Q ->
 AB (model X.prog X.w) X.A (forIn ifs Aa λc r=>if r=Aa then do let ok <-Ik c X.env (eval c X.env);pure (EA ok) else pure (EA r)) (TP X pI Y Q) X.xe s
theorem Z_7:PTs X [] (λY H Q=>Q Aa H):=λpI s Y H Q I h=>wpAny_tests_nil ⟨H,I,h⟩
theorem Z_6{t:TT}(h:PT X c t):PTs X [c] t:=λpI s Y H Q I q=>wpAny_tests_one (h pI s Y H Q I q)
theorem XV{D:Ak}{ys:Ac Aj}{y:Aj}{E:Vq}{Q:Vq}(I:Inv X ((D,{ cls:=.type "list",data:=.seq ys.toArray n })::pI) Y H s)(hD:X.s₀.heap.objs.size<=D)(hp:∀ p∈X.pn++pI,p.1≠D)(hc:∀ x c,X.env.cells.lookup x=Ab c->c≠D)(hz:ys.length<=sizeLine)(h:∀ s',Inv X ((D,{ cls:=.type "list",data:=.seq (ys++[y]).toArray (n+1) })::pI) Y H s'->(∀ b o,b≠D->s.heap.get? b=Ab o->s'.heap.get? b=Ab o)->Q .none s'):AB (model X.prog X.w) X.A (call (.builtin "list.append") [.ref D,y]) Q E s:=by
 obtain⟨e,hn,hL,hfs,_⟩:=I.pin (D,{ cls:=.type "list",data:=.seq ys.toArray n }) (Bp _ AN);refine append_at (hsz:=by rw[AH];exact hz) e λh' hs hd=>?_
 have hd':h'.get? D=Ab { cls:=.type "list",data:=.seq (ys++[y]).toArray (n+1) }:=by rw[hd];simp
 have kb:∀ b o,b≠D->s.heap.get? b=Ab o->h'.get? b=Ab o:=λb o hb q=>(hs.2 b hb).trans q
 have I0:Inv X pI Y H s:=I.pins_of λp hp=>I.pin p (Bp _ (AC _ hp))
 have I1:Inv X pI Y H {s with heap:=h'}:=I0.turned (t':=s.toks) kb hn hL (.inr hD) hc hp
 refine h _ (I1.pins_of λp hp=>?_) kb
 rcases AI.mp hp with rfl|hp
 .exact⟨hd',hn,hL,hfs,λv z=>by
   have z':KZ _ _=IX v:=z;cases z'⟩
 .exact I1.pin p (Bp _ hp)
section
variable{prog:AM}{w:AY}{A:AT}{R:Ih->Ap->Prop}{s:Ap}
theorem XF{target:An}{it acc:Aj}(I:Ae->Ap->Prop)(turn:∀ n s,I n s->AB (model prog w) A (GS it) (λr s₁=>match r with
      |none=>R (.ok .next) s₁
      | some v=>AB (model prog w) A (Gi target it v) (λ_ s₁'=>AB (model prog w) A (assign target env v) (λ_ s₂=>
          AB (model prog w) A (forIn ifs Aa λc r=>if r=Aa then do let ok <-Ik c env (eval c env);pure (EA ok) else pure (EA r)) (λok s₃=>
            if ok=Aa then AB (model prog w) A (eval elt env) (λx s₄=>
              AB (model prog w) A (call (.builtin "list.append") [acc,x]) (λ_ s₅=>∃ m,m<n/\I m s₅) (Im (model prog w) A env λe s'=>R (.error e) s') s₄) (Im (model prog w) A env λe s'=>R (.error e) s') s₃
            else ∃ m,m<n/\I m s₃) (Im (model prog w) A env λe s'=>R (.error e) s') s₂) (Im (model prog w) A env λe s'=>R (.error e) s') s₁') (Im (model prog w) A env λe s'=>R (.error e) s') s₁) (Im (model prog w) A env λe s'=>R (.error e) s') s)(n:Ae)(h:I n s):F9 (model prog w) A (.compLoop (.ListComp elt [⟨target,iter,ifs,0⟩] scope pos) 0 it acc env) R s:=by
  refine codeAny_loop rfl I (λn s hI=>?_) n h
  show AB _ A ((compTurn (.ListComp elt [⟨target,iter,ifs,0⟩] scope pos) 0 it acc env).onRaise (λx=>do GQ x env;theTreesLotGoes x)) _ _ s
  refine wpAny_noted ?_;rw[compTurn_list];refine Ao (wpAny_standAt (Ao (Bt (turn n s hI) (λr s₁ h₁=>?_) λ_ _ h'=>h')))
  cases r with
  |none=>exact AK h₁
  |some v=>
    refine Ao (Bt h₁ (λ_ s₁' h₁'=>?_) λ_ _ h'=>h')
    refine Ao (Bt h₁' (λ_ s₂ h₂=>Ao (Bt h₂ (λok s₃ h₃=>?_) λ_ _ h'=>h')) λ_ _ h'=>h')
    cases ok with
    |false=>exact AK ⟨rfl,h₃⟩
    |true=>
      exact Ao (Ao (Bt h₃ (λx s₄ h₄=>Ao (Bt h₄ (λ_ s₅ h₅=>AK (AK ⟨rfl,h₅⟩)) λ_ _ h'=>h')) λ_ _ h'=>h'))
end
def Lp(J:It)(ts:Ac Ae)(g:TG)(tt:TT)(te:TE)(Y:L2.St)(H:Hp)(Q:VK):Prop:=∃ W:Ae->Ae->Ac V->L2.St->Hp->Prop,(∃ m,W 0 m [] (hideT ts Y) H)/\∀ i m xs Y H,W i m xs Y H ->
 (J.stop i H/\∀ p,H p=Af->Q (.ref p) (upd H p (.lst xs))) \/
 (J.go i H/\xs.length<sizeLine/\∀ x H',J.yld i H x H'->g x Y H' λY2 H2=>tt Y2 H2 λb H3=>if b=Aa then te Y2 H3 λy H4=>∃ m',m'<m/\W (i+1) m' (xs++[y]) Y2 H4 else ∃ m',m'<m/\W (i+1) m' xs Y2 H3)
theorem QY{g:TG}{it:Ak}{tn:Ae->AD->Prop}{E:Vq}{RR:Aj->Ak->Ih->Ap->Prop}(hc:X.calm=Aa)(B:BlockOk X scope N' ts)(I:Inv X pI Y H s)(T:Turn X.prog X.w X.K tg J fp it tn)(st:tn 0 s.heap)(hf:∀ b∈fp,Gy X pI H b)(hcl:∀ x c,cl.lookup x=Ab c->X.env.cells.lookup x=Ab c)(hcl2:∀ x,(x,DV)∈scope.names->∃ c,cl.lookup x=Ab c)(hg:∀ cl C s H,PG (cxC X scope cl C N' s H fp) tg g)(ht:∀ cl C s H,PTs (cxC X scope cl C N' s H fp) ifs tt)(he:∀ cl C s H,PE (cxC X scope cl C N' s H fp) elt te)(h:Lp J ts g tt te Y H Q)(hRR:∀ cl D C s' H' Y' pins' xs ys n m,Inv (cxC X scope cl C N' s H fp) pins' Y' H' s'->s'.heap.get? D=Ab { cls:=.type "list",data:=.seq (Cn ys) n }->H' D=Af->A6 xs ys->xs.length<=sizeLine->s.heap.objs.size<=D->D≠C->s.heap.objs.size<=C->s'.heap.Ns C m->Q (.ref D) (upd H' D (.lst xs))->RR (.ref D) C (.ok .next) s'):AB (model X.prog X.w) X.A (newList []) (λacc s₃=>AB (model X.prog X.w) X.A (Il scope X.env.globals cl [] X.env.qual Af .none (Ab X.env)) (λcenv s₄=>F9 (model X.prog X.w) X.A (.compStart (.ListComp elt [⟨tg,iter,ifs,0⟩] scope pos) 0 (.ref it) acc {cenv with scope:=relabel scope X.env}) (RR acc cenv.locals) s₄) E s₃) E s:=by
 refine CT (Xq ?_);dsimp only;generalize hH2:s.heap.push { cls:=.type "list",dict:=Af,data:=.seq ([]:Ac Aj).toArray }=H2;have hns₁:(GR (H2.push { cls:=.type "dict",data:=.dict #[] }) scope.names).Ns H2.objs.size (λ_=>Af):=(Heap.Ns.new H2 (.type "dict")).keeps (HF _ _)
 have hkp₁:∀ b o,H2.get? b=Ab o->(GR (H2.push { cls:=.type "dict",data:=.dict #[] }) scope.names).get? b=Ab o:=λb o e=>HF _ _ b o (Ar _ e)
 have hown:=NT scope.names (H2.push { cls:=.type "dict",data:=.dict #[] }) cl;have hinj:=NU scope.names (H2.push { cls:=.type "dict",data:=.dict #[] }) cl;rw[BF]at hown hinj;generalize hcl':Dg (H2.objs.size+1) scope.names cl=cl' at hown hinj;have hcf:∀ x,(x,BJ)∉scope.names->cl'.lookup x=cl.lookup x:=λx hx=>by rw[<-hcl'];exact NG _ _ _ x hx
 have hch:∀ x,(x,BJ)∈scope.names->∃ c,cl'.lookup x=Ab c/\H2.objs.size+1<=c:=λx hx=>by rw[<-hcl'];exact NV _ _ _ _ x (Aw _) (.inl hx)
 generalize hh₁:GR (H2.push { cls:=.type "dict",data:=.dict #[] }) scope.names=h₁ at hns₁ hkp₁ hown;have hC:H2.objs.size=s.heap.objs.size+1:=by rw[<-hH2,BF]
 have hCle:s.heap.objs.size<=H2.objs.size:=by rw[hC];exact Jw _
 have hDC:s.heap.objs.size≠H2.objs.size:=by rw[hC];exact Bj (Hk _)
 have below:∀ b,b<s.heap.objs.size->b≠H2.objs.size:=λb hb=>by rw[hC];exact Bj (Cq hb)
 have old:∀ b o,s.heap.get? b=Ab o->h₁.get? b=Ab o:=λb o e=>hkp₁ b o (hH2 ▸ Ar _ e)
 have hacc:h₁.get? s.heap.objs.size=Ab { cls:=.type "list",data:=.seq ([]:Ac Aj).toArray 0 }:=hkp₁ _ _ (hH2 ▸ AJ _ rfl);have clt:∀ x c,cl.lookup x=Ab c->c<s.heap.objs.size:=λx c e=>by
  obtain⟨v,q⟩:=I.cell x c (hcl x c e);exact q.lt
 have bc:BCells X scope cl' H2.objs.size h₁:=by
  refine⟨λx c e=>?_,hinj (λx y c e1 e2=>I.ok.inj x y c (hcl x c e1) (hcl y c e2)) (λx c e=>Cq (AO (clt x c e) hCle)),λx hx=>?_,λx hx=>?_⟩
  .rcases hown x c e with q|⟨q1,q2,q3⟩
   .exact .inl (hcl x c q)
   .exact .inr ⟨B.uniq _ q1,q2,q3⟩
  .have hm:=Ct hx;obtain⟨c,e,hc⟩:=hch x hm;exact⟨c,e,hc⟩
  .have hno:(x,BJ)∉scope.names:=λz=>by
    have e1:=B.uniq _ hx;have e2:=B.uniq _ z;rw[show scope.names.lookup x=_ from e1]at e2
    cases e2
   obtain⟨c,e⟩:=hcl2 x hx;exact⟨c,by rw[hcf x hno];exact e,hcl x c e⟩
 have hfo:∀ b∈fp,b<s.heap.objs.size:=λb hb=>by
  obtain⟨o,e,_⟩:=T.obj 0 _ st b hb;exact AL e
 generalize hD:s.heap.objs.size=D at *;generalize hC':H2.objs.size=C at *;have I0:Inv (cxC X scope cl' C N' s H fp) [] (hideT ts Y) H {s with heap:=h₁,toks:=s.toks+([]:Ac (Ah×Aj)).length}:=XG (tk:=s.toks+([]:Ac (Ah×Aj)).length) I B hf (λb hb=>by rw[hD];exact hfo b hb) bc old (by rw[hD];exact hCle) hns₁
 have nD:H D=Af:=I.hok.fresh (by rw[hD];exact Aw _)
 have noD:∀ b∈fp,b≠D:=λb hb=>Bj (hfo b hb)
 have noC:∀ b∈fp,b≠C:=λb hb=>below b (hfo b hb)
 have stfs:D∉frs X.stack:=λz=>by
  obtain⟨_,o,ho,_⟩:=I.stack.mem z;exact absurd (AL ho) (by rw[hD];exact Br _)
 have cD:∀ x c,cl'.lookup x=Ab c->c≠D:=λx c e z=>by
  rcases bc.own x c e with q|⟨_,q,_⟩
  .obtain⟨v,q⟩:=I.cell x c q;exact absurd q.lt (by rw[z,hD];exact Br _)
  .rw[z]at q;exact absurd (AO q hCle) (Br _)
 have I1:Inv (cxC X scope cl' C N' s H fp) [(D,{ cls:=.type "list",data:=.seq ([]:Ac Aj).toArray 0 })] (hideT ts Y) H {s with heap:=h₁,toks:=s.toks+([]:Ac (Ah×Aj)).length}:=I0.pins_of λp hp=>by
  have e:=Bk.mp hp;subst e;exact⟨hacc,nD,hDC,stfs,λv z=>by
   have z':KZ _ _=IX v:=z;cases z'⟩
 have st1:tn 0 h₁:=T.keep _ _ _ st λb _ o e=>old b o e
 obtain⟨W,⟨m0,w0⟩,turn⟩:=h;have fpk:∀{pl:Pn}{H':Hp},(∀ p∈pl,p.1=D)->(∀ b∈fp,H' b=Af)->∀ b∈fp,Gy (cxC X scope cl' C N' s H fp) pl H' b:=λ{pl H'} hp hn b hb=>
  ⟨hn b hb,noC b hb,λz=>by
   rcases AI.mp (I.stkSub b z) with e|e
   .exact(hf b hb).2.1 e
   .exact(hf b hb).2.2.1 e,.inl hb,λx c e=>(bc.own x c e).elim ((hf b hb).2.2.2.2.1 x c) (λz q=>absurd (GN hCle z.2.1) (Vy.mpr (by rw[q];exact Gd (hfo b hb)))),λp hp'=>by
   have hp2:p∈pl:=hp';rw[hp p hp2];exact(noD b hb).symm⟩
 have loop:∀ s₃:Ap,s₃={s with heap:=h₁,toks:=s.toks+([]:Ac (Ah×Aj)).length} ->
   F9 (model X.prog X.w) X.A (.compLoop (.ListComp elt [⟨tg,iter,ifs,0⟩] scope pos) 0 (.ref it) (.ref D) (compEnvC scope cl' C X.env)) (RR (.ref D) C) s₃:=by
  rintro s₃ rfl;refine XF (λk s'=>∃ i Y' H' xs ys n,Inv (cxC X scope cl' C N' s H fp) [(D,{ cls:=.type "list",data:=.seq (Cn ys) n })] Y' H' s'/\tn i s'.heap/\(∀ b∈fp,H' b=Af)/\A6 xs ys/\xs.length<=sizeLine/\W i k xs Y' H') ?_ m0
   ⟨0,_,H,[],[],0,I1,st1,λb hb=>(hf b hb).1,.nil,CH _,w0⟩
  rintro k s' ⟨i,Y',H',xs,ys,n,I',st',fr',rv,hz,w'⟩;have one:∀ p∈[((D,{ cls:=.type "list",data:=.seq (Cn ys) n }):Ak×DE)],p.1=D:=λp hp=>by rw[Bk.mp hp]
  rcases turn i k xs Y' H' w' with ⟨stop,q⟩|⟨go,hlt,step⟩
  .refine Bt (T.done (cxC X scope cl' C N' s H fp) rfl rfl rfl hc i _ s' Y' H' (λ_ _=>A5) I' (fpk one fr') st' stop) (λr s1 ⟨hr,J1⟩=>?_) λ_ _ f=>f.elim
   subst hr;obtain⟨e,hn,_⟩:=J1.pin _ (Bp _ AN);obtain⟨m,hm,_⟩:=J1.loc;exact hRR cl' D C s1 H' Y' _ xs ys n m J1 e hn rv hz (Aw _) hDC hCle hm (q D hn)
  .refine Bt (T.item (cxC X scope cl' C N' s H fp) rfl rfl rfl hc i _ s' Y' H' (λ_ _=>A5) I' (fpk one fr') st' go) (λr s1 ⟨u,hr,h4⟩=>?_) λ_ _ f=>f.elim
   subst hr;refine Bt h4 (λ_ s5 ⟨x,H5,I5,r5,y5,st5,fr5⟩=>?_) λ_ _ f=>f.elim
   have I5':=I5.pinned (fpk one fr5) (T.obj _ _ st5);refine Bt (hg cl' C s H _ s5 Y' H5 x u _ I5' r5 (step x H5 y5)) (λ_ s6 ⟨Y6,H6,I6,q6⟩=>?_) λ_ _ f=>f.elim
   refine Bt (ht cl' C s H _ s6 Y6 H6 _ I6 q6) (λok s7 ⟨H7,I7,q7⟩=>?_) λ_ _ f=>f.elim
   have again:∀{s8:Ap}{H8:Hp}{ys':Ac Aj}{n':Ae},Inv (cxC X scope cl' C N' s H fp) ((D,{ cls:=.type "list",data:=.seq (Cn ys') n' })::JO fp s5.heap) Y6 H8 s8->Inv (cxC X scope cl' C N' s H fp) [(D,{ cls:=.type "list",data:=.seq (Cn ys') n' })] Y6 H8 s8/\tn (i+1) s8.heap/\∀ b∈fp,H8 b=Af:=λ{s8 H8 ys' n'} I8=>
    ⟨I8.pins_of λp hp=>I8.pin p (Bp _ (by rw[Bk.mp hp];exact AN)),T.keep _ _ _ st5 λb hb o e=>(I8.pin (b,o) (Bp _ (AC _ (L5 hb e)))).1,λb hb=>by
     obtain⟨o,e,d⟩:=T.obj _ _ st5 b hb;exact(I8.pin (b,o) (Bp _ (AC _ (L5 hb e)))).2.1⟩
   cases ok with
   |false=>
    rw[As (by decide)]at q7
    obtain⟨m',hm,w7⟩:=q7;obtain⟨a1,a2,a3⟩:=again I7;rw[As (by decide)]
    exact⟨m',hm,i+1,Y6,H7,xs,ys,n,a1,a2,a3,rv,hz,w7⟩
   |true=>
    rw[Aq rfl]at q7;rw[Aq rfl];refine Bt (he cl' C s H _ s7 Y6 H7 _ I7 q7) (λval s8 ⟨y,H8,I8,r8,m',hm,w8⟩=>?_) λ_ _ f=>f.elim
    have hl:=rv.length;refine XV (X:=cxC X scope cl' C N' s H fp) (ys:=ys) (n:=n) (pI:=JO fp s5.heap) I8 (by show s.heap.objs.size<=D;rw[hD];exact Aw _) (λp hp=>?_) cD (by omega) λs9 I9 kb=>?_
    .have hp2:p∈JO fp s5.heap:=hp;exact noD _ (QH hp2).1
    .obtain⟨a1,a2,a3⟩:=again I9;exact⟨m',hm,i+1,Y6,H8,xs++[y],ys++[val],n+1,a1,a2,a3,rv.append (.cons r8 .nil),by rw[Be];exact hlt,w8⟩
 exact codeAny_compStart_list (loop _ rfl) (T.self _ 0 _ _ _ st1 (loop _ rfl))
theorem dI{g:TG}(hc:X.calm=Aa)(B:BlockOk X scope N' ts)(hi:PI X tg iter wi)(hg:∀ cl C s H fp,PG (cxC X scope cl C N' s H fp) tg g)(ht:∀ cl C s H fp,PTs (cxC X scope cl C N' s H fp) ifs tt)(he:∀ cl C s H fp,PE (cxC X scope cl C N' s H fp) elt te)(hs:∀ x,CS iter X.env x=pure x):PE X (.ListComp elt [⟨tg,iter,ifs,0⟩] scope pos) (λY H Q=>wi Y H λJ H1=>Lp J ts g tt te Y H1 Q):=by
 intro pI s Y H Q I h;obtain⟨cl,hclos,hcl,hcl2⟩:=Qq (scope:=scope) (env:=X.env) λx hx hk=>I.ok.has x.1 ((B.free x hx hk).imp id id)
 rw[eval_ListComp];refine Xg (use:=Af) rfl hs hclos B.kind B.names (thn (hi pI s Y H _ I h) λv s1 h1=>thn h1 λitv s2 h2=>?_)
 obtain⟨it,fp,tn,J,H2,e,I2,T,st2,f2,h3⟩:=h2;subst e;refine QY (RR:=λacc C=>compPost (model X.prog X.w) X.A X.xe Af (EP X pI Y Q) acc C) hc B I2 T st2 f2 hcl hcl2 (λcl C s H=>hg cl C s H fp) (λcl C s H=>ht cl C s H fp) (λcl C s H=>he cl C s H fp) h3 λcl' D C s' H' Y' pins' xs ys n m I' hd hDn rv hz hD hDC hC hm q=>?_
 exact⟨m,hm,λh'' hs''=>⟨.ref D,_,Qw I2 f2 I' hD hDC hC hd hDn rv hz hs'',rfl,q⟩⟩
theorem dD{n:Ah}{g:TG}(hc:X.calm=Aa)(B:BlockOk X scope N' ts)(hi:PI X tg iter wi)(hg:∀ cl C s H fp,PG (cxC X scope cl C N' s H fp) tg g)(ht:∀ cl C s H fp,PTs (cxC X scope cl C N' s H fp) ifs tt)(he:∀ cl C s H fp,PE (cxC X scope cl C N' s H fp) elt te)(hs:∀ x,CS iter X.env x=pure x)(hN:X.N.Nodup)(hni:X.N[i]?=Ab n)(hx:X.env.scope.names.lookup n=Ab .local)(hsw:Dh (.ListComp elt [⟨tg,iter,ifs,0⟩] scope pos) (Ab (.Name n pos')) pos2.line X.env=pure Aa):PS X (.Assign [.Name n pos'] (.ListComp elt [⟨tg,iter,ifs,0⟩] scope pos) pos2) (Pr (λY H Q=>wi Y H λJ H1=>Lp J ts g tt te Y H1 Q) (GZ i)):=by
 intro pI s Y H Dn I h;obtain⟨cl,hclos,hcl,hcl2⟩:=Qq (scope:=scope) (env:=X.env) λx hx hk=>I.ok.has x.1 ((B.free x hx hk).imp id id)
 rw[exec_Assign_Name_used _ _ _ _ hsw];refine Ao (wpAny_standAt (Ao ?_));show AB _ X.A (do let _ <-comprehension (.ListComp elt [⟨tg,iter,ifs,0⟩] scope pos) scope X.env _ (newList []) Ad (eval iter X.env) (Ab (assign (.Name n pos') X.env))) _ _ s
 refine Ao (Bt (Xg (use:=Ab (assign (.Name n pos') X.env)) (Q:=λ_ s'=>SP X pI Dn .next s') rfl hs hclos B.kind B.names
  (thn (hi pI s Y H _ I h) λv s1 h1=>thn h1 λitv s2 h2=>?_)) (λ_ s' hq=>AK (AK hq)) λ_ _ e=>e)
 obtain⟨it,fp,tn,J,H2,e,I2,T,st2,f2,h3⟩:=h2;subst e;refine QY (RR:=λacc C=>compPost (model X.prog X.w) X.A X.xe (Ab (assign (.Name n pos') X.env)) (λ_ s'=>SP X pI Dn .next s') acc C) hc B I2 T st2 f2 hcl hcl2 (λcl C s H=>hg cl C s H fp) (λcl C s H=>ht cl C s H fp) (λcl C s H=>he cl C s H fp) h3 λcl' D C s' H' Y' pins' xs ys n' m I' hd hDn rv hz hD hDC hC hm q=>?_
 have J0:Inv X pI Y (upd H' D (.lst xs)) s':=Qw I2 f2 I' hD hDC hC hd hDn rv hz (Heap.SameBut.refl ..);refine Xf (Qi J0 hN hni (.inl hx) (show Bx (.ref D) (.ref D) from rfl) (λs'' J1 ⟨a,sb,ha⟩=>?_) (.inr hx))
 have hC0:X.s₀.heap.objs.size<=C:=B5 I2.sz hC;have hL:C≠X.env.locals:=λz=>absurd (AO I2.lt (z ▸ hC)) (Br _)
 have hcC:∀ x c,X.env.cells.lookup x=Ab c->c≠C:=λx c e z=>by
  obtain⟨v,q'⟩:=I2.cell x c e;exact absurd (AO q'.lt (by rw[z];exact hC)) (Br _)
 have hp:∀ p∈X.pn++pI,p.1≠C:=λp hp z=>absurd (AO (AL (I2.pin p hp).1) (by rw[z];exact hC)) (Br _)
 have hCn:upd H' D (.lst xs) C=Af:=by rw[B6 hDC.symm];exact I'.free
 have hCa:C≠a:=by
  rcases ha with rfl|ha
  .exact hL
  .exact λz=>hcC n a ha z.symm
 refine⟨m,hm.sameBut sb hCa,λh'' hs''=>⟨_,_,J1.turned (t':=s''.toks) (λb o hb e=>(hs''.2 b hb).trans e) hCn hL (.inr hC0) hcC hp,q⟩⟩
theorem NQ:∀(ts:Ac Ae)(U:Rho)(j:Ae),(Gr ts U)[j]?=if j∈ts then (U[j]?).map (λ_=>Af) else U[j]?
 |[],U,j=>by simp[Gr]
 |t::ts,U,j=>by
  show (Gr ts (U.set t Af))[j]?=_;rw[NQ ts];by_cases h1:j∈ts
  .rw[Aq h1,Aq (AC _ h1)];by_cases h2:t=j
   .subst h2;rw[Ft];cases U[t]?<;>rfl
   .rw[Ci h2]
  .rw[As h1];by_cases h2:t=j
   .subst h2;rw[Aq AN,Ft];cases U[t]?<;>rfl
   .rw[Ci h2,As (by simp only[AI,FN];exact⟨λz=>h2 z.symm,h1⟩)]
theorem NP:∀(ts:Ac Ae)(U:Rho),(Gr ts U).length=U.length
 |[],_=>rfl
 |t::ts,U=>by show (Gr ts (U.set t Af)).length=_;rw[NP ts,Bb]
theorem NI:∀(ts:Ac Ae)(Y:L2.St){i:Ae},i∉ts->(hideT ts Y)[i]?=Y[i]?
 |[],_,_,_=>rfl
 |t::ts,Y,i,h=>by
  simp only[AI,FN]at h;show (hideT ts (Y.set t Af))[i]?=_;rw[NI ts _ h.2,Ci (λz=>h.1 z.symm)]
section
variable{K:Fg}{CL:ClA}{A:Ak->Prop}{U U':Rho}{Y:L2.St}{H:Hp}
theorem Good.less(g:Good K CL A U Y H)(hl:U'.length=U.length)(h:∀(i:Ae)(d:D)(o:Ai),U'[i]?=Ab (Ab (d,o))->U[i]?=Ab (Ab (d,o))):Good K CL A U' Y H:=⟨λi d e=>g.sh i d (h i d Ad e),λi d e=>g.ow i d (h i d Aa e),hl.trans g.len⟩
theorem Good.put(g:Good K CL A U Y H)(t:Ae)(r:Rep K CL H A v d):Good K CL A (U.set t (Ab (d,Ad))) (Y.set t (Ab v)) H:=by
 refine⟨λj e h=>?_,λj e h=>?_,by rw[Bb,Bb];exact g.len⟩
 .by_cases hj:t=j
  .subst hj;have e1:=GF h;cases e1;have hl:t<Y.length:=by
    rw[<-g.len];have:=(A4.mp h).1;simpa using this
   exact⟨v,by rw[C2 hl],r⟩
  .rw[Ci hj]at h;obtain⟨w',q,rw'⟩:=g.sh j e h;exact⟨w',by rw[Ci hj];exact q,rw'⟩
 .have hj:t≠j:=by
   rintro rfl;have:=GF h;cases this
  rw[Ci hj]at h;obtain⟨a,xs,ds,q,z⟩:=g.ow j e h;exact⟨a,xs,ds,by rw[Ci hj];exact q,z⟩
theorem Good.hide(g:Good K CL A U Y H)(ts:Ac Ae):Good K CL A (Gr ts U) Y H:=g.less (NP _ _) λi d o e=>by
 rw[NQ]at e;split at e
 .cases q:U[i]? with
  |none=>rw[q]at e;cases e
  |some x=>rw[q]at e;cases e
 .exact e
theorem Good.hideT(g:Good K CL A U Y H)(ts:Ac Ae):Good K CL A (Gr ts U) (hideT ts Y) H:=by
 have key:∀ i x,(Gr ts U)[i]?=Ab (Ab x)->U[i]?=Ab (Ab x)/\i∉ts:=λi x e=>by
  rw[NQ]at e;split at e
  .cases q:U[i]? with
   |none=>rw[q]at e;cases e
   |some x=>rw[q]at e;cases e
  .exact⟨e,by assumption⟩
 refine⟨λi d e=>?_,λi d e=>?_,by rw[NP,NO];exact g.len⟩
 .obtain⟨e1,e2⟩:=key i _ e;obtain⟨v,q,r⟩:=g.sh i d e1;exact⟨v,by rw[NI _ _ e2];exact q,r⟩
 .obtain⟨e1,e2⟩:=key i _ e;obtain⟨a,xs,ds,q,r⟩:=g.ow i d e1;exact⟨a,xs,ds,by rw[NI _ _ e2];exact q,r⟩
end
def GG(K:Fg)(CL:ClA)(ts:Ac Ae)(as:D->Rho->R Rho)(g:TG):Prop:=∀ A U Y H v d U' Q,Good K CL A (Gr ts U) Y H->Rep K CL H A v d->as d U=.ok U'->(∀ Y',Good K CL A U' Y' H->Good K CL A (Gr ts U) Y' H->Q Y' H)->g v Y H Q
theorem bZ(i:Ae):GG K CL [i] (λd U=>.ok (U.set i (Ab (d,Ad)))) (GZ i):=λA U Y H v d U' Q g r e k=>by
 cases e;have g2:=g.put i r;have e1:(Gr [i] U).set i (Ab (d,Ad))=U.set i (Ab (d,Ad)):=by
  show (U.set i Af).set i (Ab (d,Ad))=_;rw[Vp]
 rw[e1]at g2;refine k _ g2 ?_;have:=g2.hide [i];have e2:Gr [i] (U.set i (Ab (d,Ad)))=Gr [i] U:=by
  show (U.set i _).set i Af=U.set i Af;rw[Vp]
 rw[e2]at this;exact this
noncomputable abbrev W0:XW:=λ_ _=>A5
def STs(X:Cx)(CL:ClA)(ifs:Ac An)(f:Rho->R Ai):Prop:=∀ A,PTs X ifs (λY H Q=>AOk H A/\∃ U,Good X.K CL A U Y H/\Db W0 H (f U) Q)
theorem bS:STs X CL [] (λ_=>.ok Aa):=λA pI s Y H Q I ⟨hA,U,g,p⟩=>Z_7 pI s Y H Q I (p H (AG.refl H))
theorem bR(h:SB X CL W0 c f):STs X CL [c] f:=λA pI s Y H Q I q=>Z_6 (h A) pI s Y H Q I q
section
variable{X:Cx}{CL:ClA}{W:XW}{tg iter elt:An}{ifs:Ac An}{scope:BX}{pos:AR}{N':Ac Ah}{ts:Ac Ae}{fi:Rho->R (Ac D)}{fc:Rho->R Ai}{fe:Rho->R D}{as:D->Rho->R Rho}{g:TG}
theorem Xx{g:D->R Ai}{f:D->R D}{x:D}{xs ys:Ac D}(h:Ch g f (x::xs)=.ok ys):(g x=.ok Ad/\Ch g f xs=.ok ys)\/∃ y r,g x=.ok Aa/\f x=.ok y/\Ch g f xs=.ok r/\ys=y::r:=by
 unfold Ch at h;cases e:g x with
 |bad=>rw[e]at h;cases h
 |exn z=>rw[e]at h;cases h
 |ok b=>
  rw[e,R.bind_ok]at h;cases b with
  |false=>exact .inl ⟨rfl,h⟩
  |true=>
   rw[Aq rfl]at h;cases e2:f x with
   |bad=>rw[e2]at h;cases h
   |exn z=>rw[e2]at h;cases h
   |ok y=>
    rw[e2,R.bind_ok]at h;cases e3:Ch g f xs with
    |bad=>rw[e3]at h;cases h
    |exn z=>rw[e3]at h;cases h
    |ok r=>
     rw[e3,R.bind_ok]at h;cases h;exact .inr ⟨y,r,rfl,rfl,rfl,rfl⟩
theorem JB{β:Type}{r:R α}{f:α->R β}{b:β}(h:r.bind f=.ok b):∃ a,r=.ok a/\f a=.ok b:=by
 cases r with
 |ok a=>exact⟨a,rfl,h⟩
 |exn x=>cases h
 |bad=>cases h
theorem Zi{ds ys:Ac D}(hGG:GG K CL ts as g)(hA:AOk H1 A)(gd:Good K CL A U Y H1)(yl:Ia K CL A ds J H1)(hz:ds.length<=sizeLine)(hcp:Ch (λx=>(as x U).bind fc) (λx=>(as x U).bind fe) ds=.ok ys)(q:∀ xs H2,AG H1 H2->Reps K CL H2 A xs ys->∀ p,H2 p=Af->Q (.ref p) (upd H2 p (.lst xs))):Lp J ts g (λY H Q=>AOk H A/\∃ U,Good K CL A U Y H/\Db W0 H (fc U) Q) (λY H Q=>AOk H A/\∃ U,Good K CL A U Y H/\Bg (λH=>Rep K CL H A) W0 H (fe U) Q) Y H1 Q:=by
 refine⟨λi m xs Y' H'=>m=ds.length-i/\i<=ds.length/\xs.length<=i/\AG H1 H'/\Good K CL A (Gr ts U) Y' H'/\∃ outs rest,Reps K CL H' A xs outs/\Ch (λx=>(as x U).bind fc) (λx=>(as x U).bind fe) (ds.drop i)=.ok rest/\ys=outs++rest,
  ⟨ds.length,by simp,CH _,Aw _,AG.refl _,gd.hideT ts,[],ys,trivial,hcp,rfl⟩,?_⟩
 rintro i m xs Y' H' ⟨rfl,hi,hxl,sm,g',outs,rest,rs,hc,e⟩;obtain⟨yst,ygo⟩:=yl H' (Kp.of sm) i;by_cases hlt:i<ds.length
 .have hd:ds[i]?=Ab ds[i]:=AE hlt;obtain⟨hgo,hyl⟩:=ygo _ hd;refine .inr ⟨hgo,by omega,λx H2 hx=>?_⟩
  obtain⟨s2,rx⟩:=hyl x H2 hx;have rx':=rx A (λa ha=>.inl ha) (hA.same sm)
  rw[By hlt]at hc;have sm2:=sm.trans s2;rcases Xx hc with ⟨h1,h2⟩|⟨y,r,h1,h2,h3,h4⟩
  .obtain⟨U',ea,ec⟩:=JB h1;refine hGG A U Y' H2 x ds[i] U' _ (g'.same s2) rx' ea λY3 g3 g4=>⟨hA.same sm2,U',g3,?_⟩
   rw[ec];exact λH3 s3=>by
    dsimp only;rw[As (by decide)]
    exact⟨ds.length-(i+1),by omega,rfl,hlt,by omega,sm2.trans s3,g4.same s3,outs,rest,(rs.same s2).same s3,h2,e⟩
  .obtain⟨U',ea,ec⟩:=JB h1;obtain⟨U2,ea2,ee⟩:=JB h2;rw[ea]at ea2;cases ea2;refine hGG A U Y' H2 x ds[i] U' _ (g'.same s2) rx' ea λY3 g3 g4=>⟨hA.same sm2,U',g3,?_⟩
   rw[ec];exact λH3 s3=>by
    dsimp only;rw[Aq rfl];refine⟨(hA.same sm2).same s3,U',g3.same s3,?_⟩;rw[ee];exact λv H4 s4 r4=>⟨ds.length-(i+1),by omega,rfl,hlt,by rw[Be,EJ];omega,(sm2.trans s3).trans s4,(g4.same s3).same s4,outs++[y],r,(((rs.same s2).same s3).same s4).append ⟨r4,trivial⟩,h3,by rw[e,h4];simp⟩
 .have hk':ds.length<=i:=by omega
  rw[U_8 hk']at hc;have hr:rest=[]:=by cases hc;rfl
  subst hr;rw[Bo]at e;subst e;exact .inl ⟨yst hk',λp hp=>q xs H' sm rs p hp⟩
theorem Er.ok_of{r:R (Ac D)}{f:Ac D->R D}{Q':It->Hp->Prop}(h:Bg Rq W H (r.bind f) Q)(k:∀ ds J H',r=.ok ds->AG H H'->Ia K CL A ds J H'->ds.length<=sizeLine->Bg Rq W H' (f ds) Q->Q' J H'):Er K CL A W H r Q':=by
 cases r with
 |ok d=>exact λJ H2 s2 y z=>k d J H2 rfl s2 y z (Bg.same s2 h)
 |exn x=>exact h
 |bad=>exact h
theorem iL{r:R α}{a:α}(h:noX r=.ok a):r=.ok a:=by
 cases r with
 |ok b=>exact h
 |exn x=>cases h
 |bad=>cases h
theorem Qt(hGG:GG X.K CL ts as g)(hA:AOk H A)(gd:Good X.K CL A U Y H)(p:Bg (DY X.K CL Aa H A) W H ((fi U).bind λxs=>(noX (Ch (λx=>(as x U).bind fc) (λx=>(as x U).bind fe) xs)).bind λys=>.ok (.lst ys)) Q):Er X.K CL A W H (fi U) (λJ H1=>Lp J ts g (λY H Q=>AOk H A/\∃ U,Good X.K CL A U Y H/\Db W0 H (fc U) Q) (λY H Q=>AOk H A/\∃ U,Good X.K CL A U Y H/\Bg (λH=>Rep X.K CL H A) W0 H (fe U) Q) Y H1 Q):=
 Er.ok_of p λds J H1 e1 s1 yl hz p1=>by
  cases e2:noX (Ch (λx=>(as x U).bind fc) (λx=>(as x U).bind fe) ds) with
  |ok ys=>
   rw[e2]at p1;exact Zi hGG (hA.same s1) (gd.same s1) yl hz (iL e2) λxs H2 s2 rs q hq=>p1 _ _ (s2.trans (FF hq _)) (JE (s1.trans s2) ((hA.same s1).same s2) hq rs)
  |exn x=>rw[e2]at p1;cases hq:Ch (λx=>(as x U).bind fc) (λx=>(as x U).bind fe) ds<;>rw[hq]at e2<;>cases e2
  |bad=>rw[e2]at p1;exact p1.elim
theorem aP(hc:X.calm=Aa)(B:BlockOk X scope N' ts)(hi:SI X CL W tg iter fi)(hGG:GG X.K CL ts as g)(hg:∀ cl C s H fp,PG (cxC X scope cl C N' s H fp) tg g)(ht:∀ cl C s H fp,STs (cxC X scope cl C N' s H fp) CL ifs fc)(he:∀ cl C s H fp,SE (cxC X scope cl C N' s H fp) CL W0 elt fe)(hs:∀ x,CS iter X.env x=pure x):SC X CL W Aa (.ListComp elt [⟨tg,iter,ifs,0⟩] scope pos) (λU=>(fi U).bind λxs=>(noX (Ch (λx=>(as x U).bind fc) (λx=>(as x U).bind fe) xs)).bind λys=>.ok (.lst ys)):=λA pI s Y H Q I ⟨hA,U,gd,p⟩=>
 dI hc B (hi A) hg (λcl C s H fp=>ht cl C s H fp A) (λcl C s H fp=>he cl C s H fp A) hs pI s Y H Q I ⟨hA,U,gd,Qt hGG hA gd p⟩
end
section
variable{K:Fg}{CL:ClA}{Fz:Ak->HO->Prop}{B:Ak->Prop}{U:Rho}{Y:L2.St}{H H':Hp}
theorem Sx.setF(x:Sx K CL Fz B U Y H)(s:AG H H'){ds:Ac D}(h0:H a=Af)(h1:H' a=Ab (.lst xs))(r:Reps K CL H' (λb=>BL B U Y b\/b=a) xs ds):Sx K CL Fz B (U.set i (Ab (.lst ds,Aa))) (Y.set i (Ab (.ref a))) H':=by
 have nA:¬ BL B U Y a:=x.aok.new h0;have own:∀(j:Ae)(e:D),(U.set i (Ab (.lst ds,Aa)))[j]?=Ab (Ab (e,Aa))->(i=j/\e=.lst ds)\/(i≠j/\U[j]?=Ab (Ab (e,Aa))):=λj e h=>by
  by_cases hj:i=j
  .subst hj;have:=GF h;cases this;exact .inl ⟨rfl,rfl⟩
  .exact .inr ⟨hj,by rw[Ci hj]at h;exact h⟩
 have atI:∀{j:Ae}{y:Sl},(U.set i (Ab (.lst ds,Aa)))[j]?=Ab y->i=j->(Y.set i (Ab (.ref a)))[j]?=Ab (Ab (.ref a)):=λ{j y} h e=>by
  subst e;have hl:i<Y.length:=by
   rw[<-x.len];have:=(A4.mp h).1;simpa using this
  rw[C2 hl]
 have sub:∀ b,BL B (U.set i (Ab (.lst ds,Aa))) (Y.set i (Ab (.ref a))) b->BL B U Y b\/b=a:=λb h=>by
  rcases h with h|⟨j,e,h1,h2⟩
  .exact .inl (.inl h)
  .rcases own j e h1 with ⟨hj,_⟩|⟨hj,h1'⟩
   .rw[atI h1 hj]at h2;cases h2;exact .inr rfl
   .rw[Ci hj]at h2;exact .inl (.inr ⟨j,e,h1',h2⟩)
 have wide:∀{v:V}{d:D},Rep K CL H (BL B U Y) v d->Rep K CL H' (BL B (U.set i (Ab (.lst ds,Aa))) (Y.set i (Ab (.ref a)))) v d:=λr=>(Rep.wide (λb hb=>(sub b hb).imp id λe=>by rw[e];exact h0) _ r).same s
 have wides:∀{v:Ac V}{d:Ac D},Reps K CL H (BL B U Y) v d->Reps K CL H' (BL B (U.set i (Ab (.lst ds,Aa))) (Y.set i (Ab (.ref a)))) v d:=λr=>(Reps.wide (λb hb=>(sub b hb).imp id λe=>by rw[e];exact h0) _ r).same s
 refine⟨⟨λj e h=>?_,λj e h=>?_,by rw[Bb,Bb];exact x.len⟩,λb h=>?_,λj e b g1 g2=>?_,λj k e f b g1 g2 g3 g4=>?_,λb o z=>s _ _ (x.same b o z),by rw[Bb,Bb];exact x.len⟩
 .have hj:i≠j:=by
   rintro rfl;have:=GF h;cases this
  rw[Ci hj]at h;obtain⟨w',q,rw'⟩:=x.good.sh j e h;exact⟨w',by rw[Ci hj];exact q,wide rw'⟩
 .rcases own j e h with ⟨hj,rfl⟩|⟨hj,h'⟩
  .have q:=atI h hj;exact⟨a,xs,ds,q,rfl,.inr ⟨j,_,h,q⟩,h1,Reps.sub sub _ r⟩
  .obtain⟨b,ys,es,q,z,ha,hh,rr⟩:=x.good.ow j e h';have q':(Y.set i (Ab (.ref a)))[j]?=Ab (Ab (.ref b)):=by rw[Ci hj];exact q
   exact⟨b,ys,es,q',z,.inr ⟨j,e,h,q'⟩,s _ _ hh,wides rr⟩
 .rcases sub b h with z|z
  .obtain⟨ys,q⟩:=x.aok b z;exact⟨ys,s _ _ q⟩
  .rw[z];exact⟨xs,h1⟩
 .rcases own j e g1 with ⟨hj,_⟩|⟨hj,h'⟩
  .rw[atI g1 hj]at g2;cases g2;refine⟨λo z=>?_,λz=>nA (.inl z)⟩
   have:=x.same a o z;rw[h0]at this;cases this
  .rw[Ci hj]at g2;exact x.new j e b h' g2
 .rcases own j e g1 with ⟨hj,_⟩|⟨hj,h'⟩
  .rw[atI g1 hj]at g3;cases g3;rcases own k f g2 with ⟨hk,_⟩|⟨hk,h''⟩
   .exact hj.symm.trans hk
   .rw[Ci hk]at g4;exact absurd (.inr ⟨k,f,h'',g4⟩) nA
  .rw[Ci hj]at g3;rcases own k f g2 with ⟨hk,_⟩|⟨hk,h''⟩
   .rw[atI g2 hk]at g4;cases g4;exact absurd (.inr ⟨j,e,h',g3⟩) nA
   .rw[Ci hk]at g4;exact x.dis j k e f b h' h'' g3 g4
theorem Sx.upd(x:Sx K CL Fz B U Y H){i:Ae}{d:D}{a:Ak}{xs:Ac V}{ds:Ac D}(hi:U[i]?=Ab (Ab (d,Aa)))(ha:Y[i]?=Ab (Ab (.ref a)))(r:Reps K CL H (BL B U Y) xs ds):Sx K CL Fz B (U.set i (Ab (.lst ds,Aa))) Y (L2.upd H a (.lst xs)):=by
 have oa:BL B U Y a:=.inr ⟨i,d,hi,ha⟩;have hil:i<U.length:=(A4.mp hi).1;have get:∀(j:Ae)(e:D),(U.set i (Ab (.lst ds,Aa)))[j]?=Ab (Ab (e,Aa))↔(i=j/\e=.lst ds)\/(i≠j/\U[j]?=Ab (Ab (e,Aa))):=λj e=>by
  by_cases hj:i=j
  .subst hj;rw[C2 hil];simp;exact⟨λz=>z.symm,λz=>z.symm⟩
  .rw[Ci hj];simp[hj]
 have same:∀ b,BL B (U.set i (Ab (.lst ds,Aa))) Y b↔BL B U Y b:=λb=>by
  constructor
  .rintro (h|⟨j,e,h1,h2⟩)
   .exact .inl h
   .rcases (get j e).mp h1 with ⟨rfl,_⟩|⟨_,h1⟩
    .exact .inr ⟨i,d,hi,h2⟩
    .exact .inr ⟨j,e,h1,h2⟩
  .rintro (h|⟨j,e,h1,h2⟩)
   .exact .inl h
   .by_cases hj:i=j
    .subst hj;exact .inr ⟨i,.lst ds,(get i _).mpr (.inl ⟨rfl,rfl⟩),h2⟩
    .exact .inr ⟨j,e,(get j e).mpr (.inr ⟨hj,h1⟩),h2⟩
 have kp:Kp (BL B U Y) H (L2.upd H a (.lst xs)):=λb o e na=>by
  have hne:b≠a:=by
   rintro rfl;exact na oa
  rw[B6 hne];exact e
 refine⟨⟨λj e h=>?_,λj e h=>?_,by rw[Bb];exact x.len⟩,λb h=>?_,λj e b g1 g2=>?_,λj k e f b g1 g2 g3 g4=>?_,λb o z=>?_,by rw[Bb];exact x.len⟩
 .have hj:i≠j:=by
   rintro rfl;have:=GF h;cases this
  rw[Ci hj]at h;obtain⟨w',q,rw'⟩:=x.good.sh j e h;exact⟨w',q,Rep.sub (λb hb=>(same b).mp hb) _ (Rep.kp kp _ rw')⟩
 .rcases (get j e).mp h with ⟨rfl,rfl⟩|⟨hj,h'⟩
  .exact⟨a,xs,ds,ha,rfl,(same a).mpr oa,GE,Reps.sub (λb hb=>(same b).mp hb) _ (Reps.kp kp _ r)⟩
  .obtain⟨b,ys,es,q,z,hb,hh,rr⟩:=x.good.ow j e h';have hne:b≠a:=λz=>hj (x.dis i j d e a hi h' ha (z ▸ q))
   exact⟨b,ys,es,q,z,(same b).mpr hb,by rw[B6 hne];exact hh,Reps.sub (λb hb=>(same b).mp hb) _ (Reps.kp kp _ rr)⟩
 .obtain⟨ys,q⟩:=x.aok b ((same b).mp h);by_cases e:b=a
  .rw[e];exact⟨xs,GE⟩
  .exact⟨ys,by rw[B6 e];exact q⟩
 .rcases (get j e).mp g1 with ⟨rfl,_⟩|⟨_,h'⟩
  .exact x.new i d b hi g2
  .exact x.new j e b h' g2
 .rcases (get j e).mp g1 with ⟨rfl,_⟩|⟨hj,h'⟩
  .rcases (get k f).mp g2 with ⟨rfl,_⟩|⟨hk,h''⟩
   .rfl
   .exact x.dis i k d f b hi h'' g3 g4
  .rcases (get k f).mp g2 with ⟨rfl,_⟩|⟨hk,h''⟩
   .exact x.dis j i e d b h' hi g3 g4
   .exact x.dis j k e f b h' h'' g3 g4
 .have hne:b≠a:=λe=>(x.new i d a hi ha).1 o (e ▸ z)
  rw[B6 hne];exact x.same b o z
theorem Sx.rel(x:Sx K CL Fz B U Y H)(hi:U[i]?=Ab (Ab (d,Aa))):Sx K CL Fz B (U.set i (Ab (d,Ad))) Y H:=by
 obtain⟨a,xs,ds,q,rfl,oa,hh,rr⟩:=x.good.ow i d hi;have own:∀(j:Ae)(e:D),(U.set i (Ab (.lst ds,Ad)))[j]?=Ab (Ab (e,Aa))->i≠j/\U[j]?=Ab (Ab (e,Aa)):=λj e h=>by
  by_cases hj:i=j
  .subst hj;have:=GF h;cases this
  .exact⟨hj,by rw[Ci hj]at h;exact h⟩
 have sub:∀ b,BL B (U.set i (Ab (.lst ds,Ad))) Y b->BL B U Y b:=λb h=>by
  rcases h with h|⟨j,e,h1,h2⟩
  .exact .inl h
  .exact .inr ⟨j,e,(own j e h1).2,h2⟩
 have na:¬ BL B (U.set i (Ab (.lst ds,Ad))) Y a:=λh=>by
  rcases h with h|⟨j,e,h1,h2⟩
  .exact(x.new i _ a hi q).2 h
  .obtain⟨hj,h1⟩:=own j e h1;exact hj (x.dis i j _ e a hi h1 q h2)
 refine⟨⟨λj e h=>?_,λj e h=>?_,by rw[Bb];exact x.len⟩,λb h=>x.aok b (sub b h),λj e b g1 g2=>x.new j e b (own j e g1).2 g2,λj k e f b g1 g2 g3 g4=>x.dis j k e f b (own j e g1).2 (own k f g2).2 g3 g4,x.same,by rw[Bb];exact x.len⟩
 .by_cases hj:i=j
  .subst hj;have e1:=GF h;cases e1;exact⟨_,q,a,xs,rfl,.inl na,SqL.of hh,Reps.sub sub _ rr⟩
  .rw[Ci hj]at h;obtain⟨w',q',rw'⟩:=x.good.sh j e h;exact⟨w',q',Rep.sub sub _ rw'⟩
 .obtain⟨hj,h'⟩:=own j e h;obtain⟨b,ys,es,q',z,hb,hh',rr'⟩:=x.good.ow j e h';exact⟨b,ys,es,q',z,.inr ⟨j,e,h,q'⟩,hh',Reps.sub sub _ rr'⟩
end
section
variable{X:Cx}{CL:ClA}{W:XW}{pos:AR}{e:An}{fe:Rho->R D}{fr:Ai}
theorem BW.exC{f:D->O}(x:Sx X.K CL Fz B U Y H)(h:BW X.K CL Fz B W (O.of U r f) D')(k:∀ d v H',r=.ok d->AG H H'->DY X.K CL fr H A H' v d->Sx X.K CL Fz B U Y H'->BW X.K CL Fz B W (f d) D'->Q v H'):Bg (DY X.K CL fr H A) W H r Q:=by
 cases r with
 |ok d=>exact λv H' s r=>k d v H' rfl s r (x.grow s) h
 |exn y=>exact λH' s=>h H' λb o z=>s _ _ (x.same b o z)
 |bad=>exact h
def SAs(X:Cx)(CL:ClA)(W:XW)(fr:Ai)(i:Ae)(st:AZ)(f:Rho->R D):Prop:=∀ A,PS X st (Pr (λY H Q=>AOk H A/\∃ U,Good X.K CL A U Y H/\Bg (DY X.K CL fr H A) W H (f U) Q) (GZ i))
theorem SC.sas{n:Ah}(hN:X.N.Nodup)(hi:X.N[i]?=Ab n)(hx:Loc X.env.scope n)(he:SC X CL W fr e fe)(hs:Dh e (Ab (.Name n pos')) pos.line X.env=pure Ad)(hf:X.fn n=Aa\/X.env.scope.names.lookup n=Ab .local):SAs X CL W fr i (.Assign [.Name n pos'] e pos) fe:=
 λA=>MA hN hi hx (he A) hs hf
theorem YJ{n:Ah}{fe:Rho->R D}{g:TG}(hc:X.calm=Aa)(B:BlockOk X scope N' ts)(hi:SI X CL W tg iter fi)(hGG:GG X.K CL ts as g)(hg:∀ cl C s H fp,PG (cxC X scope cl C N' s H fp) tg g)(ht:∀ cl C s H fp,STs (cxC X scope cl C N' s H fp) CL ifs fc)(he:∀ cl C s H fp,SE (cxC X scope cl C N' s H fp) CL W0 elt fe)(hs:∀ x,CS iter X.env x=pure x)(hN:X.N.Nodup)(hni:X.N[i]?=Ab n)(hx:X.env.scope.names.lookup n=Ab .local)(hsw:Dh (.ListComp elt [⟨tg,iter,ifs,0⟩] scope pos) (Ab (.Name n pos')) pos2.line X.env=pure Aa):SAs X CL W Aa i (.Assign [.Name n pos'] (.ListComp elt [⟨tg,iter,ifs,0⟩] scope pos) pos2) (λU=>(fi U).bind λxs=>(noX (Ch (λx=>(as x U).bind fc) (λx=>(as x U).bind fe) xs)).bind λys=>.ok (.lst ys)):=λA pI s Y H Dn I ⟨hA,U,gd,p⟩=>
 dD hc B (hi A) hg (λcl C s H fp=>ht cl C s H fp A) (λcl C s H fp=>he cl C s H fp A) hs hN hni hx hsw pI s Y H Dn I ⟨hA,U,gd,Qt hGG hA gd p⟩
theorem Th{st:AZ}(h:SAs X CL W fr i st fe):SS X CL W st (λU=>O.of U (fe U) λd=>.next (U.set i (Ab (d,Ad)))):=λFz B pI s Y H D I ⟨U,x,p⟩=>
 h (BL B U Y) pI s Y H D I ⟨x.aok,U,x.good,BW.exC x p λd v H' _ s r x' q=>q _ H' (x'.set i r.1)⟩
theorem R9{st:AZ}(h:SAs X CL W Aa i st fe):SS X CL W st (λU=>O.of U (fe U) λd=>setF U i d):=λFz B pI s Y H D I ⟨U,x,p⟩=>
 h (BL B U Y) pI s Y H D I ⟨x.aok,U,x.good,BW.exC x p λd v H' _ s r x' q=>by
  cases d with
  |lst ds=>
   obtain⟨a,xs,rfl,h0,h1,rs⟩:=r.2 rfl ds rfl;exact q _ H' (x.setF s h0 h1 rs)
  |dic ds=>exact r.1.elim
  | _=>exact q.elim⟩
theorem aA(he:SC X CL W Aa e fe):SS X CL W (.Return (Ab e) pos) (λU=>O.of U (fe U) λd=>.ret d Aa):=λFz B pI s Y H D I ⟨U,x,p⟩=>
 OS (he (BL B U Y)) pI s Y H D I ⟨x.aok,U,x.good,BW.exC x p λd v H' _ s r x' q=>q v H' x'.same (Rep.sub (λa h=>.inl h) _ r.1) λ_ ds e=>by
  obtain⟨a,xs,h0,h1,h2,h3⟩:=r.2 rfl ds e;refine⟨a,xs,h0,λo z=>?_,h2,Reps.sub (λb hb=>hb.imp .inl id) _ h3⟩
  have:=x.same a o z;rw[h1]at this;cases this⟩
noncomputable def PH(U:Rho)(i:Ae):Ai:=match U[i]? with
  |some (Ab (_,o))=>o
  |_=>Ad
theorem bX(he:PE X e (IK i)):SS X CL W (.Return (Ab e) pos) (λU=>O.of U (Eb U i) λd=>.ret d (PH U i)):=λFz B pI s Y H D I ⟨U,x,p⟩=>
 OS he pI s Y H D I (by
  dsimp only at p;cases e:Eb U i with
  |bad=>rw[e]at p;exact p.elim
  |exn z=>exact(Ru e).elim
  |ok d=>
   rw[e]at p;obtain⟨o,e⟩:=RI e;have eo:PH U i=o:=by unfold PH;rw[e]
   rw[O.of_ok,eo]at p;cases o with
   |false=>
    obtain⟨v,q,r⟩:=x.good.sh i d e;exact⟨v,q,p v H x.same (Rep.sub (λa h=>.inl h) _ r) λz=>nomatch z⟩
   |true=>
    obtain⟨a,xs,ds,q,rfl,ha,hh,r⟩:=x.good.ow i d e;obtain⟨n1,n2⟩:=x.new i _ a e q;refine⟨_,q,p _ H x.same ⟨a,xs,rfl,.inl n2,SqL.of hh,Reps.sub (λa h=>.inl h) _ r⟩ λ_ ds' e'=>?_⟩
    cases e';exact⟨a,xs,rfl,n1,hh,Reps.sub (λb hb=>hb.elim .inl λz=>z ▸ ha) _ r⟩)
theorem Op{ds:Ac D}(h:Cj U i=.ok ds):U[i]?=Ab (Ab (.lst ds,Aa)):=by
 unfold Cj at h;split at h
 .rename_i e;cases h;exact e
 .cases h
theorem Oi{x:Ex}(h:Cj U i=.exn x):A5:=by
 unfold Cj at h;split at h<;>cases h
variable{o:An}{i:Ae}{apos cpos:AR}
theorem iA(ho:PE X o (IK i))(he:SE X CL W e fe)(hbase:Ew o "append" X.env (eval o X.env)=eval o X.env)(hfew:((BR cpos (Ay [e] X.env)).all (λx=>!x.1)&&(Ip cpos (GM [] X.env)).all (λx=>x.1.isSome)&&decide ([e].length+([]:Ac Ee).length+(if ([]:Ac Ee).isEmpty then 0 else 1)<30))=Aa)(hline:(apos.endLine==cpos.line)=Aa)(hs:Ay [e] X.env=[(Ad,eval e X.env)])(hsw:Dh (.Call (.Attribute o "append" apos) [e] [] cpos) Af pos.line X.env=pure Ad):
  SS X CL W (.Expr (.Call (.Attribute o "append" apos) [e] [] cpos) pos) (λU=>O.of U (Cj U i) λxs=>O.of U (fe U) λd=>if BD (xs.length+1)=Aa then .next (U.set i (Ab (.lst (xs++[d]),Aa))) else .bad):=λFz B pI s Y H D I ⟨U,x,p⟩=>by
 refine Kq (M0 Fu PySem.F.slot_list_append PySem.F.type_list_append Yu ho (El (he (BL B U Y)) FY hs) hbase hfew hline hs rfl) hsw pI s Y H D I ?_;dsimp only at p;cases e1:Cj U i with
 |bad=>rw[e1]at p;exact p.elim
 |exn z=>exact(Oi e1).elim
 |ok ds=>
  rw[e1,O.of_ok]at p;have hi:=Op e1;obtain⟨a,xs,ds',q,e2,ha,hh,r⟩:=x.good.ow i _ hi;cases e2;refine⟨_,q,.inl ⟨rfl,xs,SqL.of hh⟩,x.aok,U,x.good,BW.ex x p λd v H' _ s rv x' q'=>?_⟩
  split at q'
  .rename_i hz;refine⟨a,xs,v,rfl,rfl,s _ _ hh,?_,q' _ _ (x'.upd hi q ((r.same s).append ⟨rv,trivial⟩))⟩;have:=IB hz;rw[r.length];omega
  .exact q'.elim
theorem hZ(ho:PE X o (IK i))(he:SC X CL W Aa e fe)(hbase:Ew o "extend" X.env (eval o X.env)=eval o X.env)(hfew:((BR cpos (Ay [e] X.env)).all (λx=>!x.1)&&(Ip cpos (GM [] X.env)).all (λx=>x.1.isSome)&&decide ([e].length+([]:Ac Ee).length+(if ([]:Ac Ee).isEmpty then 0 else 1)<30))=Aa)(hline:(apos.endLine==cpos.line)=Aa)(hs:Ay [e] X.env=[(Ad,eval e X.env)])(hsw:Dh (.Call (.Attribute o "extend" apos) [e] [] cpos) Af pos.line X.env=pure Ad):
  SS X CL W (.Expr (.Call (.Attribute o "extend" apos) [e] [] cpos) pos) (λU=>O.of U (Cj U i) λxs=>O.of U (fe U) λd=>O.of U (Jl d) λys=>if BD (xs.length+ys.length)=Aa then .next (U.set i (Ab (.lst (xs++ys),Aa))) else .bad):=λFz B pI s Y H D I ⟨U,x,p⟩=>by
 refine Kq (M0 Fu EK WA Yt ho (El (he (BL B U Y)) FY hs) hbase hfew hline hs rfl) hsw pI s Y H D I ?_;dsimp only at p;cases e1:Cj U i with
 |bad=>rw[e1]at p;exact p.elim
 |exn z=>exact(Oi e1).elim
 |ok ds=>
  rw[e1,O.of_ok]at p;have hi:=Op e1;obtain⟨a,xs,ds',q,e2,ha,hh,r⟩:=x.good.ow i _ hi;cases e2;refine⟨_,q,.inl ⟨rfl,xs,SqL.of hh⟩,x.aok,U,x.good,BW.exC x p λd v H' _ s rv x' q'=>?_⟩
  cases d with
  |lst es=>
   obtain⟨b,ys,rfl,h0,h1,rs⟩:=rv.2 rfl es rfl;rw[QB,O.of_ok]at q';split at q'
   .rename_i hz;refine⟨a,b,xs,ys,rfl,rfl,s _ _ hh,h1,?_,q' _ _ (x'.upd hi q ((r.same s).append (Reps.sub (λc hc=>.inl hc) _ rs)))⟩
    rw[r.length,rs.length];exact IB hz
   .exact q'.elim
  |_=>exact q'.elim
theorem bW{rest:Ac AZ}{f:Rho->O}(i:Ae)(h:SSs X CL W rest f):SSs X CL W rest (λU=>(match U[i]? with
   |some (Ab (d,Aa))=>O.next (U.set i (Ab (d,Ad)))
   | _=>O.next U).seq f):=λFz B=>PSs.weak (h Fz B) λD Y H ⟨U,x,p⟩=>by
 dsimp only at p;split at p
 .rename_i d e;exact⟨_,x.rel e,p⟩
 .exact⟨U,x,p⟩
end
section
variable{X:Cx}{CL:ClA}{W:XW}{pos:AR}{e k o:An}{fe fk:Rho->R D}{i:Ae}{apos cpos:AR}
theorem A6.take{its:Ac Aj}(r:A6 xs its):∀ n,A6 (xs.take n) (its.take n):=by
 induction r with
 |nil=>intro n;simp;exact .nil
 |cons h _ ih=>
  intro n;cases n with
  |zero=>exact .nil
  |succ n=>exact .cons h (ih n)
theorem A6.drop{its:Ac Aj}(r:A6 xs its):∀ n,A6 (xs.drop n) (its.drop n):=by
 induction r with
 |nil=>intro n;simp;exact .nil
 |cons h t ih=>
  intro n;cases n with
  |zero=>exact .cons h t
  |succ n=>exact ih n
end
section
variable{prog:AM}{w:AY}{A:AT}{E:Vq}{s:Ap}
theorem iJ{t:Ak}{x:Aj}{Q:Vq}(st:s.heap.IsTupleIter j t k)(sq:s.heap.IsTuple t its)(at_:its[k]?=Ab x)(go:∀ h2,h2.IsTupleIter j t (k+1)->E9 j s.heap h2->Q x {s with heap:=h2}):AB (model prog w) A (Bz (.ref j)) Q E s:=by
 obtain⟨oj,gj,cj,dj⟩:=id st;obtain⟨ot,gt,_,nt,dt⟩:=sq;show AB _ _ (callSpecial? _ _ >>= _) _ _ _;refine Ao (Ck st.typeIs DU (Da DU st.typeIs Wt ?_ (Wo _)));show AB _ _ (field (.ref j) 0 >>= _) _ _ _;refine Ao (BG gj dj (x:=.ref t) rfl ?_);show AB _ _ (field (.ref j) 1 >>= _) _ _ _;refine Ao (BG gj dj (x:=.int k 0) rfl ?_);refine Ao (DF gt dt ?_);simp only[U_3,at_];exact Ao (Fq gj dj (by simp) (AK ⟨x,rfl,AK (go _ ⟨_,EL _ gj (EM (Dd dj _)),(WF ..).trans cj,by rw[Dd dj];simp[EY]⟩ (WC ..))⟩))
theorem Ys{t:Ak}{Q:Vq}(calm:A.handled=Af)(st:s.heap.IsTupleIter j t k)(sq:s.heap.IsTuple t its)(at_:its[k]?=Af)(up:∀ h2 e,WB j s.heap h2->(∃ o,h2.get? e=Ab o/\o.cls=.type "StopIteration")->E (.ref e) {s with heap:=h2}):AB (model prog w) A (Bz (.ref j)) Q E s:=by
 obtain⟨oj,gj,cj,dj⟩:=id st;obtain⟨ot,gt,_,nt,dt⟩:=sq;show AB _ _ (callSpecial? _ _ >>= _) _ _ _;refine Ao (Ck st.typeIs DU (Da DU st.typeIs Wt ?_ (Wo _)));show AB _ _ (field (.ref j) 0 >>= _) _ _ _;refine Ao (BG gj dj (x:=.ref t) rfl ?_);show AB _ _ (field (.ref j) 1 >>= _) _ _ _;refine Ao (BG gj dj (x:=.int k 0) rfl ?_);refine Ao (DF gt dt ?_);simp only[U_3,at_];refine Ao (Iy (Ao (Fq gj dj (by simp) ?_)))
 refine Ao ?_;simp only[newExc,newTuple];refine Ao (CT ?_ (by size_fits))
 refine Ao (m:=Xa _ _) (wpAny_of_eq (a:=.none) (by first|rfl|(simp only[Xa];rfl)) (CT ?_ (by size_fits)))
 simp only[raiseNew];refine Ao (wpAny_handled ?_)
 first|rw[show A.in1.handled=Af from calm]|rw[calm]
 exact Ao (AK (wpAny_throw (up _ _ (((WC ..).extBut.push _).push _) ⟨_,AJ _ rfl,rfl⟩)))
end
structure Dw (prog:AM) (w:AY) (A:AT) (j:Ak) (fp:Ac Ak) (n:Ae) (P:Ae->Aj->Prop) (S:Ae->AD->Prop):Prop where
 frame:∀ i h h2,S i h->(∀ c∈fp,∀ o,h.get? c=Ab o->h2.get? c=Ab o)->S i h2
 item:∀ i (s:Ap) (Q:Vq) (E:Vq),i<n->S i s.heap->(∀ x h2 tk,P i x->S (i+1) h2->E9 j s.heap h2->Q x {s with heap:=h2,toks:=tk})->AB (model prog w) A (Bz (.ref j)) Q E s
 done:∀ i (s:Ap) (Q:Vq) (E:Vq),n<=i->S i s.heap->(∀ h2 e,WB j s.heap h2->(∃ o,h2.get? e=Ab o/\o.cls=.type "StopIteration")->E (.ref e) {s with heap:=h2})->AB (model prog w) A (Bz (.ref j)) Q E s
def GK(t:Ai)(h:AD)(j l:Ak)(i:Ae):Prop:=match t with
  |true=>h.IsTupleIter j l i
  |false=>h.IsListIter j l i
def EN(t:Ai)(h:AD)(l:Ak)(its:Ax Aj):Prop:=match t with
  |true=>h.IsTuple l its
  |false=>h.IsList l its
theorem KB{A:AT}(calm:A.handled=Af)(t:Ai)(j l:Ak)(ne:l≠j)(its:Ax Aj):Dw prog w A j [j,l] its.size (λi v=>its[i]?=Ab v) (λi h=>GK t h j l i/\EN t h l its):=by
 cases t with
 |true=>exact⟨λ_ _ _ z k=>⟨z.1.at λo e=>k j (by simp) o e,z.2.at λo e=>k l (by simp) o e⟩,λi s Q E hi z q=>iJ z.1 z.2 (x:=its[i]) (by simp[hi]) λh2 z2 sb=>q _ h2 s.toks (by simp[hi]) ⟨z2,z.2.extBut sb.extBut ne⟩ sb,λi s Q E hi z q=>Ys calm z.1 z.2 (by simp[hi]) q⟩
 |false=>exact⟨λ_ _ _ z k=>⟨z.1.at λo e=>k j (by simp) o e,z.2.at λo e=>k l (by simp) o e⟩,λi s Q E hi z q=>wpAny_nextOf_list_item z.1 z.2 (x:=its[i]) (by simp[hi]) λh2 z2 sb=>q _ h2 s.toks (by simp[hi]) ⟨z2,z.2.extBut sb.extBut ne⟩ sb,λi s Q E hi z q=>wpAny_nextOf_list_end calm z.1 z.2 (by simp[hi]) q⟩
theorem nb1{I l c:Ae}(b:l<I)(h:c∈[I,l])(j:Ae):c≠I+(j+1):=by
 have h':c=I\/c=l:=by simpa using h
 omega
theorem nb2{I l c:Ae}(b:l<I)(h:c∈[I+1,l]):c≠I/\c≠I+3/\c≠I+4:=by
 have h':c=I+1\/c=l:=by simpa using h
 omega
theorem nij{I i j:Ae}(h:i≠j):I+i≠I+j:=by omega
theorem ni0{I i:Ae}(h:i≠0):I+i≠I:=by omega
section
variable{prog:AM}{w:AY}{A:AT}{E:Vq}{s:Ap}
theorem Rs{I l1 l2 n1 n2 k:Ae}{P1 P2:Ae->Aj->Prop}{S1 S2:Ae->AD->Prop}{a b:Aj}{Q:Vq}(b1:l1<I)(b2:l2<I)(D1:Dw prog w A I [I,l1] n1 P1 S1)(D2:Dw prog w A (I+1) [I+1,l2] n2 P2 S2)(hz:FO s.heap (I+4) (I+2) (I+3) .none)(hI:Ej s.heap (I+2) (.ref I) (.ref (I+1)))(hO:Ej s.heap (I+3) a b)(g1:S1 k s.heap)(g2:S2 k s.heap)(k1:k<n1)(k2:k<n2)(go:∀ x y h2 tk,P1 k x->P2 k y->FO h2 (I+4) (I+2) (I+3) (EY s.heap.objs.size)->Ej h2 (I+3) x y->S1 (k+1) h2->S2 (k+1) h2->Ej h2 s.heap.objs.size x y ->
   (∀ c o,c∉[I,I+1,I+3,I+4]->s.heap.get? c=Ab o->h2.get? c=Ab o)->Q (.ref s.heap.objs.size) {s with heap:=h2,toks:=tk}):AB (model prog w) A (Builtin.«zip.__next__» ⟨[.ref (I+4)],[]⟩) (λfin s'=>∃ v,fin=.done (.ret v)/\Q v s') E s:=by
 refine Ao (m:=field (.ref (I+4)) 2) (BG hz rfl (x:=.bool Ad) rfl ?_);refine Ao (m:=field (.ref (I+4)) 3) (BG hz rfl (x:=.ref (I+2)) rfl (Ao (DF hI rfl ?_)));refine Ao (m:=CN (.ref (I+4))) ?_;simp only[CN];refine Ao (BG hz rfl (x:=.none) rfl (AK ?_));rw[Aq rfl];refine Ao (Iy (Ao (BG hz rfl (x:=.ref (I+3)) rfl (Ao (DQ hz (by simp) λp1 z1 e1=>Ao ?_)))))
 have z1':FO p1 (I+4) (I+2) (I+3) .ellipsis:=z1;simp only[Hi,Vs,HA,GB];refine Ao (Ao (FR (Ao (m:=Bz (.ref I)) (D1.item k _ _ _ k1 (D1.frame _ _ _ g1 λc hc o q=>e1.extBut c o (nb1 b1 hc 3) q) λx p2 t2 px s2 e2=>AK ?_))))
 have o2:Ej p2 (I+3) a b:=e2.extBut _ _ (ni0 (by decide)) (e1.extBut _ _ (nij (by decide)) hO)
 refine Ao (DF o2 rfl (Ao (Gj o2 λp3 o3 e3=>Ao (Jy (AK ?_)))))
 have o3':Ej p3 (I+3) x b:=o3;have g2':S2 k p3:=D2.frame _ _ _ g2 λc hc o q=>e3.extBut c o (nb2 b2 hc).2.1 (e2.extBut c o (nb2 b2 hc).1 (e1.extBut c o (nb2 b2 hc).2.2 q))
 refine Ao (Ao (FR (Ao (m:=Bz (.ref (I+1))) (D2.item k _ _ _ k2 g2' λy p4 t4 py s4 e4=>AK ?_))))
 have o4:Ej p4 (I+3) x b:=e4.extBut _ _ (nij (by decide)) o3'
 refine Ao (DF o4 rfl (Ao (Gj o4 λp5 o5 e5=>Ao (Jy (AK (AK ?_))))))
 have o5':Ej p5 (I+3) x y:=o5;have sz:p5.objs.size=s.heap.objs.size:=by rw[e5.1,e4.1,e3.1,e2.1,e1.1]
 have z5:FO p5 (I+4) (I+2) (I+3) .ellipsis:=e5.extBut _ _ (nij (by decide)) (e4.extBut _ _ (nij (by decide)) (e3.extBut _ _ (nij (by decide)) (e2.extBut _ _ (ni0 (by decide)) z1')))
 refine Ao (DF o5' rfl (Ao (Xk ?_)));refine Ao (m:=VP (.ref (I+4)) (.ref p5.objs.size)) ?_;simp only[VP];have z6:FO (p5.push { cls:=.type "tuple",data:=.seq #[x,y] }) (I+4) (I+2) (I+3) .ellipsis:=Ar _ z5;refine Ao (DQ z6 (by simp) λp7 z7 e7=>?_)
 have z7':FO p7 (I+4) (I+2) (I+3) (EY p5.objs.size):=z7;refine DQ z7' (by simp) λp8 z8 e8=>AK ⟨_,rfl,?_⟩
 have z8':FO p8 (I+4) (I+2) (I+3) (EY p5.objs.size):=z8;have lt5:I+4<p5.objs.size:=AL z5;have up:∀ c o,c≠I+4->p5.get? c=Ab o->p8.get? c=Ab o:=λc o nc q=>e8.extBut _ _ nc (e7.extBut _ _ nc (Ar _ q))
 have t8:Ej p8 p5.objs.size x y:=e8.extBut _ _ (E8 lt5) (e7.extBut _ _ (E8 lt5) (AJ _ rfl));have a1:S1 (k+1) p8:=D1.frame _ _ _ s2 λc hc o q=>up c o (nb1 b1 hc 3) (e5.extBut c o (nb1 b1 hc 2) (e4.extBut c o (nb1 b1 hc 0) (e3.extBut c o (nb1 b1 hc 2) q)))
 have a2:S2 (k+1) p8:=D2.frame _ _ _ s4 λc hc o q=>up c o (nb2 b2 hc).2.2 (e5.extBut c o (nb2 b2 hc).2.1 q)
 have kp:∀ c o,c∉[I,I+1,I+3,I+4]->s.heap.get? c=Ab o->p8.get? c=Ab o:=λc o nc q=>by
  simp only[AI,Bq,CW,FN]at nc;exact up c o nc.2.2.2 (e5.extBut c o nc.2.2.1 (e4.extBut c o nc.2.1 (e3.extBut c o nc.2.2.1 (e2.extBut c o nc.1 (e1.extBut c o nc.2.2.2 q)))))
 have q:=go x y p8 t4 px py (by rw[<-sz];exact z8') (up _ _ (nij (by decide)) o5') a1 a2 (by rw[<-sz];exact t8) kp
 rw[<-sz]at q;exact q
theorem RD{I l1 l2 n1 n2 k:Ae}{P1 P2:Ae->Aj->Prop}{S1 S2:Ae->AD->Prop}{a b:Aj}{Q:Fin->Ap->Prop}(b1:l1<I)(b2:l2<I)(D1:Dw prog w A I [I,l1] n1 P1 S1)(D2:Dw prog w A (I+1) [I+1,l2] n2 P2 S2)(hz:FO s.heap (I+4) (I+2) (I+3) .none)(hI:Ej s.heap (I+2) (.ref I) (.ref (I+1)))(hO:Ej s.heap (I+3) a b)(g1:S1 k s.heap)(g2:S2 k s.heap)(hk:n1<=k\/(k<n1/\n2<=k))(up:∀ h2 e tk,(∀ c o,c∉[I,I+1,I+3,I+4]->s.heap.get? c=Ab o->h2.get? c=Ab o)->(∃ o,h2.get? e=Ab o/\o.cls=.type "StopIteration")->E (.ref e) {s with heap:=h2,toks:=tk}):AB (model prog w) A (Builtin.«zip.__next__» ⟨[.ref (I+4)],[]⟩) Q E s:=by
 refine Ao (m:=field (.ref (I+4)) 2) (BG hz rfl (x:=.bool Ad) rfl ?_);refine Ao (m:=field (.ref (I+4)) 3) (BG hz rfl (x:=.ref (I+2)) rfl (Ao (DF hI rfl ?_)));refine Ao (m:=CN (.ref (I+4))) ?_;simp only[CN];refine Ao (BG hz rfl (x:=.none) rfl (AK ?_));rw[Aq rfl];refine Ao (Iy (Ao (BG hz rfl (x:=.ref (I+3)) rfl (Ao (DQ hz (by simp) λp1 z1 e1=>Ao ?_)))))
 have z1':FO p1 (I+4) (I+2) (I+3) .ellipsis:=z1;simp only[Hi,Vs,HA,GB];have g1':S1 k p1:=D1.frame _ _ _ g1 λc hc o q=>e1.extBut c o (nb1 b1 hc 3) q
 rcases hk with k1|⟨k1,k2⟩
 .refine Ao (Ao (FR (Ao (m:=Bz (.ref I)) (D1.done _ _ _ _ k1 g1' λp2 e e2 he=>?_))))
  obtain⟨oe,hoe,hce⟩:=he;have z2:FO p2 (I+4) (I+2) (I+3) .ellipsis:=e2 _ _ (ni0 (by decide)) z1'
  have ne:e≠I+4:=λx=>by subst x;rw[z2]at hoe;cases hoe;simp at hce
  refine DQ z2 (by simp) λp3 _ e3=>up p3 e s.toks (λc o nc q=>?_) ⟨oe,e3.extBut _ _ ne hoe,hce⟩
  simp only[AI,Bq,CW,FN]at nc;exact e3.extBut c o nc.2.2.2 (e2 c o nc.1 (e1.extBut c o nc.2.2.2 q))
 .refine Ao (Ao (FR (Ao (m:=Bz (.ref I)) (D1.item k _ _ _ k1 g1' λx p2 t2 px s2 e2=>AK ?_))))
  have o2:Ej p2 (I+3) a b:=e2.extBut _ _ (ni0 (by decide)) (e1.extBut _ _ (nij (by decide)) hO)
  refine Ao (DF o2 rfl (Ao (Gj o2 λp3 o3 e3=>Ao (Jy (AK ?_)))))
  have g2':S2 k p3:=D2.frame _ _ _ g2 λc hc o q=>e3.extBut c o (nb2 b2 hc).2.1 (e2.extBut c o (nb2 b2 hc).1 (e1.extBut c o (nb2 b2 hc).2.2 q))
  refine Ao (Ao (FR (Ao (m:=Bz (.ref (I+1))) (D2.done _ _ _ _ k2 g2' λp4 e e4 he=>?_))))
  obtain⟨oe,hoe,hce⟩:=he;have z4:FO p4 (I+4) (I+2) (I+3) .ellipsis:=e4 _ _ (nij (by decide)) (e3.extBut _ _ (nij (by decide)) (e2.extBut _ _ (ni0 (by decide)) z1'))
  have ne:e≠I+4:=λx=>by subst x;rw[z4]at hoe;cases hoe;simp at hce
  refine DQ z4 (by simp) λp5 _ e5=>up p5 e t2 (λc o nc q=>?_) ⟨oe,e5.extBut _ _ ne hoe,hce⟩
  simp only[AI,Bq,CW,FN]at nc;exact e5.extBut c o nc.2.2.2 (e4 c o nc.2.1 (e3.extBut c o nc.2.2.1 (e2.extBut c o nc.1 (e1.extBut c o nc.2.2.2 q))))
end
def SqX(t:Ai)(K:Fg)(H:Hp)(a:Ak)(xs:Ac V):Prop:=match t with
  |true=>SqT K H a xs
  |false=>SqL K H a xs
theorem IF(I:Inv X pI Y H s)(h:SqX t X.K H a xs):∃ its:Ac Aj,A6 xs its/\EN t s.heap a its.toArray/\xs.length<=sizeLine:=by
 cases t with
 |true=>
  obtain⟨its,rv,p,z⟩:=I.tuple h;exact⟨its,rv,p,z⟩
 |false=>
  obtain⟨its,rv,p,z⟩:=I.list h;exact⟨its,rv,p.isList,z⟩
theorem NH(I:Inv X pI Y H s)(h:SqX t X.K H a xs)(h2:SqX t X.K H a ys):xs=ys:=by
 cases t with
 |true=>exact I.tuple_inj h h2
 |false=>exact I.list_inj h h2
noncomputable def Itz(K:Fg)(t1 t2:Ai)(a b:Ak):It:=
  ⟨λi H=>∃ xs ys x y,SqX t1 K H a xs/\SqX t2 K H b ys/\xs[i]?=Ab x/\ys[i]?=Ab y,
   λi H v H'=>∃ p x y,H p=Af/\v=.ref p/\(∀ xs,SqX t1 K H a xs->xs[i]?=Ab x)/\(∀ ys,SqX t2 K H b ys->ys[i]?=Ab y)/\H'=upd H p (.tup [x,y]),
   λi H=>∃ xs ys,SqX t1 K H a xs/\SqX t2 K H b ys/\(xs.length<=i\/(i<xs.length/\ys.length<=i))⟩
theorem Inv.turnedL{t':Ae}(ch:Ac Ak)(I:Inv X pI Y H s)(k:∀ b o,b∉ch->s.heap.get? b=Ab o->h'.get? b=Ab o)(hf:∀ b∈ch,Gy X pI H b):Inv X pI Y H {s with heap:=h',toks:=t'}:=by
 have nit:∀ b u,H b=Ab u->b∉ch:=λb u e z=>by rw[(hf b z).1]at e;cases e
 refine I.step (g':=s.gens) (d':=s.drawn) (ch:=ch) (λb hb=>⟨(hf b hb).2.2.2.1,(hf b hb).2.1,(hf b hb).2.2.2.2.1,(hf b hb).2.2.2.2.2⟩) (λb o _ _ hc e _=>k b o hc e) (λb o _ _ hc e _=>⟨o.slots,k b o hc e⟩) (λ_ _ _ _ n=>n)
  (λb o hc e=>⟨o,k b o hc e⟩) (λ_ _ e=>e) (λ_ _ _ e=>e) (λb ps e=>⟨#[],by rw[e];simp⟩) (λm ⟨o,es,ep,ho,r⟩=>⟨o,es,ep,k _ o (λz=>(hf _ z).2.1 rfl) ho,r⟩) (λb u e=>(I.hok b u e).stay (λc v hc q=>k c v ?_ q) (λ_ q=>q) λ_ _ q=>q) I.bare
 rcases hc with z|z
 .rw[z];exact nit b u e
 .exact nit c _ z
def zTn(t1 t2:Ai)(I l1 l2:Ae)(i:Ae)(h:AD):Prop:=FO h (I+4) (I+2) (I+3) .none/\Ej h (I+2) (.ref I) (.ref (I+1))/\(∃ a b,Ej h (I+3) a b)/\GK t1 h I l1 i/\GK t2 h (I+1) l2 i
noncomputable def zFp(I:Ae):Ac Ak:=[I,I+1,I+2,I+3,I+4]
theorem GK.obj(z:GK t h j l i):∃ o,h.get? j=Ab o/\∀ v,o.data≠.cell v:=by
 cases t with
 |true=>obtain⟨o,e,c,d⟩:=z;exact⟨o,e,λv z=>by rw[d]at z;cases z⟩
 |false=>obtain⟨o,e,c,d⟩:=z;exact⟨o,e,λv z=>by rw[d]at z;cases z⟩
theorem GK.at'{h2:AD}(z:GK t h j l i)(k:∀ o,h.get? j=Ab o->h2.get? j=Ab o):GK t h2 j l i:=by
 cases t with
 |true=>exact PySem.Heap.IsTupleIter.at z k
 |false=>exact PySem.Heap.IsListIter.at z k
theorem Y_1(t1 t2:Ai)(I l1 l2:Ae)(b1:l1<I)(b2:l2<I):Turn P w K (.Tuple es n pos) (Itz K t1 t2 l1 l2) (zFp I) (I+4) (zTn t1 t2 I l1 l2) where
  mem:=by simp[zFp]
  obj:=λi h ⟨z1,z2,⟨a,b,z3⟩,z4,z5⟩ c hc=>by
    simp only[zFp,AI,Bq,CW]at hc;rcases hc with rfl|rfl|rfl|rfl|rfl
    · exact z4.obj
    · exact z5.obj
    · exact⟨_,z2,λv z=>by cases z⟩
    · exact⟨_,z3,λv z=>by cases z⟩
    · exact⟨_,z1,λv z=>by cases z⟩
  keep:=λi h h2 ⟨z1,z2,⟨a,b,z3⟩,z4,z5⟩ k=>⟨k _ (by simp[zFp]) _ z1,k _ (by simp[zFp]) _ z2,⟨a,b,k _ (by simp[zFp]) _ z3⟩,z4.at' λo e=>k _ (by simp[zFp]) o e,z5.at' λo e=>k _ (by simp[zFp]) o e⟩
  item:=by
    intro X hP hw hK hc i pI s Y H E Iv hf ⟨z1,z2,⟨a,b,z3⟩,z4,z5⟩ ⟨xs,ys,x,y,q1,q2,hx,hy⟩;subst hP hw hK;obtain⟨us,rx,sx,_⟩:=IF Iv q1;obtain⟨vs,ry,sy,_⟩:=IF Iv q2;obtain⟨u,hu,ru⟩:=rx.get hx;obtain⟨v,hv,rv⟩:=ry.get hy;have hT:s.TypeIs (.ref (I+4)) "zip" := ⟨_,z1,rfl⟩;have calm:X.A.in1.handled=Af:=Iv.ok.hd hc;show AB _ _ (GS _) _ _ _;simp only[GS];refine Ao (FQ (Ck hT Dp (Da Dp hT FU (Rs (k:=i) b1 b2 (KB calm t1 I l1 (Bj b1) us.toArray) (KB calm t2 (I+1) l2 (Bj (Cq b2)) vs.toArray) z1 z2 z3 ⟨z4,sx⟩ ⟨z5,sy⟩
      (by have:=(A4.mp hu).1;simpa using this) (by have:=(A4.mp hv).1;simpa using this) λx' y' h2 tk px py c1 c2 c3 c4 c5 kp=>AK ?_) (FA _))))
    have ex:x'=u:=by
      have px':us[i]?=Ab x':=by simpa using px
      rw[hu]at px';exact(Bh px').symm
    have ey:y'=v:=by
      have py':vs[i]?=Ab y':=by simpa using py
      rw[hv]at py';exact(Bh py').symm
    subst ex ey;refine⟨_,rfl,Xj c1 λh3 d1 sb=>?_⟩
    have lt4:I+4<s.heap.objs.size:=AL z1;have kp3:∀ c o,c∉zFp I->s.heap.get? c=Ab o->h3.get? c=Ab o:=λc o nc q=>by
      simp only[zFp,AI,Bq,CW,FN]at nc;exact sb.extBut c o nc.2.2.2.2 (kp c o (by simp only[AI,Bq,CW,FN];exact⟨nc.1,nc.2.1,nc.2.2.2.1,nc.2.2.2.2⟩) q)
    have nT:∀ c∈zFp I,c≠s.heap.objs.size:=λc hc z=>by
      have:c<=I+4:=by
        simp only[zFp,AI,Bq,CW]at hc;rcases hc with z|z|z|z|z<;>rw[z]<;>simp
      exact absurd (z ▸ GN this lt4) (Br _)
    have I1:Inv X pI Y (upd H s.heap.objs.size (.tup [x,y])) { s with heap:=s.heap.push { cls:=.type "tuple",data:=.seq #[x',y'] },toks:=s.toks }:=
      Iv.laid (λ_ _ q=>Ar _ q) (Aw _) ⟨(by decide:2<=sizeLine),[x',y'],.cons ru (.cons rv .nil),⟨_,AJ _ rfl,rfl,_,rfl⟩⟩
    have hf':∀ b∈zFp I,Gy X pI (upd H s.heap.objs.size (.tup [x,y])) b:=λb hb=>⟨by rw[B6 (nT b hb)];exact(hf b hb).1,(hf b hb).2⟩
    have I2:Inv X pI Y (upd H s.heap.objs.size (.tup [x,y])) {s with heap:=h3,toks:=tk}:=Inv.turnedL (s:={ s with heap:=s.heap.push { cls:=.type "tuple",data:=.seq #[x',y'] },toks:=s.toks }) (zFp I) I1 (λc o nc q=>by
      rcases WD q with ⟨e1,e2⟩|e1
      · subst e1 e2;exact sb.extBut _ _ (E8 lt4) c5
      · exact kp3 c o nc e1) hf'
    refine⟨.ref s.heap.objs.size,_,I2,rfl,⟨s.heap.objs.size,x,y,Iv.fresh,rfl,λzs hz=>by rw[NH Iv hz q1];exact hx,λzs hz=>by rw[NH Iv hz q2];exact hy,rfl⟩,⟨d1,sb.extBut _ _ (nij (by decide)) (kp _ _ (by simp) z2),⟨_,_,sb.extBut _ _ (nij (by decide)) c2⟩,c3.1.at' λo q=>sb.extBut _ o (Ed (ni0 (by decide))) q,c4.1.at' λo q=>sb.extBut _ o (nij (by decide)) q⟩,λb hb=>(hf' b hb).1⟩
  done:=by
    intro X hP hw hK hc i pI s Y H E Iv hf ⟨z1,z2,⟨a,b,z3⟩,z4,z5⟩ ⟨xs,ys,q1,q2,hk⟩;subst hP hw hK;obtain⟨us,rx,sx,_⟩:=IF Iv q1;obtain⟨vs,ry,sy,_⟩:=IF Iv q2;have hT:s.TypeIs (.ref (I+4)) "zip" := ⟨_,z1,rfl⟩;have calm:X.A.in1.handled=Af:=Iv.ok.hd hc;have e1:=rx.length;have e2:=ry.length;simp only[GS];refine Ao (FQ (Ck hT Dp (Da Dp hT FU (RD (k:=i) b1 b2 (KB calm t1 I l1 (Bj b1) us.toArray) (KB calm t2 (I+1) l2 (Bj (Cq b2)) vs.toArray) z1 z2 z3 ⟨z4,sx⟩ ⟨z5,sy⟩
      (by simp only[AH];omega) λh2 e tk kp he=>?_) (FA _))))
    obtain⟨o,ho,hcl⟩:=he;refine Ao (Xi (T := "StopIteration") (b:=Aa) ⟨o,ho,hcl⟩ Xb (AK ⟨rfl,Inv.turnedL [I,I+1,I+3,I+4] Iv (λc o nc q=>kp c o nc q) λc hc=>hf c ?_⟩))
    simp only[AI,Bq,CW]at hc;simp only[zFp,AI,Bq,CW];rcases hc with rfl|rfl|rfl|rfl<;>simp
  self:=λ_ _ _ _ _ st h=>FV st.1 h
section
variable{prog:AM}{w:AY}{A:AT}{E:Vq}{s:Ap}
noncomputable def itO(t:Ai)(l:Ak):DE:=match t with
  |true=>{ cls:=.type "tuple_iterator",data:=.fields #[.ref l,.int 0 0] }
  |false=>{ cls:=.type "list_iterator",data:=.fields #[.ref l,.int 0 0] }
theorem O7{Q:Vq}(h:EN t s.heap l its)(q:Q (.ref s.heap.objs.size) {s with heap:=s.heap.push (itO t l)}):AB (model prog w) A (J5 (.ref l)) Q E s:=by
 cases t with
 |true=>exact Xn h q
 |false=>exact G9 h q
theorem EN.push(z:EN t h l its)(o:DE):EN t (h.push o) l its:=by
 cases t with
 |true=>exact PySem.Heap.IsTuple.at z λ_ e=>Ar _ e
 |false=>exact PySem.Heap.IsList.at z λ_ e=>Ar _ e
theorem OL(e:h.get? j=Ab (itO t l)):GK t h j l 0:=by
 cases t with
 |true=>exact⟨_,e,rfl,rfl⟩
 |false=>exact⟨_,e,rfl,rfl⟩
theorem N5(t:Ai)(l:Ak):(itO t l).isFreed=Ad:=by cases t<;>rfl
noncomputable abbrev zh2(t1 t2:Ai)(h:AD)(l1 l2:Ak):AD:=(h.push (itO t1 l1)).push (itO t2 l2)
noncomputable abbrev zh3(t1 t2:Ai)(h:AD)(l1 l2:Ak):AD:=(zh2 t1 t2 h l1 l2).push { cls:=.type "tuple",data:=.seq #[.ref h.objs.size,.ref (h.push (itO t1 l1)).objs.size] }
noncomputable abbrev zh4(t1 t2:Ai)(h:AD)(l1 l2:Ak):AD:=(zh3 t1 t2 h l1 l2).push { cls:=.type "tuple",data:=.seq #[.none,.none] }
noncomputable abbrev zh5(t1 t2:Ai)(h:AD)(l1 l2:Ak):AD:=(zh4 t1 t2 h l1 l2).push { cls:=.type "zip",data:=.fields #[.none,.bool Ad,.bool Ad,.ref (zh2 t1 t2 h l1 l2).objs.size,.ref (zh3 t1 t2 h l1 l2).objs.size] }
theorem ZV(t1 t2:Ai)(l1 l2:Ak)(xs ys:Ax Aj):Meets (Builtin.«zip.__new__» ⟨[.type "zip",.ref l1,.ref l2],[]⟩) (λ_ R s=>EN t1 s.heap l1 xs/\EN t2 s.heap l2 ys/\R (.ok (.ret (.ref (zh4 t1 t2 s.heap l1 l2).objs.size))) {s with heap:=zh5 t1 t2 s.heap l1 l2}):=
 .of_wp λprog w A R s h=>by
  obtain⟨hp,g,d,tk,os⟩:=s;obtain⟨a1,a2,q⟩:=h;have hsub:=sub_zip;have L1:EN t1 (Jx ⟨hp,g,d,tk,os⟩) l1 xs:=a1;have L2:EN t2 (Jx ⟨hp.push (itO t1 l1),g,d,tk,os⟩) l2 ys:=a2.push _
  wp_walk using O7 L1,O7 L2
  exact⟨_,rfl,q⟩
theorem YU{l1:Ak}{xs ys:Ax Aj}{Q:Vq}(a1:EN t1 s.heap l1 xs)(a2:EN t2 s.heap l2 ys)(q:∀ h2,zTn t1 t2 s.heap.objs.size l1 l2 0 h2->(∀ c o,s.heap.get? c=Ab o->h2.get? c=Ab o)->Q (.ref (s.heap.objs.size+4)) {s with heap:=h2}):AB (model prog w) A (call (.type "zip") [.ref l1,.ref l2]) Q E s:=by
 refine callType_new Wp (by decide) (Wy _ _) (Wv _ _) (λobj=>Wm obj _ _) Wu (ZV t1 t2 l1 l2 xs ys) ⟨a1,a2,?_⟩
 have s1:(s.heap.push (itO t1 l1)).objs.size=s.heap.objs.size+1:=BF ..;have s2:(zh2 t1 t2 s.heap l1 l2).objs.size=s.heap.objs.size+2:=by rw[BF,s1]
 have s3:(zh3 t1 t2 s.heap l1 l2).objs.size=s.heap.objs.size+3:=by rw[BF,s2]
 have s4:(zh4 t1 t2 s.heap l1 l2).objs.size=s.heap.objs.size+4:=by rw[BF,s3]
 have u5:∀ {c o},(zh4 t1 t2 s.heap l1 l2).get? c=Ab o->(zh5 t1 t2 s.heap l1 l2).get? c=Ab o:=λe=>Ar _ e
 have u4:∀ {c o},(zh3 t1 t2 s.heap l1 l2).get? c=Ab o->(zh5 t1 t2 s.heap l1 l2).get? c=Ab o:=λe=>u5 (Ar _ e)
 have u3:∀ {c o},(zh2 t1 t2 s.heap l1 l2).get? c=Ab o->(zh5 t1 t2 s.heap l1 l2).get? c=Ab o:=λe=>u4 (Ar _ e)
 have u2:∀ {c o},(s.heap.push (itO t1 l1)).get? c=Ab o->(zh5 t1 t2 s.heap l1 l2).get? c=Ab o:=λe=>u3 (Ar _ e)
 have g5:(zh5 t1 t2 s.heap l1 l2).get? (zh4 t1 t2 s.heap l1 l2).objs.size=Ab _:=AJ _ rfl;have g4:(zh5 t1 t2 s.heap l1 l2).get? (zh3 t1 t2 s.heap l1 l2).objs.size=Ab _:=u5 (AJ _ rfl);have g3:(zh5 t1 t2 s.heap l1 l2).get? (zh2 t1 t2 s.heap l1 l2).objs.size=Ab _:=u4 (AJ _ rfl);have g2:(zh5 t1 t2 s.heap l1 l2).get? (s.heap.push (itO t1 l1)).objs.size=Ab _:=u3 (AJ _ (N5 _ _));have g1:(zh5 t1 t2 s.heap l1 l2).get? s.heap.objs.size=Ab _:=u2 (AJ _ (N5 _ _));show _/\_;rw[s2,s3,s4]at g5;rw[s3]at g4;rw[s1,s2]at g3;rw[s1]at g2;rw[s4];exact⟨⟨_,g5,rfl⟩,q _ ⟨g5,g3,⟨_,_,g4⟩,OL g1,OL g2⟩ λc o e=>u2 (Ar _ e)⟩
end
theorem EN.lt(z:EN t h a its):a<h.objs.size:=by
 cases t with
 |true=>obtain⟨o,e,_⟩:=z;exact AL e
 |false=>obtain⟨o,e,_⟩:=z;exact AL e
theorem TH{ds:Ac D}(r:Rep K CL H A v d)(e:DW d=.ok ds):∃ t a xs,v=.ref a/\(∀ H2,Kp A H H2->SqX t K H2 a xs)/\Reps K CL H A xs ds:=by
 cases d with
 |lst es=>
  cases e;obtain⟨q,xs,rfl,na,sq,r⟩:=r;exact⟨Ad,q,xs,rfl,λH2 k=>ML k na sq,r⟩
 |tup es=>
  cases e;obtain⟨q,xs,rfl,na,sq,r⟩:=r;exact⟨Aa,q,xs,rfl,λH2 k=>MK k na sq,r⟩
 |_=>cases e
theorem Lq:∀(xs ys:Ac D),(DG xs ys).length=min xs.length ys.length
 |[],_=>by simp[DG]
 |_::_,[]=>by simp[DG]
 |x::xs,y::ys=>by
  rw[DG,AS,Lq xs ys];simp only[AS];omega
theorem Oe:∀(xs ys:Ac D)(i:Ae)(d:D),(DG xs ys)[i]?=Ab d->∃ x y,xs[i]?=Ab x/\ys[i]?=Ab y/\d=.tup [x,y]
 |[],_,i,d,h=>by simp[DG]at h
 |_::_,[],i,d,h=>by simp[DG]at h
 |x::xs,y::ys,0,d,h=>by
  rw[DG]at h;simp only[List.getElem?_cons_zero,Option.some.injEq]at h;exact⟨x,y,rfl,rfl,h.symm⟩
 |x::xs,y::ys,i+1,d,h=>by
  rw[DG]at h;simp only[List.getElem?_cons_succ]at h ⊢;exact Oe xs ys i d h
theorem YV{ds es:Ac D}(s1:∀ H2,Kp A H1 H2->SqX t1 K H2 a xs)(s2:∀ H2,Kp A H1 H2->SqX t2 K H2 b ys)(r1:Reps K CL H1 A xs ds)(r2:Reps K CL H1 A ys es):Ia K CL A (DG ds es) (Itz K t1 t2 a b) H1:=λH k i=>by
 refine⟨λhi=>⟨xs,ys,s1 H k,s2 H k,?_⟩,λd hd=>?_⟩
 .rw[Lq]at hi;rw[r1.length,r2.length];omega
 .obtain⟨x,y,hx,hy,rfl⟩:=Oe _ _ _ _ hd;obtain⟨u,hu,ru⟩:=r1.get hx;obtain⟨v,hv,rv⟩:=r2.get hy;refine⟨⟨xs,ys,u,v,s1 H k,s2 H k,hu,hv⟩,?_⟩;rintro w' H' ⟨p,x',y',hp,rfl,c1,c2,rfl⟩;have ex:x'=u:=Bh ((c1 xs (s1 H k)).symm.trans hu);have ey:y'=v:=Bh ((c2 ys (s2 H k)).symm.trans hv);subst ex ey;have sm:=FF hp (.tup [x',y']);exact⟨sm,λB hB aB=>Kr aB hp ⟨Lc ru k hB,Lc rv k hB,trivial⟩⟩
section
variable{X:Cx}{CL:ClA}{W:XW}{pos p:AR}{a b:An}{fa fb:Rho->R D}
end
noncomputable abbrev SIt(h:AD)(j:Ak)(x:Ah)(t:BV)(i:Ae):Prop:=h.IsStrIter j "str_ascii_iterator" x t i
theorem S0{A:AT}(calm:A.handled=Af)(j l:Ak)(x:Ah)(t:BV):Dw prog w A j [j,l] x.cps.size (λi v=>∃ c k,x.cps[i]?=Ab c/\v=.str ⟨#[c]⟩ k) (λi h=>SIt h j x t i):=
 ⟨λ_ _ _ ⟨o,ho,r⟩ k=>⟨o,k j (by simp) o ho,r⟩,λi s Q E hi z q=>wpAny_nextOf_ascii_item z (c:=x.cps[i]) (by simp[hi]) λh2 z2 sb=>q _ h2 _ ⟨x.cps[i],s.toks,by simp[hi],rfl⟩ z2 sb,λi s Q E hi z q=>wpAny_nextOf_ascii_end calm z (by simp[hi]) q⟩
noncomputable def Its(K:Fg)(x:Ah)(t2:Ai)(b:Ak):It:=
  ⟨λi H=>∃ ys c y,SqX t2 K H b ys/\x.cps[i]?=Ab c/\ys[i]?=Ab y,
   λi H v H'=>∃ p c y,H p=Af/\v=.ref p/\x.cps[i]?=Ab c/\(∀ ys,SqX t2 K H b ys->ys[i]?=Ab y)/\H'=upd H p (.tup [.str ⟨#[c]⟩,y]),
   λi H=>∃ ys,SqX t2 K H b ys/\(x.cps.size<=i\/(i<x.cps.size/\ys.length<=i))⟩
def sTn(x:Ah)(t:BV)(t2:Ai)(I l2:Ae)(i:Ae)(h:AD):Prop:=FO h (I+4) (I+2) (I+3) .none/\Ej h (I+2) (.ref I) (.ref (I+1))/\(∃ a b,Ej h (I+3) a b)/\SIt h I x t i/\GK t2 h (I+1) l2 i
theorem XH(x:Ah)(t:BV)(t2:Ai)(I l2:Ae)(b2:l2<I):Turn P w K (.Tuple es n pos) (Its K x t2 l2) (zFp I) (I+4) (sTn x t t2 I l2) where
  mem:=by simp[zFp]
  obj:=λi h ⟨z1,z2,⟨a,b,z3⟩,z4,z5⟩ c hc=>by
    simp only[zFp,AI,Bq,CW]at hc;rcases hc with rfl|rfl|rfl|rfl|rfl
    · obtain⟨o,e,_,d⟩:=z4;exact⟨o,e,λv z=>by rw[d]at z;cases z⟩
    · exact z5.obj
    · exact⟨_,z2,λv z=>by cases z⟩
    · exact⟨_,z3,λv z=>by cases z⟩
    · exact⟨_,z1,λv z=>by cases z⟩
  keep:=λi h h2 ⟨z1,z2,⟨a,b,z3⟩,z4,z5⟩ k=>⟨k _ (by simp[zFp]) _ z1,k _ (by simp[zFp]) _ z2,⟨a,b,k _ (by simp[zFp]) _ z3⟩,(let ⟨o,e,r⟩:=z4;⟨o,k _ (by simp[zFp]) o e,r⟩),z5.at' λo e=>k _ (by simp[zFp]) o e⟩
  item:=by
    intro X hP hw hK hc i pI s Y H E Iv hf ⟨z1,z2,⟨a,b,z3⟩,z4,z5⟩ ⟨ys,cc,y,q2,hx,hy⟩;subst hP hw hK;obtain⟨vs,ry,sy,_⟩:=IF Iv q2;obtain⟨v,hv,rv⟩:=ry.get hy;have hT:s.TypeIs (.ref (I+4)) "zip" := ⟨_,z1,rfl⟩;have calm:X.A.in1.handled=Af:=Iv.ok.hd hc;show AB _ _ (GS _) _ _ _;simp only[GS];refine Ao (FQ (Ck hT Dp (Da Dp hT FU (Rs (k:=i) b2 b2 (S0 calm I l2 x t) (KB calm t2 (I+1) l2 (Bj (Cq b2)) vs.toArray) z1 z2 z3 z4 ⟨z5,sy⟩
      (UQ.mp hx).1 (by have:=(A4.mp hv).1;simpa using this) λx' y' h2 tk px py c1 c2 c3 c4 c5 kp=>AK ?_) (FA _))))
    obtain⟨c0,k0,px,ex⟩:=px;have ec:cc=c0:=by
      rw[hx]at px;exact Bh px
    subst ec;have ey:y'=v:=by
      have py':vs[i]?=Ab y':=by simpa using py
      rw[hv]at py';exact(Bh py').symm
    subst ex ey;refine⟨_,rfl,Xj c1 λh3 d1 sb=>?_⟩
    have lt4:I+4<s.heap.objs.size:=AL z1;have kp3:∀ c o,c∉zFp I->s.heap.get? c=Ab o->h3.get? c=Ab o:=λc o nc q=>by
      simp only[zFp,AI,Bq,CW,FN]at nc;exact sb.extBut c o nc.2.2.2.2 (kp c o (by simp only[AI,Bq,CW,FN];exact⟨nc.1,nc.2.1,nc.2.2.2.1,nc.2.2.2.2⟩) q)
    have nT:∀ c∈zFp I,c≠s.heap.objs.size:=λc hc z=>by
      have:c<=I+4:=by
        simp only[zFp,AI,Bq,CW]at hc;rcases hc with z|z|z|z|z<;>rw[z]<;>simp
      exact absurd (z ▸ GN this lt4) (Br _)
    have I1:Inv X pI Y (upd H s.heap.objs.size (.tup [.str ⟨#[cc]⟩,y])) { s with heap:=s.heap.push { cls:=.type "tuple",data:=.seq #[.str ⟨#[cc]⟩ k0,y'] },toks:=s.toks }:=
      Iv.laid (λ_ _ q=>Ar _ q) (Aw _) ⟨(by decide:2<=sizeLine),[.str ⟨#[cc]⟩ k0,y'],.cons ⟨k0,rfl⟩ (.cons rv .nil),⟨_,AJ _ rfl,rfl,_,rfl⟩⟩
    have hf':∀ b∈zFp I,Gy X pI (upd H s.heap.objs.size (.tup [.str ⟨#[cc]⟩,y])) b:=λb hb=>⟨by rw[B6 (nT b hb)];exact(hf b hb).1,(hf b hb).2⟩
    have I2:Inv X pI Y (upd H s.heap.objs.size (.tup [.str ⟨#[cc]⟩,y])) {s with heap:=h3,toks:=tk}:=Inv.turnedL (s:={ s with heap:=s.heap.push { cls:=.type "tuple",data:=.seq #[.str ⟨#[cc]⟩ k0,y'] },toks:=s.toks }) (zFp I) I1 (λc o nc q=>by
      rcases WD q with ⟨e1,e2⟩|e1
      · subst e1 e2;exact sb.extBut _ _ (E8 lt4) c5
      · exact kp3 c o nc e1) hf'
    refine⟨.ref s.heap.objs.size,_,I2,rfl,⟨s.heap.objs.size,cc,y,Iv.fresh,rfl,hx,λzs hz=>by rw[NH Iv hz q2];exact hy,rfl⟩,⟨d1,sb.extBut _ _ (nij (by decide)) (kp _ _ (by simp) z2),⟨_,_,sb.extBut _ _ (nij (by decide)) c2⟩,(let ⟨o,e,r⟩:=c3;⟨o,sb.extBut _ o (Ed (ni0 (by decide))) e,r⟩),c4.1.at' λo q=>sb.extBut _ o (nij (by decide)) q⟩,λb hb=>(hf' b hb).1⟩
  done:=by
    intro X hP hw hK hc i pI s Y H E Iv hf ⟨z1,z2,⟨a,b,z3⟩,z4,z5⟩ ⟨ys,q2,hk⟩;subst hP hw hK;obtain⟨vs,ry,sy,_⟩:=IF Iv q2;have hT:s.TypeIs (.ref (I+4)) "zip" := ⟨_,z1,rfl⟩;have calm:X.A.in1.handled=Af:=Iv.ok.hd hc;have e2:=ry.length;simp only[GS];refine Ao (FQ (Ck hT Dp (Da Dp hT FU (RD (k:=i) b2 b2 (S0 calm I l2 x t) (KB calm t2 (I+1) l2 (Bj (Cq b2)) vs.toArray) z1 z2 z3 z4 ⟨z5,sy⟩
      (by simp only[AH];omega) λh2 e tk kp he=>?_) (FA _))))
    obtain⟨o,ho,hcl⟩:=he;refine Ao (Xi (T := "StopIteration") (b:=Aa) ⟨o,ho,hcl⟩ Xb (AK ⟨rfl,Inv.turnedL [I,I+1,I+3,I+4] Iv (λc o nc q=>kp c o nc q) λc hc=>hf c ?_⟩))
    simp only[AI,Bq,CW]at hc;simp only[zFp,AI,Bq,CW];rcases hc with rfl|rfl|rfl|rfl<;>simp
  self:=λ_ _ _ _ _ st h=>FV st.1 h
section
variable{prog:AM}{w:AY}{A:AT}{E:Vq}{s:Ap}
noncomputable abbrev itS(x:Ah)(t:BV):DE:={ cls:=.type "str_ascii_iterator",data:=.fields #[.str x t,.int 0 0] }
noncomputable abbrev sh2(x:Ah)(t:BV)(t2:Ai)(h:AD)(l2:Ak):AD:=(h.push (itS x t)).push (itO t2 l2)
noncomputable abbrev sh3(x:Ah)(t:BV)(t2:Ai)(h:AD)(l2:Ak):AD:=(sh2 x t t2 h l2).push { cls:=.type "tuple",data:=.seq #[.ref h.objs.size,.ref (h.push (itS x t)).objs.size] }
noncomputable abbrev sh4(x:Ah)(t:BV)(t2:Ai)(h:AD)(l2:Ak):AD:=(sh3 x t t2 h l2).push { cls:=.type "tuple",data:=.seq #[.none,.none] }
noncomputable abbrev sh5(x:Ah)(t:BV)(t2:Ai)(h:AD)(l2:Ak):AD:=(sh4 x t t2 h l2).push { cls:=.type "zip",data:=.fields #[.none,.bool Ad,.bool Ad,.ref (sh2 x t t2 h l2).objs.size,.ref (sh3 x t t2 h l2).objs.size] }
theorem YT(x:Ah)(t:BV)(ha:x.cps.all (· < 128)=Aa)(t2:Ai)(l2:Ak)(ys:Ax Aj):Meets (Builtin.«zip.__new__» ⟨[.type "zip",.str x t,.ref l2],[]⟩) (λ_ R s=>EN t2 s.heap l2 ys/\R (.ok (.ret (.ref (sh4 x t t2 s.heap l2).objs.size))) {s with heap:=sh5 x t t2 s.heap l2}):=
 .of_wp λprog w A R s h=>by
  obtain⟨hp,g,d,tk,os⟩:=s;obtain⟨a2,q⟩:=h;have hsub:=sub_zip;have L2:EN t2 (Jx ⟨hp.push (itS x t),g,d,tk,os⟩) l2 ys:=a2.push _
  wp_walk using wpAny_pyIter_ascii ha,O7 L2
  exact⟨_,rfl,q⟩
theorem XX{t:BV}{ys:Ax Aj}{Q:Vq}(ha:x.cps.all (· < 128)=Aa)(a2:EN t2 s.heap l2 ys)(q:∀ h2,sTn x t t2 s.heap.objs.size l2 0 h2->(∀ c o,s.heap.get? c=Ab o->h2.get? c=Ab o)->Q (.ref (s.heap.objs.size+4)) {s with heap:=h2}):AB (model prog w) A (call (.type "zip") [.str x t,.ref l2]) Q E s:=by
 refine callType_new Wp (by decide) (Wy _ _) (Wv _ _) (λobj=>Wm obj _ _) Wu (YT x t ha t2 l2 ys) ⟨a2,?_⟩
 have s1:(s.heap.push (itS x t)).objs.size=s.heap.objs.size+1:=BF ..;have s2:(sh2 x t t2 s.heap l2).objs.size=s.heap.objs.size+2:=by rw[BF,s1]
 have s3:(sh3 x t t2 s.heap l2).objs.size=s.heap.objs.size+3:=by rw[BF,s2]
 have s4:(sh4 x t t2 s.heap l2).objs.size=s.heap.objs.size+4:=by rw[BF,s3]
 have u5:∀ {c o},(sh4 x t t2 s.heap l2).get? c=Ab o->(sh5 x t t2 s.heap l2).get? c=Ab o:=λe=>Ar _ e
 have u4:∀ {c o},(sh3 x t t2 s.heap l2).get? c=Ab o->(sh5 x t t2 s.heap l2).get? c=Ab o:=λe=>u5 (Ar _ e)
 have u3:∀ {c o},(sh2 x t t2 s.heap l2).get? c=Ab o->(sh5 x t t2 s.heap l2).get? c=Ab o:=λe=>u4 (Ar _ e)
 have u2:∀ {c o},(s.heap.push (itS x t)).get? c=Ab o->(sh5 x t t2 s.heap l2).get? c=Ab o:=λe=>u3 (Ar _ e)
 have g5:(sh5 x t t2 s.heap l2).get? (sh4 x t t2 s.heap l2).objs.size=Ab _:=AJ _ rfl;have g4:(sh5 x t t2 s.heap l2).get? (sh3 x t t2 s.heap l2).objs.size=Ab _:=u5 (AJ _ rfl);have g3:(sh5 x t t2 s.heap l2).get? (sh2 x t t2 s.heap l2).objs.size=Ab _:=u4 (AJ _ rfl);have g2:(sh5 x t t2 s.heap l2).get? (s.heap.push (itS x t)).objs.size=Ab _:=u3 (AJ _ (N5 _ _));have g1:(sh5 x t t2 s.heap l2).get? s.heap.objs.size=Ab _:=u2 (AJ _ rfl);show _/\_;rw[s2,s3,s4]at g5;rw[s3]at g4;rw[s1,s2]at g3;rw[s1]at g2;rw[s4];exact⟨⟨_,g5,rfl⟩,q _ ⟨g5,g3,⟨_,_,g4⟩,⟨_,g1,rfl,rfl⟩,OL g2⟩ λc o e=>u2 (Ar _ e)⟩
end
def iZs(K:Fg)(ta:TA):TI:=λY H R=>ta Y H λvs H1=>(∃ t1 t2 a b xs ys,vs=[.ref a,.ref b]/\SqX t1 K H1 a xs/\SqX t2 K H1 b ys/\(xs.length<=sizeLine->R (Itz K t1 t2 a b) H1))\/∃ x t2 b ys,vs=[.str x,.ref b]/\x.cps.all (· < 128)=Aa/\SqX t2 K H1 b ys/\(ys.length<=sizeLine->R (Its K x t2 b) H1)
theorem oJ{a b:An}(hg:Gl X "zip")(hm:X.mg "zip" = Af)(ha:PA X [a,b] ta)(hs:Ay [a,b] X.env=[(Ad,eval a X.env),(Ad,eval b X.env)])(hs2:Ay [b] X.env=[(Ad,eval b X.env)]):
  PI X (.Tuple es n tpos) (.Call (.Name "zip" p) [a,b] [] pos) (iZs X.K ta):=by
 intro pI s Y H R I h;refine Call_ (JM I hg hm PyProof.Rows.boot_zip (C1 (thn (ha pos pI s Y H _ I h) λus s1 ⟨vs,H1,I1,r1,q1⟩=>?_) (by rw[hs,hs2]) (by rw[hs2];rfl)))
 have fp:∀ b∈zFp s1.heap.objs.size,Gy X pI H1 b:=λb hb=>by
  have hb':s1.heap.objs.size<=b:=by
   simp only[zFp,AI,Bq,CW]at hb;rcases hb with z|z|z|z|z<;>rw[z]<;>simp
  exact I1.fpOk hb' (I1.hok.fresh hb')
 rcases q1 with ⟨t1,t2,c,d,xs,ys,e,sx,sy,q⟩|⟨x,t2,d,ys,e,hx,sy,q⟩
 .subst e;cases r1 with
  |cons r rr=>
   cases rr with
   |cons r' rr=>
    cases rr;cases r;cases r';obtain⟨us,ru,iu,zu⟩:=IF I1 sx;obtain⟨vs,rv,iv,_⟩:=IF I1 sy;refine YU iu iv λh2 z kp=>FV z.1 ?_
    exact⟨s1.heap.objs.size+4,zFp s1.heap.objs.size,_,_,H1,rfl,I1.kept (t':=s1.toks) kp,Y_1 t1 t2 s1.heap.objs.size c d iu.lt iv.lt,z,fp,q zu⟩
 .subst e;cases r1 with
  |cons r rr=>
   cases rr with
   |cons r' rr=>
    cases rr;obtain⟨tk,rfl⟩:=r;cases r';obtain⟨vs,rv,iv,zv⟩:=IF I1 sy;refine XX hx iv λh2 z kp=>FV z.1 ?_
    exact⟨s1.heap.objs.size+4,zFp s1.heap.objs.size,_,_,H1,rfl,I1.kept (t':=s1.toks) kp,XH x tk t2 s1.heap.objs.size d iv.lt,z,fp,q zv⟩
theorem ZW{es:Ac D}(s2:∀ H2,Kp A H1 H2->SqX t2 K H2 b ys)(r2:Reps K CL H1 A ys es):Ia K CL A (DG (Ji x) es) (Its K x t2 b) H1:=λH k i=>by
 have sl:(Ji x).length=x.cps.size:=by simp[Ji]
 refine⟨λhi=>⟨ys,s2 H k,?_⟩,λd hd=>?_⟩
 .rw[Lq,sl]at hi;rw[r2.length];omega
 .obtain⟨u,y,hx,hy,rfl⟩:=Oe _ _ _ _ hd;have hx':∃ c,x.cps[i]?=Ab c/\u=D.str ⟨#[c]⟩:=by
   unfold Ji at hx;rw[Cp,Cy]at hx;cases e:x.cps[i]? with
   |none=>rw[e]at hx;cases hx
   |some c=>rw[e]at hx;exact⟨c,rfl,(Bh hx).symm⟩
  obtain⟨c,hc,rfl⟩:=hx';obtain⟨v,hv,rv⟩:=r2.get hy;refine⟨⟨ys,c,v,s2 H k,hc,hv⟩,?_⟩;rintro w' H' ⟨p,c',y',hp,rfl,c1,c2,rfl⟩;have ex:c'=c:=Bh (c1.symm.trans hc);have ey:y'=v:=Bh ((c2 ys (s2 H k)).symm.trans hv);subst ex ey;have sm:=FF hp (.tup [.str ⟨#[c']⟩,y']);exact⟨sm,λB hB aB=>Kr aB hp ⟨rfl,Lc rv k hB,trivial⟩⟩
theorem Pd(x:Ah):asZ (.str x)=if x.cps.all (· < 128)=Aa then .ok (Ji x) else .bad:=rfl
theorem eG{z:Ex}(h:asZ d=.exn z):A5:=by
 by_cases hd:∃ x,d=.str x
 .obtain⟨x,rfl⟩:=hd;rw[Pd]at h;split at h<;>cases h
 .have ea:asZ d=DW d:=by
   cases d<;>first|rfl|exact absurd ⟨_,rfl⟩ hd
  rw[ea]at h;cases d<;>simp[DW]at h
section
variable{X:Cx}{CL:ClA}{W:XW}{pos p:AR}{a b:An}{fa fb:Rho->R D}
theorem nG(ha:SE X CL W a fa)(hb:SE X CL W b fb)(hg:Gl X "zip")(hm:X.mg "zip" = Af)(hs:Ay [a,b] X.env=[(Ad,eval a X.env),(Ad,eval b X.env)])(hs2:Ay [b] X.env=[(Ad,eval b X.env)]):
  SI X CL W (.Tuple es n tpos) (.Call (.Name "zip" p) [a,b] [] pos) (λU=>(fa U).bind λx=>(fb U).bind λy=>(asZ x).bind λxs=>(DW y).bind λys=>.ok (DG xs ys)):=
 λA=>PI.weak (oJ hg hm (El (ha A) (El (hb A) FY hs2) (by rw[hs,hs2])) hs hs2) λY H R ⟨hA,U,g,q⟩=>⟨hA,U,g,Er.ex q λd v H1 _ s1 r1 p1=>⟨hA.same s1,U,g.same s1,Er.ex p1 λd2 v2 H2 _ s2 r2 p2=>by
  cases e2:DW d2 with
  |bad=>
   rw[e2]at p2;cases e1:asZ d with
   |bad=>rw[e1]at p2;exact p2.elim
   |exn z=>exact(eG e1).elim
   |ok ds=>rw[e1]at p2;exact p2.elim
  |exn z=>exact absurd e2 (by cases d2<;>simp[DW])
  |ok es=>
   obtain⟨t2,c2,ys,rfl,k2,rs2⟩:=TH r2 e2;rw[e2]at p2;by_cases hd:∃ x,d=.str x
   .obtain⟨x,rfl⟩:=hd;by_cases hx:x.cps.all (· < 128)=Aa
    .have e1:asZ (.str x)=.ok (Ji x):=by rw[Pd,Aq hx]
     rw[e1]at p2;have e:v=V.str x:=r1;subst e;refine .inr ⟨x,t2,c2,ys,rfl,hx,k2 H2 (Kp.of (AG.refl H2)),λhz=>p2 _ H2 (AG.refl H2) (ZW k2 rs2) ?_⟩
     rw[Lq,<-rs2.length];omega
    .have e1:asZ (.str x)=.bad:=by rw[Pd,As hx]
     rw[e1]at p2;exact p2.elim
   .have ea:asZ d=DW d:=by
     cases d<;>first|rfl|exact absurd ⟨_,rfl⟩ hd
    rw[ea]at p2;cases e1:DW d with
    |bad=>rw[e1]at p2;exact p2.elim
    |exn z=>exact absurd e1 (by cases d<;>simp[DW])
    |ok ds=>
     rw[e1]at p2;obtain⟨t1,c1,xs,rfl,k1,rs1⟩:=TH (r1.same s2) e1;refine .inl ⟨t1,t2,c1,c2,xs,ys,rfl,k1 H2 (Kp.of (AG.refl H2)),k2 H2 (Kp.of (AG.refl H2)),λhz=>p2 _ H2 (AG.refl H2) (YV k1 k2 rs1 rs2) ?_⟩
     rw[Lq,<-rs1.length];omega⟩⟩
end
noncomputable def Itd(lo:Ag)(n:Ae):It:=⟨λi _=>i<n,λi H x H'=>H'=H/\x=.int (lo-i),λi _=>n<=i⟩
theorem XJ(it:Ak)(lo:Ag)(n:Ae):Turn P w K tg (Itd lo n) [it] it (λi h=>HJ h it (lo+(i:Ae)*(-1)) ((n:Ag)-(i:Ae)) (-1)) where
  mem:=by simp
  obj:=λi h st b hb=>by
    have e:b=it:=by simpa using hb
    subst e;exact⟨_,st,λv z=>by
      have z':VS _=IX v:=z;cases z'⟩
  keep:=λi h h' st k=>k it (by simp) _ st
  item:=by
    intro X hP hw hK hc i pI s Y H E I hf st hg;subst hP hw hK;obtain⟨f0,f1,f2,f3,f4,f5⟩:=hf it (by simp)
    have W:=W8 (prog:=X.prog) (w:=X.w) (I.ok.hd hc) it lo (-1) n;refine W.item i s _ _ hg st λv h' tk hv st' kk=>?_
    obtain⟨t,rfl⟩:=hv;have I1:Inv X pI Y H {s with heap:=h',toks:=tk}:=I.turned (λb o hb e=>kk b o (by simpa using hb) e) f0 f1 f3 f4 f5
    refine⟨_,rfl,MZ (s:={s with heap:=h',toks:=tk}) (n := "range_iterator") st' rfl rfl (by decide) ⟨.int (lo-i),H,I1,⟨t,?_⟩,⟨rfl,rfl⟩,st',λb hb=>(hf b hb).1⟩⟩
    rw[show lo+(i:Ag)*(-1)=lo-i by omega]
  done:=by
    intro X hP hw hK hc i pI s Y H E I hf st hg;subst hP hw hK;obtain⟨f0,f1,f2,f3,f4,f5⟩:=hf it (by simp)
    exact Xo (I.ok.hd hc) st (by have:n<=i:=hg;omega) λh' eb=>⟨rfl,I.turned (t':=s.toks) (λb o hb e=>eb b o hb e) f0 f1 f3 f4 f5⟩
  self:=λ_ _ _ _ _ st h=>Xm st h
section
variable{X:Cx}{tg:An}
theorem eQ{R:It->Hp->Prop}{E:Vq}{t u v:BV}(I:Inv X pI Y H s)(h1:-(2 ^ 62)<=lo)(h2:lo<2 ^ 62)(h3:-(2 ^ 62)<=hi)(h4:hi<2 ^ 62)(q:R (Itd lo (lo-hi).toNat) H):AB (model X.prog X.w) X.A (J5 (.ref s.heap.objs.size)) (PIE X pI Y tg R) E { s with heap:=s.heap.push { cls:=.type "range",data:=.fields #[.int lo t,.int hi u,.int (-1) v] },toks:=tk }:=by
 refine Xl (WE ..) (PySem.W.small_down h1 h2 h3 h4) ?_;have I1:Inv X pI Y H { s with heap:=s.heap.push { cls:=.type "range",data:=.fields #[.int lo t,.int hi u,.int (-1) v] },toks:=tk }:=I.kept λb o e=>Ar _ e
 refine⟨(s.heap.push { cls:=.type "range",data:=.fields #[.int lo t,.int hi u,.int (-1) v] }).objs.size,[(s.heap.push { cls:=.type "range",data:=.fields #[.int lo t,.int hi u,.int (-1) v] }).objs.size],_,_,H,rfl,
  I1.kept (t':=tk) λb o e=>Ar _ e,XJ _ lo (lo-hi).toNat,?_,λb hb=>?_,q⟩
 .have e1:lo+((0:Ae):Ag)*(-1)=lo:=by simp
  have e2:(((lo-hi).toNat:Ae):Ag)-((0:Ae):Ag)=VN lo hi (-1):=by rw[PySem.W.rangeSize_downNat];simp
  show HJ _ _ (lo+((0:Ae):Ag)*(-1)) ((((lo-hi).toNat:Ae):Ag)-((0:Ae):Ag)) (-1);rw[e1,e2];exact AJ _ rfl
 .have e:b=(s.heap.push { cls:=.type "range",data:=.fields #[.int lo t,.int hi u,.int (-1) v] }).objs.size:=by simpa using hb
  subst e;exact I1.fpOk (Aw _) (I1.hok.fresh (Aw _))
def oB(ta:TA):TI:=λY H R=>ta Y H λvs H1=>∃ i j:Ag,vs=[.int i,.int j,.int (-1)]/\(-(2 ^ 62)<=i/\i<2 ^ 62/\-(2 ^ 62)<=j/\j<2 ^ 62)/\R (Itd i (i-j).toNat) H1
theorem YH{a b:An}(hg:Gl X "range")(hm:X.mg "range" = Af)(ha:PA X [a,b,c] ta)(hs:Ay [a,b,c] X.env=[(Ad,eval a X.env),(Ad,eval b X.env),(Ad,eval c X.env)])(hs2:Ay [b,c] X.env=[(Ad,eval b X.env),(Ad,eval c X.env)]):
  PI X tg (.Call (.Name "range" p) [a,b,c] [] pos) (oB ta):=by
 intro pI s Y H R I h;refine Call_ (JM I hg hm JY (C1 (thn (ha pos pI s Y H _ I h) λus s1 ⟨vs,H1,I1,r1,q1⟩=>?_) (by rw[hs,hs2]) (by rw[hs2];rfl)))
 obtain⟨i,j,e,⟨q1,q2,q3,q4⟩,q⟩:=q1;subst e;cases r1 with
 |cons r rr=>
  cases rr with
  |cons r' rr=>
   cases rr with
   |cons r'' rr=>
    cases rr;obtain⟨t,rfl⟩:=r;obtain⟨t',rfl⟩:=r';obtain⟨t'',rfl⟩:=r'';exact call_range_3 (by decide) (eQ I1 q1 q2 q3 q4 q) (Or.inl (VJ (by decide)))
end
theorem Qg(lo:Ag)(n:Ae):(Gu lo n).length=n:=by simp[Gu]
theorem Zy(h:(Gu lo n)[i]?=Ab d):i<n/\d=.int (lo-i):=by
 unfold Gu at h;rw[Cp]at h;by_cases hi:i<n
 .rw[GA hi]at h;exact⟨hi,(Bh h).symm⟩
 .rw[Va (by simp;omega)]at h
  cases h
section
variable{X:Cx}{CL:ClA}{W:XW}{pos p:AR}{tg a b c:An}{fa fb fc:Rho->R D}
theorem XY(lo:Ag)(n:Ae):Ia K CL A (Gu lo n) (Itd lo n) H:=λH' k i=>by
 refine⟨λh=>by rw[Qg]at h;exact h,λd hd=>?_⟩
 obtain⟨h1,rfl⟩:=Zy hd;exact⟨h1,λx H2 ⟨e,y⟩=>by
  subst e y;exact⟨AG.refl _,λ_ _ _=>rfl⟩⟩
theorem Ye{lo hi c:Ag}{ds:Ac D}(h:GV lo hi c=.ok ds):c=-1/\(-(2 ^ 62)<=lo/\lo<2 ^ 62)/\(-(2 ^ 62)<=hi/\hi<2 ^ 62)/\ds=Gu lo (lo-hi).toNat/\(Gu lo (lo-hi).toNat).length<=sizeLine:=by
 unfold GV at h;split at h
 .rename_i q;cases h;exact⟨q.1,by omega,by omega,rfl,by rw[Qg,B9];omega⟩
 .cases h
theorem Xz{lo hi c:Ag}{x:Ex}(h:GV lo hi c=.exn x):A5:=by
 unfold GV at h;split at h<;>cases h
theorem aI(ha:ST X CL W a fa)(hb:ST X CL W b fb)(hc:ST X CL W c fc)(hg:Gl X "range")(hm:X.mg "range" = Af)(hs:Ay [a,b,c] X.env=[(Ad,eval a X.env),(Ad,eval b X.env),(Ad,eval c X.env)])(hs2:Ay [b,c] X.env=[(Ad,eval b X.env),(Ad,eval c X.env)])(hs3:Ay [c] X.env=[(Ad,eval c X.env)]):
  SI X CL W tg (.Call (.Name "range" p) [a,b,c] [] pos) (λU=>(fa U).bind λx=>(fb U).bind λy=>(fc U).bind λz=>(DR x).bind λi=>(DR y).bind λj=>(DR z).bind λk=>GV i j k):=
 λA=>PI.weak (YH hg hm (El (ha A) (El (hb A) (El (hc A) FY hs3) (by rw[hs2,hs3])) (by rw[hs,hs2])) hs hs2) λY H R ⟨hA,U,g,q⟩=>⟨hA,U,g,Er.ex q λd v H1 _ s1 r1 p1=>⟨hA.same s1,U,g.same s1,Er.ex p1 λd2 v2 H2 _ s2 r2 p2=>⟨(hA.same s1).same s2,U,(g.same s1).same s2,Er.ex p2 λd3 v3 H3 _ s3 r3 p3=>by
  cases d with
  |int i=>
   cases d2 with
   |int j=>
    cases d3 with
    |int k=>
     have e:=r1.int_of;have e':=r2.int_of;have e'':=r3.int_of
     subst e e' e'';have p4:Er X.K CL A W H3 (GV i j k) R:=p3;cases e2:GV i j k with
     |ok ds=>
      rw[e2]at p4;obtain⟨rfl,h1,h2,rfl,hz⟩:=Ye e2;exact⟨i,j,rfl,⟨h1.1,h1.2,h2.1,h2.2⟩,p4 _ H3 (AG.refl H3) (XY _ _) hz⟩
     |exn y=>exact(Xz e2).elim
     |bad=>rw[e2]at p4;exact p4.elim
    |_=>exact p3.elim
   |_=>exact p3.elim
  | _=>exact p3.elim⟩⟩⟩
end
section
variable{prog:AM}{w:AY}{A:AT}{E:Vq}{s:Ap}
end
section
variable{X:Cx}{CL:ClA}{W:XW}{pos p:AR}{a:An}{fa:Rho->R D}
end
noncomputable abbrev UM(h:AD)(z TI TO:Ak)(f0 f1:Aj):Prop:=h.get? z=Ab { cls:=.type "zip",dict:=Af,data:=.fields #[f0,f1,.bool Ad,.ref TI,.ref TO],slots:=#[] }
noncomputable abbrev UN(h:AD)(T:Ak)(a b c:Aj):Prop:=h.get? T=Ab { cls:=.type "tuple",data:=.seq #[a,b,c] }
section
variable{prog:AM}{w:AY}{A:AT}{E:Vq}{s:Ap}
def Z_3(t1 t2 t3:Ai)(I l1 l2 l3 i:Ae)(h:AD):Prop:=UN h (I+3) (.ref (I+0)) (.ref (I+1)) (.ref (I+2))/\GK t1 h (I+0) l1 i/\GK t2 h (I+1) l2 i/\GK t3 h (I+2) l3 i/\(∃ a b c,UN h (I+4) a b c) /\
 (UM h (I+5) (I+3) (I+4) .none (.bool Ad)\/∃(T1:Ae)(f1:Ai),UM h (I+5) (I+3) (I+4) (EY T1) (.bool f1))
end
section
variable{prog:AM}{w:AY}{A:AT}{R:Ih->Ap->Prop}
theorem EN.at'{h2:AD}(z:EN t h l its)(k:∀ o,h.get? l=Ab o->h2.get? l=Ab o):EN t h2 l its:=by
 cases t with
 |true=>exact PySem.Heap.IsTuple.at z k
 |false=>exact PySem.Heap.IsList.at z k
theorem Z_3.at'{t1 t2 t3:Ai}{I l1 l2 l3 i:Ae}{h h2:AD}(z:Z_3 t1 t2 t3 I l1 l2 l3 i h)(k:∀ j,j<=5->∀ o,h.get? (I+j)=Ab o->h2.get? (I+j)=Ab o):Z_3 t1 t2 t3 I l1 l2 l3 i h2:=by
 obtain⟨zI,i1,i2,i3,⟨a,b,c,hO⟩,zz⟩:=z;exact⟨k 3 (by decide) _ zI,i1.at' λo q=>k 0 (by decide) o q,i2.at' λo q=>k 1 (by decide) o q,i3.at' λo q=>k 2 (by decide) o q,⟨a,b,c,k 4 (by decide) _ hO⟩,zz.imp (k 5 (by decide) _) λ⟨T1,f1,hz⟩=>⟨T1,f1,k 5 (by decide) _ hz⟩⟩
end
section
variable{prog:AM}{w:AY}{A:AT}{E:Vq}{s:Ap}
end
theorem Z_3.ty{t3:Ai}{I l1 l2 l3 i:Ae}(z:Z_3 t1 t2 t3 I l1 l2 l3 i s.heap):s.TypeIs (.ref (I+5)) "zip" := by
 obtain⟨_,_,_,_,_,hz|⟨_,_,hz⟩⟩:=z
 .exact⟨_,hz,rfl⟩
 .exact⟨_,hz,rfl⟩
section
variable{prog:AM}{w:AY}{A:AT}{E:Vq}{s:Ap}
end
section
variable{X:Cx}{CL:ClA}{W:XW}{pos p pos' p':AR}{a b c:An}{fa fb fc:Rho->R D}
end
section
variable{X:Cx}{CL:ClA}{W:XW}{pos p tpos:AR}{a b c:An}{fa fb fc:Rho->R D}{x:Ah}
end
section
variable{X:Cx}{CL:ClA}{W:XW}{a:An}{fa:Rho->R D}
end
section
variable{X:Cx}{CL:ClA}{W:XW}{o o' e:An}{fe:Rho->R D}{i j:Ae}{apos cpos apos' cpos' pos:AR}
end
section
variable{X:Cx}{CL:ClA}{W:XW}
end
section
variable{X:Cx}
variable{CL:ClA}{W:XW}{pos p pos' p':AR}{a b:An}{fa fb:Rho->R D}
end
section
variable{X:Cx}{CL:ClA}{W:XW}{e o o' k l:An}{fe:Rho->R Ov.D}{i ik il:Ae}{pos spos spos' tpos:AR}{kt:Ae}
end
section
variable{prog:AM}{w:AY}{A:AT}{E:Vq}{s:Ap}
end
section
variable{X:Cx}{pos:AR}{CL:ClA}
end
section
variable{X:Cx}{CL:ClA}{W:XW}
end
end Ov
namespace Ov
open PySem PyProof.Rows
variable{arr a a':Ax At}{i k n j ja jb lo hi p e d:Ae}{st:AU}{left:Ai}{key x:At}{α:Type}{c:Prop}{m:Ac At}{Q:Ai->AU->Prop}
noncomputable def cB:Ai->At->Ax At->Ae->Ae->Ae->DZ AU Dq (Am Ae):=sortPriv%PySem.Builtin.gallop
noncomputable def Zo:Ax At->Ax At->DZ AU Dq (Ax At):=sortPriv%PySem.Builtin.mergeLo
noncomputable def Zp:Ax At->Ax At->DZ AU Dq (Ax At):=sortPriv%PySem.Builtin.mergeHi
noncomputable def Rj:Ae->DZ AU Dq Ai:=sortPriv%PySem.Builtin.mergeAt
noncomputable def ka0(a:Ax At)(i:Ae):At:=a.getD i (A3,A3)
section
variable{M:Eo}{A:AT}{E:Vq}{s:Ap}{κ:Eh}{V:At->Prop}{lt:At->At->Ai}
def Hx(M:Eo)(A:AT)(s:Ap)(κ:Eh)(V:At->Prop)(lt:At->At->Ai):Prop:=∀(E:Vq)(st:AU)(x y:At)(Q:Am Ai->AU->Prop),kindOf st=κ->V x->V y->Q (Ab (lt x y)) st->Bl M A E s (lt' x y) Q st
structure OrdK (V:At->Prop) (lt:At->At->Ai):Prop where
 asymm:∀ {x y},V x->V y->lt x y=Aa->lt y x=Ad
 trans:∀ {x y z},V x->V y->V z->lt y x=Ad->lt z y=Ad->lt z x=Ad
theorem Dy{Q:At->AU->Prop}(h:i<arr.size)(q:Q (ka0 arr i) st):Bl M A E s (elem' arr i) Q st:=by
 rw[elem'_eq,Array.getElem?_eq_getElem h];refine AA ?_;have e:ka0 arr i=arr[i]:=by simp[ka0,DI,h]
 rw[<-e];exact q
noncomputable def byd(lt:At->At->Ai)(left:Ai)(key x:At):Ai:=if left=Aa then lt x key else !lt key x
theorem gS(C:Hx M A s κ V lt){Q:Am Ai->AU->Prop}(hk:kindOf st=κ)(vk:V key)(h:k<arr.size)(v:V (ka0 arr k))(q:Q (Ab (byd lt left key (ka0 arr k))) st):
  Bl M A E s (do let x <-elem' arr k;if left=Aa then lt' x key else do let r <-lt' key x;pure (VC (λx=>!x) r)) Q st:=by
 refine Au (Dy h ?_);cases left with
 |true=>rw[Aq rfl];exact C _ _ _ _ _ hk v vk q
 |false=>rw[As (by decide)];exact Au (C _ _ _ _ _ hk vk v (AA q))
def KD(B:Ae->Ai)(n k:Ae):Prop:=k<=n/\(∀ i,i<k->B i=Aa)/\∀ i,k<=i->i<n->B i=Ad
theorem JD(C:Hx M A s κ V lt){base hint:Ae}{Q:Am Ae->AU->Prop}(hk:kindOf st=κ)(vk:V key)(hb:base+n<=arr.size)(hv:∀ i,i<n->V (ka0 arr (base+i)))(hh:hint<n)(mono:∀ i j,i<=j->j<n->byd lt left key (ka0 arr (base+j))=Aa->byd lt left key (ka0 arr (base+i))=Aa)(q:∀ k,KD (λi=>byd lt left key (ka0 arr (base+i))) n k->Q (Ab k) st):Bl M A E s (cB left key arr base n hint) Q st:=by
 have up:∀ i j,i<=j->j<n->byd lt left key (ka0 arr (base+i))=Ad->byd lt left key (ka0 arr (base+j))=Ad:=λi j h1 h2 h3=>by
  cases e:byd lt left key (ka0 arr (base+j)) with
  |false=>rfl
  |true=>rw[mono i j h1 h2 e]at h3;cases h3
 have ask:∀(i:Ae)(Q:Am Ai->AU->Prop),i<n->Q (Ab (byd lt left key (ka0 arr (base+i)))) st->Bl M A E s (do let x <-elem' arr (base+i);if left=Aa then lt' x key else do let r <-lt' key x;pure (VC (λx=>!x) r)) Q st:=λi Q h q=>gS C hk vk (by omega) (hv i h) q
 refine Au (ask hint _ hh ?_);dsimp only;by_cases hB:byd lt left key (ka0 arr (base+hint))=Aa
 .rw[Aq hB];refine Au (CA (Q:=λb st'=>st=st'/\∃ l h,l<=h/\h<=n/\(∀ i,i<l->byd lt left key (ka0 arr (base+i))=Aa)/\(∀ i,h<=i->i<n->byd lt left key (ka0 arr (base+i))=Ad)/\b.1=Af/\l=hint+b.2.1+1/\h=hint+min b.2.2 (n-hint)) (BC (λi b st'=>st=st'/\b.1=Af/\b.2.1<b.2.2/\i+1<=b.2.2/\hint+b.2.1<n/\byd lt left key (ka0 arr (base+(hint+b.2.1)))=Aa) (λi b st' _ hi hI=>?_) (λb st' hI=>?_) ⟨rfl,rfl,by decide,by decide,hh,hB⟩) λb st' hP=>?_)
  .obtain⟨rfl,b1,b2,b3,b4,b5⟩:=hI;obtain⟨r,l,o⟩:=b;dsimp only at b1 b2 b3 b4 b5 ⊢;subst b1;by_cases ho:o ≥ n-hint
   .rw[Aq ho];exact AA ⟨rfl,hint+l+1,hint+min o (n-hint),by omega,by omega,λi hi'=>mono i (hint+l) (by omega) b4 b5,λi h1 h2=>by omega,rfl,rfl,rfl⟩
   .rw[As ho];refine Au (ask (hint+o) _ (by omega) ?_)
    dsimp only;cases e:byd lt left key (ka0 arr (base+(hint+o))) with
    |false=>exact AA ⟨rfl,hint+l+1,hint+min o (n-hint),by omega,by omega,λi hi'=>mono i (hint+l) (by omega) b4 b5,λi h1 h2=>up (hint+o) i (by omega) h2 e,rfl,rfl,rfl⟩
    |true=>exact AA ⟨rfl,rfl,by show o<2*o+1;omega,by show i+1+1<=2*o+1;omega,by show hint+o<n;omega,e⟩
  .obtain⟨rfl,b1,b2,b3,b4,b5⟩:=hI;rw[DN]at b3;exact⟨rfl,hint+b.2.1+1,hint+min b.2.2 (n-hint),by omega,by omega,λi hi'=>mono i (hint+b.2.1) (by omega) b4 b5,λi h1 h2=>by omega,b1,rfl,rfl⟩
  obtain⟨rfl,l,h,c1,c2,c3,c4,b1,rfl,rfl⟩:=hP;rw[b1];dsimp only;generalize hint+b.2.1+1=l at *;generalize hint+min b.2.2 (n-hint)=h at *;refine Au (CA (Q:=λb st'=>st=st'/\b.1=Af/\KD (λi=>byd lt left key (ka0 arr (base+i))) n b.2.2) (BC (λi b st'=>st=st'/\b.1=Af/\b.2.1<=b.2.2/\b.2.2<=n/\b.2.2-b.2.1<=n-i/\(∀ i,i<b.2.1->byd lt left key (ka0 arr (base+i))=Aa)/\(∀ i,b.2.2<=i->i<n->byd lt left key (ka0 arr (base+i))=Ad)) (λi b st' _ hi hI=>?_) (λb st' hI=>?_) ⟨rfl,rfl,c1,c2,by show h-l<=n-0;omega,c3,c4⟩) λb st' hP=>?_)
  .obtain⟨rfl,b1,b2,b3,b4,b5,b6⟩:=hI;obtain⟨r,l,h⟩:=b;dsimp only at b1 b2 b3 b4 b5 b6 ⊢;subst b1;by_cases ho:l ≥ h
   .rw[Aq ho];exact AA ⟨rfl,rfl,b3,λi hi'=>b5 i (by show i<l;have:i<h:=hi';omega),b6⟩
   .rw[As ho];refine Au (ask (l+(h-l)/2) _ (by omega) ?_)
    dsimp only;cases e:byd lt left key (ka0 arr (base+(l+(h-l)/2))) with
    |false=>
     rw[As (by decide)]
     exact AA ⟨rfl,rfl,by show l<=l+(h-l)/2;omega,by show l+(h-l)/2<=n;omega,by show l+(h-l)/2-l<=n-(i+1);omega,b5,λi h1 h2=>up (l+(h-l)/2) i h1 h2 e⟩
    |true=>
     rw[Aq rfl];exact AA ⟨rfl,rfl,by show l+(h-l)/2+1<=h;omega,b3,by show h-(l+(h-l)/2+1)<=n-(i+1);omega,λi hi'=>mono i (l+(h-l)/2) (by have:i<l+(h-l)/2+1:=hi';omega) (by omega) e,b6⟩
  .obtain⟨rfl,b1,b2,b3,b4,b5,b6⟩:=hI;rw[DN]at b4;exact⟨rfl,b1,b3,λi hi'=>b5 i (by omega),b6⟩
  obtain⟨rfl,b1,b2⟩:=hP;rw[b1];exact AA (q _ b2)
 .have hB':byd lt left key (ka0 arr (base+hint))=Ad:=by cases e:byd lt left key (ka0 arr (base+hint)) with|false=>rfl|true=>exact absurd e hB
  rw[As hB];refine Au (CA (Q:=λb st'=>st=st'/\∃ l h,l<=h/\h<=n/\(∀ i,i<l->byd lt left key (ka0 arr (base+i))=Aa)/\(∀ i,h<=i->i<n->byd lt left key (ka0 arr (base+i))=Ad)/\b.1=Af/\l=hint+1-min b.2.2 (hint+1)/\h=hint-b.2.1) (BC (λi b st'=>st=st'/\b.1=Af/\b.2.1<b.2.2/\i+1<=b.2.2/\b.2.1<=hint/\byd lt left key (ka0 arr (base+(hint-b.2.1)))=Ad) (λi b st' _ hi hI=>?_) (λb st' hI=>?_) ⟨rfl,rfl,by decide,by decide,CH _,hB'⟩) λb st' hP=>?_)
  .obtain⟨rfl,b1,b2,b3,b4,b5⟩:=hI;obtain⟨r,l,o⟩:=b;dsimp only at b1 b2 b3 b4 b5 ⊢;subst b1;by_cases ho:o ≥ hint+1
   .rw[Aq ho];exact AA ⟨rfl,hint+1-min o (hint+1),hint-l,by omega,by omega,λi hi'=>by omega,λi h1 h2=>up (hint-l) i h1 h2 b5,rfl,rfl,rfl⟩
   .rw[As ho];refine Au (ask (hint-o) _ (by omega) ?_)
    dsimp only;cases e:byd lt left key (ka0 arr (base+(hint-o))) with
    |true=>
     rw[Aq rfl];exact AA ⟨rfl,hint+1-min o (hint+1),hint-l,by omega,by omega,λi hi'=>mono i (hint-o) (by omega) (by omega) e,λi h1 h2=>up (hint-l) i h1 h2 b5,rfl,rfl,rfl⟩
    |false=>
     rw[As (by decide)]
     exact AA ⟨rfl,rfl,by show o<2*o+1;omega,by show i+1+1<=2*o+1;omega,by show o<=hint;omega,e⟩
  .obtain⟨rfl,b1,b2,b3,b4,b5⟩:=hI;rw[DN]at b3;exact⟨rfl,hint+1-min b.2.2 (hint+1),hint-b.2.1,by omega,by omega,λi hi'=>by omega,λi h1 h2=>up (hint-b.2.1) i h1 h2 b5,b1,rfl,rfl⟩
  obtain⟨rfl,l,h,c1,c2,c3,c4,b1,rfl,rfl⟩:=hP;rw[b1];dsimp only;generalize hint+1-min b.2.2 (hint+1)=l at *;generalize hint-b.2.1=h at *;refine Au (CA (Q:=λb st'=>st=st'/\b.1=Af/\KD (λi=>byd lt left key (ka0 arr (base+i))) n b.2.2) (BC (λi b st'=>st=st'/\b.1=Af/\b.2.1<=b.2.2/\b.2.2<=n/\b.2.2-b.2.1<=n-i/\(∀ i,i<b.2.1->byd lt left key (ka0 arr (base+i))=Aa)/\(∀ i,b.2.2<=i->i<n->byd lt left key (ka0 arr (base+i))=Ad)) (λi b st' _ hi hI=>?_) (λb st' hI=>?_) ⟨rfl,rfl,c1,c2,by show h-l<=n-0;omega,c3,c4⟩) λb st' hP=>?_)
  .obtain⟨rfl,b1,b2,b3,b4,b5,b6⟩:=hI;obtain⟨r,l,h⟩:=b;dsimp only at b1 b2 b3 b4 b5 b6 ⊢;subst b1;by_cases ho:l ≥ h
   .rw[Aq ho];exact AA ⟨rfl,rfl,b3,λi hi'=>b5 i (by show i<l;have:i<h:=hi';omega),b6⟩
   .rw[As ho];refine Au (ask (l+(h-l)/2) _ (by omega) ?_)
    dsimp only;cases e:byd lt left key (ka0 arr (base+(l+(h-l)/2))) with
    |false=>
     rw[As (by decide)]
     exact AA ⟨rfl,rfl,by show l<=l+(h-l)/2;omega,by show l+(h-l)/2<=n;omega,by show l+(h-l)/2-l<=n-(i+1);omega,b5,λi h1 h2=>up (l+(h-l)/2) i h1 h2 e⟩
    |true=>
     rw[Aq rfl];exact AA ⟨rfl,rfl,by show l+(h-l)/2+1<=h;omega,b3,by show h-(l+(h-l)/2+1)<=n-(i+1);omega,λi hi'=>mono i (l+(h-l)/2) (by have:i<l+(h-l)/2+1:=hi';omega) (by omega) e,b6⟩
  .obtain⟨rfl,b1,b2,b3,b4,b5,b6⟩:=hI;rw[DN]at b4;exact⟨rfl,b1,b3,λi hi'=>b5 i (by omega),b6⟩
  obtain⟨rfl,b1,b2⟩:=hP;rw[b1];exact AA (q _ b2)
end
section
variable{V:At->Prop}{lt:At->At->Ai}{T out A B:Ac At}
def leK(lt:At->At->Ai)(x y:At):Prop:=lt y x=Ad
structure MI (lt:At->At->Ai) (T out A B:Ac At):Prop where
 pm:(out++(A++B)).Perm T
 sa:(out++A).Pairwise (leK lt)
 sb:(out++B).Pairwise (leK lt)
def SPk(lt:At->At->Ai)(T r:Ac At):Prop:=r.Perm T/\r.Pairwise (leK lt)
theorem MI.mvA(O:OrdK V lt)(hv:∀ x∈T,V x){A1 A2 B':Ac At}{y:At}(h:MI lt T out (A1++A2) (y::B'))(hy:∀ x∈A1,leK lt x y):MI lt T (out++A1) A2 (y::B'):=by
 have vm:∀ x,x∈out++((A1++A2)++(y::B'))->V x:=λx hx=>hv x (h.pm.mem_iff.mp hx)
 refine⟨by rw[Cc,<-Cc A1];exact h.pm,by rw[Cc];exact h.sa,?_⟩
 obtain⟨s1,s2,s3⟩:=D6.mp h.sa;obtain⟨t1,t2,t3⟩:=D6.mp h.sb;obtain⟨u1,u2,u3⟩:=D6.mp s2;rw[Cc];refine D6.mpr ⟨s1,D6.mpr ⟨u1,t2,λx hx z hz=>?_⟩,λx hx z hz=>?_⟩
 .rcases AI.mp hz with rfl|hz
  .exact hy x hx
  .exact O.trans (vm x (by simp[hx])) (vm y (by simp)) (vm z (by simp[hz])) (hy x hx) ((DM.mp t2).1 z hz)
 .rcases Ce.mp hz with hz|hz
  .exact s3 x hx z (EQ _ hz)
  .exact t3 x hx z hz
theorem MI.swap(h:MI lt T out A B):MI lt T out B A:=⟨(List.Perm.append_left out List.perm_append_comm).trans h.pm,h.sb,h.sa⟩
theorem MI.mvB(O:OrdK V lt)(hv:∀ x∈T,V x){B1 B2 A':Ac At}(h:MI lt T out (x::A') (B1++B2))(hx:∀ y∈B1,leK lt y x):MI lt T (out++B1) (x::A') B2:=(h.swap.mvA O hv hx).swap
theorem MI.endB(h:MI lt T out A []):SPk lt T (out++A):=⟨by have:=h.pm;rwa [Bo]at this,h.sa⟩
theorem MI.endA(h:MI lt T out [] B):SPk lt T (out++B):=h.swap.endB
theorem MI.end1(O:OrdK V lt)(hv:∀ x∈T,V x)(h:MI lt T out [x] B)(hx:∀ y∈B,leK lt y x):SPk lt T (out++B++[x]):=by
 have h':MI lt T out [x] (B++[]):=by rw[Bo];exact h
 exact(h'.mvB O hv hx).endB
end
section
variable{M:Eo}{A:AT}{E:Vq}{s:Ap}{κ:Eh}{V:At->Prop}{lt:At->At->Ai}
theorem Kn{r:CD}{Q:Io->AU->Prop}(q:Q ⟨⟩ st):Bl M A E s (liftM (rule r):DZ AU Dq Io) Q st:=by
 unfold Bl;show AB M A ((StateT.lift (rule r):DZ AU Dq Io).run st) _ E s;rw[StateT.run_lift];exact Ao (Iy (AK ⟨rfl,q⟩))
def Fh(κ:Eh)(st st':AU):Prop:=kindOf st'=κ/\Av st'=Av st/\Bi st'=Bi st/\DD st'=DD st
theorem GW(h:i<a.size):a.toList.drop i=ka0 a i::a.toList.drop (i+1):=by
 have e:ka0 a i=a[i]:=by simp[ka0,DI,h]
 rw[e,<-CJ];exact By (by rw[AF];exact h)
theorem Kt(a:Ax At)(i:Ae):(a.extract i a.size).toList=a.toList.drop i:=by
 rw[CK,Ca,FL];rw[Ef,AF];exact Aw _
theorem O2(a:Ax At)(i k:Ae):(a.extract i (i+k)).toList=(a.toList.drop i).take k:=by
 rw[CK,Ca]
 congr 1
 omega
end
section
variable{M:Eo}{A:AT}{E:Vq}{s:Ap}{κ:Eh}{V:At->Prop}{lt:At->At->Ai}
theorem Gp[Ez c]{m1 m2:DZ AU Dq α}{Q:α->AU->Prop}(h1:Bl M A E s m1 Q st)(h2:Bl M A E s m2 Q st):Bl M A E s (if c then m1 else m2) Q st:=by
 split<;>assumption
theorem RC[Ez c]{f:Ae->DZ AU Dq α}{u v:Ae}{Q:α->AU->Prop}(h:∀ x,Bl M A E s (f x) Q st):Bl M A E s (if c then f u else f v) Q st:=Gp (h _) (h _)
structure LI (lt:At->At->Ai) (a b:Ax At) (out:Ax At) (ia ib:Ae):Prop where
 la:ia+1<a.size
 lb:ib<b.size
 mi:MI lt (a.toList++b.toList) out.toList (a.toList.drop ia) (b.toList.drop ib)
 sz:out.size=ia+ib
structure Pre (V:At->Prop) (lt:At->At->Ai) (a b:Ax At):Prop where
 va:∀ x∈a.toList,V x
 vb:∀ x∈b.toList,V x
 sa:a.toList.Pairwise (leK lt)
 sb:b.toList.Pairwise (leK lt)
 pa:0<a.size
 pb:0<b.size
 fst:∀ x∈a.toList,leK lt (ka0 b 0) x
 lst:∀ y∈b.toList,leK lt y (ka0 a (a.size-1))
variable{a b out:Ax At}{ia ib:Ae}
theorem Pre.v(P:Pre V lt a b):∀ x∈a.toList++b.toList,V x:=λx hx=>(Ce.mp hx).elim (P.va x) (P.vb x)
theorem HS(h:i<a.size):ka0 a i∈a.toList:=by
 have e:ka0 a i=a[i]:=by simp[ka0,DI,h]
 rw[e];exact Array.mem_toList_iff.mpr (Array.getElem_mem h)
theorem T7(h:a.toList.Pairwise (leK lt))(hij:i<j)(hj:j<a.size):leK lt (ka0 a i) (ka0 a j):=by
 have e1:ka0 a i=a[i]:=by simp[ka0,DI,Vu hij hj]
 have e2:ka0 a j=a[j]:=by simp[ka0,DI,hj]
 rw[e1,e2,<-CJ,<-CJ];exact(Cv.mp h) i j _ _ hij
theorem LI.pushB(O:OrdK V lt)(P:Pre V lt a b)(h:LI lt a b out ia ib)(hc:leK lt (ka0 b ib) (ka0 a ia)):MI lt (a.toList++b.toList) (out.push (ka0 b ib)).toList (a.toList.drop ia) (b.toList.drop (ib+1)):=by
 have m:=h.mi;have e:=GW (a:=a) (i:=ia) (by have:=h.la;omega)
 rw[GW h.lb]at m;rw[Du];rw[e]at m ⊢;exact m.mvB (B1:=[ka0 b ib]) O P.v (λy hy=>by rw[Bk.mp hy];exact hc)
theorem LI.pushA(O:OrdK V lt)(P:Pre V lt a b)(h:LI lt a b out ia ib)(hc:leK lt (ka0 a ia) (ka0 b ib)):MI lt (a.toList++b.toList) (out.push (ka0 a ia)).toList (a.toList.drop (ia+1)) (b.toList.drop ib):=by
 have m:=h.mi;have e:=GW h.lb;rw[GW (a:=a) (i:=ia) (by have:=h.la;omega)]at m
 rw[Du];rw[e]at m ⊢;exact m.mvA (A1:=[ka0 a ia]) O P.v (λy hy=>by rw[Bk.mp hy];exact hc)
theorem MI.pB(O:OrdK V lt)(P:Pre V lt a b)(m:MI lt (a.toList++b.toList) out.toList (a.toList.drop ja) (b.toList.drop jb))(ha:ja<a.size)(hb:jb<b.size)(hc:leK lt (ka0 b jb) (ka0 a ja)):MI lt (a.toList++b.toList) (out.push (ka0 b jb)).toList (a.toList.drop ja) (b.toList.drop (jb+1)):=by
 have e:=GW ha;rw[GW hb]at m;rw[Du];rw[e]at m ⊢;exact m.mvB (B1:=[ka0 b jb]) O P.v (λy hy=>by rw[Bk.mp hy];exact hc)
theorem MI.pA(O:OrdK V lt)(P:Pre V lt a b)(m:MI lt (a.toList++b.toList) out.toList (a.toList.drop ja) (b.toList.drop jb))(ha:ja<a.size)(hb:jb<b.size)(hc:leK lt (ka0 a ja) (ka0 b jb)):MI lt (a.toList++b.toList) (out.push (ka0 a ja)).toList (a.toList.drop (ja+1)) (b.toList.drop jb):=by
 have e:=GW hb;rw[GW ha]at m;rw[Du];rw[e]at m ⊢;exact m.mvA (A1:=[ka0 a ja]) O P.v (λy hy=>by rw[Bk.mp hy];exact hc)
theorem OI(o a:Ax At)(h:j+k<=a.size):(o++a.extract j (j+k)).size=o.size+k:=by
 rw[Fw,Ey];omega
theorem Mh(h:x∈(a.toList.drop j).take k):∃ i,i<k/\j+i<a.size/\x=ka0 a (j+i):=by
 obtain⟨i,hi,rfl⟩:=Em h;rw[C9,Ef,AF]at hi;refine⟨i,by omega,by omega,?_⟩
 rw[List.getElem_take,List.getElem_drop,CJ];simp[ka0,DI,show j+i<a.size by omega]
theorem MI.chA(O:OrdK V lt)(P:Pre V lt a b)(m:MI lt (a.toList++b.toList) out.toList (a.toList.drop ja) (b.toList.drop jb))(hb:jb<b.size)(hc:∀ i,i<k->ja+i<a.size->leK lt (ka0 a (ja+i)) (ka0 b jb)):MI lt (a.toList++b.toList) (out++a.extract ja (ja+k)).toList (a.toList.drop (ja+k)) (b.toList.drop jb):=by
 rw[A9,O2];have e:=GW hb;rw[e]at m ⊢;rw[show a.toList.drop (ja+k)=(a.toList.drop ja).drop k from (Ie ..).symm]
 refine MI.mvA O P.v (by rw[DS];exact m) λx hx=>?_
 obtain⟨i,h1,h2,rfl⟩:=Mh hx;exact hc i h1 h2
theorem MI.chB(O:OrdK V lt)(P:Pre V lt a b)(m:MI lt (a.toList++b.toList) out.toList (a.toList.drop ja) (b.toList.drop jb))(ha:ja<a.size)(hc:∀ i,i<k->jb+i<b.size->leK lt (ka0 b (jb+i)) (ka0 a ja)):MI lt (a.toList++b.toList) (out++b.extract jb (jb+k)).toList (a.toList.drop ja) (b.toList.drop (jb+k)):=by
 rw[A9,O2];have e:=GW ha;rw[e]at m ⊢;rw[show b.toList.drop (jb+k)=(b.toList.drop jb).drop k from (Ie ..).symm]
 refine MI.mvB O P.v (by rw[DS];exact m) λx hx=>?_
 obtain⟨i,h1,h2,rfl⟩:=Mh hx;exact hc i h1 h2
theorem Tw(O:OrdK V lt)(va:∀ x∈a.toList,V x)(sa:a.toList.Pairwise (leK lt))(vk:V key)(i k:Ae)(h:i<=k)(hk:j+k<a.size)(hb:byd lt Ad key (ka0 a (j+k))=Aa):byd lt Ad key (ka0 a (j+i))=Aa:=by
 by_cases e:i=k
 .rw[e];exact hb
 .have l:=T7 sa (i:=j+i) (j:=j+k) (by omega) hk
  have hb':lt key (ka0 a (j+k))=Ad:=by simpa [byd] using hb
  have:=O.trans (va _ (HS (by omega))) (va _ (HS hk)) vk l hb'
  simpa [byd] using this
theorem OK(O:OrdK V lt)(va:∀ x∈a.toList,V x)(sa:a.toList.Pairwise (leK lt))(vk:V key)(i k:Ae)(h:i<=k)(hk:j+k<a.size)(hb:byd lt Aa key (ka0 a (j+k))=Aa):byd lt Aa key (ka0 a (j+i))=Aa:=by
 by_cases e:i=k
 .rw[e];exact hb
 .have l:=T7 sa (i:=j+i) (j:=j+k) (by omega) hk
  have hb':lt (ka0 a (j+k)) key=Aa:=by simpa [byd] using hb
  show byd lt Aa key (ka0 a (j+i))=Aa;cases q:lt (ka0 a (j+i)) key with
  |true=>simpa [byd] using q
  |false=>
   have:=O.trans vk (va _ (HS (show j+i<a.size by omega))) (va _ (HS hk)) q l
   rw[this]at hb';cases hb'
theorem Pk(h:KD (λi=>byd lt Ad key (ka0 a (j+i))) n k):k<=n/\(∀ i,i<k->leK lt (ka0 a (j+i)) key)/\∀ i,k<=i->i<n->lt key (ka0 a (j+i))=Aa:=⟨h.1,λi hi=>by have:=h.2.1 i hi;simpa [byd,leK] using this,λi h1 h2=>by have:=h.2.2 i h1 h2;simpa [byd,leK] using this⟩
theorem MQ(h:KD (λi=>byd lt Aa key (ka0 a (j+i))) n k):k<=n/\(∀ i,i<k->lt (ka0 a (j+i)) key=Aa)/\∀ i,k<=i->i<n->leK lt key (ka0 a (j+i)):=⟨h.1,λi hi=>by have:=h.2.1 i hi;simpa [byd,leK] using this,λi h1 h2=>by have:=h.2.2 i h1 h2;simpa [byd,leK] using this⟩
theorem Kv{a b out:Ax At}{ia:Ae}(m:MI lt (a.toList++b.toList) out.toList (a.toList.drop ia) (b.toList.drop b.size)):SPk lt (a.toList++b.toList) (out++a.extract ia a.size++b.extract b.size b.size).toList:=by
 rw[A9,A9,Kt,Kt];have e:b.toList.drop b.size=[]:=DJ (by rw[AF];exact Aw _)
 rw[e]at m ⊢;rw[Bo];exact m.endB
theorem Zf{a b out:Ax At}{ib:Ae}(m:MI lt (a.toList++b.toList) out.toList (a.toList.drop a.size) (b.toList.drop ib)):SPk lt (a.toList++b.toList) (out++a.extract a.size a.size++b.extract ib b.size).toList:=by
 rw[A9,A9,Kt,Kt];have e:a.toList.drop a.size=[]:=DJ (by rw[AF];exact Aw _)
 rw[e]at m ⊢;rw[Bo];exact m.endA
theorem JJ(O:OrdK V lt)(P:Pre V lt a b)(e:ia+1=a.size)(m:MI lt (a.toList++b.toList) out.toList (a.toList.drop ia) (b.toList.drop ib)):SPk lt (a.toList++b.toList) (out++b.extract ib b.size++a.extract ia a.size).toList:=by
 rw[A9,A9,Kt,Kt];have e1:a.toList.drop ia=[ka0 a ia]:=by
  rw[GW (by omega),e,DJ (by rw[AF];exact Aw _)]
 rw[e1]at m ⊢;refine m.end1 O P.v λy hy=>?_
 have:=P.lst y (Vk hy)
 rwa [show a.size-1=ia by omega]at this
theorem X6(C:Hx M A s κ V lt)(O:OrdK V lt)(P:Pre V lt a b){Q:Ax At->AU->Prop}(hk:kindOf st=κ)(q:∀ r st',SPk lt (a.toList++b.toList) r.toList->Fh κ st st'->Q r st'):Bl M A E s (Zo a b) Q st:=by
 have ss0:Fh κ st st:=⟨hk,rfl,rfl,rfl⟩;have vA:∀ {i},i<a.size->V (ka0 a i):=λh=>P.va _ (HS h)
 have vB:∀ {i},i<b.size->V (ka0 b i):=λh=>P.vb _ (HS h)
 have m0:MI lt (a.toList++b.toList) (#[ka0 b 0]:Ax At).toList (a.toList.drop 0) (b.toList.drop 1):=by
  have e:=GW P.pb;rw[Ec]at e;rw[Ec];refine⟨?_,DM.mpr ⟨λx hx=>P.fst x hx,P.sa⟩,by have:=P.sb;rw[e]at this;exact this⟩
  have pm:(ka0 b 0::(a.toList++b.toList.drop 1)).Perm (a.toList++(ka0 b 0::b.toList.drop (0+1))):=List.perm_middle.symm;rw[<-e]at pm;exact pm
 refine Au (Kn ?_);refine Au (Dy P.pb ?_)
 extract_lets out0 ia0 ib0
 by_cases h1:(ib0==b.size)=Aa
 .rw[Aq h1];have e1:1=b.size:=by simpa [ib0] using h1
  refine AA (q _ _ ?_ ss0);show SPk lt _ (#[ka0 b 0]++a.extract 0 a.size++b.extract 1 b.size).toList;rw[e1];rw[e1]at m0;exact Kv m0
 rw[As h1];by_cases h2:(ia0+1==a.size)=Aa
 .rw[Aq h2];have e2:0+1=a.size:=by simpa [ia0] using h2
  exact AA (q _ _ (JJ O P e2 m0) ss0)
 rw[As h2];have b1:1<b.size:=by
  have n1:¬ 1=b.size:=by simpa [ib0] using h1
  have:=P.pb;omega
 have a1:0+1<a.size:=by
  have n1:¬ 0+1=a.size:=by simpa [ia0] using h2
  have:=P.pa;omega
 refine Au (Fm ?_)
 extract_lets mg0
 refine Au (CA (Q:=λx st'=>Fh κ st st'/\∃ r,x.1=Ab r/\SPk lt (a.toList++b.toList) r.toList) (BC (λi x st'=>Fh κ st st'/\x.1=Af/\LI lt a b x.2.1 x.2.2.1 x.2.2.2.1/\i+1<=x.2.1.size) (λi x st' _ hi hI=>?_) (λx st' hI=>?_) ⟨ss0,rfl,⟨a1,b1,m0,rfl⟩,Aw _⟩) λx st' hP=>?_)
 .obtain⟨ss,hx,li,hsz⟩:=hI;obtain⟨x1,out,ia,ib,mg⟩:=x;have li:LI lt a b out ia ib:=li;have hsz:i+1<=out.size:=hsz;have ht:0<a.size+b.size:=by omega
  try extract_lets
  refine Au (CA (Q:=λy st''=>Fh κ st st''/\((y.1=Af/\LI lt a b y.2.1 y.2.2.1 y.2.2.2.1/\out.size+1<=y.2.1.size)\/∃ r,y.1=Ab r/\SPk lt (a.toList++b.toList) r.toList)) (BC (λj y st''=>Fh κ st st''/\y.1=Af/\LI lt a b y.2.1 y.2.2.1 y.2.2.2.1/\out.size+j<=y.2.1.size) (λj y st'' _ hj hJ=>?_) (λy st'' hJ=>?_) ⟨ss,rfl,li,Aw _⟩) λy st'' hP=>?_)
  .obtain⟨ss1,hy,l1,hs1⟩:=hJ;obtain⟨y1,o,ja,jb,ac,bc⟩:=y;have l1:LI lt a b o ja jb:=l1;have hs1:out.size+j<=o.size:=hs1;have la:=l1.la;have lb:=l1.lb;have lja:ja<a.size:=by omega
   try extract_lets
   refine Au (Dy lb ?_);refine Au (Dy lja ?_);refine Au (C _ _ _ _ _ ss1.1 (vB lb) (vA (by omega)) ?_)
   show Bl M A E s (if lt (ka0 b jb) (ka0 a ja)=Aa then _ else _) _ _
   by_cases e:lt (ka0 b jb) (ka0 a ja)=Aa
   .rw[Aq e];refine Au (Dy lb ?_);have m:=l1.pushB O P (O.asymm (vB lb) (vA (by omega)) e)
    try extract_lets
    show Bl M A E s (if (jb+1==b.size)=Aa then _ else _) _ _
    by_cases hb:(jb+1==b.size)=Aa
    .rw[Aq hb];have e1:jb+1=b.size:=by simpa using hb
     refine AA ⟨ss1,.inr ⟨_,rfl,?_⟩⟩;show SPk lt _ (o.push (ka0 b jb)++a.extract ja a.size++b.extract (jb+1) b.size).toList;rw[e1]at m ⊢;exact Kv m
    .rw[As hb];have e1:¬ jb+1=b.size:=by simpa using hb
     have li':LI lt a b (o.push (ka0 b jb)) ja (jb+1):=⟨la,by omega,m,by rw[BE,l1.sz];omega⟩
     have sz':(o.push (ka0 b jb)).size=o.size+1:=BE ..;refine Gp ?_ ?_
     .exact AA ⟨ss1,.inl ⟨rfl,li',by show out.size+1<=(o.push (ka0 b jb)).size;omega⟩⟩
     .exact AA ⟨ss1,rfl,li',by show out.size+(j+1)<=(o.push (ka0 b jb)).size;omega⟩
   .rw[As e];refine Au (Dy lja ?_);have m:=l1.pushA O P (show lt (ka0 b jb) (ka0 a ja)=Ad by simpa using e)
    try extract_lets
    show Bl M A E s (if (ja+1+1==a.size)=Aa then _ else _) _ _
    by_cases hb:(ja+1+1==a.size)=Aa
    .rw[Aq hb];have e1:ja+1+1=a.size:=by simpa using hb
     exact AA ⟨ss1,.inr ⟨_,rfl,JJ O P e1 m⟩⟩
    .rw[As hb];have e1:¬ ja+1+1=a.size:=by simpa using hb
     have li':LI lt a b (o.push (ka0 a ja)) (ja+1) jb:=⟨by omega,lb,m,by rw[BE,l1.sz];omega⟩
     have sz':(o.push (ka0 a ja)).size=o.size+1:=BE ..;refine Gp ?_ ?_
     .exact AA ⟨ss1,.inl ⟨rfl,li',by show out.size+1<=(o.push (ka0 a ja)).size;omega⟩⟩
     .exact AA ⟨ss1,rfl,li',by show out.size+(j+1)<=(o.push (ka0 a ja)).size;omega⟩
  .obtain⟨ss1,hy,l1,hs1⟩:=hJ;rw[DN]at hs1;exact⟨ss1,.inl ⟨hy,l1,by omega⟩⟩
  .obtain⟨ss1,hP⟩:=hP;obtain⟨y1,o,ja,jb,ac,bc⟩:=y;rcases hP with ⟨hy,l1,hs1⟩|⟨r,hy,sp⟩
   .have hy:y1=Af:=hy;have l1:LI lt a b o ja jb:=l1;have hs1:out.size+1<=o.size:=hs1;subst hy
    try extract_lets
    refine Au (Kn ?_)
    extract_lets mg1
    refine Au (CA (Q:=λy st3=>Fh κ st st3/\((y.1=Af/\LI lt a b y.2.1 y.2.2.1 y.2.2.2.1/\out.size+1<=y.2.1.size)\/∃ r,y.1=Ab r/\SPk lt (a.toList++b.toList) r.toList)) (BC (λj y st3=>Fh κ st st3/\y.1=Af/\LI lt a b y.2.1 y.2.2.1 y.2.2.2.1/\out.size+1<=y.2.1.size) (λj y st3 _ hj hJ=>?_) (λy st3 hJ=>⟨hJ.1,.inl hJ.2⟩) ⟨ss1,rfl,l1,hs1⟩) λy st3 hP=>?_)
    .obtain⟨ss2,hy,l2,hs2⟩:=hJ;obtain⟨y1,o,ja,jb,mg2,ac,bc⟩:=y;have l2:LI lt a b o ja jb:=l2;have hs2:out.size+1<=o.size:=hs2;have la:=l2.la;have lb:=l2.lb;have lja:ja<a.size:=by omega
     try extract_lets
     refine RC λmg3=>?_
     refine Au (D7 ?_);refine Au (Dy lb ?_);refine Au (JD C ss2.1 (vB lb) (show ja+(a.size-ja)<=a.size by omega) (λi hi=>vA (by omega)) (show 0<a.size-ja by omega) (λi k h1 h2 h3=>Tw O P.va P.sa (vB lb) i k h1 (by omega) h3) λk hk=>?_)
     obtain⟨k1,k2,k3⟩:=Pk hk;have k1:k<=a.size-ja:=k1;have k2:∀ i,i<k->leK lt (ka0 a (ja+i)) (ka0 b jb):=k2;have k3:∀ i,k<=i->i<a.size-ja->lt (ka0 b jb) (ka0 a (ja+i))=Aa:=k3;have m1:=l2.mi.chA O P (k:=k) lb λi hi _=>k2 i hi
     try extract_lets
     show Bl M A E s (if k>0 then _ else _) _ _
     by_cases hk0:k>0
     .rw[Aq hk0];have z1:=OI o a (show ja+k<=a.size by omega)
      try extract_lets
      show Bl M A E s (if (ja+k+1==a.size)=Aa then _ else if (ja+k==a.size)=Aa then _ else _) _ _
      by_cases c1:(ja+k+1==a.size)=Aa
      .rw[Aq c1];exact AA ⟨ss2,.inr ⟨_,rfl,JJ O P (by simpa using c1) m1⟩⟩
      rw[As c1];by_cases c2:(ja+k==a.size)=Aa
      .rw[Aq c2];have e2:ja+k=a.size:=by simpa using c2
       refine AA ⟨ss2,.inr ⟨_,rfl,?_⟩⟩;show SPk lt _ (o++a.extract ja (ja+k)++a.extract (ja+k) a.size++b.extract jb b.size).toList;rw[e2]at m1 ⊢;exact Zf m1
      rw[As c2];have c1:¬ ja+k+1=a.size:=by simpa using c1
      have c2:¬ ja+k=a.size:=by simpa using c2
      have lt2:=k3 k (Aw _) (by omega)
      have sz2:=l2.sz;refine Au (Dy lb ?_);have m2:=MI.pB O P m1 (by omega) lb (O.asymm (vB lb) (vA (by omega)) lt2)
      have z2:((o++a.extract ja (ja+k)).push (ka0 b jb)).size=(o++a.extract ja (ja+k)).size+1:=BE ..
      try extract_lets
      show Bl M A E s (if (jb+1==b.size)=Aa then _ else _) _ _
      by_cases c3:(jb+1==b.size)=Aa
      .rw[Aq c3];have e3:jb+1=b.size:=by simpa using c3
       refine AA ⟨ss2,.inr ⟨_,rfl,?_⟩⟩;show SPk lt _ (((o++a.extract ja (ja+k)).push (ka0 b jb))++a.extract (ja+k) a.size++b.extract (jb+1) b.size).toList;rw[e3]at m2 ⊢;exact Kv m2
      rw[As c3];have c3:¬ jb+1=b.size:=by simpa using c3
      have lb2:jb+1<b.size:=by omega
      have lj2:ja+k<a.size:=by omega
      refine Au (Dy lj2 ?_);refine Au (JD C ss2.1 (vA lj2) (show jb+1+(b.size-(jb+1))<=b.size by omega) (λi hi=>vB (by omega)) (show 0<b.size-(jb+1) by omega) (λi k h1 h2 h3=>OK O P.vb P.sb (vA lj2) i k h1 (by omega) h3) λkk hkk=>?_)
      obtain⟨q1,q2,q3⟩:=MQ hkk;have q1:kk<=b.size-(jb+1):=q1;have q2:∀ i,i<kk->lt (ka0 b (jb+1+i)) (ka0 a (ja+k))=Aa:=q2;have q3:∀ i,kk<=i->i<b.size-(jb+1)->leK lt (ka0 a (ja+k)) (ka0 b (jb+1+i)):=q3
      try extract_lets
      show Bl M A E s (if kk>0 then _ else _) _ _
      by_cases hk1:kk>0
      .rw[Aq hk1];have m3:=MI.chB O P (k:=kk) m2 lj2 λi hi h'=>O.asymm (vB h') (vA lj2) (q2 i hi)
       have z3:=OI ((o++a.extract ja (ja+k)).push (ka0 b jb)) b (show jb+1+kk<=b.size by omega)
       try extract_lets
       show Bl M A E s (if (jb+1+kk==b.size)=Aa then _ else _) _ _
       by_cases c4:(jb+1+kk==b.size)=Aa
       .rw[Aq c4];have e4:jb+1+kk=b.size:=by simpa using c4
        refine AA ⟨ss2,.inr ⟨_,rfl,?_⟩⟩;show SPk lt _ (((o++a.extract ja (ja+k)).push (ka0 b jb))++b.extract (jb+1) (jb+1+kk)++a.extract (ja+k) a.size++b.extract (jb+1+kk) b.size).toList;rw[e4]at m3 ⊢;exact Kv m3
       rw[As c4];have c4:¬ jb+1+kk=b.size:=by simpa using c4
       have lb3:jb+1+kk<b.size:=by omega
       have lt3:=q3 kk (Aw _) (by omega)
       refine Au (Dy (show ja+k<a.size by omega) ?_)
       have m4:=MI.pA O P m3 (by omega) lb3 lt3
       have z4:((((o++a.extract ja (ja+k)).push (ka0 b jb))++b.extract (jb+1) (jb+1+kk)).push (ka0 a (ja+k))).size=(((o++a.extract ja (ja+k)).push (ka0 b jb))++b.extract (jb+1) (jb+1+kk)).size+1:=BE ..
       try extract_lets
       show Bl M A E s (if (ja+k+1+1==a.size)=Aa then _ else _) _ _
       by_cases d1:(ja+k+1+1==a.size)=Aa
       .rw[Aq d1];exact AA ⟨ss2,.inr ⟨_,rfl,JJ O P (by simpa using d1) m4⟩⟩
       .rw[As d1];have d1:¬ ja+k+1+1=a.size:=by simpa using d1
        have l4:LI lt a b ((((o++a.extract ja (ja+k)).push (ka0 b jb))++b.extract (jb+1) (jb+1+kk)).push (ka0 a (ja+k))) (ja+k+1) (jb+1+kk):=⟨by omega,lb3,m4,by omega⟩
        have h4:out.size+1<=((((o++a.extract ja (ja+k)).push (ka0 b jb))++b.extract (jb+1) (jb+1+kk)).push (ka0 a (ja+k))).size:=by omega
        refine Gp ?_ ?_
        .exact AA ⟨ss2,.inl ⟨rfl,l4,h4⟩⟩
        .exact AA ⟨ss2,rfl,l4,h4⟩
      .rw[As hk1];have hk1:kk=0:=by omega
       subst hk1;have m3:=m2;have lb3:=lb2;have lt3:=q3 0 (Aw _) (by omega)
       refine Au (Dy (show ja+k<a.size by omega) ?_)
       have m4:=MI.pA O P m3 (by omega) lb3 lt3
       have z4:(((o++a.extract ja (ja+k)).push (ka0 b jb)).push (ka0 a (ja+k))).size=((o++a.extract ja (ja+k)).push (ka0 b jb)).size+1:=BE ..
       try extract_lets
       show Bl M A E s (if (ja+k+1+1==a.size)=Aa then _ else _) _ _
       by_cases d1:(ja+k+1+1==a.size)=Aa
       .rw[Aq d1];exact AA ⟨ss2,.inr ⟨_,rfl,JJ O P (by simpa using d1) m4⟩⟩
       .rw[As d1];have d1:¬ ja+k+1+1=a.size:=by simpa using d1
        have l4:LI lt a b (((o++a.extract ja (ja+k)).push (ka0 b jb)).push (ka0 a (ja+k))) (ja+k+1) (jb+1):=⟨by omega,lb3,m4,by omega⟩
        have h4:out.size+1<=(((o++a.extract ja (ja+k)).push (ka0 b jb)).push (ka0 a (ja+k))).size:=by omega
        refine Gp ?_ ?_
        .exact AA ⟨ss2,.inl ⟨rfl,l4,h4⟩⟩
        .exact AA ⟨ss2,rfl,l4,h4⟩
     .rw[As hk0];have hk0:k=0:=by omega
      subst hk0;have m1:=l2.mi;have lt2:=k3 0 (Aw _) (by omega)
      have sz2:=l2.sz;refine Au (Dy lb ?_);have m2:=MI.pB O P m1 (by omega) lb (O.asymm (vB lb) (vA (by omega)) lt2)
      have z2:(o.push (ka0 b jb)).size=o.size+1:=BE ..
      try extract_lets
      show Bl M A E s (if (jb+1==b.size)=Aa then _ else _) _ _
      by_cases c3:(jb+1==b.size)=Aa
      .rw[Aq c3];have e3:jb+1=b.size:=by simpa using c3
       refine AA ⟨ss2,.inr ⟨_,rfl,?_⟩⟩;show SPk lt _ ((o.push (ka0 b jb))++a.extract (ja) a.size++b.extract (jb+1) b.size).toList;rw[e3]at m2 ⊢;exact Kv m2
      rw[As c3];have c3:¬ jb+1=b.size:=by simpa using c3
      have lb2:jb+1<b.size:=by omega
      have lj2:ja<a.size:=by omega
      refine Au (Dy lj2 ?_);refine Au (JD C ss2.1 (vA lj2) (show jb+1+(b.size-(jb+1))<=b.size by omega) (λi hi=>vB (by omega)) (show 0<b.size-(jb+1) by omega) (λi k h1 h2 h3=>OK O P.vb P.sb (vA lj2) i k h1 (by omega) h3) λkk hkk=>?_)
      obtain⟨q1,q2,q3⟩:=MQ hkk;have q1:kk<=b.size-(jb+1):=q1;have q2:∀ i,i<kk->lt (ka0 b (jb+1+i)) (ka0 a (ja))=Aa:=q2;have q3:∀ i,kk<=i->i<b.size-(jb+1)->leK lt (ka0 a (ja)) (ka0 b (jb+1+i)):=q3
      try extract_lets
      show Bl M A E s (if kk>0 then _ else _) _ _
      by_cases hk1:kk>0
      .rw[Aq hk1];have m3:=MI.chB O P (k:=kk) m2 lj2 λi hi h'=>O.asymm (vB h') (vA lj2) (q2 i hi)
       have z3:=OI (o.push (ka0 b jb)) b (show jb+1+kk<=b.size by omega)
       try extract_lets
       show Bl M A E s (if (jb+1+kk==b.size)=Aa then _ else _) _ _
       by_cases c4:(jb+1+kk==b.size)=Aa
       .rw[Aq c4];have e4:jb+1+kk=b.size:=by simpa using c4
        refine AA ⟨ss2,.inr ⟨_,rfl,?_⟩⟩;show SPk lt _ ((o.push (ka0 b jb))++b.extract (jb+1) (jb+1+kk)++a.extract (ja) a.size++b.extract (jb+1+kk) b.size).toList;rw[e4]at m3 ⊢;exact Kv m3
       rw[As c4];have c4:¬ jb+1+kk=b.size:=by simpa using c4
       have lb3:jb+1+kk<b.size:=by omega
       have lt3:=q3 kk (Aw _) (by omega)
       refine Au (Dy (show ja<a.size by omega) ?_)
       have m4:=MI.pA O P m3 (by omega) lb3 lt3
       have z4:(((o.push (ka0 b jb))++b.extract (jb+1) (jb+1+kk)).push (ka0 a (ja))).size=((o.push (ka0 b jb))++b.extract (jb+1) (jb+1+kk)).size+1:=BE ..
       try extract_lets
       show Bl M A E s (if (ja+1+1==a.size)=Aa then _ else _) _ _
       by_cases d1:(ja+1+1==a.size)=Aa
       .rw[Aq d1];exact AA ⟨ss2,.inr ⟨_,rfl,JJ O P (by simpa using d1) m4⟩⟩
       .rw[As d1];have d1:¬ ja+1+1=a.size:=by simpa using d1
        have l4:LI lt a b (((o.push (ka0 b jb))++b.extract (jb+1) (jb+1+kk)).push (ka0 a (ja))) (ja+1) (jb+1+kk):=⟨by omega,lb3,m4,by omega⟩
        have h4:out.size+1<=(((o.push (ka0 b jb))++b.extract (jb+1) (jb+1+kk)).push (ka0 a (ja))).size:=by omega
        refine Gp ?_ ?_
        .exact AA ⟨ss2,.inl ⟨rfl,l4,h4⟩⟩
        .exact AA ⟨ss2,rfl,l4,h4⟩
      .rw[As hk1];have hk1:kk=0:=by omega
       subst hk1;have m3:=m2;have lb3:=lb2;have lt3:=q3 0 (Aw _) (by omega)
       refine Au (Dy (show ja<a.size by omega) ?_)
       have m4:=MI.pA O P m3 (by omega) lb3 lt3
       have z4:((o.push (ka0 b jb)).push (ka0 a (ja))).size=(o.push (ka0 b jb)).size+1:=BE ..
       try extract_lets
       show Bl M A E s (if (ja+1+1==a.size)=Aa then _ else _) _ _
       by_cases d1:(ja+1+1==a.size)=Aa
       .rw[Aq d1];exact AA ⟨ss2,.inr ⟨_,rfl,JJ O P (by simpa using d1) m4⟩⟩
       .rw[As d1];have d1:¬ ja+1+1=a.size:=by simpa using d1
        have l4:LI lt a b ((o.push (ka0 b jb)).push (ka0 a (ja))) (ja+1) (jb+1):=⟨by omega,lb3,m4,by omega⟩
        have h4:out.size+1<=((o.push (ka0 b jb)).push (ka0 a (ja))).size:=by omega
        refine Gp ?_ ?_
        .exact AA ⟨ss2,.inl ⟨rfl,l4,h4⟩⟩
        .exact AA ⟨ss2,rfl,l4,h4⟩
    .obtain⟨ss2,hP⟩:=hP;obtain⟨y1,o,ja,jb,mg2,ac,bc⟩:=y;rcases hP with ⟨hy,l2,hs2⟩|⟨r,hy,sp⟩
     .have hy:y1=Af:=hy;subst hy;refine Au (D7 ?_);exact AA ⟨ss2,rfl,l2,by have:out.size+1<=o.size:=hs2;show i+1+1<=o.size;omega⟩
     .have hy:y1=Ab r:=hy;subst hy;exact AA ⟨ss2,r,rfl,sp⟩
   .have hy:y1=Ab r:=hy;subst hy;exact AA ⟨ss1,r,rfl,sp⟩
 .obtain⟨_,_,h,h3⟩:=hI
  exfalso
  have:=h.sz;have:=h.la;have:=h.lb;rw[DN]at h3;omega
 .obtain⟨ss,r,e,sp⟩:=hP;obtain⟨x1,x2⟩:=x;have e:x1=Ab r:=e;subst e;exact AA (q _ _ sp ss)
end
section
variable{M:Eo}{A:AT}{E:Vq}{s:Ap}{κ:Eh}{V:At->Prop}{lt:At->At->Ai}
theorem TL{f:Io->Ae->Ax At->DZ AU Dq α}{H:Ae->Ax At->Prop}{m:DZ AU Dq α}{Q:α->AU->Prop}(J:∀ n o,H n o->Bl M A E s (f ⟨⟩ n o) Q st)(main:(∀ n o,H n o->Bl M A E s (f ⟨⟩ n o) Q st)->Bl M A E s m Q st):Bl M A E s m Q st:=main J
noncomputable def flp(lt:At->At->Ai)(x y:At):Ai:=lt y x
theorem OrdK.flp(O:OrdK V lt):OrdK V (flp lt):=⟨λhx hy h=>O.asymm hy hx h,λhx hy hz h1 h2=>O.trans hz hy hx h2 h1⟩
def MH(lt:At->At->Ai)(T out A B:Ac At):Prop:=MI (flp lt) T out A.reverse B.reverse
theorem SPk.rev{T r:Ac At}(h:SPk (flp lt) T r):SPk lt T r.reverse:=⟨(G6 r).trans h.1,F6.mpr h.2⟩
theorem Jc(h:i<a.size):(a.toList.take (i+1)).reverse=ka0 a i::(a.toList.take i).reverse:=by
 have e:ka0 a i=a[i]:=by simp[ka0,DI,h]
 rw[e,<-CJ,Vr (by rw[AF];exact h),DA]
 rfl
theorem KO(a:Ax At)(k:Ae):(a.extract 0 k).toList=a.toList.take k:=by
 rw[CK,Ca,Ec];rfl
theorem Sf(a:Ax At)(h:j<=n):(a.toList.take n).reverse=((a.extract j n).reverse).toList++(a.toList.take j).reverse:=by
 rw[D4,CK,Ca,<-DA]
 congr 1
 conv=>lhs;rw[show n=j+(n-j) by omega,List.take_add]
theorem R6(hn:n<=a.size)(h:x∈(a.extract j n).reverse.toList):∃ i,j<=i/\i<n/\x=ka0 a i:=by
 rw[D4,List.mem_reverse,CK,Ca]at h;obtain⟨i,h1,h2,rfl⟩:=Mh h;exact⟨j+i,by omega,by omega,rfl⟩
structure HI (lt:At->At->Ai) (a b:Ax At) (out:Ax At) (na nb:Ae):Prop where
 la:0<na
 la':na<=a.size
 lb:1<nb
 lb':nb<=b.size
 mi:MH lt (a.toList++b.toList) out.toList (a.toList.take na) (b.toList.take nb)
 sz:out.size+na+nb=a.size+b.size
variable{a b out:Ax At}
theorem MH.pA(O:OrdK V lt)(P:Pre V lt a b)(m:MH lt (a.toList++b.toList) out.toList (a.toList.take (n+1)) (b.toList.take (k+1)))(ha:n<a.size)(hb:k<b.size)(hc:leK lt (ka0 b k) (ka0 a n)):MH lt (a.toList++b.toList) (out.push (ka0 a n)).toList (a.toList.take n) (b.toList.take (k+1)):=by
 unfold MH at m ⊢;have e:=Jc hb;rw[Jc ha]at m;rw[Du];rw[e]at m ⊢;exact m.mvA (A1:=[ka0 a n]) O.flp P.v (λy hy=>by rw[Bk.mp hy];exact hc)
theorem MH.pB(O:OrdK V lt)(P:Pre V lt a b)(m:MH lt (a.toList++b.toList) out.toList (a.toList.take (n+1)) (b.toList.take (k+1)))(ha:n<a.size)(hb:k<b.size)(hc:leK lt (ka0 a n) (ka0 b k)):MH lt (a.toList++b.toList) (out.push (ka0 b k)).toList (a.toList.take (n+1)) (b.toList.take k):=by
 unfold MH at m ⊢;have e:=Jc ha;rw[Jc hb]at m;rw[Du];rw[e]at m ⊢;exact m.mvB (B1:=[ka0 b k]) O.flp P.v (λy hy=>by rw[Bk.mp hy];exact hc)
theorem MH.chA(O:OrdK V lt)(P:Pre V lt a b)(m:MH lt (a.toList++b.toList) out.toList (a.toList.take n) (b.toList.take (k+1)))(hj:j<=n)(hn:n<=a.size)(hb:k<b.size)(hc:∀ i,j<=i->i<n->leK lt (ka0 b k) (ka0 a i)):MH lt (a.toList++b.toList) (out++(a.extract j n).reverse).toList (a.toList.take j) (b.toList.take (k+1)):=by
 unfold MH at m ⊢;rw[A9];rw[Sf a hj]at m;rw[Jc hb]at m ⊢;refine m.mvA O.flp P.v λx hx=>?_
 obtain⟨i,h1,h2,rfl⟩:=R6 hn hx;exact hc i h1 h2
theorem MH.chB(O:OrdK V lt)(P:Pre V lt a b)(m:MH lt (a.toList++b.toList) out.toList (a.toList.take (k+1)) (b.toList.take n))(hj:j<=n)(hn:n<=b.size)(ha:k<a.size)(hc:∀ i,j<=i->i<n->leK lt (ka0 a k) (ka0 b i)):MH lt (a.toList++b.toList) (out++(b.extract j n).reverse).toList (a.toList.take (k+1)) (b.toList.take j):=by
 unfold MH at m ⊢;rw[A9];rw[Sf b hj]at m;rw[Jc ha]at m ⊢;refine m.mvB O.flp P.v λx hx=>?_
 obtain⟨i,h1,h2,rfl⟩:=R6 hn hx;exact hc i h1 h2
theorem ME(m:MH lt (a.toList++b.toList) out.toList (a.toList.take 0) (b.toList.take n)):SPk lt (a.toList++b.toList) (a.extract 0 0++b.extract 0 n++out.reverse).toList:=by
 rw[A9,A9,KO,KO,D4];unfold MH at m;rw[Ig]at m ⊢;have:=(m.endA).rev
 rwa [DA,ER]at this
theorem kS(m:MH lt (a.toList++b.toList) out.toList (a.toList.take n) (b.toList.take 0)):SPk lt (a.toList++b.toList) (a.extract 0 n++b.extract 0 0++out.reverse).toList:=by
 rw[A9,A9,KO,KO,D4];unfold MH at m;rw[Ig]at m ⊢;have:=(m.endB).rev;rw[DA,ER]at this
 rwa [Bo]
theorem MF(O:OrdK V lt)(P:Pre V lt a b)(m:MH lt (a.toList++b.toList) out.toList (a.toList.take n) (b.toList.take 1)):SPk lt (a.toList++b.toList) (b.extract 0 1++a.extract 0 n++out.reverse).toList:=by
 rw[A9,A9,KO,KO,D4];unfold MH at m;have e:=Jc P.pb;rw[Ig]at e;rw[e]at m;have e':b.toList.take 1=[ka0 b 0]:=by
  have:=congrArg List.reverse e;rw[ER]at this;exact this
 have:=(m.swap.end1 O.flp P.v λy hy=>P.fst y (Vl (Vm.mp hy))).rev
 rw[DA,DA,ER]at this;rw[e',Cc];exact this
theorem szr(o a:Ax At)(h:j<=n)(hn:n<=a.size):(o++(a.extract j n).reverse).size=o.size+(n-j):=by
 rw[Fw,Array.size_reverse,Ey];omega
theorem X7(C:Hx M A s κ V lt)(O:OrdK V lt)(P:Pre V lt a b){Q:Ax At->AU->Prop}(hk:kindOf st=κ)(q:∀ r st',SPk lt (a.toList++b.toList) r.toList->Fh κ st st'->Q r st'):Bl M A E s (Zp a b) Q st:=by
 have ss0:Fh κ st st:=⟨hk,rfl,rfl,rfl⟩;have vA:∀ {i},i<a.size->V (ka0 a i):=λh=>P.va _ (HS h)
 have vB:∀ {i},i<b.size->V (ka0 b i):=λh=>P.vb _ (HS h)
 have hpa:=P.pa;have hpb:=P.pb;have la0:a.size-1<a.size:=by omega
 have m0:MH lt (a.toList++b.toList) (#[ka0 a (a.size-1)]:Ax At).toList (a.toList.take (a.size-1)) (b.toList.take b.size):=by
  have e:=Jc la0;rw[show a.size-1+1=a.size by omega,FL (by rw[AF];exact Aw _)]at e
  have e2:b.toList.take b.size=b.toList:=FL (by rw[AF];exact Aw _)
  unfold MH;rw[e2];have sr:a.toList.reverse.Pairwise (leK (flp lt)):=F6.mpr P.sa;have sb:b.toList.reverse.Pairwise (leK (flp lt)):=F6.mpr P.sb;rw[e]at sr;refine⟨?_,sr,DM.mpr ⟨λx hx=>P.lst x (Vm.mp hx),sb⟩⟩
  show (ka0 a (a.size-1)::(List.take (a.size-1) a.toList).reverse++b.toList.reverse).Perm _;rw[<-e];exact Hf (G6 _) (G6 _)
 refine Au (Kn ?_)
 extract_lets tot dn fb na0 nb0 ac0
 refine Au (Dy la0 ?_)
 extract_lets out0
 by_cases h1:(na0==0)=Aa
 .rw[Aq h1];have e1:a.size-1=0:=by simpa [na0] using h1
  refine AA (q _ _ ?_ ss0);show SPk lt _ (a.extract 0 (a.size-1)++b.extract 0 b.size++(#[ka0 a (a.size-1)]:Ax At).reverse).toList;rw[e1]at m0 ⊢;exact ME m0
 rw[As h1];by_cases h2:(nb0==1)=Aa
 .rw[Aq h2];have e2:b.size=1:=by simpa [nb0] using h2
  refine AA (q _ _ ?_ ss0);show SPk lt _ (b.extract 0 b.size++a.extract 0 (a.size-1)++(#[ka0 a (a.size-1)]:Ax At).reverse).toList;rw[e2]at m0 ⊢;exact MF O P m0
 rw[As h2];have n1:¬ a.size-1=0:=by simpa [na0] using h1
 have n2:¬ b.size=1:=by simpa [nb0] using h2
 have hi0:HI lt a b #[ka0 a (a.size-1)] (a.size-1) b.size:=⟨by omega,by omega,by omega,Aw _,m0,by show 1+(a.size-1)+b.size=_;omega⟩
 refine Au (Fm ?_)
 extract_lets mg0
 refine Au (CA (Q:=λx st'=>Fh κ st st'/\∃ r,x.1=Ab r/\SPk lt (a.toList++b.toList) r.toList) (BC (λi x st'=>Fh κ st st'/\x.1=Af/\HI lt a b x.2.2.2.1 x.2.1 x.2.2.1/\i+1<=x.2.2.2.1.size) (λi x st' _ hi hI=>?_) (λx st' hI=>?_) ⟨ss0,rfl,hi0,Aw _⟩) λx st' hP=>?_)
 .obtain⟨ss,hx,li,hsz⟩:=hI;obtain⟨x1,na,nb,out,mg⟩:=x;have li:HI lt a b out na nb:=li;have hsz:i+1<=out.size:=hsz;have ht:0<a.size+b.size:=by omega
  try extract_lets
  refine Au (CA (Q:=λy st''=>Fh κ st st''/\((y.1=Af/\HI lt a b y.2.2.2.1 y.2.1 y.2.2.1/\out.size+1<=y.2.2.2.1.size)\/∃ r,y.1=Ab r/\SPk lt (a.toList++b.toList) r.toList)) (BC (λj y st''=>Fh κ st st''/\y.1=Af/\HI lt a b y.2.2.2.1 y.2.1 y.2.2.1/\out.size+j<=y.2.2.2.1.size) (λj y st'' _ hj hJ=>?_) (λy st'' hJ=>?_) ⟨ss,rfl,li,Aw _⟩) λy st'' hP=>?_)
  .obtain⟨ss1,hy,l1,hs1⟩:=hJ;obtain⟨y1,ja,jb,o,ac,bc⟩:=y;have l1:HI lt a b o ja jb:=l1;have hs1:out.size+j<=o.size:=hs1;have la:=l1.la;have lb:=l1.lb;obtain⟨n,rfl⟩:∃ n,ja=n+1:=⟨ja-1,by omega⟩
   obtain⟨k,rfl⟩:∃ k,jb=k+1:=⟨jb-1,by omega⟩
   have ln:n<a.size:=l1.la';have lk:k<b.size:=l1.lb';have l1s:=l1.sz
   try extract_lets
   refine Au (Dy lk ?_);refine Au (Dy ln ?_);refine Au (C _ _ _ _ _ ss1.1 (vB lk) (vA ln) ?_);show Bl M A E s (if lt (ka0 b k) (ka0 a n)=Aa then _ else _) _ _
   by_cases e:lt (ka0 b k) (ka0 a n)=Aa
   .rw[Aq e];refine Au (Dy ln ?_);have m:=l1.mi.pA O P ln lk (O.asymm (vB lk) (vA ln) e);have sz':(o.push (ka0 a n)).size=o.size+1:=BE ..
    try extract_lets
    show Bl M A E s (if (n==0)=Aa then _ else _) _ _
    by_cases hb:(n==0)=Aa
    .rw[Aq hb];have e1:n=0:=by simpa using hb
     refine AA ⟨ss1,.inr ⟨_,rfl,?_⟩⟩;show SPk lt _ (a.extract 0 n++b.extract 0 (k+1)++(o.push (ka0 a n)).reverse).toList;generalize o.push (ka0 a n)=o' at m ⊢;rw[e1]at m ⊢;exact ME m
    .rw[As hb];have e1:¬ n=0:=by simpa using hb
     have li':HI lt a b (o.push (ka0 a n)) n (k+1):=⟨by omega,by omega,lb,lk,m,by omega⟩
     refine Gp ?_ ?_
     .exact AA ⟨ss1,.inl ⟨rfl,li',by show out.size+1<=(o.push (ka0 a n)).size;omega⟩⟩
     .exact AA ⟨ss1,rfl,li',by show out.size+(j+1)<=(o.push (ka0 a n)).size;omega⟩
   .rw[As e];refine Au (Dy lk ?_);have m:=l1.mi.pB O P ln lk (show lt (ka0 b k) (ka0 a n)=Ad by simpa using e)
    have sz':(o.push (ka0 b k)).size=o.size+1:=BE ..
    try extract_lets
    show Bl M A E s (if (k==1)=Aa then _ else _) _ _
    by_cases hb:(k==1)=Aa
    .rw[Aq hb];have e1:k=1:=by simpa using hb
     refine AA ⟨ss1,.inr ⟨_,rfl,?_⟩⟩;show SPk lt _ (b.extract 0 k++a.extract 0 (n+1)++(o.push (ka0 b k)).reverse).toList;generalize o.push (ka0 b k)=o' at m ⊢;rw[e1]at m ⊢;exact MF O P m
    .rw[As hb];have e1:¬ k=1:=by simpa using hb
     have li':HI lt a b (o.push (ka0 b k)) (n+1) k:=⟨by omega,by omega,by omega,by omega,m,by omega⟩
     refine Gp ?_ ?_
     .exact AA ⟨ss1,.inl ⟨rfl,li',by show out.size+1<=(o.push (ka0 b k)).size;omega⟩⟩
     .exact AA ⟨ss1,rfl,li',by show out.size+(j+1)<=(o.push (ka0 b k)).size;omega⟩
  .obtain⟨ss1,hy,l1,hs1⟩:=hJ;rw[DN]at hs1;exact⟨ss1,.inl ⟨hy,l1,by have:out.size+(a.size+b.size)<=_:=hs1;omega⟩⟩
  .obtain⟨ss1,hP⟩:=hP;obtain⟨y1,ja,jb,o,ac,bc⟩:=y;rcases hP with ⟨hy,l1,hs1⟩|⟨r,hy,sp⟩
   .have hy:y1=Af:=hy;have l1:HI lt a b o ja jb:=l1;have hs1:out.size+1<=o.size:=hs1;subst hy
    try extract_lets
    refine Au (Kn ?_)
    extract_lets mg1
    refine Au (CA (Q:=λy st3=>Fh κ st st3/\((y.1=Af/\HI lt a b y.2.2.2.1 y.2.1 y.2.2.1/\out.size+1<=y.2.2.2.1.size)\/∃ r,y.1=Ab r/\SPk lt (a.toList++b.toList) r.toList)) (BC (λj y st3=>Fh κ st st3/\y.1=Af/\HI lt a b y.2.2.2.1 y.2.1 y.2.2.1/\out.size+1<=y.2.2.2.1.size) (λj y st3 _ hj hJ=>?_) (λy st3 hJ=>⟨hJ.1,.inl hJ.2⟩) ⟨ss1,rfl,l1,hs1⟩) λy st3 hP=>?_)
    .obtain⟨ss2,hy,l2,hs2⟩:=hJ;obtain⟨y1,ja,jb,o,mg2,ac,bc⟩:=y;have l2:HI lt a b o ja jb:=l2;have hs2:out.size+1<=o.size:=hs2;have la:=l2.la;have lb:=l2.lb;obtain⟨n,rfl⟩:∃ n,ja=n+1:=⟨ja-1,by omega⟩
     obtain⟨k,rfl⟩:∃ k,jb=k+1:=⟨jb-1,by omega⟩
     have ln:n<a.size:=l2.la';have lk:k<b.size:=l2.lb';have l2s:=l2.sz
     try extract_lets
     refine RC λmg3=>?_
     refine Au (D7 ?_);refine Au (Dy lk ?_);refine Au (JD C ss2.1 (vB lk) (show 0+(n+1)<=a.size by omega) (λi hi=>vA (by have:i<n+1:=hi;omega)) (show n<n+1 by omega) (λi k h1 h2 h3=>Tw O P.va P.sa (vB lk) i k h1 (by have:k<n+1:=h2;omega) h3) λc hc=>?_)
     obtain⟨k1,k2,k3⟩:=Pk hc;have k1:c<=n+1:=k1;have k2:∀ i,i<c->leK lt (ka0 a i) (ka0 b k):=λi h=>by have:=k2 i h;rwa [C3]at this
     have k3:∀ i,c<=i->i<n+1->lt (ka0 b k) (ka0 a i)=Aa:=λi h h'=>by have:=k3 i h h';rwa [C3]at this
     dsimp -zeta only
     extract_lets kk ack jp
     refine TL (f:=jp) (H:=λna' o'=>0<na'/\na'<=n+1/\leK lt (ka0 a (na'-1)) (ka0 b k)/\MH lt (a.toList++b.toList) o'.toList (a.toList.take na') (b.toList.take (k+1))/\out.size+1<=o'.size/\o'.size+na'+(k+1)=a.size+b.size) (λna' o' hH=>?_) (λJ=>?_)
     .obtain⟨g1,g2,g3,g4,g5,g6⟩:=hH;obtain⟨n',rfl⟩:∃ n',na'=n'+1:=⟨na'-1,by omega⟩
      have g3:leK lt (ka0 a n') (ka0 b k):=g3;have ln':n'<a.size:=by omega
      refine Au (Dy lk ?_);have m2:=g4.pB O P ln' lk g3;have z2:(o'.push (ka0 b k)).size=o'.size+1:=BE ..
      try extract_lets
      show Bl M A E s (if (k==1)=Aa then _ else _) _ _
      by_cases c3:(k==1)=Aa
      .rw[Aq c3];have e3:k=1:=by simpa using c3
       refine AA ⟨ss2,.inr ⟨_,rfl,?_⟩⟩;show SPk lt _ (b.extract 0 k++a.extract 0 (n'+1)++(o'.push (ka0 b k)).reverse).toList;generalize o'.push (ka0 b k)=o3 at m2 ⊢;rw[e3]at m2 ⊢;exact MF O P m2
      rw[As c3];have c3:¬ k=1:=by simpa using c3
      obtain⟨k',rfl⟩:∃ k',k=k'+1:=⟨k-1,by omega⟩
      have lk':k'<b.size:=by omega
      refine Au (Dy ln' ?_);refine Au (JD C ss2.1 (vA ln') (show 0+(k'+1)<=b.size by omega) (λi hi=>vB (by have:i<k'+1:=hi;omega)) (show k'<k'+1 by omega) (λi k h1 h2 h3=>OK O P.vb P.sb (vA ln') i k h1 (by have:k<k'+1:=h2;omega) h3) λc' hc'=>?_)
      obtain⟨q1,q2,q3⟩:=MQ hc';have q1:c'<=k'+1:=q1;have q2:∀ i,i<c'->lt (ka0 b i) (ka0 a n')=Aa:=λi h=>by have:=q2 i h;rwa [C3]at this
      have q3:∀ i,c'<=i->i<k'+1->leK lt (ka0 a n') (ka0 b i):=λi h h'=>by have:=q3 i h h';rwa [C3]at this
      dsimp -zeta only
      extract_lets kk' bck jp'
      refine TL (f:=jp') (H:=λnb' o4=>1<nb'/\nb'<=k'+1/\leK lt (ka0 b (nb'-1)) (ka0 a n')/\MH lt (a.toList++b.toList) o4.toList (a.toList.take (n'+1)) (b.toList.take nb')/\out.size+1<=o4.size/\o4.size+(n'+1)+nb'=a.size+b.size) (λnb' o4 hH=>?_) (λJ=>?_)
      .obtain⟨j1,j2,j3,j4,j5,j6⟩:=hH;obtain⟨k'',rfl⟩:∃ k'',nb'=k''+1:=⟨nb'-1,by omega⟩
       have j3:leK lt (ka0 b k'') (ka0 a n'):=j3;refine Au (Dy ln' ?_);have m4:=j4.pA O P ln' (show k''<b.size by omega) j3
       have z4:(o4.push (ka0 a n')).size=o4.size+1:=BE ..
       try extract_lets
       show Bl M A E s (if (n'==0)=Aa then _ else _) _ _
       by_cases d1:(n'==0)=Aa
       .rw[Aq d1];have e1:n'=0:=by simpa using d1
        refine AA ⟨ss2,.inr ⟨_,rfl,?_⟩⟩;show SPk lt _ (a.extract 0 n'++b.extract 0 (k''+1)++(o4.push (ka0 a n')).reverse).toList;generalize o4.push (ka0 a n')=o5 at m4 ⊢;rw[e1]at m4 ⊢;exact ME m4
       .rw[As d1];have d1:¬ n'=0:=by simpa using d1
        have l4:HI lt a b (o4.push (ka0 a n')) n' (k''+1):=⟨by omega,by omega,by omega,by omega,m4,by omega⟩
        have h4:out.size+1<=(o4.push (ka0 a n')).size:=by omega
        refine Gp ?_ ?_
        .exact AA ⟨ss2,.inl ⟨rfl,l4,h4⟩⟩
        .exact AA ⟨ss2,rfl,l4,h4⟩
      .show Bl M A E s (if k'+1-c'>0 then _ else _) _ _
       by_cases hk1:k'+1-c'>0
       .rw[Aq hk1];have m3:=m2.chB O P q1 (show k'+1<=b.size by omega) ln' λi h1 h2=>q3 i h1 h2
        have z3:=szr (o'.push (ka0 b (k'+1))) b q1 (show k'+1<=b.size by omega)
        try extract_lets
        show Bl M A E s (if (c'==1)=Aa then _ else if (c'==0)=Aa then _ else _) _ _
        by_cases d1:(c'==1)=Aa
        .rw[Aq d1];have e1:c'=1:=by simpa using d1
         refine AA ⟨ss2,.inr ⟨_,rfl,?_⟩⟩;show SPk lt _ (b.extract 0 c'++a.extract 0 (n'+1)++((o'.push (ka0 b (k'+1)))++(b.extract c' (k'+1)).reverse).reverse).toList;generalize (o'.push (ka0 b (k'+1)))++(b.extract c' (k'+1)).reverse=o5 at m3 ⊢;rw[e1]at m3 ⊢;exact MF O P m3
        rw[As d1];by_cases d2:(c'==0)=Aa
        .rw[Aq d2];have e1:c'=0:=by simpa using d2
         refine AA ⟨ss2,.inr ⟨_,rfl,?_⟩⟩;show SPk lt _ (a.extract 0 (n'+1)++b.extract 0 c'++((o'.push (ka0 b (k'+1)))++(b.extract c' (k'+1)).reverse).reverse).toList;generalize (o'.push (ka0 b (k'+1)))++(b.extract c' (k'+1)).reverse=o5 at m3 ⊢;rw[e1]at m3 ⊢;exact kS m3
        rw[As d2];have d1:¬ c'=1:=by simpa using d1
        have d2:¬ c'=0:=by simpa using d2
        exact J c' _ ⟨by omega,q1,O.asymm (vB (by omega)) (vA ln') (q2 (c'-1) (by omega)),m3,by show out.size+1<=((o'.push (ka0 b (k'+1)))++(b.extract c' (k'+1)).reverse).size;omega,by show ((o'.push (ka0 b (k'+1)))++(b.extract c' (k'+1)).reverse).size+_+_=_;omega⟩
       .rw[As hk1];exact J (k'+1) (o'.push (ka0 b (k'+1))) ⟨by omega,Aw _,O.asymm (vB lk') (vA ln') (q2 k' (by omega)),m2,by omega,by omega⟩
     .show Bl M A E s (if n+1-c>0 then _ else _) _ _
      by_cases hk0:n+1-c>0
      .rw[Aq hk0];have m1:=l2.mi.chA O P k1 (show n+1<=a.size by omega) lk λi h1 h2=>O.asymm (vB lk) (vA (by omega)) (k3 i h1 h2)
       have z1:=szr o a k1 (show n+1<=a.size by omega)
       try extract_lets
       show Bl M A E s (if (c==0)=Aa then _ else _) _ _
       by_cases c1:(c==0)=Aa
       .rw[Aq c1];have e1:c=0:=by simpa using c1
        refine AA ⟨ss2,.inr ⟨_,rfl,?_⟩⟩;show SPk lt _ (a.extract 0 c++b.extract 0 (k+1)++(o++(a.extract c (n+1)).reverse).reverse).toList;generalize o++(a.extract c (n+1)).reverse=o5 at m1 ⊢;rw[e1]at m1 ⊢;exact ME m1
       rw[As c1];have c1:¬ c=0:=by simpa using c1
       exact J c _ ⟨by omega,k1,k2 (c-1) (by omega),m1,by show out.size+1<=(o++(a.extract c (n+1)).reverse).size;omega,by show (o++(a.extract c (n+1)).reverse).size+_+_=_;omega⟩
      .rw[As hk0];exact J (n+1) o ⟨by omega,Aw _,k2 n (by omega),l2.mi,hs2,l2s⟩
    .obtain⟨ss2,hP⟩:=hP;obtain⟨y1,ja,jb,o,mg2,ac,bc⟩:=y;rcases hP with ⟨hy,l2,hs2⟩|⟨r,hy,sp⟩
     .have hy:y1=Af:=hy;subst hy;refine Au (D7 ?_);exact AA ⟨ss2,rfl,l2,by have:out.size+1<=o.size:=hs2;show i+1+1<=o.size;omega⟩
     .have hy:y1=Ab r:=hy;subst hy;exact AA ⟨ss2,r,rfl,sp⟩
   .have hy:y1=Ab r:=hy;subst hy;exact AA ⟨ss1,r,rfl,sp⟩
 .obtain⟨_,_,h,h3⟩:=hI
  exfalso
  have:=h.sz;have:=h.la;have:=h.lb;rw[DN]at h3;have h3:a.size+b.size+1<=_:=h3;omega
 .obtain⟨ss,r,e,sp⟩:=hP;obtain⟨x1,x2⟩:=x;have e:x1=Ab r:=e;subst e;exact AA (q _ _ sp ss)
end
section
variable{M:Eo}{A:AT}{E:Vq}{s:Ap}{κ:Eh}{V:At->Prop}{lt:At->At->Ai}
def Srt(lt:At->At->Ai)(a:Ax At)(lo hi:Ae):Prop:=∀ i j,lo<=i->i<j->j<hi->leK lt (ka0 a i) (ka0 a j)
structure Upd (a a':Ax At) (lo hi:Ae):Prop where
 sz:a'.size=a.size
 pm:a'.toList.Perm a.toList
 out:∀ i,i<lo\/hi<=i->ka0 a' i=ka0 a i
theorem Upd.rfl':Upd a a lo hi:=⟨rfl,Ic _,λ_ _=>rfl⟩
theorem Upd.trans{a a' a'':Ax At}{lo hi:Ae}(h:Upd a a' lo hi)(h':Upd a' a'' lo hi):Upd a a'' lo hi:=⟨h'.sz.trans h.sz,h'.pm.trans h.pm,λi hi=>(h'.out i hi).trans (h.out i hi)⟩
theorem Upd.mono{lo' hi':Ae}(h:Upd a a' lo hi)(h1:lo'<=lo)(h2:hi<=hi'):Upd a a' lo' hi':=⟨h.sz,h.pm,λi hi=>h.out i (by omega)⟩
theorem Kl(a:Ax At)(i:Ae):ka0 a i=(a.toList[i]?).getD (A3,A3):=by
 unfold ka0;rw[Cy,DK]
theorem RE(p:Ae):∀(m:Ac At)(k:Ae)(a:Ax At),p+k+m.length<=a.size->((m.zipIdx k).foldl (λa x=>a.setIfInBounds (p+x.2) x.1) a).toList=a.toList.take (p+k)++m++a.toList.drop (p+k+m.length)
 |[],k,a,_=>by simp
 |x::m,k,a,h=>by
  rw[Hi,List.foldl_cons];rw[AS]at h;show ((m.zipIdx (k+1)).foldl _ (a.setIfInBounds (p+k) x)).toList=_;rw[RE p m (k+1) (a.setIfInBounds (p+k) x) (by rw[Array.size_setIfInBounds];omega),UU,AS]
  have hl:p+k<a.toList.length:=by rw[AF];omega
  rw[show p+(k+1)=p+k+1 by omega,Vr (by rw[Bb];exact hl),List.getElem_set_self,List.take_set_of_le (Aw _),List.drop_set_of_lt (by omega)]
  rw[show p+k+1+m.length=p+k+(m.length+1) by omega]
  simp
theorem Ke(hn:n<=a.size)(h:x∈(a.extract j n).toList):∃ i,j<=i/\i<n/\x=ka0 a i:=by
 rw[CK,Ca]at h;obtain⟨i,h1,h2,rfl⟩:=Mh h;exact⟨j+i,by omega,by omega,rfl⟩
theorem Se(hn:n<=a.size)(h:Srt lt a j n):(a.extract j n).toList.Pairwise (leK lt):=by
 rw[Cv];intro i i' h1 h2 h3;rw[CJ,CJ,UR,UR];rw[AF,Ey]at h1 h2;have:=h (j+i) (j+i') (by omega) (by omega) (by omega)
 have e1:ka0 a (j+i)=a[j+i]'(by omega):=by simp[ka0,DI,show j+i<a.size by omega]
 have e2:ka0 a (j+i')=a[j+i']'(by omega):=by simp[ka0,DI,show j+i'<a.size by omega]
 rwa [e1,e2]at this
theorem Ta(hn:n<=a.size)(h:j+i<n):ka0 (a.extract j n) i=ka0 a (j+i):=by
 rw[Kl,Kl,CK,Ca,Vc,Aq (by omega),U_9]
theorem TB(hp:p+m.length<=a.size)(h:a'.toList=a.toList.take p++m++a.toList.drop (p+m.length)):(∀ i,i<p\/p+m.length<=i->ka0 a' i=ka0 a i)/\∀ i,p<=i->i<p+m.length->ka0 a' i=(m[i-p]?).getD (A3,A3):=by
 have l1:(a.toList.take p).length=p:=by rw[C9,AF];omega
 constructor
 .intro i hi;rw[Kl,Kl,h,Cc];rcases hi with hi|hi
  .rw[Di (by rw[l1];exact hi),Vc,Aq hi]
  .rw[B0 (by rw[l1];omega),l1,B0 (by omega),U_9]
   congr 2
   omega
 .intro i h1 h2;rw[Kl,h,Cc,B0 (by rw[l1];exact h1),l1,Di (by omega)]
theorem eC(he:p+m.length=e)(hp:e<=a.size)(h:a'.toList=a.toList.take p++m++a.toList.drop (p+m.length))(pm:m.Perm (a.extract p e).toList):Upd a a' p e:=by
 subst he;refine⟨?_,?_,(TB hp h).1⟩
 .have:=congrArg Jv h;rw[AF,Be,Be,C9,Ef,AF]at this;omega
 .rw[h];rw[O2]at pm;have e1:a.toList=a.toList.take p++(a.toList.drop p).take m.length++a.toList.drop (p+m.length):=by
   rw[Cc,<-Ie,DS,DS]
  refine U_5 ?_ (Hz e1.symm);exact Hf (Hf (Ic _) pm) (Ic _)
theorem cA(h:k<m.length):(m[k]?).getD (A3,A3)∈m:=by
 rw[AE h];exact BH h
theorem iF(hm:m.Pairwise (leK lt)){k':Ae}(h:k<k')(h':k'<m.length):leK lt ((m[k]?).getD (A3,A3)) ((m[k']?).getD (A3,A3)):=by
 rw[AE h',AE (Vu h h')];exact(Cv.mp hm) k k' _ _ h
theorem gR{f:Ax At->DZ AU Dq α}{H:Ax At->AU->Prop}{m:DZ AU Dq α}{Q:α->AU->Prop}(J:∀ o st',H o st'->Bl M A E s (f o) Q st')(main:(∀ o st',H o st'->Bl M A E s (f o) Q st')->Bl M A E s m Q st):Bl M A E s m Q st:=main J
theorem bC{x:AU}{Q:Io->AU->Prop}(h:Q ⟨⟩ x):Bl M A E s (set x:DZ AU Dq Io) Q st:=D7 (f:=λ_=>x) h
theorem iO(O:OrdK V lt)(va:∀ i,i<hi->V (ka0 a i))(sa:Srt lt a lo hi)(vk:V key)(h:i<=k)(hk:lo+k<hi)(hb:byd lt Ad key (ka0 a (lo+k))=Aa):byd lt Ad key (ka0 a (lo+i))=Aa:=by
 by_cases e:i=k
 .rw[e];exact hb
 .have l:=sa (lo+i) (lo+k) (by omega) (by omega) hk
  have hb':lt key (ka0 a (lo+k))=Ad:=by simpa [byd] using hb
  have:=O.trans (va _ (by omega)) (va _ hk) vk l hb'
  simpa [byd] using this
theorem cQ(O:OrdK V lt)(va:∀ i,i<hi->V (ka0 a i))(sa:Srt lt a lo hi)(vk:V key)(h:i<=k)(hk:lo+k<hi)(hb:byd lt Aa key (ka0 a (lo+k))=Aa):byd lt Aa key (ka0 a (lo+i))=Aa:=by
 by_cases e:i=k
 .rw[e];exact hb
 .have l:=sa (lo+i) (lo+k) (by omega) (by omega) hk
  have hb':lt (ka0 a (lo+k)) key=Aa:=by simpa [byd] using hb
  show byd lt Aa key (ka0 a (lo+i))=Aa;cases q:lt (ka0 a (lo+i)) key with
  |true=>simpa [byd] using q
  |false=>
   have:=O.trans vk (va _ (show lo+i<hi by omega)) (va _ hk) q l
   rw[this]at hb';cases hb'
theorem X8(C:Hx M A s κ V lt)(O:OrdK V lt){sa na pw sb nb pw2:Ae}(h1:(Bi st)[i]?=Ab (sa,na,pw))(h2:(Bi st)[i+1]?=Ab (sb,nb,pw2))(hc:sa+na=sb)(hn:0<na)(hm:0<nb)(hs:sb+nb<=(Av st).size)(s1:Srt lt (Av st) sa sb)(s2:Srt lt (Av st) sb (sb+nb))(hv:∀ x∈(Av st).toList,V x)(hk:kindOf st=κ)(hf:DD st=Af)(q:∀ st',kindOf st'=κ->DD st'=Af->Bi st'=((Bi st).setIfInBounds i (sa,na+nb,pw)).eraseIdxIfInBounds (i+1)->Upd (Av st) (Av st') sa (sb+nb)->Srt lt (Av st') sa (sb+nb)->Q Aa st'):Bl M A E s (Rj i) Q st:=by
 have va:∀ {i},i<(Av st).size->V (ka0 (Av st) i):=λh=>hv _ (HS h)
 refine Au (Fm ?_);show Bl M A E s (match ((Bi st)[i]?,(Bi st)[i+1]?) with|(Ab (sa,na,power),Ab (sb,nb,snd))=>_|x=>_) _ _
 rw[h1,h2];dsimp -zeta only;refine Au (bC ?_);refine Au (Dy (show sb<(Av st).size by omega) ?_)
 refine Au (JD C hk (va (show sb<(Av st).size by omega)) (show sa+na<=(Av st).size by omega) (λi hi=>va (by omega)) hn (λi j h1 h2 h3=>iO O (λi h=>va (i:=i) (by omega)) s1 (va (show sb<(Av st).size by omega)) h1 (by omega) h3) λc hc'=>?_)
 obtain⟨k1,k2,k3⟩:=Pk hc';have bsz:sb<(Av st).size:=by omega
 dsimp -zeta only;by_cases d1:(na-c==0)=Aa
 .rw[Aq d1];have d1:na-c=0:=by simpa using d1
  refine AA (q _ hk hf rfl Upd.rfl' λi j h1 h2 h3=>?_)
  by_cases hj:j<sb
  .exact s1 i j h1 h2 hj
  .by_cases hi:sb<=i
   .exact s2 i j hi h2 h3
   .have l1:=k2 (i-sa) (by omega)
    rw[show sa+(i-sa)=i by omega]at l1
    by_cases e:j=sb
    .rw[e];exact l1
    .exact O.trans (va (by omega)) (va bsz) (va (by omega)) l1 (s2 sb j (Aw _) (by omega) h3)
 rw[As d1];have d1:¬ na-c=0:=by simpa using d1
 have ek:sa+c+(na-c)-1=sb-1:=by omega
 have bs1:sb-1<(Av st).size:=by omega
 refine Au (Dy (show sa+c+(na-c)-1<(Av st).size by omega) ?_)
 rw[ek];refine Au (JD C hk (va bs1) (show sb+nb<=(Av st).size by omega) (λi hi=>va (by omega)) (show nb-1<nb by omega) (λi j h1 h2 h3=>cQ O (λi h=>va (i:=i) (by omega)) s2 (va bs1) h1 (by omega) h3) λc' hc2=>?_)
 obtain⟨q1,q2,q3⟩:=MQ hc2;dsimp -zeta only;by_cases d2:(c'==0)=Aa
 .rw[Aq d2];have d2:c'=0:=by simpa using d2
  refine AA (q _ hk hf rfl Upd.rfl' λi j h1 h2 h3=>?_)
  by_cases hj:j<sb
  .exact s1 i j h1 h2 hj
  .by_cases hi:sb<=i
   .exact s2 i j hi h2 h3
   .have l1:=q3 (j-sb) (by omega) (by omega)
    rw[show sb+(j-sb)=j by omega]at l1
    by_cases e:i=sb-1
    .rw[e];exact l1
    .exact O.trans (va (by omega)) (va bs1) (va (by omega)) (s1 i (sb-1) h1 (by omega) (by omega)) l1
 rw[As d2];have d2:¬ c'=0:=by simpa using d2
 extract_lets X Y_ jp
 have K3:∀ i,sa+c<=i->i<sb->lt (ka0 (Av st) sb) (ka0 (Av st) i)=Aa:=λi h h'=>by
  have:=k3 (i-sa) (by omega) (by omega)
  rwa [show sa+(i-sa)=i by omega]at this
 have K2:∀ i,sa<=i->i<sa+c->leK lt (ka0 (Av st) i) (ka0 (Av st) sb):=λi h h'=>by
  have:=k2 (i-sa) (by omega)
  rwa [show sa+(i-sa)=i by omega]at this
 have Q2:∀ i,sb<=i->i<sb+c'->lt (ka0 (Av st) i) (ka0 (Av st) (sb-1))=Aa:=λi h h'=>by
  have:=q2 (i-sb) (by omega)
  rwa [show sb+(i-sb)=i by omega]at this
 have Q3:∀ i,sb+c'<=i->i<sb+nb->leK lt (ka0 (Av st) (sb-1)) (ka0 (Av st) i):=λi h h'=>by
  have:=q3 (i-sb) (by omega) (by omega)
  rwa [show sb+(i-sb)=i by omega]at this
 have zX:X.size=sb-(sa+c):=by show ((Av st).extract (sa+c) sb).size=_;rw[Ey];omega
 have zY:Y_.size=c':=by show ((Av st).extract sb (sb+c')).size=_;rw[Ey];omega
 have z1:sb<=(Av st).size:=by omega
 have z2:sb+c'<=(Av st).size:=by omega
 have P:Pre V lt X Y_:=by
  refine⟨λx hx=>?_,λx hx=>?_,Se z1 λi j h1 h2 h3=>s1 i j (by omega) h2 h3,Se z2 λi j h1 h2 h3=>s2 i j h1 h2 (by omega),by omega,by omega,λx hx=>?_,λy hy=>?_⟩
  .obtain⟨i,_,_,rfl⟩:=Ke z1 hx;exact va (by omega)
  .obtain⟨i,_,_,rfl⟩:=Ke z2 hx;exact va (by omega)
  .obtain⟨i,g1,g2,rfl⟩:=Ke z1 hx;have e:ka0 Y_ 0=ka0 (Av st) (sb+0):=Ta z2 (by omega)
   rw[e,Hj];exact O.asymm (va bsz) (va (by omega)) (K3 i g1 g2)
  .obtain⟨i,g1,g2,rfl⟩:=Ke z2 hy;have e:ka0 X (X.size-1)=ka0 (Av st) (sa+c+(X.size-1)):=Ta z1 (by omega)
   rw[e,show sa+c+(X.size-1)=sb-1 by omega]
   exact O.asymm (va (by omega)) (va bs1) (Q2 i g1 g2)
 refine gR (f:=jp) (H:=λmg st2=>SPk lt (X.toList++Y_.toList) mg.toList/\Fh κ (setPending st (((Bi st).setIfInBounds i (sa,na+nb,pw)).eraseIdxIfInBounds (i+1))) st2) (λmg st2 hH=>?_) (λJ=>?_)
 .obtain⟨⟨pm,so⟩,sk,sar,sp,sf⟩:=hH;have sar:Av st2=Av st:=sar;have sf:DD st2=Af:=sf.trans hf;have lm:mg.toList.length=sb+c'-(sa+c):=by
   rw[pm.length_eq,Be,AF,AF];omega
  have wl:=RE (sa+c) mg.toList 0 (Av st) (by omega)
  rw[Hj]at wl;have pm':mg.toList.Perm ((Av st).extract (sa+c) (sb+c')).toList:=by
   refine pm.trans (Hz ?_);show ((Av st).extract (sa+c) sb).toList++((Av st).extract sb (sb+c')).toList=_;rw[<-A9,Array.extract_append_extract]
   congr 2<;>omega
  refine Au (D7 ?_);refine Au (Fm ?_);have U_:=eC (e:=sb+c') (by omega) (by omega) wl pm'
  obtain⟨w1,w2⟩:=TB (by omega) wl
  generalize hA:(mg.toList.zipIdx.foldl (λa x=>a.setIfInBounds (sa+c+x.2) x.1) (Av st))=a' at U_ w1 w2
  have hm:∀ i,sa+c<=i->i<sb+c'->(∃ j,sa+c<=j/\j<sb/\ka0 a' i=ka0 (Av st) j)\/∃ j,sb<=j/\j<sb+c'/\ka0 a' i=ka0 (Av st) j:=λi h h'=>by
   have g:ka0 a' i∈mg.toList:=by rw[w2 i h (by omega)];exact cA (by omega)
   rcases Ce.mp (pm.mem_iff.mp g) with g|g
   .exact .inl (Ke z1 g)
   .exact .inr (Ke z2 g)
  have S:Srt lt a' sa (sb+nb):=λi j h1 h2 h3=>by
   by_cases i1:i<sa+c
   .rw[w1 i (by omega)]
    by_cases j1:j<sa+c
    .rw[w1 j (by omega)];exact s1 i j h1 h2 (by omega)
    .by_cases j2:j<sb+c'
     .rcases hm j (by omega) j2 with ⟨l,g1,g2,g3⟩|⟨l,g1,g2,g3⟩
      .rw[g3];exact s1 i l h1 (by omega) g2
      .rw[g3];by_cases e:l=sb
       .rw[e];exact K2 i h1 i1
       .exact O.trans (va (by omega)) (va bsz) (va (by omega)) (K2 i h1 i1) (s2 sb l (Aw _) (by omega) (by omega))
     .rw[w1 j (by omega)]
      exact O.trans (va (by omega)) (va bsz) (va (by omega)) (K2 i h1 i1) (s2 sb j (Aw _) (by omega) (by omega))
   .by_cases i2:i<sb+c'
    .by_cases j2:j<sb+c'
     .rw[w2 i (by omega) (by omega),w2 j (by omega) (by omega)]
      exact iF so (by omega) (by omega)
     .rw[w1 j (by omega)]
      rcases hm i (by omega) i2 with ⟨l,g1,g2,g3⟩|⟨l,g1,g2,g3⟩
      .rw[g3];by_cases e:l=sb-1
       .rw[e];exact Q3 j (by omega) h3
       .exact O.trans (va (by omega)) (va bs1) (va (by omega)) (s1 l (sb-1) (by omega) (by omega) (by omega)) (Q3 j (by omega) h3)
      .rw[g3];exact s2 l j g1 (by omega) h3
    .rw[w1 i (by omega),w1 j (by omega)]
     exact s2 i j (by omega) h2 h3
  rw[<-sar]at hA;refine AA ?_;show Q (DD st2).isNone _;rw[sf];refine q _ sk sf sp ?_ ?_
  .show Upd (Av st) (mg.toList.zipIdx.foldl (λa x=>a.setIfInBounds (sa+c+x.2) x.1) (Av st2)) _ _
   rw[hA];exact U_.mono (by omega) (by omega)
  .show Srt lt (mg.toList.zipIdx.foldl (λa x=>a.setIfInBounds (sa+c+x.2) x.1) (Av st2)) _ _
   rw[hA];exact S
 .refine Gp ?_ ?_
  .exact Au (X6 C O P hk λr st' sp ss=>J r st' ⟨sp,ss⟩)
  .exact Au (X7 C O P hk λr st' sp ss=>J r st' ⟨sp,ss⟩)
end
section
variable{M:Eo}{A:AT}{E:Vq}{s:Ap}{κ:Eh}{V:At->Prop}{lt:At->At->Ai}
structure BS (κ:Eh) (a0:Ax At) (p:Ax (Ae×Ae×Ae)) (lo hi:Ae) (st:AU):Prop where
 kd:kindOf st=κ
 fl:DD st=Af
 pd:Bi st=p
 up:Upd a0 (Av st) lo hi
variable{a0:Ax At}{p:Ax (Ae×Ae×Ae)}{lo hi:Ae}
theorem BS.v(B:BS κ a0 p lo hi st)(hv:∀ x∈a0.toList,V x)(h:i<a0.size):V (ka0 (Av st) i):=hv _ (B.up.pm.mem_iff.mp (HS (by rw[B.up.sz];exact h)))
theorem Ko(C:Hx M A s κ V lt){Q:Am Ai->AU->Prop}(B:BS κ a0 p lo hi st)(hv:∀ x∈a0.toList,V x)(h1:i<a0.size)(h2:j<a0.size)(q:Q (Ab (lt (ka0 (Av st) i) (ka0 (Av st) j))) st):Bl M A E s (ltAt' i j) Q st:=by
 rw[ltAt'_eq];refine Au (Fm ?_);refine Au (Dy (by rw[B.up.sz];exact h1) ?_)
 refine Au (Dy (by rw[B.up.sz];exact h2) ?_)
 exact C _ _ _ _ _ B.kd (B.v hv h1) (B.v hv h2) q
theorem LS(a:Ax At)(i:Ae):ka0 a i=(a[i]?).getD (A3,A3):=by
 unfold ka0;rw[DK]
theorem Tb{src:Ae}(hs:src<a.size)(hd:d<=src)(k:Ae):ka0 (bubble a src d) k=if k=src-d then ka0 a src else if src-d<k/\k<=src then ka0 a (k-1) else ka0 a k:=by
 rw[LS,getElem?_bubble hs d hd];split
 .rw[LS]
 .split<;>rw[LS]
theorem Lx(hj:j<=a.size)(k:Ae):ka0 (mirror a i j ((j-i)/2)) k=if i<=k/\k<j then ka0 a (i+j-1-k) else ka0 a k:=by
 rw[LS,getElem?_mirror_all hj];split<;>rw[LS]
theorem fC{src:Ae}(hs:src<a.size)(hd:d<=src):Upd a (bubble a src d) (src-d) (src+1):=⟨bubble_size ..,US.mp (bubble_perm ..),λi h=>by rw[Tb hs hd,As (by omega),As (by omega)]⟩
theorem cR(hj:j<=a.size):Upd a (mirror a i j ((j-i)/2)) i j:=⟨mirror_size ..,US.mp (mirror_perm ..),λk h=>by rw[Lx hj,As (by omega)]⟩
theorem XM(C:Hx M A s κ V lt)(O:OrdK V lt)(hv:∀ x∈a0.toList,V x){ok:Ae}(B:BS κ a0 p lo hi st)(h1:1<=ok)(h2:ok<=n)(h3:lo+n<=hi)(h4:hi<=a0.size)(so:Srt lt (Av st) lo (lo+ok))(q:∀ st',BS κ a0 p lo hi st'->Srt lt (Av st') lo (lo+n)->Q Aa st'):Bl M A E s (binarySort' lo n ok) Q st:=by
 rw[binarySort'_eq];refine Au (CA (Q:=λx st'=>x.1=Af/\BS κ a0 p lo hi st'/\Srt lt (Av st') lo (lo+n)) (BC (λk x st'=>x.1=Af/\BS κ a0 p lo hi st'/\Srt lt (Av st') lo (lo+k)) (λk x st' g1 g2 hI=>?_) (λx st' hI=>?_) ⟨rfl,B,by rw[show max ok 1=ok by omega];exact so⟩) λx st' hP=>?_)
 .obtain⟨hx,B',S⟩:=hI;have va:∀ {i},i<a0.size->V (ka0 (Av st') i):=λh=>B'.v hv h
  have hk:lo+k<a0.size:=by omega
  extract_lets l0 r0
  refine Au (CA (Q:=λy st''=>st'=st''/\y.1=Af/\KD (λj=>!lt (ka0 (Av st') (lo+k)) (ka0 (Av st') (lo+j))) k y.2.1) (BC (λi y st''=>st'=st''/\y.1=Af/\y.2.1<=y.2.2/\y.2.2<=k/\y.2.2-y.2.1<=k-i/\(∀ j,j<y.2.1->lt (ka0 (Av st') (lo+k)) (ka0 (Av st') (lo+j))=Ad)/\(∀ j,y.2.2<=j->j<k->lt (ka0 (Av st') (lo+k)) (ka0 (Av st') (lo+j))=Aa)) (λi y st'' _ hi hJ=>?_) (λy st'' hJ=>?_) ⟨rfl,rfl,CH _,Aw _,by show k-0<=k-0;omega,λj h=>absurd (show j<0 from h) (by omega),λj h h'=>by have:k<=j:=h;omega⟩) λy st'' hP=>?_)
  .obtain⟨rfl,b1,b2,b3,b4,b5,b6⟩:=hJ;obtain⟨y1,l,r⟩:=y;dsimp only at b1 b2 b3 b4 b5 b6;subst b1
   try extract_lets
   show Bl M A E s (if l ≥ r then _ else _) _ _
   by_cases hl:l ≥ r
   .rw[Aq hl];exact AA ⟨rfl,rfl,by show l<=k;omega,λj h=>by simpa using b5 j h,λj h h'=>by have:=b6 j (by have:l<=j:=h;omega) h';simpa using this⟩
   rw[As hl]
   try extract_lets
   refine Au (Ko C (j:=lo+(l+r)/2) B' hv hk (by omega) ?_)
   show Bl M A E s (if lt (ka0 (Av st') (lo+k)) (ka0 (Av st') (lo+(l+r)/2))=Aa then _ else _) _ _
   by_cases e:lt (ka0 (Av st') (lo+k)) (ka0 (Av st') (lo+(l+r)/2))=Aa
   .rw[Aq e];refine AA ⟨rfl,rfl,by show l<=(l+r)/2;omega,by show (l+r)/2<=k;omega,by show (l+r)/2-l<=k-(i+1);omega,b5,λj h h'=>?_⟩
    have h:(l+r)/2<=j:=h;cases e':lt (ka0 (Av st') (lo+k)) (ka0 (Av st') (lo+j)) with
    |true=>rfl
    |false=>
     by_cases ej:j=(l+r)/2
     .rw[ej,e]at e';cases e'
     .have:=O.trans (va (show lo+(l+r)/2<a0.size by omega)) (va (show lo+j<a0.size by omega)) (va hk) (S (lo+(l+r)/2) (lo+j) (by omega) (by omega) (by omega)) e'
      rw[this]at e;cases e
   .rw[As e];have e:lt (ka0 (Av st') (lo+k)) (ka0 (Av st') (lo+(l+r)/2))=Ad:=by simpa using e
    refine AA ⟨rfl,rfl,by show (l+r)/2+1<=r;omega,b3,by show r-((l+r)/2+1)<=k-(i+1);omega,λj h=>?_,b6⟩
    have h:j<(l+r)/2+1:=h;by_cases ej:j=(l+r)/2
    .rw[ej];exact e
    .exact O.trans (va (show lo+j<a0.size by omega)) (va (show lo+(l+r)/2<a0.size by omega)) (va hk) (S (lo+j) (lo+(l+r)/2) (by omega) (by omega) (by omega)) e
  .obtain⟨rfl,b1,b2,b3,b4,b5,b6⟩:=hJ;rw[DN]at b4;exact⟨rfl,b1,by omega,λj h=>by simpa using b5 j h,λj h h'=>by have:=b6 j (by omega) h';simpa using this⟩
  .obtain⟨rfl,b1,c1,c2,c3⟩:=hP;obtain⟨y1,l,r⟩:=y;dsimp only at b1 c1 c2 c3;subst b1
   try extract_lets
   have hsz:lo+k<(Av st').size:=by rw[B'.up.sz];exact hk
   have ab:=Tb hsz (show lo+k-(lo+l)<=lo+k by omega)
   have ub:=fC hsz (show lo+k-(lo+l)<=lo+k by omega)
   rw[show lo+k-(lo+k-(lo+l))=lo+l by omega]at ab ub
   refine Au (m:=moveDown' (lo+k) (lo+l)) ?_;rw[moveDown'_eq];refine D7 (AA ⟨rfl,⟨B'.kd,B'.fl,B'.pd,B'.up.trans (ub.mono (by omega) (by omega))⟩,?_⟩)
   show Srt lt (bubble (Av st') (lo+k) (lo+k-(lo+l))) lo (lo+(k+1));have c2:∀ j,j<l->lt (ka0 (Av st') (lo+k)) (ka0 (Av st') (lo+j))=Ad:=λj h=>by simpa using c2 j h
   have c3:∀ j,l<=j->j<k->lt (ka0 (Av st') (lo+k)) (ka0 (Av st') (lo+j))=Aa:=λj h h'=>by simpa using c3 j h h'
   have P1:∀ i,lo<=i->i<lo+l->leK lt (ka0 (Av st') i) (ka0 (Av st') (lo+k)):=λi h h'=>by
    have:=c2 (i-lo) (by omega)
    rwa [show lo+(i-lo)=i by omega]at this
   have P2:∀ i,lo+l<=i->i<lo+k->leK lt (ka0 (Av st') (lo+k)) (ka0 (Av st') i):=λi h h'=>by
    have:=c3 (i-lo) (by omega) (by omega)
    rw[show lo+(i-lo)=i by omega]at this
    exact O.asymm (va hk) (va (by omega)) this
   intro i j g3 g4 g5;rw[ab,ab];by_cases i1:i<lo+l
   .rw[As (show ¬ i=lo+l by omega),As (show ¬ (lo+l<i/\i<=lo+k) by omega)]
    by_cases j1:j<lo+l
    .rw[As (show ¬ j=lo+l by omega),As (show ¬ (lo+l<j/\j<=lo+k) by omega)]
     exact S i j g3 g4 (by omega)
    .by_cases j2:j=lo+l
     .rw[Aq j2];exact P1 i g3 i1
     .rw[As j2,Aq (show lo+l<j/\j<=lo+k by omega)]
      exact S i (j-1) g3 (by omega) (by omega)
   .by_cases i2:i=lo+l
    .rw[Aq i2,As (show ¬ j=lo+l by omega),Aq (show lo+l<j/\j<=lo+k by omega)]
     exact P2 (j-1) (by omega) (by omega)
    .rw[As i2,Aq (show lo+l<i/\i<=lo+k by omega),As (show ¬ j=lo+l by omega),Aq (show lo+l<j/\j<=lo+k by omega)]
     exact S (i-1) (j-1) (by omega) (by omega) (by omega)
 .obtain⟨hx,B',S⟩:=hI;exact⟨hx,B',λi j h h' h''=>S i j h h' (by omega)⟩
 .obtain⟨hx,B',S⟩:=hP;obtain⟨x1,x2⟩:=x;have hx:x1=Af:=hx;subst hx;exact AA (q _ B' S)
end
section
variable{M:Eo}{A:AT}{E:Vq}{s:Ap}{κ:Eh}{V:At->Prop}{lt:At->At->Ai}
variable{a0:Ax At}{p:Ax (Ae×Ae×Ae)}{lo hi:Ae}
theorem MJ{f:Io->DZ AU Dq α}{H:AU->Prop}{m:DZ AU Dq α}{Q:α->AU->Prop}(J:∀ st',H st'->Bl M A E s (f ⟨⟩) Q st')(main:(∀ st',H st'->Bl M A E s (f ⟨⟩) Q st')->Bl M A E s m Q st):Bl M A E s m Q st:=main J
def Dec(lt:At->At->Ai)(a:Ax At)(lo hi:Ae):Prop:=∀ i j,lo<=i->i<j->j<hi->leK lt (ka0 a j) (ka0 a i)
def Eqs(lt:At->At->Ai)(a:Ax At)(lo hi:Ae):Prop:=∀ i j,lo<=i->i<hi->lo<=j->j<hi->leK lt (ka0 a i) (ka0 a j)
theorem Srt.one:Srt lt a lo (lo+1):=λi j h1 h2 h3=>by omega
theorem Srt.snoc(O:OrdK V lt)(v:∀ i,i<hi->V (ka0 a i))(hk:k<hi)(h0:lo<k)(S:Srt lt a lo k)(h:leK lt (ka0 a (k-1)) (ka0 a k)):Srt lt a lo (k+1):=λi j h1 h2 h3=>by
 by_cases e:j=k
 .subst e;by_cases e':i=j-1
  .rw[e'];exact h
  .exact O.trans (v i (by omega)) (v (j-1) (by omega)) (v j hk) (S i (j-1) h1 (by omega) (by omega)) h
 .exact S i j h1 h2 (by omega)
theorem Dec.snoc(O:OrdK V lt)(v:∀ i,i<hi->V (ka0 a i))(hk:k<hi)(h0:lo<k)(S:Dec lt a lo k)(h:leK lt (ka0 a k) (ka0 a (k-1))):Dec lt a lo (k+1):=λi j h1 h2 h3=>by
 by_cases e:j=k
 .subst e;by_cases e':i=j-1
  .rw[e'];exact h
  .exact O.trans (v j hk) (v (j-1) (by omega)) (v i (by omega)) h (S i (j-1) h1 (by omega) (by omega))
 .exact S i j h1 h2 (by omega)
theorem Eqs.snoc(O:OrdK V lt){q:Ae}(v:∀ i,i<hi->V (ka0 a i))(hk:k<hi)(h0:q<k)(S:Eqs lt a q k)(hr:leK lt (ka0 a k) (ka0 a k))(h:leK lt (ka0 a k) (ka0 a (k-1)))(h':leK lt (ka0 a (k-1)) (ka0 a k)):Eqs lt a q (k+1):=λi j h1 h2 h3 h4=>by
 by_cases e:j=k
 .by_cases e':i=k
  .rw[e,e'];exact hr
  .rw[e];exact O.trans (v i (by omega)) (v (k-1) (by omega)) (v k hk) (S i (k-1) h1 (by omega) (by omega) (by omega)) h'
 .by_cases e':i=k
  .rw[e'];exact O.trans (v k hk) (v (k-1) (by omega)) (v j (by omega)) h (S (k-1) j (by omega) (by omega) h3 (by omega))
  .exact S i j h1 (by omega) h3 (by omega)
theorem Eqs.one(hr:leK lt (ka0 a k) (ka0 a k)):Eqs lt a k (k+1):=λi j h1 h2 h3 h4=>by
 rw[show i=k by omega,show j=k by omega];exact hr
theorem OrdK.refl(O:OrdK V lt)(v:V x):leK lt x x:=by
 cases e:lt x x with
 |false=>exact e
 |true=>exact O.asymm v v e
theorem Dec.mir{b:Ae}(he:e<=a.size)(D:Dec lt a lo hi)(S:Eqs lt a b e)(h1:lo<=b)(h2:e<=hi):Dec lt (mirror a b e ((e-b)/2)) lo hi:=λi j g1 g2 g3=>by
 rw[Lx he,Lx he];by_cases i1:b<=i/\i<e
 .rw[Aq i1];by_cases j1:b<=j/\j<e
  .rw[Aq j1];exact S _ _ (by omega) (by omega) (by omega) (by omega)
  .rw[As j1];exact D _ _ (by omega) (by omega) g3
 .rw[As i1];by_cases j1:b<=j/\j<e
  .rw[Aq j1];exact D _ _ g1 (by omega) (by omega)
  .rw[As j1];exact D _ _ g1 g2 g3
theorem Dec.flip(he:e<=a.size)(D:Dec lt a lo e):Srt lt (mirror a lo e ((e-lo)/2)) lo e:=λi j g1 g2 g3=>by
 rw[Lx he,Lx he,Aq (by omega),Aq (by omega)]
 exact D _ _ (by omega) (by omega) (by omega)
theorem MG{b:Ae}{Q:FW->AU->Prop}(B:BS κ a0 p lo hi st)(h1:lo<=b)(h2:e<=hi)(h3:e<=a0.size)(q:∀ st',BS κ a0 p lo hi st'->Av st'=mirror (Av st) b e ((e-b)/2)->Q ⟨⟩ st'):Bl M A E s (reverseSlice' b e) Q st:=by
 rw[reverseSlice'_eq];exact D7 (q _ ⟨B.kd,B.fl,B.pd,B.up.trans ((cR (by rw[B.up.sz];exact h3)).mono h1 h2)⟩ rfl)
theorem Y_5(C:Hx M A s κ V lt)(O:OrdK V lt)(hv:∀ x∈a0.toList,V x){nrem:Ae}{Q:Am Ae->AU->Prop}(B:BS κ a0 p lo hi st)(h1:1<=nrem)(h3:lo+nrem<=hi)(h4:hi<=a0.size)(q:∀ n st',1<=n->n<=nrem->BS κ a0 p lo hi st'->Srt lt (Av st') lo (lo+n)->Q (Ab n) st'):Bl M A E s (countRun' lo nrem) Q st:=by
 rw[countRun'_eq]
 extract_lets n0
 refine Au (CA (Q:=λx st'=>st=st'/\x.1=Af/\1<=x.2/\x.2<=nrem/\Srt lt (Av st) lo (lo+x.2)/\(x.2<nrem->lt (ka0 (Av st) (lo+x.2)) (ka0 (Av st) (lo+x.2-1))=Aa)) (BC (λi x st'=>st=st'/\x.1=Af/\x.2=i/\Srt lt (Av st) lo (lo+i)) (λi x st' g1 g2 hI=>?_) (λx st' hI=>?_) ⟨rfl,rfl,rfl,Srt.one⟩) λx st' hP=>?_)
 .obtain⟨rfl,b1,b2,S⟩:=hI;obtain⟨x1,n⟩:=x;have b2:n=i:=b2;subst b2
  try extract_lets
  refine Au (Ko C B hv (show lo+n<a0.size by omega) (show lo+n-1<a0.size by omega) ?_)
  show Bl M A E s (if lt (ka0 (Av st) (lo+n)) (ka0 (Av st) (lo+n-1))=Aa then _ else _) _ _
  by_cases e:lt (ka0 (Av st) (lo+n)) (ka0 (Av st) (lo+n-1))=Aa
  .rw[Aq e];exact AA ⟨rfl,rfl,g1,by show n<=nrem;omega,S,λ_=>e⟩
  .rw[As e];exact AA ⟨rfl,rfl,rfl,Srt.snoc O (hi:=a0.size) (k:=lo+n) (λi h=>B.v hv h) (by omega) (by omega) S (by simpa [leK] using e)⟩
 .obtain⟨rfl,b1,b2,S⟩:=hI;rw[show max 1 nrem=nrem by omega]at b2 S
  exact⟨rfl,b1,by omega,by omega,by rw[b2];exact S,λh=>by omega⟩
 obtain⟨rfl,b1,b2,b3,S,b4⟩:=hP;obtain⟨x1,n⟩:=x;dsimp only at b1 b2 b3 S b4;subst b1
 try extract_lets
 show Bl M A E s (if (n==nrem)=Aa then _ else _) _ _
 by_cases e0:(n==nrem)=Aa
 .rw[Aq e0];exact AA (q n _ b2 b3 B S)
 rw[As e0];have e0:¬ n=nrem:=by simpa using e0
 have b4:=b4 (by omega)
 rename_i jp _;have hsz:(Av st).size=a0.size:=B.up.sz;refine MJ (f:=jp) (H:=λst'=>BS κ a0 p lo hi st'/\Dec lt (Av st') lo (lo+n+1)) (λst1 hH=>?_) (λJ=>?_)
 .obtain⟨B1,D1⟩:=hH;refine Au (Kn ?_)
  extract_lets n1 neq0
  refine Au (CA (Q:=λx st'=>x.1=Af/\1<=x.2.1/\x.2.1<=nrem/\BS κ a0 p lo hi st'/\Dec lt (Av st') lo (lo+x.2.1)/\x.2.2+1<=x.2.1/\Eqs lt (Av st') (lo+x.2.1-(x.2.2+1)) (lo+x.2.1)) (BC (λi x st'=>x.1=Af/\x.2.1=i/\BS κ a0 p lo hi st'/\Dec lt (Av st') lo (lo+i)/\x.2.2+1<=i/\Eqs lt (Av st') (lo+i-(x.2.2+1)) (lo+i)) (λi x st' g1 g2 hI=>?_) (λx st' hI=>?_) ⟨rfl,rfl,B1,D1,by show 0+1<=n+1;omega,Eqs.one (O.refl (B1.v hv (by omega)))⟩) λx st' hP=>?_)
  .obtain⟨c1,c2,B2,D2,c3,e2⟩:=hI;obtain⟨x1,m,neq⟩:=x;have c2:m=i:=c2;subst c2;have c3:neq+1<=m:=c3;have e2:Eqs lt (Av st') (lo+m-(neq+1)) (lo+m):=e2;have g1:n+1<=m:=g1;have z2:(Av st').size=a0.size:=B2.up.sz;have v2:∀ i,i<a0.size->V (ka0 (Av st') i):=λi h=>B2.v hv h
   try extract_lets
   refine Au (Ko C B2 hv (show lo+m<a0.size by omega) (show lo+m-1<a0.size by omega) ?_)
   try dsimp -zeta only
   try extract_lets
   by_cases e:lt (ka0 (Av st') (lo+m)) (ka0 (Av st') (lo+m-1))=Aa
   .rw[Aq e];have D3:=Dec.snoc O v2 (show lo+m<a0.size by omega) (by omega) D2 (O.asymm (v2 _ (by omega)) (v2 _ (by omega)) e)
    rename_i jp2 _;refine MJ (f:=jp2) (H:=λst'=>BS κ a0 p lo hi st'/\Dec lt (Av st') lo (lo+m+1)) (λst3 hH=>?_) (λJ=>?_)
    .obtain⟨B3,D3⟩:=hH;exact AA ⟨rfl,rfl,B3,D3,by show 0+1<=m+1;omega,Eqs.one (O.refl (B3.v hv (by omega)))⟩
    .refine Gp ?_ ?_
     .refine Au (MG (b:=lo+m-(neq+1)) (e:=lo+m) B2 (by omega) (by omega) (by omega) λst3 B3 e3=>?_)
      refine J st3 ⟨B3,?_⟩;rw[e3];exact D3.mir (by omega) e2 (by omega) (by omega)
     .exact J _ ⟨B2,D3⟩
   .rw[As e];have e:lt (ka0 (Av st') (lo+m)) (ka0 (Av st') (lo+m-1))=Ad:=by simpa using e
    refine Au (Ko C B2 hv (show lo+m-1<a0.size by omega) (show lo+m<a0.size by omega) ?_)
    show Bl M A E s (if lt (ka0 (Av st') (lo+m-1)) (ka0 (Av st') (lo+m))=Aa then _ else _) _ _
    by_cases f:lt (ka0 (Av st') (lo+m-1)) (ka0 (Av st') (lo+m))=Aa
    .rw[Aq f];exact AA ⟨rfl,by show 1<=m;omega,by show m<=nrem;omega,B2,D2,c3,e2⟩
    .rw[As f];have f:lt (ka0 (Av st') (lo+m-1)) (ka0 (Av st') (lo+m))=Ad:=by simpa using f
     refine AA ⟨rfl,rfl,B2,Dec.snoc O (k:=lo+m) v2 (show lo+m<a0.size by omega) (by omega) D2 f,by show neq+1+1<=m+1;omega,?_⟩
     show Eqs lt (Av st') (lo+(m+1)-(neq+1+1)) (lo+m+1);rw[show lo+(m+1)-(neq+1+1)=lo+m-(neq+1) by omega]
     exact Eqs.snoc O v2 (by omega) (by omega) e2 (O.refl (v2 _ (by omega))) f e
  .obtain⟨c1,c2,B2,D2,c3,e2⟩:=hI;have em:max (n+1) nrem=nrem:=by omega
   have c2:x.2.1=max (n+1) nrem:=c2;have D2:Dec lt (Av st') lo (lo+max (n+1) nrem):=D2;have c3:x.2.2+1<=max (n+1) nrem:=c3;have e2:Eqs lt (Av st') (lo+max (n+1) nrem-(x.2.2+1)) (lo+max (n+1) nrem):=e2;rw[<-c2]at D2 c3 e2;exact⟨c1,by omega,by omega,B2,D2,c3,e2⟩
  .obtain⟨c1,c2,c4,B2,D2,c3,e2⟩:=hP;obtain⟨x1,m,neq⟩:=x;dsimp only at c1 c2 c3 c4 D2 e2;subst c1;have z2:(Av st').size=a0.size:=B2.up.sz
   try dsimp -zeta only
   try extract_lets
   try dsimp -zeta only
   rename_i jp3;refine MJ (f:=jp3) (H:=λst'=>BS κ a0 p lo hi st'/\Dec lt (Av st') lo (lo+m)) (λst3 hH=>?_) (λJ=>?_)
   .obtain⟨B3,D3⟩:=hH;have z3:(Av st3).size=a0.size:=B3.up.sz;refine Au (MG (b:=lo) (e:=lo+m) B3 (Aw _) (by omega) (by omega) λst4 B4 e4=>?_)
    have S4:Srt lt (Av st4) lo (lo+m):=by rw[e4];exact D3.flip (by omega)
    refine Au (CA (Q:=λx st'=>st4=st'/\x.1=Af/\1<=x.2/\x.2<=nrem/\Srt lt (Av st4) lo (lo+x.2)) (BC (λi x st'=>st4=st'/\x.1=Af/\x.2=i/\Srt lt (Av st4) lo (lo+i)) (λi x st' g1 g2 hI=>?_) (λx st' hI=>?_) ⟨rfl,rfl,rfl,S4⟩) λx st' hP=>?_)
    .obtain⟨rfl,b1,b2,S⟩:=hI;obtain⟨x1,n⟩:=x;have b2:n=i:=b2;subst b2;have g1:m<=n:=g1
     try extract_lets
     refine Au (Ko C B4 hv (show lo+n<a0.size by omega) (show lo+n-1<a0.size by omega) ?_)
     show Bl M A E s (if lt (ka0 (Av st4) (lo+n)) (ka0 (Av st4) (lo+n-1))=Aa then _ else _) _ _
     by_cases e:lt (ka0 (Av st4) (lo+n)) (ka0 (Av st4) (lo+n-1))=Aa
     .rw[Aq e];exact AA ⟨rfl,rfl,by show 1<=n;omega,by show n<=nrem;omega,S⟩
     .rw[As e];exact AA ⟨rfl,rfl,rfl,Srt.snoc O (hi:=a0.size) (k:=lo+n) (λi h=>B4.v hv h) (by omega) (by omega) S (by simpa [leK] using e)⟩
    .obtain⟨rfl,b1,b2,S⟩:=hI;have b2:x.2=max m nrem:=b2;have S:Srt lt (Av st4) lo (lo+max m nrem):=S;rw[<-b2]at S;exact⟨rfl,b1,by omega,by omega,S⟩
    .obtain⟨rfl,b1,b2,b3,S⟩:=hP;obtain⟨x1,n⟩:=x;dsimp only at b1 b2 b3 S;subst b1;exact AA (q n _ b2 b3 B4 S)
   .show Bl M A E s (if neq>0 then _ else _) _ _
    refine Gp ?_ ?_
    .refine Au (MG (b:=lo+m-(neq+1)) (e:=lo+m) B2 (by omega) (by omega) (by omega) λst3 B3 e3=>?_)
     refine J st3 ⟨B3,?_⟩;rw[e3];exact D2.mir (by omega) e2 (by omega) (by omega)
    .exact J _ ⟨B2,D2⟩
 .have v0:∀ i,i<a0.size->V (ka0 (Av st) i):=λi h=>B.v hv h
  show Bl M A E s (if n>1 then _ else _) _ _
  by_cases hn:n>1
  .rw[Aq hn];refine Au (Ko C B hv (show lo<a0.size by omega) (show lo+n-1<a0.size by omega) ?_)
   show Bl M A E s (if lt (ka0 (Av st) lo) (ka0 (Av st) (lo+n-1))=Aa then _ else _) _ _
   by_cases e:lt (ka0 (Av st) lo) (ka0 (Av st) (lo+n-1))=Aa
   .rw[Aq e];exact AA (q n _ b2 b3 B S)
   .rw[As e];have e:leK lt (ka0 (Av st) (lo+n-1)) (ka0 (Av st) lo):=by simpa [leK] using e
    refine Au (MG (b:=lo) (e:=lo+n) B (Aw _) (by omega) (by omega) λst3 B3 e3=>?_)
    refine J st3 ⟨B3,?_⟩;have Q0:Eqs lt (Av st) lo (lo+n):=λi j g1 g2 g3 g4=>by
     have x1:leK lt (ka0 (Av st) i) (ka0 (Av st) (lo+n-1)):=by
      by_cases h:i=lo+n-1
      .rw[h];exact O.refl (v0 _ (by omega))
      .exact S i (lo+n-1) g1 (by omega) (by omega)
     have x2:leK lt (ka0 (Av st) lo) (ka0 (Av st) j):=by
      by_cases h:j=lo
      .rw[h];exact O.refl (v0 _ (by omega))
      .exact S lo j (Aw _) (by omega) (by omega)
     exact O.trans (v0 _ (by omega)) (v0 lo (by omega)) (v0 _ (by omega)) (O.trans (v0 _ (by omega)) (v0 (lo+n-1) (by omega)) (v0 lo (by omega)) x1 e) x2
    have D0:Dec lt (Av st) lo (lo+n):=λi j g1 g2 g3=>Q0 j i (by omega) g3 g1 (by omega)
    have D1:=Dec.snoc O v0 (show lo+n<a0.size by omega) (by omega) D0 (O.asymm (v0 _ (by omega)) (v0 _ (by omega)) b4)
    rw[e3];exact D1.mir (by omega) Q0 (Aw _) (by omega)
  .rw[As hn];have:n=1:=by omega
   subst this;exact J _ ⟨B,Dec.snoc O v0 (show lo+1<a0.size by omega) (by omega) (λi j g1 g2 g3=>by omega) (O.asymm (v0 _ (by omega)) (v0 _ (by omega)) b4)⟩
end
section
variable{M:Eo}{A:AT}{E:Vq}{s:Ap}{κ:Eh}{V:At->Prop}{lt:At->At->Ai}
variable{a0:Ax At}{lo hi:Ae}
def Ds(lt:At->At->Ai)(a:Ax At):Ac (Ae×Ae×Ae)->Ae->Ae->Prop
 |[],b,e=>b=e
 |x::r,b,e=>x.1=b/\0<x.2.1/\Srt lt a b (b+x.2.1)/\Ds lt a r (b+x.2.1) e
theorem Ds.le{a:Ax At}:∀{l:Ac (Ae×Ae×Ae)}{b e:Ae},Ds lt a l b e->b+l.length<=e
 |[],b,e,h=>by have h:b=e:=h;rw[h];exact Aw _
 |x::r,b,e,h=>by
  have:=Ds.le h.2.2.2;have:=h.2.1;rw[AS];omega
theorem Ds.mono{a a':Ax At}:∀{l:Ac (Ae×Ae×Ae)}{b e:Ae},Ds lt a l b e->(∀ i,b<=i->i<e->ka0 a' i=ka0 a i)->Ds lt a' l b e
 |[],b,e,h,_=>h
 |x::r,b,e,h,g=>by
  have:=Ds.le h.2.2.2;exact⟨h.1,h.2.1,λi j h1 h2 h3=>by rw[g i h1 (by omega),g j (by omega) (by omega)];exact h.2.2.1 i j h1 h2 h3,Ds.mono h.2.2.2 λi h1 h2=>g i (by omega) h2⟩
theorem Ds.split{a:Ax At}:∀{L R:Ac (Ae×Ae×Ae)}{b e:Ae},Ds lt a (L++R) b e->∃ m,Ds lt a L b m/\Ds lt a R m e
 |[],R,b,e,h=>⟨b,rfl,h⟩
 |x::L,R,b,e,h=>by
  obtain⟨m,h1,h2⟩:=Ds.split (L:=L) h.2.2.2;exact⟨m,⟨h.1,h.2.1,h.2.2.1,h1⟩,h2⟩
theorem Ds.join{a:Ax At}:∀{L R:Ac (Ae×Ae×Ae)}{b m e:Ae},Ds lt a L b m->Ds lt a R m e->Ds lt a (L++R) b e
 |[],R,b,m,e,h,h'=>by have h:b=m:=h;rw[h];exact h'
 |x::L,R,b,m,e,h,h'=>⟨h.1,h.2.1,h.2.2.1,Ds.join h.2.2.2 h'⟩
theorem Ds.modify{a:Ax At}{f:Ae×Ae×Ae->Ae×Ae×Ae}(h1:∀ x,(f x).1=x.1)(h2:∀ x,(f x).2.1=x.2.1):∀{l:Ac (Ae×Ae×Ae)}{i b e:Ae},Ds lt a l b e->Ds lt a (l.modify i f) b e
 |[],i,b,e,h=>by rw[List.modify_nil];exact h
 |x::r,0,b,e,h=>by
  rw[List.modify_zero_cons];unfold Ds at h ⊢;rw[h1,h2];exact h
 |x::r,i+1,b,e,h=>by
  rw[List.modify_succ_cons];exact⟨h.1,h.2.1,h.2.2.1,Ds.modify h1 h2 h.2.2.2⟩
structure RS (κ:Eh) (lt:At->At->Ai) (a0:Ax At) (lo:Ae) (st:AU):Prop where
 kd:kindOf st=κ
 fl:DD st=Af
 up:Upd a0 (Av st) 0 a0.size
 rn:Ds lt (Av st) (Bi st).toList 0 lo
 hl:lo<=a0.size
theorem eF{l:Ac α}(h:i+1<l.length):∃ L x y R,l=L++x::y::R/\L.length=i:=by
 refine⟨l.take i,l[i]'(by omega),l[i+1]'h,l.drop (i+2),?_,by rw[C9];omega⟩
 rw[<-By h,<-By (show i<l.length by omega),DS]
theorem RB(C:Hx M A s κ V lt)(O:OrdK V lt)(hv:∀ x∈a0.toList,V x)(R:RS κ lt a0 lo st)(hi:i+1<(Bi st).size)(q:∀ st',RS κ lt a0 lo st'->(Bi st').size+1=(Bi st).size->(∀ j,lo<=j->ka0 (Av st') j=ka0 (Av st) j)->Q Aa st'):Bl M A E s (Rj i) Q st:=by
 obtain⟨L,⟨sa,na,pw⟩,⟨sb,nb,pw2⟩,T,e,hL⟩:=eF (l:=(Bi st).toList) (i:=i) (by rw[AF];exact hi)
 have rn:=R.rn;rw[e]at rn;obtain⟨m,r1,r2⟩:=rn.split;obtain⟨ea,pa,s1,eb,pb,s2,r3⟩:=r2;dsimp only at ea pa s1 eb pb s2 r3;subst ea;have hle:=r3.le;have hle1:=r1.le;have hhl:=R.hl;have hsz:=R.up.sz;refine X8 C O (sa:=sa) (na:=na) (pw:=pw) (sb:=sb) (nb:=nb) (pw2:=pw2) ?_ ?_ (by omega) pa pb (by omega) (by rw[eb];exact s1) (by rw[eb];exact s2) (λx hx=>hv x (R.up.pm.mem_iff.mp hx)) R.kd R.fl λst' k1 k2 k3 U_ S=>?_
 .rw[<-Cy,e,B0 (by omega),hL,Nat.sub_self];rfl
 .rw[<-Cy,e,B0 (by omega),hL,show i+1-i=1 by omega];rfl
 have ep:(Bi st').toList=L++(sa,na+nb,pw)::T:=by
  rw[k3,Array.toList_eraseIdxIfInBounds,UU,e,<-hL];simp[List.set_append,List.eraseIdx_append];intro h;omega
 refine q st' ⟨k1,k2,R.up.trans (U_.mono (CH _) (by omega)),?_,R.hl⟩ ?_ λj hj=>U_.out j (by omega)
 .rw[ep];refine(r1.mono λi h1 h2=>U_.out i (by omega)).join ⟨rfl,by show 0<na+nb;omega,?_,?_⟩
  .show Srt lt (Av st') sa (sa+(na+nb));rw[show sa+(na+nb)=sb+nb by omega]
   exact S
  .show Ds lt (Av st') T (sa+(na+nb)) lo;rw[show sa+(na+nb)=sa+na+nb by omega]
   exact r3.mono λi h1 h2=>U_.out i (by omega)
 .rw[<-AF,<-AF,ep,e];simp;omega
theorem RS.push{st:AU}{n pw:Ae}(R:RS κ lt a0 lo st)(h1:1<=n)(h2:lo+n<=a0.size)(S:Srt lt (Av st) lo (lo+n)):RS κ lt a0 (lo+n) (setPending st ((Bi st).push (lo,n,pw))):=by
 refine⟨R.kd,R.fl,R.up,?_,h2⟩;show Ds lt (Av st) ((Bi st).push (lo,n,pw)).toList 0 (lo+n);rw[Du];exact R.rn.join ⟨rfl,h1,S,rfl⟩
theorem jA[Ez c]{x y:Ae}:(if c then x else y)=x\/(if c then x else y)=y:=by split<;>simp
theorem gQ{f:Io->Ae->DZ AU Dq α}{H:Ae->AU->Prop}{m:DZ AU Dq α}{Q:α->AU->Prop}(J:∀ n st',H n st'->Bl M A E s (f ⟨⟩ n) Q st')(main:(∀ n st',H n st'->Bl M A E s (f ⟨⟩ n) Q st')->Bl M A E s m Q st):Bl M A E s m Q st:=main J
theorem XC(C:Hx M A s κ V lt)(O:OrdK V lt)(hv:∀ x∈a0.toList,V x){Q:FW->AU->Prop}(hk:kindOf st=κ)(hf:DD st=Af)(ha:Av st=a0)(hp:Bi st=#[])(q:∀ st',kindOf st'=κ->DD st'=Af->(Av st').toList.Perm a0.toList->Srt lt (Av st') 0 a0.size->Q ⟨⟩ st'):Bl M A E s sortRuns' Q st:=by
 rw[sortRuns'_eq];refine Au (Fm ?_);rw[ha]
 extract_lets size mr lo0
 have R0:RS κ lt a0 0 st:=⟨hk,hf,by rw[ha];exact Upd.rfl',by rw[hp];rfl,CH _⟩
 refine Au (CA (Q:=λx st'=>x.1=Af/\RS κ lt a0 a0.size st') (BC (λi x st'=>x.1=Af/\RS κ lt a0 x.2 st'/\i<=x.2) (λi x st' g1 g2 hI=>?_) (λx st' hI=>?_) ⟨rfl,R0,Aw _⟩) λx st' hP=>?_)
 .obtain⟨b1,R,b2⟩:=hI;obtain⟨x1,lo⟩:=x;have R:RS κ lt a0 lo st':=R;have b2:i<=lo:=b2;have hl:=R.hl
  try extract_lets
  show Bl M A E s (if lo ≥ a0.size then _ else _) _ _
  by_cases h1:lo ≥ a0.size
  .rw[Aq h1];refine AA ⟨rfl,?_⟩;have e:lo=a0.size:=by omega
   rw[e]at R;exact R
  rw[As h1];have hsz:=R.up.sz;have hv':∀ x∈(Av st').toList,V x:=λx hx=>hv x (R.up.pm.mem_iff.mp hx)
  have toR:∀ {st2},BS κ (Av st') (Bi st') lo a0.size st2->RS κ lt a0 lo st2:=λB=>⟨B.kd,B.fl,R.up.trans (B.up.mono (CH _) (Aw _)),by rw[B.pd];exact R.rn.mono λi _ h=>B.up.out i (.inl h),hl⟩
  refine Au (Y_5 C O hv' (hi:=a0.size) ⟨R.kd,R.fl,rfl,Upd.rfl'⟩ (show 1<=a0.size-lo by omega) (by omega) (by omega) λn st2 n1 n2 B S=>?_)
  dsimp -zeta only;rename_i jp _ _;refine gQ (f:=jp) (H:=λn st2=>1<=n/\lo+n<=a0.size/\RS κ lt a0 lo st2/\Srt lt (Av st2) lo (lo+n)) (λn st2 hH=>?_) (λJ=>?_)
  .obtain⟨n1,n2,R2,S2⟩:=hH;refine Au (Fm ?_)
   extract_lets lo2 jp2
   refine MJ (f:=jp2) (H:=λst2=>RS κ lt a0 lo st2/\Srt lt (Av st2) lo (lo+n)) (λst3 hH=>?_) (λJ=>?_)
   .obtain⟨R3,S3⟩:=hH;refine Au (D7 ?_);exact AA ⟨rfl,R3.push n1 n2 S3,by show i+1<=lo+n;omega⟩
   .cases hb:(Bi st2).back? with
    |none=>exact J _ ⟨R2,S2⟩
    |some v=>
     obtain⟨s1,n1',pw0⟩:=v;dsimp -zeta only
     extract_lets pw
     refine Au (CA (Q:=λx st3=>x.1=Af/\RS κ lt a0 lo st3/\Srt lt (Av st3) lo (lo+n)) (BC (fun(j:Ae)(x:Am FW×FW)(st3:AU)=>x.1=Af/\RS κ lt a0 lo st3/\Srt lt (Av st3) lo (lo+n)) (λj x st3 _ _ hI=>?_) (λx st3 hI=>hI) ⟨rfl,R2,S2⟩) λx st3 hP=>?_)
     .obtain⟨_,R3,S3⟩:=hI;refine Au (Fm ?_)
      extract_lets p
      cases hq:(if p.size>1 then p[p.size-2]? else Af) with
      |none=>exact AA ⟨rfl,R3,S3⟩
      |some v=>
       obtain⟨f1,f2,older⟩:=v;have p1:p.size>1:=by
        by_cases h:p.size>1
        .exact h
        .rw[As h]at hq;cases hq
       have p1:(Bi st3).size>1:=p1;dsimp -zeta only;refine Gp (AA ⟨rfl,R3,S3⟩) ?_;refine Au (RB C O hv R3 (i:=(Bi st3).size-2) (by omega) λst4 R4 z4 o4=>?_)
       exact AA ⟨rfl,R4,λi j h1 h2 h3=>by rw[o4 i h1,o4 j (by omega)];exact S3 i j h1 h2 h3⟩
     .obtain⟨b1,R3,S3⟩:=hP;obtain⟨x1,x2⟩:=x;have b1:x1=Af:=b1;subst b1;refine Au (D7 ?_);refine J _ ⟨⟨R3.kd,R3.fl,R3.up,?_,R3.hl⟩,S3⟩;show Ds lt (Av st3) ((Bi st3).modify _ _).toList 0 lo;rw[Array.toList_modify];exact Ds.modify (f:=λx=>(x.1,x.2.1,pw)) (λ_=>rfl) (λ_=>rfl) R3.rn
  .show Bl M A E s (if n<mr then _ else _) _ _
   by_cases h2:n<mr
   .rw[Aq h2];refine Au (Kn ?_);refine Au (XM C O hv' (n:=min (a0.size-lo) mr) B n1 (by omega) (by omega) (by omega) S λst3 B3 S3=>?_)
    exact J _ _ ⟨by omega,by omega,toR B3,S3⟩
   .rw[As h2];exact J _ _ ⟨n1,by omega,toR B,S⟩
 .obtain⟨b1,R,b2⟩:=hI;have b2:max 0 a0.size<=x.2:=b2;have:=R.hl;rw[show x.2=a0.size by omega]at R
  exact⟨b1,R⟩
 .obtain⟨b1,R⟩:=hP;obtain⟨x1,lo⟩:=x;have b1:x1=Af:=b1;subst b1
  try extract_lets
  have hle:=R.rn.le;rw[AF]at hle;refine Au (CA (Q:=λx st3=>x.1=Af/\RS κ lt a0 a0.size st3/\(Bi st3).size<=1) (BC (λj x st3=>x.1=Af/\RS κ lt a0 a0.size st3/\((Bi st3).size<=1\/(Bi st3).size+j<=a0.size)) (λj x st3 _ _ hI=>?_) (λx st3 hI=>?_) ⟨rfl,R,.inr (by omega)⟩) λx st3 hP=>?_)
  .obtain⟨c1,R3,c2⟩:=hI
   try extract_lets
   refine Au (Fm ?_)
   extract_lets p
   show Bl M A E s (if (Bi st3).size<=1 then _ else _) _ _
   by_cases h:(Bi st3).size<=1
   .rw[Aq h];exact AA ⟨rfl,R3,h⟩
   rw[As h];rename_i i1;have hi:i1=(Bi st3).size-2-1\/i1=(Bi st3).size-2:=jA;have hi:i1+1<(Bi st3).size:=by omega
   refine Au (RB C O hv R3 hi λst4 R4 z4 o4=>?_)
   exact AA ⟨rfl,R4,.inr (by omega)⟩
  .obtain⟨c1,R3,c2⟩:=hI;have c2:(Bi st3).size<=1\/(Bi st3).size+max 0 a0.size<=a0.size:=c2;exact⟨c1,R3,by omega⟩
  .obtain⟨c1,R3,c2⟩:=hP;obtain⟨x1,x2⟩:=x;have c1:x1=Af:=c1;subst c1;refine AA (q _ R3.kd R3.fl R3.up.pm ?_);have rn:=R3.rn;cases hl:(Bi st3).toList with
   |nil=>
    rw[hl]at rn;have rn:0=a0.size:=rn;exact λi j h1 h2 h3=>by omega
   |cons x r=>
    rw[hl]at rn;have:r.length=0:=by
     have:=congrArg Jv hl;rw[AF,AS]at this;omega
    have hr:=Vd.mp this;rw[hr]at rn;obtain⟨_,_,S,e⟩:=rn;have e:0+x.2.1=a0.size:=e;rw[e]at S;exact S
end
end Ov
namespace Ov
open PySem PySem.W PyProof.Rows
variable{h:AD}{v:Aj}{r q:Ac Ag}{rs:Ac (Ac Ag)}{vs:Ac Aj}
structure Sto (lt:Ae->Ae->Ai) (n:Ae):Prop where
 tr:∀ i j k,i<n->j<n->k<n->lt i j=Aa->lt j k=Aa->lt i k=Aa
 tot:∀ i j,i<n->j<n->i≠j->lt i j=Ad->lt j i=Aa
 asy:∀ i j,i<n->j<n->lt i j=Aa->lt j i=Ad
noncomputable def at0(p:Ax Ae)(x:Ae):Ae:=p.getD x 0
structure Pm (n:Ae) (p:Ax Ae):Prop where
 sz:p.size=n
 lt:∀ x,x<n->at0 p x<n
 inj:∀ x y,x<n->y<n->at0 p x=at0 p y->x=y
section
variable{lt:Ae->Ae->Ai}{n:Ae}
def KS(lt:Ae->Ae->Ai)(p:Ax Ae)(m:Ae):Prop:=∀ x y,x<y->y<m->lt (at0 p x) (at0 p y)=Aa
theorem YK(n:Ae):Pm n (Cn (A8 n)):=by
 have e:∀ x,x<n->at0 (Cn (A8 n)) x=x:=λx hx=>by simp[at0,DI,hx]
 exact⟨by simp,λx hx=>by rw[e x hx];exact hx,λx y hx hy h=>by rw[e x hx,e y hy]at h;exact h⟩
end
def Ep(h:AD)(v:Aj)(r:Ac Ag):Prop:=∃ a its,v=.ref a/\JW h a its/\Ev its.toList r/\r≠[]
theorem Ep.kept{h':AD}(t:Ep h v r)(k:∀ b o,h.get? b=Ab o->h'.get? b=Ab o):Ep h' v r:=by
 obtain⟨a,its,e,⟨o,ho,q⟩,i,n⟩:=t;exact⟨a,its,e,⟨o,k _ _ ho,q⟩,i,n⟩
noncomputable def B7:Ac Ag->Ac Ag->Ai
 |[],[]=>Ad
 |[],_::_=>Aa
 |_::_,[]=>Ad
 |x::xs,y::ys=>if x=y then B7 xs ys else decide (x<y)
section
variable{prog:AM}{w:AY}{A:AT}{E:Vq}{s:Ap}
theorem SJ{C:Ai->Ap->Prop}:∀{vs us:Ac Aj}{r q:Ac Ag}(i:Ae),Ev vs r->Ev us q->C (B7 r q) s->KatLex prog w A Aa (decide (vs.length<us.length)) C (vs.zip us) i s
 |[],[],[],[],i,_,_,h=>by
  have h':C Ad s:=h;exact kat_nil h'
 |[],u::us,[],y::q,i,_,_,h=>by
  have h':C Aa s:=h;refine kat_nil ?_;have e:decide (([]:Ac Aj).length<(u::us).length)=Aa:=by simp
  rw[e];exact h'
 |v::vs,[],x::r,[],i,_,_,h=>by
  have h':C Ad s:=h;exact kat_nil h'
 |v::vs,u::us,x::r,y::q,i,hv,hu,h=>by
  cases hv with
  |cons _ tv hv=>
   cases hu with
   |cons _ tu hu=>
    have e0:decide ((GP x tv::vs).length<(GP y tu::us).length)=decide (vs.length<us.length):=by simp
    rw[e0];refine kat_cons (Xh ?_);by_cases e:x=y
    .have e1:(x==y)=Aa:=by simp[e]
     rw[e1];refine kat_yes (SJ (i+1) hv hu ?_);have h':C (if x=y then B7 r q else decide (x<y)) s:=h
     rw[Aq e]at h';exact h'
    .have e1:(x==y)=Ad:=by simp[e]
     rw[e1];have h':C (decide (x<y)) s:=by
      have h':C (if x=y then B7 r q else decide (x<y)) s:=h
      rwa [As e]at h'
     refine kat_no ?_;cases i with
     |zero=>exact oneLt_int h'
     |succ i=>
      have e2:(Aa&&(i+1==0))=Ad:=rfl;rw[e2];exact kat_one _ _ (wpAny_lt_int h')
 |[],_,_::_,_,_,hv,_,_=>nomatch hv
 |_::_,_,[],_,_,hv,_,_=>nomatch hv
 |_,[],_,_::_,_,_,hu,_=>nomatch hu
 |_,_::_,_,[],_,_,hu,_=>nomatch hu
theorem gK{C:Ai->Ap->Prop}{u:Aj}(hv:Ep s.heap v r)(hu:Ep s.heap u q)(h:C (B7 r q) s):AB (model prog w) A (keyLt' (tuples' Aa) v u) C E s:=by
 obtain⟨a,xs,rfl,⟨oa,ga,_,n,da⟩,ix,_⟩:=hv;obtain⟨b,ys,rfl,⟨ob,gb,_,m,db⟩,iy,_⟩:=hu;refine kat_lt ga da gb db ?_;have:=SJ (prog:=prog) (w:=w) (A:=A) (s:=s) 0 ix iy h;simpa using this
theorem Lm:∀{r q:Ac Ag},B7 r q=Aa->B7 q r=Ad
 |[],[],h=>by cases h
 |[],_::_,_=>rfl
 |_::_,[],h=>by cases h
 |x::r,y::q,h=>by
  have h':(if x=y then B7 r q else decide (x<y))=Aa:=h
  show (if y=x then B7 q r else decide (y<x))=Ad
  by_cases e:x=y
  .rw[Aq e]at h';rw[Aq e.symm];exact Lm h'
  .rw[As e,AQ]at h';rw[As (Ed e),Fv];omega
theorem Mi:∀{r q:Ac Ag},r≠q->B7 r q=Ad->B7 q r=Aa
 |[],[],n,_=>absurd rfl n
 |[],_::_,_,h=>by cases h
 |_::_,[],_,_=>rfl
 |x::r,y::q,n,h=>by
  have h':(if x=y then B7 r q else decide (x<y))=Ad:=h
  show (if y=x then B7 q r else decide (y<x))=Aa
  by_cases e:x=y
  .rw[Aq e]at h';rw[Aq e.symm];exact Mi (λz=>n (by rw[e,z])) h'
  .rw[As e,Fv]at h';rw[As (Ed e),AQ];omega
theorem Mm:∀{r q t:Ac Ag},B7 r q=Aa->B7 q t=Aa->B7 r t=Aa
 |[],[],_,h,_=>by cases h
 |_::_,[],_,h,_=>by cases h
 |_,_::_,[],_,h=>by cases h
 |[],_::_,_::_,_,_=>rfl
 |x::r,y::q,u::t,h,g=>by
  have h':(if x=y then B7 r q else decide (x<y))=Aa:=h
  have g':(if y=u then B7 q t else decide (y<u))=Aa:=g
  show (if x=u then B7 r t else decide (x<u))=Aa
  by_cases e:x=y
  .rw[Aq e]at h';by_cases f:y=u
   .rw[Aq f]at g';rw[Aq (e.trans f)];exact Mm h' g'
   .rw[As f,AQ]at g';rw[As (by omega),AQ]
    omega
  .rw[As e,AQ]at h';by_cases f:y=u
   .rw[As (by omega),AQ]
    omega
   .rw[As f,AQ]at g';rw[As (by omega),AQ]
    omega
noncomputable def ltR(rs:Ac (Ac Ag))(i j:Ae):Ai:=B7 (rs.getD i []) (rs.getD j [])
theorem Y_7(nd:rs.Nodup):Sto (ltR rs) rs.length:=by
 refine⟨λi j k _ _ _=>Mm,λi j hi hj ne h=>Mi (λe=>ne ?_) h,λi j _ _=>Lm⟩
 have h':=Cv.mp nd;rw[Ba,Ba,AE hi,AE hj]at e;have e':rs[i]=rs[j]:=e;rcases Vv i j with z|z|z
 .exact absurd e' (h' i j hi hj z)
 .exact z
 .exact absurd e'.symm (h' j i hj hi z)
noncomputable abbrev Jr(vs:Ac Aj)(p:Ax Ae):Ax Aj:=Cn (p.toList.map λi=>vs.getD i A3)
theorem Yr(vs:Ac Aj):Jr vs (Cn (A8 vs.length))=vs.toArray:=by
 apply He.mp
 show (A8 vs.length).map (λi=>vs.getD i A3)=vs
 apply Hg
 .simp
 .intro i h1 h2;simp[h2]
theorem QR{h:AD}:∀{vs:Ac Aj}{rs:Ac (Ac Ag)},rs.length=vs.length->(∀(i:Ae)(v:Aj)(r:Ac Ag),vs[i]?=Ab v->rs[i]?=Ab r->Ep h v r)->∃ fs,KatTups h vs fs/\fs.length=vs.length/\∀ v∈fs,∃ x t,v=GP x t
 |[],_,_,_=>⟨[],KatTups.nil,rfl,λv hv=>by cases hv⟩
 |v::vs,[],hl,_=>by cases hl
 |v::vs,r::rs,hl,ht=>by
  obtain⟨fs,h1,h2,h3⟩:=QR (vs:=vs) (rs:=rs) (by simpa using hl) λi v r a b=>ht (i+1) v r a b
  obtain⟨a,its,rfl,⟨o,ho,hc,n,hd⟩,hi,hne⟩:=ht 0 v r rfl rfl;cases e:its.toList with
  |nil=>
   rw[e]at hi;cases hi;exact absurd rfl hne
  |cons f l=>
   rw[e]at hi;cases hi with
   |cons x t hi=>
    refine⟨.int x t::fs,KatTups.cons ho hc hd ?_ h1,by simp[h2],λv hv=>?_⟩
    .rw[<-Cy,e];rfl
    .rcases AI.mp hv with rfl|hv
     .exact⟨x,t,rfl⟩
     .exact h3 v hv
theorem ZG{α:Type}(d:α){l' l:Ac α}(h:l'.Perm l):∃ p:Ac Ae,p.Perm (A8 l.length)/\l'=p.map λi=>l.getD i d:=by
 induction h with
 |nil=>exact⟨[],.nil,rfl⟩
 | @cons x l1 l2 h ih=>
  obtain⟨p,hp,e⟩:=ih;refine⟨0::p.map (· + 1),?_,?_⟩
  .rw[AS,EC];exact(hp.map _).cons 0
  .rw[BP,Dl,e];rfl
 | @swap x y l=>
  refine⟨1::0::(A8 l.length).map (· + 2),?_,?_⟩
  .rw[AS,AS,EC,EC,BP,Dl];exact .swap ..
  .rw[BP,BP,Dl];show y::x::l=_
   congr 2
   apply Hg
   .simp
   .intro i h1 h2;simp[h1]
 | @trans l1 l2 l3 h1 h2 ih1 ih2=>
  obtain⟨p,hp,e⟩:=ih1;obtain⟨q,hq,f⟩:=ih2;have hl:l2.length=l3.length:=h2.length_eq;have ql:q.length=l3.length:=by rw[hq.length_eq,G5]
  refine⟨p.map λi=>q.getD i 0,?_,?_⟩
  .refine(hp.map _).trans (U_5 (Hz ?_) hq)
   apply Hg
   .rw[AX,G5,hl,ql]
   .intro i h1 h2;rw[List.getElem_map,List.getElem_range];simp[h2]
  .rw[e,Dl]
   apply En
   intro i hi;have hi':i<l2.length:=DC.mp (hp.mem_iff.mp hi);show l2.getD i d=l3.getD (q.getD i 0) d;have g1:l2.getD i d=(q.map λi=>l3.getD i d).getD i d:=by rw[<-f]
   rw[g1];have hq':i<q.length:=by omega
   simp[hq']
theorem Ev.uniq(h:Ev vs r)(h':Ev vs q):r=q:=by rw[<-h.nums,<-h'.nums]
theorem Ep.uniq{h:AD}{v:Aj}{r q:Ac Ag}(t:Ep h v r)(u:Ep h v q):r=q:=by
 obtain⟨a,its,rfl,⟨o,ho,hc,n,hd⟩,hi,_⟩:=t;obtain⟨b,its',e,⟨o',ho',hc',n',hd'⟩,hi',_⟩:=u;cases e;rw[ho]at ho';cases ho';rw[hd]at hd';cases hd';exact Ev.uniq hi hi'
open Classical in
noncomputable def ltK(h:AD)(x y:At):Ai:=decide (∃ r q,Ep h x.1 r/\Ep h y.1 q/\B7 r q=Aa)
open Classical in
theorem JQ{x y:At}(t:Ep h x.1 r)(u:Ep h y.1 q):ltK h x y=B7 r q:=by
 unfold ltK;cases e:B7 r q with
 |true=>exact DH ⟨r,q,t,u,e⟩
 |false=>
  refine Bu λ⟨r',q',t',u',e'⟩=>?_
  rw[t'.uniq t,u'.uniq u,e]at e';cases e'
theorem ZI(h:AD):OrdK (λx=>∃ r,Ep h x.1 r) (ltK h):=by
 refine⟨λ⟨r,t⟩ ⟨q,u⟩ e=>?_,λ⟨r,t⟩ ⟨q,u⟩ ⟨p,v⟩ e1 e2=>?_⟩
 .rw[JQ t u]at e;rw[JQ u t];exact Lm e
 .rw[JQ u t]at e1;rw[JQ v u]at e2;rw[JQ v t];cases e:B7 p r with
  |false=>rfl
  |true=>
   by_cases a:p=q
   .rw[a,e1]at e;cases e
   .have x:=Mi a e2;have y:=Mm x e;rw[e1]at y;cases y
theorem Zk:Hx (model prog w) A s (tuples' Aa) (λx=>∃ r,Ep s.heap x.1 r) (ltK s.heap):=λE st x y Q hk ⟨r,t⟩ ⟨q,u⟩ h=>by
 rw[lt'_eq];refine Au (Fm ?_);rw[hk];rw[JQ t u]at h;refine Au (wpS_lift (FQ (gK t u ⟨rfl,?_⟩)));exact AA h
theorem aS(hr:rs.length=vs.length)(kt:∀(i:Ae)(v:Aj)(r:Ac Ag),vs[i]?=Ab v->rs[i]?=Ab r->Ep s.heap v r)(nd:rs.Nodup):AB (model prog w) A ((sortRuns').run (JX (tuples' Aa) (vs.toArray.zip vs.toArray) #[] 7 Af)) (λr s'=>s'=s/\∃ p,Pm vs.length p/\KS (ltR rs) p vs.length/\(Av r.2).map (·.2)=Jr vs p/\DD r.2=Af) E s:=by
 have tl:(vs.toArray.zip vs.toArray).toList=vs.zip vs:=by simp
 have zl:(vs.zip vs).length=vs.length:=by simp
 have zg:∀ i (h:i<vs.length),(vs.zip vs).getD i (A3,A3)=(vs[i],vs[i]):=λi h=>by simp[h]
 refine XC (st:=JX (tuples' Aa) (vs.toArray.zip vs.toArray) #[] 7 Af) (Q:=λ_ st'=>∃ p,Pm vs.length p/\KS (ltR rs) p vs.length/\(Av st').map (·.2)=Jr vs p/\DD st'=Af) (V:=λx=>∃ r,Ep s.heap x.1 r) (a0:=vs.toArray.zip vs.toArray) Zk (ZI s.heap) (λx hx=>?_) rfl rfl rfl rfl λst' _ hf pm so=>?_
 .rw[tl]at hx;obtain⟨i,hi,rfl⟩:=Em hx;rw[zl]at hi;rw[List.getElem_zip];exact⟨_,kt i _ _ (AE hi) (AE (by omega:i<rs.length))⟩
 .rw[tl]at pm;obtain⟨p,hp,e⟩:=ZG (A3,A3) pm;rw[zl]at hp;have pl:p.length=vs.length:=by rw[hp.length_eq,G5]
  have pn:p.Nodup:=hp.symm.nodup List.nodup_range;have pa:∀ x (h:x<vs.length),at0 p.toArray x=p[x]'(by omega):=λx h=>by simp[at0,DI,show x<p.length by omega]
  have plt:∀ x (h:x<vs.length),p[x]'(by omega)<vs.length:=λx h=>DC.mp (hp.mem_iff.mp (BH (by omega)))
  have PM:Pm vs.length p.toArray:=by
   refine⟨by simpa using pl,λx hx=>by rw[pa x hx];exact plt x hx,λx y hx hy h=>?_⟩
   rw[pa x hx,pa y hy]at h;have:=Cv.mp pn;rcases Vv x y with z|z|z
   .exact absurd h (this x y (by omega) (by omega) z)
   .exact z
   .exact absurd h.symm (this y x (by omega) (by omega) z)
  have ka:∀ x (h:x<vs.length),ka0 (Av st') x=(vs[p[x]'(by omega)]'(plt x h),vs[p[x]'(by omega)]'(plt x h)):=λx h=>by
   rw[Kl,e,Cp,AE (by omega)]
   show (vs.zip vs).getD p[x] (A3,A3)=_;rw[zg _ (plt x h)]
  have kr:∀ x (h:x<vs.length),Ep s.heap (ka0 (Av st') x).1 (rs.getD (p[x]'(by omega)) []):=λx h=>by
   rw[ka x h];have:=plt x h;refine kt _ _ _ (AE this) ?_;rw[Ba,AE (by omega)]
   rfl
  have zs:(vs.toArray.zip vs.toArray).size=vs.length:=by simp
  refine⟨p.toArray,PM,λx y hxy hy=>?_,?_,hf⟩
  .have g:=so x y (CH _) hxy (by rw[zs];exact hy)
   have hx:x<vs.length:=by omega
   have g:ltK s.heap (ka0 (Av st') y) (ka0 (Av st') x)=Ad:=g;rw[JQ (kr y hy) (kr x hx)]at g;rw[pa x hx,pa y hy];have S:=Y_7 nd;refine S.tot _ _ (by rw[hr];exact plt y hy) (by rw[hr];exact plt x hx) (λh=>?_) g
   have:=PM.inj y x hy hx (by rw[pa x hx,pa y hy];exact h)
   omega
  .apply He.mp
   rw[Array.toList_map,e,Dl];show _=p.map λi=>vs.getD i A3
   apply En
   intro i hi;have hi':i<vs.length:=DC.mp (hp.mem_iff.mp hi);show ((vs.zip vs).getD i (A3,A3)).2=_;rw[zg i hi'];simp[hi']
theorem Xv{a:Ak}{n:Ae}{P:PySem.Fin->Ap->Prop}(ho:s.heap.get? a=Ab (Dc "list" vs.toArray n))(hr:rs.length=vs.length)(ht:∀(i:Ae)(v:Aj)(r:Ac Ag),vs[i]?=Ab v->rs[i]?=Ab r->Ep s.heap v r)(nd:rs.Nodup)(hz:vs.length<=1000)(h:∀ p:Ax Ae,Pm vs.length p->KS (ltR rs) p vs.length->P (.done (.ret .none)) {s with heap:=sortedHeap s.heap a vs (Jr vs p)}):AB (model prog w) A (Builtin.«list.sort» ⟨[.ref a],[]⟩) P E s:=by
 rw[list_sort_plain];have ha:a<s.heap.objs.size:=AL ho;refine Ao (listItems_at ho rfl ?_ );refine Ao (listUpdate_at ho rfl ?_ (by rw[AH,B9];omega) (CH _))
 obtain⟨e1,ho1⟩:∃ e1,(s.heap.update a (C6 λ_=>(#[]:Ax Aj))).get? a=Ab (Dc "list" #[] e1):=⟨_,get?_update_seq ho (λ_=>#[])⟩
 refine Ao (seqEpoch_at ho1 rfl ?_);refine Ao (Xk ?_ (by show vs.length<=_;rw[B9];omega))
 refine Ao (wpAny_newList ?_ (CH _));refine IW ?_;have ho6:(((s.heap.update a (C6 λ_=>(#[]:Ax Aj))).push (Dc "tuple" vs.toArray 0)).push (Dc "list" #[] 0)).get? a=Ab (Dc "list" #[] e1):=by
  rw[FC _ _ _ (by rw[size_push',Hn];exact Bj (Cq ha)),FC _ _ _ (by rw[Hn];exact Bj ha)]
  exact ho1
 show AB (model prog w) A _ P E { s with heap:=((s.heap.update a (C6 λ_=>(#[]:Ax Aj))).push (Dc "tuple" vs.toArray 0)).push (Dc "list" #[] 0) }
 have kt:∀(i:Ae)(v:Aj)(r:Ac Ag),vs[i]?=Ab v->rs[i]?=Ab r->Ep (((s.heap.update a (C6 λ_=>(#[]:Ax Aj))).push (Dc "tuple" vs.toArray 0)).push (Dc "list" #[] 0)) v r:=λi v r h1 h2=>by
  obtain⟨b,its,e,⟨o,hb,hc,q⟩,x,y⟩:=ht i v r h1 h2;have ne:b≠a:=λz=>by
   rw[z,ho]at hb;cases hb;have hc':Fn "list" = Fn "tuple" := hc
   injection hc' with hc'
   exact absurd hc' (by decide)
  refine⟨b,its,e,⟨o,?_,hc,q⟩,x,y⟩;exact Ar _ (Ar _ ((C4 _ _ (Ed ne)).trans hb))
 dsimp only;have hsz:vs.toArray.size=vs.length:=by simp
 have fin:∀ p:Ax Ae,Pm vs.length p->KS (ltR rs) p vs.length->∀ st':AU,(Av st').map (·.2)=Jr vs p->DD st'=Af->∀ s':Ap,s'={ s with heap:=((s.heap.update a (C6 λ_=>(#[]:Ax Aj))).push (Dc "tuple" vs.toArray 0)).push (Dc "list" #[] 0) }->AB (model prog w) A (do
   let sorted:=(Av st').map (·.2)
   let touched:=(<-seqEpoch a) != e1
   Builtin.List.listUpdate (.ref a) λ_=>sorted
   if let Ab e:=DD st' then rule "list.sort.comparison-raised"; throw e
   if touched then rule "list.sort.modified"; raiseError "ValueError" "list modified during sort"
   ret .none) P E s':=λp hp hs st' ho' hf s' es=>by
  subst es;have osz:(Jr vs p).size=vs.length:=by show (Cn (p.toList.map _)).size=_;rw[AH,AX,AF,hp.sz]
  refine Ao (seqEpoch_at ho6 rfl ?_);rw[ho',hf];refine Ao (listUpdate_at ho6 rfl ?_ (CH _) (by rw[osz,B9];omega))
  simp only[bne_self_eq_false,Bool.false_eq_true,JV];exact AK (h p hp hs)
 by_cases h2:vs.toArray.size<2
 .rw[Aq h2,Aq h2];refine Ao (AK ?_);rw[StateT.run_pure];refine Ao (AK ?_);dsimp only;refine fin (Cn (A8 vs.length)) (YK _) (λx y a b=>by omega) (JX general' (vs.toArray.zip vs.toArray) #[] 7 Af) ?_ rfl _ rfl
  rw[Yr];show (vs.toArray.zip vs.toArray).map (·.2)=vs.toArray
  apply He.mp
  simp[List.map_snd_zip]
 .rw[As h2,As h2];have h2':2<=vs.length:=by rw[hsz]at h2;omega
  obtain⟨fs,t1,t2,t3⟩:=QR hr kt;refine Ao (kat_kind t1 (by omega) (T:=Fn "int") (λv hv=>?_) rfl ?_)
  .obtain⟨x,t,rfl⟩:=t3 v hv;exact .now
  .have e0:tuples' (Fn "int" != Fn "tuple")=tuples' Aa:=rfl;rw[e0];refine Ao (Bt (aS hr kt nd) ?_ λ_ _ e=>e)
   rintro⟨⟨⟩,st'⟩ s' ⟨es,p,hp,hs,ho',hf⟩;exact fin p hp hs st' ho' hf s' es
theorem X9{l:Ak}{Q:Vq}(hl:s.heap.IsList l vs.toArray)(hr:rs.length=vs.length)(ht:∀(i:Ae)(v:Aj)(r:Ac Ag),vs[i]?=Ab v->rs[i]?=Ab r->Ep s.heap v r)(nd:rs.Nodup)(hz:vs.length<=1000)(h:∀ p:Ax Ae,Pm vs.length p->KS (ltR rs) p vs.length->Q (.ref (s.heap.objs.size+1)) {s with heap:=sortedAll s.heap vs (Jr vs p)}):
    AB (model prog w) A (call (.builtin "sorted") [.ref l]) Q E s:=by
  refine Calls.call_function_entry kind_sorted plain_sorted entry_sorted (args_sorted1 _) ?_;unfold Builtin.«sorted»;refine Ao (m:=checkCount "sorted" 1 1 _) (AK ?_);refine Ao (collect_list hl ?_ (by rw[B9];omega))
  refine Ao (wpAny_newList ?_ (by rw[B9];omega))
  have hsz:((s.heap.push (Dc "list" #[] 0)).update s.heap.objs.size (C6 (· ++ vs.toArray))).objs.size=s.heap.objs.size+1:=by
    rw[Hn,size_push']
  have hoL:(((s.heap.push (Dc "list" #[] 0)).update s.heap.objs.size (C6 (· ++ vs.toArray))).push (Dc "list" vs.toArray 0)).get? (s.heap.objs.size+1)=Ab (Dc "list" vs.toArray 0):=by
    rw[<-hsz];exact AJ _ rfl
  have keep:∀ b o,s.heap.get? b=Ab o->(((s.heap.push (Dc "list" #[] 0)).update s.heap.objs.size (C6 (· ++ vs.toArray))).push (Dc "list" vs.toArray 0)).get? b=Ab o:=λb o q=>by
    have hlt:b<s.heap.objs.size:=AL q;rw[FC _ _ _ (by rw[hsz];exact Bj (Cq hlt)),Heap.get?_update_ne _ _ _ _ (Bj hlt),FC _ _ _ (Bj hlt)]
    exact q
  show AB _ _ _ _ _ { s with heap:=((s.heap.push (Dc "list" #[] 0)).update s.heap.objs.size (C6 (· ++ vs.toArray))).push (Dc "list" vs.toArray 0) }
  rw[hsz];refine Ao (IW (Da slot_list_sort ⟨_,hoL,rfl⟩ entry_list_sort (Xv (s:={ s with heap:=((s.heap.push (Dc "list" #[] 0)).update s.heap.objs.size (C6 (· ++ vs.toArray))).push (Dc "list" vs.toArray 0) }) hoL hr (λi v r h1 h2=>(ht i v r h1 h2).kept keep) nd hz λp hp hs=>⟨_,rfl,?_⟩) (args_list_sort _)))
  exact AK ⟨_,rfl,h p hp hs⟩
end
end Ov
section
namespace Ov
noncomputable def tI(r:Ac Ag):D:=.tup (r.map D.int)
theorem NR:∀(r q:Ac Ag),eqDs (r.map D.int) (q.map D.int)=decide (r=q)
 |[],[]=>rfl
 |[],_::_=>rfl
 |_::_,[]=>rfl
 |x::r,y::q=>by
  have e:eqDs ((x::r).map D.int) ((y::q).map D.int)=(x==y&&eqDs (r.map D.int) (q.map D.int)):=rfl;rw[e,NR r q];by_cases h:x=y<;>by_cases g:r=q<;>simp[h,g]
theorem SZ(r q:Ac Ag):eqD (tI r) (tI q)=decide (r=q):=NR r q
theorem QJ:∀(r q:Ac Ag),ltD.ltDs (ltD 0) (r.map D.int) (q.map D.int)=B7 r q
 |[],[]=>rfl
 |[],_::_=>rfl
 |_::_,[]=>rfl
 |x::r,y::q=>by
  have e:ltD.ltDs (ltD 0) ((x::r).map D.int) ((y::q).map D.int)=if (x==y)=Aa then ltD.ltDs (ltD 0) (r.map D.int) (q.map D.int) else decide (x<y):=rfl
  have e':B7 (x::r) (y::q)=if x=y then B7 r q else decide (x<y):=rfl
  rw[e,e',QJ r q];by_cases h:x=y<;>simp[h]
theorem iR(r q:Ac Ag):ltD 1 (tI r) (tI q)=B7 r q:=QJ r q
theorem Sc:∀{xs:Ac D},xs.all (rkD 0)=Aa->∃ r:Ac Ag,xs=r.map D.int
 |[],_=>⟨[],rfl⟩
 |x::xs,h=>by
  rw[C5,Al]at h;obtain⟨r,e⟩:=Sc h.2;cases x with
  |int i=>exact⟨i::r,by rw[e];rfl⟩
  |_=>cases h.1
theorem lZ{d:D}(h:rkD 1 d=Aa):∃ r,d=tI r:=by
 cases d with
 |tup xs=>
  obtain⟨r,e⟩:=Sc (xs:=xs) h;exact⟨r,by rw[e];rfl⟩
 |_=>cases h
theorem Tq:∀{xs:Ac D},xs.all (λd=>rkD 1 d && !eqD d (.tup []))=Aa->∃ rs:Ac (Ac Ag),xs=rs.map tI/\∀ r∈rs,r≠[]
 |[],_=>⟨[],rfl,λr h=>by cases h⟩
 |x::xs,h=>by
  rw[C5,Al,Al]at h;obtain⟨rs,e,hn⟩:=Tq h.2;obtain⟨r,e1⟩:=lZ h.1.1;refine⟨r::rs,by rw[e,e1];rfl,λq hq=>?_⟩
  rcases AI.mp hq with rfl|hq
  .intro z;have h2:=h.1.2;rw[e1,z]at h2;cases h2
  .exact hn q hq
theorem Tr:∀{rs:Ac (Ac Ag)},(∀ r∈rs,r≠[])->(rs.map tI).all (λd=>rkD 1 d && !eqD d (.tup []))=Aa
 |[],_=>rfl
 |r::rs,h=>by
  rw[BP,C5,Al,Al];refine⟨⟨?_,?_⟩,Tr λq hq=>h q (AC _ hq)⟩
  .show (r.map D.int).all (rkD 0)=Aa;rw[C8];intro d hd;obtain⟨i,_,rfl⟩:=E7.mp hd;rfl
  .have e:eqD (tI r) (.tup [])=decide (r=[]):=NR r [];rw[e];have:=h r (AN ..);simp[this]
noncomputable def HZ(x:Ac Ag):Ac (Ac Ag)->Ac (Ac Ag)
 |[]=>[x]
 |y::ys=>if B7 y x=Aa then y::HZ x ys else x::y::ys
noncomputable def Gs:Ac (Ac Ag)->Ac (Ac Ag)
 |[]=>[]
 |x::xs=>HZ x (Gs xs)
theorem SM(x:Ac Ag):∀ ys:Ac (Ac Ag),KR (ltD 1) (tI x) (ys.map tI)=(HZ x ys).map tI
 |[]=>rfl
 |y::ys=>by
  have e:KR (ltD 1) (tI x) ((y::ys).map tI)=if ltD 1 (tI y) (tI x)=Aa then tI y::KR (ltD 1) (tI x) (ys.map tI) else tI x::tI y::ys.map tI:=rfl
  have e':HZ x (y::ys)=if B7 y x=Aa then y::HZ x ys else x::y::ys:=rfl
  rw[e,e',iR,SM x ys];by_cases h:B7 y x=Aa<;>simp[h]
theorem Ow:∀ rs:Ac (Ac Ag),MO (ltD 1) (rs.map tI)=(Gs rs).map tI
 |[]=>rfl
 |r::rs=>by
  show KR (ltD 1) (tI r) (MO (ltD 1) (rs.map tI))=(HZ r (Gs rs)).map tI;rw[Ow rs,SM]
theorem N7(x:Ac Ag):∀ ys:Ac (Ac Ag),(HZ x ys).Perm (x::ys)
 |[]=>.refl _
 |y::ys=>by
  show (if B7 y x=Aa then y::HZ x ys else x::y::ys).Perm _
  split
  .exact(Ib y (N7 x ys)).trans (List.Perm.swap ..)
  .exact .refl _
theorem Lb:∀ rs:Ac (Ac Ag),(Gs rs).Perm rs
 |[]=>.refl _
 |r::rs=>(N7 r _).trans (Ib r (Lb rs))
theorem SN(x:Ac Ag):∀{ys:Ac (Ac Ag)},x∉ys->ys.Pairwise (λa b=>B7 a b=Aa)->(HZ x ys).Pairwise (λa b=>B7 a b=Aa)
 |[],_,_=>List.pairwise_singleton ..
 |y::ys,hx,h=>by
  show (if B7 y x=Aa then y::HZ x ys else x::y::ys).Pairwise _
  obtain⟨h1,h2⟩:=DM.mp h;by_cases g:B7 y x=Aa
  .rw[Aq g];refine DM.mpr ⟨λz hz=>?_,SN x (λm=>hx (AC _ m)) h2⟩
   rcases AI.mp ((N7 x ys).mem_iff.mp hz) with rfl|hz
   .exact g
   .exact h1 z hz
  .rw[As g];have g':B7 y x=Ad:=by simpa using g
   have xy:B7 x y=Aa:=Mi (λe=>hx (by rw[e];exact AN ..)) g'
   refine DM.mpr ⟨λz hz=>?_,h⟩
   rcases AI.mp hz with rfl|hz
   .exact xy
   .exact Mm xy (h1 z hz)
theorem Ox:∀{rs:Ac (Ac Ag)},rs.Nodup->(Gs rs).Pairwise (λa b=>B7 a b=Aa)
 |[],_=>.nil
 |r::rs,h=>by
  obtain⟨h1,h2⟩:=EB.mp h;exact SN r (λm=>h1 ((Lb rs).mem_iff.mp m)) (Ox h2)
theorem Qj{ys rs:Ac (Ac Ag)}(nd:rs.Nodup)(hs:ys.Pairwise (λa b=>B7 a b=Aa))(hp:ys.Perm rs):Gs rs=ys:=by
 refine List.Perm.eq_of_pairwise (le:=λa b=>B7 a b=Aa) (λa b _ _ h1 h2=>?_) (Ox nd) hs ((Lb rs).trans hp.symm)
 rw[Lm h1]at h2;cases h2
theorem Rv{α:Type}[DecidableEq α]:∀{l m:Ac α},l.Nodup->(∀ x∈l,x∈m)->m.length<=l.length->l.Perm m
 |[],m,_,_,hl=>by
  cases m with
  |nil=>exact .refl _
  |cons a m=>simp at hl
 |x::l,m,nd,hs,hl=>by
  obtain⟨h1,h2⟩:=EB.mp nd;have hx:x∈m:=hs x (AN ..);have hp:=List.perm_cons_erase hx;refine(Ib x (Rv h2 (λy hy=>?_) ?_)).trans hp.symm
  .refine(List.mem_erase_of_ne (λe=>h1 (by rw[<-e];exact hy))).mpr (hs y (AC _ hy))
  .have:=List.length_erase_of_mem hx;simp at hl;omega
theorem QI{ys:Ac (Ac Ag)}(h:ys.Pairwise (λa b=>B7 a b=Aa)):ys.Nodup:=
 h.imp λ{a b} g e=>by
  subst e;have:=Lm g;rw[g]at this;cases this
theorem YC{α:Type}[DecidableEq α]{l m:Ac α}(hl:l.Nodup)(hm:m.Nodup)(h:∀ x,x∈l↔x∈m):l.Perm m:=by
 rw[List.perm_iff_count];intro a;rw[hl.count,hm.count];simp[h]
theorem Os:∀ rs:Ac (Ac Ag),KQ (rs.map tI)=Aa↔rs.Nodup
 |[]=>by simp[KQ]
 |r::rs=>by
  have e:KQ ((r::rs).map tI)=((rs.map tI).all (λy=>!eqD (tI r) y)&&KQ (rs.map tI)):=rfl
  rw[e,Al,Os rs,List.nodup_cons];refine and_congr ?_ Iff.rfl;rw[E6,C8];constructor
  .intro h m;have:=h r m;simp[SZ]at this
  .intro h q hq;have:r≠q:=λz=>h (by rw[z];exact hq)
   simp[SZ,this]
theorem Yc{rs ys:Ac (Ac Ag)}(hn:∀ r∈rs,r≠[])(nd:rs.Nodup)(hz:rs.length<=1000)(hs:ys.Pairwise (λa b=>B7 a b=Aa))(hm:∀ r,r∈ys↔r∈rs):Gm (rs.map tI)=.ok (ys.map tI):=by
 unfold Gm;rw[Aq (by rw[Tr hn,(Os rs).mpr nd,AX,DH hz];rfl),Ow,Qj nd hs (YC (QI hs) nd hm)]
theorem Yb{xs:Ac D}{d:Ac D}(h:Gm xs=.ok d):∃ rs:Ac (Ac Ag),xs=rs.map tI/\(∀ r∈rs,r≠[])/\rs.Nodup/\rs.length<=1000/\d=(Gs rs).map tI:=by
 unfold Gm at h;split at h
 .next g=>
  rw[Al,Al,AQ]at g;obtain⟨rs,e,hn⟩:=Tq g.1.1;subst e;rw[Ow]at h;cases h;exact⟨rs,rfl,hn,(Os rs).mp g.1.2,by simpa using g.2,rfl⟩
 .cases h
open PySem PySem.Spec PyProof.Rows L2
variable{n:Ae}{p:Ax Ae}
section
variable{X:Cx}{CL:ClA}{W:XW}
theorem QO{K:Fg}{H:Hp}{A:Ak->Prop}:∀{is:Ac Ag}{ys:Ac V},Reps K CL H A ys (is.map D.int)->ys=is.map V.int
 |[],[],_=>rfl
 |[],_::_,r=>r.elim
 |_::_,[],r=>r.elim
 |i::is,y::ys,r=>by
  have e1:y=.int i:=r.1;rw[QO r.2,e1];rfl
theorem Ro:∀{is:Ac Ag}{its:Ac Aj},A6 (is.map V.int) its->Ev its is
 |[],_,h=>by cases h;exact .nil
 |i::is,_,h=>by
  cases h with
  |cons h1 h2=>
   obtain⟨t,rfl⟩:=h1;exact .cons i t (Ro h2)
theorem Rz{pI:Pn}{s:Ap}{Y:Ac (Am V)}{H:Hp}{A:Ak->Prop}(I:Inv X pI Y H s):∀{rs:Ac (Ac Ag)}{ys:Ac V}{its:Ac Aj},Reps X.K CL H A ys (rs.map tI)->A6 ys its->(∀ r∈rs,r≠[])->∀(i:Ae)(v:Aj)(r:Ac Ag),its[i]?=Ab v->rs[i]?=Ab r->Ep s.heap v r
 |[],_,_,_,_,_,i,v,r,_,e=>by cases e
 |_::_,[],_,h,_,_,_,_,_,_,_=>h.elim
 |q::rs,y::ys,_,h,hv,hn,i,v,r,e1,e2=>by
  cases hv with
  |cons h1 h2=>
   cases i with
   |succ i=>exact Rz I h.2 h2 (λr m=>hn r (AC _ m)) i v r e1 e2
   |zero=>
    cases e1;cases e2;have h0:CF X.K CL H A y (.tup (q.map D.int)):=.inl h.1;obtain⟨a,xs,rfl,_,sq,rx⟩:=h0.tup_of;obtain⟨its,hi,ht,_⟩:=I.tuple sq;rw[QO rx]at hi;cases h1;exact⟨a,its.toArray,rfl,ht,Ro hi,hn q (AN ..)⟩
theorem Qm{ys:Ac V}{its:Ac Aj}(h:A6 ys its):∀ l:Ac Ae,(∀ i∈l,i<ys.length)->A6 (l.map λi=>ys.getD i .non) (l.map λi=>its.getD i A3)
 |[],_=>.nil
 |i::l,hl=>by
  have hi:i<ys.length:=hl i (AN ..);have e:ys[i]?=Ab ys[i]:=AE hi;obtain⟨u,e2,r⟩:=h.get e;refine .cons ?_ (Qm h l λj hj=>hl j (AC _ hj))
  show Bx (ys.getD i .non) (its.getD i A3);rw[Ba,Ba,e,e2];exact r
theorem Sd{K:Fg}{H:Hp}{A:Ak->Prop}:∀{ys:Ac V}{ds:Ac D}{i:Ae},Reps K CL H A ys ds->i<ds.length->Rep K CL H A (ys.getD i .non) (ds.getD i .non)
 |[],[],_,_,h=>by cases h
 |[],_::_,_,r,_=>r.elim
 |_::_,[],_,r,_=>r.elim
 |y::ys,d::ds,0,r,_=>r.1
 |y::ys,d::ds,i+1,r,h=>Sd (ys:=ys) (ds:=ds) (i:=i) r.2 (Nat.lt_of_succ_lt_succ h)
theorem QD{K:Fg}{H:Hp}{A:Ak->Prop}{ys:Ac V}{ds:Ac D}(h:Reps K CL H A ys ds):∀ l:Ac Ae,(∀ i∈l,i<ds.length)->Reps K CL H A (l.map λi=>ys.getD i .non) (l.map λi=>ds.getD i .non)
 |[],_=>trivial
 |i::l,hl=>⟨Sd h (hl i (AN ..)),QD h l λj hj=>hl j (AC _ hj)⟩
theorem MB(hp:Pm n p):∀ i∈p.toList,i<n:=λi hi=>by
 obtain⟨j,hj,e⟩:=List.mem_iff_getElem.mp hi;have hj':j<n:=by rw[<-hp.sz];simpa using hj
 have:=hp.lt j hj';unfold at0 at this;rw[DK,<-Cy,AE hj,e]at this;exact this
theorem TZ(hp:Pm n p){j:Ae}(hj:j<p.toList.length):at0 p j=p.toList[j]:=by
 unfold at0;rw[DK,<-Cy,AE hj];rfl
theorem YG{rs:Ac (Ac Ag)}(nd:rs.Nodup)(hp:Pm rs.length p)(hs:KS (ltR rs) p rs.length):p.toList.map (λi=>rs.getD i [])=Gs rs:=by
 have hl:p.toList.length=rs.length:=by rw[AF,hp.sz]
 have pw:(p.toList.map (λi=>rs.getD i [])).Pairwise (λa b=>B7 a b=Aa):=by
  rw[List.pairwise_map,Cv];intro i j hi hj hij;have:=hs i j hij (by omega)
  rw[TZ hp hi,TZ hp hj]at this;exact this
 refine(Qj nd pw (Rv (QI pw) (λx hx=>?_) (by rw[AX,hl];exact Aw _))).symm
 obtain⟨i,hi,rfl⟩:=E7.mp hx;have:=MB hp i hi;rw[Ba,AE this];exact BH this
theorem Zj:Nd X CL W (.builtin "sorted") (biD .sorted):=by
  intro A H0 pI s Y H xs us Q I r ⟨s0,hA,ds,rs,p⟩;by_cases hls:∃ es,ds=[.lst es]
  · obtain⟨es,rfl⟩:=hls;obtain⟨v,rfl,rv⟩:=rs.one;obtain⟨q,ys,rfl,sq,ry⟩:=rv.lst_of;have p':Bg (DY X.K CL Aa H0 A) W H ((Gm es).bind λb=>.ok (.lst b)) Q:=p
    cases hd:Gm es with
    |exn x=>
      unfold Gm at hd;split at hd<;>cases hd
    |bad=>
      rw[hd]at p';exact p'.elim
    |ok d=>
      rw[hd]at p';obtain⟨rs',rfl,hn,nd,h1000,rfl⟩:=Yb hd;obtain⟨u,rfl,rx⟩:=Jk r;cases rx;obtain⟨its,hv,pl,hz⟩:=I.list sq;have l1:ys.length=rs'.length:=by rw[ry.length,AX]
      have l2:ys.length=its.length:=hv.length;refine X9 pl.isList (by omega) (Rz I ry hv hn) nd (by omega) λpp hp hs=>?_
      rw[<-l2,l1]at hp hs;have e1:=YG nd hp hs;have rp:=QD ry pp.toList (λi hi=>by rw[AX];exact MB hp i hi)
      have e2:(pp.toList.map λi=>(rs'.map tI).getD i .non)=(Gs rs').map tI:=by
        rw[<-e1,Dl]
        apply En
        intro i hi;have:=MB hp i hi;simp[AE this]
      rw[e2]at rp;have vp:=Qm hv pp.toList (λi hi=>by rw[l1];exact MB hp i hi)
      obtain⟨c,hat⟩:=sortedAll_at s.heap its (Jr its pp);have hf:=I.hok.fresh (Jw s.heap.objs.size);refine⟨.ref (s.heap.objs.size+1),_,I.laid (t':=s.toks) (λb o hb=>sortedAll_old hb) (Jw _) (o:=.lst (pp.toList.map λi=>ys.getD i .non)) ?_,rfl,p' _ _ (FF hf _) (JE s0 hA hf rp)⟩
      refine⟨?_,pp.toList.map λi=>its.getD i A3,c,vp,hat⟩
      rw[AX,AF,hp.sz,B9];omega
  · have e:biD .sorted ds=.bad:=by
      match ds with
      |[]=>rfl
      |[x]=>cases x<;>first|rfl|exact absurd ⟨_,rfl⟩ hls
      |x::_::_=>cases x<;>rfl
    rw[e]at p;exact p.elim
end
end Ov
end
section
namespace Ov
open PySem PySem.Spec PyProof.Rows
section
variable{t:SetTable}{hashAt:Ae->Ag}{h:Ag}
noncomputable def stand(i b:Ae):SetTable.Probe:=⟨i,0,i,b,Af⟩
end
section
variable{prog:AM}{w:AY}{A:AT}{E:Vq}{s:Ap}{K:Type} [DecidableEq K] {knd:KeyKind prog w K}
end
section
variable{prog:AM}{w:AY}{A:AT}{R:Ih->Ap->Prop}{I:Ak}{fp wr:Ac Ak}{G:Ax ED->Ax ED->Prop}{n:Ae}{P:Ae->Aj->Prop}{St:Ae->Ap->Prop}
end
section
variable{prog:AM}{w:AY}{A:AT}{E:Vq}{s:Ap}
end
end Ov
end
namespace Ov
open PySem PySem.Spec PyProof.Rows L2
variable{P:AM}{w:AY}{H H':Hp}{h h':AD}{a T' C C':Ak}{oe:DE}{vs:Ax Aj}{Q:FW->Ap->Prop}{a0:Aj}{X:Cx}{pI:Pn}{Y Y0:L2.St}{K:Fg}{m:Ah->Am Aj}{x g qual x0:Ah}{v:Am Aj}{M:Eo}{tk:BV}{fill expr fr:Ai}{φ:AD->Prop}{CL:ClA}{Fz:Ak->HO->Prop}{B A:Ak->Prop}{U:Rho}{W:XW}{hs:Ac AZ}{h0:AZ}{fh:Rho->O}{up:Ae->Ac Ae}{pos p pos' np cpos:AR}{CX:CXT}{k c kk:Ae}{fd:BQ}{ps:Ac Ah}{Xw:Vq}{fs:Rho->R (Ac D)}{xn:Ae->Ac D->R Ex}{d:D}{α:Type}{as:Es}{xs ys:Ac An}{env:Cr}{scope:BX}{ts:Ac Ae}
section
variable{X:Cx}
def Nq(K:Fg)(H:Hp):Ac V->Ac (Ac Ag)->Prop
 |[],[]=>HK
 |x::xs,k::ks=>(∃ b,x=.ref b/\SqT K H b (k.map V.int))/\Nq K H xs ks
 |_,_=>A5
theorem Nq.length{K:Fg}{H:Hp}:∀{xs:Ac V}{ks:Ac (Ac Ag)},Nq K H xs ks->xs.length=ks.length
 |[],[],_=>rfl
 |_::_,_::_,h=>congrArg (· + 1) (Nq.length h.2)
 |[],_::_,h=>h.elim
 |_::_,[],h=>h.elim
variable{CL:ClA}{W:XW}{pos p pos' p':AR}{a:An}{fa:Rho->R D}
end
section
theorem cH(l:Ak)(items:Ax Aj)(n:Ae)(b:Ak)(items2:Ax Aj)(n2:Ae)(dd:Am Ak)(sl:Ax (Am Aj))(hs0:¬(!items.isEmpty&&Dm (items.size+items2.size))=Aa)(hs1:items.size<=sizeLine)(hs2:items.size+items2.size<=sizeLine+1):
  Meets (Builtin.«list.extend» ⟨[.ref l,.ref b],[]⟩) (λ_ R s=>s.heap.get? l=Ab { cls:=.type "list",dict:=Af,data:=.seq items n,slots:=#[] }/\s.heap.get? b=Ab { cls:=.type "tuple",dict:=dd,data:=.seq items2 n2,slots:=sl }/\R (.ok (.ret A3)) {s with heap:=s.heap.update l (C6 λx=>x++items2),toks:=s.toks}):=
 .of_wp λprog w A R s h=>by
  obtain⟨hp,g,d,tk,os⟩:=s;obtain⟨hl,hb,h⟩:=h;have f1:=AutoSeq1.idx_int;have f2:=AutoSeq1.sub_tuple_tuple;have f3:=AutoSeq1.sub_list_list;have f4:=AutoSeq1.sub_tuple_list;have f5:=AutoSeq1.sub_list_tuple;
  have hz':(items++items2).size<=sizeLine+1:=by rw[Fw];exact hs2
  wp_walk using (wpAny_updateSeq hl rfl (hz:=hs1) (_hz':=hz')),VL hl,VL hb;exact⟨_,rfl,h⟩
end
section
variable{X:Cx}
def oD(K:Fg):V->Ac V->Hp->VK->Prop:=λx vs H Q=>∃ l b xs zs,x=.ref l/\vs=[.ref b]/\H l=Ab (.lst xs)/\SqT K H b zs/\xs.length+zs.length<=sizeLine/\Q .non (upd H l (.lst (xs++zs)))
theorem cP:MtM X "list.extend" (oD X.K):=by
 intro pI s Y H x vs v us Q I rx rv h;obtain⟨l,b,xs,zs,rfl,rfl,hH,hB,hz,q⟩:=h;cases rx;obtain⟨u,rfl,ru⟩:=rv.one;cases ru;obtain⟨z,its,n,r,hl,e⟩:=I.lstM hH;obtain⟨its2,r2,⟨o,e2,c2,n2,d2⟩,z2⟩:=I.tuple hB;have hl2:=r2.length;obtain⟨oc,od,oda,os⟩:=o;dsimp only at c2 d2;subst c2 d2;have hsz:its.toArray.size+its2.toArray.size<=sizeLine:=by rw[AH,AH];omega
 have hlong:¬ (!its.toArray.isEmpty&&Dm (its.toArray.size+its2.toArray.size))=Aa:=by
  rw[Ri hsz,Fk];exact Az
 refine Iw EK ⟨_,e,rfl⟩ Wr (Wl _ _)
  (cH l its.toArray n b its2.toArray n2 od os hlong (by rw[AH];omega) (by omega)) ⟨e,e2,?_⟩
 refine⟨.non,_,I.lset (its':=its++its2) hH e (by simp) (r.append r2) ?_,rfl,q⟩
 rw[Be];omega
variable{CL:ClA}{W:XW}{o e:An}{fe:Rho->R D}{i:Ae}{apos cpos pos:AR}
theorem aC(ho:PE X o (IK i))(he:ST X CL W e fe)(hbase:Ew o "extend" X.env (eval o X.env)=eval o X.env)(hfew:((BR cpos (Ay [e] X.env)).all (λx=>!x.1)&&(Ip cpos (GM [] X.env)).all (λx=>x.1.isSome)&&decide ([e].length+([]:Ac Ee).length+(if ([]:Ac Ee).isEmpty then 0 else 1)<30))=Aa)(hline:(apos.endLine==cpos.line)=Aa)(hs:Ay [e] X.env=[(Ad,eval e X.env)])(hsw:Dh (.Call (.Attribute o "extend" apos) [e] [] cpos) Af pos.line X.env=pure Ad):
  SS X CL W (.Expr (.Call (.Attribute o "extend" apos) [e] [] cpos) pos) (λU=>O.of U (Cj U i) λxs=>O.of U (fe U) λx=>O.of U ((CG .Add x (.tup [])).bind λy=>biD .list [y]) λd=>O.of U (Jl d) λys=>if BD (xs.length+ys.length)=Aa then .next (U.set i (Ab (.lst (xs++ys),Aa))) else .bad):=λFz B pI s Y H D I ⟨U,x,p⟩=>by
 refine Kq (M0 Fu EK WA cP ho (El (he (BL B U Y)) FY hs) hbase hfew hline hs rfl) hsw pI s Y H D I ?_;dsimp only at p;cases e1:Cj U i with
 |bad=>rw[e1]at p;exact p.elim
 |exn z=>exact(Oi e1).elim
 |ok ds=>
  rw[e1,O.of_ok]at p;have hi:=Op e1;obtain⟨a,xs,ds',q,e2,ha,hh,r⟩:=x.good.ow i _ hi;cases e2;refine⟨_,q,.inl ⟨rfl,xs,SqL.of hh⟩,x.aok,U,x.good,BW.ex x p λd v H' _ s rv x' q'=>?_⟩
  cases d with
  |tup es=>
   obtain⟨b,ys,rfl,h0,h1,rs⟩:=CF.tup_of rv;have eb:CG .Add (.tup es) (.tup [])=if (!es.isEmpty&&BD (es.length+0))=Aa then .ok (.tup (es++[])) else .bad:=rfl
   rw[eb]at q';split at q'
   .rw[R.bind_ok,show biD .list [.tup (es++[])]=.ok (.lst (es++[])) from rfl,O.of_ok,QB,O.of_ok,Bo]at q'
    split at q'
    .rename_i hz;refine⟨a,b,xs,ys,rfl,rfl,s _ _ hh,h1,?_,q' _ _ (x'.upd hi q ((r.same s).append rs))⟩;rw[r.length,rs.length];exact IB hz
    .exact q'.elim
   .exact q'.elim
  |_=>exact q'.elim
end
section
open PySem.AutoSeq1 (wpAny_loadPart')
end
section
variable{prog:AM}{w:AY}{A:AT}{R:Ih->Ap->Prop}{I S T:Ak}{u v:Aj}{c:Ae}{P:Ae->Aj->Prop}{St:Ae->AD->Prop}{s:Ap}{r q:Ac Ag}
end
section
variable{X:Cx}{CL:ClA}{W:XW}
end
def Nr(e T:Ak)(cls:Aj)(dx:Am Ak)(fl:Aj)(h:AD):Prop:=∃ oe vs oT ts a0,h.get? e=Ab oe/\oe.cls=cls/\oe.dict=dx/\vs[0]?=Ab a0/\oe.data=.fields vs/\vs[1]?=Ab (.ref T)/\T≠e/\h.get? T=Ab oT/\oT.data=.fields ts/\ts[3]?=Ab fl
noncomputable abbrev Fly(e T:Ak)(cls:Aj)(dx:Am Ak)(h:AD):Prop:=Nr e T cls dx A3 h
noncomputable def pN(C:Ak)(dx:Am Ak)(t:Ak):DE:={cls:=.ref C,dict:=dx,data:=.fields #[.ref t,.none,.none,.none,.bool Ad,.none]}
structure Shift (ex fs:Ac Ak) (h h':AD):Prop where
 keep:∀ b o,h.get? b=Ab o->b∉ex->b∉fs->h'.get? b=Ab o
 slot:∀ b o,h.get? b=Ab o->b∈fs->∃ sl,h'.get? b=Ab {o with slots:=sl}
theorem ObjOk.isThere:∀(o:HO),L2.ObjOk P w H h a o->∃ ob,h.get? a=Ab ob
 |.lst _,x=>by obtain⟨_,_,_,_,e⟩:=x;exact⟨_,e⟩
 |.tup _,x=>by obtain⟨_,_,_,p⟩:=x;obtain⟨o,e,_⟩:=p;exact⟨_,e⟩
 |.dK _,x=>by obtain⟨_,_,_,_,o,_,_,e,_⟩:=x;exact⟨_,e⟩
 |.dT _,x=>by obtain⟨_,_,_,_,o,_,_,e,_⟩:=x;exact⟨_,e⟩
 |.set _ _,x=>by obtain⟨o,_,_,_,e,_⟩:=x;exact⟨_,e⟩
 |.ins _ _ _,x=>by obtain⟨_,_,_,e,_⟩:=x;exact⟨_,e⟩
 |.own _,x=>x
 |.xd _,x=>by obtain⟨_,⟨_,_,_,e,_⟩,_⟩:=x;exact⟨_,e⟩
 |.met _ _,x=>⟨_,x⟩
 |.rng _ _,x=>by obtain⟨_,_,_,e⟩:=x;exact⟨_,e⟩
 |.frz _ _,x=>⟨_,x.1⟩
 |.tbl _,x=>⟨_,x⟩
 |.ext _,x=>x.2.1
theorem Mj(x:HOk P w H h)(e:h.get? a=Af):H a=Af:=by
 cases q:H a with
 |none=>rfl
 |some o=>
  obtain⟨ob,z⟩:=ObjOk.isThere o (x a o q);rw[e]at z;cases z
theorem HOk.shift{ex fs:Ac Ak}(x:HOk P w H h)(sh:Shift ex fs h h')(h1:∀ b∈ex,H b=Af)(h2:∀ b∈fs,H b=Af):HOk P w H h':=λa o e=>
 (x a o e).stay (λb u hb q=>by
  have hs:∃ v,H b=Ab v:=by
   rcases hb with rfl|hb
   .exact⟨_,e⟩
   .exact⟨_,hb⟩
  obtain⟨v,hv⟩:=hs;exact sh.keep b u q (λz=>by rw[h1 b z]at hv;cases hv) (λz=>by rw[h2 b z]at hv;cases hv)) (λ_ q=>q) λ_ _ q=>q
theorem Un.shift{fs0 fs ex:Ac Ak}{h0:AD}(u:Un fs0 [] H H' h0 h)(sh:Shift ex fs h h')(h1:∀ b∈ex,h0.get? b=Af)(h2:∀ b∈fs,b∈fs0\/h0.get? b=Af):Un fs0 [] H H' h0 h' where
 keep:=λb o q n hb hx=>sh.keep b o (u.keep b o q n hb hx) (λz=>by rw[h1 b z]at q;cases q) λz=>(h2 b z).elim hb λe=>by rw[e]at q;cases q
 slot:=λb o q n hb hx=>by
  obtain⟨sl,e1⟩:=u.slot b o q n hb hx;by_cases hf:b∈fs
  .obtain⟨sl',e2⟩:=sh.slot b _ e1 hf;exact⟨sl',e2⟩
  .exact⟨sl,sh.keep b _ e1 (λz=>by rw[h1 b z]at q;cases q) hf⟩
 free:=u.free
 there:=λb o q hx=>by
  obtain⟨o',e1⟩:=u.there b o q hx;by_cases hf:b∈fs
  .obtain⟨sl',e2⟩:=sh.slot b _ e1 hf;exact⟨_,e2⟩
  .exact⟨o',sh.keep b _ e1 (λz=>by rw[h1 b z]at q;cases q) hf⟩
 tups:=u.tups
 frzs:=u.frzs
 tbls:=u.tbls
theorem eR(f:Ax Aj->Ax Aj)(o:DE):(FP f o).dict=o.dict:=by
 obtain⟨c,d,dt,sl⟩:=o;cases dt<;>rfl
section
variable{M:Eo}{A:AT}{E:Vq}{s:Ap}{env:Cr}{outer:Ac Cr}{L e T:Ak}{cls:Aj}{dx:Am Ak}{base h:AD}
theorem QF{hd:Aj}{nx:Ai}(hfr:A.frames=Ab (env::outer))(hf:env.frame=Ab L)(ff:s.heap.FunFrames base (env::outer))(he:s.heap.get? e=Ab oe)(dt:oe.data=.fields vs)(hz:1<vs.size)(hQ:∀ h' T' oT ts,h'.get? e=Ab (FP (·.setIfInBounds 1 (.ref T')) oe)->T'≠e->s.heap.get? T'=Af->h'.get? T'=Ab oT->oT.data=.fields ts->ts[3]?=Ab (EY L)->Shift [e] (frs (env::outer)) s.heap h'->Q () {s with heap:=h'}):
  AB M A (do
   let fr <-frameOf env
   let pl <-entryPlaceOf L nx
   let en <-VT hd fr .none (EY L) .none pl
   setField (.ref e) 1 en) Q E s:=by
 have nf:e∉frs (env::outer):=λz=>by
  obtain⟨_,o,q,n⟩:=ff.mem z;rw[he]at q;cases q;exact n vs dt
 refine Ao (wpAny_frameOf_fun hfr ff hf λk1 so=>Ao (wpAny_entryPlaceOf λpl ip=>?_))
 obtain⟨sz,sm,sl⟩:=so;have e1:k1.get? e=Ab oe:=(sm e nf).trans he;unfold VT;unfold newFields;refine Ao (CT ?_ (ip.sizeOk5 _ _ _ _ _));generalize hX:({ cls:=.type "traceback",dict:=Af,data:=.fields ([hd,.ref L,.none,EY L,.none]++(if pl.isEmpty then GC 6 A3 else pl)).toArray }:DE)=ob
 have od:ob.data=.fields ([hd,.ref L,.none,EY L,.none]++(if pl.isEmpty then GC 6 A3 else pl)).toArray:=by rw[<-hX]
 have nl:k1.objs.size≠e:=E8 (AL e1);have e2:=Ar ob e1;refine Fq e2 dt hz ?_;have up:∀ b,b≠e->((k1.push ob).update e (FP (·.setIfInBounds 1 (.ref k1.objs.size)))).get? b=(k1.push ob).get? b:=λb nb=>C4 _ _ (Ed nb)
 have lf:ob.isFreed=Ad:=by rw[<-hX];rfl
 refine hQ _ k1.objs.size ob _ (EL _ e2 (EM (Dd dt _))) nl ?_ ((up _ nl).trans (AJ k1 lf)) od ?_ ⟨λb o q n1 n2=>?_,λb o q hb=>?_⟩
 .rw[sz];exact Gf (Aw _)
 .simp
 .have nb:b≠e:=λz=>n1 (by rw[z];exact AN)
  rw[up b nb];exact Ar ob ((sm b n2).trans q)
 .obtain⟨sl',q'⟩:=sl b o q;have nb:b≠e:=λz=>nf (z ▸ hb)
  exact⟨sl',(up b nb).trans (Ar ob q')⟩
theorem QT{oT:DE}{ts:Ax Aj}{fl:Aj}(hc:oe.cls=cls)(hx:oe.dict=dx)(h0:vs[0]?=Ab a0)(dt:oe.data=.fields vs)(hz:1<vs.size)(g:h'.get? e=Ab (FP (·.setIfInBounds 1 (.ref T')) oe))(ne:T'≠e)(gT:h'.get? T'=Ab oT)(dT:oT.data=.fields ts)(f3:ts[3]?=Ab fl):Nr e T' cls dx fl h':=
 ⟨_,_,oT,ts,a0,g,(WF _ _).trans hc,(eR _ _).trans hx,by rw[Array.getElem?_setIfInBounds_ne (by decide)];exact h0,Dd dt _,by simp[hz],ne,gT,dT,f3⟩
theorem Kk{i:Ae}{v:Aj}(q:vs[i]?=Ab v):i<vs.size:=(UQ.mp q).1
theorem Rr(hfr:A.frames=Ab (env::outer))(hf:env.frame=Ab L)(ff:s.heap.FunFrames base (env::outer))(fl:Fly e T cls dx s.heap)(hQ:∀ h' T',Nr e T' cls dx (EY L) h'->Shift [e,T] (frs (env::outer)) s.heap h'->s.heap.get? T'=Af->Q () {s with heap:=h'}):AB M A (GQ (.ref e) env) Q E s:=by
 obtain⟨oe,vs,oT,ts,a0,he,hc,hx,h0,dt,h1,ne,hT,dT,h3⟩:=fl;have z3:=Kk h3;unfold GQ;simp only[hf];refine Ao (BG he dt h1 ?_);rw[Aq (by simp:(De T != A3)=Aa)]
 refine Ao (BG hT dT h3 ?_);rw[As (by simp[EY]:¬ (A3==EY L)=Aa)]
 refine Ao (Fq hT dT z3 ?_);have up:∀ b,b≠T->(s.heap.update T (FP (·.setIfInBounds 3 A3))).get? b=s.heap.get? b:=λb nb=>C4 _ _ (Ed nb)
 have rcd:∀ b o,s.heap.get? b=Ab o->(∀ us,o.data≠.fields us)->b≠T:=λb o q n z=>by
  rw[z,hT]at q;cases q;exact n ts dT
 refine QF (base:=base) hfr hf (ff.of_keeps λb o q n=>⟨o,(up b (rcd b o q n)).trans q,rfl⟩) ((up e (Ed ne)).trans he) dt (Kk h1) λh' T' oT' ts' g nT gn gT dT' f3 sh=>?_
 have T0:s.heap.get? T'=Af:=by
  by_cases z:T'=T
  .rw[z]at gn;rw[EL _ hT (EM (Dd dT _))]at gn;cases gn
  .rw[<-up T' z];exact gn
 refine hQ h' T' (QT hc hx h0 dt (Kk h1) g nT gT dT' f3) ⟨λb o q n1 n2=>?_,λb o q hb=>?_⟩ T0
 .simp only[AI,Bq,CW,FN]at n1;exact sh.keep b o ((up b n1.2).trans q) (by simp[n1.1]) n2
 .obtain⟨_,o',q',n⟩:=ff.mem hb;rw[q]at q';cases q';exact sh.slot b o ((up b (rcd b o q n)).trans q) hb
theorem Mn{fv:Aj}(fl:Nr e T cls dx fv s.heap)(hQ:∀ h',Fly e T cls dx h'->(∀ b o,b≠T->s.heap.get? b=Ab o->h'.get? b=Ab o)->Q () {s with heap:=h'}):AB M A (HG (.ref e) Af) Q E s:=by
 obtain⟨oe,vs,oT,ts,a0,he,hc,hx,h0,dt,h1,ne,hT,dT,h3⟩:=fl;have z3:=Kk h3;unfold HG;refine Ao (BG he dt h1 ?_);rw[Aq (by simp:(De T != A3)=Aa)]
 refine Fq hT dT z3 (hQ _ ?_ λb o nb q=>(C4 _ _ (Ed nb)).trans q)
 exact⟨oe,vs,_,_,a0,(C4 _ _ ne).trans he,hc,hx,h0,dt,h1,ne,EL _ hT (EM (Dd dT _)),Dd dT _,by simp[z3]⟩
theorem NZ{h1 h2:AD}{ex:Ac Ak}(ff:s.heap.FunFrames base (env::outer))(sh:Shift ex (frs (env::outer)) s.heap h1)(hT:s.heap.get? T'=Af)(k:∀ b o,b≠T'->h1.get? b=Ab o->h2.get? b=Ab o):Shift ex (frs (env::outer)) s.heap h2:=
 ⟨λb o q n1 n2=>k b o (λz=>by rw[z,hT]at q;cases q) (sh.keep b o q n1 n2),λb o q hb=>let ⟨sl,q'⟩:=sh.slot b o q hb;⟨sl,k b _ (λz=>by rw[z,hT]at q;cases q) q'⟩⟩
theorem Yp(hfr:A.frames=Ab (env::outer))(hf:env.frame=Ab L)(ff:s.heap.FunFrames base (env::outer))(fl:Fly e T cls dx s.heap)(hQ:∀ h' T',Fly e T' cls dx h'->Shift [e,T] (frs (env::outer)) s.heap h'->(T'=T\/s.heap.get? T'=Af)->Q () {s with heap:=h'}):AB M A (leaving env (.ref e)) Q E s:=by
 unfold leaving;exact Ao (Rr hfr hf ff fl λh1 T' f1 sh hT=>Mn f1 λh2 f2 k=>hQ h2 T' f2 (NZ ff sh hT k) (.inr hT))
theorem Yi(hfr:A.frames=Ab (env::outer))(hf:env.frame=Ab L)(ff:s.heap.FunFrames base (env::outer))(he:s.heap.get? e=Ab oe)(hc:oe.cls=cls)(hx:oe.dict=dx)(dt:oe.data=.fields vs)(h0:vs[0]?=Ab a0)(h1:vs[1]?=Ab .none)(hQ:∀ h' T',Fly e T' cls dx h'->Shift [e] (frs (env::outer)) s.heap h'->s.heap.get? T'=Af->Q () {s with heap:=h'}):AB M A (leaving env (.ref e)) Q E s:=by
 unfold leaving GQ;simp only[hf];refine Ao (Ao (BG he dt h1 ?_));rw[As (by decide)]
 exact QF (base:=base) hfr hf ff he dt (Kk h1) λh' T' oT ts g nT gn gT dT f3 sh=>Mn (QT hc hx h0 dt (Kk h1) g nT gT dT f3) λh2 f2 k=>hQ h2 T' f2 (NZ ff sh gn k) gn
theorem ZB(hfr:A.frames=Ab (env::outer))(hf:env.frame=Ab L)(ff:s.heap.FunFrames base (env::outer))(fl:Fly e T cls dx s.heap)(hQ:∀ h' T',Fly e T' cls dx h'->Shift [e,T] (frs (env::outer)) s.heap h'->(T'=T\/s.heap.get? T'=Af)->Q () {s with heap:=h'}):AB M A (GQ (.ref e) env) (λ_ s2=>AB M A (HG (.ref e) Af) Q E s2) E s:=
 Rr hfr hf ff fl λh1 T' f1 sh hT=>Mn f1 λh2 f2 k=>hQ h2 T' f2 (NZ ff sh hT k) (.inr hT)
theorem Ze{l:Ac Cr}{A':AT}(ff:s.heap.FunFrames base l)(fl:Fly e T cls dx s.heap)(hQ:∀ h' T',Fly e T' cls dx h'->Shift [e,T] (frs l) s.heap h'->(T'=T\/s.heap.get? T'=Af)->Q () {s with heap:=h'}):AB M A' (HG (.ref e) Af) Q E s:=by
 obtain⟨oe,vs,oT,ts,a0,he,hc,hx,h0,dt,h1,ne,hT,dT,h3⟩:=id fl;refine Mn fl λh' f' k=>hQ h' T f' ⟨λb o q n1 n2=>k b o (λz=>n1 (by rw[z];simp)) q,λb o q hb=>⟨o.slots,k b o (λz=>?_) q⟩⟩ (.inl rfl)
 obtain⟨_,o',q',n⟩:=ff.mem hb;rw[z,hT]at q';cases q';exact n ts dT
end
def CXR(P:AM)(w:AY):CXT:=λouter H s E ev s'=>∃ e T cls dx H',ev=.ref e/\s'.os=s.os/\Fl s'.gens/\Un (frs outer) [] H H' s.heap s'.heap/\HOk P w H' s'.heap/\Fly e T cls dx s'.heap/\H' e=Af/\H' T=Af/\s.heap.get? e=Af/\s.heap.get? T=Af/\E cls dx H'
def LP(X:Cx)(CL:ClA)(W:XW):Prop:=∀ pI Y H s e C dx t x,Inv X pI Y H s->(X.ex=[]->X.s₀.heap.get? e=Af)->H e=Af->s.heap.get? e=Ab (pN C dx t)->F2 X.K CL H (.ref C) dx x->W x H->X.xe (.ref e) s
section
variable{P:AM}{w:AY}{K:Fg}{mg:Ah->Am Aj}{base:AD}{N:Ac Ah}{qual:Ah}{scope:BX}{f:Ak}{cd:Aj}{A:AT}{outer:Ac Cr}{s:Ap}{H:Hp}{E:XK}{CL:ClA}{W:XW}
theorem Oz{s:Ap}(I:Inv X pI Y H s):∀ b∈frs X.stack,b∈X.fs\/X.s₀.heap.get? b=Af:=λb hb=>by
 rcases AI.mp (I.stkSub b hb) with z|z
 .exact .inr (by rw[z];exact Gf I.ok.above)
 .exact .inl z
theorem Kc{s:Ap}{b:Ak}(I:Inv X pI Y H s)(hx:X.ex=[])(h:s.heap.get? b=Af):X.s₀.heap.get? b=Af:=by
 cases q:X.s₀.heap.get? b with
 |none=>rfl
 |some o=>
  obtain⟨o',z⟩:=I.base.there b o q (by rw[hx];simp)
  rw[h]at z;cases z
theorem oQ(hE:∀ x cls dx H',W x H'->F2 K CL H' cls dx x->E cls dx H'):∀ A',KA (CXR P w) (GJ (CXR P w) P w K mg base N qual scope f cd A outer s H E) (EKW K CL A' W):=by
 intro A' pI Y H1 s1 ev s2 I h;obtain⟨e,T,cls,dx,H',rfl,os,bare,un,hok,fl,he,hT,ne,nT,x,xr,wx⟩:=h;have I':=I.call' (s':=s2) (ch:=[]) os un hok bare (λb z=>absurd z (by simp))
 have hb0:Un (frs outer) [] H H' s.heap s2.heap:=I'.base;show AB (model P w) (A.deeper (EW qual scope s.heap.objs.size f cd)) (leaving (EW qual scope s.heap.objs.size f cd) (.ref e)) _ _ s2;refine Yp (L:=s.heap.objs.size) I'.ok.frames rfl I'.stack fl λh' T' fl' sh hT'=>?_
 have e0:s.heap.get? e=Af:=Kc I rfl ne;have T0:s.heap.get? T=Af:=Kc I rfl nT;refine⟨e,T',cls,dx,H',rfl,I'.os,bare,Un.shift hb0 sh ?_ (Oz I'),HOk.shift hok sh ?_ I'.stkFree,fl',he,?_,e0,?_,?_⟩
 .intro b hb;rcases AI.mp hb with rfl|hb
  .exact e0
  .rw[Bk.mp hb];exact T0
 .intro b hb;rcases AI.mp hb with rfl|hb
  .exact he
  .rw[Bk.mp hb];exact hT
 .rcases hT' with rfl|z
  .exact hT
  .exact Mj hok z
 .rcases hT' with rfl|z
  .exact T0
  .exact Kc I' rfl z
 .exact hE x cls dx H' wx xr
theorem rzR(hE:∀ x cls dx H',W x H'->F2 K CL H' cls dx x->E cls dx H'):LP (GJ (CXR P w) P w K mg base N qual scope f cd A outer s H E) CL W:=by
 intro pI Y H1 s1 e C dx t x I e0 he ge xr hw;have hb0:Un (frs outer) [] H H1 s.heap s1.heap:=I.base;have e0':s.heap.get? e=Af:=e0 rfl;show AB (model P w) (A.deeper (EW qual scope s.heap.objs.size f cd)) (leaving (EW qual scope s.heap.objs.size f cd) (.ref e)) _ _ s1;refine Yi (cls:=.ref C) (dx:=dx) (L:=s.heap.objs.size) I.ok.frames rfl I.stack ge rfl rfl rfl (a0:=.ref t) rfl rfl λh' T' fl' sh hT'=>?_
 have one:∀{Z_:Ak->Prop},Z_ e->∀ b∈[e],Z_ b:=λ{Z_} z b hb=>by rw[Bk.mp hb];exact z
 exact⟨e,T',.ref C,dx,H1,rfl,I.os,I.bare,Un.shift hb0 sh (one e0') (Oz I),HOk.shift I.hok sh (one (Z_:=λb=>H1 b=Af) he) I.stkFree,fl',he,Mj I.hok hT',e0',Kc I rfl hT',hE x _ dx H1 hw xr⟩
theorem ownR:Fb (model P w) (GJ (CXR P w) P w K mg base N qual scope f cd A outer s H E).A (GJ (CXR P w) P w K mg base N qual scope f cd A outer s H E).env (GJ (CXR P w) P w K mg base N qual scope f cd A outer s H E).xe:=PassesOwn.leaving
end
noncomputable def veB:Ac Aj:=[.type "ValueError",.type "Exception",.type "BaseException",.type "object"]
noncomputable def Ea(K:Fg)(C:Ak)(v:Am Aj):Ai:=match K.lookup C with
  | some ⟨.type "type",_,.cls c,z⟩=>(match c.mro,z.toList with
    |.ref c0::tl,[_,_,_,_,Ab (.builtin nw),_]=>c0==C&&(nw == "ValueError.__new__" && (!c.hasDel&&(PySem.W.tailIn K veB tl&&(W5 K c.ns&&Bv K c.ns "__init__" == Ab v))))
    | _,_=>Ad)
  |_=>Ad
theorem aY(q:IV K C veB "ValueError.__new__" = Aa):Ea K C Af=Aa:=by
 unfold IV at q;unfold Ea;split at q
 .rename_i dd cd sl ho;split at q
  .rename_i C' bm k0 k1 k2 k3 n k5 hm hs;simp only[Al]at q;obtain⟨⟨⟨⟨⟨h1,h2⟩,h3⟩,h4⟩,h5⟩,h6⟩:=q;simp only[ho,hm,hs,Al];exact⟨h1,h2,h3,h4,h5,h6⟩
  .cases q
 .cases q
structure XcOk (K:Fg) (C:Ak):Prop where
 exc:∃ v,Ea K C v=Aa
 ga:Bf K (.ref C) "__getattribute__" = Ab (Ab (.builtin "BaseException.__getattribute__"))
 gt:Bf K (.ref C) "__getattr__" = Ab Af
 cl:Bf K (.ref C) "__class__" = Ab (Ab (.builtin "object.__class__"))
 ob:CI K C (.type "object")=Ab Aa
 be:BB K (.ref C) (.type "BaseException")=Ab Aa
 cs:(Dv K C).isSome=Aa
 ve:CO K (.ref C) (.type "ValueError")=Ab Aa
def XAt(e C:Ak)(h:AD):Prop:=∃ o,h.get? e=Ab o/\o.cls=.ref C
theorem iK{N:Ak}{v:Aj}(X:K.In h)(G:h.Ns N m)(q:Bv K N x=Ab (Ab v)):m x=Ab v:=by
 obtain⟨ob,es,ep,g,dt,_,fd⟩:=G;unfold Bv at q;split at q
 .rename_i es' n' sl lk;have g':=X _ _ lk;rw[g]at g';cases g';cases dt;split at q
  .rename_i hf;cases q;rw[<-fd];unfold nsFind findBy;rw[<-UP,hf];rfl
  .by_cases z:(es.toList.any λy=>y.refKey)=Aa
   .rw[Aq z]at q;cases q
   .rw[As z]at q;cases q
 .cases q
theorem QV{h0:AD}(X0:K.In h0)(q:Ea K C v=Aa):
  ∃ bm N nm qn bs hd sn sub ab col dd k0 k1 k2 k3 k5 mN,(∀ h:AD,K.In h->h.get? C=Ab (excClassObj nm qn C N bs bm hd sn sub ab col dd k0 k1 k2 k3 k5 "ValueError.__new__")/\h.Ns N mN/\OwnTail h veB bm)/\mN "__init__" = v/\bm.contains (.type "BaseException")=Aa:=by
 unfold Ea at q;split at q
 .rename_i dd cd sl ho;split at q
  .rename_i C' bm k0 k1 k2 k3 n k5 hm hs;simp only[Al,A7,BA]at q;obtain⟨rfl,rfl,hdel,ht,hok,hni⟩:=q;obtain⟨nm,bs,mro,ns,qn,hd,sn,sub,ab,col,del⟩:=cd;dsimp only at hm hdel hok hni;subst hm hdel;have hsl:sl=#[k0,k1,k2,k3,Ab (.builtin "ValueError.__new__"),k5]:=by
    obtain⟨l⟩:=sl;simp only at hs;rw[hs]
   subst hsl;have kN:∃ o,K.lookup ns=Ab o:=by
    unfold W5 at hok;split at hok
    .rename_i z;exact⟨_,z⟩
    .cases hok
   obtain⟨oN,hoN⟩:=kN;have nsAt:∀ h:AD,K.In h->h.Ns ns (h0.nsMap ns):=λh X=>by
    obtain⟨o,es,ep,e1,r⟩:=Heap.Ns.of_isNs (W1 X0 hok);have e2:=X0 _ _ hoN;rw[e1]at e2;cases e2;exact⟨_,es,ep,X _ _ hoN,r⟩
   refine⟨bm,ns,nm,qn,bs,hd,sn,sub,ab,col,dd,k0,k1,k2,k3,k5,h0.nsMap ns,λh X=>⟨X _ _ ho,nsAt h X,W7 X ht⟩,?_,(W7 X0 ht).hasType (by decide)⟩
   cases v with
   |none=>exact PySem.W.nsMap_none_of_in X0 hok hni
   |some u=>exact iK X0 (.of_isNs (W1 X0 hok)) hni
  .cases q
 .cases q
theorem cI(X:K.In h)(q:Ea K C v=Aa):
  ∃ bm N nm qn bs hd sn sub ab col dd k0 k1 k2 k3 k5 mN,h.get? C=Ab (excClassObj nm qn C N bs bm hd sn sub ab col dd k0 k1 k2 k3 k5 "ValueError.__new__")/\h.Ns N mN/\mN "__init__" = v/\OwnTail h veB bm:=by
 obtain⟨bm,N,nm,qn,bs,hd,sn,sub,ab,col,dd,k0,k1,k2,k3,k5,mN,ho,hi,_⟩:=QV X q;obtain⟨o1,o2,o3⟩:=ho h X;exact⟨bm,N,nm,qn,bs,hd,sn,sub,ab,col,dd,k0,k1,k2,k3,k5,mN,o1,o2,hi,o3⟩
section
variable{prog:AM}{w:AY}{A:AT}{E:Vq}{h:AD}{g:Ax ED}{d:HE}{t:Ae}{os:Ha}{K:Fg}{e C:Ak}
theorem Je(p:XAt e C h):PySem.W.Looks M h (typeOf (.ref e)) (.ref C):=by
 obtain⟨o,h1,h2⟩:=p;exact h2 ▸ (PySem.W.Looks.ld h1).andThen .now
theorem YY{R:Ih->Ap->Prop}{tp:Aj}(X:K.In h)(p:XAt e C h)(hm:CI K C (.type "object")=Ab Aa)(hq:R (.ok (.ret (.ref C))) ⟨h,g,d,t,os⟩):
  F9 (model prog w) A (.call (.builtin "getset_descriptor.__get__") ⟨[.builtin "object.__class__",.ref e,tp],[]⟩) R ⟨h,g,d,t,os⟩:=by
 have L0:=Je (M:=model prog w) p;have L1:=PySem.W.looks_mroIn (M:=model prog w) X hm;refine Gh PySem.W.KF.slot_gs.plain PySem.W.KF.entry_gs (PySem.W.KF.slot_gs.check _ _ _ _ _ _ _ _ PySem.W.KF.type_class (PySem.W.KF.args_gs _ _ _) ?_);unfold Builtin.«getset_descriptor.__get__» Builtin.Getset_descriptor.descrGet;rw[PySem.W.dga_obj];refine Ao (AK ?_);unfold Builtin.Getset_descriptor.descrGetter Builtin.Getset_descriptor.descrCheckInstance Builtin.Getset_descriptor.descrNameAndClass isInstance;simp only[PySem.W.KF.owner_class]
 repeat lk
 refine⟨Code.quiet_builtin _ (by decide+kernel),codeAny_builtin PySem.W.KF.entry_class ?_⟩
 unfold Builtin.«object.__class__» shownTypeOf
 repeat lk
 exact hq
theorem X3{Q:Fin->Ap->Prop}(X:K.In h)(x:XcOk K C)(p:XAt e C h)(hq:Q (.done (.ret (.ref C))) ⟨h,g,d,t,os⟩):
  AB (model prog w) A (Builtin.«object.__getattribute__» ⟨[.ref e,.str "__class__" tk],[]⟩) Q E ⟨h,g,d,t,os⟩:=by
 have L0:=Je (M:=model prog w) p;have L1:=Dr (M:=model prog w) X x.cl;have hT5:(⟨h,g,d,t,os⟩:Ap).TypeIs (.builtin "object.__class__") "getset_descriptor" := Wz;have f5:=Wz;have f6:=F.slot_gs_get.lookup;have f7:=F.slot_gs_set.lookup
 repeat (any_goals (first|assumption|with_reducible refine L0.at ?_|with_reducible refine L1.at ?_|wp_step))
 refine YY X p x.ob ?_
 repeat (any_goals (first|assumption|wp_step))
theorem PZ{nameV:Aj}(X:K.In h)(x:XcOk K C)(p:XAt e C h)(hq:Q () ⟨h,g,d,t,os⟩):AB M A (W9 "BaseException.__getattribute__" ⟨[.ref e,nameV],[]⟩) Q E ⟨h,g,d,t,os⟩:=by
 have hk:builtinKind "BaseException.__getattribute__" = Ab .slot:=by decide+kernel
 have hsplit:splitId "BaseException.__getattribute__" = Ab ("BaseException", "__getattribute__"):=by decide+kernel
 have L0:=Je (M:=M) p;have L1:=W4 (M:=M) X x.be;have ha:=F.args_bexc_ga (.ref e) nameV;simp only[W9,hk,hsplit];refine Ao ?_
 .unfold isInstance
  repeat (first|(with_reducible refine Ao (L0.at ?_))|(with_reducible refine L1.at ?_)|wp_step)
  exact hq
theorem aZ{Q:Vq}(X:K.In h)(x:XcOk K C)(p:XAt e C h)(hq:Q (.ref C) ⟨h,g,d,t,os⟩):AB (model prog w) A (getAttrBy (.ref e) (.str "__class__" tk) fill expr) Q E ⟨h,g,d,t,os⟩:=by
 have L0:=Je (M:=model prog w) p;have L1:=Dr (M:=model prog w) X x.ga;have L2:=Dr (M:=model prog w) X x.gt;have f3:=FB.ga.bind (.ref e);have hx0:(expr&&Jb (C7 "BaseException.__getattribute__"))=Ad:=by cases expr<;>rfl
 have hx2:(C7 "BaseException.__getattribute__" == C7 "object.__getattribute__")=Ad:=by decide+kernel
 have hx1:(Jb (De C)&&C7 "BaseException.__getattribute__" == C7 "object.__getattribute__")=Ad:=by rw[hx2];rfl
 repeat (any_goals (first|assumption|with_reducible refine L0.at ?_|with_reducible refine L1.at ?_|with_reducible refine L2.at ?_|wp_step))
 refine Gh FB.ga.plain Wq (PZ X x p (X3 X x p ?_))
 repeat (any_goals (first|assumption|wp_step))
theorem X1{Q:Am Aj->Ap->Prop}(X:K.In h)(x:XcOk K C)(p:XAt e C h)(hq:Q (Ab (.ref C)) ⟨h,g,d,t+1,os⟩):AB (model prog w) A (getAttr? (.ref e) "__class__") Q E ⟨h,g,d,t,os⟩:=by
 unfold getAttr? getAttrBy?
 repeat (any_goals (first|assumption|with_reducible apply aZ X x p|wp_step))
end
theorem Rl{e C:Ak}(x:XcOk K C):PySem.W.KitX K (.ref e) (.ref C) (XAt e C) where
 ty:=λM h _ p=>Je p
 it:=λM h X _=>by
  obtain⟨cd,hc⟩:=Eg.mp x.cs;unfold Dv at hc;split at hc
  .rename_i c' d' cd' sl' ho;intro A' Q' E' s' k q;unfold isType loadHead;exact Ao (wpAny_loadPart (k _ _ (X _ _ ho)) (AK q))
  .cases hc
 ne:=λh tp dd its n sl X htp=>by
  obtain⟨cd,hc⟩:=Eg.mp x.cs;refine Bool.eq_false_iff.mpr λq=>?_
  have e:C=tp:=IU (A7.mp q);subst e;unfold Dv at hc;split at hc
  .rename_i c' d' cd' sl' ho;have z:=(X _ _ ho).symm.trans htp;cases z
  .cases hc
 ca:=λ{_ _ _ _ _ s} X p k=>by
  obtain⟨h,g,d,t,os⟩:=s;exact X1 X x p k
theorem YZ{A:AT}{E:Vq}{g:Ax ED}{d:HE}{t:Ae}{os:Ha}{e C C':Ak}{b:Ai}{Q:Ai->Ap->Prop}(X:K.In h)(p:XAt e C h)(x':XcOk K C')(hs:BB K (.ref C) (.ref C')=Ab b)(hq:Q b ⟨h,g,d,t,os⟩):AB M A (excMatches (.ref e) (.ref C')) Q E ⟨h,g,d,t,os⟩:=by
 obtain⟨bm,N,nm,qn,bs,hd,sn,sub,ab,col,dd,k0,k1,k2,k3,k5,mN,hC',_,_,T⟩:=cI X x'.exc.choose_spec;have hcB:(De C'::bm).contains (.type "BaseException")=Aa:=by rw[List.contains_cons,T.hasType (show veB.contains (.type "BaseException")=Aa by decide),Bool.or_true]
 have L0:=Je (M:=M) p;have L1:=W4 (M:=M) X hs;have f:=tc_notTuple;unfold excMatches
 repeat (first|(with_reducible refine Ao (L0.at ?_))|(with_reducible refine L1.at ?_)|(with_reducible refine Ao (L1.at ?_))|with_reducible refine G8 hC' ?_|(with_reducible refine wpAny_isSubtype_exc hC' ?_;rw[hcB])|wp_step)
 all_goals first|exact hq|(cases b<;>(wp_walk;exact hq))
def II(X:Cx)(pI:Pn)(e:Ak):Prop:=e≠X.env.locals/\(∀ x c,X.env.cells.lookup x=Ab c->c≠e)/\(∀ p∈X.pn++pI,p.1≠e)/\X.s₀.heap.get? e=Af
section
variable{X:Cx}{pI:Pn}{Y:L2.St}{H:Hp}{s:Ap}{e:Ak}
theorem Od(I:Inv X pI Y H s)(hx:X.ex=[])(h:s.heap.get? e=Af):II X pI e:=by
 refine⟨?_,λx c q z=>?_,λp hp z=>?_,Kc I hx h⟩
 .rintro rfl;obtain⟨m,⟨o,_,_,ho,_⟩,_⟩:=I.loc;rw[h]at ho;cases ho
 .obtain⟨v,o,ho,_⟩:=I.cell x c q;rw[z,h]at ho;cases ho
 .obtain⟨q,_⟩:=I.pin p hp;rw[z,h]at q;cases q
theorem QM{ex:Ac Ak}(I:Inv X pI Y H s)(hx:X.ex=[])(sh:Shift ex (frs X.stack) s.heap h')(ha:∀ b∈ex,II X pI b)(hH:∀ b∈ex,H b=Af):Inv X pI Y H {s with heap:=h'}:=by
 have kp:∀ b o,s.heap.get? b=Ab o->b∉ex->∃ sl,h'.get? b=Ab {o with slots:=sl}:=λb o q n=>by
  by_cases hb:b∈frs X.stack
  .exact sh.slot b o q hb
  .exact⟨o.slots,sh.keep b o q n hb⟩
 have cellK:∀ x c,X.env.cells.lookup x=Ab c->∀ v,s.heap.IsCell c v->h'.IsCell c v:=λx c q v ⟨o,ho,hd⟩=>by
  obtain⟨sl,z⟩:=kp c o ho λz=>(ha c z).2.1 x c q rfl
  exact⟨_,z,hd⟩
 refine⟨I.ok,I.os,I.bare,?_,?_,λx c q=>?_,I.free,I.freeC,λp hp=>?_,HOk.shift I.hok sh hH I.stkFree,I.len⟩
 .have b0:=I.base;rw[hx]at b0 ⊢;exact Un.shift b0 sh (λb hb=>(ha b hb).2.2.2) (Oz I)
 .obtain⟨m,⟨o,es,ep,ho,r⟩,hl⟩:=I.loc;obtain⟨sl,z⟩:=kp _ o ho λz=>(ha _ z).1 rfl
  refine⟨m,⟨_,es,ep,z,r⟩,λi x v e1 e2 e3=>?_⟩
  obtain⟨u,ru,l⟩:=hl i x v e1 e2 e3;refine⟨u,ru,?_⟩;rcases l with l|⟨k,c,q,z⟩
  .exact .inl l
  .exact .inr ⟨k,c,q,cellK x c q _ z⟩
 .obtain⟨v,z⟩:=I.cell x c q;exact⟨v,cellK x c q v z⟩
 .obtain⟨q,n,ne,nf,d⟩:=I.pin p hp;exact⟨sh.keep p.1 p.2 q (λz=>(ha p.1 z).2.2.1 p hp rfl) (λz=>(AI.mp (I.stkSub p.1 z)).elim ne nf),n,ne,nf,d⟩
theorem Yl(I:Inv X pI Y H s)(hx:X.ex=[])(ha:II X pI e)(hH:H e=Af)(ho:∃ o,s.heap.get? e=Ab o)(p:φ s.heap)(hφ:∀ h1 h2:AD,φ h1->(∀ o,h1.get? e=Ab o->h2.get? e=Ab o)->φ h2):Inv X pI Y (upd H e (.ext φ)) s:=by
 have ne:∀ b o,H b=Ab o->b≠e:=λb o q z=>by rw[z,hH]at q;cases q
 refine⟨I.ok,I.os,I.bare,⟨I.base.keep,I.base.slot,λb o q n hb=>?_,I.base.there,λb xs q=>?_,λb o u q=>?_,λb ps q=>?_⟩,I.loc,I.cell,?_,λx c q=>?_,λp hp=>?_,λb o q=>?_,I.len⟩
 .rw[B6 λz=>by rw[z,ha.2.2.2]at q;cases q]
  exact I.base.free b o q n hb
 .have:=I.base.tups b xs q;rw[B6 (ne _ _ this)];exact this
 .have:=I.base.frzs b o u q;rw[B6 (ne _ _ this)];exact this
 .obtain⟨more,this⟩:=I.base.tbls b ps q;exact⟨more,by rw[B6 (ne _ _ this)];exact this⟩
 .rw[B6 λz=>ha.1 z.symm];exact I.free
 .rw[B6 (ha.2.1 x c q)];exact I.freeC x c q
 .obtain⟨q,n,r⟩:=I.pin p hp;exact⟨q,by rw[B6 (ha.2.2.1 p hp)];exact n,r⟩
 .by_cases hb:b=e
  .subst hb;rw[GE]at q;cases q;exact⟨p,ho,hφ⟩
  .rw[B6 hb]at q;exact(I.hok b o q).stay (λc v hc z=>z) (λc z=>by rw[B6 (ne _ _ z)];exact z) λc zs z=>by rw[B6 (ne _ _ z)];exact z
theorem Yx{i:Ae}{n:Ah}{tk:Ae}(I:Inv X pI Y H s)(hN:X.N.Nodup)(hi:X.N[i]?=Ab n)(hn:s.heap.Ns X.env.locals m)(hn':h'.Ns X.env.locals (λx=>if x=n then v else m x))(hs:E9 X.env.locals s.heap h'):Inv X pI (Y.set i Af) H {s with heap:=h',toks:=tk}:=by
 obtain⟨m0,hn0,hl⟩:=I.loc;have em:m0=m:=by
  obtain⟨o,es,ep,h1,h2,_,h3⟩:=hn0;obtain⟨o',es',ep',h1',h2',_,h3'⟩:=hn;rw[h1]at h1';cases h1';rw[h2]at h2';cases h2'
  funext y
  rw[<-h3,<-h3']
 subst em;obtain⟨oL,_,_,hoL,_⟩:=id hn;have lt:∀ b o,X.s₀.heap.get? b=Ab o->b≠X.env.locals:=λb o q=>Bj (AO (AL q) I.ok.above)
 refine⟨I.ok,I.os,I.bare,⟨λb o q n hb hx=>?_,λb o q n hb hx=>?_,I.base.free,λb o q hx=>?_,I.base.tups,I.base.frzs,I.base.tbls⟩,⟨_,hn',λj y v' e1 e2 e3=>?_⟩,λy c q=>?_,I.free,I.freeC,λp hp=>?_,λb ob q=>?_,by rw[Bb];exact I.len⟩
 .exact(hs.2 b (lt b o q)).trans (I.base.keep b o q n hb hx)
 .obtain⟨sl,e1⟩:=I.base.slot b o q n hb hx;exact⟨sl,(hs.2 b (lt b o q)).trans e1⟩
 .obtain⟨o',e1⟩:=I.base.there b o q hx;exact⟨o',(hs.2 b (lt b o q)).trans e1⟩
 .by_cases hj:i=j
  .subst hj;have:=GF e2;cases this
  .rw[Ci hj]at e2;obtain⟨u',r',q⟩:=hl j y v' e1 e2 e3;refine⟨u',r',?_⟩;rcases q with ⟨k,e⟩|⟨k,c,e,z⟩
   .refine .inl ⟨k,?_⟩;have:y≠n:=λe=>hj (N3 hN hi (e ▸ e1))
    simp[this,e]
   .exact .inr ⟨k,c,e,z.sameBut hs (I.cne y c e)⟩
 .obtain⟨w',z⟩:=I.cell y c q;exact⟨w',z.sameBut hs (I.cne y c q)⟩
 .obtain⟨q,n,ne,nf,d⟩:=I.pin p hp;exact⟨(hs.2 p.1 ne).trans q,n,ne,nf,d⟩
 .refine(I.hok b ob q).stay (λc w' hc z=>(hs.2 c ?_).trans z) (λ_ q=>q) λ_ _ q=>q
  rintro rfl;have hfree:=I.free;rcases hc with z|hc
  .rw[<-z,hfree]at q;cases q
  .rw[hfree]at hc;cases hc
end
noncomputable def Cx.hot(X:Cx)(e:Ak):Cx:={X with A:=X.A.mark (Ab (.ref e)),calm:=Ad,xe:=λ_ _=>A5}
section
variable{X:Cx}{pI:Pn}{Y:L2.St}{H:Hp}{s:Ap}{e:Ak}
theorem iI(ok:X.Ok):(Cx.hot X e).Ok:=⟨ok.mod,ok.kind,ok.glob,ok.blt,ok.above,ok.inj,ok.has,ok.cab,λz=>(nomatch z),ok.frames,ok.stk,ok.exf,ok.bs,ok.bsz,ok.noex,ok.exfs,ok.funs,ok.frf⟩
theorem RL(I:Inv X pI Y H s)(e:Ak):Inv (Cx.hot X e) pI Y H s:=⟨iI I.ok,I.os,I.bare,I.base,I.loc,I.cell,I.free,I.freeC,I.pin,I.hok,I.len⟩
theorem Zw(ok:X.Ok)(I:Inv (Cx.hot X e) pI Y H s):Inv X pI Y H s:=⟨ok,I.os,I.bare,I.base,I.loc,I.cell,I.free,I.freeC,I.pin,I.hok,I.len⟩
theorem Sx.unset(x:Sx K CL Fz B U Y H)(i:Ae):Sx K CL Fz B (U.set i Af) (Y.set i Af) H:=by
 have get:∀(j:Ae)(y:D×Ai),(U.set i Af)[j]?=Ab (Ab y)->i≠j/\U[j]?=Ab (Ab y):=λj y h=>by
  by_cases hj:i=j
  .subst hj;have:=GF h;cases this
  .exact⟨hj,by rw[Ci hj]at h;exact h⟩
 have sub:∀ a,BL B (U.set i Af) (Y.set i Af) a->BL B U Y a:=λa h=>by
  rcases h with h|⟨j,d,h1,h2⟩
  .exact .inl h
  .obtain⟨hj,h1⟩:=get j _ h1;rw[Ci hj]at h2;exact .inr ⟨j,d,h1,h2⟩
 refine⟨⟨λj d h=>?_,λj d h=>?_,by rw[Bb,Bb];exact x.len⟩,λa h=>x.aok a (sub a h),λj d a h1 h2=>?_,λj k d f a h1 h2 h3 h4=>?_,x.same,by rw[Bb,Bb];exact x.len⟩
 .obtain⟨hj,h1⟩:=get j _ h;obtain⟨v,q,r⟩:=x.good.sh j d h1;exact⟨v,by rw[Ci hj];exact q,Rep.sub sub _ r⟩
 .obtain⟨hj,h1⟩:=get j _ h;obtain⟨a,xs,ds,q,z,ha,hh,rr⟩:=x.good.ow j d h1;exact⟨a,xs,ds,by rw[Ci hj];exact q,z,.inr ⟨j,d,h,by rw[Ci hj];exact q⟩,hh,Reps.sub sub _ rr⟩
 .obtain⟨hj,h1⟩:=get j _ h1;rw[Ci hj]at h2;exact x.new j d a h1 h2
 .obtain⟨hj,h1⟩:=get j _ h1;obtain⟨hk,h2⟩:=get k _ h2;rw[Ci hj]at h3;rw[Ci hk]at h4;exact x.dis j k d f a h1 h2 h3 h4
end
def IR(e C:Ak)(dx:Am Ak)(h:AD):Prop:=∃ o,h.get? e=Ab o/\o.cls=.ref C/\o.dict=dx/\∃ us,o.data=.fields us
noncomputable def JS(X:Cx)(CL:ClA)(pI:Pn)(Y:L2.St)(H:Hp)(y:Ex)(Xw:Vq):Prop:=
 ∀ s' H' e T cls dx,Inv X pI Y H' s'->AG H H'->Fly e T cls dx s'.heap->H' e=Af->H' T=Af->II X pI e->II X pI T->F2 X.K CL H' cls dx y->Xw (.ref e) s'
def STB(X:Cx)(CL:ClA)(body:Ac AZ)(f:Rho->O):Prop:=∀ Fz B pI s Y H D U (Xw:Vq),Fb (model X.prog X.w) X.A X.env Xw->Inv X pI Y H s->Sx X.K CL Fz B U Y H ->
  (match f U with
   |.exn y U'=>U'=U->JS X CL pI Y H y Xw
   | o=>BW X.K CL Fz B (λ_ _=>A5) o D)->(∀ y U',f U=.exn y U'->U'=U)->AB (model X.prog X.w) X.A (execs body X.env) (SP X pI D) Xw s
noncomputable def Ui(up:Ae->Ac Ae)(c i:Ae)(o:O)(fh:Rho->O):O:=match o with
  | .exn y U'=>if (up y.c).contains c=Aa then (match fh (U'.set i (Ab (.exc y.c y.fs,Ad))) with
      |.next U''=>.next (U''.set i Af)
      |.ret d f=>.ret d f
      | _=>.bad) else .bad
  |o=>o
theorem dB{i:Ae}{g n:Ah}{p1 hp:AR}{b:Ai}{rest:Ac EX}{s1:Ap}{U':Rho}{D:Ends}{e T1:Ak}{dx:Am Ak}{y:Ex}(hx:X.ex=[])(hN:X.N.Nodup)(hi:X.N[i]?=Ab n)(hl:X.env.scope.names.lookup n=Ab .local)(hg:Gl X g)(hm:X.mg g=Ab (.ref C'))(hdb:(g==("__debug__" : Ah))=Ad)(xc:XcOk X.K C')(hsu:BB X.K (.ref C) (.ref C')=Ab b)(hh:∀ e,SSs (Cx.hot X e) CL (λ_ _=>A5) (h0::hs) fh)(I1:Inv X pI Y H' s1)(fl1:Fly e T1 (.ref C) dx s1.heap)(ae:II X pI e)(aT1:II X pI T1)(he:H' e=Af)(HT1:H' T1=Af)(gx:Sx X.K CL Fz B U' Y H')(hcl:CL y.c=Ab C)(xr:F2 X.K CL H' (.ref C) dx y)(p2:b=Aa->BW X.K CL Fz B W (hdO i y U' fh) D)(p3:b=Ad->AB (model X.prog X.w) X.A (Jz (.ref e) X.env rest) (SP X pI D) X.xe s1):AB (model X.prog X.w) X.A (Jz (.ref e) X.env (.ExceptHandler (Ab (.Name g p1)) (Ab n) (h0::hs) hp::rest)) (SP X pI D) X.xe s1:=by
 obtain⟨Cx0,hcl0,ecl,hfs⟩:=xr (BL B U' Y) gx.aok;have xat:∀{h:AD}{T:Ak},Fly e T (.ref C) dx h->XAt e C h:=λ{h T} z=>by
  obtain⟨oe,_,_,_,_,z1,z2,_⟩:=z;exact⟨oe,z1,z2⟩
 have xad:∀{h:AD}{T:Ak},Fly e T (.ref C) dx h->IR e C dx h:=λ{h T} z=>by
  obtain⟨oe,vs,_,_,_,z1,z2,z3,_,z4,_⟩:=z;exact⟨oe,z1,z2,z3,vs,z4⟩
 have two:∀{T:Ak}{Z_:Ak->Prop},Z_ e->Z_ T->∀ b∈[e,T],Z_ b:=λ{T Z_} h1 h2 b hb=>by
  rcases AI.mp hb with rfl|hb
  .exact h1
  .rw[Bk.mp hb];exact h2
 refine wpAny_handleBy_cons (codeAny_handlers_test (Lr (X:=Cx.hot X e) (RL I1 e) hg hm ?_ hdb)) (by intro q;cases q)
 refine YZ (K:=X.K) I1.kIn (xat fl1) xc hsu ?_;cases b with
 |false=>exact p3 rfl
 |true=>
 have p2:=p2 rfl;refine codeAny_handlers_suite_as ?_;refine Ze (base:=X.base) (l:=X.stack) I1.stack fl1 λh3 T3 fl3 sh3 hT3=>?_
 have I3:=QM I1 hx sh3 (two ae aT1) (two (Z_:=λb=>H' b=Af) he HT1)
 obtain⟨oe,oeg,oec⟩:=xad fl3;have I3':=Yl (φ:=IR e C dx) I3 hx ae he ⟨oe,oeg⟩ ⟨oe,oeg,oec⟩ λh1 h2 ⟨o,q1,q2⟩ k=>⟨o,k o q1,q2⟩
 have sm3:AG H' (upd H' e (.ext (IR e C dx))):=λb o q=>by rw[B6 λz=>by rw[z,he]at q;cases q];exact q
 refine Of (X:=Cx.hot X e) (i:=i) (v:=.ref e) (RL I3' e) hN hi (.inl hl) rfl (λs4 I4=>?_) (.inr hl)
 have x3:=gx.grow sm3;have nA:¬ BL B U' Y e:=λz=>by
  obtain⟨xs,q⟩:=x3.aok e z;rw[GE]at q;cases q
 have rp:Rep X.K CL (upd H' e (.ext (IR e C dx))) (BL B U' Y) (.ref e) (.exc y.c y.fs):=by
  refine⟨e,C,IR e C dx,rfl,nA,hcl,GE,λh ⟨o,z1,z2,_⟩=>⟨o,z1,z2⟩,?_⟩
  rcases hfs with z|⟨d,vs,ed,nd,hd,rf⟩
  .exact .inl z
  .exact .inr ⟨d,vs,nd,sm3 _ _ hd,Repf.kp (Kp.of sm3) _ rf,λh ⟨o,z1,_,z3,z4⟩=>⟨o,z1,z3.trans ed,z4⟩⟩
 have x4:=x3.set i rp;have fin:∀{s5:Ap}{Y5:L2.St}{H5:Hp}{Q:FW->Ap->Prop},Inv (Cx.hot X e) pI Y5 H5 s5->(∀ s6,Inv X pI (Y5.set i Af) H5 s6->Q () s6)->AB (model X.prog X.w) X.A (do bindName X.env n .none;unbindBehindTheSuite X.env n hp) Q X.xe s5:=λ{s5 Y5 H5 Q} I5 k=>by
  have I5':=Zw I1.ok I5;obtain⟨m,hn,_⟩:=id I5'.loc;refine wpAny_nameGoes_keeps hl hn (by rw[I1.ok.kind];rfl) λh6 v6 hn6 sb6=>?_
  exact k _ (Yx I5' hN hi hn hn6 sb6)
 refine Bt (hh e Fz B pI s4 _ _ {nx:=λY5 H5=>D.nx (Y5.set i Af) H5,rt:=D.rt} I4 ⟨_,x4,?_⟩) (λf s5 hf=>?_) λ_ _ z=>Bs z
 .unfold hdO at p2;cases ef:fh (U'.set i (Ab (.exc y.c y.fs,Ad))) with
  |next U''=>rw[ef]at p2;exact λY5 H5 x5=>p2 _ _ (x5.unset i)
  |ret d b=>rw[ef]at p2;exact p2
  |brk _=>rw[ef]at p2;exact p2.elim
  |cont _=>rw[ef]at p2;exact p2.elim
  |exn _ _=>rw[ef]at p2;exact p2.elim
  |bad=>rw[ef]at p2;exact p2.elim
 .cases f with
  |next=>
   obtain⟨Y5,H5,I5,q⟩:=hf;exact fin I5 λs6 I6=>⟨_,H5,I6,q⟩
  |ret u=>
   obtain⟨v,Y5,H5,I5,r,q⟩:=hf;exact fin I5 λs6 I6=>⟨v,_,H5,I6,r,q⟩
  |brk=>obtain⟨_,_,_,q⟩:=hf;exact Bs q
  |cont=>obtain⟨_,_,_,q⟩:=hf;exact Bs q
def UO(X:Cx)(CL:ClA)(up:Ae->Ac Ae)(g:Ah)(c:Ae):Prop:=∃ C',Gl X g/\X.mg g=Ab (.ref C')/\(g==("__debug__" : Ah))=Ad/\XcOk X.K C'/\∀ c' C,CL c'=Ab C->BB X.K (.ref C) (.ref C')=Ab ((up c').contains c)
theorem Y_2{y:Ex}{Q:Flow->Ap->Prop}{hd:Ac EX}(hx:X.ex=[])(hst:X.stack=X.env::X.outer)(hfm:X.env.frame=Ab X.env.locals)(k:∀ e T1 cls dx H' s1,Inv X pI Y H' s1->AG H H'->Fly e T1 cls dx s1.heap->II X pI e->II X pI T1->H' e=Af->H' T1=Af->F2 X.K CL H' cls dx y->AB (model X.prog X.w) X.A (Jz (.ref e) X.env hd) Q X.xe s1):JS X CL pI Y H y (λev s1=>AB (model X.prog X.w) X.A (GQ ev X.env) (λ_ s2=>AB (model X.prog X.w) X.A (HG ev Af) (λ_ s3=>AB (model X.prog X.w) X.A (Jz ev X.env hd) Q X.xe s3) X.xe s2) X.xe s1):=by
 intro s' H' e T cls dx I' sm fl he hT ae aT xr;have two:∀{T:Ak}{Z_:Ak->Prop},Z_ e->Z_ T->∀ b∈[e,T],Z_ b:=λ{T Z_} h1 h2 b hb=>by
  rcases AI.mp hb with rfl|hb
  .exact h1
  .rw[Bk.mp hb];exact h2
 have hfr:X.A.frames=Ab (X.env::X.outer):=by rw[<-hst];exact I'.ok.frames
 refine ZB (base:=X.base) hfr hfm (by rw[<-hst];exact I'.stack) fl λh1 T1 fl1 sh1 hT1=>?_
 rw[<-hst]at sh1;exact k e T1 cls dx H' _ (QM I' hx sh1 (two ae aT) (two (Z_:=λb=>H' b=Af) he hT)) sm fl1 ae (hT1.elim (λz=>z ▸ aT) λz=>Od I' hx z) he (hT1.elim (λz=>z ▸ hT) λz=>Mj I'.hok z) xr
theorem hU{c i:Ae}{g n:Ah}{body:Ac AZ}{p1 hp:AR}{fb:Rho->O}(hx:X.ex=[])(hst:X.stack=X.env::X.outer)(hfm:X.env.frame=Ab X.env.locals)(hN:X.N.Nodup)(hi:X.N[i]?=Ab n)(hl:X.env.scope.names.lookup n=Ab .local)(h1:UO X CL up g c)(hb:STB X CL body fb)(hρ:∀ U y U',fb U=.exn y U'->U'=U)(hh:∀ e,SSs (Cx.hot X e) CL (λ_ _=>A5) (h0::hs) fh):SS X CL W (.Try body [.ExceptHandler (Ab (.Name g p1)) (Ab n) (h0::hs) hp] [] [] pos) (λU=>Ui up c i (fb U) fh):=λFz B pI s Y H D I ⟨U,x,p⟩=>by
 refine wpAny_Try_except (Bt (hb Fz B pI s Y H D U _ PassesOwn.looking I x ?_ (hρ U)) (λf s1 hf=>?_) λ_ _ z=>z)
 .dsimp only at p;cases eb:fb U with
  |exn y U'=>
   rw[eb]at p;intro e0;subst e0;have p2:BW X.K CL Fz B W (if (up y.c).contains c=Aa then hdO i y U' fh else .bad) D:=p
   refine Y_2 hx hst hfm λe T1 cls dx H' s1 I1 sm fl1 ae aT1 he HT1 xr=>?_
   have gx:=x.grow sm;obtain⟨C,hcl,rfl,_⟩:=xr (BL B U' Y) gx.aok;obtain⟨C',hg,hm,hdb,xc,hup⟩:=h1;refine dB (W:=W) hx hN hi hl hg hm hdb xc (hup y.c C hcl) hh I1 fl1 ae aT1 he HT1 gx hcl xr (λhc=>?_) (λhc=>?_)
   .rw[Aq hc]at p2;exact p2
   .rw[As (by rw[hc];exact Az)]at p2;exact p2.elim
  |next U'=>rw[eb]at p;exact p
  |ret d b=>rw[eb]at p;exact p
  |brk U'=>rw[eb]at p;exact p
  |cont U'=>rw[eb]at p;exact p
  |bad=>rw[eb]at p;exact p.elim
 .cases f with
  |next=>exact E3 hf
  |ret u=>exact hf
  |brk=>exact hf
  |cont=>exact hf
theorem Q6{f:Ak}{sp:Sp}{E:XK}{e:An}{es:Ac An}{t:TA}(F:FnOk X.prog X.w X.K X.mg X.base CX k f fd ps sp)(hr:Room k X.A)(hg:Gl X x)(hm:X.mg x=Ab (.ref f))(hk:Co X.K (.ref f)=Aa)(hb:G1 X.K fd ps [])(hx:∀ pI H s e s',Inv X pI Y0 H s->CX X.stack H s E e s'->X.xe e s')(ha:PA X (e::es) t)(hdb:(x==("__debug__" : Ah))=Ad)(he:Ay (e::es) X.env=(Ad,eval e X.env)::Ay es X.env)(hpl:(BR pos (Ay es X.env)).any (·.1)=Ad):PE X (.Call (.Name x p) (e::es) [] pos) (λY H Q=>Y=Y0/\t Y H λvs H1=>sp vs H1 Q E):=by
 intro pI s Y H Q I ⟨e0,h⟩;subst e0;refine Fc (Lr I hg hm ?_ hdb);refine WY (h₀:=X.base) I.ok.mod.kin hk (thn (ha pos pI s Y H _ I h) λus s1 ⟨vs,H1,I1,r,q⟩=>⟨I1.kIn,?_⟩) he hpl
 have hl:us.length=ps.length:=by rw[<-r.length];exact F.len _ _ _ _ q
 have hb':GD s1 fd ⟨us,[]⟩ (ps.zip us):=by
  have:=hb s1 us I1.kIn (by rw[Bo];exact hl)
  rw[Bo]at this;exact this
 refine wpAny_call (Hq (F.run X.A X.stack s1 H1 ⟨us,[]⟩ us vs Q E hr I1.env0 hb' r q) λr s' hq=>?_)
 cases r with
 |error e=>exact hx pI H1 s1 e s' I1 hq
 |ok fl=>
  cases fl with
  |ret u=>exact I1.after hq
  |next=>exact Bs hq
  |brk=>exact Bs hq
  |cont=>exact Bs hq
def Pj(K:Fg)(CL:ClA)(Rp:Hp->V->D->Prop)(E0:XK)(H:Hp)(r:R D)(Q:VK):Prop:=match r with
  |.ok d=>∀ v H',AG H H'->Rp H' v d->Q v H'
  |.exn y=>∀ cls dx H',AG H H'->F2 K CL H' cls dx y->E0 cls dx H'
  |.bad=>A5
theorem Me{k n:Ae}{f:Ak}{F:Ac D->R D}{e:An}{es:Ac An}{fs ft:Rho->R (Ac D)}{sh:Rho->Ai}{E0:XK}(G:FnOk X.prog X.w X.K X.mg X.base CX k f fd ps (spD X.K CL n fr F))(hr:Room k X.A)(hg:Gl X x)(hm:X.mg x=Ab (.ref f))(hk:Co X.K (.ref f)=Aa)(hb:G1 X.K fd ps [])(hx:∀ pI H s e s',Inv X pI Y0 H s->CX X.stack H s E0 e s'->X.xe e s')(ha:SA X CL (λ_ _=>A5) (e::es) fs)(hat:SAT X CL (λ_ _=>A5) (e::es) ft)(hst:∀ U,sh U=Aa->ft U=fs U)(hn:∀ U ds,ft U=.ok ds->ds.length=n)(hnx:∀ U y,ft U≠.exn y)(hdb:(x==("__debug__" : Ah))=Ad)(he:Ay (e::es) X.env=(Ad,eval e X.env)::Ay es X.env)(hpl:∀ pos,(BR pos (Ay es X.env)).any (·.1)=Ad)(A:Ak->Prop):PE X (.Call (.Name x p) (e::es) [] pos) (λY H Q=>Y=Y0/\AOk H A/\∃ U,Good X.K CL A U Y H/\Pj X.K CL (DY X.K CL fr H A) E0 H ((ft U).bind λds=>(F ds).bind λd=>if sh U=Aa then .ok d else if FK fr d=Aa then .ok d else .bad) Q):=λpI s Y H Q I ⟨e0,hA,U,gd,q⟩=>by
 by_cases hs:sh U=Aa
 .rw[hst U hs]at q;refine Q6 G hr hg hm hk hb hx (ha A) hdb he (hpl _) pI s Y H Q I ⟨e0,hA,U,gd,?_⟩;cases e1:fs U with
  |bad=>rw[e1]at q;exact q
  |exn y=>exact absurd (by rw[hst U hs];exact e1) (hnx U y)
  |ok ds=>
   rw[e1]at q;intro vs H1 s1 r1;refine⟨ds,A,by rw[r1.length];exact hn U ds (by rw[hst U hs];exact e1),hA.same s1,r1,?_⟩
   have q':Pj X.K CL (DY X.K CL fr H A) E0 H ((F ds).bind λd=>if sh U=Aa then .ok d else if FK fr d=Aa then .ok d else .bad) Q:=q
   cases e2:F ds with
   |ok d=>
    rw[e2,R.bind_ok,Aq hs]at q';exact λv H2 s2 r2=>q' v H2 (s1.trans s2) ⟨r2.1,λz ds' e'=>let ⟨a,xs,z1,z2,z3⟩:=r2.2 z ds' e';⟨a,xs,z1,s1.free z2,z3⟩⟩
   |exn y=>
    rw[e2]at q';exact λcls dx H2 s2 xr=>q' cls dx H2 (s1.trans s2) xr
   |bad=>rw[e2]at q';exact q'.elim
 .refine Q6 G hr hg hm hk hb hx (hat A) hdb he (hpl _) pI s Y H Q I ⟨e0,hA,U,gd,?_⟩;cases e1:ft U with
  |bad=>rw[e1]at q;exact q
  |exn y=>exact absurd e1 (hnx U y)
  |ok ds=>
   rw[e1]at q;intro vs H1 s1 r1;refine⟨ds,A0,by rw[r1.plain.length];exact hn U ds e1,λ_ z=>z.elim,r1.plain,?_⟩
   have q':Pj X.K CL (DY X.K CL fr H A) E0 H ((F ds).bind λd=>if sh U=Aa then .ok d else if FK fr d=Aa then .ok d else .bad) Q:=q
   cases e2:F ds with
   |ok d=>
    rw[e2,R.bind_ok,As hs]at q';split at q'
    .rename_i hc;exact λv H2 s2 r2=>q' v H2 (s1.trans s2) (S7 hA (s1.trans s2) hc ⟨r2.1,λz ds' e'=>let ⟨a,xs,z1,z2,z3⟩:=r2.2 z ds' e';⟨a,xs,z1,s1.free z2,z3⟩⟩)
    .exact q'.elim
   |exn y=>
    rw[e2]at q';exact λcls dx H2 s2 xr=>q' cls dx H2 (s1.trans s2) xr
   |bad=>rw[e2]at q';exact q'.elim
noncomputable def Cx.pw(X:Cx)(pI:Pn)(Xw:Vq):Cx:={X with pn:=X.pn++pI,xe:=Xw}
section
variable{X:Cx}{pI pins':Pn}{Y:L2.St}{H:Hp}{s:Ap}{Xw:Vq}
theorem oW(ok:X.Ok):(Cx.pw X pI Xw).Ok:=⟨ok.mod,ok.kind,ok.glob,ok.blt,ok.above,ok.inj,ok.has,ok.cab,ok.hd,ok.frames,ok.stk,ok.exf,ok.bs,ok.bsz,ok.noex,ok.exfs,ok.funs,ok.frf⟩
theorem LB(I:Inv X pI Y H s)(Xw:Vq):Inv (Cx.pw X pI Xw) [] Y H s:=⟨oW I.ok,I.os,I.bare,I.base,I.loc,I.cell,I.free,I.freeC,λp hp=>I.pin p (by
 rcases Ce.mp hp with z|z
 .exact z
 .exact absurd z (by simp)),I.hok,I.len⟩
theorem Kg(ok:X.Ok)(I:Inv (Cx.pw X pI Xw) pins' Y H s):Inv X pI Y H s:=⟨ok,I.os,I.bare,I.base,I.loc,I.cell,I.free,I.freeC,λp hp=>I.pin p (EQ _ hp),I.hok,I.len⟩
theorem Mq(ok:X.Ok){D:Ends}{f:Flow}{s':Ap}(h:SP (Cx.pw X pI Xw) pins' D f s'):SP X pI D f s':=by
 cases f with
 |next=>obtain⟨Y',H',I,q⟩:=h;exact⟨Y',H',Kg ok I,q⟩
 |brk=>obtain⟨Y',H',I,q⟩:=h;exact⟨Y',H',Kg ok I,q⟩
 |cont=>obtain⟨Y',H',I,q⟩:=h;exact⟨Y',H',Kg ok I,q⟩
 |ret u=>obtain⟨v,Y',H',I,r,q⟩:=h;exact⟨v,Y',H',Kg ok I,r,q⟩
end
section
variable{X:Cx}{CL:ClA}{k n:Ae}{fr:Ai}{f:Ak}{fd:BQ}{ps:Ac Ah}{F:Ac D->R D}{x:Ah}{p pos pos2:AR}{e:An}{es:Ac An}{fs ft:Rho->R (Ac D)}{sh:Rho->Ai}
theorem RF{y:Ex}(hx:X.ex=[])(ok:X.Ok)(q:JS X CL pI Y H y Xw):∀ pins' H1 s1 e s',Inv (Cx.pw X pI Xw) pins' Y H1 s1->CXR X.prog X.w (Cx.pw X pI Xw).stack H1 s1 (λcls dx H'=>F2 X.K CL H' cls dx y/\AG H H') e s'->(Cx.pw X pI Xw).xe e s':=by
 intro pins' H1 s1 ev s' J h;obtain⟨e,T,cls,dx,H',rfl,os,bare,un,hok,fl,he,hT,ne,nT,xr,sm⟩:=h;have J':=Kg ok J;have J2:=J'.call' (s':=s') (ch:=[]) os un hok bare (λb z=>absurd z (by simp))
 exact q s' H' e T cls dx J2 sm fl he hT (Od J' hx ne) (Od J' hx nT) xr
theorem RG:∀ pins' H1 s1 e s',Inv (Cx.pw X pI Xw) pins' Y H1 s1->CXR X.prog X.w (Cx.pw X pI Xw).stack H1 s1 (λ_ _ _=>A5) e s'->(Cx.pw X pI Xw).xe e s':=by
 intro pins' H1 s1 ev s' J h;obtain⟨e,T,cls,dx,H',rfl,os,bare,un,hok,fl,he,hT,ne,nT,w⟩:=h;exact w.elim
variable(hx0:X.ex=[])(G:FnOk X.prog X.w X.K X.mg X.base (CXR X.prog X.w) k f fd ps (spD X.K CL n fr F))(hr:Room k X.A)(hg:Gl X x)(hm:X.mg x=Ab (.ref f))
    (hk:Co X.K (.ref f)=Aa) (hb:G1 X.K fd ps []) (hst:∀ U,sh U=Aa->ft U=fs U) (hn:∀ U ds,ft U=.ok ds->ds.length=n) (hnx:∀ U y,ft U≠.exn y)
    (hdb:(x==("__debug__" : Ah))=Ad) (he:Ay (e::es) X.env=(Ad,eval e X.env)::Ay es X.env) (hpl:∀ pos,(BR pos (Ay es X.env)).any (·.1)=Ad)
    (ha:∀ pI Xw,Fb (model X.prog X.w) X.A X.env Xw->SA (Cx.pw X pI Xw) CL (λ_ _=>A5) (e::es) fs/\SAT (Cx.pw X pI Xw) CL (λ_ _=>A5) (e::es) ft)
include hx0 G hr hg hm hk hb hst hn hnx hdb he hpl ha
theorem Y_8(hs:Dh (.Call (.Name x p) (e::es) [] pos) Af pos2.line X.env=pure Ad):STB X CL [.Expr (.Call (.Name x p) (e::es) [] pos) pos2] (λU=>O.of U ((ft U).bind λds=>(F ds).bind λd=>if sh U=Aa then .ok d else if FK fr d=Aa then .ok d else .bad) λ_=>.next U):=by
 intro Fz B pI s Y H D U Xw own I sx q _;obtain⟨ha1,ha2⟩:=ha pI Xw own;dsimp only at q;cases er:(ft U).bind λds=>(F ds).bind λd=>if sh U=Aa then .ok d else if FK fr d=Aa then .ok d else .bad with
 |bad=>rw[er]at q;exact q.elim
 |exn y=>
  rw[er]at q;have key:=Me (X:=Cx.pw X pI Xw) (p:=p) (pos:=pos) (Y0:=Y) (fr:=fr) (F:=F) (n:=n) (sh:=sh) G hr hg hm hk hb (RF hx0 I.ok (q rfl)) ha1 ha2 hst hn hnx hdb he hpl (BL B U Y);refine Bt (Ms (Kq (pos:=pos2) key hs) [] s Y H D (LB I Xw) ⟨rfl,sx.aok,U,sx.good,?_⟩) (λ_ _ z=>Mq I.ok z) λ_ _ z=>z
  rw[er];exact λcls dx H' sm xr=>⟨xr,sm⟩
 |ok d=>
  rw[er]at q;have key:=Me (X:=Cx.pw X pI Xw) (p:=p) (pos:=pos) (Y0:=Y) (fr:=fr) (F:=F) (n:=n) (sh:=sh) (E0:=λ_ _ _=>A5) G hr hg hm hk hb RG ha1 ha2 hst hn hnx hdb he hpl (BL B U Y)
  refine Bt (Ms (Kq (pos:=pos2) key hs) [] s Y H D (LB I Xw) ⟨rfl,sx.aok,U,sx.good,?_⟩) (λ_ _ z=>Mq I.ok z) λ_ _ z=>z
  rw[er];exact λv H' sm r=>q Y H' (sx.grow sm)
theorem bV{i:Ae}{m:Ah}(hN:X.N.Nodup)(hi:X.N[i]?=Ab m)(hl:Loc X.env.scope m)(hf:X.fn m=Aa\/X.env.scope.names.lookup m=Ab .local)(hs:Dh (.Call (.Name x p) (e::es) [] pos) (Ab (.Name m pos')) pos2.line X.env=pure Ad):STB X CL [.Assign [.Name m pos'] (.Call (.Name x p) (e::es) [] pos) pos2] (λU=>O.of U ((ft U).bind λds=>(F ds).bind λd=>if sh U=Aa then .ok d else if FK fr d=Aa then .ok d else .bad) λd=>.next (U.set i (Ab (d,Ad)))):=by
 intro Fz B pI s Y H D U Xw own I sx q _;obtain⟨ha1,ha2⟩:=ha pI Xw own;dsimp only at q;cases er:(ft U).bind λds=>(F ds).bind λd=>if sh U=Aa then .ok d else if FK fr d=Aa then .ok d else .bad with
 |bad=>rw[er]at q;exact q.elim
 |exn y=>
  rw[er]at q;have key:=Me (X:=Cx.pw X pI Xw) (p:=p) (pos:=pos) (Y0:=Y) (fr:=fr) (F:=F) (n:=n) (sh:=sh) G hr hg hm hk hb (RF hx0 I.ok (q rfl)) ha1 ha2 hst hn hnx hdb he hpl (BL B U Y);refine Bt (Ms (MA (X:=Cx.pw X pI Xw) (i:=i) (pos:=pos2) hN hi hl key hs hf) [] s Y H D (LB I Xw) ⟨rfl,sx.aok,U,sx.good,?_⟩) (λ_ _ z=>Mq I.ok z) λ_ _ z=>z
  rw[er];exact λcls dx H' sm xr=>⟨xr,sm⟩
 |ok d=>
  rw[er]at q;have key:=Me (X:=Cx.pw X pI Xw) (p:=p) (pos:=pos) (Y0:=Y) (fr:=fr) (F:=F) (n:=n) (sh:=sh) (E0:=λ_ _ _=>A5) G hr hg hm hk hb RG ha1 ha2 hst hn hnx hdb he hpl (BL B U Y)
  refine Bt (Ms (MA (X:=Cx.pw X pI Xw) (i:=i) (pos:=pos2) hN hi hl key hs hf) [] s Y H D (LB I Xw) ⟨rfl,sx.aok,U,sx.good,?_⟩) (λ_ _ z=>Mq I.ok z) λ_ _ z=>z
  rw[er];exact λv H' sm r=>q _ H' ((sx.grow sm).set i r.1)
end
section
variable{X:Cx}{CL:ClA}{W:XW}
theorem Y_9{e:An}{es:Ac An}(hcalm:X.calm=Aa)(rz:LP X CL W)(hg:Gl X g)(hm:X.mg g=Ab (.ref C))(hdb:(g==("__debug__" : Ah))=Ad)(xc:Ea X.K C Af=Aa)(hcl:CL c=Ab C)(ha:SA X CL W (e::es) fs)(hxn:∀ ds,xn c ds=.bad\/xn c ds=.ok ⟨c,[]⟩)(he:Ay (e::es) X.env=(Ad,eval e X.env)::Ay es X.env)(hpl:∀ pos,(BR pos (Ay es X.env)).any (·.1)=Ad)(hz:∀ U ds,fs U=.ok ds->ds.length<=100000):SS X CL W (.Raise (Ab (.Call (.Name g np) (e::es) [] cpos)) Af pos) (λU=>O.of U (noX (fs U)) λxs=>O.of U (xn c xs) λx=>.exn x U):=λFz B pI s Y H D I ⟨U,x,p⟩=>by
 dsimp only at p;cases e1:fs U with
 |bad=>rw[e1]at p;exact p.elim
 |exn y=>rw[e1]at p;exact p.elim
 |ok ds=>
  rw[e1]at p;have p2:BW X.K CL Fz B W (O.of U (xn c ds) λx=>.exn x U) D:=p
  rcases hxn ds with e2|e2
  .rw[e2]at p2;exact p2.elim
  .rw[e2]at p2;have p3:∀ H,(∀ b o,Fz b o->H b=Ab o)->W ⟨c,[]⟩ H:=p2;obtain⟨bm,N,nm,qn,bs,hd,sn,sub,ab,col,dd,k0,k1,k2,k3,k5,mN,hob,hni,hbase⟩:=QV I.kIn xc;refine wpAny_Raise_call_subT (bmB:=veB) (nm:=nm) (q:=qn) (C:=C) (N:=N) (bs:=bs) (bm:=bm) (hdct:=hd) (sn:=sn) (sub:=sub) (ab:=ab) (col:=col) (dd:=dd) (k0:=k0) (k1:=k1) (k2:=k2) (k3:=k3) (k5:=k5) (mN:=mN) PySem.F.excBase_ValueError hbase (I.ok.hd hcalm) (by rw[he];show (Ad||(BR cpos (Ay es X.env)).any (·.1))=Ad;rw[hpl];rfl) hni ?_
   refine Lr I hg hm ⟨rfl,?_⟩ hdb;have q1:=ha (BL B U Y) cpos pI s Y H (λvs H1=>AG H H1/\vs.length=ds.length) I ⟨x.aok,U,x.good,by rw[e1];exact λvs H1 s1 r1=>⟨s1,r1.length⟩⟩
   rw[he]at q1 ⊢;refine VR (Bt q1 (λus s2 ⟨vs,H2,I2,r2,s2',hl⟩=>⟨rfl,?_⟩) λ_ _ z=>z)
   obtain⟨o1,o2,o3⟩:=hob _ I2.kIn;refine⟨?_,o1,o2,o3,λh' ev hmade=>?_⟩
   .rw[<-r2.length,hl,B9];have:=hz U ds e1;omega
   .obtain⟨t,ge,_⟩:=hmade.there;have I3:Inv X pI Y H2 {s2 with heap:=h'}:=I2.kept (t':=s2.toks) hmade.keeps
    exact rz pI Y H2 _ ev C Af t ⟨c,[]⟩ I3 (λhx=>Kc I2 hx hmade.new) (Mj I2.hok hmade.new) ge (λA _=>⟨C,hcl,rfl,.inl rfl⟩) (p3 H2 λb o z=>s2' _ _ (x.same b o z))
def Ly(K:Fg)(CL:ClA)(up:Ae->Ac Ae)(c':Ae)(C':Ak):Prop:=∀ c C,CL c=Ab C->CO K (.ref C) (.ref C')=Ab ((up c).contains c')
theorem Rm{s:Ap}{cv:Aj}{b:Ai}{Q:VK}(I:Inv X pI Y H s)(ha:H a=Ab (.ext φ))(hφ:∀ h,φ h->∃ o,h.get? a=Ab o/\o.cls=.ref C)(xc:XcOk X.K C)(e:CO X.K (.ref C) cv=Ab b)(q:Q (.bl b) H):
  AB (model X.prog X.w) X.A (call (.builtin "isinstance") [.ref a,cv]) (EP X pI Y Q) X.xe s:=by
 have p:XAt a C s.heap:=hφ _ (I.hok a _ ha).1;exact PySem.W.kia_one (Rl xc) I.kIn p e (by intro z;cases z) λtk=>⟨.bl b,H,I.tok tk,rfl,q⟩
theorem Ql:∀(Cs:Ac Ak){its:Ac Aj},A6 (Cs.map V.ref) its->its=Cs.map De
 |[],_,rv=>by cases rv;rfl
 |c::cs,_,rv=>by
  cases rv with
  |cons h1 h2=>rw[Ql cs h2];cases h1;rfl
theorem cY{s:Ap}{tp:Ak}{Cs:Ac Ak}{b:Ai}{Q:VK}(I:Inv X pI Y H s)(ha:H a=Ab (.ext φ))(hφ:∀ h,φ h->∃ o,h.get? a=Ab o/\o.cls=.ref C)(xc:XcOk X.K C)(ht:H tp=Ab (.tup (Cs.map V.ref)))(e:Ii X.K (.ref C) (Cs.map De)=Ab b)(q:Q (.bl b) H):
  AB (model X.prog X.w) X.A (call (.builtin "isinstance") [.ref a,.ref tp]) (EP X pI Y Q) X.xe s:=by
 have p:XAt a C s.heap:=hφ _ (I.hok a _ ha).1;obtain⟨_,its,rv,⟨o,ho,hc,n,hd⟩⟩:=I.hok tp _ ht;have ei:its=Cs.map De:=Ql Cs rv;subst ei;obtain⟨cls,dd,dat,sl⟩:=o;have hc':cls=.type "tuple" := hc;have hd':dat=.seq (Cn (Cs.map De)) n:=hd;subst hc' hd';exact PySem.W.kia_tup (Rl xc) I.kIn p ho e (by intro z;cases z) λtk=>⟨.bl b,H,I.tok tk,rfl,q⟩
theorem R7{K:Fg}{up:Ae->Ac Ae}{c:Ae}{C:Ak}(h:CL c=Ab C):∀(cs:Ac (Ae×Ak)),(∀ p∈cs,Ly K CL up p.1 p.2)->Ii K (.ref C) ((cs.map λq:Ae×Ak=>q.2).map De)=Ab (cs.any λp=>(up c).contains p.1)
  |[],_=>rfl
  |p::cs,hk=>by
    have h1:=hk p AN c C h;have h2:=R7 h cs λq hq=>hk q (AC _ hq)
    show (match CO K (.ref C) (.ref p.2) with
      |some Aa=>Ab Aa
      |some Ad=>Ii K (.ref C) ((cs.map λq:Ae×Ak=>q.2).map De)
      | none=>Af)=_
    rw[h1,U_6];cases (up c).contains p.1 with
    |true=>rfl
    |false=>rw[h2];rfl
theorem N6{ks:Ac Ki}{Rp:Hp->V->D->Prop}{Q:VK}(hk:ks.all Et=Aa)(hne:ks≠[])(p:Bg Rp W H (EF up ks d) Q):∃ c fs,d=.exc c fs/\Bg Rp W H (.ok (.bl (ks.any λk=>kiD up k d))) Q:=by
 have ha:ks.any Et=Aa:=by
  cases ks with
  |nil=>exact absurd rfl hne
  |cons k ks=>simp only[C5,Al]at hk;simp[U_6,hk.1]
 cases d with
 | exc c fs=>exact⟨c,fs,rfl,by
   have p':Bg Rp W H (if ks.all Et=Aa then .ok (.bl (ks.any λk=>kiD up k (.exc c fs))) else .bad) Q:=p
   rw[Aq hk]at p';exact p'⟩
 |obj c fs=>exact Bs p
 |dic _=>exact Bs p
 |non=>simp only[EF,ha,EO]at p;exact Bs p
 |bl _=>simp only[EF,ha,EO]at p;exact Bs p
 |int _=>simp only[EF,ha,EO]at p;exact Bs p
 |str _=>simp only[EF,ha,EO]at p;exact Bs p
 |tup _=>simp only[EF,ha,EO]at p;exact Bs p
 |lst _=>simp only[EF,ha,EO]at p;exact Bs p
theorem On{v:V}{fs:Ac (Ah×D)}(r:CF K CL H A v (.exc c fs)):∃ a C φ,v=.ref a/\CL c=Ab C/\H a=Ab (.ext φ)/\∀ h,φ h->∃ o,h.get? a=Ab o/\o.cls=.ref C:=by
 rcases r with ⟨a,C,φ,e,_,hc,hH,hφ,_⟩|⟨a,xs,ds,_,z,_⟩
 .exact⟨a,C,φ,e,hc,hH,hφ⟩
 .cases z
variable{a:An}{fa:Rho->R D}{up:Ae->Ac Ae}{x:Ah}{p p2 pos:AR}
theorem gB{c':Ae}(hxc:∀ c C,CL c=Ab C->XcOk X.K C)(hg:Gl X "isinstance")(hm:X.mg "isinstance" = Af)(hg2:Gl X x)(hm2:X.mg x=Ab (.ref C'))(hkit:Ly X.K CL up c' C')(hdb:(x==("__debug__" : Ah))=Ad)(ha:ST X CL W a fa)(he:Ay [a,.Name x p2] X.env=(Ad,eval a X.env)::Ay [.Name x p2] X.env):SE X CL W (.Call (.Name "isinstance" p) [a,.Name x p2] [] pos) (λU=>(fa U).bind λx=>EF up [.cls c'] x):=λA=>
 PE.weak (Kb (r:=λxs H Q=>∃ a C φ c,xs=[.ref a,.ref C']/\CL c=Ab C/\H a=Ab (.ext φ)/\(∀ h,φ h->∃ o,h.get? a=Ab o/\o.cls=.ref C)/\Q (.bl ((up c).contains c')) H) (λpI s Y H xs us Q I r ⟨b,C,φ,c,e,hc,hH,hφ,q⟩=>by
   subst e;obtain⟨u,w',rfl,r1,r2⟩:=MN r;cases r1;cases r2;exact Rm I hH hφ (hxc c C hc) (hkit c C hc) q)
  hg hm Ge (El (ha A) (El (RO (v:=.ref C') hg2 hm2 rfl hdb) FY rfl) he) (by decide) (by decide) he rfl) λY H Q ⟨hA,U,g,q⟩=>⟨hA,U,g,Bg.bind q λd v H1 _ s1 r1 p1=>by
   obtain⟨c,fs,rfl,p2⟩:=N6 (by rfl) (by simp) p1
   obtain⟨b,C,φ,rfl,hc,hH,hφ⟩:=On r1;refine⟨b,C,φ,c,rfl,hc,hH,hφ,p2 _ H1 (AG.refl H1) ?_⟩;exact congrArg V.bl (Eu _).symm⟩
theorem fY(hxc:∀ c C,CL c=Ab C->XcOk X.K C)(hg:Gl X "isinstance")(hm:X.mg "isinstance" = Af)(hg2:Gl X "ValueError")(hm2:X.mg "ValueError" = Af)(ha:ST X CL W a fa)(he:Ay [a,.Name "ValueError" p2] X.env=(Ad,eval a X.env)::Ay [.Name "ValueError" p2] X.env):SE X CL W (.Call (.Name "isinstance" p) [a,.Name "ValueError" p2] [] pos) (λU=>(fa U).bind λx=>EF up [.verr] x):=λA=>
 PE.weak (Kb (r:=λxs H Q=>∃ a C φ c,xs=[.ref a,.ty "ValueError"]/\CL c=Ab C/\H a=Ab (.ext φ)/\(∀ h,φ h->∃ o,h.get? a=Ab o/\o.cls=.ref C)/\Q (.bl Aa) H) (λpI s Y H xs us Q I r ⟨b,C,φ,c,e,hc,hH,hφ,q⟩=>by
   subst e;obtain⟨u,w',rfl,r1,r2⟩:=MN r;cases r1;cases r2;exact Rm I hH hφ (hxc c C hc) (hxc c C hc).ve q)
  hg hm Ge (El (ha A) (El (RQ (v:=.ty "ValueError") hg2 hm2 PyProof.Rows.Boot.«ValueError» rfl (by decide) (by decide)) FY rfl) he) (by decide) (by decide) he rfl) λY H Q ⟨hA,U,g,q⟩=>⟨hA,U,g,Bg.bind q λd v H1 _ s1 r1 p1=>by
   obtain⟨c,fs,rfl,p2⟩:=N6 (by rfl) (by simp) p1
   obtain⟨b,C,φ,rfl,hc,hH,hφ⟩:=On r1;refine⟨b,C,φ,c,rfl,hc,hH,hφ,p2 _ H1 (AG.refl H1) ?_⟩;exact congrArg V.bl (Eu _).symm⟩
theorem eI(up:Ae->Ac Ae)(c:Ae)(fs:Ac (Ah×D))(cs:Ac (Ae×Ak)):((cs.map λq=>Ki.cls q.1).any λk=>kiD up k (.exc c fs))=cs.any λq=>(up c).contains q.1:=List.any_map
def Ut(Cs:Ac Ak):TA:=λ_ H Q=>Q (Cs.map V.ref) H
theorem fZ{ts:Ac An}{cs:Ac (Ae×Ak)}(hxc:∀ c C,CL c=Ab C->XcOk X.K C)(hg:Gl X "isinstance")(hm:X.mg "isinstance" = Af)(hts:PA X ts (Ut (cs.map λq:Ae×Ak=>q.2)))(hne:cs≠[])(hl:cs.length<=1000)(hkit:∀ q∈cs,Ly X.K CL up q.1 q.2)(ha:ST X CL W a fa)(he:Ay [a,.Tuple ts kk p2] X.env=(Ad,eval a X.env)::Ay [.Tuple ts kk p2] X.env):SE X CL W (.Call (.Name "isinstance" p) [a,.Tuple ts kk p2] [] pos) (λU=>(fa U).bind λx=>EF up (cs.map λq=>.cls q.1) x):=λA=>
 PE.weak (Kb (r:=λxs H Q=>∃ a C φ c tp,xs=[.ref a,.ref tp]/\CL c=Ab C/\H a=Ab (.ext φ)/\(∀ h,φ h->∃ o,h.get? a=Ab o/\o.cls=.ref C)/\H tp=Ab (.tup ((cs.map λq:Ae×Ak=>q.2).map V.ref))/\Q (.bl (cs.any λq=>(up c).contains q.1)) H) (λpI s Y H xs us Q I r ⟨b,C,φ,c,tp,e,hc,hH,hφ,ht,q⟩=>by
   subst e;obtain⟨u,w',rfl,r1,r2⟩:=MN r;cases r1;cases r2;exact cY I hH hφ (hxc c C hc) ht (R7 hc cs hkit) q)
  hg hm Ge (El (ha A) (El (Tt hts) FY rfl) he) (by decide) (by decide) he rfl) λY H Q ⟨hA,U,g,q⟩=>⟨hA,U,g,Bg.bind q λd v H1 _ s1 r1 p1=>by
   have hk:(cs.map λq=>Ki.cls q.1).all Et=Aa:=by simp[E6,Et]
   obtain⟨c,fs,rfl,p2⟩:=N6 hk (by simpa using hne) p1
   obtain⟨b,C,φ,rfl,hc,hH,hφ⟩:=On r1;refine⟨by rw[AX,AX,B9];omega,λt ht=>?_⟩
   have hbt:b≠t:=FE hH ht;refine⟨b,C,φ,c,t,rfl,hc,by rw[B6 hbt];exact hH,hφ,GE,p2 _ _ (FF ht _) ?_⟩
   exact congrArg V.bl (eI up c fs cs).symm⟩
end
theorem SX(q:Ea K C v=Aa):∃ dd cd sl bm,K.lookup C=Ab ⟨.type "type",dd,.cls cd,sl⟩/\cd.mro=.ref C::bm:=by
 unfold Ea at q;split at q
 .rename_i dd cd sl ho;split at q
  .rename_i C' bm k0 k1 k2 k3 n k5 hm hs;simp only[Al,A7,BA]at q;obtain⟨rfl,_⟩:=q;exact⟨dd,cd,sl,bm,ho,hm⟩
  .cases q
 .cases q
theorem Mo(q:Ea K C v=Aa):∃ cd bm,Dv K C=Ab cd/\cd.mro=.ref C::bm:=by
 obtain⟨dd,cd,sl,bm,h1,h2⟩:=SX q;exact⟨cd,bm,by unfold Dv;rw[h1],h2⟩
theorem kT(q:Ea K C v=Aa):Fp K (.ref C)=Ab (.type "type"):=by
 obtain⟨dd,cd,sl,bm,h1,h2⟩:=SX q;show (K.lookup C).map _=_;rw[h1];rfl
theorem cU{v:Ai}{i i':Am Aj}(q:Ea K C i=Aa)(q':Ea K C' i'=Aa)(su:BB K (.ref C) (.ref C')=Ab v):CO K (.ref C) (.ref C')=Ab v:=by
 unfold CO;by_cases e:C=C'
 .subst e;obtain⟨cd,bm,h1,h2⟩:=Mo q;have su':CI K C (.ref C)=Ab v:=su;have:v=Aa:=by
   unfold CI at su';rw[h1,Vz,h2,As (by simp)]at su'
   rw[<-Bh su'];simp
  rw[Aq (by simp),this]
 .rw[As (λz=>e (IU (A7.mp z)))]
  obtain⟨cd,bm,h1,h2⟩:=Mo q';show (if ((Dv K C').isSome&&Fp K (.ref C')==Ab (.type "type"))=Aa then BB K (.ref C) (.ref C') else Af)=_
  rw[h1,kT q',Aq (by simp),su]
theorem lT(exc:Ea K C v=Aa)(ga:Bf K (.ref C) "__getattribute__" = Ab (Ab (.builtin "BaseException.__getattribute__")))(gt:Bf K (.ref C) "__getattr__" = Ab Af)(cl:Bf K (.ref C) "__class__" = Ab (Ab (.builtin "object.__class__")))(ob:CI K C (.type "object")=Ab Aa)(be:BB K (.ref C) (.type "BaseException")=Ab Aa)(sv:BB K (.ref C) (.type "ValueError")=Ab Aa):XcOk K C:=by
 obtain⟨cd,bm,h1,h2⟩:=Mo exc;refine⟨⟨v,exc⟩,ga,gt,cl,ob,be,by rw[h1];rfl,?_⟩
 unfold CO;rw[As (λz=>by cases A7.mp z)]
 have hm:W3 "ValueError" = Aa:=by decide+kernel
 show (if W3 "ValueError" = Aa then BB K (.ref C) (.type "ValueError") else Af)=_
 rw[Aq hm,sv]
noncomputable abbrev pS:CXT:=λ_ _ _ _ _ _=>A5
structure HotOk (P:AM) (w:AY) (K:Fg) (mg:Ah->Am Aj) (base:AD) (k:Ae) (f:Ak) (fd:BQ) (ps:Ac Ah) (sp:Sp):Prop where
 len:∀ vs H Q E,sp vs H Q E->vs.length=ps.length
 run:∀(A:AT)(ev:Ak)(outer:Ac Cr)(s:Ap)(H:Hp)(args:Args)(us:Ac Aj)(vs:Ac V)(Q:VK)(E:XK),Room k A->Env0 P w K mg base (A.mark (Ab (.ref ev))) outer s H->GD s fd args (ps.zip us)->A6 vs us->sp vs H Q E ->
  F9 (model P w) (A.mark (Ab (.ref ev))) (.call (.ref f) args) (CR pS outer P w H s Q E) s
theorem Zu{v:Ai}{i:Am Aj}(q:Ea K C i=Aa)(mr:CI K C' (.type "object")=Ab Aa)(ty:Fp K (.ref C')=Ab (.type "type"))(su:BB K (.ref C) (.ref C')=Ab v):CO K (.ref C) (.ref C')=Ab v:=by
 unfold CO;by_cases e:C=C'
 .subst e;obtain⟨cd,bm,h1,h2⟩:=Mo q;have su':CI K C (.ref C)=Ab v:=su;have:v=Aa:=by
   unfold CI at su';rw[h1,Vz,h2,As (by simp)]at su'
   rw[<-Bh su'];simp
  rw[Aq (by simp),this]
 .rw[As (λz=>e (IU (A7.mp z)))]
  show (if ((Dv K C').isSome&&Fp K (.ref C')==Ab (.type "type"))=Aa then BB K (.ref C) (.ref C') else Af)=_
  have cs:(Dv K C').isSome=Aa:=by
   unfold CI at mr;cases e1:Dv K C' with
   |none=>rw[e1]at mr;cases mr
   |some cd=>rfl
  rw[cs,ty,Aq (by simp),su]
def spH(K:Fg)(CL:ClA)(n:Ae)(fr:Ai)(F:Ac D->R D):Sp:=λvs H Q _=>∃(ds:Ac D)(A:Ak->Prop),vs.length=n/\AOk H A/\Reps K CL H A vs ds/\(match F ds with
  |.ok d=>∀ v H',AG H H'->DY K CL fr H A H' v d->Q v H'
  |.exn _=>A5
  | .bad=>A5)
section
variable{X:Cx}{CL:ClA}{ev:Ak}
theorem bU{t:An}{xs ys:Ac AZ}{fc:Rho->R Ai}{fx fy:Rho->O}(hc:∀ pI Xw,Fb (model X.prog X.w) X.A X.env Xw->SB (Cx.pw X pI Xw) CL (λ_ _=>A5) t fc)(hnx:∀ U y,fc U≠.exn y)(hx:STB X CL xs fx)(hy:STB X CL ys fy):STB X CL [.If t xs ys pos] (λU=>O.of U (fc U) λb=>if b=Aa then fx U else fy U):=by
  intro Fz B pI s Y H D U Xw own I sx q hρ;dsimp only at q hρ;cases ec:fc U with
  |bad=>rw[ec]at q;exact q.elim
  |exn y=>exact absurd ec (hnx U y)
  |ok b=>
    rw[ec]at q hρ;have key:=hc pI Xw own (BL B U Y) [] s Y H (λb' H'=>b'=b/\AG H H') (LB I Xw) ⟨sx.aok,U,sx.good,by rw[ec];exact λH' sm=>⟨rfl,sm⟩⟩
    refine Hr (thn (wpAny_If (Q:=SP X pI D) (thn key λb' s1 ⟨H1,I1,e,sm⟩=>?_)) (λf s1 z=>by
      cases f with
      |next=>exact E3 z
      |ret v=>exact z
      |brk=>exact z
      | cont=>exact z))
    subst e;have J:=Kg I.ok I1;have up:∀{y:Ex},JS X CL pI Y H y Xw->JS X CL pI Y H1 y Xw:=λ{y} w s' H' e T cls dx a1 a2=>w s' H' e T cls dx a1 (sm.trans a2)
    have lift:∀{o:O},(match o with
       |.exn y U'=>U'=U->JS X CL pI Y H y Xw
       |o=>BW X.K CL Fz B (λ_ _=>A5) o D)->(match o with
       |.exn y U'=>U'=U->JS X CL pI Y H1 y Xw
       | o=>BW X.K CL Fz B (λ_ _=>A5) o D):=λ{o} z=>by
      cases o with
      |exn y U'=>exact λe=>up (z e)
      |next _=>exact z
      |ret _ _=>exact z
      |brk _=>exact z
      |cont _=>exact z
      |bad=>exact z
    cases b' with
    |true=>exact hx Fz B pI s1 Y H1 D U Xw own J (sx.grow sm) (lift q) hρ
    |false=>exact hy Fz B pI s1 Y H1 D U Xw own J (sx.grow sm) (lift q) hρ
end
section
variable{M:Eo}{A:AT}{E:Vq}{s:Ap}{env:Cr}{nm q:Ah}{C N:Ak}{bs bm bmB:Ac Aj}{hdct:Ai}{sn:Ac Ah}{sub:Ac Aj}{ab:Ai}{col:Am Ai}{dd:Am Ak}{k0 k1 k2 k3 k5:Am Aj}{B newId initId:CD}
end
section
variable{prog:AM}{w:AY}{A:AT}{E:Vq}{h:AD}{g:Ax ED}{d:HE}{t:Ae}{os:Ha}
variable{nm q:Ah}{C N fI:Ak}{bs bm bmB:Ac Aj}{hdct:Ai}{sn:Ac Ah}{sub:Ac Aj}{ab:Ai}{col:Am Ai}{dd:Am Ak}{k0 k1 k2 k3 k5:Am Aj}{B newId initId:CD}{mN:Ah->Am Aj}{rest:Ac Aj}{oI:DE}
end
section
variable{prog:AM}{w:AY}{A:AT}{E:Vq}{s:Ap}{env:Cr}
variable{nm q:Ah}{C N fI:Ak}{bs bm bmB:Ac Aj}{hdct:Ai}{sn:Ac Ah}{sub:Ac Aj}{ab:Ai}{col:Am Ai}{dd:Am Ak}{k0 k1 k2 k3 k5:Am Aj}{B newId initId:CD}{mN:Ah->Am Aj}
end
section
variable{prog:AM}{w:AY}{A:AT}{E:Vq}{h:AD}{g:Ax ED}{d:HE}{tk0:Ae}{os:Ha}
variable{nm q:Ah}{C N e t:Ak}{dx:Am Ak}{bs bm bmB:Ac Aj}{hdct:Ai}{sn:Ac Ah}{sub:Ac Aj}{ab:Ai}{col:Am Ai}{dd:Am Ak}{k0 k1 k2 k3 k5:Am Aj}{B newId initId:CD}
end
section
variable{X:Cx}{CL:ClA}{pI:Pn}{Y:L2.St}{H:Hp}{s:Ap}
end
section
variable{X:Cx}{CL:ClA}
end
section
variable{X:Cx}{CL:ClA}{C:Ak}{nm q:Ah}{N:Ak}{bs bm:Ac Aj}{hdct:Ai}{sn:Ac Ah}{sub:Ac Aj}{ab:Ai}{col:Am Ai}{dd:Am Ak}{k0 k1 k2 k3 k5:Am Aj}
end
section
variable{prog:AM}{w:AY}{A:AT}{E:Vq}{h:AD}{g:Ax ED}{d:HE}{tk0:Ae}{os:Ha}{K:Fg}
variable{nm q:Ah}{C N e t:Ak}{bs bm bmB:Ac Aj}{sn:Ac Ah}{sub:Ac Aj}{ab:Ai}{col:Am Ai}{dd:Am Ak}{k0 k1 k2 k3 k5:Am Aj}{B newId sa owner:CD}
end
section
variable{prog:AM}{w:AY}{A:AT}{E:Vq}{h:AD}{g:Ax ED}{d:HE}{tk0:Ae}{os:Ha}{K:Fg}
variable{nm q:Ah}{C N e t:Ak}{bs bm bmB:Ac Aj}{sn:Ac Ah}{sub:Ac Aj}{ab:Ai}{col:Am Ai}{dd:Am Ak}{k0 k1 k2 k3 k5:Am Aj}{B newId sa owner:CD}
end
section
variable{X:Cx}{pI:Pn}{Y:L2.St}{H:Hp}{s:Ap}{e:Ak}
end
section
variable{X:Cx}{C:Ak}{nm q:Ah}{N:Ak}{bs bm:Ac Aj}{sn:Ac Ah}{sub:Ac Aj}{ab:Ai}{col:Am Ai}{dd:Am Ak}{k0 k1 k2 k3 k5:Am Aj}
end
noncomputable def Hv(K:Fg)(C:Ak):Ai:=match K.lookup C with
  |some ⟨_,_,.cls c,_⟩=>c.hasDict
  |_=>Ad
section
variable{P:AM}{w:AY}{K:Fg}{mg:Ah->Am Aj}{base:AD}{CL:ClA}{C fI OV:Ak}{x qual g par z f:Ah}{st:AZ}{fd:BQ}{k:Ae}{np apos p1 p2 p3 p4 p5 cpos p6 p7 p8 p9 p10:AR}
variable{nm q:Ah}{N:Ak}{bs bm:Ac Aj}{sn:Ac Ah}{sub:Ac Aj}{ab:Ai}{col:Am Ai}{dd:Am Ak}{k0 k1 k2 k3 k5:Am Aj}
end
section
variable{X:Cx}{CL:ClA}{W:XW}
theorem Yz{e:An}{es:Ac An}(hcalm:X.calm=Aa)(hx:X.ex=[])(hr:Room k X.A)(rz:LP X CL W)(hg:Gl X g)(hm:X.mg g=Ab (.ref C))(hdb:(g==("__debug__" : Ah))=Ad)(hcl:CL c=Ab C)(ha:SA X CL W (e::es) fs)(hxn:∀ ds,xn c ds=.bad\/(xn c ds=.ok ⟨c,[]⟩/\Ea X.K C Af=Aa)\/A5)(he:Ay (e::es) X.env=(Ad,eval e X.env)::Ay es X.env)(hpl:∀ pos,(BR pos (Ay es X.env)).any (·.1)=Ad)(hz:∀ U ds,fs U=.ok ds->ds.length<=100000):SS X CL W (.Raise (Ab (.Call (.Name g np) (e::es) [] cpos)) Af pos) (λU=>O.of U (noX (fs U)) λxs=>O.of U (xn c xs) λx=>.exn x U):=λFz B pI s Y H D I ⟨U,x,p⟩=>by
 have hpl':(BR cpos (Ay (e::es) X.env)).any (·.1)=Ad:=by rw[he];show (Ad||(BR cpos (Ay es X.env)).any (·.1))=Ad;rw[hpl];rfl
 cases e1:fs U with
 |bad=>dsimp only at p;rw[e1]at p;exact p.elim
 |exn y=>dsimp only at p;rw[e1]at p;exact p.elim
 |ok ds=>
  rcases hxn ds with e2|⟨e2,xc⟩|z
  .dsimp only at p;rw[e1]at p;have p2:BW X.K CL Fz B W (O.of U (xn c ds) λx=>.exn x U) D:=p
   rw[e2]at p2;exact p2.elim
  .refine Y_9 (fs:=fs) (xn:=λ_ ds'=>match xn c ds' with | .ok ⟨_,[]⟩=>.ok ⟨c,[]⟩|_=>.bad) hcalm rz hg hm hdb xc hcl ha (λds'=>by
    split
    .exact .inr rfl
    .exact .inl rfl) he hpl hz Fz B pI s Y H D I ⟨U,x,?_⟩
   dsimp only at p ⊢;rw[e1]at p ⊢;have p2:BW X.K CL Fz B W (O.of U (xn c ds) λx=>.exn x U) D:=p
   rw[e2]at p2;show BW X.K CL Fz B W (O.of U (match xn c ds with | .ok ⟨_,[]⟩=>(.ok ⟨c,[]⟩:R Ex)|_=>.bad) λx=>.exn x U) D
   rw[e2];exact p2
  .exact z.elim
end
section
variable{prog:AM}{w:AY}{A:AT}{E:Vq}{h:AD}{g:Ax ED}{d:HE}{t:Ae}{os:Ha}{K:Fg}{e C dx:Ak}{f:Ah}{mA:Ah->Am Aj}{v:Aj}
theorem OJ(p:IR e C (Ab dx) h):XAt e C h:=let ⟨o,a,b,_⟩:=p;⟨o,a,b⟩
theorem XZ{Q:Fin->Ap->Prop}(X:K.In h)(hf:Bf K (.ref C) f=Ab Af)(hd:Hv K C=Aa)(p:IR e C (Ab dx) h)(hn:h.Ns1 dx mA)(hv:mA f=Ab v)(hq:Q (.done (.ret v)) ⟨h,g,d,t,os⟩):AB (model prog w) A (Builtin.«object.__getattribute__» ⟨[.ref e,.str f tk],[]⟩) Q E ⟨h,g,d,t,os⟩:=by
 have L0:=Je (M:=model prog w) (OJ p);have L1:=Dr (M:=model prog w) X hf;obtain⟨o,ge,oc,od,us,dt⟩:=p;unfold Hv at hd;split at hd
 .rename_i c' d' cd' sl' lk;have gC:=X _ _ lk;unfold Builtin.«object.__getattribute__»
  repeat (any_goals (first|assumption|with_reducible refine L0.at ?_|with_reducible refine L1.at ?_|wp_step))
  rw[dt];unfold instanceDict
  repeat (first|(with_reducible refine G8 ge ?_;rw[oc])|with_reducible refine G8 gC ?_|wp_step)
  rw[od]
  repeat (first|(with_reducible refine wpAny_nsGet hn.ns ?_;rw[hv])|wp_step)
  exact hq
 .cases hd
theorem eA{Q:Vq}(X:K.In h)(x:XcOk K C)(hf:Bf K (.ref C) f=Ab Af)(hd:Hv K C=Aa)(p:IR e C (Ab dx) h)(hn:h.Ns1 dx mA)(hv:mA f=Ab v)(hh:handedOut v=pure v)(hq:Q v ⟨h,g,d,t,os⟩):AB (model prog w) A (getAttrBy (.ref e) (.str f tk) fill expr) Q E ⟨h,g,d,t,os⟩:=by
 have L0:=Je (M:=model prog w) (OJ p);have L1:=Dr (M:=model prog w) X x.ga;have L2:=Dr (M:=model prog w) X x.gt;have f3:=FB.ga.bind (.ref e);have hx0:(expr&&Jb (C7 "BaseException.__getattribute__"))=Ad:=by cases expr<;>rfl
 have hx2:(C7 "BaseException.__getattribute__" == C7 "object.__getattribute__")=Ad:=by decide+kernel
 have hx1:(Jb (De C)&&C7 "BaseException.__getattribute__" == C7 "object.__getattribute__")=Ad:=by rw[hx2];rfl
 repeat (any_goals (first|assumption|with_reducible refine L0.at ?_|with_reducible refine L1.at ?_|with_reducible refine L2.at ?_|wp_step))
 refine Gh FB.ga.plain Wq (PZ X x (OJ p) (XZ X hf hd p hn hv ?_))
 repeat (any_goals (first|assumption|wp_step))
 all_goals trace_state
theorem YX{b:Ai}{Q:Vq}(X:K.In h)(x:XcOk K C)(hf:Bf K (.ref C) f=Ab Af)(hd:Hv K C=Aa)(p:IR e C (Ab dx) h)(hn:h.Ns1 dx mA)(hv:mA f=Ab v)(hh:handedOut v=pure v)(hq:Q v ⟨h,g,d,t+1,os⟩):AB (model prog w) A (getAttr (.ref e) f b) Q E ⟨h,g,d,t,os⟩:=by
 unfold getAttr
 repeat (any_goals (first|assumption|with_reducible apply eA X x hf hd p hn hv hh|wp_step))
end
section
variable{X:Cx}{CL:ClA}{W:XW}{K:Fg}{H:Hp}{A:Ak->Prop}
theorem Q4{f:Ah}{d:D}:∀{vs:Ac (Ah×V)}{fs:Ac (Ah×D)},Repf K CL H A vs fs->fs.lookup f=Ab d->∃ v,vs.lookup f=Ab v/\Rep K CL H A v d
 |[],[],_,q=>nomatch q
 |(n,v)::vs,(m,d')::fs,⟨⟨e,r⟩,rs⟩,q=>by
  have e':n=m:=e;subst e';by_cases z:(f==n)=Aa
  .simp only[HH,z]at q ⊢;cases q;exact⟨v,rfl,r⟩
  .simp only[HH,z]at q ⊢;exact Q4 rs q
theorem aN{a:An}{fa:Rho->R D}{f:Ah}(hxc:∀ c C,CL c=Ab C->XcOk X.K C)(hnf:∀ c C,CL c=Ab C->Hv X.K C=Aa/\Bf X.K (.ref C) f=Ab Af)(ha:ST X CL W a fa)(hb:Ew a f X.env (eval a X.env)=eval a X.env):SE X CL W (.Attribute a f pos) (λU=>(fa U).bind λx=>Ng x f):=λA=>by
 intro pI s Y H Q I ⟨hA,U,gd,q⟩;refine fD hb (thn (ha A pI s Y H _ I ⟨hA,U,gd,Bg.bind q (Q':=λv H1=>∃ d,CF X.K CL H1 A v d/\Bg (λH2=>Rep X.K CL H2 A) W H1 (Ng d f) Q) λd v H1 _ s1 r1 p1=>⟨d,r1,p1⟩⟩) λu s1 ⟨v,H1,I1,rv,d,rp,p1⟩=>?_)
 cases d with
 |exc c fs=>
  have p2:Bg (λH2=>Rep X.K CL H2 A) W H1 (match fs.lookup f with|some d=>.ok d|none=>.bad) Q:=p1
  cases el:fs.lookup f with
  |none=>rw[el]at p2;exact p2.elim
  |some d=>
   rw[el]at p2;rcases rp with ⟨e,C,φ,rfl,_,hc,hH,hφ,hfs⟩|⟨a,xs,ds,_,z,_⟩
   .rcases hfs with z|⟨dx,vs,nd,hd,rf,hφ2⟩
    .rw[z]at el;cases el
    .obtain⟨y,l,ry⟩:=Q4 rf el;cases rv;have ph:=(I1.hok e _ hH).1;obtain⟨o,ge,oc⟩:=hφ _ ph;obtain⟨o',ge',od,us,odt⟩:=hφ2 _ ph;rw[ge]at ge';cases ge';obtain⟨mA,hn,rel⟩:=I1.hok dx _ hd;obtain⟨u',hu,ru⟩:=LQ.some_of (v:=y) (o:=mA f) (by rw[<-l];exact rel f)
     obtain⟨k1,k2⟩:=hnf c C hc;obtain⟨hp,g2,d2,tk2,os2⟩:=s1;exact YX I1.kIn (hxc c C hc) k2 k1 ⟨o,ge,oc,od,us,odt⟩ hn hu (PySem.W.handedOut_of (Yo ru)) ⟨y,H1,I1.tok _,ru,p2 y H1 (AG.refl H1) ry⟩
   .cases z
 |_=>exact p1.elim
end
theorem Y_6:∀{ss:Ac Ah}{its:Ac Aj},A6 (ss.map V.str) its->∃ l:Ac (Ah×BV),its=strValues l/\l.map (·.1)=ss:=by
 intro ss
 induction ss with
 |nil=>intro its v;cases v;exact⟨[],rfl,rfl⟩
 |cons x ss ih=>
  intro its v;cases v with
  |cons v1 v2=>
   obtain⟨t,rfl⟩:=v1;obtain⟨l,e1,e2⟩:=ih v2;exact⟨(x,t)::l,by rw[e1];rfl,by rw[BP,e2]⟩
section
variable{X:Cx}{CL:ClA}{W:XW}
def mC(K:Fg):V->Ac V->Hp->VK->Prop:=λx xs H Q=>∃ sep q ss,x=.str sep/\xs=[.ref q]/\SqL K H q (ss.map V.str)/\IY sep ss=Aa/\Q (.str (K6 sep ss)) H
theorem cO:MtR X "str.join" (mC X.K):=by
 intro pI s Y H x vs v us Q I rx rv h;obtain⟨sep,l,ss,rfl,rfl,sq,hok,q⟩:=h;obtain⟨t,rfl⟩:=rx;obtain⟨u,rfl,ru⟩:=rv.one;cases ru;obtain⟨its,r,pl,hz⟩:=I.list sq;obtain⟨ls,rfl,rfl⟩:=Y_6 r;unfold IY at hok;rw[BA]at hok;refine Iw Ww (Ix _ _ _) PySem.F.entry_str_join (PySem.F.args_str_join_2 _ _) (meets_str_join_list sep t l ls hok) ⟨pl.isList,post_join ls ⟨joinFit_length hok,λt' k=>?_⟩⟩
 exact⟨.str _,H,I.kept (t':=k) λ_ _ e=>e,⟨_,rfl⟩,q⟩
theorem XN:∀{es:Ac D}{ss:Ac Ah}{ys:Ac V},Jg es=Ab ss->Reps K CL H A ys es->ys=ss.map V.str:=by
 intro es
 induction es with
 |nil=>
  intro ss ys h r;cases h;cases ys with
  |nil=>rfl
  |cons=>exact r.elim
 |cons e es ih=>
  intro ss ys h r;cases ys with
  |nil=>exact r.elim
  |cons y ys=>
   cases e with
   |str x=>
    have h':(Jg es).map (x :: ·)=Ab ss:=h;cases e2:Jg es with
    |none=>rw[e2]at h';cases h'
    |some js=>
     rw[e2]at h';cases h';have e1:y=.str x:=r.1;rw[ih e2 r.2,e1];rfl
   |_=>cases h
theorem aO{y:An}{s:Ah}{apos:AR}{fy:Rho->R D}(hy:SE X CL W y fy)(hbase:Ew (.Constant (.str s) k p) "join" X.env (eval (.Constant (.str s) k p) X.env)=eval (.Constant (.str s) k p) X.env)(hfew:((BR cpos (Ay [y] X.env)).all (λx=>!x.1)&&(Ip cpos (GM [] X.env)).all (λx=>x.1.isSome)&&decide ([y].length+([]:Ac Ee).length+(if ([]:Ac Ee).isEmpty then 0 else 1)<30))=Aa)(hline:(apos.endLine==cpos.line)=Aa)(hs:Ay [y] X.env=[(Ad,eval y X.env)]):
  SE X CL W (.Call (.Attribute (.Constant (.str s) k p) "join" apos) [y] [] cpos) (λU=>(fy U).bind λx=>biD .sjoin [.str s,x]):=λA=>
 PE.weak (M0 PySem.F.plainAttrs_str Ww PySem.F.type_str_join cO (OO (X:=X) (CL:=CL) (W:=W) A) (El (hy A) FY hs) hbase hfew hline hs rfl) λY H Q ⟨hA,U,g,p⟩=>⟨hA,U,g,λv H1 s1 r1=>by
  dsimp only at p;have ev:v=.str s:=r1;subst ev;refine⟨rfl,hA.same s1,U,g.same s1,?_⟩;cases e:fy U with
  |bad=>rw[e]at p;exact p.elim
  |exn x=>rw[e]at p;exact λH2 s2=>p H2 (s1.trans s2)
  |ok d=>
   rw[e]at p;intro v' H2 s2 r2;have p1:Bg (λH=>Rep X.K CL H A) W H (biD .sjoin [.str s,d]) Q:=p
   cases d with
   |lst ds=>
    obtain⟨a,xs,rfl,_,sq,rs⟩:=r2;have p2:Bg (λH=>Rep X.K CL H A) W H (Lv s ds) Q:=p1
    unfold Lv at p2;cases e3:Jg ds with
    |none=>rw[e3]at p2;exact p2.elim
    |some ss=>
     rw[e3]at p2;dsimp only at p2;split at p2
     .rename_i hok;have ex:=XN e3 rs;subst ex;exact⟨s,a,ss,rfl,rfl,sq,hok,p2 _ H2 (s1.trans s2) rfl⟩
     .exact p2.elim
   | _=>exact p1.elim⟩
end
theorem noF{P:Prop}(h:Ad=Aa):P:=nomatch h
structure Tc where
 sc:BX
 N:Ac Ah
 /-- a def's name,its number,how many parameters it has -/
 fns:Ac (Ah×Ae×Ae)
 /-- built-in names that the text does not hide -/
 bl:Ac Ah
 /-- exceptions' classes by their names: those that are raised,all that are asked for -/
 rzs:Ac (Ah×Ae)
 exs:Ac (Ah×Ae)
 /-- the text's constants -/
 gls:Ac (Ah×Ae)
noncomputable def Pw(T:Tc)(x:Ah):Ai:=match T.sc.names.lookup x with
  |some .local=>Aa
  |some .cell=>Aa
  |some .free=>Aa
  |_=>Ad
noncomputable def IP(T:Tc)(x:Ah):Ai:=match T.sc.names.lookup x with
  |some .local=>Aa
  |some .cell=>Aa
  |_=>Ad
noncomputable def glB(T:Tc)(x:Ah):Ai:=T.sc.names.lookup x==Ab .globalImplicit
noncomputable def G2(x:Ah):Ai:=!(x==("__debug__" : Ah)) && !(x==("__classdict__" : Ah)) && !(x==("__name__" : Ah))
noncomputable def isV(T:Tc)(x:Ah)(i:Ae):Ai:=T.N[i]? == Ab x&&Pw T x&&G2 x
noncomputable def isB(T:Tc)(x:Ah):Ai:=T.bl.contains x&&glB T x&&G2 x
theorem Cm{a b:Ai}(h:(a&&b)=Aa):a=Aa/\b=Aa:=(Al a b).mp h
theorem orT{a b:Ai}(h:(a||b)=Aa):a=Aa\/b=Aa:=(CY a b).mp h
noncomputable def FZ(e:An)(F:Ah->Ai):Ai:=if c:e.ctorIdx=23 then Wc (motive_1:=λ_=>Ai) e c λx _=>F x else Ad
theorem Go{e:An}{F:Ah->Ai}(h:FZ e F=Aa):∃ x p,e=Wb x p/\F x=Aa:=by
 by_cases c:e.ctorIdx=23
 .exact Wc (motive_1:=λe=>FZ e F=Aa->∃ x p,e=Wb x p/\F x=Aa) e c (λx p h=>⟨x,p,rfl,h⟩) h
 .exact noF ((BO c).symm.trans h)
noncomputable def HW(e:An)(F:Const->Ai):Ai:=if c:e.ctorIdx=19 then V6 (motive_1:=λ_=>Ai) e c λc _ _=>F c else Ad
theorem JG{e:An}{F:Const->Ai}(h:HW e F=Aa):∃ c u p,e=V5 c u p/\F c=Aa:=by
 by_cases c:e.ctorIdx=19
 .exact V6 (motive_1:=λe=>HW e F=Aa->∃ c u p,e=V5 c u p/\F c=Aa) e c (λc u p h=>⟨c,u,p,rfl,h⟩) h
 .exact noF ((BO c).symm.trans h)
noncomputable def M8(e:An)(F:An->Fa->An->Ai):Ai:=if c:e.ctorIdx=2 then VY (motive_1:=λ_=>Ai) e c λx o y _=>F x o y else Ad
theorem Re{e:An}{F:An->Fa->An->Ai}(h:M8 e F=Aa):∃ x o y p,e=VW x o y p/\F x o y=Aa:=by
 by_cases c:e.ctorIdx=2
 .exact VY (motive_1:=λe=>M8 e F=Aa->∃ x o y p,e=VW x o y p/\F x o y=Aa) e c (λx o y p h=>⟨x,o,y,p,rfl,h⟩) h
 .exact noF ((BO c).symm.trans h)
noncomputable def JU(e:An)(F:Js->An->Ai):Ai:=if c:e.ctorIdx=3 then Wk (motive_1:=λ_=>Ai) e c λo x _=>F o x else Ad
theorem Mw{e:An}{F:Js->An->Ai}(h:JU e F=Aa):∃ o x p,e=Wj o x p/\F o x=Aa:=by
 by_cases c:e.ctorIdx=3
 .exact Wk (motive_1:=λe=>JU e F=Aa->∃ o x p,e=Wj o x p/\F o x=Aa) e c (λo x p h=>⟨o,x,p,rfl,h⟩) h
 .exact noF ((BO c).symm.trans h)
noncomputable def Jo(e:An)(F:BoolOp->Ac An->AR->Ai):Ai:=if c:e.ctorIdx=0 then V0 (motive_1:=λ_=>Ai) e c λo xs p=>F o xs p else Ad
theorem Ll{e:An}{F:BoolOp->Ac An->AR->Ai}(h:Jo e F=Aa):∃ o xs p,e=VZ o xs p/\F o xs p=Aa:=by
 by_cases c:e.ctorIdx=0
 .exact V0 (motive_1:=λe=>Jo e F=Aa->∃ o xs p,e=VZ o xs p/\F o xs p=Aa) e c (λo xs p h=>⟨o,xs,p,rfl,h⟩) h
 .exact noF ((BO c).symm.trans h)
noncomputable def LH(e:An)(F:An->Ac Do->Ac An->Ai):Ai:=if c:e.ctorIdx=15 then V4 (motive_1:=λ_=>Ai) e c λx os ys _=>F x os ys else Ad
theorem Rb{e:An}{F:An->Ac Do->Ac An->Ai}(h:LH e F=Aa):∃ x os ys p,e=V3 x os ys p/\F x os ys=Aa:=by
 by_cases c:e.ctorIdx=15
 .exact V4 (motive_1:=λe=>LH e F=Aa->∃ x os ys p,e=V3 x os ys p/\F x os ys=Aa) e c (λx os ys p h=>⟨x,os,ys,p,rfl,h⟩) h
 .exact noF ((BO c).symm.trans h)
noncomputable def KJ(e:An)(F:An->Ac An->Ac Ee->AR->Ai):Ai:=if c:e.ctorIdx=16 then V2 (motive_1:=λ_=>Ai) e c λf as ks p=>F f as ks p else Ad
theorem N0{e:An}{F:An->Ac An->Ac Ee->AR->Ai}(h:KJ e F=Aa):∃ f as ks p,e=V1 f as ks p/\F f as ks p=Aa:=by
 by_cases c:e.ctorIdx=16
 .exact V2 (motive_1:=λe=>KJ e F=Aa->∃ f as ks p,e=V1 f as ks p/\F f as ks p=Aa) e c (λf as ks p h=>⟨f,as,ks,p,rfl,h⟩) h
 .exact noF ((BO c).symm.trans h)
noncomputable def KN(e:An)(F:An->Ah->AR->Ai):Ai:=if c:e.ctorIdx=20 then VV (motive_1:=λ_=>Ai) e c λo m p=>F o m p else Ad
theorem N1{e:An}{F:An->Ah->AR->Ai}(h:KN e F=Aa):∃ o m p,e=VU o m p/\F o m p=Aa:=by
 by_cases c:e.ctorIdx=20
 .exact VV (motive_1:=λe=>KN e F=Aa->∃ o m p,e=VU o m p/\F o m p=Aa) e c (λo m p h=>⟨o,m,p,rfl,h⟩) h
 .exact noF ((BO c).symm.trans h)
noncomputable def M1(e:An)(F:An->An->Ai):Ai:=if c:e.ctorIdx=21 then Wg (motive_1:=λ_=>Ai) e c λx y _=>F x y else Ad
theorem Q7{e:An}{F:An->An->Ai}(h:M1 e F=Aa):∃ x y p,e=Wf x y p/\F x y=Aa:=by
 by_cases c:e.ctorIdx=21
 .exact Wg (motive_1:=λe=>M1 e F=Aa->∃ x y p,e=Wf x y p/\F x y=Aa) e c (λx y p h=>⟨x,y,p,rfl,h⟩) h
 .exact noF ((BO c).symm.trans h)
noncomputable def O9(e:An)(F:Am An->Am An->Am An->Ai):Ai:=if c:e.ctorIdx=26 then We (motive_1:=λ_=>Ai) e c λl u s _=>F l u s else Ad
theorem ZL{e:An}{F:Am An->Am An->Am An->Ai}(h:O9 e F=Aa):∃ l u s p,e=Wd l u s p/\F l u s=Aa:=by
 by_cases c:e.ctorIdx=26
 .exact We (motive_1:=λe=>O9 e F=Aa->∃ l u s p,e=Wd l u s p/\F l u s=Aa) e c (λl u s p h=>⟨l,u,s,p,rfl,h⟩) h
 .exact noF ((BO c).symm.trans h)
noncomputable def KH(e:An)(F:Ac An->Ai):Ai:=if c:e.ctorIdx=25 then Wi (motive_1:=λ_=>Ai) e c λxs _ _=>F xs else Ad
theorem Mg{e:An}{F:Ac An->Ai}(h:KH e F=Aa):∃ xs c p,e=Wh xs c p/\F xs=Aa:=by
 by_cases c:e.ctorIdx=25
 .exact Wi (motive_1:=λe=>KH e F=Aa->∃ xs c p,e=Wh xs c p/\F xs=Aa) e c (λxs c p h=>⟨xs,c,p,rfl,h⟩) h
 .exact noF ((BO c).symm.trans h)
noncomputable def M3(e:An)(F:Ac An->Ai):Ai:=if c:e.ctorIdx=24 then V8 (motive_1:=λ_=>Ai) e c λxs _=>F xs else Ad
theorem Ol{e:An}{F:Ac An->Ai}(h:M3 e F=Aa):∃ xs p,e=V7 xs p/\F xs=Aa:=by
 by_cases c:e.ctorIdx=24
 .exact V8 (motive_1:=λe=>M3 e F=Aa->∃ xs p,e=V7 xs p/\F xs=Aa) e c (λxs p h=>⟨xs,p,rfl,h⟩) h
 .exact noF ((BO c).symm.trans h)
noncomputable def Pc(e:An)(F:An->Ac IT->BX->Ai):Ai:=if c:e.ctorIdx=8 then Wa (motive_1:=λ_=>Ai) e c λx gs sc _=>F x gs sc else Ad
theorem ZO{e:An}{F:An->Ac IT->BX->Ai}(h:Pc e F=Aa):∃ x gs sc p,e=V9 x gs sc p/\F x gs sc=Aa:=by
 by_cases c:e.ctorIdx=8
 .exact Wa (motive_1:=λe=>Pc e F=Aa->∃ x gs sc p,e=V9 x gs sc p/\F x gs sc=Aa) e c (λx gs sc p h=>⟨x,gs,sc,p,rfl,h⟩) h
 .exact noF ((BO c).symm.trans h)
noncomputable def O4(e:AZ)(F:Ac An->An->Ai):Ai:=if c:e.ctorIdx=5 then WK (motive_2:=λ_=>Ai) e c λts v _=>F ts v else Ad
theorem ZS{e:AZ}{F:Ac An->An->Ai}(h:O4 e F=Aa):∃ ts v p,e=WJ ts v p/\F ts v=Aa:=by
 by_cases c:e.ctorIdx=5
 .exact WK (motive_2:=λe=>O4 e F=Aa->∃ ts v p,e=WJ ts v p/\F ts v=Aa) e c (λts v p h=>⟨ts,v,p,rfl,h⟩) h
 .exact noF ((BO c).symm.trans h)
noncomputable def KI(e:AZ)(F:An->Ai):Ai:=if c:e.ctorIdx=24 then WM (motive_2:=λ_=>Ai) e c λv _=>F v else Ad
theorem Om{e:AZ}{F:An->Ai}(h:KI e F=Aa):∃ v p,e=WL v p/\F v=Aa:=by
 by_cases c:e.ctorIdx=24
 .exact WM (motive_2:=λe=>KI e F=Aa->∃ v p,e=WL v p/\F v=Aa) e c (λv p h=>⟨v,p,rfl,h⟩) h
 .exact noF ((BO c).symm.trans h)
noncomputable def Pa(e:AZ)(F:Am An->Ai):Ai:=if c:e.ctorIdx=3 then WS (motive_2:=λ_=>Ai) e c λo _=>F o else Ad
theorem ZM{e:AZ}{F:Am An->Ai}(h:Pa e F=Aa):∃ o p,e=WR o p/\F o=Aa:=by
 by_cases c:e.ctorIdx=3
 .exact WS (motive_2:=λe=>Pa e F=Aa->∃ o p,e=WR o p/\F o=Aa) e c (λo p h=>⟨o,p,rfl,h⟩) h
 .exact noF ((BO c).symm.trans h)
noncomputable def Nf(e:AZ)(F:An->Ac AZ->Ac AZ->Ai):Ai:=if c:e.ctorIdx=12 then WO (motive_2:=λ_=>Ai) e c λt xs ys _=>F t xs ys else Ad
theorem RX{e:AZ}{F:An->Ac AZ->Ac AZ->Ai}(h:Nf e F=Aa):∃ t xs ys p,e=Stmt.If t xs ys p/\F t xs ys=Aa:=by
 by_cases c:e.ctorIdx=12
 .exact WO (motive_2:=λe=>Nf e F=Aa->∃ t xs ys p,e=Stmt.If t xs ys p/\F t xs ys=Aa) e c (λt xs ys p h=>⟨t,xs,ys,p,rfl,h⟩) h
 .exact noF ((BO c).symm.trans h)
noncomputable def M4(e:AZ)(F:An->An->Ac AZ->Ac AZ->Ai):Ai:=if c:e.ctorIdx=9 then WN (motive_2:=λ_=>Ai) e c λt it xs ys _=>F t it xs ys else Ad
theorem Ra{e:AZ}{F:An->An->Ac AZ->Ac AZ->Ai}(h:M4 e F=Aa):∃ t it xs ys p,e=Stmt.For t it xs ys p/\F t it xs ys=Aa:=by
 by_cases c:e.ctorIdx=9
 .exact WN (motive_2:=λe=>M4 e F=Aa->∃ t it xs ys p,e=Stmt.For t it xs ys p/\F t it xs ys=Aa) e c (λt it xs ys p h=>⟨t,it,xs,ys,p,rfl,h⟩) h
 .exact noF ((BO c).symm.trans h)
noncomputable def M2(e:AZ)(F:Am An->Am An->Ai):Ai:=if c:e.ctorIdx=16 then WQ (motive_2:=λ_=>Ai) e c λa b _=>F a b else Ad
theorem ZN{e:AZ}{F:Am An->Am An->Ai}(h:M2 e F=Aa):∃ a b p,e=WP a b p/\F a b=Aa:=by
 by_cases c:e.ctorIdx=16
 .exact WQ (motive_2:=λe=>M2 e F=Aa->∃ a b p,e=WP a b p/\F a b=Aa) e c (λa b p h=>⟨a,b,p,rfl,h⟩) h
 .exact noF ((BO c).symm.trans h)
noncomputable def HQ{α:Type}:Ac α->(α->Ac α->Ai)->Ai
 |[],_=>Ad
 |x::xs,F=>F x xs
theorem IC{l:Ac α}{F:α->Ac α->Ai}(h:HQ l F=Aa):∃ x xs,l=x::xs/\F x xs=Aa:=by
 cases l with
 |nil=>exact noF h
 |cons x xs=>exact⟨x,xs,rfl,h⟩
theorem HR{l:Ac α}(h:l.isEmpty=Aa):l=[]:=List.isEmpty_iff.mp h
noncomputable def ES{α:Type}(l:Ac α)(F:α->Ai):Ai:=HQ l λx r=>r.isEmpty&&F x
theorem FX{l:Ac α}{F:α->Ai}(h:ES l F=Aa):∃ x,l=[x]/\F x=Aa:=by
 obtain⟨x,r,rfl,h⟩:=IC h;obtain⟨h1,h2⟩:=Cm h;exact⟨x,by rw[HR h1],h2⟩
noncomputable def HV{α:Type}(l:Ac α)(F:α->α->Ai):Ai:=HQ l λx r=>ES r λy=>F x y
theorem JF{l:Ac α}{F:α->α->Ai}(h:HV l F=Aa):∃ x y,l=[x,y]/\F x y=Aa:=by
 obtain⟨x,r,rfl,h⟩:=IC h;obtain⟨y,rfl,h⟩:=FX h;exact⟨x,y,rfl,h⟩
noncomputable def T4{α:Type}(l:Ac α)(F:α->α->α->Ai):Ai:=HQ l λx r=>HV r λy z=>F x y z
theorem ZK{l:Ac α}{F:α->α->α->Ai}(h:T4 l F=Aa):∃ x y z,l=[x,y,z]/\F x y z=Aa:=by
 obtain⟨x,r,rfl,h⟩:=IC h;obtain⟨y,z,rfl,h⟩:=JF h;exact⟨x,y,z,rfl,h⟩
noncomputable def Jn(e:An)(F:Ah->Ac An->Ai):Ai:=KJ e λf as ks _=>FZ f λg=>ks.isEmpty&&F g as
theorem JH{e:An}{F:Ah->Ac An->Ai}(h:Jn e F=Aa):∃ g p as q,e=.Call (.Name g p) as [] q/\F g as=Aa:=by
 obtain⟨f,as,ks,q,rfl,h⟩:=N0 h;obtain⟨g,p,rfl,h⟩:=Go h;obtain⟨h1,h2⟩:=Cm h;exact⟨g,p,as,q,by rw[HR h1],h2⟩
noncomputable def Lz(e:An)(F:Ah->An->Ac An->Ai):Ai:=Jn e λg l=>HQ l λx xs=>F g x xs
theorem L6{e:An}{F:Ah->An->Ac An->Ai}(h:Lz e F=Aa):∃ g p x xs q,e=.Call (.Name g p) (x::xs) [] q/\F g x xs=Aa:=by
 obtain⟨g,p,as,q,rfl,h⟩:=JH h;obtain⟨x,xs,rfl,h⟩:=IC h;exact⟨g,p,x,xs,q,rfl,h⟩
noncomputable def Pb(st:AZ)(F:Ah->Ah->Ac An->Ai):Ai:=KI st λe=>KJ e λf as ks cp=>KN f λo m ap=>FZ o λx=>ks.isEmpty&&(ap.endLine==cp.line&&F x m as)
theorem Q9{st:AZ}{F:Ah->Ah->Ac An->Ai}(h:Pb st F=Aa):∃ x p m ap as cp q,st=.Expr (.Call (.Attribute (.Name x p) m ap) as [] cp) q/\ap.endLine=cp.line/\F x m as=Aa:=by
 obtain⟨e,q,rfl,h⟩:=Om h;obtain⟨f,as,ks,cp,rfl,h⟩:=N0 h;obtain⟨o,m,ap,rfl,h⟩:=N1 h;obtain⟨x,p,rfl,h⟩:=Go h;obtain⟨h1,h⟩:=Cm h;obtain⟨h2,h3⟩:=Cm h;exact⟨x,p,m,ap,as,cp,q,by rw[HR h1],eq_of_beq h2,h3⟩
noncomputable def TR(st:AZ)(F:An->An->Ai):Ai:=O4 st λts v=>ES ts λt=>F t v
theorem ZT{st:AZ}{F:An->An->Ai}(h:TR st F=Aa):∃ t v q,st=.Assign [t] v q/\F t v=Aa:=by
 obtain⟨ts,v,q,rfl,h⟩:=ZS h;obtain⟨t,rfl,h⟩:=FX h;exact⟨t,v,q,rfl,h⟩
noncomputable def LJ(st:AZ)(F:Ah->An->Ai):Ai:=TR st λt v=>FZ t λx=>F x v
theorem N2{st:AZ}{F:Ah->An->Ai}(h:LJ st F=Aa):∃ x p v q,st=.Assign [.Name x p] v q/\F x v=Aa:=by
 obtain⟨t,v,q,rfl,h⟩:=ZT h;obtain⟨x,p,rfl,h⟩:=Go h;exact⟨x,p,v,q,rfl,h⟩
noncomputable def Ul(e:An)(F:An->An->An->Ac An->BX->Ai):Ai:=Pc e λx gs sc=>ES gs λg=>decide (g.is_async=0)&&F x g.target g.iter g.ifs sc
theorem dY{e:An}{F:An->An->An->Ac An->BX->Ai}(h:Ul e F=Aa):∃ x t it ifs sc p,e=.ListComp x [⟨t,it,ifs,0⟩] sc p/\F x t it ifs sc=Aa:=by
 obtain⟨x,gs,sc,p,rfl,h⟩:=ZO h;obtain⟨g,rfl,h⟩:=FX h;obtain⟨t,it,ifs,a⟩:=g;obtain⟨h1,h2⟩:=Cm h;have h1:a=0:=AW h1;subst h1;exact⟨x,t,it,ifs,sc,p,rfl,h2⟩
noncomputable def Nk(e:E)(F:E->Ai):Ai:=if c:e.ctorIdx=8 then E.no.elim (motive_1:=λ_=>Ai) e c F else Ad
theorem dX{e:E}{F:E->Ai}(h:Nk e F=Aa):∃ a,e=E.no a/\F a=Aa:=by
 by_cases c:e.ctorIdx=8
 .exact E.no.elim (motive_1:=λe=>Nk e F=Aa->∃ a,e=E.no a/\F a=Aa) e c (λa h=>⟨a,rfl,h⟩) h
 .exact noF ((BO c).symm.trans h)
noncomputable def M9(e:E)(F:Es->Ai):Ai:=if c:e.ctorIdx=9 then E.and.elim (motive_1:=λ_=>Ai) e c F else Ad
theorem ZU{e:E}{F:Es->Ai}(h:M9 e F=Aa):∃ es,e=E.and es/\F es=Aa:=by
 by_cases c:e.ctorIdx=9
 .exact E.and.elim (motive_1:=λe=>M9 e F=Aa->∃ es,e=E.and es/\F es=Aa) e c (λes h=>⟨es,rfl,h⟩) h
 .exact noF ((BO c).symm.trans h)
noncomputable def Nj(e:E)(F:Es->Ai):Ai:=if c:e.ctorIdx=10 then E.or.elim (motive_1:=λ_=>Ai) e c F else Ad
theorem dW{e:E}{F:Es->Ai}(h:Nj e F=Aa):∃ es,e=E.or es/\F es=Aa:=by
 by_cases c:e.ctorIdx=10
 .exact E.or.elim (motive_1:=λe=>Nj e F=Aa->∃ es,e=E.or es/\F es=Aa) e c (λes h=>⟨es,rfl,h⟩) h
 .exact noF ((BO c).symm.trans h)
noncomputable def M5(e:E)(F:Do->E->E->Ai):Ai:=if c:e.ctorIdx=11 then E.cmp.elim (motive_1:=λ_=>Ai) e c F else Ad
theorem ZP{e:E}{F:Do->E->E->Ai}(h:M5 e F=Aa):∃ o a b,e=E.cmp o a b/\F o a b=Aa:=by
 by_cases c:e.ctorIdx=11
 .exact E.cmp.elim (motive_1:=λe=>M5 e F=Aa->∃ o a b,e=E.cmp o a b/\F o a b=Aa) e c (λo a b h=>⟨o,a,b,rfl,h⟩) h
 .exact noF ((BO c).symm.trans h)
noncomputable def M6(e:E)(F:Do->Do->E->E->E->Ai):Ai:=if c:e.ctorIdx=12 then E.cmp2.elim (motive_1:=λ_=>Ai) e c F else Ad
theorem ZQ{e:E}{F:Do->Do->E->E->E->Ai}(h:M6 e F=Aa):∃ o q a b c,e=E.cmp2 o q a b c/\F o q a b c=Aa:=by
 by_cases c:e.ctorIdx=12
 .exact E.cmp2.elim (motive_1:=λe=>M6 e F=Aa->∃ o q a b c,e=E.cmp2 o q a b c/\F o q a b c=Aa) e c (λo q a b c h=>⟨o,q,a,b,c,rfl,h⟩) h
 .exact noF ((BO c).symm.trans h)
noncomputable def M7(e:E)(F:BI->Es->Ai):Ai:=if c:e.ctorIdx=15 then E.bi.elim (motive_1:=λ_=>Ai) e c F else Ad
theorem ZR{e:E}{F:BI->Es->Ai}(h:M7 e F=Aa):∃ b as,e=E.bi b as/\F b as=Aa:=by
 by_cases c:e.ctorIdx=15
 .exact E.bi.elim (motive_1:=λe=>M7 e F=Aa->∃ b as,e=E.bi b as/\F b as=Aa) e c (λb as h=>⟨b,as,rfl,h⟩) h
 .exact noF ((BO c).symm.trans h)
noncomputable def PJ(e:E)(F:Ai->Ai):Ai:=if c:e.ctorIdx=1 then E.bl.elim (motive_1:=λ_=>Ai) e c F else Ad
theorem cK{e:E}{F:Ai->Ai}(h:PJ e F=Aa):∃ b,e=E.bl b/\F b=Aa:=by
 by_cases c:e.ctorIdx=1
 .exact E.bl.elim (motive_1:=λe=>PJ e F=Aa->∃ b,e=E.bl b/\F b=Aa) e c (λb h=>⟨b,rfl,h⟩) h
 .exact noF ((BO c).symm.trans h)
noncomputable def LG(e:E)(F:Ae->Ai):Ai:=if c:e.ctorIdx=4 then E.var.elim (motive_1:=λ_=>Ai) e c F else Ad
theorem Oj{e:E}{F:Ae->Ai}(h:LG e F=Aa):∃ i,e=E.var i/\F i=Aa:=by
 by_cases c:e.ctorIdx=4
 .exact E.var.elim (motive_1:=λe=>LG e F=Aa->∃ i,e=E.var i/\F i=Aa) e c (λi h=>⟨i,rfl,h⟩) h
 .exact noF ((BO c).symm.trans h)
noncomputable def KM(e:E)(F:Ae->Es->Ai):Ai:=if c:e.ctorIdx=14 then E.call.elim (motive_1:=λ_=>Ai) e c F else Ad
theorem Rc{e:E}{F:Ae->Es->Ai}(h:KM e F=Aa):∃ f as,e=E.call f as/\F f as=Aa:=by
 by_cases c:e.ctorIdx=14
 .exact E.call.elim (motive_1:=λe=>KM e F=Aa->∃ f as,e=E.call f as/\F f as=Aa) e c (λf as h=>⟨f,as,rfl,h⟩) h
 .exact noF ((BO c).symm.trans h)
noncomputable def MW(e:E):Ai:=decide (e.ctorIdx=0)
theorem Zv{e:E}(h:MW e=Aa):e=.non:=E.non.elim (motive_1:=λe=>e=.non) e (AW h) rfl
noncomputable def Dz:An->Ai
 |.Starred _ _=>Ad
 |_=>Aa
noncomputable def RY:An->Ai
 |.Slice _ _ _ _=>Ad
 |_=>Aa
noncomputable def MU:An->Ai
 |.Set _ _ _=>Ad
 |_=>Aa
noncomputable def JP:An->Ai
 |.ListComp _ _ _ _=>Ad
 |.SetComp _ _ _ _=>Ad
 |.DictComp _ _ _ _ _=>Ad
 |_=>Aa
noncomputable def Ug(tu:Ai):An->Ai
 |.Tuple ..=>tu
 |.Name ..=>!tu
 |_=>Ad
noncomputable def nX:An->Ai
 |.Tuple _ _ _=>Aa
 |_=>Ad
noncomputable def Mc:An->Ai
 |.UnaryOp _ _ _=>Ad
 |.BoolOp _ _ _=>Ad
 |.IfExp _ _ _ _=>Ad
 |.Compare _ _ _ _=>Ad
 |_=>Aa
noncomputable def O5:Ki->Am Ah
 |.int=>Ab "int"
 |.bool=>Ab "bool"
 |.str=>Ab "str"
 |.list=>Ab "list"
 |.tuple=>Ab "tuple"
 |_=>Af
noncomputable def O6:BI->Am Ah
 |.len=>Ab "len"
 |.abs=>Af
 |.max=>Af
 |.min=>Af
 |.int=>Ab "int"
 |.list=>Ab "list"
 |.tuple=>Ab "tuple"
 |.all=>Ab "all"
 |.any=>Af
 |.sum=>Af
 |.sorted=>Ab "sorted"
 |.tmin=>Af
 |.tmax=>Af
 |_=>Af
noncomputable def O1(o scope:BX):BX:={scope with names:=scope.names.map λ(n,k)=>if (k==.free&&o.kind==.function&&o.names.lookup n==Ab .cell) then (n,.cell) else (n,k)}
noncomputable def LN:Ac Ae->Ac Ah->Ac Ah->Ac Ah
 |t::ts,x::xs,N=>LN ts xs ((N.map λy=>if y==x then N.getD t x else y).set t x)
 |_,_,N=>N
noncomputable def LA:Ac Ah->Ai
 |[]=>Aa
 |x::xs=>!xs.contains x&&LA xs
noncomputable def Nn(T:Tc)(scope:BX)(ts:Ac Ae)(N':Ac Ah):Ai:=
  scope.kind==.function&&scope.names.all (λy=>scope.names.lookup y.1==Ab y.2) &&
  scope.names.all (λy=>y.2 != .free||T.sc.names.lookup y.1==Ab .cell||T.sc.names.lookup y.1==Ab .free) &&
  N'.length==T.N.length&&LA N' &&
  (A8 N'.length).all λi=>ts.contains i||(match N'[i]? with
    |some x=>(scope.names.lookup x != Ab .local&&scope.names.lookup x != Ab .cell)&&(scope.names.lookup x != Ab .free||T.N[i]? == Ab x)
    | none=>Aa)
noncomputable def Hu:Ac An->Am (Ac Ah)
 |[]=>Ab []
 |.Name x _::r=>(Hu r).map (x :: ·)
 |_=>Af
noncomputable def tgN(ys:Ac An):Ac Ah:=(Hu ys).getD []
noncomputable def tgO(T:Tc)(scope:BX)(t:Ae)(x:Ah):Ai:=T.N[t]? == Ab x&&(T.sc.names.lookup x==Ab .local||(T.sc.names.lookup x==Ab .cell&&scope.names.lookup x==Ab .cell))
noncomputable def tgC(T:Tc):Ac Ae->Ac Ah->Ai
 |[],[]=>Aa
 |t::ts,x::xs=>T.N[t]? == Ab x&&IP T x&&tgC T ts xs
 |_,_=>Ad
noncomputable def Tc.blk(T:Tc)(scope:BX)(ts:Ac Ae)(xs:Ac Ah):Tc:={T with sc:=O1 T.sc scope,N:=LN ts xs T.N}
noncomputable def pZ:E->Ai
 |.lst _=>Aa
 |.comp _ _ _ _=>Aa
 |.compT _ _ _ _=>Aa
 |.bin .Add _ _=>Aa
 |.bi .list _=>Aa
 |.sl _ _ _=>Aa
 |_=>Ad
noncomputable def nY:E->Ai
 |.call _ _=>Aa
 |_=>Ad
noncomputable def Nb:E->Am E
  | .bi b as=>(match b with
    | .list=>(match as with
      | .cons x r=>(match r with
        | .nil=>(match x with
          | .bin op a c=>(match op with
            | .Add=>(match c with
              | .tup es=>(match es with
                |.nil=>Ab a
                | _=>Af)
              | _=>Af)
            | _=>Af)
          | _=>Af)
        | _=>Af)
      | .nil=>Af)
    | _=>Af)
  |_=>Af
theorem ZX{e a:E}(q:Nb e=Ab a):e=.bi .list (.cons (.bin .Add a (.tup .nil)) .nil):=by
 unfold Nb at q
 repeat' split at q
 all_goals first|cases q;done|skip
 cases q;rfl
noncomputable def inX(l:Ac (Ah×Ae))(g:Ah)(c:Ae):Ai:=l.any λp=>p.1==g&&p.2==c
noncomputable def UK:An->Am (An×An×AR)
  | .Compare x ops ys p=>(match ops with
    | [.Lt]=>(match ys with
      |[y]=>Ab (x,y,p)
      | _=>Af)
    | _=>Af)
  |_=>Af
noncomputable def Pe(_:Es):Am (E×E):=Af
noncomputable def Pq(_:Tc)(_:Tc->An->E->Ai)(_:An)(_:Ac Do)(_:Ac An)(_:BI)(_:Es):Ai:=Ad
noncomputable def Uk(T:Tc)(e:An)(b:BI)(as:Es):Ai:=Ad
noncomputable def Td:An->Am (Ah×AR)
 |.Name x p=>Ab (x,p)
 |_=>Af
noncomputable def Su:An->Am (An×Ac An×Ac Ee×AR)
 |.Call f as ks p=>Ab (f,as,ks,p)
 |_=>Af
noncomputable def pH:An->Am (Ac An×Ae×AR)
 |.Tuple es k p=>Ab (es,k,p)
 |_=>Af
noncomputable def one{α:Type}:Ac α->Am α
 |[a]=>Ab a
 |_=>Af
noncomputable def UI(e:An):Am (Ah×Ah×Ac An):=(Su e).bind λc=>(Td c.1).bind λg=>(one c.2.1).bind λa=>(Su a).bind λd=>(Td d.1).bind λh=>if (c.2.2.1.isEmpty&&d.2.2.1.isEmpty)=Aa then Ab (g.1,h.1,d.2.1) else Af
noncomputable def Uq(e:An):Am (Ah×Ah×An×An):=match UI e with
  | some (g,h,bs)=>(match bs with
    |[x,y]=>Ab (g,h,x,y)
    | _=>Af)
  |none=>Af
noncomputable def Pi(_:Es):Am (E×E):=Af
noncomputable def Up(e:An):Am (Ah×Ah×An):=match UI e with
  | some (g,h,bs)=>(match bs with
    |[x]=>Ab (g,h,x)
    | _=>Af)
  |none=>Af
noncomputable def No:Es->Am (Ah×E)
  | .cons a r=>(match a with
    | .str s=>(match r with
      | .cons b r'=>(match r' with
        | .nil=>(match b with
          |.var _=>Af
          | b=>Ab (s,b))
        | _=>Af)
      | _=>Af)
    | _=>Af)
  |.nil=>Af
theorem eH{s:Ah}{a:E}(q:No as=Ab (s,a)):as=.cons (.str s) (.cons a .nil)/\∀ U r,top U a r=r:=by
 cases as with
 |nil=>cases q
 |cons a r=>
  cases a with
  |str s=>
   cases r with
   |nil=>cases q
   |cons b r'=>
    cases r' with
    |nil=>cases b<;>first|(cases q;exact⟨rfl,λ_ _=>rfl⟩)|cases q
    |cons=>cases q
  |_=>cases q
noncomputable def Ph(_:Es):Am E:=Af
noncomputable def two(e:An):Am (An×An):=(pH e).bind λt=>match t.1 with
  |[a,b]=>Ab (a,b)
  |_=>Af
noncomputable def PN(_:Es):Am E:=Af
noncomputable def Uy(_:An):Am An:=Af
noncomputable def Uu:An->Am (An×Ag)
  | .Subscript v s _=>(match s with
    | .Slice lo hi st _=>(match lo with
      | some (.Constant (.int k) _ _)=>(match hi with
        | none=>(match st with
          |some (.Constant (.int j) _ _)=>if j=2 then Ab (v,k) else Af
          | _=>Af)
        | some _=>Af)
      | _=>Af)
    | _=>Af)
  |_=>Af
noncomputable def Pf(_:Es):Am (E×Ag):=Af
mutual
noncomputable def Bm:Ae->Tc->An->E->Ai
  |0,_,_,_=>Ad
  |n+1,T,e,c=>match c with
    |.non=>HW e λc=>decide (c=.none)
    |.bl b=>HW e λc=>decide (c=.bool b)
    |.int i=>HW e λc=>decide (c=.int i)
    |.str x=>HW e λc=>decide (c=.str x)
    |.var i=>FZ e λx=>isV T x i
    |.glob g=>Ad
    |.bin op a b=>M8 e λx op' y=>decide (op'=op)&&Bm n T x a&&Bm n T y b
    |.un op a=>JU e λo x=>decide (o=.USub)&&(decide (op=.USub)&&Bm n T x a)
    |.no a=>JU e λo x=>decide (o=.Not)&&Bm n T x a
    |.and es=>Jo e λo xs _=>decide (o=.And)&&(chkEs n T xs es && !xs.isEmpty)
    |.or es=>Jo e λo xs _=>decide (o=.Or)&&(chkEs n T xs es && !xs.isEmpty)
    |.cmp op a b=>LH e λx os ys=>ES os λop'=>ES ys λy=>decide (op'=op) && !behindInMarks op y&&Bm n T x a&&Bm n T y b
    |.cmp2 op1 op2 a b c=>Ad
    |.ite c a b=>Ad
    |.call f as=>Lz e λg x xs=>(T.fns.any λp=>p.1==g&&p.2.1==f&&p.2.2==xs.length+1)&&decide (xs.length<900)&&glB T g&&G2 g&&chkEs n T (x::xs) as
    |.bi b as=>(Lz e λg x xs=>O6 b==Ab g&&isB T g&&chkEs n T (x::xs) as)||Uk T e b as||(match Pi as with|some (a,c)=>(match Uq e with|some (g,h,x,y)=>decide (b=.list)&&g==("list" : Ah)&&h==("range" : Ah)&&isB T g&&isB T h&&Dz x&&Dz y&&Bm n T x a&&Bm n T y c|none=>Ad)|none=>Ad)||(match Pf as with|some (a,k)=>(match Uu e with|some (x,j)=>decide (b=.stp)&&decide (j=k)&&decide (0<=k)&&Bm n T x a|none=>Ad)|none=>Ad)||(match Ph as with|some a=>(match Up e with|some (g,h,x)=>decide (b=.lset)&&g==("len" : Ah)&&h==("set" : Ah)&&isB T g&&isB T h&&Dz x&&Bm n T x a|none=>Ad)|none=>Ad)||(match Pe as with|some (a,c)=>(match UK e with|some (x,y,_)=>decide (b=.tlt) && !behindInMarks .Lt y&&Bm n T x a&&Bm n T y c|none=>Ad)|none=>Ad)||(match No as with|some (s,a)=>KJ e λf l ks cp=>ks.isEmpty&&(KN f λo m ap=>m==("join" : Ah)&&ap.endLine==cp.line&&(HW o λc=>decide (c=.str s)&&decide (b=.sjoin)&&(ES l λy=>Dz y&&Bm n T y a)))|none=>Ad)||(match PN as with|some a=>(match Uy e with|some x=>decide (b=.rvs)&&Bm n T x a|none=>Ad)|none=>Ad)
    |.isi a ks=>ES ks λk=>Jn e λg l=>HV l λx t=>FZ t λt=>g==("isinstance" : Ah)&&isB T g&&O5 k==Ab t&&isB T t&&Dz x&&Bm n T x a
    |.idx a i=>M1 e λx y=>RY y&&Bm n T x a&&Bm n T y i
    |.sl a lo hi=>M1 e λx s=>O9 s λl h st=>st.isNone&&(Bm n T x a&&chkO n T l lo&&chkO n T h hi)
    |.tup es=>KH e λxs=>chkEs n T xs es&&decide (xs.length<=1000)
    |.lst es=>M3 e λxs=>chkEs n T xs es&&decide (xs.length<=1000)
    |.comp elt t it c=>Ul e λx tg iter ifs scope=>FZ tg λy=>chkI n T Ad iter it&&MU iter&&Nn T scope [t] (LN [t] [y] T.N)&&tgO (T.blk scope [t] [y]) scope t y&&chkT n (T.blk scope [t] [y]) ifs c&&Bm n (T.blk scope [t] [y]) x elt
    |.compT elt ts it c=>Ad
    |.tupI _=>Ad
    |.dnew=>Ad
    |.fld _ _=>Ad
noncomputable def H9:Ae->Tc->An->E->Ai
 |0,_,_,_=>Ad
 |n+1,T,e,c=>(JU e λo x=>decide (o=.Not)&&(Nk c λa=>H9 n T x a)) ||
  (Jo e λo xs _=>(decide (o=.And)&&(M9 c λes=>chkBs n T xs es && !xs.isEmpty))||(decide (o=.Or)&&(Nj c λes=>chkBs n T xs es && !xs.isEmpty))) ||
  (LH e λx os ys=>(M5 c λop a b=>ES os λop'=>ES ys λy=>decide (op'=op) && !behindInMarks op y&&Bm n T x a&&Bm n T y b) ||
   (M6 c λop1 op2 a b c=>HV os λo1 o2=>HV ys λy z=>decide (o1=op1)&&decide (o2=op2) && !lastMarks [op1,op2] [y,z]&&Bm n T x a&&Bm n T y b&&Bm n T z c) ||
   (M7 c λb as=>Pq T (Bm n) x os ys b as)) ||
  Mc e&&Bm n T e c
noncomputable def chkBs:Ae->Tc->Ac An->Es->Ai
  |0,_,_,_=>Ad
  |n+1,T,xs,es=>match xs,es with
    |[],.nil=>Aa
    |x::xs,.cons e es=>H9 n T x e&&chkBs n T xs es
    |_,_=>Ad
noncomputable def chkEs:Ae->Tc->Ac An->Es->Ai
  |0,_,_,_=>Ad
  |n+1,T,xs,es=>match xs,es with
    |[],.nil=>Aa
    |x::xs,.cons e es=>Dz x&&Bm n T x e&&chkEs n T xs es
    |_,_=>Ad
noncomputable def chkO:Ae->Tc->Am An->E->Ai
  |0,_,_,_=>Ad
  |n+1,T,x,e=>match x with
    |none=>MW e
    |some x=>!(MW e)&&Bm n T x e
noncomputable def chkT:Ae->Tc->Ac An->E->Ai
  |0,_,_,_=>Ad
  |n+1,T,xs,e=>match xs with
    |[]=>PJ e λb=>b
    |x::r=>r.isEmpty&&H9 n T x e
noncomputable def chkI:Ae->Tc->Ai->An->I->Ai
  |0,_,_,_,_=>Ad
  |n+1,T,tu,e,i=>match i with
    |.e a=>Bm n T e a
    |.rng a=>Jn e λg l=>ES l λx=>g==("range" : Ah)&&isB T g&&Dz x&&Bm n T x a
    |.enm a=>Ad
    |.zip a b=>Jn e λg l=>HV l λx y=>tu&&g==("zip" : Ah)&&isB T g&&Dz x&&Dz y&&Bm n T x a&&Bm n T y b
    |.rng2 a b=>Jn e λg l=>HV l λx y=>g==("range" : Ah)&&isB T g&&Dz x&&Dz y&&Bm n T x a&&Bm n T y b
    |.rng3 a b c=>Jn e λg l=>T4 l λx y z=>g==("range" : Ah)&&isB T g&&Dz x&&Dz y&&Dz z&&Bm n T x a&&Bm n T y b&&Bm n T z c
    |.zip3 a b c=>Ad
end
noncomputable def PC:E->E->Ai
 |.var _,.int _=>Aa
 |_,_=>Ad
noncomputable def Uw:Fa->Ai
 |.Sub=>Aa
 |_=>Ad
noncomputable def Nh:E->Ai
 |.idx a b=>PC a b
 |.bin op a b=>Uw op&&PC a b
 |.var _=>Aa
 |.int _=>Aa
 |.bl _=>Aa
 |.str _=>Aa
 |.non=>Aa
 |_=>Ad
noncomputable def Jh:Es->Ai
 |.nil=>Aa
 |.cons e es=>Nh e&&Jh es
noncomputable def Pu:An->Am (Ah×AR)
 |.Name x p=>Ab (x,p)
 |_=>Af
theorem bB{e:An}{t:Ah×AR}(h:Pu e=Ab t):e=.Name t.1 t.2:=by
 cases e with
 |Name x p=>cases h;rfl
 |_=>exact nomatch (show Af=Ab t from h)
noncomputable def xHd:EX->Am (Ah×Ah×AZ×Ac AZ)
  | .ExceptHandler ty nm b _=>(match nm,b,ty with
    |some m,h0::hs,Ab e=>(Pu e).bind λg=>Ab (g.1,m,h0,hs)
    | _,_,_=>Af)
theorem eB{h:EX}{m:Ah}(q:xHd h=Ab (g,m,h0,hs)):∃ p r,h=.ExceptHandler (Ab (.Name g p)) (Ab m) (h0::hs) r:=by
 obtain⟨ty,nm,b,r⟩:=h;cases nm with
 |none=>cases ty<;>cases b<;>exact nomatch (show Af=Ab (g,m,h0,hs) from q)
 |some m'=>
  cases b with
  |nil=>cases ty<;>exact nomatch (show Af=Ab (g,m,h0,hs) from q)
  |cons h0' hs'=>
   cases ty with
   |none=>exact nomatch (show Af=Ab (g,m,h0,hs) from q)
   |some e=>
    obtain⟨g',e1,q⟩:=Option.bind_eq_some_iff.mp (show ((Pu e).bind λg=>Ab (g.1,m',h0',hs'))=Ab (g,m,h0,hs) from q)
    cases q;rw[bB e1];exact⟨_,_,rfl⟩
noncomputable def Pt:AZ->Am (AZ×Ac EX×Ac AZ)
  | .Try b hs es fs _=>(match b,fs with
    |[bt],[]=>Ab (bt,hs,es)
    | _,_=>Af)
  |_=>Af
theorem bA{st bt:AZ}{hs:Ac EX}{es:Ac AZ}(q:Pt st=Ab (bt,hs,es)):∃ p,st=.Try [bt] hs es [] p:=by
 cases st with
 |Try b h e f p=>
  cases b with
  |nil=>cases f<;>exact nomatch (show Af=Ab (bt,hs,es) from q)
  |cons x b=>
   cases b with
   |cons=>cases f<;>exact nomatch (show Af=Ab (bt,hs,es) from q)
   |nil=>
    cases f with
    |nil=>cases q;exact⟨_,rfl⟩
    |cons=>exact nomatch (show Af=Ab (bt,hs,es) from q)
 |_=>exact nomatch (show Af=Ab (bt,hs,es) from q)
noncomputable def Um(e:An)(F:Ah->Ah->An->Ai):Ai:=Jn e λg l=>HV l λa t=>FZ a λv=>F g v t
theorem dZ{e:An}{F:Ah->Ah->An->Ai}(h:Um e F=Aa):∃ g p v q t r,e=.Call (.Name g p) [.Name v q,t] [] r/\F g v t=Aa:=by
 obtain⟨g,p,l,r,rfl,h⟩:=JH h;obtain⟨a,t,rfl,h⟩:=JF h;obtain⟨v,q,rfl,h⟩:=Go h;exact⟨g,p,v,q,t,r,rfl,h⟩
noncomputable def Pl(T:Tc):Ac An->Ac Ki->Ai
  |[],ks=>ks.isEmpty
  | e::r,ks=>HQ ks λk ks=>FZ e λt=>(match k with
    |.cls c=>inX T.exs t c&&glB T t&&G2 t
    | _=>Ad)&&Pl T r ks
noncomputable def LL(f:An->E->Ai):Ac An->Es->Ai
 |[],.nil=>Aa
 |x::xs,.cons e es=>Dz x&&f x e&&LL f xs es
 |_,_=>Ad
noncomputable def pE(T:Tc)(t:An)(ks:Ac Ki):Ai:=HQ ks λk r=>match k with
  |.verr=>r.isEmpty&&(FZ t λt=>t==("ValueError" : Ah)&&isB T t)
  | .cls c=>(match r with
    |[]=>FZ t λt=>inX T.exs t c&&glB T t&&G2 t
    | k2::r=>KH t λts=>Pl T ts (.cls c::k2::r)&&decide (ts.length<=1000))
  |_=>Ad
noncomputable def HU:Ae->Tc->Ae->An->E->Ai
  |0,_,_,_,_=>Ad
  |n+1,T,x,e,c=>match c with
    |.bl b=>HW e λk=>decide (k=.bool b)
    |.no a=>JU e λo y=>decide (o=.Not)&&HU n T x y a
    | .and es=>(match es with
      |.nil=>Ad
      | .cons a r=>(match r with
        |.nil=>Jo e λo l _=>decide (o=.And)&&(ES l λy=>HU n T x y a)
        | .cons a' as=>Jo e λo l p=>decide (o=.And)&&(HQ l λy l=>HQ l λz zs=>HU n T x y a&&HU n T x (.BoolOp .And (z::zs) p) (.and (.cons a' as)))))
    |.isi a ks=>LG a λi=>Um e λg v t=>i==x&&g==("isinstance" : Ah)&&isB T g&&isV T v x&&pE T t ks
    |.call _ _=>Ad
    |.str s=>HW e λk=>decide (k=.str s)
    |.lst es=>M3 e λxs=>LL (HU n T x) xs es&&decide (xs.length<=1000)
    |.tup es=>KH e λxs=>LL (HU n T x) xs es&&decide (xs.length<=1000)
    |.bin op a b=>decide (op=.Add)&&(LG a λi=>M8 e λl o y=>decide (o=.Add)&&(FZ l λv=>isV T v i&&HU n T x y b))
    |.fld o f=>LG o λi=>KN e λw g _=>FZ w λv=>i==x&&g==f&&(f==("triple" : Ah)||f==("points" : Ah))&&isV T v x
    |_=>Ad
noncomputable def qB:E->Ai
 |.lst _=>Aa
 |_=>Ad
noncomputable def Po:Ae->Tc->Ae->Ac AZ->Ss->Ai
  |0,_,_,_,_=>Ad
  |n+1,T,x,sts,ss=>match ss with
    |.nil=>sts.isEmpty
    | .cons s ss=>HQ sts λst r=>(match s with
      |.asg i b e=>LJ st λy v=>T.N[i]? == Ab y&&IP T y&&JP v&&HU n T x v e&&(!b||qB e)
      |.ife _ _ _=>Ad
      |.ret _=>Ad
      |.app _ _=>Ad
      | _=>Ad)&&Po n T x r ss
noncomputable def PB:E->Ai
 |.var _=>Aa
 |.cmp _ a b=>Nh a&&Nh b
 |_=>Ad
noncomputable def Mz(n:Ae)(T:Tc)(st:AZ)(s:S):Ai:=match s with
  |.expr e=>KM e λf as=>KI st λv=>Bm n T v (.call f as)&&Jh as
  |.asg i b e=>!b&&(KM e λf as=>LJ st λy v=>T.N[i]? == Ab y&&IP T y&&Bm n T v (.call f as)&&Jh as)
  |_=>Ad
noncomputable def O8:Ss->(S->Ai)->Ai
  |.nil,_=>Ad
  | .cons a r,F=>(match r with
    |.nil=>F a
    | .cons _ _=>Ad)
theorem Q8{l:Ss}{F:S->Ai}(h:O8 l F=Aa):∃ a,l=.cons a .nil/\F a=Aa:=by
 cases l with
 |nil=>exact noF h
 |cons a r=>
  cases r with
  |nil=>exact⟨a,rfl,h⟩
  |cons=>exact noF h
noncomputable def S8(f:AZ->S->Ai)(n:Ae)(T:Tc)(st:AZ):S->Ai
 |.ife c a b=>O8 a λa=>O8 b λb=>Nf st λt xs ys=>ES xs λx=>ES ys λy=>H9 n T t c&&PB c&&f x a&&f y b
 |_=>Ad
noncomputable def MR:Ae->Ae->Tc->AZ->S->Ai
 |0,n,T,st,s=>Mz n T st s
 |m+1,n,T,st,s=>Mz n T st s||S8 (MR m n T) n T st s
noncomputable def qH:E->Ai
  | .bi b as=>(match b,as with
    |.len,.nil=>Aa
    | _,_=>Ad)
  |_=>Ad
noncomputable def qG:S->Ai
 |.expr e=>qH e
 |_=>Ad
noncomputable def Nm:Ss->Ai
 |.cons s _=>qG s
 |.nil=>Ad
noncomputable def hdB(T:Tc)(g:Ah)(c:Ae):Ai:=inX T.exs g c&&inX T.rzs g c&&glB T g&&G2 g
mutual
noncomputable def LR:Ae->Tc->AZ->S->Ai
  |0,_,_,_=>Ad
  |n+1,T,st,s=>match s with
    |.pass=>Ad
    |.brk=>Ad
    |.cont=>Ad
    |.asg i _ e=>LJ st λx v=>T.N[i]? == Ab x&&IP T x&&Bm n T v e
    |.asgT ts e=>Ad
    |.expr e=>KI st λv=>JP v&&Bm n T v e
    |.ret e=>Pa st λo=>match o with|some v=>Bm n T v e|none=>Ad
    |.retN=>Ad
    |.ife c a b=>Nf st λt xs ys=>H9 n T t c&&chkSs n T xs a&&chkSs n T ys b
    |.fors t it body=>M4 st λtg iter xs ys=>ys.isEmpty&&(FZ tg λx=>tgC T [t] [x]&&MU iter&&chkI n T Ad iter it&&chkSs n T xs body)
    |.forT ts it body=>M4 st λtg iter xs zs=>zs.isEmpty&&(KH tg λys=>(Hu ys).isSome&&tgC T ts (tgN ys)&&MU iter&&chkI n T Aa iter it&&chkSs n T xs body)
    |.whl c body=>Ad
    |.rais c as=>!(T.rzs.any λp=>p.2==c)||(M2 st λa b=>b.isNone&&(match a with|some e=>Lz e λg x xs=>inX T.rzs g c&&glB T g&&G2 g&&decide (xs.length<=1000)&&chkEs n T (x::xs) as|none=>Ad))
    |.tryx bs c x h=>(match bs with | .cons b .nil=>(match Pt st with|some (bt,[h1],[])=>(match xHd h1 with|some (g,m,h0,hs)=>hdB T g c&&T.N[x]? == Ab m&&T.sc.names.lookup m==Ab .local&&MR 6 n T bt b&&Po n T x (h0::hs) h|none=>Ad)|_=>Ad)|_=>Ad)
    |.try2 _ _ _ _ _ _ _=>Ad
    |.app i e=>Pb st λx m l=>ES l λv=>m==("append" : Ah)&&isV T x i&&Dz v&&Bm n T v e
    |.ext i e=>Pb st λx m l=>ES l λv=>m==("extend" : Ah)&&isV T x i&&Dz v&&((pZ e||nY e)&&Bm n T v e||(match Nb e with|some a=>Bm n T v a|none=>Ad))
    |.rev i=>Ad
    |.clr i=>Ad
    |.put i k e=>Ad
    |.swp _ _ _=>Ad
    |.apop _ _ _=>Ad
    |.ins i k e=>Ad
    |.dput _ _ _=>Ad
    |.dsd _ _ _=>Ad
    |.rel _=>Ad
noncomputable def chkSs:Ae->Tc->Ac AZ->Ss->Ai
  |0,_,_,_=>Ad
  | n+1,T,sts,ss=>(match ss with
    |.nil=>sts.isEmpty
    |.cons (.rel i) ss=>chkSs n T sts ss
    | .cons s ss=>(match sts with
      |st::r=>LR n T st s&&chkSs n T r ss
      | []=>Ad))||Nm ss
end
noncomputable def IM(fuel:Ae)(hot:Ai)(fns:Ac (Ah×Ae×Ae))(bl:Ac Ah)(rzs exs gls:Ac (Ah×Ae))(ps N:Ac Ah)(st:AZ)(df:Df):Ai:=
  let sc:=Gk st
  sc.kind==.function && !sc.isCoroutine && !sc.isGenerator&&LA N&&N.take ps.length==ps&&ps.all (λx=>sc.names.lookup x==Ab .local||sc.names.lookup x==Ab .cell)&&sc.names.all (λy=>y.2 != .free)&&N.length==df.n &&
  (match hot with
  |true=>Ad
  | false=>chkSs fuel ⟨sc,N,fns,bl,rzs,exs,gls⟩ (HP st) df.body)
structure XT (up:Ae->Ac Ae) (xn:Ae->Ac D->R Ex) (CL:ClA) (rzs exs:Ac (Ah×Ae)) (K:Fg) (mg:Ah->Am Aj):Prop where
 xc:∀ c C,CL c=Ab C->XcOk K C
 rz:∀ p∈rzs,∃ C,CL p.2=Ab C/\mg p.1=Ab (.ref C)
 ex:∀ p∈exs,∃ C,mg p.1=Ab (.ref C)/\Ly K CL up p.2 C/\∀ c D,CL c=Ab D->BB K (.ref D) (.ref C)=Ab ((up c).contains p.2)
 made:∀ c C ds,CL c=Ab C->xn c ds=.bad\/(xn c ds=.ok ⟨c,[]⟩/\Ea K C Af=Aa)\/A5
 nf:∀ c C,CL c=Ab C->∀ f:Ah,(f==("triple" : Ah)||f==("points" : Ah))=Aa->Hv K C=Aa/\Bf K (.ref C) f=Ab Af
 xb:∀ c,(∀ p∈rzs,p.2≠c)->∀ ds,xn c ds=.bad
def PQ(K:Fg)(mg:Ah->Am Aj)(CL:ClA)(x:Ah)(d:D):Prop:=∃ u v,mg x=Ab u/\Bx v u/\∀ H A,Rep K CL H A v d
structure VX (Z:Gam) (CL:ClA) (k:Ae) (W:XW) (T:Tc) (X:Cx):Prop where
 sc:X.env.scope=T.sc
 kd:T.sc.kind=.function
 N:X.N=T.N
 nd:T.N.Nodup
 calm:X.calm=Aa
 room:Room k X.A
 bl:∀ x,x∈T.bl->X.mg x=Af
 fn:∀ p∈T.fns,∃ f fd ps,X.mg p.1=Ab (.ref f)/\Co X.K (.ref f)=Aa/\G1 X.K fd ps []/\ps.length=p.2.2%1000/\(p.2.2<1000->FnOk X.prog X.w X.K X.mg X.base (CXR X.prog X.w) k f fd ps (spD X.K CL (p.2.2%1000) (Z.fr p.2.1) (Z.F p.2.1)))/\(1000<=p.2.2->HotOk X.prog X.w X.K X.mg X.base k f fd ps (spH X.K CL (p.2.2%1000) (Z.fr p.2.1) (Z.F p.2.1)))
 own:Fb (model X.prog X.w) X.A X.env X.xe
 px:∀ A,KA (CXR X.prog X.w) X (EKW X.K CL A W)
 rz:LP X CL W
 xt:XT Z.up Z.xn CL T.rzs T.exs X.K X.mg
 gl:∀ p∈T.gls,PQ X.K X.mg CL p.1 (Z.G p.2)
theorem Tu:∀ A,KA (CXR X.prog X.w) X (EKW X.K CL A W0):=λA pI Y H s ev s' I h=>by
 obtain⟨e,T,cls,dx,H',_,_,_,_,_,_,_,_,_,_,x,_,w⟩:=h;exact w.elim
theorem Ux:LP X CL W0:=λ_ _ _ _ _ _ _ _ _ _ _ _ _ _ z=>z.elim
def Rf{α:Type}(g f:Rho->R α):Prop:=∀ U,g U=.bad\/g U=f U
section
variable{X:Cx}{CL:ClA}{W:XW}{a:An}{f g:Rho->R D}
theorem SE.ref(h:SE X CL W a f)(r:Rf g f):SE X CL W a g:=λA=>PE.weak (h A) λY H Q ⟨hA,U,q,p⟩=>⟨hA,U,q,by
 rcases r U with e|e
 .rw[e]at p;exact p.elim
 .rw[e]at p;exact p⟩
theorem SB.ref{f g:Rho->R Ai}(h:SB X CL W a f)(r:Rf g f):SB X CL W a g:=λA=>PT.weak (h A) λY H Q ⟨hA,U,q,p⟩=>⟨hA,U,q,by
 rcases r U with e|e
 .rw[e]at p;exact p.elim
 .rw[e]at p;exact p⟩
theorem SW.ref{f g:Rho->R Ai}(h:SW X CL W a f)(r:Rf g f):SW X CL W a g:=λA=>PW.weak (h A) λY H Q ⟨hA,U,q,p⟩=>⟨hA,U,q,by
 rcases r U with e|e
 .rw[e]at p;exact p.elim
 .rw[e]at p;exact p⟩
theorem SC.ref(h:SC X CL W fr a f)(r:Rf g f):SC X CL W fr a g:=λA=>PE.weak (h A) λY H Q ⟨hA,U,q,p⟩=>⟨hA,U,q,by
 rcases r U with e|e
 .rw[e]at p;exact p.elim
 .rw[e]at p;exact p⟩
theorem SS.ref{st:AZ}{f g:Rho->O}(h:SS X CL W st f)(r:∀ U,g U=.bad\/g U=f U):SS X CL W st g:=λFz B=>PS.weak (h Fz B) λD Y H ⟨U,x,p⟩=>⟨U,x,by
 rcases r U with e|e
 .rw[e]at p;exact p.elim
 .rw[e]at p;exact p⟩
end
theorem L7:∀{l:Ac Ah},LA l=Aa->l.Nodup
 |[],_=>List.nodup_nil
 |x::xs,h=>by
  unfold LA at h;simp only[Al,BA,U_7,Fv]at h;exact List.nodup_cons.mpr ⟨h.1,L7 h.2⟩
section
variable{T:Tc}{X:Cx}{Z:Gam}{CL:ClA}{k:Ae}{W:XW}
theorem RH(h:Pw T x=Aa):Vis T.sc x:=by
 unfold Pw at h;split at h
 .exact .inl (by assumption)
 .exact .inr (.inl (by assumption))
 .exact .inr (.inr (by assumption))
 .cases h
theorem Ks(h:IP T x=Aa):Loc T.sc x:=by
 unfold IP at h;split at h
 .exact .inl (by assumption)
 .exact .inr (by assumption)
 .cases h
theorem HN(h:G2 x=Aa):(x==("__debug__" : Ah))=Ad/\(x==("__classdict__" : Ah))=Ad/\x≠"__name__" := by
 unfold G2 at h;simp only[Al,BA]at h;exact⟨h.1.1,h.1.2,λe=>by subst e;exact absurd h.2 (by simp)⟩
theorem Ky{i:Ae}(v:VX Z CL k W T X)(h:isV T x i=Aa):PE X (.Name x pos) (IK i):=by
 unfold isV at h;simp only[Al,A7]at h;obtain⟨h2,h3,_⟩:=HN h.2;exact Ts (by rw[v.N];exact h.1.1) (by rw[v.sc];exact RH h.1.2) h2 h3
theorem IE(v:VX Z CL k W T X)(h:isB T x=Aa):Gl X x/\X.mg x=Af/\x≠"__name__"/\(x==("__debug__" : Ah))=Ad:=by
 unfold isB glB at h;simp only[Al,A7,U_7,AQ]at h;obtain⟨h2,h3,h4⟩:=HN h.2;exact⟨by show X.env.scope.names.lookup x=_;rw[v.sc];exact h.1.2,v.bl x h.1.1,h4,h2⟩
theorem Cw{x:An}(h:Dz x=Aa):Ay (x::xs) env=(Ad,eval x env)::Ay xs env:=by
 cases x<;>first|rfl|cases h
theorem Zb{y:An}(h:RY y=Aa):OF y:=by
 intro o i;cases y<;>first|rfl|cases h
theorem ON{e:An}(h:MU e=Aa):∀ x,CS e env x=pure x:=by
 intro x;cases e<;>first|rfl|cases h
theorem Ku{e:An}{t:Am An}{l:Ae}(h:JP e=Aa):Dh e t l env=pure Ad:=by
 cases e<;>first|rfl|cases h
theorem bO{e:An}(h:Mc e=Aa):∀ whole,Ik e env whole=(do let v <-whole;standAt e.pos;holding [v] (truthy v)):=by
 intro whole;cases e<;>first|rfl|cases h
theorem Yd(v:VX Z CL k W T X)(scope:BX):relabel scope X.env=O1 T.sc scope:=by
 unfold relabel O1;have:∀ n,X.env.kindOf n=T.sc.names.lookup n:=λn=>by show X.env.scope.names.lookup n=_;rw[v.sc]
 simp only[this,v.sc]
theorem S9{N':Ac Ah}(v:VX Z CL k W T X)(h:Nn T scope ts N'=Aa):BlockOk X scope N' ts/\N'.Nodup/\scope.kind=.function:=by
 unfold Nn at h;simp only[Al,A7,C8,CY,J8,ne_eq]at h;obtain⟨⟨⟨⟨⟨h1,h2⟩,h4⟩,h5⟩,h6⟩,h7⟩:=h;have at7:∀ i x,N'[i]?=Ab x->i∈ts\/((scope.names.lookup x≠Ab .local/\scope.names.lookup x≠Ab .cell)/\(scope.names.lookup x≠Ab .free\/T.N[i]?=Ab x)):=λi x e=>by
  have hi:=(A4.mp e).1;have:=h7 i (DC.mpr hi);rcases this with z|z
  .exact .inl (by simpa using z)
  .rw[e]at z;simp only[Al,J8,ne_eq,CY,A7]at z;exact .inr z
 refine⟨⟨h1,h2,λy hy hl=>by rw[h2 y hy,hl],λy hy hf=>?_,by rw[v.N];exact h5,λi x e hf hn=>?_,λi x e hl=>?_⟩,L7 h6,h1⟩
 .rw[v.sc];rcases h4 y hy with (z|z)|z
  .exact absurd hf z
  .exact .inl z
  .exact .inr z
 .rw[v.N];rcases at7 i x e with z|⟨_,z⟩
  .exact absurd z hn
  .exact z.resolve_left λq=>q hf
 .rcases at7 i x e with z|⟨z,_⟩
  .exact z
  .exact hl.elim (λq=>absurd q z.1) (λq=>absurd q z.2)
theorem VX.blk{xs:Ac Ah}{cl:Ac (Ah×Ak)}{s:Ap}{fp:Ac Ak}(v:VX Z CL k W T X)(h:Nn T scope ts (LN ts xs T.N)=Aa):VX Z CL k W0 (T.blk scope ts xs) (cxC X scope cl C (LN ts xs T.N) s H fp):=by
 obtain⟨_,h2,h3⟩:=S9 v h;exact⟨Yd v scope,h3,rfl,h2,v.calm,v.room,v.bl,v.fn,PassesOwn.never,Tu,Ux,v.xt,v.gl⟩
theorem bK{t:Ae}(v:VX Z CL k W T X)(hfn:scope.names.lookup x=Ab .cell->X.fn x=Aa)(h:tgO T scope t x=Aa):PG X (.Name x pos) (GZ t):=by
 unfold tgO at h;simp only[Al,CY,A7]at h;rcases h with ⟨h1,h2|h2⟩
 .exact Mt (by rw[v.N];exact v.nd) (by rw[v.N];exact h1) (by rw[v.sc];exact .inl h2) (.inr (by rw[v.sc];exact h2))
 .exact Mt (by rw[v.N];exact v.nd) (by rw[v.N];exact h1) (by rw[v.sc];exact .inr h2.1) (.inl (hfn h2.2))
theorem PR{y:An}{r:Ac An}{zs:Ac Ah}(h:Hu (y::r)=Ab zs):∃ x p ws,y=.Name x p/\Hu r=Ab ws/\zs=x::ws:=by
 cases y with
 |Name x p=>
  have h':(Hu r).map (x :: ·)=Ab zs:=h;cases e:Hu r with
  |none=>rw[e]at h';cases h'
  |some ws=>rw[e]at h';cases h';exact⟨x,p,ws,rfl,rfl,rfl⟩
 |_=>cases h
theorem QU(x:Ah)(p:AR)(r:Ac An)(env:Cr):D9 (.Name x p::r) env=(Ad,assign (.Name x p) env)::D9 r env:=rfl
theorem Xs:∀(ys:Ac An)(zs:Ac Ah),Hu ys=Ab zs->(D9 ys env).length=ys.length/\(D9 ys env).findIdx? (·.1)=Af/\(D9 ys env).map (·.2)=ys.map λy=>assign y env:=by
 intro ys
 induction ys with
 |nil=>intro _ _;exact⟨rfl,rfl,rfl⟩
 |cons y r ih=>
  intro zs h;obtain⟨x,p,ws,rfl,e,rfl⟩:=PR h;obtain⟨h1,h2,h3⟩:=ih ws e;rw[QU];refine⟨?_,?_,?_⟩
  .rw[AS,AS,h1]
  .rw[List.findIdx?_cons,h2];simp
  .rw[BP,BP,h3]
end
noncomputable def Es.len:Es->Ae
 |.nil=>0
 |.cons _ es=>es.len+1
theorem JK(Z:Gam)(U:Rho):∀(es:Es)(ds:Ac D),evA Z U es=.ok ds->ds.length=es.len
 |.nil,ds,h=>by cases h;rfl
 |.cons e es,ds,h=>by
  obtain⟨x,h1,h2⟩:=JB (QX Z U e es ▸ h);obtain⟨xs,h3,h4⟩:=JB h2;cases h4;exact congrArg (· + 1) (JK Z U es xs h3)
theorem Mp(Z:Gam)(U:Rho):∀(es:Es)(ds:Ac D),evB Z U es=.ok ds->ds.length=es.len
 |.nil,ds,h=>by cases h;rfl
 |.cons e es,ds,h=>by
  obtain⟨x,h1,h2⟩:=JB (N9 Z U e es ▸ h);obtain⟨xs,h3,h4⟩:=JB h2;cases h4;exact congrArg (· + 1) (Mp Z U es xs h3)
theorem Te(Z:Gam)(U:Rho)(e:E)(h:shE U e=Aa):top U e (evE Z U e)=evE Z U e:=by
 cases e with
 |var i=>
  show Eb U i=FI U i;have h':shV U i=Aa:=h;unfold shV at h';unfold Eb FI;cases q:U[i]? with
  |none=>rfl
  |some x=>
   cases x with
   |none=>rfl
   |some y=>
    obtain⟨d,o⟩:=y;cases o with
    |true=>rw[q]at h';cases h'
    |false=>rfl
 |_=>rfl
theorem Mx(Z:Gam)(U:Rho):∀(es:Es),HY U es=Aa->evB Z U es=evA Z U es
 |.nil,_=>rfl
 |.cons e es,h=>by
  simp only[YA,Al]at h;rw[QX,N9,Te Z U e h.1,Mx Z U es h.2]
theorem OG(Z:Gam)(c:E):Rf (λU=>evE Z U c) (λU=>top U c (evE Z U c)):=λU=>by
 by_cases h:shE U c=Aa
 .exact .inr (Te Z U c h).symm
 .cases c with
  |var i=>
   refine .inl ?_;show FI U i=.bad;have h':¬ shV U i=Aa:=h;unfold shV at h';unfold FI;cases q:U[i]? with
   |none=>rfl
   |some x=>
    cases x with
    |none=>rfl
    |some y=>
     obtain⟨d,o⟩:=y;cases o with
     |true=>rfl
     |false=>rw[q]at h';exact absurd rfl h'
  |_=>exact absurd rfl h
def Pcs(X:Cx)(CL:ClA)(W:XW)(e:An)(f:Rho->R D):Prop:=∃ tg iter elt ifs scope pos N' ts fi fc fe as g,e=.ListComp elt [⟨tg,iter,ifs,0⟩] scope pos/\BlockOk X scope N' ts/\SI X CL W tg iter fi/\GG X.K CL ts as g /\
 (∀ cl C s H fp,PG (cxC X scope cl C N' s H fp) tg g)/\(∀ cl C s H fp,STs (cxC X scope cl C N' s H fp) CL ifs fc)/\(∀ cl C s H fp,SE (cxC X scope cl C N' s H fp) CL W0 elt fe)/\(∀ x,CS iter X.env x=pure x) /\
 ∀ U,f U=(fi U).bind λxs=>(noX (Ch (λx=>(as x U).bind fc) (λx=>(as x U).bind fe) xs)).bind λys=>.ok (.lst ys)
theorem Pcs.sc{e:An}{f:Rho->R D}(hc:X.calm=Aa)(h:Pcs X CL W e f):SC X CL W Aa e f:=by
 obtain⟨tg,iter,elt,ifs,scope,pos,N',ts,fi,fc,fe,as,g,rfl,B,hi,hGG,hg,ht,he,hs,ef⟩:=h;exact SC.congr (aP hc B hi hGG hg ht he hs) ef
structure OkE (Z:Gam) (CL:ClA) (W:XW) (X:Cx) (e:An) (c:E):Prop where
 se:SE X CL W e (λU=>evE Z U c)
 st:ST X CL W e (λU=>top U c (evE Z U c))
 nw:BZ Z c=Aa->SC X CL W Aa e (λU=>evE Z U c)
 cp:JP e=Ad->Pcs X CL W e (λU=>evE Z U c)
section
variable{Z:Gam}{CL:ClA}{W:XW}{X:Cx}{e:An}{c:E}
theorem Fd(h:SE X CL W e (λU=>evE Z U c))(ht:∀ U r,top U c r=r)(hn:BZ Z c=Ad)(hc:JP e=Aa):OkE Z CL W X e c:=
 ⟨h,by simp only[ht];exact h.st,λz=>absurd z (by rw[hn];decide),λz=>absurd z (by rw[hc];decide)⟩
theorem MC(h:SC X CL W Aa e (λU=>evE Z U c))(ht:∀ U r,top U c r=r)(hc:JP e=Aa):OkE Z CL W X e c:=
 ⟨h.se,by simp only[ht];exact h.se.st,λ_=>h,λz=>absurd z (by rw[hc];decide)⟩
theorem oX(hc:X.calm=Aa)(h:Pcs X CL W e (λU=>evE Z U c))(ht:∀ U r,top U c r=r):OkE Z CL W X e c:=
 ⟨(h.sc hc).se,by simp only[ht];exact(h.sc hc).se.st,λ_=>h.sc hc,λ_=>h⟩
end
theorem pF{k:Ki}(h:O5 k=Ab x):∃ T,tyK k=Ab T/\CB x=Ab (.type T):=by
 cases k<;>simp only[O5]at h<;>cases h
 .exact⟨_,rfl,VD⟩
 .exact⟨_,rfl,PyProof.Rows.boot_bool⟩
 .exact⟨_,rfl,PyProof.Rows.boot_str⟩
 .exact⟨_,rfl,VE⟩
 .exact⟨_,rfl,VF⟩
structure Snd (Z:Gam) (CL:ClA) (k:Ae) (n:Ae):Prop where
 e:∀(W:XW)(T:Tc)(X:Cx)(x:An)(c:E),VX Z CL k W T X->Bm n T x c=Aa->OkE Z CL W X x c
 b:∀(W:XW)(T:Tc)(X:Cx)(x:An)(c:E),VX Z CL k W T X->H9 n T x c=Aa->SB X CL W x (λU=>(top U c (evE Z U c)).bind BU)
 bs:∀(W:XW)(T:Tc)(X:Cx)(xs:Ac An)(es:Es)(pos:AR),VX Z CL k W T X->chkBs n T xs es=Aa->xs≠[]->SW X CL W (.BoolOp .And xs pos) (λU=>(evN Z U es).bind BU)/\SW X CL W (.BoolOp .Or xs pos) (λU=>(evO Z U es).bind BU)
 es:∀(W:XW)(T:Tc)(X:Cx)(xs:Ac An)(es:Es),VX Z CL k W T X->chkEs n T xs es=Aa->SA X CL W xs (λU=>evA Z U es)/\SAT X CL W xs (λU=>evB Z U es)/\xs.length=es.len/\(∀ pos,xs≠[]->SE X CL W (.BoolOp .And xs pos) (λU=>evN Z U es)/\SE X CL W (.BoolOp .Or xs pos) (λU=>evO Z U es))/\(∀ pos,(BR pos (Ay xs X.env)).any (·.1)=Ad)
 o:∀(W:XW)(T:Tc)(X:Cx)(x:Am An)(c:E),VX Z CL k W T X->chkO n T x c=Aa->SO X CL W x (λU=>(top U c (evE Z U c)).bind (slE c))
 t:∀(T:Tc)(X:Cx)(xs:Ac An)(c:E),VX Z CL k W0 T X->chkT n T xs c=Aa->STs X CL xs (λU=>(top U c (evE Z U c)).bind BU)
 i:∀(W:XW)(T:Tc)(X:Cx)(tu:Ai)(tg x:An)(i:I),VX Z CL k W T X->Ug tu tg=Aa->chkI n T tu x i=Aa->SI X CL W tg x (λU=>evI Z U i)
section
variable{Z:Gam}{CL:ClA}{W:XW}{k n:Ae}{T:Tc}{X:Cx}
theorem Za:Snd Z CL k 0:=⟨λ_ _ _ _ _ _ h=>noF h,λ_ _ _ _ _ _ h=>noF h,λ_ _ _ _ _ _ _ h=>noF h,λ_ _ _ _ _ _ h=>noF h,λ_ _ _ _ _ _ h=>noF h,λ_ _ _ _ _ h=>noF h,λ_ _ _ _ _ _ _ _ _ h=>noF h⟩
theorem Qe{x:An}(h:Dz x=Aa)(hx:(BR pos (Ay xs env)).any (·.1)=Ad):(BR pos (Ay (x::xs) env)).any (·.1)=Ad:=by
 rw[Cw h];show (Ad||(BR pos (Ay xs env)).any (·.1))=Ad;rw[hx];rfl
theorem gY(S:Snd Z CL k n)(W:XW)(T:Tc)(X:Cx)(xs:Ac An)(es:Es)(v:VX Z CL k W T X)(h:chkEs (n+1) T xs es=Aa):SA X CL W xs (λU=>evA Z U es)/\SAT X CL W xs (λU=>evB Z U es)/\xs.length=es.len/\(∀ pos,xs≠[]->SE X CL W (.BoolOp .And xs pos) (λU=>evN Z U es)/\SE X CL W (.BoolOp .Or xs pos) (λU=>evO Z U es))/\(∀ pos,(BR pos (Ay xs X.env)).any (·.1)=Ad):=by
 cases xs with
 |nil=>
  cases es with
  |nil=>exact⟨To,aR,rfl,λ_ z=>absurd rfl z,λ_=>rfl⟩
  |cons=>exact noF h
 |cons x xs=>
  cases es with
  |nil=>exact noF h
  |cons e es=>
   replace h:(Dz x&&Bm n T x e&&chkEs n T xs es)=Aa:=h;simp only[Al]at h;obtain⟨⟨h0,h1⟩,h2⟩:=h;have he:=S.e W T X x e v h1;obtain⟨a1,a2,a3,a4,a5⟩:=S.es W T X xs es v h2;refine⟨Sb he.se a1 (Cw h0),Zd he.st a2 (Cw h0),congrArg (· + 1) a3,λpos _=>?_,λpos=>Qe h0 (a5 pos)⟩
   cases xs with
   |nil=>
    cases es with
    |nil=>exact⟨OP he.se,OP he.se⟩
    |cons=>cases a3
   |cons y ys=>
    cases es with
    |nil=>cases a3
    |cons e' es'=>
     obtain⟨b1,b2⟩:=a4 pos (by simp)
     exact⟨Tn he.se b1,nH he.se b2⟩
theorem lR(S:Snd Z CL k n)(W:XW)(T:Tc)(X:Cx)(x:Am An)(c:E)(v:VX Z CL k W T X)(h:chkO (n+1) T x c=Aa):SO X CL W x (λU=>(top U c (evE Z U c)).bind (slE c)):=by
 cases x with
 |none=>
  obtain rfl:=Zv h;exact aG
 |some x=>
  replace h:(!(MW c)&&Bm n T x c)=Aa:=h;rw[Al]at h;have q:=aF (S.e W T X x c v h.2).st;have e:slE c=λd=>(DR d).bind λi=>.ok (Ab i):=by
   funext d
   cases c<;>first|rfl|exact absurd (show Ad=Aa from h.1) Az
  rw[e];exact q
theorem lP(S:Snd Z CL k n)(T:Tc)(X:Cx)(xs:Ac An)(c:E)(v:VX Z CL k W0 T X)(h:chkT (n+1) T xs c=Aa):STs X CL xs (λU=>(top U c (evE Z U c)).bind BU):=by
 cases xs with
 |nil=>
  replace h:=cK h;obtain⟨b,rfl,h⟩:=h;subst h;exact bS
 |cons x xs=>
  replace h:(xs.isEmpty&&H9 n T x c)=Aa:=h;rw[Al]at h;obtain rfl:=HR h.1;exact bR (S.b W0 T X x c v h.2)
theorem lB(S:Snd Z CL k n)(W:XW)(T:Tc)(X:Cx)(tu:Ai)(tg x:An)(i:I)(v:VX Z CL k W T X)(ht':Ug tu tg=Aa)(h:chkI (n+1) T tu x i=Aa):SI X CL W tg x (λU=>evI Z U i):=by
 have ht:tu=Aa->nX tg=Aa:=λz=>by
  subst z;cases tg<;>first|rfl|cases ht'
 cases i with
 |e a=>
  exact pW (S.e W T X x a v h).se
 |rng a=>
  replace h:=JH h;obtain⟨g,pp,l,qq,rfl,h⟩:=h;replace h:=FX h;obtain⟨y,rfl,h⟩:=h;simp only[Al,A7]at h;obtain⟨⟨⟨rfl,h1⟩,h2⟩,h3⟩:=h;obtain⟨g1,g2,_,_⟩:=IE v h1;exact fU (S.e W T X _ a v h3).st g1 g2 (Cw h2)
 |rng2 a b=>
  replace h:=JH h;obtain⟨g,pp,l,qq,rfl,h⟩:=h;replace h:=JF h;obtain⟨y,z,rfl,h⟩:=h;simp only[Al,A7]at h;obtain⟨⟨⟨⟨⟨rfl,h1⟩,h2⟩,h3⟩,h4⟩,h5⟩:=h;obtain⟨g1,g2,_,_⟩:=IE v h1;exact aJ (S.e W T X _ a v h4).st (S.e W T X _ b v h5).st g1 g2 (by rw[Cw h2,Cw h3];rfl) (by rw[Cw h3];rfl)
 |rng3 a b c=>
  replace h:=JH h;obtain⟨g,pp,l,qq,rfl,h⟩:=h;replace h:=ZK h;obtain⟨y,z,w,rfl,h⟩:=h;simp only[Al,A7]at h;obtain⟨⟨⟨⟨⟨⟨⟨rfl,h1⟩,h2⟩,h3⟩,h4⟩,h5⟩,h6⟩,h7⟩:=h;obtain⟨g1,g2,_,_⟩:=IE v h1;exact aI (S.e W T X _ a v h5).st (S.e W T X _ b v h6).st (S.e W T X _ c v h7).st g1 g2 (by rw[Cw h2,Cw h3,Cw h4];rfl) (by rw[Cw h3,Cw h4];rfl) (by rw[Cw h4];rfl)
 |zip a b=>
  replace h:=JH h;obtain⟨g,pp,l,qq,rfl,h⟩:=h;replace h:=JF h;obtain⟨y,z,rfl,h⟩:=h;simp only[Al,A7]at h;obtain⟨⟨⟨⟨⟨⟨h0,rfl⟩,h1⟩,h2⟩,h3⟩,h4⟩,h5⟩:=h;obtain⟨g1,g2,_,_⟩:=IE v h1;have hg:=ht h0;cases tg with
  |Tuple es m tpos=>exact nG (S.e W T X _ a v h4).se (S.e W T X _ b v h5).se g1 g2 (by rw[Cw h2,Cw h3];rfl) (by rw[Cw h3];rfl)
  |_=>cases hg
 |zip3 a b c=>exact absurd (show Ad=Aa from h) Az
 |enm a=>exact absurd (show Ad=Aa from h) Az
theorem Kf{c:Prop}[Ez c]{b:Ai}:(if c then R.ok (D.bl b) else .bad)=.bad\/∃ b',(if c then R.ok (D.bl b) else .bad)=.ok (.bl b'):=by
 by_cases h:c
 .rw[Aq h];exact .inr ⟨_,rfl⟩
 .rw[As h];exact .inl rfl
theorem QZ(op:Do)(d d':D):BK op d d'=.bad\/∃ b,BK op d d'=.ok (.bl b):=by
 cases op with
 |Eq=>exact Kf
 |NotEq=>exact Kf
 |In=>
  cases d' with
  |lst ys=>exact Kf
  |tup ys=>exact Kf
  |dic kvs=>
   show (match Jp d with|some k=>R.ok (D.bl (kvs.any λp=>p.1==k))|none=>.bad)=.bad\/∃ b,(match Jp d with|some k=>R.ok (D.bl (kvs.any λp=>p.1==k))|none=>.bad)=.ok (.bl b)
   cases Jp d with
   |some k=>exact .inr ⟨_,rfl⟩
   |none=>exact .inl rfl
  |_=>exact .inl rfl
 |NotIn=>
  cases d' with
  |lst ys=>exact Kf
  |tup ys=>exact Kf
  |str j=>cases d<;>first|exact .inr ⟨_,rfl⟩|exact .inl rfl
  |_=>exact .inl rfl
 |Is=>
  cases d' with
  |non=>cases d<;>first|exact .inr ⟨_,rfl⟩|exact .inl rfl
  |_=>cases d<;>first|exact .inl rfl|exact .inr ⟨_,rfl⟩
 |IsNot=>
  cases d' with
  |non=>cases d<;>first|exact .inr ⟨_,rfl⟩|exact .inl rfl
  |_=>cases d<;>first|exact .inl rfl|exact .inr ⟨_,rfl⟩
 |_=>
  cases d with
  |int i=>cases d'<;>first|exact .inr ⟨_,rfl⟩|exact .inl rfl
  |_=>exact .inl rfl
theorem Sh(op:Do)(d d':D):(BK op d d').bind BU=.bad\/(BK op d d').bind BU=(BK op d d').bind DX:=by
 rcases QZ op d d' with h|⟨b,h⟩
 .rw[h];exact .inl rfl
 .rw[h];exact .inr rfl
theorem kO(e e':E)(es:Es):Rf (λU=>(evN Z U (.cons e (.cons e' es))).bind BU) (λU=>((top U e (evE Z U e)).bind BU).bind λc=>if c=Aa then (evN Z U (.cons e' es)).bind BU else .ok Ad):=λU=>by
 have e0:evN Z U (.cons e (.cons e' es))=(evE Z U e).bind λx=>(DX x).bind λc=>if c=Aa then evN Z U (.cons e' es) else .ok (.bl Ad):=rfl
 dsimp only;rw[e0];rcases OG Z e U with z|z<;>dsimp only at z
 .rw[z];exact .inl rfl
 .rw[<-z];cases evE Z U e with
  |bad=>exact .inl rfl
  |exn x=>exact .inr rfl
  |ok d=>
   cases d with
   |bl b=>cases b<;>exact .inr rfl
   |_=>exact .inl rfl
theorem kM(e e':E)(es:Es):Rf (λU=>(evO Z U (.cons e (.cons e' es))).bind BU) (λU=>((top U e (evE Z U e)).bind BU).bind λc=>if c=Aa then .ok Aa else (evO Z U (.cons e' es)).bind BU):=λU=>by
 have e0:evO Z U (.cons e (.cons e' es))=(evE Z U e).bind λx=>(DX x).bind λc=>if c=Aa then .ok (.bl Aa) else evO Z U (.cons e' es):=rfl
 dsimp only;rw[e0];rcases OG Z e U with z|z<;>dsimp only at z
 .rw[z];exact .inl rfl
 .rw[<-z];cases evE Z U e with
  |bad=>exact .inl rfl
  |exn x=>exact .inr rfl
  |ok d=>
   cases d with
   |bl b=>cases b<;>exact .inr rfl
   |_=>exact .inl rfl
theorem Rf.tru(e:E):Rf (λU=>(evE Z U e).bind BU) (λU=>(top U e (evE Z U e)).bind BU):=λU=>by
 rcases OG Z e U with z|z<;>dsimp only at z ⊢
 .rw[z];exact .inl rfl
 .rw[<-z];exact .inr rfl
theorem gZ(S:Snd Z CL k n)(W:XW)(T:Tc)(X:Cx)(xs:Ac An)(es:Es)(pos:AR)(v:VX Z CL k W T X)(h:chkBs (n+1) T xs es=Aa)(hne:xs≠[]):SW X CL W (.BoolOp .And xs pos) (λU=>(evN Z U es).bind BU)/\SW X CL W (.BoolOp .Or xs pos) (λU=>(evO Z U es).bind BU):=by
 cases xs with
 |nil=>exact absurd rfl hne
 |cons x xs=>
  cases es with
  |nil=>exact noF h
  |cons e es=>
   replace h:(H9 n T x e&&chkBs n T xs es)=Aa:=h;simp only[Al]at h;obtain⟨h1,h2⟩:=h;have he:=S.b W T X x e v h1;cases xs with
   |nil=>
    cases es with
    |nil=>exact⟨SW.ref (bQ he) (Rf.tru e),SW.ref (gP he) (Rf.tru e)⟩
    |cons=>
     cases n with
     |zero=>exact absurd (show Ad=Aa from h2) Az
     |succ n=>exact absurd (show Ad=Aa from h2) Az
   |cons y ys=>
    cases es with
    |nil=>
     cases n with
     |zero=>exact absurd (show Ad=Aa from h2) Az
     |succ n=>exact absurd (show Ad=Aa from h2) Az
    |cons e' es'=>
     obtain⟨b1,b2⟩:=S.bs W T X (y::ys) (.cons e' es') pos v h2 (by simp)
     exact⟨SW.ref (gU he b1) (kO e e' es'),SW.ref (lO he b2) (kM e e' es')⟩
theorem bJ(S:Snd Z CL k n){x:An}{ops:Ac Do}{b:BI}(v:VX Z CL k W T X)(h:Pq T (Bm n) x ops ys b as=Aa):SB X CL W (.Compare x ops ys pos) (λU=>(top U (.bi b as) (evE Z U (.bi b as))).bind BU):=by
 exact absurd (show Ad=Aa from h) Az
theorem lD(S:Snd Z CL k n)(W:XW)(T:Tc)(X:Cx)(x:An)(c:E)(v:VX Z CL k W T X)(h:H9 (n+1) T x c=Aa):SB X CL W x (λU=>(top U c (evE Z U c)).bind BU):=by
 have plain:∀ e,Mc e=Aa->Bm n T e c=Aa->SB X CL W e (λU=>(top U c (evE Z U c)).bind BU):=λe h1 h2=>gG (S.e W T X e c v h2).st (bO h1)
 replace h:((JU x λo x=>decide (o=.Not)&&(Nk c λa=>H9 n T x a))||(Jo x λo xs _=>(decide (o=.And)&&(M9 c λes=>chkBs n T xs es && !xs.isEmpty))||(decide (o=.Or)&&(Nj c λes=>chkBs n T xs es && !xs.isEmpty)))||(LH x λx os ys=>(M5 c λop a b=>ES os λop'=>ES ys λy=>decide (op'=op) && !behindInMarks op y&&Bm n T x a&&Bm n T y b)||(M6 c λop1 op2 a b c=>HV os λo1 o2=>HV ys λy z=>decide (o1=op1)&&decide (o2=op2) && !lastMarks [op1,op2] [y,z]&&Bm n T x a&&Bm n T y b&&Bm n T z c)||(M7 c λb as=>Pq T (Bm n) x os ys b as))||Mc x&&Bm n T x c)=Aa:=h
 replace h:=(orT h).imp_left λz=>(orT z).imp_left orT
 rcases h with ((h|h)|h)|h
 .replace h:=Mw h;obtain⟨o,y,p,rfl,h⟩:=h;replace h:=Cm h;obtain⟨h0,h⟩:=h;obtain rfl:=AW h0;replace h:=dX h;obtain⟨a,rfl,h⟩:=h
  .skip
   refine SB.ref (gH (S.b W T X _ a v h)) λU=>?_
   show ((top U a (evE Z U a)).bind λx=>(DX x).bind λb=>.ok (.bl (!b))).bind BU=.bad\/((top U a (evE Z U a)).bind λx=>(DX x).bind λb=>.ok (.bl (!b))).bind BU=_
   cases top U a (evE Z U a) with
   |bad=>exact .inl rfl
   |exn x=>exact .inr rfl
   |ok d=>cases d<;>first|exact .inr rfl|exact .inl rfl
 .replace h:=Ll h;obtain⟨o,ys,p,rfl,h⟩:=h;replace h:=orT h;rcases h with h|h
  .replace h:=Cm h;obtain⟨h0,h⟩:=h;obtain rfl:=AW h0;replace h:=ZU h;obtain⟨es,rfl,h⟩:=h;simp only[Al,BA,D5]at h;exact(S.bs W T X _ _ _ v h.1 h.2).1.sb
  .replace h:=Cm h;obtain⟨h0,h⟩:=h;obtain rfl:=AW h0;replace h:=dW h;obtain⟨es,rfl,h⟩:=h;simp only[Al,BA,D5]at h;exact(S.bs W T X _ _ _ v h.1 h.2).2.sb
 .replace h:=Rb h;obtain⟨w,os,ys,p,rfl,h⟩:=h;replace h:=(orT h).imp_left orT;rcases h with (h|h)|h
  .replace h:=ZP h;obtain⟨op,a,b,rfl,h⟩:=h;replace h:=FX h;obtain⟨op',rfl,h⟩:=h;replace h:=FX h;obtain⟨y,rfl,h⟩:=h
   .simp only[Al,BA,AQ]at h;obtain⟨⟨⟨rfl,h1⟩,h2⟩,h3⟩:=h;refine SB.ref (gI (Mv v.room.units _) (S.e W T X _ a v h2).st (S.e W T X _ b v h3).st h1) λU=>?_
    show ((top U a (evE Z U a)).bind λx=>(top U b (evE Z U b)).bind λy=>BK op' x y).bind BU=.bad\/((top U a (evE Z U a)).bind λx=>(top U b (evE Z U b)).bind λy=>BK op' x y).bind BU=_
    cases top U a (evE Z U a) with
    |bad=>exact .inl rfl
    |exn x=>exact .inr rfl
    |ok d=>
     cases top U b (evE Z U b) with
     |bad=>exact .inl rfl
     |exn x=>exact .inr rfl
     |ok d'=>
      dsimp only[R.bind];exact Sh _ d d'
  .replace h:=ZQ h;obtain⟨op1,op2,a,b,c,rfl,h⟩:=h;replace h:=JF h;obtain⟨o1,o2,rfl,h⟩:=h;replace h:=JF h;obtain⟨y,z,rfl,h⟩:=h
   .simp only[Al,BA,AQ]at h;obtain⟨⟨⟨⟨⟨rfl,rfl⟩,h1⟩,h2⟩,h3⟩,h4⟩:=h;refine SB.ref (Zc v.room.units (S.e W T X _ a v h2).st (S.e W T X _ b v h3).st (S.e W T X _ c v h4).st h1) λU=>?_
    show ((top U a (evE Z U a)).bind λx=>(top U b (evE Z U b)).bind λy=>(BK o1 x y).bind λz=>(DX z).bind λk=>if k=Aa then (top U c (evE Z U c)).bind λu=>BK o2 y u else .ok (.bl Ad)).bind BU=.bad\/((top U a (evE Z U a)).bind λx=>(top U b (evE Z U b)).bind λy=>(BK o1 x y).bind λz=>(DX z).bind λk=>if k=Aa then (top U c (evE Z U c)).bind λu=>BK o2 y u else .ok (.bl Ad)).bind BU=_
    cases top U a (evE Z U a) with
    |bad=>exact .inl rfl
    |exn x=>exact .inr rfl
    |ok d=>
     cases top U b (evE Z U b) with
     |bad=>exact .inl rfl
     |exn x=>exact .inr rfl
     |ok d'=>
      dsimp only[R.bind];cases BK o1 d d' with
      |bad=>exact .inl rfl
      |exn x=>exact .inr rfl
      |ok d3=>
       cases d3 with
       |bl k=>
        cases k with
        |false=>exact .inr rfl
        |true=>
         dsimp only[R.bind,DX];rw[Aq rfl,Aq rfl];cases top U c (evE Z U c) with
         |bad=>exact .inl rfl
         |exn x=>exact .inr rfl
         |ok d4=>exact Sh _ d' d4
       |_=>exact .inl rfl
  .replace h:=ZR h;obtain⟨b,as,rfl,h⟩:=h;exact bJ S v h
 .exact plain _ (Cm h).1 (Cm h).2
end
section
variable{Z:Gam}{CL:ClA}{W:XW}{k n:Ae}{T:Tc}{X:Cx}
theorem pG{b:BI}{x:An}(v:VX Z CL k W T X)(hb:O6 b=Ab g)(hg:isB T g=Aa)(hs:SAT X CL W (x::xs) (λU=>evB Z U as))(h0:Dz x=Aa)(hpl:∀ pos,(BR pos (Ay xs X.env)).any (·.1)=Ad):OkE Z CL W X (.Call (.Name g p) (x::xs) [] pos) (.bi b as):=by
 obtain⟨g1,g2,g3,g4⟩:=IE v hg;cases b<;>simp only[O6]at hb<;>cases hb
 .exact Fd (Tl kJ g1 g2 PySem.boot_len hs g3 g4 (Cw h0) hpl) (λ_ _=>rfl) rfl rfl
 .exact Fd (Tk kK g1 g2 VD hs g3 g4 (Cw h0) hpl) (λ_ _=>rfl) rfl rfl
 .exact MC (fP eS g1 g2 VE hs g3 g4 (Cw h0) hpl) (λ_ _=>rfl) rfl
 .exact Fd (Tk Zm g1 g2 VF hs g3 g4 (Cw h0) hpl) (λ_ _=>rfl) rfl rfl
 .exact Fd (Tl (kL v.calm) g1 g2 PyProof.Rows.boot_all hs g3 g4 (Cw h0) hpl) (λ_ _=>rfl) rfl rfl
 .exact MC (fQ Zj g1 g2 PyProof.Rows.boot_sorted hs g3 g4 (Cw h0) hpl) (λ_ _=>rfl) rfl
theorem LC{l:Ac (Ah×Ae)}(h:inX l g c=Aa):(g,c)∈l:=by
 unfold inX at h;simp only[FS,Al,A7]at h;obtain⟨p,hp,rfl,rfl⟩:=h;exact hp
theorem Kj{x:An}{es:Es}(h:chkEs n T (x::xs) es=Aa):Dz x=Aa/\∃ e es',es=.cons e es'/\∃ m,n=m+1/\chkEs m T xs es'=Aa:=by
 cases n with
 |zero=>exact noF h
 |succ m=>
  cases es with
  |nil=>exact noF h
  |cons e es=>
   replace h:(Dz x&&Bm m T x e&&chkEs m T xs es)=Aa:=h;simp only[Al]at h;exact⟨h.1.1,e,es,rfl,m,rfl,h.2⟩
theorem Li:∀(m:Ae)(xs:Ac An)(es:Es),chkEs m T xs es=Aa->∀ pos,(BR pos (Ay xs X.env)).any (·.1)=Ad:=by
 intro m
 induction m with
 |zero=>intro xs es h;exact noF h
 |succ m ih=>
  intro xs es h pos;cases xs with
  |nil=>rfl
  |cons x xs=>
   obtain⟨h0,e,es',rfl,m',e1,h1⟩:=Kj h;cases e1;exact Qe h0 (ih xs es' h1 pos)
theorem cV(S:Snd Z CL k n){x:An}{b:BI}(v:VX Z CL k W T X)(h:(match No as with|some (s,a)=>KJ x λf l ks cp=>ks.isEmpty&&(KN f λo m ap=>m==("join" : Ah)&&ap.endLine==cp.line&&(HW o λc=>decide (c=.str s)&&decide (b=.sjoin)&&(ES l λy=>Dz y&&Bm n T y a)))|none=>Ad)=Aa):OkE Z CL W X x (.bi b as):=by
 cases q1:No as with
 |none=>rw[q1]at h;cases h
 |some t=>
  obtain⟨s,a⟩:=t;rw[q1]at h;obtain⟨e,te⟩:=eH q1;subst e;replace h:=N0 h;obtain⟨f,l,ks,cp,rfl,h⟩:=h;replace h:=Cm h;obtain⟨h0,h⟩:=h;obtain rfl:=HR h0;replace h:=N1 h;obtain⟨o,m,ap,rfl,h⟩:=h;replace h:=Cm h;obtain⟨h1,h⟩:=h;replace h1:=Cm h1;obtain⟨h1,h2⟩:=h1;obtain rfl:=eq_of_beq h1;replace h:=JG h;obtain⟨c,u,p,rfl,h⟩:=h;replace h:=Cm h;obtain⟨h3,h⟩:=h;replace h3:=Cm h3;obtain⟨h3,h4⟩:=h3;obtain rfl:=AW h3;obtain rfl:=AW h4;replace h:=FX h;obtain⟨y,rfl,h⟩:=h;replace h:=Cm h;obtain⟨h5,h6⟩:=h;refine Fd (SE.congr (aO (S.e W T X _ a v h6).se rfl (by rw[Cw h5];rfl) h2 (by rw[Cw h5];rfl)) λU=>?_) (λ_ _=>rfl) rfl rfl
  simp only[SY,evB,R.bind_assoc,R.bind_ok,bH,eL,te]
theorem fF(S:Snd Z CL k n){x:An}{b:BI}(v:VX Z CL k W T X)(h:(match PN as with|some a=>(match Uy x with|some y=>decide (b=.rvs)&&Bm n T y a|none=>Ad)|none=>Ad)=Aa):OkE Z CL W X x (.bi b as):=by
 simp[PN]at h
theorem gM(S:Snd Z CL k n){x:An}{b:BI}(v:VX Z CL k W T X)(h:(match Pe as with|some (a,c)=>(match UK x with|some (y,z,_)=>decide (b=.tlt) && !behindInMarks .Lt z&&Bm n T y a&&Bm n T z c|none=>Ad)|none=>Ad)=Aa):OkE Z CL W X x (.bi b as):=by
 simp[Pe]at h
theorem lA{x:An}{b:BI}(v:VX Z CL k W T X)(h:Uk T x b as=Aa):OkE Z CL W X x (.bi b as):=by
 exact absurd h Az
theorem gW(S:Snd Z CL k n){x:An}{b:BI}(v:VX Z CL k W T X)(h:(match Pf as with|some (a,k)=>(match Uu x with|some (y,j)=>decide (b=.stp)&&decide (j=k)&&decide (0<=k)&&Bm n T y a|none=>Ad)|none=>Ad)=Aa):OkE Z CL W X x (.bi b as):=by
 simp[Pf]at h
theorem iS(S:Snd Z CL k n){x:An}{b:BI}(v:VX Z CL k W T X)(h:(match Pi as with|some (a,c)=>(match Uq x with|some (g,h,y,z)=>decide (b=.list)&&g==("list" : Ah)&&h==("range" : Ah)&&isB T g&&isB T h&&Dz y&&Dz z&&Bm n T y a&&Bm n T z c|none=>Ad)|none=>Ad)=Aa):OkE Z CL W X x (.bi b as):=by
 simp[Pi]at h
theorem cS(S:Snd Z CL k n){x:An}{b:BI}(v:VX Z CL k W T X)(h:(match Ph as with|some a=>(match Up x with|some (g,h,y)=>decide (b=.lset)&&g==("len" : Ah)&&h==("set" : Ah)&&isB T g&&isB T h&&Dz y&&Bm n T y a|none=>Ad)|none=>Ad)=Aa):OkE Z CL W X x (.bi b as):=by
 simp[Ph]at h
theorem lC(S:Snd Z CL k n)(W:XW)(T:Tc)(X:Cx)(x:An)(c:E)(v:VX Z CL k W T X)(h:Bm (n+1) T x c=Aa):OkE Z CL W X x c:=by
 cases c with
 |non=>
  replace h:=JG h;obtain⟨c,u,p,rfl,h⟩:=h;obtain rfl:=AW h;exact Fd fW (λ_ _=>rfl) rfl rfl
 |bl b=>
  replace h:=JG h;obtain⟨c,u,p,rfl,h⟩:=h;obtain rfl:=AW h;exact Fd TJ (λ_ _=>rfl) rfl rfl
 |int i=>
  replace h:=JG h;obtain⟨c,u,p,rfl,h⟩:=h;obtain rfl:=AW h;exact Fd gD (λ_ _=>rfl) rfl rfl
 |str i=>
  replace h:=JG h;obtain⟨c,u,p,rfl,h⟩:=h;obtain rfl:=AW h;exact Fd OO (λ_ _=>rfl) rfl rfl
 |var i=>
  replace h:=Go h;obtain⟨y,p,rfl,h⟩:=h;exact⟨fV (Ky v h),Kw (Ky v h),λz=>(nomatch z),λz=>(nomatch z)⟩
 |glob g=>exact absurd (show Ad=Aa from h) Az
 |bin op a b=>
  replace h:=Re h;obtain⟨y,op',z,p,rfl,h⟩:=h;simp only[Al,AQ]at h;obtain⟨⟨rfl,h1⟩,h2⟩:=h;have ha:=(S.e W T X _ a v h1).st;have hb:=(S.e W T X _ b v h2).st;refine⟨OQ (Oq _) ha hb,(OQ (Oq _) ha hb).st,λz=>?_,λz=>nomatch z⟩
  cases op'<;>first|exact fR ha hb|cases z
 |un op a=>
  replace h:=Mw h;obtain⟨o,y,p,rfl,h⟩:=h;replace h:=Cm h;obtain⟨h0,h⟩:=h;obtain rfl:=AW h0;simp only[Al,AQ]at h;obtain⟨rfl,h1⟩:=h;exact Fd (fX (S.e W T X _ a v h1).st) (λ_ _=>rfl) rfl rfl
 |no a=>
  replace h:=Mw h;obtain⟨o,y,p,rfl,h⟩:=h;replace h:=Cm h;obtain⟨h0,h⟩:=h;obtain rfl:=AW h0;exact Fd (Tj (S.e W T X _ a v h).st) (λ_ _=>rfl) rfl rfl
 |and es=>
  replace h:=Ll h;obtain⟨o,ys,p,rfl,h⟩:=h;replace h:=Cm h;obtain⟨h0,h⟩:=h;obtain rfl:=AW h0;simp only[Al,BA,D5]at h;exact Fd ((S.es W T X _ es v h.1).2.2.2.1 _ h.2).1 (λ_ _=>rfl) rfl rfl
 |or es=>
  replace h:=Ll h;obtain⟨o,ys,p,rfl,h⟩:=h;replace h:=Cm h;obtain⟨h0,h⟩:=h;obtain rfl:=AW h0;simp only[Al,BA,D5]at h;exact Fd ((S.es W T X _ es v h.1).2.2.2.1 _ h.2).2 (λ_ _=>rfl) rfl rfl
 |cmp op a b=>
  replace h:=Rb h;obtain⟨y,os,ys,p,rfl,h⟩:=h;replace h:=FX h;obtain⟨op',rfl,h⟩:=h;replace h:=FX h;obtain⟨z,rfl,h⟩:=h;simp only[Al,BA,AQ]at h;obtain⟨⟨⟨rfl,h1⟩,h2⟩,h3⟩:=h;exact Fd (gF (Mv v.room.units _) (S.e W T X _ a v h2).st (S.e W T X _ b v h3).st h1) (λ_ _=>rfl) rfl rfl
 |cmp2 op1 op2 a b c=>exact absurd (show Ad=Aa from h) Az
 |ite c a b=>exact absurd (show Ad=Aa from h) Az
 |call f as=>
  replace h:=L6 h;obtain⟨g,pp,y,ys,qq,rfl,h⟩:=h;simp only[Al,FS,A7,AQ]at h;obtain⟨⟨⟨⟨⟨p,hp,⟨rfl,rfl⟩,hl⟩,h900⟩,h1⟩,h2⟩,h3⟩:=h;obtain⟨fa,fd,ps,m1,m2,m3,m4,m5,_⟩:=v.fn p hp;have hlt:p.2.2<1000:=by omega
  rw[Hl hlt]at m4 m5;have m5:=m5 hlt;obtain⟨n2,n3,n4⟩:=HN h2;obtain⟨a1,a2,a3,a4,a5⟩:=S.es W T X _ as v h3;obtain⟨s0,e,es',rfl,m,rfl,s1⟩:=Kj h3;have q:SC X CL W (Z.fr p.2.1) (.Call (.Name p.1 pp) (y::ys) [] qq) (λU=>evE Z U (.call p.2.1 (.cons e es'))):=aQ (sh:=λU=>HY U (.cons e es')) m5 v.room (by unfold glB at h1;show X.env.scope.names.lookup p.1=_;rw[v.sc];exact eq_of_beq h1) m1 m2 m3 v.px a1 a2 (λU z=>Mx Z U _ z) (λU ds z=>by rw[Mp Z U _ _ z,<-a3,hl];rfl) n2 (Cw s0) (Li m ys es' s1)
  exact⟨q.se,q.se.st,λz=>by
   have z':Z.fr p.2.1=Aa:=z;rw[z']at q;exact q,λz=>nomatch z⟩
 |bi b as=>
  unfold Bm at h;dsimp only at h;simp only[CY]at h;rcases h with ((((((h|h)|h)|h)|h)|h)|h)|h
  .replace h:=L6 h;obtain⟨g,pp,y,ys,qq,rfl,h⟩:=h;simp only[Al,A7]at h;obtain⟨⟨h1,h2⟩,h3⟩:=h;obtain⟨s0,e,es',rfl,m,rfl,s1⟩:=Kj h3;exact pG v h1 h2 (S.es W T X _ _ v h3).2.1 s0 (Li m _ es' s1)
  .exact lA v h
  .exact iS S v h
  .exact gW S v h
  .exact cS S v h
  .exact gM S v h
  .exact cV S v h
  .exact fF S v h
 |isi a ks=>
  replace h:=FX h;obtain⟨k',rfl,h⟩:=h;replace h:=JH h;obtain⟨g,pp,l,qq,rfl,h⟩:=h;replace h:=JF h;obtain⟨y,t,rfl,h⟩:=h;replace h:=Go h;obtain⟨t,pt,rfl,h⟩:=h;simp only[Al,A7]at h;obtain⟨⟨⟨⟨⟨rfl,h1⟩,h2⟩,h3⟩,h4⟩,h5⟩:=h;obtain⟨g1,g2,_,_⟩:=IE v h1;obtain⟨b1,b2,b3,b4⟩:=IE v h3;obtain⟨ty,t1,t2⟩:=pF h2;exact Fd (gA t1 g1 g2 b1 b2 t2 b3 b4 (S.e W T X _ a v h5).st (Cw h4)) (λ_ _=>rfl) rfl rfl
 |idx a i=>
  replace h:=Q7 h;obtain⟨y,z,p,rfl,h⟩:=h;simp only[Al]at h;obtain⟨⟨h1,h2⟩,h3⟩:=h;exact Fd (gE (Zb h1) (S.e W T X _ a v h2).st (S.e W T X _ i v h3).st) (λ_ _=>rfl) rfl rfl
 |sl a lo hi=>
  replace h:=Q7 h;obtain⟨y,s,p,rfl,h⟩:=h;replace h:=ZL h;obtain⟨l,u,st,p',rfl,h⟩:=h;replace h:=Cm h;obtain⟨h0,h⟩:=h;obtain rfl:=VB.mp h0;simp only[Al]at h;obtain⟨⟨h1,h2⟩,h3⟩:=h;refine MC (SC.congr (lF (S.e W T X _ a v h1).st (S.o W T X _ lo v h2) (S.o W T X _ hi v h3)) λU=>?_) (λ_ _=>rfl) rfl
  show ((top U a (evE Z U a)).bind λx=>(top U lo (evE Z U lo)).bind λl=>(slE lo l).bind λl'=>(top U hi (evE Z U hi)).bind λh=>(slE hi h).bind λh'=>slD x l' h')=_
  simp only[R.bind_assoc]
 |tup es=>
  replace h:=Mg h;obtain⟨ys,cc,p,rfl,h⟩:=h;simp only[Al,AQ]at h;have q:=S.es W T X _ es v h.1;exact Fd (Ti q.1 λU ds z=>by rw[JK Z U _ _ z,<-q.2.2.1];omega) (λ_ _=>rfl) rfl rfl
 |lst es=>
  replace h:=Ol h;obtain⟨ys,p,rfl,h⟩:=h;simp only[Al,AQ]at h;have q:=S.es W T X _ es v h.1;exact MC (OM q.1 λU ds z=>by rw[JK Z U _ _ z,<-q.2.2.1];omega) (λ_ _=>rfl) rfl
 |comp elt t it c=>
  replace h:=dY (e:=x) (F:=_) (by unfold Bm at h;exact h)
  obtain⟨y,tg,it',ifs,scope,p,rfl,h⟩:=h;replace h:=Go h;obtain⟨w,pw,rfl,h⟩:=h;simp only[Al]at h;obtain⟨⟨⟨⟨⟨h1,h2⟩,h3⟩,h4⟩,h5⟩,h6⟩:=h;refine oX v.calm ⟨_,_,_,_,_,_,_,_,_,_,_,_,_,rfl,(S9 v h3).1,S.i W T X Ad _ _ it v rfl h1,bZ t,λcl C s H fp=>bK (v.blk h3) (λz=>A7.mpr z) h4,λcl C s H fp=>S.t _ _ _ c (v.blk h3) h5,λcl C s H fp=>(S.e W0 _ _ _ elt (v.blk h3) h6).se,ON h2,λU=>rfl⟩ (λ_ _=>rfl)
 |compT elt ts it c=>exact absurd (show Ad=Aa from h) Az
 |tupI it=>exact absurd (show Ad=Aa from h) Az
 |dnew=>exact noF h
 |fld o f=>exact noF h
theorem snd:∀ n,Snd Z CL k n
 |0=>Za
 |n+1=>⟨lC (snd n),lD (snd n),gZ (snd n),gY (snd n),lR (snd n),lP (snd n),lB (snd n)⟩
end
section
variable{Z:Gam}{CL:ClA}{W:XW}{k n:Ae}{T:Tc}{X:Cx}
theorem bM{t:Ae}(v:VX Z CL k W T X)(hf:∀ x,X.fn x=Aa)(h:tgC T [t] [x]=Aa):PG X (.Name x pos) (GZ t):=by
 unfold tgC at h;simp only[Al,A7]at h;exact Mt (by rw[v.N];exact v.nd) (by rw[v.N];exact h.1.1) (by rw[v.sc];exact Ks h.1.2) (.inl (hf x))
theorem bN(v:VX Z CL k W T X)(hf:∀ x,X.fn x=Aa):∀(ys:Ac An)(ts:Ac Ae)(zs:Ac Ah),Hu ys=Ab zs->tgC T ts zs=Aa->PGs X ys (ts.foldr (λt u=>LF (GZ t) u) LU)/\ts.length=ys.length:=by
 intro ys
 induction ys with
 |nil=>
  intro ts zs e h;cases e;cases ts with
  |nil=>exact⟨dH,rfl⟩
  |cons t ts=>cases h
 |cons y r ih=>
  intro ts zs e h;obtain⟨x,p,ws,rfl,e2,rfl⟩:=PR e;cases ts with
  |nil=>cases h
  |cons t ts=>
   have h':(T.N[t]? == Ab x&&IP T x&&tgC T ts ws)=Aa:=h;simp only[Al,A7]at h';obtain⟨h1,h2⟩:=ih ts ws e2 h'.2;exact⟨ZF (Mt (by rw[v.N];exact v.nd) (by rw[v.N];exact h'.1.1) (by rw[v.sc];exact Ks h'.1.2) (.inl (hf x))) h1 (by rw[QU];rfl),congrArg (· + 1) h2⟩
theorem bL(v:VX Z CL k W T X)(hf:∀ x,X.fn x=Aa)(hn:(Hu ys).isSome=Aa)(h:tgC T ts (tgN ys)=Aa):PG X (.Tuple ys kk pos) (PD X.K ts.length (ts.foldr (λt u=>LF (GZ t) u) LU)):=by
 cases e:Hu ys with
 |none=>rw[e]at hn;cases hn
 |some zs=>
  have e2:tgN ys=zs:=by unfold tgN;rw[e];rfl
  rw[e2]at h;obtain⟨h1,h2⟩:=bN v hf ys ts zs e h;obtain⟨h3,h4,_⟩:=Xs (env:=X.env) ys zs e;exact jM v.calm h1 (by rw[h3,h2]) h4
theorem XQ(ts:Ac Ae):∀ d U x,Fe ts d U≠.exn x:=λd U x h=>by
 unfold Fe at h;cases d with
 |tup xs=>
  dsimp only at h;cases e:GX ts xs U with
  |some r=>rw[e]at h;cases h
  |none=>rw[e]at h;cases h
 |_=>cases h
theorem Y_4{elt:An}{gs:Ac IT}{l:Ae}:∃ b,Dh (.ListComp elt gs scope pos) (Ab (.Name x pos')) l env=pure b/\(b=Aa->env.scope.names.lookup x=Ab .local):=by
 refine⟨_,rfl,λh=>?_⟩
 simp only[Al,A7]at h;exact h.1.1.2
theorem OR{v0:An}{i:Ae}{e:E}(v:VX Z CL k W T X)(hf:∀ x,X.fn x=Aa)(hi:T.N[i]?=Ab x)(hl:IP T x=Aa)(o:OkE Z CL W X v0 e)(hfr:fr=Aa->BZ Z e=Aa):SAs X CL W fr i (.Assign [.Name x p] v0 pos) (λU=>evE Z U e):=by
 have hN:X.N.Nodup:=by rw[v.N];exact v.nd
 have hi':X.N[i]?=Ab x:=by rw[v.N];exact hi
 have hx:Loc X.env.scope x:=by rw[v.sc];exact Ks hl
 have sc:SC X CL W fr v0 (λU=>evE Z U e):=by
  cases fr with
  |false=>exact o.se.sc
  |true=>exact o.nw (hfr rfl)
 cases hc:JP v0 with
 |true=>exact SC.sas hN hi' hx sc (Ku hc) (.inl (hf x))
 |false=>
  obtain⟨tg,iter,elt,ifs,scope,pos2,N',ts,fi,fc,fe,as,g,rfl,B,h2,hGG,hg,ht,he,hs,ef⟩:=o.cp hc;obtain⟨b,hb,hb'⟩:=Y_4 (elt:=elt) (gs:=[⟨tg,iter,ifs,0⟩]) (scope:=scope) (pos:=pos2) (pos':=p) (x:=x) (l:=pos.line) (env:=X.env);cases b with
  |false=>exact SC.sas hN hi' hx sc hb (.inl (hf x))
  |true=>
   have q:=YJ (pos2:=pos) v.calm B h2 hGG hg ht he hs hN hi' (hb' rfl) hb;have q':SAs X CL W Aa i (.Assign [.Name x p] (.ListComp elt [⟨tg,iter,ifs,0⟩] scope pos2) pos) (λU=>evE Z U e):=by
    have:(λU=>evE Z U e)=_:=funext ef
    rw[this];exact q
   cases fr with
   |true=>exact q'
   | false=>exact λA=>PS.weak (q' A) λD Y H ⟨hA,U,gd,z⟩=>⟨hA,U,gd,by
     dsimp only at z ⊢;cases e0:evE Z U e with
     |ok d=>
      rw[e0]at z;exact λv' H' s' r'=>z v' H' s' ⟨r'.1,λ_=>r'.2 rfl⟩
     |exn y=>rw[e0]at z;exact z
     | bad=>rw[e0]at z;exact z⟩
theorem QS(U:Rho)(e:E)(h:∀ i,e≠.var i):evS Z U (.ret e)=O.of U (evE Z U e) λd=>.ret d (BZ Z e):=by
 have k:∀ b:Ai,b=Ad->top U e (evE Z U e)=evE Z U e->(O.of U (top U e (evE Z U e)) λd=>.ret d (BZ Z e||b))=O.of U (evE Z U e) λd=>.ret d (BZ Z e):=λb hb ht=>by
  rw[hb,ht];simp only[Eu]
 rw[cJ];cases e with
 |var i=>exact absurd rfl (h i)
 |_=>exact k _ rfl rfl
structure DefX (X:Cx):Prop where
 fn:∀ x,X.fn x=Aa
 ex:X.ex=[]
 st:X.stack=X.env::X.outer
 fm:X.env.frame=Ab X.env.locals
structure SndS (Z:Gam) (CL:ClA) (k:Ae) (n:Ae):Prop where
 s:∀(W:XW)(T:Tc)(X:Cx)(x:AZ)(c:S),VX Z CL k W T X->DefX X->LR n T x c=Aa->SS X CL W x (λU=>evS Z U c)
 ss:∀(W:XW)(T:Tc)(X:Cx)(x:Ac AZ)(c:Ss),VX Z CL k W T X->DefX X->chkSs n T x c=Aa->SSs X CL W x (λU=>evSs Z U c)
theorem dA(x y:D)(e:Ex):Hw x y≠.exn e:=by
 intro z;cases x with
 |lst xs=>cases y<;>first|exact Kh z|cases z
 |tup xs=>cases y<;>first|exact Kh z|cases z
 |str x=>
  cases y with
  |int i=>
   have z':(if BD x.length=Aa then CP (IL x) i else .bad)=.exn e:=z
   split at z'
   .exact Kh z'
   .cases z'
  |_=>cases z
 |dic kvs=>
  have z':(match (Jp y).bind (OX kvs) with|some d=>R.ok d|none=>.bad)=.exn e:=z
  cases h:(Jp y).bind (OX kvs) with
  |none=>rw[h]at z';cases z'
  |some k=>rw[h]at z';cases z'
 |_=>cases z
theorem RJ{i:Ae}{y:Ex}:Eb U i≠.exn y:=λz'=>by
 unfold Eb at z';split at z'<;>cases z'
theorem Md(Z:Gam)(U:Rho)(e:E)(h:Nh e=Aa)(y:Ex):top U e (evE Z U e)≠.exn y:=by
 cases e with
 |var i=>
  intro z;have z':Eb U i=.exn y:=z;unfold Eb at z';split at z'<;>cases z'
 |idx a b=>
  cases a with
  |var i=>
   cases b with
   |int j=>
    intro z;have z':(Eb U i).bind (λx=>Hw x (.int j))=.exn y:=z
    cases e1:Eb U i with
    |bad=>rw[e1]at z';cases z'
    |exn w=>exact RJ e1
    |ok d=>rw[e1]at z';exact dA _ _ _ z'
   |_=>exact noF h
  |_=>exact noF h
 |bin op a b=>
  have h:(Uw op&&PC a b)=Aa:=h;rw[Al]at h;obtain⟨h0,h⟩:=h;cases op with
  |Sub=>
   cases a with
   |var i=>
    cases b with
    |int j=>
     intro z;have z':(Eb U i).bind (λx=>CG .Sub x (.int j))=.exn y:=z
     cases e1:Eb U i with
     |bad=>rw[e1]at z';cases z'
     |exn w=>exact RJ e1
     |ok d=>rw[e1]at z';cases d<;>cases z'
    |_=>exact noF h
   |_=>exact noF h
  |_=>exact absurd (show Ad=Aa from h0) Az
 |int i=>intro z;cases z
 |bl i=>intro z;cases z
 |str i=>intro z;cases z
 |non=>intro z;cases z
 |_=>cases h
theorem NY(Z:Gam)(U:Rho):∀(es:Es),Jh es=Aa->∀ y,evB Z U es≠.exn y
 |.nil,_,y=>λz=>by cases z
 |.cons e es,h,y=>λz=>by
  unfold Jh at h;rw[Al]at h;rw[N9]at z;cases e1:top U e (evE Z U e) with
  |bad=>rw[e1]at z;cases z
  |exn w=>exact Md Z U e h.1 w e1
  |ok d=>
   rw[e1,R.bind_ok]at z;cases e2:evB Z U es with
   |bad=>rw[e2]at z;cases z
   |exn w=>exact NY Z U es h.2 w e2
   |ok ds=>rw[e2]at z;cases z
theorem VX.pw(v:VX Z CL k W T X)(own:Fb (model X.prog X.w) X.A X.env Xw):VX Z CL k W0 T (Cx.pw X pI Xw):=⟨v.sc,v.kd,v.N,v.nd,v.calm,v.room,v.bl,v.fn,own,Tu,Ux,v.xt,v.gl⟩
theorem Qk(o:O):(o.seq λU'=>O.next U')=o:=by cases o<;>rfl
theorem STB.congr{st:Ac AZ}{f g:Rho->O}(h:STB X CL st f)(e:∀ U,g U=f U):STB X CL st g:=by
 have:g=f:=funext e;rw[this];exact h
theorem Tf(Sn:Snd Z CL k n)(v:VX Z CL k W T X)(hf:DefX X){st:AZ}{s:S}(h:Mz n T st s=Aa):STB X CL [st] (λU=>evSs Z U (.cons s .nil))/\∀ U y U',evSs Z U (.cons s .nil)=.exn y U'->U'=U:=by
 have seq:∀ U,evSs Z U (.cons s .nil)=evS Z U s:=λU=>Qk _
 have ofn:∀{r:R D}{f:D->Rho}{U U':Rho}{y:Ex},(O.of U r λd=>O.next (f d))=.exn y U'->U'=U:=λ{r f U U' y} z=>by
  cases r with
  |ok d=>cases z
  |exn w=>cases z;rfl
  |bad=>cases z
 have call:∀{e:An}{f:Ae}{as:Es},Bm n T e (.call f as)=Aa->Jh as=Aa->∃ g pp y ys qq,e=.Call (.Name g pp) (y::ys) [] qq/\∃ p∈T.fns,g=p.1/\f=p.2.1/\p.2.2=ys.length+1/\ys.length<900/\glB T g=Aa/\G2 g=Aa/\∃ m,n=m+1/\chkEs m T (y::ys) as=Aa:=λ{e f as} h _=>by
  cases n with
  |zero=>exact noF h
  |succ m=>
   replace h:=L6 h;obtain⟨g,pp,y,ys,qq,rfl,h⟩:=h;simp only[Al,FS,A7,AQ]at h;obtain⟨⟨⟨⟨⟨p,hp,⟨e1,e2⟩,hl⟩,h900⟩,h1⟩,h2⟩,h3⟩:=h;exact⟨g,pp,y,ys,qq,rfl,p,hp,e1.symm,e2.symm,hl,h900,h1,h2,m,rfl,h3⟩
 cases s with
 |expr e0=>
  replace h:(KM e0 λf as=>KI st λv=>Bm n T v (.call f as)&&Jh as)=Aa:=h
  replace h:=Rc h;obtain⟨f,as,rfl,h⟩:=h;replace h:=Om h;obtain⟨v0,pos,rfl,h⟩:=h;rw[Al]at h;obtain⟨g,pp,y,ys,qq,rfl,p,hp,rfl,rfl,hl,h900,h1,h2,m,rfl,h3⟩:=call h.1 h.2;obtain⟨fa,fd,ps,m1,m2,m3,m4,m5,_⟩:=v.fn p hp;have hlt:p.2.2<1000:=by omega
  rw[Hl hlt]at m4 m5;have m5:=m5 hlt;obtain⟨n2,n3,n4⟩:=HN h2;obtain⟨s0,e,es',rfl,m',rfl,s1⟩:=Kj h3;have hlen:ys.length+1=(Es.cons e es').len:=(snd (Z:=Z) (CL:=CL) (k:=k) (m'+1)).es W T X _ _ v h3 |>.2.2.1;refine⟨STB.congr (Y_8 (X:=X) (fs:=λU=>evA Z U (.cons e es')) (sh:=λU=>HY U (.cons e es')) hf.ex m5 v.room (by unfold glB at h1;show X.env.scope.names.lookup p.1=_;rw[v.sc];exact eq_of_beq h1) m1 m2 m3 (λU z=>Mx Z U _ z) (λU ds z=>by rw[Mp Z U _ _ z,<-hlen,hl]) (λU=>NY Z U _ h.2) n2 (Cw s0) (Li m' ys es' s1) (λpI Xw own=>by
   obtain⟨a1,a2,_⟩:=(snd (Z:=Z) (CL:=CL) (k:=k) (m'+1)).es W0 T (Cx.pw X pI Xw) _ _ (v.pw own) h3;exact⟨a1,a2⟩) (Ku rfl)) λU=>seq U,λU y U' z=>?_⟩
  rw[seq]at z;exact ofn (f:=λ_=>U) z
 |asg i b0 e0=>
  replace h:(!b0&&(KM e0 λf as=>LJ st λy v=>T.N[i]? == Ab y&&IP T y&&Bm n T v (.call f as)&&Jh as))=Aa:=h
  replace h:=Cm h;obtain⟨hb,h⟩:=h;cases b0 with
  |true=>exact absurd (show Ad=Aa from hb) Az
  |false=>
  replace h:=Rc h;obtain⟨f,as,rfl,h⟩:=h;replace h:=N2 h;obtain⟨y0,p0,v0,pos,rfl,h⟩:=h;simp only[Al,A7]at h;obtain⟨⟨⟨i1,i2⟩,hc⟩,hsim⟩:=h;obtain⟨g,pp,y,ys,qq,rfl,p,hp,rfl,rfl,hl,h900,h1,h2,m,rfl,h3⟩:=call hc hsim;obtain⟨fa,fd,ps,m1,m2,m3,m4,m5,_⟩:=v.fn p hp;have hlt:p.2.2<1000:=by omega
  rw[Hl hlt]at m4 m5;have m5:=m5 hlt;obtain⟨n2,n3,n4⟩:=HN h2;obtain⟨s0,e,es',rfl,m',rfl,s1⟩:=Kj h3;have hlen:ys.length+1=(Es.cons e es').len:=(snd (Z:=Z) (CL:=CL) (k:=k) (m'+1)).es W T X _ _ v h3 |>.2.2.1;refine⟨STB.congr (bV (X:=X) (fs:=λU=>evA Z U (.cons e es')) (sh:=λU=>HY U (.cons e es')) (i:=i) hf.ex m5 v.room (by unfold glB at h1;show X.env.scope.names.lookup p.1=_;rw[v.sc];exact eq_of_beq h1) m1 m2 m3 (λU z=>Mx Z U _ z) (λU ds z=>by rw[Mp Z U _ _ z,<-hlen,hl]) (λU=>NY Z U _ hsim) n2 (Cw s0) (Li m' ys es' s1) (λpI Xw own=>by
   obtain⟨a1,a2,_⟩:=(snd (Z:=Z) (CL:=CL) (k:=k) (m'+1)).es W0 T (Cx.pw X pI Xw) _ _ (v.pw own) h3;exact⟨a1,a2⟩) (by rw[v.N];exact v.nd) (by rw[v.N];exact i1) (by rw[v.sc];exact Ks i2) (.inl (hf.fn _)) (Ku rfl)) λU=>seq U,λU y U' z=>?_⟩
  rw[seq]at z;exact ofn (f:=λd=>U.set i (Ab (d,Ad))) z
 |_=>exact noF h
theorem eT(op:Do)(x y:D)(e:Ex):BK op x y≠.exn e:=λz=>by
 rcases QZ op x y with w|⟨b,w⟩<;>(rw[w]at z;cases z)
theorem bE(x:D)(e:Ex):BU x≠.exn e:=by
 unfold BU;split<;>first|(intro z;cases z;done)|(split<;>intro z<;>cases z)
theorem Rw(Z:Gam)(U:Rho)(c:E)(h:PB c=Aa)(y:Ex):(top U c (evE Z U c)).bind BU≠.exn y:=by
 have key:∀ e,top U c (evE Z U c)≠.exn e:=by
  cases c with
  |var i=>exact Md Z U (.var i) rfl
  |cmp op a b=>
   unfold PB at h;rw[Al]at h;intro e z;have z':((top U a (evE Z U a)).bind λx=>(top U b (evE Z U b)).bind λy=>BK op x y)=.exn e:=by
    have e0:evE Z U (.cmp op a b)=((top U a (evE Z U a)).bind λx=>(top U b (evE Z U b)).bind λy=>BK op x y):=eM Z U op a b
    rw[<-e0];exact z
   cases e1:top U a (evE Z U a) with
   |bad=>rw[e1]at z';cases z'
   |exn w=>exact Md Z U a h.1 w e1
   |ok d=>
    rw[e1,R.bind_ok]at z';cases e2:top U b (evE Z U b) with
    |bad=>rw[e2]at z';cases z'
    |exn w=>exact Md Z U b h.2 w e2
    |ok d2=>rw[e2,R.bind_ok]at z';exact eT _ _ _ _ z'
  |_=>cases h
 intro z;cases e1:top U c (evE Z U c) with
 |bad=>rw[e1]at z;cases z
 |exn w=>exact key w e1
 |ok d=>rw[e1,R.bind_ok]at z;exact bE _ _ z
theorem lG(Sn:Snd Z CL k n)(v:VX Z CL k W T X)(hf:DefX X):∀(m:Ae){st:AZ}{s:S},MR m n T st s=Aa->STB X CL [st] (λU=>evSs Z U (.cons s .nil))/\∀ U y U',evSs Z U (.cons s .nil)=.exn y U'->U'=U:=by
 intro m
 induction m with
 |zero=>intro st s h;exact Tf Sn v hf h
 |succ m ih=>
  intro st s h;replace h:=orT (a:=Mz n T st s) (b:=S8 (MR m n T) n T st s) h;rcases h with h|h
  .exact Tf Sn v hf h
  .cases s with
   |ife c a b=>
    replace h:=Q8 h;obtain⟨a,rfl,h⟩:=h;replace h:=Q8 h;obtain⟨b,rfl,h⟩:=h;replace h:=RX h;obtain⟨t,xs,ys,pos,rfl,h⟩:=h;replace h:=FX h;obtain⟨xs,rfl,h⟩:=h;replace h:=FX h;obtain⟨ys,rfl,h⟩:=h;simp only[Al]at h;obtain⟨⟨⟨h1,h2⟩,h3⟩,h4⟩:=h;obtain⟨a1,a2⟩:=ih h3;obtain⟨b1,b2⟩:=ih h4;have ev:∀ U,evSs Z U (.cons (.ife c (.cons a .nil) (.cons b .nil)) .nil)=O.of U ((top U c (evE Z U c)).bind BU) λk=>if k=Aa then evSs Z U (.cons a .nil) else evSs Z U (.cons b .nil):=λU=>Qk _
    refine⟨STB.congr (bU (λpI Xw own=>(Sn.b W0 T (Cx.pw X pI Xw) _ _ (v.pw own) h1)) (λU y=>Rw Z U c h2 y) a1 b1) λU=>ev U,λU y U' z=>?_⟩
    rw[ev]at z;cases e1:(top U c (evE Z U c)).bind BU with
    |bad=>rw[e1]at z;cases z
    |exn w=>exact absurd e1 (Rw Z U c h2 w)
    |ok k=>
     rw[e1,O.of_ok]at z;cases k with
     |true=>exact a2 U y U' z
     |false=>exact b2 U y U' z
   |_=>exact noF h
theorem Ls{i:Ae}{e:Ak}(v:VX Z CL k W T X)(h:isV T x i=Aa):PE (Cx.hot X e) (.Name x pos) (IK i):=by
 unfold isV at h;simp only[Al,A7]at h;obtain⟨h2,h3,_⟩:=HN h.2;exact Ts (by show X.N[i]?=_;rw[v.N];exact h.1.1) (by show Vis X.env.scope x;rw[v.sc];exact RH h.1.2) h2 h3
theorem SQ{x:Ae}{t:An}{c:E}:∀{n:Ae},HU n T x t c=Aa->∀ U r,top U c r=r:=λ{n} h=>by
 cases n with
 |zero=>exact noF h
 |succ n=>
  cases c with
  |var i=>exact noF h
  |_=>exact λ_ _=>rfl
theorem Zl(v:VX Z CL k W T X)(e:Ak):∀(ts:Ac An)(ks:Ac Ki),Pl T ts ks=Aa->∃ cs:Ac (Ae×Ak),ks=cs.map (λq=>Ki.cls q.1)/\cs.length=ts.length/\PA (Cx.hot X e) ts (Ut (cs.map λq:Ae×Ak=>q.2))/\∀ q∈cs,Ly X.K CL Z.up q.1 q.2:=by
 intro ts
 induction ts with
 |nil=>
  intro ks h;obtain rfl:=HR h;exact⟨[],rfl,rfl,FY,λq hq=>nomatch hq⟩
 |cons t ts ih=>
  intro ks h;replace h:=IC h;obtain⟨kk,ks,rfl,h⟩:=h;replace h:=Go h;obtain⟨t,p,rfl,h⟩:=h;replace h:=Cm h;obtain⟨h,h4⟩:=h;cases kk with
  |cls c=>
   replace h:(inX T.exs t c&&glB T t&&G2 t)=Aa:=h;simp only[Al]at h;obtain⟨⟨h1,h2⟩,h3⟩:=h;obtain⟨cs,e1,e2,e3,e4⟩:=ih ks h4;obtain⟨C,m1,m3,_⟩:=v.xt.ex _ (LC h1);obtain⟨n2,_,_⟩:=HN h3;refine⟨(c,C)::cs,by rw[e1];rfl,by rw[AS,AS,e2],?_,λq hq=>?_⟩
   .exact El (RO (X:=Cx.hot X e) (v:=.ref C) (by unfold glB at h2;show X.env.scope.names.lookup t=_;rw[v.sc];exact eq_of_beq h2) m1 rfl n2) e3 rfl
   .rcases AI.mp hq with rfl|hq
    .exact m3
    .exact e4 q hq
  |_=>exact noF h
theorem MY{e:Ak}{f:An->E->Ai}(ih:∀ t c,f t c=Aa->SE (Cx.hot X e) CL W0 t (λU=>evE Z U c)):∀(xs:Ac An)(es:Es),LL f xs es=Aa->SA (Cx.hot X e) CL W0 xs (λU=>evA Z U es)/\xs.length=es.len
 |[],.nil,_=>⟨To,rfl⟩
 |[],.cons _ _,h=>nomatch (show Ad=Aa from h)
 |_::_,.nil,h=>nomatch (show Ad=Aa from h)
 |x::xs,.cons c es,h=>by
  have h:(Dz x&&f x c&&LL f xs es)=Aa:=h;simp only[Al]at h;obtain⟨⟨h1,h2⟩,h3⟩:=h;obtain⟨q,l⟩:=MY ih xs es h3;exact⟨Sb (ih x c h2) q (Cw h1),by rw[AS,l];rfl⟩
theorem TN(v:VX Z CL k W T X)(e:Ak)(x:Ae):∀(n:Ae)(t:An)(c:E),HU n T x t c=Aa->SE (Cx.hot X e) CL W0 t (λU=>evE Z U c):=by
 intro n
 induction n with
 |zero=>intro t c h;exact noF h
 |succ n ih=>
  intro t c h;cases c with
  |bl b=>
   replace h:=JG h;obtain⟨k,u,p,rfl,h⟩:=h;obtain rfl:=AW h;exact TJ
  |no a=>
   replace h:=Mw h;obtain⟨o,y,p,rfl,h⟩:=h;replace h:=Cm h;obtain⟨h0,h⟩:=h;obtain rfl:=AW h0;have q:=(ih _ _ h).st;refine SE.congr (Tj q) λU=>?_
   show ((top U a (evE Z U a)).bind λx=>(DX x).bind λb=>R.ok (D.bl (!b)))=_
   rw[SQ h]
  |and es=>
   cases es with
   |nil=>exact noF h
   |cons a as=>
    cases as with
    |nil=>
     replace h:=Ll h;obtain⟨o,l,p,rfl,h⟩:=h;replace h:=Cm h;obtain⟨h0,h⟩:=h;obtain rfl:=AW h0;replace h:=FX h;obtain⟨y,rfl,h⟩:=h;exact SE.congr (OP (ih _ _ h)) λU=>rfl
    |cons a' as=>
     replace h:=Ll h;obtain⟨o,l,p,rfl,h⟩:=h;replace h:=Cm h;obtain⟨h0,h⟩:=h;obtain rfl:=AW h0;replace h:=IC h;obtain⟨y,l,rfl,h⟩:=h;replace h:=IC h;obtain⟨z,zs,rfl,h⟩:=h;exact SE.congr (Tn (ih _ _ (Cm h).1) (ih _ _ (Cm h).2)) λU=>rfl
  |isi a ks=>
   replace h:=Oj h;obtain⟨i,rfl,h⟩:=h;replace h:=dZ h;obtain⟨g,pp,w,pq,u,pr,rfl,h⟩:=h;simp only[Al,A7]at h;obtain⟨⟨⟨⟨rfl,rfl⟩,h3⟩,h4⟩,h⟩:=h;obtain⟨g1,g2,_,_⟩:=IE v h3;replace h:=IC h;obtain⟨kk,ks,rfl,h⟩:=h;cases kk with
   |verr=>
    replace h:=Cm h;obtain⟨h0,h⟩:=h;obtain rfl:=HR h0;replace h:=Go h;obtain⟨t,pt,rfl,h⟩:=h;simp only[Al,A7]at h;obtain⟨h5,h6⟩:=h;obtain⟨b1,b2,_,_⟩:=IE v h6;rw[h5]at b1 b2 ⊢;exact fY (X:=Cx.hot X e) v.xt.xc g1 g2 b1 b2 (Kw (Ls v h4)) rfl
   |cls c=>
    cases ks with
    |nil=>
     replace h:=Go h;obtain⟨t,pt,rfl,h⟩:=h;simp only[Al]at h;obtain⟨⟨h5,h6⟩,h7⟩:=h;obtain⟨C,m1,m3,_⟩:=v.xt.ex _ (LC h5);obtain⟨n2,_,_⟩:=HN h7;exact gB (X:=Cx.hot X e) v.xt.xc g1 g2 (by unfold glB at h6;show X.env.scope.names.lookup _=_;rw[v.sc];exact eq_of_beq h6) m1 m3 n2 (Kw (Ls v h4)) rfl
    |cons k2 ks=>
     replace h:=Mg h;obtain⟨ts,z1,z2,rfl,h⟩:=h;replace h:=Cm h;obtain⟨h5,h6⟩:=h;obtain⟨cs,e1,e2,e3,e4⟩:=Zl v e _ _ h5;have hne:cs≠[]:=by rintro rfl;cases e1
     rw[e1];exact fZ (X:=Cx.hot X e) (W:=W0) (up:=Z.up) v.xt.xc g1 g2 e3 hne (by rw[e2];exact AW h6) e4 (Kw (Ls v h4)) rfl
   |_=>exact noF h
  |call f as=>exact absurd (show Ad=Aa from h) Az
  |str s=>
   replace h:=JG h;obtain⟨k,u,p,rfl,h⟩:=h;obtain rfl:=AW h;exact OO
  |lst es=>
   replace h:=Ol h;obtain⟨xs,p,rfl,h⟩:=h;simp only[Al,AQ]at h;obtain⟨q,ql⟩:=MY (ih) _ _ h.1;exact(OM q λU ds z=>by rw[JK Z U _ _ z,<-ql];omega).se
  |tup es=>
   replace h:=Mg h;obtain⟨xs,cc,p,rfl,h⟩:=h;simp only[Al,AQ]at h;obtain⟨q,ql⟩:=MY (ih) _ _ h.1;exact Ti q λU ds z=>by rw[JK Z U _ _ z,<-ql];omega
  |bin op a b=>
   replace h:=Cm h;obtain⟨h0,h⟩:=h;obtain rfl:=AW h0;replace h:=Oj h;obtain⟨i,rfl,h⟩:=h;replace h:=Re h;obtain⟨l,o,y,p,rfl,h⟩:=h;replace h:=Cm h;obtain⟨h0,h⟩:=h;obtain rfl:=AW h0;replace h:=Go h;obtain⟨w,pw,rfl,h⟩:=h;replace h:=Cm h;obtain⟨h1,h2⟩:=h;refine SE.congr (OQ (Oq .Add) (Kw (Ls v h1)) (ih _ _ h2).st) λU=>?_
   show ((Eb U i).bind λx=>(top U b (evE Z U b)).bind λy=>CG .Add x y)=_
   rw[SQ h2]
  |fld o f=>
   replace h:=Oj h;obtain⟨i,rfl,h⟩:=h;replace h:=N1 h;obtain⟨w,g,p,rfl,h⟩:=h;replace h:=Go h;obtain⟨w,pw,rfl,h⟩:=h;simp only[Al,A7]at h;obtain⟨⟨⟨rfl,rfl⟩,h3⟩,h4⟩:=h;exact aN (X:=Cx.hot X e) v.xt.xc (λc C z=>v.xt.nf c C z _ h3) (Kw (Ls v h4)) rfl
  |_=>exact noF h
theorem nM(v:VX Z CL k W T X)(hf:DefX X)(e:Ak)(x:Ae):∀(n:Ae)(sts:Ac AZ)(ss:Ss),Po n T x sts ss=Aa->SSs (Cx.hot X e) CL W0 sts (λU=>evSs Z U ss):=by
 intro n
 induction n with
 |zero=>intro t c h;exact noF h
 |succ n ih=>
  intro sts ss0 h;cases ss0 with
  |nil=>
   obtain rfl:=HR h;exact R8
  |cons s ss0=>
   replace h:=IC h;obtain⟨st,r,rfl,h⟩:=h;replace h:=Cm h;obtain⟨h,h5⟩:=h;cases s with
   |asg i b e0=>
    replace h:=N2 h;obtain⟨y,py,v0,pos,rfl,h⟩:=h;simp only[Al,A7]at h;obtain⟨⟨⟨⟨h1,h2⟩,h3⟩,h4⟩,h6⟩:=h;cases b with
    |true=>
     cases e0 with
     |lst es=>
      have sc:SC (Cx.hot X e) CL W0 Aa v0 (λU=>evE Z U (.lst es)):=by
       cases n with
       |zero=>exact absurd (show Ad=Aa from h4) Az
       |succ n=>
        replace h4:=Ol h4;obtain⟨l,pl,rfl,h4⟩:=h4;obtain⟨q,ql⟩:=MY (TN v e x n) _ _ (Cm h4).1;have hle:=AW (Cm h4).2;exact OM q λU ds z=>by rw[JK Z U _ _ z,<-ql];omega
      have q:=Og (R9 (SC.sas (X:=Cx.hot X e) (pos:=pos) (pos':=py) (by show X.N.Nodup;rw[v.N];exact v.nd) (by show X.N[i]?=_;rw[v.N];exact h1) (by show Loc X.env.scope _;rw[v.sc];exact Ks h2) sc (Ku h3) (.inl (hf.fn _)))) (ih _ _ h5)
      have ef:(λU=>evSs Z U (.cons (.asg i Aa (.lst es)) ss0))=λU=>(O.of U (evE Z U (.lst es)) λd=>setF U i d).seq λU=>evSs Z U ss0:=by
       funext U
       show (evS Z U (.asg i Aa (.lst es))).seq _=_;rw[Zh];rfl
      rw[ef];exact q
     |_=>exact absurd (show Ad=Aa from h6) Az
    |false=>
    exact Og (hV (X:=Cx.hot X e) (by show X.N.Nodup;rw[v.N];exact v.nd) (by show X.N[_]?=_;rw[v.N];exact h1) (by show Loc X.env.scope _;rw[v.sc];exact Ks h2) (TN v e x n _ _ h4) (Ku h3) (.inl (hf.fn _))) (ih _ _ h5)
   |ife c a b=>exact absurd (show Ad=Aa from h) Az
   |ret e0=>exact absurd (show Ad=Aa from h) Az
   |app i e0=>exact absurd (show Ad=Aa from h) Az
   |_=>exact noF h
theorem iD(v:VX Z CL k W T X)(h:hdB T g c=Aa):UO X CL Z.up g c:=by
 unfold hdB at h;simp only[Al]at h;obtain⟨⟨⟨i1,i0⟩,i2⟩,i3⟩:=h;obtain⟨C,m1,m3,m4⟩:=v.xt.ex _ (LC i1);obtain⟨C0,r1,r2⟩:=v.xt.rz _ (LC i0);obtain⟨n2,_,_⟩:=HN i3;refine⟨C,by unfold glB at i2;show X.env.scope.names.lookup g=_;rw[v.sc];exact eq_of_beq i2,m1,n2,?_,λc' D hD=>m4 c' D hD⟩
 have e0:=m1.symm.trans r2;cases e0;exact v.xt.xc _ _ r1
theorem lQ(Z_:SndS Z CL k n)(W:XW)(T:Tc)(X:Cx)(st:AZ)(c:S)(v:VX Z CL k W T X)(hf:DefX X)(h:LR (n+1) T st c=Aa):SS X CL W st (λU=>evS Z U c):=by
  have E:=snd (Z:=Z) (CL:=CL) (k:=k) n;cases c with
  |pass=>exact absurd (show Ad=Aa from h) Az
  |brk=>exact absurd (show Ad=Aa from h) Az
  |cont=>exact absurd (show Ad=Aa from h) Az
  |asg i fresh e=>
    replace h:=N2 h;obtain⟨x,px,v0,pos,rfl,h⟩:=h;simp only[Al,A7]at h;obtain⟨⟨h1,h2⟩,h3⟩:=h;have o:=E.e W T X _ e v h3;cases fresh with
    |false=>exact Th (OR (fr:=Ad) v hf.fn h1 h2 o (λz=>nomatch z))
    |true=>
      cases hn:BZ Z e with
      |true=>
        refine SS.ref (R9 (OR (fr:=Aa) v hf.fn h1 h2 o (λ_=>hn))) λU=>.inr ?_
        show O.of U (evE Z U e) (λd=>if Aa=Aa then (if BZ Z e=Aa then (match d with
          |.lst xs=>.next (U.set i (Ab (.lst xs,Aa)))
          |.dic xs=>.next (U.set i (Ab (.dic xs,Aa)))
          | _=>.bad) else .bad) else .next (U.set i (Ab (d,Ad))))=_
        rw[hn];rfl
      |false=>
        refine SS.ref (Th (OR (fr:=Ad) v hf.fn h1 h2 o (λz=>nomatch z))) λU=>?_
        have e0:evS Z U (.asg i Aa e)=O.of U (evE Z U e) (λd=>if Aa=Aa then (if BZ Z e=Aa then (match d with
          |.lst xs=>.next (U.set i (Ab (.lst xs,Aa)))
          |.dic xs=>.next (U.set i (Ab (.dic xs,Aa)))
          | _=>.bad) else .bad) else .next (U.set i (Ab (d,Ad)))):=rfl
        rw[e0,hn];cases evE Z U e with
        |ok d=>exact .inl rfl
        |exn y=>exact .inr rfl
        |bad=>exact .inl rfl
  |asgT ts e=>exact absurd (show Ad=Aa from h) Az
  |expr e=>
    replace h:=Om h;obtain⟨v0,pos,rfl,h⟩:=h;simp only[Al]at h;exact aD (E.e W T X _ e v h.2).se (Ku h.1)
  |ret e=>
    replace h:=ZM h;obtain⟨o,pos,rfl,h⟩:=h;cases o with
    |none=>exact noF h
    |some v0=>
    replace h:Bm n T v0 e=Aa:=h;have o:=E.e W T X _ e v h;cases hv:BZ Z e with
    |true=>
      refine SS.ref (aA (o.nw hv)) λU=>.inr ?_
      rw[QS U e (λi z=>by subst z;cases hv),hv]
    |false=>
      cases e with
      |var i=>
        cases n with
        |zero=>exact noF h
        |succ n=>
          replace h:=Go h;obtain⟨y,py,rfl,h⟩:=h;exact bX (Ky v h)
      |_=>
        refine SS.ref (bY o.se) λU=>.inr ?_
        rw[QS U _ (by intro i z;cases z),hv]
  |retN=>exact absurd (show Ad=Aa from h) Az
  |ife c a b=>
    replace h:=RX h;obtain⟨t,xs,ys,pos,rfl,h⟩:=h;simp only[Al]at h;exact lE (E.b W T X _ c v h.1.1) (Z_.ss W T X _ a v hf h.1.2) (Z_.ss W T X _ b v hf h.2)
  |fors t it body=>
    replace h:=Ra h;obtain⟨tg,it',xs,ys,pos,rfl,h⟩:=h;replace h:=Cm h;obtain⟨hn,h⟩:=h;obtain rfl:=HR hn;replace h:=Go h;obtain⟨y,py,rfl,h⟩:=h;simp only[Al]at h;obtain⟨⟨⟨h1,h2⟩,h3⟩,h4⟩:=h;exact Tg v.own v.calm (dC t) (bM v hf.fn h1) (E.i W T X Ad _ _ it v rfl h3) (Z_.ss W T X _ body v hf h4) (ON h2) (λ_ _ _ z=>nomatch z)
  |forT ts it body=>
    replace h:=Ra h;obtain⟨tg,it',xs,zs,pos,rfl,h⟩:=h;replace h:=Cm h;obtain⟨hn,h⟩:=h;obtain rfl:=HR hn;replace h:=Mg h;obtain⟨ys,cc,py,rfl,h⟩:=h;simp only[Al]at h;obtain⟨⟨⟨⟨h0,h1⟩,h2⟩,h3⟩,h4⟩:=h;exact Tg v.own v.calm (iE ts) (bL v hf.fn h0 h1) (E.i W T X Aa _ _ it v rfl h3) (Z_.ss W T X _ body v hf h4) (ON h2) (XQ ts)
  |whl c body=>exact absurd (show Ad=Aa from h) Az
  |rais c as=>
    replace h:(!(T.rzs.any λp=>p.2==c)||(M2 st λa b=>b.isNone&&(match a with|some e=>Lz e λg x xs=>inX T.rzs g c&&glB T g&&G2 g&&decide (xs.length<=1000)&&chkEs n T (x::xs) as|none=>Ad)))=Aa:=h
    cases hc:T.rzs.any (λp=>p.2==c) with
    |false=>
      have hb:∀ ds,Z.xn c ds=.bad:=v.xt.xb c λp hp z=>by
        have:T.rzs.any (λp=>p.2==c)=Aa:=List.any_eq_true.mpr ⟨p,hp,A7.mpr z⟩
        rw[hc]at this;cases this
      intro Fz B pI s Y H D I ⟨U,x,p⟩;have p':BW X.K CL Fz B W (O.of U (noX (evA Z U as)) λxs=>O.of U (Z.xn c xs) λx=>.exn x U) D:=p
      cases e1:evA Z U as with
      |bad=>rw[e1]at p';exact p'.elim
      |exn y=>rw[e1]at p';exact p'.elim
      |ok ds=>
        rw[e1]at p';have p2:BW X.K CL Fz B W (O.of U (Z.xn c ds) λx=>.exn x U) D:=p'
        rw[hb ds]at p2;exact p2.elim
    |true=>
      rw[hc,IS,Bool.false_or]at h;replace h:=ZN h;obtain⟨ea,eb,pos,rfl,h⟩:=h;replace h:=Cm h;obtain⟨h0,h⟩:=h;obtain rfl:=VB.mp h0;cases ea with
      |none=>exact noF h
      |some e0=>
        replace h:=L6 h;obtain⟨g,np,x,xs,cpos,rfl,h⟩:=h;simp only[Al,AQ]at h;obtain⟨⟨⟨⟨h1,h2⟩,h3⟩,h4⟩,h5⟩:=h;obtain⟨C,m1,m2⟩:=v.xt.rz _ (LC h1);obtain⟨n2,_,_⟩:=HN h3;obtain⟨s0,e,es',rfl,m,rfl,s1⟩:=Kj h5;have q:=E.es W T X _ _ v h5;exact Yz v.calm hf.ex v.room v.rz (by unfold glB at h2;show X.env.scope.names.lookup g=_;rw[v.sc];exact eq_of_beq h2) m2 n2 m1 q.1 (λds=>v.xt.made c C ds m1) (Cw s0) (Li m xs es' s1) (λU ds z=>by rw[JK Z U _ _ z,<-q.2.2.1,AS];omega)
  |app i e=>
    replace h:=Q9 h;obtain⟨x,px,m,ap,l,cp,pos,rfl,h2,h⟩:=h;replace h:=FX h;obtain⟨v0,rfl,h⟩:=h;simp only[Al,A7]at h;obtain⟨⟨⟨rfl,h1⟩,h3⟩,h4⟩:=h;exact iA (Ky v h1) (E.e W T X _ e v h4).se rfl (by rw[Cw h3];rfl) (by rw[h2];exact EU _) (Cw h3) rfl
  |ext i e=>
    replace h:=Q9 h;obtain⟨x,px,m,ap,l,cp,pos,rfl,h2,h⟩:=h;replace h:=FX h;obtain⟨v0,rfl,h⟩:=h;simp only[Al,A7]at h;rw[CY]at h;obtain⟨⟨⟨rfl,h1⟩,h3⟩,h5⟩:=h;rcases h5 with h5|h5
    · rw[Al]at h5;obtain⟨h5,h4⟩:=h5;by_cases hn:BZ Z e=Aa
      case neg=>
        have fe:(λU=>evS Z U (.ext i e))=λ_=>O.bad:=by
          funext U
          rw[OA,As hn]
        show SS X CL W _ (λU=>evS Z U (.ext i e))
        rw[fe];exact λFz B pI s Y H D I ⟨U,x,p⟩=>p.elim
      have fe:(λU=>evS Z U (.ext i e))=λU=>O.of U (Cj U i) λxs=>O.of U (evE Z U e) λd=>O.of U (Jl d) λys=>if BD (xs.length+ys.length)=Aa then .next (U.set i (Ab (.lst (xs++ys),Aa))) else .bad:=by
        funext U
        rw[OA,Aq hn]
      show SS X CL W _ (λU=>evS Z U (.ext i e))
      rw[fe];exact hZ (Ky v h1) ((E.e W T X _ e v h4).nw hn) rfl (by rw[Cw h3];rfl) (by rw[h2];exact EU _) (Cw h3) rfl
    · cases q:Nb e with
      |none=>rw[q]at h5;cases h5
      |some a=>
        rw[q]at h5;have eq:=ZX q;subst eq;have fe:(λU=>evS Z U (.ext i (.bi .list (.cons (.bin .Add a (.tup .nil)) .nil))))=λU=>O.of U (Cj U i) λxs=>O.of U (top U a (evE Z U a)) λx=>O.of U ((CG .Add x (.tup [])).bind λy=>biD .list [y]) λd=>O.of U (Jl d) λys=>if BD (xs.length+ys.length)=Aa then .next (U.set i (Ab (.lst (xs++ys),Aa))) else .bad:=funext λU=>by
          rw[OA,Aq (show BZ Z (.bi .list (.cons (.bin .Add a (.tup .nil)) .nil))=Aa from rfl)]
          have e2:evE Z U (.bi .list (.cons (.bin .Add a (.tup .nil)) .nil))=(top U a (evE Z U a)).bind λx=>(CG .Add x (.tup [])).bind λy=>biD .list [y]:=by
            simp only[SY,evB,eN,bI,bG,eK,evA,R.bind_ok,R.bind_assoc]
          rw[e2];cases Cj U i with
          |ok xs=>
            rw[O.of_ok,O.of_ok];cases top U a (evE Z U a)<;>rfl
          |exn z=>rfl
          |bad=>rfl
        show SS X CL W _ (λU=>evS Z U (.ext i (.bi .list (.cons (.bin .Add a (.tup .nil)) .nil))))
        rw[fe];exact aC (Ky v h1) (E.e W T X _ a v h5).st rfl (by rw[Cw h3];rfl) (by rw[h2];exact EU _) (Cw h3) rfl
  |rev i=>exact absurd (show Ad=Aa from h) Az
  |clr i=>exact absurd (show Ad=Aa from h) Az
  |put i k e=>exact absurd (show Ad=Aa from h) Az
  |tryx body c x hd=>
    cases body with
    |nil=>exact noF h
    |cons b bs=>
      cases bs with
      |cons=>exact noF h
      |nil=>
        unfold LR at h;dsimp only at h;cases q:Pt st with
        |none=>rw[q]at h;cases h
        |some t=>
          obtain⟨bt,hl,es⟩:=t;rw[q]at h;obtain⟨pos,rfl⟩:=bA q;cases hl with
          |nil=>exact noF h
          |cons h1 hl=>
            cases hl with
            |cons=>exact noF h
            |nil=>
              cases es with
              |cons=>exact noF h
              |nil=>
                dsimp only at h;cases q1:xHd h1 with
                |none=>rw[q1]at h;cases h
                |some t1=>
                  obtain⟨g,m,h0,hs⟩:=t1;obtain⟨p1,hp,rfl⟩:=eB q1;rw[q1]at h;simp only[Al,A7]at h;obtain⟨⟨⟨⟨i1,i4⟩,i5⟩,i6⟩,i7⟩:=h;obtain⟨t1,t2⟩:=lG E v hf 6 i6;refine SS.ref (hU (up:=Z.up) (c:=c) (i:=x) hf.ex hf.st hf.fm (by rw[v.N];exact v.nd) (by rw[v.N];exact i4) (by rw[v.sc];exact i5) (iD v i1) t1 t2 (λe=>nM v hf e x n _ _ i7)) λU=>.inr ?_
                  rw[ZC];unfold Ui;cases evSs Z U (.cons b .nil)<;>rfl
  |try2 body c x hd c' hd' els=>exact absurd (show Ad=Aa from h) Az
  |swp i k l=>exact absurd (show Ad=Aa from h) Az
  |apop j i e=>exact absurd (show Ad=Aa from h) Az
  |ins i k e=>exact absurd (show Ad=Aa from h) Az
  |dput=>exact noF h
  |dsd=>exact noF h
  |rel=>exact noF h
theorem Zn{c:Ss}(h:Nm c=Aa)(U:Rho):evSs Z U c=.bad:=by
 cases c with
 |nil=>cases h
 |cons s ss=>
  cases s with
  |expr e=>
   cases e with
   |bi b as=>
    cases as with
    |nil=>
     cases b with
     |len=>rfl
     |_=>exact noF h
    |cons=>cases b<;>exact noF h
   |_=>exact noF h
  |_=>exact noF h
theorem gX(Z_:SndS Z CL k n)(W:XW)(T:Tc)(X:Cx)(xs:Ac AZ)(c:Ss)(v:VX Z CL k W T X)(hf:DefX X)(h:chkSs (n+1) T xs c=Aa):SSs X CL W xs (λU=>evSs Z U c):=by
 by_cases hb:Nm c=Aa
 .exact λFz B pI s Y H D I ⟨U,x,p⟩=>by
   dsimp only at p;rw[Zn hb]at p;exact p.elim
 have hb:Nm c=Ad:=by simpa using hb
 cases c with
 |nil=>
  simp only[chkSs,hb,Eu,List.isEmpty_iff]at h;subst h;exact R8
 |cons s ss=>
  by_cases hr:∃ i,s=.rel i
  .obtain⟨i,rfl⟩:=hr;simp only[chkSs,hb,Eu]at h;exact bW i (Z_.ss W T X xs ss v hf h)
  .cases xs with
   |nil=>cases s<;>first|(simp[chkSs,hb]at h;done)|exact absurd ⟨_,rfl⟩ hr
   |cons st r=>
    have h':LR n T st s=Aa/\chkSs n T r ss=Aa:=by
     cases s<;>first|(simp only[chkSs,hb,Eu,Al]at h;exact h)|exact absurd ⟨_,rfl⟩ hr
    exact Og (Z_.s W T X st s v hf h'.1) (Z_.ss W T X r ss v hf h'.2)
theorem Pp:∀ n,SndS Z CL k n
 |0=>⟨λ_ _ _ _ _ _ _ h=>noF h,λ_ _ _ _ _ _ _ h=>noF h⟩
 |n+1=>⟨lQ (Pp n),gX (Pp n)⟩
end
theorem Lh{n:Ae}{ds:Ac D}{i:Ae}{o:Ai}(h:(Cb n ds)[i]?=Ab (Ab (d,o))):o=Ad/\ds[i]?=Ab d:=by
 unfold Cb at h;by_cases hi:i<ds.length
 .rw[Di (by simpa using hi),Cp]at h
  cases e:ds[i]? with
  |none=>rw[e]at h;cases h
  |some x=>rw[e]at h;cases h;exact⟨rfl,rfl⟩
 .rw[B0 (by simpa using Nat.le_of_not_lt hi),Vb]at h
  split at h<;>cases h
theorem Yy{N:Ac Ah}{vs:Ac V}{i:Ae}{v:V}(h:vs[i]?=Ab v):(L2.start N vs)[i]?=Ab (Ab v):=by
 unfold L2.start;have hi:=(A4.mp h).1;rw[Di (by simpa using hi),Cp,h]
 rfl
theorem Y_3{N:Ac Ah}{n:Ae}{vs:Ac V}{ds:Ac D}(hn:N.length=n)(hA:AOk H A)(r:Reps K CL H A vs ds):Sx K CL (λb o=>H b=Ab o) A (Cb n ds) (L2.start N vs) H:=by
 have own:∀ a,BL A (Cb n ds) (L2.start N vs) a->A a:=λa h=>by
  rcases h with h|⟨j,d,h,_⟩
  .exact h
  .exact absurd (Lh h).1 (by decide)
 have hlen:(Cb n ds).length=(L2.start N vs).length:=by
  unfold Cb L2.start;simp only[Be,AX,Vf,r.length,hn]
 refine⟨⟨λi d h=>?_,λi d h=>absurd (Lh h).1 (by decide),hlen⟩,λa h=>hA a (own a h),λj d a h _=>absurd (Lh h).1 (by decide),λi j d e a h _ _ _=>absurd (Lh h).1 (by decide),λb o h=>h,hlen⟩
 obtain⟨v,h1,h2⟩:=r.get (Lh h).2;exact⟨v,Yy h1,Rep.sub own _ h2⟩
structure FunX (K:Fg) (x qual:Ah) (st:AZ) (f:Ak) (fd:BQ):Prop where
 ex:∃(oc:Aj)(od:Am Ak)(dV kV doc pm:Aj)(an:Am Ak)(cdv ct:Aj)(osl:Ax (Am Aj)),
  fd=DP x qual (JL st) (HP st) (Gk st) dV kV doc pm an cdv ct/\K.lookup f=Ab ⟨oc,od,.func fd,osl⟩/\Fo K cdv qual=Aa
 kp:Co K (.ref f)=Aa
theorem T9{st:AZ}{f:Ak}(F:Fun K x qual st f fd):FunX K x qual st f fd:=by
 obtain⟨oc,od,kV,doc,pm,an,cdv,ct,osl,e,lk,hcd⟩:=F.ex;exact⟨⟨oc,od,.none,kV,doc,pm,an,cdv,ct,osl,e,lk,hcd⟩,F.kp⟩
def Np(K:Fg)(mg:Ah->Am Aj)(fns:Ac (Ah×Ae×Ae))(bl:Ac Ah)(rzs exs gls:Ac (Ah×Ae))(Pg:Prg)(fuel:Ae)(p:Ah×Ae×Ae):Prop:=∃ f fd ps qual st N,mg p.1=Ab (.ref f)/\FunX K p.1 qual st f fd/\G1 K fd ps []/\ps.length=p.2.2%1000/\IM fuel (F7 1000 p.2.2) fns bl rzs exs gls ps N st (Pg.defs p.2.1)=Aa
structure Tab (K:Fg) (mg:Ah->Am Aj) (CL:ClA) (fns:Ac (Ah×Ae×Ae)) (bl:Ac Ah) (rzs exs gls:Ac (Ah×Ae)) (Pg:Prg) (fuel:Ae):Prop where
 xt:XT Pg.up Pg.xn CL rzs exs K mg
 bln:∀ x,x∈bl->mg x=Af
 gl:∀ p∈gls,PQ K mg CL p.1 (Pg.G p.2)
 fn:∀ p∈fns,Np K mg fns bl rzs exs gls Pg fuel p
theorem kP(Pg:Prg)(n i:Ae):(gam Pg n).fr i=(Pg.defs i).fr:=by cases n<;>rfl
theorem iH(Pg:Prg)(n:Ae):(gam Pg n).up=Pg.up:=by cases n<;>rfl
theorem nO(Pg:Prg)(n:Ae):(gam Pg n).G=Pg.G:=by cases n<;>rfl
theorem iG(Pg:Prg)(n:Ae):(gam Pg n).xn=Pg.xn:=by cases n<;>rfl
section
variable{P:AM}{w:AY}{K:Fg}{mg:Ah->Am Aj}{base:AD}{CL:ClA}{fns:Ac (Ah×Ae×Ae)}{bl:Ac Ah}{rzs exs gls:Ac (Ah×Ae)}{Pg:Prg}{fuel:Ae}
def Lvl(P:AM)(w:AY)(K:Fg)(mg:Ah->Am Aj)(base:AD)(CL:ClA)(Pg:Prg)(n:Ae)(p:Ah×Ae×Ae):Prop:=∃ f fd ps,mg p.1=Ab (.ref f)/\Co K (.ref f)=Aa/\G1 K fd ps []/\ps.length=p.2.2%1000/\(p.2.2<1000->FnOk P w K mg base (CXR P w) n f fd ps (spD K CL (p.2.2%1000) ((gam Pg n).fr p.2.1) ((gam Pg n).F p.2.1)))/\(1000<=p.2.2->HotOk P w K mg base n f fd ps (spH K CL (p.2.2%1000) ((gam Pg n).fr p.2.1) ((gam Pg n).F p.2.1)))
theorem S6(t:Tab K mg CL fns bl rzs exs gls Pg fuel){n:Ae}(hlv:∀ q∈fns,Lvl P w K mg base CL Pg n q){st:AZ}{f:Ak}{ps N:Ac Ah}{m id:Ae}(h2:FunX K x qual st f fd)(h4:ps.length=m)(h5:IM fuel Ad fns bl rzs exs gls ps N st (Pg.defs id)=Aa):FnOk P w K mg base (CXR P w) (n+1) f fd ps (spD K CL m ((gam Pg (n+1)).fr id) ((gam Pg (n+1)).F id)):=by
  unfold IM at h5;simp only[Al,A7,BA,C8,CY,J8,ne_eq]at h5;obtain⟨⟨⟨⟨⟨⟨⟨⟨c1,c2⟩,c3⟩,c4⟩,c5⟩,c6⟩,c7⟩,c8⟩,c9⟩:=h5;obtain⟨oc,od,dV,kV,doc,pm,an,cdv,ct,osl,rfl,lk,hcd⟩:=h2.ex;refine Ue (N:=N) lk hcd ⟨c1,c2,c3,L7 c4,c5,c6,c7⟩ (λvs H Q E ⟨ds,A,z,_⟩=>z.trans h4.symm) λA outer s H vs Q E hr ⟨ds,B,hl,hA,hreps,hpost⟩=>?_
  have xt:XT (gam Pg n).up (gam Pg n).xn CL rzs exs K mg:=by rw[iH,iG];exact t.xt
  have gl:∀ p∈gls,PQ K mg CL p.1 ((gam Pg n).G p.2):=by rw[nO];exact t.gl
  have key:∀ W:XW,(∀ x cls dx H',W x H'->F2 K CL H' cls dx x->E cls dx H')->BW K CL (λb o=>H b=Ab o) B W (evSs (gam Pg n) (Cb (Pg.defs id).n ds) (Pg.defs id).body) {nx:=λ_ H'=>Q .non H',rt:=Q} ->
      ∃ t,PSs (GJ (CXR P w) P w K mg base N qual (Gk st) f cdv A outer s H E) (HP st) t/\t {nx:=λ_ H'=>Q .non H',rt:=Q} (start N vs) H:=λW hW hp=>by
    have v:VX (gam Pg n) CL n W ⟨Gk st,N,fns,bl,rzs,exs,gls⟩ (GJ (CXR P w) P w K mg base N qual (Gk st) f cdv A outer s H E):=⟨rfl,c1,rfl,L7 c4,rfl,hr,t.bln,hlv,ownR,oQ hW,rzR hW,xt,gl⟩;exact⟨_,(Pp fuel).ss W _ _ _ (Pg.defs id).body v ⟨λ_=>rfl,rfl,rfl,rfl⟩ c9 (λb o=>H b=Ab o) B,_,Y_3 c8 hA hreps,hp⟩
  have no:∀ x cls dx H',W0 x H'->F2 K CL H' cls dx x->E cls dx H':=λ_ _ _ _ z=>z.elim
  have e:(gam Pg (n+1)).F id ds=G4 Pg.xs ((evSs (gam Pg n) (Cb (Pg.defs id).n ds) (Pg.defs id).body).ans (Pg.defs id).fr):=rfl;rw[e,kP]at hpost;have cutO:∀ r:R D,(∀ x,r≠.exn x)->G4 Pg.xs r=r:=λr hr=>by
    cases Pg.xs<;>cases r<;>first|rfl|exact absurd rfl (hr _)
  cases eo:evSs (gam Pg n) (Cb (Pg.defs id).n ds) (Pg.defs id).body with
  |next U'=>
    refine key W0 no ?_;rw[eo]at hpost ⊢;cases ef:(Pg.defs id).fr with
    |true=>rw[ef]at hpost;rw[cutO _ (by intro x z;cases z)]at hpost;exact hpost.elim
    |false=>
      rw[ef]at hpost;rw[cutO _ (by intro x z;cases z)]at hpost
      exact λY' H' x'=>hpost .non H' (λb o z=>x'.same b o z) ⟨rfl,λz=>nomatch z⟩
  |ret d b=>
    refine key W0 no ?_;rw[eo]at hpost ⊢;intro v H' sm rp fr;have hp2:(match G4 Pg.xs (if ((Pg.defs id).fr&&(!b&&isL d))=Aa then R.bad else R.ok d) with
      |.ok d=>∀ v H',AG H H'->DY K CL (Pg.defs id).fr H B H' v d->Q v H'
      |.exn x=>∀ cls dx H',AG H H'->F2 K CL H' cls dx x->E cls dx H'
      | .bad=>A5):=hpost
    cases ec:((Pg.defs id).fr&&(!b&&isL d)) with
    |true=>rw[ec,Aq rfl,cutO _ (by intro x z;cases z)]at hp2;exact hp2.elim
    |false=>
      rw[ec,As (by decide),cutO _ (by intro x z;cases z)]at hp2
      refine hp2 v H' sm ⟨rp,λefr es hd=>?_⟩
      subst hd;have eb:b=Aa:=by
        cases b with
        |true=>rfl
        |false=>rw[efr]at ec;cases ec
      obtain⟨a,xs,h1,h2,h3,h4⟩:=fr eb es rfl;refine⟨a,xs,h1,?_,h3,h4⟩;cases ha:H a with
      |none=>rfl
      |some o=>exact absurd ha (h2 o)
  |brk U'=>rw[eo]at hpost;have hp2:(match G4 Pg.xs (R.bad:R D) with | .ok _=>_ | .exn _=>_ | .bad=>A5):=hpost;rw[cutO _ (by intro x z;cases z)]at hp2;exact hp2.elim
  |cont U'=>rw[eo]at hpost;have hp2:(match G4 Pg.xs (R.bad:R D) with | .ok _=>_ | .exn _=>_ | .bad=>A5):=hpost;rw[cutO _ (by intro x z;cases z)]at hp2;exact hp2.elim
  |bad=>rw[eo]at hpost;have hp2:(match G4 Pg.xs (R.bad:R D) with | .ok _=>_ | .exn _=>_ | .bad=>A5):=hpost;rw[cutO _ (by intro x z;cases z)]at hp2;exact hp2.elim
  |exn x U'=>
    rw[eo]at hpost;have hp2:(match G4 Pg.xs (R.exn x:R D) with
      |.ok d=>∀ v H',AG H H'->DY K CL (Pg.defs id).fr H B H' v d->Q v H'
      |.exn x=>∀ cls dx H',AG H H'->F2 K CL H' cls dx x->E cls dx H'
      | .bad=>A5):=hpost
    cases ex:Pg.xs with
    |false=>rw[ex]at hp2;exact hp2.elim
    |true=>
      rw[ex]at hp2;have hp3:∀ cls dx H',AG H H'->F2 K CL H' cls dx x->E cls dx H':=hp2;refine key (λy H'=>y=x/\AG H H') (λy cls dx H' ⟨e1,sm⟩ xr=>?_) ?_
      · subst e1;exact hp3 cls dx H' sm xr
      · rw[eo];exact λH' sm=>⟨rfl,sm⟩
theorem iB(t:Tab K mg CL fns bl rzs exs gls Pg fuel){n:Ae}(hlv:∀ q∈fns,Lvl P w K mg base CL Pg n q){st:AZ}{f:Ak}{ps N:Ac Ah}{m id:Ae}(h2:FunX K x qual st f fd)(h4:ps.length=m)(h5:IM fuel Aa fns bl rzs exs gls ps N st (Pg.defs id)=Aa):HotOk P w K mg base (n+1) f fd ps (spH K CL m ((gam Pg (n+1)).fr id) ((gam Pg (n+1)).F id)):=by
 exfalso
 unfold IM at h5;simp at h5
theorem OH(t:Tab K mg CL fns bl rzs exs gls Pg fuel):∀ n,∀ p∈fns,Lvl P w K mg base CL Pg n p
 |0,p,hp=>by
  obtain⟨f,fd,ps,qual,st,N,h1,h2,h3,h4,h5⟩:=t.fn p hp;exact⟨f,fd,ps,h1,h2.kp,h3,h4,λ_=>⟨λvs H Q E ⟨ds,A,_,_,_,z⟩=>z.elim,λA outer s H args us vs Q E _ _ _ _ ⟨ds,A,_,_,_,z⟩=>z.elim⟩,λ_=>⟨λvs H Q E ⟨ds,A,_,_,_,z⟩=>z.elim,λA ev outer s H args us vs Q E _ _ _ _ ⟨ds,A,_,_,_,z⟩=>z.elim⟩⟩
 |n+1,p,hp=>by
  obtain⟨f,fd,ps,qual,st,N,h1,h2,h3,h4,h5⟩:=t.fn p hp;refine⟨f,fd,ps,h1,h2.kp,h3,h4,λhlt=>?_,λhge=>?_⟩
  .have eb:F7 1000 p.2.2=Ad:=by
    cases e:F7 1000 p.2.2 with
    |false=>rfl
    |true=>exact absurd (F8 e) (by omega)
   rw[eb]at h5;exact S6 t (λq hq=>OH t n q hq) h2 h4 h5
  .rw[Nat.ble_eq_true_of_le hge]at h5;exact iB t (λq hq=>OH t n q hq) h2 h4 h5
theorem kZ{s s':Ap}{e:Aj}(h:CXR P w [] H s (λ_ _ _=>A5) e s'):A5:=by
 obtain⟨_,_,_,_,_,_,_,_,_,_,_,_,_,_,_,z⟩:=h;exact z
theorem nS(h:∀ ds,xn c ds=.bad\/xn c ds=.ok ⟨c,[]⟩)(e:Ea K C Af=Aa)(ds:Ac D):xn c ds=.bad\/(xn c ds=.ok ⟨c,[]⟩/\Ea K C Af=Aa)\/A5:=(h ds).imp id λz=>.inl ⟨z,e⟩
theorem nQ(dc:Hv K C=Aa)(h1:Bf K (.ref C) "triple" = Ab Af)(h2:Bf K (.ref C) "points" = Ab Af)(f:Ah)(h:(f==("triple" : Ah)||f==("points" : Ah))=Aa):Hv K C=Aa/\Bf K (.ref C) f=Ab Af:=by
 rw[CY]at h;rcases h with h|h
 .rw[eq_of_beq h];exact⟨dc,h1⟩
 .rw[eq_of_beq h];exact⟨dc,h2⟩
structure XA (K:Fg) (c:Ah) (x:Ak) (i:Am Aj):Prop where
 n:Bv K Bc c=Ab (Ab (.ref x))
 y:Ea K x i=Aa
 dc:Hv K x=Aa
 ft:Bf K (.ref x) "triple" = Ab Af
 fp:Bf K (.ref x) "points" = Ab Af
 ok:XcOk K x
theorem xcls_l{x:Ak}(e:IV K x [.type "ValueError",.type "Exception",.type "BaseException",.type "object"] "ValueError.__new__" = Aa):Ea K x Af=Aa:=aY e
theorem xa_mk{c:Ah}{x:Ak}{i:Am Aj}(n:Bv K Bc c=Ab (Ab (.ref x)))(e:Ea K x i=Aa)(dc:Hv K x=Aa)(ft:Bf K (.ref x) "triple" = Ab Af)(fp:Bf K (.ref x) "points" = Ab Af)(ga:Bf K (.ref x) "__getattribute__" = Ab (Ab (.builtin "BaseException.__getattribute__")))(gt:Bf K (.ref x) "__getattr__" = Ab Af)(cl:Bf K (.ref x) "__class__" = Ab (Ab (.builtin "object.__class__")))(ob:CI K x (.type "object")=Ab Aa)(be:BB K (.ref x) (.type "BaseException")=Ab Aa)(sv:BB K (.ref x) (.type "ValueError")=Ab Aa):XA K c x i:=⟨n,e,dc,ft,fp,lT e ga gt cl ob be sv⟩
structure XE (K:Fg) (c:Ah) (x:Ak):Prop where
 n:Bv K Bc c=Ab (Ab (.ref x))
 cs:CI K x (.type "object")=Ab Aa
 ty:Fp K (.ref x)=Ab (.type "type")
def SuC(K:Fg)(C:Ak)(l:Ac (Ak×Ai)):Prop:=∀ q∈l,BB K (.ref q.1) (.ref C)=Ab q.2
def KC(K:Fg)(C:Ak):Prop:=∀ x i v,Ea K x i=Aa->BB K (.ref x) (.ref C)=Ab v->CO K (.ref x) (.ref C)=Ab v
theorem XA.kc{c:Ah}{x:Ak}{i:Am Aj}(a:XA K c x i):KC K x:=λ_ _ _ y s=>cU y a.y s
theorem XE.kc{c:Ah}{x:Ak}(a:XE K c x):KC K x:=λ_ _ _ y s=>Zu y a.cs a.ty s
noncomputable def clL:Ac (Ae×Ak)->Ae->Am Ak
 |[],_=>Af
 |p::r,c=>if Nat.beq c p.1=Aa then Ab p.2 else clL r c
theorem Lw:∀{l:Ac (Ae×Ak)},clL l c=Ab C->(c,C)∈l:=by
 intro l
 induction l with
 |nil=>intro q;cases q
 |cons p r ih=>
  intro q;obtain⟨n,x⟩:=p;by_cases e:Nat.beq c n=Aa
  .cases Nat.eq_of_beq_eq_true e;cases (show Ab x=Ab C from (Aq e).symm.trans q)
   exact AN
  .exact AC _ (ih ((As e).symm.trans q))
structure XR (K:Fg) (mg:Ah->Am Aj) (xn:Ae->Ac D->R Ex) (p:Ae×Ak):Prop where
 ok:XcOk K p.2
 nf:∀ f:Ah,(f==("triple" : Ah)||f==("points" : Ah))=Aa->Hv K p.2=Aa/\Bf K (.ref p.2) f=Ab Af
 md:∀ ds,xn p.1 ds=.bad\/(xn p.1 ds=.ok ⟨p.1,[]⟩/\Ea K p.2 Af=Aa)\/A5
theorem XA.row{c:Ah}{x:Ak}(a:XA K c x Af)(h:∀ ds,xn k ds=.bad\/xn k ds=.ok ⟨k,[]⟩):XR K mg xn (k,x):=⟨a.ok,nQ a.dc a.ft a.fp,nS h a.y⟩
theorem lS{l:Ac (Ae×Ak)}{rzs exs:Ac (Ah×Ae)}(r:∀ p∈l,XR K mg xn p)(rz:∀ p∈rzs,∃ C,clL l p.2=Ab C/\mg p.1=Ab (.ref C))(ex:∀ p∈exs,∃ C,mg p.1=Ab (.ref C)/\KC K C/\SuC K C (l.map λq=>(q.2,(up q.1).contains p.2)))(xb:∀ c,(∀ p∈rzs,p.2≠c)->∀ ds,xn c ds=.bad):XT up xn (clL l) rzs exs K mg:=by
 refine⟨λc C q=>(r _ (Lw q)).ok,rz,λp hp=>?_,λc C ds q=>(r _ (Lw q)).md ds,λc C q=>(r _ (Lw q)).nf,xb⟩
 obtain⟨C,e,kc,su⟩:=ex p hp;have s:∀ c D,clL l c=Ab D->BB K (.ref D) (.ref C)=Ab ((up c).contains p.2):=λc D q=>su _ (List.mem_map_of_mem (f:=λq:Ae×Ak=>(q.2,(up q.1).contains p.2)) (Lw q))
 exact⟨C,e,λc D q=>let ⟨_,y⟩:=(r _ (Lw q)).ok.exc;kc _ _ _ y (s c D q),s⟩
def MV(K:Fg):Sp:=λvs H Q _=>∃(a:Ak)(ns:Ac Ag),vs=[.ref a]/\ns.length<=63/\SqL K H a (ns.map V.int)/\∀ v H',v=V.bl Aa->Q v H'
theorem law_fn{f:Ak}{F:Ac D->R D}(G:FnOk P w K mg base CX k f fd ps (spD K CL 1 Ad F))(h:∀ ns:Ac Ag,F [.lst (ns.map .int)]=.ok (.bl Aa)):FnOk P w K mg base CX k f fd ps (MV K):=G.imp λvs H Q E ⟨a,ns,e,hl,hS,q⟩=>by
 subst e;have rs:∀ l:Ac Ag,Reps K CL H A0 (l.map V.int) (l.map D.int):=λl=>by
  induction l with
  |nil=>trivial
  |cons x l ih=>exact⟨rfl,ih⟩
 refine⟨[.lst (ns.map .int)],A0,rfl,λ_ z=>z.elim,⟨⟨a,_,rfl,.inl (λz=>z),hS,rs ns⟩,trivial⟩,?_⟩
 rw[h ns];exact λv H' _ r=>q v H' r.1
theorem all_nil{Q:α->Prop}:∀ x∈([]:Ac α),Q x:=λ_ h=>nomatch h
theorem all_cons{Q:α->Prop}{a:α}{l:Ac α}(h1:Q a)(h2:∀ x∈l,Q x):∀ x∈a::l,Q x:=List.forall_mem_cons.2 ⟨h1,h2⟩
def FnI(K:Fg)(f:Ak)(n:Ah)(st:AZ):Prop:=∃ fd,Fun K n n st f fd/\Bv K Bc n=Ab (Ab (.ref f))
theorem fni{n:Ah}{st:AZ}{f:Ak}{oc:Aj}{od an:Am Ak}{osl:Ax (Am Aj)}{kV doc pm cdv ct:Aj}(a:Bv K Bc n=Ab (Ab (.ref f)))(l:K.lookup f=Ab ⟨oc,od,.func (DP n n (JL st) (HP st) (Gk st) .none kV doc pm an cdv ct),osl⟩)(c:Fo K cdv n=Aa)(k:Co K (.ref f)=Aa):FnI K f n st:=⟨_,kQ l c k,a⟩
def Bd(n:Ah)(st:AZ)(ps:Ac Ah)(us:Ac Aj):Prop:=∀(kV doc pm:Aj)(an:Am Ak)(cdv ct:Aj),K7 (DP n n (JL st) (HP st) (Gk st) .none kV doc pm an cdv ct) ⟨us,[]⟩=pure (ps.zip us)
theorem Tp{n:Ah}{f:Ak}{st:AZ}{ps N:Ac Ah}(m id:Ae)(X:K.In h)(G:h.Ns Bc mg)(A:FnI K f n st)(hl:ps.length=m%1000)(hc:IM fuel (F7 1000 m) fns bl rzs exs gls ps N st (Pg.defs id)=Aa)(hb:∀ us:Ac Aj,us.length=ps.length->Bd n st ps us):Np K mg fns bl rzs exs gls Pg fuel (n,id,m):=by
 obtain⟨fd,F,a⟩:=A;exact⟨_,_,_,_,_,_,Dx X G a,T9 F,F.binds λkV doc pm an cdv ct us hu=>hb us hu kV doc pm an cdv ct,hl,hc⟩
theorem Ur{l:Ac α}(h:l.length=0):l=[]:=List.eq_nil_of_length_eq_zero h
theorem PF{l:Ac α}{n:Ae}(h:l.length=n+1):∃ a r,l=a::r/\r.length=n:=by
 cases l with
 |nil=>cases h
 |cons a r=>exact⟨a,r,rfl,Nat.succ.inj h⟩
theorem Py{n:Ah}{f:Ak}{st:AZ}{N:Ac Ah}(m id:Ae)(X:K.In h)(G:h.Ns Bc mg)(A:FnI K f n st)(hl:1=m%1000)(hc:IM fuel (F7 1000 m) fns bl rzs exs gls [x0] N st (Pg.defs id)=Aa)(hb:∀ u0,Bd n st [x0] [u0]):Np K mg fns bl rzs exs gls Pg fuel (n,id,m):=
 Tp (ps:=[x0]) m id X G A hl hc λus hu=>by obtain⟨u0,v0,rfl,h0⟩:=PF hu;obtain rfl:=Ur h0;exact hb u0
theorem F5{n:Ah}{f:Ak}{st:AZ}{N:Ac Ah}{x1:Ah}(m id:Ae)(X:K.In h)(G:h.Ns Bc mg)(A:FnI K f n st)(hl:2=m%1000)(hc:IM fuel (F7 1000 m) fns bl rzs exs gls [x0,x1] N st (Pg.defs id)=Aa)(hb:∀ u0 u1,Bd n st [x0,x1] [u0,u1]):Np K mg fns bl rzs exs gls Pg fuel (n,id,m):=
 Tp (ps:=[x0,x1]) m id X G A hl hc λus hu=>by obtain⟨u0,v0,rfl,h0⟩:=PF hu;obtain⟨u1,v1,rfl,h1⟩:=PF h0;obtain rfl:=Ur h1;exact hb u0 u1
end
end Ov
namespace OvC
open PySem Ov
variable{p l y m L:Ag}{xs:Ac Ag}{Z:Gam}{G Z_ X RW A:Ac D}{s2 s4 s5 s3:Sl}{c:Ae}{t x:Ah}
noncomputable abbrev tr(a b c:Ag):D:=.tup [.int a,.int b,.int c]
noncomputable def det(a0 a1 a2 b0 b1 b2 c0 c1 c2:Ag):Ag:=a0*(b1*c2-b2*c1)-a1*(b0*c2-b2*c0)+a2*(b0*c1-b1*c0)
def Sm(x:Ag):Prop:=0<=x/\x<11
theorem rng3:Dt 0 3=[.int 0,.int 1,.int 2]:=rfl
theorem Sm.of(h:P4 p)(x:Ag):Sm (x%p):=⟨CZ _ (by have:=h.pos;omega),by have:=Cz x h.pos;have:=h.hi;omega⟩
theorem Qp{body:D->Rho->O}(I:Rho->Prop)(g:Ag->Ai):∀(L:Ac Ag),(∀ t∈L,∀ U,I U->(g t=Aa/\body (.int t) U=.ret (.int t) Ad)\/(g t=Ad/\∃ U',body (.int t) U=.next U'/\I U'))->∀ U,I U->(∃ t∈L,g t=Aa/\BN body (L.map D.int) U=.ret (.int t) Ad)\/((∀ t∈L,g t=Ad)/\∃ U',BN body (L.map D.int) U=.next U'/\I U')
 |[],_,U,i=>.inr ⟨(λ_ h=>nomatch h),U,rfl,i⟩
 |m::L,h,U,i=>by
  rcases h m (AN ..) U i with ⟨e1,e2⟩|⟨e1,U',e2,i'⟩
  .refine .inl ⟨m,AN ..,e1,?_⟩;show (body (.int m) U).turn _=_;rw[e2];rfl
  .rcases Qp I g L (λm' h'=>h m' (AC _ h')) U' i' with ⟨t,ht,a,b⟩|⟨a,r,b,c⟩
   .refine .inl ⟨t,AC _ ht,a,?_⟩;show (body (.int m) U).turn _=_;rw[e2];exact b
   .refine .inr ⟨λt ht=>?_,r,?_,c⟩
    .rcases AI.mp ht with rfl|ht
     .exact e1
     .exact a t ht
    .show (body (.int m) U).turn _=_;rw[e2];exact b
noncomputable def Ka:Ss:=(.cons (.ife (.cmp .Eq (.call 1 (.cons (.var 0) (.cons (.bin .Mult (.var 1) (.var 2)) .nil))) (.int 1)) (.cons (.ret (.var 2)) .nil) .nil) .nil)
noncomputable def LW:Df:=⟨3,Ad,(.cons (.fors 2 (.rng2 (.int 1) (.var 0)) Ka) (.cons (.rais 2 (.cons (.str (AV "a number with the rest 0 is not turned over")) .nil)) .nil))⟩
noncomputable def Gw(p:Ag):Ac Ag:=(A8 (p-1).toNat).map fun(k:Ae)=>1+(k:Ag)
theorem Kd{t:Ag}:t∈Gw p↔1<=t/\t<p:=by
 unfold Gw;rw[List.mem_map];constructor
 .rintro⟨k,hk,rfl⟩;have:=DC.mp hk;omega
 .rintro⟨h1,h2⟩;exact⟨(t-1).toNat,DC.mpr (by omega),by omega⟩
theorem RA(h:P4 p):Dj 1 p=.ok ((Gw p).map D.int):=by
 rcases h with rfl|rfl|rfl|rfl<;>rfl
theorem cZ:∀ p:Fin 12,(p.val=3\/p.val=5\/p.val=7\/p.val=11)->∀ r:Fin 12,r.val<p.val->r.val≠0->∃ t:Fin 12,1<=t.val/\t.val<p.val/\r.val*t.val%p.val=1:=by decide+kernel
theorem SL{p n:Ag}(h:P4 p)(hn:n%p≠0):∃ t,1<=t/\t<p/\n*t%p=1:=by
 have p0:0<p/\p<12:=by rcases h with rfl|rfl|rfl|rfl<;>decide
 obtain⟨q,rfl⟩:∃ q:Ae,p=q:=⟨p.toNat,by omega⟩
 have h0:=CZ n (b:=(q:Ag)) (by omega)
 have h1:=Cz n p0.1;obtain⟨r,hr⟩:∃ r:Ae,n%(q:Ag)=r:=⟨(n%(q:Ag)).toNat,by omega⟩
 obtain⟨t,t1,t2,t3⟩:=cZ ⟨q,by omega⟩ (by rcases h with e|e|e|e<;>simp<;>omega) ⟨r,by omega⟩ (by show r<q;omega) (by show r≠0;omega)
 refine⟨(t.val:Ag),by omega,by show (t.val:Ag)<q;exact Int.ofNat_lt.mpr t2,?_⟩
 have e:((r*t.val%q:Ae):Ag)=1:=by rw[show r*t.val%q=1 from t3];rfl
 rw[<-e,Int.natCast_emod,Int.natCast_mul,<-hr];exact(DL n _ _).trans (by rw[DL (n%(q:Ag)) (t.val:Ag) (q:Ag),CM n (EI _)])
def HX(p n t:Ag):Prop:=1<=t/\t<p/\n*t%p=1
theorem QN{p n t u:Ag}(h1:HX p n t)(h2:HX p n u):t=u:=by
 have hp:1<p:=by have:=h1.1;have:=h1.2.1;omega
 have e:t%p=u%p:=by
  have a:t%p=t*(n*u)%p:=by rw[DL,h2.2.2,U_0,CM _ (EI p)]
  have b:u%p=(n*t)*u%p:=by rw[DL (n*t) u p,h1.2.2,Ju,CM _ (EI p)]
  rw[a,b]
  congr 1
  rw[<-UZ,Ga t n]
 rw[Fx (by have:=h1.1;omega) h1.2.1,Fx (by have:=h2.1;omega) h2.2.1]at e
 exact e
theorem Tv{c x:Ag}(hp:P4 p)(hc:c%p≠0)(hx:x%p≠0):c*x%p≠0:=λz=>by
 obtain⟨t,_,_,e⟩:=SL hp hc;refine hx ?_;have e1:x%p=(c*t)*x%p:=by rw[DL (c*t) x p,e,Ju,CM _ (EI p)]
 rw[e1,show c*t*x=t*(c*x) by rw[Ga c t,UZ],DL,z,U_1,U_4]
noncomputable def Dk(p:Ag):Ac Ag->Am Ag
 |[]=>Af
 |x::xs=>if x%p=0 then Dk p xs else Ab (x%p)
theorem QL{p:Ag}:∀{xs:Ac Ag},Dk p xs=Af↔∀ x∈xs,x%p=0
 |[]=>by simp[Dk]
 |x::xs=>by
  unfold Dk;by_cases h:x%p=0
  .rw[Aq h,QL (xs:=xs)];simp[h]
  .rw[As h];simp[h]
theorem Lf{p l:Ag}(hp:0<p):∀{xs:Ac Ag},Dk p xs=Ab l->l%p≠0/\0<l/\l<p
 |[],h=>by cases h
 |x::xs,h=>by
  unfold Dk at h;by_cases hx:x%p=0
  .rw[Aq hx]at h;exact Lf hp h
  .rw[As hx]at h;cases h;have h0:=CZ x (b:=p) (by omega)
   have h1:=Cz x hp;exact⟨by rw[CM _ (EI p)];exact hx,by omega,h1⟩
theorem Rk{p c:Ag}(hp:P4 p)(hc:c%p≠0){f:Ag->Ag}(hf:∀ x,f x%p=c*x%p):∀ xs:Ac Ag,Dk p (xs.map f)=(Dk p xs).map λl=>c*l%p
 |[]=>rfl
 |x::xs=>by
  rw[BP];unfold Dk;rw[hf x];by_cases hx:x%p=0
  .rw[Aq hx,Aq (by rw[DL,hx,U_1,U_4]),Rk hp hc hf xs]
  .rw[As hx,As (Tv hp hc hx),Option.map_some]
   congr 1
   rw[DL c (x%p),CM _ (EI p),<-DL]
noncomputable def ds(xs:Ac Ag):Ac D:=xs.map D.int
noncomputable def ET(b:Ai)(xs:Ac Ag):D:=if b=Aa then .tup (ds xs) else .lst (ds xs)
theorem XS(b xs):DW (ET b xs)=.ok (ds xs):=by unfold ET;cases b<;>rfl
theorem Lg{g:D->R Ai}{f:D->R D}{φ:Ag->Ag}:∀(xs:Ac Ag),(∀ x∈xs,g (.int x)=.ok Aa/\f (.int x)=.ok (.int (φ x)))->Ch g f (ds xs)=.ok (ds (xs.map φ))
 |[],_=>rfl
 |x::xs,h=>by
  obtain⟨h1,h2⟩:=h x (AN ..);show (g (.int x)).bind _=_;rw[h1,R.bind_ok,Aq rfl,h2,R.bind_ok];show (Ch g f (ds xs)).bind _=_;rw[Lg xs λy hy=>h y (AC _ hy)]
  rfl
noncomputable def FD:E:=(.bl Aa)
noncomputable def Nw:E:=(.call 1 (.cons (.var 0) (.cons (.var 5) .nil)))
noncomputable def Nv:E:=(.call 1 (.cons (.var 0) (.cons (.bin .Mult (.var 4) (.var 6)) .nil)))
noncomputable def Hs:Ss:=(.cons (.ife (.cmp .NotEq (.var 3) (.int 0)) (.cons (.asg 4 Ad (.call 9 (.cons (.var 0) (.cons (.var 3) .nil)))) (.cons (.ret (.bi .tuple (.cons (.comp Nv 6 (.e (.var 2)) FD) .nil))) .nil)) .nil) .nil)
noncomputable def Mb:Df:=⟨7,Ad,(.cons (.asg 2 Ad (.comp Nw 5 (.e (.var 1)) FD)) (.cons (.fors 3 (.e (.var 2)) Hs) (.cons (.rais 3 (.cons (.str (AV "all the numbers have the rest 0")) .nil)) .nil)))⟩
noncomputable def fmI(p t:Ag)(xs:Ac Ag):Ac Ag:=xs.map λx=>t*(x%p)%p
section
variable{Z:Gam}{p:Ag}{xs:Ac Ag}{b:Ai}
end
noncomputable def ND:E:=(.bin .Mod (.var 5) (.var 1))
noncomputable def Nz:E:=(.cmp .Gt (.var 6) (.int 0))
noncomputable def NC:E:=(.var 6)
noncomputable def Ny:E:=(.cmp .Eq (.bin .Mod (.bin .Mult (.var 7) (.idx (.var 3) (.int 0))) (.var 1)) (.int 1))
noncomputable def NB:E:=(.var 7)
noncomputable def NA:E:=(.bin .Mod (.bin .Mult (.var 8) (.var 4)) (.var 1))
noncomputable def Lk:Df:=⟨9,Ad,(.cons (.asg 2 Ad (.comp ND 5 (.e (.var 0)) FD)) (.cons (.asg 3 Ad (.comp NC 6 (.e (.var 2)) Nz)) (.cons (.ife (.cmp .Eq (.bi .len (.cons (.var 3) .nil)) (.int 0)) (.cons (.ret .non) .nil) .nil) (.cons (.asg 4 Ad (.idx (.comp NB 7 (.rng2 (.int 1) (.var 1)) Ny) (.int 0))) (.cons (.ret (.bi .tuple (.cons (.comp NA 8 (.e (.var 2)) FD) .nil))) .nil)))))⟩
theorem NJ{g:D->R Ai}{f:D->R D}{q:Ag->Ai}:∀(xs:Ac Ag),(∀ x∈xs,g (.int x)=.ok (q x)/\f (.int x)=.ok (.int x))->Ch g f (ds xs)=.ok (ds (xs.filter q))
 |[],_=>rfl
 |x::xs,h=>by
  obtain⟨h1,h2⟩:=h x (AN ..);have ih:=NJ xs λy hy=>h y (AC _ hy)
  show (g (.int x)).bind _=_;rw[h1,R.bind_ok];cases hq:q x with
  |true=>
   rw[Aq rfl,h2,R.bind_ok,Hh,hq,Aq rfl];show (Ch g f (ds xs)).bind _=_;rw[ih];rfl
  |false=>
   rw[As (by decide),Hh,hq,As (by decide)]
   exact ih
theorem Qh{p:Ag}(hp:0<p):∀(xs:Ac Ag),((xs.map λx=>x%p).filter λr=>decide (0<r)).head?=Dk p xs
 |[]=>rfl
 |x::xs=>by
  have h0:=CZ x (b:=p) (by omega)
  unfold Dk;rw[BP,Hh];by_cases h:x%p=0
  .rw[Aq h,As (by simp[h]),Qh hp xs]
  .rw[As h,Aq (by simp;omega)]
   rfl
theorem Yk{t:Ag}(it:HX p l t):((Gw p).filter λk=>decide (k*l%p=1)).head?=Ab t:=by
 have hm:t∈(Gw p).filter λk=>decide (k*l%p=1):=Gc.mpr ⟨Kd.mpr ⟨it.1,it.2.1⟩,by simp[Ga t l,it.2.2]⟩
 cases e:(Gw p).filter λk=>decide (k*l%p=1) with
 |nil=>rw[e]at hm;cases hm
 |cons u us=>
  have hu:u∈(Gw p).filter λk=>decide (k*l%p=1):=by rw[e];exact AN ..
  obtain⟨h1,h2⟩:=Gc.mp hu;obtain⟨a,b⟩:=Kd.mp h1;have h3:u*l%p=1:=by simpa using h2
  rw[QN it ⟨a,b,by rw[Ga];exact h3⟩]
  rfl
theorem QQ(h:xs.head?=Ab l):CP (ds xs) 0=.ok (.int l):=by
 cases xs with
 |nil=>cases h
 |cons x xs=>cases h;exact JI (by omega) rfl
noncomputable abbrev own(xs:Ac Ag):Sl:=Ab (.lst (ds xs),Aa)
section
variable{Z:Gam}{ns:Ac Ag}{a1 a2 a4 a6 a7 a8 a9 b0 b1 b2 b3 b4:Sl}{p:Ag}
end
section
variable{Z:Gam}{ns:Ac Ag}{a1 a4 a6 a7 a8 a9 b2 b3 b4:Sl}{p m:Ag}{xs:Ac Ag}
end
def Cg(p x y:Ag):Prop:=x%p=y%p
section
variable{p a b c d:Ag}
theorem Cg.of(h:a=b):Cg p a b:=by unfold Cg;rw[h]
end
theorem P4.m1(h:P4 p):(-1:Ag)%p≠0:=by rcases h with rfl|rfl|rfl|rfl<;>decide
theorem P4.o1(h:P4 p):(1:Ag)%p≠0:=by rcases h with rfl|rfl|rfl|rfl<;>decide
abbrev R3:=Ag×Ag×Ag
variable{a q:R3}
noncomputable def Px(a:R3):D:=.lst [.int a.1,.int a.2.1,.int a.2.2]
noncomputable def LV(a b c:R3):Ag:=det a.1 a.2.1 a.2.2 b.1 b.2.1 b.2.2 c.1 c.2.1 c.2.2
def In3(p:Ag)(a:R3):Prop:=(0<=a.1/\a.1<p)/\(0<=a.2.1/\a.2.1<p)/\(0<=a.2.2/\a.2.2<p)
structure GoodR (p:Ag) (a b c:R3):Prop where
 p4:P4 p
 ia:In3 p a
 ib:In3 p b
 ic:In3 p c
 nz:LV a b c%p≠0
theorem GoodR.of{k:Ag}{b c a' b' c':R3}(h:GoodR p a b c)(hk:k%p≠0)(e:Cg p (LV a' b' c') (k*LV a b c))(hin:In3 p a'/\In3 p b'/\In3 p c'):GoodR p a' b' c':=⟨h.p4,hin.1,hin.2.1,hin.2.2,by rw[show LV a' b' c'%p=_ from e];exact Tv h.p4 hk h.nz⟩
noncomputable abbrev ownR(a b c:R3):Sl:=Ab (.lst [Px a,Px b,Px c],Aa)
section
variable{Z:Gam}{ns:Ac Ag}{at_ many s5 s0 s1 s2:Sl}{p t m:Ag}{a b c:R3}
end
section
variable{Z:Gam}{ns:Ac Ag}{many s5 s6 s7 s8 s9 s0 s1 s2:Sl}{p:Ag}{a b c:R3}
end
def Bd(n:Ae)(x:Ag):Prop:=x.natAbs<2 ^ n
def B3(a:R3):Prop:=Bd 300 a.1/\Bd 300 a.2.1/\Bd 300 a.2.2
noncomputable def Cd(q:Ai)(a:R3):D:=ET q [a.1,a.2.1,a.2.2]
section
variable{Z:Gam}{ns:Ac Ag}{p t:Ag}{a b c r:R3}{made s6 s7:Sl}
end
section
variable{Z:Gam}{ns:Ac Ag}{p m:Ag}{a b c:R3}{fa fb fc:R3}{q:Ai}{s9 s0 s1 s2:Sl}
end
def NX(Z:Gam):Prop:=∀ p n:Ag,P4 p->n%p≠0->∃ t,1<=t/\t<p/\n*t%p=1/\Z.F 9 [.int p,.int n]=.ok (.int t)
def OE(Z:Gam):Prop:=∀(p:Ag)(b:Ai)(xs:Ac Ag)(l t:Ag),P4 p->Dk p xs=Ab l->HX p l t->Z.F 17 [.int p,ET b xs]=.ok (.tup (ds (fmI p t xs)))
theorem YE(hr:MM Z)(p n:Ag)(hp:P4 p)(z:n%p≠0):∃ t,1<=t/\t<p/\n*t%p=1/\LW.run Z [.int p,.int n]=.ok (.int t):=by
 have p0:=hp.pos;have ph:=hp.hi;have body:∀ t∈Gw p,∀ U,(∃ s,U=[si p,si n,s])->(decide (n*t%p=1)=Aa/\Bw Z 2 Ka (.int t) U=.ret (.int t) Ad)\/(decide (n*t%p=1)=Ad/\∃ U',Bw Z 2 Ka (.int t) U=.next U'/\∃ s,U'=[si p,si n,s]):=by
  rintro t ht U ⟨s,rfl⟩;obtain⟨t1,t2⟩:=Kd.mp ht;have m:FG n t=Aa:=R5 (by omega) (by omega)
  by_cases e:n*t%p=1
  .exact .inl ⟨by simp[e],by simp[Bw,Ka,hr p (n*t) p0,m,e,BZ]⟩
  .exact .inr ⟨by simp[e],_,by simp[Bw,Ka,hr p (n*t) p0,m,e];rfl,_,rfl⟩
 have run:∀ o,BN (Bw Z 2 Ka) ((Gw p).map D.int) [si p,si n,Af]=o->LW.run Z [.int p,.int n]=(F3 Z (.cons (.rais 2 (.cons (.str (AV "a number with the rest 0 is not turned over")) .nil)) .nil) o).ans Ad:=by
  rintro o rfl;simp[LW,Df.run,Cb,RA hp]
 rcases Qp (λU=>∃ s,U=[si p,si n,s]) (λt=>decide (n*t%p=1)) (Gw p) body [si p,si n,Af] ⟨_,rfl⟩ with ⟨t,ht,a,b⟩|⟨a,r,b,s,rfl⟩
 .obtain⟨t1,t2⟩:=Kd.mp ht;have a':n*t%p=1:=by simpa using a
  exact⟨t,t1,t2,a',by rw[run _ b];rfl⟩
 .obtain⟨t,t1,t2,e⟩:=SL hp z;have:=a t (Kd.mpr ⟨t1,t2⟩);simp[e]at this
section
variable{Z:Gam}{p:Ag}{xs:Ac Ag}{b:Ai}
theorem Rh(hr:MM Z)(ht:NX Z)(hp:P4 p)(rs:Ac Ag):∀(ys:Ac Ag),(∀ y∈ys,0<=y/\y<p)->∀ s3,(Dk p ys=Af->∃ s3',BN (Bw Z 3 Hs) (ds ys) [si p,sh (ET b xs),sh (.lst (ds rs)),s3,Af,Af,Af]=.next [si p,sh (ET b xs),sh (.lst (ds rs)),s3',Af,Af,Af])/\(∀ l t,Dk p ys=Ab l->HX p l t->BN (Bw Z 3 Hs) (ds ys) [si p,sh (ET b xs),sh (.lst (ds rs)),s3,Af,Af,Af]=.ret (.tup (ds (rs.map λr=>t*r%p))) Ad)
 |[],_,s3=>⟨λ_=>⟨s3,rfl⟩,(λl t h=>nomatch h)⟩
 |y::ys,hy,s3=>by
  obtain⟨y0,y1⟩:=hy y (AN ..);have ym:y%p=y:=Fx y0 y1;have ih:=Rh hr ht hp rs ys (λz hz=>hy z (AC _ hz)) (si y)
  have step:∀ o,Bw Z 3 Hs (.int y) [si p,sh (ET b xs),sh (.lst (ds rs)),s3,Af,Af,Af]=o->BN (Bw Z 3 Hs) (ds (y::ys)) [si p,sh (ET b xs),sh (.lst (ds rs)),s3,Af,Af,Af]=o.turn (BN (Bw Z 3 Hs) (ds ys)):=by
   rintro o rfl;rfl
  unfold Dk;rw[ym];by_cases hz:y=0
  .have e:Bw Z 3 Hs (.int y) [si p,sh (ET b xs),sh (.lst (ds rs)),s3,Af,Af,Af]=.next [si p,sh (ET b xs),sh (.lst (ds rs)),si y,Af,Af,Af]:=by
    simp[Bw,Hs,hz]
   rw[Aq hz,step _ e];exact ih
  .rw[As hz];refine⟨(λz=>nomatch z),λl t e it=>?_⟩
   cases e;obtain⟨u,u1,u2,u3,u4⟩:=ht p y hp (by rw[ym];exact hz)
   have:t=u:=QN it ⟨u1,u2,u3⟩;subst this;have p0:=hp.pos;have ph:=hp.hi;have cp:Ch (cG Z [si p,sh (ET b xs),sh (.lst (ds rs)),si y,si t,Af,Af] 6 FD) (cF Z [si p,sh (ET b xs),sh (.lst (ds rs)),si y,si t,Af,Af] 6 Nv) (ds rs)=.ok (ds (rs.map λr=>t*r%p)):=by
    refine Lg rs λr _=>⟨rfl,?_⟩
    have m:FG t r=Aa:=Ot (by omega) (by omega)
    simp[cF,Nv,m,hr p (t*r) p0]
   have e:Bw Z 3 Hs (.int y) [si p,sh (ET b xs),sh (.lst (ds rs)),s3,Af,Af,Af]=.ret (.tup (ds (rs.map λr=>t*r%p))) Ad:=by
    simp[Bw,Hs,hz,u4,cp,BZ]
   rw[step _ e];rfl
theorem ZZ(hr:MM Z)(ht:NX Z)(hp:P4 p){t:Ag}(e:Dk p xs=Ab l)(it:HX p l t):Mb.run Z [.int p,ET b xs]=.ok (.tup (ds (fmI p t xs))):=by
 have p0:=hp.pos;have cp:Ch (cG Z [si p,sh (ET b xs),Af,Af,Af,Af,Af] 5 FD) (cF Z [si p,sh (ET b xs),Af,Af,Af,Af,Af] 5 Nw) (ds xs)=.ok (ds (xs.map λx=>x%p)):=by
  refine Lg xs λx _=>⟨rfl,?_⟩
  simp[cF,Nw,hr p x p0]
 have run:∀ o,BN (Bw Z 3 Hs) (ds (xs.map λx=>x%p)) [si p,sh (ET b xs),sh (.lst (ds (xs.map λx=>x%p))),Af,Af,Af,Af]=o->Mb.run Z [.int p,ET b xs]=(F3 Z (.cons (.rais 3 (.cons (.str (AV "all the numbers have the rest 0")) .nil)) .nil) o).ans Ad:=by
  rintro o rfl;simp[Mb,Df.run,Cb,XS,cp]
 have le:Dk p (xs.map λx=>x%p)=Dk p xs:=by
  have:=Rk (c:=1) hp (by rcases hp with rfl|rfl|rfl|rfl<;>decide) (f:=λx=>x%p) (λx=>by rw[Ju,CM _ (EI p)]) xs
  rw[this];cases e:Dk p xs with
  |none=>rfl
  |some l=>
   obtain⟨_,l0,l1⟩:=Lf p0 e;simp[Fx (Int.le_of_lt l0) l1]
 obtain⟨a,c⟩:=Rh (b:=b) (xs:=xs) hr ht hp (xs.map λx=>x%p) (xs.map λx=>x%p) (λy hy=>by
  obtain⟨x,_,rfl⟩:=E7.mp hy;exact⟨CZ _ (by omega),Cz _ p0⟩) Af
 rw[le]at a c;rw[run _ (c l t e it)];simp[fmI,Dl,UY]
end
theorem Bd.mono{m n:Ae}{x:Ag}(h:Bd m x)(hm:m<=n):Bd n x:=AO h (Nat.pow_le_pow_right (by decide) hm)
def Bn(n:Ae)(a:R3):Prop:=Bd n a.1/\Bd n a.2.1/\Bd n a.2.2
theorem Bn.b3{n:Ae}(h:Bn n a)(hn:n<=300):B3 a:=⟨h.1.mono hn,h.2.1.mono hn,h.2.2.mono hn⟩
noncomputable def pX(k:Ag)(a:R3):R3:=(k*a.1,k*a.2.1,k*a.2.2)
noncomputable def fk0(p:Ag)(a b c d:R3):Ag:=LV d b c%p
noncomputable def fs0(p:Ag)(a b c d:R3):R3:=pX (fk0 p a b c d) a
noncomputable def LY:E:=(.call 17 (.cons (.var 0) (.cons (.tup (.cons (.var 3) (.cons (.var 2) (.cons (.int 1) .nil)))) .nil)))
noncomputable def La:Ss:=(.cons (.app 1 (.comp LY 3 (.rng (.var 0)) FD)) .nil)
noncomputable def LX:E:=(.tup (.cons (.int 1) (.cons (.var 4) (.cons (.int 0) .nil))))
noncomputable def LZ:Df:=⟨5,Ad,(.cons (.asg 1 Aa (.lst .nil)) (.cons (.fors 2 (.rng3 (.bin .Sub (.var 0) (.int 1)) (.un .USub (.int 1)) (.un .USub (.int 1))) La) (.cons (.app 1 (.bin .Add (.comp LX 4 (.rng (.var 0)) FD) (.lst (.cons (.tup (.cons (.int 0) (.cons (.int 1) (.cons (.int 0) .nil)))) .nil)))) (.cons (.ret (.var 1)) .nil))))⟩
noncomputable def JA:Ss:=(.cons (.ife (.cmp .Eq (.var 3) (.str (AV "#"))) (.cons (.app 2 (.var 4)) .nil) (.cons (.ife (.cmp .NotEq (.var 3) (.str (AV "."))) (.cons (.rais 16 (.cons (.str (AV "a sign that is not drawn")) .nil)) .nil) .nil) .nil)) .nil)
noncomputable def Lj:Df:=⟨5,Aa,(.cons (.ife (.cmp .NotEq (.bi .len (.cons (.var 0) .nil)) (.bi .len (.cons (.var 1) .nil))) (.cons (.rais 16 (.cons (.str (AV "a text of another length")) .nil)) .nil) .nil) (.cons (.asg 2 Aa (.lst .nil)) (.cons (.forT [3,4] (.zip (.var 0) (.var 1)) JA) (.cons (.ret (.var 2)) .nil))))⟩
noncomputable def ID:Ss:=(.cons (.ext 3 (.call 312 (.cons (.var 4) (.cons (.var 5) .nil)))) .nil)
noncomputable def Jf:Df:=⟨6,Aa,(.cons (.asg 2 Ad (.call 309 (.cons (.var 0) .nil))) (.cons (.ife (.cmp .NotEq (.bi .len (.cons (.var 1) .nil)) (.bi .len (.cons (.var 2) .nil))) (.cons (.rais 16 (.cons (.str (AV "texts too many or few")) .nil)) .nil) .nil) (.cons (.asg 3 Aa (.lst .nil)) (.cons (.forT [4,5] (.zip (.var 1) (.var 2)) ID) (.cons (.ret (.bi .sorted (.cons (.var 3) .nil))) .nil)))))⟩
noncomputable def hsh:Ah:=⟨#[35]⟩
noncomputable def dot:Ah:=⟨#[46]⟩
theorem IG:AV "#" = hsh:=by kernel_rfl
theorem OW:AV "." = dot:=by kernel_rfl
noncomputable def sg(c:Ae):Ah:=⟨#[c]⟩
theorem OZ(c d:Ae):(sg c==sg d)=decide (c=d):=by
 by_cases h:c=d
 .rw[DH h,h];simp
 .rw[Bu h];have:sg c≠sg d:=λe=>h (by
   have:=congrArg Str.cps e;simpa [sg] using this)
  simpa using this
theorem FJ{n:Ae}(h:n<=1000):BD n=Aa:=Nat.ble_eq.mpr (by omega)
noncomputable def rw3(l:Ac R3):Ac D:=l.map (Cd Aa)
noncomputable def CV:Ac Ae->Ac R3->Ac R3
 |c::cs,a::as=>if c=35 then a::CV cs as else CV cs as
 |_,_=>[]
theorem Oy:∀(cs:Ac Ae)(as:Ac R3),(CV cs as).length<=as.length
 |[],as=>by simp[CV]
 |c::cs,[]=>by simp[CV]
 |c::cs,a::as=>by
  have:=Oy cs as;rw[CV];split
  .rw[AS,AS];omega
  .rw[AS];omega
noncomputable def okS(c:Ae):Ai:=decide (c=35)||decide (c=46)
noncomputable def exP:Ex:=⟨16,[]⟩
section
variable{Z:Gam}
theorem N4(hx:∀ es,Z.xn 16 es=.ok exP)(X L:D):∀(cs:Ac Ae)(as acc:Ac R3)(s3 s4:Sl),cs.length=as.length->acc.length+as.length<=900->(cs.all okS=Aa->∃ s3' s4',BN (FH Z [3,4] JA) (DG (cs.map λc=>D.str (sg c)) (rw3 as)) [sh X,sh L,Ab (.lst (rw3 acc),Aa),s3,s4]=.next [sh X,sh L,Ab (.lst (rw3 (acc++CV cs as)),Aa),s3',s4'])/\(cs.all okS=Ad->∃ U,BN (FH Z [3,4] JA) (DG (cs.map λc=>D.str (sg c)) (rw3 as)) [sh X,sh L,Ab (.lst (rw3 acc),Aa),s3,s4]=.exn exP U)
 |[],[],acc,s3,s4,_,_=>⟨λ_=>⟨s3,s4,by simp[CV,rw3,DG,BN]⟩,λh=>by simp at h⟩
 |[],_::_,_,_,_,h,_=>by cases h
 |_::_,[],_,_,_,h,_=>by cases h
 |c::cs,a::as,acc,s3,s4,hl,hz=>by
  rw[AS,AS]at hl;rw[AS]at hz;have hl:cs.length=as.length:=by omega
  have e1:(sg c==hsh)=decide (c=35):=OZ c 35;have e2:(sg c==dot)=decide (c=46):=OZ c 46;have z:BD ((rw3 acc).length+1)=Aa:=FJ (by rw[rw3,AX];omega)
  have hz':DG ((c::cs).map λc=>D.str (sg c)) (rw3 (a::as))=.tup [.str (sg c),Cd Aa a]::DG (cs.map λc=>D.str (sg c)) (rw3 as):=rfl
  have hd:∀(b:D->Rho->O)(x:D)(xs:Ac D)(U:Rho),BN b (x::xs) U=(b x U).turn (BN b xs):=λ_ _ _ _=>rfl
  rw[hz',hd];have ha:rw3 acc++[Cd Aa a]=rw3 (acc++[a]):=by simp[rw3]
  have step:FH Z [3,4] JA (.tup [.str (sg c),Cd Aa a]) [sh X,sh L,Ab (.lst (rw3 acc),Aa),s3,s4]=if c=35 then .next [sh X,sh L,Ab (.lst (rw3 (acc++[a])),Aa),sh (.str (sg c)),sh (Cd Aa a)] else if c=46 then .next [sh X,sh L,Ab (.lst (rw3 acc),Aa),sh (.str (sg c)),sh (Cd Aa a)] else .exn exP [sh X,sh L,Ab (.lst (rw3 acc),Aa),sh (.str (sg c)),sh (Cd Aa a)]:=by
   rw[<-ha];generalize Cd Aa a=Q at *;generalize rw3 acc=Y_ at *;generalize sg c=S at *;by_cases c1:c=35
   .simp[FH,JA,IG,OW,Fe,e1,e2,c1,Cj,z]
   .by_cases c2:c=46
    .simp[FH,JA,IG,OW,Fe,e1,e2,c1,c2,Cj,z]
    .simp[FH,JA,IG,OW,Fe,e1,e2,c1,c2,Cj,z,hx]
  rw[step];by_cases c1:c=35
  .rw[Aq c1];have ih:=N4 hx X L cs as (acc++[a]) (sh (.str (sg c))) (sh (Cd Aa a)) hl (by rw[Be];simp;omega)
   have es:acc++CV (c::cs) (a::as)=acc++[a]++CV cs as:=by rw[CV,Aq c1];simp
   rw[es];have eo:(c::cs).all okS=cs.all okS:=by simp[okS,c1]
   rw[eo];exact ih
  .rw[As c1];have es:acc++CV (c::cs) (a::as)=acc++CV cs as:=by rw[CV,As c1]
   rw[es];by_cases c2:c=46
   .rw[Aq c2];have ih:=N4 hx X L cs as acc (sh (.str (sg c))) (sh (Cd Aa a)) hl (by omega)
    have eo:(c::cs).all okS=cs.all okS:=by simp[okS,c2]
    rw[eo];exact ih
   .rw[As c2];have eo:(c::cs).all okS=Ad:=by simp[okS,c1,c2]
    rw[eo];exact⟨λh=>by (cases h),λ_=>⟨_,rfl⟩⟩
noncomputable def F0(x:Ah)(as:Ac R3):Ai:=decide (x.cps.size=as.length)&&x.cps.toList.all okS
noncomputable def asc(x:Ah):Ai:=x.cps.all (· < 128)
def OD(Z:Gam):Prop:=∀(x:Ah)(as:Ac R3),asc x=Aa->x.length<=900->as.length<=900->Z.F 312 [.str x,.lst (rw3 as)]=if F0 x as=Aa then .ok (.lst (rw3 (CV x.cps.toList as))) else .exn exP
theorem aW(hx:∀ es,Z.xn 16 es=.ok exP)(x:Ah)(as:Ac R3)(ha:asc x=Aa)(h1:x.length<=900)(h2:as.length<=900):Lj.run Z [.str x,.lst (rw3 as)]=if F0 x as=Aa then .ok (.lst (rw3 (CV x.cps.toList as))) else .exn exP:=by
 have ll:biD .len [.lst (rw3 as)]=.ok (.int as.length):=by rw[Gq,rw3,AX]
 have ls:biD .len [.str x]=.ok (.int x.cps.size):=by
  show (if BD x.length=Aa then R.ok (D.int x.length) else .bad)=_
  rw[Aq (FJ (by omega))]
  rfl
 have az:asZ (.str x)=.ok (x.cps.toList.map λc=>D.str (sg c)):=by
  show (if x.cps.all (· < 128)=Aa then R.ok (Ji x) else .bad)=_
  rw[Aq (show x.cps.all (· < 128)=Aa from ha)]
  rfl
 by_cases hl:x.cps.size=as.length
 .obtain⟨l1,l2⟩:=N4 hx (.str x) (.lst (rw3 as)) x.cps.toList as [] Af Af (by simpa using hl) (by simp;omega)
  have en:rw3 []=([]:Ac D):=rfl;rw[en]at l1 l2;have eb:F0 x as=x.cps.toList.all okS:=by unfold F0;rw[DH hl];simp
  rw[eb];have asq:DW (.lst (rw3 as))=.ok (rw3 as):=rfl;generalize rw3 as=L at *;generalize x.cps.toList.map (λc=>D.str (sg c))=S at *
  cases e:x.cps.toList.all okS with
  |true=>
   obtain⟨s3,s4,lo⟩:=l1 e;rw[HB]at lo;generalize rw3 (CV x.cps.toList as)=Z_ at *;simp[Lj,Df.run,Cb,ll,ls,az,hl,lo,Iz,BZ,FK]
  |false=>
   obtain⟨U,lo⟩:=l2 e;simp[Lj,Df.run,Cb,ll,ls,az,hl,lo,Iz,BZ,FK]
 .have eb:F0 x as=Ad:=by unfold F0;rw[Bu hl];rfl
  rw[eb];have hl':¬ ((x.cps.size:Ag)=(as.length:Ag)):=by omega
  generalize rw3 as=L at *;simp[Lj,Df.run,Cb,ll,ls,hl',hx]
end
noncomputable def Fi(p l:Ag):Ag:=(((A8 p.toNat).map fun(k:Ae)=>(k:Ag)).find? λt=>decide (l*t%p=1)).getD 0
theorem Rn(hp:P4 p)(h0:0<l)(h1:l<p):HX p l (Fi p l):=by
 obtain⟨n,rfl⟩:∃ n:Ae,l=n:=⟨l.toNat,by omega⟩
 unfold HX;rcases hp with rfl|rfl|rfl|rfl
 .have:∀ n:Ae,n<3->0<n->(1<=Fi 3 n/\Fi 3 n<3/\(n:Ag)*Fi 3 n%3=1):=by decide+kernel
  exact this n (by omega) (by omega)
 .have:∀ n:Ae,n<5->0<n->(1<=Fi 5 n/\Fi 5 n<5/\(n:Ag)*Fi 5 n%5=1):=by decide+kernel
  exact this n (by omega) (by omega)
 .have:∀ n:Ae,n<7->0<n->(1<=Fi 7 n/\Fi 7 n<7/\(n:Ag)*Fi 7 n%7=1):=by decide+kernel
  exact this n (by omega) (by omega)
 .have:∀ n:Ae,n<11->0<n->(1<=Fi 11 n/\Fi 11 n<11/\(n:Ag)*Fi 11 n%11=1):=by decide+kernel
  exact this n (by omega) (by omega)
noncomputable def l3(q:R3):Ac Ag:=[q.1,q.2.1,q.2.2]
noncomputable def fq(p:Ag)(q:R3):R3:=match Dk p (l3 q) with
  |some l=>(Fi p l*(q.1%p)%p,Fi p l*(q.2.1%p)%p,Fi p l*(q.2.2%p)%p)
  |none=>q
theorem Ub(h:Dk p (l3 q)=Ab l):l3 (fq p q)=fmI p (Fi p l) (l3 q):=by
 unfold fq;rw[h];rfl
theorem kR(hf:OE Z)(hp:P4 p)(hl:∃ l,Dk p (l3 q)=Ab l)(b:Ai):Z.F 17 [.int p,Cd b q]=.ok (Cd Aa (fq p q)):=by
 obtain⟨l,hl⟩:=hl;obtain⟨_,h0,h1⟩:=Lf hp.pos hl;have e:=hf p b (l3 q) l _ hp hl (Rn hp h0 h1);rw[<-Ub hl]at e;exact e
noncomputable def aff(n y:Ae):Ac R3:=(A8 n).map fun(x:Ae)=>fq n ((x:Ag),(n:Ag)-1-(y:Ag),1)
noncomputable def LK(n:Ae):Ac R3:=((A8 n).map fun(m:Ae)=>((1:Ag),(m:Ag),(0:Ag)))++[(0,1,0)]
noncomputable def cells(n:Ae):Ac (Ac R3):=(A8 n).map (aff n)++[LK n]
noncomputable def rws(l:Ac (Ac R3)):Ac D:=l.map λr=>D.lst (rw3 r)
theorem P4.n{n:Ae}(hp:P4 n):n=3\/n=5\/n=7\/n=11:=by
 rcases hp with h|h|h|h<;>omega
theorem Oa{g:D->R Ai}{f:D->R D}{φ:Ae->R3}:∀ L:Ac Ae,(∀ k∈L,g (.int (0+(k:Ag)))=.ok Aa/\f (.int (0+(k:Ag)))=.ok (Cd Aa (φ k)))->Ch g f (L.map fun(k:Ae)=>D.int (0+(k:Ag)))=.ok (rw3 (L.map φ))
 |[],_=>rfl
 |k::L,h=>by
  obtain⟨h1,h2⟩:=h k (AN ..);have ih:=Oa L λm hm=>h m (AC _ hm)
  show (g (.int (0+(k:Ag)))).bind _=_;rw[h1,R.bind_ok,Aq rfl,h2,R.bind_ok,show Ch g f (List.map _ L)=_ from ih]
  rfl
theorem Zr(lo:Ag)(n:Ae):(Gu lo n).length=n:=by simp[Gu]
theorem Zz{lo:Ag}{n i:Ae}{d:D}(h:(Gu lo n)[i]?=Ab d):i<n/\d=.int (lo-i):=by
 unfold Gu at h;rw[Cp]at h;by_cases hi:i<n
 .rw[GA hi]at h;exact⟨hi,(Bh h).symm⟩
 .rw[Va (by simp;omega)]at h
  cases h
theorem pY{n:Ae}(hn:n<=11):GV ((n:Ag)-1) (-1) (-1)=.ok (Gu ((n:Ag)-1) n):=by
 have h:(-1:Ag)=-1/\(-(4611686018427387904:Ag)<=(n:Ag)-1/\(n:Ag)-1<4611686018427387904)/\(-(4611686018427387904:Ag)<=-1/\(-1:Ag)<4611686018427387904)/\(n:Ag)-1 - -1<1000000:=⟨rfl,⟨by omega,by omega⟩,⟨by omega,by omega⟩,by omega⟩
 have e:((n:Ag)-1 - -1).toNat=n:=by omega
 rw[GV,Aq h,e]
section
variable{Z:Gam}{n:Ae}
def T5(Z:Gam):Prop:=∀ n:Ae,P4 n->Z.F 309 [.int n]=.ok (.lst (rws (cells n)))
theorem Zs{a b:Ag}(hp:P4 p):∃ l,Dk p [a,b,1]=Ab l:=by
 cases e:Dk p [a,b,1] with
 |some l=>exact⟨l,rfl⟩
 |none=>
  have:=QL.mp e 1 (by simp)
  rcases hp with rfl|rfl|rfl|rfl<;>cases this
theorem jK{L:Ac D}(rg:Dj 0 p=.ok G)(r:Ch (cG Z [si p,Ab (.lst L,Aa),si y,Af,Af] 3 FD) (cF Z [si p,Ab (.lst L,Aa),si y,Af,Af] 3 LY) G=.ok Z_)(z:BD (L.length+1)=Aa):Bw Z 2 La (.int y) [si p,Ab (.lst L,Aa),s2,Af,Af]=.next [si p,Ab (.lst (L++[.lst Z_]),Aa),si y,Af,Af]:=by
 simp[Bw,La,rg,r,Cj,z]
theorem dG{Dn L:Ac D}(rg:Dj 0 p=.ok G)(rd:GV (p-1) (-1) (-1)=.ok Dn)(el:BN (Bw Z 2 La) Dn [si p,Ab (.lst [],Aa),Af,Af,Af]=.next [si p,Ab (.lst L,Aa),s2,Af,Af])(c2:Ch (cG Z [si p,Ab (.lst L,Aa),s2,Af,Af] 4 FD) (cF Z [si p,Ab (.lst L,Aa),s2,Af,Af] 4 LX) G=.ok Z_)(z1:BD (L.length+1)=Aa)(z2:BD (Z_.length+1)=Aa):LZ.run Z [.int p]=.ok (.lst (L++[.lst (Z_++[.tup [.int 0,.int 1,.int 0]])])):=by
 simp[LZ,Df.run,Cb,Iz,BZ,rd,el,c2,rg,Cj,z1,z2]
theorem mB(hf:OE Z)(n:Ae)(hp:P4 n):LZ.run Z [.int n]=.ok (.lst (rws (cells n))):=by
 have hn:n<=11:=by rcases hp.n with rfl|rfl|rfl|rfl<;>decide
 have rg:Dj 0 (n:Ag)=.ok (Dt 0 n):=by
  rw[Ld (by omega) (by omega)]
  simp
 have rd:=pY hn;have row:∀(i:Ae)(L:D)(U3:Sl),Ch (cG Z [si n,Ab (L,Aa),si ((n:Ag)-1-i),Af,Af] 3 FD) (cF Z [si n,Ab (L,Aa),si ((n:Ag)-1-i),Af,Af] 3 LY) (Dt 0 n)=.ok (rw3 (aff n i)):=λi L _=>by
  refine Oa (A8 n) λk hk=>⟨rfl,?_⟩
  have e:=kR hf (q:=((k:Ag),(n:Ag)-1-(i:Ag),1)) hp (Zs hp) Aa;have er:Cd Aa ((k:Ag),(n:Ag)-1-(i:Ag),1)=.tup [.int k,.int ((n:Ag)-1-(i:Ag)),.int 1]:=rfl;rw[er]at e;generalize Cd Aa (fq n _)=Y_ at *;simp[cF,LY,e]
 obtain⟨U',el,s2,eρ⟩:=Ma (body:=Bw Z 2 La) (λi U=>∃ s2,U=[si n,Ab (.lst (rws ((A8 i).map (aff n))),Aa),s2,Af,Af]) (Gu ((n:Ag)-1) n) 0 [si n,Ab (.lst [],Aa),Af,Af,Af] ⟨Af,rfl⟩ λi x hx U hρ=>by
  obtain⟨s2,rfl⟩:=hρ;rw[C3];obtain⟨hi,rfl⟩:=Zz hx;have r:=row i (.lst (rws ((A8 i).map (aff n)))) Af;have z:BD ((rws ((A8 i).map (aff n))).length+1)=Aa:=FJ (by simp[rws];omega)
  have ea:rws ((A8 (i+1)).map (aff n))=rws ((A8 i).map (aff n))++[.lst (rw3 (aff n i))]:=by simp[rws,List.range_succ]
  rw[ea];exact⟨_,jK rg r z,si ((n:Ag)-1-i),rfl⟩
 rw[Zr,C3]at eρ;subst eρ;have c2:∀(L:D)(s:Sl),Ch (cG Z [si n,Ab (L,Aa),s,Af,Af] 4 FD) (cF Z [si n,Ab (L,Aa),s,Af,Af] 4 LX) (Dt 0 n)=.ok (rw3 ((A8 n).map fun(m:Ae)=>((1:Ag),(m:Ag),(0:Ag)))):=λL s=>by
  refine Oa (A8 n) λk hk=>⟨rfl,?_⟩
  have er:Cd Aa ((1:Ag),(k:Ag),(0:Ag))=.tup [.int 1,.int k,.int 0]:=rfl;rw[er];simp[cF,LX]
 have z1:BD ((rws ((A8 n).map (aff n))).length+1)=Aa:=FJ (by simp[rws];omega)
 have z2:BD ((rw3 ((A8 n).map fun(m:Ae)=>((1:Ag),(m:Ag),(0:Ag)))).length+1)=Aa:=FJ (by simp[rw3];omega)
 have ec:rws (cells n)=rws ((A8 n).map (aff n))++[.lst (rw3 ((A8 n).map fun(m:Ae)=>((1:Ag),(m:Ag),(0:Ag)))++[.tup [.int 0,.int 1,.int 0]])]:=by
  unfold cells LK rws rw3;simp;rfl
 rw[ec];exact dG rg rd el (c2 _ _) z1 z2
end
noncomputable def Gx:Ac Ah->Ac (Ac R3)->Ac R3
 |x::xs,r::rs=>CV x.cps.toList r++Gx xs rs
 |_,_=>[]
noncomputable def okA:Ac Ah->Ac (Ac R3)->Ai
 |x::xs,r::rs=>F0 x r&&okA xs rs
 |_,_=>Aa
def Txs(xs:Ac Ah):Prop:=∀ x∈xs,asc x=Aa/\x.length<=900
section
variable{Z:Gam}
theorem QK(hr:OD Z)(fr:Z.fr 312=Aa)(P X R0:D):∀(xs:Ac Ah)(rs:Ac (Ac R3))(acc:Ac R3)(s4 s5:Sl),Txs xs->(∀ r∈rs,r.length<=20)->acc.length+20*rs.length<=900->(okA xs rs=Aa->∃ s4' s5',BN (FH Z [4,5] ID) (DG (xs.map D.str) (rws rs)) [sh P,sh X,sh R0,Ab (.lst (rw3 acc),Aa),s4,s5]=.next [sh P,sh X,sh R0,Ab (.lst (rw3 (acc++Gx xs rs)),Aa),s4',s5'])/\(okA xs rs=Ad->∃ U,BN (FH Z [4,5] ID) (DG (xs.map D.str) (rws rs)) [sh P,sh X,sh R0,Ab (.lst (rw3 acc),Aa),s4,s5]=.exn exP U)
 |[],rs,acc,s4,s5,_,_,_=>by
  have e:okA [] rs=Aa:=by cases rs<;>rfl
  have e2:Gx [] rs=[]:=by cases rs<;>rfl
  have e3:DG (([]:Ac Ah).map D.str) (rws rs)=[]:=by cases rs<;>rfl
  rw[e,e2,e3,Bo];exact⟨λ_=>⟨s4,s5,rfl⟩,λh=>by (cases h)⟩
 |x::xs,[],acc,s4,s5,_,_,_=>by
  have e2:Gx (x::xs) []=[]:=rfl;rw[e2,Bo];exact⟨λ_=>⟨s4,s5,rfl⟩,λh=>by (cases h)⟩
 |x::xs,r::rs,acc,s4,s5,hx,hl,hz=>by
  obtain⟨h1,h2⟩:=hx x (by simp)
  have l1:=hl r (by simp)
  rw[AS]at hz;have e:=hr x r h1 h2 (by omega)
  have sl:=Oy x.cps.toList r;have hz':DG ((x::xs).map D.str) (rws (r::rs))=.tup [.str x,.lst (rw3 r)]::DG (xs.map D.str) (rws rs):=rfl;have hd:∀(b:D->Rho->O)(x:D)(xs:Ac D)(U:Rho),BN b (x::xs) U=(b x U).turn (BN b xs):=λ_ _ _ _=>rfl
  rw[hz',hd];by_cases ok:F0 x r=Aa
  .rw[Aq ok]at e;have z:BD ((rw3 acc).length+(rw3 (CV x.cps.toList r)).length)=Aa:=FJ (by rw[rw3,rw3,AX,AX];omega)
   have step:FH Z [4,5] ID (.tup [.str x,.lst (rw3 r)]) [sh P,sh X,sh R0,Ab (.lst (rw3 acc),Aa),s4,s5]=.next [sh P,sh X,sh R0,Ab (.lst (rw3 acc++rw3 (CV x.cps.toList r)),Aa),sh (.str x),sh (.lst (rw3 r))]:=by
    generalize rw3 (CV x.cps.toList r)=Q at *;generalize rw3 acc=Y_ at *;generalize rw3 r=Z_ at *;simp[FH,ID,Fe,e,Cj,z,BZ,fr,Jl]
   rw[step];have ea:rw3 acc++rw3 (CV x.cps.toList r)=rw3 (acc++CV x.cps.toList r):=by simp[rw3]
   rw[ea];have ih:=QK hr fr P X R0 xs rs (acc++CV x.cps.toList r) (sh (.str x)) (sh (.lst (rw3 r))) (λy hy=>hx y (by simp[hy])) (λy hy=>hl y (by simp[hy])) (by rw[Be];omega)
   have es:acc++Gx (x::xs) (r::rs)=acc++CV x.cps.toList r++Gx xs rs:=by rw[Gx,Cc]
   have eo:okA (x::xs) (r::rs)=okA xs rs:=by rw[okA,ok,EV]
   rw[es,eo];exact ih
  .have ok':F0 x r=Ad:=by simpa using ok
   rw[As ok]at e;have step:FH Z [4,5] ID (.tup [.str x,.lst (rw3 r)]) [sh P,sh X,sh R0,Ab (.lst (rw3 acc),Aa),s4,s5]=.exn exP [sh P,sh X,sh R0,Ab (.lst (rw3 acc),Aa),sh (.str x),sh (.lst (rw3 r))]:=by
    generalize rw3 acc=Y_ at *;generalize rw3 r=Z_ at *;simp[FH,ID,Fe,e,Cj,BZ,fr]
   rw[step];have eo:okA (x::xs) (r::rs)=Ad:=by rw[okA,ok',DB]
   rw[eo];exact⟨λh=>by (cases h),λ_=>⟨_,rfl⟩⟩
theorem aL(h9:Z.F 309 [.int p]=.ok (.lst RW))(hx:∀ es,Z.xn 16 es=.ok exP)(hl:¬ X.length=RW.length):Jf.run Z [.int p,.lst X]=.exn exP:=by
 have hl':¬ ((X.length:Ag)=(RW.length:Ag)):=by omega
 simp[Jf,Df.run,Cb,h9,hl',hx]
theorem aK{Y_:Ac D}(h9:Z.F 309 [.int p]=.ok (.lst RW))(hl:X.length=RW.length)(lo:BN (FH Z [4,5] ID) (DG X RW) [si p,sh (.lst X),sh (.lst RW),Ab (.lst [],Aa),Af,Af]=.next [si p,sh (.lst X),sh (.lst RW),Ab (.lst Y_,Aa),s4,s5])(so:Gm Y_=.ok Z_)(cl:Z_.all (nlD 5)=Aa):Jf.run Z [.int p,.lst X]=.ok (.lst Z_):=by
 have cl':FK Aa (.lst Z_)=Aa:=by show (Aa&&Z_.all (nlD 5))=Aa;rw[cl];rfl
 simp[Jf,Df.run,Cb,h9,hl,lo,so,Iz,BZ,cl']
theorem aM{U:Rho}(h9:Z.F 309 [.int p]=.ok (.lst RW))(hl:X.length=RW.length)(lo:BN (FH Z [4,5] ID) (DG X RW) [si p,sh (.lst X),sh (.lst RW),Ab (.lst [],Aa),Af,Af]=.exn exP U):Jf.run Z [.int p,.lst X]=.exn exP:=by
 simp[Jf,Df.run,Cb,h9,hl,lo,Iz,BZ]
end
theorem Oh:∀(cs:Ac Ae)(as:Ac R3),(CV cs as).Sublist as
 |[],as=>by cases as<;>exact FT _
 |c::cs,[]=>FT _
 |c::cs,a::as=>by
  rw[CV];split
  .exact(Oh cs as).cons₂ a
  .exact(Oh cs as).cons a
theorem Rx:∀(xs:Ac Ah)(rs:Ac (Ac R3)),(Gx xs rs).Sublist rs.flatten
 |[],rs=>by cases rs<;>exact FT _
 |x::xs,[]=>FT _
 |x::xs,r::rs=>by
  rw[Gx,List.flatten_cons];exact(Oh _ r).append (Rx xs rs)
theorem Ml{n:Ae}(hp:P4 n):(cells n).flatten.Nodup/\(cells n).flatten.length<=200/\(cells n).length=n+1/\∀ r∈cells n,r.length<=20:=by
 rcases hp.n with rfl|rfl|rfl|rfl
 .decide+kernel
 .decide+kernel
 .decide+kernel
 .decide+kernel
noncomputable def T6(r:Ac Ag):R3:=(r.getD 0 0,r.getD 1 0,r.getD 2 0)
theorem fO{l:Ac R3}(nd:l.Nodup)(hl:l.length<=1000):∃ l',Gm (rw3 l)=.ok (rw3 l'):=by
 have e:∀ l:Ac R3,rw3 l=(l.map l3).map tI:=λl=>by
  unfold rw3;rw[Dl];exact En λa _=>rfl
 have inj:∀ a b:R3,l3 a=l3 b->a=b:=λa b h=>by
  obtain⟨a1,a2,a3⟩:=a;obtain⟨b1,b2,b3⟩:=b;simp[l3]at h;obtain⟨rfl,rfl,rfl⟩:=h;rfl
 have nd':(l.map l3).Nodup:=List.pairwise_map.mpr (nd.imp λh z=>h (inj _ _ z))
 refine⟨(Gs (l.map l3)).map T6,?_⟩;rw[e,e];have h:=Yc (rs:=l.map l3) (ys:=Gs (l.map l3)) (λr hr=>by
  obtain⟨a,_,rfl⟩:=E7.mp hr;exact List.cons_ne_nil _ _) nd' (by rw[AX];exact hl) (Ox nd') λr=>(Lb _).mem_iff
 have tb:((Gs (l.map l3)).map T6).map l3=Gs (l.map l3):=by
  rw[Dl]
  conv=>rhs;rw[<-List.map_id (Gs (l.map l3))]
  exact En λr hr=>by
   obtain⟨a,_,rfl⟩:=E7.mp ((Lb _).mem_iff.mp hr);rfl
 rw[h,tb]
noncomputable def Jj(n:Ae)(xs:Ac Ah):Ac R3:=open Classical in if h:∃ l',Gm (rw3 (Gx xs (cells n)))=.ok (rw3 l') then UX h else []
theorem Ry{n:Ae}(hp:P4 n)(xs:Ac Ah):Gm (rw3 (Gx xs (cells n)))=.ok (rw3 (Jj n xs)):=by
 obtain⟨c1,c2,_⟩:=Ml hp;have sb:=Rx xs (cells n);have h:=fO (c1.sublist sb) (by have:=sb.length_le;omega)
 unfold Jj;rw[dif_pos h];exact EH h
noncomputable def good(n:Ae)(xs:Ac Ah):Ai:=decide (xs.length=n+1)&&okA xs (cells n)
section
variable{Z:Gam}
def RK(Z:Gam):Prop:=∀(n:Ae)(xs:Ac Ah),P4 n->Txs xs->Z.F 313 [.int n,.lst (xs.map D.str)]=if good n xs=Aa then .ok (.lst (rw3 (Jj n xs))) else .exn exP
theorem iM(l:Ac R3):(rw3 l).all (nlD 5)=Aa:=by
 unfold rw3;rw[E6];exact C8.mpr λ_ _=>rfl
theorem YL(h9:T5 Z)(hr:OD Z)(fr:Z.fr 312=Aa)(hx:∀ es,Z.xn 16 es=.ok exP)(n:Ae)(xs:Ac Ah)(hp:P4 n)(ht:Txs xs):Jf.run Z [.int n,.lst (xs.map D.str)]=if good n xs=Aa then .ok (.lst (rw3 (Jj n xs))) else .exn exP:=by
 obtain⟨c1,c2,c3,c4⟩:=Ml hp;have rl:(rws (cells n)).length=n+1:=by unfold rws;rw[AX,c3]
 by_cases hl:xs.length=n+1
 .have hl':(xs.map D.str).length=(rws (cells n)).length:=by rw[AX,rl,hl]
  have eg:good n xs=okA xs (cells n):=by unfold good;rw[DH hl,EV]
  have n11:n<=11:=by rcases hp.n with rfl|rfl|rfl|rfl<;>decide
  obtain⟨l1,l2⟩:=QK hr fr (.int n) (.lst (xs.map D.str)) (.lst (rws (cells n))) xs (cells n) [] Af Af ht c4 (by rw[c3];simp;omega)
  rw[eg];cases e:okA xs (cells n) with
  |true=>
   obtain⟨s4,s5,lo⟩:=l1 e;rw[HB]at lo;rw[Aq rfl];exact aK (h9 n hp) hl' lo (Ry hp xs) (iM _)
  |false=>
   obtain⟨U,lo⟩:=l2 e;exact aM (h9 n hp) hl' lo
 .have eg:good n xs=Ad:=by unfold good;rw[Bu hl,DB]
  rw[eg];exact aL (h9 n hp) hx (by rw[AX,rl];exact hl)
end
noncomputable def Ff:Ss:=(.cons (.ife (.cmp .NotIn (.idx (.idx (.var 0) (.var 3)) (.var 4)) (.str (AV "#."))) (.cons (.ret .non) .nil) .nil) (.cons (.asg 5 Ad (.tup (.cons (.var 4) (.cons (.bin .Sub (.bin .Sub (.var 1) (.int 1)) (.var 3)) (.cons (.int 1) .nil))))) (.cons (.ife (.cmp .Eq (.var 3) (.var 1)) (.cons (.asg 5 Ad (.idx (.lst (.cons (.tup (.cons (.int 1) (.cons (.var 4) (.cons (.int 0) .nil)))) (.cons (.tup (.cons (.int 0) (.cons (.int 1) (.cons (.int 0) .nil)))) .nil))) (.bi .int (.cons (.cmp .Eq (.var 4) (.var 1)) .nil)))) .nil) .nil) (.cons (.ife (.cmp .Eq (.idx (.idx (.var 0) (.var 3)) (.var 4)) (.str (AV "#"))) (.cons (.app 2 (.call 44 (.cons (.var 5) (.cons (.var 1) .nil)))) .nil) .nil) .nil))))
noncomputable def Gn:Ss:=(.cons (.ife (.cmp .NotEq (.bi .len (.cons (.idx (.var 0) (.var 3)) .nil)) (.bin .Add (.var 1) (.bi .int (.cons (.cmp .Eq (.var 3) (.var 1)) .nil)))) (.cons (.ret .non) .nil) .nil) (.cons (.fors 4 (.rng (.bi .len (.cons (.idx (.var 0) (.var 3)) .nil))) Ff) .nil))
noncomputable def HM:Df:=⟨6,Ad,(.cons (.ife (.or (.cons (.cmp .NotEq (.bi .len (.cons (.var 0) .nil)) (.bin .Add (.var 1) (.int 1))) (.cons (.cmp .NotEq (.bi .len (.cons (.idx (.var 0) (.var 1)) .nil)) (.bin .Add (.var 1) (.int 1))) .nil))) (.cons (.ret .non) .nil) .nil) (.cons (.asg 2 Aa (.lst .nil)) (.cons (.fors 3 (.rng (.bin .Add (.var 1) (.int 1))) Gn) (.cons (.ret (.bi .sorted (.cons (.var 2) .nil))) .nil))))⟩
theorem YM(Z:Gam)(hp:P4 p):(Dk p xs=Af->Lk.run Z [.tup (ds xs),.int p]=.ok .non)/\(∀ l t,Dk p xs=Ab l->HX p l t->Lk.run Z [.tup (ds xs),.int p]=.ok (.tup (ds (fmI p t xs)))):=by
 have p0:=hp.pos;have ph:=hp.hi;have c1:Ch (cG Z [sh (.tup (ds xs)),si p,Af,Af,Af,Af,Af,Af,Af] 5 FD) (cF Z [sh (.tup (ds xs)),si p,Af,Af,Af,Af,Af,Af,Af] 5 ND) (ds xs)=.ok (ds (xs.map λx=>x%p)):=by
  refine Lg xs λx _=>⟨rfl,?_⟩
  simp[cF,ND,p0]
 generalize hR:(xs.map λx=>x%p)=rs at c1
 have c2:Ch (cG Z [sh (.tup (ds xs)),si p,sh (.lst (ds rs)),Af,Af,Af,Af,Af,Af] 6 Nz) (cF Z [sh (.tup (ds xs)),si p,sh (.lst (ds rs)),Af,Af,Af,Af,Af,Af] 6 NC) (ds rs)=.ok (ds (rs.filter λr=>decide (0<r))):=by
  refine NJ rs λx _=>⟨?_,?_⟩
  .simp[cG,Nz]
  .simp[cF,NC]
 have hl:=Qh p0 xs;rw[hR]at hl;generalize hL:(rs.filter λr=>decide (0<r))=ls at c2 hl
 have dl:(ds ls).length=ls.length:=AX ..;refine⟨λz=>?_,λl t e it=>?_⟩
 .rw[z]at hl;have:ls=[]:=List.head?_eq_none_iff.mp hl;subst this;simp[Lk,Df.run,Cb,c1,c2,dl]
 .rw[e]at hl;have hne:ls≠[]:=by rintro rfl;cases hl
  have hlen:(ls.length:Ag)≠0:=by have:=Ve.mpr hne;omega
  have g0:=QQ hl;obtain⟨_,l0,l1⟩:=Lf p0 e;have c3:Ch (cG Z [sh (.tup (ds xs)),si p,sh (.lst (ds rs)),sh (.lst (ds ls)),Af,Af,Af,Af,Af] 7 Ny) (cF Z [sh (.tup (ds xs)),si p,sh (.lst (ds rs)),sh (.lst (ds ls)),Af,Af,Af,Af,Af] 7 NB) (ds (Gw p))=.ok (ds ((Gw p).filter λk=>decide (k*l%p=1))):=by
   refine NJ (Gw p) λx hx=>⟨?_,?_⟩
   .obtain⟨x1,x2⟩:=Kd.mp hx;have m:FG x l=Aa:=Ot (by omega) (by omega)
    simp[cG,Ny,g0,m,p0];rw[Hy];simp
   .simp[cF,NB]
  have g1:=QQ (Yk it);have c4:Ch (cG Z [sh (.tup (ds xs)),si p,sh (.lst (ds rs)),sh (.lst (ds ls)),si t,Af,Af,Af,Af] 8 FD) (cF Z [sh (.tup (ds xs)),si p,sh (.lst (ds rs)),sh (.lst (ds ls)),si t,Af,Af,Af,Af] 8 NA) (ds rs)=.ok (ds (rs.map λr=>t*r%p)):=by
   refine Lg rs λx _=>⟨rfl,?_⟩
   have m:FG x t=Aa:=R5 (by have:=it.1;omega) (by have:=it.2.1;omega)
   simp[cF,NA,m,p0,Ga]
  have ru:Dj 1 p=.ok (ds (Gw p)):=RA hp;have fe:fmI p t xs=rs.map λr=>t*r%p:=by rw[<-hR];simp[fmI,Dl,UY]
  simp[Lk,Df.run,Cb,c1,c2,dl,hlen,hne,ru,c3,g1,c4,fe]
def Nc(Z:Gam):Prop:=∀(p:Ag)(xs:Ac Ag)(l t:Ag),P4 p->Dk p xs=Ab l->HX p l t->Z.F 44 [.tup (ds xs),.int p]=.ok (.tup (ds (fmI p t xs)))
section
variable{Z:Gam}
theorem kW(hf:Nc Z)(hp:P4 p)(hl:∃ l,Dk p (l3 q)=Ab l):Z.F 44 [Cd Aa q,.int p]=.ok (Cd Aa (fq p q)):=by
 obtain⟨l,hl⟩:=hl;obtain⟨_,h0,h1⟩:=Lf hp.pos hl;have e:=hf p (l3 q) l _ hp hl (Rn hp h0 h1);rw[<-Ub hl]at e;exact e
noncomputable def KP(n y x:Ae):R3:=if y=n then (if x=n then (0,1,0) else (1,(x:Ag),0)) else ((x:Ag),(n:Ag)-1-(y:Ag),1)
theorem aE{n y x:Ae}(hp:P4 n)(hy:y<=n)(hx:x<n+(if y=n then 1 else 0)):(∃ l,Dk n (l3 (KP n y x))=Ab l)/\((cells n).getD y []).getD x (0,0,0)=fq n (KP n y x):=by
 have key:∀ n:Ae,(n=3\/n=5\/n=7\/n=11)->∀ y,y<n+1->∀ x,x<n+(if y=n then 1 else 0)->((Dk n (l3 (KP n y x))).isSome=Aa/\((cells n).getD y []).getD x (0,0,0)=fq n (KP n y x)):=by
  intro n hn;rcases hn with rfl|rfl|rfl|rfl<;>decide+kernel
 obtain⟨k1,k2⟩:=key n hp.n y (by omega) x hx
 exact⟨Eg.mp k1,k2⟩
end
noncomputable def hd2:Ah:=⟨#[35,46]⟩
theorem nN:AV "#." = hd2:=by kernel_rfl
theorem pC(h:c<128):BK .NotIn (.str (sg c)) (.str hd2)=.ok (.bl (!okS c)):=by
 show R.ok (D.bl (!(!(EG hd2 (sg c) 0 hd2.length 1).isEmpty)))=_;have:∀ c,c<128->(!(!(EG hd2 (sg c) 0 hd2.length 1).isEmpty))=!okS c:=by decide+kernel
 rw[this c h]
section
variable{Z:Gam}
theorem kY{x:Ag}{q Q:D}(hc:c<128)(iy:CP X y=.ok (.str t))(ic:Hw (.str t) (.int x)=.ok (.str (sg c)))(hf:Z.F 44 [q,.int p]=.ok Q)(z:BD (A.length+1)=Aa)(hq:(¬ y=p/\q=.tup [.int x,.int (p-1-y),.int 1])\/(y=p/\¬ x=p/\q=.tup [.int 1,.int x,.int 0])\/(y=p/\x=p/\q=.tup [.int 0,.int 1,.int 0])):Bw Z 4 Ff (.int x) [sh (.lst X),si p,Ab (.lst A,Aa),si y,s4,s5]=if okS c=Aa then (.next [sh (.lst X),si p,Ab (.lst (if c=35 then A++[Q] else A),Aa),si y,si x,sh q]) else .ret .non Ad:=by
 have nn:=pC hc;have e1:(sg c==hsh)=decide (c=35):=OZ c 35;have hi:=nN;generalize hd2=HD at *;have i0:∀ a b:D,CP [a,b] 0=.ok a:=λ_ _=>rfl
 have i1:∀ a b:D,CP [a,b] 1=.ok b:=λ_ _=>rfl
 generalize sg c=S at *;cases e:okS c with
 |false=>
  rw[e]at nn;simp only[UW,IS]at nn;simp[Bw,Ff,iy,ic,hi,nn,BZ]
 |true=>
  rw[e]at nn;simp only[UW,IS]at nn;rcases hq with ⟨hy,rfl⟩|⟨rfl,hx,rfl⟩|⟨rfl,rfl,rfl⟩
  .by_cases c1:c=35
   .simp[Bw,Ff,iy,ic,hi,nn,hy,IG,e1,c1,hf,Cj,z]
   .simp[Bw,Ff,iy,ic,hi,nn,hy,IG,e1,c1,hf,Cj,z]
  .by_cases c1:c=35
   .simp[Bw,Ff,iy,ic,hi,nn,hx,IG,e1,c1,hf,Cj,z,b2i,i0]
   .simp[Bw,Ff,iy,ic,hi,nn,hx,IG,e1,c1,hf,Cj,z,b2i,i0]
  .by_cases c1:c=35
   .simp[Bw,Ff,iy,ic,hi,nn,IG,e1,c1,hf,Cj,z,b2i,i1]
   .simp[Bw,Ff,iy,ic,hi,nn,IG,e1,c1,hf,Cj,z,b2i,i1]
theorem TM{k:Ae}(hz:t.length<=900)(hk:k<t.cps.size):Hw (.str t) (.int (0+(k:Ag)))=.ok (.str (sg (t.cps.toList.getD k 0))):=by
 show (if BD t.length=Aa then CP (IL t) (0+(k:Ag)) else .bad)=_
 rw[Aq (FJ (by omega)),E5]
 have e:(IL t)[k]?=Ab (D.str (sg (t.cps.toList.getD k 0))):=by
  unfold IL;simp[hk,sg]
 exact JI (by omega) (by simpa using e)
theorem SH{X:Ac D}{p y:Ag}{t:Ah}{row:Ac R3}{q:Ae->R3}(hz:t.length<=900)(ha:asc t=Aa)(iy:CP X y=.ok (.str t))(hl:row.length=t.cps.size)(hr:row.length<=20)(hf:∀ k,k<t.cps.size->Z.F 44 [Cd Aa (q k),.int p]=.ok (Cd Aa (row.getD k (0,0,0))))(hq:∀ k:Ae,k<t.cps.size->(¬ y=p/\Cd Aa (q k)=.tup [.int (0+(k:Ag)),.int (p-1-y),.int 1])\/(y=p/\¬ (0+(k:Ag))=p/\Cd Aa (q k)=.tup [.int 1,.int (0+(k:Ag)),.int 0])\/(y=p/\(0+(k:Ag))=p/\Cd Aa (q k)=.tup [.int 0,.int 1,.int 0])):∀(m j:Ae)(acc:Ac R3)(s4 s5:Sl),j+m=t.cps.size->acc.length+m<=900->((t.cps.toList.drop j).all okS=Aa->∃ s4' s5',BN (Bw Z 4 Ff) ((GL j m).map fun(k:Ae)=>D.int (0+(k:Ag))) [sh (.lst X),si p,Ab (.lst (rw3 acc),Aa),si y,s4,s5]=.next [sh (.lst X),si p,Ab (.lst (rw3 (acc++CV (t.cps.toList.drop j) (row.drop j))),Aa),si y,s4',s5'])/\((t.cps.toList.drop j).all okS=Ad->BN (Bw Z 4 Ff) ((GL j m).map fun(k:Ae)=>D.int (0+(k:Ag))) [sh (.lst X),si p,Ab (.lst (rw3 acc),Aa),si y,s4,s5]=.ret .non Ad)
 |0,j,acc,s4,s5,hj,_=>by
  have e:t.cps.toList.drop j=[]:=DJ (by rw[AF];omega)
  have e2:CV ([]:Ac Ae) (row.drop j)=[]:=by cases row.drop j<;>rfl
  rw[e,e2,Bo];exact⟨λ_=>⟨s4,s5,rfl⟩,λh=>by (cases h)⟩
 |m+1,j,acc,s4,s5,hj,hm=>by
  have hk:j<t.cps.size:=by omega
  have hk':j<t.cps.toList.length:=by rw[AF];exact hk
  have ed:t.cps.toList.drop j=t.cps.toList.getD j 0::t.cps.toList.drop (j+1):=by
   rw[By hk']
   congr 1
   simp[hk]
  have er:row.drop j=row.getD j (0,0,0)::row.drop (j+1):=by
   rw[By (by omega)]
   congr 1
   simp[show j<row.length by omega]
  have c128:t.cps.toList.getD j 0<128:=by
   have h:=Array.all_eq_true.mp ha j hk;simpa [hk] using h
  have z:BD ((rw3 acc).length+1)=Aa:=FJ (by rw[rw3,AX];omega)
  have st:=kY (Z:=Z) (X:=X) (A:=rw3 acc) (p:=p) (y:=y) (x:=0+(j:Ag)) (s4:=s4) (s5:=s5) c128 iy (TM hz hk) (hf j hk) z (hq j hk);have hd:∀(b:D->Rho->O)(x:D)(xs:Ac D)(U:Rho),BN b (x::xs) U=(b x U).turn (BN b xs):=λ_ _ _ _=>rfl
  rw[Vn,BP,hd,st,ed,er];generalize t.cps.toList.getD j 0=c at *;generalize row.getD j (0,0,0)=a at *;cases eo:okS c with
  |false=>
   rw[C5,eo,DB];exact⟨λh=>by (cases h),λ_=>rfl⟩
  |true=>
   rw[C5,eo,EV,Aq rfl];have hlen:(if c=35 then acc++[a] else acc).length<=acc.length+1:=by
    by_cases c1:c=35<;>simp[c1]
   have ih:=SH hz ha iy hl hr hf hq m (j+1) (if c=35 then acc++[a] else acc) (si (0+(j:Ag))) (sh (Cd Aa (q j))) (by omega) (by omega)
   have ea:(if c=35 then rw3 acc++[Cd Aa a] else rw3 acc)=rw3 (if c=35 then acc++[a] else acc):=by
    by_cases c1:c=35
    .rw[Aq c1,Aq c1];simp[rw3]
    .rw[As c1,As c1]
   have es:acc++CV (c::t.cps.toList.drop (j+1)) (a::row.drop (j+1))=(if c=35 then acc++[a] else acc)++CV (t.cps.toList.drop (j+1)) (row.drop (j+1)):=by
    rw[CV];by_cases c1:c=35
    .rw[Aq c1,Aq c1];simp
    .rw[As c1,As c1]
   rw[ea,es];exact ih
end
section
variable{Z:Gam}
theorem nP(iy:CP X y=.ok (.str t))(ln:biD .len [.str t]=.ok (.int m))(hm:¬ m=p+(if y=p then 1 else 0)):Bw Z 3 Gn (.int y) [sh (.lst X),si p,Ab (.lst A,Aa),s3,s4,s5]=.ret .non Ad:=by
 by_cases h:y=p
 .subst h;have hm:¬ m=y+1:=by simpa using hm
  simp[Bw,Gn,iy,ln,hm,BZ,b2i]
 .have hm:¬ m=p:=by simpa [h] using hm
  simp[Bw,Gn,iy,ln,hm,BZ,b2i,h]
theorem pL(iy:CP X y=.ok (.str t))(ln:biD .len [.str t]=.ok (.int m))(hm:m=p+(if y=p then 1 else 0))(rg:Dj 0 m=.ok G):(∀ U',BN (Bw Z 4 Ff) G [sh (.lst X),si p,Ab (.lst A,Aa),si y,s4,s5]=.next U'->Bw Z 3 Gn (.int y) [sh (.lst X),si p,Ab (.lst A,Aa),s3,s4,s5]=.next U')/\(BN (Bw Z 4 Ff) G [sh (.lst X),si p,Ab (.lst A,Aa),si y,s4,s5]=.ret .non Ad->Bw Z 3 Gn (.int y) [sh (.lst X),si p,Ab (.lst A,Aa),s3,s4,s5]=.ret .non Ad):=by
 by_cases h:y=p
 .subst h;have hm:m=y+1:=by simpa using hm
  constructor
  .intro U' lo;generalize hF:BN (Bw Z 4 Ff)=F at *;simp only[Bw,Gn];simp[iy,ln,rg,b2i,hF,lo,hm.symm]
  .intro lo;generalize hF:BN (Bw Z 4 Ff)=F at *;simp only[Bw,Gn];simp[iy,ln,rg,b2i,hF,lo,hm.symm]
 .have hm:m=p:=by simpa [h] using hm
  subst hm;constructor
  .intro U' lo;generalize hF:BN (Bw Z 4 Ff)=F at *;simp only[Bw,Gn];simp[iy,ln,rg,b2i,h,hF,lo]
  .intro lo;generalize hF:BN (Bw Z 4 Ff)=F at *;simp only[Bw,Gn];simp[iy,ln,rg,b2i,h,hF,lo]
theorem TD(m:Ae):Dt 0 m=(GL 0 m).map fun(k:Ae)=>D.int (0+(k:Ag)):=by
 unfold Dt;rw[List.range_eq_range']
theorem JR(h:t.length<=900):biD .len [.str t]=.ok (.int (t.cps.size:Ag)):=by
 show (if BD t.length=Aa then R.ok (D.int t.length) else .bad)=_
 rw[Aq (FJ (by omega))]
 rfl
theorem Uz{m:Ae}(h:m<=900):Dj 0 (m:Ag)=.ok (Dt 0 m):=by
 rw[Ld (by omega) (by omega)]
 simp
theorem Tx(hf:Nc Z){n:Ae}(hp:P4 n){xs:Ac Ah}(ht:Txs xs)(hl:xs.length=n+1):∀(m j:Ae)(acc:Ac R3)(s3 s4 s5:Sl),j+m=n+1->acc.length+20*m<=400->(okA (xs.drop j) ((cells n).drop j)=Aa->∃ s3' s4' s5',BN (Bw Z 3 Gn) ((GL j m).map fun(k:Ae)=>D.int (0+(k:Ag))) [sh (.lst (xs.map D.str)),si n,Ab (.lst (rw3 acc),Aa),s3,s4,s5]=.next [sh (.lst (xs.map D.str)),si n,Ab (.lst (rw3 (acc++Gx (xs.drop j) ((cells n).drop j))),Aa),s3',s4',s5'])/\(okA (xs.drop j) ((cells n).drop j)=Ad->BN (Bw Z 3 Gn) ((GL j m).map fun(k:Ae)=>D.int (0+(k:Ag))) [sh (.lst (xs.map D.str)),si n,Ab (.lst (rw3 acc),Aa),s3,s4,s5]=.ret .non Ad)
 |0,j,acc,s3,s4,s5,hj,_=>by
  have e:xs.drop j=[]:=DJ (by omega)
  have e2:∀ l,Gx [] l=[]:=λl=>by cases l<;>rfl
  have e3:∀ l,okA [] l=Aa:=λl=>by cases l<;>rfl
  rw[e,e2,e3,Bo];exact⟨λ_=>⟨s3,s4,s5,rfl⟩,λh=>by (cases h)⟩
 |m+1,j,acc,s3,s4,s5,hj,hm=>by
  obtain⟨c1,c2,c3,c4⟩:=Ml hp;have n11:n<=11:=by rcases hp.n with rfl|rfl|rfl|rfl<;>decide
  have hk:j<xs.length:=by omega
  have hk2:j<(cells n).length:=by omega
  have ed:xs.drop j=xs[j]::xs.drop (j+1):=By hk;have er:(cells n).drop j=(cells n)[j]::(cells n).drop (j+1):=By hk2;obtain⟨ha,hz⟩:=ht xs[j] (BH hk);have rl:(cells n)[j].length=n+(if j=n then 1 else 0):=by
   have key:∀ n:Ae,(n=3\/n=5\/n=7\/n=11)->∀ j,j<n+1->((cells n).getD j []).length=n+(if j=n then 1 else 0):=by
    intro n hn;rcases hn with rfl|rfl|rfl|rfl<;>decide+kernel
   have:=key n hp.n j (by omega)
   rwa [Ba,AE hk2,Hm]at this
  have rg:(cells n).getD j []=(cells n)[j]:=by rw[Ba,AE hk2,Hm]
  have iy:CP (xs.map D.str) (0+(j:Ag))=.ok (.str xs[j]):=by
   rw[E5];exact JI (by omega) (by simp[hk])
  have hd:∀(b:D->Rho->O)(x:D)(xs:Ac D)(U:Rho),BN b (x::xs) U=(b x U).turn (BN b xs):=λ_ _ _ _=>rfl
  rw[Vn,BP,hd,ed,er];rw[okA,Gx];have yp:((0+(j:Ag))=(n:Ag))↔j=n:=by omega
  by_cases hs:xs[j].cps.size=(cells n)[j].length
  .have hmm:(xs[j].cps.size:Ag)=(n:Ag)+(if (0+(j:Ag))=(n:Ag) then 1 else 0):=by
    rw[hs,rl];by_cases h:j=n
    .rw[Aq h,Aq (yp.mpr h)];omega
    .rw[As h,As (λz=>h (yp.mp z))];omega
   have sz:xs[j].cps.size<=20:=by have:=c4 _ (BH hk2);omega
   have lx:=SH (Z:=Z) (X:=xs.map D.str) (p:=n) (y:=0+(j:Ag)) (t:=xs[j]) (row:=(cells n)[j]) (q:=KP n j) hz ha iy hs.symm (c4 _ (BH hk2)) (λk hk'=>by
     obtain⟨g1,g2⟩:=aE hp (show j<=n by omega) (show k<n+(if j=n then 1 else 0) by rw[<-rl,<-hs];exact hk')
     rw[rg]at g2;rw[g2];exact kW hf hp g1) (λk hk'=>by
     unfold KP;by_cases h:j=n
     .by_cases hx:k=n
      .exact .inr (.inr ⟨yp.mpr h,by omega,by rw[Aq h,Aq hx];rfl⟩)
      .exact .inr (.inl ⟨yp.mpr h,by omega,by rw[Aq h,As hx,E5];rfl⟩)
     .exact .inl ⟨λz=>h (yp.mp z),by rw[As h,E5,E5];rfl⟩) xs[j].cps.size 0 acc s4 s5 (by omega) (by omega)
   rw[Ec,Ec,<-TD]at lx;have go:=pL (Z:=Z) (A:=rw3 acc) (s3:=s3) (s4:=s4) (s5:=s5) iy (JR hz) hmm (Uz (by omega))
   have eo:F0 xs[j] (cells n)[j]=xs[j].cps.toList.all okS:=by unfold F0;rw[DH hs,EV]
   rw[eo];cases e:xs[j].cps.toList.all okS with
   |true=>
    obtain⟨s4',s5',lo⟩:=lx.1 e;rw[go.1 _ lo,EV];have sl:=Oy xs[j].cps.toList (cells n)[j];have ih:=Tx hf hp ht hl m (j+1) (acc++CV xs[j].cps.toList (cells n)[j]) (si (0+(j:Ag))) s4' s5' (by omega) (by rw[Be];omega)
    rw[<-Cc];exact ih
   |false=>
    rw[go.2 (lx.2 e),DB];exact⟨λh=>by (cases h),λ_=>rfl⟩
  .have eo:F0 xs[j] (cells n)[j]=Ad:=by unfold F0;rw[Bu hs,DB]
   have hmm:¬ (xs[j].cps.size:Ag)=(n:Ag)+(if (0+(j:Ag))=(n:Ag) then 1 else 0):=λz=>hs (by
    rw[rl];by_cases h:j=n
    .rw[Aq (yp.mpr h)]at z;rw[Aq h];omega
    .rw[As (λw=>h (yp.mp w))]at z;rw[As h];omega)
   rw[nP iy (JR hz) hmm,eo,DB];exact⟨λh=>by (cases h),λ_=>rfl⟩
end
section
variable{Z:Gam}
theorem eP(hL:biD .len [.lst X]=.ok (.int L))(h:¬ L=p+1):HM.run Z [.lst X,.int p]=.ok .non:=by
 simp[HM,Df.run,Cb,hL,h,BZ,-Gq]
theorem ZE(hL:biD .len [.lst X]=.ok (.int L))(h:L=p+1)(ip:CP X p=.ok (.str t))(ln:biD .len [.str t]=.ok (.int m))(hm:¬ m=p+1):HM.run Z [.lst X,.int p]=.ok .non:=by
 subst h;simp[HM,Df.run,Cb,hL,ip,ln,hm,BZ,-Gq]
theorem kX{Y_:Ac D}(hL:biD .len [.lst X]=.ok (.int L))(h:L=p+1)(ip:CP X p=.ok (.str t))(ln:biD .len [.str t]=.ok (.int m))(hm:m=p+1)(rg:Dj 0 (p+1)=.ok G)(lo:BN (Bw Z 3 Gn) G [sh (.lst X),si p,Ab (.lst [],Aa),Af,Af,Af]=.next [sh (.lst X),si p,Ab (.lst Y_,Aa),s3,s4,s5])(so:Gm Y_=.ok Z_):HM.run Z [.lst X,.int p]=.ok (.lst Z_):=by
 subst h;subst hm;simp[HM,Df.run,Cb,hL,ip,ln,BZ,Iz,rg,lo,so,-Gq]
theorem eO(hL:biD .len [.lst X]=.ok (.int L))(h:L=p+1)(ip:CP X p=.ok (.str t))(ln:biD .len [.str t]=.ok (.int m))(hm:m=p+1)(rg:Dj 0 (p+1)=.ok G)(lo:BN (Bw Z 3 Gn) G [sh (.lst X),si p,Ab (.lst [],Aa),Af,Af,Af]=.ret .non Ad):HM.run Z [.lst X,.int p]=.ok .non:=by
 subst h;subst hm;simp[HM,Df.run,Cb,hL,ip,ln,BZ,Iz,rg,lo,-Gq]
theorem Rg:∀(xs:Ac Ah)(rs:Ac (Ac R3))(j:Ae)(h:j<xs.length)(h2:j<rs.length),okA xs rs=Aa->F0 xs[j] rs[j]=Aa
 |[],rs,j,h,_,_=>by cases h
 |x::xs,[],j,_,h,_=>by cases h
 |x::xs,r::rs,0,_,_,e=>by
  rw[okA,Al]at e;exact e.1
 |x::xs,r::rs,j+1,h,h2,e=>by
  rw[okA,Al]at e;exact Rg xs rs j (by simpa using h) (by simpa using h2) e.2
noncomputable def Nl(n:Ae)(xs:Ac Ah):D:=if good n xs=Aa then .lst (rw3 (Jj n xs)) else .non
def Sr(Z:Gam):Prop:=∀(n:Ae)(xs:Ac Ah),P4 n->Txs xs->Z.F 320 [.lst (xs.map D.str),.int n]=.ok (Nl n xs)
theorem Z_0(hf:Nc Z)(n:Ae)(xs:Ac Ah)(hp:P4 n)(ht:Txs xs):HM.run Z [.lst (xs.map D.str),.int n]=.ok (Nl n xs):=by
 obtain⟨c1,c2,c3,c4⟩:=Ml hp;have n11:n<=11:=by rcases hp.n with rfl|rfl|rfl|rfl<;>decide
 have hL:biD .len [.lst (xs.map D.str)]=.ok (.int (xs.length:Ag)):=by rw[Gq,AX]
 unfold Nl;by_cases hl:xs.length=n+1
 .have eg:good n xs=okA xs (cells n):=by unfold good;rw[DH hl,EV]
  rw[eg];have hk:n<xs.length:=by omega
  have ip:CP (xs.map D.str) (n:Ag)=.ok (.str xs[n]):=JI (by omega) (by simp[hk])
  obtain⟨ha,hz⟩:=ht xs[n] (BH hk);have hL':(xs.length:Ag)=(n:Ag)+1:=by omega
  have rl:(cells n)[n]'(by omega)=LK n:=by
   unfold cells;rw[List.getElem_append_right (by simp)]
   simp
  have ll:(LK n).length=n+1:=by simp[LK]
  by_cases hs:xs[n].cps.size=n+1
  .have hm:(xs[n].cps.size:Ag)=(n:Ag)+1:=by omega
   have rg:Dj 0 ((n:Ag)+1)=.ok (Dt 0 (n+1)):=Uz (m:=n+1) (by omega)
   have lo:=Tx hf hp ht hl (n+1) 0 [] Af Af Af (by omega) (by simp;omega)
   rw[Ec,Ec,<-TD,HB]at lo;cases e:okA xs (cells n) with
   |true=>
    obtain⟨s3,s4,s5,lo⟩:=lo.1 e;rw[Aq rfl];exact kX hL hL' ip (JR hz) hm rg lo (Ry hp xs)
   |false=>exact eO hL hL' ip (JR hz) hm rg (lo.2 e)
  .have hm:¬ (xs[n].cps.size:Ag)=(n:Ag)+1:=by omega
   have e:okA xs (cells n)=Ad:=by
    cases e:okA xs (cells n) with
    |false=>rfl
    |true=>
     have:=Rg xs (cells n) n hk (by omega) e
     unfold F0 at this;rw[Al,AQ,rl,ll]at this;exact absurd this.1 hs
   rw[e];exact ZE hL hL' ip (JR hz) hm
 .have eg:good n xs=Ad:=by unfold good;rw[Bu hl,DB]
  rw[eg];exact eP hL (by omega)
end
noncomputable def Nx:Df:=⟨2,Ad,(.cons (.asg 1 Ad (.str (AV " !\"#$&'()*+,-./0123456789:;<=>?@ABCDEFGHIJKLMNOPQRSTUVWXYZ[\\]^_`"))) (.cons (.asg 1 Ad (.bin .Add (.var 1) (.str (AV "abcdefghijklmnopqrstuvwxyz{|}~#.#.")))) (.cons (.ret (.idx (.var 1) (.bin .Mod (.var 0) (.bi .len (.cons (.var 1) .nil))))) .nil)))⟩
noncomputable def HL:Df:=⟨8,Ad,(.cons (.asg 2 Ad (.bin .Mod (.var 1) (.int 7))) (.cons (.ife (.cmp .Eq (.bi .len (.cons (.var 0) .nil)) (.int 0)) (.cons (.ret (.var 0)) .nil) .nil) (.cons (.asg 3 Ad (.bin .Mod (.bin .FloorDiv (.var 1) (.int 7)) (.bi .len (.cons (.var 0) .nil)))) (.cons (.asg 4 Ad (.idx (.var 0) (.var 3))) (.cons (.asg 5 Ad (.bin .Mod (.bin .FloorDiv (.var 1) (.int 84)) (.bin .Add (.bi .len (.cons (.var 4) .nil)) (.int 1)))) (.cons (.ife (.cmp .Eq (.var 2) (.int 0)) (.cons (.ret (.bin .Add (.sl (.var 0) .non (.var 3)) (.sl (.var 0) (.bin .Add (.var 3) (.int 1)) .non))) .nil) .nil) (.cons (.ife (.cmp .Eq (.var 2) (.int 1)) (.cons (.ret (.bin .Add (.bin .Add (.sl (.var 0) .non (.var 3)) (.lst (.cons (.var 4) .nil))) (.sl (.var 0) (.var 3) .non))) .nil) .nil) (.cons (.ife (.cmp .Eq (.var 2) (.int 2)) (.cons (.ret (.bin .Add (.sl (.var 0) (.un .USub (.int 1)) .non) (.sl (.var 0) .non (.un .USub (.int 1))))) .nil) .nil) (.cons (.asg 6 Ad (.call 317 (.cons (.bin .FloorDiv (.var 1) (.int 1008)) .nil))) (.cons (.asg 7 Ad (.bin .Add (.bin .Add (.sl (.var 4) .non (.var 5)) (.var 6)) (.sl (.var 4) (.bin .Add (.var 5) (.int 1)) .non))) (.cons (.ife (.cmp .Eq (.var 2) (.int 3)) (.cons (.asg 7 Ad (.bin .Add (.sl (.var 4) .non (.var 5)) (.sl (.var 4) (.bin .Add (.var 5) (.int 1)) .non))) .nil) .nil) (.cons (.ife (.cmp .Eq (.var 2) (.int 4)) (.cons (.asg 7 Ad (.bin .Add (.bin .Add (.sl (.var 4) .non (.var 5)) (.var 6)) (.sl (.var 4) (.var 5) .non))) .nil) .nil) (.cons (.ret (.bin .Add (.bin .Add (.sl (.var 0) .non (.var 3)) (.lst (.cons (.var 7) .nil))) (.sl (.var 0) (.bin .Add (.var 3) (.int 1)) .non))) .nil)))))))))))))⟩
theorem L9(x:Ah)(l h:Am Ag):(Fj x l h).length<=x.length:=by
 unfold Fj;split
 .exact Aw _
 .show (Cn _).size<=_;rw[AH];exact B5 (List.length_filterMap_le _ _) (PyProof.Rows.indices_len_le _ _ _)
theorem Lu:asc x=Aa↔∀ c∈x.cps.toList,c<128:=by
 unfold asc;rw[<-Array.all_toList,C8];simp
theorem OB(h:asc x=Aa)(l u:Am Ag):asc (Fj x l u)=Aa:=by
 unfold Fj;split
 .exact h
 .rw[Lu];intro c hc;have hc':c∈(DO l u 1 x.length).filterMap (x.cps[·]?):=by simpa using hc
  obtain⟨i,_,hi⟩:=Vi.mp hc';exact Lu.mp h c (by rw[Array.mem_toList_iff];exact Array.mem_of_getElem? hi)
theorem Jd{y:Ah}(hx:asc x=Aa)(hy:asc y=Aa):asc (x++y)=Aa:=by
 rw[Lu]at *;intro c hc;have e:(x++y).cps.toList=x.cps.toList++y.cps.toList:=A9 ..;rw[e]at hc;rcases Ce.mp hc with h|h
 .exact hx c h
 .exact hy c h
theorem Le(x y:Ah):(x++y).length=x.length+y.length:=Fw
theorem LM{y:Ah}(h:x.length+y.length<=1000):CG .Add (.str x) (.str y)=.ok (.str (x++y)):=by
 rw[Ht,Aq (FJ h)]
theorem Pz(h:x.length<=1000)(l u:Am Ag):slD (.str x) l u=.ok (.str (Fj x l u)):=by
 show (if (BD x.length&&BD (Fj x l u).length)=Aa then R.ok (D.str (Fj x l u)) else .bad)=_
 rw[FJ h,FJ (B5 (L9 x l u) h)];rfl
theorem L8(xs:Ac Ah)(l u:Am Ag):∃ ys:Ac Ah,(∀ y∈ys,y∈xs)/\ys.length<=xs.length/\Gv (xs.map D.str) l u=ys.map D.str:=by
 unfold Gv;rw[<-List.map_drop,<-List.map_take];exact⟨_,λy hy=>Vk (Vl hy),by rw[C9,Ef];omega,rfl⟩
def TxB(b:Ae)(xs:Ac Ah):Prop:=∀ x∈xs,asc x=Aa/\x.length<=b
def SD(Z:Gam):Prop:=∀ n:Ag,∃ c:Ah,asc c=Aa/\c.length=1/\Z.F 317 [.int n]=.ok (.str c)
def SF(Z:Gam):Prop:=∀(m:Ag)(xs:Ac Ah)(b:Ae),0<=m->b<=400->xs.length<=100->TxB b xs->∃ ys:Ac Ah,TxB (2*b+1) ys/\ys.length<=2*xs.length+1/\Z.F 319 [.lst (xs.map D.str),.int m]=.ok (.lst (ys.map D.str))
section
variable{Z:Gam}
theorem fL(n:Ag):∃ c:Ah,asc c=Aa/\c.length=1/\Nx.run Z [.int n]=.ok (.str c):=by
 have ha:(AV " !\"#$&'()*+,-./0123456789:;<=>?@ABCDEFGHIJKLMNOPQRSTUVWXYZ[\\]^_`").length=64:=by kernel_rfl
 have hb:(AV "abcdefghijklmnopqrstuvwxyz{|}~#.#.").length=34:=by kernel_rfl
 have aa:asc (AV " !\"#$&'()*+,-./0123456789:;<=>?@ABCDEFGHIJKLMNOPQRSTUVWXYZ[\\]^_`")=Aa:=by kernel_rfl
 have ab:asc (AV "abcdefghijklmnopqrstuvwxyz{|}~#.#.")=Aa:=by kernel_rfl
 simp only[Nx];generalize AV " !\"#$&'()*+,-./0123456789:;<=>?@ABCDEFGHIJKLMNOPQRSTUVWXYZ[\\]^_`" = A at *
 generalize AV "abcdefghijklmnopqrstuvwxyz{|}~#.#." = B at *;have ad:=LM (x:=A) (y:=B) (by omega)
 have al:=Jd aa ab;have ll:=Le A B;generalize A++B=C at *;have cz:C.cps.size=98:=by show C.length=98;omega
 have ln:=JR (t:=C) (by omega)
 rw[cz]at ln;have r0:=CZ n (b:=98) (by omega)
 have r1:=Cz n (b:=98) (by omega)
 obtain⟨k,hk⟩:=Fs r0;have ix:=TM (t:=C) (k:=k) (by omega) (by omega)
 rw[E5,<-hk]at ix;refine⟨sg (C.cps.toList.getD k 0),?_,rfl,?_⟩
 .rw[Lu];intro c hc;have hc':c=C.cps.toList.getD k 0:=by simpa [sg] using hc
  rw[hc'];have hk':k<C.cps.toList.length:=by rw[AF];omega
  rw[Ba,AE hk',Hm];exact Lu.mp al _ (BH hk')
 .generalize sg (C.cps.toList.getD k 0)=S at *;have ln':biD .len [.str C]=.ok (.int 98):=ln;simp[Df.run,Cb,ad,ln',ix,BZ,-Ht]
end
section
variable{Z:Gam}
theorem jC(hs:SD Z)(m:Ag)(xs:Ac Ah)(b:Ae)(m0:0<=m)(hb:b<=400)(hl:xs.length<=100)(hx:TxB b xs):∃ ys:Ac Ah,TxB (2*b+1) ys/\ys.length<=2*xs.length+1/\HL.run Z [.lst (xs.map D.str),.int m]=.ok (.lst (ys.map D.str)):=by
 have ln:(xs.map D.str).length=xs.length:=AX ..;by_cases h0:xs.length=0
 .refine⟨xs,λx h=>⟨(hx x h).1,by have:=(hx x h).2;omega⟩,by omega,?_⟩
  have e:xs=[]:=Vd.mp h0;subst e;simp[HL,Df.run,Cb,BZ]
 have h0':¬ ((xs.length:Ag)=0):=by omega
 have hne:¬ xs=[]:=λe=>h0 (by rw[e];rfl)
 have hpos:0<xs.length:=by omega
 have q1:(0:Ag)<(xs.length:Ag):=by omega
 have r0:=CZ (m/7) (b:=(xs.length:Ag)) (by omega)
 have r1:=Cz (m/7) q1;generalize ht:m/7%(xs.length:Ag)=t at *;obtain⟨k,hk⟩:=Fs r0;have hkl:k<xs.length:=by omega
 obtain⟨a0,l0⟩:=hx xs[k] (BH _);have hxm:xs[k]∈xs:=BH _;have ix:CP (xs.map D.str) t=.ok (.str xs[k]):=by
  rw[hk];exact JI (by omega) (by simp[hkl])
 generalize xs[k]=x0 at *;have lx:biD .len [.str x0]=.ok (.int (x0.cps.size:Ag)):=JR (by omega)
 have xz:x0.cps.size=x0.length:=rfl;rw[xz]at lx;have q2:(0:Ag)<(x0.length:Ag)+1:=by omega
 generalize hu:m/84%((x0.length:Ag)+1)=u at *;have c2:∀(l1 u1 l2 u2:Am Ag),∃ ys:Ac Ah,TxB (2*b+1) ys/\ys.length<=2*xs.length+1/\CG .Add (.lst (Gv (xs.map D.str) l1 u1)) (.lst (Gv (xs.map D.str) l2 u2))=.ok (.lst (ys.map D.str)):=λl1 u1 l2 u2=>by
  obtain⟨ys,y1,y2,y3⟩:=L8 xs l1 u1;obtain⟨zs,z1,z2,z3⟩:=L8 xs l2 u2;refine⟨ys++zs,λy hy=>?_,by rw[Be];omega,?_⟩
  .rcases Ce.mp hy with hy|hy
   .exact⟨(hx y (y1 y hy)).1,by have:=(hx y (y1 y hy)).2;omega⟩
   .exact⟨(hx y (z1 y hy)).1,by have:=(hx y (z1 y hy)).2;omega⟩
  .rw[y3,z3,GY,Aq (FJ (by simp;omega)),Vg]
 have c3:∀(l1 u1 l2 u2:Am Ag)(z:Ah),asc z=Aa->z.length<=2*b+1->∃ ys:Ac Ah,TxB (2*b+1) ys/\ys.length<=2*xs.length+1/\CG .Add (.lst (Gv (xs.map D.str) l1 u1)) (.lst [.str z])=.ok (.lst (Gv (xs.map D.str) l1 u1++[.str z]))/\CG .Add (.lst (Gv (xs.map D.str) l1 u1++[.str z])) (.lst (Gv (xs.map D.str) l2 u2))=.ok (.lst (ys.map D.str)):=λl1 u1 l2 u2 z za zl=>by
  obtain⟨ys,y1,y2,y3⟩:=L8 xs l1 u1;obtain⟨zs,z1,z2,z3⟩:=L8 xs l2 u2;refine⟨ys++[z]++zs,λy hy=>?_,by simp only[Be,EJ];omega,?_,?_⟩
  .rcases Ce.mp hy with hy|hy
   .rcases Ce.mp hy with hy|hy
    .exact⟨(hx y (y1 y hy)).1,by have:=(hx y (y1 y hy)).2;omega⟩
    .rw[Bk.mp hy];exact⟨za,zl⟩
   .exact⟨(hx y (z1 y hy)).1,by have:=(hx y (z1 y hy)).2;omega⟩
  .rw[y3,GY,Aq (FJ (by simp;omega))]
  .rw[y3,z3,GY,Aq (FJ (by simp;omega))]
   simp
 obtain⟨C,ca,cl,e17⟩:=hs (m/1008);have s1:=Pz (x:=x0) (by omega) Af (Ab u)
 have s2:=Pz (x:=x0) (by omega) (Ab (u+1)) Af
 have s3:=Pz (x:=x0) (by omega) (Ab u) Af
 have n1:=L9 x0 Af (Ab u);have n2:=L9 x0 (Ab (u+1)) Af;have n3:=L9 x0 (Ab u) Af;have a1:=OB a0 Af (Ab u);have a2:=OB a0 (Ab (u+1)) Af;have a3:=OB a0 (Ab u) Af;generalize Fj x0 Af (Ab u)=K1 at *;generalize Fj x0 (Ab (u+1)) Af=K2 at *;generalize Fj x0 (Ab u) Af=K3 at *;have d1:=LM (x:=K1) (y:=K2) (by omega)
 have d2:=LM (x:=K1) (y:=C) (by omega)
 have l12:=Le K1 K2;have l1c:=Le K1 C;have d3:=LM (x:=K1++C) (y:=K3) (by omega)
 have d4:=LM (x:=K1++C) (y:=K2) (by omega)
 have l13:=Le (K1++C) K3;have l14:=Le (K1++C) K2;have v1:=Jd a1 a2;have v2:=Jd (Jd a1 ca) a3;have v3:=Jd (Jd a1 ca) a2;have hw:m%7=0\/m%7=1\/m%7=2\/m%7=3\/m%7=4\/m%7=5\/m%7=6:=by omega
 generalize K1++K2=Z_12 at *;generalize K1++C++K3=Z_13 at *;generalize K1++C++K2=Z_14 at *;generalize K1++C=Z_1 at *;have hL:biD .len [.lst (xs.map D.str)]=.ok (.int (xs.length:Ag)):=by rw[Gq,ln]
 generalize hN:(xs.length:Ag)=N at *;generalize hM:(x0.length:Ag)=M at *;rcases hw with w|w|w|w|w|w|w
 .obtain⟨ys,y1,y2,e⟩:=c2 Af (Ab t) (Ab (t+1)) Af;refine⟨ys,y1,y2,?_⟩;generalize ys.map D.str=Y_ at *;generalize xs.map D.str=L at *;simp[HL,Df.run,Cb,hL,ht,q1,w,slE,ix,lx,hu,q2,h0',e,BZ,-GY,-Ht,-Gq]
 .obtain⟨ys,y1,y2,e,f⟩:=c3 Af (Ab t) (Ab t) Af x0 a0 (by omega)
  refine⟨ys,y1,y2,?_⟩;generalize ys.map D.str=Y_ at *;generalize xs.map D.str=L at *;simp[HL,Df.run,Cb,hL,ht,q1,w,slE,ix,lx,hu,q2,h0',e,f,BZ,-GY,-Ht,-Gq]
 .obtain⟨ys,y1,y2,e⟩:=c2 (Ab (-1)) Af Af (Ab (-1));refine⟨ys,y1,y2,?_⟩;generalize ys.map D.str=Y_ at *;generalize xs.map D.str=L at *;simp[HL,Df.run,Cb,hL,ht,q1,w,slE,ix,lx,hu,q2,h0',e,BZ,-GY,-Ht,-Gq]
 .obtain⟨ys,y1,y2,e,f⟩:=c3 Af (Ab t) (Ab (t+1)) Af Z_12 v1 (by omega)
  refine⟨ys,y1,y2,?_⟩;generalize ys.map D.str=Y_ at *;generalize xs.map D.str=L at *;simp[HL,Df.run,Cb,hL,ht,q1,w,slE,ix,lx,hu,q2,h0',s1,s2,s3,e17,d1,d2,d3,d4,e,f,BZ,-GY,-Ht,-Gq]
 .obtain⟨ys,y1,y2,e,f⟩:=c3 Af (Ab t) (Ab (t+1)) Af Z_13 v2 (by omega)
  refine⟨ys,y1,y2,?_⟩;generalize ys.map D.str=Y_ at *;generalize xs.map D.str=L at *;simp[HL,Df.run,Cb,hL,ht,q1,w,slE,ix,lx,hu,q2,h0',s1,s2,s3,e17,d1,d2,d3,d4,e,f,BZ,-GY,-Ht,-Gq]
 .obtain⟨ys,y1,y2,e,f⟩:=c3 Af (Ab t) (Ab (t+1)) Af Z_14 v3 (by omega)
  refine⟨ys,y1,y2,?_⟩;generalize ys.map D.str=Y_ at *;generalize xs.map D.str=L at *;simp[HL,Df.run,Cb,hL,ht,q1,w,slE,ix,lx,hu,q2,h0',s1,s2,s3,e17,d1,d2,d3,d4,e,f,BZ,-GY,-Ht,-Gq]
 .obtain⟨ys,y1,y2,e,f⟩:=c3 Af (Ab t) (Ab (t+1)) Af Z_14 v3 (by omega)
  refine⟨ys,y1,y2,?_⟩;generalize ys.map D.str=Y_ at *;generalize xs.map D.str=L at *;simp[HL,Df.run,Cb,hL,ht,q1,w,slE,ix,lx,hu,q2,h0',s1,s2,s3,e17,d1,d2,d3,d4,e,f,BZ,-GY,-Ht,-Gq]
end
noncomputable def K8:E:=(.idx (.str (AV ".#")) (.bin .Mod (.bin .FloorDiv (.call 3 (.cons (.var 0) (.cons (.bin .Add (.bin .Mult (.int 12) (.var 3)) (.var 5)) .nil))) (.int 5)) (.int 2)))
noncomputable def L3:Ss:=(.cons (.asg 4 Ad (.bin .Add (.var 1) (.bi .int (.cons (.cmp .Eq (.var 3) (.var 1)) .nil)))) (.cons (.app 2 (.bi .sjoin (.cons (.str (AV "")) (.cons (.comp K8 5 (.rng (.var 4)) FD) .nil)))) .nil))
noncomputable def NK:Df:=⟨6,Ad,(.cons (.asg 2 Aa (.lst .nil)) (.cons (.fors 3 (.rng (.bin .Add (.var 1) (.int 1))) L3) (.cons (.ret (.var 2)) .nil)))⟩
noncomputable def Nu:Df:=⟨4,Ad,(.cons (.asg 2 Ad (.bl Ad)) (.cons (.tryx (.cons (.expr (.call 313 (.cons (.var 0) (.cons (.var 1) .nil)))) .nil) 16 3 (.cons (.asg 2 Ad (.and (.cons (.isi (.var 3) [.cls 0]) (.cons (.isi (.var 3) [.verr]) (.cons (.no (.isi (.var 3) [.cls 106,.cls 12,.cls 1])) .nil))))) .nil)) (.cons (.ret (.var 2)) .nil)))⟩
noncomputable def Qb:E:=(.bl Aa)
noncomputable def Qc:E:=(.and (.cons (.isi (.var 2) [.int]) (.cons (.no (.isi (.var 2) [.bool])) .nil)))
noncomputable def Oc:Df:=⟨3,Ad,(.cons (.ife (.or (.cons (.no (.isi (.var 0) [.tuple])) (.cons (.cmp .NotEq (.var 0) (.var 1)) .nil))) (.cons (.ret (.bl Ad)) .nil) .nil) (.cons (.ret (.bi .all (.cons (.comp Qc 2 (.e (.var 0)) Qb) .nil))) .nil))⟩
noncomputable def Qa:E:=(.bl Aa)
noncomputable def NN:E:=(.call 45 (.cons (.var 2) (.cons (.var 2) .nil)))
noncomputable def Ob:Df:=⟨3,Ad,(.cons (.ret (.and (.cons (.isi (.var 0) [.list]) (.cons (.cmp .Eq (.var 0) (.var 1)) (.cons (.bi .all (.cons (.comp NN 2 (.e (.var 0)) Qa) .nil)) .nil))))) .nil)⟩
theorem P8{sep:Ah}(hs:asc sep=Aa):∀ xs:Ac Ah,(∀ x∈xs,asc x=Aa)->asc (K5 sep xs)=Aa
 |[],_=>by
  show asc Str.empty=Aa;decide+kernel
 |[x],h=>h x (by simp)
 |x::y::r,h=>by
  show asc (x++sep++K5 sep (y::r))=Aa;exact Jd (Jd (h x (by simp)) hs) (P8 hs (y::r) λz hz=>h z (AC _ hz))
theorem Qf:∀ xs:Ac Ah,Jg (xs.map D.str)=Ab xs
 |[]=>rfl
 |x::xs=>by
  show (Jg (xs.map D.str)).map (x :: ·)=_;rw[Qf xs];rfl
theorem P3:∀ xs:Ac Ah,(∀ x∈xs,x.length=1)->(xs.map (·.length)).sum=xs.length
 |[],_=>rfl
 |x::xs,h=>by
  rw[BP,List.sum_cons,P3 xs λy hy=>h y (AC _ hy),h x (by simp),AS]
  omega
theorem qV{xs:Ac Ah}(hl:xs.length<=100)(hx:∀ x∈xs,asc x=Aa/\x.length=1):∃ t:Ah,asc t=Aa/\t.length<=100/\biD .sjoin [.str (AV ""),.lst (xs.map D.str)]=.ok (.str t):=by
 have e0:(AV "").length=0:=by kernel_rfl
 have a0:asc (AV "")=Aa:=by kernel_rfl
 generalize AV "" = E0 at *;have sm:=P3 xs λx h=>(hx x h).2
 have jl:=StrLaws.join_length_le E0 xs;rw[sm,e0,Vx,Hj]at jl;have jo:IY E0 xs=Aa:=by
  unfold IY Builtin.Str.tooLong;rw[StrLaws.joinTotal,sm,e0,Vx,Hj];have:¬ (xs.length>sizeLine):=λh=>by
   have:sizeLine ≥ 1000:=by decide
   omega
  simp[this]
 refine⟨K5 E0 xs,P8 a0 xs λx h=>(hx x h).1,by omega,?_⟩
 show Lv E0 (xs.map D.str)=_;unfold Lv;rw[Qf];show (if IY E0 xs=Aa then R.ok (D.str (K6 E0 xs)) else .bad)=_
 rw[Aq jo];show R.ok (D.str (Builtin.Str.glued E0 xs))=_;rw[StrLaws.glued_eq_join]
theorem Qu{g:D->R Ai}{f:D->R D}:∀ l:Ac D,(∀ d∈l,g d=.ok Aa/\∃ x:Ah,(asc x=Aa/\x.length=1)/\f d=.ok (.str x))->∃ xs:Ac Ah,xs.length=l.length/\(∀ x∈xs,asc x=Aa/\x.length=1)/\Ch g f l=.ok (xs.map D.str)
 |[],_=>⟨[],rfl,λ_ h=>(by cases h),rfl⟩
 |d::l,h=>by
  obtain⟨g1,x,hx,f1⟩:=h d (by simp)
  obtain⟨xs,h1,h2,h3⟩:=Qu l λy hy=>h y (AC _ hy)
  refine⟨x::xs,by rw[AS,AS,h1],λy hy=>?_,?_⟩
  .rcases AI.mp hy with e|e
   .rw[e];exact hx
   .exact h2 y e
  .show (g d).bind _=_;rw[g1,R.bind_ok,Aq rfl,f1,R.bind_ok];show (Ch g f l).bind _=_;rw[h3];rfl
section
variable{Z:Gam}
theorem qF(hm:Km Z)(ns:Ac Ag)(P L s4:Sl)(y x:Ag)(hy:FG 12 y=Aa):∃ c:Ah,(asc c=Aa/\c.length=1)/\cF Z [sh (scr ns),P,L,si y,s4,Af] 5 K8 (.int x)=.ok (.str c):=by
 have e:=hm ns (12*y+x);generalize IN ns (12*y+x)=m at *;have i0:Hw (.str (AV ".#")) (.int 0)=.ok (.str dot):=by kernel_rfl
 have i1:Hw (.str (AV ".#")) (.int 1)=.ok (.str hsh):=by kernel_rfl
 generalize scr ns=S at *;have hr:m/5%2=0\/m/5%2=1:=by omega
 rcases hr with r|r
 .refine⟨dot,⟨by decide+kernel,rfl⟩,?_⟩
  generalize hT:AV ".#" = T at *;simp[cF,K8,hy,e,r,i0,hT]
 .refine⟨hsh,⟨by decide+kernel,rfl⟩,?_⟩
  generalize hT:AV ".#" = T at *;simp[cF,K8,hy,e,r,i1,hT]
theorem hG(hm:Km Z)(ns:Ac Ag)(p0:0<=p)(p1:p<=11)(y:Ag)(hy:FG 12 y=Aa)(xs:Ac Ah)(hl:xs.length<=100)(s3 s4:Sl):∃ t:Ah,(asc t=Aa/\t.length<=100)/\∃ s4',Bw Z 3 L3 (.int y) [sh (scr ns),si p,Ab (.lst (xs.map D.str),Aa),s3,s4,Af]=.next [sh (scr ns),si p,Ab (.lst ((xs++[t]).map D.str),Aa),si y,s4',Af]:=by
 obtain⟨q,hq,q0,q1⟩:∃ q:Ag,(∀ U:Rho,evE Z [sh (scr ns),si p,Ab (.lst (xs.map D.str),Aa),si y,s4,Af] (.bin .Add (.var 1) (.bi .int (.cons (.cmp .Eq (.var 3) (.var 1)) .nil)))=.ok (.int q))/\0<=q/\q<=12:=by
  generalize xs.map D.str=X at *;generalize scr ns=S at *;by_cases h:y=p
  .exact⟨p+1,λ_=>by simp[h,b2i],by omega,by omega⟩
  .exact⟨p,λ_=>by simp[h,b2i],by omega,by omega⟩
 have rg:Dj 0 q=.ok (Dt 0 q.toNat):=Ld q0 (by omega)
 obtain⟨cs,c1,c2,c3⟩:=Qu (g:=cG Z [sh (scr ns),si p,Ab (.lst (xs.map D.str),Aa),si y,si q,Af] 5 FD) (f:=cF Z [sh (scr ns),si p,Ab (.lst (xs.map D.str),Aa),si y,si q,Af] 5 K8) (Dt 0 q.toNat) λd hd=>by
  obtain⟨k,_,rfl⟩:=Zq hd;exact⟨rfl,qF hm ns (si p) _ (si q) y _ hy⟩
 rw[J9]at c1;obtain⟨t,t1,t2,t3⟩:=qV (xs:=cs) (by omega) c2
 refine⟨t,⟨t1,t2⟩,si q,?_⟩;have z:BD ((xs.map D.str).length+1)=Aa:=FJ (by rw[AX];omega)
 rw[Vg,BP,Vh];have hq:=hq [];generalize cs.map D.str=C at *;generalize xs.map D.str=X at *;generalize scr ns=S at *;generalize Dt 0 q.toNat=R1 at *;generalize hE:E.bin .Add (.var 1) (.bi .int (.cons (.cmp .Eq (.var 3) (.var 1)) .nil))=EE at *;generalize hT:AV "" = T at *;simp[Bw,L3,hE,hq,rg,c3,t3,Cj,z,hT]
def Sw(Z:Gam):Prop:=∀(ns:Ac Ag)(p:Ag),P4 p->∃ xs:Ac Ah,TxB 100 xs/\xs.length<=20/\Z.F 318 [scr ns,.int p]=.ok (.lst (xs.map D.str))
theorem fH(hm:Km Z)(ns:Ac Ag)(p:Ag)(hp:P4 p):∃ xs:Ac Ah,TxB 100 xs/\xs.length<=20/\NK.run Z [scr ns,.int p]=.ok (.lst (xs.map D.str)):=by
 have p0:=hp.pos;have ph:p<=11:=by rcases hp with h|h|h|h<;>omega
 have rg:Dj 0 (p+1)=.ok (Dt 0 (p+1).toNat):=Ld (by omega) (by omega)
 obtain⟨U1,e1,xs,hl,hx,s3,s4,rfl⟩:=Ma (body:=Bw Z 3 L3) (λn U=>∃ xs:Ac Ah,xs.length=n/\TxB 100 xs/\∃ s3 s4:Sl,U=[sh (scr ns),si p,Ab (.lst (xs.map D.str),Aa),s3,s4,Af]) (Dt 0 (p+1).toNat) 0 [sh (scr ns),si p,Ab (.lst [],Aa),Af,Af,Af] ⟨[],rfl,λ_ z=>absurd z (by simp),Af,Af,rfl⟩ (by
  rintro i x hx U ⟨xs,hl,hv,s3,s4,rfl⟩;obtain⟨hi,rfl⟩:=N8 hx;obtain⟨t,ht,s4',e⟩:=hG hm ns (p:=p) (by omega) ph (0+(i:Ag)) (Ot (by omega) (by omega)) xs (by omega) s3 s4
  refine⟨_,e,xs++[t],by rw[Be,EJ];omega,λu hu=>?_,_,_,rfl⟩
  rcases Ce.mp hu with z|z
  .exact hv u z
  .rw[Bk.mp z];exact ht)
 rw[C3,J9]at hl;refine⟨xs,hx,by omega,?_⟩
 generalize xs.map D.str=X at *;generalize scr ns=S at *;generalize Dt 0 (p+1).toNat=R1 at *;simp[NK,Df.run,Cb,rg,e1,BZ,Iz]
theorem fN(hu:Z.up 16=[16,0])(p X:D)(h:Z.F 313 [p,X]=.exn exP):Nu.run Z [p,X]=.ok (.bl Aa):=by
 simp[Nu,Df.run,Cb,h,exP,hu,kiD,Et]
def Sz(Z:Gam):Prop:=∀ q:R3,Z.F 45 [Cd Aa q,Cd Aa q]=.ok (.bl Aa)
theorem fK(q:R3):Oc.run Z [Cd Aa q,Cd Aa q]=.ok (.bl Aa):=by
 have e:BK .NotEq (Cd Aa q) (Cd Aa q)=.ok (.bl Ad):=by
  have fl:flD 5 (Cd Aa q)=Aa:=rfl;show (if (flD 5 (Cd Aa q)&&flD 5 (Cd Aa q))=Aa then R.ok (D.bl (!eqD (Cd Aa q) (Cd Aa q))) else .bad)=_
  rw[fl,Mk 5 _ fl];rfl
 have er:Cd Aa q=.tup [.int q.1,.int q.2.1,.int q.2.2]:=rfl;rw[er]at e ⊢;simp[Oc,Df.run,Cb,e,Ch,cG,cF,Qb,Qc,mkL,F4,F1]
theorem QC{g:D->R Ai}{f:D->R D}:∀ l:Ac R3,(∀ q∈l,g (Cd Aa q)=.ok Aa/\f (Cd Aa q)=.ok (.bl Aa))->Ch g f (rw3 l)=.ok (l.map λ_=>D.bl Aa)
 |[],_=>rfl
 |q::l,h=>by
  obtain⟨g1,f1⟩:=h q (by simp)
  show (g (Cd Aa q)).bind _=_;rw[g1,R.bind_ok,Aq rfl,f1,R.bind_ok];show (Ch g f (rw3 l)).bind _=_;rw[QC l λy hy=>h y (AC _ hy)]
  rfl
theorem SU(l:Ac R3):flD 5 (.lst (rw3 l))=Aa:=by
 show (rw3 l).all (flD 4)=Aa;unfold rw3;rw[E6];exact C8.mpr λ_ _=>rfl
def Sy(Z:Gam):Prop:=∀ l:Ac R3,Z.F 316 [.lst (rw3 l),.lst (rw3 l)]=.ok (.bl Aa)
theorem fJ(hs:Sz Z)(l:Ac R3):Ob.run Z [.lst (rw3 l),.lst (rw3 l)]=.ok (.bl Aa):=by
 have c:=QC (g:=cG Z [sh (.lst (rw3 l)),sh (.lst (rw3 l)),Af] 2 Qa) (f:=cF Z [sh (.lst (rw3 l)),sh (.lst (rw3 l)),Af] 2 NN) l λq _=>⟨rfl,by
  have e:=hs q;generalize Cd Aa q=Q at *;simp[cF,NN,e]⟩
 have fl:=SU l;have eq:=Mk 5 _ fl;have al:biD .all [.lst (l.map λ_=>D.bl Aa)]=.ok (.bl Aa):=by
  show (F1 (l.map λ_=>D.bl Aa)).bind _=_
  have:∀ l:Ac R3,F1 (l.map λ_=>D.bl Aa)=.ok Aa:=λl=>by
   induction l with
   |nil=>rfl
   |cons _ l ih=>
    show (F1 (l.map λ_=>D.bl Aa)).bind _=_
    rw[ih];rfl
  rw[this l];rfl
 generalize rw3 l=L at *;generalize (l.map λ_=>D.bl Aa)=M at *
 simp[Ob,Df.run,Cb,c,fl,eq,al]
end
noncomputable def K9:Ss:=(.cons (.asg 3 Ad (.call 319 (.cons (.var 3) (.cons (.call 3 (.cons (.var 0) (.cons (.bin .Add (.int 152) (.var 4)) .nil))) .nil)))) .nil)
noncomputable def GH:Df:=⟨7,Ad,(.cons (.asg 1 Ad (.call 4 (.cons (.var 0) (.cons (.int 150) .nil)))) (.cons (.asg 2 Ad (.call 3 (.cons (.var 0) (.cons (.int 151) .nil)))) (.cons (.asg 3 Ad (.call 318 (.cons (.var 0) (.cons (.var 1) .nil)))) (.cons (.ife (.cmp .Eq (.bin .Mod (.var 2) (.int 9)) (.int 1)) (.cons (.asg 3 Ad (.call 318 (.cons (.var 0) (.cons (.idx (.lst (.cons (.int 5) (.cons (.int 7) (.cons (.int 11) (.cons (.int 3) .nil))))) (.bin .Mod (.bin .FloorDiv (.var 2) (.int 9)) (.int 4))) .nil)))) .nil) .nil) (.cons (.ife (.cmp .Eq (.bin .Mod (.var 2) (.int 9)) (.int 2)) (.cons (.asg 3 Ad (.lst .nil)) .nil) .nil) (.cons (.fors 4 (.rng (.bin .Mod (.bin .FloorDiv (.var 2) (.int 9)) (.int 3))) K9) (.cons (.asg 5 Ad (.call 320 (.cons (.var 3) (.cons (.var 1) .nil)))) (.cons (.asg 6 Ad (.bi .list (.cons (.var 3) .nil))) (.cons (.ife (.cmp .Is (.var 5) .non) (.cons (.ret (.and (.cons (.call 321 (.cons (.var 1) (.cons (.var 6) .nil))) (.cons (.call 321 (.cons (.var 1) (.cons (.var 6) .nil))) (.cons (.cmp .Eq (.var 6) (.var 3)) .nil))))) .nil) .nil) (.cons (.ret (.and (.cons (.call 316 (.cons (.call 313 (.cons (.var 1) (.cons (.var 6) .nil))) (.cons (.var 5) .nil))) (.cons (.cmp .Eq (.var 6) (.var 3)) .nil)))) .nil))))))))))⟩
noncomputable def bT:Ae->Ae
 |0=>100
 |n+1=>2*bT n+1
noncomputable def cT:Ae->Ae
 |0=>20
 |n+1=>2*cT n+1
structure H92 (Z:Gam):Prop where
 mi:Km Z
 pr:Sq Z
 tx:Sw Z
 ch:SF Z
 du:Sr Z
 se:RK Z
 re:∀(n:Ae)(xs:Ac Ah),P4 n->Txs xs->good n xs=Ad->Z.F 321 [.int n,.lst (xs.map D.str)]=.ok (.bl Aa)
 st:Sy Z
section
variable{Z:Gam}{ns:Ac Ag}
theorem iC(h:H92 Z)(hp:P4 p)(ep:Z.F 4 [scr ns,.int 150]=.ok (.int p))(em:Z.F 3 [scr ns,.int 151]=.ok (.int m)):∃ xs:Ac Ah,TxB 100 xs/\xs.length<=20/\evSs Z [sh (scr ns),Af,Af,Af,Af,Af,Af] (GH.body.take 5)=.next [sh (scr ns),si p,si m,sh (.lst (xs.map D.str)),Af,Af,Af]:=by
 obtain⟨xs,x1,x2,ex⟩:=h.tx ns p hp;have hq:∃ q,P4 q/\CP [D.int 5,D.int 7,D.int 11,D.int 3] (m/9%4)=.ok (.int q):=by
  have:m/9%4=0\/m/9%4=1\/m/9%4=2\/m/9%4=3:=by omega
  rcases this with e|e|e|e<;>rw[e]
  .exact⟨5,.inr (.inl rfl),rfl⟩
  .exact⟨7,.inr (.inr (.inl rfl)),rfl⟩
  .exact⟨11,.inr (.inr (.inr rfl)),rfl⟩
  .exact⟨3,.inl rfl,rfl⟩
 obtain⟨q,hq,iq⟩:=hq;obtain⟨ys,y1,y2,ey⟩:=h.tx ns q hq;generalize scr ns=S at *;by_cases c1:m%9=1
 .refine⟨ys,y1,y2,?_⟩;generalize ys.map D.str=Y_ at *;generalize xs.map D.str=X at *;simp[GH,Ss.take,ep,em,ex,c1,iq,ey]
 .by_cases c2:m%9=2
  .refine⟨[],λ_ z=>absurd z (by simp),by simp,?_⟩
   generalize xs.map D.str=X at *;simp[GH,Ss.take,ep,em,ex,c1,c2]
  .refine⟨xs,x1,x2,?_⟩;generalize xs.map D.str=X at *;simp[GH,Ss.take,ep,em,ex,c1,c2]
theorem pM(h:H92 Z){P M:Sl}(j n:Ae)(hn:n<=1)(xs:Ac Ah)(hx:TxB (bT n) xs)(hl:xs.length<=cT n)(s4:Sl):∃ ys:Ac Ah,TxB (bT (n+1)) ys/\ys.length<=cT (n+1)/\Bw Z 4 K9 (.int (0+(j:Ag))) [sh (scr ns),P,M,sh (.lst (xs.map D.str)),s4,Af,Af]=.next [sh (scr ns),P,M,sh (.lst (ys.map D.str)),si (0+(j:Ag)),Af,Af]:=by
  have em:=h.mi ns (152+(0+(j:Ag)));have m0:=iQ ns (152+(0+(j:Ag)));generalize IN ns (152+(0+(j:Ag)))=m at *;have bb:bT n<=400/\cT n<=100:=by
    match n,hn with
    |0,_=>decide
    |1,_=>decide
    |k+2,h=>omega
  obtain⟨ys,y1,y2,e⟩:=h.ch m xs (bT n) m0 bb.1 (by omega) hx
  refine⟨ys,y1,by show ys.length<=2*cT n+1;omega,?_⟩
  generalize ys.map D.str=Y_ at *;generalize xs.map D.str=X at *;generalize scr ns=S at *;generalize (0+(j:Ag))=J at *;simp[Bw,K9,em,e]
theorem gN(h:H92 Z){n:Ae}(hp:P4 n){M:Sl}(xs:Ac Ah)(ht:Txs xs)(hl:xs.length<=900):(evSs Z [sh (scr ns),si n,M,sh (.lst (xs.map D.str)),s4,Af,Af] (GH.body.drop 6)).ans Ad=.ok (.bl Aa):=by
 have du:=h.du n xs hp ht;have se:=h.se n xs hp ht;have fl:flD 5 (.lst (xs.map D.str))=Aa:=by
  show (xs.map D.str).all (flD 4)=Aa;rw[E6];exact C8.mpr λ_ _=>rfl
 have eq:=Mk 5 _ fl;have st:=h.st (Jj n xs);have fr:=SU (Jj n xs);have re:=h.re n xs hp ht;unfold Nl at du;cases hg:good n xs with
 |true=>
  rw[hg,Aq rfl]at du se
  clear re
  generalize rw3 (Jj n xs)=Z_ at *;generalize xs.map D.str=X at *;generalize scr ns=S at *;generalize (n:Ag)=N at *;simp[GH,Ss.drop,du,se,st,fl,eq]
 |false=>
  have re:=re hg;rw[hg,As Az]at du se
  clear st fr se
  generalize xs.map D.str=X at *;generalize scr ns=S at *;generalize (n:Ag)=N at *;simp[GH,Ss.drop,du,re,fl,eq]
theorem kU(h:H92 Z):GH.run Z [scr ns]=.ok (.bl Aa):=by
  obtain⟨p,hp,ep⟩:∃ p,P4 p/\Z.F 4 [scr ns,.int 150]=.ok (.int p):=⟨_,YR ns 150,h.pr ns 150⟩;have em:=h.mi ns 151;generalize IN ns 151=m at *;obtain⟨xs,x1,x2,e1⟩:=iC h hp ep em;obtain⟨n,rfl⟩:=Fs (show 0<=p from by have:=hp.pos;omega)
  have r0:=CZ (m/9) (b:=3) (by decide)
  have r1:=Cz (m/9) (b:=3) (by decide)
  have rg:Dj 0 (m/9%3)=.ok (Dt 0 (m/9%3).toNat):=Ld r0 (by omega)
  obtain⟨U2,e2,ys,hy,hyl,u4,rfl⟩:=Ma (body:=Bw Z 4 K9) (λn' U=>∃ ys:Ac Ah,TxB (bT n') ys/\ys.length<=cT n'/\∃ u4:Sl,U=[sh (scr ns),si n,si m,sh (.lst (ys.map D.str)),u4,Af,Af]) (Dt 0 (m/9%3).toNat) 0 [sh (scr ns),si n,si m,sh (.lst (xs.map D.str)),Af,Af,Af] ⟨xs,x1,x2,Af,rfl⟩ (by
    rintro i x hx U ⟨ys,y1,y2,u4,rfl⟩;obtain⟨hi,rfl⟩:=N8 hx;rw[C3]at y1 y2;obtain⟨zs,z1,z2,e⟩:=pM (ns:=ns) h (P:=si n) (M:=si m) i i (by omega) ys y1 y2 u4
    exact⟨_,e,zs,by rw[C3];exact z1,by rw[C3];exact z2,_,rfl⟩)
  rw[C3,J9]at hy hyl;have bb:bT (m/9%3).toNat<=900/\cT (m/9%3).toNat<=900:=by
    have:(m/9%3).toNat<=2:=by omega
    generalize (m/9%3).toNat=k at *
    match k,this with
    |0,_=>decide
    |1,_=>decide
    |2,_=>decide
    |k+3,h=>omega
  have ht:Txs ys:=λy hy'=>⟨(hy y hy').1,B5 (hy y hy').2 bb.1⟩
  have e0:GH.run Z [scr ns]=(evSs Z [sh (scr ns),Af,Af,Af,Af,Af,Af] GH.body).ans Ad:=rfl;rw[e0,QW Z 5,e1,RM];have e4:GH.body.drop 5=.cons (.fors 4 (.rng (.bin .Mod (.bin .FloorDiv (.var 2) (.int 9)) (.int 3))) K9) (GH.body.drop 6):=rfl;have e5:G3 Z [sh (scr ns),si n,si m,sh (.lst (xs.map D.str)),Af,Af,Af] (.rng (.bin .Mod (.bin .FloorDiv (.var 2) (.int 9)) (.int 3)))=.ok (Dt 0 (m/9%3).toNat):=by
    generalize xs.map D.str=X at *;generalize scr ns=S at *;generalize Dt 0 (m/9%3).toNat=R1 at *;generalize (n:Ag)=N at *;simp[rg]
  rw[e4,Zg,ZD,e5,cC,e2,RM];exact gN h hp ys ht (by omega)
end
noncomputable def qI:Ae->Ac Ae
 |2=>[2,0]
 |3=>[3,0]
 |16=>[16,0]
 |_=>[]
noncomputable def Ps:Ae->Ac D->R Ex
 |16,_=>.ok ⟨16,[]⟩
 |_,_=>.bad
noncomputable def Q92:Prg:=⟨Aa,fun
 |1=>OY
 |9=>LW
 |17=>Mb
 |309=>LZ
 |312=>Lj
 |313=>Jf
 |2=>NE
 |3=>NM
 |4=>NL
 |44=>Lk
 |45=>Oc
 |316=>Ob
 |317=>Nx
 |318=>NK
 |319=>HL
 |320=>HM
 |321=>Nu
 |322=>GH
 | _=>⟨0,Ad,.nil⟩,λ_=>.non,qI,Ps⟩
theorem nV(ns:Ac Ag):(gam Q92 8).F 322 [scr ns]=.ok (.bl Aa):=by
 have rs:∀ n,MM (gam Q92 (n+1)):=λn p m hp=>fM (gam Q92 n) p m hp
 have tu:∀ n,NX (gam Q92 (n+2)):=λn p m hp z=>YE (rs n) p m hp z
 have fo:∀ n,OE (gam Q92 (n+3)):=λn p b xs l t hp e it=>ZZ (rs (n+1)) (tu n) hp e it
 have xn:∀ n es,(gam Q92 n).xn 16 es=.ok exP:=λn es=>by cases n<;>rfl
 have pc:∀ n,T5 (gam Q92 (n+4)):=λn k hp=>mB (fo n) k hp
 have rw':∀ n,OD (gam Q92 (n+1)):=λn x as a b c=>aW (Z:=gam Q92 n) (xn n) x as a b c
 have se:∀ n,RK (gam Q92 (n+5)):=λn k xs hp ht=>YL (pc n) (rw' (n+3)) rfl (xn _) k xs hp ht
 have ce:∀ n,SG (gam Q92 (n+1)):=λn ns k=>jD (gam Q92 n) ns k
 have mi:∀ n,Km (gam Q92 (n+2)):=λn ns k=>ZY (ce n) ns k
 have pr:∀ n,Sq (gam Q92 (n+3)):=λn ns k=>aX (mi n) ns k
 have sg':∀ n,SD (gam Q92 (n+1)):=λn m=>fL (Z:=gam Q92 n) m
 have ch:∀ n,SF (gam Q92 (n+2)):=λn m xs b m0 b1 hl hx=>jC (sg' n) m xs b m0 b1 hl hx
 have lf:∀ n,Nc (gam Q92 (n+1)):=λn p xs l t hp e it=>(YM (gam Q92 n) hp).2 l t e it
 have du:∀ n,Sr (gam Q92 (n+2)):=λn k xs hp ht=>Z_0 (lf n) k xs hp ht
 have tx:∀ n,Sw (gam Q92 (n+3)):=λn ns p hp=>fH (mi n) ns p hp
 have sm:∀ n,Sz (gam Q92 (n+1)):=λn q=>fK (Z:=gam Q92 n) q
 have st:∀ n,Sy (gam Q92 (n+2)):=λn l=>fJ (sm n) l
 refine kU (Z:=gam Q92 7) ⟨mi 5,pr 4,tx 4,ch 5,du 5,se 2,λn xs hp ht hg=>?_,st 5⟩
 have e:=se 1 n xs hp ht;rw[hg,As Az]at e;exact fN (Z:=gam Q92 6) rfl _ _ e
end OvC
namespace OvC
open PySem PySem.Spec PyProof.Rows Ov L2
variable{l:FM}
noncomputable def tp92(i:Ae):AZ:=PySem.Challenge.pw_ovalfield_k92_no_picture.main.body.getD i (.Pass ⟨0,0,0,0⟩)
noncomputable def Ud:Ac (Ah×Ae×Ae):=([("rest",1,2),("turned_over",9,2),("one_form",17,2),("picture_rows",309,1),("row_seen",312,2),("seen",313,2),("_law_cell_at",2,2),("_law_mixed",3,2),("_law_prime",4,2),("_law_form",44,2),("_law_same_tuple",45,2),("_law_same_triples",316,2),("_law_sign",317,1),("_law_texts",318,2),("_law_changed",319,2),("_law_due",320,2),("_law_refused",321,2),("law",322,1)]:Ac (Ah×Ae×Ae))
noncomputable def UJ:Ac Ah:=["ValueError", "all", "bool", "int", "isinstance", "len", "list", "range", "sorted", "tuple", "zip"]
noncomputable def O0:Ac (Ah×Ae):=[("NoPicture",16)]
noncomputable def O3:Ac (Ah×Ae):=[("NoPicture",16),("OvalError",0),("BadRow",106),("NoRow",12),("NoPrime",1)]
noncomputable def TQ:Ac (Ah×Ae):=[]
noncomputable abbrev C92(h:Ai)(n:Ae)(N:Ac Ah)(i d:Ae):Ai:=IM 80 h Ud UJ O0 O3 TQ (N.take n) N (tp92 i) (Q92.defs d)
theorem kI:C92 Ad 2 ["p", "n"] 9 1=Aa:=by decide+kernel
theorem kH:C92 Ad 2 ["p", "n", "turned"] 10 9=Aa:=by decide+kernel
theorem kG:C92 Ad 2 ["p", "numbers", "rests", "first", "factor", "#5", "#6"] 12 17=Aa:=by decide+kernel
theorem kF:C92 Ad 1 ["p", "rows", "y", "#3", "#4"] 14 309=Aa:=by decide+kernel
theorem kE:C92 Ad 2 ["text", "row", "told", "sign", "point"] 15 312=Aa:=by decide+kernel
theorem kD:C92 Ad 2 ["p", "texts", "rows", "told", "text", "row"] 16 313=Aa:=by decide+kernel
theorem kC:C92 Ad 2 ["_law_script", "_law_k"] 18 2=Aa:=by decide+kernel
theorem kB:C92 Ad 2 ["_law_script", "_law_k"] 19 3=Aa:=by decide+kernel
theorem kA:C92 Ad 2 ["_law_script", "_law_k"] 20 4=Aa:=by decide+kernel
theorem jZ:C92 Ad 2 ["_law_numbers", "_law_p", "_law_rests", "_law_lead", "_law_over", "#5", "#6", "#7", "#8"] 21 44=Aa:=by decide+kernel
theorem fA:C92 Ad 2 ["_law_found", "_law_due_here", "#2"] 22 45=Aa:=by decide+kernel
theorem eZ:C92 Ad 2 ["_law_found", "_law_due_here", "#2"] 23 316=Aa:=by decide+kernel
theorem eY:C92 Ad 1 ["_law_cell", "_law_some"] 24 317=Aa:=by decide+kernel
theorem eX:C92 Ad 2 ["_law_script", "_law_p", "_law_rows", "_law_y", "_law_size", "#5"] 25 318=Aa:=by decide+kernel
theorem eW:C92 Ad 2 ["_law_texts_here", "_law_mix", "_law_way", "_law_at", "_law_text", "_law_place", "_law_sign_here", "_law_new"] 26 319=Aa:=by decide+kernel
theorem eV:C92 Ad 2 ["_law_texts_here", "_law_p", "_law_found", "_law_y", "_law_x", "_law_spot"] 27 320=Aa:=by decide+kernel
theorem eU:C92 Ad 2 ["_law_p", "_law_texts_here", "_law_plain", "e"] 28 321=Aa:=by decide+kernel
theorem Sj:C92 Ad 1 ["_law_script", "_law_p", "_law_mix", "_law_texts_here", "_law_k", "_law_due_here", "_law_handed"] 29 322=Aa:=by decide+kernel
set_option maxHeartbeats 0 in
theorem all92{w:AY}{K:Fg}{h:AD}{mg:Ah->Am Aj}{fa f0 f1 f2 f3 f4 f5 f6 f7 f8 f9 f10 f11 f12 f13 f14 f15 f16 f17 x0 x1 x2 x3 x4:Ak}(X:K.In h)(G:h.Ns Bc mg)(hfa:mg "law" = Ab (.ref fa))(a0:FnI K f0 "rest" (tp92 9))(a1:FnI K f1 "turned_over" (tp92 10))(a2:FnI K f2 "one_form" (tp92 12))(a3:FnI K f3 "picture_rows" (tp92 14))(a4:FnI K f4 "row_seen" (tp92 15))(a5:FnI K f5 "seen" (tp92 16))(a6:FnI K f6 "_law_cell_at" (tp92 18))(a7:FnI K f7 "_law_mixed" (tp92 19))(a8:FnI K f8 "_law_prime" (tp92 20))(a9:FnI K f9 "_law_form" (tp92 21))(a10:FnI K f10 "_law_same_tuple" (tp92 22))(a11:FnI K f11 "_law_same_triples" (tp92 23))(a12:FnI K f12 "_law_sign" (tp92 24))(a13:FnI K f13 "_law_texts" (tp92 25))(a14:FnI K f14 "_law_changed" (tp92 26))(a15:FnI K f15 "_law_due" (tp92 27))(a16:FnI K f16 "_law_refused" (tp92 28))(a17:FnI K f17 "law" (tp92 29))(cx0:XA K "NoPicture" x0 Af)(cx1:XE K "OvalError" x1)(cx2:XE K "BadRow" x2)(cx3:XE K "NoRow" x3)(cx4:XE K "NoPrime" x4)(sx0:SuC K x0 [(x0,Aa)])(sx1:SuC K x1 [(x0,Aa)])(sx2:SuC K x2 [(x0,Ad)])(sx3:SuC K x3 [(x0,Ad)])(sx4:SuC K x4 [(x0,Ad)])(z0:Bv K Bc "ValueError" = Ab Af)(z1:Bv K Bc "all" = Ab Af)(z2:Bv K Bc "bool" = Ab Af)(z3:Bv K Bc "int" = Ab Af)(z4:Bv K Bc "isinstance" = Ab Af)(z5:Bv K Bc "len" = Ab Af)(z6:Bv K Bc "list" = Ab Af)(z7:Bv K Bc "range" = Ab Af)(z8:Bv K Bc "sorted" = Ab Af)(z9:Bv K Bc "tuple" = Ab Af)(z10:Bv K Bc "zip" = Ab Af):
    ∃ fd:BQ,(∀(s:Ap)(v:Aj),GD s fd ⟨[v],[]⟩ [("_law_script",v)])/\∀ base:AD,K.In base->base.Ns Bc mg->FnOk l.prog w K mg base (CXR l.prog w) 8 fa fd ["_law_script"] (MV K):=by
  obtain⟨_,F,e⟩:=a17;obtain⟨_,_,_,_,_,_,_,_,_,rfl,_,_⟩:=F.ex;cases hfa.symm.trans (Dx X G e);have XT92:XT Q92.up Q92.xn (clL [(16,x0)]) O0 O3 K mg:=by
    refine lS (all_cons (cx0.row λ_=>by first|exact .inr rfl|exact .inl rfl) (all_nil)) (all_cons ⟨_,rfl,Dx X G cx0.n⟩ (all_nil)) (all_cons ⟨_,Dx X G cx0.n,cx0.kc,sx0⟩ (all_cons ⟨_,Dx X G cx1.n,cx1.kc,sx1⟩ (all_cons ⟨_,Dx X G cx2.n,cx2.kc,sx2⟩ (all_cons ⟨_,Dx X G cx3.n,cx3.kc,sx3⟩ (all_cons ⟨_,Dx X G cx4.n,cx4.kc,sx4⟩ (all_nil)))))) ?_
    intro c q ds;show Ps c ds=.bad;unfold Ps;split<;>first|rfl|exact absurd rfl (q ("NoPicture",16) (by decide))
  have T:Tab K mg (clL [(16,x0)]) Ud UJ O0 O3 TQ Q92 80:=⟨XT92,all_cons (BM X G z0) (all_cons (BM X G z1) (all_cons (BM X G z2) (all_cons (BM X G z3) (all_cons (BM X G z4) (all_cons (BM X G z5) (all_cons (BM X G z6) (all_cons (BM X G z7) (all_cons (BM X G z8) (all_cons (BM X G z9) (all_cons (BM X G z10) (all_nil))))))))))),all_nil,all_cons (F5 2 1 X G a0 rfl kI λ_ _ _ _ _ _ _ _=>rfl) (all_cons (F5 2 9 X G a1 rfl kH λ_ _ _ _ _ _ _ _=>rfl) (all_cons (F5 2 17 X G a2 rfl kG λ_ _ _ _ _ _ _ _=>rfl) (all_cons (Py 1 309 X G a3 rfl kF λ_ _ _ _ _ _ _=>rfl) (all_cons (F5 2 312 X G a4 rfl kE λ_ _ _ _ _ _ _ _=>rfl) (all_cons (F5 2 313 X G a5 rfl kD λ_ _ _ _ _ _ _ _=>rfl) (all_cons (F5 2 2 X G a6 rfl kC λ_ _ _ _ _ _ _ _=>rfl) (all_cons (F5 2 3 X G a7 rfl kB λ_ _ _ _ _ _ _ _=>rfl) (all_cons (F5 2 4 X G a8 rfl kA λ_ _ _ _ _ _ _ _=>rfl) (all_cons (F5 2 44 X G a9 rfl jZ λ_ _ _ _ _ _ _ _=>rfl) (all_cons (F5 2 45 X G a10 rfl fA λ_ _ _ _ _ _ _ _=>rfl) (all_cons (F5 2 316 X G a11 rfl eZ λ_ _ _ _ _ _ _ _=>rfl) (all_cons (Py 1 317 X G a12 rfl eY λ_ _ _ _ _ _ _=>rfl) (all_cons (F5 2 318 X G a13 rfl eX λ_ _ _ _ _ _ _ _=>rfl) (all_cons (F5 2 319 X G a14 rfl eW λ_ _ _ _ _ _ _ _=>rfl) (all_cons (F5 2 320 X G a15 rfl eV λ_ _ _ _ _ _ _ _=>rfl) (all_cons (F5 2 321 X G a16 rfl eU λ_ _ _ _ _ _ _ _=>rfl) (all_cons (Py 1 322 X G ⟨_,F,e⟩ rfl Sj λ_ _ _ _ _ _ _=>rfl) (all_nil))))))))))))))))))⟩
  exact⟨_,λs v=>.of_eq rfl,λbase _ _=>law_fn (S6 T (OH T 7) (T9 F) rfl Sj) nV⟩
theorem walk92{q:AM}{loose:Ac Ah}{XP:(Ah->Am Aj)->AD->Prop}{YP:AY->AD->Prop}{d:DefRec}{K:K4->Fg}(hn:l.most=Ab 63)(hdf:d.params.defaults=[])(hY:∀(w:AY)(h:AD),YP w h->(K w.params).In h)(F:∀(w:AY)(mg:Ah->Am Aj)(fa:Ak)(h:AD),(K w.params).In h->h.Ns Bc mg->mg d.name=Ab (.ref fa) ->
   ∃ fd:BQ,(∀(s:Ap)(u:Aj),GD s fd ⟨[u],[]⟩ [("_law_script",u)])/\∀ base:AD,(K w.params).In base->base.Ns Bc mg->FnOk l.prog w (K w.params) mg base (CXR l.prog w) 8 fa fd ["_law_script"] (MV (K w.params))):WX q loose XP YP l.row.toRowW d [] (λf vs=>J4 f vs):=
 L2.walk_of (n:=63) (k:=8) (x := "_law_script") (CX:=λw=>CXR l.prog w) (sp:=λw=>MV (K w.params)) hn (by decide) hdf ⟨rfl,by decide,by decide,rfl⟩ hY F (λ_ H a ns hl _ hS=>⟨a,ns,rfl,hl,hS,λ_ _ z=>z⟩) λ_ _ _ _ _ z=>kZ z
end OvC
open PySem PySem.W PyProof.Rows
noncomputable def OvC.view92:PySem.Program:={ PySem.Challenge.pw_ovalfield_k92_no_picture with main:={PySem.Challenge.pw_ovalfield_k92_no_picture.main with body:=[OvC.tp92 1,OvC.tp92 2,OvC.tp92 3,OvC.tp92 4,OvC.tp92 5,OvC.tp92 6,OvC.tp92 7,OvC.tp92 9,OvC.tp92 10,OvC.tp92 12,OvC.tp92 14,OvC.tp92 15,OvC.tp92 16,OvC.tp92 18,OvC.tp92 19,OvC.tp92 20,OvC.tp92 21,OvC.tp92 22,OvC.tp92 23,OvC.tp92 24,OvC.tp92 25,OvC.tp92 26,OvC.tp92 27,OvC.tp92 28,OvC.tp92 29]} }
set_option hygiene false
local macro_rules | `(tactic| o_head $H)=>`(tactic| refine holds_open (q:=OvC.view92) (loose:=[]) (Xt:=fun s=>xlAt OvC.view92 [] s&&recOk (RowW.records (OpenRow.toRowW (PySem.Challenge.rw_ovalfield_k92_no_picture.row))) s) (XP:=XL OvC.view92 []) (Yf:=Hook.obs $H) (Ya:=Hook.val $H) (YP:=Hook.says $H) (N:=4290) ?hl (Hook.of $H) (Hook.keeps $H) (fun s e=>xl_of s (Bool.and_eq_true_iff.mp e).1) XL.keeps (by rfl) (by rfl) (by rfl) (fun s e=>recFacts_of (Bool.and_eq_true_iff.mp e).2) (by rfl) (by first|assumption|decide +kernel) (by decide +kernel) ⟨rfl,rfl,rfl,rfl,rfl,by decide +kernel⟩ ?hw ?hc)
set_option maxRecDepth 100000 in
set_option maxHeartbeats 0 in
theorem PySem.Challenge.cw_ovalfield_k92_no_picture_holds : PySem.Challenge.rw_ovalfield_k92_no_picture.Holds := by
 w_on;refine holds_law (by decide+kernel) λsaid=>?_;k_head
 (case hl=>intro w;unfold openEnds fencedOpening topFrom;rw[PySem.W.Fast.te10274390034422433532,PySem.W.Fast.te14364793385576792824,PySem.W.Fast.te1435165496053646825,PySem.W.Fast.te14289696077712309145,PySem.W.Fast.te14082659384304107361,PySem.W.Fast.te4187177175401517315];kernel_rfl)
 (case hw=>w_witness2)
 k_fill
 refine OvC.walk92 (l:=PySem.Challenge.rw_ovalfield_k92_no_picture) rfl rfl (λw h Y_=>W2 Y_) ?F
 case F=>
  intro w mg fa h KX G hmg
  refine' OvC.all92 KX G hmg ?a0 ?a1 ?a2 ?a3 ?a4 ?a5 ?a6 ?a7 ?a8 ?a9 ?a10 ?a11 ?a12 ?a13 ?a14 ?a15 ?a16 ?a17 ?cx0 ?cx1 ?cx2 ?cx3 ?cx4 ?sx0 ?sx1 ?sx2 ?sx3 ?sx4 ?z0 ?z1 ?z2 ?z3 ?z4 ?z5 ?z6 ?z7 ?z8 ?z9 ?z10
  case a0|a1|a2|a3|a4|a5|a6|a7|a8|a9|a10|a11|a12|a13|a14|a15|a16|a17=>(refine' Ov.fni ?a ?l ?c ?k;(case a=>k_is);(case l=>k_is);(case c=>k_is);(case k=>k_is))
  case cx0=>(refine' Ov.xa_mk ?n (Ov.xcls_l ?e) ?d ?f ?g ?a ?b ?c ?o ?h ?v;(case n=>k_is);(case e=>k_exc);(case d=>kernel_rfl);(case f|g|a|b|c|o|h|v=>k_is))
  case cx1|cx2|cx3|cx4=>(refine' Ov.XE.mk ?a ?b ?c;(case a=>k_is);(case b|c=>k_is))
  case sx0|sx1|sx2|sx3|sx4=>(refine' Ov.all_cons ?q0 (Ov.all_nil);(case q0=>dsimp only;k_is))
  case z0|z1|z2|z3|z4|z5|z6|z7|z8|z9|z10=>k_is
import PyProof.Rows.All
import Wide.All
import OpenK.AllK
import Wide.FinOn
import PyProof.EqAt
import KE.KSortTup
import PyProof.EqKinds
import PyProof.TupleCall
import Lean
import PyProof.Rows.SortRuns
import KE.KSortAsk
import KE.KStateDown
import PySem.Challenge.RW_ovalfield_k92_no_picture
set_option Elab.async false
set_option linter.all false
set_option maxRecDepth 100000
set_option maxHeartbeats 4000000
open Bool renaming true→Aa,false→Ad,and_eq_true→Al,false_ne_true→Az,not_eq_true'→BA,or_eq_true→CY,false_and→DB,or_false→Ey,true_and→EY,and_false→Fn,eq_iff_iff→Hx,not_true→IS,and_true→UY,not_false→UZ
open Option renaming some→Ab,none→Af,isSome_iff_exists→Eg,getD_some→Hm,bind_some→VC,getD_none→VD,isNone_iff_eq_none→VE,map→VF
open _root_ renaming List→Ac,Nat→Ae,Int→Ag,Bool→Ai,Option→Am,if_pos→Aq,if_neg→Ar,Array→Ax,decide_eq_true_eq→AQ,of_decide_eq_true→AW,False→A5,beq_iff_eq→A7,decide_eq_false→Bu,dif_neg→BO,String→CD,or_false→CW,decide_eq_true→DH,StateT→DZ,Decidable→EC,if_true→ES,beq_self_eq_true→EX,beq_eq_false_iff_ne→E4,decide_eq_false_iff_not→FA,not_or→FQ,Unit→FZ,True→HJ,PUnit→Il,if_false→JX,bne_iff_ne→Ka
open PySem renaming Str→Ah,Value→Aj,Addr→Ak,Expr→An,wpAny_bind→Ao,Shared→Ap,starEach→Ay,wpAny→AB,Heap→AD,wpAny_pure→AK,Program→AM,Pos→AR,Around→AT,World→AY,Stmt→AZ,mainGlobals→Bc,wpAny_mono→Bt,wpAny_field→BG,FuncData→BQ,backTo→BR,Tok→BV,Scope→BY,binaryOp→BZ,sizeLine_eq→B9,cLine→Cf,wpAny_callSpecial?_slot→Ck,Env→Cr,mem_of_lookup→Ct,bootBuiltins→CB,compareOp→CC,foldedSetIterable→CS,wpAny_newObj_type→CT,wpAny_truthy_bool→CU,wpAny_call_entry→Da,cellsFrom→Dg,swapsWith→Dh,CmpOp→Do,Sem→Dq,Obj→DE,wpAny_seqItems→DF,wpAny_setField_rec→DQ,assignEach→D9,Keyword→Ee,IsPair→Ej,NameKind→Ek,Model→Eo,attributeBase→EA,GenState→EH,ExceptHandler→E1,rawInt→E2,sliceBounds→E3,wpAny_execs_nil→E6,wpAny_passesOwn→E7,Operator→Fd,PassesOwn→Fe,wpAny_Call_Name_kw→Ff,wpAny_setField→Fu,IsZip→FR,wpAny_attempt→FT,wpAny_onRaise→FU,wpAny_pyIter_zip→FY,codeAny→Gc,codeAny_call_builtin→Gk,letOwnedTupleGo→Gm,wpAny_updateSeq_pair→Gn,BindsTo→GE,keywordEach→GN,IsPart→GP,noteFrame→GR,pushCells→GS,pyNext→GU,behindInMarks→GV,wpAny_loadPart_at→G8,wpAny_pyIter_list→G9,OsState→Ha,callerA→Hb,Paired→Ho,codeAny_mono→Hq,wpAny_execs_cons→Hr,Drawn→HC,pushCells_keeps→HE,setFlight→HF,IsRangeIter→HH,Result→Ie,isTrue→Ii,newFunctionEnv→Ij,notedBy→Ik,backToKw→Im,bindC→Io,bindL→Ip,builtinsNs→Iq,call_meets→Ir,typeIs_str→Iu,wpAny_rule→Iw,Comprehension→IT,wpAny_holding→IW,JoinOk→IY,concat_meets→Ja,onTheHeap→Jb,UnaryOp→Jt,getItem→Ju,wpAny_letGo→Jz,handleBy→JA,call→J6,pyIter→J7,sysModules→J8,wpAny_Name→J9,IntMulOk→K5,Params→K6,bindArgs→K9,checkBuiltinCall→Xc,firstArgMember→Xd,isSubtype_stop→Xe,noFill_tuple_add→Xf,recursionLimit→Xg,slot_list_getitem→Xh,wpAny_assign_Name→Xi,wpAny_comprehension_free→Xj,wpAny_eqBool_int→Xk,wpAny_isInstance→Xl,wpAny_letOwnedTupleGo_zip→Xm,wpAny_newTuple→Xn,wpAny_pyIter_range→Xo,wpAny_pyIter_rangeiter→Xp,wpAny_pyIter_tuple→Xq,wpAny_pyNext_range_end→Xr
open PySem.Heap renaming get?_push_of_some→As,get?_push_size→AJ,lt_size→AL,size_push→BF,get?_update_other→C4,get?_update_self→EO,SameBut→Fc,get?_push_ne→FF,get?_none_of_le→Gi,size_update→Hn,ExtBut→WE,get?_push_cases→WG
open PyProof.Rows renaming Keyed→At,wpS_bind→Au,arrOf→Av,wpS_pure→AA,SortSt→AU,pendingOf→Bi,wpS→Bl,wpS_forRange→BC,wpS_mono→CA,callWith_type1→C1,seqObj→Dc,failedOf→DD,wpS_modify→D7,SortKind→Eh,IntsAre→Ez,envOfC→EZ,AllBare→Fo,wpS_get→Fp,boot_isinstance→Gh,IsTup→JY,boot_range→J3,boot_int→VG,boot_list→VH,boot_tuple→VI,slicePart_none→VJ,slot_tuple_getitem→VL,subscriptTail_builtinR→VM
open Nat renaming le_refl→Aw,lt_of_lt_of_le→AO,ne_of_lt→Bj,lt_irrefl→Br,le_trans→B5,lt_succ_of_lt→Cq,zero_le→CI,zero_add→C3,zero_max→DN,ne_of_gt→Fb,ble→Ga,le_of_ble_eq_true→Gb,le_of_lt→Gg,lt_of_le_of_lt→GO,add_zero→Hj,lt_succ_self→Hk,mod_eq_of_lt→Hl,le_succ→Jx,le_of_eq→Vw,lt_trans→Vx,lt_trichotomy→Vy,min_self→Vz,mul_zero→VA,not_lt→VB
open List renaming mem_cons_of_mem→AC,getElem?_eq_getElem→AE,size_toArray→AH,mem_cons→AI,mem_cons_self→AN,length_cons→AS,length_map→AX,getElem?_eq_some_iff→A4,range→A8,getD_eq_getElem?_getD→Ba,length_set→Bb,length_append→Be,mem_singleton→Bk,append_nil→Bo,mem_append_right→Bp,not_mem_nil→Bq,drop_eq_getElem_cons→By,getElem_mem→BH,map_cons→BP,getElem?_append_right→B0,lookup_cons→B8,extract_eq_drop_take→Ca,append_assoc→Cc,mem_append→Ce,toArray→Cn,getElem?_map→Cp,pairwise_iff_getElem→Cv,getElem?_set_self→C2,all_cons→C5,all_eq_true→C8,length_take→C9,getElem?_append_left→Di,map_map→Dl,reverse_append→DA,mem_range→DC,drop_of_length_le→DJ,pairwise_cons→DM,take_append_drop→DS,isEmpty_eq_false_iff→D5,pairwise_append→D6,drop_zero→Ec,length_drop→Ef,getElem_of_mem→Em,map_congr_left→En,nodup_cons→EF,range_succ_eq_map→EG,length_singleton→EM,mem_append_left→ET,reverse_reverse→EU,all_map→E9,mem_map→Fa,getElem?_set_self'→Fw,take_of_length_le→FO,any_eq_true→FV,nil_sublist→FW,pairwise_reverse→F9,getElem?_set_ne→Ge,mem_filter→Gf,filterMap_cons→GA,getElem?_range→GB,forIn_nil→GC,replicate→GD,range'→GM,length_range→G5,reverse_perm→G6,ext_getElem→Hg,filter_cons→Hh,zipIdx_cons→Hi,forIn_cons→Hz,nil_append→HA,of_mem_zip→HB,lookup→HG,drop_drop→Ib,take_zero→Ic,length→Jw,any_cons→U_9,contains_eq_mem→Va,drop_eq_nil_of_le→Vb,getElem?_drop→Vc,getElem?_eq_none→Vd,getElem?_replicate→Ve,getElem?_take→Vf,length_eq_zero_iff→Vg,length_pos_iff→Vh,length_replicate→Vi,map_append→Vj,map_nil→Vk,mem_filterMap→Vl,mem_of_getElem?→Vm,mem_of_mem_drop→Vn,mem_of_mem_take→Vo,mem_reverse→Vp,range'_succ→Vr,reverse_cons→Vs,set_set→Vt,take_succ_eq_append_getElem→Vu,zipIdx_nil→Vv
open Array renaming length_toList→AF,toList_append→A9,size_push→BE,getElem?_toList→Cy,getElem_toList→CK,toList_extract→CM,toList_push→Du,getD→DI,getD_eq_getD_getElem?→DK,toList_reverse→D4,size_extract→EB,size_append→FB,toList_inj→He,find?_toList→US,getElem?_eq_some_iff→UT,getElem_extract→UU,perm_iff_toList_perm→UV,toList→UW,toList_setIfInBounds→UX
open PySem.Str renaming ofString→AV,join→K7
open PySem.Value renaming none→A3,builtin→C7,ref→De,type→Fq,int→GQ,bool→J5,str→K0,bytes→WW,float→WX
open PySem.W renaming findIn→Bf,nsIn→Bv,subIn→BB,mg_none_of→BM,keepIn→Co,mroIn→CJ,kitOne→CP,emptyDict→CQ,looks_findIn→Dr,clsIn→Dv,mg_of→Dx,fnOf→DP,instObj→DT,codeIn→Fs,typeIn→Ft,OpenLaw→FP,methodObj→G7,kitAny→Ig,lookIn→Ih,excIn→IV,WalkO→W1,callWith_K→W2,cellsFrom_some→W3,isNs_of_in→W4,kIn_of→W5,kitMeta→W6,looks_subIn→W7,nsOkIn→W8,plainGet→W9,tail_of_in→Xa
open Option.some renaming inj→Bh
open False renaming elim→Bs
open PySem.Builtin.SmallTypes renaming nextOf→Bz,ownedTupleIsFree→CO,ownedTupleHandOut→VS
open PySem.NameKind renaming cell→BJ,free→DV
open Int renaming emod_lt_of_pos→Cz,emod_emod_of_dvd→CN,emod_nonneg→CZ,mul_emod→DL,dvd_refl→EL,zero_add→E8,eq_ofNat_of_zero_le→Fv,emod_eq_of_lt→FC,mul_comm→Gd,one_mul→Jv,mul_assoc→U_2,mul_one→U_3,mul_zero→U_4,sub_zero→U_5,toNat_natCast→U_6,zero_emod→U_7
open PySem.Obj renaming mapSeq→C6,data_mapFields→Dd,isFreed_of_fields→EQ,mapFields→FS,cls_mapFields→WI
open PySem.Builtin.List renaming listTooLong→Dm
open PySem.F renaming slot_zip_next→Dp,slot_tuple_iterator_next→DU,slot_list_extend→EN,plainAttrs_list→Fx,args_zip_next_1→FD,attr_ValueError→FE,entry_zip_next→FX,args_list_extend_2→Wo,args_object_init_3→Wp,args_tuple_add_2→Wq,args_tuple_iterator_next_1→Wr,called_zip→Ws,entry_bexc_ga→Wt,entry_list_extend→Wu,entry_tuple_add→Wv,entry_tuple_iterator_next→Ww,entry_zip_new→Wx,newCall_zip_2→Wy,slot_str_join→Wz,slot_tuple_add→WA,typeCall_zip_2→WB,typeOf_object_class→WC,type_list_extend→WD
open PySem.Builtin.Str renaming strSliceIndices→DO,occurrences→EJ
open PySem.Builtin.Slice renaming slicePlaces→D8,sliceAdjust→E5,sliceApplied→VR
open Ne renaming symm→Ed
open PySem.Builtin.Tuple renaming tupleExact→Ei
open ForInStep renaming yield→ED
open Classical renaming choose_spec→EK,choose→U_0
open PySem.SeqAt renaming EqAt→Gj,RcNeAt→IZ,RcAt→J4
open Sum renaming inl→Hc,inr→Hd
open List.Perm renaming append→Hf,of_eq→Hy,cons→H9,refl→Ia,trans→U_8
open PySem.Value.ref renaming inj→IU
open PySem.Data renaming cell→IX,seq→K4,fields→VV
open PySem.Shared renaming heap→Jy
open PyProof.Rows.SortSt renaming mk'→JZ
open NeZero renaming ne→KY
open PyProof.Rows.IsTup renaming new→KZ
open PySem.Txt renaming join→K8
open Function renaming comp_def→U_1
open PyProof renaming noPylong_small→VN
open PySem.AutoSeq1 renaming wpAny_loadPart'→VO
open PySem.Builtin.Int renaming intBits→VP
open PySem.Builtin.Range renaming rangeSize→VQ
open PySem.Calls renaming Name_function_global→VT,evalArgs_plain→VU
open PySem.EntryCells renaming newEntry→VW
open PySem.Expr renaming Attribute→VY,BinOp→V0,BoolOp→V2,Call→V4,Compare→V6,Constant→V8,List→Wa,ListComp→Wc,Name→We,Slice→Wg,Subscript→Wi,Tuple→Wk,UnaryOp→Wm
open PySem.Expr.Attribute renaming elim→VZ
open PySem.Expr.BinOp renaming elim→V1
open PySem.Expr.BoolOp renaming elim→V3
open PySem.Expr.Call renaming elim→V5
open PySem.Expr.Compare renaming elim→V7
open PySem.Expr.Constant renaming elim→V9
open PySem.Expr.List renaming elim→Wb
open PySem.Expr.ListComp renaming elim→Wd
open PySem.Expr.Name renaming elim→Wf
open PySem.Expr.Slice renaming elim→Wh
open PySem.Expr.Subscript renaming elim→Wj
open PySem.Expr.Tuple renaming elim→Wl
open PySem.Expr.UnaryOp renaming elim→Wn
open PySem.Heap.SameBut renaming update→WF
open PySem.IsRange renaming new→WH
open PySem.Paired renaming length→WJ
open PySem.SeqAt.EqAt renaming of_refs→WK,same→WL
open PySem.Stmt renaming Assign→WM,Expr→WO,Raise→WS,Return→WU
open PySem.Stmt.Assign renaming elim→WN
open PySem.Stmt.Expr renaming elim→WP
open PySem.Stmt.For renaming elim→WQ
open PySem.Stmt.If renaming elim→WR
open PySem.Stmt.Raise renaming elim→WT
open PySem.Stmt.Return renaming elim→WV
open PySem.W.WData renaming int→WY
open PySem.W.WShape renaming has→WZ
open PySem.Walks renaming range→Xb
abbrev Fg:=PySem.W.Frag
abbrev Pn:=Ac (PySem.Addr×PySem.Obj)
abbrev Vq:=PySem.Value->PySem.Shared->Prop
set_option genSizeOfSpec false
-- CHANGE: your row's module here,as the last of these rows
namespace L2
open PySem PySem.Spec PyProof.Rows
abbrev Key:=Sum Ag Ah
noncomputable def T4:Key->Aj->Ai
 |.inl k,v=>Value.isInt k v
 |.inr x,v=>Value.isStrOf x v
noncomputable def qM(w:AY):Key->Ag
 |.inl k=>hashInt k
 |.inr x=>hashStr w x
theorem Iy:∀{k:Key}{v:Aj},T4 k v=Aa->(∃ i t,k=Hc i/\v=GQ i t)\/(∃ x t,k=Hd x/\v=K0 x t)
 |.inl i,v,h=>by
  obtain⟨t,e⟩:=Value.isInt_shape (k:=i) (v:=v) h;exact .inl ⟨i,t,rfl,e⟩
 |.inr x,v,h=>by
  obtain⟨t,e⟩:=Value.isStrOf_shape (x:=x) (v:=v) h;exact .inr ⟨x,t,rfl,e⟩
theorem jB(a b:Ag):decide ((Hc a:Key)=Hc b)=(a==b):=by
 by_cases e:a=b
 .subst e;simp
 .have h:¬ (Hc a:Key)=Hc b:=λq=>e (Sum.inl.inj q)
  rw[Bu h];exact(E4.mpr e).symm
theorem iY(a b:Ah):decide ((Hd a:Key)=Hd b)=decide (a=b):=by
 by_cases e:a=b
 .subst e;simp
 .have h:¬ (Hd a:Key)=Hd b:=λq=>e (Sum.inr.inj q)
  rw[Bu h,Bu e]
theorem jA(a:Ag)(b:Ah):decide ((Hc a:Key)=Hd b)=Ad:=Bu (λq=>nomatch q)
theorem iZ(a:Ah)(b:Ag):decide ((Hd a:Key)=Hc b)=Ad:=Bu (λq=>nomatch q)
noncomputable def OB(prog:AM)(w:AY):PySem.KeyKind prog w Key where
 is:=T4
 hash:=qM w
 inj:=λv a b ha hb=>by
  rcases Iy ha with ⟨i,t,rfl,rfl⟩|⟨x,t,rfl,rfl⟩
  .rcases Iy hb with ⟨j,u,rfl,e⟩|⟨y,u,rfl,e⟩
   .injection e with e1 _;rw[e1]
   .exact nomatch e
  .rcases Iy hb with ⟨j,u,rfl,e⟩|⟨y,u,rfl,e⟩
   .exact nomatch e
   .injection e with e1 _;rw[e1]
 byValue:=λk v h=>by
  rcases Iy h with ⟨i,t,rfl,rfl⟩|⟨x,t,rfl,rfl⟩<;>rfl
 pyHash:=λhv h=>by
  rcases Iy hv with ⟨i,t,rfl,rfl⟩|⟨x,t,rfl,rfl⟩
  .exact wpAny_pyHash_int h
  .exact wpAny_pyHash_str h
 eqBool:=λhu hv h=>by
  rcases Iy hu with ⟨i,t,rfl,rfl⟩|⟨x,t,rfl,rfl⟩
  .rcases Iy hv with ⟨j,u,rfl,rfl⟩|⟨y,u,rfl,rfl⟩
   .rw[jB]at h;exact Xk h
   .rw[jA]at h;exact SeqAt.EqAt.int_str i t y u _ _ _ _ h
  .rcases Iy hv with ⟨j,u,rfl,rfl⟩|⟨y,u,rfl,rfl⟩
   .rw[iZ]at h;exact SeqAt.EqAt.str_int x t j u _ _ _ _ h
   .rw[iY]at h;exact wpAny_eqBool_str h
 «strs»:=λk x t v h=>by
  rcases Iy h with ⟨i,u,rfl,e⟩|⟨y,u,rfl,e⟩
  .exact nomatch e
  .injection e with e1 _
   subst e1;cases v<;>rfl
end L2
namespace L2
open PySem PySem.Spec PyProof.Rows
variable{us:Ac Aj}{a b it dx:Ak}{P:AM}{h:AD}{o:DE}{g':Ax EH}{t' i k n:Ae}{d':HC}{ch fp:Ac Ak}{x qual:Ah}{M:Eo}{u:Aj}{Q:FZ->Ap->Prop}{e tg:An}{s:Ap}{pos p:AR}{pI:Pn}{es:Ac An}{body:Ac AZ}{f:Aj->Aj->Dq Aj}{g:Ag->Ag->Ag}{op:Do}{mA:Ah->Am Aj}{fd:BQ}{ps:Ac Ah}{scope:BY}
inductive V where
 |non|bl (b:Ai)|int (i:Ag)|str (x:Ah)|byt (b:Ax UInt8)|flt (b:UInt64)|ref (a:Ak)|ty (n:CD)
 deriving DecidableEq
variable{xs vs:Ac V}{v:V}
def Bx:V->Aj->Prop
 |.non,u=>u=A3
 |.bl b,u=>u=J5 b
 |.int i,u=>∃ t,u=GQ i t
 |.str x,u=>∃ t,u=K0 x t
 |.byt b,u=>∃ t,u=WW b t
 |.flt b,u=>∃ t,u=WX b t
 |.ref a,u=>u=De a
 |.ty n,u=>u=Fq n
noncomputable abbrev A6:Ac V->Ac Aj->Prop:=Ho Bx
theorem A6.length(r:A6 xs us):xs.length=us.length:=WJ r
theorem A6.get:∀{xs:Ac V}{us:Ac Aj}{i:Ae}{x:V},A6 xs us->xs[i]?=Ab x->∃ u,us[i]?=Ab u/\Bx x u
 |_,_,_,_,.nil,e=>by simp at e
 |_,_,0,_,.cons r _,e=>by simp at e;subst e;exact⟨_,rfl,r⟩
 |_,_,i+1,x,.cons _ t,e=>by
  obtain⟨u,h1,h2⟩:=A6.get (i:=i) (x:=x) t (by simpa using e)
  exact⟨u,by simpa using h1,h2⟩
theorem A6.set{x:V}{u:Aj}(r:Bx x u):∀{xs:Ac V}{us:Ac Aj}(i:Ae),A6 xs us->A6 (xs.set i x) (us.set i u)
 |_,_,_,.nil=>.nil
 |_,_,0,.cons _ t=>.cons r t
 |_,_,i+1,.cons q t=>.cons q (A6.set r i t)
theorem A6.append:∀{xs ys:Ac V}{us ws:Ac Aj},A6 xs us->A6 ys ws->A6 (xs++ys) (us++ws)
 |_,_,_,_,.nil,s=>s
 |_,_,_,_,.cons r t,s=>.cons r (A6.append t s)
theorem A6.take:∀{xs:Ac V}{us:Ac Aj}(n:Ae),A6 xs us->A6 (xs.take n) (us.take n)
 |_,_,0,_=>.nil
 |_,_,_+1,.nil=>.nil
 |_,_,n+1,.cons r t=>.cons r (A6.take n t)
theorem A6.drop:∀{xs:Ac V}{us:Ac Aj}(n:Ae),A6 xs us->A6 (xs.drop n) (us.drop n)
 |_,_,0,r=>r
 |_,_,_+1,.nil=>.nil
 |_,_,n+1,.cons _ t=>A6.drop n t
def LS:Am V->Am Aj->Prop
 |some v,Ab u=>Bx v u
 |none,Af=>HJ
 |_,_=>A5
def KV{κ:Type}:Ac (κ×V)->Ac (κ×Aj)->Prop:=Ho fun(p:κ×V)(q:κ×Aj)=>p.1=q.1/\Bx p.2 q.2
noncomputable def kV:Key->V
 |.inl i=>.int i
 |.inr x=>.str x
inductive HO where
 /-- a list -/
 |lst (xs:Ac V)
 /-- a tuple (never changes) -/
 |tup (xs:Ac V)
 /-- a dict whose keys are ints and texts;one whose keys are tuples of ints and texts (the empty one is both) -/
 |dK (kvs:Ac (Key×V))|dT (kvs:Ac (Ac Key×V))
 /-- a set of ints: its members,its size -/
 |set (S:Ag->Ai) (n:Ae)
 /-- an instance of the class at C,its dict at dx,its attributes -/
 |ins (C dx:Ak) (fs:Ac (Ah×V))
 /-- the dict of the instance at x -/
 |own (x:Ak)
 /-- the dict of an exception -/
 |xd (fs:Ac (Ah×V))
 /-- a bound method,f of x -/
 |met (f x:Ak)
 /-- a range object lo,lo+1,.. below hi -/
 |rng (lo hi:Ag)
 /-- a thing that is known to the object (the script;a dict while a loop walks it): read,never written while it is so -/
 |frz (o:DE) (u:HO)
 /-- a code object's table -/
 |tbl (ps:Ax Aj)
 /-- any other thing,by what is Aa of its one object (a def of one's own: SetO a S n:=HO.ext fun h=>..) -/
 |ext (φ:AD->Prop)
abbrev Hp:=Ak->Am HO
variable{H:Hp}
noncomputable def upd(H:Hp)(a:Ak)(o:HO):Hp:=λb=>if b=a then Ab o else H b
theorem GF{o:HO}:upd H a o a=Ab o:=by unfold upd;rw[Aq rfl]
theorem B6{o:HO}(h:b≠a):upd H a o b=H b:=by unfold upd;rw[Ar h]
theorem FH{o:HO}(h:H a=Ab o)(h':H b=Af):a≠b:=by
 intro e;subst e;rw[h]at h';cases h'
section
variable(P:AM)(w:AY)
def ObjOk(H:Hp)(h:AD)(a:Ak):HO->Prop
  |.lst xs=>xs.length<=sizeLine/\∃(its:Ac Aj)(n:Ae),A6 xs its/\h.get? a=Ab { cls:=.type "list",data:=.seq its.toArray n }
  |.tup xs=>xs.length<=sizeLine/\∃ its:Ac Aj,A6 xs its/\JY h a its.toArray
  |.dK kvs=>kvs.length<=sizeLine/\(a==J8)=Ad/\∃ vs,KV kvs vs/\h.DictOf (OB P w) a vs
  |.dT kvs=>kvs.length<=sizeLine/\(a==J8)=Ad/\∃ xs:Ac (Ac Key×Ak×Aj),
      Ho (fun(p:Ac Key×V)(q:Ac Key×Ak×Aj)=>p.1=q.1/\H q.2.1=Ab (.tup (p.1.map kV))/\Bx p.2 q.2.2) kvs xs /\
      ∃ o es ep,h.get? a=Ab o/\o.ExactDict/\o.data=.dict es ep/\es.toList=xs.map (entryOfKey (tupleKind (OB P w)))/\(xs.map (·.1)).Nodup
  |.set S n=>h.SetOf (intKind P w) a S n
  |.ins C dx fs=>H dx=Ab (.own a)/\fs.length<=1000/\dx≠a/\h.get? a=Ab (DT C dx) /\
      ∃ mA,h.Ns1 dx mA/\(∀ f,LS (fs.lookup f) (mA f))/\PySem.Within mA (fs.map (·.1))
  |.own _=>∃ o,h.get? a=Ab o
  |.xd fs=>∃ mA,h.Ns1 a mA/\∀ f,LS (fs.lookup f) (mA f)
  |.rng lo hi=>∃ t u v,h.get? a=Ab { cls:=.type "range",data:=.fields #[.int lo t,.int hi u,.int 1 v] }
  |.frz o u=>h.get? a=Ab o/\ObjOk H h a u
  |.tbl ps=>h.get? a=Ab {cls:=.none,data:=.fields ps}
  |.met f x=>h.get? a=Ab (G7 (.ref f) (.ref x))
  |.ext φ=>φ h/\(∃ o,h.get? a=Ab o)/\∀ h1 h2:AD,φ h1->(∀ o,h1.get? a=Ab o->h2.get? a=Ab o)->φ h2
def HOk(H:Hp)(h:AD):Prop:=∀ a o,H a=Ab o->ObjOk P w H h a o
end
section
variable{P:AM}{w:AY}{H H':Hp}{h h':AD}{a:Ak}{o:HO}
theorem ObjOk.lt(x:ObjOk P w H h a o):a<h.objs.size:=by
 cases o with
 |lst xs=>obtain⟨_,_,_,_,e⟩:=x;exact AL e
 |tup xs=>obtain⟨_,_,_,p⟩:=x;exact p.lt
 |dK kvs=>obtain⟨_,_,_,_,o,_,_,e,_⟩:=x;exact AL e
 |dT kvs=>obtain⟨_,_,_,_,o,_,_,e,_⟩:=x;exact AL e
 |set S n=>obtain⟨o,_,_,_,e,_⟩:=x;exact AL e
 |ins C dx fs=>obtain⟨_,_,_,e,_⟩:=x;exact AL e
 |own y=>obtain⟨_,e⟩:=x;exact AL e
 |xd fs=>obtain⟨_,⟨_,_,_,e,_⟩,_⟩:=x;exact AL e
 |rng lo hi=>obtain⟨_,_,_,e⟩:=x;exact AL e
 |frz ob u=>obtain⟨e,_⟩:=x;exact AL e
 |tbl ps=>exact AL (show h.get? a=Ab _ from x)
 |met f y=>exact AL (show h.get? a=Ab _ from x)
 |ext φ=>obtain⟨_,⟨_,e⟩,_⟩:=x;exact AL e
theorem Ho.mapP{α β:Type}{F G:α->β->Prop}:∀{l₁:Ac α}{l₂:Ac β},Ho F l₁ l₂->(∀ a b,F a b->G a b)->Ho G l₁ l₂
 |_,_,.nil,_=>.nil
 |_,_,.cons r t,f=>.cons (f _ _ r) (Ho.mapP t f)
theorem ObjOk.stay(x:ObjOk P w H h a o)(k:∀ b u,(b=a\/H b=Ab (.own a))->h.get? b=Ab u->h'.get? b=Ab u)(ho:∀ b,H b=Ab (.own a)->H' b=Ab (.own a))(ht:∀ b xs,H b=Ab (.tup xs)->H' b=Ab (.tup xs)):ObjOk P w H' h' a o:=by
 induction o with
 |lst xs=>obtain⟨z,its,n,r,e⟩:=x;exact⟨z,its,n,r,k _ _ (.inl rfl) e⟩
 |tup xs=>obtain⟨z,its,r,ob,e,c⟩:=x;exact⟨z,its,r,ob,k _ _ (.inl rfl) e,c⟩
 |dK kvs=>obtain⟨z,y,vs,r,ob,es,ep,e,c⟩:=x;exact⟨z,y,vs,r,ob,es,ep,k _ _ (.inl rfl) e,c⟩
 |dT kvs=>
  obtain⟨z,y,xs,r,ob,es,ep,e,c⟩:=x;exact⟨z,y,xs,Ho.mapP r λp q z=>⟨z.1,ht _ _ z.2.1,z.2.2⟩,ob,es,ep,k _ _ (.inl rfl) e,c⟩
 |set S n=>obtain⟨ob,es,ep,t,e,c⟩:=x;exact⟨ob,es,ep,t,k _ _ (.inl rfl) e,c⟩
 |ins C dx fs=>
  obtain⟨d,z,ne,e,mA,⟨od,es,ep,e2,c⟩,r⟩:=x;exact⟨ho _ d,z,ne,k _ _ (.inl rfl) e,mA,⟨od,es,ep,k _ _ (.inr d) e2,c⟩,r⟩
 |own y=>obtain⟨ob,e⟩:=x;exact⟨ob,k _ _ (.inl rfl) e⟩
 |xd fs=>obtain⟨mA,⟨od,es,ep,e,c⟩,r⟩:=x;exact⟨mA,⟨od,es,ep,k _ _ (.inl rfl) e,c⟩,r⟩
 |rng lo hi=>obtain⟨t,u,v,e⟩:=x;exact⟨t,u,v,k _ _ (.inl rfl) e⟩
 |frz ob u ih=>obtain⟨e,q⟩:=x;exact⟨k _ _ (.inl rfl) e,ih q⟩
 |tbl ps=>
  have e:h.get? a=Ab {cls:=.none,data:=.fields ps}:=x;show h'.get? a=Ab {cls:=.none,data:=.fields ps};exact k a _ (.inl rfl) e
 |met f y=>
  have e:h.get? a=Ab (G7 (.ref f) (.ref y)):=x;show h'.get? a=Ab (G7 (.ref f) (.ref y));exact k a _ (.inl rfl) e
 |ext φ=>obtain⟨p,⟨o,e⟩,st⟩:=x;exact⟨st _ _ p λo q=>k _ _ (.inl rfl) q,⟨o,k _ _ (.inl rfl) e⟩,st⟩
theorem HOk.lt(x:HOk P w H h)(e:H a=Ab o):a<h.objs.size:=(x a o e).lt
theorem HOk.fresh(x:HOk P w H h)(e:h.objs.size<=a):H a=Af:=by
 cases q:H a with
 |none=>rfl
 |some u=>exact absurd (AO (x.lt q) e) (Br _)
theorem HOk.kept(x:HOk P w H h)(k:∀ b u,h.get? b=Ab u->h'.get? b=Ab u):HOk P w H h':=λa o e=>
 (x a o e).stay (λb u _ q=>k b u q) (λ_ q=>q) λ_ _ q=>q
theorem HOk.laid(x:HOk P w H h)(k:∀ b u,h.get? b=Ab u->h'.get? b=Ab u)(hp:h.objs.size<=a)(new:ObjOk P w (upd H a o) h' a o):HOk P w (upd H a o) h':=λb u e=>by
 have hn:=x.fresh hp;by_cases hb:b=a
 .subst hb;rw[GF]at e;cases e;exact new
 .rw[B6 hb]at e;exact(x b u e).stay (λc v _ q=>k c v q) (λc q=>by rw[B6 (FH q hn)];exact q) λc xs q=>by rw[B6 (FH q hn)];exact q
end
def Rd(H:Hp)(a:Ak)(u:HO):Prop:=H a=Ab u\/∃ o,H a=Ab (.frz o u)
theorem Rd.ok{w:AY}{u:HO}(r:Rd H a u)(x:HOk P w H h):ObjOk P w H h a u:=by
 rcases r with r|⟨o,r⟩
 .exact x a u r
 .obtain⟨_,q⟩:=x a _ r;exact q
def Mut:Am HO->Prop
 |some (.lst _)=>HJ
 |some (.dK _)=>HJ
 |some (.dT _)=>HJ
 |some (.set _ _)=>HJ
 |some (.ins _ _ _)=>HJ
 |some (.ext _)=>HJ
 |_=>A5
section
variable{P:AM}{w:AY}{H:Hp}{h h':AD}{x e:Ak}{o':HO}
theorem HOk.write(ok:HOk P w H h)(mu:Mut (H x))(he:e=x\/H e=Ab (.own x))(k:∀ b u,b≠e->h.get? b=Ab u->h'.get? b=Ab u)(heo:∃ u,h'.get? e=Ab u)(new:ObjOk P w (upd H x o') h' x o'):HOk P w (upd H x o') h':=λb u q=>by
 have nown:∀ c y,H c=Ab (.own y)->c≠x:=λc y r z=>by subst z;rw[r]at mu;exact mu
 have ntup:∀ c xs,H c=Ab (.tup xs)->c≠x:=λc xs r z=>by subst z;rw[r]at mu;exact mu
 by_cases hb:b=x
 .subst hb;rw[GF]at q;cases q;exact new
 .rw[B6 hb]at q;by_cases hbe:b=e
  .have q':H b=Ab (.own x):=by
    rcases he with z|z
    .exact absurd (hbe.trans z) hb
    .rw[hbe];exact z
   rw[q]at q';cases q';obtain⟨v,hv⟩:=heo;exact⟨v,by rw[hbe];exact hv⟩
  .refine(ok b u q).stay (λc v hc r=>k c v ?_ r) (λc r=>by rw[B6 (nown c b r)];exact r) λc xs r=>by rw[B6 (ntup c xs r)];exact r
   rcases hc with rfl|hc
   .exact hbe
   .rintro rfl;rcases he with z|z
    .exact nown c b hc z
    .rw[hc]at z;cases z;exact hb rfl
end
structure Un (fs ex:Ac Ak) (H H':Hp) (h h':AD):Prop where
 keep:∀ b o,h.get? b=Ab o->H b=Af->b∉fs->b∉ex->h'.get? b=Ab o
 slot:∀ b o,h.get? b=Ab o->H b=Af->b∈fs->b∉ex->∃ sl,h'.get? b=Ab {o with slots:=sl}
 free:∀ b o,h.get? b=Ab o->H b=Af->b∉ex->H' b=Af
 there:∀ b o,h.get? b=Ab o->b∉ex->∃ o',h'.get? b=Ab o'
 tups:∀ b xs,H b=Ab (.tup xs)->H' b=Ab (.tup xs)
 frzs:∀ b o u,H b=Ab (.frz o u)->H' b=Ab (.frz o u)
 tbls:∀ b ps,H b=Ab (.tbl ps)->∃ more,H' b=Ab (.tbl (ps++more))
section
variable{fs fs' ex ex':Ac Ak}{H H1 H2:Hp}{h h1 h2 h':AD}{a x e:Ak}{o:HO}
theorem Un.any(u:Un fs ex H H1 h h1){ob:DE}(q:h.get? b=Ab ob)(n:H b=Af)(hx:b∉ex):∃ sl,h1.get? b=Ab {ob with slots:=sl}:=by
 by_cases hb:b∈fs
 .exact u.slot b ob q n hb hx
 .exact⟨ob.slots,u.keep b ob q n hb hx⟩
theorem Un.kept(k:∀ b u,h.get? b=Ab u->h'.get? b=Ab u):Un fs ex H H h h':=
 ⟨λb ob q _ _ _=>k b ob q,λb ob q _ _ _=>⟨ob.slots,k b ob q⟩,λ_ _ _ n _=>n,λb ob q _=>⟨ob,k b ob q⟩,λ_ _ q=>q,λ_ _ _ q=>q,λ_ ps q=>⟨#[],by rw[q];simp⟩⟩
theorem Un.refl:Un fs ex H H h h:=Un.kept λ_ _ q=>q
theorem Un.laid(k:∀ b u,h.get? b=Ab u->h'.get? b=Ab u)(hp:h.objs.size<=a)(hn:H a=Af):Un fs ex H (upd H a o) h h' where
 keep:=λb u q _ _ _=>k b u q
 slot:=λb u q _ _ _=>⟨u.slots,k b u q⟩
 free:=λb u q n _=>by rw[B6 (Bj (AO (AL q) hp))];exact n
 there:=λb u q _=>⟨u,k b u q⟩
 tups:=λb xs q=>by rw[B6 (FH q hn)];exact q
 frzs:=λb u xs q=>by rw[B6 (FH q hn)];exact q
 tbls:=λb ps q=>⟨#[],by rw[B6 (FH q hn),q];simp⟩
theorem Un.write(mu:Mut (H x))(he:e=x\/H e=Ab (.own x))(k:∀ b u,b≠e->h.get? b=Ab u->h'.get? b=Ab u)(heo:∃ u,h'.get? e=Ab u):Un fs ex H (upd H x o) h h':=by
 have hx:∀ b,H b=Af->b≠x:=λb n z=>by subst z;rw[n]at mu;exact mu
 have hb:∀ b,H b=Af->b≠e:=λb n z=>by
  subst z;rcases he with r|r
  .exact hx b n r
  .rw[n]at r;cases r
 have hm:∀ b u,H b=Ab u->¬ Mut (Ab u)->b≠x:=λb u q nm z=>by subst z;rw[q]at mu;exact nm mu
 refine⟨λb u q n _ _=>k b u (hb b n) q,λb u q n _ _=>⟨u.slots,k b u (hb b n) q⟩,λb u q n _=>by rw[B6 (hx b n)];exact n,λb u q _=>?_,
  λb xs q=>by rw[B6 (hm b _ q λz=>z)];exact q,λb u xs q=>by rw[B6 (hm b _ q λz=>z)];exact q,λb ps q=>⟨#[],by rw[B6 (hm b _ q λz=>z),q];simp⟩⟩
 by_cases hbe:b=e
 .subst hbe;exact heo
 .exact⟨u,k b u hbe q⟩
end
noncomputable def trk(h:AD)(H:Hp):Ac Ak:=(A8 h.objs.size).filter λa=>(H a).isSome
noncomputable def IQ(h:AD)(H:Hp):AD:=PySem.W.hideAll h (trk h H)
theorem Yq(h:AD)(H:Hp):(IQ h H).objs.size=h.objs.size:=PySem.W.hideAll_size _ _
theorem ZB(e:h.get? b=Ab o)(n:H b=Af):(IQ h H).get? b=Ab o:=
 PySem.W.hideAll_get _ e λhm=>by
  have q:(H b).isSome=Aa:=(Gf.mp hm).2;rw[n]at q;simp at q
theorem cP(e:(IQ h H).get? b=Ab o):h.get? b=Ab o/\H b=Af:=by
 have e':h.get? b=Ab o:=PySem.W.of_hideAll (trk h H) e;refine⟨e',?_⟩;cases q:H b with
 |none=>rfl
 |some x=>
  have hm:b∈trk h H:=Gf.mpr ⟨DC.mpr (AL e'),by simp[q]⟩
  have z:(IQ h H).get? b=Af:=PySem.W.hideAll_none (trk h H) hm;rw[z]at e;cases e
noncomputable def eM(g h:AD)(L:Ak):Pn:=(A8 h.objs.size).filterMap λa=>if a=L\/(g.get? a).isSome=Aa then Af else (h.get? a).map λo=>(a,o)
noncomputable def rest(g h:AD)(L d:Ak):Pn:=(eM g h L).filter λp=>decide (p.1≠d)
structure Mod (K:Fg) (mg:Ah->Am Aj) (base:AD):Prop where
 kin:K.In base
 glob:base.Ns Bc mg
 blt:∃ mb,base.Ns Iq mb/\∀ x:Ah,x≠"__name__"->mb x=CB x
 nolimit:base.NoLimit
structure Cx where
 prog:AM
 w:AY
 K:Fg
 mg:Ah->Am Aj
 base:AD
 A:AT
 N:Ac Ah
 s₀:Ap
 H₀:Hp
 env:Cr
 outer:Ac Cr
 stack:Ac Cr
 ex:Ac Ak
 fn:Ah->Ai
 calm:Ai
 pn:Pn
 xe:Aj->Ap->Prop
variable{X:Cx}
noncomputable def frs(l:Ac Cr):Ac Ak:=l.filterMap (·.frame)
noncomputable abbrev Cx.fs(X:Cx):Ac Ak:=frs X.outer
def Vis(sc:BY)(x:Ah):Prop:=sc.names.lookup x=Ab .local\/sc.names.lookup x=Ab .cell\/sc.names.lookup x=Ab .free
def Loc(sc:BY)(x:Ah):Prop:=sc.names.lookup x=Ab .local\/sc.names.lookup x=Ab .cell
noncomputable def rH(env:Cr)(h:AD)(m:Ah->Am Aj)(x:Ah)(u:Aj):Prop:=
 (env.kindOf x=Ab .local/\m x=Ab u)\/((env.kindOf x=Ab .cell\/env.kindOf x=Ab .free)/\∃ c,env.cells.lookup x=Ab c/\h.IsCell c (Ab u))
structure Cx.Ok (X:Cx):Prop where
 mod:Mod X.K X.mg X.base
 kind:X.env.scope.kind=.function
 glob:X.env.globals=Bc
 blt:X.env.builtins=Iq
 above:X.s₀.heap.objs.size<=X.env.locals
 inj:∀ x y c,X.env.cells.lookup x=Ab c->X.env.cells.lookup y=Ab c->x=y
 has:∀ x,(X.env.kindOf x=Ab .cell\/X.env.kindOf x=Ab .free)->∃ c,X.env.cells.lookup x=Ab c
 cab:∀ x c,X.fn x=Aa->X.env.cells.lookup x=Ab c->X.s₀.heap.objs.size<=c
 hd:X.calm=Aa->X.A.handled=Af
 frames:X.A.frames=Ab X.stack
 stk:X.stack=X.outer\/(X.stack=X.env::X.outer/\X.env.frame=Ab X.env.locals)
 exf:∀ b∈X.ex,b≠X.env.locals/\∀ x c,X.env.cells.lookup x=Ab c->c≠b
 bs:∀ b o,X.base.get? b=Ab o->X.s₀.heap.get? b=Ab o/\X.H₀ b=Af
 bsz:X.base.objs.size<=X.s₀.heap.objs.size
 noex:∀ b o,X.base.get? b=Ab o->b∉X.ex
 exfs:∀ b∈X.ex,b∉X.fs
 funs:X.s₀.heap.FunFrames X.base X.outer
 frf:∀ b∈X.fs,X.H₀ b=Af
structure Inv (X:Cx) (pI:Pn) (Y:Ac (Am V)) (H:Hp) (s:Ap):Prop where
 ok:X.Ok
 os:s.os=X.s₀.os
 bare:Fo s.gens
 base:Un X.fs X.ex X.H₀ H X.s₀.heap s.heap
 loc:∃ m,s.heap.Ns X.env.locals m/\∀(i:Ae)(x:Ah)(v:V),X.N[i]?=Ab x->Y[i]?=Ab (Ab v)->Vis X.env.scope x->∃ u,Bx v u/\rH X.env s.heap m x u
 cell:∀ x c,X.env.cells.lookup x=Ab c->∃ v,s.heap.IsCell c v
 free:H X.env.locals=Af
 freeC:∀ x c,X.env.cells.lookup x=Ab c->H c=Af
 pin:∀ p∈X.pn++pI,s.heap.get? p.1=Ab p.2/\H p.1=Af/\p.1≠X.env.locals/\p.1∉X.fs/\∀ v,p.2.data≠.cell v
 hok:HOk X.prog X.w H s.heap
 len:Y.length=X.N.length
section
variable{X:Cx}{pI:Pn}{Y:Ac (Am V)}{H H':Hp}{s:Ap}{h':AD}
theorem Cx.Ok.nofr(ok:X.Ok)(e:X.base.get? b=Ab o):b∉X.fs:=λhb=>by
 have:=(ok.funs.mem hb).1;rw[e]at this;cases this
theorem Inv.bs(I:Inv X pI Y H s):∀ b o,X.base.get? b=Ab o->s.heap.get? b=Ab o/\H b=Af:=λb o e=>
 ⟨I.base.keep b o (I.ok.bs b o e).1 (I.ok.bs b o e).2 (I.ok.nofr e) (I.ok.noex b o e),I.base.free b o (I.ok.bs b o e).1 (I.ok.bs b o e).2 (I.ok.noex b o e)⟩
theorem Inv.bk(I:Inv X pI Y H s):∀ b o,X.base.get? b=Ab o->s.heap.get? b=Ab o:=λb o e=>(I.bs b o e).1
theorem Inv.mod(I:Inv X pI Y H s):Mod X.K X.mg X.base:=I.ok.mod
theorem Inv.kIn(I:Inv X pI Y H s):X.K.In s.heap:=I.ok.mod.kin.keeps I.bk
theorem Inv.nolimit(I:Inv X pI Y H s):s.heap.NoLimit:=I.ok.mod.nolimit.keeps I.bk
theorem Inv.lt(I:Inv X pI Y H s):X.env.locals<s.heap.objs.size:=let ⟨_,hn,_⟩:=I.loc;hn.lt
theorem Inv.sz(I:Inv X pI Y H s):X.s₀.heap.objs.size<=s.heap.objs.size:=B5 I.ok.above (Gg I.lt)
theorem Inv.nofs(I:Inv X pI Y H s)(h:s.heap.objs.size<=a):a∉X.fs:=λhb=>by
 obtain⟨_,o,ho,_⟩:=I.ok.funs.mem hb;exact absurd (AO (AL ho) (B5 I.sz h)) (Br _)
theorem Inv.cne(I:Inv X pI Y H s):∀ x c,X.env.cells.lookup x=Ab c->c≠X.env.locals:=λx c e z=>by
 obtain⟨v,o,ho,hd⟩:=I.cell x c e;obtain⟨m,⟨o',es,ep,ho',hd',_⟩,_⟩:=I.loc;rw[z,ho']at ho;cases ho;rw[hd']at hd;cases hd
theorem Inv.funs(I:Inv X pI Y H s):s.heap.FunFrames X.base X.outer:=by
 have all:∀(l:Ac Cr),(∀ b∈frs l,b∈X.fs)->X.s₀.heap.FunFrames X.base l->s.heap.FunFrames X.base l:=by
  intro l
  induction l with
  |nil=>intro _ _;trivial
  |cons env r ih=>
   intro hs hl;obtain⟨hk,⟨L,o,hf,hn,ho,hd⟩,hr⟩:=hl;have hL:L∈X.fs:=hs L (by unfold frs;rw[GA,hf];exact AN)
   obtain⟨sl,e⟩:=I.base.slot L o ho (I.ok.frf L hL) hL λz=>I.ok.exfs L z hL
   exact⟨hk,⟨L,_,hf,hn,e,hd⟩,ih (λb hb=>hs b (by unfold frs;rw[GA,hf];exact AC _ hb)) hr⟩
 exact all X.outer (λ_ hb=>hb) I.ok.funs
theorem Inv.stack(I:Inv X pI Y H s):s.heap.FunFrames X.base X.stack:=by
 rcases I.ok.stk with e|⟨e,hf⟩
 .rw[e];exact I.funs
 .rw[e];obtain⟨m,hn,_⟩:=I.loc;refine .cons (by rw[I.ok.kind];decide) hf hn ?_ I.funs
  exact Gi (B5 I.ok.bsz I.ok.above)
theorem Inv.stkSub(I:Inv X pI Y H s):∀ b∈frs X.stack,b∈X.env.locals::X.fs:=λb hb=>by
 rcases I.ok.stk with e|⟨e,hf⟩
 .rw[e]at hb;exact AC _ hb
 .rw[e]at hb;unfold frs at hb;rw[GA,hf]at hb;exact hb
theorem Inv.stkFree(I:Inv X pI Y H s):∀ b∈frs X.stack,H b=Af:=λb hb=>by
 rcases AI.mp (I.stkSub b hb) with e|hb
 .rw[e];exact I.free
 .obtain⟨_,o,ho,_⟩:=I.ok.funs.mem hb;exact I.base.free b o ho (I.ok.frf b hb) λz=>I.ok.exfs b z hb
theorem Inv.step(I:Inv X pI Y H s)(hch:∀ b∈ch,(b∈X.ex\/X.s₀.heap.objs.size<=b)/\b≠X.env.locals/\(∀ x c,X.env.cells.lookup x=Ab c->c≠b)/\∀ p∈X.pn++pI,p.1≠b)(keep:∀ b o,b≠X.env.locals->b∉X.fs->b∉ch->s.heap.get? b=Ab o->H b=Af->h'.get? b=Ab o)(slot:∀ b o,b≠X.env.locals->b∈X.fs->b∉ch->s.heap.get? b=Ab o->H b=Af->∃ sl,h'.get? b=Ab {o with slots:=sl})(free:∀ b o,b∉ch->s.heap.get? b=Ab o->H b=Af->H' b=Af)(there:∀ b o,b∉ch->s.heap.get? b=Ab o->∃ o',h'.get? b=Ab o')(tups:∀ b xs,H b=Ab (.tup xs)->H' b=Ab (.tup xs))(frzs:∀ b o u,H b=Ab (.frz o u)->H' b=Ab (.frz o u))(tbls:∀ b ps,H b=Ab (.tbl ps)->∃ more,H' b=Ab (.tbl (ps++more)))(ns:∀ m,s.heap.Ns X.env.locals m->h'.Ns X.env.locals m)(hok:HOk X.prog X.w H' h')(hg:Fo g'):Inv X pI Y H' {s with heap:=h',gens:=g',drawn:=d',toks:=t'}:=by
 have neL:∀ b o,X.s₀.heap.get? b=Ab o->b≠X.env.locals:=λb o e=>Bj (AO (AL e) I.ok.above)
 have neC:∀ b o,X.s₀.heap.get? b=Ab o->b∉X.ex->b∉ch:=λb o e hx hb=>by
  rcases (hch b hb).1 with z|z
  .exact hx z
  .exact absurd (AO (AL e) z) (Br _)
 have cellK:∀ x c,X.env.cells.lookup x=Ab c->∀ v,s.heap.IsCell c v->h'.IsCell c v:=λx c e v ⟨o,ho,hd⟩=>by
  have nch:c∉ch:=λz=>(hch c z).2.2.1 x c e rfl
  by_cases hc:c∈X.fs
  .obtain⟨sl,q⟩:=slot c o (I.cne x c e) hc nch ho (I.freeC x c e);exact⟨_,q,hd⟩
  .exact⟨o,keep c o (I.cne x c e) hc nch ho (I.freeC x c e),hd⟩
 refine⟨I.ok,I.os,hg,⟨λb o e n hb hx=>?_,λb o e n hb hx=>?_,λb o e n hx=>?_,λb o e hx=>?_,λb xs e=>tups b xs (I.base.tups b xs e),λb o xs e=>frzs b o xs (I.base.frzs b o xs e),λb ps e=>?_⟩,?_,λx c e=>?_,?_,λx c e=>?_,λp hp=>?_,hok,I.len⟩
 .exact keep b o (neL b o e) hb (neC b o e hx) (I.base.keep b o e n hb hx) (I.base.free b o e n hx)
 .obtain⟨sl,e1⟩:=I.base.slot b o e n hb hx;obtain⟨sl',e2⟩:=slot b _ (neL b o e) hb (neC b o e hx) e1 (I.base.free b o e n hx);exact⟨sl',e2⟩
 .obtain⟨o',e1⟩:=I.base.there b o e hx;exact free b o' (neC b o e hx) e1 (I.base.free b o e n hx)
 .obtain⟨o',e1⟩:=I.base.there b o e hx;exact there b o' (neC b o e hx) e1
 .obtain⟨m1,e1⟩:=I.base.tbls b ps e;obtain⟨m2,e2⟩:=tbls b _ e1;exact⟨m1++m2,by rw[e2,Array.append_assoc]⟩
 .obtain⟨m,hn,hl⟩:=I.loc;refine⟨m,ns m hn,λi x v e1 e2 e3=>?_⟩
  obtain⟨u,r,l⟩:=hl i x v e1 e2 e3;refine⟨u,r,?_⟩;rcases l with l|⟨k,c,e,z⟩
  .exact .inl l
  .exact .inr ⟨k,c,e,cellK x c e _ z⟩
 .obtain⟨v,z⟩:=I.cell x c e;exact⟨v,cellK x c e v z⟩
 .obtain⟨m,⟨o,_,_,ho,_⟩,_⟩:=I.loc;exact free _ o (λz=>(hch _ z).2.1 rfl) ho I.free
 .obtain⟨v,o,ho,hd⟩:=I.cell x c e;exact free c o (λz=>(hch c z).2.2.1 x c e rfl) ho (I.freeC x c e)
 .obtain⟨e,n,ne,nf,d⟩:=I.pin p hp;have nch:p.1∉ch:=λz=>(hch p.1 z).2.2.2 p hp rfl
  exact⟨keep p.1 p.2 ne nf nch e n,free p.1 p.2 nch e n,ne,nf,d⟩
theorem Inv.un(I:Inv X pI Y H s)(u:Un X.fs [] H H' s.heap h')(hok:HOk X.prog X.w H' h'):Inv X pI Y H' {s with heap:=h',toks:=t'}:=by
 obtain⟨m,⟨o,es,ep,ho,r⟩,_⟩:=id I.loc;obtain⟨sl,hL⟩:=u.any ho I.free (by simp)
 exact I.step (g':=s.gens) (d':=s.drawn) (ch:=[]) (λ_ z=>nomatch z) (λb o _ hb _ e n=>u.keep b o e n hb (by simp)) (λb o _ hb _ e n=>u.slot b o e n hb (by simp)) (λb o _ e n=>u.free b o e n (by simp)) (λb o _ e=>u.there b o e (by simp)) u.tups u.frzs u.tbls (λm' hm=>by
  obtain⟨o',es',ep',ho',r'⟩:=hm;rw[ho]at ho';cases ho';exact⟨_,es',ep',hL,r'⟩) hok I.bare
theorem Inv.call(I:Inv X pI Y H s)(u:Un (frs X.stack) ch H H' s.heap h')(hok:HOk X.prog X.w H' h')(hg:Fo g')(hch:∀ b∈ch,(b∈X.ex\/X.s₀.heap.objs.size<=b)/\b≠X.env.locals/\(∀ x c,X.env.cells.lookup x=Ab c->c≠b)/\∀ p∈X.pn++pI,p.1≠b):Inv X pI Y H' {s with heap:=h',gens:=g',drawn:=d',toks:=t'}:=by
 obtain⟨m,⟨o,es,ep,ho,r⟩,_⟩:=id I.loc;obtain⟨sl,hL⟩:=u.any ho I.free λz=>(hch _ z).2.1 rfl
 exact I.step (ch:=ch) hch (λb o hL hb hc e n=>u.keep b o e n (λz=>(AI.mp (I.stkSub b z)).elim hL hb) hc) (λb o _ _ hc e n=>u.any e n hc) (λb o hc e n=>u.free b o e n hc) (λb o hc e=>u.there b o e hc) u.tups u.frzs u.tbls (λm' hm=>by
  obtain⟨o',es',ep',ho',r'⟩:=hm;rw[ho]at ho';cases ho';exact⟨_,es',ep',hL,r'⟩) hok hg
theorem Inv.turned(I:Inv X pI Y H s)(k:∀ b o,b≠it->s.heap.get? b=Ab o->h'.get? b=Ab o)(hn:H it=Af)(hL:it≠X.env.locals)(h1:it∈X.ex\/X.s₀.heap.objs.size<=it)(h2:∀ x c,X.env.cells.lookup x=Ab c->c≠it)(h3:∀ p∈X.pn++pI,p.1≠it):Inv X pI Y H {s with heap:=h',toks:=t'}:=by
 have nit:∀ b u,H b=Ab u->b≠it:=λb u e z=>by rw[z,hn]at e;cases e
 refine I.step (g':=s.gens) (d':=s.drawn) (ch:=[it]) (λb hb=>?_) (λb o _ _ hc e _=>k b o (λz=>hc (by simp[z])) e) (λb o _ _ hc e _=>⟨o.slots,k b o (λz=>hc (by simp[z])) e⟩) (λ_ _ _ _ n=>n)
  (λb o hc e=>⟨o,k b o (λz=>hc (by simp[z])) e⟩) (λ_ _ e=>e) (λ_ _ _ e=>e) (λb ps e=>⟨#[],by rw[e];simp⟩) (λm hm=>?_) (λb u e=>?_) I.bare
 .have e:b=it:=by simpa using hb
  subst e;exact⟨h1,hL,h2,h3⟩
 .obtain⟨o,es,ep,ho,r⟩:=hm;exact⟨o,es,ep,k _ o (Ed hL) ho,r⟩
 .refine(I.hok b u e).stay (λc v hc q=>k c v ?_ q) (λ_ q=>q) λ_ _ q=>q
  rcases hc with z|z
  .rw[z];exact nit b u e
  .exact nit c _ z
theorem Inv.tok(I:Inv X pI Y H s)(t:Ae):Inv X pI Y H {s with toks:=t}:=I.un (h':=s.heap) (t':=t) Un.refl I.hok
theorem Inv.kept{t':Ae}(I:Inv X pI Y H s)(k:∀ b u,s.heap.get? b=Ab u->h'.get? b=Ab u):Inv X pI Y H {s with heap:=h',toks:=t'}:=I.un (Un.kept k) (I.hok.kept k)
theorem Inv.laid{a:Ak}{o:HO}{t':Ae}(I:Inv X pI Y H s)(k:∀ b u,s.heap.get? b=Ab u->h'.get? b=Ab u)(hp:s.heap.objs.size<=a)(new:ObjOk X.prog X.w (upd H a o) h' a o):Inv X pI Y (upd H a o) {s with heap:=h',toks:=t'}:=I.un (Un.laid k hp (I.hok.fresh hp)) (I.hok.laid k hp new)
theorem Inv.write{x e:Ak}{o:HO}{t':Ae}(I:Inv X pI Y H s)(mu:Mut (H x))(he:e=x\/H e=Ab (.own x))(k:∀ b u,b≠e->s.heap.get? b=Ab u->h'.get? b=Ab u)(heo:∃ u,h'.get? e=Ab u)(new:ObjOk X.prog X.w (upd H x o) h' x o):Inv X pI Y (upd H x o) {s with heap:=h',toks:=t'}:=I.un (Un.write mu he k heo) (I.hok.write mu he k heo new)
theorem Inv.pins_of{pins':Pn}(I:Inv X pI Y H s)(h:∀ p∈pins',s.heap.get? p.1=Ab p.2/\H p.1=Af/\p.1≠X.env.locals/\p.1∉X.fs/\∀ v,p.2.data≠.cell v):Inv X pins' Y H s:=
 ⟨I.ok,I.os,I.bare,I.base,I.loc,I.cell,I.free,I.freeC,λp hp=>(Ce.mp hp).elim (λz=>I.pin p (ET _ z)) (h p),I.hok,I.len⟩
theorem N7{N:Ac Ah}(hN:N.Nodup){j:Ae}(a:N[i]?=Ab x)(b:N[j]?=Ab x):i=j:=by
 obtain⟨h1,e1⟩:=A4.mp a;obtain⟨h2,e2⟩:=A4.mp b;exact(List.getElem_inj hN).mp (e1.trans e2.symm)
theorem Qo{A:AT}{E:Vq}(I:Inv X pI Y H s)(hN:X.N.Nodup)(hi:X.N[i]?=Ab x)(hx:Loc X.env.scope x)(r:Bx v u)(h:∀ s',Inv X pI (Y.set i (Ab v)) H s'->(∃ a,Fc a s.heap s'.heap/\(a=X.env.locals\/X.env.cells.lookup x=Ab a))->Q () s')(hf:X.fn x=Aa\/X.env.scope.names.lookup x=Ab .local:=by first|exact .inl rfl|exact .inr rfl|assumption):AB M A (storeName X.env x u) Q E s:=by
 obtain⟨m,hn,hl⟩:=id I.loc;have hcls:(X.env.scope.kind==.class||(X.env.scope.kind==.module&&X.env.locals != X.env.globals))=Ad:=by rw[I.ok.kind];rfl
 have hiσ:i<Y.length:=by rw[I.len];exact(A4.mp hi).1
 have cne:=I.cne;have tracked:∀{a:Ak}{h':AD},(∃ o,s.heap.get? a=Ab o/\H a=Af)->Fc a s.heap h'->HOk X.prog X.w H h':=λ{a h'} ha hs b ob e=>by
  obtain⟨_,_,hfree⟩:=ha;refine(I.hok b ob e).stay (λc w' hc q=>(hs.2 c ?_).trans q) (λ_ q=>q) λ_ _ q=>q
  rintro rfl;rcases hc with rfl|hc
  .rw[hfree]at e;cases e
  .rw[hfree]at hc;cases hc
 rcases hx with hk|hk
 .refine wpAny_storeName_local hk hn (λh' hn' hs=>?_) hcls
  obtain⟨oL,_,_,hoL,_⟩:=id hn;refine h _ ⟨I.ok,I.os,I.bare,⟨λb o e n hb hx=>?_,λb o e n hb hx=>?_,I.base.free,λb o e hx=>?_,I.base.tups,I.base.frzs,I.base.tbls⟩,⟨_,hn',λj y v' e1 e2 e3=>?_⟩,λy c e=>?_,I.free,I.freeC,λp hp=>?_,tracked ⟨oL,hoL,I.free⟩ hs,by simpa using I.len⟩ ⟨_,hs,.inl rfl⟩
  .exact(hs.2 b (Bj (AO (AL e) I.ok.above))).trans (I.base.keep b o e n hb hx)
  .obtain⟨sl,e1⟩:=I.base.slot b o e n hb hx;exact⟨sl,(hs.2 b (Bj (AO (AL e) I.ok.above))).trans e1⟩
  .obtain⟨o',e1⟩:=I.base.there b o e hx;exact⟨o',(hs.2 b (Bj (AO (AL e) I.ok.above))).trans e1⟩
  .by_cases hj:j=i
   .subst hj;rw[hi]at e1;cases e1;rw[C2 hiσ]at e2;cases e2;exact⟨u,r,.inl ⟨hk,by simp⟩⟩
   .rw[Ge (Ed hj)]at e2;obtain⟨u',r',q⟩:=hl j y v' e1 e2 e3;refine⟨u',r',?_⟩;rcases q with ⟨k,e⟩|⟨k,c,e,z⟩
    .refine .inl ⟨k,?_⟩;have:y≠x:=λe=>hj (N7 hN e1 (e ▸ hi))
     simp[this,e]
    .exact .inr ⟨k,c,e,z.sameBut hs (cne y c e)⟩
  .obtain⟨w',z⟩:=I.cell y c e;exact⟨w',z.sameBut hs (cne y c e)⟩
  .obtain⟨e,n,ne,nf,d⟩:=I.pin p hp;exact⟨(hs.2 p.1 ne).trans e,n,ne,nf,d⟩
 .have hfn:X.fn x=Aa:=by
   rcases hf with z|z
   .exact z
   .rw[z]at hk;cases hk
  obtain⟨c,hc⟩:=I.ok.has x (.inl hk);obtain⟨w',z⟩:=I.cell x c hc;refine wpAny_storeName_cell I.ok.kind hk hc z (λh' hc' hs=>?_)
  obtain⟨oc,hoc,hocd⟩:=id z;refine h {s with heap:=h'} ⟨I.ok,I.os,I.bare,⟨λb o e n hb hx=>?_,λb o e n hb hx=>?_,I.base.free,λb o e hx=>?_,I.base.tups,I.base.frzs,I.base.tbls⟩,⟨m,hn.sameBut hs (Ed (cne x c hc)),λj y v' e1 e2 e3=>?_⟩,λy c' e=>?_,I.free,I.freeC,λp hp=>?_,tracked ⟨oc,hoc,I.freeC x c hc⟩ hs,by simpa using I.len⟩ ⟨c,hs,.inr hc⟩
  .exact(hs.2 b (Bj (AO (AL e) (I.ok.cab x c hfn hc)))).trans (I.base.keep b o e n hb hx)
  .obtain⟨sl,e1⟩:=I.base.slot b o e n hb hx;exact⟨sl,(hs.2 b (Bj (AO (AL e) (I.ok.cab x c hfn hc)))).trans e1⟩
  .obtain⟨o',e1⟩:=I.base.there b o e hx;exact⟨o',(hs.2 b (Bj (AO (AL e) (I.ok.cab x c hfn hc)))).trans e1⟩
  .by_cases hj:j=i
   .subst hj;rw[hi]at e1;cases e1;rw[C2 hiσ]at e2;cases e2;exact⟨u,r,.inr ⟨.inl hk,c,hc,hc'⟩⟩
   .rw[Ge (Ed hj)]at e2;obtain⟨u',r',q⟩:=hl j y v' e1 e2 e3;refine⟨u',r',?_⟩;rcases q with q|⟨k,c',e,z'⟩
    .exact .inl q
    .refine .inr ⟨k,c',e,z'.sameBut hs ?_⟩;rintro rfl;exact hj (N7 hN e1 (I.ok.inj _ _ _ e hc ▸ hi))
  .by_cases hcc:c'=c
   .subst hcc;exact⟨_,hc'⟩
   .obtain⟨w2,z2⟩:=I.cell y c' e;exact⟨w2,z2.sameBut hs hcc⟩
  .obtain⟨e,n,ne,nf,d⟩:=I.pin p hp;refine⟨(hs.2 p.1 ?_).trans e,n,ne,nf,d⟩;intro q;rw[q,hoc]at e;have q':oc=p.2:=Bh e;exact d w' (by rw[<-q'];exact hocd)
theorem Ol{A:AT}{E:Vq}(I:Inv X pI Y H s)(hN:X.N.Nodup)(hi:X.N[i]?=Ab x)(hx:Loc X.env.scope x)(r:Bx v u)(h:∀ s',Inv X pI (Y.set i (Ab v)) H s'->Q () s')(hf:X.fn x=Aa\/X.env.scope.names.lookup x=Ab .local:=by first|exact .inl rfl|exact .inr rfl|assumption):AB M A (storeName X.env x u) Q E s:=
 Qo I hN hi hx r (λs' I' _=>h s' I') hf
theorem Inv.call'{s':Ap}(I:Inv X pI Y H s)(ho:s'.os=s.os)(u:Un (frs X.stack) ch H H' s.heap s'.heap)(hok:HOk X.prog X.w H' s'.heap)(hg:Fo s'.gens)(hch:∀ b∈ch,(b∈X.ex\/X.s₀.heap.objs.size<=b)/\b≠X.env.locals/\(∀ x c,X.env.cells.lookup x=Ab c->c≠b)/\∀ p∈X.pn++pI,p.1≠b):Inv X pI Y H' s':=by
 obtain⟨h',g',d',t',o'⟩:=s';have e:o'=s.os:=ho;subst e;exact I.call (g':=g') (t':=t') (d':=d') u hok hg hch
end
abbrev XK:=Aj->Am Ak->Hp->Prop
abbrev St:=Ac (Am V)
variable{Y:St}
abbrev VK:=V->Hp->Prop
abbrev TE:=St->Hp->VK->Prop
abbrev TT:=St->Hp->(Ai->Hp->Prop)->Prop
abbrev TA:=St->Hp->(Ac V->Hp->Prop)->Prop
variable{ta:TA}
structure Ends where
 nx:St->Hp->Prop
 rt:VK
 bk:St->Hp->Prop:=λ_ _=>A5
 ct:St->Hp->Prop:=λ_ _=>A5
abbrev TS:=Ends->St->Hp->Prop
def EP(X:Cx)(pI:Pn)(Y:St)(Q:VK)(u:Aj)(s':Ap):Prop:=∃ v H',Inv X pI Y H' s'/\Bx v u/\Q v H'
def TP(X:Cx)(pI:Pn)(Y:St)(Q:Ai->Hp->Prop)(b:Ai)(s':Ap):Prop:=∃ H',Inv X pI Y H' s'/\Q b H'
def AP(X:Cx)(pI:Pn)(Y:St)(Q:Ac V->Hp->Prop)(us:Ac Aj)(s':Ap):Prop:=∃ vs H',Inv X pI Y H' s'/\A6 vs us/\Q vs H'
noncomputable def SP(X:Cx)(pI:Pn)(D:Ends)(f:Flow)(s':Ap):Prop:=
  match f with
  |.next=>∃ Y' H',Inv X pI Y' H' s'/\D.nx Y' H'
  |.brk=>∃ Y' H',Inv X pI Y' H' s'/\D.bk Y' H'
  |.cont=>∃ Y' H',Inv X pI Y' H' s'/\D.ct Y' H'
  |.ret u=>∃ v Y' H',Inv X pI Y' H' s'/\Bx v u/\D.rt v H'
noncomputable def PE(X:Cx)(e:An)(t:TE):Prop:=
 ∀(pI:Pn)(s:Ap)(Y:St)(H:Hp)(Q:VK),Inv X pI Y H s->t Y H Q->AB (model X.prog X.w) X.A (eval e X.env) (EP X pI Y Q) X.xe s
noncomputable def PT(X:Cx)(e:An)(t:TT):Prop:=
 ∀(pI:Pn)(s:Ap)(Y:St)(H:Hp)(Q:Ai->Hp->Prop),Inv X pI Y H s->t Y H Q->AB (model X.prog X.w) X.A (Ii e X.env (eval e X.env)) (TP X pI Y Q) X.xe s
noncomputable def PW(X:Cx)(e:An)(t:TT):Prop:=
 ∀(whole:Dq Aj)(pI:Pn)(s:Ap)(Y:St)(H:Hp)(Q:Ai->Hp->Prop),Inv X pI Y H s->t Y H Q->AB (model X.prog X.w) X.A (Ii e X.env whole) (TP X pI Y Q) X.xe s
theorem PW.pt{t:TT}(h:PW X e t):PT X e t:=h _
noncomputable def PA(X:Cx)(es:Ac An)(t:TA):Prop:=
 ∀(pos:AR)(pI:Pn)(s:Ap)(Y:St)(H:Hp)(Q:Ac V->Hp->Prop),Inv X pI Y H s->t Y H Q->AB (model X.prog X.w) X.A (spliced (BR pos (Ay es X.env))) (AP X pI Y Q) X.xe s
noncomputable def PS(X:Cx)(st:AZ)(t:TS):Prop:=
 ∀(pI:Pn)(s:Ap)(Y:St)(H:Hp)(D:Ends),Inv X pI Y H s->t D Y H->AB (model X.prog X.w) X.A (exec st X.env) (SP X pI D) X.xe s
noncomputable def PSs(X:Cx)(st:Ac AZ)(t:TS):Prop:=
 ∀(pI:Pn)(s:Ap)(Y:St)(H:Hp)(D:Ends),Inv X pI Y H s->t D Y H->AB (model X.prog X.w) X.A (execs st X.env) (SP X pI D) X.xe s
theorem thn{α:Type}{t:Dq α}{Q Q':α->Ap->Prop}{A:AT}{E:Vq}(h:AB M A t Q E s)(hQ:∀ a s,Q a s->Q' a s):AB M A t Q' E s:=Bt h hQ λ_ _ x=>x
section
variable{X:Cx}
def IK(i:Ae):TE:=λY H Q=>∃ v,Y[i]?=Ab (Ab v)/\Q v H
def tC(v:V):TE:=λ_ H Q=>Q v H
theorem Tx(hN:X.N[i]?=Ab x)(hv:Vis X.env.scope x)(hd:(x==("__debug__" : Ah))=Ad:=by decide)(hcd:(x==("__classdict__" : Ah))=Ad:=by decide):PE X (.Name x pos) (IK i):=by
 intro pI s Y H Q I h;obtain⟨v,e,h⟩:=h;obtain⟨m,hn,hl⟩:=I.loc;obtain⟨u,r,l⟩:=hl i x v hN e hv;have fin:EP X pI Y Q u s:=⟨v,H,I,r,h⟩;rcases l with ⟨hk,hm⟩|⟨hk,c,hc,hcell⟩
 .exact J9 (wpAny_loadName_local I.ok.kind hk hn hm fin) hd
 .rcases hk with hk|hk
  .exact J9 (wpAny_loadName_cell I.ok.kind hk hc hcell fin) hd
  .exact J9 (wpAny_loadName_free I.ok.kind hk hc hcell fin hcd) hd
theorem jY{i j pos}:PE X (.Constant (.int i) j pos) (tC (.int i)):=λ_ _ _ H _ I h=>wpAny_Constant_int ⟨.int i,H,I.tok _,⟨_,rfl⟩,h⟩
theorem oY{b j pos}:PE X (.Constant (.bool b) j pos) (tC (.bl b)):=λ_ _ _ H _ I h=>Constant_bool ⟨.bl b,H,I,rfl,h⟩
theorem jW{j pos}:PE X (.Constant .none j pos) (tC .non):=λ_ _ _ H _ I h=>Constant_none ⟨.non,H,I,rfl,h⟩
theorem jT{x j pos}:PE X (.Constant (.str x) j pos) (tC (.str x)):=λ_ _ _ H _ I h=>Calls.Constant_str ⟨.str x,H,I.tok _,⟨_,rfl⟩,h⟩
def Gl(X:Cx)(x:Ah):Prop:=X.env.kindOf x=Ab .globalImplicit
theorem Lw{E:Vq}{Q:Vq}(I:Inv X pI Y H s)(hg:Gl X x)(hm:X.mg x=Ab u)(h:Q u s)(hd:(x==("__debug__" : Ah))=Ad:=by decide):AB (model X.prog X.w) X.A (eval (.Name x pos) X.env) Q E s:=
 VT I.ok.kind hg (Calls.loadGlobal_global (by rw[I.ok.glob];exact I.mod.glob.keeps I.bk) hm h) hd
theorem JS{E:Vq}{Q:Vq}(I:Inv X pI Y H s)(hg:Gl X x)(hm:X.mg x=Af)(hv:CB x=Ab u)(h:Q u s)(hn:x≠"__name__" := by decide)(hd:(x==("__debug__" : Ah))=Ad:=by decide):AB (model X.prog X.w) X.A (eval (.Name x pos) X.env) Q E s:=by
 obtain⟨mb,h1,h2⟩:=I.mod.blt;exact VT I.ok.kind hg (Calls.loadGlobal_builtin (by rw[I.ok.glob];exact I.mod.glob.keeps I.bk) hm (by rw[I.ok.blt];exact h1.keeps I.bk) ((h2 x hn).trans hv) h) hd
theorem RQ(hg:Gl X x)(hm:X.mg x=Ab u)(r:Bx v u)(hd:(x==("__debug__" : Ah))=Ad:=by decide):PE X (.Name x pos) (tC v):=
 λ_ _ _ H _ I h=>Lw I hg hm ⟨v,H,I,r,h⟩ hd
theorem RU(hg:Gl X x)(hm:X.mg x=Af)(hv:CB x=Ab u)(r:Bx v u)(hn:x≠"__name__" := by decide)(hd:(x==("__debug__" : Ah))=Ad:=by decide):PE X (.Name x pos) (tC v):=
 λ_ _ _ H _ I h=>JS I hg hm hv ⟨v,H,I,r,h⟩ hn hd
variable{a b:An}{ta tb:TE}{pos:AR}
variable{tA tB':TT}{rest:Ac An}
def rB(t u:TT):TT:=λY H Q=>t Y H λc H1=>if c=Aa then u Y H1 Q else Q Ad H1
def tOr(t u:TT):TT:=λY H Q=>t Y H λc H1=>if c=Aa then Q Aa H1 else u Y H1 Q
def qW(t:TT):TT:=λY H Q=>t Y H λc H1=>Q (!c) H1
theorem Z_9(ha:PT X a tA):PW X (.BoolOp .And [a] pos) tA:=by
 intro wh pI s Y H Q I h;refine isTrue_and (thn (ha pI s Y H Q I h) λc s1 e=>?_)
 cases c with
 |true=>exact isTrue_and_nil e
 |false=>exact e
theorem jK(ha:PT X a tA):PW X (.BoolOp .Or [a] pos) tA:=by
 intro wh pI s Y H Q I h;refine isTrue_or (thn (ha pI s Y H Q I h) λc s1 e=>?_)
 cases c with
 |false=>exact isTrue_or_nil e
 |true=>exact e
theorem jL(ha:PT X a tA)(hb:PW X (.BoolOp .And (b::rest) pos) tB'):PW X (.BoolOp .And (a::b::rest) pos) (rB tA tB'):=by
 intro wh pI s Y H Q I h;refine isTrue_and (thn (ha pI s Y H _ I h) λc s1 ⟨H1,I1,q1⟩=>?_)
 cases c with
 |true=>exact hb wh pI s1 Y H1 Q I1 q1
 |false=>exact⟨H1,I1,q1⟩
theorem oR(ha:PT X a tA)(hb:PW X (.BoolOp .Or (b::rest) pos) tB'):PW X (.BoolOp .Or (a::b::rest) pos) (tOr tA tB'):=by
 intro wh pI s Y H Q I h;refine isTrue_or (thn (ha pI s Y H _ I h) λc s1 ⟨H1,I1,q1⟩=>?_)
 cases c with
 |true=>exact⟨H1,I1,q1⟩
 |false=>exact hb wh pI s1 Y H1 Q I1 q1
theorem jM(ha:PT X a tA):PT X (.UnaryOp .Not a pos) (qW tA):=by
 intro pI s Y H Q I h;exact isTrue_not (ha pI s Y H (λc H1=>Q (!c) H1) I h)
def lX(ta tb:TE):TE:=λY H Q=>ta Y H λx H1=>∃ c,x=.bl c/\if c=Aa then tb Y H1 Q else Q (.bl Ad) H1
def qV(ta tb:TE):TE:=λY H Q=>ta Y H λx H1=>∃ c,x=.bl c/\if c=Aa then Q (.bl Aa) H1 else tb Y H1 Q
def lS(ta:TE):TE:=λY H Q=>ta Y H λx H1=>∃ c,x=.bl c/\Q (.bl (!c)) H1
theorem jU{op}{t:TE}(h:PE X a t):PE X (.BoolOp op [a] pos) t:=λpI s Y H Q I hw=>BoolOp_one (h pI s Y H Q I hw)
theorem jZ(ha:PE X a ta)(hb:PE X (.BoolOp .And (b::rest) pos) tb):PE X (.BoolOp .And (a::b::rest) pos) (lX ta tb):=by
 intro pI s Y H Q I h;refine BoolOp_and (thn (ha pI s Y H _ I h) λv s1 ⟨x,H1,I1,r1,q1⟩=>?_)
 obtain⟨c,rfl,q1⟩:=q1;cases r1;refine CU ?_;cases c with
 |true=>exact hb pI s1 Y H1 Q I1 q1
 |false=>exact⟨.bl Ad,H1,I1,rfl,q1⟩
theorem oW(ha:PE X a ta)(hb:PE X (.BoolOp .Or (b::rest) pos) tb):PE X (.BoolOp .Or (a::b::rest) pos) (qV ta tb):=by
 intro pI s Y H Q I h;refine BoolOp_or (thn (ha pI s Y H _ I h) λv s1 ⟨x,H1,I1,r1,q1⟩=>?_)
 obtain⟨c,rfl,q1⟩:=q1;cases r1;refine CU ?_;cases c with
 |false=>exact hb pI s1 Y H1 Q I1 q1
 |true=>exact⟨.bl Aa,H1,I1,rfl,q1⟩
theorem jV(ha:PE X a ta):PE X (.UnaryOp .Not a pos) (lS ta):=by
 intro pI s Y H Q I h;refine UnaryOp_ (thn (ha pI s Y H _ I h) λv s1 ⟨x,H1,I1,r1,q1⟩=>?_)
 obtain⟨c,rfl,q1⟩:=q1;cases r1;exact not_of (CU ⟨.bl (!c),H1,I1,rfl,q1⟩)
end
noncomputable def SqL(K:Fg)(H:Hp)(a:Ak)(xs:Ac V):Prop:=
 Rd H a (.lst xs) \/
  ∃(o:DE)(its:Ax Aj)(n:Ae),K.lookup a=Ab o/\o.cls=.type "list"/\o.dict=Af/\o.data=.seq its n/\its.size<=sizeLine/\A6 xs its.toList
noncomputable def SqT(K:Fg)(H:Hp)(a:Ak)(xs:Ac V):Prop:=
 Rd H a (.tup xs) \/
  ∃(o:DE)(its:Ax Aj)(n:Ae),K.lookup a=Ab o/\o.cls=.type "tuple"/\o.data=.seq its n/\its.size<=sizeLine/\A6 xs its.toList
noncomputable def rC:Aj->Am V
 |.none=>Ab .non
 |.bool b=>Ab (.bl b)
 |.int i _=>Ab (.int i)
 |.str x _=>Ab (.str x)
 |.bytes b _=>Ab (.byt b)
 |.float b _=>Ab (.flt b)
 |.ref a=>Ab (.ref a)
 |.type n=>Ab (.ty n)
 |_=>Af
theorem Bx.abs{x:V}(r:Bx x u):rC u=Ab x:=by
 cases x with
 |non=>cases r;rfl
 |bl _=>cases r;rfl
 |int _=>obtain⟨t,rfl⟩:=r;rfl
 |str _=>obtain⟨t,rfl⟩:=r;rfl
 |byt _=>obtain⟨t,rfl⟩:=r;rfl
 |flt _=>obtain⟨t,rfl⟩:=r;rfl
 |ref _=>cases r;rfl
 |ty _=>cases r;rfl
theorem Bx.inj{x y:V}(r:Bx x u)(q:Bx y u):x=y:=Bh (r.abs.symm.trans q.abs)
theorem A6.inj:∀{xs ys:Ac V}{us:Ac Aj},A6 xs us->A6 ys us->xs=ys
 |_,_,_,.nil,.nil=>rfl
 |_,_,_,.cons r t,.cons r' t'=>by rw[r.inj r',A6.inj t t']
section
variable{X:Cx}{pI:Pn}{Y:St}{H:Hp}{s:Ap}{a:Ak}{xs ys:Ac V}
theorem SqL.of{K:Fg}(h:H a=Ab (.lst xs)):SqL K H a xs:=.inl (.inl h)
theorem SqT.of{K:Fg}(h:H a=Ab (.tup xs)):SqT K H a xs:=.inl (.inl h)
theorem Inv.list(I:Inv X pI Y H s)(h:SqL X.K H a xs):∃ its:Ac Aj,A6 xs its/\PlainL s.heap a its.toArray/\xs.length<=sizeLine:=by
 rcases h with h|⟨o,its,n,hk,hc,hd,hs,hz,r⟩
 .obtain⟨z,its,n,r,e⟩:=h.ok I.hok;exact⟨its,r,⟨_,n,e,rfl,rfl,rfl⟩,z⟩
 .refine⟨its.toList,r,⟨o,n,I.kIn a o hk,hc,hd,by simpa using hs⟩,?_⟩
  have e:=r.length;simp only[AF]at e;omega
theorem Inv.tuple(I:Inv X pI Y H s)(h:SqT X.K H a xs):∃ its:Ac Aj,A6 xs its/\JY s.heap a its.toArray/\xs.length<=sizeLine:=by
 rcases h with h|⟨o,its,n,hk,hc,hs,hz,r⟩
 .obtain⟨z,its,r,p⟩:=h.ok I.hok;exact⟨its,r,p,z⟩
 .refine⟨its.toList,r,⟨o,I.kIn a o hk,hc,n,by simpa using hs⟩,?_⟩
  have e:=r.length;simp only[AF]at e;omega
theorem Inv.list_inj(I:Inv X pI Y H s)(h:SqL X.K H a xs)(h':SqL X.K H a ys):xs=ys:=by
 obtain⟨its,r,⟨o,n,e,_,_,d⟩,_⟩:=I.list h;obtain⟨its',r',⟨o',n',e',_,_,d'⟩,_⟩:=I.list h';rw[e]at e';cases e';rw[d]at d'
 injection d' with d1 _
 have:its=its':=by simpa using congrArg UW d1
 subst this;exact r.inj r'
theorem Inv.tuple_inj(I:Inv X pI Y H s)(h:SqT X.K H a xs)(h':SqT X.K H a ys):xs=ys:=by
 obtain⟨its,r,⟨o,e,_,n,d⟩,_⟩:=I.tuple h;obtain⟨its',r',⟨o',e',_,n',d'⟩,_⟩:=I.tuple h';rw[e]at e';cases e';rw[d]at d'
 injection d' with d1 _
 have:its=its':=by simpa using congrArg UW d1
 subst this;exact r.inj r'
end
noncomputable abbrev Cx.wish(X:Cx)(E:Vq):Cx:={X with xe:=E}
noncomputable abbrev Cx.nox(X:Cx):Cx:=X.wish λ_ _=>A5
theorem Cx.Ok.wish(ok:X.Ok)(E:Vq):(X.wish E).Ok:=
 ⟨ok.mod,ok.kind,ok.glob,ok.blt,ok.above,ok.inj,ok.has,ok.cab,ok.hd,ok.frames,ok.stk,ok.exf,ok.bs,ok.bsz,ok.noex,ok.exfs,ok.funs,ok.frf⟩
theorem Cx.Ok.unwish{E:Vq}(ok:(X.wish E).Ok):X.Ok:=
 ⟨ok.mod,ok.kind,ok.glob,ok.blt,ok.above,ok.inj,ok.has,ok.cab,ok.hd,ok.frames,ok.stk,ok.exf,ok.bs,ok.bsz,ok.noex,ok.exfs,ok.funs,ok.frf⟩
section
variable{X:Cx}{pI:Pn}{Y:St}{H:Hp}{s:Ap}{E:Vq}
theorem Inv.wish(I:Inv X pI Y H s)(E:Vq):Inv (X.wish E) pI Y H s:=⟨I.ok.wish E,I.os,I.bare,I.base,I.loc,I.cell,I.free,I.freeC,I.pin,I.hok,I.len⟩
theorem Inv.unwish(I:Inv (X.wish E) pI Y H s):Inv X pI Y H s:=⟨I.ok.unwish,I.os,I.bare,I.base,I.loc,I.cell,I.free,I.freeC,I.pin,I.hok,I.len⟩
theorem SP.unwish{D:Ends}{f:Flow}{s':Ap}(h:SP (X.wish E) pI D f s'):SP X pI D f s':=by
 cases f with
 |next=>obtain⟨Y',H',I,q⟩:=h;exact⟨Y',H',I.unwish,q⟩
 |brk=>obtain⟨Y',H',I,q⟩:=h;exact⟨Y',H',I.unwish,q⟩
 |cont=>obtain⟨Y',H',I,q⟩:=h;exact⟨Y',H',I.unwish,q⟩
 |ret u=>obtain⟨v,Y',H',I,r,q⟩:=h;exact⟨v,Y',H',I.unwish,r,q⟩
theorem PSs.nox{st:Ac AZ}{t:TS}(h:PSs X.nox st t):PSs X st t:=λpI s Y H D I hw=>
 Bt (h pI s Y H D (I.wish _) hw) (λ_ _ q=>q.unwish) λ_ _ z=>Bs z
end
section
variable{X:Cx}{st:AZ}{rest:Ac AZ}{t u:TS}{e:An}{te:TE}{pos:AR}
def lT:TS:=λD Y H=>D.nx Y H
def qT(t u:TS):TS:=λD Y H=>t {D with nx:=u D} Y H
theorem dG:PSs X [] lT:=λ_ _ Y H _ I h=>E6 ⟨Y,H,I,h⟩
theorem YU(h1:PS X st t)(h2:PSs X rest u):PSs X (st::rest) (qT t u):=by
 intro pI s Y H D I h;refine Hr (thn (h1 pI s Y H {D with nx:=u D} I h) λf s1 q=>?_)
 cases f with
 |next=>
  obtain⟨Y',H',I',q⟩:=q;exact h2 pI s1 Y' H' D I' q
 |ret v=>exact q
 |brk=>exact q
 |cont=>exact q
theorem Mu(h1:PS X st t):PSs X [st] t:=by
 intro pI s Y H D I h;refine Hr (thn (h1 pI s Y H D I h) λf s1 q=>?_)
 cases f with
 |next=>exact E6 q
 |ret v=>exact q
 |brk=>exact q
 |cont=>exact q
theorem Inv.quiet(I:Inv X pI Y H s):interactive X.env=Ad:=by simp[interactive,I.ok.kind]
def lU(te:TE):TS:=λD Y H=>te Y H λ_ H1=>D.nx Y H1
theorem Ks(he:PE X e te)(hs:Dh e Af pos.line X.env=pure Ad:=by rfl):PS X (.Expr e pos) (lU te):=by
 intro pI s Y H D I h;exact wpAny_Expr_any (thn (he pI s Y H _ I h) λv s1 ⟨x,H1,I1,r1,q1⟩=>⟨Y,H1,I1,q1⟩) I.quiet hs
def qU(te:TE):TS:=λD Y H=>te Y H D.rt
theorem OX(he:PE X e te):PS X (.Return (Ab e) pos) (qU te):=by
 intro pI s Y H D I h;exact wpAny_Return_some (thn (he pI s Y H _ I h) λv s1 ⟨x,H1,I1,r1,q1⟩=>⟨x,Y,H1,I1,r1,q1⟩)
def qZ(c:TT)(t u:TS):TS:=λD Y H=>c Y H λb H1=>if b=Aa then t D Y H1 else u D Y H1
theorem oS{c:An}{a b:Ac AZ}{tc:TT}(hc:PT X c tc)(ha:PSs X a t)(hb:PSs X b u):PS X (.If c a b pos) (qZ tc t u):=by
 intro pI s Y H D I h;refine wpAny_If (thn (hc pI s Y H _ I h) λd s1 ⟨H1,I1,q1⟩=>?_)
 cases d with
 |true=>exact ha pI s1 Y H1 D I1 q1
 |false=>exact hb pI s1 Y H1 D I1 q1
end
abbrev TG:=V->St->Hp->(St->Hp->Prop)->Prop
abbrev TGs:=Ac V->St->Hp->(St->Hp->Prop)->Prop
noncomputable def PG(X:Cx)(target:An)(t:TG):Prop:=
 ∀(pI:Pn)(s:Ap)(Y:St)(H:Hp)(v:V)(u:Aj)(Q:St->Hp->Prop),Inv X pI Y H s->Bx v u->t v Y H Q ->
  AB (model X.prog X.w) X.A (assign target X.env u) (λ_ s'=>∃ Y' H',Inv X pI Y' H' s'/\Q Y' H') X.xe s
noncomputable def PGs(X:Cx)(ts:Ac An)(t:TGs):Prop:=
 ∀(pI:Pn)(s:Ap)(Y:St)(H:Hp)(vs:Ac V)(us:Ac Aj)(Q:St->Hp->Prop),Inv X pI Y H s->A6 vs us->t vs Y H Q ->
  AB (model X.prog X.w) X.A (assignInOrder ((D9 ts X.env).map (·.2)) us) (λ_ s'=>∃ Y' H',Inv X pI Y' H' s'/\Q Y' H') X.xe s
section
variable{X:Cx}{pos:AR}
def GZ(i:Ae):TG:=λv Y H Q=>Q (Y.set i (Ab v)) H
theorem Mv(hN:X.N.Nodup)(hi:X.N[i]?=Ab x)(hx:Loc X.env.scope x)(hf:X.fn x=Aa\/X.env.scope.names.lookup x=Ab .local:=by first|exact .inl rfl|exact .inr rfl|assumption):PG X (.Name x pos) (GZ i):=by
 intro pI s Y H v u Q I r h;exact Xi (Ol I hN hi hx r (λs' I'=>⟨_,H,I',h⟩) hf)
def LW:TGs:=λvs Y H Q=>vs=[]/\Q Y H
def LM(t:TG)(u:TGs):TGs:=λvs Y H Q=>∃ v r,vs=v::r/\t v Y H λY' H'=>u r Y' H' Q
theorem dM:PGs X [] LW:=by
 intro pI s Y H vs us Q I r h;obtain⟨e,h⟩:=h;subst e;cases r;exact assignInOrder_nil ⟨Y,H,I,h⟩
theorem ZJ{t:TG}{u:TGs}(h1:PG X e t)(h2:PGs X es u)(hs:(D9 (e::es) X.env).map (·.2)=assign e X.env::(D9 es X.env).map (·.2):=by rfl):PGs X (e::es) (LM t u):=by
 intro pI s Y H vs us Q I r h;obtain⟨v,vr,e1,h⟩:=h;subst e1;cases r with
 |cons r rr=>
  rw[hs];refine assignInOrder_cons (thn (h1 pI s Y H _ _ _ I r h) λ_ s1 ⟨Y1,H1,I1,q1⟩=>?_)
  exact h2 pI s1 Y1 H1 _ _ Q I1 rr q1
def PJ(K:Fg)(n:Ae)(t:TGs):TG:=λv Y H Q=>∃ a xs,v=.ref a/\SqT K H a xs/\xs.length=n/\t xs Y H Q
theorem jS{t:TGs}(hc:X.calm=Aa)(h:PGs X es t)(hn:(D9 es X.env).length=n:=by rfl)(hst:(D9 es X.env).findIdx? (·.1)=Af:=by rfl):PG X (.Tuple es k pos) (PJ X.K n t):=by
 intro pI s Y H v u Q I r hw;obtain⟨a,xs,e1,hq,hl,hw⟩:=hw;subst e1;cases r;obtain⟨its,rv,ht,hz⟩:=I.tuple hq;refine assign_Tuple_tuple (I.ok.hd hc) ht (by simp[hn,<-hl,rv.length]) hst λh' hx=>?_
 have I1:Inv X pI Y H {s with heap:=h'}:=I.kept (t':=s.toks) λb o e=>hx b o (Bj (AL e)) e
 exact h pI _ Y H xs _ Q I1 (by simpa using rv) hw
def Px(te:TE)(g:TG):TS:=λD Y H=>te Y H λx H1=>g x Y H1 D.nx
theorem ME{te:TE}{pos':AR}(hN:X.N.Nodup)(hi:X.N[i]?=Ab x)(hx:Loc X.env.scope x)(he:PE X e te)(hs:Dh e (Ab (.Name x pos')) pos.line X.env=pure Ad:=by rfl)(hf:X.fn x=Aa\/X.env.scope.names.lookup x=Ab .local:=by first|exact .inl rfl|exact .inr rfl|assumption):PS X (.Assign [.Name x pos'] e pos) (Px te (GZ i)):=by
 intro pI s Y H D I h;refine wpAny_Assign_Name (thn (he pI s Y H _ I h) λv s1 ⟨y,H1,I1,r1,q1⟩=>?_) hs
 exact Ol I1 hN hi hx r1 (λs2 I2=>⟨_,H1,I2,q1⟩) hf
end
section
variable{X:Cx}{pos:AR}
end
structure It where
 go:Ae->Hp->Prop
 yld:Ae->Hp->V->Hp->Prop
 stop:Ae->Hp->Prop
noncomputable def Gz(X:Cx)(pI:Pn)(H:Hp)(b:Ak):Prop:=
 H b=Af/\b≠X.env.locals/\b∉X.fs/\(b∈X.ex\/X.s₀.heap.objs.size<=b)/\(∀ x c,X.env.cells.lookup x=Ab c->c≠b)/\∀ p∈X.pn++pI,p.1≠b
theorem Inv.fpOk{H':Hp}(I:Inv X pI Y H s)(hb:s.heap.objs.size<=b)(hn:H' b=Af):Gz X pI H' b:=by
 refine⟨hn,Fb (AO I.lt hb),I.nofs hb,.inr (B5 I.sz hb),λx c e z=>?_,λp hp z=>?_⟩
 .obtain⟨v,q⟩:=I.cell x c e;exact absurd (AO q.lt (by rw[z];exact hb)) (Br _)
 .exact absurd (AO (AL (I.pin p hp).1) (by rw[z];exact hb)) (Br _)
structure Turn (P:AM) (w:AY) (K:Fg) (tg:An) (J:It) (fp:Ac Ak) (it:Ak) (tn:Ae->AD->Prop):Prop where
 mem:it∈fp
 obj:∀ i h,tn i h->∀ b∈fp,∃ o,h.get? b=Ab o/\∀ v,o.data≠.cell v
 keep:∀ i h h',tn i h->(∀ b∈fp,∀ o,h.get? b=Ab o->h'.get? b=Ab o)->tn i h'
 item:∀(X:Cx),X.prog=P->X.w=w->X.K=K->X.calm=Aa->∀(i:Ae)(pI:Pn)(s:Ap)(Y:St)(H:Hp)(E:Vq),Inv X pI Y H s->(∀ b∈fp,Gz X pI H b)->tn i s.heap->J.go i H ->
  AB (model P w) X.A (GU (.ref it)) (λr s1=>∃ u,r=Ab u /\
   AB (model P w) X.A (Gm tg (.ref it) u) (λ_ s2=>∃ x H',Inv X pI Y H' s2/\Bx x u/\J.yld i H x H'/\tn (i+1) s2.heap/\∀ b∈fp,H' b=Af) E s1) E s
 done:∀(X:Cx),X.prog=P->X.w=w->X.K=K->X.calm=Aa->∀(i:Ae)(pI:Pn)(s:Ap)(Y:St)(H:Hp)(E:Vq),Inv X pI Y H s->(∀ b∈fp,Gz X pI H b)->tn i s.heap->J.stop i H ->
  AB (model P w) X.A (GU (.ref it)) (λr s1=>r=Af/\Inv X pI Y H s1) E s
 self:∀(A:AT)(i:Ae)(s:Ap)(Q:Vq)(E:Vq),tn i s.heap->Q (.ref it) s->AB (model P w) A (J7 (.ref it)) Q E s
abbrev TI:=St->Hp->(It->Hp->Prop)->Prop
noncomputable def PIE(X:Cx)(pI:Pn)(Y:St)(tg:An)(R:It->Hp->Prop)(itv:Aj)(s2:Ap):Prop:=
 ∃(it:Ak)(fp:Ac Ak)(tn:Ae->AD->Prop)(J:It)(H':Hp),itv=.ref it/\Inv X pI Y H' s2/\Turn X.prog X.w X.K tg J fp it tn/\tn 0 s2.heap/\(∀ b∈fp,Gz X pI H' b)/\R J H'
noncomputable def PI(X:Cx)(tg iter:An)(wi:TI):Prop:=
 ∀(pI:Pn)(s:Ap)(Y:St)(H:Hp)(R:It->Hp->Prop),Inv X pI Y H s->wi Y H R ->
  AB (model X.prog X.w) X.A (eval iter X.env) (λv s1=>AB (model X.prog X.w) X.A (J7 v) (PIE X pI Y tg R) X.xe s1) X.xe s
theorem M1{A:AT}{E:Vq}{n:CD}{vs:Ax Aj}(ho:s.heap.get? it=Ab o)(hc:o.cls=.type n)(hd:o.data=.fields vs)(hn:["enumerate", "zip", "dict_itemiterator", "dict_reverseitemiterator", "odict_iterator", "itertools.zip_longest", "itertools.pairwise"].contains n=Ad)(hQ:Q () s):AB M A (Gm tg (.ref it) u) Q E s:=by
  unfold Gm;cases tg<;>first
    |exact AK hQ
    | (cases u<;>first
        |exact AK hQ
        | (refine Ao (wpAny_load ho ?_)
           rw[hc,hd];show AB M A (if (["enumerate", "zip", "dict_itemiterator", "dict_reverseitemiterator", "odict_iterator", "itertools.zip_longest", "itertools.pairwise"].contains n&&vs[0]? == Ab (E2 _))=Aa then _ else _) Q E s
           rw[Ar (by intro h;rw[hn,DB]at h;cases h)]
           exact AK hQ))
noncomputable def Itl(K:Fg)(a:Ak):It:=
 ⟨λi H=>∃ xs x,SqL K H a xs/\xs[i]?=Ab x,λi H x H'=>H'=H/\∀ xs,SqL K H a xs->xs[i]?=Ab x,λi H=>∃ xs,SqL K H a xs/\xs.length<=i⟩
noncomputable def Itt(K:Fg)(a:Ak):It:=
 ⟨λi H=>∃ xs x,SqT K H a xs/\xs[i]?=Ab x,λi H x H'=>H'=H/\∀ xs,SqT K H a xs->xs[i]?=Ab x,λi H=>∃ xs,SqT K H a xs/\xs.length<=i⟩
noncomputable def Itr(lo:Ag)(n:Ae):It:=⟨λi _=>i<n,λi H x H'=>H'=H/\x=.int (lo+i),λi _=>n<=i⟩
theorem XN{w:AY}{K:Fg}(a it:Ak):Turn P w K tg (Itl K a) [it] it (λi h=>h.IsListIter it a i) where
  mem:=by simp
  obj:=λi h st b hb=>by
    have e:b=it:=by simpa using hb
    subst e;obtain⟨o,e,c,d⟩:=st;exact⟨o,e,λv z=>by rw[d]at z;cases z⟩
  keep:=λi h h' st k=>st.at λo e=>k it (by simp) o e
  item:=by
    intro X hP hw hK hc i pI s Y H E I hf st hg;subst hP hw hK;obtain⟨xs,x,hq,hx⟩:=hg;obtain⟨its,rv,p,hz⟩:=I.list hq;obtain⟨u,hu,ru⟩:=rv.get hx;obtain⟨f0,f1,f2,f3,f4,f5⟩:=hf it (by simp)
    refine wpAny_pyNext_list_item st p.isList (x:=u) (by simpa using hu) λh' st' sb=>?_
    have I1:Inv X pI Y H {s with heap:=h'}:=I.turned (t':=s.toks) (λb o hb e=>(sb.2 b hb).trans e) f0 f1 f3 f4 f5
    obtain⟨o,e,c,d⟩:=id st';exact⟨u,rfl,M1 (s:={s with heap:=h'}) e c d (by decide) ⟨x,H,I1,ru,⟨rfl,λys hy=>by rw[I.list_inj hy hq];exact hx⟩,st',λb hb=>(hf b hb).1⟩⟩
  done:=by
    intro X hP hw hK hc i pI s Y H E I hf st hg;subst hP hw hK;obtain⟨xs,hq,hx⟩:=hg;obtain⟨its,rv,p,hz⟩:=I.list hq;obtain⟨f0,f1,f2,f3,f4,f5⟩:=hf it (by simp)
    have hl:=rv.length;exact wpAny_pyNext_list_end (I.ok.hd hc) st p.isList (by simp;omega) λh' eb=>⟨rfl,I.turned (t':=s.toks) (λb o hb e=>eb b o hb e) f0 f1 f3 f4 f5⟩
  self:=λ_ _ _ _ _ st h=>wpAny_pyIter_listiter st h
theorem X7{w:AY}{K:Fg}(a it:Ak):Turn P w K tg (Itt K a) [it] it (λi h=>h.IsTupleIter it a i) where
  mem:=by simp
  obj:=λi h st b hb=>by
    have e:b=it:=by simpa using hb
    subst e;obtain⟨o,e,c,d⟩:=st;exact⟨o,e,λv z=>by rw[d]at z;cases z⟩
  keep:=λi h h' st k=>st.at λo e=>k it (by simp) o e
  item:=by
    intro X hP hw hK hc i pI s Y H E I hf st hg;subst hP hw hK;obtain⟨xs,x,hq,hx⟩:=hg;obtain⟨its,rv,p,hz⟩:=I.tuple hq;obtain⟨u,hu,ru⟩:=rv.get hx;obtain⟨f0,f1,f2,f3,f4,f5⟩:=hf it (by simp)
    refine wpAny_pyNext_tuple_item st (show s.heap.IsTuple a its.toArray from p) (x:=u) (by simpa using hu) λh' st' sb=>?_
    have I1:Inv X pI Y H {s with heap:=h'}:=I.turned (t':=s.toks) (λb o hb e=>(sb.2 b hb).trans e) f0 f1 f3 f4 f5
    obtain⟨o,e,c,d⟩:=id st';exact⟨u,rfl,M1 (s:={s with heap:=h'}) e c d (by decide) ⟨x,H,I1,ru,⟨rfl,λys hy=>by rw[I.tuple_inj hy hq];exact hx⟩,st',λb hb=>(hf b hb).1⟩⟩
  done:=by
    intro X hP hw hK hc i pI s Y H E I hf st hg;subst hP hw hK;obtain⟨xs,hq,hx⟩:=hg;obtain⟨its,rv,p,hz⟩:=I.tuple hq;obtain⟨f0,f1,f2,f3,f4,f5⟩:=hf it (by simp)
    have hl:=rv.length;exact wpAny_pyNext_tuple_end (I.ok.hd hc) st (show s.heap.IsTuple a its.toArray from p) (by simp;omega) λh' eb=>⟨rfl,I.turned (t':=s.toks) (λb o hb e=>eb b o hb e) f0 f1 f3 f4 f5⟩
  self:=λ_ _ _ _ _ st h=>wpAny_pyIter_tupleiter st h
theorem X8{w:AY}{K:Fg}(it:Ak)(lo:Ag)(n:Ae):Turn P w K tg (Itr lo n) [it] it (λi h=>HH h it (lo+(i:Ae)*1) ((n:Ag)-(i:Ae)) 1) where
  mem:=by simp
  obj:=λi h st b hb=>by
    have e:b=it:=by simpa using hb
    subst e;exact⟨_,st,λv z=>by
      have z':VV _=IX v:=z;cases z'⟩
  keep:=λi h h' st k=>k it (by simp) _ st
  item:=by
    intro X hP hw hK hc i pI s Y H E I hf st hg;subst hP hw hK;obtain⟨f0,f1,f2,f3,f4,f5⟩:=hf it (by simp)
    have W:=Xb (prog:=X.prog) (w:=X.w) (I.ok.hd hc) it lo 1 n;refine W.item i s _ _ hg st λv h' tk hv st' kk=>?_
    obtain⟨t,rfl⟩:=hv;have I1:Inv X pI Y H {s with heap:=h',toks:=tk}:=I.turned (λb o hb e=>kk b o (by simpa using hb) e) f0 f1 f3 f4 f5
    refine⟨_,rfl,M1 (s:={s with heap:=h',toks:=tk}) (n := "range_iterator") st' rfl rfl (by decide) ⟨.int (lo+i),H,I1,⟨t,?_⟩,⟨rfl,rfl⟩,st',λb hb=>(hf b hb).1⟩⟩
    rw[U_3]
  done:=by
    intro X hP hw hK hc i pI s Y H E I hf st hg;subst hP hw hK;obtain⟨f0,f1,f2,f3,f4,f5⟩:=hf it (by simp)
    exact Xr (I.ok.hd hc) st (by have:n<=i:=hg;omega) λh' eb=>⟨rfl,I.turned (t':=s.toks) (λb o hb e=>eb b o hb e) f0 f1 f3 f4 f5⟩
  self:=λ_ _ _ _ _ st h=>Xp st h
section
variable{X:Cx}{tg:An}
theorem Re{R:It->Hp->Prop}{E:Vq}{lo hi:Ag}{t u v:BV}{tk:Ae}(I:Inv X pI Y H s)(h1:-(2 ^ 62)<=lo)(h2:lo<2 ^ 62)(h3:-(2 ^ 62)<=hi)(h4:hi<2 ^ 62)(q:R (Itr lo (hi-lo).toNat) H):AB (model X.prog X.w) X.A (J7 (.ref s.heap.objs.size)) (PIE X pI Y tg R) E { s with heap:=s.heap.push { cls:=.type "range",data:=.fields #[.int lo t,.int hi u,.int 1 v] },toks:=tk }:=by
 refine Xo (WH ..) (small_one h1 h2 h3 h4) ?_;have I1:Inv X pI Y H { s with heap:=s.heap.push { cls:=.type "range",data:=.fields #[.int lo t,.int hi u,.int 1 v] },toks:=tk }:=I.kept λb o e=>As _ e
 refine⟨(s.heap.push { cls:=.type "range",data:=.fields #[.int lo t,.int hi u,.int 1 v] }).objs.size,[(s.heap.push { cls:=.type "range",data:=.fields #[.int lo t,.int hi u,.int 1 v] }).objs.size],_,_,H,rfl,
  I1.kept (t':=tk) λb o e=>As _ e,X8 _ lo (hi-lo).toNat,?_,λb hb=>?_,q⟩
 .have e1:lo+((0:Ae):Ag)*1=lo:=by simp
  have e2:(((hi-lo).toNat:Ae):Ag)-((0:Ae):Ag)=VQ lo hi 1:=by rw[rangeSize_one];split<;>omega
  show HH _ _ (lo+((0:Ae):Ag)*1) ((((hi-lo).toNat:Ae):Ag)-((0:Ae):Ag)) 1;rw[e1,e2];exact AJ _ rfl
 .have e:b=(s.heap.push { cls:=.type "range",data:=.fields #[.int lo t,.int hi u,.int 1 v] }).objs.size:=by simpa using hb
  subst e;exact I1.fpOk (Aw _) (I1.hok.fresh (Aw _))
def nS(ta:TA):TI:=λY H R=>ta Y H λvs H1=>∃ j:Ag,vs=[.int j]/\-(2 ^ 62)<=j/\j<2 ^ 62/\R (Itr 0 j.toNat) H1
def nR(ta:TA):TI:=λY H R=>ta Y H λvs H1=>∃ i j:Ag,vs=[.int i,.int j]/\(-(2 ^ 62)<=i/\i<2 ^ 62/\-(2 ^ 62)<=j/\j<2 ^ 62)/\R (Itr i (j-i).toNat) H1
theorem Yv{a:An}(hg:Gl X "range")(hm:X.mg "range" = Af)(ha:PA X [a] ta)(hs:Ay [a] X.env=[(Ad,eval a X.env)]:=by rfl):PI X tg (.Call (.Name "range" p) [a] [] pos) (nS ta):=by
 intro pI s Y H R I h;refine Call_ (JS I hg hm J3 (C1 (thn (ha pos pI s Y H _ I h) λus s1 ⟨vs,H1,I1,r1,q1⟩=>?_) hs rfl))
 obtain⟨j,e,q1,q2,q⟩:=q1;subst e;cases r1 with
 |cons r rr=>
  cases rr;obtain⟨t,rfl⟩:=r;exact call_range_1 (Re I1 (by omega) (by omega) q1 q2 (by simpa using q))
theorem Yu{a b:An}(hg:Gl X "range")(hm:X.mg "range" = Af)(ha:PA X [a,b] ta)(hs:Ay [a,b] X.env=[(Ad,eval a X.env),(Ad,eval b X.env)]:=by rfl)(hs2:Ay [b] X.env=[(Ad,eval b X.env)]:=by rfl):
  PI X tg (.Call (.Name "range" p) [a,b] [] pos) (nR ta):=by
 intro pI s Y H R I h;refine Call_ (JS I hg hm J3 (C1 (thn (ha pos pI s Y H _ I h) λus s1 ⟨vs,H1,I1,r1,q1⟩=>?_) (by rw[hs,hs2]) (by rw[hs2];rfl)))
 obtain⟨i,j,e,⟨q1,q2,q3,q4⟩,q⟩:=q1;subst e;cases r1 with
 |cons r rr=>
  cases rr with
  |cons r' rr=>
   cases rr;obtain⟨t,rfl⟩:=r;obtain⟨t',rfl⟩:=r';exact call_range_2 (Re I1 q1 q2 q3 q4 q)
def rA(wi:TI)(g:TG)(tb:TS):TS:=λD Y H=>wi Y H λJ H1=>∃ W:Ae->Ae->St->Hp->Prop,(∃ m,W 0 m Y H1)/\∀ i m Y H,W i m Y H ->
 (J.stop i H/\D.nx Y H)\/(J.go i H/\∃ N:St->Hp->Prop,(∀ Y' H',N Y' H'->∃ m',m'<m/\W (i+1) m' Y' H')/\∀ x H',J.yld i H x H'->g x Y H' λY2 H2=>tb {D with nx:=N,ct:=N,bk:=D.nx} Y2 H2)
noncomputable def JP(fp:Ac Ak)(h:AD):Pn:=fp.filterMap λb=>(h.get? b).map λo=>(b,o)
theorem L7(hb:b∈fp)(e:h.get? b=Ab o):(b,o)∈JP fp h:=List.mem_filterMap.mpr ⟨b,hb,by rw[e];rfl⟩
theorem QP{p:Ak×DE}(hp:p∈JP fp h):p.1∈fp/\h.get? p.1=Ab p.2:=by
 obtain⟨b,hb,e⟩:=Vl.mp hp;cases q:h.get? b with
 |none=>rw[q]at e;cases e
 |some o=>
  rw[q]at e;have e':(b,o)=p:=Bh e;subst e';exact⟨hb,q⟩
theorem Inv.pinned(I:Inv X pI Y H s)(hf:∀ b∈fp,Gz X pI H b)(ho:∀ b∈fp,∃ o,s.heap.get? b=Ab o/\∀ v,o.data≠.cell v):Inv X (pI++JP fp s.heap) Y H s:=
 I.pins_of λp hp=>(Ce.mp hp).elim (λz=>I.pin p (Bp _ z)) λz=>by
  obtain⟨hb,e⟩:=QP z;obtain⟨f0,f1,f2,_⟩:=hf p.1 hb;obtain⟨o,e',d⟩:=ho p.1 hb;rw[e]at e';cases e';exact⟨e,f0,f1,f2,d⟩
theorem Inv.unpinned{pl:Pn}(I:Inv X (pI++pl) Y H s):Inv X pI Y H s:=I.pins_of λp hp=>I.pin p (Bp _ (ET _ hp))
theorem jN{iter:An}{wi:TI}{g:TG}{tb:TS}(hp:Fe (model X.prog X.w) X.A X.env X.xe)(hc:X.calm=Aa)(hi:PI X tg iter wi)(hg:PG X tg g)(hb:PSs X body tb)(hs:∀ x,CS iter X.env x=pure x:=by intro _;rfl):PS X (.For tg iter body [] pos) (rA wi g tb):=by
 intro pI s Y H D I h;refine wpAny_For (thn (hi pI s Y H _ I h) λv s1 h1=>thn h1 λitv s2 h2=>?_) hs
 obtain⟨it,fp,tn,J,H2,e,I2,T,st2,f2,W,⟨m0,w0⟩,turn⟩:=h2;subst e
 -- what stays Aa of the iterator's objects through the loop
 have stat:∀{H':Hp},(∀ b∈fp,H' b=Af)->∀ b∈fp,Gz X pI H' b:=λhn b hb=>⟨hn b hb,(f2 b hb).2⟩
 refine codeAny_forLoop_any (λn s'=>∃ i Y' H',Inv X pI Y' H' s'/\tn i s'.heap/\(∀ b∈fp,H' b=Af)/\W i n Y' H') ?_ m0 ⟨0,Y,H2,I2,st2,λb hb=>(f2 b hb).1,w0⟩
 rintro n s3 ⟨i,Y3,H3,I3,st3,fr3,w3⟩;rcases turn i n Y3 H3 w3 with ⟨stop,qn⟩|⟨go,N,hN,step⟩
 .refine E7 hp (thn (T.done X rfl rfl rfl hc i pI s3 Y3 H3 X.xe I3 (stat fr3) st3 stop) λr s4 ⟨hr,I4⟩=>?_)
  subst hr;exact E6 ⟨Y3,H3,I4,qn⟩
 .refine E7 hp (thn (T.item X rfl rfl rfl hc i pI s3 Y3 H3 X.xe I3 (stat fr3) st3 go) λr s4 ⟨u,hr,h4⟩=>?_)
  subst hr;refine E7 hp (thn h4 λ_ s5 ⟨x,H5,I5,r5,y5,st5,fr5⟩=>?_)
  have I5':=I5.pinned (stat fr5) (T.obj _ _ st5);refine E7 hp (thn (hg _ s5 Y3 H5 x u _ I5' r5 (step x H5 y5)) λ_ s6 ⟨Y6,H6,I6,q6⟩=>?_)
  refine E7 hp (thn (hb _ s6 Y6 H6 _ I6 q6) λf s7 q7=>?_)
  have again:∀{Y7:St}{H7:Hp},Inv X (pI++JP fp s5.heap) Y7 H7 s7->N Y7 H7->∃ m,m<n/\∃ i Y' H',Inv X pI Y' H' s7/\tn i s7.heap/\(∀ b∈fp,H' b=Af)/\W i m Y' H':=λ{Y7 H7} I7 n7=>by
   obtain⟨m',hm,w7⟩:=hN Y7 H7 n7;refine⟨m',hm,i+1,Y7,H7,I7.unpinned,T.keep _ _ _ st5 λb hb o e=>(I7.pin (b,o) (Bp _ (Bp _ (L7 hb e)))).1,λb hb=>?_,w7⟩
   obtain⟨o,e,d⟩:=T.obj _ _ st5 b hb;exact(I7.pin (b,o) (Bp _ (Bp _ (L7 hb e)))).2.1
  cases f with
  |next=>obtain⟨Y7,H7,I7,n7⟩:=q7;exact again I7 n7
  |cont=>obtain⟨Y7,H7,I7,n7⟩:=q7;exact again I7 n7
  |brk=>obtain⟨Y7,H7,I7,q7⟩:=q7;exact⟨Y7,H7,I7.unpinned,q7⟩
  |ret v=>obtain⟨x7,Y7,H7,I7,r7,q7⟩:=q7;exact⟨x7,Y7,H7,I7.unpinned,r7,q7⟩
end
abbrev R2:=V->V->Hp->VK->Prop
variable{r:R2}
noncomputable def OpR(X:Cx)(f:Aj->Aj->Dq Aj)(r:R2):Prop:=
 ∀(pI:Pn)(s:Ap)(Y:St)(H:Hp)(x y:V)(v u:Aj)(Q:VK),Inv X pI Y H s->Bx x v->Bx y u->r x y H Q ->
  AB (model X.prog X.w) X.A (f v u) (EP X pI Y Q) X.xe s
noncomputable def UnR(X:Cx)(f:Aj->Dq Aj)(r:V->Hp->VK->Prop):Prop:=
 ∀(pI:Pn)(s:Ap)(Y:St)(H:Hp)(x:V)(v:Aj)(Q:VK),Inv X pI Y H s->Bx x v->r x H Q ->
  AB (model X.prog X.w) X.A (f v) (EP X pI Y Q) X.xe s
noncomputable def IH(X:Cx)(f:Aj)(r:Ac V->Hp->VK->Prop):Prop:=
 ∀(pI:Pn)(s:Ap)(Y:St)(H:Hp)(xs:Ac V)(us:Ac Aj)(Q:VK),Inv X pI Y H s->A6 xs us->r xs H Q ->
  AB (model X.prog X.w) X.A (call f us) (EP X pI Y Q) X.xe s
noncomputable def rE(X:Cx)(r:V->Hp->(Ai->Hp->Prop)->Prop):Prop:=
 ∀(pI:Pn)(s:Ap)(Y:St)(H:Hp)(x:V)(v:Aj)(Q:Ai->Hp->Prop),Inv X pI Y H s->Bx x v->r x H Q ->
  AB (model X.prog X.w) X.A (truthy v) (TP X pI Y Q) X.xe s
def tOp(r:R2)(ta tb:TE):TE:=λY H Q=>ta Y H λx H1=>tb Y H1 λy H2=>r x y H2 Q
def tUn(r:V->Hp->VK->Prop)(ta:TE):TE:=λY H Q=>ta Y H λx H1=>r x H1 Q
def rI(C:Ag->Ag->Prop)(g:Ag->Ag->V):R2:=λx y H Q=>∃ i j,x=.int i/\y=.int j/\C i j/\Q (g i j) H
def rI0(g:Ag->Ag->V):R2:=λx y H Q=>∃ i j,x=.int i/\y=.int j/\Q (g i j) H
def rU(g:Ag->V):V->Hp->VK->Prop:=λx H Q=>∃ i,x=.int i/\Q (g i) H
section
variable{X:Cx}{a b c:An}{ta tb tc:TE}{pos:AR}
theorem PX(ha:PE X a ta)(hb:PE X b tb){R:V->V->Hp->Prop}(I:Inv X pI Y H s)(h:ta Y H λx H1=>tb Y H1 λy H2=>R x y H2){Q:Vq}(hf:∀ v u s2 x y H2,Inv X pI Y H2 s2->Bx x v->Bx y u->R x y H2->AB (model X.prog X.w) X.A (f v u) Q X.xe s2):AB (model X.prog X.w) X.A (eval a X.env) (λv s₁=>AB (model X.prog X.w) X.A (eval b X.env) (λu s₂=>AB (model X.prog X.w) X.A (f v u) Q X.xe s₂) X.xe s₁) X.xe s:=by
 refine thn (ha pI s Y H _ I h) λv s1 ⟨x,H1,I1,r1,q1⟩=>?_
 refine thn (hb pI s1 Y H1 _ I1 q1) λu s2 ⟨y,H2,I2,r2,q2⟩=>?_
 exact hf v u s2 x y H2 I2 r1 r2 q2
theorem T6{op:Fd}(ho:OpR X (BZ op) r)(ha:PE X a ta)(hb:PE X b tb):PE X (.BinOp a op b pos) (tOp r ta tb):=by
 intro pI s Y H Q I h;exact wpAny_BinOp (PX ha hb I h λv u s2 x y H2 I2 rx ry q=>ho pI s2 Y H2 x y v u Q I2 rx ry q)
theorem oV{op:Jt}{r:V->Hp->VK->Prop}(ho:UnR X (unaryOp op) r)(ha:PE X a ta):PE X (.UnaryOp op a pos) (tUn r ta):=by
 intro pI s Y H Q I h;exact UnaryOp_ (thn (ha pI s Y H _ I h) λv s1 ⟨x,H1,I1,r1,q1⟩=>ho pI s1 Y H1 x v Q I1 r1 q1)
theorem opI{C:Ag->Ag->Prop}(rule:∀(i j:Ag)(t u:BV)(s:Ap)(Q:Vq)(E:Vq),C i j->Q (.int (g i j) s.toks) {s with toks:=s.toks+1}->AB (model X.prog X.w) X.A (f (.int i t) (.int j u)) Q E s):OpR X f (rI C λi j=>.int (g i j)):=by
 intro pI s Y H x y v u Q I rx ry h;obtain⟨i,j,rfl,rfl,hc,q⟩:=h;obtain⟨t,rfl⟩:=rx;obtain⟨t',rfl⟩:=ry;exact rule i j t t' s _ _ hc ⟨.int (g i j),H,I.tok _,⟨_,rfl⟩,q⟩
theorem Us(rule:∀(i j:Ag)(t u:BV)(s:Ap)(Q:Vq)(E:Vq),Q (.int (g i j) s.toks) {s with toks:=s.toks+1}->AB (model X.prog X.w) X.A (f (.int i t) (.int j u)) Q E s):OpR X f (rI0 λi j=>.int (g i j)):=by
 intro pI s Y H x y v u Q I rx ry h;obtain⟨i,j,rfl,rfl,q⟩:=h;obtain⟨t,rfl⟩:=rx;obtain⟨t',rfl⟩:=ry;exact rule i j t t' s _ _ ⟨.int (g i j),H,I.tok _,⟨_,rfl⟩,q⟩
theorem Nh{g:Ag->Ag->Ai}(rule:∀(i j:Ag)(t u:BV)(s:Ap)(Q:Vq)(E:Vq),Q (.bool (g i j)) s->AB (model X.prog X.w) X.A (f (.int i t) (.int j u)) Q E s):OpR X f (rI0 λi j=>.bl (g i j)):=by
 intro pI s Y H x y v u Q I rx ry h;obtain⟨i,j,rfl,rfl,q⟩:=h;obtain⟨t,rfl⟩:=rx;obtain⟨t',rfl⟩:=ry;exact rule i j t t' s _ _ ⟨.bl (g i j),H,I,rfl,q⟩
def rK(i j:Ag):Prop:=0<j/\j<1073741824
def rJ(i j:Ag):Prop:=0<=j/\j<=1000000/\i.natAbs<2 ^ 64
def Nv(i j:Ag):Prop:=(-(2 ^ 64)<i/\i<2 ^ 64)\/(-(2 ^ 64)<j/\j<2 ^ 64)
theorem Nv.ok{i j:Ag}(h:Nv i j):K5 i j:=by
 rcases h with ⟨h1,h2⟩|⟨h1,h2⟩
 .exact .of_left (intBits_le_64 h1 h2)
 .exact .of_right (intBits_le_64 h1 h2)
theorem iM:OpR X (BZ .Add) (rI0 λi j=>.int (i+j)):=Us λ_ _ _ _ _ _ _ q=>add_int q
theorem kA:OpR X (BZ .Sub) (rI0 λi j=>.int (i-j)):=Us λ_ _ _ _ _ _ _ q=>sub_int q
theorem dY:OpR X (BZ .FloorDiv) (rI rK λi j=>.int (i/j)):=opI λi j _ _ _ _ _ hc q=>by
 have h1:(0:Ag)<j:=hc.1;have h2:j<1073741824:=hc.2;exact floordiv_int (by omega) (by rw[Int.fdiv_eq_ediv_of_nonneg i (by omega)];exact q) (.inl (VN (by omega)))
theorem iK:OpR X (BZ .Mod) (rI (λ_ j=>0<j) λi j=>.int (i%j)):=opI λi j _ _ _ _ _ hc q=>by
 have h1:(0:Ag)<j:=hc;exact mod_int' (by omega) (by rw[Int.fmod_eq_emod_of_nonneg i (by omega)];exact q)
theorem kB:OpR X (BZ .Pow) (rI rJ λi j=>.int (i ^ j.toNat)):=opI λ_ _ _ _ _ _ _ hc q=>pow_int_small hc.1 hc.2.1 hc.2.2 q
theorem unI{f:Aj->Dq Aj}{g:Ag->Ag}(rule:∀(i:Ag)(t:BV)(s:Ap)(Q:Vq)(E:Vq),Q (.int (g i) s.toks) {s with toks:=s.toks+1}->AB (model X.prog X.w) X.A (f (.int i t)) Q E s):UnR X f (rU λi=>.int (g i)):=by
 intro pI s Y H x v Q I rx h;obtain⟨i,rfl,q⟩:=h;obtain⟨t,rfl⟩:=rx;exact rule i t s _ _ ⟨.int (g i),H,I.tok _,⟨_,rfl⟩,q⟩
theorem gN:UnR X (unaryOp .USub) (rU λi=>.int (-i)):=unI λ_ _ _ _ _ q=>neg_int q
end
section
variable{X:Cx}{a b c:An}{ta tb tc:TE}{pos:AR}
theorem S7{Q:VK}{k k':Ai}(I:Inv X pI Y H s)(q:Q (.bl k) H)(e:k=k'):EP X pI Y Q (.bool k') s:=by
 subst e;exact⟨.bl k,H,I,rfl,q⟩
theorem pC:OpR X (CC .Lt) (rI0 λi j=>.bl (decide (i<j))):=Nh λ_ _ _ _ _ _ _ q=>lt_int q
theorem pD:OpR X (CC .LtE) (rI0 λi j=>.bl (decide (i<=j))):=Nh λ_ _ _ _ _ _ _ q=>le_int q
theorem pE:OpR X (CC .Gt) (rI0 λi j=>.bl (decide (j<i))):=Nh λ_ _ _ _ _ _ _ q=>gt_int q
theorem pF:OpR X (CC .GtE) (rI0 λi j=>.bl (decide (j<=i))):=Nh λ_ _ _ _ _ _ _ q=>ge_int q
theorem iL:OpR X (CC .Is) (λx y H Q=>y=.non/\Q (.bl (decide (x=.non))) H):=by
 intro pI s Y H x y v u Q I rx ry h;obtain⟨rfl,q⟩:=h;cases ry;refine is_none_gen (S7 I q ?_);cases x<;>first
  |(cases rx;rfl)
  |(obtain⟨t,rfl⟩:=rx;rfl)
theorem dW:OpR X (CC .IsNot) (λx y H Q=>y=.non/\Q (.bl (!decide (x=.non))) H):=by
 intro pI s Y H x y v u Q I rx ry h;obtain⟨rfl,q⟩:=h;cases ry;refine isnot_none_gen (S7 I q ?_);cases x<;>first
  |(cases rx;rfl)
  |(obtain⟨t,rfl⟩:=rx;rfl)
theorem dO(ho:OpR X (CC op) r)(ha:PE X a ta)(hb:PE X b tb)(hm:GV op b=Ad):PE X (.Compare a [op] [b] pos) (tOp r ta tb):=by
 intro pI s Y H Q I h;exact wpAny_Compare1 (PX ha hb I h λv u s2 x y H2 I2 rx ry q=>ho pI s2 Y H2 x y v u Q I2 rx ry q) hm
def TN(t:TE):TT:=λY H Q=>t Y H λx H'=>∃ k,x=.bl k/\Q k H'
theorem dF(ho:OpR X (CC op) r)(ha:PE X a ta)(hb:PE X b tb)(hm:GV op b=Ad):PT X (.Compare a [op] [b] pos) (TN (tOp r ta tb)):=by
 intro pI s Y H Q I h;refine wpAny_isTrue_Compare1 (thn (ha pI s Y H _ I h) λv s1 ⟨x,H1,I1,r1,q1⟩=>thn (hb pI s1 Y H1 _ I1 q1) λu s2 ⟨y,H2,I2,r2,q2⟩=>
  thn (ho pI s2 Y H2 x y v u _ I2 r1 r2 q2) λc s3 ⟨z,H3,I3,r3,k,e,q3⟩=>?_) hm
 subst e;cases r3;exact CU ⟨H3,I3,q3⟩
def gW(r r':R2)(ta tb tc:TE):TE:=λY H Q=>ta Y H λx H1=>tb Y H1 λy H2=>r x y H2 λz H3=>∃ k,z=.bl k /\
 (if k=Aa then tc Y H3 λw' H4=>r' y w' H4 Q else Q (.bl Ad) H3)
theorem YT{op':Do}{r':R2}(ho:OpR X (CC op) r)(ho':OpR X (CC op') r')(ha:PE X a ta)(hb:PE X b tb)(hc:PE X c tc)(hm:lastMarks [op,op'] [b,c]=Ad:=by with_unfolding_all rfl):PT X (.Compare a [op,op'] [b,c] pos) (TN (gW r r' ta tb tc)):=by
 intro pI s Y H Q I h;refine isTrue_chain (thn (ha pI s Y H _ I h) λv s1 ⟨x,H1,I1,r1,q1⟩=>test_link (thn (hb pI s1 Y H1 _ I1 q1) λu s2 ⟨y,H2,I2,r2,q2⟩=>
  thn (ho pI s2 Y H2 x y v u _ I2 r1 r2 q2) λd s3 ⟨z,H3,I3,r3,k,e,q3⟩=>?_)) hm
 subst e;cases r3;refine CU ?_;cases k with
 |false=>
  obtain⟨k',e',q'⟩:=q3;cases e';exact ite_ff ⟨H3,I3,q'⟩
 |true=>
  refine ite_tt (test_last (thn (hc pI s3 Y H3 _ I3 q3) λw' s4 ⟨z',H4,I4,r4,q4⟩=>thn (ho' pI s4 Y H4 y z' u w' _ I4 r2 r4 q4) λd' s5 ⟨z2,H5,I5,r5,k2,e2,q5⟩=>?_))
  subst e2;cases r5;exact CU ⟨H5,I5,q5⟩
noncomputable def UO(K:Fg)(x:V)(H:Hp)(k:Ai):Prop:=
  match x with
  |.non=>k=Ad
  |.bl b=>k=b
  |.int i=>k=(i != 0)
  |.str y=>y.length<=sizeLine/\k=((y.length:Ag) != 0)
  |.byt y=>y.size<=sizeLine/\k=((y.size:Ag) != 0)
  |.ref p=>(∃ xs,SqL K H p xs/\k=!xs.isEmpty)\/(∃ xs,SqT K H p xs/\k=!xs.isEmpty)\/∃ kvs,H p=Ab (.dK kvs)/\k=!kvs.isEmpty
  |_=>A5
theorem XQ{κ:Type}{kvs:Ac (κ×V)}{vs:Ac (κ×Aj)}(r:KV kvs vs):(!vs.isEmpty)=!kvs.isEmpty:=by
 cases r<;>rfl
theorem Qs{its:Ac Aj}(r:A6 xs its):(!its.toArray.isEmpty)=!xs.isEmpty:=by
 cases r<;>simp
theorem Kz:(sizeLine:Ae)<2 ^ 63:=by rw[B9];decide
theorem gR:rE X (λx H Q=>∃ k,UO X.K x H k/\Q k H):=by
 intro pI s Y H x v Q I rx h;obtain⟨k,e,q⟩:=h;have hl:=Kz;have hs:sizeLine=16777216:=B9;cases x with
 |non=>
  cases rx;have e':k=Ad:=e;subst e';exact truthy_none ⟨H,I,q⟩
 |bl b=>
  cases rx;have e':k=b:=e;subst e';exact CU ⟨H,I,q⟩
 |int i=>
  obtain⟨t,rfl⟩:=rx;have e':k=(i != 0):=e;subst e';exact PySem.P.truthy_int ⟨H,I,q⟩
 |str y=>
  obtain⟨t,rfl⟩:=rx;obtain⟨hy,e'⟩:y.length<=sizeLine/\k=((y.length:Ag) != 0):=e;subst e';exact PySem.P.truthy_str (by omega) ⟨H,I.tok _,q⟩
 |byt y=>
  obtain⟨t,rfl⟩:=rx;obtain⟨hy,e'⟩:y.size<=sizeLine/\k=((y.size:Ag) != 0):=e;subst e';exact PySem.W.truthy_bytes (by omega) ⟨H,I.tok _,q⟩
 |ref p=>
  cases rx;have e':(∃ xs,SqL X.K H p xs/\k=!xs.isEmpty)\/(∃ xs,SqT X.K H p xs/\k=!xs.isEmpty)\/∃ kvs,H p=Ab (.dK kvs)/\k=!kvs.isEmpty:=e;rcases e' with ⟨xs,hx,e'⟩|⟨xs,hx,e'⟩|⟨kvs,hx,e'⟩
  .subst e';obtain⟨its,r,pl,hz⟩:=I.list hx;have hlen:=r.length;exact wpAny_truthy_list pl.isList (by simp only[AH];omega) ⟨H,I.tok _,by rw[Qs r];exact q⟩
  .subst e';obtain⟨its,r,pl,hz⟩:=I.tuple hx;have hlen:=r.length;exact truthy_tuple pl (by simp only[AH];omega) ⟨H,I.tok _,by rw[Qs r];exact q⟩
  .subst e';obtain⟨hz,hS,vs,r,m⟩:kvs.length<=sizeLine/\(p==J8)=Ad/\∃ vs,KV kvs vs/\s.heap.DictOf (OB X.prog X.w) p vs:=I.hok p _ hx;have hlen:kvs.length=vs.length:=WJ r;exact wpAny_truthy_dict hS m (by omega) ⟨H,I.tok _,by rw[XQ r];exact q⟩
 |_=>exact(show A5 from e).elim
theorem YS(ha:PE X a ta)(he:∀ whole,Ii a X.env whole=(do let v <-whole;standAt a.pos;holding [v] (truthy v))):PT X a (λY H Q=>ta Y H λx H'=>∃ k,UO X.K x H' k/\Q k H'):=by
 intro pI s Y H Q I h;exact isTrue_plain (thn (ha pI s Y H _ I h) λv s1 ⟨x,H1,I1,r1,q1⟩=>gR pI s1 Y H1 x v Q I1 r1 q1) (he _)
theorem Yk:OpR X (BZ .Add) (λx y H Q=>∃ i j,x=.str i/\y=.str j/\i.length+j.length<=sizeLine/\Q (.str (i++j)) H):=by
 intro pI s Y H x y v u Q I rx ry h;obtain⟨i,j,rfl,rfl,hz,q⟩:=h;obtain⟨t,rfl⟩:=rx;obtain⟨t',rfl⟩:=ry;exact add_str (λt' tk=>⟨.str (i++j),H,I.tok _,⟨_,rfl⟩,q⟩) hz
theorem Jg{x:V}(r:A6 [x] us):∃ u,us=[u]/\Bx x u:=by
 cases r with
 |cons r1 r2=>cases r2;exact⟨_,rfl,r1⟩
theorem MP{x y:V}(r:A6 [x,y] us):∃ u w',us=[u,w']/\Bx x u/\Bx y w':=by
 cases r with
 |cons r1 r2=>
  cases r2 with
  |cons r3 r4=>cases r4;exact⟨_,_,rfl,r1,r3⟩
theorem QC:IH X (.type "int") (λxs H Q=>(∃ i,xs=[.int i]/\Q (.int i) H)\/∃ k,xs=[.bl k]/\Q (.int (if k then 1 else 0)) H):=by
 intro pI s Y H xs us Q I r h;rcases h with ⟨i,rfl,q⟩|⟨k,rfl,q⟩
 .obtain⟨u,rfl,t,rfl⟩:=Jg r;exact call_int_int ⟨.int i,H,I,⟨_,rfl⟩,q⟩
 .obtain⟨u,rfl,r1⟩:=Jg r;cases r1;exact call_int_bool ⟨.int (if k then 1 else 0),H,I.tok _,⟨_,rfl⟩,q⟩
end
structure ObjM (h:AD) (x dx C:Ak) (mA:Ah->Am Aj):Prop where
 obj:h.get? x=Ab (DT C dx)
 ns:h.Ns1 dx mA
 ne:dx≠x
theorem YA(n:h.Ns1 dx mA):∃ od,h.get? dx=Ab od/\∀ name,Ih name od=Ab (mA name):=by
 obtain⟨o,es,ep,ho,hd,hk,_,hm⟩:=n;refine⟨o,ho,λname=>?_⟩
 have e:=hm name;unfold nsFind findBy at e;rw[<-US]at e;unfold Ih;rw[hd];dsimp only;split
 .rename_i y q;rw[q]at e;exact congrArg Ab e
 .rename_i q;rw[q]at e;have a:es.toList.any (·.refKey)=Ad:=by
   rw[List.any_eq_false];intro y hy;obtain⟨z,t,hkey⟩:=hk y (Array.mem_toList_iff.mp hy);simp[DictEntry.refKey,hkey]
  have a':¬ es.toList.any (·.refKey)=Aa:=by rw[a];exact Az
  rw[Ar a'];exact congrArg Ab e
theorem ObjM.look{x C:Ak}(I:ObjM h x dx C mA):∃ od,PySem.W.InstAt h x (DT C dx) C (Ab od)/\∀ name,Ih name od=Ab (mA name):=
 let ⟨od,ho,hl⟩:=YA I.ns
 ⟨od,⟨I.obj,rfl,rfl,ho⟩,hl⟩
section
variable{prog:AM}{w:AY}{A:AT}{E:Vq}{s:Ap}{K:Fg}{x dx C f:Ak}{mA:Ah->Am Aj}{name:Ah}{v:Aj}
end
theorem LS.some_of{o:Am Aj}(r:LS (Ab v) o):∃ u,o=Ab u/\Bx v u:=by
 cases o with
 |none=>exact(show A5 from r).elim
 |some u=>exact⟨u,rfl,r⟩
theorem Yr(r:Bx v u):PySem.W.handedIn u=Aa:=by
 cases v with
 |non=>cases (show u=A3 from r);rfl
 |bl b=>cases (show u=J5 b from r);rfl
 |int i=>obtain⟨t,e⟩:=(show ∃ t,u=GQ i t from r);cases e;rfl
 |str x=>obtain⟨t,e⟩:=(show ∃ t,u=K0 x t from r);cases e;rfl
 |byt b=>obtain⟨t,e⟩:=(show ∃ t,u=WW b t from r);cases e;rfl
 |flt b=>obtain⟨t,e⟩:=(show ∃ t,u=WX b t from r);cases e;rfl
 |ref a=>cases (show u=De a from r);rfl
 |ty n=>cases (show u=Fq n from r);rfl
section
variable{P:AM}{w:AY}{H H':Hp}{h h':AD}{a C dx:Ak}{fs fs':Ac (Ah×V)}
end
structure Cls (K:Fg) (C:Ak):Prop where
 pg:W9 K C Str.empty=Aa
 hd:PySem.W.hasDictIn K C=Aa
 po:PySem.W.plainOver K C=Aa
 sa:Bf K (.ref C) "__setattr__" = Ab (Ab (.builtin "object.__setattr__"))
theorem Cls.get{K:Fg}{C:Ak}(c:Cls K C)(f:Ah):W9 K C f=Aa:=c.pg
section
variable{X:Cx}{pI:Pn}{Y:St}{H:Hp}{s:Ap}{a C dx:Ak}{fs:Ac (Ah×V)}{f:Ah}{v:V}{A:AT}{E:Vq}
theorem Inv.made(I:Inv X pI Y H s):Inv X pI Y (upd (upd H s.heap.objs.size (.own (s.heap.objs.size+1))) (s.heap.objs.size+1) (.ins C s.heap.objs.size [])) {s with heap:=(s.heap.push CQ).push (DT C s.heap.objs.size)}:=by
  have e1:(s.heap.push CQ).get? s.heap.objs.size=Ab CQ:=AJ s.heap rfl;have e2:((s.heap.push CQ).push (DT C s.heap.objs.size)).get? (s.heap.objs.size+1)=Ab (DT C s.heap.objs.size):=by
    have:=AJ (s.heap.push CQ) (o:=DT C s.heap.objs.size) rfl
    rwa [BF]at this
  have e3:(s.heap.push CQ).Ns s.heap.objs.size (λ_=>Af):=⟨CQ,#[],_,e1,rfl,(λe he=>absurd he (by simp)),λ_=>rfl⟩
  have I1:=I.laid (a:=s.heap.objs.size) (o:=.own (s.heap.objs.size+1)) (h':=s.heap.push CQ) (t':=s.toks) (λb u q=>As _ q) (Aw _) ⟨_,e1⟩
  refine I1.laid (a:=s.heap.objs.size+1) (o:=.ins C s.heap.objs.size []) (t':=s.toks) (λb u q=>As _ q) (Vw (BF _ _)) ?_
  have ne:s.heap.objs.size≠s.heap.objs.size+1:=Bj (Hk _);refine⟨by rw[B6 ne,GF],CI _,ne,e2,λ_=>Af,(Heap.Ns1.of_empty e3).at λo q=>As _ q,λ_=>True.intro,λy hy=>absurd rfl hy⟩
theorem eH{prog:AM}{w:AY}{env:Cr}{f:Ah}{Q:Vq}(hb:EA e f env (eval e env)=eval e env)(h:AB (model prog w) A (eval e env) (λo s₁=>AB (model prog w) A (getAttr o f Aa) Q E s₁) E s):AB (model prog w) A (eval (.Attribute e f pos) env) Q E s:=
 Attribute_any_ h (by rw[arm_eval_Attribute,hb])
end
section
variable{X:Cx}{o e value:An}{f:Ah}{pos pos' tpos:AR}{ta tv:TE}
end
section
variable{X:Cx}{pI:Pn}{Y:St}{H:Hp}{s:Ap}{A:AT}{E:Vq}{Q:Vq}{c:Aj}{b:Ai}
end
structure Room (k:Ae) (A:AT):Prop where
 hd:A.handled=Af
 dp:A.depth+3*k+5<Xg
 un:A.units+16*k+200<Cf
 gd:A.guards=Ab []
theorem Room.mono{j:Ae}{A:AT}(r:Room k A)(h:j<=k):Room j A:=⟨r.hd,by have:=r.dp;omega,by have:=r.un;omega,r.gd⟩
theorem Room.deeper{A:AT}(r:Room (k+1) A)(env:Cr):Room k (A.deeper env):=
 ⟨r.hd,by have:=r.dp;show A.depth+1+3*k+5<_;omega,by have:=r.un;show A.units+3+16*k+200<_;omega,r.gd⟩
theorem Room.depth{A:AT}(r:Room k A):A.depth<Xg:=by have:=r.dp;omega
theorem Room.units{A:AT}(r:Room k A):A.units+64<Cf:=by have:=r.un;omega
def qX:TA:=λ_ H Q=>Q [] H
def lV(ta:TE)(tr:TA):TA:=λY H Q=>ta Y H λx H1=>tr Y H1 λxs H2=>Q (x::xs) H2
section
variable{X:Cx}{e:An}{es:Ac An}{te:TE}{t:TA}{pos:AR}
theorem F1:PA X [] qX:=λ_ _ _ _ H Q I h=>Calls.spliced_nil ⟨[],H,I,.nil,h⟩
theorem El(ha:PE X e te)(hr:PA X es t)(hs:Ay (e::es) X.env=(Ad,eval e X.env)::Ay es X.env:=by rfl):PA X (e::es) (lV te t):=by
 intro pos pI s Y H Q I h;rw[hs];show AB _ _ (spliced ((Ad,eval e X.env)::BR pos (Ay es X.env))) _ _ s;refine Calls.spliced_cons (thn (ha pI s Y H _ I h) λu s1 ⟨x,H1,I1,r1,q1⟩=>?_)
 exact thn (hr pos pI s1 Y H1 _ I1 q1) λus s2 ⟨xs,H2,I2,r2,q2⟩=>⟨x::xs,H2,I2,.cons r1 r2,q2⟩
def qS(t:TA):TE:=λY H Q=>t Y H λxs H1=>xs.length<=sizeLine/\∀ p,H1 p=Af->Q (.ref p) (upd H1 p (.tup xs))
def qY(t:TA):TE:=λY H Q=>t Y H λxs H1=>xs.length<=sizeLine/\∀ p,H1 p=Af->Q (.ref p) (upd H1 p (.lst xs))
theorem Tz{x1}(h:PA X es t):PE X (.Tuple es x1 pos) (qS t):=by
 intro pI s Y H Q I hq;refine wpAny_Tuple_spliced (thn (h pos pI s Y H _ I hq) λus s1 ⟨xs,H1,I1,r,z,q⟩=>⟨by rw[<-r.length];exact z,?_⟩)
 have hf:H1 s1.heap.objs.size=Af:=I1.hok.fresh (Aw _);refine⟨.ref s1.heap.objs.size,upd H1 s1.heap.objs.size (.tup xs),I1.laid (t':=s1.toks) (λb u e=>As _ e) (Aw _) ?_,rfl,q _ hf⟩
 exact⟨z,us,r,⟨_,AJ _ rfl,rfl,_,rfl⟩⟩
theorem jX(h:PA X es t):PE X (.List es pos) (qY t):=by
 intro pI s Y H Q I hq;refine wpAny_List_spliced (thn (h pos pI s Y H _ I hq) λus s1 ⟨xs,H1,I1,r,z,q⟩=>⟨by rw[<-r.length];exact z,?_⟩)
 have hf:H1 s1.heap.objs.size=Af:=I1.hok.fresh (Aw _);refine⟨.ref s1.heap.objs.size,upd H1 s1.heap.objs.size (.lst xs),I1.laid (t':=s1.toks) (λb u e=>As _ e) (Aw _) ?_,rfl,q _ hf⟩
 exact⟨z,us,0,r,AJ _ rfl⟩
end
abbrev Sp:=Ac V->Hp->VK->XK->Prop
variable{sp:Sp}
abbrev CXT:=Ac Cr->Hp->Ap->XK->Aj->Ap->Prop
variable{CX:CXT}
structure Env0 (P:AM) (w:AY) (K:Fg) (mg:Ah->Am Aj) (base:AD) (A:AT) (outer:Ac Cr) (s:Ap) (H:Hp):Prop where
 frames:A.frames=Ab outer
 mod:Mod K mg base
 bs:∀ b o,base.get? b=Ab o->s.heap.get? b=Ab o/\H b=Af
 bsz:base.objs.size<=s.heap.objs.size
 funs:s.heap.FunFrames base outer
 frf:∀ b∈frs outer,H b=Af
 hok:HOk P w H s.heap
 bare:Fo s.gens
noncomputable def CE(outer:Ac Cr)(P:AM)(w:AY)(H:Hp)(s:Ap)(Q:VK)(u:Aj)(s':Ap):Prop:=
 ∃ v H',s'.os=s.os/\Fo s'.gens/\Un (frs outer) [] H H' s.heap s'.heap/\HOk P w H' s'.heap/\Bx v u/\Q v H'
noncomputable def CR(CX:CXT)(outer:Ac Cr)(P:AM)(w:AY)(H:Hp)(s:Ap)(Q:VK)(E:XK)(r:Ie)(s':Ap):Prop:=
  match r with
  |.ok (.ret u)=>CE outer P w H s Q u s'
  |.ok _=>A5
  |.error e=>CX outer H s E e s'
structure FnOk (P:AM) (w:AY) (K:Fg) (mg:Ah->Am Aj) (base:AD) (CX:CXT) (k:Ae) (f:Ak) (fd:BQ) (ps:Ac Ah) (sp:Sp):Prop where
 len:∀ vs H Q E,sp vs H Q E->vs.length=ps.length
 run:∀(A:AT)(outer:Ac Cr)(s:Ap)(H:Hp)(args:Args)(us:Ac Aj)(vs:Ac V)(Q:VK)(E:XK),Room k A->Env0 P w K mg base A outer s H->GE s fd args (ps.zip us)->A6 vs us->sp vs H Q E ->
  Gc (model P w) A (.call (.ref f) args) (CR CX outer P w H s Q E) s
theorem FnOk.imp{w:AY}{K:Fg}{mg:Ah->Am Aj}{base:AD}{f:Ak}{sp':Sp}(F:FnOk P w K mg base CX k f fd ps sp)(h:∀ vs H Q E,sp' vs H Q E->sp vs H Q E):FnOk P w K mg base CX k f fd ps sp':=
 ⟨λvs H Q E q=>F.len vs H Q E (h _ _ _ _ q),λA outer s H args us vs Q E hr he hb hv hs=>F.run A outer s H args us vs Q E hr he hb hv (h _ _ _ _ hs)⟩
section
variable{X:Cx}{pI:Pn}{Y:St}{H:Hp}{s s':Ap}
theorem Inv.env0(I:Inv X pI Y H s):Env0 X.prog X.w X.K X.mg X.base X.A X.stack s H:=
 ⟨I.ok.frames,I.ok.mod,I.bs,B5 I.ok.bsz I.sz,I.stack,I.stkFree,I.hok,I.bare⟩
theorem Inv.after{Q:VK}(I:Inv X pI Y H s)(h:CE X.stack X.prog X.w H s Q u s'):EP X pI Y Q u s':=by
 obtain⟨v,H',os,bare,un,hok,r,q⟩:=h;obtain⟨hh,g,d,t,os'⟩:=s';obtain rfl:os'=s.os:=os;exact⟨v,H',I.call (h':=hh) (g':=g) (d':=d) (t':=t) (ch:=[]) un hok bare (λb z=>absurd z (by simp)),r,q⟩
end
def lW(sp:Sp)(dvs:Ac V)(E:XK)(t:TA):TE:=λY H Q=>t Y H λvs H1=>sp (vs++dvs) H1 Q E
noncomputable def G1(K:Fg)(fd:BQ)(ps:Ac Ah)(ds:Ac Aj):Prop:=
 ∀(s:Ap)(us:Ac Aj),K.In s.heap->(us++ds).length=ps.length->GE s fd ⟨us,[]⟩ (ps.zip (us++ds))
theorem G1.all{K:Fg}(h:∀ us:Ac Aj,us.length=ps.length->K9 fd ⟨us,[]⟩=pure (ps.zip us)):G1 K fd ps []:=λs us _ hl=>by
 rw[Bo]at hl ⊢;exact .of_eq (h us hl)
def KD(CX:CXT)(X:Cx)(E:XK):Prop:=∀(pI:Pn)(Y:St)(H:Hp)(s:Ap)(e:Aj)(s':Ap),Inv X pI Y H s->CX X.stack H s E e s'->X.xe e s'
section
variable{X:Cx}{CX:CXT}{k:Ae}{f C:Ak}{fd:BQ}{ps:Ac Ah}{sp:Sp}{dvs:Ac V}{ds:Ac Aj}{E:XK}{x m:Ah}{p pos apos:AR}{e o:An}{es:Ac An}{ta:TE}{t:TA}
theorem fO{Q:VK}(F:FnOk X.prog X.w X.K X.mg X.base CX k f fd ps sp)(hr:Room k X.A)(hb:G1 X.K fd ps ds)(hd:A6 dvs ds)(hx:KD CX X E)(I:Inv X pI Y H s)(r:A6 vs us)(h:sp (vs++dvs) H Q E):AB (model X.prog X.w) X.A (call (.ref f) us) (EP X pI Y Q) X.xe s:=by
 have r2:A6 (vs++dvs) (us++ds):=r.append hd;have hl:(us++ds).length=ps.length:=by rw[<-r2.length];exact F.len _ _ _ _ h
 refine wpAny_call (Hq (F.run X.A X.stack s H ⟨us,[]⟩ (us++ds) (vs++dvs) Q E hr I.env0 (hb s us I.kIn hl) r2 h) λr s' hq=>?_)
 cases r with
 |error e=>exact hx pI Y H s e s' I hq
 |ok fl=>
  cases fl with
  |ret u=>exact I.after hq
  |next=>exact Bs hq
  |brk=>exact Bs hq
  |cont=>exact Bs hq
theorem RT(F:FnOk X.prog X.w X.K X.mg X.base CX k f fd ps sp)(hr:Room k X.A)(hg:Gl X x)(hm:X.mg x=Ab (.ref f))(hk:Co X.K (.ref f)=Aa)(hb:G1 X.K fd ps ds)(hd:A6 dvs ds)(hx:KD CX X E)(ha:PA X (e::es) t)(hdb:(x==("__debug__" : Ah))=Ad:=by decide)(he:Ay (e::es) X.env=(Ad,eval e X.env)::Ay es X.env:=by rfl)(hpl:(BR pos (Ay es X.env)).any (·.1)=Ad:=by rfl):PE X (.Call (.Name x p) (e::es) [] pos) (lW sp dvs E t):=by
 intro pI s Y H Q I h;refine Ff (Lw I hg hm ?_ hdb);refine W2 (h₀:=X.base) I.ok.mod.kin hk (thn (ha pos pI s Y H _ I h) λus s1 ⟨vs,H1,I1,r,q⟩=>⟨I1.kIn,?_⟩) he hpl
 exact fO F hr hb hd hx I1 r q
end
section
variable{X:Cx}{CX:CXT}{k:Ae}{f C:Ak}{fd:BQ}{ps ks:Ac Ah}{sp:Sp}{E:XK}{x m:Ah}{p pos apos kpos:AR}{e o:An}{es:Ac An}{kws:Ac Ee}{te ta:TE}{t tk:TA}{nm:Am Ah}
variable{g:Ac Aj->Ac Aj->Ac Aj}{gV:Ac V->Ac V->Ac V}
end
structure FnScope (N P:Ac Ah) (sc:BY):Prop where
 kind:sc.kind=.function
 co:sc.isCoroutine=Ad
 gen:sc.isGenerator=Ad
 nd:N.Nodup
 pre:N.take P.length=P
 par:∀ x∈P,sc.names.lookup x=Ab .local\/sc.names.lookup x=Ab .cell
 nofree:∀ y∈sc.names,y.2≠.free
theorem QE{kindOf:Ah->Am Ek}{x:Ah}:∀{binds:Ac (Ah×Aj)}{m:Ah->Am Aj},(∀ v,(x,v)∉binds)->Ip kindOf binds m x=m x
 |[],_,_=>rfl
 |(n,v)::r,m,h=>by
  unfold Ip;rw[QE λw hw=>h w (AC _ hw)]
  split
  .have:x≠n:=by rintro rfl;exact h v AN
   simp[this]
  .rfl
theorem QG{kindOf:Ah->Am Ek}{x:Ah}:∀{binds:Ac (Ah×Aj)}{m:Ah->Am Aj},(∀ v,(x,v)∉binds)->Io kindOf binds m x=m x
 |[],_,_=>rfl
 |(n,v)::r,m,h=>by
  unfold Io;rw[QG λw hw=>h w (AC _ hw)]
  split
  .rfl
  .have:x≠n:=by rintro rfl;exact h v AN
   simp[this]
theorem QF{kindOf:Ah->Am Ek}{x:Ah}{v:Aj}:∀{P:Ac Ah}{vs:Ac Aj}{i:Ae}{m:Ah->Am Aj},P.Nodup->P[i]?=Ab x->vs[i]?=Ab v->kindOf x=Ab .local->Ip kindOf (P.zip vs) m x=Ab v
 |[],_,_,_,_,h,_,_=>by simp at h
 |_::_,[],_,_,_,_,h,_=>by simp at h
 |p::P,w::vs,0,m,nd,h1,h2,hk=>by
  simp at h1 h2;subst h1;subst h2;show Ip kindOf ((p,w)::P.zip vs) m p=_;unfold Ip;rw[QE λv hv=>(EF.mp nd).1 (HB hv).1,Aq hk]
  simp
 |p::P,w::vs,i+1,m,nd,h1,h2,hk=>by
  show Ip kindOf ((p,w)::P.zip vs) m x=_;unfold Ip;exact QF (i:=i) (EF.mp nd).2 (by simpa using h1) (by simpa using h2) hk
theorem QH{kindOf:Ah->Am Ek}{x:Ah}{v:Aj}:∀{P:Ac Ah}{vs:Ac Aj}{i:Ae}{m:Ah->Am Aj},P.Nodup->P[i]?=Ab x->vs[i]?=Ab v->kindOf x≠Ab .local->Io kindOf (P.zip vs) m x=Ab v
 |[],_,_,_,_,h,_,_=>by simp at h
 |_::_,[],_,_,_,_,h,_=>by simp at h
 |p::P,w::vs,0,m,nd,h1,h2,hk=>by
  simp at h1 h2;subst h1;subst h2;show Io kindOf ((p,w)::P.zip vs) m p=_;unfold Io;rw[QG λv hv=>(EF.mp nd).1 (HB hv).1,Ar hk]
  simp
 |p::P,w::vs,i+1,m,nd,h1,h2,hk=>by
  show Io kindOf ((p,w)::P.zip vs) m x=_;unfold Io;exact QH (i:=i) (EF.mp nd).2 (by simpa using h1) (by simpa using h2) hk
noncomputable def start(N:Ac Ah)(vs:Ac V):St:=vs.map Ab++GD (N.length-vs.length) Af
noncomputable def GK(CX:CXT)(P:AM)(w:AY)(K:Fg)(mg:Ah->Am Aj)(base:AD)(N:Ac Ah)(qual:Ah)(scope:BY)(f:Ak)(cd:Aj)(A:AT)(outer:Ac Cr)(s:Ap)(H:Hp)(E:XK):Cx where
 prog:=P
 w:=w
 K:=K
 mg:=mg
 base:=base
 A:=A.deeper (EZ qual scope s.heap.objs.size f cd)
 N:=N
 s₀:=s
 H₀:=H
 env:=EZ qual scope s.heap.objs.size f cd
 outer:=outer
 stack:=EZ qual scope s.heap.objs.size f cd::outer
 ex:=[]
 calm:=Aa
 fn:=λ_=>Aa
 pn:=[]
 xe:=λe s'=>AB (model P w) (A.deeper (EZ qual scope s.heap.objs.size f cd)) (leaving (EZ qual scope s.heap.objs.size f cd) e) (λ_ s''=>CX outer H s E e s'') (λe' s''=>CX outer H s E e' s'') s'
theorem RM{sc:BY}(h:sc.names.lookup x=Ab .cell):∃ c,(Dg n sc.names []).lookup x=Ab c:=by
 have q:=W3 sc.names n [] (.inl h);exact Eg.mp q
theorem Yp{w:AY}{K:Fg}{mg:Ah->Am Aj}{base:AD}{N ps:Ac Ah}{f:Ak}{cd:Aj}{A:AT}{outer:Ac Cr}{s1:Ap}{E:XK}(S:FnScope N ps scope)(hd:A.handled=Af)(e0:Env0 P w K mg base A outer s H)(hl:vs.length=ps.length)(r:A6 vs us)(x:InCallC s s.heap.objs.size (Ip (EZ qual scope s.heap.objs.size f cd).kindOf (ps.zip us) λ_=>Af) (Dg (s.heap.objs.size+1) scope.names []) (Io (EZ qual scope s.heap.objs.size f cd).kindOf (ps.zip us) λ_=>Af) s1):Inv (GK CX P w K mg base N qual scope f cd A outer s H E) [] (start N vs) H s1:=by
 have hpl:ps.length<=N.length:=by have:=congrArg Jw S.pre;rw[C9]at this;omega
 obtain⟨h1,tk,rfl,hk⟩:=x.done;have noA:∀ b:Ak,b∉(GK CX P w K mg base N qual scope f cd A outer s H E).ex:=λb z=>absurd (show b∈([]:Ac Ak) from z) (by simp)
 refine⟨⟨e0.mod,S.kind,rfl,rfl,Aw _,λy z c h1 h2=>?_,λy hy=>?_,λy c _ h=>?_,λ_=>hd,Around.frames_deeper e0.frames,.inr ⟨rfl,rfl⟩,λb z=>absurd z (noA b),e0.bs,e0.bsz,λb _ _=>noA b,λb z=>absurd z (noA b),e0.funs,e0.frf⟩,
  rfl,e0.bare,Un.kept hk,⟨_,x.toInCall.ns,λi y v h1 h2 h3=>?_⟩,λy c h=>⟨_,x.cell y c h⟩,e0.hok.fresh (Aw _),λy c h=>?_,λp hp=>absurd (show p∈([]:Pn) from hp) (by simp),e0.hok.kept hk,?_⟩
 .exact name_of_addr x.apart (Ct h1) (Ct h2)
 .have hy:scope.names.lookup y=Ab .cell\/scope.names.lookup y=Ab .free:=hy;rcases hy with hy|hy
  .exact RM hy
  .exact absurd rfl (S.nofree _ (Ct hy))
 .exact Gg (x.above y c (Ct h))
 .have hi:i<vs.length:=by
   unfold start at h2;by_cases hi:i<vs.length
   .exact hi
   .rw[B0 (by simpa using hi)]at h2
    rw[Ve]at h2;split at h2<;>cases h2
  have ha:vs[i]?=Ab v:=by
   unfold start at h2;rw[Di (by simpa using hi),Cp]at h2
   cases e:vs[i]? with
   |none=>rw[e]at h2;cases h2
   |some a=>rw[e]at h2;cases h2;rfl
  obtain⟨u,hu,rv⟩:=r.get ha;have hp:ps[i]?=Ab y:=by
   rw[<-S.pre,List.getElem?_take_of_lt (by omega)];exact h1
  have ndP:ps.Nodup:=by rw[<-S.pre];exact S.nd.sublist (List.take_sublist _ _)
  refine⟨u,rv,?_⟩;rcases S.par y (Vm hp) with k|k
  .exact .inl ⟨k,QF ndP hp hu k⟩
  .obtain⟨c,e⟩:=RM (n:=s.heap.objs.size+1) k;refine .inr ⟨.inl k,c,e,?_⟩;have q:=x.cell y c e;rw[QH ndP hp hu (by show scope.names.lookup y≠_;rw[k];decide)]at q
   exact q
 .exact e0.hok.fresh (Gg (x.above y c (Ct h)))
 .unfold start;show _=N.length;rw[Be,AX,Vi];omega
theorem Uh{w:AY}{K:Fg}{mg:Ah->Am Aj}{base:AD}{f:Ak}{name:Ah}{params:Arguments}{dV kV doc pm cdv ct oc:Aj}{an od:Am Ak}{osl:Ax (Am Aj)}{N ps:Ac Ah}(lk:K.lookup f=Ab ⟨oc,od,.func (DP name qual params body scope dV kV doc pm an cdv ct),osl⟩)(hcd:Fs K cdv qual=Aa)(S:FnScope N ps scope)(len:∀ vs H Q E,sp vs H Q E->vs.length=ps.length)(hbody:∀(A:AT)(outer:Ac Cr)(s:Ap)(H:Hp)(vs:Ac V)(Q:VK)(E:XK),Room k (A.deeper (EZ qual scope s.heap.objs.size f cdv))->sp vs H Q E ->
   ∃ t,PSs (GK CX P w K mg base N qual scope f cdv A outer s H E) body t/\t {nx:=λ_ H'=>Q .non H',rt:=Q} (start N vs) H):FnOk P w K mg base CX (k+1) f (DP name qual params body scope dV kV doc pm an cdv ct) ps sp:=by
 refine⟨len,λA outer s H args us vs Q E hr e0 hb r hsp=>?_⟩
 have hl:=len _ _ _ _ hsp;have KX:K.In s.heap:=e0.mod.kin.keeps λb o e=>(e0.bs b o e).1
 have lim:s.heap.NoLimit:=e0.mod.nolimit.keeps λb o e=>(e0.bs b o e).1
 have hkind:∀ y∈ps.zip us,scope.names.lookup y.1=Ab .local\/(scope.names.lookup y.1=Ab .cell/\((Dg (s.heap.objs.size+1) scope.names []).lookup y.1).isSome=Aa):=λ⟨n,v⟩ hy=>by
  rcases S.par n (HB hy).1 with q|q
  .exact .inl q
  .exact .inr ⟨q,W3 _ _ _ (.inl q)⟩
 refine codeAny_call_function hr.depth (KX _ _ lk) rfl S.co S.gen rfl (PySem.W.codeRec_of KX hcd) (hb _ _ _ _ ?_);refine wpAny_newFunctionEnv_cells S.kind hkind λenv he s1 x=>?_
 subst he;refine⟨lim.keeps x.toInCall.keep,codeAny_func ?_⟩;obtain⟨t,ht,hq⟩:=hbody A outer s H vs Q E (hr.deeper _) hsp;have I:Inv (GK CX P w K mg base N qual scope f cdv A outer s H E) [] (start N vs) H s1:=Yp S hr.hd e0 hl r x;refine Bt (ht [] s1 (start N vs) H _ I hq) (λfl s' hs=>?_) λe s' hs=>hs
 have fin:∀{Y':St}{H':Hp}{v:V}{u:Aj},Inv (GK CX P w K mg base N qual scope f cdv A outer s H E) [] Y' H' s'->Bx v u->Q v H'->CE outer P w H s Q u s':=
  λ{Y' H' v u} J rv q=>⟨v,H',J.os,J.bare,J.base,J.hok,rv,q⟩
 cases fl with
 |ret u=>
  obtain⟨v,Y',H',J,rv,q⟩:=hs;exact fin J rv q
 |next=>
  obtain⟨Y',H',J,q⟩:=hs;exact fin (v:=V.non) (u:=A3) J rfl q
 |brk=>
  obtain⟨_,_,_,q⟩:=hs;exact Bs q
 |cont=>
  obtain⟨_,_,_,q⟩:=hs;exact Bs q
section
variable{X:Cx}{x:Ah}{p pos:AR}{e:An}{es:Ac An}{t:TA}{id T:CD}{r:Ac V->Hp->VK->Prop}
def tCB(r:Ac V->Hp->VK->Prop)(t:TA):TE:=λY H Q=>t Y H λvs H1=>r vs H1 Q
theorem Kd(hc:IH X (.builtin id) r)(hg:Gl X x)(hm:X.mg x=Af)(hv:CB x=Ab (.builtin id))(ha:PA X (e::es) t)(hn:x≠"__name__" := by decide)(hdb:(x==("__debug__" : Ah))=Ad:=by decide)(he:Ay (e::es) X.env=(Ad,eval e X.env)::Ay es X.env:=by rfl)(hpl:(BR pos (Ay es X.env)).any (·.1)=Ad:=by rfl):PE X (.Call (.Name x p) (e::es) [] pos) (tCB r t):=by
 intro pI s Y H Q I h;refine Ff (JS I hg hm hv ?_ hn hdb);exact PyProof.Rows.callWith_builtin1 (thn (ha pos pI s Y H _ I h) λus s1 ⟨vs,H1,I1,r1,q1⟩=>hc pI s1 Y H1 vs us Q I1 r1 q1) he hpl
theorem QO(hc:IH X (.type T) r)(hg:Gl X x)(hm:X.mg x=Af)(hv:CB x=Ab (.type T))(ha:PA X (e::es) t)(hn:x≠"__name__" := by decide)(hdb:(x==("__debug__" : Ah))=Ad:=by decide)(he:Ay (e::es) X.env=(Ad,eval e X.env)::Ay es X.env:=by rfl)(hpl:(BR pos (Ay es X.env)).any (·.1)=Ad:=by rfl):PE X (.Call (.Name x p) (e::es) [] pos) (tCB r t):=by
 intro pI s Y H Q I h;refine Ff (JS I hg hm hv ?_ hn hdb);exact C1 (thn (ha pos pI s Y H _ I h) λus s1 ⟨vs,H1,I1,r1,q1⟩=>hc pI s1 Y H1 vs us Q I1 r1 q1) he hpl
end
end L2
namespace HT
open PySem PyProof.Rows
variable{sl:Ak}
section
open PySem.SeqAt
open PySem.AutoSeq1 (wpAny_loadPart')
open PySem.MeetsSeq PySem.MeetsSeq2 PySem.MeetsSeq3
end
section
variable{prog:AM}{w:AY}{A:AT}{E:Vq}{s:Ap}
theorem cat_tup{t b:Ak}{vs ws:Ac Aj}{Q:Vq}(ht:JY s.heap t vs.toArray)(hb:JY s.heap b ws.toArray)(hv:vs≠[])(h1:ws=[]->Q (.ref t) s)(h2:ws≠[]->Q (.ref s.heap.objs.size) { s with heap:=s.heap.push { cls:=.type "tuple",data:=.seq (vs++ws).toArray } })(hsz:vs.length+ws.length<=sizeLine):AB (model prog w) A (BZ .Add (.ref t) (.ref b)) Q E s:=by
 obtain⟨⟨cls,dd,data,sl⟩,ho,hc,n,hd⟩:=id ht;obtain⟨⟨cls2,dd2,data2,sl2⟩,ho2,hc2,n2,hd2⟩:=id hb;simp only at hc hd hc2 hd2;subst hc hd hc2 hd2;have e:vs.toArray++ws.toArray=(vs++ws).toArray:=by simp
 by_cases hw:ws=[]
 .exact Ja ⟨_,ho,rfl⟩ ⟨_,ho2,rfl⟩ Xf seq_tuple_add WA Wv (Wq _ _)
   (tuple_addW1 t b vs.toArray ws.toArray n n2 dd dd2 sl sl2 (by simpa using hv) (by simp[hw])) ⟨ho,ho2,h1 hw⟩
 .refine Ja ⟨_,ho,rfl⟩ ⟨_,ho2,rfl⟩ Xf seq_tuple_add WA Wv (Wq _ _)
   (tuple_addW2 t b vs.toArray ws.toArray n n2 dd dd2 sl sl2 (by simpa using hv) (by simpa using hw) (by rw[AH,AH];exact hsz)) ⟨ho,ho2,?_⟩
  rw[e];exact h2 hw
noncomputable def sIx(n d:Ae):Am Ag->Ae
 |none=>d
 |some v=>if v<0 then (v+(n:Ag)).toNat else min v.toNat n
theorem fM(n d:Ae)(hd:d<=n)(o:Am Ag):sIx n d o<=n:=by
 cases o with
 |none=>exact hd
 |some v=>
  show (if v<0 then (v+(n:Ag)).toNat else min v.toNat n)<=n
  by_cases hv:v<0
  .rw[Aq hv];omega
  .rw[Ar hv];exact Nat.min_le_right _ _
theorem So(v:Ag)(n d:Ae):(if v<0 then max (v+(n:Ag)) 0 else min v (n:Ag))=((sIx n d (Ab v):Ae):Ag):=by
 show (if v<0 then max (v+(n:Ag)) 0 else min v (n:Ag))=(((if v<0 then (v+(n:Ag)).toNat else min v.toNat n):Ae):Ag)
 by_cases hv:v<0
 .simp only[Aq hv];omega
 .simp only[Ar hv];omega
theorem XY(lo hi:Am Ag)(n:Ae):E5 lo hi 1 (n:Ag)=(((sIx n 0 lo:Ae):Ag),((sIx n n hi:Ae):Ag)):=by
 have h1:¬ ((1:Ag)<0):=by omega
 unfold E5;simp only[h1,JX];refine Prod.ext ?_ ?_
 .cases lo with
  |none=>rfl
  |some v=>exact So v n 0
 .cases hi with
  |none=>rfl
  |some v=>exact So v n n
theorem Yj(i j:Ae):D8 (i:Ag) (j:Ag) 1=j-i:=by
 unfold D8;have h1:(1:Ag)>0:=by omega
 simp only[h1,ES,Int.ediv_one];split<;>omega
theorem Qb{v:Aj}{o:Am Ag}{Q:Am Ag->Ap->Prop}(p:GP v o)(h:Q o s):AB (model prog w) A (Builtin.Slice.slicePartIndex v) Q E s:=by
 cases p with
 |none=>exact VJ h
 |int i t=>exact slicePart_int h
theorem Xs{vl vu:Aj}{lo hi:Am Ag}{n:Ae}{Q:Ag×Ag×Ae->Ap->Prop}(hs:s.heap.IsSliceOf sl vl vu .none)(pl:GP vl lo)(pu:GP vu hi)(h:Q (((sIx n 0 lo:Ae):Ag),1,sIx n n hi-sIx n 0 lo) s):AB (model prog w) A (VR (.ref sl) (pure (n:Ag))) Q E s:=by
 obtain⟨os,hos,hcs,hds⟩:=id hs;unfold VR Builtin.Slice.sliceFields;refine Ao (Ao (BG hos hds (x:=vl) rfl (Ao (BG hos hds (x:=vu) rfl (Ao (BG hos hds (x:=.none) rfl (AK ?_)))))));refine Ao (VJ ?_);show AB _ _ (if ((1:Ag)==0)=Aa then _ else _) _ _ s
 rw[Ar (by decide)]
 refine Ao (Qb pl (Ao (Qb pu (Ao (AK ?_)))));show AB _ _ (match E5 lo hi 1 (n:Ag) with|(lo,hi)=>pure (lo,(1:Ag),D8 lo hi 1)) _ _ s
 rw[XY lo hi n];show AB _ _ (pure (((sIx n 0 lo:Ae):Ag),(1:Ag),D8 ((sIx n 0 lo:Ae):Ag) ((sIx n n hi:Ae):Ag) 1)) _ _ s;rw[Yj];exact AK h
theorem ZI(xs:Ax Aj)(i k:Ae):((A8 k).filterMap fun(m:Ae)=>xs[((i:Ag)+(m:Ag)*1).toNat]?).toArray=((xs.toList.drop i).take k).toArray:=by
 have e:(fun(m:Ae)=>xs[((i:Ag)+(m:Ag)*1).toNat]?)=λm=>xs[i+m]?:=by
  funext m
  have:((i:Ag)+(m:Ag)*1).toNat=i+m:=by omega
  rw[this]
 rw[e];have:=pick_run xs i k;rw[List.filterMap_map]at this;have e2:((λx=>xs[x]?) ∘ λx=>i+x)=λm=>xs[i+m]?:=rfl
 rw[e2]at this;rw[this]
theorem getItem_tuple_cut{t:Ak}{items:Ax Aj}{vl vu:Aj}{lo hi:Am Ag}{Q:Vq}(ht:JY s.heap t items)(hs:s.heap.IsSliceOf sl vl vu .none)(pl:GP vl lo)(pu:GP vu hi)(hw:¬ (sIx items.size 0 lo=0/\sIx items.size items.size hi=items.size))(h:Q (.ref s.heap.objs.size) { s with heap:=s.heap.push { cls:=.type "tuple",data:=.seq ((items.toList.drop (sIx items.size 0 lo)).take (sIx items.size items.size hi-sIx items.size 0 lo)).toArray } })(hsz:items.size<=sizeLine):AB (model prog w) A (Ju (.ref t) (.ref sl)) Q E s:=by
 have htake:sizeOk (.seq ((items.toList.drop (sIx items.size 0 lo)).take (sIx items.size items.size hi-sIx items.size 0 lo)).toArray):=by
  show ((items.toList.drop (sIx items.size 0 lo)).take (sIx items.size items.size hi-sIx items.size 0 lo)).toArray.size<=sizeLine;rw[AH,C9,Ef,AF];omega
 have hj:sIx items.size items.size hi<=items.size:=fM _ _ (Aw _) hi;obtain⟨os,hos,hcs,hds⟩:=id hs;have hTs:s.TypeIs (.ref sl) "slice" := ⟨os,hos,hcs⟩;unfold Ju
 try with_reducible refine IW ?_
 first|refine Ao (AK ?_)|skip
 refine Ao (wpAny_sequenceKey ht.typeIs (by decide) ?_)
 refine Ao (Ck (name:=AV "__getitem__") ht.typeIs VL
  (Da VL ht.typeIs entry_tuple_getitem ?_ (args_tuple_getitem _ _)))
 show AB _ _ (Builtin.Tuple.tupleItemsOf (.ref t) >>= _) _ _ s;refine Ao (tupleItemsOf_ ht ?_);refine Ao (wpAny_typeOf hTs ?_);rw[Aq (by decide)]
 refine Ao (Xs hs pl pu ?_);have hno:¬ ((((sIx items.size 0 lo:Ae):Ag)==0&&(1:Ag)==1&&(sIx items.size items.size hi-sIx items.size 0 lo)==items.size)=Aa):=by
  intro q;rw[Al,Al]at q;have q1:((sIx items.size 0 lo:Ae):Ag)=0:=eq_of_beq q.1.1;have q2:sIx items.size items.size hi-sIx items.size 0 lo=items.size:=eq_of_beq q.2;exact hw ⟨by omega,by omega⟩
 show AB _ _ (if (((sIx items.size 0 lo:Ae):Ag)==0&&(1:Ag)==1&&(sIx items.size items.size hi-sIx items.size 0 lo)==items.size)=Aa then _ else _) _ _ s
 rw[Ar hno,ZI]
 first
  |exact Ao (m:=Ei _) (CT (AK ⟨_,rfl,AK h⟩) htake)
  |exact Ao (m:=Ei _) (CT (Ao (AK (AK ⟨_,rfl,AK h⟩))) htake)
  |exact Ao (Ao (m:=Ei _) (CT (AK (AK ⟨_,rfl,AK h⟩)) htake))
  |exact Ao (Ao (m:=Ei _) (CT (AK ⟨_,rfl,AK h⟩) htake))
end
end HT
namespace L2
open PySem PySem.Spec PyProof.Rows
variable{r:V->Am Ag->Am Ag->Hp->VK->Prop}{xs:Ac V}{us its:Ac Aj}{n t':Ae}{i:Ag}{pI:Pn}{Y:St}{H:Hp}{s:Ap}
abbrev TO:=St->Hp->(Am Ag->Hp->Prop)->Prop
noncomputable def PO(X:Cx)(e:Am An)(t:TO):Prop:=
 ∀(pI:Pn)(s:Ap)(Y:St)(H:Hp)(Q:Am Ag->Hp->Prop),Inv X pI Y H s->t Y H Q ->
  AB (model X.prog X.w) X.A (evalPart e X.env) (λu s'=>∃ o H',Inv X pI Y H' s'/\GP u o/\Q o H') X.xe s
def bU:TO:=λ_ H Q=>Q Af H
def lR(t:TE):TO:=λY H Q=>t Y H λx H1=>∃ i,x=.int i/\Q (Ab i) H1
section
variable{X:Cx}{e:An}{te:TE}{lo hi:Am An}{tl th:TO}{pos p2:AR}
theorem dJ:PO X Af bU:=by
 intro pI s Y H Q I h;rw[evalPart_none];exact AK ⟨Af,H,I,.none,h⟩
theorem dI(h:PE X e te):PO X (Ab e) (lR te):=by
 intro pI s Y H Q I hw;rw[evalPart_some];refine thn (h pI s Y H _ I hw) λu s1 ⟨x,H1,I1,r1,q1⟩=>?_
 obtain⟨i,rfl,q⟩:=q1;obtain⟨t,rfl⟩:=r1;exact⟨Ab i,H1,I1,.int i t,q⟩
noncomputable def SlR(X:Cx)(r:V->Am Ag->Am Ag->Hp->VK->Prop):Prop:=
 ∀(pI:Pn)(s:Ap)(Y:St)(H:Hp)(x:V)(v vl vu:Aj)(lo hi:Am Ag)(sl:Ak)(Q:VK),Inv X pI Y H s->Bx x v->s.heap.IsSliceOf sl vl vu .none->GP vl lo->GP vu hi->r x lo hi H Q ->
  ∃ T id,typeLookup (.type T) "__getitem__" = pure (Ab (.builtin id))/\s.TypeIs v T/\AB (model X.prog X.w) X.A (Ju v (.ref sl)) (EP X pI Y Q) X.xe s
theorem SlR.or{r':V->Am Ag->Am Ag->Hp->VK->Prop}(h:SlR X r)(h':SlR X r'):SlR X (λx lo hi H Q=>r x lo hi H Q\/r' x lo hi H Q):=by
 intro pI s Y H x v vl vu lo hi sl Q I rx hs pl pu q;rcases q with q|q
 .exact h pI s Y H x v vl vu lo hi sl Q I rx hs pl pu q
 .exact h' pI s Y H x v vl vu lo hi sl Q I rx hs pl pu q
def tSl(r:V->Am Ag->Am Ag->Hp->VK->Prop)(te:TE)(tl th:TO):TE:=λY H Q=>te Y H λx H1=>tl Y H1 λl H2=>th Y H2 λu H3=>r x l u H3 Q
theorem ZL(hr:SlR X r)(he:PE X e te)(hl:PO X lo tl)(hu:PO X hi th):PE X (.Subscript e (.Slice lo hi Af p2) pos) (tSl r te tl th):=by
 intro pI s Y H Q I h;refine Subscript_ (thn (he pI s Y H _ I h) λv s1 ⟨x,H1,I1,r1,q1⟩=>?_)
 refine wpAny_Slice (thn (hl pI s1 Y H1 _ I1 q1) λvl s2 ⟨l,H2,I2,pl,q2⟩=>thn (hu pI s2 Y H2 _ I2 q2) λvu s3 ⟨u,H3,I3,pu,q3⟩=>?_)
 rw[evalPart_none];refine AK ?_;have I4:Inv X pI Y H3 { s3 with heap:=s3.heap.push { cls:=.type "slice",data:=.fields #[vl,vu,.none] } }:=I3.kept (t':=s3.toks) λb ob q=>As _ q
 obtain⟨T,id,hT,ht,hg⟩:=hr pI { s3 with heap:=s3.heap.push { cls:=.type "slice",data:=.fields #[vl,vu,.none] } } Y H3 x v vl vu l u s3.heap.objs.size Q I4 r1 (Heap.IsSliceOf.new ..) pl pu q3
 show AB (model X.prog X.w) X.A (subscriptTail e (.Slice lo hi Af p2) v (.ref s3.heap.objs.size)) (EP X pI Y Q) X.xe { s3 with heap:=s3.heap.push { cls:=.type "slice",data:=.fields #[vl,vu,.none] } }
 exact tail_any (ops:=[.ref s3.heap.objs.size,v]) ht hT hg (by with_unfolding_all rfl)
noncomputable def Jr(xs:Ac V)(lo hi:Am Ag):Ac V:=(xs.drop (HT.sIx xs.length 0 lo)).take (HT.sIx xs.length xs.length hi-HT.sIx xs.length 0 lo)
theorem Qe(xs:Ac V)(lo hi:Am Ag):(Jr xs lo hi).length<=xs.length:=by
 unfold Jr;rw[C9,Ef];omega
def UI(K:Fg):V->Am Ag->Am Ag->Hp->VK->Prop:=λx lo hi H Q=>∃ a xs,x=.ref a/\SqT K H a xs /\
 ¬ (HT.sIx xs.length 0 lo=0/\HT.sIx xs.length xs.length hi=xs.length)/\∀ p,H p=Af->Q (.ref p) (upd H p (.tup (Jr xs lo hi)))
theorem fZ:SlR X (UI X.K):=by
 intro pI s Y H x v vl vu lo hi sl Q I rx hs pl pu h;obtain⟨a,xs,rfl,hx,hw,q⟩:=h;cases rx;obtain⟨its,r,ht,hz⟩:=I.tuple hx;have hlen:its.toArray.size=xs.length:=by rw[AH];exact r.length.symm
 refine⟨"tuple",_,PyProof.Rows.slot_tuple_getitem.lookup,ht.typeIs,?_⟩;refine HT.getItem_tuple_cut ht hs pl pu (by rw[hlen];exact hw) ?_ (by rw[hlen];exact hz)
 rw[hlen];refine⟨.ref s.heap.objs.size,_,I.laid (t':=s.toks) (o:=.tup (Jr xs lo hi)) (λb ob q=>As _ q) (Aw _) ?_,rfl,q _ (I.hok.fresh (Aw _))⟩
 exact⟨B5 (Qe xs lo hi) hz,_,(r.drop (HT.sIx xs.length 0 lo)).take (HT.sIx xs.length xs.length hi-HT.sIx xs.length 0 lo),KZ _ _⟩
def oP(K:Fg):R2:=λx y H Q=>∃ a b xs ys,x=.ref a/\y=.ref b/\SqT K H a xs/\SqT K H b ys/\xs≠[]/\xs.length+ys.length<=sizeLine /\
 (ys=[]->Q (.ref a) H)/\(ys≠[]->∀ p,H p=Af->Q (.ref p) (upd H p (.tup (xs++ys))))
theorem A6.nil_iff(r:A6 xs us):us=[]↔xs=[]:=by
 cases r with
 |nil=>simp
 |cons _ _=>simp
theorem dZ:OpR X (BZ .Add) (oP X.K):=by
 intro pI s Y H x y v u Q I rx ry h;obtain⟨a,b,xs,ys,rfl,rfl,ha,hb,hx,hz,q1,q2⟩:=h;cases rx;cases ry;obtain⟨its,r1,p1,_⟩:=I.tuple ha;obtain⟨its2,r2,p2,_⟩:=I.tuple hb;refine HT.cat_tup p1 p2 (λz=>hx (r1.nil_iff.mp z)) (λz=>⟨.ref a,H,I,rfl,q1 (r2.nil_iff.mp z)⟩) (λz=>?_) (by rw[<-r1.length,<-r2.length];exact hz)
 refine⟨.ref s.heap.objs.size,_,I.laid (t':=s.toks) (o:=.tup (xs++ys)) (λb ob q=>As _ q) (Aw _) ?_,rfl,q2 (λw=>z (r2.nil_iff.mpr w)) _ (I.hok.fresh (Aw _))⟩
 exact⟨by rw[Be];exact hz,_,r1.append r2,KZ _ _⟩
end
noncomputable def ixN(n:Ae)(i:Ag):Am Ae:=if 0<=i then (if i<n then Ab i.toNat else Af) else if -(n:Ag)<=i then Ab (i+n).toNat else Af
noncomputable def atI{α:Type}(xs:Ac α)(i:Ag):Am α:=(ixN xs.length i).bind λj=>xs[j]?
theorem dB{j:Ae}(h:ixN n i=Ab j):seqIndex? i n=Ab j/\j<n/\-(n:Ag)<=i/\i<n:=by
 unfold ixN at h;by_cases h0:0<=i
 .rw[Aq h0]at h;by_cases h1:i<n
  .rw[Aq h1]at h;have e:i.toNat=j:=Bh h;exact⟨by rw[seqIndex_of h0 h1,e],by omega,by omega,h1⟩
  .rw[Ar h1]at h;cases h
 .rw[Ar h0]at h;by_cases h1:-(n:Ag)<=i
  .rw[Aq h1]at h;have e:(i+n).toNat=j:=Bh h;exact⟨by rw[seqIndex_neg (by omega) h1,e],by omega,h1,by omega⟩
  .rw[Ar h1]at h;cases h
theorem OG{α:Type}{xs:Ac α}{v:α}(h:atI xs i=Ab v):∃ j,seqIndex? i xs.length=Ab j/\xs[j]?=Ab v/\j<xs.length/\-(xs.length:Ag)<=i/\i<xs.length:=by
 unfold atI at h;cases e:ixN xs.length i with
 |none=>rw[e]at h;cases h
 |some j=>
  rw[e]at h;obtain⟨h1,h2,h3,h4⟩:=dB e;exact⟨j,h1,h,h2,h3,h4⟩
def OJ(b:An):Prop:=∀ o i,subscripted b Ad o i=operate [o,i] (Ju o i)
noncomputable def IxR(X:Cx)(r:R2):Prop:=
 ∀(value slice:An)(pI:Pn)(s:Ap)(Y:St)(H:Hp)(x y:V)(v u:Aj)(Q:VK),Inv X pI Y H s->Bx x v->Bx y u->r x y H Q ->
  subscripted slice Ad v u=operate [v,u] (Ju v u)->AB (model X.prog X.w) X.A (subscriptTail value slice v u) (EP X pI Y Q) X.xe s
noncomputable def MtR(X:Cx)(id:CD)(r:V->Ac V->Hp->VK->Prop):Prop:=
 ∀(pI:Pn)(s:Ap)(Y:St)(H:Hp)(x:V)(xs:Ac V)(v:Aj)(us:Ac Aj)(Q:VK),Inv X pI Y H s->Bx x v->A6 xs us->r x xs H Q ->
  AB (model X.prog X.w) X.A (call (.builtin id) (v::us)) (EP X pI Y Q) X.xe s
section
variable{X:Cx}{a b:An}{ta tb:TE}{pos:AR}
theorem IxR.or{r r':R2}(h:IxR X r)(h':IxR X r'):IxR X (λx y H Q=>r x y H Q\/r' x y H Q):=by
 intro value slice pI s Y H x y v u Q I rx ry q hs;rcases q with q|q
 .exact h value slice pI s Y H x y v u Q I rx ry q hs
 .exact h' value slice pI s Y H x y v u Q I rx ry q hs
theorem oX{r:R2}(hr:IxR X r)(ha:PE X a ta)(hb:PE X b tb)(hs:OJ b):PE X (.Subscript a b pos) (tOp r ta tb):=by
 intro pI s Y H Q I h;exact Subscript_ (PX ha hb I h λv u s2 x y H2 I2 rx ry q=>hr a b pI s2 Y H2 x y v u Q I2 rx ry q (hs _ _))
def Uq(K:Fg):R2:=λx y H Q=>∃ p xs i v,x=.ref p/\y=.int i/\SqL K H p xs/\atI xs i=Ab v/\Q v H
def Uo(K:Fg):R2:=λx y H Q=>∃ p xs i v,x=.ref p/\y=.int i/\SqT K H p xs/\atI xs i=Ab v/\Q v H
def Up:R2:=λx y H Q=>∃ z i c,x=.str z/\y=.int i/\z.length<=sizeLine/\atI z.cps.toList i=Ab c/\Q (.str ⟨#[c]⟩) H
theorem dA:IxR X (Uq X.K):=by
 intro value slice pI s Y H x y v u Q I rx ry h hs;obtain⟨p,xs,i,z,rfl,rfl,hq,he,q⟩:=h;cases rx;obtain⟨t,rfl⟩:=ry;obtain⟨its,r,pl,hz⟩:=I.list hq;obtain⟨j,h1,h2,h3,h4,h5⟩:=OG he;obtain⟨w,ew,rw'⟩:=r.get h2;have hl:=r.length;have hn:=Kz;have fin:EP X pI Y Q w s:=⟨z,H,I,rw',q⟩;by_cases h0:0<=i
 .have hj:i.toNat=j:=by
   rw[seqIndex_of h0 h5]at h1;exact Bh h1
  exact item_listR pl.isList h0 (by omega) (by rw[hj];simpa using ew) fin hs
 .have hj:(i+(its.toArray.size:Ag)).toNat=j:=by
   rw[seqIndex_neg (by omega) h4]at h1
   rw[AH,<-hl];exact Bh h1
  exact VM (x:=w) pl.isList.typeIs Xh.lookup
   (wpAny_getItem_list_neg (Q:=λr s'=>r=w/\EP X pI Y Q r s') pl.isList (by omega) (by rw[AH]<;>omega) (by omega) (by rw[hj];simpa using ew) ⟨rfl,fin⟩) hs
theorem jC:IxR X (Uo X.K):=by
 intro value slice pI s Y H x y v u Q I rx ry h hs;obtain⟨p,xs,i,z,rfl,rfl,hq,he,q⟩:=h;cases rx;obtain⟨t,rfl⟩:=ry;obtain⟨its,r,pl,hz⟩:=I.tuple hq;obtain⟨j,h1,h2,h3,h4,h5⟩:=OG he;obtain⟨w,ew,rw'⟩:=r.get h2;have hl:=r.length;have hn:=Kz;have fin:EP X pI Y Q w s:=⟨z,H,I,rw',q⟩;exact VM (x:=w) pl.typeIs slot_tuple_getitem.lookup
  (getItem_tuple (j:=j) (Q:=λr s'=>r=w/\EP X pI Y Q r s') pl (by omega) (by omega) (by rw[AH,<-hl];exact h1) (by simpa using ew) ⟨rfl,fin⟩) hs
theorem jD:IxR X Up:=by
 intro value slice pI s Y H x y v u Q I rx ry h hs;obtain⟨z,i,c,rfl,rfl,hz,he,q⟩:=h;obtain⟨t,rfl⟩:=rx;obtain⟨t',rfl⟩:=ry;obtain⟨j,h1,h2,h3,h4,h5⟩:=OG he;have hl:z.cps.toList.length=z.length:=by simp[Str.length]
 rw[hl]at h1 h4 h5;have hn:=Kz;exact tail_any (Iu s z t) slot_str_getitem.lookup (getItem_str (c:=c) (by
  have e1:decide (i < -(2 ^ 63:Ag))=Ad:=Bu (by omega)
  have e2:decide (i ≥ 2 ^ 63)=Ad:=Bu (by omega)
  rw[e1,e2,Ey]) (by rw[h1];simpa using h2) ⟨.str ⟨#[c]⟩,H,I.tok _,⟨_,rfl⟩,q⟩) hs
def rIx(K:Fg):R2:=λx y H Q=>Uq K x y H Q\/Uo K x y H Q\/Up x y H Q
theorem iD:IxR X (rIx X.K):=dA.or (jC.or jD)
theorem Inv.lst{p:Ak}(I:Inv X pI Y H s)(h:H p=Ab (.lst xs)):
  ∃(its:Ac Aj)(n:Ae),A6 xs its/\s.heap.get? p=Ab { cls:=.type "list",data:=.seq its.toArray n }/\xs.length<=sizeLine:=by
 obtain⟨z,its,n,r,e⟩:=I.hok p _ h;exact⟨its,n,r,e,z⟩
theorem Xy(lo hi:Am Ag)(n:Ae):(E3 lo hi Af n).1=((HT.sIx n 0 lo:Ae):Ag)/\(E3 lo hi Af n).2.1=((HT.sIx n n hi:Ae):Ag)/\(E3 lo hi Af n).2.2=1:=by
 refine⟨?_,?_,rfl⟩
 .cases lo with
  |none=>simp[E3,HT.sIx]
  |some i=>
   simp only[E3,HT.sIx,VD,show (1:Ag)>0 by decide,ES]
   by_cases h:i<0
   .simp only[h,ES]<;>omega
   .simp only[h,JX]<;>omega
 .cases hi with
  |none=>simp[E3,HT.sIx]
  |some i=>
   simp only[E3,HT.sIx,VD,show (1:Ag)>0 by decide,ES]
   by_cases h:i<0
   .simp only[h,ES]<;>omega
   .simp only[h,JX]<;>omega
theorem XC(its:Ac Aj)(lo hi:Am Ag):slicePick its.toArray lo hi Af=((its.drop (HT.sIx its.length 0 lo)).take (HT.sIx its.length its.length hi-HT.sIx its.length 0 lo)).toArray:=by
 obtain⟨h1,h2,h3⟩:=Xy lo hi its.toArray.size;unfold slicePick;rw[h1,h2,h3];simp only[sliceRange_one,pick_run,AH]<;>rfl
def Um(K:Fg):V->Am Ag->Am Ag->Hp->VK->Prop:=λx lo hi H Q=>∃ a xs,x=.ref a/\SqL K H a xs/\∀ p,H p=Af->Q (.ref p) (upd H p (.lst (Jr xs lo hi)))
theorem aL:SlR X (Um X.K):=by
 intro pI s Y H x v vl vu lo hi sl Q I rx hs pl pu h;obtain⟨a,xs,rfl,hx,q⟩:=h;cases rx;obtain⟨its,r,ht,hz⟩:=I.list hx;have hlen:=r.length;refine⟨"list",_,Xh.lookup,ht.isList.typeIs,?_⟩;refine wpAny_getItem_list_slice ht.isList hs pl pu .none (by simp) ?_ (by rw[AH]<;>omega)
 rw[XC,<-hlen];refine⟨.ref s.heap.objs.size,_,I.laid (t':=s.toks) (o:=.lst (Jr xs lo hi)) (λb ob q=>As _ q) (Aw _) ?_,rfl,q _ (I.hok.fresh (Aw _))⟩
 exact⟨B5 (Qe xs lo hi) hz,_,0,(r.drop (HT.sIx xs.length 0 lo)).take (HT.sIx xs.length xs.length hi-HT.sIx xs.length 0 lo),AJ _ rfl⟩
theorem XH:OpR X (CC .NotIn) (λx y H Q=>∃ i j,x=.str i/\y=.str j/\Q (.bl (!(!(Builtin.Str.occurrences j i 0 j.length 1).isEmpty))) H):=by
 intro pI s Y H x y v u Q I rx ry h;obtain⟨i,j,rfl,rfl,q⟩:=h;obtain⟨t,rfl⟩:=rx;obtain⟨t',rfl⟩:=ry;exact notIn_str ⟨.bl _,H,I,rfl,q⟩
theorem P3:IH X (.builtin "len") (λxs H Q=>∃ p ys,xs=[.ref p]/\(SqL X.K H p ys\/SqT X.K H p ys)/\Q (.int ys.length) H):=by
 intro pI s Y H xs us Q I r h;obtain⟨p,ys,rfl,hq,q⟩:=h;obtain⟨u,rfl,rx⟩:=Jg r;cases rx;have hn:=Kz;rcases hq with hq|hq
 .obtain⟨its,r',pl,hz⟩:=I.list hq;have hlen:=r'.length;exact Calls.call_len_list pl.isList (by simp only[AH]<;>omega) ⟨.int ys.length,H,I.tok _,⟨s.toks+1,by rw[AH,hlen]⟩,q⟩
 .obtain⟨its,r',pl,hz⟩:=I.tuple hq;have hlen:=r'.length;exact len_tuple pl (by simp only[AH]<;>omega) ⟨.int ys.length,H,I.tok _,⟨s.toks+1,by rw[AH,hlen]⟩,q⟩
theorem XF:IH X (.builtin "len") (λxs H Q=>∃ z,xs=[.str z]/\z.length<=sizeLine/\Q (.int z.length) H):=by
 intro pI s Y H xs us Q I r h;obtain⟨z,rfl,hz,q⟩:=h;obtain⟨u,rfl,t,rfl⟩:=Jg r;have hn:=Kz;exact len_str (by omega) ⟨.int z.length,H,I.tok _,⟨_,rfl⟩,q⟩
theorem P0:IH X (.type "list") (λxs H Q=>∃ p ys,xs=[.ref p]/\(SqL X.K H p ys\/SqT X.K H p ys)/\∀ l,H l=Af->Q (.ref l) (upd H l (.lst ys))):=by
 intro pI s Y H xs us Q I r h;obtain⟨p,ys,rfl,hq,q⟩:=h;obtain⟨u,rfl,rx⟩:=Jg r;cases rx;have fin:∀(its:Ac Aj),A6 ys its->ys.length<=sizeLine->∀(h':AD)(c':Ae),(∀ b o',s.heap.get? b=Ab o'->h'.get? b=Ab o') ->
   h'.get? s.heap.objs.size=Ab { cls:=.type "list",dict:=Af,data:=.seq its.toArray c',slots:=#[] }->EP X pI Y Q (.ref s.heap.objs.size) {s with heap:=h'}:=λits r' hz h' c' kp e=>
  ⟨.ref s.heap.objs.size,_,I.laid (t':=s.toks) kp (Aw _) (show ObjOk X.prog X.w _ h' _ (.lst ys) from ⟨hz,its,c',r',e⟩),rfl,q _ (I.hok.fresh (Aw _))⟩
 rcases hq with hq|hq
 .obtain⟨its,r',pl,hz⟩:=I.list hq;have hlen:=r'.length;obtain⟨o,ho,hc,n,hd⟩:=pl.isList;exact call_list_seq p (.inl rfl) ho hc hd (λh' c' kp e=>fin its r' hz h' c' kp e) (by simp only[AH]<;>omega)
 .obtain⟨its,r',pl,hz⟩:=I.tuple hq;have hlen:=r'.length;obtain⟨o,ho,hc,n,hd⟩:=pl;exact call_list_seq p (.inr rfl) ho hc hd (λh' c' kp e=>fin its r' hz h' c' kp e) (by simp only[AH]<;>omega)
theorem P6:IH X (.type "tuple") (λxs H Q=>∃ p ys,xs=[.ref p]/\((SqL X.K H p ys/\∀ l,H l=Af->Q (.ref l) (upd H l (.tup ys)))\/(SqT X.K H p ys/\Q (.ref p) H))):=by
 intro pI s Y H xs us Q I r h;obtain⟨p,ys,rfl,h⟩:=h;obtain⟨u,rfl,rx⟩:=Jg r;cases rx;rcases h with ⟨hq,q⟩|⟨hq,q⟩
 .obtain⟨its,r',pl,hz⟩:=I.list hq;have hlen:=r'.length;refine call_tuple_list pl.isList (λh' kp=>?_) (by simp only[AH]<;>omega)
  have I1:Inv X pI Y H {s with heap:=h'}:=I.kept (t':=s.toks) kp
  have I2:Inv X pI Y (upd H h'.objs.size (.tup ys)) { s with heap:=h'.push { cls:=.type "tuple",data:=.seq its.toArray } }:=
   I1.laid (t':=s.toks) (λb o e=>As _ e) (Aw _) (show ObjOk X.prog X.w _ _ _ (.tup ys) from ⟨hz,its,r',KZ _ _⟩)
  exact⟨.ref h'.objs.size,_,I2,rfl,q _ (I1.hok.fresh (Aw _))⟩
 .obtain⟨its,r',pl,hz⟩:=I.tuple hq;exact call_tuple_same pl ⟨.ref p,H,I,rfl,q⟩
def tyV(K:Fg)(T:CD)(x:V)(H:Hp):Prop:=match x with
  |.str _=>T = "str"
  |.int _=>T = "int"
  |.ref p=>(T = "list"/\∃ xs,SqL K H p xs)\/(T = "tuple"/\∃ o,K.lookup p=Ab o/\o.cls=.type "tuple"/\o.dict=Af) \/
      (T = "dict"/\((∃ kvs,H p=Ab (.dK kvs))\/∃ kvs,H p=Ab (.dT kvs)))\/(T = "set"/\∃ S n,H p=Ab (.set S n))
  |_=>A5
theorem gO{T:CD}{x:V}{v:Aj}(I:Inv X pI Y H s)(r:Bx x v)(ty:tyV X.K T x H):s.TypeIs v T/\∀ a,v=.ref a->∃ ob,s.heap.get? a=Ab ob/\ob.dict=Af:=by
 cases x with
 |str z=>
  obtain⟨t,rfl⟩:=r;cases (show T = "str" from ty)
  exact⟨Iu s z t,λ_ e=>nomatch e⟩
 |int i=>
  obtain⟨t,rfl⟩:=r;cases (show T = "int" from ty)
  exact⟨typeIs_int s i t,λ_ e=>nomatch e⟩
 |ref p=>
  cases r;rcases ty with ⟨rfl,xs,hq⟩|⟨rfl,o,hk,hc,hd⟩|⟨rfl,hk⟩|⟨rfl,S,n,hk⟩
  .obtain⟨its,_,pl,_⟩:=I.list hq;refine⟨pl.isList.typeIs,λa e=>?_⟩
   cases e;obtain⟨o,n,e,c,hd,_⟩:=pl;exact⟨o,e,hd⟩
  .refine⟨⟨o,I.kIn p o hk,hc⟩,λa e=>?_⟩
   cases e;exact⟨o,I.kIn _ o hk,hd⟩
  .have z:∃ o,s.heap.get? p=Ab o/\o.ExactDict:=by
    rcases hk with ⟨kvs,hk⟩|⟨kvs,hk⟩
    .obtain⟨_,_,_,_,o,_,_,e,ex,_⟩:=I.hok p _ hk;exact⟨o,e,ex⟩
    .obtain⟨_,_,_,_,o,_,_,e,ex,_⟩:=I.hok p _ hk;exact⟨o,e,ex⟩
   obtain⟨o,e,ex⟩:=z;refine⟨⟨o,e,ex.1⟩,λa e2=>?_⟩
   cases e2;exact⟨o,e,ex.2.1⟩
  .obtain⟨o,_,_,_,e,ex,_⟩:=I.hok p _ hk;refine⟨⟨o,e,ex.1⟩,λa e2=>?_⟩
   cases e2;exact⟨o,e,ex.2.1⟩
 |_=>exact Bs ty
def tBM(K:Fg)(T:CD)(r:V->Ac V->Hp->VK->Prop)(to:TE)(t:TA):TE:=λY H Q=>to Y H λx H1=>tyV K T x H1/\t Y H1 λxs H2=>r x xs H2 Q
variable{o e:An}{es:Ac An}{to:TE}{t:TA}{name:Ah}{apos cpos:AR}{T id:CD}{r:V->Ac V->Hp->VK->Prop}
theorem M2(pa:PlainAttrs T)(slot:Slot T name id)(hty:typeOf (.builtin id)=pure (.type "method_descriptor"))(hm:MtR X id r)(ho:PE X o to)(ha:PA X (e::es) t)(hbase:EA o name X.env (eval o X.env)=eval o X.env:=by rfl)(hfew:((BR cpos (Ay (e::es) X.env)).all (λx=>!x.1)&&(Im cpos (GN [] X.env)).all (λx=>x.1.isSome)
   && decide ((e::es).length+([]:Ac Ee).length+(if ([]:Ac Ee).isEmpty then 0 else 1)<30))=Aa:=by rfl)(hline:(apos.endLine==cpos.line)=Aa:=by rfl)(hs:Ay (e::es) X.env=(Ad,eval e X.env)::Ay es X.env:=by rfl)(hplain:(BR cpos (Ay es X.env)).any (·.1)=Ad:=by rfl):PE X (.Call (.Attribute o name apos) (e::es) [] cpos) (tBM X.K T r to t):=by
 intro pI s Y H Q I h;refine wpAny_Call_method_late hbase hfew hline rfl (thn (ho pI s Y H _ I h) λv s1 ⟨x,H1,I1,r1,ty,q1⟩=>?_)
 obtain⟨h1,h2⟩:=gO I1 r1 ty;refine⟨T,id,pa,slot,hty,h1,h2,?_⟩;have hA:=ha cpos pI s1 Y H1 _ I1 q1;rw[hs]at hA ⊢;refine Calls.callWith_builtin (by show (Ad||(BR cpos (Ay es X.env)).any (·.1))=Ad;rw[hplain]<;>rfl) (VU ?_)
 exact thn hA λus s2 ⟨vs,H2,I2,r2,q2⟩=>hm pI s2 Y H2 x vs v us Q I2 r1 r2 q2
/- xs.append(e),list.index on a module's tuple .. are MtR facts of 06m -/
end
noncomputable def MtM(X:Cx)(id:CD)(r:V->Ac V->Hp->VK->Prop):Prop:=
 ∀(pI:Pn)(s:Ap)(Y:St)(H:Hp)(x:V)(xs:Ac V)(v:Aj)(us:Ac Aj)(Q:VK),Inv X pI Y H s->Bx x v->A6 xs us->r x xs H Q ->
  AB (model X.prog X.w) X.A (call (.builtin id) (v::us)) (EP X pI Y Q) X.xe s
theorem A6.one:∀{x:V}{us:Ac Aj},A6 [x] us->∃ u,us=[u]/\Bx x u
 |_,_,.cons r .nil=>⟨_,rfl,r⟩
theorem A6.zero:∀{us:Ac Aj},A6 [] us->us=[]
 |_,.nil=>rfl
theorem A6.eraseIdx:∀{xs:Ac V}{us:Ac Aj}(i:Ae),A6 xs us->A6 (xs.eraseIdx i) (us.eraseIdx i)
 |_,_,_,.nil=>.nil
 |_,_,0,.cons _ t=>t
 |_,_,i+1,.cons r t=>.cons r (A6.eraseIdx i t)
theorem A6.reverse(h:A6 xs us):A6 xs.reverse us.reverse:=by
 induction h with
 |nil=>exact .nil
 |cons r t ih=>rw[Vs,Vs];exact A6.append ih (.cons r .nil)
section
variable{X:Cx}{pI:Pn}{Y:St}{H:Hp}{s:Ap}{l b:Ak}{xs ys zs:Ac V}
theorem Inv.lset{its':Ac Aj}{f:Ax Aj->Ax Aj}(I:Inv X pI Y H s)(hH:H l=Ab (.lst xs))(e:s.heap.get? l=Ab { cls:=.type "list",data:=.seq its.toArray n })(hf:f its.toArray=its'.toArray)(hv:A6 ys its')(hz:ys.length<=sizeLine):Inv X pI Y (upd H l (.lst ys)) {s with heap:=s.heap.update l (C6 f),toks:=t'}:=by
 have q:=PySem.IsL.update e f;rw[hf]at q;refine I.write (x:=l) (e:=l) (by rw[hH];exact trivial) (.inl rfl) (λb' u hb hu=>(C4 s.heap (C6 f) (Ed hb)).trans hu) ⟨_,q⟩ ?_
 exact⟨hz,its',_,hv,q⟩
theorem Inv.lnew(I:Inv X pI Y H s)(hv:A6 ys its)(hz:ys.length<=sizeLine):
  Inv X pI Y (upd H s.heap.objs.size (.lst ys)) { s with heap:=s.heap.push { cls:=.type "list",data:=.seq its.toArray },toks:=t' }:=
 I.laid (λ_ _ q=>As _ q) (Aw _) ⟨hz,its,0,hv,AJ _ rfl⟩
theorem Inv.fresh(I:Inv X pI Y H s):H s.heap.objs.size=Af:=I.hok.fresh (Aw _)
theorem Inv.lstM(I:Inv X pI Y H s)(hH:H l=Ab (.lst xs)):xs.length<=sizeLine/\∃(its:Ac Aj)(n:Ae),A6 xs its/\xs.length=its.length/\s.heap.get? l=Ab { cls:=.type "list",data:=.seq its.toArray n }:=by
 obtain⟨z,its,n,r,e⟩:=I.hok l _ hH;exact⟨z,its,n,r,r.length,e⟩
theorem Rs(h:n<=sizeLine):Dm n=Ad:=by
 unfold Dm;exact Bu (by omega)
end
section
variable{X:Cx}
def Z_8:V->Ac V->Hp->VK->Prop:=λx vs H Q=>∃ l xs y,x=.ref l/\vs=[y]/\H l=Ab (.lst xs)/\xs.length<sizeLine/\Q .non (upd H l (.lst (xs++[y])))
theorem Yz:MtM X "list.append" Z_8:=by
 intro pI s Y H x vs v us Q I rx rv h;obtain⟨l,xs,y,rfl,rfl,hH,hz,q⟩:=h;cases rx;obtain⟨u,rfl,ru⟩:=rv.one;obtain⟨z,its,n,r,hl,e⟩:=I.lstM hH;refine Ir F.slot_list_append ⟨_,e,rfl⟩ F.entry_list_append (F.args_list_append_2 _ _) (PySem.list_append l its.toArray n u (by rw[AH];omega)) ⟨e,?_⟩
 refine⟨.non,_,I.lset (its':=its++[u]) hH e (by simp) (r.append (.cons ru .nil)) ?_,rfl,q⟩
 rw[Be,EM];omega
def Z_7:V->Ac V->Hp->VK->Prop:=λx vs H Q=>∃ l b xs zs,x=.ref l/\vs=[.ref b]/\H l=Ab (.lst xs)/\H b=Ab (.lst zs)/\xs.length+zs.length<=sizeLine/\Q .non (upd H l (.lst (xs++zs)))
theorem Yy:MtM X "list.extend" Z_7:=by
 intro pI s Y H x vs v us Q I rx rv h;obtain⟨l,b,xs,zs,rfl,rfl,hH,hB,hz,q⟩:=h;cases rx;obtain⟨u,rfl,ru⟩:=rv.one;cases ru;obtain⟨z,its,n,r,hl,e⟩:=I.lstM hH;obtain⟨z2,its2,n2,r2,hl2,e2⟩:=I.lstM hB;have hsz:its.toArray.size+its2.toArray.size<=sizeLine:=by rw[AH,AH];omega
 have hlong:¬ (!its.toArray.isEmpty&&Dm (its.toArray.size+its2.toArray.size))=Aa:=by
  rw[Rs hsz,Fn];exact Az
 refine Ir EN ⟨_,e,rfl⟩ Wu (Wo _ _)
  (AutoSeq1.list_extend_list_list_0 l its.toArray n b its2.toArray n2 hlong (by rw[AH];omega) (by omega)) ⟨e,e2,?_⟩
 refine⟨.non,_,I.lset (its':=its++its2) hH e (by simp) (r.append r2) ?_,rfl,q⟩
 rw[Be];omega
end
section
variable{prog:AM}{w:AY}{A:AT}{E:Vq}{s:Ap}
set_option maxRecDepth 100000 in
end
section
variable{X:Cx}
end
end L2
namespace Att
open PySem PySem.W PySem.Calls PyProof.Rows
variable{P:K6}{h:AD}{l:FP}{n:Ae}
theorem Xu:∀(ns:Ac Ag)(vs:Ac Aj),WellAll P h vs (ns.map WY)->Ez vs ns:=by
 intro ns
 induction ns with
 |nil=>
  intro vs w;rw[Vk]at w;cases w;exact .nil
 |cons n ns ih=>
  intro vs w;rw[BP]at w;cases w with
  |cons a b=>
   cases a;exact .cons _ _ (ih _ b)
theorem YG(hn:l.most=Ab n){args:Ac WData}{vals:Ac Aj}(hpre:l.row.toRowW.claim.pre args=Aa)(hwl:WellAll P h vals args):
  ∃ a vs ns,vals=[De a]/\args=[WData.list (ns.map WY)]/\h.get? a=Ab { cls:=.type "list",data:=.seq vs.toArray }/\Ez vs ns/\ns.length<=n:=by
 have hsh:WShape.hasAll [] args [.list .int]=Aa:=(pre_splitW hpre).1;have hc:l.pre.holds [] {args:=args}=Aa:=(pre_splitW hpre).2;obtain⟨d,r,rfl,h1,h2⟩:=hasAllW_cons hsh;obtain rfl:=hasAllW_nil h2;obtain⟨xs,rfl,h3⟩:=hasW_list h1;obtain⟨ns,rfl⟩:=items_int h3;have hlen:ns.length<=n:=by
  unfold OpenLaw.pre at hc;have h4:(WTm.not (.lt (.lit (.int (n:Ag))) (.len (.arg 0)))).holds [] {args:=[.list (ns.map .int)]}=Aa:=by
   have h4:=(holds_andW hc).1;rw[hn]at h4;exact h4
  have h5:=condW_of h4 (w_not (w_lt w_lit (w_len_list (w_arg rfl))));rw[AX]at h5;refine Nat.le_of_not_lt λq=>?_
  have q':(n:Ag)<((ns.length:Ae):Ag):=by omega
  first
   |(rw[DH q']at h5;exact absurd h5 (by decide))
   |(simp at h5;omega)
 cases hwl with
 |cons w1 w2=>
  cases w2;cases w1 with
  |list ho hall=>exact⟨_,_,ns,rfl,rfl,ho,Xu ns _ hall,hlen⟩
theorem YK(l:FP)(args:Ac WData):l.row.toRowW.claim.post args (.bool Aa) args=Aa:=
 postW_of (r:=l.row.toRowW) (X:=(Aa==Aa))
  (show WZ [] (.bool Aa) .bool=Aa by first|rfl|decide|simp[WZ,WShape.arms,WShape.armsAll])
  (show (WTm.eq .res (.lit (.bool Aa))).value [] {args:=args,res:=Ab (.bool Aa),after:=args}=Ab (.bool (Aa==Aa)) from w_eq_bool (w_res rfl) w_lit) rfl
theorem attach_call{q:AM}{loose:Ac Ah}{XP:(Ah->Am Aj)->AD->Prop}{YP:AY->AD->Prop}{d:DefRec}(hn:l.most=Ab n)(hdf:d.params.defaults=[])(call:∀(w:AY)(s₀ s₁:Ap)(mg mb:Ah->Am Aj)(fa:Ak)(o:DE)(pm cd doc:Aj)(a:Ak)(vs:Ac Aj)(ns:Ac Ag),
   Ground q loose [] XP w s₀ mg mb s₁.heap->YP w s₁.heap ->
   s₁.heap.get? fa=Ab o->o.data=.func (docDef d.name d.params d.body d.scope pm cd doc)->s₁.heap.CodeRec cd d.name->mg d.name=Ab (.ref fa) ->
   s₁.heap.get? a=Ab { cls:=.type "list",data:=.seq vs.toArray }->Ez vs ns->ns.length<=n->s₁.gens=#[] ->
   Gc (model l.prog w) Hb (.call (.ref fa) ⟨[.ref a],[]⟩) (λr s'=>r=.ok (.ret (.bool Aa))/\OldK s₁.heap s'.heap/\s'.os=s₁.os/\Fo s'.gens) s₁):WalkO q loose XP YP l.row.toRowW d [] (λf vs=>J6 f vs):=by
 intro w s₀ s₁ mg mb G Y_ fa o pm cd doc dV kV ho hd hcd hD hmg hg args vals as hpre hlay hrd hwl hlo;obtain rfl:dV=.none:=Dflts.none hD hdf;obtain rfl:kV=.none:=Dflts.noKw hD;obtain⟨a,vs,ns,rfl,rfl,hobj,hints,hlen⟩:=YG hn hpre hwl;refine enter_call (Hq (call w s₀ s₁ mg mb fa o pm cd doc a vs ns G Y_ ho (fd_plain hd) hcd hmg hobj hints hlen hg) λr s' hq=>?_)
 obtain⟨rfl,h2,h3,h4⟩:=hq;exact⟨.inl ⟨.bool Aa,.bool Aa,[],rfl,λ_=>rfl,.bool Aa,YK l _,λ_=>⟨List.Pairwise.nil,λ_ hm=>(nomatch hm)⟩⟩,h2,h3,h4⟩
section
variable{prog:AM}{w:AY}{A:AT}{E:Vq}{s:Ap}{K:Frag}
end
end Att
namespace L2
open PySem PySem.Spec PyProof.Rows
variable{k:Ae}{x:Ah}
theorem Qn:∀{vs:Ac Aj}{ns:Ac Ag},Ez vs ns->A6 (ns.map V.int) vs
 |_,_,.nil=>.nil
 |_,_,.cons n t h=>.cons ⟨t,rfl⟩ (Qn h)
def PQ(H:Hp):Prop:=∀ b,H b=Af\/∃ o xs,H b=Ab (.frz o (.lst xs))
theorem Zx{P:AM}{w:AY}{K:Fg}{mg mb:Ah->Am Aj}{CX:CXT}{fa a:Ak}{fd:BQ}{sp:Sp}{s₁:Ap}{vs:Ac Aj}{ns:Ac Ag}(KX:K.In s₁.heap)(hns:s₁.heap.Ns Bc mg)(hb:s₁.heap.Ns Iq mb)(hbb:∀ x:Ah,x≠"__name__"->mb x=CB x)(hlim:s₁.heap.NoLimit)(hg:s₁.gens=#[])(ha:s₁.heap.get? a=Ab { cls:=.type "list",data:=.seq vs.toArray })(hi:Ez vs ns)(hl:ns.length<=sizeLine)(hr:Room k Hb)(F:∀ base:AD,K.In base->base.Ns Bc mg->FnOk P w K mg base CX k fa fd [x] sp)(hbind:∀(s:Ap)(u:Aj),GE s fd ⟨[u],[]⟩ [(x,u)])(hsp:∀ H:Hp,PQ H->SqL K H a (ns.map V.int)->sp [.ref a] H (λv _=>v=.bl Aa) λ_ _ _=>A5)(hCX:∀ H e s',CX [] H s₁ (λ_ _ _=>A5) e s'->A5):Gc (model P w) Hb (.call (.ref fa) ⟨[.ref a],[]⟩) (λr s'=>r=.ok (.ret (.bool Aa))/\OldK s₁.heap s'.heap/\s'.os=s₁.os/\Fo s'.gens) s₁:=by
 have rv:=Qn hi;have lenV:=hi.length
 -- from an abstract heap in which nothing but the script may be tracked
 have core:∀ H:Hp,PQ H->SqL K H a (ns.map V.int)->HOk P w H s₁.heap->(∀ b,H b≠Af->b=a)->(H a≠Af->K.lookup a=Af) ->
   Gc (model P w) Hb (.call (.ref fa) ⟨[.ref a],[]⟩) (λr s'=>r=.ok (.ret (.bool Aa))/\OldK s₁.heap s'.heap/\s'.os=s₁.os/\Fo s'.gens) s₁:=by
  intro H hO hS hok hA hK;have base_of:∀{b:Ak}{o:DE},s₁.heap.get? b=Ab o->H b=Af->(IQ s₁.heap H).get? b=Ab o:=λe n=>ZB e n
  have noA:∀{b:Ak}{o:DE}{es:Ax DictEntry}{ep:Ae},s₁.heap.get? b=Ab o->o.data=.dict es ep->H b=Af:=λ{b o es ep} e d=>by
   cases q:H b with
   |none=>rfl
   |some u=>
    have e':b=a:=hA b (by rw[q];simp)
    subst e';rw[ha]at e;cases e;have d':K4 vs.toArray _=Data.dict es ep:=d;cases d'
  have nsK:∀{b:Ak}{m:Ah->Am Aj},s₁.heap.Ns b m->(IQ s₁.heap H).Ns b m:=λ{b m} ⟨o,es,ep,e,d,r⟩=>⟨o,es,ep,base_of e (noA e d),d,r⟩
  have hKb:K.In (IQ s₁.heap H):=λb o e=>base_of (KX b o e) (by
   cases q:H b with
   |none=>rfl
   |some u=>
    have e':b=a:=hA b (by rw[q];simp)
    subst e';rw[hK (by rw[q];simp)]at e;cases e)
  have hM:Mod K mg (IQ s₁.heap H):=⟨hKb,nsK hns,⟨mb,nsK hb,hbb⟩,let ⟨mc,h1,h2⟩:=hlim;⟨mc,nsK h1,h2⟩⟩
  have e0:Env0 P w K mg (IQ s₁.heap H) Hb [] s₁ H:=⟨rfl,hM,λb o e=>cP e,Vw (Yq _ _),trivial,λb hb=>absurd (show b∈([]:Ac Ak) from hb) (by simp),hok,.of_eq hg⟩
  refine Hq ((F _ hKb (nsK hns)).run Hb [] s₁ H ⟨[.ref a],[]⟩ [.ref a] [.ref a] _ _ hr e0 (hbind s₁ (.ref a)) (.cons rfl .nil) (hsp H hO hS)) λr s' h=>?_
  cases r with
  |error e=>exact(hCX H e s' h).elim
  |ok fl=>
   cases fl with
   |next=>exact Bs h
   |brk=>exact Bs h
   |cont=>exact Bs h
   |ret u=>
    obtain⟨v,H',os,bare,un,hok',r',q⟩:=h;have q':v=.bl Aa:=q;subst q';obtain rfl:u=J5 Aa:=r';refine⟨rfl,OldK.of_keep λb o e=>?_,os,bare⟩
    cases q:H b with
    |none=>exact un.keep b o e q (by intro z;exact absurd (show b∈([]:Ac Ak) from z) (by simp)) (by simp)
    |some u=>
     rcases hO b with z|⟨ob,xs,z⟩
     .rw[q]at z;cases z
     .have z2:=un.frzs b ob _ z;obtain⟨e1,_⟩:=hok b _ z;obtain⟨e2,_⟩:=hok' b _ z2;rw[e]at e1;cases e1;exact e2
 cases hk:K.lookup a with
 |some o=>
  -- the script is one of the module's own objects
  have e:=KX a o hk;rw[ha]at e;cases e;refine core (λ_=>Af) (λ_=>.inl rfl) (.inr ⟨_,vs.toArray,_,hk,rfl,rfl,rfl,by rw[AH,lenV];exact hl,by simpa using rv⟩) (λb u z=>by have z':(Af:Am HO)=Ab u:=z;cases z') (λb z=>absurd rfl z) λz=>absurd rfl z
 |none=>
  refine core (λb=>if b=a then Ab (.frz { cls:=.type "list",data:=.seq vs.toArray } (.lst (ns.map V.int))) else Af) (λb=>?_) (.inl (.inr ⟨{ cls:=.type "list",data:=.seq vs.toArray },Aq rfl⟩)) (λb u z=>?_) (λb z=>?_) λ_=>hk
  .by_cases hb:b=a
   .exact .inr ⟨_,_,Aq hb⟩
   .exact .inl (Ar hb)
  .by_cases hb:b=a
   .have z':=(Aq hb).symm.trans z;cases z';subst hb;exact⟨ha,by rw[AX];exact hl,vs,_,rv,ha⟩
   .have z':=(Ar hb).symm.trans z;cases z'
  .by_cases hb:b=a
   .exact hb
   .exact absurd (Ar hb) z
noncomputable abbrev KOf{K:Fg}{h:AD}(_:K.In h):Fg:=K
theorem walk_of{l:FP}{n:Ae}{q:AM}{loose:Ac Ah}{XP:(Ah->Am Aj)->AD->Prop}{YP:AY->AD->Prop}{d:DefRec}{K:K6->Fg}{CX:AY->CXT}{sp:AY->Sp}(hn:l.most=Ab n)(hn2:n<=sizeLine)(hdf:d.params.defaults=[])(hr:Room k Hb)(hY:∀(w:AY)(h:AD),YP w h->(K w.params).In h)(F:∀(w:AY)(mg:Ah->Am Aj)(fa:Ak)(h:AD),(K w.params).In h->h.Ns Bc mg->mg d.name=Ab (.ref fa) ->
   ∃ fd:BQ,(∀(s:Ap)(u:Aj),GE s fd ⟨[u],[]⟩ [(x,u)]) /\
    ∀ base:AD,(K w.params).In base->base.Ns Bc mg->FnOk l.prog w (K w.params) mg base (CX w) k fa fd [x] (sp w))(hsp:∀(w:AY)(H:Hp)(a:Ak)(ns:Ac Ag),ns.length<=n->PQ H->SqL (K w.params) H a (ns.map V.int)->sp w [.ref a] H (λv _=>v=.bl Aa) λ_ _ _=>A5)(hCX:∀(w:AY)(H:Hp)(s:Ap)(e:Aj)(s':Ap),CX w [] H s (λ_ _ _=>A5) e s'->A5):W1 q loose XP YP l.row.toRowW d [] (λf vs=>J6 f vs):=by
 refine Att.attach_call hn hdf λw s₀ s₁ mg mb fa o pm cd doc a vs ns G Y_ ho hd hcd hmg hobj hints hlen hg=>?_
 have KX:=hY w _ Y_;obtain⟨fd,hb,hF⟩:=F w mg fa _ KX G.T.g hmg;exact Zx KX G.T.g G.T.b G.T.builtins G.T.nolimit hg hobj hints (B5 hlen hn2) hr hF hb (λH hO hS=>hsp w H a ns hlen hO hS) λH e s'=>hCX w H s₁ e s'
end L2
/- THE LAST THEOREM (shape;LID,My.* are yours):
   My.Adr:a structure of the addresses that your layer names (classes,functions);My.Txt K t:a structure (Prop) of the equations over K;
   My.txt_mk:{K} {implicit addresses ..} (e1:nsIn K Bc "law" = Ab (Ab (.ref f))) (e2:K.lookup f=Ab ⟨oc,od,.func (fnOf "law" "law" params body scope dV kV doc pm an cdv ct),sl⟩) (e3:codeIn K cdv "law" = Aa) ..:∃ t,My.Txt K t
set_option maxRecDepth 100000 in
set_option maxHeartbeats 0 in
theorem PySem.Challenge.cw_LID_holds:PySem.Challenge.rw_LID.Holds:=by
 w_on;o_law;k_head;(case hw=>w_witness2)
 k_fill
 refine L2.walk_of (l:=PySem.Challenge.rw_LID) (n:=63) (k:=40) (x := "script") (CX:=λw=>..) (sp:=λ_=>My.sp_law) rfl (by decide) rfl ⟨rfl,by decide,by decide⟩ (λw h Y_=>W5 Y_) ?F ?S ?C
 case F=>
  intro w mg fa h KX G hmg;have T:∃ t,My.Txt (L2.KOf KX) t:=by
   dsimp only[L2.KOf]                          -- K must stand as «<heap const> w.params» for k_is
   refine' My.txt_mk ?e1 ?e2 ?e3 ..
   (case e1=>PySem.W.k_is)                    -- in the order: a name -> its address -> its object -> its parts
   (case e2=>PySem.W.k_is)
   ..
  obtain⟨t,T⟩:=T;have e0:=hmg.symm.trans (Dx KX G T.law);cases e0                                       -- fa is the law's own address
  exact⟨_,fun s u=>.of_eq rfl,fun base kb nb=>My.law_fn T kb nb⟩     -- if «.of_eq rfl» comes too early: refine' ⟨_,?b,fun base kb nb=>My.law_fn T kb nb⟩;exact fun s u=>.of_eq rfl
 case S=>exact λw H a ns hl hO hS=>..
 case C=>exact ..
(the tactic k_is has no namespace:write k_is) -/
namespace L2
open PySem PySem.Spec PyProof.Rows
noncomputable def JM(s:AZ):Arguments:=match s with
  |.FunctionDef _ a _ _ _ _ _ _ _ _=>a
  |_=>{posonlyargs:=[],args:=[],vararg:=Af,kwonlyargs:=[],kw_defaults:=[],kwarg:=Af,defaults:=[]}
noncomputable def HM(s:AZ):Ac AZ:=match s with
  |.FunctionDef _ _ b _ _ _ _ _ _ _=>b
  |_=>[]
noncomputable def Go(s:AZ):BY:=match s with
  |.FunctionDef _ _ _ _ _ _ sc _ _ _=>sc
  |_=>{kind:=.function,names:=[],isGenerator:=Ad,isCoroutine:=Ad}
noncomputable abbrev CX0:CXT:=λ_ _ _ _ _ _=>A5
noncomputable abbrev E0:XK:=λ_ _ _=>A5
structure Fun (K:Fg) (x qual:Ah) (st:AZ) (f:Ak) (fd:BQ):Prop where
 ex:∃(oc:Aj)(od:Am Ak)(kV doc pm:Aj)(an:Am Ak)(cdv ct:Aj)(osl:Ax (Am Aj)),
  fd=DP x qual (JM st) (HM st) (Go st) .none kV doc pm an cdv ct/\K.lookup f=Ab ⟨oc,od,.func fd,osl⟩/\Fs K cdv qual=Aa
 kp:Co K (.ref f)=Aa
section
variable{P:AM}{w:AY}{K:Fg}{mg:Ah->Am Aj}{base:AD}
theorem Fun.ok{x qual:Ah}{st:AZ}{f:Ak}{fd:BQ}{N ps:Ac Ah}{k:Ae}{sp:Sp}(F:Fun K x qual st f fd)(S:FnScope N ps (Go st))(len:∀ vs H Q E,sp vs H Q E->vs.length=ps.length)(hbody:∀(cdv:Aj)(A:AT)(outer:Ac Cr)(s:Ap)(H:Hp)(vs:Ac V)(Q:VK)(E:XK),Room k (A.deeper (EZ qual (Go st) s.heap.objs.size f cdv))->sp vs H Q E ->
   ∃ t,PSs (GK CX0 P w K mg base N qual (Go st) f cdv A outer s H E).nox (HM st) t/\t {nx:=λ_ H'=>Q .non H',rt:=Q} (start N vs) H):FnOk P w K mg base CX0 (k+1) f fd ps sp:=by
 obtain⟨oc,od,kV,doc,pm,an,cdv,ct,osl,rfl,lk,hcd⟩:=F.ex;refine Uh lk hcd S len λA outer s H vs Q E hr hsp=>?_
 obtain⟨t,h,q⟩:=hbody cdv A outer s H vs Q E hr hsp;exact⟨t,h.nox,q⟩
theorem Fun.binds{x qual:Ah}{st:AZ}{f:Ak}{fd:BQ}{ps:Ac Ah}(F:Fun K x qual st f fd)(h:∀(kV doc pm:Aj)(an:Am Ak)(cdv ct:Aj)(us:Ac Aj),us.length=ps.length->K9 (DP x qual (JM st) (HM st) (Go st) .none kV doc pm an cdv ct) ⟨us,[]⟩=pure (ps.zip us)):G1 K fd ps []:=by
 obtain⟨oc,od,kV,doc,pm,an,cdv,ct,osl,rfl,lk,hcd⟩:=F.ex;exact .all (h kV doc pm an cdv ct)
theorem kY{x qual:Ah}{st:AZ}{f:Ak}{oc:Aj}{od an:Am Ak}{osl:Ax (Am Aj)}{kV doc pm cdv ct:Aj}(l:K.lookup f=Ab ⟨oc,od,.func (DP x qual (JM st) (HM st) (Go st) .none kV doc pm an cdv ct),osl⟩)(c:Fs K cdv qual=Aa)(k:Co K (.ref f)=Aa):Fun K x qual st f (DP x qual (JM st) (HM st) (Go st) .none kV doc pm an cdv ct):=⟨⟨oc,od,kV,doc,pm,an,cdv,ct,osl,rfl,l,c⟩,k⟩
end
section
variable{X:Cx}
end
def AG(H H':Hp):Prop:=∀ b o,H b=Ab o->H' b=Ab o
theorem AG.refl(H:Hp):AG H H:=λ_ _ h=>h
theorem AG.trans{H H1 H2:Hp}(a:AG H H1)(b:AG H1 H2):AG H H2:=λc o h=>b c o (a c o h)
theorem AG.free{H H':Hp}(e:AG H H'){l:Ak}(h:H' l=Af):H l=Af:=by
 cases q:H l with
 |none=>rfl
 |some o=>
  rw[e l o q]at h;cases h
end L2
section
namespace Ov
open PySem
variable{α β:Type}
inductive D where
 |non|bl (b:Ai)|int (i:Ag)|str (x:Ah)|tup (ds:Ac D)|lst (ds:Ac D)
 |obj (c:Ae) (fs:Ac (Ah×D))|exc (c:Ae) (fs:Ac (Ah×D))|dic (kvs:Ac (Ac Ag×D))
 deriving Inhabited
structure Ex where
 c:Ae
 fs:Ac (Ah×D)
 deriving Inhabited
inductive R (α:Type) where
 |ok (a:α)|exn (x:Ex)|bad
 deriving Inhabited
noncomputable def R.bind{α β:Type}(r:R α)(f:α->R β):R β:=match r with
  |.ok a=>f a
  |.exn x=>.exn x
  |.bad=>.bad
@[simp]theorem R.bind_ok(a:α)(f:α->R β):(R.ok a).bind f=f a:=rfl
@[simp]theorem R.bind_exn(x:Ex)(f:α->R β):(R.exn x:R α).bind f=.exn x:=rfl
@[simp]theorem R.bind_bad(f:α->R β):(R.bad:R α).bind f=.bad:=rfl
theorem R.bind_assoc{γ:Type}(r:R α)(f:α->R β)(g:β->R γ):(r.bind f).bind g=r.bind λa=>(f a).bind g:=by cases r<;>rfl
noncomputable def BD(n:Ae):Ai:=Ga n 1000000
noncomputable def FJ(i j:Ag):Ai:=(decide (-(18446744073709551616:Ag)<i)&&decide (i<18446744073709551616))||(decide (-(18446744073709551616:Ag)<j)&&decide (j<18446744073709551616))
noncomputable def Nb(i j:Ag):Ai:=decide (i.natAbs<2 ^ 2000)&&decide (j.natAbs<2 ^ 2000)
noncomputable def BX:Fd->D->D->R D
 |.Add,.int i,.int j=>.ok (.int (i+j))
 |.Sub,.int i,.int j=>.ok (.int (i-j))
 |.Mult,.int i,.int j=>if (FJ i j||Nb i j)=Aa then .ok (.int (i*j)) else .bad
 |.FloorDiv,.int i,.int j=>if 0<j/\j<1073741824 then .ok (.int (i/j)) else .bad
 |.Mod,.int i,.int j=>if 0<j then .ok (.int (i%j)) else .bad
 |.Pow,.int i,.int j=>if (0<=j/\j<=1000000)/\(-(18446744073709551616:Ag)<i/\i<18446744073709551616) then .ok (.int (i ^ j.toNat)) else .bad
 |.Add,.str x,.str y=>if BD (x.length+y.length)=Aa then .ok (.str (x++y)) else .bad
 |.Add,.lst x,.lst y=>if BD (x.length+y.length)=Aa then .ok (.lst (x++y)) else .bad
 |.Add,.tup x,.tup y=>if (!x.isEmpty&&BD (x.length+y.length))=Aa then .ok (.tup (x++y)) else .bad
 |_,_,_=>.bad
noncomputable def unD:Jt->D->R D
 |.USub,.int i=>.ok (.int (-i))
 |_,_=>.bad
noncomputable def b2i(b:Ai):Ag:=if b=Aa then 1 else 0
mutual
noncomputable def eqD:D->D->Ai
 |.non,.non=>Aa
 |.bl a,.bl b=>a==b
 |.bl a,.int j=>b2i a==j
 |.int i,.bl b=>i==b2i b
 |.int i,.int j=>i==j
 |.str x,.str y=>x==y
 |.tup xs,.tup ys=>eqDs xs ys
 |.lst xs,.lst ys=>eqDs xs ys
 |_,_=>Ad
noncomputable def eqDs:Ac D->Ac D->Ai
 |[],[]=>Aa
 |x::xs,y::ys=>eqD x y&&eqDs xs ys
 |_,_=>Ad
end
noncomputable def flD:Ae->D->Ai
 |_,.non=>Aa
 |_,.bl _=>Aa
 |_,.int _=>Aa
 |_,.str _=>Aa
 |n+1,.tup xs=>xs.all (flD n)
 |n+1,.lst xs=>xs.all (flD n)
 |_,_=>Ad
noncomputable def Jq:D->Am (Ac Ag)
 |.tup ds=>keyDs ds
 |_=>Af
where keyDs:Ac D->Am (Ac Ag)
 |[]=>Ab []
 |.int i::r=>(keyDs r).map (i :: ·)
 |_=>Af
noncomputable def ltD:Ae->D->D->Ai
 |0,.int i,.int j=>decide (i<j)
 |n+1,.tup xs,.tup ys=>ltDs (ltD n) xs ys
 |_,_,_=>Ad
where ltDs (lt:D->D->Ai):Ac D->Ac D->Ai
 |[],[]=>Ad
 |[],_::_=>Aa
 |_::_,[]=>Ad
 |x::xs,y::ys=>if eqD x y=Aa then ltDs lt xs ys else lt x y
noncomputable def rkD:Ae->D->Ai
 |0,.int _=>Aa
 |n+1,.tup xs=>xs.all (rkD n)
 |_,_=>Ad
noncomputable def KW(lt:D->D->Ai)(x:D):Ac D->Ac D
 |[]=>[x]
 |y::ys=>if lt y x=Aa then y::KW lt x ys else x::y::ys
noncomputable def MQ(lt:D->D->Ai):Ac D->Ac D
 |[]=>[]
 |x::xs=>KW lt x (MQ lt xs)
noncomputable def KU:Ac D->Ai
 |[]=>Aa
 |x::xs=>xs.all (λy=>!eqD x y)&&KU xs
noncomputable def Gp(xs:Ac D):R (Ac D):=if (xs.all (λd=>rkD 1 d && !eqD d (.tup []))&&KU xs&&decide (xs.length<=1000))=Aa then .ok (MQ (ltD 1) xs) else .bad
noncomputable def BK:Do->D->D->R D
  |.Eq,x,y=>if (flD 5 x&&flD 5 y)=Aa then .ok (.bl (eqD x y)) else .bad
  |.NotEq,x,y=>if (flD 5 x&&flD 5 y)=Aa then .ok (.bl (!eqD x y)) else .bad
  |.Lt,.int i,.int j=>.ok (.bl (decide (i<j)))
  |.LtE,.int i,.int j=>.ok (.bl (decide (i<=j)))
  |.Gt,.int i,.int j=>.ok (.bl (decide (j<i)))
  |.GtE,.int i,.int j=>.ok (.bl (decide (j<=i)))
  |.In,x,.lst ys=>if (flD 5 x&&ys.all (flD 5))=Aa then .ok (.bl (ys.any λy=>eqD y x)) else .bad
  |.In,x,.dic kvs=>match Jq x with
    |some k=>.ok (.bl (kvs.any λp=>p.1==k))
    |none=>.bad
  |.In,x,.tup ys=>if (flD 5 x&&ys.all (flD 5))=Aa then .ok (.bl (ys.any λy=>eqD y x)) else .bad
  |.NotIn,x,.lst ys=>if (flD 5 x&&ys.all (flD 5))=Aa then .ok (.bl (!ys.any λy=>eqD y x)) else .bad
  |.NotIn,x,.tup ys=>if (flD 5 x&&ys.all (flD 5))=Aa then .ok (.bl (!ys.any λy=>eqD y x)) else .bad
  |.NotIn,.str x,.str y=>.ok (.bl (!(!(EJ y x 0 y.length 1).isEmpty)))
  |.Is,.non,.non=>.ok (.bl Aa)
  |.Is,.bl _,.non=>.ok (.bl Ad)
  |.Is,.int _,.non=>.ok (.bl Ad)
  |.Is,.str _,.non=>.ok (.bl Ad)
  |.Is,.tup _,.non=>.ok (.bl Ad)
  |.Is,.lst _,.non=>.ok (.bl Ad)
  |.Is,.obj _ _,.non=>.ok (.bl Ad)
  |.Is,.bl a,.bl b=>.ok (.bl (a==b))
  |.IsNot,.bl a,.bl b=>.ok (.bl (!(a==b)))
  |.IsNot,.non,.non=>.ok (.bl Ad)
  |.IsNot,.bl _,.non=>.ok (.bl Aa)
  |.IsNot,.int _,.non=>.ok (.bl Aa)
  |.IsNot,.str _,.non=>.ok (.bl Aa)
  |.IsNot,.tup _,.non=>.ok (.bl Aa)
  |.IsNot,.lst _,.non=>.ok (.bl Aa)
  |.IsNot,.obj _ _,.non=>.ok (.bl Aa)
  |_,_,_=>.bad
noncomputable def BU:D->R Ai
 |.non=>.ok Ad
 |.bl b=>.ok b
 |.int i=>.ok (i != 0)
 |.str x=>if BD x.length=Aa then .ok (x.length != 0) else .bad
 |.tup xs=>.ok (!xs.isEmpty)
 |.lst xs=>.ok (!xs.isEmpty)
 |_=>.bad
noncomputable def plD(n:Ae)(i:Ag):Am Ae:=if 0<=i then (if i<n then Ab i.toNat else Af) else if -(n:Ag)<=i then Ab (i+n).toNat else Af
noncomputable def CH(xs:Ac D)(i:Ag):R D:=match plD xs.length i with
  |some k=>match xs[k]? with
    |some d=>.ok d
    |none=>.bad
  |none=>.bad
noncomputable def O1(kvs:Ac (Ac Ag×D))(k:Ac Ag):Am D:=(kvs.find? λp=>p.1==k).map (·.2)
noncomputable def Td(kvs:Ac (Ac Ag×D))(k:Ac Ag)(v:D):Ac (Ac Ag×D):=if (kvs.any λp=>p.1==k)=Aa then kvs.map (λp=>if (p.1==k)=Aa then (k,v) else p) else kvs++[(k,v)]
noncomputable def IL(x:Ah):Ac D:=x.cps.toList.map λc=>.str ⟨#[c]⟩
noncomputable def Hv:D->D->R D
  |.str x,.int i=>if BD x.length=Aa then CH (IL x) i else .bad
  |.lst xs,.int i=>CH xs i
  |.tup xs,.int i=>CH xs i
  |.dic kvs,k=>match (Jq k).bind (O1 kvs) with
    |some d=>.ok d
    |none=>.bad
  |_,_=>.bad
noncomputable def DR:D->R Ag
 |.int i=>.ok i
 |_=>.bad
noncomputable def DX:D->R Ai
 |.bl b=>.ok b
 |_=>.bad
noncomputable def DW:D->R (Ac D)
 |.lst xs=>.ok xs
 |.tup xs=>.ok xs
 |_=>.bad
noncomputable def Jj:D->R (Ac D)
 |.lst xs=>.ok xs
 |_=>.bad
inductive BI where
 |len|abs|max|min|int|list|tuple|all|any|sum|sorted|str|count|stp|lset|tmin|tmax|tlt|rvs|sjoin
 deriving DecidableEq,Inhabited
inductive Ki where
 |int|bool|str|list|tuple|verr|cls (c:Ae)
 deriving DecidableEq,Inhabited
mutual
inductive E where
 |non|bl (b:Ai)|int (i:Ag)|str (x:Ah)
 |var (i:Ae)|glob (g:Ae)
 |bin (op:Fd) (a b:E)|un (op:Jt) (a:E)|no (a:E)
 |and (es:Es)|or (es:Es)
 |cmp (op:Do) (a b:E)|cmp2 (op op':Do) (a b c:E)
 |ite (c a b:E)
 |call (f:Ae) (as:Es)|bi (b:BI) (as:Es)
 |isi (a:E) (ks:Ac Ki)
 |idx (a i:E)|sl (a lo hi:E)
 |tup (es:Es)|lst (es:Es)
 |comp (elt:E) (t:Ae) (it:I) (c:E)|compT (elt:E) (ts:Ac Ae) (it:I) (c:E)|tupI (it:I)|dnew
 |fld (o:E) (f:Ah)
inductive Es where
 |nil|cons (e:E) (es:Es)
inductive I where
 |e (a:E)|rng (a:E)|rng2 (a b:E)|rng3 (a b c:E)|zip (a b:E)|zip3 (a b c:E)|enm (a:E)
end
abbrev Sl:=Am (D×Ai)
abbrev Rho:=Ac Sl
structure Gam where
 F:Ae->Ac D->R D
 G:Ae->D
 up:Ae->Ac Ae
 /-- the defs whose answer is a new list -/
 fr:Ae->Ai
 /-- what is raised: the class,what it is made of -/
 xn:Ae->Ac D->R Ex
noncomputable def Dt(lo:Ag)(n:Ae):Ac D:=(A8 n).map fun(k:Ae)=>D.int (lo+(k:Ag))
noncomputable def Dj(lo hi:Ag):R (Ac D):=if (-(4611686018427387904:Ag)<=lo/\lo<4611686018427387904)/\(-(4611686018427387904:Ag)<=hi/\hi<4611686018427387904)/\hi-lo<1000000 then .ok (Dt lo (hi-lo).toNat) else .bad
noncomputable def Gw(lo:Ag)(n:Ae):Ac D:=(A8 n).map fun(k:Ae)=>D.int (lo-(k:Ag))
noncomputable def GW(lo hi c:Ag):R (Ac D):=if c=-1/\(-(4611686018427387904:Ag)<=lo/\lo<4611686018427387904)/\(-(4611686018427387904:Ag)<=hi/\hi<4611686018427387904)/\lo-hi<1000000 then .ok (Gw lo (lo-hi).toNat) else .bad
noncomputable def Jl(x:Ah):Ac D:=x.cps.toList.map λc=>D.str ⟨#[c]⟩
noncomputable def asZ:D->R (Ac D)
 |.str x=>if x.cps.all (· < 128)=Aa then .ok (Jl x) else .bad
 |d=>DW d
noncomputable def kiD(up:Ae->Ac Ae):Ki->D->Ai
 |.int,.int _=>Aa
 |.int,.bl _=>Aa
 |.bool,.bl _=>Aa
 |.str,.str _=>Aa
 |.list,.lst _=>Aa
 |.tuple,.tup _=>Aa
 |.cls c,.obj k _=>(up k).contains c
 |.cls c,.exc k _=>(up k).contains c
 |.verr,.exc _ _=>Aa
 |_,_=>Ad
noncomputable def Ew:Ki->Ai
 |.cls _=>Aa
 |.verr=>Aa
 |_=>Ad
noncomputable def EI(up:Ae->Ac Ae)(ks:Ac Ki)(x:D):R D:=match x with
  |.obj _ _=>.bad
  |.exc _ _=>if ks.all Ew=Aa then .ok (.bl (ks.any λk=>kiD up k x)) else .bad
  |.dic _=>.bad
  |_=>if ks.any Ew=Aa then .bad else .ok (.bl (ks.any λk=>kiD up k x))
noncomputable def F7:D->R Ai
 |.non=>.ok Ad
 |.bl b=>.ok b
 |.int i=>.ok (i != 0)
 |_=>.bad
noncomputable def F4:Ac D->R Ai
 |[]=>.ok Aa
 |x::r=>(F7 x).bind λb=>(F4 r).bind λc=>.ok (b&&c)
noncomputable def Jk:Ac D->R Ai
 |[]=>.ok Ad
 |x::r=>(F7 x).bind λb=>(Jk r).bind λc=>.ok (b||c)
noncomputable def LQ:Ag->Ac D->R Ag
 |a,[]=>.ok a
 |a,.int i::r=>LQ (a+i) r
 |_,_=>.bad
noncomputable def DG:Ac D->Ac D->Ac D
 |x::xs,y::ys=>.tup [x,y]::DG xs ys
 |_,_=>[]
noncomputable def TF:Ac D->Ac D->Ac D->Ac D
 |x::xs,y::ys,z::zs=>.tup [x,y,z]::TF xs ys zs
 |_,_,_=>[]
noncomputable def TD(x y z:D):R (Ac D):=(DW x).bind λxs=>(DW y).bind λys=>(DW z).bind λzs=>if 0<xs.length/\xs.length<=1000/\ys.length=xs.length/\zs.length=xs.length then .ok (TF xs ys zs) else .bad
noncomputable def PU:Ag->Ac D->Ac D
 |_,[]=>[]
 |i,x::xs=>.tup [.int i,x]::PU (i+1) xs
noncomputable def nlD:Ae->D->Ai
 |_,.non=>Aa
 |_,.bl _=>Aa
 |_,.int _=>Aa
 |_,.str _=>Aa
 |n+1,.tup xs=>xs.all (nlD n)
 |_,_=>Ad
noncomputable def FN(fr:Ai):D->Ai
 |.lst ds=>fr&&ds.all (nlD 5)
 |d=>nlD 5 d
noncomputable def MZ:Ac D->Am (Ac Ag)
 |[]=>Ab []
 |.int i::r=>(MZ r).map (i :: ·)
 |_=>Af
noncomputable def Uv(i:Ag):Ac Ag->Ag
 |[]=>i
 |j::r=>Uv (if j<i then j else i) r
noncomputable def pk2(k n:Ae):Ac Ae:=(A8 ((n-min k n+1)/2)).map λj=>min k n+2*j
noncomputable def UD(k:Ae)(xs:Ac D):Ac D:=(pk2 k xs.length).filterMap λi=>xs[i]?
noncomputable def ddS(acc:Ac Ag)(x:Ag):Ac Ag:=if acc.any (· == x)=Aa then acc else acc++[x]
noncomputable def ddN(is:Ac Ag):Ae:=(is.foldl ddS []).length
noncomputable def TZ(xs:Ac D):R D:=match MZ xs with
  |some is=>if Ga is.length 4000=Aa then .ok (.int (ddN is)) else .bad
  |none=>.bad
noncomputable def mmD(mx:Ai)(x y:D):R D:=if [x,y].all (λd=>rkD 1 d && !eqD d (.tup []))=Aa then .ok (if (if mx=Aa then ltD 1 x y else ltD 1 y x)=Aa then y else x) else .bad
noncomputable def Uz(x y:D):R D:=if [x,y].all (λd=>rkD 1 d && !eqD d (.tup []))=Aa then .ok (.bl (ltD 1 x y)) else .bad
noncomputable def qQ(k:Ac Ag):Ag:=reduceHash (Builtin.Tuple.tupleHashOf (k.map hashInt))
noncomputable def T2:Ac D->Am (Ac (Ac Ag))
 |[]=>Ab []
 |.tup xs::r=>(MZ xs).bind λk=>(T2 r).map (k :: ·)
 |_=>Af
noncomputable def Ui:Ac Ag->Ai
 |[]=>Aa
 |h::r=>!r.contains h&&Ui r
noncomputable def oD(xs:Ac D):R D:=match T2 xs with
  |some ks=>if (Ga ks.length 3&&Ui (ks.map qQ))=Aa then .ok (.int ks.length) else .bad
  |none=>.bad
noncomputable def Jh:Ac D->Am (Ac Ah)
 |[]=>Ab []
 |.str x::r=>(Jh r).map (x :: ·)
 |_=>Af
noncomputable def Lx(s:Ah)(xs:Ac D):R D:=match Jh xs with
  |some ss=>if IY s ss=Aa then .ok (.str (K8 s ss)) else .bad
  |none=>.bad
noncomputable def Fm(x:Ah)(l h:Am Ag):Ah:=if ((DO l h 1 x.length).length==x.length)=Aa then x else ⟨((DO l h 1 x.length).filterMap (x.cps[·]?)).toArray⟩
noncomputable def biD:BI->Ac D->R D
  |.len,[.lst xs]=>.ok (.int xs.length)
  |.len,[.tup xs]=>.ok (.int xs.length)
  |.len,[.str x]=>if BD x.length=Aa then .ok (.int x.length) else .bad
  |.abs,[.int i]=>.ok (.int (if i<0 then -i else i))
  |.max,[.int i,.int j]=>.ok (.int (if i<j then j else i))
  |.min,[.int i,.int j]=>.ok (.int (if j<i then j else i))
  |.min,[.lst xs]=>match MZ xs with
    |some (i::is)=>.ok (.int (Uv i is))
    |_=>.bad
  |.int,[.int i]=>.ok (.int i)
  |.int,[.bl b]=>.ok (.int (b2i b))
  |.list,[.lst xs]=>.ok (.lst xs)
  |.list,[.tup xs]=>.ok (.lst xs)
  |.tuple,[.lst xs]=>.ok (.tup xs)
  |.tuple,[.tup xs]=>.ok (.tup xs)
  |.all,[.lst xs]=>(F4 xs).bind λb=>.ok (.bl b)
  |.any,[.lst xs]=>(Jk xs).bind λb=>.ok (.bl b)
  |.any,[.tup xs]=>(Jk xs).bind λb=>.ok (.bl b)
  |.sum,[.lst xs]=>(LQ 0 xs).bind λi=>.ok (.int i)
  |.sum,[.tup xs]=>(LQ 0 xs).bind λi=>.ok (.int i)
  |.sorted,[.lst xs]=>(Gp xs).bind λys=>.ok (.lst ys)
  |.count,[.lst xs,x]=>if (flD 5 x&&xs.all (flD 5))=Aa then .ok (.int ((xs.filter λy=>eqD y x).length:Ae)) else .bad
  |.len,[.dic kvs]=>.ok (.int kvs.length)
  |.stp,[.lst xs,.int k]=>.ok (.lst (UD k.toNat xs))
  |.lset,[.lst xs]=>TZ xs
  |.lset,[.tup xs]=>oD xs
  |.sjoin,[.str s,.lst xs]=>Lx s xs
  |.tmin,[x,y]=>mmD Ad x y
  |.tmax,[x,y]=>mmD Aa x y
  |.tlt,[x,y]=>Uz x y
  |.rvs,[.lst xs]=>.ok (.lst xs.reverse)
  |_,_=>.bad
noncomputable def slE(c:E)(d:D):R (Am Ag):=match c with
  |.non=>.ok Af
  |_=>(DR d).bind λi=>.ok (Ab i)
noncomputable def IJ(n d:Ae):Am Ag->Ae
 |none=>d
 |some i=>if i<0 then (i+n).toNat else min i.toNat n
noncomputable def Ev(xs:Ac D)(lo hi:Am Ag):Ac D:=(xs.drop (IJ xs.length 0 lo)).take (IJ xs.length xs.length hi-IJ xs.length 0 lo)
noncomputable def slD:D->Am Ag->Am Ag->R D
 |.lst xs,l,h=>.ok (.lst (Ev xs l h))
 |.tup xs,l,h=>if (IJ xs.length 0 l==0&&IJ xs.length xs.length h==xs.length)=Aa then .bad else .ok (.tup (Ev xs l h))
 |.str x,l,h=>if (BD x.length&&BD (Fm x l h).length)=Aa then .ok (.str (Fm x l h)) else .bad
 |_,_,_=>.bad
noncomputable def Nl:D->Ah->R D
  |.exc _ fs,f=>match fs.lookup f with
    |some d=>.ok d
    |none=>.bad
  |_,_=>.bad
noncomputable def FL(U:Rho)(i:Ae):R D:=match U[i]? with
  |some (Ab (d,Ad))=>.ok d
  |_=>.bad
noncomputable def Eb(U:Rho)(i:Ae):R D:=match U[i]? with
  |some (Ab (d,_))=>.ok d
  |_=>.bad
noncomputable def shE(U:Rho):E->Ai
  | .var i=>(match U[i]? with
    |some (Ab (_,Aa))=>Ad
    | _=>Aa)
  |_=>Aa
noncomputable def HY(U:Rho):Es->Ai
 |.nil=>Aa
 |.cons e es=>shE U e&&HY U es
noncomputable def GY:Ac Ae->Ac D->Rho->Am Rho
 |[],[],U=>Ab U
 |t::ts,d::ds,U=>GY ts ds (U.set t (Ab (d,Ad)))
 |_,_,_=>Af
noncomputable def Fi(ts:Ac Ae)(d:D)(U:Rho):R Rho:=match d with
  | .tup xs=>(match GY ts xs U with
    |some U'=>.ok U'
    | none=>.bad)
  |_=>.bad
noncomputable def Nc(ts:Ac Ae)(d:D)(U:Rho):R Rho:=match d with
  | .lst xs=>(match GY ts xs U with
    |some U'=>.ok U'
    | none=>.bad)
  |d=>Fi ts d U
noncomputable def Ch(g:D->R Ai)(f:D->R D):Ac D->R (Ac D)
 |[]=>.ok []
 |x::xs=>(g x).bind λb=>if b=Aa then (f x).bind λy=>(Ch g f xs).bind λys=>.ok (y::ys) else Ch g f xs
noncomputable def noX{α:Type}:R α->R α
 |.ok a=>.ok a
 |_=>.bad
noncomputable def top(U:Rho)(e:E)(r:R D):R D:=match e with
  |.var i=>Eb U i
  |_=>r
mutual
noncomputable def evE(Z:Gam)(U:Rho):E->R D
 |.non=>.ok .non
 |.bl b=>.ok (.bl b)
 |.int i=>.ok (.int i)
 |.str x=>.ok (.str x)
 |.var i=>FL U i
 |.glob g=>.ok (Z.G g)
 |.bin op a b=>(top U a (evE Z U a)).bind λx=>(top U b (evE Z U b)).bind λy=>BX op x y
 |.un op a=>(top U a (evE Z U a)).bind λx=>unD op x
 |.no a=>(top U a (evE Z U a)).bind λx=>(DX x).bind λb=>.ok (.bl (!b))
 |.and es=>evN Z U es
 |.or es=>evO Z U es
 |.cmp op a b=>(top U a (evE Z U a)).bind λx=>(top U b (evE Z U b)).bind λy=>BK op x y
 |.cmp2 op op' a b c=>(top U a (evE Z U a)).bind λx=>(top U b (evE Z U b)).bind λy=>(BK op x y).bind λz=>(DX z).bind λk=>if k=Aa then (top U c (evE Z U c)).bind λu=>BK op' y u else .ok (.bl Ad)
 |.ite c a b=>(top U c (evE Z U c)).bind λx=>(BU x).bind λk=>if k=Aa then evE Z U a else evE Z U b
 |.call f as=>(evB Z U as).bind λxs=>(Z.F f xs).bind λd=>if HY U as=Aa then .ok d else if FN (Z.fr f) d=Aa then .ok d else .bad
 |.bi b as=>(evB Z U as).bind λxs=>biD b xs
 |.isi a ks=>(top U a (evE Z U a)).bind λx=>EI Z.up ks x
 |.idx a i=>(top U a (evE Z U a)).bind λx=>(top U i (evE Z U i)).bind λy=>Hv x y
 |.sl a lo hi=>(top U a (evE Z U a)).bind λx=>(top U lo (evE Z U lo)).bind λl=>(slE lo l).bind λl'=>(top U hi (evE Z U hi)).bind λh=>(slE hi h).bind λh'=>slD x l' h'
 |.tup es=>(evA Z U es).bind λxs=>.ok (.tup xs)
 |.lst es=>(evA Z U es).bind λxs=>.ok (.lst xs)
 |.comp elt t it c=>(evI Z U it).bind λxs=>(noX (Ch (λx=>(top (U.set t (Ab (x,Ad))) c (evE Z (U.set t (Ab (x,Ad))) c)).bind BU) (λx=>evE Z (U.set t (Ab (x,Ad))) elt) xs)).bind λys=>.ok (.lst ys)
 |.compT elt ts it c=>(evI Z U it).bind λxs=>(noX (Ch (λx=>(Fi ts x U).bind λU'=>(top U' c (evE Z U' c)).bind BU) (λx=>(Fi ts x U).bind λU'=>evE Z U' elt) xs)).bind λys=>.ok (.lst ys)
 |.tupI it=>(evI Z U it).bind λxs=>.ok (.tup xs)
 |.dnew=>.ok (.dic [])
 |.fld o f=>(top U o (evE Z U o)).bind λx=>Nl x f
noncomputable def evN(Z:Gam)(U:Rho):Es->R D
 |.nil=>.bad
 |.cons e .nil=>evE Z U e
 |.cons e (.cons e' es)=>(evE Z U e).bind λx=>(DX x).bind λc=>if c=Aa then evN Z U (.cons e' es) else .ok (.bl Ad)
noncomputable def evO(Z:Gam)(U:Rho):Es->R D
 |.nil=>.bad
 |.cons e .nil=>evE Z U e
 |.cons e (.cons e' es)=>(evE Z U e).bind λx=>(DX x).bind λc=>if c=Aa then .ok (.bl Aa) else evO Z U (.cons e' es)
noncomputable def evA(Z:Gam)(U:Rho):Es->R (Ac D)
 |.nil=>.ok []
 |.cons e es=>(evE Z U e).bind λx=>(evA Z U es).bind λxs=>.ok (x::xs)
noncomputable def evB(Z:Gam)(U:Rho):Es->R (Ac D)
 |.nil=>.ok []
 |.cons e es=>(top U e (evE Z U e)).bind λx=>(evB Z U es).bind λxs=>.ok (x::xs)
noncomputable def evI(Z:Gam)(U:Rho):I->R (Ac D)
 |.e a=>(evE Z U a).bind DW
 |.rng a=>(top U a (evE Z U a)).bind λx=>(DR x).bind λj=>Dj 0 j
 |.rng2 a b=>(top U a (evE Z U a)).bind λx=>(top U b (evE Z U b)).bind λy=>(DR x).bind λi=>(DR y).bind λj=>Dj i j
 |.rng3 a b c=>(top U a (evE Z U a)).bind λx=>(top U b (evE Z U b)).bind λy=>(top U c (evE Z U c)).bind λz=>(DR x).bind λi=>(DR y).bind λj=>(DR z).bind λk=>GW i j k
 |.zip a b=>(evE Z U a).bind λx=>(evE Z U b).bind λy=>(asZ x).bind λxs=>(DW y).bind λys=>.ok (DG xs ys)
 |.zip3 a b c=>(evE Z U a).bind λx=>(evE Z U b).bind λy=>(evE Z U c).bind λz=>TD x y z
 |.enm a=>(evE Z U a).bind λx=>(DW x).bind λxs=>.ok (PU 0 xs)
end
noncomputable def Cb(Z:Gam):E->Ai
 |.lst _=>Aa
 |.comp _ _ _ _=>Aa
 |.compT _ _ _ _=>Aa
 |.dnew=>Aa
 |.bin .Add _ _=>Aa
 |.bi .list _=>Aa
 |.bi .sorted _=>Aa
 |.sl _ _ _=>Aa
 |.call f _=>Z.fr f
 |_=>Ad
mutual
inductive S where
 |pass
 /-- x=e;fresh: x alone holds the new list -/
 |asg (i:Ae) (fresh:Ai) (e:E)
 /-- a,b,..=e -/
 |asgT (ts:Ac Ae) (e:E)
 |expr (e:E)
 |ret (e:E)|retN
 |ife (c:E) (a b:Ss)
 |fors (t:Ae) (it:I) (body:Ss)
 |forT (ts:Ac Ae) (it:I) (body:Ss)
 |whl (c:E) (body:Ss)
 /-- raise C(e,..) -/
 |rais (c:Ae) (as:Es)
 /-- try: body except C as x: h -/
 |tryx (body:Ss) (c:Ae) (x:Ae) (h:Ss)
 /-- .. except C as x: h,except C' as x: h',else: els -/
 |try2 (body:Ss) (c:Ae) (x:Ae) (h:Ss) (c':Ae) (h' els:Ss)
 /-- x.append(e),x.extend(e),x.insert(k,e),x.reverse(),x.clear() -/
 |app (i:Ae) (e:E)|ext (i:Ae) (e:E)|ins (i:Ae) (k e:E)|rev (i:Ae)|clr (i:Ae)
 /-- d[k]=e,d.setdefault(k,e) -/
 |dput (i:Ae) (k e:E)|dsd (i:Ae) (k e:E)
 /-- x[k]=e -/
 |put (i:Ae) (k e:E)
 /-- x[k],x[l]=x[l],x[k] -/
 |swp (i k l:Ae)
 /-- x.append(y.pop(e)) -/
 |apop (j i:Ae) (e:E)
 |brk|cont
 /-- nothing: from here on x is no longer changed -/
 |rel (i:Ae)
inductive Ss where
 |nil|cons (s:S) (ss:Ss)
end
inductive O where
 |next (U:Rho)|ret (d:D) (fr:Ai)|brk (U:Rho)|cont (U:Rho)|exn (x:Ex) (U:Rho)|bad
 deriving Inhabited
noncomputable def O.of{α:Type}(U:Rho)(r:R α)(f:α->O):O:=match r with
  |.ok a=>f a
  |.exn x=>.exn x U
  |.bad=>.bad
@[simp]theorem O.of_ok(U:Rho)(a:α)(f:α->O):O.of U (.ok a) f=f a:=rfl
@[simp]theorem O.of_exn(U:Rho)(x:Ex)(f:α->O):O.of U (.exn x:R α) f=.exn x U:=rfl
@[simp]theorem O.of_bad(U:Rho)(f:α->O):O.of U (.bad:R α) f=.bad:=rfl
noncomputable def G3(Z:Gam)(U:Rho)(i:I):R (Ac D):=evI Z U i
noncomputable def Cj(U:Rho)(i:Ae):R (Ac D):=match U[i]? with
  |some (Ab (.lst xs,Aa))=>.ok xs
  |_=>.bad
noncomputable def Ur(U:Rho)(i:Ae):R (Ac (Ac Ag×D)):=match U[i]? with
  |some (Ab (.dic xs,Aa))=>.ok xs
  |_=>.bad
noncomputable def T7(d:D):R (Ac Ag):=match Jq d with
  |some k=>.ok k
  |none=>.bad
noncomputable def Ud:Ae:=4096
noncomputable def O.seq(o:O)(f:Rho->O):O:=match o with
  |.next U=>f U
  |.ret d b=>.ret d b
  |.brk U=>.brk U
  |.cont U=>.cont U
  |.exn x U=>.exn x U
  |.bad=>.bad
noncomputable def O.turn(o:O)(f:Rho->O):O:=match o with
  |.next U=>f U
  |.cont U=>f U
  |.brk U=>.next U
  |.ret d b=>.ret d b
  |.exn x U=>.exn x U
  |.bad=>.bad
noncomputable def BN(body:D->Rho->O):Ac D->Rho->O
 |[],U=>.next U
 |x::xs,U=>(body x U).turn (BN body xs)
noncomputable def Pu(c:Rho->R Ai)(body:Rho->O):Ae->Rho->O
 |0,_=>.bad
 |n+1,U=>O.of U (c U) λb=>if b=Aa then (body U).turn (Pu c body n) else .next U
noncomputable def TR(U:Rho)(k:Ae):R Ag:=(FL U k).bind DR
noncomputable def qF(U:Rho)(d:D)(i k l:Ae):O:=match d with
  |.tup [x,y]=>O.of U (Cj U i) λxs=>O.of U (TR U k) λa=>O.of U (TR U l) λb=>match plD xs.length a,plD xs.length b with
    |some m,Ab n=>.next (U.set i (Ab (.lst ((xs.set m x).set n y),Aa)))
    |_,_=>.bad
  |_=>.bad
noncomputable def apD(U:Rho)(j i:Ae)(ys xs:Ac D)(n:Ag):O:=match plD xs.length n with
  | some m=>(match xs[m]? with
    |some d=>if (j != i&&(BD xs.length&&BD (ys.length+1)))=Aa then .next ((U.set i (Ab (.lst (xs.eraseIdx m),Aa))).set j (Ab (.lst (ys++[d]),Aa))) else .bad
    | none=>.bad)
  |none=>.bad
noncomputable def hdO(i:Ae)(y:Ex)(U':Rho)(fh:Rho->O):O:=match fh (U'.set i (Ab (.exc y.c y.fs,Ad))) with
  |.next U''=>.next (U''.set i Af)
  |.ret d f=>.ret d f
  |_=>.bad
mutual
noncomputable def evS(Z:Gam)(U:Rho):S->O
  |.pass=>.next U
  | .asg i fresh e=>O.of U (evE Z U e) λd=>if fresh=Aa then (if Cb Z e=Aa then (match d with
      |.lst xs=>.next (U.set i (Ab (.lst xs,Aa)))
      |.dic xs=>.next (U.set i (Ab (.dic xs,Aa)))
      | _=>.bad) else .bad) else .next (U.set i (Ab (d,Ad)))
  |.asgT ts e=>O.of U (evE Z U e) λd=>O.of U (Nc ts d U) λU'=>.next U'
  |.expr e=>O.of U (evE Z U e) λ_=>.next U
  |.ret e=>O.of U (top U e (evE Z U e)) λd=>.ret d (Cb Z e||(match e with | .var i=>(match U[i]? with|some (Ab (_,o))=>o|_=>Ad)|_=>Ad))
  |.retN=>.ret .non Ad
  |.ife c a b=>O.of U ((top U c (evE Z U c)).bind BU) λk=>if k=Aa then evSs Z U a else evSs Z U b
  |.fors t it body=>O.of U (G3 Z U it) λxs=>BN (λx U'=>evSs Z (U'.set t (Ab (x,Ad))) body) xs U
  |.forT ts it body=>O.of U (G3 Z U it) λxs=>BN (λx U'=>O.of U' (Fi ts x U') λU''=>evSs Z U'' body) xs U
  |.whl c body=>Pu (λU'=>(top U' c (evE Z U' c)).bind BU) (λU'=>evSs Z U' body) Ud U
  |.rais c as=>O.of U (noX (evA Z U as)) λxs=>O.of U (Z.xn c xs) λx=>.exn x U
  |.tryx body c x h=>match evSs Z U body with
      | .exn y U'=>if (Z.up y.c).contains c=Aa then (match evSs Z (U'.set x (Ab (.exc y.c y.fs,Ad))) h with
          |.next U''=>.next (U''.set x Af)
          |.ret d f=>.ret d f
          | _=>.bad) else .bad
      |o=>o
  |.try2 body c x h c' h' els=>match evSs Z U body with
      |.exn y U'=>if (Z.up y.c).contains c=Aa then hdO x y U' (λr=>evSs Z r h) else if (Z.up y.c).contains c'=Aa then hdO x y U' (λr=>evSs Z r h') else .bad
      |.next U'=>evSs Z U' els
      |o=>o
  |.app i e=>O.of U (Cj U i) λxs=>O.of U (evE Z U e) λd=>if BD (xs.length+1)=Aa then .next (U.set i (Ab (.lst (xs++[d]),Aa))) else .bad
  |.ext i e=>if Cb Z e=Aa then (O.of U (Cj U i) λxs=>O.of U (evE Z U e) λd=>O.of U (Jj d) λys=>if BD (xs.length+ys.length)=Aa then .next (U.set i (Ab (.lst (xs++ys),Aa))) else .bad) else .bad
  |.ins i k e=>O.of U (Cj U i) λxs=>O.of U ((top U k (evE Z U k)).bind DR) λj=>O.of U (evE Z U e) λd=>if (BD (xs.length+1)&&decide (0<=j)&&decide (j<=xs.length))=Aa then .next (U.set i (Ab (.lst (xs.take j.toNat++d::xs.drop j.toNat),Aa))) else .bad
  |.rev i=>O.of U (Cj U i) λxs=>.next (U.set i (Ab (.lst xs.reverse,Aa)))
  |.clr i=>O.of U (Cj U i) λ_=>.next (U.set i (Ab (.lst [],Aa)))
  |.dput i k e=>O.of U (evE Z U e) λd=>O.of U (Ur U i) λxs=>O.of U ((evE Z U k).bind T7) λj=>if BD (xs.length+1)=Aa then .next (U.set i (Ab (.dic (Td xs j d),Aa))) else .bad
  |.dsd i k e=>O.of U (Ur U i) λxs=>O.of U ((evE Z U k).bind T7) λj=>O.of U (evE Z U e) λd=>if BD (xs.length+1)=Aa then .next (U.set i (Ab (.dic (if (xs.any λp=>p.1==j)=Aa then xs else Td xs j d),Aa))) else .bad
  |.put i k e=>O.of U (evE Z U e) λd=>O.of U (Cj U i) λxs=>O.of U ((top U k (evE Z U k)).bind DR) λj=>match plD xs.length j with
      |some n=>.next (U.set i (Ab (.lst (xs.set n d),Aa)))
      |none=>.bad
  |.swp i k l=>O.of U (evE Z U (.tup (.cons (.idx (.var i) (.var l)) (.cons (.idx (.var i) (.var k)) .nil)))) λd=>qF U d i k l
  |.apop j i e=>O.of U (Cj U j) λys=>O.of U (Cj U i) λxs=>O.of U (evE Z U e) λd=>O.of U (DR d) λn=>apD U j i ys xs n
  |.brk=>.brk U
  |.cont=>.cont U
  |.rel i=>match U[i]? with
      |some (Ab (d,Aa))=>.next (U.set i (Ab (d,Ad)))
      |_=>.next U
noncomputable def evSs(Z:Gam)(U:Rho):Ss->O
 |.nil=>.next U
 |.cons s ss=>(evS Z U s).seq λU'=>evSs Z U' ss
end
structure Df where
 n:Ae
 fr:Ai
 body:Ss
noncomputable def CF(n:Ae)(ds:Ac D):Rho:=ds.map (λd=>Ab (d,Ad))++GD (n-ds.length) Af
noncomputable def isL:D->Ai
 |.lst _=>Aa
 |.dic _=>Aa
 |_=>Ad
noncomputable def O.ans(fr:Ai)(o:O):R D:=match o with
  |.ret d b=>if (fr&&(!b&&isL d))=Aa then .bad else .ok d
  |.next _=>if fr=Aa then .bad else .ok .non
  |.exn x _=>.exn x
  |_=>.bad
noncomputable def Df.run(Z:Gam)(f:Df)(ds:Ac D):R D:=(evSs Z (CF f.n ds) f.body).ans f.fr
structure Prg where
 xs:Ai
 defs:Ae->Df
 G:Ae->D
 up:Ae->Ac Ae
 xn:Ae->Ac D->R Ex
noncomputable def G4(xs:Ai)(r:R D):R D:=match xs with
  |true=>r
  |false=>noX r
noncomputable def gam(P:Prg):Ae->Gam
 |0=>⟨λ_ _=>.bad,P.G,P.up,λi=>(P.defs i).fr,P.xn⟩
 |n+1=>⟨λi ds=>G4 P.xs ((P.defs i).run (gam P n) ds),P.G,P.up,λi=>(P.defs i).fr,P.xn⟩
end Ov
end
section
namespace Ov
open PySem
variable{α:Type}{lo hi:Ag}{n:Ae}{x:D}
section
variable(Z:Gam)(U:Rho)
@[simp]theorem Zwu:evE Z U .non=.ok .non:=rfl
@[simp]theorem Zyd(b):evE Z U (.bl b)=.ok (.bl b):=rfl
@[simp]theorem Zwy(b):evE Z U (.int b)=.ok (.int b):=rfl
@[simp]theorem eQ(b):evE Z U (.str b)=.ok (.str b):=rfl
@[simp]theorem Zwt(i):evE Z U (.var i)=FL U i:=rfl
@[simp]theorem Zs9(i):evE Z U (.glob i)=.ok (Z.G i):=rfl
@[simp]theorem eS(op a b):evE Z U (.bin op a b)=(top U a (evE Z U a)).bind λx=>(top U b (evE Z U b)).bind λy=>BX op x y:=rfl
@[simp]theorem Zx9(op a):evE Z U (.un op a)=(top U a (evE Z U a)).bind λx=>unD op x:=rfl
@[simp]theorem Zyc(a):evE Z U (.no a)=(top U a (evE Z U a)).bind λx=>(DX x).bind λb=>.ok (.bl (!b)):=rfl
@[simp]theorem ZwB(es):evE Z U (.and es)=evN Z U es:=rfl
@[simp]theorem Zyb(es):evE Z U (.or es)=evO Z U es:=rfl
@[simp]theorem Zwp(e):evN Z U (.cons e .nil)=evE Z U e:=rfl
@[simp]theorem Zs1(e e' es):evN Z U (.cons e (.cons e' es))=(evE Z U e).bind λx=>(DX x).bind λc=>if c=Aa then evN Z U (.cons e' es) else .ok (.bl Ad):=rfl
@[simp]theorem Zwo(e):evO Z U (.cons e .nil)=evE Z U e:=rfl
@[simp]theorem Zs0(e e' es):evO Z U (.cons e (.cons e' es))=(evE Z U e).bind λx=>(DX x).bind λc=>if c=Aa then .ok (.bl Aa) else evO Z U (.cons e' es):=rfl
@[simp]theorem eR(op a b):evE Z U (.cmp op a b)=(top U a (evE Z U a)).bind λx=>(top U b (evE Z U b)).bind λy=>BK op x y:=rfl
@[simp]theorem Ztc(op op' a b c):evE Z U (.cmp2 op op' a b c)=(top U a (evE Z U a)).bind λx=>(top U b (evE Z U b)).bind λy=>(BK op x y).bind λz=>(DX z).bind λk=>if k=Aa then (top U c (evE Z U c)).bind λu=>BK op' y u else .ok (.bl Ad):=rfl
@[simp]theorem Zww(c a b):evE Z U (.ite c a b)=(top U c (evE Z U c)).bind λx=>(BU x).bind λk=>if k=Aa then evE Z U a else evE Z U b:=rfl
@[simp]theorem Ztd(f as):evE Z U (.call f as)=(evB Z U as).bind λxs=>(Z.F f xs).bind λd=>if HY U as=Aa then .ok d else if FN (Z.fr f) d=Aa then .ok d else .bad:=rfl
@[simp]theorem S9(f as):evE Z U (.bi f as)=(evB Z U as).bind λxs=>biD f xs:=rfl
@[simp]theorem Zwx(a ks):evE Z U (.isi a ks)=(top U a (evE Z U a)).bind λx=>EI Z.up ks x:=rfl
@[simp]theorem Zwz(a i):evE Z U (.idx a i)=(top U a (evE Z U a)).bind λx=>(top U i (evE Z U i)).bind λy=>Hv x y:=rfl
@[simp]theorem Zya(a lo hi):evE Z U (.sl a lo hi)=(top U a (evE Z U a)).bind λx=>(top U lo (evE Z U lo)).bind λl=>(slE lo l).bind λl'=>(top U hi (evE Z U hi)).bind λh=>(slE hi h).bind λh'=>slD x l' h':=rfl
@[simp]theorem eP(es):evE Z U (.tup es)=(evA Z U es).bind λxs=>.ok (.tup xs):=rfl
@[simp]theorem Zwv(es):evE Z U (.lst es)=(evA Z U es).bind λxs=>.ok (.lst xs):=rfl
noncomputable def cG(Z:Gam)(U:Rho)(t:Ae)(c:E):D->R Ai:=λx=>(top (U.set t (Ab (x,Ad))) c (evE Z (U.set t (Ab (x,Ad))) c)).bind BU
noncomputable def cF(Z:Gam)(U:Rho)(t:Ae)(elt:E):D->R D:=λx=>evE Z (U.set t (Ab (x,Ad))) elt
noncomputable def mkL(r:R (Ac D)):R D:=(noX r).bind λys=>.ok (.lst ys)
@[simp]theorem ZxJ(ys):mkL (.ok ys)=.ok (.lst ys):=rfl
@[simp]theorem Ztb(elt t it c):evE Z U (.comp elt t it c)=(evI Z U it).bind λxs=>mkL (Ch (cG Z U t c) (cF Z U t elt) xs):=rfl
noncomputable def cGT(Z:Gam)(U:Rho)(ts:Ac Ae)(c:E):D->R Ai:=λx=>(Fi ts x U).bind λU'=>(top U' c (evE Z U' c)).bind BU
noncomputable def cFT(Z:Gam)(U:Rho)(ts:Ac Ae)(elt:E):D->R D:=λx=>(Fi ts x U).bind λU'=>evE Z U' elt
@[simp]theorem Zru(elt ts it c):evE Z U (.compT elt ts it c)=(evI Z U it).bind λxs=>mkL (Ch (cGT Z U ts c) (cFT Z U ts elt) xs):=rfl
@[simp]theorem Zs8(it):evE Z U (.tupI it)=(evI Z U it).bind λxs=>.ok (.tup xs):=rfl
@[simp]theorem Zta:evE Z U .dnew=.ok (.dic []):=rfl
@[simp]theorem ZwA(o f):evE Z U (.fld o f)=(top U o (evE Z U o)).bind λx=>Nl x f:=rfl
@[simp]theorem ZwD:evA Z U .nil=.ok []:=rfl
@[simp]theorem Q6(e es):evA Z U (.cons e es)=(evE Z U e).bind λx=>(evA Z U es).bind λxs=>.ok (x::xs):=rfl
@[simp]theorem ZwC:evB Z U .nil=.ok []:=rfl
@[simp]theorem Oe(e es):evB Z U (.cons e es)=(top U e (evE Z U e)).bind λx=>(evB Z U es).bind λxs=>.ok (x::xs):=rfl
@[simp]theorem ZyZ(a):evI Z U (.e a)=(evE Z U a).bind DW:=rfl
@[simp]theorem Zwr(a):evI Z U (.rng a)=(top U a (evE Z U a)).bind λx=>(DR x).bind λj=>Dj 0 j:=rfl
@[simp]theorem Zs7(a b):evI Z U (.rng2 a b)=(top U a (evE Z U a)).bind λx=>(top U b (evE Z U b)).bind λy=>(DR x).bind λi=>(DR y).bind λj=>Dj i j:=rfl
@[simp]theorem Zzb(xs):asZ (.lst xs)=.ok xs:=rfl
@[simp]theorem Zza(xs):asZ (.tup xs)=.ok xs:=rfl
@[simp]theorem Zs6(a b c):evI Z U (.rng3 a b c)=(top U a (evE Z U a)).bind λx=>(top U b (evE Z U b)).bind λy=>(top U c (evE Z U c)).bind λz=>(DR x).bind λi=>(DR y).bind λj=>(DR z).bind λk=>GW i j k:=rfl
@[simp]theorem Zrs(a b c):G3 Z U (.rng3 a b c)=evI Z U (.rng3 a b c):=rfl
@[simp]theorem Zwq(a b):evI Z U (.zip a b)=(evE Z U a).bind λx=>(evE Z U b).bind λy=>(asZ x).bind λxs=>(DW y).bind λys=>.ok (DG xs ys):=rfl
@[simp]theorem Zs5(a b c):evI Z U (.zip3 a b c)=(evE Z U a).bind λx=>(evE Z U b).bind λy=>(evE Z U c).bind λz=>TD x y z:=rfl
@[simp]theorem Zws(a):evI Z U (.enm a)=(evE Z U a).bind λx=>(DW x).bind λxs=>.ok (PU 0 xs):=rfl
@[simp]theorem Zs2(a b):G3 Z U (.zip a b)=evI Z U (.zip a b):=rfl
@[simp]theorem Zrr(a b c):G3 Z U (.zip3 a b c)=evI Z U (.zip3 a b c):=rfl
@[simp]theorem Zs4(a):G3 Z U (.enm a)=evI Z U (.enm a):=rfl
@[simp]theorem Zx8(a):G3 Z U (.e a)=(evE Z U a).bind DW:=rfl
@[simp]theorem Zs3(a):G3 Z U (.rng a)=evI Z U (.rng a):=rfl
@[simp]theorem Zrt(a b):G3 Z U (.rng2 a b)=evI Z U (.rng2 a b):=rfl
variable(r:R D)
@[simp]theorem ZtG(i):top U (.var i) r=Eb U i:=rfl
@[simp]theorem ZtH:top U .non r=r:=rfl
@[simp]theorem Zxa(b):top U (.bl b) r=r:=rfl
@[simp]theorem ZtL(b):top U (.int b) r=r:=rfl
@[simp]theorem bL(b):top U (.str b) r=r:=rfl
@[simp]theorem Zsk(b):top U (.glob b) r=r:=rfl
@[simp]theorem bM(op a b):top U (.bin op a b) r=r:=rfl
@[simp]theorem Zw6(op a):top U (.un op a) r=r:=rfl
@[simp]theorem Zw9(a):top U (.no a) r=r:=rfl
@[simp]theorem ZtP(a):top U (.and a) r=r:=rfl
@[simp]theorem Zw8(a):top U (.or a) r=r:=rfl
@[simp]theorem ZtO(op a b):top U (.cmp op a b) r=r:=rfl
@[simp]theorem Zsn(op op' a b c):top U (.cmp2 op op' a b c) r=r:=rfl
@[simp]theorem ZtJ(a b c):top U (.ite a b c) r=r:=rfl
@[simp]theorem Zso(a b):top U (.call a b) r=r:=rfl
@[simp]theorem Zxb(a b):top U (.bi a b) r=r:=rfl
@[simp]theorem ZtK(a b):top U (.isi a b) r=r:=rfl
@[simp]theorem ZtM(a b):top U (.idx a b) r=r:=rfl
@[simp]theorem Zw7(a b c):top U (.sl a b c) r=r:=rfl
@[simp]theorem bK(a):top U (.tup a) r=r:=rfl
@[simp]theorem ZtI(a):top U (.lst a) r=r:=rfl
@[simp]theorem Zsm(a b c d):top U (.comp a b c d) r=r:=rfl
@[simp]theorem ZtN(a b):top U (.fld a b) r=r:=rfl
@[simp]theorem Zpi(a b c d):top U (.compT a b c d) r=r:=rfl
@[simp]theorem Zsj(a):top U (.tupI a) r=r:=rfl
@[simp]theorem Zsl:top U .dnew r=r:=rfl
end
@[simp]theorem Zo9(x:D×Ai)(U:Rho):Eb (Ab x::U) 0=.ok x.1:=rfl
@[simp]theorem Zpa(x:D)(U:Rho):FL (Ab (x,Ad)::U) 0=.ok x:=rfl
@[simp]theorem ZoO(x:Sl)(U:Rho)(i:Ae)[NeZero i]:Eb (x::U) i=Eb U (i-1):=by
 obtain⟨j,rfl⟩:∃ j,i=j+1:=⟨i-1,by have:=KY i;omega⟩
 rfl
@[simp]theorem ZoP(x:Sl)(U:Rho)(i:Ae)[NeZero i]:FL (x::U) i=FL U (i-1):=by
 obtain⟨j,rfl⟩:∃ j,i=j+1:=⟨i-1,by have:=KY i;omega⟩
 rfl
noncomputable def shV(U:Rho)(i:Ae):Ai:=match U[i]? with
    |some (Ab (_,Aa))=>Ad
    |_=>Aa
@[simp]theorem Zsr(x:D)(b:Ai)(U:Rho):shV (Ab (x,b)::U) 0=!b:=by cases b<;>rfl
@[simp]theorem ZpM(U:Rho):shV (Af::U) 0=Aa:=rfl
@[simp]theorem ZpN(x:Sl)(U:Rho)(i:Ae)[NeZero i]:shV (x::U) i=shV U (i-1):=by
 obtain⟨j,rfl⟩:∃ j,i=j+1:=⟨i-1,by have:=KY i;omega⟩
 rfl
section
variable(U:Rho)
@[simp]theorem Zui(i):shE U (.var i)=shV U i:=rfl
@[simp]theorem Zul:shE U .non=Aa:=rfl
@[simp]theorem Zxr(b):shE U (.bl b)=Aa:=rfl
@[simp]theorem Zup(b):shE U (.int b)=Aa:=rfl
@[simp]theorem Zuk(b):shE U (.str b)=Aa:=rfl
@[simp]theorem Zsu(b):shE U (.glob b)=Aa:=rfl
@[simp]theorem Zut(op a b):shE U (.bin op a b)=Aa:=rfl
@[simp]theorem Zxn(op a):shE U (.un op a)=Aa:=rfl
@[simp]theorem Zxq(a):shE U (.no a)=Aa:=rfl
@[simp]theorem Zuu(a):shE U (.and a)=Aa:=rfl
@[simp]theorem Zxp(a):shE U (.or a)=Aa:=rfl
@[simp]theorem Zus(op a b):shE U (.cmp op a b)=Aa:=rfl
@[simp]theorem Zsx(op op' a b c):shE U (.cmp2 op op' a b c)=Aa:=rfl
@[simp]theorem Zun(a b c):shE U (.ite a b c)=Aa:=rfl
@[simp]theorem Zsy(a b):shE U (.call a b)=Aa:=rfl
@[simp]theorem Zxs(a b):shE U (.bi a b)=Aa:=rfl
@[simp]theorem Zuo(a b):shE U (.isi a b)=Aa:=rfl
@[simp]theorem Zuq(a b):shE U (.idx a b)=Aa:=rfl
@[simp]theorem Zxo(a b c):shE U (.sl a b c)=Aa:=rfl
@[simp]theorem Zuj(a):shE U (.tup a)=Aa:=rfl
@[simp]theorem Zum(a):shE U (.lst a)=Aa:=rfl
@[simp]theorem Zsw(a b c d):shE U (.comp a b c d)=Aa:=rfl
@[simp]theorem ZpO(a b c d):shE U (.compT a b c d)=Aa:=rfl
@[simp]theorem Zst(a):shE U (.tupI a)=Aa:=rfl
@[simp]theorem Zsv:shE U .dnew=Aa:=rfl
@[simp]theorem Zur(a b):shE U (.fld a b)=Aa:=rfl
@[simp]theorem Zss:HY U .nil=Aa:=rfl
@[simp]theorem YF(e es):HY U (.cons e es)=(shE U e&&HY U es):=rfl
end
@[simp]theorem ZoR(U:Rho):GY [] [] U=Ab U:=rfl
@[simp]theorem ZmM(t ts d ds)(U:Rho):GY (t::ts) (d::ds) U=GY ts ds (U.set t (Ab (d,Ad))):=rfl
@[simp]theorem ZrY(ts ds)(U:Rho):Nc ts (.lst ds) U=match GY ts ds U with
  |some U'=>.ok U'
  |none=>.bad:=rfl
@[simp]theorem ZrX(ts ds)(U:Rho):Nc ts (.tup ds) U=Fi ts (.tup ds) U:=rfl
@[simp]theorem XU(ts ds)(U:Rho):Fi ts (.tup ds) U=match GY ts ds U with
  |some U'=>.ok U'
  |none=>.bad:=rfl
@[simp]theorem Ztn{β:Type}(c:Prop)[EC c](a b:R α)(f:α->R β):(if c then a else b).bind f=if c then a.bind f else b.bind f:=by split<;>rfl
@[simp]theorem ZxI(U:Rho)(c:Prop)[EC c](a b:R α)(f:α->O):O.of U (if c then a else b) f=if c then O.of U a f else O.of U b f:=by split<;>rfl
@[simp]theorem Zvx{β:Type}(U:Rho)(a:R α)(g:α->R β)(f:β->O):O.of U (a.bind g) f=O.of U a λx=>O.of U (g x) f:=by cases a<;>rfl
@[simp]theorem Zuw(c:Prop)[EC c](a b:O)(f:Rho->O):O.seq (if c then a else b) f=if c then a.seq f else b.seq f:=by split<;>rfl
@[simp]theorem Zr9(c:Prop)[EC c](a b:O)(f:Rho->O):O.turn (if c then a else b) f=if c then a.turn f else b.turn f:=by split<;>rfl
@[simp]theorem ZwX(fr:Ai)(c:Prop)[EC c](a b:O):O.ans fr (if c then a else b)=if c then a.ans fr else b.ans fr:=by split<;>rfl
@[simp]theorem Zsz(U f):O.seq (.next U) f=f U:=rfl
@[simp]theorem Zuv(d b f):O.seq (.ret d b) f=.ret d b:=rfl
@[simp]theorem Zuy(U f):O.seq (.brk U) f=.brk U:=rfl
@[simp]theorem ZsA(U f):O.seq (.cont U) f=.cont U:=rfl
@[simp]theorem Zux(x U f):O.seq (.exn x U) f=.exn x U:=rfl
@[simp]theorem Zuz(f):O.seq .bad f=.bad:=rfl
@[simp]theorem Zpe(U f):O.turn (.next U) f=f U:=rfl
@[simp]theorem Zr8(d b f):O.turn (.ret d b) f=.ret d b:=rfl
@[simp]theorem Zsb(U f):O.turn (.brk U) f=.next U:=rfl
@[simp]theorem Zpf(U f):O.turn (.cont U) f=f U:=rfl
@[simp]theorem Zsa(x U f):O.turn (.exn x U) f=.exn x U:=rfl
@[simp]theorem Zsc(f):O.turn .bad f=.bad:=rfl
@[simp]theorem Ztq(U):O.ans Ad (.next U)=.ok .non:=rfl
@[simp]theorem ZwW(d b):O.ans Ad (.ret d b)=.ok d:=rfl
@[simp]theorem Ztp(d b):O.ans Aa (.ret d b)=if (!b&&isL d)=Aa then .bad else .ok d:=rfl
@[simp]theorem ZvX(d):isL (.lst d)=Aa:=rfl
@[simp]theorem ZvW(d):isL (.tup d)=Ad:=rfl
@[simp]theorem ZvY(d):isL (.int d)=Ad:=rfl
@[simp]theorem ZwY(fr x U):O.ans fr (.exn x U)=.exn x:=rfl
@[simp]theorem ZwZ(fr):O.ans fr .bad=.bad:=rfl
@[simp]theorem Zyj(i j:Ag):BX .Add (.int i) (.int j)=.ok (.int (i+j)):=rfl
@[simp]theorem Zxh(i j:Ag):BX .Sub (.int i) (.int j)=.ok (.int (i-j)):=rfl
@[simp]theorem iS(i j:Ag):BX .Mult (.int i) (.int j)=if (FJ i j||Nb i j)=Aa then .ok (.int (i*j)) else .bad:=rfl
@[simp]theorem cK(i j:Ag):BX .FloorDiv (.int i) (.int j)=if 0<j/\j<1073741824 then .ok (.int (i/j)) else .bad:=rfl
@[simp]theorem iU(i j:Ag):BX .Mod (.int i) (.int j)=if 0<j then .ok (.int (i%j)) else .bad:=rfl
@[simp]theorem jP(i j:Ag):BX .Pow (.int i) (.int j)=if (0<=j/\j<=1000000)/\(-(18446744073709551616:Ag)<i/\i<18446744073709551616) then .ok (.int (i ^ j.toNat)) else .bad:=rfl
@[simp]theorem JO(x y:Ah):BX .Add (.str x) (.str y)=if BD (x.length+y.length)=Aa then .ok (.str (x++y)) else .bad:=rfl
@[simp]theorem IG(x y:Ac D):BX .Add (.lst x) (.lst y)=if BD (x.length+y.length)=Aa then .ok (.lst (x++y)) else .bad:=rfl
@[simp]theorem SF(x y:Ac D):BX .Add (.tup x) (.tup y)=if (!x.isEmpty&&BD (x.length+y.length))=Aa then .ok (.tup (x++y)) else .bad:=rfl
@[simp]theorem ZyL(i:Ag):unD .USub (.int i)=.ok (.int (-i)):=rfl
@[simp]theorem pL(x y:D):BK .Eq x y=if (flD 5 x&&flD 5 y)=Aa then .ok (.bl (eqD x y)) else .bad:=rfl
@[simp]theorem oB(x y:D):BK .NotEq x y=if (flD 5 x&&flD 5 y)=Aa then .ok (.bl (!eqD x y)) else .bad:=rfl
@[simp]theorem ZyM(i j:Ag):BK .Lt (.int i) (.int j)=.ok (.bl (decide (i<j))):=rfl
@[simp]theorem ZyO(i j:Ag):BK .LtE (.int i) (.int j)=.ok (.bl (decide (i<=j))):=rfl
@[simp]theorem ZyX(i j:Ag):BK .Gt (.int i) (.int j)=.ok (.bl (decide (j<i))):=rfl
@[simp]theorem ZyY(i j:Ag):BK .GtE (.int i) (.int j)=.ok (.bl (decide (j<=i))):=rfl
@[simp]theorem qP(x:D)(ys:Ac D):BK .In x (.lst ys)=if (flD 5 x&&ys.all (flD 5))=Aa then .ok (.bl (ys.any λy=>eqD y x)) else .bad:=rfl
@[simp]theorem qO(x:D)(ys:Ac D):BK .In x (.tup ys)=if (flD 5 x&&ys.all (flD 5))=Aa then .ok (.bl (ys.any λy=>eqD y x)) else .bad:=rfl
@[simp]theorem nY(x:D)(ys:Ac D):BK .NotIn x (.lst ys)=if (flD 5 x&&ys.all (flD 5))=Aa then .ok (.bl (!ys.any λy=>eqD y x)) else .bad:=rfl
@[simp]theorem nX(x:D)(ys:Ac D):BK .NotIn x (.tup ys)=if (flD 5 x&&ys.all (flD 5))=Aa then .ok (.bl (!ys.any λy=>eqD y x)) else .bad:=rfl
@[simp]theorem ZxW:BK .Is .non .non=.ok (.bl Aa):=rfl
@[simp]theorem ZxY(i):BK .Is (.int i) .non=.ok (.bl Ad):=rfl
@[simp]theorem ZxV(i):BK .Is (.tup i) .non=.ok (.bl Ad):=rfl
@[simp]theorem ZxX(i):BK .Is (.lst i) .non=.ok (.bl Ad):=rfl
@[simp]theorem ZyQ(a b):BK .Is (.bl a) (.bl b)=.ok (.bl (a==b)):=rfl
@[simp]theorem ZxT(a b):BK .IsNot (.bl a) (.bl b)=.ok (.bl (!(a==b))):=rfl
@[simp]theorem ZvM:BK .IsNot .non .non=.ok (.bl Ad):=rfl
@[simp]theorem ZvO(i):BK .IsNot (.int i) .non=.ok (.bl Aa):=rfl
@[simp]theorem ZvL(i):BK .IsNot (.tup i) .non=.ok (.bl Aa):=rfl
@[simp]theorem ZvN(i):BK .IsNot (.lst i) .non=.ok (.bl Aa):=rfl
@[simp]theorem ZwJ(i j:Ag):eqD (.int i) (.int j)=(i==j):=rfl
@[simp]theorem Zye(i j:Ai):eqD (.bl i) (.bl j)=(i==j):=rfl
@[simp]theorem ZwG(i j:Ah):eqD (.str i) (.str j)=(i==j):=rfl
@[simp]theorem ZwF(i j:Ac D):eqD (.tup i) (.tup j)=eqDs i j:=rfl
@[simp]theorem ZwI(i j:Ac D):eqD (.lst i) (.lst j)=eqDs i j:=rfl
@[simp]theorem ZwH:eqD .non .non=Aa:=rfl
@[simp]theorem Zog(i):eqD .non (.int i)=Ad:=rfl
@[simp]theorem Zoh(i):eqD (.int i) .non=Ad:=rfl
@[simp]theorem Zte:eqDs [] []=Aa:=rfl
@[simp]theorem NU(x y:D)(xs ys:Ac D):eqDs (x::xs) (y::ys)=(eqD x y&&eqDs xs ys):=rfl
@[simp]theorem Zwc(n)(i:Ag):flD n (.int i)=Aa:=by cases n<;>rfl
@[simp]theorem Zx7(n)(i:Ai):flD n (.bl i)=Aa:=by cases n<;>rfl
@[simp]theorem Zwa(n)(i:Ah):flD n (.str i)=Aa:=by cases n<;>rfl
@[simp]theorem Zwb(n):flD n .non=Aa:=by cases n<;>rfl
@[simp]theorem ZsH(i):flD 5 (.tup i)=i.all (flD 4):=rfl
@[simp]theorem ZsM(i):flD 5 (.lst i)=i.all (flD 4):=rfl
@[simp]theorem ZsI(i):flD 4 (.tup i)=i.all (flD 3):=rfl
@[simp]theorem ZsN(i):flD 4 (.lst i)=i.all (flD 3):=rfl
@[simp]theorem ZsJ(i):flD 3 (.tup i)=i.all (flD 2):=rfl
@[simp]theorem ZsO(i):flD 3 (.lst i)=i.all (flD 2):=rfl
@[simp]theorem ZsK(i):flD 2 (.tup i)=i.all (flD 1):=rfl
@[simp]theorem ZsP(i):flD 2 (.lst i)=i.all (flD 1):=rfl
@[simp]theorem ZsL(i):flD 1 (.tup i)=i.all (flD 0):=rfl
@[simp]theorem ZsQ(i):flD 1 (.lst i)=i.all (flD 0):=rfl
@[simp]theorem ZtE(b):BU (.bl b)=.ok b:=rfl
@[simp]theorem Zsg(i):BU (.int i)=.ok (i != 0):=rfl
@[simp]theorem Zsf(i):BU (.lst i)=.ok (!i.isEmpty):=rfl
@[simp]theorem Zsd(i):BU (.tup i)=.ok (!i.isEmpty):=rfl
@[simp]theorem Zse:BU .non=.ok Ad:=rfl
@[simp]theorem ZtF(b):F7 (.bl b)=.ok b:=rfl
@[simp]theorem Zsi(i):F7 (.int i)=.ok (i != 0):=rfl
@[simp]theorem Zsh:F7 .non=.ok Ad:=rfl
@[simp]theorem Zr4:F4 []=.ok Aa:=rfl
@[simp]theorem Qv(x r):F4 (x::r)=(F7 x).bind λb=>(F4 r).bind λc=>.ok (b&&c):=rfl
@[simp]theorem Zr3:Jk []=.ok Ad:=rfl
@[simp]theorem Zo1(x r):Jk (x::r)=(F7 x).bind λb=>(Jk r).bind λc=>.ok (b||c):=rfl
@[simp]theorem ZwL(b)(d):G4 b (.ok d)=.ok d:=by cases b<;>rfl
@[simp]theorem Zth(b):G4 b .bad=.bad:=by cases b<;>rfl
@[simp]theorem Ztg(x):G4 Aa (.exn x)=.exn x:=rfl
@[simp]theorem ZoZ(r):G4 Ad r=noX r:=rfl
@[simp]theorem Zvy(a:α):noX (.ok a)=.ok a:=rfl
@[simp]theorem ZvA:noX (.bad:R α)=.bad:=rfl
@[simp]theorem Zvz(x):noX (.exn x:R α)=.bad:=rfl
@[simp]theorem ZwV(b):DX (.bl b)=.ok b:=rfl
@[simp]theorem Zr2(b):DR (.int b)=.ok b:=rfl
@[simp]theorem QI(b):Jj (.lst b)=.ok b:=rfl
@[simp]theorem Zr0(b):DW (.lst b)=.ok b:=rfl
@[simp]theorem ZrZ(b):DW (.tup b)=.ok b:=rfl
@[simp]theorem nP(xs i):Hv (.lst xs) (.int i)=CH xs i:=rfl
@[simp]theorem nO(xs i):Hv (.tup xs) (.int i)=CH xs i:=rfl
@[simp]theorem Jp(xs):biD .len [.lst xs]=.ok (.int xs.length):=rfl
@[simp]theorem ZyN(xs):biD .len [.tup xs]=.ok (.int xs.length):=rfl
@[simp]theorem Zze(i):biD .abs [.int i]=.ok (.int (if i<0 then -i else i)):=rfl
@[simp]theorem ZxM(i j):biD .max [.int i,.int j]=.ok (.int (if i<j then j else i)):=rfl
@[simp]theorem ZxK(i j):biD .min [.int i,.int j]=.ok (.int (if j<i then j else i)):=rfl
@[simp]theorem ZyS(i):biD .int [.int i]=.ok (.int i):=rfl
@[simp]theorem ZyT(i):biD .int [.bl i]=.ok (.int (b2i i)):=rfl
@[simp]theorem ZxR(i):biD .list [.lst i]=.ok (.lst i):=rfl
@[simp]theorem ZxQ(i):biD .list [.tup i]=.ok (.lst i):=rfl
@[simp]theorem ZtD(i):biD .tuple [.lst i]=.ok (.tup i):=rfl
@[simp]theorem ZtC(i):biD .tuple [.tup i]=.ok (.tup i):=rfl
@[simp]theorem pJ(i):biD .all [.lst i]=(F4 i).bind λb=>.ok (.bl b):=rfl
@[simp]theorem Zzd(i):biD .any [.lst i]=(Jk i).bind λb=>.ok (.bl b):=rfl
@[simp]theorem Zzc(i):biD .any [.tup i]=(Jk i).bind λb=>.ok (.bl b):=rfl
@[simp]theorem ZyC(i):biD .sum [.lst i]=(LQ 0 i).bind λb=>.ok (.int b):=rfl
@[simp]theorem ZyB(i):biD .sum [.tup i]=(LQ 0 i).bind λb=>.ok (.int b):=rfl
@[simp]theorem Zsp(i):biD .sorted [.lst i]=(Gp i).bind λb=>.ok (.lst b):=rfl
@[simp]theorem ZyD(xs k):biD .stp [.lst xs,.int k]=.ok (.lst (UD k.toNat xs)):=rfl
@[simp]theorem ZyI(xs):biD .rvs [.lst xs]=.ok (.lst xs.reverse):=rfl
@[simp]theorem ZxO(xs):biD .lset [.lst xs]=TZ xs:=rfl
@[simp]theorem Zxc(x y):biD .tmin [x,y]=mmD Ad x y:=rfl
@[simp]theorem Zyp(x y):biD .tlt [x,y]=Uz x y:=rfl
@[simp]theorem Zxd(x y):biD .tmax [x,y]=mmD Aa x y:=rfl
@[simp]theorem ZwM(xs x):biD .count [.lst xs,x]=if (flD 5 x&&xs.all (flD 5))=Aa then .ok (.int ((xs.filter λy=>eqD y x).length:Ae)) else .bad:=rfl
@[simp]theorem qG(xs lo hi):slD (.tup xs) lo hi=if (IJ xs.length 0 lo==0&&IJ xs.length xs.length hi==xs.length)=Aa then .bad else .ok (.tup (Ev xs lo hi)):=rfl
@[simp]theorem Zzn(xs lo hi):slD (.lst xs) lo hi=.ok (.lst (Ev xs lo hi)):=rfl
@[simp]theorem Zub(d):slE .non d=.ok Af:=rfl
@[simp]theorem Zuc(k i):slE (.int k) (.int i)=.ok (Ab i):=rfl
@[simp]theorem Zua(k i):slE (.var k) (.int i)=.ok (Ab i):=rfl
@[simp]theorem Zud(op a b i):slE (.bin op a b) (.int i)=.ok (Ab i):=rfl
@[simp]theorem Zxk(op a i):slE (.un op a) (.int i)=.ok (Ab i):=rfl
@[simp]theorem Zxl(b as i):slE (.bi b as) (.int i)=.ok (Ab i):=rfl
@[simp]theorem ZvR(up ks):EI up ks .non=if ks.any Ew=Aa then .bad else .ok (.bl (ks.any λk=>kiD up k .non)):=rfl
@[simp]theorem ZxU(up ks b):EI up ks (.bl b)=if ks.any Ew=Aa then .bad else .ok (.bl (ks.any λk=>kiD up k (.bl b))):=rfl
@[simp]theorem ZvT(up ks b):EI up ks (.int b)=if ks.any Ew=Aa then .bad else .ok (.bl (ks.any λk=>kiD up k (.int b))):=rfl
@[simp]theorem ZvQ(up ks b):EI up ks (.str b)=if ks.any Ew=Aa then .bad else .ok (.bl (ks.any λk=>kiD up k (.str b))):=rfl
@[simp]theorem ZvP(up ks b):EI up ks (.tup b)=if ks.any Ew=Aa then .bad else .ok (.bl (ks.any λk=>kiD up k (.tup b))):=rfl
@[simp]theorem ZvS(up ks b):EI up ks (.lst b)=if ks.any Ew=Aa then .bad else .ok (.bl (ks.any λk=>kiD up k (.lst b))):=rfl
@[simp]theorem ZvU(up ks c f):EI up ks (.exc c f)=if ks.all Ew=Aa then .ok (.bl (ks.any λk=>kiD up k (.exc c f))) else .bad:=rfl
@[simp]theorem Ztk(c):Ew (.cls c)=Aa:=rfl
@[simp]theorem ZrB:Ew .verr=Aa:=rfl
@[simp]theorem Ztj:Ew .int=Ad:=rfl
@[simp]theorem ZrD:Ew .bool=Ad:=rfl
@[simp]theorem Zti:Ew .str=Ad:=rfl
@[simp]theorem ZrC:Ew .list=Ad:=rfl
@[simp]theorem Zo0:Ew .tuple=Ad:=rfl
@[simp]theorem ZoV(up i):kiD up .int (.int i)=Aa:=rfl
@[simp]theorem ZoU(up):kiD up .int .non=Ad:=rfl
@[simp]theorem ZnS(up i):kiD up .bool (.int i)=Ad:=rfl
@[simp]theorem ZoT(up i):kiD up .int (.tup i)=Ad:=rfl
@[simp]theorem ZoX(up i):kiD up .bool (.bl i)=Aa:=rfl
@[simp]theorem ZnR(up):kiD up .bool .non=Ad:=rfl
@[simp]theorem ZnQ(up i):kiD up .list (.lst i)=Aa:=rfl
@[simp]theorem ZlE(up i):kiD up .tuple (.tup i)=Aa:=rfl
@[simp]theorem ZlF(up):kiD up .tuple .non=Ad:=rfl
@[simp]theorem ZoW(up c k f):kiD up (.cls c) (.exc k f)=(up k).contains c:=rfl
@[simp]theorem ZnP(up k f):kiD up .verr (.exc k f)=Aa:=rfl
theorem JK{xs:Ac D}{i:Ag}{d:D}(h0:0<=i)(h:xs[i.toNat]?=Ab d):CH xs i=.ok d:=by
 unfold CH plD;obtain⟨h1,_⟩:=A4.mp h;rw[Aq h0,Aq (by omega)]
 dsimp only;rw[h]
section
variable(Z:Gam)(U:Rho)
@[simp]theorem ZsR:evSs Z U .nil=.next U:=rfl
noncomputable def Eu(Z:Gam)(ss:Ss)(o:O):O:=o.seq λU'=>evSs Z U' ss
@[simp]theorem Zh(s ss):evSs Z U (.cons s ss)=Eu Z ss (evS Z U s):=rfl
@[simp]theorem OC(ss):Eu Z ss (.next U)=evSs Z U ss:=rfl
@[simp]theorem ZxZ(ss d b):Eu Z ss (.ret d b)=.ret d b:=rfl
@[simp]theorem Zx3(ss):Eu Z ss (.brk U)=.brk U:=rfl
@[simp]theorem Zv7(ss):Eu Z ss (.cont U)=.cont U:=rfl
@[simp]theorem Zx2(ss x):Eu Z ss (.exn x U)=.exn x U:=rfl
@[simp]theorem Zx4(ss):Eu Z ss .bad=.bad:=rfl
@[simp]theorem Zx1(ss)(c:Prop)[EC c](a b:O):Eu Z ss (if c then a else b)=if c then Eu Z ss a else Eu Z ss b:=by split<;>rfl
@[simp]theorem Zx0(o:O):Eu Z .nil o=o:=by cases o<;>rfl
noncomputable def Bw(Z:Gam)(t:Ae)(body:Ss):D->Rho->O:=λx U'=>evSs Z (U'.set t (Ab (x,Ad))) body
noncomputable def whC(Z:Gam)(c:E):Rho->R Ai:=λU'=>(top U' c (evE Z U' c)).bind BU
noncomputable def whB(Z:Gam)(body:Ss):Rho->O:=λU'=>evSs Z U' body
noncomputable def Ul(Z:Gam)(t:Ae)(body:Ss)(U:Rho)(r:R (Ac D)):O:=O.of U r λxs=>BN (Bw Z t body) xs U
@[simp]theorem cJ(t body xs):Ul Z t body U (.ok xs)=BN (Bw Z t body) xs U:=rfl
@[simp]theorem ZsV:evS Z U .pass=.next U:=rfl
@[simp]theorem Zwm(i e):evS Z U (.asg i Ad e)=O.of U (evE Z U e) λd=>.next (U.set i (Ab (d,Ad))):=rfl
@[simp]theorem ZsX(e):evS Z U (.expr e)=O.of U (evE Z U e) λ_=>.next U:=rfl
@[simp]theorem eO(e):evS Z U (.ret e)=O.of U (top U e (evE Z U e)) λd=>.ret d (Cb Z e||(match e with | .var i=>(match U[i]? with|some (Ab (_,o))=>o|_=>Ad)|_=>Ad)):=rfl
@[simp]theorem ZsT:evS Z U .retN=.ret .non Ad:=rfl
@[simp]theorem Zwj(c a b):evS Z U (.ife c a b)=O.of U ((top U c (evE Z U c)).bind BU) λk=>if k=Aa then evSs Z U a else evSs Z U b:=rfl
@[simp]theorem Zl(t it body):evS Z U (.fors t it body)=Ul Z t body U (G3 Z U it):=rfl
noncomputable def FK(Z:Gam)(ts:Ac Ae)(body:Ss):D->Rho->O:=λx U'=>O.of U' (Fi ts x U') λU''=>evSs Z U'' body
noncomputable def Uf(Z:Gam)(ts:Ac Ae)(body:Ss)(U:Rho)(r:R (Ac D)):O:=O.of U r λxs=>BN (FK Z ts body) xs U
@[simp]theorem ZsF(t body xs):Uf Z t body U (.ok xs)=BN (FK Z t body) xs U:=rfl
@[simp]theorem ZsW(t it body):evS Z U (.forT t it body)=Uf Z t body U (G3 Z U it):=rfl
@[simp]theorem ZsZ(ts e):evS Z U (.asgT ts e)=O.of U (evE Z U e) λd=>O.of U (Nc ts d U) λU'=>.next U':=rfl
theorem Ix(i e):evS Z U (.asg i Aa e)=O.of U (evE Z U e) λd=>if Cb Z e=Aa then (match d with
      |.lst xs=>.next (U.set i (Ab (.lst xs,Aa)))
      |.dic xs=>.next (U.set i (Ab (.dic xs,Aa)))
      | _=>.bad) else .bad:=rfl
noncomputable def setF(U:Rho)(i:Ae):D->O
 |.lst xs=>.next (U.set i (Ab (.lst xs,Aa)))
 |.dic xs=>.next (U.set i (Ab (.dic xs,Aa)))
 |_=>.bad
@[simp]theorem Zxt(i xs):setF U i (.lst xs)=.next (U.set i (Ab (.lst xs,Aa))):=rfl
@[simp]theorem Zxu(i xs):setF U i (.dic xs)=.next (U.set i (Ab (.dic xs,Aa))):=rfl
@[simp]theorem Zi(i e):evS Z U (.asg i Aa e)=O.of U (evE Z U e) λd=>if Cb Z e=Aa then setF U i d else .bad:=by
 rw[Ix]
 congr 1
@[simp]theorem Zwn(i e):evS Z U (.app i e)=O.of U (Cj U i) λxs=>O.of U (evE Z U e) λd=>if BD (xs.length+1)=Aa then .next (U.set i (Ab (.lst (xs++[d]),Aa))) else .bad:=rfl
@[simp]theorem OE(i e):evS Z U (.ext i e)=if Cb Z e=Aa then (O.of U (Cj U i) λxs=>O.of U (evE Z U e) λd=>O.of U (Jj d) λys=>if BD (xs.length+ys.length)=Aa then .next (U.set i (Ab (.lst (xs++ys),Aa))) else .bad) else .bad:=rfl
@[simp]theorem Zwi(i):evS Z U (.rev i)=O.of U (Cj U i) λxs=>.next (U.set i (Ab (.lst xs.reverse,Aa))):=rfl
@[simp]theorem Zwk(i):evS Z U (.clr i)=O.of U (Cj U i) λ_=>.next (U.set i (Ab (.lst [],Aa))):=rfl
@[simp]theorem ZG(body c x h):evS Z U (.tryx body c x h)=match evSs Z U body with
      | .exn y U'=>if (Z.up y.c).contains c=Aa then (match evSs Z (U'.set x (Ab (.exc y.c y.fs,Ad))) h with
          |.next U''=>.next (U''.set x Af)
          |.ret d f=>.ret d f
          | _=>.bad) else .bad
      |o=>o:=rfl
@[simp]theorem ZsS(body c x h c' h' els):evS Z U (.try2 body c x h c' h' els)=match evSs Z U body with
      |.exn y U'=>if (Z.up y.c).contains c=Aa then hdO x y U' (λr=>evSs Z r h) else if (Z.up y.c).contains c'=Aa then hdO x y U' (λr=>evSs Z r h') else .bad
      |.next U'=>evSs Z U' els
      |o=>o:=rfl
@[simp]theorem Zwh(c body):evS Z U (.whl c body)=Pu (whC Z c) (whB Z body) Ud U:=rfl
@[simp]theorem ZsU(c as):evS Z U (.rais c as)=O.of U (noX (evA Z U as)) λxs=>O.of U (Z.xn c xs) λx=>.exn x U:=rfl
@[simp]theorem Zwl:evS Z U .brk=.brk U:=rfl
@[simp]theorem ZsY:evS Z U .cont=.cont U:=rfl
end
end Ov
namespace Ov
open PySem
theorem L8{body:D->Rho->O}(P:Ae->Rho->Prop):∀(xs:Ac D)(n:Ae)(U:Rho),P n U->(∀ i x,xs[i]?=Ab x->∀ U,P (n+i) U->∃ U',body x U=.next U'/\P (n+i+1) U')->∃ U',BN body xs U=.next U'/\P (n+xs.length) U'
 |[],n,U,h,_=>⟨U,rfl,h⟩
 |x::xs,n,U,h,k=>by
  obtain⟨U1,e1,h1⟩:=k 0 x rfl U h;obtain⟨U2,e2,h2⟩:=L8 P xs (n+1) U1 h1 λi y hy U hρ=>by
   have:=k (i+1) y (by simpa using hy) U (by rw[show n+(i+1)=n+1+i by omega];exact hρ)
   rw[show n+(i+1)=n+1+i by omega]at this
   exact this
  exact⟨U2,by show (body x U).turn _=_;rw[e1];exact e2,by rw[show n+(x::xs).length=n+1+xs.length by simp;omega];exact h2⟩
theorem YI(h1:0<=lo)(h2:lo<1000000)(h3:0<=hi)(h4:hi<1000000):Dj lo hi=.ok (Dt lo (hi-lo).toNat):=by
 unfold Dj;rw[Aq (by omega)]
theorem Lf(h3:0<=hi)(h4:hi<1000000):Dj 0 hi=.ok (Dt 0 hi.toNat):=by
 rw[YI (by omega) (by omega) h3 h4,U_5]
theorem Zu(h:x∈Dt lo n):∃ k:Ae,k<n/\x=.int (lo+(k:Ag)):=by
 obtain⟨k,hk,e⟩:=Fa.mp h;exact⟨k,DC.mp hk,e.symm⟩
theorem Kb(lo:Ag)(n:Ae):(Dt lo n).length=n:=by simp[Dt]
theorem Oc{i:Ae}(h:(Dt lo n)[i]?=Ab x):i<n/\x=.int (lo+(i:Ag)):=by
 have hl:=(A4.mp h).1;rw[Kb]at hl;unfold Dt at h;rw[Cp,GB hl]at h;cases h;exact⟨hl,rfl⟩
noncomputable def Ss.take:Ae->Ss->Ss
 |0,_=>.nil
 |_,.nil=>.nil
 |n+1,.cons s ss=>.cons s (ss.take n)
noncomputable def Ss.drop:Ae->Ss->Ss
 |0,ss=>ss
 |_,.nil=>.nil
 |n+1,.cons _ ss=>ss.drop n
theorem Od(Z:Gam):∀(n:Ae)(ss:Ss)(U:Rho),evSs Z U ss=Eu Z (ss.drop n) (evSs Z U (ss.take n))
 |0,_,_=>rfl
 |_+1,.nil,_=>rfl
 |n+1,.cons s ss,U=>by
  show (evS Z U s).seq (λU'=>evSs Z U' ss)=Eu Z (ss.drop n) ((evS Z U s).seq λU'=>evSs Z U' (ss.take n))
  cases evS Z U s with
  |next U'=>exact Od Z n ss U'
  |_=>rfl
end Ov
end
section
namespace Ov
end Ov
end
section
namespace OvC
open PySem Ov PyProof.Rows
variable{j:Ag}{Z:Gam}
noncomputable abbrev scr(ns:Ac Ag):D:=.lst (ns.map .int)
noncomputable abbrev sh(d:D):Sl:=Ab (d,Ad)
noncomputable abbrev si(i:Ag):Sl:=Ab (.int i,Ad)
noncomputable def MU(ns:Ac Ag)(k:Ag):Ag:=if ns=[] then 0 else ns.getD (k%ns.length).toNat 0
noncomputable def IN(ns:Ac Ag)(k:Ag):Ag:=(MU ns k%1000003+7919*k+11)*48271%1000033
noncomputable def OY(ns:Ac Ag)(k:Ag):Ag:=[3,5,7,11].getD (IN ns k/16%4).toNat 0
theorem iV(ns k):0<=IN ns k:=by unfold IN;omega
theorem Uk{P:Ae->Prop}(h0:P 0)(h1:P 1)(h2:P 2)(h3:P 3):P (j%4).toNat:=by
 have:(j%4).toNat=0\/(j%4).toNat=1\/(j%4).toNat=2\/(j%4).toNat=3:=by omega
 rcases this with e|e|e|e<;>rw[e]<;>assumption
def P4(p:Ag):Prop:=p=3\/p=5\/p=7\/p=11
noncomputable def pr4(j:Ag):Ag:=[3,5,7,11].getD (j%4).toNat 0
theorem jO(j):P4 (pr4 j):=by
 unfold pr4;exact Uk (P:=λj=>P4 ([3,5,7,11].getD j 0)) (.inl rfl) (.inr (.inl rfl)) (.inr (.inr (.inl rfl))) (.inr (.inr (.inr rfl)))
theorem ZH(ns k):P4 (OY ns k):=jO _
theorem P4.pos{p}(h:P4 p):0<p:=by rcases h with rfl|rfl|rfl|rfl<;>decide
theorem P4.lo{p}(h:P4 p):3<=p:=by rcases h with rfl|rfl|rfl|rfl<;>decide
theorem P4.hi{p}(h:P4 p):p<=11:=by rcases h with rfl|rfl|rfl|rfl<;>decide
theorem ZE(j:Ag):CH [.int 3,.int 5,.int 7,.int 11] (j%4)=.ok (.int (pr4 j)):=by
 have h:=Uk (P:=λj=>[D.int 3,D.int 5,D.int 7,D.int 11][j]?=Ab (D.int ([3,5,7,11].getD j 0))) (j:=j) rfl rfl rfl rfl
 exact JK (by omega) h
theorem OA{i:Ag}(h0:-18446744073709551616<i)(h1:i<18446744073709551616):FJ i j=Aa:=by simp[FJ];left;exact⟨h0,h1⟩
theorem R7{i:Ag}(h0:-18446744073709551616<j)(h1:j<18446744073709551616):FJ i j=Aa:=by simp[FJ];right;exact⟨h0,h1⟩
noncomputable def O2:Df:=⟨2,Ad,(.cons (.ret (.bin .Mod (.var 1) (.var 0))) .nil)⟩
def MO(Z:Gam):Prop:=∀ p n:Ag,0<p->Z.F 1 [.int p,.int n]=.ok (.int (n%p))
theorem jG(Z:Gam)(p n:Ag)(h:0<p):O2.run Z [.int p,.int n]=.ok (.int (n%p)):=by simp[O2,Df.run,CF,h]
noncomputable def NG:Df:=⟨2,Ad,(.cons (.ife (.cmp .Eq (.bi .len (.cons (.var 0) .nil)) (.int 0)) (.cons (.ret (.int 0)) .nil) .nil) (.cons (.ret (.idx (.var 0) (.bin .Mod (.var 1) (.bi .len (.cons (.var 0) .nil))))) .nil))⟩
def SM(Z:Gam):Prop:=∀(ns:Ac Ag)(k:Ag),Z.F 2 [scr ns,.int k]=.ok (.int (MU ns k))
theorem jJ(Z:Gam)(ns:Ac Ag)(k:Ag):NG.run Z [scr ns,.int k]=.ok (.int (MU ns k)):=by
 simp[NG,Df.run,CF,MU];by_cases h:ns=[]
 .simp[h]
 .have hn:=Vh.mpr h;have hl:0<(ns.length:Ag):=by omega
  have h1:=CZ k (Int.ne_of_gt hl);have h2:=Cz k hl;have h3:(k%ns.length).toNat<ns.length:=by omega
  simp[h,hn,JK (xs:=ns.map .int) (d:=.int (ns.getD (k%ns.length).toNat 0)) h1 (by simp[h3])]
noncomputable def NO:Df:=⟨2,Ad,(.cons (.ret (.bin .Mod (.bin .Mult (.bin .Add (.bin .Add (.bin .Mod (.call 2 (.cons (.var 0) (.cons (.var 1) .nil))) (.int 1000003)) (.bin .Mult (.int 7919) (.var 1))) (.int 11)) (.int 48271)) (.int 1000033))) .nil)⟩
def Ko(Z:Gam):Prop:=∀(ns:Ac Ag)(k:Ag),Z.F 3 [scr ns,.int k]=.ok (.int (IN ns k))
theorem Z_4(h2:SM Z)(ns:Ac Ag)(k:Ag):NO.run Z [scr ns,.int k]=.ok (.int (IN ns k)):=by
 simp[NO,Df.run,CF,h2 ns k,FJ,IN]
noncomputable def NN:Df:=⟨2,Ad,(.cons (.ret (.idx (.lst (.cons (.int 3) (.cons (.int 5) (.cons (.int 7) (.cons (.int 11) .nil))))) (.bin .Mod (.bin .FloorDiv (.call 3 (.cons (.var 0) (.cons (.var 1) .nil))) (.int 16)) (.int 4)))) .nil)⟩
def Sv(Z:Gam):Prop:=∀(ns:Ac Ag)(k:Ag),Z.F 4 [scr ns,.int k]=.ok (.int (OY ns k))
theorem Z_2(h:Ko Z)(ns:Ac Ag)(k:Ag):NN.run Z [scr ns,.int k]=.ok (.int (OY ns k)):=by
 simp[NN,Df.run,CF,h ns k,ZE];rfl
end OvC
end
namespace Ov
open PySem PySem.Spec PyProof.Rows L2
variable{A B:Ak->Prop}{H H' H1 H0:Hp}{a b l q j l2:Ak}{xs ys:Ac V}{v:V}{d:D}{Rp Rq:Hp->V->D->Prop}{r:R D}{Q:VK}{X:Cx}{e c tg iter elt:An}{U:Rho}{i n k tk:Ae}{Y:L2.St}{g:D->D->R D}{op:Do}{K:Fg}{pI:Pn}{s:Ap}{items2 its:Ax Aj}{h h':AD}{u:Aj}{its2:Ac Aj}{es ifs:Ac An}{fs fi:Rho->R (Ac D)}{Q':Am Ag->Hp->Prop}{x:Ah}{id T:CD}{p pos' p2 pos pos2 tpos:AR}{f fc:Rho->R Ai}{α:Type}{Fz:Ak->HO->Prop}{D':Ends}{lo hi:Ag}{as:D->Rho->R Rho}{up:Ae->Ac Ae}{prog P:AM}{w:AY}{scope:BY}{env:Cr}{cl:Ac (Ah×Ak)}{N':Ac Ah}{ts:Ac Ae}{fp:Ac Ak}{tt:TT}{te:TE}{J:It}{wi:TI}{t t1 t2:Ai}{ta:TA}
abbrev ClA:=Ae->Am Ak
variable{CL:ClA}
def KL(K:Fg)(a:Ak)(xs:Ac V):Prop:=∃(o:DE)(its:Ax Aj)(n:Ae),K.lookup a=Ab o/\o.cls=.type "list"/\o.dict=Af/\o.data=.seq its n/\its.size<=sizeLine/\A6 xs its.toList
def KT(K:Fg)(a:Ak)(xs:Ac V):Prop:=∃(o:DE)(its:Ax Aj)(n:Ae),K.lookup a=Ab o/\o.cls=.type "tuple"/\o.data=.seq its n/\its.size<=sizeLine/\A6 xs its.toList
section
variable(K:Fg)(CL:ClA)(H:Hp)(A:Ak->Prop)
mutual
def Rep:V->D->Prop
 |v,.non=>v=.non
 |v,.bl b=>v=.bl b
 |v,.int i=>v=.int i
 |v,.str x=>v=.str x
 |v,.tup ds=>∃ a xs,v=.ref a/\(¬ A a\/KT K a xs)/\SqT K H a xs/\Reps xs ds
 |v,.lst ds=>∃ a xs,v=.ref a/\(¬ A a\/KL K a xs)/\SqL K H a xs/\Reps xs ds
 |v,.obj c fs=>∃ a C dx vs,v=.ref a/\¬ A a/\CL c=Ab C/\H a=Ab (.ins C dx vs)/\Repf vs fs
 |_,.dic _=>A5
 |v,.exc c fs=>∃ a C φ,v=.ref a/\¬ A a/\CL c=Ab C/\H a=Ab (.ext φ)/\(∀ h,φ h->∃ o,h.get? a=Ab o/\o.cls=.ref C)/\(fs=[]\/∃ dx vs,¬ A dx/\H dx=Ab (.xd vs)/\Repf vs fs/\∀ h,φ h->∃ o,h.get? a=Ab o/\o.dict=Ab dx/\∃ us,o.data=.fields us)
def Reps:Ac V->Ac D->Prop
 |[],[]=>HJ
 |v::vs,d::ds=>Rep v d/\Reps vs ds
 |_,_=>A5
def Repf:Ac (Ah×V)->Ac (Ah×D)->Prop
 |[],[]=>HJ
 |v::vs,d::ds=>Repp v d/\Repf vs ds
 |_,_=>A5
def Repp:Ah×V->Ah×D->Prop
 |v,(n,d)=>v.1=n/\Rep v.2 d
end
def CG(v:V)(d:D):Prop:=Rep K CL H A v d\/∃ a xs ds,v=.ref a/\d=.lst ds/\H a=Ab (.lst xs)/\Reps K CL H A xs ds
end
def Kp(A:Ak->Prop)(H H':Hp):Prop:=∀ b o,H b=Ab o->¬ A b->H' b=Ab o
def AOk(H:Hp)(A:Ak->Prop):Prop:=∀ a,A a->∃ xs,H a=Ab (.lst xs)
theorem Kp.of(h:AG H H'):Kp A H H':=λb o e _=>h b o e
theorem AOk.same(h:AOk H A)(s:AG H H'):AOk H' A:=λa ha=>let ⟨xs,e⟩:=h a ha;⟨xs,s _ _ e⟩
theorem AOk.new{p:Ak}(h:AOk H A)(e:H p=Af):¬ A p:=λha=>by
 obtain⟨xs,q⟩:=h p ha;rw[e]at q;cases q
section
variable{K:Fg}{CL:ClA}{H H':Hp}{A B:Ak->Prop}
theorem TK{u:HO}(k:Kp A H H')(na:¬ A a)(h:Rd H a u):Rd H' a u:=by
 rcases h with h|⟨o,h⟩
 .exact .inl (k _ _ h na)
 .exact .inr ⟨o,k _ _ h na⟩
theorem MM(k:Kp A H H')(na:¬ A a\/KL K a xs)(h:SqL K H a xs):SqL K H' a xs:=na.elim (λna=>h.imp (TK k na) id) .inr
theorem ML(k:Kp A H H')(na:¬ A a\/KT K a xs)(h:SqT K H a xs):SqT K H' a xs:=na.elim (λna=>h.imp (TK k na) id) .inr
mutual
theorem Rep.kp(k:Kp A H H'):∀{v:V}(d:D),Rep K CL H A v d->Rep K CL H' A v d
 |_,.non,h=>h
 |_,.bl _,h=>h
 |_,.int _,h=>h
 |_,.str _,h=>h
 |_,.dic _,h=>h.elim
 |_,.tup ds,h=>by
  obtain⟨a,xs,e,na,s,r⟩:=h;exact⟨a,xs,e,na,by first|exact ML k na s|exact MM k na s,Reps.kp k ds r⟩
 |_,.lst ds,h=>by
  obtain⟨a,xs,e,na,s,r⟩:=h;exact⟨a,xs,e,na,by first|exact ML k na s|exact MM k na s,Reps.kp k ds r⟩
 |_,.obj c fs,h=>by
  obtain⟨a,C,dx,vs,e,na,c,s,r⟩:=h;exact⟨a,C,dx,vs,e,na,c,k _ _ s na,Repf.kp k fs r⟩
 |_,.exc c fs,h=>by
  obtain⟨a,C,φ,e,na,c,s,p,q⟩:=h;refine⟨a,C,φ,e,na,c,k _ _ s na,p,q.imp id ?_⟩;rintro⟨dx,vs,nx,s2,r,z⟩;exact⟨dx,vs,nx,k _ _ s2 nx,Repf.kp k fs r,z⟩
theorem Reps.kp(k:Kp A H H'):∀{vs:Ac V}(ds:Ac D),Reps K CL H A vs ds->Reps K CL H' A vs ds
 |[],[],h=>h
 |_::_,d::ds,h=>⟨Rep.kp k d h.1,Reps.kp k ds h.2⟩
 |[],_::_,h=>h.elim
 |_::_,[],h=>h.elim
theorem Repf.kp(k:Kp A H H'):∀{vs:Ac (Ah×V)}(ds:Ac (Ah×D)),Repf K CL H A vs ds->Repf K CL H' A vs ds
 |[],[],h=>h
 |_::_,d::ds,h=>⟨Repp.kp k d h.1,Repf.kp k ds h.2⟩
 |[],_::_,h=>h.elim
 |_::_,[],h=>h.elim
theorem Repp.kp(k:Kp A H H'):∀{v:Ah×V}(d:Ah×D),Repp K CL H A v d->Repp K CL H' A v d
 |_,(_,d),h=>⟨h.1,Rep.kp k d h.2⟩
end
mutual
theorem Rep.sub(k:∀ a,B a->A a):∀{v:V}(d:D),Rep K CL H A v d->Rep K CL H B v d
 |_,.non,h=>h
 |_,.bl _,h=>h
 |_,.int _,h=>h
 |_,.str _,h=>h
 |_,.dic _,h=>h.elim
 |_,.tup ds,h=>by
  obtain⟨a,xs,e,na,s,r⟩:=h;exact⟨a,xs,e,na.imp (λna z=>na (k _ z)) id,s,Reps.sub k ds r⟩
 |_,.lst ds,h=>by
  obtain⟨a,xs,e,na,s,r⟩:=h;exact⟨a,xs,e,na.imp (λna z=>na (k _ z)) id,s,Reps.sub k ds r⟩
 |_,.obj c fs,h=>by
  obtain⟨a,C,dx,vs,e,na,c,s,r⟩:=h;exact⟨a,C,dx,vs,e,λz=>na (k _ z),c,s,Repf.sub k fs r⟩
 |_,.exc c fs,h=>by
  obtain⟨a,C,φ,e,na,c,s,p,q⟩:=h;refine⟨a,C,φ,e,λz=>na (k _ z),c,s,p,q.imp id ?_⟩
  rintro⟨dx,vs,nx,s2,r,z⟩;exact⟨dx,vs,λz=>nx (k _ z),s2,Repf.sub k fs r,z⟩
theorem Reps.sub(k:∀ a,B a->A a):∀{vs:Ac V}(ds:Ac D),Reps K CL H A vs ds->Reps K CL H B vs ds
 |[],[],h=>h
 |_::_,d::ds,h=>⟨Rep.sub k d h.1,Reps.sub k ds h.2⟩
 |[],_::_,h=>h.elim
 |_::_,[],h=>h.elim
theorem Repf.sub(k:∀ a,B a->A a):∀{vs:Ac (Ah×V)}(ds:Ac (Ah×D)),Repf K CL H A vs ds->Repf K CL H B vs ds
 |[],[],h=>h
 |_::_,d::ds,h=>⟨Repp.sub k d h.1,Repf.sub k ds h.2⟩
 |[],_::_,h=>h.elim
 |_::_,[],h=>h.elim
theorem Repp.sub(k:∀ a,B a->A a):∀{v:Ah×V}(d:Ah×D),Repp K CL H A v d->Repp K CL H B v d
 |_,(_,d),h=>⟨h.1,Rep.sub k d h.2⟩
end
mutual
theorem Rep.wide(hp:∀ a,B a->A a\/H a=Af):∀{v:V}(d:D),Rep K CL H A v d->Rep K CL H B v d
 |_,.non,h=>h
 |_,.bl _,h=>h
 |_,.int _,h=>h
 |_,.str _,h=>h
 |_,.dic _,h=>h.elim
 |_,.tup ds,h=>by
  obtain⟨a,xs,e,na,s,r⟩:=h;refine⟨a,xs,e,?_,s,Reps.wide hp ds r⟩;rcases s with s|s
  .refine na.imp (λna z=>(hp _ z).elim na λe=>?_) id
   rcases s with s|⟨o,s⟩<;>rw[e]at s<;>cases s
  .exact .inr s
 |_,.lst ds,h=>by
  obtain⟨a,xs,e,na,s,r⟩:=h;refine⟨a,xs,e,?_,s,Reps.wide hp ds r⟩;rcases s with s|s
  .refine na.imp (λna z=>(hp _ z).elim na λe=>?_) id
   rcases s with s|⟨o,s⟩<;>rw[e]at s<;>cases s
  .exact .inr s
 |_,.obj c fs,h=>by
  obtain⟨a,C,dx,vs,e,na,c,s,r⟩:=h;exact⟨a,C,dx,vs,e,(λz=>(hp _ z).elim na λe=>by rw[e]at s;cases s),c,s,Repf.wide hp fs r⟩
 |_,.exc c fs,h=>by
  obtain⟨a,C,φ,e,na,c,s,p,q⟩:=h;refine⟨a,C,φ,e,(λz=>(hp _ z).elim na λe=>by rw[e]at s;cases s),c,s,p,q.imp id ?_⟩
  rintro⟨dx,vs,nx,s2,r,z⟩;exact⟨dx,vs,(λz=>(hp _ z).elim nx λe=>by rw[e]at s2;cases s2),s2,Repf.wide hp fs r,z⟩
theorem Reps.wide(hp:∀ a,B a->A a\/H a=Af):∀{vs:Ac V}(ds:Ac D),Reps K CL H A vs ds->Reps K CL H B vs ds
 |[],[],h=>h
 |_::_,d::ds,h=>⟨Rep.wide hp d h.1,Reps.wide hp ds h.2⟩
 |[],_::_,h=>h.elim
 |_::_,[],h=>h.elim
theorem Repf.wide(hp:∀ a,B a->A a\/H a=Af):∀{vs:Ac (Ah×V)}(ds:Ac (Ah×D)),Repf K CL H A vs ds->Repf K CL H B vs ds
 |[],[],h=>h
 |_::_,d::ds,h=>⟨Repp.wide hp d h.1,Repf.wide hp ds h.2⟩
 |[],_::_,h=>h.elim
 |_::_,[],h=>h.elim
theorem Repp.wide(hp:∀ a,B a->A a\/H a=Af):∀{v:Ah×V}(d:Ah×D),Repp K CL H A v d->Repp K CL H B v d
 |_,(_,d),h=>⟨h.1,Rep.wide hp d h.2⟩
end
theorem Rep.same(s:AG H H')(h:Rep K CL H A v d):Rep K CL H' A v d:=Rep.kp (Kp.of s) d h
theorem Reps.same{v:Ac V}{d:Ac D}(s:AG H H')(h:Reps K CL H A v d):Reps K CL H' A v d:=Reps.kp (Kp.of s) d h
theorem CG.same{v:V}{d:D}(s:AG H H')(h:CG K CL H A v d):CG K CL H' A v d:=by
 rcases h with h|⟨a,xs,ds,e,e2,q,r⟩
 .exact .inl (h.same s)
 .exact .inr ⟨a,xs,ds,e,e2,s _ _ q,r.same s⟩
theorem Reps.length:∀{vs:Ac V}{ds:Ac D},Reps K CL H A vs ds->vs.length=ds.length
 |[],[],_=>rfl
 |_::_,_::_,h=>congrArg (· + 1) (Reps.length h.2)
 |[],_::_,h=>h.elim
 |_::_,[],h=>h.elim
theorem Reps.append:∀{vs ws:Ac V}{ds es:Ac D},Reps K CL H A vs ds->Reps K CL H A ws es->Reps K CL H A (vs++ws) (ds++es)
 |[],_,[],_,_,h=>h
 |_::_,_,_::_,_,h,g=>⟨h.1,Reps.append h.2 g⟩
 |[],_,_::_,_,h,_=>h.elim
 |_::_,_,[],_,h,_=>h.elim
theorem Reps.get:∀{vs:Ac V}{ds:Ac D}{i:Ae}{d:D},Reps K CL H A vs ds->ds[i]?=Ab d->∃ v,vs[i]?=Ab v/\Rep K CL H A v d
 |[],[],_,_,_,e=>by simp at e
 |v::_,_::_,0,_,h,e=>by simp at e;subst e;exact⟨v,rfl,h.1⟩
 |_::_,_::_,i+1,_,h,e=>by
  obtain⟨v,q,r⟩:=Reps.get (i:=i) h.2 (by simpa using e)
  exact⟨v,by simpa using q,r⟩
 |[],_::_,_,_,h,_=>h.elim
 |_::_,[],_,_,h,_=>h.elim
theorem Reps.take:∀{vs:Ac V}{ds:Ac D}(n:Ae),Reps K CL H A vs ds->Reps K CL H A (vs.take n) (ds.take n)
 |_,_,0,_=>trivial
 |[],[],_+1,_=>trivial
 |_::_,_::_,n+1,h=>⟨h.1,Reps.take n h.2⟩
 |[],_::_,_+1,h=>h.elim
 |_::_,[],_+1,h=>h.elim
theorem Reps.drop:∀{vs:Ac V}{ds:Ac D}(n:Ae),Reps K CL H A vs ds->Reps K CL H A (vs.drop n) (ds.drop n)
 |_,_,0,h=>h
 |[],[],_+1,_=>trivial
 |_::_,_::_,n+1,h=>Reps.drop n h.2
 |[],_::_,_+1,h=>h.elim
 |_::_,[],_+1,h=>h.elim
theorem Reps.set{x:V}{e:D}(r:Rep K CL H A x e):∀{vs:Ac V}{ds:Ac D}(n:Ae),Reps K CL H A vs ds->Reps K CL H A (vs.set n x) (ds.set n e)
 |[],[],_,_=>trivial
 |_::_,_::_,0,h=>⟨r,h.2⟩
 |_::_,_::_,n+1,h=>⟨h.1,Reps.set r n h.2⟩
 |[],_::_,_,h=>h.elim
 |_::_,[],_,h=>h.elim
end
structure Good (K:Fg) (CL:ClA) (A:Ak->Prop) (U:Rho) (Y:L2.St) (H:Hp):Prop where
 sh:∀(i:Ae)(d:D),U[i]?=Ab (Ab (d,Ad))->∃ v,Y[i]?=Ab (Ab v)/\Rep K CL H A v d
 ow:∀(i:Ae)(d:D),U[i]?=Ab (Ab (d,Aa))->∃ a xs ds,Y[i]?=Ab (Ab (.ref a))/\d=.lst ds/\A a/\H a=Ab (.lst xs)/\Reps K CL H A xs ds
 len:U.length=Y.length
theorem Good.same{K:Fg}{CL:ClA}{A:Ak->Prop}{U:Rho}{Y:L2.St}{H H':Hp}(g:Good K CL A U Y H)(s:AG H H'):Good K CL A U Y H':=
 ⟨λi d e=>let ⟨v,q,r⟩:=g.sh i d e;⟨v,q,r.same s⟩,λi d e=>let ⟨a,xs,ds,q,z,na,h,r⟩:=g.ow i d e;⟨a,xs,ds,q,z,na,s _ _ h,r.same s⟩,g.len⟩
abbrev XW:=Ex->Hp->Prop
variable{W:XW}
def Bg(Rp:Hp->V->D->Prop)(W:XW)(H:Hp)(r:R D)(Q:VK):Prop:=match r with
  |.ok d=>∀ v H',AG H H'->Rp H' v d->Q v H'
  |.exn x=>∀ H',AG H H'->W x H'
  |.bad=>A5
def G0(Rp:Hp->Ac V->Ac D->Prop)(W:XW)(H:Hp)(r:R (Ac D))(Q:Ac V->Hp->Prop):Prop:=match r with
  |.ok d=>∀ v H',AG H H'->Rp H' v d->Q v H'
  |.exn x=>∀ H',AG H H'->W x H'
  |.bad=>A5
def Db(W:XW)(H:Hp)(r:R Ai)(Q:Ai->Hp->Prop):Prop:=match r with
  |.ok b=>∀ H',AG H H'->Q b H'
  |.exn x=>∀ H',AG H H'->W x H'
  |.bad=>A5
theorem Bg.same(s:AG H H')(h:Bg Rp W H r Q):Bg Rp W H' r Q:=by
 cases r with
 |ok d=>exact λv H2 s2 q=>h v H2 (s.trans s2) q
 |exn x=>exact λH2 s2=>h H2 (s.trans s2)
 |bad=>exact h
theorem Db.same{r:R Ai}{Q:Ai->Hp->Prop}(s:AG H H')(h:Db W H r Q):Db W H' r Q:=by
 cases r with
 |ok d=>exact λH2 s2=>h H2 (s.trans s2)
 |exn x=>exact λH2 s2=>h H2 (s.trans s2)
 |bad=>exact h
theorem Bg.bind{f:D->R D}{Q':VK}(h:Bg Rq W H (r.bind f) Q)(k:∀ d v H',r=.ok d->AG H H'->Rp H' v d->Bg Rq W H' (f d) Q->Q' v H'):Bg Rp W H r Q':=by
 cases r with
 |ok d=>exact λv H2 s2 q=>k d v H2 rfl s2 q (Bg.same s2 h)
 |exn x=>exact h
 |bad=>exact h
section
variable(X:Cx)(CL:ClA)(W:XW)
def SE(e:An)(f:Rho->R D):Prop:=∀ A,PE X e (λY H Q=>AOk H A/\∃ U,Good X.K CL A U Y H/\Bg (λH=>Rep X.K CL H A) W H (f U) Q)
def ST(e:An)(f:Rho->R D):Prop:=∀ A,PE X e (λY H Q=>AOk H A/\∃ U,Good X.K CL A U Y H/\Bg (λH=>CG X.K CL H A) W H (f U) Q)
def SB(e:An)(f:Rho->R Ai):Prop:=∀ A,PT X e (λY H Q=>AOk H A/\∃ U,Good X.K CL A U Y H/\Db W H (f U) Q)
def SA(es:Ac An)(f:Rho->R (Ac D)):Prop:=∀ A,PA X es (λY H Q=>AOk H A/\∃ U,Good X.K CL A U Y H/\G0 (λH=>Reps X.K CL H A) W H (f U) Q)
end
theorem PE.weak{t t':TE}(h:PE X e t)(k:∀ Y H Q,t' Y H Q->t Y H Q):PE X e t':=λpI s Y H Q I q=>h pI s Y H Q I (k _ _ _ q)
theorem PT.weak{t t':TT}(h:PT X e t)(k:∀ Y H Q,t' Y H Q->t Y H Q):PT X e t':=λpI s Y H Q I q=>h pI s Y H Q I (k _ _ _ q)
theorem PA.weak{e:Ac An}{t t':TA}(h:PA X e t)(k:∀ Y H Q,t' Y H Q->t Y H Q):PA X e t':=λpos pI s Y H Q I q=>h pos pI s Y H Q I (k _ _ _ q)
noncomputable def OpD(X:Cx)(CL:ClA)(W:XW)(f:Aj->Aj->Dq Aj)(g:D->D->R D):Prop:=
 ∀ A,OpR X f (λx y H Q=>AOk H A/\∃ dx dy,CG X.K CL H A x dx/\CG X.K CL H A y dy/\Bg (λH=>Rep X.K CL H A) W H (g dx dy) Q)
section
variable{X:Cx}{CL:ClA}{W:XW}{a b c:An}{fa fb fc:Rho->R D}{pos:AR}
theorem SE.st(h:SE X CL W a fa):ST X CL W a fa:=λA=>PE.weak (h A) λY H Q ⟨hA,U,g,p⟩=>⟨hA,U,g,by
 cases e:fa U with
 |ok d=>rw[e]at p;exact λv H' s r=>p v H' s (.inl r)
 |exn x=>rw[e]at p;exact p
 | bad=>rw[e]at p;exact p⟩
theorem SE.congr{f g:Rho->R D}(h:SE X CL W a f)(e:∀ U,g U=f U):SE X CL W a g:=λA=>PE.weak (h A) λY H Q ⟨hA,U,q,p⟩=>⟨hA,U,q,by rw[<-e];exact p⟩
theorem MR(h:PE X a (tC v))(r:∀ H A,AOk H A->Rep X.K CL H A v d):SE X CL W a (λ_=>.ok d):=λA=>PE.weak h λY H Q ⟨hA,U,g,p⟩=>p v H (AG.refl H) (r H A hA)
theorem gK{i j}:SE X CL W (.Constant (.int i) j pos) (λ_=>.ok (.int i)):=MR jY λ_ _ _=>rfl
theorem TM{b j}:SE X CL W (.Constant (.bool b) j pos) (λ_=>.ok (.bl b)):=MR oY λ_ _ _=>rfl
theorem gE{j}:SE X CL W (.Constant .none j pos) (λ_=>.ok .non):=MR jW λ_ _ _=>rfl
theorem OS{x j}:SE X CL W (.Constant (.str x) j pos) (λ_=>.ok (.str x)):=MR jT λ_ _ _=>rfl
theorem bH(h:FL U i=.ok d):U[i]?=Ab (Ab (d,Ad)):=by
 unfold FL at h;split at h
 .rename_i e;cases h;exact e
 .cases h
theorem RE(h:Eb U i=.ok d):∃ o,U[i]?=Ab (Ab (d,o)):=by
 unfold Eb at h;split at h
 .rename_i e;cases h;exact⟨_,e⟩
 .cases h
theorem Y_2{x:Ex}(h:FL U i=.exn x):A5:=by
 unfold FL at h;split at h<;>cases h
theorem RA{x:Ex}(h:Eb U i=.exn x):A5:=by
 unfold Eb at h;split at h<;>cases h
theorem gD(h:PE X a (IK i)):SE X CL W a (λU=>FL U i):=λA=>PE.weak h λY H Q ⟨hA,U,g,p⟩=>by
 dsimp only at p;cases e:FL U i with
 |ok d=>
  rw[e]at p;obtain⟨v,q,r⟩:=g.sh i d (bH e);exact⟨v,q,p v H (AG.refl H) r⟩
 |exn x=>exact(Y_2 e).elim
 |bad=>rw[e]at p;exact p.elim
theorem Ky(h:PE X a (IK i)):ST X CL W a (λU=>Eb U i):=λA=>PE.weak h λY H Q ⟨hA,U,g,p⟩=>by
 dsimp only at p;cases e:Eb U i with
 |ok d=>
  rw[e]at p;obtain⟨o,e⟩:=RE e;cases o with
  |false=>
   obtain⟨v,q,r⟩:=g.sh i d e;exact⟨v,q,p v H (AG.refl H) (.inl r)⟩
  |true=>
   obtain⟨x,xs,ds,q,rfl,ha,hh,r⟩:=g.ow i d e;exact⟨_,q,p _ H (AG.refl H) (.inr ⟨x,xs,ds,rfl,rfl,hh,r⟩)⟩
 |exn x=>exact(RA e).elim
 |bad=>rw[e]at p;exact p.elim
theorem op2(h:AOk H A/\∃ U,Good X.K CL A U Y H/\Bg Rq W H ((fa U).bind λx=>(fb U).bind λy=>g x y) Q):AOk H A/\∃ U,Good X.K CL A U Y H/\Bg (λH=>CG X.K CL H A) W H (fa U) (λx H1=>AOk H1 A/\∃ U,Good X.K CL A U Y H1/\Bg (λH=>CG X.K CL H A) W H1 (fb U) (λy H2=>AOk H2 A/\∃ dx dy,CG X.K CL H2 A x dx/\CG X.K CL H2 A y dy/\Bg Rq W H2 (g dx dy) Q)):=by
 obtain⟨hA,U,gd,p⟩:=h;refine⟨hA,U,gd,Bg.bind p λdx x H1 _ s1 r1 p1=>⟨hA.same s1,U,gd.same s1,Bg.bind p1 λdy y H2 _ s2 r2 p2=>⟨(hA.same s1).same s2,dx,dy,r1.same s2,r2,p2⟩⟩⟩
theorem OU{op:Fd}(ho:OpD X CL W (BZ op) g)(ha:ST X CL W a fa)(hb:ST X CL W b fb):SE X CL W (.BinOp a op b pos) (λU=>(fa U).bind λx=>(fb U).bind λy=>g x y):=
 λA=>PE.weak (T6 (ho A) (ha A) (hb A)) λY H Q h=>op2 h
theorem gM(ho:OpD X CL W (CC op) g)(ha:ST X CL W a fa)(hb:ST X CL W b fb)(hm:GV op b=Ad):SE X CL W (.Compare a [op] [b] pos) (λU=>(fa U).bind λx=>(fb U).bind λy=>g x y):=
 λA=>PE.weak (dO (ho A) (ha A) (hb A) hm) λY H Q h=>op2 h
theorem CG.int_of{i:Ag}(h:CG K CL H A v (.int i)):v=.int i:=by
 rcases h with h|⟨_,_,_,_,e,_⟩
 .exact h
 .cases e
theorem CG.str_of{i:Ah}(h:CG K CL H A v (.str i)):v=.str i:=by
 rcases h with h|⟨_,_,_,_,e,_⟩
 .exact h
 .cases e
theorem CG.bl_of{i:Ai}(h:CG K CL H A v (.bl i)):v=.bl i:=by
 rcases h with h|⟨_,_,_,_,e,_⟩
 .exact h
 .cases e
theorem CG.non_of(h:CG K CL H A v .non):v=.non:=by
 rcases h with h|⟨_,_,_,_,e,_⟩
 .exact h
 .cases e
theorem CG.lst_of{ds:Ac D}(h:CG K CL H A v (.lst ds)):∃ a xs,v=.ref a/\SqL K H a xs/\Reps K CL H A xs ds:=by
 rcases h with ⟨a,xs,e,_,s,r⟩|⟨a,xs,es,rfl,e,s,r⟩
 .exact⟨a,xs,e,s,r⟩
 .cases e;exact⟨a,xs,rfl,SqL.of s,r⟩
theorem CG.tup_of{ds:Ac D}(h:CG K CL H A v (.tup ds)):∃ a xs,v=.ref a/\(¬ A a\/KT K a xs)/\SqT K H a xs/\Reps K CL H A xs ds:=by
 rcases h with ⟨a,xs,e,n,s,r⟩|⟨_,_,_,_,e,_⟩
 .exact⟨a,xs,e,n,s,r⟩
 .cases e
theorem cR{i j:Ag}(h:FJ i j=Aa):Nv i j:=by
 unfold FJ at h;simp only[CY,Al,AQ]at h;unfold Nv;omega
theorem Sr{a:Ag}(h:a.natAbs<2 ^ 2000):VP a<=2 ^ 20:=by
 unfold VP;split
 .omega
 .rename_i hz;have h0:a.natAbs≠0:=by intro z;exact hz (by rw[Int.natAbs_eq_zero.mp z];rfl)
  have:=(Nat.log2_lt h0).mpr h;omega
theorem cQ{i j:Ag}(h:(FJ i j||Nb i j)=Aa):K5 i j:=by
 rcases Bool.or_eq_true_iff.mp h with h|h
 .exact(cR h).ok
 .unfold Nb at h;rw[Al,AQ,AQ]at h;exact .of_bits (Sr h.1) (Sr h.2)
theorem dX:OpR X (BZ .Mult) (rI K5 λi j=>.int (i*j)):=opI λ_ _ _ _ _ _ _ hc q=>mul_int q hc
theorem Iz(h:BD n=Aa):n<=sizeLine:=by
 unfold BD at h;rw[B9];have:=Gb h;omega
theorem R6{p:Ak}{ds:Ac D}(hA:AOk H A)(hp:H p=Af)(r:Reps K CL H A xs ds):Rep K CL (upd H p (.lst xs)) A (.ref p) (.lst ds):=
 ⟨p,xs,rfl,.inl (hA.new hp),SqL.of GF,r.same λb o e=>by rw[B6 (FH e hp)];exact e⟩
theorem Kt{p:Ak}{ds:Ac D}(hA:AOk H A)(hp:H p=Af)(r:Reps K CL H A xs ds):Rep K CL (upd H p (.tup xs)) A (.ref p) (.tup ds):=
 ⟨p,xs,rfl,.inl (hA.new hp),SqT.of GF,r.same λb o e=>by rw[B6 (FH e hp)];exact e⟩
theorem FI{p:Ak}(h:H p=Af)(o:HO):AG H (upd H p o):=λb u q=>by rw[B6 (FH q h)];exact q
def oQ(K:Fg):R2:=λx y H Q=>∃ l b xs zs,x=.ref l/\y=.ref b/\SqL K H l xs/\SqL K H b zs/\xs.length+zs.length<=sizeLine/\∀ p,H p=Af->Q (.ref p) (upd H p (.lst (xs++zs)))
end
section
variable{X:Cx}{CL:ClA}{W:XW}
theorem RY:OpR X (BZ .Add) (oQ X.K):=by
 intro pI s Y H x y v u Q I rx ry h;obtain⟨l,b,xs,zs,rfl,rfl,hH,hB,hz,q⟩:=h;cases rx;cases ry;obtain⟨its,r,⟨o,n,e,c,dd,dt⟩,z⟩:=I.list hH;obtain⟨its2,r2,⟨o2,n2,e2,c2,dd2,dt2⟩,z2⟩:=I.list hB;have hl:=r.length;have hl2:=r2.length;obtain⟨cls,dd0,data,sl⟩:=o;obtain⟨cls2,dd02,data2,sl2⟩:=o2;simp only at c dd dt c2 dd2 dt2;subst c dd dt c2 dd2 dt2;have ea:its.toArray++its2.toArray=(its++its2).toArray:=by simp
 refine Ja ⟨_,e,rfl⟩ ⟨_,e2,rfl⟩ noFill_list_add seq_list_add PySem.F.slot_list_add PySem.F.entry_list_add (PySem.F.args_list_add_2 _ _) (list_addW l b its.toArray its2.toArray n n2 Af Af sl sl2 (by simp;omega)) ⟨e,e2,?_⟩
 rw[ea];exact⟨.ref _,_,I.lnew (t':=s.toks) (r.append r2) (by rw[Be];omega),rfl,q _ I.fresh⟩
theorem RX:OpD X CL W (BZ .Add) (BX .Add):=by
 intro A pI s Y H x y v u Q I rx ry ⟨hA,dx,dy,hx,hy,p⟩;cases dx with
 |int i=>
  cases dy with
  |int j=>
   have ex:=hx.int_of;have ey:=hy.int_of
   subst ex ey;exact iM pI s Y H _ _ v u Q I rx ry ⟨i,j,rfl,rfl,p _ H (AG.refl H) rfl⟩
  |_=>exact p.elim
 |str i=>
  cases dy with
  |str j=>
   have ex:=hx.str_of;have ey:=hy.str_of
   subst ex ey;simp only[JO]at p;split at p
   .rename_i h;exact Yk pI s Y H _ _ v u Q I rx ry ⟨i,j,rfl,rfl,Iz h,p _ H (AG.refl H) rfl⟩
   .exact p.elim
  |_=>exact p.elim
 |lst ds=>
  cases dy with
  |lst es=>
   obtain⟨a,xs,rfl,s1,r1⟩:=hx.lst_of;obtain⟨b,ys,rfl,s2,r2⟩:=hy.lst_of;simp only[IG]at p;split at p
   .rename_i h;refine RY pI s Y H _ _ v u Q I rx ry ⟨a,b,xs,ys,rfl,rfl,s1,s2,by rw[r1.length,r2.length];exact Iz h,λq hq=>?_⟩
    exact p _ _ (FI hq _) (R6 hA hq (r1.append r2))
   .exact p.elim
  |_=>exact p.elim
 |tup ds=>
  cases dy with
  |tup es=>
   obtain⟨a,xs,rfl,na1,s1,r1⟩:=hx.tup_of;obtain⟨b,ys,rfl,_,s2,r2⟩:=hy.tup_of;simp only[SF]at p;split at p
   .rename_i h;simp only[Al]at h;refine dZ pI s Y H _ _ v u Q I rx ry ⟨a,b,xs,ys,rfl,rfl,s1,s2,?_,by rw[r1.length,r2.length];exact Iz h.2,λhy0=>?_,λ_ q hq=>?_⟩
    .rintro rfl;cases ds with
     |nil=>cases h.1
     |cons _ _=>exact r1.elim
    .subst hy0;cases es with
     |nil=>rw[Bo]at p;exact p _ H (AG.refl H) ⟨a,xs,rfl,na1,s1,r1⟩
     |cons _ _=>exact r2.elim
    .exact p _ _ (FI hq _) (Kt hA hq (r1.append r2))
   .exact p.elim
  |_=>exact p.elim
 |_=>exact p.elim
theorem Mw{op:Fd}{C:Ag->Ag->Prop}{g:Ag->Ag->Ag}(ho:OpR X (BZ op) (rI C λi j=>.int (g i j)))(hg:∀ dx dy,(∃ i j,dx=.int i/\dy=.int j/\((C i j/\BX op dx dy=.ok (.int (g i j)))\/BX op dx dy=.bad))\/BX op dx dy=.bad):OpD X CL W (BZ op) (BX op):=by
 intro A pI s Y H x y v u Q I rx ry ⟨hA,dx,dy,hx,hy,p⟩;rcases hg dx dy with ⟨i,j,rfl,rfl,⟨c,e⟩|e⟩|e
 .have ex:=hx.int_of;have ey:=hy.int_of
  subst ex ey;rw[e]at p;exact ho pI s Y H _ _ v u Q I rx ry ⟨i,j,rfl,rfl,c,p _ H (AG.refl H) rfl⟩
 .rw[e]at p;exact p.elim
 .rw[e]at p;exact p.elim
theorem dQ:OpD X CL W (BZ .Sub) (BX .Sub):=by
 intro A pI s Y H x y v u Q I rx ry ⟨hA,dx,dy,hx,hy,p⟩;cases dx with
 |int i=>
  cases dy with
  |int j=>
   have ex:=hx.int_of;have ey:=hy.int_of
   subst ex ey;exact kA pI s Y H _ _ v u Q I rx ry ⟨i,j,rfl,rfl,p _ H (AG.refl H) rfl⟩
  |_=>exact p.elim
 |_=>exact p.elim
theorem dS:OpD X CL W (BZ .Mult) (BX .Mult):=Mw dX λdx dy=>by
 cases dx with
 |int i=>
  cases dy with
  |int j=>
   refine .inl ⟨i,j,rfl,rfl,?_⟩;rw[iS];split
   .rename_i h;exact .inl ⟨cQ h,rfl⟩
   .exact .inr rfl
  |_=>exact .inr rfl
 |_=>exact .inr rfl
theorem ZN:OpD X CL W (BZ .FloorDiv) (BX .FloorDiv):=Mw dY λdx dy=>by
 cases dx with
 |int i=>
  cases dy with
  |int j=>
   refine .inl ⟨i,j,rfl,rfl,?_⟩;rw[cK];split
   .rename_i h;exact .inl ⟨h,rfl⟩
   .exact .inr rfl
  |_=>exact .inr rfl
 |_=>exact .inr rfl
theorem dU:OpD X CL W (BZ .Mod) (BX .Mod):=Mw iK λdx dy=>by
 cases dx with
 |int i=>
  cases dy with
  |int j=>
   refine .inl ⟨i,j,rfl,rfl,?_⟩;rw[iU];split
   .rename_i h;exact .inl ⟨h,rfl⟩
   .exact .inr rfl
  |_=>exact .inr rfl
 |_=>exact .inr rfl
theorem dR:OpD X CL W (BZ .Pow) (BX .Pow):=Mw kB λdx dy=>by
 cases dx with
 |int i=>
  cases dy with
  |int j=>
   refine .inl ⟨i,j,rfl,rfl,?_⟩;rw[jP];split
   .rename_i h;exact .inl ⟨⟨h.1.1,h.1.2,by omega⟩,rfl⟩
   .exact .inr rfl
  |_=>exact .inr rfl
 |_=>exact .inr rfl
theorem Oy(op:Fd):OpD X CL W (BZ op) (BX op):=by
 cases op with
 |Add=>exact RX
 |Sub=>exact dQ
 |Mult=>exact dS
 |FloorDiv=>exact ZN
 |Mod=>exact dU
 |Pow=>exact dR
 |_=>
  intro A pI s Y H x y v u Q I rx ry ⟨hA,dx,dy,hx,hy,p⟩;exact p.elim
noncomputable abbrev A0:Ak->Prop:=λ_=>A5
theorem CG.plain(h:CG K CL H A v d):Rep K CL H A0 v d:=by
 rcases h with h|⟨a,xs,ds,rfl,rfl,e,r⟩
 .exact Rep.sub (λ_ z=>z.elim) d h
 .exact⟨a,xs,rfl,.inl λz=>z.elim,SqL.of e,Reps.sub (λ_ z=>z.elim) ds r⟩
mutual
theorem Mm:∀(n:Ae)(d:D),flD n d=Aa->eqD d d=Aa
 |_,.non,_=>rfl
 |_,.bl b,_=>by simp
 |_,.int i,_=>by simp
 |_,.str x,_=>by simp
 |n+1,.tup ds,h=>by
  show eqDs ds ds=Aa;exact eqDs_refl n ds h
 |n+1,.lst ds,h=>by
  show eqDs ds ds=Aa;exact eqDs_refl n ds h
 |0,.tup ds,h=>by cases h
 |0,.lst ds,h=>by cases h
 |n,.obj _ _,h=>by cases n<;>cases h
 |n,.exc _ _,h=>by cases n<;>cases h
 |n,.dic _,h=>by cases n<;>cases h
theorem eqDs_refl:∀(n:Ae)(ds:Ac D),ds.all (flD n)=Aa->eqDs ds ds=Aa
 |_,[],_=>rfl
 |n,d::ds,h=>by
  simp only[C5,Al]at h;simp only[NU,Al];exact⟨Mm n d h.1,eqDs_refl n ds h.2⟩
end
theorem Qw(I:Inv X pI Y H s)(h:SqL X.K H a xs)(h':SqT X.K H a ys):A5:=by
 obtain⟨its,r,⟨o,n,e,c,_,_⟩,_⟩:=I.list h;obtain⟨its',r',⟨o',e',c',_⟩,_⟩:=I.tuple h';rw[e]at e';cases e';rw[c]at c'
 injection c' with z
 exact absurd z (by decide)
mutual
theorem Mt{pI:Pn}{Y:L2.St}{H:Hp}{s:Ap}(I:Inv X pI Y H s):∀(n:Ae)(d e:D){v:V},flD n d=Aa->flD n e=Aa->Rep X.K CL H A0 v d->Rep X.K CL H A0 v e->d=e
 |n,.tup ds,e,v,hd,he,r,q=>by
  obtain⟨a,xs,rfl,_,s1,r1⟩:=r;cases e with
  |tup es=>
   obtain⟨b,ys,e,_,s2,r2⟩:=q;cases e;have z:=I.tuple_inj s1 s2;subst z;cases n with
   |zero=>cases hd
   |succ n=>rw[reps_inj I n ds es hd he r1 r2]
  |lst es=>
   obtain⟨b,ys,e,_,s2,r2⟩:=q;cases e;exact(Qw I s2 s1).elim
  |obj=>cases n<;>cases he
  |exc=>cases n<;>cases he
  |dic=>cases n<;>cases he
  |_=>cases q
 |n,.lst ds,e,v,hd,he,r,q=>by
  obtain⟨a,xs,rfl,_,s1,r1⟩:=r;cases e with
  |lst es=>
   obtain⟨b,ys,e,_,s2,r2⟩:=q;cases e;have z:=I.list_inj s1 s2;subst z;cases n with
   |zero=>cases hd
   |succ n=>rw[reps_inj I n ds es hd he r1 r2]
  |tup es=>
   obtain⟨b,ys,e,_,s2,r2⟩:=q;cases e;exact(Qw I s1 s2).elim
  |obj=>cases n<;>cases he
  |exc=>cases n<;>cases he
  |dic=>cases n<;>cases he
  |_=>cases q
 |n,.obj _ _,e,v,hd,he,r,q=>by cases n<;>cases hd
 |n,.exc _ _,e,v,hd,he,r,q=>by cases n<;>cases hd
 |n,.dic _,e,v,hd,he,r,q=>by cases n<;>cases hd
 |n,.non,e,v,hd,he,r,q=>by
  cases r;cases e with
  |tup=>obtain⟨_,_,z,_⟩:=q;cases z
  |lst=>obtain⟨_,_,z,_⟩:=q;cases z
  |obj=>cases n<;>cases he
  |exc=>cases n<;>cases he
  |dic=>cases n<;>cases he
  |_=>cases q<;>rfl
 |n,.bl b,e,v,hd,he,r,q=>by
  cases r;cases e with
  |tup=>obtain⟨_,_,z,_⟩:=q;cases z
  |lst=>obtain⟨_,_,z,_⟩:=q;cases z
  |obj=>cases n<;>cases he
  |exc=>cases n<;>cases he
  |dic=>cases n<;>cases he
  |_=>cases q<;>rfl
 |n,.int b,e,v,hd,he,r,q=>by
  cases r;cases e with
  |tup=>obtain⟨_,_,z,_⟩:=q;cases z
  |lst=>obtain⟨_,_,z,_⟩:=q;cases z
  |obj=>cases n<;>cases he
  |exc=>cases n<;>cases he
  |dic=>cases n<;>cases he
  |_=>cases q<;>rfl
 |n,.str b,e,v,hd,he,r,q=>by
  cases r;cases e with
  |tup=>obtain⟨_,_,z,_⟩:=q;cases z
  |lst=>obtain⟨_,_,z,_⟩:=q;cases z
  |obj=>cases n<;>cases he
  |exc=>cases n<;>cases he
  |dic=>cases n<;>cases he
  |_=>cases q<;>rfl
theorem reps_inj{pI:Pn}{Y:L2.St}{H:Hp}{s:Ap}(I:Inv X pI Y H s):∀(n:Ae)(ds es:Ac D){xs:Ac V},ds.all (flD n)=Aa->es.all (flD n)=Aa->Reps X.K CL H A0 xs ds->Reps X.K CL H A0 xs es->ds=es
 |_,[],[],_,_,_,_,_=>rfl
 |n,d::ds,e::es,x::xs,hd,he,r,q=>by
  simp only[C5,Al]at hd he;rw[Mt I n d e hd.1 he.1 r.1 q.1,reps_inj I n ds es hd.2 he.2 r.2 q.2]
 |_,[],_::_,[],_,_,_,q=>q.elim
 |_,[],_::_,_::_,_,_,r,_=>r.elim
 |_,_::_,[],[],_,_,r,_=>r.elim
 |_,_::_,[],_::_,_,_,_,q=>q.elim
 |_,_::_,_::_,[],_,_,r,_=>r.elim
end
theorem Lo:∀{ds es:Ac D},ds.length≠es.length->eqDs ds es=Ad
 |[],[],h=>absurd rfl h
 |[],_::_,_=>rfl
 |_::_,[],_=>rfl
 |d::ds,e::es,h=>by
  simp only[NU,Lo (ds:=ds) (es:=es) (by simpa using h),Fn]
theorem P7(n:Ae)(f:Ae->Ai):(A8 (n+1)).all f=(f 0&&(A8 n).all λj=>f (j+1)):=by
 rw[EG,C5,E9];rfl
theorem Lp:∀{ds es:Ac D},ds.length=es.length->eqDs ds es=(A8 ds.length).all λj=>eqD (ds.getD j .non) (es.getD j .non)
 |[],[],_=>rfl
 |d::ds,e::es,h=>by
  rw[NU,Lp (ds:=ds) (es:=es) (by simpa using h),AS,P7]
  rfl
 |[],_::_,h=>by cases h
 |_::_,[],h=>by cases h
theorem JN{ds:Ac D}{its:Ac Aj}(r:Reps K CL H A0 xs ds)(rv:A6 xs its){j:Ae}(h:j<its.length):∃ x,Rep K CL H A0 x (ds.getD j .non)/\Bx x its[j]:=by
 have e1:=rv.length;have e2:=r.length;have hd:ds[j]?=Ab (ds.getD j .non):=by
  rw[Ba,AE (by omega)];rfl
 obtain⟨x,hx,q⟩:=r.get hd;obtain⟨u,hu,ru⟩:=rv.get hx;refine⟨x,q,?_⟩;rw[AE h]at hu;cases hu;exact ru
theorem JE{ds:Ac D}(h:ds.all (flD n)=Aa)(j:Ae):flD n (ds.getD j .non)=Aa:=by
 rw[Ba];cases e:ds[j]? with
 |none=>cases n<;>rfl
 |some d=>exact List.all_eq_true.mp h d (Vm e)
def Cu(B:AT)(s:Ap)(u t:Aj)(k:Ai):Prop:=J4 B s u t k/\Gj B s u t k/\IZ B s u t (!k)
section
variable{B:AT}{s:Ap}
open SeqAt
theorem mZ:Cu B s .none .none Aa:=⟨RcAt.none_none,EqAt.same _,RcNeAt.none_none⟩
theorem mJ(a b:Ai):Cu B s (.bool a) (.bool b) (a==b):=⟨RcAt.bool_bool _ _,EqAt.bool_bool _ _,RcNeAt.bool_bool _ _⟩
theorem nE(b:Ai):Cu B s .none (.bool b) Ad:=⟨RcAt.none_bool _,EqAt.none_bool _,RcNeAt.none_bool _⟩
theorem mG(b:Ai):Cu B s (.bool b) .none Ad:=⟨RcAt.bool_none _,EqAt.bool_none _,RcNeAt.bool_none _⟩
theorem mC(a:Ag)(t:BV)(b:Ag)(u:BV):Cu B s (.int a t) (.int b u) (a==b):=⟨RcAt.int_int _ _ _ _,EqAt.int_int _ _ _ _,RcNeAt.int_int _ _ _ _⟩
theorem mS(a:Ah)(t:BV)(b:Ah)(u:BV):Cu B s (.str a t) (.str b u) (a==b):=⟨RcAt.str_str _ _ _ _,EqAt.str_str _ _ _ _,RcNeAt.str_str _ _ _ _⟩
theorem nL(a:Ag)(t:BV)(b:Ah)(u:BV):Cu B s (.int a t) (.str b u) Ad:=⟨RcAt.int_str _ _ _ _,EqAt.int_str _ _ _ _,RcNeAt.int_str _ _ _ _⟩
theorem mV(a:Ah)(t:BV)(b:Ag)(u:BV):Cu B s (.str a t) (.int b u) Ad:=⟨RcAt.str_int _ _ _ _,EqAt.str_int _ _ _ _,RcNeAt.str_int _ _ _ _⟩
theorem nC(b:Ag)(u:BV):Cu B s .none (.int b u) Ad:=⟨RcAt.none_int _ _,EqAt.none_int _ _,RcNeAt.none_int _ _⟩
theorem nM(b:Ag)(u:BV):Cu B s (.int b u) .none Ad:=⟨RcAt.int_none _ _,EqAt.int_none _ _,RcNeAt.int_none _ _⟩
theorem mY(b:Ah)(u:BV):Cu B s .none (.str b u) Ad:=⟨RcAt.none_str _ _,EqAt.none_str _ _,RcNeAt.none_str _ _⟩
theorem mT(b:Ah)(u:BV):Cu B s (.str b u) .none Ad:=⟨RcAt.str_none _ _,EqAt.str_none _ _,RcNeAt.str_none _ _⟩
theorem mI(a:Ai)(b:Ag)(u:BV):Cu B s (.bool a) (.int b u) (b2i a==b):=⟨RcAt.bool_int _ _ _,EqAt.bool_int _ _ _,RcNeAt.bool_int _ _ _⟩
theorem mD(a:Ai)(b:Ag)(u:BV):Cu B s (.int b u) (.bool a) (b==b2i a):=⟨RcAt.int_bool _ _ _,EqAt.int_bool _ _ _,RcNeAt.int_bool _ _ _⟩
theorem mF(a:Ai)(b:Ah)(u:BV):Cu B s (.bool a) (.str b u) Ad:=⟨RcAt.bool_str _ _ _,EqAt.bool_str _ _ _,RcNeAt.bool_str _ _ _⟩
theorem mW(a:Ai)(b:Ah)(u:BV):Cu B s (.str b u) (.bool a) Ad:=⟨RcAt.str_bool _ _ _,EqAt.str_bool _ _ _,RcNeAt.str_bool _ _ _⟩
variable{l:Ak}{items:Ax Aj}
theorem nH(h:s.heap.IsList l items)(hu:B.units<Cf):Cu B s (.ref l) .none Ad:=⟨RcAt.list_none h hu,EqAt.list_none h hu,RcNeAt.list_none h hu⟩
theorem nB(h:s.heap.IsList l items)(hu:B.units<Cf):Cu B s .none (.ref l) Ad:=⟨RcAt.none_list h hu,EqAt.none_list h hu,RcNeAt.none_list h hu⟩
theorem nJ(b:Ai)(h:s.heap.IsList l items)(hu:B.units<Cf):Cu B s (.ref l) (.bool b) Ad:=⟨RcAt.list_bool b h hu,EqAt.list_bool b h hu,RcNeAt.list_bool b h hu⟩
theorem mH(b:Ai)(h:s.heap.IsList l items)(hu:B.units<Cf):Cu B s (.bool b) (.ref l) Ad:=⟨RcAt.bool_list b h hu,EqAt.bool_list b h hu,RcNeAt.bool_list b h hu⟩
theorem nI(b:Ag)(u:BV)(h:s.heap.IsList l items)(hu:B.units<Cf):Cu B s (.ref l) (.int b u) Ad:=⟨RcAt.list_int b u h hu,EqAt.list_int b u h hu,RcNeAt.list_int b u h hu⟩
theorem mB(b:Ag)(u:BV)(h:s.heap.IsList l items)(hu:B.units<Cf):Cu B s (.int b u) (.ref l) Ad:=⟨RcAt.int_list b u h hu,EqAt.int_list b u h hu,RcNeAt.int_list b u h hu⟩
theorem nG(b:Ah)(u:BV)(h:s.heap.IsList l items)(hu:B.units<Cf):Cu B s (.ref l) (.str b u) Ad:=⟨RcAt.list_str b u h hu,EqAt.list_str b u h hu,RcNeAt.list_str b u h hu⟩
theorem mU(b:Ah)(u:BV)(h:s.heap.IsList l items)(hu:B.units<Cf):Cu B s (.str b u) (.ref l) Ad:=⟨RcAt.str_list b u h hu,EqAt.str_list b u h hu,RcNeAt.str_list b u h hu⟩
theorem mM(h:s.heap.IsTuple l items)(hu:B.units<Cf):Cu B s (.ref l) .none Ad:=⟨RcAt.tuple_none h hu,EqAt.tuple_none h hu,RcNeAt.tuple_none h hu⟩
theorem mX(h:s.heap.IsTuple l items)(hu:B.units<Cf):Cu B s .none (.ref l) Ad:=⟨RcAt.none_tuple h hu,EqAt.none_tuple h hu,RcNeAt.none_tuple h hu⟩
theorem mQ(b:Ai)(h:s.heap.IsTuple l items)(hu:B.units<Cf):Cu B s (.ref l) (.bool b) Ad:=⟨RcAt.tuple_bool b h hu,EqAt.tuple_bool b h hu,RcNeAt.tuple_bool b h hu⟩
theorem mE(b:Ai)(h:s.heap.IsTuple l items)(hu:B.units<Cf):Cu B s (.bool b) (.ref l) Ad:=⟨RcAt.bool_tuple b h hu,EqAt.bool_tuple b h hu,RcNeAt.bool_tuple b h hu⟩
theorem mP(b:Ag)(u:BV)(h:s.heap.IsTuple l items)(hu:B.units<Cf):Cu B s (.ref l) (.int b u) Ad:=⟨RcAt.tuple_int b u h hu,EqAt.tuple_int b u h hu,RcNeAt.tuple_int b u h hu⟩
theorem nK(b:Ag)(u:BV)(h:s.heap.IsTuple l items)(hu:B.units<Cf):Cu B s (.int b u) (.ref l) Ad:=⟨RcAt.int_tuple b u h hu,EqAt.int_tuple b u h hu,RcNeAt.int_tuple b u h hu⟩
theorem mL(b:Ah)(u:BV)(h:s.heap.IsTuple l items)(hu:B.units<Cf):Cu B s (.ref l) (.str b u) Ad:=⟨RcAt.tuple_str b u h hu,EqAt.tuple_str b u h hu,RcNeAt.tuple_str b u h hu⟩
theorem mR(b:Ah)(u:BV)(h:s.heap.IsTuple l items)(hu:B.units<Cf):Cu B s (.str b u) (.ref l) Ad:=⟨RcAt.str_tuple b u h hu,EqAt.str_tuple b u h hu,RcNeAt.str_tuple b u h hu⟩
theorem nF(h:s.heap.IsList l items)(h2:s.heap.IsTuple b items2)(hu:B.units<Cf):Cu B s (.ref l) (.ref b) Ad:=⟨RcAt.list_tuple h h2 hu,EqAt.list_tuple h h2 hu,RcNeAt.list_tuple h h2 hu⟩
theorem mO(h:s.heap.IsTuple l items)(h2:s.heap.IsList b items2)(hu:B.units<Cf):Cu B s (.ref l) (.ref b) Ad:=⟨RcAt.tuple_list h h2 hu,EqAt.tuple_list h h2 hu,RcNeAt.tuple_list h h2 hu⟩
end
end
section
variable{X:Cx}{CL:ClA}{W:XW}
theorem KB(x:PlainL h a its):h.IsList a its:=let ⟨o,n,e,c,_,d⟩:=x;⟨o,e,c,n,d⟩
def rF(X:Cx)(CL:ClA)(H:Hp)(s:Ap)(d:D)(u:Aj):Prop:=match d with
  |.non=>u=.none
  |.bl b=>u=.bool b
  |.int i=>∃ t,u=.int i t
  |.str x=>∃ t,u=.str x t
  |.tup ds=>∃ a xs its,u=.ref a/\Reps X.K CL H A0 xs ds/\A6 xs its/\s.heap.IsTuple a its.toArray
  |.lst ds=>∃ a xs its,u=.ref a/\Reps X.K CL H A0 xs ds/\A6 xs its/\s.heap.IsList a its.toArray
  |_=>A5
theorem Sd(I:Inv X pI Y H s)(hd:flD n d=Aa)(r:Rep X.K CL H A0 v d)(q:Bx v u):rF X CL H s d u:=by
 cases d with
 |non=>cases r;exact q
 |bl b=>cases r;exact q
 |int b=>cases r;exact q
 |str b=>cases r;exact q
 |tup ds=>
  obtain⟨a,xs,rfl,_,sq,r⟩:=r;obtain⟨its,rv,p,_⟩:=I.tuple sq;cases q;exact⟨a,xs,its,rfl,r,rv,p⟩
 |lst ds=>
  obtain⟨a,xs,rfl,_,sq,r⟩:=r;obtain⟨its,rv,p,_⟩:=I.list sq;cases q;exact⟨a,xs,its,rfl,r,rv,KB p⟩
 |obj=>cases n<;>cases hd
 |exc=>cases n<;>cases hd
 |dic=>cases n<;>cases hd
theorem aZ{B:AT}{its:Ac Aj}{ds es:Ac D}(hl:s.heap.IsList l its.toArray)(hb:s.heap.IsList b its2.toArray)(e1:its.length=ds.length)(e2:its2.length=es.length)(hu:B.units<Cf)(hs:l=b->eqDs ds es=Aa)(he:∀ j (h1:j<its.length) (h2:j<its2.length),Gj B.in1 s its[j] its2[j] (eqD (ds.getD j .non) (es.getD j .non))):Cu B s (.ref l) (.ref b) (eqDs ds es):=by
 have rc:J4 B s (.ref l) (.ref b) (eqDs ds es):=by
  by_cases hz:its.length=its2.length
  .have q:=SeqAt.RcAt.lists (e:=λj=>eqD (ds.getD j .non) (es.getD j .non)) hl hb (by simpa using hz) hu (λj h1 h2=>by simpa using he j (by simpa using h1) (by simpa using h2))
   rw[Lp (by omega)]
   have e:its.toArray.size=ds.length:=by simpa using e1
   rw[e]at q;exact q
  .rw[Lo (by omega)]
   exact SeqAt.RcAt.lists_lengths hl hb (by simpa using hz) hu
 have ne:IZ B s (.ref l) (.ref b) (!eqDs ds es):=by
  by_cases hz:its.length=its2.length
  .have q:=SeqAt.RcNeAt.lists (e:=λj=>eqD (ds.getD j .non) (es.getD j .non)) hl hb (by simpa using hz) hu (λj h1 h2=>by simpa using he j (by simpa using h1) (by simpa using h2))
   rw[Lp (by omega)]
   have e:its.toArray.size=ds.length:=by simpa using e1
   rw[e]at q;exact q
  .rw[Lo (by omega)]
   exact SeqAt.RcNeAt.lists_lengths hl hb (by simpa using hz) hu
 refine⟨rc,?_,ne⟩;by_cases hlb:l=b
 .rw[hs hlb,hlb];exact WL _
 .exact WK hlb rc
theorem aY{B:AT}{its:Ac Aj}{ds es:Ac D}(hl:s.heap.IsTuple l its.toArray)(hb:s.heap.IsTuple b its2.toArray)(e1:its.length=ds.length)(e2:its2.length=es.length)(hu:B.units<Cf)(hs:l=b->eqDs ds es=Aa)(he:∀ j (h1:j<its.length) (h2:j<its2.length),Gj B.in1 s its[j] its2[j] (eqD (ds.getD j .non) (es.getD j .non))):Cu B s (.ref l) (.ref b) (eqDs ds es):=by
 have rc:J4 B s (.ref l) (.ref b) (eqDs ds es):=by
  have q:=SeqAt.RcAt.tuples (e:=λj=>eqD (ds.getD j .non) (es.getD j .non)) hl hb hu (λj h1 h2=>by simpa using he j (by simpa using h1) (by simpa using h2))
  have e:its.toArray.size=ds.length:=by simpa using e1
  have e':its2.toArray.size=es.length:=by simpa using e2
  rw[e,e']at q;by_cases hz:ds.length=es.length
  .rw[Lp hz];rw[hz,Vz,EX,UY]at q;rw[hz];exact q
  .rw[Lo hz];rw[E4.mpr hz,Fn]at q;exact q
 have ne:IZ B s (.ref l) (.ref b) (!eqDs ds es):=by
  have q:=SeqAt.RcNeAt.tuples (e:=λj=>eqD (ds.getD j .non) (es.getD j .non)) hl hb hu (λj h1 h2=>by simpa using he j (by simpa using h1) (by simpa using h2))
  have e:its.toArray.size=ds.length:=by simpa using e1
  have e':its2.toArray.size=es.length:=by simpa using e2
  rw[e,e']at q;by_cases hz:ds.length=es.length
  .rw[Lp hz];rw[hz,Vz,EX,UY]at q;rw[hz];exact q
  .rw[Lo hz];rw[E4.mpr hz,Fn]at q;exact q
 refine⟨rc,?_,ne⟩;by_cases hlb:l=b
 .rw[hs hlb,hlb];exact WL _
 .exact WK hlb rc
theorem Ly{pI:Pn}{Y:L2.St}{H:Hp}{s:Ap}(I:Inv X pI Y H s):∀(n:Ae)(d e:D)(v w':V)(u t:Aj)(B:AT),flD n d=Aa->flD n e=Aa->Rep X.K CL H A0 v d->Rep X.K CL H A0 w' e->Bx v u->Bx w' t->B.units+n<Cf->Cu B s u t (eqD d e)
  |n,d,e,v,w',u,t,B,hd,he,r,q,rv,rw',hu=>by
    have hu0:B.units<Cf:=by omega
    have sd:=Sd I hd r rv;have se:=Sd I he q rw'
    match d,e,sd,se with
    |.non,.non,s1,s2=>cases s1;cases s2;exact mZ
    |.non,.bl b,s1,s2=>cases s1;cases s2;exact nE b
    |.non,.int b,s1,s2=>cases s1;obtain⟨_,rfl⟩:=s2;exact nC b _
    |.non,.str b,s1,s2=>cases s1;obtain⟨_,rfl⟩:=s2;exact mY b _
    |.non,.tup es,s1,s2=>cases s1;obtain⟨_,_,_,rfl,_,_,p⟩:=s2;exact mX p hu0
    |.non,.lst es,s1,s2=>cases s1;obtain⟨_,_,_,rfl,_,_,p⟩:=s2;exact nB p hu0
    |.bl a,.non,s1,s2=>cases s1;cases s2;exact mG a
    |.bl a,.bl b,s1,s2=>cases s1;cases s2;exact mJ a b
    |.bl a,.int b,s1,s2=>cases s1;obtain⟨_,rfl⟩:=s2;exact mI a b _
    |.bl a,.str b,s1,s2=>cases s1;obtain⟨_,rfl⟩:=s2;exact mF a b _
    |.bl a,.tup es,s1,s2=>cases s1;obtain⟨_,_,_,rfl,_,_,p⟩:=s2;exact mE a p hu0
    |.bl a,.lst es,s1,s2=>cases s1;obtain⟨_,_,_,rfl,_,_,p⟩:=s2;exact mH a p hu0
    |.int a,.non,s1,s2=>obtain⟨_,rfl⟩:=s1;cases s2;exact nM a _
    |.int a,.bl b,s1,s2=>obtain⟨_,rfl⟩:=s1;cases s2;exact mD b a _
    |.int a,.int b,s1,s2=>obtain⟨_,rfl⟩:=s1;obtain⟨_,rfl⟩:=s2;exact mC a _ b _
    |.int a,.str b,s1,s2=>obtain⟨_,rfl⟩:=s1;obtain⟨_,rfl⟩:=s2;exact nL a _ b _
    |.int a,.tup es,s1,s2=>obtain⟨_,rfl⟩:=s1;obtain⟨_,_,_,rfl,_,_,p⟩:=s2;exact nK a _ p hu0
    |.int a,.lst es,s1,s2=>obtain⟨_,rfl⟩:=s1;obtain⟨_,_,_,rfl,_,_,p⟩:=s2;exact mB a _ p hu0
    |.str a,.non,s1,s2=>obtain⟨_,rfl⟩:=s1;cases s2;exact mT a _
    |.str a,.bl b,s1,s2=>obtain⟨_,rfl⟩:=s1;cases s2;exact mW b a _
    |.str a,.int b,s1,s2=>obtain⟨_,rfl⟩:=s1;obtain⟨_,rfl⟩:=s2;exact mV a _ b _
    |.str a,.str b,s1,s2=>obtain⟨_,rfl⟩:=s1;obtain⟨_,rfl⟩:=s2;exact mS a _ b _
    |.str a,.tup es,s1,s2=>obtain⟨_,rfl⟩:=s1;obtain⟨_,_,_,rfl,_,_,p⟩:=s2;exact mR a _ p hu0
    |.str a,.lst es,s1,s2=>obtain⟨_,rfl⟩:=s1;obtain⟨_,_,_,rfl,_,_,p⟩:=s2;exact mU a _ p hu0
    |.tup ds,.non,s1,s2=>cases s2;obtain⟨_,_,_,rfl,_,_,p⟩:=s1;exact mM p hu0
    |.tup ds,.bl b,s1,s2=>cases s2;obtain⟨_,_,_,rfl,_,_,p⟩:=s1;exact mQ b p hu0
    |.tup ds,.int b,s1,s2=>obtain⟨_,rfl⟩:=s2;obtain⟨_,_,_,rfl,_,_,p⟩:=s1;exact mP b _ p hu0
    |.tup ds,.str b,s1,s2=>obtain⟨_,rfl⟩:=s2;obtain⟨_,_,_,rfl,_,_,p⟩:=s1;exact mL b _ p hu0
    |.tup ds,.lst es,s1,s2=>obtain⟨_,_,_,rfl,_,_,p⟩:=s1;obtain⟨_,_,_,rfl,_,_,p2⟩:=s2;exact mO p p2 hu0
    |.lst ds,.non,s1,s2=>cases s2;obtain⟨_,_,_,rfl,_,_,p⟩:=s1;exact nH p hu0
    |.lst ds,.bl b,s1,s2=>cases s2;obtain⟨_,_,_,rfl,_,_,p⟩:=s1;exact nJ b p hu0
    |.lst ds,.int b,s1,s2=>obtain⟨_,rfl⟩:=s2;obtain⟨_,_,_,rfl,_,_,p⟩:=s1;exact nI b _ p hu0
    |.lst ds,.str b,s1,s2=>obtain⟨_,rfl⟩:=s2;obtain⟨_,_,_,rfl,_,_,p⟩:=s1;exact nG b _ p hu0
    |.lst ds,.tup es,s1,s2=>obtain⟨_,_,_,rfl,_,_,p⟩:=s1;obtain⟨_,_,_,rfl,_,_,p2⟩:=s2;exact nF p p2 hu0
    |.tup ds,.tup es,s1,s2=>
      match n,hd,he,hu with
      |n+1,hd,he,hu=>
        obtain⟨a,xs,its,rfl,r1,v1,p1⟩:=s1;obtain⟨b,ys,its2,rfl,r2,v2,p2⟩:=s2;have l1:=v1.length;have l2:=r1.length;have l3:=v2.length;have l4:=r2.length
        refine aY p1 p2 (by omega) (by omega) hu0 (λhab=>?_) λj h1 h2=>?_
        · have e1:v=.ref a:=Bx.inj rv rfl;have e2:w'=.ref b:=Bx.inj rw' rfl;subst e1 e2 hab;have z:=Mt I (n+1) _ _ hd he r q
          injection z with z
          rw[z];exact eqDs_refl n es he
        · obtain⟨x,rx,qx⟩:=JN r1 v1 h1;obtain⟨y,ry,qy⟩:=JN r2 v2 h2;exact(Ly I n _ _ x y _ _ B.in1 (JE hd j) (JE he j) rx ry qx qy (by show B.units+1+n<Cf;omega)).2.1
    |.lst ds,.lst es,s1,s2=>
      match n,hd,he,hu with
      |n+1,hd,he,hu=>
        obtain⟨a,xs,its,rfl,r1,v1,p1⟩:=s1;obtain⟨b,ys,its2,rfl,r2,v2,p2⟩:=s2;have l1:=v1.length;have l2:=r1.length;have l3:=v2.length;have l4:=r2.length
        refine aZ p1 p2 (by omega) (by omega) hu0 (λhab=>?_) λj h1 h2=>?_
        · have e1:v=.ref a:=Bx.inj rv rfl;have e2:w'=.ref b:=Bx.inj rw' rfl;subst e1 e2 hab;have z:=Mt I (n+1) _ _ hd he r q
          injection z with z
          rw[z];exact eqDs_refl n es he
        · obtain⟨x,rx,qx⟩:=JN r1 v1 h1;obtain⟨y,ry,qy⟩:=JN r2 v2 h2;exact(Ly I n _ _ x y _ _ B.in1 (JE hd j) (JE he j) rx ry qx qy (by show B.units+1+n<Cf;omega)).2.1
    |.obj _ _,_,s1,_=>exact s1.elim
    |.exc _ _,_,s1,_=>exact s1.elim
    |.dic _,_,s1,_=>exact s1.elim
    |_,.obj _ _,_,s2=>exact s2.elim
    |_,.exc _ _,_,s2=>exact s2.elim
    |_,.dic _,_,s2=>exact s2.elim
end
section
variable{X:Cx}{CL:ClA}{W:XW}
theorem MA(I:Inv X pI Y H s){ds:Ac D}{its:Ac Aj}(B:AT)(hd:flD n d=Aa)(hs:ds.all (flD n)=Aa)(r:Reps X.K CL H A0 xs ds)(rv:A6 xs its)(q:Rep X.K CL H A0 v d)(qv:Bx v u)(hu:B.units+n<Cf):∃ e:Aj->Ai,(∀ y,y∈its.toArray->Gj B s y u (e y))/\its.toArray.any e=ds.any λy=>eqD y d:=by
 have l1:=rv.length;have l2:=r.length
 have key:∀ y,y∈its->∃ k:Ai,Gj B s y u k/\∀ j (h:j<its.length),its[j]=y->eqD (ds.getD j .non) d=k:=λy hy=>by
  obtain⟨j,hj,rfl⟩:=Em hy;obtain⟨x,rx,qx⟩:=JN r rv hj;refine⟨eqD (ds.getD j .non) d,(Ly I n _ _ x v _ _ B (JE hs j) hd rx q qx qv hu).2.1,λj' hj' e=>?_⟩
  obtain⟨x',rx',qx'⟩:=JN r rv hj';rw[e]at qx';have z:=Bx.inj qx qx';subst z;rw[Mt I n _ _ (JE hs j') (JE hs j) rx' rx]
 have key2:∀ y,∃ k:Ai,y∈its->Gj B s y u k/\∀ j (h:j<its.length),its[j]=y->eqD (ds.getD j .non) d=k:=λy=>by
  by_cases hy:y∈its
  .obtain⟨k,hk⟩:=key y hy;exact⟨k,λ_=>hk⟩
  .exact⟨Aa,λh=>absurd h hy⟩
 refine⟨λy=>U_0 (key2 y),λy hy=>(EK (key2 y) (by simpa using hy)).1,?_⟩
 rw[Hx];simp only[List.any_toArray,FV];constructor
 .rintro⟨y,hy,hk⟩;obtain⟨j,hj,rfl⟩:=Em hy;have z:=(EK (key2 its[j]) hy).2 j hj rfl;rw[hk]at z;refine⟨ds.getD j .non,?_,z⟩;rw[Ba,AE (by omega)]
  exact BH _
 .rintro⟨y,hy,hk⟩;obtain⟨j,hj,rfl⟩:=Em hy;have hj':j<its.length:=by omega
  refine⟨its[j],BH _,?_⟩;have z:=(EK (key2 its[j]) (BH _)).2 j hj' rfl;rw[<-z,Ba,AE hj];exact hk
theorem Mh{g:Ag->Ag->Ai}(ho:OpR X (CC op) (rI0 λi j=>.bl (g i j)))(hg:∀ dx dy,(∃ i j,dx=.int i/\dy=.int j/\BK op dx dy=.ok (.bl (g i j)))\/BK op dx dy=.bad):OpD X CL W (CC op) (BK op):=by
 intro A pI s Y H x y v u Q I rx ry ⟨hA,dx,dy,hx,hy,p⟩;rcases hg dx dy with ⟨i,j,rfl,rfl,e⟩|e
 .have ex:=hx.int_of;have ey:=hy.int_of
  subst ex ey;rw[e]at p;exact ho pI s Y H _ _ v u Q I rx ry ⟨i,j,rfl,rfl,p _ H (AG.refl H) rfl⟩
 .rw[e]at p;exact p.elim
theorem SV{x:V}(h:CG X.K CL H A x d)(hd:d≠.non):x≠.non:=by
 rintro rfl;have h:=h.plain;cases d with
 |non=>exact hd rfl
 |tup=>obtain⟨_,_,e,_⟩:=h;cases e
 |lst=>obtain⟨_,_,e,_⟩:=h;cases e
 |obj=>obtain⟨_,_,_,_,e,_⟩:=h;cases e
 |exc=>obtain⟨_,_,_,e,_⟩:=h;cases e
 |dic=>exact h.elim
 |_=>cases h
theorem Mx(hu:X.A.units+64<Cf)(op:Do):OpD X CL W (CC op) (BK op):=by
 cases op with
 |Eq=>
  intro A pI s Y H x y v u Q I rx ry ⟨hA,dx,dy,hx,hy,p⟩;rw[pL]at p;split at p
  .rename_i h;simp only[Al]at h;exact(Ly I 5 dx dy x y v u X.A h.1 h.2 hx.plain hy.plain rx ry (by omega)).1 X.prog X.w X.xe _ ⟨.bl _,H,I,rfl,p _ H (AG.refl H) rfl⟩
  .exact p.elim
 |NotEq=>
  intro A pI s Y H x y v u Q I rx ry ⟨hA,dx,dy,hx,hy,p⟩;rw[oB]at p;split at p
  .rename_i h;simp only[Al]at h;exact(Ly I 5 dx dy x y v u X.A h.1 h.2 hx.plain hy.plain rx ry (by omega)).2.2 X.prog X.w X.xe _ ⟨.bl _,H,I,rfl,p _ H (AG.refl H) rfl⟩
  .exact p.elim
 |Lt=>
  refine Mh pC λdx dy=>?_
  cases dx with
  |int i=>
   cases dy with
   |int j=>exact .inl ⟨i,j,rfl,rfl,rfl⟩
   |_=>exact .inr rfl
  |_=>exact .inr rfl
 |LtE=>
  refine Mh pD λdx dy=>?_
  cases dx with
  |int i=>
   cases dy with
   |int j=>exact .inl ⟨i,j,rfl,rfl,rfl⟩
   |_=>exact .inr rfl
  |_=>exact .inr rfl
 |Gt=>
  refine Mh pE λdx dy=>?_
  cases dx with
  |int i=>
   cases dy with
   |int j=>exact .inl ⟨i,j,rfl,rfl,rfl⟩
   |_=>exact .inr rfl
  |_=>exact .inr rfl
 |GtE=>
  refine Mh pF λdx dy=>?_
  cases dx with
  |int i=>
   cases dy with
   |int j=>exact .inl ⟨i,j,rfl,rfl,rfl⟩
   |_=>exact .inr rfl
  |_=>exact .inr rfl
 |In=>
  intro A pI s Y H x y v u Q I rx ry ⟨hA,dx,dy,hx,hy,p⟩;cases dy with
  |lst es=>
   rw[qP]at p;split at p
   .rename_i h;simp only[Al]at h;obtain⟨a,xs,e,_,sq,r⟩:=hy.plain;subst e;cases ry;obtain⟨its,rv,pl,_⟩:=I.list sq;obtain⟨e,he,ha⟩:=MA I (n:=5) X.A.in1 h.1 h.2 r rv hx.plain rx (by show X.A.units+1+5<Cf;omega)
    refine SeqAt.in_listAt e (KB pl) he ?_;rw[ha];exact⟨.bl _,H,I,rfl,p _ H (AG.refl H) rfl⟩
   .exact p.elim
  |tup es=>
   rw[qO]at p;split at p
   .rename_i h;simp only[Al]at h;obtain⟨a,xs,e,_,sq,r⟩:=hy.plain;subst e;cases ry;obtain⟨its,rv,pl,_⟩:=I.tuple sq;obtain⟨e,he,ha⟩:=MA I (n:=5) X.A.in1 h.1 h.2 r rv hx.plain rx (by show X.A.units+1+5<Cf;omega)
    refine SeqAt.in_tupleAt e pl he ?_;rw[ha];exact⟨.bl _,H,I,rfl,p _ H (AG.refl H) rfl⟩
   .exact p.elim
  |dic kvs=>exact hy.plain.elim
  |_=>exact p.elim
 |NotIn=>
  intro A pI s Y H x y v u Q I rx ry ⟨hA,dx,dy,hx,hy,p⟩;cases dy with
  |lst es=>
   rw[nY]at p;split at p
   .rename_i h;simp only[Al]at h;obtain⟨a,xs,e,_,sq,r⟩:=hy.plain;subst e;cases ry;obtain⟨its,rv,pl,_⟩:=I.list sq;obtain⟨e,he,ha⟩:=MA I (n:=5) X.A.in1 h.1 h.2 r rv hx.plain rx (by show X.A.units+1+5<Cf;omega)
    refine SeqAt.notIn_listAt e (KB pl) he ?_;rw[ha];exact⟨.bl _,H,I,rfl,p _ H (AG.refl H) rfl⟩
   .exact p.elim
  |tup es=>
   rw[nX]at p;split at p
   .rename_i h;simp only[Al]at h;obtain⟨a,xs,e,_,sq,r⟩:=hy.plain;subst e;cases ry;obtain⟨its,rv,pl,_⟩:=I.tuple sq;obtain⟨e,he,ha⟩:=MA I (n:=5) X.A.in1 h.1 h.2 r rv hx.plain rx (by show X.A.units+1+5<Cf;omega)
    refine SeqAt.notIn_tupleAt e pl he ?_;rw[ha];exact⟨.bl _,H,I,rfl,p _ H (AG.refl H) rfl⟩
   .exact p.elim
  |str j=>
   cases dx with
   |str i=>exact XH pI s Y H x y v u _ I rx ry ⟨i,j,hx.plain,hy.plain,p _ H (AG.refl H) rfl⟩
   |_=>exact p.elim
  |_=>exact p.elim
 |Is=>
  intro A pI s Y H x y v u Q I rx ry ⟨hA,dx,dy,hx,hy,p⟩;cases dy with
  |non=>
   have ey:=hy.non_of;subst ey;refine iL pI s Y H _ _ v u Q I rx ry ⟨rfl,?_⟩;cases dx with
   |non=>
    have ex:=hx.non_of;subst ex;exact p _ H (AG.refl H) rfl
   |exc=>exact p.elim
   |dic=>exact p.elim
   |_=>rw[Bu (SV hx (by simp))];exact p _ H (AG.refl H) rfl
  |bl b=>
   cases dx with
   |bl a=>
    have ey:=hy.bl_of;have ex:=hx.bl_of;subst ex ey;cases rx;cases ry;refine wpAny_is_plain rfl ⟨.bl (a==b),H,I,?_,p _ H (AG.refl H) rfl⟩;cases a<;>cases b<;>rfl
   |_=>exact p.elim
  |_=>cases dx<;>exact p.elim
 |IsNot=>
  intro A pI s Y H x y v u Q I rx ry ⟨hA,dx,dy,hx,hy,p⟩;cases dy with
  |non=>
   have ey:=hy.non_of;subst ey;refine dW pI s Y H _ _ v u Q I rx ry ⟨rfl,?_⟩;cases dx with
   |non=>
    have ex:=hx.non_of;subst ex;exact p _ H (AG.refl H) rfl
   |exc=>exact p.elim
   |dic=>exact p.elim
   |_=>rw[Bu (SV hx (by simp))];exact p _ H (AG.refl H) rfl
  |bl b=>
   cases dx with
   |bl a=>
    have ey:=hy.bl_of;have ex:=hx.bl_of;subst ex ey;cases rx;cases ry;refine wpAny_isNot_plain rfl ⟨.bl (!(a==b)),H,I,?_,p _ H (AG.refl H) rfl⟩;cases a<;>cases b<;>rfl
   |_=>exact p.elim
  |_=>cases dx<;>exact p.elim
end
section
variable{X:Cx}{CL:ClA}{W:XW}{a b c:An}{fa fb fc:Rho->R D}{pos:AR}
theorem Db.bind{f:D->R Ai}{Q:Ai->Hp->Prop}{Q':VK}(h:Db W H (r.bind f) Q)(k:∀ d v H',r=.ok d->AG H H'->Rp H' v d->Db W H' (f d) Q->Q' v H'):Bg Rp W H r Q':=by
 cases r with
 |ok d=>exact λv H2 s2 q=>k d v H2 rfl s2 q (Db.same s2 h)
 |exn x=>exact h
 |bad=>exact h
theorem Db.bindB{r:R Ai}{f:Ai->R Ai}{Q:Ai->Hp->Prop}{Q':Ai->Hp->Prop}(h:Db W H (r.bind f) Q)(k:∀ b H',r=.ok b->AG H H'->Db W H' (f b) Q->Q' b H'):Db W H r Q':=by
 cases r with
 |ok d=>exact λH2 s2=>k d H2 rfl s2 (Db.same s2 h)
 |exn x=>exact h
 |bad=>exact h
theorem G0.bind{Rp:Hp->Ac V->Ac D->Prop}{r:R (Ac D)}{f:Ac D->R D}{Q':Ac V->Hp->Prop}(h:Bg Rq W H (r.bind f) Q)(k:∀ d v H',r=.ok d->AG H H'->Rp H' v d->Bg Rq W H' (f d) Q->Q' v H'):G0 Rp W H r Q':=by
 cases r with
 |ok d=>exact λv H2 s2 q=>k d v H2 rfl s2 q (Bg.same s2 h)
 |exn x=>exact h
 |bad=>exact h
theorem gF(ha:ST X CL W a fa):SE X CL W (.UnaryOp .USub a pos) (λU=>(fa U).bind λx=>unD .USub x):=λA=>PE.weak (oV gN (ha A)) λY H Q ⟨hA,U,g,p⟩=>⟨hA,U,g,Bg.bind p λd v H1 _ s1 r1 p1=>by
 cases d with
 |int i=>
  have e:=r1.int_of;subst e;exact⟨i,rfl,p1 _ H1 (AG.refl H1) rfl⟩
 | _=>exact p1.elim⟩
theorem NY{f:Ai->R D}(h:Bg Rq W H ((DX d).bind f) Q):∃ c,d=.bl c/\Bg Rq W H (f c) Q:=by
 cases d with
 |bl c=>exact⟨c,rfl,h⟩
 |_=>exact h.elim
theorem Tp(ha:ST X CL W a fa):SE X CL W (.UnaryOp .Not a pos) (λU=>(fa U).bind λx=>(DX x).bind λb=>.ok (.bl (!b))):=λA=>PE.weak (jV (ha A)) λY H Q ⟨hA,U,g,p⟩=>⟨hA,U,g,Bg.bind p λd v H1 _ s1 r1 p1=>by
 obtain⟨c,rfl,p2⟩:=NY p1;exact⟨c,r1.bl_of,p2 _ H1 (AG.refl H1) rfl⟩⟩
theorem OT{op}(ha:SE X CL W a fa):SE X CL W (.BoolOp op [a] pos) fa:=λA=>jU (ha A)
theorem Ts{rest:Ac An}(ha:SE X CL W a fa)(hb:SE X CL W (.BoolOp .And (b::rest) pos) fb):SE X CL W (.BoolOp .And (a::b::rest) pos) (λU=>(fa U).bind λx=>(DX x).bind λc=>if c=Aa then fb U else .ok (.bl Ad)):=
 λA=>PE.weak (jZ (ha A) (hb A)) λY H Q ⟨hA,U,g,p⟩=>⟨hA,U,g,Bg.bind p λd v H1 _ s1 r1 p1=>by
  obtain⟨c,rfl,p2⟩:=NY p1;refine⟨c,r1,?_⟩;cases c with
  |true=>exact⟨hA.same s1,U,g.same s1,p2⟩
  | false=>exact p2 _ H1 (AG.refl H1) rfl⟩
theorem mK{rest:Ac An}(ha:SE X CL W a fa)(hb:SE X CL W (.BoolOp .Or (b::rest) pos) fb):SE X CL W (.BoolOp .Or (a::b::rest) pos) (λU=>(fa U).bind λx=>(DX x).bind λc=>if c=Aa then .ok (.bl Aa) else fb U):=
 λA=>PE.weak (oW (ha A) (hb A)) λY H Q ⟨hA,U,g,p⟩=>⟨hA,U,g,Bg.bind p λd v H1 _ s1 r1 p1=>by
  obtain⟨c,rfl,p2⟩:=NY p1;refine⟨c,r1,?_⟩;cases c with
  |false=>exact⟨hA.same s1,U,g.same s1,p2⟩
  | true=>exact p2 _ H1 (AG.refl H1) rfl⟩
theorem RP{xs:Ac D}{i:Ag}(h:CH xs i=.ok d):∃ k,plD xs.length i=Ab k/\xs[k]?=Ab d:=by
 unfold CH at h;split at h
 .rename_i k e;split at h
  .rename_i d' e';cases h;exact⟨k,e,e'⟩
  .cases h
 .cases h
theorem Kk{xs:Ac D}{i:Ag}{x:Ex}(h:CH xs i=.exn x):A5:=by
 unfold CH at h;split at h
 .split at h<;>cases h
 .cases h
theorem Su{ds:Ac D}{i:Ag}(r:Reps K CL H A xs ds)(h:CH ds i=.ok d):∃ v,atI xs i=Ab v/\Rep K CL H A v d:=by
 obtain⟨k,e,q⟩:=RP h;obtain⟨v,hv,rv⟩:=r.get q;refine⟨v,?_,rv⟩;unfold atI;have:ixN xs.length i=Ab k:=by rw[r.length];exact e
 rw[this];exact hv
theorem fG{z:Ah}{i:Ag}(h:CH (IL z) i=.ok d):∃ c,atI z.cps.toList i=Ab c/\d=.str ⟨#[c]⟩:=by
 obtain⟨k,e,q⟩:=RP h;unfold IL at e q;rw[AX]at e;rw[Cp]at q;cases hc:z.cps.toList[k]? with
 |none=>rw[hc]at q;cases q
 |some c=>
  rw[hc]at q;refine⟨c,?_,(Bh q).symm⟩;unfold atI;have:ixN z.cps.toList.length i=Ab k:=e;rw[this];exact hc
theorem P9(h:BD n=Aa):n<=sizeLine:=by
 unfold BD at h;have:=Gb h;rw[B9];omega
theorem gL(hs:OJ b)(ha:ST X CL W a fa)(hb:ST X CL W b fb):SE X CL W (.Subscript a b pos) (λU=>(fa U).bind λx=>(fb U).bind λy=>Hv x y):=
 λA=>PE.weak (oX (r:=rIx X.K) iD (ha A) (hb A) hs) λY H Q h=>by
  obtain⟨hA,U,g,h⟩:=op2 h;refine⟨hA,U,g,?_⟩;cases e:fa U with
  |bad=>rw[e]at h;exact h
  |exn x=>rw[e]at h;exact h
  |ok dx0=>
   rw[e]at h;intro x H1 s1 r1;obtain⟨hA1,U1,g1,h1⟩:=h x H1 s1 r1;refine⟨hA1,U1,g1,?_⟩;cases e1:fb U1 with
   |bad=>rw[e1]at h1;exact h1
   |exn x=>rw[e1]at h1;exact h1
   |ok dy0=>
    rw[e1]at h1;intro y H2 s2 r2;obtain⟨hA2,dx,dy,rx,ry,p⟩:=h1 y H2 s2 r2;cases dy with
    |int i=>
     have ey:=ry.int_of;subst ey;cases dx with
     |lst ds=>
      obtain⟨q,xs,rfl,sq,r⟩:=rx.lst_of;rw[nP]at p;cases e2:CH ds i with
      |ok d=>
       rw[e2]at p;obtain⟨v,hv,rv⟩:=Su r e2;exact .inl ⟨q,xs,i,v,rfl,rfl,sq,hv,p v H2 (AG.refl H2) rv⟩
      |exn x=>exact(Kk e2).elim
      |bad=>rw[e2]at p;exact p.elim
     |tup ds=>
      obtain⟨q,xs,rfl,_,sq,r⟩:=rx.tup_of;rw[nO]at p;cases e2:CH ds i with
      |ok d=>
       rw[e2]at p;obtain⟨v,hv,rv⟩:=Su r e2;exact .inr (.inl ⟨q,xs,i,v,rfl,rfl,sq,hv,p v H2 (AG.refl H2) rv⟩)
      |exn x=>exact(Kk e2).elim
      |bad=>rw[e2]at p;exact p.elim
     |str z=>
      have ex:=rx.str_of;subst ex;have p':Bg (λH=>Rep X.K CL H A) W H2 (if BD z.length=Aa then CH (IL z) i else .bad) Q:=p
      split at p'
      .rename_i hz;cases e2:CH (IL z) i with
       |ok d=>
        rw[e2]at p';obtain⟨c,hc,rfl⟩:=fG e2;exact .inr (.inr ⟨z,i,c,rfl,rfl,P9 hz,hc,p' _ H2 (AG.refl H2) rfl⟩)
       |exn x=>exact(Kk e2).elim
       |bad=>rw[e2]at p';exact p'.elim
      .exact p'.elim
     |dic=>exact rx.plain.elim
     |_=>exact p.elim
    |_=>cases dx<;>first|exact p.elim|exact rx.plain.elim
theorem Tt:SA X CL W [] (λ_=>.ok []):=λA=>PA.weak F1 λY H Q ⟨hA,U,g,p⟩=>p [] H (AG.refl H) trivial
theorem Se(ha:SE X CL W a fa)(hs:SA X CL W es fs)(hst:Ay (a::es) X.env=(Ad,eval a X.env)::Ay es X.env):SA X CL W (a::es) (λU=>(fa U).bind λx=>(fs U).bind λxs=>.ok (x::xs)):=
 λA=>PA.weak (El (ha A) (hs A) hst) λY H Q ⟨hA,U,g,p⟩=>by
  dsimp only at p;refine⟨hA,U,g,?_⟩;cases e:fa U with
  |bad=>rw[e]at p;exact p
  |exn x=>rw[e]at p;exact p
  |ok d=>
   rw[e]at p;intro v H1 s1 r1;refine⟨hA.same s1,U,g.same s1,?_⟩;cases e1:fs U with
   |bad=>rw[R.bind_ok,e1]at p;exact p
   |exn x=>rw[R.bind_ok,e1]at p;exact λH2 s2=>p H2 (s1.trans s2)
   |ok ds=>
    rw[R.bind_ok,e1]at p;exact λvs H2 s2 r2=>p (v::vs) H2 (s1.trans s2) ⟨r1.same s2,r2⟩
theorem To(hs:SA X CL W es fs)(hz:∀ U ds,fs U=.ok ds->ds.length<=100000):SE X CL W (.Tuple es k pos) (λU=>(fs U).bind λxs=>.ok (.tup xs)):=
 λA=>PE.weak (Tz (hs A)) λY H Q ⟨hA,U,g,p⟩=>⟨hA,U,g,G0.bind p λds vs H1 e s1 r1 p1=>⟨by
  rw[r1.length,B9];have:=hz U ds e;omega,λq hq=>p1 _ _ (FI hq _) (Kt (hA.same s1) hq r1)⟩⟩
def JV(W:XW)(H:Hp)(r:R (Am Ag))(Q:Am Ag->Hp->Prop):Prop:=match r with
  |.ok o=>∀ H',AG H H'->Q o H'
  |.exn x=>∀ H',AG H H'->W x H'
  |.bad=>A5
theorem JV.bind{r:R (Am Ag)}{f:Am Ag->R D}(h:Bg Rq W H (r.bind f) Q)(k:∀ o H',r=.ok o->AG H H'->Bg Rq W H' (f o) Q->Q' o H'):JV W H r Q':=by
 cases r with
 |ok d=>exact λH2 s2=>k d H2 rfl s2 (Bg.same s2 h)
 |exn x=>exact h
 |bad=>exact h
def SO(X:Cx)(CL:ClA)(W:XW)(e:Am An)(f:Rho->R (Am Ag)):Prop:=∀ A,PO X e (λY H Q=>AOk H A/\∃ U,Good X.K CL A U Y H/\JV W H (f U) Q)
theorem PO.weak{e:Am An}{t t':TO}(h:PO X e t)(k:∀ Y H Q,t' Y H Q->t Y H Q):PO X e t':=λpI s Y H Q I q=>h pI s Y H Q I (k _ _ _ q)
theorem aK:SO X CL W Af (λ_=>.ok Af):=λA=>PO.weak dJ λY H Q ⟨hA,U,g,p⟩=>p H (AG.refl H)
theorem aJ(ha:ST X CL W a fa):SO X CL W (Ab a) (λU=>(fa U).bind λd=>(DR d).bind λi=>.ok (Ab i)):=λA=>PO.weak (dI (ha A)) λY H Q ⟨hA,U,g,p⟩=>by
 dsimp only at p;refine⟨hA,U,g,?_⟩;cases e:fa U with
 |bad=>rw[e]at p;exact p
 |exn x=>rw[e]at p;exact p
 |ok d=>
  rw[e]at p;intro v H1 s1 r1;cases d with
  |int i=>exact⟨i,r1.int_of,p H1 s1⟩
  |_=>exact p.elim
theorem Sj{ds:Ac D}(lo hi:Am Ag)(r:Reps K CL H A xs ds):Reps K CL H A (Jr xs lo hi) (Ev ds lo hi):=by
 unfold Jr Ev;have e:∀ d o,HT.sIx xs.length d o=IJ ds.length d o:=λd o=>by rw[r.length];cases o<;>rfl
 rw[e,e,r.length];exact(r.drop _).take _
end
section
variable{X:Cx}{CL:ClA}{W:XW}{a b c:An}{fa fb fc:Rho->R D}{pos:AR}
def GJ(K:Fg)(CL:ClA)(H:Hp)(A:Ak->Prop):Ac V->Ac D->Prop
 |[],[]=>HJ
 |v::vs,d::ds=>CG K CL H A v d/\GJ K CL H A vs ds
 |_,_=>A5
theorem GJ.same{K:Fg}{H H':Hp}{A:Ak->Prop}(s:AG H H'):∀{vs:Ac V}{ds:Ac D},GJ K CL H A vs ds->GJ K CL H' A vs ds
 |[],[],h=>h
 |_::_,_::_,h=>⟨h.1.same s,GJ.same s h.2⟩
 |[],_::_,h=>h.elim
 |_::_,[],h=>h.elim
theorem GJ.one{vs:Ac V}(h:GJ K CL H A vs [d]):∃ v,vs=[v]/\CG K CL H A v d:=by
 cases vs with
 |nil=>exact h.elim
 |cons v vs=>
  cases vs with
  |nil=>exact⟨v,rfl,h.1⟩
  |cons=>exact h.2.elim
def SAT(X:Cx)(CL:ClA)(W:XW)(es:Ac An)(f:Rho->R (Ac D)):Prop:=∀ A,PA X es (λY H Q=>AOk H A/\∃ U,Good X.K CL A U Y H/\G0 (λH=>GJ X.K CL H A) W H (f U) Q)
theorem aW:SAT X CL W [] (λ_=>.ok []):=λA=>PA.weak F1 λY H Q ⟨hA,U,g,p⟩=>p [] H (AG.refl H) trivial
theorem YM(ha:ST X CL W a fa)(hs:SAT X CL W es fs)(hst:Ay (a::es) X.env=(Ad,eval a X.env)::Ay es X.env):SAT X CL W (a::es) (λU=>(fa U).bind λx=>(fs U).bind λxs=>.ok (x::xs)):=
 λA=>PA.weak (El (ha A) (hs A) hst) λY H Q ⟨hA,U,g,p⟩=>by
  dsimp only at p;refine⟨hA,U,g,?_⟩;cases e:fa U with
  |bad=>rw[e]at p;exact p
  |exn x=>rw[e]at p;exact p
  |ok d=>
   rw[e]at p;intro v H1 s1 r1;refine⟨hA.same s1,U,g.same s1,?_⟩;cases e1:fs U with
   |bad=>rw[R.bind_ok,e1]at p;exact p
   |exn x=>rw[R.bind_ok,e1]at p;exact λH2 s2=>p H2 (s1.trans s2)
   |ok ds=>
    rw[R.bind_ok,e1]at p;exact λvs H2 s2 r2=>p (v::vs) H2 (s1.trans s2) ⟨r1.same s2,r2⟩
def KJ(X:Cx)(CL:ClA)(W:XW)(f:Aj)(g:Ac D->R D):Prop:=∀ A,IH X f (λxs H Q=>AOk H A/\∃ ds,GJ X.K CL H A xs ds/\Bg (λH=>Rep X.K CL H A) W H (g ds) Q)
theorem Tr{g:Ac D->R D}(hc:KJ X CL W (.builtin id) g)(hg:Gl X x)(hm:X.mg x=Af)(hv:CB x=Ab (.builtin id))(ha:SAT X CL W (e::es) fs)(hn:x≠"__name__")(hdb:(x==("__debug__" : Ah))=Ad)(he:Ay (e::es) X.env=(Ad,eval e X.env)::Ay es X.env)(hpl:∀ pos,(BR pos (Ay es X.env)).any (·.1)=Ad):SE X CL W (.Call (.Name x p) (e::es) [] pos) (λU=>(fs U).bind g):=λA=>PE.weak (Kd (hc A) hg hm hv (ha A) hn hdb he (hpl _)) λY H Q ⟨hA,U,gd,q⟩=>⟨hA,U,gd,G0.bind q λds vs H1 _ s1 r1 p1=>⟨hA.same s1,ds,r1,p1⟩⟩
theorem Tq{g:Ac D->R D}(hc:KJ X CL W (.type T) g)(hg:Gl X x)(hm:X.mg x=Af)(hv:CB x=Ab (.type T))(ha:SAT X CL W (e::es) fs)(hn:x≠"__name__")(hdb:(x==("__debug__" : Ah))=Ad)(he:Ay (e::es) X.env=(Ad,eval e X.env)::Ay es X.env)(hpl:∀ pos,(BR pos (Ay es X.env)).any (·.1)=Ad):SE X CL W (.Call (.Name x p) (e::es) [] pos) (λU=>(fs U).bind g):=λA=>PE.weak (QO (hc A) hg hm hv (ha A) hn hdb he (hpl _)) λY H Q ⟨hA,U,gd,q⟩=>⟨hA,U,gd,G0.bind q λds vs H1 _ s1 r1 p1=>⟨hA.same s1,ds,r1,p1⟩⟩
theorem kO:KJ X CL W (.builtin "len") (biD .len):=by
  intro A pI s Y H xs us Q I r ⟨hA,ds,rs,p⟩
  match ds,rs,p with
  |[.lst es],rs,p=>
    obtain⟨v,rfl,rv⟩:=rs.one;obtain⟨q,ys,rfl,sq,ry⟩:=rv.lst_of;exact P3 pI s Y H _ us Q I r ⟨q,ys,rfl,.inl sq,p _ H (AG.refl H) (by rw[ry.length];rfl)⟩
  |[.tup es],rs,p=>
    obtain⟨v,rfl,rv⟩:=rs.one;obtain⟨q,ys,rfl,_,sq,ry⟩:=rv.tup_of;exact P3 pI s Y H _ us Q I r ⟨q,ys,rfl,.inr sq,p _ H (AG.refl H) (by rw[ry.length];rfl)⟩
  |[.str x],rs,p=>
    obtain⟨v,rfl,rv⟩:=rs.one;have e:=rv.str_of;subst e;have p':Bg (λH=>Rep X.K CL H A) W H (if BD x.length=Aa then .ok (.int x.length) else .bad) Q:=p
    split at p'
    · rename_i h;exact XF pI s Y H _ us Q I r ⟨x,rfl,Iz h,p' _ H (AG.refl H) rfl⟩
    · exact p'.elim
  |[],_,p=>exact p.elim
  |[.non],_,p=>exact p.elim
  |[.bl _],_,p=>exact p.elim
  |[.int _],_,p=>exact p.elim
  |[.obj _ _],_,p=>exact p.elim
  |[.exc _ _],_,p=>exact p.elim
  |[.dic _],rs,p=>first|exact p.elim|(obtain⟨v,rfl,rv⟩:=rs.one;exact rv.plain.elim)
  |x::_::_,_,p=>cases x<;>exact p.elim
theorem kP:KJ X CL W (.type "int") (biD .int):=by
  intro A pI s Y H xs us Q I r ⟨hA,ds,rs,p⟩
  match ds,rs,p with
  |[.int i],rs,p=>
    obtain⟨v,rfl,rv⟩:=rs.one;have e:=rv.int_of;subst e;exact QC pI s Y H _ us Q I r (.inl ⟨i,rfl,p _ H (AG.refl H) rfl⟩)
  |[.bl i],rs,p=>
    obtain⟨v,rfl,rv⟩:=rs.one;have e:=rv.bl_of;subst e;exact QC pI s Y H _ us Q I r (.inr ⟨i,rfl,p _ H (AG.refl H) rfl⟩)
  |[],_,p=>exact p.elim
  |[.non],_,p=>exact p.elim
  |[.str _],_,p=>exact p.elim
  |[.tup _],_,p=>exact p.elim
  |[.lst _],_,p=>exact p.elim
  |[.obj _ _],_,p=>exact p.elim
  |[.exc _ _],_,p=>exact p.elim
  |[.dic _],rs,p=>first|exact p.elim|(obtain⟨v,rfl,rv⟩:=rs.one;exact rv.plain.elim)
  |x::_::_,_,p=>cases x<;>exact p.elim
theorem Zp:KJ X CL W (.type "tuple") (biD .tuple):=by
  intro A pI s Y H xs us Q I r ⟨hA,ds,rs,p⟩
  match ds,rs,p with
  |[.lst es],rs,p=>
    obtain⟨v,rfl,rv⟩:=rs.one;obtain⟨q,ys,rfl,sq,ry⟩:=rv.lst_of;exact P6 pI s Y H _ us Q I r ⟨q,ys,rfl,.inl ⟨sq,λl hl=>p _ _ (FI hl _) (Kt hA hl ry)⟩⟩
  |[.tup es],rs,p=>
    obtain⟨v,rfl,rv⟩:=rs.one;obtain⟨q,ys,rfl,na,sq,ry⟩:=rv.tup_of;exact P6 pI s Y H _ us Q I r ⟨q,ys,rfl,.inr ⟨sq,p _ H (AG.refl H) ⟨q,ys,rfl,na,sq,ry⟩⟩⟩
  |[],_,p=>exact p.elim
  |[.non],_,p=>exact p.elim
  |[.bl _],_,p=>exact p.elim
  |[.int _],_,p=>exact p.elim
  |[.str _],_,p=>exact p.elim
  |[.obj _ _],_,p=>exact p.elim
  |[.exc _ _],_,p=>exact p.elim
  |[.dic _],rs,p=>first|exact p.elim|(obtain⟨v,rfl,rv⟩:=rs.one;exact rv.plain.elim)
  |x::_::_,_,p=>cases x<;>exact p.elim
end
section
variable{X:Cx}{CL:ClA}{W:XW}{a b c:An}{fa fb fc:Rho->R D}{pos:AR}
theorem SB.congr{g:Rho->R Ai}(h:SB X CL W a f)(e:∀ U,g U=f U):SB X CL W a g:=λA=>PT.weak (h A) λY H Q ⟨hA,U,q,p⟩=>⟨hA,U,q,by rw[<-e];exact p⟩
theorem fK(ha:SB X CL W a f):SB X CL W (.UnaryOp .Not a pos) (λU=>(f U).bind λb=>.ok (!b)):=λA=>PT.weak (jM (ha A)) λY H Q ⟨hA,U,g,p⟩=>⟨hA,U,g,Db.bindB p λb H1 _ s1 p1=>p1 H1 (AG.refl H1)⟩
def SW(X:Cx)(CL:ClA)(W:XW)(e:An)(f:Rho->R Ai):Prop:=∀ A,PW X e (λY H Q=>AOk H A/\∃ U,Good X.K CL A U Y H/\Db W H (f U) Q)
theorem PW.weak{t t':TT}(h:PW X e t)(k:∀ Y H Q,t' Y H Q->t Y H Q):PW X e t':=λwh pI s Y H Q I q=>h wh pI s Y H Q I (k _ _ _ q)
theorem SW.sb(h:SW X CL W a f):SB X CL W a f:=λA=>PW.pt (h A)
theorem SW.congr{g:Rho->R Ai}(h:SW X CL W a f)(e:∀ U,g U=f U):SW X CL W a g:=λA=>PW.weak (h A) λY H Q ⟨hA,U,q,p⟩=>⟨hA,U,q,by rw[<-e];exact p⟩
theorem bV(ha:SB X CL W a f):SW X CL W (.BoolOp .And [a] pos) f:=λA=>Z_9 (ha A)
theorem gX(ha:SB X CL W a f):SW X CL W (.BoolOp .Or [a] pos) f:=λA=>jK (ha A)
theorem hU{g:Rho->R Ai}{rest:Ac An}(ha:SB X CL W a f)(hb:SW X CL W (.BoolOp .And (b::rest) pos) g):SW X CL W (.BoolOp .And (a::b::rest) pos) (λU=>(f U).bind λc=>if c=Aa then g U else .ok Ad):=
 λA=>PW.weak (jL (ha A) (hb A)) λY H Q ⟨hA,U,gd,p⟩=>⟨hA,U,gd,Db.bindB p λc H1 _ s1 p1=>by
  cases c with
  |true=>exact⟨hA.same s1,U,gd.same s1,p1⟩
  | false=>exact p1 H1 (AG.refl H1)⟩
theorem lH{g:Rho->R Ai}{rest:Ac An}(ha:SB X CL W a f)(hb:SW X CL W (.BoolOp .Or (b::rest) pos) g):SW X CL W (.BoolOp .Or (a::b::rest) pos) (λU=>(f U).bind λc=>if c=Aa then .ok Aa else g U):=
 λA=>PW.weak (oR (ha A) (hb A)) λY H Q ⟨hA,U,gd,p⟩=>⟨hA,U,gd,Db.bindB p λc H1 _ s1 p1=>by
  cases c with
  |false=>exact⟨hA.same s1,U,gd.same s1,p1⟩
  | true=>exact p1 H1 (AG.refl H1)⟩
theorem fL(ho:OpD X CL W (CC op) g)(ha:ST X CL W a fa)(hb:ST X CL W b fb)(hm:GV op b=Ad):SB X CL W (.Compare a [op] [b] pos) (λU=>(fa U).bind λx=>(fb U).bind λy=>(g x y).bind DX):=
 λA=>PT.weak (dF (ho A) (ha A) (hb A) hm) λY H Q ⟨hA,U,gd,p⟩=>⟨hA,U,gd,Db.bind p λdx x H1 _ s1 r1 p1=>⟨hA.same s1,U,gd.same s1,Db.bind p1 λdy y H2 _ s2 r2 p2=>
  ⟨(hA.same s1).same s2,dx,dy,r1.same s2,r2,Db.bind p2 λdz z H3 _ s3 r3 p3=>by
   cases dz with
   |bl k=>exact⟨k,r3,p3 H3 (AG.refl H3)⟩
   | _=>exact p3.elim⟩⟩⟩
theorem YL{op':Do}(hu:X.A.units+64<Cf)(ha:ST X CL W a fa)(hb:ST X CL W b fb)(hc:ST X CL W c fc)(hm:lastMarks [op,op'] [b,c]=Ad):SB X CL W (.Compare a [op,op'] [b,c] pos) (λU=>(fa U).bind λx=>(fb U).bind λy=>(BK op x y).bind λz=>(DX z).bind λk=>if k=Aa then (fc U).bind λu=>(BK op' y u).bind DX else .ok Ad):=
  λA=>PT.weak (YT (Mx hu op A) (Mx hu op' A) (ha A) (hb A) (hc A) hm) λY H Q ⟨hA,U,g,p⟩=>⟨hA,U,g,Db.bind p λdx x H1 _ s1 r1 p1=>⟨hA.same s1,U,g.same s1,Db.bind p1 λdy y H2 _ s2 r2 p2=>
    ⟨(hA.same s1).same s2,dx,dy,r1.same s2,r2,Db.bind p2 λdz z H3 _ s3 r3 p3=>by
      cases dz with
      |bl k=>
        refine⟨k,r3,?_⟩;cases k with
        |false=>exact⟨Ad,rfl,p3 H3 (AG.refl H3)⟩
        | true=>exact⟨((hA.same s1).same s2).same s3,U,((g.same s1).same s2).same s3,Db.bind p3 λdu u H4 _ s4 r4 p5=>⟨(((hA.same s1).same s2).same s3).same s4,dy,du,(r2.same s3).same s4,r4,Db.bind p5 λdv v H5 _ s5 r5 p6=>by
            cases dv with
            |bl k'=>exact⟨k',r5,p6 H5 (AG.refl H5)⟩
            | _=>exact p6.elim⟩⟩
      | _=>exact p3.elim⟩⟩⟩
theorem fJ(ha:ST X CL W a fa)(he:∀ whole,Ii a X.env whole=(do let v <-whole;standAt a.pos;holding [v] (truthy v))):SB X CL W a (λU=>(fa U).bind BU):=
 λA=>PT.weak (YS (ha A) he) λY H Q ⟨hA,U,g,p⟩=>⟨hA,U,g,Db.bind p λd v H1 _ s1 r1 p1=>by
  cases d with
  |non=>
   have e:=r1.non_of;subst e;exact⟨Ad,rfl,p1 H1 (AG.refl H1)⟩
  |bl b=>
   have e:=r1.bl_of;subst e;exact⟨b,rfl,p1 H1 (AG.refl H1)⟩
  |int i=>
   have e:=r1.int_of;subst e;exact⟨_,rfl,p1 H1 (AG.refl H1)⟩
  |str x=>
   have e:=r1.str_of;subst e;have p2:Db W H1 (if BD x.length=Aa then .ok (x.length != 0) else .bad) Q:=p1
   split at p2
   .rename_i h;refine⟨_,⟨Iz h,rfl⟩,?_⟩;have e:((x.length:Ag) != 0)=(x.length != 0):=by
     rw[Hx];simp
    rw[e];exact p2 H1 (AG.refl H1)
   .exact p2.elim
  |tup ds=>
   obtain⟨q,xs,rfl,_,sq,r⟩:=r1.tup_of;refine⟨_,.inr (.inl ⟨xs,sq,rfl⟩),?_⟩;have e:xs.isEmpty=ds.isEmpty:=by
    have:=r.length;cases xs<;>cases ds<;>first|rfl|cases this
   rw[e];exact p1 H1 (AG.refl H1)
  |lst ds=>
   obtain⟨q,xs,rfl,sq,r⟩:=r1.lst_of;refine⟨_,.inl ⟨xs,sq,rfl⟩,?_⟩;have e:xs.isEmpty=ds.isEmpty:=by
    have:=r.length;cases xs<;>cases ds<;>first|rfl|cases this
   rw[e];exact p1 H1 (AG.refl H1)
  | _=>exact p1.elim⟩
noncomputable def rD(K:Fg)(CL:ClA)(H:Hp)(A:Ak->Prop)(cls:Aj)(dx:Am Ak)(x:Ex):Prop:=
 ∃ C,CL x.c=Ab C/\cls=.ref C/\(x.fs=[]\/∃ d vs,dx=Ab d/\¬ A d/\H d=Ab (.xd vs)/\Repf K CL H A vs x.fs)
def F5(K:Fg)(CL:ClA)(H:Hp)(cls:Aj)(dx:Am Ak)(x:Ex):Prop:=∀ A,AOk H A->rD K CL H A cls dx x
end
def BL(B:Ak->Prop)(U:Rho)(Y:L2.St):Ak->Prop:=λa=>B a\/∃(j:Ae)(d:D),U[j]?=Ab (Ab (d,Aa))/\Y[j]?=Ab (Ab (.ref a))
structure Sx (K:Fg) (CL:ClA) (Fz:Ak->HO->Prop) (B:Ak->Prop) (U:Rho) (Y:L2.St) (H:Hp):Prop where
 good:Good K CL (BL B U Y) U Y H
 aok:AOk H (BL B U Y)
 new:∀(j:Ae)(d:D)(a:Ak),U[j]?=Ab (Ab (d,Aa))->Y[j]?=Ab (Ab (.ref a))->(∀ o,¬ Fz a o)/\¬ B a
 dis:∀(i j:Ae)(d e:D)(a:Ak),U[i]?=Ab (Ab (d,Aa))->U[j]?=Ab (Ab (e,Aa))->Y[i]?=Ab (Ab (.ref a))->Y[j]?=Ab (Ab (.ref a))->i=j
 same:∀ b o,Fz b o->H b=Ab o
 len:U.length=Y.length
def BW(K:Fg)(CL:ClA)(Fz:Ak->HO->Prop)(B:Ak->Prop)(W:XW)(o:O)(D:Ends):Prop:=match o with
  |.next U=>∀ Y H,Sx K CL Fz B U Y H->D.nx Y H
  |.brk U=>∀ Y H,Sx K CL Fz B U Y H->D.bk Y H
  |.cont U=>∀ Y H,Sx K CL Fz B U Y H->D.ct Y H
  |.ret d fr=>∀ v H,(∀ b o,Fz b o->H b=Ab o)->Rep K CL H B v d->(fr=Aa->∀ ds,d=.lst ds->∃ a xs,v=.ref a/\(∀ o,¬ Fz a o)/\H a=Ab (.lst xs)/\Reps K CL H (λb=>B b\/b=a) xs ds)->D.rt v H
  |.exn x _=>∀ H,(∀ b o,Fz b o->H b=Ab o)->W x H
  |.bad=>A5
section
variable{K:Fg}{CL:ClA}{Fz Fy:Ak->HO->Prop}{B:Ak->Prop}{U:Rho}{Y:L2.St}{H H':Hp}
theorem Sx.mono(k:∀ b o,Fz b o->Fy b o)(x:Sx K CL Fy B U Y H):Sx K CL Fz B U Y H:=⟨x.good,x.aok,λj d a h1 h2=>⟨λo z=>(x.new j d a h1 h2).1 o (k _ _ z),(x.new j d a h1 h2).2⟩,x.dis,λb o z=>x.same b o (k _ _ z),x.len⟩
theorem Sx.grow(x:Sx K CL Fz B U Y H)(s:AG H H'):Sx K CL Fz B U Y H':=⟨x.good.same s,x.aok.same s,x.new,x.dis,λb o z=>s _ _ (x.same b o z),x.len⟩
theorem Ci{l:Ac α}{j:Ae}{v:α}(h:i≠j):(l.set i v)[j]?=l[j]?:=by rw[Ge h]
theorem GH{l:Ac α}{v w':α}(h:(l.set i v)[i]?=Ab w'):w'=v:=by
 rw[Fw]at h;cases e:l[i]? with
 |none=>rw[e]at h;cases h
 |some x=>rw[e]at h;cases h;rfl
theorem Sx.set(x:Sx K CL Fz B U Y H){v:V}{d:D}(i:Ae)(r:Rep K CL H (BL B U Y) v d):Sx K CL Fz B (U.set i (Ab (d,Ad))) (Y.set i (Ab v)) H:=by
 have own:∀(j:Ae)(e:D),(U.set i (Ab (d,Ad)))[j]?=Ab (Ab (e,Aa))->i≠j/\U[j]?=Ab (Ab (e,Aa)):=λj e h=>by
  by_cases hj:i=j
  .subst hj;have:=GH h;cases this
  .exact⟨hj,by rw[Ci hj]at h;exact h⟩
 have sub:∀ a,BL B (U.set i (Ab (d,Ad))) (Y.set i (Ab v)) a->BL B U Y a:=λa h=>by
  rcases h with h|⟨j,e,h1,h2⟩
  .exact .inl h
  .obtain⟨hj,h1⟩:=own j e h1;rw[Ci hj]at h2;exact .inr ⟨j,e,h1,h2⟩
 refine⟨⟨λj e h=>?_,λj e h=>?_,by rw[Bb,Bb];exact x.len⟩,λa h=>x.aok a (sub a h),λj e a h1 h2=>?_,λj k e f a h1 h2 h3 h4=>?_,x.same,by rw[Bb,Bb];exact x.len⟩
 .by_cases hj:i=j
  .subst hj;have e1:=GH h;cases e1;refine⟨v,?_,Rep.sub sub _ r⟩;have hl:i<Y.length:=by
    rw[<-x.len];have:=(A4.mp h).1;simpa using this
   rw[C2 hl]
  .rw[Ci hj]at h;obtain⟨w',q,rw'⟩:=x.good.sh j e h;exact⟨w',by rw[Ci hj];exact q,Rep.sub sub _ rw'⟩
 .obtain⟨hj,h1⟩:=own j e h;obtain⟨a,xs,ds,q,z,ha,hh,rr⟩:=x.good.ow j e h1;exact⟨a,xs,ds,by rw[Ci hj];exact q,z,.inr ⟨j,e,h,by rw[Ci hj];exact q⟩,hh,Reps.sub sub _ rr⟩
 .obtain⟨hj,h1⟩:=own j e h1;rw[Ci hj]at h2;exact x.new j e a h1 h2
 .obtain⟨hj,h1⟩:=own j e h1;obtain⟨hk,h2⟩:=own k f h2;rw[Ci hj]at h3;rw[Ci hk]at h4;exact x.dis j k e f a h1 h2 h3 h4
end
section
variable{X:Cx}{CL:ClA}{W:XW}{pos:AR}{e:An}{fe:Rho->R D}
def SS(X:Cx)(CL:ClA)(W:XW)(st:AZ)(f:Rho->O):Prop:=∀ Fz B,PS X st (λD Y H=>∃ U,Sx X.K CL Fz B U Y H/\BW X.K CL Fz B W (f U) D)
def SSs(X:Cx)(CL:ClA)(W:XW)(st:Ac AZ)(f:Rho->O):Prop:=∀ Fz B,PSs X st (λD Y H=>∃ U,Sx X.K CL Fz B U Y H/\BW X.K CL Fz B W (f U) D)
theorem PS.weak{e:AZ}{t t':TS}(h:PS X e t)(k:∀ D Y H,t' D Y H->t D Y H):PS X e t':=λpI s Y H D I q=>h pI s Y H D I (k _ _ _ q)
theorem PSs.weak{e:Ac AZ}{t t':TS}(h:PSs X e t)(k:∀ D Y H,t' D Y H->t D Y H):PSs X e t':=λpI s Y H D I q=>h pI s Y H D I (k _ _ _ q)
theorem BW.ex{f:D->O}(x:Sx X.K CL Fz B U Y H)(h:BW X.K CL Fz B W (O.of U r f) D')(k:∀ d v H',r=.ok d->AG H H'->Rp H' v d->Sx X.K CL Fz B U Y H'->BW X.K CL Fz B W (f d) D'->Q v H'):Bg Rp W H r Q:=by
 cases r with
 |ok d=>exact λv H' s r=>k d v H' rfl s r (x.grow s) h
 |exn y=>exact λH' s=>h H' λb o z=>s _ _ (x.same b o z)
 |bad=>exact h
theorem BW.exB{r:R Ai}{f:Ai->O}{Q:Ai->Hp->Prop}(x:Sx X.K CL Fz B U Y H)(h:BW X.K CL Fz B W (O.of U r f) D')(k:∀ b H',r=.ok b->AG H H'->Sx X.K CL Fz B U Y H'->BW X.K CL Fz B W (f b) D'->Q b H'):Db W H r Q:=by
 cases r with
 |ok d=>exact λH' s=>k d H' rfl s (x.grow s) h
 |exn y=>exact λH' s=>h H' λb o z=>s _ _ (x.same b o z)
 |bad=>exact h
theorem aH(he:SE X CL W e fe)(hs:Dh e Af pos.line X.env=pure Ad):SS X CL W (.Expr e pos) (λU=>O.of U (fe U) λ_=>.next U):=λFz B pI s Y H D I ⟨U,x,p⟩=>
 Ks (he (BL B U Y)) hs pI s Y H D I ⟨x.aok,U,x.good,BW.ex x p λd v H' _ s r x' q=>q Y H' x'⟩
theorem fS{n:Ah}(hN:X.N.Nodup)(hi:X.N[i]?=Ab n)(hx:Loc X.env.scope n)(he:SE X CL W e fe)(hs:Dh e (Ab (.Name n pos')) pos.line X.env=pure Ad)(hf:X.fn n=Aa\/X.env.scope.names.lookup n=Ab .local):SS X CL W (.Assign [.Name n pos'] e pos) (λU=>O.of U (fe U) λd=>.next (U.set i (Ab (d,Ad)))):=λFz B pI s Y H D I ⟨U,x,p⟩=>
 ME hN hi hx (he (BL B U Y)) hs hf pI s Y H D I ⟨x.aok,U,x.good,BW.ex x p λd v H' _ s r x' q=>q _ H' (x'.set i r)⟩
theorem aE(he:SE X CL W e fe):SS X CL W (.Return (Ab e) pos) (λU=>O.of U (fe U) λd=>.ret d Ad):=λFz B pI s Y H D I ⟨U,x,p⟩=>
 OX (he (BL B U Y)) pI s Y H D I ⟨x.aok,U,x.good,BW.ex x p λd v H' _ s r x' q=>q v H' x'.same (Rep.sub (λa h=>.inl h) _ r) λz=>nomatch z⟩
theorem lO{a b:Ac AZ}{fa fb:Rho->O}(hc:SB X CL W c fc)(ha:SSs X CL W a fa)(hb:SSs X CL W b fb):SS X CL W (.If c a b pos) (λU=>O.of U (fc U) λk=>if k=Aa then fa U else fb U):=λFz B pI s Y H D I ⟨U,x,p⟩=>
 oS (hc (BL B U Y)) (ha Fz B) (hb Fz B) pI s Y H D I ⟨x.aok,U,x.good,BW.exB x p λk H' _ s x' q=>by
  cases k with
  |true=>exact⟨U,x',q⟩
  | false=>exact⟨U,x',q⟩⟩
theorem Sb:SSs X CL W [] (λU=>.next U):=λFz B=>PSs.weak dG λD Y H ⟨U,x,p⟩=>p Y H x
theorem Om{st:AZ}{rest:Ac AZ}{f g:Rho->O}(h1:SS X CL W st f)(h2:SSs X CL W rest g):SSs X CL W (st::rest) (λU=>(f U).seq g):=λFz B=>PSs.weak (YU (h1 Fz B) (h2 Fz B)) λD Y H ⟨U,x,p⟩=>⟨U,x,by
 dsimp only at p;cases e:f U with
 |next U'=>rw[e]at p;exact λY' H' x'=>⟨U',x',p⟩
 |ret d b=>rw[e]at p;exact p
 |brk U'=>rw[e]at p;exact p
 |cont U'=>rw[e]at p;exact p
 |exn y U'=>rw[e]at p;exact p
 | bad=>rw[e]at p;exact p⟩
end
def HW(K:Fg)(CL:ClA)(A:Ak->Prop)(ds:Ac D)(J:It)(H1:Hp):Prop:=∀ H,Kp A H1 H->∀ i:Ae,(ds.length<=i->J.stop i H)/\∀ d,ds[i]?=Ab d->J.go i H/\∀ x H',J.yld i H x H'->AG H H'/\∀ B,(∀ a,B a->A a\/H1 a=Af)->AOk H B->Rep K CL H' B x d
def Er(K:Fg)(CL:ClA)(A:Ak->Prop)(W:XW)(H:Hp)(r:R (Ac D))(Q:It->Hp->Prop):Prop:=match r with
  |.ok ds=>∀ J H',AG H H'->HW K CL A ds J H'->ds.length<=sizeLine->Q J H'
  |.exn x=>∀ H',AG H H'->W x H'
  |.bad=>A5
def SI(X:Cx)(CL:ClA)(W:XW)(tg iter:An)(f:Rho->R (Ac D)):Prop:=∀ A,PI X tg iter (λY H R=>AOk H A/\∃ U,Good X.K CL A U Y H/\Er X.K CL A W H (f U) R)
theorem PI.weak{t t':TI}(h:PI X tg e t)(k:∀ Y H Q,t' Y H Q->t Y H Q):PI X tg e t':=λpI s Y H Q I q=>h pI s Y H Q I (k _ _ _ q)
section
variable{X:Cx}{CL:ClA}{W:XW}{pos p:AR}{tg e a b:An}{fe fa fb:Rho->R D}
theorem Er.ex{f:D->R (Ac D)}{Q:It->Hp->Prop}{Q':VK}(h:Er X.K CL A W H (r.bind f) Q)(k:∀ d v H',r=.ok d->AG H H'->Rp H' v d->Er X.K CL A W H' (f d) Q->Q' v H'):Bg Rp W H r Q':=by
  cases r with
  | ok d=>exact λv H' s q=>k d v H' rfl s q (by
      have h':Er X.K CL A W H (f d) Q:=h;cases e:f d with
      |ok ds=>rw[e]at h';exact λJ H2 s2 y z=>h' J H2 (s.trans s2) y z
      |exn y=>rw[e]at h';exact λH2 s2=>h' H2 (s.trans s2)
      | bad=>rw[e]at h';exact h')
  |exn y=>exact h
  |bad=>exact h
theorem Le{x:V}(r:Rep K CL H1 A x d)(k:Kp A H1 H)(hB:∀ a,B a->A a\/H1 a=Af):Rep K CL H B x d:=by
 have r1:Rep K CL H1 (λa=>A a\/B a) x d:=Rep.wide (λa ha=>ha.elim .inl (hB a)) _ r
 have r2:Rep K CL H (λa=>A a\/B a) x d:=Rep.kp (λb o e na=>k b o e λz=>na (.inl z)) _ r1
 exact Rep.sub (λa ha=>.inr ha) _ r2
theorem X5{ds:Ac D}(na:¬ A q\/KL K q xs)(s:SqL K H q xs)(r:Reps K CL H A xs ds):HW K CL A ds (Itl K q) H:=λH' k i=>by
 have s':=MM k na s;refine⟨λh=>⟨xs,s',by rw[r.length];exact h⟩,λd hd=>?_⟩
 obtain⟨v,hv,rv⟩:=r.get hd;exact⟨⟨xs,v,s',hv⟩,λx H2 ⟨e,y⟩=>by
  subst e;have:=y xs s';rw[hv]at this;cases this;exact⟨AG.refl _,λB hB _=>Le rv k hB⟩⟩
theorem YY{ds:Ac D}(na:¬ A q\/KT K q xs)(s:SqT K H q xs)(r:Reps K CL H A xs ds):HW K CL A ds (Itt K q) H:=λH' k i=>by
 have s':=ML k na s;refine⟨λh=>⟨xs,s',by rw[r.length];exact h⟩,λd hd=>?_⟩
 obtain⟨v,hv,rv⟩:=r.get hd;exact⟨⟨xs,v,s',hv⟩,λx H2 ⟨e,y⟩=>by
  subst e;have:=y xs s';rw[hv]at this;cases this;exact⟨AG.refl _,λB hB _=>Le rv k hB⟩⟩
theorem Rz(lo:Ag)(n:Ae):HW K CL A (Dt lo n) (Itr lo n) H:=λH' k i=>by
 refine⟨λh=>by rw[Kb]at h;exact h,λd hd=>?_⟩
 obtain⟨h1,rfl⟩:=Oc hd;exact⟨h1,λx H2 ⟨e,y⟩=>by
  subst e y;exact⟨AG.refl _,λ_ _ _=>rfl⟩⟩
theorem jR{l:An}{tl:TE}(hl:PE X l tl):PI X tg l (λY H R=>tl Y H λx H1=>(∃ a,x=.ref a/\(∃ xs,SqL X.K H1 a xs/\(xs.length<=sizeLine->R (Itl X.K a) H1)))\/∃ a,x=.ref a/\(∃ xs,SqT X.K H1 a xs/\(xs.length<=sizeLine->R (Itt X.K a) H1))):=by
 intro pI s Y H R I h;refine thn (hl pI s Y H _ I h) λv s1 ⟨x,H1,I1,r1,q1⟩=>?_
 rcases q1 with ⟨a,e,xs,hq,q⟩|⟨a,e,xs,hq,q⟩
 .subst e;cases r1;obtain⟨its,rv,p,hz⟩:=I1.list hq;refine G9 p.isList ?_;refine⟨s1.heap.objs.size,[s1.heap.objs.size],_,_,H1,rfl,I1.kept (t':=s1.toks) λb o e=>As _ e,XN a _,⟨_,AJ _ rfl,rfl,rfl⟩,λb hb=>?_,q hz⟩
  have e:b=s1.heap.objs.size:=by simpa using hb
  subst e;exact I1.fpOk (Aw _) (I1.hok.fresh (Aw _))
 .subst e;cases r1;obtain⟨its,rv,p,hz⟩:=I1.tuple hq;refine Xq (show s1.heap.IsTuple a its.toArray from p) ?_
  refine⟨s1.heap.objs.size,[s1.heap.objs.size],_,_,H1,rfl,I1.kept (t':=s1.toks) λb o e=>As _ e,X7 a _,⟨_,AJ _ rfl,rfl,rfl⟩,λb hb=>?_,q hz⟩
  have e:b=s1.heap.objs.size:=by simpa using hb
  subst e;exact I1.fpOk (Aw _) (I1.hok.fresh (Aw _))
theorem qI(he:SE X CL W e fe):SI X CL W tg e (λU=>(fe U).bind DW):=λA=>PI.weak (jR (he A)) λY H R ⟨hA,U,g,p⟩=>⟨hA,U,g,Er.ex p λd v H1 _ s1 r1 p1=>by
 cases d with
 |lst ds=>
  obtain⟨q,xs,rfl,na,sq,r⟩:=r1;exact .inl ⟨q,rfl,xs,sq,λhz=>p1 _ H1 (AG.refl H1) (X5 na sq r) (by rw[<-r.length];exact hz)⟩
 |tup ds=>
  obtain⟨q,xs,rfl,na,sq,r⟩:=r1;exact .inr ⟨q,rfl,xs,sq,λhz=>p1 _ H1 (AG.refl H1) (YY na sq r) (by rw[<-r.length];exact hz)⟩
 | _=>exact p1.elim⟩
theorem QM{ds:Ac D}(h:Dj lo hi=.ok ds):(-(2 ^ 62)<=lo/\lo<2 ^ 62)/\(-(2 ^ 62)<=hi/\hi<2 ^ 62)/\ds=Dt lo (hi-lo).toNat/\(Dt lo (hi-lo).toNat).length<=sizeLine:=by
 unfold Dj at h;split at h
 .rename_i q;cases h;exact⟨by omega,by omega,rfl,by rw[Kb,B9];omega⟩
 .cases h
theorem Qd{x:Ex}(h:Dj lo hi=.exn x):A5:=by
 unfold Dj at h;split at h<;>cases h
theorem gB(ha:ST X CL W a fa)(hg:Gl X "range")(hm:X.mg "range" = Af)(hs:Ay [a] X.env=[(Ad,eval a X.env)]):SI X CL W tg (.Call (.Name "range" p) [a] [] pos) (λU=>(fa U).bind λx=>(DR x).bind λj=>Dj 0 j):=
 λA=>PI.weak (Yv hg hm (El (ha A) F1 hs) hs) λY H R ⟨hA,U,g,q⟩=>⟨hA,U,g,Er.ex q λd v H1 _ s1 r1 p1=>by
  cases d with
  |int j=>
   have e:=r1.int_of;subst e;have p2:Er X.K CL A W H1 (Dj 0 j) R:=p1;cases e2:Dj 0 j with
   |ok ds=>
    rw[e2]at p2;obtain⟨_,h2,rfl,hz⟩:=QM e2;exact⟨j,rfl,h2.1,h2.2,p2 _ H1 (AG.refl H1) (by rw[U_5];exact Rz 0 j.toNat) hz⟩
   |exn y=>exact(Qd e2).elim
   |bad=>rw[e2]at p2;exact p2.elim
  | _=>exact p1.elim⟩
theorem aN(ha:ST X CL W a fa)(hb:ST X CL W b fb)(hg:Gl X "range")(hm:X.mg "range" = Af)(hs:Ay [a,b] X.env=[(Ad,eval a X.env),(Ad,eval b X.env)])(hs2:Ay [b] X.env=[(Ad,eval b X.env)]):
  SI X CL W tg (.Call (.Name "range" p) [a,b] [] pos) (λU=>(fa U).bind λx=>(fb U).bind λy=>(DR x).bind λi=>(DR y).bind λj=>Dj i j):=
 λA=>PI.weak (Yu hg hm (El (ha A) (El (hb A) F1 hs2) (by rw[hs,hs2])) hs hs2) λY H R ⟨hA,U,g,q⟩=>⟨hA,U,g,Er.ex q λd v H1 _ s1 r1 p1=>⟨hA.same s1,U,g.same s1,Er.ex p1 λd2 v2 H2 _ s2 r2 p2=>by
  cases d with
  |int i=>
   cases d2 with
   |int j=>
    have e:=r1.int_of;have e':=r2.int_of
    subst e e';have p3:Er X.K CL A W H2 (Dj i j) R:=p2;cases e2:Dj i j with
    |ok ds=>
     rw[e2]at p3;obtain⟨h1,h2,rfl,hz⟩:=QM e2;exact⟨i,j,rfl,⟨h1.1,h1.2,h2.1,h2.2⟩,p3 _ H2 (AG.refl H2) (Rz _ _) hz⟩
    |exn y=>exact(Qd e2).elim
    |bad=>rw[e2]at p3;exact p3.elim
   |_=>exact p2.elim
  | _=>exact p2.elim⟩⟩
theorem BW.exI{r:R (Ac D)}{f:Ac D->O}{Q:It->Hp->Prop}(x:Sx X.K CL Fz B U Y H)(h:BW X.K CL Fz B W (O.of U r f) D')(k:∀ ds J H',r=.ok ds->AG H H'->HW X.K CL A ds J H'->ds.length<=sizeLine->Sx X.K CL Fz B U Y H'->BW X.K CL Fz B W (f ds) D'->Q J H'):Er X.K CL A W H r Q:=by
 cases r with
 |ok d=>exact λJ H' s y z=>k d J H' rfl s y z (x.grow s) h
 |exn y=>exact λH' s=>h H' λb o z=>s _ _ (x.same b o z)
 |bad=>exact h
theorem BW.turn{Fy:Ak->HO->Prop}{o:O}{g:Rho->O}{N:L2.St->Hp->Prop}(hf:∀ b q,Fz b q->Fy b q)(h:BW K CL Fz B W (o.turn g) D')(k:∀ U' Y' H',Sx K CL Fy B U' Y' H'->BW K CL Fz B W (g U') D'->N Y' H'):BW K CL Fy B W o {D' with nx:=N,ct:=N,bk:=D'.nx}:=by
 cases o with
 |next U'=>exact λY' H' x=>k U' Y' H' x h
 |cont U'=>exact λY' H' x=>k U' Y' H' x h
 |brk U'=>exact λY' H' x=>h Y' H' (x.mono hf)
 |ret d b=>exact λv H' s r n=>h v H' (λb o z=>s b o (hf b o z)) r λz ds e=>let ⟨a,xs,h1,h2,h3⟩:=n z ds e;⟨a,xs,h1,λo q=>h2 o (hf a o q),h3⟩
 |exn y U'=>exact λH' s=>h H' (λb o z=>s b o (hf b o z))
 |bad=>exact h
noncomputable def Gu(ts:Ac Ae)(U:Rho):Rho:=ts.foldl (λU t=>U.set t Af) U
def GT(K:Fg)(CL:ClA)(as:D->Rho->R Rho)(g:TG):Prop:=∀ Fz B U Y H v d U' Q,Sx K CL Fz B U Y H->Rep K CL H (BL B U Y) v d->as d U=.ok U'->(∀ Y',Sx K CL Fz B U' Y' H->Q Y' H)->g v Y H Q
theorem cC(i:Ae):GT K CL (λd U=>.ok (U.set i (Ab (d,Ad)))) (GZ i):=λFz B U Y H v d U' Q x r e k=>by
 cases e;exact k _ (x.set i r)
theorem S5{K:Fg}{Fz:Ak->HO->Prop}{B:Ak->Prop}{H:Hp}:∀(ts:Ac Ae)(ds:Ac D)(vs:Ac V)(U U':Rho)(Y:L2.St)(Q:L2.St->Hp->Prop),Sx K CL Fz B U Y H->Reps K CL H (BL B U Y) vs ds->GY ts ds U=Ab U'->(∀ Y',Sx K CL Fz B U' Y' H->Q Y' H)->(ts.foldr (λt u=>LM (GZ t) u) LW) vs Y H Q
 |[],[],[],U,U',Y,Q,x,_,e,k=>by
  cases e;exact⟨rfl,k Y x⟩
 |t::ts,d::ds,v::vs,U,U',Y,Q,x,r,e,k=>by
  refine⟨v,vs,rfl,S5 ts ds vs _ U' _ Q (x.set t r.1) (Reps.sub (λa ha=>?_) ds r.2) e k⟩
  rcases ha with ha|⟨j,c,h1,h2⟩
  .exact .inl ha
  .by_cases hj:t=j
   .subst hj;have:=GH h1;cases this
   .rw[Ci hj]at h1 h2;exact .inr ⟨j,c,h1,h2⟩
 |[],_::_,_,_,_,_,_,_,_,e,_=>by cases e
 |_::_,[],_,_,_,_,_,_,_,e,_=>by cases e
 |[],[],_::_,_,_,_,_,_,r,_,_=>r.elim
 |_::_,_::_,[],_,_,_,_,_,r,_,_=>r.elim
theorem Qc:∀(ts:Ac Ae)(ds:Ac D)(U U':Rho),GY ts ds U=Ab U'->ds.length=ts.length
 |[],[],_,_,_=>rfl
 |_::ts,_::ds,_,_,e=>congrArg (· + 1) (Qc ts ds _ _ e)
 |[],_::_,_,_,e=>by cases e
 |_::_,[],_,_,e=>by cases e
theorem iJ(ts:Ac Ae):GT K CL (Fi ts) (PJ K ts.length (ts.foldr (λt u=>LM (GZ t) u) LW)):=λFz B U Y H v d U' Q x r e k=>by
 cases d with
 |tup ds=>
  obtain⟨a,xs,rfl,na,sq,rs⟩:=r;rw[XU]at e;cases e2:GY ts ds U with
  |none=>rw[e2]at e;cases e
  |some U2=>
   rw[e2]at e;cases e;exact⟨a,xs,rfl,sq,by rw[rs.length];exact Qc _ _ _ _ e2,S5 ts ds xs U _ Y Q x rs e2 k⟩
 |_=>cases e
theorem Tl{body:Ac AZ}{fbd:Rho->O}{g:TG}(hp:Fe (model X.prog X.w) X.A X.env X.xe)(hc:X.calm=Aa)(hGT:GT X.K CL as g)(hg:PG X tg g)(hit:SI X CL W tg iter fi)(hb:SSs X CL W body fbd)(hs:∀ x,CS iter X.env x=pure x)(hax:∀ d U x,as d U≠.exn x):SS X CL W (.For tg iter body [] pos) (λU=>O.of U (fi U) λxs=>BN (λx U'=>O.of U' (as x U') fbd) xs U):=λFz B pI s Y H D I ⟨U,x,p⟩=>by
 refine jN hp hc (hit (BL B U Y)) hg (tb:=λD Y H=>∃ Fy,(λD Y H=>∃ U,Sx X.K CL Fy B U Y H/\BW X.K CL Fy B W (fbd U) D) D Y H) (λpI s Y H D I ⟨Fy,q⟩=>hb Fy B pI s Y H D I q) hs pI s Y H D I ⟨x.aok,U,x.good,BW.exI x p λds J H1 _ s1 y _ x1 q=>?_⟩
 let Fy:Ak->HO->Prop:=λb o=>H1 b=Ab o/\¬ ∃(j:Ae)(d:Ov.D),U[j]?=Ab (Ab (d,Aa))/\Y[j]?=Ab (Ab (.ref b))
 have hfy:∀ b o,Fz b o->Fy b o:=λb o z=>⟨x1.same b o z,λ⟨j,d,h1,h2⟩=>(x1.new j d b h1 h2).1 o z⟩
 have xy:Sx X.K CL Fy B U Y H1:=⟨x1.good,x1.aok,λj d a h1 h2=>⟨λo z=>z.2 ⟨j,d,h1,h2⟩,(x1.new j d a h1 h2).2⟩,x1.dis,λb o z=>z.1,x1.len⟩
 refine⟨λk m Y' H'=>m=ds.length-k/\k<=ds.length/\∃ U',Sx X.K CL Fy B U' Y' H'/\BW X.K CL Fz B W (BN (λx U'=>O.of U' (as x U') fbd) (ds.drop k) U') D,⟨ds.length,by simp,CI _,U,xy,q⟩,?_⟩
 rintro k m Y' H' ⟨rfl,hk,U',x',q'⟩;have kp:Kp (BL B U Y) H1 H':=λb o e na=>x'.same b o ⟨e,λz=>na (.inr z)⟩
 obtain⟨yst,ygo⟩:=y H' kp k;by_cases hlt:k<ds.length
 .have hd:ds[k]?=Ab ds[k]:=AE hlt;obtain⟨hgo,hyl⟩:=ygo _ hd;refine .inr ⟨hgo,λY'' H''=>∃ U'',Sx X.K CL Fy B U'' Y'' H''/\BW X.K CL Fz B W (BN (λx U'=>O.of U' (as x U') fbd) (ds.drop (k+1)) U'') D,λY'' H'' z=>⟨ds.length-(k+1),by omega,rfl,hlt,z⟩,λv H2 hv=>?_⟩
  obtain⟨e2,rv⟩:=hyl v H2 hv;rw[By hlt]at q';have q2:BW X.K CL Fz B W ((O.of U' (as ds[k] U') fbd).turn (BN (λx U'=>O.of U' (as x U') fbd) (ds.drop (k+1)))) D:=q'
  have rv':Rep X.K CL H2 (BL B U' Y') v ds[k]:=rv _ (λa ha=>by
    rcases ha with ha|⟨j,d,h1,h2⟩
    .exact .inl (.inl ha)
    .cases e:H1 a with
     |none=>exact .inr rfl
     |some o=>
      by_cases ho:∃(j:Ae)(d:Ov.D),U[j]?=Ab (Ab (d,Aa))/\Y[j]?=Ab (Ab (.ref a))
      .exact .inl (.inr ho)
      .exact absurd ⟨e,ho⟩ ((x'.new j d a h1 h2).1 o)) x'.aok
  cases ea:as ds[k] U' with
  |bad=>rw[ea]at q2;exact q2.elim
  |exn z=>exact absurd ea (hax _ _ z)
  |ok U2=>
   rw[ea,O.of_ok]at q2;exact hGT Fy B U' Y' H2 v ds[k] U2 _ (x'.grow e2) rv' ea λY3 x3=>⟨Fy,U2,x3,BW.turn hfy q2 λU3 Y3 H3 x3 q3=>⟨U3,x3,q3⟩⟩
 .have hk':ds.length<=k:=by omega
  rw[Vb hk']at q';exact .inl ⟨yst hk',q' Y' H' (x'.mono hfy)⟩
end
section
variable{X:Cx}{CL:ClA}{W:XW}{a b c:An}{fa fb fc:Rho->R D}{pos:AR}
noncomputable def tyK:Ki->Am CD
 |.int=>Ab "int"
 |.bool=>Ab "bool"
 |.str=>Ab "str"
 |.list=>Ab "list"
 |.tuple=>Ab "tuple"
 |_=>Af
noncomputable def OZ:D->Ai
 |.obj _ _=>Ad
 |.exc _ _=>Ad
 |.dic _=>Ad
 |_=>Aa
theorem iF{k:Ki}{Q:Vq}{E:Vq}(I:Inv X pI Y H s)(r:CG X.K CL H A v d)(q:Bx v u)(hT:tyK k=Ab T)(hd:OZ d=Aa)(h:∀ s',Inv X pI Y H s'->Q (.bool (kiD up k d)) s'):
  AB (model X.prog X.w) X.A (call (.builtin "isinstance") [u,.type T]) Q E s:=by
 have r':=r.plain;have it:=λt=>h _ (I.tok t)
 cases d with
 |obj=>cases hd
 |exc=>cases hd
 |dic=>cases hd
 |non=>
  cases r';cases q;cases k<;>simp only[tyK]at hT<;>cases hT
  .exact IsiPair.NoneType_int (it _)
  .exact IsiPair.NoneType_bool (it _)
  .exact IsiPair.NoneType_str (it _)
  .exact IsiPair.NoneType_list (it _)
  .exact IsiPair.NoneType_tuple (it _)
 |bl b=>
  cases r';cases q;cases k<;>simp only[tyK]at hT<;>cases hT
  .exact IsiPair.bool_int (h _ I)
  .exact IsiPair.bool_bool (h _ I)
  .exact IsiPair.bool_str (it _)
  .exact IsiPair.bool_list (it _)
  .exact IsiPair.bool_tuple (it _)
 |int i=>
  cases r';obtain⟨t,rfl⟩:=q;cases k<;>simp only[tyK]at hT<;>cases hT
  .exact IsiPair.int_int (h _ I)
  .exact IsiPair.int_bool (it _)
  .exact IsiPair.int_str (it _)
  .exact IsiPair.int_list (it _)
  .exact IsiPair.int_tuple (it _)
 |str x=>
  cases r';obtain⟨t,rfl⟩:=q;cases k<;>simp only[tyK]at hT<;>cases hT
  .exact IsiPair.str_int (it _)
  .exact IsiPair.str_bool (it _)
  .exact IsiPair.str_str (h _ I)
  .exact IsiPair.str_list (it _)
  .exact IsiPair.str_tuple (it _)
 |tup ds=>
  obtain⟨p,xs,rfl,_,sq,rr⟩:=r';obtain⟨its,rv,pt,_⟩:=I.tuple sq;cases q;have pt':s.heap.IsTuple p its.toArray:=pt;cases k<;>simp only[tyK]at hT<;>cases hT
  .exact IsiPair.isTuple_int pt' (λ_ _ e=>e) (it _)
  .exact IsiPair.isTuple_bool pt' (λ_ _ e=>e) (it _)
  .exact IsiPair.isTuple_str pt' (λ_ _ e=>e) (it _)
  .exact IsiPair.isTuple_list pt' (λ_ _ e=>e) (it _)
  .exact IsiPair.isTuple_tuple pt' (λ_ _ e=>e) (h _ I)
 |lst ds=>
  obtain⟨p,xs,rfl,_,sq,rr⟩:=r';obtain⟨its,rv,pl,_⟩:=I.list sq;cases q;have pt':s.heap.IsList p its.toArray:=KB pl;cases k<;>simp only[tyK]at hT<;>cases hT
  .exact IsiPair.isList_int pt' (λ_ _ e=>e) (it _)
  .exact IsiPair.isList_bool pt' (λ_ _ e=>e) (it _)
  .exact IsiPair.isList_str pt' (λ_ _ e=>e) (it _)
  .exact IsiPair.isList_list pt' (λ_ _ e=>e) (h _ I)
  .exact IsiPair.isList_tuple pt' (λ_ _ e=>e) (it _)
theorem Ym{k:Ki}(hT:tyK k=Ab T)(p:Bg Rp W H (EI up [k] d) Q):OZ d=Aa/\Bg Rp W H (.ok (.bl (kiD up k d))) Q:=by
 cases k<;>simp only[tyK]at hT<;>cases hT<;>cases d<;>first|exact p.elim|exact⟨rfl,by simpa using p⟩
theorem gI{k:Ki}(hT:tyK k=Ab T)(hg:Gl X "isinstance")(hm:X.mg "isinstance" = Af)(hg2:Gl X x)(hm2:X.mg x=Af)(hv:CB x=Ab (.type T))(hn:x≠"__name__")(hdb:(x==("__debug__" : Ah))=Ad)(ha:ST X CL W a fa)(he:Ay [a,.Name x p2] X.env=(Ad,eval a X.env)::Ay [.Name x p2] X.env):SE X CL W (.Call (.Name "isinstance" p) [a,.Name x p2] [] pos) (λU=>(fa U).bind λx=>EI up [k] x):=λA=>
 PE.weak (Kd (r:=λxs H Q=>∃ y d,xs=[y,.ty T]/\CG X.K CL H A y d/\OZ d=Aa/\Q (.bl (kiD up k d)) H) (λpI s Y H xs us Q I r ⟨y,d,e,ry,hd,q⟩=>by
   subst e;obtain⟨u,w',rfl,r1,r2⟩:=MP r;cases r2;exact iF I ry r1 hT hd λs' I'=>⟨.bl _,H,I',rfl,q⟩)
  hg hm Gh (El (ha A) (El (RU (v:=.ty T) hg2 hm2 hv rfl hn hdb) F1 rfl) he) (by decide) (by decide) he rfl) λY H Q ⟨hA,U,g,q⟩=>⟨hA,U,g,Bg.bind q λd v H1 _ s1 r1 p1=>by
   obtain⟨hd,p2⟩:=Ym hT p1;exact⟨v,d,rfl,r1,hd,p2 _ H1 (AG.refl H1) rfl⟩⟩
theorem bJ{b:Ai}{A':AT}{E:Vq}{Q:Ai->Ap->Prop}(r:Rep X.K CL H A v d)(q:Bx v u)(h:F7 d=.ok b)(hq:Q b s):AB (model prog w) A' (truthy u) Q E s:=by
 cases d with
 |non=>
  cases r;cases q;cases h;exact truthy_none hq
 |bl k=>
  cases r;cases q;cases h;exact CU hq
 |int i=>
  cases r;obtain⟨t,rfl⟩:=q;cases h;exact truthy_int hq
 |_=>cases h
theorem Qi:∀{ds:Ac D}{b:Ai},F4 ds=.ok b->(∀ j,j<ds.length->∃ c,F7 (ds.getD j .non)=.ok c)/\b=(A8 ds.length).all λj=>match F7 (ds.getD j .non) with
  |.ok c=>c
  |_=>Ad
 |[],b,h=>by cases h;exact⟨λj hj=>absurd hj (Nat.not_lt_zero _),rfl⟩
 |d::ds,b,h=>by
  rw[Qv]at h;cases e:F7 d with
  |bad=>rw[e]at h;cases h
  |exn x=>rw[e]at h;cases h
  |ok c=>
   rw[e,R.bind_ok]at h;cases e2:F4 ds with
   |bad=>rw[e2]at h;cases h
   |exn x=>rw[e2]at h;cases h
   |ok c2=>
    rw[e2,R.bind_ok]at h;cases h;obtain⟨h1,h2⟩:=Qi e2;refine⟨λj hj=>?_,?_⟩
    .cases j with
     |zero=>exact⟨c,e⟩
     |succ j=>exact h1 j (by simpa using hj)
    .rw[AS,P7,h2];show (c&&_)=((match F7 d with | .ok c=>c|_=>Ad)&&_)
     rw[e];rfl
theorem eI{ds:Ac D}{its:Ac Aj}(r:Reps X.K CL H A0 xs ds)(rv:A6 xs its){j:Ae}{v:Aj}(h:its.toArray[j]?=Ab v):j<ds.length/\∃ x,Rep X.K CL H A0 x (ds.getD j .non)/\Bx x v:=by
 have h':its[j]?=Ab v:=by simpa using h
 obtain⟨hj,e⟩:=A4.mp h';obtain⟨x,rx,q⟩:=JN r rv hj;have l1:=rv.length;have l2:=r.length
 exact⟨by omega,x,rx,by rw[<-e];exact q⟩
theorem oF{o:DE}(k:∀ b q,b∉[h.objs.size]->(h.push o).get? b=Ab q->h'.get? b=Ab q):∀ b q,h.get? b=Ab q->h'.get? b=Ab q:=λb q e=>k b q (by
 intro z;have:=Bk.mp z;rw[this]at e;exact absurd (AL e) (Br _)) (As _ e)
theorem kQ(hc:X.calm=Aa):KJ X CL W (.builtin "all") (biD .all):=by
  intro A pI s Y H xs us Q I r ⟨hA,ds,rs,p⟩
  match ds,rs,p with
  |[.lst es],rs,p=>
    obtain⟨v,rfl,rv⟩:=rs.one;obtain⟨q,ys,e,_,sq,ry⟩:=rv.plain;subst e;obtain⟨u,rfl,ru⟩:=Jg r;cases ru;rw[pJ]at p;cases e1:F4 es with
    |bad=>rw[e1]at p;exact p.elim
    |exn x=>
      exfalso
      have:∀(es:Ac D) x,F4 es≠.exn x:=by
        intro es
        induction es with
        |nil=>intro x h;cases h
        |cons d ds ih=>
          intro x h;rw[Qv]at h;cases e:F7 d with
          |bad=>rw[e]at h;cases h
          |exn y=>cases d<;>cases e
          |ok c=>
            rw[e,R.bind_ok]at h;cases e2:F4 ds with
            |bad=>rw[e2]at h;cases h
            |exn y=>exact ih y e2
            |ok c2=>rw[e2]at h;cases h
      exact this es x e1
    |ok b=>
      rw[e1,R.bind_ok]at p;obtain⟨h1,h2⟩:=Qi e1;obtain⟨its,rvv,pl,_⟩:=I.list sq;have hlt:q<s.heap.objs.size:=by obtain⟨o,n,e,_⟩:=pl;exact AL e
      have hl:its.toArray.size=es.length:=by rw[AH,<-rvv.length,ry.length]
      refine call_all_walk (G9 (KB pl) ⟨s.heap.objs.size,_,_,_,_,_,(λj=>match F7 (es.getD j .non) with | .ok c=>c|_=>Ad),rfl,Walks.list (A:=X.A.in1) (I.ok.hd hc) s.heap.objs.size q (Bj hlt) its.toArray,⟨⟨_,AJ _ rfl,rfl,rfl⟩,(KB pl).push _⟩,λj v s' Q' E' hv hQ=>?_,λh' tk k=>?_⟩)
      · obtain⟨hj,x,rx,qx⟩:=eI ry rvv hv;obtain⟨c,ec⟩:=h1 j hj;exact bJ rx qx ec (by dsimp only at hQ;rw[ec]at hQ;exact hQ)
      · rw[hl,<-h2];exact⟨.bl b,H,I.kept (oF k),rfl,p _ H (AG.refl H) rfl⟩
  |[],_,p=>exact p.elim
  |[.non],_,p=>exact p.elim
  |[.bl _],_,p=>exact p.elim
  |[.int _],_,p=>exact p.elim
  |[.str _],_,p=>exact p.elim
  |[.tup _],_,p=>exact p.elim
  |[.obj _ _],_,p=>exact p.elim
  |[.exc _ _],_,p=>exact p.elim
  |[.dic _],_,p=>exact p.elim
  |x::_::_,_,p=>cases x<;>exact p.elim
end
section
variable(K:Fg)(CL:ClA)
def pK(H0:Hp)(A:Ak->Prop)(H:Hp)(v:V)(d:D):Prop:=∀ ds,d=.lst ds->∃ a xs,v=.ref a/\H0 a=Af/\H a=Ab (.lst xs)/\Reps K CL H (λb=>A b\/b=a) xs ds
def DY(fr:Ai)(H0:Hp)(A:Ak->Prop)(H:Hp)(v:V)(d:D):Prop:=Rep K CL H A v d/\(fr=Aa->pK K CL H0 A H v d)
end
section
variable{X:Cx}{CL:ClA}{W:XW}{a b c:An}{fa fb fc:Rho->R D}{pos:AR}
def SC(X:Cx)(CL:ClA)(W:XW)(fr:Ai)(e:An)(f:Rho->R D):Prop:=∀ A,PE X e (λY H Q=>AOk H A/\∃ U,Good X.K CL A U Y H/\Bg (DY X.K CL fr H A) W H (f U) Q)
theorem SC.se{fr:Ai}(h:SC X CL W fr a fa):SE X CL W a fa:=λA=>PE.weak (h A) λY H Q ⟨hA,U,g,p⟩=>⟨hA,U,g,by
 cases e:fa U with
 |ok d=>rw[e]at p;exact λv H' s r=>p v H' s r.1
 |exn x=>rw[e]at p;exact p
 | bad=>rw[e]at p;exact p⟩
theorem SE.sc(h:SE X CL W a fa):SC X CL W Ad a fa:=λA=>PE.weak (h A) λY H Q ⟨hA,U,g,p⟩=>⟨hA,U,g,by
 cases e:fa U with
 |ok d=>rw[e]at p;exact λv H' s r=>p v H' s ⟨r,λz=>nomatch z⟩
 |exn x=>rw[e]at p;exact p
 | bad=>rw[e]at p;exact p⟩
theorem SC.congr{fr:Ai}{f g:Rho->R D}(h:SC X CL W fr a f)(e:∀ U,g U=f U):SC X CL W fr a g:=λA=>PE.weak (h A) λY H Q ⟨hA,U,q,p⟩=>⟨hA,U,q,by rw[<-e];exact p⟩
theorem JG{p:Ak}{ds:Ac D}(s:AG H0 H)(hA:AOk H A)(hp:H p=Af)(r:Reps K CL H A xs ds):DY K CL Aa H0 A (upd H p (.lst xs)) (.ref p) (.lst ds):=
 ⟨R6 hA hp r,λ_ ds' e=>by
  cases e;exact⟨p,xs,rfl,s.free hp,GF,(Reps.wide (λa ha=>ha.imp id λe=>by rw[e];exact hp) _ r).same (FI hp _)⟩⟩
theorem Ow{fr:Ai}(r:Rep K CL H A v d)(h:∀ ds,d≠.lst ds):DY K CL fr H0 A H v d:=⟨r,λ_ ds e=>absurd e (h ds)⟩
theorem OQ(hs:SA X CL W es fs)(hz:∀ U ds,fs U=.ok ds->ds.length<=100000):SC X CL W Aa (.List es pos) (λU=>(fs U).bind λxs=>.ok (.lst xs)):=
 λA=>PE.weak (jX (hs A)) λY H Q ⟨hA,U,g,p⟩=>⟨hA,U,g,G0.bind p λds vs H1 e s1 r1 p1=>⟨by
  rw[r1.length,B9];have:=hz U ds e;omega,λq hq=>p1 _ _ (FI hq _) (JG s1 (hA.same s1) hq r1)⟩⟩
theorem Bg.bindF{fr:Ai}{f:D->R D}{Q':VK}(h:Bg (DY K CL fr H A) W H (r.bind f) Q)(k:∀ d v H',r=.ok d->AG H H'->Rp H' v d->Bg (DY K CL fr H A) W H' (f d) Q->Q' v H'):Bg Rp W H r Q':=by
 cases r with
 |ok d=>exact λv H2 s2 q=>k d v H2 rfl s2 q (Bg.same s2 h)
 |exn x=>exact h
 |bad=>exact h
theorem G0.bindF{Rp:Hp->Ac V->Ac D->Prop}{r:R (Ac D)}{f:Ac D->R D}{Q':Ac V->Hp->Prop}(h:Bg Rq W H (r.bind f) Q)(k:∀ d v H',r=.ok d->AG H H'->Rp H' v d->Bg Rq W H' (f d) Q->Q' v H'):G0 Rp W H r Q':=by
 cases r with
 |ok d=>exact λv H2 s2 q=>k d v H2 rfl s2 q (Bg.same s2 h)
 |exn x=>exact h
 |bad=>exact h
theorem JV.bindF{r:R (Am Ag)}{f:Am Ag->R D}(h:Bg Rq W H (r.bind f) Q)(k:∀ o H',r=.ok o->AG H H'->Bg Rq W H' (f o) Q->Q' o H'):JV W H r Q':=by
 cases r with
 |ok d=>exact λH2 s2=>k d H2 rfl s2 (Bg.same s2 h)
 |exn x=>exact h
 |bad=>exact h
def UJ:V->Am Ag->Am Ag->Hp->VK->Prop:=λx l h H Q=>∃ z,x=.str z/\(Fm z l h).length<=sizeLine/\Q (.str (Fm z l h)) H
theorem RV{v:Aj}{o:Am Ag}(h:GP v o):∃ p:Am (Ag×BV),v=partValue p/\p.map (·.1)=o:=by
 cases h with
 |none=>exact⟨Af,rfl,rfl⟩
 |int i t=>exact⟨Ab (i,t),rfl,rfl⟩
theorem gA:SlR X UJ:=by
 intro pI s Y H x v vl vu lo hi sl Q I rx hs pl pu h;obtain⟨z,rfl,hz,q⟩:=h;obtain⟨t,rfl⟩:=rx;obtain⟨l,rfl,el⟩:=RV pl;obtain⟨u,rfl,eu⟩:=RV pu;refine⟨"str",_,PySem.F.slot_str_getitem.lookup,Iu _ _ _,?_⟩;refine wpAny_getItem_str_slice (l:=l) (u:=u) (st:=Af) hs rfl ?_;subst el eu;unfold sliceMade slicePicked;unfold Fm at hz q;by_cases c:((DO (l.map (·.1)) (u.map (·.1)) 1 z.length).length==z.length)=Aa
 .rw[Aq c]at q;rw[Aq (by rw[Al];exact⟨rfl,c⟩)]
  exact⟨.str z,H,I,⟨t,rfl⟩,q⟩
 .rw[Ar c]at q hz;rw[Ar (by rw[Al];exact λh=>c h.2)]
  exact⟨hz,.str _,H,I.tok _,⟨_,rfl⟩,q⟩
theorem lP{lo hi:Am An}{fl fh:Rho->R (Am Ag)}(ha:ST X CL W a fa)(hl:SO X CL W lo fl)(hh:SO X CL W hi fh):SC X CL W Aa (.Subscript a (.Slice lo hi Af p2) pos) (λU=>(fa U).bind λx=>(fl U).bind λl=>(fh U).bind λh=>slD x l h):=
 λA=>PE.weak (ZL (r:=λx l h H Q=>Um X.K x l h H Q\/(UI X.K x l h H Q\/UJ x l h H Q)) (SlR.or aL (SlR.or fZ gA)) (ha A) (hl A) (hh A)) λY H Q ⟨hA,U,g,p⟩=>⟨hA,U,g,Bg.bindF p λdx x H1 _ s1 r1 p1=>⟨hA.same s1,U,g.same s1,JV.bindF p1 λl H2 _ s2 p2=>⟨(hA.same s1).same s2,U,(g.same s1).same s2,JV.bindF p2 λh H3 _ s3 p3=>by
  cases dx with
  |lst ds=>
   obtain⟨q,xs,rfl,sq,r⟩:=((r1.same s2).same s3).lst_of;exact .inl ⟨q,xs,rfl,sq,λt ht=>p3 _ _ (FI ht _) (JG ((s1.trans s2).trans s3) (((hA.same s1).same s2).same s3) ht (Sj l h r))⟩
  |tup ds=>
   obtain⟨q,xs,rfl,_,sq,r⟩:=((r1.same s2).same s3).tup_of;rw[qG]at p3;split at p3
   .exact p3.elim
   .rename_i hw;refine .inr (.inl ⟨q,xs,rfl,sq,?_,λt ht=>p3 _ _ (FI ht _) (Ow (Kt (((hA.same s1).same s2).same s3) ht (Sj l h r)) (by intro _ z;cases z))⟩)
    rintro⟨h1,h2⟩;refine hw ?_;have e:∀ d o,HT.sIx xs.length d o=IJ ds.length d o:=λd o=>by rw[r.length];cases o<;>rfl
    rw[e]at h1 h2;rw[r.length]at h2;simp[h1,h2]
  |str z=>
   have e:=((r1.same s2).same s3).str_of;subst e;have p4:Bg (DY X.K CL Aa H A) W H3 (if (BD z.length&&BD (Fm z l h).length)=Aa then .ok (.str (Fm z l h)) else .bad) Q:=p3
   split at p4
   .rename_i hk;rw[Al]at hk;exact .inr (.inr ⟨z,rfl,P9 hk.2,p4 _ H3 (AG.refl H3) (Ow rfl (by intro _ z;cases z))⟩)
   .exact p4.elim
  | _=>exact p3.elim⟩⟩⟩
noncomputable def OpN(X:Cx)(CL:ClA)(W:XW)(f:Aj->Aj->Dq Aj)(g:D->D->R D):Prop:=
 ∀ A H0,OpR X f (λx y H Q=>AG H0 H/\AOk H A/\∃ dx dy,CG X.K CL H A x dx/\CG X.K CL H A y dy/\Bg (DY X.K CL Aa H0 A) W H (g dx dy) Q)
theorem dP:OpN X CL W (BZ .Add) (BX .Add):=by
 intro A H0 pI s Y H x y v u Q I rx ry ⟨s0,hA,dx,dy,hx,hy,p⟩;have key:(∀ ds,dx≠.lst ds)->EP X pI Y Q=EP X pI Y Q->AB (model X.prog X.w) X.A (BZ .Add v u) (EP X pI Y Q) X.xe s:=λhd _=>by
  refine RX (W:=W) A pI s Y H x y v u Q I rx ry ⟨hA,dx,dy,hx,hy,?_⟩;cases e:BX .Add dx dy with
  |bad=>rw[e]at p;exact p
  |exn x=>rw[e]at p;exact p
  |ok d=>
   rw[e]at p;refine λv' H' s' r'=>p v' H' s' (Ow r' λds z=>?_)
   subst z;cases dx with
   |lst ds=>exact hd _ rfl
   |tup xs=>
    cases dy with
    |tup ys=>rw[SF]at e;split at e<;>cases e
    |_=>cases e
   |str xs=>
    cases dy with
    |str ys=>rw[JO]at e;split at e<;>cases e
    |_=>cases e
   |int i=>cases dy<;>cases e
   |_=>cases e
 cases dx with
 |lst ds=>
  cases dy with
  |lst es=>
   obtain⟨a,xs,rfl,s1,r1⟩:=hx.lst_of;obtain⟨b,ys,rfl,s2,r2⟩:=hy.lst_of;simp only[IG]at p;split at p
   .rename_i h;refine RY pI s Y H _ _ v u Q I rx ry ⟨a,b,xs,ys,rfl,rfl,s1,s2,by rw[r1.length,r2.length];exact Iz h,λq hq=>?_⟩
    exact p _ _ (FI hq _) (JG s0 hA hq (r1.append r2))
   .exact p.elim
  |_=>exact p.elim
 |_=>exact key (by intro _ z;cases z) rfl
theorem fY(ha:ST X CL W a fa)(hb:ST X CL W b fb):SC X CL W Aa (.BinOp a .Add b pos) (λU=>(fa U).bind λx=>(fb U).bind λy=>BX .Add x y):=
 λA pI s Y H Q I h=>by
  obtain⟨hA,U,g,p⟩:=h;exact T6 (dP (W:=W) A H) (ha A) (hb A) pI s Y H Q I ⟨hA,U,g,Bg.bindF p λdx x H1 _ s1 r1 p1=>⟨hA.same s1,U,g.same s1,Bg.bind (Rq:=DY X.K CL Aa H A) p1 λdy y H2 _ s2 r2 p2=>⟨s1.trans s2,(hA.same s1).same s2,dx,dy,r1.same s2,r2,p2⟩⟩⟩
def Ng(X:Cx)(CL:ClA)(W:XW)(f:Aj)(g:Ac D->R D):Prop:=∀ A H0,IH X f (λxs H Q=>AG H0 H/\AOk H A/\∃ ds,GJ X.K CL H A xs ds/\Bg (DY X.K CL Aa H0 A) W H (g ds) Q)
theorem eX:Ng X CL W (.type "list") (biD .list):=by
  intro A H0 pI s Y H xs us Q I r ⟨s0,hA,ds,rs,p⟩
  match ds,rs,p with
  |[.lst es],rs,p=>
    obtain⟨v,rfl,rv⟩:=rs.one;obtain⟨q,ys,rfl,sq,ry⟩:=rv.lst_of;exact P0 pI s Y H _ us Q I r ⟨q,ys,rfl,.inl sq,λl hl=>p _ _ (FI hl _) (JG s0 hA hl ry)⟩
  |[.tup es],rs,p=>
    obtain⟨v,rfl,rv⟩:=rs.one;obtain⟨q,ys,rfl,_,sq,ry⟩:=rv.tup_of;exact P0 pI s Y H _ us Q I r ⟨q,ys,rfl,.inr sq,λl hl=>p _ _ (FI hl _) (JG s0 hA hl ry)⟩
  |[],_,p=>exact p.elim
  |[.non],_,p=>exact p.elim
  |[.bl _],_,p=>exact p.elim
  |[.int _],_,p=>exact p.elim
  |[.str _],_,p=>exact p.elim
  |[.obj _ _],_,p=>exact p.elim
  |[.exc _ _],_,p=>exact p.elim
  |[.dic _],_,p=>exact p.elim
  |x::_::_,_,p=>cases x<;>exact p.elim
theorem fW{g:Ac D->R D}(hc:Ng X CL W (.type T) g)(hg:Gl X x)(hm:X.mg x=Af)(hv:CB x=Ab (.type T))(ha:SAT X CL W (e::es) fs)(hn:x≠"__name__")(hdb:(x==("__debug__" : Ah))=Ad)(he:Ay (e::es) X.env=(Ad,eval e X.env)::Ay es X.env)(hpl:∀ pos,(BR pos (Ay es X.env)).any (·.1)=Ad):SC X CL W Aa (.Call (.Name x p) (e::es) [] pos) (λU=>(fs U).bind g):=λA pI s Y H Q I ⟨hA,U,gd,q⟩=>
 QO (hc A H) hg hm hv (ha A) hn hdb he (hpl _) pI s Y H Q I ⟨hA,U,gd,G0.bindF q λds vs H1 _ s1 r1 p1=>⟨s1,hA.same s1,ds,r1,p1⟩⟩
theorem fX{g:Ac D->R D}(hc:Ng X CL W (.builtin id) g)(hg:Gl X x)(hm:X.mg x=Af)(hv:CB x=Ab (.builtin id))(ha:SAT X CL W (e::es) fs)(hn:x≠"__name__")(hdb:(x==("__debug__" : Ah))=Ad)(he:Ay (e::es) X.env=(Ad,eval e X.env)::Ay es X.env)(hpl:∀ pos,(BR pos (Ay es X.env)).any (·.1)=Ad):SC X CL W Aa (.Call (.Name x p) (e::es) [] pos) (λU=>(fs U).bind g):=λA pI s Y H Q I ⟨hA,U,gd,q⟩=>
 Kd (hc A H) hg hm hv (ha A) hn hdb he (hpl _) pI s Y H Q I ⟨hA,U,gd,G0.bindF q λds vs H1 _ s1 r1 p1=>⟨s1,hA.same s1,ds,r1,p1⟩⟩
mutual
theorem TY{K:Fg}{H:Hp}{A:Ak->Prop}(hA:AOk H A):∀(n:Ae)(d:D){v:V},nlD n d=Aa->Rep K CL H A0 v d->Rep K CL H A v d
 |_,.non,_,_,h=>h
 |_,.bl _,_,_,h=>h
 |_,.int _,_,_,h=>h
 |_,.str _,_,_,h=>h
 |0,.tup _,_,hn,_=>by cases hn
 |n+1,.tup ds,_,hn,h=>by
  obtain⟨a,xs,e,_,s,r⟩:=h;refine⟨a,xs,e,?_,s,nls_up hA n ds hn r⟩;rcases s with s|s
  .refine .inl λz=>?_
   obtain⟨ys,q⟩:=hA a z;rcases s with s|⟨o,s⟩<;>rw[q]at s<;>cases s
  .exact .inr s
 |n,.lst _,_,hn,_=>by cases n<;>cases hn
 |n,.obj _ _,_,hn,_=>by cases n<;>cases hn
 |n,.exc _ _,_,hn,_=>by cases n<;>cases hn
 |n,.dic _,_,hn,_=>by cases n<;>cases hn
theorem nls_up{K:Fg}{H:Hp}{A:Ak->Prop}(hA:AOk H A):∀(n:Ae)(ds:Ac D){vs:Ac V},ds.all (nlD n)=Aa->Reps K CL H A0 vs ds->Reps K CL H A vs ds
 |_,[],[],_,h=>h
 |n,d::ds,_::_,hn,h=>by
  simp only[C5,Al]at hn;exact⟨TY hA n d hn.1 h.1,nls_up hA n ds hn.2 h.2⟩
 |_,[],_::_,_,h=>h.elim
 |_,_::_,[],_,h=>h.elim
end
theorem Tf{fr:Ai}(hA0:AOk H0 A)(s:AG H0 H)(hc:FN fr d=Aa)(r:DY K CL fr H0 A0 H v d):DY K CL fr H0 A H v d:=by
 have hA:=hA0.same s;cases d with
 |lst ds=>
  have hc':(fr&&ds.all (nlD 5))=Aa:=hc;rw[Al]at hc';obtain⟨a,xs,e,h0,h1,rs⟩:=r.2 hc'.1 ds rfl;have hA2:AOk H (λb=>A b\/b=a):=λb hb=>hb.elim (hA b) λe=>by rw[e];exact⟨xs,h1⟩
  have rs':=nls_up hA2 5 ds hc'.2 (Reps.sub (λ_ z=>z.elim) _ rs)
  refine⟨⟨a,xs,e,.inl (hA0.new h0),SqL.of h1,Reps.sub (λ_ z=>.inl z) _ rs'⟩,λ_ ds' e'=>?_⟩
  cases e';exact⟨a,xs,e,h0,h1,rs'⟩
 |_=>exact⟨TY hA 5 _ hc r.1,λ_ _ z=>nomatch z⟩
def spD(K:Fg)(CL:ClA)(n:Ae)(fr:Ai)(F:Ac D->R D):Sp:=λvs H Q E=>∃(ds:Ac D)(A:Ak->Prop),vs.length=n/\AOk H A/\Reps K CL H A vs ds/\(match F ds with
  |.ok d=>∀ v H',AG H H'->DY K CL fr H A H' v d->Q v H'
  |.exn x=>∀ cls dx H',AG H H'->F5 K CL H' cls dx x->E cls dx H'
  | .bad=>A5)
def EKW(K:Fg)(CL:ClA)(A:Ak->Prop)(W:XW):XK:=λcls dx H'=>∃ x,F5 K CL H' cls dx x/\W x H'
theorem GJ.plain{K:Fg}{H:Hp}{A:Ak->Prop}:∀{vs:Ac V}{ds:Ac D},GJ K CL H A vs ds->Reps K CL H A0 vs ds
 |[],[],h=>trivial
 |_::_,_::_,h=>⟨h.1.plain,GJ.plain h.2⟩
 |[],_::_,h=>h.elim
 |_::_,[],h=>h.elim
theorem aV{CX:CXT}{fr:Ai}{f:Ak}{fd:BQ}{ps:Ac Ah}{F:Ac D->R D}{ft:Rho->R (Ac D)}{sh:Rho->Ai}(G:FnOk X.prog X.w X.K X.mg X.base CX k f fd ps (spD X.K CL n fr F))(hr:Room k X.A)(hg:Gl X x)(hm:X.mg x=Ab (.ref f))(hk:Co X.K (.ref f)=Aa)(hb:G1 X.K fd ps [])(hx:∀ A,KD CX X (EKW X.K CL A W))(ha:SA X CL W (e::es) fs)(hat:SAT X CL W (e::es) ft)(hst:∀ U,sh U=Aa->ft U=fs U)(hn:∀ U ds,ft U=.ok ds->ds.length=n)(hdb:(x==("__debug__" : Ah))=Ad)(he:Ay (e::es) X.env=(Ad,eval e X.env)::Ay es X.env)(hpl:∀ pos,(BR pos (Ay es X.env)).any (·.1)=Ad):SC X CL W fr (.Call (.Name x p) (e::es) [] pos) (λU=>(ft U).bind λds=>(F ds).bind λd=>if sh U=Aa then .ok d else if FN fr d=Aa then .ok d else .bad):=λA pI s Y H Q I ⟨hA,U,gd,q⟩=>by
 dsimp only at q;by_cases hs:sh U=Aa
 .rw[hst U hs]at q;refine RT G hr hg hm hk hb .nil (hx A) (ha A) hdb he (hpl _) pI s Y H Q I ⟨hA,U,gd,?_⟩;cases e1:fs U with
  |bad=>rw[e1]at q;exact q
  |exn y=>rw[e1]at q;exact q
  |ok ds=>
   rw[e1]at q;intro vs H1 s1 r1;refine⟨ds,A,by rw[Bo,r1.length];exact hn U ds (by rw[hst U hs];exact e1),hA.same s1,by rw[Bo];exact r1,?_⟩
   have q':Bg (DY X.K CL fr H A) W H ((F ds).bind λd=>if sh U=Aa then .ok d else if FN fr d=Aa then .ok d else .bad) Q:=q
   cases e2:F ds with
   |ok d=>
    rw[e2,R.bind_ok,Aq hs]at q';exact λv H2 s2 r2=>q' v H2 (s1.trans s2) ⟨r2.1,λz ds' e'=>let ⟨a,xs,z1,z2,z3⟩:=r2.2 z ds' e';⟨a,xs,z1,s1.free z2,z3⟩⟩
   |exn y=>rw[e2]at q';exact λcls dx H2 s2 xr=>⟨y,xr,q' H2 (s1.trans s2)⟩
   |bad=>rw[e2]at q';exact q'.elim
 .refine RT G hr hg hm hk hb .nil (hx A0) (hat A) hdb he (hpl _) pI s Y H Q I ⟨hA,U,gd,?_⟩;cases e1:ft U with
  |bad=>rw[e1]at q;exact q
  |exn y=>rw[e1]at q;exact q
  |ok ds=>
   rw[e1]at q;intro vs H1 s1 r1;refine⟨ds,A0,by rw[Bo,r1.plain.length];exact hn U ds e1,λ_ z=>z.elim,by rw[Bo];exact r1.plain,?_⟩
   have q':Bg (DY X.K CL fr H A) W H ((F ds).bind λd=>if sh U=Aa then .ok d else if FN fr d=Aa then .ok d else .bad) Q:=q
   cases e2:F ds with
   |ok d=>
    rw[e2,R.bind_ok,Ar hs]at q';split at q'
    .rename_i hc;exact λv H2 s2 r2=>q' v H2 (s1.trans s2) (Tf hA (s1.trans s2) hc ⟨r2.1,λz ds' e'=>let ⟨a,xs,z1,z2,z3⟩:=r2.2 z ds' e';⟨a,xs,z1,s1.free z2,z3⟩⟩)
    .exact q'.elim
   |exn y=>rw[e2]at q';exact λcls dx H2 s2 xr=>⟨y,xr,q' H2 (s1.trans s2)⟩
   |bad=>rw[e2]at q';exact q'.elim
end
theorem NJ(env:Cr):∀(ns:Ac (Ah×Ek))(acc:Ac (Ah×Ak)),(∀ x∈ns,x.2=.free->∃ c,env.cells.lookup x.1=Ab c)->(∀ x c,acc.lookup x=Ab c->env.cells.lookup x=Ab c) ->
  ∃ cl,(forIn ns acc fun(x:Ah×Ek)(cs:Ac (Ah×Ak))=>(if (x.2==.free)=Aa then do let c <-cellOf env x.1;pure (ED ((x.1,c)::cs)) else pure (ED cs):Dq (ForInStep (Ac (Ah×Ak)))))=pure cl /\
   (∀ x c,cl.lookup x=Ab c->env.cells.lookup x=Ab c)/\(∀ x,((x,DV)∈ns\/∃ c,acc.lookup x=Ab c)->∃ c,cl.lookup x=Ab c)
 |[],acc,_,h2=>⟨acc,by rw[GC],h2,λx hx=>hx.elim (λz=>nomatch z) id⟩
 |(n,k)::r,acc,h1,h2=>by
  rw[Hz];by_cases hk:k=.free
  .subst hk;obtain⟨c,hc⟩:=h1 (n,.free) AN rfl;obtain⟨cl,e,p,q⟩:=NJ env r ((n,c)::acc) (λx hx=>h1 x (AC _ hx)) (λx d hd=>by
    rw[B8]at hd;split at hd
    .rename_i hx;cases hd;rw[eq_of_beq hx];exact hc
    .exact h2 x d hd)
   refine⟨cl,?_,p,λx hx=>q x ?_⟩
   .have e1:cellOf env n=pure c:=by unfold cellOf;dsimp only at hc;rw[hc]
    rw[Aq (by rfl),e1]
    exact e
   .rcases hx with hx|⟨d,hd⟩
    .rcases AI.mp hx with z|z
     .cases z;exact .inr ⟨c,by simp[B8]⟩
     .exact .inl z
    .by_cases hxn:x=n
     .exact .inr ⟨c,by subst hxn;simp[B8]⟩
     .exact .inr ⟨d,by rw[B8];rw[E4.mpr hxn];exact hd⟩
  .obtain⟨cl,e,p,q⟩:=NJ env r acc (λx hx=>h1 x (AC _ hx)) h2
   refine⟨cl,?_,p,λx hx=>q x ?_⟩
   .rw[Ar (by simpa using hk)]
    exact e
   .rcases hx with hx|hx
    .rcases AI.mp hx with z|z
     .cases z;exact absurd rfl hk
     .exact .inl z
    .exact .inr hx
theorem Qu(h:∀ x∈scope.names,x.2=.free->∃ c,env.cells.lookup x.1=Ab c):∃ cl,closureFor scope env=pure cl/\(∀ x c,cl.lookup x=Ab c->env.cells.lookup x=Ab c)/\∀ x,(x,DV)∈scope.names->∃ c,cl.lookup x=Ab c:=by
 obtain⟨cl,e,p,q⟩:=NJ env scope.names [] h (λx c z=>by simp at z)
 refine⟨cl,?_,p,λx hx=>q x (.inl hx)⟩
 unfold closureFor
 first
  |exact e
  |(simp only[bind_pure];exact e)
  |(rw[show (forIn scope.names ([]:Ac (Ah×Ak)) _:Dq _)=pure cl from e];rfl)
theorem NV:∀(names:Ac (Ah×Ek))(h:AD)(acc:Ac (Ah×Ak))(x:Ah)(c:Ak),(Dg h.objs.size names acc).lookup x=Ab c->acc.lookup x=Ab c\/((x,BJ)∈names/\h.objs.size<=c/\(GS h names).IsCell c Af)
 |[],_,_,_,_,e=>.inl e
 |(n,k)::r,h,acc,x,c,e=>by
  unfold Dg at e;unfold GS;by_cases hk:(k==BJ)=Aa
  .rw[Aq hk]at e ⊢;have hs:h.objs.size+1=(h.push { cls:=.type "cell",data:=.cell Af }).objs.size:=(BF ..).symm;rw[hs]at e;rcases NV r _ _ x c e with q|⟨q1,q2,q3⟩
   .rw[B8]at q;cases hx:x==n with
    |true=>
     rw[hx]at q;cases q;refine .inr ⟨?_,Aw _,?_⟩
     .rw[eq_of_beq hx,eq_of_beq hk];exact AN
     .exact⟨_,HE r _ _ _ (AJ _ rfl),rfl⟩
    |false=>rw[hx]at q;exact .inl q
   .exact .inr ⟨AC _ q1,by omega,q3⟩
  .rw[Ar hk]at e ⊢;rcases NV r h acc x c e with q|⟨q1,q2,q3⟩
   .exact .inl q
   .exact .inr ⟨AC _ q1,q2,q3⟩
theorem NW:∀(names:Ac (Ah×Ek))(h:AD)(acc:Ac (Ah×Ak)),(∀ x y c,acc.lookup x=Ab c->acc.lookup y=Ab c->x=y)->(∀ x c,acc.lookup x=Ab c->c<h.objs.size)->∀ x y c,(Dg h.objs.size names acc).lookup x=Ab c->(Dg h.objs.size names acc).lookup y=Ab c->x=y
 |[],_,_,i,_,x,y,c,e1,e2=>i x y c e1 e2
 |(n,k)::r,h,acc,i,b,x,y,c,e1,e2=>by
  unfold Dg at e1 e2;by_cases hk:(k==BJ)=Aa
  .rw[Aq hk]at e1 e2;have hs:h.objs.size+1=(h.push { cls:=.type "cell",data:=.cell Af }).objs.size:=(BF ..).symm;rw[hs]at e1 e2;have look:∀ z d,HG z ((n,h.objs.size)::acc)=Ab d->(z=n/\d=h.objs.size)\/(z≠n/\acc.lookup z=Ab d):=λz d q=>by
    rw[B8]at q;cases hx:z==n with
    |true=>rw[hx]at q;cases q;exact .inl ⟨eq_of_beq hx,rfl⟩
    |false=>rw[hx]at q;exact .inr ⟨λe=>by rw[e]at hx;simp at hx,q⟩
   refine NW r _ _ (λz z' d q q'=>?_) (λz d q=>?_) x y c e1 e2
   .rcases look z d q with ⟨rfl,q1⟩|⟨_,q1⟩<;>rcases look z' d q' with ⟨rfl,q2⟩|⟨_,q2⟩
    .rfl
    .exact absurd (b _ _ q2) (by rw[q1];exact Br _)
    .exact absurd (b _ _ q1) (by rw[q2];exact Br _)
    .exact i _ _ _ q1 q2
   .rw[<-hs];rcases look z d q with ⟨_,q1⟩|⟨_,q1⟩
    .rw[q1];exact Hk _
    .exact Cq (b _ _ q1)
  .rw[Ar hk]at e1 e2;exact NW r h acc i b x y c e1 e2
theorem NK:∀(names:Ac (Ah×Ek))(n:Ae)(acc:Ac (Ah×Ak))(x:Ah),(x,BJ)∉names->(Dg n names acc).lookup x=acc.lookup x
 |[],_,_,_,_=>rfl
 |(m,k)::r,n,acc,x,hx=>by
  unfold Dg;have hr:(x,BJ)∉r:=λz=>hx (AC _ z)
  by_cases hk:(k==BJ)=Aa
  .rw[Aq hk,NK r _ _ x hr,B8];cases q:x==m with
   |true=>exact absurd (by rw[eq_of_beq q,eq_of_beq hk];exact AN) hx
   |false=>rfl
  .rw[Ar hk];exact NK r n acc x hr
theorem NX(n0:Ae):∀(names:Ac (Ah×Ek))(n:Ae)(acc:Ac (Ah×Ak))(x:Ah),n0<=n->((x,BJ)∈names\/∃ c,acc.lookup x=Ab c/\n0<=c)->∃ c,(Dg n names acc).lookup x=Ab c/\n0<=c
 |[],_,_,_,_,h=>h.elim (λz=>nomatch z) id
 |(m,k)::r,n,acc,x,hn,h=>by
  unfold Dg;by_cases hk:(k==BJ)=Aa
  .rw[Aq hk];refine NX n0 r _ _ x (by omega) ?_
   by_cases hx:(x==m)=Aa
   .exact .inr ⟨n,by rw[B8,hx],hn⟩
   .rcases h with h|⟨c,h,hc⟩
    .rcases AI.mp h with z|z
     .cases z;simp at hx
     .exact .inl z
    .exact .inr ⟨c,by rw[B8];simp only[hx];exact h,hc⟩
  .rw[Ar hk];refine NX n0 r _ _ x hn (h.imp (λh=>?_) id)
   rcases AI.mp h with z|z
   .cases z;simp at hk
   .exact z
theorem Xv{M:Eo}{A:AT}{E:Vq}{globals:Ak}{qual:Ah}{Q:Cr->Ap->Prop}(hQ:Q (newEnv scope s.heap.objs.size globals (Dg (s.heap.objs.size+1) scope.names cl) qual Af .none (Ab env) Iq) { s with heap:=GS (s.heap.push { cls:=.type "dict",data:=.dict #[] }) scope.names }):AB M A (Ij scope globals cl [] qual Af .none (Ab env)) Q E s:=by
 simp only[Ij,Option.isSome_some,ES];refine Ao (wpAny_alloc ?_);refine Ao (wpAny_layCells _ (λname kind cells=>by cases hkc:kind==BJ<;>simp[hkc]) _ _ _ _ ?_)
 rw[show ({ s with heap:=s.heap.push { cls:=.type "dict",data:=.dict #[] } }:Ap).heap.objs.size=s.heap.objs.size+1 from BF ..]
 rw[GC];exact Ao (AK (AK hQ))
noncomputable def cxC(X:Cx)(scope:BY)(cl:Ac (Ah×Ak))(C:Ak)(N':Ac Ah)(s₀:Ap)(H₀:Hp)(fp:Ac Ak):Cx where
 prog:=X.prog
 w:=X.w
 K:=X.K
 mg:=X.mg
 base:=X.base
 A:=X.A
 N:=N'
 s₀:=s₀
 H₀:=H₀
 env:=compEnvC scope cl C X.env
 outer:=X.stack
 stack:=X.stack
 ex:=fp
 fn:=λx=>scope.names.lookup x==Ab BJ
 calm:=X.calm
 pn:=[]
 xe:=λ_ _=>A5
theorem L6{env:Cr}:∀{names:Ac (Ah×Ek)}{x:Ah}{k:Ek},(names.map λ(n,k)=>if (k==DV&&env.scope.kind==.function&&env.kindOf n==Ab .cell) then (n,BJ) else (n,k)).lookup x=Ab k->names.lookup x=Ab k\/(k=.cell/\names.lookup x=Ab .free)
 |[],_,_,h=>by simp at h
 |(n,j)::r,x,k,h=>by
  have ih:=@L6 env r x k;have h':HG x ((if (j==DV&&env.scope.kind==.function&&env.kindOf n==Ab .cell)=Aa then (n,BJ) else (n,j))::(r.map λ(n,k)=>if (k==DV&&env.scope.kind==.function&&env.kindOf n==Ab .cell) then (n,BJ) else (n,k)))=Ab k:=h
  by_cases hc:(j==DV&&env.scope.kind==.function&&env.kindOf n==Ab .cell)=Aa
  .rw[Aq hc]at h';rw[B8]at h' ⊢;cases hx:x==n with
   |true=>
    rw[hx]at h';cases h';simp only[Al]at hc;exact .inr ⟨rfl,by rw[eq_of_beq hc.1.1]⟩
   |false=>rw[hx]at h';exact ih h'
  .rw[Ar hc]at h';rw[B8]at h' ⊢;cases hx:x==n with
   |true=>rw[hx]at h';exact .inl h'
   |false=>rw[hx]at h';exact ih h'
structure BlockOk (X:Cx) (scope:BY) (N':Ac Ah) (ts:Ac Ae):Prop where
 kind:scope.kind=.function
 uniq:∀ y∈scope.names,scope.names.lookup y.1=Ab y.2
 names:∀ y∈scope.names,y.2=.local->scope.names.lookup y.1=Ab .local
 free:∀ y∈scope.names,y.2=.free->X.env.scope.names.lookup y.1=Ab .cell\/X.env.scope.names.lookup y.1=Ab .free
 len:N'.length=X.N.length
 same:∀ i x,N'[i]?=Ab x->scope.names.lookup x=Ab .free->i∉ts->X.N[i]?=Ab x
 loc:∀ i x,N'[i]?=Ab x->(scope.names.lookup x=Ab .local\/scope.names.lookup x=Ab .cell)->i∈ts
structure BCells (X:Cx) (scope:BY) (cl:Ac (Ah×Ak)) (C:Ak) (h:AD):Prop where
 own:∀ x c,cl.lookup x=Ab c->X.env.cells.lookup x=Ab c\/(scope.names.lookup x=Ab .cell/\C<c/\h.IsCell c Af)
 inj:∀ x y c,cl.lookup x=Ab c->cl.lookup y=Ab c->x=y
 has:∀ x,scope.names.lookup x=Ab .cell->∃ c,cl.lookup x=Ab c/\C<c
 fr:∀ x,(x,DV)∈scope.names->∃ c,cl.lookup x=Ab c/\X.env.cells.lookup x=Ab c
section
variable{X:Cx}{pI:Pn}{Y:L2.St}{H:Hp}{s:Ap}
noncomputable def hideT(ts:Ac Ae)(Y:L2.St):L2.St:=ts.foldl (λY t=>Y.set t Af) Y
theorem NQ:∀(ts:Ac Ae)(Y:L2.St),(hideT ts Y).length=Y.length
 |[],_=>rfl
 |t::ts,Y=>by show (hideT ts (Y.set t Af)).length=_;rw[NQ ts,Bb]
theorem QX:∀(ts:Ac Ae)(Y:L2.St){i:Ae}{v:V},(hideT ts Y)[i]?=Ab (Ab v)->Y[i]?=Ab (Ab v)/\i∉ts
 |[],_,_,_,h=>⟨h,by simp⟩
 |t::ts,Y,i,v,h=>by
  obtain⟨h1,h2⟩:=QX ts (Y.set t Af) (i:=i) (v:=v) h;by_cases e:t=i
  .subst e;have:=GH h1;cases this
  .rw[Ci e]at h1;exact⟨h1,by simp only[AI,FQ];exact⟨λz=>e z.symm,h2⟩⟩
theorem XJ{C:Ak}{m:Ah->Am Aj}(I:Inv X pI Y H s)(B:BlockOk X scope N' ts)(hf:∀ b∈fp,Gz X pI H b)(hfo:∀ b∈fp,b<s.heap.objs.size)(hb:BCells X scope cl C h')(hk:∀ b o,s.heap.get? b=Ab o->h'.get? b=Ab o)(hC:s.heap.objs.size<=C)(hn:h'.Ns C m):Inv (cxC X scope cl C N' s H fp) [] (hideT ts Y) H {s with heap:=h',toks:=tk}:=by
 have stf:∀ b∈fp,b∉frs X.stack:=λb hb z=>by
  rcases AI.mp (I.stkSub b z) with e|e
  .exact(hf b hb).2.1 e
  .exact(hf b hb).2.2.1 e
 have frOf:∀ x,((relabel scope X.env).names.lookup x=Ab .cell\/(relabel scope X.env).names.lookup x=Ab .free)->scope.names.lookup x=Ab .free\/scope.names.lookup x=Ab .cell:=λx hx=>by
  rcases hx with z|z
  .rcases L6 z with z|⟨_,z⟩
   .exact .inr z
   .exact .inl z
  .rcases L6 z with z|⟨z,_⟩
   .exact .inl z
   .cases z
 have gtC:∀ c:Ak,C<c->s.heap.objs.size<=c:=λc z=>B5 hC (Gg z)
 have cellK:∀ c v,s.heap.IsCell c v->h'.IsCell c v:=λc v ⟨o,ho,hd⟩=>⟨o,hk _ _ ho,hd⟩
 refine⟨⟨I.ok.mod,B.kind,I.ok.glob,I.ok.blt,hC,hb.inj,λx hx=>?_,λx c h e=>?_,I.ok.hd,I.ok.frames,.inl rfl,λb hbb=>⟨?_,λx c e=>?_⟩,I.bs,B5 I.ok.bsz I.sz,λb o e hbb=>?_,stf,I.stack,I.stkFree⟩,rfl,I.bare,Un.kept hk,⟨m,hn,λi x v h1 h2 h3=>?_⟩,λx c e=>?_,I.hok.fresh hC,λx c e=>(hb.own x c e).elim (I.freeC x c) (λz=>I.hok.fresh (gtC c z.2.1)),λp hp=>absurd (show p∈([]:Pn) from hp) (by simp),I.hok.kept hk,?_⟩
 .rcases frOf x hx with z|z
  .obtain⟨c,q,_⟩:=hb.fr x (Ct z);exact⟨c,q⟩
  .obtain⟨c,q,_⟩:=hb.has x z;exact⟨c,q⟩
 .obtain⟨c',q,z⟩:=hb.has x (eq_of_beq h);have e':cl.lookup x=Ab c:=e;rw[q]at e';cases e';exact gtC _ z
 .intro z;have z':b=C:=z;have:=hfo b hbb;rw[z']at this;exact absurd (AO this hC) (Br _)
 .rcases hb.own x c e with z|z
  .exact(hf b hbb).2.2.2.2.1 x c z
  .intro q;have:=hfo b hbb;have:=gtC c z.2.1;rw[q]at this;exact absurd ‹b<_› (VB.mpr this)
 .rcases (hf b hbb).2.2.2.1 with z|z
  .exact I.ok.noex b o e z
  .exact absurd (AO (AL e) (B5 I.ok.bsz z)) (Br _)
 .obtain⟨h2,hts⟩:=QX ts Y h2;have h3':(relabel scope X.env).names.lookup x=Ab .local\/(relabel scope X.env).names.lookup x=Ab .cell\/(relabel scope X.env).names.lookup x=Ab .free:=h3;have h1':N'[i]?=Ab x:=h1;rcases h3' with z|z
  .rcases L6 z with z|⟨z,_⟩
   .exact absurd (B.loc i x h1' (.inl z)) hts
   .cases z
  .have fr:=(frOf x z).resolve_right λq=>hts (B.loc i x h1' (.inr q))
   have hm:=Ct fr;have hX:=B.same i x h1' fr hts;obtain⟨m0,hn0,hl0⟩:=I.loc;obtain⟨u,ru,lk⟩:=hl0 i x v hX h2 (by
    rcases B.free _ hm rfl with q|q
    .exact .inr (.inl q)
    .exact .inr (.inr q))
   refine⟨u,ru,?_⟩;obtain⟨c,hc,hcX⟩:=hb.fr x hm;rcases lk with ⟨q,_⟩|⟨_,c',hc',hcell⟩
   .have q':X.env.scope.names.lookup x=Ab .local:=q;rcases B.free _ hm rfl with p|p
    .rw[show X.env.scope.names.lookup x=_ from p]at q';cases q'
    .rw[show X.env.scope.names.lookup x=_ from p]at q';cases q'
   .have e:=hcX;rw[hc']at e;cases e;exact .inr ⟨z,c,hc,cellK _ _ hcell⟩
 .rcases hb.own x c e with z|z
  .obtain⟨v,q⟩:=I.cell x c z;exact⟨v,cellK _ _ q⟩
  .exact⟨_,z.2.2⟩
 .show (hideT ts Y).length=N'.length;rw[NQ,I.len,B.len]
theorem QD{C D:Ak}{s':Ap}{Y':L2.St}{pins':Pn}{h'':AD}{ys:Ac Aj}(I:Inv X pI Y H s)(hf:∀ b∈fp,Gz X pI H b)(I':Inv (cxC X scope cl C N' s H fp) pins' Y' H' s')(hD:s.heap.objs.size<=D)(hDC:D≠C)(hC:s.heap.objs.size<=C)(hd:s'.heap.get? D=Ab { cls:=.type "list",data:=.seq ys.toArray n })(hDn:H' D=Af)(rv:A6 xs ys)(hz:xs.length<=sizeLine)(hs:Fc C s'.heap h''):Inv X pI Y (upd H' D (.lst xs)) {s' with heap:=h''}:=by
  have u:Un (frs X.stack) fp H H' s.heap s'.heap:=I'.base;have lt:∀ b o,s.heap.get? b=Ab o->b≠C/\b≠D:=λb o e=>⟨λz=>absurd (AO (AL e) (z ▸ hC)) (Br _),λz=>absurd (AO (AL e) (z ▸ hD)) (Br _)⟩
  have HD:H D=Af:=I.hok.fresh hD;have hCn:H' C=Af:=I'.free;have kb:∀ b o,b≠C->s'.heap.get? b=Ab o->h''.get? b=Ab o:=λb o hb e=>(hs.2 b hb).trans e
  have u2:Un (frs X.stack) fp H (upd H' D (.lst xs)) s.heap h'':=⟨λb o e q hb hx=>kb b o (lt b o e).1 (u.keep b o e q hb hx),λb o e q hb hx=>by
      obtain⟨sl,e1⟩:=u.slot b o e q hb hx;exact⟨sl,kb b _ (lt b o e).1 e1⟩,λb o e q hx=>by rw[B6 (lt b o e).2];exact u.free b o e q hx,λb o e hx=>by
      obtain⟨o',e1⟩:=u.there b o e hx;exact⟨o',kb b _ (lt b o e).1 e1⟩,λb zs q=>by rw[B6 (FH q HD)];exact u.tups b zs q,λb o zs q=>by rw[B6 (FH q HD)];exact u.frzs b o zs q,λb ps q=>by rw[B6 (FH q HD)];exact u.tbls b ps q⟩
  have hok:HOk X.prog X.w (upd H' D (.lst xs)) h'':=λb o e=>by
    by_cases hb:b=D
    · subst hb;rw[GF]at e;cases e;exact⟨hz,ys,n,rv,kb _ _ hDC hd⟩
    · rw[B6 hb]at e;refine(I'.hok b o e).stay (λc v hc q=>kb c v ?_ q) (λc q=>by rw[B6 (FH q hDn)];exact q) λc zs q=>by rw[B6 (FH q hDn)];exact q
      rcases hc with rfl|hc
      · exact FH e hCn
      · exact FH hc hCn
  exact I.call' (s':={s' with heap:=h''}) (ch:=fp) I'.os u2 hok I'.bare λb hb=>⟨(hf b hb).2.2.2.1,(hf b hb).2.1,(hf b hb).2.2.2.2.1,(hf b hb).2.2.2.2.2⟩
end
def PTs(X:Cx)(ifs:Ac An)(tt:TT):Prop:=∀(pI:Pn)(s:Ap)(Y:L2.St)(H:Hp)(Q:Ai->Hp->Prop),Inv X pI Y H s->tt Y H Q ->
 AB (model X.prog X.w) X.A (forIn ifs Aa λc r=>if r=Aa then do let ok <-Ii c X.env (eval c X.env);pure (ED ok) else pure (ED r)) (TP X pI Y Q) X.xe s
theorem aC:PTs X [] (λY H Q=>Q Aa H):=λpI s Y H Q I h=>wpAny_tests_nil ⟨H,I,h⟩
theorem aA{t:TT}(h:PT X c t):PTs X [c] t:=λpI s Y H Q I q=>wpAny_tests_one (h pI s Y H Q I q)
theorem XZ{D:Ak}{ys:Ac Aj}{y:Aj}{E:Vq}{Q:Vq}(I:Inv X ((D,{ cls:=.type "list",data:=.seq ys.toArray n })::pI) Y H s)(hD:X.s₀.heap.objs.size<=D)(hp:∀ p∈X.pn++pI,p.1≠D)(hc:∀ x c,X.env.cells.lookup x=Ab c->c≠D)(hz:ys.length<=sizeLine)(h:∀ s',Inv X ((D,{ cls:=.type "list",data:=.seq (ys++[y]).toArray (n+1) })::pI) Y H s'->(∀ b o,b≠D->s.heap.get? b=Ab o->s'.heap.get? b=Ab o)->Q .none s'):AB (model X.prog X.w) X.A (call (.builtin "list.append") [.ref D,y]) Q E s:=by
 obtain⟨e,hn,hL,hfs,_⟩:=I.pin (D,{ cls:=.type "list",data:=.seq ys.toArray n }) (Bp _ AN);refine append_at (hsz:=by rw[AH];exact hz) e λh' hs hd=>?_
 have hd':h'.get? D=Ab { cls:=.type "list",data:=.seq (ys++[y]).toArray (n+1) }:=by rw[hd];simp
 have kb:∀ b o,b≠D->s.heap.get? b=Ab o->h'.get? b=Ab o:=λb o hb q=>(hs.2 b hb).trans q
 have I0:Inv X pI Y H s:=I.pins_of λp hp=>I.pin p (Bp _ (AC _ hp))
 have I1:Inv X pI Y H {s with heap:=h'}:=I0.turned (t':=s.toks) kb hn hL (.inr hD) hc hp
 refine h _ (I1.pins_of λp hp=>?_) kb
 rcases AI.mp hp with rfl|hp
 .exact⟨hd',hn,hL,hfs,λv z=>by
   have z':K4 _ _=IX v:=z;cases z'⟩
 .exact I1.pin p (Bp _ hp)
section
variable{prog:AM}{w:AY}{A:AT}{R:Ie->Ap->Prop}{s:Ap}
theorem XI{target:An}{it acc:Aj}(I:Ae->Ap->Prop)(turn:∀ n s,I n s->AB (model prog w) A (GU it) (λr s₁=>match r with
      |none=>R (.ok .next) s₁
      | some v=>AB (model prog w) A (Gm target it v) (λ_ s₁'=>AB (model prog w) A (assign target env v) (λ_ s₂=>
          AB (model prog w) A (forIn ifs Aa λc r=>if r=Aa then do let ok <-Ii c env (eval c env);pure (ED ok) else pure (ED r)) (λok s₃=>
            if ok=Aa then AB (model prog w) A (eval elt env) (λx s₄=>
              AB (model prog w) A (call (.builtin "list.append") [acc,x]) (λ_ s₅=>∃ m,m<n/\I m s₅) (Ik (model prog w) A env λe s'=>R (.error e) s') s₄) (Ik (model prog w) A env λe s'=>R (.error e) s') s₃
            else ∃ m,m<n/\I m s₃) (Ik (model prog w) A env λe s'=>R (.error e) s') s₂) (Ik (model prog w) A env λe s'=>R (.error e) s') s₁') (Ik (model prog w) A env λe s'=>R (.error e) s') s₁) (Ik (model prog w) A env λe s'=>R (.error e) s') s)(n:Ae)(h:I n s):Gc (model prog w) A (.compLoop (.ListComp elt [⟨target,iter,ifs,0⟩] scope pos) 0 it acc env) R s:=by
  refine codeAny_loop rfl I (λn s hI=>?_) n h
  show AB _ A ((compTurn (.ListComp elt [⟨target,iter,ifs,0⟩] scope pos) 0 it acc env).onRaise (λx=>do GR x env;theTreesLotGoes x)) _ _ s
  refine wpAny_noted ?_;rw[compTurn_list];refine Ao (wpAny_standAt (Ao (Bt (turn n s hI) (λr s₁ h₁=>?_) λ_ _ h'=>h')))
  cases r with
  |none=>exact AK h₁
  |some v=>
    refine Ao (Bt h₁ (λ_ s₁' h₁'=>?_) λ_ _ h'=>h')
    refine Ao (Bt h₁' (λ_ s₂ h₂=>Ao (Bt h₂ (λok s₃ h₃=>?_) λ_ _ h'=>h')) λ_ _ h'=>h')
    cases ok with
    |false=>exact AK ⟨rfl,h₃⟩
    |true=>
      exact Ao (Ao (Bt h₃ (λx s₄ h₄=>Ao (Bt h₄ (λ_ s₅ h₅=>AK (AK ⟨rfl,h₅⟩)) λ_ _ h'=>h')) λ_ _ h'=>h'))
end
def Lq(J:It)(ts:Ac Ae)(g:TG)(tt:TT)(te:TE)(Y:L2.St)(H:Hp)(Q:VK):Prop:=∃ W:Ae->Ae->Ac V->L2.St->Hp->Prop,(∃ m,W 0 m [] (hideT ts Y) H)/\∀ i m xs Y H,W i m xs Y H ->
 (J.stop i H/\∀ p,H p=Af->Q (.ref p) (upd H p (.lst xs))) \/
 (J.go i H/\xs.length<sizeLine/\∀ x H',J.yld i H x H'->g x Y H' λY2 H2=>tt Y2 H2 λb H3=>if b=Aa then te Y2 H3 λy H4=>∃ m',m'<m/\W (i+1) m' (xs++[y]) Y2 H4 else ∃ m',m'<m/\W (i+1) m' xs Y2 H3)
theorem Q7{g:TG}{it:Ak}{tn:Ae->AD->Prop}{E:Vq}{RR:Aj->Ak->Ie->Ap->Prop}(hc:X.calm=Aa)(B:BlockOk X scope N' ts)(I:Inv X pI Y H s)(T:Turn X.prog X.w X.K tg J fp it tn)(st:tn 0 s.heap)(hf:∀ b∈fp,Gz X pI H b)(hcl:∀ x c,cl.lookup x=Ab c->X.env.cells.lookup x=Ab c)(hcl2:∀ x,(x,DV)∈scope.names->∃ c,cl.lookup x=Ab c)(hg:∀ cl C s H,PG (cxC X scope cl C N' s H fp) tg g)(ht:∀ cl C s H,PTs (cxC X scope cl C N' s H fp) ifs tt)(he:∀ cl C s H,PE (cxC X scope cl C N' s H fp) elt te)(h:Lq J ts g tt te Y H Q)(hRR:∀ cl D C s' H' Y' pins' xs ys n m,Inv (cxC X scope cl C N' s H fp) pins' Y' H' s'->s'.heap.get? D=Ab { cls:=.type "list",data:=.seq (Cn ys) n }->H' D=Af->A6 xs ys->xs.length<=sizeLine->s.heap.objs.size<=D->D≠C->s.heap.objs.size<=C->s'.heap.Ns C m->Q (.ref D) (upd H' D (.lst xs))->RR (.ref D) C (.ok .next) s'):AB (model X.prog X.w) X.A (newList []) (λacc s₃=>AB (model X.prog X.w) X.A (Ij scope X.env.globals cl [] X.env.qual Af .none (Ab X.env)) (λcenv s₄=>Gc (model X.prog X.w) X.A (.compStart (.ListComp elt [⟨tg,iter,ifs,0⟩] scope pos) 0 (.ref it) acc {cenv with scope:=relabel scope X.env}) (RR acc cenv.locals) s₄) E s₃) E s:=by
 refine CT (Xv ?_);dsimp only;generalize hH2:s.heap.push { cls:=.type "list",dict:=Af,data:=.seq ([]:Ac Aj).toArray }=H2;have hns₁:(GS (H2.push { cls:=.type "dict",data:=.dict #[] }) scope.names).Ns H2.objs.size (λ_=>Af):=(Heap.Ns.new H2 (.type "dict")).keeps (HE _ _)
 have hkp₁:∀ b o,H2.get? b=Ab o->(GS (H2.push { cls:=.type "dict",data:=.dict #[] }) scope.names).get? b=Ab o:=λb o e=>HE _ _ b o (As _ e)
 have hown:=NV scope.names (H2.push { cls:=.type "dict",data:=.dict #[] }) cl;have hinj:=NW scope.names (H2.push { cls:=.type "dict",data:=.dict #[] }) cl;rw[BF]at hown hinj;generalize hcl':Dg (H2.objs.size+1) scope.names cl=cl' at hown hinj;have hcf:∀ x,(x,BJ)∉scope.names->cl'.lookup x=cl.lookup x:=λx hx=>by rw[<-hcl'];exact NK _ _ _ x hx
 have hch:∀ x,(x,BJ)∈scope.names->∃ c,cl'.lookup x=Ab c/\H2.objs.size+1<=c:=λx hx=>by rw[<-hcl'];exact NX _ _ _ _ x (Aw _) (.inl hx)
 generalize hh₁:GS (H2.push { cls:=.type "dict",data:=.dict #[] }) scope.names=h₁ at hns₁ hkp₁ hown;have hC:H2.objs.size=s.heap.objs.size+1:=by rw[<-hH2,BF]
 have hCle:s.heap.objs.size<=H2.objs.size:=by rw[hC];exact Jx _
 have hDC:s.heap.objs.size≠H2.objs.size:=by rw[hC];exact Bj (Hk _)
 have below:∀ b,b<s.heap.objs.size->b≠H2.objs.size:=λb hb=>by rw[hC];exact Bj (Cq hb)
 have old:∀ b o,s.heap.get? b=Ab o->h₁.get? b=Ab o:=λb o e=>hkp₁ b o (hH2 ▸ As _ e)
 have hacc:h₁.get? s.heap.objs.size=Ab { cls:=.type "list",data:=.seq ([]:Ac Aj).toArray 0 }:=hkp₁ _ _ (hH2 ▸ AJ _ rfl);have clt:∀ x c,cl.lookup x=Ab c->c<s.heap.objs.size:=λx c e=>by
  obtain⟨v,q⟩:=I.cell x c (hcl x c e);exact q.lt
 have bc:BCells X scope cl' H2.objs.size h₁:=by
  refine⟨λx c e=>?_,hinj (λx y c e1 e2=>I.ok.inj x y c (hcl x c e1) (hcl y c e2)) (λx c e=>Cq (AO (clt x c e) hCle)),λx hx=>?_,λx hx=>?_⟩
  .rcases hown x c e with q|⟨q1,q2,q3⟩
   .exact .inl (hcl x c q)
   .exact .inr ⟨B.uniq _ q1,q2,q3⟩
  .have hm:=Ct hx;obtain⟨c,e,hc⟩:=hch x hm;exact⟨c,e,hc⟩
  .have hno:(x,BJ)∉scope.names:=λz=>by
    have e1:=B.uniq _ hx;have e2:=B.uniq _ z;rw[show scope.names.lookup x=_ from e1]at e2
    cases e2
   obtain⟨c,e⟩:=hcl2 x hx;exact⟨c,by rw[hcf x hno];exact e,hcl x c e⟩
 have hfo:∀ b∈fp,b<s.heap.objs.size:=λb hb=>by
  obtain⟨o,e,_⟩:=T.obj 0 _ st b hb;exact AL e
 generalize hD:s.heap.objs.size=D at *;generalize hC':H2.objs.size=C at *;have I0:Inv (cxC X scope cl' C N' s H fp) [] (hideT ts Y) H {s with heap:=h₁,toks:=s.toks+([]:Ac (Ah×Aj)).length}:=XJ (tk:=s.toks+([]:Ac (Ah×Aj)).length) I B hf (λb hb=>by rw[hD];exact hfo b hb) bc old (by rw[hD];exact hCle) hns₁
 have nD:H D=Af:=I.hok.fresh (by rw[hD];exact Aw _)
 have noD:∀ b∈fp,b≠D:=λb hb=>Bj (hfo b hb)
 have noC:∀ b∈fp,b≠C:=λb hb=>below b (hfo b hb)
 have stfs:D∉frs X.stack:=λz=>by
  obtain⟨_,o,ho,_⟩:=I.stack.mem z;exact absurd (AL ho) (by rw[hD];exact Br _)
 have cD:∀ x c,cl'.lookup x=Ab c->c≠D:=λx c e z=>by
  rcases bc.own x c e with q|⟨_,q,_⟩
  .obtain⟨v,q⟩:=I.cell x c q;exact absurd q.lt (by rw[z,hD];exact Br _)
  .rw[z]at q;exact absurd (AO q hCle) (Br _)
 have I1:Inv (cxC X scope cl' C N' s H fp) [(D,{ cls:=.type "list",data:=.seq ([]:Ac Aj).toArray 0 })] (hideT ts Y) H {s with heap:=h₁,toks:=s.toks+([]:Ac (Ah×Aj)).length}:=I0.pins_of λp hp=>by
  have e:=Bk.mp hp;subst e;exact⟨hacc,nD,hDC,stfs,λv z=>by
   have z':K4 _ _=IX v:=z;cases z'⟩
 have st1:tn 0 h₁:=T.keep _ _ _ st λb _ o e=>old b o e
 obtain⟨W,⟨m0,w0⟩,turn⟩:=h;have fpk:∀{pl:Pn}{H':Hp},(∀ p∈pl,p.1=D)->(∀ b∈fp,H' b=Af)->∀ b∈fp,Gz (cxC X scope cl' C N' s H fp) pl H' b:=λ{pl H'} hp hn b hb=>
  ⟨hn b hb,noC b hb,λz=>by
   rcases AI.mp (I.stkSub b z) with e|e
   .exact(hf b hb).2.1 e
   .exact(hf b hb).2.2.1 e,.inl hb,λx c e=>(bc.own x c e).elim ((hf b hb).2.2.2.2.1 x c) (λz q=>absurd (GO hCle z.2.1) (VB.mpr (by rw[q];exact Gg (hfo b hb)))),λp hp'=>by
   have hp2:p∈pl:=hp';rw[hp p hp2];exact(noD b hb).symm⟩
 have loop:∀ s₃:Ap,s₃={s with heap:=h₁,toks:=s.toks+([]:Ac (Ah×Aj)).length} ->
   Gc (model X.prog X.w) X.A (.compLoop (.ListComp elt [⟨tg,iter,ifs,0⟩] scope pos) 0 (.ref it) (.ref D) (compEnvC scope cl' C X.env)) (RR (.ref D) C) s₃:=by
  rintro s₃ rfl;refine XI (λk s'=>∃ i Y' H' xs ys n,Inv (cxC X scope cl' C N' s H fp) [(D,{ cls:=.type "list",data:=.seq (Cn ys) n })] Y' H' s'/\tn i s'.heap/\(∀ b∈fp,H' b=Af)/\A6 xs ys/\xs.length<=sizeLine/\W i k xs Y' H') ?_ m0
   ⟨0,_,H,[],[],0,I1,st1,λb hb=>(hf b hb).1,.nil,CI _,w0⟩
  rintro k s' ⟨i,Y',H',xs,ys,n,I',st',fr',rv,hz,w'⟩;have one:∀ p∈[((D,{ cls:=.type "list",data:=.seq (Cn ys) n }):Ak×DE)],p.1=D:=λp hp=>by rw[Bk.mp hp]
  rcases turn i k xs Y' H' w' with ⟨stop,q⟩|⟨go,hlt,step⟩
  .refine Bt (T.done (cxC X scope cl' C N' s H fp) rfl rfl rfl hc i _ s' Y' H' (λ_ _=>A5) I' (fpk one fr') st' stop) (λr s1 ⟨hr,J1⟩=>?_) λ_ _ f=>f.elim
   subst hr;obtain⟨e,hn,_⟩:=J1.pin _ (Bp _ AN);obtain⟨m,hm,_⟩:=J1.loc;exact hRR cl' D C s1 H' Y' _ xs ys n m J1 e hn rv hz (Aw _) hDC hCle hm (q D hn)
  .refine Bt (T.item (cxC X scope cl' C N' s H fp) rfl rfl rfl hc i _ s' Y' H' (λ_ _=>A5) I' (fpk one fr') st' go) (λr s1 ⟨u,hr,h4⟩=>?_) λ_ _ f=>f.elim
   subst hr;refine Bt h4 (λ_ s5 ⟨x,H5,I5,r5,y5,st5,fr5⟩=>?_) λ_ _ f=>f.elim
   have I5':=I5.pinned (fpk one fr5) (T.obj _ _ st5);refine Bt (hg cl' C s H _ s5 Y' H5 x u _ I5' r5 (step x H5 y5)) (λ_ s6 ⟨Y6,H6,I6,q6⟩=>?_) λ_ _ f=>f.elim
   refine Bt (ht cl' C s H _ s6 Y6 H6 _ I6 q6) (λok s7 ⟨H7,I7,q7⟩=>?_) λ_ _ f=>f.elim
   have again:∀{s8:Ap}{H8:Hp}{ys':Ac Aj}{n':Ae},Inv (cxC X scope cl' C N' s H fp) ((D,{ cls:=.type "list",data:=.seq (Cn ys') n' })::JP fp s5.heap) Y6 H8 s8->Inv (cxC X scope cl' C N' s H fp) [(D,{ cls:=.type "list",data:=.seq (Cn ys') n' })] Y6 H8 s8/\tn (i+1) s8.heap/\∀ b∈fp,H8 b=Af:=λ{s8 H8 ys' n'} I8=>
    ⟨I8.pins_of λp hp=>I8.pin p (Bp _ (by rw[Bk.mp hp];exact AN)),T.keep _ _ _ st5 λb hb o e=>(I8.pin (b,o) (Bp _ (AC _ (L7 hb e)))).1,λb hb=>by
     obtain⟨o,e,d⟩:=T.obj _ _ st5 b hb;exact(I8.pin (b,o) (Bp _ (AC _ (L7 hb e)))).2.1⟩
   cases ok with
   |false=>
    rw[Ar (by decide)]at q7
    obtain⟨m',hm,w7⟩:=q7;obtain⟨a1,a2,a3⟩:=again I7;rw[Ar (by decide)]
    exact⟨m',hm,i+1,Y6,H7,xs,ys,n,a1,a2,a3,rv,hz,w7⟩
   |true=>
    rw[Aq rfl]at q7;rw[Aq rfl];refine Bt (he cl' C s H _ s7 Y6 H7 _ I7 q7) (λval s8 ⟨y,H8,I8,r8,m',hm,w8⟩=>?_) λ_ _ f=>f.elim
    have hl:=rv.length;refine XZ (X:=cxC X scope cl' C N' s H fp) (ys:=ys) (n:=n) (pI:=JP fp s5.heap) I8 (by show s.heap.objs.size<=D;rw[hD];exact Aw _) (λp hp=>?_) cD (by omega) λs9 I9 kb=>?_
    .have hp2:p∈JP fp s5.heap:=hp;exact noD _ (QP hp2).1
    .obtain⟨a1,a2,a3⟩:=again I9;exact⟨m',hm,i+1,Y6,H8,xs++[y],ys++[val],n+1,a1,a2,a3,rv.append (.cons r8 .nil),by rw[Be];exact hlt,w8⟩
 exact codeAny_compStart_list (loop _ rfl) (T.self _ 0 _ _ _ st1 (loop _ rfl))
theorem dN{g:TG}(hc:X.calm=Aa)(B:BlockOk X scope N' ts)(hi:PI X tg iter wi)(hg:∀ cl C s H fp,PG (cxC X scope cl C N' s H fp) tg g)(ht:∀ cl C s H fp,PTs (cxC X scope cl C N' s H fp) ifs tt)(he:∀ cl C s H fp,PE (cxC X scope cl C N' s H fp) elt te)(hs:∀ x,CS iter X.env x=pure x):PE X (.ListComp elt [⟨tg,iter,ifs,0⟩] scope pos) (λY H Q=>wi Y H λJ H1=>Lq J ts g tt te Y H1 Q):=by
 intro pI s Y H Q I h;obtain⟨cl,hclos,hcl,hcl2⟩:=Qu (scope:=scope) (env:=X.env) λx hx hk=>I.ok.has x.1 ((B.free x hx hk).imp id id)
 rw[eval_ListComp];refine Xj (use:=Af) rfl hs hclos B.kind B.names (thn (hi pI s Y H _ I h) λv s1 h1=>thn h1 λitv s2 h2=>?_)
 obtain⟨it,fp,tn,J,H2,e,I2,T,st2,f2,h3⟩:=h2;subst e;refine Q7 (RR:=λacc C=>compPost (model X.prog X.w) X.A X.xe Af (EP X pI Y Q) acc C) hc B I2 T st2 f2 hcl hcl2 (λcl C s H=>hg cl C s H fp) (λcl C s H=>ht cl C s H fp) (λcl C s H=>he cl C s H fp) h3 λcl' D C s' H' Y' pins' xs ys n m I' hd hDn rv hz hD hDC hC hm q=>?_
 exact⟨m,hm,λh'' hs''=>⟨.ref D,_,QD I2 f2 I' hD hDC hC hd hDn rv hz hs'',rfl,q⟩⟩
theorem dH{n:Ah}{g:TG}(hc:X.calm=Aa)(B:BlockOk X scope N' ts)(hi:PI X tg iter wi)(hg:∀ cl C s H fp,PG (cxC X scope cl C N' s H fp) tg g)(ht:∀ cl C s H fp,PTs (cxC X scope cl C N' s H fp) ifs tt)(he:∀ cl C s H fp,PE (cxC X scope cl C N' s H fp) elt te)(hs:∀ x,CS iter X.env x=pure x)(hN:X.N.Nodup)(hni:X.N[i]?=Ab n)(hx:X.env.scope.names.lookup n=Ab .local)(hsw:Dh (.ListComp elt [⟨tg,iter,ifs,0⟩] scope pos) (Ab (.Name n pos')) pos2.line X.env=pure Aa):PS X (.Assign [.Name n pos'] (.ListComp elt [⟨tg,iter,ifs,0⟩] scope pos) pos2) (Px (λY H Q=>wi Y H λJ H1=>Lq J ts g tt te Y H1 Q) (GZ i)):=by
 intro pI s Y H Dn I h;obtain⟨cl,hclos,hcl,hcl2⟩:=Qu (scope:=scope) (env:=X.env) λx hx hk=>I.ok.has x.1 ((B.free x hx hk).imp id id)
 rw[exec_Assign_Name_used _ _ _ _ hsw];refine Ao (wpAny_standAt (Ao ?_));show AB _ X.A (do let _ <-comprehension (.ListComp elt [⟨tg,iter,ifs,0⟩] scope pos) scope X.env _ (newList []) Ad (eval iter X.env) (Ab (assign (.Name n pos') X.env))) _ _ s
 refine Ao (Bt (Xj (use:=Ab (assign (.Name n pos') X.env)) (Q:=λ_ s'=>SP X pI Dn .next s') rfl hs hclos B.kind B.names
  (thn (hi pI s Y H _ I h) λv s1 h1=>thn h1 λitv s2 h2=>?_)) (λ_ s' hq=>AK (AK hq)) λ_ _ e=>e)
 obtain⟨it,fp,tn,J,H2,e,I2,T,st2,f2,h3⟩:=h2;subst e;refine Q7 (RR:=λacc C=>compPost (model X.prog X.w) X.A X.xe (Ab (assign (.Name n pos') X.env)) (λ_ s'=>SP X pI Dn .next s') acc C) hc B I2 T st2 f2 hcl hcl2 (λcl C s H=>hg cl C s H fp) (λcl C s H=>ht cl C s H fp) (λcl C s H=>he cl C s H fp) h3 λcl' D C s' H' Y' pins' xs ys n' m I' hd hDn rv hz hD hDC hC hm q=>?_
 have J0:Inv X pI Y (upd H' D (.lst xs)) s':=QD I2 f2 I' hD hDC hC hd hDn rv hz (Heap.SameBut.refl ..);refine Xi (Qo J0 hN hni (.inl hx) (show Bx (.ref D) (.ref D) from rfl) (λs'' J1 ⟨a,sb,ha⟩=>?_) (.inr hx))
 have hC0:X.s₀.heap.objs.size<=C:=B5 I2.sz hC;have hL:C≠X.env.locals:=λz=>absurd (AO I2.lt (z ▸ hC)) (Br _)
 have hcC:∀ x c,X.env.cells.lookup x=Ab c->c≠C:=λx c e z=>by
  obtain⟨v,q'⟩:=I2.cell x c e;exact absurd (AO q'.lt (by rw[z];exact hC)) (Br _)
 have hp:∀ p∈X.pn++pI,p.1≠C:=λp hp z=>absurd (AO (AL (I2.pin p hp).1) (by rw[z];exact hC)) (Br _)
 have hCn:upd H' D (.lst xs) C=Af:=by rw[B6 hDC.symm];exact I'.free
 have hCa:C≠a:=by
  rcases ha with rfl|ha
  .exact hL
  .exact λz=>hcC n a ha z.symm
 refine⟨m,hm.sameBut sb hCa,λh'' hs''=>⟨_,_,J1.turned (t':=s''.toks) (λb o hb e=>(hs''.2 b hb).trans e) hCn hL (.inr hC0) hcC hp,q⟩⟩
theorem NS:∀(ts:Ac Ae)(U:Rho)(j:Ae),(Gu ts U)[j]?=if j∈ts then (U[j]?).map (λ_=>Af) else U[j]?
 |[],U,j=>by simp[Gu]
 |t::ts,U,j=>by
  show (Gu ts (U.set t Af))[j]?=_;rw[NS ts];by_cases h1:j∈ts
  .rw[Aq h1,Aq (AC _ h1)];by_cases h2:t=j
   .subst h2;rw[Fw];cases U[t]?<;>rfl
   .rw[Ci h2]
  .rw[Ar h1];by_cases h2:t=j
   .subst h2;rw[Aq AN,Fw];cases U[t]?<;>rfl
   .rw[Ci h2,Ar (by simp only[AI,FQ];exact⟨λz=>h2 z.symm,h1⟩)]
theorem NR:∀(ts:Ac Ae)(U:Rho),(Gu ts U).length=U.length
 |[],_=>rfl
 |t::ts,U=>by show (Gu ts (U.set t Af)).length=_;rw[NR ts,Bb]
theorem NI:∀(ts:Ac Ae)(Y:L2.St){i:Ae},i∉ts->(hideT ts Y)[i]?=Y[i]?
 |[],_,_,_=>rfl
 |t::ts,Y,i,h=>by
  simp only[AI,FQ]at h;show (hideT ts (Y.set t Af))[i]?=_;rw[NI ts _ h.2,Ci (λz=>h.1 z.symm)]
section
variable{K:Fg}{CL:ClA}{A:Ak->Prop}{U U':Rho}{Y:L2.St}{H:Hp}
theorem Good.less(g:Good K CL A U Y H)(hl:U'.length=U.length)(h:∀(i:Ae)(d:D)(o:Ai),U'[i]?=Ab (Ab (d,o))->U[i]?=Ab (Ab (d,o))):Good K CL A U' Y H:=⟨λi d e=>g.sh i d (h i d Ad e),λi d e=>g.ow i d (h i d Aa e),hl.trans g.len⟩
theorem Good.put(g:Good K CL A U Y H)(t:Ae)(r:Rep K CL H A v d):Good K CL A (U.set t (Ab (d,Ad))) (Y.set t (Ab v)) H:=by
 refine⟨λj e h=>?_,λj e h=>?_,by rw[Bb,Bb];exact g.len⟩
 .by_cases hj:t=j
  .subst hj;have e1:=GH h;cases e1;have hl:t<Y.length:=by
    rw[<-g.len];have:=(A4.mp h).1;simpa using this
   exact⟨v,by rw[C2 hl],r⟩
  .rw[Ci hj]at h;obtain⟨w',q,rw'⟩:=g.sh j e h;exact⟨w',by rw[Ci hj];exact q,rw'⟩
 .have hj:t≠j:=by
   rintro rfl;have:=GH h;cases this
  rw[Ci hj]at h;obtain⟨a,xs,ds,q,z⟩:=g.ow j e h;exact⟨a,xs,ds,by rw[Ci hj];exact q,z⟩
theorem Good.hide(g:Good K CL A U Y H)(ts:Ac Ae):Good K CL A (Gu ts U) Y H:=g.less (NR _ _) λi d o e=>by
 rw[NS]at e;split at e
 .cases q:U[i]? with
  |none=>rw[q]at e;cases e
  |some x=>rw[q]at e;cases e
 .exact e
theorem Good.hideT(g:Good K CL A U Y H)(ts:Ac Ae):Good K CL A (Gu ts U) (hideT ts Y) H:=by
 have key:∀ i x,(Gu ts U)[i]?=Ab (Ab x)->U[i]?=Ab (Ab x)/\i∉ts:=λi x e=>by
  rw[NS]at e;split at e
  .cases q:U[i]? with
   |none=>rw[q]at e;cases e
   |some x=>rw[q]at e;cases e
  .exact⟨e,by assumption⟩
 refine⟨λi d e=>?_,λi d e=>?_,by rw[NR,NQ];exact g.len⟩
 .obtain⟨e1,e2⟩:=key i _ e;obtain⟨v,q,r⟩:=g.sh i d e1;exact⟨v,by rw[NI _ _ e2];exact q,r⟩
 .obtain⟨e1,e2⟩:=key i _ e;obtain⟨a,xs,ds,q,r⟩:=g.ow i d e1;exact⟨a,xs,ds,by rw[NI _ _ e2];exact q,r⟩
end
def GG(K:Fg)(CL:ClA)(ts:Ac Ae)(as:D->Rho->R Rho)(g:TG):Prop:=∀ A U Y H v d U' Q,Good K CL A (Gu ts U) Y H->Rep K CL H A v d->as d U=.ok U'->(∀ Y',Good K CL A U' Y' H->Good K CL A (Gu ts U) Y' H->Q Y' H)->g v Y H Q
theorem cE(i:Ae):GG K CL [i] (λd U=>.ok (U.set i (Ab (d,Ad)))) (GZ i):=λA U Y H v d U' Q g r e k=>by
 cases e;have g2:=g.put i r;have e1:(Gu [i] U).set i (Ab (d,Ad))=U.set i (Ab (d,Ad)):=by
  show (U.set i Af).set i (Ab (d,Ad))=_;rw[Vt]
 rw[e1]at g2;refine k _ g2 ?_;have:=g2.hide [i];have e2:Gu [i] (U.set i (Ab (d,Ad)))=Gu [i] U:=by
  show (U.set i _).set i Af=U.set i Af;rw[Vt]
 rw[e2]at this;exact this
noncomputable abbrev W0:XW:=λ_ _=>A5
def STs(X:Cx)(CL:ClA)(ifs:Ac An)(f:Rho->R Ai):Prop:=∀ A,PTs X ifs (λY H Q=>AOk H A/\∃ U,Good X.K CL A U Y H/\Db W0 H (f U) Q)
theorem bX:STs X CL [] (λ_=>.ok Aa):=λA pI s Y H Q I ⟨hA,U,g,p⟩=>aC pI s Y H Q I (p H (AG.refl H))
theorem bW(h:SB X CL W0 c f):STs X CL [c] f:=λA pI s Y H Q I q=>aA (h A) pI s Y H Q I q
section
variable{X:Cx}{CL:ClA}{W:XW}{tg iter elt:An}{ifs:Ac An}{scope:BY}{pos:AR}{N':Ac Ah}{ts:Ac Ae}{fi:Rho->R (Ac D)}{fc:Rho->R Ai}{fe:Rho->R D}{as:D->Rho->R Rho}{g:TG}
theorem XB{g:D->R Ai}{f:D->R D}{x:D}{xs ys:Ac D}(h:Ch g f (x::xs)=.ok ys):(g x=.ok Ad/\Ch g f xs=.ok ys)\/∃ y r,g x=.ok Aa/\f x=.ok y/\Ch g f xs=.ok r/\ys=y::r:=by
 unfold Ch at h;cases e:g x with
 |bad=>rw[e]at h;cases h
 |exn z=>rw[e]at h;cases h
 |ok b=>
  rw[e,R.bind_ok]at h;cases b with
  |false=>exact .inl ⟨rfl,h⟩
  |true=>
   rw[Aq rfl]at h;cases e2:f x with
   |bad=>rw[e2]at h;cases h
   |exn z=>rw[e2]at h;cases h
   |ok y=>
    rw[e2,R.bind_ok]at h;cases e3:Ch g f xs with
    |bad=>rw[e3]at h;cases h
    |exn z=>rw[e3]at h;cases h
    |ok r=>
     rw[e3,R.bind_ok]at h;cases h;exact .inr ⟨y,r,rfl,rfl,rfl,rfl⟩
theorem JC{β:Type}{r:R α}{f:α->R β}{b:β}(h:r.bind f=.ok b):∃ a,r=.ok a/\f a=.ok b:=by
 cases r with
 |ok a=>exact⟨a,rfl,h⟩
 |exn x=>cases h
 |bad=>cases h
theorem Zj{ds ys:Ac D}(hGG:GG K CL ts as g)(hA:AOk H1 A)(gd:Good K CL A U Y H1)(yl:HW K CL A ds J H1)(hz:ds.length<=sizeLine)(hcp:Ch (λx=>(as x U).bind fc) (λx=>(as x U).bind fe) ds=.ok ys)(q:∀ xs H2,AG H1 H2->Reps K CL H2 A xs ys->∀ p,H2 p=Af->Q (.ref p) (upd H2 p (.lst xs))):Lq J ts g (λY H Q=>AOk H A/\∃ U,Good K CL A U Y H/\Db W0 H (fc U) Q) (λY H Q=>AOk H A/\∃ U,Good K CL A U Y H/\Bg (λH=>Rep K CL H A) W0 H (fe U) Q) Y H1 Q:=by
 refine⟨λi m xs Y' H'=>m=ds.length-i/\i<=ds.length/\xs.length<=i/\AG H1 H'/\Good K CL A (Gu ts U) Y' H'/\∃ outs rest,Reps K CL H' A xs outs/\Ch (λx=>(as x U).bind fc) (λx=>(as x U).bind fe) (ds.drop i)=.ok rest/\ys=outs++rest,
  ⟨ds.length,by simp,CI _,Aw _,AG.refl _,gd.hideT ts,[],ys,trivial,hcp,rfl⟩,?_⟩
 rintro i m xs Y' H' ⟨rfl,hi,hxl,sm,g',outs,rest,rs,hc,e⟩;obtain⟨yst,ygo⟩:=yl H' (Kp.of sm) i;by_cases hlt:i<ds.length
 .have hd:ds[i]?=Ab ds[i]:=AE hlt;obtain⟨hgo,hyl⟩:=ygo _ hd;refine .inr ⟨hgo,by omega,λx H2 hx=>?_⟩
  obtain⟨s2,rx⟩:=hyl x H2 hx;have rx':=rx A (λa ha=>.inl ha) (hA.same sm)
  rw[By hlt]at hc;have sm2:=sm.trans s2;rcases XB hc with ⟨h1,h2⟩|⟨y,r,h1,h2,h3,h4⟩
  .obtain⟨U',ea,ec⟩:=JC h1;refine hGG A U Y' H2 x ds[i] U' _ (g'.same s2) rx' ea λY3 g3 g4=>⟨hA.same sm2,U',g3,?_⟩
   rw[ec];exact λH3 s3=>by
    dsimp only;rw[Ar (by decide)]
    exact⟨ds.length-(i+1),by omega,rfl,hlt,by omega,sm2.trans s3,g4.same s3,outs,rest,(rs.same s2).same s3,h2,e⟩
  .obtain⟨U',ea,ec⟩:=JC h1;obtain⟨U2,ea2,ee⟩:=JC h2;rw[ea]at ea2;cases ea2;refine hGG A U Y' H2 x ds[i] U' _ (g'.same s2) rx' ea λY3 g3 g4=>⟨hA.same sm2,U',g3,?_⟩
   rw[ec];exact λH3 s3=>by
    dsimp only;rw[Aq rfl];refine⟨(hA.same sm2).same s3,U',g3.same s3,?_⟩;rw[ee];exact λv H4 s4 r4=>⟨ds.length-(i+1),by omega,rfl,hlt,by rw[Be,EM];omega,(sm2.trans s3).trans s4,(g4.same s3).same s4,outs++[y],r,(((rs.same s2).same s3).same s4).append ⟨r4,trivial⟩,h3,by rw[e,h4];simp⟩
 .have hk':ds.length<=i:=by omega
  rw[Vb hk']at hc;have hr:rest=[]:=by cases hc;rfl
  subst hr;rw[Bo]at e;subst e;exact .inl ⟨yst hk',λp hp=>q xs H' sm rs p hp⟩
theorem Er.ok_of{r:R (Ac D)}{f:Ac D->R D}{Q':It->Hp->Prop}(h:Bg Rq W H (r.bind f) Q)(k:∀ ds J H',r=.ok ds->AG H H'->HW K CL A ds J H'->ds.length<=sizeLine->Bg Rq W H' (f ds) Q->Q' J H'):Er K CL A W H r Q':=by
 cases r with
 |ok d=>exact λJ H2 s2 y z=>k d J H2 rfl s2 y z (Bg.same s2 h)
 |exn x=>exact h
 |bad=>exact h
theorem iQ{r:R α}{a:α}(h:noX r=.ok a):r=.ok a:=by
 cases r with
 |ok b=>exact h
 |exn x=>cases h
 |bad=>cases h
theorem QA(hGG:GG X.K CL ts as g)(hA:AOk H A)(gd:Good X.K CL A U Y H)(p:Bg (DY X.K CL Aa H A) W H ((fi U).bind λxs=>(noX (Ch (λx=>(as x U).bind fc) (λx=>(as x U).bind fe) xs)).bind λys=>.ok (.lst ys)) Q):Er X.K CL A W H (fi U) (λJ H1=>Lq J ts g (λY H Q=>AOk H A/\∃ U,Good X.K CL A U Y H/\Db W0 H (fc U) Q) (λY H Q=>AOk H A/\∃ U,Good X.K CL A U Y H/\Bg (λH=>Rep X.K CL H A) W0 H (fe U) Q) Y H1 Q):=
 Er.ok_of p λds J H1 e1 s1 yl hz p1=>by
  cases e2:noX (Ch (λx=>(as x U).bind fc) (λx=>(as x U).bind fe) ds) with
  |ok ys=>
   rw[e2]at p1;exact Zj hGG (hA.same s1) (gd.same s1) yl hz (iQ e2) λxs H2 s2 rs q hq=>p1 _ _ (s2.trans (FI hq _)) (JG (s1.trans s2) ((hA.same s1).same s2) hq rs)
  |exn x=>rw[e2]at p1;cases hq:Ch (λx=>(as x U).bind fc) (λx=>(as x U).bind fe) ds<;>rw[hq]at e2<;>cases e2
  |bad=>rw[e2]at p1;exact p1.elim
theorem aU(hc:X.calm=Aa)(B:BlockOk X scope N' ts)(hi:SI X CL W tg iter fi)(hGG:GG X.K CL ts as g)(hg:∀ cl C s H fp,PG (cxC X scope cl C N' s H fp) tg g)(ht:∀ cl C s H fp,STs (cxC X scope cl C N' s H fp) CL ifs fc)(he:∀ cl C s H fp,SE (cxC X scope cl C N' s H fp) CL W0 elt fe)(hs:∀ x,CS iter X.env x=pure x):SC X CL W Aa (.ListComp elt [⟨tg,iter,ifs,0⟩] scope pos) (λU=>(fi U).bind λxs=>(noX (Ch (λx=>(as x U).bind fc) (λx=>(as x U).bind fe) xs)).bind λys=>.ok (.lst ys)):=λA pI s Y H Q I ⟨hA,U,gd,p⟩=>
 dN hc B (hi A) hg (λcl C s H fp=>ht cl C s H fp A) (λcl C s H fp=>he cl C s H fp A) hs pI s Y H Q I ⟨hA,U,gd,QA hGG hA gd p⟩
end
section
variable{K:Fg}{CL:ClA}{Fz:Ak->HO->Prop}{B:Ak->Prop}{U:Rho}{Y:L2.St}{H H':Hp}
theorem Sx.setF(x:Sx K CL Fz B U Y H)(s:AG H H'){ds:Ac D}(h0:H a=Af)(h1:H' a=Ab (.lst xs))(r:Reps K CL H' (λb=>BL B U Y b\/b=a) xs ds):Sx K CL Fz B (U.set i (Ab (.lst ds,Aa))) (Y.set i (Ab (.ref a))) H':=by
 have nA:¬ BL B U Y a:=x.aok.new h0;have own:∀(j:Ae)(e:D),(U.set i (Ab (.lst ds,Aa)))[j]?=Ab (Ab (e,Aa))->(i=j/\e=.lst ds)\/(i≠j/\U[j]?=Ab (Ab (e,Aa))):=λj e h=>by
  by_cases hj:i=j
  .subst hj;have:=GH h;cases this;exact .inl ⟨rfl,rfl⟩
  .exact .inr ⟨hj,by rw[Ci hj]at h;exact h⟩
 have atI:∀{j:Ae}{y:Sl},(U.set i (Ab (.lst ds,Aa)))[j]?=Ab y->i=j->(Y.set i (Ab (.ref a)))[j]?=Ab (Ab (.ref a)):=λ{j y} h e=>by
  subst e;have hl:i<Y.length:=by
   rw[<-x.len];have:=(A4.mp h).1;simpa using this
  rw[C2 hl]
 have sub:∀ b,BL B (U.set i (Ab (.lst ds,Aa))) (Y.set i (Ab (.ref a))) b->BL B U Y b\/b=a:=λb h=>by
  rcases h with h|⟨j,e,h1,h2⟩
  .exact .inl (.inl h)
  .rcases own j e h1 with ⟨hj,_⟩|⟨hj,h1'⟩
   .rw[atI h1 hj]at h2;cases h2;exact .inr rfl
   .rw[Ci hj]at h2;exact .inl (.inr ⟨j,e,h1',h2⟩)
 have wide:∀{v:V}{d:D},Rep K CL H (BL B U Y) v d->Rep K CL H' (BL B (U.set i (Ab (.lst ds,Aa))) (Y.set i (Ab (.ref a)))) v d:=λr=>(Rep.wide (λb hb=>(sub b hb).imp id λe=>by rw[e];exact h0) _ r).same s
 have wides:∀{v:Ac V}{d:Ac D},Reps K CL H (BL B U Y) v d->Reps K CL H' (BL B (U.set i (Ab (.lst ds,Aa))) (Y.set i (Ab (.ref a)))) v d:=λr=>(Reps.wide (λb hb=>(sub b hb).imp id λe=>by rw[e];exact h0) _ r).same s
 refine⟨⟨λj e h=>?_,λj e h=>?_,by rw[Bb,Bb];exact x.len⟩,λb h=>?_,λj e b g1 g2=>?_,λj k e f b g1 g2 g3 g4=>?_,λb o z=>s _ _ (x.same b o z),by rw[Bb,Bb];exact x.len⟩
 .have hj:i≠j:=by
   rintro rfl;have:=GH h;cases this
  rw[Ci hj]at h;obtain⟨w',q,rw'⟩:=x.good.sh j e h;exact⟨w',by rw[Ci hj];exact q,wide rw'⟩
 .rcases own j e h with ⟨hj,rfl⟩|⟨hj,h'⟩
  .have q:=atI h hj;exact⟨a,xs,ds,q,rfl,.inr ⟨j,_,h,q⟩,h1,Reps.sub sub _ r⟩
  .obtain⟨b,ys,es,q,z,ha,hh,rr⟩:=x.good.ow j e h';have q':(Y.set i (Ab (.ref a)))[j]?=Ab (Ab (.ref b)):=by rw[Ci hj];exact q
   exact⟨b,ys,es,q',z,.inr ⟨j,e,h,q'⟩,s _ _ hh,wides rr⟩
 .rcases sub b h with z|z
  .obtain⟨ys,q⟩:=x.aok b z;exact⟨ys,s _ _ q⟩
  .rw[z];exact⟨xs,h1⟩
 .rcases own j e g1 with ⟨hj,_⟩|⟨hj,h'⟩
  .rw[atI g1 hj]at g2;cases g2;refine⟨λo z=>?_,λz=>nA (.inl z)⟩
   have:=x.same a o z;rw[h0]at this;cases this
  .rw[Ci hj]at g2;exact x.new j e b h' g2
 .rcases own j e g1 with ⟨hj,_⟩|⟨hj,h'⟩
  .rw[atI g1 hj]at g3;cases g3;rcases own k f g2 with ⟨hk,_⟩|⟨hk,h''⟩
   .exact hj.symm.trans hk
   .rw[Ci hk]at g4;exact absurd (.inr ⟨k,f,h'',g4⟩) nA
  .rw[Ci hj]at g3;rcases own k f g2 with ⟨hk,_⟩|⟨hk,h''⟩
   .rw[atI g2 hk]at g4;cases g4;exact absurd (.inr ⟨j,e,h',g3⟩) nA
   .rw[Ci hk]at g4;exact x.dis j k e f b h' h'' g3 g4
theorem Sx.upd(x:Sx K CL Fz B U Y H){i:Ae}{d:D}{a:Ak}{xs:Ac V}{ds:Ac D}(hi:U[i]?=Ab (Ab (d,Aa)))(ha:Y[i]?=Ab (Ab (.ref a)))(r:Reps K CL H (BL B U Y) xs ds):Sx K CL Fz B (U.set i (Ab (.lst ds,Aa))) Y (L2.upd H a (.lst xs)):=by
 have oa:BL B U Y a:=.inr ⟨i,d,hi,ha⟩;have hil:i<U.length:=(A4.mp hi).1;have get:∀(j:Ae)(e:D),(U.set i (Ab (.lst ds,Aa)))[j]?=Ab (Ab (e,Aa))↔(i=j/\e=.lst ds)\/(i≠j/\U[j]?=Ab (Ab (e,Aa))):=λj e=>by
  by_cases hj:i=j
  .subst hj;rw[C2 hil];simp;exact⟨λz=>z.symm,λz=>z.symm⟩
  .rw[Ci hj];simp[hj]
 have same:∀ b,BL B (U.set i (Ab (.lst ds,Aa))) Y b↔BL B U Y b:=λb=>by
  constructor
  .rintro (h|⟨j,e,h1,h2⟩)
   .exact .inl h
   .rcases (get j e).mp h1 with ⟨rfl,_⟩|⟨_,h1⟩
    .exact .inr ⟨i,d,hi,h2⟩
    .exact .inr ⟨j,e,h1,h2⟩
  .rintro (h|⟨j,e,h1,h2⟩)
   .exact .inl h
   .by_cases hj:i=j
    .subst hj;exact .inr ⟨i,.lst ds,(get i _).mpr (.inl ⟨rfl,rfl⟩),h2⟩
    .exact .inr ⟨j,e,(get j e).mpr (.inr ⟨hj,h1⟩),h2⟩
 have kp:Kp (BL B U Y) H (L2.upd H a (.lst xs)):=λb o e na=>by
  have hne:b≠a:=by
   rintro rfl;exact na oa
  rw[B6 hne];exact e
 refine⟨⟨λj e h=>?_,λj e h=>?_,by rw[Bb];exact x.len⟩,λb h=>?_,λj e b g1 g2=>?_,λj k e f b g1 g2 g3 g4=>?_,λb o z=>?_,by rw[Bb];exact x.len⟩
 .have hj:i≠j:=by
   rintro rfl;have:=GH h;cases this
  rw[Ci hj]at h;obtain⟨w',q,rw'⟩:=x.good.sh j e h;exact⟨w',q,Rep.sub (λb hb=>(same b).mp hb) _ (Rep.kp kp _ rw')⟩
 .rcases (get j e).mp h with ⟨rfl,rfl⟩|⟨hj,h'⟩
  .exact⟨a,xs,ds,ha,rfl,(same a).mpr oa,GF,Reps.sub (λb hb=>(same b).mp hb) _ (Reps.kp kp _ r)⟩
  .obtain⟨b,ys,es,q,z,hb,hh,rr⟩:=x.good.ow j e h';have hne:b≠a:=λz=>hj (x.dis i j d e a hi h' ha (z ▸ q))
   exact⟨b,ys,es,q,z,(same b).mpr hb,by rw[B6 hne];exact hh,Reps.sub (λb hb=>(same b).mp hb) _ (Reps.kp kp _ rr)⟩
 .obtain⟨ys,q⟩:=x.aok b ((same b).mp h);by_cases e:b=a
  .rw[e];exact⟨xs,GF⟩
  .exact⟨ys,by rw[B6 e];exact q⟩
 .rcases (get j e).mp g1 with ⟨rfl,_⟩|⟨_,h'⟩
  .exact x.new i d b hi g2
  .exact x.new j e b h' g2
 .rcases (get j e).mp g1 with ⟨rfl,_⟩|⟨hj,h'⟩
  .rcases (get k f).mp g2 with ⟨rfl,_⟩|⟨hk,h''⟩
   .rfl
   .exact x.dis i k d f b hi h'' g3 g4
  .rcases (get k f).mp g2 with ⟨rfl,_⟩|⟨hk,h''⟩
   .exact x.dis j i e d b h' hi g3 g4
   .exact x.dis j k e f b h' h'' g3 g4
 .have hne:b≠a:=λe=>(x.new i d a hi ha).1 o (e ▸ z)
  rw[B6 hne];exact x.same b o z
theorem Sx.rel(x:Sx K CL Fz B U Y H)(hi:U[i]?=Ab (Ab (d,Aa))):Sx K CL Fz B (U.set i (Ab (d,Ad))) Y H:=by
 obtain⟨a,xs,ds,q,rfl,oa,hh,rr⟩:=x.good.ow i d hi;have own:∀(j:Ae)(e:D),(U.set i (Ab (.lst ds,Ad)))[j]?=Ab (Ab (e,Aa))->i≠j/\U[j]?=Ab (Ab (e,Aa)):=λj e h=>by
  by_cases hj:i=j
  .subst hj;have:=GH h;cases this
  .exact⟨hj,by rw[Ci hj]at h;exact h⟩
 have sub:∀ b,BL B (U.set i (Ab (.lst ds,Ad))) Y b->BL B U Y b:=λb h=>by
  rcases h with h|⟨j,e,h1,h2⟩
  .exact .inl h
  .exact .inr ⟨j,e,(own j e h1).2,h2⟩
 have na:¬ BL B (U.set i (Ab (.lst ds,Ad))) Y a:=λh=>by
  rcases h with h|⟨j,e,h1,h2⟩
  .exact(x.new i _ a hi q).2 h
  .obtain⟨hj,h1⟩:=own j e h1;exact hj (x.dis i j _ e a hi h1 q h2)
 refine⟨⟨λj e h=>?_,λj e h=>?_,by rw[Bb];exact x.len⟩,λb h=>x.aok b (sub b h),λj e b g1 g2=>x.new j e b (own j e g1).2 g2,λj k e f b g1 g2 g3 g4=>x.dis j k e f b (own j e g1).2 (own k f g2).2 g3 g4,x.same,by rw[Bb];exact x.len⟩
 .by_cases hj:i=j
  .subst hj;have e1:=GH h;cases e1;exact⟨_,q,a,xs,rfl,.inl na,SqL.of hh,Reps.sub sub _ rr⟩
  .rw[Ci hj]at h;obtain⟨w',q',rw'⟩:=x.good.sh j e h;exact⟨w',q',Rep.sub sub _ rw'⟩
 .obtain⟨hj,h'⟩:=own j e h;obtain⟨b,ys,es,q',z,hb,hh',rr'⟩:=x.good.ow j e h';exact⟨b,ys,es,q',z,.inr ⟨j,e,h,q'⟩,hh',Reps.sub sub _ rr'⟩
end
section
variable{X:Cx}{CL:ClA}{W:XW}{pos:AR}{e:An}{fe:Rho->R D}{fr:Ai}
theorem BW.exC{f:D->O}(x:Sx X.K CL Fz B U Y H)(h:BW X.K CL Fz B W (O.of U r f) D')(k:∀ d v H',r=.ok d->AG H H'->DY X.K CL fr H A H' v d->Sx X.K CL Fz B U Y H'->BW X.K CL Fz B W (f d) D'->Q v H'):Bg (DY X.K CL fr H A) W H r Q:=by
 cases r with
 |ok d=>exact λv H' s r=>k d v H' rfl s r (x.grow s) h
 |exn y=>exact λH' s=>h H' λb o z=>s _ _ (x.same b o z)
 |bad=>exact h
def SAs(X:Cx)(CL:ClA)(W:XW)(fr:Ai)(i:Ae)(st:AZ)(f:Rho->R D):Prop:=∀ A,PS X st (Px (λY H Q=>AOk H A/\∃ U,Good X.K CL A U Y H/\Bg (DY X.K CL fr H A) W H (f U) Q) (GZ i))
theorem SC.sas{n:Ah}(hN:X.N.Nodup)(hi:X.N[i]?=Ab n)(hx:Loc X.env.scope n)(he:SC X CL W fr e fe)(hs:Dh e (Ab (.Name n pos')) pos.line X.env=pure Ad)(hf:X.fn n=Aa\/X.env.scope.names.lookup n=Ab .local):SAs X CL W fr i (.Assign [.Name n pos'] e pos) fe:=
 λA=>ME hN hi hx (he A) hs hf
theorem YN{n:Ah}{fe:Rho->R D}{g:TG}(hc:X.calm=Aa)(B:BlockOk X scope N' ts)(hi:SI X CL W tg iter fi)(hGG:GG X.K CL ts as g)(hg:∀ cl C s H fp,PG (cxC X scope cl C N' s H fp) tg g)(ht:∀ cl C s H fp,STs (cxC X scope cl C N' s H fp) CL ifs fc)(he:∀ cl C s H fp,SE (cxC X scope cl C N' s H fp) CL W0 elt fe)(hs:∀ x,CS iter X.env x=pure x)(hN:X.N.Nodup)(hni:X.N[i]?=Ab n)(hx:X.env.scope.names.lookup n=Ab .local)(hsw:Dh (.ListComp elt [⟨tg,iter,ifs,0⟩] scope pos) (Ab (.Name n pos')) pos2.line X.env=pure Aa):SAs X CL W Aa i (.Assign [.Name n pos'] (.ListComp elt [⟨tg,iter,ifs,0⟩] scope pos) pos2) (λU=>(fi U).bind λxs=>(noX (Ch (λx=>(as x U).bind fc) (λx=>(as x U).bind fe) xs)).bind λys=>.ok (.lst ys)):=λA pI s Y H Dn I ⟨hA,U,gd,p⟩=>
 dH hc B (hi A) hg (λcl C s H fp=>ht cl C s H fp A) (λcl C s H fp=>he cl C s H fp A) hs hN hni hx hsw pI s Y H Dn I ⟨hA,U,gd,QA hGG hA gd p⟩
theorem Tn{st:AZ}(h:SAs X CL W fr i st fe):SS X CL W st (λU=>O.of U (fe U) λd=>.next (U.set i (Ab (d,Ad)))):=λFz B pI s Y H D I ⟨U,x,p⟩=>
 h (BL B U Y) pI s Y H D I ⟨x.aok,U,x.good,BW.exC x p λd v H' _ s r x' q=>q _ H' (x'.set i r.1)⟩
theorem Sc{st:AZ}(h:SAs X CL W Aa i st fe):SS X CL W st (λU=>O.of U (fe U) λd=>setF U i d):=λFz B pI s Y H D I ⟨U,x,p⟩=>
 h (BL B U Y) pI s Y H D I ⟨x.aok,U,x.good,BW.exC x p λd v H' _ s r x' q=>by
  cases d with
  |lst ds=>
   obtain⟨a,xs,rfl,h0,h1,rs⟩:=r.2 rfl ds rfl;exact q _ H' (x.setF s h0 h1 rs)
  |dic ds=>exact r.1.elim
  | _=>exact q.elim⟩
theorem aF(he:SC X CL W Aa e fe):SS X CL W (.Return (Ab e) pos) (λU=>O.of U (fe U) λd=>.ret d Aa):=λFz B pI s Y H D I ⟨U,x,p⟩=>
 OX (he (BL B U Y)) pI s Y H D I ⟨x.aok,U,x.good,BW.exC x p λd v H' _ s r x' q=>q v H' x'.same (Rep.sub (λa h=>.inl h) _ r.1) λ_ ds e=>by
  obtain⟨a,xs,h0,h1,h2,h3⟩:=r.2 rfl ds e;refine⟨a,xs,h0,λo z=>?_,h2,Reps.sub (λb hb=>hb.imp .inl id) _ h3⟩
  have:=x.same a o z;rw[h1]at this;cases this⟩
noncomputable def PN(U:Rho)(i:Ae):Ai:=match U[i]? with
  |some (Ab (_,o))=>o
  |_=>Ad
theorem aD(he:PE X e (IK i)):SS X CL W (.Return (Ab e) pos) (λU=>O.of U (Eb U i) λd=>.ret d (PN U i)):=λFz B pI s Y H D I ⟨U,x,p⟩=>
 OX he pI s Y H D I (by
  dsimp only at p;cases e:Eb U i with
  |bad=>rw[e]at p;exact p.elim
  |exn z=>exact(RA e).elim
  |ok d=>
   rw[e]at p;obtain⟨o,e⟩:=RE e;have eo:PN U i=o:=by unfold PN;rw[e]
   rw[O.of_ok,eo]at p;cases o with
   |false=>
    obtain⟨v,q,r⟩:=x.good.sh i d e;exact⟨v,q,p v H x.same (Rep.sub (λa h=>.inl h) _ r) λz=>nomatch z⟩
   |true=>
    obtain⟨a,xs,ds,q,rfl,ha,hh,r⟩:=x.good.ow i d e;obtain⟨n1,n2⟩:=x.new i _ a e q;refine⟨_,q,p _ H x.same ⟨a,xs,rfl,.inl n2,SqL.of hh,Reps.sub (λa h=>.inl h) _ r⟩ λ_ ds' e'=>?_⟩
    cases e';exact⟨a,xs,rfl,n1,hh,Reps.sub (λb hb=>hb.elim .inl λz=>z ▸ ha) _ r⟩)
theorem Ox{ds:Ac D}(h:Cj U i=.ok ds):U[i]?=Ab (Ab (.lst ds,Aa)):=by
 unfold Cj at h;split at h
 .rename_i e;cases h;exact e
 .cases h
theorem Oo{x:Ex}(h:Cj U i=.exn x):A5:=by
 unfold Cj at h;split at h<;>cases h
variable{o:An}{i:Ae}{apos cpos:AR}
theorem fU(ho:PE X o (IK i))(he:SE X CL W e fe)(hbase:EA o "append" X.env (eval o X.env)=eval o X.env)(hfew:((BR cpos (Ay [e] X.env)).all (λx=>!x.1)&&(Im cpos (GN [] X.env)).all (λx=>x.1.isSome)&&decide ([e].length+([]:Ac Ee).length+(if ([]:Ac Ee).isEmpty then 0 else 1)<30))=Aa)(hline:(apos.endLine==cpos.line)=Aa)(hs:Ay [e] X.env=[(Ad,eval e X.env)])(hsw:Dh (.Call (.Attribute o "append" apos) [e] [] cpos) Af pos.line X.env=pure Ad):
  SS X CL W (.Expr (.Call (.Attribute o "append" apos) [e] [] cpos) pos) (λU=>O.of U (Cj U i) λxs=>O.of U (fe U) λd=>if BD (xs.length+1)=Aa then .next (U.set i (Ab (.lst (xs++[d]),Aa))) else .bad):=λFz B pI s Y H D I ⟨U,x,p⟩=>by
 refine Ks (M2 Fx PySem.F.slot_list_append PySem.F.type_list_append Yz ho (El (he (BL B U Y)) F1 hs) hbase hfew hline hs rfl) hsw pI s Y H D I ?_;dsimp only at p;cases e1:Cj U i with
 |bad=>rw[e1]at p;exact p.elim
 |exn z=>exact(Oo e1).elim
 |ok ds=>
  rw[e1,O.of_ok]at p;have hi:=Ox e1;obtain⟨a,xs,ds',q,e2,ha,hh,r⟩:=x.good.ow i _ hi;cases e2;refine⟨_,q,.inl ⟨rfl,xs,SqL.of hh⟩,x.aok,U,x.good,BW.ex x p λd v H' _ s rv x' q'=>?_⟩
  split at q'
  .rename_i hz;refine⟨a,xs,v,rfl,rfl,s _ _ hh,?_,q' _ _ (x'.upd hi q ((r.same s).append ⟨rv,trivial⟩))⟩;have:=Iz hz;rw[r.length];omega
  .exact q'.elim
theorem fT(ho:PE X o (IK i))(he:SC X CL W Aa e fe)(hbase:EA o "extend" X.env (eval o X.env)=eval o X.env)(hfew:((BR cpos (Ay [e] X.env)).all (λx=>!x.1)&&(Im cpos (GN [] X.env)).all (λx=>x.1.isSome)&&decide ([e].length+([]:Ac Ee).length+(if ([]:Ac Ee).isEmpty then 0 else 1)<30))=Aa)(hline:(apos.endLine==cpos.line)=Aa)(hs:Ay [e] X.env=[(Ad,eval e X.env)])(hsw:Dh (.Call (.Attribute o "extend" apos) [e] [] cpos) Af pos.line X.env=pure Ad):
  SS X CL W (.Expr (.Call (.Attribute o "extend" apos) [e] [] cpos) pos) (λU=>O.of U (Cj U i) λxs=>O.of U (fe U) λd=>O.of U (Jj d) λys=>if BD (xs.length+ys.length)=Aa then .next (U.set i (Ab (.lst (xs++ys),Aa))) else .bad):=λFz B pI s Y H D I ⟨U,x,p⟩=>by
 refine Ks (M2 Fx EN WD Yy ho (El (he (BL B U Y)) F1 hs) hbase hfew hline hs rfl) hsw pI s Y H D I ?_;dsimp only at p;cases e1:Cj U i with
 |bad=>rw[e1]at p;exact p.elim
 |exn z=>exact(Oo e1).elim
 |ok ds=>
  rw[e1,O.of_ok]at p;have hi:=Ox e1;obtain⟨a,xs,ds',q,e2,ha,hh,r⟩:=x.good.ow i _ hi;cases e2;refine⟨_,q,.inl ⟨rfl,xs,SqL.of hh⟩,x.aok,U,x.good,BW.exC x p λd v H' _ s rv x' q'=>?_⟩
  cases d with
  |lst es=>
   obtain⟨b,ys,rfl,h0,h1,rs⟩:=rv.2 rfl es rfl;rw[QI,O.of_ok]at q';split at q'
   .rename_i hz;refine⟨a,b,xs,ys,rfl,rfl,s _ _ hh,h1,?_,q' _ _ (x'.upd hi q ((r.same s).append (Reps.sub (λc hc=>.inl hc) _ rs)))⟩
    rw[r.length,rs.length];exact Iz hz
   .exact q'.elim
  |_=>exact q'.elim
theorem cA{rest:Ac AZ}{f:Rho->O}(i:Ae)(h:SSs X CL W rest f):SSs X CL W rest (λU=>(match U[i]? with
   |some (Ab (d,Aa))=>O.next (U.set i (Ab (d,Ad)))
   | _=>O.next U).seq f):=λFz B=>PSs.weak (h Fz B) λD Y H ⟨U,x,p⟩=>by
 dsimp only at p;split at p
 .rename_i d e;exact⟨_,x.rel e,p⟩
 .exact⟨U,x,p⟩
end
section
variable{X:Cx}{CL:ClA}{W:XW}{pos:AR}{e k o:An}{fe fk:Rho->R D}{i:Ae}{apos cpos:AR}
theorem A6.take{its:Ac Aj}(r:A6 xs its):∀ n,A6 (xs.take n) (its.take n):=by
 induction r with
 |nil=>intro n;simp;exact .nil
 |cons h _ ih=>
  intro n;cases n with
  |zero=>exact .nil
  |succ n=>exact .cons h (ih n)
theorem A6.drop{its:Ac Aj}(r:A6 xs its):∀ n,A6 (xs.drop n) (its.drop n):=by
 induction r with
 |nil=>intro n;simp;exact .nil
 |cons h t ih=>
  intro n;cases n with
  |zero=>exact .cons h t
  |succ n=>exact ih n
end
section
variable{prog:AM}{w:AY}{A:AT}{E:Vq}{s:Ap}
theorem iO{t:Ak}{x:Aj}{Q:Vq}(st:s.heap.IsTupleIter j t k)(sq:s.heap.IsTuple t its)(at_:its[k]?=Ab x)(go:∀ h2,h2.IsTupleIter j t (k+1)->Fc j s.heap h2->Q x {s with heap:=h2}):AB (model prog w) A (Bz (.ref j)) Q E s:=by
 obtain⟨oj,gj,cj,dj⟩:=id st;obtain⟨ot,gt,_,nt,dt⟩:=sq;show AB _ _ (callSpecial? _ _ >>= _) _ _ _;refine Ao (Ck st.typeIs DU (Da DU st.typeIs Ww ?_ (Wr _)));show AB _ _ (field (.ref j) 0 >>= _) _ _ _;refine Ao (BG gj dj (x:=.ref t) rfl ?_);show AB _ _ (field (.ref j) 1 >>= _) _ _ _;refine Ao (BG gj dj (x:=.int k 0) rfl ?_);refine Ao (DF gt dt ?_);simp only[U_6,at_];exact Ao (Fu gj dj (by simp) (AK ⟨x,rfl,AK (go _ ⟨_,EO _ gj (EQ (Dd dj _)),(WI ..).trans cj,by rw[Dd dj];simp[E2]⟩ (WF ..))⟩))
theorem Yx{t:Ak}{Q:Vq}(calm:A.handled=Af)(st:s.heap.IsTupleIter j t k)(sq:s.heap.IsTuple t its)(at_:its[k]?=Af)(up:∀ h2 e,WE j s.heap h2->(∃ o,h2.get? e=Ab o/\o.cls=.type "StopIteration")->E (.ref e) {s with heap:=h2}):AB (model prog w) A (Bz (.ref j)) Q E s:=by
 obtain⟨oj,gj,cj,dj⟩:=id st;obtain⟨ot,gt,_,nt,dt⟩:=sq;show AB _ _ (callSpecial? _ _ >>= _) _ _ _;refine Ao (Ck st.typeIs DU (Da DU st.typeIs Ww ?_ (Wr _)));show AB _ _ (field (.ref j) 0 >>= _) _ _ _;refine Ao (BG gj dj (x:=.ref t) rfl ?_);show AB _ _ (field (.ref j) 1 >>= _) _ _ _;refine Ao (BG gj dj (x:=.int k 0) rfl ?_);refine Ao (DF gt dt ?_);simp only[U_6,at_];refine Ao (Iw (Ao (Fu gj dj (by simp) ?_)))
 refine Ao ?_;simp only[newExc,newTuple];refine Ao (CT ?_ (by size_fits))
 refine Ao (m:=Xd _ _) (wpAny_of_eq (a:=.none) (by first|rfl|(simp only[Xd];rfl)) (CT ?_ (by size_fits)))
 simp only[raiseNew];refine Ao (wpAny_handled ?_)
 first|rw[show A.in1.handled=Af from calm]|rw[calm]
 exact Ao (AK (wpAny_throw (up _ _ (((WF ..).extBut.push _).push _) ⟨_,AJ _ rfl,rfl⟩)))
end
structure Dw (prog:AM) (w:AY) (A:AT) (j:Ak) (fp:Ac Ak) (n:Ae) (P:Ae->Aj->Prop) (S:Ae->AD->Prop):Prop where
 frame:∀ i h h2,S i h->(∀ c∈fp,∀ o,h.get? c=Ab o->h2.get? c=Ab o)->S i h2
 item:∀ i (s:Ap) (Q:Vq) (E:Vq),i<n->S i s.heap->(∀ x h2 tk,P i x->S (i+1) h2->Fc j s.heap h2->Q x {s with heap:=h2,toks:=tk})->AB (model prog w) A (Bz (.ref j)) Q E s
 done:∀ i (s:Ap) (Q:Vq) (E:Vq),n<=i->S i s.heap->(∀ h2 e,WE j s.heap h2->(∃ o,h2.get? e=Ab o/\o.cls=.type "StopIteration")->E (.ref e) {s with heap:=h2})->AB (model prog w) A (Bz (.ref j)) Q E s
def GL(t:Ai)(h:AD)(j l:Ak)(i:Ae):Prop:=match t with
  |true=>h.IsTupleIter j l i
  |false=>h.IsListIter j l i
def ER(t:Ai)(h:AD)(l:Ak)(its:Ax Aj):Prop:=match t with
  |true=>h.IsTuple l its
  |false=>h.IsList l its
theorem KH{A:AT}(calm:A.handled=Af)(t:Ai)(j l:Ak)(ne:l≠j)(its:Ax Aj):Dw prog w A j [j,l] its.size (λi v=>its[i]?=Ab v) (λi h=>GL t h j l i/\ER t h l its):=by
 cases t with
 |true=>exact⟨λ_ _ _ z k=>⟨z.1.at λo e=>k j (by simp) o e,z.2.at λo e=>k l (by simp) o e⟩,λi s Q E hi z q=>iO z.1 z.2 (x:=its[i]) (by simp[hi]) λh2 z2 sb=>q _ h2 s.toks (by simp[hi]) ⟨z2,z.2.extBut sb.extBut ne⟩ sb,λi s Q E hi z q=>Yx calm z.1 z.2 (by simp[hi]) q⟩
 |false=>exact⟨λ_ _ _ z k=>⟨z.1.at λo e=>k j (by simp) o e,z.2.at λo e=>k l (by simp) o e⟩,λi s Q E hi z q=>wpAny_nextOf_list_item z.1 z.2 (x:=its[i]) (by simp[hi]) λh2 z2 sb=>q _ h2 s.toks (by simp[hi]) ⟨z2,z.2.extBut sb.extBut ne⟩ sb,λi s Q E hi z q=>wpAny_nextOf_list_end calm z.1 z.2 (by simp[hi]) q⟩
theorem nb1{I l c:Ae}(b:l<I)(h:c∈[I,l])(j:Ae):c≠I+(j+1):=by
 have h':c=I\/c=l:=by simpa using h
 omega
theorem nb2{I l c:Ae}(b:l<I)(h:c∈[I+1,l]):c≠I/\c≠I+3/\c≠I+4:=by
 have h':c=I+1\/c=l:=by simpa using h
 omega
theorem nij{I i j:Ae}(h:i≠j):I+i≠I+j:=by omega
theorem ni0{I i:Ae}(h:i≠0):I+i≠I:=by omega
section
variable{prog:AM}{w:AY}{A:AT}{E:Vq}{s:Ap}
theorem Ry{I l1 l2 n1 n2 k:Ae}{P1 P2:Ae->Aj->Prop}{S1 S2:Ae->AD->Prop}{a b:Aj}{Q:Vq}(b1:l1<I)(b2:l2<I)(D1:Dw prog w A I [I,l1] n1 P1 S1)(D2:Dw prog w A (I+1) [I+1,l2] n2 P2 S2)(hz:FR s.heap (I+4) (I+2) (I+3) .none)(hI:Ej s.heap (I+2) (.ref I) (.ref (I+1)))(hO:Ej s.heap (I+3) a b)(g1:S1 k s.heap)(g2:S2 k s.heap)(k1:k<n1)(k2:k<n2)(go:∀ x y h2 tk,P1 k x->P2 k y->FR h2 (I+4) (I+2) (I+3) (E2 s.heap.objs.size)->Ej h2 (I+3) x y->S1 (k+1) h2->S2 (k+1) h2->Ej h2 s.heap.objs.size x y ->
   (∀ c o,c∉[I,I+1,I+3,I+4]->s.heap.get? c=Ab o->h2.get? c=Ab o)->Q (.ref s.heap.objs.size) {s with heap:=h2,toks:=tk}):AB (model prog w) A (Builtin.«zip.__next__» ⟨[.ref (I+4)],[]⟩) (λfin s'=>∃ v,fin=.done (.ret v)/\Q v s') E s:=by
 refine Ao (m:=field (.ref (I+4)) 2) (BG hz rfl (x:=.bool Ad) rfl ?_);refine Ao (m:=field (.ref (I+4)) 3) (BG hz rfl (x:=.ref (I+2)) rfl (Ao (DF hI rfl ?_)));refine Ao (m:=CO (.ref (I+4))) ?_;simp only[CO];refine Ao (BG hz rfl (x:=.none) rfl (AK ?_));rw[Aq rfl];refine Ao (Iw (Ao (BG hz rfl (x:=.ref (I+3)) rfl (Ao (DQ hz (by simp) λp1 z1 e1=>Ao ?_)))))
 have z1':FR p1 (I+4) (I+2) (I+3) .ellipsis:=z1;simp only[Hi,Vv,Hz,GC];refine Ao (Ao (FU (Ao (m:=Bz (.ref I)) (D1.item k _ _ _ k1 (D1.frame _ _ _ g1 λc hc o q=>e1.extBut c o (nb1 b1 hc 3) q) λx p2 t2 px s2 e2=>AK ?_))))
 have o2:Ej p2 (I+3) a b:=e2.extBut _ _ (ni0 (by decide)) (e1.extBut _ _ (nij (by decide)) hO)
 refine Ao (DF o2 rfl (Ao (Gn o2 λp3 o3 e3=>Ao (Jz (AK ?_)))))
 have o3':Ej p3 (I+3) x b:=o3;have g2':S2 k p3:=D2.frame _ _ _ g2 λc hc o q=>e3.extBut c o (nb2 b2 hc).2.1 (e2.extBut c o (nb2 b2 hc).1 (e1.extBut c o (nb2 b2 hc).2.2 q))
 refine Ao (Ao (FU (Ao (m:=Bz (.ref (I+1))) (D2.item k _ _ _ k2 g2' λy p4 t4 py s4 e4=>AK ?_))))
 have o4:Ej p4 (I+3) x b:=e4.extBut _ _ (nij (by decide)) o3'
 refine Ao (DF o4 rfl (Ao (Gn o4 λp5 o5 e5=>Ao (Jz (AK (AK ?_))))))
 have o5':Ej p5 (I+3) x y:=o5;have sz:p5.objs.size=s.heap.objs.size:=by rw[e5.1,e4.1,e3.1,e2.1,e1.1]
 have z5:FR p5 (I+4) (I+2) (I+3) .ellipsis:=e5.extBut _ _ (nij (by decide)) (e4.extBut _ _ (nij (by decide)) (e3.extBut _ _ (nij (by decide)) (e2.extBut _ _ (ni0 (by decide)) z1')))
 refine Ao (DF o5' rfl (Ao (Xn ?_)));refine Ao (m:=VS (.ref (I+4)) (.ref p5.objs.size)) ?_;simp only[VS];have z6:FR (p5.push { cls:=.type "tuple",data:=.seq #[x,y] }) (I+4) (I+2) (I+3) .ellipsis:=As _ z5;refine Ao (DQ z6 (by simp) λp7 z7 e7=>?_)
 have z7':FR p7 (I+4) (I+2) (I+3) (E2 p5.objs.size):=z7;refine DQ z7' (by simp) λp8 z8 e8=>AK ⟨_,rfl,?_⟩
 have z8':FR p8 (I+4) (I+2) (I+3) (E2 p5.objs.size):=z8;have lt5:I+4<p5.objs.size:=AL z5;have up:∀ c o,c≠I+4->p5.get? c=Ab o->p8.get? c=Ab o:=λc o nc q=>e8.extBut _ _ nc (e7.extBut _ _ nc (As _ q))
 have t8:Ej p8 p5.objs.size x y:=e8.extBut _ _ (Fb lt5) (e7.extBut _ _ (Fb lt5) (AJ _ rfl));have a1:S1 (k+1) p8:=D1.frame _ _ _ s2 λc hc o q=>up c o (nb1 b1 hc 3) (e5.extBut c o (nb1 b1 hc 2) (e4.extBut c o (nb1 b1 hc 0) (e3.extBut c o (nb1 b1 hc 2) q)))
 have a2:S2 (k+1) p8:=D2.frame _ _ _ s4 λc hc o q=>up c o (nb2 b2 hc).2.2 (e5.extBut c o (nb2 b2 hc).2.1 q)
 have kp:∀ c o,c∉[I,I+1,I+3,I+4]->s.heap.get? c=Ab o->p8.get? c=Ab o:=λc o nc q=>by
  simp only[AI,Bq,CW,FQ]at nc;exact up c o nc.2.2.2 (e5.extBut c o nc.2.2.1 (e4.extBut c o nc.2.1 (e3.extBut c o nc.2.2.1 (e2.extBut c o nc.1 (e1.extBut c o nc.2.2.2 q)))))
 have q:=go x y p8 t4 px py (by rw[<-sz];exact z8') (up _ _ (nij (by decide)) o5') a1 a2 (by rw[<-sz];exact t8) kp
 rw[<-sz]at q;exact q
theorem RH{I l1 l2 n1 n2 k:Ae}{P1 P2:Ae->Aj->Prop}{S1 S2:Ae->AD->Prop}{a b:Aj}{Q:Fin->Ap->Prop}(b1:l1<I)(b2:l2<I)(D1:Dw prog w A I [I,l1] n1 P1 S1)(D2:Dw prog w A (I+1) [I+1,l2] n2 P2 S2)(hz:FR s.heap (I+4) (I+2) (I+3) .none)(hI:Ej s.heap (I+2) (.ref I) (.ref (I+1)))(hO:Ej s.heap (I+3) a b)(g1:S1 k s.heap)(g2:S2 k s.heap)(hk:n1<=k\/(k<n1/\n2<=k))(up:∀ h2 e tk,(∀ c o,c∉[I,I+1,I+3,I+4]->s.heap.get? c=Ab o->h2.get? c=Ab o)->(∃ o,h2.get? e=Ab o/\o.cls=.type "StopIteration")->E (.ref e) {s with heap:=h2,toks:=tk}):AB (model prog w) A (Builtin.«zip.__next__» ⟨[.ref (I+4)],[]⟩) Q E s:=by
 refine Ao (m:=field (.ref (I+4)) 2) (BG hz rfl (x:=.bool Ad) rfl ?_);refine Ao (m:=field (.ref (I+4)) 3) (BG hz rfl (x:=.ref (I+2)) rfl (Ao (DF hI rfl ?_)));refine Ao (m:=CO (.ref (I+4))) ?_;simp only[CO];refine Ao (BG hz rfl (x:=.none) rfl (AK ?_));rw[Aq rfl];refine Ao (Iw (Ao (BG hz rfl (x:=.ref (I+3)) rfl (Ao (DQ hz (by simp) λp1 z1 e1=>Ao ?_)))))
 have z1':FR p1 (I+4) (I+2) (I+3) .ellipsis:=z1;simp only[Hi,Vv,Hz,GC];have g1':S1 k p1:=D1.frame _ _ _ g1 λc hc o q=>e1.extBut c o (nb1 b1 hc 3) q
 rcases hk with k1|⟨k1,k2⟩
 .refine Ao (Ao (FU (Ao (m:=Bz (.ref I)) (D1.done _ _ _ _ k1 g1' λp2 e e2 he=>?_))))
  obtain⟨oe,hoe,hce⟩:=he;have z2:FR p2 (I+4) (I+2) (I+3) .ellipsis:=e2 _ _ (ni0 (by decide)) z1'
  have ne:e≠I+4:=λx=>by subst x;rw[z2]at hoe;cases hoe;simp at hce
  refine DQ z2 (by simp) λp3 _ e3=>up p3 e s.toks (λc o nc q=>?_) ⟨oe,e3.extBut _ _ ne hoe,hce⟩
  simp only[AI,Bq,CW,FQ]at nc;exact e3.extBut c o nc.2.2.2 (e2 c o nc.1 (e1.extBut c o nc.2.2.2 q))
 .refine Ao (Ao (FU (Ao (m:=Bz (.ref I)) (D1.item k _ _ _ k1 g1' λx p2 t2 px s2 e2=>AK ?_))))
  have o2:Ej p2 (I+3) a b:=e2.extBut _ _ (ni0 (by decide)) (e1.extBut _ _ (nij (by decide)) hO)
  refine Ao (DF o2 rfl (Ao (Gn o2 λp3 o3 e3=>Ao (Jz (AK ?_)))))
  have g2':S2 k p3:=D2.frame _ _ _ g2 λc hc o q=>e3.extBut c o (nb2 b2 hc).2.1 (e2.extBut c o (nb2 b2 hc).1 (e1.extBut c o (nb2 b2 hc).2.2 q))
  refine Ao (Ao (FU (Ao (m:=Bz (.ref (I+1))) (D2.done _ _ _ _ k2 g2' λp4 e e4 he=>?_))))
  obtain⟨oe,hoe,hce⟩:=he;have z4:FR p4 (I+4) (I+2) (I+3) .ellipsis:=e4 _ _ (nij (by decide)) (e3.extBut _ _ (nij (by decide)) (e2.extBut _ _ (ni0 (by decide)) z1'))
  have ne:e≠I+4:=λx=>by subst x;rw[z4]at hoe;cases hoe;simp at hce
  refine DQ z4 (by simp) λp5 _ e5=>up p5 e t2 (λc o nc q=>?_) ⟨oe,e5.extBut _ _ ne hoe,hce⟩
  simp only[AI,Bq,CW,FQ]at nc;exact e5.extBut c o nc.2.2.2 (e4 c o nc.2.1 (e3.extBut c o nc.2.2.1 (e2.extBut c o nc.1 (e1.extBut c o nc.2.2.2 q))))
end
def SqX(t:Ai)(K:Fg)(H:Hp)(a:Ak)(xs:Ac V):Prop:=match t with
  |true=>SqT K H a xs
  |false=>SqL K H a xs
theorem IE(I:Inv X pI Y H s)(h:SqX t X.K H a xs):∃ its:Ac Aj,A6 xs its/\ER t s.heap a its.toArray/\xs.length<=sizeLine:=by
 cases t with
 |true=>
  obtain⟨its,rv,p,z⟩:=I.tuple h;exact⟨its,rv,p,z⟩
 |false=>
  obtain⟨its,rv,p,z⟩:=I.list h;exact⟨its,rv,p.isList,z⟩
theorem NH(I:Inv X pI Y H s)(h:SqX t X.K H a xs)(h2:SqX t X.K H a ys):xs=ys:=by
 cases t with
 |true=>exact I.tuple_inj h h2
 |false=>exact I.list_inj h h2
noncomputable def Itz(K:Fg)(t1 t2:Ai)(a b:Ak):It:=
  ⟨λi H=>∃ xs ys x y,SqX t1 K H a xs/\SqX t2 K H b ys/\xs[i]?=Ab x/\ys[i]?=Ab y,
   λi H v H'=>∃ p x y,H p=Af/\v=.ref p/\(∀ xs,SqX t1 K H a xs->xs[i]?=Ab x)/\(∀ ys,SqX t2 K H b ys->ys[i]?=Ab y)/\H'=upd H p (.tup [x,y]),
   λi H=>∃ xs ys,SqX t1 K H a xs/\SqX t2 K H b ys/\(xs.length<=i\/(i<xs.length/\ys.length<=i))⟩
theorem Inv.turnedL{t':Ae}(ch:Ac Ak)(I:Inv X pI Y H s)(k:∀ b o,b∉ch->s.heap.get? b=Ab o->h'.get? b=Ab o)(hf:∀ b∈ch,Gz X pI H b):Inv X pI Y H {s with heap:=h',toks:=t'}:=by
 have nit:∀ b u,H b=Ab u->b∉ch:=λb u e z=>by rw[(hf b z).1]at e;cases e
 refine I.step (g':=s.gens) (d':=s.drawn) (ch:=ch) (λb hb=>⟨(hf b hb).2.2.2.1,(hf b hb).2.1,(hf b hb).2.2.2.2.1,(hf b hb).2.2.2.2.2⟩) (λb o _ _ hc e _=>k b o hc e) (λb o _ _ hc e _=>⟨o.slots,k b o hc e⟩) (λ_ _ _ _ n=>n)
  (λb o hc e=>⟨o,k b o hc e⟩) (λ_ _ e=>e) (λ_ _ _ e=>e) (λb ps e=>⟨#[],by rw[e];simp⟩) (λm ⟨o,es,ep,ho,r⟩=>⟨o,es,ep,k _ o (λz=>(hf _ z).2.1 rfl) ho,r⟩) (λb u e=>(I.hok b u e).stay (λc v hc q=>k c v ?_ q) (λ_ q=>q) λ_ _ q=>q) I.bare
 rcases hc with z|z
 .rw[z];exact nit b u e
 .exact nit c _ z
def zTn(t1 t2:Ai)(I l1 l2:Ae)(i:Ae)(h:AD):Prop:=FR h (I+4) (I+2) (I+3) .none/\Ej h (I+2) (.ref I) (.ref (I+1))/\(∃ a b,Ej h (I+3) a b)/\GL t1 h I l1 i/\GL t2 h (I+1) l2 i
noncomputable def zFp(I:Ae):Ac Ak:=[I,I+1,I+2,I+3,I+4]
theorem GL.obj(z:GL t h j l i):∃ o,h.get? j=Ab o/\∀ v,o.data≠.cell v:=by
 cases t with
 |true=>obtain⟨o,e,c,d⟩:=z;exact⟨o,e,λv z=>by rw[d]at z;cases z⟩
 |false=>obtain⟨o,e,c,d⟩:=z;exact⟨o,e,λv z=>by rw[d]at z;cases z⟩
theorem GL.at'{h2:AD}(z:GL t h j l i)(k:∀ o,h.get? j=Ab o->h2.get? j=Ab o):GL t h2 j l i:=by
 cases t with
 |true=>exact PySem.Heap.IsTupleIter.at z k
 |false=>exact PySem.Heap.IsListIter.at z k
theorem Y_3(t1 t2:Ai)(I l1 l2:Ae)(b1:l1<I)(b2:l2<I):Turn P w K (.Tuple es n pos) (Itz K t1 t2 l1 l2) (zFp I) (I+4) (zTn t1 t2 I l1 l2) where
  mem:=by simp[zFp]
  obj:=λi h ⟨z1,z2,⟨a,b,z3⟩,z4,z5⟩ c hc=>by
    simp only[zFp,AI,Bq,CW]at hc;rcases hc with rfl|rfl|rfl|rfl|rfl
    · exact z4.obj
    · exact z5.obj
    · exact⟨_,z2,λv z=>by cases z⟩
    · exact⟨_,z3,λv z=>by cases z⟩
    · exact⟨_,z1,λv z=>by cases z⟩
  keep:=λi h h2 ⟨z1,z2,⟨a,b,z3⟩,z4,z5⟩ k=>⟨k _ (by simp[zFp]) _ z1,k _ (by simp[zFp]) _ z2,⟨a,b,k _ (by simp[zFp]) _ z3⟩,z4.at' λo e=>k _ (by simp[zFp]) o e,z5.at' λo e=>k _ (by simp[zFp]) o e⟩
  item:=by
    intro X hP hw hK hc i pI s Y H E Iv hf ⟨z1,z2,⟨a,b,z3⟩,z4,z5⟩ ⟨xs,ys,x,y,q1,q2,hx,hy⟩;subst hP hw hK;obtain⟨us,rx,sx,_⟩:=IE Iv q1;obtain⟨vs,ry,sy,_⟩:=IE Iv q2;obtain⟨u,hu,ru⟩:=rx.get hx;obtain⟨v,hv,rv⟩:=ry.get hy;have hT:s.TypeIs (.ref (I+4)) "zip" := ⟨_,z1,rfl⟩;have calm:X.A.in1.handled=Af:=Iv.ok.hd hc;show AB _ _ (GU _) _ _ _;simp only[GU];refine Ao (FT (Ck hT Dp (Da Dp hT FX (Ry (k:=i) b1 b2 (KH calm t1 I l1 (Bj b1) us.toArray) (KH calm t2 (I+1) l2 (Bj (Cq b2)) vs.toArray) z1 z2 z3 ⟨z4,sx⟩ ⟨z5,sy⟩
      (by have:=(A4.mp hu).1;simpa using this) (by have:=(A4.mp hv).1;simpa using this) λx' y' h2 tk px py c1 c2 c3 c4 c5 kp=>AK ?_) (FD _))))
    have ex:x'=u:=by
      have px':us[i]?=Ab x':=by simpa using px
      rw[hu]at px';exact(Bh px').symm
    have ey:y'=v:=by
      have py':vs[i]?=Ab y':=by simpa using py
      rw[hv]at py';exact(Bh py').symm
    subst ex ey;refine⟨_,rfl,Xm c1 λh3 d1 sb=>?_⟩
    have lt4:I+4<s.heap.objs.size:=AL z1;have kp3:∀ c o,c∉zFp I->s.heap.get? c=Ab o->h3.get? c=Ab o:=λc o nc q=>by
      simp only[zFp,AI,Bq,CW,FQ]at nc;exact sb.extBut c o nc.2.2.2.2 (kp c o (by simp only[AI,Bq,CW,FQ];exact⟨nc.1,nc.2.1,nc.2.2.2.1,nc.2.2.2.2⟩) q)
    have nT:∀ c∈zFp I,c≠s.heap.objs.size:=λc hc z=>by
      have:c<=I+4:=by
        simp only[zFp,AI,Bq,CW]at hc;rcases hc with z|z|z|z|z<;>rw[z]<;>simp
      exact absurd (z ▸ GO this lt4) (Br _)
    have I1:Inv X pI Y (upd H s.heap.objs.size (.tup [x,y])) { s with heap:=s.heap.push { cls:=.type "tuple",data:=.seq #[x',y'] },toks:=s.toks }:=
      Iv.laid (λ_ _ q=>As _ q) (Aw _) ⟨(by decide:2<=sizeLine),[x',y'],.cons ru (.cons rv .nil),⟨_,AJ _ rfl,rfl,_,rfl⟩⟩
    have hf':∀ b∈zFp I,Gz X pI (upd H s.heap.objs.size (.tup [x,y])) b:=λb hb=>⟨by rw[B6 (nT b hb)];exact(hf b hb).1,(hf b hb).2⟩
    have I2:Inv X pI Y (upd H s.heap.objs.size (.tup [x,y])) {s with heap:=h3,toks:=tk}:=Inv.turnedL (s:={ s with heap:=s.heap.push { cls:=.type "tuple",data:=.seq #[x',y'] },toks:=s.toks }) (zFp I) I1 (λc o nc q=>by
      rcases WG q with ⟨e1,e2⟩|e1
      · subst e1 e2;exact sb.extBut _ _ (Fb lt4) c5
      · exact kp3 c o nc e1) hf'
    refine⟨.ref s.heap.objs.size,_,I2,rfl,⟨s.heap.objs.size,x,y,Iv.fresh,rfl,λzs hz=>by rw[NH Iv hz q1];exact hx,λzs hz=>by rw[NH Iv hz q2];exact hy,rfl⟩,⟨d1,sb.extBut _ _ (nij (by decide)) (kp _ _ (by simp) z2),⟨_,_,sb.extBut _ _ (nij (by decide)) c2⟩,c3.1.at' λo q=>sb.extBut _ o (Ed (ni0 (by decide))) q,c4.1.at' λo q=>sb.extBut _ o (nij (by decide)) q⟩,λb hb=>(hf' b hb).1⟩
  done:=by
    intro X hP hw hK hc i pI s Y H E Iv hf ⟨z1,z2,⟨a,b,z3⟩,z4,z5⟩ ⟨xs,ys,q1,q2,hk⟩;subst hP hw hK;obtain⟨us,rx,sx,_⟩:=IE Iv q1;obtain⟨vs,ry,sy,_⟩:=IE Iv q2;have hT:s.TypeIs (.ref (I+4)) "zip" := ⟨_,z1,rfl⟩;have calm:X.A.in1.handled=Af:=Iv.ok.hd hc;have e1:=rx.length;have e2:=ry.length;simp only[GU];refine Ao (FT (Ck hT Dp (Da Dp hT FX (RH (k:=i) b1 b2 (KH calm t1 I l1 (Bj b1) us.toArray) (KH calm t2 (I+1) l2 (Bj (Cq b2)) vs.toArray) z1 z2 z3 ⟨z4,sx⟩ ⟨z5,sy⟩
      (by simp only[AH];omega) λh2 e tk kp he=>?_) (FD _))))
    obtain⟨o,ho,hcl⟩:=he;refine Ao (Xl (T := "StopIteration") (b:=Aa) ⟨o,ho,hcl⟩ Xe (AK ⟨rfl,Inv.turnedL [I,I+1,I+3,I+4] Iv (λc o nc q=>kp c o nc q) λc hc=>hf c ?_⟩))
    simp only[AI,Bq,CW]at hc;simp only[zFp,AI,Bq,CW];rcases hc with rfl|rfl|rfl|rfl<;>simp
  self:=λ_ _ _ _ _ st h=>FY st.1 h
section
variable{prog:AM}{w:AY}{A:AT}{E:Vq}{s:Ap}
noncomputable def itO(t:Ai)(l:Ak):DE:=match t with
  |true=>{ cls:=.type "tuple_iterator",data:=.fields #[.ref l,.int 0 0] }
  |false=>{ cls:=.type "list_iterator",data:=.fields #[.ref l,.int 0 0] }
theorem Pb{Q:Vq}(h:ER t s.heap l its)(q:Q (.ref s.heap.objs.size) {s with heap:=s.heap.push (itO t l)}):AB (model prog w) A (J7 (.ref l)) Q E s:=by
 cases t with
 |true=>exact Xq h q
 |false=>exact G9 h q
theorem ER.push(z:ER t h l its)(o:DE):ER t (h.push o) l its:=by
 cases t with
 |true=>exact PySem.Heap.IsTuple.at z λ_ e=>As _ e
 |false=>exact PySem.Heap.IsList.at z λ_ e=>As _ e
theorem OO(e:h.get? j=Ab (itO t l)):GL t h j l 0:=by
 cases t with
 |true=>exact⟨_,e,rfl,rfl⟩
 |false=>exact⟨_,e,rfl,rfl⟩
theorem N9(t:Ai)(l:Ak):(itO t l).isFreed=Ad:=by cases t<;>rfl
noncomputable abbrev zh2(t1 t2:Ai)(h:AD)(l1 l2:Ak):AD:=(h.push (itO t1 l1)).push (itO t2 l2)
noncomputable abbrev zh3(t1 t2:Ai)(h:AD)(l1 l2:Ak):AD:=(zh2 t1 t2 h l1 l2).push { cls:=.type "tuple",data:=.seq #[.ref h.objs.size,.ref (h.push (itO t1 l1)).objs.size] }
noncomputable abbrev zh4(t1 t2:Ai)(h:AD)(l1 l2:Ak):AD:=(zh3 t1 t2 h l1 l2).push { cls:=.type "tuple",data:=.seq #[.none,.none] }
noncomputable abbrev zh5(t1 t2:Ai)(h:AD)(l1 l2:Ak):AD:=(zh4 t1 t2 h l1 l2).push { cls:=.type "zip",data:=.fields #[.none,.bool Ad,.bool Ad,.ref (zh2 t1 t2 h l1 l2).objs.size,.ref (zh3 t1 t2 h l1 l2).objs.size] }
theorem bA(t1 t2:Ai)(l1 l2:Ak)(xs ys:Ax Aj):Meets (Builtin.«zip.__new__» ⟨[.type "zip",.ref l1,.ref l2],[]⟩) (λ_ R s=>ER t1 s.heap l1 xs/\ER t2 s.heap l2 ys/\R (.ok (.ret (.ref (zh4 t1 t2 s.heap l1 l2).objs.size))) {s with heap:=zh5 t1 t2 s.heap l1 l2}):=
 .of_wp λprog w A R s h=>by
  obtain⟨hp,g,d,tk,os⟩:=s;obtain⟨a1,a2,q⟩:=h;have hsub:=sub_zip;have L1:ER t1 (Jy ⟨hp,g,d,tk,os⟩) l1 xs:=a1;have L2:ER t2 (Jy ⟨hp.push (itO t1 l1),g,d,tk,os⟩) l2 ys:=a2.push _
  wp_walk using Pb L1,Pb L2
  exact⟨_,rfl,q⟩
theorem YW{l1:Ak}{xs ys:Ax Aj}{Q:Vq}(a1:ER t1 s.heap l1 xs)(a2:ER t2 s.heap l2 ys)(q:∀ h2,zTn t1 t2 s.heap.objs.size l1 l2 0 h2->(∀ c o,s.heap.get? c=Ab o->h2.get? c=Ab o)->Q (.ref (s.heap.objs.size+4)) {s with heap:=h2}):AB (model prog w) A (call (.type "zip") [.ref l1,.ref l2]) Q E s:=by
 refine callType_new Ws (by decide) (WB _ _) (Wy _ _) (λobj=>Wp obj _ _) Wx (bA t1 t2 l1 l2 xs ys) ⟨a1,a2,?_⟩
 have s1:(s.heap.push (itO t1 l1)).objs.size=s.heap.objs.size+1:=BF ..;have s2:(zh2 t1 t2 s.heap l1 l2).objs.size=s.heap.objs.size+2:=by rw[BF,s1]
 have s3:(zh3 t1 t2 s.heap l1 l2).objs.size=s.heap.objs.size+3:=by rw[BF,s2]
 have s4:(zh4 t1 t2 s.heap l1 l2).objs.size=s.heap.objs.size+4:=by rw[BF,s3]
 have u5:∀ {c o},(zh4 t1 t2 s.heap l1 l2).get? c=Ab o->(zh5 t1 t2 s.heap l1 l2).get? c=Ab o:=λe=>As _ e
 have u4:∀ {c o},(zh3 t1 t2 s.heap l1 l2).get? c=Ab o->(zh5 t1 t2 s.heap l1 l2).get? c=Ab o:=λe=>u5 (As _ e)
 have u3:∀ {c o},(zh2 t1 t2 s.heap l1 l2).get? c=Ab o->(zh5 t1 t2 s.heap l1 l2).get? c=Ab o:=λe=>u4 (As _ e)
 have u2:∀ {c o},(s.heap.push (itO t1 l1)).get? c=Ab o->(zh5 t1 t2 s.heap l1 l2).get? c=Ab o:=λe=>u3 (As _ e)
 have g5:(zh5 t1 t2 s.heap l1 l2).get? (zh4 t1 t2 s.heap l1 l2).objs.size=Ab _:=AJ _ rfl;have g4:(zh5 t1 t2 s.heap l1 l2).get? (zh3 t1 t2 s.heap l1 l2).objs.size=Ab _:=u5 (AJ _ rfl);have g3:(zh5 t1 t2 s.heap l1 l2).get? (zh2 t1 t2 s.heap l1 l2).objs.size=Ab _:=u4 (AJ _ rfl);have g2:(zh5 t1 t2 s.heap l1 l2).get? (s.heap.push (itO t1 l1)).objs.size=Ab _:=u3 (AJ _ (N9 _ _));have g1:(zh5 t1 t2 s.heap l1 l2).get? s.heap.objs.size=Ab _:=u2 (AJ _ (N9 _ _));show _/\_;rw[s2,s3,s4]at g5;rw[s3]at g4;rw[s1,s2]at g3;rw[s1]at g2;rw[s4];exact⟨⟨_,g5,rfl⟩,q _ ⟨g5,g3,⟨_,_,g4⟩,OO g1,OO g2⟩ λc o e=>u2 (As _ e)⟩
end
theorem ER.lt(z:ER t h a its):a<h.objs.size:=by
 cases t with
 |true=>obtain⟨o,e,_⟩:=z;exact AL e
 |false=>obtain⟨o,e,_⟩:=z;exact AL e
theorem TL{ds:Ac D}(r:Rep K CL H A v d)(e:DW d=.ok ds):∃ t a xs,v=.ref a/\(∀ H2,Kp A H H2->SqX t K H2 a xs)/\Reps K CL H A xs ds:=by
 cases d with
 |lst es=>
  cases e;obtain⟨q,xs,rfl,na,sq,r⟩:=r;exact⟨Ad,q,xs,rfl,λH2 k=>MM k na sq,r⟩
 |tup es=>
  cases e;obtain⟨q,xs,rfl,na,sq,r⟩:=r;exact⟨Aa,q,xs,rfl,λH2 k=>ML k na sq,r⟩
 |_=>cases e
theorem Lr:∀(xs ys:Ac D),(DG xs ys).length=min xs.length ys.length
 |[],_=>by simp[DG]
 |_::_,[]=>by simp[DG]
 |x::xs,y::ys=>by
  rw[DG,AS,Lr xs ys];simp only[AS];omega
theorem Oj:∀(xs ys:Ac D)(i:Ae)(d:D),(DG xs ys)[i]?=Ab d->∃ x y,xs[i]?=Ab x/\ys[i]?=Ab y/\d=.tup [x,y]
 |[],_,i,d,h=>by simp[DG]at h
 |_::_,[],i,d,h=>by simp[DG]at h
 |x::xs,y::ys,0,d,h=>by
  rw[DG]at h;simp only[List.getElem?_cons_zero,Option.some.injEq]at h;exact⟨x,y,rfl,rfl,h.symm⟩
 |x::xs,y::ys,i+1,d,h=>by
  rw[DG]at h;simp only[List.getElem?_cons_succ]at h ⊢;exact Oj xs ys i d h
theorem YX{ds es:Ac D}(s1:∀ H2,Kp A H1 H2->SqX t1 K H2 a xs)(s2:∀ H2,Kp A H1 H2->SqX t2 K H2 b ys)(r1:Reps K CL H1 A xs ds)(r2:Reps K CL H1 A ys es):HW K CL A (DG ds es) (Itz K t1 t2 a b) H1:=λH k i=>by
 refine⟨λhi=>⟨xs,ys,s1 H k,s2 H k,?_⟩,λd hd=>?_⟩
 .rw[Lr]at hi;rw[r1.length,r2.length];omega
 .obtain⟨x,y,hx,hy,rfl⟩:=Oj _ _ _ _ hd;obtain⟨u,hu,ru⟩:=r1.get hx;obtain⟨v,hv,rv⟩:=r2.get hy;refine⟨⟨xs,ys,u,v,s1 H k,s2 H k,hu,hv⟩,?_⟩;rintro w' H' ⟨p,x',y',hp,rfl,c1,c2,rfl⟩;have ex:x'=u:=Bh ((c1 xs (s1 H k)).symm.trans hu);have ey:y'=v:=Bh ((c2 ys (s2 H k)).symm.trans hv);subst ex ey;have sm:=FI hp (.tup [x',y']);exact⟨sm,λB hB aB=>Kt aB hp ⟨Le ru k hB,Le rv k hB,trivial⟩⟩
section
variable{X:Cx}{CL:ClA}{W:XW}{pos p:AR}{a b:An}{fa fb:Rho->R D}
end
noncomputable abbrev SIt(h:AD)(j:Ak)(x:Ah)(t:BV)(i:Ae):Prop:=h.IsStrIter j "str_ascii_iterator" x t i
theorem Tb{A:AT}(calm:A.handled=Af)(j l:Ak)(x:Ah)(t:BV):Dw prog w A j [j,l] x.cps.size (λi v=>∃ c k,x.cps[i]?=Ab c/\v=.str ⟨#[c]⟩ k) (λi h=>SIt h j x t i):=
 ⟨λ_ _ _ ⟨o,ho,r⟩ k=>⟨o,k j (by simp) o ho,r⟩,λi s Q E hi z q=>wpAny_nextOf_ascii_item z (c:=x.cps[i]) (by simp[hi]) λh2 z2 sb=>q _ h2 _ ⟨x.cps[i],s.toks,by simp[hi],rfl⟩ z2 sb,λi s Q E hi z q=>wpAny_nextOf_ascii_end calm z (by simp[hi]) q⟩
noncomputable def Its(K:Fg)(x:Ah)(t2:Ai)(b:Ak):It:=
  ⟨λi H=>∃ ys c y,SqX t2 K H b ys/\x.cps[i]?=Ab c/\ys[i]?=Ab y,
   λi H v H'=>∃ p c y,H p=Af/\v=.ref p/\x.cps[i]?=Ab c/\(∀ ys,SqX t2 K H b ys->ys[i]?=Ab y)/\H'=upd H p (.tup [.str ⟨#[c]⟩,y]),
   λi H=>∃ ys,SqX t2 K H b ys/\(x.cps.size<=i\/(i<x.cps.size/\ys.length<=i))⟩
def sTn(x:Ah)(t:BV)(t2:Ai)(I l2:Ae)(i:Ae)(h:AD):Prop:=FR h (I+4) (I+2) (I+3) .none/\Ej h (I+2) (.ref I) (.ref (I+1))/\(∃ a b,Ej h (I+3) a b)/\SIt h I x t i/\GL t2 h (I+1) l2 i
theorem XM(x:Ah)(t:BV)(t2:Ai)(I l2:Ae)(b2:l2<I):Turn P w K (.Tuple es n pos) (Its K x t2 l2) (zFp I) (I+4) (sTn x t t2 I l2) where
  mem:=by simp[zFp]
  obj:=λi h ⟨z1,z2,⟨a,b,z3⟩,z4,z5⟩ c hc=>by
    simp only[zFp,AI,Bq,CW]at hc;rcases hc with rfl|rfl|rfl|rfl|rfl
    · obtain⟨o,e,_,d⟩:=z4;exact⟨o,e,λv z=>by rw[d]at z;cases z⟩
    · exact z5.obj
    · exact⟨_,z2,λv z=>by cases z⟩
    · exact⟨_,z3,λv z=>by cases z⟩
    · exact⟨_,z1,λv z=>by cases z⟩
  keep:=λi h h2 ⟨z1,z2,⟨a,b,z3⟩,z4,z5⟩ k=>⟨k _ (by simp[zFp]) _ z1,k _ (by simp[zFp]) _ z2,⟨a,b,k _ (by simp[zFp]) _ z3⟩,(let ⟨o,e,r⟩:=z4;⟨o,k _ (by simp[zFp]) o e,r⟩),z5.at' λo e=>k _ (by simp[zFp]) o e⟩
  item:=by
    intro X hP hw hK hc i pI s Y H E Iv hf ⟨z1,z2,⟨a,b,z3⟩,z4,z5⟩ ⟨ys,cc,y,q2,hx,hy⟩;subst hP hw hK;obtain⟨vs,ry,sy,_⟩:=IE Iv q2;obtain⟨v,hv,rv⟩:=ry.get hy;have hT:s.TypeIs (.ref (I+4)) "zip" := ⟨_,z1,rfl⟩;have calm:X.A.in1.handled=Af:=Iv.ok.hd hc;show AB _ _ (GU _) _ _ _;simp only[GU];refine Ao (FT (Ck hT Dp (Da Dp hT FX (Ry (k:=i) b2 b2 (Tb calm I l2 x t) (KH calm t2 (I+1) l2 (Bj (Cq b2)) vs.toArray) z1 z2 z3 z4 ⟨z5,sy⟩
      (UT.mp hx).1 (by have:=(A4.mp hv).1;simpa using this) λx' y' h2 tk px py c1 c2 c3 c4 c5 kp=>AK ?_) (FD _))))
    obtain⟨c0,k0,px,ex⟩:=px;have ec:cc=c0:=by
      rw[hx]at px;exact Bh px
    subst ec;have ey:y'=v:=by
      have py':vs[i]?=Ab y':=by simpa using py
      rw[hv]at py';exact(Bh py').symm
    subst ex ey;refine⟨_,rfl,Xm c1 λh3 d1 sb=>?_⟩
    have lt4:I+4<s.heap.objs.size:=AL z1;have kp3:∀ c o,c∉zFp I->s.heap.get? c=Ab o->h3.get? c=Ab o:=λc o nc q=>by
      simp only[zFp,AI,Bq,CW,FQ]at nc;exact sb.extBut c o nc.2.2.2.2 (kp c o (by simp only[AI,Bq,CW,FQ];exact⟨nc.1,nc.2.1,nc.2.2.2.1,nc.2.2.2.2⟩) q)
    have nT:∀ c∈zFp I,c≠s.heap.objs.size:=λc hc z=>by
      have:c<=I+4:=by
        simp only[zFp,AI,Bq,CW]at hc;rcases hc with z|z|z|z|z<;>rw[z]<;>simp
      exact absurd (z ▸ GO this lt4) (Br _)
    have I1:Inv X pI Y (upd H s.heap.objs.size (.tup [.str ⟨#[cc]⟩,y])) { s with heap:=s.heap.push { cls:=.type "tuple",data:=.seq #[.str ⟨#[cc]⟩ k0,y'] },toks:=s.toks }:=
      Iv.laid (λ_ _ q=>As _ q) (Aw _) ⟨(by decide:2<=sizeLine),[.str ⟨#[cc]⟩ k0,y'],.cons ⟨k0,rfl⟩ (.cons rv .nil),⟨_,AJ _ rfl,rfl,_,rfl⟩⟩
    have hf':∀ b∈zFp I,Gz X pI (upd H s.heap.objs.size (.tup [.str ⟨#[cc]⟩,y])) b:=λb hb=>⟨by rw[B6 (nT b hb)];exact(hf b hb).1,(hf b hb).2⟩
    have I2:Inv X pI Y (upd H s.heap.objs.size (.tup [.str ⟨#[cc]⟩,y])) {s with heap:=h3,toks:=tk}:=Inv.turnedL (s:={ s with heap:=s.heap.push { cls:=.type "tuple",data:=.seq #[.str ⟨#[cc]⟩ k0,y'] },toks:=s.toks }) (zFp I) I1 (λc o nc q=>by
      rcases WG q with ⟨e1,e2⟩|e1
      · subst e1 e2;exact sb.extBut _ _ (Fb lt4) c5
      · exact kp3 c o nc e1) hf'
    refine⟨.ref s.heap.objs.size,_,I2,rfl,⟨s.heap.objs.size,cc,y,Iv.fresh,rfl,hx,λzs hz=>by rw[NH Iv hz q2];exact hy,rfl⟩,⟨d1,sb.extBut _ _ (nij (by decide)) (kp _ _ (by simp) z2),⟨_,_,sb.extBut _ _ (nij (by decide)) c2⟩,(let ⟨o,e,r⟩:=c3;⟨o,sb.extBut _ o (Ed (ni0 (by decide))) e,r⟩),c4.1.at' λo q=>sb.extBut _ o (nij (by decide)) q⟩,λb hb=>(hf' b hb).1⟩
  done:=by
    intro X hP hw hK hc i pI s Y H E Iv hf ⟨z1,z2,⟨a,b,z3⟩,z4,z5⟩ ⟨ys,q2,hk⟩;subst hP hw hK;obtain⟨vs,ry,sy,_⟩:=IE Iv q2;have hT:s.TypeIs (.ref (I+4)) "zip" := ⟨_,z1,rfl⟩;have calm:X.A.in1.handled=Af:=Iv.ok.hd hc;have e2:=ry.length;simp only[GU];refine Ao (FT (Ck hT Dp (Da Dp hT FX (RH (k:=i) b2 b2 (Tb calm I l2 x t) (KH calm t2 (I+1) l2 (Bj (Cq b2)) vs.toArray) z1 z2 z3 z4 ⟨z5,sy⟩
      (by simp only[AH];omega) λh2 e tk kp he=>?_) (FD _))))
    obtain⟨o,ho,hcl⟩:=he;refine Ao (Xl (T := "StopIteration") (b:=Aa) ⟨o,ho,hcl⟩ Xe (AK ⟨rfl,Inv.turnedL [I,I+1,I+3,I+4] Iv (λc o nc q=>kp c o nc q) λc hc=>hf c ?_⟩))
    simp only[AI,Bq,CW]at hc;simp only[zFp,AI,Bq,CW];rcases hc with rfl|rfl|rfl|rfl<;>simp
  self:=λ_ _ _ _ _ st h=>FY st.1 h
section
variable{prog:AM}{w:AY}{A:AT}{E:Vq}{s:Ap}
noncomputable abbrev itS(x:Ah)(t:BV):DE:={ cls:=.type "str_ascii_iterator",data:=.fields #[.str x t,.int 0 0] }
noncomputable abbrev sh2(x:Ah)(t:BV)(t2:Ai)(h:AD)(l2:Ak):AD:=(h.push (itS x t)).push (itO t2 l2)
noncomputable abbrev sh3(x:Ah)(t:BV)(t2:Ai)(h:AD)(l2:Ak):AD:=(sh2 x t t2 h l2).push { cls:=.type "tuple",data:=.seq #[.ref h.objs.size,.ref (h.push (itS x t)).objs.size] }
noncomputable abbrev sh4(x:Ah)(t:BV)(t2:Ai)(h:AD)(l2:Ak):AD:=(sh3 x t t2 h l2).push { cls:=.type "tuple",data:=.seq #[.none,.none] }
noncomputable abbrev sh5(x:Ah)(t:BV)(t2:Ai)(h:AD)(l2:Ak):AD:=(sh4 x t t2 h l2).push { cls:=.type "zip",data:=.fields #[.none,.bool Ad,.bool Ad,.ref (sh2 x t t2 h l2).objs.size,.ref (sh3 x t t2 h l2).objs.size] }
theorem YV(x:Ah)(t:BV)(ha:x.cps.all (· < 128)=Aa)(t2:Ai)(l2:Ak)(ys:Ax Aj):Meets (Builtin.«zip.__new__» ⟨[.type "zip",.str x t,.ref l2],[]⟩) (λ_ R s=>ER t2 s.heap l2 ys/\R (.ok (.ret (.ref (sh4 x t t2 s.heap l2).objs.size))) {s with heap:=sh5 x t t2 s.heap l2}):=
 .of_wp λprog w A R s h=>by
  obtain⟨hp,g,d,tk,os⟩:=s;obtain⟨a2,q⟩:=h;have hsub:=sub_zip;have L2:ER t2 (Jy ⟨hp.push (itS x t),g,d,tk,os⟩) l2 ys:=a2.push _
  wp_walk using wpAny_pyIter_ascii ha,Pb L2
  exact⟨_,rfl,q⟩
theorem X1{t:BV}{ys:Ax Aj}{Q:Vq}(ha:x.cps.all (· < 128)=Aa)(a2:ER t2 s.heap l2 ys)(q:∀ h2,sTn x t t2 s.heap.objs.size l2 0 h2->(∀ c o,s.heap.get? c=Ab o->h2.get? c=Ab o)->Q (.ref (s.heap.objs.size+4)) {s with heap:=h2}):AB (model prog w) A (call (.type "zip") [.str x t,.ref l2]) Q E s:=by
 refine callType_new Ws (by decide) (WB _ _) (Wy _ _) (λobj=>Wp obj _ _) Wx (YV x t ha t2 l2 ys) ⟨a2,?_⟩
 have s1:(s.heap.push (itS x t)).objs.size=s.heap.objs.size+1:=BF ..;have s2:(sh2 x t t2 s.heap l2).objs.size=s.heap.objs.size+2:=by rw[BF,s1]
 have s3:(sh3 x t t2 s.heap l2).objs.size=s.heap.objs.size+3:=by rw[BF,s2]
 have s4:(sh4 x t t2 s.heap l2).objs.size=s.heap.objs.size+4:=by rw[BF,s3]
 have u5:∀ {c o},(sh4 x t t2 s.heap l2).get? c=Ab o->(sh5 x t t2 s.heap l2).get? c=Ab o:=λe=>As _ e
 have u4:∀ {c o},(sh3 x t t2 s.heap l2).get? c=Ab o->(sh5 x t t2 s.heap l2).get? c=Ab o:=λe=>u5 (As _ e)
 have u3:∀ {c o},(sh2 x t t2 s.heap l2).get? c=Ab o->(sh5 x t t2 s.heap l2).get? c=Ab o:=λe=>u4 (As _ e)
 have u2:∀ {c o},(s.heap.push (itS x t)).get? c=Ab o->(sh5 x t t2 s.heap l2).get? c=Ab o:=λe=>u3 (As _ e)
 have g5:(sh5 x t t2 s.heap l2).get? (sh4 x t t2 s.heap l2).objs.size=Ab _:=AJ _ rfl;have g4:(sh5 x t t2 s.heap l2).get? (sh3 x t t2 s.heap l2).objs.size=Ab _:=u5 (AJ _ rfl);have g3:(sh5 x t t2 s.heap l2).get? (sh2 x t t2 s.heap l2).objs.size=Ab _:=u4 (AJ _ rfl);have g2:(sh5 x t t2 s.heap l2).get? (s.heap.push (itS x t)).objs.size=Ab _:=u3 (AJ _ (N9 _ _));have g1:(sh5 x t t2 s.heap l2).get? s.heap.objs.size=Ab _:=u2 (AJ _ rfl);show _/\_;rw[s2,s3,s4]at g5;rw[s3]at g4;rw[s1,s2]at g3;rw[s1]at g2;rw[s4];exact⟨⟨_,g5,rfl⟩,q _ ⟨g5,g3,⟨_,_,g4⟩,⟨_,g1,rfl,rfl⟩,OO g2⟩ λc o e=>u2 (As _ e)⟩
end
def iZs(K:Fg)(ta:TA):TI:=λY H R=>ta Y H λvs H1=>(∃ t1 t2 a b xs ys,vs=[.ref a,.ref b]/\SqX t1 K H1 a xs/\SqX t2 K H1 b ys/\(xs.length<=sizeLine->R (Itz K t1 t2 a b) H1))\/∃ x t2 b ys,vs=[.str x,.ref b]/\x.cps.all (· < 128)=Aa/\SqX t2 K H1 b ys/\(ys.length<=sizeLine->R (Its K x t2 b) H1)
theorem oU{a b:An}(hg:Gl X "zip")(hm:X.mg "zip" = Af)(ha:PA X [a,b] ta)(hs:Ay [a,b] X.env=[(Ad,eval a X.env),(Ad,eval b X.env)])(hs2:Ay [b] X.env=[(Ad,eval b X.env)]):
  PI X (.Tuple es n tpos) (.Call (.Name "zip" p) [a,b] [] pos) (iZs X.K ta):=by
 intro pI s Y H R I h;refine Call_ (JS I hg hm PyProof.Rows.boot_zip (C1 (thn (ha pos pI s Y H _ I h) λus s1 ⟨vs,H1,I1,r1,q1⟩=>?_) (by rw[hs,hs2]) (by rw[hs2];rfl)))
 have fp:∀ b∈zFp s1.heap.objs.size,Gz X pI H1 b:=λb hb=>by
  have hb':s1.heap.objs.size<=b:=by
   simp only[zFp,AI,Bq,CW]at hb;rcases hb with z|z|z|z|z<;>rw[z]<;>simp
  exact I1.fpOk hb' (I1.hok.fresh hb')
 rcases q1 with ⟨t1,t2,c,d,xs,ys,e,sx,sy,q⟩|⟨x,t2,d,ys,e,hx,sy,q⟩
 .subst e;cases r1 with
  |cons r rr=>
   cases rr with
   |cons r' rr=>
    cases rr;cases r;cases r';obtain⟨us,ru,iu,zu⟩:=IE I1 sx;obtain⟨vs,rv,iv,_⟩:=IE I1 sy;refine YW iu iv λh2 z kp=>FY z.1 ?_
    exact⟨s1.heap.objs.size+4,zFp s1.heap.objs.size,_,_,H1,rfl,I1.kept (t':=s1.toks) kp,Y_3 t1 t2 s1.heap.objs.size c d iu.lt iv.lt,z,fp,q zu⟩
 .subst e;cases r1 with
  |cons r rr=>
   cases rr with
   |cons r' rr=>
    cases rr;obtain⟨tk,rfl⟩:=r;cases r';obtain⟨vs,rv,iv,zv⟩:=IE I1 sy;refine X1 hx iv λh2 z kp=>FY z.1 ?_
    exact⟨s1.heap.objs.size+4,zFp s1.heap.objs.size,_,_,H1,rfl,I1.kept (t':=s1.toks) kp,XM x tk t2 s1.heap.objs.size d iv.lt,z,fp,q zv⟩
theorem bB{es:Ac D}(s2:∀ H2,Kp A H1 H2->SqX t2 K H2 b ys)(r2:Reps K CL H1 A ys es):HW K CL A (DG (Jl x) es) (Its K x t2 b) H1:=λH k i=>by
 have sl:(Jl x).length=x.cps.size:=by simp[Jl]
 refine⟨λhi=>⟨ys,s2 H k,?_⟩,λd hd=>?_⟩
 .rw[Lr,sl]at hi;rw[r2.length];omega
 .obtain⟨u,y,hx,hy,rfl⟩:=Oj _ _ _ _ hd;have hx':∃ c,x.cps[i]?=Ab c/\u=D.str ⟨#[c]⟩:=by
   unfold Jl at hx;rw[Cp,Cy]at hx;cases e:x.cps[i]? with
   |none=>rw[e]at hx;cases hx
   |some c=>rw[e]at hx;exact⟨c,rfl,(Bh hx).symm⟩
  obtain⟨c,hc,rfl⟩:=hx';obtain⟨v,hv,rv⟩:=r2.get hy;refine⟨⟨ys,c,v,s2 H k,hc,hv⟩,?_⟩;rintro w' H' ⟨p,c',y',hp,rfl,c1,c2,rfl⟩;have ex:c'=c:=Bh (c1.symm.trans hc);have ey:y'=v:=Bh ((c2 ys (s2 H k)).symm.trans hv);subst ex ey;have sm:=FI hp (.tup [.str ⟨#[c']⟩,y']);exact⟨sm,λB hB aB=>Kt aB hp ⟨rfl,Le rv k hB,trivial⟩⟩
theorem Pi(x:Ah):asZ (.str x)=if x.cps.all (· < 128)=Aa then .ok (Jl x) else .bad:=rfl
theorem eJ{z:Ex}(h:asZ d=.exn z):A5:=by
 by_cases hd:∃ x,d=.str x
 .obtain⟨x,rfl⟩:=hd;rw[Pi]at h;split at h<;>cases h
 .have ea:asZ d=DW d:=by
   cases d<;>first|rfl|exact absurd ⟨_,rfl⟩ hd
  rw[ea]at h;cases d<;>simp[DW]at h
section
variable{X:Cx}{CL:ClA}{W:XW}{pos p:AR}{a b:An}{fa fb:Rho->R D}
theorem nN(ha:SE X CL W a fa)(hb:SE X CL W b fb)(hg:Gl X "zip")(hm:X.mg "zip" = Af)(hs:Ay [a,b] X.env=[(Ad,eval a X.env),(Ad,eval b X.env)])(hs2:Ay [b] X.env=[(Ad,eval b X.env)]):
  SI X CL W (.Tuple es n tpos) (.Call (.Name "zip" p) [a,b] [] pos) (λU=>(fa U).bind λx=>(fb U).bind λy=>(asZ x).bind λxs=>(DW y).bind λys=>.ok (DG xs ys)):=
 λA=>PI.weak (oU hg hm (El (ha A) (El (hb A) F1 hs2) (by rw[hs,hs2])) hs hs2) λY H R ⟨hA,U,g,q⟩=>⟨hA,U,g,Er.ex q λd v H1 _ s1 r1 p1=>⟨hA.same s1,U,g.same s1,Er.ex p1 λd2 v2 H2 _ s2 r2 p2=>by
  cases e2:DW d2 with
  |bad=>
   rw[e2]at p2;cases e1:asZ d with
   |bad=>rw[e1]at p2;exact p2.elim
   |exn z=>exact(eJ e1).elim
   |ok ds=>rw[e1]at p2;exact p2.elim
  |exn z=>exact absurd e2 (by cases d2<;>simp[DW])
  |ok es=>
   obtain⟨t2,c2,ys,rfl,k2,rs2⟩:=TL r2 e2;rw[e2]at p2;by_cases hd:∃ x,d=.str x
   .obtain⟨x,rfl⟩:=hd;by_cases hx:x.cps.all (· < 128)=Aa
    .have e1:asZ (.str x)=.ok (Jl x):=by rw[Pi,Aq hx]
     rw[e1]at p2;have e:v=V.str x:=r1;subst e;refine .inr ⟨x,t2,c2,ys,rfl,hx,k2 H2 (Kp.of (AG.refl H2)),λhz=>p2 _ H2 (AG.refl H2) (bB k2 rs2) ?_⟩
     rw[Lr,<-rs2.length];omega
    .have e1:asZ (.str x)=.bad:=by rw[Pi,Ar hx]
     rw[e1]at p2;exact p2.elim
   .have ea:asZ d=DW d:=by
     cases d<;>first|rfl|exact absurd ⟨_,rfl⟩ hd
    rw[ea]at p2;cases e1:DW d with
    |bad=>rw[e1]at p2;exact p2.elim
    |exn z=>exact absurd e1 (by cases d<;>simp[DW])
    |ok ds=>
     rw[e1]at p2;obtain⟨t1,c1,xs,rfl,k1,rs1⟩:=TL (r1.same s2) e1;refine .inl ⟨t1,t2,c1,c2,xs,ys,rfl,k1 H2 (Kp.of (AG.refl H2)),k2 H2 (Kp.of (AG.refl H2)),λhz=>p2 _ H2 (AG.refl H2) (YX k1 k2 rs1 rs2) ?_⟩
     rw[Lr,<-rs1.length];omega⟩⟩
end
noncomputable def Itd(lo:Ag)(n:Ae):It:=⟨λi _=>i<n,λi H x H'=>H'=H/\x=.int (lo-i),λi _=>n<=i⟩
theorem XO(it:Ak)(lo:Ag)(n:Ae):Turn P w K tg (Itd lo n) [it] it (λi h=>HH h it (lo+(i:Ae)*(-1)) ((n:Ag)-(i:Ae)) (-1)) where
  mem:=by simp
  obj:=λi h st b hb=>by
    have e:b=it:=by simpa using hb
    subst e;exact⟨_,st,λv z=>by
      have z':VV _=IX v:=z;cases z'⟩
  keep:=λi h h' st k=>k it (by simp) _ st
  item:=by
    intro X hP hw hK hc i pI s Y H E I hf st hg;subst hP hw hK;obtain⟨f0,f1,f2,f3,f4,f5⟩:=hf it (by simp)
    have W:=Xb (prog:=X.prog) (w:=X.w) (I.ok.hd hc) it lo (-1) n;refine W.item i s _ _ hg st λv h' tk hv st' kk=>?_
    obtain⟨t,rfl⟩:=hv;have I1:Inv X pI Y H {s with heap:=h',toks:=tk}:=I.turned (λb o hb e=>kk b o (by simpa using hb) e) f0 f1 f3 f4 f5
    refine⟨_,rfl,M1 (s:={s with heap:=h',toks:=tk}) (n := "range_iterator") st' rfl rfl (by decide) ⟨.int (lo-i),H,I1,⟨t,?_⟩,⟨rfl,rfl⟩,st',λb hb=>(hf b hb).1⟩⟩
    rw[show lo+(i:Ag)*(-1)=lo-i by omega]
  done:=by
    intro X hP hw hK hc i pI s Y H E I hf st hg;subst hP hw hK;obtain⟨f0,f1,f2,f3,f4,f5⟩:=hf it (by simp)
    exact Xr (I.ok.hd hc) st (by have:n<=i:=hg;omega) λh' eb=>⟨rfl,I.turned (t':=s.toks) (λb o hb e=>eb b o hb e) f0 f1 f3 f4 f5⟩
  self:=λ_ _ _ _ _ st h=>Xp st h
section
variable{X:Cx}{tg:An}
theorem eV{R:It->Hp->Prop}{E:Vq}{t u v:BV}(I:Inv X pI Y H s)(h1:-(2 ^ 62)<=lo)(h2:lo<2 ^ 62)(h3:-(2 ^ 62)<=hi)(h4:hi<2 ^ 62)(q:R (Itd lo (lo-hi).toNat) H):AB (model X.prog X.w) X.A (J7 (.ref s.heap.objs.size)) (PIE X pI Y tg R) E { s with heap:=s.heap.push { cls:=.type "range",data:=.fields #[.int lo t,.int hi u,.int (-1) v] },toks:=tk }:=by
 refine Xo (WH ..) (PySem.W.small_down h1 h2 h3 h4) ?_;have I1:Inv X pI Y H { s with heap:=s.heap.push { cls:=.type "range",data:=.fields #[.int lo t,.int hi u,.int (-1) v] },toks:=tk }:=I.kept λb o e=>As _ e
 refine⟨(s.heap.push { cls:=.type "range",data:=.fields #[.int lo t,.int hi u,.int (-1) v] }).objs.size,[(s.heap.push { cls:=.type "range",data:=.fields #[.int lo t,.int hi u,.int (-1) v] }).objs.size],_,_,H,rfl,
  I1.kept (t':=tk) λb o e=>As _ e,XO _ lo (lo-hi).toNat,?_,λb hb=>?_,q⟩
 .have e1:lo+((0:Ae):Ag)*(-1)=lo:=by simp
  have e2:(((lo-hi).toNat:Ae):Ag)-((0:Ae):Ag)=VQ lo hi (-1):=by rw[PySem.W.rangeSize_downNat];simp
  show HH _ _ (lo+((0:Ae):Ag)*(-1)) ((((lo-hi).toNat:Ae):Ag)-((0:Ae):Ag)) (-1);rw[e1,e2];exact AJ _ rfl
 .have e:b=(s.heap.push { cls:=.type "range",data:=.fields #[.int lo t,.int hi u,.int (-1) v] }).objs.size:=by simpa using hb
  subst e;exact I1.fpOk (Aw _) (I1.hok.fresh (Aw _))
def nQ(ta:TA):TI:=λY H R=>ta Y H λvs H1=>∃ i j:Ag,vs=[.int i,.int j,.int (-1)]/\(-(2 ^ 62)<=i/\i<2 ^ 62/\-(2 ^ 62)<=j/\j<2 ^ 62)/\R (Itd i (i-j).toNat) H1
theorem Yt{a b:An}(hg:Gl X "range")(hm:X.mg "range" = Af)(ha:PA X [a,b,c] ta)(hs:Ay [a,b,c] X.env=[(Ad,eval a X.env),(Ad,eval b X.env),(Ad,eval c X.env)])(hs2:Ay [b,c] X.env=[(Ad,eval b X.env),(Ad,eval c X.env)]):
  PI X tg (.Call (.Name "range" p) [a,b,c] [] pos) (nQ ta):=by
 intro pI s Y H R I h;refine Call_ (JS I hg hm J3 (C1 (thn (ha pos pI s Y H _ I h) λus s1 ⟨vs,H1,I1,r1,q1⟩=>?_) (by rw[hs,hs2]) (by rw[hs2];rfl)))
 obtain⟨i,j,e,⟨q1,q2,q3,q4⟩,q⟩:=q1;subst e;cases r1 with
 |cons r rr=>
  cases rr with
  |cons r' rr=>
   cases rr with
   |cons r'' rr=>
    cases rr;obtain⟨t,rfl⟩:=r;obtain⟨t',rfl⟩:=r';obtain⟨t'',rfl⟩:=r'';exact call_range_3 (by decide) (eV I1 q1 q2 q3 q4 q) (Or.inl (VN (by decide)))
end
theorem Qk(lo:Ag)(n:Ae):(Gw lo n).length=n:=by simp[Gw]
theorem ZC(h:(Gw lo n)[i]?=Ab d):i<n/\d=.int (lo-i):=by
 unfold Gw at h;rw[Cp]at h;by_cases hi:i<n
 .rw[GB hi]at h;exact⟨hi,(Bh h).symm⟩
 .rw[Vd (by simp;omega)]at h
  cases h
section
variable{X:Cx}{CL:ClA}{W:XW}{pos p:AR}{tg a b c:An}{fa fb fc:Rho->R D}
theorem X2(lo:Ag)(n:Ae):HW K CL A (Gw lo n) (Itd lo n) H:=λH' k i=>by
 refine⟨λh=>by rw[Qk]at h;exact h,λd hd=>?_⟩
 obtain⟨h1,rfl⟩:=ZC hd;exact⟨h1,λx H2 ⟨e,y⟩=>by
  subst e y;exact⟨AG.refl _,λ_ _ _=>rfl⟩⟩
theorem Yi{lo hi c:Ag}{ds:Ac D}(h:GW lo hi c=.ok ds):c=-1/\(-(2 ^ 62)<=lo/\lo<2 ^ 62)/\(-(2 ^ 62)<=hi/\hi<2 ^ 62)/\ds=Gw lo (lo-hi).toNat/\(Gw lo (lo-hi).toNat).length<=sizeLine:=by
 unfold GW at h;split at h
 .rename_i q;cases h;exact⟨q.1,by omega,by omega,rfl,by rw[Qk,B9];omega⟩
 .cases h
theorem XD{lo hi c:Ag}{x:Ex}(h:GW lo hi c=.exn x):A5:=by
 unfold GW at h;split at h<;>cases h
theorem aM(ha:ST X CL W a fa)(hb:ST X CL W b fb)(hc:ST X CL W c fc)(hg:Gl X "range")(hm:X.mg "range" = Af)(hs:Ay [a,b,c] X.env=[(Ad,eval a X.env),(Ad,eval b X.env),(Ad,eval c X.env)])(hs2:Ay [b,c] X.env=[(Ad,eval b X.env),(Ad,eval c X.env)])(hs3:Ay [c] X.env=[(Ad,eval c X.env)]):
  SI X CL W tg (.Call (.Name "range" p) [a,b,c] [] pos) (λU=>(fa U).bind λx=>(fb U).bind λy=>(fc U).bind λz=>(DR x).bind λi=>(DR y).bind λj=>(DR z).bind λk=>GW i j k):=
 λA=>PI.weak (Yt hg hm (El (ha A) (El (hb A) (El (hc A) F1 hs3) (by rw[hs2,hs3])) (by rw[hs,hs2])) hs hs2) λY H R ⟨hA,U,g,q⟩=>⟨hA,U,g,Er.ex q λd v H1 _ s1 r1 p1=>⟨hA.same s1,U,g.same s1,Er.ex p1 λd2 v2 H2 _ s2 r2 p2=>⟨(hA.same s1).same s2,U,(g.same s1).same s2,Er.ex p2 λd3 v3 H3 _ s3 r3 p3=>by
  cases d with
  |int i=>
   cases d2 with
   |int j=>
    cases d3 with
    |int k=>
     have e:=r1.int_of;have e':=r2.int_of;have e'':=r3.int_of
     subst e e' e'';have p4:Er X.K CL A W H3 (GW i j k) R:=p3;cases e2:GW i j k with
     |ok ds=>
      rw[e2]at p4;obtain⟨rfl,h1,h2,rfl,hz⟩:=Yi e2;exact⟨i,j,rfl,⟨h1.1,h1.2,h2.1,h2.2⟩,p4 _ H3 (AG.refl H3) (X2 _ _) hz⟩
     |exn y=>exact(XD e2).elim
     |bad=>rw[e2]at p4;exact p4.elim
    |_=>exact p3.elim
   |_=>exact p3.elim
  | _=>exact p3.elim⟩⟩⟩
end
section
variable{prog:AM}{w:AY}{A:AT}{E:Vq}{s:Ap}
end
section
variable{X:Cx}{CL:ClA}{W:XW}{pos p:AR}{a:An}{fa:Rho->R D}
end
noncomputable abbrev UP(h:AD)(z TI TO:Ak)(f0 f1:Aj):Prop:=h.get? z=Ab { cls:=.type "zip",dict:=Af,data:=.fields #[f0,f1,.bool Ad,.ref TI,.ref TO],slots:=#[] }
noncomputable abbrev UQ(h:AD)(T:Ak)(a b c:Aj):Prop:=h.get? T=Ab { cls:=.type "tuple",data:=.seq #[a,b,c] }
section
variable{prog:AM}{w:AY}{A:AT}{E:Vq}{s:Ap}
def Z_3(t1 t2 t3:Ai)(I l1 l2 l3 i:Ae)(h:AD):Prop:=UQ h (I+3) (.ref (I+0)) (.ref (I+1)) (.ref (I+2))/\GL t1 h (I+0) l1 i/\GL t2 h (I+1) l2 i/\GL t3 h (I+2) l3 i/\(∃ a b c,UQ h (I+4) a b c) /\
 (UP h (I+5) (I+3) (I+4) .none (.bool Ad)\/∃(T1:Ae)(f1:Ai),UP h (I+5) (I+3) (I+4) (E2 T1) (.bool f1))
end
section
variable{prog:AM}{w:AY}{A:AT}{R:Ie->Ap->Prop}
theorem ER.at'{h2:AD}(z:ER t h l its)(k:∀ o,h.get? l=Ab o->h2.get? l=Ab o):ER t h2 l its:=by
 cases t with
 |true=>exact PySem.Heap.IsTuple.at z k
 |false=>exact PySem.Heap.IsList.at z k
theorem Z_3.at'{t1 t2 t3:Ai}{I l1 l2 l3 i:Ae}{h h2:AD}(z:Z_3 t1 t2 t3 I l1 l2 l3 i h)(k:∀ j,j<=5->∀ o,h.get? (I+j)=Ab o->h2.get? (I+j)=Ab o):Z_3 t1 t2 t3 I l1 l2 l3 i h2:=by
 obtain⟨zI,i1,i2,i3,⟨a,b,c,hO⟩,zz⟩:=z;exact⟨k 3 (by decide) _ zI,i1.at' λo q=>k 0 (by decide) o q,i2.at' λo q=>k 1 (by decide) o q,i3.at' λo q=>k 2 (by decide) o q,⟨a,b,c,k 4 (by decide) _ hO⟩,zz.imp (k 5 (by decide) _) λ⟨T1,f1,hz⟩=>⟨T1,f1,k 5 (by decide) _ hz⟩⟩
end
section
variable{prog:AM}{w:AY}{A:AT}{E:Vq}{s:Ap}
end
theorem Z_3.ty{t3:Ai}{I l1 l2 l3 i:Ae}(z:Z_3 t1 t2 t3 I l1 l2 l3 i s.heap):s.TypeIs (.ref (I+5)) "zip" := by
 obtain⟨_,_,_,_,_,hz|⟨_,_,hz⟩⟩:=z
 .exact⟨_,hz,rfl⟩
 .exact⟨_,hz,rfl⟩
section
variable{prog:AM}{w:AY}{A:AT}{E:Vq}{s:Ap}
end
section
variable{X:Cx}{CL:ClA}{W:XW}{pos p pos' p':AR}{a b c:An}{fa fb fc:Rho->R D}
end
section
variable{X:Cx}{CL:ClA}{W:XW}{pos p tpos:AR}{a b c:An}{fa fb fc:Rho->R D}{x:Ah}
end
section
variable{X:Cx}{CL:ClA}{W:XW}{a:An}{fa:Rho->R D}
end
section
variable{X:Cx}{CL:ClA}{W:XW}{o o' e:An}{fe:Rho->R D}{i j:Ae}{apos cpos apos' cpos' pos:AR}
end
section
variable{X:Cx}{CL:ClA}{W:XW}
end
section
variable{X:Cx}
variable{CL:ClA}{W:XW}{pos p pos' p':AR}{a b:An}{fa fb:Rho->R D}
end
section
variable{X:Cx}{CL:ClA}{W:XW}{e o o' k l:An}{fe:Rho->R Ov.D}{i ik il:Ae}{pos spos spos' tpos:AR}{kt:Ae}
end
section
variable{prog:AM}{w:AY}{A:AT}{E:Vq}{s:Ap}
end
section
variable{X:Cx}{pos:AR}{CL:ClA}
end
section
variable{X:Cx}{CL:ClA}{W:XW}
end
end Ov
namespace Ov
open PySem PyProof.Rows
variable{arr a a':Ax At}{i k n j ja jb lo hi p e d:Ae}{st:AU}{left:Ai}{key x:At}{α:Type}{c:Prop}{m:Ac At}{Q:Ai->AU->Prop}
noncomputable def cI:Ai->At->Ax At->Ae->Ae->Ae->DZ AU Dq (Am Ae):=sortPriv%PySem.Builtin.gallop
noncomputable def Zr:Ax At->Ax At->DZ AU Dq (Ax At):=sortPriv%PySem.Builtin.mergeLo
noncomputable def Zt:Ax At->Ax At->DZ AU Dq (Ax At):=sortPriv%PySem.Builtin.mergeHi
noncomputable def Rt:Ae->DZ AU Dq Ai:=sortPriv%PySem.Builtin.mergeAt
noncomputable def ka0(a:Ax At)(i:Ae):At:=a.getD i (A3,A3)
section
variable{M:Eo}{A:AT}{E:Vq}{s:Ap}{κ:Eh}{V:At->Prop}{lt:At->At->Ai}
def Hw(M:Eo)(A:AT)(s:Ap)(κ:Eh)(V:At->Prop)(lt:At->At->Ai):Prop:=∀(E:Vq)(st:AU)(x y:At)(Q:Am Ai->AU->Prop),kindOf st=κ->V x->V y->Q (Ab (lt x y)) st->Bl M A E s (lt' x y) Q st
structure OrdK (V:At->Prop) (lt:At->At->Ai):Prop where
 asymm:∀ {x y},V x->V y->lt x y=Aa->lt y x=Ad
 trans:∀ {x y z},V x->V y->V z->lt y x=Ad->lt z y=Ad->lt z x=Ad
theorem Dy{Q:At->AU->Prop}(h:i<arr.size)(q:Q (ka0 arr i) st):Bl M A E s (elem' arr i) Q st:=by
 rw[elem'_eq,Array.getElem?_eq_getElem h];refine AA ?_;have e:ka0 arr i=arr[i]:=by simp[ka0,DI,h]
 rw[<-e];exact q
noncomputable def byd(lt:At->At->Ai)(left:Ai)(key x:At):Ai:=if left=Aa then lt x key else !lt key x
theorem hG(C:Hw M A s κ V lt){Q:Am Ai->AU->Prop}(hk:kindOf st=κ)(vk:V key)(h:k<arr.size)(v:V (ka0 arr k))(q:Q (Ab (byd lt left key (ka0 arr k))) st):
  Bl M A E s (do let x <-elem' arr k;if left=Aa then lt' x key else do let r <-lt' key x;pure (VF (λx=>!x) r)) Q st:=by
 refine Au (Dy h ?_);cases left with
 |true=>rw[Aq rfl];exact C _ _ _ _ _ hk v vk q
 |false=>rw[Ar (by decide)];exact Au (C _ _ _ _ _ hk vk v (AA q))
def KI(B:Ae->Ai)(n k:Ae):Prop:=k<=n/\(∀ i,i<k->B i=Aa)/\∀ i,k<=i->i<n->B i=Ad
theorem JF(C:Hw M A s κ V lt){base hint:Ae}{Q:Am Ae->AU->Prop}(hk:kindOf st=κ)(vk:V key)(hb:base+n<=arr.size)(hv:∀ i,i<n->V (ka0 arr (base+i)))(hh:hint<n)(mono:∀ i j,i<=j->j<n->byd lt left key (ka0 arr (base+j))=Aa->byd lt left key (ka0 arr (base+i))=Aa)(q:∀ k,KI (λi=>byd lt left key (ka0 arr (base+i))) n k->Q (Ab k) st):Bl M A E s (cI left key arr base n hint) Q st:=by
 have up:∀ i j,i<=j->j<n->byd lt left key (ka0 arr (base+i))=Ad->byd lt left key (ka0 arr (base+j))=Ad:=λi j h1 h2 h3=>by
  cases e:byd lt left key (ka0 arr (base+j)) with
  |false=>rfl
  |true=>rw[mono i j h1 h2 e]at h3;cases h3
 have ask:∀(i:Ae)(Q:Am Ai->AU->Prop),i<n->Q (Ab (byd lt left key (ka0 arr (base+i)))) st->Bl M A E s (do let x <-elem' arr (base+i);if left=Aa then lt' x key else do let r <-lt' key x;pure (VF (λx=>!x) r)) Q st:=λi Q h q=>hG C hk vk (by omega) (hv i h) q
 refine Au (ask hint _ hh ?_);dsimp only;by_cases hB:byd lt left key (ka0 arr (base+hint))=Aa
 .rw[Aq hB];refine Au (CA (Q:=λb st'=>st=st'/\∃ l h,l<=h/\h<=n/\(∀ i,i<l->byd lt left key (ka0 arr (base+i))=Aa)/\(∀ i,h<=i->i<n->byd lt left key (ka0 arr (base+i))=Ad)/\b.1=Af/\l=hint+b.2.1+1/\h=hint+min b.2.2 (n-hint)) (BC (λi b st'=>st=st'/\b.1=Af/\b.2.1<b.2.2/\i+1<=b.2.2/\hint+b.2.1<n/\byd lt left key (ka0 arr (base+(hint+b.2.1)))=Aa) (λi b st' _ hi hI=>?_) (λb st' hI=>?_) ⟨rfl,rfl,by decide,by decide,hh,hB⟩) λb st' hP=>?_)
  .obtain⟨rfl,b1,b2,b3,b4,b5⟩:=hI;obtain⟨r,l,o⟩:=b;dsimp only at b1 b2 b3 b4 b5 ⊢;subst b1;by_cases ho:o ≥ n-hint
   .rw[Aq ho];exact AA ⟨rfl,hint+l+1,hint+min o (n-hint),by omega,by omega,λi hi'=>mono i (hint+l) (by omega) b4 b5,λi h1 h2=>by omega,rfl,rfl,rfl⟩
   .rw[Ar ho];refine Au (ask (hint+o) _ (by omega) ?_)
    dsimp only;cases e:byd lt left key (ka0 arr (base+(hint+o))) with
    |false=>exact AA ⟨rfl,hint+l+1,hint+min o (n-hint),by omega,by omega,λi hi'=>mono i (hint+l) (by omega) b4 b5,λi h1 h2=>up (hint+o) i (by omega) h2 e,rfl,rfl,rfl⟩
    |true=>exact AA ⟨rfl,rfl,by show o<2*o+1;omega,by show i+1+1<=2*o+1;omega,by show hint+o<n;omega,e⟩
  .obtain⟨rfl,b1,b2,b3,b4,b5⟩:=hI;rw[DN]at b3;exact⟨rfl,hint+b.2.1+1,hint+min b.2.2 (n-hint),by omega,by omega,λi hi'=>mono i (hint+b.2.1) (by omega) b4 b5,λi h1 h2=>by omega,b1,rfl,rfl⟩
  obtain⟨rfl,l,h,c1,c2,c3,c4,b1,rfl,rfl⟩:=hP;rw[b1];dsimp only;generalize hint+b.2.1+1=l at *;generalize hint+min b.2.2 (n-hint)=h at *;refine Au (CA (Q:=λb st'=>st=st'/\b.1=Af/\KI (λi=>byd lt left key (ka0 arr (base+i))) n b.2.2) (BC (λi b st'=>st=st'/\b.1=Af/\b.2.1<=b.2.2/\b.2.2<=n/\b.2.2-b.2.1<=n-i/\(∀ i,i<b.2.1->byd lt left key (ka0 arr (base+i))=Aa)/\(∀ i,b.2.2<=i->i<n->byd lt left key (ka0 arr (base+i))=Ad)) (λi b st' _ hi hI=>?_) (λb st' hI=>?_) ⟨rfl,rfl,c1,c2,by show h-l<=n-0;omega,c3,c4⟩) λb st' hP=>?_)
  .obtain⟨rfl,b1,b2,b3,b4,b5,b6⟩:=hI;obtain⟨r,l,h⟩:=b;dsimp only at b1 b2 b3 b4 b5 b6 ⊢;subst b1;by_cases ho:l ≥ h
   .rw[Aq ho];exact AA ⟨rfl,rfl,b3,λi hi'=>b5 i (by show i<l;have:i<h:=hi';omega),b6⟩
   .rw[Ar ho];refine Au (ask (l+(h-l)/2) _ (by omega) ?_)
    dsimp only;cases e:byd lt left key (ka0 arr (base+(l+(h-l)/2))) with
    |false=>
     rw[Ar (by decide)]
     exact AA ⟨rfl,rfl,by show l<=l+(h-l)/2;omega,by show l+(h-l)/2<=n;omega,by show l+(h-l)/2-l<=n-(i+1);omega,b5,λi h1 h2=>up (l+(h-l)/2) i h1 h2 e⟩
    |true=>
     rw[Aq rfl];exact AA ⟨rfl,rfl,by show l+(h-l)/2+1<=h;omega,b3,by show h-(l+(h-l)/2+1)<=n-(i+1);omega,λi hi'=>mono i (l+(h-l)/2) (by have:i<l+(h-l)/2+1:=hi';omega) (by omega) e,b6⟩
  .obtain⟨rfl,b1,b2,b3,b4,b5,b6⟩:=hI;rw[DN]at b4;exact⟨rfl,b1,b3,λi hi'=>b5 i (by omega),b6⟩
  obtain⟨rfl,b1,b2⟩:=hP;rw[b1];exact AA (q _ b2)
 .have hB':byd lt left key (ka0 arr (base+hint))=Ad:=by cases e:byd lt left key (ka0 arr (base+hint)) with|false=>rfl|true=>exact absurd e hB
  rw[Ar hB];refine Au (CA (Q:=λb st'=>st=st'/\∃ l h,l<=h/\h<=n/\(∀ i,i<l->byd lt left key (ka0 arr (base+i))=Aa)/\(∀ i,h<=i->i<n->byd lt left key (ka0 arr (base+i))=Ad)/\b.1=Af/\l=hint+1-min b.2.2 (hint+1)/\h=hint-b.2.1) (BC (λi b st'=>st=st'/\b.1=Af/\b.2.1<b.2.2/\i+1<=b.2.2/\b.2.1<=hint/\byd lt left key (ka0 arr (base+(hint-b.2.1)))=Ad) (λi b st' _ hi hI=>?_) (λb st' hI=>?_) ⟨rfl,rfl,by decide,by decide,CI _,hB'⟩) λb st' hP=>?_)
  .obtain⟨rfl,b1,b2,b3,b4,b5⟩:=hI;obtain⟨r,l,o⟩:=b;dsimp only at b1 b2 b3 b4 b5 ⊢;subst b1;by_cases ho:o ≥ hint+1
   .rw[Aq ho];exact AA ⟨rfl,hint+1-min o (hint+1),hint-l,by omega,by omega,λi hi'=>by omega,λi h1 h2=>up (hint-l) i h1 h2 b5,rfl,rfl,rfl⟩
   .rw[Ar ho];refine Au (ask (hint-o) _ (by omega) ?_)
    dsimp only;cases e:byd lt left key (ka0 arr (base+(hint-o))) with
    |true=>
     rw[Aq rfl];exact AA ⟨rfl,hint+1-min o (hint+1),hint-l,by omega,by omega,λi hi'=>mono i (hint-o) (by omega) (by omega) e,λi h1 h2=>up (hint-l) i h1 h2 b5,rfl,rfl,rfl⟩
    |false=>
     rw[Ar (by decide)]
     exact AA ⟨rfl,rfl,by show o<2*o+1;omega,by show i+1+1<=2*o+1;omega,by show o<=hint;omega,e⟩
  .obtain⟨rfl,b1,b2,b3,b4,b5⟩:=hI;rw[DN]at b3;exact⟨rfl,hint+1-min b.2.2 (hint+1),hint-b.2.1,by omega,by omega,λi hi'=>by omega,λi h1 h2=>up (hint-b.2.1) i h1 h2 b5,b1,rfl,rfl⟩
  obtain⟨rfl,l,h,c1,c2,c3,c4,b1,rfl,rfl⟩:=hP;rw[b1];dsimp only;generalize hint+1-min b.2.2 (hint+1)=l at *;generalize hint-b.2.1=h at *;refine Au (CA (Q:=λb st'=>st=st'/\b.1=Af/\KI (λi=>byd lt left key (ka0 arr (base+i))) n b.2.2) (BC (λi b st'=>st=st'/\b.1=Af/\b.2.1<=b.2.2/\b.2.2<=n/\b.2.2-b.2.1<=n-i/\(∀ i,i<b.2.1->byd lt left key (ka0 arr (base+i))=Aa)/\(∀ i,b.2.2<=i->i<n->byd lt left key (ka0 arr (base+i))=Ad)) (λi b st' _ hi hI=>?_) (λb st' hI=>?_) ⟨rfl,rfl,c1,c2,by show h-l<=n-0;omega,c3,c4⟩) λb st' hP=>?_)
  .obtain⟨rfl,b1,b2,b3,b4,b5,b6⟩:=hI;obtain⟨r,l,h⟩:=b;dsimp only at b1 b2 b3 b4 b5 b6 ⊢;subst b1;by_cases ho:l ≥ h
   .rw[Aq ho];exact AA ⟨rfl,rfl,b3,λi hi'=>b5 i (by show i<l;have:i<h:=hi';omega),b6⟩
   .rw[Ar ho];refine Au (ask (l+(h-l)/2) _ (by omega) ?_)
    dsimp only;cases e:byd lt left key (ka0 arr (base+(l+(h-l)/2))) with
    |false=>
     rw[Ar (by decide)]
     exact AA ⟨rfl,rfl,by show l<=l+(h-l)/2;omega,by show l+(h-l)/2<=n;omega,by show l+(h-l)/2-l<=n-(i+1);omega,b5,λi h1 h2=>up (l+(h-l)/2) i h1 h2 e⟩
    |true=>
     rw[Aq rfl];exact AA ⟨rfl,rfl,by show l+(h-l)/2+1<=h;omega,b3,by show h-(l+(h-l)/2+1)<=n-(i+1);omega,λi hi'=>mono i (l+(h-l)/2) (by have:i<l+(h-l)/2+1:=hi';omega) (by omega) e,b6⟩
  .obtain⟨rfl,b1,b2,b3,b4,b5,b6⟩:=hI;rw[DN]at b4;exact⟨rfl,b1,b3,λi hi'=>b5 i (by omega),b6⟩
  obtain⟨rfl,b1,b2⟩:=hP;rw[b1];exact AA (q _ b2)
end
section
variable{V:At->Prop}{lt:At->At->Ai}{T out A B:Ac At}
def leK(lt:At->At->Ai)(x y:At):Prop:=lt y x=Ad
structure MI (lt:At->At->Ai) (T out A B:Ac At):Prop where
 pm:(out++(A++B)).Perm T
 sa:(out++A).Pairwise (leK lt)
 sb:(out++B).Pairwise (leK lt)
def SPk(lt:At->At->Ai)(T r:Ac At):Prop:=r.Perm T/\r.Pairwise (leK lt)
theorem MI.mvA(O:OrdK V lt)(hv:∀ x∈T,V x){A1 A2 B':Ac At}{y:At}(h:MI lt T out (A1++A2) (y::B'))(hy:∀ x∈A1,leK lt x y):MI lt T (out++A1) A2 (y::B'):=by
 have vm:∀ x,x∈out++((A1++A2)++(y::B'))->V x:=λx hx=>hv x (h.pm.mem_iff.mp hx)
 refine⟨by rw[Cc,<-Cc A1];exact h.pm,by rw[Cc];exact h.sa,?_⟩
 obtain⟨s1,s2,s3⟩:=D6.mp h.sa;obtain⟨t1,t2,t3⟩:=D6.mp h.sb;obtain⟨u1,u2,u3⟩:=D6.mp s2;rw[Cc];refine D6.mpr ⟨s1,D6.mpr ⟨u1,t2,λx hx z hz=>?_⟩,λx hx z hz=>?_⟩
 .rcases AI.mp hz with rfl|hz
  .exact hy x hx
  .exact O.trans (vm x (by simp[hx])) (vm y (by simp)) (vm z (by simp[hz])) (hy x hx) ((DM.mp t2).1 z hz)
 .rcases Ce.mp hz with hz|hz
  .exact s3 x hx z (ET _ hz)
  .exact t3 x hx z hz
theorem MI.swap(h:MI lt T out A B):MI lt T out B A:=⟨(List.Perm.append_left out List.perm_append_comm).trans h.pm,h.sb,h.sa⟩
theorem MI.mvB(O:OrdK V lt)(hv:∀ x∈T,V x){B1 B2 A':Ac At}(h:MI lt T out (x::A') (B1++B2))(hx:∀ y∈B1,leK lt y x):MI lt T (out++B1) (x::A') B2:=(h.swap.mvA O hv hx).swap
theorem MI.endB(h:MI lt T out A []):SPk lt T (out++A):=⟨by have:=h.pm;rwa [Bo]at this,h.sa⟩
theorem MI.endA(h:MI lt T out [] B):SPk lt T (out++B):=h.swap.endB
theorem MI.end1(O:OrdK V lt)(hv:∀ x∈T,V x)(h:MI lt T out [x] B)(hx:∀ y∈B,leK lt y x):SPk lt T (out++B++[x]):=by
 have h':MI lt T out [x] (B++[]):=by rw[Bo];exact h
 exact(h'.mvB O hv hx).endB
end
section
variable{M:Eo}{A:AT}{E:Vq}{s:Ap}{κ:Eh}{V:At->Prop}{lt:At->At->Ai}
theorem Kq{r:CD}{Q:Il->AU->Prop}(q:Q ⟨⟩ st):Bl M A E s (liftM (rule r):DZ AU Dq Il) Q st:=by
 unfold Bl;show AB M A ((StateT.lift (rule r):DZ AU Dq Il).run st) _ E s;rw[StateT.run_lift];exact Ao (Iw (AK ⟨rfl,q⟩))
def Fl(κ:Eh)(st st':AU):Prop:=kindOf st'=κ/\Av st'=Av st/\Bi st'=Bi st/\DD st'=DD st
theorem GX(h:i<a.size):a.toList.drop i=ka0 a i::a.toList.drop (i+1):=by
 have e:ka0 a i=a[i]:=by simp[ka0,DI,h]
 rw[e,<-CK];exact By (by rw[AF];exact h)
theorem Kv(a:Ax At)(i:Ae):(a.extract i a.size).toList=a.toList.drop i:=by
 rw[CM,Ca,FO];rw[Ef,AF];exact Aw _
theorem O6(a:Ax At)(i k:Ae):(a.extract i (i+k)).toList=(a.toList.drop i).take k:=by
 rw[CM,Ca]
 congr 1
 omega
end
section
variable{M:Eo}{A:AT}{E:Vq}{s:Ap}{κ:Eh}{V:At->Prop}{lt:At->At->Ai}
theorem Gs[EC c]{m1 m2:DZ AU Dq α}{Q:α->AU->Prop}(h1:Bl M A E s m1 Q st)(h2:Bl M A E s m2 Q st):Bl M A E s (if c then m1 else m2) Q st:=by
 split<;>assumption
theorem Sa[EC c]{f:Ae->DZ AU Dq α}{u v:Ae}{Q:α->AU->Prop}(h:∀ x,Bl M A E s (f x) Q st):Bl M A E s (if c then f u else f v) Q st:=Gs (h _) (h _)
structure LI (lt:At->At->Ai) (a b:Ax At) (out:Ax At) (ia ib:Ae):Prop where
 la:ia+1<a.size
 lb:ib<b.size
 mi:MI lt (a.toList++b.toList) out.toList (a.toList.drop ia) (b.toList.drop ib)
 sz:out.size=ia+ib
structure Pre (V:At->Prop) (lt:At->At->Ai) (a b:Ax At):Prop where
 va:∀ x∈a.toList,V x
 vb:∀ x∈b.toList,V x
 sa:a.toList.Pairwise (leK lt)
 sb:b.toList.Pairwise (leK lt)
 pa:0<a.size
 pb:0<b.size
 fst:∀ x∈a.toList,leK lt (ka0 b 0) x
 lst:∀ y∈b.toList,leK lt y (ka0 a (a.size-1))
variable{a b out:Ax At}{ia ib:Ae}
theorem Pre.v(P:Pre V lt a b):∀ x∈a.toList++b.toList,V x:=λx hx=>(Ce.mp hx).elim (P.va x) (P.vb x)
theorem HQ(h:i<a.size):ka0 a i∈a.toList:=by
 have e:ka0 a i=a[i]:=by simp[ka0,DI,h]
 rw[e];exact Array.mem_toList_iff.mpr (Array.getElem_mem h)
theorem Ua(h:a.toList.Pairwise (leK lt))(hij:i<j)(hj:j<a.size):leK lt (ka0 a i) (ka0 a j):=by
 have e1:ka0 a i=a[i]:=by simp[ka0,DI,Vx hij hj]
 have e2:ka0 a j=a[j]:=by simp[ka0,DI,hj]
 rw[e1,e2,<-CK,<-CK];exact(Cv.mp h) i j _ _ hij
theorem LI.pushB(O:OrdK V lt)(P:Pre V lt a b)(h:LI lt a b out ia ib)(hc:leK lt (ka0 b ib) (ka0 a ia)):MI lt (a.toList++b.toList) (out.push (ka0 b ib)).toList (a.toList.drop ia) (b.toList.drop (ib+1)):=by
 have m:=h.mi;have e:=GX (a:=a) (i:=ia) (by have:=h.la;omega)
 rw[GX h.lb]at m;rw[Du];rw[e]at m ⊢;exact m.mvB (B1:=[ka0 b ib]) O P.v (λy hy=>by rw[Bk.mp hy];exact hc)
theorem LI.pushA(O:OrdK V lt)(P:Pre V lt a b)(h:LI lt a b out ia ib)(hc:leK lt (ka0 a ia) (ka0 b ib)):MI lt (a.toList++b.toList) (out.push (ka0 a ia)).toList (a.toList.drop (ia+1)) (b.toList.drop ib):=by
 have m:=h.mi;have e:=GX h.lb;rw[GX (a:=a) (i:=ia) (by have:=h.la;omega)]at m
 rw[Du];rw[e]at m ⊢;exact m.mvA (A1:=[ka0 a ia]) O P.v (λy hy=>by rw[Bk.mp hy];exact hc)
theorem MI.pB(O:OrdK V lt)(P:Pre V lt a b)(m:MI lt (a.toList++b.toList) out.toList (a.toList.drop ja) (b.toList.drop jb))(ha:ja<a.size)(hb:jb<b.size)(hc:leK lt (ka0 b jb) (ka0 a ja)):MI lt (a.toList++b.toList) (out.push (ka0 b jb)).toList (a.toList.drop ja) (b.toList.drop (jb+1)):=by
 have e:=GX ha;rw[GX hb]at m;rw[Du];rw[e]at m ⊢;exact m.mvB (B1:=[ka0 b jb]) O P.v (λy hy=>by rw[Bk.mp hy];exact hc)
theorem MI.pA(O:OrdK V lt)(P:Pre V lt a b)(m:MI lt (a.toList++b.toList) out.toList (a.toList.drop ja) (b.toList.drop jb))(ha:ja<a.size)(hb:jb<b.size)(hc:leK lt (ka0 a ja) (ka0 b jb)):MI lt (a.toList++b.toList) (out.push (ka0 a ja)).toList (a.toList.drop (ja+1)) (b.toList.drop jb):=by
 have e:=GX hb;rw[GX ha]at m;rw[Du];rw[e]at m ⊢;exact m.mvA (A1:=[ka0 a ja]) O P.v (λy hy=>by rw[Bk.mp hy];exact hc)
theorem OM(o a:Ax At)(h:j+k<=a.size):(o++a.extract j (j+k)).size=o.size+k:=by
 rw[FB,EB];omega
theorem Mj(h:x∈(a.toList.drop j).take k):∃ i,i<k/\j+i<a.size/\x=ka0 a (j+i):=by
 obtain⟨i,hi,rfl⟩:=Em h;rw[C9,Ef,AF]at hi;refine⟨i,by omega,by omega,?_⟩
 rw[List.getElem_take,List.getElem_drop,CK];simp[ka0,DI,show j+i<a.size by omega]
theorem MI.chA(O:OrdK V lt)(P:Pre V lt a b)(m:MI lt (a.toList++b.toList) out.toList (a.toList.drop ja) (b.toList.drop jb))(hb:jb<b.size)(hc:∀ i,i<k->ja+i<a.size->leK lt (ka0 a (ja+i)) (ka0 b jb)):MI lt (a.toList++b.toList) (out++a.extract ja (ja+k)).toList (a.toList.drop (ja+k)) (b.toList.drop jb):=by
 rw[A9,O6];have e:=GX hb;rw[e]at m ⊢;rw[show a.toList.drop (ja+k)=(a.toList.drop ja).drop k from (Ib ..).symm]
 refine MI.mvA O P.v (by rw[DS];exact m) λx hx=>?_
 obtain⟨i,h1,h2,rfl⟩:=Mj hx;exact hc i h1 h2
theorem MI.chB(O:OrdK V lt)(P:Pre V lt a b)(m:MI lt (a.toList++b.toList) out.toList (a.toList.drop ja) (b.toList.drop jb))(ha:ja<a.size)(hc:∀ i,i<k->jb+i<b.size->leK lt (ka0 b (jb+i)) (ka0 a ja)):MI lt (a.toList++b.toList) (out++b.extract jb (jb+k)).toList (a.toList.drop ja) (b.toList.drop (jb+k)):=by
 rw[A9,O6];have e:=GX ha;rw[e]at m ⊢;rw[show b.toList.drop (jb+k)=(b.toList.drop jb).drop k from (Ib ..).symm]
 refine MI.mvB O P.v (by rw[DS];exact m) λx hx=>?_
 obtain⟨i,h1,h2,rfl⟩:=Mj hx;exact hc i h1 h2
theorem SN(O:OrdK V lt)(va:∀ x∈a.toList,V x)(sa:a.toList.Pairwise (leK lt))(vk:V key)(i k:Ae)(h:i<=k)(hk:j+k<a.size)(hb:byd lt Ad key (ka0 a (j+k))=Aa):byd lt Ad key (ka0 a (j+i))=Aa:=by
 by_cases e:i=k
 .rw[e];exact hb
 .have l:=Ua sa (i:=j+i) (j:=j+k) (by omega) hk
  have hb':lt key (ka0 a (j+k))=Ad:=by simpa [byd] using hb
  have:=O.trans (va _ (HQ (by omega))) (va _ (HQ hk)) vk l hb'
  simpa [byd] using this
theorem OP(O:OrdK V lt)(va:∀ x∈a.toList,V x)(sa:a.toList.Pairwise (leK lt))(vk:V key)(i k:Ae)(h:i<=k)(hk:j+k<a.size)(hb:byd lt Aa key (ka0 a (j+k))=Aa):byd lt Aa key (ka0 a (j+i))=Aa:=by
 by_cases e:i=k
 .rw[e];exact hb
 .have l:=Ua sa (i:=j+i) (j:=j+k) (by omega) hk
  have hb':lt (ka0 a (j+k)) key=Aa:=by simpa [byd] using hb
  show byd lt Aa key (ka0 a (j+i))=Aa;cases q:lt (ka0 a (j+i)) key with
  |true=>simpa [byd] using q
  |false=>
   have:=O.trans vk (va _ (HQ (show j+i<a.size by omega))) (va _ (HQ hk)) q l
   rw[this]at hb';cases hb'
theorem Pq(h:KI (λi=>byd lt Ad key (ka0 a (j+i))) n k):k<=n/\(∀ i,i<k->leK lt (ka0 a (j+i)) key)/\∀ i,k<=i->i<n->lt key (ka0 a (j+i))=Aa:=⟨h.1,λi hi=>by have:=h.2.1 i hi;simpa [byd,leK] using this,λi h1 h2=>by have:=h.2.2 i h1 h2;simpa [byd,leK] using this⟩
theorem MS(h:KI (λi=>byd lt Aa key (ka0 a (j+i))) n k):k<=n/\(∀ i,i<k->lt (ka0 a (j+i)) key=Aa)/\∀ i,k<=i->i<n->leK lt key (ka0 a (j+i)):=⟨h.1,λi hi=>by have:=h.2.1 i hi;simpa [byd,leK] using this,λi h1 h2=>by have:=h.2.2 i h1 h2;simpa [byd,leK] using this⟩
theorem Kx{a b out:Ax At}{ia:Ae}(m:MI lt (a.toList++b.toList) out.toList (a.toList.drop ia) (b.toList.drop b.size)):SPk lt (a.toList++b.toList) (out++a.extract ia a.size++b.extract b.size b.size).toList:=by
 rw[A9,A9,Kv,Kv];have e:b.toList.drop b.size=[]:=DJ (by rw[AF];exact Aw _)
 rw[e]at m ⊢;rw[Bo];exact m.endB
theorem Zg{a b out:Ax At}{ib:Ae}(m:MI lt (a.toList++b.toList) out.toList (a.toList.drop a.size) (b.toList.drop ib)):SPk lt (a.toList++b.toList) (out++a.extract a.size a.size++b.extract ib b.size).toList:=by
 rw[A9,A9,Kv,Kv];have e:a.toList.drop a.size=[]:=DJ (by rw[AF];exact Aw _)
 rw[e]at m ⊢;rw[Bo];exact m.endA
theorem JD(O:OrdK V lt)(P:Pre V lt a b)(e:ia+1=a.size)(m:MI lt (a.toList++b.toList) out.toList (a.toList.drop ia) (b.toList.drop ib)):SPk lt (a.toList++b.toList) (out++b.extract ib b.size++a.extract ia a.size).toList:=by
 rw[A9,A9,Kv,Kv];have e1:a.toList.drop ia=[ka0 a ia]:=by
  rw[GX (by omega),e,DJ (by rw[AF];exact Aw _)]
 rw[e1]at m ⊢;refine m.end1 O P.v λy hy=>?_
 have:=P.lst y (Vn hy)
 rwa [show a.size-1=ia by omega]at this
theorem X9(C:Hw M A s κ V lt)(O:OrdK V lt)(P:Pre V lt a b){Q:Ax At->AU->Prop}(hk:kindOf st=κ)(q:∀ r st',SPk lt (a.toList++b.toList) r.toList->Fl κ st st'->Q r st'):Bl M A E s (Zr a b) Q st:=by
 have ss0:Fl κ st st:=⟨hk,rfl,rfl,rfl⟩;have vA:∀ {i},i<a.size->V (ka0 a i):=λh=>P.va _ (HQ h)
 have vB:∀ {i},i<b.size->V (ka0 b i):=λh=>P.vb _ (HQ h)
 have m0:MI lt (a.toList++b.toList) (#[ka0 b 0]:Ax At).toList (a.toList.drop 0) (b.toList.drop 1):=by
  have e:=GX P.pb;rw[Ec]at e;rw[Ec];refine⟨?_,DM.mpr ⟨λx hx=>P.fst x hx,P.sa⟩,by have:=P.sb;rw[e]at this;exact this⟩
  have pm:(ka0 b 0::(a.toList++b.toList.drop 1)).Perm (a.toList++(ka0 b 0::b.toList.drop (0+1))):=List.perm_middle.symm;rw[<-e]at pm;exact pm
 refine Au (Kq ?_);refine Au (Dy P.pb ?_)
 extract_lets out0 ia0 ib0
 by_cases h1:(ib0==b.size)=Aa
 .rw[Aq h1];have e1:1=b.size:=by simpa [ib0] using h1
  refine AA (q _ _ ?_ ss0);show SPk lt _ (#[ka0 b 0]++a.extract 0 a.size++b.extract 1 b.size).toList;rw[e1];rw[e1]at m0;exact Kx m0
 rw[Ar h1];by_cases h2:(ia0+1==a.size)=Aa
 .rw[Aq h2];have e2:0+1=a.size:=by simpa [ia0] using h2
  exact AA (q _ _ (JD O P e2 m0) ss0)
 rw[Ar h2];have b1:1<b.size:=by
  have n1:¬ 1=b.size:=by simpa [ib0] using h1
  have:=P.pb;omega
 have a1:0+1<a.size:=by
  have n1:¬ 0+1=a.size:=by simpa [ia0] using h2
  have:=P.pa;omega
 refine Au (Fp ?_)
 extract_lets mg0
 refine Au (CA (Q:=λx st'=>Fl κ st st'/\∃ r,x.1=Ab r/\SPk lt (a.toList++b.toList) r.toList) (BC (λi x st'=>Fl κ st st'/\x.1=Af/\LI lt a b x.2.1 x.2.2.1 x.2.2.2.1/\i+1<=x.2.1.size) (λi x st' _ hi hI=>?_) (λx st' hI=>?_) ⟨ss0,rfl,⟨a1,b1,m0,rfl⟩,Aw _⟩) λx st' hP=>?_)
 .obtain⟨ss,hx,li,hsz⟩:=hI;obtain⟨x1,out,ia,ib,mg⟩:=x;have li:LI lt a b out ia ib:=li;have hsz:i+1<=out.size:=hsz;have ht:0<a.size+b.size:=by omega
  try extract_lets
  refine Au (CA (Q:=λy st''=>Fl κ st st''/\((y.1=Af/\LI lt a b y.2.1 y.2.2.1 y.2.2.2.1/\out.size+1<=y.2.1.size)\/∃ r,y.1=Ab r/\SPk lt (a.toList++b.toList) r.toList)) (BC (λj y st''=>Fl κ st st''/\y.1=Af/\LI lt a b y.2.1 y.2.2.1 y.2.2.2.1/\out.size+j<=y.2.1.size) (λj y st'' _ hj hJ=>?_) (λy st'' hJ=>?_) ⟨ss,rfl,li,Aw _⟩) λy st'' hP=>?_)
  .obtain⟨ss1,hy,l1,hs1⟩:=hJ;obtain⟨y1,o,ja,jb,ac,bc⟩:=y;have l1:LI lt a b o ja jb:=l1;have hs1:out.size+j<=o.size:=hs1;have la:=l1.la;have lb:=l1.lb;have lja:ja<a.size:=by omega
   try extract_lets
   refine Au (Dy lb ?_);refine Au (Dy lja ?_);refine Au (C _ _ _ _ _ ss1.1 (vB lb) (vA (by omega)) ?_)
   show Bl M A E s (if lt (ka0 b jb) (ka0 a ja)=Aa then _ else _) _ _
   by_cases e:lt (ka0 b jb) (ka0 a ja)=Aa
   .rw[Aq e];refine Au (Dy lb ?_);have m:=l1.pushB O P (O.asymm (vB lb) (vA (by omega)) e)
    try extract_lets
    show Bl M A E s (if (jb+1==b.size)=Aa then _ else _) _ _
    by_cases hb:(jb+1==b.size)=Aa
    .rw[Aq hb];have e1:jb+1=b.size:=by simpa using hb
     refine AA ⟨ss1,.inr ⟨_,rfl,?_⟩⟩;show SPk lt _ (o.push (ka0 b jb)++a.extract ja a.size++b.extract (jb+1) b.size).toList;rw[e1]at m ⊢;exact Kx m
    .rw[Ar hb];have e1:¬ jb+1=b.size:=by simpa using hb
     have li':LI lt a b (o.push (ka0 b jb)) ja (jb+1):=⟨la,by omega,m,by rw[BE,l1.sz];omega⟩
     have sz':(o.push (ka0 b jb)).size=o.size+1:=BE ..;refine Gs ?_ ?_
     .exact AA ⟨ss1,.inl ⟨rfl,li',by show out.size+1<=(o.push (ka0 b jb)).size;omega⟩⟩
     .exact AA ⟨ss1,rfl,li',by show out.size+(j+1)<=(o.push (ka0 b jb)).size;omega⟩
   .rw[Ar e];refine Au (Dy lja ?_);have m:=l1.pushA O P (show lt (ka0 b jb) (ka0 a ja)=Ad by simpa using e)
    try extract_lets
    show Bl M A E s (if (ja+1+1==a.size)=Aa then _ else _) _ _
    by_cases hb:(ja+1+1==a.size)=Aa
    .rw[Aq hb];have e1:ja+1+1=a.size:=by simpa using hb
     exact AA ⟨ss1,.inr ⟨_,rfl,JD O P e1 m⟩⟩
    .rw[Ar hb];have e1:¬ ja+1+1=a.size:=by simpa using hb
     have li':LI lt a b (o.push (ka0 a ja)) (ja+1) jb:=⟨by omega,lb,m,by rw[BE,l1.sz];omega⟩
     have sz':(o.push (ka0 a ja)).size=o.size+1:=BE ..;refine Gs ?_ ?_
     .exact AA ⟨ss1,.inl ⟨rfl,li',by show out.size+1<=(o.push (ka0 a ja)).size;omega⟩⟩
     .exact AA ⟨ss1,rfl,li',by show out.size+(j+1)<=(o.push (ka0 a ja)).size;omega⟩
  .obtain⟨ss1,hy,l1,hs1⟩:=hJ;rw[DN]at hs1;exact⟨ss1,.inl ⟨hy,l1,by omega⟩⟩
  .obtain⟨ss1,hP⟩:=hP;obtain⟨y1,o,ja,jb,ac,bc⟩:=y;rcases hP with ⟨hy,l1,hs1⟩|⟨r,hy,sp⟩
   .have hy:y1=Af:=hy;have l1:LI lt a b o ja jb:=l1;have hs1:out.size+1<=o.size:=hs1;subst hy
    try extract_lets
    refine Au (Kq ?_)
    extract_lets mg1
    refine Au (CA (Q:=λy st3=>Fl κ st st3/\((y.1=Af/\LI lt a b y.2.1 y.2.2.1 y.2.2.2.1/\out.size+1<=y.2.1.size)\/∃ r,y.1=Ab r/\SPk lt (a.toList++b.toList) r.toList)) (BC (λj y st3=>Fl κ st st3/\y.1=Af/\LI lt a b y.2.1 y.2.2.1 y.2.2.2.1/\out.size+1<=y.2.1.size) (λj y st3 _ hj hJ=>?_) (λy st3 hJ=>⟨hJ.1,.inl hJ.2⟩) ⟨ss1,rfl,l1,hs1⟩) λy st3 hP=>?_)
    .obtain⟨ss2,hy,l2,hs2⟩:=hJ;obtain⟨y1,o,ja,jb,mg2,ac,bc⟩:=y;have l2:LI lt a b o ja jb:=l2;have hs2:out.size+1<=o.size:=hs2;have la:=l2.la;have lb:=l2.lb;have lja:ja<a.size:=by omega
     try extract_lets
     refine Sa λmg3=>?_
     refine Au (D7 ?_);refine Au (Dy lb ?_);refine Au (JF C ss2.1 (vB lb) (show ja+(a.size-ja)<=a.size by omega) (λi hi=>vA (by omega)) (show 0<a.size-ja by omega) (λi k h1 h2 h3=>SN O P.va P.sa (vB lb) i k h1 (by omega) h3) λk hk=>?_)
     obtain⟨k1,k2,k3⟩:=Pq hk;have k1:k<=a.size-ja:=k1;have k2:∀ i,i<k->leK lt (ka0 a (ja+i)) (ka0 b jb):=k2;have k3:∀ i,k<=i->i<a.size-ja->lt (ka0 b jb) (ka0 a (ja+i))=Aa:=k3;have m1:=l2.mi.chA O P (k:=k) lb λi hi _=>k2 i hi
     try extract_lets
     show Bl M A E s (if k>0 then _ else _) _ _
     by_cases hk0:k>0
     .rw[Aq hk0];have z1:=OM o a (show ja+k<=a.size by omega)
      try extract_lets
      show Bl M A E s (if (ja+k+1==a.size)=Aa then _ else if (ja+k==a.size)=Aa then _ else _) _ _
      by_cases c1:(ja+k+1==a.size)=Aa
      .rw[Aq c1];exact AA ⟨ss2,.inr ⟨_,rfl,JD O P (by simpa using c1) m1⟩⟩
      rw[Ar c1];by_cases c2:(ja+k==a.size)=Aa
      .rw[Aq c2];have e2:ja+k=a.size:=by simpa using c2
       refine AA ⟨ss2,.inr ⟨_,rfl,?_⟩⟩;show SPk lt _ (o++a.extract ja (ja+k)++a.extract (ja+k) a.size++b.extract jb b.size).toList;rw[e2]at m1 ⊢;exact Zg m1
      rw[Ar c2];have c1:¬ ja+k+1=a.size:=by simpa using c1
      have c2:¬ ja+k=a.size:=by simpa using c2
      have lt2:=k3 k (Aw _) (by omega)
      have sz2:=l2.sz;refine Au (Dy lb ?_);have m2:=MI.pB O P m1 (by omega) lb (O.asymm (vB lb) (vA (by omega)) lt2)
      have z2:((o++a.extract ja (ja+k)).push (ka0 b jb)).size=(o++a.extract ja (ja+k)).size+1:=BE ..
      try extract_lets
      show Bl M A E s (if (jb+1==b.size)=Aa then _ else _) _ _
      by_cases c3:(jb+1==b.size)=Aa
      .rw[Aq c3];have e3:jb+1=b.size:=by simpa using c3
       refine AA ⟨ss2,.inr ⟨_,rfl,?_⟩⟩;show SPk lt _ (((o++a.extract ja (ja+k)).push (ka0 b jb))++a.extract (ja+k) a.size++b.extract (jb+1) b.size).toList;rw[e3]at m2 ⊢;exact Kx m2
      rw[Ar c3];have c3:¬ jb+1=b.size:=by simpa using c3
      have lb2:jb+1<b.size:=by omega
      have lj2:ja+k<a.size:=by omega
      refine Au (Dy lj2 ?_);refine Au (JF C ss2.1 (vA lj2) (show jb+1+(b.size-(jb+1))<=b.size by omega) (λi hi=>vB (by omega)) (show 0<b.size-(jb+1) by omega) (λi k h1 h2 h3=>OP O P.vb P.sb (vA lj2) i k h1 (by omega) h3) λkk hkk=>?_)
      obtain⟨q1,q2,q3⟩:=MS hkk;have q1:kk<=b.size-(jb+1):=q1;have q2:∀ i,i<kk->lt (ka0 b (jb+1+i)) (ka0 a (ja+k))=Aa:=q2;have q3:∀ i,kk<=i->i<b.size-(jb+1)->leK lt (ka0 a (ja+k)) (ka0 b (jb+1+i)):=q3
      try extract_lets
      show Bl M A E s (if kk>0 then _ else _) _ _
      by_cases hk1:kk>0
      .rw[Aq hk1];have m3:=MI.chB O P (k:=kk) m2 lj2 λi hi h'=>O.asymm (vB h') (vA lj2) (q2 i hi)
       have z3:=OM ((o++a.extract ja (ja+k)).push (ka0 b jb)) b (show jb+1+kk<=b.size by omega)
       try extract_lets
       show Bl M A E s (if (jb+1+kk==b.size)=Aa then _ else _) _ _
       by_cases c4:(jb+1+kk==b.size)=Aa
       .rw[Aq c4];have e4:jb+1+kk=b.size:=by simpa using c4
        refine AA ⟨ss2,.inr ⟨_,rfl,?_⟩⟩;show SPk lt _ (((o++a.extract ja (ja+k)).push (ka0 b jb))++b.extract (jb+1) (jb+1+kk)++a.extract (ja+k) a.size++b.extract (jb+1+kk) b.size).toList;rw[e4]at m3 ⊢;exact Kx m3
       rw[Ar c4];have c4:¬ jb+1+kk=b.size:=by simpa using c4
       have lb3:jb+1+kk<b.size:=by omega
       have lt3:=q3 kk (Aw _) (by omega)
       refine Au (Dy (show ja+k<a.size by omega) ?_)
       have m4:=MI.pA O P m3 (by omega) lb3 lt3
       have z4:((((o++a.extract ja (ja+k)).push (ka0 b jb))++b.extract (jb+1) (jb+1+kk)).push (ka0 a (ja+k))).size=(((o++a.extract ja (ja+k)).push (ka0 b jb))++b.extract (jb+1) (jb+1+kk)).size+1:=BE ..
       try extract_lets
       show Bl M A E s (if (ja+k+1+1==a.size)=Aa then _ else _) _ _
       by_cases d1:(ja+k+1+1==a.size)=Aa
       .rw[Aq d1];exact AA ⟨ss2,.inr ⟨_,rfl,JD O P (by simpa using d1) m4⟩⟩
       .rw[Ar d1];have d1:¬ ja+k+1+1=a.size:=by simpa using d1
        have l4:LI lt a b ((((o++a.extract ja (ja+k)).push (ka0 b jb))++b.extract (jb+1) (jb+1+kk)).push (ka0 a (ja+k))) (ja+k+1) (jb+1+kk):=⟨by omega,lb3,m4,by omega⟩
        have h4:out.size+1<=((((o++a.extract ja (ja+k)).push (ka0 b jb))++b.extract (jb+1) (jb+1+kk)).push (ka0 a (ja+k))).size:=by omega
        refine Gs ?_ ?_
        .exact AA ⟨ss2,.inl ⟨rfl,l4,h4⟩⟩
        .exact AA ⟨ss2,rfl,l4,h4⟩
      .rw[Ar hk1];have hk1:kk=0:=by omega
       subst hk1;have m3:=m2;have lb3:=lb2;have lt3:=q3 0 (Aw _) (by omega)
       refine Au (Dy (show ja+k<a.size by omega) ?_)
       have m4:=MI.pA O P m3 (by omega) lb3 lt3
       have z4:(((o++a.extract ja (ja+k)).push (ka0 b jb)).push (ka0 a (ja+k))).size=((o++a.extract ja (ja+k)).push (ka0 b jb)).size+1:=BE ..
       try extract_lets
       show Bl M A E s (if (ja+k+1+1==a.size)=Aa then _ else _) _ _
       by_cases d1:(ja+k+1+1==a.size)=Aa
       .rw[Aq d1];exact AA ⟨ss2,.inr ⟨_,rfl,JD O P (by simpa using d1) m4⟩⟩
       .rw[Ar d1];have d1:¬ ja+k+1+1=a.size:=by simpa using d1
        have l4:LI lt a b (((o++a.extract ja (ja+k)).push (ka0 b jb)).push (ka0 a (ja+k))) (ja+k+1) (jb+1):=⟨by omega,lb3,m4,by omega⟩
        have h4:out.size+1<=(((o++a.extract ja (ja+k)).push (ka0 b jb)).push (ka0 a (ja+k))).size:=by omega
        refine Gs ?_ ?_
        .exact AA ⟨ss2,.inl ⟨rfl,l4,h4⟩⟩
        .exact AA ⟨ss2,rfl,l4,h4⟩
     .rw[Ar hk0];have hk0:k=0:=by omega
      subst hk0;have m1:=l2.mi;have lt2:=k3 0 (Aw _) (by omega)
      have sz2:=l2.sz;refine Au (Dy lb ?_);have m2:=MI.pB O P m1 (by omega) lb (O.asymm (vB lb) (vA (by omega)) lt2)
      have z2:(o.push (ka0 b jb)).size=o.size+1:=BE ..
      try extract_lets
      show Bl M A E s (if (jb+1==b.size)=Aa then _ else _) _ _
      by_cases c3:(jb+1==b.size)=Aa
      .rw[Aq c3];have e3:jb+1=b.size:=by simpa using c3
       refine AA ⟨ss2,.inr ⟨_,rfl,?_⟩⟩;show SPk lt _ ((o.push (ka0 b jb))++a.extract (ja) a.size++b.extract (jb+1) b.size).toList;rw[e3]at m2 ⊢;exact Kx m2
      rw[Ar c3];have c3:¬ jb+1=b.size:=by simpa using c3
      have lb2:jb+1<b.size:=by omega
      have lj2:ja<a.size:=by omega
      refine Au (Dy lj2 ?_);refine Au (JF C ss2.1 (vA lj2) (show jb+1+(b.size-(jb+1))<=b.size by omega) (λi hi=>vB (by omega)) (show 0<b.size-(jb+1) by omega) (λi k h1 h2 h3=>OP O P.vb P.sb (vA lj2) i k h1 (by omega) h3) λkk hkk=>?_)
      obtain⟨q1,q2,q3⟩:=MS hkk;have q1:kk<=b.size-(jb+1):=q1;have q2:∀ i,i<kk->lt (ka0 b (jb+1+i)) (ka0 a (ja))=Aa:=q2;have q3:∀ i,kk<=i->i<b.size-(jb+1)->leK lt (ka0 a (ja)) (ka0 b (jb+1+i)):=q3
      try extract_lets
      show Bl M A E s (if kk>0 then _ else _) _ _
      by_cases hk1:kk>0
      .rw[Aq hk1];have m3:=MI.chB O P (k:=kk) m2 lj2 λi hi h'=>O.asymm (vB h') (vA lj2) (q2 i hi)
       have z3:=OM (o.push (ka0 b jb)) b (show jb+1+kk<=b.size by omega)
       try extract_lets
       show Bl M A E s (if (jb+1+kk==b.size)=Aa then _ else _) _ _
       by_cases c4:(jb+1+kk==b.size)=Aa
       .rw[Aq c4];have e4:jb+1+kk=b.size:=by simpa using c4
        refine AA ⟨ss2,.inr ⟨_,rfl,?_⟩⟩;show SPk lt _ ((o.push (ka0 b jb))++b.extract (jb+1) (jb+1+kk)++a.extract (ja) a.size++b.extract (jb+1+kk) b.size).toList;rw[e4]at m3 ⊢;exact Kx m3
       rw[Ar c4];have c4:¬ jb+1+kk=b.size:=by simpa using c4
       have lb3:jb+1+kk<b.size:=by omega
       have lt3:=q3 kk (Aw _) (by omega)
       refine Au (Dy (show ja<a.size by omega) ?_)
       have m4:=MI.pA O P m3 (by omega) lb3 lt3
       have z4:(((o.push (ka0 b jb))++b.extract (jb+1) (jb+1+kk)).push (ka0 a (ja))).size=((o.push (ka0 b jb))++b.extract (jb+1) (jb+1+kk)).size+1:=BE ..
       try extract_lets
       show Bl M A E s (if (ja+1+1==a.size)=Aa then _ else _) _ _
       by_cases d1:(ja+1+1==a.size)=Aa
       .rw[Aq d1];exact AA ⟨ss2,.inr ⟨_,rfl,JD O P (by simpa using d1) m4⟩⟩
       .rw[Ar d1];have d1:¬ ja+1+1=a.size:=by simpa using d1
        have l4:LI lt a b (((o.push (ka0 b jb))++b.extract (jb+1) (jb+1+kk)).push (ka0 a (ja))) (ja+1) (jb+1+kk):=⟨by omega,lb3,m4,by omega⟩
        have h4:out.size+1<=(((o.push (ka0 b jb))++b.extract (jb+1) (jb+1+kk)).push (ka0 a (ja))).size:=by omega
        refine Gs ?_ ?_
        .exact AA ⟨ss2,.inl ⟨rfl,l4,h4⟩⟩
        .exact AA ⟨ss2,rfl,l4,h4⟩
      .rw[Ar hk1];have hk1:kk=0:=by omega
       subst hk1;have m3:=m2;have lb3:=lb2;have lt3:=q3 0 (Aw _) (by omega)
       refine Au (Dy (show ja<a.size by omega) ?_)
       have m4:=MI.pA O P m3 (by omega) lb3 lt3
       have z4:((o.push (ka0 b jb)).push (ka0 a (ja))).size=(o.push (ka0 b jb)).size+1:=BE ..
       try extract_lets
       show Bl M A E s (if (ja+1+1==a.size)=Aa then _ else _) _ _
       by_cases d1:(ja+1+1==a.size)=Aa
       .rw[Aq d1];exact AA ⟨ss2,.inr ⟨_,rfl,JD O P (by simpa using d1) m4⟩⟩
       .rw[Ar d1];have d1:¬ ja+1+1=a.size:=by simpa using d1
        have l4:LI lt a b ((o.push (ka0 b jb)).push (ka0 a (ja))) (ja+1) (jb+1):=⟨by omega,lb3,m4,by omega⟩
        have h4:out.size+1<=((o.push (ka0 b jb)).push (ka0 a (ja))).size:=by omega
        refine Gs ?_ ?_
        .exact AA ⟨ss2,.inl ⟨rfl,l4,h4⟩⟩
        .exact AA ⟨ss2,rfl,l4,h4⟩
    .obtain⟨ss2,hP⟩:=hP;obtain⟨y1,o,ja,jb,mg2,ac,bc⟩:=y;rcases hP with ⟨hy,l2,hs2⟩|⟨r,hy,sp⟩
     .have hy:y1=Af:=hy;subst hy;refine Au (D7 ?_);exact AA ⟨ss2,rfl,l2,by have:out.size+1<=o.size:=hs2;show i+1+1<=o.size;omega⟩
     .have hy:y1=Ab r:=hy;subst hy;exact AA ⟨ss2,r,rfl,sp⟩
   .have hy:y1=Ab r:=hy;subst hy;exact AA ⟨ss1,r,rfl,sp⟩
 .obtain⟨_,_,h,h3⟩:=hI
  exfalso
  have:=h.sz;have:=h.la;have:=h.lb;rw[DN]at h3;omega
 .obtain⟨ss,r,e,sp⟩:=hP;obtain⟨x1,x2⟩:=x;have e:x1=Ab r:=e;subst e;exact AA (q _ _ sp ss)
end
section
variable{M:Eo}{A:AT}{E:Vq}{s:Ap}{κ:Eh}{V:At->Prop}{lt:At->At->Ai}
theorem TQ{f:Il->Ae->Ax At->DZ AU Dq α}{H:Ae->Ax At->Prop}{m:DZ AU Dq α}{Q:α->AU->Prop}(J:∀ n o,H n o->Bl M A E s (f ⟨⟩ n o) Q st)(main:(∀ n o,H n o->Bl M A E s (f ⟨⟩ n o) Q st)->Bl M A E s m Q st):Bl M A E s m Q st:=main J
noncomputable def flp(lt:At->At->Ai)(x y:At):Ai:=lt y x
theorem OrdK.flp(O:OrdK V lt):OrdK V (flp lt):=⟨λhx hy h=>O.asymm hy hx h,λhx hy hz h1 h2=>O.trans hz hy hx h2 h1⟩
def MH(lt:At->At->Ai)(T out A B:Ac At):Prop:=MI (flp lt) T out A.reverse B.reverse
theorem SPk.rev{T r:Ac At}(h:SPk (flp lt) T r):SPk lt T r.reverse:=⟨(G6 r).trans h.1,F9.mpr h.2⟩
theorem Jc(h:i<a.size):(a.toList.take (i+1)).reverse=ka0 a i::(a.toList.take i).reverse:=by
 have e:ka0 a i=a[i]:=by simp[ka0,DI,h]
 rw[e,<-CK,Vu (by rw[AF];exact h),DA]
 rfl
theorem KG(a:Ax At)(k:Ae):(a.extract 0 k).toList=a.toList.take k:=by
 rw[CM,Ca,Ec];rfl
theorem Si(a:Ax At)(h:j<=n):(a.toList.take n).reverse=((a.extract j n).reverse).toList++(a.toList.take j).reverse:=by
 rw[D4,CM,Ca,<-DA]
 congr 1
 conv=>lhs;rw[show n=j+(n-j) by omega,List.take_add]
theorem R8(hn:n<=a.size)(h:x∈(a.extract j n).reverse.toList):∃ i,j<=i/\i<n/\x=ka0 a i:=by
 rw[D4,List.mem_reverse,CM,Ca]at h;obtain⟨i,h1,h2,rfl⟩:=Mj h;exact⟨j+i,by omega,by omega,rfl⟩
structure HI (lt:At->At->Ai) (a b:Ax At) (out:Ax At) (na nb:Ae):Prop where
 la:0<na
 la':na<=a.size
 lb:1<nb
 lb':nb<=b.size
 mi:MH lt (a.toList++b.toList) out.toList (a.toList.take na) (b.toList.take nb)
 sz:out.size+na+nb=a.size+b.size
variable{a b out:Ax At}
theorem MH.pA(O:OrdK V lt)(P:Pre V lt a b)(m:MH lt (a.toList++b.toList) out.toList (a.toList.take (n+1)) (b.toList.take (k+1)))(ha:n<a.size)(hb:k<b.size)(hc:leK lt (ka0 b k) (ka0 a n)):MH lt (a.toList++b.toList) (out.push (ka0 a n)).toList (a.toList.take n) (b.toList.take (k+1)):=by
 unfold MH at m ⊢;have e:=Jc hb;rw[Jc ha]at m;rw[Du];rw[e]at m ⊢;exact m.mvA (A1:=[ka0 a n]) O.flp P.v (λy hy=>by rw[Bk.mp hy];exact hc)
theorem MH.pB(O:OrdK V lt)(P:Pre V lt a b)(m:MH lt (a.toList++b.toList) out.toList (a.toList.take (n+1)) (b.toList.take (k+1)))(ha:n<a.size)(hb:k<b.size)(hc:leK lt (ka0 a n) (ka0 b k)):MH lt (a.toList++b.toList) (out.push (ka0 b k)).toList (a.toList.take (n+1)) (b.toList.take k):=by
 unfold MH at m ⊢;have e:=Jc ha;rw[Jc hb]at m;rw[Du];rw[e]at m ⊢;exact m.mvB (B1:=[ka0 b k]) O.flp P.v (λy hy=>by rw[Bk.mp hy];exact hc)
theorem MH.chA(O:OrdK V lt)(P:Pre V lt a b)(m:MH lt (a.toList++b.toList) out.toList (a.toList.take n) (b.toList.take (k+1)))(hj:j<=n)(hn:n<=a.size)(hb:k<b.size)(hc:∀ i,j<=i->i<n->leK lt (ka0 b k) (ka0 a i)):MH lt (a.toList++b.toList) (out++(a.extract j n).reverse).toList (a.toList.take j) (b.toList.take (k+1)):=by
 unfold MH at m ⊢;rw[A9];rw[Si a hj]at m;rw[Jc hb]at m ⊢;refine m.mvA O.flp P.v λx hx=>?_
 obtain⟨i,h1,h2,rfl⟩:=R8 hn hx;exact hc i h1 h2
theorem MH.chB(O:OrdK V lt)(P:Pre V lt a b)(m:MH lt (a.toList++b.toList) out.toList (a.toList.take (k+1)) (b.toList.take n))(hj:j<=n)(hn:n<=b.size)(ha:k<a.size)(hc:∀ i,j<=i->i<n->leK lt (ka0 a k) (ka0 b i)):MH lt (a.toList++b.toList) (out++(b.extract j n).reverse).toList (a.toList.take (k+1)) (b.toList.take j):=by
 unfold MH at m ⊢;rw[A9];rw[Si b hj]at m;rw[Jc ha]at m ⊢;refine m.mvB O.flp P.v λx hx=>?_
 obtain⟨i,h1,h2,rfl⟩:=R8 hn hx;exact hc i h1 h2
theorem MB(m:MH lt (a.toList++b.toList) out.toList (a.toList.take 0) (b.toList.take n)):SPk lt (a.toList++b.toList) (a.extract 0 0++b.extract 0 n++out.reverse).toList:=by
 rw[A9,A9,KG,KG,D4];unfold MH at m;rw[Ic]at m ⊢;have:=(m.endA).rev
 rwa [DA,EU]at this
theorem lA(m:MH lt (a.toList++b.toList) out.toList (a.toList.take n) (b.toList.take 0)):SPk lt (a.toList++b.toList) (a.extract 0 n++b.extract 0 0++out.reverse).toList:=by
 rw[A9,A9,KG,KG,D4];unfold MH at m;rw[Ic]at m ⊢;have:=(m.endB).rev;rw[DA,EU]at this
 rwa [Bo]
theorem MC(O:OrdK V lt)(P:Pre V lt a b)(m:MH lt (a.toList++b.toList) out.toList (a.toList.take n) (b.toList.take 1)):SPk lt (a.toList++b.toList) (b.extract 0 1++a.extract 0 n++out.reverse).toList:=by
 rw[A9,A9,KG,KG,D4];unfold MH at m;have e:=Jc P.pb;rw[Ic]at e;rw[e]at m;have e':b.toList.take 1=[ka0 b 0]:=by
  have:=congrArg List.reverse e;rw[EU]at this;exact this
 have:=(m.swap.end1 O.flp P.v λy hy=>P.fst y (Vo (Vp.mp hy))).rev
 rw[DA,DA,EU]at this;rw[e',Cc];exact this
theorem szr(o a:Ax At)(h:j<=n)(hn:n<=a.size):(o++(a.extract j n).reverse).size=o.size+(n-j):=by
 rw[FB,Array.size_reverse,EB];omega
theorem Yb(C:Hw M A s κ V lt)(O:OrdK V lt)(P:Pre V lt a b){Q:Ax At->AU->Prop}(hk:kindOf st=κ)(q:∀ r st',SPk lt (a.toList++b.toList) r.toList->Fl κ st st'->Q r st'):Bl M A E s (Zt a b) Q st:=by
 have ss0:Fl κ st st:=⟨hk,rfl,rfl,rfl⟩;have vA:∀ {i},i<a.size->V (ka0 a i):=λh=>P.va _ (HQ h)
 have vB:∀ {i},i<b.size->V (ka0 b i):=λh=>P.vb _ (HQ h)
 have hpa:=P.pa;have hpb:=P.pb;have la0:a.size-1<a.size:=by omega
 have m0:MH lt (a.toList++b.toList) (#[ka0 a (a.size-1)]:Ax At).toList (a.toList.take (a.size-1)) (b.toList.take b.size):=by
  have e:=Jc la0;rw[show a.size-1+1=a.size by omega,FO (by rw[AF];exact Aw _)]at e
  have e2:b.toList.take b.size=b.toList:=FO (by rw[AF];exact Aw _)
  unfold MH;rw[e2];have sr:a.toList.reverse.Pairwise (leK (flp lt)):=F9.mpr P.sa;have sb:b.toList.reverse.Pairwise (leK (flp lt)):=F9.mpr P.sb;rw[e]at sr;refine⟨?_,sr,DM.mpr ⟨λx hx=>P.lst x (Vp.mp hx),sb⟩⟩
  show (ka0 a (a.size-1)::(List.take (a.size-1) a.toList).reverse++b.toList.reverse).Perm _;rw[<-e];exact Hf (G6 _) (G6 _)
 refine Au (Kq ?_)
 extract_lets tot dn fb na0 nb0 ac0
 refine Au (Dy la0 ?_)
 extract_lets out0
 by_cases h1:(na0==0)=Aa
 .rw[Aq h1];have e1:a.size-1=0:=by simpa [na0] using h1
  refine AA (q _ _ ?_ ss0);show SPk lt _ (a.extract 0 (a.size-1)++b.extract 0 b.size++(#[ka0 a (a.size-1)]:Ax At).reverse).toList;rw[e1]at m0 ⊢;exact MB m0
 rw[Ar h1];by_cases h2:(nb0==1)=Aa
 .rw[Aq h2];have e2:b.size=1:=by simpa [nb0] using h2
  refine AA (q _ _ ?_ ss0);show SPk lt _ (b.extract 0 b.size++a.extract 0 (a.size-1)++(#[ka0 a (a.size-1)]:Ax At).reverse).toList;rw[e2]at m0 ⊢;exact MC O P m0
 rw[Ar h2];have n1:¬ a.size-1=0:=by simpa [na0] using h1
 have n2:¬ b.size=1:=by simpa [nb0] using h2
 have hi0:HI lt a b #[ka0 a (a.size-1)] (a.size-1) b.size:=⟨by omega,by omega,by omega,Aw _,m0,by show 1+(a.size-1)+b.size=_;omega⟩
 refine Au (Fp ?_)
 extract_lets mg0
 refine Au (CA (Q:=λx st'=>Fl κ st st'/\∃ r,x.1=Ab r/\SPk lt (a.toList++b.toList) r.toList) (BC (λi x st'=>Fl κ st st'/\x.1=Af/\HI lt a b x.2.2.2.1 x.2.1 x.2.2.1/\i+1<=x.2.2.2.1.size) (λi x st' _ hi hI=>?_) (λx st' hI=>?_) ⟨ss0,rfl,hi0,Aw _⟩) λx st' hP=>?_)
 .obtain⟨ss,hx,li,hsz⟩:=hI;obtain⟨x1,na,nb,out,mg⟩:=x;have li:HI lt a b out na nb:=li;have hsz:i+1<=out.size:=hsz;have ht:0<a.size+b.size:=by omega
  try extract_lets
  refine Au (CA (Q:=λy st''=>Fl κ st st''/\((y.1=Af/\HI lt a b y.2.2.2.1 y.2.1 y.2.2.1/\out.size+1<=y.2.2.2.1.size)\/∃ r,y.1=Ab r/\SPk lt (a.toList++b.toList) r.toList)) (BC (λj y st''=>Fl κ st st''/\y.1=Af/\HI lt a b y.2.2.2.1 y.2.1 y.2.2.1/\out.size+j<=y.2.2.2.1.size) (λj y st'' _ hj hJ=>?_) (λy st'' hJ=>?_) ⟨ss,rfl,li,Aw _⟩) λy st'' hP=>?_)
  .obtain⟨ss1,hy,l1,hs1⟩:=hJ;obtain⟨y1,ja,jb,o,ac,bc⟩:=y;have l1:HI lt a b o ja jb:=l1;have hs1:out.size+j<=o.size:=hs1;have la:=l1.la;have lb:=l1.lb;obtain⟨n,rfl⟩:∃ n,ja=n+1:=⟨ja-1,by omega⟩
   obtain⟨k,rfl⟩:∃ k,jb=k+1:=⟨jb-1,by omega⟩
   have ln:n<a.size:=l1.la';have lk:k<b.size:=l1.lb';have l1s:=l1.sz
   try extract_lets
   refine Au (Dy lk ?_);refine Au (Dy ln ?_);refine Au (C _ _ _ _ _ ss1.1 (vB lk) (vA ln) ?_);show Bl M A E s (if lt (ka0 b k) (ka0 a n)=Aa then _ else _) _ _
   by_cases e:lt (ka0 b k) (ka0 a n)=Aa
   .rw[Aq e];refine Au (Dy ln ?_);have m:=l1.mi.pA O P ln lk (O.asymm (vB lk) (vA ln) e);have sz':(o.push (ka0 a n)).size=o.size+1:=BE ..
    try extract_lets
    show Bl M A E s (if (n==0)=Aa then _ else _) _ _
    by_cases hb:(n==0)=Aa
    .rw[Aq hb];have e1:n=0:=by simpa using hb
     refine AA ⟨ss1,.inr ⟨_,rfl,?_⟩⟩;show SPk lt _ (a.extract 0 n++b.extract 0 (k+1)++(o.push (ka0 a n)).reverse).toList;generalize o.push (ka0 a n)=o' at m ⊢;rw[e1]at m ⊢;exact MB m
    .rw[Ar hb];have e1:¬ n=0:=by simpa using hb
     have li':HI lt a b (o.push (ka0 a n)) n (k+1):=⟨by omega,by omega,lb,lk,m,by omega⟩
     refine Gs ?_ ?_
     .exact AA ⟨ss1,.inl ⟨rfl,li',by show out.size+1<=(o.push (ka0 a n)).size;omega⟩⟩
     .exact AA ⟨ss1,rfl,li',by show out.size+(j+1)<=(o.push (ka0 a n)).size;omega⟩
   .rw[Ar e];refine Au (Dy lk ?_);have m:=l1.mi.pB O P ln lk (show lt (ka0 b k) (ka0 a n)=Ad by simpa using e)
    have sz':(o.push (ka0 b k)).size=o.size+1:=BE ..
    try extract_lets
    show Bl M A E s (if (k==1)=Aa then _ else _) _ _
    by_cases hb:(k==1)=Aa
    .rw[Aq hb];have e1:k=1:=by simpa using hb
     refine AA ⟨ss1,.inr ⟨_,rfl,?_⟩⟩;show SPk lt _ (b.extract 0 k++a.extract 0 (n+1)++(o.push (ka0 b k)).reverse).toList;generalize o.push (ka0 b k)=o' at m ⊢;rw[e1]at m ⊢;exact MC O P m
    .rw[Ar hb];have e1:¬ k=1:=by simpa using hb
     have li':HI lt a b (o.push (ka0 b k)) (n+1) k:=⟨by omega,by omega,by omega,by omega,m,by omega⟩
     refine Gs ?_ ?_
     .exact AA ⟨ss1,.inl ⟨rfl,li',by show out.size+1<=(o.push (ka0 b k)).size;omega⟩⟩
     .exact AA ⟨ss1,rfl,li',by show out.size+(j+1)<=(o.push (ka0 b k)).size;omega⟩
  .obtain⟨ss1,hy,l1,hs1⟩:=hJ;rw[DN]at hs1;exact⟨ss1,.inl ⟨hy,l1,by have:out.size+(a.size+b.size)<=_:=hs1;omega⟩⟩
  .obtain⟨ss1,hP⟩:=hP;obtain⟨y1,ja,jb,o,ac,bc⟩:=y;rcases hP with ⟨hy,l1,hs1⟩|⟨r,hy,sp⟩
   .have hy:y1=Af:=hy;have l1:HI lt a b o ja jb:=l1;have hs1:out.size+1<=o.size:=hs1;subst hy
    try extract_lets
    refine Au (Kq ?_)
    extract_lets mg1
    refine Au (CA (Q:=λy st3=>Fl κ st st3/\((y.1=Af/\HI lt a b y.2.2.2.1 y.2.1 y.2.2.1/\out.size+1<=y.2.2.2.1.size)\/∃ r,y.1=Ab r/\SPk lt (a.toList++b.toList) r.toList)) (BC (λj y st3=>Fl κ st st3/\y.1=Af/\HI lt a b y.2.2.2.1 y.2.1 y.2.2.1/\out.size+1<=y.2.2.2.1.size) (λj y st3 _ hj hJ=>?_) (λy st3 hJ=>⟨hJ.1,.inl hJ.2⟩) ⟨ss1,rfl,l1,hs1⟩) λy st3 hP=>?_)
    .obtain⟨ss2,hy,l2,hs2⟩:=hJ;obtain⟨y1,ja,jb,o,mg2,ac,bc⟩:=y;have l2:HI lt a b o ja jb:=l2;have hs2:out.size+1<=o.size:=hs2;have la:=l2.la;have lb:=l2.lb;obtain⟨n,rfl⟩:∃ n,ja=n+1:=⟨ja-1,by omega⟩
     obtain⟨k,rfl⟩:∃ k,jb=k+1:=⟨jb-1,by omega⟩
     have ln:n<a.size:=l2.la';have lk:k<b.size:=l2.lb';have l2s:=l2.sz
     try extract_lets
     refine Sa λmg3=>?_
     refine Au (D7 ?_);refine Au (Dy lk ?_);refine Au (JF C ss2.1 (vB lk) (show 0+(n+1)<=a.size by omega) (λi hi=>vA (by have:i<n+1:=hi;omega)) (show n<n+1 by omega) (λi k h1 h2 h3=>SN O P.va P.sa (vB lk) i k h1 (by have:k<n+1:=h2;omega) h3) λc hc=>?_)
     obtain⟨k1,k2,k3⟩:=Pq hc;have k1:c<=n+1:=k1;have k2:∀ i,i<c->leK lt (ka0 a i) (ka0 b k):=λi h=>by have:=k2 i h;rwa [C3]at this
     have k3:∀ i,c<=i->i<n+1->lt (ka0 b k) (ka0 a i)=Aa:=λi h h'=>by have:=k3 i h h';rwa [C3]at this
     dsimp -zeta only
     extract_lets kk ack jp
     refine TQ (f:=jp) (H:=λna' o'=>0<na'/\na'<=n+1/\leK lt (ka0 a (na'-1)) (ka0 b k)/\MH lt (a.toList++b.toList) o'.toList (a.toList.take na') (b.toList.take (k+1))/\out.size+1<=o'.size/\o'.size+na'+(k+1)=a.size+b.size) (λna' o' hH=>?_) (λJ=>?_)
     .obtain⟨g1,g2,g3,g4,g5,g6⟩:=hH;obtain⟨n',rfl⟩:∃ n',na'=n'+1:=⟨na'-1,by omega⟩
      have g3:leK lt (ka0 a n') (ka0 b k):=g3;have ln':n'<a.size:=by omega
      refine Au (Dy lk ?_);have m2:=g4.pB O P ln' lk g3;have z2:(o'.push (ka0 b k)).size=o'.size+1:=BE ..
      try extract_lets
      show Bl M A E s (if (k==1)=Aa then _ else _) _ _
      by_cases c3:(k==1)=Aa
      .rw[Aq c3];have e3:k=1:=by simpa using c3
       refine AA ⟨ss2,.inr ⟨_,rfl,?_⟩⟩;show SPk lt _ (b.extract 0 k++a.extract 0 (n'+1)++(o'.push (ka0 b k)).reverse).toList;generalize o'.push (ka0 b k)=o3 at m2 ⊢;rw[e3]at m2 ⊢;exact MC O P m2
      rw[Ar c3];have c3:¬ k=1:=by simpa using c3
      obtain⟨k',rfl⟩:∃ k',k=k'+1:=⟨k-1,by omega⟩
      have lk':k'<b.size:=by omega
      refine Au (Dy ln' ?_);refine Au (JF C ss2.1 (vA ln') (show 0+(k'+1)<=b.size by omega) (λi hi=>vB (by have:i<k'+1:=hi;omega)) (show k'<k'+1 by omega) (λi k h1 h2 h3=>OP O P.vb P.sb (vA ln') i k h1 (by have:k<k'+1:=h2;omega) h3) λc' hc'=>?_)
      obtain⟨q1,q2,q3⟩:=MS hc';have q1:c'<=k'+1:=q1;have q2:∀ i,i<c'->lt (ka0 b i) (ka0 a n')=Aa:=λi h=>by have:=q2 i h;rwa [C3]at this
      have q3:∀ i,c'<=i->i<k'+1->leK lt (ka0 a n') (ka0 b i):=λi h h'=>by have:=q3 i h h';rwa [C3]at this
      dsimp -zeta only
      extract_lets kk' bck jp'
      refine TQ (f:=jp') (H:=λnb' o4=>1<nb'/\nb'<=k'+1/\leK lt (ka0 b (nb'-1)) (ka0 a n')/\MH lt (a.toList++b.toList) o4.toList (a.toList.take (n'+1)) (b.toList.take nb')/\out.size+1<=o4.size/\o4.size+(n'+1)+nb'=a.size+b.size) (λnb' o4 hH=>?_) (λJ=>?_)
      .obtain⟨j1,j2,j3,j4,j5,j6⟩:=hH;obtain⟨k'',rfl⟩:∃ k'',nb'=k''+1:=⟨nb'-1,by omega⟩
       have j3:leK lt (ka0 b k'') (ka0 a n'):=j3;refine Au (Dy ln' ?_);have m4:=j4.pA O P ln' (show k''<b.size by omega) j3
       have z4:(o4.push (ka0 a n')).size=o4.size+1:=BE ..
       try extract_lets
       show Bl M A E s (if (n'==0)=Aa then _ else _) _ _
       by_cases d1:(n'==0)=Aa
       .rw[Aq d1];have e1:n'=0:=by simpa using d1
        refine AA ⟨ss2,.inr ⟨_,rfl,?_⟩⟩;show SPk lt _ (a.extract 0 n'++b.extract 0 (k''+1)++(o4.push (ka0 a n')).reverse).toList;generalize o4.push (ka0 a n')=o5 at m4 ⊢;rw[e1]at m4 ⊢;exact MB m4
       .rw[Ar d1];have d1:¬ n'=0:=by simpa using d1
        have l4:HI lt a b (o4.push (ka0 a n')) n' (k''+1):=⟨by omega,by omega,by omega,by omega,m4,by omega⟩
        have h4:out.size+1<=(o4.push (ka0 a n')).size:=by omega
        refine Gs ?_ ?_
        .exact AA ⟨ss2,.inl ⟨rfl,l4,h4⟩⟩
        .exact AA ⟨ss2,rfl,l4,h4⟩
      .show Bl M A E s (if k'+1-c'>0 then _ else _) _ _
       by_cases hk1:k'+1-c'>0
       .rw[Aq hk1];have m3:=m2.chB O P q1 (show k'+1<=b.size by omega) ln' λi h1 h2=>q3 i h1 h2
        have z3:=szr (o'.push (ka0 b (k'+1))) b q1 (show k'+1<=b.size by omega)
        try extract_lets
        show Bl M A E s (if (c'==1)=Aa then _ else if (c'==0)=Aa then _ else _) _ _
        by_cases d1:(c'==1)=Aa
        .rw[Aq d1];have e1:c'=1:=by simpa using d1
         refine AA ⟨ss2,.inr ⟨_,rfl,?_⟩⟩;show SPk lt _ (b.extract 0 c'++a.extract 0 (n'+1)++((o'.push (ka0 b (k'+1)))++(b.extract c' (k'+1)).reverse).reverse).toList;generalize (o'.push (ka0 b (k'+1)))++(b.extract c' (k'+1)).reverse=o5 at m3 ⊢;rw[e1]at m3 ⊢;exact MC O P m3
        rw[Ar d1];by_cases d2:(c'==0)=Aa
        .rw[Aq d2];have e1:c'=0:=by simpa using d2
         refine AA ⟨ss2,.inr ⟨_,rfl,?_⟩⟩;show SPk lt _ (a.extract 0 (n'+1)++b.extract 0 c'++((o'.push (ka0 b (k'+1)))++(b.extract c' (k'+1)).reverse).reverse).toList;generalize (o'.push (ka0 b (k'+1)))++(b.extract c' (k'+1)).reverse=o5 at m3 ⊢;rw[e1]at m3 ⊢;exact lA m3
        rw[Ar d2];have d1:¬ c'=1:=by simpa using d1
        have d2:¬ c'=0:=by simpa using d2
        exact J c' _ ⟨by omega,q1,O.asymm (vB (by omega)) (vA ln') (q2 (c'-1) (by omega)),m3,by show out.size+1<=((o'.push (ka0 b (k'+1)))++(b.extract c' (k'+1)).reverse).size;omega,by show ((o'.push (ka0 b (k'+1)))++(b.extract c' (k'+1)).reverse).size+_+_=_;omega⟩
       .rw[Ar hk1];exact J (k'+1) (o'.push (ka0 b (k'+1))) ⟨by omega,Aw _,O.asymm (vB lk') (vA ln') (q2 k' (by omega)),m2,by omega,by omega⟩
     .show Bl M A E s (if n+1-c>0 then _ else _) _ _
      by_cases hk0:n+1-c>0
      .rw[Aq hk0];have m1:=l2.mi.chA O P k1 (show n+1<=a.size by omega) lk λi h1 h2=>O.asymm (vB lk) (vA (by omega)) (k3 i h1 h2)
       have z1:=szr o a k1 (show n+1<=a.size by omega)
       try extract_lets
       show Bl M A E s (if (c==0)=Aa then _ else _) _ _
       by_cases c1:(c==0)=Aa
       .rw[Aq c1];have e1:c=0:=by simpa using c1
        refine AA ⟨ss2,.inr ⟨_,rfl,?_⟩⟩;show SPk lt _ (a.extract 0 c++b.extract 0 (k+1)++(o++(a.extract c (n+1)).reverse).reverse).toList;generalize o++(a.extract c (n+1)).reverse=o5 at m1 ⊢;rw[e1]at m1 ⊢;exact MB m1
       rw[Ar c1];have c1:¬ c=0:=by simpa using c1
       exact J c _ ⟨by omega,k1,k2 (c-1) (by omega),m1,by show out.size+1<=(o++(a.extract c (n+1)).reverse).size;omega,by show (o++(a.extract c (n+1)).reverse).size+_+_=_;omega⟩
      .rw[Ar hk0];exact J (n+1) o ⟨by omega,Aw _,k2 n (by omega),l2.mi,hs2,l2s⟩
    .obtain⟨ss2,hP⟩:=hP;obtain⟨y1,ja,jb,o,mg2,ac,bc⟩:=y;rcases hP with ⟨hy,l2,hs2⟩|⟨r,hy,sp⟩
     .have hy:y1=Af:=hy;subst hy;refine Au (D7 ?_);exact AA ⟨ss2,rfl,l2,by have:out.size+1<=o.size:=hs2;show i+1+1<=o.size;omega⟩
     .have hy:y1=Ab r:=hy;subst hy;exact AA ⟨ss2,r,rfl,sp⟩
   .have hy:y1=Ab r:=hy;subst hy;exact AA ⟨ss1,r,rfl,sp⟩
 .obtain⟨_,_,h,h3⟩:=hI
  exfalso
  have:=h.sz;have:=h.la;have:=h.lb;rw[DN]at h3;have h3:a.size+b.size+1<=_:=h3;omega
 .obtain⟨ss,r,e,sp⟩:=hP;obtain⟨x1,x2⟩:=x;have e:x1=Ab r:=e;subst e;exact AA (q _ _ sp ss)
end
section
variable{M:Eo}{A:AT}{E:Vq}{s:Ap}{κ:Eh}{V:At->Prop}{lt:At->At->Ai}
def Srt(lt:At->At->Ai)(a:Ax At)(lo hi:Ae):Prop:=∀ i j,lo<=i->i<j->j<hi->leK lt (ka0 a i) (ka0 a j)
structure Upd (a a':Ax At) (lo hi:Ae):Prop where
 sz:a'.size=a.size
 pm:a'.toList.Perm a.toList
 out:∀ i,i<lo\/hi<=i->ka0 a' i=ka0 a i
theorem Upd.rfl':Upd a a lo hi:=⟨rfl,Ia _,λ_ _=>rfl⟩
theorem Upd.trans{a a' a'':Ax At}{lo hi:Ae}(h:Upd a a' lo hi)(h':Upd a' a'' lo hi):Upd a a'' lo hi:=⟨h'.sz.trans h.sz,h'.pm.trans h.pm,λi hi=>(h'.out i hi).trans (h.out i hi)⟩
theorem Upd.mono{lo' hi':Ae}(h:Upd a a' lo hi)(h1:lo'<=lo)(h2:hi<=hi'):Upd a a' lo' hi':=⟨h.sz,h.pm,λi hi=>h.out i (by omega)⟩
theorem Kn(a:Ax At)(i:Ae):ka0 a i=(a.toList[i]?).getD (A3,A3):=by
 unfold ka0;rw[Cy,DK]
theorem RI(p:Ae):∀(m:Ac At)(k:Ae)(a:Ax At),p+k+m.length<=a.size->((m.zipIdx k).foldl (λa x=>a.setIfInBounds (p+x.2) x.1) a).toList=a.toList.take (p+k)++m++a.toList.drop (p+k+m.length)
 |[],k,a,_=>by simp
 |x::m,k,a,h=>by
  rw[Hi,List.foldl_cons];rw[AS]at h;show ((m.zipIdx (k+1)).foldl _ (a.setIfInBounds (p+k) x)).toList=_;rw[RI p m (k+1) (a.setIfInBounds (p+k) x) (by rw[Array.size_setIfInBounds];omega),UX,AS]
  have hl:p+k<a.toList.length:=by rw[AF];omega
  rw[show p+(k+1)=p+k+1 by omega,Vu (by rw[Bb];exact hl),List.getElem_set_self,List.take_set_of_le (Aw _),List.drop_set_of_lt (by omega)]
  rw[show p+k+1+m.length=p+k+(m.length+1) by omega]
  simp
theorem Kg(hn:n<=a.size)(h:x∈(a.extract j n).toList):∃ i,j<=i/\i<n/\x=ka0 a i:=by
 rw[CM,Ca]at h;obtain⟨i,h1,h2,rfl⟩:=Mj h;exact⟨j+i,by omega,by omega,rfl⟩
theorem Sh(hn:n<=a.size)(h:Srt lt a j n):(a.extract j n).toList.Pairwise (leK lt):=by
 rw[Cv];intro i i' h1 h2 h3;rw[CK,CK,UU,UU];rw[AF,EB]at h1 h2;have:=h (j+i) (j+i') (by omega) (by omega) (by omega)
 have e1:ka0 a (j+i)=a[j+i]'(by omega):=by simp[ka0,DI,show j+i<a.size by omega]
 have e2:ka0 a (j+i')=a[j+i']'(by omega):=by simp[ka0,DI,show j+i'<a.size by omega]
 rwa [e1,e2]at this
theorem Ti(hn:n<=a.size)(h:j+i<n):ka0 (a.extract j n) i=ka0 a (j+i):=by
 rw[Kn,Kn,CM,Ca,Vf,Aq (by omega),Vc]
theorem TH(hp:p+m.length<=a.size)(h:a'.toList=a.toList.take p++m++a.toList.drop (p+m.length)):(∀ i,i<p\/p+m.length<=i->ka0 a' i=ka0 a i)/\∀ i,p<=i->i<p+m.length->ka0 a' i=(m[i-p]?).getD (A3,A3):=by
 have l1:(a.toList.take p).length=p:=by rw[C9,AF];omega
 constructor
 .intro i hi;rw[Kn,Kn,h,Cc];rcases hi with hi|hi
  .rw[Di (by rw[l1];exact hi),Vf,Aq hi]
  .rw[B0 (by rw[l1];omega),l1,B0 (by omega),Vc]
   congr 2
   omega
 .intro i h1 h2;rw[Kn,h,Cc,B0 (by rw[l1];exact h1),l1,Di (by omega)]
theorem eE(he:p+m.length=e)(hp:e<=a.size)(h:a'.toList=a.toList.take p++m++a.toList.drop (p+m.length))(pm:m.Perm (a.extract p e).toList):Upd a a' p e:=by
 subst he;refine⟨?_,?_,(TH hp h).1⟩
 .have:=congrArg Jw h;rw[AF,Be,Be,C9,Ef,AF]at this;omega
 .rw[h];rw[O6]at pm;have e1:a.toList=a.toList.take p++(a.toList.drop p).take m.length++a.toList.drop (p+m.length):=by
   rw[Cc,<-Ib,DS,DS]
  refine U_8 ?_ (Hy e1.symm);exact Hf (Hf (Ia _) pm) (Ia _)
theorem cH(h:k<m.length):(m[k]?).getD (A3,A3)∈m:=by
 rw[AE h];exact BH h
theorem kT(hm:m.Pairwise (leK lt)){k':Ae}(h:k<k')(h':k'<m.length):leK lt ((m[k]?).getD (A3,A3)) ((m[k']?).getD (A3,A3)):=by
 rw[AE h',AE (Vx h h')];exact(Cv.mp hm) k k' _ _ h
theorem gZ{f:Ax At->DZ AU Dq α}{H:Ax At->AU->Prop}{m:DZ AU Dq α}{Q:α->AU->Prop}(J:∀ o st',H o st'->Bl M A E s (f o) Q st')(main:(∀ o st',H o st'->Bl M A E s (f o) Q st')->Bl M A E s m Q st):Bl M A E s m Q st:=main J
theorem bG{x:AU}{Q:Il->AU->Prop}(h:Q ⟨⟩ x):Bl M A E s (set x:DZ AU Dq Il) Q st:=D7 (f:=λ_=>x) h
theorem iT(O:OrdK V lt)(va:∀ i,i<hi->V (ka0 a i))(sa:Srt lt a lo hi)(vk:V key)(h:i<=k)(hk:lo+k<hi)(hb:byd lt Ad key (ka0 a (lo+k))=Aa):byd lt Ad key (ka0 a (lo+i))=Aa:=by
 by_cases e:i=k
 .rw[e];exact hb
 .have l:=sa (lo+i) (lo+k) (by omega) (by omega) hk
  have hb':lt key (ka0 a (lo+k))=Ad:=by simpa [byd] using hb
  have:=O.trans (va _ (by omega)) (va _ hk) vk l hb'
  simpa [byd] using this
theorem cV(O:OrdK V lt)(va:∀ i,i<hi->V (ka0 a i))(sa:Srt lt a lo hi)(vk:V key)(h:i<=k)(hk:lo+k<hi)(hb:byd lt Aa key (ka0 a (lo+k))=Aa):byd lt Aa key (ka0 a (lo+i))=Aa:=by
 by_cases e:i=k
 .rw[e];exact hb
 .have l:=sa (lo+i) (lo+k) (by omega) (by omega) hk
  have hb':lt (ka0 a (lo+k)) key=Aa:=by simpa [byd] using hb
  show byd lt Aa key (ka0 a (lo+i))=Aa;cases q:lt (ka0 a (lo+i)) key with
  |true=>simpa [byd] using q
  |false=>
   have:=O.trans vk (va _ (show lo+i<hi by omega)) (va _ hk) q l
   rw[this]at hb';cases hb'
theorem Yc(C:Hw M A s κ V lt)(O:OrdK V lt){sa na pw sb nb pw2:Ae}(h1:(Bi st)[i]?=Ab (sa,na,pw))(h2:(Bi st)[i+1]?=Ab (sb,nb,pw2))(hc:sa+na=sb)(hn:0<na)(hm:0<nb)(hs:sb+nb<=(Av st).size)(s1:Srt lt (Av st) sa sb)(s2:Srt lt (Av st) sb (sb+nb))(hv:∀ x∈(Av st).toList,V x)(hk:kindOf st=κ)(hf:DD st=Af)(q:∀ st',kindOf st'=κ->DD st'=Af->Bi st'=((Bi st).setIfInBounds i (sa,na+nb,pw)).eraseIdxIfInBounds (i+1)->Upd (Av st) (Av st') sa (sb+nb)->Srt lt (Av st') sa (sb+nb)->Q Aa st'):Bl M A E s (Rt i) Q st:=by
 have va:∀ {i},i<(Av st).size->V (ka0 (Av st) i):=λh=>hv _ (HQ h)
 refine Au (Fp ?_);show Bl M A E s (match ((Bi st)[i]?,(Bi st)[i+1]?) with|(Ab (sa,na,power),Ab (sb,nb,snd))=>_|x=>_) _ _
 rw[h1,h2];dsimp -zeta only;refine Au (bG ?_);refine Au (Dy (show sb<(Av st).size by omega) ?_)
 refine Au (JF C hk (va (show sb<(Av st).size by omega)) (show sa+na<=(Av st).size by omega) (λi hi=>va (by omega)) hn (λi j h1 h2 h3=>iT O (λi h=>va (i:=i) (by omega)) s1 (va (show sb<(Av st).size by omega)) h1 (by omega) h3) λc hc'=>?_)
 obtain⟨k1,k2,k3⟩:=Pq hc';have bsz:sb<(Av st).size:=by omega
 dsimp -zeta only;by_cases d1:(na-c==0)=Aa
 .rw[Aq d1];have d1:na-c=0:=by simpa using d1
  refine AA (q _ hk hf rfl Upd.rfl' λi j h1 h2 h3=>?_)
  by_cases hj:j<sb
  .exact s1 i j h1 h2 hj
  .by_cases hi:sb<=i
   .exact s2 i j hi h2 h3
   .have l1:=k2 (i-sa) (by omega)
    rw[show sa+(i-sa)=i by omega]at l1
    by_cases e:j=sb
    .rw[e];exact l1
    .exact O.trans (va (by omega)) (va bsz) (va (by omega)) l1 (s2 sb j (Aw _) (by omega) h3)
 rw[Ar d1];have d1:¬ na-c=0:=by simpa using d1
 have ek:sa+c+(na-c)-1=sb-1:=by omega
 have bs1:sb-1<(Av st).size:=by omega
 refine Au (Dy (show sa+c+(na-c)-1<(Av st).size by omega) ?_)
 rw[ek];refine Au (JF C hk (va bs1) (show sb+nb<=(Av st).size by omega) (λi hi=>va (by omega)) (show nb-1<nb by omega) (λi j h1 h2 h3=>cV O (λi h=>va (i:=i) (by omega)) s2 (va bs1) h1 (by omega) h3) λc' hc2=>?_)
 obtain⟨q1,q2,q3⟩:=MS hc2;dsimp -zeta only;by_cases d2:(c'==0)=Aa
 .rw[Aq d2];have d2:c'=0:=by simpa using d2
  refine AA (q _ hk hf rfl Upd.rfl' λi j h1 h2 h3=>?_)
  by_cases hj:j<sb
  .exact s1 i j h1 h2 hj
  .by_cases hi:sb<=i
   .exact s2 i j hi h2 h3
   .have l1:=q3 (j-sb) (by omega) (by omega)
    rw[show sb+(j-sb)=j by omega]at l1
    by_cases e:i=sb-1
    .rw[e];exact l1
    .exact O.trans (va (by omega)) (va bs1) (va (by omega)) (s1 i (sb-1) h1 (by omega) (by omega)) l1
 rw[Ar d2];have d2:¬ c'=0:=by simpa using d2
 extract_lets X Y_ jp
 have K3:∀ i,sa+c<=i->i<sb->lt (ka0 (Av st) sb) (ka0 (Av st) i)=Aa:=λi h h'=>by
  have:=k3 (i-sa) (by omega) (by omega)
  rwa [show sa+(i-sa)=i by omega]at this
 have K2:∀ i,sa<=i->i<sa+c->leK lt (ka0 (Av st) i) (ka0 (Av st) sb):=λi h h'=>by
  have:=k2 (i-sa) (by omega)
  rwa [show sa+(i-sa)=i by omega]at this
 have Q2:∀ i,sb<=i->i<sb+c'->lt (ka0 (Av st) i) (ka0 (Av st) (sb-1))=Aa:=λi h h'=>by
  have:=q2 (i-sb) (by omega)
  rwa [show sb+(i-sb)=i by omega]at this
 have Q3:∀ i,sb+c'<=i->i<sb+nb->leK lt (ka0 (Av st) (sb-1)) (ka0 (Av st) i):=λi h h'=>by
  have:=q3 (i-sb) (by omega) (by omega)
  rwa [show sb+(i-sb)=i by omega]at this
 have zX:X.size=sb-(sa+c):=by show ((Av st).extract (sa+c) sb).size=_;rw[EB];omega
 have zY:Y_.size=c':=by show ((Av st).extract sb (sb+c')).size=_;rw[EB];omega
 have z1:sb<=(Av st).size:=by omega
 have z2:sb+c'<=(Av st).size:=by omega
 have P:Pre V lt X Y_:=by
  refine⟨λx hx=>?_,λx hx=>?_,Sh z1 λi j h1 h2 h3=>s1 i j (by omega) h2 h3,Sh z2 λi j h1 h2 h3=>s2 i j h1 h2 (by omega),by omega,by omega,λx hx=>?_,λy hy=>?_⟩
  .obtain⟨i,_,_,rfl⟩:=Kg z1 hx;exact va (by omega)
  .obtain⟨i,_,_,rfl⟩:=Kg z2 hx;exact va (by omega)
  .obtain⟨i,g1,g2,rfl⟩:=Kg z1 hx;have e:ka0 Y_ 0=ka0 (Av st) (sb+0):=Ti z2 (by omega)
   rw[e,Hj];exact O.asymm (va bsz) (va (by omega)) (K3 i g1 g2)
  .obtain⟨i,g1,g2,rfl⟩:=Kg z2 hy;have e:ka0 X (X.size-1)=ka0 (Av st) (sa+c+(X.size-1)):=Ti z1 (by omega)
   rw[e,show sa+c+(X.size-1)=sb-1 by omega]
   exact O.asymm (va (by omega)) (va bs1) (Q2 i g1 g2)
 refine gZ (f:=jp) (H:=λmg st2=>SPk lt (X.toList++Y_.toList) mg.toList/\Fl κ (setPending st (((Bi st).setIfInBounds i (sa,na+nb,pw)).eraseIdxIfInBounds (i+1))) st2) (λmg st2 hH=>?_) (λJ=>?_)
 .obtain⟨⟨pm,so⟩,sk,sar,sp,sf⟩:=hH;have sar:Av st2=Av st:=sar;have sf:DD st2=Af:=sf.trans hf;have lm:mg.toList.length=sb+c'-(sa+c):=by
   rw[pm.length_eq,Be,AF,AF];omega
  have wl:=RI (sa+c) mg.toList 0 (Av st) (by omega)
  rw[Hj]at wl;have pm':mg.toList.Perm ((Av st).extract (sa+c) (sb+c')).toList:=by
   refine pm.trans (Hy ?_);show ((Av st).extract (sa+c) sb).toList++((Av st).extract sb (sb+c')).toList=_;rw[<-A9,Array.extract_append_extract]
   congr 2<;>omega
  refine Au (D7 ?_);refine Au (Fp ?_);have U_:=eE (e:=sb+c') (by omega) (by omega) wl pm'
  obtain⟨w1,w2⟩:=TH (by omega) wl
  generalize hA:(mg.toList.zipIdx.foldl (λa x=>a.setIfInBounds (sa+c+x.2) x.1) (Av st))=a' at U_ w1 w2
  have hm:∀ i,sa+c<=i->i<sb+c'->(∃ j,sa+c<=j/\j<sb/\ka0 a' i=ka0 (Av st) j)\/∃ j,sb<=j/\j<sb+c'/\ka0 a' i=ka0 (Av st) j:=λi h h'=>by
   have g:ka0 a' i∈mg.toList:=by rw[w2 i h (by omega)];exact cH (by omega)
   rcases Ce.mp (pm.mem_iff.mp g) with g|g
   .exact .inl (Kg z1 g)
   .exact .inr (Kg z2 g)
  have S:Srt lt a' sa (sb+nb):=λi j h1 h2 h3=>by
   by_cases i1:i<sa+c
   .rw[w1 i (by omega)]
    by_cases j1:j<sa+c
    .rw[w1 j (by omega)];exact s1 i j h1 h2 (by omega)
    .by_cases j2:j<sb+c'
     .rcases hm j (by omega) j2 with ⟨l,g1,g2,g3⟩|⟨l,g1,g2,g3⟩
      .rw[g3];exact s1 i l h1 (by omega) g2
      .rw[g3];by_cases e:l=sb
       .rw[e];exact K2 i h1 i1
       .exact O.trans (va (by omega)) (va bsz) (va (by omega)) (K2 i h1 i1) (s2 sb l (Aw _) (by omega) (by omega))
     .rw[w1 j (by omega)]
      exact O.trans (va (by omega)) (va bsz) (va (by omega)) (K2 i h1 i1) (s2 sb j (Aw _) (by omega) (by omega))
   .by_cases i2:i<sb+c'
    .by_cases j2:j<sb+c'
     .rw[w2 i (by omega) (by omega),w2 j (by omega) (by omega)]
      exact kT so (by omega) (by omega)
     .rw[w1 j (by omega)]
      rcases hm i (by omega) i2 with ⟨l,g1,g2,g3⟩|⟨l,g1,g2,g3⟩
      .rw[g3];by_cases e:l=sb-1
       .rw[e];exact Q3 j (by omega) h3
       .exact O.trans (va (by omega)) (va bs1) (va (by omega)) (s1 l (sb-1) (by omega) (by omega) (by omega)) (Q3 j (by omega) h3)
      .rw[g3];exact s2 l j g1 (by omega) h3
    .rw[w1 i (by omega),w1 j (by omega)]
     exact s2 i j (by omega) h2 h3
  rw[<-sar]at hA;refine AA ?_;show Q (DD st2).isNone _;rw[sf];refine q _ sk sf sp ?_ ?_
  .show Upd (Av st) (mg.toList.zipIdx.foldl (λa x=>a.setIfInBounds (sa+c+x.2) x.1) (Av st2)) _ _
   rw[hA];exact U_.mono (by omega) (by omega)
  .show Srt lt (mg.toList.zipIdx.foldl (λa x=>a.setIfInBounds (sa+c+x.2) x.1) (Av st2)) _ _
   rw[hA];exact S
 .refine Gs ?_ ?_
  .exact Au (X9 C O P hk λr st' sp ss=>J r st' ⟨sp,ss⟩)
  .exact Au (Yb C O P hk λr st' sp ss=>J r st' ⟨sp,ss⟩)
end
section
variable{M:Eo}{A:AT}{E:Vq}{s:Ap}{κ:Eh}{V:At->Prop}{lt:At->At->Ai}
structure BS (κ:Eh) (a0:Ax At) (p:Ax (Ae×Ae×Ae)) (lo hi:Ae) (st:AU):Prop where
 kd:kindOf st=κ
 fl:DD st=Af
 pd:Bi st=p
 up:Upd a0 (Av st) lo hi
variable{a0:Ax At}{p:Ax (Ae×Ae×Ae)}{lo hi:Ae}
theorem BS.v(B:BS κ a0 p lo hi st)(hv:∀ x∈a0.toList,V x)(h:i<a0.size):V (ka0 (Av st) i):=hv _ (B.up.pm.mem_iff.mp (HQ (by rw[B.up.sz];exact h)))
theorem Kr(C:Hw M A s κ V lt){Q:Am Ai->AU->Prop}(B:BS κ a0 p lo hi st)(hv:∀ x∈a0.toList,V x)(h1:i<a0.size)(h2:j<a0.size)(q:Q (Ab (lt (ka0 (Av st) i) (ka0 (Av st) j))) st):Bl M A E s (ltAt' i j) Q st:=by
 rw[ltAt'_eq];refine Au (Fp ?_);refine Au (Dy (by rw[B.up.sz];exact h1) ?_)
 refine Au (Dy (by rw[B.up.sz];exact h2) ?_)
 exact C _ _ _ _ _ B.kd (B.v hv h1) (B.v hv h2) q
theorem LV(a:Ax At)(i:Ae):ka0 a i=(a[i]?).getD (A3,A3):=by
 unfold ka0;rw[DK]
theorem Sy{src:Ae}(hs:src<a.size)(hd:d<=src)(k:Ae):ka0 (bubble a src d) k=if k=src-d then ka0 a src else if src-d<k/\k<=src then ka0 a (k-1) else ka0 a k:=by
 rw[LV,getElem?_bubble hs d hd];split
 .rw[LV]
 .split<;>rw[LV]
theorem LA(hj:j<=a.size)(k:Ae):ka0 (mirror a i j ((j-i)/2)) k=if i<=k/\k<j then ka0 a (i+j-1-k) else ka0 a k:=by
 rw[LV,getElem?_mirror_all hj];split<;>rw[LV]
theorem eG{src:Ae}(hs:src<a.size)(hd:d<=src):Upd a (bubble a src d) (src-d) (src+1):=⟨bubble_size ..,UV.mp (bubble_perm ..),λi h=>by rw[Sy hs hd,Ar (by omega),Ar (by omega)]⟩
theorem cW(hj:j<=a.size):Upd a (mirror a i j ((j-i)/2)) i j:=⟨mirror_size ..,UV.mp (mirror_perm ..),λk h=>by rw[LA hj,Ar (by omega)]⟩
theorem YB(C:Hw M A s κ V lt)(O:OrdK V lt)(hv:∀ x∈a0.toList,V x){ok:Ae}(B:BS κ a0 p lo hi st)(h1:1<=ok)(h2:ok<=n)(h3:lo+n<=hi)(h4:hi<=a0.size)(so:Srt lt (Av st) lo (lo+ok))(q:∀ st',BS κ a0 p lo hi st'->Srt lt (Av st') lo (lo+n)->Q Aa st'):Bl M A E s (binarySort' lo n ok) Q st:=by
 rw[binarySort'_eq];refine Au (CA (Q:=λx st'=>x.1=Af/\BS κ a0 p lo hi st'/\Srt lt (Av st') lo (lo+n)) (BC (λk x st'=>x.1=Af/\BS κ a0 p lo hi st'/\Srt lt (Av st') lo (lo+k)) (λk x st' g1 g2 hI=>?_) (λx st' hI=>?_) ⟨rfl,B,by rw[show max ok 1=ok by omega];exact so⟩) λx st' hP=>?_)
 .obtain⟨hx,B',S⟩:=hI;have va:∀ {i},i<a0.size->V (ka0 (Av st') i):=λh=>B'.v hv h
  have hk:lo+k<a0.size:=by omega
  extract_lets l0 r0
  refine Au (CA (Q:=λy st''=>st'=st''/\y.1=Af/\KI (λj=>!lt (ka0 (Av st') (lo+k)) (ka0 (Av st') (lo+j))) k y.2.1) (BC (λi y st''=>st'=st''/\y.1=Af/\y.2.1<=y.2.2/\y.2.2<=k/\y.2.2-y.2.1<=k-i/\(∀ j,j<y.2.1->lt (ka0 (Av st') (lo+k)) (ka0 (Av st') (lo+j))=Ad)/\(∀ j,y.2.2<=j->j<k->lt (ka0 (Av st') (lo+k)) (ka0 (Av st') (lo+j))=Aa)) (λi y st'' _ hi hJ=>?_) (λy st'' hJ=>?_) ⟨rfl,rfl,CI _,Aw _,by show k-0<=k-0;omega,λj h=>absurd (show j<0 from h) (by omega),λj h h'=>by have:k<=j:=h;omega⟩) λy st'' hP=>?_)
  .obtain⟨rfl,b1,b2,b3,b4,b5,b6⟩:=hJ;obtain⟨y1,l,r⟩:=y;dsimp only at b1 b2 b3 b4 b5 b6;subst b1
   try extract_lets
   show Bl M A E s (if l ≥ r then _ else _) _ _
   by_cases hl:l ≥ r
   .rw[Aq hl];exact AA ⟨rfl,rfl,by show l<=k;omega,λj h=>by simpa using b5 j h,λj h h'=>by have:=b6 j (by have:l<=j:=h;omega) h';simpa using this⟩
   rw[Ar hl]
   try extract_lets
   refine Au (Kr C (j:=lo+(l+r)/2) B' hv hk (by omega) ?_)
   show Bl M A E s (if lt (ka0 (Av st') (lo+k)) (ka0 (Av st') (lo+(l+r)/2))=Aa then _ else _) _ _
   by_cases e:lt (ka0 (Av st') (lo+k)) (ka0 (Av st') (lo+(l+r)/2))=Aa
   .rw[Aq e];refine AA ⟨rfl,rfl,by show l<=(l+r)/2;omega,by show (l+r)/2<=k;omega,by show (l+r)/2-l<=k-(i+1);omega,b5,λj h h'=>?_⟩
    have h:(l+r)/2<=j:=h;cases e':lt (ka0 (Av st') (lo+k)) (ka0 (Av st') (lo+j)) with
    |true=>rfl
    |false=>
     by_cases ej:j=(l+r)/2
     .rw[ej,e]at e';cases e'
     .have:=O.trans (va (show lo+(l+r)/2<a0.size by omega)) (va (show lo+j<a0.size by omega)) (va hk) (S (lo+(l+r)/2) (lo+j) (by omega) (by omega) (by omega)) e'
      rw[this]at e;cases e
   .rw[Ar e];have e:lt (ka0 (Av st') (lo+k)) (ka0 (Av st') (lo+(l+r)/2))=Ad:=by simpa using e
    refine AA ⟨rfl,rfl,by show (l+r)/2+1<=r;omega,b3,by show r-((l+r)/2+1)<=k-(i+1);omega,λj h=>?_,b6⟩
    have h:j<(l+r)/2+1:=h;by_cases ej:j=(l+r)/2
    .rw[ej];exact e
    .exact O.trans (va (show lo+j<a0.size by omega)) (va (show lo+(l+r)/2<a0.size by omega)) (va hk) (S (lo+j) (lo+(l+r)/2) (by omega) (by omega) (by omega)) e
  .obtain⟨rfl,b1,b2,b3,b4,b5,b6⟩:=hJ;rw[DN]at b4;exact⟨rfl,b1,by omega,λj h=>by simpa using b5 j h,λj h h'=>by have:=b6 j (by omega) h';simpa using this⟩
  .obtain⟨rfl,b1,c1,c2,c3⟩:=hP;obtain⟨y1,l,r⟩:=y;dsimp only at b1 c1 c2 c3;subst b1
   try extract_lets
   have hsz:lo+k<(Av st').size:=by rw[B'.up.sz];exact hk
   have ab:=Sy hsz (show lo+k-(lo+l)<=lo+k by omega)
   have ub:=eG hsz (show lo+k-(lo+l)<=lo+k by omega)
   rw[show lo+k-(lo+k-(lo+l))=lo+l by omega]at ab ub
   refine Au (m:=moveDown' (lo+k) (lo+l)) ?_;rw[moveDown'_eq];refine D7 (AA ⟨rfl,⟨B'.kd,B'.fl,B'.pd,B'.up.trans (ub.mono (by omega) (by omega))⟩,?_⟩)
   show Srt lt (bubble (Av st') (lo+k) (lo+k-(lo+l))) lo (lo+(k+1));have c2:∀ j,j<l->lt (ka0 (Av st') (lo+k)) (ka0 (Av st') (lo+j))=Ad:=λj h=>by simpa using c2 j h
   have c3:∀ j,l<=j->j<k->lt (ka0 (Av st') (lo+k)) (ka0 (Av st') (lo+j))=Aa:=λj h h'=>by simpa using c3 j h h'
   have P1:∀ i,lo<=i->i<lo+l->leK lt (ka0 (Av st') i) (ka0 (Av st') (lo+k)):=λi h h'=>by
    have:=c2 (i-lo) (by omega)
    rwa [show lo+(i-lo)=i by omega]at this
   have P2:∀ i,lo+l<=i->i<lo+k->leK lt (ka0 (Av st') (lo+k)) (ka0 (Av st') i):=λi h h'=>by
    have:=c3 (i-lo) (by omega) (by omega)
    rw[show lo+(i-lo)=i by omega]at this
    exact O.asymm (va hk) (va (by omega)) this
   intro i j g3 g4 g5;rw[ab,ab];by_cases i1:i<lo+l
   .rw[Ar (show ¬ i=lo+l by omega),Ar (show ¬ (lo+l<i/\i<=lo+k) by omega)]
    by_cases j1:j<lo+l
    .rw[Ar (show ¬ j=lo+l by omega),Ar (show ¬ (lo+l<j/\j<=lo+k) by omega)]
     exact S i j g3 g4 (by omega)
    .by_cases j2:j=lo+l
     .rw[Aq j2];exact P1 i g3 i1
     .rw[Ar j2,Aq (show lo+l<j/\j<=lo+k by omega)]
      exact S i (j-1) g3 (by omega) (by omega)
   .by_cases i2:i=lo+l
    .rw[Aq i2,Ar (show ¬ j=lo+l by omega),Aq (show lo+l<j/\j<=lo+k by omega)]
     exact P2 (j-1) (by omega) (by omega)
    .rw[Ar i2,Aq (show lo+l<i/\i<=lo+k by omega),Ar (show ¬ j=lo+l by omega),Aq (show lo+l<j/\j<=lo+k by omega)]
     exact S (i-1) (j-1) (by omega) (by omega) (by omega)
 .obtain⟨hx,B',S⟩:=hI;exact⟨hx,B',λi j h h' h''=>S i j h h' (by omega)⟩
 .obtain⟨hx,B',S⟩:=hP;obtain⟨x1,x2⟩:=x;have hx:x1=Af:=hx;subst hx;exact AA (q _ B' S)
end
section
variable{M:Eo}{A:AT}{E:Vq}{s:Ap}{κ:Eh}{V:At->Prop}{lt:At->At->Ai}
variable{a0:Ax At}{p:Ax (Ae×Ae×Ae)}{lo hi:Ae}
theorem MK{f:Il->DZ AU Dq α}{H:AU->Prop}{m:DZ AU Dq α}{Q:α->AU->Prop}(J:∀ st',H st'->Bl M A E s (f ⟨⟩) Q st')(main:(∀ st',H st'->Bl M A E s (f ⟨⟩) Q st')->Bl M A E s m Q st):Bl M A E s m Q st:=main J
def Dec(lt:At->At->Ai)(a:Ax At)(lo hi:Ae):Prop:=∀ i j,lo<=i->i<j->j<hi->leK lt (ka0 a j) (ka0 a i)
def Eqs(lt:At->At->Ai)(a:Ax At)(lo hi:Ae):Prop:=∀ i j,lo<=i->i<hi->lo<=j->j<hi->leK lt (ka0 a i) (ka0 a j)
theorem Srt.one:Srt lt a lo (lo+1):=λi j h1 h2 h3=>by omega
theorem Srt.snoc(O:OrdK V lt)(v:∀ i,i<hi->V (ka0 a i))(hk:k<hi)(h0:lo<k)(S:Srt lt a lo k)(h:leK lt (ka0 a (k-1)) (ka0 a k)):Srt lt a lo (k+1):=λi j h1 h2 h3=>by
 by_cases e:j=k
 .subst e;by_cases e':i=j-1
  .rw[e'];exact h
  .exact O.trans (v i (by omega)) (v (j-1) (by omega)) (v j hk) (S i (j-1) h1 (by omega) (by omega)) h
 .exact S i j h1 h2 (by omega)
theorem Dec.snoc(O:OrdK V lt)(v:∀ i,i<hi->V (ka0 a i))(hk:k<hi)(h0:lo<k)(S:Dec lt a lo k)(h:leK lt (ka0 a k) (ka0 a (k-1))):Dec lt a lo (k+1):=λi j h1 h2 h3=>by
 by_cases e:j=k
 .subst e;by_cases e':i=j-1
  .rw[e'];exact h
  .exact O.trans (v j hk) (v (j-1) (by omega)) (v i (by omega)) h (S i (j-1) h1 (by omega) (by omega))
 .exact S i j h1 h2 (by omega)
theorem Eqs.snoc(O:OrdK V lt){q:Ae}(v:∀ i,i<hi->V (ka0 a i))(hk:k<hi)(h0:q<k)(S:Eqs lt a q k)(hr:leK lt (ka0 a k) (ka0 a k))(h:leK lt (ka0 a k) (ka0 a (k-1)))(h':leK lt (ka0 a (k-1)) (ka0 a k)):Eqs lt a q (k+1):=λi j h1 h2 h3 h4=>by
 by_cases e:j=k
 .by_cases e':i=k
  .rw[e,e'];exact hr
  .rw[e];exact O.trans (v i (by omega)) (v (k-1) (by omega)) (v k hk) (S i (k-1) h1 (by omega) (by omega) (by omega)) h'
 .by_cases e':i=k
  .rw[e'];exact O.trans (v k hk) (v (k-1) (by omega)) (v j (by omega)) h (S (k-1) j (by omega) (by omega) h3 (by omega))
  .exact S i j h1 (by omega) h3 (by omega)
theorem Eqs.one(hr:leK lt (ka0 a k) (ka0 a k)):Eqs lt a k (k+1):=λi j h1 h2 h3 h4=>by
 rw[show i=k by omega,show j=k by omega];exact hr
theorem OrdK.refl(O:OrdK V lt)(v:V x):leK lt x x:=by
 cases e:lt x x with
 |false=>exact e
 |true=>exact O.asymm v v e
theorem Dec.mir{b:Ae}(he:e<=a.size)(D:Dec lt a lo hi)(S:Eqs lt a b e)(h1:lo<=b)(h2:e<=hi):Dec lt (mirror a b e ((e-b)/2)) lo hi:=λi j g1 g2 g3=>by
 rw[LA he,LA he];by_cases i1:b<=i/\i<e
 .rw[Aq i1];by_cases j1:b<=j/\j<e
  .rw[Aq j1];exact S _ _ (by omega) (by omega) (by omega) (by omega)
  .rw[Ar j1];exact D _ _ (by omega) (by omega) g3
 .rw[Ar i1];by_cases j1:b<=j/\j<e
  .rw[Aq j1];exact D _ _ g1 (by omega) (by omega)
  .rw[Ar j1];exact D _ _ g1 g2 g3
theorem Dec.flip(he:e<=a.size)(D:Dec lt a lo e):Srt lt (mirror a lo e ((e-lo)/2)) lo e:=λi j g1 g2 g3=>by
 rw[LA he,LA he,Aq (by omega),Aq (by omega)]
 exact D _ _ (by omega) (by omega) (by omega)
theorem MJ{b:Ae}{Q:FZ->AU->Prop}(B:BS κ a0 p lo hi st)(h1:lo<=b)(h2:e<=hi)(h3:e<=a0.size)(q:∀ st',BS κ a0 p lo hi st'->Av st'=mirror (Av st) b e ((e-b)/2)->Q ⟨⟩ st'):Bl M A E s (reverseSlice' b e) Q st:=by
 rw[reverseSlice'_eq];exact D7 (q _ ⟨B.kd,B.fl,B.pd,B.up.trans ((cW (by rw[B.up.sz];exact h3)).mono h1 h2)⟩ rfl)
theorem Y_7(C:Hw M A s κ V lt)(O:OrdK V lt)(hv:∀ x∈a0.toList,V x){nrem:Ae}{Q:Am Ae->AU->Prop}(B:BS κ a0 p lo hi st)(h1:1<=nrem)(h3:lo+nrem<=hi)(h4:hi<=a0.size)(q:∀ n st',1<=n->n<=nrem->BS κ a0 p lo hi st'->Srt lt (Av st') lo (lo+n)->Q (Ab n) st'):Bl M A E s (countRun' lo nrem) Q st:=by
 rw[countRun'_eq]
 extract_lets n0
 refine Au (CA (Q:=λx st'=>st=st'/\x.1=Af/\1<=x.2/\x.2<=nrem/\Srt lt (Av st) lo (lo+x.2)/\(x.2<nrem->lt (ka0 (Av st) (lo+x.2)) (ka0 (Av st) (lo+x.2-1))=Aa)) (BC (λi x st'=>st=st'/\x.1=Af/\x.2=i/\Srt lt (Av st) lo (lo+i)) (λi x st' g1 g2 hI=>?_) (λx st' hI=>?_) ⟨rfl,rfl,rfl,Srt.one⟩) λx st' hP=>?_)
 .obtain⟨rfl,b1,b2,S⟩:=hI;obtain⟨x1,n⟩:=x;have b2:n=i:=b2;subst b2
  try extract_lets
  refine Au (Kr C B hv (show lo+n<a0.size by omega) (show lo+n-1<a0.size by omega) ?_)
  show Bl M A E s (if lt (ka0 (Av st) (lo+n)) (ka0 (Av st) (lo+n-1))=Aa then _ else _) _ _
  by_cases e:lt (ka0 (Av st) (lo+n)) (ka0 (Av st) (lo+n-1))=Aa
  .rw[Aq e];exact AA ⟨rfl,rfl,g1,by show n<=nrem;omega,S,λ_=>e⟩
  .rw[Ar e];exact AA ⟨rfl,rfl,rfl,Srt.snoc O (hi:=a0.size) (k:=lo+n) (λi h=>B.v hv h) (by omega) (by omega) S (by simpa [leK] using e)⟩
 .obtain⟨rfl,b1,b2,S⟩:=hI;rw[show max 1 nrem=nrem by omega]at b2 S
  exact⟨rfl,b1,by omega,by omega,by rw[b2];exact S,λh=>by omega⟩
 obtain⟨rfl,b1,b2,b3,S,b4⟩:=hP;obtain⟨x1,n⟩:=x;dsimp only at b1 b2 b3 S b4;subst b1
 try extract_lets
 show Bl M A E s (if (n==nrem)=Aa then _ else _) _ _
 by_cases e0:(n==nrem)=Aa
 .rw[Aq e0];exact AA (q n _ b2 b3 B S)
 rw[Ar e0];have e0:¬ n=nrem:=by simpa using e0
 have b4:=b4 (by omega)
 rename_i jp _;have hsz:(Av st).size=a0.size:=B.up.sz;refine MK (f:=jp) (H:=λst'=>BS κ a0 p lo hi st'/\Dec lt (Av st') lo (lo+n+1)) (λst1 hH=>?_) (λJ=>?_)
 .obtain⟨B1,D1⟩:=hH;refine Au (Kq ?_)
  extract_lets n1 neq0
  refine Au (CA (Q:=λx st'=>x.1=Af/\1<=x.2.1/\x.2.1<=nrem/\BS κ a0 p lo hi st'/\Dec lt (Av st') lo (lo+x.2.1)/\x.2.2+1<=x.2.1/\Eqs lt (Av st') (lo+x.2.1-(x.2.2+1)) (lo+x.2.1)) (BC (λi x st'=>x.1=Af/\x.2.1=i/\BS κ a0 p lo hi st'/\Dec lt (Av st') lo (lo+i)/\x.2.2+1<=i/\Eqs lt (Av st') (lo+i-(x.2.2+1)) (lo+i)) (λi x st' g1 g2 hI=>?_) (λx st' hI=>?_) ⟨rfl,rfl,B1,D1,by show 0+1<=n+1;omega,Eqs.one (O.refl (B1.v hv (by omega)))⟩) λx st' hP=>?_)
  .obtain⟨c1,c2,B2,D2,c3,e2⟩:=hI;obtain⟨x1,m,neq⟩:=x;have c2:m=i:=c2;subst c2;have c3:neq+1<=m:=c3;have e2:Eqs lt (Av st') (lo+m-(neq+1)) (lo+m):=e2;have g1:n+1<=m:=g1;have z2:(Av st').size=a0.size:=B2.up.sz;have v2:∀ i,i<a0.size->V (ka0 (Av st') i):=λi h=>B2.v hv h
   try extract_lets
   refine Au (Kr C B2 hv (show lo+m<a0.size by omega) (show lo+m-1<a0.size by omega) ?_)
   try dsimp -zeta only
   try extract_lets
   by_cases e:lt (ka0 (Av st') (lo+m)) (ka0 (Av st') (lo+m-1))=Aa
   .rw[Aq e];have D3:=Dec.snoc O v2 (show lo+m<a0.size by omega) (by omega) D2 (O.asymm (v2 _ (by omega)) (v2 _ (by omega)) e)
    rename_i jp2 _;refine MK (f:=jp2) (H:=λst'=>BS κ a0 p lo hi st'/\Dec lt (Av st') lo (lo+m+1)) (λst3 hH=>?_) (λJ=>?_)
    .obtain⟨B3,D3⟩:=hH;exact AA ⟨rfl,rfl,B3,D3,by show 0+1<=m+1;omega,Eqs.one (O.refl (B3.v hv (by omega)))⟩
    .refine Gs ?_ ?_
     .refine Au (MJ (b:=lo+m-(neq+1)) (e:=lo+m) B2 (by omega) (by omega) (by omega) λst3 B3 e3=>?_)
      refine J st3 ⟨B3,?_⟩;rw[e3];exact D3.mir (by omega) e2 (by omega) (by omega)
     .exact J _ ⟨B2,D3⟩
   .rw[Ar e];have e:lt (ka0 (Av st') (lo+m)) (ka0 (Av st') (lo+m-1))=Ad:=by simpa using e
    refine Au (Kr C B2 hv (show lo+m-1<a0.size by omega) (show lo+m<a0.size by omega) ?_)
    show Bl M A E s (if lt (ka0 (Av st') (lo+m-1)) (ka0 (Av st') (lo+m))=Aa then _ else _) _ _
    by_cases f:lt (ka0 (Av st') (lo+m-1)) (ka0 (Av st') (lo+m))=Aa
    .rw[Aq f];exact AA ⟨rfl,by show 1<=m;omega,by show m<=nrem;omega,B2,D2,c3,e2⟩
    .rw[Ar f];have f:lt (ka0 (Av st') (lo+m-1)) (ka0 (Av st') (lo+m))=Ad:=by simpa using f
     refine AA ⟨rfl,rfl,B2,Dec.snoc O (k:=lo+m) v2 (show lo+m<a0.size by omega) (by omega) D2 f,by show neq+1+1<=m+1;omega,?_⟩
     show Eqs lt (Av st') (lo+(m+1)-(neq+1+1)) (lo+m+1);rw[show lo+(m+1)-(neq+1+1)=lo+m-(neq+1) by omega]
     exact Eqs.snoc O v2 (by omega) (by omega) e2 (O.refl (v2 _ (by omega))) f e
  .obtain⟨c1,c2,B2,D2,c3,e2⟩:=hI;have em:max (n+1) nrem=nrem:=by omega
   have c2:x.2.1=max (n+1) nrem:=c2;have D2:Dec lt (Av st') lo (lo+max (n+1) nrem):=D2;have c3:x.2.2+1<=max (n+1) nrem:=c3;have e2:Eqs lt (Av st') (lo+max (n+1) nrem-(x.2.2+1)) (lo+max (n+1) nrem):=e2;rw[<-c2]at D2 c3 e2;exact⟨c1,by omega,by omega,B2,D2,c3,e2⟩
  .obtain⟨c1,c2,c4,B2,D2,c3,e2⟩:=hP;obtain⟨x1,m,neq⟩:=x;dsimp only at c1 c2 c3 c4 D2 e2;subst c1;have z2:(Av st').size=a0.size:=B2.up.sz
   try dsimp -zeta only
   try extract_lets
   try dsimp -zeta only
   rename_i jp3;refine MK (f:=jp3) (H:=λst'=>BS κ a0 p lo hi st'/\Dec lt (Av st') lo (lo+m)) (λst3 hH=>?_) (λJ=>?_)
   .obtain⟨B3,D3⟩:=hH;have z3:(Av st3).size=a0.size:=B3.up.sz;refine Au (MJ (b:=lo) (e:=lo+m) B3 (Aw _) (by omega) (by omega) λst4 B4 e4=>?_)
    have S4:Srt lt (Av st4) lo (lo+m):=by rw[e4];exact D3.flip (by omega)
    refine Au (CA (Q:=λx st'=>st4=st'/\x.1=Af/\1<=x.2/\x.2<=nrem/\Srt lt (Av st4) lo (lo+x.2)) (BC (λi x st'=>st4=st'/\x.1=Af/\x.2=i/\Srt lt (Av st4) lo (lo+i)) (λi x st' g1 g2 hI=>?_) (λx st' hI=>?_) ⟨rfl,rfl,rfl,S4⟩) λx st' hP=>?_)
    .obtain⟨rfl,b1,b2,S⟩:=hI;obtain⟨x1,n⟩:=x;have b2:n=i:=b2;subst b2;have g1:m<=n:=g1
     try extract_lets
     refine Au (Kr C B4 hv (show lo+n<a0.size by omega) (show lo+n-1<a0.size by omega) ?_)
     show Bl M A E s (if lt (ka0 (Av st4) (lo+n)) (ka0 (Av st4) (lo+n-1))=Aa then _ else _) _ _
     by_cases e:lt (ka0 (Av st4) (lo+n)) (ka0 (Av st4) (lo+n-1))=Aa
     .rw[Aq e];exact AA ⟨rfl,rfl,by show 1<=n;omega,by show n<=nrem;omega,S⟩
     .rw[Ar e];exact AA ⟨rfl,rfl,rfl,Srt.snoc O (hi:=a0.size) (k:=lo+n) (λi h=>B4.v hv h) (by omega) (by omega) S (by simpa [leK] using e)⟩
    .obtain⟨rfl,b1,b2,S⟩:=hI;have b2:x.2=max m nrem:=b2;have S:Srt lt (Av st4) lo (lo+max m nrem):=S;rw[<-b2]at S;exact⟨rfl,b1,by omega,by omega,S⟩
    .obtain⟨rfl,b1,b2,b3,S⟩:=hP;obtain⟨x1,n⟩:=x;dsimp only at b1 b2 b3 S;subst b1;exact AA (q n _ b2 b3 B4 S)
   .show Bl M A E s (if neq>0 then _ else _) _ _
    refine Gs ?_ ?_
    .refine Au (MJ (b:=lo+m-(neq+1)) (e:=lo+m) B2 (by omega) (by omega) (by omega) λst3 B3 e3=>?_)
     refine J st3 ⟨B3,?_⟩;rw[e3];exact D2.mir (by omega) e2 (by omega) (by omega)
    .exact J _ ⟨B2,D2⟩
 .have v0:∀ i,i<a0.size->V (ka0 (Av st) i):=λi h=>B.v hv h
  show Bl M A E s (if n>1 then _ else _) _ _
  by_cases hn:n>1
  .rw[Aq hn];refine Au (Kr C B hv (show lo<a0.size by omega) (show lo+n-1<a0.size by omega) ?_)
   show Bl M A E s (if lt (ka0 (Av st) lo) (ka0 (Av st) (lo+n-1))=Aa then _ else _) _ _
   by_cases e:lt (ka0 (Av st) lo) (ka0 (Av st) (lo+n-1))=Aa
   .rw[Aq e];exact AA (q n _ b2 b3 B S)
   .rw[Ar e];have e:leK lt (ka0 (Av st) (lo+n-1)) (ka0 (Av st) lo):=by simpa [leK] using e
    refine Au (MJ (b:=lo) (e:=lo+n) B (Aw _) (by omega) (by omega) λst3 B3 e3=>?_)
    refine J st3 ⟨B3,?_⟩;have Q0:Eqs lt (Av st) lo (lo+n):=λi j g1 g2 g3 g4=>by
     have x1:leK lt (ka0 (Av st) i) (ka0 (Av st) (lo+n-1)):=by
      by_cases h:i=lo+n-1
      .rw[h];exact O.refl (v0 _ (by omega))
      .exact S i (lo+n-1) g1 (by omega) (by omega)
     have x2:leK lt (ka0 (Av st) lo) (ka0 (Av st) j):=by
      by_cases h:j=lo
      .rw[h];exact O.refl (v0 _ (by omega))
      .exact S lo j (Aw _) (by omega) (by omega)
     exact O.trans (v0 _ (by omega)) (v0 lo (by omega)) (v0 _ (by omega)) (O.trans (v0 _ (by omega)) (v0 (lo+n-1) (by omega)) (v0 lo (by omega)) x1 e) x2
    have D0:Dec lt (Av st) lo (lo+n):=λi j g1 g2 g3=>Q0 j i (by omega) g3 g1 (by omega)
    have D1:=Dec.snoc O v0 (show lo+n<a0.size by omega) (by omega) D0 (O.asymm (v0 _ (by omega)) (v0 _ (by omega)) b4)
    rw[e3];exact D1.mir (by omega) Q0 (Aw _) (by omega)
  .rw[Ar hn];have:n=1:=by omega
   subst this;exact J _ ⟨B,Dec.snoc O v0 (show lo+1<a0.size by omega) (by omega) (λi j g1 g2 g3=>by omega) (O.asymm (v0 _ (by omega)) (v0 _ (by omega)) b4)⟩
end
section
variable{M:Eo}{A:AT}{E:Vq}{s:Ap}{κ:Eh}{V:At->Prop}{lt:At->At->Ai}
variable{a0:Ax At}{lo hi:Ae}
def Ds(lt:At->At->Ai)(a:Ax At):Ac (Ae×Ae×Ae)->Ae->Ae->Prop
 |[],b,e=>b=e
 |x::r,b,e=>x.1=b/\0<x.2.1/\Srt lt a b (b+x.2.1)/\Ds lt a r (b+x.2.1) e
theorem Ds.le{a:Ax At}:∀{l:Ac (Ae×Ae×Ae)}{b e:Ae},Ds lt a l b e->b+l.length<=e
 |[],b,e,h=>by have h:b=e:=h;rw[h];exact Aw _
 |x::r,b,e,h=>by
  have:=Ds.le h.2.2.2;have:=h.2.1;rw[AS];omega
theorem Ds.mono{a a':Ax At}:∀{l:Ac (Ae×Ae×Ae)}{b e:Ae},Ds lt a l b e->(∀ i,b<=i->i<e->ka0 a' i=ka0 a i)->Ds lt a' l b e
 |[],b,e,h,_=>h
 |x::r,b,e,h,g=>by
  have:=Ds.le h.2.2.2;exact⟨h.1,h.2.1,λi j h1 h2 h3=>by rw[g i h1 (by omega),g j (by omega) (by omega)];exact h.2.2.1 i j h1 h2 h3,Ds.mono h.2.2.2 λi h1 h2=>g i (by omega) h2⟩
theorem Ds.split{a:Ax At}:∀{L R:Ac (Ae×Ae×Ae)}{b e:Ae},Ds lt a (L++R) b e->∃ m,Ds lt a L b m/\Ds lt a R m e
 |[],R,b,e,h=>⟨b,rfl,h⟩
 |x::L,R,b,e,h=>by
  obtain⟨m,h1,h2⟩:=Ds.split (L:=L) h.2.2.2;exact⟨m,⟨h.1,h.2.1,h.2.2.1,h1⟩,h2⟩
theorem Ds.join{a:Ax At}:∀{L R:Ac (Ae×Ae×Ae)}{b m e:Ae},Ds lt a L b m->Ds lt a R m e->Ds lt a (L++R) b e
 |[],R,b,m,e,h,h'=>by have h:b=m:=h;rw[h];exact h'
 |x::L,R,b,m,e,h,h'=>⟨h.1,h.2.1,h.2.2.1,Ds.join h.2.2.2 h'⟩
theorem Ds.modify{a:Ax At}{f:Ae×Ae×Ae->Ae×Ae×Ae}(h1:∀ x,(f x).1=x.1)(h2:∀ x,(f x).2.1=x.2.1):∀{l:Ac (Ae×Ae×Ae)}{i b e:Ae},Ds lt a l b e->Ds lt a (l.modify i f) b e
 |[],i,b,e,h=>by rw[List.modify_nil];exact h
 |x::r,0,b,e,h=>by
  rw[List.modify_zero_cons];unfold Ds at h ⊢;rw[h1,h2];exact h
 |x::r,i+1,b,e,h=>by
  rw[List.modify_succ_cons];exact⟨h.1,h.2.1,h.2.2.1,Ds.modify h1 h2 h.2.2.2⟩
structure RS (κ:Eh) (lt:At->At->Ai) (a0:Ax At) (lo:Ae) (st:AU):Prop where
 kd:kindOf st=κ
 fl:DD st=Af
 up:Upd a0 (Av st) 0 a0.size
 rn:Ds lt (Av st) (Bi st).toList 0 lo
 hl:lo<=a0.size
theorem gP{l:Ac α}(h:i+1<l.length):∃ L x y R,l=L++x::y::R/\L.length=i:=by
 refine⟨l.take i,l[i]'(by omega),l[i+1]'h,l.drop (i+2),?_,by rw[C9];omega⟩
 rw[<-By h,<-By (show i<l.length by omega),DS]
theorem RG(C:Hw M A s κ V lt)(O:OrdK V lt)(hv:∀ x∈a0.toList,V x)(R:RS κ lt a0 lo st)(hi:i+1<(Bi st).size)(q:∀ st',RS κ lt a0 lo st'->(Bi st').size+1=(Bi st).size->(∀ j,lo<=j->ka0 (Av st') j=ka0 (Av st) j)->Q Aa st'):Bl M A E s (Rt i) Q st:=by
 obtain⟨L,⟨sa,na,pw⟩,⟨sb,nb,pw2⟩,T,e,hL⟩:=gP (l:=(Bi st).toList) (i:=i) (by rw[AF];exact hi)
 have rn:=R.rn;rw[e]at rn;obtain⟨m,r1,r2⟩:=rn.split;obtain⟨ea,pa,s1,eb,pb,s2,r3⟩:=r2;dsimp only at ea pa s1 eb pb s2 r3;subst ea;have hle:=r3.le;have hle1:=r1.le;have hhl:=R.hl;have hsz:=R.up.sz;refine Yc C O (sa:=sa) (na:=na) (pw:=pw) (sb:=sb) (nb:=nb) (pw2:=pw2) ?_ ?_ (by omega) pa pb (by omega) (by rw[eb];exact s1) (by rw[eb];exact s2) (λx hx=>hv x (R.up.pm.mem_iff.mp hx)) R.kd R.fl λst' k1 k2 k3 U_ S=>?_
 .rw[<-Cy,e,B0 (by omega),hL,Nat.sub_self];rfl
 .rw[<-Cy,e,B0 (by omega),hL,show i+1-i=1 by omega];rfl
 have ep:(Bi st').toList=L++(sa,na+nb,pw)::T:=by
  rw[k3,Array.toList_eraseIdxIfInBounds,UX,e,<-hL];simp[List.set_append,List.eraseIdx_append];intro h;omega
 refine q st' ⟨k1,k2,R.up.trans (U_.mono (CI _) (by omega)),?_,R.hl⟩ ?_ λj hj=>U_.out j (by omega)
 .rw[ep];refine(r1.mono λi h1 h2=>U_.out i (by omega)).join ⟨rfl,by show 0<na+nb;omega,?_,?_⟩
  .show Srt lt (Av st') sa (sa+(na+nb));rw[show sa+(na+nb)=sb+nb by omega]
   exact S
  .show Ds lt (Av st') T (sa+(na+nb)) lo;rw[show sa+(na+nb)=sa+na+nb by omega]
   exact r3.mono λi h1 h2=>U_.out i (by omega)
 .rw[<-AF,<-AF,ep,e];simp;omega
theorem RS.push{st:AU}{n pw:Ae}(R:RS κ lt a0 lo st)(h1:1<=n)(h2:lo+n<=a0.size)(S:Srt lt (Av st) lo (lo+n)):RS κ lt a0 (lo+n) (setPending st ((Bi st).push (lo,n,pw))):=by
 refine⟨R.kd,R.fl,R.up,?_,h2⟩;show Ds lt (Av st) ((Bi st).push (lo,n,pw)).toList 0 (lo+n);rw[Du];exact R.rn.join ⟨rfl,h1,S,rfl⟩
theorem iE[EC c]{x y:Ae}:(if c then x else y)=x\/(if c then x else y)=y:=by split<;>simp
theorem gY{f:Il->Ae->DZ AU Dq α}{H:Ae->AU->Prop}{m:DZ AU Dq α}{Q:α->AU->Prop}(J:∀ n st',H n st'->Bl M A E s (f ⟨⟩ n) Q st')(main:(∀ n st',H n st'->Bl M A E s (f ⟨⟩ n) Q st')->Bl M A E s m Q st):Bl M A E s m Q st:=main J
theorem XG(C:Hw M A s κ V lt)(O:OrdK V lt)(hv:∀ x∈a0.toList,V x){Q:FZ->AU->Prop}(hk:kindOf st=κ)(hf:DD st=Af)(ha:Av st=a0)(hp:Bi st=#[])(q:∀ st',kindOf st'=κ->DD st'=Af->(Av st').toList.Perm a0.toList->Srt lt (Av st') 0 a0.size->Q ⟨⟩ st'):Bl M A E s sortRuns' Q st:=by
 rw[sortRuns'_eq];refine Au (Fp ?_);rw[ha]
 extract_lets size mr lo0
 have R0:RS κ lt a0 0 st:=⟨hk,hf,by rw[ha];exact Upd.rfl',by rw[hp];rfl,CI _⟩
 refine Au (CA (Q:=λx st'=>x.1=Af/\RS κ lt a0 a0.size st') (BC (λi x st'=>x.1=Af/\RS κ lt a0 x.2 st'/\i<=x.2) (λi x st' g1 g2 hI=>?_) (λx st' hI=>?_) ⟨rfl,R0,Aw _⟩) λx st' hP=>?_)
 .obtain⟨b1,R,b2⟩:=hI;obtain⟨x1,lo⟩:=x;have R:RS κ lt a0 lo st':=R;have b2:i<=lo:=b2;have hl:=R.hl
  try extract_lets
  show Bl M A E s (if lo ≥ a0.size then _ else _) _ _
  by_cases h1:lo ≥ a0.size
  .rw[Aq h1];refine AA ⟨rfl,?_⟩;have e:lo=a0.size:=by omega
   rw[e]at R;exact R
  rw[Ar h1];have hsz:=R.up.sz;have hv':∀ x∈(Av st').toList,V x:=λx hx=>hv x (R.up.pm.mem_iff.mp hx)
  have toR:∀ {st2},BS κ (Av st') (Bi st') lo a0.size st2->RS κ lt a0 lo st2:=λB=>⟨B.kd,B.fl,R.up.trans (B.up.mono (CI _) (Aw _)),by rw[B.pd];exact R.rn.mono λi _ h=>B.up.out i (.inl h),hl⟩
  refine Au (Y_7 C O hv' (hi:=a0.size) ⟨R.kd,R.fl,rfl,Upd.rfl'⟩ (show 1<=a0.size-lo by omega) (by omega) (by omega) λn st2 n1 n2 B S=>?_)
  dsimp -zeta only;rename_i jp _ _;refine gY (f:=jp) (H:=λn st2=>1<=n/\lo+n<=a0.size/\RS κ lt a0 lo st2/\Srt lt (Av st2) lo (lo+n)) (λn st2 hH=>?_) (λJ=>?_)
  .obtain⟨n1,n2,R2,S2⟩:=hH;refine Au (Fp ?_)
   extract_lets lo2 jp2
   refine MK (f:=jp2) (H:=λst2=>RS κ lt a0 lo st2/\Srt lt (Av st2) lo (lo+n)) (λst3 hH=>?_) (λJ=>?_)
   .obtain⟨R3,S3⟩:=hH;refine Au (D7 ?_);exact AA ⟨rfl,R3.push n1 n2 S3,by show i+1<=lo+n;omega⟩
   .cases hb:(Bi st2).back? with
    |none=>exact J _ ⟨R2,S2⟩
    |some v=>
     obtain⟨s1,n1',pw0⟩:=v;dsimp -zeta only
     extract_lets pw
     refine Au (CA (Q:=λx st3=>x.1=Af/\RS κ lt a0 lo st3/\Srt lt (Av st3) lo (lo+n)) (BC (fun(j:Ae)(x:Am FZ×FZ)(st3:AU)=>x.1=Af/\RS κ lt a0 lo st3/\Srt lt (Av st3) lo (lo+n)) (λj x st3 _ _ hI=>?_) (λx st3 hI=>hI) ⟨rfl,R2,S2⟩) λx st3 hP=>?_)
     .obtain⟨_,R3,S3⟩:=hI;refine Au (Fp ?_)
      extract_lets p
      cases hq:(if p.size>1 then p[p.size-2]? else Af) with
      |none=>exact AA ⟨rfl,R3,S3⟩
      |some v=>
       obtain⟨f1,f2,older⟩:=v;have p1:p.size>1:=by
        by_cases h:p.size>1
        .exact h
        .rw[Ar h]at hq;cases hq
       have p1:(Bi st3).size>1:=p1;dsimp -zeta only;refine Gs (AA ⟨rfl,R3,S3⟩) ?_;refine Au (RG C O hv R3 (i:=(Bi st3).size-2) (by omega) λst4 R4 z4 o4=>?_)
       exact AA ⟨rfl,R4,λi j h1 h2 h3=>by rw[o4 i h1,o4 j (by omega)];exact S3 i j h1 h2 h3⟩
     .obtain⟨b1,R3,S3⟩:=hP;obtain⟨x1,x2⟩:=x;have b1:x1=Af:=b1;subst b1;refine Au (D7 ?_);refine J _ ⟨⟨R3.kd,R3.fl,R3.up,?_,R3.hl⟩,S3⟩;show Ds lt (Av st3) ((Bi st3).modify _ _).toList 0 lo;rw[Array.toList_modify];exact Ds.modify (f:=λx=>(x.1,x.2.1,pw)) (λ_=>rfl) (λ_=>rfl) R3.rn
  .show Bl M A E s (if n<mr then _ else _) _ _
   by_cases h2:n<mr
   .rw[Aq h2];refine Au (Kq ?_);refine Au (YB C O hv' (n:=min (a0.size-lo) mr) B n1 (by omega) (by omega) (by omega) S λst3 B3 S3=>?_)
    exact J _ _ ⟨by omega,by omega,toR B3,S3⟩
   .rw[Ar h2];exact J _ _ ⟨n1,by omega,toR B,S⟩
 .obtain⟨b1,R,b2⟩:=hI;have b2:max 0 a0.size<=x.2:=b2;have:=R.hl;rw[show x.2=a0.size by omega]at R
  exact⟨b1,R⟩
 .obtain⟨b1,R⟩:=hP;obtain⟨x1,lo⟩:=x;have b1:x1=Af:=b1;subst b1
  try extract_lets
  have hle:=R.rn.le;rw[AF]at hle;refine Au (CA (Q:=λx st3=>x.1=Af/\RS κ lt a0 a0.size st3/\(Bi st3).size<=1) (BC (λj x st3=>x.1=Af/\RS κ lt a0 a0.size st3/\((Bi st3).size<=1\/(Bi st3).size+j<=a0.size)) (λj x st3 _ _ hI=>?_) (λx st3 hI=>?_) ⟨rfl,R,.inr (by omega)⟩) λx st3 hP=>?_)
  .obtain⟨c1,R3,c2⟩:=hI
   try extract_lets
   refine Au (Fp ?_)
   extract_lets p
   show Bl M A E s (if (Bi st3).size<=1 then _ else _) _ _
   by_cases h:(Bi st3).size<=1
   .rw[Aq h];exact AA ⟨rfl,R3,h⟩
   rw[Ar h];rename_i i1;have hi:i1=(Bi st3).size-2-1\/i1=(Bi st3).size-2:=iE;have hi:i1+1<(Bi st3).size:=by omega
   refine Au (RG C O hv R3 hi λst4 R4 z4 o4=>?_)
   exact AA ⟨rfl,R4,.inr (by omega)⟩
  .obtain⟨c1,R3,c2⟩:=hI;have c2:(Bi st3).size<=1\/(Bi st3).size+max 0 a0.size<=a0.size:=c2;exact⟨c1,R3,by omega⟩
  .obtain⟨c1,R3,c2⟩:=hP;obtain⟨x1,x2⟩:=x;have c1:x1=Af:=c1;subst c1;refine AA (q _ R3.kd R3.fl R3.up.pm ?_);have rn:=R3.rn;cases hl:(Bi st3).toList with
   |nil=>
    rw[hl]at rn;have rn:0=a0.size:=rn;exact λi j h1 h2 h3=>by omega
   |cons x r=>
    rw[hl]at rn;have:r.length=0:=by
     have:=congrArg Jw hl;rw[AF,AS]at this;omega
    have hr:=Vg.mp this;rw[hr]at rn;obtain⟨_,_,S,e⟩:=rn;have e:0+x.2.1=a0.size:=e;rw[e]at S;exact S
end
end Ov
namespace Ov
open PySem PySem.W PyProof.Rows
variable{h:AD}{v:Aj}{r q:Ac Ag}{rs:Ac (Ac Ag)}{vs:Ac Aj}
structure Sto (lt:Ae->Ae->Ai) (n:Ae):Prop where
 tr:∀ i j k,i<n->j<n->k<n->lt i j=Aa->lt j k=Aa->lt i k=Aa
 tot:∀ i j,i<n->j<n->i≠j->lt i j=Ad->lt j i=Aa
 asy:∀ i j,i<n->j<n->lt i j=Aa->lt j i=Ad
noncomputable def at0(p:Ax Ae)(x:Ae):Ae:=p.getD x 0
structure Pm (n:Ae) (p:Ax Ae):Prop where
 sz:p.size=n
 lt:∀ x,x<n->at0 p x<n
 inj:∀ x y,x<n->y<n->at0 p x=at0 p y->x=y
section
variable{lt:Ae->Ae->Ai}{n:Ae}
def KR(lt:Ae->Ae->Ai)(p:Ax Ae)(m:Ae):Prop:=∀ x y,x<y->y<m->lt (at0 p x) (at0 p y)=Aa
theorem YO(n:Ae):Pm n (Cn (A8 n)):=by
 have e:∀ x,x<n->at0 (Cn (A8 n)) x=x:=λx hx=>by simp[at0,DI,hx]
 exact⟨by simp,λx hx=>by rw[e x hx];exact hx,λx y hx hy h=>by rw[e x hx,e y hy]at h;exact h⟩
end
def Ep(h:AD)(v:Aj)(r:Ac Ag):Prop:=∃ a its,v=.ref a/\JY h a its/\Ez its.toList r/\r≠[]
theorem Ep.kept{h':AD}(t:Ep h v r)(k:∀ b o,h.get? b=Ab o->h'.get? b=Ab o):Ep h' v r:=by
 obtain⟨a,its,e,⟨o,ho,q⟩,i,n⟩:=t;exact⟨a,its,e,⟨o,k _ _ ho,q⟩,i,n⟩
noncomputable def B7:Ac Ag->Ac Ag->Ai
 |[],[]=>Ad
 |[],_::_=>Aa
 |_::_,[]=>Ad
 |x::xs,y::ys=>if x=y then B7 xs ys else decide (x<y)
section
variable{prog:AM}{w:AY}{A:AT}{E:Vq}{s:Ap}
theorem SU{C:Ai->Ap->Prop}:∀{vs us:Ac Aj}{r q:Ac Ag}(i:Ae),Ez vs r->Ez us q->C (B7 r q) s->KatLex prog w A Aa (decide (vs.length<us.length)) C (vs.zip us) i s
 |[],[],[],[],i,_,_,h=>by
  have h':C Ad s:=h;exact kat_nil h'
 |[],u::us,[],y::q,i,_,_,h=>by
  have h':C Aa s:=h;refine kat_nil ?_;have e:decide (([]:Ac Aj).length<(u::us).length)=Aa:=by simp
  rw[e];exact h'
 |v::vs,[],x::r,[],i,_,_,h=>by
  have h':C Ad s:=h;exact kat_nil h'
 |v::vs,u::us,x::r,y::q,i,hv,hu,h=>by
  cases hv with
  |cons _ tv hv=>
   cases hu with
   |cons _ tu hu=>
    have e0:decide ((GQ x tv::vs).length<(GQ y tu::us).length)=decide (vs.length<us.length):=by simp
    rw[e0];refine kat_cons (Xk ?_);by_cases e:x=y
    .have e1:(x==y)=Aa:=by simp[e]
     rw[e1];refine kat_yes (SU (i+1) hv hu ?_);have h':C (if x=y then B7 r q else decide (x<y)) s:=h
     rw[Aq e]at h';exact h'
    .have e1:(x==y)=Ad:=by simp[e]
     rw[e1];have h':C (decide (x<y)) s:=by
      have h':C (if x=y then B7 r q else decide (x<y)) s:=h
      rwa [Ar e]at h'
     refine kat_no ?_;cases i with
     |zero=>exact oneLt_int h'
     |succ i=>
      have e2:(Aa&&(i+1==0))=Ad:=rfl;rw[e2];exact kat_one _ _ (wpAny_lt_int h')
 |[],_,_::_,_,_,hv,_,_=>nomatch hv
 |_::_,_,[],_,_,hv,_,_=>nomatch hv
 |_,[],_,_::_,_,_,hu,_=>nomatch hu
 |_,_::_,_,[],_,_,hu,_=>nomatch hu
theorem gQ{C:Ai->Ap->Prop}{u:Aj}(hv:Ep s.heap v r)(hu:Ep s.heap u q)(h:C (B7 r q) s):AB (model prog w) A (keyLt' (tuples' Aa) v u) C E s:=by
 obtain⟨a,xs,rfl,⟨oa,ga,_,n,da⟩,ix,_⟩:=hv;obtain⟨b,ys,rfl,⟨ob,gb,_,m,db⟩,iy,_⟩:=hu;refine kat_lt ga da gb db ?_;have:=SU (prog:=prog) (w:=w) (A:=A) (s:=s) 0 ix iy h;simpa using this
theorem Ln:∀{r q:Ac Ag},B7 r q=Aa->B7 q r=Ad
 |[],[],h=>by cases h
 |[],_::_,_=>rfl
 |_::_,[],h=>by cases h
 |x::r,y::q,h=>by
  have h':(if x=y then B7 r q else decide (x<y))=Aa:=h
  show (if y=x then B7 q r else decide (y<x))=Ad
  by_cases e:x=y
  .rw[Aq e]at h';rw[Aq e.symm];exact Ln h'
  .rw[Ar e,AQ]at h';rw[Ar (Ed e),FA];omega
theorem Mk:∀{r q:Ac Ag},r≠q->B7 r q=Ad->B7 q r=Aa
 |[],[],n,_=>absurd rfl n
 |[],_::_,_,h=>by cases h
 |_::_,[],_,_=>rfl
 |x::r,y::q,n,h=>by
  have h':(if x=y then B7 r q else decide (x<y))=Ad:=h
  show (if y=x then B7 q r else decide (y<x))=Aa
  by_cases e:x=y
  .rw[Aq e]at h';rw[Aq e.symm];exact Mk (λz=>n (by rw[e,z])) h'
  .rw[Ar e,FA]at h';rw[Ar (Ed e),AQ];omega
theorem Mo:∀{r q t:Ac Ag},B7 r q=Aa->B7 q t=Aa->B7 r t=Aa
 |[],[],_,h,_=>by cases h
 |_::_,[],_,h,_=>by cases h
 |_,_::_,[],_,h=>by cases h
 |[],_::_,_::_,_,_=>rfl
 |x::r,y::q,u::t,h,g=>by
  have h':(if x=y then B7 r q else decide (x<y))=Aa:=h
  have g':(if y=u then B7 q t else decide (y<u))=Aa:=g
  show (if x=u then B7 r t else decide (x<u))=Aa
  by_cases e:x=y
  .rw[Aq e]at h';by_cases f:y=u
   .rw[Aq f]at g';rw[Aq (e.trans f)];exact Mo h' g'
   .rw[Ar f,AQ]at g';rw[Ar (by omega),AQ]
    omega
  .rw[Ar e,AQ]at h';by_cases f:y=u
   .rw[Ar (by omega),AQ]
    omega
   .rw[Ar f,AQ]at g';rw[Ar (by omega),AQ]
    omega
noncomputable def ltR(rs:Ac (Ac Ag))(i j:Ae):Ai:=B7 (rs.getD i []) (rs.getD j [])
theorem Y_9(nd:rs.Nodup):Sto (ltR rs) rs.length:=by
 refine⟨λi j k _ _ _=>Mo,λi j hi hj ne h=>Mk (λe=>ne ?_) h,λi j _ _=>Ln⟩
 have h':=Cv.mp nd;rw[Ba,Ba,AE hi,AE hj]at e;have e':rs[i]=rs[j]:=e;rcases Vy i j with z|z|z
 .exact absurd e' (h' i j hi hj z)
 .exact z
 .exact absurd e'.symm (h' j i hj hi z)
noncomputable abbrev Js(vs:Ac Aj)(p:Ax Ae):Ax Aj:=Cn (p.toList.map λi=>vs.getD i A3)
theorem Yw(vs:Ac Aj):Js vs (Cn (A8 vs.length))=vs.toArray:=by
 apply He.mp
 show (A8 vs.length).map (λi=>vs.getD i A3)=vs
 apply Hg
 .simp
 .intro i h1 h2;simp[h2]
theorem QZ{h:AD}:∀{vs:Ac Aj}{rs:Ac (Ac Ag)},rs.length=vs.length->(∀(i:Ae)(v:Aj)(r:Ac Ag),vs[i]?=Ab v->rs[i]?=Ab r->Ep h v r)->∃ fs,KatTups h vs fs/\fs.length=vs.length/\∀ v∈fs,∃ x t,v=GQ x t
 |[],_,_,_=>⟨[],KatTups.nil,rfl,λv hv=>by cases hv⟩
 |v::vs,[],hl,_=>by cases hl
 |v::vs,r::rs,hl,ht=>by
  obtain⟨fs,h1,h2,h3⟩:=QZ (vs:=vs) (rs:=rs) (by simpa using hl) λi v r a b=>ht (i+1) v r a b
  obtain⟨a,its,rfl,⟨o,ho,hc,n,hd⟩,hi,hne⟩:=ht 0 v r rfl rfl;cases e:its.toList with
  |nil=>
   rw[e]at hi;cases hi;exact absurd rfl hne
  |cons f l=>
   rw[e]at hi;cases hi with
   |cons x t hi=>
    refine⟨.int x t::fs,KatTups.cons ho hc hd ?_ h1,by simp[h2],λv hv=>?_⟩
    .rw[<-Cy,e];rfl
    .rcases AI.mp hv with rfl|hv
     .exact⟨x,t,rfl⟩
     .exact h3 v hv
theorem ZK{α:Type}(d:α){l' l:Ac α}(h:l'.Perm l):∃ p:Ac Ae,p.Perm (A8 l.length)/\l'=p.map λi=>l.getD i d:=by
 induction h with
 |nil=>exact⟨[],.nil,rfl⟩
 | @cons x l1 l2 h ih=>
  obtain⟨p,hp,e⟩:=ih;refine⟨0::p.map (· + 1),?_,?_⟩
  .rw[AS,EG];exact(hp.map _).cons 0
  .rw[BP,Dl,e];rfl
 | @swap x y l=>
  refine⟨1::0::(A8 l.length).map (· + 2),?_,?_⟩
  .rw[AS,AS,EG,EG,BP,Dl];exact .swap ..
  .rw[BP,BP,Dl];show y::x::l=_
   congr 2
   apply Hg
   .simp
   .intro i h1 h2;simp[h1]
 | @trans l1 l2 l3 h1 h2 ih1 ih2=>
  obtain⟨p,hp,e⟩:=ih1;obtain⟨q,hq,f⟩:=ih2;have hl:l2.length=l3.length:=h2.length_eq;have ql:q.length=l3.length:=by rw[hq.length_eq,G5]
  refine⟨p.map λi=>q.getD i 0,?_,?_⟩
  .refine(hp.map _).trans (U_8 (Hy ?_) hq)
   apply Hg
   .rw[AX,G5,hl,ql]
   .intro i h1 h2;rw[List.getElem_map,List.getElem_range];simp[h2]
  .rw[e,Dl]
   apply En
   intro i hi;have hi':i<l2.length:=DC.mp (hp.mem_iff.mp hi);show l2.getD i d=l3.getD (q.getD i 0) d;have g1:l2.getD i d=(q.map λi=>l3.getD i d).getD i d:=by rw[<-f]
   rw[g1];have hq':i<q.length:=by omega
   simp[hq']
theorem Ez.uniq(h:Ez vs r)(h':Ez vs q):r=q:=by rw[<-h.nums,<-h'.nums]
theorem Ep.uniq{h:AD}{v:Aj}{r q:Ac Ag}(t:Ep h v r)(u:Ep h v q):r=q:=by
 obtain⟨a,its,rfl,⟨o,ho,hc,n,hd⟩,hi,_⟩:=t;obtain⟨b,its',e,⟨o',ho',hc',n',hd'⟩,hi',_⟩:=u;cases e;rw[ho]at ho';cases ho';rw[hd]at hd';cases hd';exact Ez.uniq hi hi'
open Classical in
noncomputable def ltK(h:AD)(x y:At):Ai:=decide (∃ r q,Ep h x.1 r/\Ep h y.1 q/\B7 r q=Aa)
open Classical in
theorem JR{x y:At}(t:Ep h x.1 r)(u:Ep h y.1 q):ltK h x y=B7 r q:=by
 unfold ltK;cases e:B7 r q with
 |true=>exact DH ⟨r,q,t,u,e⟩
 |false=>
  refine Bu λ⟨r',q',t',u',e'⟩=>?_
  rw[t'.uniq t,u'.uniq u,e]at e';cases e'
theorem ZM(h:AD):OrdK (λx=>∃ r,Ep h x.1 r) (ltK h):=by
 refine⟨λ⟨r,t⟩ ⟨q,u⟩ e=>?_,λ⟨r,t⟩ ⟨q,u⟩ ⟨p,v⟩ e1 e2=>?_⟩
 .rw[JR t u]at e;rw[JR u t];exact Ln e
 .rw[JR u t]at e1;rw[JR v u]at e2;rw[JR v t];cases e:B7 p r with
  |false=>rfl
  |true=>
   by_cases a:p=q
   .rw[a,e1]at e;cases e
   .have x:=Mk a e2;have y:=Mo x e;rw[e1]at y;cases y
theorem Zn:Hw (model prog w) A s (tuples' Aa) (λx=>∃ r,Ep s.heap x.1 r) (ltK s.heap):=λE st x y Q hk ⟨r,t⟩ ⟨q,u⟩ h=>by
 rw[lt'_eq];refine Au (Fp ?_);rw[hk];rw[JR t u]at h;refine Au (wpS_lift (FT (gQ t u ⟨rfl,?_⟩)));exact AA h
theorem aX(hr:rs.length=vs.length)(kt:∀(i:Ae)(v:Aj)(r:Ac Ag),vs[i]?=Ab v->rs[i]?=Ab r->Ep s.heap v r)(nd:rs.Nodup):AB (model prog w) A ((sortRuns').run (JZ (tuples' Aa) (vs.toArray.zip vs.toArray) #[] 7 Af)) (λr s'=>s'=s/\∃ p,Pm vs.length p/\KR (ltR rs) p vs.length/\(Av r.2).map (·.2)=Js vs p/\DD r.2=Af) E s:=by
 have tl:(vs.toArray.zip vs.toArray).toList=vs.zip vs:=by simp
 have zl:(vs.zip vs).length=vs.length:=by simp
 have zg:∀ i (h:i<vs.length),(vs.zip vs).getD i (A3,A3)=(vs[i],vs[i]):=λi h=>by simp[h]
 refine XG (st:=JZ (tuples' Aa) (vs.toArray.zip vs.toArray) #[] 7 Af) (Q:=λ_ st'=>∃ p,Pm vs.length p/\KR (ltR rs) p vs.length/\(Av st').map (·.2)=Js vs p/\DD st'=Af) (V:=λx=>∃ r,Ep s.heap x.1 r) (a0:=vs.toArray.zip vs.toArray) Zn (ZM s.heap) (λx hx=>?_) rfl rfl rfl rfl λst' _ hf pm so=>?_
 .rw[tl]at hx;obtain⟨i,hi,rfl⟩:=Em hx;rw[zl]at hi;rw[List.getElem_zip];exact⟨_,kt i _ _ (AE hi) (AE (by omega:i<rs.length))⟩
 .rw[tl]at pm;obtain⟨p,hp,e⟩:=ZK (A3,A3) pm;rw[zl]at hp;have pl:p.length=vs.length:=by rw[hp.length_eq,G5]
  have pn:p.Nodup:=hp.symm.nodup List.nodup_range;have pa:∀ x (h:x<vs.length),at0 p.toArray x=p[x]'(by omega):=λx h=>by simp[at0,DI,show x<p.length by omega]
  have plt:∀ x (h:x<vs.length),p[x]'(by omega)<vs.length:=λx h=>DC.mp (hp.mem_iff.mp (BH (by omega)))
  have PM:Pm vs.length p.toArray:=by
   refine⟨by simpa using pl,λx hx=>by rw[pa x hx];exact plt x hx,λx y hx hy h=>?_⟩
   rw[pa x hx,pa y hy]at h;have:=Cv.mp pn;rcases Vy x y with z|z|z
   .exact absurd h (this x y (by omega) (by omega) z)
   .exact z
   .exact absurd h.symm (this y x (by omega) (by omega) z)
  have ka:∀ x (h:x<vs.length),ka0 (Av st') x=(vs[p[x]'(by omega)]'(plt x h),vs[p[x]'(by omega)]'(plt x h)):=λx h=>by
   rw[Kn,e,Cp,AE (by omega)]
   show (vs.zip vs).getD p[x] (A3,A3)=_;rw[zg _ (plt x h)]
  have kr:∀ x (h:x<vs.length),Ep s.heap (ka0 (Av st') x).1 (rs.getD (p[x]'(by omega)) []):=λx h=>by
   rw[ka x h];have:=plt x h;refine kt _ _ _ (AE this) ?_;rw[Ba,AE (by omega)]
   rfl
  have zs:(vs.toArray.zip vs.toArray).size=vs.length:=by simp
  refine⟨p.toArray,PM,λx y hxy hy=>?_,?_,hf⟩
  .have g:=so x y (CI _) hxy (by rw[zs];exact hy)
   have hx:x<vs.length:=by omega
   have g:ltK s.heap (ka0 (Av st') y) (ka0 (Av st') x)=Ad:=g;rw[JR (kr y hy) (kr x hx)]at g;rw[pa x hx,pa y hy];have S:=Y_9 nd;refine S.tot _ _ (by rw[hr];exact plt y hy) (by rw[hr];exact plt x hx) (λh=>?_) g
   have:=PM.inj y x hy hx (by rw[pa x hx,pa y hy];exact h)
   omega
  .apply He.mp
   rw[Array.toList_map,e,Dl];show _=p.map λi=>vs.getD i A3
   apply En
   intro i hi;have hi':i<vs.length:=DC.mp (hp.mem_iff.mp hi);show ((vs.zip vs).getD i (A3,A3)).2=_;rw[zg i hi'];simp[hi']
theorem Xz{a:Ak}{n:Ae}{P:PySem.Fin->Ap->Prop}(ho:s.heap.get? a=Ab (Dc "list" vs.toArray n))(hr:rs.length=vs.length)(ht:∀(i:Ae)(v:Aj)(r:Ac Ag),vs[i]?=Ab v->rs[i]?=Ab r->Ep s.heap v r)(nd:rs.Nodup)(hz:vs.length<=1000)(h:∀ p:Ax Ae,Pm vs.length p->KR (ltR rs) p vs.length->P (.done (.ret .none)) {s with heap:=sortedHeap s.heap a vs (Js vs p)}):AB (model prog w) A (Builtin.«list.sort» ⟨[.ref a],[]⟩) P E s:=by
 rw[list_sort_plain];have ha:a<s.heap.objs.size:=AL ho;refine Ao (listItems_at ho rfl ?_ );refine Ao (listUpdate_at ho rfl ?_ (by rw[AH,B9];omega) (CI _))
 obtain⟨e1,ho1⟩:∃ e1,(s.heap.update a (C6 λ_=>(#[]:Ax Aj))).get? a=Ab (Dc "list" #[] e1):=⟨_,get?_update_seq ho (λ_=>#[])⟩
 refine Ao (seqEpoch_at ho1 rfl ?_);refine Ao (Xn ?_ (by show vs.length<=_;rw[B9];omega))
 refine Ao (wpAny_newList ?_ (CI _));refine IW ?_;have ho6:(((s.heap.update a (C6 λ_=>(#[]:Ax Aj))).push (Dc "tuple" vs.toArray 0)).push (Dc "list" #[] 0)).get? a=Ab (Dc "list" #[] e1):=by
  rw[FF _ _ _ (by rw[size_push',Hn];exact Bj (Cq ha)),FF _ _ _ (by rw[Hn];exact Bj ha)]
  exact ho1
 show AB (model prog w) A _ P E { s with heap:=((s.heap.update a (C6 λ_=>(#[]:Ax Aj))).push (Dc "tuple" vs.toArray 0)).push (Dc "list" #[] 0) }
 have kt:∀(i:Ae)(v:Aj)(r:Ac Ag),vs[i]?=Ab v->rs[i]?=Ab r->Ep (((s.heap.update a (C6 λ_=>(#[]:Ax Aj))).push (Dc "tuple" vs.toArray 0)).push (Dc "list" #[] 0)) v r:=λi v r h1 h2=>by
  obtain⟨b,its,e,⟨o,hb,hc,q⟩,x,y⟩:=ht i v r h1 h2;have ne:b≠a:=λz=>by
   rw[z,ho]at hb;cases hb;have hc':Fq "list" = Fq "tuple" := hc
   injection hc' with hc'
   exact absurd hc' (by decide)
  refine⟨b,its,e,⟨o,?_,hc,q⟩,x,y⟩;exact As _ (As _ ((C4 _ _ (Ed ne)).trans hb))
 dsimp only;have hsz:vs.toArray.size=vs.length:=by simp
 have fin:∀ p:Ax Ae,Pm vs.length p->KR (ltR rs) p vs.length->∀ st':AU,(Av st').map (·.2)=Js vs p->DD st'=Af->∀ s':Ap,s'={ s with heap:=((s.heap.update a (C6 λ_=>(#[]:Ax Aj))).push (Dc "tuple" vs.toArray 0)).push (Dc "list" #[] 0) }->AB (model prog w) A (do
   let sorted:=(Av st').map (·.2)
   let touched:=(<-seqEpoch a) != e1
   Builtin.List.listUpdate (.ref a) λ_=>sorted
   if let Ab e:=DD st' then rule "list.sort.comparison-raised"; throw e
   if touched then rule "list.sort.modified"; raiseError "ValueError" "list modified during sort"
   ret .none) P E s':=λp hp hs st' ho' hf s' es=>by
  subst es;have osz:(Js vs p).size=vs.length:=by show (Cn (p.toList.map _)).size=_;rw[AH,AX,AF,hp.sz]
  refine Ao (seqEpoch_at ho6 rfl ?_);rw[ho',hf];refine Ao (listUpdate_at ho6 rfl ?_ (CI _) (by rw[osz,B9];omega))
  simp only[bne_self_eq_false,Bool.false_eq_true,JX];exact AK (h p hp hs)
 by_cases h2:vs.toArray.size<2
 .rw[Aq h2,Aq h2];refine Ao (AK ?_);rw[StateT.run_pure];refine Ao (AK ?_);dsimp only;refine fin (Cn (A8 vs.length)) (YO _) (λx y a b=>by omega) (JZ general' (vs.toArray.zip vs.toArray) #[] 7 Af) ?_ rfl _ rfl
  rw[Yw];show (vs.toArray.zip vs.toArray).map (·.2)=vs.toArray
  apply He.mp
  simp[List.map_snd_zip]
 .rw[Ar h2,Ar h2];have h2':2<=vs.length:=by rw[hsz]at h2;omega
  obtain⟨fs,t1,t2,t3⟩:=QZ hr kt;refine Ao (kat_kind t1 (by omega) (T:=Fq "int") (λv hv=>?_) rfl ?_)
  .obtain⟨x,t,rfl⟩:=t3 v hv;exact .now
  .have e0:tuples' (Fq "int" != Fq "tuple")=tuples' Aa:=rfl;rw[e0];refine Ao (Bt (aX hr kt nd) ?_ λ_ _ e=>e)
   rintro⟨⟨⟩,st'⟩ s' ⟨es,p,hp,hs,ho',hf⟩;exact fin p hp hs st' ho' hf s' es
theorem Yd{l:Ak}{Q:Vq}(hl:s.heap.IsList l vs.toArray)(hr:rs.length=vs.length)(ht:∀(i:Ae)(v:Aj)(r:Ac Ag),vs[i]?=Ab v->rs[i]?=Ab r->Ep s.heap v r)(nd:rs.Nodup)(hz:vs.length<=1000)(h:∀ p:Ax Ae,Pm vs.length p->KR (ltR rs) p vs.length->Q (.ref (s.heap.objs.size+1)) {s with heap:=sortedAll s.heap vs (Js vs p)}):
    AB (model prog w) A (call (.builtin "sorted") [.ref l]) Q E s:=by
  refine Calls.call_function_entry kind_sorted plain_sorted entry_sorted (args_sorted1 _) ?_;unfold Builtin.«sorted»;refine Ao (m:=checkCount "sorted" 1 1 _) (AK ?_);refine Ao (collect_list hl ?_ (by rw[B9];omega))
  refine Ao (wpAny_newList ?_ (by rw[B9];omega))
  have hsz:((s.heap.push (Dc "list" #[] 0)).update s.heap.objs.size (C6 (· ++ vs.toArray))).objs.size=s.heap.objs.size+1:=by
    rw[Hn,size_push']
  have hoL:(((s.heap.push (Dc "list" #[] 0)).update s.heap.objs.size (C6 (· ++ vs.toArray))).push (Dc "list" vs.toArray 0)).get? (s.heap.objs.size+1)=Ab (Dc "list" vs.toArray 0):=by
    rw[<-hsz];exact AJ _ rfl
  have keep:∀ b o,s.heap.get? b=Ab o->(((s.heap.push (Dc "list" #[] 0)).update s.heap.objs.size (C6 (· ++ vs.toArray))).push (Dc "list" vs.toArray 0)).get? b=Ab o:=λb o q=>by
    have hlt:b<s.heap.objs.size:=AL q;rw[FF _ _ _ (by rw[hsz];exact Bj (Cq hlt)),Heap.get?_update_ne _ _ _ _ (Bj hlt),FF _ _ _ (Bj hlt)]
    exact q
  show AB _ _ _ _ _ { s with heap:=((s.heap.push (Dc "list" #[] 0)).update s.heap.objs.size (C6 (· ++ vs.toArray))).push (Dc "list" vs.toArray 0) }
  rw[hsz];refine Ao (IW (Da slot_list_sort ⟨_,hoL,rfl⟩ entry_list_sort (Xz (s:={ s with heap:=((s.heap.push (Dc "list" #[] 0)).update s.heap.objs.size (C6 (· ++ vs.toArray))).push (Dc "list" vs.toArray 0) }) hoL hr (λi v r h1 h2=>(ht i v r h1 h2).kept keep) nd hz λp hp hs=>⟨_,rfl,?_⟩) (args_list_sort _)))
  exact AK ⟨_,rfl,h p hp hs⟩
end
end Ov
section
namespace Ov
noncomputable def tI(r:Ac Ag):D:=.tup (r.map D.int)
theorem NT:∀(r q:Ac Ag),eqDs (r.map D.int) (q.map D.int)=decide (r=q)
 |[],[]=>rfl
 |[],_::_=>rfl
 |_::_,[]=>rfl
 |x::r,y::q=>by
  have e:eqDs ((x::r).map D.int) ((y::q).map D.int)=(x==y&&eqDs (r.map D.int) (q.map D.int)):=rfl;rw[e,NT r q];by_cases h:x=y<;>by_cases g:r=q<;>simp[h,g]
theorem Ta(r q:Ac Ag):eqD (tI r) (tI q)=decide (r=q):=NT r q
theorem QR:∀(r q:Ac Ag),ltD.ltDs (ltD 0) (r.map D.int) (q.map D.int)=B7 r q
 |[],[]=>rfl
 |[],_::_=>rfl
 |_::_,[]=>rfl
 |x::r,y::q=>by
  have e:ltD.ltDs (ltD 0) ((x::r).map D.int) ((y::q).map D.int)=if (x==y)=Aa then ltD.ltDs (ltD 0) (r.map D.int) (q.map D.int) else decide (x<y):=rfl
  have e':B7 (x::r) (y::q)=if x=y then B7 r q else decide (x<y):=rfl
  rw[e,e',QR r q];by_cases h:x=y<;>simp[h]
theorem iW(r q:Ac Ag):ltD 1 (tI r) (tI q)=B7 r q:=QR r q
theorem Sf:∀{xs:Ac D},xs.all (rkD 0)=Aa->∃ r:Ac Ag,xs=r.map D.int
 |[],_=>⟨[],rfl⟩
 |x::xs,h=>by
  rw[C5,Al]at h;obtain⟨r,e⟩:=Sf h.2;cases x with
  |int i=>exact⟨i::r,by rw[e];rfl⟩
  |_=>cases h.1
theorem oJ{d:D}(h:rkD 1 d=Aa):∃ r,d=tI r:=by
 cases d with
 |tup xs=>
  obtain⟨r,e⟩:=Sf (xs:=xs) h;exact⟨r,by rw[e];rfl⟩
 |_=>cases h
theorem Tv:∀{xs:Ac D},xs.all (λd=>rkD 1 d && !eqD d (.tup []))=Aa->∃ rs:Ac (Ac Ag),xs=rs.map tI/\∀ r∈rs,r≠[]
 |[],_=>⟨[],rfl,λr h=>by cases h⟩
 |x::xs,h=>by
  rw[C5,Al,Al]at h;obtain⟨rs,e,hn⟩:=Tv h.2;obtain⟨r,e1⟩:=oJ h.1.1;refine⟨r::rs,by rw[e,e1];rfl,λq hq=>?_⟩
  rcases AI.mp hq with rfl|hq
  .intro z;have h2:=h.1.2;rw[e1,z]at h2;cases h2
  .exact hn q hq
theorem Tw:∀{rs:Ac (Ac Ag)},(∀ r∈rs,r≠[])->(rs.map tI).all (λd=>rkD 1 d && !eqD d (.tup []))=Aa
 |[],_=>rfl
 |r::rs,h=>by
  rw[BP,C5,Al,Al];refine⟨⟨?_,?_⟩,Tw λq hq=>h q (AC _ hq)⟩
  .show (r.map D.int).all (rkD 0)=Aa;rw[C8];intro d hd;obtain⟨i,_,rfl⟩:=Fa.mp hd;rfl
  .have e:eqD (tI r) (.tup [])=decide (r=[]):=NT r [];rw[e];have:=h r (AN ..);simp[this]
noncomputable def HZ(x:Ac Ag):Ac (Ac Ag)->Ac (Ac Ag)
 |[]=>[x]
 |y::ys=>if B7 y x=Aa then y::HZ x ys else x::y::ys
noncomputable def Gv:Ac (Ac Ag)->Ac (Ac Ag)
 |[]=>[]
 |x::xs=>HZ x (Gv xs)
theorem SY(x:Ac Ag):∀ ys:Ac (Ac Ag),KW (ltD 1) (tI x) (ys.map tI)=(HZ x ys).map tI
 |[]=>rfl
 |y::ys=>by
  have e:KW (ltD 1) (tI x) ((y::ys).map tI)=if ltD 1 (tI y) (tI x)=Aa then tI y::KW (ltD 1) (tI x) (ys.map tI) else tI x::tI y::ys.map tI:=rfl
  have e':HZ x (y::ys)=if B7 y x=Aa then y::HZ x ys else x::y::ys:=rfl
  rw[e,e',iW,SY x ys];by_cases h:B7 y x=Aa<;>simp[h]
theorem Oq:∀ rs:Ac (Ac Ag),MQ (ltD 1) (rs.map tI)=(Gv rs).map tI
 |[]=>rfl
 |r::rs=>by
  show KW (ltD 1) (tI r) (MQ (ltD 1) (rs.map tI))=(HZ r (Gv rs)).map tI;rw[Oq rs,SY]
theorem Ob(x:Ac Ag):∀ ys:Ac (Ac Ag),(HZ x ys).Perm (x::ys)
 |[]=>.refl _
 |y::ys=>by
  show (if B7 y x=Aa then y::HZ x ys else x::y::ys).Perm _
  split
  .exact(H9 y (Ob x ys)).trans (List.Perm.swap ..)
  .exact .refl _
theorem Ld:∀ rs:Ac (Ac Ag),(Gv rs).Perm rs
 |[]=>.refl _
 |r::rs=>(Ob r _).trans (H9 r (Ld rs))
theorem SZ(x:Ac Ag):∀{ys:Ac (Ac Ag)},x∉ys->ys.Pairwise (λa b=>B7 a b=Aa)->(HZ x ys).Pairwise (λa b=>B7 a b=Aa)
 |[],_,_=>List.pairwise_singleton ..
 |y::ys,hx,h=>by
  show (if B7 y x=Aa then y::HZ x ys else x::y::ys).Pairwise _
  obtain⟨h1,h2⟩:=DM.mp h;by_cases g:B7 y x=Aa
  .rw[Aq g];refine DM.mpr ⟨λz hz=>?_,SZ x (λm=>hx (AC _ m)) h2⟩
   rcases AI.mp ((Ob x ys).mem_iff.mp hz) with rfl|hz
   .exact g
   .exact h1 z hz
  .rw[Ar g];have g':B7 y x=Ad:=by simpa using g
   have xy:B7 x y=Aa:=Mk (λe=>hx (by rw[e];exact AN ..)) g'
   refine DM.mpr ⟨λz hz=>?_,h⟩
   rcases AI.mp hz with rfl|hz
   .exact xy
   .exact Mo xy (h1 z hz)
theorem Os:∀{rs:Ac (Ac Ag)},rs.Nodup->(Gv rs).Pairwise (λa b=>B7 a b=Aa)
 |[],_=>.nil
 |r::rs,h=>by
  obtain⟨h1,h2⟩:=EF.mp h;exact SZ r (λm=>h1 ((Ld rs).mem_iff.mp m)) (Os h2)
theorem Qp{ys rs:Ac (Ac Ag)}(nd:rs.Nodup)(hs:ys.Pairwise (λa b=>B7 a b=Aa))(hp:ys.Perm rs):Gv rs=ys:=by
 refine List.Perm.eq_of_pairwise (le:=λa b=>B7 a b=Aa) (λa b _ _ h1 h2=>?_) (Os nd) hs ((Ld rs).trans hp.symm)
 rw[Ln h1]at h2;cases h2
theorem RB{α:Type}[DecidableEq α]:∀{l m:Ac α},l.Nodup->(∀ x∈l,x∈m)->m.length<=l.length->l.Perm m
 |[],m,_,_,hl=>by
  cases m with
  |nil=>exact .refl _
  |cons a m=>simp at hl
 |x::l,m,nd,hs,hl=>by
  obtain⟨h1,h2⟩:=EF.mp nd;have hx:x∈m:=hs x (AN ..);have hp:=List.perm_cons_erase hx;refine(H9 x (RB h2 (λy hy=>?_) ?_)).trans hp.symm
  .refine(List.mem_erase_of_ne (λe=>h1 (by rw[<-e];exact hy))).mpr (hs y (AC _ hy))
  .have:=List.length_erase_of_mem hx;simp at hl;omega
theorem QQ{ys:Ac (Ac Ag)}(h:ys.Pairwise (λa b=>B7 a b=Aa)):ys.Nodup:=
 h.imp λ{a b} g e=>by
  subst e;have:=Ln g;rw[g]at this;cases this
theorem YH{α:Type}[DecidableEq α]{l m:Ac α}(hl:l.Nodup)(hm:m.Nodup)(h:∀ x,x∈l↔x∈m):l.Perm m:=by
 rw[List.perm_iff_count];intro a;rw[hl.count,hm.count];simp[h]
theorem Oz:∀ rs:Ac (Ac Ag),KU (rs.map tI)=Aa↔rs.Nodup
 |[]=>by simp[KU]
 |r::rs=>by
  have e:KU ((r::rs).map tI)=((rs.map tI).all (λy=>!eqD (tI r) y)&&KU (rs.map tI)):=rfl
  rw[e,Al,Oz rs,List.nodup_cons];refine and_congr ?_ Iff.rfl;rw[E9,C8];constructor
  .intro h m;have:=h r m;simp[Ta]at this
  .intro h q hq;have:r≠q:=λz=>h (by rw[z];exact hq)
   simp[Ta,this]
theorem Yg{rs ys:Ac (Ac Ag)}(hn:∀ r∈rs,r≠[])(nd:rs.Nodup)(hz:rs.length<=1000)(hs:ys.Pairwise (λa b=>B7 a b=Aa))(hm:∀ r,r∈ys↔r∈rs):Gp (rs.map tI)=.ok (ys.map tI):=by
 unfold Gp;rw[Aq (by rw[Tw hn,(Oz rs).mpr nd,AX,DH hz];rfl),Oq,Qp nd hs (YH (QQ hs) nd hm)]
theorem Ye{xs:Ac D}{d:Ac D}(h:Gp xs=.ok d):∃ rs:Ac (Ac Ag),xs=rs.map tI/\(∀ r∈rs,r≠[])/\rs.Nodup/\rs.length<=1000/\d=(Gv rs).map tI:=by
 unfold Gp at h;split at h
 .next g=>
  rw[Al,Al,AQ]at g;obtain⟨rs,e,hn⟩:=Tv g.1.1;subst e;rw[Oq]at h;cases h;exact⟨rs,rfl,hn,(Oz rs).mp g.1.2,by simpa using g.2,rfl⟩
 .cases h
open PySem PySem.Spec PyProof.Rows L2
variable{n:Ae}{p:Ax Ae}
section
variable{X:Cx}{CL:ClA}{W:XW}
theorem QW{K:Fg}{H:Hp}{A:Ak->Prop}:∀{is:Ac Ag}{ys:Ac V},Reps K CL H A ys (is.map D.int)->ys=is.map V.int
 |[],[],_=>rfl
 |[],_::_,r=>r.elim
 |_::_,[],r=>r.elim
 |i::is,y::ys,r=>by
  have e1:y=.int i:=r.1;rw[QW r.2,e1];rfl
theorem Q1:∀{is:Ac Ag}{its:Ac Aj},A6 (is.map V.int) its->Ez its is
 |[],_,h=>by cases h;exact .nil
 |i::is,_,h=>by
  cases h with
  |cons h1 h2=>
   obtain⟨t,rfl⟩:=h1;exact .cons i t (Q1 h2)
theorem Ra{pI:Pn}{s:Ap}{Y:Ac (Am V)}{H:Hp}{A:Ak->Prop}(I:Inv X pI Y H s):∀{rs:Ac (Ac Ag)}{ys:Ac V}{its:Ac Aj},Reps X.K CL H A ys (rs.map tI)->A6 ys its->(∀ r∈rs,r≠[])->∀(i:Ae)(v:Aj)(r:Ac Ag),its[i]?=Ab v->rs[i]?=Ab r->Ep s.heap v r
 |[],_,_,_,_,_,i,v,r,_,e=>by cases e
 |_::_,[],_,h,_,_,_,_,_,_,_=>h.elim
 |q::rs,y::ys,_,h,hv,hn,i,v,r,e1,e2=>by
  cases hv with
  |cons h1 h2=>
   cases i with
   |succ i=>exact Ra I h.2 h2 (λr m=>hn r (AC _ m)) i v r e1 e2
   |zero=>
    cases e1;cases e2;have h0:CG X.K CL H A y (.tup (q.map D.int)):=.inl h.1;obtain⟨a,xs,rfl,_,sq,rx⟩:=h0.tup_of;obtain⟨its,hi,ht,_⟩:=I.tuple sq;rw[QW rx]at hi;cases h1;exact⟨a,its.toArray,rfl,ht,Q1 hi,hn q (AN ..)⟩
theorem Qm{ys:Ac V}{its:Ac Aj}(h:A6 ys its):∀ l:Ac Ae,(∀ i∈l,i<ys.length)->A6 (l.map λi=>ys.getD i .non) (l.map λi=>its.getD i A3)
 |[],_=>.nil
 |i::l,hl=>by
  have hi:i<ys.length:=hl i (AN ..);have e:ys[i]?=Ab ys[i]:=AE hi;obtain⟨u,e2,r⟩:=h.get e;refine .cons ?_ (Qm h l λj hj=>hl j (AC _ hj))
  show Bx (ys.getD i .non) (its.getD i A3);rw[Ba,Ba,e,e2];exact r
theorem Sg{K:Fg}{H:Hp}{A:Ak->Prop}:∀{ys:Ac V}{ds:Ac D}{i:Ae},Reps K CL H A ys ds->i<ds.length->Rep K CL H A (ys.getD i .non) (ds.getD i .non)
 |[],[],_,_,h=>by cases h
 |[],_::_,_,r,_=>r.elim
 |_::_,[],_,r,_=>r.elim
 |y::ys,d::ds,0,r,_=>r.1
 |y::ys,d::ds,i+1,r,h=>Sg (ys:=ys) (ds:=ds) (i:=i) r.2 (Nat.lt_of_succ_lt_succ h)
theorem QL{K:Fg}{H:Hp}{A:Ak->Prop}{ys:Ac V}{ds:Ac D}(h:Reps K CL H A ys ds):∀ l:Ac Ae,(∀ i∈l,i<ds.length)->Reps K CL H A (l.map λi=>ys.getD i .non) (l.map λi=>ds.getD i .non)
 |[],_=>trivial
 |i::l,hl=>⟨Sg h (hl i (AN ..)),QL h l λj hj=>hl j (AC _ hj)⟩
theorem MF(hp:Pm n p):∀ i∈p.toList,i<n:=λi hi=>by
 obtain⟨j,hj,e⟩:=List.mem_iff_getElem.mp hi;have hj':j<n:=by rw[<-hp.sz];simpa using hj
 have:=hp.lt j hj';unfold at0 at this;rw[DK,<-Cy,AE hj,e]at this;exact this
theorem T5(hp:Pm n p){j:Ae}(hj:j<p.toList.length):at0 p j=p.toList[j]:=by
 unfold at0;rw[DK,<-Cy,AE hj];rfl
theorem Ys{rs:Ac (Ac Ag)}(nd:rs.Nodup)(hp:Pm rs.length p)(hs:KR (ltR rs) p rs.length):p.toList.map (λi=>rs.getD i [])=Gv rs:=by
 have hl:p.toList.length=rs.length:=by rw[AF,hp.sz]
 have pw:(p.toList.map (λi=>rs.getD i [])).Pairwise (λa b=>B7 a b=Aa):=by
  rw[List.pairwise_map,Cv];intro i j hi hj hij;have:=hs i j hij (by omega)
  rw[T5 hp hi,T5 hp hj]at this;exact this
 refine(Qp nd pw (RB (QQ pw) (λx hx=>?_) (by rw[AX,hl];exact Aw _))).symm
 obtain⟨i,hi,rfl⟩:=Fa.mp hx;have:=MF hp i hi;rw[Ba,AE this];exact BH this
theorem Zk:Ng X CL W (.builtin "sorted") (biD .sorted):=by
  intro A H0 pI s Y H xs us Q I r ⟨s0,hA,ds,rs,p⟩;by_cases hls:∃ es,ds=[.lst es]
  · obtain⟨es,rfl⟩:=hls;obtain⟨v,rfl,rv⟩:=rs.one;obtain⟨q,ys,rfl,sq,ry⟩:=rv.lst_of;have p':Bg (DY X.K CL Aa H0 A) W H ((Gp es).bind λb=>.ok (.lst b)) Q:=p
    cases hd:Gp es with
    |exn x=>
      unfold Gp at hd;split at hd<;>cases hd
    |bad=>
      rw[hd]at p';exact p'.elim
    |ok d=>
      rw[hd]at p';obtain⟨rs',rfl,hn,nd,h1000,rfl⟩:=Ye hd;obtain⟨u,rfl,rx⟩:=Jg r;cases rx;obtain⟨its,hv,pl,hz⟩:=I.list sq;have l1:ys.length=rs'.length:=by rw[ry.length,AX]
      have l2:ys.length=its.length:=hv.length;refine Yd pl.isList (by omega) (Ra I ry hv hn) nd (by omega) λpp hp hs=>?_
      rw[<-l2,l1]at hp hs;have e1:=Ys nd hp hs;have rp:=QL ry pp.toList (λi hi=>by rw[AX];exact MF hp i hi)
      have e2:(pp.toList.map λi=>(rs'.map tI).getD i .non)=(Gv rs').map tI:=by
        rw[<-e1,Dl]
        apply En
        intro i hi;have:=MF hp i hi;simp[AE this]
      rw[e2]at rp;have vp:=Qm hv pp.toList (λi hi=>by rw[l1];exact MF hp i hi)
      obtain⟨c,hat⟩:=sortedAll_at s.heap its (Js its pp);have hf:=I.hok.fresh (Jx s.heap.objs.size);refine⟨.ref (s.heap.objs.size+1),_,I.laid (t':=s.toks) (λb o hb=>sortedAll_old hb) (Jx _) (o:=.lst (pp.toList.map λi=>ys.getD i .non)) ?_,rfl,p' _ _ (FI hf _) (JG s0 hA hf rp)⟩
      refine⟨?_,pp.toList.map λi=>its.getD i A3,c,vp,hat⟩
      rw[AX,AF,hp.sz,B9];omega
  · have e:biD .sorted ds=.bad:=by
      match ds with
      |[]=>rfl
      |[x]=>cases x<;>first|rfl|exact absurd ⟨_,rfl⟩ hls
      |x::_::_=>cases x<;>rfl
    rw[e]at p;exact p.elim
end
end Ov
end
section
namespace Ov
open PySem PySem.Spec PyProof.Rows
section
variable{t:SetTable}{hashAt:Ae->Ag}{h:Ag}
noncomputable def stand(i b:Ae):SetTable.Probe:=⟨i,0,i,b,Af⟩
end
section
variable{prog:AM}{w:AY}{A:AT}{E:Vq}{s:Ap}{K:Type} [DecidableEq K] {knd:KeyKind prog w K}
end
section
variable{prog:AM}{w:AY}{A:AT}{R:Ie->Ap->Prop}{I:Ak}{fp wr:Ac Ak}{G:Ax EH->Ax EH->Prop}{n:Ae}{P:Ae->Aj->Prop}{St:Ae->Ap->Prop}
end
section
variable{prog:AM}{w:AY}{A:AT}{E:Vq}{s:Ap}
end
end Ov
end
namespace Ov
open PySem PySem.Spec PyProof.Rows L2
variable{P:AM}{w:AY}{H H':Hp}{h h':AD}{a T' C C':Ak}{oe:DE}{vs:Ax Aj}{Q:FZ->Ap->Prop}{a0:Aj}{X:Cx}{pI:Pn}{Y Y0:L2.St}{K:Fg}{m:Ah->Am Aj}{x g qual x0:Ah}{v:Am Aj}{M:Eo}{tk:BV}{fill expr fr:Ai}{φ:AD->Prop}{CL:ClA}{Fz:Ak->HO->Prop}{B A:Ak->Prop}{U:Rho}{W:XW}{hs:Ac AZ}{h0:AZ}{fh:Rho->O}{up:Ae->Ac Ae}{pos p pos' np cpos:AR}{CX:CXT}{k c kk:Ae}{fd:BQ}{ps:Ac Ah}{Xw:Vq}{fs:Rho->R (Ac D)}{xn:Ae->Ac D->R Ex}{d:D}{α:Type}{as:Es}{xs ys:Ac An}{env:Cr}{scope:BY}{ts:Ac Ae}
section
variable{X:Cx}
def Nt(K:Fg)(H:Hp):Ac V->Ac (Ac Ag)->Prop
 |[],[]=>HJ
 |x::xs,k::ks=>(∃ b,x=.ref b/\SqT K H b (k.map V.int))/\Nt K H xs ks
 |_,_=>A5
theorem Nt.length{K:Fg}{H:Hp}:∀{xs:Ac V}{ks:Ac (Ac Ag)},Nt K H xs ks->xs.length=ks.length
 |[],[],_=>rfl
 |_::_,_::_,h=>congrArg (· + 1) (Nt.length h.2)
 |[],_::_,h=>h.elim
 |_::_,[],h=>h.elim
variable{CL:ClA}{W:XW}{pos p pos' p':AR}{a:An}{fa:Rho->R D}
end
section
theorem cL(l:Ak)(items:Ax Aj)(n:Ae)(b:Ak)(items2:Ax Aj)(n2:Ae)(dd:Am Ak)(sl:Ax (Am Aj))(hs0:¬(!items.isEmpty&&Dm (items.size+items2.size))=Aa)(hs1:items.size<=sizeLine)(hs2:items.size+items2.size<=sizeLine+1):
  Meets (Builtin.«list.extend» ⟨[.ref l,.ref b],[]⟩) (λ_ R s=>s.heap.get? l=Ab { cls:=.type "list",dict:=Af,data:=.seq items n,slots:=#[] }/\s.heap.get? b=Ab { cls:=.type "tuple",dict:=dd,data:=.seq items2 n2,slots:=sl }/\R (.ok (.ret A3)) {s with heap:=s.heap.update l (C6 λx=>x++items2),toks:=s.toks}):=
 .of_wp λprog w A R s h=>by
  obtain⟨hp,g,d,tk,os⟩:=s;obtain⟨hl,hb,h⟩:=h;have f1:=AutoSeq1.idx_int;have f2:=AutoSeq1.sub_tuple_tuple;have f3:=AutoSeq1.sub_list_list;have f4:=AutoSeq1.sub_tuple_list;have f5:=AutoSeq1.sub_list_tuple;
  have hz':(items++items2).size<=sizeLine+1:=by rw[FB];exact hs2
  wp_walk using (wpAny_updateSeq hl rfl (hz:=hs1) (_hz':=hz')),VO hl,VO hb;exact⟨_,rfl,h⟩
end
section
variable{X:Cx}
def oO(K:Fg):V->Ac V->Hp->VK->Prop:=λx vs H Q=>∃ l b xs zs,x=.ref l/\vs=[.ref b]/\H l=Ab (.lst xs)/\SqT K H b zs/\xs.length+zs.length<=sizeLine/\Q .non (upd H l (.lst (xs++zs)))
theorem cU:MtM X "list.extend" (oO X.K):=by
 intro pI s Y H x vs v us Q I rx rv h;obtain⟨l,b,xs,zs,rfl,rfl,hH,hB,hz,q⟩:=h;cases rx;obtain⟨u,rfl,ru⟩:=rv.one;cases ru;obtain⟨z,its,n,r,hl,e⟩:=I.lstM hH;obtain⟨its2,r2,⟨o,e2,c2,n2,d2⟩,z2⟩:=I.tuple hB;have hl2:=r2.length;obtain⟨oc,od,oda,os⟩:=o;dsimp only at c2 d2;subst c2 d2;have hsz:its.toArray.size+its2.toArray.size<=sizeLine:=by rw[AH,AH];omega
 have hlong:¬ (!its.toArray.isEmpty&&Dm (its.toArray.size+its2.toArray.size))=Aa:=by
  rw[Rs hsz,Fn];exact Az
 refine Ir EN ⟨_,e,rfl⟩ Wu (Wo _ _)
  (cL l its.toArray n b its2.toArray n2 od os hlong (by rw[AH];omega) (by omega)) ⟨e,e2,?_⟩
 refine⟨.non,_,I.lset (its':=its++its2) hH e (by simp) (r.append r2) ?_,rfl,q⟩
 rw[Be];omega
variable{CL:ClA}{W:XW}{o e:An}{fe:Rho->R D}{i:Ae}{apos cpos pos:AR}
theorem aG(ho:PE X o (IK i))(he:ST X CL W e fe)(hbase:EA o "extend" X.env (eval o X.env)=eval o X.env)(hfew:((BR cpos (Ay [e] X.env)).all (λx=>!x.1)&&(Im cpos (GN [] X.env)).all (λx=>x.1.isSome)&&decide ([e].length+([]:Ac Ee).length+(if ([]:Ac Ee).isEmpty then 0 else 1)<30))=Aa)(hline:(apos.endLine==cpos.line)=Aa)(hs:Ay [e] X.env=[(Ad,eval e X.env)])(hsw:Dh (.Call (.Attribute o "extend" apos) [e] [] cpos) Af pos.line X.env=pure Ad):
  SS X CL W (.Expr (.Call (.Attribute o "extend" apos) [e] [] cpos) pos) (λU=>O.of U (Cj U i) λxs=>O.of U (fe U) λx=>O.of U ((BX .Add x (.tup [])).bind λy=>biD .list [y]) λd=>O.of U (Jj d) λys=>if BD (xs.length+ys.length)=Aa then .next (U.set i (Ab (.lst (xs++ys),Aa))) else .bad):=λFz B pI s Y H D I ⟨U,x,p⟩=>by
 refine Ks (M2 Fx EN WD cU ho (El (he (BL B U Y)) F1 hs) hbase hfew hline hs rfl) hsw pI s Y H D I ?_;dsimp only at p;cases e1:Cj U i with
 |bad=>rw[e1]at p;exact p.elim
 |exn z=>exact(Oo e1).elim
 |ok ds=>
  rw[e1,O.of_ok]at p;have hi:=Ox e1;obtain⟨a,xs,ds',q,e2,ha,hh,r⟩:=x.good.ow i _ hi;cases e2;refine⟨_,q,.inl ⟨rfl,xs,SqL.of hh⟩,x.aok,U,x.good,BW.ex x p λd v H' _ s rv x' q'=>?_⟩
  cases d with
  |tup es=>
   obtain⟨b,ys,rfl,h0,h1,rs⟩:=CG.tup_of rv;have eb:BX .Add (.tup es) (.tup [])=if (!es.isEmpty&&BD (es.length+0))=Aa then .ok (.tup (es++[])) else .bad:=rfl
   rw[eb]at q';split at q'
   .rw[R.bind_ok,show biD .list [.tup (es++[])]=.ok (.lst (es++[])) from rfl,O.of_ok,QI,O.of_ok,Bo]at q'
    split at q'
    .rename_i hz;refine⟨a,b,xs,ys,rfl,rfl,s _ _ hh,h1,?_,q' _ _ (x'.upd hi q ((r.same s).append rs))⟩;rw[r.length,rs.length];exact Iz hz
    .exact q'.elim
   .exact q'.elim
  |_=>exact q'.elim
end
section
open PySem.AutoSeq1 (wpAny_loadPart')
end
section
variable{prog:AM}{w:AY}{A:AT}{R:Ie->Ap->Prop}{I S T:Ak}{u v:Aj}{c:Ae}{P:Ae->Aj->Prop}{St:Ae->AD->Prop}{s:Ap}{r q:Ac Ag}
end
section
variable{X:Cx}{CL:ClA}{W:XW}
end
def Nu(e T:Ak)(cls:Aj)(dx:Am Ak)(fl:Aj)(h:AD):Prop:=∃ oe vs oT ts a0,h.get? e=Ab oe/\oe.cls=cls/\oe.dict=dx/\vs[0]?=Ab a0/\oe.data=.fields vs/\vs[1]?=Ab (.ref T)/\T≠e/\h.get? T=Ab oT/\oT.data=.fields ts/\ts[3]?=Ab fl
noncomputable abbrev Fly(e T:Ak)(cls:Aj)(dx:Am Ak)(h:AD):Prop:=Nu e T cls dx A3 h
noncomputable def pU(C:Ak)(dx:Am Ak)(t:Ak):DE:={cls:=.ref C,dict:=dx,data:=.fields #[.ref t,.none,.none,.none,.bool Ad,.none]}
structure Shift (ex fs:Ac Ak) (h h':AD):Prop where
 keep:∀ b o,h.get? b=Ab o->b∉ex->b∉fs->h'.get? b=Ab o
 slot:∀ b o,h.get? b=Ab o->b∈fs->∃ sl,h'.get? b=Ab {o with slots:=sl}
theorem ObjOk.isThere:∀(o:HO),L2.ObjOk P w H h a o->∃ ob,h.get? a=Ab ob
 |.lst _,x=>by obtain⟨_,_,_,_,e⟩:=x;exact⟨_,e⟩
 |.tup _,x=>by obtain⟨_,_,_,p⟩:=x;obtain⟨o,e,_⟩:=p;exact⟨_,e⟩
 |.dK _,x=>by obtain⟨_,_,_,_,o,_,_,e,_⟩:=x;exact⟨_,e⟩
 |.dT _,x=>by obtain⟨_,_,_,_,o,_,_,e,_⟩:=x;exact⟨_,e⟩
 |.set _ _,x=>by obtain⟨o,_,_,_,e,_⟩:=x;exact⟨_,e⟩
 |.ins _ _ _,x=>by obtain⟨_,_,_,e,_⟩:=x;exact⟨_,e⟩
 |.own _,x=>x
 |.xd _,x=>by obtain⟨_,⟨_,_,_,e,_⟩,_⟩:=x;exact⟨_,e⟩
 |.met _ _,x=>⟨_,x⟩
 |.rng _ _,x=>by obtain⟨_,_,_,e⟩:=x;exact⟨_,e⟩
 |.frz _ _,x=>⟨_,x.1⟩
 |.tbl _,x=>⟨_,x⟩
 |.ext _,x=>x.2.1
theorem Ml(x:HOk P w H h)(e:h.get? a=Af):H a=Af:=by
 cases q:H a with
 |none=>rfl
 |some o=>
  obtain⟨ob,z⟩:=ObjOk.isThere o (x a o q);rw[e]at z;cases z
theorem HOk.shift{ex fs:Ac Ak}(x:HOk P w H h)(sh:Shift ex fs h h')(h1:∀ b∈ex,H b=Af)(h2:∀ b∈fs,H b=Af):HOk P w H h':=λa o e=>
 (x a o e).stay (λb u hb q=>by
  have hs:∃ v,H b=Ab v:=by
   rcases hb with rfl|hb
   .exact⟨_,e⟩
   .exact⟨_,hb⟩
  obtain⟨v,hv⟩:=hs;exact sh.keep b u q (λz=>by rw[h1 b z]at hv;cases hv) (λz=>by rw[h2 b z]at hv;cases hv)) (λ_ q=>q) λ_ _ q=>q
theorem Un.shift{fs0 fs ex:Ac Ak}{h0:AD}(u:Un fs0 [] H H' h0 h)(sh:Shift ex fs h h')(h1:∀ b∈ex,h0.get? b=Af)(h2:∀ b∈fs,b∈fs0\/h0.get? b=Af):Un fs0 [] H H' h0 h' where
 keep:=λb o q n hb hx=>sh.keep b o (u.keep b o q n hb hx) (λz=>by rw[h1 b z]at q;cases q) λz=>(h2 b z).elim hb λe=>by rw[e]at q;cases q
 slot:=λb o q n hb hx=>by
  obtain⟨sl,e1⟩:=u.slot b o q n hb hx;by_cases hf:b∈fs
  .obtain⟨sl',e2⟩:=sh.slot b _ e1 hf;exact⟨sl',e2⟩
  .exact⟨sl,sh.keep b _ e1 (λz=>by rw[h1 b z]at q;cases q) hf⟩
 free:=u.free
 there:=λb o q hx=>by
  obtain⟨o',e1⟩:=u.there b o q hx;by_cases hf:b∈fs
  .obtain⟨sl',e2⟩:=sh.slot b _ e1 hf;exact⟨_,e2⟩
  .exact⟨o',sh.keep b _ e1 (λz=>by rw[h1 b z]at q;cases q) hf⟩
 tups:=u.tups
 frzs:=u.frzs
 tbls:=u.tbls
theorem eW(f:Ax Aj->Ax Aj)(o:DE):(FS f o).dict=o.dict:=by
 obtain⟨c,d,dt,sl⟩:=o;cases dt<;>rfl
section
variable{M:Eo}{A:AT}{E:Vq}{s:Ap}{env:Cr}{outer:Ac Cr}{L e T:Ak}{cls:Aj}{dx:Am Ak}{base h:AD}
theorem QN{hd:Aj}{nx:Ai}(hfr:A.frames=Ab (env::outer))(hf:env.frame=Ab L)(ff:s.heap.FunFrames base (env::outer))(he:s.heap.get? e=Ab oe)(dt:oe.data=.fields vs)(hz:1<vs.size)(hQ:∀ h' T' oT ts,h'.get? e=Ab (FS (·.setIfInBounds 1 (.ref T')) oe)->T'≠e->s.heap.get? T'=Af->h'.get? T'=Ab oT->oT.data=.fields ts->ts[3]?=Ab (E2 L)->Shift [e] (frs (env::outer)) s.heap h'->Q () {s with heap:=h'}):
  AB M A (do
   let fr <-frameOf env
   let pl <-entryPlaceOf L nx
   let en <-VW hd fr .none (E2 L) .none pl
   setField (.ref e) 1 en) Q E s:=by
 have nf:e∉frs (env::outer):=λz=>by
  obtain⟨_,o,q,n⟩:=ff.mem z;rw[he]at q;cases q;exact n vs dt
 refine Ao (wpAny_frameOf_fun hfr ff hf λk1 so=>Ao (wpAny_entryPlaceOf λpl ip=>?_))
 obtain⟨sz,sm,sl⟩:=so;have e1:k1.get? e=Ab oe:=(sm e nf).trans he;unfold VW;unfold newFields;refine Ao (CT ?_ (ip.sizeOk5 _ _ _ _ _));generalize hX:({ cls:=.type "traceback",dict:=Af,data:=.fields ([hd,.ref L,.none,E2 L,.none]++(if pl.isEmpty then GD 6 A3 else pl)).toArray }:DE)=ob
 have od:ob.data=.fields ([hd,.ref L,.none,E2 L,.none]++(if pl.isEmpty then GD 6 A3 else pl)).toArray:=by rw[<-hX]
 have nl:k1.objs.size≠e:=Fb (AL e1);have e2:=As ob e1;refine Fu e2 dt hz ?_;have up:∀ b,b≠e->((k1.push ob).update e (FS (·.setIfInBounds 1 (.ref k1.objs.size)))).get? b=(k1.push ob).get? b:=λb nb=>C4 _ _ (Ed nb)
 have lf:ob.isFreed=Ad:=by rw[<-hX];rfl
 refine hQ _ k1.objs.size ob _ (EO _ e2 (EQ (Dd dt _))) nl ?_ ((up _ nl).trans (AJ k1 lf)) od ?_ ⟨λb o q n1 n2=>?_,λb o q hb=>?_⟩
 .rw[sz];exact Gi (Aw _)
 .simp
 .have nb:b≠e:=λz=>n1 (by rw[z];exact AN)
  rw[up b nb];exact As ob ((sm b n2).trans q)
 .obtain⟨sl',q'⟩:=sl b o q;have nb:b≠e:=λz=>nf (z ▸ hb)
  exact⟨sl',(up b nb).trans (As ob q')⟩
theorem Qy{oT:DE}{ts:Ax Aj}{fl:Aj}(hc:oe.cls=cls)(hx:oe.dict=dx)(h0:vs[0]?=Ab a0)(dt:oe.data=.fields vs)(hz:1<vs.size)(g:h'.get? e=Ab (FS (·.setIfInBounds 1 (.ref T')) oe))(ne:T'≠e)(gT:h'.get? T'=Ab oT)(dT:oT.data=.fields ts)(f3:ts[3]?=Ab fl):Nu e T' cls dx fl h':=
 ⟨_,_,oT,ts,a0,g,(WI _ _).trans hc,(eW _ _).trans hx,by rw[Array.getElem?_setIfInBounds_ne (by decide)];exact h0,Dd dt _,by simp[hz],ne,gT,dT,f3⟩
theorem Km{i:Ae}{v:Aj}(q:vs[i]?=Ab v):i<vs.size:=(UT.mp q).1
theorem Q4(hfr:A.frames=Ab (env::outer))(hf:env.frame=Ab L)(ff:s.heap.FunFrames base (env::outer))(fl:Fly e T cls dx s.heap)(hQ:∀ h' T',Nu e T' cls dx (E2 L) h'->Shift [e,T] (frs (env::outer)) s.heap h'->s.heap.get? T'=Af->Q () {s with heap:=h'}):AB M A (GR (.ref e) env) Q E s:=by
 obtain⟨oe,vs,oT,ts,a0,he,hc,hx,h0,dt,h1,ne,hT,dT,h3⟩:=fl;have z3:=Km h3;unfold GR;simp only[hf];refine Ao (BG he dt h1 ?_);rw[Aq (by simp:(De T != A3)=Aa)]
 refine Ao (BG hT dT h3 ?_);rw[Ar (by simp[E2]:¬ (A3==E2 L)=Aa)]
 refine Ao (Fu hT dT z3 ?_);have up:∀ b,b≠T->(s.heap.update T (FS (·.setIfInBounds 3 A3))).get? b=s.heap.get? b:=λb nb=>C4 _ _ (Ed nb)
 have rcd:∀ b o,s.heap.get? b=Ab o->(∀ us,o.data≠.fields us)->b≠T:=λb o q n z=>by
  rw[z,hT]at q;cases q;exact n ts dT
 refine QN (base:=base) hfr hf (ff.of_keeps λb o q n=>⟨o,(up b (rcd b o q n)).trans q,rfl⟩) ((up e (Ed ne)).trans he) dt (Km h1) λh' T' oT' ts' g nT gn gT dT' f3 sh=>?_
 have T0:s.heap.get? T'=Af:=by
  by_cases z:T'=T
  .rw[z]at gn;rw[EO _ hT (EQ (Dd dT _))]at gn;cases gn
  .rw[<-up T' z];exact gn
 refine hQ h' T' (Qy hc hx h0 dt (Km h1) g nT gT dT' f3) ⟨λb o q n1 n2=>?_,λb o q hb=>?_⟩ T0
 .simp only[AI,Bq,CW,FQ]at n1;exact sh.keep b o ((up b n1.2).trans q) (by simp[n1.1]) n2
 .obtain⟨_,o',q',n⟩:=ff.mem hb;rw[q]at q';cases q';exact sh.slot b o ((up b (rcd b o q n)).trans q) hb
theorem Mp{fv:Aj}(fl:Nu e T cls dx fv s.heap)(hQ:∀ h',Fly e T cls dx h'->(∀ b o,b≠T->s.heap.get? b=Ab o->h'.get? b=Ab o)->Q () {s with heap:=h'}):AB M A (HF (.ref e) Af) Q E s:=by
 obtain⟨oe,vs,oT,ts,a0,he,hc,hx,h0,dt,h1,ne,hT,dT,h3⟩:=fl;have z3:=Km h3;unfold HF;refine Ao (BG he dt h1 ?_);rw[Aq (by simp:(De T != A3)=Aa)]
 refine Fu hT dT z3 (hQ _ ?_ λb o nb q=>(C4 _ _ (Ed nb)).trans q)
 exact⟨oe,vs,_,_,a0,(C4 _ _ ne).trans he,hc,hx,h0,dt,h1,ne,EO _ hT (EQ (Dd dT _)),Dd dT _,by simp[z3]⟩
theorem N1{h1 h2:AD}{ex:Ac Ak}(ff:s.heap.FunFrames base (env::outer))(sh:Shift ex (frs (env::outer)) s.heap h1)(hT:s.heap.get? T'=Af)(k:∀ b o,b≠T'->h1.get? b=Ab o->h2.get? b=Ab o):Shift ex (frs (env::outer)) s.heap h2:=
 ⟨λb o q n1 n2=>k b o (λz=>by rw[z,hT]at q;cases q) (sh.keep b o q n1 n2),λb o q hb=>let ⟨sl,q'⟩:=sh.slot b o q hb;⟨sl,k b _ (λz=>by rw[z,hT]at q;cases q) q'⟩⟩
theorem Ze(hfr:A.frames=Ab (env::outer))(hf:env.frame=Ab L)(ff:s.heap.FunFrames base (env::outer))(fl:Fly e T cls dx s.heap)(hQ:∀ h' T',Fly e T' cls dx h'->Shift [e,T] (frs (env::outer)) s.heap h'->(T'=T\/s.heap.get? T'=Af)->Q () {s with heap:=h'}):AB M A (leaving env (.ref e)) Q E s:=by
 unfold leaving;exact Ao (Q4 hfr hf ff fl λh1 T' f1 sh hT=>Mp f1 λh2 f2 k=>hQ h2 T' f2 (N1 ff sh hT k) (.inr hT))
theorem Yl(hfr:A.frames=Ab (env::outer))(hf:env.frame=Ab L)(ff:s.heap.FunFrames base (env::outer))(he:s.heap.get? e=Ab oe)(hc:oe.cls=cls)(hx:oe.dict=dx)(dt:oe.data=.fields vs)(h0:vs[0]?=Ab a0)(h1:vs[1]?=Ab .none)(hQ:∀ h' T',Fly e T' cls dx h'->Shift [e] (frs (env::outer)) s.heap h'->s.heap.get? T'=Af->Q () {s with heap:=h'}):AB M A (leaving env (.ref e)) Q E s:=by
 unfold leaving GR;simp only[hf];refine Ao (Ao (BG he dt h1 ?_));rw[Ar (by decide)]
 exact QN (base:=base) hfr hf ff he dt (Km h1) λh' T' oT ts g nT gn gT dT f3 sh=>Mp (Qy hc hx h0 dt (Km h1) g nT gT dT f3) λh2 f2 k=>hQ h2 T' f2 (N1 ff sh gn k) gn
theorem ZF(hfr:A.frames=Ab (env::outer))(hf:env.frame=Ab L)(ff:s.heap.FunFrames base (env::outer))(fl:Fly e T cls dx s.heap)(hQ:∀ h' T',Fly e T' cls dx h'->Shift [e,T] (frs (env::outer)) s.heap h'->(T'=T\/s.heap.get? T'=Af)->Q () {s with heap:=h'}):AB M A (GR (.ref e) env) (λ_ s2=>AB M A (HF (.ref e) Af) Q E s2) E s:=
 Q4 hfr hf ff fl λh1 T' f1 sh hT=>Mp f1 λh2 f2 k=>hQ h2 T' f2 (N1 ff sh hT k) (.inr hT)
theorem Zf{l:Ac Cr}{A':AT}(ff:s.heap.FunFrames base l)(fl:Fly e T cls dx s.heap)(hQ:∀ h' T',Fly e T' cls dx h'->Shift [e,T] (frs l) s.heap h'->(T'=T\/s.heap.get? T'=Af)->Q () {s with heap:=h'}):AB M A' (HF (.ref e) Af) Q E s:=by
 obtain⟨oe,vs,oT,ts,a0,he,hc,hx,h0,dt,h1,ne,hT,dT,h3⟩:=id fl;refine Mp fl λh' f' k=>hQ h' T f' ⟨λb o q n1 n2=>k b o (λz=>n1 (by rw[z];simp)) q,λb o q hb=>⟨o.slots,k b o (λz=>?_) q⟩⟩ (.inl rfl)
 obtain⟨_,o',q',n⟩:=ff.mem hb;rw[z,hT]at q';cases q';exact n ts dT
end
def CXR(P:AM)(w:AY):CXT:=λouter H s E ev s'=>∃ e T cls dx H',ev=.ref e/\s'.os=s.os/\Fo s'.gens/\Un (frs outer) [] H H' s.heap s'.heap/\HOk P w H' s'.heap/\Fly e T cls dx s'.heap/\H' e=Af/\H' T=Af/\s.heap.get? e=Af/\s.heap.get? T=Af/\E cls dx H'
def LR(X:Cx)(CL:ClA)(W:XW):Prop:=∀ pI Y H s e C dx t x,Inv X pI Y H s->(X.ex=[]->X.s₀.heap.get? e=Af)->H e=Af->s.heap.get? e=Ab (pU C dx t)->F5 X.K CL H (.ref C) dx x->W x H->X.xe (.ref e) s
section
variable{P:AM}{w:AY}{K:Fg}{mg:Ah->Am Aj}{base:AD}{N:Ac Ah}{qual:Ah}{scope:BY}{f:Ak}{cd:Aj}{A:AT}{outer:Ac Cr}{s:Ap}{H:Hp}{E:XK}{CL:ClA}{W:XW}
theorem OD{s:Ap}(I:Inv X pI Y H s):∀ b∈frs X.stack,b∈X.fs\/X.s₀.heap.get? b=Af:=λb hb=>by
 rcases AI.mp (I.stkSub b hb) with z|z
 .exact .inr (by rw[z];exact Gi I.ok.above)
 .exact .inl z
theorem Ke{s:Ap}{b:Ak}(I:Inv X pI Y H s)(hx:X.ex=[])(h:s.heap.get? b=Af):X.s₀.heap.get? b=Af:=by
 cases q:X.s₀.heap.get? b with
 |none=>rfl
 |some o=>
  obtain⟨o',z⟩:=I.base.there b o q (by rw[hx];simp)
  rw[h]at z;cases z
theorem oZ(hE:∀ x cls dx H',W x H'->F5 K CL H' cls dx x->E cls dx H'):∀ A',KD (CXR P w) (GK (CXR P w) P w K mg base N qual scope f cd A outer s H E) (EKW K CL A' W):=by
 intro A' pI Y H1 s1 ev s2 I h;obtain⟨e,T,cls,dx,H',rfl,os,bare,un,hok,fl,he,hT,ne,nT,x,xr,wx⟩:=h;have I':=I.call' (s':=s2) (ch:=[]) os un hok bare (λb z=>absurd z (by simp))
 have hb0:Un (frs outer) [] H H' s.heap s2.heap:=I'.base;show AB (model P w) (A.deeper (EZ qual scope s.heap.objs.size f cd)) (leaving (EZ qual scope s.heap.objs.size f cd) (.ref e)) _ _ s2;refine Ze (L:=s.heap.objs.size) I'.ok.frames rfl I'.stack fl λh' T' fl' sh hT'=>?_
 have e0:s.heap.get? e=Af:=Ke I rfl ne;have T0:s.heap.get? T=Af:=Ke I rfl nT;refine⟨e,T',cls,dx,H',rfl,I'.os,bare,Un.shift hb0 sh ?_ (OD I'),HOk.shift hok sh ?_ I'.stkFree,fl',he,?_,e0,?_,?_⟩
 .intro b hb;rcases AI.mp hb with rfl|hb
  .exact e0
  .rw[Bk.mp hb];exact T0
 .intro b hb;rcases AI.mp hb with rfl|hb
  .exact he
  .rw[Bk.mp hb];exact hT
 .rcases hT' with rfl|z
  .exact hT
  .exact Ml hok z
 .rcases hT' with rfl|z
  .exact T0
  .exact Ke I' rfl z
 .exact hE x cls dx H' wx xr
theorem rzR(hE:∀ x cls dx H',W x H'->F5 K CL H' cls dx x->E cls dx H'):LR (GK (CXR P w) P w K mg base N qual scope f cd A outer s H E) CL W:=by
 intro pI Y H1 s1 e C dx t x I e0 he ge xr hw;have hb0:Un (frs outer) [] H H1 s.heap s1.heap:=I.base;have e0':s.heap.get? e=Af:=e0 rfl;show AB (model P w) (A.deeper (EZ qual scope s.heap.objs.size f cd)) (leaving (EZ qual scope s.heap.objs.size f cd) (.ref e)) _ _ s1;refine Yl (cls:=.ref C) (dx:=dx) (L:=s.heap.objs.size) I.ok.frames rfl I.stack ge rfl rfl rfl (a0:=.ref t) rfl rfl λh' T' fl' sh hT'=>?_
 have one:∀{Z_:Ak->Prop},Z_ e->∀ b∈[e],Z_ b:=λ{Z_} z b hb=>by rw[Bk.mp hb];exact z
 exact⟨e,T',.ref C,dx,H1,rfl,I.os,I.bare,Un.shift hb0 sh (one e0') (OD I),HOk.shift I.hok sh (one (Z_:=λb=>H1 b=Af) he) I.stkFree,fl',he,Ml I.hok hT',e0',Ke I rfl hT',hE x _ dx H1 hw xr⟩
theorem ownR:Fe (model P w) (GK (CXR P w) P w K mg base N qual scope f cd A outer s H E).A (GK (CXR P w) P w K mg base N qual scope f cd A outer s H E).env (GK (CXR P w) P w K mg base N qual scope f cd A outer s H E).xe:=PassesOwn.leaving
end
noncomputable def veB:Ac Aj:=[.type "ValueError",.type "Exception",.type "BaseException",.type "object"]
noncomputable def Ea(K:Fg)(C:Ak)(v:Am Aj):Ai:=match K.lookup C with
  | some ⟨.type "type",_,.cls c,z⟩=>(match c.mro,z.toList with
    |.ref c0::tl,[_,_,_,_,Ab (.builtin nw),_]=>c0==C&&(nw == "ValueError.__new__" && (!c.hasDel&&(PySem.W.tailIn K veB tl&&(W8 K c.ns&&Bv K c.ns "__init__" == Ab v))))
    | _,_=>Ad)
  |_=>Ad
theorem bC(q:IV K C veB "ValueError.__new__" = Aa):Ea K C Af=Aa:=by
 unfold IV at q;unfold Ea;split at q
 .rename_i dd cd sl ho;split at q
  .rename_i C' bm k0 k1 k2 k3 n k5 hm hs;simp only[Al]at q;obtain⟨⟨⟨⟨⟨h1,h2⟩,h3⟩,h4⟩,h5⟩,h6⟩:=q;simp only[ho,hm,hs,Al];exact⟨h1,h2,h3,h4,h5,h6⟩
  .cases q
 .cases q
structure XcOk (K:Fg) (C:Ak):Prop where
 exc:∃ v,Ea K C v=Aa
 ga:Bf K (.ref C) "__getattribute__" = Ab (Ab (.builtin "BaseException.__getattribute__"))
 gt:Bf K (.ref C) "__getattr__" = Ab Af
 cl:Bf K (.ref C) "__class__" = Ab (Ab (.builtin "object.__class__"))
 ob:CJ K C (.type "object")=Ab Aa
 be:BB K (.ref C) (.type "BaseException")=Ab Aa
 cs:(Dv K C).isSome=Aa
 ve:CP K (.ref C) (.type "ValueError")=Ab Aa
def XAt(e C:Ak)(h:AD):Prop:=∃ o,h.get? e=Ab o/\o.cls=.ref C
theorem iP{N:Ak}{v:Aj}(X:K.In h)(G:h.Ns N m)(q:Bv K N x=Ab (Ab v)):m x=Ab v:=by
 obtain⟨ob,es,ep,g,dt,_,fd⟩:=G;unfold Bv at q;split at q
 .rename_i es' n' sl lk;have g':=X _ _ lk;rw[g]at g';cases g';cases dt;split at q
  .rename_i hf;cases q;rw[<-fd];unfold nsFind findBy;rw[<-US,hf];rfl
  .by_cases z:(es.toList.any λy=>y.refKey)=Aa
   .rw[Aq z]at q;cases q
   .rw[Ar z]at q;cases q
 .cases q
theorem Q5{h0:AD}(X0:K.In h0)(q:Ea K C v=Aa):
  ∃ bm N nm qn bs hd sn sub ab col dd k0 k1 k2 k3 k5 mN,(∀ h:AD,K.In h->h.get? C=Ab (excClassObj nm qn C N bs bm hd sn sub ab col dd k0 k1 k2 k3 k5 "ValueError.__new__")/\h.Ns N mN/\OwnTail h veB bm)/\mN "__init__" = v/\bm.contains (.type "BaseException")=Aa:=by
 unfold Ea at q;split at q
 .rename_i dd cd sl ho;split at q
  .rename_i C' bm k0 k1 k2 k3 n k5 hm hs;simp only[Al,A7,BA]at q;obtain⟨rfl,rfl,hdel,ht,hok,hni⟩:=q;obtain⟨nm,bs,mro,ns,qn,hd,sn,sub,ab,col,del⟩:=cd;dsimp only at hm hdel hok hni;subst hm hdel;have hsl:sl=#[k0,k1,k2,k3,Ab (.builtin "ValueError.__new__"),k5]:=by
    obtain⟨l⟩:=sl;simp only at hs;rw[hs]
   subst hsl;have kN:∃ o,K.lookup ns=Ab o:=by
    unfold W8 at hok;split at hok
    .rename_i z;exact⟨_,z⟩
    .cases hok
   obtain⟨oN,hoN⟩:=kN;have nsAt:∀ h:AD,K.In h->h.Ns ns (h0.nsMap ns):=λh X=>by
    obtain⟨o,es,ep,e1,r⟩:=Heap.Ns.of_isNs (W4 X0 hok);have e2:=X0 _ _ hoN;rw[e1]at e2;cases e2;exact⟨_,es,ep,X _ _ hoN,r⟩
   refine⟨bm,ns,nm,qn,bs,hd,sn,sub,ab,col,dd,k0,k1,k2,k3,k5,h0.nsMap ns,λh X=>⟨X _ _ ho,nsAt h X,Xa X ht⟩,?_,(Xa X0 ht).hasType (by decide)⟩
   cases v with
   |none=>exact PySem.W.nsMap_none_of_in X0 hok hni
   |some u=>exact iP X0 (.of_isNs (W4 X0 hok)) hni
  .cases q
 .cases q
theorem eN(X:K.In h)(q:Ea K C v=Aa):
  ∃ bm N nm qn bs hd sn sub ab col dd k0 k1 k2 k3 k5 mN,h.get? C=Ab (excClassObj nm qn C N bs bm hd sn sub ab col dd k0 k1 k2 k3 k5 "ValueError.__new__")/\h.Ns N mN/\mN "__init__" = v/\OwnTail h veB bm:=by
 obtain⟨bm,N,nm,qn,bs,hd,sn,sub,ab,col,dd,k0,k1,k2,k3,k5,mN,ho,hi,_⟩:=Q5 X q;obtain⟨o1,o2,o3⟩:=ho h X;exact⟨bm,N,nm,qn,bs,hd,sn,sub,ab,col,dd,k0,k1,k2,k3,k5,mN,o1,o2,hi,o3⟩
section
variable{prog:AM}{w:AY}{A:AT}{E:Vq}{h:AD}{g:Ax EH}{d:HC}{t:Ae}{os:Ha}{K:Fg}{e C:Ak}
theorem Je(p:XAt e C h):PySem.W.Looks M h (typeOf (.ref e)) (.ref C):=by
 obtain⟨o,h1,h2⟩:=p;exact h2 ▸ (PySem.W.Looks.ld h1).andThen .now
theorem Y_0{R:Ie->Ap->Prop}{tp:Aj}(X:K.In h)(p:XAt e C h)(hm:CJ K C (.type "object")=Ab Aa)(hq:R (.ok (.ret (.ref C))) ⟨h,g,d,t,os⟩):
  Gc (model prog w) A (.call (.builtin "getset_descriptor.__get__") ⟨[.builtin "object.__class__",.ref e,tp],[]⟩) R ⟨h,g,d,t,os⟩:=by
 have L0:=Je (M:=model prog w) p;have L1:=PySem.W.looks_mroIn (M:=model prog w) X hm;refine Gk PySem.W.KF.slot_gs.plain PySem.W.KF.entry_gs (PySem.W.KF.slot_gs.check _ _ _ _ _ _ _ _ PySem.W.KF.type_class (PySem.W.KF.args_gs _ _ _) ?_);unfold Builtin.«getset_descriptor.__get__» Builtin.Getset_descriptor.descrGet;rw[PySem.W.dga_obj];refine Ao (AK ?_);unfold Builtin.Getset_descriptor.descrGetter Builtin.Getset_descriptor.descrCheckInstance Builtin.Getset_descriptor.descrNameAndClass isInstance;simp only[PySem.W.KF.owner_class]
 repeat lk
 refine⟨Code.quiet_builtin _ (by decide+kernel),codeAny_builtin PySem.W.KF.entry_class ?_⟩
 unfold Builtin.«object.__class__» shownTypeOf
 repeat lk
 exact hq
theorem X6{Q:Fin->Ap->Prop}(X:K.In h)(x:XcOk K C)(p:XAt e C h)(hq:Q (.done (.ret (.ref C))) ⟨h,g,d,t,os⟩):
  AB (model prog w) A (Builtin.«object.__getattribute__» ⟨[.ref e,.str "__class__" tk],[]⟩) Q E ⟨h,g,d,t,os⟩:=by
 have L0:=Je (M:=model prog w) p;have L1:=Dr (M:=model prog w) X x.cl;have hT5:(⟨h,g,d,t,os⟩:Ap).TypeIs (.builtin "object.__class__") "getset_descriptor" := WC;have f5:=WC;have f6:=F.slot_gs_get.lookup;have f7:=F.slot_gs_set.lookup
 repeat (any_goals (first|assumption|with_reducible refine L0.at ?_|with_reducible refine L1.at ?_|wp_step))
 refine Y_0 X p x.ob ?_
 repeat (any_goals (first|assumption|wp_step))
theorem P8{nameV:Aj}(X:K.In h)(x:XcOk K C)(p:XAt e C h)(hq:Q () ⟨h,g,d,t,os⟩):AB M A (Xc "BaseException.__getattribute__" ⟨[.ref e,nameV],[]⟩) Q E ⟨h,g,d,t,os⟩:=by
 have hk:builtinKind "BaseException.__getattribute__" = Ab .slot:=by decide+kernel
 have hsplit:splitId "BaseException.__getattribute__" = Ab ("BaseException", "__getattribute__"):=by decide+kernel
 have L0:=Je (M:=M) p;have L1:=W7 (M:=M) X x.be;have ha:=F.args_bexc_ga (.ref e) nameV;simp only[Xc,hk,hsplit];refine Ao ?_
 .unfold isInstance
  repeat (first|(with_reducible refine Ao (L0.at ?_))|(with_reducible refine L1.at ?_)|wp_step)
  exact hq
theorem bD{Q:Vq}(X:K.In h)(x:XcOk K C)(p:XAt e C h)(hq:Q (.ref C) ⟨h,g,d,t,os⟩):AB (model prog w) A (getAttrBy (.ref e) (.str "__class__" tk) fill expr) Q E ⟨h,g,d,t,os⟩:=by
 have L0:=Je (M:=model prog w) p;have L1:=Dr (M:=model prog w) X x.ga;have L2:=Dr (M:=model prog w) X x.gt;have f3:=FE.ga.bind (.ref e);have hx0:(expr&&Jb (C7 "BaseException.__getattribute__"))=Ad:=by cases expr<;>rfl
 have hx2:(C7 "BaseException.__getattribute__" == C7 "object.__getattribute__")=Ad:=by decide+kernel
 have hx1:(Jb (De C)&&C7 "BaseException.__getattribute__" == C7 "object.__getattribute__")=Ad:=by rw[hx2];rfl
 repeat (any_goals (first|assumption|with_reducible refine L0.at ?_|with_reducible refine L1.at ?_|with_reducible refine L2.at ?_|wp_step))
 refine Gk FE.ga.plain Wt (P8 X x p (X6 X x p ?_))
 repeat (any_goals (first|assumption|wp_step))
theorem X4{Q:Am Aj->Ap->Prop}(X:K.In h)(x:XcOk K C)(p:XAt e C h)(hq:Q (Ab (.ref C)) ⟨h,g,d,t+1,os⟩):AB (model prog w) A (getAttr? (.ref e) "__class__") Q E ⟨h,g,d,t,os⟩:=by
 unfold getAttr? getAttrBy?
 repeat (any_goals (first|assumption|with_reducible apply bD X x p|wp_step))
end
theorem Rv{e C:Ak}(x:XcOk K C):PySem.W.KitX K (.ref e) (.ref C) (XAt e C) where
 ty:=λM h _ p=>Je p
 it:=λM h X _=>by
  obtain⟨cd,hc⟩:=Eg.mp x.cs;unfold Dv at hc;split at hc
  .rename_i c' d' cd' sl' ho;intro A' Q' E' s' k q;unfold isType loadHead;exact Ao (wpAny_loadPart (k _ _ (X _ _ ho)) (AK q))
  .cases hc
 ne:=λh tp dd its n sl X htp=>by
  obtain⟨cd,hc⟩:=Eg.mp x.cs;refine Bool.eq_false_iff.mpr λq=>?_
  have e:C=tp:=IU (A7.mp q);subst e;unfold Dv at hc;split at hc
  .rename_i c' d' cd' sl' ho;have z:=(X _ _ ho).symm.trans htp;cases z
  .cases hc
 ca:=λ{_ _ _ _ _ s} X p k=>by
  obtain⟨h,g,d,t,os⟩:=s;exact X4 X x p k
theorem Y_1{A:AT}{E:Vq}{g:Ax EH}{d:HC}{t:Ae}{os:Ha}{e C C':Ak}{b:Ai}{Q:Ai->Ap->Prop}(X:K.In h)(p:XAt e C h)(x':XcOk K C')(hs:BB K (.ref C) (.ref C')=Ab b)(hq:Q b ⟨h,g,d,t,os⟩):AB M A (excMatches (.ref e) (.ref C')) Q E ⟨h,g,d,t,os⟩:=by
 obtain⟨bm,N,nm,qn,bs,hd,sn,sub,ab,col,dd,k0,k1,k2,k3,k5,mN,hC',_,_,T⟩:=eN X x'.exc.choose_spec;have hcB:(De C'::bm).contains (.type "BaseException")=Aa:=by rw[List.contains_cons,T.hasType (show veB.contains (.type "BaseException")=Aa by decide),Bool.or_true]
 have L0:=Je (M:=M) p;have L1:=W7 (M:=M) X hs;have f:=tc_notTuple;unfold excMatches
 repeat (first|(with_reducible refine Ao (L0.at ?_))|(with_reducible refine L1.at ?_)|(with_reducible refine Ao (L1.at ?_))|with_reducible refine G8 hC' ?_|(with_reducible refine wpAny_isSubtype_exc hC' ?_;rw[hcB])|wp_step)
 all_goals first|exact hq|(cases b<;>(wp_walk;exact hq))
def II(X:Cx)(pI:Pn)(e:Ak):Prop:=e≠X.env.locals/\(∀ x c,X.env.cells.lookup x=Ab c->c≠e)/\(∀ p∈X.pn++pI,p.1≠e)/\X.s₀.heap.get? e=Af
section
variable{X:Cx}{pI:Pn}{Y:L2.St}{H:Hp}{s:Ap}{e:Ak}
theorem Oi(I:Inv X pI Y H s)(hx:X.ex=[])(h:s.heap.get? e=Af):II X pI e:=by
 refine⟨?_,λx c q z=>?_,λp hp z=>?_,Ke I hx h⟩
 .rintro rfl;obtain⟨m,⟨o,_,_,ho,_⟩,_⟩:=I.loc;rw[h]at ho;cases ho
 .obtain⟨v,o,ho,_⟩:=I.cell x c q;rw[z,h]at ho;cases ho
 .obtain⟨q,_⟩:=I.pin p hp;rw[z,h]at q;cases q
theorem QU{ex:Ac Ak}(I:Inv X pI Y H s)(hx:X.ex=[])(sh:Shift ex (frs X.stack) s.heap h')(ha:∀ b∈ex,II X pI b)(hH:∀ b∈ex,H b=Af):Inv X pI Y H {s with heap:=h'}:=by
 have kp:∀ b o,s.heap.get? b=Ab o->b∉ex->∃ sl,h'.get? b=Ab {o with slots:=sl}:=λb o q n=>by
  by_cases hb:b∈frs X.stack
  .exact sh.slot b o q hb
  .exact⟨o.slots,sh.keep b o q n hb⟩
 have cellK:∀ x c,X.env.cells.lookup x=Ab c->∀ v,s.heap.IsCell c v->h'.IsCell c v:=λx c q v ⟨o,ho,hd⟩=>by
  obtain⟨sl,z⟩:=kp c o ho λz=>(ha c z).2.1 x c q rfl
  exact⟨_,z,hd⟩
 refine⟨I.ok,I.os,I.bare,?_,?_,λx c q=>?_,I.free,I.freeC,λp hp=>?_,HOk.shift I.hok sh hH I.stkFree,I.len⟩
 .have b0:=I.base;rw[hx]at b0 ⊢;exact Un.shift b0 sh (λb hb=>(ha b hb).2.2.2) (OD I)
 .obtain⟨m,⟨o,es,ep,ho,r⟩,hl⟩:=I.loc;obtain⟨sl,z⟩:=kp _ o ho λz=>(ha _ z).1 rfl
  refine⟨m,⟨_,es,ep,z,r⟩,λi x v e1 e2 e3=>?_⟩
  obtain⟨u,ru,l⟩:=hl i x v e1 e2 e3;refine⟨u,ru,?_⟩;rcases l with l|⟨k,c,q,z⟩
  .exact .inl l
  .exact .inr ⟨k,c,q,cellK x c q _ z⟩
 .obtain⟨v,z⟩:=I.cell x c q;exact⟨v,cellK x c q v z⟩
 .obtain⟨q,n,ne,nf,d⟩:=I.pin p hp;exact⟨sh.keep p.1 p.2 q (λz=>(ha p.1 z).2.2.1 p hp rfl) (λz=>(AI.mp (I.stkSub p.1 z)).elim ne nf),n,ne,nf,d⟩
theorem Yo(I:Inv X pI Y H s)(hx:X.ex=[])(ha:II X pI e)(hH:H e=Af)(ho:∃ o,s.heap.get? e=Ab o)(p:φ s.heap)(hφ:∀ h1 h2:AD,φ h1->(∀ o,h1.get? e=Ab o->h2.get? e=Ab o)->φ h2):Inv X pI Y (upd H e (.ext φ)) s:=by
 have ne:∀ b o,H b=Ab o->b≠e:=λb o q z=>by rw[z,hH]at q;cases q
 refine⟨I.ok,I.os,I.bare,⟨I.base.keep,I.base.slot,λb o q n hb=>?_,I.base.there,λb xs q=>?_,λb o u q=>?_,λb ps q=>?_⟩,I.loc,I.cell,?_,λx c q=>?_,λp hp=>?_,λb o q=>?_,I.len⟩
 .rw[B6 λz=>by rw[z,ha.2.2.2]at q;cases q]
  exact I.base.free b o q n hb
 .have:=I.base.tups b xs q;rw[B6 (ne _ _ this)];exact this
 .have:=I.base.frzs b o u q;rw[B6 (ne _ _ this)];exact this
 .obtain⟨more,this⟩:=I.base.tbls b ps q;exact⟨more,by rw[B6 (ne _ _ this)];exact this⟩
 .rw[B6 λz=>ha.1 z.symm];exact I.free
 .rw[B6 (ha.2.1 x c q)];exact I.freeC x c q
 .obtain⟨q,n,r⟩:=I.pin p hp;exact⟨q,by rw[B6 (ha.2.2.1 p hp)];exact n,r⟩
 .by_cases hb:b=e
  .subst hb;rw[GF]at q;cases q;exact⟨p,ho,hφ⟩
  .rw[B6 hb]at q;exact(I.hok b o q).stay (λc v hc z=>z) (λc z=>by rw[B6 (ne _ _ z)];exact z) λc zs z=>by rw[B6 (ne _ _ z)];exact z
theorem Yn{i:Ae}{n:Ah}{tk:Ae}(I:Inv X pI Y H s)(hN:X.N.Nodup)(hi:X.N[i]?=Ab n)(hn:s.heap.Ns X.env.locals m)(hn':h'.Ns X.env.locals (λx=>if x=n then v else m x))(hs:Fc X.env.locals s.heap h'):Inv X pI (Y.set i Af) H {s with heap:=h',toks:=tk}:=by
 obtain⟨m0,hn0,hl⟩:=I.loc;have em:m0=m:=by
  obtain⟨o,es,ep,h1,h2,_,h3⟩:=hn0;obtain⟨o',es',ep',h1',h2',_,h3'⟩:=hn;rw[h1]at h1';cases h1';rw[h2]at h2';cases h2'
  funext y
  rw[<-h3,<-h3']
 subst em;obtain⟨oL,_,_,hoL,_⟩:=id hn;have lt:∀ b o,X.s₀.heap.get? b=Ab o->b≠X.env.locals:=λb o q=>Bj (AO (AL q) I.ok.above)
 refine⟨I.ok,I.os,I.bare,⟨λb o q n hb hx=>?_,λb o q n hb hx=>?_,I.base.free,λb o q hx=>?_,I.base.tups,I.base.frzs,I.base.tbls⟩,⟨_,hn',λj y v' e1 e2 e3=>?_⟩,λy c q=>?_,I.free,I.freeC,λp hp=>?_,λb ob q=>?_,by rw[Bb];exact I.len⟩
 .exact(hs.2 b (lt b o q)).trans (I.base.keep b o q n hb hx)
 .obtain⟨sl,e1⟩:=I.base.slot b o q n hb hx;exact⟨sl,(hs.2 b (lt b o q)).trans e1⟩
 .obtain⟨o',e1⟩:=I.base.there b o q hx;exact⟨o',(hs.2 b (lt b o q)).trans e1⟩
 .by_cases hj:i=j
  .subst hj;have:=GH e2;cases this
  .rw[Ci hj]at e2;obtain⟨u',r',q⟩:=hl j y v' e1 e2 e3;refine⟨u',r',?_⟩;rcases q with ⟨k,e⟩|⟨k,c,e,z⟩
   .refine .inl ⟨k,?_⟩;have:y≠n:=λe=>hj (N7 hN hi (e ▸ e1))
    simp[this,e]
   .exact .inr ⟨k,c,e,z.sameBut hs (I.cne y c e)⟩
 .obtain⟨w',z⟩:=I.cell y c q;exact⟨w',z.sameBut hs (I.cne y c q)⟩
 .obtain⟨q,n,ne,nf,d⟩:=I.pin p hp;exact⟨(hs.2 p.1 ne).trans q,n,ne,nf,d⟩
 .refine(I.hok b ob q).stay (λc w' hc z=>(hs.2 c ?_).trans z) (λ_ q=>q) λ_ _ q=>q
  rintro rfl;have hfree:=I.free;rcases hc with z|hc
  .rw[<-z,hfree]at q;cases q
  .rw[hfree]at hc;cases hc
end
noncomputable def Cx.hot(X:Cx)(e:Ak):Cx:={X with A:=X.A.mark (Ab (.ref e)),calm:=Ad,xe:=λ_ _=>A5}
section
variable{X:Cx}{pI:Pn}{Y:L2.St}{H:Hp}{s:Ap}{e:Ak}
theorem iN(ok:X.Ok):(Cx.hot X e).Ok:=⟨ok.mod,ok.kind,ok.glob,ok.blt,ok.above,ok.inj,ok.has,ok.cab,λz=>(nomatch z),ok.frames,ok.stk,ok.exf,ok.bs,ok.bsz,ok.noex,ok.exfs,ok.funs,ok.frf⟩
theorem RO(I:Inv X pI Y H s)(e:Ak):Inv (Cx.hot X e) pI Y H s:=⟨iN I.ok,I.os,I.bare,I.base,I.loc,I.cell,I.free,I.freeC,I.pin,I.hok,I.len⟩
theorem ZA(ok:X.Ok)(I:Inv (Cx.hot X e) pI Y H s):Inv X pI Y H s:=⟨ok,I.os,I.bare,I.base,I.loc,I.cell,I.free,I.freeC,I.pin,I.hok,I.len⟩
theorem Sx.unset(x:Sx K CL Fz B U Y H)(i:Ae):Sx K CL Fz B (U.set i Af) (Y.set i Af) H:=by
 have get:∀(j:Ae)(y:D×Ai),(U.set i Af)[j]?=Ab (Ab y)->i≠j/\U[j]?=Ab (Ab y):=λj y h=>by
  by_cases hj:i=j
  .subst hj;have:=GH h;cases this
  .exact⟨hj,by rw[Ci hj]at h;exact h⟩
 have sub:∀ a,BL B (U.set i Af) (Y.set i Af) a->BL B U Y a:=λa h=>by
  rcases h with h|⟨j,d,h1,h2⟩
  .exact .inl h
  .obtain⟨hj,h1⟩:=get j _ h1;rw[Ci hj]at h2;exact .inr ⟨j,d,h1,h2⟩
 refine⟨⟨λj d h=>?_,λj d h=>?_,by rw[Bb,Bb];exact x.len⟩,λa h=>x.aok a (sub a h),λj d a h1 h2=>?_,λj k d f a h1 h2 h3 h4=>?_,x.same,by rw[Bb,Bb];exact x.len⟩
 .obtain⟨hj,h1⟩:=get j _ h;obtain⟨v,q,r⟩:=x.good.sh j d h1;exact⟨v,by rw[Ci hj];exact q,Rep.sub sub _ r⟩
 .obtain⟨hj,h1⟩:=get j _ h;obtain⟨a,xs,ds,q,z,ha,hh,rr⟩:=x.good.ow j d h1;exact⟨a,xs,ds,by rw[Ci hj];exact q,z,.inr ⟨j,d,h,by rw[Ci hj];exact q⟩,hh,Reps.sub sub _ rr⟩
 .obtain⟨hj,h1⟩:=get j _ h1;rw[Ci hj]at h2;exact x.new j d a h1 h2
 .obtain⟨hj,h1⟩:=get j _ h1;obtain⟨hk,h2⟩:=get k _ h2;rw[Ci hj]at h3;rw[Ci hk]at h4;exact x.dis j k d f a h1 h2 h3 h4
end
def IR(e C:Ak)(dx:Am Ak)(h:AD):Prop:=∃ o,h.get? e=Ab o/\o.cls=.ref C/\o.dict=dx/\∃ us,o.data=.fields us
noncomputable def JU(X:Cx)(CL:ClA)(pI:Pn)(Y:L2.St)(H:Hp)(y:Ex)(Xw:Vq):Prop:=
 ∀ s' H' e T cls dx,Inv X pI Y H' s'->AG H H'->Fly e T cls dx s'.heap->H' e=Af->H' T=Af->II X pI e->II X pI T->F5 X.K CL H' cls dx y->Xw (.ref e) s'
def STB(X:Cx)(CL:ClA)(body:Ac AZ)(f:Rho->O):Prop:=∀ Fz B pI s Y H D U (Xw:Vq),Fe (model X.prog X.w) X.A X.env Xw->Inv X pI Y H s->Sx X.K CL Fz B U Y H ->
  (match f U with
   |.exn y U'=>U'=U->JU X CL pI Y H y Xw
   | o=>BW X.K CL Fz B (λ_ _=>A5) o D)->(∀ y U',f U=.exn y U'->U'=U)->AB (model X.prog X.w) X.A (execs body X.env) (SP X pI D) Xw s
noncomputable def Uj(up:Ae->Ac Ae)(c i:Ae)(o:O)(fh:Rho->O):O:=match o with
  | .exn y U'=>if (up y.c).contains c=Aa then (match fh (U'.set i (Ab (.exc y.c y.fs,Ad))) with
      |.next U''=>.next (U''.set i Af)
      |.ret d f=>.ret d f
      | _=>.bad) else .bad
  |o=>o
theorem cB{i:Ae}{g n:Ah}{p1 hp:AR}{b:Ai}{rest:Ac E1}{s1:Ap}{U':Rho}{D:Ends}{e T1:Ak}{dx:Am Ak}{y:Ex}(hx:X.ex=[])(hN:X.N.Nodup)(hi:X.N[i]?=Ab n)(hl:X.env.scope.names.lookup n=Ab .local)(hg:Gl X g)(hm:X.mg g=Ab (.ref C'))(hdb:(g==("__debug__" : Ah))=Ad)(xc:XcOk X.K C')(hsu:BB X.K (.ref C) (.ref C')=Ab b)(hh:∀ e,SSs (Cx.hot X e) CL (λ_ _=>A5) (h0::hs) fh)(I1:Inv X pI Y H' s1)(fl1:Fly e T1 (.ref C) dx s1.heap)(ae:II X pI e)(aT1:II X pI T1)(he:H' e=Af)(HT1:H' T1=Af)(gx:Sx X.K CL Fz B U' Y H')(hcl:CL y.c=Ab C)(xr:F5 X.K CL H' (.ref C) dx y)(p2:b=Aa->BW X.K CL Fz B W (hdO i y U' fh) D)(p3:b=Ad->AB (model X.prog X.w) X.A (JA (.ref e) X.env rest) (SP X pI D) X.xe s1):AB (model X.prog X.w) X.A (JA (.ref e) X.env (.ExceptHandler (Ab (.Name g p1)) (Ab n) (h0::hs) hp::rest)) (SP X pI D) X.xe s1:=by
 obtain⟨Cx0,hcl0,ecl,hfs⟩:=xr (BL B U' Y) gx.aok;have xat:∀{h:AD}{T:Ak},Fly e T (.ref C) dx h->XAt e C h:=λ{h T} z=>by
  obtain⟨oe,_,_,_,_,z1,z2,_⟩:=z;exact⟨oe,z1,z2⟩
 have xad:∀{h:AD}{T:Ak},Fly e T (.ref C) dx h->IR e C dx h:=λ{h T} z=>by
  obtain⟨oe,vs,_,_,_,z1,z2,z3,_,z4,_⟩:=z;exact⟨oe,z1,z2,z3,vs,z4⟩
 have two:∀{T:Ak}{Z_:Ak->Prop},Z_ e->Z_ T->∀ b∈[e,T],Z_ b:=λ{T Z_} h1 h2 b hb=>by
  rcases AI.mp hb with rfl|hb
  .exact h1
  .rw[Bk.mp hb];exact h2
 refine wpAny_handleBy_cons (codeAny_handlers_test (Lw (X:=Cx.hot X e) (RO I1 e) hg hm ?_ hdb)) (by intro q;cases q)
 refine Y_1 (K:=X.K) I1.kIn (xat fl1) xc hsu ?_;cases b with
 |false=>exact p3 rfl
 |true=>
 have p2:=p2 rfl;refine codeAny_handlers_suite_as ?_;refine Zf (base:=X.base) (l:=X.stack) I1.stack fl1 λh3 T3 fl3 sh3 hT3=>?_
 have I3:=QU I1 hx sh3 (two ae aT1) (two (Z_:=λb=>H' b=Af) he HT1)
 obtain⟨oe,oeg,oec⟩:=xad fl3;have I3':=Yo (φ:=IR e C dx) I3 hx ae he ⟨oe,oeg⟩ ⟨oe,oeg,oec⟩ λh1 h2 ⟨o,q1,q2⟩ k=>⟨o,k o q1,q2⟩
 have sm3:AG H' (upd H' e (.ext (IR e C dx))):=λb o q=>by rw[B6 λz=>by rw[z,he]at q;cases q];exact q
 refine Ol (X:=Cx.hot X e) (i:=i) (v:=.ref e) (RO I3' e) hN hi (.inl hl) rfl (λs4 I4=>?_) (.inr hl)
 have x3:=gx.grow sm3;have nA:¬ BL B U' Y e:=λz=>by
  obtain⟨xs,q⟩:=x3.aok e z;rw[GF]at q;cases q
 have rp:Rep X.K CL (upd H' e (.ext (IR e C dx))) (BL B U' Y) (.ref e) (.exc y.c y.fs):=by
  refine⟨e,C,IR e C dx,rfl,nA,hcl,GF,λh ⟨o,z1,z2,_⟩=>⟨o,z1,z2⟩,?_⟩
  rcases hfs with z|⟨d,vs,ed,nd,hd,rf⟩
  .exact .inl z
  .exact .inr ⟨d,vs,nd,sm3 _ _ hd,Repf.kp (Kp.of sm3) _ rf,λh ⟨o,z1,_,z3,z4⟩=>⟨o,z1,z3.trans ed,z4⟩⟩
 have x4:=x3.set i rp;have fin:∀{s5:Ap}{Y5:L2.St}{H5:Hp}{Q:FZ->Ap->Prop},Inv (Cx.hot X e) pI Y5 H5 s5->(∀ s6,Inv X pI (Y5.set i Af) H5 s6->Q () s6)->AB (model X.prog X.w) X.A (do bindName X.env n .none;unbindBehindTheSuite X.env n hp) Q X.xe s5:=λ{s5 Y5 H5 Q} I5 k=>by
  have I5':=ZA I1.ok I5;obtain⟨m,hn,_⟩:=id I5'.loc;refine wpAny_nameGoes_keeps hl hn (by rw[I1.ok.kind];rfl) λh6 v6 hn6 sb6=>?_
  exact k _ (Yn I5' hN hi hn hn6 sb6)
 refine Bt (hh e Fz B pI s4 _ _ {nx:=λY5 H5=>D.nx (Y5.set i Af) H5,rt:=D.rt} I4 ⟨_,x4,?_⟩) (λf s5 hf=>?_) λ_ _ z=>Bs z
 .unfold hdO at p2;cases ef:fh (U'.set i (Ab (.exc y.c y.fs,Ad))) with
  |next U''=>rw[ef]at p2;exact λY5 H5 x5=>p2 _ _ (x5.unset i)
  |ret d b=>rw[ef]at p2;exact p2
  |brk _=>rw[ef]at p2;exact p2.elim
  |cont _=>rw[ef]at p2;exact p2.elim
  |exn _ _=>rw[ef]at p2;exact p2.elim
  |bad=>rw[ef]at p2;exact p2.elim
 .cases f with
  |next=>
   obtain⟨Y5,H5,I5,q⟩:=hf;exact fin I5 λs6 I6=>⟨_,H5,I6,q⟩
  |ret u=>
   obtain⟨v,Y5,H5,I5,r,q⟩:=hf;exact fin I5 λs6 I6=>⟨v,_,H5,I6,r,q⟩
  |brk=>obtain⟨_,_,_,q⟩:=hf;exact Bs q
  |cont=>obtain⟨_,_,_,q⟩:=hf;exact Bs q
def UR(X:Cx)(CL:ClA)(up:Ae->Ac Ae)(g:Ah)(c:Ae):Prop:=∃ C',Gl X g/\X.mg g=Ab (.ref C')/\(g==("__debug__" : Ah))=Ad/\XcOk X.K C'/\∀ c' C,CL c'=Ab C->BB X.K (.ref C) (.ref C')=Ab ((up c').contains c)
theorem Y_4{y:Ex}{Q:Flow->Ap->Prop}{hd:Ac E1}(hx:X.ex=[])(hst:X.stack=X.env::X.outer)(hfm:X.env.frame=Ab X.env.locals)(k:∀ e T1 cls dx H' s1,Inv X pI Y H' s1->AG H H'->Fly e T1 cls dx s1.heap->II X pI e->II X pI T1->H' e=Af->H' T1=Af->F5 X.K CL H' cls dx y->AB (model X.prog X.w) X.A (JA (.ref e) X.env hd) Q X.xe s1):JU X CL pI Y H y (λev s1=>AB (model X.prog X.w) X.A (GR ev X.env) (λ_ s2=>AB (model X.prog X.w) X.A (HF ev Af) (λ_ s3=>AB (model X.prog X.w) X.A (JA ev X.env hd) Q X.xe s3) X.xe s2) X.xe s1):=by
 intro s' H' e T cls dx I' sm fl he hT ae aT xr;have two:∀{T:Ak}{Z_:Ak->Prop},Z_ e->Z_ T->∀ b∈[e,T],Z_ b:=λ{T Z_} h1 h2 b hb=>by
  rcases AI.mp hb with rfl|hb
  .exact h1
  .rw[Bk.mp hb];exact h2
 have hfr:X.A.frames=Ab (X.env::X.outer):=by rw[<-hst];exact I'.ok.frames
 refine ZF (base:=X.base) hfr hfm (by rw[<-hst];exact I'.stack) fl λh1 T1 fl1 sh1 hT1=>?_
 rw[<-hst]at sh1;exact k e T1 cls dx H' _ (QU I' hx sh1 (two ae aT) (two (Z_:=λb=>H' b=Af) he hT)) sm fl1 ae (hT1.elim (λz=>z ▸ aT) λz=>Oi I' hx z) he (hT1.elim (λz=>z ▸ hT) λz=>Ml I'.hok z) xr
theorem fR{c i:Ae}{g n:Ah}{body:Ac AZ}{p1 hp:AR}{fb:Rho->O}(hx:X.ex=[])(hst:X.stack=X.env::X.outer)(hfm:X.env.frame=Ab X.env.locals)(hN:X.N.Nodup)(hi:X.N[i]?=Ab n)(hl:X.env.scope.names.lookup n=Ab .local)(h1:UR X CL up g c)(hb:STB X CL body fb)(hρ:∀ U y U',fb U=.exn y U'->U'=U)(hh:∀ e,SSs (Cx.hot X e) CL (λ_ _=>A5) (h0::hs) fh):SS X CL W (.Try body [.ExceptHandler (Ab (.Name g p1)) (Ab n) (h0::hs) hp] [] [] pos) (λU=>Uj up c i (fb U) fh):=λFz B pI s Y H D I ⟨U,x,p⟩=>by
 refine wpAny_Try_except (Bt (hb Fz B pI s Y H D U _ PassesOwn.looking I x ?_ (hρ U)) (λf s1 hf=>?_) λ_ _ z=>z)
 .dsimp only at p;cases eb:fb U with
  |exn y U'=>
   rw[eb]at p;intro e0;subst e0;have p2:BW X.K CL Fz B W (if (up y.c).contains c=Aa then hdO i y U' fh else .bad) D:=p
   refine Y_4 hx hst hfm λe T1 cls dx H' s1 I1 sm fl1 ae aT1 he HT1 xr=>?_
   have gx:=x.grow sm;obtain⟨C,hcl,rfl,_⟩:=xr (BL B U' Y) gx.aok;obtain⟨C',hg,hm,hdb,xc,hup⟩:=h1;refine cB (W:=W) hx hN hi hl hg hm hdb xc (hup y.c C hcl) hh I1 fl1 ae aT1 he HT1 gx hcl xr (λhc=>?_) (λhc=>?_)
   .rw[Aq hc]at p2;exact p2
   .rw[Ar (by rw[hc];exact Az)]at p2;exact p2.elim
  |next U'=>rw[eb]at p;exact p
  |ret d b=>rw[eb]at p;exact p
  |brk U'=>rw[eb]at p;exact p
  |cont U'=>rw[eb]at p;exact p
  |bad=>rw[eb]at p;exact p.elim
 .cases f with
  |next=>exact E6 hf
  |ret u=>exact hf
  |brk=>exact hf
  |cont=>exact hf
theorem Rg{f:Ak}{sp:Sp}{E:XK}{e:An}{es:Ac An}{t:TA}(F:FnOk X.prog X.w X.K X.mg X.base CX k f fd ps sp)(hr:Room k X.A)(hg:Gl X x)(hm:X.mg x=Ab (.ref f))(hk:Co X.K (.ref f)=Aa)(hb:G1 X.K fd ps [])(hx:∀ pI H s e s',Inv X pI Y0 H s->CX X.stack H s E e s'->X.xe e s')(ha:PA X (e::es) t)(hdb:(x==("__debug__" : Ah))=Ad)(he:Ay (e::es) X.env=(Ad,eval e X.env)::Ay es X.env)(hpl:(BR pos (Ay es X.env)).any (·.1)=Ad):PE X (.Call (.Name x p) (e::es) [] pos) (λY H Q=>Y=Y0/\t Y H λvs H1=>sp vs H1 Q E):=by
 intro pI s Y H Q I ⟨e0,h⟩;subst e0;refine Ff (Lw I hg hm ?_ hdb);refine W2 (h₀:=X.base) I.ok.mod.kin hk (thn (ha pos pI s Y H _ I h) λus s1 ⟨vs,H1,I1,r,q⟩=>⟨I1.kIn,?_⟩) he hpl
 have hl:us.length=ps.length:=by rw[<-r.length];exact F.len _ _ _ _ q
 have hb':GE s1 fd ⟨us,[]⟩ (ps.zip us):=by
  have:=hb s1 us I1.kIn (by rw[Bo];exact hl)
  rw[Bo]at this;exact this
 refine wpAny_call (Hq (F.run X.A X.stack s1 H1 ⟨us,[]⟩ us vs Q E hr I1.env0 hb' r q) λr s' hq=>?_)
 cases r with
 |error e=>exact hx pI H1 s1 e s' I1 hq
 |ok fl=>
  cases fl with
  |ret u=>exact I1.after hq
  |next=>exact Bs hq
  |brk=>exact Bs hq
  |cont=>exact Bs hq
def Pp(K:Fg)(CL:ClA)(Rp:Hp->V->D->Prop)(E0:XK)(H:Hp)(r:R D)(Q:VK):Prop:=match r with
  |.ok d=>∀ v H',AG H H'->Rp H' v d->Q v H'
  |.exn y=>∀ cls dx H',AG H H'->F5 K CL H' cls dx y->E0 cls dx H'
  |.bad=>A5
theorem Mg{k n:Ae}{f:Ak}{F:Ac D->R D}{e:An}{es:Ac An}{fs ft:Rho->R (Ac D)}{sh:Rho->Ai}{E0:XK}(G:FnOk X.prog X.w X.K X.mg X.base CX k f fd ps (spD X.K CL n fr F))(hr:Room k X.A)(hg:Gl X x)(hm:X.mg x=Ab (.ref f))(hk:Co X.K (.ref f)=Aa)(hb:G1 X.K fd ps [])(hx:∀ pI H s e s',Inv X pI Y0 H s->CX X.stack H s E0 e s'->X.xe e s')(ha:SA X CL (λ_ _=>A5) (e::es) fs)(hat:SAT X CL (λ_ _=>A5) (e::es) ft)(hst:∀ U,sh U=Aa->ft U=fs U)(hn:∀ U ds,ft U=.ok ds->ds.length=n)(hnx:∀ U y,ft U≠.exn y)(hdb:(x==("__debug__" : Ah))=Ad)(he:Ay (e::es) X.env=(Ad,eval e X.env)::Ay es X.env)(hpl:∀ pos,(BR pos (Ay es X.env)).any (·.1)=Ad)(A:Ak->Prop):PE X (.Call (.Name x p) (e::es) [] pos) (λY H Q=>Y=Y0/\AOk H A/\∃ U,Good X.K CL A U Y H/\Pp X.K CL (DY X.K CL fr H A) E0 H ((ft U).bind λds=>(F ds).bind λd=>if sh U=Aa then .ok d else if FN fr d=Aa then .ok d else .bad) Q):=λpI s Y H Q I ⟨e0,hA,U,gd,q⟩=>by
 by_cases hs:sh U=Aa
 .rw[hst U hs]at q;refine Rg G hr hg hm hk hb hx (ha A) hdb he (hpl _) pI s Y H Q I ⟨e0,hA,U,gd,?_⟩;cases e1:fs U with
  |bad=>rw[e1]at q;exact q
  |exn y=>exact absurd (by rw[hst U hs];exact e1) (hnx U y)
  |ok ds=>
   rw[e1]at q;intro vs H1 s1 r1;refine⟨ds,A,by rw[r1.length];exact hn U ds (by rw[hst U hs];exact e1),hA.same s1,r1,?_⟩
   have q':Pp X.K CL (DY X.K CL fr H A) E0 H ((F ds).bind λd=>if sh U=Aa then .ok d else if FN fr d=Aa then .ok d else .bad) Q:=q
   cases e2:F ds with
   |ok d=>
    rw[e2,R.bind_ok,Aq hs]at q';exact λv H2 s2 r2=>q' v H2 (s1.trans s2) ⟨r2.1,λz ds' e'=>let ⟨a,xs,z1,z2,z3⟩:=r2.2 z ds' e';⟨a,xs,z1,s1.free z2,z3⟩⟩
   |exn y=>
    rw[e2]at q';exact λcls dx H2 s2 xr=>q' cls dx H2 (s1.trans s2) xr
   |bad=>rw[e2]at q';exact q'.elim
 .refine Rg G hr hg hm hk hb hx (hat A) hdb he (hpl _) pI s Y H Q I ⟨e0,hA,U,gd,?_⟩;cases e1:ft U with
  |bad=>rw[e1]at q;exact q
  |exn y=>exact absurd e1 (hnx U y)
  |ok ds=>
   rw[e1]at q;intro vs H1 s1 r1;refine⟨ds,A0,by rw[r1.plain.length];exact hn U ds e1,λ_ z=>z.elim,r1.plain,?_⟩
   have q':Pp X.K CL (DY X.K CL fr H A) E0 H ((F ds).bind λd=>if sh U=Aa then .ok d else if FN fr d=Aa then .ok d else .bad) Q:=q
   cases e2:F ds with
   |ok d=>
    rw[e2,R.bind_ok,Ar hs]at q';split at q'
    .rename_i hc;exact λv H2 s2 r2=>q' v H2 (s1.trans s2) (Tf hA (s1.trans s2) hc ⟨r2.1,λz ds' e'=>let ⟨a,xs,z1,z2,z3⟩:=r2.2 z ds' e';⟨a,xs,z1,s1.free z2,z3⟩⟩)
    .exact q'.elim
   |exn y=>
    rw[e2]at q';exact λcls dx H2 s2 xr=>q' cls dx H2 (s1.trans s2) xr
   |bad=>rw[e2]at q';exact q'.elim
noncomputable def Cx.pw(X:Cx)(pI:Pn)(Xw:Vq):Cx:={X with pn:=X.pn++pI,xe:=Xw}
section
variable{X:Cx}{pI pins':Pn}{Y:L2.St}{H:Hp}{s:Ap}{Xw:Vq}
theorem pG(ok:X.Ok):(Cx.pw X pI Xw).Ok:=⟨ok.mod,ok.kind,ok.glob,ok.blt,ok.above,ok.inj,ok.has,ok.cab,ok.hd,ok.frames,ok.stk,ok.exf,ok.bs,ok.bsz,ok.noex,ok.exfs,ok.funs,ok.frf⟩
theorem LF(I:Inv X pI Y H s)(Xw:Vq):Inv (Cx.pw X pI Xw) [] Y H s:=⟨pG I.ok,I.os,I.bare,I.base,I.loc,I.cell,I.free,I.freeC,λp hp=>I.pin p (by
 rcases Ce.mp hp with z|z
 .exact z
 .exact absurd z (by simp)),I.hok,I.len⟩
theorem Kj(ok:X.Ok)(I:Inv (Cx.pw X pI Xw) pins' Y H s):Inv X pI Y H s:=⟨ok,I.os,I.bare,I.base,I.loc,I.cell,I.free,I.freeC,λp hp=>I.pin p (ET _ hp),I.hok,I.len⟩
theorem Ms(ok:X.Ok){D:Ends}{f:Flow}{s':Ap}(h:SP (Cx.pw X pI Xw) pins' D f s'):SP X pI D f s':=by
 cases f with
 |next=>obtain⟨Y',H',I,q⟩:=h;exact⟨Y',H',Kj ok I,q⟩
 |brk=>obtain⟨Y',H',I,q⟩:=h;exact⟨Y',H',Kj ok I,q⟩
 |cont=>obtain⟨Y',H',I,q⟩:=h;exact⟨Y',H',Kj ok I,q⟩
 |ret u=>obtain⟨v,Y',H',I,r,q⟩:=h;exact⟨v,Y',H',Kj ok I,r,q⟩
end
section
variable{X:Cx}{CL:ClA}{k n:Ae}{fr:Ai}{f:Ak}{fd:BQ}{ps:Ac Ah}{F:Ac D->R D}{x:Ah}{p pos pos2:AR}{e:An}{es:Ac An}{fs ft:Rho->R (Ac D)}{sh:Rho->Ai}
theorem RJ{y:Ex}(hx:X.ex=[])(ok:X.Ok)(q:JU X CL pI Y H y Xw):∀ pins' H1 s1 e s',Inv (Cx.pw X pI Xw) pins' Y H1 s1->CXR X.prog X.w (Cx.pw X pI Xw).stack H1 s1 (λcls dx H'=>F5 X.K CL H' cls dx y/\AG H H') e s'->(Cx.pw X pI Xw).xe e s':=by
 intro pins' H1 s1 ev s' J h;obtain⟨e,T,cls,dx,H',rfl,os,bare,un,hok,fl,he,hT,ne,nT,xr,sm⟩:=h;have J':=Kj ok J;have J2:=J'.call' (s':=s') (ch:=[]) os un hok bare (λb z=>absurd z (by simp))
 exact q s' H' e T cls dx J2 sm fl he hT (Oi J' hx ne) (Oi J' hx nT) xr
theorem RK:∀ pins' H1 s1 e s',Inv (Cx.pw X pI Xw) pins' Y H1 s1->CXR X.prog X.w (Cx.pw X pI Xw).stack H1 s1 (λ_ _ _=>A5) e s'->(Cx.pw X pI Xw).xe e s':=by
 intro pins' H1 s1 ev s' J h;obtain⟨e,T,cls,dx,H',rfl,os,bare,un,hok,fl,he,hT,ne,nT,w⟩:=h;exact w.elim
variable(hx0:X.ex=[])(G:FnOk X.prog X.w X.K X.mg X.base (CXR X.prog X.w) k f fd ps (spD X.K CL n fr F))(hr:Room k X.A)(hg:Gl X x)(hm:X.mg x=Ab (.ref f))
    (hk:Co X.K (.ref f)=Aa) (hb:G1 X.K fd ps []) (hst:∀ U,sh U=Aa->ft U=fs U) (hn:∀ U ds,ft U=.ok ds->ds.length=n) (hnx:∀ U y,ft U≠.exn y)
    (hdb:(x==("__debug__" : Ah))=Ad) (he:Ay (e::es) X.env=(Ad,eval e X.env)::Ay es X.env) (hpl:∀ pos,(BR pos (Ay es X.env)).any (·.1)=Ad)
    (ha:∀ pI Xw,Fe (model X.prog X.w) X.A X.env Xw->SA (Cx.pw X pI Xw) CL (λ_ _=>A5) (e::es) fs/\SAT (Cx.pw X pI Xw) CL (λ_ _=>A5) (e::es) ft)
include hx0 G hr hg hm hk hb hst hn hnx hdb he hpl ha
theorem Za(hs:Dh (.Call (.Name x p) (e::es) [] pos) Af pos2.line X.env=pure Ad):STB X CL [.Expr (.Call (.Name x p) (e::es) [] pos) pos2] (λU=>O.of U ((ft U).bind λds=>(F ds).bind λd=>if sh U=Aa then .ok d else if FN fr d=Aa then .ok d else .bad) λ_=>.next U):=by
 intro Fz B pI s Y H D U Xw own I sx q _;obtain⟨ha1,ha2⟩:=ha pI Xw own;dsimp only at q;cases er:(ft U).bind λds=>(F ds).bind λd=>if sh U=Aa then .ok d else if FN fr d=Aa then .ok d else .bad with
 |bad=>rw[er]at q;exact q.elim
 |exn y=>
  rw[er]at q;have key:=Mg (X:=Cx.pw X pI Xw) (p:=p) (pos:=pos) (Y0:=Y) (fr:=fr) (F:=F) (n:=n) (sh:=sh) G hr hg hm hk hb (RJ hx0 I.ok (q rfl)) ha1 ha2 hst hn hnx hdb he hpl (BL B U Y);refine Bt (Mu (Ks (pos:=pos2) key hs) [] s Y H D (LF I Xw) ⟨rfl,sx.aok,U,sx.good,?_⟩) (λ_ _ z=>Ms I.ok z) λ_ _ z=>z
  rw[er];exact λcls dx H' sm xr=>⟨xr,sm⟩
 |ok d=>
  rw[er]at q;have key:=Mg (X:=Cx.pw X pI Xw) (p:=p) (pos:=pos) (Y0:=Y) (fr:=fr) (F:=F) (n:=n) (sh:=sh) (E0:=λ_ _ _=>A5) G hr hg hm hk hb RK ha1 ha2 hst hn hnx hdb he hpl (BL B U Y)
  refine Bt (Mu (Ks (pos:=pos2) key hs) [] s Y H D (LF I Xw) ⟨rfl,sx.aok,U,sx.good,?_⟩) (λ_ _ z=>Ms I.ok z) λ_ _ z=>z
  rw[er];exact λv H' sm r=>q Y H' (sx.grow sm)
theorem bZ{i:Ae}{m:Ah}(hN:X.N.Nodup)(hi:X.N[i]?=Ab m)(hl:Loc X.env.scope m)(hf:X.fn m=Aa\/X.env.scope.names.lookup m=Ab .local)(hs:Dh (.Call (.Name x p) (e::es) [] pos) (Ab (.Name m pos')) pos2.line X.env=pure Ad):STB X CL [.Assign [.Name m pos'] (.Call (.Name x p) (e::es) [] pos) pos2] (λU=>O.of U ((ft U).bind λds=>(F ds).bind λd=>if sh U=Aa then .ok d else if FN fr d=Aa then .ok d else .bad) λd=>.next (U.set i (Ab (d,Ad)))):=by
 intro Fz B pI s Y H D U Xw own I sx q _;obtain⟨ha1,ha2⟩:=ha pI Xw own;dsimp only at q;cases er:(ft U).bind λds=>(F ds).bind λd=>if sh U=Aa then .ok d else if FN fr d=Aa then .ok d else .bad with
 |bad=>rw[er]at q;exact q.elim
 |exn y=>
  rw[er]at q;have key:=Mg (X:=Cx.pw X pI Xw) (p:=p) (pos:=pos) (Y0:=Y) (fr:=fr) (F:=F) (n:=n) (sh:=sh) G hr hg hm hk hb (RJ hx0 I.ok (q rfl)) ha1 ha2 hst hn hnx hdb he hpl (BL B U Y);refine Bt (Mu (ME (X:=Cx.pw X pI Xw) (i:=i) (pos:=pos2) hN hi hl key hs hf) [] s Y H D (LF I Xw) ⟨rfl,sx.aok,U,sx.good,?_⟩) (λ_ _ z=>Ms I.ok z) λ_ _ z=>z
  rw[er];exact λcls dx H' sm xr=>⟨xr,sm⟩
 |ok d=>
  rw[er]at q;have key:=Mg (X:=Cx.pw X pI Xw) (p:=p) (pos:=pos) (Y0:=Y) (fr:=fr) (F:=F) (n:=n) (sh:=sh) (E0:=λ_ _ _=>A5) G hr hg hm hk hb RK ha1 ha2 hst hn hnx hdb he hpl (BL B U Y)
  refine Bt (Mu (ME (X:=Cx.pw X pI Xw) (i:=i) (pos:=pos2) hN hi hl key hs hf) [] s Y H D (LF I Xw) ⟨rfl,sx.aok,U,sx.good,?_⟩) (λ_ _ z=>Ms I.ok z) λ_ _ z=>z
  rw[er];exact λv H' sm r=>q _ H' ((sx.grow sm).set i r.1)
end
section
variable{X:Cx}{CL:ClA}{W:XW}
theorem Zb{e:An}{es:Ac An}(hcalm:X.calm=Aa)(rz:LR X CL W)(hg:Gl X g)(hm:X.mg g=Ab (.ref C))(hdb:(g==("__debug__" : Ah))=Ad)(xc:Ea X.K C Af=Aa)(hcl:CL c=Ab C)(ha:SA X CL W (e::es) fs)(hxn:∀ ds,xn c ds=.bad\/xn c ds=.ok ⟨c,[]⟩)(he:Ay (e::es) X.env=(Ad,eval e X.env)::Ay es X.env)(hpl:∀ pos,(BR pos (Ay es X.env)).any (·.1)=Ad)(hz:∀ U ds,fs U=.ok ds->ds.length<=100000):SS X CL W (.Raise (Ab (.Call (.Name g np) (e::es) [] cpos)) Af pos) (λU=>O.of U (noX (fs U)) λxs=>O.of U (xn c xs) λx=>.exn x U):=λFz B pI s Y H D I ⟨U,x,p⟩=>by
 dsimp only at p;cases e1:fs U with
 |bad=>rw[e1]at p;exact p.elim
 |exn y=>rw[e1]at p;exact p.elim
 |ok ds=>
  rw[e1]at p;have p2:BW X.K CL Fz B W (O.of U (xn c ds) λx=>.exn x U) D:=p
  rcases hxn ds with e2|e2
  .rw[e2]at p2;exact p2.elim
  .rw[e2]at p2;have p3:∀ H,(∀ b o,Fz b o->H b=Ab o)->W ⟨c,[]⟩ H:=p2;obtain⟨bm,N,nm,qn,bs,hd,sn,sub,ab,col,dd,k0,k1,k2,k3,k5,mN,hob,hni,hbase⟩:=Q5 I.kIn xc;refine wpAny_Raise_call_subT (bmB:=veB) (nm:=nm) (q:=qn) (C:=C) (N:=N) (bs:=bs) (bm:=bm) (hdct:=hd) (sn:=sn) (sub:=sub) (ab:=ab) (col:=col) (dd:=dd) (k0:=k0) (k1:=k1) (k2:=k2) (k3:=k3) (k5:=k5) (mN:=mN) PySem.F.excBase_ValueError hbase (I.ok.hd hcalm) (by rw[he];show (Ad||(BR cpos (Ay es X.env)).any (·.1))=Ad;rw[hpl];rfl) hni ?_
   refine Lw I hg hm ⟨rfl,?_⟩ hdb;have q1:=ha (BL B U Y) cpos pI s Y H (λvs H1=>AG H H1/\vs.length=ds.length) I ⟨x.aok,U,x.good,by rw[e1];exact λvs H1 s1 r1=>⟨s1,r1.length⟩⟩
   rw[he]at q1 ⊢;refine VU (Bt q1 (λus s2 ⟨vs,H2,I2,r2,s2',hl⟩=>⟨rfl,?_⟩) λ_ _ z=>z)
   obtain⟨o1,o2,o3⟩:=hob _ I2.kIn;refine⟨?_,o1,o2,o3,λh' ev hmade=>?_⟩
   .rw[<-r2.length,hl,B9];have:=hz U ds e1;omega
   .obtain⟨t,ge,_⟩:=hmade.there;have I3:Inv X pI Y H2 {s2 with heap:=h'}:=I2.kept (t':=s2.toks) hmade.keeps
    exact rz pI Y H2 _ ev C Af t ⟨c,[]⟩ I3 (λhx=>Ke I2 hx hmade.new) (Ml I2.hok hmade.new) ge (λA _=>⟨C,hcl,rfl,.inl rfl⟩) (p3 H2 λb o z=>s2' _ _ (x.same b o z))
def LB(K:Fg)(CL:ClA)(up:Ae->Ac Ae)(c':Ae)(C':Ak):Prop:=∀ c C,CL c=Ab C->CP K (.ref C) (.ref C')=Ab ((up c).contains c')
theorem Rw{s:Ap}{cv:Aj}{b:Ai}{Q:VK}(I:Inv X pI Y H s)(ha:H a=Ab (.ext φ))(hφ:∀ h,φ h->∃ o,h.get? a=Ab o/\o.cls=.ref C)(xc:XcOk X.K C)(e:CP X.K (.ref C) cv=Ab b)(q:Q (.bl b) H):
  AB (model X.prog X.w) X.A (call (.builtin "isinstance") [.ref a,cv]) (EP X pI Y Q) X.xe s:=by
 have p:XAt a C s.heap:=hφ _ (I.hok a _ ha).1;exact PySem.W.kia_one (Rv xc) I.kIn p e (by intro z;cases z) λtk=>⟨.bl b,H,I.tok tk,rfl,q⟩
theorem Qq:∀(Cs:Ac Ak){its:Ac Aj},A6 (Cs.map V.ref) its->its=Cs.map De
 |[],_,rv=>by cases rv;rfl
 |c::cs,_,rv=>by
  cases rv with
  |cons h1 h2=>rw[Qq cs h2];cases h1;rfl
theorem dC{s:Ap}{tp:Ak}{Cs:Ac Ak}{b:Ai}{Q:VK}(I:Inv X pI Y H s)(ha:H a=Ab (.ext φ))(hφ:∀ h,φ h->∃ o,h.get? a=Ab o/\o.cls=.ref C)(xc:XcOk X.K C)(ht:H tp=Ab (.tup (Cs.map V.ref)))(e:Ig X.K (.ref C) (Cs.map De)=Ab b)(q:Q (.bl b) H):
  AB (model X.prog X.w) X.A (call (.builtin "isinstance") [.ref a,.ref tp]) (EP X pI Y Q) X.xe s:=by
 have p:XAt a C s.heap:=hφ _ (I.hok a _ ha).1;obtain⟨_,its,rv,⟨o,ho,hc,n,hd⟩⟩:=I.hok tp _ ht;have ei:its=Cs.map De:=Qq Cs rv;subst ei;obtain⟨cls,dd,dat,sl⟩:=o;have hc':cls=.type "tuple" := hc;have hd':dat=.seq (Cn (Cs.map De)) n:=hd;subst hc' hd';exact PySem.W.kia_tup (Rv xc) I.kIn p ho e (by intro z;cases z) λtk=>⟨.bl b,H,I.tok tk,rfl,q⟩
theorem R9{K:Fg}{up:Ae->Ac Ae}{c:Ae}{C:Ak}(h:CL c=Ab C):∀(cs:Ac (Ae×Ak)),(∀ p∈cs,LB K CL up p.1 p.2)->Ig K (.ref C) ((cs.map λq:Ae×Ak=>q.2).map De)=Ab (cs.any λp=>(up c).contains p.1)
  |[],_=>rfl
  |p::cs,hk=>by
    have h1:=hk p AN c C h;have h2:=R9 h cs λq hq=>hk q (AC _ hq)
    show (match CP K (.ref C) (.ref p.2) with
      |some Aa=>Ab Aa
      |some Ad=>Ig K (.ref C) ((cs.map λq:Ae×Ak=>q.2).map De)
      | none=>Af)=_
    rw[h1,U_9];cases (up c).contains p.1 with
    |true=>rfl
    |false=>rw[h2];rfl
theorem Oa{ks:Ac Ki}{Rp:Hp->V->D->Prop}{Q:VK}(hk:ks.all Ew=Aa)(hne:ks≠[])(p:Bg Rp W H (EI up ks d) Q):∃ c fs,d=.exc c fs/\Bg Rp W H (.ok (.bl (ks.any λk=>kiD up k d))) Q:=by
 have ha:ks.any Ew=Aa:=by
  cases ks with
  |nil=>exact absurd rfl hne
  |cons k ks=>simp only[C5,Al]at hk;simp[U_9,hk.1]
 cases d with
 | exc c fs=>exact⟨c,fs,rfl,by
   have p':Bg Rp W H (if ks.all Ew=Aa then .ok (.bl (ks.any λk=>kiD up k (.exc c fs))) else .bad) Q:=p
   rw[Aq hk]at p';exact p'⟩
 |obj c fs=>exact Bs p
 |dic _=>exact Bs p
 |non=>simp only[EI,ha,ES]at p;exact Bs p
 |bl _=>simp only[EI,ha,ES]at p;exact Bs p
 |int _=>simp only[EI,ha,ES]at p;exact Bs p
 |str _=>simp only[EI,ha,ES]at p;exact Bs p
 |tup _=>simp only[EI,ha,ES]at p;exact Bs p
 |lst _=>simp only[EI,ha,ES]at p;exact Bs p
theorem Ou{v:V}{fs:Ac (Ah×D)}(r:CG K CL H A v (.exc c fs)):∃ a C φ,v=.ref a/\CL c=Ab C/\H a=Ab (.ext φ)/\∀ h,φ h->∃ o,h.get? a=Ab o/\o.cls=.ref C:=by
 rcases r with ⟨a,C,φ,e,_,hc,hH,hφ,_⟩|⟨a,xs,ds,_,z,_⟩
 .exact⟨a,C,φ,e,hc,hH,hφ⟩
 .cases z
variable{a:An}{fa:Rho->R D}{up:Ae->Ac Ae}{x:Ah}{p p2 pos:AR}
theorem gJ{c':Ae}(hxc:∀ c C,CL c=Ab C->XcOk X.K C)(hg:Gl X "isinstance")(hm:X.mg "isinstance" = Af)(hg2:Gl X x)(hm2:X.mg x=Ab (.ref C'))(hkit:LB X.K CL up c' C')(hdb:(x==("__debug__" : Ah))=Ad)(ha:ST X CL W a fa)(he:Ay [a,.Name x p2] X.env=(Ad,eval a X.env)::Ay [.Name x p2] X.env):SE X CL W (.Call (.Name "isinstance" p) [a,.Name x p2] [] pos) (λU=>(fa U).bind λx=>EI up [.cls c'] x):=λA=>
 PE.weak (Kd (r:=λxs H Q=>∃ a C φ c,xs=[.ref a,.ref C']/\CL c=Ab C/\H a=Ab (.ext φ)/\(∀ h,φ h->∃ o,h.get? a=Ab o/\o.cls=.ref C)/\Q (.bl ((up c).contains c')) H) (λpI s Y H xs us Q I r ⟨b,C,φ,c,e,hc,hH,hφ,q⟩=>by
   subst e;obtain⟨u,w',rfl,r1,r2⟩:=MP r;cases r1;cases r2;exact Rw I hH hφ (hxc c C hc) (hkit c C hc) q)
  hg hm Gh (El (ha A) (El (RQ (v:=.ref C') hg2 hm2 rfl hdb) F1 rfl) he) (by decide) (by decide) he rfl) λY H Q ⟨hA,U,g,q⟩=>⟨hA,U,g,Bg.bind q λd v H1 _ s1 r1 p1=>by
   obtain⟨c,fs,rfl,p2⟩:=Oa (by rfl) (by simp) p1
   obtain⟨b,C,φ,rfl,hc,hH,hφ⟩:=Ou r1;refine⟨b,C,φ,c,rfl,hc,hH,hφ,p2 _ H1 (AG.refl H1) ?_⟩;exact congrArg V.bl (Ey _).symm⟩
theorem gG(hxc:∀ c C,CL c=Ab C->XcOk X.K C)(hg:Gl X "isinstance")(hm:X.mg "isinstance" = Af)(hg2:Gl X "ValueError")(hm2:X.mg "ValueError" = Af)(ha:ST X CL W a fa)(he:Ay [a,.Name "ValueError" p2] X.env=(Ad,eval a X.env)::Ay [.Name "ValueError" p2] X.env):SE X CL W (.Call (.Name "isinstance" p) [a,.Name "ValueError" p2] [] pos) (λU=>(fa U).bind λx=>EI up [.verr] x):=λA=>
 PE.weak (Kd (r:=λxs H Q=>∃ a C φ c,xs=[.ref a,.ty "ValueError"]/\CL c=Ab C/\H a=Ab (.ext φ)/\(∀ h,φ h->∃ o,h.get? a=Ab o/\o.cls=.ref C)/\Q (.bl Aa) H) (λpI s Y H xs us Q I r ⟨b,C,φ,c,e,hc,hH,hφ,q⟩=>by
   subst e;obtain⟨u,w',rfl,r1,r2⟩:=MP r;cases r1;cases r2;exact Rw I hH hφ (hxc c C hc) (hxc c C hc).ve q)
  hg hm Gh (El (ha A) (El (RU (v:=.ty "ValueError") hg2 hm2 PyProof.Rows.Boot.«ValueError» rfl (by decide) (by decide)) F1 rfl) he) (by decide) (by decide) he rfl) λY H Q ⟨hA,U,g,q⟩=>⟨hA,U,g,Bg.bind q λd v H1 _ s1 r1 p1=>by
   obtain⟨c,fs,rfl,p2⟩:=Oa (by rfl) (by simp) p1
   obtain⟨b,C,φ,rfl,hc,hH,hφ⟩:=Ou r1;refine⟨b,C,φ,c,rfl,hc,hH,hφ,p2 _ H1 (AG.refl H1) ?_⟩;exact congrArg V.bl (Ey _).symm⟩
theorem eL(up:Ae->Ac Ae)(c:Ae)(fs:Ac (Ah×D))(cs:Ac (Ae×Ak)):((cs.map λq=>Ki.cls q.1).any λk=>kiD up k (.exc c fs))=cs.any λq=>(up c).contains q.1:=List.any_map
def UB(Cs:Ac Ak):TA:=λ_ H Q=>Q (Cs.map V.ref) H
theorem gH{ts:Ac An}{cs:Ac (Ae×Ak)}(hxc:∀ c C,CL c=Ab C->XcOk X.K C)(hg:Gl X "isinstance")(hm:X.mg "isinstance" = Af)(hts:PA X ts (UB (cs.map λq:Ae×Ak=>q.2)))(hne:cs≠[])(hl:cs.length<=1000)(hkit:∀ q∈cs,LB X.K CL up q.1 q.2)(ha:ST X CL W a fa)(he:Ay [a,.Tuple ts kk p2] X.env=(Ad,eval a X.env)::Ay [.Tuple ts kk p2] X.env):SE X CL W (.Call (.Name "isinstance" p) [a,.Tuple ts kk p2] [] pos) (λU=>(fa U).bind λx=>EI up (cs.map λq=>.cls q.1) x):=λA=>
 PE.weak (Kd (r:=λxs H Q=>∃ a C φ c tp,xs=[.ref a,.ref tp]/\CL c=Ab C/\H a=Ab (.ext φ)/\(∀ h,φ h->∃ o,h.get? a=Ab o/\o.cls=.ref C)/\H tp=Ab (.tup ((cs.map λq:Ae×Ak=>q.2).map V.ref))/\Q (.bl (cs.any λq=>(up c).contains q.1)) H) (λpI s Y H xs us Q I r ⟨b,C,φ,c,tp,e,hc,hH,hφ,ht,q⟩=>by
   subst e;obtain⟨u,w',rfl,r1,r2⟩:=MP r;cases r1;cases r2;exact dC I hH hφ (hxc c C hc) ht (R9 hc cs hkit) q)
  hg hm Gh (El (ha A) (El (Tz hts) F1 rfl) he) (by decide) (by decide) he rfl) λY H Q ⟨hA,U,g,q⟩=>⟨hA,U,g,Bg.bind q λd v H1 _ s1 r1 p1=>by
   have hk:(cs.map λq=>Ki.cls q.1).all Ew=Aa:=by simp[E9,Ew]
   obtain⟨c,fs,rfl,p2⟩:=Oa hk (by simpa using hne) p1
   obtain⟨b,C,φ,rfl,hc,hH,hφ⟩:=Ou r1;refine⟨by rw[AX,AX,B9];omega,λt ht=>?_⟩
   have hbt:b≠t:=FH hH ht;refine⟨b,C,φ,c,t,rfl,hc,by rw[B6 hbt];exact hH,hφ,GF,p2 _ _ (FI ht _) ?_⟩
   exact congrArg V.bl (eL up c fs cs).symm⟩
end
theorem S8(q:Ea K C v=Aa):∃ dd cd sl bm,K.lookup C=Ab ⟨.type "type",dd,.cls cd,sl⟩/\cd.mro=.ref C::bm:=by
 unfold Ea at q;split at q
 .rename_i dd cd sl ho;split at q
  .rename_i C' bm k0 k1 k2 k3 n k5 hm hs;simp only[Al,A7,BA]at q;obtain⟨rfl,_⟩:=q;exact⟨dd,cd,sl,bm,ho,hm⟩
  .cases q
 .cases q
theorem Mq(q:Ea K C v=Aa):∃ cd bm,Dv K C=Ab cd/\cd.mro=.ref C::bm:=by
 obtain⟨dd,cd,sl,bm,h1,h2⟩:=S8 q;exact⟨cd,bm,by unfold Dv;rw[h1],h2⟩
theorem lB(q:Ea K C v=Aa):Ft K (.ref C)=Ab (.type "type"):=by
 obtain⟨dd,cd,sl,bm,h1,h2⟩:=S8 q;show (K.lookup C).map _=_;rw[h1];rfl
theorem cY{v:Ai}{i i':Am Aj}(q:Ea K C i=Aa)(q':Ea K C' i'=Aa)(su:BB K (.ref C) (.ref C')=Ab v):CP K (.ref C) (.ref C')=Ab v:=by
 unfold CP;by_cases e:C=C'
 .subst e;obtain⟨cd,bm,h1,h2⟩:=Mq q;have su':CJ K C (.ref C)=Ab v:=su;have:v=Aa:=by
   unfold CJ at su';rw[h1,VC,h2,Ar (by simp)]at su'
   rw[<-Bh su'];simp
  rw[Aq (by simp),this]
 .rw[Ar (λz=>e (IU (A7.mp z)))]
  obtain⟨cd,bm,h1,h2⟩:=Mq q';show (if ((Dv K C').isSome&&Ft K (.ref C')==Ab (.type "type"))=Aa then BB K (.ref C) (.ref C') else Af)=_
  rw[h1,lB q',Aq (by simp),su]
theorem lZ(exc:Ea K C v=Aa)(ga:Bf K (.ref C) "__getattribute__" = Ab (Ab (.builtin "BaseException.__getattribute__")))(gt:Bf K (.ref C) "__getattr__" = Ab Af)(cl:Bf K (.ref C) "__class__" = Ab (Ab (.builtin "object.__class__")))(ob:CJ K C (.type "object")=Ab Aa)(be:BB K (.ref C) (.type "BaseException")=Ab Aa)(sv:BB K (.ref C) (.type "ValueError")=Ab Aa):XcOk K C:=by
 obtain⟨cd,bm,h1,h2⟩:=Mq exc;refine⟨⟨v,exc⟩,ga,gt,cl,ob,be,by rw[h1];rfl,?_⟩
 unfold CP;rw[Ar (λz=>by cases A7.mp z)]
 have hm:W6 "ValueError" = Aa:=by decide+kernel
 show (if W6 "ValueError" = Aa then BB K (.ref C) (.type "ValueError") else Af)=_
 rw[Aq hm,sv]
noncomputable abbrev rG:CXT:=λ_ _ _ _ _ _=>A5
structure HotOk (P:AM) (w:AY) (K:Fg) (mg:Ah->Am Aj) (base:AD) (k:Ae) (f:Ak) (fd:BQ) (ps:Ac Ah) (sp:Sp):Prop where
 len:∀ vs H Q E,sp vs H Q E->vs.length=ps.length
 run:∀(A:AT)(ev:Ak)(outer:Ac Cr)(s:Ap)(H:Hp)(args:Args)(us:Ac Aj)(vs:Ac V)(Q:VK)(E:XK),Room k A->Env0 P w K mg base (A.mark (Ab (.ref ev))) outer s H->GE s fd args (ps.zip us)->A6 vs us->sp vs H Q E ->
  Gc (model P w) (A.mark (Ab (.ref ev))) (.call (.ref f) args) (CR rG outer P w H s Q E) s
theorem Zy{v:Ai}{i:Am Aj}(q:Ea K C i=Aa)(mr:CJ K C' (.type "object")=Ab Aa)(ty:Ft K (.ref C')=Ab (.type "type"))(su:BB K (.ref C) (.ref C')=Ab v):CP K (.ref C) (.ref C')=Ab v:=by
 unfold CP;by_cases e:C=C'
 .subst e;obtain⟨cd,bm,h1,h2⟩:=Mq q;have su':CJ K C (.ref C)=Ab v:=su;have:v=Aa:=by
   unfold CJ at su';rw[h1,VC,h2,Ar (by simp)]at su'
   rw[<-Bh su'];simp
  rw[Aq (by simp),this]
 .rw[Ar (λz=>e (IU (A7.mp z)))]
  show (if ((Dv K C').isSome&&Ft K (.ref C')==Ab (.type "type"))=Aa then BB K (.ref C) (.ref C') else Af)=_
  have cs:(Dv K C').isSome=Aa:=by
   unfold CJ at mr;cases e1:Dv K C' with
   |none=>rw[e1]at mr;cases mr
   |some cd=>rfl
  rw[cs,ty,Aq (by simp),su]
def spH(K:Fg)(CL:ClA)(n:Ae)(fr:Ai)(F:Ac D->R D):Sp:=λvs H Q _=>∃(ds:Ac D)(A:Ak->Prop),vs.length=n/\AOk H A/\Reps K CL H A vs ds/\(match F ds with
  |.ok d=>∀ v H',AG H H'->DY K CL fr H A H' v d->Q v H'
  |.exn _=>A5
  | .bad=>A5)
section
variable{X:Cx}{CL:ClA}{ev:Ak}
theorem bY{t:An}{xs ys:Ac AZ}{fc:Rho->R Ai}{fx fy:Rho->O}(hc:∀ pI Xw,Fe (model X.prog X.w) X.A X.env Xw->SB (Cx.pw X pI Xw) CL (λ_ _=>A5) t fc)(hnx:∀ U y,fc U≠.exn y)(hx:STB X CL xs fx)(hy:STB X CL ys fy):STB X CL [.If t xs ys pos] (λU=>O.of U (fc U) λb=>if b=Aa then fx U else fy U):=by
  intro Fz B pI s Y H D U Xw own I sx q hρ;dsimp only at q hρ;cases ec:fc U with
  |bad=>rw[ec]at q;exact q.elim
  |exn y=>exact absurd ec (hnx U y)
  |ok b=>
    rw[ec]at q hρ;have key:=hc pI Xw own (BL B U Y) [] s Y H (λb' H'=>b'=b/\AG H H') (LF I Xw) ⟨sx.aok,U,sx.good,by rw[ec];exact λH' sm=>⟨rfl,sm⟩⟩
    refine Hr (thn (wpAny_If (Q:=SP X pI D) (thn key λb' s1 ⟨H1,I1,e,sm⟩=>?_)) (λf s1 z=>by
      cases f with
      |next=>exact E6 z
      |ret v=>exact z
      |brk=>exact z
      | cont=>exact z))
    subst e;have J:=Kj I.ok I1;have up:∀{y:Ex},JU X CL pI Y H y Xw->JU X CL pI Y H1 y Xw:=λ{y} w s' H' e T cls dx a1 a2=>w s' H' e T cls dx a1 (sm.trans a2)
    have lift:∀{o:O},(match o with
       |.exn y U'=>U'=U->JU X CL pI Y H y Xw
       |o=>BW X.K CL Fz B (λ_ _=>A5) o D)->(match o with
       |.exn y U'=>U'=U->JU X CL pI Y H1 y Xw
       | o=>BW X.K CL Fz B (λ_ _=>A5) o D):=λ{o} z=>by
      cases o with
      |exn y U'=>exact λe=>up (z e)
      |next _=>exact z
      |ret _ _=>exact z
      |brk _=>exact z
      |cont _=>exact z
      |bad=>exact z
    cases b' with
    |true=>exact hx Fz B pI s1 Y H1 D U Xw own J (sx.grow sm) (lift q) hρ
    |false=>exact hy Fz B pI s1 Y H1 D U Xw own J (sx.grow sm) (lift q) hρ
end
section
variable{M:Eo}{A:AT}{E:Vq}{s:Ap}{env:Cr}{nm q:Ah}{C N:Ak}{bs bm bmB:Ac Aj}{hdct:Ai}{sn:Ac Ah}{sub:Ac Aj}{ab:Ai}{col:Am Ai}{dd:Am Ak}{k0 k1 k2 k3 k5:Am Aj}{B newId initId:CD}
end
section
variable{prog:AM}{w:AY}{A:AT}{E:Vq}{h:AD}{g:Ax EH}{d:HC}{t:Ae}{os:Ha}
variable{nm q:Ah}{C N fI:Ak}{bs bm bmB:Ac Aj}{hdct:Ai}{sn:Ac Ah}{sub:Ac Aj}{ab:Ai}{col:Am Ai}{dd:Am Ak}{k0 k1 k2 k3 k5:Am Aj}{B newId initId:CD}{mN:Ah->Am Aj}{rest:Ac Aj}{oI:DE}
end
section
variable{prog:AM}{w:AY}{A:AT}{E:Vq}{s:Ap}{env:Cr}
variable{nm q:Ah}{C N fI:Ak}{bs bm bmB:Ac Aj}{hdct:Ai}{sn:Ac Ah}{sub:Ac Aj}{ab:Ai}{col:Am Ai}{dd:Am Ak}{k0 k1 k2 k3 k5:Am Aj}{B newId initId:CD}{mN:Ah->Am Aj}
end
section
variable{prog:AM}{w:AY}{A:AT}{E:Vq}{h:AD}{g:Ax EH}{d:HC}{tk0:Ae}{os:Ha}
variable{nm q:Ah}{C N e t:Ak}{dx:Am Ak}{bs bm bmB:Ac Aj}{hdct:Ai}{sn:Ac Ah}{sub:Ac Aj}{ab:Ai}{col:Am Ai}{dd:Am Ak}{k0 k1 k2 k3 k5:Am Aj}{B newId initId:CD}
end
section
variable{X:Cx}{CL:ClA}{pI:Pn}{Y:L2.St}{H:Hp}{s:Ap}
end
section
variable{X:Cx}{CL:ClA}
end
section
variable{X:Cx}{CL:ClA}{C:Ak}{nm q:Ah}{N:Ak}{bs bm:Ac Aj}{hdct:Ai}{sn:Ac Ah}{sub:Ac Aj}{ab:Ai}{col:Am Ai}{dd:Am Ak}{k0 k1 k2 k3 k5:Am Aj}
end
section
variable{prog:AM}{w:AY}{A:AT}{E:Vq}{h:AD}{g:Ax EH}{d:HC}{tk0:Ae}{os:Ha}{K:Fg}
variable{nm q:Ah}{C N e t:Ak}{bs bm bmB:Ac Aj}{sn:Ac Ah}{sub:Ac Aj}{ab:Ai}{col:Am Ai}{dd:Am Ak}{k0 k1 k2 k3 k5:Am Aj}{B newId sa owner:CD}
end
section
variable{prog:AM}{w:AY}{A:AT}{E:Vq}{h:AD}{g:Ax EH}{d:HC}{tk0:Ae}{os:Ha}{K:Fg}
variable{nm q:Ah}{C N e t:Ak}{bs bm bmB:Ac Aj}{sn:Ac Ah}{sub:Ac Aj}{ab:Ai}{col:Am Ai}{dd:Am Ak}{k0 k1 k2 k3 k5:Am Aj}{B newId sa owner:CD}
end
section
variable{X:Cx}{pI:Pn}{Y:L2.St}{H:Hp}{s:Ap}{e:Ak}
end
section
variable{X:Cx}{C:Ak}{nm q:Ah}{N:Ak}{bs bm:Ac Aj}{sn:Ac Ah}{sub:Ac Aj}{ab:Ai}{col:Am Ai}{dd:Am Ak}{k0 k1 k2 k3 k5:Am Aj}
end
noncomputable def Hu(K:Fg)(C:Ak):Ai:=match K.lookup C with
  |some ⟨_,_,.cls c,_⟩=>c.hasDict
  |_=>Ad
section
variable{P:AM}{w:AY}{K:Fg}{mg:Ah->Am Aj}{base:AD}{CL:ClA}{C fI OV:Ak}{x qual g par z f:Ah}{st:AZ}{fd:BQ}{k:Ae}{np apos p1 p2 p3 p4 p5 cpos p6 p7 p8 p9 p10:AR}
variable{nm q:Ah}{N:Ak}{bs bm:Ac Aj}{sn:Ac Ah}{sub:Ac Aj}{ab:Ai}{col:Am Ai}{dd:Am Ak}{k0 k1 k2 k3 k5:Am Aj}
end
section
variable{X:Cx}{CL:ClA}{W:XW}
theorem YE{e:An}{es:Ac An}(hcalm:X.calm=Aa)(hx:X.ex=[])(hr:Room k X.A)(rz:LR X CL W)(hg:Gl X g)(hm:X.mg g=Ab (.ref C))(hdb:(g==("__debug__" : Ah))=Ad)(hcl:CL c=Ab C)(ha:SA X CL W (e::es) fs)(hxn:∀ ds,xn c ds=.bad\/(xn c ds=.ok ⟨c,[]⟩/\Ea X.K C Af=Aa)\/A5)(he:Ay (e::es) X.env=(Ad,eval e X.env)::Ay es X.env)(hpl:∀ pos,(BR pos (Ay es X.env)).any (·.1)=Ad)(hz:∀ U ds,fs U=.ok ds->ds.length<=100000):SS X CL W (.Raise (Ab (.Call (.Name g np) (e::es) [] cpos)) Af pos) (λU=>O.of U (noX (fs U)) λxs=>O.of U (xn c xs) λx=>.exn x U):=λFz B pI s Y H D I ⟨U,x,p⟩=>by
 have hpl':(BR cpos (Ay (e::es) X.env)).any (·.1)=Ad:=by rw[he];show (Ad||(BR cpos (Ay es X.env)).any (·.1))=Ad;rw[hpl];rfl
 cases e1:fs U with
 |bad=>dsimp only at p;rw[e1]at p;exact p.elim
 |exn y=>dsimp only at p;rw[e1]at p;exact p.elim
 |ok ds=>
  rcases hxn ds with e2|⟨e2,xc⟩|z
  .dsimp only at p;rw[e1]at p;have p2:BW X.K CL Fz B W (O.of U (xn c ds) λx=>.exn x U) D:=p
   rw[e2]at p2;exact p2.elim
  .refine Zb (fs:=fs) (xn:=λ_ ds'=>match xn c ds' with | .ok ⟨_,[]⟩=>.ok ⟨c,[]⟩|_=>.bad) hcalm rz hg hm hdb xc hcl ha (λds'=>by
    split
    .exact .inr rfl
    .exact .inl rfl) he hpl hz Fz B pI s Y H D I ⟨U,x,?_⟩
   dsimp only at p ⊢;rw[e1]at p ⊢;have p2:BW X.K CL Fz B W (O.of U (xn c ds) λx=>.exn x U) D:=p
   rw[e2]at p2;show BW X.K CL Fz B W (O.of U (match xn c ds with | .ok ⟨_,[]⟩=>(.ok ⟨c,[]⟩:R Ex)|_=>.bad) λx=>.exn x U) D
   rw[e2];exact p2
  .exact z.elim
end
section
variable{prog:AM}{w:AY}{A:AT}{E:Vq}{h:AD}{g:Ax EH}{d:HC}{t:Ae}{os:Ha}{K:Fg}{e C dx:Ak}{f:Ah}{mA:Ah->Am Aj}{v:Aj}
theorem ON(p:IR e C (Ab dx) h):XAt e C h:=let ⟨o,a,b,_⟩:=p;⟨o,a,b⟩
theorem X3{Q:Fin->Ap->Prop}(X:K.In h)(hf:Bf K (.ref C) f=Ab Af)(hd:Hu K C=Aa)(p:IR e C (Ab dx) h)(hn:h.Ns1 dx mA)(hv:mA f=Ab v)(hq:Q (.done (.ret v)) ⟨h,g,d,t,os⟩):AB (model prog w) A (Builtin.«object.__getattribute__» ⟨[.ref e,.str f tk],[]⟩) Q E ⟨h,g,d,t,os⟩:=by
 have L0:=Je (M:=model prog w) (ON p);have L1:=Dr (M:=model prog w) X hf;obtain⟨o,ge,oc,od,us,dt⟩:=p;unfold Hu at hd;split at hd
 .rename_i c' d' cd' sl' lk;have gC:=X _ _ lk;unfold Builtin.«object.__getattribute__»
  repeat (any_goals (first|assumption|with_reducible refine L0.at ?_|with_reducible refine L1.at ?_|wp_step))
  rw[dt];unfold instanceDict
  repeat (first|(with_reducible refine G8 ge ?_;rw[oc])|with_reducible refine G8 gC ?_|wp_step)
  rw[od]
  repeat (first|(with_reducible refine wpAny_nsGet hn.ns ?_;rw[hv])|wp_step)
  exact hq
 .cases hd
theorem eC{Q:Vq}(X:K.In h)(x:XcOk K C)(hf:Bf K (.ref C) f=Ab Af)(hd:Hu K C=Aa)(p:IR e C (Ab dx) h)(hn:h.Ns1 dx mA)(hv:mA f=Ab v)(hh:handedOut v=pure v)(hq:Q v ⟨h,g,d,t,os⟩):AB (model prog w) A (getAttrBy (.ref e) (.str f tk) fill expr) Q E ⟨h,g,d,t,os⟩:=by
 have L0:=Je (M:=model prog w) (ON p);have L1:=Dr (M:=model prog w) X x.ga;have L2:=Dr (M:=model prog w) X x.gt;have f3:=FE.ga.bind (.ref e);have hx0:(expr&&Jb (C7 "BaseException.__getattribute__"))=Ad:=by cases expr<;>rfl
 have hx2:(C7 "BaseException.__getattribute__" == C7 "object.__getattribute__")=Ad:=by decide+kernel
 have hx1:(Jb (De C)&&C7 "BaseException.__getattribute__" == C7 "object.__getattribute__")=Ad:=by rw[hx2];rfl
 repeat (any_goals (first|assumption|with_reducible refine L0.at ?_|with_reducible refine L1.at ?_|with_reducible refine L2.at ?_|wp_step))
 refine Gk FE.ga.plain Wt (P8 X x (ON p) (X3 X hf hd p hn hv ?_))
 repeat (any_goals (first|assumption|wp_step))
 all_goals trace_state
theorem YZ{b:Ai}{Q:Vq}(X:K.In h)(x:XcOk K C)(hf:Bf K (.ref C) f=Ab Af)(hd:Hu K C=Aa)(p:IR e C (Ab dx) h)(hn:h.Ns1 dx mA)(hv:mA f=Ab v)(hh:handedOut v=pure v)(hq:Q v ⟨h,g,d,t+1,os⟩):AB (model prog w) A (getAttr (.ref e) f b) Q E ⟨h,g,d,t,os⟩:=by
 unfold getAttr
 repeat (any_goals (first|assumption|with_reducible apply eC X x hf hd p hn hv hh|wp_step))
end
section
variable{X:Cx}{CL:ClA}{W:XW}{K:Fg}{H:Hp}{A:Ak->Prop}
theorem Rc{f:Ah}{d:D}:∀{vs:Ac (Ah×V)}{fs:Ac (Ah×D)},Repf K CL H A vs fs->fs.lookup f=Ab d->∃ v,vs.lookup f=Ab v/\Rep K CL H A v d
 |[],[],_,q=>nomatch q
 |(n,v)::vs,(m,d')::fs,⟨⟨e,r⟩,rs⟩,q=>by
  have e':n=m:=e;subst e';by_cases z:(f==n)=Aa
  .simp only[HG,z]at q ⊢;cases q;exact⟨v,rfl,r⟩
  .simp only[HG,z]at q ⊢;exact Rc rs q
theorem aR{a:An}{fa:Rho->R D}{f:Ah}(hxc:∀ c C,CL c=Ab C->XcOk X.K C)(hnf:∀ c C,CL c=Ab C->Hu X.K C=Aa/\Bf X.K (.ref C) f=Ab Af)(ha:ST X CL W a fa)(hb:EA a f X.env (eval a X.env)=eval a X.env):SE X CL W (.Attribute a f pos) (λU=>(fa U).bind λx=>Nl x f):=λA=>by
 intro pI s Y H Q I ⟨hA,U,gd,q⟩;refine eH hb (thn (ha A pI s Y H _ I ⟨hA,U,gd,Bg.bind q (Q':=λv H1=>∃ d,CG X.K CL H1 A v d/\Bg (λH2=>Rep X.K CL H2 A) W H1 (Nl d f) Q) λd v H1 _ s1 r1 p1=>⟨d,r1,p1⟩⟩) λu s1 ⟨v,H1,I1,rv,d,rp,p1⟩=>?_)
 cases d with
 |exc c fs=>
  have p2:Bg (λH2=>Rep X.K CL H2 A) W H1 (match fs.lookup f with|some d=>.ok d|none=>.bad) Q:=p1
  cases el:fs.lookup f with
  |none=>rw[el]at p2;exact p2.elim
  |some d=>
   rw[el]at p2;rcases rp with ⟨e,C,φ,rfl,_,hc,hH,hφ,hfs⟩|⟨a,xs,ds,_,z,_⟩
   .rcases hfs with z|⟨dx,vs,nd,hd,rf,hφ2⟩
    .rw[z]at el;cases el
    .obtain⟨y,l,ry⟩:=Rc rf el;cases rv;have ph:=(I1.hok e _ hH).1;obtain⟨o,ge,oc⟩:=hφ _ ph;obtain⟨o',ge',od,us,odt⟩:=hφ2 _ ph;rw[ge]at ge';cases ge';obtain⟨mA,hn,rel⟩:=I1.hok dx _ hd;obtain⟨u',hu,ru⟩:=LS.some_of (v:=y) (o:=mA f) (by rw[<-l];exact rel f)
     obtain⟨k1,k2⟩:=hnf c C hc;obtain⟨hp,g2,d2,tk2,os2⟩:=s1;exact YZ I1.kIn (hxc c C hc) k2 k1 ⟨o,ge,oc,od,us,odt⟩ hn hu (PySem.W.handedOut_of (Yr ru)) ⟨y,H1,I1.tok _,ru,p2 y H1 (AG.refl H1) ry⟩
   .cases z
 |_=>exact p1.elim
end
theorem Y_8:∀{ss:Ac Ah}{its:Ac Aj},A6 (ss.map V.str) its->∃ l:Ac (Ah×BV),its=strValues l/\l.map (·.1)=ss:=by
 intro ss
 induction ss with
 |nil=>intro its v;cases v;exact⟨[],rfl,rfl⟩
 |cons x ss ih=>
  intro its v;cases v with
  |cons v1 v2=>
   obtain⟨t,rfl⟩:=v1;obtain⟨l,e1,e2⟩:=ih v2;exact⟨(x,t)::l,by rw[e1];rfl,by rw[BP,e2]⟩
section
variable{X:Cx}{CL:ClA}{W:XW}
def oM(K:Fg):V->Ac V->Hp->VK->Prop:=λx xs H Q=>∃ sep q ss,x=.str sep/\xs=[.ref q]/\SqL K H q (ss.map V.str)/\IY sep ss=Aa/\Q (.str (K8 sep ss)) H
theorem cS:MtR X "str.join" (oM X.K):=by
 intro pI s Y H x vs v us Q I rx rv h;obtain⟨sep,l,ss,rfl,rfl,sq,hok,q⟩:=h;obtain⟨t,rfl⟩:=rx;obtain⟨u,rfl,ru⟩:=rv.one;cases ru;obtain⟨its,r,pl,hz⟩:=I.list sq;obtain⟨ls,rfl,rfl⟩:=Y_8 r;unfold IY at hok;rw[BA]at hok;refine Ir Wz (Iu _ _ _) PySem.F.entry_str_join (PySem.F.args_str_join_2 _ _) (meets_str_join_list sep t l ls hok) ⟨pl.isList,post_join ls ⟨joinFit_length hok,λt' k=>?_⟩⟩
 exact⟨.str _,H,I.kept (t':=k) λ_ _ e=>e,⟨_,rfl⟩,q⟩
theorem YC:∀{es:Ac D}{ss:Ac Ah}{ys:Ac V},Jh es=Ab ss->Reps K CL H A ys es->ys=ss.map V.str:=by
 intro es
 induction es with
 |nil=>
  intro ss ys h r;cases h;cases ys with
  |nil=>rfl
  |cons=>exact r.elim
 |cons e es ih=>
  intro ss ys h r;cases ys with
  |nil=>exact r.elim
  |cons y ys=>
   cases e with
   |str x=>
    have h':(Jh es).map (x :: ·)=Ab ss:=h;cases e2:Jh es with
    |none=>rw[e2]at h';cases h'
    |some js=>
     rw[e2]at h';cases h';have e1:y=.str x:=r.1;rw[ih e2 r.2,e1];rfl
   |_=>cases h
theorem aS{y:An}{s:Ah}{apos:AR}{fy:Rho->R D}(hy:SE X CL W y fy)(hbase:EA (.Constant (.str s) k p) "join" X.env (eval (.Constant (.str s) k p) X.env)=eval (.Constant (.str s) k p) X.env)(hfew:((BR cpos (Ay [y] X.env)).all (λx=>!x.1)&&(Im cpos (GN [] X.env)).all (λx=>x.1.isSome)&&decide ([y].length+([]:Ac Ee).length+(if ([]:Ac Ee).isEmpty then 0 else 1)<30))=Aa)(hline:(apos.endLine==cpos.line)=Aa)(hs:Ay [y] X.env=[(Ad,eval y X.env)]):
  SE X CL W (.Call (.Attribute (.Constant (.str s) k p) "join" apos) [y] [] cpos) (λU=>(fy U).bind λx=>biD .sjoin [.str s,x]):=λA=>
 PE.weak (M2 PySem.F.plainAttrs_str Wz PySem.F.type_str_join cS (OS (X:=X) (CL:=CL) (W:=W) A) (El (hy A) F1 hs) hbase hfew hline hs rfl) λY H Q ⟨hA,U,g,p⟩=>⟨hA,U,g,λv H1 s1 r1=>by
  dsimp only at p;have ev:v=.str s:=r1;subst ev;refine⟨rfl,hA.same s1,U,g.same s1,?_⟩;cases e:fy U with
  |bad=>rw[e]at p;exact p.elim
  |exn x=>rw[e]at p;exact λH2 s2=>p H2 (s1.trans s2)
  |ok d=>
   rw[e]at p;intro v' H2 s2 r2;have p1:Bg (λH=>Rep X.K CL H A) W H (biD .sjoin [.str s,d]) Q:=p
   cases d with
   |lst ds=>
    obtain⟨a,xs,rfl,_,sq,rs⟩:=r2;have p2:Bg (λH=>Rep X.K CL H A) W H (Lx s ds) Q:=p1
    unfold Lx at p2;cases e3:Jh ds with
    |none=>rw[e3]at p2;exact p2.elim
    |some ss=>
     rw[e3]at p2;dsimp only at p2;split at p2
     .rename_i hok;have ex:=YC e3 rs;subst ex;exact⟨s,a,ss,rfl,rfl,sq,hok,p2 _ H2 (s1.trans s2) rfl⟩
     .exact p2.elim
   | _=>exact p1.elim⟩
end
theorem noF{P:Prop}(h:Ad=Aa):P:=nomatch h
structure Tc where
 sc:BY
 N:Ac Ah
 /-- a def's name,its number,how many parameters it has -/
 fns:Ac (Ah×Ae×Ae)
 /-- built-in names that the text does not hide -/
 bl:Ac Ah
 /-- exceptions' classes by their names: those that are raised,all that are asked for -/
 rzs:Ac (Ah×Ae)
 exs:Ac (Ah×Ae)
 /-- the text's constants -/
 gls:Ac (Ah×Ae)
noncomputable def Pv(T:Tc)(x:Ah):Ai:=match T.sc.names.lookup x with
  |some .local=>Aa
  |some .cell=>Aa
  |some .free=>Aa
  |_=>Ad
noncomputable def IP(T:Tc)(x:Ah):Ai:=match T.sc.names.lookup x with
  |some .local=>Aa
  |some .cell=>Aa
  |_=>Ad
noncomputable def glB(T:Tc)(x:Ah):Ai:=T.sc.names.lookup x==Ab .globalImplicit
noncomputable def G2(x:Ah):Ai:=!(x==("__debug__" : Ah)) && !(x==("__classdict__" : Ah)) && !(x==("__name__" : Ah))
noncomputable def isV(T:Tc)(x:Ah)(i:Ae):Ai:=T.N[i]? == Ab x&&Pv T x&&G2 x
noncomputable def isB(T:Tc)(x:Ah):Ai:=T.bl.contains x&&glB T x&&G2 x
theorem Cm{a b:Ai}(h:(a&&b)=Aa):a=Aa/\b=Aa:=(Al a b).mp h
theorem orT{a b:Ai}(h:(a||b)=Aa):a=Aa\/b=Aa:=(CY a b).mp h
noncomputable def F2(e:An)(F:Ah->Ai):Ai:=if c:e.ctorIdx=23 then Wf (motive_1:=λ_=>Ai) e c λx _=>F x else Ad
theorem Gr{e:An}{F:Ah->Ai}(h:F2 e F=Aa):∃ x p,e=We x p/\F x=Aa:=by
 by_cases c:e.ctorIdx=23
 .exact Wf (motive_1:=λe=>F2 e F=Aa->∃ x p,e=We x p/\F x=Aa) e c (λx p h=>⟨x,p,rfl,h⟩) h
 .exact noF ((BO c).symm.trans h)
noncomputable def HR(e:An)(F:Const->Ai):Ai:=if c:e.ctorIdx=19 then V9 (motive_1:=λ_=>Ai) e c λc _ _=>F c else Ad
theorem JI{e:An}{F:Const->Ai}(h:HR e F=Aa):∃ c u p,e=V8 c u p/\F c=Aa:=by
 by_cases c:e.ctorIdx=19
 .exact V9 (motive_1:=λe=>HR e F=Aa->∃ c u p,e=V8 c u p/\F c=Aa) e c (λc u p h=>⟨c,u,p,rfl,h⟩) h
 .exact noF ((BO c).symm.trans h)
noncomputable def Na(e:An)(F:An->Fd->An->Ai):Ai:=if c:e.ctorIdx=2 then V1 (motive_1:=λ_=>Ai) e c λx o y _=>F x o y else Ad
theorem Rn{e:An}{F:An->Fd->An->Ai}(h:Na e F=Aa):∃ x o y p,e=V0 x o y p/\F x o y=Aa:=by
 by_cases c:e.ctorIdx=2
 .exact V1 (motive_1:=λe=>Na e F=Aa->∃ x o y p,e=V0 x o y p/\F x o y=Aa) e c (λx o y p h=>⟨x,o,y,p,rfl,h⟩) h
 .exact noF ((BO c).symm.trans h)
noncomputable def JW(e:An)(F:Jt->An->Ai):Ai:=if c:e.ctorIdx=3 then Wn (motive_1:=λ_=>Ai) e c λo x _=>F o x else Ad
theorem Mz{e:An}{F:Jt->An->Ai}(h:JW e F=Aa):∃ o x p,e=Wm o x p/\F o x=Aa:=by
 by_cases c:e.ctorIdx=3
 .exact Wn (motive_1:=λe=>JW e F=Aa->∃ o x p,e=Wm o x p/\F o x=Aa) e c (λo x p h=>⟨o,x,p,rfl,h⟩) h
 .exact noF ((BO c).symm.trans h)
noncomputable def Jo(e:An)(F:BoolOp->Ac An->AR->Ai):Ai:=if c:e.ctorIdx=0 then V3 (motive_1:=λ_=>Ai) e c λo xs p=>F o xs p else Ad
theorem Ls{e:An}{F:BoolOp->Ac An->AR->Ai}(h:Jo e F=Aa):∃ o xs p,e=V2 o xs p/\F o xs p=Aa:=by
 by_cases c:e.ctorIdx=0
 .exact V3 (motive_1:=λe=>Jo e F=Aa->∃ o xs p,e=V2 o xs p/\F o xs p=Aa) e c (λo xs p h=>⟨o,xs,p,rfl,h⟩) h
 .exact noF ((BO c).symm.trans h)
noncomputable def LJ(e:An)(F:An->Ac Do->Ac An->Ai):Ai:=if c:e.ctorIdx=15 then V7 (motive_1:=λ_=>Ai) e c λx os ys _=>F x os ys else Ad
theorem Rl{e:An}{F:An->Ac Do->Ac An->Ai}(h:LJ e F=Aa):∃ x os ys p,e=V6 x os ys p/\F x os ys=Aa:=by
 by_cases c:e.ctorIdx=15
 .exact V7 (motive_1:=λe=>LJ e F=Aa->∃ x os ys p,e=V6 x os ys p/\F x os ys=Aa) e c (λx os ys p h=>⟨x,os,ys,p,rfl,h⟩) h
 .exact noF ((BO c).symm.trans h)
noncomputable def KO(e:An)(F:An->Ac An->Ac Ee->AR->Ai):Ai:=if c:e.ctorIdx=16 then V5 (motive_1:=λ_=>Ai) e c λf as ks p=>F f as ks p else Ad
theorem N4{e:An}{F:An->Ac An->Ac Ee->AR->Ai}(h:KO e F=Aa):∃ f as ks p,e=V4 f as ks p/\F f as ks p=Aa:=by
 by_cases c:e.ctorIdx=16
 .exact V5 (motive_1:=λe=>KO e F=Aa->∃ f as ks p,e=V4 f as ks p/\F f as ks p=Aa) e c (λf as ks p h=>⟨f,as,ks,p,rfl,h⟩) h
 .exact noF ((BO c).symm.trans h)
noncomputable def KQ(e:An)(F:An->Ah->AR->Ai):Ai:=if c:e.ctorIdx=20 then VZ (motive_1:=λ_=>Ai) e c λo m p=>F o m p else Ad
theorem N5{e:An}{F:An->Ah->AR->Ai}(h:KQ e F=Aa):∃ o m p,e=VY o m p/\F o m p=Aa:=by
 by_cases c:e.ctorIdx=20
 .exact VZ (motive_1:=λe=>KQ e F=Aa->∃ o m p,e=VY o m p/\F o m p=Aa) e c (λo m p h=>⟨o,m,p,rfl,h⟩) h
 .exact noF ((BO c).symm.trans h)
noncomputable def M3(e:An)(F:An->An->Ai):Ai:=if c:e.ctorIdx=21 then Wj (motive_1:=λ_=>Ai) e c λx y _=>F x y else Ad
theorem Rh{e:An}{F:An->An->Ai}(h:M3 e F=Aa):∃ x y p,e=Wi x y p/\F x y=Aa:=by
 by_cases c:e.ctorIdx=21
 .exact Wj (motive_1:=λe=>M3 e F=Aa->∃ x y p,e=Wi x y p/\F x y=Aa) e c (λx y p h=>⟨x,y,p,rfl,h⟩) h
 .exact noF ((BO c).symm.trans h)
noncomputable def Pd(e:An)(F:Am An->Am An->Am An->Ai):Ai:=if c:e.ctorIdx=26 then Wh (motive_1:=λ_=>Ai) e c λl u s _=>F l u s else Ad
theorem ZP{e:An}{F:Am An->Am An->Am An->Ai}(h:Pd e F=Aa):∃ l u s p,e=Wg l u s p/\F l u s=Aa:=by
 by_cases c:e.ctorIdx=26
 .exact Wh (motive_1:=λe=>Pd e F=Aa->∃ l u s p,e=Wg l u s p/\F l u s=Aa) e c (λl u s p h=>⟨l,u,s,p,rfl,h⟩) h
 .exact noF ((BO c).symm.trans h)
noncomputable def KM(e:An)(F:Ac An->Ai):Ai:=if c:e.ctorIdx=25 then Wl (motive_1:=λ_=>Ai) e c λxs _ _=>F xs else Ad
theorem Mi{e:An}{F:Ac An->Ai}(h:KM e F=Aa):∃ xs c p,e=Wk xs c p/\F xs=Aa:=by
 by_cases c:e.ctorIdx=25
 .exact Wl (motive_1:=λe=>KM e F=Aa->∃ xs c p,e=Wk xs c p/\F xs=Aa) e c (λxs c p h=>⟨xs,c,p,rfl,h⟩) h
 .exact noF ((BO c).symm.trans h)
noncomputable def M5(e:An)(F:Ac An->Ai):Ai:=if c:e.ctorIdx=24 then Wb (motive_1:=λ_=>Ai) e c λxs _=>F xs else Ad
theorem N2{e:An}{F:Ac An->Ai}(h:M5 e F=Aa):∃ xs p,e=Wa xs p/\F xs=Aa:=by
 by_cases c:e.ctorIdx=24
 .exact Wb (motive_1:=λe=>M5 e F=Aa->∃ xs p,e=Wa xs p/\F xs=Aa) e c (λxs p h=>⟨xs,p,rfl,h⟩) h
 .exact noF ((BO c).symm.trans h)
noncomputable def Ph(e:An)(F:An->Ac IT->BY->Ai):Ai:=if c:e.ctorIdx=8 then Wd (motive_1:=λ_=>Ai) e c λx gs sc _=>F x gs sc else Ad
theorem ZS{e:An}{F:An->Ac IT->BY->Ai}(h:Ph e F=Aa):∃ x gs sc p,e=Wc x gs sc p/\F x gs sc=Aa:=by
 by_cases c:e.ctorIdx=8
 .exact Wd (motive_1:=λe=>Ph e F=Aa->∃ x gs sc p,e=Wc x gs sc p/\F x gs sc=Aa) e c (λx gs sc p h=>⟨x,gs,sc,p,rfl,h⟩) h
 .exact noF ((BO c).symm.trans h)
noncomputable def O8(e:AZ)(F:Ac An->An->Ai):Ai:=if c:e.ctorIdx=5 then WN (motive_2:=λ_=>Ai) e c λts v _=>F ts v else Ad
theorem ZW{e:AZ}{F:Ac An->An->Ai}(h:O8 e F=Aa):∃ ts v p,e=WM ts v p/\F ts v=Aa:=by
 by_cases c:e.ctorIdx=5
 .exact WN (motive_2:=λe=>O8 e F=Aa->∃ ts v p,e=WM ts v p/\F ts v=Aa) e c (λts v p h=>⟨ts,v,p,rfl,h⟩) h
 .exact noF ((BO c).symm.trans h)
noncomputable def KN(e:AZ)(F:An->Ai):Ai:=if c:e.ctorIdx=24 then WP (motive_2:=λ_=>Ai) e c λv _=>F v else Ad
theorem N3{e:AZ}{F:An->Ai}(h:KN e F=Aa):∃ v p,e=WO v p/\F v=Aa:=by
 by_cases c:e.ctorIdx=24
 .exact WP (motive_2:=λe=>KN e F=Aa->∃ v p,e=WO v p/\F v=Aa) e c (λv p h=>⟨v,p,rfl,h⟩) h
 .exact noF ((BO c).symm.trans h)
noncomputable def Pe(e:AZ)(F:Am An->Ai):Ai:=if c:e.ctorIdx=3 then WV (motive_2:=λ_=>Ai) e c λo _=>F o else Ad
theorem ZQ{e:AZ}{F:Am An->Ai}(h:Pe e F=Aa):∃ o p,e=WU o p/\F o=Aa:=by
 by_cases c:e.ctorIdx=3
 .exact WV (motive_2:=λe=>Pe e F=Aa->∃ o p,e=WU o p/\F o=Aa) e c (λo p h=>⟨o,p,rfl,h⟩) h
 .exact noF ((BO c).symm.trans h)
noncomputable def Nk(e:AZ)(F:An->Ac AZ->Ac AZ->Ai):Ai:=if c:e.ctorIdx=12 then WR (motive_2:=λ_=>Ai) e c λt xs ys _=>F t xs ys else Ad
theorem RZ{e:AZ}{F:An->Ac AZ->Ac AZ->Ai}(h:Nk e F=Aa):∃ t xs ys p,e=Stmt.If t xs ys p/\F t xs ys=Aa:=by
 by_cases c:e.ctorIdx=12
 .exact WR (motive_2:=λe=>Nk e F=Aa->∃ t xs ys p,e=Stmt.If t xs ys p/\F t xs ys=Aa) e c (λt xs ys p h=>⟨t,xs,ys,p,rfl,h⟩) h
 .exact noF ((BO c).symm.trans h)
noncomputable def M6(e:AZ)(F:An->An->Ac AZ->Ac AZ->Ai):Ai:=if c:e.ctorIdx=9 then WQ (motive_2:=λ_=>Ai) e c λt it xs ys _=>F t it xs ys else Ad
theorem Rk{e:AZ}{F:An->An->Ac AZ->Ac AZ->Ai}(h:M6 e F=Aa):∃ t it xs ys p,e=Stmt.For t it xs ys p/\F t it xs ys=Aa:=by
 by_cases c:e.ctorIdx=9
 .exact WQ (motive_2:=λe=>M6 e F=Aa->∃ t it xs ys p,e=Stmt.For t it xs ys p/\F t it xs ys=Aa) e c (λt it xs ys p h=>⟨t,it,xs,ys,p,rfl,h⟩) h
 .exact noF ((BO c).symm.trans h)
noncomputable def M4(e:AZ)(F:Am An->Am An->Ai):Ai:=if c:e.ctorIdx=16 then WT (motive_2:=λ_=>Ai) e c λa b _=>F a b else Ad
theorem ZR{e:AZ}{F:Am An->Am An->Ai}(h:M4 e F=Aa):∃ a b p,e=WS a b p/\F a b=Aa:=by
 by_cases c:e.ctorIdx=16
 .exact WT (motive_2:=λe=>M4 e F=Aa->∃ a b p,e=WS a b p/\F a b=Aa) e c (λa b p h=>⟨a,b,p,rfl,h⟩) h
 .exact noF ((BO c).symm.trans h)
noncomputable def HN{α:Type}:Ac α->(α->Ac α->Ai)->Ai
 |[],_=>Ad
 |x::xs,F=>F x xs
theorem IA{l:Ac α}{F:α->Ac α->Ai}(h:HN l F=Aa):∃ x xs,l=x::xs/\F x xs=Aa:=by
 cases l with
 |nil=>exact noF h
 |cons x xs=>exact⟨x,xs,rfl,h⟩
theorem HP{l:Ac α}(h:l.isEmpty=Aa):l=[]:=List.isEmpty_iff.mp h
noncomputable def EV{α:Type}(l:Ac α)(F:α->Ai):Ai:=HN l λx r=>r.isEmpty&&F x
theorem F0{l:Ac α}{F:α->Ai}(h:EV l F=Aa):∃ x,l=[x]/\F x=Aa:=by
 obtain⟨x,r,rfl,h⟩:=IA h;obtain⟨h1,h2⟩:=Cm h;exact⟨x,by rw[HP h1],h2⟩
noncomputable def HU{α:Type}(l:Ac α)(F:α->α->Ai):Ai:=HN l λx r=>EV r λy=>F x y
theorem JH{l:Ac α}{F:α->α->Ai}(h:HU l F=Aa):∃ x y,l=[x,y]/\F x y=Aa:=by
 obtain⟨x,r,rfl,h⟩:=IA h;obtain⟨y,rfl,h⟩:=F0 h;exact⟨x,y,rfl,h⟩
noncomputable def TW{α:Type}(l:Ac α)(F:α->α->α->Ai):Ai:=HN l λx r=>HU r λy z=>F x y z
theorem ZO{l:Ac α}{F:α->α->α->Ai}(h:TW l F=Aa):∃ x y z,l=[x,y,z]/\F x y z=Aa:=by
 obtain⟨x,r,rfl,h⟩:=IA h;obtain⟨y,z,rfl,h⟩:=JH h;exact⟨x,y,z,rfl,h⟩
noncomputable def Jn(e:An)(F:Ah->Ac An->Ai):Ai:=KO e λf as ks _=>F2 f λg=>ks.isEmpty&&F g as
theorem JJ{e:An}{F:Ah->Ac An->Ai}(h:Jn e F=Aa):∃ g p as q,e=.Call (.Name g p) as [] q/\F g as=Aa:=by
 obtain⟨f,as,ks,q,rfl,h⟩:=N4 h;obtain⟨g,p,rfl,h⟩:=Gr h;obtain⟨h1,h2⟩:=Cm h;exact⟨g,p,as,q,by rw[HP h1],h2⟩
noncomputable def LC(e:An)(F:Ah->An->Ac An->Ai):Ai:=Jn e λg l=>HN l λx xs=>F g x xs
theorem Me{e:An}{F:Ah->An->Ac An->Ai}(h:LC e F=Aa):∃ g p x xs q,e=.Call (.Name g p) (x::xs) [] q/\F g x xs=Aa:=by
 obtain⟨g,p,as,q,rfl,h⟩:=JJ h;obtain⟨x,xs,rfl,h⟩:=IA h;exact⟨g,p,x,xs,q,rfl,h⟩
noncomputable def Pf(st:AZ)(F:Ah->Ah->Ac An->Ai):Ai:=KN st λe=>KO e λf as ks cp=>KQ f λo m ap=>F2 o λx=>ks.isEmpty&&(ap.endLine==cp.line&&F x m as)
theorem Rj{st:AZ}{F:Ah->Ah->Ac An->Ai}(h:Pf st F=Aa):∃ x p m ap as cp q,st=.Expr (.Call (.Attribute (.Name x p) m ap) as [] cp) q/\ap.endLine=cp.line/\F x m as=Aa:=by
 obtain⟨e,q,rfl,h⟩:=N3 h;obtain⟨f,as,ks,cp,rfl,h⟩:=N4 h;obtain⟨o,m,ap,rfl,h⟩:=N5 h;obtain⟨x,p,rfl,h⟩:=Gr h;obtain⟨h1,h⟩:=Cm h;obtain⟨h2,h3⟩:=Cm h;exact⟨x,p,m,ap,as,cp,q,by rw[HP h1],eq_of_beq h2,h3⟩
noncomputable def TX(st:AZ)(F:An->An->Ai):Ai:=O8 st λts v=>EV ts λt=>F t v
theorem ZX{st:AZ}{F:An->An->Ai}(h:TX st F=Aa):∃ t v q,st=.Assign [t] v q/\F t v=Aa:=by
 obtain⟨ts,v,q,rfl,h⟩:=ZW h;obtain⟨t,rfl,h⟩:=F0 h;exact⟨t,v,q,rfl,h⟩
noncomputable def LK(st:AZ)(F:Ah->An->Ai):Ai:=TX st λt v=>F2 t λx=>F x v
theorem N6{st:AZ}{F:Ah->An->Ai}(h:LK st F=Aa):∃ x p v q,st=.Assign [.Name x p] v q/\F x v=Aa:=by
 obtain⟨t,v,q,rfl,h⟩:=ZX h;obtain⟨x,p,rfl,h⟩:=Gr h;exact⟨x,p,v,q,rfl,h⟩
noncomputable def Ut(e:An)(F:An->An->An->Ac An->BY->Ai):Ai:=Ph e λx gs sc=>EV gs λg=>decide (g.is_async=0)&&F x g.target g.iter g.ifs sc
theorem cM{e:An}{F:An->An->An->Ac An->BY->Ai}(h:Ut e F=Aa):∃ x t it ifs sc p,e=.ListComp x [⟨t,it,ifs,0⟩] sc p/\F x t it ifs sc=Aa:=by
 obtain⟨x,gs,sc,p,rfl,h⟩:=ZS h;obtain⟨g,rfl,h⟩:=F0 h;obtain⟨t,it,ifs,a⟩:=g;obtain⟨h1,h2⟩:=Cm h;have h1:a=0:=AW h1;subst h1;exact⟨x,t,it,ifs,sc,p,rfl,h2⟩
noncomputable def Nj(e:E)(F:E->Ai):Ai:=if c:e.ctorIdx=8 then E.no.elim (motive_1:=λ_=>Ai) e c F else Ad
theorem eB{e:E}{F:E->Ai}(h:Nj e F=Aa):∃ a,e=E.no a/\F a=Aa:=by
 by_cases c:e.ctorIdx=8
 .exact E.no.elim (motive_1:=λe=>Nj e F=Aa->∃ a,e=E.no a/\F a=Aa) e c (λa h=>⟨a,rfl,h⟩) h
 .exact noF ((BO c).symm.trans h)
noncomputable def MV(e:E)(F:Es->Ai):Ai:=if c:e.ctorIdx=9 then E.and.elim (motive_1:=λ_=>Ai) e c F else Ad
theorem Zq{e:E}{F:Es->Ai}(h:MV e F=Aa):∃ es,e=E.and es/\F es=Aa:=by
 by_cases c:e.ctorIdx=9
 .exact E.and.elim (motive_1:=λe=>MV e F=Aa->∃ es,e=E.and es/\F es=Aa) e c (λes h=>⟨es,rfl,h⟩) h
 .exact noF ((BO c).symm.trans h)
noncomputable def Ni(e:E)(F:Es->Ai):Ai:=if c:e.ctorIdx=10 then E.or.elim (motive_1:=λ_=>Ai) e c F else Ad
theorem eA{e:E}{F:Es->Ai}(h:Ni e F=Aa):∃ es,e=E.or es/\F es=Aa:=by
 by_cases c:e.ctorIdx=10
 .exact E.or.elim (motive_1:=λe=>Ni e F=Aa->∃ es,e=E.or es/\F es=Aa) e c (λes h=>⟨es,rfl,h⟩) h
 .exact noF ((BO c).symm.trans h)
noncomputable def M7(e:E)(F:Do->E->E->Ai):Ai:=if c:e.ctorIdx=11 then E.cmp.elim (motive_1:=λ_=>Ai) e c F else Ad
theorem ZT{e:E}{F:Do->E->E->Ai}(h:M7 e F=Aa):∃ o a b,e=E.cmp o a b/\F o a b=Aa:=by
 by_cases c:e.ctorIdx=11
 .exact E.cmp.elim (motive_1:=λe=>M7 e F=Aa->∃ o a b,e=E.cmp o a b/\F o a b=Aa) e c (λo a b h=>⟨o,a,b,rfl,h⟩) h
 .exact noF ((BO c).symm.trans h)
noncomputable def M8(e:E)(F:Do->Do->E->E->E->Ai):Ai:=if c:e.ctorIdx=12 then E.cmp2.elim (motive_1:=λ_=>Ai) e c F else Ad
theorem ZU{e:E}{F:Do->Do->E->E->E->Ai}(h:M8 e F=Aa):∃ o q a b c,e=E.cmp2 o q a b c/\F o q a b c=Aa:=by
 by_cases c:e.ctorIdx=12
 .exact E.cmp2.elim (motive_1:=λe=>M8 e F=Aa->∃ o q a b c,e=E.cmp2 o q a b c/\F o q a b c=Aa) e c (λo q a b c h=>⟨o,q,a,b,c,rfl,h⟩) h
 .exact noF ((BO c).symm.trans h)
noncomputable def M9(e:E)(F:BI->Es->Ai):Ai:=if c:e.ctorIdx=15 then E.bi.elim (motive_1:=λ_=>Ai) e c F else Ad
theorem ZV{e:E}{F:BI->Es->Ai}(h:M9 e F=Aa):∃ b as,e=E.bi b as/\F b as=Aa:=by
 by_cases c:e.ctorIdx=15
 .exact E.bi.elim (motive_1:=λe=>M9 e F=Aa->∃ b as,e=E.bi b as/\F b as=Aa) e c (λb as h=>⟨b,as,rfl,h⟩) h
 .exact noF ((BO c).symm.trans h)
noncomputable def PP(e:E)(F:Ai->Ai):Ai:=if c:e.ctorIdx=1 then E.bl.elim (motive_1:=λ_=>Ai) e c F else Ad
theorem cO{e:E}{F:Ai->Ai}(h:PP e F=Aa):∃ b,e=E.bl b/\F b=Aa:=by
 by_cases c:e.ctorIdx=1
 .exact E.bl.elim (motive_1:=λe=>PP e F=Aa->∃ b,e=E.bl b/\F b=Aa) e c (λb h=>⟨b,rfl,h⟩) h
 .exact noF ((BO c).symm.trans h)
noncomputable def LH(e:E)(F:Ae->Ai):Ai:=if c:e.ctorIdx=4 then E.var.elim (motive_1:=λ_=>Ai) e c F else Ad
theorem Op{e:E}{F:Ae->Ai}(h:LH e F=Aa):∃ i,e=E.var i/\F i=Aa:=by
 by_cases c:e.ctorIdx=4
 .exact E.var.elim (motive_1:=λe=>LH e F=Aa->∃ i,e=E.var i/\F i=Aa) e c (λi h=>⟨i,rfl,h⟩) h
 .exact noF ((BO c).symm.trans h)
noncomputable def KP(e:E)(F:Ae->Es->Ai):Ai:=if c:e.ctorIdx=14 then E.call.elim (motive_1:=λ_=>Ai) e c F else Ad
theorem Rm{e:E}{F:Ae->Es->Ai}(h:KP e F=Aa):∃ f as,e=E.call f as/\F f as=Aa:=by
 by_cases c:e.ctorIdx=14
 .exact E.call.elim (motive_1:=λe=>KP e F=Aa->∃ f as,e=E.call f as/\F f as=Aa) e c (λf as h=>⟨f,as,rfl,h⟩) h
 .exact noF ((BO c).symm.trans h)
noncomputable def MY(e:E):Ai:=decide (e.ctorIdx=0)
theorem Zz{e:E}(h:MY e=Aa):e=.non:=E.non.elim (motive_1:=λe=>e=.non) e (AW h) rfl
noncomputable def Dz:An->Ai
 |.Starred _ _=>Ad
 |_=>Aa
noncomputable def R5:An->Ai
 |.Slice _ _ _ _=>Ad
 |_=>Aa
noncomputable def MW:An->Ai
 |.Set _ _ _=>Ad
 |_=>Aa
noncomputable def JQ:An->Ai
 |.ListComp _ _ _ _=>Ad
 |.SetComp _ _ _ _=>Ad
 |.DictComp _ _ _ _ _=>Ad
 |_=>Aa
noncomputable def UA(tu:Ai):An->Ai
 |.Tuple ..=>tu
 |.Name ..=>!tu
 |_=>Ad
noncomputable def oG:An->Ai
 |.Tuple _ _ _=>Aa
 |_=>Ad
noncomputable def Md:An->Ai
 |.UnaryOp _ _ _=>Ad
 |.BoolOp _ _ _=>Ad
 |.IfExp _ _ _ _=>Ad
 |.Compare _ _ _ _=>Ad
 |_=>Aa
noncomputable def O9:Ki->Am Ah
 |.int=>Ab "int"
 |.bool=>Ab "bool"
 |.str=>Ab "str"
 |.list=>Ab "list"
 |.tuple=>Ab "tuple"
 |_=>Af
noncomputable def Pa:BI->Am Ah
 |.len=>Ab "len"
 |.abs=>Af
 |.max=>Af
 |.min=>Af
 |.int=>Ab "int"
 |.list=>Ab "list"
 |.tuple=>Ab "tuple"
 |.all=>Ab "all"
 |.any=>Af
 |.sum=>Af
 |.sorted=>Ab "sorted"
 |.tmin=>Af
 |.tmax=>Af
 |_=>Af
noncomputable def O5(o scope:BY):BY:={scope with names:=scope.names.map λ(n,k)=>if (k==.free&&o.kind==.function&&o.names.lookup n==Ab .cell) then (n,.cell) else (n,k)}
noncomputable def LP:Ac Ae->Ac Ah->Ac Ah->Ac Ah
 |t::ts,x::xs,N=>LP ts xs ((N.map λy=>if y==x then N.getD t x else y).set t x)
 |_,_,N=>N
noncomputable def LD:Ac Ah->Ai
 |[]=>Aa
 |x::xs=>!xs.contains x&&LD xs
noncomputable def Np(T:Tc)(scope:BY)(ts:Ac Ae)(N':Ac Ah):Ai:=
  scope.kind==.function&&scope.names.all (λy=>scope.names.lookup y.1==Ab y.2) &&
  scope.names.all (λy=>y.2 != .free||T.sc.names.lookup y.1==Ab .cell||T.sc.names.lookup y.1==Ab .free) &&
  N'.length==T.N.length&&LD N' &&
  (A8 N'.length).all λi=>ts.contains i||(match N'[i]? with
    |some x=>(scope.names.lookup x != Ab .local&&scope.names.lookup x != Ab .cell)&&(scope.names.lookup x != Ab .free||T.N[i]? == Ab x)
    | none=>Aa)
noncomputable def Ht:Ac An->Am (Ac Ah)
 |[]=>Ab []
 |.Name x _::r=>(Ht r).map (x :: ·)
 |_=>Af
noncomputable def tgN(ys:Ac An):Ac Ah:=(Ht ys).getD []
noncomputable def tgO(T:Tc)(scope:BY)(t:Ae)(x:Ah):Ai:=T.N[t]? == Ab x&&(T.sc.names.lookup x==Ab .local||(T.sc.names.lookup x==Ab .cell&&scope.names.lookup x==Ab .cell))
noncomputable def tgC(T:Tc):Ac Ae->Ac Ah->Ai
 |[],[]=>Aa
 |t::ts,x::xs=>T.N[t]? == Ab x&&IP T x&&tgC T ts xs
 |_,_=>Ad
noncomputable def Tc.blk(T:Tc)(scope:BY)(ts:Ac Ae)(xs:Ac Ah):Tc:={T with sc:=O5 T.sc scope,N:=LP ts xs T.N}
noncomputable def qL:E->Ai
 |.lst _=>Aa
 |.comp _ _ _ _=>Aa
 |.compT _ _ _ _=>Aa
 |.bin .Add _ _=>Aa
 |.bi .list _=>Aa
 |.sl _ _ _=>Aa
 |_=>Ad
noncomputable def oH:E->Ai
 |.call _ _=>Aa
 |_=>Ad
noncomputable def Nd:E->Am E
  | .bi b as=>(match b with
    | .list=>(match as with
      | .cons x r=>(match r with
        | .nil=>(match x with
          | .bin op a c=>(match op with
            | .Add=>(match c with
              | .tup es=>(match es with
                |.nil=>Ab a
                | _=>Af)
              | _=>Af)
            | _=>Af)
          | _=>Af)
        | _=>Af)
      | .nil=>Af)
    | _=>Af)
  |_=>Af
theorem ZZ{e a:E}(q:Nd e=Ab a):e=.bi .list (.cons (.bin .Add a (.tup .nil)) .nil):=by
 unfold Nd at q
 repeat' split at q
 all_goals first|cases q;done|skip
 cases q;rfl
noncomputable def inX(l:Ac (Ah×Ae))(g:Ah)(c:Ae):Ai:=l.any λp=>p.1==g&&p.2==c
noncomputable def UN:An->Am (An×An×AR)
  | .Compare x ops ys p=>(match ops with
    | [.Lt]=>(match ys with
      |[y]=>Ab (x,y,p)
      | _=>Af)
    | _=>Af)
  |_=>Af
noncomputable def Pj(_:Es):Am (E×E):=Af
noncomputable def Pw(_:Tc)(_:Tc->An->E->Ai)(_:An)(_:Ac Do)(_:Ac An)(_:BI)(_:Es):Ai:=Ad
noncomputable def UK(T:Tc)(e:An)(b:BI)(as:Es):Ai:=Ad
noncomputable def Sz:An->Am (Ah×AR)
 |.Name x p=>Ab (x,p)
 |_=>Af
noncomputable def SD:An->Am (An×Ac An×Ac Ee×AR)
 |.Call f as ks p=>Ab (f,as,ks,p)
 |_=>Af
noncomputable def pQ:An->Am (Ac An×Ae×AR)
 |.Tuple es k p=>Ab (es,k,p)
 |_=>Af
noncomputable def one{α:Type}:Ac α->Am α
 |[a]=>Ab a
 |_=>Af
noncomputable def UL(e:An):Am (Ah×Ah×Ac An):=(SD e).bind λc=>(Sz c.1).bind λg=>(one c.2.1).bind λa=>(SD a).bind λd=>(Sz d.1).bind λh=>if (c.2.2.1.isEmpty&&d.2.2.1.isEmpty)=Aa then Ab (g.1,h.1,d.2.1) else Af
noncomputable def Ux(e:An):Am (Ah×Ah×An×An):=match UL e with
  | some (g,h,bs)=>(match bs with
    |[x,y]=>Ab (g,h,x,y)
    | _=>Af)
  |none=>Af
noncomputable def Po(_:Es):Am (E×E):=Af
noncomputable def Uw(e:An):Am (Ah×Ah×An):=match UL e with
  | some (g,h,bs)=>(match bs with
    |[x]=>Ab (g,h,x)
    | _=>Af)
  |none=>Af
noncomputable def Nq:Es->Am (Ah×E)
  | .cons a r=>(match a with
    | .str s=>(match r with
      | .cons b r'=>(match r' with
        | .nil=>(match b with
          |.var _=>Af
          | b=>Ab (s,b))
        | _=>Af)
      | _=>Af)
    | _=>Af)
  |.nil=>Af
theorem eK{s:Ah}{a:E}(q:Nq as=Ab (s,a)):as=.cons (.str s) (.cons a .nil)/\∀ U r,top U a r=r:=by
 cases as with
 |nil=>cases q
 |cons a r=>
  cases a with
  |str s=>
   cases r with
   |nil=>cases q
   |cons b r'=>
    cases r' with
    |nil=>cases b<;>first|(cases q;exact⟨rfl,λ_ _=>rfl⟩)|cases q
    |cons=>cases q
  |_=>cases q
noncomputable def Pl(_:Es):Am E:=Af
noncomputable def two(e:An):Am (An×An):=(pQ e).bind λt=>match t.1 with
  |[a,b]=>Ab (a,b)
  |_=>Af
noncomputable def PY(_:Es):Am E:=Af
noncomputable def UG(_:An):Am An:=Af
noncomputable def UC:An->Am (An×Ag)
  | .Subscript v s _=>(match s with
    | .Slice lo hi st _=>(match lo with
      | some (.Constant (.int k) _ _)=>(match hi with
        | none=>(match st with
          |some (.Constant (.int j) _ _)=>if j=2 then Ab (v,k) else Af
          | _=>Af)
        | some _=>Af)
      | _=>Af)
    | _=>Af)
  |_=>Af
noncomputable def Pk(_:Es):Am (E×Ag):=Af
mutual
noncomputable def Bm:Ae->Tc->An->E->Ai
  |0,_,_,_=>Ad
  |n+1,T,e,c=>match c with
    |.non=>HR e λc=>decide (c=.none)
    |.bl b=>HR e λc=>decide (c=.bool b)
    |.int i=>HR e λc=>decide (c=.int i)
    |.str x=>HR e λc=>decide (c=.str x)
    |.var i=>F2 e λx=>isV T x i
    |.glob g=>Ad
    |.bin op a b=>Na e λx op' y=>decide (op'=op)&&Bm n T x a&&Bm n T y b
    |.un op a=>JW e λo x=>decide (o=.USub)&&(decide (op=.USub)&&Bm n T x a)
    |.no a=>JW e λo x=>decide (o=.Not)&&Bm n T x a
    |.and es=>Jo e λo xs _=>decide (o=.And)&&(chkEs n T xs es && !xs.isEmpty)
    |.or es=>Jo e λo xs _=>decide (o=.Or)&&(chkEs n T xs es && !xs.isEmpty)
    |.cmp op a b=>LJ e λx os ys=>EV os λop'=>EV ys λy=>decide (op'=op) && !behindInMarks op y&&Bm n T x a&&Bm n T y b
    |.cmp2 op1 op2 a b c=>Ad
    |.ite c a b=>Ad
    |.call f as=>LC e λg x xs=>(T.fns.any λp=>p.1==g&&p.2.1==f&&p.2.2==xs.length+1)&&decide (xs.length<900)&&glB T g&&G2 g&&chkEs n T (x::xs) as
    |.bi b as=>(LC e λg x xs=>Pa b==Ab g&&isB T g&&chkEs n T (x::xs) as)||UK T e b as||(match Po as with|some (a,c)=>(match Ux e with|some (g,h,x,y)=>decide (b=.list)&&g==("list" : Ah)&&h==("range" : Ah)&&isB T g&&isB T h&&Dz x&&Dz y&&Bm n T x a&&Bm n T y c|none=>Ad)|none=>Ad)||(match Pk as with|some (a,k)=>(match UC e with|some (x,j)=>decide (b=.stp)&&decide (j=k)&&decide (0<=k)&&Bm n T x a|none=>Ad)|none=>Ad)||(match Pl as with|some a=>(match Uw e with|some (g,h,x)=>decide (b=.lset)&&g==("len" : Ah)&&h==("set" : Ah)&&isB T g&&isB T h&&Dz x&&Bm n T x a|none=>Ad)|none=>Ad)||(match Pj as with|some (a,c)=>(match UN e with|some (x,y,_)=>decide (b=.tlt) && !behindInMarks .Lt y&&Bm n T x a&&Bm n T y c|none=>Ad)|none=>Ad)||(match Nq as with|some (s,a)=>KO e λf l ks cp=>ks.isEmpty&&(KQ f λo m ap=>m==("join" : Ah)&&ap.endLine==cp.line&&(HR o λc=>decide (c=.str s)&&decide (b=.sjoin)&&(EV l λy=>Dz y&&Bm n T y a)))|none=>Ad)||(match PY as with|some a=>(match UG e with|some x=>decide (b=.rvs)&&Bm n T x a|none=>Ad)|none=>Ad)
    |.isi a ks=>EV ks λk=>Jn e λg l=>HU l λx t=>F2 t λt=>g==("isinstance" : Ah)&&isB T g&&O9 k==Ab t&&isB T t&&Dz x&&Bm n T x a
    |.idx a i=>M3 e λx y=>R5 y&&Bm n T x a&&Bm n T y i
    |.sl a lo hi=>M3 e λx s=>Pd s λl h st=>st.isNone&&(Bm n T x a&&chkO n T l lo&&chkO n T h hi)
    |.tup es=>KM e λxs=>chkEs n T xs es&&decide (xs.length<=1000)
    |.lst es=>M5 e λxs=>chkEs n T xs es&&decide (xs.length<=1000)
    |.comp elt t it c=>Ut e λx tg iter ifs scope=>F2 tg λy=>chkI n T Ad iter it&&MW iter&&Np T scope [t] (LP [t] [y] T.N)&&tgO (T.blk scope [t] [y]) scope t y&&chkT n (T.blk scope [t] [y]) ifs c&&Bm n (T.blk scope [t] [y]) x elt
    |.compT elt ts it c=>Ad
    |.tupI _=>Ad
    |.dnew=>Ad
    |.fld _ _=>Ad
noncomputable def HV:Ae->Tc->An->E->Ai
 |0,_,_,_=>Ad
 |n+1,T,e,c=>(JW e λo x=>decide (o=.Not)&&(Nj c λa=>HV n T x a)) ||
  (Jo e λo xs _=>(decide (o=.And)&&(MV c λes=>chkBs n T xs es && !xs.isEmpty))||(decide (o=.Or)&&(Ni c λes=>chkBs n T xs es && !xs.isEmpty))) ||
  (LJ e λx os ys=>(M7 c λop a b=>EV os λop'=>EV ys λy=>decide (op'=op) && !behindInMarks op y&&Bm n T x a&&Bm n T y b) ||
   (M8 c λop1 op2 a b c=>HU os λo1 o2=>HU ys λy z=>decide (o1=op1)&&decide (o2=op2) && !lastMarks [op1,op2] [y,z]&&Bm n T x a&&Bm n T y b&&Bm n T z c) ||
   (M9 c λb as=>Pw T (Bm n) x os ys b as)) ||
  Md e&&Bm n T e c
noncomputable def chkBs:Ae->Tc->Ac An->Es->Ai
  |0,_,_,_=>Ad
  |n+1,T,xs,es=>match xs,es with
    |[],.nil=>Aa
    |x::xs,.cons e es=>HV n T x e&&chkBs n T xs es
    |_,_=>Ad
noncomputable def chkEs:Ae->Tc->Ac An->Es->Ai
  |0,_,_,_=>Ad
  |n+1,T,xs,es=>match xs,es with
    |[],.nil=>Aa
    |x::xs,.cons e es=>Dz x&&Bm n T x e&&chkEs n T xs es
    |_,_=>Ad
noncomputable def chkO:Ae->Tc->Am An->E->Ai
  |0,_,_,_=>Ad
  |n+1,T,x,e=>match x with
    |none=>MY e
    |some x=>!(MY e)&&Bm n T x e
noncomputable def chkT:Ae->Tc->Ac An->E->Ai
  |0,_,_,_=>Ad
  |n+1,T,xs,e=>match xs with
    |[]=>PP e λb=>b
    |x::r=>r.isEmpty&&HV n T x e
noncomputable def chkI:Ae->Tc->Ai->An->I->Ai
  |0,_,_,_,_=>Ad
  |n+1,T,tu,e,i=>match i with
    |.e a=>Bm n T e a
    |.rng a=>Jn e λg l=>EV l λx=>g==("range" : Ah)&&isB T g&&Dz x&&Bm n T x a
    |.enm a=>Ad
    |.zip a b=>Jn e λg l=>HU l λx y=>tu&&g==("zip" : Ah)&&isB T g&&Dz x&&Dz y&&Bm n T x a&&Bm n T y b
    |.rng2 a b=>Jn e λg l=>HU l λx y=>g==("range" : Ah)&&isB T g&&Dz x&&Dz y&&Bm n T x a&&Bm n T y b
    |.rng3 a b c=>Jn e λg l=>TW l λx y z=>g==("range" : Ah)&&isB T g&&Dz x&&Dz y&&Dz z&&Bm n T x a&&Bm n T y b&&Bm n T z c
    |.zip3 a b c=>Ad
end
noncomputable def PH:E->E->Ai
 |.var _,.int _=>Aa
 |_,_=>Ad
noncomputable def UE:Fd->Ai
 |.Sub=>Aa
 |_=>Ad
noncomputable def Nm:E->Ai
 |.idx a b=>PH a b
 |.bin op a b=>UE op&&PH a b
 |.var _=>Aa
 |.int _=>Aa
 |.bl _=>Aa
 |.str _=>Aa
 |.non=>Aa
 |_=>Ad
noncomputable def Ji:Es->Ai
 |.nil=>Aa
 |.cons e es=>Nm e&&Ji es
noncomputable def PB:An->Am (Ah×AR)
 |.Name x p=>Ab (x,p)
 |_=>Af
theorem bF{e:An}{t:Ah×AR}(h:PB e=Ab t):e=.Name t.1 t.2:=by
 cases e with
 |Name x p=>cases h;rfl
 |_=>exact nomatch (show Af=Ab t from h)
noncomputable def xHd:E1->Am (Ah×Ah×AZ×Ac AZ)
  | .ExceptHandler ty nm b _=>(match nm,b,ty with
    |some m,h0::hs,Ab e=>(PB e).bind λg=>Ab (g.1,m,h0,hs)
    | _,_,_=>Af)
theorem eD{h:E1}{m:Ah}(q:xHd h=Ab (g,m,h0,hs)):∃ p r,h=.ExceptHandler (Ab (.Name g p)) (Ab m) (h0::hs) r:=by
 obtain⟨ty,nm,b,r⟩:=h;cases nm with
 |none=>cases ty<;>cases b<;>exact nomatch (show Af=Ab (g,m,h0,hs) from q)
 |some m'=>
  cases b with
  |nil=>cases ty<;>exact nomatch (show Af=Ab (g,m,h0,hs) from q)
  |cons h0' hs'=>
   cases ty with
   |none=>exact nomatch (show Af=Ab (g,m,h0,hs) from q)
   |some e=>
    obtain⟨g',e1,q⟩:=Option.bind_eq_some_iff.mp (show ((PB e).bind λg=>Ab (g.1,m',h0',hs'))=Ab (g,m,h0,hs) from q)
    cases q;rw[bF e1];exact⟨_,_,rfl⟩
noncomputable def Pz:AZ->Am (AZ×Ac E1×Ac AZ)
  | .Try b hs es fs _=>(match b,fs with
    |[bt],[]=>Ab (bt,hs,es)
    | _,_=>Af)
  |_=>Af
theorem bE{st bt:AZ}{hs:Ac E1}{es:Ac AZ}(q:Pz st=Ab (bt,hs,es)):∃ p,st=.Try [bt] hs es [] p:=by
 cases st with
 |Try b h e f p=>
  cases b with
  |nil=>cases f<;>exact nomatch (show Af=Ab (bt,hs,es) from q)
  |cons x b=>
   cases b with
   |cons=>cases f<;>exact nomatch (show Af=Ab (bt,hs,es) from q)
   |nil=>
    cases f with
    |nil=>cases q;exact⟨_,rfl⟩
    |cons=>exact nomatch (show Af=Ab (bt,hs,es) from q)
 |_=>exact nomatch (show Af=Ab (bt,hs,es) from q)
noncomputable def Uu(e:An)(F:Ah->Ah->An->Ai):Ai:=Jn e λg l=>HU l λa t=>F2 a λv=>F g v t
theorem cN{e:An}{F:Ah->Ah->An->Ai}(h:Uu e F=Aa):∃ g p v q t r,e=.Call (.Name g p) [.Name v q,t] [] r/\F g v t=Aa:=by
 obtain⟨g,p,l,r,rfl,h⟩:=JJ h;obtain⟨a,t,rfl,h⟩:=JH h;obtain⟨v,q,rfl,h⟩:=Gr h;exact⟨g,p,v,q,t,r,rfl,h⟩
noncomputable def Pr(T:Tc):Ac An->Ac Ki->Ai
  |[],ks=>ks.isEmpty
  | e::r,ks=>HN ks λk ks=>F2 e λt=>(match k with
    |.cls c=>inX T.exs t c&&glB T t&&G2 t
    | _=>Ad)&&Pr T r ks
noncomputable def LN(f:An->E->Ai):Ac An->Es->Ai
 |[],.nil=>Aa
 |x::xs,.cons e es=>Dz x&&f x e&&LN f xs es
 |_,_=>Ad
noncomputable def pM(T:Tc)(t:An)(ks:Ac Ki):Ai:=HN ks λk r=>match k with
  |.verr=>r.isEmpty&&(F2 t λt=>t==("ValueError" : Ah)&&isB T t)
  | .cls c=>(match r with
    |[]=>F2 t λt=>inX T.exs t c&&glB T t&&G2 t
    | k2::r=>KM t λts=>Pr T ts (.cls c::k2::r)&&decide (ts.length<=1000))
  |_=>Ad
noncomputable def HS:Ae->Tc->Ae->An->E->Ai
  |0,_,_,_,_=>Ad
  |n+1,T,x,e,c=>match c with
    |.bl b=>HR e λk=>decide (k=.bool b)
    |.no a=>JW e λo y=>decide (o=.Not)&&HS n T x y a
    | .and es=>(match es with
      |.nil=>Ad
      | .cons a r=>(match r with
        |.nil=>Jo e λo l _=>decide (o=.And)&&(EV l λy=>HS n T x y a)
        | .cons a' as=>Jo e λo l p=>decide (o=.And)&&(HN l λy l=>HN l λz zs=>HS n T x y a&&HS n T x (.BoolOp .And (z::zs) p) (.and (.cons a' as)))))
    |.isi a ks=>LH a λi=>Uu e λg v t=>i==x&&g==("isinstance" : Ah)&&isB T g&&isV T v x&&pM T t ks
    |.call _ _=>Ad
    |.str s=>HR e λk=>decide (k=.str s)
    |.lst es=>M5 e λxs=>LN (HS n T x) xs es&&decide (xs.length<=1000)
    |.tup es=>KM e λxs=>LN (HS n T x) xs es&&decide (xs.length<=1000)
    |.bin op a b=>decide (op=.Add)&&(LH a λi=>Na e λl o y=>decide (o=.Add)&&(F2 l λv=>isV T v i&&HS n T x y b))
    |.fld o f=>LH o λi=>KQ e λw g _=>F2 w λv=>i==x&&g==f&&(f==("triple" : Ah)||f==("points" : Ah))&&isV T v x
    |_=>Ad
noncomputable def qN:E->Ai
 |.lst _=>Aa
 |_=>Ad
noncomputable def Ps:Ae->Tc->Ae->Ac AZ->Ss->Ai
  |0,_,_,_,_=>Ad
  |n+1,T,x,sts,ss=>match ss with
    |.nil=>sts.isEmpty
    | .cons s ss=>HN sts λst r=>(match s with
      |.asg i b e=>LK st λy v=>T.N[i]? == Ab y&&IP T y&&JQ v&&HS n T x v e&&(!b||qN e)
      |.ife _ _ _=>Ad
      |.ret _=>Ad
      |.app _ _=>Ad
      | _=>Ad)&&Ps n T x r ss
noncomputable def PF:E->Ai
 |.var _=>Aa
 |.cmp _ a b=>Nm a&&Nm b
 |_=>Ad
noncomputable def MN(n:Ae)(T:Tc)(st:AZ)(s:S):Ai:=match s with
  |.expr e=>KP e λf as=>KN st λv=>Bm n T v (.call f as)&&Ji as
  |.asg i b e=>!b&&(KP e λf as=>LK st λy v=>T.N[i]? == Ab y&&IP T y&&Bm n T v (.call f as)&&Ji as)
  |_=>Ad
noncomputable def Pc:Ss->(S->Ai)->Ai
  |.nil,_=>Ad
  | .cons a r,F=>(match r with
    |.nil=>F a
    | .cons _ _=>Ad)
theorem Ri{l:Ss}{F:S->Ai}(h:Pc l F=Aa):∃ a,l=.cons a .nil/\F a=Aa:=by
 cases l with
 |nil=>exact noF h
 |cons a r=>
  cases r with
  |nil=>exact⟨a,rfl,h⟩
  |cons=>exact noF h
noncomputable def Tg(f:AZ->S->Ai)(n:Ae)(T:Tc)(st:AZ):S->Ai
 |.ife c a b=>Pc a λa=>Pc b λb=>Nk st λt xs ys=>EV xs λx=>EV ys λy=>HV n T t c&&PF c&&f x a&&f y b
 |_=>Ad
noncomputable def MT:Ae->Ae->Tc->AZ->S->Ai
 |0,n,T,st,s=>MN n T st s
 |m+1,n,T,st,s=>MN n T st s||Tg (MT m n T) n T st s
noncomputable def qE:E->Ai
  | .bi b as=>(match b,as with
    |.len,.nil=>Aa
    | _,_=>Ad)
  |_=>Ad
noncomputable def qD:S->Ai
 |.expr e=>qE e
 |_=>Ad
noncomputable def No:Ss->Ai
 |.cons s _=>qD s
 |.nil=>Ad
noncomputable def hdB(T:Tc)(g:Ah)(c:Ae):Ai:=inX T.exs g c&&inX T.rzs g c&&glB T g&&G2 g
mutual
noncomputable def LU:Ae->Tc->AZ->S->Ai
  |0,_,_,_=>Ad
  |n+1,T,st,s=>match s with
    |.pass=>Ad
    |.brk=>Ad
    |.cont=>Ad
    |.asg i _ e=>LK st λx v=>T.N[i]? == Ab x&&IP T x&&Bm n T v e
    |.asgT ts e=>Ad
    |.expr e=>KN st λv=>JQ v&&Bm n T v e
    |.ret e=>Pe st λo=>match o with|some v=>Bm n T v e|none=>Ad
    |.retN=>Ad
    |.ife c a b=>Nk st λt xs ys=>HV n T t c&&chkSs n T xs a&&chkSs n T ys b
    |.fors t it body=>M6 st λtg iter xs ys=>ys.isEmpty&&(F2 tg λx=>tgC T [t] [x]&&MW iter&&chkI n T Ad iter it&&chkSs n T xs body)
    |.forT ts it body=>M6 st λtg iter xs zs=>zs.isEmpty&&(KM tg λys=>(Ht ys).isSome&&tgC T ts (tgN ys)&&MW iter&&chkI n T Aa iter it&&chkSs n T xs body)
    |.whl c body=>Ad
    |.rais c as=>!(T.rzs.any λp=>p.2==c)||(M4 st λa b=>b.isNone&&(match a with|some e=>LC e λg x xs=>inX T.rzs g c&&glB T g&&G2 g&&decide (xs.length<=1000)&&chkEs n T (x::xs) as|none=>Ad))
    |.tryx bs c x h=>(match bs with | .cons b .nil=>(match Pz st with|some (bt,[h1],[])=>(match xHd h1 with|some (g,m,h0,hs)=>hdB T g c&&T.N[x]? == Ab m&&T.sc.names.lookup m==Ab .local&&MT 6 n T bt b&&Ps n T x (h0::hs) h|none=>Ad)|_=>Ad)|_=>Ad)
    |.try2 _ _ _ _ _ _ _=>Ad
    |.app i e=>Pf st λx m l=>EV l λv=>m==("append" : Ah)&&isV T x i&&Dz v&&Bm n T v e
    |.ext i e=>Pf st λx m l=>EV l λv=>m==("extend" : Ah)&&isV T x i&&Dz v&&((qL e||oH e)&&Bm n T v e||(match Nd e with|some a=>Bm n T v a|none=>Ad))
    |.rev i=>Ad
    |.clr i=>Ad
    |.put i k e=>Ad
    |.swp _ _ _=>Ad
    |.apop _ _ _=>Ad
    |.ins i k e=>Ad
    |.dput _ _ _=>Ad
    |.dsd _ _ _=>Ad
    |.rel _=>Ad
noncomputable def chkSs:Ae->Tc->Ac AZ->Ss->Ai
  |0,_,_,_=>Ad
  | n+1,T,sts,ss=>(match ss with
    |.nil=>sts.isEmpty
    |.cons (.rel i) ss=>chkSs n T sts ss
    | .cons s ss=>(match sts with
      |st::r=>LU n T st s&&chkSs n T r ss
      | []=>Ad))||No ss
end
noncomputable def IM(fuel:Ae)(hot:Ai)(fns:Ac (Ah×Ae×Ae))(bl:Ac Ah)(rzs exs gls:Ac (Ah×Ae))(ps N:Ac Ah)(st:AZ)(df:Df):Ai:=
  let sc:=Go st
  sc.kind==.function && !sc.isCoroutine && !sc.isGenerator&&LD N&&N.take ps.length==ps&&ps.all (λx=>sc.names.lookup x==Ab .local||sc.names.lookup x==Ab .cell)&&sc.names.all (λy=>y.2 != .free)&&N.length==df.n &&
  (match hot with
  |true=>Ad
  | false=>chkSs fuel ⟨sc,N,fns,bl,rzs,exs,gls⟩ (HM st) df.body)
structure XT (up:Ae->Ac Ae) (xn:Ae->Ac D->R Ex) (CL:ClA) (rzs exs:Ac (Ah×Ae)) (K:Fg) (mg:Ah->Am Aj):Prop where
 xc:∀ c C,CL c=Ab C->XcOk K C
 rz:∀ p∈rzs,∃ C,CL p.2=Ab C/\mg p.1=Ab (.ref C)
 ex:∀ p∈exs,∃ C,mg p.1=Ab (.ref C)/\LB K CL up p.2 C/\∀ c D,CL c=Ab D->BB K (.ref D) (.ref C)=Ab ((up c).contains p.2)
 made:∀ c C ds,CL c=Ab C->xn c ds=.bad\/(xn c ds=.ok ⟨c,[]⟩/\Ea K C Af=Aa)\/A5
 nf:∀ c C,CL c=Ab C->∀ f:Ah,(f==("triple" : Ah)||f==("points" : Ah))=Aa->Hu K C=Aa/\Bf K (.ref C) f=Ab Af
 xb:∀ c,(∀ p∈rzs,p.2≠c)->∀ ds,xn c ds=.bad
def PR(K:Fg)(mg:Ah->Am Aj)(CL:ClA)(x:Ah)(d:D):Prop:=∃ u v,mg x=Ab u/\Bx v u/\∀ H A,Rep K CL H A v d
structure VX (Z:Gam) (CL:ClA) (k:Ae) (W:XW) (T:Tc) (X:Cx):Prop where
 sc:X.env.scope=T.sc
 kd:T.sc.kind=.function
 N:X.N=T.N
 nd:T.N.Nodup
 calm:X.calm=Aa
 room:Room k X.A
 bl:∀ x,x∈T.bl->X.mg x=Af
 fn:∀ p∈T.fns,∃ f fd ps,X.mg p.1=Ab (.ref f)/\Co X.K (.ref f)=Aa/\G1 X.K fd ps []/\ps.length=p.2.2%1000/\(p.2.2<1000->FnOk X.prog X.w X.K X.mg X.base (CXR X.prog X.w) k f fd ps (spD X.K CL (p.2.2%1000) (Z.fr p.2.1) (Z.F p.2.1)))/\(1000<=p.2.2->HotOk X.prog X.w X.K X.mg X.base k f fd ps (spH X.K CL (p.2.2%1000) (Z.fr p.2.1) (Z.F p.2.1)))
 own:Fe (model X.prog X.w) X.A X.env X.xe
 px:∀ A,KD (CXR X.prog X.w) X (EKW X.K CL A W)
 rz:LR X CL W
 xt:XT Z.up Z.xn CL T.rzs T.exs X.K X.mg
 gl:∀ p∈T.gls,PR X.K X.mg CL p.1 (Z.G p.2)
theorem TB:∀ A,KD (CXR X.prog X.w) X (EKW X.K CL A W0):=λA pI Y H s ev s' I h=>by
 obtain⟨e,T,cls,dx,H',_,_,_,_,_,_,_,_,_,_,x,_,w⟩:=h;exact w.elim
theorem UF:LR X CL W0:=λ_ _ _ _ _ _ _ _ _ _ _ _ _ _ z=>z.elim
def Rf{α:Type}(g f:Rho->R α):Prop:=∀ U,g U=.bad\/g U=f U
section
variable{X:Cx}{CL:ClA}{W:XW}{a:An}{f g:Rho->R D}
theorem SE.ref(h:SE X CL W a f)(r:Rf g f):SE X CL W a g:=λA=>PE.weak (h A) λY H Q ⟨hA,U,q,p⟩=>⟨hA,U,q,by
 rcases r U with e|e
 .rw[e]at p;exact p.elim
 .rw[e]at p;exact p⟩
theorem SB.ref{f g:Rho->R Ai}(h:SB X CL W a f)(r:Rf g f):SB X CL W a g:=λA=>PT.weak (h A) λY H Q ⟨hA,U,q,p⟩=>⟨hA,U,q,by
 rcases r U with e|e
 .rw[e]at p;exact p.elim
 .rw[e]at p;exact p⟩
theorem SW.ref{f g:Rho->R Ai}(h:SW X CL W a f)(r:Rf g f):SW X CL W a g:=λA=>PW.weak (h A) λY H Q ⟨hA,U,q,p⟩=>⟨hA,U,q,by
 rcases r U with e|e
 .rw[e]at p;exact p.elim
 .rw[e]at p;exact p⟩
theorem SC.ref(h:SC X CL W fr a f)(r:Rf g f):SC X CL W fr a g:=λA=>PE.weak (h A) λY H Q ⟨hA,U,q,p⟩=>⟨hA,U,q,by
 rcases r U with e|e
 .rw[e]at p;exact p.elim
 .rw[e]at p;exact p⟩
theorem SS.ref{st:AZ}{f g:Rho->O}(h:SS X CL W st f)(r:∀ U,g U=.bad\/g U=f U):SS X CL W st g:=λFz B=>PS.weak (h Fz B) λD Y H ⟨U,x,p⟩=>⟨U,x,by
 rcases r U with e|e
 .rw[e]at p;exact p.elim
 .rw[e]at p;exact p⟩
end
theorem L9:∀{l:Ac Ah},LD l=Aa->l.Nodup
 |[],_=>List.nodup_nil
 |x::xs,h=>by
  unfold LD at h;simp only[Al,BA,Va,FA]at h;exact List.nodup_cons.mpr ⟨h.1,L9 h.2⟩
section
variable{T:Tc}{X:Cx}{Z:Gam}{CL:ClA}{k:Ae}{W:XW}
theorem RD(h:Pv T x=Aa):Vis T.sc x:=by
 unfold Pv at h;split at h
 .exact .inl (by assumption)
 .exact .inr (.inl (by assumption))
 .exact .inr (.inr (by assumption))
 .cases h
theorem Ku(h:IP T x=Aa):Loc T.sc x:=by
 unfold IP at h;split at h
 .exact .inl (by assumption)
 .exact .inr (by assumption)
 .cases h
theorem HL(h:G2 x=Aa):(x==("__debug__" : Ah))=Ad/\(x==("__classdict__" : Ah))=Ad/\x≠"__name__" := by
 unfold G2 at h;simp only[Al,BA]at h;exact⟨h.1.1,h.1.2,λe=>by subst e;exact absurd h.2 (by simp)⟩
theorem KA{i:Ae}(v:VX Z CL k W T X)(h:isV T x i=Aa):PE X (.Name x pos) (IK i):=by
 unfold isV at h;simp only[Al,A7]at h;obtain⟨h2,h3,_⟩:=HL h.2;exact Tx (by rw[v.N];exact h.1.1) (by rw[v.sc];exact RD h.1.2) h2 h3
theorem ID(v:VX Z CL k W T X)(h:isB T x=Aa):Gl X x/\X.mg x=Af/\x≠"__name__"/\(x==("__debug__" : Ah))=Ad:=by
 unfold isB glB at h;simp only[Al,A7,Va,AQ]at h;obtain⟨h2,h3,h4⟩:=HL h.2;exact⟨by show X.env.scope.names.lookup x=_;rw[v.sc];exact h.1.2,v.bl x h.1.1,h4,h2⟩
theorem Cw{x:An}(h:Dz x=Aa):Ay (x::xs) env=(Ad,eval x env)::Ay xs env:=by
 cases x<;>first|rfl|cases h
theorem Zd{y:An}(h:R5 y=Aa):OJ y:=by
 intro o i;cases y<;>first|rfl|cases h
theorem OR{e:An}(h:MW e=Aa):∀ x,CS e env x=pure x:=by
 intro x;cases e<;>first|rfl|cases h
theorem Kw{e:An}{t:Am An}{l:Ae}(h:JQ e=Aa):Dh e t l env=pure Ad:=by
 cases e<;>first|rfl|cases h
theorem bS{e:An}(h:Md e=Aa):∀ whole,Ii e env whole=(do let v <-whole;standAt e.pos;holding [v] (truthy v)):=by
 intro whole;cases e<;>first|rfl|cases h
theorem Yh(v:VX Z CL k W T X)(scope:BY):relabel scope X.env=O5 T.sc scope:=by
 unfold relabel O5;have:∀ n,X.env.kindOf n=T.sc.names.lookup n:=λn=>by show X.env.scope.names.lookup n=_;rw[v.sc]
 simp only[this,v.sc]
theorem Th{N':Ac Ah}(v:VX Z CL k W T X)(h:Np T scope ts N'=Aa):BlockOk X scope N' ts/\N'.Nodup/\scope.kind=.function:=by
 unfold Np at h;simp only[Al,A7,C8,CY,Ka,ne_eq]at h;obtain⟨⟨⟨⟨⟨h1,h2⟩,h4⟩,h5⟩,h6⟩,h7⟩:=h;have at7:∀ i x,N'[i]?=Ab x->i∈ts\/((scope.names.lookup x≠Ab .local/\scope.names.lookup x≠Ab .cell)/\(scope.names.lookup x≠Ab .free\/T.N[i]?=Ab x)):=λi x e=>by
  have hi:=(A4.mp e).1;have:=h7 i (DC.mpr hi);rcases this with z|z
  .exact .inl (by simpa using z)
  .rw[e]at z;simp only[Al,Ka,ne_eq,CY,A7]at z;exact .inr z
 refine⟨⟨h1,h2,λy hy hl=>by rw[h2 y hy,hl],λy hy hf=>?_,by rw[v.N];exact h5,λi x e hf hn=>?_,λi x e hl=>?_⟩,L9 h6,h1⟩
 .rw[v.sc];rcases h4 y hy with (z|z)|z
  .exact absurd hf z
  .exact .inl z
  .exact .inr z
 .rw[v.N];rcases at7 i x e with z|⟨_,z⟩
  .exact absurd z hn
  .exact z.resolve_left λq=>q hf
 .rcases at7 i x e with z|⟨z,_⟩
  .exact z
  .exact hl.elim (λq=>absurd q z.1) (λq=>absurd q z.2)
theorem VX.blk{xs:Ac Ah}{cl:Ac (Ah×Ak)}{s:Ap}{fp:Ac Ak}(v:VX Z CL k W T X)(h:Np T scope ts (LP ts xs T.N)=Aa):VX Z CL k W0 (T.blk scope ts xs) (cxC X scope cl C (LP ts xs T.N) s H fp):=by
 obtain⟨_,h2,h3⟩:=Th v h;exact⟨Yh v scope,h3,rfl,h2,v.calm,v.room,v.bl,v.fn,PassesOwn.never,TB,UF,v.xt,v.gl⟩
theorem bO{t:Ae}(v:VX Z CL k W T X)(hfn:scope.names.lookup x=Ab .cell->X.fn x=Aa)(h:tgO T scope t x=Aa):PG X (.Name x pos) (GZ t):=by
 unfold tgO at h;simp only[Al,CY,A7]at h;rcases h with ⟨h1,h2|h2⟩
 .exact Mv (by rw[v.N];exact v.nd) (by rw[v.N];exact h1) (by rw[v.sc];exact .inl h2) (.inr (by rw[v.sc];exact h2))
 .exact Mv (by rw[v.N];exact v.nd) (by rw[v.N];exact h1) (by rw[v.sc];exact .inr h2.1) (.inl (hfn h2.2))
theorem PZ{y:An}{r:Ac An}{zs:Ac Ah}(h:Ht (y::r)=Ab zs):∃ x p ws,y=.Name x p/\Ht r=Ab ws/\zs=x::ws:=by
 cases y with
 |Name x p=>
  have h':(Ht r).map (x :: ·)=Ab zs:=h;cases e:Ht r with
  |none=>rw[e]at h';cases h'
  |some ws=>rw[e]at h';cases h';exact⟨x,p,ws,rfl,rfl,rfl⟩
 |_=>cases h
theorem Qz(x:Ah)(p:AR)(r:Ac An)(env:Cr):D9 (.Name x p::r) env=(Ad,assign (.Name x p) env)::D9 r env:=rfl
theorem Xx:∀(ys:Ac An)(zs:Ac Ah),Ht ys=Ab zs->(D9 ys env).length=ys.length/\(D9 ys env).findIdx? (·.1)=Af/\(D9 ys env).map (·.2)=ys.map λy=>assign y env:=by
 intro ys
 induction ys with
 |nil=>intro _ _;exact⟨rfl,rfl,rfl⟩
 |cons y r ih=>
  intro zs h;obtain⟨x,p,ws,rfl,e,rfl⟩:=PZ h;obtain⟨h1,h2,h3⟩:=ih ws e;rw[Qz];refine⟨?_,?_,?_⟩
  .rw[AS,AS,h1]
  .rw[List.findIdx?_cons,h2];simp
  .rw[BP,BP,h3]
end
noncomputable def Es.len:Es->Ae
 |.nil=>0
 |.cons _ es=>es.len+1
theorem JL(Z:Gam)(U:Rho):∀(es:Es)(ds:Ac D),evA Z U es=.ok ds->ds.length=es.len
 |.nil,ds,h=>by cases h;rfl
 |.cons e es,ds,h=>by
  obtain⟨x,h1,h2⟩:=JC (Q6 Z U e es ▸ h);obtain⟨xs,h3,h4⟩:=JC h2;cases h4;exact congrArg (· + 1) (JL Z U es xs h3)
theorem Mr(Z:Gam)(U:Rho):∀(es:Es)(ds:Ac D),evB Z U es=.ok ds->ds.length=es.len
 |.nil,ds,h=>by cases h;rfl
 |.cons e es,ds,h=>by
  obtain⟨x,h1,h2⟩:=JC (Oe Z U e es ▸ h);obtain⟨xs,h3,h4⟩:=JC h2;cases h4;exact congrArg (· + 1) (Mr Z U es xs h3)
theorem Tj(Z:Gam)(U:Rho)(e:E)(h:shE U e=Aa):top U e (evE Z U e)=evE Z U e:=by
 cases e with
 |var i=>
  show Eb U i=FL U i;have h':shV U i=Aa:=h;unfold shV at h';unfold Eb FL;cases q:U[i]? with
  |none=>rfl
  |some x=>
   cases x with
   |none=>rfl
   |some y=>
    obtain⟨d,o⟩:=y;cases o with
    |true=>rw[q]at h';cases h'
    |false=>rfl
 |_=>rfl
theorem MD(Z:Gam)(U:Rho):∀(es:Es),HY U es=Aa->evB Z U es=evA Z U es
 |.nil,_=>rfl
 |.cons e es,h=>by
  simp only[YF,Al]at h;rw[Q6,Oe,Tj Z U e h.1,MD Z U es h.2]
theorem OK(Z:Gam)(c:E):Rf (λU=>evE Z U c) (λU=>top U c (evE Z U c)):=λU=>by
 by_cases h:shE U c=Aa
 .exact .inr (Tj Z U c h).symm
 .cases c with
  |var i=>
   refine .inl ?_;show FL U i=.bad;have h':¬ shV U i=Aa:=h;unfold shV at h';unfold FL;cases q:U[i]? with
   |none=>rfl
   |some x=>
    cases x with
    |none=>rfl
    |some y=>
     obtain⟨d,o⟩:=y;cases o with
     |true=>rfl
     |false=>rw[q]at h';exact absurd rfl h'
  |_=>exact absurd rfl h
def Pcs(X:Cx)(CL:ClA)(W:XW)(e:An)(f:Rho->R D):Prop:=∃ tg iter elt ifs scope pos N' ts fi fc fe as g,e=.ListComp elt [⟨tg,iter,ifs,0⟩] scope pos/\BlockOk X scope N' ts/\SI X CL W tg iter fi/\GG X.K CL ts as g /\
 (∀ cl C s H fp,PG (cxC X scope cl C N' s H fp) tg g)/\(∀ cl C s H fp,STs (cxC X scope cl C N' s H fp) CL ifs fc)/\(∀ cl C s H fp,SE (cxC X scope cl C N' s H fp) CL W0 elt fe)/\(∀ x,CS iter X.env x=pure x) /\
 ∀ U,f U=(fi U).bind λxs=>(noX (Ch (λx=>(as x U).bind fc) (λx=>(as x U).bind fe) xs)).bind λys=>.ok (.lst ys)
theorem Pcs.sc{e:An}{f:Rho->R D}(hc:X.calm=Aa)(h:Pcs X CL W e f):SC X CL W Aa e f:=by
 obtain⟨tg,iter,elt,ifs,scope,pos,N',ts,fi,fc,fe,as,g,rfl,B,hi,hGG,hg,ht,he,hs,ef⟩:=h;exact SC.congr (aU hc B hi hGG hg ht he hs) ef
structure OkE (Z:Gam) (CL:ClA) (W:XW) (X:Cx) (e:An) (c:E):Prop where
 se:SE X CL W e (λU=>evE Z U c)
 st:ST X CL W e (λU=>top U c (evE Z U c))
 nw:Cb Z c=Aa->SC X CL W Aa e (λU=>evE Z U c)
 cp:JQ e=Ad->Pcs X CL W e (λU=>evE Z U c)
section
variable{Z:Gam}{CL:ClA}{W:XW}{X:Cx}{e:An}{c:E}
theorem Fh(h:SE X CL W e (λU=>evE Z U c))(ht:∀ U r,top U c r=r)(hn:Cb Z c=Ad)(hc:JQ e=Aa):OkE Z CL W X e c:=
 ⟨h,by simp only[ht];exact h.st,λz=>absurd z (by rw[hn];decide),λz=>absurd z (by rw[hc];decide)⟩
theorem MG(h:SC X CL W Aa e (λU=>evE Z U c))(ht:∀ U r,top U c r=r)(hc:JQ e=Aa):OkE Z CL W X e c:=
 ⟨h.se,by simp only[ht];exact h.se.st,λ_=>h,λz=>absurd z (by rw[hc];decide)⟩
theorem pH(hc:X.calm=Aa)(h:Pcs X CL W e (λU=>evE Z U c))(ht:∀ U r,top U c r=r):OkE Z CL W X e c:=
 ⟨(h.sc hc).se,by simp only[ht];exact(h.sc hc).se.st,λ_=>h.sc hc,λ_=>h⟩
end
theorem pO{k:Ki}(h:O9 k=Ab x):∃ T,tyK k=Ab T/\CB x=Ab (.type T):=by
 cases k<;>simp only[O9]at h<;>cases h
 .exact⟨_,rfl,VG⟩
 .exact⟨_,rfl,PyProof.Rows.boot_bool⟩
 .exact⟨_,rfl,PyProof.Rows.boot_str⟩
 .exact⟨_,rfl,VH⟩
 .exact⟨_,rfl,VI⟩
structure Snd (Z:Gam) (CL:ClA) (k:Ae) (n:Ae):Prop where
 e:∀(W:XW)(T:Tc)(X:Cx)(x:An)(c:E),VX Z CL k W T X->Bm n T x c=Aa->OkE Z CL W X x c
 b:∀(W:XW)(T:Tc)(X:Cx)(x:An)(c:E),VX Z CL k W T X->HV n T x c=Aa->SB X CL W x (λU=>(top U c (evE Z U c)).bind BU)
 bs:∀(W:XW)(T:Tc)(X:Cx)(xs:Ac An)(es:Es)(pos:AR),VX Z CL k W T X->chkBs n T xs es=Aa->xs≠[]->SW X CL W (.BoolOp .And xs pos) (λU=>(evN Z U es).bind BU)/\SW X CL W (.BoolOp .Or xs pos) (λU=>(evO Z U es).bind BU)
 es:∀(W:XW)(T:Tc)(X:Cx)(xs:Ac An)(es:Es),VX Z CL k W T X->chkEs n T xs es=Aa->SA X CL W xs (λU=>evA Z U es)/\SAT X CL W xs (λU=>evB Z U es)/\xs.length=es.len/\(∀ pos,xs≠[]->SE X CL W (.BoolOp .And xs pos) (λU=>evN Z U es)/\SE X CL W (.BoolOp .Or xs pos) (λU=>evO Z U es))/\(∀ pos,(BR pos (Ay xs X.env)).any (·.1)=Ad)
 o:∀(W:XW)(T:Tc)(X:Cx)(x:Am An)(c:E),VX Z CL k W T X->chkO n T x c=Aa->SO X CL W x (λU=>(top U c (evE Z U c)).bind (slE c))
 t:∀(T:Tc)(X:Cx)(xs:Ac An)(c:E),VX Z CL k W0 T X->chkT n T xs c=Aa->STs X CL xs (λU=>(top U c (evE Z U c)).bind BU)
 i:∀(W:XW)(T:Tc)(X:Cx)(tu:Ai)(tg x:An)(i:I),VX Z CL k W T X->UA tu tg=Aa->chkI n T tu x i=Aa->SI X CL W tg x (λU=>evI Z U i)
section
variable{Z:Gam}{CL:ClA}{W:XW}{k n:Ae}{T:Tc}{X:Cx}
theorem Zc:Snd Z CL k 0:=⟨λ_ _ _ _ _ _ h=>noF h,λ_ _ _ _ _ _ h=>noF h,λ_ _ _ _ _ _ _ h=>noF h,λ_ _ _ _ _ _ h=>noF h,λ_ _ _ _ _ _ h=>noF h,λ_ _ _ _ _ h=>noF h,λ_ _ _ _ _ _ _ _ _ h=>noF h⟩
theorem P5{x:An}(h:Dz x=Aa)(hx:(BR pos (Ay xs env)).any (·.1)=Ad):(BR pos (Ay (x::xs) env)).any (·.1)=Ad:=by
 rw[Cw h];show (Ad||(BR pos (Ay xs env)).any (·.1))=Ad;rw[hx];rfl
theorem iA(S:Snd Z CL k n)(W:XW)(T:Tc)(X:Cx)(xs:Ac An)(es:Es)(v:VX Z CL k W T X)(h:chkEs (n+1) T xs es=Aa):SA X CL W xs (λU=>evA Z U es)/\SAT X CL W xs (λU=>evB Z U es)/\xs.length=es.len/\(∀ pos,xs≠[]->SE X CL W (.BoolOp .And xs pos) (λU=>evN Z U es)/\SE X CL W (.BoolOp .Or xs pos) (λU=>evO Z U es))/\(∀ pos,(BR pos (Ay xs X.env)).any (·.1)=Ad):=by
 cases xs with
 |nil=>
  cases es with
  |nil=>exact⟨Tt,aW,rfl,λ_ z=>absurd rfl z,λ_=>rfl⟩
  |cons=>exact noF h
 |cons x xs=>
  cases es with
  |nil=>exact noF h
  |cons e es=>
   replace h:(Dz x&&Bm n T x e&&chkEs n T xs es)=Aa:=h;simp only[Al]at h;obtain⟨⟨h0,h1⟩,h2⟩:=h;have he:=S.e W T X x e v h1;obtain⟨a1,a2,a3,a4,a5⟩:=S.es W T X xs es v h2;refine⟨Se he.se a1 (Cw h0),YM he.st a2 (Cw h0),congrArg (· + 1) a3,λpos _=>?_,λpos=>P5 h0 (a5 pos)⟩
   cases xs with
   |nil=>
    cases es with
    |nil=>exact⟨OT he.se,OT he.se⟩
    |cons=>cases a3
   |cons y ys=>
    cases es with
    |nil=>cases a3
    |cons e' es'=>
     obtain⟨b1,b2⟩:=a4 pos (by simp)
     exact⟨Ts he.se b1,mK he.se b2⟩
theorem lK(S:Snd Z CL k n)(W:XW)(T:Tc)(X:Cx)(x:Am An)(c:E)(v:VX Z CL k W T X)(h:chkO (n+1) T x c=Aa):SO X CL W x (λU=>(top U c (evE Z U c)).bind (slE c)):=by
 cases x with
 |none=>
  obtain rfl:=Zz h;exact aK
 |some x=>
  replace h:(!(MY c)&&Bm n T x c)=Aa:=h;rw[Al]at h;have q:=aJ (S.e W T X x c v h.2).st;have e:slE c=λd=>(DR d).bind λi=>.ok (Ab i):=by
   funext d
   cases c<;>first|rfl|exact absurd (show Ad=Aa from h.1) Az
  rw[e];exact q
theorem lI(S:Snd Z CL k n)(T:Tc)(X:Cx)(xs:Ac An)(c:E)(v:VX Z CL k W0 T X)(h:chkT (n+1) T xs c=Aa):STs X CL xs (λU=>(top U c (evE Z U c)).bind BU):=by
 cases xs with
 |nil=>
  replace h:=cO h;obtain⟨b,rfl,h⟩:=h;subst h;exact bX
 |cons x xs=>
  replace h:(xs.isEmpty&&HV n T x c)=Aa:=h;rw[Al]at h;obtain rfl:=HP h.1;exact bW (S.b W0 T X x c v h.2)
theorem lL(S:Snd Z CL k n)(W:XW)(T:Tc)(X:Cx)(tu:Ai)(tg x:An)(i:I)(v:VX Z CL k W T X)(ht':UA tu tg=Aa)(h:chkI (n+1) T tu x i=Aa):SI X CL W tg x (λU=>evI Z U i):=by
 have ht:tu=Aa->oG tg=Aa:=λz=>by
  subst z;cases tg<;>first|rfl|cases ht'
 cases i with
 |e a=>
  exact qI (S.e W T X x a v h).se
 |rng a=>
  replace h:=JJ h;obtain⟨g,pp,l,qq,rfl,h⟩:=h;replace h:=F0 h;obtain⟨y,rfl,h⟩:=h;simp only[Al,A7]at h;obtain⟨⟨⟨rfl,h1⟩,h2⟩,h3⟩:=h;obtain⟨g1,g2,_,_⟩:=ID v h1;exact gB (S.e W T X _ a v h3).st g1 g2 (Cw h2)
 |rng2 a b=>
  replace h:=JJ h;obtain⟨g,pp,l,qq,rfl,h⟩:=h;replace h:=JH h;obtain⟨y,z,rfl,h⟩:=h;simp only[Al,A7]at h;obtain⟨⟨⟨⟨⟨rfl,h1⟩,h2⟩,h3⟩,h4⟩,h5⟩:=h;obtain⟨g1,g2,_,_⟩:=ID v h1;exact aN (S.e W T X _ a v h4).st (S.e W T X _ b v h5).st g1 g2 (by rw[Cw h2,Cw h3];rfl) (by rw[Cw h3];rfl)
 |rng3 a b c=>
  replace h:=JJ h;obtain⟨g,pp,l,qq,rfl,h⟩:=h;replace h:=ZO h;obtain⟨y,z,w,rfl,h⟩:=h;simp only[Al,A7]at h;obtain⟨⟨⟨⟨⟨⟨⟨rfl,h1⟩,h2⟩,h3⟩,h4⟩,h5⟩,h6⟩,h7⟩:=h;obtain⟨g1,g2,_,_⟩:=ID v h1;exact aM (S.e W T X _ a v h5).st (S.e W T X _ b v h6).st (S.e W T X _ c v h7).st g1 g2 (by rw[Cw h2,Cw h3,Cw h4];rfl) (by rw[Cw h3,Cw h4];rfl) (by rw[Cw h4];rfl)
 |zip a b=>
  replace h:=JJ h;obtain⟨g,pp,l,qq,rfl,h⟩:=h;replace h:=JH h;obtain⟨y,z,rfl,h⟩:=h;simp only[Al,A7]at h;obtain⟨⟨⟨⟨⟨⟨h0,rfl⟩,h1⟩,h2⟩,h3⟩,h4⟩,h5⟩:=h;obtain⟨g1,g2,_,_⟩:=ID v h1;have hg:=ht h0;cases tg with
  |Tuple es m tpos=>exact nN (S.e W T X _ a v h4).se (S.e W T X _ b v h5).se g1 g2 (by rw[Cw h2,Cw h3];rfl) (by rw[Cw h3];rfl)
  |_=>cases hg
 |zip3 a b c=>exact absurd (show Ad=Aa from h) Az
 |enm a=>exact absurd (show Ad=Aa from h) Az
theorem Kh{c:Prop}[EC c]{b:Ai}:(if c then R.ok (D.bl b) else .bad)=.bad\/∃ b',(if c then R.ok (D.bl b) else .bad)=.ok (.bl b'):=by
 by_cases h:c
 .rw[Aq h];exact .inr ⟨_,rfl⟩
 .rw[Ar h];exact .inl rfl
theorem RL(op:Do)(d d':D):BK op d d'=.bad\/∃ b,BK op d d'=.ok (.bl b):=by
 cases op with
 |Eq=>exact Kh
 |NotEq=>exact Kh
 |In=>
  cases d' with
  |lst ys=>exact Kh
  |tup ys=>exact Kh
  |dic kvs=>
   show (match Jq d with|some k=>R.ok (D.bl (kvs.any λp=>p.1==k))|none=>.bad)=.bad\/∃ b,(match Jq d with|some k=>R.ok (D.bl (kvs.any λp=>p.1==k))|none=>.bad)=.ok (.bl b)
   cases Jq d with
   |some k=>exact .inr ⟨_,rfl⟩
   |none=>exact .inl rfl
  |_=>exact .inl rfl
 |NotIn=>
  cases d' with
  |lst ys=>exact Kh
  |tup ys=>exact Kh
  |str j=>cases d<;>first|exact .inr ⟨_,rfl⟩|exact .inl rfl
  |_=>exact .inl rfl
 |Is=>
  cases d' with
  |non=>cases d<;>first|exact .inr ⟨_,rfl⟩|exact .inl rfl
  |_=>cases d<;>first|exact .inl rfl|exact .inr ⟨_,rfl⟩
 |IsNot=>
  cases d' with
  |non=>cases d<;>first|exact .inr ⟨_,rfl⟩|exact .inl rfl
  |_=>cases d<;>first|exact .inl rfl|exact .inr ⟨_,rfl⟩
 |_=>
  cases d with
  |int i=>cases d'<;>first|exact .inr ⟨_,rfl⟩|exact .inl rfl
  |_=>exact .inl rfl
theorem Sk(op:Do)(d d':D):(BK op d d').bind BU=.bad\/(BK op d d').bind BU=(BK op d d').bind DX:=by
 rcases RL op d d' with h|⟨b,h⟩
 .rw[h];exact .inl rfl
 .rw[h];exact .inr rfl
theorem kS(e e':E)(es:Es):Rf (λU=>(evN Z U (.cons e (.cons e' es))).bind BU) (λU=>((top U e (evE Z U e)).bind BU).bind λc=>if c=Aa then (evN Z U (.cons e' es)).bind BU else .ok Ad):=λU=>by
 have e0:evN Z U (.cons e (.cons e' es))=(evE Z U e).bind λx=>(DX x).bind λc=>if c=Aa then evN Z U (.cons e' es) else .ok (.bl Ad):=rfl
 dsimp only;rw[e0];rcases OK Z e U with z|z<;>dsimp only at z
 .rw[z];exact .inl rfl
 .rw[<-z];cases evE Z U e with
  |bad=>exact .inl rfl
  |exn x=>exact .inr rfl
  |ok d=>
   cases d with
   |bl b=>cases b<;>exact .inr rfl
   |_=>exact .inl rfl
theorem kR(e e':E)(es:Es):Rf (λU=>(evO Z U (.cons e (.cons e' es))).bind BU) (λU=>((top U e (evE Z U e)).bind BU).bind λc=>if c=Aa then .ok Aa else (evO Z U (.cons e' es)).bind BU):=λU=>by
 have e0:evO Z U (.cons e (.cons e' es))=(evE Z U e).bind λx=>(DX x).bind λc=>if c=Aa then .ok (.bl Aa) else evO Z U (.cons e' es):=rfl
 dsimp only;rw[e0];rcases OK Z e U with z|z<;>dsimp only at z
 .rw[z];exact .inl rfl
 .rw[<-z];cases evE Z U e with
  |bad=>exact .inl rfl
  |exn x=>exact .inr rfl
  |ok d=>
   cases d with
   |bl b=>cases b<;>exact .inr rfl
   |_=>exact .inl rfl
theorem Rf.tru(e:E):Rf (λU=>(evE Z U e).bind BU) (λU=>(top U e (evE Z U e)).bind BU):=λU=>by
 rcases OK Z e U with z|z<;>dsimp only at z ⊢
 .rw[z];exact .inl rfl
 .rw[<-z];exact .inr rfl
theorem iB(S:Snd Z CL k n)(W:XW)(T:Tc)(X:Cx)(xs:Ac An)(es:Es)(pos:AR)(v:VX Z CL k W T X)(h:chkBs (n+1) T xs es=Aa)(hne:xs≠[]):SW X CL W (.BoolOp .And xs pos) (λU=>(evN Z U es).bind BU)/\SW X CL W (.BoolOp .Or xs pos) (λU=>(evO Z U es).bind BU):=by
 cases xs with
 |nil=>exact absurd rfl hne
 |cons x xs=>
  cases es with
  |nil=>exact noF h
  |cons e es=>
   replace h:(HV n T x e&&chkBs n T xs es)=Aa:=h;simp only[Al]at h;obtain⟨h1,h2⟩:=h;have he:=S.b W T X x e v h1;cases xs with
   |nil=>
    cases es with
    |nil=>exact⟨SW.ref (bV he) (Rf.tru e),SW.ref (gX he) (Rf.tru e)⟩
    |cons=>
     cases n with
     |zero=>exact absurd (show Ad=Aa from h2) Az
     |succ n=>exact absurd (show Ad=Aa from h2) Az
   |cons y ys=>
    cases es with
    |nil=>
     cases n with
     |zero=>exact absurd (show Ad=Aa from h2) Az
     |succ n=>exact absurd (show Ad=Aa from h2) Az
    |cons e' es'=>
     obtain⟨b1,b2⟩:=S.bs W T X (y::ys) (.cons e' es') pos v h2 (by simp)
     exact⟨SW.ref (hU he b1) (kS e e' es'),SW.ref (lH he b2) (kR e e' es')⟩
theorem bN(S:Snd Z CL k n){x:An}{ops:Ac Do}{b:BI}(v:VX Z CL k W T X)(h:Pw T (Bm n) x ops ys b as=Aa):SB X CL W (.Compare x ops ys pos) (λU=>(top U (.bi b as) (evE Z U (.bi b as))).bind BU):=by
 exact absurd (show Ad=Aa from h) Az
theorem lN(S:Snd Z CL k n)(W:XW)(T:Tc)(X:Cx)(x:An)(c:E)(v:VX Z CL k W T X)(h:HV (n+1) T x c=Aa):SB X CL W x (λU=>(top U c (evE Z U c)).bind BU):=by
 have plain:∀ e,Md e=Aa->Bm n T e c=Aa->SB X CL W e (λU=>(top U c (evE Z U c)).bind BU):=λe h1 h2=>fJ (S.e W T X e c v h2).st (bS h1)
 replace h:((JW x λo x=>decide (o=.Not)&&(Nj c λa=>HV n T x a))||(Jo x λo xs _=>(decide (o=.And)&&(MV c λes=>chkBs n T xs es && !xs.isEmpty))||(decide (o=.Or)&&(Ni c λes=>chkBs n T xs es && !xs.isEmpty)))||(LJ x λx os ys=>(M7 c λop a b=>EV os λop'=>EV ys λy=>decide (op'=op) && !behindInMarks op y&&Bm n T x a&&Bm n T y b)||(M8 c λop1 op2 a b c=>HU os λo1 o2=>HU ys λy z=>decide (o1=op1)&&decide (o2=op2) && !lastMarks [op1,op2] [y,z]&&Bm n T x a&&Bm n T y b&&Bm n T z c)||(M9 c λb as=>Pw T (Bm n) x os ys b as))||Md x&&Bm n T x c)=Aa:=h
 replace h:=(orT h).imp_left λz=>(orT z).imp_left orT
 rcases h with ((h|h)|h)|h
 .replace h:=Mz h;obtain⟨o,y,p,rfl,h⟩:=h;replace h:=Cm h;obtain⟨h0,h⟩:=h;obtain rfl:=AW h0;replace h:=eB h;obtain⟨a,rfl,h⟩:=h
  .skip
   refine SB.ref (fK (S.b W T X _ a v h)) λU=>?_
   show ((top U a (evE Z U a)).bind λx=>(DX x).bind λb=>.ok (.bl (!b))).bind BU=.bad\/((top U a (evE Z U a)).bind λx=>(DX x).bind λb=>.ok (.bl (!b))).bind BU=_
   cases top U a (evE Z U a) with
   |bad=>exact .inl rfl
   |exn x=>exact .inr rfl
   |ok d=>cases d<;>first|exact .inr rfl|exact .inl rfl
 .replace h:=Ls h;obtain⟨o,ys,p,rfl,h⟩:=h;replace h:=orT h;rcases h with h|h
  .replace h:=Cm h;obtain⟨h0,h⟩:=h;obtain rfl:=AW h0;replace h:=Zq h;obtain⟨es,rfl,h⟩:=h;simp only[Al,BA,D5]at h;exact(S.bs W T X _ _ _ v h.1 h.2).1.sb
  .replace h:=Cm h;obtain⟨h0,h⟩:=h;obtain rfl:=AW h0;replace h:=eA h;obtain⟨es,rfl,h⟩:=h;simp only[Al,BA,D5]at h;exact(S.bs W T X _ _ _ v h.1 h.2).2.sb
 .replace h:=Rl h;obtain⟨w,os,ys,p,rfl,h⟩:=h;replace h:=(orT h).imp_left orT;rcases h with (h|h)|h
  .replace h:=ZT h;obtain⟨op,a,b,rfl,h⟩:=h;replace h:=F0 h;obtain⟨op',rfl,h⟩:=h;replace h:=F0 h;obtain⟨y,rfl,h⟩:=h
   .simp only[Al,BA,AQ]at h;obtain⟨⟨⟨rfl,h1⟩,h2⟩,h3⟩:=h;refine SB.ref (fL (Mx v.room.units _) (S.e W T X _ a v h2).st (S.e W T X _ b v h3).st h1) λU=>?_
    show ((top U a (evE Z U a)).bind λx=>(top U b (evE Z U b)).bind λy=>BK op' x y).bind BU=.bad\/((top U a (evE Z U a)).bind λx=>(top U b (evE Z U b)).bind λy=>BK op' x y).bind BU=_
    cases top U a (evE Z U a) with
    |bad=>exact .inl rfl
    |exn x=>exact .inr rfl
    |ok d=>
     cases top U b (evE Z U b) with
     |bad=>exact .inl rfl
     |exn x=>exact .inr rfl
     |ok d'=>
      dsimp only[R.bind];exact Sk _ d d'
  .replace h:=ZU h;obtain⟨op1,op2,a,b,c,rfl,h⟩:=h;replace h:=JH h;obtain⟨o1,o2,rfl,h⟩:=h;replace h:=JH h;obtain⟨y,z,rfl,h⟩:=h
   .simp only[Al,BA,AQ]at h;obtain⟨⟨⟨⟨⟨rfl,rfl⟩,h1⟩,h2⟩,h3⟩,h4⟩:=h;refine SB.ref (YL v.room.units (S.e W T X _ a v h2).st (S.e W T X _ b v h3).st (S.e W T X _ c v h4).st h1) λU=>?_
    show ((top U a (evE Z U a)).bind λx=>(top U b (evE Z U b)).bind λy=>(BK o1 x y).bind λz=>(DX z).bind λk=>if k=Aa then (top U c (evE Z U c)).bind λu=>BK o2 y u else .ok (.bl Ad)).bind BU=.bad\/((top U a (evE Z U a)).bind λx=>(top U b (evE Z U b)).bind λy=>(BK o1 x y).bind λz=>(DX z).bind λk=>if k=Aa then (top U c (evE Z U c)).bind λu=>BK o2 y u else .ok (.bl Ad)).bind BU=_
    cases top U a (evE Z U a) with
    |bad=>exact .inl rfl
    |exn x=>exact .inr rfl
    |ok d=>
     cases top U b (evE Z U b) with
     |bad=>exact .inl rfl
     |exn x=>exact .inr rfl
     |ok d'=>
      dsimp only[R.bind];cases BK o1 d d' with
      |bad=>exact .inl rfl
      |exn x=>exact .inr rfl
      |ok d3=>
       cases d3 with
       |bl k=>
        cases k with
        |false=>exact .inr rfl
        |true=>
         dsimp only[R.bind,DX];rw[Aq rfl,Aq rfl];cases top U c (evE Z U c) with
         |bad=>exact .inl rfl
         |exn x=>exact .inr rfl
         |ok d4=>exact Sk _ d' d4
       |_=>exact .inl rfl
  .replace h:=ZV h;obtain⟨b,as,rfl,h⟩:=h;exact bN S v h
 .exact plain _ (Cm h).1 (Cm h).2
end
section
variable{Z:Gam}{CL:ClA}{W:XW}{k n:Ae}{T:Tc}{X:Cx}
theorem pP{b:BI}{x:An}(v:VX Z CL k W T X)(hb:Pa b=Ab g)(hg:isB T g=Aa)(hs:SAT X CL W (x::xs) (λU=>evB Z U as))(h0:Dz x=Aa)(hpl:∀ pos,(BR pos (Ay xs X.env)).any (·.1)=Ad):OkE Z CL W X (.Call (.Name g p) (x::xs) [] pos) (.bi b as):=by
 obtain⟨g1,g2,g3,g4⟩:=ID v hg;cases b<;>simp only[Pa]at hb<;>cases hb
 .exact Fh (Tr kO g1 g2 PySem.boot_len hs g3 g4 (Cw h0) hpl) (λ_ _=>rfl) rfl rfl
 .exact Fh (Tq kP g1 g2 VG hs g3 g4 (Cw h0) hpl) (λ_ _=>rfl) rfl rfl
 .exact MG (fW eX g1 g2 VH hs g3 g4 (Cw h0) hpl) (λ_ _=>rfl) rfl
 .exact Fh (Tq Zp g1 g2 VI hs g3 g4 (Cw h0) hpl) (λ_ _=>rfl) rfl rfl
 .exact Fh (Tr (kQ v.calm) g1 g2 PyProof.Rows.boot_all hs g3 g4 (Cw h0) hpl) (λ_ _=>rfl) rfl rfl
 .exact MG (fX Zk g1 g2 PyProof.Rows.boot_sorted hs g3 g4 (Cw h0) hpl) (λ_ _=>rfl) rfl
theorem LG{l:Ac (Ah×Ae)}(h:inX l g c=Aa):(g,c)∈l:=by
 unfold inX at h;simp only[FV,Al,A7]at h;obtain⟨p,hp,rfl,rfl⟩:=h;exact hp
theorem Kl{x:An}{es:Es}(h:chkEs n T (x::xs) es=Aa):Dz x=Aa/\∃ e es',es=.cons e es'/\∃ m,n=m+1/\chkEs m T xs es'=Aa:=by
 cases n with
 |zero=>exact noF h
 |succ m=>
  cases es with
  |nil=>exact noF h
  |cons e es=>
   replace h:(Dz x&&Bm m T x e&&chkEs m T xs es)=Aa:=h;simp only[Al]at h;exact⟨h.1.1,e,es,rfl,m,rfl,h.2⟩
theorem Lk:∀(m:Ae)(xs:Ac An)(es:Es),chkEs m T xs es=Aa->∀ pos,(BR pos (Ay xs X.env)).any (·.1)=Ad:=by
 intro m
 induction m with
 |zero=>intro xs es h;exact noF h
 |succ m ih=>
  intro xs es h pos;cases xs with
  |nil=>rfl
  |cons x xs=>
   obtain⟨h0,e,es',rfl,m',e1,h1⟩:=Kl h;cases e1;exact P5 h0 (ih xs es' h1 pos)
theorem cZ(S:Snd Z CL k n){x:An}{b:BI}(v:VX Z CL k W T X)(h:(match Nq as with|some (s,a)=>KO x λf l ks cp=>ks.isEmpty&&(KQ f λo m ap=>m==("join" : Ah)&&ap.endLine==cp.line&&(HR o λc=>decide (c=.str s)&&decide (b=.sjoin)&&(EV l λy=>Dz y&&Bm n T y a)))|none=>Ad)=Aa):OkE Z CL W X x (.bi b as):=by
 cases q1:Nq as with
 |none=>rw[q1]at h;cases h
 |some t=>
  obtain⟨s,a⟩:=t;rw[q1]at h;obtain⟨e,te⟩:=eK q1;subst e;replace h:=N4 h;obtain⟨f,l,ks,cp,rfl,h⟩:=h;replace h:=Cm h;obtain⟨h0,h⟩:=h;obtain rfl:=HP h0;replace h:=N5 h;obtain⟨o,m,ap,rfl,h⟩:=h;replace h:=Cm h;obtain⟨h1,h⟩:=h;replace h1:=Cm h1;obtain⟨h1,h2⟩:=h1;obtain rfl:=eq_of_beq h1;replace h:=JI h;obtain⟨c,u,p,rfl,h⟩:=h;replace h:=Cm h;obtain⟨h3,h⟩:=h;replace h3:=Cm h3;obtain⟨h3,h4⟩:=h3;obtain rfl:=AW h3;obtain rfl:=AW h4;replace h:=F0 h;obtain⟨y,rfl,h⟩:=h;replace h:=Cm h;obtain⟨h5,h6⟩:=h;refine Fh (SE.congr (aS (S.e W T X _ a v h6).se rfl (by rw[Cw h5];rfl) h2 (by rw[Cw h5];rfl)) λU=>?_) (λ_ _=>rfl) rfl rfl
  simp only[S9,evB,R.bind_assoc,R.bind_ok,bL,eQ,te]
theorem fN(S:Snd Z CL k n){x:An}{b:BI}(v:VX Z CL k W T X)(h:(match PY as with|some a=>(match UG x with|some y=>decide (b=.rvs)&&Bm n T y a|none=>Ad)|none=>Ad)=Aa):OkE Z CL W X x (.bi b as):=by
 simp[PY]at h
theorem gS(S:Snd Z CL k n){x:An}{b:BI}(v:VX Z CL k W T X)(h:(match Pj as with|some (a,c)=>(match UN x with|some (y,z,_)=>decide (b=.tlt) && !behindInMarks .Lt z&&Bm n T y a&&Bm n T z c|none=>Ad)|none=>Ad)=Aa):OkE Z CL W X x (.bi b as):=by
 simp[Pj]at h
theorem kC{x:An}{b:BI}(v:VX Z CL k W T X)(h:UK T x b as=Aa):OkE Z CL W X x (.bi b as):=by
 exact absurd h Az
theorem hV(S:Snd Z CL k n){x:An}{b:BI}(v:VX Z CL k W T X)(h:(match Pk as with|some (a,k)=>(match UC x with|some (y,j)=>decide (b=.stp)&&decide (j=k)&&decide (0<=k)&&Bm n T y a|none=>Ad)|none=>Ad)=Aa):OkE Z CL W X x (.bi b as):=by
 simp[Pk]at h
theorem iX(S:Snd Z CL k n){x:An}{b:BI}(v:VX Z CL k W T X)(h:(match Po as with|some (a,c)=>(match Ux x with|some (g,h,y,z)=>decide (b=.list)&&g==("list" : Ah)&&h==("range" : Ah)&&isB T g&&isB T h&&Dz y&&Dz z&&Bm n T y a&&Bm n T z c|none=>Ad)|none=>Ad)=Aa):OkE Z CL W X x (.bi b as):=by
 simp[Po]at h
theorem cX(S:Snd Z CL k n){x:An}{b:BI}(v:VX Z CL k W T X)(h:(match Pl as with|some a=>(match Uw x with|some (g,h,y)=>decide (b=.lset)&&g==("len" : Ah)&&h==("set" : Ah)&&isB T g&&isB T h&&Dz y&&Bm n T y a|none=>Ad)|none=>Ad)=Aa):OkE Z CL W X x (.bi b as):=by
 simp[Pl]at h
theorem lM(S:Snd Z CL k n)(W:XW)(T:Tc)(X:Cx)(x:An)(c:E)(v:VX Z CL k W T X)(h:Bm (n+1) T x c=Aa):OkE Z CL W X x c:=by
 cases c with
 |non=>
  replace h:=JI h;obtain⟨c,u,p,rfl,h⟩:=h;obtain rfl:=AW h;exact Fh gE (λ_ _=>rfl) rfl rfl
 |bl b=>
  replace h:=JI h;obtain⟨c,u,p,rfl,h⟩:=h;obtain rfl:=AW h;exact Fh TM (λ_ _=>rfl) rfl rfl
 |int i=>
  replace h:=JI h;obtain⟨c,u,p,rfl,h⟩:=h;obtain rfl:=AW h;exact Fh gK (λ_ _=>rfl) rfl rfl
 |str i=>
  replace h:=JI h;obtain⟨c,u,p,rfl,h⟩:=h;obtain rfl:=AW h;exact Fh OS (λ_ _=>rfl) rfl rfl
 |var i=>
  replace h:=Gr h;obtain⟨y,p,rfl,h⟩:=h;exact⟨gD (KA v h),Ky (KA v h),λz=>(nomatch z),λz=>(nomatch z)⟩
 |glob g=>exact absurd (show Ad=Aa from h) Az
 |bin op a b=>
  replace h:=Rn h;obtain⟨y,op',z,p,rfl,h⟩:=h;simp only[Al,AQ]at h;obtain⟨⟨rfl,h1⟩,h2⟩:=h;have ha:=(S.e W T X _ a v h1).st;have hb:=(S.e W T X _ b v h2).st;refine⟨OU (Oy _) ha hb,(OU (Oy _) ha hb).st,λz=>?_,λz=>nomatch z⟩
  cases op'<;>first|exact fY ha hb|cases z
 |un op a=>
  replace h:=Mz h;obtain⟨o,y,p,rfl,h⟩:=h;replace h:=Cm h;obtain⟨h0,h⟩:=h;obtain rfl:=AW h0;simp only[Al,AQ]at h;obtain⟨rfl,h1⟩:=h;exact Fh (gF (S.e W T X _ a v h1).st) (λ_ _=>rfl) rfl rfl
 |no a=>
  replace h:=Mz h;obtain⟨o,y,p,rfl,h⟩:=h;replace h:=Cm h;obtain⟨h0,h⟩:=h;obtain rfl:=AW h0;exact Fh (Tp (S.e W T X _ a v h).st) (λ_ _=>rfl) rfl rfl
 |and es=>
  replace h:=Ls h;obtain⟨o,ys,p,rfl,h⟩:=h;replace h:=Cm h;obtain⟨h0,h⟩:=h;obtain rfl:=AW h0;simp only[Al,BA,D5]at h;exact Fh ((S.es W T X _ es v h.1).2.2.2.1 _ h.2).1 (λ_ _=>rfl) rfl rfl
 |or es=>
  replace h:=Ls h;obtain⟨o,ys,p,rfl,h⟩:=h;replace h:=Cm h;obtain⟨h0,h⟩:=h;obtain rfl:=AW h0;simp only[Al,BA,D5]at h;exact Fh ((S.es W T X _ es v h.1).2.2.2.1 _ h.2).2 (λ_ _=>rfl) rfl rfl
 |cmp op a b=>
  replace h:=Rl h;obtain⟨y,os,ys,p,rfl,h⟩:=h;replace h:=F0 h;obtain⟨op',rfl,h⟩:=h;replace h:=F0 h;obtain⟨z,rfl,h⟩:=h;simp only[Al,BA,AQ]at h;obtain⟨⟨⟨rfl,h1⟩,h2⟩,h3⟩:=h;exact Fh (gM (Mx v.room.units _) (S.e W T X _ a v h2).st (S.e W T X _ b v h3).st h1) (λ_ _=>rfl) rfl rfl
 |cmp2 op1 op2 a b c=>exact absurd (show Ad=Aa from h) Az
 |ite c a b=>exact absurd (show Ad=Aa from h) Az
 |call f as=>
  replace h:=Me h;obtain⟨g,pp,y,ys,qq,rfl,h⟩:=h;simp only[Al,FV,A7,AQ]at h;obtain⟨⟨⟨⟨⟨p,hp,⟨rfl,rfl⟩,hl⟩,h900⟩,h1⟩,h2⟩,h3⟩:=h;obtain⟨fa,fd,ps,m1,m2,m3,m4,m5,_⟩:=v.fn p hp;have hlt:p.2.2<1000:=by omega
  rw[Hl hlt]at m4 m5;have m5:=m5 hlt;obtain⟨n2,n3,n4⟩:=HL h2;obtain⟨a1,a2,a3,a4,a5⟩:=S.es W T X _ as v h3;obtain⟨s0,e,es',rfl,m,rfl,s1⟩:=Kl h3;have q:SC X CL W (Z.fr p.2.1) (.Call (.Name p.1 pp) (y::ys) [] qq) (λU=>evE Z U (.call p.2.1 (.cons e es'))):=aV (sh:=λU=>HY U (.cons e es')) m5 v.room (by unfold glB at h1;show X.env.scope.names.lookup p.1=_;rw[v.sc];exact eq_of_beq h1) m1 m2 m3 v.px a1 a2 (λU z=>MD Z U _ z) (λU ds z=>by rw[Mr Z U _ _ z,<-a3,hl];rfl) n2 (Cw s0) (Lk m ys es' s1)
  exact⟨q.se,q.se.st,λz=>by
   have z':Z.fr p.2.1=Aa:=z;rw[z']at q;exact q,λz=>nomatch z⟩
 |bi b as=>
  unfold Bm at h;dsimp only at h;simp only[CY]at h;rcases h with ((((((h|h)|h)|h)|h)|h)|h)|h
  .replace h:=Me h;obtain⟨g,pp,y,ys,qq,rfl,h⟩:=h;simp only[Al,A7]at h;obtain⟨⟨h1,h2⟩,h3⟩:=h;obtain⟨s0,e,es',rfl,m,rfl,s1⟩:=Kl h3;exact pP v h1 h2 (S.es W T X _ _ v h3).2.1 s0 (Lk m _ es' s1)
  .exact kC v h
  .exact iX S v h
  .exact hV S v h
  .exact cX S v h
  .exact gS S v h
  .exact cZ S v h
  .exact fN S v h
 |isi a ks=>
  replace h:=F0 h;obtain⟨k',rfl,h⟩:=h;replace h:=JJ h;obtain⟨g,pp,l,qq,rfl,h⟩:=h;replace h:=JH h;obtain⟨y,t,rfl,h⟩:=h;replace h:=Gr h;obtain⟨t,pt,rfl,h⟩:=h;simp only[Al,A7]at h;obtain⟨⟨⟨⟨⟨rfl,h1⟩,h2⟩,h3⟩,h4⟩,h5⟩:=h;obtain⟨g1,g2,_,_⟩:=ID v h1;obtain⟨b1,b2,b3,b4⟩:=ID v h3;obtain⟨ty,t1,t2⟩:=pO h2;exact Fh (gI t1 g1 g2 b1 b2 t2 b3 b4 (S.e W T X _ a v h5).st (Cw h4)) (λ_ _=>rfl) rfl rfl
 |idx a i=>
  replace h:=Rh h;obtain⟨y,z,p,rfl,h⟩:=h;simp only[Al]at h;obtain⟨⟨h1,h2⟩,h3⟩:=h;exact Fh (gL (Zd h1) (S.e W T X _ a v h2).st (S.e W T X _ i v h3).st) (λ_ _=>rfl) rfl rfl
 |sl a lo hi=>
  replace h:=Rh h;obtain⟨y,s,p,rfl,h⟩:=h;replace h:=ZP h;obtain⟨l,u,st,p',rfl,h⟩:=h;replace h:=Cm h;obtain⟨h0,h⟩:=h;obtain rfl:=VE.mp h0;simp only[Al]at h;obtain⟨⟨h1,h2⟩,h3⟩:=h;refine MG (SC.congr (lP (S.e W T X _ a v h1).st (S.o W T X _ lo v h2) (S.o W T X _ hi v h3)) λU=>?_) (λ_ _=>rfl) rfl
  show ((top U a (evE Z U a)).bind λx=>(top U lo (evE Z U lo)).bind λl=>(slE lo l).bind λl'=>(top U hi (evE Z U hi)).bind λh=>(slE hi h).bind λh'=>slD x l' h')=_
  simp only[R.bind_assoc]
 |tup es=>
  replace h:=Mi h;obtain⟨ys,cc,p,rfl,h⟩:=h;simp only[Al,AQ]at h;have q:=S.es W T X _ es v h.1;exact Fh (To q.1 λU ds z=>by rw[JL Z U _ _ z,<-q.2.2.1];omega) (λ_ _=>rfl) rfl rfl
 |lst es=>
  replace h:=N2 h;obtain⟨ys,p,rfl,h⟩:=h;simp only[Al,AQ]at h;have q:=S.es W T X _ es v h.1;exact MG (OQ q.1 λU ds z=>by rw[JL Z U _ _ z,<-q.2.2.1];omega) (λ_ _=>rfl) rfl
 |comp elt t it c=>
  replace h:=cM (e:=x) (F:=_) (by unfold Bm at h;exact h)
  obtain⟨y,tg,it',ifs,scope,p,rfl,h⟩:=h;replace h:=Gr h;obtain⟨w,pw,rfl,h⟩:=h;simp only[Al]at h;obtain⟨⟨⟨⟨⟨h1,h2⟩,h3⟩,h4⟩,h5⟩,h6⟩:=h;refine pH v.calm ⟨_,_,_,_,_,_,_,_,_,_,_,_,_,rfl,(Th v h3).1,S.i W T X Ad _ _ it v rfl h1,cE t,λcl C s H fp=>bO (v.blk h3) (λz=>A7.mpr z) h4,λcl C s H fp=>S.t _ _ _ c (v.blk h3) h5,λcl C s H fp=>(S.e W0 _ _ _ elt (v.blk h3) h6).se,OR h2,λU=>rfl⟩ (λ_ _=>rfl)
 |compT elt ts it c=>exact absurd (show Ad=Aa from h) Az
 |tupI it=>exact absurd (show Ad=Aa from h) Az
 |dnew=>exact noF h
 |fld o f=>exact noF h
theorem snd:∀ n,Snd Z CL k n
 |0=>Zc
 |n+1=>⟨lM (snd n),lN (snd n),iB (snd n),iA (snd n),lK (snd n),lI (snd n),lL (snd n)⟩
end
section
variable{Z:Gam}{CL:ClA}{W:XW}{k n:Ae}{T:Tc}{X:Cx}
theorem bQ{t:Ae}(v:VX Z CL k W T X)(hf:∀ x,X.fn x=Aa)(h:tgC T [t] [x]=Aa):PG X (.Name x pos) (GZ t):=by
 unfold tgC at h;simp only[Al,A7]at h;exact Mv (by rw[v.N];exact v.nd) (by rw[v.N];exact h.1.1) (by rw[v.sc];exact Ku h.1.2) (.inl (hf x))
theorem bR(v:VX Z CL k W T X)(hf:∀ x,X.fn x=Aa):∀(ys:Ac An)(ts:Ac Ae)(zs:Ac Ah),Ht ys=Ab zs->tgC T ts zs=Aa->PGs X ys (ts.foldr (λt u=>LM (GZ t) u) LW)/\ts.length=ys.length:=by
 intro ys
 induction ys with
 |nil=>
  intro ts zs e h;cases e;cases ts with
  |nil=>exact⟨dM,rfl⟩
  |cons t ts=>cases h
 |cons y r ih=>
  intro ts zs e h;obtain⟨x,p,ws,rfl,e2,rfl⟩:=PZ e;cases ts with
  |nil=>cases h
  |cons t ts=>
   have h':(T.N[t]? == Ab x&&IP T x&&tgC T ts ws)=Aa:=h;simp only[Al,A7]at h';obtain⟨h1,h2⟩:=ih ts ws e2 h'.2;exact⟨ZJ (Mv (by rw[v.N];exact v.nd) (by rw[v.N];exact h'.1.1) (by rw[v.sc];exact Ku h'.1.2) (.inl (hf x))) h1 (by rw[Qz];rfl),congrArg (· + 1) h2⟩
theorem bP(v:VX Z CL k W T X)(hf:∀ x,X.fn x=Aa)(hn:(Ht ys).isSome=Aa)(h:tgC T ts (tgN ys)=Aa):PG X (.Tuple ys kk pos) (PJ X.K ts.length (ts.foldr (λt u=>LM (GZ t) u) LW)):=by
 cases e:Ht ys with
 |none=>rw[e]at hn;cases hn
 |some zs=>
  have e2:tgN ys=zs:=by unfold tgN;rw[e];rfl
  rw[e2]at h;obtain⟨h1,h2⟩:=bR v hf ys ts zs e h;obtain⟨h3,h4,_⟩:=Xx (env:=X.env) ys zs e;exact jS v.calm h1 (by rw[h3,h2]) h4
theorem XV(ts:Ac Ae):∀ d U x,Fi ts d U≠.exn x:=λd U x h=>by
 unfold Fi at h;cases d with
 |tup xs=>
  dsimp only at h;cases e:GY ts xs U with
  |some r=>rw[e]at h;cases h
  |none=>rw[e]at h;cases h
 |_=>cases h
theorem Y_6{elt:An}{gs:Ac IT}{l:Ae}:∃ b,Dh (.ListComp elt gs scope pos) (Ab (.Name x pos')) l env=pure b/\(b=Aa->env.scope.names.lookup x=Ab .local):=by
 refine⟨_,rfl,λh=>?_⟩
 simp only[Al,A7]at h;exact h.1.1.2
theorem OW{v0:An}{i:Ae}{e:E}(v:VX Z CL k W T X)(hf:∀ x,X.fn x=Aa)(hi:T.N[i]?=Ab x)(hl:IP T x=Aa)(o:OkE Z CL W X v0 e)(hfr:fr=Aa->Cb Z e=Aa):SAs X CL W fr i (.Assign [.Name x p] v0 pos) (λU=>evE Z U e):=by
 have hN:X.N.Nodup:=by rw[v.N];exact v.nd
 have hi':X.N[i]?=Ab x:=by rw[v.N];exact hi
 have hx:Loc X.env.scope x:=by rw[v.sc];exact Ku hl
 have sc:SC X CL W fr v0 (λU=>evE Z U e):=by
  cases fr with
  |false=>exact o.se.sc
  |true=>exact o.nw (hfr rfl)
 cases hc:JQ v0 with
 |true=>exact SC.sas hN hi' hx sc (Kw hc) (.inl (hf x))
 |false=>
  obtain⟨tg,iter,elt,ifs,scope,pos2,N',ts,fi,fc,fe,as,g,rfl,B,h2,hGG,hg,ht,he,hs,ef⟩:=o.cp hc;obtain⟨b,hb,hb'⟩:=Y_6 (elt:=elt) (gs:=[⟨tg,iter,ifs,0⟩]) (scope:=scope) (pos:=pos2) (pos':=p) (x:=x) (l:=pos.line) (env:=X.env);cases b with
  |false=>exact SC.sas hN hi' hx sc hb (.inl (hf x))
  |true=>
   have q:=YN (pos2:=pos) v.calm B h2 hGG hg ht he hs hN hi' (hb' rfl) hb;have q':SAs X CL W Aa i (.Assign [.Name x p] (.ListComp elt [⟨tg,iter,ifs,0⟩] scope pos2) pos) (λU=>evE Z U e):=by
    have:(λU=>evE Z U e)=_:=funext ef
    rw[this];exact q
   cases fr with
   |true=>exact q'
   | false=>exact λA=>PS.weak (q' A) λD Y H ⟨hA,U,gd,z⟩=>⟨hA,U,gd,by
     dsimp only at z ⊢;cases e0:evE Z U e with
     |ok d=>
      rw[e0]at z;exact λv' H' s' r'=>z v' H' s' ⟨r'.1,λ_=>r'.2 rfl⟩
     |exn y=>rw[e0]at z;exact z
     | bad=>rw[e0]at z;exact z⟩
theorem Qx(U:Rho)(e:E)(h:∀ i,e≠.var i):evS Z U (.ret e)=O.of U (evE Z U e) λd=>.ret d (Cb Z e):=by
 have k:∀ b:Ai,b=Ad->top U e (evE Z U e)=evE Z U e->(O.of U (top U e (evE Z U e)) λd=>.ret d (Cb Z e||b))=O.of U (evE Z U e) λd=>.ret d (Cb Z e):=λb hb ht=>by
  rw[hb,ht];simp only[Ey]
 rw[eO];cases e with
 |var i=>exact absurd rfl (h i)
 |_=>exact k _ rfl rfl
structure DefX (X:Cx):Prop where
 fn:∀ x,X.fn x=Aa
 ex:X.ex=[]
 st:X.stack=X.env::X.outer
 fm:X.env.frame=Ab X.env.locals
structure SndS (Z:Gam) (CL:ClA) (k:Ae) (n:Ae):Prop where
 s:∀(W:XW)(T:Tc)(X:Cx)(x:AZ)(c:S),VX Z CL k W T X->DefX X->LU n T x c=Aa->SS X CL W x (λU=>evS Z U c)
 ss:∀(W:XW)(T:Tc)(X:Cx)(x:Ac AZ)(c:Ss),VX Z CL k W T X->DefX X->chkSs n T x c=Aa->SSs X CL W x (λU=>evSs Z U c)
theorem dE(x y:D)(e:Ex):Hv x y≠.exn e:=by
 intro z;cases x with
 |lst xs=>cases y<;>first|exact Kk z|cases z
 |tup xs=>cases y<;>first|exact Kk z|cases z
 |str x=>
  cases y with
  |int i=>
   have z':(if BD x.length=Aa then CH (IL x) i else .bad)=.exn e:=z
   split at z'
   .exact Kk z'
   .cases z'
  |_=>cases z
 |dic kvs=>
  have z':(match (Jq y).bind (O1 kvs) with|some d=>R.ok d|none=>.bad)=.exn e:=z
  cases h:(Jq y).bind (O1 kvs) with
  |none=>rw[h]at z';cases z'
  |some k=>rw[h]at z';cases z'
 |_=>cases z
theorem RF{i:Ae}{y:Ex}:Eb U i≠.exn y:=λz'=>by
 unfold Eb at z';split at z'<;>cases z'
theorem Mf(Z:Gam)(U:Rho)(e:E)(h:Nm e=Aa)(y:Ex):top U e (evE Z U e)≠.exn y:=by
 cases e with
 |var i=>
  intro z;have z':Eb U i=.exn y:=z;unfold Eb at z';split at z'<;>cases z'
 |idx a b=>
  cases a with
  |var i=>
   cases b with
   |int j=>
    intro z;have z':(Eb U i).bind (λx=>Hv x (.int j))=.exn y:=z
    cases e1:Eb U i with
    |bad=>rw[e1]at z';cases z'
    |exn w=>exact RF e1
    |ok d=>rw[e1]at z';exact dE _ _ _ z'
   |_=>exact noF h
  |_=>exact noF h
 |bin op a b=>
  have h:(UE op&&PH a b)=Aa:=h;rw[Al]at h;obtain⟨h0,h⟩:=h;cases op with
  |Sub=>
   cases a with
   |var i=>
    cases b with
    |int j=>
     intro z;have z':(Eb U i).bind (λx=>BX .Sub x (.int j))=.exn y:=z
     cases e1:Eb U i with
     |bad=>rw[e1]at z';cases z'
     |exn w=>exact RF e1
     |ok d=>rw[e1]at z';cases d<;>cases z'
    |_=>exact noF h
   |_=>exact noF h
  |_=>exact absurd (show Ad=Aa from h0) Az
 |int i=>intro z;cases z
 |bl i=>intro z;cases z
 |str i=>intro z;cases z
 |non=>intro z;cases z
 |_=>cases h
theorem N0(Z:Gam)(U:Rho):∀(es:Es),Ji es=Aa->∀ y,evB Z U es≠.exn y
 |.nil,_,y=>λz=>by cases z
 |.cons e es,h,y=>λz=>by
  unfold Ji at h;rw[Al]at h;rw[Oe]at z;cases e1:top U e (evE Z U e) with
  |bad=>rw[e1]at z;cases z
  |exn w=>exact Mf Z U e h.1 w e1
  |ok d=>
   rw[e1,R.bind_ok]at z;cases e2:evB Z U es with
   |bad=>rw[e2]at z;cases z
   |exn w=>exact N0 Z U es h.2 w e2
   |ok ds=>rw[e2]at z;cases z
theorem VX.pw(v:VX Z CL k W T X)(own:Fe (model X.prog X.w) X.A X.env Xw):VX Z CL k W0 T (Cx.pw X pI Xw):=⟨v.sc,v.kd,v.N,v.nd,v.calm,v.room,v.bl,v.fn,own,TB,UF,v.xt,v.gl⟩
theorem QK(o:O):(o.seq λU'=>O.next U')=o:=by cases o<;>rfl
theorem STB.congr{st:Ac AZ}{f g:Rho->O}(h:STB X CL st f)(e:∀ U,g U=f U):STB X CL st g:=by
 have:g=f:=funext e;rw[this];exact h
theorem Tk(Sn:Snd Z CL k n)(v:VX Z CL k W T X)(hf:DefX X){st:AZ}{s:S}(h:MN n T st s=Aa):STB X CL [st] (λU=>evSs Z U (.cons s .nil))/\∀ U y U',evSs Z U (.cons s .nil)=.exn y U'->U'=U:=by
 have seq:∀ U,evSs Z U (.cons s .nil)=evS Z U s:=λU=>QK _
 have ofn:∀{r:R D}{f:D->Rho}{U U':Rho}{y:Ex},(O.of U r λd=>O.next (f d))=.exn y U'->U'=U:=λ{r f U U' y} z=>by
  cases r with
  |ok d=>cases z
  |exn w=>cases z;rfl
  |bad=>cases z
 have call:∀{e:An}{f:Ae}{as:Es},Bm n T e (.call f as)=Aa->Ji as=Aa->∃ g pp y ys qq,e=.Call (.Name g pp) (y::ys) [] qq/\∃ p∈T.fns,g=p.1/\f=p.2.1/\p.2.2=ys.length+1/\ys.length<900/\glB T g=Aa/\G2 g=Aa/\∃ m,n=m+1/\chkEs m T (y::ys) as=Aa:=λ{e f as} h _=>by
  cases n with
  |zero=>exact noF h
  |succ m=>
   replace h:=Me h;obtain⟨g,pp,y,ys,qq,rfl,h⟩:=h;simp only[Al,FV,A7,AQ]at h;obtain⟨⟨⟨⟨⟨p,hp,⟨e1,e2⟩,hl⟩,h900⟩,h1⟩,h2⟩,h3⟩:=h;exact⟨g,pp,y,ys,qq,rfl,p,hp,e1.symm,e2.symm,hl,h900,h1,h2,m,rfl,h3⟩
 cases s with
 |expr e0=>
  replace h:(KP e0 λf as=>KN st λv=>Bm n T v (.call f as)&&Ji as)=Aa:=h
  replace h:=Rm h;obtain⟨f,as,rfl,h⟩:=h;replace h:=N3 h;obtain⟨v0,pos,rfl,h⟩:=h;rw[Al]at h;obtain⟨g,pp,y,ys,qq,rfl,p,hp,rfl,rfl,hl,h900,h1,h2,m,rfl,h3⟩:=call h.1 h.2;obtain⟨fa,fd,ps,m1,m2,m3,m4,m5,_⟩:=v.fn p hp;have hlt:p.2.2<1000:=by omega
  rw[Hl hlt]at m4 m5;have m5:=m5 hlt;obtain⟨n2,n3,n4⟩:=HL h2;obtain⟨s0,e,es',rfl,m',rfl,s1⟩:=Kl h3;have hlen:ys.length+1=(Es.cons e es').len:=(snd (Z:=Z) (CL:=CL) (k:=k) (m'+1)).es W T X _ _ v h3 |>.2.2.1;refine⟨STB.congr (Za (X:=X) (fs:=λU=>evA Z U (.cons e es')) (sh:=λU=>HY U (.cons e es')) hf.ex m5 v.room (by unfold glB at h1;show X.env.scope.names.lookup p.1=_;rw[v.sc];exact eq_of_beq h1) m1 m2 m3 (λU z=>MD Z U _ z) (λU ds z=>by rw[Mr Z U _ _ z,<-hlen,hl]) (λU=>N0 Z U _ h.2) n2 (Cw s0) (Lk m' ys es' s1) (λpI Xw own=>by
   obtain⟨a1,a2,_⟩:=(snd (Z:=Z) (CL:=CL) (k:=k) (m'+1)).es W0 T (Cx.pw X pI Xw) _ _ (v.pw own) h3;exact⟨a1,a2⟩) (Kw rfl)) λU=>seq U,λU y U' z=>?_⟩
  rw[seq]at z;exact ofn (f:=λ_=>U) z
 |asg i b0 e0=>
  replace h:(!b0&&(KP e0 λf as=>LK st λy v=>T.N[i]? == Ab y&&IP T y&&Bm n T v (.call f as)&&Ji as))=Aa:=h
  replace h:=Cm h;obtain⟨hb,h⟩:=h;cases b0 with
  |true=>exact absurd (show Ad=Aa from hb) Az
  |false=>
  replace h:=Rm h;obtain⟨f,as,rfl,h⟩:=h;replace h:=N6 h;obtain⟨y0,p0,v0,pos,rfl,h⟩:=h;simp only[Al,A7]at h;obtain⟨⟨⟨i1,i2⟩,hc⟩,hsim⟩:=h;obtain⟨g,pp,y,ys,qq,rfl,p,hp,rfl,rfl,hl,h900,h1,h2,m,rfl,h3⟩:=call hc hsim;obtain⟨fa,fd,ps,m1,m2,m3,m4,m5,_⟩:=v.fn p hp;have hlt:p.2.2<1000:=by omega
  rw[Hl hlt]at m4 m5;have m5:=m5 hlt;obtain⟨n2,n3,n4⟩:=HL h2;obtain⟨s0,e,es',rfl,m',rfl,s1⟩:=Kl h3;have hlen:ys.length+1=(Es.cons e es').len:=(snd (Z:=Z) (CL:=CL) (k:=k) (m'+1)).es W T X _ _ v h3 |>.2.2.1;refine⟨STB.congr (bZ (X:=X) (fs:=λU=>evA Z U (.cons e es')) (sh:=λU=>HY U (.cons e es')) (i:=i) hf.ex m5 v.room (by unfold glB at h1;show X.env.scope.names.lookup p.1=_;rw[v.sc];exact eq_of_beq h1) m1 m2 m3 (λU z=>MD Z U _ z) (λU ds z=>by rw[Mr Z U _ _ z,<-hlen,hl]) (λU=>N0 Z U _ hsim) n2 (Cw s0) (Lk m' ys es' s1) (λpI Xw own=>by
   obtain⟨a1,a2,_⟩:=(snd (Z:=Z) (CL:=CL) (k:=k) (m'+1)).es W0 T (Cx.pw X pI Xw) _ _ (v.pw own) h3;exact⟨a1,a2⟩) (by rw[v.N];exact v.nd) (by rw[v.N];exact i1) (by rw[v.sc];exact Ku i2) (.inl (hf.fn _)) (Kw rfl)) λU=>seq U,λU y U' z=>?_⟩
  rw[seq]at z;exact ofn (f:=λd=>U.set i (Ab (d,Ad))) z
 |_=>exact noF h
theorem eY(op:Do)(x y:D)(e:Ex):BK op x y≠.exn e:=λz=>by
 rcases RL op x y with w|⟨b,w⟩<;>(rw[w]at z;cases z)
theorem bI(x:D)(e:Ex):BU x≠.exn e:=by
 unfold BU;split<;>first|(intro z;cases z;done)|(split<;>intro z<;>cases z)
theorem RC(Z:Gam)(U:Rho)(c:E)(h:PF c=Aa)(y:Ex):(top U c (evE Z U c)).bind BU≠.exn y:=by
 have key:∀ e,top U c (evE Z U c)≠.exn e:=by
  cases c with
  |var i=>exact Mf Z U (.var i) rfl
  |cmp op a b=>
   unfold PF at h;rw[Al]at h;intro e z;have z':((top U a (evE Z U a)).bind λx=>(top U b (evE Z U b)).bind λy=>BK op x y)=.exn e:=by
    have e0:evE Z U (.cmp op a b)=((top U a (evE Z U a)).bind λx=>(top U b (evE Z U b)).bind λy=>BK op x y):=eR Z U op a b
    rw[<-e0];exact z
   cases e1:top U a (evE Z U a) with
   |bad=>rw[e1]at z';cases z'
   |exn w=>exact Mf Z U a h.1 w e1
   |ok d=>
    rw[e1,R.bind_ok]at z';cases e2:top U b (evE Z U b) with
    |bad=>rw[e2]at z';cases z'
    |exn w=>exact Mf Z U b h.2 w e2
    |ok d2=>rw[e2,R.bind_ok]at z';exact eY _ _ _ _ z'
  |_=>cases h
 intro z;cases e1:top U c (evE Z U c) with
 |bad=>rw[e1]at z;cases z
 |exn w=>exact key w e1
 |ok d=>rw[e1,R.bind_ok]at z;exact bI _ _ z
theorem lQ(Sn:Snd Z CL k n)(v:VX Z CL k W T X)(hf:DefX X):∀(m:Ae){st:AZ}{s:S},MT m n T st s=Aa->STB X CL [st] (λU=>evSs Z U (.cons s .nil))/\∀ U y U',evSs Z U (.cons s .nil)=.exn y U'->U'=U:=by
 intro m
 induction m with
 |zero=>intro st s h;exact Tk Sn v hf h
 |succ m ih=>
  intro st s h;replace h:=orT (a:=MN n T st s) (b:=Tg (MT m n T) n T st s) h;rcases h with h|h
  .exact Tk Sn v hf h
  .cases s with
   |ife c a b=>
    replace h:=Ri h;obtain⟨a,rfl,h⟩:=h;replace h:=Ri h;obtain⟨b,rfl,h⟩:=h;replace h:=RZ h;obtain⟨t,xs,ys,pos,rfl,h⟩:=h;replace h:=F0 h;obtain⟨xs,rfl,h⟩:=h;replace h:=F0 h;obtain⟨ys,rfl,h⟩:=h;simp only[Al]at h;obtain⟨⟨⟨h1,h2⟩,h3⟩,h4⟩:=h;obtain⟨a1,a2⟩:=ih h3;obtain⟨b1,b2⟩:=ih h4;have ev:∀ U,evSs Z U (.cons (.ife c (.cons a .nil) (.cons b .nil)) .nil)=O.of U ((top U c (evE Z U c)).bind BU) λk=>if k=Aa then evSs Z U (.cons a .nil) else evSs Z U (.cons b .nil):=λU=>QK _
    refine⟨STB.congr (bY (λpI Xw own=>(Sn.b W0 T (Cx.pw X pI Xw) _ _ (v.pw own) h1)) (λU y=>RC Z U c h2 y) a1 b1) λU=>ev U,λU y U' z=>?_⟩
    rw[ev]at z;cases e1:(top U c (evE Z U c)).bind BU with
    |bad=>rw[e1]at z;cases z
    |exn w=>exact absurd e1 (RC Z U c h2 w)
    |ok k=>
     rw[e1,O.of_ok]at z;cases k with
     |true=>exact a2 U y U' z
     |false=>exact b2 U y U' z
   |_=>exact noF h
theorem Lu{i:Ae}{e:Ak}(v:VX Z CL k W T X)(h:isV T x i=Aa):PE (Cx.hot X e) (.Name x pos) (IK i):=by
 unfold isV at h;simp only[Al,A7]at h;obtain⟨h2,h3,_⟩:=HL h.2;exact Tx (by show X.N[i]?=_;rw[v.N];exact h.1.1) (by show Vis X.env.scope x;rw[v.sc];exact RD h.1.2) h2 h3
theorem S0{x:Ae}{t:An}{c:E}:∀{n:Ae},HS n T x t c=Aa->∀ U r,top U c r=r:=λ{n} h=>by
 cases n with
 |zero=>exact noF h
 |succ n=>
  cases c with
  |var i=>exact noF h
  |_=>exact λ_ _=>rfl
theorem Zo(v:VX Z CL k W T X)(e:Ak):∀(ts:Ac An)(ks:Ac Ki),Pr T ts ks=Aa->∃ cs:Ac (Ae×Ak),ks=cs.map (λq=>Ki.cls q.1)/\cs.length=ts.length/\PA (Cx.hot X e) ts (UB (cs.map λq:Ae×Ak=>q.2))/\∀ q∈cs,LB X.K CL Z.up q.1 q.2:=by
 intro ts
 induction ts with
 |nil=>
  intro ks h;obtain rfl:=HP h;exact⟨[],rfl,rfl,F1,λq hq=>nomatch hq⟩
 |cons t ts ih=>
  intro ks h;replace h:=IA h;obtain⟨kk,ks,rfl,h⟩:=h;replace h:=Gr h;obtain⟨t,p,rfl,h⟩:=h;replace h:=Cm h;obtain⟨h,h4⟩:=h;cases kk with
  |cls c=>
   replace h:(inX T.exs t c&&glB T t&&G2 t)=Aa:=h;simp only[Al]at h;obtain⟨⟨h1,h2⟩,h3⟩:=h;obtain⟨cs,e1,e2,e3,e4⟩:=ih ks h4;obtain⟨C,m1,m3,_⟩:=v.xt.ex _ (LG h1);obtain⟨n2,_,_⟩:=HL h3;refine⟨(c,C)::cs,by rw[e1];rfl,by rw[AS,AS,e2],?_,λq hq=>?_⟩
   .exact El (RQ (X:=Cx.hot X e) (v:=.ref C) (by unfold glB at h2;show X.env.scope.names.lookup t=_;rw[v.sc];exact eq_of_beq h2) m1 rfl n2) e3 rfl
   .rcases AI.mp hq with rfl|hq
    .exact m3
    .exact e4 q hq
  |_=>exact noF h
theorem M0{e:Ak}{f:An->E->Ai}(ih:∀ t c,f t c=Aa->SE (Cx.hot X e) CL W0 t (λU=>evE Z U c)):∀(xs:Ac An)(es:Es),LN f xs es=Aa->SA (Cx.hot X e) CL W0 xs (λU=>evA Z U es)/\xs.length=es.len
 |[],.nil,_=>⟨Tt,rfl⟩
 |[],.cons _ _,h=>nomatch (show Ad=Aa from h)
 |_::_,.nil,h=>nomatch (show Ad=Aa from h)
 |x::xs,.cons c es,h=>by
  have h:(Dz x&&f x c&&LN f xs es)=Aa:=h;simp only[Al]at h;obtain⟨⟨h1,h2⟩,h3⟩:=h;obtain⟨q,l⟩:=M0 ih xs es h3;exact⟨Se (ih x c h2) q (Cw h1),by rw[AS,l];rfl⟩
theorem TV(v:VX Z CL k W T X)(e:Ak)(x:Ae):∀(n:Ae)(t:An)(c:E),HS n T x t c=Aa->SE (Cx.hot X e) CL W0 t (λU=>evE Z U c):=by
 intro n
 induction n with
 |zero=>intro t c h;exact noF h
 |succ n ih=>
  intro t c h;cases c with
  |bl b=>
   replace h:=JI h;obtain⟨k,u,p,rfl,h⟩:=h;obtain rfl:=AW h;exact TM
  |no a=>
   replace h:=Mz h;obtain⟨o,y,p,rfl,h⟩:=h;replace h:=Cm h;obtain⟨h0,h⟩:=h;obtain rfl:=AW h0;have q:=(ih _ _ h).st;refine SE.congr (Tp q) λU=>?_
   show ((top U a (evE Z U a)).bind λx=>(DX x).bind λb=>R.ok (D.bl (!b)))=_
   rw[S0 h]
  |and es=>
   cases es with
   |nil=>exact noF h
   |cons a as=>
    cases as with
    |nil=>
     replace h:=Ls h;obtain⟨o,l,p,rfl,h⟩:=h;replace h:=Cm h;obtain⟨h0,h⟩:=h;obtain rfl:=AW h0;replace h:=F0 h;obtain⟨y,rfl,h⟩:=h;exact SE.congr (OT (ih _ _ h)) λU=>rfl
    |cons a' as=>
     replace h:=Ls h;obtain⟨o,l,p,rfl,h⟩:=h;replace h:=Cm h;obtain⟨h0,h⟩:=h;obtain rfl:=AW h0;replace h:=IA h;obtain⟨y,l,rfl,h⟩:=h;replace h:=IA h;obtain⟨z,zs,rfl,h⟩:=h;exact SE.congr (Ts (ih _ _ (Cm h).1) (ih _ _ (Cm h).2)) λU=>rfl
  |isi a ks=>
   replace h:=Op h;obtain⟨i,rfl,h⟩:=h;replace h:=cN h;obtain⟨g,pp,w,pq,u,pr,rfl,h⟩:=h;simp only[Al,A7]at h;obtain⟨⟨⟨⟨rfl,rfl⟩,h3⟩,h4⟩,h⟩:=h;obtain⟨g1,g2,_,_⟩:=ID v h3;replace h:=IA h;obtain⟨kk,ks,rfl,h⟩:=h;cases kk with
   |verr=>
    replace h:=Cm h;obtain⟨h0,h⟩:=h;obtain rfl:=HP h0;replace h:=Gr h;obtain⟨t,pt,rfl,h⟩:=h;simp only[Al,A7]at h;obtain⟨h5,h6⟩:=h;obtain⟨b1,b2,_,_⟩:=ID v h6;rw[h5]at b1 b2 ⊢;exact gG (X:=Cx.hot X e) v.xt.xc g1 g2 b1 b2 (Ky (Lu v h4)) rfl
   |cls c=>
    cases ks with
    |nil=>
     replace h:=Gr h;obtain⟨t,pt,rfl,h⟩:=h;simp only[Al]at h;obtain⟨⟨h5,h6⟩,h7⟩:=h;obtain⟨C,m1,m3,_⟩:=v.xt.ex _ (LG h5);obtain⟨n2,_,_⟩:=HL h7;exact gJ (X:=Cx.hot X e) v.xt.xc g1 g2 (by unfold glB at h6;show X.env.scope.names.lookup _=_;rw[v.sc];exact eq_of_beq h6) m1 m3 n2 (Ky (Lu v h4)) rfl
    |cons k2 ks=>
     replace h:=Mi h;obtain⟨ts,z1,z2,rfl,h⟩:=h;replace h:=Cm h;obtain⟨h5,h6⟩:=h;obtain⟨cs,e1,e2,e3,e4⟩:=Zo v e _ _ h5;have hne:cs≠[]:=by rintro rfl;cases e1
     rw[e1];exact gH (X:=Cx.hot X e) (W:=W0) (up:=Z.up) v.xt.xc g1 g2 e3 hne (by rw[e2];exact AW h6) e4 (Ky (Lu v h4)) rfl
   |_=>exact noF h
  |call f as=>exact absurd (show Ad=Aa from h) Az
  |str s=>
   replace h:=JI h;obtain⟨k,u,p,rfl,h⟩:=h;obtain rfl:=AW h;exact OS
  |lst es=>
   replace h:=N2 h;obtain⟨xs,p,rfl,h⟩:=h;simp only[Al,AQ]at h;obtain⟨q,ql⟩:=M0 (ih) _ _ h.1;exact(OQ q λU ds z=>by rw[JL Z U _ _ z,<-ql];omega).se
  |tup es=>
   replace h:=Mi h;obtain⟨xs,cc,p,rfl,h⟩:=h;simp only[Al,AQ]at h;obtain⟨q,ql⟩:=M0 (ih) _ _ h.1;exact To q λU ds z=>by rw[JL Z U _ _ z,<-ql];omega
  |bin op a b=>
   replace h:=Cm h;obtain⟨h0,h⟩:=h;obtain rfl:=AW h0;replace h:=Op h;obtain⟨i,rfl,h⟩:=h;replace h:=Rn h;obtain⟨l,o,y,p,rfl,h⟩:=h;replace h:=Cm h;obtain⟨h0,h⟩:=h;obtain rfl:=AW h0;replace h:=Gr h;obtain⟨w,pw,rfl,h⟩:=h;replace h:=Cm h;obtain⟨h1,h2⟩:=h;refine SE.congr (OU (Oy .Add) (Ky (Lu v h1)) (ih _ _ h2).st) λU=>?_
   show ((Eb U i).bind λx=>(top U b (evE Z U b)).bind λy=>BX .Add x y)=_
   rw[S0 h2]
  |fld o f=>
   replace h:=Op h;obtain⟨i,rfl,h⟩:=h;replace h:=N5 h;obtain⟨w,g,p,rfl,h⟩:=h;replace h:=Gr h;obtain⟨w,pw,rfl,h⟩:=h;simp only[Al,A7]at h;obtain⟨⟨⟨rfl,rfl⟩,h3⟩,h4⟩:=h;exact aR (X:=Cx.hot X e) v.xt.xc (λc C z=>v.xt.nf c C z _ h3) (Ky (Lu v h4)) rfl
  |_=>exact noF h
theorem nU(v:VX Z CL k W T X)(hf:DefX X)(e:Ak)(x:Ae):∀(n:Ae)(sts:Ac AZ)(ss:Ss),Ps n T x sts ss=Aa->SSs (Cx.hot X e) CL W0 sts (λU=>evSs Z U ss):=by
 intro n
 induction n with
 |zero=>intro t c h;exact noF h
 |succ n ih=>
  intro sts ss0 h;cases ss0 with
  |nil=>
   obtain rfl:=HP h;exact Sb
  |cons s ss0=>
   replace h:=IA h;obtain⟨st,r,rfl,h⟩:=h;replace h:=Cm h;obtain⟨h,h5⟩:=h;cases s with
   |asg i b e0=>
    replace h:=N6 h;obtain⟨y,py,v0,pos,rfl,h⟩:=h;simp only[Al,A7]at h;obtain⟨⟨⟨⟨h1,h2⟩,h3⟩,h4⟩,h6⟩:=h;cases b with
    |true=>
     cases e0 with
     |lst es=>
      have sc:SC (Cx.hot X e) CL W0 Aa v0 (λU=>evE Z U (.lst es)):=by
       cases n with
       |zero=>exact absurd (show Ad=Aa from h4) Az
       |succ n=>
        replace h4:=N2 h4;obtain⟨l,pl,rfl,h4⟩:=h4;obtain⟨q,ql⟩:=M0 (TV v e x n) _ _ (Cm h4).1;have hle:=AW (Cm h4).2;exact OQ q λU ds z=>by rw[JL Z U _ _ z,<-ql];omega
      have q:=Om (Sc (SC.sas (X:=Cx.hot X e) (pos:=pos) (pos':=py) (by show X.N.Nodup;rw[v.N];exact v.nd) (by show X.N[i]?=_;rw[v.N];exact h1) (by show Loc X.env.scope _;rw[v.sc];exact Ku h2) sc (Kw h3) (.inl (hf.fn _)))) (ih _ _ h5)
      have ef:(λU=>evSs Z U (.cons (.asg i Aa (.lst es)) ss0))=λU=>(O.of U (evE Z U (.lst es)) λd=>setF U i d).seq λU=>evSs Z U ss0:=by
       funext U
       show (evS Z U (.asg i Aa (.lst es))).seq _=_;rw[Zi];rfl
      rw[ef];exact q
     |_=>exact absurd (show Ad=Aa from h6) Az
    |false=>
    exact Om (fS (X:=Cx.hot X e) (by show X.N.Nodup;rw[v.N];exact v.nd) (by show X.N[_]?=_;rw[v.N];exact h1) (by show Loc X.env.scope _;rw[v.sc];exact Ku h2) (TV v e x n _ _ h4) (Kw h3) (.inl (hf.fn _))) (ih _ _ h5)
   |ife c a b=>exact absurd (show Ad=Aa from h) Az
   |ret e0=>exact absurd (show Ad=Aa from h) Az
   |app i e0=>exact absurd (show Ad=Aa from h) Az
   |_=>exact noF h
theorem iI(v:VX Z CL k W T X)(h:hdB T g c=Aa):UR X CL Z.up g c:=by
 unfold hdB at h;simp only[Al]at h;obtain⟨⟨⟨i1,i0⟩,i2⟩,i3⟩:=h;obtain⟨C,m1,m3,m4⟩:=v.xt.ex _ (LG i1);obtain⟨C0,r1,r2⟩:=v.xt.rz _ (LG i0);obtain⟨n2,_,_⟩:=HL i3;refine⟨C,by unfold glB at i2;show X.env.scope.names.lookup g=_;rw[v.sc];exact eq_of_beq i2,m1,n2,?_,λc' D hD=>m4 c' D hD⟩
 have e0:=m1.symm.trans r2;cases e0;exact v.xt.xc _ _ r1
theorem lJ(Z_:SndS Z CL k n)(W:XW)(T:Tc)(X:Cx)(st:AZ)(c:S)(v:VX Z CL k W T X)(hf:DefX X)(h:LU (n+1) T st c=Aa):SS X CL W st (λU=>evS Z U c):=by
  have E:=snd (Z:=Z) (CL:=CL) (k:=k) n;cases c with
  |pass=>exact absurd (show Ad=Aa from h) Az
  |brk=>exact absurd (show Ad=Aa from h) Az
  |cont=>exact absurd (show Ad=Aa from h) Az
  |asg i fresh e=>
    replace h:=N6 h;obtain⟨x,px,v0,pos,rfl,h⟩:=h;simp only[Al,A7]at h;obtain⟨⟨h1,h2⟩,h3⟩:=h;have o:=E.e W T X _ e v h3;cases fresh with
    |false=>exact Tn (OW (fr:=Ad) v hf.fn h1 h2 o (λz=>nomatch z))
    |true=>
      cases hn:Cb Z e with
      |true=>
        refine SS.ref (Sc (OW (fr:=Aa) v hf.fn h1 h2 o (λ_=>hn))) λU=>.inr ?_
        show O.of U (evE Z U e) (λd=>if Aa=Aa then (if Cb Z e=Aa then (match d with
          |.lst xs=>.next (U.set i (Ab (.lst xs,Aa)))
          |.dic xs=>.next (U.set i (Ab (.dic xs,Aa)))
          | _=>.bad) else .bad) else .next (U.set i (Ab (d,Ad))))=_
        rw[hn];rfl
      |false=>
        refine SS.ref (Tn (OW (fr:=Ad) v hf.fn h1 h2 o (λz=>nomatch z))) λU=>?_
        have e0:evS Z U (.asg i Aa e)=O.of U (evE Z U e) (λd=>if Aa=Aa then (if Cb Z e=Aa then (match d with
          |.lst xs=>.next (U.set i (Ab (.lst xs,Aa)))
          |.dic xs=>.next (U.set i (Ab (.dic xs,Aa)))
          | _=>.bad) else .bad) else .next (U.set i (Ab (d,Ad)))):=rfl
        rw[e0,hn];cases evE Z U e with
        |ok d=>exact .inl rfl
        |exn y=>exact .inr rfl
        |bad=>exact .inl rfl
  |asgT ts e=>exact absurd (show Ad=Aa from h) Az
  |expr e=>
    replace h:=N3 h;obtain⟨v0,pos,rfl,h⟩:=h;simp only[Al]at h;exact aH (E.e W T X _ e v h.2).se (Kw h.1)
  |ret e=>
    replace h:=ZQ h;obtain⟨o,pos,rfl,h⟩:=h;cases o with
    |none=>exact noF h
    |some v0=>
    replace h:Bm n T v0 e=Aa:=h;have o:=E.e W T X _ e v h;cases hv:Cb Z e with
    |true=>
      refine SS.ref (aF (o.nw hv)) λU=>.inr ?_
      rw[Qx U e (λi z=>by subst z;cases hv),hv]
    |false=>
      cases e with
      |var i=>
        cases n with
        |zero=>exact noF h
        |succ n=>
          replace h:=Gr h;obtain⟨y,py,rfl,h⟩:=h;exact aD (KA v h)
      |_=>
        refine SS.ref (aE o.se) λU=>.inr ?_
        rw[Qx U _ (by intro i z;cases z),hv]
  |retN=>exact absurd (show Ad=Aa from h) Az
  |ife c a b=>
    replace h:=RZ h;obtain⟨t,xs,ys,pos,rfl,h⟩:=h;simp only[Al]at h;exact lO (E.b W T X _ c v h.1.1) (Z_.ss W T X _ a v hf h.1.2) (Z_.ss W T X _ b v hf h.2)
  |fors t it body=>
    replace h:=Rk h;obtain⟨tg,it',xs,ys,pos,rfl,h⟩:=h;replace h:=Cm h;obtain⟨hn,h⟩:=h;obtain rfl:=HP hn;replace h:=Gr h;obtain⟨y,py,rfl,h⟩:=h;simp only[Al]at h;obtain⟨⟨⟨h1,h2⟩,h3⟩,h4⟩:=h;exact Tl v.own v.calm (cC t) (bQ v hf.fn h1) (E.i W T X Ad _ _ it v rfl h3) (Z_.ss W T X _ body v hf h4) (OR h2) (λ_ _ _ z=>nomatch z)
  |forT ts it body=>
    replace h:=Rk h;obtain⟨tg,it',xs,zs,pos,rfl,h⟩:=h;replace h:=Cm h;obtain⟨hn,h⟩:=h;obtain rfl:=HP hn;replace h:=Mi h;obtain⟨ys,cc,py,rfl,h⟩:=h;simp only[Al]at h;obtain⟨⟨⟨⟨h0,h1⟩,h2⟩,h3⟩,h4⟩:=h;exact Tl v.own v.calm (iJ ts) (bP v hf.fn h0 h1) (E.i W T X Aa _ _ it v rfl h3) (Z_.ss W T X _ body v hf h4) (OR h2) (XV ts)
  |whl c body=>exact absurd (show Ad=Aa from h) Az
  |rais c as=>
    replace h:(!(T.rzs.any λp=>p.2==c)||(M4 st λa b=>b.isNone&&(match a with|some e=>LC e λg x xs=>inX T.rzs g c&&glB T g&&G2 g&&decide (xs.length<=1000)&&chkEs n T (x::xs) as|none=>Ad)))=Aa:=h
    cases hc:T.rzs.any (λp=>p.2==c) with
    |false=>
      have hb:∀ ds,Z.xn c ds=.bad:=v.xt.xb c λp hp z=>by
        have:T.rzs.any (λp=>p.2==c)=Aa:=List.any_eq_true.mpr ⟨p,hp,A7.mpr z⟩
        rw[hc]at this;cases this
      intro Fz B pI s Y H D I ⟨U,x,p⟩;have p':BW X.K CL Fz B W (O.of U (noX (evA Z U as)) λxs=>O.of U (Z.xn c xs) λx=>.exn x U) D:=p
      cases e1:evA Z U as with
      |bad=>rw[e1]at p';exact p'.elim
      |exn y=>rw[e1]at p';exact p'.elim
      |ok ds=>
        rw[e1]at p';have p2:BW X.K CL Fz B W (O.of U (Z.xn c ds) λx=>.exn x U) D:=p'
        rw[hb ds]at p2;exact p2.elim
    |true=>
      rw[hc,IS,Bool.false_or]at h;replace h:=ZR h;obtain⟨ea,eb,pos,rfl,h⟩:=h;replace h:=Cm h;obtain⟨h0,h⟩:=h;obtain rfl:=VE.mp h0;cases ea with
      |none=>exact noF h
      |some e0=>
        replace h:=Me h;obtain⟨g,np,x,xs,cpos,rfl,h⟩:=h;simp only[Al,AQ]at h;obtain⟨⟨⟨⟨h1,h2⟩,h3⟩,h4⟩,h5⟩:=h;obtain⟨C,m1,m2⟩:=v.xt.rz _ (LG h1);obtain⟨n2,_,_⟩:=HL h3;obtain⟨s0,e,es',rfl,m,rfl,s1⟩:=Kl h5;have q:=E.es W T X _ _ v h5;exact YE v.calm hf.ex v.room v.rz (by unfold glB at h2;show X.env.scope.names.lookup g=_;rw[v.sc];exact eq_of_beq h2) m2 n2 m1 q.1 (λds=>v.xt.made c C ds m1) (Cw s0) (Lk m xs es' s1) (λU ds z=>by rw[JL Z U _ _ z,<-q.2.2.1,AS];omega)
  |app i e=>
    replace h:=Rj h;obtain⟨x,px,m,ap,l,cp,pos,rfl,h2,h⟩:=h;replace h:=F0 h;obtain⟨v0,rfl,h⟩:=h;simp only[Al,A7]at h;obtain⟨⟨⟨rfl,h1⟩,h3⟩,h4⟩:=h;exact fU (KA v h1) (E.e W T X _ e v h4).se rfl (by rw[Cw h3];rfl) (by rw[h2];exact EX _) (Cw h3) rfl
  |ext i e=>
    replace h:=Rj h;obtain⟨x,px,m,ap,l,cp,pos,rfl,h2,h⟩:=h;replace h:=F0 h;obtain⟨v0,rfl,h⟩:=h;simp only[Al,A7]at h;rw[CY]at h;obtain⟨⟨⟨rfl,h1⟩,h3⟩,h5⟩:=h;rcases h5 with h5|h5
    · rw[Al]at h5;obtain⟨h5,h4⟩:=h5;by_cases hn:Cb Z e=Aa
      case neg=>
        have fe:(λU=>evS Z U (.ext i e))=λ_=>O.bad:=by
          funext U
          rw[OE,Ar hn]
        show SS X CL W _ (λU=>evS Z U (.ext i e))
        rw[fe];exact λFz B pI s Y H D I ⟨U,x,p⟩=>p.elim
      have fe:(λU=>evS Z U (.ext i e))=λU=>O.of U (Cj U i) λxs=>O.of U (evE Z U e) λd=>O.of U (Jj d) λys=>if BD (xs.length+ys.length)=Aa then .next (U.set i (Ab (.lst (xs++ys),Aa))) else .bad:=by
        funext U
        rw[OE,Aq hn]
      show SS X CL W _ (λU=>evS Z U (.ext i e))
      rw[fe];exact fT (KA v h1) ((E.e W T X _ e v h4).nw hn) rfl (by rw[Cw h3];rfl) (by rw[h2];exact EX _) (Cw h3) rfl
    · cases q:Nd e with
      |none=>rw[q]at h5;cases h5
      |some a=>
        rw[q]at h5;have eq:=ZZ q;subst eq;have fe:(λU=>evS Z U (.ext i (.bi .list (.cons (.bin .Add a (.tup .nil)) .nil))))=λU=>O.of U (Cj U i) λxs=>O.of U (top U a (evE Z U a)) λx=>O.of U ((BX .Add x (.tup [])).bind λy=>biD .list [y]) λd=>O.of U (Jj d) λys=>if BD (xs.length+ys.length)=Aa then .next (U.set i (Ab (.lst (xs++ys),Aa))) else .bad:=funext λU=>by
          rw[OE,Aq (show Cb Z (.bi .list (.cons (.bin .Add a (.tup .nil)) .nil))=Aa from rfl)]
          have e2:evE Z U (.bi .list (.cons (.bin .Add a (.tup .nil)) .nil))=(top U a (evE Z U a)).bind λx=>(BX .Add x (.tup [])).bind λy=>biD .list [y]:=by
            simp only[S9,evB,eS,bM,bK,eP,evA,R.bind_ok,R.bind_assoc]
          rw[e2];cases Cj U i with
          |ok xs=>
            rw[O.of_ok,O.of_ok];cases top U a (evE Z U a)<;>rfl
          |exn z=>rfl
          |bad=>rfl
        show SS X CL W _ (λU=>evS Z U (.ext i (.bi .list (.cons (.bin .Add a (.tup .nil)) .nil))))
        rw[fe];exact aG (KA v h1) (E.e W T X _ a v h5).st rfl (by rw[Cw h3];rfl) (by rw[h2];exact EX _) (Cw h3) rfl
  |rev i=>exact absurd (show Ad=Aa from h) Az
  |clr i=>exact absurd (show Ad=Aa from h) Az
  |put i k e=>exact absurd (show Ad=Aa from h) Az
  |tryx body c x hd=>
    cases body with
    |nil=>exact noF h
    |cons b bs=>
      cases bs with
      |cons=>exact noF h
      |nil=>
        unfold LU at h;dsimp only at h;cases q:Pz st with
        |none=>rw[q]at h;cases h
        |some t=>
          obtain⟨bt,hl,es⟩:=t;rw[q]at h;obtain⟨pos,rfl⟩:=bE q;cases hl with
          |nil=>exact noF h
          |cons h1 hl=>
            cases hl with
            |cons=>exact noF h
            |nil=>
              cases es with
              |cons=>exact noF h
              |nil=>
                dsimp only at h;cases q1:xHd h1 with
                |none=>rw[q1]at h;cases h
                |some t1=>
                  obtain⟨g,m,h0,hs⟩:=t1;obtain⟨p1,hp,rfl⟩:=eD q1;rw[q1]at h;simp only[Al,A7]at h;obtain⟨⟨⟨⟨i1,i4⟩,i5⟩,i6⟩,i7⟩:=h;obtain⟨t1,t2⟩:=lQ E v hf 6 i6;refine SS.ref (fR (up:=Z.up) (c:=c) (i:=x) hf.ex hf.st hf.fm (by rw[v.N];exact v.nd) (by rw[v.N];exact i4) (by rw[v.sc];exact i5) (iI v i1) t1 t2 (λe=>nU v hf e x n _ _ i7)) λU=>.inr ?_
                  rw[ZG];unfold Uj;cases evSs Z U (.cons b .nil)<;>rfl
  |try2 body c x hd c' hd' els=>exact absurd (show Ad=Aa from h) Az
  |swp i k l=>exact absurd (show Ad=Aa from h) Az
  |apop j i e=>exact absurd (show Ad=Aa from h) Az
  |ins i k e=>exact absurd (show Ad=Aa from h) Az
  |dput=>exact noF h
  |dsd=>exact noF h
  |rel=>exact noF h
theorem ZY{c:Ss}(h:No c=Aa)(U:Rho):evSs Z U c=.bad:=by
 cases c with
 |nil=>cases h
 |cons s ss=>
  cases s with
  |expr e=>
   cases e with
   |bi b as=>
    cases as with
    |nil=>
     cases b with
     |len=>rfl
     |_=>exact noF h
    |cons=>cases b<;>exact noF h
   |_=>exact noF h
  |_=>exact noF h
theorem hZ(Z_:SndS Z CL k n)(W:XW)(T:Tc)(X:Cx)(xs:Ac AZ)(c:Ss)(v:VX Z CL k W T X)(hf:DefX X)(h:chkSs (n+1) T xs c=Aa):SSs X CL W xs (λU=>evSs Z U c):=by
 by_cases hb:No c=Aa
 .exact λFz B pI s Y H D I ⟨U,x,p⟩=>by
   dsimp only at p;rw[ZY hb]at p;exact p.elim
 have hb:No c=Ad:=by simpa using hb
 cases c with
 |nil=>
  simp only[chkSs,hb,Ey,List.isEmpty_iff]at h;subst h;exact Sb
 |cons s ss=>
  by_cases hr:∃ i,s=.rel i
  .obtain⟨i,rfl⟩:=hr;simp only[chkSs,hb,Ey]at h;exact cA i (Z_.ss W T X xs ss v hf h)
  .cases xs with
   |nil=>cases s<;>first|(simp[chkSs,hb]at h;done)|exact absurd ⟨_,rfl⟩ hr
   |cons st r=>
    have h':LU n T st s=Aa/\chkSs n T r ss=Aa:=by
     cases s<;>first|(simp only[chkSs,hb,Ey,Al]at h;exact h)|exact absurd ⟨_,rfl⟩ hr
    exact Om (Z_.s W T X st s v hf h'.1) (Z_.ss W T X r ss v hf h'.2)
theorem Pt:∀ n,SndS Z CL k n
 |0=>⟨λ_ _ _ _ _ _ _ h=>noF h,λ_ _ _ _ _ _ _ h=>noF h⟩
 |n+1=>⟨lJ (Pt n),hZ (Pt n)⟩
end
theorem Lj{n:Ae}{ds:Ac D}{i:Ae}{o:Ai}(h:(CF n ds)[i]?=Ab (Ab (d,o))):o=Ad/\ds[i]?=Ab d:=by
 unfold CF at h;by_cases hi:i<ds.length
 .rw[Di (by simpa using hi),Cp]at h
  cases e:ds[i]? with
  |none=>rw[e]at h;cases h
  |some x=>rw[e]at h;cases h;exact⟨rfl,rfl⟩
 .rw[B0 (by simpa using Nat.le_of_not_lt hi),Ve]at h
  split at h<;>cases h
theorem YD{N:Ac Ah}{vs:Ac V}{i:Ae}{v:V}(h:vs[i]?=Ab v):(L2.start N vs)[i]?=Ab (Ab v):=by
 unfold L2.start;have hi:=(A4.mp h).1;rw[Di (by simpa using hi),Cp,h]
 rfl
theorem Y_5{N:Ac Ah}{n:Ae}{vs:Ac V}{ds:Ac D}(hn:N.length=n)(hA:AOk H A)(r:Reps K CL H A vs ds):Sx K CL (λb o=>H b=Ab o) A (CF n ds) (L2.start N vs) H:=by
 have own:∀ a,BL A (CF n ds) (L2.start N vs) a->A a:=λa h=>by
  rcases h with h|⟨j,d,h,_⟩
  .exact h
  .exact absurd (Lj h).1 (by decide)
 have hlen:(CF n ds).length=(L2.start N vs).length:=by
  unfold CF L2.start;simp only[Be,AX,Vi,r.length,hn]
 refine⟨⟨λi d h=>?_,λi d h=>absurd (Lj h).1 (by decide),hlen⟩,λa h=>hA a (own a h),λj d a h _=>absurd (Lj h).1 (by decide),λi j d e a h _ _ _=>absurd (Lj h).1 (by decide),λb o h=>h,hlen⟩
 obtain⟨v,h1,h2⟩:=r.get (Lj h).2;exact⟨v,YD h1,Rep.sub own _ h2⟩
structure FunX (K:Fg) (x qual:Ah) (st:AZ) (f:Ak) (fd:BQ):Prop where
 ex:∃(oc:Aj)(od:Am Ak)(dV kV doc pm:Aj)(an:Am Ak)(cdv ct:Aj)(osl:Ax (Am Aj)),
  fd=DP x qual (JM st) (HM st) (Go st) dV kV doc pm an cdv ct/\K.lookup f=Ab ⟨oc,od,.func fd,osl⟩/\Fs K cdv qual=Aa
 kp:Co K (.ref f)=Aa
theorem Uc{st:AZ}{f:Ak}(F:Fun K x qual st f fd):FunX K x qual st f fd:=by
 obtain⟨oc,od,kV,doc,pm,an,cdv,ct,osl,e,lk,hcd⟩:=F.ex;exact⟨⟨oc,od,.none,kV,doc,pm,an,cdv,ct,osl,e,lk,hcd⟩,F.kp⟩
def Nr(K:Fg)(mg:Ah->Am Aj)(fns:Ac (Ah×Ae×Ae))(bl:Ac Ah)(rzs exs gls:Ac (Ah×Ae))(Pg:Prg)(fuel:Ae)(p:Ah×Ae×Ae):Prop:=∃ f fd ps qual st N,mg p.1=Ab (.ref f)/\FunX K p.1 qual st f fd/\G1 K fd ps []/\ps.length=p.2.2%1000/\IM fuel (Ga 1000 p.2.2) fns bl rzs exs gls ps N st (Pg.defs p.2.1)=Aa
structure Tab (K:Fg) (mg:Ah->Am Aj) (CL:ClA) (fns:Ac (Ah×Ae×Ae)) (bl:Ac Ah) (rzs exs gls:Ac (Ah×Ae)) (Pg:Prg) (fuel:Ae):Prop where
 xt:XT Pg.up Pg.xn CL rzs exs K mg
 bln:∀ x,x∈bl->mg x=Af
 gl:∀ p∈gls,PR K mg CL p.1 (Pg.G p.2)
 fn:∀ p∈fns,Nr K mg fns bl rzs exs gls Pg fuel p
theorem kX(Pg:Prg)(n i:Ae):(gam Pg n).fr i=(Pg.defs i).fr:=by cases n<;>rfl
theorem kW(Pg:Prg)(n:Ae):(gam Pg n).up=Pg.up:=by cases n<;>rfl
theorem nW(Pg:Prg)(n:Ae):(gam Pg n).G=Pg.G:=by cases n<;>rfl
theorem kU(Pg:Prg)(n:Ae):(gam Pg n).xn=Pg.xn:=by cases n<;>rfl
section
variable{P:AM}{w:AY}{K:Fg}{mg:Ah->Am Aj}{base:AD}{CL:ClA}{fns:Ac (Ah×Ae×Ae)}{bl:Ac Ah}{rzs exs gls:Ac (Ah×Ae)}{Pg:Prg}{fuel:Ae}
def Lvl(P:AM)(w:AY)(K:Fg)(mg:Ah->Am Aj)(base:AD)(CL:ClA)(Pg:Prg)(n:Ae)(p:Ah×Ae×Ae):Prop:=∃ f fd ps,mg p.1=Ab (.ref f)/\Co K (.ref f)=Aa/\G1 K fd ps []/\ps.length=p.2.2%1000/\(p.2.2<1000->FnOk P w K mg base (CXR P w) n f fd ps (spD K CL (p.2.2%1000) ((gam Pg n).fr p.2.1) ((gam Pg n).F p.2.1)))/\(1000<=p.2.2->HotOk P w K mg base n f fd ps (spH K CL (p.2.2%1000) ((gam Pg n).fr p.2.1) ((gam Pg n).F p.2.1)))
theorem Te(t:Tab K mg CL fns bl rzs exs gls Pg fuel){n:Ae}(hlv:∀ q∈fns,Lvl P w K mg base CL Pg n q){st:AZ}{f:Ak}{ps N:Ac Ah}{m id:Ae}(h2:FunX K x qual st f fd)(h4:ps.length=m)(h5:IM fuel Ad fns bl rzs exs gls ps N st (Pg.defs id)=Aa):FnOk P w K mg base (CXR P w) (n+1) f fd ps (spD K CL m ((gam Pg (n+1)).fr id) ((gam Pg (n+1)).F id)):=by
  unfold IM at h5;simp only[Al,A7,BA,C8,CY,Ka,ne_eq]at h5;obtain⟨⟨⟨⟨⟨⟨⟨⟨c1,c2⟩,c3⟩,c4⟩,c5⟩,c6⟩,c7⟩,c8⟩,c9⟩:=h5;obtain⟨oc,od,dV,kV,doc,pm,an,cdv,ct,osl,rfl,lk,hcd⟩:=h2.ex;refine Uh (N:=N) lk hcd ⟨c1,c2,c3,L9 c4,c5,c6,c7⟩ (λvs H Q E ⟨ds,A,z,_⟩=>z.trans h4.symm) λA outer s H vs Q E hr ⟨ds,B,hl,hA,hreps,hpost⟩=>?_
  have xt:XT (gam Pg n).up (gam Pg n).xn CL rzs exs K mg:=by rw[kW,kU];exact t.xt
  have gl:∀ p∈gls,PR K mg CL p.1 ((gam Pg n).G p.2):=by rw[nW];exact t.gl
  have key:∀ W:XW,(∀ x cls dx H',W x H'->F5 K CL H' cls dx x->E cls dx H')->BW K CL (λb o=>H b=Ab o) B W (evSs (gam Pg n) (CF (Pg.defs id).n ds) (Pg.defs id).body) {nx:=λ_ H'=>Q .non H',rt:=Q} ->
      ∃ t,PSs (GK (CXR P w) P w K mg base N qual (Go st) f cdv A outer s H E) (HM st) t/\t {nx:=λ_ H'=>Q .non H',rt:=Q} (start N vs) H:=λW hW hp=>by
    have v:VX (gam Pg n) CL n W ⟨Go st,N,fns,bl,rzs,exs,gls⟩ (GK (CXR P w) P w K mg base N qual (Go st) f cdv A outer s H E):=⟨rfl,c1,rfl,L9 c4,rfl,hr,t.bln,hlv,ownR,oZ hW,rzR hW,xt,gl⟩;exact⟨_,(Pt fuel).ss W _ _ _ (Pg.defs id).body v ⟨λ_=>rfl,rfl,rfl,rfl⟩ c9 (λb o=>H b=Ab o) B,_,Y_5 c8 hA hreps,hp⟩
  have no:∀ x cls dx H',W0 x H'->F5 K CL H' cls dx x->E cls dx H':=λ_ _ _ _ z=>z.elim
  have e:(gam Pg (n+1)).F id ds=G4 Pg.xs ((evSs (gam Pg n) (CF (Pg.defs id).n ds) (Pg.defs id).body).ans (Pg.defs id).fr):=rfl;rw[e,kX]at hpost;have cutO:∀ r:R D,(∀ x,r≠.exn x)->G4 Pg.xs r=r:=λr hr=>by
    cases Pg.xs<;>cases r<;>first|rfl|exact absurd rfl (hr _)
  cases eo:evSs (gam Pg n) (CF (Pg.defs id).n ds) (Pg.defs id).body with
  |next U'=>
    refine key W0 no ?_;rw[eo]at hpost ⊢;cases ef:(Pg.defs id).fr with
    |true=>rw[ef]at hpost;rw[cutO _ (by intro x z;cases z)]at hpost;exact hpost.elim
    |false=>
      rw[ef]at hpost;rw[cutO _ (by intro x z;cases z)]at hpost
      exact λY' H' x'=>hpost .non H' (λb o z=>x'.same b o z) ⟨rfl,λz=>nomatch z⟩
  |ret d b=>
    refine key W0 no ?_;rw[eo]at hpost ⊢;intro v H' sm rp fr;have hp2:(match G4 Pg.xs (if ((Pg.defs id).fr&&(!b&&isL d))=Aa then R.bad else R.ok d) with
      |.ok d=>∀ v H',AG H H'->DY K CL (Pg.defs id).fr H B H' v d->Q v H'
      |.exn x=>∀ cls dx H',AG H H'->F5 K CL H' cls dx x->E cls dx H'
      | .bad=>A5):=hpost
    cases ec:((Pg.defs id).fr&&(!b&&isL d)) with
    |true=>rw[ec,Aq rfl,cutO _ (by intro x z;cases z)]at hp2;exact hp2.elim
    |false=>
      rw[ec,Ar (by decide),cutO _ (by intro x z;cases z)]at hp2
      refine hp2 v H' sm ⟨rp,λefr es hd=>?_⟩
      subst hd;have eb:b=Aa:=by
        cases b with
        |true=>rfl
        |false=>rw[efr]at ec;cases ec
      obtain⟨a,xs,h1,h2,h3,h4⟩:=fr eb es rfl;refine⟨a,xs,h1,?_,h3,h4⟩;cases ha:H a with
      |none=>rfl
      |some o=>exact absurd ha (h2 o)
  |brk U'=>rw[eo]at hpost;have hp2:(match G4 Pg.xs (R.bad:R D) with | .ok _=>_ | .exn _=>_ | .bad=>A5):=hpost;rw[cutO _ (by intro x z;cases z)]at hp2;exact hp2.elim
  |cont U'=>rw[eo]at hpost;have hp2:(match G4 Pg.xs (R.bad:R D) with | .ok _=>_ | .exn _=>_ | .bad=>A5):=hpost;rw[cutO _ (by intro x z;cases z)]at hp2;exact hp2.elim
  |bad=>rw[eo]at hpost;have hp2:(match G4 Pg.xs (R.bad:R D) with | .ok _=>_ | .exn _=>_ | .bad=>A5):=hpost;rw[cutO _ (by intro x z;cases z)]at hp2;exact hp2.elim
  |exn x U'=>
    rw[eo]at hpost;have hp2:(match G4 Pg.xs (R.exn x:R D) with
      |.ok d=>∀ v H',AG H H'->DY K CL (Pg.defs id).fr H B H' v d->Q v H'
      |.exn x=>∀ cls dx H',AG H H'->F5 K CL H' cls dx x->E cls dx H'
      | .bad=>A5):=hpost
    cases ex:Pg.xs with
    |false=>rw[ex]at hp2;exact hp2.elim
    |true=>
      rw[ex]at hp2;have hp3:∀ cls dx H',AG H H'->F5 K CL H' cls dx x->E cls dx H':=hp2;refine key (λy H'=>y=x/\AG H H') (λy cls dx H' ⟨e1,sm⟩ xr=>?_) ?_
      · subst e1;exact hp3 cls dx H' sm xr
      · rw[eo];exact λH' sm=>⟨rfl,sm⟩
theorem iG(t:Tab K mg CL fns bl rzs exs gls Pg fuel){n:Ae}(hlv:∀ q∈fns,Lvl P w K mg base CL Pg n q){st:AZ}{f:Ak}{ps N:Ac Ah}{m id:Ae}(h2:FunX K x qual st f fd)(h4:ps.length=m)(h5:IM fuel Aa fns bl rzs exs gls ps N st (Pg.defs id)=Aa):HotOk P w K mg base (n+1) f fd ps (spH K CL m ((gam Pg (n+1)).fr id) ((gam Pg (n+1)).F id)):=by
 exfalso
 unfold IM at h5;simp at h5
theorem OL(t:Tab K mg CL fns bl rzs exs gls Pg fuel):∀ n,∀ p∈fns,Lvl P w K mg base CL Pg n p
 |0,p,hp=>by
  obtain⟨f,fd,ps,qual,st,N,h1,h2,h3,h4,h5⟩:=t.fn p hp;exact⟨f,fd,ps,h1,h2.kp,h3,h4,λ_=>⟨λvs H Q E ⟨ds,A,_,_,_,z⟩=>z.elim,λA outer s H args us vs Q E _ _ _ _ ⟨ds,A,_,_,_,z⟩=>z.elim⟩,λ_=>⟨λvs H Q E ⟨ds,A,_,_,_,z⟩=>z.elim,λA ev outer s H args us vs Q E _ _ _ _ ⟨ds,A,_,_,_,z⟩=>z.elim⟩⟩
 |n+1,p,hp=>by
  obtain⟨f,fd,ps,qual,st,N,h1,h2,h3,h4,h5⟩:=t.fn p hp;refine⟨f,fd,ps,h1,h2.kp,h3,h4,λhlt=>?_,λhge=>?_⟩
  .have eb:Ga 1000 p.2.2=Ad:=by
    cases e:Ga 1000 p.2.2 with
    |false=>rfl
    |true=>exact absurd (Gb e) (by omega)
   rw[eb]at h5;exact Te t (λq hq=>OL t n q hq) h2 h4 h5
  .rw[Nat.ble_eq_true_of_le hge]at h5;exact iG t (λq hq=>OL t n q hq) h2 h4 h5
theorem lG{s s':Ap}{e:Aj}(h:CXR P w [] H s (λ_ _ _=>A5) e s'):A5:=by
 obtain⟨_,_,_,_,_,_,_,_,_,_,_,_,_,_,_,z⟩:=h;exact z
theorem oC(h:∀ ds,xn c ds=.bad\/xn c ds=.ok ⟨c,[]⟩)(e:Ea K C Af=Aa)(ds:Ac D):xn c ds=.bad\/(xn c ds=.ok ⟨c,[]⟩/\Ea K C Af=Aa)\/A5:=(h ds).imp id λz=>.inl ⟨z,e⟩
theorem oA(dc:Hu K C=Aa)(h1:Bf K (.ref C) "triple" = Ab Af)(h2:Bf K (.ref C) "points" = Ab Af)(f:Ah)(h:(f==("triple" : Ah)||f==("points" : Ah))=Aa):Hu K C=Aa/\Bf K (.ref C) f=Ab Af:=by
 rw[CY]at h;rcases h with h|h
 .rw[eq_of_beq h];exact⟨dc,h1⟩
 .rw[eq_of_beq h];exact⟨dc,h2⟩
structure XA (K:Fg) (c:Ah) (x:Ak) (i:Am Aj):Prop where
 n:Bv K Bc c=Ab (Ab (.ref x))
 y:Ea K x i=Aa
 dc:Hu K x=Aa
 ft:Bf K (.ref x) "triple" = Ab Af
 fp:Bf K (.ref x) "points" = Ab Af
 ok:XcOk K x
theorem xcls_l{x:Ak}(e:IV K x [.type "ValueError",.type "Exception",.type "BaseException",.type "object"] "ValueError.__new__" = Aa):Ea K x Af=Aa:=bC e
theorem xa_mk{c:Ah}{x:Ak}{i:Am Aj}(n:Bv K Bc c=Ab (Ab (.ref x)))(e:Ea K x i=Aa)(dc:Hu K x=Aa)(ft:Bf K (.ref x) "triple" = Ab Af)(fp:Bf K (.ref x) "points" = Ab Af)(ga:Bf K (.ref x) "__getattribute__" = Ab (Ab (.builtin "BaseException.__getattribute__")))(gt:Bf K (.ref x) "__getattr__" = Ab Af)(cl:Bf K (.ref x) "__class__" = Ab (Ab (.builtin "object.__class__")))(ob:CJ K x (.type "object")=Ab Aa)(be:BB K (.ref x) (.type "BaseException")=Ab Aa)(sv:BB K (.ref x) (.type "ValueError")=Ab Aa):XA K c x i:=⟨n,e,dc,ft,fp,lZ e ga gt cl ob be sv⟩
structure XE (K:Fg) (c:Ah) (x:Ak):Prop where
 n:Bv K Bc c=Ab (Ab (.ref x))
 cs:CJ K x (.type "object")=Ab Aa
 ty:Ft K (.ref x)=Ab (.type "type")
def SuC(K:Fg)(C:Ak)(l:Ac (Ak×Ai)):Prop:=∀ q∈l,BB K (.ref q.1) (.ref C)=Ab q.2
def KC(K:Fg)(C:Ak):Prop:=∀ x i v,Ea K x i=Aa->BB K (.ref x) (.ref C)=Ab v->CP K (.ref x) (.ref C)=Ab v
theorem XA.kc{c:Ah}{x:Ak}{i:Am Aj}(a:XA K c x i):KC K x:=λ_ _ _ y s=>cY y a.y s
theorem XE.kc{c:Ah}{x:Ak}(a:XE K c x):KC K x:=λ_ _ _ y s=>Zy y a.cs a.ty s
noncomputable def clL:Ac (Ae×Ak)->Ae->Am Ak
 |[],_=>Af
 |p::r,c=>if Nat.beq c p.1=Aa then Ab p.2 else clL r c
theorem Lz:∀{l:Ac (Ae×Ak)},clL l c=Ab C->(c,C)∈l:=by
 intro l
 induction l with
 |nil=>intro q;cases q
 |cons p r ih=>
  intro q;obtain⟨n,x⟩:=p;by_cases e:Nat.beq c n=Aa
  .cases Nat.eq_of_beq_eq_true e;cases (show Ab x=Ab C from (Aq e).symm.trans q)
   exact AN
  .exact AC _ (ih ((Ar e).symm.trans q))
structure XR (K:Fg) (mg:Ah->Am Aj) (xn:Ae->Ac D->R Ex) (p:Ae×Ak):Prop where
 ok:XcOk K p.2
 nf:∀ f:Ah,(f==("triple" : Ah)||f==("points" : Ah))=Aa->Hu K p.2=Aa/\Bf K (.ref p.2) f=Ab Af
 md:∀ ds,xn p.1 ds=.bad\/(xn p.1 ds=.ok ⟨p.1,[]⟩/\Ea K p.2 Af=Aa)\/A5
theorem XA.row{c:Ah}{x:Ak}(a:XA K c x Af)(h:∀ ds,xn k ds=.bad\/xn k ds=.ok ⟨k,[]⟩):XR K mg xn (k,x):=⟨a.ok,oA a.dc a.ft a.fp,oC h a.y⟩
theorem lY{l:Ac (Ae×Ak)}{rzs exs:Ac (Ah×Ae)}(r:∀ p∈l,XR K mg xn p)(rz:∀ p∈rzs,∃ C,clL l p.2=Ab C/\mg p.1=Ab (.ref C))(ex:∀ p∈exs,∃ C,mg p.1=Ab (.ref C)/\KC K C/\SuC K C (l.map λq=>(q.2,(up q.1).contains p.2)))(xb:∀ c,(∀ p∈rzs,p.2≠c)->∀ ds,xn c ds=.bad):XT up xn (clL l) rzs exs K mg:=by
 refine⟨λc C q=>(r _ (Lz q)).ok,rz,λp hp=>?_,λc C ds q=>(r _ (Lz q)).md ds,λc C q=>(r _ (Lz q)).nf,xb⟩
 obtain⟨C,e,kc,su⟩:=ex p hp;have s:∀ c D,clL l c=Ab D->BB K (.ref D) (.ref C)=Ab ((up c).contains p.2):=λc D q=>su _ (List.mem_map_of_mem (f:=λq:Ae×Ak=>(q.2,(up q.1).contains p.2)) (Lz q))
 exact⟨C,e,λc D q=>let ⟨_,y⟩:=(r _ (Lz q)).ok.exc;kc _ _ _ y (s c D q),s⟩
def MX(K:Fg):Sp:=λvs H Q _=>∃(a:Ak)(ns:Ac Ag),vs=[.ref a]/\ns.length<=63/\SqL K H a (ns.map V.int)/\∀ v H',v=V.bl Aa->Q v H'
theorem law_fn{f:Ak}{F:Ac D->R D}(G:FnOk P w K mg base CX k f fd ps (spD K CL 1 Ad F))(h:∀ ns:Ac Ag,F [.lst (ns.map .int)]=.ok (.bl Aa)):FnOk P w K mg base CX k f fd ps (MX K):=G.imp λvs H Q E ⟨a,ns,e,hl,hS,q⟩=>by
 subst e;have rs:∀ l:Ac Ag,Reps K CL H A0 (l.map V.int) (l.map D.int):=λl=>by
  induction l with
  |nil=>trivial
  |cons x l ih=>exact⟨rfl,ih⟩
 refine⟨[.lst (ns.map .int)],A0,rfl,λ_ z=>z.elim,⟨⟨a,_,rfl,.inl (λz=>z),hS,rs ns⟩,trivial⟩,?_⟩
 rw[h ns];exact λv H' _ r=>q v H' r.1
theorem all_nil{Q:α->Prop}:∀ x∈([]:Ac α),Q x:=λ_ h=>nomatch h
theorem all_cons{Q:α->Prop}{a:α}{l:Ac α}(h1:Q a)(h2:∀ x∈l,Q x):∀ x∈a::l,Q x:=List.forall_mem_cons.2 ⟨h1,h2⟩
def FnI(K:Fg)(f:Ak)(n:Ah)(st:AZ):Prop:=∃ fd,Fun K n n st f fd/\Bv K Bc n=Ab (Ab (.ref f))
theorem fni{n:Ah}{st:AZ}{f:Ak}{oc:Aj}{od an:Am Ak}{osl:Ax (Am Aj)}{kV doc pm cdv ct:Aj}(a:Bv K Bc n=Ab (Ab (.ref f)))(l:K.lookup f=Ab ⟨oc,od,.func (DP n n (JM st) (HM st) (Go st) .none kV doc pm an cdv ct),osl⟩)(c:Fs K cdv n=Aa)(k:Co K (.ref f)=Aa):FnI K f n st:=⟨_,kY l c k,a⟩
def Bd(n:Ah)(st:AZ)(ps:Ac Ah)(us:Ac Aj):Prop:=∀(kV doc pm:Aj)(an:Am Ak)(cdv ct:Aj),K9 (DP n n (JM st) (HM st) (Go st) .none kV doc pm an cdv ct) ⟨us,[]⟩=pure (ps.zip us)
theorem Tu{n:Ah}{f:Ak}{st:AZ}{ps N:Ac Ah}(m id:Ae)(X:K.In h)(G:h.Ns Bc mg)(A:FnI K f n st)(hl:ps.length=m%1000)(hc:IM fuel (Ga 1000 m) fns bl rzs exs gls ps N st (Pg.defs id)=Aa)(hb:∀ us:Ac Aj,us.length=ps.length->Bd n st ps us):Nr K mg fns bl rzs exs gls Pg fuel (n,id,m):=by
 obtain⟨fd,F,a⟩:=A;exact⟨_,_,_,_,_,_,Dx X G a,Uc F,F.binds λkV doc pm an cdv ct us hu=>hb us hu kV doc pm an cdv ct,hl,hc⟩
theorem Uy{l:Ac α}(h:l.length=0):l=[]:=List.eq_nil_of_length_eq_zero h
theorem PK{l:Ac α}{n:Ae}(h:l.length=n+1):∃ a r,l=a::r/\r.length=n:=by
 cases l with
 |nil=>cases h
 |cons a r=>exact⟨a,r,rfl,Nat.succ.inj h⟩
theorem PL{n:Ah}{f:Ak}{st:AZ}{N:Ac Ah}(m id:Ae)(X:K.In h)(G:h.Ns Bc mg)(A:FnI K f n st)(hl:1=m%1000)(hc:IM fuel (Ga 1000 m) fns bl rzs exs gls [x0] N st (Pg.defs id)=Aa)(hb:∀ u0,Bd n st [x0] [u0]):Nr K mg fns bl rzs exs gls Pg fuel (n,id,m):=
 Tu (ps:=[x0]) m id X G A hl hc λus hu=>by obtain⟨u0,v0,rfl,h0⟩:=PK hu;obtain rfl:=Uy h0;exact hb u0
theorem F6{n:Ah}{f:Ak}{st:AZ}{N:Ac Ah}{x1:Ah}(m id:Ae)(X:K.In h)(G:h.Ns Bc mg)(A:FnI K f n st)(hl:2=m%1000)(hc:IM fuel (Ga 1000 m) fns bl rzs exs gls [x0,x1] N st (Pg.defs id)=Aa)(hb:∀ u0 u1,Bd n st [x0,x1] [u0,u1]):Nr K mg fns bl rzs exs gls Pg fuel (n,id,m):=
 Tu (ps:=[x0,x1]) m id X G A hl hc λus hu=>by obtain⟨u0,v0,rfl,h0⟩:=PK hu;obtain⟨u1,v1,rfl,h1⟩:=PK h0;obtain rfl:=Uy h1;exact hb u0 u1
end
end Ov
namespace OvC
open PySem Ov
variable{p l y m:Ag}{xs:Ac Ag}{Z:Gam}{G L Z_ X RW Y_ A:Ac D}{s2 s4 s5 s3:Sl}{c:Ae}{t x x0 C K1:Ah}
noncomputable abbrev tr(a b c:Ag):D:=.tup [.int a,.int b,.int c]
noncomputable def det(a0 a1 a2 b0 b1 b2 c0 c1 c2:Ag):Ag:=a0*(b1*c2-b2*c1)-a1*(b0*c2-b2*c0)+a2*(b0*c1-b1*c0)
def Sm(x:Ag):Prop:=0<=x/\x<11
theorem rng3:Dt 0 3=[.int 0,.int 1,.int 2]:=rfl
theorem Sm.of(h:P4 p)(x:Ag):Sm (x%p):=⟨CZ _ (by have:=h.pos;omega),by have:=Cz x h.pos;have:=h.hi;omega⟩
theorem Qt{body:D->Rho->O}(I:Rho->Prop)(g:Ag->Ai):∀(L:Ac Ag),(∀ t∈L,∀ U,I U->(g t=Aa/\body (.int t) U=.ret (.int t) Ad)\/(g t=Ad/\∃ U',body (.int t) U=.next U'/\I U'))->∀ U,I U->(∃ t∈L,g t=Aa/\BN body (L.map D.int) U=.ret (.int t) Ad)\/((∀ t∈L,g t=Ad)/\∃ U',BN body (L.map D.int) U=.next U'/\I U')
 |[],_,U,i=>.inr ⟨(λ_ h=>nomatch h),U,rfl,i⟩
 |m::L,h,U,i=>by
  rcases h m (AN ..) U i with ⟨e1,e2⟩|⟨e1,U',e2,i'⟩
  .refine .inl ⟨m,AN ..,e1,?_⟩;show (body (.int m) U).turn _=_;rw[e2];rfl
  .rcases Qt I g L (λm' h'=>h m' (AC _ h')) U' i' with ⟨t,ht,a,b⟩|⟨a,r,b,c⟩
   .refine .inl ⟨t,AC _ ht,a,?_⟩;show (body (.int m) U).turn _=_;rw[e2];exact b
   .refine .inr ⟨λt ht=>?_,r,?_,c⟩
    .rcases AI.mp ht with rfl|ht
     .exact e1
     .exact a t ht
    .show (body (.int m) U).turn _=_;rw[e2];exact b
noncomputable def Kc:Ss:=(.cons (.ife (.cmp .Eq (.call 1 (.cons (.var 0) (.cons (.bin .Mult (.var 1) (.var 2)) .nil))) (.int 1)) (.cons (.ret (.var 2)) .nil) .nil) .nil)
noncomputable def LY:Df:=⟨3,Ad,(.cons (.fors 2 (.rng2 (.int 1) (.var 0)) Kc) (.cons (.rais 2 (.cons (.str (AV "a number with the rest 0 is not turned over")) .nil)) .nil))⟩
noncomputable def Gy(p:Ag):Ac Ag:=(A8 (p-1).toNat).map fun(k:Ae)=>1+(k:Ag)
theorem Kf{t:Ag}:t∈Gy p↔1<=t/\t<p:=by
 unfold Gy;rw[List.mem_map];constructor
 .rintro⟨k,hk,rfl⟩;have:=DC.mp hk;omega
 .rintro⟨h1,h2⟩;exact⟨(t-1).toNat,DC.mpr (by omega),by omega⟩
theorem Rb(h:P4 p):Dj 1 p=.ok ((Gy p).map D.int):=by
 rcases h with rfl|rfl|rfl|rfl<;>rfl
theorem dD:∀ p:Fin 12,(p.val=3\/p.val=5\/p.val=7\/p.val=11)->∀ r:Fin 12,r.val<p.val->r.val≠0->∃ t:Fin 12,1<=t.val/\t.val<p.val/\r.val*t.val%p.val=1:=by decide+kernel
theorem SX{p n:Ag}(h:P4 p)(hn:n%p≠0):∃ t,1<=t/\t<p/\n*t%p=1:=by
 have p0:0<p/\p<12:=by rcases h with rfl|rfl|rfl|rfl<;>decide
 obtain⟨q,rfl⟩:∃ q:Ae,p=q:=⟨p.toNat,by omega⟩
 have h0:=CZ n (b:=(q:Ag)) (by omega)
 have h1:=Cz n p0.1;obtain⟨r,hr⟩:∃ r:Ae,n%(q:Ag)=r:=⟨(n%(q:Ag)).toNat,by omega⟩
 obtain⟨t,t1,t2,t3⟩:=dD ⟨q,by omega⟩ (by rcases h with e|e|e|e<;>simp<;>omega) ⟨r,by omega⟩ (by show r<q;omega) (by show r≠0;omega)
 refine⟨(t.val:Ag),by omega,by show (t.val:Ag)<q;exact Int.ofNat_lt.mpr t2,?_⟩
 have e:((r*t.val%q:Ae):Ag)=1:=by rw[show r*t.val%q=1 from t3];rfl
 rw[<-e,Int.natCast_emod,Int.natCast_mul,<-hr];exact(DL n _ _).trans (by rw[DL (n%(q:Ag)) (t.val:Ag) (q:Ag),CN n (EL _)])
def HX(p n t:Ag):Prop:=1<=t/\t<p/\n*t%p=1
theorem QV{p n t u:Ag}(h1:HX p n t)(h2:HX p n u):t=u:=by
 have hp:1<p:=by have:=h1.1;have:=h1.2.1;omega
 have e:t%p=u%p:=by
  have a:t%p=t*(n*u)%p:=by rw[DL,h2.2.2,U_3,CN _ (EL p)]
  have b:u%p=(n*t)*u%p:=by rw[DL (n*t) u p,h1.2.2,Jv,CN _ (EL p)]
  rw[a,b]
  congr 1
  rw[<-U_2,Gd t n]
 rw[FC (by have:=h1.1;omega) h1.2.1,FC (by have:=h2.1;omega) h2.2.1]at e
 exact e
theorem TC{c x:Ag}(hp:P4 p)(hc:c%p≠0)(hx:x%p≠0):c*x%p≠0:=λz=>by
 obtain⟨t,_,_,e⟩:=SX hp hc;refine hx ?_;have e1:x%p=(c*t)*x%p:=by rw[DL (c*t) x p,e,Jv,CN _ (EL p)]
 rw[e1,show c*t*x=t*(c*x) by rw[Gd c t,U_2],DL,z,U_4,U_7]
noncomputable def Dk(p:Ag):Ac Ag->Am Ag
 |[]=>Af
 |x::xs=>if x%p=0 then Dk p xs else Ab (x%p)
theorem QT{p:Ag}:∀{xs:Ac Ag},Dk p xs=Af↔∀ x∈xs,x%p=0
 |[]=>by simp[Dk]
 |x::xs=>by
  unfold Dk;by_cases h:x%p=0
  .rw[Aq h,QT (xs:=xs)];simp[h]
  .rw[Ar h];simp[h]
theorem Lh{p l:Ag}(hp:0<p):∀{xs:Ac Ag},Dk p xs=Ab l->l%p≠0/\0<l/\l<p
 |[],h=>by cases h
 |x::xs,h=>by
  unfold Dk at h;by_cases hx:x%p=0
  .rw[Aq hx]at h;exact Lh hp h
  .rw[Ar hx]at h;cases h;have h0:=CZ x (b:=p) (by omega)
   have h1:=Cz x hp;exact⟨by rw[CN _ (EL p)];exact hx,by omega,h1⟩
theorem Ru{p c:Ag}(hp:P4 p)(hc:c%p≠0){f:Ag->Ag}(hf:∀ x,f x%p=c*x%p):∀ xs:Ac Ag,Dk p (xs.map f)=(Dk p xs).map λl=>c*l%p
 |[]=>rfl
 |x::xs=>by
  rw[BP];unfold Dk;rw[hf x];by_cases hx:x%p=0
  .rw[Aq hx,Aq (by rw[DL,hx,U_4,U_7]),Ru hp hc hf xs]
  .rw[Ar hx,Ar (TC hp hc hx),Option.map_some]
   congr 1
   rw[DL c (x%p),CN _ (EL p),<-DL]
noncomputable def ds(xs:Ac Ag):Ac D:=xs.map D.int
noncomputable def EW(b:Ai)(xs:Ac Ag):D:=if b=Aa then .tup (ds xs) else .lst (ds xs)
theorem XX(b xs):DW (EW b xs)=.ok (ds xs):=by unfold EW;cases b<;>rfl
theorem Li{g:D->R Ai}{f:D->R D}{φ:Ag->Ag}:∀(xs:Ac Ag),(∀ x∈xs,g (.int x)=.ok Aa/\f (.int x)=.ok (.int (φ x)))->Ch g f (ds xs)=.ok (ds (xs.map φ))
 |[],_=>rfl
 |x::xs,h=>by
  obtain⟨h1,h2⟩:=h x (AN ..);show (g (.int x)).bind _=_;rw[h1,R.bind_ok,Aq rfl,h2,R.bind_ok];show (Ch g f (ds xs)).bind _=_;rw[Li xs λy hy=>h y (AC _ hy)]
  rfl
noncomputable def FG:E:=(.bl Aa)
noncomputable def Ny:E:=(.call 1 (.cons (.var 0) (.cons (.var 5) .nil)))
noncomputable def Nx:E:=(.call 1 (.cons (.var 0) (.cons (.bin .Mult (.var 4) (.var 6)) .nil)))
noncomputable def Hs:Ss:=(.cons (.ife (.cmp .NotEq (.var 3) (.int 0)) (.cons (.asg 4 Ad (.call 9 (.cons (.var 0) (.cons (.var 3) .nil)))) (.cons (.ret (.bi .tuple (.cons (.comp Nx 6 (.e (.var 2)) FG) .nil))) .nil)) .nil) .nil)
noncomputable def Mc:Df:=⟨7,Ad,(.cons (.asg 2 Ad (.comp Ny 5 (.e (.var 1)) FG)) (.cons (.fors 3 (.e (.var 2)) Hs) (.cons (.rais 3 (.cons (.str (AV "all the numbers have the rest 0")) .nil)) .nil)))⟩
noncomputable def fmI(p t:Ag)(xs:Ac Ag):Ac Ag:=xs.map λx=>t*(x%p)%p
section
variable{Z:Gam}{p:Ag}{xs:Ac Ag}{b:Ai}
end
noncomputable def NF:E:=(.bin .Mod (.var 5) (.var 1))
noncomputable def NB:E:=(.cmp .Gt (.var 6) (.int 0))
noncomputable def NE:E:=(.var 6)
noncomputable def NA:E:=(.cmp .Eq (.bin .Mod (.bin .Mult (.var 7) (.idx (.var 3) (.int 0))) (.var 1)) (.int 1))
noncomputable def ND:E:=(.var 7)
noncomputable def NC:E:=(.bin .Mod (.bin .Mult (.var 8) (.var 4)) (.var 1))
noncomputable def Lm:Df:=⟨9,Ad,(.cons (.asg 2 Ad (.comp NF 5 (.e (.var 0)) FG)) (.cons (.asg 3 Ad (.comp NE 6 (.e (.var 2)) NB)) (.cons (.ife (.cmp .Eq (.bi .len (.cons (.var 3) .nil)) (.int 0)) (.cons (.ret .non) .nil) .nil) (.cons (.asg 4 Ad (.idx (.comp ND 7 (.rng2 (.int 1) (.var 1)) NA) (.int 0))) (.cons (.ret (.bi .tuple (.cons (.comp NC 8 (.e (.var 2)) FG) .nil))) .nil)))))⟩
theorem NL{g:D->R Ai}{f:D->R D}{q:Ag->Ai}:∀(xs:Ac Ag),(∀ x∈xs,g (.int x)=.ok (q x)/\f (.int x)=.ok (.int x))->Ch g f (ds xs)=.ok (ds (xs.filter q))
 |[],_=>rfl
 |x::xs,h=>by
  obtain⟨h1,h2⟩:=h x (AN ..);have ih:=NL xs λy hy=>h y (AC _ hy)
  show (g (.int x)).bind _=_;rw[h1,R.bind_ok];cases hq:q x with
  |true=>
   rw[Aq rfl,h2,R.bind_ok,Hh,hq,Aq rfl];show (Ch g f (ds xs)).bind _=_;rw[ih];rfl
  |false=>
   rw[Ar (by decide),Hh,hq,Ar (by decide)]
   exact ih
theorem Ql{p:Ag}(hp:0<p):∀(xs:Ac Ag),((xs.map λx=>x%p).filter λr=>decide (0<r)).head?=Dk p xs
 |[]=>rfl
 |x::xs=>by
  have h0:=CZ x (b:=p) (by omega)
  unfold Dk;rw[BP,Hh];by_cases h:x%p=0
  .rw[Aq h,Ar (by simp[h]),Ql hp xs]
  .rw[Ar h,Aq (by simp;omega)]
   rfl
theorem XS{t:Ag}(it:HX p l t):((Gy p).filter λk=>decide (k*l%p=1)).head?=Ab t:=by
 have hm:t∈(Gy p).filter λk=>decide (k*l%p=1):=Gf.mpr ⟨Kf.mpr ⟨it.1,it.2.1⟩,by simp[Gd t l,it.2.2]⟩
 cases e:(Gy p).filter λk=>decide (k*l%p=1) with
 |nil=>rw[e]at hm;cases hm
 |cons u us=>
  have hu:u∈(Gy p).filter λk=>decide (k*l%p=1):=by rw[e];exact AN ..
  obtain⟨h1,h2⟩:=Gf.mp hu;obtain⟨a,b⟩:=Kf.mp h1;have h3:u*l%p=1:=by simpa using h2
  rw[QV it ⟨a,b,by rw[Gd];exact h3⟩]
  rfl
theorem QY(h:xs.head?=Ab l):CH (ds xs) 0=.ok (.int l):=by
 cases xs with
 |nil=>cases h
 |cons x xs=>cases h;exact JK (by omega) rfl
noncomputable abbrev own(xs:Ac Ag):Sl:=Ab (.lst (ds xs),Aa)
section
variable{Z:Gam}{ns:Ac Ag}{a1 a2 a4 a6 a7 a8 a9 b0 b1 b2 b3 b4:Sl}{p:Ag}
end
section
variable{Z:Gam}{ns:Ac Ag}{a1 a4 a6 a7 a8 a9 b2 b3 b4:Sl}{p m:Ag}{xs:Ac Ag}
end
def Cg(p x y:Ag):Prop:=x%p=y%p
section
variable{p a b c d:Ag}
theorem Cg.of(h:a=b):Cg p a b:=by unfold Cg;rw[h]
end
theorem P4.m1(h:P4 p):(-1:Ag)%p≠0:=by rcases h with rfl|rfl|rfl|rfl<;>decide
theorem P4.o1(h:P4 p):(1:Ag)%p≠0:=by rcases h with rfl|rfl|rfl|rfl<;>decide
abbrev R3:=Ag×Ag×Ag
variable{a q:R3}
noncomputable def PC(a:R3):D:=.lst [.int a.1,.int a.2.1,.int a.2.2]
noncomputable def LX(a b c:R3):Ag:=det a.1 a.2.1 a.2.2 b.1 b.2.1 b.2.2 c.1 c.2.1 c.2.2
def In3(p:Ag)(a:R3):Prop:=(0<=a.1/\a.1<p)/\(0<=a.2.1/\a.2.1<p)/\(0<=a.2.2/\a.2.2<p)
structure GoodR (p:Ag) (a b c:R3):Prop where
 p4:P4 p
 ia:In3 p a
 ib:In3 p b
 ic:In3 p c
 nz:LX a b c%p≠0
theorem GoodR.of{k:Ag}{b c a' b' c':R3}(h:GoodR p a b c)(hk:k%p≠0)(e:Cg p (LX a' b' c') (k*LX a b c))(hin:In3 p a'/\In3 p b'/\In3 p c'):GoodR p a' b' c':=⟨h.p4,hin.1,hin.2.1,hin.2.2,by rw[show LX a' b' c'%p=_ from e];exact TC h.p4 hk h.nz⟩
noncomputable abbrev ownR(a b c:R3):Sl:=Ab (.lst [PC a,PC b,PC c],Aa)
section
variable{Z:Gam}{ns:Ac Ag}{at_ many s5 s0 s1 s2:Sl}{p t m:Ag}{a b c:R3}
end
section
variable{Z:Gam}{ns:Ac Ag}{many s5 s6 s7 s8 s9 s0 s1 s2:Sl}{p:Ag}{a b c:R3}
end
def Bd(n:Ae)(x:Ag):Prop:=x.natAbs<2 ^ n
def B3(a:R3):Prop:=Bd 300 a.1/\Bd 300 a.2.1/\Bd 300 a.2.2
noncomputable def Cd(q:Ai)(a:R3):D:=EW q [a.1,a.2.1,a.2.2]
section
variable{Z:Gam}{ns:Ac Ag}{p t:Ag}{a b c r:R3}{made s6 s7:Sl}
end
section
variable{Z:Gam}{ns:Ac Ag}{p m:Ag}{a b c:R3}{fa fb fc:R3}{q:Ai}{s9 s0 s1 s2:Sl}
end
def NZ(Z:Gam):Prop:=∀ p n:Ag,P4 p->n%p≠0->∃ t,1<=t/\t<p/\n*t%p=1/\Z.F 9 [.int p,.int n]=.ok (.int t)
def OI(Z:Gam):Prop:=∀(p:Ag)(b:Ai)(xs:Ac Ag)(l t:Ag),P4 p->Dk p xs=Ab l->HX p l t->Z.F 17 [.int p,EW b xs]=.ok (.tup (ds (fmI p t xs)))
theorem YJ(hr:MO Z)(p n:Ag)(hp:P4 p)(z:n%p≠0):∃ t,1<=t/\t<p/\n*t%p=1/\LY.run Z [.int p,.int n]=.ok (.int t):=by
 have p0:=hp.pos;have ph:=hp.hi;have body:∀ t∈Gy p,∀ U,(∃ s,U=[si p,si n,s])->(decide (n*t%p=1)=Aa/\Bw Z 2 Kc (.int t) U=.ret (.int t) Ad)\/(decide (n*t%p=1)=Ad/\∃ U',Bw Z 2 Kc (.int t) U=.next U'/\∃ s,U'=[si p,si n,s]):=by
  rintro t ht U ⟨s,rfl⟩;obtain⟨t1,t2⟩:=Kf.mp ht;have m:FJ n t=Aa:=R7 (by omega) (by omega)
  by_cases e:n*t%p=1
  .exact .inl ⟨by simp[e],by simp[Bw,Kc,hr p (n*t) p0,m,e,Cb]⟩
  .exact .inr ⟨by simp[e],_,by simp[Bw,Kc,hr p (n*t) p0,m,e];rfl,_,rfl⟩
 have run:∀ o,BN (Bw Z 2 Kc) ((Gy p).map D.int) [si p,si n,Af]=o->LY.run Z [.int p,.int n]=(Eu Z (.cons (.rais 2 (.cons (.str (AV "a number with the rest 0 is not turned over")) .nil)) .nil) o).ans Ad:=by
  rintro o rfl;simp[LY,Df.run,CF,Rb hp]
 rcases Qt (λU=>∃ s,U=[si p,si n,s]) (λt=>decide (n*t%p=1)) (Gy p) body [si p,si n,Af] ⟨_,rfl⟩ with ⟨t,ht,a,b⟩|⟨a,r,b,s,rfl⟩
 .obtain⟨t1,t2⟩:=Kf.mp ht;have a':n*t%p=1:=by simpa using a
  exact⟨t,t1,t2,a',by rw[run _ b];rfl⟩
 .obtain⟨t,t1,t2,e⟩:=SX hp z;have:=a t (Kf.mpr ⟨t1,t2⟩);simp[e]at this
section
variable{Z:Gam}{p:Ag}{xs:Ac Ag}{b:Ai}
theorem Rr(hr:MO Z)(ht:NZ Z)(hp:P4 p)(rs:Ac Ag):∀(ys:Ac Ag),(∀ y∈ys,0<=y/\y<p)->∀ s3,(Dk p ys=Af->∃ s3',BN (Bw Z 3 Hs) (ds ys) [si p,sh (EW b xs),sh (.lst (ds rs)),s3,Af,Af,Af]=.next [si p,sh (EW b xs),sh (.lst (ds rs)),s3',Af,Af,Af])/\(∀ l t,Dk p ys=Ab l->HX p l t->BN (Bw Z 3 Hs) (ds ys) [si p,sh (EW b xs),sh (.lst (ds rs)),s3,Af,Af,Af]=.ret (.tup (ds (rs.map λr=>t*r%p))) Ad)
 |[],_,s3=>⟨λ_=>⟨s3,rfl⟩,(λl t h=>nomatch h)⟩
 |y::ys,hy,s3=>by
  obtain⟨y0,y1⟩:=hy y (AN ..);have ym:y%p=y:=FC y0 y1;have ih:=Rr hr ht hp rs ys (λz hz=>hy z (AC _ hz)) (si y)
  have step:∀ o,Bw Z 3 Hs (.int y) [si p,sh (EW b xs),sh (.lst (ds rs)),s3,Af,Af,Af]=o->BN (Bw Z 3 Hs) (ds (y::ys)) [si p,sh (EW b xs),sh (.lst (ds rs)),s3,Af,Af,Af]=o.turn (BN (Bw Z 3 Hs) (ds ys)):=by
   rintro o rfl;rfl
  unfold Dk;rw[ym];by_cases hz:y=0
  .have e:Bw Z 3 Hs (.int y) [si p,sh (EW b xs),sh (.lst (ds rs)),s3,Af,Af,Af]=.next [si p,sh (EW b xs),sh (.lst (ds rs)),si y,Af,Af,Af]:=by
    simp[Bw,Hs,hz]
   rw[Aq hz,step _ e];exact ih
  .rw[Ar hz];refine⟨(λz=>nomatch z),λl t e it=>?_⟩
   cases e;obtain⟨u,u1,u2,u3,u4⟩:=ht p y hp (by rw[ym];exact hz)
   have:t=u:=QV it ⟨u1,u2,u3⟩;subst this;have p0:=hp.pos;have ph:=hp.hi;have cp:Ch (cG Z [si p,sh (EW b xs),sh (.lst (ds rs)),si y,si t,Af,Af] 6 FG) (cF Z [si p,sh (EW b xs),sh (.lst (ds rs)),si y,si t,Af,Af] 6 Nx) (ds rs)=.ok (ds (rs.map λr=>t*r%p)):=by
    refine Li rs λr _=>⟨rfl,?_⟩
    have m:FJ t r=Aa:=OA (by omega) (by omega)
    simp[cF,Nx,m,hr p (t*r) p0]
   have e:Bw Z 3 Hs (.int y) [si p,sh (EW b xs),sh (.lst (ds rs)),s3,Af,Af,Af]=.ret (.tup (ds (rs.map λr=>t*r%p))) Ad:=by
    simp[Bw,Hs,hz,u4,cp,Cb]
   rw[step _ e];rfl
theorem Z_5(hr:MO Z)(ht:NZ Z)(hp:P4 p){t:Ag}(e:Dk p xs=Ab l)(it:HX p l t):Mc.run Z [.int p,EW b xs]=.ok (.tup (ds (fmI p t xs))):=by
 have p0:=hp.pos;have cp:Ch (cG Z [si p,sh (EW b xs),Af,Af,Af,Af,Af] 5 FG) (cF Z [si p,sh (EW b xs),Af,Af,Af,Af,Af] 5 Ny) (ds xs)=.ok (ds (xs.map λx=>x%p)):=by
  refine Li xs λx _=>⟨rfl,?_⟩
  simp[cF,Ny,hr p x p0]
 have run:∀ o,BN (Bw Z 3 Hs) (ds (xs.map λx=>x%p)) [si p,sh (EW b xs),sh (.lst (ds (xs.map λx=>x%p))),Af,Af,Af,Af]=o->Mc.run Z [.int p,EW b xs]=(Eu Z (.cons (.rais 3 (.cons (.str (AV "all the numbers have the rest 0")) .nil)) .nil) o).ans Ad:=by
  rintro o rfl;simp[Mc,Df.run,CF,XX,cp]
 have le:Dk p (xs.map λx=>x%p)=Dk p xs:=by
  have:=Ru (c:=1) hp (by rcases hp with rfl|rfl|rfl|rfl<;>decide) (f:=λx=>x%p) (λx=>by rw[Jv,CN _ (EL p)]) xs
  rw[this];cases e:Dk p xs with
  |none=>rfl
  |some l=>
   obtain⟨_,l0,l1⟩:=Lh p0 e;simp[FC (Int.le_of_lt l0) l1]
 obtain⟨a,c⟩:=Rr (b:=b) (xs:=xs) hr ht hp (xs.map λx=>x%p) (xs.map λx=>x%p) (λy hy=>by
  obtain⟨x,_,rfl⟩:=Fa.mp hy;exact⟨CZ _ (by omega),Cz _ p0⟩) Af
 rw[le]at a c;rw[run _ (c l t e it)];simp[fmI,Dl,U_1]
end
theorem Bd.mono{m n:Ae}{x:Ag}(h:Bd m x)(hm:m<=n):Bd n x:=AO h (Nat.pow_le_pow_right (by decide) hm)
def Bn(n:Ae)(a:R3):Prop:=Bd n a.1/\Bd n a.2.1/\Bd n a.2.2
theorem Bn.b3{n:Ae}(h:Bn n a)(hn:n<=300):B3 a:=⟨h.1.mono hn,h.2.1.mono hn,h.2.2.mono hn⟩
noncomputable def qJ(k:Ag)(a:R3):R3:=(k*a.1,k*a.2.1,k*a.2.2)
noncomputable def fk0(p:Ag)(a b c d:R3):Ag:=LX d b c%p
noncomputable def fs0(p:Ag)(a b c d:R3):R3:=qJ (fk0 p a b c d) a
noncomputable def L3:E:=(.call 17 (.cons (.var 0) (.cons (.tup (.cons (.var 3) (.cons (.var 2) (.cons (.int 1) .nil)))) .nil)))
noncomputable def Lc:Ss:=(.cons (.app 1 (.comp L3 3 (.rng (.var 0)) FG)) .nil)
noncomputable def LZ:E:=(.tup (.cons (.int 1) (.cons (.var 4) (.cons (.int 0) .nil))))
noncomputable def L4:Df:=⟨5,Ad,(.cons (.asg 1 Aa (.lst .nil)) (.cons (.fors 2 (.rng3 (.bin .Sub (.var 0) (.int 1)) (.un .USub (.int 1)) (.un .USub (.int 1))) Lc) (.cons (.app 1 (.bin .Add (.comp LZ 4 (.rng (.var 0)) FG) (.lst (.cons (.tup (.cons (.int 0) (.cons (.int 1) (.cons (.int 0) .nil)))) .nil)))) (.cons (.ret (.var 1)) .nil))))⟩
noncomputable def JB:Ss:=(.cons (.ife (.cmp .Eq (.var 3) (.str (AV "#"))) (.cons (.app 2 (.var 4)) .nil) (.cons (.ife (.cmp .NotEq (.var 3) (.str (AV "."))) (.cons (.rais 16 (.cons (.str (AV "a sign that is not drawn")) .nil)) .nil) .nil) .nil)) .nil)
noncomputable def Ll:Df:=⟨5,Aa,(.cons (.ife (.cmp .NotEq (.bi .len (.cons (.var 0) .nil)) (.bi .len (.cons (.var 1) .nil))) (.cons (.rais 16 (.cons (.str (AV "a text of another length")) .nil)) .nil) .nil) (.cons (.asg 2 Aa (.lst .nil)) (.cons (.forT [3,4] (.zip (.var 0) (.var 1)) JB) (.cons (.ret (.var 2)) .nil))))⟩
noncomputable def IB:Ss:=(.cons (.ext 3 (.call 312 (.cons (.var 4) (.cons (.var 5) .nil)))) .nil)
noncomputable def Jf:Df:=⟨6,Aa,(.cons (.asg 2 Ad (.call 309 (.cons (.var 0) .nil))) (.cons (.ife (.cmp .NotEq (.bi .len (.cons (.var 1) .nil)) (.bi .len (.cons (.var 2) .nil))) (.cons (.rais 16 (.cons (.str (AV "texts too many or few")) .nil)) .nil) .nil) (.cons (.asg 3 Aa (.lst .nil)) (.cons (.forT [4,5] (.zip (.var 1) (.var 2)) IB) (.cons (.ret (.bi .sorted (.cons (.var 3) .nil))) .nil)))))⟩
noncomputable def hsh:Ah:=⟨#[35]⟩
noncomputable def dot:Ah:=⟨#[46]⟩
theorem IF:AV "#" = hsh:=by kernel_rfl
theorem O0:AV "." = dot:=by kernel_rfl
noncomputable def sg(c:Ae):Ah:=⟨#[c]⟩
theorem O3(c d:Ae):(sg c==sg d)=decide (c=d):=by
 by_cases h:c=d
 .rw[DH h,h];simp
 .rw[Bu h];have:sg c≠sg d:=λe=>h (by
   have:=congrArg Str.cps e;simpa [sg] using this)
  simpa using this
theorem FM{n:Ae}(h:n<=1000):BD n=Aa:=Nat.ble_eq.mpr (by omega)
noncomputable def rw3(l:Ac R3):Ac D:=l.map (Cd Aa)
noncomputable def CV:Ac Ae->Ac R3->Ac R3
 |c::cs,a::as=>if c=35 then a::CV cs as else CV cs as
 |_,_=>[]
theorem Ot:∀(cs:Ac Ae)(as:Ac R3),(CV cs as).length<=as.length
 |[],as=>by simp[CV]
 |c::cs,[]=>by simp[CV]
 |c::cs,a::as=>by
  have:=Ot cs as;rw[CV];split
  .rw[AS,AS];omega
  .rw[AS];omega
noncomputable def okS(c:Ae):Ai:=decide (c=35)||decide (c=46)
noncomputable def exP:Ex:=⟨16,[]⟩
section
variable{Z:Gam}
theorem N8(hx:∀ es,Z.xn 16 es=.ok exP)(X L:D):∀(cs:Ac Ae)(as acc:Ac R3)(s3 s4:Sl),cs.length=as.length->acc.length+as.length<=900->(cs.all okS=Aa->∃ s3' s4',BN (FK Z [3,4] JB) (DG (cs.map λc=>D.str (sg c)) (rw3 as)) [sh X,sh L,Ab (.lst (rw3 acc),Aa),s3,s4]=.next [sh X,sh L,Ab (.lst (rw3 (acc++CV cs as)),Aa),s3',s4'])/\(cs.all okS=Ad->∃ U,BN (FK Z [3,4] JB) (DG (cs.map λc=>D.str (sg c)) (rw3 as)) [sh X,sh L,Ab (.lst (rw3 acc),Aa),s3,s4]=.exn exP U)
 |[],[],acc,s3,s4,_,_=>⟨λ_=>⟨s3,s4,by simp[CV,rw3,DG,BN]⟩,λh=>by simp at h⟩
 |[],_::_,_,_,_,h,_=>by cases h
 |_::_,[],_,_,_,h,_=>by cases h
 |c::cs,a::as,acc,s3,s4,hl,hz=>by
  rw[AS,AS]at hl;rw[AS]at hz;have hl:cs.length=as.length:=by omega
  have e1:(sg c==hsh)=decide (c=35):=O3 c 35;have e2:(sg c==dot)=decide (c=46):=O3 c 46;have z:BD ((rw3 acc).length+1)=Aa:=FM (by rw[rw3,AX];omega)
  have hz':DG ((c::cs).map λc=>D.str (sg c)) (rw3 (a::as))=.tup [.str (sg c),Cd Aa a]::DG (cs.map λc=>D.str (sg c)) (rw3 as):=rfl
  have hd:∀(b:D->Rho->O)(x:D)(xs:Ac D)(U:Rho),BN b (x::xs) U=(b x U).turn (BN b xs):=λ_ _ _ _=>rfl
  rw[hz',hd];have ha:rw3 acc++[Cd Aa a]=rw3 (acc++[a]):=by simp[rw3]
  have step:FK Z [3,4] JB (.tup [.str (sg c),Cd Aa a]) [sh X,sh L,Ab (.lst (rw3 acc),Aa),s3,s4]=if c=35 then .next [sh X,sh L,Ab (.lst (rw3 (acc++[a])),Aa),sh (.str (sg c)),sh (Cd Aa a)] else if c=46 then .next [sh X,sh L,Ab (.lst (rw3 acc),Aa),sh (.str (sg c)),sh (Cd Aa a)] else .exn exP [sh X,sh L,Ab (.lst (rw3 acc),Aa),sh (.str (sg c)),sh (Cd Aa a)]:=by
   rw[<-ha];generalize Cd Aa a=Q at *;generalize rw3 acc=Y_ at *;generalize sg c=S at *;by_cases c1:c=35
   .simp[FK,JB,IF,O0,Fi,e1,e2,c1,Cj,z]
   .by_cases c2:c=46
    .simp[FK,JB,IF,O0,Fi,e1,e2,c1,c2,Cj,z]
    .simp[FK,JB,IF,O0,Fi,e1,e2,c1,c2,Cj,z,hx]
  rw[step];by_cases c1:c=35
  .rw[Aq c1];have ih:=N8 hx X L cs as (acc++[a]) (sh (.str (sg c))) (sh (Cd Aa a)) hl (by rw[Be];simp;omega)
   have es:acc++CV (c::cs) (a::as)=acc++[a]++CV cs as:=by rw[CV,Aq c1];simp
   rw[es];have eo:(c::cs).all okS=cs.all okS:=by simp[okS,c1]
   rw[eo];exact ih
  .rw[Ar c1];have es:acc++CV (c::cs) (a::as)=acc++CV cs as:=by rw[CV,Ar c1]
   rw[es];by_cases c2:c=46
   .rw[Aq c2];have ih:=N8 hx X L cs as acc (sh (.str (sg c))) (sh (Cd Aa a)) hl (by omega)
    have eo:(c::cs).all okS=cs.all okS:=by simp[okS,c2]
    rw[eo];exact ih
   .rw[Ar c2];have eo:(c::cs).all okS=Ad:=by simp[okS,c1,c2]
    rw[eo];exact⟨λh=>by (cases h),λ_=>⟨_,rfl⟩⟩
noncomputable def F3(x:Ah)(as:Ac R3):Ai:=decide (x.cps.size=as.length)&&x.cps.toList.all okS
noncomputable def asc(x:Ah):Ai:=x.cps.all (· < 128)
def OH(Z:Gam):Prop:=∀(x:Ah)(as:Ac R3),asc x=Aa->x.length<=900->as.length<=900->Z.F 312 [.str x,.lst (rw3 as)]=if F3 x as=Aa then .ok (.lst (rw3 (CV x.cps.toList as))) else .exn exP
theorem Z_0(hx:∀ es,Z.xn 16 es=.ok exP)(x:Ah)(as:Ac R3)(ha:asc x=Aa)(h1:x.length<=900)(h2:as.length<=900):Ll.run Z [.str x,.lst (rw3 as)]=if F3 x as=Aa then .ok (.lst (rw3 (CV x.cps.toList as))) else .exn exP:=by
 have ll:biD .len [.lst (rw3 as)]=.ok (.int as.length):=by rw[Jp,rw3,AX]
 have ls:biD .len [.str x]=.ok (.int x.cps.size):=by
  show (if BD x.length=Aa then R.ok (D.int x.length) else .bad)=_
  rw[Aq (FM (by omega))]
  rfl
 have az:asZ (.str x)=.ok (x.cps.toList.map λc=>D.str (sg c)):=by
  show (if x.cps.all (· < 128)=Aa then R.ok (Jl x) else .bad)=_
  rw[Aq (show x.cps.all (· < 128)=Aa from ha)]
  rfl
 by_cases hl:x.cps.size=as.length
 .obtain⟨l1,l2⟩:=N8 hx (.str x) (.lst (rw3 as)) x.cps.toList as [] Af Af (by simpa using hl) (by simp;omega)
  have en:rw3 []=([]:Ac D):=rfl;rw[en]at l1 l2;have eb:F3 x as=x.cps.toList.all okS:=by unfold F3;rw[DH hl];simp
  rw[eb];have asq:DW (.lst (rw3 as))=.ok (rw3 as):=rfl;generalize rw3 as=L at *;generalize x.cps.toList.map (λc=>D.str (sg c))=S at *
  cases e:x.cps.toList.all okS with
  |true=>
   obtain⟨s3,s4,lo⟩:=l1 e;rw[HA]at lo;generalize rw3 (CV x.cps.toList as)=Z_ at *;simp[Ll,Df.run,CF,ll,ls,az,hl,lo,Ix,Cb,FN]
  |false=>
   obtain⟨U,lo⟩:=l2 e;simp[Ll,Df.run,CF,ll,ls,az,hl,lo,Ix,Cb,FN]
 .have eb:F3 x as=Ad:=by unfold F3;rw[Bu hl];rfl
  rw[eb];have hl':¬ ((x.cps.size:Ag)=(as.length:Ag)):=by omega
  generalize rw3 as=L at *;simp[Ll,Df.run,CF,ll,ls,hl',hx]
end
noncomputable def Fk(p l:Ag):Ag:=(((A8 p.toNat).map fun(k:Ae)=>(k:Ag)).find? λt=>decide (l*t%p=1)).getD 0
theorem Rx(hp:P4 p)(h0:0<l)(h1:l<p):HX p l (Fk p l):=by
 obtain⟨n,rfl⟩:∃ n:Ae,l=n:=⟨l.toNat,by omega⟩
 unfold HX;rcases hp with rfl|rfl|rfl|rfl
 .have:∀ n:Ae,n<3->0<n->(1<=Fk 3 n/\Fk 3 n<3/\(n:Ag)*Fk 3 n%3=1):=by decide+kernel
  exact this n (by omega) (by omega)
 .have:∀ n:Ae,n<5->0<n->(1<=Fk 5 n/\Fk 5 n<5/\(n:Ag)*Fk 5 n%5=1):=by decide+kernel
  exact this n (by omega) (by omega)
 .have:∀ n:Ae,n<7->0<n->(1<=Fk 7 n/\Fk 7 n<7/\(n:Ag)*Fk 7 n%7=1):=by decide+kernel
  exact this n (by omega) (by omega)
 .have:∀ n:Ae,n<11->0<n->(1<=Fk 11 n/\Fk 11 n<11/\(n:Ag)*Fk 11 n%11=1):=by decide+kernel
  exact this n (by omega) (by omega)
noncomputable def l3(q:R3):Ac Ag:=[q.1,q.2.1,q.2.2]
noncomputable def fq(p:Ag)(q:R3):R3:=match Dk p (l3 q) with
  |some l=>(Fk p l*(q.1%p)%p,Fk p l*(q.2.1%p)%p,Fk p l*(q.2.2%p)%p)
  |none=>q
theorem Ue(h:Dk p (l3 q)=Ab l):l3 (fq p q)=fmI p (Fk p l) (l3 q):=by
 unfold fq;rw[h];rfl
theorem kZ(hf:OI Z)(hp:P4 p)(hl:∃ l,Dk p (l3 q)=Ab l)(b:Ai):Z.F 17 [.int p,Cd b q]=.ok (Cd Aa (fq p q)):=by
 obtain⟨l,hl⟩:=hl;obtain⟨_,h0,h1⟩:=Lh hp.pos hl;have e:=hf p b (l3 q) l _ hp hl (Rx hp h0 h1);rw[<-Ue hl]at e;exact e
noncomputable def aff(n y:Ae):Ac R3:=(A8 n).map fun(x:Ae)=>fq n ((x:Ag),(n:Ag)-1-(y:Ag),1)
noncomputable def LL(n:Ae):Ac R3:=((A8 n).map fun(m:Ae)=>((1:Ag),(m:Ag),(0:Ag)))++[(0,1,0)]
noncomputable def cells(n:Ae):Ac (Ac R3):=(A8 n).map (aff n)++[LL n]
noncomputable def rws(l:Ac (Ac R3)):Ac D:=l.map λr=>D.lst (rw3 r)
theorem P4.n{n:Ae}(hp:P4 n):n=3\/n=5\/n=7\/n=11:=by
 rcases hp with h|h|h|h<;>omega
theorem Of{g:D->R Ai}{f:D->R D}{φ:Ae->R3}:∀ L:Ac Ae,(∀ k∈L,g (.int (0+(k:Ag)))=.ok Aa/\f (.int (0+(k:Ag)))=.ok (Cd Aa (φ k)))->Ch g f (L.map fun(k:Ae)=>D.int (0+(k:Ag)))=.ok (rw3 (L.map φ))
 |[],_=>rfl
 |k::L,h=>by
  obtain⟨h1,h2⟩:=h k (AN ..);have ih:=Of L λm hm=>h m (AC _ hm)
  show (g (.int (0+(k:Ag)))).bind _=_;rw[h1,R.bind_ok,Aq rfl,h2,R.bind_ok,show Ch g f (List.map _ L)=_ from ih]
  rfl
theorem Zv(lo:Ag)(n:Ae):(Gw lo n).length=n:=by simp[Gw]
theorem ZD{lo:Ag}{n i:Ae}{d:D}(h:(Gw lo n)[i]?=Ab d):i<n/\d=.int (lo-i):=by
 unfold Gw at h;rw[Cp]at h;by_cases hi:i<n
 .rw[GB hi]at h;exact⟨hi,(Bh h).symm⟩
 .rw[Vd (by simp;omega)]at h
  cases h
theorem qK{n:Ae}(hn:n<=11):GW ((n:Ag)-1) (-1) (-1)=.ok (Gw ((n:Ag)-1) n):=by
 have h:(-1:Ag)=-1/\(-(4611686018427387904:Ag)<=(n:Ag)-1/\(n:Ag)-1<4611686018427387904)/\(-(4611686018427387904:Ag)<=-1/\(-1:Ag)<4611686018427387904)/\(n:Ag)-1 - -1<1000000:=⟨rfl,⟨by omega,by omega⟩,⟨by omega,by omega⟩,by omega⟩
 have e:((n:Ag)-1 - -1).toNat=n:=by omega
 rw[GW,Aq h,e]
section
variable{Z:Gam}{n:Ae}
def T8(Z:Gam):Prop:=∀ n:Ae,P4 n->Z.F 309 [.int n]=.ok (.lst (rws (cells n)))
theorem Zw{a b:Ag}(hp:P4 p):∃ l,Dk p [a,b,1]=Ab l:=by
 cases e:Dk p [a,b,1] with
 |some l=>exact⟨l,rfl⟩
 |none=>
  have:=QT.mp e 1 (by simp)
  rcases hp with rfl|rfl|rfl|rfl<;>cases this
theorem jQ(rg:Dj 0 p=.ok G)(r:Ch (cG Z [si p,Ab (.lst L,Aa),si y,Af,Af] 3 FG) (cF Z [si p,Ab (.lst L,Aa),si y,Af,Af] 3 L3) G=.ok Z_)(z:BD (L.length+1)=Aa):Bw Z 2 Lc (.int y) [si p,Ab (.lst L,Aa),s2,Af,Af]=.next [si p,Ab (.lst (L++[.lst Z_]),Aa),si y,Af,Af]:=by
 simp[Bw,Lc,rg,r,Cj,z]
theorem dL{Dn:Ac D}(rg:Dj 0 p=.ok G)(rd:GW (p-1) (-1) (-1)=.ok Dn)(el:BN (Bw Z 2 Lc) Dn [si p,Ab (.lst [],Aa),Af,Af,Af]=.next [si p,Ab (.lst L,Aa),s2,Af,Af])(c2:Ch (cG Z [si p,Ab (.lst L,Aa),s2,Af,Af] 4 FG) (cF Z [si p,Ab (.lst L,Aa),s2,Af,Af] 4 LZ) G=.ok Z_)(z1:BD (L.length+1)=Aa)(z2:BD (Z_.length+1)=Aa):L4.run Z [.int p]=.ok (.lst (L++[.lst (Z_++[.tup [.int 0,.int 1,.int 0]])])):=by
 simp[L4,Df.run,CF,Ix,Cb,rd,el,c2,rg,Cj,z1,z2]
theorem oK(hf:OI Z)(n:Ae)(hp:P4 n):L4.run Z [.int n]=.ok (.lst (rws (cells n))):=by
 have hn:n<=11:=by rcases hp.n with rfl|rfl|rfl|rfl<;>decide
 have rg:Dj 0 (n:Ag)=.ok (Dt 0 n):=by
  rw[Lf (by omega) (by omega)]
  simp
 have rd:=qK hn;have row:∀(i:Ae)(L:D)(U3:Sl),Ch (cG Z [si n,Ab (L,Aa),si ((n:Ag)-1-i),Af,Af] 3 FG) (cF Z [si n,Ab (L,Aa),si ((n:Ag)-1-i),Af,Af] 3 L3) (Dt 0 n)=.ok (rw3 (aff n i)):=λi L _=>by
  refine Of (A8 n) λk hk=>⟨rfl,?_⟩
  have e:=kZ hf (q:=((k:Ag),(n:Ag)-1-(i:Ag),1)) hp (Zw hp) Aa;have er:Cd Aa ((k:Ag),(n:Ag)-1-(i:Ag),1)=.tup [.int k,.int ((n:Ag)-1-(i:Ag)),.int 1]:=rfl;rw[er]at e;generalize Cd Aa (fq n _)=Y_ at *;simp[cF,L3,e]
 obtain⟨U',el,s2,eρ⟩:=L8 (body:=Bw Z 2 Lc) (λi U=>∃ s2,U=[si n,Ab (.lst (rws ((A8 i).map (aff n))),Aa),s2,Af,Af]) (Gw ((n:Ag)-1) n) 0 [si n,Ab (.lst [],Aa),Af,Af,Af] ⟨Af,rfl⟩ λi x hx U hρ=>by
  obtain⟨s2,rfl⟩:=hρ;rw[C3];obtain⟨hi,rfl⟩:=ZD hx;have r:=row i (.lst (rws ((A8 i).map (aff n)))) Af;have z:BD ((rws ((A8 i).map (aff n))).length+1)=Aa:=FM (by simp[rws];omega)
  have ea:rws ((A8 (i+1)).map (aff n))=rws ((A8 i).map (aff n))++[.lst (rw3 (aff n i))]:=by simp[rws,List.range_succ]
  rw[ea];exact⟨_,jQ rg r z,si ((n:Ag)-1-i),rfl⟩
 rw[Zv,C3]at eρ;subst eρ;have c2:∀(L:D)(s:Sl),Ch (cG Z [si n,Ab (L,Aa),s,Af,Af] 4 FG) (cF Z [si n,Ab (L,Aa),s,Af,Af] 4 LZ) (Dt 0 n)=.ok (rw3 ((A8 n).map fun(m:Ae)=>((1:Ag),(m:Ag),(0:Ag)))):=λL s=>by
  refine Of (A8 n) λk hk=>⟨rfl,?_⟩
  have er:Cd Aa ((1:Ag),(k:Ag),(0:Ag))=.tup [.int 1,.int k,.int 0]:=rfl;rw[er];simp[cF,LZ]
 have z1:BD ((rws ((A8 n).map (aff n))).length+1)=Aa:=FM (by simp[rws];omega)
 have z2:BD ((rw3 ((A8 n).map fun(m:Ae)=>((1:Ag),(m:Ag),(0:Ag)))).length+1)=Aa:=FM (by simp[rw3];omega)
 have ec:rws (cells n)=rws ((A8 n).map (aff n))++[.lst (rw3 ((A8 n).map fun(m:Ae)=>((1:Ag),(m:Ag),(0:Ag)))++[.tup [.int 0,.int 1,.int 0]])]:=by
  unfold cells LL rws rw3;simp;rfl
 rw[ec];exact dL rg rd el (c2 _ _) z1 z2
end
noncomputable def Gx:Ac Ah->Ac (Ac R3)->Ac R3
 |x::xs,r::rs=>CV x.cps.toList r++Gx xs rs
 |_,_=>[]
noncomputable def okA:Ac Ah->Ac (Ac R3)->Ai
 |x::xs,r::rs=>F3 x r&&okA xs rs
 |_,_=>Aa
def Txs(xs:Ac Ah):Prop:=∀ x∈xs,asc x=Aa/\x.length<=900
section
variable{Z:Gam}
theorem QS(hr:OH Z)(fr:Z.fr 312=Aa)(P X R0:D):∀(xs:Ac Ah)(rs:Ac (Ac R3))(acc:Ac R3)(s4 s5:Sl),Txs xs->(∀ r∈rs,r.length<=20)->acc.length+20*rs.length<=900->(okA xs rs=Aa->∃ s4' s5',BN (FK Z [4,5] IB) (DG (xs.map D.str) (rws rs)) [sh P,sh X,sh R0,Ab (.lst (rw3 acc),Aa),s4,s5]=.next [sh P,sh X,sh R0,Ab (.lst (rw3 (acc++Gx xs rs)),Aa),s4',s5'])/\(okA xs rs=Ad->∃ U,BN (FK Z [4,5] IB) (DG (xs.map D.str) (rws rs)) [sh P,sh X,sh R0,Ab (.lst (rw3 acc),Aa),s4,s5]=.exn exP U)
 |[],rs,acc,s4,s5,_,_,_=>by
  have e:okA [] rs=Aa:=by cases rs<;>rfl
  have e2:Gx [] rs=[]:=by cases rs<;>rfl
  have e3:DG (([]:Ac Ah).map D.str) (rws rs)=[]:=by cases rs<;>rfl
  rw[e,e2,e3,Bo];exact⟨λ_=>⟨s4,s5,rfl⟩,λh=>by (cases h)⟩
 |x::xs,[],acc,s4,s5,_,_,_=>by
  have e2:Gx (x::xs) []=[]:=rfl;rw[e2,Bo];exact⟨λ_=>⟨s4,s5,rfl⟩,λh=>by (cases h)⟩
 |x::xs,r::rs,acc,s4,s5,hx,hl,hz=>by
  obtain⟨h1,h2⟩:=hx x (by simp)
  have l1:=hl r (by simp)
  rw[AS]at hz;have e:=hr x r h1 h2 (by omega)
  have sl:=Ot x.cps.toList r;have hz':DG ((x::xs).map D.str) (rws (r::rs))=.tup [.str x,.lst (rw3 r)]::DG (xs.map D.str) (rws rs):=rfl;have hd:∀(b:D->Rho->O)(x:D)(xs:Ac D)(U:Rho),BN b (x::xs) U=(b x U).turn (BN b xs):=λ_ _ _ _=>rfl
  rw[hz',hd];by_cases ok:F3 x r=Aa
  .rw[Aq ok]at e;have z:BD ((rw3 acc).length+(rw3 (CV x.cps.toList r)).length)=Aa:=FM (by rw[rw3,rw3,AX,AX];omega)
   have step:FK Z [4,5] IB (.tup [.str x,.lst (rw3 r)]) [sh P,sh X,sh R0,Ab (.lst (rw3 acc),Aa),s4,s5]=.next [sh P,sh X,sh R0,Ab (.lst (rw3 acc++rw3 (CV x.cps.toList r)),Aa),sh (.str x),sh (.lst (rw3 r))]:=by
    generalize rw3 (CV x.cps.toList r)=Q at *;generalize rw3 acc=Y_ at *;generalize rw3 r=Z_ at *;simp[FK,IB,Fi,e,Cj,z,Cb,fr,Jj]
   rw[step];have ea:rw3 acc++rw3 (CV x.cps.toList r)=rw3 (acc++CV x.cps.toList r):=by simp[rw3]
   rw[ea];have ih:=QS hr fr P X R0 xs rs (acc++CV x.cps.toList r) (sh (.str x)) (sh (.lst (rw3 r))) (λy hy=>hx y (by simp[hy])) (λy hy=>hl y (by simp[hy])) (by rw[Be];omega)
   have es:acc++Gx (x::xs) (r::rs)=acc++CV x.cps.toList r++Gx xs rs:=by rw[Gx,Cc]
   have eo:okA (x::xs) (r::rs)=okA xs rs:=by rw[okA,ok,EY]
   rw[es,eo];exact ih
  .have ok':F3 x r=Ad:=by simpa using ok
   rw[Ar ok]at e;have step:FK Z [4,5] IB (.tup [.str x,.lst (rw3 r)]) [sh P,sh X,sh R0,Ab (.lst (rw3 acc),Aa),s4,s5]=.exn exP [sh P,sh X,sh R0,Ab (.lst (rw3 acc),Aa),sh (.str x),sh (.lst (rw3 r))]:=by
    generalize rw3 acc=Y_ at *;generalize rw3 r=Z_ at *;simp[FK,IB,Fi,e,Cj,Cb,fr]
   rw[step];have eo:okA (x::xs) (r::rs)=Ad:=by rw[okA,ok',DB]
   rw[eo];exact⟨λh=>by (cases h),λ_=>⟨_,rfl⟩⟩
theorem aP(h9:Z.F 309 [.int p]=.ok (.lst RW))(hx:∀ es,Z.xn 16 es=.ok exP)(hl:¬ X.length=RW.length):Jf.run Z [.int p,.lst X]=.exn exP:=by
 have hl':¬ ((X.length:Ag)=(RW.length:Ag)):=by omega
 simp[Jf,Df.run,CF,h9,hl',hx]
theorem aO(h9:Z.F 309 [.int p]=.ok (.lst RW))(hl:X.length=RW.length)(lo:BN (FK Z [4,5] IB) (DG X RW) [si p,sh (.lst X),sh (.lst RW),Ab (.lst [],Aa),Af,Af]=.next [si p,sh (.lst X),sh (.lst RW),Ab (.lst Y_,Aa),s4,s5])(so:Gp Y_=.ok Z_)(cl:Z_.all (nlD 5)=Aa):Jf.run Z [.int p,.lst X]=.ok (.lst Z_):=by
 have cl':FN Aa (.lst Z_)=Aa:=by show (Aa&&Z_.all (nlD 5))=Aa;rw[cl];rfl
 simp[Jf,Df.run,CF,h9,hl,lo,so,Ix,Cb,cl']
theorem aQ{U:Rho}(h9:Z.F 309 [.int p]=.ok (.lst RW))(hl:X.length=RW.length)(lo:BN (FK Z [4,5] IB) (DG X RW) [si p,sh (.lst X),sh (.lst RW),Ab (.lst [],Aa),Af,Af]=.exn exP U):Jf.run Z [.int p,.lst X]=.exn exP:=by
 simp[Jf,Df.run,CF,h9,hl,lo,Ix,Cb]
end
theorem On:∀(cs:Ac Ae)(as:Ac R3),(CV cs as).Sublist as
 |[],as=>by cases as<;>exact FW _
 |c::cs,[]=>FW _
 |c::cs,a::as=>by
  rw[CV];split
  .exact(On cs as).cons₂ a
  .exact(On cs as).cons a
theorem Q8:∀(xs:Ac Ah)(rs:Ac (Ac R3)),(Gx xs rs).Sublist rs.flatten
 |[],rs=>by cases rs<;>exact FW _
 |x::xs,[]=>FW _
 |x::xs,r::rs=>by
  rw[Gx,List.flatten_cons];exact(On _ r).append (Q8 xs rs)
theorem Mn{n:Ae}(hp:P4 n):(cells n).flatten.Nodup/\(cells n).flatten.length<=200/\(cells n).length=n+1/\∀ r∈cells n,r.length<=20:=by
 rcases hp.n with rfl|rfl|rfl|rfl
 .decide+kernel
 .decide+kernel
 .decide+kernel
 .decide+kernel
noncomputable def T9(r:Ac Ag):R3:=(r.getD 0 0,r.getD 1 0,r.getD 2 0)
theorem fV{l:Ac R3}(nd:l.Nodup)(hl:l.length<=1000):∃ l',Gp (rw3 l)=.ok (rw3 l'):=by
 have e:∀ l:Ac R3,rw3 l=(l.map l3).map tI:=λl=>by
  unfold rw3;rw[Dl];exact En λa _=>rfl
 have inj:∀ a b:R3,l3 a=l3 b->a=b:=λa b h=>by
  obtain⟨a1,a2,a3⟩:=a;obtain⟨b1,b2,b3⟩:=b;simp[l3]at h;obtain⟨rfl,rfl,rfl⟩:=h;rfl
 have nd':(l.map l3).Nodup:=List.pairwise_map.mpr (nd.imp λh z=>h (inj _ _ z))
 refine⟨(Gv (l.map l3)).map T9,?_⟩;rw[e,e];have h:=Yg (rs:=l.map l3) (ys:=Gv (l.map l3)) (λr hr=>by
  obtain⟨a,_,rfl⟩:=Fa.mp hr;exact List.cons_ne_nil _ _) nd' (by rw[AX];exact hl) (Os nd') λr=>(Ld _).mem_iff
 have tb:((Gv (l.map l3)).map T9).map l3=Gv (l.map l3):=by
  rw[Dl]
  conv=>rhs;rw[<-List.map_id (Gv (l.map l3))]
  exact En λr hr=>by
   obtain⟨a,_,rfl⟩:=Fa.mp ((Ld _).mem_iff.mp hr);rfl
 rw[h,tb]
noncomputable def Jm(n:Ae)(xs:Ac Ah):Ac R3:=open Classical in if h:∃ l',Gp (rw3 (Gx xs (cells n)))=.ok (rw3 l') then U_0 h else []
theorem Q9{n:Ae}(hp:P4 n)(xs:Ac Ah):Gp (rw3 (Gx xs (cells n)))=.ok (rw3 (Jm n xs)):=by
 obtain⟨c1,c2,_⟩:=Mn hp;have sb:=Q8 xs (cells n);have h:=fV (c1.sublist sb) (by have:=sb.length_le;omega)
 unfold Jm;rw[dif_pos h];exact EK h
noncomputable def good(n:Ae)(xs:Ac Ah):Ai:=decide (xs.length=n+1)&&okA xs (cells n)
section
variable{Z:Gam}
def RN(Z:Gam):Prop:=∀(n:Ae)(xs:Ac Ah),P4 n->Txs xs->Z.F 313 [.int n,.lst (xs.map D.str)]=if good n xs=Aa then .ok (.lst (rw3 (Jm n xs))) else .exn exP
theorem iR(l:Ac R3):(rw3 l).all (nlD 5)=Aa:=by
 unfold rw3;rw[E9];exact C8.mpr λ_ _=>rfl
theorem YQ(h9:T8 Z)(hr:OH Z)(fr:Z.fr 312=Aa)(hx:∀ es,Z.xn 16 es=.ok exP)(n:Ae)(xs:Ac Ah)(hp:P4 n)(ht:Txs xs):Jf.run Z [.int n,.lst (xs.map D.str)]=if good n xs=Aa then .ok (.lst (rw3 (Jm n xs))) else .exn exP:=by
 obtain⟨c1,c2,c3,c4⟩:=Mn hp;have rl:(rws (cells n)).length=n+1:=by unfold rws;rw[AX,c3]
 by_cases hl:xs.length=n+1
 .have hl':(xs.map D.str).length=(rws (cells n)).length:=by rw[AX,rl,hl]
  have eg:good n xs=okA xs (cells n):=by unfold good;rw[DH hl,EY]
  have n11:n<=11:=by rcases hp.n with rfl|rfl|rfl|rfl<;>decide
  obtain⟨l1,l2⟩:=QS hr fr (.int n) (.lst (xs.map D.str)) (.lst (rws (cells n))) xs (cells n) [] Af Af ht c4 (by rw[c3];simp;omega)
  rw[eg];cases e:okA xs (cells n) with
  |true=>
   obtain⟨s4,s5,lo⟩:=l1 e;rw[HA]at lo;rw[Aq rfl];exact aO (h9 n hp) hl' lo (Q9 hp xs) (iR _)
  |false=>
   obtain⟨U,lo⟩:=l2 e;exact aQ (h9 n hp) hl' lo
 .have eg:good n xs=Ad:=by unfold good;rw[Bu hl,DB]
  rw[eg];exact aP (h9 n hp) hx (by rw[AX,rl];exact hl)
end
noncomputable def Fj:Ss:=(.cons (.ife (.cmp .NotIn (.idx (.idx (.var 0) (.var 3)) (.var 4)) (.str (AV "#."))) (.cons (.ret .non) .nil) .nil) (.cons (.asg 5 Ad (.tup (.cons (.var 4) (.cons (.bin .Sub (.bin .Sub (.var 1) (.int 1)) (.var 3)) (.cons (.int 1) .nil))))) (.cons (.ife (.cmp .Eq (.var 3) (.var 1)) (.cons (.asg 5 Ad (.idx (.lst (.cons (.tup (.cons (.int 1) (.cons (.var 4) (.cons (.int 0) .nil)))) (.cons (.tup (.cons (.int 0) (.cons (.int 1) (.cons (.int 0) .nil)))) .nil))) (.bi .int (.cons (.cmp .Eq (.var 4) (.var 1)) .nil)))) .nil) .nil) (.cons (.ife (.cmp .Eq (.idx (.idx (.var 0) (.var 3)) (.var 4)) (.str (AV "#"))) (.cons (.app 2 (.call 44 (.cons (.var 5) (.cons (.var 1) .nil)))) .nil) .nil) .nil))))
noncomputable def Gq:Ss:=(.cons (.ife (.cmp .NotEq (.bi .len (.cons (.idx (.var 0) (.var 3)) .nil)) (.bin .Add (.var 1) (.bi .int (.cons (.cmp .Eq (.var 3) (.var 1)) .nil)))) (.cons (.ret .non) .nil) .nil) (.cons (.fors 4 (.rng (.bi .len (.cons (.idx (.var 0) (.var 3)) .nil))) Fj) .nil))
noncomputable def HK:Df:=⟨6,Ad,(.cons (.ife (.or (.cons (.cmp .NotEq (.bi .len (.cons (.var 0) .nil)) (.bin .Add (.var 1) (.int 1))) (.cons (.cmp .NotEq (.bi .len (.cons (.idx (.var 0) (.var 1)) .nil)) (.bin .Add (.var 1) (.int 1))) .nil))) (.cons (.ret .non) .nil) .nil) (.cons (.asg 2 Aa (.lst .nil)) (.cons (.fors 3 (.rng (.bin .Add (.var 1) (.int 1))) Gq) (.cons (.ret (.bi .sorted (.cons (.var 2) .nil))) .nil))))⟩
theorem YR(Z:Gam)(hp:P4 p):(Dk p xs=Af->Lm.run Z [.tup (ds xs),.int p]=.ok .non)/\(∀ l t,Dk p xs=Ab l->HX p l t->Lm.run Z [.tup (ds xs),.int p]=.ok (.tup (ds (fmI p t xs)))):=by
 have p0:=hp.pos;have ph:=hp.hi;have c1:Ch (cG Z [sh (.tup (ds xs)),si p,Af,Af,Af,Af,Af,Af,Af] 5 FG) (cF Z [sh (.tup (ds xs)),si p,Af,Af,Af,Af,Af,Af,Af] 5 NF) (ds xs)=.ok (ds (xs.map λx=>x%p)):=by
  refine Li xs λx _=>⟨rfl,?_⟩
  simp[cF,NF,p0]
 generalize hR:(xs.map λx=>x%p)=rs at c1
 have c2:Ch (cG Z [sh (.tup (ds xs)),si p,sh (.lst (ds rs)),Af,Af,Af,Af,Af,Af] 6 NB) (cF Z [sh (.tup (ds xs)),si p,sh (.lst (ds rs)),Af,Af,Af,Af,Af,Af] 6 NE) (ds rs)=.ok (ds (rs.filter λr=>decide (0<r))):=by
  refine NL rs λx _=>⟨?_,?_⟩
  .simp[cG,NB]
  .simp[cF,NE]
 have hl:=Ql p0 xs;rw[hR]at hl;generalize hL:(rs.filter λr=>decide (0<r))=ls at c2 hl
 have dl:(ds ls).length=ls.length:=AX ..;refine⟨λz=>?_,λl t e it=>?_⟩
 .rw[z]at hl;have:ls=[]:=List.head?_eq_none_iff.mp hl;subst this;simp[Lm,Df.run,CF,c1,c2,dl]
 .rw[e]at hl;have hne:ls≠[]:=by rintro rfl;cases hl
  have hlen:(ls.length:Ag)≠0:=by have:=Vh.mpr hne;omega
  have g0:=QY hl;obtain⟨_,l0,l1⟩:=Lh p0 e;have c3:Ch (cG Z [sh (.tup (ds xs)),si p,sh (.lst (ds rs)),sh (.lst (ds ls)),Af,Af,Af,Af,Af] 7 NA) (cF Z [sh (.tup (ds xs)),si p,sh (.lst (ds rs)),sh (.lst (ds ls)),Af,Af,Af,Af,Af] 7 ND) (ds (Gy p))=.ok (ds ((Gy p).filter λk=>decide (k*l%p=1))):=by
   refine NL (Gy p) λx hx=>⟨?_,?_⟩
   .obtain⟨x1,x2⟩:=Kf.mp hx;have m:FJ x l=Aa:=OA (by omega) (by omega)
    simp[cG,NA,g0,m,p0];rw[Hx];simp
   .simp[cF,ND]
  have g1:=QY (XS it);have c4:Ch (cG Z [sh (.tup (ds xs)),si p,sh (.lst (ds rs)),sh (.lst (ds ls)),si t,Af,Af,Af,Af] 8 FG) (cF Z [sh (.tup (ds xs)),si p,sh (.lst (ds rs)),sh (.lst (ds ls)),si t,Af,Af,Af,Af] 8 NC) (ds rs)=.ok (ds (rs.map λr=>t*r%p)):=by
   refine Li rs λx _=>⟨rfl,?_⟩
   have m:FJ x t=Aa:=R7 (by have:=it.1;omega) (by have:=it.2.1;omega)
   simp[cF,NC,m,p0,Gd]
  have ru:Dj 1 p=.ok (ds (Gy p)):=Rb hp;have fe:fmI p t xs=rs.map λr=>t*r%p:=by rw[<-hR];simp[fmI,Dl,U_1]
  simp[Lm,Df.run,CF,c1,c2,dl,hlen,hne,ru,c3,g1,c4,fe]
def Nf(Z:Gam):Prop:=∀(p:Ag)(xs:Ac Ag)(l t:Ag),P4 p->Dk p xs=Ab l->HX p l t->Z.F 44 [.tup (ds xs),.int p]=.ok (.tup (ds (fmI p t xs)))
section
variable{Z:Gam}
theorem lD(hf:Nf Z)(hp:P4 p)(hl:∃ l,Dk p (l3 q)=Ab l):Z.F 44 [Cd Aa q,.int p]=.ok (Cd Aa (fq p q)):=by
 obtain⟨l,hl⟩:=hl;obtain⟨_,h0,h1⟩:=Lh hp.pos hl;have e:=hf p (l3 q) l _ hp hl (Rx hp h0 h1);rw[<-Ue hl]at e;exact e
noncomputable def KS(n y x:Ae):R3:=if y=n then (if x=n then (0,1,0) else (1,(x:Ag),0)) else ((x:Ag),(n:Ag)-1-(y:Ag),1)
theorem aI{n y x:Ae}(hp:P4 n)(hy:y<=n)(hx:x<n+(if y=n then 1 else 0)):(∃ l,Dk n (l3 (KS n y x))=Ab l)/\((cells n).getD y []).getD x (0,0,0)=fq n (KS n y x):=by
 have key:∀ n:Ae,(n=3\/n=5\/n=7\/n=11)->∀ y,y<n+1->∀ x,x<n+(if y=n then 1 else 0)->((Dk n (l3 (KS n y x))).isSome=Aa/\((cells n).getD y []).getD x (0,0,0)=fq n (KS n y x)):=by
  intro n hn;rcases hn with rfl|rfl|rfl|rfl<;>decide+kernel
 obtain⟨k1,k2⟩:=key n hp.n y (by omega) x hx
 exact⟨Eg.mp k1,k2⟩
end
noncomputable def hd2:Ah:=⟨#[35,46]⟩
theorem nV:AV "#." = hd2:=by kernel_rfl
theorem nZ(h:c<128):BK .NotIn (.str (sg c)) (.str hd2)=.ok (.bl (!okS c)):=by
 show R.ok (D.bl (!(!(EJ hd2 (sg c) 0 hd2.length 1).isEmpty)))=_;have:∀ c,c<128->(!(!(EJ hd2 (sg c) 0 hd2.length 1).isEmpty))=!okS c:=by decide+kernel
 rw[this c h]
section
variable{Z:Gam}
theorem lF{x:Ag}{q Q:D}(hc:c<128)(iy:CH X y=.ok (.str t))(ic:Hv (.str t) (.int x)=.ok (.str (sg c)))(hf:Z.F 44 [q,.int p]=.ok Q)(z:BD (A.length+1)=Aa)(hq:(¬ y=p/\q=.tup [.int x,.int (p-1-y),.int 1])\/(y=p/\¬ x=p/\q=.tup [.int 1,.int x,.int 0])\/(y=p/\x=p/\q=.tup [.int 0,.int 1,.int 0])):Bw Z 4 Fj (.int x) [sh (.lst X),si p,Ab (.lst A,Aa),si y,s4,s5]=if okS c=Aa then (.next [sh (.lst X),si p,Ab (.lst (if c=35 then A++[Q] else A),Aa),si y,si x,sh q]) else .ret .non Ad:=by
 have nn:=nZ hc;have e1:(sg c==hsh)=decide (c=35):=O3 c 35;have hi:=nV;generalize hd2=HD at *;have i0:∀ a b:D,CH [a,b] 0=.ok a:=λ_ _=>rfl
 have i1:∀ a b:D,CH [a,b] 1=.ok b:=λ_ _=>rfl
 generalize sg c=S at *;cases e:okS c with
 |false=>
  rw[e]at nn;simp only[UZ,IS]at nn;simp[Bw,Fj,iy,ic,hi,nn,Cb]
 |true=>
  rw[e]at nn;simp only[UZ,IS]at nn;rcases hq with ⟨hy,rfl⟩|⟨rfl,hx,rfl⟩|⟨rfl,rfl,rfl⟩
  .by_cases c1:c=35
   .simp[Bw,Fj,iy,ic,hi,nn,hy,IF,e1,c1,hf,Cj,z]
   .simp[Bw,Fj,iy,ic,hi,nn,hy,IF,e1,c1,hf,Cj,z]
  .by_cases c1:c=35
   .simp[Bw,Fj,iy,ic,hi,nn,hx,IF,e1,c1,hf,Cj,z,b2i,i0]
   .simp[Bw,Fj,iy,ic,hi,nn,hx,IF,e1,c1,hf,Cj,z,b2i,i0]
  .by_cases c1:c=35
   .simp[Bw,Fj,iy,ic,hi,nn,IF,e1,c1,hf,Cj,z,b2i,i1]
   .simp[Bw,Fj,iy,ic,hi,nn,IF,e1,c1,hf,Cj,z,b2i,i1]
theorem TU{k:Ae}(hz:t.length<=900)(hk:k<t.cps.size):Hv (.str t) (.int (0+(k:Ag)))=.ok (.str (sg (t.cps.toList.getD k 0))):=by
 show (if BD t.length=Aa then CH (IL t) (0+(k:Ag)) else .bad)=_
 rw[Aq (FM (by omega)),E8]
 have e:(IL t)[k]?=Ab (D.str (sg (t.cps.toList.getD k 0))):=by
  unfold IL;simp[hk,sg]
 exact JK (by omega) (by simpa using e)
theorem SR{X:Ac D}{p y:Ag}{t:Ah}{row:Ac R3}{q:Ae->R3}(hz:t.length<=900)(ha:asc t=Aa)(iy:CH X y=.ok (.str t))(hl:row.length=t.cps.size)(hr:row.length<=20)(hf:∀ k,k<t.cps.size->Z.F 44 [Cd Aa (q k),.int p]=.ok (Cd Aa (row.getD k (0,0,0))))(hq:∀ k:Ae,k<t.cps.size->(¬ y=p/\Cd Aa (q k)=.tup [.int (0+(k:Ag)),.int (p-1-y),.int 1])\/(y=p/\¬ (0+(k:Ag))=p/\Cd Aa (q k)=.tup [.int 1,.int (0+(k:Ag)),.int 0])\/(y=p/\(0+(k:Ag))=p/\Cd Aa (q k)=.tup [.int 0,.int 1,.int 0])):∀(m j:Ae)(acc:Ac R3)(s4 s5:Sl),j+m=t.cps.size->acc.length+m<=900->((t.cps.toList.drop j).all okS=Aa->∃ s4' s5',BN (Bw Z 4 Fj) ((GM j m).map fun(k:Ae)=>D.int (0+(k:Ag))) [sh (.lst X),si p,Ab (.lst (rw3 acc),Aa),si y,s4,s5]=.next [sh (.lst X),si p,Ab (.lst (rw3 (acc++CV (t.cps.toList.drop j) (row.drop j))),Aa),si y,s4',s5'])/\((t.cps.toList.drop j).all okS=Ad->BN (Bw Z 4 Fj) ((GM j m).map fun(k:Ae)=>D.int (0+(k:Ag))) [sh (.lst X),si p,Ab (.lst (rw3 acc),Aa),si y,s4,s5]=.ret .non Ad)
 |0,j,acc,s4,s5,hj,_=>by
  have e:t.cps.toList.drop j=[]:=DJ (by rw[AF];omega)
  have e2:CV ([]:Ac Ae) (row.drop j)=[]:=by cases row.drop j<;>rfl
  rw[e,e2,Bo];exact⟨λ_=>⟨s4,s5,rfl⟩,λh=>by (cases h)⟩
 |m+1,j,acc,s4,s5,hj,hm=>by
  have hk:j<t.cps.size:=by omega
  have hk':j<t.cps.toList.length:=by rw[AF];exact hk
  have ed:t.cps.toList.drop j=t.cps.toList.getD j 0::t.cps.toList.drop (j+1):=by
   rw[By hk']
   congr 1
   simp[hk]
  have er:row.drop j=row.getD j (0,0,0)::row.drop (j+1):=by
   rw[By (by omega)]
   congr 1
   simp[show j<row.length by omega]
  have c128:t.cps.toList.getD j 0<128:=by
   have h:=Array.all_eq_true.mp ha j hk;simpa [hk] using h
  have z:BD ((rw3 acc).length+1)=Aa:=FM (by rw[rw3,AX];omega)
  have st:=lF (Z:=Z) (X:=X) (A:=rw3 acc) (p:=p) (y:=y) (x:=0+(j:Ag)) (s4:=s4) (s5:=s5) c128 iy (TU hz hk) (hf j hk) z (hq j hk);have hd:∀(b:D->Rho->O)(x:D)(xs:Ac D)(U:Rho),BN b (x::xs) U=(b x U).turn (BN b xs):=λ_ _ _ _=>rfl
  rw[Vr,BP,hd,st,ed,er];generalize t.cps.toList.getD j 0=c at *;generalize row.getD j (0,0,0)=a at *;cases eo:okS c with
  |false=>
   rw[C5,eo,DB];exact⟨λh=>by (cases h),λ_=>rfl⟩
  |true=>
   rw[C5,eo,EY,Aq rfl];have hlen:(if c=35 then acc++[a] else acc).length<=acc.length+1:=by
    by_cases c1:c=35<;>simp[c1]
   have ih:=SR hz ha iy hl hr hf hq m (j+1) (if c=35 then acc++[a] else acc) (si (0+(j:Ag))) (sh (Cd Aa (q j))) (by omega) (by omega)
   have ea:(if c=35 then rw3 acc++[Cd Aa a] else rw3 acc)=rw3 (if c=35 then acc++[a] else acc):=by
    by_cases c1:c=35
    .rw[Aq c1,Aq c1];simp[rw3]
    .rw[Ar c1,Ar c1]
   have es:acc++CV (c::t.cps.toList.drop (j+1)) (a::row.drop (j+1))=(if c=35 then acc++[a] else acc)++CV (t.cps.toList.drop (j+1)) (row.drop (j+1)):=by
    rw[CV];by_cases c1:c=35
    .rw[Aq c1,Aq c1];simp
    .rw[Ar c1,Ar c1]
   rw[ea,es];exact ih
end
section
variable{Z:Gam}
theorem pR(iy:CH X y=.ok (.str t))(ln:biD .len [.str t]=.ok (.int m))(hm:¬ m=p+(if y=p then 1 else 0)):Bw Z 3 Gq (.int y) [sh (.lst X),si p,Ab (.lst A,Aa),s3,s4,s5]=.ret .non Ad:=by
 by_cases h:y=p
 .subst h;have hm:¬ m=y+1:=by simpa using hm
  simp[Bw,Gq,iy,ln,hm,Cb,b2i]
 .have hm:¬ m=p:=by simpa [h] using hm
  simp[Bw,Gq,iy,ln,hm,Cb,b2i,h]
theorem pS(iy:CH X y=.ok (.str t))(ln:biD .len [.str t]=.ok (.int m))(hm:m=p+(if y=p then 1 else 0))(rg:Dj 0 m=.ok G):(∀ U',BN (Bw Z 4 Fj) G [sh (.lst X),si p,Ab (.lst A,Aa),si y,s4,s5]=.next U'->Bw Z 3 Gq (.int y) [sh (.lst X),si p,Ab (.lst A,Aa),s3,s4,s5]=.next U')/\(BN (Bw Z 4 Fj) G [sh (.lst X),si p,Ab (.lst A,Aa),si y,s4,s5]=.ret .non Ad->Bw Z 3 Gq (.int y) [sh (.lst X),si p,Ab (.lst A,Aa),s3,s4,s5]=.ret .non Ad):=by
 by_cases h:y=p
 .subst h;have hm:m=y+1:=by simpa using hm
  constructor
  .intro U' lo;generalize hF:BN (Bw Z 4 Fj)=F at *;simp only[Bw,Gq];simp[iy,ln,rg,b2i,hF,lo,hm.symm]
  .intro lo;generalize hF:BN (Bw Z 4 Fj)=F at *;simp only[Bw,Gq];simp[iy,ln,rg,b2i,hF,lo,hm.symm]
 .have hm:m=p:=by simpa [h] using hm
  subst hm;constructor
  .intro U' lo;generalize hF:BN (Bw Z 4 Fj)=F at *;simp only[Bw,Gq];simp[iy,ln,rg,b2i,h,hF,lo]
  .intro lo;generalize hF:BN (Bw Z 4 Fj)=F at *;simp only[Bw,Gq];simp[iy,ln,rg,b2i,h,hF,lo]
theorem TJ(m:Ae):Dt 0 m=(GM 0 m).map fun(k:Ae)=>D.int (0+(k:Ag)):=by
 unfold Dt;rw[List.range_eq_range']
theorem JT(h:t.length<=900):biD .len [.str t]=.ok (.int (t.cps.size:Ag)):=by
 show (if BD t.length=Aa then R.ok (D.int t.length) else .bad)=_
 rw[Aq (FM (by omega))]
 rfl
theorem UH{m:Ae}(h:m<=900):Dj 0 (m:Ag)=.ok (Dt 0 m):=by
 rw[Lf (by omega) (by omega)]
 simp
theorem SQ(hf:Nf Z){n:Ae}(hp:P4 n){xs:Ac Ah}(ht:Txs xs)(hl:xs.length=n+1):∀(m j:Ae)(acc:Ac R3)(s3 s4 s5:Sl),j+m=n+1->acc.length+20*m<=400->(okA (xs.drop j) ((cells n).drop j)=Aa->∃ s3' s4' s5',BN (Bw Z 3 Gq) ((GM j m).map fun(k:Ae)=>D.int (0+(k:Ag))) [sh (.lst (xs.map D.str)),si n,Ab (.lst (rw3 acc),Aa),s3,s4,s5]=.next [sh (.lst (xs.map D.str)),si n,Ab (.lst (rw3 (acc++Gx (xs.drop j) ((cells n).drop j))),Aa),s3',s4',s5'])/\(okA (xs.drop j) ((cells n).drop j)=Ad->BN (Bw Z 3 Gq) ((GM j m).map fun(k:Ae)=>D.int (0+(k:Ag))) [sh (.lst (xs.map D.str)),si n,Ab (.lst (rw3 acc),Aa),s3,s4,s5]=.ret .non Ad)
 |0,j,acc,s3,s4,s5,hj,_=>by
  have e:xs.drop j=[]:=DJ (by omega)
  have e2:∀ l,Gx [] l=[]:=λl=>by cases l<;>rfl
  have e3:∀ l,okA [] l=Aa:=λl=>by cases l<;>rfl
  rw[e,e2,e3,Bo];exact⟨λ_=>⟨s3,s4,s5,rfl⟩,λh=>by (cases h)⟩
 |m+1,j,acc,s3,s4,s5,hj,hm=>by
  obtain⟨c1,c2,c3,c4⟩:=Mn hp;have n11:n<=11:=by rcases hp.n with rfl|rfl|rfl|rfl<;>decide
  have hk:j<xs.length:=by omega
  have hk2:j<(cells n).length:=by omega
  have ed:xs.drop j=xs[j]::xs.drop (j+1):=By hk;have er:(cells n).drop j=(cells n)[j]::(cells n).drop (j+1):=By hk2;obtain⟨ha,hz⟩:=ht xs[j] (BH hk);have rl:(cells n)[j].length=n+(if j=n then 1 else 0):=by
   have key:∀ n:Ae,(n=3\/n=5\/n=7\/n=11)->∀ j,j<n+1->((cells n).getD j []).length=n+(if j=n then 1 else 0):=by
    intro n hn;rcases hn with rfl|rfl|rfl|rfl<;>decide+kernel
   have:=key n hp.n j (by omega)
   rwa [Ba,AE hk2,Hm]at this
  have rg:(cells n).getD j []=(cells n)[j]:=by rw[Ba,AE hk2,Hm]
  have iy:CH (xs.map D.str) (0+(j:Ag))=.ok (.str xs[j]):=by
   rw[E8];exact JK (by omega) (by simp[hk])
  have hd:∀(b:D->Rho->O)(x:D)(xs:Ac D)(U:Rho),BN b (x::xs) U=(b x U).turn (BN b xs):=λ_ _ _ _=>rfl
  rw[Vr,BP,hd,ed,er];rw[okA,Gx];have yp:((0+(j:Ag))=(n:Ag))↔j=n:=by omega
  by_cases hs:xs[j].cps.size=(cells n)[j].length
  .have hmm:(xs[j].cps.size:Ag)=(n:Ag)+(if (0+(j:Ag))=(n:Ag) then 1 else 0):=by
    rw[hs,rl];by_cases h:j=n
    .rw[Aq h,Aq (yp.mpr h)];omega
    .rw[Ar h,Ar (λz=>h (yp.mp z))];omega
   have sz:xs[j].cps.size<=20:=by have:=c4 _ (BH hk2);omega
   have lx:=SR (Z:=Z) (X:=xs.map D.str) (p:=n) (y:=0+(j:Ag)) (t:=xs[j]) (row:=(cells n)[j]) (q:=KS n j) hz ha iy hs.symm (c4 _ (BH hk2)) (λk hk'=>by
     obtain⟨g1,g2⟩:=aI hp (show j<=n by omega) (show k<n+(if j=n then 1 else 0) by rw[<-rl,<-hs];exact hk')
     rw[rg]at g2;rw[g2];exact lD hf hp g1) (λk hk'=>by
     unfold KS;by_cases h:j=n
     .by_cases hx:k=n
      .exact .inr (.inr ⟨yp.mpr h,by omega,by rw[Aq h,Aq hx];rfl⟩)
      .exact .inr (.inl ⟨yp.mpr h,by omega,by rw[Aq h,Ar hx,E8];rfl⟩)
     .exact .inl ⟨λz=>h (yp.mp z),by rw[Ar h,E8,E8];rfl⟩) xs[j].cps.size 0 acc s4 s5 (by omega) (by omega)
   rw[Ec,Ec,<-TJ]at lx;have go:=pS (Z:=Z) (A:=rw3 acc) (s3:=s3) (s4:=s4) (s5:=s5) iy (JT hz) hmm (UH (by omega))
   have eo:F3 xs[j] (cells n)[j]=xs[j].cps.toList.all okS:=by unfold F3;rw[DH hs,EY]
   rw[eo];cases e:xs[j].cps.toList.all okS with
   |true=>
    obtain⟨s4',s5',lo⟩:=lx.1 e;rw[go.1 _ lo,EY];have sl:=Ot xs[j].cps.toList (cells n)[j];have ih:=SQ hf hp ht hl m (j+1) (acc++CV xs[j].cps.toList (cells n)[j]) (si (0+(j:Ag))) s4' s5' (by omega) (by rw[Be];omega)
    rw[<-Cc];exact ih
   |false=>
    rw[go.2 (lx.2 e),DB];exact⟨λh=>by (cases h),λ_=>rfl⟩
  .have eo:F3 xs[j] (cells n)[j]=Ad:=by unfold F3;rw[Bu hs,DB]
   have hmm:¬ (xs[j].cps.size:Ag)=(n:Ag)+(if (0+(j:Ag))=(n:Ag) then 1 else 0):=λz=>hs (by
    rw[rl];by_cases h:j=n
    .rw[Aq (yp.mpr h)]at z;rw[Aq h];omega
    .rw[Ar (λw=>h (yp.mp w))]at z;rw[Ar h];omega)
   rw[pR iy (JT hz) hmm,eo,DB];exact⟨λh=>by (cases h),λ_=>rfl⟩
end
section
variable{Z:Gam}
theorem eU{L:Ag}(hL:biD .len [.lst X]=.ok (.int L))(h:¬ L=p+1):HK.run Z [.lst X,.int p]=.ok .non:=by
 simp[HK,Df.run,CF,hL,h,Cb,-Jp]
theorem Zm{L:Ag}(hL:biD .len [.lst X]=.ok (.int L))(h:L=p+1)(ip:CH X p=.ok (.str t))(ln:biD .len [.str t]=.ok (.int m))(hm:¬ m=p+1):HK.run Z [.lst X,.int p]=.ok .non:=by
 subst h;simp[HK,Df.run,CF,hL,ip,ln,hm,Cb,-Jp]
theorem lE{L:Ag}(hL:biD .len [.lst X]=.ok (.int L))(h:L=p+1)(ip:CH X p=.ok (.str t))(ln:biD .len [.str t]=.ok (.int m))(hm:m=p+1)(rg:Dj 0 (p+1)=.ok G)(lo:BN (Bw Z 3 Gq) G [sh (.lst X),si p,Ab (.lst [],Aa),Af,Af,Af]=.next [sh (.lst X),si p,Ab (.lst Y_,Aa),s3,s4,s5])(so:Gp Y_=.ok Z_):HK.run Z [.lst X,.int p]=.ok (.lst Z_):=by
 subst h;subst hm;simp[HK,Df.run,CF,hL,ip,ln,Cb,Ix,rg,lo,so,-Jp]
theorem eT{L:Ag}(hL:biD .len [.lst X]=.ok (.int L))(h:L=p+1)(ip:CH X p=.ok (.str t))(ln:biD .len [.str t]=.ok (.int m))(hm:m=p+1)(rg:Dj 0 (p+1)=.ok G)(lo:BN (Bw Z 3 Gq) G [sh (.lst X),si p,Ab (.lst [],Aa),Af,Af,Af]=.ret .non Ad):HK.run Z [.lst X,.int p]=.ok .non:=by
 subst h;subst hm;simp[HK,Df.run,CF,hL,ip,ln,Cb,Ix,rg,lo,-Jp]
theorem Ro:∀(xs:Ac Ah)(rs:Ac (Ac R3))(j:Ae)(h:j<xs.length)(h2:j<rs.length),okA xs rs=Aa->F3 xs[j] rs[j]=Aa
 |[],rs,j,h,_,_=>by cases h
 |x::xs,[],j,_,h,_=>by cases h
 |x::xs,r::rs,0,_,_,e=>by
  rw[okA,Al]at e;exact e.1
 |x::xs,r::rs,j+1,h,h2,e=>by
  rw[okA,Al]at e;exact Ro xs rs j (by simpa using h) (by simpa using h2) e.2
noncomputable def Nn(n:Ae)(xs:Ac Ah):D:=if good n xs=Aa then .lst (rw3 (Jm n xs)) else .non
def Sw(Z:Gam):Prop:=∀(n:Ae)(xs:Ac Ah),P4 n->Txs xs->Z.F 320 [.lst (xs.map D.str),.int n]=.ok (Nn n xs)
theorem Z_6(hf:Nf Z)(n:Ae)(xs:Ac Ah)(hp:P4 n)(ht:Txs xs):HK.run Z [.lst (xs.map D.str),.int n]=.ok (Nn n xs):=by
 obtain⟨c1,c2,c3,c4⟩:=Mn hp;have n11:n<=11:=by rcases hp.n with rfl|rfl|rfl|rfl<;>decide
 have hL:biD .len [.lst (xs.map D.str)]=.ok (.int (xs.length:Ag)):=by rw[Jp,AX]
 unfold Nn;by_cases hl:xs.length=n+1
 .have eg:good n xs=okA xs (cells n):=by unfold good;rw[DH hl,EY]
  rw[eg];have hk:n<xs.length:=by omega
  have ip:CH (xs.map D.str) (n:Ag)=.ok (.str xs[n]):=JK (by omega) (by simp[hk])
  obtain⟨ha,hz⟩:=ht xs[n] (BH hk);have hL':(xs.length:Ag)=(n:Ag)+1:=by omega
  have rl:(cells n)[n]'(by omega)=LL n:=by
   unfold cells;rw[List.getElem_append_right (by simp)]
   simp
  have ll:(LL n).length=n+1:=by simp[LL]
  by_cases hs:xs[n].cps.size=n+1
  .have hm:(xs[n].cps.size:Ag)=(n:Ag)+1:=by omega
   have rg:Dj 0 ((n:Ag)+1)=.ok (Dt 0 (n+1)):=UH (m:=n+1) (by omega)
   have lo:=SQ hf hp ht hl (n+1) 0 [] Af Af Af (by omega) (by simp;omega)
   rw[Ec,Ec,<-TJ,HA]at lo;cases e:okA xs (cells n) with
   |true=>
    obtain⟨s3,s4,s5,lo⟩:=lo.1 e;rw[Aq rfl];exact lE hL hL' ip (JT hz) hm rg lo (Q9 hp xs)
   |false=>exact eT hL hL' ip (JT hz) hm rg (lo.2 e)
  .have hm:¬ (xs[n].cps.size:Ag)=(n:Ag)+1:=by omega
   have e:okA xs (cells n)=Ad:=by
    cases e:okA xs (cells n) with
    |false=>rfl
    |true=>
     have:=Ro xs (cells n) n hk (by omega) e
     unfold F3 at this;rw[Al,AQ,rl,ll]at this;exact absurd this.1 hs
   rw[e];exact Zm hL hL' ip (JT hz) hm
 .have eg:good n xs=Ad:=by unfold good;rw[Bu hl,DB]
  rw[eg];exact eU hL (by omega)
end
noncomputable def Nz:Df:=⟨2,Ad,(.cons (.asg 1 Ad (.str (AV " !\"#$&'()*+,-./0123456789:;<=>?@ABCDEFGHIJKLMNOPQRSTUVWXYZ[\\]^_`"))) (.cons (.asg 1 Ad (.bin .Add (.var 1) (.str (AV "abcdefghijklmnopqrstuvwxyz{|}~#.#.")))) (.cons (.ret (.idx (.var 1) (.bin .Mod (.var 0) (.bi .len (.cons (.var 1) .nil))))) .nil)))⟩
noncomputable def IC:Df:=⟨8,Ad,(.cons (.asg 2 Ad (.bin .Mod (.var 1) (.int 7))) (.cons (.ife (.cmp .Eq (.bi .len (.cons (.var 0) .nil)) (.int 0)) (.cons (.ret (.var 0)) .nil) .nil) (.cons (.asg 3 Ad (.bin .Mod (.bin .FloorDiv (.var 1) (.int 7)) (.bi .len (.cons (.var 0) .nil)))) (.cons (.asg 4 Ad (.idx (.var 0) (.var 3))) (.cons (.asg 5 Ad (.bin .Mod (.bin .FloorDiv (.var 1) (.int 84)) (.bin .Add (.bi .len (.cons (.var 4) .nil)) (.int 1)))) (.cons (.ife (.cmp .Eq (.var 2) (.int 0)) (.cons (.ret (.bin .Add (.sl (.var 0) .non (.var 3)) (.sl (.var 0) (.bin .Add (.var 3) (.int 1)) .non))) .nil) .nil) (.cons (.ife (.cmp .Eq (.var 2) (.int 1)) (.cons (.ret (.bin .Add (.bin .Add (.sl (.var 0) .non (.var 3)) (.lst (.cons (.var 4) .nil))) (.sl (.var 0) (.var 3) .non))) .nil) .nil) (.cons (.ife (.cmp .Eq (.var 2) (.int 2)) (.cons (.ret (.bin .Add (.sl (.var 0) (.un .USub (.int 1)) .non) (.sl (.var 0) .non (.un .USub (.int 1))))) .nil) .nil) (.cons (.asg 6 Ad (.call 317 (.cons (.bin .FloorDiv (.var 1) (.int 1008)) .nil))) (.cons (.asg 7 Ad (.bin .Add (.bin .Add (.sl (.var 4) .non (.var 5)) (.var 6)) (.sl (.var 4) (.bin .Add (.var 5) (.int 1)) .non))) (.cons (.ife (.cmp .Eq (.var 2) (.int 3)) (.cons (.asg 7 Ad (.bin .Add (.sl (.var 4) .non (.var 5)) (.sl (.var 4) (.bin .Add (.var 5) (.int 1)) .non))) .nil) .nil) (.cons (.ife (.cmp .Eq (.var 2) (.int 4)) (.cons (.asg 7 Ad (.bin .Add (.bin .Add (.sl (.var 4) .non (.var 5)) (.var 6)) (.sl (.var 4) (.var 5) .non))) .nil) .nil) (.cons (.ret (.bin .Add (.bin .Add (.sl (.var 0) .non (.var 3)) (.lst (.cons (.var 7) .nil))) (.sl (.var 0) (.bin .Add (.var 3) (.int 1)) .non))) .nil)))))))))))))⟩
theorem Mb(x:Ah)(l h:Am Ag):(Fm x l h).length<=x.length:=by
 unfold Fm;split
 .exact Aw _
 .show (Cn _).size<=_;rw[AH];exact B5 (List.length_filterMap_le _ _) (PyProof.Rows.indices_len_le _ _ _)
theorem Lv:asc x=Aa↔∀ c∈x.cps.toList,c<128:=by
 unfold asc;rw[<-Array.all_toList,C8];simp
theorem OF(h:asc x=Aa)(l u:Am Ag):asc (Fm x l u)=Aa:=by
 unfold Fm;split
 .exact h
 .rw[Lv];intro c hc;have hc':c∈(DO l u 1 x.length).filterMap (x.cps[·]?):=by simpa using hc
  obtain⟨i,_,hi⟩:=Vl.mp hc';exact Lv.mp h c (by rw[Array.mem_toList_iff];exact Array.mem_of_getElem? hi)
theorem Jd{y:Ah}(hx:asc x=Aa)(hy:asc y=Aa):asc (x++y)=Aa:=by
 rw[Lv]at *;intro c hc;have e:(x++y).cps.toList=x.cps.toList++y.cps.toList:=A9 ..;rw[e]at hc;rcases Ce.mp hc with h|h
 .exact hx c h
 .exact hy c h
theorem Lg(x y:Ah):(x++y).length=x.length+y.length:=FB
theorem LO{y:Ah}(h:x.length+y.length<=1000):BX .Add (.str x) (.str y)=.ok (.str (x++y)):=by
 rw[JO,Aq (FM h)]
theorem PD(h:x.length<=1000)(l u:Am Ag):slD (.str x) l u=.ok (.str (Fm x l u)):=by
 show (if (BD x.length&&BD (Fm x l u).length)=Aa then R.ok (D.str (Fm x l u)) else .bad)=_
 rw[FM h,FM (B5 (Mb x l u) h)];rfl
theorem Ma(xs:Ac Ah)(l u:Am Ag):∃ ys:Ac Ah,(∀ y∈ys,y∈xs)/\ys.length<=xs.length/\Ev (xs.map D.str) l u=ys.map D.str:=by
 unfold Ev;rw[<-List.map_drop,<-List.map_take];exact⟨_,λy hy=>Vn (Vo hy),by rw[C9,Ef];omega,rfl⟩
def TxB(b:Ae)(xs:Ac Ah):Prop:=∀ x∈xs,asc x=Aa/\x.length<=b
def SK(Z:Gam):Prop:=∀ n:Ag,∃ c:Ah,asc c=Aa/\c.length=1/\Z.F 317 [.int n]=.ok (.str c)
def SL(Z:Gam):Prop:=∀(m:Ag)(xs:Ac Ah)(b:Ae),0<=m->b<=400->xs.length<=100->TxB b xs->∃ ys:Ac Ah,TxB (2*b+1) ys/\ys.length<=2*xs.length+1/\Z.F 319 [.lst (xs.map D.str),.int m]=.ok (.lst (ys.map D.str))
section
variable{Z:Gam}
theorem jF(n:Ag):∃ c:Ah,asc c=Aa/\c.length=1/\Nz.run Z [.int n]=.ok (.str c):=by
 have ha:(AV " !\"#$&'()*+,-./0123456789:;<=>?@ABCDEFGHIJKLMNOPQRSTUVWXYZ[\\]^_`").length=64:=by kernel_rfl
 have hb:(AV "abcdefghijklmnopqrstuvwxyz{|}~#.#.").length=34:=by kernel_rfl
 have aa:asc (AV " !\"#$&'()*+,-./0123456789:;<=>?@ABCDEFGHIJKLMNOPQRSTUVWXYZ[\\]^_`")=Aa:=by kernel_rfl
 have ab:asc (AV "abcdefghijklmnopqrstuvwxyz{|}~#.#.")=Aa:=by kernel_rfl
 simp only[Nz];generalize AV " !\"#$&'()*+,-./0123456789:;<=>?@ABCDEFGHIJKLMNOPQRSTUVWXYZ[\\]^_`" = A at *
 generalize AV "abcdefghijklmnopqrstuvwxyz{|}~#.#." = B at *;have ad:=LO (x:=A) (y:=B) (by omega)
 have al:=Jd aa ab;have ll:=Lg A B;generalize A++B=C at *;have cz:C.cps.size=98:=by show C.length=98;omega
 have ln:=JT (t:=C) (by omega)
 rw[cz]at ln;have r0:=CZ n (b:=98) (by omega)
 have r1:=Cz n (b:=98) (by omega)
 obtain⟨k,hk⟩:=Fv r0;have ix:=TU (t:=C) (k:=k) (by omega) (by omega)
 rw[E8,<-hk]at ix;refine⟨sg (C.cps.toList.getD k 0),?_,rfl,?_⟩
 .rw[Lv];intro c hc;have hc':c=C.cps.toList.getD k 0:=by simpa [sg] using hc
  rw[hc'];have hk':k<C.cps.toList.length:=by rw[AF];omega
  rw[Ba,AE hk',Hm];exact Lv.mp al _ (BH hk')
 .generalize sg (C.cps.toList.getD k 0)=S at *;have ln':biD .len [.str C]=.ok (.int 98):=ln;simp[Df.run,CF,ad,ln',ix,Cb,-JO]
end
section
variable{Z:Gam}
noncomputable abbrev Et(L:Ac D)(m W t:Ag)(x0:Ah)(u:Ag)(s6 s7:Sl):Rho:=[sh (.lst L),si m,si W,si t,sh (.str x0),si u,s6,s7]
theorem eF{N M t u:Ag}(hL:biD .len [.lst L]=.ok (.int N))(h0:¬ N=0)(q1:0<N)(ht:m/7%N=t)(ix:CH L t=.ok (.str x0))(lx:biD .len [.str x0]=.ok (.int M))(q2:0<M+1)(hu:m/84%(M+1)=u):evSs Z [sh (.lst L),si m,Af,Af,Af,Af,Af,Af] (IC.body.take 5)=.next (Et L m (m%7) t x0 u Af Af):=by
 simp[IC,Ss.take,hL,h0,q1,ht,ix,lx,q2,hu,-Jp]
theorem pN{W t u:Ag}{s6 s7:Sl}(k:Ag)(a rest:Ss):evSs Z (Et L m W t x0 u s6 s7) (.cons (.ife (.cmp .Eq (.var 2) (.int k)) a .nil) rest)=if W=k then Eu Z rest (evSs Z (Et L m W t x0 u s6 s7) a) else evSs Z (Et L m W t x0 u s6 s7) rest:=by
 by_cases h:W=k
 .rw[Aq h];simp[h]
 .rw[Ar h];simp[h]
noncomputable def chA:Ss:=(.cons (.ret (.bin .Add (.sl (.var 0) .non (.var 3)) (.sl (.var 0) (.bin .Add (.var 3) (.int 1)) .non))) .nil)
noncomputable def chB:Ss:=(.cons (.ret (.bin .Add (.bin .Add (.sl (.var 0) .non (.var 3)) (.lst (.cons (.var 4) .nil))) (.sl (.var 0) (.var 3) .non))) .nil)
noncomputable def chC:Ss:=(.cons (.ret (.bin .Add (.sl (.var 0) (.un .USub (.int 1)) .non) (.sl (.var 0) .non (.un .USub (.int 1))))) .nil)
noncomputable def ch6:S:=(.asg 6 Ad (.call 317 (.cons (.bin .FloorDiv (.var 1) (.int 1008)) .nil)))
noncomputable def ch7:S:=(.asg 7 Ad (.bin .Add (.bin .Add (.sl (.var 4) .non (.var 5)) (.var 6)) (.sl (.var 4) (.bin .Add (.var 5) (.int 1)) .non)))
noncomputable def ch3:Ss:=(.cons (.asg 7 Ad (.bin .Add (.sl (.var 4) .non (.var 5)) (.sl (.var 4) (.bin .Add (.var 5) (.int 1)) .non))) .nil)
noncomputable def ch4:Ss:=(.cons (.asg 7 Ad (.bin .Add (.bin .Add (.sl (.var 4) .non (.var 5)) (.var 6)) (.sl (.var 4) (.var 5) .non))) .nil)
noncomputable def chD:Ss:=(.cons (.ret (.bin .Add (.bin .Add (.sl (.var 0) .non (.var 3)) (.lst (.cons (.var 7) .nil))) (.sl (.var 0) (.bin .Add (.var 3) (.int 1)) .non))) .nil)
noncomputable def chK(k:Ag)(a rest:Ss):Ss:=.cons (.ife (.cmp .Eq (.var 2) (.int k)) a .nil) rest
theorem fH:IC.body.drop 5=chK 0 chA (chK 1 chB (chK 2 chC (.cons ch6 (.cons ch7 (chK 3 ch3 (chK 4 ch4 chD)))))):=rfl
section
variable{L:Ac D}{m W t u:Ag}{x0:Ah}{s6 s7:Sl}
theorem F8(k:Ag)(a rest:Ss):evSs Z (Et L m W t x0 u s6 s7) (chK k a rest)=if W=k then Eu Z rest (evSs Z (Et L m W t x0 u s6 s7) a) else evSs Z (Et L m W t x0 u s6 s7) rest:=pN k a rest
theorem pY(rest:Ss)(e:BX .Add (.lst (Ev L Af (Ab t))) (.lst (Ev L (Ab (t+1)) Af))=.ok (.lst Y_)):(Eu Z rest (evSs Z (Et L m W t x0 u s6 s7) chA)).ans Ad=.ok (.lst Y_):=by
 simp[chA,slE,e,Cb,-IG]
theorem pX(rest:Ss)(e:BX .Add (.lst (Ev L Af (Ab t))) (.lst [.str x0])=.ok (.lst Z_))(f:BX .Add (.lst Z_) (.lst (Ev L (Ab t) Af))=.ok (.lst Y_)):(Eu Z rest (evSs Z (Et L m W t x0 u s6 s7) chB)).ans Ad=.ok (.lst Y_):=by
 simp[chB,slE,e,f,Cb,-IG]
theorem pW(rest:Ss)(e:BX .Add (.lst (Ev L (Ab (-1)) Af)) (.lst (Ev L Af (Ab (-1))))=.ok (.lst Y_)):(Eu Z rest (evSs Z (Et L m W t x0 u s6 s7) chC)).ans Ad=.ok (.lst Y_):=by
 simp[chC,slE,e,Cb,-IG]
theorem qA(rest:Ss)(e:Z.F 317 [.int (m/1008)]=.ok (.str C)):evSs Z (Et L m W t x0 u s6 s7) (.cons ch6 rest)=evSs Z (Et L m W t x0 u (sh (.str C)) s7) rest:=by
 simp[ch6,e]
theorem pZ{K2 Z_1 Z_14:Ah}(rest:Ss)(s1:slD (.str x0) Af (Ab u)=.ok (.str K1))(s2:slD (.str x0) (Ab (u+1)) Af=.ok (.str K2))(d2:BX .Add (.str K1) (.str C)=.ok (.str Z_1))(d4:BX .Add (.str Z_1) (.str K2)=.ok (.str Z_14)):evSs Z (Et L m W t x0 u (sh (.str C)) s7) (.cons ch7 rest)=evSs Z (Et L m W t x0 u (sh (.str C)) (sh (.str Z_14))) rest:=by
 simp[ch7,slE,s1,s2,d2,d4,-JO]
theorem qC{K2 Z_12:Ah}(rest:Ss)(s1:slD (.str x0) Af (Ab u)=.ok (.str K1))(s2:slD (.str x0) (Ab (u+1)) Af=.ok (.str K2))(d1:BX .Add (.str K1) (.str K2)=.ok (.str Z_12)):Eu Z rest (evSs Z (Et L m W t x0 u s6 s7) ch3)=evSs Z (Et L m W t x0 u s6 (sh (.str Z_12))) rest:=by
 simp[ch3,slE,s1,s2,d1,-JO]
theorem qB{K3 Z_1 Z_13:Ah}(rest:Ss)(s1:slD (.str x0) Af (Ab u)=.ok (.str K1))(s3:slD (.str x0) (Ab u) Af=.ok (.str K3))(d2:BX .Add (.str K1) (.str C)=.ok (.str Z_1))(d3:BX .Add (.str Z_1) (.str K3)=.ok (.str Z_13)):Eu Z rest (evSs Z (Et L m W t x0 u (sh (.str C)) s7) ch4)=evSs Z (Et L m W t x0 u (sh (.str C)) (sh (.str Z_13))) rest:=by
 simp[ch4,slE,s1,s3,d2,d3,-JO]
theorem PV{Zs:Ah}(e:BX .Add (.lst (Ev L Af (Ab t))) (.lst [.str Zs])=.ok (.lst Z_))(f:BX .Add (.lst Z_) (.lst (Ev L (Ab (t+1)) Af))=.ok (.lst Y_)):(evSs Z (Et L m W t x0 u s6 (sh (.str Zs))) chD).ans Ad=.ok (.lst Y_):=by
 simp[chD,slE,e,f,Cb,-IG]
end
theorem jI(hs:SK Z)(m:Ag)(xs:Ac Ah)(b:Ae)(m0:0<=m)(hb:b<=400)(hl:xs.length<=100)(hx:TxB b xs):∃ ys:Ac Ah,TxB (2*b+1) ys/\ys.length<=2*xs.length+1/\IC.run Z [.lst (xs.map D.str),.int m]=.ok (.lst (ys.map D.str)):=by
 have ln:(xs.map D.str).length=xs.length:=AX ..;by_cases h0:xs.length=0
 .refine⟨xs,λx h=>⟨(hx x h).1,by have:=(hx x h).2;omega⟩,by omega,?_⟩
  have e:xs=[]:=Vg.mp h0;subst e;simp[IC,Df.run,CF,Cb]
 have h0':¬ ((xs.length:Ag)=0):=by omega
 have hne:¬ xs=[]:=λe=>h0 (by rw[e];rfl)
 have hpos:0<xs.length:=by omega
 have q1:(0:Ag)<(xs.length:Ag):=by omega
 have r0:=CZ (m/7) (b:=(xs.length:Ag)) (by omega)
 have r1:=Cz (m/7) q1;generalize ht:m/7%(xs.length:Ag)=t at *;obtain⟨k,hk⟩:=Fv r0;have hkl:k<xs.length:=by omega
 obtain⟨a0,l0⟩:=hx xs[k] (BH _);have hxm:xs[k]∈xs:=BH _;have ix:CH (xs.map D.str) t=.ok (.str xs[k]):=by
  rw[hk];exact JK (by omega) (by simp[hkl])
 generalize xs[k]=x0 at *;have lx:biD .len [.str x0]=.ok (.int (x0.cps.size:Ag)):=JT (by omega)
 have xz:x0.cps.size=x0.length:=rfl;rw[xz]at lx;have q2:(0:Ag)<(x0.length:Ag)+1:=by omega
 generalize hu:m/84%((x0.length:Ag)+1)=u at *;have c2:∀(l1 u1 l2 u2:Am Ag),∃ ys:Ac Ah,TxB (2*b+1) ys/\ys.length<=2*xs.length+1/\BX .Add (.lst (Ev (xs.map D.str) l1 u1)) (.lst (Ev (xs.map D.str) l2 u2))=.ok (.lst (ys.map D.str)):=λl1 u1 l2 u2=>by
  obtain⟨ys,y1,y2,y3⟩:=Ma xs l1 u1;obtain⟨zs,z1,z2,z3⟩:=Ma xs l2 u2;refine⟨ys++zs,λy hy=>?_,by rw[Be];omega,?_⟩
  .rcases Ce.mp hy with hy|hy
   .exact⟨(hx y (y1 y hy)).1,by have:=(hx y (y1 y hy)).2;omega⟩
   .exact⟨(hx y (z1 y hy)).1,by have:=(hx y (z1 y hy)).2;omega⟩
  .rw[y3,z3,IG,Aq (FM (by simp;omega)),Vj]
 have c3:∀(l1 u1 l2 u2:Am Ag)(z:Ah),asc z=Aa->z.length<=2*b+1->∃ ys:Ac Ah,TxB (2*b+1) ys/\ys.length<=2*xs.length+1/\BX .Add (.lst (Ev (xs.map D.str) l1 u1)) (.lst [.str z])=.ok (.lst (Ev (xs.map D.str) l1 u1++[.str z]))/\BX .Add (.lst (Ev (xs.map D.str) l1 u1++[.str z])) (.lst (Ev (xs.map D.str) l2 u2))=.ok (.lst (ys.map D.str)):=λl1 u1 l2 u2 z za zl=>by
  obtain⟨ys,y1,y2,y3⟩:=Ma xs l1 u1;obtain⟨zs,z1,z2,z3⟩:=Ma xs l2 u2;refine⟨ys++[z]++zs,λy hy=>?_,by simp only[Be,EM];omega,?_,?_⟩
  .rcases Ce.mp hy with hy|hy
   .rcases Ce.mp hy with hy|hy
    .exact⟨(hx y (y1 y hy)).1,by have:=(hx y (y1 y hy)).2;omega⟩
    .rw[Bk.mp hy];exact⟨za,zl⟩
   .exact⟨(hx y (z1 y hy)).1,by have:=(hx y (z1 y hy)).2;omega⟩
  .rw[y3,IG,Aq (FM (by simp;omega))]
  .rw[y3,z3,IG,Aq (FM (by simp;omega))]
   simp
 obtain⟨C,ca,cl,e17⟩:=hs (m/1008);have s1:=PD (x:=x0) (by omega) Af (Ab u)
 have s2:=PD (x:=x0) (by omega) (Ab (u+1)) Af
 have s3:=PD (x:=x0) (by omega) (Ab u) Af
 have n1:=Mb x0 Af (Ab u);have n2:=Mb x0 (Ab (u+1)) Af;have n3:=Mb x0 (Ab u) Af;have a1:=OF a0 Af (Ab u);have a2:=OF a0 (Ab (u+1)) Af;have a3:=OF a0 (Ab u) Af;generalize Fm x0 Af (Ab u)=K1 at *;generalize Fm x0 (Ab (u+1)) Af=K2 at *;generalize Fm x0 (Ab u) Af=K3 at *;have d1:=LO (x:=K1) (y:=K2) (by omega)
 have d2:=LO (x:=K1) (y:=C) (by omega)
 have l12:=Lg K1 K2;have l1c:=Lg K1 C;have d3:=LO (x:=K1++C) (y:=K3) (by omega)
 have d4:=LO (x:=K1++C) (y:=K2) (by omega)
 have l13:=Lg (K1++C) K3;have l14:=Lg (K1++C) K2;have v1:=Jd a1 a2;have v2:=Jd (Jd a1 ca) a3;have v3:=Jd (Jd a1 ca) a2;have hw:m%7=0\/m%7=1\/m%7=2\/m%7=3\/4<=m%7:=by omega
 generalize K1++K2=Z_12 at *;generalize K1++C++K3=Z_13 at *;generalize K1++C++K2=Z_14 at *;generalize K1++C=Z_1 at *;have hL:biD .len [.lst (xs.map D.str)]=.ok (.int (xs.length:Ag)):=by rw[Jp,ln]
 generalize hN:(xs.length:Ag)=N at *;generalize hM:(x0.length:Ag)=M at *;have e0:∀ L,IC.run Z [.lst L,.int m]=(evSs Z [sh (.lst L),si m,Af,Af,Af,Af,Af,Af] IC.body).ans Ad:=λ_=>rfl
 have hd:IC.run Z [.lst (xs.map D.str),.int m]=(evSs Z (Et (xs.map D.str) m (m%7) t x0 u Af Af) (chK 0 chA (chK 1 chB (chK 2 chC (.cons ch6 (.cons ch7 (chK 3 ch3 (chK 4 ch4 chD)))))))).ans Ad:=by
  rw[e0,Od Z 5,eF hL h0' q1 ht ix lx q2 hu,OC,fH]
 rw[hd];have r7:¬ m%7=0->¬ m%7=1->¬ m%7=2->evSs Z (Et (xs.map D.str) m (m%7) t x0 u Af Af) (chK 0 chA (chK 1 chB (chK 2 chC (.cons ch6 (.cons ch7 (chK 3 ch3 (chK 4 ch4 chD)))))))=evSs Z (Et (xs.map D.str) m (m%7) t x0 u (sh (.str C)) (sh (.str Z_14))) (chK 3 ch3 (chK 4 ch4 chD)):=λa b c=>by
  rw[F8,Ar a,F8,Ar b,F8,Ar c,qA _ e17,pZ _ s1 s2 d2 d4]
 rcases hw with w|w|w|w|w
 .obtain⟨ys,y1,y2,e⟩:=c2 Af (Ab t) (Ab (t+1)) Af;exact⟨ys,y1,y2,by rw[F8,Aq w];exact pY _ e⟩
 .obtain⟨ys,y1,y2,e,f⟩:=c3 Af (Ab t) (Ab t) Af x0 a0 (by omega)
  exact⟨ys,y1,y2,by rw[F8,Ar (by omega),F8,Aq w];exact pX _ e f⟩
 .obtain⟨ys,y1,y2,e⟩:=c2 (Ab (-1)) Af Af (Ab (-1));exact⟨ys,y1,y2,by rw[F8,Ar (by omega),F8,Ar (by omega),F8,Aq w];exact pW _ e⟩
 .obtain⟨ys,y1,y2,e,f⟩:=c3 Af (Ab t) (Ab (t+1)) Af Z_12 v1 (by omega)
  exact⟨ys,y1,y2,by rw[r7 (by omega) (by omega) (by omega),F8,Aq w,qC _ s1 s2 d1,F8,Ar (by omega)];exact PV e f⟩
 .by_cases w4:m%7=4
  .obtain⟨ys,y1,y2,e,f⟩:=c3 Af (Ab t) (Ab (t+1)) Af Z_13 v2 (by omega)
   exact⟨ys,y1,y2,by rw[r7 (by omega) (by omega) (by omega),F8,Ar (by omega),F8,Aq w4,qB _ s1 s3 d2 d3];exact PV e f⟩
  .obtain⟨ys,y1,y2,e,f⟩:=c3 Af (Ab t) (Ab (t+1)) Af Z_14 v3 (by omega)
   exact⟨ys,y1,y2,by rw[r7 (by omega) (by omega) (by omega),F8,Ar (by omega),F8,Ar w4];exact PV e f⟩
end
noncomputable def La:E:=(.idx (.str (AV ".#")) (.bin .Mod (.bin .FloorDiv (.call 3 (.cons (.var 0) (.cons (.bin .Add (.bin .Mult (.int 12) (.var 3)) (.var 5)) .nil))) (.int 5)) (.int 2)))
noncomputable def L5:Ss:=(.cons (.asg 4 Ad (.bin .Add (.var 1) (.bi .int (.cons (.cmp .Eq (.var 3) (.var 1)) .nil)))) (.cons (.app 2 (.bi .sjoin (.cons (.str (AV "")) (.cons (.comp La 5 (.rng (.var 4)) FG) .nil)))) .nil))
noncomputable def NM:Df:=⟨6,Ad,(.cons (.asg 2 Aa (.lst .nil)) (.cons (.fors 3 (.rng (.bin .Add (.var 1) (.int 1))) L5) (.cons (.ret (.var 2)) .nil)))⟩
noncomputable def Nw:Df:=⟨4,Ad,(.cons (.asg 2 Ad (.bl Ad)) (.cons (.tryx (.cons (.expr (.call 313 (.cons (.var 0) (.cons (.var 1) .nil)))) .nil) 16 3 (.cons (.asg 2 Ad (.and (.cons (.isi (.var 3) [.cls 0]) (.cons (.isi (.var 3) [.verr]) (.cons (.no (.isi (.var 3) [.cls 106,.cls 12,.cls 1])) .nil))))) .nil)) (.cons (.ret (.var 2)) .nil)))⟩
noncomputable def Qg:E:=(.bl Aa)
noncomputable def Qh:E:=(.and (.cons (.isi (.var 2) [.int]) (.cons (.no (.isi (.var 2) [.bool])) .nil)))
noncomputable def Oh:Df:=⟨3,Ad,(.cons (.ife (.or (.cons (.no (.isi (.var 0) [.tuple])) (.cons (.cmp .NotEq (.var 0) (.var 1)) .nil))) (.cons (.ret (.bl Ad)) .nil) .nil) (.cons (.ret (.bi .all (.cons (.comp Qh 2 (.e (.var 0)) Qg) .nil))) .nil))⟩
noncomputable def Qf:E:=(.bl Aa)
noncomputable def NP:E:=(.call 45 (.cons (.var 2) (.cons (.var 2) .nil)))
noncomputable def Og:Df:=⟨3,Ad,(.cons (.ret (.and (.cons (.isi (.var 0) [.list]) (.cons (.cmp .Eq (.var 0) (.var 1)) (.cons (.bi .all (.cons (.comp NP 2 (.e (.var 0)) Qf) .nil)) .nil))))) .nil)⟩
theorem Qr{sep:Ah}(hs:asc sep=Aa):∀ xs:Ac Ah,(∀ x∈xs,asc x=Aa)->asc (K7 sep xs)=Aa
 |[],_=>by
  show asc Str.empty=Aa;decide+kernel
 |[x],h=>h x (by simp)
 |x::y::r,h=>by
  show asc (x++sep++K7 sep (y::r))=Aa;exact Jd (Jd (h x (by simp)) hs) (Qr hs (y::r) λz hz=>h z (AC _ hz))
theorem Qj:∀ xs:Ac Ah,Jh (xs.map D.str)=Ab xs
 |[]=>rfl
 |x::xs=>by
  show (Jh (xs.map D.str)).map (x :: ·)=_;rw[Qj xs];rfl
theorem Qa:∀ xs:Ac Ah,(∀ x∈xs,x.length=1)->(xs.map (·.length)).sum=xs.length
 |[],_=>rfl
 |x::xs,h=>by
  rw[BP,List.sum_cons,Qa xs λy hy=>h y (AC _ hy),h x (by simp),AS]
  omega
theorem qH{xs:Ac Ah}(hl:xs.length<=100)(hx:∀ x∈xs,asc x=Aa/\x.length=1):∃ t:Ah,asc t=Aa/\t.length<=100/\biD .sjoin [.str (AV ""),.lst (xs.map D.str)]=.ok (.str t):=by
 have e0:(AV "").length=0:=by kernel_rfl
 have a0:asc (AV "")=Aa:=by kernel_rfl
 generalize AV "" = E0 at *;have sm:=Qa xs λx h=>(hx x h).2
 have jl:=StrLaws.join_length_le E0 xs;rw[sm,e0,VA,Hj]at jl;have jo:IY E0 xs=Aa:=by
  unfold IY Builtin.Str.tooLong;rw[StrLaws.joinTotal,sm,e0,VA,Hj];have:¬ (xs.length>sizeLine):=λh=>by
   have:sizeLine ≥ 1000:=by decide
   omega
  simp[this]
 refine⟨K7 E0 xs,Qr a0 xs λx h=>(hx x h).1,by omega,?_⟩
 show Lx E0 (xs.map D.str)=_;unfold Lx;rw[Qj];show (if IY E0 xs=Aa then R.ok (D.str (K8 E0 xs)) else .bad)=_
 rw[Aq jo];show R.ok (D.str (Builtin.Str.glued E0 xs))=_;rw[StrLaws.glued_eq_join]
theorem QB{g:D->R Ai}{f:D->R D}:∀ l:Ac D,(∀ d∈l,g d=.ok Aa/\∃ x:Ah,(asc x=Aa/\x.length=1)/\f d=.ok (.str x))->∃ xs:Ac Ah,xs.length=l.length/\(∀ x∈xs,asc x=Aa/\x.length=1)/\Ch g f l=.ok (xs.map D.str)
 |[],_=>⟨[],rfl,λ_ h=>(by cases h),rfl⟩
 |d::l,h=>by
  obtain⟨g1,x,hx,f1⟩:=h d (by simp)
  obtain⟨xs,h1,h2,h3⟩:=QB l λy hy=>h y (AC _ hy)
  refine⟨x::xs,by rw[AS,AS,h1],λy hy=>?_,?_⟩
  .rcases AI.mp hy with e|e
   .rw[e];exact hx
   .exact h2 y e
  .show (g d).bind _=_;rw[g1,R.bind_ok,Aq rfl,f1,R.bind_ok];show (Ch g f l).bind _=_;rw[h3];rfl
section
variable{Z:Gam}
theorem pV(hm:Ko Z)(ns:Ac Ag)(P L s4:Sl)(y x:Ag)(hy:FJ 12 y=Aa):∃ c:Ah,(asc c=Aa/\c.length=1)/\cF Z [sh (scr ns),P,L,si y,s4,Af] 5 La (.int x)=.ok (.str c):=by
 have e:=hm ns (12*y+x);generalize IN ns (12*y+x)=m at *;have i0:Hv (.str (AV ".#")) (.int 0)=.ok (.str dot):=by kernel_rfl
 have i1:Hv (.str (AV ".#")) (.int 1)=.ok (.str hsh):=by kernel_rfl
 generalize scr ns=S at *;have hr:m/5%2=0\/m/5%2=1:=by omega
 rcases hr with r|r
 .refine⟨dot,⟨by decide+kernel,rfl⟩,?_⟩
  generalize hT:AV ".#" = T at *;simp[cF,La,hy,e,r,i0,hT]
 .refine⟨hsh,⟨by decide+kernel,rfl⟩,?_⟩
  generalize hT:AV ".#" = T at *;simp[cF,La,hy,e,r,i1,hT]
theorem iC(hm:Ko Z)(ns:Ac Ag)(p0:0<=p)(p1:p<=11)(y:Ag)(hy:FJ 12 y=Aa)(xs:Ac Ah)(hl:xs.length<=100)(s3 s4:Sl):∃ t:Ah,(asc t=Aa/\t.length<=100)/\∃ s4',Bw Z 3 L5 (.int y) [sh (scr ns),si p,Ab (.lst (xs.map D.str),Aa),s3,s4,Af]=.next [sh (scr ns),si p,Ab (.lst ((xs++[t]).map D.str),Aa),si y,s4',Af]:=by
 obtain⟨q,hq,q0,q1⟩:∃ q:Ag,(∀ U:Rho,evE Z [sh (scr ns),si p,Ab (.lst (xs.map D.str),Aa),si y,s4,Af] (.bin .Add (.var 1) (.bi .int (.cons (.cmp .Eq (.var 3) (.var 1)) .nil)))=.ok (.int q))/\0<=q/\q<=12:=by
  generalize xs.map D.str=X at *;generalize scr ns=S at *;by_cases h:y=p
  .exact⟨p+1,λ_=>by simp[h,b2i],by omega,by omega⟩
  .exact⟨p,λ_=>by simp[h,b2i],by omega,by omega⟩
 have rg:Dj 0 q=.ok (Dt 0 q.toNat):=Lf q0 (by omega)
 obtain⟨cs,c1,c2,c3⟩:=QB (g:=cG Z [sh (scr ns),si p,Ab (.lst (xs.map D.str),Aa),si y,si q,Af] 5 FG) (f:=cF Z [sh (scr ns),si p,Ab (.lst (xs.map D.str),Aa),si y,si q,Af] 5 La) (Dt 0 q.toNat) λd hd=>by
  obtain⟨k,_,rfl⟩:=Zu hd;exact⟨rfl,pV hm ns (si p) _ (si q) y _ hy⟩
 rw[Kb]at c1;obtain⟨t,t1,t2,t3⟩:=qH (xs:=cs) (by omega) c2
 refine⟨t,⟨t1,t2⟩,si q,?_⟩;have z:BD ((xs.map D.str).length+1)=Aa:=FM (by rw[AX];omega)
 rw[Vj,BP,Vk];have hq:=hq [];generalize cs.map D.str=C at *;generalize xs.map D.str=X at *;generalize scr ns=S at *;generalize Dt 0 q.toNat=R1 at *;generalize hE:E.bin .Add (.var 1) (.bi .int (.cons (.cmp .Eq (.var 3) (.var 1)) .nil))=EE at *;generalize hT:AV "" = T at *;simp[Bw,L5,hE,hq,rg,c3,t3,Cj,z,hT]
def SG(Z:Gam):Prop:=∀(ns:Ac Ag)(p:Ag),P4 p->∃ xs:Ac Ah,TxB 100 xs/\xs.length<=20/\Z.F 318 [scr ns,.int p]=.ok (.lst (xs.map D.str))
theorem fP(hm:Ko Z)(ns:Ac Ag)(p:Ag)(hp:P4 p):∃ xs:Ac Ah,TxB 100 xs/\xs.length<=20/\NM.run Z [scr ns,.int p]=.ok (.lst (xs.map D.str)):=by
 have p0:=hp.pos;have ph:p<=11:=by rcases hp with h|h|h|h<;>omega
 have rg:Dj 0 (p+1)=.ok (Dt 0 (p+1).toNat):=Lf (by omega) (by omega)
 obtain⟨U1,e1,xs,hl,hx,s3,s4,rfl⟩:=L8 (body:=Bw Z 3 L5) (λn U=>∃ xs:Ac Ah,xs.length=n/\TxB 100 xs/\∃ s3 s4:Sl,U=[sh (scr ns),si p,Ab (.lst (xs.map D.str),Aa),s3,s4,Af]) (Dt 0 (p+1).toNat) 0 [sh (scr ns),si p,Ab (.lst [],Aa),Af,Af,Af] ⟨[],rfl,λ_ z=>absurd z (by simp),Af,Af,rfl⟩ (by
  rintro i x hx U ⟨xs,hl,hv,s3,s4,rfl⟩;obtain⟨hi,rfl⟩:=Oc hx;obtain⟨t,ht,s4',e⟩:=iC hm ns (p:=p) (by omega) ph (0+(i:Ag)) (OA (by omega) (by omega)) xs (by omega) s3 s4
  refine⟨_,e,xs++[t],by rw[Be,EM];omega,λu hu=>?_,_,_,rfl⟩
  rcases Ce.mp hu with z|z
  .exact hv u z
  .rw[Bk.mp z];exact ht)
 rw[C3,Kb]at hl;refine⟨xs,hx,by omega,?_⟩
 generalize xs.map D.str=X at *;generalize scr ns=S at *;generalize Dt 0 (p+1).toNat=R1 at *;simp[NM,Df.run,CF,rg,e1,Cb,Ix]
theorem jH(hu:Z.up 16=[16,0])(p X:D)(h:Z.F 313 [p,X]=.exn exP):Nw.run Z [p,X]=.ok (.bl Aa):=by
 simp[Nw,Df.run,CF,h,exP,hu,kiD,Ew]
def SJ(Z:Gam):Prop:=∀ q:R3,Z.F 45 [Cd Aa q,Cd Aa q]=.ok (.bl Aa)
theorem jE(q:R3):Oh.run Z [Cd Aa q,Cd Aa q]=.ok (.bl Aa):=by
 have e:BK .NotEq (Cd Aa q) (Cd Aa q)=.ok (.bl Ad):=by
  have fl:flD 5 (Cd Aa q)=Aa:=rfl;show (if (flD 5 (Cd Aa q)&&flD 5 (Cd Aa q))=Aa then R.ok (D.bl (!eqD (Cd Aa q) (Cd Aa q))) else .bad)=_
  rw[fl,Mm 5 _ fl];rfl
 have er:Cd Aa q=.tup [.int q.1,.int q.2.1,.int q.2.2]:=rfl;rw[er]at e ⊢;simp[Oh,Df.run,CF,e,Ch,cG,cF,Qg,Qh,mkL,F7,F4]
theorem QJ{g:D->R Ai}{f:D->R D}:∀ l:Ac R3,(∀ q∈l,g (Cd Aa q)=.ok Aa/\f (Cd Aa q)=.ok (.bl Aa))->Ch g f (rw3 l)=.ok (l.map λ_=>D.bl Aa)
 |[],_=>rfl
 |q::l,h=>by
  obtain⟨g1,f1⟩:=h q (by simp)
  show (g (Cd Aa q)).bind _=_;rw[g1,R.bind_ok,Aq rfl,f1,R.bind_ok];show (Ch g f (rw3 l)).bind _=_;rw[QJ l λy hy=>h y (AC _ hy)]
  rfl
theorem S6(l:Ac R3):flD 5 (.lst (rw3 l))=Aa:=by
 show (rw3 l).all (flD 4)=Aa;unfold rw3;rw[E9];exact C8.mpr λ_ _=>rfl
def SH(Z:Gam):Prop:=∀ l:Ac R3,Z.F 316 [.lst (rw3 l),.lst (rw3 l)]=.ok (.bl Aa)
theorem fQ(hs:SJ Z)(l:Ac R3):Og.run Z [.lst (rw3 l),.lst (rw3 l)]=.ok (.bl Aa):=by
 have c:=QJ (g:=cG Z [sh (.lst (rw3 l)),sh (.lst (rw3 l)),Af] 2 Qf) (f:=cF Z [sh (.lst (rw3 l)),sh (.lst (rw3 l)),Af] 2 NP) l λq _=>⟨rfl,by
  have e:=hs q;generalize Cd Aa q=Q at *;simp[cF,NP,e]⟩
 have fl:=S6 l;have eq:=Mm 5 _ fl;have al:biD .all [.lst (l.map λ_=>D.bl Aa)]=.ok (.bl Aa):=by
  show (F4 (l.map λ_=>D.bl Aa)).bind _=_
  have:∀ l:Ac R3,F4 (l.map λ_=>D.bl Aa)=.ok Aa:=λl=>by
   induction l with
   |nil=>rfl
   |cons _ l ih=>
    show (F4 (l.map λ_=>D.bl Aa)).bind _=_
    rw[ih];rfl
  rw[this l];rfl
 generalize rw3 l=L at *;generalize (l.map λ_=>D.bl Aa)=M at *
 simp[Og,Df.run,CF,c,fl,eq,al]
end
noncomputable def Lb:Ss:=(.cons (.asg 3 Ad (.call 319 (.cons (.var 3) (.cons (.call 3 (.cons (.var 0) (.cons (.bin .Add (.int 152) (.var 4)) .nil))) .nil)))) .nil)
noncomputable def GI:Df:=⟨7,Ad,(.cons (.asg 1 Ad (.call 4 (.cons (.var 0) (.cons (.int 150) .nil)))) (.cons (.asg 2 Ad (.call 3 (.cons (.var 0) (.cons (.int 151) .nil)))) (.cons (.asg 3 Ad (.call 318 (.cons (.var 0) (.cons (.var 1) .nil)))) (.cons (.ife (.cmp .Eq (.bin .Mod (.var 2) (.int 9)) (.int 1)) (.cons (.asg 3 Ad (.call 318 (.cons (.var 0) (.cons (.idx (.lst (.cons (.int 5) (.cons (.int 7) (.cons (.int 11) (.cons (.int 3) .nil))))) (.bin .Mod (.bin .FloorDiv (.var 2) (.int 9)) (.int 4))) .nil)))) .nil) .nil) (.cons (.ife (.cmp .Eq (.bin .Mod (.var 2) (.int 9)) (.int 2)) (.cons (.asg 3 Ad (.lst .nil)) .nil) .nil) (.cons (.fors 4 (.rng (.bin .Mod (.bin .FloorDiv (.var 2) (.int 9)) (.int 3))) Lb) (.cons (.asg 5 Ad (.call 320 (.cons (.var 3) (.cons (.var 1) .nil)))) (.cons (.asg 6 Ad (.bi .list (.cons (.var 3) .nil))) (.cons (.ife (.cmp .Is (.var 5) .non) (.cons (.ret (.and (.cons (.call 321 (.cons (.var 1) (.cons (.var 6) .nil))) (.cons (.call 321 (.cons (.var 1) (.cons (.var 6) .nil))) (.cons (.cmp .Eq (.var 6) (.var 3)) .nil))))) .nil) .nil) (.cons (.ret (.and (.cons (.call 316 (.cons (.call 313 (.cons (.var 1) (.cons (.var 6) .nil))) (.cons (.var 5) .nil))) (.cons (.cmp .Eq (.var 6) (.var 3)) .nil)))) .nil))))))))))⟩
noncomputable def bT:Ae->Ae
 |0=>100
 |n+1=>2*bT n+1
noncomputable def cT:Ae->Ae
 |0=>20
 |n+1=>2*cT n+1
structure H92 (Z:Gam):Prop where
 mi:Ko Z
 pr:Sv Z
 tx:SG Z
 ch:SL Z
 du:Sw Z
 se:RN Z
 re:∀(n:Ae)(xs:Ac Ah),P4 n->Txs xs->good n xs=Ad->Z.F 321 [.int n,.lst (xs.map D.str)]=.ok (.bl Aa)
 st:SH Z
section
variable{Z:Gam}{ns:Ac Ag}
theorem iH(h:H92 Z)(hp:P4 p)(ep:Z.F 4 [scr ns,.int 150]=.ok (.int p))(em:Z.F 3 [scr ns,.int 151]=.ok (.int m)):∃ xs:Ac Ah,TxB 100 xs/\xs.length<=20/\evSs Z [sh (scr ns),Af,Af,Af,Af,Af,Af] (GI.body.take 5)=.next [sh (scr ns),si p,si m,sh (.lst (xs.map D.str)),Af,Af,Af]:=by
 obtain⟨xs,x1,x2,ex⟩:=h.tx ns p hp;have hq:∃ q,P4 q/\CH [D.int 5,D.int 7,D.int 11,D.int 3] (m/9%4)=.ok (.int q):=by
  have:m/9%4=0\/m/9%4=1\/m/9%4=2\/m/9%4=3:=by omega
  rcases this with e|e|e|e<;>rw[e]
  .exact⟨5,.inr (.inl rfl),rfl⟩
  .exact⟨7,.inr (.inr (.inl rfl)),rfl⟩
  .exact⟨11,.inr (.inr (.inr rfl)),rfl⟩
  .exact⟨3,.inl rfl,rfl⟩
 obtain⟨q,hq,iq⟩:=hq;obtain⟨ys,y1,y2,ey⟩:=h.tx ns q hq;generalize scr ns=S at *;by_cases c1:m%9=1
 .refine⟨ys,y1,y2,?_⟩;generalize ys.map D.str=Y_ at *;generalize xs.map D.str=X at *;simp[GI,Ss.take,ep,em,ex,c1,iq,ey]
 .by_cases c2:m%9=2
  .refine⟨[],λ_ z=>absurd z (by simp),by simp,?_⟩
   generalize xs.map D.str=X at *;simp[GI,Ss.take,ep,em,ex,c1,c2]
  .refine⟨xs,x1,x2,?_⟩;generalize xs.map D.str=X at *;simp[GI,Ss.take,ep,em,ex,c1,c2]
theorem pT(h:H92 Z){P M:Sl}(j n:Ae)(hn:n<=1)(xs:Ac Ah)(hx:TxB (bT n) xs)(hl:xs.length<=cT n)(s4:Sl):∃ ys:Ac Ah,TxB (bT (n+1)) ys/\ys.length<=cT (n+1)/\Bw Z 4 Lb (.int (0+(j:Ag))) [sh (scr ns),P,M,sh (.lst (xs.map D.str)),s4,Af,Af]=.next [sh (scr ns),P,M,sh (.lst (ys.map D.str)),si (0+(j:Ag)),Af,Af]:=by
  have em:=h.mi ns (152+(0+(j:Ag)));have m0:=iV ns (152+(0+(j:Ag)));generalize IN ns (152+(0+(j:Ag)))=m at *;have bb:bT n<=400/\cT n<=100:=by
    match n,hn with
    |0,_=>decide
    |1,_=>decide
    |k+2,h=>omega
  obtain⟨ys,y1,y2,e⟩:=h.ch m xs (bT n) m0 bb.1 (by omega) hx
  refine⟨ys,y1,by show ys.length<=2*cT n+1;omega,?_⟩
  generalize ys.map D.str=Y_ at *;generalize xs.map D.str=X at *;generalize scr ns=S at *;generalize (0+(j:Ag))=J at *;simp[Bw,Lb,em,e]
theorem gU(h:H92 Z){n:Ae}(hp:P4 n){M:Sl}(xs:Ac Ah)(ht:Txs xs)(hl:xs.length<=900):(evSs Z [sh (scr ns),si n,M,sh (.lst (xs.map D.str)),s4,Af,Af] (GI.body.drop 6)).ans Ad=.ok (.bl Aa):=by
 have du:=h.du n xs hp ht;have se:=h.se n xs hp ht;have fl:flD 5 (.lst (xs.map D.str))=Aa:=by
  show (xs.map D.str).all (flD 4)=Aa;rw[E9];exact C8.mpr λ_ _=>rfl
 have eq:=Mm 5 _ fl;have st:=h.st (Jm n xs);have fr:=S6 (Jm n xs);have re:=h.re n xs hp ht;unfold Nn at du;cases hg:good n xs with
 |true=>
  rw[hg,Aq rfl]at du se
  clear re
  generalize rw3 (Jm n xs)=Z_ at *;generalize xs.map D.str=X at *;generalize scr ns=S at *;generalize (n:Ag)=N at *;simp[GI,Ss.drop,du,se,st,fl,eq]
 |false=>
  have re:=re hg;rw[hg,Ar Az]at du se
  clear st fr se
  generalize xs.map D.str=X at *;generalize scr ns=S at *;generalize (n:Ag)=N at *;simp[GI,Ss.drop,du,re,fl,eq]
theorem lC(h:H92 Z):GI.run Z [scr ns]=.ok (.bl Aa):=by
  obtain⟨p,hp,ep⟩:∃ p,P4 p/\Z.F 4 [scr ns,.int 150]=.ok (.int p):=⟨_,ZH ns 150,h.pr ns 150⟩;have em:=h.mi ns 151;generalize IN ns 151=m at *;obtain⟨xs,x1,x2,e1⟩:=iH h hp ep em;obtain⟨n,rfl⟩:=Fv (show 0<=p from by have:=hp.pos;omega)
  have r0:=CZ (m/9) (b:=3) (by decide)
  have r1:=Cz (m/9) (b:=3) (by decide)
  have rg:Dj 0 (m/9%3)=.ok (Dt 0 (m/9%3).toNat):=Lf r0 (by omega)
  obtain⟨U2,e2,ys,hy,hyl,u4,rfl⟩:=L8 (body:=Bw Z 4 Lb) (λn' U=>∃ ys:Ac Ah,TxB (bT n') ys/\ys.length<=cT n'/\∃ u4:Sl,U=[sh (scr ns),si n,si m,sh (.lst (ys.map D.str)),u4,Af,Af]) (Dt 0 (m/9%3).toNat) 0 [sh (scr ns),si n,si m,sh (.lst (xs.map D.str)),Af,Af,Af] ⟨xs,x1,x2,Af,rfl⟩ (by
    rintro i x hx U ⟨ys,y1,y2,u4,rfl⟩;obtain⟨hi,rfl⟩:=Oc hx;rw[C3]at y1 y2;obtain⟨zs,z1,z2,e⟩:=pT (ns:=ns) h (P:=si n) (M:=si m) i i (by omega) ys y1 y2 u4
    exact⟨_,e,zs,by rw[C3];exact z1,by rw[C3];exact z2,_,rfl⟩)
  rw[C3,Kb]at hy hyl;have bb:bT (m/9%3).toNat<=900/\cT (m/9%3).toNat<=900:=by
    have:(m/9%3).toNat<=2:=by omega
    generalize (m/9%3).toNat=k at *
    match k,this with
    |0,_=>decide
    |1,_=>decide
    |2,_=>decide
    |k+3,h=>omega
  have ht:Txs ys:=λy hy'=>⟨(hy y hy').1,B5 (hy y hy').2 bb.1⟩
  have e0:GI.run Z [scr ns]=(evSs Z [sh (scr ns),Af,Af,Af,Af,Af,Af] GI.body).ans Ad:=rfl;rw[e0,Od Z 5,e1,OC];have e4:GI.body.drop 5=.cons (.fors 4 (.rng (.bin .Mod (.bin .FloorDiv (.var 2) (.int 9)) (.int 3))) Lb) (GI.body.drop 6):=rfl;have e5:G3 Z [sh (scr ns),si n,si m,sh (.lst (xs.map D.str)),Af,Af,Af] (.rng (.bin .Mod (.bin .FloorDiv (.var 2) (.int 9)) (.int 3)))=.ok (Dt 0 (m/9%3).toNat):=by
    generalize xs.map D.str=X at *;generalize scr ns=S at *;generalize Dt 0 (m/9%3).toNat=R1 at *;generalize (n:Ag)=N at *;simp[rg]
  rw[e4,Zh,Zl,e5,cJ,e2,OC];exact gU h hp ys ht (by omega)
end
noncomputable def qR:Ae->Ac Ae
 |2=>[2,0]
 |3=>[3,0]
 |16=>[16,0]
 |_=>[]
noncomputable def Py:Ae->Ac D->R Ex
 |16,_=>.ok ⟨16,[]⟩
 |_,_=>.bad
noncomputable def Q92:Prg:=⟨Aa,fun
 |1=>O2
 |9=>LY
 |17=>Mc
 |309=>L4
 |312=>Ll
 |313=>Jf
 |2=>NG
 |3=>NO
 |4=>NN
 |44=>Lm
 |45=>Oh
 |316=>Og
 |317=>Nz
 |318=>NM
 |319=>IC
 |320=>HK
 |321=>Nw
 |322=>GI
 | _=>⟨0,Ad,.nil⟩,λ_=>.non,qR,Py⟩
theorem oE(ns:Ac Ag):(gam Q92 8).F 322 [scr ns]=.ok (.bl Aa):=by
 have rs:∀ n,MO (gam Q92 (n+1)):=λn p m hp=>jG (gam Q92 n) p m hp
 have tu:∀ n,NZ (gam Q92 (n+2)):=λn p m hp z=>YJ (rs n) p m hp z
 have fo:∀ n,OI (gam Q92 (n+3)):=λn p b xs l t hp e it=>Z_5 (rs (n+1)) (tu n) hp e it
 have xn:∀ n es,(gam Q92 n).xn 16 es=.ok exP:=λn es=>by cases n<;>rfl
 have pc:∀ n,T8 (gam Q92 (n+4)):=λn k hp=>oK (fo n) k hp
 have rw':∀ n,OH (gam Q92 (n+1)):=λn x as a b c=>Z_0 (Z:=gam Q92 n) (xn n) x as a b c
 have se:∀ n,RN (gam Q92 (n+5)):=λn k xs hp ht=>YQ (pc n) (rw' (n+3)) rfl (xn _) k xs hp ht
 have ce:∀ n,SM (gam Q92 (n+1)):=λn ns k=>jJ (gam Q92 n) ns k
 have mi:∀ n,Ko (gam Q92 (n+2)):=λn ns k=>Z_4 (ce n) ns k
 have pr:∀ n,Sv (gam Q92 (n+3)):=λn ns k=>Z_2 (mi n) ns k
 have sg':∀ n,SK (gam Q92 (n+1)):=λn m=>jF (Z:=gam Q92 n) m
 have ch:∀ n,SL (gam Q92 (n+2)):=λn m xs b m0 b1 hl hx=>jI (sg' n) m xs b m0 b1 hl hx
 have lf:∀ n,Nf (gam Q92 (n+1)):=λn p xs l t hp e it=>(YR (gam Q92 n) hp).2 l t e it
 have du:∀ n,Sw (gam Q92 (n+2)):=λn k xs hp ht=>Z_6 (lf n) k xs hp ht
 have tx:∀ n,SG (gam Q92 (n+3)):=λn ns p hp=>fP (mi n) ns p hp
 have sm:∀ n,SJ (gam Q92 (n+1)):=λn q=>jE (Z:=gam Q92 n) q
 have st:∀ n,SH (gam Q92 (n+2)):=λn l=>fQ (sm n) l
 refine lC (Z:=gam Q92 7) ⟨mi 5,pr 4,tx 4,ch 5,du 5,se 2,λn xs hp ht hg=>?_,st 5⟩
 have e:=se 1 n xs hp ht;rw[hg,Ar Az]at e;exact jH (Z:=gam Q92 6) rfl _ _ e
end OvC
namespace OvC
open PySem PySem.Spec PyProof.Rows Ov L2
variable{l:FP}
noncomputable def tp92(i:Ae):AZ:=PySem.Challenge.pw_ovalfield_k92_no_picture.main.body.getD i (.Pass ⟨0,0,0,0⟩)
noncomputable def Ug:Ac (Ah×Ae×Ae):=([("rest",1,2),("turned_over",9,2),("one_form",17,2),("picture_rows",309,1),("row_seen",312,2),("seen",313,2),("_law_cell_at",2,2),("_law_mixed",3,2),("_law_prime",4,2),("_law_form",44,2),("_law_same_tuple",45,2),("_law_same_triples",316,2),("_law_sign",317,1),("_law_texts",318,2),("_law_changed",319,2),("_law_due",320,2),("_law_refused",321,2),("law",322,1)]:Ac (Ah×Ae×Ae))
noncomputable def UM:Ac Ah:=["ValueError", "all", "bool", "int", "isinstance", "len", "list", "range", "sorted", "tuple", "zip"]
noncomputable def O4:Ac (Ah×Ae):=[("NoPicture",16)]
noncomputable def O7:Ac (Ah×Ae):=[("NoPicture",16),("OvalError",0),("BadRow",106),("NoRow",12),("NoPrime",1)]
noncomputable def Ub:Ac (Ah×Ae):=[]
noncomputable abbrev C92(h:Ai)(n:Ae)(N:Ac Ah)(i d:Ae):Ai:=IM 80 h Ug UM O4 O7 Ub (N.take n) N (tp92 i) (Q92.defs d)
theorem kM:C92 Ad 2 ["p", "n"] 9 1=Aa:=by decide+kernel
theorem kL:C92 Ad 2 ["p", "n", "turned"] 10 9=Aa:=by decide+kernel
theorem kK:C92 Ad 2 ["p", "numbers", "rests", "first", "factor", "#5", "#6"] 12 17=Aa:=by decide+kernel
theorem kJ:C92 Ad 1 ["p", "rows", "y", "#3", "#4"] 14 309=Aa:=by decide+kernel
theorem kI:C92 Ad 2 ["text", "row", "told", "sign", "point"] 15 312=Aa:=by decide+kernel
theorem kH:C92 Ad 2 ["p", "texts", "rows", "told", "text", "row"] 16 313=Aa:=by decide+kernel
theorem kG:C92 Ad 2 ["_law_script", "_law_k"] 18 2=Aa:=by decide+kernel
theorem kF:C92 Ad 2 ["_law_script", "_law_k"] 19 3=Aa:=by decide+kernel
theorem kE:C92 Ad 2 ["_law_script", "_law_k"] 20 4=Aa:=by decide+kernel
theorem kD:C92 Ad 2 ["_law_numbers", "_law_p", "_law_rests", "_law_lead", "_law_over", "#5", "#6", "#7", "#8"] 21 44=Aa:=by decide+kernel
theorem fF:C92 Ad 2 ["_law_found", "_law_due_here", "#2"] 22 45=Aa:=by decide+kernel
theorem fE:C92 Ad 2 ["_law_found", "_law_due_here", "#2"] 23 316=Aa:=by decide+kernel
theorem fD:C92 Ad 1 ["_law_cell", "_law_some"] 24 317=Aa:=by decide+kernel
theorem fC:C92 Ad 2 ["_law_script", "_law_p", "_law_rows", "_law_y", "_law_size", "#5"] 25 318=Aa:=by decide+kernel
theorem fB:C92 Ad 2 ["_law_texts_here", "_law_mix", "_law_way", "_law_at", "_law_text", "_law_place", "_law_sign_here", "_law_new"] 26 319=Aa:=by decide+kernel
theorem fA:C92 Ad 2 ["_law_texts_here", "_law_p", "_law_found", "_law_y", "_law_x", "_law_spot"] 27 320=Aa:=by decide+kernel
theorem eZ:C92 Ad 2 ["_law_p", "_law_texts_here", "_law_plain", "e"] 28 321=Aa:=by decide+kernel
theorem Sq:C92 Ad 1 ["_law_script", "_law_p", "_law_mix", "_law_texts_here", "_law_k", "_law_due_here", "_law_handed"] 29 322=Aa:=by decide+kernel
set_option maxHeartbeats 0 in
theorem all92{w:AY}{K:Fg}{h:AD}{mg:Ah->Am Aj}{fa f0 f1 f2 f3 f4 f5 f6 f7 f8 f9 f10 f11 f12 f13 f14 f15 f16 f17 x0 x1 x2 x3 x4:Ak}(X:K.In h)(G:h.Ns Bc mg)(hfa:mg "law" = Ab (.ref fa))(a0:FnI K f0 "rest" (tp92 9))(a1:FnI K f1 "turned_over" (tp92 10))(a2:FnI K f2 "one_form" (tp92 12))(a3:FnI K f3 "picture_rows" (tp92 14))(a4:FnI K f4 "row_seen" (tp92 15))(a5:FnI K f5 "seen" (tp92 16))(a6:FnI K f6 "_law_cell_at" (tp92 18))(a7:FnI K f7 "_law_mixed" (tp92 19))(a8:FnI K f8 "_law_prime" (tp92 20))(a9:FnI K f9 "_law_form" (tp92 21))(a10:FnI K f10 "_law_same_tuple" (tp92 22))(a11:FnI K f11 "_law_same_triples" (tp92 23))(a12:FnI K f12 "_law_sign" (tp92 24))(a13:FnI K f13 "_law_texts" (tp92 25))(a14:FnI K f14 "_law_changed" (tp92 26))(a15:FnI K f15 "_law_due" (tp92 27))(a16:FnI K f16 "_law_refused" (tp92 28))(a17:FnI K f17 "law" (tp92 29))(cx0:XA K "NoPicture" x0 Af)(cx1:XE K "OvalError" x1)(cx2:XE K "BadRow" x2)(cx3:XE K "NoRow" x3)(cx4:XE K "NoPrime" x4)(sx0:SuC K x0 [(x0,Aa)])(sx1:SuC K x1 [(x0,Aa)])(sx2:SuC K x2 [(x0,Ad)])(sx3:SuC K x3 [(x0,Ad)])(sx4:SuC K x4 [(x0,Ad)])(z0:Bv K Bc "ValueError" = Ab Af)(z1:Bv K Bc "all" = Ab Af)(z2:Bv K Bc "bool" = Ab Af)(z3:Bv K Bc "int" = Ab Af)(z4:Bv K Bc "isinstance" = Ab Af)(z5:Bv K Bc "len" = Ab Af)(z6:Bv K Bc "list" = Ab Af)(z7:Bv K Bc "range" = Ab Af)(z8:Bv K Bc "sorted" = Ab Af)(z9:Bv K Bc "tuple" = Ab Af)(z10:Bv K Bc "zip" = Ab Af):
    ∃ fd:BQ,(∀(s:Ap)(v:Aj),GE s fd ⟨[v],[]⟩ [("_law_script",v)])/\∀ base:AD,K.In base->base.Ns Bc mg->FnOk l.prog w K mg base (CXR l.prog w) 8 fa fd ["_law_script"] (MX K):=by
  obtain⟨_,F,e⟩:=a17;obtain⟨_,_,_,_,_,_,_,_,_,rfl,_,_⟩:=F.ex;cases hfa.symm.trans (Dx X G e);have XT92:XT Q92.up Q92.xn (clL [(16,x0)]) O4 O7 K mg:=by
    refine lY (all_cons (cx0.row λ_=>by first|exact .inr rfl|exact .inl rfl) (all_nil)) (all_cons ⟨_,rfl,Dx X G cx0.n⟩ (all_nil)) (all_cons ⟨_,Dx X G cx0.n,cx0.kc,sx0⟩ (all_cons ⟨_,Dx X G cx1.n,cx1.kc,sx1⟩ (all_cons ⟨_,Dx X G cx2.n,cx2.kc,sx2⟩ (all_cons ⟨_,Dx X G cx3.n,cx3.kc,sx3⟩ (all_cons ⟨_,Dx X G cx4.n,cx4.kc,sx4⟩ (all_nil)))))) ?_
    intro c q ds;show Py c ds=.bad;unfold Py;split<;>first|rfl|exact absurd rfl (q ("NoPicture",16) (by decide))
  have T:Tab K mg (clL [(16,x0)]) Ug UM O4 O7 Ub Q92 80:=⟨XT92,all_cons (BM X G z0) (all_cons (BM X G z1) (all_cons (BM X G z2) (all_cons (BM X G z3) (all_cons (BM X G z4) (all_cons (BM X G z5) (all_cons (BM X G z6) (all_cons (BM X G z7) (all_cons (BM X G z8) (all_cons (BM X G z9) (all_cons (BM X G z10) (all_nil))))))))))),all_nil,all_cons (F6 2 1 X G a0 rfl kM λ_ _ _ _ _ _ _ _=>rfl) (all_cons (F6 2 9 X G a1 rfl kL λ_ _ _ _ _ _ _ _=>rfl) (all_cons (F6 2 17 X G a2 rfl kK λ_ _ _ _ _ _ _ _=>rfl) (all_cons (PL 1 309 X G a3 rfl kJ λ_ _ _ _ _ _ _=>rfl) (all_cons (F6 2 312 X G a4 rfl kI λ_ _ _ _ _ _ _ _=>rfl) (all_cons (F6 2 313 X G a5 rfl kH λ_ _ _ _ _ _ _ _=>rfl) (all_cons (F6 2 2 X G a6 rfl kG λ_ _ _ _ _ _ _ _=>rfl) (all_cons (F6 2 3 X G a7 rfl kF λ_ _ _ _ _ _ _ _=>rfl) (all_cons (F6 2 4 X G a8 rfl kE λ_ _ _ _ _ _ _ _=>rfl) (all_cons (F6 2 44 X G a9 rfl kD λ_ _ _ _ _ _ _ _=>rfl) (all_cons (F6 2 45 X G a10 rfl fF λ_ _ _ _ _ _ _ _=>rfl) (all_cons (F6 2 316 X G a11 rfl fE λ_ _ _ _ _ _ _ _=>rfl) (all_cons (PL 1 317 X G a12 rfl fD λ_ _ _ _ _ _ _=>rfl) (all_cons (F6 2 318 X G a13 rfl fC λ_ _ _ _ _ _ _ _=>rfl) (all_cons (F6 2 319 X G a14 rfl fB λ_ _ _ _ _ _ _ _=>rfl) (all_cons (F6 2 320 X G a15 rfl fA λ_ _ _ _ _ _ _ _=>rfl) (all_cons (F6 2 321 X G a16 rfl eZ λ_ _ _ _ _ _ _ _=>rfl) (all_cons (PL 1 322 X G ⟨_,F,e⟩ rfl Sq λ_ _ _ _ _ _ _=>rfl) (all_nil))))))))))))))))))⟩
  exact⟨_,λs v=>.of_eq rfl,λbase _ _=>law_fn (Te T (OL T 7) (Uc F) rfl Sq) oE⟩
theorem walk92{q:AM}{loose:Ac Ah}{XP:(Ah->Am Aj)->AD->Prop}{YP:AY->AD->Prop}{d:DefRec}{K:K6->Fg}(hn:l.most=Ab 63)(hdf:d.params.defaults=[])(hY:∀(w:AY)(h:AD),YP w h->(K w.params).In h)(F:∀(w:AY)(mg:Ah->Am Aj)(fa:Ak)(h:AD),(K w.params).In h->h.Ns Bc mg->mg d.name=Ab (.ref fa) ->
   ∃ fd:BQ,(∀(s:Ap)(u:Aj),GE s fd ⟨[u],[]⟩ [("_law_script",u)])/\∀ base:AD,(K w.params).In base->base.Ns Bc mg->FnOk l.prog w (K w.params) mg base (CXR l.prog w) 8 fa fd ["_law_script"] (MX (K w.params))):W1 q loose XP YP l.row.toRowW d [] (λf vs=>J6 f vs):=
 L2.walk_of (n:=63) (k:=8) (x := "_law_script") (CX:=λw=>CXR l.prog w) (sp:=λw=>MX (K w.params)) hn (by decide) hdf ⟨rfl,by decide,by decide,rfl⟩ hY F (λ_ H a ns hl _ hS=>⟨a,ns,rfl,hl,hS,λ_ _ z=>z⟩) λ_ _ _ _ _ z=>lG z
end OvC
open PySem PySem.W PyProof.Rows
noncomputable def OvC.view92:PySem.Program:={ PySem.Challenge.pw_ovalfield_k92_no_picture with main:={PySem.Challenge.pw_ovalfield_k92_no_picture.main with body:=[OvC.tp92 1,OvC.tp92 2,OvC.tp92 3,OvC.tp92 4,OvC.tp92 5,OvC.tp92 6,OvC.tp92 7,OvC.tp92 9,OvC.tp92 10,OvC.tp92 12,OvC.tp92 14,OvC.tp92 15,OvC.tp92 16,OvC.tp92 18,OvC.tp92 19,OvC.tp92 20,OvC.tp92 21,OvC.tp92 22,OvC.tp92 23,OvC.tp92 24,OvC.tp92 25,OvC.tp92 26,OvC.tp92 27,OvC.tp92 28,OvC.tp92 29]} }
set_option hygiene false
local macro_rules | `(tactic| o_head $H)=>`(tactic| refine holds_open (q:=OvC.view92) (loose:=[]) (Xt:=fun s=>xlAt OvC.view92 [] s&&recOk (RowW.records (OpenRow.toRowW (PySem.Challenge.rw_ovalfield_k92_no_picture.row))) s) (XP:=XL OvC.view92 []) (Yf:=Hook.obs $H) (Ya:=Hook.val $H) (YP:=Hook.says $H) (N:=4290) ?hl (Hook.of $H) (Hook.keeps $H) (fun s e=>xl_of s (Bool.and_eq_true_iff.mp e).1) XL.keeps (by rfl) (by rfl) (by rfl) (fun s e=>recFacts_of (Bool.and_eq_true_iff.mp e).2) (by rfl) (by first|assumption|decide +kernel) (by decide +kernel) ⟨rfl,rfl,rfl,rfl,rfl,by decide +kernel⟩ ?hw ?hc)
set_option maxRecDepth 100000 in
set_option maxHeartbeats 0 in
theorem PySem.Challenge.cw_ovalfield_k92_no_picture_holds : PySem.Challenge.rw_ovalfield_k92_no_picture.Holds := by
 w_on;refine holds_law (by decide+kernel) λsaid=>?_;k_head
 (case hl=>intro w;unfold openEnds fencedOpening topFrom;rw[PySem.W.Fast.te10274390034422433532,PySem.W.Fast.te14364793385576792824,PySem.W.Fast.te1435165496053646825,PySem.W.Fast.te14289696077712309145,PySem.W.Fast.te14082659384304107361,PySem.W.Fast.te4187177175401517315];kernel_rfl)
 (case hw=>w_witness2)
 k_fill
 refine OvC.walk92 (l:=PySem.Challenge.rw_ovalfield_k92_no_picture) rfl rfl (λw h Y_=>W5 Y_) ?F
 case F=>
  intro w mg fa h KX G hmg
  refine' OvC.all92 KX G hmg ?a0 ?a1 ?a2 ?a3 ?a4 ?a5 ?a6 ?a7 ?a8 ?a9 ?a10 ?a11 ?a12 ?a13 ?a14 ?a15 ?a16 ?a17 ?cx0 ?cx1 ?cx2 ?cx3 ?cx4 ?sx0 ?sx1 ?sx2 ?sx3 ?sx4 ?z0 ?z1 ?z2 ?z3 ?z4 ?z5 ?z6 ?z7 ?z8 ?z9 ?z10
  case a0|a1|a2|a3|a4|a5|a6|a7|a8|a9|a10|a11|a12|a13|a14|a15|a16|a17=>(refine' Ov.fni ?a ?l ?c ?k;(case a=>k_is);(case l=>k_is);(case c=>k_is);(case k=>k_is))
  case cx0=>(refine' Ov.xa_mk ?n (Ov.xcls_l ?e) ?d ?f ?g ?a ?b ?c ?o ?h ?v;(case n=>k_is);(case e=>k_exc);(case d=>kernel_rfl);(case f|g|a|b|c|o|h|v=>k_is))
  case cx1|cx2|cx3|cx4=>(refine' Ov.XE.mk ?a ?b ?c;(case a=>k_is);(case b|c=>k_is))
  case sx0|sx1|sx2|sx3|sx4=>(refine' Ov.all_cons ?q0 (Ov.all_nil);(case q0=>dsimp only;k_is))
  case z0|z1|z2|z3|z4|z5|z6|z7|z8|z9|z10=>k_is
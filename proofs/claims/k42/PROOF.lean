import PyProof.Rows.All
import Wide.All
import OpenK.AllK
import Wide.FinOn
import PyProof.EqAt
import KE.KSortTup
import PyProof.EqKinds
import PyProof.TupleCall
import Lean
import PySem.Challenge.RW_ovalfield_k42_whole_any_curve
set_option Elab.async false
set_option linter.all false
set_option maxRecDepth 100000
set_option maxHeartbeats 4000000
open Bool renaming true→Aa,false→Ad,and_eq_true→An,false_ne_true→AJ,not_eq_true'→Bz,eq_iff_iff→BU,or_eq_true→Cu,false_eq_true→FA,and_false→FP,and_true→Wi,or_false→Wj
open Option renaming some→Ab,none→Af,bind_eq_some_iff→DH,map_some→DX,map→Gp,getD_none→W3
open _root_ renaming List→Ac,Int→Ae,Nat→Ag,Bool→Ao,Option→Av,if_pos→Az,if_neg→AH,decide_eq_true_eq→AK,Array→AQ,False→BK,beq_iff_eq→BN,or_false→B8,decide_eq_false_iff_not→Cs,decide_eq_false→CD,beq_self_eq_true→Dd,beq_eq_false_iff_ne→DI,String→DT,not_or→D9,of_decide_eq_true→Ea,decide_eq_decide→EA,decide_eq_true→E3,Decidable→Gf,beq_false_of_ne→GE,if_false→GZ,if_true→IC,True→IK,bne_iff_ne→Jd,Unit→JR
open PySem renaming wpAny_bind→Ah,Value→Ai,Addr→Ak,Str→Al,Shared→Ap,Expr→At,wpAny_pure→Aw,wpAny→AB,starEach→AM,World→AN,Heap→AS,Program→A8,mainGlobals→Bj,Pos→Bk,wpAny_field→Bt,Around→Bu,wpAny_seqItems→B7,wpAny_setField_rec→Cb,wpAny_holding→Ce,wpAny_callSpecial?_slot→Cf,Stmt→Cj,binaryOp→Cr,assignEach→Cz,cLine→CA,Env→CG,wpAny_call_entry→CH,wpAny_mono→CK,Scope→CM,compareOp→CN,FuncData→CO,backTo→CU,sizeLine_eq→CW,wpAny_newObj_type→CZ,wpAny_truthy_bool→C0,mem_of_lookup→C2,rawInt→C5,bootBuiltins→Db,foldedSetIterable→Dj,cellsFrom→Dx,Obj→DB,Tok→DC,wpAny_onRaise→DE,swapsWith→DS,pyNext→D7,wpAny_pyIter_list→D8,NameKind→Er,CmpOp→ES,IsPair→E1,wpAny_rule→E5,wpAny_attempt→Fd,Keyword→Fe,sliceBounds→Fh,codeAny_builtin→Fv,wpAny_passesOwn→Fw,wpAny_updateSeq→Fx,wpAny_pyIter_tuple→FF,codeAny→FR,wpAny_letGo→F0,swappedStores→F4,wpAny_eqBool_int→F8,PassesOwn→Gh,IsZip→Gr,letOwnedTupleGo→Gw,wpAny_updateSeq_pair→Gz,wpAny_newTuple→GP,pushCells→G3,wpAny_Call_Name_kw→G4,Sem→G5,attributeBase→G6,behindInMarks→G7,plainId_quiet→G8,swapsWithSole→G9,wpAny_standAt→Ha,BindsTo→Hr,callerA→Hs,IsPart→HC,Operator→HE,Paired→HF,pushCells_keeps→Ia,wpAny_specialOf→Ib,keywordEach→Ie,isTrue→Iz,newFunctionEnv→IA,notedBy→IB,bindC→IG,bindL→IH,builtinsNs→II,numAt→IJ,callType_new→Jo,codeAny_mono→Jp,concat_meets→Jq,lastMarks→Jr,preSum→Js,seqIndex_neg→Jt,updateSeq→Ju,getItem→JH,standAt→JI,seqIndex_of→JP,backToKw→JQ,Meets→Kj,Model→Kk,Result→Kl,call→Ko,call_meets→Kq,pyIter→Ks,sysModules→Kt,typeIs_int→Ku,typeLookup→Kv,wpAny_Name→Kw,GenState→Ll,IntMulOk→Ln,Params→Lo,bindArgs→Lq,intItems→Lr,builtinLookup_eq_fast→XY,call_sum_walkG→XZ,checkBuiltinCall→X0,firstArgMember→X2,isSubtype_stop→X3,noFill_tuple_add→X4,recursionLimit→X5,richCompare_meets_room→X6,slot_list_getitem→X7,typeLookup_type→X8,wpAny_assign_Name→X9,wpAny_comprehension_free→Yb,wpAny_execs_nil→Yc,wpAny_forIn_list→Yd,wpAny_isInstance→Ye,wpAny_pyIter_enum→Yg,wpAny_pyIter_zip→Yh,wpAny_pyNext_list_end→Yi,wpAny_pyNext_list_item→Yj,wpAny_setField→Yk
open PySem.Str renaming ofString→Aq
open PySem.Heap renaming get?_push_of_some→As,get?_push_size→AC,lt_size→AG,size_push→BM,get?_update_other→Dm,get?_update_self→Dv,SameBut→E0,get?_push_ne→FW,size_update→HB,ExtBut→Ic,FlyingW→Xz,MadeExcOf→XA,get?_none_of_le→XC,get?_push_cases→XD
open List renaming mem_cons_of_mem→Au,mem_cons→Ax,mem_cons_self→Ay,size_toArray→AE,mem_filter→AR,getElem?_eq_getElem→AV,not_mem_nil→AX,getD_eq_getElem?_getD→A6,getElem?_eq_some_iff→Ba,range→Bb,length_map→Bp,length_set→Bq,mem_singleton→Bs,toArray→BB,mem_append_right→BO,map_cons→BQ,nodup_cons→B5,lookup_cons→B6,all_eq_true→Ck,length_cons→Cm,mem_range→Ct,length_append→Cv,mem_map→Cw,getElem?_set_self→Dl,filter_cons→Dq,append_nil→Dy,mem_of_getElem?→Dz,forIn_nil→DJ,forIn_cons→DW,getElem?_map→D4,isEmpty_eq_false_iff→Ed,pairwise_iff_getElem→Ee,getElem_mem→En,map_congr_left→EB,getElem?_cons_succ→ED,getElem?_cons_zero→EE,all_cons→EJ,pairwise_cons→EL,replicate→EW,drop_eq_getElem_cons→Fp,getElem?_append_left→Fq,mem_or_eq_of_mem_set→Fs,map_map→FB,map_nil→FC,getElem?_set_self'→FS,filter_congr→FV,any_eq_true→F5,zipIdx_cons→F6,length_replicate→Gg,getElem?_set_ne→Gk,zipIdx_nil→Gn,filterMap_cons→GI,getElem_of_mem→GJ,zip_cons_cons→G0,getElem?_set→Hn,isEmpty_iff→Hy,length_take→Hz,of_mem_zip→HY,range'→JM,map→Li,all_map→Wt,any_cons→Wu,contains_eq_mem→Wv,drop_eq_nil_of_le→Ww,ext_getElem→Wx,ext_getElem?→Wy,foldl_cons→Wz,getElem?_append_right→WA,getElem?_of_mem→WB,getElem?_replicate→WC,getElem?_toArray→WD,length→WE,length_drop→WF,length_erase_of_mem→WG,length_singleton→WH,lookup→WI,lookup_cons_self→WJ,map_set→WK,mem_append→WL,mem_append_left→WM,mem_erase_of_ne→WN,mem_filterMap→WO,nodup_nil→WP,pairwise_singleton→WQ,range_succ_eq_map→WR,replicate_succ→WS,reverse_cons→WT,set_set→WU,take_append_drop→WV
open Nat renaming lt_of_lt_of_le→AD,le_refl→AU,ne_of_lt→A1,lt_irrefl→Bw,le_trans→BD,lt_of_le_of_lt→BS,ne_of_gt→CT,zero_le→CV,lt_succ_of_lt→CY,le_of_lt→DQ,le_of_lt_succ→D5,ble→Em,le_add_right→Eo,lt_of_le_of_ne→EM,not_lt→EN,ble_eq_true_of_le→EX,le_of_ble_eq_true→EY,not_lt_zero→Ft,lt_trans→FD,lt_succ_self→F7,pow_le_pow_right→Go,add_le_add_left→GK,le_of_eq→HA,le_antisymm→HZ,le_succ→JN,one_pos→JO,sub_le→Kg,sub_lt→Kh,add_sub_cancel'→WW,le_of_sub_eq_zero→WX,le_pred_of_lt→WY,lt_of_not_le→WZ,min_self→W1,sub_lt_sub_right→W2
open Int renaming emod_eq_of_lt→AI,emod_emod_of_dvd→AT,mul_emod→A2,zero_emod→A5,emod_lt_of_pos→A7,emod_nonneg→A9,dvd_refl→Bv,mul_comm→BY,one_mul→CF,mul_zero→C8,dvd_of_emod_eq_zero→DF,emod_eq_zero_of_dvd→DG,emod_eq_emod_iff_emod_sub_eq_zero→DN,mul_one→El,zero_add→EV,add_mul_emod_self_left→Fa,mul_assoc→F3,natCast_mul→Gj,toNat_natCast→Hm,add_emod→Hw,zero_mul→Hx,sub_emod→Jg,sub_zero→Jh,dvd_neg→JJ,le_refl→JK,mul_pos→JL,ediv_nonneg→Wm,le_trans→Wn,mul_sub→Wo,sub_add_cancel→Wp,sub_neg→Wq,sub_self→Wr,toNat_of_nonneg→Ws
open PySem.Builtin.SmallTypes renaming nextOf→A3,ownedTupleIsFree→A4,ownedTupleHandOut→C9
open PySem.W.Fast renaming te10274390034422433532→Be,te14082659384304107361→Bf,te14289696077712309145→Bg,te14364793385576792824→Bh,te1435165496053646825→Bi
open Prod renaming ext→Bl
open PySem.Obj renaming mapSeq→By,data_mapFields→XE
open PySem.W renaming mg_none_of→BE,nsIn→Ca,fencedOpening→De,keepIn→DL,fnOf→Et,hideAll_get→EC,openEnds→EO,topFrom→Ff,OpenLaw→FZ,kasC_bind→Gi,hideAll→Gu,hideAll_none→Gv,codeIn→GN,findIn→GO,of_hideAll→G2,methodObj→Hq,kas_item→IF,mg_of→Je,kasC_pure→Jl,kas_count→Jm,kas_st→Jn,kas_rev→Kx,kasC_cons→Lh,kasC_get→Lp,WalkO→XO,cellsFrom_some→XQ,funFrames_hide→XR,kIn_of→XS,kitOne→XU,subIn→XV
open Option.some renaming inj→BV,injEq→Ch
open Array renaming getElem?_eq_getElem→B4,length_toList→C1,getD_eq_getD_getElem?→DP,getElem?_toList→ET,getElem?_push→GH,toList_inj→Hv,toList→Jf,forIn_toList→Wd,getD→We,getElem?_eq_some_iff→Wf,size_push→Wg,toArray_toList→Wh
open PyProof.Rows renaming callWith_type1→B9,seqObj→Cq,IntsAre→C7,envOfC→Fb,AllBare→FQ,boot_tuple→FT,failedOf→GM,Call_→ID,arrOf→IE,IsTup→JG,pendingOf→Le,sortRuns'→Lf,SortSt→Lj,boot_list→W5,boot_zip→W6,callWith_builtin1→W7,slicePart_none→W8,slot_tuple_getitem→W9,subscriptTail_builtinR→Xa
open PySem.NameKind renaming cell→Cd,free→DZ
open PySem.F renaming slot_zip_next→Cy,slot_tuple_iterator_next→DY,args_zip_next_1→D6,entry_zip_next→Ep,slot_list_extend→EZ,plain_extend_loop→Fi,plainAttrs_list→FU,args_list_extend_2→Xi,args_object_init_2→Xj,args_tuple_add_2→Xk,args_tuple_iterator_next_1→Xl,called_zip→Xm,entry_extend_loop→Xn,entry_list_extend→Xo,entry_tuple_add→Xp,entry_tuple_iterator_next→Xq,entry_zip_new→Xr,plain_list_iadd→Xs,plain_tuple_new→Xu,slot_tuple_add→Xv,slot_zip_iter→Xx,type_list_extend→Xy
open PySem.Builtin.Tuple renaming tupleExact→Da,tupleCompareSizes→Xg
open PySem.Value renaming none→Dh,type→DO,ref→DR,int→H9,bool→XI,str→XJ
open PySem.Builtin.List renaming listTooLong→DA,listExtendWith→Xd,listSameRef→Xe
open Ne renaming symm→DK
open Classical renaming byContradiction→Eb,choose_spec→EU,choose→Wk
open False renaming elim→Ec
open PySem.Around renaming under_plainId→Ef
open PySem.Builtin.Slice renaming slicePlaces→Eg,sliceAdjust→Fu,sliceApplied→Xf
open ForInStep renaming yield→EK
open PySem.AutoSeq1 renaming sub_tuple_tuple→FE,wpAny_loadPart'→Xb
open PySem.Shared renaming heap→FY
open PyProof.Rows.SortSt renaming mk'→Gq
open PySem.SeqAt renaming EqAt→Gs,RcNeAt→Jk,RcAt→Km
open PySem.Heap.SameBut renaming update→GL,refl→XB
open PySem.Calls renaming spliced_cons→G1,spliced_nil→Ho,Name_function_global→Xh
open Sum renaming inl→Ht,inr→Hu
open List.cons renaming injEq→HX
open List.Perm renaming cons→Iy
open Nat.succ renaming inj→Ji
open PyProof.Rows.IsTup renaming new→Jj
open PySem.Walks renaming list→Kn,tuple→XX
open NeZero renaming ne→Ld
open PySem.Data renaming cell→Lg,seq→Lk
open Function renaming comp_def→Wl
open PySem.Builtin.Int renaming intBits→Xc
open PySem.Paired renaming length→XF
open PySem.SeqAt.EqAt renaming of_refs→XG,same→XH
open PySem.W.WData renaming int→XM
open PySem.W.WShape renaming has→XN
abbrev Fg:=PySem.W.Frag
abbrev Pn:=Ac (PySem.Addr×PySem.Obj)
abbrev Vq:=PySem.Value->PySem.Shared->Prop
set_option genSizeOfSpec false
-- CHANGE: your row's module here,as the last of these rows
namespace L2
open PySem PySem.Spec PyProof.Rows
abbrev Key:=Sum Ae Al
noncomputable def VE:Key->Ai->Ao
 |.inl k,v=>Value.isInt k v
 |.inr x,v=>Value.isStrOf x v
noncomputable def Yt(w:AN):Key->Ae
 |.inl k=>hashInt k
 |.inr x=>hashStr w x
theorem IN:∀{k:Key}{v:Ai},VE k v=Aa->(∃ i t,k=Ht i/\v=H9 i t)\/(∃ x t,k=Hu x/\v=XJ x t)
 |.inl i,v,h=>by
  obtain⟨t,e⟩:=Value.isInt_shape (k:=i) (v:=v) h;exact .inl ⟨i,t,rfl,e⟩
 |.inr x,v,h=>by
  obtain⟨t,e⟩:=Value.isStrOf_shape (x:=x) (v:=v) h;exact .inr ⟨x,t,rfl,e⟩
theorem pY(a b:Ae):decide ((Ht a:Key)=Ht b)=(a==b):=by
 by_cases e:a=b
 ·subst e;simp
 ·have h:¬ (Ht a:Key)=Ht b:=fun q=>e (Sum.inl.inj q)
  rw[CD h];exact(DI.mpr e).symm
theorem pV(a b:Al):decide ((Hu a:Key)=Hu b)=decide (a=b):=by
 by_cases e:a=b
 ·subst e;simp
 ·have h:¬ (Hu a:Key)=Hu b:=fun q=>e (Sum.inr.inj q)
  rw[CD h,CD e]
theorem pX(a:Ae)(b:Al):decide ((Ht a:Key)=Hu b)=Ad:=CD (fun q=>nomatch q)
theorem pW(a:Al)(b:Ae):decide ((Hu a:Key)=Ht b)=Ad:=CD (fun q=>nomatch q)
noncomputable def Pf(prog:A8)(w:AN):PySem.KeyKind prog w Key where
 is:=VE
 hash:=Yt w
 inj:=fun v a b ha hb=>by
  rcases IN ha with ⟨i,t,rfl,rfl⟩|⟨x,t,rfl,rfl⟩
  ·rcases IN hb with ⟨j,u,rfl,e⟩|⟨y,u,rfl,e⟩
   ·injection e with e1 _;rw[e1]
   ·exact nomatch e
  ·rcases IN hb with ⟨j,u,rfl,e⟩|⟨y,u,rfl,e⟩
   ·exact nomatch e
   ·injection e with e1 _;rw[e1]
 byValue:=fun k v h=>by
  rcases IN h with ⟨i,t,rfl,rfl⟩|⟨x,t,rfl,rfl⟩<;>rfl
 pyHash:=fun hv h=>by
  rcases IN hv with ⟨i,t,rfl,rfl⟩|⟨x,t,rfl,rfl⟩
  ·exact wpAny_pyHash_int h
  ·exact wpAny_pyHash_str h
 eqBool:=fun hu hv h=>by
  rcases IN hu with ⟨i,t,rfl,rfl⟩|⟨x,t,rfl,rfl⟩
  ·rcases IN hv with ⟨j,u,rfl,rfl⟩|⟨y,u,rfl,rfl⟩
   ·rw[pY]at h;exact F8 h
   ·rw[pX]at h;exact SeqAt.EqAt.int_str i t y u _ _ _ _ h
  ·rcases IN hv with ⟨j,u,rfl,rfl⟩|⟨y,u,rfl,rfl⟩
   ·rw[pW]at h;exact SeqAt.EqAt.str_int x t j u _ _ _ _ h
   ·rw[pV]at h;exact wpAny_eqBool_str h
 «strs»:=fun k x t v h=>by
  rcases IN h with ⟨i,u,rfl,e⟩|⟨y,u,rfl,e⟩
  ·exact nomatch e
  ·injection e with e1 _
   subst e1;cases v<;>rfl
end L2
namespace L2
open PySem PySem.Spec PyProof.Rows
variable{us:Ac Ai}{a b it:Ak}{P:A8}{h:AS}{o:DB}{g':AQ Ll}{t' i k n:Ag}{d':Drawn}{ch fp:Ac Ak}{x qual:Al}{M:Kk}{u:Ai}{Q:JR->Ap->Prop}{e tg:At}{s:Ap}{pos p:Bk}{pI:Pn}{es:Ac At}{body:Ac Cj}{f:Ai->Ai->G5 Ai}{g:Ae->Ae->Ae}{op:ES}{fd:CO}{ps:Ac Al}{scope:CM}
inductive V where
 |non|bl (b:Ao)|int (i:Ae)|str (x:Al)|byt (b:AQ UInt8)|flt (b:UInt64)|ref (a:Ak)|ty (n:DT)
 deriving DecidableEq
variable{xs vs:Ac V}{v:V}
def BZ:V->Ai->Prop
 |.non,u=>u=Dh
 |.bl b,u=>u=XI b
 |.int i,u=>∃ t,u=H9 i t
 |.str x,u=>∃ t,u=XJ x t
 |.byt b,u=>∃ t,u=Value.bytes b t
 |.flt b,u=>∃ t,u=Value.float b t
 |.ref a,u=>u=DR a
 |.ty n,u=>u=DO n
noncomputable abbrev Br:Ac V->Ac Ai->Prop:=HF BZ
theorem Br.length(r:Br xs us):xs.length=us.length:=XF r
theorem Br.get:∀{xs:Ac V}{us:Ac Ai}{i:Ag}{x:V},Br xs us->xs[i]?=Ab x->∃ u,us[i]?=Ab u/\BZ x u
 |_,_,_,_,.nil,e=>by simp at e
 |_,_,0,_,.cons r _,e=>by simp at e;subst e;exact⟨_,rfl,r⟩
 |_,_,i+1,x,.cons _ t,e=>by
  obtain⟨u,h1,h2⟩:=Br.get (i:=i) (x:=x) t (by simpa using e)
  exact⟨u,by simpa using h1,h2⟩
theorem Br.set{x:V}{u:Ai}(r:BZ x u):∀{xs:Ac V}{us:Ac Ai}(i:Ag),Br xs us->Br (xs.set i x) (us.set i u)
 |_,_,_,.nil=>.nil
 |_,_,0,.cons _ t=>.cons r t
 |_,_,i+1,.cons q t=>.cons q (Br.set r i t)
theorem Br.append:∀{xs ys:Ac V}{us ws:Ac Ai},Br xs us->Br ys ws->Br (xs++ys) (us++ws)
 |_,_,_,_,.nil,s=>s
 |_,_,_,_,.cons r t,s=>.cons r (Br.append t s)
theorem Br.take:∀{xs:Ac V}{us:Ac Ai}(n:Ag),Br xs us->Br (xs.take n) (us.take n)
 |_,_,0,_=>.nil
 |_,_,_+1,.nil=>.nil
 |_,_,n+1,.cons r t=>.cons r (Br.take n t)
theorem Br.drop:∀{xs:Ac V}{us:Ac Ai}(n:Ag),Br xs us->Br (xs.drop n) (us.drop n)
 |_,_,0,r=>r
 |_,_,_+1,.nil=>.nil
 |_,_,n+1,.cons _ t=>Br.drop n t
def Q3:Av V->Av Ai->Prop
 |some v,Ab u=>BZ v u
 |none,Af=>IK
 |_,_=>BK
def KV{κ:Type}:Ac (κ×V)->Ac (κ×Ai)->Prop:=HF fun(p:κ×V)(q:κ×Ai)=>p.1=q.1/\BZ p.2 q.2
noncomputable def kV:Key->V
 |.inl i=>.int i
 |.inr x=>.str x
inductive HO where
 /-- a list -/
 |lst (xs:Ac V)
 /-- a tuple (never changes) -/
 |tup (xs:Ac V)
 /-- a dict whose keys are ints and texts;one whose keys are tuples of ints and texts (the empty one is both) -/
 |dK (kvs:Ac (Key×V))|dT (kvs:Ac (Ac Key×V))
 /-- a set of ints: its members,its size -/
 |set (S:Ae->Ao) (n:Ag)
 /-- an instance of the class at C,its dict at dx,its attributes -/
 |ins (C dx:Ak) (fs:Ac (Al×V))
 /-- the dict of the instance at x -/
 |own (x:Ak)
 /-- the dict of an exception -/
 |xd (fs:Ac (Al×V))
 /-- a bound method,f of x -/
 |met (f x:Ak)
 /-- a range object lo,lo+1,.. below hi -/
 |rng (lo hi:Ae)
 /-- a thing that is known to the object (the script;a dict while a loop walks it): read,never written while it is so -/
 |frz (o:DB) (u:HO)
 /-- a code object's table -/
 |tbl (ps:AQ Ai)
 /-- any other thing,by what is Aa of its one object (a def of one's own: SetO a S n:=HO.ext fun h=>..) -/
 |ext (φ:AS->Prop)
abbrev Hp:=Ak->Av HO
variable{H:Hp}
noncomputable def upd(H:Hp)(a:Ak)(o:HO):Hp:=fun b=>if b=a then Ab o else H b
theorem Jv{o:HO}:upd H a o a=Ab o:=by unfold upd;rw[Az rfl]
theorem Ds{o:HO}(h:b≠a):upd H a o b=H b:=by unfold upd;rw[AH h]
theorem Ga{o:HO}(h:H a=Ab o)(h':H b=Af):a≠b:=by
 intro e;subst e;rw[h]at h';cases h'
section
variable(P:A8)(w:AN)
def ObjOk(H:Hp)(h:AS)(a:Ak):HO->Prop
  |.lst xs=>xs.length<=sizeLine/\∃(its:Ac Ai)(n:Ag),Br xs its/\h.get? a=Ab { cls:=.type "list", data:=.seq its.toArray n }
  |.tup xs=>xs.length<=sizeLine/\∃ its:Ac Ai,Br xs its/\JG h a its.toArray
  |.dK kvs=>kvs.length<=sizeLine/\(a==Kt)=Ad/\∃ vs,KV kvs vs/\h.DictOf (Pf P w) a vs
  |.dT kvs=>kvs.length<=sizeLine/\(a==Kt)=Ad/\∃ xs:Ac (Ac Key×Ak×Ai),
      HF (fun(p:Ac Key×V)(q:Ac Key×Ak×Ai)=>p.1=q.1/\H q.2.1=Ab (.tup (p.1.map kV))/\BZ p.2 q.2.2) kvs xs /\
      ∃ o es ep,h.get? a=Ab o/\o.ExactDict/\o.data=.dict es ep/\es.toList=xs.map (entryOfKey (tupleKind (Pf P w)))/\(xs.map (·.1)).Nodup
  |.set S n=>h.SetOf (intKind P w) a S n
  |.ins C dx fs=>H dx=Ab (.own a)/\fs.length<=1000/\dx≠a/\h.get? a=Ab (PySem.W.instObj C dx) /\
      ∃ mA,h.Ns1 dx mA/\(∀ f,Q3 (fs.lookup f) (mA f))/\PySem.Within mA (fs.map (·.1))
  |.own _=>∃ o,h.get? a=Ab o
  |.xd fs=>∃ mA,h.Ns1 a mA/\∀ f,Q3 (fs.lookup f) (mA f)
  |.rng lo hi=>∃ t u v,h.get? a=Ab { cls:=.type "range", data:=.fields #[.int lo t,.int hi u,.int 1 v] }
  |.frz o u=>h.get? a=Ab o/\ObjOk H h a u
  |.tbl ps=>h.get? a=Ab {cls:=.none,data:=.fields ps}
  |.met f x=>h.get? a=Ab (Hq (.ref f) (.ref x))
  |.ext φ=>φ h/\(∃ o,h.get? a=Ab o)/\∀ h1 h2:AS,φ h1->(∀ o,h1.get? a=Ab o->h2.get? a=Ab o)->φ h2
def HOk(H:Hp)(h:AS):Prop:=∀ a o,H a=Ab o->ObjOk P w H h a o
end
section
variable{P:A8}{w:AN}{H H':Hp}{h h':AS}{a:Ak}{o:HO}
theorem ObjOk.lt(x:ObjOk P w H h a o):a<h.objs.size:=by
 cases o with
 |lst xs=>obtain⟨_,_,_,_,e⟩:=x;exact AG e
 |tup xs=>obtain⟨_,_,_,p⟩:=x;exact p.lt
 |dK kvs=>obtain⟨_,_,_,_,o,_,_,e,_⟩:=x;exact AG e
 |dT kvs=>obtain⟨_,_,_,_,o,_,_,e,_⟩:=x;exact AG e
 |set S n=>obtain⟨o,_,_,_,e,_⟩:=x;exact AG e
 |ins C dx fs=>obtain⟨_,_,_,e,_⟩:=x;exact AG e
 |own y=>obtain⟨_,e⟩:=x;exact AG e
 |xd fs=>obtain⟨_,⟨_,_,_,e,_⟩,_⟩:=x;exact AG e
 |rng lo hi=>obtain⟨_,_,_,e⟩:=x;exact AG e
 |frz ob u=>obtain⟨e,_⟩:=x;exact AG e
 |tbl ps=>exact AG (show h.get? a=Ab _ from x)
 |met f y=>exact AG (show h.get? a=Ab _ from x)
 |ext φ=>obtain⟨_,⟨_,e⟩,_⟩:=x;exact AG e
theorem HF.mapP{α β:Type}{F G:α->β->Prop}:∀{l₁:Ac α}{l₂:Ac β},HF F l₁ l₂->(∀ a b,F a b->G a b)->HF G l₁ l₂
 |_,_,.nil,_=>.nil
 |_,_,.cons r t,f=>.cons (f _ _ r) (HF.mapP t f)
theorem ObjOk.stay(x:ObjOk P w H h a o)(k:∀ b u,(b=a\/H b=Ab (.own a))->h.get? b=Ab u->h'.get? b=Ab u)(ho:∀ b,H b=Ab (.own a)->H' b=Ab (.own a))(ht:∀ b xs,H b=Ab (.tup xs)->H' b=Ab (.tup xs)):ObjOk P w H' h' a o:=by
 induction o with
 |lst xs=>obtain⟨z,its,n,r,e⟩:=x;exact⟨z,its,n,r,k _ _ (.inl rfl) e⟩
 |tup xs=>obtain⟨z,its,r,ob,e,c⟩:=x;exact⟨z,its,r,ob,k _ _ (.inl rfl) e,c⟩
 |dK kvs=>obtain⟨z,y,vs,r,ob,es,ep,e,c⟩:=x;exact⟨z,y,vs,r,ob,es,ep,k _ _ (.inl rfl) e,c⟩
 |dT kvs=>
  obtain⟨z,y,xs,r,ob,es,ep,e,c⟩:=x;exact⟨z,y,xs,HF.mapP r fun p q z=>⟨z.1,ht _ _ z.2.1,z.2.2⟩,ob,es,ep,k _ _ (.inl rfl) e,c⟩
 |set S n=>obtain⟨ob,es,ep,t,e,c⟩:=x;exact⟨ob,es,ep,t,k _ _ (.inl rfl) e,c⟩
 |ins C dx fs=>
  obtain⟨d,z,ne,e,mA,⟨od,es,ep,e2,c⟩,r⟩:=x;exact⟨ho _ d,z,ne,k _ _ (.inl rfl) e,mA,⟨od,es,ep,k _ _ (.inr d) e2,c⟩,r⟩
 |own y=>obtain⟨ob,e⟩:=x;exact⟨ob,k _ _ (.inl rfl) e⟩
 |xd fs=>obtain⟨mA,⟨od,es,ep,e,c⟩,r⟩:=x;exact⟨mA,⟨od,es,ep,k _ _ (.inl rfl) e,c⟩,r⟩
 |rng lo hi=>obtain⟨t,u,v,e⟩:=x;exact⟨t,u,v,k _ _ (.inl rfl) e⟩
 |frz ob u ih=>obtain⟨e,q⟩:=x;exact⟨k _ _ (.inl rfl) e,ih q⟩
 |tbl ps=>
  have e:h.get? a=Ab {cls:=.none,data:=.fields ps}:=x;show h'.get? a=Ab {cls:=.none,data:=.fields ps};exact k a _ (.inl rfl) e
 |met f y=>
  have e:h.get? a=Ab (Hq (.ref f) (.ref y)):=x;show h'.get? a=Ab (Hq (.ref f) (.ref y));exact k a _ (.inl rfl) e
 |ext φ=>obtain⟨p,⟨o,e⟩,st⟩:=x;exact⟨st _ _ p fun o q=>k _ _ (.inl rfl) q,⟨o,k _ _ (.inl rfl) e⟩,st⟩
theorem HOk.lt(x:HOk P w H h)(e:H a=Ab o):a<h.objs.size:=(x a o e).lt
theorem HOk.fresh(x:HOk P w H h)(e:h.objs.size<=a):H a=Af:=by
 cases q:H a with
 |none=>rfl
 |some u=>exact absurd (AD (x.lt q) e) (Bw _)
theorem HOk.kept(x:HOk P w H h)(k:∀ b u,h.get? b=Ab u->h'.get? b=Ab u):HOk P w H h':=fun a o e=>
 (x a o e).stay (fun b u _ q=>k b u q) (fun _ q=>q) fun _ _ q=>q
theorem HOk.laid(x:HOk P w H h)(k:∀ b u,h.get? b=Ab u->h'.get? b=Ab u)(hp:h.objs.size<=a)(new:ObjOk P w (upd H a o) h' a o):HOk P w (upd H a o) h':=fun b u e=>by
 have hn:=x.fresh hp;by_cases hb:b=a
 ·subst hb;rw[Jv]at e;cases e;exact new
 ·rw[Ds hb]at e;exact(x b u e).stay (fun c v _ q=>k c v q) (fun c q=>by rw[Ds (Ga q hn)];exact q) fun c xs q=>by rw[Ds (Ga q hn)];exact q
end
def Rd(H:Hp)(a:Ak)(u:HO):Prop:=H a=Ab u\/∃ o,H a=Ab (.frz o u)
theorem Rd.ok{w:AN}{u:HO}(r:Rd H a u)(x:HOk P w H h):ObjOk P w H h a u:=by
 rcases r with r|⟨o,r⟩
 ·exact x a u r
 ·obtain⟨_,q⟩:=x a _ r;exact q
def Mut:Av HO->Prop
 |some (.lst _)=>IK
 |some (.dK _)=>IK
 |some (.dT _)=>IK
 |some (.set _ _)=>IK
 |some (.ins _ _ _)=>IK
 |some (.ext _)=>IK
 |_=>BK
section
variable{P:A8}{w:AN}{H:Hp}{h h':AS}{x e:Ak}{o':HO}
theorem HOk.write(ok:HOk P w H h)(mu:Mut (H x))(he:e=x\/H e=Ab (.own x))(k:∀ b u,b≠e->h.get? b=Ab u->h'.get? b=Ab u)(heo:∃ u,h'.get? e=Ab u)(new:ObjOk P w (upd H x o') h' x o'):HOk P w (upd H x o') h':=fun b u q=>by
 have nown:∀ c y,H c=Ab (.own y)->c≠x:=fun c y r z=>by subst z;rw[r]at mu;exact mu
 have ntup:∀ c xs,H c=Ab (.tup xs)->c≠x:=fun c xs r z=>by subst z;rw[r]at mu;exact mu
 by_cases hb:b=x
 ·subst hb;rw[Jv]at q;cases q;exact new
 ·rw[Ds hb]at q;by_cases hbe:b=e
  ·have q':H b=Ab (.own x):=by
    rcases he with z|z
    ·exact absurd (hbe.trans z) hb
    ·rw[hbe];exact z
   rw[q]at q';cases q';obtain⟨v,hv⟩:=heo;exact⟨v,by rw[hbe];exact hv⟩
  ·refine(ok b u q).stay (fun c v hc r=>k c v ?_ r) (fun c r=>by rw[Ds (nown c b r)];exact r) fun c xs r=>by rw[Ds (ntup c xs r)];exact r
   rcases hc with rfl|hc
   ·exact hbe
   ·rintro rfl;rcases he with z|z
    ·exact nown c b hc z
    ·rw[hc]at z;cases z;exact hb rfl
end
structure Un (fs ex:Ac Ak) (H H':Hp) (h h':AS):Prop where
 keep:∀ b o,h.get? b=Ab o->H b=Af->b∉fs->b∉ex->h'.get? b=Ab o
 slot:∀ b o,h.get? b=Ab o->H b=Af->b∈fs->b∉ex->∃ sl,h'.get? b=Ab {o with slots:=sl}
 free:∀ b o,h.get? b=Ab o->H b=Af->b∉ex->H' b=Af
 there:∀ b o,h.get? b=Ab o->b∉ex->∃ o',h'.get? b=Ab o'
 tups:∀ b xs,H b=Ab (.tup xs)->H' b=Ab (.tup xs)
 frzs:∀ b o u,H b=Ab (.frz o u)->H' b=Ab (.frz o u)
 tbls:∀ b ps,H b=Ab (.tbl ps)->∃ more,H' b=Ab (.tbl (ps++more))
section
variable{fs fs' ex ex':Ac Ak}{H H1 H2:Hp}{h h1 h2 h':AS}{a x e:Ak}{o:HO}
theorem Un.any(u:Un fs ex H H1 h h1){ob:DB}(q:h.get? b=Ab ob)(n:H b=Af)(hx:b∉ex):∃ sl,h1.get? b=Ab {ob with slots:=sl}:=by
 by_cases hb:b∈fs
 ·exact u.slot b ob q n hb hx
 ·exact⟨ob.slots,u.keep b ob q n hb hx⟩
theorem Un.kept(k:∀ b u,h.get? b=Ab u->h'.get? b=Ab u):Un fs ex H H h h':=
 ⟨fun b ob q _ _ _=>k b ob q,fun b ob q _ _ _=>⟨ob.slots,k b ob q⟩,fun _ _ _ n _=>n,fun b ob q _=>⟨ob,k b ob q⟩,fun _ _ q=>q,fun _ _ _ q=>q,fun _ ps q=>⟨#[],by rw[q];simp⟩⟩
theorem Un.refl:Un fs ex H H h h:=Un.kept fun _ _ q=>q
theorem Un.laid(k:∀ b u,h.get? b=Ab u->h'.get? b=Ab u)(hp:h.objs.size<=a)(hn:H a=Af):Un fs ex H (upd H a o) h h' where
 keep:=fun b u q _ _ _=>k b u q
 slot:=fun b u q _ _ _=>⟨u.slots,k b u q⟩
 free:=fun b u q n _=>by rw[Ds (A1 (AD (AG q) hp))];exact n
 there:=fun b u q _=>⟨u,k b u q⟩
 tups:=fun b xs q=>by rw[Ds (Ga q hn)];exact q
 frzs:=fun b u xs q=>by rw[Ds (Ga q hn)];exact q
 tbls:=fun b ps q=>⟨#[],by rw[Ds (Ga q hn),q];simp⟩
theorem Un.write(mu:Mut (H x))(he:e=x\/H e=Ab (.own x))(k:∀ b u,b≠e->h.get? b=Ab u->h'.get? b=Ab u)(heo:∃ u,h'.get? e=Ab u):Un fs ex H (upd H x o) h h':=by
 have hx:∀ b,H b=Af->b≠x:=fun b n z=>by subst z;rw[n]at mu;exact mu
 have hb:∀ b,H b=Af->b≠e:=fun b n z=>by
  subst z;rcases he with r|r
  ·exact hx b n r
  ·rw[n]at r;cases r
 have hm:∀ b u,H b=Ab u->¬ Mut (Ab u)->b≠x:=fun b u q nm z=>by subst z;rw[q]at mu;exact nm mu
 refine⟨fun b u q n _ _=>k b u (hb b n) q,fun b u q n _ _=>⟨u.slots,k b u (hb b n) q⟩,fun b u q n _=>by rw[Ds (hx b n)];exact n,fun b u q _=>?_,
  fun b xs q=>by rw[Ds (hm b _ q fun z=>z)];exact q,fun b u xs q=>by rw[Ds (hm b _ q fun z=>z)];exact q,fun b ps q=>⟨#[],by rw[Ds (hm b _ q fun z=>z),q];simp⟩⟩
 by_cases hbe:b=e
 ·subst hbe;exact heo
 ·exact⟨u,k b u hbe q⟩
end
noncomputable def trk(h:AS)(H:Hp):Ac Ak:=(Bb h.objs.size).filter fun a=>(H a).isSome
noncomputable def Ja(h:AS)(H:Hp):AS:=Gu h (trk h H)
theorem Z1(h:AS)(H:Hp):(Ja h H).objs.size=h.objs.size:=PySem.W.hideAll_size _ _
theorem bV(e:h.get? b=Ab o)(n:H b=Af):(Ja h H).get? b=Ab o:=
 EC _ e fun hm=>by
  have q:(H b).isSome=Aa:=(AR.mp hm).2;rw[n]at q;simp at q
theorem gN(e:(Ja h H).get? b=Ab o):h.get? b=Ab o/\H b=Af:=by
 have e':h.get? b=Ab o:=G2 (trk h H) e;refine⟨e',?_⟩;cases q:H b with
 |none=>rfl
 |some x=>
  have hm:b∈trk h H:=AR.mpr ⟨Ct.mpr (AG e'),by simp[q]⟩
  have z:(Ja h H).get? b=Af:=Gv (trk h H) hm;rw[z]at e;cases e
noncomputable def mH(g h:AS)(L:Ak):Pn:=(Bb h.objs.size).filterMap fun a=>if a=L\/(g.get? a).isSome=Aa then Af else (h.get? a).map fun o=>(a,o)
noncomputable def rest(g h:AS)(L d:Ak):Pn:=(mH g h L).filter fun p=>decide (p.1≠d)
structure Mod (K:Fg) (mg:Al->Av Ai) (base:AS):Prop where
 kin:K.In base
 glob:base.Ns Bj mg
 blt:∃ mb,base.Ns II mb/\∀ x:Al,x≠"__name__"->mb x=Db x
 nolimit:base.NoLimit
structure Cx where
 prog:A8
 w:AN
 K:Fg
 mg:Al->Av Ai
 base:AS
 A:Bu
 N:Ac Al
 s₀:Ap
 H₀:Hp
 env:CG
 outer:Ac CG
 stack:Ac CG
 ex:Ac Ak
 fn:Al->Ao
 calm:Ao
 pn:Pn
 xe:Ai->Ap->Prop
variable{X:Cx}
noncomputable def frs(l:Ac CG):Ac Ak:=l.filterMap (·.frame)
noncomputable abbrev Cx.fs(X:Cx):Ac Ak:=frs X.outer
def Vis(sc:CM)(x:Al):Prop:=sc.names.lookup x=Ab .local\/sc.names.lookup x=Ab .cell\/sc.names.lookup x=Ab .free
def Loc(sc:CM)(x:Al):Prop:=sc.names.lookup x=Ab .local\/sc.names.lookup x=Ab .cell
noncomputable def YH(env:CG)(h:AS)(m:Al->Av Ai)(x:Al)(u:Ai):Prop:=
 (env.kindOf x=Ab .local/\m x=Ab u)\/((env.kindOf x=Ab .cell\/env.kindOf x=Ab .free)/\∃ c,env.cells.lookup x=Ab c/\h.IsCell c (Ab u))
structure Cx.Ok (X:Cx):Prop where
 mod:Mod X.K X.mg X.base
 kind:X.env.scope.kind=.function
 glob:X.env.globals=Bj
 blt:X.env.builtins=II
 above:X.s₀.heap.objs.size<=X.env.locals
 inj:∀ x y c,X.env.cells.lookup x=Ab c->X.env.cells.lookup y=Ab c->x=y
 has:∀ x,(X.env.kindOf x=Ab .cell\/X.env.kindOf x=Ab .free)->∃ c,X.env.cells.lookup x=Ab c
 cab:∀ x c,X.fn x=Aa->X.env.cells.lookup x=Ab c->X.s₀.heap.objs.size<=c
 hd:X.calm=Aa->X.A.handled=Af
 frames:X.A.frames=Ab X.stack
 stk:X.stack=X.outer\/(X.stack=X.env::X.outer/\X.env.frame=Ab X.env.locals)
 exf:∀ b∈X.ex,b≠X.env.locals/\∀ x c,X.env.cells.lookup x=Ab c->c≠b
 bs:∀ b o,X.base.get? b=Ab o->X.s₀.heap.get? b=Ab o/\X.H₀ b=Af
 bsz:X.base.objs.size<=X.s₀.heap.objs.size
 noex:∀ b o,X.base.get? b=Ab o->b∉X.ex
 exfs:∀ b∈X.ex,b∉X.fs
 funs:X.s₀.heap.FunFrames X.base X.outer
 frf:∀ b∈X.fs,X.H₀ b=Af
structure Inv (X:Cx) (pI:Pn) (σ:Ac (Av V)) (H:Hp) (s:Ap):Prop where
 ok:X.Ok
 os:s.os=X.s₀.os
 bare:FQ s.gens
 base:Un X.fs X.ex X.H₀ H X.s₀.heap s.heap
 loc:∃ m,s.heap.Ns X.env.locals m/\∀(i:Ag)(x:Al)(v:V),X.N[i]?=Ab x->σ[i]?=Ab (Ab v)->Vis X.env.scope x->∃ u,BZ v u/\YH X.env s.heap m x u
 cell:∀ x c,X.env.cells.lookup x=Ab c->∃ v,s.heap.IsCell c v
 free:H X.env.locals=Af
 freeC:∀ x c,X.env.cells.lookup x=Ab c->H c=Af
 pin:∀ p∈X.pn++pI,s.heap.get? p.1=Ab p.2/\H p.1=Af/\p.1≠X.env.locals/\p.1∉X.fs/\∀ v,p.2.data≠.cell v
 hok:HOk X.prog X.w H s.heap
 len:σ.length=X.N.length
section
variable{X:Cx}{pI:Pn}{σ:Ac (Av V)}{H H':Hp}{s:Ap}{h':AS}
theorem Cx.Ok.nofr(ok:X.Ok)(e:X.base.get? b=Ab o):b∉X.fs:=fun hb=>by
 have:=(ok.funs.mem hb).1;rw[e]at this;cases this
theorem Inv.bs(I:Inv X pI σ H s):∀ b o,X.base.get? b=Ab o->s.heap.get? b=Ab o/\H b=Af:=fun b o e=>
 ⟨I.base.keep b o (I.ok.bs b o e).1 (I.ok.bs b o e).2 (I.ok.nofr e) (I.ok.noex b o e),I.base.free b o (I.ok.bs b o e).1 (I.ok.bs b o e).2 (I.ok.noex b o e)⟩
theorem Inv.bk(I:Inv X pI σ H s):∀ b o,X.base.get? b=Ab o->s.heap.get? b=Ab o:=fun b o e=>(I.bs b o e).1
theorem Inv.mod(I:Inv X pI σ H s):Mod X.K X.mg X.base:=I.ok.mod
theorem Inv.kIn(I:Inv X pI σ H s):X.K.In s.heap:=I.ok.mod.kin.keeps I.bk
theorem Inv.lt(I:Inv X pI σ H s):X.env.locals<s.heap.objs.size:=let ⟨_,hn,_⟩:=I.loc;hn.lt
theorem Inv.sz(I:Inv X pI σ H s):X.s₀.heap.objs.size<=s.heap.objs.size:=BD I.ok.above (DQ I.lt)
theorem Inv.nofs(I:Inv X pI σ H s)(h:s.heap.objs.size<=a):a∉X.fs:=fun hb=>by
 obtain⟨_,o,ho,_⟩:=I.ok.funs.mem hb;exact absurd (AD (AG ho) (BD I.sz h)) (Bw _)
theorem Inv.cne(I:Inv X pI σ H s):∀ x c,X.env.cells.lookup x=Ab c->c≠X.env.locals:=fun x c e z=>by
 obtain⟨v,o,ho,hd⟩:=I.cell x c e;obtain⟨m,⟨o',es,ep,ho',hd',_⟩,_⟩:=I.loc;rw[z,ho']at ho;cases ho;rw[hd']at hd;cases hd
theorem Inv.funs(I:Inv X pI σ H s):s.heap.FunFrames X.base X.outer:=by
 have all:∀(l:Ac CG),(∀ b∈frs l,b∈X.fs)->X.s₀.heap.FunFrames X.base l->s.heap.FunFrames X.base l:=by
  intro l
  induction l with
  |nil=>intro _ _;trivial
  |cons env r ih=>
   intro hs hl;obtain⟨hk,⟨L,o,hf,hn,ho,hd⟩,hr⟩:=hl;have hL:L∈X.fs:=hs L (by unfold frs;rw[GI,hf];exact Ay)
   obtain⟨sl,e⟩:=I.base.slot L o ho (I.ok.frf L hL) hL fun z=>I.ok.exfs L z hL
   exact⟨hk,⟨L,_,hf,hn,e,hd⟩,ih (fun b hb=>hs b (by unfold frs;rw[GI,hf];exact Au _ hb)) hr⟩
 exact all X.outer (fun _ hb=>hb) I.ok.funs
theorem Inv.stack(I:Inv X pI σ H s):s.heap.FunFrames X.base X.stack:=by
 rcases I.ok.stk with e|⟨e,hf⟩
 ·rw[e];exact I.funs
 ·rw[e];obtain⟨m,hn,_⟩:=I.loc;refine .cons (by rw[I.ok.kind];decide) hf hn ?_ I.funs
  exact XC (BD I.ok.bsz I.ok.above)
theorem Inv.stkSub(I:Inv X pI σ H s):∀ b∈frs X.stack,b∈X.env.locals::X.fs:=fun b hb=>by
 rcases I.ok.stk with e|⟨e,hf⟩
 ·rw[e]at hb;exact Au _ hb
 ·rw[e]at hb;unfold frs at hb;rw[GI,hf]at hb;exact hb
theorem Inv.stkFree(I:Inv X pI σ H s):∀ b∈frs X.stack,H b=Af:=fun b hb=>by
 rcases Ax.mp (I.stkSub b hb) with e|hb
 ·rw[e];exact I.free
 ·obtain⟨_,o,ho,_⟩:=I.ok.funs.mem hb;exact I.base.free b o ho (I.ok.frf b hb) fun z=>I.ok.exfs b z hb
theorem Inv.step(I:Inv X pI σ H s)(hch:∀ b∈ch,(b∈X.ex\/X.s₀.heap.objs.size<=b)/\b≠X.env.locals/\(∀ x c,X.env.cells.lookup x=Ab c->c≠b)/\∀ p∈X.pn++pI,p.1≠b)(keep:∀ b o,b≠X.env.locals->b∉X.fs->b∉ch->s.heap.get? b=Ab o->H b=Af->h'.get? b=Ab o)(slot:∀ b o,b≠X.env.locals->b∈X.fs->b∉ch->s.heap.get? b=Ab o->H b=Af->∃ sl,h'.get? b=Ab {o with slots:=sl})(free:∀ b o,b∉ch->s.heap.get? b=Ab o->H b=Af->H' b=Af)(there:∀ b o,b∉ch->s.heap.get? b=Ab o->∃ o',h'.get? b=Ab o')(tups:∀ b xs,H b=Ab (.tup xs)->H' b=Ab (.tup xs))(frzs:∀ b o u,H b=Ab (.frz o u)->H' b=Ab (.frz o u))(tbls:∀ b ps,H b=Ab (.tbl ps)->∃ more,H' b=Ab (.tbl (ps++more)))(ns:∀ m,s.heap.Ns X.env.locals m->h'.Ns X.env.locals m)(hok:HOk X.prog X.w H' h')(hg:FQ g'):Inv X pI σ H' {s with heap:=h',gens:=g',drawn:=d',toks:=t'}:=by
 have neL:∀ b o,X.s₀.heap.get? b=Ab o->b≠X.env.locals:=fun b o e=>A1 (AD (AG e) I.ok.above)
 have neC:∀ b o,X.s₀.heap.get? b=Ab o->b∉X.ex->b∉ch:=fun b o e hx hb=>by
  rcases (hch b hb).1 with z|z
  ·exact hx z
  ·exact absurd (AD (AG e) z) (Bw _)
 have cellK:∀ x c,X.env.cells.lookup x=Ab c->∀ v,s.heap.IsCell c v->h'.IsCell c v:=fun x c e v ⟨o,ho,hd⟩=>by
  have nch:c∉ch:=fun z=>(hch c z).2.2.1 x c e rfl
  by_cases hc:c∈X.fs
  ·obtain⟨sl,q⟩:=slot c o (I.cne x c e) hc nch ho (I.freeC x c e);exact⟨_,q,hd⟩
  ·exact⟨o,keep c o (I.cne x c e) hc nch ho (I.freeC x c e),hd⟩
 refine⟨I.ok,I.os,hg,⟨fun b o e n hb hx=>?_,fun b o e n hb hx=>?_,fun b o e n hx=>?_,fun b o e hx=>?_,fun b xs e=>tups b xs (I.base.tups b xs e),fun b o xs e=>frzs b o xs (I.base.frzs b o xs e),fun b ps e=>?_⟩,?_,fun x c e=>?_,?_,fun x c e=>?_,fun p hp=>?_,hok,I.len⟩
 ·exact keep b o (neL b o e) hb (neC b o e hx) (I.base.keep b o e n hb hx) (I.base.free b o e n hx)
 ·obtain⟨sl,e1⟩:=I.base.slot b o e n hb hx;obtain⟨sl',e2⟩:=slot b _ (neL b o e) hb (neC b o e hx) e1 (I.base.free b o e n hx);exact⟨sl',e2⟩
 ·obtain⟨o',e1⟩:=I.base.there b o e hx;exact free b o' (neC b o e hx) e1 (I.base.free b o e n hx)
 ·obtain⟨o',e1⟩:=I.base.there b o e hx;exact there b o' (neC b o e hx) e1
 ·obtain⟨m1,e1⟩:=I.base.tbls b ps e;obtain⟨m2,e2⟩:=tbls b _ e1;exact⟨m1++m2,by rw[e2,Array.append_assoc]⟩
 ·obtain⟨m,hn,hl⟩:=I.loc;refine⟨m,ns m hn,fun i x v e1 e2 e3=>?_⟩
  obtain⟨u,r,l⟩:=hl i x v e1 e2 e3;refine⟨u,r,?_⟩;rcases l with l|⟨k,c,e,z⟩
  ·exact .inl l
  ·exact .inr ⟨k,c,e,cellK x c e _ z⟩
 ·obtain⟨v,z⟩:=I.cell x c e;exact⟨v,cellK x c e v z⟩
 ·obtain⟨m,⟨o,_,_,ho,_⟩,_⟩:=I.loc;exact free _ o (fun z=>(hch _ z).2.1 rfl) ho I.free
 ·obtain⟨v,o,ho,hd⟩:=I.cell x c e;exact free c o (fun z=>(hch c z).2.2.1 x c e rfl) ho (I.freeC x c e)
 ·obtain⟨e,n,ne,nf,d⟩:=I.pin p hp;have nch:p.1∉ch:=fun z=>(hch p.1 z).2.2.2 p hp rfl
  exact⟨keep p.1 p.2 ne nf nch e n,free p.1 p.2 nch e n,ne,nf,d⟩
theorem Inv.un(I:Inv X pI σ H s)(u:Un X.fs [] H H' s.heap h')(hok:HOk X.prog X.w H' h'):Inv X pI σ H' {s with heap:=h',toks:=t'}:=by
 obtain⟨m,⟨o,es,ep,ho,r⟩,_⟩:=id I.loc;obtain⟨sl,hL⟩:=u.any ho I.free (by simp)
 exact I.step (g':=s.gens) (d':=s.drawn) (ch:=[]) (fun _ z=>nomatch z) (fun b o _ hb _ e n=>u.keep b o e n hb (by simp)) (fun b o _ hb _ e n=>u.slot b o e n hb (by simp)) (fun b o _ e n=>u.free b o e n (by simp)) (fun b o _ e=>u.there b o e (by simp)) u.tups u.frzs u.tbls (fun m' hm=>by
  obtain⟨o',es',ep',ho',r'⟩:=hm;rw[ho]at ho';cases ho';exact⟨_,es',ep',hL,r'⟩) hok I.bare
theorem Inv.call(I:Inv X pI σ H s)(u:Un (frs X.stack) ch H H' s.heap h')(hok:HOk X.prog X.w H' h')(hg:FQ g')(hch:∀ b∈ch,(b∈X.ex\/X.s₀.heap.objs.size<=b)/\b≠X.env.locals/\(∀ x c,X.env.cells.lookup x=Ab c->c≠b)/\∀ p∈X.pn++pI,p.1≠b):Inv X pI σ H' {s with heap:=h',gens:=g',drawn:=d',toks:=t'}:=by
 obtain⟨m,⟨o,es,ep,ho,r⟩,_⟩:=id I.loc;obtain⟨sl,hL⟩:=u.any ho I.free fun z=>(hch _ z).2.1 rfl
 exact I.step (ch:=ch) hch (fun b o hL hb hc e n=>u.keep b o e n (fun z=>(Ax.mp (I.stkSub b z)).elim hL hb) hc) (fun b o _ _ hc e n=>u.any e n hc) (fun b o hc e n=>u.free b o e n hc) (fun b o hc e=>u.there b o e hc) u.tups u.frzs u.tbls (fun m' hm=>by
  obtain⟨o',es',ep',ho',r'⟩:=hm;rw[ho]at ho';cases ho';exact⟨_,es',ep',hL,r'⟩) hok hg
theorem Inv.turned(I:Inv X pI σ H s)(k:∀ b o,b≠it->s.heap.get? b=Ab o->h'.get? b=Ab o)(hn:H it=Af)(hL:it≠X.env.locals)(h1:it∈X.ex\/X.s₀.heap.objs.size<=it)(h2:∀ x c,X.env.cells.lookup x=Ab c->c≠it)(h3:∀ p∈X.pn++pI,p.1≠it):Inv X pI σ H {s with heap:=h',toks:=t'}:=by
 have nit:∀ b u,H b=Ab u->b≠it:=fun b u e z=>by rw[z,hn]at e;cases e
 refine I.step (g':=s.gens) (d':=s.drawn) (ch:=[it]) (fun b hb=>?_) (fun b o _ _ hc e _=>k b o (fun z=>hc (by simp[z])) e) (fun b o _ _ hc e _=>⟨o.slots,k b o (fun z=>hc (by simp[z])) e⟩) (fun _ _ _ _ n=>n)
  (fun b o hc e=>⟨o,k b o (fun z=>hc (by simp[z])) e⟩) (fun _ _ e=>e) (fun _ _ _ e=>e) (fun b ps e=>⟨#[],by rw[e];simp⟩) (fun m hm=>?_) (fun b u e=>?_) I.bare
 ·have e:b=it:=by simpa using hb
  subst e;exact⟨h1,hL,h2,h3⟩
 ·obtain⟨o,es,ep,ho,r⟩:=hm;exact⟨o,es,ep,k _ o (DK hL) ho,r⟩
 ·refine(I.hok b u e).stay (fun c v hc q=>k c v ?_ q) (fun _ q=>q) fun _ _ q=>q
  rcases hc with z|z
  ·rw[z];exact nit b u e
  ·exact nit c _ z
theorem Inv.tok(I:Inv X pI σ H s)(t:Ag):Inv X pI σ H {s with toks:=t}:=I.un (h':=s.heap) (t':=t) Un.refl I.hok
theorem Inv.kept{t':Ag}(I:Inv X pI σ H s)(k:∀ b u,s.heap.get? b=Ab u->h'.get? b=Ab u):Inv X pI σ H {s with heap:=h',toks:=t'}:=I.un (Un.kept k) (I.hok.kept k)
theorem Inv.laid{a:Ak}{o:HO}{t':Ag}(I:Inv X pI σ H s)(k:∀ b u,s.heap.get? b=Ab u->h'.get? b=Ab u)(hp:s.heap.objs.size<=a)(new:ObjOk X.prog X.w (upd H a o) h' a o):Inv X pI σ (upd H a o) {s with heap:=h',toks:=t'}:=I.un (Un.laid k hp (I.hok.fresh hp)) (I.hok.laid k hp new)
theorem Inv.write{x e:Ak}{o:HO}{t':Ag}(I:Inv X pI σ H s)(mu:Mut (H x))(he:e=x\/H e=Ab (.own x))(k:∀ b u,b≠e->s.heap.get? b=Ab u->h'.get? b=Ab u)(heo:∃ u,h'.get? e=Ab u)(new:ObjOk X.prog X.w (upd H x o) h' x o):Inv X pI σ (upd H x o) {s with heap:=h',toks:=t'}:=I.un (Un.write mu he k heo) (I.hok.write mu he k heo new)
theorem Inv.pins_of{pins':Pn}(I:Inv X pI σ H s)(h:∀ p∈pins',s.heap.get? p.1=Ab p.2/\H p.1=Af/\p.1≠X.env.locals/\p.1∉X.fs/\∀ v,p.2.data≠.cell v):Inv X pins' σ H s:=
 ⟨I.ok,I.os,I.bare,I.base,I.loc,I.cell,I.free,I.freeC,fun p hp=>(WL.mp hp).elim (fun z=>I.pin p (WM _ z)) (h p),I.hok,I.len⟩
theorem SY{N:Ac Al}(hN:N.Nodup){j:Ag}(a:N[i]?=Ab x)(b:N[j]?=Ab x):i=j:=by
 obtain⟨h1,e1⟩:=Ba.mp a;obtain⟨h2,e2⟩:=Ba.mp b;exact(List.getElem_inj hN).mp (e1.trans e2.symm)
theorem RH{A:Bu}{E:Vq}(I:Inv X pI σ H s)(hN:X.N.Nodup)(hi:X.N[i]?=Ab x)(hx:Loc X.env.scope x)(r:BZ v u)(h:∀ s',Inv X pI (σ.set i (Ab v)) H s'->(∃ a,E0 a s.heap s'.heap/\(a=X.env.locals\/X.env.cells.lookup x=Ab a))->Q () s')(hf:X.fn x=Aa\/X.env.scope.names.lookup x=Ab .local:=by first|exact .inl rfl|exact .inr rfl|assumption):AB M A (storeName X.env x u) Q E s:=by
 obtain⟨m,hn,hl⟩:=id I.loc;have hcls:(X.env.scope.kind==.class||(X.env.scope.kind==.module&&X.env.locals != X.env.globals))=Ad:=by rw[I.ok.kind];rfl
 have hiσ:i<σ.length:=by rw[I.len];exact(Ba.mp hi).1
 have cne:=I.cne;have tracked:∀{a:Ak}{h':AS},(∃ o,s.heap.get? a=Ab o/\H a=Af)->E0 a s.heap h'->HOk X.prog X.w H h':=fun {a h'} ha hs b ob e=>by
  obtain⟨_,_,hfree⟩:=ha;refine(I.hok b ob e).stay (fun c w' hc q=>(hs.2 c ?_).trans q) (fun _ q=>q) fun _ _ q=>q
  rintro rfl;rcases hc with rfl|hc
  ·rw[hfree]at e;cases e
  ·rw[hfree]at hc;cases hc
 rcases hx with hk|hk
 ·refine wpAny_storeName_local hk hn (fun h' hn' hs=>?_) hcls
  obtain⟨oL,_,_,hoL,_⟩:=id hn;refine h _ ⟨I.ok,I.os,I.bare,⟨fun b o e n hb hx=>?_,fun b o e n hb hx=>?_,I.base.free,fun b o e hx=>?_,I.base.tups,I.base.frzs,I.base.tbls⟩,⟨_,hn',fun j y v' e1 e2 e3=>?_⟩,fun y c e=>?_,I.free,I.freeC,fun p hp=>?_,tracked ⟨oL,hoL,I.free⟩ hs,by simpa using I.len⟩ ⟨_,hs,.inl rfl⟩
  ·exact(hs.2 b (A1 (AD (AG e) I.ok.above))).trans (I.base.keep b o e n hb hx)
  ·obtain⟨sl,e1⟩:=I.base.slot b o e n hb hx;exact⟨sl,(hs.2 b (A1 (AD (AG e) I.ok.above))).trans e1⟩
  ·obtain⟨o',e1⟩:=I.base.there b o e hx;exact⟨o',(hs.2 b (A1 (AD (AG e) I.ok.above))).trans e1⟩
  ·by_cases hj:j=i
   ·subst hj;rw[hi]at e1;cases e1;rw[Dl hiσ]at e2;cases e2;exact⟨u,r,.inl ⟨hk,by simp⟩⟩
   ·rw[Gk (DK hj)]at e2;obtain⟨u',r',q⟩:=hl j y v' e1 e2 e3;refine⟨u',r',?_⟩;rcases q with ⟨k,e⟩|⟨k,c,e,z⟩
    ·refine .inl ⟨k,?_⟩;have:y≠x:=fun e=>hj (SY hN e1 (e ▸ hi))
     simp[this,e]
    ·exact .inr ⟨k,c,e,z.sameBut hs (cne y c e)⟩
  ·obtain⟨w',z⟩:=I.cell y c e;exact⟨w',z.sameBut hs (cne y c e)⟩
  ·obtain⟨e,n,ne,nf,d⟩:=I.pin p hp;exact⟨(hs.2 p.1 ne).trans e,n,ne,nf,d⟩
 ·have hfn:X.fn x=Aa:=by
   rcases hf with z|z
   ·exact z
   ·rw[z]at hk;cases hk
  obtain⟨c,hc⟩:=I.ok.has x (.inl hk);obtain⟨w',z⟩:=I.cell x c hc;refine wpAny_storeName_cell I.ok.kind hk hc z (fun h' hc' hs=>?_)
  obtain⟨oc,hoc,hocd⟩:=id z;refine h {s with heap:=h'} ⟨I.ok,I.os,I.bare,⟨fun b o e n hb hx=>?_,fun b o e n hb hx=>?_,I.base.free,fun b o e hx=>?_,I.base.tups,I.base.frzs,I.base.tbls⟩,⟨m,hn.sameBut hs (DK (cne x c hc)),fun j y v' e1 e2 e3=>?_⟩,fun y c' e=>?_,I.free,I.freeC,fun p hp=>?_,tracked ⟨oc,hoc,I.freeC x c hc⟩ hs,by simpa using I.len⟩ ⟨c,hs,.inr hc⟩
  ·exact(hs.2 b (A1 (AD (AG e) (I.ok.cab x c hfn hc)))).trans (I.base.keep b o e n hb hx)
  ·obtain⟨sl,e1⟩:=I.base.slot b o e n hb hx;exact⟨sl,(hs.2 b (A1 (AD (AG e) (I.ok.cab x c hfn hc)))).trans e1⟩
  ·obtain⟨o',e1⟩:=I.base.there b o e hx;exact⟨o',(hs.2 b (A1 (AD (AG e) (I.ok.cab x c hfn hc)))).trans e1⟩
  ·by_cases hj:j=i
   ·subst hj;rw[hi]at e1;cases e1;rw[Dl hiσ]at e2;cases e2;exact⟨u,r,.inr ⟨.inl hk,c,hc,hc'⟩⟩
   ·rw[Gk (DK hj)]at e2;obtain⟨u',r',q⟩:=hl j y v' e1 e2 e3;refine⟨u',r',?_⟩;rcases q with q|⟨k,c',e,z'⟩
    ·exact .inl q
    ·refine .inr ⟨k,c',e,z'.sameBut hs ?_⟩;rintro rfl;exact hj (SY hN e1 (I.ok.inj _ _ _ e hc ▸ hi))
  ·by_cases hcc:c'=c
   ·subst hcc;exact⟨_,hc'⟩
   ·obtain⟨w2,z2⟩:=I.cell y c' e;exact⟨w2,z2.sameBut hs hcc⟩
  ·obtain⟨e,n,ne,nf,d⟩:=I.pin p hp;refine⟨(hs.2 p.1 ?_).trans e,n,ne,nf,d⟩;intro q;rw[q,hoc]at e;have q':oc=p.2:=BV e;exact d w' (by rw[<-q'];exact hocd)
theorem Tp{A:Bu}{E:Vq}(I:Inv X pI σ H s)(hN:X.N.Nodup)(hi:X.N[i]?=Ab x)(hx:Loc X.env.scope x)(r:BZ v u)(h:∀ s',Inv X pI (σ.set i (Ab v)) H s'->Q () s')(hf:X.fn x=Aa\/X.env.scope.names.lookup x=Ab .local:=by first|exact .inl rfl|exact .inr rfl|assumption):AB M A (storeName X.env x u) Q E s:=
 RH I hN hi hx r (fun s' I' _=>h s' I') hf
theorem Inv.call'{s':Ap}(I:Inv X pI σ H s)(ho:s'.os=s.os)(u:Un (frs X.stack) ch H H' s.heap s'.heap)(hok:HOk X.prog X.w H' s'.heap)(hg:FQ s'.gens)(hch:∀ b∈ch,(b∈X.ex\/X.s₀.heap.objs.size<=b)/\b≠X.env.locals/\(∀ x c,X.env.cells.lookup x=Ab c->c≠b)/\∀ p∈X.pn++pI,p.1≠b):Inv X pI σ H' s':=by
 obtain⟨h',g',d',t',o'⟩:=s';have e:o'=s.os:=ho;subst e;exact I.call (g':=g') (t':=t') (d':=d') u hok hg hch
end
abbrev XK:=Ai->Av Ak->Hp->Prop
abbrev St:=Ac (Av V)
variable{σ:St}
abbrev VK:=V->Hp->Prop
abbrev TE:=St->Hp->VK->Prop
variable{te:TE}
abbrev TT:=St->Hp->(Ao->Hp->Prop)->Prop
abbrev TA:=St->Hp->(Ac V->Hp->Prop)->Prop
variable{ta:TA}
structure Ends where
 nx:St->Hp->Prop
 rt:VK
 bk:St->Hp->Prop:=fun _ _=>BK
 ct:St->Hp->Prop:=fun _ _=>BK
abbrev TS:=Ends->St->Hp->Prop
def EP(X:Cx)(pI:Pn)(σ:St)(Q:VK)(u:Ai)(s':Ap):Prop:=∃ v H',Inv X pI σ H' s'/\BZ v u/\Q v H'
def TP(X:Cx)(pI:Pn)(σ:St)(Q:Ao->Hp->Prop)(b:Ao)(s':Ap):Prop:=∃ H',Inv X pI σ H' s'/\Q b H'
def AP(X:Cx)(pI:Pn)(σ:St)(Q:Ac V->Hp->Prop)(us:Ac Ai)(s':Ap):Prop:=∃ vs H',Inv X pI σ H' s'/\Br vs us/\Q vs H'
noncomputable def SP(X:Cx)(pI:Pn)(D:Ends)(f:Flow)(s':Ap):Prop:=
  match f with
  |.next=>∃ σ' H',Inv X pI σ' H' s'/\D.nx σ' H'
  |.brk=>∃ σ' H',Inv X pI σ' H' s'/\D.bk σ' H'
  |.cont=>∃ σ' H',Inv X pI σ' H' s'/\D.ct σ' H'
  |.ret u=>∃ v σ' H',Inv X pI σ' H' s'/\BZ v u/\D.rt v H'
noncomputable def PE(X:Cx)(e:At)(t:TE):Prop:=
 ∀(pI:Pn)(s:Ap)(σ:St)(H:Hp)(Q:VK),Inv X pI σ H s->t σ H Q->AB (model X.prog X.w) X.A (eval e X.env) (EP X pI σ Q) X.xe s
noncomputable def PT(X:Cx)(e:At)(t:TT):Prop:=
 ∀(pI:Pn)(s:Ap)(σ:St)(H:Hp)(Q:Ao->Hp->Prop),Inv X pI σ H s->t σ H Q->AB (model X.prog X.w) X.A (Iz e X.env (eval e X.env)) (TP X pI σ Q) X.xe s
noncomputable def PW(X:Cx)(e:At)(t:TT):Prop:=
 ∀(whole:G5 Ai)(pI:Pn)(s:Ap)(σ:St)(H:Hp)(Q:Ao->Hp->Prop),Inv X pI σ H s->t σ H Q->AB (model X.prog X.w) X.A (Iz e X.env whole) (TP X pI σ Q) X.xe s
theorem PW.pt{t:TT}(h:PW X e t):PT X e t:=h _
noncomputable def PA(X:Cx)(es:Ac At)(t:TA):Prop:=
 ∀(pos:Bk)(pI:Pn)(s:Ap)(σ:St)(H:Hp)(Q:Ac V->Hp->Prop),Inv X pI σ H s->t σ H Q->AB (model X.prog X.w) X.A (spliced (CU pos (AM es X.env))) (AP X pI σ Q) X.xe s
noncomputable def PS(X:Cx)(st:Cj)(t:TS):Prop:=
 ∀(pI:Pn)(s:Ap)(σ:St)(H:Hp)(D:Ends),Inv X pI σ H s->t D σ H->AB (model X.prog X.w) X.A (exec st X.env) (SP X pI D) X.xe s
noncomputable def PSs(X:Cx)(st:Ac Cj)(t:TS):Prop:=
 ∀(pI:Pn)(s:Ap)(σ:St)(H:Hp)(D:Ends),Inv X pI σ H s->t D σ H->AB (model X.prog X.w) X.A (execs st X.env) (SP X pI D) X.xe s
theorem thn{α:Type}{t:G5 α}{Q Q':α->Ap->Prop}{A:Bu}{E:Vq}(h:AB M A t Q E s)(hQ:∀ a s,Q a s->Q' a s):AB M A t Q' E s:=CK h hQ fun _ _ x=>x
section
variable{X:Cx}
def Jb(i:Ag):TE:=fun σ H Q=>∃ v,σ[i]?=Ab (Ab v)/\Q v H
def tC(v:V):TE:=fun _ H Q=>Q v H
theorem qH(hN:X.N[i]?=Ab x)(hv:Vis X.env.scope x)(hd:(x==("__debug__" : Al))=Ad:=by decide)(hcd:(x==("__classdict__" : Al))=Ad:=by decide):PE X (.Name x pos) (Jb i):=by
 intro pI s σ H Q I h;obtain⟨v,e,h⟩:=h;obtain⟨m,hn,hl⟩:=I.loc;obtain⟨u,r,l⟩:=hl i x v hN e hv;have fin:EP X pI σ Q u s:=⟨v,H,I,r,h⟩;rcases l with ⟨hk,hm⟩|⟨hk,c,hc,hcell⟩
 ·exact Kw (wpAny_loadName_local I.ok.kind hk hn hm fin) hd
 ·rcases hk with hk|hk
  ·exact Kw (wpAny_loadName_cell I.ok.kind hk hc hcell fin) hd
  ·exact Kw (wpAny_loadName_free I.ok.kind hk hc hcell fin hcd) hd
theorem qO{i j pos}:PE X (.Constant (.int i) j pos) (tC (.int i)):=fun _ _ _ H _ I h=>wpAny_Constant_int ⟨.int i,H,I.tok _,⟨_,rfl⟩,h⟩
theorem vY{b j pos}:PE X (.Constant (.bool b) j pos) (tC (.bl b)):=fun _ _ _ H _ I h=>Constant_bool ⟨.bl b,H,I,rfl,h⟩
theorem qM{j pos}:PE X (.Constant .none j pos) (tC .non):=fun _ _ _ H _ I h=>Constant_none ⟨.non,H,I,rfl,h⟩
theorem qJ{x j pos}:PE X (.Constant (.str x) j pos) (tC (.str x)):=fun _ _ _ H _ I h=>Calls.Constant_str ⟨.str x,H,I.tok _,⟨_,rfl⟩,h⟩
def Gl(X:Cx)(x:Al):Prop:=X.env.kindOf x=Ab .globalImplicit
theorem fU{E:Vq}{Q:Vq}(I:Inv X pI σ H s)(hg:Gl X x)(hm:X.mg x=Ab u)(h:Q u s)(hd:(x==("__debug__" : Al))=Ad:=by decide):AB (model X.prog X.w) X.A (eval (.Name x pos) X.env) Q E s:=
 Xh I.ok.kind hg (Calls.loadGlobal_global (by rw[I.ok.glob];exact I.mod.glob.keeps I.bk) hm h) hd
theorem HJ{E:Vq}{Q:Vq}(I:Inv X pI σ H s)(hg:Gl X x)(hm:X.mg x=Af)(hv:Db x=Ab u)(h:Q u s)(hn:x≠"__name__" := by decide)(hd:(x==("__debug__" : Al))=Ad:=by decide):AB (model X.prog X.w) X.A (eval (.Name x pos) X.env) Q E s:=by
 obtain⟨mb,h1,h2⟩:=I.mod.blt;exact Xh I.ok.kind hg (Calls.loadGlobal_builtin (by rw[I.ok.glob];exact I.mod.glob.keeps I.bk) hm (by rw[I.ok.blt];exact h1.keeps I.bk) ((h2 x hn).trans hv) h) hd
theorem gD(hg:Gl X x)(hm:X.mg x=Af)(hv:Db x=Ab u)(r:BZ v u)(hn:x≠"__name__" := by decide)(hd:(x==("__debug__" : Al))=Ad:=by decide):PE X (.Name x pos) (tC v):=
 fun _ _ _ H _ I h=>HJ I hg hm hv ⟨v,H,I,r,h⟩ hn hd
variable{a b:At}{ta tb:TE}{pos:Bk}
def tB(t:TE):TT:=fun σ H Q=>t σ H fun x H1=>∃ c,x=.bl c/\Q c H1
variable{tA tB':TT}{rest:Ac At}
def YQ(t u:TT):TT:=fun σ H Q=>t σ H fun c H1=>if c=Aa then u σ H1 Q else Q Ad H1
def tOr(t u:TT):TT:=fun σ H Q=>t σ H fun c H1=>if c=Aa then Q Aa H1 else u σ H1 Q
def Ys(t:TT):TT:=fun σ H Q=>t σ H fun c H1=>Q (!c) H1
theorem iL(ha:PT X a tA):PW X (.BoolOp .And [a] pos) tA:=by
 intro wh pI s σ H Q I h;refine isTrue_and (thn (ha pI s σ H Q I h) fun c s1 e=>?_)
 cases c with
 |true=>exact isTrue_and_nil e
 |false=>exact e
theorem mO(ha:PT X a tA):PW X (.BoolOp .Or [a] pos) tA:=by
 intro wh pI s σ H Q I h;refine isTrue_or (thn (ha pI s σ H Q I h) fun c s1 e=>?_)
 cases c with
 |false=>exact isTrue_or_nil e
 |true=>exact e
theorem mP(ha:PT X a tA)(hb:PW X (.BoolOp .And (b::rest) pos) tB'):PW X (.BoolOp .And (a::b::rest) pos) (YQ tA tB'):=by
 intro wh pI s σ H Q I h;refine isTrue_and (thn (ha pI s σ H _ I h) fun c s1 ⟨H1,I1,q1⟩=>?_)
 cases c with
 |true=>exact hb wh pI s1 σ H1 Q I1 q1
 |false=>exact⟨H1,I1,q1⟩
theorem vN(ha:PT X a tA)(hb:PW X (.BoolOp .Or (b::rest) pos) tB'):PW X (.BoolOp .Or (a::b::rest) pos) (tOr tA tB'):=by
 intro wh pI s σ H Q I h;refine isTrue_or (thn (ha pI s σ H _ I h) fun c s1 ⟨H1,I1,q1⟩=>?_)
 cases c with
 |true=>exact⟨H1,I1,q1⟩
 |false=>exact hb wh pI s1 σ H1 Q I1 q1
theorem mQ(ha:PT X a tA):PT X (.UnaryOp .Not a pos) (Ys tA):=by
 intro pI s σ H Q I h;exact isTrue_not (ha pI s σ H (fun c H1=>Q (!c) H1) I h)
def uB(ta tb:TE):TE:=fun σ H Q=>ta σ H fun x H1=>∃ c,x=.bl c/\if c=Aa then tb σ H1 Q else Q (.bl Ad) H1
def Yr(ta tb:TE):TE:=fun σ H Q=>ta σ H fun x H1=>∃ c,x=.bl c/\if c=Aa then Q (.bl Aa) H1 else tb σ H1 Q
def tV(ta:TE):TE:=fun σ H Q=>ta σ H fun x H1=>∃ c,x=.bl c/\Q (.bl (!c)) H1
theorem qK{op}{t:TE}(h:PE X a t):PE X (.BoolOp op [a] pos) t:=fun pI s σ H Q I hw=>BoolOp_one (h pI s σ H Q I hw)
theorem qQ(ha:PE X a ta)(hb:PE X (.BoolOp .And (b::rest) pos) tb):PE X (.BoolOp .And (a::b::rest) pos) (uB ta tb):=by
 intro pI s σ H Q I h;refine BoolOp_and (thn (ha pI s σ H _ I h) fun v s1 ⟨x,H1,I1,r1,q1⟩=>?_)
 obtain⟨c,rfl,q1⟩:=q1;cases r1;refine C0 ?_;cases c with
 |true=>exact hb pI s1 σ H1 Q I1 q1
 |false=>exact⟨.bl Ad,H1,I1,rfl,q1⟩
theorem vW(ha:PE X a ta)(hb:PE X (.BoolOp .Or (b::rest) pos) tb):PE X (.BoolOp .Or (a::b::rest) pos) (Yr ta tb):=by
 intro pI s σ H Q I h;refine BoolOp_or (thn (ha pI s σ H _ I h) fun v s1 ⟨x,H1,I1,r1,q1⟩=>?_)
 obtain⟨c,rfl,q1⟩:=q1;cases r1;refine C0 ?_;cases c with
 |false=>exact hb pI s1 σ H1 Q I1 q1
 |true=>exact⟨.bl Aa,H1,I1,rfl,q1⟩
theorem qL(ha:PE X a ta):PE X (.UnaryOp .Not a pos) (tV ta):=by
 intro pI s σ H Q I h;refine UnaryOp_ (thn (ha pI s σ H _ I h) fun v s1 ⟨x,H1,I1,r1,q1⟩=>?_)
 obtain⟨c,rfl,q1⟩:=q1;cases r1;exact not_of (C0 ⟨.bl (!c),H1,I1,rfl,q1⟩)
end
noncomputable def SqL(K:Fg)(H:Hp)(a:Ak)(xs:Ac V):Prop:=
 Rd H a (.lst xs) \/
  ∃(o:DB)(its:AQ Ai)(n:Ag),K.lookup a=Ab o/\o.cls=.type "list"/\o.dict=Af/\o.data=.seq its n/\its.size<=sizeLine/\Br xs its.toList
noncomputable def SqT(K:Fg)(H:Hp)(a:Ak)(xs:Ac V):Prop:=
 Rd H a (.tup xs) \/
  ∃(o:DB)(its:AQ Ai)(n:Ag),K.lookup a=Ab o/\o.cls=.type "tuple"/\o.data=.seq its n/\its.size<=sizeLine/\Br xs its.toList
noncomputable def YD:Ai->Av V
 |.none=>Ab .non
 |.bool b=>Ab (.bl b)
 |.int i _=>Ab (.int i)
 |.str x _=>Ab (.str x)
 |.bytes b _=>Ab (.byt b)
 |.float b _=>Ab (.flt b)
 |.ref a=>Ab (.ref a)
 |.type n=>Ab (.ty n)
 |_=>Af
theorem BZ.abs{x:V}(r:BZ x u):YD u=Ab x:=by
 cases x with
 |non=>cases r;rfl
 |bl _=>cases r;rfl
 |int _=>obtain⟨t,rfl⟩:=r;rfl
 |str _=>obtain⟨t,rfl⟩:=r;rfl
 |byt _=>obtain⟨t,rfl⟩:=r;rfl
 |flt _=>obtain⟨t,rfl⟩:=r;rfl
 |ref _=>cases r;rfl
 |ty _=>cases r;rfl
theorem BZ.inj{x y:V}(r:BZ x u)(q:BZ y u):x=y:=BV (r.abs.symm.trans q.abs)
theorem Br.inj:∀{xs ys:Ac V}{us:Ac Ai},Br xs us->Br ys us->xs=ys
 |_,_,_,.nil,.nil=>rfl
 |_,_,_,.cons r t,.cons r' t'=>by rw[r.inj r',Br.inj t t']
section
variable{X:Cx}{pI:Pn}{σ:St}{H:Hp}{s:Ap}{a:Ak}{xs ys:Ac V}
theorem SqL.of{K:Fg}(h:H a=Ab (.lst xs)):SqL K H a xs:=.inl (.inl h)
theorem SqT.of{K:Fg}(h:H a=Ab (.tup xs)):SqT K H a xs:=.inl (.inl h)
theorem Inv.list(I:Inv X pI σ H s)(h:SqL X.K H a xs):∃ its:Ac Ai,Br xs its/\PlainL s.heap a its.toArray/\xs.length<=sizeLine:=by
 rcases h with h|⟨o,its,n,hk,hc,hd,hs,hz,r⟩
 ·obtain⟨z,its,n,r,e⟩:=h.ok I.hok;exact⟨its,r,⟨_,n,e,rfl,rfl,rfl⟩,z⟩
 ·refine⟨its.toList,r,⟨o,n,I.kIn a o hk,hc,hd,by simpa using hs⟩,?_⟩
  have e:=r.length;simp only[C1]at e;omega
theorem Inv.tuple(I:Inv X pI σ H s)(h:SqT X.K H a xs):∃ its:Ac Ai,Br xs its/\JG s.heap a its.toArray/\xs.length<=sizeLine:=by
 rcases h with h|⟨o,its,n,hk,hc,hs,hz,r⟩
 ·obtain⟨z,its,r,p⟩:=h.ok I.hok;exact⟨its,r,p,z⟩
 ·refine⟨its.toList,r,⟨o,I.kIn a o hk,hc,n,by simpa using hs⟩,?_⟩
  have e:=r.length;simp only[C1]at e;omega
theorem Inv.list_inj(I:Inv X pI σ H s)(h:SqL X.K H a xs)(h':SqL X.K H a ys):xs=ys:=by
 obtain⟨its,r,⟨o,n,e,_,_,d⟩,_⟩:=I.list h;obtain⟨its',r',⟨o',n',e',_,_,d'⟩,_⟩:=I.list h';rw[e]at e';cases e';rw[d]at d'
 injection d' with d1 _
 have:its=its':=by simpa using congrArg Jf d1
 subst this;exact r.inj r'
theorem Inv.tuple_inj(I:Inv X pI σ H s)(h:SqT X.K H a xs)(h':SqT X.K H a ys):xs=ys:=by
 obtain⟨its,r,⟨o,e,_,n,d⟩,_⟩:=I.tuple h;obtain⟨its',r',⟨o',e',_,n',d'⟩,_⟩:=I.tuple h';rw[e]at e';cases e';rw[d]at d'
 injection d' with d1 _
 have:its=its':=by simpa using congrArg Jf d1
 subst this;exact r.inj r'
end
noncomputable abbrev Cx.wish(X:Cx)(E:Vq):Cx:={X with xe:=E}
noncomputable abbrev Cx.nox(X:Cx):Cx:=X.wish fun _ _=>BK
theorem Cx.Ok.wish(ok:X.Ok)(E:Vq):(X.wish E).Ok:=
 ⟨ok.mod,ok.kind,ok.glob,ok.blt,ok.above,ok.inj,ok.has,ok.cab,ok.hd,ok.frames,ok.stk,ok.exf,ok.bs,ok.bsz,ok.noex,ok.exfs,ok.funs,ok.frf⟩
theorem Cx.Ok.unwish{E:Vq}(ok:(X.wish E).Ok):X.Ok:=
 ⟨ok.mod,ok.kind,ok.glob,ok.blt,ok.above,ok.inj,ok.has,ok.cab,ok.hd,ok.frames,ok.stk,ok.exf,ok.bs,ok.bsz,ok.noex,ok.exfs,ok.funs,ok.frf⟩
section
variable{X:Cx}{pI:Pn}{σ:St}{H:Hp}{s:Ap}{E:Vq}
theorem Inv.wish(I:Inv X pI σ H s)(E:Vq):Inv (X.wish E) pI σ H s:=⟨I.ok.wish E,I.os,I.bare,I.base,I.loc,I.cell,I.free,I.freeC,I.pin,I.hok,I.len⟩
theorem Inv.unwish(I:Inv (X.wish E) pI σ H s):Inv X pI σ H s:=⟨I.ok.unwish,I.os,I.bare,I.base,I.loc,I.cell,I.free,I.freeC,I.pin,I.hok,I.len⟩
theorem SP.unwish{D:Ends}{f:Flow}{s':Ap}(h:SP (X.wish E) pI D f s'):SP X pI D f s':=by
 cases f with
 |next=>obtain⟨σ',H',I,q⟩:=h;exact⟨σ',H',I.unwish,q⟩
 |brk=>obtain⟨σ',H',I,q⟩:=h;exact⟨σ',H',I.unwish,q⟩
 |cont=>obtain⟨σ',H',I,q⟩:=h;exact⟨σ',H',I.unwish,q⟩
 |ret u=>obtain⟨v,σ',H',I,r,q⟩:=h;exact⟨v,σ',H',I.unwish,r,q⟩
theorem PSs.nox{st:Ac Cj}{t:TS}(h:PSs X.nox st t):PSs X st t:=fun pI s σ H D I hw=>
 CK (h pI s σ H D (I.wish _) hw) (fun _ _ q=>q.unwish) fun _ _ z=>Ec z
end
section
variable{X:Cx}{st:Cj}{rest:Ac Cj}{t u:TS}{e:At}{te:TE}{pos:Bk}
def tW:TS:=fun D σ H=>D.nx σ H
def Yp(t u:TS):TS:=fun D σ H=>t {D with nx:=u D} σ H
theorem iQ:PSs X [] tW:=fun _ _ σ H _ I h=>Yc ⟨σ,H,I,h⟩
theorem bG(h1:PS X st t)(h2:PSs X rest u):PSs X (st::rest) (Yp t u):=by
 intro pI s σ H D I h;refine wpAny_execs_cons (thn (h1 pI s σ H {D with nx:=u D} I h) fun f s1 q=>?_)
 cases f with
 |next=>
  obtain⟨σ',H',I',q⟩:=q;exact h2 pI s1 σ' H' D I' q
 |ret v=>exact q
 |brk=>exact q
 |cont=>exact q
theorem Inv.quiet(I:Inv X pI σ H s):interactive X.env=Ad:=by simp[interactive,I.ok.kind]
def tY(te:TE):TS:=fun D σ H=>te σ H fun _ H1=>D.nx σ H1
theorem MX(he:PE X e te)(hs:DS e Af pos.line X.env=pure Ad:=by rfl):PS X (.Expr e pos) (tY te):=by
 intro pI s σ H D I h;exact wpAny_Expr_any (thn (he pI s σ H _ I h) fun v s1 ⟨x,H1,I1,r1,q1⟩=>⟨σ,H1,I1,q1⟩) I.quiet hs
def Yq(te:TE):TS:=fun D σ H=>te σ H D.rt
theorem PU(he:PE X e te):PS X (.Return (Ab e) pos) (Yq te):=by
 intro pI s σ H D I h;exact wpAny_Return_some (thn (he pI s σ H _ I h) fun v s1 ⟨x,H1,I1,r1,q1⟩=>⟨x,σ,H1,I1,r1,q1⟩)
def YM(c:TT)(t u:TS):TS:=fun D σ H=>c σ H fun b H1=>if b=Aa then t D σ H1 else u D σ H1
theorem vR{c:At}{a b:Ac Cj}{tc:TT}(hc:PT X c tc)(ha:PSs X a t)(hb:PSs X b u):PS X (.If c a b pos) (YM tc t u):=by
 intro pI s σ H D I h;refine wpAny_If (thn (hc pI s σ H _ I h) fun d s1 ⟨H1,I1,q1⟩=>?_)
 cases d with
 |true=>exact ha pI s1 σ H1 D I1 q1
 |false=>exact hb pI s1 σ H1 D I1 q1
end
abbrev TG:=V->St->Hp->(St->Hp->Prop)->Prop
abbrev TGs:=Ac V->St->Hp->(St->Hp->Prop)->Prop
noncomputable def PG(X:Cx)(target:At)(t:TG):Prop:=
 ∀(pI:Pn)(s:Ap)(σ:St)(H:Hp)(v:V)(u:Ai)(Q:St->Hp->Prop),Inv X pI σ H s->BZ v u->t v σ H Q ->
  AB (model X.prog X.w) X.A (assign target X.env u) (fun _ s'=>∃ σ' H',Inv X pI σ' H' s'/\Q σ' H') X.xe s
noncomputable def PGs(X:Cx)(ts:Ac At)(t:TGs):Prop:=
 ∀(pI:Pn)(s:Ap)(σ:St)(H:Hp)(vs:Ac V)(us:Ac Ai)(Q:St->Hp->Prop),Inv X pI σ H s->Br vs us->t vs σ H Q ->
  AB (model X.prog X.w) X.A (assignInOrder ((Cz ts X.env).map (·.2)) us) (fun _ s'=>∃ σ' H',Inv X pI σ' H' s'/\Q σ' H') X.xe s
abbrev QO:=V->V->V->Hp->(Hp->Prop)->Prop
noncomputable def QV(X:Cx)(t:QO):Prop:=
 ∀(pI:Pn)(s:Ap)(σ:St)(H:Hp)(o i v:V)(ov iv u:Ai)(Q:Hp->Prop),Inv X pI σ H s->BZ o ov->BZ i iv->BZ v u->t o i v H Q ->
  AB (model X.prog X.w) X.A (setItem ov iv u) (fun _ s'=>∃ H',Inv X pI σ H' s'/\Q H') X.xe s
section
variable{X:Cx}{pos:Bk}
def Fk(i:Ag):TG:=fun v σ H Q=>Q (σ.set i (Ab v)) H
theorem LV(hN:X.N.Nodup)(hi:X.N[i]?=Ab x)(hx:Loc X.env.scope x)(hf:X.fn x=Aa\/X.env.scope.names.lookup x=Ab .local:=by first|exact .inl rfl|exact .inr rfl|assumption):PG X (.Name x pos) (Fk i):=by
 intro pI s σ H v u Q I r h;exact X9 (Tp I hN hi hx r (fun s' I'=>⟨_,H,I',h⟩) hf)
def HV:TGs:=fun vs σ H Q=>vs=[]/\Q σ H
def HS(t:TG)(u:TGs):TGs:=fun vs σ H Q=>∃ v r,vs=v::r/\t v σ H fun σ' H'=>u r σ' H' Q
theorem T3:PGs X [] HV:=by
 intro pI s σ H vs us Q I r h;obtain⟨e,h⟩:=h;subst e;cases r;exact assignInOrder_nil ⟨σ,H,I,h⟩
theorem SU{t:TG}{u:TGs}(h1:PG X e t)(h2:PGs X es u)(hs:(Cz (e::es) X.env).map (·.2)=assign e X.env::(Cz es X.env).map (·.2):=by rfl):PGs X (e::es) (HS t u):=by
 intro pI s σ H vs us Q I r h;obtain⟨v,vr,e1,h⟩:=h;subst e1;cases r with
 |cons r rr=>
  rw[hs];refine assignInOrder_cons (thn (h1 pI s σ H _ _ _ I r h) fun _ s1 ⟨σ1,H1,I1,q1⟩=>?_)
  exact h2 pI s1 σ1 H1 _ _ Q I1 rr q1
def K9(K:Fg)(n:Ag)(t:TGs):TG:=fun v σ H Q=>∃ a xs,v=.ref a/\SqT K H a xs/\xs.length=n/\t xs σ H Q
theorem PY{t:TGs}(hc:X.calm=Aa)(h:PGs X es t)(hn:(Cz es X.env).length=n:=by rfl)(hst:(Cz es X.env).findIdx? (·.1)=Af:=by rfl):PG X (.Tuple es k pos) (K9 X.K n t):=by
 intro pI s σ H v u Q I r hw;obtain⟨a,xs,e1,hq,hl,hw⟩:=hw;subst e1;cases r;obtain⟨its,rv,ht,hz⟩:=I.tuple hq;refine assign_Tuple_tuple (I.ok.hd hc) ht (by simp[hn,<-hl,rv.length]) hst fun h' hx=>?_
 have I1:Inv X pI σ H {s with heap:=h'}:=I.kept (t':=s.toks) fun b o e=>hx b o (A1 (AG e)) e
 exact h pI _ σ H xs _ Q I1 (by simpa using rv) hw
def Yy(to ti:TE)(t:QO):TG:=fun v σ H Q=>to σ H fun o H1=>ti σ H1 fun i H2=>t o i v H2 fun H3=>Q σ H3
theorem qG{o i:At}{to ti:TE}{t:QO}(ho:PE X o to)(hi:PE X i ti)(hs:QV X t)(ha:∀ v,assign (.Subscript o i pos) X.env v=(do
   let ov <-holding [v] (eval o X.env)
   let iv <-holding [v,ov] (eval i X.env)
   JI pos
   holding [v,ov,iv] (setItem ov iv v)
   release [v,ov,iv] []):=by intro _;rfl):PG X (.Subscript o i pos) (Yy to ti t):=by
 intro pI s σ H v u Q I r h;rw[ha];refine Ah (Ce (thn (ho pI s σ H _ I h) fun ov s1 ⟨x,H1,I1,r1,q1⟩=>?_))
 refine Ah (Ce (thn (hi pI s1 σ H1 _ I1 q1) fun iv s2 ⟨y,H2,I2,r2,q2⟩=>?_))
 refine Ah (Ha (Ah (Ce (thn (hs pI s2 σ H2 x y v ov iv u _ I2 r1 r2 r q2) fun _ s3 ⟨H3,I3,q3⟩=>?_))))
 exact wpAny_release ⟨σ,H3,I3,q3⟩
def Nu(te:TE)(g:TG):TS:=fun D σ H=>te σ H fun x H1=>g x σ H1 D.nx
theorem UL{g:TG}(he:PE X e te)(hg:PG X tg g)(hs:G9 [tg] e pos.line X.env=pure Ad:=by rfl)(hw:F4 [tg] e X.env=pure Af:=by rfl)(h1:(Cz [tg] X.env).map (·.2)=[assign tg X.env]:=by rfl):PS X (.Assign [tg] e pos) (Nu te g):=by
 intro pI s σ H D I h;refine wpAny_Assign_stores (thn (he pI s σ H _ I h) fun v s1 ⟨x,H1,I1,r1,q1⟩=>?_) hs hw
 rw[h1];exact thn (hg pI s1 σ H1 x v _ I1 r1 q1) fun _ s2 q=>q
theorem mR{pos':Bk}(hN:X.N.Nodup)(hi:X.N[i]?=Ab x)(hx:Loc X.env.scope x)(he:PE X e te)(hs:DS e (Ab (.Name x pos')) pos.line X.env=pure Ad:=by rfl)(hf:X.fn x=Aa\/X.env.scope.names.lookup x=Ab .local:=by first|exact .inl rfl|exact .inr rfl|assumption):PS X (.Assign [.Name x pos'] e pos) (Nu te (Fk i)):=by
 intro pI s σ H D I h;refine wpAny_Assign_Name (thn (he pI s σ H _ I h) fun v s1 ⟨y,H1,I1,r1,q1⟩=>?_) hs
 exact Tp I1 hN hi hx r1 (fun s2 I2=>⟨_,H1,I2,q1⟩) hf
end
section
variable{X:Cx}{pos:Bk}
end
structure It where
 go:Ag->Hp->Prop
 yld:Ag->Hp->V->Hp->Prop
 stop:Ag->Hp->Prop
noncomputable def GY(X:Cx)(pI:Pn)(H:Hp)(b:Ak):Prop:=
 H b=Af/\b≠X.env.locals/\b∉X.fs/\(b∈X.ex\/X.s₀.heap.objs.size<=b)/\(∀ x c,X.env.cells.lookup x=Ab c->c≠b)/\∀ p∈X.pn++pI,p.1≠b
theorem Inv.fpOk{H':Hp}(I:Inv X pI σ H s)(hb:s.heap.objs.size<=b)(hn:H' b=Af):GY X pI H' b:=by
 refine⟨hn,CT (AD I.lt hb),I.nofs hb,.inr (BD I.sz hb),fun x c e z=>?_,fun p hp z=>?_⟩
 ·obtain⟨v,q⟩:=I.cell x c e;exact absurd (AD q.lt (by rw[z];exact hb)) (Bw _)
 ·exact absurd (AD (AG (I.pin p hp).1) (by rw[z];exact hb)) (Bw _)
structure Turn (P:A8) (w:AN) (K:Fg) (tg:At) (J:It) (fp:Ac Ak) (it:Ak) (tn:Ag->AS->Prop):Prop where
 mem:it∈fp
 obj:∀ i h,tn i h->∀ b∈fp,∃ o,h.get? b=Ab o/\∀ v,o.data≠.cell v
 keep:∀ i h h',tn i h->(∀ b∈fp,∀ o,h.get? b=Ab o->h'.get? b=Ab o)->tn i h'
 item:∀(X:Cx),X.prog=P->X.w=w->X.K=K->X.calm=Aa->∀(i:Ag)(pI:Pn)(s:Ap)(σ:St)(H:Hp)(E:Vq),Inv X pI σ H s->(∀ b∈fp,GY X pI H b)->tn i s.heap->J.go i H ->
  AB (model P w) X.A (D7 (.ref it)) (fun r s1=>∃ u,r=Ab u /\
   AB (model P w) X.A (Gw tg (.ref it) u) (fun _ s2=>∃ x H',Inv X pI σ H' s2/\BZ x u/\J.yld i H x H'/\tn (i+1) s2.heap/\∀ b∈fp,H' b=Af) E s1) E s
 done:∀(X:Cx),X.prog=P->X.w=w->X.K=K->X.calm=Aa->∀(i:Ag)(pI:Pn)(s:Ap)(σ:St)(H:Hp)(E:Vq),Inv X pI σ H s->(∀ b∈fp,GY X pI H b)->tn i s.heap->J.stop i H ->
  AB (model P w) X.A (D7 (.ref it)) (fun r s1=>r=Af/\Inv X pI σ H s1) E s
 self:∀(A:Bu)(i:Ag)(s:Ap)(Q:Vq)(E:Vq),tn i s.heap->Q (.ref it) s->AB (model P w) A (Ks (.ref it)) Q E s
abbrev TI:=St->Hp->(It->Hp->Prop)->Prop
noncomputable def PIE(X:Cx)(pI:Pn)(σ:St)(tg:At)(R:It->Hp->Prop)(itv:Ai)(s2:Ap):Prop:=
 ∃(it:Ak)(fp:Ac Ak)(tn:Ag->AS->Prop)(J:It)(H':Hp),itv=.ref it/\Inv X pI σ H' s2/\Turn X.prog X.w X.K tg J fp it tn/\tn 0 s2.heap/\(∀ b∈fp,GY X pI H' b)/\R J H'
noncomputable def PI(X:Cx)(tg iter:At)(wi:TI):Prop:=
 ∀(pI:Pn)(s:Ap)(σ:St)(H:Hp)(R:It->Hp->Prop),Inv X pI σ H s->wi σ H R ->
  AB (model X.prog X.w) X.A (eval iter X.env) (fun v s1=>AB (model X.prog X.w) X.A (Ks v) (PIE X pI σ tg R) X.xe s1) X.xe s
theorem Qw{A:Bu}{E:Vq}{n:DT}{vs:AQ Ai}(ho:s.heap.get? it=Ab o)(hc:o.cls=.type n)(hd:o.data=.fields vs)(hn:["enumerate", "zip", "dict_itemiterator", "dict_reverseitemiterator", "odict_iterator", "itertools.zip_longest", "itertools.pairwise"].contains n=Ad)(hQ:Q () s):AB M A (Gw tg (.ref it) u) Q E s:=by
  unfold Gw;cases tg<;>first
    |exact Aw hQ
    | (cases u<;>first
        |exact Aw hQ
        | (refine Ah (wpAny_load ho ?_)
           rw[hc,hd];show AB M A (if (["enumerate", "zip", "dict_itemiterator", "dict_reverseitemiterator", "odict_iterator", "itertools.zip_longest", "itertools.pairwise"].contains n&&vs[0]? == Ab (C5 _))=Aa then _ else _) Q E s
           rw[AH (by intro h;rw[hn,Bool.false_and]at h;cases h)]
           exact Aw hQ))
noncomputable def Itl(K:Fg)(a:Ak):It:=
 ⟨fun i H=>∃ xs x,SqL K H a xs/\xs[i]?=Ab x,fun i H x H'=>H'=H/\∀ xs,SqL K H a xs->xs[i]?=Ab x,fun i H=>∃ xs,SqL K H a xs/\xs.length<=i⟩
noncomputable def Itt(K:Fg)(a:Ak):It:=
 ⟨fun i H=>∃ xs x,SqT K H a xs/\xs[i]?=Ab x,fun i H x H'=>H'=H/\∀ xs,SqT K H a xs->xs[i]?=Ab x,fun i H=>∃ xs,SqT K H a xs/\xs.length<=i⟩
noncomputable def Itr(lo:Ae)(n:Ag):It:=⟨fun i _=>i<n,fun i H x H'=>H'=H/\x=.int (lo+i),fun i _=>n<=i⟩
theorem Zr{w:AN}{K:Fg}(a it:Ak):Turn P w K tg (Itl K a) [it] it (fun i h=>h.IsListIter it a i) where
  mem:=by simp
  obj:=fun i h st b hb=>by
    have e:b=it:=by simpa using hb
    subst e;obtain⟨o,e,c,d⟩:=st;exact⟨o,e,fun v z=>by rw[d]at z;cases z⟩
  keep:=fun i h h' st k=>st.at fun o e=>k it (by simp) o e
  item:=by
    intro X hP hw hK hc i pI s σ H E I hf st hg;subst hP hw hK;obtain⟨xs,x,hq,hx⟩:=hg;obtain⟨its,rv,p,hz⟩:=I.list hq;obtain⟨u,hu,ru⟩:=rv.get hx;obtain⟨f0,f1,f2,f3,f4,f5⟩:=hf it (by simp)
    refine Yj st p.isList (x:=u) (by simpa using hu) fun h' st' sb=>?_
    have I1:Inv X pI σ H {s with heap:=h'}:=I.turned (t':=s.toks) (fun b o hb e=>(sb.2 b hb).trans e) f0 f1 f3 f4 f5
    obtain⟨o,e,c,d⟩:=id st';exact⟨u,rfl,Qw (s:={s with heap:=h'}) e c d (by decide) ⟨x,H,I1,ru,⟨rfl,fun ys hy=>by rw[I.list_inj hy hq];exact hx⟩,st',fun b hb=>(hf b hb).1⟩⟩
  done:=by
    intro X hP hw hK hc i pI s σ H E I hf st hg;subst hP hw hK;obtain⟨xs,hq,hx⟩:=hg;obtain⟨its,rv,p,hz⟩:=I.list hq;obtain⟨f0,f1,f2,f3,f4,f5⟩:=hf it (by simp)
    have hl:=rv.length;exact Yi (I.ok.hd hc) st p.isList (by simp;omega) fun h' eb=>⟨rfl,I.turned (t':=s.toks) (fun b o hb e=>eb b o hb e) f0 f1 f3 f4 f5⟩
  self:=fun _ _ _ _ _ st h=>wpAny_pyIter_listiter st h
theorem ZB{w:AN}{K:Fg}(a it:Ak):Turn P w K tg (Itt K a) [it] it (fun i h=>h.IsTupleIter it a i) where
  mem:=by simp
  obj:=fun i h st b hb=>by
    have e:b=it:=by simpa using hb
    subst e;obtain⟨o,e,c,d⟩:=st;exact⟨o,e,fun v z=>by rw[d]at z;cases z⟩
  keep:=fun i h h' st k=>st.at fun o e=>k it (by simp) o e
  item:=by
    intro X hP hw hK hc i pI s σ H E I hf st hg;subst hP hw hK;obtain⟨xs,x,hq,hx⟩:=hg;obtain⟨its,rv,p,hz⟩:=I.tuple hq;obtain⟨u,hu,ru⟩:=rv.get hx;obtain⟨f0,f1,f2,f3,f4,f5⟩:=hf it (by simp)
    refine wpAny_pyNext_tuple_item st (show s.heap.IsTuple a its.toArray from p) (x:=u) (by simpa using hu) fun h' st' sb=>?_
    have I1:Inv X pI σ H {s with heap:=h'}:=I.turned (t':=s.toks) (fun b o hb e=>(sb.2 b hb).trans e) f0 f1 f3 f4 f5
    obtain⟨o,e,c,d⟩:=id st';exact⟨u,rfl,Qw (s:={s with heap:=h'}) e c d (by decide) ⟨x,H,I1,ru,⟨rfl,fun ys hy=>by rw[I.tuple_inj hy hq];exact hx⟩,st',fun b hb=>(hf b hb).1⟩⟩
  done:=by
    intro X hP hw hK hc i pI s σ H E I hf st hg;subst hP hw hK;obtain⟨xs,hq,hx⟩:=hg;obtain⟨its,rv,p,hz⟩:=I.tuple hq;obtain⟨f0,f1,f2,f3,f4,f5⟩:=hf it (by simp)
    have hl:=rv.length;exact wpAny_pyNext_tuple_end (I.ok.hd hc) st (show s.heap.IsTuple a its.toArray from p) (by simp;omega) fun h' eb=>⟨rfl,I.turned (t':=s.toks) (fun b o hb e=>eb b o hb e) f0 f1 f3 f4 f5⟩
  self:=fun _ _ _ _ _ st h=>wpAny_pyIter_tupleiter st h
theorem ZC{w:AN}{K:Fg}(it:Ak)(lo:Ae)(n:Ag):Turn P w K tg (Itr lo n) [it] it (fun i h=>IsRangeIter h it (lo+(i:Ag)*1) ((n:Ae)-(i:Ag)) 1) where
  mem:=by simp
  obj:=fun i h st b hb=>by
    have e:b=it:=by simpa using hb
    subst e;exact⟨_,st,fun v z=>by
      have z':Data.fields _=Lg v:=z;cases z'⟩
  keep:=fun i h h' st k=>k it (by simp) _ st
  item:=by
    intro X hP hw hK hc i pI s σ H E I hf st hg;subst hP hw hK;obtain⟨f0,f1,f2,f3,f4,f5⟩:=hf it (by simp)
    have W:=Walks.range (prog:=X.prog) (w:=X.w) (I.ok.hd hc) it lo 1 n;refine W.item i s _ _ hg st fun v h' tk hv st' kk=>?_
    obtain⟨t,rfl⟩:=hv;have I1:Inv X pI σ H {s with heap:=h',toks:=tk}:=I.turned (fun b o hb e=>kk b o (by simpa using hb) e) f0 f1 f3 f4 f5
    refine⟨_,rfl,Qw (s:={s with heap:=h',toks:=tk}) (n := "range_iterator") st' rfl rfl (by decide) ⟨.int (lo+i),H,I1,⟨t,?_⟩,⟨rfl,rfl⟩,st',fun b hb=>(hf b hb).1⟩⟩
    rw[El]
  done:=by
    intro X hP hw hK hc i pI s σ H E I hf st hg;subst hP hw hK;obtain⟨f0,f1,f2,f3,f4,f5⟩:=hf it (by simp)
    exact wpAny_pyNext_range_end (I.ok.hd hc) st (by have:n<=i:=hg;omega) fun h' eb=>⟨rfl,I.turned (t':=s.toks) (fun b o hb e=>eb b o hb e) f0 f1 f3 f4 f5⟩
  self:=fun _ _ _ _ _ st h=>wpAny_pyIter_rangeiter st h
section
variable{X:Cx}{tg:At}
theorem SR{R:It->Hp->Prop}{E:Vq}{lo hi:Ae}{t u v:DC}{tk:Ag}(I:Inv X pI σ H s)(h1:-(2 ^ 62)<=lo)(h2:lo<2 ^ 62)(h3:-(2 ^ 62)<=hi)(h4:hi<2 ^ 62)(q:R (Itr lo (hi-lo).toNat) H):AB (model X.prog X.w) X.A (Ks (.ref s.heap.objs.size)) (PIE X pI σ tg R) E { s with heap:=s.heap.push { cls:=.type "range", data:=.fields #[.int lo t,.int hi u,.int 1 v] },toks:=tk }:=by
 refine wpAny_pyIter_range (IsRange.new ..) (small_one h1 h2 h3 h4) ?_;have I1:Inv X pI σ H { s with heap:=s.heap.push { cls:=.type "range", data:=.fields #[.int lo t,.int hi u,.int 1 v] },toks:=tk }:=I.kept fun b o e=>As _ e
 refine⟨(s.heap.push { cls:=.type "range", data:=.fields #[.int lo t,.int hi u,.int 1 v] }).objs.size,[(s.heap.push { cls:=.type "range", data:=.fields #[.int lo t,.int hi u,.int 1 v] }).objs.size],_,_,H,rfl,
  I1.kept (t':=tk) fun b o e=>As _ e,ZC _ lo (hi-lo).toNat,?_,fun b hb=>?_,q⟩
 ·have e1:lo+((0:Ag):Ae)*1=lo:=by simp
  have e2:(((hi-lo).toNat:Ag):Ae)-((0:Ag):Ae)=Builtin.Range.rangeSize lo hi 1:=by rw[rangeSize_one];split<;>omega
  show IsRangeIter _ _ (lo+((0:Ag):Ae)*1) ((((hi-lo).toNat:Ag):Ae)-((0:Ag):Ae)) 1;rw[e1,e2];exact AC _ rfl
 ·have e:b=(s.heap.push { cls:=.type "range", data:=.fields #[.int lo t,.int hi u,.int 1 v] }).objs.size:=by simpa using hb
  subst e;exact I1.fpOk (AU _) (I1.hok.fresh (AU _))
def xG(ta:TA):TI:=fun σ H R=>ta σ H fun vs H1=>∃ j:Ae,vs=[.int j]/\-(2 ^ 62)<=j/\j<2 ^ 62/\R (Itr 0 j.toNat) H1
def xF(ta:TA):TI:=fun σ H R=>ta σ H fun vs H1=>∃ i j:Ae,vs=[.int i,.int j]/\(-(2 ^ 62)<=i/\i<2 ^ 62/\-(2 ^ 62)<=j/\j<2 ^ 62)/\R (Itr i (j-i).toNat) H1
theorem aA{a:At}(hg:Gl X "range")(hm:X.mg "range" = Af)(ha:PA X [a] ta)(hs:AM [a] X.env=[(Ad,eval a X.env)]:=by rfl):PI X tg (.Call (.Name "range" p) [a] [] pos) (xG ta):=by
 intro pI s σ H R I h;refine ID (HJ I hg hm boot_range (B9 (thn (ha pos pI s σ H _ I h) fun us s1 ⟨vs,H1,I1,r1,q1⟩=>?_) hs rfl))
 obtain⟨j,e,q1,q2,q⟩:=q1;subst e;cases r1 with
 |cons r rr=>
  cases rr;obtain⟨t,rfl⟩:=r;exact call_range_1 (SR I1 (by omega) (by omega) q1 q2 (by simpa using q))
theorem Z9{a b:At}(hg:Gl X "range")(hm:X.mg "range" = Af)(ha:PA X [a,b] ta)(hs:AM [a,b] X.env=[(Ad,eval a X.env),(Ad,eval b X.env)]:=by rfl)(hs2:AM [b] X.env=[(Ad,eval b X.env)]:=by rfl):
  PI X tg (.Call (.Name "range" p) [a,b] [] pos) (xF ta):=by
 intro pI s σ H R I h;refine ID (HJ I hg hm boot_range (B9 (thn (ha pos pI s σ H _ I h) fun us s1 ⟨vs,H1,I1,r1,q1⟩=>?_) (by rw[hs,hs2]) (by rw[hs2];rfl)))
 obtain⟨i,j,e,⟨q1,q2,q3,q4⟩,q⟩:=q1;subst e;cases r1 with
 |cons r rr=>
  cases rr with
  |cons r' rr=>
   cases rr;obtain⟨t,rfl⟩:=r;obtain⟨t',rfl⟩:=r';exact call_range_2 (SR I1 q1 q2 q3 q4 q)
def YN(wi:TI)(g:TG)(tb:TS):TS:=fun D σ H=>wi σ H fun J H1=>∃ W:Ag->Ag->St->Hp->Prop,(∃ m,W 0 m σ H1)/\∀ i m σ H,W i m σ H ->
 (J.stop i H/\D.nx σ H)\/(J.go i H/\∃ N:St->Hp->Prop,(∀ σ' H',N σ' H'->∃ m',m'<m/\W (i+1) m' σ' H')/\∀ x H',J.yld i H x H'->g x σ H' fun σ2 H2=>tb {D with nx:=N,ct:=N,bk:=D.nx} σ2 H2)
noncomputable def J4(fp:Ac Ak)(h:AS):Pn:=fp.filterMap fun b=>(h.get? b).map fun o=>(b,o)
theorem Mu(hb:b∈fp)(e:h.get? b=Ab o):(b,o)∈J4 fp h:=WO.mpr ⟨b,hb,by rw[e];rfl⟩
theorem Sh{p:Ak×DB}(hp:p∈J4 fp h):p.1∈fp/\h.get? p.1=Ab p.2:=by
 obtain⟨b,hb,e⟩:=List.mem_filterMap.mp hp;cases q:h.get? b with
 |none=>rw[q]at e;cases e
 |some o=>
  rw[q]at e;have e':(b,o)=p:=BV e;subst e';exact⟨hb,q⟩
theorem Inv.pinned(I:Inv X pI σ H s)(hf:∀ b∈fp,GY X pI H b)(ho:∀ b∈fp,∃ o,s.heap.get? b=Ab o/\∀ v,o.data≠.cell v):Inv X (pI++J4 fp s.heap) σ H s:=
 I.pins_of fun p hp=>(WL.mp hp).elim (fun z=>I.pin p (BO _ z)) fun z=>by
  obtain⟨hb,e⟩:=Sh z;obtain⟨f0,f1,f2,_⟩:=hf p.1 hb;obtain⟨o,e',d⟩:=ho p.1 hb;rw[e]at e';cases e';exact⟨e,f0,f1,f2,d⟩
theorem Inv.unpinned{pl:Pn}(I:Inv X (pI++pl) σ H s):Inv X pI σ H s:=I.pins_of fun p hp=>I.pin p (BO _ (WM _ hp))
theorem qA{iter:At}{wi:TI}{g:TG}{tb:TS}(hp:Gh (model X.prog X.w) X.A X.env X.xe)(hc:X.calm=Aa)(hi:PI X tg iter wi)(hg:PG X tg g)(hb:PSs X body tb)(hs:∀ x,Dj iter X.env x=pure x:=by intro _;rfl):PS X (.For tg iter body [] pos) (YN wi g tb):=by
 intro pI s σ H D I h;refine wpAny_For (thn (hi pI s σ H _ I h) fun v s1 h1=>thn h1 fun itv s2 h2=>?_) hs
 obtain⟨it,fp,tn,J,H2,e,I2,T,st2,f2,W,⟨m0,w0⟩,turn⟩:=h2;subst e
 -- what stays Aa of the iterator's objects through the loop
 have stat:∀{H':Hp},(∀ b∈fp,H' b=Af)->∀ b∈fp,GY X pI H' b:=fun hn b hb=>⟨hn b hb,(f2 b hb).2⟩
 refine codeAny_forLoop_any (fun n s'=>∃ i σ' H',Inv X pI σ' H' s'/\tn i s'.heap/\(∀ b∈fp,H' b=Af)/\W i n σ' H') ?_ m0 ⟨0,σ,H2,I2,st2,fun b hb=>(f2 b hb).1,w0⟩
 rintro n s3 ⟨i,σ3,H3,I3,st3,fr3,w3⟩;rcases turn i n σ3 H3 w3 with ⟨stop,qn⟩|⟨go,N,hN,step⟩
 ·refine Fw hp (thn (T.done X rfl rfl rfl hc i pI s3 σ3 H3 X.xe I3 (stat fr3) st3 stop) fun r s4 ⟨hr,I4⟩=>?_)
  subst hr;exact Yc ⟨σ3,H3,I4,qn⟩
 ·refine Fw hp (thn (T.item X rfl rfl rfl hc i pI s3 σ3 H3 X.xe I3 (stat fr3) st3 go) fun r s4 ⟨u,hr,h4⟩=>?_)
  subst hr;refine Fw hp (thn h4 fun _ s5 ⟨x,H5,I5,r5,y5,st5,fr5⟩=>?_)
  have I5':=I5.pinned (stat fr5) (T.obj _ _ st5);refine Fw hp (thn (hg _ s5 σ3 H5 x u _ I5' r5 (step x H5 y5)) fun _ s6 ⟨σ6,H6,I6,q6⟩=>?_)
  refine Fw hp (thn (hb _ s6 σ6 H6 _ I6 q6) fun f s7 q7=>?_)
  have again:∀{σ7:St}{H7:Hp},Inv X (pI++J4 fp s5.heap) σ7 H7 s7->N σ7 H7->∃ m,m<n/\∃ i σ' H',Inv X pI σ' H' s7/\tn i s7.heap/\(∀ b∈fp,H' b=Af)/\W i m σ' H':=fun {σ7 H7} I7 n7=>by
   obtain⟨m',hm,w7⟩:=hN σ7 H7 n7;refine⟨m',hm,i+1,σ7,H7,I7.unpinned,T.keep _ _ _ st5 fun b hb o e=>(I7.pin (b,o) (BO _ (BO _ (Mu hb e)))).1,fun b hb=>?_,w7⟩
   obtain⟨o,e,d⟩:=T.obj _ _ st5 b hb;exact(I7.pin (b,o) (BO _ (BO _ (Mu hb e)))).2.1
  cases f with
  |next=>obtain⟨σ7,H7,I7,n7⟩:=q7;exact again I7 n7
  |cont=>obtain⟨σ7,H7,I7,n7⟩:=q7;exact again I7 n7
  |brk=>obtain⟨σ7,H7,I7,q7⟩:=q7;exact⟨σ7,H7,I7.unpinned,q7⟩
  |ret v=>obtain⟨x7,σ7,H7,I7,r7,q7⟩:=q7;exact⟨x7,σ7,H7,I7.unpinned,r7,q7⟩
end
abbrev R2:=V->V->Hp->VK->Prop
variable{r:R2}
noncomputable def OpR(X:Cx)(f:Ai->Ai->G5 Ai)(r:R2):Prop:=
 ∀(pI:Pn)(s:Ap)(σ:St)(H:Hp)(x y:V)(v u:Ai)(Q:VK),Inv X pI σ H s->BZ x v->BZ y u->r x y H Q ->
  AB (model X.prog X.w) X.A (f v u) (EP X pI σ Q) X.xe s
noncomputable def UnR(X:Cx)(f:Ai->G5 Ai)(r:V->Hp->VK->Prop):Prop:=
 ∀(pI:Pn)(s:Ap)(σ:St)(H:Hp)(x:V)(v:Ai)(Q:VK),Inv X pI σ H s->BZ x v->r x H Q ->
  AB (model X.prog X.w) X.A (f v) (EP X pI σ Q) X.xe s
noncomputable def HN(X:Cx)(f:Ai)(r:Ac V->Hp->VK->Prop):Prop:=
 ∀(pI:Pn)(s:Ap)(σ:St)(H:Hp)(xs:Ac V)(us:Ac Ai)(Q:VK),Inv X pI σ H s->Br xs us->r xs H Q ->
  AB (model X.prog X.w) X.A (call f us) (EP X pI σ Q) X.xe s
noncomputable def YE(X:Cx)(r:V->Hp->(Ao->Hp->Prop)->Prop):Prop:=
 ∀(pI:Pn)(s:Ap)(σ:St)(H:Hp)(x:V)(v:Ai)(Q:Ao->Hp->Prop),Inv X pI σ H s->BZ x v->r x H Q ->
  AB (model X.prog X.w) X.A (truthy v) (TP X pI σ Q) X.xe s
def tOp(r:R2)(ta tb:TE):TE:=fun σ H Q=>ta σ H fun x H1=>tb σ H1 fun y H2=>r x y H2 Q
def tUn(r:V->Hp->VK->Prop)(ta:TE):TE:=fun σ H Q=>ta σ H fun x H1=>r x H1 Q
def rI(C:Ae->Ae->Prop)(g:Ae->Ae->V):R2:=fun x y H Q=>∃ i j,x=.int i/\y=.int j/\C i j/\Q (g i j) H
def rI0(g:Ae->Ae->V):R2:=fun x y H Q=>∃ i j,x=.int i/\y=.int j/\Q (g i j) H
def rU(g:Ae->V):V->Hp->VK->Prop:=fun x H Q=>∃ i,x=.int i/\Q (g i) H
section
variable{X:Cx}{a b c:At}{ta tb tc:TE}{pos:Bk}
theorem QT(ha:PE X a ta)(hb:PE X b tb){R:V->V->Hp->Prop}(I:Inv X pI σ H s)(h:ta σ H fun x H1=>tb σ H1 fun y H2=>R x y H2){Q:Vq}(hf:∀ v u s2 x y H2,Inv X pI σ H2 s2->BZ x v->BZ y u->R x y H2->AB (model X.prog X.w) X.A (f v u) Q X.xe s2):AB (model X.prog X.w) X.A (eval a X.env) (fun v s₁=>AB (model X.prog X.w) X.A (eval b X.env) (fun u s₂=>AB (model X.prog X.w) X.A (f v u) Q X.xe s₂) X.xe s₁) X.xe s:=by
 refine thn (ha pI s σ H _ I h) fun v s1 ⟨x,H1,I1,r1,q1⟩=>?_
 refine thn (hb pI s1 σ H1 _ I1 q1) fun u s2 ⟨y,H2,I2,r2,q2⟩=>?_
 exact hf v u s2 x y H2 I2 r1 r2 q2
theorem VG{op:HE}(ho:OpR X (Cr op) r)(ha:PE X a ta)(hb:PE X b tb):PE X (.BinOp a op b pos) (tOp r ta tb):=by
 intro pI s σ H Q I h;exact wpAny_BinOp (QT ha hb I h fun v u s2 x y H2 I2 rx ry q=>ho pI s2 σ H2 x y v u Q I2 rx ry q)
theorem vV{op:UnaryOp}{r:V->Hp->VK->Prop}(ho:UnR X (unaryOp op) r)(ha:PE X a ta):PE X (.UnaryOp op a pos) (tUn r ta):=by
 intro pI s σ H Q I h;exact UnaryOp_ (thn (ha pI s σ H _ I h) fun v s1 ⟨x,H1,I1,r1,q1⟩=>ho pI s1 σ H1 x v Q I1 r1 q1)
theorem opI{C:Ae->Ae->Prop}(rule:∀(i j:Ae)(t u:DC)(s:Ap)(Q:Vq)(E:Vq),C i j->Q (.int (g i j) s.toks) {s with toks:=s.toks+1}->AB (model X.prog X.w) X.A (f (.int i t) (.int j u)) Q E s):OpR X f (rI C fun i j=>.int (g i j)):=by
 intro pI s σ H x y v u Q I rx ry h;obtain⟨i,j,rfl,rfl,hc,q⟩:=h;obtain⟨t,rfl⟩:=rx;obtain⟨t',rfl⟩:=ry;exact rule i j t t' s _ _ hc ⟨.int (g i j),H,I.tok _,⟨_,rfl⟩,q⟩
theorem Rg(rule:∀(i j:Ae)(t u:DC)(s:Ap)(Q:Vq)(E:Vq),Q (.int (g i j) s.toks) {s with toks:=s.toks+1}->AB (model X.prog X.w) X.A (f (.int i t) (.int j u)) Q E s):OpR X f (rI0 fun i j=>.int (g i j)):=by
 intro pI s σ H x y v u Q I rx ry h;obtain⟨i,j,rfl,rfl,q⟩:=h;obtain⟨t,rfl⟩:=rx;obtain⟨t',rfl⟩:=ry;exact rule i j t t' s _ _ ⟨.int (g i j),H,I.tok _,⟨_,rfl⟩,q⟩
theorem Ny{g:Ae->Ae->Ao}(rule:∀(i j:Ae)(t u:DC)(s:Ap)(Q:Vq)(E:Vq),Q (.bool (g i j)) s->AB (model X.prog X.w) X.A (f (.int i t) (.int j u)) Q E s):OpR X f (rI0 fun i j=>.bl (g i j)):=by
 intro pI s σ H x y v u Q I rx ry h;obtain⟨i,j,rfl,rfl,q⟩:=h;obtain⟨t,rfl⟩:=rx;obtain⟨t',rfl⟩:=ry;exact rule i j t t' s _ _ ⟨.bl (g i j),H,I,rfl,q⟩
def YJ(i j:Ae):Prop:=0<j/\j<1073741824
def YI(i j:Ae):Prop:=0<=j/\j<=1000000/\i.natAbs<2 ^ 64
def Nx(i j:Ae):Prop:=(-(2 ^ 64)<i/\i<2 ^ 64)\/(-(2 ^ 64)<j/\j<2 ^ 64)
theorem Nx.ok{i j:Ae}(h:Nx i j):Ln i j:=by
 rcases h with ⟨h1,h2⟩|⟨h1,h2⟩
 ·exact .of_left (intBits_le_64 h1 h2)
 ·exact .of_right (intBits_le_64 h1 h2)
theorem pJ:OpR X (Cr .Add) (rI0 fun i j=>.int (i+j)):=Rg fun _ _ _ _ _ _ _ q=>add_int q
theorem qT:OpR X (Cr .Sub) (rI0 fun i j=>.int (i-j)):=Rg fun _ _ _ _ _ _ _ q=>sub_int q
theorem gL:OpR X (Cr .FloorDiv) (rI YJ fun i j=>.int (i / j)):=opI fun i j _ _ _ _ _ hc q=>by
 have h1:(0:Ae)<j:=hc.1;have h2:j<1073741824:=hc.2;exact floordiv_int (by omega) (by rw[Int.fdiv_eq_ediv_of_nonneg i (by omega)];exact q) (.inl (PyProof.noPylong_small (by omega)))
theorem pG:OpR X (Cr .Mod) (rI (fun _ j=>0<j) fun i j=>.int (i%j)):=opI fun i j _ _ _ _ _ hc q=>by
 have h1:(0:Ae)<j:=hc;exact mod_int' (by omega) (by rw[Int.fmod_eq_emod_of_nonneg i (by omega)];exact q)
theorem qU:OpR X (Cr .Pow) (rI YI fun i j=>.int (i ^ j.toNat)):=opI fun _ _ _ _ _ _ _ hc q=>pow_int_small hc.1 hc.2.1 hc.2.2 q
theorem unI{f:Ai->G5 Ai}{g:Ae->Ae}(rule:∀(i:Ae)(t:DC)(s:Ap)(Q:Vq)(E:Vq),Q (.int (g i) s.toks) {s with toks:=s.toks+1}->AB (model X.prog X.w) X.A (f (.int i t)) Q E s):UnR X f (rU fun i=>.int (g i)):=by
 intro pI s σ H x v Q I rx h;obtain⟨i,rfl,q⟩:=h;obtain⟨t,rfl⟩:=rx;exact rule i t s _ _ ⟨.int (g i),H,I.tok _,⟨_,rfl⟩,q⟩
theorem lH:UnR X (unaryOp .USub) (rU fun i=>.int (-i)):=unI fun _ _ _ _ _ q=>neg_int q
end
section
variable{X:Cx}{a b c:At}{ta tb tc:TE}{pos:Bk}
theorem U0{Q:VK}{k k':Ao}(I:Inv X pI σ H s)(q:Q (.bl k) H)(e:k=k'):EP X pI σ Q (.bool k') s:=by
 subst e;exact⟨.bl k,H,I,rfl,q⟩
theorem uQ:OpR X (CN .Lt) (rI0 fun i j=>.bl (decide (i<j))):=Ny fun _ _ _ _ _ _ _ q=>lt_int q
theorem uR:OpR X (CN .LtE) (rI0 fun i j=>.bl (decide (i<=j))):=Ny fun _ _ _ _ _ _ _ q=>le_int q
theorem uS:OpR X (CN .Gt) (rI0 fun i j=>.bl (decide (j<i))):=Ny fun _ _ _ _ _ _ _ q=>gt_int q
theorem uT:OpR X (CN .GtE) (rI0 fun i j=>.bl (decide (j<=i))):=Ny fun _ _ _ _ _ _ _ q=>ge_int q
theorem pH:OpR X (CN .Is) (fun x y H Q=>y=.non/\Q (.bl (decide (x=.non))) H):=by
 intro pI s σ H x y v u Q I rx ry h;obtain⟨rfl,q⟩:=h;cases ry;refine is_none_gen (U0 I q ?_);cases x<;>first
  |(cases rx;rfl)
  |(obtain⟨t,rfl⟩:=rx;rfl)
theorem gJ:OpR X (CN .IsNot) (fun x y H Q=>y=.non/\Q (.bl (!decide (x=.non))) H):=by
 intro pI s σ H x y v u Q I rx ry h;obtain⟨rfl,q⟩:=h;cases ry;refine isnot_none_gen (U0 I q ?_);cases x<;>first
  |(cases rx;rfl)
  |(obtain⟨t,rfl⟩:=rx;rfl)
theorem gC(ho:OpR X (CN op) r)(ha:PE X a ta)(hb:PE X b tb)(hm:G7 op b=Ad):PE X (.Compare a [op] [b] pos) (tOp r ta tb):=by
 intro pI s σ H Q I h;exact wpAny_Compare1 (QT ha hb I h fun v u s2 x y H2 I2 rx ry q=>ho pI s2 σ H2 x y v u Q I2 rx ry q) hm
def Vt(t:TE):TT:=fun σ H Q=>t σ H fun x H'=>∃ k,x=.bl k/\Q k H'
theorem iP(ho:OpR X (CN op) r)(ha:PE X a ta)(hb:PE X b tb)(hm:G7 op b=Ad):PT X (.Compare a [op] [b] pos) (Vt (tOp r ta tb)):=by
 intro pI s σ H Q I h;refine wpAny_isTrue_Compare1 (thn (ha pI s σ H _ I h) fun v s1 ⟨x,H1,I1,r1,q1⟩=>thn (hb pI s1 σ H1 _ I1 q1) fun u s2 ⟨y,H2,I2,r2,q2⟩=>
  thn (ho pI s2 σ H2 x y v u _ I2 r1 r2 q2) fun c s3 ⟨z,H3,I3,r3,k,e,q3⟩=>?_) hm
 subst e;cases r3;exact C0 ⟨H3,I3,q3⟩
def Vc(r r':R2)(ta tb tc:TE):TE:=fun σ H Q=>ta σ H fun x H1=>tb σ H1 fun y H2=>r x y H2 fun z H3=>∃ k,z=.bl k /\
 (if k=Aa then tc σ H3 fun w' H4=>r' y w' H4 Q else Q (.bl Ad) H3)
theorem bN{op':ES}{r':R2}(ho:OpR X (CN op) r)(ho':OpR X (CN op') r')(ha:PE X a ta)(hb:PE X b tb)(hc:PE X c tc)(hm:Jr [op,op'] [b,c]=Ad:=by with_unfolding_all rfl):PE X (.Compare a [op,op'] [b,c] pos) (Vc r r' ta tb tc):=by
 intro pI s σ H Q I h;refine Compare_chain (thn (ha pI s σ H _ I h) fun v s1 ⟨x,H1,I1,r1,q1⟩=>chain_link (thn (hb pI s1 σ H1 _ I1 q1) fun u s2 ⟨y,H2,I2,r2,q2⟩=>
  thn (ho pI s2 σ H2 x y v u _ I2 r1 r2 q2) fun d s3 ⟨z,H3,I3,r3,k,e,q3⟩=>?_)) hm
 subst e;cases r3;refine C0 ?_;cases k with
 |false=>exact ite_ff ⟨.bl Ad,H3,I3,rfl,q3⟩
 |true=>exact ite_tt (chain_last (thn (hc pI s3 σ H3 _ I3 q3) fun w' s4 ⟨z',H4,I4,r4,q4⟩=>ho' pI s4 σ H4 y z' u w' Q I4 r2 r4 q4))
theorem bF{op':ES}{r':R2}(ho:OpR X (CN op) r)(ho':OpR X (CN op') r')(ha:PE X a ta)(hb:PE X b tb)(hc:PE X c tc)(hm:Jr [op,op'] [b,c]=Ad:=by with_unfolding_all rfl):PT X (.Compare a [op,op'] [b,c] pos) (Vt (Vc r r' ta tb tc)):=by
 intro pI s σ H Q I h;refine isTrue_chain (thn (ha pI s σ H _ I h) fun v s1 ⟨x,H1,I1,r1,q1⟩=>test_link (thn (hb pI s1 σ H1 _ I1 q1) fun u s2 ⟨y,H2,I2,r2,q2⟩=>
  thn (ho pI s2 σ H2 x y v u _ I2 r1 r2 q2) fun d s3 ⟨z,H3,I3,r3,k,e,q3⟩=>?_)) hm
 subst e;cases r3;refine C0 ?_;cases k with
 |false=>
  obtain⟨k',e',q'⟩:=q3;cases e';exact ite_ff ⟨H3,I3,q'⟩
 |true=>
  refine ite_tt (test_last (thn (hc pI s3 σ H3 _ I3 q3) fun w' s4 ⟨z',H4,I4,r4,q4⟩=>thn (ho' pI s4 σ H4 y z' u w' _ I4 r2 r4 q4) fun d' s5 ⟨z2,H5,I5,r5,k2,e2,q5⟩=>?_))
  subst e2;cases r5;exact C0 ⟨H5,I5,q5⟩
noncomputable def Q1(K:Fg)(x:V)(H:Hp)(k:Ao):Prop:=
  match x with
  |.non=>k=Ad
  |.bl b=>k=b
  |.int i=>k=(i != 0)
  |.str y=>y.length<=sizeLine/\k=((y.length:Ae) != 0)
  |.byt y=>y.size<=sizeLine/\k=((y.size:Ae) != 0)
  |.ref p=>(∃ xs,SqL K H p xs/\k=!xs.isEmpty)\/(∃ xs,SqT K H p xs/\k=!xs.isEmpty)\/∃ kvs,H p=Ab (.dK kvs)/\k=!kvs.isEmpty
  |_=>BK
theorem ZL{κ:Type}{kvs:Ac (κ×V)}{vs:Ac (κ×Ai)}(r:KV kvs vs):(!vs.isEmpty)=!kvs.isEmpty:=by
 cases r<;>rfl
theorem RQ{its:Ac Ai}(r:Br xs its):(!its.toArray.isEmpty)=!xs.isEmpty:=by
 cases r<;>simp
theorem KU:(sizeLine:Ag)<2 ^ 63:=by rw[CW];decide
theorem kW:YE X (fun x H Q=>∃ k,Q1 X.K x H k/\Q k H):=by
 intro pI s σ H x v Q I rx h;obtain⟨k,e,q⟩:=h;have hl:=KU;have hs:sizeLine=16777216:=CW;cases x with
 |non=>
  cases rx;have e':k=Ad:=e;subst e';exact truthy_none ⟨H,I,q⟩
 |bl b=>
  cases rx;have e':k=b:=e;subst e';exact C0 ⟨H,I,q⟩
 |int i=>
  obtain⟨t,rfl⟩:=rx;have e':k=(i != 0):=e;subst e';exact PySem.P.truthy_int ⟨H,I,q⟩
 |str y=>
  obtain⟨t,rfl⟩:=rx;obtain⟨hy,e'⟩:y.length<=sizeLine/\k=((y.length:Ae) != 0):=e;subst e';exact PySem.P.truthy_str (by omega) ⟨H,I.tok _,q⟩
 |byt y=>
  obtain⟨t,rfl⟩:=rx;obtain⟨hy,e'⟩:y.size<=sizeLine/\k=((y.size:Ae) != 0):=e;subst e';exact PySem.W.truthy_bytes (by omega) ⟨H,I.tok _,q⟩
 |ref p=>
  cases rx;have e':(∃ xs,SqL X.K H p xs/\k=!xs.isEmpty)\/(∃ xs,SqT X.K H p xs/\k=!xs.isEmpty)\/∃ kvs,H p=Ab (.dK kvs)/\k=!kvs.isEmpty:=e;rcases e' with ⟨xs,hx,e'⟩|⟨xs,hx,e'⟩|⟨kvs,hx,e'⟩
  ·subst e';obtain⟨its,r,pl,hz⟩:=I.list hx;have hlen:=r.length;exact wpAny_truthy_list pl.isList (by simp only[AE];omega) ⟨H,I.tok _,by rw[RQ r];exact q⟩
  ·subst e';obtain⟨its,r,pl,hz⟩:=I.tuple hx;have hlen:=r.length;exact truthy_tuple pl (by simp only[AE];omega) ⟨H,I.tok _,by rw[RQ r];exact q⟩
  ·subst e';obtain⟨hz,hS,vs,r,m⟩:kvs.length<=sizeLine/\(p==Kt)=Ad/\∃ vs,KV kvs vs/\s.heap.DictOf (Pf X.prog X.w) p vs:=I.hok p _ hx;have hlen:kvs.length=vs.length:=XF r;exact wpAny_truthy_dict hS m (by omega) ⟨H,I.tok _,by rw[ZL r];exact q⟩
 |_=>exact(show BK from e).elim
theorem bE(ha:PE X a ta)(he:∀ whole,Iz a X.env whole=(do let v <-whole;JI a.pos;holding [v] (truthy v))):PT X a (fun σ H Q=>ta σ H fun x H'=>∃ k,Q1 X.K x H' k/\Q k H'):=by
 intro pI s σ H Q I h;exact isTrue_plain (thn (ha pI s σ H _ I h) fun v s1 ⟨x,H1,I1,r1,q1⟩=>kW pI s1 σ H1 x v Q I1 r1 q1) (he _)
theorem ZI:OpR X (Cr .Add) (fun x y H Q=>∃ i j,x=.str i/\y=.str j/\i.length+j.length<=sizeLine/\Q (.str (i++j)) H):=by
 intro pI s σ H x y v u Q I rx ry h;obtain⟨i,j,rfl,rfl,hz,q⟩:=h;obtain⟨t,rfl⟩:=rx;obtain⟨t',rfl⟩:=ry;exact add_str (fun t' tk=>⟨.str (i++j),H,I.tok _,⟨_,rfl⟩,q⟩) hz
theorem HP{x:V}(r:Br [x] us):∃ u,us=[u]/\BZ x u:=by
 cases r with
 |cons r1 r2=>cases r2;exact⟨_,rfl,r1⟩
theorem Qk{x y:V}(r:Br [x,y] us):∃ u w',us=[u,w']/\BZ x u/\BZ y w':=by
 cases r with
 |cons r1 r2=>
  cases r2 with
  |cons r3 r4=>cases r4;exact⟨_,_,rfl,r1,r3⟩
theorem aP(hc:X.calm=Aa):HN X (.builtin "max") (fun xs H Q=>∃ i j,xs=[.int i,.int j]/\Q (.int (if j > i then j else i)) H):=by
 intro pI s σ H xs us Q I r h;obtain⟨i,j,rfl,q⟩:=h;obtain⟨u,w',rfl,⟨t,rfl⟩,⟨t',rfl⟩⟩:=Qk r;refine max_two_ints (I.ok.hd hc) fun h' tk k=>⟨_,H,I.kept k,?_,q⟩
 by_cases hj:j > i
 ·rw[Az hj,Az hj];exact⟨_,rfl⟩
 ·rw[AH hj,AH hj];exact⟨_,rfl⟩
theorem aO(hc:X.calm=Aa):HN X (.builtin "min") (fun xs H Q=>∃ i j,xs=[.int i,.int j]/\Q (.int (if j<i then j else i)) H):=by
 intro pI s σ H xs us Q I r h;obtain⟨i,j,rfl,q⟩:=h;obtain⟨u,w',rfl,⟨t,rfl⟩,⟨t',rfl⟩⟩:=Qk r;refine min_two_ints (I.ok.hd hc) fun h' tk k=>⟨_,H,I.kept k,?_,q⟩
 by_cases hj:j<i
 ·rw[Az hj,Az hj];exact⟨_,rfl⟩
 ·rw[AH hj,AH hj];exact⟨_,rfl⟩
end
section
variable{prog:A8}{w:AN}{A:Bu}{E:Vq}{s:Ap}{K:Fg}{x dx C f:Ak}{mA:Al->Av Ai}{name:Al}{v:Ai}
end
section
variable{P:A8}{w:AN}{H H':Hp}{h h':AS}{a C dx:Ak}{fs fs':Ac (Al×V)}
end
structure Cls (K:Fg) (C:Ak):Prop where
 pg:PySem.W.plainGet K C Str.empty=Aa
 hd:PySem.W.hasDictIn K C=Aa
 po:PySem.W.plainOver K C=Aa
 sa:GO K (.ref C) "__setattr__" = Ab (Ab (.builtin "object.__setattr__"))
section
variable{X:Cx}{pI:Pn}{σ:St}{H:Hp}{s:Ap}{a C dx:Ak}{fs:Ac (Al×V)}{f:Al}{v:V}{A:Bu}{E:Vq}
end
section
variable{X:Cx}{o e value:At}{f:Al}{pos pos' tpos:Bk}{ta tv:TE}
end
section
variable{X:Cx}{pI:Pn}{σ:St}{H:Hp}{s:Ap}{A:Bu}{E:Vq}{Q:Vq}{c:Ai}{b:Ao}
end
structure Room (k:Ag) (A:Bu):Prop where
 hd:A.handled=Af
 dp:A.depth+3*k+5<X5
 un:A.units+16*k+200<CA
theorem Room.deeper{A:Bu}(r:Room (k+1) A)(env:CG):Room k (A.deeper env):=
 ⟨r.hd,by have:=r.dp;show A.depth+1+3*k+5<_;omega,by have:=r.un;show A.units+3+16*k+200<_;omega⟩
theorem Room.depth{A:Bu}(r:Room k A):A.depth<X5:=by have:=r.dp;omega
theorem Room.units{A:Bu}(r:Room k A):A.units+64<CA:=by have:=r.un;omega
def YK:TA:=fun _ H Q=>Q [] H
def tZ(ta:TE)(tr:TA):TA:=fun σ H Q=>ta σ H fun x H1=>tr σ H1 fun xs H2=>Q (x::xs) H2
section
variable{X:Cx}{e:At}{es:Ac At}{te:TE}{t:TA}{pos:Bk}
theorem Hf:PA X [] YK:=fun _ _ _ _ H Q I h=>Ho ⟨[],H,I,.nil,h⟩
theorem FH(ha:PE X e te)(hr:PA X es t)(hs:AM (e::es) X.env=(Ad,eval e X.env)::AM es X.env:=by rfl):PA X (e::es) (tZ te t):=by
 intro pos pI s σ H Q I h;rw[hs];show AB _ _ (spliced ((Ad,eval e X.env)::CU pos (AM es X.env))) _ _ s;refine G1 (thn (ha pI s σ H _ I h) fun u s1 ⟨x,H1,I1,r1,q1⟩=>?_)
 exact thn (hr pos pI s1 σ H1 _ I1 q1) fun us s2 ⟨xs,H2,I2,r2,q2⟩=>⟨x::xs,H2,I2,.cons r1 r2,q2⟩
def Yo(t:TA):TE:=fun σ H Q=>t σ H fun xs H1=>xs.length<=sizeLine/\∀ p,H1 p=Af->Q (.ref p) (upd H1 p (.tup xs))
def YL(t:TA):TE:=fun σ H Q=>t σ H fun xs H1=>xs.length<=sizeLine/\∀ p,H1 p=Af->Q (.ref p) (upd H1 p (.lst xs))
theorem qI{x1}(h:PA X es t):PE X (.Tuple es x1 pos) (Yo t):=by
 intro pI s σ H Q I hq;refine wpAny_Tuple_spliced (thn (h pos pI s σ H _ I hq) fun us s1 ⟨xs,H1,I1,r,z,q⟩=>⟨by rw[<-r.length];exact z,?_⟩)
 have hf:H1 s1.heap.objs.size=Af:=I1.hok.fresh (AU _);refine⟨.ref s1.heap.objs.size,upd H1 s1.heap.objs.size (.tup xs),I1.laid (t':=s1.toks) (fun b u e=>As _ e) (AU _) ?_,rfl,q _ hf⟩
 exact⟨z,us,r,⟨_,AC _ rfl,rfl,_,rfl⟩⟩
theorem qN(h:PA X es t):PE X (.List es pos) (YL t):=by
 intro pI s σ H Q I hq;refine wpAny_List_spliced (thn (h pos pI s σ H _ I hq) fun us s1 ⟨xs,H1,I1,r,z,q⟩=>⟨by rw[<-r.length];exact z,?_⟩)
 have hf:H1 s1.heap.objs.size=Af:=I1.hok.fresh (AU _);refine⟨.ref s1.heap.objs.size,upd H1 s1.heap.objs.size (.lst xs),I1.laid (t':=s1.toks) (fun b u e=>As _ e) (AU _) ?_,rfl,q _ hf⟩
 exact⟨z,us,0,r,AC _ rfl⟩
end
abbrev Sp:=Ac V->Hp->VK->XK->Prop
variable{sp:Sp}
abbrev CXT:=Ac CG->Hp->Ap->XK->Ai->Ap->Prop
variable{CX:CXT}
structure Env0 (P:A8) (w:AN) (K:Fg) (mg:Al->Av Ai) (base:AS) (A:Bu) (outer:Ac CG) (s:Ap) (H:Hp):Prop where
 frames:A.frames=Ab outer
 mod:Mod K mg base
 bs:∀ b o,base.get? b=Ab o->s.heap.get? b=Ab o/\H b=Af
 bsz:base.objs.size<=s.heap.objs.size
 funs:s.heap.FunFrames base outer
 frf:∀ b∈frs outer,H b=Af
 hok:HOk P w H s.heap
 bare:FQ s.gens
noncomputable def CE(outer:Ac CG)(P:A8)(w:AN)(H:Hp)(s:Ap)(Q:VK)(u:Ai)(s':Ap):Prop:=
 ∃ v H',s'.os=s.os/\FQ s'.gens/\Un (frs outer) [] H H' s.heap s'.heap/\HOk P w H' s'.heap/\BZ v u/\Q v H'
noncomputable def CR(CX:CXT)(outer:Ac CG)(P:A8)(w:AN)(H:Hp)(s:Ap)(Q:VK)(E:XK)(r:Kl)(s':Ap):Prop:=
  match r with
  |.ok (.ret u)=>CE outer P w H s Q u s'
  |.ok _=>BK
  |.error e=>CX outer H s E e s'
structure FnOk (P:A8) (w:AN) (K:Fg) (mg:Al->Av Ai) (base:AS) (CX:CXT) (k:Ag) (f:Ak) (fd:CO) (ps:Ac Al) (sp:Sp):Prop where
 len:∀ vs H Q E,sp vs H Q E->vs.length=ps.length
 run:∀(A:Bu)(outer:Ac CG)(s:Ap)(H:Hp)(args:Args)(us:Ac Ai)(vs:Ac V)(Q:VK)(E:XK),Room k A->Env0 P w K mg base A outer s H->Hr s fd args (ps.zip us)->Br vs us->sp vs H Q E ->
  FR (model P w) A (.call (.ref f) args) (CR CX outer P w H s Q E) s
theorem FnOk.imp{w:AN}{K:Fg}{mg:Al->Av Ai}{base:AS}{f:Ak}{sp':Sp}(F:FnOk P w K mg base CX k f fd ps sp)(h:∀ vs H Q E,sp' vs H Q E->sp vs H Q E):FnOk P w K mg base CX k f fd ps sp':=
 ⟨fun vs H Q E q=>F.len vs H Q E (h _ _ _ _ q),fun A outer s H args us vs Q E hr he hb hv hs=>F.run A outer s H args us vs Q E hr he hb hv (h _ _ _ _ hs)⟩
section
variable{X:Cx}{pI:Pn}{σ:St}{H:Hp}{s s':Ap}
theorem Inv.env0(I:Inv X pI σ H s):Env0 X.prog X.w X.K X.mg X.base X.A X.stack s H:=
 ⟨I.ok.frames,I.ok.mod,I.bs,BD I.ok.bsz I.sz,I.stack,I.stkFree,I.hok,I.bare⟩
theorem Inv.after{Q:VK}(I:Inv X pI σ H s)(h:CE X.stack X.prog X.w H s Q u s'):EP X pI σ Q u s':=by
 obtain⟨v,H',os,bare,un,hok,r,q⟩:=h;obtain⟨hh,g,d,t,os'⟩:=s';obtain rfl:os'=s.os:=os;exact⟨v,H',I.call (h':=hh) (g':=g) (d':=d) (t':=t) (ch:=[]) un hok bare (fun b z=>absurd z (by simp)),r,q⟩
end
def uA(sp:Sp)(dvs:Ac V)(E:XK)(t:TA):TE:=fun σ H Q=>t σ H fun vs H1=>sp (vs++dvs) H1 Q E
noncomputable def Im(K:Fg)(fd:CO)(ps:Ac Al)(ds:Ac Ai):Prop:=
 ∀(s:Ap)(us:Ac Ai),K.In s.heap->(us++ds).length=ps.length->Hr s fd ⟨us,[]⟩ (ps.zip (us++ds))
theorem Im.all{K:Fg}(h:∀ us:Ac Ai,us.length=ps.length->Lq fd ⟨us,[]⟩=pure (ps.zip us)):Im K fd ps []:=fun s us _ hl=>by
 rw[Dy]at hl ⊢;exact .of_eq (h us hl)
def KZ(CX:CXT)(X:Cx)(E:XK):Prop:=∀(pI:Pn)(σ:St)(H:Hp)(s:Ap)(e:Ai)(s':Ap),Inv X pI σ H s->CX X.stack H s E e s'->X.xe e s'
section
variable{X:Cx}{CX:CXT}{k:Ag}{f C:Ak}{fd:CO}{ps:Ac Al}{sp:Sp}{dvs:Ac V}{ds:Ac Ai}{E:XK}{x m:Al}{p pos apos:Bk}{e o:At}{es:Ac At}{ta:TE}{t:TA}
theorem nF{Q:VK}(F:FnOk X.prog X.w X.K X.mg X.base CX k f fd ps sp)(hr:Room k X.A)(hb:Im X.K fd ps ds)(hd:Br dvs ds)(hx:KZ CX X E)(I:Inv X pI σ H s)(r:Br vs us)(h:sp (vs++dvs) H Q E):AB (model X.prog X.w) X.A (call (.ref f) us) (EP X pI σ Q) X.xe s:=by
 have r2:Br (vs++dvs) (us++ds):=r.append hd;have hl:(us++ds).length=ps.length:=by rw[<-r2.length];exact F.len _ _ _ _ h
 refine wpAny_call (Jp (F.run X.A X.stack s H ⟨us,[]⟩ (us++ds) (vs++dvs) Q E hr I.env0 (hb s us I.kIn hl) r2 h) fun r s' hq=>?_)
 cases r with
 |error e=>exact hx pI σ H s e s' I hq
 |ok fl=>
  cases fl with
  |ret u=>exact I.after hq
  |next=>exact Ec hq
  |brk=>exact Ec hq
  |cont=>exact Ec hq
theorem T4(F:FnOk X.prog X.w X.K X.mg X.base CX k f fd ps sp)(hr:Room k X.A)(hg:Gl X x)(hm:X.mg x=Ab (.ref f))(hk:DL X.K (.ref f)=Aa)(hb:Im X.K fd ps ds)(hd:Br dvs ds)(hx:KZ CX X E)(ha:PA X (e::es) t)(hdb:(x==("__debug__" : Al))=Ad:=by decide)(he:AM (e::es) X.env=(Ad,eval e X.env)::AM es X.env:=by rfl)(hpl:(CU pos (AM es X.env)).any (·.1)=Ad:=by rfl):PE X (.Call (.Name x p) (e::es) [] pos) (uA sp dvs E t):=by
 intro pI s σ H Q I h;refine G4 (fU I hg hm ?_ hdb);refine PySem.W.callWith_K (h₀:=X.base) I.ok.mod.kin hk (thn (ha pos pI s σ H _ I h) fun us s1 ⟨vs,H1,I1,r,q⟩=>⟨I1.kIn,?_⟩) he hpl
 exact nF F hr hb hd hx I1 r q
end
section
variable{X:Cx}{CX:CXT}{k:Ag}{f C:Ak}{fd:CO}{ps ks:Ac Al}{sp:Sp}{E:XK}{x m:Al}{p pos apos kpos:Bk}{e o:At}{es:Ac At}{kws:Ac Fe}{te ta:TE}{t tk:TA}{nm:Av Al}
variable{g:Ac Ai->Ac Ai->Ac Ai}{gV:Ac V->Ac V->Ac V}
end
structure FnScope (N P:Ac Al) (sc:CM):Prop where
 kind:sc.kind=.function
 co:sc.isCoroutine=Ad
 gen:sc.isGenerator=Ad
 nd:N.Nodup
 pre:N.take P.length=P
 par:∀ x∈P,sc.names.lookup x=Ab .local\/sc.names.lookup x=Ab .cell
 nofree:∀ y∈sc.names,y.2≠.free
theorem R9{kindOf:Al->Av Er}{x:Al}:∀{binds:Ac (Al×Ai)}{m:Al->Av Ai},(∀ v,(x,v)∉binds)->IH kindOf binds m x=m x
 |[],_,_=>rfl
 |(n,v)::r,m,h=>by
  unfold IH;rw[R9 fun w hw=>h w (Au _ hw)]
  split
  ·have:x≠n:=by rintro rfl;exact h v Ay
   simp[this]
  ·rfl
theorem Sb{kindOf:Al->Av Er}{x:Al}:∀{binds:Ac (Al×Ai)}{m:Al->Av Ai},(∀ v,(x,v)∉binds)->IG kindOf binds m x=m x
 |[],_,_=>rfl
 |(n,v)::r,m,h=>by
  unfold IG;rw[Sb fun w hw=>h w (Au _ hw)]
  split
  ·rfl
  ·have:x≠n:=by rintro rfl;exact h v Ay
   simp[this]
theorem Sa{kindOf:Al->Av Er}{x:Al}{v:Ai}:∀{P:Ac Al}{vs:Ac Ai}{i:Ag}{m:Al->Av Ai},P.Nodup->P[i]?=Ab x->vs[i]?=Ab v->kindOf x=Ab .local->IH kindOf (P.zip vs) m x=Ab v
 |[],_,_,_,_,h,_,_=>by simp at h
 |_::_,[],_,_,_,_,h,_=>by simp at h
 |p::P,w::vs,0,m,nd,h1,h2,hk=>by
  simp at h1 h2;subst h1;subst h2;show IH kindOf ((p,w)::P.zip vs) m p=_;unfold IH;rw[R9 fun v hv=>(B5.mp nd).1 (HY hv).1,Az hk]
  simp
 |p::P,w::vs,i+1,m,nd,h1,h2,hk=>by
  show IH kindOf ((p,w)::P.zip vs) m x=_;unfold IH;exact Sa (i:=i) (B5.mp nd).2 (by simpa using h1) (by simpa using h2) hk
theorem Sc{kindOf:Al->Av Er}{x:Al}{v:Ai}:∀{P:Ac Al}{vs:Ac Ai}{i:Ag}{m:Al->Av Ai},P.Nodup->P[i]?=Ab x->vs[i]?=Ab v->kindOf x≠Ab .local->IG kindOf (P.zip vs) m x=Ab v
 |[],_,_,_,_,h,_,_=>by simp at h
 |_::_,[],_,_,_,_,h,_=>by simp at h
 |p::P,w::vs,0,m,nd,h1,h2,hk=>by
  simp at h1 h2;subst h1;subst h2;show IG kindOf ((p,w)::P.zip vs) m p=_;unfold IG;rw[Sb fun v hv=>(B5.mp nd).1 (HY hv).1,AH hk]
  simp
 |p::P,w::vs,i+1,m,nd,h1,h2,hk=>by
  show IG kindOf ((p,w)::P.zip vs) m x=_;unfold IG;exact Sc (i:=i) (B5.mp nd).2 (by simpa using h1) (by simpa using h2) hk
noncomputable def start(N:Ac Al)(vs:Ac V):St:=vs.map Ab++EW (N.length-vs.length) Af
noncomputable def GX(CX:CXT)(P:A8)(w:AN)(K:Fg)(mg:Al->Av Ai)(base:AS)(N:Ac Al)(qual:Al)(scope:CM)(f:Ak)(cd:Ai)(A:Bu)(outer:Ac CG)(s:Ap)(H:Hp)(E:XK):Cx where
 prog:=P
 w:=w
 K:=K
 mg:=mg
 base:=base
 A:=A.deeper (Fb qual scope s.heap.objs.size f cd)
 N:=N
 s₀:=s
 H₀:=H
 env:=Fb qual scope s.heap.objs.size f cd
 outer:=outer
 stack:=Fb qual scope s.heap.objs.size f cd::outer
 ex:=[]
 calm:=Aa
 fn:=fun _=>Aa
 pn:=[]
 xe:=fun e s'=>AB (model P w) (A.deeper (Fb qual scope s.heap.objs.size f cd)) (leaving (Fb qual scope s.heap.objs.size f cd) e) (fun _ s''=>CX outer H s E e s'') (fun e' s''=>CX outer H s E e' s'') s'
theorem SH{sc:CM}(h:sc.names.lookup x=Ab .cell):∃ c,(Dx n sc.names []).lookup x=Ab c:=by
 have q:=XQ sc.names n [] (.inl h);exact Option.isSome_iff_exists.mp q
theorem Z0{w:AN}{K:Fg}{mg:Al->Av Ai}{base:AS}{N ps:Ac Al}{f:Ak}{cd:Ai}{A:Bu}{outer:Ac CG}{s1:Ap}{E:XK}(S:FnScope N ps scope)(hd:A.handled=Af)(e0:Env0 P w K mg base A outer s H)(hl:vs.length=ps.length)(r:Br vs us)(x:InCallC s s.heap.objs.size (IH (Fb qual scope s.heap.objs.size f cd).kindOf (ps.zip us) fun _=>Af) (Dx (s.heap.objs.size+1) scope.names []) (IG (Fb qual scope s.heap.objs.size f cd).kindOf (ps.zip us) fun _=>Af) s1):Inv (GX CX P w K mg base N qual scope f cd A outer s H E) [] (start N vs) H s1:=by
 have hpl:ps.length<=N.length:=by have:=congrArg WE S.pre;rw[Hz]at this;omega
 obtain⟨h1,tk,rfl,hk⟩:=x.done;have noA:∀ b:Ak,b∉(GX CX P w K mg base N qual scope f cd A outer s H E).ex:=fun b z=>absurd (show b∈([]:Ac Ak) from z) (by simp)
 refine⟨⟨e0.mod,S.kind,rfl,rfl,AU _,fun y z c h1 h2=>?_,fun y hy=>?_,fun y c _ h=>?_,fun _=>hd,Around.frames_deeper e0.frames,.inr ⟨rfl,rfl⟩,fun b z=>absurd z (noA b),e0.bs,e0.bsz,fun b _ _=>noA b,fun b z=>absurd z (noA b),e0.funs,e0.frf⟩,
  rfl,e0.bare,Un.kept hk,⟨_,x.toInCall.ns,fun i y v h1 h2 h3=>?_⟩,fun y c h=>⟨_,x.cell y c h⟩,e0.hok.fresh (AU _),fun y c h=>?_,fun p hp=>absurd (show p∈([]:Pn) from hp) (by simp),e0.hok.kept hk,?_⟩
 ·exact name_of_addr x.apart (C2 h1) (C2 h2)
 ·have hy:scope.names.lookup y=Ab .cell\/scope.names.lookup y=Ab .free:=hy;rcases hy with hy|hy
  ·exact SH hy
  ·exact absurd rfl (S.nofree _ (C2 hy))
 ·exact DQ (x.above y c (C2 h))
 ·have hi:i<vs.length:=by
   unfold start at h2;by_cases hi:i<vs.length
   ·exact hi
   ·rw[WA (by simpa using hi)]at h2
    rw[WC]at h2;split at h2<;>cases h2
  have ha:vs[i]?=Ab v:=by
   unfold start at h2;rw[Fq (by simpa using hi),D4]at h2
   cases e:vs[i]? with
   |none=>rw[e]at h2;cases h2
   |some a=>rw[e]at h2;cases h2;rfl
  obtain⟨u,hu,rv⟩:=r.get ha;have hp:ps[i]?=Ab y:=by
   rw[<-S.pre,List.getElem?_take_of_lt (by omega)];exact h1
  have ndP:ps.Nodup:=by rw[<-S.pre];exact S.nd.sublist (List.take_sublist _ _)
  refine⟨u,rv,?_⟩;rcases S.par y (Dz hp) with k|k
  ·exact .inl ⟨k,Sa ndP hp hu k⟩
  ·obtain⟨c,e⟩:=SH (n:=s.heap.objs.size+1) k;refine .inr ⟨.inl k,c,e,?_⟩;have q:=x.cell y c e;rw[Sc ndP hp hu (by show scope.names.lookup y≠_;rw[k];decide)]at q
   exact q
 ·exact e0.hok.fresh (DQ (x.above y c (C2 h)))
 ·unfold start;show _=N.length;rw[Cv,Bp,Gg];omega
theorem VU{w:AN}{K:Fg}{mg:Al->Av Ai}{base:AS}{f:Ak}{name:Al}{params:Arguments}{dV kV doc pm cdv ct oc:Ai}{an od:Av Ak}{osl:AQ (Av Ai)}{N ps:Ac Al}(lk:K.lookup f=Ab ⟨oc,od,.func (Et name qual params body scope dV kV doc pm an cdv ct),osl⟩)(hcd:GN K cdv qual=Aa)(S:FnScope N ps scope)(len:∀ vs H Q E,sp vs H Q E->vs.length=ps.length)(hbody:∀(A:Bu)(outer:Ac CG)(s:Ap)(H:Hp)(vs:Ac V)(Q:VK)(E:XK),Room k (A.deeper (Fb qual scope s.heap.objs.size f cdv))->sp vs H Q E ->
   ∃ t,PSs (GX CX P w K mg base N qual scope f cdv A outer s H E) body t/\t {nx:=fun _ H'=>Q .non H',rt:=Q} (start N vs) H):FnOk P w K mg base CX (k+1) f (Et name qual params body scope dV kV doc pm an cdv ct) ps sp:=by
 refine⟨len,fun A outer s H args us vs Q E hr e0 hb r hsp=>?_⟩
 have hl:=len _ _ _ _ hsp;have KX:K.In s.heap:=e0.mod.kin.keeps fun b o e=>(e0.bs b o e).1
 have lim:s.heap.NoLimit:=e0.mod.nolimit.keeps fun b o e=>(e0.bs b o e).1
 have hkind:∀ y∈ps.zip us,scope.names.lookup y.1=Ab .local\/(scope.names.lookup y.1=Ab .cell/\((Dx (s.heap.objs.size+1) scope.names []).lookup y.1).isSome=Aa):=fun ⟨n,v⟩ hy=>by
  rcases S.par n (HY hy).1 with q|q
  ·exact .inl q
  ·exact .inr ⟨q,XQ _ _ _ (.inl q)⟩
 refine codeAny_call_function hr.depth (KX _ _ lk) rfl S.co S.gen rfl (PySem.W.codeRec_of KX hcd) (hb _ _ _ _ ?_);refine wpAny_newFunctionEnv_cells S.kind hkind fun env he s1 x=>?_
 subst he;refine⟨lim.keeps x.toInCall.keep,codeAny_func ?_⟩;obtain⟨t,ht,hq⟩:=hbody A outer s H vs Q E (hr.deeper _) hsp;have I:Inv (GX CX P w K mg base N qual scope f cdv A outer s H E) [] (start N vs) H s1:=Z0 S hr.hd e0 hl r x;refine CK (ht [] s1 (start N vs) H _ I hq) (fun fl s' hs=>?_) fun e s' hs=>hs
 have fin:∀{σ':St}{H':Hp}{v:V}{u:Ai},Inv (GX CX P w K mg base N qual scope f cdv A outer s H E) [] σ' H' s'->BZ v u->Q v H'->CE outer P w H s Q u s':=
  fun {σ' H' v u} J rv q=>⟨v,H',J.os,J.bare,J.base,J.hok,rv,q⟩
 cases fl with
 |ret u=>
  obtain⟨v,σ',H',J,rv,q⟩:=hs;exact fin J rv q
 |next=>
  obtain⟨σ',H',J,q⟩:=hs;exact fin (v:=V.non) (u:=Dh) J rfl q
 |brk=>
  obtain⟨_,_,_,q⟩:=hs;exact Ec q
 |cont=>
  obtain⟨_,_,_,q⟩:=hs;exact Ec q
section
variable{X:Cx}{x:Al}{p pos:Bk}{e:At}{es:Ac At}{t:TA}{id T:DT}{r:Ac V->Hp->VK->Prop}
def tCB(r:Ac V->Hp->VK->Prop)(t:TA):TE:=fun σ H Q=>t σ H fun vs H1=>r vs H1 Q
theorem O3(hc:HN X (.builtin id) r)(hg:Gl X x)(hm:X.mg x=Af)(hv:Db x=Ab (.builtin id))(ha:PA X (e::es) t)(hn:x≠"__name__" := by decide)(hdb:(x==("__debug__" : Al))=Ad:=by decide)(he:AM (e::es) X.env=(Ad,eval e X.env)::AM es X.env:=by rfl)(hpl:(CU pos (AM es X.env)).any (·.1)=Ad:=by rfl):PE X (.Call (.Name x p) (e::es) [] pos) (tCB r t):=by
 intro pI s σ H Q I h;refine G4 (HJ I hg hm hv ?_ hn hdb);exact W7 (thn (ha pos pI s σ H _ I h) fun us s1 ⟨vs,H1,I1,r1,q1⟩=>hc pI s1 σ H1 vs us Q I1 r1 q1) he hpl
theorem Sg(hc:HN X (.type T) r)(hg:Gl X x)(hm:X.mg x=Af)(hv:Db x=Ab (.type T))(ha:PA X (e::es) t)(hn:x≠"__name__" := by decide)(hdb:(x==("__debug__" : Al))=Ad:=by decide)(he:AM (e::es) X.env=(Ad,eval e X.env)::AM es X.env:=by rfl)(hpl:(CU pos (AM es X.env)).any (·.1)=Ad:=by rfl):PE X (.Call (.Name x p) (e::es) [] pos) (tCB r t):=by
 intro pI s σ H Q I h;refine G4 (HJ I hg hm hv ?_ hn hdb);exact B9 (thn (ha pos pI s σ H _ I h) fun us s1 ⟨vs,H1,I1,r1,q1⟩=>hc pI s1 σ H1 vs us Q I1 r1 q1) he hpl
end
end L2
namespace HT
open PySem PyProof.Rows
variable{sl:Ak}
section
open PySem.SeqAt
open PySem.AutoSeq1 (wpAny_loadPart')
open PySem.MeetsSeq PySem.MeetsSeq2 PySem.MeetsSeq3
end
section
variable{prog:A8}{w:AN}{A:Bu}{E:Vq}{s:Ap}
theorem cat_tup{t b:Ak}{vs ws:Ac Ai}{Q:Vq}(ht:JG s.heap t vs.toArray)(hb:JG s.heap b ws.toArray)(hv:vs≠[])(h1:ws=[]->Q (.ref t) s)(h2:ws≠[]->Q (.ref s.heap.objs.size) { s with heap:=s.heap.push { cls:=.type "tuple", data:=.seq (vs++ws).toArray } })(hsz:vs.length+ws.length<=sizeLine):AB (model prog w) A (Cr .Add (.ref t) (.ref b)) Q E s:=by
 obtain⟨⟨cls,dd,data,sl⟩,ho,hc,n,hd⟩:=id ht;obtain⟨⟨cls2,dd2,data2,sl2⟩,ho2,hc2,n2,hd2⟩:=id hb;simp only at hc hd hc2 hd2;subst hc hd hc2 hd2;have e:vs.toArray++ws.toArray=(vs++ws).toArray:=by simp
 by_cases hw:ws=[]
 ·exact Jq ⟨_,ho,rfl⟩ ⟨_,ho2,rfl⟩ X4 seq_tuple_add Xv Xp (Xk _ _)
   (tuple_addW1 t b vs.toArray ws.toArray n n2 dd dd2 sl sl2 (by simpa using hv) (by simp[hw])) ⟨ho,ho2,h1 hw⟩
 ·refine Jq ⟨_,ho,rfl⟩ ⟨_,ho2,rfl⟩ X4 seq_tuple_add Xv Xp (Xk _ _)
   (tuple_addW2 t b vs.toArray ws.toArray n n2 dd dd2 sl sl2 (by simpa using hv) (by simpa using hw) (by rw[AE,AE];exact hsz)) ⟨ho,ho2,?_⟩
  rw[e];exact h2 hw
noncomputable def sIx(n d:Ag):Av Ae->Ag
 |none=>d
 |some v=>if v<0 then (v+(n:Ae)).toNat else min v.toNat n
theorem nE(n d:Ag)(hd:d<=n)(o:Av Ae):sIx n d o<=n:=by
 cases o with
 |none=>exact hd
 |some v=>
  show (if v<0 then (v+(n:Ae)).toNat else min v.toNat n)<=n
  by_cases hv:v<0
  ·rw[Az hv];omega
  ·rw[AH hv];exact Nat.min_le_right _ _
theorem UA(v:Ae)(n d:Ag):(if v<0 then max (v+(n:Ae)) 0 else min v (n:Ae))=((sIx n d (Ab v):Ag):Ae):=by
 show (if v<0 then max (v+(n:Ae)) 0 else min v (n:Ae))=(((if v<0 then (v+(n:Ae)).toNat else min v.toNat n):Ag):Ae)
 by_cases hv:v<0
 ·simp only[Az hv];omega
 ·simp only[AH hv];omega
theorem ZN(lo hi:Av Ae)(n:Ag):Fu lo hi 1 (n:Ae)=(((sIx n 0 lo:Ag):Ae),((sIx n n hi:Ag):Ae)):=by
 have h1:¬ ((1:Ae)<0):=by omega
 unfold Fu;simp only[h1,GZ];refine Bl ?_ ?_
 ·cases lo with
  |none=>rfl
  |some v=>exact UA v n 0
 ·cases hi with
  |none=>rfl
  |some v=>exact UA v n n
theorem ZH(i j:Ag):Eg (i:Ae) (j:Ae) 1=j-i:=by
 unfold Eg;have h1:(1:Ae) > 0:=by omega
 simp only[h1,IC,Int.ediv_one];split<;>omega
theorem Rz{v:Ai}{o:Av Ae}{Q:Av Ae->Ap->Prop}(p:HC v o)(h:Q o s):AB (model prog w) A (Builtin.Slice.slicePartIndex v) Q E s:=by
 cases p with
 |none=>exact W8 h
 |int i t=>exact slicePart_int h
theorem Y3{vl vu:Ai}{lo hi:Av Ae}{n:Ag}{Q:Ae×Ae×Ag->Ap->Prop}(hs:s.heap.IsSliceOf sl vl vu .none)(pl:HC vl lo)(pu:HC vu hi)(h:Q (((sIx n 0 lo:Ag):Ae),1,sIx n n hi-sIx n 0 lo) s):AB (model prog w) A (Xf (.ref sl) (pure (n:Ae))) Q E s:=by
 obtain⟨os,hos,hcs,hds⟩:=id hs;unfold Xf Builtin.Slice.sliceFields;refine Ah (Ah (Bt hos hds (x:=vl) rfl (Ah (Bt hos hds (x:=vu) rfl (Ah (Bt hos hds (x:=.none) rfl (Aw ?_)))))));refine Ah (W8 ?_);show AB _ _ (if ((1:Ae)==0)=Aa then _ else _) _ _ s
 rw[AH (by decide)]
 refine Ah (Rz pl (Ah (Rz pu (Ah (Aw ?_)))));show AB _ _ (match Fu lo hi 1 (n:Ae) with|(lo,hi)=>pure (lo,(1:Ae),Eg lo hi 1)) _ _ s
 rw[ZN lo hi n];show AB _ _ (pure (((sIx n 0 lo:Ag):Ae),(1:Ae),Eg ((sIx n 0 lo:Ag):Ae) ((sIx n n hi:Ag):Ae) 1)) _ _ s;rw[ZH];exact Aw h
theorem bL(xs:AQ Ai)(i k:Ag):((Bb k).filterMap fun(m:Ag)=>xs[((i:Ae)+(m:Ae)*1).toNat]?).toArray=((xs.toList.drop i).take k).toArray:=by
 have e:(fun(m:Ag)=>xs[((i:Ae)+(m:Ae)*1).toNat]?)=fun m=>xs[i+m]?:=by
  funext m
  have:((i:Ae)+(m:Ae)*1).toNat=i+m:=by omega
  rw[this]
 rw[e];have:=pick_run xs i k;rw[List.filterMap_map]at this;have e2:((fun x=>xs[x]?) ∘ fun x=>i+x)=fun m=>xs[i+m]?:=rfl
 rw[e2]at this;rw[this]
theorem getItem_tuple_cut{t:Ak}{items:AQ Ai}{vl vu:Ai}{lo hi:Av Ae}{Q:Vq}(ht:JG s.heap t items)(hs:s.heap.IsSliceOf sl vl vu .none)(pl:HC vl lo)(pu:HC vu hi)(hw:¬ (sIx items.size 0 lo=0/\sIx items.size items.size hi=items.size))(h:Q (.ref s.heap.objs.size) { s with heap:=s.heap.push { cls:=.type "tuple", data:=.seq ((items.toList.drop (sIx items.size 0 lo)).take (sIx items.size items.size hi-sIx items.size 0 lo)).toArray } })(hsz:items.size<=sizeLine):AB (model prog w) A (JH (.ref t) (.ref sl)) Q E s:=by
 have htake:sizeOk (.seq ((items.toList.drop (sIx items.size 0 lo)).take (sIx items.size items.size hi-sIx items.size 0 lo)).toArray):=by
  show ((items.toList.drop (sIx items.size 0 lo)).take (sIx items.size items.size hi-sIx items.size 0 lo)).toArray.size<=sizeLine;rw[AE,Hz,WF,C1];omega
 have hj:sIx items.size items.size hi<=items.size:=nE _ _ (AU _) hi;obtain⟨os,hos,hcs,hds⟩:=id hs;have hTs:s.TypeIs (.ref sl) "slice" := ⟨os,hos,hcs⟩;unfold JH
 try with_reducible refine Ce ?_
 first|refine Ah (Aw ?_)|skip
 refine Ah (wpAny_sequenceKey ht.typeIs (by decide) ?_)
 refine Ah (Cf (name:=Aq "__getitem__") ht.typeIs W9
  (CH W9 ht.typeIs entry_tuple_getitem ?_ (args_tuple_getitem _ _)))
 show AB _ _ (Builtin.Tuple.tupleItemsOf (.ref t) >>= _) _ _ s;refine Ah (tupleItemsOf_ ht ?_);refine Ah (wpAny_typeOf hTs ?_);rw[Az (by decide)]
 refine Ah (Y3 hs pl pu ?_);have hno:¬ ((((sIx items.size 0 lo:Ag):Ae)==0&&(1:Ae)==1&&(sIx items.size items.size hi-sIx items.size 0 lo)==items.size)=Aa):=by
  intro q;rw[An,An]at q;have q1:((sIx items.size 0 lo:Ag):Ae)=0:=eq_of_beq q.1.1;have q2:sIx items.size items.size hi-sIx items.size 0 lo=items.size:=eq_of_beq q.2;exact hw ⟨by omega,by omega⟩
 show AB _ _ (if (((sIx items.size 0 lo:Ag):Ae)==0&&(1:Ae)==1&&(sIx items.size items.size hi-sIx items.size 0 lo)==items.size)=Aa then _ else _) _ _ s
 rw[AH hno,bL]
 first
  |exact Ah (m:=Da _) (CZ (Aw ⟨_,rfl,Aw h⟩) htake)
  |exact Ah (m:=Da _) (CZ (Ah (Aw (Aw ⟨_,rfl,Aw h⟩))) htake)
  |exact Ah (Ah (m:=Da _) (CZ (Aw (Aw ⟨_,rfl,Aw h⟩)) htake))
  |exact Ah (Ah (m:=Da _) (CZ (Aw ⟨_,rfl,Aw h⟩) htake))
end
end HT
namespace L2
open PySem PySem.Spec PyProof.Rows
variable{xs:Ac V}{us its its':Ac Ai}{n t':Ag}{i:Ae}{pI:Pn}{σ:St}{H:Hp}{s:Ap}{p:Ak}
abbrev TO:=St->Hp->(Av Ae->Hp->Prop)->Prop
noncomputable def PO(X:Cx)(e:Av At)(t:TO):Prop:=
 ∀(pI:Pn)(s:Ap)(σ:St)(H:Hp)(Q:Av Ae->Hp->Prop),Inv X pI σ H s->t σ H Q ->
  AB (model X.prog X.w) X.A (evalPart e X.env) (fun u s'=>∃ o H',Inv X pI σ H' s'/\HC u o/\Q o H') X.xe s
def dZ:TO:=fun _ H Q=>Q Af H
def tU(t:TE):TO:=fun σ H Q=>t σ H fun x H1=>∃ i,x=.int i/\Q (Ab i) H1
section
variable{X:Cx}{e:At}{te:TE}{lo hi:Av At}{tl th:TO}{pos p2:Bk}
theorem fX:PO X Af dZ:=by
 intro pI s σ H Q I h;rw[evalPart_none];exact Aw ⟨Af,H,I,.none,h⟩
theorem fW(h:PE X e te):PO X (Ab e) (tU te):=by
 intro pI s σ H Q I hw;rw[evalPart_some];refine thn (h pI s σ H _ I hw) fun u s1 ⟨x,H1,I1,r1,q1⟩=>?_
 obtain⟨i,rfl,q⟩:=q1;obtain⟨t,rfl⟩:=r1;exact⟨Ab i,H1,I1,.int i t,q⟩
noncomputable def SlR(X:Cx)(r:V->Av Ae->Av Ae->Hp->VK->Prop):Prop:=
 ∀(pI:Pn)(s:Ap)(σ:St)(H:Hp)(x:V)(v vl vu:Ai)(lo hi:Av Ae)(sl:Ak)(Q:VK),Inv X pI σ H s->BZ x v->s.heap.IsSliceOf sl vl vu .none->HC vl lo->HC vu hi->r x lo hi H Q ->
  ∃ T id,Kv (.type T) "__getitem__" = pure (Ab (.builtin id))/\s.TypeIs v T/\AB (model X.prog X.w) X.A (JH v (.ref sl)) (EP X pI σ Q) X.xe s
def tSl(r:V->Av Ae->Av Ae->Hp->VK->Prop)(te:TE)(tl th:TO):TE:=fun σ H Q=>te σ H fun x H1=>tl σ H1 fun l H2=>th σ H2 fun u H3=>r x l u H3 Q
theorem bM{r:V->Av Ae->Av Ae->Hp->VK->Prop}(hr:SlR X r)(he:PE X e te)(hl:PO X lo tl)(hu:PO X hi th):PE X (.Subscript e (.Slice lo hi Af p2) pos) (tSl r te tl th):=by
 intro pI s σ H Q I h;refine Subscript_ (thn (he pI s σ H _ I h) fun v s1 ⟨x,H1,I1,r1,q1⟩=>?_)
 refine wpAny_Slice (thn (hl pI s1 σ H1 _ I1 q1) fun vl s2 ⟨l,H2,I2,pl,q2⟩=>thn (hu pI s2 σ H2 _ I2 q2) fun vu s3 ⟨u,H3,I3,pu,q3⟩=>?_)
 rw[evalPart_none];refine Aw ?_;have I4:Inv X pI σ H3 { s3 with heap:=s3.heap.push { cls:=.type "slice", data:=.fields #[vl,vu,.none] } }:=I3.kept (t':=s3.toks) fun b ob q=>As _ q
 obtain⟨T,id,hT,ht,hg⟩:=hr pI { s3 with heap:=s3.heap.push { cls:=.type "slice", data:=.fields #[vl,vu,.none] } } σ H3 x v vl vu l u s3.heap.objs.size Q I4 r1 (Heap.IsSliceOf.new ..) pl pu q3
 show AB (model X.prog X.w) X.A (subscriptTail e (.Slice lo hi Af p2) v (.ref s3.heap.objs.size)) (EP X pI σ Q) X.xe { s3 with heap:=s3.heap.push { cls:=.type "slice", data:=.fields #[vl,vu,.none] } }
 exact tail_any (ops:=[.ref s3.heap.objs.size,v]) ht hT hg (by with_unfolding_all rfl)
noncomputable def JB(xs:Ac V)(lo hi:Av Ae):Ac V:=(xs.drop (HT.sIx xs.length 0 lo)).take (HT.sIx xs.length xs.length hi-HT.sIx xs.length 0 lo)
theorem RB(xs:Ac V)(lo hi:Av Ae):(JB xs lo hi).length<=xs.length:=by
 unfold JB;rw[Hz,WF];omega
def Q6(K:Fg):V->Av Ae->Av Ae->Hp->VK->Prop:=fun x lo hi H Q=>∃ a xs,x=.ref a/\SqT K H a xs /\
 ¬ (HT.sIx xs.length 0 lo=0/\HT.sIx xs.length xs.length hi=xs.length)/\∀ p,H p=Af->Q (.ref p) (upd H p (.tup (JB xs lo hi)))
theorem oM:SlR X (Q6 X.K):=by
 intro pI s σ H x v vl vu lo hi sl Q I rx hs pl pu h;obtain⟨a,xs,rfl,hx,hw,q⟩:=h;cases rx;obtain⟨its,r,ht,hz⟩:=I.tuple hx;have hlen:its.toArray.size=xs.length:=by rw[AE];exact r.length.symm
 refine⟨"tuple", _,PyProof.Rows.slot_tuple_getitem.lookup,ht.typeIs,?_⟩;refine HT.getItem_tuple_cut ht hs pl pu (by rw[hlen];exact hw) ?_ (by rw[hlen];exact hz)
 rw[hlen];refine⟨.ref s.heap.objs.size,_,I.laid (t':=s.toks) (o:=.tup (JB xs lo hi)) (fun b ob q=>As _ q) (AU _) ?_,rfl,q _ (I.hok.fresh (AU _))⟩
 exact⟨BD (RB xs lo hi) hz,_,(r.drop (HT.sIx xs.length 0 lo)).take (HT.sIx xs.length xs.length hi-HT.sIx xs.length 0 lo),Jj _ _⟩
def vH(K:Fg):R2:=fun x y H Q=>∃ a b xs ys,x=.ref a/\y=.ref b/\SqT K H a xs/\SqT K H b ys/\xs≠[]/\xs.length+ys.length<=sizeLine /\
 (ys=[]->Q (.ref a) H)/\(ys≠[]->∀ p,H p=Af->Q (.ref p) (upd H p (.tup (xs++ys))))
theorem Br.nil_iff(r:Br xs us):us=[]↔xs=[]:=by
 cases r with
 |nil=>simp
 |cons _ _=>simp
theorem gM:OpR X (Cr .Add) (vH X.K):=by
 intro pI s σ H x y v u Q I rx ry h;obtain⟨a,b,xs,ys,rfl,rfl,ha,hb,hx,hz,q1,q2⟩:=h;cases rx;cases ry;obtain⟨its,r1,p1,_⟩:=I.tuple ha;obtain⟨its2,r2,p2,_⟩:=I.tuple hb;refine HT.cat_tup p1 p2 (fun z=>hx (r1.nil_iff.mp z)) (fun z=>⟨.ref a,H,I,rfl,q1 (r2.nil_iff.mp z)⟩) (fun z=>?_) (by rw[<-r1.length,<-r2.length];exact hz)
 refine⟨.ref s.heap.objs.size,_,I.laid (t':=s.toks) (o:=.tup (xs++ys)) (fun b ob q=>As _ q) (AU _) ?_,rfl,q2 (fun w=>z (r2.nil_iff.mpr w)) _ (I.hok.fresh (AU _))⟩
 exact⟨by rw[Cv];exact hz,_,r1.append r2,Jj _ _⟩
end
noncomputable def ixN(n:Ag)(i:Ae):Av Ag:=if 0<=i then (if i<n then Ab i.toNat else Af) else if -(n:Ae)<=i then Ab (i+n).toNat else Af
noncomputable def atI{α:Type}(xs:Ac α)(i:Ae):Av α:=(ixN xs.length i).bind fun j=>xs[j]?
theorem TQ{j:Ag}(h:ixN n i=Ab j):seqIndex? i n=Ab j/\j<n/\-(n:Ae)<=i/\i<n:=by
 unfold ixN at h;by_cases h0:0<=i
 ·rw[Az h0]at h;by_cases h1:i<n
  ·rw[Az h1]at h;have e:i.toNat=j:=BV h;exact⟨by rw[JP h0 h1,e],by omega,by omega,h1⟩
  ·rw[AH h1]at h;cases h
 ·rw[AH h0]at h;by_cases h1:-(n:Ae)<=i
  ·rw[Az h1]at h;have e:(i+n).toNat=j:=BV h;exact⟨by rw[Jt (by omega) h1,e],by omega,h1,by omega⟩
  ·rw[AH h1]at h;cases h
theorem Ue{α:Type}{xs:Ac α}{v:α}(h:atI xs i=Ab v):∃ j,seqIndex? i xs.length=Ab j/\xs[j]?=Ab v/\j<xs.length/\-(xs.length:Ae)<=i/\i<xs.length:=by
 unfold atI at h;cases e:ixN xs.length i with
 |none=>rw[e]at h;cases h
 |some j=>
  rw[e]at h;obtain⟨h1,h2,h3,h4⟩:=TQ e;exact⟨j,h1,h,h2,h3,h4⟩
def Pu(b:At):Prop:=∀ o i,subscripted b Ad o i=operate [o,i] (JH o i)
noncomputable def IxR(X:Cx)(r:R2):Prop:=
 ∀(value slice:At)(pI:Pn)(s:Ap)(σ:St)(H:Hp)(x y:V)(v u:Ai)(Q:VK),Inv X pI σ H s->BZ x v->BZ y u->r x y H Q ->
  subscripted slice Ad v u=operate [v,u] (JH v u)->AB (model X.prog X.w) X.A (subscriptTail value slice v u) (EP X pI σ Q) X.xe s
noncomputable def MtR(X:Cx)(id:DT)(r:V->Ac V->Hp->VK->Prop):Prop:=
 ∀(pI:Pn)(s:Ap)(σ:St)(H:Hp)(x:V)(xs:Ac V)(v:Ai)(us:Ac Ai)(Q:VK),Inv X pI σ H s->BZ x v->Br xs us->r x xs H Q ->
  AB (model X.prog X.w) X.A (call (.builtin id) (v::us)) (EP X pI σ Q) X.xe s
section
variable{X:Cx}{a b:At}{ta tb:TE}{pos:Bk}
theorem IxR.or{r r':R2}(h:IxR X r)(h':IxR X r'):IxR X (fun x y H Q=>r x y H Q\/r' x y H Q):=by
 intro value slice pI s σ H x y v u Q I rx ry q hs;rcases q with q|q
 ·exact h value slice pI s σ H x y v u Q I rx ry q hs
 ·exact h' value slice pI s σ H x y v u Q I rx ry q hs
theorem vX{r:R2}(hr:IxR X r)(ha:PE X a ta)(hb:PE X b tb)(hs:Pu b):PE X (.Subscript a b pos) (tOp r ta tb):=by
 intro pI s σ H Q I h;exact Subscript_ (QT ha hb I h fun v u s2 x y H2 I2 rx ry q=>hr a b pI s2 σ H2 x y v u Q I2 rx ry q (hs _ _))
def Q9(K:Fg):R2:=fun x y H Q=>∃ p xs i v,x=.ref p/\y=.int i/\SqL K H p xs/\atI xs i=Ab v/\Q v H
def Q8(K:Fg):R2:=fun x y H Q=>∃ p xs i v,x=.ref p/\y=.int i/\SqT K H p xs/\atI xs i=Ab v/\Q v H
theorem kC:IxR X (Q9 X.K):=by
 intro value slice pI s σ H x y v u Q I rx ry h hs;obtain⟨p,xs,i,z,rfl,rfl,hq,he,q⟩:=h;cases rx;obtain⟨t,rfl⟩:=ry;obtain⟨its,r,pl,hz⟩:=I.list hq;obtain⟨j,h1,h2,h3,h4,h5⟩:=Ue he;obtain⟨w,ew,rw'⟩:=r.get h2;have hl:=r.length;have hn:=KU;have fin:EP X pI σ Q w s:=⟨z,H,I,rw',q⟩;by_cases h0:0<=i
 ·have hj:i.toNat=j:=by
   rw[JP h0 h5]at h1;exact BV h1
  exact item_listR pl.isList h0 (by omega) (by rw[hj];simpa using ew) fin hs
 ·have hj:(i+(its.toArray.size:Ae)).toNat=j:=by
   rw[Jt (by omega) h4]at h1
   rw[AE,<-hl];exact BV h1
  exact Xa (x:=w) pl.isList.typeIs X7.lookup
   (wpAny_getItem_list_neg (Q:=fun r s'=>r=w/\EP X pI σ Q r s') pl.isList (by omega) (by rw[AE]<;>omega) (by omega) (by rw[hj];simpa using ew) ⟨rfl,fin⟩) hs
theorem oW:IxR X (Q8 X.K):=by
 intro value slice pI s σ H x y v u Q I rx ry h hs;obtain⟨p,xs,i,z,rfl,rfl,hq,he,q⟩:=h;cases rx;obtain⟨t,rfl⟩:=ry;obtain⟨its,r,pl,hz⟩:=I.tuple hq;obtain⟨j,h1,h2,h3,h4,h5⟩:=Ue he;obtain⟨w,ew,rw'⟩:=r.get h2;have hl:=r.length;have hn:=KU;have fin:EP X pI σ Q w s:=⟨z,H,I,rw',q⟩;exact Xa (x:=w) pl.typeIs slot_tuple_getitem.lookup
  (getItem_tuple (j:=j) (Q:=fun r s'=>r=w/\EP X pI σ Q r s') pl (by omega) (by omega) (by rw[AE,<-hl];exact h1) (by simpa using ew) ⟨rfl,fin⟩) hs
theorem ZJ(its:Ac Ai)(n j:Ag)(u:Ai):By (·.setIfInBounds j u) { cls:=.type "list", data:=.seq its.toArray n }={ cls:=.type "list", data:=.seq (its.set j u).toArray n }:=by
 simp[By]
theorem Inv.lst(I:Inv X pI σ H s)(h:H p=Ab (.lst xs)):
  ∃(its:Ac Ai)(n:Ag),Br xs its/\s.heap.get? p=Ab { cls:=.type "list", data:=.seq its.toArray n }/\xs.length<=sizeLine:=by
 obtain⟨z,its,n,r,e⟩:=I.hok p _ h;exact⟨its,n,r,e,z⟩
theorem Inv.lstUpd{ys:Ac V}{n':Ag}{f:DB->DB}(I:Inv X pI σ H s)(h:H p=Ab (.lst xs))(ho:s.heap.get? p=Ab { cls:=.type "list", data:=.seq its.toArray n })(hf:f { cls:=.type "list", data:=.seq its.toArray n }={ cls:=.type "list", data:=.seq its'.toArray n' })(r:Br ys its')(hz:ys.length<=sizeLine)(t:Ag):Inv X pI σ (upd H p (.lst ys)) {s with heap:=s.heap.update p f,toks:=t}:=by
 have e:(s.heap.update p f).get? p=Ab { cls:=.type "list", data:=.seq its'.toArray n' }:=by
  rw[Dv f ho (by rw[hf]<;>rfl),hf]
 refine I.write (x:=p) (e:=p) (by rw[h];trivial) (.inl rfl) (fun b u hb q=>(Dm _ _ (DK hb)).trans q) ⟨_,e⟩ ?_
 exact⟨hz,its',n',r,e⟩
def vF:V->V->V->Hp->(Hp->Prop)->Prop:=fun o i v H Q=>∃ p xs k j,o=.ref p/\i=.int k/\H p=Ab (.lst xs)/\ixN xs.length k=Ab j/\Q (upd H p (.lst (xs.set j v)))
theorem cQ:QV X vF:=by
 intro pI s σ H o i v ov iv u Q I ro ri rv h;obtain⟨p,xs,k,j,rfl,rfl,hp,hj,q⟩:=h;cases ro;obtain⟨t,rfl⟩:=ri;obtain⟨its,n,r,ho,hz⟩:=I.lst hp;obtain⟨h1,h2,h3,h4⟩:=TQ hj;have hl:=r.length;have hn:=KU;have I':Inv X pI σ (upd H p (.lst (xs.set j v))) {s with heap:=s.heap.update p (By (·.setIfInBounds j u))}:=
  I.lstUpd hp ho (ZJ its n j u) (r.set rv j) (by rw[Bq];exact hz) s.toks
 by_cases h0:0<=k
 ·have hk:k.toNat=j:=by
   rw[JP h0 h4]at h1;exact BV h1
  exact PySem.W.ki_setAt ho h0 (by omega) (by rw[AE,<-hl];exact h4) (by rw[hk];exact⟨_,I',q⟩)
 ·have hk:(k+(its.toArray.size:Ae)).toNat=j:=by
   rw[Jt (by omega) h3]at h1
   rw[AE,<-hl];exact BV h1
  exact PySem.W.ki_setBack ho (by omega) (by rw[AE,<-hl];exact h3) (by omega) (by rw[hk];exact⟨_,I',q⟩)
theorem Y8(lo hi:Av Ae)(n:Ag):(Fh lo hi Af n).1=((HT.sIx n 0 lo:Ag):Ae)/\(Fh lo hi Af n).2.1=((HT.sIx n n hi:Ag):Ae)/\(Fh lo hi Af n).2.2=1:=by
 refine⟨?_,?_,rfl⟩
 ·cases lo with
  |none=>simp[Fh,HT.sIx]
  |some i=>
   simp only[Fh,HT.sIx,W3,show (1:Ae) > 0 by decide,IC]
   by_cases h:i<0
   ·simp only[h,IC]<;>omega
   ·simp only[h,GZ]<;>omega
 ·cases hi with
  |none=>simp[Fh,HT.sIx]
  |some i=>
   simp only[Fh,HT.sIx,W3,show (1:Ae) > 0 by decide,IC]
   by_cases h:i<0
   ·simp only[h,IC]<;>omega
   ·simp only[h,GZ]<;>omega
theorem Zb(its:Ac Ai)(lo hi:Av Ae):slicePick its.toArray lo hi Af=((its.drop (HT.sIx its.length 0 lo)).take (HT.sIx its.length its.length hi-HT.sIx its.length 0 lo)).toArray:=by
 obtain⟨h1,h2,h3⟩:=Y8 lo hi its.toArray.size;unfold slicePick;rw[h1,h2,h3];simp only[sliceRange_one,pick_run,AE]<;>rfl
def Q7(K:Fg):V->Av Ae->Av Ae->Hp->VK->Prop:=fun x lo hi H Q=>∃ a xs,x=.ref a/\SqL K H a xs/\∀ p,H p=Af->Q (.ref p) (upd H p (.lst (JB xs lo hi)))
theorem eU:SlR X (Q7 X.K):=by
 intro pI s σ H x v vl vu lo hi sl Q I rx hs pl pu h;obtain⟨a,xs,rfl,hx,q⟩:=h;cases rx;obtain⟨its,r,ht,hz⟩:=I.list hx;have hlen:=r.length;refine⟨"list", _,X7.lookup,ht.isList.typeIs,?_⟩;refine wpAny_getItem_list_slice ht.isList hs pl pu .none (by simp) ?_ (by rw[AE]<;>omega)
 rw[Zb,<-hlen];refine⟨.ref s.heap.objs.size,_,I.laid (t':=s.toks) (o:=.lst (JB xs lo hi)) (fun b ob q=>As _ q) (AU _) ?_,rfl,q _ (I.hok.fresh (AU _))⟩
 exact⟨BD (RB xs lo hi) hz,_,0,(r.drop (HT.sIx xs.length 0 lo)).take (HT.sIx xs.length xs.length hi-HT.sIx xs.length 0 lo),AC _ rfl⟩
theorem Rv:HN X (.builtin "len") (fun xs H Q=>∃ p ys,xs=[.ref p]/\(SqL X.K H p ys\/SqT X.K H p ys)/\Q (.int ys.length) H):=by
 intro pI s σ H xs us Q I r h;obtain⟨p,ys,rfl,hq,q⟩:=h;obtain⟨u,rfl,rx⟩:=HP r;cases rx;have hn:=KU;rcases hq with hq|hq
 ·obtain⟨its,r',pl,hz⟩:=I.list hq;have hlen:=r'.length;exact Calls.call_len_list pl.isList (by simp only[AE]<;>omega) ⟨.int ys.length,H,I.tok _,⟨s.toks+1,by rw[AE,hlen]⟩,q⟩
 ·obtain⟨its,r',pl,hz⟩:=I.tuple hq;have hlen:=r'.length;exact len_tuple pl (by simp only[AE]<;>omega) ⟨.int ys.length,H,I.tok _,⟨s.toks+1,by rw[AE,hlen]⟩,q⟩
theorem Zh:HN X (.builtin "len") (fun xs H Q=>∃ z,xs=[.str z]/\z.length<=sizeLine/\Q (.int z.length) H):=by
 intro pI s σ H xs us Q I r h;obtain⟨z,rfl,hz,q⟩:=h;obtain⟨u,rfl,t,rfl⟩:=HP r;have hn:=KU;exact len_str (by omega) ⟨.int z.length,H,I.tok _,⟨_,rfl⟩,q⟩
theorem Ru:HN X (.type "list") (fun xs H Q=>∃ p ys,xs=[.ref p]/\(SqL X.K H p ys\/SqT X.K H p ys)/\∀ l,H l=Af->Q (.ref l) (upd H l (.lst ys))):=by
 intro pI s σ H xs us Q I r h;obtain⟨p,ys,rfl,hq,q⟩:=h;obtain⟨u,rfl,rx⟩:=HP r;cases rx;have fin:∀(its:Ac Ai),Br ys its->ys.length<=sizeLine->∀(h':AS)(c':Ag),(∀ b o',s.heap.get? b=Ab o'->h'.get? b=Ab o') ->
   h'.get? s.heap.objs.size=Ab { cls:=.type "list", dict:=Af,data:=.seq its.toArray c',slots:=#[] }->EP X pI σ Q (.ref s.heap.objs.size) {s with heap:=h'}:=fun its r' hz h' c' kp e=>
  ⟨.ref s.heap.objs.size,_,I.laid (t':=s.toks) kp (AU _) (show ObjOk X.prog X.w _ h' _ (.lst ys) from ⟨hz,its,c',r',e⟩),rfl,q _ (I.hok.fresh (AU _))⟩
 rcases hq with hq|hq
 ·obtain⟨its,r',pl,hz⟩:=I.list hq;have hlen:=r'.length;obtain⟨o,ho,hc,n,hd⟩:=pl.isList;exact call_list_seq p (.inl rfl) ho hc hd (fun h' c' kp e=>fin its r' hz h' c' kp e) (by simp only[AE]<;>omega)
 ·obtain⟨its,r',pl,hz⟩:=I.tuple hq;have hlen:=r'.length;obtain⟨o,ho,hc,n,hd⟩:=pl;exact call_list_seq p (.inr rfl) ho hc hd (fun h' c' kp e=>fin its r' hz h' c' kp e) (by simp only[AE]<;>omega)
theorem Rx:HN X (.type "tuple") (fun xs H Q=>∃ p ys,xs=[.ref p]/\((SqL X.K H p ys/\∀ l,H l=Af->Q (.ref l) (upd H l (.tup ys)))\/(SqT X.K H p ys/\Q (.ref p) H))):=by
 intro pI s σ H xs us Q I r h;obtain⟨p,ys,rfl,h⟩:=h;obtain⟨u,rfl,rx⟩:=HP r;cases rx;rcases h with ⟨hq,q⟩|⟨hq,q⟩
 ·obtain⟨its,r',pl,hz⟩:=I.list hq;have hlen:=r'.length;refine call_tuple_list pl.isList (fun h' kp=>?_) (by simp only[AE]<;>omega)
  have I1:Inv X pI σ H {s with heap:=h'}:=I.kept (t':=s.toks) kp
  have I2:Inv X pI σ (upd H h'.objs.size (.tup ys)) { s with heap:=h'.push { cls:=.type "tuple", data:=.seq its.toArray } }:=
   I1.laid (t':=s.toks) (fun b o e=>As _ e) (AU _) (show ObjOk X.prog X.w _ _ _ (.tup ys) from ⟨hz,its,r',Jj _ _⟩)
  exact⟨.ref h'.objs.size,_,I2,rfl,q _ (I1.hok.fresh (AU _))⟩
 ·obtain⟨its,r',pl,hz⟩:=I.tuple hq;exact call_tuple_same pl ⟨.ref p,H,I,rfl,q⟩
def tyV(K:Fg)(T:DT)(x:V)(H:Hp):Prop:=match x with
  |.str _=>T = "str"
  |.int _=>T = "int"
  |.ref p=>(T = "list"/\∃ xs,SqL K H p xs)\/(T = "tuple"/\∃ o,K.lookup p=Ab o/\o.cls=.type "tuple"/\o.dict=Af) \/
      (T = "dict"/\((∃ kvs,H p=Ab (.dK kvs))\/∃ kvs,H p=Ab (.dT kvs)))\/(T = "set"/\∃ S n,H p=Ab (.set S n))
  |_=>BK
theorem lI{T:DT}{x:V}{v:Ai}(I:Inv X pI σ H s)(r:BZ x v)(ty:tyV X.K T x H):s.TypeIs v T/\∀ a,v=.ref a->∃ ob,s.heap.get? a=Ab ob/\ob.dict=Af:=by
 cases x with
 |str z=>
  obtain⟨t,rfl⟩:=r;cases (show T = "str" from ty)
  exact⟨typeIs_str s z t,fun _ e=>nomatch e⟩
 |int i=>
  obtain⟨t,rfl⟩:=r;cases (show T = "int" from ty)
  exact⟨Ku s i t,fun _ e=>nomatch e⟩
 |ref p=>
  cases r;rcases ty with ⟨rfl,xs,hq⟩|⟨rfl,o,hk,hc,hd⟩|⟨rfl,hk⟩|⟨rfl,S,n,hk⟩
  ·obtain⟨its,_,pl,_⟩:=I.list hq;refine⟨pl.isList.typeIs,fun a e=>?_⟩
   cases e;obtain⟨o,n,e,c,hd,_⟩:=pl;exact⟨o,e,hd⟩
  ·refine⟨⟨o,I.kIn p o hk,hc⟩,fun a e=>?_⟩
   cases e;exact⟨o,I.kIn _ o hk,hd⟩
  ·have z:∃ o,s.heap.get? p=Ab o/\o.ExactDict:=by
    rcases hk with ⟨kvs,hk⟩|⟨kvs,hk⟩
    ·obtain⟨_,_,_,_,o,_,_,e,ex,_⟩:=I.hok p _ hk;exact⟨o,e,ex⟩
    ·obtain⟨_,_,_,_,o,_,_,e,ex,_⟩:=I.hok p _ hk;exact⟨o,e,ex⟩
   obtain⟨o,e,ex⟩:=z;refine⟨⟨o,e,ex.1⟩,fun a e2=>?_⟩
   cases e2;exact⟨o,e,ex.2.1⟩
  ·obtain⟨o,_,_,_,e,ex,_⟩:=I.hok p _ hk;refine⟨⟨o,e,ex.1⟩,fun a e2=>?_⟩
   cases e2;exact⟨o,e,ex.2.1⟩
 |_=>exact Ec ty
def tBM(K:Fg)(T:DT)(r:V->Ac V->Hp->VK->Prop)(to:TE)(t:TA):TE:=fun σ H Q=>to σ H fun x H1=>tyV K T x H1/\t σ H1 fun xs H2=>r x xs H2 Q
variable{o e:At}{es:Ac At}{to:TE}{t:TA}{name:Al}{apos cpos:Bk}{T id:DT}{r:V->Ac V->Hp->VK->Prop}
theorem Qq(pa:PlainAttrs T)(slot:Slot T name id)(hty:typeOf (.builtin id)=pure (.type "method_descriptor"))(hm:MtR X id r)(ho:PE X o to)(ha:PA X (e::es) t)(hbase:G6 o name X.env (eval o X.env)=eval o X.env:=by rfl)(hfew:((CU cpos (AM (e::es) X.env)).all (fun x=>!x.1)&&(JQ cpos (Ie [] X.env)).all (fun x=>x.1.isSome)
   && decide ((e::es).length+([]:Ac Fe).length+(if ([]:Ac Fe).isEmpty then 0 else 1)<30))=Aa:=by rfl)(hline:(apos.endLine==cpos.line)=Aa:=by rfl)(hs:AM (e::es) X.env=(Ad,eval e X.env)::AM es X.env:=by rfl)(hplain:(CU cpos (AM es X.env)).any (·.1)=Ad:=by rfl):PE X (.Call (.Attribute o name apos) (e::es) [] cpos) (tBM X.K T r to t):=by
 intro pI s σ H Q I h;refine wpAny_Call_method_late hbase hfew hline rfl (thn (ho pI s σ H _ I h) fun v s1 ⟨x,H1,I1,r1,ty,q1⟩=>?_)
 obtain⟨h1,h2⟩:=lI I1 r1 ty;refine⟨T,id,pa,slot,hty,h1,h2,?_⟩;have hA:=ha cpos pI s1 σ H1 _ I1 q1;rw[hs]at hA ⊢;refine Calls.callWith_builtin (by show (Ad||(CU cpos (AM es X.env)).any (·.1))=Ad;rw[hplain]<;>rfl) (Calls.evalArgs_plain ?_)
 exact thn hA fun us s2 ⟨vs,H2,I2,r2,q2⟩=>hm pI s2 σ H2 x vs v us Q I2 r1 r2 q2
/- xs.append(e),list.index on a module's tuple .. are MtR facts of 06m -/
end
noncomputable def MtM(X:Cx)(id:DT)(r:V->Ac V->Hp->VK->Prop):Prop:=
 ∀(pI:Pn)(s:Ap)(σ:St)(H:Hp)(x:V)(xs:Ac V)(v:Ai)(us:Ac Ai)(Q:VK),Inv X pI σ H s->BZ x v->Br xs us->r x xs H Q ->
  AB (model X.prog X.w) X.A (call (.builtin id) (v::us)) (EP X pI σ Q) X.xe s
theorem Br.one:∀{x:V}{us:Ac Ai},Br [x] us->∃ u,us=[u]/\BZ x u
 |_,_,.cons r .nil=>⟨_,rfl,r⟩
theorem Br.zero:∀{us:Ac Ai},Br [] us->us=[]
 |_,.nil=>rfl
theorem Br.reverse(h:Br xs us):Br xs.reverse us.reverse:=by
 induction h with
 |nil=>exact .nil
 |cons r t ih=>rw[WT,WT];exact Br.append ih (.cons r .nil)
section
variable{X:Cx}{pI:Pn}{σ:St}{H:Hp}{s:Ap}{l b:Ak}{xs ys zs:Ac V}
theorem Inv.lset{f:AQ Ai->AQ Ai}(I:Inv X pI σ H s)(hH:H l=Ab (.lst xs))(e:s.heap.get? l=Ab { cls:=.type "list", data:=.seq its.toArray n })(hf:f its.toArray=its'.toArray)(hv:Br ys its')(hz:ys.length<=sizeLine):Inv X pI σ (upd H l (.lst ys)) {s with heap:=s.heap.update l (By f),toks:=t'}:=by
 have q:=PySem.IsL.update e f;rw[hf]at q;refine I.write (x:=l) (e:=l) (by rw[hH];exact trivial) (.inl rfl) (fun b' u hb hu=>(Dm s.heap (By f) (DK hb)).trans hu) ⟨_,q⟩ ?_
 exact⟨hz,its',_,hv,q⟩
theorem Inv.lnew(I:Inv X pI σ H s)(hv:Br ys its)(hz:ys.length<=sizeLine):
  Inv X pI σ (upd H s.heap.objs.size (.lst ys)) { s with heap:=s.heap.push { cls:=.type "list", data:=.seq its.toArray },toks:=t' }:=
 I.laid (fun _ _ q=>As _ q) (AU _) ⟨hz,its,0,hv,AC _ rfl⟩
theorem Inv.fresh(I:Inv X pI σ H s):H s.heap.objs.size=Af:=I.hok.fresh (AU _)
theorem Inv.lstM(I:Inv X pI σ H s)(hH:H l=Ab (.lst xs)):xs.length<=sizeLine/\∃(its:Ac Ai)(n:Ag),Br xs its/\xs.length=its.length/\s.heap.get? l=Ab { cls:=.type "list", data:=.seq its.toArray n }:=by
 obtain⟨z,its,n,r,e⟩:=I.hok l _ hH;exact⟨z,its,n,r,r.length,e⟩
theorem SX(h:n<=sizeLine):DA n=Ad:=by
 unfold DA;exact CD (by omega)
end
section
variable{X:Cx}
def iK:V->Ac V->Hp->VK->Prop:=fun x vs H Q=>∃ l xs y,x=.ref l/\vs=[y]/\H l=Ab (.lst xs)/\xs.length<sizeLine/\Q .non (upd H l (.lst (xs++[y])))
theorem ZV:MtM X "list.append" iK:=by
 intro pI s σ H x vs v us Q I rx rv h;obtain⟨l,xs,y,rfl,rfl,hH,hz,q⟩:=h;cases rx;obtain⟨u,rfl,ru⟩:=rv.one;obtain⟨z,its,n,r,hl,e⟩:=I.lstM hH;refine Kq F.slot_list_append ⟨_,e,rfl⟩ F.entry_list_append (F.args_list_append_2 _ _) (PySem.list_append l its.toArray n u (by rw[AE];omega)) ⟨e,?_⟩
 refine⟨.non,_,I.lset (its':=its++[u]) hH e (by simp) (r.append (.cons ru .nil)) ?_,rfl,q⟩
 rw[Cv,WH];omega
def iJ:V->Ac V->Hp->VK->Prop:=fun x vs H Q=>∃ l b xs zs,x=.ref l/\vs=[.ref b]/\H l=Ab (.lst xs)/\H b=Ab (.lst zs)/\xs.length+zs.length<=sizeLine/\Q .non (upd H l (.lst (xs++zs)))
theorem ZU:MtM X "list.extend" iJ:=by
 intro pI s σ H x vs v us Q I rx rv h;obtain⟨l,b,xs,zs,rfl,rfl,hH,hB,hz,q⟩:=h;cases rx;obtain⟨u,rfl,ru⟩:=rv.one;cases ru;obtain⟨z,its,n,r,hl,e⟩:=I.lstM hH;obtain⟨z2,its2,n2,r2,hl2,e2⟩:=I.lstM hB;have hsz:its.toArray.size+its2.toArray.size<=sizeLine:=by rw[AE,AE];omega
 have hlong:¬ (!its.toArray.isEmpty&&DA (its.toArray.size+its2.toArray.size))=Aa:=by
  rw[SX hsz,FP];exact AJ
 refine Kq EZ ⟨_,e,rfl⟩ Xo (Xi _ _)
  (AutoSeq1.list_extend_list_list_0 l its.toArray n b its2.toArray n2 hlong (by rw[AE];omega) (by omega)) ⟨e,e2,?_⟩
 refine⟨.non,_,I.lset (its':=its++its2) hH e (by simp) (r.append r2) ?_,rfl,q⟩
 rw[Cv];omega
end
section
variable{prog:A8}{w:AN}{A:Bu}{E:Vq}{s:Ap}
set_option maxRecDepth 100000 in
end
section
variable{X:Cx}
end
end L2
namespace Att
open PySem PySem.W PySem.Calls PyProof.Rows
variable{P:Lo}{h:AS}{l:FZ}{n:Ag}
theorem Y7:∀(ns:Ac Ae)(vs:Ac Ai),WellAll P h vs (ns.map XM)->C7 vs ns:=by
 intro ns
 induction ns with
 |nil=>
  intro vs w;rw[FC]at w;cases w;exact .nil
 |cons n ns ih=>
  intro vs w;rw[BQ]at w;cases w with
  |cons a b=>
   cases a;exact .cons _ _ (ih _ b)
theorem Zl(hn:l.most=Ab n){args:Ac WData}{vals:Ac Ai}(hpre:l.row.toRowW.claim.pre args=Aa)(hwl:WellAll P h vals args):
  ∃ a vs ns,vals=[DR a]/\args=[WData.list (ns.map XM)]/\h.get? a=Ab { cls:=.type "list", data:=.seq vs.toArray }/\C7 vs ns/\ns.length<=n:=by
 have hsh:WShape.hasAll [] args [.list .int]=Aa:=(pre_splitW hpre).1;have hc:l.pre.holds [] {args:=args}=Aa:=(pre_splitW hpre).2;obtain⟨d,r,rfl,h1,h2⟩:=hasAllW_cons hsh;obtain rfl:=hasAllW_nil h2;obtain⟨xs,rfl,h3⟩:=hasW_list h1;obtain⟨ns,rfl⟩:=items_int h3;have hlen:ns.length<=n:=by
  unfold OpenLaw.pre at hc;have h4:(WTm.not (.lt (.lit (.int (n:Ae))) (.len (.arg 0)))).holds [] {args:=[.list (ns.map .int)]}=Aa:=by
   have h4:=(holds_andW hc).1;rw[hn]at h4;exact h4
  have h5:=condW_of h4 (w_not (w_lt w_lit (w_len_list (w_arg rfl))));rw[Bp]at h5;refine Nat.le_of_not_lt fun q=>?_
  have q':(n:Ae)<((ns.length:Ag):Ae):=by omega
  first
   |(rw[E3 q']at h5;exact absurd h5 (by decide))
   |(simp at h5;omega)
 cases hwl with
 |cons w1 w2=>
  cases w2;cases w1 with
  |list ho hall=>exact⟨_,_,ns,rfl,rfl,ho,Y7 ns _ hall,hlen⟩
theorem Z7(l:FZ)(args:Ac WData):l.row.toRowW.claim.post args (.bool Aa) args=Aa:=
 postW_of (r:=l.row.toRowW) (X:=(Aa==Aa))
  (show XN [] (.bool Aa) .bool=Aa by first|rfl|decide|simp[XN,WShape.arms,WShape.armsAll])
  (show (WTm.eq .res (.lit (.bool Aa))).value [] {args:=args,res:=Ab (.bool Aa),after:=args}=Ab (.bool (Aa==Aa)) from w_eq_bool (w_res rfl) w_lit) rfl
theorem attach_call{q:A8}{loose:Ac Al}{XP:(Al->Av Ai)->AS->Prop}{YP:AN->AS->Prop}{d:DefRec}(hn:l.most=Ab n)(hdf:d.params.defaults=[])(call:∀(w:AN)(s₀ s₁:Ap)(mg mb:Al->Av Ai)(fa:Ak)(o:DB)(pm cd doc:Ai)(a:Ak)(vs:Ac Ai)(ns:Ac Ae),
   Ground q loose [] XP w s₀ mg mb s₁.heap->YP w s₁.heap ->
   s₁.heap.get? fa=Ab o->o.data=.func (docDef d.name d.params d.body d.scope pm cd doc)->s₁.heap.CodeRec cd d.name->mg d.name=Ab (.ref fa) ->
   s₁.heap.get? a=Ab { cls:=.type "list", data:=.seq vs.toArray }->C7 vs ns->ns.length<=n->s₁.gens=#[] ->
   FR (model l.prog w) Hs (.call (.ref fa) ⟨[.ref a],[]⟩) (fun r s'=>r=.ok (.ret (.bool Aa))/\OldK s₁.heap s'.heap/\s'.os=s₁.os/\FQ s'.gens) s₁):WalkO q loose XP YP l.row.toRowW d [] (fun f vs=>Ko f vs):=by
 intro w s₀ s₁ mg mb G Y fa o pm cd doc dV kV ho hd hcd hD hmg hg args vals as hpre hlay hrd hwl hlo;obtain rfl:dV=.none:=Dflts.none hD hdf;obtain rfl:kV=.none:=Dflts.noKw hD;obtain⟨a,vs,ns,rfl,rfl,hobj,hints,hlen⟩:=Zl hn hpre hwl;refine enter_call (Jp (call w s₀ s₁ mg mb fa o pm cd doc a vs ns G Y ho (fd_plain hd) hcd hmg hobj hints hlen hg) fun r s' hq=>?_)
 obtain⟨rfl,h2,h3,h4⟩:=hq;exact⟨.inl ⟨.bool Aa,.bool Aa,[],rfl,fun _=>rfl,.bool Aa,Z7 l _,fun _=>⟨List.Pairwise.nil,fun _ hm=>(nomatch hm)⟩⟩,h2,h3,h4⟩
section
variable{prog:A8}{w:AN}{A:Bu}{E:Vq}{s:Ap}{K:Frag}
end
end Att
namespace L2
open PySem PySem.Spec PyProof.Rows
variable{k:Ag}{x:Al}
theorem RP:∀{vs:Ac Ai}{ns:Ac Ae},C7 vs ns->Br (ns.map V.int) vs
 |_,_,.nil=>.nil
 |_,_,.cons n t h=>.cons ⟨t,rfl⟩ (RP h)
def QQ(H:Hp):Prop:=∀ b,H b=Af\/∃ o xs,H b=Ab (.frz o (.lst xs))
theorem bT{P:A8}{w:AN}{K:Fg}{mg mb:Al->Av Ai}{CX:CXT}{fa a:Ak}{fd:CO}{sp:Sp}{s₁:Ap}{vs:Ac Ai}{ns:Ac Ae}(KX:K.In s₁.heap)(hns:s₁.heap.Ns Bj mg)(hb:s₁.heap.Ns II mb)(hbb:∀ x:Al,x≠"__name__"->mb x=Db x)(hlim:s₁.heap.NoLimit)(hg:s₁.gens=#[])(ha:s₁.heap.get? a=Ab { cls:=.type "list", data:=.seq vs.toArray })(hi:C7 vs ns)(hl:ns.length<=sizeLine)(hr:Room k Hs)(F:∀ base:AS,K.In base->base.Ns Bj mg->FnOk P w K mg base CX k fa fd [x] sp)(hbind:∀(s:Ap)(u:Ai),Hr s fd ⟨[u],[]⟩ [(x,u)])(hsp:∀ H:Hp,QQ H->SqL K H a (ns.map V.int)->sp [.ref a] H (fun v _=>v=.bl Aa) fun _ _ _=>BK)(hCX:∀ H e s',CX [] H s₁ (fun _ _ _=>BK) e s'->BK):FR (model P w) Hs (.call (.ref fa) ⟨[.ref a],[]⟩) (fun r s'=>r=.ok (.ret (.bool Aa))/\OldK s₁.heap s'.heap/\s'.os=s₁.os/\FQ s'.gens) s₁:=by
 have rv:=RP hi;have lenV:=hi.length
 -- from an abstract heap in which nothing but the script may be tracked
 have core:∀ H:Hp,QQ H->SqL K H a (ns.map V.int)->HOk P w H s₁.heap->(∀ b,H b≠Af->b=a)->(H a≠Af->K.lookup a=Af) ->
   FR (model P w) Hs (.call (.ref fa) ⟨[.ref a],[]⟩) (fun r s'=>r=.ok (.ret (.bool Aa))/\OldK s₁.heap s'.heap/\s'.os=s₁.os/\FQ s'.gens) s₁:=by
  intro H hO hS hok hA hK;have base_of:∀{b:Ak}{o:DB},s₁.heap.get? b=Ab o->H b=Af->(Ja s₁.heap H).get? b=Ab o:=fun e n=>bV e n
  have noA:∀{b:Ak}{o:DB}{es:AQ DictEntry}{ep:Ag},s₁.heap.get? b=Ab o->o.data=.dict es ep->H b=Af:=fun {b o es ep} e d=>by
   cases q:H b with
   |none=>rfl
   |some u=>
    have e':b=a:=hA b (by rw[q];simp)
    subst e';rw[ha]at e;cases e;have d':Lk vs.toArray _=Data.dict es ep:=d;cases d'
  have nsK:∀{b:Ak}{m:Al->Av Ai},s₁.heap.Ns b m->(Ja s₁.heap H).Ns b m:=fun {b m} ⟨o,es,ep,e,d,r⟩=>⟨o,es,ep,base_of e (noA e d),d,r⟩
  have hKb:K.In (Ja s₁.heap H):=fun b o e=>base_of (KX b o e) (by
   cases q:H b with
   |none=>rfl
   |some u=>
    have e':b=a:=hA b (by rw[q];simp)
    subst e';rw[hK (by rw[q];simp)]at e;cases e)
  have hM:Mod K mg (Ja s₁.heap H):=⟨hKb,nsK hns,⟨mb,nsK hb,hbb⟩,let ⟨mc,h1,h2⟩:=hlim;⟨mc,nsK h1,h2⟩⟩
  have e0:Env0 P w K mg (Ja s₁.heap H) Hs [] s₁ H:=⟨rfl,hM,fun b o e=>gN e,HA (Z1 _ _),trivial,fun b hb=>absurd (show b∈([]:Ac Ak) from hb) (by simp),hok,.of_eq hg⟩
  refine Jp ((F _ hKb (nsK hns)).run Hs [] s₁ H ⟨[.ref a],[]⟩ [.ref a] [.ref a] _ _ hr e0 (hbind s₁ (.ref a)) (.cons rfl .nil) (hsp H hO hS)) fun r s' h=>?_
  cases r with
  |error e=>exact(hCX H e s' h).elim
  |ok fl=>
   cases fl with
   |next=>exact Ec h
   |brk=>exact Ec h
   |cont=>exact Ec h
   |ret u=>
    obtain⟨v,H',os,bare,un,hok',r',q⟩:=h;have q':v=.bl Aa:=q;subst q';obtain rfl:u=XI Aa:=r';refine⟨rfl,OldK.of_keep fun b o e=>?_,os,bare⟩
    cases q:H b with
    |none=>exact un.keep b o e q (by intro z;exact absurd (show b∈([]:Ac Ak) from z) (by simp)) (by simp)
    |some u=>
     rcases hO b with z|⟨ob,xs,z⟩
     ·rw[q]at z;cases z
     ·have z2:=un.frzs b ob _ z;obtain⟨e1,_⟩:=hok b _ z;obtain⟨e2,_⟩:=hok' b _ z2;rw[e]at e1;cases e1;exact e2
 cases hk:K.lookup a with
 |some o=>
  -- the script is one of the module's own objects
  have e:=KX a o hk;rw[ha]at e;cases e;refine core (fun _=>Af) (fun _=>.inl rfl) (.inr ⟨_,vs.toArray,_,hk,rfl,rfl,rfl,by rw[AE,lenV];exact hl,by simpa using rv⟩) (fun b u z=>by have z':(Af:Av HO)=Ab u:=z;cases z') (fun b z=>absurd rfl z) fun z=>absurd rfl z
 |none=>
  refine core (fun b=>if b=a then Ab (.frz { cls:=.type "list", data:=.seq vs.toArray } (.lst (ns.map V.int))) else Af) (fun b=>?_) (.inl (.inr ⟨{ cls:=.type "list", data:=.seq vs.toArray },Az rfl⟩)) (fun b u z=>?_) (fun b z=>?_) fun _=>hk
  ·by_cases hb:b=a
   ·exact .inr ⟨_,_,Az hb⟩
   ·exact .inl (AH hb)
  ·by_cases hb:b=a
   ·have z':=(Az hb).symm.trans z;cases z';subst hb;exact⟨ha,by rw[Bp];exact hl,vs,_,rv,ha⟩
   ·have z':=(AH hb).symm.trans z;cases z'
  ·by_cases hb:b=a
   ·exact hb
   ·exact absurd (AH hb) z
noncomputable abbrev KOf{K:Fg}{h:AS}(_:K.In h):Fg:=K
theorem walk_of{l:FZ}{n:Ag}{q:A8}{loose:Ac Al}{XP:(Al->Av Ai)->AS->Prop}{YP:AN->AS->Prop}{d:DefRec}{K:Lo->Fg}{CX:AN->CXT}{sp:AN->Sp}(hn:l.most=Ab n)(hn2:n<=sizeLine)(hdf:d.params.defaults=[])(hr:Room k Hs)(hY:∀(w:AN)(h:AS),YP w h->(K w.params).In h)(F:∀(w:AN)(mg:Al->Av Ai)(fa:Ak)(h:AS),(K w.params).In h->h.Ns Bj mg->mg d.name=Ab (.ref fa) ->
   ∃ fd:CO,(∀(s:Ap)(u:Ai),Hr s fd ⟨[u],[]⟩ [(x,u)]) /\
    ∀ base:AS,(K w.params).In base->base.Ns Bj mg->FnOk l.prog w (K w.params) mg base (CX w) k fa fd [x] (sp w))(hsp:∀(w:AN)(H:Hp)(a:Ak)(ns:Ac Ae),ns.length<=n->QQ H->SqL (K w.params) H a (ns.map V.int)->sp w [.ref a] H (fun v _=>v=.bl Aa) fun _ _ _=>BK)(hCX:∀(w:AN)(H:Hp)(s:Ap)(e:Ai)(s':Ap),CX w [] H s (fun _ _ _=>BK) e s'->BK):XO q loose XP YP l.row.toRowW d [] (fun f vs=>Ko f vs):=by
 refine Att.attach_call hn hdf fun w s₀ s₁ mg mb fa o pm cd doc a vs ns G Y ho hd hcd hmg hobj hints hlen hg=>?_
 have KX:=hY w _ Y;obtain⟨fd,hb,hF⟩:=F w mg fa _ KX G.T.g hmg;exact bT KX G.T.g G.T.b G.T.builtins G.T.nolimit hg hobj hints (BD hlen hn2) hr hF hb (fun H hO hS=>hsp w H a ns hlen hO hS) fun H e s'=>hCX w H s₁ e s'
end L2
/- THE LAST THEOREM (shape;LID,My.* are yours):
   My.Adr: a structure of the addresses that your layer names (classes,functions);My.Txt K t: a structure (Prop) of the equations over K;
   My.txt_mk:{K} {implicit addresses ..} (e1:nsIn K Bj "law" = Ab (Ab (.ref f))) (e2:K.lookup f=Ab ⟨oc,od,.func (fnOf "law" "law" params body scope dV kV doc pm an cdv ct),sl⟩) (e3:codeIn K cdv "law" = Aa) ..:∃ t,My.Txt K t
set_option maxRecDepth 100000 in
set_option maxHeartbeats 0 in
theorem PySem.Challenge.cw_LID_holds:PySem.Challenge.rw_LID.Holds:=by
 w_on;o_law;k_head;(case hw=>w_witness2)
 k_fill
 refine L2.walk_of (l:=PySem.Challenge.rw_LID) (n:=63) (k:=40) (x := "script") (CX:=fun w=>..) (sp:=fun _=>My.sp_law) rfl (by decide) rfl ⟨rfl,by decide,by decide⟩ (fun w h Y=>XS Y) ?F ?S ?C
 case F=>
  intro w mg fa h KX G hmg;have T:∃ t,My.Txt (L2.KOf KX) t:=by
   dsimp only[L2.KOf]                          -- K must stand as «<heap const> w.params» for k_is
   refine' My.txt_mk ?e1 ?e2 ?e3 ..
   (case e1=>PySem.W.k_is)                    -- in the order: a name -> its address -> its object -> its parts
   (case e2=>PySem.W.k_is)
   ..
  obtain⟨t,T⟩:=T;have e0:=hmg.symm.trans (Je KX G T.law);cases e0                                       -- fa is the law's own address
  exact⟨_,fun s u=>.of_eq rfl,fun base kb nb=>My.law_fn T kb nb⟩     -- if «.of_eq rfl» comes too early: refine' ⟨_,?b,fun base kb nb=>My.law_fn T kb nb⟩;exact fun s u=>.of_eq rfl
 case S=>exact fun w H a ns hl hO hS=>..
 case C=>exact ..
(the tactic k_is has no namespace: write k_is) -/
namespace L2
open PySem PySem.Spec PyProof.Rows
noncomputable def KM(s:Cj):Arguments:=match s with
  |.FunctionDef _ a _ _ _ _ _ _ _ _=>a
  |_=>{posonlyargs:=[],args:=[],vararg:=Af,kwonlyargs:=[],kw_defaults:=[],kwarg:=Af,defaults:=[]}
noncomputable def Ih(s:Cj):Ac Cj:=match s with
  |.FunctionDef _ _ b _ _ _ _ _ _ _=>b
  |_=>[]
noncomputable def GQ(s:Cj):CM:=match s with
  |.FunctionDef _ _ _ _ _ _ sc _ _ _=>sc
  |_=>{kind:=.function,names:=[],isGenerator:=Ad,isCoroutine:=Ad}
noncomputable abbrev CX0:CXT:=fun _ _ _ _ _ _=>BK
structure Fun (K:Fg) (x qual:Al) (st:Cj) (f:Ak) (fd:CO):Prop where
 ex:∃(oc:Ai)(od:Av Ak)(kV doc pm:Ai)(an:Av Ak)(cdv ct:Ai)(osl:AQ (Av Ai)),
  fd=Et x qual (KM st) (Ih st) (GQ st) .none kV doc pm an cdv ct/\K.lookup f=Ab ⟨oc,od,.func fd,osl⟩/\GN K cdv qual=Aa
 kp:DL K (.ref f)=Aa
section
variable{P:A8}{w:AN}{K:Fg}{mg:Al->Av Ai}{base:AS}
theorem Fun.ok{x qual:Al}{st:Cj}{f:Ak}{fd:CO}{N ps:Ac Al}{k:Ag}{sp:Sp}(F:Fun K x qual st f fd)(S:FnScope N ps (GQ st))(len:∀ vs H Q E,sp vs H Q E->vs.length=ps.length)(hbody:∀(cdv:Ai)(A:Bu)(outer:Ac CG)(s:Ap)(H:Hp)(vs:Ac V)(Q:VK)(E:XK),Room k (A.deeper (Fb qual (GQ st) s.heap.objs.size f cdv))->sp vs H Q E ->
   ∃ t,PSs (GX CX0 P w K mg base N qual (GQ st) f cdv A outer s H E).nox (Ih st) t/\t {nx:=fun _ H'=>Q .non H',rt:=Q} (start N vs) H):FnOk P w K mg base CX0 (k+1) f fd ps sp:=by
 obtain⟨oc,od,kV,doc,pm,an,cdv,ct,osl,rfl,lk,hcd⟩:=F.ex;refine VU lk hcd S len fun A outer s H vs Q E hr hsp=>?_
 obtain⟨t,h,q⟩:=hbody cdv A outer s H vs Q E hr hsp;exact⟨t,h.nox,q⟩
theorem Fun.binds{x qual:Al}{st:Cj}{f:Ak}{fd:CO}{ps:Ac Al}(F:Fun K x qual st f fd)(h:∀(kV doc pm:Ai)(an:Av Ak)(cdv ct:Ai)(us:Ac Ai),us.length=ps.length->Lq (Et x qual (KM st) (Ih st) (GQ st) .none kV doc pm an cdv ct) ⟨us,[]⟩=pure (ps.zip us)):Im K fd ps []:=by
 obtain⟨oc,od,kV,doc,pm,an,cdv,ct,osl,rfl,lk,hcd⟩:=F.ex;exact .all (h kV doc pm an cdv ct)
theorem sD{x qual:Al}{st:Cj}{f:Ak}{oc:Ai}{od an:Av Ak}{osl:AQ (Av Ai)}{kV doc pm cdv ct:Ai}(l:K.lookup f=Ab ⟨oc,od,.func (Et x qual (KM st) (Ih st) (GQ st) .none kV doc pm an cdv ct),osl⟩)(c:GN K cdv qual=Aa)(k:DL K (.ref f)=Aa):Fun K x qual st f (Et x qual (KM st) (Ih st) (GQ st) .none kV doc pm an cdv ct):=⟨⟨oc,od,kV,doc,pm,an,cdv,ct,osl,rfl,l,c⟩,k⟩
end
section
variable{X:Cx}
end
def AO(H H':Hp):Prop:=∀ b o,H b=Ab o->H' b=Ab o
theorem AO.refl(H:Hp):AO H H:=fun _ _ h=>h
theorem AO.trans{H H1 H2:Hp}(a:AO H H1)(b:AO H1 H2):AO H H2:=fun c o h=>b c o (a c o h)
theorem AO.free{H H':Hp}(e:AO H H'){l:Ak}(h:H' l=Af):H l=Af:=by
 cases q:H l with
 |none=>rfl
 |some o=>
  rw[e l o q]at h;cases h
end L2
section
namespace Ov
open PySem
variable{α β:Type}
inductive D where
 |non|bl (b:Ao)|int (i:Ae)|str (x:Al)|tup (ds:Ac D)|lst (ds:Ac D)
 |obj (c:Ag) (fs:Ac (Al×D))|exc (c:Ag) (fs:Ac (Al×D))|dic (kvs:Ac (Ac Ae×D))
 deriving Inhabited
structure Ex where
 c:Ag
 fs:Ac (Al×D)
 deriving Inhabited
inductive R (α:Type) where
 |ok (a:α)|exn (x:Ex)|bad
 deriving Inhabited
noncomputable def R.bind{α β:Type}(r:R α)(f:α->R β):R β:=match r with
  |.ok a=>f a
  |.exn x=>.exn x
  |.bad=>.bad
@[simp]theorem R.bind_ok(a:α)(f:α->R β):(R.ok a).bind f=f a:=rfl
@[simp]theorem R.bind_exn(x:Ex)(f:α->R β):(R.exn x:R α).bind f=.exn x:=rfl
@[simp]theorem R.bind_bad(f:α->R β):(R.bad:R α).bind f=.bad:=rfl
theorem R.bind_assoc{γ:Type}(r:R α)(f:α->R β)(g:β->R γ):(r.bind f).bind g=r.bind fun a=>(f a).bind g:=by cases r<;>rfl
noncomputable def DM(n:Ag):Ao:=Em n 1000000
noncomputable def Ei(i j:Ae):Ao:=(decide (-(18446744073709551616:Ae)<i)&&decide (i<18446744073709551616))||(decide (-(18446744073709551616:Ae)<j)&&decide (j<18446744073709551616))
noncomputable def E8(i j:Ae):Ao:=decide (i.natAbs<2 ^ 2000)&&decide (j.natAbs<2 ^ 2000)
noncomputable def Dk:HE->D->D->R D
 |.Add,.int i,.int j=>.ok (.int (i+j))
 |.Sub,.int i,.int j=>.ok (.int (i-j))
 |.Mult,.int i,.int j=>if (Ei i j||E8 i j)=Aa then .ok (.int (i*j)) else .bad
 |.FloorDiv,.int i,.int j=>if 0<j/\j<1073741824 then .ok (.int (i / j)) else .bad
 |.Mod,.int i,.int j=>if 0<j then .ok (.int (i%j)) else .bad
 |.Pow,.int i,.int j=>if (0<=j/\j<=1000000)/\(-(18446744073709551616:Ae)<i/\i<18446744073709551616) then .ok (.int (i ^ j.toNat)) else .bad
 |.Add,.str x,.str y=>if DM (x.length+y.length)=Aa then .ok (.str (x++y)) else .bad
 |.Add,.lst x,.lst y=>if DM (x.length+y.length)=Aa then .ok (.lst (x++y)) else .bad
 |.Add,.tup x,.tup y=>if (!x.isEmpty&&DM (x.length+y.length))=Aa then .ok (.tup (x++y)) else .bad
 |_,_,_=>.bad
noncomputable def unD:UnaryOp->D->R D
 |.USub,.int i=>.ok (.int (-i))
 |_,_=>.bad
noncomputable def b2i(b:Ao):Ae:=if b=Aa then 1 else 0
mutual
noncomputable def eqD:D->D->Ao
 |.non,.non=>Aa
 |.bl a,.bl b=>a==b
 |.bl a,.int j=>b2i a==j
 |.int i,.bl b=>i==b2i b
 |.int i,.int j=>i==j
 |.str x,.str y=>x==y
 |.tup xs,.tup ys=>eqDs xs ys
 |.lst xs,.lst ys=>eqDs xs ys
 |_,_=>Ad
noncomputable def eqDs:Ac D->Ac D->Ao
 |[],[]=>Aa
 |x::xs,y::ys=>eqD x y&&eqDs xs ys
 |_,_=>Ad
end
noncomputable def flD:Ag->D->Ao
 |_,.non=>Aa
 |_,.bl _=>Aa
 |_,.int _=>Aa
 |_,.str _=>Aa
 |n+1,.tup xs=>xs.all (flD n)
 |n+1,.lst xs=>xs.all (flD n)
 |_,_=>Ad
noncomputable def K7:D->Av (Ac Ae)
 |.tup ds=>keyDs ds
 |_=>Af
where keyDs:Ac D->Av (Ac Ae)
 |[]=>Ab []
 |.int i::r=>(keyDs r).map (i :: ·)
 |_=>Af
noncomputable def ltD:Ag->D->D->Ao
 |0,.int i,.int j=>decide (i<j)
 |n+1,.tup xs,.tup ys=>ltDs (ltD n) xs ys
 |_,_,_=>Ad
where ltDs (lt:D->D->Ao):Ac D->Ac D->Ao
 |[],[]=>Ad
 |[],_::_=>Aa
 |_::_,[]=>Ad
 |x::xs,y::ys=>if eqD x y=Aa then ltDs lt xs ys else lt x y
noncomputable def rkD:Ag->D->Ao
 |0,.int _=>Aa
 |n+1,.tup xs=>xs.all (rkD n)
 |_,_=>Ad
noncomputable def K8(lt:D->D->Ao)(x:D):Ac D->Ac D
 |[]=>[x]
 |y::ys=>if lt y x=Aa then y::K8 lt x ys else x::y::ys
noncomputable def Nm(lt:D->D->Ao):Ac D->Ac D
 |[]=>[]
 |x::xs=>K8 lt x (Nm lt xs)
noncomputable def K5:Ac D->Ao
 |[]=>Aa
 |x::xs=>xs.all (fun y=>!eqD x y)&&K5 xs
noncomputable def Nw:Ac D->Ao
 |[]=>Aa
 |[_]=>Aa
 |x::y::r=>ltD 1 x y&&Nw (y::r)
noncomputable def Hc(xs:Ac D):R (Ac D):=if (xs.all (fun d=>rkD 1 d && !eqD d (.tup []))&&K5 xs&&(decide (xs.length<64)||(Nw xs&&decide (xs.length<=1000))))=Aa then .ok (Nm (ltD 1) xs) else .bad
noncomputable def Cp:ES->D->D->R D
  |.Eq,x,y=>if (flD 5 x&&flD 5 y)=Aa then .ok (.bl (eqD x y)) else .bad
  |.NotEq,x,y=>if (flD 5 x&&flD 5 y)=Aa then .ok (.bl (!eqD x y)) else .bad
  |.Lt,.int i,.int j=>.ok (.bl (decide (i<j)))
  |.LtE,.int i,.int j=>.ok (.bl (decide (i<=j)))
  |.Gt,.int i,.int j=>.ok (.bl (decide (j<i)))
  |.GtE,.int i,.int j=>.ok (.bl (decide (j<=i)))
  |.In,x,.lst ys=>if (flD 5 x&&ys.all (flD 5))=Aa then .ok (.bl (ys.any fun y=>eqD y x)) else .bad
  |.In,x,.dic kvs=>match K7 x with
    |some k=>.ok (.bl (kvs.any fun p=>p.1==k))
    |none=>.bad
  |.In,x,.tup ys=>if (flD 5 x&&ys.all (flD 5))=Aa then .ok (.bl (ys.any fun y=>eqD y x)) else .bad
  |.NotIn,x,.lst ys=>if (flD 5 x&&ys.all (flD 5))=Aa then .ok (.bl (!ys.any fun y=>eqD y x)) else .bad
  |.NotIn,x,.tup ys=>if (flD 5 x&&ys.all (flD 5))=Aa then .ok (.bl (!ys.any fun y=>eqD y x)) else .bad
  |.Is,.non,.non=>.ok (.bl Aa)
  |.Is,.bl _,.non=>.ok (.bl Ad)
  |.Is,.int _,.non=>.ok (.bl Ad)
  |.Is,.str _,.non=>.ok (.bl Ad)
  |.Is,.tup _,.non=>.ok (.bl Ad)
  |.Is,.lst _,.non=>.ok (.bl Ad)
  |.Is,.obj _ _,.non=>.ok (.bl Ad)
  |.Is,.bl a,.bl b=>.ok (.bl (a==b))
  |.IsNot,.bl a,.bl b=>.ok (.bl (!(a==b)))
  |.IsNot,.non,.non=>.ok (.bl Ad)
  |.IsNot,.bl _,.non=>.ok (.bl Aa)
  |.IsNot,.int _,.non=>.ok (.bl Aa)
  |.IsNot,.str _,.non=>.ok (.bl Aa)
  |.IsNot,.tup _,.non=>.ok (.bl Aa)
  |.IsNot,.lst _,.non=>.ok (.bl Aa)
  |.IsNot,.obj _ _,.non=>.ok (.bl Aa)
  |_,_,_=>.bad
noncomputable def CC:D->R Ao
 |.non=>.ok Ad
 |.bl b=>.ok b
 |.int i=>.ok (i != 0)
 |.str x=>if DM x.length=Aa then .ok (x.length != 0) else .bad
 |.tup xs=>.ok (!xs.isEmpty)
 |.lst xs=>.ok (!xs.isEmpty)
 |_=>.bad
noncomputable def plD(n:Ag)(i:Ae):Av Ag:=if 0<=i then (if i<n then Ab i.toNat else Af) else if -(n:Ae)<=i then Ab (i+n).toNat else Af
noncomputable def D0(xs:Ac D)(i:Ae):R D:=match plD xs.length i with
  |some k=>match xs[k]? with
    |some d=>.ok d
    |none=>.bad
  |none=>.bad
noncomputable def sJ(kvs:Ac (Ac Ae×D))(k:Ac Ae):Av D:=(kvs.find? fun p=>p.1==k).map (·.2)
noncomputable def U5(kvs:Ac (Ac Ae×D))(k:Ac Ae)(v:D):Ac (Ac Ae×D):=if (kvs.any fun p=>p.1==k)=Aa then kvs.map (fun p=>if (p.1==k)=Aa then (k,v) else p) else kvs++[(k,v)]
noncomputable def BW:D->D->R D
  |.lst xs,.int i=>D0 xs i
  |.tup xs,.int i=>D0 xs i
  |.dic kvs,k=>match (K7 k).bind (sJ kvs) with
    |some d=>.ok d
    |none=>.bad
  |_,_=>.bad
noncomputable def Fl:D->R Ae
 |.int i=>.ok i
 |_=>.bad
noncomputable def DU:D->R Ao
 |.bl b=>.ok b
 |_=>.bad
noncomputable def Cc:D->R (Ac D)
 |.lst xs=>.ok xs
 |.tup xs=>.ok xs
 |_=>.bad
noncomputable def K4:D->R (Ac D)
 |.lst xs=>.ok xs
 |_=>.bad
inductive BI where
 |len|abs|max|min|int|list|tuple|all|any|sum|sorted|str|count|stp|lset|tmin|tmax|tlt
 deriving DecidableEq,Inhabited
inductive Ki where
 |int|bool|str|list|tuple|verr|cls (c:Ag)
 deriving DecidableEq,Inhabited
mutual
inductive E where
 |non|bl (b:Ao)|int (i:Ae)|str (x:Al)
 |var (i:Ag)|glob (g:Ag)
 |bin (op:HE) (a b:E)|un (op:UnaryOp) (a:E)|no (a:E)
 |and (es:Es)|or (es:Es)
 |cmp (op:ES) (a b:E)|cmp2 (op op':ES) (a b c:E)
 |ite (c a b:E)
 |call (f:Ag) (as:Es)|bi (b:BI) (as:Es)
 |isi (a:E) (ks:Ac Ki)
 |idx (a i:E)|sl (a lo hi:E)
 |tup (es:Es)|lst (es:Es)
 |comp (elt:E) (t:Ag) (it:I) (c:E)|compT (elt:E) (ts:Ac Ag) (it:I) (c:E)|tupI (it:I)|dnew
 |fld (o:E) (f:Al)
inductive Es where
 |nil|cons (e:E) (es:Es)
inductive I where
 |e (a:E)|rng (a:E)|rng2 (a b:E)|zip (a b:E)|zip3 (a b c:E)|enm (a:E)
end
abbrev Sl:=Av (D×Ao)
abbrev Rho:=Ac Sl
structure Gam where
 F:Ag->Ac D->R D
 G:Ag->D
 up:Ag->Ac Ag
 /-- the defs whose answer is a new list -/
 fr:Ag->Ao
 /-- what is raised: the class,what it is made of -/
 xn:Ag->Ac D->R Ex
noncomputable def FN(lo:Ae)(n:Ag):Ac D:=(Bb n).map fun(k:Ag)=>D.int (lo+(k:Ae))
noncomputable def Dt(lo hi:Ae):R (Ac D):=if (-(4611686018427387904:Ae)<=lo/\lo<4611686018427387904)/\(-(4611686018427387904:Ae)<=hi/\hi<4611686018427387904)/\hi-lo<1000000 then .ok (FN lo (hi-lo).toNat) else .bad
noncomputable def kiD(up:Ag->Ac Ag):Ki->D->Ao
 |.int,.int _=>Aa
 |.int,.bl _=>Aa
 |.bool,.bl _=>Aa
 |.str,.str _=>Aa
 |.list,.lst _=>Aa
 |.tuple,.tup _=>Aa
 |.cls c,.obj k _=>(up k).contains c
 |.cls c,.exc k _=>(up k).contains c
 |.verr,.exc _ _=>Aa
 |_,_=>Ad
noncomputable def FO:Ki->Ao
 |.cls _=>Aa
 |.verr=>Aa
 |_=>Ad
noncomputable def Fo(up:Ag->Ac Ag)(ks:Ac Ki)(x:D):R D:=match x with
  |.obj _ _=>.bad
  |.exc _ _=>if ks.all FO=Aa then .ok (.bl (ks.any fun k=>kiD up k x)) else .bad
  |.dic _=>.bad
  |_=>if ks.any FO=Aa then .bad else .ok (.bl (ks.any fun k=>kiD up k x))
noncomputable def EF:D->R Ao
 |.non=>.ok Ad
 |.bl b=>.ok b
 |.int i=>.ok (i != 0)
 |_=>.bad
noncomputable def GB:Ac D->R Ao
 |[]=>.ok Aa
 |x::r=>(EF x).bind fun b=>(GB r).bind fun c=>.ok (b&&c)
noncomputable def FK:Ac D->R Ao
 |[]=>.ok Ad
 |x::r=>(EF x).bind fun b=>(FK r).bind fun c=>.ok (b||c)
noncomputable def GW:Ae->Ac D->R Ae
 |a,[]=>.ok a
 |a,.int i::r=>GW (a+i) r
 |_,_=>.bad
noncomputable def Fm:Ac D->Ac D->Ac D
 |x::xs,y::ys=>.tup [x,y]::Fm xs ys
 |_,_=>[]
noncomputable def Qj:Ac D->Ac D->Ac D->Ac D
 |x::xs,y::ys,z::zs=>.tup [x,y,z]::Qj xs ys zs
 |_,_,_=>[]
noncomputable def K1(x y z:D):R (Ac D):=(Cc x).bind fun xs=>(Cc y).bind fun ys=>(Cc z).bind fun zs=>if 0<xs.length/\xs.length<=1000/\ys.length=xs.length/\zs.length=xs.length then .ok (Qj xs ys zs) else .bad
noncomputable def Hl:Ae->Ac D->Ac D
 |_,[]=>[]
 |i,x::xs=>.tup [.int i,x]::Hl (i+1) xs
noncomputable def nlD:Ag->D->Ao
 |_,.non=>Aa
 |_,.bl _=>Aa
 |_,.int _=>Aa
 |_,.str _=>Aa
 |n+1,.tup xs=>xs.all (nlD n)
 |_,_=>Ad
noncomputable def Ke(fr:Ao):D->Ao
 |.lst ds=>fr&&ds.all (nlD 5)
 |d=>nlD 5 d
noncomputable def HR:Ac D->Av (Ac Ae)
 |[]=>Ab []
 |.int i::r=>(HR r).map (i :: ·)
 |_=>Af
noncomputable def Ir(i:Ae):Ac Ae->Ae
 |[]=>i
 |j::r=>Ir (if j<i then j else i) r
noncomputable def pk2(k n:Ag):Ac Ag:=(Bb ((n-min k n+1) / 2)).map fun j=>min k n+2*j
noncomputable def Wc(k:Ag)(xs:Ac D):Ac D:=(pk2 k xs.length).filterMap fun i=>xs[i]?
noncomputable def ddS(acc:Ac Ae)(x:Ae):Ac Ae:=if acc.any (· == x)=Aa then acc else acc++[x]
noncomputable def ddN(is:Ac Ae):Ag:=(is.foldl ddS []).length
noncomputable def K3(xs:Ac D):R D:=match HR xs with
  |some is=>if Em is.length 4000=Aa then .ok (.int (ddN is)) else .bad
  |none=>.bad
noncomputable def mmD(mx:Ao)(x y:D):R D:=if [x,y].all (fun d=>rkD 1 d && !eqD d (.tup []))=Aa then .ok (if (if mx=Aa then ltD 1 x y else ltD 1 y x)=Aa then y else x) else .bad
noncomputable def HU(x y:D):R D:=if [x,y].all (fun d=>rkD 1 d && !eqD d (.tup []))=Aa then .ok (.bl (ltD 1 x y)) else .bad
noncomputable def biD:BI->Ac D->R D
  |.len,[.lst xs]=>.ok (.int xs.length)
  |.len,[.tup xs]=>.ok (.int xs.length)
  |.len,[.str x]=>if DM x.length=Aa then .ok (.int x.length) else .bad
  |.abs,[.int i]=>.ok (.int (if i<0 then -i else i))
  |.max,[.int i,.int j]=>.ok (.int (if i<j then j else i))
  |.min,[.int i,.int j]=>.ok (.int (if j<i then j else i))
  |.min,[.lst xs]=>match HR xs with
    |some (i::is)=>.ok (.int (Ir i is))
    |_=>.bad
  |.int,[.int i]=>.ok (.int i)
  |.int,[.bl b]=>.ok (.int (b2i b))
  |.list,[.lst xs]=>.ok (.lst xs)
  |.list,[.tup xs]=>.ok (.lst xs)
  |.tuple,[.lst xs]=>.ok (.tup xs)
  |.tuple,[.tup xs]=>.ok (.tup xs)
  |.all,[.lst xs]=>(GB xs).bind fun b=>.ok (.bl b)
  |.any,[.lst xs]=>(FK xs).bind fun b=>.ok (.bl b)
  |.any,[.tup xs]=>(FK xs).bind fun b=>.ok (.bl b)
  |.sum,[.lst xs]=>(GW 0 xs).bind fun i=>.ok (.int i)
  |.sum,[.tup xs]=>(GW 0 xs).bind fun i=>.ok (.int i)
  |.sorted,[.lst xs]=>(Hc xs).bind fun ys=>.ok (.lst ys)
  |.count,[.lst xs,x]=>if (flD 5 x&&xs.all (flD 5))=Aa then .ok (.int ((xs.filter fun y=>eqD y x).length:Ag)) else .bad
  |.len,[.dic kvs]=>.ok (.int kvs.length)
  |.stp,[.lst xs,.int k]=>.ok (.lst (Wc k.toNat xs))
  |.lset,[.lst xs]=>K3 xs
  |.tmin,[x,y]=>mmD Ad x y
  |.tmax,[x,y]=>mmD Aa x y
  |.tlt,[x,y]=>HU x y
  |_,_=>.bad
noncomputable def slE(c:E)(d:D):R (Av Ae):=match c with
  |.non=>.ok Af
  |_=>(Fl d).bind fun i=>.ok (Ab i)
noncomputable def Iq(n d:Ag):Av Ae->Ag
 |none=>d
 |some i=>if i<0 then (i+n).toNat else min i.toNat n
noncomputable def JC(xs:Ac D)(lo hi:Av Ae):Ac D:=(xs.drop (Iq xs.length 0 lo)).take (Iq xs.length xs.length hi-Iq xs.length 0 lo)
noncomputable def slD:D->Av Ae->Av Ae->R D
 |.lst xs,l,h=>.ok (.lst (JC xs l h))
 |.tup xs,l,h=>if (Iq xs.length 0 l==0&&Iq xs.length xs.length h==xs.length)=Aa then .bad else .ok (.tup (JC xs l h))
 |_,_,_=>.bad
noncomputable def QW:D->Al->R D
  |.obj _ fs,f=>match fs.lookup f with
    |some d=>.ok d
    |none=>.bad
  |.exc _ fs,f=>match fs.lookup f with
    |some d=>.ok d
    |none=>.bad
  |_,_=>.bad
noncomputable def FX(ρ:Rho)(i:Ag):R D:=match ρ[i]? with
  |some (Ab (d,Ad))=>.ok d
  |_=>.bad
noncomputable def Ge(ρ:Rho)(i:Ag):R D:=match ρ[i]? with
  |some (Ab (d,_))=>.ok d
  |_=>.bad
noncomputable def shE(ρ:Rho):E->Ao
  | .var i=>(match ρ[i]? with
    |some (Ab (_,Aa))=>Ad
    | _=>Aa)
  |_=>Aa
noncomputable def JE(ρ:Rho):Es->Ao
 |.nil=>Aa
 |.cons e es=>shE ρ e&&JE ρ es
noncomputable def E6:Ac Ag->Ac D->Rho->Av Rho
 |[],[],ρ=>Ab ρ
 |t::ts,d::ds,ρ=>E6 ts ds (ρ.set t (Ab (d,Ad)))
 |_,_,_=>Af
noncomputable def GA(ts:Ac Ag)(d:D)(ρ:Rho):R Rho:=match d with
  | .tup xs=>(match E6 ts xs ρ with
    |some ρ'=>.ok ρ'
    | none=>.bad)
  |_=>.bad
noncomputable def HM(ts:Ac Ag)(d:D)(ρ:Rho):R Rho:=match d with
  | .lst xs=>(match E6 ts xs ρ with
    |some ρ'=>.ok ρ'
    | none=>.bad)
  |d=>GA ts d ρ
noncomputable def BJ(g:D->R Ao)(f:D->R D):Ac D->R (Ac D)
 |[]=>.ok []
 |x::xs=>(g x).bind fun b=>if b=Aa then (f x).bind fun y=>(BJ g f xs).bind fun ys=>.ok (y::ys) else BJ g f xs
noncomputable def noX{α:Type}:R α->R α
 |.ok a=>.ok a
 |_=>.bad
noncomputable def top(ρ:Rho)(e:E)(r:R D):R D:=match e with
  |.var i=>Ge ρ i
  |_=>r
mutual
noncomputable def evE(Γ:Gam)(ρ:Rho):E->R D
 |.non=>.ok .non
 |.bl b=>.ok (.bl b)
 |.int i=>.ok (.int i)
 |.str x=>.ok (.str x)
 |.var i=>FX ρ i
 |.glob g=>.ok (Γ.G g)
 |.bin op a b=>(top ρ a (evE Γ ρ a)).bind fun x=>(top ρ b (evE Γ ρ b)).bind fun y=>Dk op x y
 |.un op a=>(top ρ a (evE Γ ρ a)).bind fun x=>unD op x
 |.no a=>(top ρ a (evE Γ ρ a)).bind fun x=>(DU x).bind fun b=>.ok (.bl (!b))
 |.and es=>evN Γ ρ es
 |.or es=>evO Γ ρ es
 |.cmp op a b=>(top ρ a (evE Γ ρ a)).bind fun x=>(top ρ b (evE Γ ρ b)).bind fun y=>Cp op x y
 |.cmp2 op op' a b c=>(top ρ a (evE Γ ρ a)).bind fun x=>(top ρ b (evE Γ ρ b)).bind fun y=>(Cp op x y).bind fun z=>(DU z).bind fun k=>if k=Aa then (top ρ c (evE Γ ρ c)).bind fun u=>Cp op' y u else .ok (.bl Ad)
 |.ite c a b=>(top ρ c (evE Γ ρ c)).bind fun x=>(CC x).bind fun k=>if k=Aa then evE Γ ρ a else evE Γ ρ b
 |.call f as=>(evB Γ ρ as).bind fun xs=>(Γ.F f xs).bind fun d=>if JE ρ as=Aa then .ok d else if Ke (Γ.fr f) d=Aa then .ok d else .bad
 |.bi b as=>(evB Γ ρ as).bind fun xs=>biD b xs
 |.isi a ks=>(top ρ a (evE Γ ρ a)).bind fun x=>Fo Γ.up ks x
 |.idx a i=>(top ρ a (evE Γ ρ a)).bind fun x=>(top ρ i (evE Γ ρ i)).bind fun y=>BW x y
 |.sl a lo hi=>(top ρ a (evE Γ ρ a)).bind fun x=>(top ρ lo (evE Γ ρ lo)).bind fun l=>(slE lo l).bind fun l'=>(top ρ hi (evE Γ ρ hi)).bind fun h=>(slE hi h).bind fun h'=>slD x l' h'
 |.tup es=>(evA Γ ρ es).bind fun xs=>.ok (.tup xs)
 |.lst es=>(evA Γ ρ es).bind fun xs=>.ok (.lst xs)
 |.comp elt t it c=>(evI Γ ρ it).bind fun xs=>(noX (BJ (fun x=>(top (ρ.set t (Ab (x,Ad))) c (evE Γ (ρ.set t (Ab (x,Ad))) c)).bind CC) (fun x=>evE Γ (ρ.set t (Ab (x,Ad))) elt) xs)).bind fun ys=>.ok (.lst ys)
 |.compT elt ts it c=>(evI Γ ρ it).bind fun xs=>(noX (BJ (fun x=>(GA ts x ρ).bind fun ρ'=>(top ρ' c (evE Γ ρ' c)).bind CC) (fun x=>(GA ts x ρ).bind fun ρ'=>evE Γ ρ' elt) xs)).bind fun ys=>.ok (.lst ys)
 |.tupI it=>(evI Γ ρ it).bind fun xs=>.ok (.tup xs)
 |.dnew=>.ok (.dic [])
 |.fld o f=>(top ρ o (evE Γ ρ o)).bind fun x=>QW x f
noncomputable def evN(Γ:Gam)(ρ:Rho):Es->R D
 |.nil=>.bad
 |.cons e .nil=>evE Γ ρ e
 |.cons e (.cons e' es)=>(evE Γ ρ e).bind fun x=>(DU x).bind fun c=>if c=Aa then evN Γ ρ (.cons e' es) else .ok (.bl Ad)
noncomputable def evO(Γ:Gam)(ρ:Rho):Es->R D
 |.nil=>.bad
 |.cons e .nil=>evE Γ ρ e
 |.cons e (.cons e' es)=>(evE Γ ρ e).bind fun x=>(DU x).bind fun c=>if c=Aa then .ok (.bl Aa) else evO Γ ρ (.cons e' es)
noncomputable def evA(Γ:Gam)(ρ:Rho):Es->R (Ac D)
 |.nil=>.ok []
 |.cons e es=>(evE Γ ρ e).bind fun x=>(evA Γ ρ es).bind fun xs=>.ok (x::xs)
noncomputable def evB(Γ:Gam)(ρ:Rho):Es->R (Ac D)
 |.nil=>.ok []
 |.cons e es=>(top ρ e (evE Γ ρ e)).bind fun x=>(evB Γ ρ es).bind fun xs=>.ok (x::xs)
noncomputable def evI(Γ:Gam)(ρ:Rho):I->R (Ac D)
 |.e a=>(evE Γ ρ a).bind Cc
 |.rng a=>(top ρ a (evE Γ ρ a)).bind fun x=>(Fl x).bind fun j=>Dt 0 j
 |.rng2 a b=>(top ρ a (evE Γ ρ a)).bind fun x=>(top ρ b (evE Γ ρ b)).bind fun y=>(Fl x).bind fun i=>(Fl y).bind fun j=>Dt i j
 |.zip a b=>(evE Γ ρ a).bind fun x=>(evE Γ ρ b).bind fun y=>(Cc x).bind fun xs=>(Cc y).bind fun ys=>.ok (Fm xs ys)
 |.zip3 a b c=>(evE Γ ρ a).bind fun x=>(evE Γ ρ b).bind fun y=>(evE Γ ρ c).bind fun z=>K1 x y z
 |.enm a=>(evE Γ ρ a).bind fun x=>(Cc x).bind fun xs=>.ok (Hl 0 xs)
end
noncomputable def Ez(Γ:Gam):E->Ao
 |.lst _=>Aa
 |.comp _ _ _ _=>Aa
 |.compT _ _ _ _=>Aa
 |.dnew=>Aa
 |.bin .Add _ _=>Aa
 |.bi .list _=>Aa
 |.bi .sorted _=>Aa
 |.sl _ _ _=>Aa
 |.call f _=>Γ.fr f
 |_=>Ad
mutual
inductive S where
 |pass
 /-- x=e;fresh: x alone holds the new list -/
 |asg (i:Ag) (fresh:Ao) (e:E)
 /-- a,b,..=e -/
 |asgT (ts:Ac Ag) (e:E)
 |expr (e:E)
 |ret (e:E)|retN
 |ife (c:E) (a b:Ss)
 |fors (t:Ag) (it:I) (body:Ss)
 |forT (ts:Ac Ag) (it:I) (body:Ss)
 |whl (c:E) (body:Ss)
 /-- raise C(e,..) -/
 |rais (c:Ag) (as:Es)
 /-- try: body except C as x: h -/
 |tryx (body:Ss) (c:Ag) (x:Ag) (h:Ss)
 /-- x.append(e),x.extend(e),x.insert(k,e),x.reverse(),x.clear() -/
 |app (i:Ag) (e:E)|ext (i:Ag) (e:E)|ins (i:Ag) (k e:E)|rev (i:Ag)|clr (i:Ag)
 /-- d[k]=e,d.setdefault(k,e) -/
 |dput (i:Ag) (k e:E)|dsd (i:Ag) (k e:E)
 /-- x[k]=e -/
 |put (i:Ag) (k e:E)
 /-- x[k],x[l]=x[l],x[k] -/
 |swp (i k l:Ag)
 |brk|cont
 /-- nothing: from here on x is no longer changed -/
 |rel (i:Ag)
inductive Ss where
 |nil|cons (s:S) (ss:Ss)
end
inductive O where
 |next (ρ:Rho)|ret (d:D) (fr:Ao)|brk (ρ:Rho)|cont (ρ:Rho)|exn (x:Ex) (ρ:Rho)|bad
 deriving Inhabited
noncomputable def O.of{α:Type}(ρ:Rho)(r:R α)(f:α->O):O:=match r with
  |.ok a=>f a
  |.exn x=>.exn x ρ
  |.bad=>.bad
@[simp]theorem O.of_ok(ρ:Rho)(a:α)(f:α->O):O.of ρ (.ok a) f=f a:=rfl
@[simp]theorem O.of_exn(ρ:Rho)(x:Ex)(f:α->O):O.of ρ (.exn x:R α) f=.exn x ρ:=rfl
@[simp]theorem O.of_bad(ρ:Rho)(f:α->O):O.of ρ (.bad:R α) f=.bad:=rfl
noncomputable def Iw(Γ:Gam)(ρ:Rho)(i:I):R (Ac D):=evI Γ ρ i
noncomputable def Du(ρ:Rho)(i:Ag):R (Ac D):=match ρ[i]? with
  |some (Ab (.lst xs,Aa))=>.ok xs
  |_=>.bad
noncomputable def Re(ρ:Rho)(i:Ag):R (Ac (Ac Ae×D)):=match ρ[i]? with
  |some (Ab (.dic xs,Aa))=>.ok xs
  |_=>.bad
noncomputable def V4(d:D):R (Ac Ae):=match K7 d with
  |some k=>.ok k
  |none=>.bad
noncomputable def VP:Ag:=4096
noncomputable def O.seq(o:O)(f:Rho->O):O:=match o with
  |.next ρ=>f ρ
  |.ret d b=>.ret d b
  |.brk ρ=>.brk ρ
  |.cont ρ=>.cont ρ
  |.exn x ρ=>.exn x ρ
  |.bad=>.bad
noncomputable def O.turn(o:O)(f:Rho->O):O:=match o with
  |.next ρ=>f ρ
  |.cont ρ=>f ρ
  |.brk ρ=>.next ρ
  |.ret d b=>.ret d b
  |.exn x ρ=>.exn x ρ
  |.bad=>.bad
noncomputable def CS(body:D->Rho->O):Ac D->Rho->O
 |[],ρ=>.next ρ
 |x::xs,ρ=>(body x ρ).turn (CS body xs)
noncomputable def QC(c:Rho->R Ao)(body:Rho->O):Ag->Rho->O
 |0,_=>.bad
 |n+1,ρ=>O.of ρ (c ρ) fun b=>if b=Aa then (body ρ).turn (QC c body n) else .next ρ
noncomputable def Vx(ρ:Rho)(k:Ag):R Ae:=(FX ρ k).bind Fl
noncomputable def YR(ρ:Rho)(d:D)(i k l:Ag):O:=match d with
  |.tup [x,y]=>O.of ρ (Du ρ i) fun xs=>O.of ρ (Vx ρ k) fun a=>O.of ρ (Vx ρ l) fun b=>match plD xs.length a,plD xs.length b with
    |some m,Ab n=>.next (ρ.set i (Ab (.lst ((xs.set m x).set n y),Aa)))
    |_,_=>.bad
  |_=>.bad
mutual
noncomputable def evS(Γ:Gam)(ρ:Rho):S->O
  |.pass=>.next ρ
  | .asg i fresh e=>O.of ρ (evE Γ ρ e) fun d=>if fresh=Aa then (if Ez Γ e=Aa then (match d with
      |.lst xs=>.next (ρ.set i (Ab (.lst xs,Aa)))
      |.dic xs=>.next (ρ.set i (Ab (.dic xs,Aa)))
      | _=>.bad) else .bad) else .next (ρ.set i (Ab (d,Ad)))
  |.asgT ts e=>O.of ρ (evE Γ ρ e) fun d=>O.of ρ (HM ts d ρ) fun ρ'=>.next ρ'
  |.expr e=>O.of ρ (evE Γ ρ e) fun _=>.next ρ
  |.ret e=>O.of ρ (top ρ e (evE Γ ρ e)) fun d=>.ret d (Ez Γ e||(match e with | .var i=>(match ρ[i]? with|some (Ab (_,o))=>o|_=>Ad)|_=>Ad))
  |.retN=>.ret .non Ad
  |.ife c a b=>O.of ρ ((top ρ c (evE Γ ρ c)).bind CC) fun k=>if k=Aa then evSs Γ ρ a else evSs Γ ρ b
  |.fors t it body=>O.of ρ (Iw Γ ρ it) fun xs=>CS (fun x ρ'=>evSs Γ (ρ'.set t (Ab (x,Ad))) body) xs ρ
  |.forT ts it body=>O.of ρ (Iw Γ ρ it) fun xs=>CS (fun x ρ'=>O.of ρ' (GA ts x ρ') fun ρ''=>evSs Γ ρ'' body) xs ρ
  |.whl c body=>QC (fun ρ'=>(top ρ' c (evE Γ ρ' c)).bind CC) (fun ρ'=>evSs Γ ρ' body) VP ρ
  |.rais c as=>O.of ρ (noX (evA Γ ρ as)) fun xs=>O.of ρ (Γ.xn c xs) fun x=>.exn x ρ
  |.tryx body c x h=>match evSs Γ ρ body with
      | .exn y ρ'=>if (Γ.up y.c).contains c=Aa then (match evSs Γ (ρ'.set x (Ab (.exc y.c y.fs,Ad))) h with
          |.next ρ''=>.next (ρ''.set x Af)
          |.ret d f=>.ret d f
          | _=>.bad) else .bad
      |o=>o
  |.app i e=>O.of ρ (Du ρ i) fun xs=>O.of ρ (evE Γ ρ e) fun d=>if DM (xs.length+1)=Aa then .next (ρ.set i (Ab (.lst (xs++[d]),Aa))) else .bad
  |.ext i e=>O.of ρ (Du ρ i) fun xs=>O.of ρ (evE Γ ρ e) fun d=>O.of ρ (K4 d) fun ys=>if DM (xs.length+ys.length)=Aa then .next (ρ.set i (Ab (.lst (xs++ys),Aa))) else .bad
  |.ins i k e=>O.of ρ (Du ρ i) fun xs=>O.of ρ ((top ρ k (evE Γ ρ k)).bind Fl) fun j=>O.of ρ (evE Γ ρ e) fun d=>if (DM (xs.length+1)&&decide (0<=j)&&decide (j<=xs.length))=Aa then .next (ρ.set i (Ab (.lst (xs.take j.toNat++d::xs.drop j.toNat),Aa))) else .bad
  |.rev i=>O.of ρ (Du ρ i) fun xs=>.next (ρ.set i (Ab (.lst xs.reverse,Aa)))
  |.clr i=>O.of ρ (Du ρ i) fun _=>.next (ρ.set i (Ab (.lst [],Aa)))
  |.dput i k e=>O.of ρ (evE Γ ρ e) fun d=>O.of ρ (Re ρ i) fun xs=>O.of ρ ((evE Γ ρ k).bind V4) fun j=>if DM (xs.length+1)=Aa then .next (ρ.set i (Ab (.dic (U5 xs j d),Aa))) else .bad
  |.dsd i k e=>O.of ρ (Re ρ i) fun xs=>O.of ρ ((evE Γ ρ k).bind V4) fun j=>O.of ρ (evE Γ ρ e) fun d=>if DM (xs.length+1)=Aa then .next (ρ.set i (Ab (.dic (if (xs.any fun p=>p.1==j)=Aa then xs else U5 xs j d),Aa))) else .bad
  |.put i k e=>O.of ρ (evE Γ ρ e) fun d=>O.of ρ (Du ρ i) fun xs=>O.of ρ ((top ρ k (evE Γ ρ k)).bind Fl) fun j=>match plD xs.length j with
      |some n=>.next (ρ.set i (Ab (.lst (xs.set n d),Aa)))
      |none=>.bad
  |.swp i k l=>O.of ρ (evE Γ ρ (.tup (.cons (.idx (.var i) (.var l)) (.cons (.idx (.var i) (.var k)) .nil)))) fun d=>YR ρ d i k l
  |.brk=>.brk ρ
  |.cont=>.cont ρ
  |.rel i=>match ρ[i]? with
      |some (Ab (d,Aa))=>.next (ρ.set i (Ab (d,Ad)))
      |_=>.next ρ
noncomputable def evSs(Γ:Gam)(ρ:Rho):Ss->O
 |.nil=>.next ρ
 |.cons s ss=>(evS Γ ρ s).seq fun ρ'=>evSs Γ ρ' ss
end
structure Df where
 n:Ag
 fr:Ao
 body:Ss
noncomputable def BH(n:Ag)(ds:Ac D):Rho:=ds.map (fun d=>Ab (d,Ad))++EW (n-ds.length) Af
noncomputable def isL:D->Ao
 |.lst _=>Aa
 |.dic _=>Aa
 |_=>Ad
noncomputable def O.ans(fr:Ao)(o:O):R D:=match o with
  |.ret d b=>if (fr&&(!b&&isL d))=Aa then .bad else .ok d
  |.next _=>if fr=Aa then .bad else .ok .non
  |.exn x _=>.exn x
  |_=>.bad
noncomputable def Df.run(Γ:Gam)(f:Df)(ds:Ac D):R D:=(evSs Γ (BH f.n ds) f.body).ans f.fr
structure Prg where
 xs:Ao
 defs:Ag->Df
 G:Ag->D
 up:Ag->Ac Ag
 xn:Ag->Ac D->R Ex
noncomputable def EG(xs:Ao)(r:R D):R D:=match xs with
  | true=>(match r with
    |.exn x=>if x.fs.isEmpty=Aa then .exn x else .bad
    | r=>r)
  |false=>noX r
noncomputable def gam(P:Prg):Ag->Gam
 |0=>⟨fun _ _=>.bad,P.G,P.up,fun i=>(P.defs i).fr,P.xn⟩
 |n+1=>⟨fun i ds=>EG P.xs ((P.defs i).run (gam P n) ds),P.G,P.up,fun i=>(P.defs i).fr,P.xn⟩
end Ov
end
section
namespace Ov
open PySem
variable{α:Type}{lo hi:Ae}{n:Ag}{x:D}
section
variable(Γ:Gam)(ρ:Rho)
@[simp]theorem Zy7:evE Γ ρ .non=.ok .non:=rfl
@[simp]theorem ZAQ(b):evE Γ ρ (.bl b)=.ok (.bl b):=rfl
@[simp]theorem Zzb(b):evE Γ ρ (.int b)=.ok (.int b):=rfl
@[simp]theorem Zy6(b):evE Γ ρ (.str b)=.ok (.str b):=rfl
@[simp]theorem Zy5(i):evE Γ ρ (.var i)=FX ρ i:=rfl
@[simp]theorem ZvF(i):evE Γ ρ (.glob i)=.ok (Γ.G i):=rfl
@[simp]theorem kS(op a b):evE Γ ρ (.bin op a b)=(top ρ a (evE Γ ρ a)).bind fun x=>(top ρ b (evE Γ ρ b)).bind fun y=>Dk op x y:=rfl
@[simp]theorem ZAM(op a):evE Γ ρ (.un op a)=(top ρ a (evE Γ ρ a)).bind fun x=>unD op x:=rfl
@[simp]theorem ZAP(a):evE Γ ρ (.no a)=(top ρ a (evE Γ ρ a)).bind fun x=>(DU x).bind fun b=>.ok (.bl (!b)):=rfl
@[simp]theorem Zzf(es):evE Γ ρ (.and es)=evN Γ ρ es:=rfl
@[simp]theorem ZAO(es):evE Γ ρ (.or es)=evO Γ ρ es:=rfl
@[simp]theorem Zy1(e):evN Γ ρ (.cons e .nil)=evE Γ ρ e:=rfl
@[simp]theorem Zvy(e e' es):evN Γ ρ (.cons e (.cons e' es))=(evE Γ ρ e).bind fun x=>(DU x).bind fun c=>if c=Aa then evN Γ ρ (.cons e' es) else .ok (.bl Ad):=rfl
@[simp]theorem Zy0(e):evO Γ ρ (.cons e .nil)=evE Γ ρ e:=rfl
@[simp]theorem Zvx(e e' es):evO Γ ρ (.cons e (.cons e' es))=(evE Γ ρ e).bind fun x=>(DU x).bind fun c=>if c=Aa then .ok (.bl Aa) else evO Γ ρ (.cons e' es):=rfl
@[simp]theorem Zze(op a b):evE Γ ρ (.cmp op a b)=(top ρ a (evE Γ ρ a)).bind fun x=>(top ρ b (evE Γ ρ b)).bind fun y=>Cp op x y:=rfl
@[simp]theorem ZvI(op op' a b c):evE Γ ρ (.cmp2 op op' a b c)=(top ρ a (evE Γ ρ a)).bind fun x=>(top ρ b (evE Γ ρ b)).bind fun y=>(Cp op x y).bind fun z=>(DU z).bind fun k=>if k=Aa then (top ρ c (evE Γ ρ c)).bind fun u=>Cp op' y u else .ok (.bl Ad):=rfl
@[simp]theorem Zy9(c a b):evE Γ ρ (.ite c a b)=(top ρ c (evE Γ ρ c)).bind fun x=>(CC x).bind fun k=>if k=Aa then evE Γ ρ a else evE Γ ρ b:=rfl
@[simp]theorem ZvJ(f as):evE Γ ρ (.call f as)=(evB Γ ρ as).bind fun xs=>(Γ.F f xs).bind fun d=>if JE ρ as=Aa then .ok d else if Ke (Γ.fr f) d=Aa then .ok d else .bad:=rfl
@[simp]theorem M8(f as):evE Γ ρ (.bi f as)=(evB Γ ρ as).bind fun xs=>biD f xs:=rfl
@[simp]theorem Zza(a ks):evE Γ ρ (.isi a ks)=(top ρ a (evE Γ ρ a)).bind fun x=>Fo Γ.up ks x:=rfl
@[simp]theorem Zzc(a i):evE Γ ρ (.idx a i)=(top ρ a (evE Γ ρ a)).bind fun x=>(top ρ i (evE Γ ρ i)).bind fun y=>BW x y:=rfl
@[simp]theorem ZAN(a lo hi):evE Γ ρ (.sl a lo hi)=(top ρ a (evE Γ ρ a)).bind fun x=>(top ρ lo (evE Γ ρ lo)).bind fun l=>(slE lo l).bind fun l'=>(top ρ hi (evE Γ ρ hi)).bind fun h=>(slE hi h).bind fun h'=>slD x l' h':=rfl
@[simp]theorem kR(es):evE Γ ρ (.tup es)=(evA Γ ρ es).bind fun xs=>.ok (.tup xs):=rfl
@[simp]theorem Zy8(es):evE Γ ρ (.lst es)=(evA Γ ρ es).bind fun xs=>.ok (.lst xs):=rfl
noncomputable def cG(Γ:Gam)(ρ:Rho)(t:Ag)(c:E):D->R Ao:=fun x=>(top (ρ.set t (Ab (x,Ad))) c (evE Γ (ρ.set t (Ab (x,Ad))) c)).bind CC
noncomputable def cF(Γ:Gam)(ρ:Rho)(t:Ag)(elt:E):D->R D:=fun x=>evE Γ (ρ.set t (Ab (x,Ad))) elt
noncomputable def mkL(r:R (Ac D)):R D:=(noX r).bind fun ys=>.ok (.lst ys)
@[simp]theorem ZAp(ys):mkL (.ok ys)=.ok (.lst ys):=rfl
@[simp]theorem ZvH(elt t it c):evE Γ ρ (.comp elt t it c)=(evI Γ ρ it).bind fun xs=>mkL (BJ (cG Γ ρ t c) (cF Γ ρ t elt) xs):=rfl
noncomputable def cGT(Γ:Gam)(ρ:Rho)(ts:Ac Ag)(c:E):D->R Ao:=fun x=>(GA ts x ρ).bind fun ρ'=>(top ρ' c (evE Γ ρ' c)).bind CC
noncomputable def cFT(Γ:Gam)(ρ:Rho)(ts:Ac Ag)(elt:E):D->R D:=fun x=>(GA ts x ρ).bind fun ρ'=>evE Γ ρ' elt
@[simp]theorem Ztu(elt ts it c):evE Γ ρ (.compT elt ts it c)=(evI Γ ρ it).bind fun xs=>mkL (BJ (cGT Γ ρ ts c) (cFT Γ ρ ts elt) xs):=rfl
@[simp]theorem ZvE(it):evE Γ ρ (.tupI it)=(evI Γ ρ it).bind fun xs=>.ok (.tup xs):=rfl
@[simp]theorem ZvG:evE Γ ρ .dnew=.ok (.dic []):=rfl
@[simp]theorem Zzd(o f):evE Γ ρ (.fld o f)=(top ρ o (evE Γ ρ o)).bind fun x=>QW x f:=rfl
@[simp]theorem Zzh:evA Γ ρ .nil=.ok []:=rfl
@[simp]theorem Td(e es):evA Γ ρ (.cons e es)=(evE Γ ρ e).bind fun x=>(evA Γ ρ es).bind fun xs=>.ok (x::xs):=rfl
@[simp]theorem Zzg:evB Γ ρ .nil=.ok []:=rfl
@[simp]theorem Tb(e es):evB Γ ρ (.cons e es)=(top ρ e (evE Γ ρ e)).bind fun x=>(evB Γ ρ es).bind fun xs=>.ok (x::xs):=rfl
@[simp]theorem ZBL(a):evI Γ ρ (.e a)=(evE Γ ρ a).bind Cc:=rfl
@[simp]theorem Zy3(a):evI Γ ρ (.rng a)=(top ρ a (evE Γ ρ a)).bind fun x=>(Fl x).bind fun j=>Dt 0 j:=rfl
@[simp]theorem ZvD(a b):evI Γ ρ (.rng2 a b)=(top ρ a (evE Γ ρ a)).bind fun x=>(top ρ b (evE Γ ρ b)).bind fun y=>(Fl x).bind fun i=>(Fl y).bind fun j=>Dt i j:=rfl
@[simp]theorem Zy2(a b):evI Γ ρ (.zip a b)=(evE Γ ρ a).bind fun x=>(evE Γ ρ b).bind fun y=>(Cc x).bind fun xs=>(Cc y).bind fun ys=>.ok (Fm xs ys):=rfl
@[simp]theorem ZvC(a b c):evI Γ ρ (.zip3 a b c)=(evE Γ ρ a).bind fun x=>(evE Γ ρ b).bind fun y=>(evE Γ ρ c).bind fun z=>K1 x y z:=rfl
@[simp]theorem Zy4(a):evI Γ ρ (.enm a)=(evE Γ ρ a).bind fun x=>(Cc x).bind fun xs=>.ok (Hl 0 xs):=rfl
@[simp]theorem Zvz(a b):Iw Γ ρ (.zip a b)=evI Γ ρ (.zip a b):=rfl
@[simp]theorem Zts(a b c):Iw Γ ρ (.zip3 a b c)=evI Γ ρ (.zip3 a b c):=rfl
@[simp]theorem ZvB(a):Iw Γ ρ (.enm a)=evI Γ ρ (.enm a):=rfl
@[simp]theorem ZAL(a):Iw Γ ρ (.e a)=(evE Γ ρ a).bind Cc:=rfl
@[simp]theorem ZvA(a):Iw Γ ρ (.rng a)=evI Γ ρ (.rng a):=rfl
@[simp]theorem Ztt(a b):Iw Γ ρ (.rng2 a b)=evI Γ ρ (.rng2 a b):=rfl
variable(r:R D)
@[simp]theorem Zv2(i):top ρ (.var i) r=Ge ρ i:=rfl
@[simp]theorem Zv4:top ρ .non r=r:=rfl
@[simp]theorem ZzS(b):top ρ (.bl b) r=r:=rfl
@[simp]theorem Zv8(b):top ρ (.int b) r=r:=rfl
@[simp]theorem Zv3(b):top ρ (.str b) r=r:=rfl
@[simp]theorem ZuR(b):top ρ (.glob b) r=r:=rfl
@[simp]theorem fK(op a b):top ρ (.bin op a b) r=r:=rfl
@[simp]theorem ZzO(op a):top ρ (.un op a) r=r:=rfl
@[simp]theorem ZzR(a):top ρ (.no a) r=r:=rfl
@[simp]theorem Zwc(a):top ρ (.and a) r=r:=rfl
@[simp]theorem ZzQ(a):top ρ (.or a) r=r:=rfl
@[simp]theorem Zwb(op a b):top ρ (.cmp op a b) r=r:=rfl
@[simp]theorem ZuU(op op' a b c):top ρ (.cmp2 op op' a b c) r=r:=rfl
@[simp]theorem Zv6(a b c):top ρ (.ite a b c) r=r:=rfl
@[simp]theorem ZuV(a b):top ρ (.call a b) r=r:=rfl
@[simp]theorem ZzT(a b):top ρ (.bi a b) r=r:=rfl
@[simp]theorem Zv7(a b):top ρ (.isi a b) r=r:=rfl
@[simp]theorem Zv9(a b):top ρ (.idx a b) r=r:=rfl
@[simp]theorem ZzP(a b c):top ρ (.sl a b c) r=r:=rfl
@[simp]theorem fJ(a):top ρ (.tup a) r=r:=rfl
@[simp]theorem Zv5(a):top ρ (.lst a) r=r:=rfl
@[simp]theorem ZuT(a b c d):top ρ (.comp a b c d) r=r:=rfl
@[simp]theorem Zwa(a b):top ρ (.fld a b) r=r:=rfl
@[simp]theorem Zq4(a b c d):top ρ (.compT a b c d) r=r:=rfl
@[simp]theorem ZuQ(a):top ρ (.tupI a) r=r:=rfl
@[simp]theorem ZuS:top ρ .dnew r=r:=rfl
end
@[simp]theorem ZqQ(x:D×Ao)(ρ:Rho):Ge (Ab x::ρ) 0=.ok x.1:=rfl
@[simp]theorem ZqR(x:D)(ρ:Rho):FX (Ab (x,Ad)::ρ) 0=.ok x:=rfl
@[simp]theorem Zqw(x:Sl)(ρ:Rho)(i:Ag)[NeZero i]:Ge (x::ρ) i=Ge ρ (i-1):=by
 obtain⟨j,rfl⟩:∃ j,i=j+1:=⟨i-1,by have:=Ld i;omega⟩
 rfl
@[simp]theorem Zqx(x:Sl)(ρ:Rho)(i:Ag)[NeZero i]:FX (x::ρ) i=FX ρ (i-1):=by
 obtain⟨j,rfl⟩:∃ j,i=j+1:=⟨i-1,by have:=Ld i;omega⟩
 rfl
noncomputable def shV(ρ:Rho)(i:Ag):Ao:=match ρ[i]? with
    |some (Ab (_,Aa))=>Ad
    |_=>Aa
@[simp]theorem Zu0(x:D)(b:Ao)(ρ:Rho):shV (Ab (x,b)::ρ) 0=!b:=by cases b<;>rfl
@[simp]theorem Zrr(ρ:Rho):shV (Af::ρ) 0=Aa:=rfl
@[simp]theorem Zrs(x:Sl)(ρ:Rho)(i:Ag)[NeZero i]:shV (x::ρ) i=shV ρ (i-1):=by
 obtain⟨j,rfl⟩:∃ j,i=j+1:=⟨i-1,by have:=Ld i;omega⟩
 rfl
section
variable(ρ:Rho)
@[simp]theorem ZwC(i):shE ρ (.var i)=shV ρ i:=rfl
@[simp]theorem ZwF:shE ρ .non=Aa:=rfl
@[simp]theorem Zz6(b):shE ρ (.bl b)=Aa:=rfl
@[simp]theorem ZwJ(b):shE ρ (.int b)=Aa:=rfl
@[simp]theorem ZwE(b):shE ρ (.str b)=Aa:=rfl
@[simp]theorem Zu3(b):shE ρ (.glob b)=Aa:=rfl
@[simp]theorem ZwN(op a b):shE ρ (.bin op a b)=Aa:=rfl
@[simp]theorem Zz2(op a):shE ρ (.un op a)=Aa:=rfl
@[simp]theorem Zz5(a):shE ρ (.no a)=Aa:=rfl
@[simp]theorem ZwO(a):shE ρ (.and a)=Aa:=rfl
@[simp]theorem Zz4(a):shE ρ (.or a)=Aa:=rfl
@[simp]theorem ZwM(op a b):shE ρ (.cmp op a b)=Aa:=rfl
@[simp]theorem Zu6(op op' a b c):shE ρ (.cmp2 op op' a b c)=Aa:=rfl
@[simp]theorem ZwH(a b c):shE ρ (.ite a b c)=Aa:=rfl
@[simp]theorem Zu7(a b):shE ρ (.call a b)=Aa:=rfl
@[simp]theorem Zz7(a b):shE ρ (.bi a b)=Aa:=rfl
@[simp]theorem ZwI(a b):shE ρ (.isi a b)=Aa:=rfl
@[simp]theorem ZwK(a b):shE ρ (.idx a b)=Aa:=rfl
@[simp]theorem Zz3(a b c):shE ρ (.sl a b c)=Aa:=rfl
@[simp]theorem ZwD(a):shE ρ (.tup a)=Aa:=rfl
@[simp]theorem ZwG(a):shE ρ (.lst a)=Aa:=rfl
@[simp]theorem Zu5(a b c d):shE ρ (.comp a b c d)=Aa:=rfl
@[simp]theorem Zrt(a b c d):shE ρ (.compT a b c d)=Aa:=rfl
@[simp]theorem Zu2(a):shE ρ (.tupI a)=Aa:=rfl
@[simp]theorem Zu4:shE ρ .dnew=Aa:=rfl
@[simp]theorem ZwL(a b):shE ρ (.fld a b)=Aa:=rfl
@[simp]theorem Zu1:JE ρ .nil=Aa:=rfl
@[simp]theorem Zk(e es):JE ρ (.cons e es)=(shE ρ e&&JE ρ es):=rfl
end
@[simp]theorem Zqz(ρ:Rho):E6 [] [] ρ=Ab ρ:=rfl
@[simp]theorem Zn1(t ts d ds)(ρ:Rho):E6 (t::ts) (d::ds) ρ=E6 ts ds (ρ.set t (Ab (d,Ad))):=rfl
@[simp]theorem aI(ts ds)(ρ:Rho):HM ts (.lst ds) ρ=match E6 ts ds ρ with
  |some ρ'=>.ok ρ'
  |none=>.bad:=rfl
@[simp]theorem Zue(ts ds)(ρ:Rho):HM ts (.tup ds) ρ=GA ts (.tup ds) ρ:=rfl
@[simp]theorem RW(ts ds)(ρ:Rho):GA ts (.tup ds) ρ=match E6 ts ds ρ with
  |some ρ'=>.ok ρ'
  |none=>.bad:=rfl
@[simp]theorem ZvR{β:Type}(c:Prop)[Gf c](a b:R α)(f:α->R β):(if c then a else b).bind f=if c then a.bind f else b.bind f:=by split<;>rfl
@[simp]theorem ZAo(ρ:Rho)(c:Prop)[Gf c](a b:R α)(f:α->O):O.of ρ (if c then a else b) f=if c then O.of ρ a f else O.of ρ b f:=by split<;>rfl
@[simp]theorem Zx9{β:Type}(ρ:Rho)(a:R α)(g:α->R β)(f:β->O):O.of ρ (a.bind g) f=O.of ρ a fun x=>O.of ρ (g x) f:=by cases a<;>rfl
@[simp]theorem ZwQ(c:Prop)[Gf c](a b:O)(f:Rho->O):O.seq (if c then a else b) f=if c then a.seq f else b.seq f:=by split<;>rfl
@[simp]theorem ZuG(c:Prop)[Gf c](a b:O)(f:Rho->O):O.turn (if c then a else b) f=if c then a.turn f else b.turn f:=by split<;>rfl
@[simp]theorem ZzC(fr:Ao)(c:Prop)[Gf c](a b:O):O.ans fr (if c then a else b)=if c then a.ans fr else b.ans fr:=by split<;>rfl
@[simp]theorem Zu8(ρ f):O.seq (.next ρ) f=f ρ:=rfl
@[simp]theorem ZwP(d b f):O.seq (.ret d b) f=.ret d b:=rfl
@[simp]theorem ZwS(ρ f):O.seq (.brk ρ) f=.brk ρ:=rfl
@[simp]theorem Zu9(ρ f):O.seq (.cont ρ) f=.cont ρ:=rfl
@[simp]theorem ZwR(x ρ f):O.seq (.exn x ρ) f=.exn x ρ:=rfl
@[simp]theorem ZwT(f):O.seq .bad f=.bad:=rfl
@[simp]theorem IL(ρ f):O.turn (.next ρ) f=f ρ:=rfl
@[simp]theorem ZuF(d b f):O.turn (.ret d b) f=.ret d b:=rfl
@[simp]theorem ZuI(ρ f):O.turn (.brk ρ) f=.next ρ:=rfl
@[simp]theorem ZqW(ρ f):O.turn (.cont ρ) f=f ρ:=rfl
@[simp]theorem ZuH(x ρ f):O.turn (.exn x ρ) f=.exn x ρ:=rfl
@[simp]theorem ZuJ(f):O.turn .bad f=.bad:=rfl
@[simp]theorem ZvU(ρ):O.ans Ad (.next ρ)=.ok .non:=rfl
@[simp]theorem ZzB(d b):O.ans Ad (.ret d b)=.ok d:=rfl
@[simp]theorem ZvT(d b):O.ans Aa (.ret d b)=if (!b&&isL d)=Aa then .bad else .ok d:=rfl
@[simp]theorem ZyD(d):isL (.lst d)=Aa:=rfl
@[simp]theorem ZyC(d):isL (.tup d)=Ad:=rfl
@[simp]theorem ZyE(d):isL (.int d)=Ad:=rfl
@[simp]theorem ZzD(fr x ρ):O.ans fr (.exn x ρ)=.exn x:=rfl
@[simp]theorem ZzE(fr):O.ans fr .bad=.bad:=rfl
@[simp]theorem ZAW(i j:Ae):Dk .Add (.int i) (.int j)=.ok (.int (i+j)):=rfl
@[simp]theorem ZzX(i j:Ae):Dk .Sub (.int i) (.int j)=.ok (.int (i-j)):=rfl
@[simp]theorem pO(i j:Ae):Dk .Mult (.int i) (.int j)=if (Ei i j||E8 i j)=Aa then .ok (.int (i*j)) else .bad:=rfl
@[simp]theorem kN(i j:Ae):Dk .FloorDiv (.int i) (.int j)=if 0<j/\j<1073741824 then .ok (.int (i / j)) else .bad:=rfl
@[simp]theorem pP(i j:Ae):Dk .Mod (.int i) (.int j)=if 0<j then .ok (.int (i%j)) else .bad:=rfl
@[simp]theorem qD(i j:Ae):Dk .Pow (.int i) (.int j)=if (0<=j/\j<=1000000)/\(-(18446744073709551616:Ae)<i/\i<18446744073709551616) then .ok (.int (i ^ j.toNat)) else .bad:=rfl
@[simp]theorem sU(x y:Al):Dk .Add (.str x) (.str y)=if DM (x.length+y.length)=Aa then .ok (.str (x++y)) else .bad:=rfl
@[simp]theorem Vl(x y:Ac D):Dk .Add (.lst x) (.lst y)=if DM (x.length+y.length)=Aa then .ok (.lst (x++y)) else .bad:=rfl
@[simp]theorem sT(x y:Ac D):Dk .Add (.tup x) (.tup y)=if (!x.isEmpty&&DM (x.length+y.length))=Aa then .ok (.tup (x++y)) else .bad:=rfl
@[simp]theorem ZBu(i:Ae):unD .USub (.int i)=.ok (.int (-i)):=rfl
@[simp]theorem yA(x y:D):Cp .Eq x y=if (flD 5 x&&flD 5 y)=Aa then .ok (.bl (eqD x y)) else .bad:=rfl
@[simp]theorem xM(x y:D):Cp .NotEq x y=if (flD 5 x&&flD 5 y)=Aa then .ok (.bl (!eqD x y)) else .bad:=rfl
@[simp]theorem ZBv(i j:Ae):Cp .Lt (.int i) (.int j)=.ok (.bl (decide (i<j))):=rfl
@[simp]theorem ZBy(i j:Ae):Cp .LtE (.int i) (.int j)=.ok (.bl (decide (i<=j))):=rfl
@[simp]theorem ZBI(i j:Ae):Cp .Gt (.int i) (.int j)=.ok (.bl (decide (j<i))):=rfl
@[simp]theorem ZBJ(i j:Ae):Cp .GtE (.int i) (.int j)=.ok (.bl (decide (j<=i))):=rfl
@[simp]theorem Yv(x:D)(ys:Ac D):Cp .In x (.lst ys)=if (flD 5 x&&ys.all (flD 5))=Aa then .ok (.bl (ys.any fun y=>eqD y x)) else .bad:=rfl
@[simp]theorem Yu(x:D)(ys:Ac D):Cp .In x (.tup ys)=if (flD 5 x&&ys.all (flD 5))=Aa then .ok (.bl (ys.any fun y=>eqD y x)) else .bad:=rfl
@[simp]theorem xK(x:D)(ys:Ac D):Cp .NotIn x (.lst ys)=if (flD 5 x&&ys.all (flD 5))=Aa then .ok (.bl (!ys.any fun y=>eqD y x)) else .bad:=rfl
@[simp]theorem xJ(x:D)(ys:Ac D):Cp .NotIn x (.tup ys)=if (flD 5 x&&ys.all (flD 5))=Aa then .ok (.bl (!ys.any fun y=>eqD y x)) else .bad:=rfl
@[simp]theorem ZAA:Cp .Is .non .non=.ok (.bl Aa):=rfl
@[simp]theorem ZAC(i):Cp .Is (.int i) .non=.ok (.bl Ad):=rfl
@[simp]theorem ZAz(i):Cp .Is (.tup i) .non=.ok (.bl Ad):=rfl
@[simp]theorem ZAB(i):Cp .Is (.lst i) .non=.ok (.bl Ad):=rfl
@[simp]theorem ZBB(a b):Cp .Is (.bl a) (.bl b)=.ok (.bl (a==b)):=rfl
@[simp]theorem ZAx(a b):Cp .IsNot (.bl a) (.bl b)=.ok (.bl (!(a==b))):=rfl
@[simp]theorem Zys:Cp .IsNot .non .non=.ok (.bl Ad):=rfl
@[simp]theorem Zyu(i):Cp .IsNot (.int i) .non=.ok (.bl Aa):=rfl
@[simp]theorem Zyr(i):Cp .IsNot (.tup i) .non=.ok (.bl Aa):=rfl
@[simp]theorem Zyt(i):Cp .IsNot (.lst i) .non=.ok (.bl Aa):=rfl
@[simp]theorem Zzn(i j:Ae):eqD (.int i) (.int j)=(i==j):=rfl
@[simp]theorem ZAR(i j:Ao):eqD (.bl i) (.bl j)=(i==j):=rfl
@[simp]theorem Zzk(i j:Al):eqD (.str i) (.str j)=(i==j):=rfl
@[simp]theorem Zzj(i j:Ac D):eqD (.tup i) (.tup j)=eqDs i j:=rfl
@[simp]theorem Zzm(i j:Ac D):eqD (.lst i) (.lst j)=eqDs i j:=rfl
@[simp]theorem Zzl:eqD .non .non=Aa:=rfl
@[simp]theorem Zpz(i):eqD .non (.int i)=Ad:=rfl
@[simp]theorem ZpA(i):eqD (.int i) .non=Ad:=rfl
@[simp]theorem ZvK:eqDs [] []=Aa:=rfl
@[simp]theorem OM(x y:D)(xs ys:Ac D):eqDs (x::xs) (y::ys)=(eqD x y&&eqDs xs ys):=rfl
@[simp]theorem ZyR(n)(i:Ae):flD n (.int i)=Aa:=by cases n<;>rfl
@[simp]theorem ZAK(n)(i:Ao):flD n (.bl i)=Aa:=by cases n<;>rfl
@[simp]theorem ZyP(n)(i:Al):flD n (.str i)=Aa:=by cases n<;>rfl
@[simp]theorem ZyQ(n):flD n .non=Aa:=by cases n<;>rfl
@[simp]theorem Zvd(i):flD 5 (.tup i)=i.all (flD 4):=rfl
@[simp]theorem Zvi(i):flD 5 (.lst i)=i.all (flD 4):=rfl
@[simp]theorem Zve(i):flD 4 (.tup i)=i.all (flD 3):=rfl
@[simp]theorem Zvj(i):flD 4 (.lst i)=i.all (flD 3):=rfl
@[simp]theorem Zvf(i):flD 3 (.tup i)=i.all (flD 2):=rfl
@[simp]theorem Zvk(i):flD 3 (.lst i)=i.all (flD 2):=rfl
@[simp]theorem Zvg(i):flD 2 (.tup i)=i.all (flD 1):=rfl
@[simp]theorem Zvl(i):flD 2 (.lst i)=i.all (flD 1):=rfl
@[simp]theorem Zvh(i):flD 1 (.tup i)=i.all (flD 0):=rfl
@[simp]theorem Zvm(i):flD 1 (.lst i)=i.all (flD 0):=rfl
@[simp]theorem Zv0(b):CC (.bl b)=.ok b:=rfl
@[simp]theorem ZuN(i):CC (.int i)=.ok (i != 0):=rfl
@[simp]theorem ZuM(i):CC (.lst i)=.ok (!i.isEmpty):=rfl
@[simp]theorem ZuK(i):CC (.tup i)=.ok (!i.isEmpty):=rfl
@[simp]theorem ZuL:CC .non=.ok Ad:=rfl
@[simp]theorem Zv1(b):EF (.bl b)=.ok b:=rfl
@[simp]theorem ZuP(i):EF (.int i)=.ok (i != 0):=rfl
@[simp]theorem ZuO:EF .non=.ok Ad:=rfl
@[simp]theorem Zuo:GB []=.ok Aa:=rfl
@[simp]theorem Oq(x r):GB (x::r)=(EF x).bind fun b=>(GB r).bind fun c=>.ok (b&&c):=rfl
@[simp]theorem Zun:FK []=.ok Ad:=rfl
@[simp]theorem RY(x r):FK (x::r)=(EF x).bind fun b=>(FK r).bind fun c=>.ok (b||c):=rfl
@[simp]theorem Zzq(b)(d):EG b (.ok d)=.ok d:=by cases b<;>rfl
@[simp]theorem ZvM(b):EG b .bad=.bad:=by cases b<;>rfl
@[simp]theorem ZvL(c):EG Aa (.exn ⟨c,[]⟩)=.exn ⟨c,[]⟩:=rfl
@[simp]theorem ZqK(r):EG Ad r=noX r:=rfl
@[simp]theorem Zya(a:α):noX (.ok a)=.ok a:=rfl
@[simp]theorem Zyc:noX (.bad:R α)=.bad:=rfl
@[simp]theorem Zyb(x):noX (.exn x:R α)=.bad:=rfl
@[simp]theorem Zzz(b):DU (.bl b)=.ok b:=rfl
@[simp]theorem aJ(b):Fl (.int b)=.ok b:=rfl
@[simp]theorem Se(b):K4 (.lst b)=.ok b:=rfl
@[simp]theorem Zug(b):Cc (.lst b)=.ok b:=rfl
@[simp]theorem Zuf(b):Cc (.tup b)=.ok b:=rfl
@[simp]theorem xE(xs i):BW (.lst xs) (.int i)=D0 xs i:=rfl
@[simp]theorem xD(xs i):BW (.tup xs) (.int i)=D0 xs i:=rfl
@[simp]theorem ZBx(xs):biD .len [.lst xs]=.ok (.int xs.length):=rfl
@[simp]theorem ZBw(xs):biD .len [.tup xs]=.ok (.int xs.length):=rfl
@[simp]theorem ZBS(i):biD .abs [.int i]=.ok (.int (if i<0 then -i else i)):=rfl
@[simp]theorem ZAr(i j):biD .max [.int i,.int j]=.ok (.int (if i<j then j else i)):=rfl
@[simp]theorem ZAq(i j):biD .min [.int i,.int j]=.ok (.int (if j<i then j else i)):=rfl
@[simp]theorem ZBC(i):biD .int [.int i]=.ok (.int i):=rfl
@[simp]theorem ZBD(i):biD .int [.bl i]=.ok (.int (b2i i)):=rfl
@[simp]theorem ZAv(i):biD .list [.lst i]=.ok (.lst i):=rfl
@[simp]theorem ZAu(i):biD .list [.tup i]=.ok (.lst i):=rfl
@[simp]theorem ZvZ(i):biD .tuple [.lst i]=.ok (.tup i):=rfl
@[simp]theorem ZvY(i):biD .tuple [.tup i]=.ok (.tup i):=rfl
@[simp]theorem xV(i):biD .all [.lst i]=(GB i).bind fun b=>.ok (.bl b):=rfl
@[simp]theorem ZBQ(i):biD .any [.lst i]=(FK i).bind fun b=>.ok (.bl b):=rfl
@[simp]theorem ZBP(i):biD .any [.tup i]=(FK i).bind fun b=>.ok (.bl b):=rfl
@[simp]theorem ZBi(i):biD .sum [.lst i]=(GW 0 i).bind fun b=>.ok (.int b):=rfl
@[simp]theorem ZBh(i):biD .sum [.tup i]=(GW 0 i).bind fun b=>.ok (.int b):=rfl
@[simp]theorem ZuZ(i):biD .sorted [.lst i]=(Hc i).bind fun b=>.ok (.lst b):=rfl
@[simp]theorem ZBj(xs k):biD .stp [.lst xs,.int k]=.ok (.lst (Wc k.toNat xs)):=rfl
@[simp]theorem ZAs(xs):biD .lset [.lst xs]=K3 xs:=rfl
@[simp]theorem ZzU(x y):biD .tmin [x,y]=mmD Ad x y:=rfl
@[simp]theorem Vs(x y):biD .tlt [x,y]=HU x y:=rfl
@[simp]theorem ZzV(x y):biD .tmax [x,y]=mmD Aa x y:=rfl
@[simp]theorem Zzr(xs x):biD .count [.lst xs,x]=if (flD 5 x&&xs.all (flD 5))=Aa then .ok (.int ((xs.filter fun y=>eqD y x).length:Ag)) else .bad:=rfl
@[simp]theorem YT(xs lo hi):slD (.tup xs) lo hi=if (Iq xs.length 0 lo==0&&Iq xs.length xs.length hi==xs.length)=Aa then .bad else .ok (.tup (JC xs lo hi)):=rfl
@[simp]theorem ZB0(xs lo hi):slD (.lst xs) lo hi=.ok (.lst (JC xs lo hi)):=rfl
@[simp]theorem Zwz(d):slE .non d=.ok Af:=rfl
@[simp]theorem ZwA(k i):slE (.int k) (.int i)=.ok (Ab i):=rfl
@[simp]theorem Zwy(k i):slE (.var k) (.int i)=.ok (Ab i):=rfl
@[simp]theorem ZwB(op a b i):slE (.bin op a b) (.int i)=.ok (Ab i):=rfl
@[simp]theorem Zz0(op a i):slE (.un op a) (.int i)=.ok (Ab i):=rfl
@[simp]theorem Zz1(b as i):slE (.bi b as) (.int i)=.ok (Ab i):=rfl
@[simp]theorem Zyx(up ks):Fo up ks .non=if ks.any FO=Aa then .bad else .ok (.bl (ks.any fun k=>kiD up k .non)):=rfl
@[simp]theorem ZAy(up ks b):Fo up ks (.bl b)=if ks.any FO=Aa then .bad else .ok (.bl (ks.any fun k=>kiD up k (.bl b))):=rfl
@[simp]theorem Zyz(up ks b):Fo up ks (.int b)=if ks.any FO=Aa then .bad else .ok (.bl (ks.any fun k=>kiD up k (.int b))):=rfl
@[simp]theorem Zyw(up ks b):Fo up ks (.str b)=if ks.any FO=Aa then .bad else .ok (.bl (ks.any fun k=>kiD up k (.str b))):=rfl
@[simp]theorem Zyv(up ks b):Fo up ks (.tup b)=if ks.any FO=Aa then .bad else .ok (.bl (ks.any fun k=>kiD up k (.tup b))):=rfl
@[simp]theorem Zyy(up ks b):Fo up ks (.lst b)=if ks.any FO=Aa then .bad else .ok (.bl (ks.any fun k=>kiD up k (.lst b))):=rfl
@[simp]theorem ZyA(up ks c f):Fo up ks (.exc c f)=if ks.all FO=Aa then .ok (.bl (ks.any fun k=>kiD up k (.exc c f))) else .bad:=rfl
@[simp]theorem ZvQ(c):FO (.cls c)=Aa:=rfl
@[simp]theorem ZtI:FO .verr=Aa:=rfl
@[simp]theorem ZvP:FO .int=Ad:=rfl
@[simp]theorem ZtK:FO .bool=Ad:=rfl
@[simp]theorem ZvO:FO .str=Ad:=rfl
@[simp]theorem ZtJ:FO .list=Ad:=rfl
@[simp]theorem ZqL:FO .tuple=Ad:=rfl
@[simp]theorem ZqE(up i):kiD up .int (.int i)=Aa:=rfl
@[simp]theorem ZqD(up):kiD up .int .non=Ad:=rfl
@[simp]theorem Zpe(up i):kiD up .bool (.int i)=Ad:=rfl
@[simp]theorem ZqC(up i):kiD up .int (.tup i)=Ad:=rfl
@[simp]theorem ZqG(up i):kiD up .bool (.bl i)=Aa:=rfl
@[simp]theorem Zpd(up):kiD up .bool .non=Ad:=rfl
@[simp]theorem Zpc(up i):kiD up .list (.lst i)=Aa:=rfl
@[simp]theorem ZmK(up i):kiD up .tuple (.tup i)=Aa:=rfl
@[simp]theorem ZmL(up):kiD up .tuple .non=Ad:=rfl
@[simp]theorem ZqF(up c k f):kiD up (.cls c) (.exc k f)=(up k).contains c:=rfl
@[simp]theorem Zpb(up k f):kiD up .verr (.exc k f)=Aa:=rfl
theorem aR(xs:Ac D)(k:Ag)(h:k<xs.length):D0 xs (k:Ae)=.ok (xs[k]):=by
 unfold D0 plD;have h1:(0:Ae)<=k:=Int.natCast_nonneg k;have h2:(k:Ae)<(xs.length:Ag):=by omega
 rw[Az h1,Az h2];simp[h]
theorem MH{xs:Ac D}{i:Ae}{d:D}(h0:0<=i)(h:xs[i.toNat]?=Ab d):D0 xs i=.ok d:=by
 unfold D0 plD;obtain⟨h1,_⟩:=Ba.mp h;rw[Az h0,Az (by omega)]
 dsimp only;rw[h]
section
variable(Γ:Gam)(ρ:Rho)
@[simp]theorem Zvn:evSs Γ ρ .nil=.next ρ:=rfl
noncomputable def Gc(Γ:Gam)(ss:Ss)(o:O):O:=o.seq fun ρ'=>evSs Γ ρ' ss
@[simp]theorem Ztq(s ss):evSs Γ ρ (.cons s ss)=Gc Γ ss (evS Γ ρ s):=rfl
@[simp]theorem ZyK(ss):Gc Γ ss (.next ρ)=evSs Γ ρ ss:=rfl
@[simp]theorem ZAD(ss d b):Gc Γ ss (.ret d b)=.ret d b:=rfl
@[simp]theorem ZAH(ss):Gc Γ ss (.brk ρ)=.brk ρ:=rfl
@[simp]theorem ZyL(ss):Gc Γ ss (.cont ρ)=.cont ρ:=rfl
@[simp]theorem ZAG(ss x):Gc Γ ss (.exn x ρ)=.exn x ρ:=rfl
@[simp]theorem ZAI(ss):Gc Γ ss .bad=.bad:=rfl
@[simp]theorem ZAF(ss)(c:Prop)[Gf c](a b:O):Gc Γ ss (if c then a else b)=if c then Gc Γ ss a else Gc Γ ss b:=by split<;>rfl
@[simp]theorem ZAE(o:O):Gc Γ .nil o=o:=by cases o<;>rfl
noncomputable def CJ(Γ:Gam)(t:Ag)(body:Ss):D->Rho->O:=fun x ρ'=>evSs Γ (ρ'.set t (Ab (x,Ad))) body
noncomputable def whC(Γ:Gam)(c:E):Rho->R Ao:=fun ρ'=>(top ρ' c (evE Γ ρ' c)).bind CC
noncomputable def whB(Γ:Gam)(body:Ss):Rho->O:=fun ρ'=>evSs Γ ρ' body
noncomputable def QK(Γ:Gam)(t:Ag)(body:Ss)(ρ:Rho)(r:R (Ac D)):O:=O.of ρ r fun xs=>CS (CJ Γ t body) xs ρ
@[simp]theorem ZyN(t body xs):QK Γ t body ρ (.ok xs)=CS (CJ Γ t body) xs ρ:=rfl
@[simp]theorem Zvr:evS Γ ρ .pass=.next ρ:=rfl
@[simp]theorem ZyY(i e):evS Γ ρ (.asg i Ad e)=O.of ρ (evE Γ ρ e) fun d=>.next (ρ.set i (Ab (d,Ad))):=rfl
@[simp]theorem Zvu(e):evS Γ ρ (.expr e)=O.of ρ (evE Γ ρ e) fun _=>.next ρ:=rfl
@[simp]theorem ZyU(e):evS Γ ρ (.ret e)=O.of ρ (top ρ e (evE Γ ρ e)) fun d=>.ret d (Ez Γ e||(match e with | .var i=>(match ρ[i]? with|some (Ab (_,o))=>o|_=>Ad)|_=>Ad)):=rfl
@[simp]theorem Zvp:evS Γ ρ .retN=.ret .non Ad:=rfl
@[simp]theorem ZyV(c a b):evS Γ ρ (.ife c a b)=O.of ρ ((top ρ c (evE Γ ρ c)).bind CC) fun k=>if k=Aa then evSs Γ ρ a else evSs Γ ρ b:=rfl
@[simp]theorem Zvs(t it body):evS Γ ρ (.fors t it body)=QK Γ t body ρ (Iw Γ ρ it):=rfl
noncomputable def Ng(Γ:Gam)(ts:Ac Ag)(body:Ss):D->Rho->O:=fun x ρ'=>O.of ρ' (GA ts x ρ') fun ρ''=>evSs Γ ρ'' body
noncomputable def VS(Γ:Gam)(ts:Ac Ag)(body:Ss)(ρ:Rho)(r:R (Ac D)):O:=O.of ρ r fun xs=>CS (Ng Γ ts body) xs ρ
@[simp]theorem Zvc(t body xs):VS Γ t body ρ (.ok xs)=CS (Ng Γ t body) xs ρ:=rfl
@[simp]theorem Zvt(t it body):evS Γ ρ (.forT t it body)=VS Γ t body ρ (Iw Γ ρ it):=rfl
@[simp]theorem Zvw(ts e):evS Γ ρ (.asgT ts e)=O.of ρ (evE Γ ρ e) fun d=>O.of ρ (HM ts d ρ) fun ρ'=>.next ρ':=rfl
theorem aU(i e):evS Γ ρ (.asg i Aa e)=O.of ρ (evE Γ ρ e) fun d=>if Ez Γ e=Aa then (match d with
      |.lst xs=>.next (ρ.set i (Ab (.lst xs,Aa)))
      |.dic xs=>.next (ρ.set i (Ab (.dic xs,Aa)))
      | _=>.bad) else .bad:=rfl
noncomputable def setF(ρ:Rho)(i:Ag):D->O
 |.lst xs=>.next (ρ.set i (Ab (.lst xs,Aa)))
 |.dic xs=>.next (ρ.set i (Ab (.dic xs,Aa)))
 |_=>.bad
@[simp]theorem Zz8(i xs):setF ρ i (.lst xs)=.next (ρ.set i (Ab (.lst xs,Aa))):=rfl
@[simp]theorem Zz9(i xs):setF ρ i (.dic xs)=.next (ρ.set i (Ab (.dic xs,Aa))):=rfl
@[simp]theorem Ztr(i e):evS Γ ρ (.asg i Aa e)=O.of ρ (evE Γ ρ e) fun d=>if Ez Γ e=Aa then setF ρ i d else .bad:=by
 rw[aU]
 congr 1
@[simp]theorem ZyZ(i e):evS Γ ρ (.app i e)=O.of ρ (Du ρ i) fun xs=>O.of ρ (evE Γ ρ e) fun d=>if DM (xs.length+1)=Aa then .next (ρ.set i (Ab (.lst (xs++[d]),Aa))) else .bad:=rfl
@[simp]theorem kQ(i e):evS Γ ρ (.ext i e)=O.of ρ (Du ρ i) fun xs=>O.of ρ (evE Γ ρ e) fun d=>O.of ρ (K4 d) fun ys=>if DM (xs.length+ys.length)=Aa then .next (ρ.set i (Ab (.lst (xs++ys),Aa))) else .bad:=rfl
@[simp]theorem ZyT(i):evS Γ ρ (.rev i)=O.of ρ (Du ρ i) fun xs=>.next (ρ.set i (Ab (.lst xs.reverse,Aa))):=rfl
@[simp]theorem ZyW(i):evS Γ ρ (.clr i)=O.of ρ (Du ρ i) fun _=>.next (ρ.set i (Ab (.lst [],Aa))):=rfl
theorem TJ(i k e):evS Γ ρ (.put i k e)=O.of ρ (evE Γ ρ e) fun d=>O.of ρ (Du ρ i) fun xs=>O.of ρ ((top ρ k (evE Γ ρ k)).bind Fl) fun j=>match plD xs.length j with
      |some n=>.next (ρ.set i (Ab (.lst (xs.set n d),Aa)))
      |none=>.bad:=rfl
@[simp]theorem Zvo(body c x h):evS Γ ρ (.tryx body c x h)=match evSs Γ ρ body with
      | .exn y ρ'=>if (Γ.up y.c).contains c=Aa then (match evSs Γ (ρ'.set x (Ab (.exc y.c y.fs,Ad))) h with
          |.next ρ''=>.next (ρ''.set x Af)
          |.ret d f=>.ret d f
          | _=>.bad) else .bad
      |o=>o:=rfl
@[simp]theorem ZyS(c body):evS Γ ρ (.whl c body)=QC (whC Γ c) (whB Γ body) VP ρ:=rfl
@[simp]theorem Zvq(c as):evS Γ ρ (.rais c as)=O.of ρ (noX (evA Γ ρ as)) fun xs=>O.of ρ (Γ.xn c xs) fun x=>.exn x ρ:=rfl
@[simp]theorem ZyX:evS Γ ρ .brk=.brk ρ:=rfl
@[simp]theorem Zvv:evS Γ ρ .cont=.cont ρ:=rfl
end
end Ov
namespace Ov
open PySem
theorem OS{body:D->Rho->O}(P:Rho->Prop):∀(xs:Ac D)(ρ:Rho),P ρ->(∀ x∈xs,∀ ρ,P ρ->∃ ρ',body x ρ=.next ρ'/\P ρ')->∃ ρ',CS body xs ρ=.next ρ'/\P ρ'
 |[],ρ,h,_=>⟨ρ,rfl,h⟩
 |x::xs,ρ,h,k=>by
  obtain⟨ρ1,e1,h1⟩:=k x Ay ρ h;obtain⟨ρ2,e2,h2⟩:=OS P xs ρ1 h1 fun y hy=>k y (Au _ hy)
  exact⟨ρ2,by show (body x ρ).turn _=_;rw[e1];exact e2,h2⟩
theorem Z4(h1:0<=lo)(h2:lo<1000000)(h3:0<=hi)(h4:hi<1000000):Dt lo hi=.ok (FN lo (hi-lo).toNat):=by
 unfold Dt;rw[Az (by omega)]
theorem Z5(h3:0<=hi)(h4:hi<1000000):Dt 0 hi=.ok (FN 0 hi.toNat):=by
 rw[Z4 (by omega) (by omega) h3 h4,Jh]
theorem bS(h:x∈FN lo n):∃ k:Ag,k<n/\x=.int (lo+(k:Ae)):=by
 obtain⟨k,hk,e⟩:=Cw.mp h;exact⟨k,Ct.mp hk,e.symm⟩
theorem Os(lo:Ae)(n:Ag):(FN lo n).length=n:=by simp[FN]
theorem bW{i:Ag}(h:(FN lo n)[i]?=Ab x):i<n/\x=.int (lo+(i:Ae)):=by
 have hl:=(Ba.mp h).1;rw[Os]at hl;unfold FN at h;rw[D4,List.getElem?_range hl]at h;cases h;exact⟨hl,rfl⟩
noncomputable def Ss.take:Ag->Ss->Ss
 |0,_=>.nil
 |_,.nil=>.nil
 |n+1,.cons s ss=>.cons s (ss.take n)
noncomputable def Ss.drop:Ag->Ss->Ss
 |0,ss=>ss
 |_,.nil=>.nil
 |n+1,.cons _ ss=>ss.drop n
theorem MP(Γ:Gam):∀(n:Ag)(ss:Ss)(ρ:Rho),evSs Γ ρ ss=Gc Γ (ss.drop n) (evSs Γ ρ (ss.take n))
 |0,_,_=>rfl
 |_+1,.nil,_=>rfl
 |n+1,.cons s ss,ρ=>by
  show (evS Γ ρ s).seq (fun ρ'=>evSs Γ ρ' ss)=Gc Γ (ss.drop n) ((evS Γ ρ s).seq fun ρ'=>evSs Γ ρ' (ss.take n))
  cases evS Γ ρ s with
  |next ρ'=>exact MP Γ n ss ρ'
  |_=>rfl
end Ov
end
section
namespace OvC
open PySem Ov PyProof.Rows
variable{j:Ae}
noncomputable abbrev scr(ns:Ac Ae):D:=.lst (ns.map .int)
noncomputable abbrev sh(d:D):Sl:=Ab (d,Ad)
noncomputable abbrev si(i:Ae):Sl:=Ab (.int i,Ad)
theorem four{P:Ag->Prop}(h0:P 0)(h1:P 1)(h2:P 2)(h3:P 3):P (j%4).toNat:=by
 have:(j%4).toNat=0\/(j%4).toNat=1\/(j%4).toNat=2\/(j%4).toNat=3:=by omega
 rcases this with e|e|e|e<;>rw[e]<;>assumption
def P4(p:Ae):Prop:=p=3\/p=5\/p=7\/p=11
noncomputable def pr4(j:Ae):Ae:=[3,5,7,11].getD (j%4).toNat 0
theorem qC(j):P4 (pr4 j):=by
 unfold pr4;exact four (P:=fun j=>P4 ([3,5,7,11].getD j 0)) (.inl rfl) (.inr (.inl rfl)) (.inr (.inr (.inl rfl))) (.inr (.inr (.inr rfl)))
theorem P4.pos{p}(h:P4 p):0<p:=by rcases h with rfl|rfl|rfl|rfl<;>decide
theorem P4.lo{p}(h:P4 p):3<=p:=by rcases h with rfl|rfl|rfl|rfl<;>decide
theorem P4.hi{p}(h:P4 p):p<=11:=by rcases h with rfl|rfl|rfl|rfl<;>decide
theorem aQ(j:Ae):D0 [.int 3,.int 5,.int 7,.int 11] (j%4)=.ok (.int (pr4 j)):=by
 have h:=four (P:=fun j=>[D.int 3,D.int 5,D.int 7,D.int 11][j]?=Ab (D.int ([3,5,7,11].getD j 0))) (j:=j) rfl rfl rfl rfl
 exact MH (by omega) h
theorem HI{i:Ae}(h0:-18446744073709551616<i)(h1:i<18446744073709551616):Ei i j=Aa:=by simp[Ei];left;exact⟨h0,h1⟩
theorem MS{i:Ae}(h0:-18446744073709551616<j)(h1:j<18446744073709551616):Ei i j=Aa:=by simp[Ei];right;exact⟨h0,h1⟩
noncomputable def Qc:Df:=⟨2,Ad,(.cons (.ret (.bin .Mod (.var 1) (.var 0))) .nil)⟩
def Il(Γ:Gam):Prop:=∀ p n:Ae,0<p->Γ.F 1 [.int p,.int n]=.ok (.int (n%p))
theorem nM(Γ:Gam)(p n:Ae)(h:0<p):Qc.run Γ [.int p,.int n]=.ok (.int (n%p)):=by simp[Qc,Df.run,BH,h]
end OvC
end
namespace Ov
open PySem PySem.Spec PyProof.Rows L2
variable{A B:Ak->Prop}{H H' H1 H0:Hp}{a b l q:Ak}{xs vs:Ac V}{v:V}{d:D}{Rp Rq:Hp->V->D->Prop}{r:R D}{Q:VK}{X:Cx}{e c tg iter elt:At}{ρ:Rho}{i n j k t':Ag}{σ:L2.St}{g:D->D->R D}{op:ES}{K:Fg}{pI:Pn}{s:Ap}{items2 its ys us items:AQ Ai}{h h' h2:AS}{u y f0:Ai}{its2:Ac Ai}{es ifs:Ac At}{fs fi:Rho->R (Ac D)}{Q':Av Ae->Hp->Prop}{x:Al}{id T:DT}{p p2 pos pos' pos2 tpos:Bk}{f fc:Rho->R Ao}{α:Type}{Fz:Ak->HO->Prop}{D':Ends}{as:D->Rho->R Rho}{up:Ag->Ac Ag}{prog P:A8}{w:AN}{o o1:DB}{scope:CM}{env:CG}{cl:Ac (Al×Ak)}{N':Ac Al}{ts:Ac Ag}{fp:Ac Ak}{tt:TT}{te:TE}{J:It}{wi:TI}{P1 P2:Ag->Ai->Prop}{S1 S2:Ag->AS->Prop}{t f1:Ao}{ta:TA}{ps:Ac (Ak×Ac V)}
abbrev ClA:=Ag->Av Ak
variable{CL:ClA}
def KL(K:Fg)(a:Ak)(xs:Ac V):Prop:=∃(o:DB)(its:AQ Ai)(n:Ag),K.lookup a=Ab o/\o.cls=.type "list"/\o.dict=Af/\o.data=.seq its n/\its.size<=sizeLine/\Br xs its.toList
def KT(K:Fg)(a:Ak)(xs:Ac V):Prop:=∃(o:DB)(its:AQ Ai)(n:Ag),K.lookup a=Ab o/\o.cls=.type "tuple"/\o.data=.seq its n/\its.size<=sizeLine/\Br xs its.toList
section
variable(K:Fg)(CL:ClA)(H:Hp)(A:Ak->Prop)
mutual
def Rep:V->D->Prop
 |v,.non=>v=.non
 |v,.bl b=>v=.bl b
 |v,.int i=>v=.int i
 |v,.str x=>v=.str x
 |v,.tup ds=>∃ a xs,v=.ref a/\(¬ A a\/KT K a xs)/\SqT K H a xs/\Reps xs ds
 |v,.lst ds=>∃ a xs,v=.ref a/\(¬ A a\/KL K a xs)/\SqL K H a xs/\Reps xs ds
 |v,.obj c fs=>∃ a C dx vs,v=.ref a/\¬ A a/\CL c=Ab C/\H a=Ab (.ins C dx vs)/\Repf vs fs
 |_,.dic _=>BK
 |v,.exc c fs=>∃ a C φ,v=.ref a/\¬ A a/\CL c=Ab C/\H a=Ab (.ext φ)/\(∀ h,φ h->∃ o,h.get? a=Ab o/\o.cls=.ref C)/\(fs=[]\/∃ dx vs,¬ A dx/\H dx=Ab (.xd vs)/\Repf vs fs/\∀ h,φ h->∃ o,h.get? a=Ab o/\o.dict=Ab dx)
def Reps:Ac V->Ac D->Prop
 |[],[]=>IK
 |v::vs,d::ds=>Rep v d/\Reps vs ds
 |_,_=>BK
def Repf:Ac (Al×V)->Ac (Al×D)->Prop
 |[],[]=>IK
 |v::vs,d::ds=>Repp v d/\Repf vs ds
 |_,_=>BK
def Repp:Al×V->Al×D->Prop
 |v,(n,d)=>v.1=n/\Rep v.2 d
end
def C3(v:V)(d:D):Prop:=Rep K CL H A v d\/∃ a xs ds,v=.ref a/\d=.lst ds/\H a=Ab (.lst xs)/\Reps K CL H A xs ds
end
def Kp(A:Ak->Prop)(H H':Hp):Prop:=∀ b o,H b=Ab o->¬ A b->H' b=Ab o
def AOk(H:Hp)(A:Ak->Prop):Prop:=∀ a,A a->∃ xs,H a=Ab (.lst xs)
theorem Kp.of(h:AO H H'):Kp A H H':=fun b o e _=>h b o e
theorem AOk.same(h:AOk H A)(s:AO H H'):AOk H' A:=fun a ha=>let ⟨xs,e⟩:=h a ha;⟨xs,s _ _ e⟩
theorem AOk.new{p:Ak}(h:AOk H A)(e:H p=Af):¬ A p:=fun ha=>by
 obtain⟨xs,q⟩:=h p ha;rw[e]at q;cases q
section
variable{K:Fg}{CL:ClA}{H H':Hp}{A B:Ak->Prop}
theorem Vv{u:HO}(k:Kp A H H')(na:¬ A a)(h:Rd H a u):Rd H' a u:=by
 rcases h with h|⟨o,h⟩
 ·exact .inl (k _ _ h na)
 ·exact .inr ⟨o,k _ _ h na⟩
theorem Nb(k:Kp A H H')(na:¬ A a\/KL K a xs)(h:SqL K H a xs):SqL K H' a xs:=na.elim (fun na=>h.imp (Vv k na) id) .inr
theorem Na(k:Kp A H H')(na:¬ A a\/KT K a xs)(h:SqT K H a xs):SqT K H' a xs:=na.elim (fun na=>h.imp (Vv k na) id) .inr
mutual
theorem Rep.kp(k:Kp A H H'):∀{v:V}(d:D),Rep K CL H A v d->Rep K CL H' A v d
 |_,.non,h=>h
 |_,.bl _,h=>h
 |_,.int _,h=>h
 |_,.str _,h=>h
 |_,.dic _,h=>h.elim
 |_,.tup ds,h=>by
  obtain⟨a,xs,e,na,s,r⟩:=h;exact⟨a,xs,e,na,by first|exact Na k na s|exact Nb k na s,Reps.kp k ds r⟩
 |_,.lst ds,h=>by
  obtain⟨a,xs,e,na,s,r⟩:=h;exact⟨a,xs,e,na,by first|exact Na k na s|exact Nb k na s,Reps.kp k ds r⟩
 |_,.obj c fs,h=>by
  obtain⟨a,C,dx,vs,e,na,c,s,r⟩:=h;exact⟨a,C,dx,vs,e,na,c,k _ _ s na,Repf.kp k fs r⟩
 |_,.exc c fs,h=>by
  obtain⟨a,C,φ,e,na,c,s,p,q⟩:=h;refine⟨a,C,φ,e,na,c,k _ _ s na,p,q.imp id ?_⟩;rintro⟨dx,vs,nx,s2,r,z⟩;exact⟨dx,vs,nx,k _ _ s2 nx,Repf.kp k fs r,z⟩
theorem Reps.kp(k:Kp A H H'):∀{vs:Ac V}(ds:Ac D),Reps K CL H A vs ds->Reps K CL H' A vs ds
 |[],[],h=>h
 |_::_,d::ds,h=>⟨Rep.kp k d h.1,Reps.kp k ds h.2⟩
 |[],_::_,h=>h.elim
 |_::_,[],h=>h.elim
theorem Repf.kp(k:Kp A H H'):∀{vs:Ac (Al×V)}(ds:Ac (Al×D)),Repf K CL H A vs ds->Repf K CL H' A vs ds
 |[],[],h=>h
 |_::_,d::ds,h=>⟨Repp.kp k d h.1,Repf.kp k ds h.2⟩
 |[],_::_,h=>h.elim
 |_::_,[],h=>h.elim
theorem Repp.kp(k:Kp A H H'):∀{v:Al×V}(d:Al×D),Repp K CL H A v d->Repp K CL H' A v d
 |_,(_,d),h=>⟨h.1,Rep.kp k d h.2⟩
end
mutual
theorem Rep.sub(k:∀ a,B a->A a):∀{v:V}(d:D),Rep K CL H A v d->Rep K CL H B v d
 |_,.non,h=>h
 |_,.bl _,h=>h
 |_,.int _,h=>h
 |_,.str _,h=>h
 |_,.dic _,h=>h.elim
 |_,.tup ds,h=>by
  obtain⟨a,xs,e,na,s,r⟩:=h;exact⟨a,xs,e,na.imp (fun na z=>na (k _ z)) id,s,Reps.sub k ds r⟩
 |_,.lst ds,h=>by
  obtain⟨a,xs,e,na,s,r⟩:=h;exact⟨a,xs,e,na.imp (fun na z=>na (k _ z)) id,s,Reps.sub k ds r⟩
 |_,.obj c fs,h=>by
  obtain⟨a,C,dx,vs,e,na,c,s,r⟩:=h;exact⟨a,C,dx,vs,e,fun z=>na (k _ z),c,s,Repf.sub k fs r⟩
 |_,.exc c fs,h=>by
  obtain⟨a,C,φ,e,na,c,s,p,q⟩:=h;refine⟨a,C,φ,e,fun z=>na (k _ z),c,s,p,q.imp id ?_⟩
  rintro⟨dx,vs,nx,s2,r,z⟩;exact⟨dx,vs,fun z=>nx (k _ z),s2,Repf.sub k fs r,z⟩
theorem Reps.sub(k:∀ a,B a->A a):∀{vs:Ac V}(ds:Ac D),Reps K CL H A vs ds->Reps K CL H B vs ds
 |[],[],h=>h
 |_::_,d::ds,h=>⟨Rep.sub k d h.1,Reps.sub k ds h.2⟩
 |[],_::_,h=>h.elim
 |_::_,[],h=>h.elim
theorem Repf.sub(k:∀ a,B a->A a):∀{vs:Ac (Al×V)}(ds:Ac (Al×D)),Repf K CL H A vs ds->Repf K CL H B vs ds
 |[],[],h=>h
 |_::_,d::ds,h=>⟨Repp.sub k d h.1,Repf.sub k ds h.2⟩
 |[],_::_,h=>h.elim
 |_::_,[],h=>h.elim
theorem Repp.sub(k:∀ a,B a->A a):∀{v:Al×V}(d:Al×D),Repp K CL H A v d->Repp K CL H B v d
 |_,(_,d),h=>⟨h.1,Rep.sub k d h.2⟩
end
mutual
theorem Rep.wide(hp:∀ a,B a->A a\/H a=Af):∀{v:V}(d:D),Rep K CL H A v d->Rep K CL H B v d
 |_,.non,h=>h
 |_,.bl _,h=>h
 |_,.int _,h=>h
 |_,.str _,h=>h
 |_,.dic _,h=>h.elim
 |_,.tup ds,h=>by
  obtain⟨a,xs,e,na,s,r⟩:=h;refine⟨a,xs,e,?_,s,Reps.wide hp ds r⟩;rcases s with s|s
  ·refine na.imp (fun na z=>(hp _ z).elim na fun e=>?_) id
   rcases s with s|⟨o,s⟩<;>rw[e]at s<;>cases s
  ·exact .inr s
 |_,.lst ds,h=>by
  obtain⟨a,xs,e,na,s,r⟩:=h;refine⟨a,xs,e,?_,s,Reps.wide hp ds r⟩;rcases s with s|s
  ·refine na.imp (fun na z=>(hp _ z).elim na fun e=>?_) id
   rcases s with s|⟨o,s⟩<;>rw[e]at s<;>cases s
  ·exact .inr s
 |_,.obj c fs,h=>by
  obtain⟨a,C,dx,vs,e,na,c,s,r⟩:=h;exact⟨a,C,dx,vs,e,(fun z=>(hp _ z).elim na fun e=>by rw[e]at s;cases s),c,s,Repf.wide hp fs r⟩
 |_,.exc c fs,h=>by
  obtain⟨a,C,φ,e,na,c,s,p,q⟩:=h;refine⟨a,C,φ,e,(fun z=>(hp _ z).elim na fun e=>by rw[e]at s;cases s),c,s,p,q.imp id ?_⟩
  rintro⟨dx,vs,nx,s2,r,z⟩;exact⟨dx,vs,(fun z=>(hp _ z).elim nx fun e=>by rw[e]at s2;cases s2),s2,Repf.wide hp fs r,z⟩
theorem Reps.wide(hp:∀ a,B a->A a\/H a=Af):∀{vs:Ac V}(ds:Ac D),Reps K CL H A vs ds->Reps K CL H B vs ds
 |[],[],h=>h
 |_::_,d::ds,h=>⟨Rep.wide hp d h.1,Reps.wide hp ds h.2⟩
 |[],_::_,h=>h.elim
 |_::_,[],h=>h.elim
theorem Repf.wide(hp:∀ a,B a->A a\/H a=Af):∀{vs:Ac (Al×V)}(ds:Ac (Al×D)),Repf K CL H A vs ds->Repf K CL H B vs ds
 |[],[],h=>h
 |_::_,d::ds,h=>⟨Repp.wide hp d h.1,Repf.wide hp ds h.2⟩
 |[],_::_,h=>h.elim
 |_::_,[],h=>h.elim
theorem Repp.wide(hp:∀ a,B a->A a\/H a=Af):∀{v:Al×V}(d:Al×D),Repp K CL H A v d->Repp K CL H B v d
 |_,(_,d),h=>⟨h.1,Rep.wide hp d h.2⟩
end
theorem Rep.same(s:AO H H')(h:Rep K CL H A v d):Rep K CL H' A v d:=Rep.kp (Kp.of s) d h
theorem Reps.same{v:Ac V}{d:Ac D}(s:AO H H')(h:Reps K CL H A v d):Reps K CL H' A v d:=Reps.kp (Kp.of s) d h
theorem C3.same{v:V}{d:D}(s:AO H H')(h:C3 K CL H A v d):C3 K CL H' A v d:=by
 rcases h with h|⟨a,xs,ds,e,e2,q,r⟩
 ·exact .inl (h.same s)
 ·exact .inr ⟨a,xs,ds,e,e2,s _ _ q,r.same s⟩
theorem Reps.length:∀{vs:Ac V}{ds:Ac D},Reps K CL H A vs ds->vs.length=ds.length
 |[],[],_=>rfl
 |_::_,_::_,h=>congrArg (· + 1) (Reps.length h.2)
 |[],_::_,h=>h.elim
 |_::_,[],h=>h.elim
theorem Reps.append:∀{vs ws:Ac V}{ds es:Ac D},Reps K CL H A vs ds->Reps K CL H A ws es->Reps K CL H A (vs++ws) (ds++es)
 |[],_,[],_,_,h=>h
 |_::_,_,_::_,_,h,g=>⟨h.1,Reps.append h.2 g⟩
 |[],_,_::_,_,h,_=>h.elim
 |_::_,_,[],_,h,_=>h.elim
theorem Reps.get:∀{vs:Ac V}{ds:Ac D}{i:Ag}{d:D},Reps K CL H A vs ds->ds[i]?=Ab d->∃ v,vs[i]?=Ab v/\Rep K CL H A v d
 |[],[],_,_,_,e=>by simp at e
 |v::_,_::_,0,_,h,e=>by simp at e;subst e;exact⟨v,rfl,h.1⟩
 |_::_,_::_,i+1,_,h,e=>by
  obtain⟨v,q,r⟩:=Reps.get (i:=i) h.2 (by simpa using e)
  exact⟨v,by simpa using q,r⟩
 |[],_::_,_,_,h,_=>h.elim
 |_::_,[],_,_,h,_=>h.elim
theorem Reps.take:∀{vs:Ac V}{ds:Ac D}(n:Ag),Reps K CL H A vs ds->Reps K CL H A (vs.take n) (ds.take n)
 |_,_,0,_=>trivial
 |[],[],_+1,_=>trivial
 |_::_,_::_,n+1,h=>⟨h.1,Reps.take n h.2⟩
 |[],_::_,_+1,h=>h.elim
 |_::_,[],_+1,h=>h.elim
theorem Reps.drop:∀{vs:Ac V}{ds:Ac D}(n:Ag),Reps K CL H A vs ds->Reps K CL H A (vs.drop n) (ds.drop n)
 |_,_,0,h=>h
 |[],[],_+1,_=>trivial
 |_::_,_::_,n+1,h=>Reps.drop n h.2
 |[],_::_,_+1,h=>h.elim
 |_::_,[],_+1,h=>h.elim
theorem Reps.set{x:V}{e:D}(r:Rep K CL H A x e):∀{vs:Ac V}{ds:Ac D}(n:Ag),Reps K CL H A vs ds->Reps K CL H A (vs.set n x) (ds.set n e)
 |[],[],_,_=>trivial
 |_::_,_::_,0,h=>⟨r,h.2⟩
 |_::_,_::_,n+1,h=>⟨h.1,Reps.set r n h.2⟩
 |[],_::_,_,h=>h.elim
 |_::_,[],_,h=>h.elim
end
structure Good (K:Fg) (CL:ClA) (A:Ak->Prop) (ρ:Rho) (σ:L2.St) (H:Hp):Prop where
 sh:∀(i:Ag)(d:D),ρ[i]?=Ab (Ab (d,Ad))->∃ v,σ[i]?=Ab (Ab v)/\Rep K CL H A v d
 ow:∀(i:Ag)(d:D),ρ[i]?=Ab (Ab (d,Aa))->∃ a xs ds,σ[i]?=Ab (Ab (.ref a))/\d=.lst ds/\A a/\H a=Ab (.lst xs)/\Reps K CL H A xs ds
 len:ρ.length=σ.length
theorem Good.same{K:Fg}{CL:ClA}{A:Ak->Prop}{ρ:Rho}{σ:L2.St}{H H':Hp}(g:Good K CL A ρ σ H)(s:AO H H'):Good K CL A ρ σ H':=
 ⟨fun i d e=>let ⟨v,q,r⟩:=g.sh i d e;⟨v,q,r.same s⟩,fun i d e=>let ⟨a,xs,ds,q,z,na,h,r⟩:=g.ow i d e;⟨a,xs,ds,q,z,na,s _ _ h,r.same s⟩,g.len⟩
abbrev XW:=Ex->Hp->Prop
variable{W:XW}
def Bx(Rp:Hp->V->D->Prop)(W:XW)(H:Hp)(r:R D)(Q:VK):Prop:=match r with
  |.ok d=>∀ v H',AO H H'->Rp H' v d->Q v H'
  |.exn x=>∀ H',AO H H'->W x H'
  |.bad=>BK
def Hi(Rp:Hp->Ac V->Ac D->Prop)(W:XW)(H:Hp)(r:R (Ac D))(Q:Ac V->Hp->Prop):Prop:=match r with
  |.ok d=>∀ v H',AO H H'->Rp H' v d->Q v H'
  |.exn x=>∀ H',AO H H'->W x H'
  |.bad=>BK
def Dr(W:XW)(H:Hp)(r:R Ao)(Q:Ao->Hp->Prop):Prop:=match r with
  |.ok b=>∀ H',AO H H'->Q b H'
  |.exn x=>∀ H',AO H H'->W x H'
  |.bad=>BK
theorem Bx.same(s:AO H H')(h:Bx Rp W H r Q):Bx Rp W H' r Q:=by
 cases r with
 |ok d=>exact fun v H2 s2 q=>h v H2 (s.trans s2) q
 |exn x=>exact fun H2 s2=>h H2 (s.trans s2)
 |bad=>exact h
theorem Dr.same{r:R Ao}{Q:Ao->Hp->Prop}(s:AO H H')(h:Dr W H r Q):Dr W H' r Q:=by
 cases r with
 |ok d=>exact fun H2 s2=>h H2 (s.trans s2)
 |exn x=>exact fun H2 s2=>h H2 (s.trans s2)
 |bad=>exact h
theorem Bx.bind{f:D->R D}{Q':VK}(h:Bx Rq W H (r.bind f) Q)(k:∀ d v H',r=.ok d->AO H H'->Rp H' v d->Bx Rq W H' (f d) Q->Q' v H'):Bx Rp W H r Q':=by
 cases r with
 |ok d=>exact fun v H2 s2 q=>k d v H2 rfl s2 q (Bx.same s2 h)
 |exn x=>exact h
 |bad=>exact h
section
variable(X:Cx)(CL:ClA)(W:XW)
def SE(e:At)(f:Rho->R D):Prop:=∀ A,PE X e (fun σ H Q=>AOk H A/\∃ ρ,Good X.K CL A ρ σ H/\Bx (fun H=>Rep X.K CL H A) W H (f ρ) Q)
def ST(e:At)(f:Rho->R D):Prop:=∀ A,PE X e (fun σ H Q=>AOk H A/\∃ ρ,Good X.K CL A ρ σ H/\Bx (fun H=>C3 X.K CL H A) W H (f ρ) Q)
def SB(e:At)(f:Rho->R Ao):Prop:=∀ A,PT X e (fun σ H Q=>AOk H A/\∃ ρ,Good X.K CL A ρ σ H/\Dr W H (f ρ) Q)
def SA(es:Ac At)(f:Rho->R (Ac D)):Prop:=∀ A,PA X es (fun σ H Q=>AOk H A/\∃ ρ,Good X.K CL A ρ σ H/\Hi (fun H=>Reps X.K CL H A) W H (f ρ) Q)
end
theorem PE.weak{t t':TE}(h:PE X e t)(k:∀ σ H Q,t' σ H Q->t σ H Q):PE X e t':=fun pI s σ H Q I q=>h pI s σ H Q I (k _ _ _ q)
theorem PT.weak{t t':TT}(h:PT X e t)(k:∀ σ H Q,t' σ H Q->t σ H Q):PT X e t':=fun pI s σ H Q I q=>h pI s σ H Q I (k _ _ _ q)
theorem PA.weak{e:Ac At}{t t':TA}(h:PA X e t)(k:∀ σ H Q,t' σ H Q->t σ H Q):PA X e t':=fun pos pI s σ H Q I q=>h pos pI s σ H Q I (k _ _ _ q)
noncomputable def OpD(X:Cx)(CL:ClA)(W:XW)(f:Ai->Ai->G5 Ai)(g:D->D->R D):Prop:=
 ∀ A,OpR X f (fun x y H Q=>AOk H A/\∃ dx dy,C3 X.K CL H A x dx/\C3 X.K CL H A y dy/\Bx (fun H=>Rep X.K CL H A) W H (g dx dy) Q)
section
variable{X:Cx}{CL:ClA}{W:XW}{a b c:At}{fa fb fc:Rho->R D}{pos:Bk}
theorem SE.st(h:SE X CL W a fa):ST X CL W a fa:=fun A=>PE.weak (h A) fun σ H Q ⟨hA,ρ,g,p⟩=>⟨hA,ρ,g,by
 cases e:fa ρ with
 |ok d=>rw[e]at p;exact fun v H' s r=>p v H' s (.inl r)
 |exn x=>rw[e]at p;exact p
 | bad=>rw[e]at p;exact p⟩
theorem SE.congr{f g:Rho->R D}(h:SE X CL W a f)(e:∀ ρ,g ρ=f ρ):SE X CL W a g:=fun A=>PE.weak (h A) fun σ H Q ⟨hA,ρ,q,p⟩=>⟨hA,ρ,q,by rw[<-e];exact p⟩
theorem Nn(h:PE X a (tC v))(r:∀ H A,AOk H A->Rep X.K CL H A v d):SE X CL W a (fun _=>.ok d):=fun A=>PE.weak h fun σ H Q ⟨hA,ρ,g,p⟩=>p v H (AO.refl H) (r H A hA)
theorem mT{i j}:SE X CL W (.Constant (.int i) j pos) (fun _=>.ok (.int i)):=Nn qO fun _ _ _=>rfl
theorem tO{b j}:SE X CL W (.Constant (.bool b) j pos) (fun _=>.ok (.bl b)):=Nn vY fun _ _ _=>rfl
theorem oU{j}:SE X CL W (.Constant .none j pos) (fun _=>.ok .non):=Nn qM fun _ _ _=>rfl
theorem oR{x j}:SE X CL W (.Constant (.str x) j pos) (fun _=>.ok (.str x)):=Nn qJ fun _ _ _=>rfl
theorem fI(h:FX ρ i=.ok d):ρ[i]?=Ab (Ab (d,Ad)):=by
 unfold FX at h;split at h
 ·rename_i e;cases h;exact e
 ·cases h
theorem Tu(h:Ge ρ i=.ok d):∃ o,ρ[i]?=Ab (Ab (d,o)):=by
 unfold Ge at h;split at h
 ·rename_i e;cases h;exact⟨_,e⟩
 ·cases h
theorem cI{x:Ex}(h:FX ρ i=.exn x):BK:=by
 unfold FX at h;split at h<;>cases h
theorem Tk{x:Ex}(h:Ge ρ i=.exn x):BK:=by
 unfold Ge at h;split at h<;>cases h
theorem oP(h:PE X a (Jb i)):SE X CL W a (fun ρ=>FX ρ i):=fun A=>PE.weak h fun σ H Q ⟨hA,ρ,g,p⟩=>by
 dsimp only at p;cases e:FX ρ i with
 |ok d=>
  rw[e]at p;obtain⟨v,q,r⟩:=g.sh i d (fI e);exact⟨v,q,p v H (AO.refl H) r⟩
 |exn x=>exact(cI e).elim
 |bad=>rw[e]at p;exact p.elim
theorem oC(h:PE X a (Jb i)):ST X CL W a (fun ρ=>Ge ρ i):=fun A=>PE.weak h fun σ H Q ⟨hA,ρ,g,p⟩=>by
 dsimp only at p;cases e:Ge ρ i with
 |ok d=>
  rw[e]at p;obtain⟨o,e⟩:=Tu e;cases o with
  |false=>
   obtain⟨v,q,r⟩:=g.sh i d e;exact⟨v,q,p v H (AO.refl H) (.inl r)⟩
  |true=>
   obtain⟨x,xs,ds,q,rfl,ha,hh,r⟩:=g.ow i d e;exact⟨_,q,p _ H (AO.refl H) (.inr ⟨x,xs,ds,rfl,rfl,hh,r⟩)⟩
 |exn x=>exact(Tk e).elim
 |bad=>rw[e]at p;exact p.elim
theorem op2(h:AOk H A/\∃ ρ,Good X.K CL A ρ σ H/\Bx Rq W H ((fa ρ).bind fun x=>(fb ρ).bind fun y=>g x y) Q):AOk H A/\∃ ρ,Good X.K CL A ρ σ H/\Bx (fun H=>C3 X.K CL H A) W H (fa ρ) (fun x H1=>AOk H1 A/\∃ ρ,Good X.K CL A ρ σ H1/\Bx (fun H=>C3 X.K CL H A) W H1 (fb ρ) (fun y H2=>AOk H2 A/\∃ dx dy,C3 X.K CL H2 A x dx/\C3 X.K CL H2 A y dy/\Bx Rq W H2 (g dx dy) Q)):=by
 obtain⟨hA,ρ,gd,p⟩:=h;refine⟨hA,ρ,gd,Bx.bind p fun dx x H1 _ s1 r1 p1=>⟨hA.same s1,ρ,gd.same s1,Bx.bind p1 fun dy y H2 _ s2 r2 p2=>⟨(hA.same s1).same s2,dx,dy,r1.same s2,r2,p2⟩⟩⟩
theorem Vh{op:HE}(ho:OpD X CL W (Cr op) g)(ha:ST X CL W a fa)(hb:ST X CL W b fb):SE X CL W (.BinOp a op b pos) (fun ρ=>(fa ρ).bind fun x=>(fb ρ).bind fun y=>g x y):=
 fun A=>PE.weak (VG (ho A) (ha A) (hb A)) fun σ H Q h=>op2 h
theorem Vg(ho:OpD X CL W (CN op) g)(ha:ST X CL W a fa)(hb:ST X CL W b fb)(hm:G7 op b=Ad):SE X CL W (.Compare a [op] [b] pos) (fun ρ=>(fa ρ).bind fun x=>(fb ρ).bind fun y=>g x y):=
 fun A=>PE.weak (gC (ho A) (ha A) (hb A) hm) fun σ H Q h=>op2 h
theorem C3.int_of{i:Ae}(h:C3 K CL H A v (.int i)):v=.int i:=by
 rcases h with h|⟨_,_,_,_,e,_⟩
 ·exact h
 ·cases e
theorem C3.str_of{i:Al}(h:C3 K CL H A v (.str i)):v=.str i:=by
 rcases h with h|⟨_,_,_,_,e,_⟩
 ·exact h
 ·cases e
theorem C3.bl_of{i:Ao}(h:C3 K CL H A v (.bl i)):v=.bl i:=by
 rcases h with h|⟨_,_,_,_,e,_⟩
 ·exact h
 ·cases e
theorem C3.non_of(h:C3 K CL H A v .non):v=.non:=by
 rcases h with h|⟨_,_,_,_,e,_⟩
 ·exact h
 ·cases e
theorem C3.lst_of{ds:Ac D}(h:C3 K CL H A v (.lst ds)):∃ a xs,v=.ref a/\SqL K H a xs/\Reps K CL H A xs ds:=by
 rcases h with ⟨a,xs,e,_,s,r⟩|⟨a,xs,es,rfl,e,s,r⟩
 ·exact⟨a,xs,e,s,r⟩
 ·cases e;exact⟨a,xs,rfl,SqL.of s,r⟩
theorem C3.tup_of{ds:Ac D}(h:C3 K CL H A v (.tup ds)):∃ a xs,v=.ref a/\(¬ A a\/KT K a xs)/\SqT K H a xs/\Reps K CL H A xs ds:=by
 rcases h with ⟨a,xs,e,n,s,r⟩|⟨_,_,_,_,e,_⟩
 ·exact⟨a,xs,e,n,s,r⟩
 ·cases e
theorem gQ{i j:Ae}(h:Ei i j=Aa):Nx i j:=by
 unfold Ei at h;simp only[Cu,An,AK]at h;unfold Nx;omega
theorem Uc{a:Ae}(h:a.natAbs<2 ^ 2000):Xc a<=2 ^ 20:=by
 unfold Xc;split
 ·omega
 ·rename_i hz;have h0:a.natAbs≠0:=by intro z;exact hz (by rw[Int.natAbs_eq_zero.mp z];rfl)
  have:=(Nat.log2_lt h0).mpr h;omega
theorem gP{i j:Ae}(h:(Ei i j||E8 i j)=Aa):Ln i j:=by
 rcases Bool.or_eq_true_iff.mp h with h|h
 ·exact(gQ h).ok
 ·unfold E8 at h;rw[An,AK,AK]at h;exact .of_bits (Uc h.1) (Uc h.2)
theorem gK:OpR X (Cr .Mult) (rI Ln fun i j=>.int (i*j)):=opI fun _ _ _ _ _ _ _ hc q=>mul_int q hc
theorem IM(h:DM n=Aa):n<=sizeLine:=by
 unfold DM at h;rw[CW];have:=EY h;omega
theorem TM{p:Ak}{ds:Ac D}(hA:AOk H A)(hp:H p=Af)(r:Reps K CL H A xs ds):Rep K CL (upd H p (.lst xs)) A (.ref p) (.lst ds):=
 ⟨p,xs,rfl,.inl (hA.new hp),SqL.of Jv,r.same fun b o e=>by rw[Ds (Ga e hp)];exact e⟩
theorem KI{p:Ak}{ds:Ac D}(hA:AOk H A)(hp:H p=Af)(r:Reps K CL H A xs ds):Rep K CL (upd H p (.tup xs)) A (.ref p) (.tup ds):=
 ⟨p,xs,rfl,.inl (hA.new hp),SqT.of Jv,r.same fun b o e=>by rw[Ds (Ga e hp)];exact e⟩
theorem F9{p:Ak}(h:H p=Af)(o:HO):AO H (upd H p o):=fun b u q=>by rw[Ds (Ga q h)];exact q
def vJ(K:Fg):R2:=fun x y H Q=>∃ l b xs zs,x=.ref l/\y=.ref b/\SqL K H l xs/\SqL K H b zs/\xs.length+zs.length<=sizeLine/\∀ p,H p=Af->Q (.ref p) (upd H p (.lst (xs++zs)))
end
section
variable{X:Cx}{CL:ClA}{W:XW}
theorem T8:OpR X (Cr .Add) (vJ X.K):=by
 intro pI s σ H x y v u Q I rx ry h;obtain⟨l,b,xs,zs,rfl,rfl,hH,hB,hz,q⟩:=h;cases rx;cases ry;obtain⟨its,r,⟨o,n,e,c,dd,dt⟩,z⟩:=I.list hH;obtain⟨its2,r2,⟨o2,n2,e2,c2,dd2,dt2⟩,z2⟩:=I.list hB;have hl:=r.length;have hl2:=r2.length;obtain⟨cls,dd0,data,sl⟩:=o;obtain⟨cls2,dd02,data2,sl2⟩:=o2;simp only at c dd dt c2 dd2 dt2;subst c dd dt c2 dd2 dt2;have ea:its.toArray++its2.toArray=(its++its2).toArray:=by simp
 refine Jq ⟨_,e,rfl⟩ ⟨_,e2,rfl⟩ noFill_list_add seq_list_add PySem.F.slot_list_add PySem.F.entry_list_add (PySem.F.args_list_add_2 _ _) (list_addW l b its.toArray its2.toArray n n2 Af Af sl sl2 (by simp;omega)) ⟨e,e2,?_⟩
 rw[ea];exact⟨.ref _,_,I.lnew (t':=s.toks) (r.append r2) (by rw[Cv];omega),rfl,q _ I.fresh⟩
theorem T7:OpD X CL W (Cr .Add) (Dk .Add):=by
 intro A pI s σ H x y v u Q I rx ry ⟨hA,dx,dy,hx,hy,p⟩;cases dx with
 |int i=>
  cases dy with
  |int j=>
   have ex:=hx.int_of;have ey:=hy.int_of
   subst ex ey;exact pJ pI s σ H _ _ v u Q I rx ry ⟨i,j,rfl,rfl,p _ H (AO.refl H) rfl⟩
  |_=>exact p.elim
 |str i=>
  cases dy with
  |str j=>
   have ex:=hx.str_of;have ey:=hy.str_of
   subst ex ey;simp only[sU]at p;split at p
   ·rename_i h;exact ZI pI s σ H _ _ v u Q I rx ry ⟨i,j,rfl,rfl,IM h,p _ H (AO.refl H) rfl⟩
   ·exact p.elim
  |_=>exact p.elim
 |lst ds=>
  cases dy with
  |lst es=>
   obtain⟨a,xs,rfl,s1,r1⟩:=hx.lst_of;obtain⟨b,ys,rfl,s2,r2⟩:=hy.lst_of;simp only[Vl]at p;split at p
   ·rename_i h;refine T8 pI s σ H _ _ v u Q I rx ry ⟨a,b,xs,ys,rfl,rfl,s1,s2,by rw[r1.length,r2.length];exact IM h,fun q hq=>?_⟩
    exact p _ _ (F9 hq _) (TM hA hq (r1.append r2))
   ·exact p.elim
  |_=>exact p.elim
 |tup ds=>
  cases dy with
  |tup es=>
   obtain⟨a,xs,rfl,na1,s1,r1⟩:=hx.tup_of;obtain⟨b,ys,rfl,_,s2,r2⟩:=hy.tup_of;simp only[sT]at p;split at p
   ·rename_i h;simp only[An]at h;refine gM pI s σ H _ _ v u Q I rx ry ⟨a,b,xs,ys,rfl,rfl,s1,s2,?_,by rw[r1.length,r2.length];exact IM h.2,fun hy0=>?_,fun _ q hq=>?_⟩
    ·rintro rfl;cases ds with
     |nil=>cases h.1
     |cons _ _=>exact r1.elim
    ·subst hy0;cases es with
     |nil=>rw[Dy]at p;exact p _ H (AO.refl H) ⟨a,xs,rfl,na1,s1,r1⟩
     |cons _ _=>exact r2.elim
    ·exact p _ _ (F9 hq _) (KI hA hq (r1.append r2))
   ·exact p.elim
  |_=>exact p.elim
 |_=>exact p.elim
theorem MQ{op:HE}{C:Ae->Ae->Prop}{g:Ae->Ae->Ae}(ho:OpR X (Cr op) (rI C fun i j=>.int (g i j)))(hg:∀ dx dy,(∃ i j,dx=.int i/\dy=.int j/\((C i j/\Dk op dx dy=.ok (.int (g i j)))\/Dk op dx dy=.bad))\/Dk op dx dy=.bad):OpD X CL W (Cr op) (Dk op):=by
 intro A pI s σ H x y v u Q I rx ry ⟨hA,dx,dy,hx,hy,p⟩;rcases hg dx dy with ⟨i,j,rfl,rfl,⟨c,e⟩|e⟩|e
 ·have ex:=hx.int_of;have ey:=hy.int_of
  subst ex ey;rw[e]at p;exact ho pI s σ H _ _ v u Q I rx ry ⟨i,j,rfl,rfl,c,p _ H (AO.refl H) rfl⟩
 ·rw[e]at p;exact p.elim
 ·rw[e]at p;exact p.elim
theorem gF:OpD X CL W (Cr .Sub) (Dk .Sub):=by
 intro A pI s σ H x y v u Q I rx ry ⟨hA,dx,dy,hx,hy,p⟩;cases dx with
 |int i=>
  cases dy with
  |int j=>
   have ex:=hx.int_of;have ey:=hy.int_of
   subst ex ey;exact qT pI s σ H _ _ v u Q I rx ry ⟨i,j,rfl,rfl,p _ H (AO.refl H) rfl⟩
  |_=>exact p.elim
 |_=>exact p.elim
theorem gH:OpD X CL W (Cr .Mult) (Dk .Mult):=MQ gK fun dx dy=>by
 cases dx with
 |int i=>
  cases dy with
  |int j=>
   refine .inl ⟨i,j,rfl,rfl,?_⟩;rw[pO];split
   ·rename_i h;exact .inl ⟨gP h,rfl⟩
   ·exact .inr rfl
  |_=>exact .inr rfl
 |_=>exact .inr rfl
theorem bO:OpD X CL W (Cr .FloorDiv) (Dk .FloorDiv):=MQ gL fun dx dy=>by
 cases dx with
 |int i=>
  cases dy with
  |int j=>
   refine .inl ⟨i,j,rfl,rfl,?_⟩;rw[kN];split
   ·rename_i h;exact .inl ⟨h,rfl⟩
   ·exact .inr rfl
  |_=>exact .inr rfl
 |_=>exact .inr rfl
theorem gI:OpD X CL W (Cr .Mod) (Dk .Mod):=MQ pG fun dx dy=>by
 cases dx with
 |int i=>
  cases dy with
  |int j=>
   refine .inl ⟨i,j,rfl,rfl,?_⟩;rw[pP];split
   ·rename_i h;exact .inl ⟨h,rfl⟩
   ·exact .inr rfl
  |_=>exact .inr rfl
 |_=>exact .inr rfl
theorem gG:OpD X CL W (Cr .Pow) (Dk .Pow):=MQ qU fun dx dy=>by
 cases dx with
 |int i=>
  cases dy with
  |int j=>
   refine .inl ⟨i,j,rfl,rfl,?_⟩;rw[qD];split
   ·rename_i h;exact .inl ⟨⟨h.1.1,h.1.2,by omega⟩,rfl⟩
   ·exact .inr rfl
  |_=>exact .inr rfl
 |_=>exact .inr rfl
theorem T6(op:HE):OpD X CL W (Cr op) (Dk op):=by
 cases op with
 |Add=>exact T7
 |Sub=>exact gF
 |Mult=>exact gH
 |FloorDiv=>exact bO
 |Mod=>exact gI
 |Pow=>exact gG
 |_=>
  intro A pI s σ H x y v u Q I rx ry ⟨hA,dx,dy,hx,hy,p⟩;cases dx<;>cases dy<;>exact p.elim
noncomputable abbrev A0:Ak->Prop:=fun _=>BK
theorem C3.plain(h:C3 K CL H A v d):Rep K CL H A0 v d:=by
 rcases h with h|⟨a,xs,ds,rfl,rfl,e,r⟩
 ·exact Rep.sub (fun _ z=>z.elim) d h
 ·exact⟨a,xs,rfl,.inl fun z=>z.elim,SqL.of e,Reps.sub (fun _ z=>z.elim) ds r⟩
mutual
theorem aV:∀(n:Ag)(d:D),flD n d=Aa->eqD d d=Aa
 |_,.non,_=>rfl
 |_,.bl b,_=>by simp
 |_,.int i,_=>by simp
 |_,.str x,_=>by simp
 |n+1,.tup ds,h=>by
  show eqDs ds ds=Aa;exact eqDs_refl n ds h
 |n+1,.lst ds,h=>by
  show eqDs ds ds=Aa;exact eqDs_refl n ds h
 |0,.tup ds,h=>by cases h
 |0,.lst ds,h=>by cases h
 |n,.obj _ _,h=>by cases n<;>cases h
 |n,.exc _ _,h=>by cases n<;>cases h
 |n,.dic _,h=>by cases n<;>cases h
theorem eqDs_refl:∀(n:Ag)(ds:Ac D),ds.all (flD n)=Aa->eqDs ds ds=Aa
 |_,[],_=>rfl
 |n,d::ds,h=>by
  simp only[EJ,An]at h;simp only[OM,An];exact⟨aV n d h.1,eqDs_refl n ds h.2⟩
end
theorem RZ{ys:Ac V}(I:Inv X pI σ H s)(h:SqL X.K H a xs)(h':SqT X.K H a ys):BK:=by
 obtain⟨its,r,⟨o,n,e,c,_,_⟩,_⟩:=I.list h;obtain⟨its',r',⟨o',e',c',_⟩,_⟩:=I.tuple h';rw[e]at e';cases e';rw[c]at c'
 injection c' with z
 exact absurd z (by decide)
mutual
theorem MW{pI:Pn}{σ:L2.St}{H:Hp}{s:Ap}(I:Inv X pI σ H s):∀(n:Ag)(d e:D){v:V},flD n d=Aa->flD n e=Aa->Rep X.K CL H A0 v d->Rep X.K CL H A0 v e->d=e
 |n,.tup ds,e,v,hd,he,r,q=>by
  obtain⟨a,xs,rfl,_,s1,r1⟩:=r;cases e with
  |tup es=>
   obtain⟨b,ys,e,_,s2,r2⟩:=q;cases e;have z:=I.tuple_inj s1 s2;subst z;cases n with
   |zero=>cases hd
   |succ n=>rw[reps_inj I n ds es hd he r1 r2]
  |lst es=>
   obtain⟨b,ys,e,_,s2,r2⟩:=q;cases e;exact(RZ I s2 s1).elim
  |obj=>cases n<;>cases he
  |exc=>cases n<;>cases he
  |dic=>cases n<;>cases he
  |_=>cases q
 |n,.lst ds,e,v,hd,he,r,q=>by
  obtain⟨a,xs,rfl,_,s1,r1⟩:=r;cases e with
  |lst es=>
   obtain⟨b,ys,e,_,s2,r2⟩:=q;cases e;have z:=I.list_inj s1 s2;subst z;cases n with
   |zero=>cases hd
   |succ n=>rw[reps_inj I n ds es hd he r1 r2]
  |tup es=>
   obtain⟨b,ys,e,_,s2,r2⟩:=q;cases e;exact(RZ I s1 s2).elim
  |obj=>cases n<;>cases he
  |exc=>cases n<;>cases he
  |dic=>cases n<;>cases he
  |_=>cases q
 |n,.obj _ _,e,v,hd,he,r,q=>by cases n<;>cases hd
 |n,.exc _ _,e,v,hd,he,r,q=>by cases n<;>cases hd
 |n,.dic _,e,v,hd,he,r,q=>by cases n<;>cases hd
 |n,.non,e,v,hd,he,r,q=>by
  cases r;cases e with
  |tup=>obtain⟨_,_,z,_⟩:=q;cases z
  |lst=>obtain⟨_,_,z,_⟩:=q;cases z
  |obj=>cases n<;>cases he
  |exc=>cases n<;>cases he
  |dic=>cases n<;>cases he
  |_=>cases q<;>rfl
 |n,.bl b,e,v,hd,he,r,q=>by
  cases r;cases e with
  |tup=>obtain⟨_,_,z,_⟩:=q;cases z
  |lst=>obtain⟨_,_,z,_⟩:=q;cases z
  |obj=>cases n<;>cases he
  |exc=>cases n<;>cases he
  |dic=>cases n<;>cases he
  |_=>cases q<;>rfl
 |n,.int b,e,v,hd,he,r,q=>by
  cases r;cases e with
  |tup=>obtain⟨_,_,z,_⟩:=q;cases z
  |lst=>obtain⟨_,_,z,_⟩:=q;cases z
  |obj=>cases n<;>cases he
  |exc=>cases n<;>cases he
  |dic=>cases n<;>cases he
  |_=>cases q<;>rfl
 |n,.str b,e,v,hd,he,r,q=>by
  cases r;cases e with
  |tup=>obtain⟨_,_,z,_⟩:=q;cases z
  |lst=>obtain⟨_,_,z,_⟩:=q;cases z
  |obj=>cases n<;>cases he
  |exc=>cases n<;>cases he
  |dic=>cases n<;>cases he
  |_=>cases q<;>rfl
theorem reps_inj{pI:Pn}{σ:L2.St}{H:Hp}{s:Ap}(I:Inv X pI σ H s):∀(n:Ag)(ds es:Ac D){xs:Ac V},ds.all (flD n)=Aa->es.all (flD n)=Aa->Reps X.K CL H A0 xs ds->Reps X.K CL H A0 xs es->ds=es
 |_,[],[],_,_,_,_,_=>rfl
 |n,d::ds,e::es,x::xs,hd,he,r,q=>by
  simp only[EJ,An]at hd he;rw[MW I n d e hd.1 he.1 r.1 q.1,reps_inj I n ds es hd.2 he.2 r.2 q.2]
 |_,[],_::_,[],_,_,_,q=>q.elim
 |_,[],_::_,_::_,_,_,r,_=>r.elim
 |_,_::_,[],[],_,_,r,_=>r.elim
 |_,_::_,[],_::_,_,_,_,q=>q.elim
 |_,_::_,_::_,[],_,_,r,_=>r.elim
end
theorem LN:∀{ds es:Ac D},ds.length≠es.length->eqDs ds es=Ad
 |[],[],h=>absurd rfl h
 |[],_::_,_=>rfl
 |_::_,[],_=>rfl
 |d::ds,e::es,h=>by
  simp only[OM,LN (ds:=ds) (es:=es) (by simpa using h),FP]
theorem Rn(n:Ag)(f:Ag->Ao):(Bb (n+1)).all f=(f 0&&(Bb n).all fun j=>f (j+1)):=by
 rw[WR,EJ,Wt];rfl
theorem LO:∀{ds es:Ac D},ds.length=es.length->eqDs ds es=(Bb ds.length).all fun j=>eqD (ds.getD j .non) (es.getD j .non)
 |[],[],_=>rfl
 |d::ds,e::es,h=>by
  rw[OM,LO (ds:=ds) (es:=es) (by simpa using h),Cm,Rn]
  rfl
 |[],_::_,h=>by cases h
 |_::_,[],h=>by cases h
theorem J2{ds:Ac D}{its:Ac Ai}(r:Reps K CL H A0 xs ds)(rv:Br xs its)(h:j<its.length):∃ x,Rep K CL H A0 x (ds.getD j .non)/\BZ x its[j]:=by
 have e1:=rv.length;have e2:=r.length;have hd:ds[j]?=Ab (ds.getD j .non):=by
  rw[A6,AV (by omega)];rfl
 obtain⟨x,hx,q⟩:=r.get hd;obtain⟨u,hu,ru⟩:=rv.get hx;refine⟨x,q,?_⟩;rw[AV h]at hu;cases hu;exact ru
theorem JY{ds:Ac D}(h:ds.all (flD n)=Aa)(j:Ag):flD n (ds.getD j .non)=Aa:=by
 rw[A6];cases e:ds[j]? with
 |none=>cases n<;>rfl
 |some d=>exact List.all_eq_true.mp h d (Dz e)
def C4(B:Bu)(s:Ap)(u t:Ai)(k:Ao):Prop:=Km B s u t k/\Gs B s u t k/\Jk B s u t (!k)
section
variable{B:Bu}{s:Ap}
open SeqAt
theorem vZ:C4 B s .none .none Aa:=⟨RcAt.none_none,EqAt.same _,RcNeAt.none_none⟩
theorem wW(a b:Ao):C4 B s (.bool a) (.bool b) (a==b):=⟨RcAt.bool_bool _ _,EqAt.bool_bool _ _,RcNeAt.bool_bool _ _⟩
theorem wD(b:Ao):C4 B s .none (.bool b) Ad:=⟨RcAt.none_bool _,EqAt.none_bool _,RcNeAt.none_bool _⟩
theorem wT(b:Ao):C4 B s (.bool b) .none Ad:=⟨RcAt.bool_none _,EqAt.bool_none _,RcNeAt.bool_none _⟩
theorem wO(a:Ae)(t:DC)(b:Ae)(u:DC):C4 B s (.int a t) (.int b u) (a==b):=⟨RcAt.int_int _ _ _ _,EqAt.int_int _ _ _ _,RcNeAt.int_int _ _ _ _⟩
theorem tF(a:Al)(t:DC)(b:Al)(u:DC):C4 B s (.str a t) (.str b u) (a==b):=⟨RcAt.str_str _ _ _ _,EqAt.str_str _ _ _ _,RcNeAt.str_str _ _ _ _⟩
theorem wL(a:Ae)(t:DC)(b:Al)(u:DC):C4 B s (.int a t) (.str b u) Ad:=⟨RcAt.int_str _ _ _ _,EqAt.int_str _ _ _ _,RcNeAt.int_str _ _ _ _⟩
theorem tJ(a:Al)(t:DC)(b:Ae)(u:DC):C4 B s (.str a t) (.int b u) Ad:=⟨RcAt.str_int _ _ _ _,EqAt.str_int _ _ _ _,RcNeAt.str_int _ _ _ _⟩
theorem wB(b:Ae)(u:DC):C4 B s .none (.int b u) Ad:=⟨RcAt.none_int _ _,EqAt.none_int _ _,RcNeAt.none_int _ _⟩
theorem wM(b:Ae)(u:DC):C4 B s (.int b u) .none Ad:=⟨RcAt.int_none _ _,EqAt.int_none _ _,RcNeAt.int_none _ _⟩
theorem tM(b:Al)(u:DC):C4 B s .none (.str b u) Ad:=⟨RcAt.none_str _ _,EqAt.none_str _ _,RcNeAt.none_str _ _⟩
theorem tG(b:Al)(u:DC):C4 B s (.str b u) .none Ad:=⟨RcAt.str_none _ _,EqAt.str_none _ _,RcNeAt.str_none _ _⟩
theorem wV(a:Ao)(b:Ae)(u:DC):C4 B s (.bool a) (.int b u) (b2i a==b):=⟨RcAt.bool_int _ _ _,EqAt.bool_int _ _ _,RcNeAt.bool_int _ _ _⟩
theorem wP(a:Ao)(b:Ae)(u:DC):C4 B s (.int b u) (.bool a) (b==b2i a):=⟨RcAt.int_bool _ _ _,EqAt.int_bool _ _ _,RcNeAt.int_bool _ _ _⟩
theorem wS(a:Ao)(b:Al)(u:DC):C4 B s (.bool a) (.str b u) Ad:=⟨RcAt.bool_str _ _ _,EqAt.bool_str _ _ _,RcNeAt.bool_str _ _ _⟩
theorem tK(a:Ao)(b:Al)(u:DC):C4 B s (.str b u) (.bool a) Ad:=⟨RcAt.str_bool _ _ _,EqAt.str_bool _ _ _,RcNeAt.str_bool _ _ _⟩
variable{l:Ak}{items:AQ Ai}
theorem wH(h:s.heap.IsList l items)(hu:B.units<CA):C4 B s (.ref l) .none Ad:=⟨RcAt.list_none h hu,EqAt.list_none h hu,RcNeAt.list_none h hu⟩
theorem wA(h:s.heap.IsList l items)(hu:B.units<CA):C4 B s .none (.ref l) Ad:=⟨RcAt.none_list h hu,EqAt.none_list h hu,RcNeAt.none_list h hu⟩
theorem wJ(b:Ao)(h:s.heap.IsList l items)(hu:B.units<CA):C4 B s (.ref l) (.bool b) Ad:=⟨RcAt.list_bool b h hu,EqAt.list_bool b h hu,RcNeAt.list_bool b h hu⟩
theorem wU(b:Ao)(h:s.heap.IsList l items)(hu:B.units<CA):C4 B s (.bool b) (.ref l) Ad:=⟨RcAt.bool_list b h hu,EqAt.bool_list b h hu,RcNeAt.bool_list b h hu⟩
theorem wI(b:Ae)(u:DC)(h:s.heap.IsList l items)(hu:B.units<CA):C4 B s (.ref l) (.int b u) Ad:=⟨RcAt.list_int b u h hu,EqAt.list_int b u h hu,RcNeAt.list_int b u h hu⟩
theorem wN(b:Ae)(u:DC)(h:s.heap.IsList l items)(hu:B.units<CA):C4 B s (.int b u) (.ref l) Ad:=⟨RcAt.int_list b u h hu,EqAt.int_list b u h hu,RcNeAt.int_list b u h hu⟩
theorem wG(b:Al)(u:DC)(h:s.heap.IsList l items)(hu:B.units<CA):C4 B s (.ref l) (.str b u) Ad:=⟨RcAt.list_str b u h hu,EqAt.list_str b u h hu,RcNeAt.list_str b u h hu⟩
theorem tH(b:Al)(u:DC)(h:s.heap.IsList l items)(hu:B.units<CA):C4 B s (.str b u) (.ref l) Ad:=⟨RcAt.str_list b u h hu,EqAt.str_list b u h hu,RcNeAt.str_list b u h hu⟩
theorem tS(h:s.heap.IsTuple l items)(hu:B.units<CA):C4 B s (.ref l) .none Ad:=⟨RcAt.tuple_none h hu,EqAt.tuple_none h hu,RcNeAt.tuple_none h hu⟩
theorem tL(h:s.heap.IsTuple l items)(hu:B.units<CA):C4 B s .none (.ref l) Ad:=⟨RcAt.none_tuple h hu,EqAt.none_tuple h hu,RcNeAt.none_tuple h hu⟩
theorem tD(b:Ao)(h:s.heap.IsTuple l items)(hu:B.units<CA):C4 B s (.ref l) (.bool b) Ad:=⟨RcAt.tuple_bool b h hu,EqAt.tuple_bool b h hu,RcNeAt.tuple_bool b h hu⟩
theorem wQ(b:Ao)(h:s.heap.IsTuple l items)(hu:B.units<CA):C4 B s (.bool b) (.ref l) Ad:=⟨RcAt.bool_tuple b h hu,EqAt.bool_tuple b h hu,RcNeAt.bool_tuple b h hu⟩
theorem sZ(b:Ae)(u:DC)(h:s.heap.IsTuple l items)(hu:B.units<CA):C4 B s (.ref l) (.int b u) Ad:=⟨RcAt.tuple_int b u h hu,EqAt.tuple_int b u h hu,RcNeAt.tuple_int b u h hu⟩
theorem wK(b:Ae)(u:DC)(h:s.heap.IsTuple l items)(hu:B.units<CA):C4 B s (.int b u) (.ref l) Ad:=⟨RcAt.int_tuple b u h hu,EqAt.int_tuple b u h hu,RcNeAt.int_tuple b u h hu⟩
theorem tR(b:Al)(u:DC)(h:s.heap.IsTuple l items)(hu:B.units<CA):C4 B s (.ref l) (.str b u) Ad:=⟨RcAt.tuple_str b u h hu,EqAt.tuple_str b u h hu,RcNeAt.tuple_str b u h hu⟩
theorem tE(b:Al)(u:DC)(h:s.heap.IsTuple l items)(hu:B.units<CA):C4 B s (.str b u) (.ref l) Ad:=⟨RcAt.str_tuple b u h hu,EqAt.str_tuple b u h hu,RcNeAt.str_tuple b u h hu⟩
theorem wF(h:s.heap.IsList l items)(h2:s.heap.IsTuple b items2)(hu:B.units<CA):C4 B s (.ref l) (.ref b) Ad:=⟨RcAt.list_tuple h h2 hu,EqAt.list_tuple h h2 hu,RcNeAt.list_tuple h h2 hu⟩
theorem tT(h:s.heap.IsTuple l items)(h2:s.heap.IsList b items2)(hu:B.units<CA):C4 B s (.ref l) (.ref b) Ad:=⟨RcAt.tuple_list h h2 hu,EqAt.tuple_list h h2 hu,RcNeAt.tuple_list h h2 hu⟩
end
end
section
variable{X:Cx}{CL:ClA}{W:XW}
theorem Ii(x:PlainL h a its):h.IsList a its:=let ⟨o,n,e,c,_,d⟩:=x;⟨o,e,c,n,d⟩
def YF(X:Cx)(CL:ClA)(H:Hp)(s:Ap)(d:D)(u:Ai):Prop:=match d with
  |.non=>u=.none
  |.bl b=>u=.bool b
  |.int i=>∃ t,u=.int i t
  |.str x=>∃ t,u=.str x t
  |.tup ds=>∃ a xs its,u=.ref a/\Reps X.K CL H A0 xs ds/\Br xs its/\s.heap.IsTuple a its.toArray
  |.lst ds=>∃ a xs its,u=.ref a/\Reps X.K CL H A0 xs ds/\Br xs its/\s.heap.IsList a its.toArray
  |_=>BK
theorem Ts(I:Inv X pI σ H s)(hd:flD n d=Aa)(r:Rep X.K CL H A0 v d)(q:BZ v u):YF X CL H s d u:=by
 cases d with
 |non=>cases r;exact q
 |bl b=>cases r;exact q
 |int b=>cases r;exact q
 |str b=>cases r;exact q
 |tup ds=>
  obtain⟨a,xs,rfl,_,sq,r⟩:=r;obtain⟨its,rv,p,_⟩:=I.tuple sq;cases q;exact⟨a,xs,its,rfl,r,rv,p⟩
 |lst ds=>
  obtain⟨a,xs,rfl,_,sq,r⟩:=r;obtain⟨its,rv,p,_⟩:=I.list sq;cases q;exact⟨a,xs,its,rfl,r,rv,Ii p⟩
 |obj=>cases n<;>cases hd
 |exc=>cases n<;>cases hd
 |dic=>cases n<;>cases hd
theorem dQ{B:Bu}{its:Ac Ai}{ds es:Ac D}(hl:s.heap.IsList l its.toArray)(hb:s.heap.IsList b its2.toArray)(e1:its.length=ds.length)(e2:its2.length=es.length)(hu:B.units<CA)(hs:l=b->eqDs ds es=Aa)(he:∀ j (h1:j<its.length) (h2:j<its2.length),Gs B.in1 s its[j] its2[j] (eqD (ds.getD j .non) (es.getD j .non))):C4 B s (.ref l) (.ref b) (eqDs ds es):=by
 have rc:Km B s (.ref l) (.ref b) (eqDs ds es):=by
  by_cases hz:its.length=its2.length
  ·have q:=SeqAt.RcAt.lists (e:=fun j=>eqD (ds.getD j .non) (es.getD j .non)) hl hb (by simpa using hz) hu (fun j h1 h2=>by simpa using he j (by simpa using h1) (by simpa using h2))
   rw[LO (by omega)]
   have e:its.toArray.size=ds.length:=by simpa using e1
   rw[e]at q;exact q
  ·rw[LN (by omega)]
   exact SeqAt.RcAt.lists_lengths hl hb (by simpa using hz) hu
 have ne:Jk B s (.ref l) (.ref b) (!eqDs ds es):=by
  by_cases hz:its.length=its2.length
  ·have q:=SeqAt.RcNeAt.lists (e:=fun j=>eqD (ds.getD j .non) (es.getD j .non)) hl hb (by simpa using hz) hu (fun j h1 h2=>by simpa using he j (by simpa using h1) (by simpa using h2))
   rw[LO (by omega)]
   have e:its.toArray.size=ds.length:=by simpa using e1
   rw[e]at q;exact q
  ·rw[LN (by omega)]
   exact SeqAt.RcNeAt.lists_lengths hl hb (by simpa using hz) hu
 refine⟨rc,?_,ne⟩;by_cases hlb:l=b
 ·rw[hs hlb,hlb];exact XH _
 ·exact XG hlb rc
theorem dP{B:Bu}{its:Ac Ai}{ds es:Ac D}(hl:s.heap.IsTuple l its.toArray)(hb:s.heap.IsTuple b its2.toArray)(e1:its.length=ds.length)(e2:its2.length=es.length)(hu:B.units<CA)(hs:l=b->eqDs ds es=Aa)(he:∀ j (h1:j<its.length) (h2:j<its2.length),Gs B.in1 s its[j] its2[j] (eqD (ds.getD j .non) (es.getD j .non))):C4 B s (.ref l) (.ref b) (eqDs ds es):=by
 have rc:Km B s (.ref l) (.ref b) (eqDs ds es):=by
  have q:=SeqAt.RcAt.tuples (e:=fun j=>eqD (ds.getD j .non) (es.getD j .non)) hl hb hu (fun j h1 h2=>by simpa using he j (by simpa using h1) (by simpa using h2))
  have e:its.toArray.size=ds.length:=by simpa using e1
  have e':its2.toArray.size=es.length:=by simpa using e2
  rw[e,e']at q;by_cases hz:ds.length=es.length
  ·rw[LO hz];rw[hz,W1,Dd,Wi]at q;rw[hz];exact q
  ·rw[LN hz];rw[DI.mpr hz,FP]at q;exact q
 have ne:Jk B s (.ref l) (.ref b) (!eqDs ds es):=by
  have q:=SeqAt.RcNeAt.tuples (e:=fun j=>eqD (ds.getD j .non) (es.getD j .non)) hl hb hu (fun j h1 h2=>by simpa using he j (by simpa using h1) (by simpa using h2))
  have e:its.toArray.size=ds.length:=by simpa using e1
  have e':its2.toArray.size=es.length:=by simpa using e2
  rw[e,e']at q;by_cases hz:ds.length=es.length
  ·rw[LO hz];rw[hz,W1,Dd,Wi]at q;rw[hz];exact q
  ·rw[LN hz];rw[DI.mpr hz,FP]at q;exact q
 refine⟨rc,?_,ne⟩;by_cases hlb:l=b
 ·rw[hs hlb,hlb];exact XH _
 ·exact XG hlb rc
theorem L6{pI:Pn}{σ:L2.St}{H:Hp}{s:Ap}(I:Inv X pI σ H s):∀(n:Ag)(d e:D)(v w':V)(u t:Ai)(B:Bu),flD n d=Aa->flD n e=Aa->Rep X.K CL H A0 v d->Rep X.K CL H A0 w' e->BZ v u->BZ w' t->B.units+n<CA->C4 B s u t (eqD d e)
  |n,d,e,v,w',u,t,B,hd,he,r,q,rv,rw',hu=>by
    have hu0:B.units<CA:=by omega
    have sd:=Ts I hd r rv;have se:=Ts I he q rw'
    match d,e,sd,se with
    |.non,.non,s1,s2=>cases s1;cases s2;exact vZ
    |.non,.bl b,s1,s2=>cases s1;cases s2;exact wD b
    |.non,.int b,s1,s2=>cases s1;obtain⟨_,rfl⟩:=s2;exact wB b _
    |.non,.str b,s1,s2=>cases s1;obtain⟨_,rfl⟩:=s2;exact tM b _
    |.non,.tup es,s1,s2=>cases s1;obtain⟨_,_,_,rfl,_,_,p⟩:=s2;exact tL p hu0
    |.non,.lst es,s1,s2=>cases s1;obtain⟨_,_,_,rfl,_,_,p⟩:=s2;exact wA p hu0
    |.bl a,.non,s1,s2=>cases s1;cases s2;exact wT a
    |.bl a,.bl b,s1,s2=>cases s1;cases s2;exact wW a b
    |.bl a,.int b,s1,s2=>cases s1;obtain⟨_,rfl⟩:=s2;exact wV a b _
    |.bl a,.str b,s1,s2=>cases s1;obtain⟨_,rfl⟩:=s2;exact wS a b _
    |.bl a,.tup es,s1,s2=>cases s1;obtain⟨_,_,_,rfl,_,_,p⟩:=s2;exact wQ a p hu0
    |.bl a,.lst es,s1,s2=>cases s1;obtain⟨_,_,_,rfl,_,_,p⟩:=s2;exact wU a p hu0
    |.int a,.non,s1,s2=>obtain⟨_,rfl⟩:=s1;cases s2;exact wM a _
    |.int a,.bl b,s1,s2=>obtain⟨_,rfl⟩:=s1;cases s2;exact wP b a _
    |.int a,.int b,s1,s2=>obtain⟨_,rfl⟩:=s1;obtain⟨_,rfl⟩:=s2;exact wO a _ b _
    |.int a,.str b,s1,s2=>obtain⟨_,rfl⟩:=s1;obtain⟨_,rfl⟩:=s2;exact wL a _ b _
    |.int a,.tup es,s1,s2=>obtain⟨_,rfl⟩:=s1;obtain⟨_,_,_,rfl,_,_,p⟩:=s2;exact wK a _ p hu0
    |.int a,.lst es,s1,s2=>obtain⟨_,rfl⟩:=s1;obtain⟨_,_,_,rfl,_,_,p⟩:=s2;exact wN a _ p hu0
    |.str a,.non,s1,s2=>obtain⟨_,rfl⟩:=s1;cases s2;exact tG a _
    |.str a,.bl b,s1,s2=>obtain⟨_,rfl⟩:=s1;cases s2;exact tK b a _
    |.str a,.int b,s1,s2=>obtain⟨_,rfl⟩:=s1;obtain⟨_,rfl⟩:=s2;exact tJ a _ b _
    |.str a,.str b,s1,s2=>obtain⟨_,rfl⟩:=s1;obtain⟨_,rfl⟩:=s2;exact tF a _ b _
    |.str a,.tup es,s1,s2=>obtain⟨_,rfl⟩:=s1;obtain⟨_,_,_,rfl,_,_,p⟩:=s2;exact tE a _ p hu0
    |.str a,.lst es,s1,s2=>obtain⟨_,rfl⟩:=s1;obtain⟨_,_,_,rfl,_,_,p⟩:=s2;exact tH a _ p hu0
    |.tup ds,.non,s1,s2=>cases s2;obtain⟨_,_,_,rfl,_,_,p⟩:=s1;exact tS p hu0
    |.tup ds,.bl b,s1,s2=>cases s2;obtain⟨_,_,_,rfl,_,_,p⟩:=s1;exact tD b p hu0
    |.tup ds,.int b,s1,s2=>obtain⟨_,rfl⟩:=s2;obtain⟨_,_,_,rfl,_,_,p⟩:=s1;exact sZ b _ p hu0
    |.tup ds,.str b,s1,s2=>obtain⟨_,rfl⟩:=s2;obtain⟨_,_,_,rfl,_,_,p⟩:=s1;exact tR b _ p hu0
    |.tup ds,.lst es,s1,s2=>obtain⟨_,_,_,rfl,_,_,p⟩:=s1;obtain⟨_,_,_,rfl,_,_,p2⟩:=s2;exact tT p p2 hu0
    |.lst ds,.non,s1,s2=>cases s2;obtain⟨_,_,_,rfl,_,_,p⟩:=s1;exact wH p hu0
    |.lst ds,.bl b,s1,s2=>cases s2;obtain⟨_,_,_,rfl,_,_,p⟩:=s1;exact wJ b p hu0
    |.lst ds,.int b,s1,s2=>obtain⟨_,rfl⟩:=s2;obtain⟨_,_,_,rfl,_,_,p⟩:=s1;exact wI b _ p hu0
    |.lst ds,.str b,s1,s2=>obtain⟨_,rfl⟩:=s2;obtain⟨_,_,_,rfl,_,_,p⟩:=s1;exact wG b _ p hu0
    |.lst ds,.tup es,s1,s2=>obtain⟨_,_,_,rfl,_,_,p⟩:=s1;obtain⟨_,_,_,rfl,_,_,p2⟩:=s2;exact wF p p2 hu0
    |.tup ds,.tup es,s1,s2=>
      match n,hd,he,hu with
      |n+1,hd,he,hu=>
        obtain⟨a,xs,its,rfl,r1,v1,p1⟩:=s1;obtain⟨b,ys,its2,rfl,r2,v2,p2⟩:=s2;have l1:=v1.length;have l2:=r1.length;have l3:=v2.length;have l4:=r2.length
        refine dP p1 p2 (by omega) (by omega) hu0 (fun hab=>?_) fun j h1 h2=>?_
        · have e1:v=.ref a:=BZ.inj rv rfl;have e2:w'=.ref b:=BZ.inj rw' rfl;subst e1 e2 hab;have z:=MW I (n+1) _ _ hd he r q
          injection z with z
          rw[z];exact eqDs_refl n es he
        · obtain⟨x,rx,qx⟩:=J2 r1 v1 h1;obtain⟨y,ry,qy⟩:=J2 r2 v2 h2;exact(L6 I n _ _ x y _ _ B.in1 (JY hd j) (JY he j) rx ry qx qy (by show B.units+1+n<CA;omega)).2.1
    |.lst ds,.lst es,s1,s2=>
      match n,hd,he,hu with
      |n+1,hd,he,hu=>
        obtain⟨a,xs,its,rfl,r1,v1,p1⟩:=s1;obtain⟨b,ys,its2,rfl,r2,v2,p2⟩:=s2;have l1:=v1.length;have l2:=r1.length;have l3:=v2.length;have l4:=r2.length
        refine dQ p1 p2 (by omega) (by omega) hu0 (fun hab=>?_) fun j h1 h2=>?_
        · have e1:v=.ref a:=BZ.inj rv rfl;have e2:w'=.ref b:=BZ.inj rw' rfl;subst e1 e2 hab;have z:=MW I (n+1) _ _ hd he r q
          injection z with z
          rw[z];exact eqDs_refl n es he
        · obtain⟨x,rx,qx⟩:=J2 r1 v1 h1;obtain⟨y,ry,qy⟩:=J2 r2 v2 h2;exact(L6 I n _ _ x y _ _ B.in1 (JY hd j) (JY he j) rx ry qx qy (by show B.units+1+n<CA;omega)).2.1
    |.obj _ _,_,s1,_=>exact s1.elim
    |.exc _ _,_,s1,_=>exact s1.elim
    |.dic _,_,s1,_=>exact s1.elim
    |_,.obj _ _,_,s2=>exact s2.elim
    |_,.exc _ _,_,s2=>exact s2.elim
    |_,.dic _,_,s2=>exact s2.elim
end
section
variable{X:Cx}{CL:ClA}{W:XW}
theorem M7(I:Inv X pI σ H s){ds:Ac D}{its:Ac Ai}(B:Bu)(hd:flD n d=Aa)(hs:ds.all (flD n)=Aa)(r:Reps X.K CL H A0 xs ds)(rv:Br xs its)(q:Rep X.K CL H A0 v d)(qv:BZ v u)(hu:B.units+n<CA):∃ e:Ai->Ao,(∀ y,y∈its.toArray->Gs B s y u (e y))/\its.toArray.any e=ds.any fun y=>eqD y d:=by
 have l1:=rv.length;have l2:=r.length
 have key:∀ y,y∈its->∃ k:Ao,Gs B s y u k/\∀ j (h:j<its.length),its[j]=y->eqD (ds.getD j .non) d=k:=fun y hy=>by
  obtain⟨j,hj,rfl⟩:=GJ hy;obtain⟨x,rx,qx⟩:=J2 r rv hj;refine⟨eqD (ds.getD j .non) d,(L6 I n _ _ x v _ _ B (JY hs j) hd rx q qx qv hu).2.1,fun j' hj' e=>?_⟩
  obtain⟨x',rx',qx'⟩:=J2 r rv hj';rw[e]at qx';have z:=BZ.inj qx qx';subst z;rw[MW I n _ _ (JY hs j') (JY hs j) rx' rx]
 have key2:∀ y,∃ k:Ao,y∈its->Gs B s y u k/\∀ j (h:j<its.length),its[j]=y->eqD (ds.getD j .non) d=k:=fun y=>by
  by_cases hy:y∈its
  ·obtain⟨k,hk⟩:=key y hy;exact⟨k,fun _=>hk⟩
  ·exact⟨Aa,fun h=>absurd h hy⟩
 refine⟨fun y=>Wk (key2 y),fun y hy=>(EU (key2 y) (by simpa using hy)).1,?_⟩
 rw[BU];simp only[List.any_toArray,F5];constructor
 ·rintro⟨y,hy,hk⟩;obtain⟨j,hj,rfl⟩:=GJ hy;have z:=(EU (key2 its[j]) hy).2 j hj rfl;rw[hk]at z;refine⟨ds.getD j .non,?_,z⟩;rw[A6,AV (by omega)]
  exact En _
 ·rintro⟨y,hy,hk⟩;obtain⟨j,hj,rfl⟩:=GJ hy;have hj':j<its.length:=by omega
  refine⟨its[j],En _,?_⟩;have z:=(EU (key2 its[j]) (En _)).2 j hj' rfl;rw[<-z,A6,AV hj];exact hk
theorem ME{g:Ae->Ae->Ao}(ho:OpR X (CN op) (rI0 fun i j=>.bl (g i j)))(hg:∀ dx dy,(∃ i j,dx=.int i/\dy=.int j/\Cp op dx dy=.ok (.bl (g i j)))\/Cp op dx dy=.bad):OpD X CL W (CN op) (Cp op):=by
 intro A pI s σ H x y v u Q I rx ry ⟨hA,dx,dy,hx,hy,p⟩;rcases hg dx dy with ⟨i,j,rfl,rfl,e⟩|e
 ·have ex:=hx.int_of;have ey:=hy.int_of
  subst ex ey;rw[e]at p;exact ho pI s σ H _ _ v u Q I rx ry ⟨i,j,rfl,rfl,p _ H (AO.refl H) rfl⟩
 ·rw[e]at p;exact p.elim
theorem UU{x:V}(h:C3 X.K CL H A x d)(hd:d≠.non):x≠.non:=by
 rintro rfl;have h:=h.plain;cases d with
 |non=>exact hd rfl
 |tup=>obtain⟨_,_,e,_⟩:=h;cases e
 |lst=>obtain⟨_,_,e,_⟩:=h;cases e
 |obj=>obtain⟨_,_,_,_,e,_⟩:=h;cases e
 |exc=>obtain⟨_,_,_,e,_⟩:=h;cases e
 |dic=>exact h.elim
 |_=>cases h
theorem KH(hu:X.A.units+64<CA)(op:ES):OpD X CL W (CN op) (Cp op):=by
 cases op with
 |Eq=>
  intro A pI s σ H x y v u Q I rx ry ⟨hA,dx,dy,hx,hy,p⟩;rw[yA]at p;split at p
  ·rename_i h;simp only[An]at h;exact(L6 I 5 dx dy x y v u X.A h.1 h.2 hx.plain hy.plain rx ry (by omega)).1 X.prog X.w X.xe _ ⟨.bl _,H,I,rfl,p _ H (AO.refl H) rfl⟩
  ·exact p.elim
 |NotEq=>
  intro A pI s σ H x y v u Q I rx ry ⟨hA,dx,dy,hx,hy,p⟩;rw[xM]at p;split at p
  ·rename_i h;simp only[An]at h;exact(L6 I 5 dx dy x y v u X.A h.1 h.2 hx.plain hy.plain rx ry (by omega)).2.2 X.prog X.w X.xe _ ⟨.bl _,H,I,rfl,p _ H (AO.refl H) rfl⟩
  ·exact p.elim
 |Lt=>exact ME uQ fun dx dy=>by cases dx<;>cases dy<;>first|exact .inl ⟨_,_,rfl,rfl,rfl⟩|exact .inr rfl
 |LtE=>exact ME uR fun dx dy=>by cases dx<;>cases dy<;>first|exact .inl ⟨_,_,rfl,rfl,rfl⟩|exact .inr rfl
 |Gt=>exact ME uS fun dx dy=>by cases dx<;>cases dy<;>first|exact .inl ⟨_,_,rfl,rfl,rfl⟩|exact .inr rfl
 |GtE=>exact ME uT fun dx dy=>by cases dx<;>cases dy<;>first|exact .inl ⟨_,_,rfl,rfl,rfl⟩|exact .inr rfl
 |In=>
  intro A pI s σ H x y v u Q I rx ry ⟨hA,dx,dy,hx,hy,p⟩;cases dy with
  |lst es=>
   rw[Yv]at p;split at p
   ·rename_i h;simp only[An]at h;obtain⟨a,xs,e,_,sq,r⟩:=hy.plain;subst e;cases ry;obtain⟨its,rv,pl,_⟩:=I.list sq;obtain⟨e,he,ha⟩:=M7 I (n:=5) X.A.in1 h.1 h.2 r rv hx.plain rx (by show X.A.units+1+5<CA;omega)
    refine SeqAt.in_listAt e (Ii pl) he ?_;rw[ha];exact⟨.bl _,H,I,rfl,p _ H (AO.refl H) rfl⟩
   ·exact p.elim
  |tup es=>
   rw[Yu]at p;split at p
   ·rename_i h;simp only[An]at h;obtain⟨a,xs,e,_,sq,r⟩:=hy.plain;subst e;cases ry;obtain⟨its,rv,pl,_⟩:=I.tuple sq;obtain⟨e,he,ha⟩:=M7 I (n:=5) X.A.in1 h.1 h.2 r rv hx.plain rx (by show X.A.units+1+5<CA;omega)
    refine SeqAt.in_tupleAt e pl he ?_;rw[ha];exact⟨.bl _,H,I,rfl,p _ H (AO.refl H) rfl⟩
   ·exact p.elim
  |dic kvs=>exact hy.plain.elim
  |_=>cases dx<;>exact p.elim
 |NotIn=>
  intro A pI s σ H x y v u Q I rx ry ⟨hA,dx,dy,hx,hy,p⟩;cases dy with
  |lst es=>
   rw[xK]at p;split at p
   ·rename_i h;simp only[An]at h;obtain⟨a,xs,e,_,sq,r⟩:=hy.plain;subst e;cases ry;obtain⟨its,rv,pl,_⟩:=I.list sq;obtain⟨e,he,ha⟩:=M7 I (n:=5) X.A.in1 h.1 h.2 r rv hx.plain rx (by show X.A.units+1+5<CA;omega)
    refine SeqAt.notIn_listAt e (Ii pl) he ?_;rw[ha];exact⟨.bl _,H,I,rfl,p _ H (AO.refl H) rfl⟩
   ·exact p.elim
  |tup es=>
   rw[xJ]at p;split at p
   ·rename_i h;simp only[An]at h;obtain⟨a,xs,e,_,sq,r⟩:=hy.plain;subst e;cases ry;obtain⟨its,rv,pl,_⟩:=I.tuple sq;obtain⟨e,he,ha⟩:=M7 I (n:=5) X.A.in1 h.1 h.2 r rv hx.plain rx (by show X.A.units+1+5<CA;omega)
    refine SeqAt.notIn_tupleAt e pl he ?_;rw[ha];exact⟨.bl _,H,I,rfl,p _ H (AO.refl H) rfl⟩
   ·exact p.elim
  |_=>cases dx<;>exact p.elim
 |Is=>
  intro A pI s σ H x y v u Q I rx ry ⟨hA,dx,dy,hx,hy,p⟩;cases dy with
  |non=>
   have ey:=hy.non_of;subst ey;refine pH pI s σ H _ _ v u Q I rx ry ⟨rfl,?_⟩;cases dx with
   |non=>
    have ex:=hx.non_of;subst ex;exact p _ H (AO.refl H) rfl
   |exc=>exact p.elim
   |dic=>exact p.elim
   |_=>rw[CD (UU hx (by simp))];exact p _ H (AO.refl H) rfl
  |bl b=>
   cases dx with
   |bl a=>
    have ey:=hy.bl_of;have ex:=hx.bl_of;subst ex ey;cases rx;cases ry;refine wpAny_is_plain rfl ⟨.bl (a==b),H,I,?_,p _ H (AO.refl H) rfl⟩;cases a<;>cases b<;>rfl
   |_=>exact p.elim
  |_=>cases dx<;>exact p.elim
 |IsNot=>
  intro A pI s σ H x y v u Q I rx ry ⟨hA,dx,dy,hx,hy,p⟩;cases dy with
  |non=>
   have ey:=hy.non_of;subst ey;refine gJ pI s σ H _ _ v u Q I rx ry ⟨rfl,?_⟩;cases dx with
   |non=>
    have ex:=hx.non_of;subst ex;exact p _ H (AO.refl H) rfl
   |exc=>exact p.elim
   |dic=>exact p.elim
   |_=>rw[CD (UU hx (by simp))];exact p _ H (AO.refl H) rfl
  |bl b=>
   cases dx with
   |bl a=>
    have ey:=hy.bl_of;have ex:=hx.bl_of;subst ex ey;cases rx;cases ry;refine wpAny_isNot_plain rfl ⟨.bl (!(a==b)),H,I,?_,p _ H (AO.refl H) rfl⟩;cases a<;>cases b<;>rfl
   |_=>exact p.elim
  |_=>cases dx<;>exact p.elim
end
section
variable{X:Cx}{CL:ClA}{W:XW}{a b c:At}{fa fb fc:Rho->R D}{pos:Bk}
theorem Dr.bind{f:D->R Ao}{Q:Ao->Hp->Prop}{Q':VK}(h:Dr W H (r.bind f) Q)(k:∀ d v H',r=.ok d->AO H H'->Rp H' v d->Dr W H' (f d) Q->Q' v H'):Bx Rp W H r Q':=by
 cases r with
 |ok d=>exact fun v H2 s2 q=>k d v H2 rfl s2 q (Dr.same s2 h)
 |exn x=>exact h
 |bad=>exact h
theorem Dr.bindB{r:R Ao}{f:Ao->R Ao}{Q:Ao->Hp->Prop}{Q':Ao->Hp->Prop}(h:Dr W H (r.bind f) Q)(k:∀ b H',r=.ok b->AO H H'->Dr W H' (f b) Q->Q' b H'):Dr W H r Q':=by
 cases r with
 |ok d=>exact fun H2 s2=>k d H2 rfl s2 (Dr.same s2 h)
 |exn x=>exact h
 |bad=>exact h
theorem Hi.bind{Rp:Hp->Ac V->Ac D->Prop}{r:R (Ac D)}{f:Ac D->R D}{Q':Ac V->Hp->Prop}(h:Bx Rq W H (r.bind f) Q)(k:∀ d v H',r=.ok d->AO H H'->Rp H' v d->Bx Rq W H' (f d) Q->Q' v H'):Hi Rp W H r Q':=by
 cases r with
 |ok d=>exact fun v H2 s2 q=>k d v H2 rfl s2 q (Bx.same s2 h)
 |exn x=>exact h
 |bad=>exact h
theorem oV(ha:ST X CL W a fa):SE X CL W (.UnaryOp .USub a pos) (fun ρ=>(fa ρ).bind fun x=>unD .USub x):=fun A=>PE.weak (vV lH (ha A)) fun σ H Q ⟨hA,ρ,g,p⟩=>⟨hA,ρ,g,Bx.bind p fun d v H1 _ s1 r1 p1=>by
 cases d with
 |int i=>
  have e:=r1.int_of;subst e;exact⟨i,rfl,p1 _ H1 (AO.refl H1) rfl⟩
 | _=>exact p1.elim⟩
theorem MO{f:Ao->R D}(h:Bx Rq W H ((DU d).bind f) Q):∃ c,d=.bl c/\Bx Rq W H (f c) Q:=by
 cases d with
 |bl c=>exact⟨c,rfl,h⟩
 |_=>exact h.elim
theorem oS(ha:ST X CL W a fa):SE X CL W (.UnaryOp .Not a pos) (fun ρ=>(fa ρ).bind fun x=>(DU x).bind fun b=>.ok (.bl (!b))):=fun A=>PE.weak (qL (ha A)) fun σ H Q ⟨hA,ρ,g,p⟩=>⟨hA,ρ,g,Bx.bind p fun d v H1 _ s1 r1 p1=>by
 obtain⟨c,rfl,p2⟩:=MO p1;exact⟨c,r1.bl_of,p2 _ H1 (AO.refl H1) rfl⟩⟩
theorem Vf{op}(ha:SE X CL W a fa):SE X CL W (.BoolOp op [a] pos) fa:=fun A=>qK (ha A)
theorem mX{rest:Ac At}(ha:SE X CL W a fa)(hb:SE X CL W (.BoolOp .And (b::rest) pos) fb):SE X CL W (.BoolOp .And (a::b::rest) pos) (fun ρ=>(fa ρ).bind fun x=>(DU x).bind fun c=>if c=Aa then fb ρ else .ok (.bl Ad)):=
 fun A=>PE.weak (qQ (ha A) (hb A)) fun σ H Q ⟨hA,ρ,g,p⟩=>⟨hA,ρ,g,Bx.bind p fun d v H1 _ s1 r1 p1=>by
  obtain⟨c,rfl,p2⟩:=MO p1;refine⟨c,r1,?_⟩;cases c with
  |true=>exact⟨hA.same s1,ρ,g.same s1,p2⟩
  | false=>exact p2 _ H1 (AO.refl H1) rfl⟩
theorem tN{rest:Ac At}(ha:SE X CL W a fa)(hb:SE X CL W (.BoolOp .Or (b::rest) pos) fb):SE X CL W (.BoolOp .Or (a::b::rest) pos) (fun ρ=>(fa ρ).bind fun x=>(DU x).bind fun c=>if c=Aa then .ok (.bl Aa) else fb ρ):=
 fun A=>PE.weak (vW (ha A) (hb A)) fun σ H Q ⟨hA,ρ,g,p⟩=>⟨hA,ρ,g,Bx.bind p fun d v H1 _ s1 r1 p1=>by
  obtain⟨c,rfl,p2⟩:=MO p1;refine⟨c,r1,?_⟩;cases c with
  |false=>exact⟨hA.same s1,ρ,g.same s1,p2⟩
  | true=>exact p2 _ H1 (AO.refl H1) rfl⟩
theorem cR{op':ES}(hu:X.A.units+64<CA)(ha:ST X CL W a fa)(hb:ST X CL W b fb)(hc:ST X CL W c fc)(hm:Jr [op,op'] [b,c]=Ad):SE X CL W (.Compare a [op,op'] [b,c] pos) (fun ρ=>(fa ρ).bind fun x=>(fb ρ).bind fun y=>(Cp op x y).bind fun z=>(DU z).bind fun k=>if k=Aa then (fc ρ).bind fun u=>Cp op' y u else .ok (.bl Ad)):=
 fun A=>PE.weak (bN (KH hu op A) (KH hu op' A) (ha A) (hb A) (hc A) hm) fun σ H Q ⟨hA,ρ,g,p⟩=>⟨hA,ρ,g,Bx.bind p fun dx x H1 _ s1 r1 p1=>⟨hA.same s1,ρ,g.same s1,Bx.bind p1 fun dy y H2 _ s2 r2 p2=>
  ⟨(hA.same s1).same s2,dx,dy,r1.same s2,r2,Bx.bind p2 fun dz z H3 _ s3 r3 p3=>by
   obtain⟨k,rfl,p4⟩:=MO p3;refine⟨k,r3,?_⟩;cases k with
   |false=>exact p4 _ H3 (AO.refl H3) rfl
   | true=>exact⟨((hA.same s1).same s2).same s3,ρ,((g.same s1).same s2).same s3,Bx.bind p4 fun du u H4 _ s4 r4 p5=>⟨(((hA.same s1).same s2).same s3).same s4,dy,du,(r2.same s3).same s4,r4,p5⟩⟩⟩⟩⟩
theorem kJ{xs:Ac D}{i:Ae}(h:D0 xs i=.ok d):∃ k,plD xs.length i=Ab k/\xs[k]?=Ab d:=by
 unfold D0 at h;split at h
 ·rename_i k e;split at h
  ·rename_i d' e';cases h;exact⟨k,e,e'⟩
  ·cases h
 ·cases h
theorem S8{xs:Ac D}{i:Ae}{x:Ex}(h:D0 xs i=.exn x):BK:=by
 unfold D0 at h;split at h
 ·split at h<;>cases h
 ·cases h
theorem Ud{ds:Ac D}{i:Ae}(r:Reps K CL H A xs ds)(h:D0 ds i=.ok d):∃ v,atI xs i=Ab v/\Rep K CL H A v d:=by
 obtain⟨k,e,q⟩:=kJ h;obtain⟨v,hv,rv⟩:=r.get q;refine⟨v,?_,rv⟩;unfold atI;have:ixN xs.length i=Ab k:=by rw[r.length];exact e
 rw[this];exact hv
theorem mU(hs:Pu b)(ha:ST X CL W a fa)(hb:ST X CL W b fb):SE X CL W (.Subscript a b pos) (fun ρ=>(fa ρ).bind fun x=>(fb ρ).bind fun y=>BW x y):=
 fun A=>PE.weak (vX (r:=fun x y H Q=>Q9 X.K x y H Q\/Q8 X.K x y H Q) (kC.or oW) (ha A) (hb A) hs) fun σ H Q h=>by
  obtain⟨hA,ρ,g,h⟩:=op2 h;refine⟨hA,ρ,g,?_⟩;cases e:fa ρ with
  |bad=>rw[e]at h;exact h
  |exn x=>rw[e]at h;exact h
  |ok dx0=>
   rw[e]at h;intro x H1 s1 r1;obtain⟨hA1,ρ1,g1,h1⟩:=h x H1 s1 r1;refine⟨hA1,ρ1,g1,?_⟩;cases e1:fb ρ1 with
   |bad=>rw[e1]at h1;exact h1
   |exn x=>rw[e1]at h1;exact h1
   |ok dy0=>
    rw[e1]at h1;intro y H2 s2 r2;obtain⟨hA2,dx,dy,rx,ry,p⟩:=h1 y H2 s2 r2;cases dy with
    |int i=>
     have ey:=ry.int_of;subst ey;cases dx with
     |lst ds=>
      obtain⟨q,xs,rfl,sq,r⟩:=rx.lst_of;rw[xE]at p;cases e2:D0 ds i with
      |ok d=>
       rw[e2]at p;obtain⟨v,hv,rv⟩:=Ud r e2;exact .inl ⟨q,xs,i,v,rfl,rfl,sq,hv,p v H2 (AO.refl H2) rv⟩
      |exn x=>exact(S8 e2).elim
      |bad=>rw[e2]at p;exact p.elim
     |tup ds=>
      obtain⟨q,xs,rfl,_,sq,r⟩:=rx.tup_of;rw[xD]at p;cases e2:D0 ds i with
      |ok d=>
       rw[e2]at p;obtain⟨v,hv,rv⟩:=Ud r e2;exact .inr ⟨q,xs,i,v,rfl,rfl,sq,hv,p v H2 (AO.refl H2) rv⟩
      |exn x=>exact(S8 e2).elim
      |bad=>rw[e2]at p;exact p.elim
     |dic=>exact rx.plain.elim
     |_=>exact p.elim
    |_=>cases dx<;>first|exact p.elim|exact rx.plain.elim
theorem nC:SA X CL W [] (fun _=>.ok []):=fun A=>PA.weak Hf fun σ H Q ⟨hA,ρ,g,p⟩=>p [] H (AO.refl H) trivial
theorem dN(ha:SE X CL W a fa)(hs:SA X CL W es fs)(hst:AM (a::es) X.env=(Ad,eval a X.env)::AM es X.env):SA X CL W (a::es) (fun ρ=>(fa ρ).bind fun x=>(fs ρ).bind fun xs=>.ok (x::xs)):=
 fun A=>PA.weak (FH (ha A) (hs A) hst) fun σ H Q ⟨hA,ρ,g,p⟩=>by
  dsimp only at p;refine⟨hA,ρ,g,?_⟩;cases e:fa ρ with
  |bad=>rw[e]at p;exact p
  |exn x=>rw[e]at p;exact p
  |ok d=>
   rw[e]at p;intro v H1 s1 r1;refine⟨hA.same s1,ρ,g.same s1,?_⟩;cases e1:fs ρ with
   |bad=>rw[R.bind_ok,e1]at p;exact p
   |exn x=>rw[R.bind_ok,e1]at p;exact fun H2 s2=>p H2 (s1.trans s2)
   |ok ds=>
    rw[R.bind_ok,e1]at p;exact fun vs H2 s2 r2=>p (v::vs) H2 (s1.trans s2) ⟨r1.same s2,r2⟩
theorem oQ(hs:SA X CL W es fs)(hz:∀ ρ ds,fs ρ=.ok ds->ds.length<=100000):SE X CL W (.Tuple es k pos) (fun ρ=>(fs ρ).bind fun xs=>.ok (.tup xs)):=
 fun A=>PE.weak (qI (hs A)) fun σ H Q ⟨hA,ρ,g,p⟩=>⟨hA,ρ,g,Hi.bind p fun ds vs H1 e s1 r1 p1=>⟨by
  rw[r1.length,CW];have:=hz ρ ds e;omega,fun q hq=>p1 _ _ (F9 hq _) (KI (hA.same s1) hq r1)⟩⟩
def Ka(W:XW)(H:Hp)(r:R (Av Ae))(Q:Av Ae->Hp->Prop):Prop:=match r with
  |.ok o=>∀ H',AO H H'->Q o H'
  |.exn x=>∀ H',AO H H'->W x H'
  |.bad=>BK
theorem Ka.bind{r:R (Av Ae)}{f:Av Ae->R D}(h:Bx Rq W H (r.bind f) Q)(k:∀ o H',r=.ok o->AO H H'->Bx Rq W H' (f o) Q->Q' o H'):Ka W H r Q':=by
 cases r with
 |ok d=>exact fun H2 s2=>k d H2 rfl s2 (Bx.same s2 h)
 |exn x=>exact h
 |bad=>exact h
def SO(X:Cx)(CL:ClA)(W:XW)(e:Av At)(f:Rho->R (Av Ae)):Prop:=∀ A,PO X e (fun σ H Q=>AOk H A/\∃ ρ,Good X.K CL A ρ σ H/\Ka W H (f ρ) Q)
theorem PO.weak{e:Av At}{t t':TO}(h:PO X e t)(k:∀ σ H Q,t' σ H Q->t σ H Q):PO X e t':=fun pI s σ H Q I q=>h pI s σ H Q I (k _ _ _ q)
theorem eT:SO X CL W Af (fun _=>.ok Af):=fun A=>PO.weak fX fun σ H Q ⟨hA,ρ,g,p⟩=>p H (AO.refl H)
theorem eS(ha:ST X CL W a fa):SO X CL W (Ab a) (fun ρ=>(fa ρ).bind fun d=>(Fl d).bind fun i=>.ok (Ab i)):=fun A=>PO.weak (fW (ha A)) fun σ H Q ⟨hA,ρ,g,p⟩=>by
 dsimp only at p;refine⟨hA,ρ,g,?_⟩;cases e:fa ρ with
 |bad=>rw[e]at p;exact p
 |exn x=>rw[e]at p;exact p
 |ok d=>
  rw[e]at p;intro v H1 s1 r1;cases d with
  |int i=>exact⟨i,r1.int_of,p H1 s1⟩
  |_=>exact p.elim
theorem Uu{ds:Ac D}(lo hi:Av Ae)(r:Reps K CL H A xs ds):Reps K CL H A (JB xs lo hi) (JC ds lo hi):=by
 unfold JB JC;have e:∀ d o,HT.sIx xs.length d o=Iq ds.length d o:=fun d o=>by rw[r.length];cases o<;>rfl
 rw[e,e,r.length];exact(r.drop _).take _
end
section
variable{X:Cx}{CL:ClA}{W:XW}{a b c:At}{fa fb fc:Rho->R D}{pos:Bk}
def Gb(K:Fg)(CL:ClA)(H:Hp)(A:Ak->Prop):Ac V->Ac D->Prop
 |[],[]=>IK
 |v::vs,d::ds=>C3 K CL H A v d/\Gb K CL H A vs ds
 |_,_=>BK
theorem Gb.same{K:Fg}{H H':Hp}{A:Ak->Prop}(s:AO H H'):∀{vs:Ac V}{ds:Ac D},Gb K CL H A vs ds->Gb K CL H' A vs ds
 |[],[],h=>h
 |_::_,_::_,h=>⟨h.1.same s,Gb.same s h.2⟩
 |[],_::_,h=>h.elim
 |_::_,[],h=>h.elim
theorem Gb.one(h:Gb K CL H A vs [d]):∃ v,vs=[v]/\C3 K CL H A v d:=by
 cases vs with
 |nil=>exact h.elim
 |cons v vs=>
  cases vs with
  |nil=>exact⟨v,rfl,h.1⟩
  |cons=>exact h.2.elim
theorem Gb.two{e:D}(h:Gb K CL H A vs [d,e]):∃ v w',vs=[v,w']/\C3 K CL H A v d/\C3 K CL H A w' e:=by
 cases vs with
 |nil=>exact h.elim
 |cons v vs=>
  cases vs with
  |nil=>exact h.2.elim
  |cons w' vs=>
   cases vs with
   |nil=>exact⟨v,w',rfl,h.1,h.2.1⟩
   |cons=>exact h.2.2.elim
def SAT(X:Cx)(CL:ClA)(W:XW)(es:Ac At)(f:Rho->R (Ac D)):Prop:=∀ A,PA X es (fun σ H Q=>AOk H A/\∃ ρ,Good X.K CL A ρ σ H/\Hi (fun H=>Gb X.K CL H A) W H (f ρ) Q)
theorem dM:SAT X CL W [] (fun _=>.ok []):=fun A=>PA.weak Hf fun σ H Q ⟨hA,ρ,g,p⟩=>p [] H (AO.refl H) trivial
theorem cT(ha:ST X CL W a fa)(hs:SAT X CL W es fs)(hst:AM (a::es) X.env=(Ad,eval a X.env)::AM es X.env):SAT X CL W (a::es) (fun ρ=>(fa ρ).bind fun x=>(fs ρ).bind fun xs=>.ok (x::xs)):=
 fun A=>PA.weak (FH (ha A) (hs A) hst) fun σ H Q ⟨hA,ρ,g,p⟩=>by
  dsimp only at p;refine⟨hA,ρ,g,?_⟩;cases e:fa ρ with
  |bad=>rw[e]at p;exact p
  |exn x=>rw[e]at p;exact p
  |ok d=>
   rw[e]at p;intro v H1 s1 r1;refine⟨hA.same s1,ρ,g.same s1,?_⟩;cases e1:fs ρ with
   |bad=>rw[R.bind_ok,e1]at p;exact p
   |exn x=>rw[R.bind_ok,e1]at p;exact fun H2 s2=>p H2 (s1.trans s2)
   |ok ds=>
    rw[R.bind_ok,e1]at p;exact fun vs H2 s2 r2=>p (v::vs) H2 (s1.trans s2) ⟨r1.same s2,r2⟩
def IW(X:Cx)(CL:ClA)(W:XW)(f:Ai)(g:Ac D->R D):Prop:=∀ A,HN X f (fun xs H Q=>AOk H A/\∃ ds,Gb X.K CL H A xs ds/\Bx (fun H=>Rep X.K CL H A) W H (g ds) Q)
theorem KR{g:Ac D->R D}(hc:IW X CL W (.builtin id) g)(hg:Gl X x)(hm:X.mg x=Af)(hv:Db x=Ab (.builtin id))(ha:SAT X CL W (e::es) fs)(hn:x≠"__name__")(hdb:(x==("__debug__" : Al))=Ad)(he:AM (e::es) X.env=(Ad,eval e X.env)::AM es X.env)(hpl:∀ pos,(CU pos (AM es X.env)).any (·.1)=Ad):SE X CL W (.Call (.Name x p) (e::es) [] pos) (fun ρ=>(fs ρ).bind g):=fun A=>PE.weak (O3 (hc A) hg hm hv (ha A) hn hdb he (hpl _)) fun σ H Q ⟨hA,ρ,gd,q⟩=>⟨hA,ρ,gd,Hi.bind q fun ds vs H1 _ s1 r1 p1=>⟨hA.same s1,ds,r1,p1⟩⟩
theorem mW{g:Ac D->R D}(hc:IW X CL W (.type T) g)(hg:Gl X x)(hm:X.mg x=Af)(hv:Db x=Ab (.type T))(ha:SAT X CL W (e::es) fs)(hn:x≠"__name__")(hdb:(x==("__debug__" : Al))=Ad)(he:AM (e::es) X.env=(Ad,eval e X.env)::AM es X.env)(hpl:∀ pos,(CU pos (AM es X.env)).any (·.1)=Ad):SE X CL W (.Call (.Name x p) (e::es) [] pos) (fun ρ=>(fs ρ).bind g):=fun A=>PE.weak (Sg (hc A) hg hm hv (ha A) hn hdb he (hpl _)) fun σ H Q ⟨hA,ρ,gd,q⟩=>⟨hA,ρ,gd,Hi.bind q fun ds vs H1 _ s1 r1 p1=>⟨hA.same s1,ds,r1,p1⟩⟩
theorem qV:IW X CL W (.builtin "len") (biD .len):=by
  intro A pI s σ H xs us Q I r ⟨hA,ds,rs,p⟩
  match ds,rs,p with
  |[.lst es],rs,p=>
    obtain⟨v,rfl,rv⟩:=rs.one;obtain⟨q,ys,rfl,sq,ry⟩:=rv.lst_of;exact Rv pI s σ H _ us Q I r ⟨q,ys,rfl,.inl sq,p _ H (AO.refl H) (by rw[ry.length];rfl)⟩
  |[.tup es],rs,p=>
    obtain⟨v,rfl,rv⟩:=rs.one;obtain⟨q,ys,rfl,_,sq,ry⟩:=rv.tup_of;exact Rv pI s σ H _ us Q I r ⟨q,ys,rfl,.inr sq,p _ H (AO.refl H) (by rw[ry.length];rfl)⟩
  |[.str x],rs,p=>
    obtain⟨v,rfl,rv⟩:=rs.one;have e:=rv.str_of;subst e;have p':Bx (fun H=>Rep X.K CL H A) W H (if DM x.length=Aa then .ok (.int x.length) else .bad) Q:=p
    split at p'
    · rename_i h;exact Zh pI s σ H _ us Q I r ⟨x,rfl,IM h,p' _ H (AO.refl H) rfl⟩
    · exact p'.elim
  |[],_,p=>exact p.elim
  |[.non],_,p=>exact p.elim
  |[.bl _],_,p=>exact p.elim
  |[.int _],_,p=>exact p.elim
  |[.obj _ _],_,p=>exact p.elim
  |[.exc _ _],_,p=>exact p.elim
  |[.dic _],rs,p=>first|exact p.elim|(obtain⟨v,rfl,rv⟩:=rs.one;exact rv.plain.elim)
  |x::_::_,_,p=>cases x<;>exact p.elim
theorem ZX(ds:Ac D):(∃ i j,ds=[.int i,.int j])\/biD .max ds=.bad:=by
  match ds with
  |[.int i,.int j]=>exact .inl ⟨i,j,rfl⟩
  |[]=>exact .inr rfl
  |[x]=>cases x<;>exact .inr rfl
  |x::y::z::r=>cases x<;>cases y<;>exact .inr rfl
  |[x,.non]=>cases x<;>exact .inr rfl
  |[x,.bl _]=>cases x<;>exact .inr rfl
  |[x,.str _]=>cases x<;>exact .inr rfl
  |[x,.tup _]=>cases x<;>exact .inr rfl
  |[x,.lst _]=>cases x<;>exact .inr rfl
  |[x,.obj _ _]=>cases x<;>exact .inr rfl
  |[x,.exc _ _]=>cases x<;>exact .inr rfl
  |[x,.dic _]=>cases x<;>exact .inr rfl
  |[.non,.int _]=>exact .inr rfl
  |[.bl _,.int _]=>exact .inr rfl
  |[.str _,.int _]=>exact .inr rfl
  |[.tup _,.int _]=>exact .inr rfl
  |[.lst _,.int _]=>exact .inr rfl
  |[.obj _ _,.int _]=>exact .inr rfl
  |[.exc _ _,.int _]=>exact .inr rfl
  |[.dic _,.int _]=>exact .inr rfl
theorem Sj:∀(is:Ac Ae)(i:Ae),Ir i is∈i::is/\∀ a∈i::is,Ir i is<=a
 |[],i=>⟨Ay,fun a h=>by rw[Bs]at h;rw[h];exact JK _⟩
 |j::r,i=>by
  obtain⟨h1,h2⟩:=Sj r (if j<i then j else i)
  refine⟨?_,fun a h=>?_⟩
  ·show Ir (if j<i then j else i) r∈_
   rcases Ax.mp h1 with e|e
   ·rw[e];split
    ·exact Au _ Ay
    ·exact Ay
   ·exact Au _ (Au _ e)
  ·show Ir (if j<i then j else i) r<=a
   have h0:=h2 _ Ay;rcases Ax.mp h with e|e
   ·subst e;refine Wn h0 ?_;split<;>omega
   ·rcases Ax.mp e with e|e
    ·subst e;refine Wn h0 ?_;split<;>omega
    ·exact h2 a (Au _ e)
theorem RS:∀{is:Ac Ae}{its:Ac Ai},Br (is.map V.int) its->∃ xs:AQ (Ae×DC),its.toArray=Lr xs/\xs.toList.map (·.1)=is
 |[],_,h=>by cases h;exact⟨#[],by simp[Lr],rfl⟩
 |i::is,_,h=>by
  cases h with
  |cons h1 h2=>
   obtain⟨t,rfl⟩:=h1;obtain⟨xs,e1,e2⟩:=RS h2;refine⟨((i,t)::xs.toList).toArray,?_,?_⟩
   ·apply Hv.mp
    have e1':=congrArg Jf e1;simp[Lr]at e1' ⊢;exact e1'
   ·simp[e2]
theorem aN(hc:X.calm=Aa):HN X (.builtin "min") (fun xs H Q=>∃ a i is,xs=[.ref a]/\SqL X.K H a ((i::is).map V.int)/\Q (.int (Ir i is)) H):=by
 intro pI s σ H xs us Q I r h;obtain⟨a,i,is,rfl,sq,q⟩:=h;obtain⟨u,rfl,ru⟩:=HP r;cases ru;obtain⟨its,rv,pl,hz⟩:=I.list sq;obtain⟨ys,e1,e2⟩:=RS rv;have hsz:0<ys.size:=by
  have:=congrArg WE e2;simp at this;omega
 have hl:=pl.isList;rw[e1]at hl;refine min_intList (I.ok.hd hc) hl hsz fun v h' tk hv hk=>?_
 obtain⟨t,rfl⟩:=intItems_at hv;obtain⟨h1,h2⟩:=argBest_lt (IJ ys) (ys.size-1);have nm:∀ j,j<ys.size->IJ ys j∈i::is:=fun j hj=>by
  rw[<-e2];unfold IJ;rw[B4 hj];simp only[DX,Option.getD_some];exact Cw.mpr ⟨ys[j],by simp,rfl⟩
 have nx:∀ x∈i::is,∃ j,j<ys.size/\IJ ys j=x:=fun x hx=>by
  rw[<-e2]at hx;obtain⟨y,hy,rfl⟩:=Cw.mp hx;obtain⟨j,hj,ej⟩:=Array.mem_iff_getElem.mp (Array.mem_toList_iff.mp hy);refine⟨j,hj,?_⟩;unfold IJ;rw[B4 hj,ej];rfl
 obtain⟨m1,m2⟩:=Sj is i;have em:IJ ys (argBest (fun i j=>decide (IJ ys i<IJ ys j)) (ys.size-1))=Ir i is:=by
  refine Int.le_antisymm ?_ (m2 _ (nm _ (by omega)))
  obtain⟨j,hj,ej⟩:=nx _ m1;rw[<-ej];exact h2 j (by omega)
 rw[em];exact⟨.int (Ir i is),H,I.kept hk,⟨_,rfl⟩,q⟩
theorem Og{K:Fg}{CL:ClA}{H:Hp}{A:Ak->Prop}:∀{es:Ac D}{is:Ac Ae}{ys:Ac V},HR es=Ab is->Reps K CL H A ys es->ys=is.map V.int
 |[],_,[],h,_=>by cases h;rfl
 |[],_,_::_,_,r=>r.elim
 |_::_,_,[],_,r=>r.elim
 |e::es,is,y::ys,h,r=>by
  cases e with
  |int i=>
   have h':(HR es).map (i :: ·)=Ab is:=h;cases e2:HR es with
   |none=>rw[e2]at h';cases h'
   |some js=>
    rw[e2]at h';cases h';have ih:=Og e2 r.2;have e1:y=.int i:=r.1;rw[ih,e1];rfl
  |_=>cases h
theorem ZW(ds:Ac D)(hl:∀ es,ds≠[.lst es]):(∃ i j,ds=[.int i,.int j])\/biD .min ds=.bad:=by
  match ds with
  |[.int i,.int j]=>exact .inl ⟨i,j,rfl⟩
  |[]=>exact .inr rfl
  |[x]=>cases x<;>first|exact .inr rfl|exact absurd rfl (hl _)
  |x::y::z::r=>cases x<;>cases y<;>exact .inr rfl
  |[x,.non]=>cases x<;>exact .inr rfl
  |[x,.bl _]=>cases x<;>exact .inr rfl
  |[x,.str _]=>cases x<;>exact .inr rfl
  |[x,.tup _]=>cases x<;>exact .inr rfl
  |[x,.lst _]=>cases x<;>exact .inr rfl
  |[x,.obj _ _]=>cases x<;>exact .inr rfl
  |[x,.exc _ _]=>cases x<;>exact .inr rfl
  |[x,.dic _]=>cases x<;>exact .inr rfl
  |[.non,.int _]=>exact .inr rfl
  |[.bl _,.int _]=>exact .inr rfl
  |[.str _,.int _]=>exact .inr rfl
  |[.tup _,.int _]=>exact .inr rfl
  |[.lst _,.int _]=>exact .inr rfl
  |[.obj _ _,.int _]=>exact .inr rfl
  |[.exc _ _,.int _]=>exact .inr rfl
  |[.dic _,.int _]=>exact .inr rfl
theorem rY(hc:X.calm=Aa):IW X CL W (.builtin "max") (biD .max):=by
 intro A pI s σ H xs us Q I r ⟨hA,ds,rs,p⟩;rcases ZX ds with ⟨i,j,rfl⟩|e
 ·obtain⟨v,w',rfl,rv,rw'⟩:=rs.two;have e1:=rv.int_of;have e2:=rw'.int_of
  subst e1 e2;exact aP hc pI s σ H _ us Q I r ⟨i,j,rfl,p _ H (AO.refl H) rfl⟩
 ·rw[e]at p;exact p.elim
theorem rX(hc:X.calm=Aa):IW X CL W (.builtin "min") (biD .min):=by
  intro A pI s σ H xs us Q I r ⟨hA,ds,rs,p⟩;by_cases hls:∃ es,ds=[.lst es]
  · obtain⟨es,rfl⟩:=hls;obtain⟨v,rfl,rv⟩:=rs.one;obtain⟨a,ys,rfl,sq,ry⟩:=rv.lst_of;have p':Bx (Rep X.K CL · A) W H (match HR es with
      |some (i::is)=>R.ok (.int (Ir i is))
      | _=>.bad) Q:=p
    cases e1:HR es with
    |none=>rw[e1]at p';exact p'.elim
    |some is=>
      cases is with
      |nil=>rw[e1]at p';exact p'.elim
      |cons i is=>
        rw[e1]at p';have ey:=Og e1 ry;subst ey;exact aN hc pI s σ H _ us Q I r ⟨a,i,is,rfl,sq,p' _ H (AO.refl H) rfl⟩
  rcases ZW ds (fun es z=>hls ⟨es,z⟩) with ⟨i,j,rfl⟩|e
  · obtain⟨v,w',rfl,rv,rw'⟩:=rs.two;have e1:=rv.int_of;have e2:=rw'.int_of
    subst e1 e2;exact aO hc pI s σ H _ us Q I r ⟨i,j,rfl,p _ H (AO.refl H) rfl⟩
  · rw[e]at p;exact p.elim
theorem cZ:IW X CL W (.type "tuple") (biD .tuple):=by
  intro A pI s σ H xs us Q I r ⟨hA,ds,rs,p⟩
  match ds,rs,p with
  |[.lst es],rs,p=>
    obtain⟨v,rfl,rv⟩:=rs.one;obtain⟨q,ys,rfl,sq,ry⟩:=rv.lst_of;exact Rx pI s σ H _ us Q I r ⟨q,ys,rfl,.inl ⟨sq,fun l hl=>p _ _ (F9 hl _) (KI hA hl ry)⟩⟩
  |[.tup es],rs,p=>
    obtain⟨v,rfl,rv⟩:=rs.one;obtain⟨q,ys,rfl,na,sq,ry⟩:=rv.tup_of;exact Rx pI s σ H _ us Q I r ⟨q,ys,rfl,.inr ⟨sq,p _ H (AO.refl H) ⟨q,ys,rfl,na,sq,ry⟩⟩⟩
  |[],_,p=>exact p.elim
  |[.non],_,p=>exact p.elim
  |[.bl _],_,p=>exact p.elim
  |[.int _],_,p=>exact p.elim
  |[.str _],_,p=>exact p.elim
  |[.obj _ _],_,p=>exact p.elim
  |[.exc _ _],_,p=>exact p.elim
  |[.dic _],rs,p=>first|exact p.elim|(obtain⟨v,rfl,rv⟩:=rs.one;exact rv.plain.elim)
  |x::_::_,_,p=>cases x<;>exact p.elim
end
section
variable{X:Cx}{CL:ClA}{W:XW}{a b c:At}{fa fb fc:Rho->R D}{pos:Bk}
theorem SB.congr{g:Rho->R Ao}(h:SB X CL W a f)(e:∀ ρ,g ρ=f ρ):SB X CL W a g:=fun A=>PT.weak (h A) fun σ H Q ⟨hA,ρ,q,p⟩=>⟨hA,ρ,q,by rw[<-e];exact p⟩
theorem mZ(ha:SB X CL W a f):SB X CL W (.UnaryOp .Not a pos) (fun ρ=>(f ρ).bind fun b=>.ok (!b)):=fun A=>PT.weak (mQ (ha A)) fun σ H Q ⟨hA,ρ,g,p⟩=>⟨hA,ρ,g,Dr.bindB p fun b H1 _ s1 p1=>p1 H1 (AO.refl H1)⟩
def SW(X:Cx)(CL:ClA)(W:XW)(e:At)(f:Rho->R Ao):Prop:=∀ A,PW X e (fun σ H Q=>AOk H A/\∃ ρ,Good X.K CL A ρ σ H/\Dr W H (f ρ) Q)
theorem PW.weak{t t':TT}(h:PW X e t)(k:∀ σ H Q,t' σ H Q->t σ H Q):PW X e t':=fun wh pI s σ H Q I q=>h wh pI s σ H Q I (k _ _ _ q)
theorem SW.sb(h:SW X CL W a f):SB X CL W a f:=fun A=>PW.pt (h A)
theorem SW.congr{g:Rho->R Ao}(h:SW X CL W a f)(e:∀ ρ,g ρ=f ρ):SW X CL W a g:=fun A=>PW.weak (h A) fun σ H Q ⟨hA,ρ,q,p⟩=>⟨hA,ρ,q,by rw[<-e];exact p⟩
theorem eC(ha:SB X CL W a f):SW X CL W (.BoolOp .And [a] pos) f:=fun A=>iL (ha A)
theorem kZ(ha:SB X CL W a f):SW X CL W (.BoolOp .Or [a] pos) f:=fun A=>mO (ha A)
theorem nX{g:Rho->R Ao}{rest:Ac At}(ha:SB X CL W a f)(hb:SW X CL W (.BoolOp .And (b::rest) pos) g):SW X CL W (.BoolOp .And (a::b::rest) pos) (fun ρ=>(f ρ).bind fun c=>if c=Aa then g ρ else .ok Ad):=
 fun A=>PW.weak (mP (ha A) (hb A)) fun σ H Q ⟨hA,ρ,gd,p⟩=>⟨hA,ρ,gd,Dr.bindB p fun c H1 _ s1 p1=>by
  cases c with
  |true=>exact⟨hA.same s1,ρ,gd.same s1,p1⟩
  | false=>exact p1 H1 (AO.refl H1)⟩
theorem uC{g:Rho->R Ao}{rest:Ac At}(ha:SB X CL W a f)(hb:SW X CL W (.BoolOp .Or (b::rest) pos) g):SW X CL W (.BoolOp .Or (a::b::rest) pos) (fun ρ=>(f ρ).bind fun c=>if c=Aa then .ok Aa else g ρ):=
 fun A=>PW.weak (vN (ha A) (hb A)) fun σ H Q ⟨hA,ρ,gd,p⟩=>⟨hA,ρ,gd,Dr.bindB p fun c H1 _ s1 p1=>by
  cases c with
  |false=>exact⟨hA.same s1,ρ,gd.same s1,p1⟩
  | true=>exact p1 H1 (AO.refl H1)⟩
theorem Vi(ho:OpD X CL W (CN op) g)(ha:ST X CL W a fa)(hb:ST X CL W b fb)(hm:G7 op b=Ad):SB X CL W (.Compare a [op] [b] pos) (fun ρ=>(fa ρ).bind fun x=>(fb ρ).bind fun y=>(g x y).bind DU):=
 fun A=>PT.weak (iP (ho A) (ha A) (hb A) hm) fun σ H Q ⟨hA,ρ,gd,p⟩=>⟨hA,ρ,gd,Dr.bind p fun dx x H1 _ s1 r1 p1=>⟨hA.same s1,ρ,gd.same s1,Dr.bind p1 fun dy y H2 _ s2 r2 p2=>
  ⟨(hA.same s1).same s2,dx,dy,r1.same s2,r2,Dr.bind p2 fun dz z H3 _ s3 r3 p3=>by
   cases dz with
   |bl k=>exact⟨k,r3,p3 H3 (AO.refl H3)⟩
   | _=>exact p3.elim⟩⟩⟩
theorem cS{op':ES}(hu:X.A.units+64<CA)(ha:ST X CL W a fa)(hb:ST X CL W b fb)(hc:ST X CL W c fc)(hm:Jr [op,op'] [b,c]=Ad):SB X CL W (.Compare a [op,op'] [b,c] pos) (fun ρ=>(fa ρ).bind fun x=>(fb ρ).bind fun y=>(Cp op x y).bind fun z=>(DU z).bind fun k=>if k=Aa then (fc ρ).bind fun u=>(Cp op' y u).bind DU else .ok Ad):=
  fun A=>PT.weak (bF (KH hu op A) (KH hu op' A) (ha A) (hb A) (hc A) hm) fun σ H Q ⟨hA,ρ,g,p⟩=>⟨hA,ρ,g,Dr.bind p fun dx x H1 _ s1 r1 p1=>⟨hA.same s1,ρ,g.same s1,Dr.bind p1 fun dy y H2 _ s2 r2 p2=>
    ⟨(hA.same s1).same s2,dx,dy,r1.same s2,r2,Dr.bind p2 fun dz z H3 _ s3 r3 p3=>by
      cases dz with
      |bl k=>
        refine⟨k,r3,?_⟩;cases k with
        |false=>exact⟨Ad,rfl,p3 H3 (AO.refl H3)⟩
        | true=>exact⟨((hA.same s1).same s2).same s3,ρ,((g.same s1).same s2).same s3,Dr.bind p3 fun du u H4 _ s4 r4 p5=>⟨(((hA.same s1).same s2).same s3).same s4,dy,du,(r2.same s3).same s4,r4,Dr.bind p5 fun dv v H5 _ s5 r5 p6=>by
            cases dv with
            |bl k'=>exact⟨k',r5,p6 H5 (AO.refl H5)⟩
            | _=>exact p6.elim⟩⟩
      | _=>exact p3.elim⟩⟩⟩
theorem mY(ha:ST X CL W a fa)(he:∀ whole,Iz a X.env whole=(do let v <-whole;JI a.pos;holding [v] (truthy v))):SB X CL W a (fun ρ=>(fa ρ).bind CC):=
 fun A=>PT.weak (bE (ha A) he) fun σ H Q ⟨hA,ρ,g,p⟩=>⟨hA,ρ,g,Dr.bind p fun d v H1 _ s1 r1 p1=>by
  cases d with
  |non=>
   have e:=r1.non_of;subst e;exact⟨Ad,rfl,p1 H1 (AO.refl H1)⟩
  |bl b=>
   have e:=r1.bl_of;subst e;exact⟨b,rfl,p1 H1 (AO.refl H1)⟩
  |int i=>
   have e:=r1.int_of;subst e;exact⟨_,rfl,p1 H1 (AO.refl H1)⟩
  |str x=>
   have e:=r1.str_of;subst e;have p2:Dr W H1 (if DM x.length=Aa then .ok (x.length != 0) else .bad) Q:=p1
   split at p2
   ·rename_i h;refine⟨_,⟨IM h,rfl⟩,?_⟩;have e:((x.length:Ae) != 0)=(x.length != 0):=by
     rw[BU];simp
    rw[e];exact p2 H1 (AO.refl H1)
   ·exact p2.elim
  |tup ds=>
   obtain⟨q,xs,rfl,_,sq,r⟩:=r1.tup_of;refine⟨_,.inr (.inl ⟨xs,sq,rfl⟩),?_⟩;have e:xs.isEmpty=ds.isEmpty:=by
    have:=r.length;cases xs<;>cases ds<;>first|rfl|cases this
   rw[e];exact p1 H1 (AO.refl H1)
  |lst ds=>
   obtain⟨q,xs,rfl,sq,r⟩:=r1.lst_of;refine⟨_,.inl ⟨xs,sq,rfl⟩,?_⟩;have e:xs.isEmpty=ds.isEmpty:=by
    have:=r.length;cases xs<;>cases ds<;>first|rfl|cases this
   rw[e];exact p1 H1 (AO.refl H1)
  | _=>exact p1.elim⟩
noncomputable def Mj(K:Fg)(CL:ClA)(H:Hp)(A:Ak->Prop)(cls:Ai)(dx:Av Ak)(x:Ex):Prop:=
 ∃ C,CL x.c=Ab C/\cls=.ref C/\(x.fs=[]\/∃ d vs,dx=Ab d/\¬ A d/\H d=Ab (.xd vs)/\Repf K CL H A vs x.fs)
end
def CQ(B:Ak->Prop)(ρ:Rho)(σ:L2.St):Ak->Prop:=fun a=>B a\/∃(j:Ag)(d:D),ρ[j]?=Ab (Ab (d,Aa))/\σ[j]?=Ab (Ab (.ref a))
structure Sx (K:Fg) (CL:ClA) (Fz:Ak->HO->Prop) (B:Ak->Prop) (ρ:Rho) (σ:L2.St) (H:Hp):Prop where
 good:Good K CL (CQ B ρ σ) ρ σ H
 aok:AOk H (CQ B ρ σ)
 new:∀(j:Ag)(d:D)(a:Ak),ρ[j]?=Ab (Ab (d,Aa))->σ[j]?=Ab (Ab (.ref a))->(∀ o,¬ Fz a o)/\¬ B a
 dis:∀(i j:Ag)(d e:D)(a:Ak),ρ[i]?=Ab (Ab (d,Aa))->ρ[j]?=Ab (Ab (e,Aa))->σ[i]?=Ab (Ab (.ref a))->σ[j]?=Ab (Ab (.ref a))->i=j
 same:∀ b o,Fz b o->H b=Ab o
 len:ρ.length=σ.length
def CP(K:Fg)(CL:ClA)(Fz:Ak->HO->Prop)(B:Ak->Prop)(W:XW)(o:O)(D:Ends):Prop:=match o with
  |.next ρ=>∀ σ H,Sx K CL Fz B ρ σ H->D.nx σ H
  |.brk ρ=>∀ σ H,Sx K CL Fz B ρ σ H->D.bk σ H
  |.cont ρ=>∀ σ H,Sx K CL Fz B ρ σ H->D.ct σ H
  |.ret d fr=>∀ v H,(∀ b o,Fz b o->H b=Ab o)->Rep K CL H B v d->(fr=Aa->∀ ds,d=.lst ds->∃ a xs,v=.ref a/\(∀ o,¬ Fz a o)/\H a=Ab (.lst xs)/\Reps K CL H (fun b=>B b\/b=a) xs ds)->D.rt v H
  |.exn x _=>∀ H,(∀ b o,Fz b o->H b=Ab o)->W x H
  |.bad=>BK
section
variable{K:Fg}{CL:ClA}{Fz Fy:Ak->HO->Prop}{B:Ak->Prop}{ρ:Rho}{σ:L2.St}{H H':Hp}
theorem Sx.mono(k:∀ b o,Fz b o->Fy b o)(x:Sx K CL Fy B ρ σ H):Sx K CL Fz B ρ σ H:=⟨x.good,x.aok,fun j d a h1 h2=>⟨fun o z=>(x.new j d a h1 h2).1 o (k _ _ z),(x.new j d a h1 h2).2⟩,x.dis,fun b o z=>x.same b o (k _ _ z),x.len⟩
theorem Sx.grow(x:Sx K CL Fz B ρ σ H)(s:AO H H'):Sx K CL Fz B ρ σ H':=⟨x.good.same s,x.aok.same s,x.new,x.dis,fun b o z=>s _ _ (x.same b o z),x.len⟩
theorem Di{l:Ac α}{v:α}(h:i≠j):(l.set i v)[j]?=l[j]?:=by rw[Gk h]
theorem HH{l:Ac α}{v w':α}(h:(l.set i v)[i]?=Ab w'):w'=v:=by
 rw[FS]at h;cases e:l[i]? with
 |none=>rw[e]at h;cases h
 |some x=>rw[e]at h;cases h;rfl
theorem Sx.set(x:Sx K CL Fz B ρ σ H){v:V}{d:D}(i:Ag)(r:Rep K CL H (CQ B ρ σ) v d):Sx K CL Fz B (ρ.set i (Ab (d,Ad))) (σ.set i (Ab v)) H:=by
 have own:∀(j:Ag)(e:D),(ρ.set i (Ab (d,Ad)))[j]?=Ab (Ab (e,Aa))->i≠j/\ρ[j]?=Ab (Ab (e,Aa)):=fun j e h=>by
  by_cases hj:i=j
  ·subst hj;have:=HH h;cases this
  ·exact⟨hj,by rw[Di hj]at h;exact h⟩
 have sub:∀ a,CQ B (ρ.set i (Ab (d,Ad))) (σ.set i (Ab v)) a->CQ B ρ σ a:=fun a h=>by
  rcases h with h|⟨j,e,h1,h2⟩
  ·exact .inl h
  ·obtain⟨hj,h1⟩:=own j e h1;rw[Di hj]at h2;exact .inr ⟨j,e,h1,h2⟩
 refine⟨⟨fun j e h=>?_,fun j e h=>?_,by rw[Bq,Bq];exact x.len⟩,fun a h=>x.aok a (sub a h),fun j e a h1 h2=>?_,fun j k e f a h1 h2 h3 h4=>?_,x.same,by rw[Bq,Bq];exact x.len⟩
 ·by_cases hj:i=j
  ·subst hj;have e1:=HH h;cases e1;refine⟨v,?_,Rep.sub sub _ r⟩;have hl:i<σ.length:=by
    rw[<-x.len];have:=(Ba.mp h).1;simpa using this
   rw[Dl hl]
  ·rw[Di hj]at h;obtain⟨w',q,rw'⟩:=x.good.sh j e h;exact⟨w',by rw[Di hj];exact q,Rep.sub sub _ rw'⟩
 ·obtain⟨hj,h1⟩:=own j e h;obtain⟨a,xs,ds,q,z,ha,hh,rr⟩:=x.good.ow j e h1;exact⟨a,xs,ds,by rw[Di hj];exact q,z,.inr ⟨j,e,h,by rw[Di hj];exact q⟩,hh,Reps.sub sub _ rr⟩
 ·obtain⟨hj,h1⟩:=own j e h1;rw[Di hj]at h2;exact x.new j e a h1 h2
 ·obtain⟨hj,h1⟩:=own j e h1;obtain⟨hk,h2⟩:=own k f h2;rw[Di hj]at h3;rw[Di hk]at h4;exact x.dis j k e f a h1 h2 h3 h4
end
section
variable{X:Cx}{CL:ClA}{W:XW}{pos:Bk}{e:At}{fe:Rho->R D}
def SS(X:Cx)(CL:ClA)(W:XW)(st:Cj)(f:Rho->O):Prop:=∀ Fz B,PS X st (fun D σ H=>∃ ρ,Sx X.K CL Fz B ρ σ H/\CP X.K CL Fz B W (f ρ) D)
def SSs(X:Cx)(CL:ClA)(W:XW)(st:Ac Cj)(f:Rho->O):Prop:=∀ Fz B,PSs X st (fun D σ H=>∃ ρ,Sx X.K CL Fz B ρ σ H/\CP X.K CL Fz B W (f ρ) D)
theorem PS.weak{e:Cj}{t t':TS}(h:PS X e t)(k:∀ D σ H,t' D σ H->t D σ H):PS X e t':=fun pI s σ H D I q=>h pI s σ H D I (k _ _ _ q)
theorem PSs.weak{e:Ac Cj}{t t':TS}(h:PSs X e t)(k:∀ D σ H,t' D σ H->t D σ H):PSs X e t':=fun pI s σ H D I q=>h pI s σ H D I (k _ _ _ q)
theorem CP.ex{f:D->O}(x:Sx X.K CL Fz B ρ σ H)(h:CP X.K CL Fz B W (O.of ρ r f) D')(k:∀ d v H',r=.ok d->AO H H'->Rp H' v d->Sx X.K CL Fz B ρ σ H'->CP X.K CL Fz B W (f d) D'->Q v H'):Bx Rp W H r Q:=by
 cases r with
 |ok d=>exact fun v H' s r=>k d v H' rfl s r (x.grow s) h
 |exn y=>exact fun H' s=>h H' fun b o z=>s _ _ (x.same b o z)
 |bad=>exact h
theorem CP.exB{r:R Ao}{f:Ao->O}{Q:Ao->Hp->Prop}(x:Sx X.K CL Fz B ρ σ H)(h:CP X.K CL Fz B W (O.of ρ r f) D')(k:∀ b H',r=.ok b->AO H H'->Sx X.K CL Fz B ρ σ H'->CP X.K CL Fz B W (f b) D'->Q b H'):Dr W H r Q:=by
 cases r with
 |ok d=>exact fun H' s=>k d H' rfl s (x.grow s) h
 |exn y=>exact fun H' s=>h H' fun b o z=>s _ _ (x.same b o z)
 |bad=>exact h
theorem eO(he:SE X CL W e fe)(hs:DS e Af pos.line X.env=pure Ad):SS X CL W (.Expr e pos) (fun ρ=>O.of ρ (fe ρ) fun _=>.next ρ):=fun Fz B pI s σ H D I ⟨ρ,x,p⟩=>
 MX (he (CQ B ρ σ)) hs pI s σ H D I ⟨x.aok,ρ,x.good,CP.ex x p fun d v H' _ s r x' q=>q σ H' x'⟩
theorem eJ(he:SE X CL W e fe):SS X CL W (.Return (Ab e) pos) (fun ρ=>O.of ρ (fe ρ) fun d=>.ret d Ad):=fun Fz B pI s σ H D I ⟨ρ,x,p⟩=>
 PU (he (CQ B ρ σ)) pI s σ H D I ⟨x.aok,ρ,x.good,CP.ex x p fun d v H' _ s r x' q=>q v H' x'.same (Rep.sub (fun a h=>.inl h) _ r) fun z=>nomatch z⟩
theorem uJ{a b:Ac Cj}{fa fb:Rho->O}(hc:SB X CL W c fc)(ha:SSs X CL W a fa)(hb:SSs X CL W b fb):SS X CL W (.If c a b pos) (fun ρ=>O.of ρ (fc ρ) fun k=>if k=Aa then fa ρ else fb ρ):=fun Fz B pI s σ H D I ⟨ρ,x,p⟩=>
 vR (hc (CQ B ρ σ)) (ha Fz B) (hb Fz B) pI s σ H D I ⟨x.aok,ρ,x.good,CP.exB x p fun k H' _ s x' q=>by
  cases k with
  |true=>exact⟨ρ,x',q⟩
  | false=>exact⟨ρ,x',q⟩⟩
theorem eH:SSs X CL W [] (fun ρ=>.next ρ):=fun Fz B=>PSs.weak iQ fun D σ H ⟨ρ,x,p⟩=>p σ H x
theorem cN{st:Cj}{rest:Ac Cj}{f g:Rho->O}(h1:SS X CL W st f)(h2:SSs X CL W rest g):SSs X CL W (st::rest) (fun ρ=>(f ρ).seq g):=fun Fz B=>PSs.weak (bG (h1 Fz B) (h2 Fz B)) fun D σ H ⟨ρ,x,p⟩=>⟨ρ,x,by
 dsimp only at p;cases e:f ρ with
 |next ρ'=>rw[e]at p;exact fun σ' H' x'=>⟨ρ',x',p⟩
 |ret d b=>rw[e]at p;exact p
 |brk ρ'=>rw[e]at p;exact p
 |cont ρ'=>rw[e]at p;exact p
 |exn y ρ'=>rw[e]at p;exact p
 | bad=>rw[e]at p;exact p⟩
end
def Jc(K:Fg)(CL:ClA)(A:Ak->Prop)(ds:Ac D)(J:It)(H1:Hp):Prop:=∀ H,Kp A H1 H->∀ i:Ag,(ds.length<=i->J.stop i H)/\∀ d,ds[i]?=Ab d->J.go i H/\∀ x H',J.yld i H x H'->AO H H'/\∀ B,(∀ a,B a->A a\/H1 a=Af)->AOk H B->Rep K CL H' B x d
def E9(K:Fg)(CL:ClA)(A:Ak->Prop)(W:XW)(H:Hp)(r:R (Ac D))(Q:It->Hp->Prop):Prop:=match r with
  |.ok ds=>∀ J H',AO H H'->Jc K CL A ds J H'->ds.length<=sizeLine->Q J H'
  |.exn x=>∀ H',AO H H'->W x H'
  |.bad=>BK
def SI(X:Cx)(CL:ClA)(W:XW)(tg iter:At)(f:Rho->R (Ac D)):Prop:=∀ A,PI X tg iter (fun σ H R=>AOk H A/\∃ ρ,Good X.K CL A ρ σ H/\E9 X.K CL A W H (f ρ) R)
theorem PI.weak{t t':TI}(h:PI X tg e t)(k:∀ σ H Q,t' σ H Q->t σ H Q):PI X tg e t':=fun pI s σ H Q I q=>h pI s σ H Q I (k _ _ _ q)
section
variable{X:Cx}{CL:ClA}{W:XW}{pos p:Bk}{tg e a b:At}{fe fa fb:Rho->R D}
theorem E9.ex{f:D->R (Ac D)}{Q:It->Hp->Prop}{Q':VK}(h:E9 X.K CL A W H (r.bind f) Q)(k:∀ d v H',r=.ok d->AO H H'->Rp H' v d->E9 X.K CL A W H' (f d) Q->Q' v H'):Bx Rp W H r Q':=by
  cases r with
  | ok d=>exact fun v H' s q=>k d v H' rfl s q (by
      have h':E9 X.K CL A W H (f d) Q:=h;cases e:f d with
      |ok ds=>rw[e]at h';exact fun J H2 s2 y z=>h' J H2 (s.trans s2) y z
      |exn y=>rw[e]at h';exact fun H2 s2=>h' H2 (s.trans s2)
      | bad=>rw[e]at h';exact h')
  |exn y=>exact h
  |bad=>exact h
theorem LG{x:V}(r:Rep K CL H1 A x d)(k:Kp A H1 H)(hB:∀ a,B a->A a\/H1 a=Af):Rep K CL H B x d:=by
 have r1:Rep K CL H1 (fun a=>A a\/B a) x d:=Rep.wide (fun a ha=>ha.elim .inl (hB a)) _ r
 have r2:Rep K CL H (fun a=>A a\/B a) x d:=Rep.kp (fun b o e na=>k b o e fun z=>na (.inl z)) _ r1
 exact Rep.sub (fun a ha=>.inr ha) _ r2
theorem ZA{ds:Ac D}(na:¬ A q\/KL K q xs)(s:SqL K H q xs)(r:Reps K CL H A xs ds):Jc K CL A ds (Itl K q) H:=fun H' k i=>by
 have s':=Nb k na s;refine⟨fun h=>⟨xs,s',by rw[r.length];exact h⟩,fun d hd=>?_⟩
 obtain⟨v,hv,rv⟩:=r.get hd;exact⟨⟨xs,v,s',hv⟩,fun x H2 ⟨e,y⟩=>by
  subst e;have:=y xs s';rw[hv]at this;cases this;exact⟨AO.refl _,fun B hB _=>LG rv k hB⟩⟩
theorem cH{ds:Ac D}(na:¬ A q\/KT K q xs)(s:SqT K H q xs)(r:Reps K CL H A xs ds):Jc K CL A ds (Itt K q) H:=fun H' k i=>by
 have s':=Na k na s;refine⟨fun h=>⟨xs,s',by rw[r.length];exact h⟩,fun d hd=>?_⟩
 obtain⟨v,hv,rv⟩:=r.get hd;exact⟨⟨xs,v,s',hv⟩,fun x H2 ⟨e,y⟩=>by
  subst e;have:=y xs s';rw[hv]at this;cases this;exact⟨AO.refl _,fun B hB _=>LG rv k hB⟩⟩
theorem Tj(lo:Ae)(n:Ag):Jc K CL A (FN lo n) (Itr lo n) H:=fun H' k i=>by
 refine⟨fun h=>by rw[Os]at h;exact h,fun d hd=>?_⟩
 obtain⟨h1,rfl⟩:=bW hd;exact⟨h1,fun x H2 ⟨e,y⟩=>by
  subst e y;exact⟨AO.refl _,fun _ _ _=>rfl⟩⟩
theorem qF{l:At}{tl:TE}(hl:PE X l tl):PI X tg l (fun σ H R=>tl σ H fun x H1=>(∃ a,x=.ref a/\(∃ xs,SqL X.K H1 a xs/\(xs.length<=sizeLine->R (Itl X.K a) H1)))\/∃ a,x=.ref a/\(∃ xs,SqT X.K H1 a xs/\(xs.length<=sizeLine->R (Itt X.K a) H1))):=by
 intro pI s σ H R I h;refine thn (hl pI s σ H _ I h) fun v s1 ⟨x,H1,I1,r1,q1⟩=>?_
 rcases q1 with ⟨a,e,xs,hq,q⟩|⟨a,e,xs,hq,q⟩
 ·subst e;cases r1;obtain⟨its,rv,p,hz⟩:=I1.list hq;refine D8 p.isList ?_;refine⟨s1.heap.objs.size,[s1.heap.objs.size],_,_,H1,rfl,I1.kept (t':=s1.toks) fun b o e=>As _ e,Zr a _,⟨_,AC _ rfl,rfl,rfl⟩,fun b hb=>?_,q hz⟩
  have e:b=s1.heap.objs.size:=by simpa using hb
  subst e;exact I1.fpOk (AU _) (I1.hok.fresh (AU _))
 ·subst e;cases r1;obtain⟨its,rv,p,hz⟩:=I1.tuple hq;refine FF (show s1.heap.IsTuple a its.toArray from p) ?_
  refine⟨s1.heap.objs.size,[s1.heap.objs.size],_,_,H1,rfl,I1.kept (t':=s1.toks) fun b o e=>As _ e,ZB a _,⟨_,AC _ rfl,rfl,rfl⟩,fun b hb=>?_,q hz⟩
  have e:b=s1.heap.objs.size:=by simpa using hb
  subst e;exact I1.fpOk (AU _) (I1.hok.fresh (AU _))
theorem YU(he:SE X CL W e fe):SI X CL W tg e (fun ρ=>(fe ρ).bind Cc):=fun A=>PI.weak (qF (he A)) fun σ H R ⟨hA,ρ,g,p⟩=>⟨hA,ρ,g,E9.ex p fun d v H1 _ s1 r1 p1=>by
 cases d with
 |lst ds=>
  obtain⟨q,xs,rfl,na,sq,r⟩:=r1;exact .inl ⟨q,rfl,xs,sq,fun hz=>p1 _ H1 (AO.refl H1) (ZA na sq r) (by rw[<-r.length];exact hz)⟩
 |tup ds=>
  obtain⟨q,xs,rfl,na,sq,r⟩:=r1;exact .inr ⟨q,rfl,xs,sq,fun hz=>p1 _ H1 (AO.refl H1) (cH na sq r) (by rw[<-r.length];exact hz)⟩
 | _=>exact p1.elim⟩
theorem RN{lo hi:Ae}{ds:Ac D}(h:Dt lo hi=.ok ds):(-(2 ^ 62)<=lo/\lo<2 ^ 62)/\(-(2 ^ 62)<=hi/\hi<2 ^ 62)/\ds=FN lo (hi-lo).toNat/\(FN lo (hi-lo).toNat).length<=sizeLine:=by
 unfold Dt at h;split at h
 ·rename_i q;cases h;exact⟨by omega,by omega,rfl,by rw[Os,CW];omega⟩
 ·cases h
theorem RA{lo hi:Ae}{x:Ex}(h:Dt lo hi=.exn x):BK:=by
 unfold Dt at h;split at h<;>cases h
theorem oO(ha:ST X CL W a fa)(hg:Gl X "range")(hm:X.mg "range" = Af)(hs:AM [a] X.env=[(Ad,eval a X.env)]):SI X CL W tg (.Call (.Name "range" p) [a] [] pos) (fun ρ=>(fa ρ).bind fun x=>(Fl x).bind fun j=>Dt 0 j):=
 fun A=>PI.weak (aA hg hm (FH (ha A) Hf hs) hs) fun σ H R ⟨hA,ρ,g,q⟩=>⟨hA,ρ,g,E9.ex q fun d v H1 _ s1 r1 p1=>by
  cases d with
  |int j=>
   have e:=r1.int_of;subst e;have p2:E9 X.K CL A W H1 (Dt 0 j) R:=p1;cases e2:Dt 0 j with
   |ok ds=>
    rw[e2]at p2;obtain⟨_,h2,rfl,hz⟩:=RN e2;exact⟨j,rfl,h2.1,h2.2,p2 _ H1 (AO.refl H1) (by rw[Jh];exact Tj 0 j.toNat) hz⟩
   |exn y=>exact(RA e2).elim
   |bad=>rw[e2]at p2;exact p2.elim
  | _=>exact p1.elim⟩
theorem eX(ha:ST X CL W a fa)(hb:ST X CL W b fb)(hg:Gl X "range")(hm:X.mg "range" = Af)(hs:AM [a,b] X.env=[(Ad,eval a X.env),(Ad,eval b X.env)])(hs2:AM [b] X.env=[(Ad,eval b X.env)]):
  SI X CL W tg (.Call (.Name "range" p) [a,b] [] pos) (fun ρ=>(fa ρ).bind fun x=>(fb ρ).bind fun y=>(Fl x).bind fun i=>(Fl y).bind fun j=>Dt i j):=
 fun A=>PI.weak (Z9 hg hm (FH (ha A) (FH (hb A) Hf hs2) (by rw[hs,hs2])) hs hs2) fun σ H R ⟨hA,ρ,g,q⟩=>⟨hA,ρ,g,E9.ex q fun d v H1 _ s1 r1 p1=>⟨hA.same s1,ρ,g.same s1,E9.ex p1 fun d2 v2 H2 _ s2 r2 p2=>by
  cases d with
  |int i=>
   cases d2 with
   |int j=>
    have e:=r1.int_of;have e':=r2.int_of
    subst e e';have p3:E9 X.K CL A W H2 (Dt i j) R:=p2;cases e2:Dt i j with
    |ok ds=>
     rw[e2]at p3;obtain⟨h1,h2,rfl,hz⟩:=RN e2;exact⟨i,j,rfl,⟨h1.1,h1.2,h2.1,h2.2⟩,p3 _ H2 (AO.refl H2) (Tj _ _) hz⟩
    |exn y=>exact(RA e2).elim
    |bad=>rw[e2]at p3;exact p3.elim
   |_=>exact p2.elim
  | _=>exact p2.elim⟩⟩
theorem CP.exI{r:R (Ac D)}{f:Ac D->O}{Q:It->Hp->Prop}(x:Sx X.K CL Fz B ρ σ H)(h:CP X.K CL Fz B W (O.of ρ r f) D')(k:∀ ds J H',r=.ok ds->AO H H'->Jc X.K CL A ds J H'->ds.length<=sizeLine->Sx X.K CL Fz B ρ σ H'->CP X.K CL Fz B W (f ds) D'->Q J H'):E9 X.K CL A W H r Q:=by
 cases r with
 |ok d=>exact fun J H' s y z=>k d J H' rfl s y z (x.grow s) h
 |exn y=>exact fun H' s=>h H' fun b o z=>s _ _ (x.same b o z)
 |bad=>exact h
theorem CP.turn{Fy:Ak->HO->Prop}{o:O}{g:Rho->O}{N:L2.St->Hp->Prop}(hf:∀ b q,Fz b q->Fy b q)(h:CP K CL Fz B W (o.turn g) D')(k:∀ ρ' σ' H',Sx K CL Fy B ρ' σ' H'->CP K CL Fz B W (g ρ') D'->N σ' H'):CP K CL Fy B W o {D' with nx:=N,ct:=N,bk:=D'.nx}:=by
 cases o with
 |next ρ'=>exact fun σ' H' x=>k ρ' σ' H' x h
 |cont ρ'=>exact fun σ' H' x=>k ρ' σ' H' x h
 |brk ρ'=>exact fun σ' H' x=>h σ' H' (x.mono hf)
 |ret d b=>exact fun v H' s r n=>h v H' (fun b o z=>s b o (hf b o z)) r fun z ds e=>let ⟨a,xs,h1,h2,h3⟩:=n z ds e;⟨a,xs,h1,fun o q=>h2 o (hf a o q),h3⟩
 |exn y ρ'=>exact fun H' s=>h H' (fun b o z=>s b o (hf b o z))
 |bad=>exact h
noncomputable def FJ(ts:Ac Ag)(ρ:Rho):Rho:=ts.foldl (fun ρ t=>ρ.set t Af) ρ
def GT(K:Fg)(CL:ClA)(as:D->Rho->R Rho)(g:TG):Prop:=∀ Fz B ρ σ H v d ρ' Q,Sx K CL Fz B ρ σ H->Rep K CL H (CQ B ρ σ) v d->as d ρ=.ok ρ'->(∀ σ',Sx K CL Fz B ρ' σ' H->Q σ' H)->g v σ H Q
theorem kG(i:Ag):GT K CL (fun d ρ=>.ok (ρ.set i (Ab (d,Ad)))) (Fk i):=fun Fz B ρ σ H v d ρ' Q x r e k=>by
 cases e;exact k _ (x.set i r)
theorem PQ{K:Fg}{Fz:Ak->HO->Prop}{B:Ak->Prop}{H:Hp}:∀(ts:Ac Ag)(ds:Ac D)(vs:Ac V)(ρ ρ':Rho)(σ:L2.St)(Q:L2.St->Hp->Prop),Sx K CL Fz B ρ σ H->Reps K CL H (CQ B ρ σ) vs ds->E6 ts ds ρ=Ab ρ'->(∀ σ',Sx K CL Fz B ρ' σ' H->Q σ' H)->(ts.foldr (fun t u=>HS (Fk t) u) HV) vs σ H Q
 |[],[],[],ρ,ρ',σ,Q,x,_,e,k=>by
  cases e;exact⟨rfl,k σ x⟩
 |t::ts,d::ds,v::vs,ρ,ρ',σ,Q,x,r,e,k=>by
  refine⟨v,vs,rfl,PQ ts ds vs _ ρ' _ Q (x.set t r.1) (Reps.sub (fun a ha=>?_) ds r.2) e k⟩
  rcases ha with ha|⟨j,c,h1,h2⟩
  ·exact .inl ha
  ·by_cases hj:t=j
   ·subst hj;have:=HH h1;cases this
   ·rw[Di hj]at h1 h2;exact .inr ⟨j,c,h1,h2⟩
 |[],_::_,_,_,_,_,_,_,_,e,_=>by cases e
 |_::_,[],_,_,_,_,_,_,_,e,_=>by cases e
 |[],[],_::_,_,_,_,_,_,r,_,_=>r.elim
 |_::_,_::_,[],_,_,_,_,_,r,_,_=>r.elim
theorem Mz:∀(ts:Ac Ag)(ds:Ac D)(ρ ρ':Rho),E6 ts ds ρ=Ab ρ'->ds.length=ts.length
 |[],[],_,_,_=>rfl
 |_::ts,_::ds,_,_,e=>congrArg (· + 1) (Mz ts ds _ _ e)
 |[],_::_,_,_,e=>by cases e
 |_::_,[],_,_,e=>by cases e
theorem UY(ts:Ac Ag):GT K CL (GA ts) (K9 K ts.length (ts.foldr (fun t u=>HS (Fk t) u) HV)):=fun Fz B ρ σ H v d ρ' Q x r e k=>by
 cases d with
 |tup ds=>
  obtain⟨a,xs,rfl,na,sq,rs⟩:=r;rw[RW]at e;cases e2:E6 ts ds ρ with
  |none=>rw[e2]at e;cases e
  |some ρ2=>
   rw[e2]at e;cases e;exact⟨a,xs,rfl,sq,by rw[rs.length];exact Mz _ _ _ _ e2,PQ ts ds xs ρ _ σ Q x rs e2 k⟩
 |_=>cases e
theorem Vd{body:Ac Cj}{fbd:Rho->O}{g:TG}(hp:Gh (model X.prog X.w) X.A X.env X.xe)(hc:X.calm=Aa)(hGT:GT X.K CL as g)(hg:PG X tg g)(hit:SI X CL W tg iter fi)(hb:SSs X CL W body fbd)(hs:∀ x,Dj iter X.env x=pure x)(hax:∀ d ρ x,as d ρ≠.exn x):SS X CL W (.For tg iter body [] pos) (fun ρ=>O.of ρ (fi ρ) fun xs=>CS (fun x ρ'=>O.of ρ' (as x ρ') fbd) xs ρ):=fun Fz B pI s σ H D I ⟨ρ,x,p⟩=>by
 refine qA hp hc (hit (CQ B ρ σ)) hg (tb:=fun D σ H=>∃ Fy,(fun D σ H=>∃ ρ,Sx X.K CL Fy B ρ σ H/\CP X.K CL Fy B W (fbd ρ) D) D σ H) (fun pI s σ H D I ⟨Fy,q⟩=>hb Fy B pI s σ H D I q) hs pI s σ H D I ⟨x.aok,ρ,x.good,CP.exI x p fun ds J H1 _ s1 y _ x1 q=>?_⟩
 let Fy:Ak->HO->Prop:=fun b o=>H1 b=Ab o/\¬ ∃(j:Ag)(d:Ov.D),ρ[j]?=Ab (Ab (d,Aa))/\σ[j]?=Ab (Ab (.ref b))
 have hfy:∀ b o,Fz b o->Fy b o:=fun b o z=>⟨x1.same b o z,fun ⟨j,d,h1,h2⟩=>(x1.new j d b h1 h2).1 o z⟩
 have xy:Sx X.K CL Fy B ρ σ H1:=⟨x1.good,x1.aok,fun j d a h1 h2=>⟨fun o z=>z.2 ⟨j,d,h1,h2⟩,(x1.new j d a h1 h2).2⟩,x1.dis,fun b o z=>z.1,x1.len⟩
 refine⟨fun k m σ' H'=>m=ds.length-k/\k<=ds.length/\∃ ρ',Sx X.K CL Fy B ρ' σ' H'/\CP X.K CL Fz B W (CS (fun x ρ'=>O.of ρ' (as x ρ') fbd) (ds.drop k) ρ') D,⟨ds.length,by simp,CV _,ρ,xy,q⟩,?_⟩
 rintro k m σ' H' ⟨rfl,hk,ρ',x',q'⟩;have kp:Kp (CQ B ρ σ) H1 H':=fun b o e na=>x'.same b o ⟨e,fun z=>na (.inr z)⟩
 obtain⟨yst,ygo⟩:=y H' kp k;by_cases hlt:k<ds.length
 ·have hd:ds[k]?=Ab ds[k]:=AV hlt;obtain⟨hgo,hyl⟩:=ygo _ hd;refine .inr ⟨hgo,fun σ'' H''=>∃ ρ'',Sx X.K CL Fy B ρ'' σ'' H''/\CP X.K CL Fz B W (CS (fun x ρ'=>O.of ρ' (as x ρ') fbd) (ds.drop (k+1)) ρ'') D,fun σ'' H'' z=>⟨ds.length-(k+1),by omega,rfl,hlt,z⟩,fun v H2 hv=>?_⟩
  obtain⟨e2,rv⟩:=hyl v H2 hv;rw[Fp hlt]at q';have q2:CP X.K CL Fz B W ((O.of ρ' (as ds[k] ρ') fbd).turn (CS (fun x ρ'=>O.of ρ' (as x ρ') fbd) (ds.drop (k+1)))) D:=q'
  have rv':Rep X.K CL H2 (CQ B ρ' σ') v ds[k]:=rv _ (fun a ha=>by
    rcases ha with ha|⟨j,d,h1,h2⟩
    ·exact .inl (.inl ha)
    ·cases e:H1 a with
     |none=>exact .inr rfl
     |some o=>
      by_cases ho:∃(j:Ag)(d:Ov.D),ρ[j]?=Ab (Ab (d,Aa))/\σ[j]?=Ab (Ab (.ref a))
      ·exact .inl (.inr ho)
      ·exact absurd ⟨e,ho⟩ ((x'.new j d a h1 h2).1 o)) x'.aok
  cases ea:as ds[k] ρ' with
  |bad=>rw[ea]at q2;exact q2.elim
  |exn z=>exact absurd ea (hax _ _ z)
  |ok ρ2=>
   rw[ea,O.of_ok]at q2;exact hGT Fy B ρ' σ' H2 v ds[k] ρ2 _ (x'.grow e2) rv' ea fun σ3 x3=>⟨Fy,ρ2,x3,CP.turn hfy q2 fun ρ3 σ3 H3 x3 q3=>⟨ρ3,x3,q3⟩⟩
 ·have hk':ds.length<=k:=by omega
  rw[Ww hk']at q';exact .inl ⟨yst hk',q' σ' H' (x'.mono hfy)⟩
end
section
variable{X:Cx}{CL:ClA}{W:XW}{a b c:At}{fa fb fc:Rho->R D}{pos:Bk}
noncomputable def tyK:Ki->Av DT
 |.int=>Ab "int"
 |.bool=>Ab "bool"
 |.str=>Ab "str"
 |.list=>Ab "list"
 |.tuple=>Ab "tuple"
 |_=>Af
noncomputable def PX:D->Ao
 |.obj _ _=>Ad
 |.exc _ _=>Ad
 |.dic _=>Ad
 |_=>Aa
theorem oY{k:Ki}{Q:Vq}{E:Vq}(I:Inv X pI σ H s)(r:C3 X.K CL H A v d)(q:BZ v u)(hT:tyK k=Ab T)(hd:PX d=Aa)(h:∀ s',Inv X pI σ H s'->Q (.bool (kiD up k d)) s'):
  AB (model X.prog X.w) X.A (call (.builtin "isinstance") [u,.type T]) Q E s:=by
 have r':=r.plain;have it:=fun t=>h _ (I.tok t)
 cases d with
 |obj=>cases hd
 |exc=>cases hd
 |dic=>cases hd
 |non=>
  cases r';cases q;cases k<;>simp only[tyK]at hT<;>cases hT
  ·exact IsiPair.NoneType_int (it _)
  ·exact IsiPair.NoneType_bool (it _)
  ·exact IsiPair.NoneType_str (it _)
  ·exact IsiPair.NoneType_list (it _)
  ·exact IsiPair.NoneType_tuple (it _)
 |bl b=>
  cases r';cases q;cases k<;>simp only[tyK]at hT<;>cases hT
  ·exact IsiPair.bool_int (h _ I)
  ·exact IsiPair.bool_bool (h _ I)
  ·exact IsiPair.bool_str (it _)
  ·exact IsiPair.bool_list (it _)
  ·exact IsiPair.bool_tuple (it _)
 |int i=>
  cases r';obtain⟨t,rfl⟩:=q;cases k<;>simp only[tyK]at hT<;>cases hT
  ·exact IsiPair.int_int (h _ I)
  ·exact IsiPair.int_bool (it _)
  ·exact IsiPair.int_str (it _)
  ·exact IsiPair.int_list (it _)
  ·exact IsiPair.int_tuple (it _)
 |str x=>
  cases r';obtain⟨t,rfl⟩:=q;cases k<;>simp only[tyK]at hT<;>cases hT
  ·exact IsiPair.str_int (it _)
  ·exact IsiPair.str_bool (it _)
  ·exact IsiPair.str_str (h _ I)
  ·exact IsiPair.str_list (it _)
  ·exact IsiPair.str_tuple (it _)
 |tup ds=>
  obtain⟨p,xs,rfl,_,sq,rr⟩:=r';obtain⟨its,rv,pt,_⟩:=I.tuple sq;cases q;have pt':s.heap.IsTuple p its.toArray:=pt;cases k<;>simp only[tyK]at hT<;>cases hT
  ·exact IsiPair.isTuple_int pt' (fun _ _ e=>e) (it _)
  ·exact IsiPair.isTuple_bool pt' (fun _ _ e=>e) (it _)
  ·exact IsiPair.isTuple_str pt' (fun _ _ e=>e) (it _)
  ·exact IsiPair.isTuple_list pt' (fun _ _ e=>e) (it _)
  ·exact IsiPair.isTuple_tuple pt' (fun _ _ e=>e) (h _ I)
 |lst ds=>
  obtain⟨p,xs,rfl,_,sq,rr⟩:=r';obtain⟨its,rv,pl,_⟩:=I.list sq;cases q;have pt':s.heap.IsList p its.toArray:=Ii pl;cases k<;>simp only[tyK]at hT<;>cases hT
  ·exact IsiPair.isList_int pt' (fun _ _ e=>e) (it _)
  ·exact IsiPair.isList_bool pt' (fun _ _ e=>e) (it _)
  ·exact IsiPair.isList_str pt' (fun _ _ e=>e) (it _)
  ·exact IsiPair.isList_list pt' (fun _ _ e=>e) (h _ I)
  ·exact IsiPair.isList_tuple pt' (fun _ _ e=>e) (it _)
theorem ZZ{k:Ki}(hT:tyK k=Ab T)(p:Bx Rp W H (Fo up [k] d) Q):PX d=Aa/\Bx Rp W H (.ok (.bl (kiD up k d))) Q:=by
 cases k<;>simp only[tyK]at hT<;>cases hT<;>cases d<;>first|exact p.elim|exact⟨rfl,by simpa using p⟩
theorem mS{k:Ki}(hT:tyK k=Ab T)(hg:Gl X "isinstance")(hm:X.mg "isinstance" = Af)(hg2:Gl X x)(hm2:X.mg x=Af)(hv:Db x=Ab (.type T))(hn:x≠"__name__")(hdb:(x==("__debug__" : Al))=Ad)(ha:ST X CL W a fa)(he:AM [a,.Name x p2] X.env=(Ad,eval a X.env)::AM [.Name x p2] X.env):SE X CL W (.Call (.Name "isinstance" p) [a,.Name x p2] [] pos) (fun ρ=>(fa ρ).bind fun x=>Fo up [k] x):=fun A=>
 PE.weak (O3 (r:=fun xs H Q=>∃ y d,xs=[y,.ty T]/\C3 X.K CL H A y d/\PX d=Aa/\Q (.bl (kiD up k d)) H) (fun pI s σ H xs us Q I r ⟨y,d,e,ry,hd,q⟩=>by
   subst e;obtain⟨u,w',rfl,r1,r2⟩:=Qk r;cases r2;exact oY I ry r1 hT hd fun s' I'=>⟨.bl _,H,I',rfl,q⟩)
  hg hm boot_isinstance (FH (ha A) (FH (gD (v:=.ty T) hg2 hm2 hv rfl hn hdb) Hf rfl) he) (by decide) (by decide) he rfl) fun σ H Q ⟨hA,ρ,g,q⟩=>⟨hA,ρ,g,Bx.bind q fun d v H1 _ s1 r1 p1=>by
   obtain⟨hd,p2⟩:=ZZ hT p1;exact⟨v,d,rfl,r1,hd,p2 _ H1 (AO.refl H1) rfl⟩⟩
theorem O9{b:Ao}{A':Bu}{E:Vq}{Q:Ao->Ap->Prop}(r:Rep X.K CL H A v d)(q:BZ v u)(h:EF d=.ok b)(hq:Q b s):AB (model prog w) A' (truthy u) Q E s:=by
 cases d with
 |non=>
  cases r;cases q;cases h;exact truthy_none hq
 |bl k=>
  cases r;cases q;cases h;exact C0 hq
 |int i=>
  cases r;obtain⟨t,rfl⟩:=q;cases h;exact truthy_int hq
 |_=>cases h
theorem RE:∀{ds:Ac D}{b:Ao},GB ds=.ok b->(∀ j,j<ds.length->∃ c,EF (ds.getD j .non)=.ok c)/\b=(Bb ds.length).all fun j=>match EF (ds.getD j .non) with
  |.ok c=>c
  |_=>Ad
 |[],b,h=>by cases h;exact⟨fun j hj=>absurd hj (Ft _),rfl⟩
 |d::ds,b,h=>by
  rw[Oq]at h;cases e:EF d with
  |bad=>rw[e]at h;cases h
  |exn x=>rw[e]at h;cases h
  |ok c=>
   rw[e,R.bind_ok]at h;cases e2:GB ds with
   |bad=>rw[e2]at h;cases h
   |exn x=>rw[e2]at h;cases h
   |ok c2=>
    rw[e2,R.bind_ok]at h;cases h;obtain⟨h1,h2⟩:=RE e2;refine⟨fun j hj=>?_,?_⟩
    ·cases j with
     |zero=>exact⟨c,e⟩
     |succ j=>exact h1 j (by simpa using hj)
    ·rw[Cm,Rn,h2];show (c&&_)=((match EF d with | .ok c=>c|_=>Ad)&&_)
     rw[e];rfl
theorem RC:∀{ds:Ac D}{b:Ao},FK ds=.ok b->(∀ j,j<ds.length->∃ c,EF (ds.getD j .non)=.ok c)/\b=(Bb ds.length).any fun j=>match EF (ds.getD j .non) with
  |.ok c=>c
  |_=>Ad
 |[],b,h=>by cases h;exact⟨fun j hj=>absurd hj (Ft _),rfl⟩
 |d::ds,b,h=>by
  rw[RY]at h;cases e:EF d with
  |bad=>rw[e]at h;cases h
  |exn x=>rw[e]at h;cases h
  |ok c=>
   rw[e,R.bind_ok]at h;cases e2:FK ds with
   |bad=>rw[e2]at h;cases h
   |exn x=>rw[e2]at h;cases h
   |ok c2=>
    rw[e2,R.bind_ok]at h;cases h;obtain⟨h1,h2⟩:=RC e2;refine⟨fun j hj=>?_,?_⟩
    ·cases j with
     |zero=>exact⟨c,e⟩
     |succ j=>exact h1 j (by simpa using hj)
    ·rw[Cm,WR,Wu,List.any_map,h2];show (c||_)=((match EF d with | .ok c=>c|_=>Ad)||_)
     rw[e];rfl
theorem Tn:∀(ds:Ac D)(a z:Ae),GW a ds=.ok z->(∀ j,j<ds.length->∃ i,ds.getD j .non=.int i)/\z=a+Js (fun j=>match ds.getD j .non with
  |.int i=>i
  | _=>0) ds.length
 |[],a,z,h=>by cases h;exact⟨fun j hj=>absurd hj (Ft _),by simp[Js]⟩
 |.int i::ds,a,z,h=>by
  obtain⟨h1,h2⟩:=Tn ds (a+i) z h;refine⟨fun j hj=>?_,?_⟩
  ·cases j with
   |zero=>exact⟨i,rfl⟩
   |succ j=>exact h1 j (by simpa using hj)
  ·have key:∀ n,Js (fun j=>match (D.int i::ds).getD j .non with | .int i=>i|_=>0) (n+1)=i+Js (fun j=>match ds.getD j .non with | .int i=>i|_=>0) n:=by
    intro n
    induction n with
    |zero=>show (0:Ae)+i=i+0;omega
    |succ n ih=>
     show Js _ (n+1)+(match ds.getD n .non with | .int i=>i|_=>0)=i+(Js _ n+(match ds.getD n .non with | .int i=>i|_=>0))
     rw[ih];omega
   rw[h2,Cm,key];omega
 |.non::_,_,_,h=>by cases h
 |.bl _::_,_,_,h=>by cases h
 |.str _::_,_,_,h=>by cases h
 |.tup _::_,_,_,h=>by cases h
 |.lst _::_,_,_,h=>by cases h
 |.obj _ _::_,_,_,h=>by cases h
 |.exc _ _::_,_,_,h=>by cases h
 |.dic _::_,_,_,h=>by cases h
theorem LQ{ds:Ac D}{its:Ac Ai}(r:Reps X.K CL H A0 xs ds)(rv:Br xs its){v:Ai}(h:its.toArray[j]?=Ab v):j<ds.length/\∃ x,Rep X.K CL H A0 x (ds.getD j .non)/\BZ x v:=by
 have h':its[j]?=Ab v:=by simpa using h
 obtain⟨hj,e⟩:=Ba.mp h';obtain⟨x,rx,q⟩:=J2 r rv hj;have l1:=rv.length;have l2:=r.length
 exact⟨by omega,x,rx,by rw[<-e];exact q⟩
theorem Mc(k:∀ b q,b∉[h.objs.size]->(h.push o).get? b=Ab q->h'.get? b=Ab q):∀ b q,h.get? b=Ab q->h'.get? b=Ab q:=fun b q e=>k b q (by
 intro z;have:=Bs.mp z;rw[this]at e;exact absurd (AG e) (Bw _)) (As _ e)
theorem qX(hc:X.calm=Aa):IW X CL W (.builtin "all") (biD .all):=by
  intro A pI s σ H xs us Q I r ⟨hA,ds,rs,p⟩
  match ds,rs,p with
  |[.lst es],rs,p=>
    obtain⟨v,rfl,rv⟩:=rs.one;obtain⟨q,ys,e,_,sq,ry⟩:=rv.plain;subst e;obtain⟨u,rfl,ru⟩:=HP r;cases ru;rw[xV]at p;cases e1:GB es with
    |bad=>rw[e1]at p;exact p.elim
    |exn x=>
      exfalso
      have:∀(es:Ac D) x,GB es≠.exn x:=by
        intro es
        induction es with
        |nil=>intro x h;cases h
        |cons d ds ih=>
          intro x h;rw[Oq]at h;cases e:EF d with
          |bad=>rw[e]at h;cases h
          |exn y=>cases d<;>cases e
          |ok c=>
            rw[e,R.bind_ok]at h;cases e2:GB ds with
            |bad=>rw[e2]at h;cases h
            |exn y=>exact ih y e2
            |ok c2=>rw[e2]at h;cases h
      exact this es x e1
    |ok b=>
      rw[e1,R.bind_ok]at p;obtain⟨h1,h2⟩:=RE e1;obtain⟨its,rvv,pl,_⟩:=I.list sq;have hlt:q<s.heap.objs.size:=by obtain⟨o,n,e,_⟩:=pl;exact AG e
      have hl:its.toArray.size=es.length:=by rw[AE,<-rvv.length,ry.length]
      refine call_all_walk (D8 (Ii pl) ⟨s.heap.objs.size,_,_,_,_,_,(fun j=>match EF (es.getD j .non) with | .ok c=>c|_=>Ad),rfl,Kn (A:=X.A.in1) (I.ok.hd hc) s.heap.objs.size q (A1 hlt) its.toArray,⟨⟨_,AC _ rfl,rfl,rfl⟩,(Ii pl).push _⟩,fun j v s' Q' E' hv hQ=>?_,fun h' tk k=>?_⟩)
      · obtain⟨hj,x,rx,qx⟩:=LQ ry rvv hv;obtain⟨c,ec⟩:=h1 j hj;exact O9 rx qx ec (by dsimp only at hQ;rw[ec]at hQ;exact hQ)
      · rw[hl,<-h2];exact⟨.bl b,H,I.kept (Mc k),rfl,p _ H (AO.refl H) rfl⟩
  |[],_,p=>exact p.elim
  |[.non],_,p=>exact p.elim
  |[.bl _],_,p=>exact p.elim
  |[.int _],_,p=>exact p.elim
  |[.str _],_,p=>exact p.elim
  |[.tup _],_,p=>exact p.elim
  |[.obj _ _],_,p=>exact p.elim
  |[.exc _ _],_,p=>exact p.elim
  |[.dic _],_,p=>exact p.elim
  |x::_::_,_,p=>cases x<;>exact p.elim
theorem Ug(hc:X.calm=Aa){ys:Ac V}{es:Ac D}(I:Inv X pI σ H s)(sq:SqL X.K H q ys\/SqT X.K H q ys)(ry:Reps X.K CL H A0 ys es)(p:Bx (fun H=>Rep X.K CL H A) W H ((FK es).bind fun b=>.ok (.bl b)) Q):AB (model X.prog X.w) X.A (call (.builtin "any") [.ref q]) (EP X pI σ Q) X.xe s:=by
 cases e1:FK es with
 |bad=>rw[e1]at p;exact p.elim
 |exn x=>
  exfalso
  clear p
  have:∀(es:Ac D) x,FK es≠.exn x:=by
   intro es
   induction es with
   |nil=>intro x h;cases h
   |cons d ds ih=>
    intro x h;rw[RY]at h;cases e:EF d with
    |bad=>rw[e]at h;cases h
    |exn y=>cases d<;>cases e
    |ok c=>
     rw[e,R.bind_ok]at h;cases e2:FK ds with
     |bad=>rw[e2]at h;cases h
     |exn y=>exact ih y e2
     |ok c2=>rw[e2]at h;cases h
  exact this es x e1
 |ok b=>
  rw[e1,R.bind_ok]at p;obtain⟨h1,h2⟩:=RC e1;rcases sq with sq|sq
  ·obtain⟨its,rvv,pl,_⟩:=I.list sq;have hlt:q<s.heap.objs.size:=by obtain⟨o,n,e,_⟩:=pl;exact AG e
   have hl:its.toArray.size=es.length:=by rw[AE,<-rvv.length,ry.length]
   refine call_any_walk (D8 (Ii pl) ⟨s.heap.objs.size,_,_,_,_,_,(fun j=>match EF (es.getD j .non) with | .ok c=>c|_=>Ad),rfl,Kn (A:=X.A.in1) (I.ok.hd hc) s.heap.objs.size q (A1 hlt) its.toArray,⟨⟨_,AC _ rfl,rfl,rfl⟩,(Ii pl).push _⟩,fun j v s' Q' E' hv hQ=>?_,fun h' tk k=>?_⟩)
   ·obtain⟨hj,x,rx,qx⟩:=LQ ry rvv hv;obtain⟨c,ec⟩:=h1 j hj;exact O9 rx qx ec (by dsimp only at hQ;rw[ec]at hQ;exact hQ)
   ·rw[hl,<-h2];exact⟨.bl b,H,I.kept (Mc k),rfl,p _ H (AO.refl H) rfl⟩
  ·obtain⟨its,rvv,pl,_⟩:=I.tuple sq;have pl':s.heap.IsTuple q its.toArray:=pl;have hlt:q<s.heap.objs.size:=by obtain⟨o,e,_⟩:=pl';exact AG e
   have hl:its.toArray.size=es.length:=by rw[AE,<-rvv.length,ry.length]
   refine call_any_walk (FF pl' ⟨s.heap.objs.size,_,_,_,_,_,(fun j=>match EF (es.getD j .non) with | .ok c=>c|_=>Ad),rfl,XX (A:=X.A.in1) (I.ok.hd hc) s.heap.objs.size q (A1 hlt) its.toArray,⟨⟨_,AC _ rfl,rfl,rfl⟩,pl'.push _⟩,fun j v s' Q' E' hv hQ=>?_,fun h' tk k=>?_⟩)
   ·obtain⟨hj,x,rx,qx⟩:=LQ ry rvv hv;obtain⟨c,ec⟩:=h1 j hj;exact O9 rx qx ec (by dsimp only at hQ;rw[ec]at hQ;exact hQ)
   ·rw[hl,<-h2];exact⟨.bl b,H,I.kept (Mc k),rfl,p _ H (AO.refl H) rfl⟩
theorem qW(hc:X.calm=Aa):IW X CL W (.builtin "any") (biD .any):=by
  intro A pI s σ H xs us Q I r ⟨hA,ds,rs,p⟩
  match ds,rs,p with
  |[.lst es],rs,p=>
    obtain⟨v,rfl,rv⟩:=rs.one;obtain⟨q,ys,e,_,sq,ry⟩:=rv.plain;subst e;obtain⟨u,rfl,ru⟩:=HP r;cases ru;exact Ug hc I (.inl sq) ry p
  |[.tup es],rs,p=>
    obtain⟨v,rfl,rv⟩:=rs.one;obtain⟨q,ys,e,_,sq,ry⟩:=rv.plain;subst e;obtain⟨u,rfl,ru⟩:=HP r;cases ru;exact Ug hc I (.inr sq) ry p
  |[],_,p=>exact p.elim
  |[.non],_,p=>exact p.elim
  |[.bl _],_,p=>exact p.elim
  |[.int _],_,p=>exact p.elim
  |[.str _],_,p=>exact p.elim
  |[.obj _ _],_,p=>exact p.elim
  |[.exc _ _],_,p=>exact p.elim
  |[.dic _],_,p=>exact p.elim
  |x::_::_,_,p=>cases x<;>exact p.elim
theorem TC(hc:X.calm=Aa){ys:Ac V}{es:Ac D}(I:Inv X pI σ H s)(sq:SqL X.K H q ys\/SqT X.K H q ys)(ry:Reps X.K CL H A0 ys es)(p:Bx (fun H=>Rep X.K CL H A) W H ((GW 0 es).bind fun b=>.ok (.int b)) Q):AB (model X.prog X.w) X.A (call (.builtin "sum") [.ref q]) (EP X pI σ Q) X.xe s:=by
 cases e1:GW 0 es with
 |bad=>rw[e1]at p;exact p.elim
 |exn x=>
  exfalso
  have:∀(es:Ac D)(a:Ae) x,GW a es≠.exn x:=by
   intro es
   induction es with
   |nil=>intro a x h;cases h
   |cons d ds ih=>
    intro a x h;cases d<;>first|exact ih _ _ h|cases h
  exact this es 0 x e1
 |ok z=>
  rw[e1,R.bind_ok]at p;obtain⟨h1,h2⟩:=Tn es 0 z e1;rw[EV]at h2;rcases sq with sq|sq
  ·obtain⟨its,rvv,pl,_⟩:=I.list sq;have hlt:q<s.heap.objs.size:=by obtain⟨o,n,e,_⟩:=pl;exact AG e
   have hl:its.toArray.size=es.length:=by rw[AE,<-rvv.length,ry.length]
   refine XZ (D8 (Ii pl) ⟨s.heap.objs.size,_,_,_,_,_,(fun j=>match es.getD j .non with | .int i=>i|_=>0),rfl,Kn (A:=X.A.in1) (I.ok.hd hc) s.heap.objs.size q (A1 hlt) its.toArray,⟨⟨_,AC _ rfl,rfl,rfl⟩,(Ii pl).push _⟩,fun b hb=>?_,fun j v hv=>?_,fun h' tk t' k=>?_⟩)
   ·show b<(s.heap.push _).objs.size;rw[BM];rcases Ax.mp hb with rfl|hb
    ·exact F7 _
    ·rw[Bs.mp hb];exact CY hlt
   ·obtain⟨hj,x,rx,qx⟩:=LQ ry rvv hv;obtain⟨i,ei⟩:=h1 j hj;rw[ei]at rx;dsimp only;rw[ei];cases rx;exact qx
   ·rw[hl,<-h2];exact⟨.int z,H,I.kept (Mc k),⟨_,rfl⟩,p _ H (AO.refl H) rfl⟩
  ·obtain⟨its,rvv,pl,_⟩:=I.tuple sq;have pl':s.heap.IsTuple q its.toArray:=pl;have hlt:q<s.heap.objs.size:=by obtain⟨o,e,_⟩:=pl';exact AG e
   have hl:its.toArray.size=es.length:=by rw[AE,<-rvv.length,ry.length]
   refine XZ (FF pl' ⟨s.heap.objs.size,_,_,_,_,_,(fun j=>match es.getD j .non with | .int i=>i|_=>0),rfl,XX (A:=X.A.in1) (I.ok.hd hc) s.heap.objs.size q (A1 hlt) its.toArray,⟨⟨_,AC _ rfl,rfl,rfl⟩,pl'.push _⟩,fun b hb=>?_,fun j v hv=>?_,fun h' tk t' k=>?_⟩)
   ·show b<(s.heap.push _).objs.size;rw[BM];rcases Ax.mp hb with rfl|hb
    ·exact F7 _
    ·rw[Bs.mp hb];exact CY hlt
   ·obtain⟨hj,x,rx,qx⟩:=LQ ry rvv hv;obtain⟨i,ei⟩:=h1 j hj;rw[ei]at rx;dsimp only;rw[ei];cases rx;exact qx
   ·rw[hl,<-h2];exact⟨.int z,H,I.kept (Mc k),⟨_,rfl⟩,p _ H (AO.refl H) rfl⟩
theorem rW(hc:X.calm=Aa):IW X CL W (.builtin "sum") (biD .sum):=by
  intro A pI s σ H xs us Q I r ⟨hA,ds,rs,p⟩
  match ds,rs,p with
  |[.lst es],rs,p=>
    obtain⟨v,rfl,rv⟩:=rs.one;obtain⟨q,ys,e,_,sq,ry⟩:=rv.plain;subst e;obtain⟨u,rfl,ru⟩:=HP r;cases ru;exact TC hc I (.inl sq) ry p
  |[.tup es],rs,p=>
    obtain⟨v,rfl,rv⟩:=rs.one;obtain⟨q,ys,e,_,sq,ry⟩:=rv.plain;subst e;obtain⟨u,rfl,ru⟩:=HP r;cases ru;exact TC hc I (.inr sq) ry p
  |[],_,p=>exact p.elim
  |[.non],_,p=>exact p.elim
  |[.bl _],_,p=>exact p.elim
  |[.int _],_,p=>exact p.elim
  |[.str _],_,p=>exact p.elim
  |[.obj _ _],_,p=>exact p.elim
  |[.exc _ _],_,p=>exact p.elim
  |[.dic _],_,p=>exact p.elim
  |x::_::_,_,p=>cases x<;>exact p.elim
end
section
variable(K:Fg)(CL:ClA)
def xZ(H0:Hp)(A:Ak->Prop)(H:Hp)(v:V)(d:D):Prop:=∀ ds,d=.lst ds->∃ a xs,v=.ref a/\H0 a=Af/\H a=Ab (.lst xs)/\Reps K CL H (fun b=>A b\/b=a) xs ds
def EH(fr:Ao)(H0:Hp)(A:Ak->Prop)(H:Hp)(v:V)(d:D):Prop:=Rep K CL H A v d/\(fr=Aa->xZ K CL H0 A H v d)
end
section
variable{X:Cx}{CL:ClA}{W:XW}{a b c:At}{fa fb fc:Rho->R D}{pos:Bk}
def SC(X:Cx)(CL:ClA)(W:XW)(fr:Ao)(e:At)(f:Rho->R D):Prop:=∀ A,PE X e (fun σ H Q=>AOk H A/\∃ ρ,Good X.K CL A ρ σ H/\Bx (EH X.K CL fr H A) W H (f ρ) Q)
theorem SC.se{fr:Ao}(h:SC X CL W fr a fa):SE X CL W a fa:=fun A=>PE.weak (h A) fun σ H Q ⟨hA,ρ,g,p⟩=>⟨hA,ρ,g,by
 cases e:fa ρ with
 |ok d=>rw[e]at p;exact fun v H' s r=>p v H' s r.1
 |exn x=>rw[e]at p;exact p
 | bad=>rw[e]at p;exact p⟩
theorem SE.sc(h:SE X CL W a fa):SC X CL W Ad a fa:=fun A=>PE.weak (h A) fun σ H Q ⟨hA,ρ,g,p⟩=>⟨hA,ρ,g,by
 cases e:fa ρ with
 |ok d=>rw[e]at p;exact fun v H' s r=>p v H' s ⟨r,fun z=>nomatch z⟩
 |exn x=>rw[e]at p;exact p
 | bad=>rw[e]at p;exact p⟩
theorem SC.congr{fr:Ao}{f g:Rho->R D}(h:SC X CL W fr a f)(e:∀ ρ,g ρ=f ρ):SC X CL W fr a g:=fun A=>PE.weak (h A) fun σ H Q ⟨hA,ρ,q,p⟩=>⟨hA,ρ,q,by rw[<-e];exact p⟩
theorem JX{p:Ak}{ds:Ac D}(s:AO H0 H)(hA:AOk H A)(hp:H p=Af)(r:Reps K CL H A xs ds):EH K CL Aa H0 A (upd H p (.lst xs)) (.ref p) (.lst ds):=
 ⟨TM hA hp r,fun _ ds' e=>by
  cases e;exact⟨p,xs,rfl,s.free hp,Jv,(Reps.wide (fun a ha=>ha.imp id fun e=>by rw[e];exact hp) _ r).same (F9 hp _)⟩⟩
theorem TY{fr:Ao}(r:Rep K CL H A v d)(h:∀ ds,d≠.lst ds):EH K CL fr H0 A H v d:=⟨r,fun _ ds e=>absurd e (h ds)⟩
theorem oH(hs:SA X CL W es fs)(hz:∀ ρ ds,fs ρ=.ok ds->ds.length<=100000):SC X CL W Aa (.List es pos) (fun ρ=>(fs ρ).bind fun xs=>.ok (.lst xs)):=
 fun A=>PE.weak (qN (hs A)) fun σ H Q ⟨hA,ρ,g,p⟩=>⟨hA,ρ,g,Hi.bind p fun ds vs H1 e s1 r1 p1=>⟨by
  rw[r1.length,CW];have:=hz ρ ds e;omega,fun q hq=>p1 _ _ (F9 hq _) (JX s1 (hA.same s1) hq r1)⟩⟩
theorem Bx.bindF{fr:Ao}{f:D->R D}{Q':VK}(h:Bx (EH K CL fr H A) W H (r.bind f) Q)(k:∀ d v H',r=.ok d->AO H H'->Rp H' v d->Bx (EH K CL fr H A) W H' (f d) Q->Q' v H'):Bx Rp W H r Q':=by
 cases r with
 |ok d=>exact fun v H2 s2 q=>k d v H2 rfl s2 q (Bx.same s2 h)
 |exn x=>exact h
 |bad=>exact h
theorem Hi.bindF{Rp:Hp->Ac V->Ac D->Prop}{r:R (Ac D)}{f:Ac D->R D}{Q':Ac V->Hp->Prop}(h:Bx Rq W H (r.bind f) Q)(k:∀ d v H',r=.ok d->AO H H'->Rp H' v d->Bx Rq W H' (f d) Q->Q' v H'):Hi Rp W H r Q':=by
 cases r with
 |ok d=>exact fun v H2 s2 q=>k d v H2 rfl s2 q (Bx.same s2 h)
 |exn x=>exact h
 |bad=>exact h
theorem Ka.bindF{r:R (Av Ae)}{f:Av Ae->R D}(h:Bx Rq W H (r.bind f) Q)(k:∀ o H',r=.ok o->AO H H'->Bx Rq W H' (f o) Q->Q' o H'):Ka W H r Q':=by
 cases r with
 |ok d=>exact fun H2 s2=>k d H2 rfl s2 (Bx.same s2 h)
 |exn x=>exact h
 |bad=>exact h
theorem uM{lo hi:Av At}{fl fh:Rho->R (Av Ae)}(ha:ST X CL W a fa)(hl:SO X CL W lo fl)(hh:SO X CL W hi fh):SC X CL W Aa (.Subscript a (.Slice lo hi Af p2) pos) (fun ρ=>(fa ρ).bind fun x=>(fl ρ).bind fun l=>(fh ρ).bind fun h=>slD x l h):=
 fun A=>PE.weak (bM (r:=fun x l h H Q=>Q7 X.K x l h H Q\/Q6 X.K x l h H Q) (fun pI s σ H x v vl vu lo hi sl Q I rx hs pl pu h=>h.elim (eU pI s σ H x v vl vu lo hi sl Q I rx hs pl pu) (oM pI s σ H x v vl vu lo hi sl Q I rx hs pl pu)) (ha A) (hl A) (hh A)) fun σ H Q ⟨hA,ρ,g,p⟩=>⟨hA,ρ,g,Bx.bindF p fun dx x H1 _ s1 r1 p1=>⟨hA.same s1,ρ,g.same s1,Ka.bindF p1 fun l H2 _ s2 p2=>⟨(hA.same s1).same s2,ρ,(g.same s1).same s2,Ka.bindF p2 fun h H3 _ s3 p3=>by
  cases dx with
  |lst ds=>
   obtain⟨q,xs,rfl,sq,r⟩:=((r1.same s2).same s3).lst_of;exact .inl ⟨q,xs,rfl,sq,fun t ht=>p3 _ _ (F9 ht _) (JX ((s1.trans s2).trans s3) (((hA.same s1).same s2).same s3) ht (Uu l h r))⟩
  |tup ds=>
   obtain⟨q,xs,rfl,_,sq,r⟩:=((r1.same s2).same s3).tup_of;rw[YT]at p3;split at p3
   ·exact p3.elim
   ·rename_i hw;refine .inr ⟨q,xs,rfl,sq,?_,fun t ht=>p3 _ _ (F9 ht _) (TY (KI (((hA.same s1).same s2).same s3) ht (Uu l h r)) (by intro _ z;cases z))⟩
    rintro⟨h1,h2⟩;refine hw ?_;have e:∀ d o,HT.sIx xs.length d o=Iq ds.length d o:=fun d o=>by rw[r.length];cases o<;>rfl
    rw[e]at h1 h2;rw[r.length]at h2;simp[h1,h2]
  | _=>exact p3.elim⟩⟩⟩
noncomputable def OpN(X:Cx)(CL:ClA)(W:XW)(f:Ai->Ai->G5 Ai)(g:D->D->R D):Prop:=
 ∀ A H0,OpR X f (fun x y H Q=>AO H0 H/\AOk H A/\∃ dx dy,C3 X.K CL H A x dx/\C3 X.K CL H A y dy/\Bx (EH X.K CL Aa H0 A) W H (g dx dy) Q)
theorem gE:OpN X CL W (Cr .Add) (Dk .Add):=by
 intro A H0 pI s σ H x y v u Q I rx ry ⟨s0,hA,dx,dy,hx,hy,p⟩;have key:(∀ ds,dx≠.lst ds)->EP X pI σ Q=EP X pI σ Q->AB (model X.prog X.w) X.A (Cr .Add v u) (EP X pI σ Q) X.xe s:=fun hd _=>by
  refine T7 (W:=W) A pI s σ H x y v u Q I rx ry ⟨hA,dx,dy,hx,hy,?_⟩;cases e:Dk .Add dx dy with
  |bad=>rw[e]at p;exact p
  |exn x=>rw[e]at p;exact p
  |ok d=>
   rw[e]at p;refine fun v' H' s' r'=>p v' H' s' (TY r' fun ds z=>?_)
   subst z;cases dx with
   |lst ds=>exact hd _ rfl
   |_=>cases dy<;>first|(cases e;done)|(simp only[Dk]at e;split at e<;>cases e)
 cases dx with
 |lst ds=>
  cases dy with
  |lst es=>
   obtain⟨a,xs,rfl,s1,r1⟩:=hx.lst_of;obtain⟨b,ys,rfl,s2,r2⟩:=hy.lst_of;simp only[Vl]at p;split at p
   ·rename_i h;refine T8 pI s σ H _ _ v u Q I rx ry ⟨a,b,xs,ys,rfl,rfl,s1,s2,by rw[r1.length,r2.length];exact IM h,fun q hq=>?_⟩
    exact p _ _ (F9 hq _) (JX s0 hA hq (r1.append r2))
   ·exact p.elim
  |_=>exact p.elim
 |_=>exact key (by intro _ z;cases z) rfl
theorem oK(ha:ST X CL W a fa)(hb:ST X CL W b fb):SC X CL W Aa (.BinOp a .Add b pos) (fun ρ=>(fa ρ).bind fun x=>(fb ρ).bind fun y=>Dk .Add x y):=
 fun A pI s σ H Q I h=>by
  obtain⟨hA,ρ,g,p⟩:=h;exact VG (gE (W:=W) A H) (ha A) (hb A) pI s σ H Q I ⟨hA,ρ,g,Bx.bindF p fun dx x H1 _ s1 r1 p1=>⟨hA.same s1,ρ,g.same s1,Bx.bind (Rq:=EH X.K CL Aa H A) p1 fun dy y H2 _ s2 r2 p2=>⟨s1.trans s2,(hA.same s1).same s2,dx,dy,r1.same s2,r2,p2⟩⟩⟩
def Nq(X:Cx)(CL:ClA)(W:XW)(f:Ai)(g:Ac D->R D):Prop:=∀ A H0,HN X f (fun xs H Q=>AO H0 H/\AOk H A/\∃ ds,Gb X.K CL H A xs ds/\Bx (EH X.K CL Aa H0 A) W H (g ds) Q)
theorem jI:Nq X CL W (.type "list") (biD .list):=by
  intro A H0 pI s σ H xs us Q I r ⟨s0,hA,ds,rs,p⟩
  match ds,rs,p with
  |[.lst es],rs,p=>
    obtain⟨v,rfl,rv⟩:=rs.one;obtain⟨q,ys,rfl,sq,ry⟩:=rv.lst_of;exact Ru pI s σ H _ us Q I r ⟨q,ys,rfl,.inl sq,fun l hl=>p _ _ (F9 hl _) (JX s0 hA hl ry)⟩
  |[.tup es],rs,p=>
    obtain⟨v,rfl,rv⟩:=rs.one;obtain⟨q,ys,rfl,_,sq,ry⟩:=rv.tup_of;exact Ru pI s σ H _ us Q I r ⟨q,ys,rfl,.inr sq,fun l hl=>p _ _ (F9 hl _) (JX s0 hA hl ry)⟩
  |[],_,p=>exact p.elim
  |[.non],_,p=>exact p.elim
  |[.bl _],_,p=>exact p.elim
  |[.int _],_,p=>exact p.elim
  |[.str _],_,p=>exact p.elim
  |[.obj _ _],_,p=>exact p.elim
  |[.exc _ _],_,p=>exact p.elim
  |[.dic _],_,p=>exact p.elim
  |x::_::_,_,p=>cases x<;>exact p.elim
theorem oI{g:Ac D->R D}(hc:Nq X CL W (.type T) g)(hg:Gl X x)(hm:X.mg x=Af)(hv:Db x=Ab (.type T))(ha:SAT X CL W (e::es) fs)(hn:x≠"__name__")(hdb:(x==("__debug__" : Al))=Ad)(he:AM (e::es) X.env=(Ad,eval e X.env)::AM es X.env)(hpl:∀ pos,(CU pos (AM es X.env)).any (·.1)=Ad):SC X CL W Aa (.Call (.Name x p) (e::es) [] pos) (fun ρ=>(fs ρ).bind g):=fun A pI s σ H Q I ⟨hA,ρ,gd,q⟩=>
 Sg (hc A H) hg hm hv (ha A) hn hdb he (hpl _) pI s σ H Q I ⟨hA,ρ,gd,Hi.bindF q fun ds vs H1 _ s1 r1 p1=>⟨s1,hA.same s1,ds,r1,p1⟩⟩
theorem oJ{g:Ac D->R D}(hc:Nq X CL W (.builtin id) g)(hg:Gl X x)(hm:X.mg x=Af)(hv:Db x=Ab (.builtin id))(ha:SAT X CL W (e::es) fs)(hn:x≠"__name__")(hdb:(x==("__debug__" : Al))=Ad)(he:AM (e::es) X.env=(Ad,eval e X.env)::AM es X.env)(hpl:∀ pos,(CU pos (AM es X.env)).any (·.1)=Ad):SC X CL W Aa (.Call (.Name x p) (e::es) [] pos) (fun ρ=>(fs ρ).bind g):=fun A pI s σ H Q I ⟨hA,ρ,gd,q⟩=>
 O3 (hc A H) hg hm hv (ha A) hn hdb he (hpl _) pI s σ H Q I ⟨hA,ρ,gd,Hi.bindF q fun ds vs H1 _ s1 r1 p1=>⟨s1,hA.same s1,ds,r1,p1⟩⟩
mutual
theorem VC{K:Fg}{H:Hp}{A:Ak->Prop}(hA:AOk H A):∀(n:Ag)(d:D){v:V},nlD n d=Aa->Rep K CL H A0 v d->Rep K CL H A v d
 |_,.non,_,_,h=>h
 |_,.bl _,_,_,h=>h
 |_,.int _,_,_,h=>h
 |_,.str _,_,_,h=>h
 |0,.tup _,_,hn,_=>by cases hn
 |n+1,.tup ds,_,hn,h=>by
  obtain⟨a,xs,e,_,s,r⟩:=h;refine⟨a,xs,e,?_,s,nls_up hA n ds hn r⟩;rcases s with s|s
  ·refine .inl fun z=>?_
   obtain⟨ys,q⟩:=hA a z;rcases s with s|⟨o,s⟩<;>rw[q]at s<;>cases s
  ·exact .inr s
 |n,.lst _,_,hn,_=>by cases n<;>cases hn
 |n,.obj _ _,_,hn,_=>by cases n<;>cases hn
 |n,.exc _ _,_,hn,_=>by cases n<;>cases hn
 |n,.dic _,_,hn,_=>by cases n<;>cases hn
theorem nls_up{K:Fg}{H:Hp}{A:Ak->Prop}(hA:AOk H A):∀(n:Ag)(ds:Ac D){vs:Ac V},ds.all (nlD n)=Aa->Reps K CL H A0 vs ds->Reps K CL H A vs ds
 |_,[],[],_,h=>h
 |n,d::ds,_::_,hn,h=>by
  simp only[EJ,An]at hn;exact⟨VC hA n d hn.1 h.1,nls_up hA n ds hn.2 h.2⟩
 |_,[],_::_,_,h=>h.elim
 |_,_::_,[],_,h=>h.elim
end
theorem rK{fr:Ao}(hA0:AOk H0 A)(s:AO H0 H)(hc:Ke fr d=Aa)(r:EH K CL fr H0 A0 H v d):EH K CL fr H0 A H v d:=by
 have hA:=hA0.same s;cases d with
 |lst ds=>
  have hc':(fr&&ds.all (nlD 5))=Aa:=hc;rw[An]at hc';obtain⟨a,xs,e,h0,h1,rs⟩:=r.2 hc'.1 ds rfl;have hA2:AOk H (fun b=>A b\/b=a):=fun b hb=>hb.elim (hA b) fun e=>by rw[e];exact⟨xs,h1⟩
  have rs':=nls_up hA2 5 ds hc'.2 (Reps.sub (fun _ z=>z.elim) _ rs)
  refine⟨⟨a,xs,e,.inl (hA0.new h0),SqL.of h1,Reps.sub (fun _ z=>.inl z) _ rs'⟩,fun _ ds' e'=>?_⟩
  cases e';exact⟨a,xs,e,h0,h1,rs'⟩
 |_=>exact⟨VC hA 5 _ hc r.1,fun _ _ z=>nomatch z⟩
def spD(K:Fg)(CL:ClA)(n:Ag)(fr:Ao)(F:Ac D->R D):Sp:=fun vs H Q E=>∃(ds:Ac D)(A:Ak->Prop),vs.length=n/\AOk H A/\Reps K CL H A vs ds/\(match F ds with
  |.ok d=>∀ v H',AO H H'->EH K CL fr H A H' v d->Q v H'
  |.exn x=>∀ cls dx H',AO H H'->Mj K CL H' A cls dx x->E cls dx H'
  | .bad=>BK)
def EKW(K:Fg)(CL:ClA)(A:Ak->Prop)(W:XW):XK:=fun cls dx H'=>∃ x,Mj K CL H' A cls dx x/\W x H'
theorem Gb.plain{K:Fg}{H:Hp}{A:Ak->Prop}:∀{vs:Ac V}{ds:Ac D},Gb K CL H A vs ds->Reps K CL H A0 vs ds
 |[],[],h=>trivial
 |_::_,_::_,h=>⟨h.1.plain,Gb.plain h.2⟩
 |[],_::_,h=>h.elim
 |_::_,[],h=>h.elim
theorem dL{CX:CXT}{fr:Ao}{f:Ak}{fd:CO}{ps:Ac Al}{F:Ac D->R D}{ft:Rho->R (Ac D)}{sh:Rho->Ao}(G:FnOk X.prog X.w X.K X.mg X.base CX k f fd ps (spD X.K CL n fr F))(hr:Room k X.A)(hg:Gl X x)(hm:X.mg x=Ab (.ref f))(hk:DL X.K (.ref f)=Aa)(hb:Im X.K fd ps [])(hx:∀ A,KZ CX X (EKW X.K CL A W))(ha:SA X CL W (e::es) fs)(hat:SAT X CL W (e::es) ft)(hst:∀ ρ,sh ρ=Aa->ft ρ=fs ρ)(hn:∀ ρ ds,ft ρ=.ok ds->ds.length=n)(hdb:(x==("__debug__" : Al))=Ad)(he:AM (e::es) X.env=(Ad,eval e X.env)::AM es X.env)(hpl:∀ pos,(CU pos (AM es X.env)).any (·.1)=Ad):SC X CL W fr (.Call (.Name x p) (e::es) [] pos) (fun ρ=>(ft ρ).bind fun ds=>(F ds).bind fun d=>if sh ρ=Aa then .ok d else if Ke fr d=Aa then .ok d else .bad):=fun A pI s σ H Q I ⟨hA,ρ,gd,q⟩=>by
 dsimp only at q;by_cases hs:sh ρ=Aa
 ·rw[hst ρ hs]at q;refine T4 G hr hg hm hk hb .nil (hx A) (ha A) hdb he (hpl _) pI s σ H Q I ⟨hA,ρ,gd,?_⟩;cases e1:fs ρ with
  |bad=>rw[e1]at q;exact q
  |exn y=>rw[e1]at q;exact q
  |ok ds=>
   rw[e1]at q;intro vs H1 s1 r1;refine⟨ds,A,by rw[Dy,r1.length];exact hn ρ ds (by rw[hst ρ hs];exact e1),hA.same s1,by rw[Dy];exact r1,?_⟩
   have q':Bx (EH X.K CL fr H A) W H ((F ds).bind fun d=>if sh ρ=Aa then .ok d else if Ke fr d=Aa then .ok d else .bad) Q:=q
   cases e2:F ds with
   |ok d=>
    rw[e2,R.bind_ok,Az hs]at q';exact fun v H2 s2 r2=>q' v H2 (s1.trans s2) ⟨r2.1,fun z ds' e'=>let ⟨a,xs,z1,z2,z3⟩:=r2.2 z ds' e';⟨a,xs,z1,s1.free z2,z3⟩⟩
   |exn y=>rw[e2]at q';exact fun cls dx H2 s2 xr=>⟨y,xr,q' H2 (s1.trans s2)⟩
   |bad=>rw[e2]at q';exact q'.elim
 ·refine T4 G hr hg hm hk hb .nil (hx A0) (hat A) hdb he (hpl _) pI s σ H Q I ⟨hA,ρ,gd,?_⟩;cases e1:ft ρ with
  |bad=>rw[e1]at q;exact q
  |exn y=>rw[e1]at q;exact q
  |ok ds=>
   rw[e1]at q;intro vs H1 s1 r1;refine⟨ds,A0,by rw[Dy,r1.plain.length];exact hn ρ ds e1,fun _ z=>z.elim,by rw[Dy];exact r1.plain,?_⟩
   have q':Bx (EH X.K CL fr H A) W H ((F ds).bind fun d=>if sh ρ=Aa then .ok d else if Ke fr d=Aa then .ok d else .bad) Q:=q
   cases e2:F ds with
   |ok d=>
    rw[e2,R.bind_ok,AH hs]at q';split at q'
    ·rename_i hc;exact fun v H2 s2 r2=>q' v H2 (s1.trans s2) (rK hA (s1.trans s2) hc ⟨r2.1,fun z ds' e'=>let ⟨a,xs,z1,z2,z3⟩:=r2.2 z ds' e';⟨a,xs,z1,s1.free z2,z3⟩⟩)
    ·exact q'.elim
   |exn y=>rw[e2]at q';exact fun cls dx H2 s2 xr=>⟨y,xr,q' H2 (s1.trans s2)⟩
   |bad=>rw[e2]at q';exact q'.elim
end
theorem Oi(env:CG):∀(ns:Ac (Al×Er))(acc:Ac (Al×Ak)),(∀ x∈ns,x.2=.free->∃ c,env.cells.lookup x.1=Ab c)->(∀ x c,acc.lookup x=Ab c->env.cells.lookup x=Ab c) ->
  ∃ cl,(forIn ns acc fun(x:Al×Er)(cs:Ac (Al×Ak))=>(if (x.2==.free)=Aa then do let c <-cellOf env x.1;pure (EK ((x.1,c)::cs)) else pure (EK cs):G5 (ForInStep (Ac (Al×Ak)))))=pure cl /\
   (∀ x c,cl.lookup x=Ab c->env.cells.lookup x=Ab c)/\(∀ x,((x,DZ)∈ns\/∃ c,acc.lookup x=Ab c)->∃ c,cl.lookup x=Ab c)
 |[],acc,_,h2=>⟨acc,by rw[DJ],h2,fun x hx=>hx.elim (fun z=>nomatch z) id⟩
 |(n,k)::r,acc,h1,h2=>by
  rw[DW];by_cases hk:k=.free
  ·subst hk;obtain⟨c,hc⟩:=h1 (n,.free) Ay rfl;obtain⟨cl,e,p,q⟩:=Oi env r ((n,c)::acc) (fun x hx=>h1 x (Au _ hx)) (fun x d hd=>by
    rw[B6]at hd;split at hd
    ·rename_i hx;cases hd;rw[eq_of_beq hx];exact hc
    ·exact h2 x d hd)
   refine⟨cl,?_,p,fun x hx=>q x ?_⟩
   ·have e1:cellOf env n=pure c:=by unfold cellOf;dsimp only at hc;rw[hc]
    rw[Az (by rfl),e1]
    exact e
   ·rcases hx with hx|⟨d,hd⟩
    ·rcases Ax.mp hx with z|z
     ·cases z;exact .inr ⟨c,by simp[B6]⟩
     ·exact .inl z
    ·by_cases hxn:x=n
     ·exact .inr ⟨c,by subst hxn;simp[B6]⟩
     ·exact .inr ⟨d,by rw[B6];rw[DI.mpr hxn];exact hd⟩
  ·obtain⟨cl,e,p,q⟩:=Oi env r acc (fun x hx=>h1 x (Au _ hx)) h2
   refine⟨cl,?_,p,fun x hx=>q x ?_⟩
   ·rw[AH (by simpa using hk)]
    exact e
   ·rcases hx with hx|hx
    ·rcases Ax.mp hx with z|z
     ·cases z;exact absurd rfl hk
     ·exact .inl z
    ·exact .inr hx
theorem RU(h:∀ x∈scope.names,x.2=.free->∃ c,env.cells.lookup x.1=Ab c):∃ cl,closureFor scope env=pure cl/\(∀ x c,cl.lookup x=Ab c->env.cells.lookup x=Ab c)/\∀ x,(x,DZ)∈scope.names->∃ c,cl.lookup x=Ab c:=by
 obtain⟨cl,e,p,q⟩:=Oi env scope.names [] h (fun x c z=>by simp at z)
 refine⟨cl,?_,p,fun x hx=>q x (.inl hx)⟩
 unfold closureFor
 first
  |exact e
  |(simp only[bind_pure];exact e)
  |(rw[show (forIn scope.names ([]:Ac (Al×Ak)) _:G5 _)=pure cl from e];rfl)
theorem Oy:∀(names:Ac (Al×Er))(h:AS)(acc:Ac (Al×Ak))(x:Al)(c:Ak),(Dx h.objs.size names acc).lookup x=Ab c->acc.lookup x=Ab c\/((x,Cd)∈names/\h.objs.size<=c/\(G3 h names).IsCell c Af)
 |[],_,_,_,_,e=>.inl e
 |(n,k)::r,h,acc,x,c,e=>by
  unfold Dx at e;unfold G3;by_cases hk:(k==Cd)=Aa
  ·rw[Az hk]at e ⊢;have hs:h.objs.size+1=(h.push { cls:=.type "cell", data:=.cell Af }).objs.size:=(BM ..).symm;rw[hs]at e;rcases Oy r _ _ x c e with q|⟨q1,q2,q3⟩
   ·rw[B6]at q;cases hx:x==n with
    |true=>
     rw[hx]at q;cases q;refine .inr ⟨?_,AU _,?_⟩
     ·rw[eq_of_beq hx,eq_of_beq hk];exact Ay
     ·exact⟨_,Ia r _ _ _ (AC _ rfl),rfl⟩
    |false=>rw[hx]at q;exact .inl q
   ·exact .inr ⟨Au _ q1,by omega,q3⟩
  ·rw[AH hk]at e ⊢;rcases Oy r h acc x c e with q|⟨q1,q2,q3⟩
   ·exact .inl q
   ·exact .inr ⟨Au _ q1,q2,q3⟩
theorem Oz:∀(names:Ac (Al×Er))(h:AS)(acc:Ac (Al×Ak)),(∀ x y c,acc.lookup x=Ab c->acc.lookup y=Ab c->x=y)->(∀ x c,acc.lookup x=Ab c->c<h.objs.size)->∀ x y c,(Dx h.objs.size names acc).lookup x=Ab c->(Dx h.objs.size names acc).lookup y=Ab c->x=y
 |[],_,_,i,_,x,y,c,e1,e2=>i x y c e1 e2
 |(n,k)::r,h,acc,i,b,x,y,c,e1,e2=>by
  unfold Dx at e1 e2;by_cases hk:(k==Cd)=Aa
  ·rw[Az hk]at e1 e2;have hs:h.objs.size+1=(h.push { cls:=.type "cell", data:=.cell Af }).objs.size:=(BM ..).symm;rw[hs]at e1 e2;have look:∀ z d,WI z ((n,h.objs.size)::acc)=Ab d->(z=n/\d=h.objs.size)\/(z≠n/\acc.lookup z=Ab d):=fun z d q=>by
    rw[B6]at q;cases hx:z==n with
    |true=>rw[hx]at q;cases q;exact .inl ⟨eq_of_beq hx,rfl⟩
    |false=>rw[hx]at q;exact .inr ⟨fun e=>by rw[e]at hx;simp at hx,q⟩
   refine Oz r _ _ (fun z z' d q q'=>?_) (fun z d q=>?_) x y c e1 e2
   ·rcases look z d q with ⟨rfl,q1⟩|⟨_,q1⟩<;>rcases look z' d q' with ⟨rfl,q2⟩|⟨_,q2⟩
    ·rfl
    ·exact absurd (b _ _ q2) (by rw[q1];exact Bw _)
    ·exact absurd (b _ _ q1) (by rw[q2];exact Bw _)
    ·exact i _ _ _ q1 q2
   ·rw[<-hs];rcases look z d q with ⟨_,q1⟩|⟨_,q1⟩
    ·rw[q1];exact F7 _
    ·exact CY (b _ _ q1)
  ·rw[AH hk]at e1 e2;exact Oz r h acc i b x y c e1 e2
theorem Ol:∀(names:Ac (Al×Er))(n:Ag)(acc:Ac (Al×Ak))(x:Al),(x,Cd)∉names->(Dx n names acc).lookup x=acc.lookup x
 |[],_,_,_,_=>rfl
 |(m,k)::r,n,acc,x,hx=>by
  unfold Dx;have hr:(x,Cd)∉r:=fun z=>hx (Au _ z)
  by_cases hk:(k==Cd)=Aa
  ·rw[Az hk,Ol r _ _ x hr,B6];cases q:x==m with
   |true=>exact absurd (by rw[eq_of_beq q,eq_of_beq hk];exact Ay) hx
   |false=>rfl
  ·rw[AH hk];exact Ol r n acc x hr
theorem OA(n0:Ag):∀(names:Ac (Al×Er))(n:Ag)(acc:Ac (Al×Ak))(x:Al),n0<=n->((x,Cd)∈names\/∃ c,acc.lookup x=Ab c/\n0<=c)->∃ c,(Dx n names acc).lookup x=Ab c/\n0<=c
 |[],_,_,_,_,h=>h.elim (fun z=>nomatch z) id
 |(m,k)::r,n,acc,x,hn,h=>by
  unfold Dx;by_cases hk:(k==Cd)=Aa
  ·rw[Az hk];refine OA n0 r _ _ x (by omega) ?_
   by_cases hx:(x==m)=Aa
   ·exact .inr ⟨n,by rw[B6,hx],hn⟩
   ·rcases h with h|⟨c,h,hc⟩
    ·rcases Ax.mp h with z|z
     ·cases z;simp at hx
     ·exact .inl z
    ·exact .inr ⟨c,by rw[B6];simp only[hx];exact h,hc⟩
  ·rw[AH hk];refine OA n0 r _ _ x hn (h.imp (fun h=>?_) id)
   rcases Ax.mp h with z|z
   ·cases z;simp at hk
   ·exact z
theorem Y6{M:Kk}{A:Bu}{E:Vq}{globals:Ak}{qual:Al}{Q:CG->Ap->Prop}(hQ:Q (newEnv scope s.heap.objs.size globals (Dx (s.heap.objs.size+1) scope.names cl) qual Af .none (Ab env) II) { s with heap:=G3 (s.heap.push { cls:=.type "dict", data:=.dict #[] }) scope.names }):AB M A (IA scope globals cl [] qual Af .none (Ab env)) Q E s:=by
 simp only[IA,Option.isSome_some,IC];refine Ah (wpAny_alloc ?_);refine Ah (wpAny_layCells _ (fun name kind cells=>by cases hkc:kind==Cd<;>simp[hkc]) _ _ _ _ ?_)
 rw[show ({ s with heap:=s.heap.push { cls:=.type "dict", data:=.dict #[] } }:Ap).heap.objs.size=s.heap.objs.size+1 from BM ..]
 rw[DJ];exact Ah (Aw (Aw hQ))
noncomputable def cxC(X:Cx)(scope:CM)(cl:Ac (Al×Ak))(C:Ak)(N':Ac Al)(s₀:Ap)(H₀:Hp)(fp:Ac Ak):Cx where
 prog:=X.prog
 w:=X.w
 K:=X.K
 mg:=X.mg
 base:=X.base
 A:=X.A
 N:=N'
 s₀:=s₀
 H₀:=H₀
 env:=compEnvC scope cl C X.env
 outer:=X.stack
 stack:=X.stack
 ex:=fp
 fn:=fun x=>scope.names.lookup x==Ab Cd
 calm:=X.calm
 pn:=[]
 xe:=fun _ _=>BK
theorem Ml{env:CG}:∀{names:Ac (Al×Er)}{x:Al}{k:Er},(names.map fun (n,k)=>if (k==DZ&&env.scope.kind==.function&&env.kindOf n==Ab .cell) then (n,Cd) else (n,k)).lookup x=Ab k->names.lookup x=Ab k\/(k=.cell/\names.lookup x=Ab .free)
 |[],_,_,h=>by simp at h
 |(n,j)::r,x,k,h=>by
  have ih:=@Ml env r x k;have h':WI x ((if (j==DZ&&env.scope.kind==.function&&env.kindOf n==Ab .cell)=Aa then (n,Cd) else (n,j))::(r.map fun (n,k)=>if (k==DZ&&env.scope.kind==.function&&env.kindOf n==Ab .cell) then (n,Cd) else (n,k)))=Ab k:=h
  by_cases hc:(j==DZ&&env.scope.kind==.function&&env.kindOf n==Ab .cell)=Aa
  ·rw[Az hc]at h';rw[B6]at h' ⊢;cases hx:x==n with
   |true=>
    rw[hx]at h';cases h';simp only[An]at hc;exact .inr ⟨rfl,by rw[eq_of_beq hc.1.1]⟩
   |false=>rw[hx]at h';exact ih h'
  ·rw[AH hc]at h';rw[B6]at h' ⊢;cases hx:x==n with
   |true=>rw[hx]at h';exact .inl h'
   |false=>rw[hx]at h';exact ih h'
structure BlockOk (X:Cx) (scope:CM) (N':Ac Al) (ts:Ac Ag):Prop where
 kind:scope.kind=.function
 uniq:∀ y∈scope.names,scope.names.lookup y.1=Ab y.2
 names:∀ y∈scope.names,y.2=.local->scope.names.lookup y.1=Ab .local
 free:∀ y∈scope.names,y.2=.free->X.env.scope.names.lookup y.1=Ab .cell\/X.env.scope.names.lookup y.1=Ab .free
 len:N'.length=X.N.length
 same:∀ i x,N'[i]?=Ab x->scope.names.lookup x=Ab .free->i∉ts->X.N[i]?=Ab x
 loc:∀ i x,N'[i]?=Ab x->(scope.names.lookup x=Ab .local\/scope.names.lookup x=Ab .cell)->i∈ts
structure BCells (X:Cx) (scope:CM) (cl:Ac (Al×Ak)) (C:Ak) (h:AS):Prop where
 own:∀ x c,cl.lookup x=Ab c->X.env.cells.lookup x=Ab c\/(scope.names.lookup x=Ab .cell/\C<c/\h.IsCell c Af)
 inj:∀ x y c,cl.lookup x=Ab c->cl.lookup y=Ab c->x=y
 has:∀ x,scope.names.lookup x=Ab .cell->∃ c,cl.lookup x=Ab c/\C<c
 fr:∀ x,(x,DZ)∈scope.names->∃ c,cl.lookup x=Ab c/\X.env.cells.lookup x=Ab c
section
variable{X:Cx}{pI:Pn}{σ:L2.St}{H:Hp}{s:Ap}
noncomputable def hideT(ts:Ac Ag)(σ:L2.St):L2.St:=ts.foldl (fun σ t=>σ.set t Af) σ
theorem OK:∀(ts:Ac Ag)(σ:L2.St),(hideT ts σ).length=σ.length
 |[],_=>rfl
 |t::ts,σ=>by show (hideT ts (σ.set t Af)).length=_;rw[OK ts,Bq]
theorem Su:∀(ts:Ac Ag)(σ:L2.St){i:Ag}{v:V},(hideT ts σ)[i]?=Ab (Ab v)->σ[i]?=Ab (Ab v)/\i∉ts
 |[],_,_,_,h=>⟨h,by simp⟩
 |t::ts,σ,i,v,h=>by
  obtain⟨h1,h2⟩:=Su ts (σ.set t Af) (i:=i) (v:=v) h;by_cases e:t=i
  ·subst e;have:=HH h1;cases this
  ·rw[Di e]at h1;exact⟨h1,by simp only[Ax,D9];exact⟨fun z=>e z.symm,h2⟩⟩
theorem Zj{tk:Ag}{C:Ak}{m:Al->Av Ai}(I:Inv X pI σ H s)(B:BlockOk X scope N' ts)(hf:∀ b∈fp,GY X pI H b)(hfo:∀ b∈fp,b<s.heap.objs.size)(hb:BCells X scope cl C h')(hk:∀ b o,s.heap.get? b=Ab o->h'.get? b=Ab o)(hC:s.heap.objs.size<=C)(hn:h'.Ns C m):Inv (cxC X scope cl C N' s H fp) [] (hideT ts σ) H {s with heap:=h',toks:=tk}:=by
 have stf:∀ b∈fp,b∉frs X.stack:=fun b hb z=>by
  rcases Ax.mp (I.stkSub b z) with e|e
  ·exact(hf b hb).2.1 e
  ·exact(hf b hb).2.2.1 e
 have frOf:∀ x,((relabel scope X.env).names.lookup x=Ab .cell\/(relabel scope X.env).names.lookup x=Ab .free)->scope.names.lookup x=Ab .free\/scope.names.lookup x=Ab .cell:=fun x hx=>by
  rcases hx with z|z
  ·rcases Ml z with z|⟨_,z⟩
   ·exact .inr z
   ·exact .inl z
  ·rcases Ml z with z|⟨z,_⟩
   ·exact .inl z
   ·cases z
 have gtC:∀ c:Ak,C<c->s.heap.objs.size<=c:=fun c z=>BD hC (DQ z)
 have cellK:∀ c v,s.heap.IsCell c v->h'.IsCell c v:=fun c v ⟨o,ho,hd⟩=>⟨o,hk _ _ ho,hd⟩
 refine⟨⟨I.ok.mod,B.kind,I.ok.glob,I.ok.blt,hC,hb.inj,fun x hx=>?_,fun x c h e=>?_,I.ok.hd,I.ok.frames,.inl rfl,fun b hbb=>⟨?_,fun x c e=>?_⟩,I.bs,BD I.ok.bsz I.sz,fun b o e hbb=>?_,stf,I.stack,I.stkFree⟩,rfl,I.bare,Un.kept hk,⟨m,hn,fun i x v h1 h2 h3=>?_⟩,fun x c e=>?_,I.hok.fresh hC,fun x c e=>(hb.own x c e).elim (I.freeC x c) (fun z=>I.hok.fresh (gtC c z.2.1)),fun p hp=>absurd (show p∈([]:Pn) from hp) (by simp),I.hok.kept hk,?_⟩
 ·rcases frOf x hx with z|z
  ·obtain⟨c,q,_⟩:=hb.fr x (C2 z);exact⟨c,q⟩
  ·obtain⟨c,q,_⟩:=hb.has x z;exact⟨c,q⟩
 ·obtain⟨c',q,z⟩:=hb.has x (eq_of_beq h);have e':cl.lookup x=Ab c:=e;rw[q]at e';cases e';exact gtC _ z
 ·intro z;have z':b=C:=z;have:=hfo b hbb;rw[z']at this;exact absurd (AD this hC) (Bw _)
 ·rcases hb.own x c e with z|z
  ·exact(hf b hbb).2.2.2.2.1 x c z
  ·intro q;have:=hfo b hbb;have:=gtC c z.2.1;rw[q]at this;exact absurd ‹b<_› (EN.mpr this)
 ·rcases (hf b hbb).2.2.2.1 with z|z
  ·exact I.ok.noex b o e z
  ·exact absurd (AD (AG e) (BD I.ok.bsz z)) (Bw _)
 ·obtain⟨h2,hts⟩:=Su ts σ h2;have h3':(relabel scope X.env).names.lookup x=Ab .local\/(relabel scope X.env).names.lookup x=Ab .cell\/(relabel scope X.env).names.lookup x=Ab .free:=h3;have h1':N'[i]?=Ab x:=h1;rcases h3' with z|z
  ·rcases Ml z with z|⟨z,_⟩
   ·exact absurd (B.loc i x h1' (.inl z)) hts
   ·cases z
  ·have fr:=(frOf x z).resolve_right fun q=>hts (B.loc i x h1' (.inr q))
   have hm:=C2 fr;have hX:=B.same i x h1' fr hts;obtain⟨m0,hn0,hl0⟩:=I.loc;obtain⟨u,ru,lk⟩:=hl0 i x v hX h2 (by
    rcases B.free _ hm rfl with q|q
    ·exact .inr (.inl q)
    ·exact .inr (.inr q))
   refine⟨u,ru,?_⟩;obtain⟨c,hc,hcX⟩:=hb.fr x hm;rcases lk with ⟨q,_⟩|⟨_,c',hc',hcell⟩
   ·have q':X.env.scope.names.lookup x=Ab .local:=q;rcases B.free _ hm rfl with p|p
    ·rw[show X.env.scope.names.lookup x=_ from p]at q';cases q'
    ·rw[show X.env.scope.names.lookup x=_ from p]at q';cases q'
   ·have e:=hcX;rw[hc']at e;cases e;exact .inr ⟨z,c,hc,cellK _ _ hcell⟩
 ·rcases hb.own x c e with z|z
  ·obtain⟨v,q⟩:=I.cell x c z;exact⟨v,cellK _ _ q⟩
  ·exact⟨_,z.2.2⟩
 ·show (hideT ts σ).length=N'.length;rw[OK,I.len,B.len]
theorem R8{C D:Ak}{s':Ap}{σ':L2.St}{pins':Pn}{h'':AS}{ys:Ac Ai}(I:Inv X pI σ H s)(hf:∀ b∈fp,GY X pI H b)(I':Inv (cxC X scope cl C N' s H fp) pins' σ' H' s')(hD:s.heap.objs.size<=D)(hDC:D≠C)(hC:s.heap.objs.size<=C)(hd:s'.heap.get? D=Ab { cls:=.type "list", data:=.seq ys.toArray n })(hDn:H' D=Af)(rv:Br xs ys)(hz:xs.length<=sizeLine)(hs:E0 C s'.heap h''):Inv X pI σ (upd H' D (.lst xs)) {s' with heap:=h''}:=by
  have u:Un (frs X.stack) fp H H' s.heap s'.heap:=I'.base;have lt:∀ b o,s.heap.get? b=Ab o->b≠C/\b≠D:=fun b o e=>⟨fun z=>absurd (AD (AG e) (z ▸ hC)) (Bw _),fun z=>absurd (AD (AG e) (z ▸ hD)) (Bw _)⟩
  have HD:H D=Af:=I.hok.fresh hD;have hCn:H' C=Af:=I'.free;have kb:∀ b o,b≠C->s'.heap.get? b=Ab o->h''.get? b=Ab o:=fun b o hb e=>(hs.2 b hb).trans e
  have u2:Un (frs X.stack) fp H (upd H' D (.lst xs)) s.heap h'':=⟨fun b o e q hb hx=>kb b o (lt b o e).1 (u.keep b o e q hb hx),fun b o e q hb hx=>by
      obtain⟨sl,e1⟩:=u.slot b o e q hb hx;exact⟨sl,kb b _ (lt b o e).1 e1⟩,fun b o e q hx=>by rw[Ds (lt b o e).2];exact u.free b o e q hx,fun b o e hx=>by
      obtain⟨o',e1⟩:=u.there b o e hx;exact⟨o',kb b _ (lt b o e).1 e1⟩,fun b zs q=>by rw[Ds (Ga q HD)];exact u.tups b zs q,fun b o zs q=>by rw[Ds (Ga q HD)];exact u.frzs b o zs q,fun b ps q=>by rw[Ds (Ga q HD)];exact u.tbls b ps q⟩
  have hok:HOk X.prog X.w (upd H' D (.lst xs)) h'':=fun b o e=>by
    by_cases hb:b=D
    · subst hb;rw[Jv]at e;cases e;exact⟨hz,ys,n,rv,kb _ _ hDC hd⟩
    · rw[Ds hb]at e;refine(I'.hok b o e).stay (fun c v hc q=>kb c v ?_ q) (fun c q=>by rw[Ds (Ga q hDn)];exact q) fun c zs q=>by rw[Ds (Ga q hDn)];exact q
      rcases hc with rfl|hc
      · exact Ga e hCn
      · exact Ga hc hCn
  exact I.call' (s':={s' with heap:=h''}) (ch:=fp) I'.os u2 hok I'.bare fun b hb=>⟨(hf b hb).2.2.2.1,(hf b hb).2.1,(hf b hb).2.2.2.2.1,(hf b hb).2.2.2.2.2⟩
end
def PTs(X:Cx)(ifs:Ac At)(tt:TT):Prop:=∀(pI:Pn)(s:Ap)(σ:L2.St)(H:Hp)(Q:Ao->Hp->Prop),Inv X pI σ H s->tt σ H Q ->
 AB (model X.prog X.w) X.A (forIn ifs Aa fun c r=>if r=Aa then do let ok <-Iz c X.env (eval c X.env);pure (EK ok) else pure (EK r)) (TP X pI σ Q) X.xe s
theorem iO:PTs X [] (fun σ H Q=>Q Aa H):=fun pI s σ H Q I h=>wpAny_tests_nil ⟨H,I,h⟩
theorem iM{t:TT}(h:PT X c t):PTs X [c] t:=fun pI s σ H Q I q=>wpAny_tests_one (h pI s σ H Q I q)
theorem ZO{D:Ak}{ys:Ac Ai}{E:Vq}{Q:Vq}(I:Inv X ((D,{ cls:=.type "list", data:=.seq ys.toArray n })::pI) σ H s)(hD:X.s₀.heap.objs.size<=D)(hp:∀ p∈X.pn++pI,p.1≠D)(hc:∀ x c,X.env.cells.lookup x=Ab c->c≠D)(hz:ys.length<=sizeLine)(h:∀ s',Inv X ((D,{ cls:=.type "list", data:=.seq (ys++[y]).toArray (n+1) })::pI) σ H s'->(∀ b o,b≠D->s.heap.get? b=Ab o->s'.heap.get? b=Ab o)->Q .none s'):AB (model X.prog X.w) X.A (call (.builtin "list.append") [.ref D,y]) Q E s:=by
 obtain⟨e,hn,hL,hfs,_⟩:=I.pin (D,{ cls:=.type "list", data:=.seq ys.toArray n }) (BO _ Ay);refine append_at (hsz:=by rw[AE];exact hz) e fun h' hs hd=>?_
 have hd':h'.get? D=Ab { cls:=.type "list", data:=.seq (ys++[y]).toArray (n+1) }:=by rw[hd];simp
 have kb:∀ b o,b≠D->s.heap.get? b=Ab o->h'.get? b=Ab o:=fun b o hb q=>(hs.2 b hb).trans q
 have I0:Inv X pI σ H s:=I.pins_of fun p hp=>I.pin p (BO _ (Au _ hp))
 have I1:Inv X pI σ H {s with heap:=h'}:=I0.turned (t':=s.toks) kb hn hL (.inr hD) hc hp
 refine h _ (I1.pins_of fun p hp=>?_) kb
 rcases Ax.mp hp with rfl|hp
 ·exact⟨hd',hn,hL,hfs,fun v z=>by
   have z':Lk _ _=Lg v:=z;cases z'⟩
 ·exact I1.pin p (BO _ hp)
section
variable{prog:A8}{w:AN}{A:Bu}{R:Kl->Ap->Prop}{s:Ap}
theorem Zd{target:At}{it acc:Ai}(I:Ag->Ap->Prop)(turn:∀ n s,I n s->AB (model prog w) A (D7 it) (fun r s₁=>match r with
      |none=>R (.ok .next) s₁
      | some v=>AB (model prog w) A (Gw target it v) (fun _ s₁'=>AB (model prog w) A (assign target env v) (fun _ s₂=>
          AB (model prog w) A (forIn ifs Aa fun c r=>if r=Aa then do let ok <-Iz c env (eval c env);pure (EK ok) else pure (EK r)) (fun ok s₃=>
            if ok=Aa then AB (model prog w) A (eval elt env) (fun x s₄=>
              AB (model prog w) A (call (.builtin "list.append") [acc,x]) (fun _ s₅=>∃ m,m<n/\I m s₅) (IB (model prog w) A env fun e s'=>R (.error e) s') s₄) (IB (model prog w) A env fun e s'=>R (.error e) s') s₃
            else ∃ m,m<n/\I m s₃) (IB (model prog w) A env fun e s'=>R (.error e) s') s₂) (IB (model prog w) A env fun e s'=>R (.error e) s') s₁') (IB (model prog w) A env fun e s'=>R (.error e) s') s₁) (IB (model prog w) A env fun e s'=>R (.error e) s') s)(n:Ag)(h:I n s):FR (model prog w) A (.compLoop (.ListComp elt [⟨target,iter,ifs,0⟩] scope pos) 0 it acc env) R s:=by
  refine codeAny_loop rfl I (fun n s hI=>?_) n h
  show AB _ A ((compTurn (.ListComp elt [⟨target,iter,ifs,0⟩] scope pos) 0 it acc env).onRaise (fun x=>do noteFrame x env;theTreesLotGoes x)) _ _ s
  refine wpAny_noted ?_;rw[compTurn_list];refine Ah (Ha (Ah (CK (turn n s hI) (fun r s₁ h₁=>?_) fun _ _ h'=>h')))
  cases r with
  |none=>exact Aw h₁
  |some v=>
    refine Ah (CK h₁ (fun _ s₁' h₁'=>?_) fun _ _ h'=>h')
    refine Ah (CK h₁' (fun _ s₂ h₂=>Ah (CK h₂ (fun ok s₃ h₃=>?_) fun _ _ h'=>h')) fun _ _ h'=>h')
    cases ok with
    |false=>exact Aw ⟨rfl,h₃⟩
    |true=>
      exact Ah (Ah (CK h₃ (fun x s₄ h₄=>Ah (CK h₄ (fun _ s₅ h₅=>Aw (Aw ⟨rfl,h₅⟩)) fun _ _ h'=>h')) fun _ _ h'=>h'))
end
def LP(J:It)(ts:Ac Ag)(g:TG)(tt:TT)(te:TE)(σ:L2.St)(H:Hp)(Q:VK):Prop:=∃ W:Ag->Ag->Ac V->L2.St->Hp->Prop,(∃ m,W 0 m [] (hideT ts σ) H)/\∀ i m xs σ H,W i m xs σ H ->
 (J.stop i H/\∀ p,H p=Af->Q (.ref p) (upd H p (.lst xs))) \/
 (J.go i H/\xs.length<sizeLine/\∀ x H',J.yld i H x H'->g x σ H' fun σ2 H2=>tt σ2 H2 fun b H3=>if b=Aa then te σ2 H3 fun y H4=>∃ m',m'<m/\W (i+1) m' (xs++[y]) σ2 H4 else ∃ m',m'<m/\W (i+1) m' xs σ2 H3)
theorem SG{g:TG}{it:Ak}{tn:Ag->AS->Prop}{E:Vq}{RR:Ai->Ak->Kl->Ap->Prop}(hc:X.calm=Aa)(B:BlockOk X scope N' ts)(I:Inv X pI σ H s)(T:Turn X.prog X.w X.K tg J fp it tn)(st:tn 0 s.heap)(hf:∀ b∈fp,GY X pI H b)(hcl:∀ x c,cl.lookup x=Ab c->X.env.cells.lookup x=Ab c)(hcl2:∀ x,(x,DZ)∈scope.names->∃ c,cl.lookup x=Ab c)(hg:∀ cl C s H,PG (cxC X scope cl C N' s H fp) tg g)(ht:∀ cl C s H,PTs (cxC X scope cl C N' s H fp) ifs tt)(he:∀ cl C s H,PE (cxC X scope cl C N' s H fp) elt te)(h:LP J ts g tt te σ H Q)(hRR:∀ cl D C s' H' σ' pins' xs ys n m,Inv (cxC X scope cl C N' s H fp) pins' σ' H' s'->s'.heap.get? D=Ab { cls:=.type "list", data:=.seq (BB ys) n }->H' D=Af->Br xs ys->xs.length<=sizeLine->s.heap.objs.size<=D->D≠C->s.heap.objs.size<=C->s'.heap.Ns C m->Q (.ref D) (upd H' D (.lst xs))->RR (.ref D) C (.ok .next) s'):AB (model X.prog X.w) X.A (newList []) (fun acc s₃=>AB (model X.prog X.w) X.A (IA scope X.env.globals cl [] X.env.qual Af .none (Ab X.env)) (fun cenv s₄=>FR (model X.prog X.w) X.A (.compStart (.ListComp elt [⟨tg,iter,ifs,0⟩] scope pos) 0 (.ref it) acc {cenv with scope:=relabel scope X.env}) (RR acc cenv.locals) s₄) E s₃) E s:=by
 refine CZ (Y6 ?_);dsimp only;generalize hH2:s.heap.push { cls:=.type "list", dict:=Af,data:=.seq ([]:Ac Ai).toArray }=H2;have hns₁:(G3 (H2.push { cls:=.type "dict", data:=.dict #[] }) scope.names).Ns H2.objs.size (fun _=>Af):=(Heap.Ns.new H2 (.type "dict")).keeps (Ia _ _)
 have hkp₁:∀ b o,H2.get? b=Ab o->(G3 (H2.push { cls:=.type "dict", data:=.dict #[] }) scope.names).get? b=Ab o:=fun b o e=>Ia _ _ b o (As _ e)
 have hown:=Oy scope.names (H2.push { cls:=.type "dict", data:=.dict #[] }) cl;have hinj:=Oz scope.names (H2.push { cls:=.type "dict", data:=.dict #[] }) cl;rw[BM]at hown hinj;generalize hcl':Dx (H2.objs.size+1) scope.names cl=cl' at hown hinj;have hcf:∀ x,(x,Cd)∉scope.names->cl'.lookup x=cl.lookup x:=fun x hx=>by rw[<-hcl'];exact Ol _ _ _ x hx
 have hch:∀ x,(x,Cd)∈scope.names->∃ c,cl'.lookup x=Ab c/\H2.objs.size+1<=c:=fun x hx=>by rw[<-hcl'];exact OA _ _ _ _ x (AU _) (.inl hx)
 generalize hh₁:G3 (H2.push { cls:=.type "dict", data:=.dict #[] }) scope.names=h₁ at hns₁ hkp₁ hown;have hC:H2.objs.size=s.heap.objs.size+1:=by rw[<-hH2,BM]
 have hCle:s.heap.objs.size<=H2.objs.size:=by rw[hC];exact JN _
 have hDC:s.heap.objs.size≠H2.objs.size:=by rw[hC];exact A1 (F7 _)
 have below:∀ b,b<s.heap.objs.size->b≠H2.objs.size:=fun b hb=>by rw[hC];exact A1 (CY hb)
 have old:∀ b o,s.heap.get? b=Ab o->h₁.get? b=Ab o:=fun b o e=>hkp₁ b o (hH2 ▸ As _ e)
 have hacc:h₁.get? s.heap.objs.size=Ab { cls:=.type "list", data:=.seq ([]:Ac Ai).toArray 0 }:=hkp₁ _ _ (hH2 ▸ AC _ rfl);have clt:∀ x c,cl.lookup x=Ab c->c<s.heap.objs.size:=fun x c e=>by
  obtain⟨v,q⟩:=I.cell x c (hcl x c e);exact q.lt
 have bc:BCells X scope cl' H2.objs.size h₁:=by
  refine⟨fun x c e=>?_,hinj (fun x y c e1 e2=>I.ok.inj x y c (hcl x c e1) (hcl y c e2)) (fun x c e=>CY (AD (clt x c e) hCle)),fun x hx=>?_,fun x hx=>?_⟩
  ·rcases hown x c e with q|⟨q1,q2,q3⟩
   ·exact .inl (hcl x c q)
   ·exact .inr ⟨B.uniq _ q1,q2,q3⟩
  ·have hm:=C2 hx;obtain⟨c,e,hc⟩:=hch x hm;exact⟨c,e,hc⟩
  ·have hno:(x,Cd)∉scope.names:=fun z=>by
    have e1:=B.uniq _ hx;have e2:=B.uniq _ z;rw[show scope.names.lookup x=_ from e1]at e2
    cases e2
   obtain⟨c,e⟩:=hcl2 x hx;exact⟨c,by rw[hcf x hno];exact e,hcl x c e⟩
 have hfo:∀ b∈fp,b<s.heap.objs.size:=fun b hb=>by
  obtain⟨o,e,_⟩:=T.obj 0 _ st b hb;exact AG e
 generalize hD:s.heap.objs.size=D at *;generalize hC':H2.objs.size=C at *;have I0:Inv (cxC X scope cl' C N' s H fp) [] (hideT ts σ) H {s with heap:=h₁,toks:=s.toks+([]:Ac (Al×Ai)).length}:=Zj (tk:=s.toks+([]:Ac (Al×Ai)).length) I B hf (fun b hb=>by rw[hD];exact hfo b hb) bc old (by rw[hD];exact hCle) hns₁
 have nD:H D=Af:=I.hok.fresh (by rw[hD];exact AU _)
 have noD:∀ b∈fp,b≠D:=fun b hb=>A1 (hfo b hb)
 have noC:∀ b∈fp,b≠C:=fun b hb=>below b (hfo b hb)
 have stfs:D∉frs X.stack:=fun z=>by
  obtain⟨_,o,ho,_⟩:=I.stack.mem z;exact absurd (AG ho) (by rw[hD];exact Bw _)
 have cD:∀ x c,cl'.lookup x=Ab c->c≠D:=fun x c e z=>by
  rcases bc.own x c e with q|⟨_,q,_⟩
  ·obtain⟨v,q⟩:=I.cell x c q;exact absurd q.lt (by rw[z,hD];exact Bw _)
  ·rw[z]at q;exact absurd (AD q hCle) (Bw _)
 have I1:Inv (cxC X scope cl' C N' s H fp) [(D,{ cls:=.type "list", data:=.seq ([]:Ac Ai).toArray 0 })] (hideT ts σ) H {s with heap:=h₁,toks:=s.toks+([]:Ac (Al×Ai)).length}:=I0.pins_of fun p hp=>by
  have e:=Bs.mp hp;subst e;exact⟨hacc,nD,hDC,stfs,fun v z=>by
   have z':Lk _ _=Lg v:=z;cases z'⟩
 have st1:tn 0 h₁:=T.keep _ _ _ st fun b _ o e=>old b o e
 obtain⟨W,⟨m0,w0⟩,turn⟩:=h;have fpk:∀{pl:Pn}{H':Hp},(∀ p∈pl,p.1=D)->(∀ b∈fp,H' b=Af)->∀ b∈fp,GY (cxC X scope cl' C N' s H fp) pl H' b:=fun {pl H'} hp hn b hb=>
  ⟨hn b hb,noC b hb,fun z=>by
   rcases Ax.mp (I.stkSub b z) with e|e
   ·exact(hf b hb).2.1 e
   ·exact(hf b hb).2.2.1 e,.inl hb,fun x c e=>(bc.own x c e).elim ((hf b hb).2.2.2.2.1 x c) (fun z q=>absurd (BS hCle z.2.1) (EN.mpr (by rw[q];exact DQ (hfo b hb)))),fun p hp'=>by
   have hp2:p∈pl:=hp';rw[hp p hp2];exact(noD b hb).symm⟩
 have loop:∀ s₃:Ap,s₃={s with heap:=h₁,toks:=s.toks+([]:Ac (Al×Ai)).length} ->
   FR (model X.prog X.w) X.A (.compLoop (.ListComp elt [⟨tg,iter,ifs,0⟩] scope pos) 0 (.ref it) (.ref D) (compEnvC scope cl' C X.env)) (RR (.ref D) C) s₃:=by
  rintro s₃ rfl;refine Zd (fun k s'=>∃ i σ' H' xs ys n,Inv (cxC X scope cl' C N' s H fp) [(D,{ cls:=.type "list", data:=.seq (BB ys) n })] σ' H' s'/\tn i s'.heap/\(∀ b∈fp,H' b=Af)/\Br xs ys/\xs.length<=sizeLine/\W i k xs σ' H') ?_ m0
   ⟨0,_,H,[],[],0,I1,st1,fun b hb=>(hf b hb).1,.nil,CV _,w0⟩
  rintro k s' ⟨i,σ',H',xs,ys,n,I',st',fr',rv,hz,w'⟩;have one:∀ p∈[((D,{ cls:=.type "list", data:=.seq (BB ys) n }):Ak×DB)],p.1=D:=fun p hp=>by rw[Bs.mp hp]
  rcases turn i k xs σ' H' w' with ⟨stop,q⟩|⟨go,hlt,step⟩
  ·refine CK (T.done (cxC X scope cl' C N' s H fp) rfl rfl rfl hc i _ s' σ' H' (fun _ _=>BK) I' (fpk one fr') st' stop) (fun r s1 ⟨hr,J1⟩=>?_) fun _ _ f=>f.elim
   subst hr;obtain⟨e,hn,_⟩:=J1.pin _ (BO _ Ay);obtain⟨m,hm,_⟩:=J1.loc;exact hRR cl' D C s1 H' σ' _ xs ys n m J1 e hn rv hz (AU _) hDC hCle hm (q D hn)
  ·refine CK (T.item (cxC X scope cl' C N' s H fp) rfl rfl rfl hc i _ s' σ' H' (fun _ _=>BK) I' (fpk one fr') st' go) (fun r s1 ⟨u,hr,h4⟩=>?_) fun _ _ f=>f.elim
   subst hr;refine CK h4 (fun _ s5 ⟨x,H5,I5,r5,y5,st5,fr5⟩=>?_) fun _ _ f=>f.elim
   have I5':=I5.pinned (fpk one fr5) (T.obj _ _ st5);refine CK (hg cl' C s H _ s5 σ' H5 x u _ I5' r5 (step x H5 y5)) (fun _ s6 ⟨σ6,H6,I6,q6⟩=>?_) fun _ _ f=>f.elim
   refine CK (ht cl' C s H _ s6 σ6 H6 _ I6 q6) (fun ok s7 ⟨H7,I7,q7⟩=>?_) fun _ _ f=>f.elim
   have again:∀{s8:Ap}{H8:Hp}{ys':Ac Ai}{n':Ag},Inv (cxC X scope cl' C N' s H fp) ((D,{ cls:=.type "list", data:=.seq (BB ys') n' })::J4 fp s5.heap) σ6 H8 s8->Inv (cxC X scope cl' C N' s H fp) [(D,{ cls:=.type "list", data:=.seq (BB ys') n' })] σ6 H8 s8/\tn (i+1) s8.heap/\∀ b∈fp,H8 b=Af:=fun {s8 H8 ys' n'} I8=>
    ⟨I8.pins_of fun p hp=>I8.pin p (BO _ (by rw[Bs.mp hp];exact Ay)),T.keep _ _ _ st5 fun b hb o e=>(I8.pin (b,o) (BO _ (Au _ (Mu hb e)))).1,fun b hb=>by
     obtain⟨o,e,d⟩:=T.obj _ _ st5 b hb;exact(I8.pin (b,o) (BO _ (Au _ (Mu hb e)))).2.1⟩
   cases ok with
   |false=>
    rw[AH (by decide)]at q7
    obtain⟨m',hm,w7⟩:=q7;obtain⟨a1,a2,a3⟩:=again I7;rw[AH (by decide)]
    exact⟨m',hm,i+1,σ6,H7,xs,ys,n,a1,a2,a3,rv,hz,w7⟩
   |true=>
    rw[Az rfl]at q7;rw[Az rfl];refine CK (he cl' C s H _ s7 σ6 H7 _ I7 q7) (fun val s8 ⟨y,H8,I8,r8,m',hm,w8⟩=>?_) fun _ _ f=>f.elim
    have hl:=rv.length;refine ZO (X:=cxC X scope cl' C N' s H fp) (ys:=ys) (n:=n) (pI:=J4 fp s5.heap) I8 (by show s.heap.objs.size<=D;rw[hD];exact AU _) (fun p hp=>?_) cD (by omega) fun s9 I9 kb=>?_
    ·have hp2:p∈J4 fp s5.heap:=hp;exact noD _ (Sh hp2).1
    ·obtain⟨a1,a2,a3⟩:=again I9;exact⟨m',hm,i+1,σ6,H8,xs++[y],ys++[val],n+1,a1,a2,a3,rv.append (.cons r8 .nil),by rw[Cv];exact hlt,w8⟩
 exact codeAny_compStart_list (loop _ rfl) (T.self _ 0 _ _ _ st1 (loop _ rfl))
theorem gA{g:TG}(hc:X.calm=Aa)(B:BlockOk X scope N' ts)(hi:PI X tg iter wi)(hg:∀ cl C s H fp,PG (cxC X scope cl C N' s H fp) tg g)(ht:∀ cl C s H fp,PTs (cxC X scope cl C N' s H fp) ifs tt)(he:∀ cl C s H fp,PE (cxC X scope cl C N' s H fp) elt te)(hs:∀ x,Dj iter X.env x=pure x):PE X (.ListComp elt [⟨tg,iter,ifs,0⟩] scope pos) (fun σ H Q=>wi σ H fun J H1=>LP J ts g tt te σ H1 Q):=by
 intro pI s σ H Q I h;obtain⟨cl,hclos,hcl,hcl2⟩:=RU (scope:=scope) (env:=X.env) fun x hx hk=>I.ok.has x.1 ((B.free x hx hk).imp id id)
 rw[eval_ListComp];refine Yb (use:=Af) rfl hs hclos B.kind B.names (thn (hi pI s σ H _ I h) fun v s1 h1=>thn h1 fun itv s2 h2=>?_)
 obtain⟨it,fp,tn,J,H2,e,I2,T,st2,f2,h3⟩:=h2;subst e;refine SG (RR:=fun acc C=>compPost (model X.prog X.w) X.A X.xe Af (EP X pI σ Q) acc C) hc B I2 T st2 f2 hcl hcl2 (fun cl C s H=>hg cl C s H fp) (fun cl C s H=>ht cl C s H fp) (fun cl C s H=>he cl C s H fp) h3 fun cl' D C s' H' σ' pins' xs ys n m I' hd hDn rv hz hD hDC hC hm q=>?_
 exact⟨m,hm,fun h'' hs''=>⟨.ref D,_,R8 I2 f2 I' hD hDC hC hd hDn rv hz hs'',rfl,q⟩⟩
theorem iR{n:Al}{g:TG}(hc:X.calm=Aa)(B:BlockOk X scope N' ts)(hi:PI X tg iter wi)(hg:∀ cl C s H fp,PG (cxC X scope cl C N' s H fp) tg g)(ht:∀ cl C s H fp,PTs (cxC X scope cl C N' s H fp) ifs tt)(he:∀ cl C s H fp,PE (cxC X scope cl C N' s H fp) elt te)(hs:∀ x,Dj iter X.env x=pure x)(hN:X.N.Nodup)(hni:X.N[i]?=Ab n)(hx:X.env.scope.names.lookup n=Ab .local)(hsw:DS (.ListComp elt [⟨tg,iter,ifs,0⟩] scope pos) (Ab (.Name n pos')) pos2.line X.env=pure Aa):PS X (.Assign [.Name n pos'] (.ListComp elt [⟨tg,iter,ifs,0⟩] scope pos) pos2) (Nu (fun σ H Q=>wi σ H fun J H1=>LP J ts g tt te σ H1 Q) (Fk i)):=by
 intro pI s σ H Dn I h;obtain⟨cl,hclos,hcl,hcl2⟩:=RU (scope:=scope) (env:=X.env) fun x hx hk=>I.ok.has x.1 ((B.free x hx hk).imp id id)
 rw[exec_Assign_Name_used _ _ _ _ hsw];refine Ah (Ha (Ah ?_));show AB _ X.A (do let _ <-comprehension (.ListComp elt [⟨tg,iter,ifs,0⟩] scope pos) scope X.env _ (newList []) Ad (eval iter X.env) (Ab (assign (.Name n pos') X.env))) _ _ s
 refine Ah (CK (Yb (use:=Ab (assign (.Name n pos') X.env)) (Q:=fun _ s'=>SP X pI Dn .next s') rfl hs hclos B.kind B.names
  (thn (hi pI s σ H _ I h) fun v s1 h1=>thn h1 fun itv s2 h2=>?_)) (fun _ s' hq=>Aw (Aw hq)) fun _ _ e=>e)
 obtain⟨it,fp,tn,J,H2,e,I2,T,st2,f2,h3⟩:=h2;subst e;refine SG (RR:=fun acc C=>compPost (model X.prog X.w) X.A X.xe (Ab (assign (.Name n pos') X.env)) (fun _ s'=>SP X pI Dn .next s') acc C) hc B I2 T st2 f2 hcl hcl2 (fun cl C s H=>hg cl C s H fp) (fun cl C s H=>ht cl C s H fp) (fun cl C s H=>he cl C s H fp) h3 fun cl' D C s' H' σ' pins' xs ys n' m I' hd hDn rv hz hD hDC hC hm q=>?_
 have J0:Inv X pI σ (upd H' D (.lst xs)) s':=R8 I2 f2 I' hD hDC hC hd hDn rv hz (XB ..);refine X9 (RH J0 hN hni (.inl hx) (show BZ (.ref D) (.ref D) from rfl) (fun s'' J1 ⟨a,sb,ha⟩=>?_) (.inr hx))
 have hC0:X.s₀.heap.objs.size<=C:=BD I2.sz hC;have hL:C≠X.env.locals:=fun z=>absurd (AD I2.lt (z ▸ hC)) (Bw _)
 have hcC:∀ x c,X.env.cells.lookup x=Ab c->c≠C:=fun x c e z=>by
  obtain⟨v,q'⟩:=I2.cell x c e;exact absurd (AD q'.lt (by rw[z];exact hC)) (Bw _)
 have hp:∀ p∈X.pn++pI,p.1≠C:=fun p hp z=>absurd (AD (AG (I2.pin p hp).1) (by rw[z];exact hC)) (Bw _)
 have hCn:upd H' D (.lst xs) C=Af:=by rw[Ds hDC.symm];exact I'.free
 have hCa:C≠a:=by
  rcases ha with rfl|ha
  ·exact hL
  ·exact fun z=>hcC n a ha z.symm
 refine⟨m,hm.sameBut sb hCa,fun h'' hs''=>⟨_,_,J1.turned (t':=s''.toks) (fun b o hb e=>(hs''.2 b hb).trans e) hCn hL (.inr hC0) hcC hp,q⟩⟩
theorem KG:∀(ts:Ac Ag)(ρ:Rho)(j:Ag),(FJ ts ρ)[j]?=if j∈ts then (ρ[j]?).map (fun _=>Af) else ρ[j]?
 |[],ρ,j=>by simp[FJ]
 |t::ts,ρ,j=>by
  show (FJ ts (ρ.set t Af))[j]?=_;rw[KG ts];by_cases h1:j∈ts
  ·rw[Az h1,Az (Au _ h1)];by_cases h2:t=j
   ·subst h2;rw[FS];cases ρ[t]?<;>rfl
   ·rw[Di h2]
  ·rw[AH h1];by_cases h2:t=j
   ·subst h2;rw[Az Ay,FS];cases ρ[t]?<;>rfl
   ·rw[Di h2,AH (by simp only[Ax,D9];exact⟨fun z=>h2 z.symm,h1⟩)]
theorem ML:∀(ts:Ac Ag)(ρ:Rho),(FJ ts ρ).length=ρ.length
 |[],_=>rfl
 |t::ts,ρ=>by show (FJ ts (ρ.set t Af)).length=_;rw[ML ts,Bq]
theorem Oh:∀(ts:Ac Ag)(σ:L2.St){i:Ag},i∉ts->(hideT ts σ)[i]?=σ[i]?
 |[],_,_,_=>rfl
 |t::ts,σ,i,h=>by
  simp only[Ax,D9]at h;show (hideT ts (σ.set t Af))[i]?=_;rw[Oh ts _ h.2,Di (fun z=>h.1 z.symm)]
theorem Rt:∀(ts:Ac Ag)(ds:Ac D)(ρ1 ρ2:Rho),ρ1.length=ρ2.length->(∀ j,j∉ts->ρ1[j]?=ρ2[j]?)->E6 ts ds ρ1=E6 ts ds ρ2
 |[],[],ρ1,ρ2,hl,h=>congrArg Ab (Wy fun j=>h j (by simp))
 |[],_::_,_,_,_,_=>rfl
 |_::_,[],_,_,_,_=>rfl
 |t::ts,d::ds,ρ1,ρ2,hl,h=>by
  refine Rt ts ds _ _ (by rw[Bq,Bq];exact hl) fun j hj=>?_
  by_cases e:t=j
  ·subst e;rw[Hn,Hn,Az rfl,Az rfl,hl]
  ·rw[Di e,Di e];exact h j (by simp only[Ax,D9];exact⟨fun z=>e z.symm,hj⟩)
theorem RF:∀(ts us:Ac Ag)(ds:Ac D)(ρ ρ':Rho),(∀ t∈ts,t∈us)->E6 ts ds ρ=Ab ρ'->FJ us ρ'=FJ us ρ
 |[],us,[],ρ,ρ',_,e=>by cases e;rfl
 |t::ts,us,d::ds,ρ,ρ',hs,e=>by
  rw[RF ts us ds _ ρ' (fun u hu=>hs u (Au _ hu)) e]
  refine Wy fun j=>?_
  rw[KG,KG];by_cases h:j∈us
  ·rw[Az h,Az h,Hn];split
   ·rename_i e2;subst e2;split
    ·rename_i h3;rw[AV h3];rfl
    ·rename_i h3;rw[List.getElem?_eq_none (by omega)]
   ·rfl
  ·rw[AH h,AH h,Di];rintro rfl;exact h (hs _ Ay)
 |[],_,_::_,_,_,_,e=>by cases e
 |_::_,_,[],_,_,_,e=>by cases e
section
variable{K:Fg}{CL:ClA}{A:Ak->Prop}{ρ ρ':Rho}{σ:L2.St}{H:Hp}
theorem Good.less(g:Good K CL A ρ σ H)(hl:ρ'.length=ρ.length)(h:∀(i:Ag)(d:D)(o:Ao),ρ'[i]?=Ab (Ab (d,o))->ρ[i]?=Ab (Ab (d,o))):Good K CL A ρ' σ H:=⟨fun i d e=>g.sh i d (h i d Ad e),fun i d e=>g.ow i d (h i d Aa e),hl.trans g.len⟩
theorem Good.put(g:Good K CL A ρ σ H)(t:Ag)(r:Rep K CL H A v d):Good K CL A (ρ.set t (Ab (d,Ad))) (σ.set t (Ab v)) H:=by
 refine⟨fun j e h=>?_,fun j e h=>?_,by rw[Bq,Bq];exact g.len⟩
 ·by_cases hj:t=j
  ·subst hj;have e1:=HH h;cases e1;have hl:t<σ.length:=by
    rw[<-g.len];have:=(Ba.mp h).1;simpa using this
   exact⟨v,by rw[Dl hl],r⟩
  ·rw[Di hj]at h;obtain⟨w',q,rw'⟩:=g.sh j e h;exact⟨w',by rw[Di hj];exact q,rw'⟩
 ·have hj:t≠j:=by
   rintro rfl;have:=HH h;cases this
  rw[Di hj]at h;obtain⟨a,xs,ds,q,z⟩:=g.ow j e h;exact⟨a,xs,ds,by rw[Di hj];exact q,z⟩
theorem Good.hide(g:Good K CL A ρ σ H)(ts:Ac Ag):Good K CL A (FJ ts ρ) σ H:=g.less (ML _ _) fun i d o e=>by
 rw[KG]at e;split at e
 ·cases q:ρ[i]? with
  |none=>rw[q]at e;cases e
  |some x=>rw[q]at e;cases e
 ·exact e
theorem Good.hideT(g:Good K CL A ρ σ H)(ts:Ac Ag):Good K CL A (FJ ts ρ) (hideT ts σ) H:=by
 have key:∀ i x,(FJ ts ρ)[i]?=Ab (Ab x)->ρ[i]?=Ab (Ab x)/\i∉ts:=fun i x e=>by
  rw[KG]at e;split at e
  ·cases q:ρ[i]? with
   |none=>rw[q]at e;cases e
   |some x=>rw[q]at e;cases e
  ·exact⟨e,by assumption⟩
 refine⟨fun i d e=>?_,fun i d e=>?_,by rw[ML,OK];exact g.len⟩
 ·obtain⟨e1,e2⟩:=key i _ e;obtain⟨v,q,r⟩:=g.sh i d e1;exact⟨v,by rw[Oh _ _ e2];exact q,r⟩
 ·obtain⟨e1,e2⟩:=key i _ e;obtain⟨a,xs,ds,q,r⟩:=g.ow i d e1;exact⟨a,xs,ds,by rw[Oh _ _ e2];exact q,r⟩
end
def GG(K:Fg)(CL:ClA)(ts:Ac Ag)(as:D->Rho->R Rho)(g:TG):Prop:=∀ A ρ σ H v d ρ' Q,Good K CL A (FJ ts ρ) σ H->Rep K CL H A v d->as d ρ=.ok ρ'->(∀ σ',Good K CL A ρ' σ' H->Good K CL A (FJ ts ρ) σ' H->Q σ' H)->g v σ H Q
theorem kH(i:Ag):GG K CL [i] (fun d ρ=>.ok (ρ.set i (Ab (d,Ad)))) (Fk i):=fun A ρ σ H v d ρ' Q g r e k=>by
 cases e;have g2:=g.put i r;have e1:(FJ [i] ρ).set i (Ab (d,Ad))=ρ.set i (Ab (d,Ad)):=by
  show (ρ.set i Af).set i (Ab (d,Ad))=_;rw[WU]
 rw[e1]at g2;refine k _ g2 ?_;have:=g2.hide [i];have e2:FJ [i] (ρ.set i (Ab (d,Ad)))=FJ [i] ρ:=by
  show (ρ.set i _).set i Af=ρ.set i Af;rw[WU]
 rw[e2]at this;exact this
theorem TR{K:Fg}{CL:ClA}{A:Ak->Prop}{H:Hp}:∀(ts:Ac Ag)(ds:Ac D)(vs:Ac V)(ρ ρ':Rho)(σ:L2.St)(Q:L2.St->Hp->Prop),Good K CL A ρ σ H->Reps K CL H A vs ds->E6 ts ds ρ=Ab ρ'->(∀ σ',Good K CL A ρ' σ' H->Q σ' H)->(ts.foldr (fun t u=>HS (Fk t) u) HV) vs σ H Q
 |[],[],[],ρ,ρ',σ,Q,x,_,e,k=>by
  cases e;exact⟨rfl,k σ x⟩
 |t::ts,d::ds,v::vs,ρ,ρ',σ,Q,x,r,e,k=>⟨v,vs,rfl,TR ts ds vs _ ρ' _ Q (x.put t r.1) r.2 e k⟩
 |[],_::_,_,_,_,_,_,_,_,e,_=>by cases e
 |_::_,[],_,_,_,_,_,_,_,e,_=>by cases e
 |[],[],_::_,_,_,_,_,_,r,_,_=>r.elim
 |_::_,_::_,[],_,_,_,_,_,r,_,_=>r.elim
theorem pF(ts:Ac Ag):GG K CL ts (GA ts) (K9 K ts.length (ts.foldr (fun t u=>HS (Fk t) u) HV)):=fun A ρ σ H v d ρ' Q g r e k=>by
 cases d with
 |tup ds=>
  obtain⟨a,xs,rfl,na,sq,rs⟩:=r;rw[RW]at e;cases e2:E6 ts ds ρ with
  |none=>rw[e2]at e;cases e
  |some ρ2=>
   rw[e2]at e;cases e;have e3:E6 ts ds (FJ ts ρ)=Ab ρ':=by
    rw[<-e2];exact Rt ts ds _ _ (ML _ _) fun j hj=>by rw[KG,AH hj]
   refine⟨a,xs,rfl,sq,by rw[rs.length];exact Mz _ _ _ _ e2,TR ts ds xs _ ρ' σ Q g rs e3 fun σ' g'=>k σ' g' ?_⟩
   have:=g'.hide ts;rw[RF ts ts ds ρ ρ' (fun _ h=>h) e2]at this
   exact this
 |_=>cases e
noncomputable abbrev W0:XW:=fun _ _=>BK
def STs(X:Cx)(CL:ClA)(ifs:Ac At)(f:Rho->R Ao):Prop:=∀ A,PTs X ifs (fun σ H Q=>AOk H A/\∃ ρ,Good X.K CL A ρ σ H/\Dr W0 H (f ρ) Q)
theorem eF:STs X CL [] (fun _=>.ok Aa):=fun A pI s σ H Q I ⟨hA,ρ,g,p⟩=>iO pI s σ H Q I (p H (AO.refl H))
theorem eE(h:SB X CL W0 c f):STs X CL [c] f:=fun A pI s σ H Q I q=>iM (h A) pI s σ H Q I q
section
variable{X:Cx}{CL:ClA}{W:XW}{tg iter elt:At}{ifs:Ac At}{scope:CM}{pos:Bk}{N':Ac Al}{ts:Ac Ag}{fi:Rho->R (Ac D)}{fc:Rho->R Ao}{fe:Rho->R D}{as:D->Rho->R Rho}{g:TG}
theorem Za{g:D->R Ao}{f:D->R D}{x:D}{xs ys:Ac D}(h:BJ g f (x::xs)=.ok ys):(g x=.ok Ad/\BJ g f xs=.ok ys)\/∃ y r,g x=.ok Aa/\f x=.ok y/\BJ g f xs=.ok r/\ys=y::r:=by
 unfold BJ at h;cases e:g x with
 |bad=>rw[e]at h;cases h
 |exn z=>rw[e]at h;cases h
 |ok b=>
  rw[e,R.bind_ok]at h;cases b with
  |false=>exact .inl ⟨rfl,h⟩
  |true=>
   rw[Az rfl]at h;cases e2:f x with
   |bad=>rw[e2]at h;cases h
   |exn z=>rw[e2]at h;cases h
   |ok y=>
    rw[e2,R.bind_ok]at h;cases e3:BJ g f xs with
    |bad=>rw[e3]at h;cases h
    |exn z=>rw[e3]at h;cases h
    |ok r=>
     rw[e3,R.bind_ok]at h;cases h;exact .inr ⟨y,r,rfl,rfl,rfl,rfl⟩
theorem JW{β:Type}{r:R α}{f:α->R β}{b:β}(h:r.bind f=.ok b):∃ a,r=.ok a/\f a=.ok b:=by
 cases r with
 |ok a=>exact⟨a,rfl,h⟩
 |exn x=>cases h
 |bad=>cases h
theorem aL{ds ys:Ac D}(hGG:GG K CL ts as g)(hA:AOk H1 A)(gd:Good K CL A ρ σ H1)(yl:Jc K CL A ds J H1)(hz:ds.length<=sizeLine)(hcp:BJ (fun x=>(as x ρ).bind fc) (fun x=>(as x ρ).bind fe) ds=.ok ys)(q:∀ xs H2,AO H1 H2->Reps K CL H2 A xs ys->∀ p,H2 p=Af->Q (.ref p) (upd H2 p (.lst xs))):LP J ts g (fun σ H Q=>AOk H A/\∃ ρ,Good K CL A ρ σ H/\Dr W0 H (fc ρ) Q) (fun σ H Q=>AOk H A/\∃ ρ,Good K CL A ρ σ H/\Bx (fun H=>Rep K CL H A) W0 H (fe ρ) Q) σ H1 Q:=by
 refine⟨fun i m xs σ' H'=>m=ds.length-i/\i<=ds.length/\xs.length<=i/\AO H1 H'/\Good K CL A (FJ ts ρ) σ' H'/\∃ outs rest,Reps K CL H' A xs outs/\BJ (fun x=>(as x ρ).bind fc) (fun x=>(as x ρ).bind fe) (ds.drop i)=.ok rest/\ys=outs++rest,
  ⟨ds.length,by simp,CV _,AU _,AO.refl _,gd.hideT ts,[],ys,trivial,hcp,rfl⟩,?_⟩
 rintro i m xs σ' H' ⟨rfl,hi,hxl,sm,g',outs,rest,rs,hc,e⟩;obtain⟨yst,ygo⟩:=yl H' (Kp.of sm) i;by_cases hlt:i<ds.length
 ·have hd:ds[i]?=Ab ds[i]:=AV hlt;obtain⟨hgo,hyl⟩:=ygo _ hd;refine .inr ⟨hgo,by omega,fun x H2 hx=>?_⟩
  obtain⟨s2,rx⟩:=hyl x H2 hx;have rx':=rx A (fun a ha=>.inl ha) (hA.same sm)
  rw[Fp hlt]at hc;have sm2:=sm.trans s2;rcases Za hc with ⟨h1,h2⟩|⟨y,r,h1,h2,h3,h4⟩
  ·obtain⟨ρ',ea,ec⟩:=JW h1;refine hGG A ρ σ' H2 x ds[i] ρ' _ (g'.same s2) rx' ea fun σ3 g3 g4=>⟨hA.same sm2,ρ',g3,?_⟩
   rw[ec];exact fun H3 s3=>by
    dsimp only;rw[AH (by decide)]
    exact⟨ds.length-(i+1),by omega,rfl,hlt,by omega,sm2.trans s3,g4.same s3,outs,rest,(rs.same s2).same s3,h2,e⟩
  ·obtain⟨ρ',ea,ec⟩:=JW h1;obtain⟨ρ2,ea2,ee⟩:=JW h2;rw[ea]at ea2;cases ea2;refine hGG A ρ σ' H2 x ds[i] ρ' _ (g'.same s2) rx' ea fun σ3 g3 g4=>⟨hA.same sm2,ρ',g3,?_⟩
   rw[ec];exact fun H3 s3=>by
    dsimp only;rw[Az rfl];refine⟨(hA.same sm2).same s3,ρ',g3.same s3,?_⟩;rw[ee];exact fun v H4 s4 r4=>⟨ds.length-(i+1),by omega,rfl,hlt,by rw[Cv,WH];omega,(sm2.trans s3).trans s4,(g4.same s3).same s4,outs++[y],r,(((rs.same s2).same s3).same s4).append ⟨r4,trivial⟩,h3,by rw[e,h4];simp⟩
 ·have hk':ds.length<=i:=by omega
  rw[Ww hk']at hc;have hr:rest=[]:=by cases hc;rfl
  subst hr;rw[Dy]at e;subst e;exact .inl ⟨yst hk',fun p hp=>q xs H' sm rs p hp⟩
theorem E9.ok_of{r:R (Ac D)}{f:Ac D->R D}{Q':It->Hp->Prop}(h:Bx Rq W H (r.bind f) Q)(k:∀ ds J H',r=.ok ds->AO H H'->Jc K CL A ds J H'->ds.length<=sizeLine->Bx Rq W H' (f ds) Q->Q' J H'):E9 K CL A W H r Q':=by
 cases r with
 |ok d=>exact fun J H2 s2 y z=>k d J H2 rfl s2 y z (Bx.same s2 h)
 |exn x=>exact h
 |bad=>exact h
theorem pN{r:R α}{a:α}(h:noX r=.ok a):r=.ok a:=by
 cases r with
 |ok b=>exact h
 |exn x=>cases h
 |bad=>cases h
theorem SF(hGG:GG X.K CL ts as g)(hA:AOk H A)(gd:Good X.K CL A ρ σ H)(p:Bx (EH X.K CL Aa H A) W H ((fi ρ).bind fun xs=>(noX (BJ (fun x=>(as x ρ).bind fc) (fun x=>(as x ρ).bind fe) xs)).bind fun ys=>.ok (.lst ys)) Q):E9 X.K CL A W H (fi ρ) (fun J H1=>LP J ts g (fun σ H Q=>AOk H A/\∃ ρ,Good X.K CL A ρ σ H/\Dr W0 H (fc ρ) Q) (fun σ H Q=>AOk H A/\∃ ρ,Good X.K CL A ρ σ H/\Bx (fun H=>Rep X.K CL H A) W0 H (fe ρ) Q) σ H1 Q):=
 E9.ok_of p fun ds J H1 e1 s1 yl hz p1=>by
  cases e2:noX (BJ (fun x=>(as x ρ).bind fc) (fun x=>(as x ρ).bind fe) ds) with
  |ok ys=>
   rw[e2]at p1;exact aL hGG (hA.same s1) (gd.same s1) yl hz (pN e2) fun xs H2 s2 rs q hq=>p1 _ _ (s2.trans (F9 hq _)) (JX (s1.trans s2) ((hA.same s1).same s2) hq rs)
  |exn x=>rw[e2]at p1;cases hq:BJ (fun x=>(as x ρ).bind fc) (fun x=>(as x ρ).bind fe) ds<;>rw[hq]at e2<;>cases e2
  |bad=>rw[e2]at p1;exact p1.elim
theorem dJ(hc:X.calm=Aa)(B:BlockOk X scope N' ts)(hi:SI X CL W tg iter fi)(hGG:GG X.K CL ts as g)(hg:∀ cl C s H fp,PG (cxC X scope cl C N' s H fp) tg g)(ht:∀ cl C s H fp,STs (cxC X scope cl C N' s H fp) CL ifs fc)(he:∀ cl C s H fp,SE (cxC X scope cl C N' s H fp) CL W0 elt fe)(hs:∀ x,Dj iter X.env x=pure x):SC X CL W Aa (.ListComp elt [⟨tg,iter,ifs,0⟩] scope pos) (fun ρ=>(fi ρ).bind fun xs=>(noX (BJ (fun x=>(as x ρ).bind fc) (fun x=>(as x ρ).bind fe) xs)).bind fun ys=>.ok (.lst ys)):=fun A pI s σ H Q I ⟨hA,ρ,gd,p⟩=>
 gA hc B (hi A) hg (fun cl C s H fp=>ht cl C s H fp A) (fun cl C s H fp=>he cl C s H fp A) hs pI s σ H Q I ⟨hA,ρ,gd,SF hGG hA gd p⟩
end
section
variable{K:Fg}{CL:ClA}{Fz:Ak->HO->Prop}{B:Ak->Prop}{ρ:Rho}{σ:L2.St}{H H':Hp}
theorem Sx.setF(x:Sx K CL Fz B ρ σ H)(s:AO H H'){ds:Ac D}(h0:H a=Af)(h1:H' a=Ab (.lst xs))(r:Reps K CL H' (fun b=>CQ B ρ σ b\/b=a) xs ds):Sx K CL Fz B (ρ.set i (Ab (.lst ds,Aa))) (σ.set i (Ab (.ref a))) H':=by
 have nA:¬ CQ B ρ σ a:=x.aok.new h0;have own:∀(j:Ag)(e:D),(ρ.set i (Ab (.lst ds,Aa)))[j]?=Ab (Ab (e,Aa))->(i=j/\e=.lst ds)\/(i≠j/\ρ[j]?=Ab (Ab (e,Aa))):=fun j e h=>by
  by_cases hj:i=j
  ·subst hj;have:=HH h;cases this;exact .inl ⟨rfl,rfl⟩
  ·exact .inr ⟨hj,by rw[Di hj]at h;exact h⟩
 have atI:∀{j:Ag}{y:Sl},(ρ.set i (Ab (.lst ds,Aa)))[j]?=Ab y->i=j->(σ.set i (Ab (.ref a)))[j]?=Ab (Ab (.ref a)):=fun {j y} h e=>by
  subst e;have hl:i<σ.length:=by
   rw[<-x.len];have:=(Ba.mp h).1;simpa using this
  rw[Dl hl]
 have sub:∀ b,CQ B (ρ.set i (Ab (.lst ds,Aa))) (σ.set i (Ab (.ref a))) b->CQ B ρ σ b\/b=a:=fun b h=>by
  rcases h with h|⟨j,e,h1,h2⟩
  ·exact .inl (.inl h)
  ·rcases own j e h1 with ⟨hj,_⟩|⟨hj,h1'⟩
   ·rw[atI h1 hj]at h2;cases h2;exact .inr rfl
   ·rw[Di hj]at h2;exact .inl (.inr ⟨j,e,h1',h2⟩)
 have wide:∀{v:V}{d:D},Rep K CL H (CQ B ρ σ) v d->Rep K CL H' (CQ B (ρ.set i (Ab (.lst ds,Aa))) (σ.set i (Ab (.ref a)))) v d:=fun r=>(Rep.wide (fun b hb=>(sub b hb).imp id fun e=>by rw[e];exact h0) _ r).same s
 have wides:∀{v:Ac V}{d:Ac D},Reps K CL H (CQ B ρ σ) v d->Reps K CL H' (CQ B (ρ.set i (Ab (.lst ds,Aa))) (σ.set i (Ab (.ref a)))) v d:=fun r=>(Reps.wide (fun b hb=>(sub b hb).imp id fun e=>by rw[e];exact h0) _ r).same s
 refine⟨⟨fun j e h=>?_,fun j e h=>?_,by rw[Bq,Bq];exact x.len⟩,fun b h=>?_,fun j e b g1 g2=>?_,fun j k e f b g1 g2 g3 g4=>?_,fun b o z=>s _ _ (x.same b o z),by rw[Bq,Bq];exact x.len⟩
 ·have hj:i≠j:=by
   rintro rfl;have:=HH h;cases this
  rw[Di hj]at h;obtain⟨w',q,rw'⟩:=x.good.sh j e h;exact⟨w',by rw[Di hj];exact q,wide rw'⟩
 ·rcases own j e h with ⟨hj,rfl⟩|⟨hj,h'⟩
  ·have q:=atI h hj;exact⟨a,xs,ds,q,rfl,.inr ⟨j,_,h,q⟩,h1,Reps.sub sub _ r⟩
  ·obtain⟨b,ys,es,q,z,ha,hh,rr⟩:=x.good.ow j e h';have q':(σ.set i (Ab (.ref a)))[j]?=Ab (Ab (.ref b)):=by rw[Di hj];exact q
   exact⟨b,ys,es,q',z,.inr ⟨j,e,h,q'⟩,s _ _ hh,wides rr⟩
 ·rcases sub b h with z|z
  ·obtain⟨ys,q⟩:=x.aok b z;exact⟨ys,s _ _ q⟩
  ·rw[z];exact⟨xs,h1⟩
 ·rcases own j e g1 with ⟨hj,_⟩|⟨hj,h'⟩
  ·rw[atI g1 hj]at g2;cases g2;refine⟨fun o z=>?_,fun z=>nA (.inl z)⟩
   have:=x.same a o z;rw[h0]at this;cases this
  ·rw[Di hj]at g2;exact x.new j e b h' g2
 ·rcases own j e g1 with ⟨hj,_⟩|⟨hj,h'⟩
  ·rw[atI g1 hj]at g3;cases g3;rcases own k f g2 with ⟨hk,_⟩|⟨hk,h''⟩
   ·exact hj.symm.trans hk
   ·rw[Di hk]at g4;exact absurd (.inr ⟨k,f,h'',g4⟩) nA
  ·rw[Di hj]at g3;rcases own k f g2 with ⟨hk,_⟩|⟨hk,h''⟩
   ·rw[atI g2 hk]at g4;cases g4;exact absurd (.inr ⟨j,e,h',g3⟩) nA
   ·rw[Di hk]at g4;exact x.dis j k e f b h' h'' g3 g4
theorem Sx.upd(x:Sx K CL Fz B ρ σ H){i:Ag}{d:D}{a:Ak}{xs:Ac V}{ds:Ac D}(hi:ρ[i]?=Ab (Ab (d,Aa)))(ha:σ[i]?=Ab (Ab (.ref a)))(r:Reps K CL H (CQ B ρ σ) xs ds):Sx K CL Fz B (ρ.set i (Ab (.lst ds,Aa))) σ (L2.upd H a (.lst xs)):=by
 have oa:CQ B ρ σ a:=.inr ⟨i,d,hi,ha⟩;have hil:i<ρ.length:=(Ba.mp hi).1;have get:∀(j:Ag)(e:D),(ρ.set i (Ab (.lst ds,Aa)))[j]?=Ab (Ab (e,Aa))↔(i=j/\e=.lst ds)\/(i≠j/\ρ[j]?=Ab (Ab (e,Aa))):=fun j e=>by
  by_cases hj:i=j
  ·subst hj;rw[Dl hil];simp;exact⟨fun z=>z.symm,fun z=>z.symm⟩
  ·rw[Di hj];simp[hj]
 have same:∀ b,CQ B (ρ.set i (Ab (.lst ds,Aa))) σ b↔CQ B ρ σ b:=fun b=>by
  constructor
  ·rintro (h|⟨j,e,h1,h2⟩)
   ·exact .inl h
   ·rcases (get j e).mp h1 with ⟨rfl,_⟩|⟨_,h1⟩
    ·exact .inr ⟨i,d,hi,h2⟩
    ·exact .inr ⟨j,e,h1,h2⟩
  ·rintro (h|⟨j,e,h1,h2⟩)
   ·exact .inl h
   ·by_cases hj:i=j
    ·subst hj;exact .inr ⟨i,.lst ds,(get i _).mpr (.inl ⟨rfl,rfl⟩),h2⟩
    ·exact .inr ⟨j,e,(get j e).mpr (.inr ⟨hj,h1⟩),h2⟩
 have kp:Kp (CQ B ρ σ) H (L2.upd H a (.lst xs)):=fun b o e na=>by
  have hne:b≠a:=by
   rintro rfl;exact na oa
  rw[Ds hne];exact e
 refine⟨⟨fun j e h=>?_,fun j e h=>?_,by rw[Bq];exact x.len⟩,fun b h=>?_,fun j e b g1 g2=>?_,fun j k e f b g1 g2 g3 g4=>?_,fun b o z=>?_,by rw[Bq];exact x.len⟩
 ·have hj:i≠j:=by
   rintro rfl;have:=HH h;cases this
  rw[Di hj]at h;obtain⟨w',q,rw'⟩:=x.good.sh j e h;exact⟨w',q,Rep.sub (fun b hb=>(same b).mp hb) _ (Rep.kp kp _ rw')⟩
 ·rcases (get j e).mp h with ⟨rfl,rfl⟩|⟨hj,h'⟩
  ·exact⟨a,xs,ds,ha,rfl,(same a).mpr oa,Jv,Reps.sub (fun b hb=>(same b).mp hb) _ (Reps.kp kp _ r)⟩
  ·obtain⟨b,ys,es,q,z,hb,hh,rr⟩:=x.good.ow j e h';have hne:b≠a:=fun z=>hj (x.dis i j d e a hi h' ha (z ▸ q))
   exact⟨b,ys,es,q,z,(same b).mpr hb,by rw[Ds hne];exact hh,Reps.sub (fun b hb=>(same b).mp hb) _ (Reps.kp kp _ rr)⟩
 ·obtain⟨ys,q⟩:=x.aok b ((same b).mp h);by_cases e:b=a
  ·rw[e];exact⟨xs,Jv⟩
  ·exact⟨ys,by rw[Ds e];exact q⟩
 ·rcases (get j e).mp g1 with ⟨rfl,_⟩|⟨_,h'⟩
  ·exact x.new i d b hi g2
  ·exact x.new j e b h' g2
 ·rcases (get j e).mp g1 with ⟨rfl,_⟩|⟨hj,h'⟩
  ·rcases (get k f).mp g2 with ⟨rfl,_⟩|⟨hk,h''⟩
   ·rfl
   ·exact x.dis i k d f b hi h'' g3 g4
  ·rcases (get k f).mp g2 with ⟨rfl,_⟩|⟨hk,h''⟩
   ·exact x.dis j i e d b h' hi g3 g4
   ·exact x.dis j k e f b h' h'' g3 g4
 ·have hne:b≠a:=fun e=>(x.new i d a hi ha).1 o (e ▸ z)
  rw[Ds hne];exact x.same b o z
theorem Sx.rel(x:Sx K CL Fz B ρ σ H)(hi:ρ[i]?=Ab (Ab (d,Aa))):Sx K CL Fz B (ρ.set i (Ab (d,Ad))) σ H:=by
 obtain⟨a,xs,ds,q,rfl,oa,hh,rr⟩:=x.good.ow i d hi;have own:∀(j:Ag)(e:D),(ρ.set i (Ab (.lst ds,Ad)))[j]?=Ab (Ab (e,Aa))->i≠j/\ρ[j]?=Ab (Ab (e,Aa)):=fun j e h=>by
  by_cases hj:i=j
  ·subst hj;have:=HH h;cases this
  ·exact⟨hj,by rw[Di hj]at h;exact h⟩
 have sub:∀ b,CQ B (ρ.set i (Ab (.lst ds,Ad))) σ b->CQ B ρ σ b:=fun b h=>by
  rcases h with h|⟨j,e,h1,h2⟩
  ·exact .inl h
  ·exact .inr ⟨j,e,(own j e h1).2,h2⟩
 have na:¬ CQ B (ρ.set i (Ab (.lst ds,Ad))) σ a:=fun h=>by
  rcases h with h|⟨j,e,h1,h2⟩
  ·exact(x.new i _ a hi q).2 h
  ·obtain⟨hj,h1⟩:=own j e h1;exact hj (x.dis i j _ e a hi h1 q h2)
 refine⟨⟨fun j e h=>?_,fun j e h=>?_,by rw[Bq];exact x.len⟩,fun b h=>x.aok b (sub b h),fun j e b g1 g2=>x.new j e b (own j e g1).2 g2,fun j k e f b g1 g2 g3 g4=>x.dis j k e f b (own j e g1).2 (own k f g2).2 g3 g4,x.same,by rw[Bq];exact x.len⟩
 ·by_cases hj:i=j
  ·subst hj;have e1:=HH h;cases e1;exact⟨_,q,a,xs,rfl,.inl na,SqL.of hh,Reps.sub sub _ rr⟩
  ·rw[Di hj]at h;obtain⟨w',q',rw'⟩:=x.good.sh j e h;exact⟨w',q',Rep.sub sub _ rw'⟩
 ·obtain⟨hj,h'⟩:=own j e h;obtain⟨b,ys,es,q',z,hb,hh',rr'⟩:=x.good.ow j e h';exact⟨b,ys,es,q',z,.inr ⟨j,e,h,q'⟩,hh',Reps.sub sub _ rr'⟩
end
section
variable{X:Cx}{CL:ClA}{W:XW}{pos:Bk}{e:At}{fe:Rho->R D}{fr:Ao}
theorem CP.exC{f:D->O}(x:Sx X.K CL Fz B ρ σ H)(h:CP X.K CL Fz B W (O.of ρ r f) D')(k:∀ d v H',r=.ok d->AO H H'->EH X.K CL fr H A H' v d->Sx X.K CL Fz B ρ σ H'->CP X.K CL Fz B W (f d) D'->Q v H'):Bx (EH X.K CL fr H A) W H r Q:=by
 cases r with
 |ok d=>exact fun v H' s r=>k d v H' rfl s r (x.grow s) h
 |exn y=>exact fun H' s=>h H' fun b o z=>s _ _ (x.same b o z)
 |bad=>exact h
def SAs(X:Cx)(CL:ClA)(W:XW)(fr:Ao)(i:Ag)(st:Cj)(f:Rho->R D):Prop:=∀ A,PS X st (Nu (fun σ H Q=>AOk H A/\∃ ρ,Good X.K CL A ρ σ H/\Bx (EH X.K CL fr H A) W H (f ρ) Q) (Fk i))
theorem SC.sas{n:Al}(hN:X.N.Nodup)(hi:X.N[i]?=Ab n)(hx:Loc X.env.scope n)(he:SC X CL W fr e fe)(hs:DS e (Ab (.Name n pos')) pos.line X.env=pure Ad)(hf:X.fn n=Aa\/X.env.scope.names.lookup n=Ab .local):SAs X CL W fr i (.Assign [.Name n pos'] e pos) fe:=
 fun A=>mR hN hi hx (he A) hs hf
theorem cU{n:Al}{fe:Rho->R D}{g:TG}(hc:X.calm=Aa)(B:BlockOk X scope N' ts)(hi:SI X CL W tg iter fi)(hGG:GG X.K CL ts as g)(hg:∀ cl C s H fp,PG (cxC X scope cl C N' s H fp) tg g)(ht:∀ cl C s H fp,STs (cxC X scope cl C N' s H fp) CL ifs fc)(he:∀ cl C s H fp,SE (cxC X scope cl C N' s H fp) CL W0 elt fe)(hs:∀ x,Dj iter X.env x=pure x)(hN:X.N.Nodup)(hni:X.N[i]?=Ab n)(hx:X.env.scope.names.lookup n=Ab .local)(hsw:DS (.ListComp elt [⟨tg,iter,ifs,0⟩] scope pos) (Ab (.Name n pos')) pos2.line X.env=pure Aa):SAs X CL W Aa i (.Assign [.Name n pos'] (.ListComp elt [⟨tg,iter,ifs,0⟩] scope pos) pos2) (fun ρ=>(fi ρ).bind fun xs=>(noX (BJ (fun x=>(as x ρ).bind fc) (fun x=>(as x ρ).bind fe) xs)).bind fun ys=>.ok (.lst ys)):=fun A pI s σ H Dn I ⟨hA,ρ,gd,p⟩=>
 iR hc B (hi A) hg (fun cl C s H fp=>ht cl C s H fp A) (fun cl C s H fp=>he cl C s H fp A) hs hN hni hx hsw pI s σ H Dn I ⟨hA,ρ,gd,SF hGG hA gd p⟩
theorem Ve{st:Cj}(h:SAs X CL W fr i st fe):SS X CL W st (fun ρ=>O.of ρ (fe ρ) fun d=>.next (ρ.set i (Ab (d,Ad)))):=fun Fz B pI s σ H D I ⟨ρ,x,p⟩=>
 h (CQ B ρ σ) pI s σ H D I ⟨x.aok,ρ,x.good,CP.exC x p fun d v H' _ s r x' q=>q _ H' (x'.set i r.1)⟩
theorem eR{st:Cj}(h:SAs X CL W Aa i st fe):SS X CL W st (fun ρ=>O.of ρ (fe ρ) fun d=>setF ρ i d):=fun Fz B pI s σ H D I ⟨ρ,x,p⟩=>
 h (CQ B ρ σ) pI s σ H D I ⟨x.aok,ρ,x.good,CP.exC x p fun d v H' _ s r x' q=>by
  cases d with
  |lst ds=>
   obtain⟨a,xs,rfl,h0,h1,rs⟩:=r.2 rfl ds rfl;exact q _ H' (x.setF s h0 h1 rs)
  |dic ds=>exact r.1.elim
  | _=>exact q.elim⟩
theorem eK(he:SC X CL W Aa e fe):SS X CL W (.Return (Ab e) pos) (fun ρ=>O.of ρ (fe ρ) fun d=>.ret d Aa):=fun Fz B pI s σ H D I ⟨ρ,x,p⟩=>
 PU (he (CQ B ρ σ)) pI s σ H D I ⟨x.aok,ρ,x.good,CP.exC x p fun d v H' _ s r x' q=>q v H' x'.same (Rep.sub (fun a h=>.inl h) _ r.1) fun _ ds e=>by
  obtain⟨a,xs,h0,h1,h2,h3⟩:=r.2 rfl ds e;refine⟨a,xs,h0,fun o z=>?_,h2,Reps.sub (fun b hb=>hb.imp .inl id) _ h3⟩
  have:=x.same a o z;rw[h1]at this;cases this⟩
noncomputable def QH(ρ:Rho)(i:Ag):Ao:=match ρ[i]? with
  |some (Ab (_,o))=>o
  |_=>Ad
theorem eI(he:PE X e (Jb i)):SS X CL W (.Return (Ab e) pos) (fun ρ=>O.of ρ (Ge ρ i) fun d=>.ret d (QH ρ i)):=fun Fz B pI s σ H D I ⟨ρ,x,p⟩=>
 PU he pI s σ H D I (by
  dsimp only at p;cases e:Ge ρ i with
  |bad=>rw[e]at p;exact p.elim
  |exn z=>exact(Tk e).elim
  |ok d=>
   rw[e]at p;obtain⟨o,e⟩:=Tu e;have eo:QH ρ i=o:=by unfold QH;rw[e]
   rw[O.of_ok,eo]at p;cases o with
   |false=>
    obtain⟨v,q,r⟩:=x.good.sh i d e;exact⟨v,q,p v H x.same (Rep.sub (fun a h=>.inl h) _ r) fun z=>nomatch z⟩
   |true=>
    obtain⟨a,xs,ds,q,rfl,ha,hh,r⟩:=x.good.ow i d e;obtain⟨n1,n2⟩:=x.new i _ a e q;refine⟨_,q,p _ H x.same ⟨a,xs,rfl,.inl n2,SqL.of hh,Reps.sub (fun a h=>.inl h) _ r⟩ fun _ ds' e'=>?_⟩
    cases e';exact⟨a,xs,rfl,n1,hh,Reps.sub (fun b hb=>hb.elim .inl fun z=>z ▸ ha) _ r⟩)
theorem MY{ds:Ac D}(h:Du ρ i=.ok ds):ρ[i]?=Ab (Ab (.lst ds,Aa)):=by
 unfold Du at h;split at h
 ·rename_i e;cases h;exact e
 ·cases h
theorem MD{x:Ex}(h:Du ρ i=.exn x):BK:=by
 unfold Du at h;split at h<;>cases h
variable{o:At}{i:Ag}{apos cpos:Bk}
theorem oF(ho:PE X o (Jb i))(he:SE X CL W e fe)(hbase:G6 o "append" X.env (eval o X.env)=eval o X.env)(hfew:((CU cpos (AM [e] X.env)).all (fun x=>!x.1)&&(JQ cpos (Ie [] X.env)).all (fun x=>x.1.isSome)&&decide ([e].length+([]:Ac Fe).length+(if ([]:Ac Fe).isEmpty then 0 else 1)<30))=Aa)(hline:(apos.endLine==cpos.line)=Aa)(hs:AM [e] X.env=[(Ad,eval e X.env)])(hsw:DS (.Call (.Attribute o "append" apos) [e] [] cpos) Af pos.line X.env=pure Ad):
  SS X CL W (.Expr (.Call (.Attribute o "append" apos) [e] [] cpos) pos) (fun ρ=>O.of ρ (Du ρ i) fun xs=>O.of ρ (fe ρ) fun d=>if DM (xs.length+1)=Aa then .next (ρ.set i (Ab (.lst (xs++[d]),Aa))) else .bad):=fun Fz B pI s σ H D I ⟨ρ,x,p⟩=>by
 refine MX (Qq FU PySem.F.slot_list_append PySem.F.type_list_append ZV ho (FH (he (CQ B ρ σ)) Hf hs) hbase hfew hline hs rfl) hsw pI s σ H D I ?_;dsimp only at p;cases e1:Du ρ i with
 |bad=>rw[e1]at p;exact p.elim
 |exn z=>exact(MD e1).elim
 |ok ds=>
  rw[e1,O.of_ok]at p;have hi:=MY e1;obtain⟨a,xs,ds',q,e2,ha,hh,r⟩:=x.good.ow i _ hi;cases e2;refine⟨_,q,.inl ⟨rfl,xs,SqL.of hh⟩,x.aok,ρ,x.good,CP.ex x p fun d v H' _ s rv x' q'=>?_⟩
  split at q'
  ·rename_i hz;refine⟨a,xs,v,rfl,rfl,s _ _ hh,?_,q' _ _ (x'.upd hi q ((r.same s).append ⟨rv,trivial⟩))⟩;have:=IM hz;rw[r.length];omega
  ·exact q'.elim
theorem oE(ho:PE X o (Jb i))(he:SC X CL W Aa e fe)(hbase:G6 o "extend" X.env (eval o X.env)=eval o X.env)(hfew:((CU cpos (AM [e] X.env)).all (fun x=>!x.1)&&(JQ cpos (Ie [] X.env)).all (fun x=>x.1.isSome)&&decide ([e].length+([]:Ac Fe).length+(if ([]:Ac Fe).isEmpty then 0 else 1)<30))=Aa)(hline:(apos.endLine==cpos.line)=Aa)(hs:AM [e] X.env=[(Ad,eval e X.env)])(hsw:DS (.Call (.Attribute o "extend" apos) [e] [] cpos) Af pos.line X.env=pure Ad):
  SS X CL W (.Expr (.Call (.Attribute o "extend" apos) [e] [] cpos) pos) (fun ρ=>O.of ρ (Du ρ i) fun xs=>O.of ρ (fe ρ) fun d=>O.of ρ (K4 d) fun ys=>if DM (xs.length+ys.length)=Aa then .next (ρ.set i (Ab (.lst (xs++ys),Aa))) else .bad):=fun Fz B pI s σ H D I ⟨ρ,x,p⟩=>by
 refine MX (Qq FU EZ Xy ZU ho (FH (he (CQ B ρ σ)) Hf hs) hbase hfew hline hs rfl) hsw pI s σ H D I ?_;dsimp only at p;cases e1:Du ρ i with
 |bad=>rw[e1]at p;exact p.elim
 |exn z=>exact(MD e1).elim
 |ok ds=>
  rw[e1,O.of_ok]at p;have hi:=MY e1;obtain⟨a,xs,ds',q,e2,ha,hh,r⟩:=x.good.ow i _ hi;cases e2;refine⟨_,q,.inl ⟨rfl,xs,SqL.of hh⟩,x.aok,ρ,x.good,CP.exC x p fun d v H' _ s rv x' q'=>?_⟩
  cases d with
  |lst es=>
   obtain⟨b,ys,rfl,h0,h1,rs⟩:=rv.2 rfl es rfl;rw[Se,O.of_ok]at q';split at q'
   ·rename_i hz;refine⟨a,b,xs,ys,rfl,rfl,s _ _ hh,h1,?_,q' _ _ (x'.upd hi q ((r.same s).append (Reps.sub (fun c hc=>.inl hc) _ rs)))⟩
    rw[r.length,rs.length];exact IM hz
   ·exact q'.elim
  |_=>exact q'.elim
theorem oD{k:At}{fk:Rho->R Ov.D}{spos:Bk}(ho:PE X o (Jb i))(hk:ST X CL W k fk)(he:SE X CL W e fe)(ha:∀ v,assign (.Subscript o k spos) X.env v=(do
      let ov <-holding [v] (eval o X.env)
      let iv <-holding [v,ov] (eval k X.env)
      JI spos
      holding [v,ov,iv] (setItem ov iv v)
      release [v,ov,iv] []))(hs:G9 [.Subscript o k spos] e pos.line X.env=pure Ad)(hw:F4 [.Subscript o k spos] e X.env=pure Af)(h1:(Cz [.Subscript o k spos] X.env).map (·.2)=[assign (.Subscript o k spos) X.env]):
    SS X CL W (.Assign [.Subscript o k spos] e pos) (fun ρ=>O.of ρ (fe ρ) fun d=>O.of ρ (Du ρ i) fun xs=>O.of ρ ((fk ρ).bind Fl) fun j=>match plD xs.length j with
      |some n=>.next (ρ.set i (Ab (.lst (xs.set n d),Aa)))
      | none=>.bad):=fun Fz B pI s σ H D I ⟨ρ,x,p⟩=>
  UL (he (CQ B ρ σ)) (qG ho (hk (CQ B ρ σ)) cQ ha) hs hw h1 pI s σ H D I ⟨x.aok,ρ,x.good,CP.ex x p fun d v H' _ s rv x' q'=>by
    cases e1:Du ρ i with
    |bad=>rw[e1]at q';exact q'.elim
    |exn z=>exact(MD e1).elim
    |ok ds=>
      rw[e1,O.of_ok]at q';have hi:=MY e1;obtain⟨a,xs,ds',q,e2,ha,hh,r⟩:=x'.good.ow i _ hi;cases e2;refine⟨_,q,x'.aok,ρ,x'.good,?_⟩;cases e3:fk ρ with
      |bad=>rw[e3]at q';exact q'.elim
      |exn z=>rw[e3]at q';exact fun H2 s2=>q' H2 fun b o z=>s2 _ _ (x'.same b o z)
      |ok dk=>
        rw[e3]at q';intro y H2 s2 ry;cases dk with
        |int j=>
          have ey:=ry.int_of;subst ey;rw[R.bind_ok,aJ,O.of_ok]at q';cases e4:plD ds.length j with
          |none=>rw[e4]at q';exact q'.elim
          |some n=>
            rw[e4]at q';refine⟨a,xs,j,n,rfl,rfl,s2 _ _ hh,?_,q' _ _ ((x'.grow s2).upd hi q (Reps.set (rv.same s2) n (r.same s2)))⟩;rw[r.length];exact e4
        | _=>exact q'.elim⟩
theorem eQ{as:Ov.D->Rho->R Rho}{g:TG}(hGT:GT X.K CL as g)(hg:PG X tg g)(he:SE X CL W e fe)(hs:G9 [tg] e pos.line X.env=pure Ad)(hw:F4 [tg] e X.env=pure Af)(h1:(Cz [tg] X.env).map (·.2)=[assign tg X.env])(hax:∀ d ρ x,as d ρ≠.exn x):SS X CL W (.Assign [tg] e pos) (fun ρ=>O.of ρ (fe ρ) fun d=>O.of ρ (as d ρ) fun ρ'=>.next ρ'):=fun Fz B pI s σ H D I ⟨ρ,x,p⟩=>
 UL (he (CQ B ρ σ)) hg hs hw h1 pI s σ H D I ⟨x.aok,ρ,x.good,CP.ex x p fun d v H' _ s rv x' q'=>by
  cases ea:as d ρ with
  |bad=>rw[ea]at q';exact q'.elim
  |exn z=>exact absurd ea (hax _ _ z)
  |ok ρ2=>
   rw[ea,O.of_ok]at q';exact hGT Fz B ρ σ H' v d ρ2 _ x' rv ea fun σ' x3=>q' σ' H' x3⟩
theorem eG{rest:Ac Cj}{f:Rho->O}(i:Ag)(h:SSs X CL W rest f):SSs X CL W rest (fun ρ=>(match ρ[i]? with
   |some (Ab (d,Aa))=>O.next (ρ.set i (Ab (d,Ad)))
   | _=>O.next ρ).seq f):=fun Fz B=>PSs.weak (h Fz B) fun D σ H ⟨ρ,x,p⟩=>by
 dsimp only at p;split at p
 ·rename_i d e;exact⟨_,x.rel e,p⟩
 ·exact⟨ρ,x,p⟩
end
section
variable{prog:A8}{w:AN}{A:Bu}{E:Vq}{s:Ap}
theorem pM{j t:Ak}{x:Ai}{Q:Vq}(st:s.heap.IsTupleIter j t k)(sq:s.heap.IsTuple t its)(at_:its[k]?=Ab x)(go:∀ h2,h2.IsTupleIter j t (k+1)->E0 j s.heap h2->Q x {s with heap:=h2}):AB (model prog w) A (A3 (.ref j)) Q E s:=by
 obtain⟨oj,gj,cj,dj⟩:=id st;obtain⟨ot,gt,_,nt,dt⟩:=sq;show AB _ _ (callSpecial? _ _ >>= _) _ _ _;refine Ah (Cf st.typeIs DY (CH DY st.typeIs Xq ?_ (Xl _)));show AB _ _ (field (.ref j) 0 >>= _) _ _ _;refine Ah (Bt gj dj (x:=.ref t) rfl ?_);show AB _ _ (field (.ref j) 1 >>= _) _ _ _;refine Ah (Bt gj dj (x:=.int k 0) rfl ?_);refine Ah (B7 gt dt ?_);simp only[Hm,at_];exact Ah (Yk gj dj (by simp) (Aw ⟨x,rfl,Aw (go _ ⟨_,Dv _ gj (Obj.isFreed_of_fields (XE dj _)),(Obj.cls_mapFields ..).trans cj,by rw[XE dj];simp[C5]⟩ (GL ..))⟩))
theorem ZT{j t:Ak}{Q:Vq}(calm:A.handled=Af)(st:s.heap.IsTupleIter j t k)(sq:s.heap.IsTuple t its)(at_:its[k]?=Af)(up:∀ h2 e,Ic j s.heap h2->(∃ o,h2.get? e=Ab o/\o.cls=.type "StopIteration")->E (.ref e) {s with heap:=h2}):AB (model prog w) A (A3 (.ref j)) Q E s:=by
 obtain⟨oj,gj,cj,dj⟩:=id st;obtain⟨ot,gt,_,nt,dt⟩:=sq;show AB _ _ (callSpecial? _ _ >>= _) _ _ _;refine Ah (Cf st.typeIs DY (CH DY st.typeIs Xq ?_ (Xl _)));show AB _ _ (field (.ref j) 0 >>= _) _ _ _;refine Ah (Bt gj dj (x:=.ref t) rfl ?_);show AB _ _ (field (.ref j) 1 >>= _) _ _ _;refine Ah (Bt gj dj (x:=.int k 0) rfl ?_);refine Ah (B7 gt dt ?_);simp only[Hm,at_];refine Ah (E5 (Ah (Yk gj dj (by simp) ?_)))
 refine Ah ?_;simp only[newExc,newTuple];refine Ah (CZ ?_ (by size_fits))
 refine Ah (m:=X2 _ _) (wpAny_of_eq (a:=.none) (by first|rfl|(simp only[X2];rfl)) (CZ ?_ (by size_fits)))
 simp only[raiseNew];refine Ah (wpAny_handled ?_)
 first|rw[show A.in1.handled=Af from calm]|rw[calm]
 exact Ah (Aw (wpAny_throw (up _ _ (((GL ..).extBut.push _).push _) ⟨_,AC _ rfl,rfl⟩)))
end
structure Dw (prog:A8) (w:AN) (A:Bu) (j:Ak) (fp:Ac Ak) (n:Ag) (P:Ag->Ai->Prop) (S:Ag->AS->Prop):Prop where
 frame:∀ i h h2,S i h->(∀ c∈fp,∀ o,h.get? c=Ab o->h2.get? c=Ab o)->S i h2
 item:∀ i (s:Ap) (Q:Vq) (E:Vq),i<n->S i s.heap->(∀ x h2 tk,P i x->S (i+1) h2->E0 j s.heap h2->Q x {s with heap:=h2,toks:=tk})->AB (model prog w) A (A3 (.ref j)) Q E s
 done:∀ i (s:Ap) (Q:Vq) (E:Vq),n<=i->S i s.heap->(∀ h2 e,Ic j s.heap h2->(∃ o,h2.get? e=Ab o/\o.cls=.type "StopIteration")->E (.ref e) {s with heap:=h2})->AB (model prog w) A (A3 (.ref j)) Q E s
def EQ(t:Ao)(h:AS)(j l:Ak)(i:Ag):Prop:=match t with
  |true=>h.IsTupleIter j l i
  |false=>h.IsListIter j l i
def Cn(t:Ao)(h:AS)(l:Ak)(its:AQ Ai):Prop:=match t with
  |true=>h.IsTuple l its
  |false=>h.IsList l its
theorem Io{A:Bu}(calm:A.handled=Af)(t:Ao)(j l:Ak)(ne:l≠j)(its:AQ Ai):Dw prog w A j [j,l] its.size (fun i v=>its[i]?=Ab v) (fun i h=>EQ t h j l i/\Cn t h l its):=by
 cases t with
 |true=>exact⟨fun _ _ _ z k=>⟨z.1.at fun o e=>k j (by simp) o e,z.2.at fun o e=>k l (by simp) o e⟩,fun i s Q E hi z q=>pM z.1 z.2 (x:=its[i]) (by simp[hi]) fun h2 z2 sb=>q _ h2 s.toks (by simp[hi]) ⟨z2,z.2.extBut sb.extBut ne⟩ sb,fun i s Q E hi z q=>ZT calm z.1 z.2 (by simp[hi]) q⟩
 |false=>exact⟨fun _ _ _ z k=>⟨z.1.at fun o e=>k j (by simp) o e,z.2.at fun o e=>k l (by simp) o e⟩,fun i s Q E hi z q=>wpAny_nextOf_list_item z.1 z.2 (x:=its[i]) (by simp[hi]) fun h2 z2 sb=>q _ h2 s.toks (by simp[hi]) ⟨z2,z.2.extBut sb.extBut ne⟩ sb,fun i s Q E hi z q=>wpAny_nextOf_list_end calm z.1 z.2 (by simp[hi]) q⟩
theorem nb1{I l c:Ag}(b:l<I)(h:c∈[I,l])(j:Ag):c≠I+(j+1):=by
 have h':c=I\/c=l:=by simpa using h
 omega
theorem nb2{I l c:Ag}(b:l<I)(h:c∈[I+1,l]):c≠I/\c≠I+3/\c≠I+4:=by
 have h':c=I+1\/c=l:=by simpa using h
 omega
theorem nij{I i j:Ag}(h:i≠j):I+i≠I+j:=by omega
theorem ni0{I i:Ag}(h:i≠0):I+i≠I:=by omega
section
variable{prog:A8}{w:AN}{A:Bu}{E:Vq}{s:Ap}
theorem aF{I l1 l2 n1 n2 k:Ag}{a b:Ai}{Q:Vq}(b1:l1<I)(b2:l2<I)(D1:Dw prog w A I [I,l1] n1 P1 S1)(D2:Dw prog w A (I+1) [I+1,l2] n2 P2 S2)(hz:Gr s.heap (I+4) (I+2) (I+3) .none)(hI:E1 s.heap (I+2) (.ref I) (.ref (I+1)))(hO:E1 s.heap (I+3) a b)(g1:S1 k s.heap)(g2:S2 k s.heap)(k1:k<n1)(k2:k<n2)(go:∀ x y h2 tk,P1 k x->P2 k y->Gr h2 (I+4) (I+2) (I+3) (C5 s.heap.objs.size)->E1 h2 (I+3) x y->S1 (k+1) h2->S2 (k+1) h2->E1 h2 s.heap.objs.size x y ->
   (∀ c o,c∉[I,I+1,I+3,I+4]->s.heap.get? c=Ab o->h2.get? c=Ab o)->Q (.ref s.heap.objs.size) {s with heap:=h2,toks:=tk}):AB (model prog w) A (Builtin.«zip.__next__» ⟨[.ref (I+4)],[]⟩) (fun fin s'=>∃ v,fin=.done (.ret v)/\Q v s') E s:=by
 refine Ah (m:=field (.ref (I+4)) 2) (Bt hz rfl (x:=.bool Ad) rfl ?_);refine Ah (m:=field (.ref (I+4)) 3) (Bt hz rfl (x:=.ref (I+2)) rfl (Ah (B7 hI rfl ?_)));refine Ah (m:=A4 (.ref (I+4))) ?_;simp only[A4];refine Ah (Bt hz rfl (x:=.none) rfl (Aw ?_));rw[Az rfl];refine Ah (E5 (Ah (Bt hz rfl (x:=.ref (I+3)) rfl (Ah (Cb hz (by simp) fun p1 z1 e1=>Ah ?_)))))
 have z1':Gr p1 (I+4) (I+2) (I+3) .ellipsis:=z1;simp only[F6,Gn,DW,DJ];refine Ah (Ah (DE (Ah (m:=A3 (.ref I)) (D1.item k _ _ _ k1 (D1.frame _ _ _ g1 fun c hc o q=>e1.extBut c o (nb1 b1 hc 3) q) fun x p2 t2 px s2 e2=>Aw ?_))))
 have o2:E1 p2 (I+3) a b:=e2.extBut _ _ (ni0 (by decide)) (e1.extBut _ _ (nij (by decide)) hO)
 refine Ah (B7 o2 rfl (Ah (Gz o2 fun p3 o3 e3=>Ah (F0 (Aw ?_)))))
 have o3':E1 p3 (I+3) x b:=o3;have g2':S2 k p3:=D2.frame _ _ _ g2 fun c hc o q=>e3.extBut c o (nb2 b2 hc).2.1 (e2.extBut c o (nb2 b2 hc).1 (e1.extBut c o (nb2 b2 hc).2.2 q))
 refine Ah (Ah (DE (Ah (m:=A3 (.ref (I+1))) (D2.item k _ _ _ k2 g2' fun y p4 t4 py s4 e4=>Aw ?_))))
 have o4:E1 p4 (I+3) x b:=e4.extBut _ _ (nij (by decide)) o3'
 refine Ah (B7 o4 rfl (Ah (Gz o4 fun p5 o5 e5=>Ah (F0 (Aw (Aw ?_))))))
 have o5':E1 p5 (I+3) x y:=o5;have sz:p5.objs.size=s.heap.objs.size:=by rw[e5.1,e4.1,e3.1,e2.1,e1.1]
 have z5:Gr p5 (I+4) (I+2) (I+3) .ellipsis:=e5.extBut _ _ (nij (by decide)) (e4.extBut _ _ (nij (by decide)) (e3.extBut _ _ (nij (by decide)) (e2.extBut _ _ (ni0 (by decide)) z1')))
 refine Ah (B7 o5' rfl (Ah (GP ?_)));refine Ah (m:=C9 (.ref (I+4)) (.ref p5.objs.size)) ?_;simp only[C9];have z6:Gr (p5.push { cls:=.type "tuple", data:=.seq #[x,y] }) (I+4) (I+2) (I+3) .ellipsis:=As _ z5;refine Ah (Cb z6 (by simp) fun p7 z7 e7=>?_)
 have z7':Gr p7 (I+4) (I+2) (I+3) (C5 p5.objs.size):=z7;refine Cb z7' (by simp) fun p8 z8 e8=>Aw ⟨_,rfl,?_⟩
 have z8':Gr p8 (I+4) (I+2) (I+3) (C5 p5.objs.size):=z8;have lt5:I+4<p5.objs.size:=AG z5;have up:∀ c o,c≠I+4->p5.get? c=Ab o->p8.get? c=Ab o:=fun c o nc q=>e8.extBut _ _ nc (e7.extBut _ _ nc (As _ q))
 have t8:E1 p8 p5.objs.size x y:=e8.extBut _ _ (CT lt5) (e7.extBut _ _ (CT lt5) (AC _ rfl));have a1:S1 (k+1) p8:=D1.frame _ _ _ s2 fun c hc o q=>up c o (nb1 b1 hc 3) (e5.extBut c o (nb1 b1 hc 2) (e4.extBut c o (nb1 b1 hc 0) (e3.extBut c o (nb1 b1 hc 2) q)))
 have a2:S2 (k+1) p8:=D2.frame _ _ _ s4 fun c hc o q=>up c o (nb2 b2 hc).2.2 (e5.extBut c o (nb2 b2 hc).2.1 q)
 have kp:∀ c o,c∉[I,I+1,I+3,I+4]->s.heap.get? c=Ab o->p8.get? c=Ab o:=fun c o nc q=>by
  simp only[Ax,AX,B8,D9]at nc;exact up c o nc.2.2.2 (e5.extBut c o nc.2.2.1 (e4.extBut c o nc.2.1 (e3.extBut c o nc.2.2.1 (e2.extBut c o nc.1 (e1.extBut c o nc.2.2.2 q)))))
 have q:=go x y p8 t4 px py (by rw[<-sz];exact z8') (up _ _ (nij (by decide)) o5') a1 a2 (by rw[<-sz];exact t8) kp
 rw[<-sz]at q;exact q
theorem eZ{I l1 l2 n1 n2 k:Ag}{a b:Ai}{Q:Fin->Ap->Prop}(b1:l1<I)(b2:l2<I)(D1:Dw prog w A I [I,l1] n1 P1 S1)(D2:Dw prog w A (I+1) [I+1,l2] n2 P2 S2)(hz:Gr s.heap (I+4) (I+2) (I+3) .none)(hI:E1 s.heap (I+2) (.ref I) (.ref (I+1)))(hO:E1 s.heap (I+3) a b)(g1:S1 k s.heap)(g2:S2 k s.heap)(hk:n1<=k\/(k<n1/\n2<=k))(up:∀ h2 e tk,(∀ c o,c∉[I,I+1,I+3,I+4]->s.heap.get? c=Ab o->h2.get? c=Ab o)->(∃ o,h2.get? e=Ab o/\o.cls=.type "StopIteration")->E (.ref e) {s with heap:=h2,toks:=tk}):AB (model prog w) A (Builtin.«zip.__next__» ⟨[.ref (I+4)],[]⟩) Q E s:=by
 refine Ah (m:=field (.ref (I+4)) 2) (Bt hz rfl (x:=.bool Ad) rfl ?_);refine Ah (m:=field (.ref (I+4)) 3) (Bt hz rfl (x:=.ref (I+2)) rfl (Ah (B7 hI rfl ?_)));refine Ah (m:=A4 (.ref (I+4))) ?_;simp only[A4];refine Ah (Bt hz rfl (x:=.none) rfl (Aw ?_));rw[Az rfl];refine Ah (E5 (Ah (Bt hz rfl (x:=.ref (I+3)) rfl (Ah (Cb hz (by simp) fun p1 z1 e1=>Ah ?_)))))
 have z1':Gr p1 (I+4) (I+2) (I+3) .ellipsis:=z1;simp only[F6,Gn,DW,DJ];have g1':S1 k p1:=D1.frame _ _ _ g1 fun c hc o q=>e1.extBut c o (nb1 b1 hc 3) q
 rcases hk with k1|⟨k1,k2⟩
 ·refine Ah (Ah (DE (Ah (m:=A3 (.ref I)) (D1.done _ _ _ _ k1 g1' fun p2 e e2 he=>?_))))
  obtain⟨oe,hoe,hce⟩:=he;have z2:Gr p2 (I+4) (I+2) (I+3) .ellipsis:=e2 _ _ (ni0 (by decide)) z1'
  have ne:e≠I+4:=fun x=>by subst x;rw[z2]at hoe;cases hoe;simp at hce
  refine Cb z2 (by simp) fun p3 _ e3=>up p3 e s.toks (fun c o nc q=>?_) ⟨oe,e3.extBut _ _ ne hoe,hce⟩
  simp only[Ax,AX,B8,D9]at nc;exact e3.extBut c o nc.2.2.2 (e2 c o nc.1 (e1.extBut c o nc.2.2.2 q))
 ·refine Ah (Ah (DE (Ah (m:=A3 (.ref I)) (D1.item k _ _ _ k1 g1' fun x p2 t2 px s2 e2=>Aw ?_))))
  have o2:E1 p2 (I+3) a b:=e2.extBut _ _ (ni0 (by decide)) (e1.extBut _ _ (nij (by decide)) hO)
  refine Ah (B7 o2 rfl (Ah (Gz o2 fun p3 o3 e3=>Ah (F0 (Aw ?_)))))
  have g2':S2 k p3:=D2.frame _ _ _ g2 fun c hc o q=>e3.extBut c o (nb2 b2 hc).2.1 (e2.extBut c o (nb2 b2 hc).1 (e1.extBut c o (nb2 b2 hc).2.2 q))
  refine Ah (Ah (DE (Ah (m:=A3 (.ref (I+1))) (D2.done _ _ _ _ k2 g2' fun p4 e e4 he=>?_))))
  obtain⟨oe,hoe,hce⟩:=he;have z4:Gr p4 (I+4) (I+2) (I+3) .ellipsis:=e4 _ _ (nij (by decide)) (e3.extBut _ _ (nij (by decide)) (e2.extBut _ _ (ni0 (by decide)) z1'))
  have ne:e≠I+4:=fun x=>by subst x;rw[z4]at hoe;cases hoe;simp at hce
  refine Cb z4 (by simp) fun p5 _ e5=>up p5 e t2 (fun c o nc q=>?_) ⟨oe,e5.extBut _ _ ne hoe,hce⟩
  simp only[Ax,AX,B8,D9]at nc;exact e5.extBut c o nc.2.2.2 (e4 c o nc.2.1 (e3.extBut c o nc.2.2.1 (e2.extBut c o nc.1 (e1.extBut c o nc.2.2.2 q))))
end
def SqX(t:Ao)(K:Fg)(H:Hp)(a:Ak)(xs:Ac V):Prop:=match t with
  |true=>SqT K H a xs
  |false=>SqL K H a xs
theorem Hg(I:Inv X pI σ H s)(h:SqX t X.K H a xs):∃ its:Ac Ai,Br xs its/\Cn t s.heap a its.toArray/\xs.length<=sizeLine:=by
 cases t with
 |true=>
  obtain⟨its,rv,p,z⟩:=I.tuple h;exact⟨its,rv,p,z⟩
 |false=>
  obtain⟨its,rv,p,z⟩:=I.list h;exact⟨its,rv,p.isList,z⟩
theorem Of{ys:Ac V}(I:Inv X pI σ H s)(h:SqX t X.K H a xs)(h2:SqX t X.K H a ys):xs=ys:=by
 cases t with
 |true=>exact I.tuple_inj h h2
 |false=>exact I.list_inj h h2
noncomputable def Itz(K:Fg)(t1 t2:Ao)(a b:Ak):It:=
  ⟨fun i H=>∃ xs ys x y,SqX t1 K H a xs/\SqX t2 K H b ys/\xs[i]?=Ab x/\ys[i]?=Ab y,
   fun i H v H'=>∃ p x y,H p=Af/\v=.ref p/\(∀ xs,SqX t1 K H a xs->xs[i]?=Ab x)/\(∀ ys,SqX t2 K H b ys->ys[i]?=Ab y)/\H'=upd H p (.tup [x,y]),
   fun i H=>∃ xs ys,SqX t1 K H a xs/\SqX t2 K H b ys/\(xs.length<=i\/(i<xs.length/\ys.length<=i))⟩
theorem Inv.turnedL(ch:Ac Ak)(I:Inv X pI σ H s)(k:∀ b o,b∉ch->s.heap.get? b=Ab o->h'.get? b=Ab o)(hf:∀ b∈ch,GY X pI H b):Inv X pI σ H {s with heap:=h',toks:=t'}:=by
 have nit:∀ b u,H b=Ab u->b∉ch:=fun b u e z=>by rw[(hf b z).1]at e;cases e
 refine I.step (g':=s.gens) (d':=s.drawn) (ch:=ch) (fun b hb=>⟨(hf b hb).2.2.2.1,(hf b hb).2.1,(hf b hb).2.2.2.2.1,(hf b hb).2.2.2.2.2⟩) (fun b o _ _ hc e _=>k b o hc e) (fun b o _ _ hc e _=>⟨o.slots,k b o hc e⟩) (fun _ _ _ _ n=>n)
  (fun b o hc e=>⟨o,k b o hc e⟩) (fun _ _ e=>e) (fun _ _ _ e=>e) (fun b ps e=>⟨#[],by rw[e];simp⟩) (fun m ⟨o,es,ep,ho,r⟩=>⟨o,es,ep,k _ o (fun z=>(hf _ z).2.1 rfl) ho,r⟩) (fun b u e=>(I.hok b u e).stay (fun c v hc q=>k c v ?_ q) (fun _ q=>q) fun _ _ q=>q) I.bare
 rcases hc with z|z
 ·rw[z];exact nit b u e
 ·exact nit c _ z
def zTn(t1 t2:Ao)(I l1 l2:Ag)(i:Ag)(h:AS):Prop:=Gr h (I+4) (I+2) (I+3) .none/\E1 h (I+2) (.ref I) (.ref (I+1))/\(∃ a b,E1 h (I+3) a b)/\EQ t1 h I l1 i/\EQ t2 h (I+1) l2 i
noncomputable def zFp(I:Ag):Ac Ak:=[I,I+1,I+2,I+3,I+4]
theorem EQ.obj{j:Ak}(z:EQ t h j l i):∃ o,h.get? j=Ab o/\∀ v,o.data≠.cell v:=by
 cases t with
 |true=>obtain⟨o,e,c,d⟩:=z;exact⟨o,e,fun v z=>by rw[d]at z;cases z⟩
 |false=>obtain⟨o,e,c,d⟩:=z;exact⟨o,e,fun v z=>by rw[d]at z;cases z⟩
theorem EQ.at'{j:Ak}(z:EQ t h j l i)(k:∀ o,h.get? j=Ab o->h2.get? j=Ab o):EQ t h2 j l i:=by
 cases t with
 |true=>exact PySem.Heap.IsTupleIter.at z k
 |false=>exact PySem.Heap.IsListIter.at z k
theorem cJ(t1 t2:Ao)(I l1 l2:Ag)(b1:l1<I)(b2:l2<I):Turn P w K (.Tuple es n pos) (Itz K t1 t2 l1 l2) (zFp I) (I+4) (zTn t1 t2 I l1 l2) where
  mem:=by simp[zFp]
  obj:=fun i h ⟨z1,z2,⟨a,b,z3⟩,z4,z5⟩ c hc=>by
    simp only[zFp,Ax,AX,B8]at hc;rcases hc with rfl|rfl|rfl|rfl|rfl
    · exact z4.obj
    · exact z5.obj
    · exact⟨_,z2,fun v z=>by cases z⟩
    · exact⟨_,z3,fun v z=>by cases z⟩
    · exact⟨_,z1,fun v z=>by cases z⟩
  keep:=fun i h h2 ⟨z1,z2,⟨a,b,z3⟩,z4,z5⟩ k=>⟨k _ (by simp[zFp]) _ z1,k _ (by simp[zFp]) _ z2,⟨a,b,k _ (by simp[zFp]) _ z3⟩,z4.at' fun o e=>k _ (by simp[zFp]) o e,z5.at' fun o e=>k _ (by simp[zFp]) o e⟩
  item:=by
    intro X hP hw hK hc i pI s σ H E Iv hf ⟨z1,z2,⟨a,b,z3⟩,z4,z5⟩ ⟨xs,ys,x,y,q1,q2,hx,hy⟩;subst hP hw hK;obtain⟨us,rx,sx,_⟩:=Hg Iv q1;obtain⟨vs,ry,sy,_⟩:=Hg Iv q2;obtain⟨u,hu,ru⟩:=rx.get hx;obtain⟨v,hv,rv⟩:=ry.get hy;have hT:s.TypeIs (.ref (I+4)) "zip" := ⟨_,z1,rfl⟩;have calm:X.A.in1.handled=Af:=Iv.ok.hd hc;show AB _ _ (D7 _) _ _ _;simp only[D7];refine Ah (Fd (Cf hT Cy (CH Cy hT Ep (aF (k:=i) b1 b2 (Io calm t1 I l1 (A1 b1) us.toArray) (Io calm t2 (I+1) l2 (A1 (CY b2)) vs.toArray) z1 z2 z3 ⟨z4,sx⟩ ⟨z5,sy⟩
      (by have:=(Ba.mp hu).1;simpa using this) (by have:=(Ba.mp hv).1;simpa using this) fun x' y' h2 tk px py c1 c2 c3 c4 c5 kp=>Aw ?_) (D6 _))))
    have ex:x'=u:=by
      have px':us[i]?=Ab x':=by simpa using px
      rw[hu]at px';exact(BV px').symm
    have ey:y'=v:=by
      have py':vs[i]?=Ab y':=by simpa using py
      rw[hv]at py';exact(BV py').symm
    subst ex ey;refine⟨_,rfl,wpAny_letOwnedTupleGo_zip c1 fun h3 d1 sb=>?_⟩
    have lt4:I+4<s.heap.objs.size:=AG z1;have kp3:∀ c o,c∉zFp I->s.heap.get? c=Ab o->h3.get? c=Ab o:=fun c o nc q=>by
      simp only[zFp,Ax,AX,B8,D9]at nc;exact sb.extBut c o nc.2.2.2.2 (kp c o (by simp only[Ax,AX,B8,D9];exact⟨nc.1,nc.2.1,nc.2.2.2.1,nc.2.2.2.2⟩) q)
    have nT:∀ c∈zFp I,c≠s.heap.objs.size:=fun c hc z=>by
      have:c<=I+4:=by
        simp only[zFp,Ax,AX,B8]at hc;rcases hc with z|z|z|z|z<;>rw[z]<;>simp
      exact absurd (z ▸ BS this lt4) (Bw _)
    have I1:Inv X pI σ (upd H s.heap.objs.size (.tup [x,y])) { s with heap:=s.heap.push { cls:=.type "tuple", data:=.seq #[x',y'] },toks:=s.toks }:=
      Iv.laid (fun _ _ q=>As _ q) (AU _) ⟨(by decide:2<=sizeLine),[x',y'],.cons ru (.cons rv .nil),⟨_,AC _ rfl,rfl,_,rfl⟩⟩
    have hf':∀ b∈zFp I,GY X pI (upd H s.heap.objs.size (.tup [x,y])) b:=fun b hb=>⟨by rw[Ds (nT b hb)];exact(hf b hb).1,(hf b hb).2⟩
    have I2:Inv X pI σ (upd H s.heap.objs.size (.tup [x,y])) {s with heap:=h3,toks:=tk}:=Inv.turnedL (s:={ s with heap:=s.heap.push { cls:=.type "tuple", data:=.seq #[x',y'] },toks:=s.toks }) (zFp I) I1 (fun c o nc q=>by
      rcases XD q with ⟨e1,e2⟩|e1
      · subst e1 e2;exact sb.extBut _ _ (CT lt4) c5
      · exact kp3 c o nc e1) hf'
    refine⟨.ref s.heap.objs.size,_,I2,rfl,⟨s.heap.objs.size,x,y,Iv.fresh,rfl,fun zs hz=>by rw[Of Iv hz q1];exact hx,fun zs hz=>by rw[Of Iv hz q2];exact hy,rfl⟩,⟨d1,sb.extBut _ _ (nij (by decide)) (kp _ _ (by simp) z2),⟨_,_,sb.extBut _ _ (nij (by decide)) c2⟩,c3.1.at' fun o q=>sb.extBut _ o (DK (ni0 (by decide))) q,c4.1.at' fun o q=>sb.extBut _ o (nij (by decide)) q⟩,fun b hb=>(hf' b hb).1⟩
  done:=by
    intro X hP hw hK hc i pI s σ H E Iv hf ⟨z1,z2,⟨a,b,z3⟩,z4,z5⟩ ⟨xs,ys,q1,q2,hk⟩;subst hP hw hK;obtain⟨us,rx,sx,_⟩:=Hg Iv q1;obtain⟨vs,ry,sy,_⟩:=Hg Iv q2;have hT:s.TypeIs (.ref (I+4)) "zip" := ⟨_,z1,rfl⟩;have calm:X.A.in1.handled=Af:=Iv.ok.hd hc;have e1:=rx.length;have e2:=ry.length;simp only[D7];refine Ah (Fd (Cf hT Cy (CH Cy hT Ep (eZ (k:=i) b1 b2 (Io calm t1 I l1 (A1 b1) us.toArray) (Io calm t2 (I+1) l2 (A1 (CY b2)) vs.toArray) z1 z2 z3 ⟨z4,sx⟩ ⟨z5,sy⟩
      (by simp only[AE];omega) fun h2 e tk kp he=>?_) (D6 _))))
    obtain⟨o,ho,hcl⟩:=he;refine Ah (Ye (T := "StopIteration") (b:=Aa) ⟨o,ho,hcl⟩ X3 (Aw ⟨rfl,Inv.turnedL [I,I+1,I+3,I+4] Iv (fun c o nc q=>kp c o nc q) fun c hc=>hf c ?_⟩))
    simp only[Ax,AX,B8]at hc;simp only[zFp,Ax,AX,B8];rcases hc with rfl|rfl|rfl|rfl<;>simp
  self:=fun _ _ _ _ _ st h=>Yh st.1 h
section
variable{prog:A8}{w:AN}{A:Bu}{E:Vq}{s:Ap}
noncomputable def itO(t:Ao)(l:Ak):DB:=match t with
  |true=>{ cls:=.type "tuple_iterator", data:=.fields #[.ref l,.int 0 0] }
  |false=>{ cls:=.type "list_iterator", data:=.fields #[.ref l,.int 0 0] }
theorem Jz{Q:Vq}(h:Cn t s.heap l its)(q:Q (.ref s.heap.objs.size) {s with heap:=s.heap.push (itO t l)}):AB (model prog w) A (Ks (.ref l)) Q E s:=by
 cases t with
 |true=>exact FF h q
 |false=>exact D8 h q
theorem Cn.push(z:Cn t h l its)(o:DB):Cn t (h.push o) l its:=by
 cases t with
 |true=>exact PySem.Heap.IsTuple.at z fun _ e=>As _ e
 |false=>exact PySem.Heap.IsList.at z fun _ e=>As _ e
theorem KY{j:Ak}(e:h.get? j=Ab (itO t l)):EQ t h j l 0:=by
 cases t with
 |true=>exact⟨_,e,rfl,rfl⟩
 |false=>exact⟨_,e,rfl,rfl⟩
theorem KC(t:Ao)(l:Ak):(itO t l).isFreed=Ad:=by cases t<;>rfl
noncomputable abbrev zh2(t1 t2:Ao)(h:AS)(l1 l2:Ak):AS:=(h.push (itO t1 l1)).push (itO t2 l2)
noncomputable abbrev zh3(t1 t2:Ao)(h:AS)(l1 l2:Ak):AS:=(zh2 t1 t2 h l1 l2).push { cls:=.type "tuple", data:=.seq #[.ref h.objs.size,.ref (h.push (itO t1 l1)).objs.size] }
noncomputable abbrev zh4(t1 t2:Ao)(h:AS)(l1 l2:Ak):AS:=(zh3 t1 t2 h l1 l2).push { cls:=.type "tuple", data:=.seq #[.none,.none] }
noncomputable abbrev zh5(t1 t2:Ao)(h:AS)(l1 l2:Ak):AS:=(zh4 t1 t2 h l1 l2).push { cls:=.type "zip", data:=.fields #[.none,.bool Ad,.bool Ad,.ref (zh2 t1 t2 h l1 l2).objs.size,.ref (zh3 t1 t2 h l1 l2).objs.size] }
theorem eY(t1 t2:Ao)(l1 l2:Ak)(xs ys:AQ Ai):Kj (Builtin.«zip.__new__» ⟨[.type "zip", .ref l1,.ref l2],[]⟩) (fun _ R s=>Cn t1 s.heap l1 xs/\Cn t2 s.heap l2 ys/\R (.ok (.ret (.ref (zh4 t1 t2 s.heap l1 l2).objs.size))) {s with heap:=zh5 t1 t2 s.heap l1 l2}):=
 .of_wp fun prog w A R s h=>by
  obtain⟨hp,g,d,tk,os⟩:=s;obtain⟨a1,a2,q⟩:=h;have hsub:=sub_zip;have L1:Cn t1 (FY ⟨hp,g,d,tk,os⟩) l1 xs:=a1;have L2:Cn t2 (FY ⟨hp.push (itO t1 l1),g,d,tk,os⟩) l2 ys:=a2.push _
  wp_walk using Jz L1,Jz L2
  exact⟨_,rfl,q⟩
theorem aG{t1 t2:Ao}{l1 l2:Ak}{xs:AQ Ai}{Q:Vq}(a1:Cn t1 s.heap l1 xs)(a2:Cn t2 s.heap l2 ys)(q:∀ h2,zTn t1 t2 s.heap.objs.size l1 l2 0 h2->(∀ c o,s.heap.get? c=Ab o->h2.get? c=Ab o)->Q (.ref (s.heap.objs.size+4)) {s with heap:=h2}):AB (model prog w) A (call (.type "zip") [.ref l1,.ref l2]) Q E s:=by
 refine Jo Xm (by decide) (F.typeCall_zip_2 _ _) (F.newCall_zip_2 _ _) (fun obj=>F.args_object_init_3 obj _ _) Xr (eY t1 t2 l1 l2 xs ys) ⟨a1,a2,?_⟩
 have s1:(s.heap.push (itO t1 l1)).objs.size=s.heap.objs.size+1:=BM ..;have s2:(zh2 t1 t2 s.heap l1 l2).objs.size=s.heap.objs.size+2:=by rw[BM,s1]
 have s3:(zh3 t1 t2 s.heap l1 l2).objs.size=s.heap.objs.size+3:=by rw[BM,s2]
 have s4:(zh4 t1 t2 s.heap l1 l2).objs.size=s.heap.objs.size+4:=by rw[BM,s3]
 have u5:∀ {c o},(zh4 t1 t2 s.heap l1 l2).get? c=Ab o->(zh5 t1 t2 s.heap l1 l2).get? c=Ab o:=fun e=>As _ e
 have u4:∀ {c o},(zh3 t1 t2 s.heap l1 l2).get? c=Ab o->(zh5 t1 t2 s.heap l1 l2).get? c=Ab o:=fun e=>u5 (As _ e)
 have u3:∀ {c o},(zh2 t1 t2 s.heap l1 l2).get? c=Ab o->(zh5 t1 t2 s.heap l1 l2).get? c=Ab o:=fun e=>u4 (As _ e)
 have u2:∀ {c o},(s.heap.push (itO t1 l1)).get? c=Ab o->(zh5 t1 t2 s.heap l1 l2).get? c=Ab o:=fun e=>u3 (As _ e)
 have g5:(zh5 t1 t2 s.heap l1 l2).get? (zh4 t1 t2 s.heap l1 l2).objs.size=Ab _:=AC _ rfl;have g4:(zh5 t1 t2 s.heap l1 l2).get? (zh3 t1 t2 s.heap l1 l2).objs.size=Ab _:=u5 (AC _ rfl);have g3:(zh5 t1 t2 s.heap l1 l2).get? (zh2 t1 t2 s.heap l1 l2).objs.size=Ab _:=u4 (AC _ rfl);have g2:(zh5 t1 t2 s.heap l1 l2).get? (s.heap.push (itO t1 l1)).objs.size=Ab _:=u3 (AC _ (KC _ _));have g1:(zh5 t1 t2 s.heap l1 l2).get? s.heap.objs.size=Ab _:=u2 (AC _ (KC _ _));show _/\_;rw[s2,s3,s4]at g5;rw[s3]at g4;rw[s1,s2]at g3;rw[s1]at g2;rw[s4];exact⟨⟨_,g5,rfl⟩,q _ ⟨g5,g3,⟨_,_,g4⟩,KY g1,KY g2⟩ fun c o e=>u2 (As _ e)⟩
end
def Yw(K:Fg)(ta:TA):TI:=fun σ H R=>ta σ H fun vs H1=>∃ t1 t2 a b xs ys,vs=[.ref a,.ref b]/\SqX t1 K H1 a xs/\SqX t2 K H1 b ys/\(xs.length<=sizeLine->R (Itz K t1 t2 a b) H1)
theorem Cn.lt(z:Cn t h a its):a<h.objs.size:=by
 cases t with
 |true=>obtain⟨o,e,_⟩:=z;exact AG e
 |false=>obtain⟨o,e,_⟩:=z;exact AG e
theorem qE{a b:At}(hg:Gl X "zip")(hm:X.mg "zip" = Af)(ha:PA X [a,b] ta)(hs:AM [a,b] X.env=[(Ad,eval a X.env),(Ad,eval b X.env)])(hs2:AM [b] X.env=[(Ad,eval b X.env)]):
  PI X (.Tuple es n tpos) (.Call (.Name "zip" p) [a,b] [] pos) (Yw X.K ta):=by
 intro pI s σ H R I h;refine ID (HJ I hg hm W6 (B9 (thn (ha pos pI s σ H _ I h) fun us s1 ⟨vs,H1,I1,r1,q1⟩=>?_) (by rw[hs,hs2]) (by rw[hs2];rfl)))
 obtain⟨t1,t2,c,d,xs,ys,e,sx,sy,q⟩:=q1;subst e;cases r1 with
 |cons r rr=>
  cases rr with
  |cons r' rr=>
   cases rr;cases r;cases r';obtain⟨us,ru,iu,zu⟩:=Hg I1 sx;obtain⟨vs,rv,iv,_⟩:=Hg I1 sy;refine aG iu iv fun h2 z kp=>Yh z.1 ?_
   refine⟨s1.heap.objs.size+4,zFp s1.heap.objs.size,_,_,H1,rfl,I1.kept (t':=s1.toks) kp,cJ t1 t2 s1.heap.objs.size c d iu.lt iv.lt,z,fun b hb=>?_,q zu⟩
   have hb':s1.heap.objs.size<=b:=by
    simp only[zFp,Ax,AX,B8]at hb;rcases hb with z|z|z|z|z<;>rw[z]<;>simp
   exact I1.fpOk hb' (I1.hok.fresh hb')
theorem K2{ds:Ac D}(r:Rep K CL H A v d)(e:Cc d=.ok ds):∃ t a xs,v=.ref a/\(∀ H2,Kp A H H2->SqX t K H2 a xs)/\Reps K CL H A xs ds:=by
 cases d with
 |lst es=>
  cases e;obtain⟨q,xs,rfl,na,sq,r⟩:=r;exact⟨Ad,q,xs,rfl,fun H2 k=>Nb k na sq,r⟩
 |tup es=>
  cases e;obtain⟨q,xs,rfl,na,sq,r⟩:=r;exact⟨Aa,q,xs,rfl,fun H2 k=>Na k na sq,r⟩
 |_=>cases e
theorem OZ:∀(xs ys:Ac D),(Fm xs ys).length=min xs.length ys.length
 |[],_=>by simp[Fm]
 |_::_,[]=>by simp[Fm]
 |x::xs,y::ys=>by
  rw[Fm,Cm,OZ xs ys];simp only[Cm];omega
theorem Ti:∀(xs ys:Ac D)(i:Ag)(d:D),(Fm xs ys)[i]?=Ab d->∃ x y,xs[i]?=Ab x/\ys[i]?=Ab y/\d=.tup [x,y]
 |[],_,i,d,h=>by simp[Fm]at h
 |_::_,[],i,d,h=>by simp[Fm]at h
 |x::xs,y::ys,0,d,h=>by
  rw[Fm]at h;simp only[EE,Ch]at h;exact⟨x,y,rfl,rfl,h.symm⟩
 |x::xs,y::ys,i+1,d,h=>by
  rw[Fm]at h;simp only[ED]at h ⊢;exact Ti xs ys i d h
theorem cB{t1 t2:Ao}{ys:Ac V}{ds es:Ac D}(s1:∀ H2,Kp A H1 H2->SqX t1 K H2 a xs)(s2:∀ H2,Kp A H1 H2->SqX t2 K H2 b ys)(r1:Reps K CL H1 A xs ds)(r2:Reps K CL H1 A ys es) :Jc K CL A (Fm ds es) (Itz K t1 t2 a b) H1:=fun H k i=>by
 refine⟨fun hi=>⟨xs,ys,s1 H k,s2 H k,?_⟩,fun d hd=>?_⟩
 ·rw[OZ]at hi;rw[r1.length,r2.length];omega
 ·obtain⟨x,y,hx,hy,rfl⟩:=Ti _ _ _ _ hd;obtain⟨u,hu,ru⟩:=r1.get hx;obtain⟨v,hv,rv⟩:=r2.get hy;refine⟨⟨xs,ys,u,v,s1 H k,s2 H k,hu,hv⟩,?_⟩;rintro w' H' ⟨p,x',y',hp,rfl,c1,c2,rfl⟩;have ex:x'=u:=BV ((c1 xs (s1 H k)).symm.trans hu);have ey:y'=v:=BV ((c2 ys (s2 H k)).symm.trans hv);subst ex ey;have sm:=F9 hp (.tup [x',y']);exact⟨sm,fun B hB aB=>KI aB hp ⟨LG ru k hB,LG rv k hB,trivial⟩⟩
section
variable{X:Cx}{CL:ClA}{W:XW}{pos p:Bk}{a b:At}{fa fb:Rho->R D}
theorem oN(ha:SE X CL W a fa)(hb:SE X CL W b fb)(hg:Gl X "zip")(hm:X.mg "zip" = Af)(hs:AM [a,b] X.env=[(Ad,eval a X.env),(Ad,eval b X.env)])(hs2:AM [b] X.env=[(Ad,eval b X.env)]):
  SI X CL W (.Tuple es n tpos) (.Call (.Name "zip" p) [a,b] [] pos) (fun ρ=>(fa ρ).bind fun x=>(fb ρ).bind fun y=>(Cc x).bind fun xs=>(Cc y).bind fun ys=>.ok (Fm xs ys)):=
 fun A=>PI.weak (qE hg hm (FH (ha A) (FH (hb A) Hf hs2) (by rw[hs,hs2])) hs hs2) fun σ H R ⟨hA,ρ,g,q⟩=>⟨hA,ρ,g,E9.ex q fun d v H1 _ s1 r1 p1=>⟨hA.same s1,ρ,g.same s1,E9.ex p1 fun d2 v2 H2 _ s2 r2 p2=>by
  cases e1:Cc d with
  |bad=>rw[e1]at p2;exact p2.elim
  |exn z=>exact absurd e1 (by cases d<;>simp[Cc])
  |ok ds=>
   cases e2:Cc d2 with
   |bad=>rw[e1,e2]at p2;exact p2.elim
   |exn z=>exact absurd e2 (by cases d2<;>simp[Cc])
   |ok es=>
    rw[e1,e2]at p2;obtain⟨t1,c1,xs,rfl,k1,rs1⟩:=K2 (r1.same s2) e1;obtain⟨t2,c2,ys,rfl,k2,rs2⟩:=K2 r2 e2;refine⟨t1,t2,c1,c2,xs,ys,rfl,k1 H2 (Kp.of (AO.refl H2)),k2 H2 (Kp.of (AO.refl H2)),fun hz=>p2 _ H2 (AO.refl H2) (cB k1 k2 rs1 rs2) ?_⟩
    rw[OZ,<-rs1.length];omega⟩⟩
end
theorem EQ.live{l:Ag}(z:EQ t h j l i):∃ o,h.get? j=Ab o/\∀ v,o.data≠.cell v:=by
 cases t with
 |true=>obtain⟨o,e,c,d⟩:=z;exact⟨o,e,fun v z=>by rw[d]at z;cases z⟩
 |false=>obtain⟨o,e,c,d⟩:=z;exact⟨o,e,fun v z=>by rw[d]at z;cases z⟩
theorem EQ.keep{l:Ag}(z:EQ t h j l i)(k:∀ o,h.get? j=Ab o->h2.get? j=Ab o):EQ t h2 j l i:=by
 cases t with
 |true=>exact PySem.Heap.IsTupleIter.at z k
 |false=>exact PySem.Heap.IsListIter.at z k
theorem sI{A:Bu}(calm:A.handled=Af)(t:Ao)(j l:Ak)(ne:l≠j)(its:AQ Ai):Draws prog w A j [j,l] its.size (fun i v=>its[i]?=Ab v) (fun i h=>EQ t h j l i/\Cn t h l its):=
 have d:=Io (prog:=prog) (w:=w) calm t j l ne its
 ⟨fun i h z=>let ⟨o,e,_⟩:=z.1.live;⟨o,e⟩,d.frame,d.item,fun s Q E h q=>d.done _ s Q E (AU _) h q⟩
theorem jC{A:Bu}(calm:A.handled=Af)(t:Ao)(j l:Ak)(ne:l≠j)(its:AQ Ai)(i:Ag)(hi:its.size<=i):Draws prog w A j [j,l] i (fun _ _=>BK) (fun k h=>k=i/\EQ t h j l i/\Cn t h l its):=
 have d:=Io (prog:=prog) (w:=w) calm t j l ne its
 ⟨fun _ h z=>let ⟨o,e,_⟩:=z.2.1.live;⟨o,e⟩,fun k h h' z q=>⟨z.1,d.frame i h h' z.2 q⟩,fun k s Q E lt z=>absurd z.1 (A1 lt),fun s Q E h q=>d.done i s Q E hi h.2 q⟩
noncomputable def Ite(K:Fg)(t:Ao)(a:Ak):It:=
 ⟨fun i H=>∃ xs x,SqX t K H a xs/\xs[i]?=Ab x,fun i H v H'=>∃ p x,H p=Af/\v=.ref p/\(∀ xs,SqX t K H a xs->xs[i]?=Ab x)/\H'=upd H p (.tup [.int i,x]),fun i H=>∃ xs,SqX t K H a xs/\xs.length<=i⟩
def eTn(t:Ao)(I l:Ag)(i:Ag)(h:AS):Prop:=(∃ old,IsEnum h (I+1) I i old)/\EQ t h I l i
theorem Zs(t:Ao)(I l:Ag)(b:l<I):Turn P w K (.Tuple es n pos) (Ite K t l) [I,I+1] (I+1) (eTn t I l) where
  mem:=by simp
  obj:=fun i h ⟨⟨old,z1⟩,z2⟩ c hc=>by
    simp only[Ax,AX,B8]at hc;rcases hc with rfl|rfl
    · exact z2.live
    · exact⟨_,z1,fun v z=>by cases z⟩
  keep:=fun i h h2 ⟨⟨old,z1⟩,z2⟩ k=>⟨⟨old,k _ (by simp) _ z1⟩,z2.keep fun o e=>k _ (by simp) o e⟩
  item:=by
    intro X hP hw hK hc i pI s σ H E Iv hf ⟨⟨old,z1⟩,z2⟩ ⟨xs,x,q1,hx⟩;subst hP hw hK;obtain⟨us,rx,px,_⟩:=Hg Iv q1;obtain⟨u,hu,ru⟩:=rx.get hx;have lu:i<us.toArray.size:=by
      have:=(Ba.mp hu).1;simpa using this
    refine wpAny_pyNext_enum_itemD (sI (A:=X.A.in1) (Iv.ok.hd hc) t I l (A1 b) us.toArray) z1 ⟨z2,px⟩ lu (ni0 (by decide)) (by simp only[Ax,AX,B8,D9];exact⟨ni0 (by decide),CT (AD b (Eo _ _))⟩) fun u' h2 tk hu' ho it2 hT sz kp=>⟨_,rfl,wpAny_letOwnedTupleGo_enum ho fun h3 d1 sb=>?_⟩
    have eu:u'=u:=by
      rw[WD,hu]at hu';exact(BV hu').symm
    subst eu;have lt:I+1<s.heap.objs.size:=AG z1;have kp3:∀ c o,c∉[I,I+1]->s.heap.get? c=Ab o->h3.get? c=Ab o:=fun c o nc q=>by
      simp only[Ax,AX,B8,D9]at nc;exact sb.extBut c o nc.2 (kp c o nc.2 nc.1 q)
    have nT:∀ c∈[I,I+1],c≠s.heap.objs.size:=fun c hc z=>by
      have:c<=I+1:=by
        simp only[Ax,AX,B8]at hc;rcases hc with z|z<;>rw[z]<;>simp
      exact absurd (z ▸ BS this lt) (Bw _)
    have I1:Inv X pI σ (upd H s.heap.objs.size (.tup [.int i,x])) { s with heap:=s.heap.push { cls:=.type "tuple", data:=.seq #[.int i tk,u'] },toks:=s.toks }:=
      Iv.laid (fun _ _ q=>As _ q) (AU _) ⟨(by decide:2<=sizeLine),[.int i tk,u'],.cons ⟨_,rfl⟩ (.cons ru .nil),⟨_,AC _ rfl,rfl,_,rfl⟩⟩
    have hf':∀ b∈[I,I+1],GY X pI (upd H s.heap.objs.size (.tup [.int i,x])) b:=fun b hb=>⟨by rw[Ds (nT b hb)];exact(hf b hb).1,(hf b hb).2⟩
    have I2:Inv X pI σ (upd H s.heap.objs.size (.tup [.int i,x])) {s with heap:=h3,toks:=tk+1}:=Inv.turnedL (s:={ s with heap:=s.heap.push { cls:=.type "tuple", data:=.seq #[.int i tk,u'] },toks:=s.toks }) [I,I+1] I1 (fun c o nc q=>by
      rcases XD q with ⟨e1,e2⟩|e1
      · subst e1 e2;exact sb.extBut _ _ (CT lt) hT
      · exact kp3 c o nc e1) hf'
    exact⟨.ref s.heap.objs.size,_,I2,rfl,⟨s.heap.objs.size,x,Iv.fresh,rfl,fun zs hz=>by rw[Of Iv hz q1];exact hx,rfl⟩,⟨⟨u',by simpa using d1⟩,it2.1.keep fun o q=>sb.extBut _ o (DK (ni0 (by decide))) q⟩,fun b hb=>(hf' b hb).1⟩
  done:=by
    intro X hP hw hK hc i pI s σ H E Iv hf ⟨⟨old,z1⟩,z2⟩ ⟨xs,q1,hk⟩;subst hP hw hK;obtain⟨us,rx,px,_⟩:=Hg Iv q1;have e1:=rx.length;have e2:us.toArray.size<=i:=by rw[AE,<-e1];exact hk
    refine wpAny_pyNext_enum_endD (jC (A:=X.A.in1) (Iv.ok.hd hc) t I l (A1 b) us.toArray i e2) z1 ⟨rfl,z2,px⟩ fun h2 eb=>⟨rfl,Inv.turnedL [I] Iv (t':=s.toks) (fun c o nc q=>eb c o (fun z=>nc (by simp[z])) q) fun c hc=>hf c ?_⟩
    have:c=I:=by simpa using hc
    subst this;simp
  self:=fun _ _ _ _ _ st h=>Yg st.1.choose_spec h
section
variable{prog:A8}{w:AN}{A:Bu}{E:Vq}{s:Ap}
theorem aW(t:Ao)(l:Ak)(xs:AQ Ai):Kj (Builtin.«enumerate.__new__» ⟨[.type "enumerate", .ref l],[]⟩) (fun _ R s=>Cn t s.heap l xs /\
   R (.ok (.ret (.ref (s.heap.push (itO t l)).objs.size))) { s with heap:=(s.heap.push (itO t l)).push { cls:=.type "enumerate", data:=.fields #[.none,.bool Ad,.ref s.heap.objs.size,C5 0,.none,.none] } }):=
 .of_wp fun prog w A R s h=>by
  obtain⟨hp,g,d,tk,os⟩:=s;obtain⟨hl,h⟩:=h;have hsub:=sub_enumerate;have hL:Cn t (FY ⟨hp,g,d,tk,os⟩) l xs:=hl
  wp_walk
  refine wpAny_stack_any fun st=>Aw ?_
  split
  ·rename_i c _ _ _ _ _;cases (c==DO "enumerate")
   ·wp_walk using Jz hL
    exact⟨_,rfl,h⟩
   ·wp_walk using Jz hL
    exact⟨_,rfl,h⟩
  ·wp_walk using Jz hL
   exact⟨_,rfl,h⟩
theorem ZR{xs:AQ Ai}{Q:Vq}(hL:Cn t s.heap l xs)(h:∀ h',IsEnum h' (s.heap.objs.size+1) s.heap.objs.size 0 .none->EQ t h' s.heap.objs.size l 0->(∀ b o,s.heap.get? b=Ab o->h'.get? b=Ab o)->Q (.ref (s.heap.objs.size+1)) {s with heap:=h'}):
    AB (model prog w) A (call (.type "enumerate") [.ref l]) Q E s:=by
  refine Jo F.called_enumerate (by decide) (F.typeCall_enumerate_1 _) (F.newCall_enumerate_1 _) (fun obj=>Xj obj _) F.entry_enumerate_new (aW t l xs) ⟨hL,?_⟩
  have hz:(s.heap.push (itO t l)).objs.size=s.heap.objs.size+1:=BM ..;show _/\_;rw[hz];have he:IsEnum ((s.heap.push (itO t l)).push { cls:=.type "enumerate", data:=.fields #[.none,.bool Ad,.ref s.heap.objs.size,C5 0,.none,.none] }) (s.heap.objs.size+1) s.heap.objs.size 0 .none:=by
    have:=AC (s.heap.push (itO t l)) (o:={ cls:=.type "enumerate", data:=.fields #[.none,.bool Ad,.ref s.heap.objs.size,C5 0,.none,.none] }) rfl;rw[hz]at this;exact this
  exact⟨⟨_,he,rfl⟩,h _ he (KY (As _ (AC _ (KC _ _)))) fun b o x=>As _ (As _ x)⟩
end
def Yx(K:Fg)(ta:TA):TI:=fun σ H R=>ta σ H fun vs H1=>∃ t a xs,vs=[.ref a]/\SqX t K H1 a xs/\(xs.length<=sizeLine->R (Ite K t a) H1)
theorem fY{a:At}(hg:Gl X "enumerate")(hm:X.mg "enumerate" = Af)(ha:PA X [a] ta)(hs:AM [a] X.env=[(Ad,eval a X.env)]):
  PI X (.Tuple es n tpos) (.Call (.Name "enumerate" p) [a] [] pos) (Yx X.K ta):=by
 intro pI s σ H R I h;refine ID (HJ I hg hm PyProof.Rows.boot_enumerate (B9 (thn (ha pos pI s σ H _ I h) fun us s1 ⟨vs,H1,I1,r1,q1⟩=>?_) hs rfl))
 obtain⟨t,c,xs,e,sx,q⟩:=q1;subst e;cases r1 with
 |cons r rr=>
  cases rr;cases r;obtain⟨us,ru,pu,zu⟩:=Hg I1 sx;refine ZR pu fun h2 z1 z2 kp=>Yg z1 ?_
  refine⟨s1.heap.objs.size+1,[s1.heap.objs.size,s1.heap.objs.size+1],_,_,H1,rfl,I1.kept (t':=s1.toks) kp,Zs t s1.heap.objs.size c pu.lt,⟨⟨_,z1⟩,z2⟩,fun b hb=>?_,q zu⟩
  have hb':s1.heap.objs.size<=b:=by
   simp only[Ax,AX,B8]at hb;rcases hb with z|z<;>rw[z]<;>simp
  exact I1.fpOk hb' (I1.hok.fresh hb')
theorem OT:∀(j:Ae)(xs:Ac D),(Hl j xs).length=xs.length
 |_,[]=>rfl
 |j,x::xs=>by rw[Hl,Cm,OT,Cm]
theorem Te:∀(xs:Ac D)(j:Ae)(i:Ag)(d:D),(Hl j xs)[i]?=Ab d->∃ x,xs[i]?=Ab x/\d=.tup [.int (j+i),x]
 |[],j,i,d,h=>by simp[Hl]at h
 |x::xs,j,0,d,h=>by
  rw[Hl]at h;simp only[EE,Ch]at h;exact⟨x,rfl,by rw[<-h];simp⟩
 |x::xs,j,i+1,d,h=>by
  rw[Hl]at h;simp only[ED]at h ⊢;obtain⟨y,h1,h2⟩:=Te xs (j+1) i d h;exact⟨y,h1,by rw[h2];congr 3;omega⟩
theorem Zq{ds:Ac D}(sq:∀ H2,Kp A H1 H2->SqX t K H2 a xs)(r1:Reps K CL H1 A xs ds):Jc K CL A (Hl 0 ds) (Ite K t a) H1:=fun H k i=>by
 have s1:=sq H k;refine⟨fun hi=>⟨xs,s1,?_⟩,fun d hd=>?_⟩
 ·rw[OT]at hi;rw[r1.length];exact hi
 ·obtain⟨x,hx,rfl⟩:=Te _ _ _ _ hd;obtain⟨u,hu,ru⟩:=r1.get hx;refine⟨⟨xs,u,s1,hu⟩,?_⟩;rintro w' H' ⟨p,x',hp,rfl,c1,rfl⟩;have ex:x'=u:=BV ((c1 xs s1).symm.trans hu);subst ex;rw[EV];exact⟨F9 hp (.tup [.int i,x']),fun B hB aB=>KI aB hp ⟨rfl,LG ru k hB,trivial⟩⟩
section
variable{X:Cx}{CL:ClA}{W:XW}{pos p:Bk}{a:At}{fa:Rho->R D}
theorem dH(ha:SE X CL W a fa)(hg:Gl X "enumerate")(hm:X.mg "enumerate" = Af)(hs:AM [a] X.env=[(Ad,eval a X.env)]):
  SI X CL W (.Tuple es n tpos) (.Call (.Name "enumerate" p) [a] [] pos) (fun ρ=>(fa ρ).bind fun x=>(Cc x).bind fun xs=>.ok (Hl 0 xs)):=
 fun A=>PI.weak (fY hg hm (FH (ha A) Hf hs) hs) fun σ H R ⟨hA,ρ,g,q⟩=>⟨hA,ρ,g,E9.ex q fun d v H1 _ s1 r1 p1=>by
  cases e1:Cc d with
  |bad=>rw[e1]at p1;exact p1.elim
  |exn z=>exact absurd e1 (by cases d<;>simp[Cc])
  |ok ds=>
   rw[e1]at p1;obtain⟨t,c,xs,rfl,k1,rs⟩:=K2 r1 e1;exact⟨t,c,xs,rfl,k1 H1 (Kp.of (AO.refl H1)),fun hz=>p1 _ H1 (AO.refl H1) (Zq k1 rs) (by rw[OT,<-rs.length];exact hz)⟩⟩
end
noncomputable abbrev ER(h:AS)(z TI TO:Ak)(f0 f1:Ai):Prop:=h.get? z=Ab { cls:=.type "zip", dict:=Af,data:=.fields #[f0,f1,.bool Ad,.ref TI,.ref TO],slots:=#[] }
noncomputable abbrev EI(h:AS)(T:Ak)(a b c:Ai):Prop:=h.get? T=Ab { cls:=.type "tuple", data:=.seq #[a,b,c] }
section
variable{prog:A8}{w:AN}{A:Bu}{E:Vq}{s:Ap}
theorem nb3{I l c:Ag}(b:l<I)(h:c∈[I+j,l])(i:Ag)(hi:i≠j):c≠I+i:=by
 have h':c=I+j\/c=l:=by simpa using h
 omega
theorem Tg{z TI TO T1:Ag}{Q:Ao->Ap->Prop}(hz:ER s.heap z TI TO (C5 T1) (.bool f1))(hT:s.heap.get? T1=Ab o1)(go:∀ h1,ER h1 z TI TO (C5 T1) (.bool Aa)->(∀ c o,c≠z->s.heap.get? c=Ab o->h1.get? c=Ab o)->h1.objs.size=s.heap.objs.size->Q Ad {s with heap:=h1}):AB (model prog w) A (A4 (.ref z)) Q E s:=by
 simp only[A4];refine Ah (Bt hz rfl (x:=C5 T1) rfl ?_);show AB _ _ (loadIfAlive T1 >>= _) _ _ _;refine Ah (fun Γ p _=>?_)
 show AB _ _ _ _ _ _;rw[hT];show AB _ _ (field (.ref z) 1 >>= _) _ _ _;refine Ah (Bt hz rfl (x:=.bool f1) rfl ?_);cases f1 with
 |true=>exact Aw (go s.heap hz (fun _ _ _ e=>e) rfl)
 |false=>exact Ah (Cb hz (by simp) fun h1 z1 sb=>Aw (go h1 z1 (fun c o nc e=>sb.extBut c o nc e) sb.1))
theorem Th{z TI TO:Ag}{f1:Ai}{Q:Ao->Ap->Prop}(hz:ER s.heap z TI TO f0 f1)(hf:f0=.none\/∃ T1:Ag,f0=C5 T1/\s.heap.get? T1=Af)(go:Q Aa s):AB (model prog w) A (A4 (.ref z)) Q E s:=by
 simp only[A4];rcases hf with rfl|⟨T1,rfl,hT⟩
 ·exact Ah (Bt hz rfl (x:=.none) rfl (Aw go))
 ·refine Ah (Bt hz rfl (x:=C5 T1) rfl ?_);show AB _ _ (loadIfAlive T1 >>= _) _ _ _;refine Ah (fun Γ p _=>?_)
  show AB _ _ _ _ _ _;rw[hT];exact Aw go
theorem Zo{I l1 l2 l3 n1 n2 n3 k T1:Ag}{P3:Ag->Ai->Prop}{S3:Ag->AS->Prop}{Q:Vq}(b1:l1<I)(b2:l2<I)(b3:l3<I)(D1:Dw prog w A (I+0) [I+0,l1] n1 P1 S1)(D2:Dw prog w A (I+1) [I+1,l2] n2 P2 S2)(D3:Dw prog w A (I+2) [I+2,l3] n3 P3 S3)(hz:ER s.heap (I+5) (I+3) (I+4) (C5 T1) (.bool f1))(hI:EI s.heap (I+3) (.ref (I+0)) (.ref (I+1)) (.ref (I+2)))(hT:s.heap.get? T1=Ab o1)(g1:S1 k s.heap)(g2:S2 k s.heap)(g3:S3 k s.heap)(k1:k<n1)(k2:k<n2)(k3:k<n3)(go:∀ x y u h2 tk,P1 k x->P2 k y->P3 k u->ER h2 (I+5) (I+3) (I+4) (C5 T1) (.bool Aa)->S1 (k+1) h2->S2 (k+1) h2->S3 (k+1) h2->EI h2 s.heap.objs.size x y u->h2.objs.size=s.heap.objs.size+1 ->
   (∀ c o,c∉[I+0,I+1,I+2,I+5]->s.heap.get? c=Ab o->h2.get? c=Ab o)->Q (.ref s.heap.objs.size) {s with heap:=h2,toks:=tk}):AB (model prog w) A (Builtin.«zip.__next__» ⟨[.ref (I+5)],[]⟩) (fun fin s'=>∃ v,fin=.done (.ret v)/\Q v s') E s:=by
 refine Ah (m:=field (.ref (I+5)) 2) (Bt hz rfl (x:=.bool Ad) rfl ?_);refine Ah (m:=field (.ref (I+5)) 3) (Bt hz rfl (x:=.ref (I+3)) rfl (Ah (B7 hI rfl ?_)));refine Ah (m:=A4 (.ref (I+5))) (Tg hz hT fun p1 z1 e1 s1=>?_)
 rw[AH (by decide)]
 refine Ah ?_;simp only[<-Wd,DW,DJ];have f1':S1 k p1:=D1.frame _ _ _ g1 fun c hc o q=>e1 c o (nb3 b1 hc 5 (by decide)) q
 refine Ah (Ah (Ce (Ah (m:=A3 (.ref (I+0))) (D1.item k _ _ _ k1 f1' fun x p2 t2 px s2 e2=>Aw (Aw ?_)))))
 have f2':S2 k p2:=D2.frame _ _ _ g2 fun c hc o q=>e2.extBut c o (nb3 b2 hc 0 (by decide)) (e1 c o (nb3 b2 hc 5 (by decide)) q)
 refine Ah (Ah (Ce (Ah (m:=A3 (.ref (I+1))) (D2.item k _ _ _ k2 f2' fun y p3 t3 py s3 e3=>Aw (Aw ?_)))))
 have f3':S3 k p3:=D3.frame _ _ _ g3 fun c hc o q=>e3.extBut c o (nb3 b3 hc 1 (by decide)) (e2.extBut c o (nb3 b3 hc 0 (by decide)) (e1 c o (nb3 b3 hc 5 (by decide)) q))
 refine Ah (Ah (Ce (Ah (m:=A3 (.ref (I+2))) (D3.item k _ _ _ k3 f3' fun u p4 t4 pu s4 e4=>Aw (Aw (Aw ?_))))))
 refine Ah (GP (hsz:=by show 3<=sizeLine;decide) (Aw ⟨_,rfl,?_⟩))
 have sz:p4.objs.size=s.heap.objs.size:=by rw[e4.1,e3.1,e2.1,s1]
 have z4:ER p4 (I+5) (I+3) (I+4) (C5 T1) (.bool Aa):=e4.extBut _ _ (nij (by decide)) (e3.extBut _ _ (nij (by decide)) (e2.extBut _ _ (nij (by decide)) z1))
 have a1:S1 (k+1) p4:=D1.frame _ _ _ s2 fun c hc o q=>e4.extBut c o (nb3 b1 hc 2 (by decide)) (e3.extBut c o (nb3 b1 hc 1 (by decide)) q)
 have a2:S2 (k+1) p4:=D2.frame _ _ _ s3 fun c hc o q=>e4.extBut c o (nb3 b2 hc 2 (by decide)) q
 have psh:∀ {c o},p4.get? c=Ab o->(p4.push { cls:=.type "tuple", data:=.seq #[x,y,u] }).get? c=Ab o:=fun q=>As _ q
 have q:=go x y u (p4.push { cls:=.type "tuple", data:=.seq #[x,y,u] }) t4 px py pu (psh z4) (D1.frame _ _ _ a1 fun c _ o q=>psh q) (D2.frame _ _ _ a2 fun c _ o q=>psh q) (D3.frame _ _ _ s4 fun c _ o q=>psh q) (by rw[<-sz];exact AC _ rfl) (by rw[BM,sz]) (fun c o nc q=>by
  simp only[Ax,AX,B8,D9]at nc;exact psh (e4.extBut c o nc.2.2.1 (e3.extBut c o nc.2.1 (e2.extBut c o nc.1 (e1 c o nc.2.2.2 q)))))
 rw[<-sz]at q;exact q
theorem Zn{I l1 n1 k T1:Ag}{Q:Fin->Ap->Prop}(b1:l1<I)(D1:Dw prog w A (I+0) [I+0,l1] n1 P1 S1)(hz:ER s.heap (I+5) (I+3) (I+4) (C5 T1) (.bool f1))(hI:EI s.heap (I+3) (.ref (I+0)) (.ref (I+1)) (.ref (I+2)))(hT:s.heap.get? T1=Ab o1)(g1:S1 k s.heap)(k1:n1<=k)(up:∀ h2 e,(∀ c o,c∉[I+0,I+5]->s.heap.get? c=Ab o->h2.get? c=Ab o)->(∃ o,h2.get? e=Ab o/\o.cls=.type "StopIteration")->E (.ref e) {s with heap:=h2}):AB (model prog w) A (Builtin.«zip.__next__» ⟨[.ref (I+5)],[]⟩) Q E s:=by
 refine Ah (m:=field (.ref (I+5)) 2) (Bt hz rfl (x:=.bool Ad) rfl ?_);refine Ah (m:=field (.ref (I+5)) 3) (Bt hz rfl (x:=.ref (I+3)) rfl (Ah (B7 hI rfl ?_)));refine Ah (m:=A4 (.ref (I+5))) (Tg hz hT fun p1 z1 e1 s1=>?_)
 rw[AH (by decide)]
 refine Ah ?_;simp only[<-Wd,DW,DJ];have f1':S1 k p1:=D1.frame _ _ _ g1 fun c hc o q=>e1 c o (nb3 b1 hc 5 (by decide)) q
 refine Ah (Ah (Ce (Ah (m:=A3 (.ref (I+0))) (D1.done k _ _ _ k1 f1' fun p2 e e2 he=>up p2 e (fun c o nc q=>?_) he))))
 simp only[Ax,AX,B8,D9]at nc;exact e2 c o nc.1 (e1 c o nc.2 q)
theorem bY{I l1 n1 k:Ag}{f1:Ai}{Q:Fin->Ap->Prop}(b1:l1<I)(D1:Dw prog w A (I+0) [I+0,l1] n1 P1 S1)(hz:ER s.heap (I+5) (I+3) (I+4) f0 f1)(hf:f0=.none\/∃ T1:Ag,f0=C5 T1/\s.heap.get? T1=Af)(hI:EI s.heap (I+3) (.ref (I+0)) (.ref (I+1)) (.ref (I+2)))(g1:S1 k s.heap)(k1:n1<=k)(up:∀ h2 e,(∀ c o,c∉[I+0,I+5]->s.heap.get? c=Ab o->h2.get? c=Ab o)->(∃ o,h2.get? e=Ab o/\o.cls=.type "StopIteration")->E (.ref e) {s with heap:=h2}):AB (model prog w) A (Builtin.«zip.__next__» ⟨[.ref (I+5)],[]⟩) Q E s:=by
 refine Ah (m:=field (.ref (I+5)) 2) (Bt hz rfl (x:=.bool Ad) rfl ?_);refine Ah (m:=field (.ref (I+5)) 3) (Bt hz rfl (x:=.ref (I+3)) rfl (Ah (B7 hI rfl ?_)));refine Ah (m:=A4 (.ref (I+5))) (Th hz hf ?_);rw[Az rfl];refine Ah (E5 (Ah (Bt hz rfl (x:=.ref (I+4)) rfl (Ah (Cb hz (by simp) fun p1 z1 e1=>Ah ?_)))))
 have z1':ER p1 (I+5) (I+3) (I+4) .ellipsis f1:=z1;simp only[F6,Gn,DW,DJ];have g1':S1 k p1:=D1.frame _ _ _ g1 fun c hc o q=>e1.extBut c o (nb3 b1 hc 5 (by decide)) q
 refine Ah (Ah (DE (Ah (m:=A3 (.ref (I+0))) (D1.done _ _ _ _ k1 g1' fun p2 e e2 he=>?_))))
 obtain⟨oe,hoe,hce⟩:=he;have z2:ER p2 (I+5) (I+3) (I+4) .ellipsis f1:=e2 _ _ (nij (by decide)) z1'
 have ne:e≠I+5:=fun x=>by subst x;rw[z2]at hoe;cases hoe;simp at hce
 refine Cb z2 (by simp) fun p3 _ e3=>up p3 e (fun c o nc q=>?_) ⟨oe,e3.extBut _ _ ne hoe,hce⟩
 simp only[Ax,AX,B8,D9]at nc;exact e3.extBut c o nc.2 (e2 c o nc.1 (e1.extBut c o nc.2 q))
theorem PC{T:Ak}{a b c x:Ai}{Q:JR->Ap->Prop}(h:EI s.heap T a b c)(go:∀ h2,h2.get? T=Ab { cls:=.type "tuple", data:=.seq ((#[a,b,c]:AQ Ai).setIfInBounds k x) }->E0 T s.heap h2->Q () {s with heap:=h2}):AB (model prog w) A (Ju T (·.setIfInBounds k x)) Q E s:=by
 refine Fx h rfl (go _ ?_ (GL ..)) (by show 3<=sizeLine;decide) (by show ((#[a,b,c]:AQ Ai).setIfInBounds k x).size<=sizeLine+1;rw[Array.size_setIfInBounds];show 3<=sizeLine+1;decide)
 rw[Dv _ h rfl];simp[By]
theorem Zy{I l1 l2 l3 n1 n2 n3 k:Ag}{P3:Ag->Ai->Prop}{S3:Ag->AS->Prop}{a b c f1:Ai}{Q:Vq}(b1:l1<I)(b2:l2<I)(b3:l3<I)(D1:Dw prog w A (I+0) [I+0,l1] n1 P1 S1)(D2:Dw prog w A (I+1) [I+1,l2] n2 P2 S2)(D3:Dw prog w A (I+2) [I+2,l3] n3 P3 S3)(hz:ER s.heap (I+5) (I+3) (I+4) f0 f1)(hf:f0=.none\/∃ T1:Ag,f0=C5 T1/\s.heap.get? T1=Af)(hI:EI s.heap (I+3) (.ref (I+0)) (.ref (I+1)) (.ref (I+2)))(hO:EI s.heap (I+4) a b c)(g1:S1 k s.heap)(g2:S2 k s.heap)(g3:S3 k s.heap)(k1:k<n1)(k2:k<n2)(k3:k<n3)(go:∀ x y u h2 tk,P1 k x->P2 k y->P3 k u->ER h2 (I+5) (I+3) (I+4) (C5 s.heap.objs.size) (.bool Ad)->S1 (k+1) h2->S2 (k+1) h2->S3 (k+1) h2->EI h2 s.heap.objs.size x y u->EI h2 (I+4) x y u->h2.objs.size=s.heap.objs.size+1 ->
   (∀ c o,c∉[I+0,I+1,I+2,I+4,I+5]->s.heap.get? c=Ab o->h2.get? c=Ab o)->Q (.ref s.heap.objs.size) {s with heap:=h2,toks:=tk}):AB (model prog w) A (Builtin.«zip.__next__» ⟨[.ref (I+5)],[]⟩) (fun fin s'=>∃ v,fin=.done (.ret v)/\Q v s') E s:=by
 refine Ah (m:=field (.ref (I+5)) 2) (Bt hz rfl (x:=.bool Ad) rfl ?_);refine Ah (m:=field (.ref (I+5)) 3) (Bt hz rfl (x:=.ref (I+3)) rfl (Ah (B7 hI rfl ?_)));refine Ah (m:=A4 (.ref (I+5))) (Th hz hf ?_);rw[Az rfl];refine Ah (E5 (Ah (Bt hz rfl (x:=.ref (I+4)) rfl (Ah (Cb hz (by simp) fun p1 z1 e1=>Ah ?_)))))
 have z1':ER p1 (I+5) (I+3) (I+4) .ellipsis f1:=z1;simp only[F6,Gn,DW,DJ];have f1':S1 k p1:=D1.frame _ _ _ g1 fun c hc o q=>e1.extBut c o (nb3 b1 hc 5 (by decide)) q
 refine Ah (Ah (DE (Ah (m:=A3 (.ref (I+0))) (D1.item k _ _ _ k1 f1' fun x p2 t2 px s2 e2=>Aw ?_))))
 have o2:EI p2 (I+4) a b c:=e2.extBut _ _ (nij (by decide)) (e1.extBut _ _ (nij (by decide)) hO)
 refine Ah (B7 o2 rfl (Ah (PC o2 fun p3 o3 e3=>Ah (F0 (Aw ?_)))))
 have o3':EI p3 (I+4) x b c:=o3;have f2':S2 k p3:=D2.frame _ _ _ g2 fun c hc o q=>e3.extBut c o (nb3 b2 hc 4 (by decide)) (e2.extBut c o (nb3 b2 hc 0 (by decide)) (e1.extBut c o (nb3 b2 hc 5 (by decide)) q))
 refine Ah (Ah (DE (Ah (m:=A3 (.ref (I+1))) (D2.item k _ _ _ k2 f2' fun y p4 t4 py s4 e4=>Aw ?_))))
 have o4:EI p4 (I+4) x b c:=e4.extBut _ _ (nij (by decide)) o3'
 refine Ah (B7 o4 rfl (Ah (PC o4 fun p5 o5 e5=>Ah (F0 (Aw ?_)))))
 have o5':EI p5 (I+4) x y c:=o5;have f3':S3 k p5:=D3.frame _ _ _ g3 fun c hc o q=>e5.extBut c o (nb3 b3 hc 4 (by decide)) (e4.extBut c o (nb3 b3 hc 1 (by decide)) (e3.extBut c o (nb3 b3 hc 4 (by decide)) (e2.extBut c o (nb3 b3 hc 0 (by decide)) (e1.extBut c o (nb3 b3 hc 5 (by decide)) q))))
 refine Ah (Ah (DE (Ah (m:=A3 (.ref (I+2))) (D3.item k _ _ _ k3 f3' fun u p6 t6 pu s6 e6=>Aw ?_))))
 have o6:EI p6 (I+4) x y c:=e6.extBut _ _ (nij (by decide)) o5'
 refine Ah (B7 o6 rfl (Ah (PC o6 fun p7 o7 e7=>Ah (F0 (Aw (Aw ?_))))))
 have o7':EI p7 (I+4) x y u:=o7;have sz:p7.objs.size=s.heap.objs.size:=by rw[e7.1,e6.1,e5.1,e4.1,e3.1,e2.1,e1.1]
 have z7:ER p7 (I+5) (I+3) (I+4) .ellipsis f1:=e7.extBut _ _ (nij (by decide)) (e6.extBut _ _ (nij (by decide)) (e5.extBut _ _ (nij (by decide)) (e4.extBut _ _ (nij (by decide)) (e3.extBut _ _ (nij (by decide)) (e2.extBut _ _ (nij (by decide)) z1')))))
 refine Ah (B7 o7' rfl (Ah (GP (hsz:=by show 3<=sizeLine;decide) ?_)))
 refine Ah (m:=C9 (.ref (I+5)) (.ref p7.objs.size)) ?_;simp only[C9];have z8:ER (p7.push { cls:=.type "tuple", data:=.seq #[x,y,u] }) (I+5) (I+3) (I+4) .ellipsis f1:=As _ z7;refine Ah (Cb z8 (by simp) fun p9 z9 e9=>?_)
 have z9':ER p9 (I+5) (I+3) (I+4) (C5 p7.objs.size) f1:=z9;refine Cb z9' (by simp) fun pa za ea=>Aw ⟨_,rfl,?_⟩
 have za':ER pa (I+5) (I+3) (I+4) (C5 p7.objs.size) (.bool Ad):=za;have lt5:I+5<p7.objs.size:=AG z7;have up:∀ c o,c≠I+5->p7.get? c=Ab o->pa.get? c=Ab o:=fun c o nc q=>ea.extBut _ _ nc (e9.extBut _ _ nc (As _ q))
 have a1:S1 (k+1) pa:=D1.frame _ _ _ s2 fun c hc o q=>up c o (nb3 b1 hc 5 (by decide)) (e7.extBut c o (nb3 b1 hc 4 (by decide)) (e6.extBut c o (nb3 b1 hc 2 (by decide)) (e5.extBut c o (nb3 b1 hc 4 (by decide)) (e4.extBut c o (nb3 b1 hc 1 (by decide)) (e3.extBut c o (nb3 b1 hc 4 (by decide)) q)))))
 have a2:S2 (k+1) pa:=D2.frame _ _ _ s4 fun c hc o q=>up c o (nb3 b2 hc 5 (by decide)) (e7.extBut c o (nb3 b2 hc 4 (by decide)) (e6.extBut c o (nb3 b2 hc 2 (by decide)) (e5.extBut c o (nb3 b2 hc 4 (by decide)) q)))
 have a3:S3 (k+1) pa:=D3.frame _ _ _ s6 fun c hc o q=>up c o (nb3 b3 hc 5 (by decide)) (e7.extBut c o (nb3 b3 hc 4 (by decide)) q)
 have tp:EI pa p7.objs.size x y u:=ea.extBut _ _ (CT lt5) (e9.extBut _ _ (CT lt5) (AC _ rfl));have q:=go x y u pa t6 px py pu (by rw[<-sz];exact za') a1 a2 a3 (by rw[<-sz];exact tp) (up _ _ (nij (by decide)) o7') (by rw[ea.1,e9.1,BM,sz]) (fun c o nc q=>by
  simp only[Ax,AX,B8,D9]at nc;exact up c o nc.2.2.2.2 (e7.extBut c o nc.2.2.2.1 (e6.extBut c o nc.2.2.1 (e5.extBut c o nc.2.2.2.1 (e4.extBut c o nc.2.1 (e3.extBut c o nc.2.2.2.1 (e2.extBut c o nc.1 (e1.extBut c o nc.2.2.2.2 q))))))))
 rw[<-sz]at q;exact q
def Z3(t1 t2 t3:Ao)(I l1 l2 l3 i:Ag)(h:AS):Prop:=EI h (I+3) (.ref (I+0)) (.ref (I+1)) (.ref (I+2))/\EQ t1 h (I+0) l1 i/\EQ t2 h (I+1) l2 i/\EQ t3 h (I+2) l3 i/\(∃ a b c,EI h (I+4) a b c) /\
 (ER h (I+5) (I+3) (I+4) .none (.bool Ad)\/∃(T1:Ag)(f1:Ao),ER h (I+5) (I+3) (I+4) (C5 T1) (.bool f1))
noncomputable def z3w(I:Ag):Ac Ak:=[I+0,I+1,I+2,I+4,I+5]
theorem fA{t1 t2 t3:Ao}{I l1 l2 l3 i:Ag}{xs:AQ Ai}{x:Ai}{Q:Av Ai->Ap->Prop}(calm:A.handled=Af)(b1:l1<I)(b2:l2<I)(b3:l3<I)(z:Z3 t1 t2 t3 I l1 l2 l3 i s.heap)(q1:Cn t1 s.heap l1 xs)(q2:Cn t2 s.heap l2 ys)(q3:Cn t3 s.heap l3 us)(hx:xs[i]?=Ab x)(hy:ys[i]?=Ab y)(hu:us[i]?=Ab u)(go:∀ h2 tk,Z3 t1 t2 t3 I l1 l2 l3 (i+1) h2->EI h2 s.heap.objs.size x y u->h2.objs.size=s.heap.objs.size+1->(∀ c o,c∉z3w I->s.heap.get? c=Ab o->h2.get? c=Ab o)->Q (Ab (.ref s.heap.objs.size)) {s with heap:=h2,toks:=tk}):AB (model prog w) A (D7 (.ref (I+5))) Q E s:=by
 obtain⟨zI,i1,i2,i3,zz⟩:=z;have calm':A.in1.handled=Af:=calm;have lt:∀{v:AQ Ai}{k:Ag}{a:Ai},v[k]?=Ab a->k<v.size:=fun h=>by
  rw[Array.getElem?_eq_some_iff]at h;exact h.1
 have inj:∀{v:AQ Ai}{k:Ag}{a b:Ai},v[k]?=Ab a->v[k]?=Ab b->b=a:=fun h1 h2=>by
  rw[h1]at h2;exact(BV h2).symm
 have d1:=Io (prog:=prog) (w:=w) calm' t1 (I+0) l1 (A1 b1) xs;have d2:=Io (prog:=prog) (w:=w) calm' t2 (I+1) l2 (A1 (AD b2 (Eo _ _))) ys;have d3:=Io (prog:=prog) (w:=w) calm' t3 (I+2) l3 (A1 (AD b3 (Eo _ _))) us;obtain⟨⟨a,b,c,hO⟩,zz⟩:=zz;have fst:∀{f0 f1:Ai},ER s.heap (I+5) (I+3) (I+4) f0 f1->(f0=.none\/∃ T1:Ag,f0=C5 T1/\s.heap.get? T1=Af)->AB (model prog w) A (D7 (.ref (I+5))) Q E s:=fun hz hf=>by
  have hty:s.TypeIs (.ref (I+5)) "zip" := ⟨_,hz,rfl⟩;simp only[D7];refine Ah (Fd (Cf hty Cy (CH Cy hty Ep (Zy (k:=i) b1 b2 b3 d1 d2 d3 hz hf zI hO ⟨i1,q1⟩ ⟨i2,q2⟩ ⟨i3,q3⟩ (lt hx) (lt hy) (lt hu) fun x' y' u' h2 tk px py pu c1 c2 c3 c4 c5 c6 c7 kp=>Aw ?_) (D6 _))))
  rw[inj hx px,inj hy py,inj hu pu]at c5;exact go h2 tk ⟨kp _ _ (by simp) zI,c2.1,c3.1,c4.1,⟨_,_,_,c6⟩,.inr ⟨_,_,c1⟩⟩ c5 c7 kp
 rcases zz with hz|⟨T1,f1,hz⟩
 ·exact fst hz (.inl rfl)
 ·cases hT:s.heap.get? T1 with
  |none=>exact fst hz (.inr ⟨T1,rfl,hT⟩)
  |some o1=>
   have hty:s.TypeIs (.ref (I+5)) "zip" := ⟨_,hz,rfl⟩;simp only[D7];refine Ah (Fd (Cf hty Cy (CH Cy hty Ep (Zo (k:=i) b1 b2 b3 d1 d2 d3 hz zI hT ⟨i1,q1⟩ ⟨i2,q2⟩ ⟨i3,q3⟩ (lt hx) (lt hy) (lt hu) fun x' y' u' h2 tk px py pu c1 c2 c3 c4 c5 c6 kp=>Aw ?_) (D6 _))))
   rw[inj hx px,inj hy py,inj hu pu]at c5;exact go h2 tk ⟨kp _ _ (by simp) zI,c2.1,c3.1,c4.1,⟨a,b,c,kp _ _ (by simp) hO⟩,.inr ⟨T1,Aa,c1⟩⟩ c5 c6 (fun c o nc q=>kp c o (fun h=>nc (by simp only[z3w,Ax,AX,B8]at h ⊢;rcases h with h|h|h|h<;>simp[h])) q)
theorem lE{t1 t2 t3:Ao}{I l1 l2 l3 i:Ag}{xs:AQ Ai}{Q:Av Ai->Ap->Prop}(calm:A.handled=Af)(b1:l1<I)(z:Z3 t1 t2 t3 I l1 l2 l3 i s.heap)(q1:Cn t1 s.heap l1 xs)(hx:xs.size<=i)(go:∀ h2,(∀ c o,c∉z3w I->s.heap.get? c=Ab o->h2.get? c=Ab o)->Q Af {s with heap:=h2}):AB (model prog w) A (D7 (.ref (I+5))) Q E s:=by
 obtain⟨zI,i1,i2,i3,zz⟩:=z;have calm':A.in1.handled=Af:=calm;have d1:=Io (prog:=prog) (w:=w) calm' t1 (I+0) l1 (A1 b1) xs;have go':∀ h2 e,(∀ c o,c∉[I+0,I+5]->s.heap.get? c=Ab o->h2.get? c=Ab o)->(∃ o,h2.get? e=Ab o/\o.cls=.type "StopIteration")->AB (model prog w) A (isInstance (.ref e) (.type "StopIteration") >>= fun b=>if b=Aa then pure Af else throw (.ref e)) Q E {s with heap:=h2}:=fun h2 e kp ⟨o,ho,hcl⟩=>
  Ah (Ye (T := "StopIteration") (b:=Aa) ⟨o,ho,hcl⟩ X3 (Aw (go h2 fun c o nc q=>kp c o (fun h=>nc (by simp only[z3w,Ax,AX,B8]at h ⊢;rcases h with h|h<;>simp[h])) q)))
 have fin:∀{f0 f1:Ai},ER s.heap (I+5) (I+3) (I+4) f0 f1->(f0=.none\/∃ T1:Ag,f0=C5 T1/\s.heap.get? T1=Af)->AB (model prog w) A (D7 (.ref (I+5))) Q E s:=fun hz hf=>by
  have hty:s.TypeIs (.ref (I+5)) "zip" := ⟨_,hz,rfl⟩;simp only[D7];exact Ah (Fd (Cf hty Cy (CH Cy hty Ep (bY (k:=i) b1 d1 hz hf zI ⟨i1,q1⟩ hx fun h2 e kp he=>go' h2 e kp he) (D6 _))))
 obtain⟨_,zz⟩:=zz;rcases zz with hz|⟨T1,f1,hz⟩
 ·exact fin hz (.inl rfl)
 ·cases hT:s.heap.get? T1 with
  |none=>exact fin hz (.inr ⟨T1,rfl,hT⟩)
  |some o1=>
   have hty:s.TypeIs (.ref (I+5)) "zip" := ⟨_,hz,rfl⟩;simp only[D7];exact Ah (Fd (Cf hty Cy (CH Cy hty Ep (Zn (k:=i) b1 d1 hz zI hT ⟨i1,q1⟩ hx fun h2 e kp he=>go' h2 e kp he) (D6 _))))
end
section
variable{prog:A8}{w:AN}{A:Bu}{R:Kl->Ap->Prop}
def K0(I S:Ag)(xs ys us:AQ Ai)(i:Ag)(acc:AQ Ai)(h:AS):Prop:=acc.size=i/\(∀ j,j<i->∃(a:Ag)(x y u:Ai),acc[j]?=Ab (.ref a)/\xs[j]?=Ab x/\ys[j]?=Ab y/\us[j]?=Ab u/\EI h a x y u/\I+5<a/\a≠S)/\∀(j1 j2 a:Ag),acc[j1]?=Ab (DR a)->acc[j2]?=Ab (DR a)->j1=j2
theorem Cn.at'(z:Cn t h l its)(k:∀ o,h.get? l=Ab o->h2.get? l=Ab o):Cn t h2 l its:=by
 cases t with
 |true=>exact PySem.Heap.IsTuple.at z k
 |false=>exact PySem.Heap.IsList.at z k
theorem Nz{I a:Ag}(h:I+5<a):a∉z3w I:=by
 intro z;simp only[z3w,Ax,AX,B8]at z;rcases z with z|z|z|z|z<;>· rw[z]at h;exact absurd h (EN.mpr (GK (by decide) I))
theorem Ni{I l:Ag}(h:l<I):l∉z3w I:=by
 intro z;simp only[z3w,Ax,AX,B8]at z;rcases z with z|z|z|z|z<;>· rw[z]at h;exact absurd h (EN.mpr (Eo I _))
theorem Z3.at'{t1 t2 t3:Ao}{I l1 l2 l3 i:Ag}{h h2:AS}(z:Z3 t1 t2 t3 I l1 l2 l3 i h)(k:∀ j,j<=5->∀ o,h.get? (I+j)=Ab o->h2.get? (I+j)=Ab o):Z3 t1 t2 t3 I l1 l2 l3 i h2:=by
 obtain⟨zI,i1,i2,i3,⟨a,b,c,hO⟩,zz⟩:=z;exact⟨k 3 (by decide) _ zI,i1.at' fun o q=>k 0 (by decide) o q,i2.at' fun o q=>k 1 (by decide) o q,i3.at' fun o q=>k 2 (by decide) o q,⟨a,b,c,k 4 (by decide) _ hO⟩,zz.imp (k 5 (by decide) _) fun ⟨T1,f1,hz⟩=>⟨T1,f1,k 5 (by decide) _ hz⟩⟩
theorem fD{t1 t2 t3:Ao}{I l1 l2 l3 n:Ag}{xs:AQ Ai}{res:Ai}(calm:A.handled=Af)(b1:l1<I)(b2:l2<I)(b3:l3<I)(S:Ag)(hS:I+5<S)(n0:0<n)(nn:n<=1000)(e1:xs.size=n)(e2:ys.size=n)(e3:us.size=n):
  ∀(k i:Ag)(s:Ap)(acc:AQ Ai)(c:Ag),n-i=k->i<=n->Z3 t1 t2 t3 I l1 l2 l3 i s.heap->Cn t1 s.heap l1 xs->Cn t2 s.heap l2 ys->Cn t3 s.heap l3 us ->
  s.heap.get? S=Ab { cls:=.type "list", dict:=Af,data:=.seq acc c,slots:=#[] }->K0 I S xs ys us i acc s.heap ->
  (∀ h2 acc2 c2 tk,(∀ d o,d∉z3w I->d≠S->s.heap.get? d=Ab o->h2.get? d=Ab o)->h2.get? S=Ab { cls:=.type "list", dict:=Af,data:=.seq acc2 c2,slots:=#[] }->K0 I S xs ys us n acc2 h2->R (.ok (.ret res)) {s with heap:=h2,toks:=tk}) ->
  FR (model prog w) A (.builtin "list.extend.loop" ⟨[.ref S,.ref (I+5),res],[]⟩) R s:=by
 have calm':A.in1.handled=Af:=calm;intro k
 induction k with
 |zero=>
  intro i s acc c hk hi hz q1 q2 q3 hSo hd hR;have ein:i=n:=HZ hi (WX hk);subst ein;refine Fv Xn ?_;rw[Ef Fi _];refine Ah (m:=D7 (.ref (I+5))) (lE calm' b1 hz q1 (HA e1) fun h2 kp=>?_)
  exact Aw (hR h2 acc c s.toks (fun d o nd _ q=>kp d o nd q) (kp _ _ (Nz hS) hSo) ⟨hd.1,fun j hj=>by
   obtain⟨a,x,y,u,r1,r2,r3,r4,r5,r6,r7⟩:=hd.2.1 j hj;exact⟨a,x,y,u,r1,r2,r3,r4,kp _ _ (Nz r6) r5,r6,r7⟩,hd.2.2⟩)
 |succ k ih=>
  intro i s acc c hk hi hz q1 q2 q3 hSo hd hR;have lt:i<n:=Nat.lt_of_sub_pos (by rw[hk];exact Nat.succ_pos _)
  have lx:i<xs.size:=by rw[e1];exact lt
  have ly:i<ys.size:=by rw[e2];exact lt
  have lu:i<us.size:=by rw[e3];exact lt
  refine Fv Xn ?_;rw[Ef Fi _];refine Ah (m:=D7 (.ref (I+5))) (fA calm' b1 b2 b3 hz q1 q2 q3 (B4 lx) (B4 ly) (B4 lu) fun h2 tk z2 tr sz kp=>?_)
  have hS2:=kp _ _ (Nz hS) hSo;refine Ah (m:=Ju S _) ?_;have ot:∀(f:DB->DB) d o,d≠S->h2.get? d=Ab o->(h2.update S f).get? d=Ab o:=fun f d o nd q=>(Dm _ _ (DK nd)).trans q
  have lS:I+5<s.heap.objs.size:=FD hS (AG hSo);have nT:s.heap.objs.size≠S:=CT (AG hSo);have hS3:=Dv (By (·.push (.ref s.heap.objs.size))) hS2 rfl;have lne:∀{l:Ag},l<I->l≠S:=fun h e=>by rw[e]at h;exact absurd (FD h (BS (Eo I 5) hS)) (Bw _)
  refine Fx hS2 rfl (Aw ⟨G8 Fi _,ih (i+1) {s with heap:=h2.update S (By (·.push (.ref s.heap.objs.size))),toks:=tk} _ _ (by omega) lt (z2.at' fun j hj o q=>ot _ _ o (fun e=>by rw[<-e]at hS;exact absurd hS (EN.mpr (GK hj I))) q) ?_ ?_ ?_ hS3 ⟨by rw[Wg,hd.1],fun j hj=>?_,?_⟩ fun h4 acc4 c4 tk4 kp4 hS4 hd4=>hR h4 acc4 c4 tk4 (fun d o nd ns q=>kp4 d o nd ns (ot _ d o ns (kp d o nd q))) hS4 hd4⟩) ?_ ?_
  ·exact q1.at' fun o q=>ot _ _ o (lne b1) (kp _ o (Ni b1) q)
  ·exact q2.at' fun o q=>ot _ _ o (lne b2) (kp _ o (Ni b2) q)
  ·exact q3.at' fun o q=>ot _ _ o (lne b3) (kp _ o (Ni b3) q)
  ·by_cases ej:j=i
   ·subst ej;exact⟨s.heap.objs.size,_,_,_,by rw[GH,Az hd.1.symm],B4 lx,B4 ly,B4 lu,ot _ _ _ nT tr,lS,nT⟩
   ·obtain⟨a,x,y,u,r1,r2,r3,r4,r5,r6,r7⟩:=hd.2.1 j (EM (D5 hj) ej);exact⟨a,x,y,u,by rw[GH,AH (by rw[hd.1];exact ej)];exact r1,r2,r3,r4,ot _ _ _ r7 (kp _ _ (Nz r6) r5),r6,r7⟩
  ·have old:∀(j a:Ag),acc[j]?=Ab (DR a)->a<s.heap.objs.size:=fun j a e=>by
    have hj:j<i:=by rw[<-hd.1];exact(Wf.mp e).1
    obtain⟨a',x,y,u,r1,r2,r3,r4,r5,r6,r7⟩:=hd.2.1 j hj;rw[e]at r1;cases r1;exact AG r5
   intro j1 j2 a q1 q2;rw[GH]at q1 q2;split at q1
   ·split at q2
    ·omega
    ·cases q1;exact absurd (old _ _ q2) (Bw _)
   ·split at q2
    ·cases q2;exact absurd (old _ _ q1) (Bw _)
    ·exact hd.2.2 _ _ _ q1 q2
  ·rw[hd.1];exact BD (BD hi nn) (by decide)
  ·show (acc.push _).size<=sizeLine+1;rw[Wg,hd.1];exact BD (Nat.succ_le_succ (BD hi nn)) (by decide)
end
theorem Zm(a b c:Ai):checkTypeCall "zip" ⟨[a,b,c],[]⟩=pure ():=by kernel_rfl
theorem bZ(a b c:Ai):X0 "zip.__new__" ⟨[.type "zip", a,b,c],[]⟩=pure ():=by kernel_rfl
theorem oZ(a b c d:Ai):argsOk "object.__init__" ⟨[a,b,c,d],[]⟩:=by
 unfold argsOk;rw[signature?_of (id := "object.__init__") (n:=['_','_','t','i','n','i','_','_']) (o:=['t','c','e','j','b','o']) (by kernel_rfl) F.owner_object];kernel_rfl
section
variable{prog:A8}{w:AN}{A:Bu}{E:Vq}{s:Ap}
noncomputable abbrev yh3(t1 t2 t3:Ao)(h:AS)(l1 l2 l3:Ak):AS:=((h.push (itO t1 l1)).push (itO t2 l2)).push (itO t3 l3)
noncomputable abbrev yh4(t1 t2 t3:Ao)(h:AS)(l1 l2 l3:Ak):AS:=(yh3 t1 t2 t3 h l1 l2 l3).push { cls:=.type "tuple", data:=.seq #[.ref h.objs.size,.ref (h.push (itO t1 l1)).objs.size,.ref ((h.push (itO t1 l1)).push (itO t2 l2)).objs.size] }
noncomputable abbrev yh5(t1 t2 t3:Ao)(h:AS)(l1 l2 l3:Ak):AS:=(yh4 t1 t2 t3 h l1 l2 l3).push { cls:=.type "tuple", data:=.seq #[.none,.none,.none] }
noncomputable abbrev yh6(t1 t2 t3:Ao)(h:AS)(l1 l2 l3:Ak):AS:=(yh5 t1 t2 t3 h l1 l2 l3).push { cls:=.type "zip", data:=.fields #[.none,.bool Ad,.bool Ad,.ref (yh3 t1 t2 t3 h l1 l2 l3).objs.size,.ref (yh4 t1 t2 t3 h l1 l2 l3).objs.size] }
theorem bX(t1 t2 t3:Ao)(l1 l2 l3:Ak)(xs ys us:AQ Ai):Kj (Builtin.«zip.__new__» ⟨[.type "zip", .ref l1,.ref l2,.ref l3],[]⟩) (fun _ R s=>Cn t1 s.heap l1 xs/\Cn t2 s.heap l2 ys/\Cn t3 s.heap l3 us/\R (.ok (.ret (.ref (yh5 t1 t2 t3 s.heap l1 l2 l3).objs.size))) {s with heap:=yh6 t1 t2 t3 s.heap l1 l2 l3}):=
 .of_wp fun prog w A R s h=>by
  obtain⟨hp,g,d,tk,os⟩:=s;obtain⟨a1,a2,a3,q⟩:=h;have hsub:=sub_zip;have L1:Cn t1 (FY ⟨hp,g,d,tk,os⟩) l1 xs:=a1;have L2:Cn t2 (FY ⟨hp.push (itO t1 l1),g,d,tk,os⟩) l2 ys:=a2.push _;have L3:Cn t3 (FY ⟨(hp.push (itO t1 l1)).push (itO t2 l2),g,d,tk,os⟩) l3 us:=(a3.push _).push _
  wp_walk using Jz L1,Jz L2,Jz L3
  exact⟨_,rfl,q⟩
theorem Zp{t1 t2 t3:Ao}{l1 l2 l3:Ak}{xs:AQ Ai}{Q:Vq}(a1:Cn t1 s.heap l1 xs)(a2:Cn t2 s.heap l2 ys)(a3:Cn t3 s.heap l3 us)(q:∀ h2,Z3 t1 t2 t3 s.heap.objs.size l1 l2 l3 0 h2->h2.objs.size=s.heap.objs.size+6->(∀ c o,s.heap.get? c=Ab o->h2.get? c=Ab o)->Q (.ref (s.heap.objs.size+5)) {s with heap:=h2}):AB (model prog w) A (call (.type "zip") [.ref l1,.ref l2,.ref l3]) Q E s:=by
 refine Jo Xm (by decide) (Zm _ _ _) (bZ _ _ _) (fun obj=>oZ obj _ _ _) Xr (bX t1 t2 t3 l1 l2 l3 xs ys us) ⟨a1,a2,a3,?_⟩
 have s1:(s.heap.push (itO t1 l1)).objs.size=s.heap.objs.size+1:=BM ..;have s2:((s.heap.push (itO t1 l1)).push (itO t2 l2)).objs.size=s.heap.objs.size+2:=by rw[BM,s1]
 have s3:(yh3 t1 t2 t3 s.heap l1 l2 l3).objs.size=s.heap.objs.size+3:=by rw[BM,s2]
 have s4:(yh4 t1 t2 t3 s.heap l1 l2 l3).objs.size=s.heap.objs.size+4:=by rw[BM,s3]
 have s5:(yh5 t1 t2 t3 s.heap l1 l2 l3).objs.size=s.heap.objs.size+5:=by rw[BM,s4]
 have s6:(yh6 t1 t2 t3 s.heap l1 l2 l3).objs.size=s.heap.objs.size+6:=by rw[BM,s5]
 have u6:∀ {c o},(yh5 t1 t2 t3 s.heap l1 l2 l3).get? c=Ab o->(yh6 t1 t2 t3 s.heap l1 l2 l3).get? c=Ab o:=fun e=>As _ e
 have u5:∀ {c o},(yh4 t1 t2 t3 s.heap l1 l2 l3).get? c=Ab o->(yh6 t1 t2 t3 s.heap l1 l2 l3).get? c=Ab o:=fun e=>u6 (As _ e)
 have u4:∀ {c o},(yh3 t1 t2 t3 s.heap l1 l2 l3).get? c=Ab o->(yh6 t1 t2 t3 s.heap l1 l2 l3).get? c=Ab o:=fun e=>u5 (As _ e)
 have u3:∀ {c o},((s.heap.push (itO t1 l1)).push (itO t2 l2)).get? c=Ab o->(yh6 t1 t2 t3 s.heap l1 l2 l3).get? c=Ab o:=fun e=>u4 (As _ e)
 have u2:∀ {c o},(s.heap.push (itO t1 l1)).get? c=Ab o->(yh6 t1 t2 t3 s.heap l1 l2 l3).get? c=Ab o:=fun e=>u3 (As _ e)
 have g6:(yh6 t1 t2 t3 s.heap l1 l2 l3).get? (yh5 t1 t2 t3 s.heap l1 l2 l3).objs.size=Ab _:=AC _ rfl;have g5:(yh6 t1 t2 t3 s.heap l1 l2 l3).get? (yh4 t1 t2 t3 s.heap l1 l2 l3).objs.size=Ab _:=u6 (AC _ rfl);have g4:(yh6 t1 t2 t3 s.heap l1 l2 l3).get? (yh3 t1 t2 t3 s.heap l1 l2 l3).objs.size=Ab _:=u5 (AC _ rfl);have g3:(yh6 t1 t2 t3 s.heap l1 l2 l3).get? ((s.heap.push (itO t1 l1)).push (itO t2 l2)).objs.size=Ab _:=u4 (AC _ (KC _ _));have g2:(yh6 t1 t2 t3 s.heap l1 l2 l3).get? (s.heap.push (itO t1 l1)).objs.size=Ab _:=u3 (AC _ (KC _ _));have g1:(yh6 t1 t2 t3 s.heap l1 l2 l3).get? s.heap.objs.size=Ab _:=u2 (AC _ (KC _ _));show _/\_;rw[s3,s4,s5]at g6;rw[s4]at g5;rw[s1,s2,s3]at g4;rw[s2]at g3;rw[s1]at g2;rw[s5];exact⟨⟨_,g6,rfl⟩,q _ ⟨g4,KY g1,KY g2,KY g3,⟨_,_,_,g5⟩,.inl g6⟩ s6 fun c o e=>u2 (As _ e)⟩
end
theorem Zx:Kv (.type "zip") "__len__" = pure Af:=by rw[X8,XY];kernel_rfl
theorem Zg:Kv (.type "zip") "__length_hint__" = pure Af:=by rw[X8,XY];kernel_rfl
theorem Z3.ty{t1 t2 t3:Ao}{I l1 l2 l3 i:Ag}(z:Z3 t1 t2 t3 I l1 l2 l3 i s.heap):s.TypeIs (.ref (I+5)) "zip" := by
 obtain⟨_,_,_,_,_,hz|⟨_,_,hz⟩⟩:=z
 ·exact⟨_,hz,rfl⟩
 ·exact⟨_,hz,rfl⟩
theorem Z3.lt{t1 t2 t3:Ao}{I l1 l2 l3 i:Ag}(z:Z3 t1 t2 t3 I l1 l2 l3 i s.heap):I+5<s.heap.objs.size:=by
 obtain⟨o,h,_⟩:=z.ty;exact AG h
theorem fB{t1 t2 t3:Ao}{I l1 l2 l3 i:Ag}(z:Z3 t1 t2 t3 I l1 l2 l3 i h):Z3 t1 t2 t3 I l1 l2 l3 i (h.push o):=by
 have k:∀ {c u},h.get? c=Ab u->(h.push o).get? c=Ab u:=fun q=>As _ q
 obtain⟨zI,i1,i2,i3,zz⟩:=z;refine⟨k zI,i1.at' fun o q=>k q,i2.at' fun o q=>k q,i3.at' fun o q=>k q,?_⟩
 obtain⟨⟨a,b,c,hO⟩,zz⟩:=zz;refine⟨⟨a,b,c,k hO⟩,?_⟩;rcases zz with hz|⟨T1,f1,hz⟩
 ·exact .inl (k hz)
 ·exact .inr ⟨T1,f1,k hz⟩
section
variable{prog:A8}{w:AN}{A:Bu}{E:Vq}{s:Ap}
theorem aE{z:Ak}{Q:Vq}(hT:s.TypeIs (.ref z) "zip")(h:Q (.ref z) s):AB (model prog w) A (Ks (.ref z)) Q E s:=by
 refine wpAny_pyIter_slot hT Xx (CH Xx hT F.entry_zip_iter ?_ (F.args_zip_iter_1 _));show AB _ _ (ret (.ref z)) _ _ s;exact Aw ⟨_,rfl, "zip", _,hT,F.slot_zip_next.lookup,h⟩
theorem Zz{t1 t2 t3:Ao}{I l1 l2 l3 n:Ag}{xs:AQ Ai}{Q:Ac Ai->Ap->Prop}(calm:A.handled=Af)(b1:l1<I)(b2:l2<I)(b3:l3<I)(n0:0<n)(nn:n<=1000)(e1:xs.size=n)(e2:ys.size=n)(e3:us.size=n)(hz:Z3 t1 t2 t3 I l1 l2 l3 0 s.heap)(q1:Cn t1 s.heap l1 xs)(q2:Cn t2 s.heap l2 ys)(q3:Cn t3 s.heap l3 us)(hQ:∀ h2 acc tk,(∀ d o,d∉z3w I->s.heap.get? d=Ab o->h2.get? d=Ab o)->K0 I s.heap.objs.size xs ys us n acc h2->Q acc.toList {s with heap:=h2,toks:=tk}):AB (model prog w) A (collect (.ref (I+5))) Q E s:=by
  have lt:=hz.lt;have hSI:s.heap.objs.size≠I+5:=CT lt;unfold collect;refine Ah (wpAny_runValue (Fv F.entry_proto_collect ?_));rw[Ef F.plain_proto_collect _];show AB _ A.in1 (newList [] >>= fun l=>again (.builtin "list.__iadd__" ⟨[l,.ref (I+5)],[]⟩)) _ _ s
  refine Ah (CZ ?_);refine Aw ⟨G8 Xs _,Fv F.entry_list_iadd ?_⟩;rw[Ef Xs _];have hz1:Z3 t1 t2 t3 I l1 l2 l3 0 (s.heap.push { cls:=.type "list", data:=.seq ([]:Ac Ai).toArray }):=fB hz;have ty1:Shared.TypeIs { s with heap:=s.heap.push { cls:=.type "list", data:=.seq ([]:Ac Ai).toArray } } (.ref (I+5)) "zip" := Z3.ty (s:={ s with heap:=s.heap.push { cls:=.type "list", data:=.seq ([]:Ac Ai).toArray } }) hz1
  show AB _ A.in1 (Xd (.ref s.heap.objs.size) (.ref (I+5)) (.ref s.heap.objs.size)) _ _ _;unfold Xd;refine Ah (wpAny_typeOf ty1 ?_);have h1:Xe (.ref s.heap.objs.size) (.ref (I+5))=Ad:=by simp[Xe,hSI]
  have h2:(DO "zip" == DO "list")=Ad:=by decide
  have h3:(DO "zip" == DO "tuple")=Ad:=by decide
  simp only[h1,h2,h3,Wj,FA,GZ];refine Ah (aE ty1 ?_);refine Ah (Ce ?_);unfold Builtin.List.listLengthHint;refine Ah (Ib ty1 Zx ?_);show AB _ A.in1 (specialOf (DR (I+5)) (Aq "__length_hint__") >>= _) _ _ _;refine Ah (Ib ty1 Zg ?_);refine Aw ?_;show AB _ A.in1 (rule "list.extend.makes-room" >>= fun _=>Builtin.List.listTouch (.ref s.heap.objs.size) >>= fun _=>
    again (.builtin "list.extend.loop" ⟨[.ref s.heap.objs.size,.ref (I+5),.ref s.heap.objs.size],[]⟩)) _ _ _
  refine Ah (E5 ?_);have hS₁:(s.heap.push { cls:=.type "list", data:=.seq ([]:Ac Ai).toArray }).get? s.heap.objs.size=Ab { cls:=.type "list", data:=.seq ([]:Ac Ai).toArray }:=AC _ rfl;refine Ah ?_;show AB _ A.in1 (Ju s.heap.objs.size (·.push .none) >>= fun _=>Ju s.heap.objs.size (·.pop)) _ _ _
  refine Ah (Fx hS₁ rfl ?_);have hS₂:=Dv (By (·.push Dh)) hS₁ rfl;refine Fx hS₂ rfl ?_;have hS₃:=Dv (By (·.pop)) hS₂ rfl;have oth:∀ b o,b≠s.heap.objs.size->(s.heap.push { cls:=.type "list", data:=.seq ([]:Ac Ai).toArray }).get? b=Ab o ->
      (((s.heap.push { cls:=.type "list", data:=.seq ([]:Ac Ai).toArray }).update s.heap.objs.size (By (·.push Dh))).update s.heap.objs.size (By (·.pop))).get? b=Ab o:=
    fun b o hb e=>(Dm _ _ (DK hb)).trans ((Dm _ _ (DK hb)).trans e)
  have oth':∀ b o,s.heap.get? b=Ab o->(((s.heap.push { cls:=.type "list", data:=.seq ([]:Ac Ai).toArray }).update s.heap.objs.size (By (·.push Dh))).update s.heap.objs.size (By (·.pop))).get? b=Ab o:=
    fun b o e=>oth b o (A1 (AG e)) (As _ e)
  refine Aw ⟨G8 Fi _,fD calm b1 b2 b3 s.heap.objs.size lt n0 nn e1 e2 e3 n 0 _ _ _ rfl (CV _) (hz1.at' fun j hj o q=>oth _ o (fun e=>by rw[<-e]at lt;exact absurd lt (EN.mpr (GK hj I))) q) (q1.at' fun o e=>oth' _ o e) (q2.at' fun o e=>oth' _ o e) (q3.at' fun o e=>oth' _ o e) hS₃ ⟨rfl,fun j hj=>absurd hj (Ft _),fun j1 j2 a e=>by simp[By]at e⟩ fun h2 acc c tk kp hS hd=>?_⟩
  show AB _ A (load s.heap.objs.size >>= _) _ _ _;refine Ah (wpAny_load hS ?_);exact Aw (hQ h2 acc tk (fun d o nd e=>kp d o nd (A1 (AG e)) (oth' d o e)) hd)
theorem fF{t1 t2 t3:Ao}{I l1 l2 l3 n:Ag}{xs:AQ Ai}{Q₁:Vq}(calm:A.handled=Af)(b1:l1<I)(b2:l2<I)(b3:l3<I)(n0:0<n)(nn:n<=1000)(e1:xs.size=n)(e2:ys.size=n)(e3:us.size=n)(hz:Z3 t1 t2 t3 I l1 l2 l3 0 s.heap)(q1:Cn t1 s.heap l1 xs)(q2:Cn t2 s.heap l2 ys)(q3:Cn t3 s.heap l3 us)(h:∀ h2 acc tk,(∀ d o,d∉z3w I->s.heap.get? d=Ab o->h2.get? d=Ab o)->K0 I s.heap.objs.size xs ys us n acc h2->Q₁ (.ref h2.objs.size) { s with heap:=h2.push { cls:=.type "tuple", data:=.seq acc },toks:=tk }):
  FR (model prog w) A (.call (.builtin "tuple.__new__") ⟨[.type "tuple", .ref (I+5)],[]⟩) (wants Q₁ E) s:=by
 refine codeAny_of_tree ?_;show AB _ A.in1 (do X0 "tuple.__new__" ⟨[.type "tuple", .ref (I+5)],[]⟩;again (.builtin "tuple.__new__" ⟨[.type "tuple", .ref (I+5)],[]⟩)) _ _ s
 refine Ah (wpAny_of_eq (F.newCall_tuple_1 _) (Aw ⟨G8 Xu _,Fv F.entry_tuple_new ?_⟩));rw[Ef Xu _];have hsub:=sub_tuple_self;have hinit:=init_tuple_lookup;have hmh:=madeHere_tuple;have hTI:=hz.ty;have calm2:A.in1.handled=Af:=calm
 wp_walk using wpAny_typeOf hTI,Zz calm2 b1 b2 b3 n0 nn e1 e2 e3 hz q1 q2 q3
 intro h2 acc tk kp hd;show AB _ _ (Da acc.toList.toArray >>= fun v=>ret v) _ _ _
 unfold Da;refine Ah (CZ ?_ (by show acc.toList.toArray.size<=sizeLine;simp only[Wh];rw[hd.1,CW];omega))
 refine Aw ?_;have e:acc.toList.toArray=acc:=by simp
 rw[e];exact h h2 acc tk kp hd
theorem cA{t1 t2 t3:Ao}{I l1 l2 l3 n:Ag}{xs:AQ Ai}{Q:Vq}(calm:A.handled=Af)(b1:l1<I)(b2:l2<I)(b3:l3<I)(n0:0<n)(nn:n<=1000)(e1:xs.size=n)(e2:ys.size=n)(e3:us.size=n)(hz:Z3 t1 t2 t3 I l1 l2 l3 0 s.heap)(q1:Cn t1 s.heap l1 xs)(q2:Cn t2 s.heap l2 ys)(q3:Cn t3 s.heap l3 us)(h:∀ h2 acc tk,(∀ d o,d∉z3w I->s.heap.get? d=Ab o->h2.get? d=Ab o)->K0 I s.heap.objs.size xs ys us n acc h2->Q (.ref h2.objs.size) { s with heap:=h2.push { cls:=.type "tuple", data:=.seq acc },toks:=tk }):
  AB (model prog w) A (call (.type "tuple") [.ref (I+5)]) Q E s:=by
 refine callType_codes (Q₁:=fun obj s₁=>s₁.TypeIs obj "tuple"/\Q obj s₁) F.called_tuple (F.typeCall_tuple_1 _) F.entry_object_init
  (fF (by exact calm) b1 b2 b3 n0 nn e1 e2 e3 hz q1 q2 q3 fun h2 acc tk kp hd=>⟨⟨_,AC _ rfl,rfl⟩,h h2 acc tk kp hd⟩) fun obj s₁ h₁=>?_
 exact⟨h₁.1,Xj obj _,object_init_meets F.called_tuple.init.lookup F.called_tuple.made (by decide) prog w A.in1 _ s₁ ⟨h₁.1,rfl,h₁.2⟩⟩
end
noncomputable def Ip(H:Hp)(ps:Ac (Ak×Ac V)):Hp:=fun b=>match ps.lookup b with
  |some xs=>Ab (.tup xs)
  |none=>H b
theorem UR(h:ps.lookup a=Ab xs):(a,xs)∈ps:=by
 induction ps with
 |nil=>cases h
 |cons p ps ih=>
  obtain⟨b,ys⟩:=p;rw[B6]at h;split at h
  ·rename_i e;cases h;rw[BN]at e;subst e;exact Ay
  ·exact Au _ (ih h)
theorem Tl(h:∀ p∈ps,p.1≠b):Ip H ps b=H b:=by
 unfold Ip;cases e:ps.lookup b with
 |none=>rfl
 |some xs=>exact absurd rfl (h _ (UR e))
theorem bU(ps:Ac (Ak×Ac V))(I:Inv X pI σ H s)(k:∀ b u,s.heap.get? b=Ab u->h'.get? b=Ab u)(hp:∀ p∈ps,s.heap.objs.size<=p.1)(new:∀ p∈ps,p.2.length<=sizeLine/\∃ its:Ac Ai,Br p.2 its/\JG h' p.1 its.toArray):Inv X pI σ (Ip H ps) {s with heap:=h',toks:=t'}:=by
 have old:∀ b,b<s.heap.objs.size->Ip H ps b=H b:=fun b hb=>Tl fun p hq e=>by
  have:=hp p hq;rw[e]at this;exact absurd hb (EN.mpr this)
 have hl:∀ b o,H b=Ab o->Ip H ps b=Ab o:=fun b o q=>by rw[old b (I.hok.lt q)];exact q
 refine I.un ⟨fun b u q _ _ _=>k b u q,fun b u q _ _ _=>⟨u.slots,k b u q⟩,fun b u q n _=>by rw[old b (AG q)];exact n,fun b u q _=>⟨u,k b u q⟩,fun b xs q=>hl b _ q,fun b u xs q=>hl b _ q,fun b xs q=>⟨#[],by rw[hl b _ q];simp⟩⟩ fun b u e=>?_
 unfold Ip at e;split at e
 ·rename_i xs hx;cases e;exact new _ (UR hx)
 ·exact(I.hok b u e).stay (fun c v _ q=>k c v q) (fun c q=>hl c _ q) fun c xs q=>hl c _ q
noncomputable def Hh:Ac V->Ac V->Ac V->Ac (Ac V)
 |x::xs,y::ys,u::us=>[x,y,u]::Hh xs ys us
 |_,_,_=>[]
theorem RK:∀(xs ys us:Ac V)(j:Ag)(r:Ac V),(Hh xs ys us)[j]?=Ab r->∃ x y u,xs[j]?=Ab x/\ys[j]?=Ab y/\us[j]?=Ab u/\r=[x,y,u]
 |[],_,_,j,r,h=>by simp[Hh]at h
 |_::_,[],_,j,r,h=>by simp[Hh]at h
 |_::_,_::_,[],j,r,h=>by simp[Hh]at h
 |x::xs,y::ys,u::us,0,r,h=>by
  simp only[Hh,EE,Ch]at h;exact⟨x,y,u,rfl,rfl,rfl,h.symm⟩
 |x::xs,y::ys,u::us,j+1,r,h=>by
  simp only[Hh,ED]at h ⊢;exact RK xs ys us j r h
theorem MA{α β:Type}:∀{as:Ac α}{bs:Ac β}{a:α}{b:β},(a,b)∈as.zip bs->∃ j:Ag,as[j]?=Ab a/\bs[j]?=Ab b
 |[],_,_,_,h=>by simp at h
 |_::_,[],_,_,h=>by simp at h
 |x::as,y::bs,a,b,h=>by
  simp only[G0,Ax,Prod.mk.injEq]at h;rcases h with ⟨rfl,rfl⟩|h
  ·exact⟨0,rfl,rfl⟩
  ·obtain⟨j,h1,h2⟩:=MA h;exact⟨j+1,h1,h2⟩
def YO(K:Fg)(ta:TA):TE:=fun σ H Q=>ta σ H fun vs H1=>∃ t1 t2 t3 a b c xs ys us,vs=[.ref a,.ref b,.ref c]/\SqX t1 K H1 a xs/\SqX t2 K H1 b ys/\SqX t3 K H1 c us/\0<xs.length/\xs.length<=1000/\ys.length=xs.length/\us.length=xs.length /\
 ∀(as:Ac Ak)(T:Ak),as.length=xs.length->as.Nodup->(∀ p∈as,H1 p=Af)->T∉as->H1 T=Af->Q (.ref T) (Ip H1 ((T,as.map .ref)::as.zip (Hh xs ys us)))
theorem aX{I S:Ag}{xs acc:AQ Ai}(d:K0 I S xs ys us n acc h):∃ as:Ac Ak,acc.toList=as.map DR/\as.length=n/\as.Nodup/\∀(j:Ag)(a:Ak),as[j]?=Ab a->∃ x y u,xs[j]?=Ab x/\ys[j]?=Ab y/\us[j]?=Ab u/\EI h a x y u/\I+5<a:=by
  obtain⟨hn,hj,inj⟩:=d
  let f:Ai->Ak:=fun v=>match v with
    |.ref a=>a
    |_=>0
  have hg:∀ j v,acc.toList[j]?=Ab v->∃(a:Ag)(x y u:Ai),v=DR a/\xs[j]?=Ab x/\ys[j]?=Ab y/\us[j]?=Ab u/\EI h a x y u/\I+5<a:=fun j v e=>by
    rw[ET]at e;have lt:j<n:=by rw[<-hn];exact(Wf.mp e).1
    obtain⟨a,x,y,u,r1,r2,r3,r4,r5,r6,_⟩:=hj j lt;rw[e]at r1;cases r1;exact⟨a,x,y,u,rfl,r2,r3,r4,r5,r6⟩
  have hf:∀ v∈acc.toList,DR (f v)=v:=fun v hv=>by
    obtain⟨j,hj⟩:=WB hv;obtain⟨a,_,_,_,rfl,_⟩:=hg j v hj;rfl
  have hm:acc.toList=(acc.toList.map f).map DR:=by
    rw[FB]
    conv=>lhs;rw[<-List.map_id acc.toList]
    exact EB fun v hv=>(hf v hv).symm
  refine⟨acc.toList.map f,hm,by rw[Bp,C1,hn],?_,fun j a e=>?_⟩
  · rw[List.nodup_iff_pairwise_ne,Ee];intro i j hi hj' lt e;rw[Bp,C1]at hi hj';have at':∀(k:Ag)(hk:k<acc.size)(hk':k<(acc.toList.map f).length),acc[k]?=Ab (DR (acc.toList.map f)[k]):=fun k hk hk'=>by
      rw[B4 hk,List.getElem_map,hf _ (En _),Array.getElem_toList]
    have:=inj i j _ (at' i hi _) (by rw[e];exact at' j hj' _)
    omega
  · rw[D4,Option.map_eq_some_iff]at e;obtain⟨v,hv,rfl⟩:=e;obtain⟨a,x,y,u,rfl,r⟩:=hg j v hv;exact⟨x,y,u,r⟩
theorem qP{a b:At}{p':Bk}(hc:X.calm=Aa)(hg:Gl X "tuple")(hm:X.mg "tuple" = Af)(hg':Gl X "zip")(hm':X.mg "zip" = Af)(ha:PA X [a,b,c] ta)(hs:AM [a,b,c] X.env=[(Ad,eval a X.env),(Ad,eval b X.env),(Ad,eval c X.env)])(hs2:AM [b,c] X.env=[(Ad,eval b X.env),(Ad,eval c X.env)]):
    PE X (.Call (.Name "tuple" p) [.Call (.Name "zip" p') [a,b,c] [] pos'] [] pos) (YO X.K ta):=by
  intro pI s σ H Q I h;refine ID (HJ I hg hm FT (B9 ?_ rfl rfl));show AB _ _ (spliced ((Ad,eval (.Call (.Name "zip" p') [a,b,c] [] pos') X.env)::CU pos (AM [] X.env))) _ _ s;refine G1 ?_;refine ID (HJ I hg' hm' W6 (B9 (thn (ha pos' pI s σ H _ I h) fun us s1 ⟨vs,H1,I1,r1,q1⟩=>?_) (by rw[hs,hs2]) (by rw[hs2];rfl)))
  obtain⟨t1,t2,t3,l1,l2,l3,xs,ys,zs,e,sx,sy,sz,n0,nn,ey,ez,q⟩:=q1;subst e;cases r1 with
  |cons r rr=>
    cases rr with
    |cons r' rr=>
      cases rr with
      |cons r'' rr=>
        cases rr;cases r;cases r';cases r'';obtain⟨xv,rx,ix,_⟩:=Hg I1 sx;obtain⟨yv,ry,iy,_⟩:=Hg I1 sy;obtain⟨zv,rz,iz,_⟩:=Hg I1 sz;refine Zp ix iy iz fun h2 z hsz kp=>Ho ?_
        have lx:=rx.length;have ly:=ry.length;have lz:=rz.length;refine cA (s:={s1 with heap:=h2}) (n:=xs.length) (I1.ok.hd hc) ix.lt iy.lt iz.lt n0 nn (by simp[lx]) (by simp[<-ly,ey]) (by simp[<-lz,ez]) z (ix.at' fun o e=>kp _ o e) (iy.at' fun o e=>kp _ o e) (iz.at' fun o e=>kp _ o e) fun h3 acc tk kp3 dr=>?_
        obtain⟨as,e1,e2,nd,each⟩:=aX dr;have nw:∀ b,b<s1.heap.objs.size->b∉z3w s1.heap.objs.size:=fun b hb=>Ni hb
        have kp4:∀ b o,s1.heap.get? b=Ab o->(h3.push { cls:=.type "tuple", data:=.seq acc }).get? b=Ab o:=fun b o e=>As _ (kp3 b o (nw b (AG e)) (kp b o e))
        have big:∀ a∈as,s1.heap.objs.size<=a/\a<h3.objs.size:=fun a ha=>by
          obtain⟨j,hj⟩:=WB ha;obtain⟨x,y,u,_,_,_,tr,lt⟩:=each j a hj;exact⟨DQ (BS (Eo _ 5) lt),AG tr⟩
        have b3:s1.heap.objs.size<=h3.objs.size:=by
          obtain⟨a,ha⟩:∃ a,a∈as:=List.exists_mem_of_length_pos (by rw[e2];exact n0)
          exact DQ (BS (big a ha).1 (big a ha).2)
        refine⟨.ref h3.objs.size,_,bU (s:=s1) (h':=h3.push { cls:=.type "tuple", data:=.seq acc }) (t':=tk) ((h3.objs.size,as.map V.ref)::as.zip (Hh xs ys zs)) I1 kp4 (fun p hp=>?_) (fun p hp=>?_),rfl,q as h3.objs.size e2 nd (fun p hp=>I1.hok.fresh (big p hp).1) (fun hT=>absurd (big _ hT).2 (Bw _)) (I1.hok.fresh b3)⟩
        · rcases Ax.mp hp with rfl|hp
          · exact b3
          · obtain⟨j,h1,h2⟩:=MA (a:=p.1) (b:=p.2) hp;exact(big _ (Dz h1)).1
        · rcases Ax.mp hp with rfl|hp
          · refine⟨by rw[Bp,e2,CW];omega,as.map DR,?_,?_⟩
            · clear q each big hp e1 e2 nd
              induction as with
              |nil=>exact .nil
              |cons a as ih=>exact .cons rfl ih
            · rw[<-e1,Wh];exact Jj _ _
          · obtain⟨j,h1,h2⟩:=MA (a:=p.1) (b:=p.2) hp;obtain⟨x,y,u,g1,g2,g3,er⟩:=RK _ _ _ _ _ h2;obtain⟨x',y',u',k1,k2,k3,tr,_⟩:=each j _ h1;obtain⟨x2,m1,w1⟩:=rx.get g1;obtain⟨y2,m2,w2⟩:=ry.get g2;obtain⟨u2,m3,w3⟩:=rz.get g3;rw[WD]at k1 k2 k3;cases m1.symm.trans k1;cases m2.symm.trans k2;cases m3.symm.trans k3;rw[er];exact⟨by show 3<=sizeLine;decide,[x',y',u'],.cons w1 (.cons w2 (.cons w3 .nil)),⟨_,As _ tr,rfl,_,rfl⟩⟩
theorem Ry{K:Fg}{CL:ClA}{H H3:Hp}{A:Ak->Prop}(hA:AOk H A)(sm:AO H H3):∀{as:Ac Ak}{xs ys us:Ac V}{ds es fs:Ac D},(∀(j:Ag)(a:Ak)(r:Ac V),as[j]?=Ab a->(Hh xs ys us)[j]?=Ab r->H3 a=Ab (.tup r))->(∀ p∈as,H p=Af)->as.length=xs.length->ys.length=xs.length->us.length=xs.length->Reps K CL H A xs ds->Reps K CL H A ys es->Reps K CL H A us fs->Reps K CL H3 A (as.map .ref) (Qj ds es fs)
 |[],[],[],[],[],[],[],_,_,_,_,_,_,_,_=>trivial
 |a::as,x::xs,y::ys,u::us,d::ds,e::es,f::fs,h,hn,l1,l2,l3,r1,r2,r3=>
  ⟨⟨a,[x,y,u],rfl,.inl (hA.new (hn a Ay)),SqT.of (h 0 a _ rfl rfl),r1.1.same sm,r2.1.same sm,r3.1.same sm,trivial⟩,
   Ry hA sm (fun j a' r p q=>h (j+1) a' r p q) (fun p hp=>hn p (Au _ hp)) (Ji l1) (Ji l2) (Ji l3) r1.2 r2.2 r3.2⟩
 |[],_::_,_,_,_,_,_,_,_,l,_,_,_,_,_=>nomatch l
 |_::_,[],_,_,_,_,_,_,_,l,_,_,_,_,_=>nomatch l
 |_,[],_::_,_,_,_,_,_,_,_,l,_,_,_,_=>nomatch l
 |_,[],_,_::_,_,_,_,_,_,_,_,l,_,_,_=>nomatch l
 |_,_::_,[],_,_,_,_,_,_,_,l,_,_,_,_=>nomatch l
 |_,_::_,_,[],_,_,_,_,_,_,_,l,_,_,_=>nomatch l
 |_,[],_,_,_::_,_,_,_,_,_,_,_,r,_,_=>r.elim
 |_,_::_,_,_,[],_,_,_,_,_,_,_,r,_,_=>r.elim
 |_,_,[],_,_,_::_,_,_,_,_,_,_,_,r,_=>r.elim
 |_,_,_::_,_,_,[],_,_,_,_,_,_,_,r,_=>r.elim
 |_,_,_,[],_,_,_::_,_,_,_,_,_,_,_,r=>r.elim
 |_,_,_,_::_,_,_,[],_,_,_,_,_,_,_,r=>r.elim
theorem UQ:∀{as:Ac Ak}{rs:Ac (Ac V)}{j:Ag}{a:Ak}{r:Ac V},as.Nodup->as[j]?=Ab a->rs[j]?=Ab r->(as.zip rs).lookup a=Ab r
 |[],_,_,_,_,_,h,_=>by simp at h
 |_::_,[],_,_,_,_,_,h=>by simp at h
 |b::as,q::rs,0,a,r,nd,h1,h2=>by
  simp only[EE,Ch]at h1 h2;subst h1 h2;rw[G0,WJ]
 |b::as,q::rs,j+1,a,r,nd,h1,h2=>by
  simp only[ED]at h1 h2;have nb:a≠b:=fun e=>by subst e;exact(B5.mp nd).1 (Dz h1)
  rw[G0,B6,GE nb];exact UQ (B5.mp nd).2 h1 h2
section
variable{X:Cx}{CL:ClA}{W:XW}{pos p pos' p':Bk}{a b c:At}{fa fb fc:Rho->R D}
theorem mV(ha:SE X CL W a fa)(hb:SE X CL W b fb)(hd:SE X CL W c fc)(hc:X.calm=Aa)(hg:Gl X "tuple")(hm:X.mg "tuple" = Af)(hg':Gl X "zip")(hm':X.mg "zip" = Af)(hs:AM [a,b,c] X.env=[(Ad,eval a X.env),(Ad,eval b X.env),(Ad,eval c X.env)])(hs2:AM [b,c] X.env=[(Ad,eval b X.env),(Ad,eval c X.env)])(hs3:AM [c] X.env=[(Ad,eval c X.env)]):
  SE X CL W (.Call (.Name "tuple" p) [.Call (.Name "zip" p') [a,b,c] [] pos'] [] pos) (fun ρ=>((fa ρ).bind fun x=>(fb ρ).bind fun y=>(fc ρ).bind fun z=>K1 x y z).bind fun xs=>.ok (.tup xs)):=
 fun A=>PE.weak (qP hc hg hm hg' hm' (FH (ha A) (FH (hb A) (FH (hd A) Hf hs3) (by rw[hs2,hs3])) (by rw[hs,hs2])) hs hs2) fun σ H Q ⟨hA,ρ,g,q⟩=>by
  simp only[R.bind_assoc]at q;refine⟨hA,ρ,g,Bx.bind q fun d v H1 _ s1 r1 p1=>⟨hA.same s1,ρ,g.same s1,Bx.bind p1 fun d2 v2 H2 _ s2 r2 p2=>⟨(hA.same s1).same s2,ρ,(g.same s1).same s2,Bx.bind p2 fun d3 v3 H3 _ s3 r3 p3=>?_⟩⟩⟩
  unfold K1 at p3;cases e1:Cc d with
  |bad=>rw[e1]at p3;exact p3.elim
  |exn z=>exact absurd e1 (by cases d<;>simp[Cc])
  |ok ds=>
   cases e2:Cc d2 with
   |bad=>rw[e1,e2]at p3;exact p3.elim
   |exn z=>exact absurd e2 (by cases d2<;>simp[Cc])
   |ok es=>
    cases e3:Cc d3 with
    |bad=>rw[e1,e2,e3]at p3;exact p3.elim
    |exn z=>exact absurd e3 (by cases d3<;>simp[Cc])
    |ok fs=>
     rw[e1,e2,e3]at p3;simp only[R.bind_ok]at p3;obtain⟨t1,c1,xs,rfl,k1,rs1⟩:=K2 ((r1.same s2).same s3) e1;obtain⟨t2,c2,ys,rfl,k2,rs2⟩:=K2 (r2.same s3) e2;obtain⟨t3,c3,us,rfl,k3,rs3⟩:=K2 r3 e3;split at p3
     ·rename_i hn;obtain⟨n0,nn,ny,nz⟩:=hn;rw[<-rs1.length]at n0 nn ny nz;rw[<-rs2.length]at ny;rw[<-rs3.length]at nz;refine⟨t1,t2,t3,c1,c2,c3,xs,ys,us,rfl,k1 H3 (Kp.of (AO.refl H3)),k2 H3 (Kp.of (AO.refl H3)),k3 H3 (Kp.of (AO.refl H3)),n0,nn,ny,nz,fun as T el nd fr hT fT=>?_⟩
      have hA3:AOk H3 A:=((hA.same s1).same s2).same s3;have fr':∀ q∈(T,as.map V.ref)::as.zip (Hh xs ys us),H3 q.1=Af:=fun q hq=>by
       rcases Ax.mp hq with rfl|hq
       ·exact fT
       ·obtain⟨j,h1,h2⟩:=MA (a:=q.1) (b:=q.2) hq;exact fr _ (Dz h1)
      have sm:AO H3 (Ip H3 ((T,as.map V.ref)::as.zip (Hh xs ys us))):=fun b o e=>by
       rw[Tl fun q hq z=>by rw[<-z,fr' q hq]at e;cases e]
       exact e
      refine p3 _ _ sm ⟨T,as.map V.ref,rfl,.inl (hA3.new fT),SqT.of ?_,Ry hA3 sm (fun j a r h1 h2=>?_) fr el ny nz rs1 rs2 rs3⟩
      ·unfold Ip;rw[WJ]
      ·have na:a≠T:=fun e=>by subst e;exact hT (Dz h1)
       unfold Ip;rw[B6,GE na,UQ nd h1 h2]
     ·exact p3.elim
end
section
variable{X:Cx}{CL:ClA}{W:XW}{pos p tpos:Bk}{a b c:At}{fa fb fc:Rho->R D}{x:Al}
end
section
variable{X:Cx}{CL:ClA}{W:XW}{a:At}{fa:Rho->R D}
end
section
variable{X:Cx}{CL:ClA}{W:XW}
end
section
variable{X:Cx}
variable{CL:ClA}{W:XW}{pos p pos' p':Bk}{a b:At}{fa fb:Rho->R D}
end
section
variable{X:Cx}{CL:ClA}{W:XW}{e o o' k l:At}{fe:Rho->R Ov.D}{i ik il:Ag}{pos spos spos' tpos:Bk}{kt:Ag}
end
section
variable{prog:A8}{w:AN}{A:Bu}{E:Vq}{s:Ap}
theorem Sz{it t:Ak}{items:AQ Ai}(hne:t≠it):∀(n i:Ag)(s:Ap)(Q:Ac Ai->Ap->Prop),s.heap.IsListIter it t i->s.heap.IsList t items->i+n<=items.size->(∀ h',h'.IsListIter it t (i+n)->E0 it s.heap h'->Q ((items.toList.drop i).take n) {s with heap:=h'})->AB (model prog w) A (draw (.ref it) n) Q E s
 |0,i,s,Q,hit,_,_,hQ=>by
  show AB _ _ (pure []) Q E s;exact Aw (by simpa using hQ s.heap hit (XB ..))
 |n+1,i,s,Q,hit,ht,hle,hQ=>by
  have hlt:i<items.size:=by omega
  show AB _ _ (D7 (.ref it) >>= _) Q E s;refine Ah (Yj hit ht (x:=items[i]) (by simp[hlt]) fun h₁ hit₁ hs₁=>?_)
  refine Ah (Ce (Sz hne n (i+1) _ _ hit₁ (ht.extBut hs₁.extBut hne) (by omega) fun h₂ hit₂ hs₂=>Aw ?_))
  have hd:items.toList.drop i=items[i]::items.toList.drop (i+1):=by simp[Fp,hlt]
  have:=hQ h₂ (by rw[show i+(n+1)=i+1+n by omega];exact hit₂) (hs₁.trans hs₂)
  rw[hd,List.take_succ_cons]at this;exact this
theorem Y5{t:Ak}{Q:Ac Ai->Ap->Prop}(hh:A.handled=Af)(ht:s.heap.IsList t items)(hQ:∀ h',Ic s.heap.objs.size s.heap h'->Q items.toList {s with heap:=h'}):AB (model prog w) A (unpackItems (.ref t) items.size Af) Q E s:=by
 have hlt:t≠s.heap.objs.size:=by obtain⟨o,ho,_⟩:=ht;exact A1 (AG ho)
 have htp:(s.heap.push { cls:=.type "list_iterator", data:=.fields #[.ref t,.int 0 0] }).IsList t items:=by
  obtain⟨o,ho,r⟩:=ht;exact⟨o,As _ ho,r⟩
 unfold unpackItems;refine Ah ?_
 ·unfold notIterableAtAll;refine Ah (Ib ht.typeIs slot_list_iter.lookup ?_);refine Aw ?_;simp only[FA,GZ];refine Ah (Ce (D8 ht ?_));refine Ah (Ce (Sz hlt items.size 0 _ _ ⟨_,AC _ rfl,rfl,rfl⟩ htp (by omega) fun h₁ hit₁ hs₁=>?_))
  have hall:List.take items.size (List.drop 0 items.toList)=items.toList:=by
   rw[List.drop_zero];exact List.take_of_length_le (by simp)
  rw[hall];rw[AH (by simp)]
  have ht₁:h₁.IsList t items:=htp.extBut hs₁.extBut hlt;refine Ah (Ce (Yi hh hit₁ ht₁ (by simp) fun h₂ he₂=>?_))
  simp only[Option.isSome_none,FA,GZ];refine Aw (hQ h₂ fun b o hb e=>he₂ b o hb (hs₁.extBut b o hb (As _ e)))
theorem Y4{elts:Ac At}{x1}{t:Ak}{Q:JR->Ap->Prop}(hh:A.handled=Af)(ht:s.heap.IsList t items) (hn:(Cz elts env).length=items.size) (hstar:(Cz elts env).findIdx? (·.1)=Af) (h:∀ h',Ic s.heap.objs.size s.heap h'->AB (model prog w) A (assignInOrder ((Cz elts env).map (·.2)) items.toList) Q E {s with heap:=h'}):AB (model prog w) A (assign (.Tuple elts x1 pos) env (.ref t)) Q E s:=by
 rw[assign_Tuple];refine Ah (Ha ?_);unfold unpack;rw[hn,hstar];exact Ah (Ce (Y5 hh ht h))
end
section
variable{X:Cx}{pos:Bk}{CL:ClA}
def gSq(K:Fg)(n:Ag)(t:TGs):TG:=fun v σ H Q=>K9 K n t v σ H Q\/∃ a xs,v=.ref a/\SqL K H a xs/\xs.length=n/\t xs σ H Q
theorem vT{t:TGs}(hc:X.calm=Aa)(h:PGs X es t)(hn:(Cz es X.env).length=n)(hst:(Cz es X.env).findIdx? (·.1)=Af):PG X (.Tuple es k pos) (gSq X.K n t):=by
 intro pI s σ H v u Q I r hw;rcases hw with hw|hw
 ·exact PY hc h hn hst pI s σ H v u Q I r hw
 ·obtain⟨a,xs,e1,hq,hl,hw⟩:=hw;subst e1;cases r;obtain⟨its,rv,ht,hz⟩:=I.list hq;refine Y4 (I.ok.hd hc) ht.isList (by simp[hn,<-hl,rv.length]) hst fun h' hx=>?_
  have I1:Inv X pI σ H {s with heap:=h'}:=I.kept (t':=s.toks) fun b o e=>hx b o (A1 (AG e)) e
  exact h pI _ σ H xs _ Q I1 (by simpa using rv) hw
theorem xH(ts:Ac Ag):GT K CL (HM ts) (gSq K ts.length (ts.foldr (fun t u=>HS (Fk t) u) HV)):=fun Fz B ρ σ H v d ρ' Q x r e k=>by
 cases d with
 |lst ds=>
  obtain⟨a,xs,rfl,na,sq,rs⟩:=r;rw[aI]at e;cases e2:E6 ts ds ρ with
  |none=>rw[e2]at e;cases e
  |some ρ2=>
   rw[e2]at e;cases e;exact .inr ⟨a,xs,rfl,sq,by rw[rs.length];exact Mz _ _ _ _ e2,PQ ts ds xs ρ _ σ Q x rs e2 k⟩
 |_=>exact .inl (UY ts Fz B ρ σ H v _ ρ' Q x r e k)
end
section
variable{X:Cx}{CL:ClA}{W:XW}
end
end Ov
namespace Ov
open PySem PySem.W PyProof.Rows
variable{p:AQ Ag}{m x y l k n:Ag}{Q:Ag×AQ Ag->Prop}{G:AQ Ag->Ap->Prop}{s:Ap}{vs:Ac Ai}{v:Ai}{r:Ac Ae}{rs:Ac (Ac Ae)}
def Kr{α:Type}(lt:Ag->Ag->Ao)(n:Ag):KasT α->(α->Prop)->Prop
 |.ret a,Q=>Q a
 |.ask i j k,Q=>i<n/\j<n/\Kr lt n (k (lt i j)) Q
theorem Kr.mono{α:Type}{lt:Ag->Ag->Ao}{n:Ag}{Q Q':α->Prop}:∀{t:KasT α},Kr lt n t Q->(∀ a,Q a->Q' a)->Kr lt n t Q'
 |.ret _,h,k=>k _ h
 |.ask i j f,h,k=>⟨h.1,h.2.1,Kr.mono (t:=f (lt i j)) h.2.2 k⟩
theorem Kr.bind{α β:Type}{lt:Ag->Ag->Ao}{n:Ag}{f:α->KasT β}{Q:β->Prop}:∀{t:KasT α},Kr lt n t (fun a=>Kr lt n (f a) Q)->Kr lt n (t.bind f) Q
 |.ret _,h=>h
 |.ask i j k,h=>⟨h.1,h.2.1,Kr.bind (t:=k (lt i j)) h.2.2⟩
theorem Kr.wp{α:Type}{lt:Ag->Ag->Ao}{n:Ag}{cmp:Ag->Ag->(Ao->Ap->Prop)->Ap->Prop}{s:Ap}(hc:∀ i j C,i<n->j<n->C (lt i j) s->cmp i j C s){Q:α->Prop}{Q':α->Ap->Prop}:∀{t:KasT α},Kr lt n t Q->(∀ a,Q a->Q' a s)->t.kasWp cmp Q' s
 |.ret _,h,k=>k _ h
 |.ask i j f,h,k=>hc i j _ h.1 h.2.1 (Kr.wp hc (t:=f (lt i j)) h.2.2 k)
structure Sto (lt:Ag->Ag->Ao) (n:Ag):Prop where
 tr:∀ i j k,i<n->j<n->k<n->lt i j=Aa->lt j k=Aa->lt i k=Aa
 tot:∀ i j,i<n->j<n->i≠j->lt i j=Ad->lt j i=Aa
 asy:∀ i j,i<n->j<n->lt i j=Aa->lt j i=Ad
noncomputable def at0(p:AQ Ag)(x:Ag):Ag:=p.getD x 0
structure Pm (n:Ag) (p:AQ Ag):Prop where
 sz:p.size=n
 lt:∀ x,x<n->at0 p x<n
 inj:∀ x y,x<n->y<n->at0 p x=at0 p y->x=y
section
variable{lt:Ag->Ag->Ao}{n:Ag}
def Ek(lt:Ag->Ag->Ao)(p:AQ Ag)(m:Ag):Prop:=∀ x y,x<y->y<m->lt (at0 p x) (at0 p y)=Aa
def JF(lt:Ag->Ag->Ao)(p:AQ Ag)(m:Ag):Prop:=∀ x y,x<y->y<m->lt (at0 p y) (at0 p x)=Aa
theorem Ek.succ(S:Sto lt n)(hp:Pm n p)(h1:1<=m)(hm:m<n)(h:Ek lt p m)(e:lt (at0 p (m-1)) (at0 p m)=Aa):Ek lt p (m+1):=fun x y hxy hy=>by
 by_cases hym:y<m
 ·exact h x y hxy hym
 ·have:y=m:=by omega
  subst this;by_cases hx:x=y-1
  ·rw[hx];exact e
  ·exact S.tr _ _ _ (hp.lt _ (by omega)) (hp.lt _ (by omega)) (hp.lt _ hm) (h x (y-1) (by omega) (by omega)) e
theorem JF.succ(S:Sto lt n)(hp:Pm n p)(h1:1<=m)(hm:m<n)(h:JF lt p m)(e:lt (at0 p m) (at0 p (m-1))=Aa):JF lt p (m+1):=fun x y hxy hy=>by
 by_cases hym:y<m
 ·exact h x y hxy hym
 ·have:y=m:=by omega
  subst this;by_cases hx:x=y-1
  ·rw[hx];exact e
  ·exact S.tr _ _ _ (hp.lt _ hm) (hp.lt _ (by omega)) (hp.lt _ (by omega)) e (h x (y-1) (by omega) (by omega))
theorem Nk(S:Sto lt n){p:AQ Ag}(hp:Pm n p):∀(f m:Ag){Q:Ag->Prop},1<=m->m+f<=n->Ek lt p m->(∀ m',m<=m'->m'<=m+f->Ek lt p m'->(m'=m+f\/lt (at0 p m') (at0 p (m'-1))=Aa)->Q m')->Kr lt n (kas_asc p f m) Q
 |0,m,Q,h1,hf,hs,k=>k m (AU _) (by omega) hs (.inl (by omega))
 |f+1,m,Q,h1,hf,hs,k=>by
  refine⟨hp.lt _ (by omega),hp.lt _ (by omega),?_⟩
  cases e:lt (p.getD m 0) (p.getD (m-1) 0) with
  |true=>
   dsimp only;rw[Az rfl];exact k m (AU _) (by omega) hs (.inr e)
  |false=>
   dsimp only;rw[AH AJ];have ne:at0 p m≠at0 p (m-1):=fun z=>by have:=hp.inj _ _ (by omega) (by omega) z;omega
   have hs':=hs.succ S hp h1 (by omega) (S.tot _ _ (hp.lt _ (by omega)) (hp.lt _ (by omega)) ne e)
   exact Nk S hp f (m+1) (by omega) (by omega) hs' fun m' a b c d=>k m' (by omega) (by omega) c (d.imp (fun z=>by omega) id)
theorem UT(S:Sto lt n){p:AQ Ag}(hp:Pm n p):∀(f m:Ag){Q:AQ Ag×Ag×Ag->Prop},1<=m->m+f<=n->JF lt p m->(∀ m',m<=m'->m'<=m+f->JF lt p m'->Q (p,m',0))->Kr lt n (kas_desc f p m 0) Q
 |0,m,Q,h1,hf,hs,k=>k m (AU _) (by omega) hs
 |f+1,m,Q,h1,hf,hs,k=>by
  refine⟨hp.lt _ (by omega),hp.lt _ (by omega),?_⟩
  cases e:lt (p.getD m 0) (p.getD (m-1) 0) with
  |true=>
   dsimp only;rw[Az rfl,AH (by omega)]
   exact UT S hp f (m+1) (by omega) (by omega) (hs.succ S hp h1 (by omega) e) fun m' a b c=>k m' (by omega) (by omega) c
  |false=>
   dsimp only;rw[AH AJ];have ne:at0 p m≠at0 p (m-1):=fun z=>by have:=hp.inj _ _ (by omega) (by omega) z;omega
   refine⟨hp.lt _ (by omega),hp.lt _ (by omega),?_⟩
   have e2:lt (p.getD (m-1) 0) (p.getD m 0)=Aa:=S.tot _ _ (hp.lt _ (by omega)) (hp.lt _ (by omega)) ne e
   rw[e2];dsimp only;rw[Az rfl];exact k m (AU _) (by omega) hs
theorem LX{q:AQ Ag}(h:p[x]?=q[y]?):p.getD x 0=q.getD y 0:=by
 rw[DP,DP,h]
theorem Pz(hm:m<=p.size)(x:Ag):at0 (Kx p 0 m) x=if x<m then at0 p (m-1-x) else at0 p x:=by
 have e:=getElem?_mirror_all (xs:=p) (i:=0) (j:=m) hm x;by_cases h:x<m
 ·rw[Az h];rw[Az (by omega)]at e
  rw[show 0+m-1-x=m-1-x by omega]at e
  exact LX e
 ·rw[AH h];rw[AH (by omega)]at e
  exact LX e
theorem xB(h:(if x<m then m-1-x else x)=(if y<m then m-1-y else y)):x=y:=by
 split at h<;>split at h<;>omega
theorem UK(hp:Pm n p)(hm:m<=n):Pm n (Kx p 0 m):=by
 have hs:m<=p.size:=by rw[hp.sz];exact hm
 have at_:∀ x,at0 (Kx p 0 m) x=at0 p (if x<m then m-1-x else x):=fun x=>by
  rw[Pz hs];split<;>rfl
 have lt_:∀ x,x<n->(if x<m then m-1-x else x)<n:=fun x hx=>by
  split
  ·rename_i h;exact BS (Kg _ _) (AD (Kh (BS (CV _) h) JO) hm)
  ·exact hx
 refine⟨(mirror_size _ _ _ _).trans hp.sz,fun x hx=>?_,fun x y hx hy e=>?_⟩
 ·rw[at_];exact hp.lt _ (lt_ x hx)
 ·rw[at_,at_]at e;exact xB (hp.inj _ _ (lt_ x hx) (lt_ y hy) e)
theorem nI(hp:Pm n p)(hm:m<=n)(h:JF lt p m):Ek lt (Kx p 0 m) m:=fun x y hxy hy=>by
 have hs:m<=p.size:=by rw[hp.sz];exact hm
 rw[Pz hs,Pz hs,Az (by omega),Az hy]
 exact h _ _ (by omega) (by omega)
theorem kA(S:Sto lt n)(hp:Pm n p)(h1:1<=m)(hm:m<=n)(h:JF lt p m)(k:∀ m' q,m<=m'->m'<=n->Pm n q->Ek lt q m'->Q (m',q)):Kr lt n (kas_tail3 m n p) Q:=by
 refine Kr.bind (Nk S (UK hp hm) (n-m) m h1 (by omega) (nI hp hm h) fun m' a b c _=>?_)
 exact k m' _ a (by omega) (UK hp hm) c
theorem kB(S:Sto lt n)(hp:Pm n p)(h2:2<=n)(k:∀ m' q,1<=m'->m'<=n->Pm n q->Ek lt q m'->Q (m',q)):Kr lt n (Jm n p) Q:=by
 refine Kr.bind (Nk S hp (n-1) 1 (AU _) (HA (WW (BD (by decide) h2))) (fun x y a b=>absurd (BS (CV x) a) (EN.mpr (D5 b))) fun m a b c d=>?_)
 have b':m<=n:=BD b (HA (WW (BD (by decide) h2)))
 by_cases e:m=n
 ·rw[Az (by simp[e])]
  exact k m p a b' hp c
 ·rw[AH (by simp[e])]
  by_cases g:m > 1
  ·rw[Az g];have m1:m-1<m:=Kh a JO;refine⟨hp.lt _ (AD a b'),hp.lt _ (AD m1 b'),?_⟩;have c0:lt (p.getD 0 0) (p.getD (m-1) 0)=Aa:=c 0 (m-1) (Nat.sub_pos_of_lt g) m1;rw[c0];dsimp only;rw[Az rfl];exact k m p a b' hp c
  ·rw[AH g];have m1:m=1:=HZ (Nat.le_of_not_lt g) a;subst m1;have e1:lt (at0 p 1) (at0 p 0)=Aa:=by
    rcases d with d|d
    ·omega
    ·exact d
   have d2:JF lt p 2:=fun x y hxy hy=>by
    have:x=0/\y=1:=by omega
    obtain⟨rfl,rfl⟩:=this;exact e1
   refine Kr.bind (UT S hp (n-(1+1)) (1+1) (by omega) (by omega) d2 fun m' a' b' c'=>?_)
   show Kr lt n (if (0:Ag) > 0 then _ else kas_tail3 m' n p) Q
   rw[AH (by omega)]
   exact kA S hp (by omega) (by omega) c' fun m'' q x1 x2 x3 x4=>k m'' q (by omega) x2 x3 x4
theorem pQ{r:Ag}(h:l<r):∃ m,(l+r) / 2=m/\l<=m/\m<r:=⟨_,rfl,by omega,by omega⟩
theorem Pl(S:Sto lt n){p:AQ Ag}(hp:Pm n p){k:Ag}(hk:k<n)(hs:Ek lt p k):∀(f l r:Ag){Q:Ag->Prop},l<=r->r<=k->r-l<=f->(∀ x,x<l->lt (at0 p x) (at0 p k)=Aa)->(∀ x,r<=x->x<k->lt (at0 p k) (at0 p x)=Aa)->(∀ l',l'<=k->(∀ x,x<l'->lt (at0 p x) (at0 p k)=Aa)->(∀ x,l'<=x->x<k->lt (at0 p k) (at0 p x)=Aa)->Q l')->Kr lt n (kas_place p k f l r) Q
 |0,l,r,Q,h1,h2,h3,ha,hb,q=>q l (BD h1 h2) ha fun x hx=>hb x (BD (WX (Nat.le_zero.mp h3)) hx)
 |f+1,l,r,Q,h1,h2,h3,ha,hb,q=>by
  unfold kas_place;by_cases g:l ≥ r
  ·rw[Az g];exact q l (BD h1 h2) ha fun x hx=>hb x (BD g hx)
  ·rw[AH g];obtain⟨m,em,m1,m2⟩:=pQ (WZ g);rw[em];have hm:m<k:=AD m2 h2;have hmn:m<n:=FD hm hk;refine⟨hp.lt _ hk,hp.lt _ hmn,?_⟩;cases e:lt (p.getD k 0) (p.getD m 0) with
   |true=>
    dsimp only;rw[Az rfl];refine Pl S hp hk hs f l m m1 (DQ hm) (D5 (AD (W2 m1 m2) h3)) ha (fun x hx hxk=>?_) q
    by_cases hxm:x=m
    ·rw[hxm];exact e
    ·exact S.tr _ _ _ (hp.lt _ hk) (hp.lt _ hmn) (hp.lt _ (FD hxk hk)) e (hs _ x (EM hx (DK hxm)) hxk)
   |false=>
    dsimp only;rw[AH AJ];have ne:at0 p k≠at0 p m:=fun z=>absurd (hp.inj _ _ hk hmn z) (CT hm)
    have e2:=S.tot _ _ (hp.lt _ hk) (hp.lt _ hmn) ne e;refine Pl S hp hk hs f (m+1) r m2 h2 (D5 (AD (Nat.sub_lt_sub_left (BS m1 m2) (Nat.lt_succ_of_le m1)) h3)) (fun x hx=>?_) hb q
    by_cases hxm:x=m
    ·rw[hxm];exact e2
    ·have hx':x<m:=EM (D5 hx) hxm;exact S.tr _ _ _ (hp.lt _ (FD hx' hmn)) (hp.lt _ hmn) (hp.lt _ hk) (hs x _ hx' hm) e2
theorem Qg(hk:k<p.size)(hl:l<=k)(x:Ag):at0 (bubble p k (k-l)) x=if x=l then at0 p k else if l<x/\x<=k then at0 p (x-1) else at0 p x:=by
 have e:=getElem?_bubble hk (k-l) (by omega) x
 rw[show k-(k-l)=l by omega]at e
 split
 ·rename_i h;rw[Az h]at e;exact LX e
 ·rename_i h;rw[AH h]at e;split
  ·rename_i g;rw[Az g]at e;exact LX e
  ·rename_i g;rw[AH g]at e;exact LX e
noncomputable def Ix(k l x:Ag):Ag:=if x=l then k else if l<x/\x<=k then x-1 else x
theorem dA(hl:l<=k)(h:Ix k l x=Ix k l y):x=y:=by
 have key:∀ z,(z=l/\Ix k l z=k)\/(l<z/\z<=k/\z=Ix k l z+1)\/((z<l\/k<z)/\Ix k l z=z):=fun z=>by
  unfold Ix;by_cases h1:z=l
  ·exact .inl ⟨h1,Az h1⟩
  ·rw[AH h1];by_cases h2:l<z/\z<=k
   ·rw[Az h2];exact .inr (.inl ⟨h2.1,h2.2,(Nat.succ_pred_eq_of_pos (BS (CV l) h2.1)).symm⟩)
   ·rw[AH h2];exact .inr (.inr ⟨(Nat.lt_or_gt_of_ne h1).imp id fun q=>WZ fun q'=>h2 ⟨q,q'⟩,rfl⟩)
 have k1:=key x;have k2:=key y;rw[h]at k1
 clear key h
 omega
theorem Po(hk:k<n)(hx:x<n):Ix k l x<n:=by
 unfold Ix;split
 ·exact hk
 ·split
  ·exact BS (Kg _ _) hx
  ·exact hx
theorem qY(hp:Pm n p)(hk:k<n)(hl:l<=k):Pm n (bubble p k (k-l)):=by
 have hs:k<p.size:=by rw[hp.sz];exact hk
 have at_:∀ x,at0 (bubble p k (k-l)) x=at0 p (Ix k l x):=fun x=>by
  rw[Qg hs hl];unfold Ix;split
  ·rfl
  ·split<;>rfl
 refine⟨(bubble_size _ _ _).trans hp.sz,fun x hx=>?_,fun x y hx hy e=>?_⟩
 ·rw[at_];exact hp.lt _ (Po hk hx)
 ·rw[at_,at_]at e;exact dA hl (hp.inj _ _ (Po hk hx) (Po hk hy) e)
theorem Vw(S:Sto lt n):∀(f:Ag){p:AQ Ag}{k:Ag}{Q:AQ Ag->Prop},Pm n p->k+f=n->Ek lt p k->(∀ q,Pm n q->Ek lt q n->Q q)->Kr lt n (kas_bin f p k) Q
 |0,p,k,Q,hp,hk,hs,q=>by
  have:k=n:=by omega
  subst this;exact q p hp hs
 |f+1,p,k,Q,hp,hk,hs,q=>by
  have hkn:k<n:=by omega
  have hsz:k<p.size:=by rw[hp.sz];exact hkn
  refine Kr.bind (Pl S hp hkn hs k 0 k (CV _) (AU _) (Kg _ _) (fun x hx=>absurd hx (Ft _)) (fun x a b=>absurd b (EN.mpr a)) fun l hl ha hb=>?_)
  refine Vw S f (qY hp hkn hl) (by omega) (fun x y hxy hy=>?_) q
  have y2:y<=k:=D5 hy;have py:y-1<k:=AD (Kh (BS (CV _) hxy) JO) y2;rw[Qg hsz hl,Qg hsz hl];by_cases x1:x=l
  ·have ly:l<y:=x1 ▸ hxy;rw[Az x1,AH (CT ly),Az ⟨ly,y2⟩];exact hb _ (WY ly) py
  ·rw[AH x1];by_cases x2:l<x/\x<=k
   ·have ly:l<y:=FD x2.1 hxy;rw[Az x2,AH (CT ly),Az ⟨ly,y2⟩];exact hs _ _ (W2 (BS (CV _) x2.1) hxy) py
   ·rw[AH x2];have xl:x<l:=EM (Nat.le_of_not_lt fun z=>x2 ⟨z,DQ (AD hxy y2)⟩) x1
    by_cases y1:y=l
    ·rw[Az y1];exact ha _ xl
    ·rw[AH y1];by_cases y3:l<y/\y<=k
     ·rw[Az y3];exact hs _ _ (AD xl (WY y3.1)) py
     ·rw[AH y3];exact hs _ _ hxy (AD (EM (Nat.le_of_not_lt fun z=>y3 ⟨z,y2⟩) y1) hl)
theorem KD(n:Ag):Pm n (BB (Bb n)):=by
 have e:∀ x,x<n->at0 (BB (Bb n)) x=x:=fun x hx=>by simp[at0,We,hx]
 exact⟨by simp,fun x hx=>by rw[e x hx];exact hx,fun x y hx hy h=>by rw[e x hx,e y hy]at h;exact h⟩
theorem pZ(S:Sto lt n)(h2:2<=n):Kr lt n (kas_sort n) (fun q=>Pm n q/\Ek lt q n):=by
 refine Kr.bind (kB S (KD n) h2 fun m q h1 hm hq hs=>?_)
 by_cases h:m<n
 ·rw[Az h];have mx:max m 1=m:=by omega
  rw[mx];exact Vw S (n-m) hq (by omega) hs fun q a b=>⟨a,b⟩
 ·rw[AH h];have:m=n:=by omega
  subst this;exact⟨hq,hs⟩
end
theorem UO:∀(f n r:Ag),r<=1->minRun' f n r<=n+r
 |0,n,r,_=>AU _
 |f+1,n,r,h=>by
  rw[minRun'_succ];split
  ·exact AU _
  ·have:=UO f (n / 2) (max r (n%2)) (by omega)
   omega
section
variable{prog:A8}{w:AN}{A:Bu}{E:Vq}{κ:SortKind}{it:AQ Keyed}
theorem cV{Q:JR->Lj->Ap->Prop}(h2:2<=n)(hG:∀ p' st' s',p'.size=n->IE st'=p'.map (IF it)->GM st'=Af->G p' s'->Q () st' s')(h:(Jm n (BB (Bb n))).kasWp (kas_cmp prog w A κ it) (fun r s'=>r.1=n/\G r.2 s') s):kasC (model prog w) A E Lf Q (Jn κ it (BB (Bb n))) s:=by
 obtain⟨r,rfl⟩:∃ r,n=r+2:=⟨n-2,by omega⟩
 have hrs:(BB (Bb (r+2))).size=r+2:=by simp
 rw[sortRuns'_eq];refine Gi (Lp ?_);dsimp only;have hsz:(IE (Jn κ it (BB (Bb (r+2))))).size=r+2:=by
  show ((BB (Bb (r+2))).map (IF it)).size=_;rw[Array.size_map,hrs]
 have hmr:=UO (r+2) (r+2) 0 (by omega)
 simp only[hsz];generalize minRun' (r+2) (r+2) 0=mr at *;refine Gi (kasC_range ?_);show kasC _ _ _ (forIn (0::1::JM 2 r) _ _) _ _ _;refine Lh ?_;dsimp only;rw[AH (by omega)]
 simp only[Nat.sub_zero,Nat.zero_add];refine Gi (kas_count_ (by omega) (by rw[hrs];exact AU _) (fun m p' s' hm1 hm2 hp hg=>?_) h)
 have hps:p'.size=r+2:=hp.trans hrs;dsimp only;obtain⟨hm,hg'⟩:=hg;replace hm:m=r+2:=hm;subst hm;rw[AH (by omega)]
 refine Gi (Lp ?_);rw[show (Le (Jn κ it p')).back?=Af from rfl]
 dsimp only;refine Gi (kasC_modify (Jl ?_));show kasC _ _ _ (forIn (1::JM 2 r) _ _) _ _ _;refine Lh ?_;dsimp only;rw[Az (AU _)];refine Jl ?_;dsimp only;refine Gi (kasC_range ?_);show kasC _ _ _ (forIn (0::1::JM 2 r) _ _) _ _ _;refine Lh ?_;refine Gi (Lp ?_);rw[Az (show (Le (setPending (Jn κ it p') ((Le (Jn κ it p')).push (0,r+2,0)))).size<=1 from AU 1)]
 refine Jl ?_;dsimp only;exact Jl (hG p' _ _ hps rfl rfl hg')
theorem dO{ks:Ac Ai}{Q:Lj->Ap->Prop}(hl:ks.length=vs.length)(h2:2<=vs.length)(hG:∀ p st' s',p.size=vs.length->IE st'=p.map (IF (ks.toArray.zip vs.toArray))->GM st'=Af->G p s'->Q st' s')(h:(Jm vs.length (BB (Bb vs.length))).kasWp (kas_ask prog w A κ ks) (fun r s'=>r.1=vs.length/\G r.2 s') s):AB (model prog w) A ((Lf).run (Gq κ (ks.toArray.zip vs.toArray) #[] 7 Af)) (fun r s'=>Q r.2 s') E s:=by
 rw[kat_ask_eq hl]at h;have run:=cV (E:=E) (Q:=fun _ st' s'=>Q st' s') h2 hG h
 have est:Gq κ (ks.toArray.zip vs.toArray) #[] 7 Af=Jn κ (ks.toArray.zip vs.toArray) (BB (Bb vs.length)):=by
  have e:=kas_range (ks.toArray.zip vs.toArray);rw[show (ks.toArray.zip vs.toArray).size=vs.length by simp[hl]]at e
  show Gq κ (ks.toArray.zip vs.toArray) #[] 7 Af=Gq κ ((BB (Bb vs.length)).map (IF (ks.toArray.zip vs.toArray))) #[] 7 Af;rw[e]
 rw[est];exact run
end
section
variable{lt:Ag->Ag->Ao}{n:Ag}
theorem Zc(S:Sto lt n)(h2:2<=n)(hs:Ek lt (BB (Bb n)) n):Kr lt n (Jm n (BB (Bb n))) (fun r=>r.1=n/\Pm n r.2/\Ek lt r.2 n):=by
 refine Kr.bind (Nk S (KD n) (n-1) 1 (AU _) (by omega) (fun x y a b=>by omega) fun m a b c d=>?_)
 have e:m=n:=by
  rcases d with d|d
  ·omega
  ·refine Eb fun ne=>?_
   have q:=hs (m-1) m (by omega) (by omega)
   have:=S.asy _ _ ((KD n).lt _ (by omega)) ((KD n).lt _ (by omega)) q
   rw[this]at d;cases d
 rw[Az (by simp[e])]
 subst e;exact⟨rfl,KD _,hs⟩
end
def Hd(h:AS)(v:Ai)(r:Ac Ae):Prop:=∃ a its,v=.ref a/\JG h a its/\C7 its.toList r/\r≠[]
theorem Hd.kept{h h':AS}(t:Hd h v r)(k:∀ b o,h.get? b=Ab o->h'.get? b=Ab o):Hd h' v r:=by
 obtain⟨a,its,e,⟨o,ho,q⟩,i,n⟩:=t;exact⟨a,its,e,⟨o,k _ _ ho,q⟩,i,n⟩
noncomputable def BP:Ac Ae->Ac Ae->Ao
 |[],[]=>Ad
 |[],_::_=>Aa
 |_::_,[]=>Ad
 |x::xs,y::ys=>if x=y then BP xs ys else decide (x<y)
section
variable{prog:A8}{w:AN}{A:Bu}{E:Vq}{s:Ap}
theorem US{C:Ao->Ap->Prop}:∀{vs us:Ac Ai}{r q:Ac Ae}(i:Ag),C7 vs r->C7 us q->C (BP r q) s->KatLex prog w A Aa (decide (vs.length<us.length)) C (vs.zip us) i s
 |[],[],[],[],i,_,_,h=>by
  have h':C Ad s:=h;exact kat_nil h'
 |[],u::us,[],y::q,i,_,_,h=>by
  have h':C Aa s:=h;refine kat_nil ?_;have e:decide (([]:Ac Ai).length<(u::us).length)=Aa:=by simp
  rw[e];exact h'
 |v::vs,[],x::r,[],i,_,_,h=>by
  have h':C Ad s:=h;exact kat_nil h'
 |v::vs,u::us,x::r,y::q,i,hv,hu,h=>by
  cases hv with
  |cons _ tv hv=>
   cases hu with
   |cons _ tu hu=>
    have e0:decide ((H9 x tv::vs).length<(H9 y tu::us).length)=decide (vs.length<us.length):=by simp
    rw[e0];refine kat_cons (F8 ?_);by_cases e:x=y
    ·have e1:(x==y)=Aa:=by simp[e]
     rw[e1];refine kat_yes (US (i+1) hv hu ?_);have h':C (if x=y then BP r q else decide (x<y)) s:=h
     rw[Az e]at h';exact h'
    ·have e1:(x==y)=Ad:=by simp[e]
     rw[e1];have h':C (decide (x<y)) s:=by
      have h':C (if x=y then BP r q else decide (x<y)) s:=h
      rwa [AH e]at h'
     refine kat_no ?_;cases i with
     |zero=>exact oneLt_int h'
     |succ i=>
      have e2:(Aa&&(i+1==0))=Ad:=rfl;rw[e2];exact kat_one _ _ (wpAny_lt_int h')
 |[],_,_::_,_,_,hv,_,_=>nomatch hv
 |_::_,_,[],_,_,hv,_,_=>nomatch hv
 |_,[],_,_::_,_,_,hu,_=>nomatch hu
 |_,_::_,_,[],_,_,hu,_=>nomatch hu
theorem lL{C:Ao->Ap->Prop}{u:Ai}{q:Ac Ae}(hv:Hd s.heap v r)(hu:Hd s.heap u q)(h:C (BP r q) s):AB (model prog w) A (keyLt' (tuples' Aa) v u) C E s:=by
 obtain⟨a,xs,rfl,⟨oa,ga,_,n,da⟩,ix,_⟩:=hv;obtain⟨b,ys,rfl,⟨ob,gb,_,m,db⟩,iy,_⟩:=hu;refine kat_lt ga da gb db ?_;have:=US (prog:=prog) (w:=w) (A:=A) (s:=s) 0 ix iy h;simpa using this
theorem MG:∀{r q:Ac Ae},BP r q=Aa->BP q r=Ad
 |[],[],h=>by cases h
 |[],_::_,_=>rfl
 |_::_,[],h=>by cases h
 |x::r,y::q,h=>by
  have h':(if x=y then BP r q else decide (x<y))=Aa:=h
  show (if y=x then BP q r else decide (y<x))=Ad
  by_cases e:x=y
  ·rw[Az e]at h';rw[Az e.symm];exact MG h'
  ·rw[AH e,AK]at h';rw[AH (DK e),Cs];omega
theorem MF:∀{r q:Ac Ae},r≠q->BP r q=Ad->BP q r=Aa
 |[],[],n,_=>absurd rfl n
 |[],_::_,_,h=>by cases h
 |_::_,[],_,_=>rfl
 |x::r,y::q,n,h=>by
  have h':(if x=y then BP r q else decide (x<y))=Ad:=h
  show (if y=x then BP q r else decide (y<x))=Aa
  by_cases e:x=y
  ·rw[Az e]at h';rw[Az e.symm];exact MF (fun z=>n (by rw[e,z])) h'
  ·rw[AH e,Cs]at h';rw[AH (DK e),AK];omega
theorem MU:∀{r q t:Ac Ae},BP r q=Aa->BP q t=Aa->BP r t=Aa
 |[],[],_,h,_=>by cases h
 |_::_,[],_,h,_=>by cases h
 |_,_::_,[],_,h=>by cases h
 |[],_::_,_::_,_,_=>rfl
 |x::r,y::q,u::t,h,g=>by
  have h':(if x=y then BP r q else decide (x<y))=Aa:=h
  have g':(if y=u then BP q t else decide (y<u))=Aa:=g
  show (if x=u then BP r t else decide (x<u))=Aa
  by_cases e:x=y
  ·rw[Az e]at h';by_cases f:y=u
   ·rw[Az f]at g';rw[Az (e.trans f)];exact MU h' g'
   ·rw[AH f,AK]at g';rw[AH (by omega),AK]
    omega
  ·rw[AH e,AK]at h';by_cases f:y=u
   ·rw[AH (by omega),AK]
    omega
   ·rw[AH f,AK]at g';rw[AH (by omega),AK]
    omega
noncomputable def ltR(rs:Ac (Ac Ae))(i j:Ag):Ao:=BP (rs.getD i []) (rs.getD j [])
theorem cM(nd:rs.Nodup):Sto (ltR rs) rs.length:=by
 refine⟨fun i j k _ _ _=>MU,fun i j hi hj ne h=>MF (fun e=>ne ?_) h,fun i j _ _=>MG⟩
 have h':=Ee.mp nd;rw[A6,A6,AV hi,AV hj]at e;have e':rs[i]=rs[j]:=e;rcases Nat.lt_trichotomy i j with z|z|z
 ·exact absurd e' (h' i j hi hj z)
 ·exact z
 ·exact absurd e'.symm (h' j i hj hi z)
noncomputable abbrev JD(vs:Ac Ai)(p:AQ Ag):AQ Ai:=BB (p.toList.map fun i=>vs.getD i Dh)
theorem aC(vs:Ac Ai):JD vs (BB (Bb vs.length))=vs.toArray:=by
 apply Hv.mp
 show (Bb vs.length).map (fun i=>vs.getD i Dh)=vs
 apply Wx
 ·simp
 ·intro i h1 h2;simp[h2]
theorem Sw{h:AS}:∀{vs:Ac Ai}{rs:Ac (Ac Ae)},rs.length=vs.length->(∀(i:Ag)(v:Ai)(r:Ac Ae),vs[i]?=Ab v->rs[i]?=Ab r->Hd h v r)->∃ fs,KatTups h vs fs/\fs.length=vs.length/\∀ v∈fs,∃ x t,v=H9 x t
 |[],_,_,_=>⟨[],KatTups.nil,rfl,fun v hv=>by cases hv⟩
 |v::vs,[],hl,_=>by cases hl
 |v::vs,r::rs,hl,ht=>by
  obtain⟨fs,h1,h2,h3⟩:=Sw (vs:=vs) (rs:=rs) (by simpa using hl) fun i v r a b=>ht (i+1) v r a b
  obtain⟨a,its,rfl,⟨o,ho,hc,n,hd⟩,hi,hne⟩:=ht 0 v r rfl rfl;cases e:its.toList with
  |nil=>
   rw[e]at hi;cases hi;exact absurd rfl hne
  |cons f l=>
   rw[e]at hi;cases hi with
   |cons x t hi=>
    refine⟨.int x t::fs,KatTups.cons ho hc hd ?_ h1,by simp[h2],fun v hv=>?_⟩
    ·rw[<-ET,e];rfl
    ·rcases Ax.mp hv with rfl|hv
     ·exact⟨x,t,rfl⟩
     ·exact h3 v hv
theorem Y9{a:Ak}{P:PySem.Fin->Ap->Prop}(ho:s.heap.get? a=Ab (Cq "list" vs.toArray n))(hr:rs.length=vs.length)(ht:∀(i:Ag)(v:Ai)(r:Ac Ae),vs[i]?=Ab v->rs[i]?=Ab r->Hd s.heap v r)(nd:rs.Nodup)(h64:vs.length<64\/(Ek (ltR rs) (BB (Bb vs.length)) vs.length/\vs.length<=1000))(h:∀ p:AQ Ag,Pm vs.length p->Ek (ltR rs) p vs.length->P (.done (.ret .none)) {s with heap:=sortedHeap s.heap a vs (JD vs p)}):AB (model prog w) A (Builtin.«list.sort» ⟨[.ref a],[]⟩) P E s:=by
 have hz:vs.length<=1000:=h64.elim (fun h=>by omega) fun h=>h.2
 rw[list_sort_plain];have ha:a<s.heap.objs.size:=AG ho;refine Ah (listItems_at ho rfl ?_ );refine Ah (listUpdate_at ho rfl ?_ (by rw[AE,CW];omega) (CV _))
 obtain⟨e1,ho1⟩:∃ e1,(s.heap.update a (By fun _=>(#[]:AQ Ai))).get? a=Ab (Cq "list" #[] e1):=⟨_,get?_update_seq ho (fun _=>#[])⟩
 refine Ah (seqEpoch_at ho1 rfl ?_);refine Ah (GP ?_ (by show vs.length<=_;rw[CW];omega))
 refine Ah (wpAny_newList ?_ (CV _));refine Ce ?_;have ho6:(((s.heap.update a (By fun _=>(#[]:AQ Ai))).push (Cq "tuple" vs.toArray 0)).push (Cq "list" #[] 0)).get? a=Ab (Cq "list" #[] e1):=by
  rw[FW _ _ _ (by rw[size_push',HB];exact A1 (CY ha)),FW _ _ _ (by rw[HB];exact A1 ha)]
  exact ho1
 show AB (model prog w) A _ P E { s with heap:=((s.heap.update a (By fun _=>(#[]:AQ Ai))).push (Cq "tuple" vs.toArray 0)).push (Cq "list" #[] 0) }
 have kt:∀(i:Ag)(v:Ai)(r:Ac Ae),vs[i]?=Ab v->rs[i]?=Ab r->Hd (((s.heap.update a (By fun _=>(#[]:AQ Ai))).push (Cq "tuple" vs.toArray 0)).push (Cq "list" #[] 0)) v r:=fun i v r h1 h2=>by
  obtain⟨b,its,e,⟨o,hb,hc,q⟩,x,y⟩:=ht i v r h1 h2;have ne:b≠a:=fun z=>by
   rw[z,ho]at hb;cases hb;have hc':DO "list" = DO "tuple" := hc
   injection hc' with hc'
   exact absurd hc' (by decide)
  refine⟨b,its,e,⟨o,?_,hc,q⟩,x,y⟩;exact As _ (As _ ((Dm _ _ (DK ne)).trans hb))
 dsimp only;have hsz:vs.toArray.size=vs.length:=by simp
 have fin:∀ p:AQ Ag,Pm vs.length p->Ek (ltR rs) p vs.length->∀ st':Lj,(IE st').map (·.2)=JD vs p->GM st'=Af->∀ s':Ap,s'={ s with heap:=((s.heap.update a (By fun _=>(#[]:AQ Ai))).push (Cq "tuple" vs.toArray 0)).push (Cq "list" #[] 0) }->AB (model prog w) A (do
   let sorted:=(IE st').map (·.2)
   let touched:=(<-seqEpoch a) != e1
   Builtin.List.listUpdate (.ref a) fun _=>sorted
   if let Ab e:=GM st' then rule "list.sort.comparison-raised"; throw e
   if touched then rule "list.sort.modified"; raiseError "ValueError" "list modified during sort"
   ret .none) P E s':=fun p hp hs st' ho' hf s' es=>by
  subst es;have osz:(JD vs p).size=vs.length:=by show (BB (p.toList.map _)).size=_;rw[AE,Bp,C1,hp.sz]
  refine Ah (seqEpoch_at ho6 rfl ?_);rw[ho',hf];refine Ah (listUpdate_at ho6 rfl ?_ (CV _) (by rw[osz,CW];omega))
  simp only[bne_self_eq_false,FA,GZ];exact Aw (h p hp hs)
 by_cases h2:vs.toArray.size<2
 ·rw[Az h2,Az h2];refine Ah (Aw ?_);rw[StateT.run_pure];refine Ah (Aw ?_);dsimp only;refine fin (BB (Bb vs.length)) (KD _) (fun x y a b=>by omega) (Gq general' (vs.toArray.zip vs.toArray) #[] 7 Af) ?_ rfl _ rfl
  rw[aC];show (vs.toArray.zip vs.toArray).map (·.2)=vs.toArray
  apply Hv.mp
  simp[List.map_snd_zip]
 ·rw[AH h2,AH h2];have h2':2<=vs.length:=by rw[hsz]at h2;omega
  obtain⟨fs,t1,t2,t3⟩:=Sw hr kt;refine Ah (kat_kind t1 (by omega) (T:=DO "int") (fun v hv=>?_) rfl ?_)
  ·obtain⟨x,t,rfl⟩:=t3 v hv;exact .now
  ·have e0:tuples' (DO "int" != DO "tuple")=tuples' Aa:=rfl;rw[e0];have S:=cM nd;rw[hr]at S;have ask:∀(i j:Ag)(C:Ao->Ap->Prop),i<vs.length->j<vs.length->C (ltR rs i j) { s with heap:=((s.heap.update a (By fun _=>(#[]:AQ Ai))).push (Cq "tuple" vs.toArray 0)).push (Cq "list" #[] 0) }->kas_ask prog w A (tuples' Aa) vs i j C { s with heap:=((s.heap.update a (By fun _=>(#[]:AQ Ai))).push (Cq "tuple" vs.toArray 0)).push (Cq "list" #[] 0) }:=fun i j C hi hj hC=>by
    have gi:vs[i]?=Ab vs[i]:=AV hi;have gj:vs[j]?=Ab vs[j]:=AV hj;have ri:rs[i]?=Ab rs[i]:=AV (by omega)
    have rj:rs[j]?=Ab rs[j]:=AV (by omega)
    show AB (model prog w) A (keyLt' (tuples' Aa) (vs.getD i Dh) (vs.getD j Dh)) C (fun _ _=>BK) _
    rw[A6,A6,gi,gj];refine lL (kt i _ _ gi ri) (kt j _ _ gj rj) ?_;have:ltR rs i j=BP rs[i] rs[j]:=by unfold ltR;rw[A6,A6,ri,rj];rfl
    rw[<-this];exact hC
   have hq:∀(p:AQ Ag)(st':Lj)(s':Ap),p.size=vs.length->IE st'=p.map (IF (vs.toArray.zip vs.toArray))->GM st'=Af->(fun p s'=>Pm vs.length p/\Ek (ltR rs) p vs.length/\s'={ s with heap:=((s.heap.update a (By fun _=>(#[]:AQ Ai))).push (Cq "tuple" vs.toArray 0)).push (Cq "list" #[] 0) }) p s'->(fun st' s'=>∃ p,Pm vs.length p/\Ek (ltR rs) p vs.length/\(IE st').map (·.2)=JD vs p/\GM st'=Af/\s'={ s with heap:=((s.heap.update a (By fun _=>(#[]:AQ Ai))).push (Cq "tuple" vs.toArray 0)).push (Cq "list" #[] 0) }) st' s':=fun p st' s' _ ha hf hg=>⟨p,hg.1,hg.2.1,kat_snds rfl ha,hf,hg.2.2⟩
   refine Ah (CK (show AB (model prog w) A ((Lf).run (Gq (tuples' Aa) (vs.toArray.zip vs.toArray) #[] 7 Af)) (fun r s'=>(fun st' s'=>∃ p,Pm vs.length p/\Ek (ltR rs) p vs.length/\(IE st').map (·.2)=JD vs p/\GM st'=Af/\s'={ s with heap:=((s.heap.update a (By fun _=>(#[]:AQ Ai))).push (Cq "tuple" vs.toArray 0)).push (Cq "list" #[] 0) }) r.2 s') E _ from ?_) ?_ fun _ _ e=>e)
   ·rcases h64 with h64|⟨h64,_⟩
    ·exact kat_run (ks:=vs) (vs:=vs) (κ:=tuples' Aa) rfl h2' h64 hq (Kr.wp ask (pZ S h2') fun p hp=>⟨hp.1,hp.2,rfl⟩)
    ·exact dO (ks:=vs) (vs:=vs) (κ:=tuples' Aa) rfl h2' hq (Kr.wp ask (Zc S h2' h64) fun r hr=>⟨hr.1,hr.2.1,hr.2.2,rfl⟩)
   ·rintro⟨⟨⟩,st'⟩ s' ⟨p,hp,hs,ho',hf,es⟩;exact fin p hp hs st' ho' hf s' es
theorem ZD{l:Ak}{Q:Vq}(hl:s.heap.IsList l vs.toArray)(hr:rs.length=vs.length)(ht:∀(i:Ag)(v:Ai)(r:Ac Ae),vs[i]?=Ab v->rs[i]?=Ab r->Hd s.heap v r)(nd:rs.Nodup)(h64:vs.length<64\/(Ek (ltR rs) (BB (Bb vs.length)) vs.length/\vs.length<=1000))(h:∀ p:AQ Ag,Pm vs.length p->Ek (ltR rs) p vs.length->Q (.ref (s.heap.objs.size+1)) {s with heap:=sortedAll s.heap vs (JD vs p)}):
    AB (model prog w) A (call (.builtin "sorted") [.ref l]) Q E s:=by
  have hz:vs.length<=1000:=h64.elim (fun h=>by omega) fun h=>h.2
  refine Calls.call_function_entry kind_sorted plain_sorted entry_sorted (args_sorted1 _) ?_;unfold Builtin.«sorted»;refine Ah (m:=checkCount "sorted" 1 1 _) (Aw ?_);refine Ah (collect_list hl ?_ (by rw[CW];omega))
  refine Ah (wpAny_newList ?_ (by rw[CW];omega))
  have hsz:((s.heap.push (Cq "list" #[] 0)).update s.heap.objs.size (By (· ++ vs.toArray))).objs.size=s.heap.objs.size+1:=by
    rw[HB,size_push']
  have hoL:(((s.heap.push (Cq "list" #[] 0)).update s.heap.objs.size (By (· ++ vs.toArray))).push (Cq "list" vs.toArray 0)).get? (s.heap.objs.size+1)=Ab (Cq "list" vs.toArray 0):=by
    rw[<-hsz];exact AC _ rfl
  have keep:∀ b o,s.heap.get? b=Ab o->(((s.heap.push (Cq "list" #[] 0)).update s.heap.objs.size (By (· ++ vs.toArray))).push (Cq "list" vs.toArray 0)).get? b=Ab o:=fun b o q=>by
    have hlt:b<s.heap.objs.size:=AG q;rw[FW _ _ _ (by rw[hsz];exact A1 (CY hlt)),Heap.get?_update_ne _ _ _ _ (A1 hlt),FW _ _ _ (A1 hlt)]
    exact q
  show AB _ _ _ _ _ { s with heap:=((s.heap.push (Cq "list" #[] 0)).update s.heap.objs.size (By (· ++ vs.toArray))).push (Cq "list" vs.toArray 0) }
  rw[hsz];refine Ah (Ce (CH slot_list_sort ⟨_,hoL,rfl⟩ entry_list_sort (Y9 (s:={ s with heap:=((s.heap.push (Cq "list" #[] 0)).update s.heap.objs.size (By (· ++ vs.toArray))).push (Cq "list" vs.toArray 0) }) hoL hr (fun i v r h1 h2=>(ht i v r h1 h2).kept keep) nd h64 fun p hp hs=>⟨_,rfl,?_⟩) (args_list_sort _)))
  exact Aw ⟨_,rfl,h p hp hs⟩
end
end Ov
section
namespace Ov
noncomputable def tI(r:Ac Ae):D:=.tup (r.map D.int)
theorem OL:∀(r q:Ac Ae),eqDs (r.map D.int) (q.map D.int)=decide (r=q)
 |[],[]=>rfl
 |[],_::_=>rfl
 |_::_,[]=>rfl
 |x::r,y::q=>by
  have e:eqDs ((x::r).map D.int) ((y::q).map D.int)=(x==y&&eqDs (r.map D.int) (q.map D.int)):=rfl;rw[e,OL r q];by_cases h:x=y<;>by_cases g:r=q<;>simp[h,g]
theorem U4(r q:Ac Ae):eqD (tI r) (tI q)=decide (r=q):=OL r q
theorem Sk:∀(r q:Ac Ae),ltD.ltDs (ltD 0) (r.map D.int) (q.map D.int)=BP r q
 |[],[]=>rfl
 |[],_::_=>rfl
 |_::_,[]=>rfl
 |x::r,y::q=>by
  have e:ltD.ltDs (ltD 0) ((x::r).map D.int) ((y::q).map D.int)=if (x==y)=Aa then ltD.ltDs (ltD 0) (r.map D.int) (q.map D.int) else decide (x<y):=rfl
  have e':BP (x::r) (y::q)=if x=y then BP r q else decide (x<y):=rfl
  rw[e,e',Sk r q];by_cases h:x=y<;>simp[h]
theorem M6(r q:Ac Ae):ltD 1 (tI r) (tI q)=BP r q:=Sk r q
theorem Tt:∀{xs:Ac D},xs.all (rkD 0)=Aa->∃ r:Ac Ae,xs=r.map D.int
 |[],_=>⟨[],rfl⟩
 |x::xs,h=>by
  rw[EJ,An]at h;obtain⟨r,e⟩:=Tt h.2;cases x with
  |int i=>exact⟨i::r,by rw[e];rfl⟩
  |_=>cases h.1
theorem xA{d:D}(h:rkD 1 d=Aa):∃ r,d=tI r:=by
 cases d with
 |tup xs=>
  obtain⟨r,e⟩:=Tt (xs:=xs) h;exact⟨r,by rw[e];rfl⟩
 |_=>cases h
theorem Px:∀{xs:Ac D},xs.all (fun d=>rkD 1 d && !eqD d (.tup []))=Aa->∃ rs:Ac (Ac Ae),xs=rs.map tI/\∀ r∈rs,r≠[]
 |[],_=>⟨[],rfl,fun r h=>by cases h⟩
 |x::xs,h=>by
  rw[EJ,An,An]at h;obtain⟨rs,e,hn⟩:=Px h.2;obtain⟨r,e1⟩:=xA h.1.1;refine⟨r::rs,by rw[e,e1];rfl,fun q hq=>?_⟩
  rcases Ax.mp hq with rfl|hq
  ·intro z;have h2:=h.1.2;rw[e1,z]at h2;cases h2
  ·exact hn q hq
theorem Py:∀{rs:Ac (Ac Ae)},(∀ r∈rs,r≠[])->(rs.map tI).all (fun d=>rkD 1 d && !eqD d (.tup []))=Aa
 |[],_=>rfl
 |r::rs,h=>by
  rw[BQ,EJ,An,An];refine⟨⟨?_,?_⟩,Py fun q hq=>h q (Au _ hq)⟩
  ·show (r.map D.int).all (rkD 0)=Aa;rw[Ck];intro d hd;obtain⟨i,_,rfl⟩:=Cw.mp hd;rfl
  ·have e:eqD (tI r) (.tup [])=decide (r=[]):=OL r [];rw[e];have:=h r (Ay ..);simp[this]
noncomputable def Iu(x:Ac Ae):Ac (Ac Ae)->Ac (Ac Ae)
 |[]=>[x]
 |y::ys=>if BP y x=Aa then y::Iu x ys else x::y::ys
noncomputable def IY:Ac (Ac Ae)->Ac (Ac Ae)
 |[]=>[]
 |x::xs=>Iu x (IY xs)
theorem UV(x:Ac Ae):∀ ys:Ac (Ac Ae),K8 (ltD 1) (tI x) (ys.map tI)=(Iu x ys).map tI
 |[]=>rfl
 |y::ys=>by
  have e:K8 (ltD 1) (tI x) ((y::ys).map tI)=if ltD 1 (tI y) (tI x)=Aa then tI y::K8 (ltD 1) (tI x) (ys.map tI) else tI x::tI y::ys.map tI:=rfl
  have e':Iu x (y::ys)=if BP y x=Aa then y::Iu x ys else x::y::ys:=rfl
  rw[e,e',M6,UV x ys];by_cases h:BP y x=Aa<;>simp[h]
theorem Pa:∀ rs:Ac (Ac Ae),Nm (ltD 1) (rs.map tI)=(IY rs).map tI
 |[]=>rfl
 |r::rs=>by
  show K8 (ltD 1) (tI r) (Nm (ltD 1) (rs.map tI))=(Iu r (IY rs)).map tI;rw[Pa rs,UV]
theorem OQ(x:Ac Ae):∀ ys:Ac (Ac Ae),(Iu x ys).Perm (x::ys)
 |[]=>.refl _
 |y::ys=>by
  show (if BP y x=Aa then y::Iu x ys else x::y::ys).Perm _
  split
  ·exact(Iy y (OQ x ys)).trans (List.Perm.swap ..)
  ·exact .refl _
theorem OH:∀ rs:Ac (Ac Ae),(IY rs).Perm rs
 |[]=>.refl _
 |r::rs=>(OQ r _).trans (Iy r (OH rs))
theorem UW(x:Ac Ae):∀{ys:Ac (Ac Ae)},x∉ys->ys.Pairwise (fun a b=>BP a b=Aa)->(Iu x ys).Pairwise (fun a b=>BP a b=Aa)
 |[],_,_=>WQ ..
 |y::ys,hx,h=>by
  show (if BP y x=Aa then y::Iu x ys else x::y::ys).Pairwise _
  obtain⟨h1,h2⟩:=EL.mp h;by_cases g:BP y x=Aa
  ·rw[Az g];refine EL.mpr ⟨fun z hz=>?_,UW x (fun m=>hx (Au _ m)) h2⟩
   rcases Ax.mp ((OQ x ys).mem_iff.mp hz) with rfl|hz
   ·exact g
   ·exact h1 z hz
  ·rw[AH g];have g':BP y x=Ad:=by simpa using g
   have xy:BP x y=Aa:=MF (fun e=>hx (by rw[e];exact Ay ..)) g'
   refine EL.mpr ⟨fun z hz=>?_,h⟩
   rcases Ax.mp hz with rfl|hz
   ·exact xy
   ·exact MU xy (h1 z hz)
theorem TD:∀{rs:Ac (Ac Ae)},rs.Nodup->(IY rs).Pairwise (fun a b=>BP a b=Aa)
 |[],_=>.nil
 |r::rs,h=>by
  obtain⟨h1,h2⟩:=B5.mp h;exact UW r (fun m=>h1 ((OH rs).mem_iff.mp m)) (TD h2)
theorem RI{ys rs:Ac (Ac Ae)}(nd:rs.Nodup)(hs:ys.Pairwise (fun a b=>BP a b=Aa))(hp:ys.Perm rs):IY rs=ys:=by
 refine List.Perm.eq_of_pairwise (le:=fun a b=>BP a b=Aa) (fun a b _ _ h1 h2=>?_) (TD nd) hs ((OH rs).trans hp.symm)
 rw[MG h1]at h2;cases h2
theorem To{α:Type}[DecidableEq α]:∀{l m:Ac α},l.Nodup->(∀ x∈l,x∈m)->m.length<=l.length->l.Perm m
 |[],m,_,_,hl=>by
  cases m with
  |nil=>exact .refl _
  |cons a m=>simp at hl
 |x::l,m,nd,hs,hl=>by
  obtain⟨h1,h2⟩:=B5.mp nd;have hx:x∈m:=hs x (Ay ..);have hp:=List.perm_cons_erase hx;refine(Iy x (To h2 (fun y hy=>?_) ?_)).trans hp.symm
  ·refine(WN (fun e=>h1 (by rw[<-e];exact hy))).mpr (hs y (Au _ hy))
  ·have:=WG hx;simp at hl;omega
theorem Si{ys:Ac (Ac Ae)}(h:ys.Pairwise (fun a b=>BP a b=Aa)):ys.Nodup:=
 h.imp fun {a b} g e=>by
  subst e;have:=MG g;rw[g]at this;cases this
theorem RJ{α:Type}[DecidableEq α]{l m:Ac α}(hl:l.Nodup)(hm:m.Nodup)(h:∀ x,x∈l↔x∈m):l.Perm m:=by
 rw[List.perm_iff_count];intro a;rw[hl.count,hm.count];simp[h]
theorem Pc:∀ rs:Ac (Ac Ae),K5 (rs.map tI)=Aa↔rs.Nodup
 |[]=>by simp[K5]
 |r::rs=>by
  have e:K5 ((r::rs).map tI)=((rs.map tI).all (fun y=>!eqD (tI r) y)&&K5 (rs.map tI)):=rfl
  rw[e,An,Pc rs,B5];refine and_congr ?_ Iff.rfl;rw[Wt,Ck];constructor
  ·intro h m;have:=h r m;simp[U4]at this
  ·intro h q hq;have:r≠q:=fun z=>h (by rw[z];exact hq)
   simp[U4,this]
theorem Vk:∀{rs:Ac (Ac Ae)},Nw (rs.map tI)=Aa->rs.Pairwise (fun a b=>BP a b=Aa)
 |[],_=>.nil
 |[_],_=>WQ ..
 |x::y::r,h=>by
  have h':(ltD 1 (tI x) (tI y)&&Nw ((y::r).map tI))=Aa:=h;rw[An,M6]at h';have ih:=Vk h'.2;refine EL.mpr ⟨fun z hz=>?_,ih⟩
  rcases Ax.mp hz with rfl|hz
  ·exact h'.1
  ·exact MU h'.1 ((EL.mp ih).1 z hz)
theorem Zw{rs ys:Ac (Ac Ae)}(hn:∀ r∈rs,r≠[])(nd:rs.Nodup)(h64:rs.length<64)(hs:ys.Pairwise (fun a b=>BP a b=Aa))(hm:∀ r,r∈ys↔r∈rs):Hc (rs.map tI)=.ok (ys.map tI):=by
 unfold Hc;rw[Az (by rw[Py hn,(Pc rs).mpr nd,Bp,E3 h64,Bool.true_or];rfl),Pa,RI nd hs (RJ (Si hs) nd hm)]
theorem ZE{xs:Ac D}{d:Ac D}(h:Hc xs=.ok d):∃ rs:Ac (Ac Ae),xs=rs.map tI/\(∀ r∈rs,r≠[])/\rs.Nodup/\(rs.length<64\/(rs.Pairwise (fun a b=>BP a b=Aa)/\rs.length<=1000))/\d=(IY rs).map tI:=by
 unfold Hc at h;split at h
 ·next g=>
  rw[An,An,Cu,An,AK,AK]at g;obtain⟨rs,e,hn⟩:=Px g.1.1;subst e;rw[Pa]at h;cases h;exact⟨rs,rfl,hn,(Pc rs).mp g.1.2,g.2.imp (fun h=>by simpa using h) fun h=>⟨Vk h.1,by simpa using h.2⟩,rfl⟩
 ·cases h
open PySem PySem.Spec PyProof.Rows L2
variable{n:Ag}{p:AQ Ag}
section
variable{X:Cx}{CL:ClA}{W:XW}
theorem Sr{K:Fg}{H:Hp}{A:Ak->Prop}:∀{is:Ac Ae}{ys:Ac V},Reps K CL H A ys (is.map D.int)->ys=is.map V.int
 |[],[],_=>rfl
 |[],_::_,r=>r.elim
 |_::_,[],r=>r.elim
 |i::is,y::ys,r=>by
  have e1:y=.int i:=r.1;rw[Sr r.2,e1];rfl
theorem OP:∀{is:Ac Ae}{its:Ac Ai},Br (is.map V.int) its->C7 its is
 |[],_,h=>by cases h;exact .nil
 |i::is,_,h=>by
  cases h with
  |cons h1 h2=>
   obtain⟨t,rfl⟩:=h1;exact .cons i t (OP h2)
theorem O1{pI:Pn}{s:Ap}{σ:Ac (Av V)}{H:Hp}{A:Ak->Prop}(I:Inv X pI σ H s):∀{rs:Ac (Ac Ae)}{ys:Ac V}{its:Ac Ai},Reps X.K CL H A ys (rs.map tI)->Br ys its->(∀ r∈rs,r≠[])->∀(i:Ag)(v:Ai)(r:Ac Ae),its[i]?=Ab v->rs[i]?=Ab r->Hd s.heap v r
 |[],_,_,_,_,_,i,v,r,_,e=>by cases e
 |_::_,[],_,h,_,_,_,_,_,_,_=>h.elim
 |q::rs,y::ys,_,h,hv,hn,i,v,r,e1,e2=>by
  cases hv with
  |cons h1 h2=>
   cases i with
   |succ i=>exact O1 I h.2 h2 (fun r m=>hn r (Au _ m)) i v r e1 e2
   |zero=>
    cases e1;cases e2;have h0:C3 X.K CL H A y (.tup (q.map D.int)):=.inl h.1;obtain⟨a,xs,rfl,_,sq,rx⟩:=h0.tup_of;obtain⟨its,hi,ht,_⟩:=I.tuple sq;rw[Sr rx]at hi;cases h1;exact⟨a,its.toArray,rfl,ht,OP hi,hn q (Ay ..)⟩
theorem RO{ys:Ac V}{its:Ac Ai}(h:Br ys its):∀ l:Ac Ag,(∀ i∈l,i<ys.length)->Br (l.map fun i=>ys.getD i .non) (l.map fun i=>its.getD i Dh)
 |[],_=>.nil
 |i::l,hl=>by
  have hi:i<ys.length:=hl i (Ay ..);have e:ys[i]?=Ab ys[i]:=AV hi;obtain⟨u,e2,r⟩:=h.get e;refine .cons ?_ (RO h l fun j hj=>hl j (Au _ hj))
  show BZ (ys.getD i .non) (its.getD i Dh);rw[A6,A6,e,e2];exact r
theorem TX{K:Fg}{H:Hp}{A:Ak->Prop}:∀{ys:Ac V}{ds:Ac D}{i:Ag},Reps K CL H A ys ds->i<ds.length->Rep K CL H A (ys.getD i .non) (ds.getD i .non)
 |[],[],_,_,h=>by cases h
 |[],_::_,_,r,_=>r.elim
 |_::_,[],_,r,_=>r.elim
 |y::ys,d::ds,0,r,_=>r.1
 |y::ys,d::ds,i+1,r,h=>TX (ys:=ys) (ds:=ds) (i:=i) r.2 (Nat.lt_of_succ_lt_succ h)
theorem RM{K:Fg}{H:Hp}{A:Ak->Prop}{ys:Ac V}{ds:Ac D}(h:Reps K CL H A ys ds):∀ l:Ac Ag,(∀ i∈l,i<ds.length)->Reps K CL H A (l.map fun i=>ys.getD i .non) (l.map fun i=>ds.getD i .non)
 |[],_=>trivial
 |i::l,hl=>⟨TX h (hl i (Ay ..)),RM h l fun j hj=>hl j (Au _ hj)⟩
theorem M4(hp:Pm n p):∀ i∈p.toList,i<n:=fun i hi=>by
 obtain⟨j,hj,e⟩:=List.mem_iff_getElem.mp hi;have hj':j<n:=by rw[<-hp.sz];simpa using hj
 have:=hp.lt j hj';unfold at0 at this;rw[DP,<-ET,AV hj,e]at this;exact this
theorem VF(hp:Pm n p){j:Ag}(hj:j<p.toList.length):at0 p j=p.toList[j]:=by
 unfold at0;rw[DP,<-ET,AV hj];rfl
theorem Z8{rs:Ac (Ac Ae)}(nd:rs.Nodup)(hp:Pm rs.length p)(hs:Ek (ltR rs) p rs.length):p.toList.map (fun i=>rs.getD i [])=IY rs:=by
 have hl:p.toList.length=rs.length:=by rw[C1,hp.sz]
 have pw:(p.toList.map (fun i=>rs.getD i [])).Pairwise (fun a b=>BP a b=Aa):=by
  rw[List.pairwise_map,Ee];intro i j hi hj hij;have:=hs i j hij (by omega)
  rw[VF hp hi,VF hp hj]at this;exact this
 refine(RI nd pw (To (Si pw) (fun x hx=>?_) (by rw[Bp,hl];exact AU _))).symm
 obtain⟨i,hi,rfl⟩:=Cw.mp hx;have:=M4 hp i hi;rw[A6,AV this];exact En this
theorem aM:Nq X CL W (.builtin "sorted") (biD .sorted):=by
  intro A H0 pI s σ H xs us Q I r ⟨s0,hA,ds,rs,p⟩;by_cases hls:∃ es,ds=[.lst es]
  · obtain⟨es,rfl⟩:=hls;obtain⟨v,rfl,rv⟩:=rs.one;obtain⟨q,ys,rfl,sq,ry⟩:=rv.lst_of;have p':Bx (EH X.K CL Aa H0 A) W H ((Hc es).bind fun b=>.ok (.lst b)) Q:=p
    cases hd:Hc es with
    |exn x=>
      unfold Hc at hd;split at hd<;>cases hd
    |bad=>
      rw[hd]at p';exact p'.elim
    |ok d=>
      rw[hd]at p';obtain⟨rs',rfl,hn,nd,h64,rfl⟩:=ZE hd;obtain⟨u,rfl,rx⟩:=HP r;cases rx;obtain⟨its,hv,pl,hz⟩:=I.list sq;have l1:ys.length=rs'.length:=by rw[ry.length,Bp]
      have l2:ys.length=its.length:=hv.length;have h1000:rs'.length<=1000:=h64.elim (fun h=>by omega) fun h=>h.2
      have h64':its.length<64\/(Ek (ltR rs') (BB (Bb its.length)) its.length/\its.length<=1000):=h64.imp (fun h=>by omega) fun h=>⟨fun x y hxy hy=>by
        have e:∀ x,x<its.length->at0 (BB (Bb its.length)) x=x:=fun x hx=>by simp[at0,We,hx]
        rw[e x (by omega),e y hy]
        have g:=Ee.mp h.1 x y (by omega) (by omega) hxy
        unfold ltR;rw[A6,A6,AV (by omega),AV (by omega)]
        exact g,by omega⟩
      refine ZD pl.isList (by omega) (O1 I ry hv hn) nd h64' fun pp hp hs=>?_
      rw[<-l2,l1]at hp hs;have e1:=Z8 nd hp hs;have rp:=RM ry pp.toList (fun i hi=>by rw[Bp];exact M4 hp i hi)
      have e2:(pp.toList.map fun i=>(rs'.map tI).getD i .non)=(IY rs').map tI:=by
        rw[<-e1,FB]
        apply EB
        intro i hi;have:=M4 hp i hi;simp[AV this]
      rw[e2]at rp;have vp:=RO hv pp.toList (fun i hi=>by rw[l1];exact M4 hp i hi)
      obtain⟨c,hat⟩:=sortedAll_at s.heap its (JD its pp);have hf:=I.hok.fresh (JN s.heap.objs.size);refine⟨.ref (s.heap.objs.size+1),_,I.laid (t':=s.toks) (fun b o hb=>sortedAll_old hb) (JN _) (o:=.lst (pp.toList.map fun i=>ys.getD i .non)) ?_,rfl,p' _ _ (F9 hf _) (JX s0 hA hf rp)⟩
      refine⟨?_,pp.toList.map fun i=>its.getD i Dh,c,vp,hat⟩
      rw[Bp,C1,hp.sz,CW];omega
  · have e:biD .sorted ds=.bad:=by
      match ds with
      |[]=>rfl
      |[x]=>cases x<;>first|rfl|exact absurd ⟨_,rfl⟩ hls
      |x::_::_=>cases x<;>rfl
    rw[e]at p;exact p.elim
end
end Ov
end
namespace Ov
open PySem PySem.Spec PyProof.Rows L2
variable{prog P:A8}{w:AN}{A:Bu}{s:Ap}{a b:Ak}{r:Ac Ae}{H:Hp}{h h':AS}{l:Ac CG}{oT:DB}{ts:AQ Ai}{Q:JR->Ap->Prop}{X:Cx}{pI:Pn}{σ:L2.St}
theorem UP(is:Ac Ae):(firstMet (fun i=>is.getD i 0) is.length).length=ddN is:=by
 have e:(Bb is.length).map (fun i=>is.getD i 0)=is:=by
  apply Wx
  ·simp
  ·intro i h1 h2;simp[A6,AV h2]
 unfold firstMet ddN;rw[e];rfl
theorem fR{E:Vq}{S:Ae->Ao}{n:Ag}{Q:Vq}(h:s.heap.SetOf (intKind prog w) a S n)(hf:(n:Ae)<2 ^ 63)(q:Q (.int n (s.toks+1)) {s with toks:=s.toks+1+1}):AB (model prog w) A (call (.builtin "len") [.ref a]) Q E s:=by
 obtain⟨o,es,ep,t,ho,hex,hd,_,_,_,hfi,rfl⟩:=h;exact call_len_set ho hex hd hfi hf q
section
variable{X:Cx}
def tX(K:Fg)(ta:TA):TE:=fun σ H Q=>ta σ H fun vs H1=>∃ a,∃ is:Ac Ae,vs=[.ref a]/\SqL K H1 a (is.map V.int)/\is.length<=4000/\Q (.int (ddN is)) H1
theorem fZ{a:At}{ta:TA}{p p' pos pos':Bk}(hc:X.calm=Aa)(hg:Gl X "len")(hm:X.mg "len" = Af)(hg':Gl X "set")(hm':X.mg "set" = Af)(ha:PA X [a] ta)(hs:AM [a] X.env=[(Ad,eval a X.env)]):
    PE X (.Call (.Name "len" p) [.Call (.Name "set" p') [a] [] pos'] [] pos) (tX X.K ta):=by
  intro pI s σ H Q I h;refine ID (HJ I hg hm boot_len (W7 ?_ rfl rfl));show AB _ _ (spliced ((Ad,eval (.Call (.Name "set" p') [a] [] pos') X.env)::CU pos (AM [] X.env))) _ _ s;refine G1 ?_;refine ID (HJ I hg' hm' PyProof.Rows.boot_set (B9 (thn (ha pos' pI s σ H _ I h) fun us s1 ⟨vs,H1,I1,r1,q1⟩=>?_) (by rw[hs];rfl) rfl))
  obtain⟨b,is,e,sq,hn,q⟩:=q1;subst e;cases r1 with
  |cons r rr=>
    cases rr;cases r;obtain⟨its,rv,pl,hz⟩:=I1.list sq;have ia:=OP rv;have hl:its.length=is.length:=by rw[<-rv.length,Bp]
    refine PySem.call_set_list (ns:=is) (I1.ok.hd hc) pl.isList ia (by rw[AE,hl];unfold scanBound;omega) fun h' tk hS kp=>Ho ?_
    have hsz:its.toArray.size=is.length:=by rw[AE,hl]
    rw[hsz,UP]at hS;have hle:ddN is<=is.length:=by
      rw[<-UP];exact firstMet_length_le _ _
    refine fR (s:={s1 with heap:=h',toks:=tk}) hS (by omega) ?_
    exact⟨.int (ddN is),H1,I1.kept (t':=tk+1+1) fun b o e=>kp b o (AG e) e,⟨_,rfl⟩,q⟩
variable{CL:ClA}{W:XW}{pos p pos' p':Bk}{a:At}{fa:Rho->R D}
theorem dI(ha:ST X CL W a fa)(hc:X.calm=Aa)(hg:Gl X "len")(hm:X.mg "len" = Af)(hg':Gl X "set")(hm':X.mg "set" = Af)(hs:AM [a] X.env=[(Ad,eval a X.env)]):
  SE X CL W (.Call (.Name "len" p) [.Call (.Name "set" p') [a] [] pos'] [] pos) (fun ρ=>(fa ρ).bind fun x=>biD .lset [x]):=
 fun A=>PE.weak (fZ hc hg hm hg' hm' (FH (ha A) Hf hs) hs) fun σ H Q ⟨hA,ρ,g,q⟩=>⟨hA,ρ,g,Bx.bind q fun d v H1 _ s1 r1 p1=>by
  cases d with
  |lst ds=>
   obtain⟨b,xs,rfl,sq,r⟩:=r1.lst_of;have p2:Bx (fun H=>Rep X.K CL H A) W H1 (K3 ds) Q:=p1
   unfold K3 at p2;cases e:HR ds with
   |none=>rw[e]at p2;exact p2.elim
   |some is=>
    rw[e]at p2;have ex:=Og e r;subst ex;dsimp only at p2;split at p2
    ·rename_i hb;exact⟨b,is,rfl,sq,EY hb,p2 _ H1 (AO.refl H1) rfl⟩
    ·exact p2.elim
  | _=>exact p1.elim⟩
end
section
theorem kP(l:Ak)(items:AQ Ai)(n:Ag)(b:Ak)(items2:AQ Ai)(n2:Ag)(dd:Av Ak)(sl:AQ (Av Ai))(hs0:¬(!items.isEmpty&&DA (items.size+items2.size))=Aa)(hs1:items.size<=sizeLine)(hs2:items.size+items2.size<=sizeLine+1):
  Kj (Builtin.«list.extend» ⟨[.ref l,.ref b],[]⟩) (fun _ R s=>s.heap.get? l=Ab { cls:=.type "list", dict:=Af,data:=.seq items n,slots:=#[] }/\s.heap.get? b=Ab { cls:=.type "tuple", dict:=dd,data:=.seq items2 n2,slots:=sl }/\R (.ok (.ret Dh)) {s with heap:=s.heap.update l (By fun x=>x++items2),toks:=s.toks}):=
 .of_wp fun prog w A R s h=>by
  obtain⟨hp,g,d,tk,os⟩:=s;obtain⟨hl,hb,h⟩:=h;have f1:=AutoSeq1.idx_int;have f2:=FE;have f3:=AutoSeq1.sub_list_list;have f4:=AutoSeq1.sub_tuple_list;have f5:=AutoSeq1.sub_list_tuple;
  have hz':(items++items2).size<=sizeLine+1:=by rw[Array.size_append];exact hs2
  wp_walk using (Fx hl rfl (hz:=hs1) (_hz':=hz')),Xb hl,Xb hb;exact⟨_,rfl,h⟩
end
section
variable{X:Cx}
def vG(K:Fg):V->Ac V->Hp->VK->Prop:=fun x vs H Q=>∃ l b xs zs,x=.ref l/\vs=[.ref b]/\H l=Ab (.lst xs)/\SqT K H b zs/\xs.length+zs.length<=sizeLine/\Q .non (upd H l (.lst (xs++zs)))
theorem gR:MtM X "list.extend" (vG X.K):=by
 intro pI s σ H x vs v us Q I rx rv h;obtain⟨l,b,xs,zs,rfl,rfl,hH,hB,hz,q⟩:=h;cases rx;obtain⟨u,rfl,ru⟩:=rv.one;cases ru;obtain⟨z,its,n,r,hl,e⟩:=I.lstM hH;obtain⟨its2,r2,⟨o,e2,c2,n2,d2⟩,z2⟩:=I.tuple hB;have hl2:=r2.length;obtain⟨oc,od,oda,os⟩:=o;dsimp only at c2 d2;subst c2 d2;have hsz:its.toArray.size+its2.toArray.size<=sizeLine:=by rw[AE,AE];omega
 have hlong:¬ (!its.toArray.isEmpty&&DA (its.toArray.size+its2.toArray.size))=Aa:=by
  rw[SX hsz,FP];exact AJ
 refine Kq EZ ⟨_,e,rfl⟩ Xo (Xi _ _)
  (kP l its.toArray n b its2.toArray n2 od os hlong (by rw[AE];omega) (by omega)) ⟨e,e2,?_⟩
 refine⟨.non,_,I.lset (its':=its++its2) hH e (by simp) (r.append r2) ?_,rfl,q⟩
 rw[Cv];omega
variable{CL:ClA}{W:XW}{o e:At}{fe:Rho->R D}{i:Ag}{apos cpos pos:Bk}
theorem eL(ho:PE X o (Jb i))(he:ST X CL W e fe)(hbase:G6 o "extend" X.env (eval o X.env)=eval o X.env)(hfew:((CU cpos (AM [e] X.env)).all (fun x=>!x.1)&&(JQ cpos (Ie [] X.env)).all (fun x=>x.1.isSome)&&decide ([e].length+([]:Ac Fe).length+(if ([]:Ac Fe).isEmpty then 0 else 1)<30))=Aa)(hline:(apos.endLine==cpos.line)=Aa)(hs:AM [e] X.env=[(Ad,eval e X.env)])(hsw:DS (.Call (.Attribute o "extend" apos) [e] [] cpos) Af pos.line X.env=pure Ad):
  SS X CL W (.Expr (.Call (.Attribute o "extend" apos) [e] [] cpos) pos) (fun ρ=>O.of ρ (Du ρ i) fun xs=>O.of ρ (fe ρ) fun x=>O.of ρ ((Dk .Add x (.tup [])).bind fun y=>biD .list [y]) fun d=>O.of ρ (K4 d) fun ys=>if DM (xs.length+ys.length)=Aa then .next (ρ.set i (Ab (.lst (xs++ys),Aa))) else .bad):=fun Fz B pI s σ H D I ⟨ρ,x,p⟩=>by
 refine MX (Qq FU EZ Xy gR ho (FH (he (CQ B ρ σ)) Hf hs) hbase hfew hline hs rfl) hsw pI s σ H D I ?_;dsimp only at p;cases e1:Du ρ i with
 |bad=>rw[e1]at p;exact p.elim
 |exn z=>exact(MD e1).elim
 |ok ds=>
  rw[e1,O.of_ok]at p;have hi:=MY e1;obtain⟨a,xs,ds',q,e2,ha,hh,r⟩:=x.good.ow i _ hi;cases e2;refine⟨_,q,.inl ⟨rfl,xs,SqL.of hh⟩,x.aok,ρ,x.good,CP.ex x p fun d v H' _ s rv x' q'=>?_⟩
  cases d with
  |tup es=>
   obtain⟨b,ys,rfl,h0,h1,rs⟩:=C3.tup_of rv;have eb:Dk .Add (.tup es) (.tup [])=if (!es.isEmpty&&DM (es.length+0))=Aa then .ok (.tup (es++[])) else .bad:=rfl
   rw[eb]at q';split at q'
   ·rw[R.bind_ok,show biD .list [.tup (es++[])]=.ok (.lst (es++[])) from rfl,O.of_ok,Se,O.of_ok,Dy]at q'
    split at q'
    ·rename_i hz;refine⟨a,b,xs,ys,rfl,rfl,s _ _ hh,h1,?_,q' _ _ (x'.upd hi q ((r.same s).append rs))⟩;rw[r.length,rs.length];exact IM hz
    ·exact q'.elim
   ·exact q'.elim
  |_=>exact q'.elim
end
section
open PySem.AutoSeq1 (wpAny_loadPart')
theorem S6:∀{vs us:Ac Ai}{r q:Ac Ae},C7 vs r->C7 us q->∀ y x rest,vs.zip us=(y,x)::rest->∃ i j ti tj vs' us' r' q',y=.int i ti/\x=.int j tj/\rest=vs'.zip us'/\r=i::r'/\q=j::q'/\vs=y::vs'/\us=x::us'/\C7 vs' r'/\C7 us' q'
 |_,_,_,_,.cons i ti h1,.cons j tj h2,y,x,rest,e=>by
  cases e;exact⟨i,j,ti,tj,_,_,_,_,rfl,rfl,rfl,rfl,rfl,rfl,rfl,h1,h2⟩
 |_,_,_,_,.nil,_,_,_,_,e=>by cases e
 |_,_,_,_,.cons _ _ _,.nil,_,_,_,e=>by cases e
theorem Zt(l b:Ak)(items items2:AQ Ai)(n n2:Ag)(dd dd2:Av Ak)(sl sl2:AQ (Av Ai))(r q:Ac Ae):
  Kj (Builtin.«tuple.__lt__» ⟨[.ref l,.ref b],[]⟩)
   (fun A R s=>s.heap.get? l=Ab { cls:=.type "tuple", dict:=dd,data:=.seq items n,slots:=sl }/\s.heap.get? b=Ab { cls:=.type "tuple", dict:=dd2,data:=.seq items2 n2,slots:=sl2 } /\
    C7 items.toList r/\C7 items2.toList q/\R (.ok (.ret (.bool (BP r q)))) s):=
 .of_wp fun prog w A R s h=>by
  obtain⟨hp,g,d,tk,os⟩:=s;obtain⟨hl,hb,h1,h2,h⟩:=h;have f2:=FE
  wp_walk using wpAny_loadPart' hl,wpAny_loadPart' hb,Yd _ (fun rest b s'=>b.1=Af/\s'=⟨hp,g,d,tk,os⟩/\∃ vs us r' q',rest=vs.zip us/\C7 vs r'/\C7 us q'/\BP r' q'=BP r q/\(decide (vs.length<us.length)=decide (items.size<items2.size))) _
  case turn=>
   rintro⟨y,x⟩ rest b s' ⟨hb',rfl,vs,us,r',q',hz,i1,i2,hx,hd⟩;obtain⟨i,j,ti,tj,vs',us',r'',q'',rfl,rfl,rfl,rfl,rfl,rfl,rfl,k1,k2⟩:=S6 i1 i2 _ _ _ hz.symm;refine Ah (F8 ?_);have hx':(if i=j then BP r'' q'' else decide (i<j))=BP r q:=hx
   by_cases e:i=j
   ·rw[Az e]at hx';rw[show (i==j)=Aa by simp[e]]
    wp_walk
    exact⟨rfl,rfl,vs',us',r'',q'',rfl,k1,k2,hx',by simpa using hd⟩
   ·rw[AH e]at hx';rw[show (i==j)=Ad by simp[e]]
    refine Ah (E5 (Ah (wpAny_lt_int ?_)));rw[hx']
    wp_walk
    exact⟨_,rfl,h⟩
  case fin=>
   rintro⟨b1,b2⟩ s' ⟨hb',rfl,vs,us,r',q',hz,i1,i2,hx,hd⟩;simp only at hb';subst hb';have e:decide (items.size<items2.size)=BP r q:=by
    rw[<-hd,<-hx];cases i1 with
    |nil=>cases i2 with
     |nil=>rfl
     |cons _ _ _=>simp[BP]
    |cons _ _ _=>cases i2 with
     |nil=>rfl
     |cons _ _ _=>cases hz
   wp_walk
   exact⟨_,rfl,by simpa [Xg,e] using h⟩
  case h=>
   exact⟨rfl,rfl,_,_,r,q,rfl,h1,h2,rfl,by simp⟩
theorem Zu(l b:Ak)(items items2:AQ Ai)(n n2:Ag)(dd dd2:Av Ak)(sl sl2:AQ (Av Ai))(r q:Ac Ae):
  Kj (Builtin.«tuple.__gt__» ⟨[.ref l,.ref b],[]⟩)
   (fun A R s=>s.heap.get? l=Ab { cls:=.type "tuple", dict:=dd,data:=.seq items n,slots:=sl }/\s.heap.get? b=Ab { cls:=.type "tuple", dict:=dd2,data:=.seq items2 n2,slots:=sl2 } /\
    C7 items.toList r/\C7 items2.toList q/\R (.ok (.ret (.bool (BP q r)))) s):=
 .of_wp fun prog w A R s h=>by
  obtain⟨hp,g,d,tk,os⟩:=s;obtain⟨hl,hb,h1,h2,h⟩:=h;have f2:=FE
  wp_walk using wpAny_loadPart' hl,wpAny_loadPart' hb,Yd _ (fun rest b s'=>b.1=Af/\s'=⟨hp,g,d,tk,os⟩/\∃ vs us r' q',rest=vs.zip us/\C7 vs r'/\C7 us q'/\BP q' r'=BP q r/\(decide (us.length<vs.length)=decide (items2.size<items.size))) _
  case turn=>
   rintro⟨y,x⟩ rest b s' ⟨hb',rfl,vs,us,r',q',hz,i1,i2,hx,hd⟩;obtain⟨i,j,ti,tj,vs',us',r'',q'',rfl,rfl,rfl,rfl,rfl,rfl,rfl,k1,k2⟩:=S6 i1 i2 _ _ _ hz.symm;refine Ah (F8 ?_);have hx':(if j=i then BP q'' r'' else decide (j<i))=BP q r:=hx
   by_cases e:i=j
   ·rw[Az e.symm]at hx';rw[show (i==j)=Aa by simp[e]]
    wp_walk
    exact⟨rfl,rfl,vs',us',r'',q'',rfl,k1,k2,hx',by simpa using hd⟩
   ·rw[AH (DK e)]at hx';rw[show (i==j)=Ad by simp[e]]
    refine Ah (E5 (Ah (richCompare_gives (op:=.Gt) (Ku _ i ti) (Ku _ j tj) F.slot_int_gt F.entry_int_gt (F.args_int_gt_2 _ _) (gives_int_gt i j ti tj) nofun ?_)));rw[show decide (i > j)=_ from hx']
    exact Ah (Aw (Aw (Aw ⟨_,rfl,h⟩)))
  case fin=>
   rintro⟨b1,b2⟩ s' ⟨hb',rfl,vs,us,r',q',hz,i1,i2,hx,hd⟩;simp only at hb';subst hb';have e:decide (items2.size<items.size)=BP q r:=by
    rw[<-hd,<-hx];cases i1 with
    |nil=>cases i2 with
     |nil=>rfl
     |cons _ _ _=>rfl
    |cons _ _ _=>cases i2 with
     |nil=>simp[BP]
     |cons _ _ _=>cases hz
   wp_walk
   exact⟨_,rfl,by simpa [Xg,e] using h⟩
  case h=>
   exact⟨rfl,rfl,_,_,r,q,rfl,h1,h2,rfl,by simp⟩
noncomputable def bt2(mx:Ao)(r q:Ac Ae):Ao:=if mx then BP r q else BP q r
theorem jJ{E:Vq}{u v:Ai}{q:Ac Ae}{Q:Vq}(mx:Ao)(hu:A.units<CA)(h1:Hd s.heap u r)(h2:Hd s.heap v q)(h:Q (.bool (bt2 mx r q)) s):AB (model prog w) A (richCompare (if mx then .Gt else .Lt) v u) Q E s:=by
 obtain⟨a,xs,rfl,⟨⟨_,d1,_,l1⟩,ga,rfl,n,rfl⟩,ix,_⟩:=h1;obtain⟨b,ys,rfl,⟨⟨_,d2,_,l2⟩,gb,rfl,m,rfl⟩,iy,_⟩:=h2;cases mx with
 |true=>exact X6 (op:=.Gt) ⟨_,gb,rfl⟩ ⟨_,ga,rfl⟩ F.slot_tuple_gt F.entry_tuple_gt (F.args_tuple_gt_2 _ _) (Zu b a ys xs m n d2 d1 l2 l1 q r) ⟨gb,ga,iy,ix,⟨nofun,h⟩⟩ hu
 |false=>exact X6 (op:=.Lt) ⟨_,gb,rfl⟩ ⟨_,ga,rfl⟩ F.slot_tuple_lt F.entry_tuple_lt (F.args_tuple_lt_2 _ _) (Zt b a ys xs m n d2 d1 l2 l1 q r) ⟨gb,ga,iy,ix,⟨nofun,h⟩⟩ hu
end
section
variable{prog:A8}{w:AN}{A:Bu}{R:Kl->Ap->Prop}{I S T:Ak}{u v:Ai}{c:Ag}{P:Ag->Ai->Prop}{St:Ag->AS->Prop}{s:Ap}{r q:Ac Ae}
end
section
variable{X:Cx}{CL:ClA}{W:XW}
theorem C3.tI_rep{K:Fg}{A:Ak->Prop}{v:V}(h:C3 K CL H A v (tI r)):Rep K CL H A v (tI r):=by
 rcases h with h|⟨_,_,_,_,e,_⟩
 ·exact h
 ·cases e
theorem T5(hu:X.A.units+64<CA):OpD X CL W (CN .Lt) HU:=by
  intro A pI s σ H x y v u Q I rx ry ⟨hA,dx,dy,hx,hy,p⟩;unfold HU at p;split at p
  · rename_i hk;obtain⟨rs',e,hn⟩:=Px hk
    match rs',e,hn with
    |[a,b],e,hn=>
      cases e;have ts:=O1 I (rs:=[a,b]) (ys:=[x,y]) (its:=[v,u]) ⟨hx.tI_rep,hy.tI_rep,trivial⟩ (.cons rx (.cons ry .nil)) hn;refine jJ Ad (by omega) (ts 1 u b rfl rfl) (ts 0 v a rfl rfl) ?_
      have e2:bt2 Ad b a=ltD 1 (tI a) (tI b):=(M6 a b).symm;rw[e2];exact⟨.bl _,H,I,rfl,p _ H (AO.refl H) rfl⟩
    |[],e,_=>cases e
    |[_],e,_=>cases e
    |_::_::_::_,e,_=>cases e
  · exact p.elim
end
def Fly(e T:Ak)(cls:Ai)(h:AS):Prop:=∃ oe vs oT ts a0,h.get? e=Ab oe/\oe.cls=cls/\vs[0]?=Ab a0/\oe.data=.fields vs/\vs[1]?=Ab (.ref T)/\T≠e/\h.get? T=Ab oT/\oT.data=.fields ts/\ts[3]?=Ab Dh
structure Shift (ex fs:Ac Ak) (h h':AS):Prop where
 keep:∀ b o,h.get? b=Ab o->b∉ex->b∉fs->h'.get? b=Ab o
 slot:∀ b o,h.get? b=Ab o->b∈fs->∃ sl,h'.get? b=Ab {o with slots:=sl}
theorem Shift.trans{ex fs:Ac Ak}{h1 h2:AS}(a:Shift ex fs h h1)(b:Shift ex fs h1 h2):Shift ex fs h h2:=
 ⟨fun c o q n m=>b.keep c o (a.keep c o q n m) n m,fun c o q m=>by
  obtain⟨sl,e1⟩:=a.slot c o q m;obtain⟨sl',e2⟩:=b.slot c _ e1 m;exact⟨sl',e2⟩⟩
theorem ObjOk.isThere:∀(o:HO),L2.ObjOk P w H h a o->∃ ob,h.get? a=Ab ob
 |.lst _,x=>by obtain⟨_,_,_,_,e⟩:=x;exact⟨_,e⟩
 |.tup _,x=>by obtain⟨_,_,_,p⟩:=x;obtain⟨o,e,_⟩:=p;exact⟨_,e⟩
 |.dK _,x=>by obtain⟨_,_,_,_,o,_,_,e,_⟩:=x;exact⟨_,e⟩
 |.dT _,x=>by obtain⟨_,_,_,_,o,_,_,e,_⟩:=x;exact⟨_,e⟩
 |.set _ _,x=>by obtain⟨o,_,_,_,e,_⟩:=x;exact⟨_,e⟩
 |.ins _ _ _,x=>by obtain⟨_,_,_,e,_⟩:=x;exact⟨_,e⟩
 |.own _,x=>x
 |.xd _,x=>by obtain⟨_,⟨_,_,_,e,_⟩,_⟩:=x;exact⟨_,e⟩
 |.met _ _,x=>⟨_,x⟩
 |.rng _ _,x=>by obtain⟨_,_,_,e⟩:=x;exact⟨_,e⟩
 |.frz _ _,x=>⟨_,x.1⟩
 |.tbl _,x=>⟨_,x⟩
 |.ext _,x=>x.2.1
theorem OR(x:HOk P w H h)(e:h.get? a=Af):H a=Af:=by
 cases q:H a with
 |none=>rfl
 |some o=>
  obtain⟨ob,z⟩:=ObjOk.isThere o (x a o q);rw[e]at z;cases z
theorem HOk.shift{ex fs:Ac Ak}(x:HOk P w H h)(sh:Shift ex fs h h')(h1:∀ b∈ex,H b=Af)(h2:∀ b∈fs,H b=Af):HOk P w H h':=fun a o e=>
 (x a o e).stay (fun b u hb q=>by
  have hs:∃ v,H b=Ab v:=by
   rcases hb with rfl|hb
   ·exact⟨_,e⟩
   ·exact⟨_,hb⟩
  obtain⟨v,hv⟩:=hs;exact sh.keep b u q (fun z=>by rw[h1 b z]at hv;cases hv) (fun z=>by rw[h2 b z]at hv;cases hv)) (fun _ q=>q) fun _ _ q=>q
theorem Un.shift{fs0 fs ex:Ac Ak}{H':Hp}{h0:AS}(u:Un fs0 [] H H' h0 h)(sh:Shift ex fs h h')(h1:∀ b∈ex,h0.get? b=Af)(h2:∀ b∈fs,b∈fs0\/h0.get? b=Af):Un fs0 [] H H' h0 h' where
 keep:=fun b o q n hb hx=>sh.keep b o (u.keep b o q n hb hx) (fun z=>by rw[h1 b z]at q;cases q) fun z=>(h2 b z).elim hb fun e=>by rw[e]at q;cases q
 slot:=fun b o q n hb hx=>by
  obtain⟨sl,e1⟩:=u.slot b o q n hb hx;by_cases hf:b∈fs
  ·obtain⟨sl',e2⟩:=sh.slot b _ e1 hf;exact⟨sl',e2⟩
  ·exact⟨sl,sh.keep b _ e1 (fun z=>by rw[h1 b z]at q;cases q) hf⟩
 free:=u.free
 there:=fun b o q hx=>by
  obtain⟨o',e1⟩:=u.there b o q hx;by_cases hf:b∈fs
  ·obtain⟨sl',e2⟩:=sh.slot b _ e1 hf;exact⟨_,e2⟩
  ·exact⟨o',sh.keep b _ e1 (fun z=>by rw[h1 b z]at q;cases q) hf⟩
 tups:=u.tups
 frzs:=u.frzs
 tbls:=u.tbls
section
variable{M:Kk}{A:Bu}{E:Vq}{s:Ap}{env:CG}{outer:Ac CG}{L e T:Ak}{cls:Ai}{base h:AS}
theorem TV(l:Ac CG):∀ env∈l,∀ a,env.frame=Ab a->a∈frs l:=fun env he a hf=>WO.mpr ⟨env,he,hf⟩
theorem aT(ff:h.FunFrames base l)(fl:Fly e T cls h):∃ a0,Xz (Gu h (e::T::frs l)) l e cls a0 h:=by
 obtain⟨oe,vs,oT,ts,a0,he,hc,h0,hd,h1,hTe,hT,hdT,h3⟩:=fl;exact⟨a0,fun b o q=>G2 _ q,Gv _ Ay,XR ff fun env he a hf=>Au _ (Au _ (TV l env he a hf)),
  oe,vs,T,oT,ts,he,⟨hc,h0⟩,hd,h1,Gv _ (Au _ Ay),hTe,hT,hdT,h3⟩
theorem Tw(ff:h.FunFrames base l)(up:h.UpToSlots h'){o:DB}(ho:h.get? b=Ab o)(hb:b∈frs l):∃ sl,h'.get? b=Ab {o with slots:=sl}:=by
 obtain⟨_,o',ho',hn⟩:=ff.mem hb;rw[ho]at ho';cases ho';exact up b o ho hn
theorem SZ(ff:h.FunFrames base l)(up:h.UpToSlots h')(hT:h'.get? T=Ab oT)(hd:oT.data=.fields ts):T∉frs l:=fun hb=>by
 obtain⟨_,o',ho',hn⟩:=ff.mem hb;obtain⟨sl,e1⟩:=up T o' ho' hn;rw[hT]at e1;cases e1;exact hn ts hd
theorem UZ{B:AS}{a0:Ai}(x:Xz B l e cls a0 h'):∃ T',Fly e T' cls h'/\B.get? T'=Af/\∃ oT ts,h'.get? T'=Ab oT/\oT.data=.fields ts:=by
 obtain⟨_,_,_,oe,vs,T',oT,ts,he,⟨hc,h0⟩,hd,h1,hn,hTe,hT,hdT,h3⟩:=x;exact⟨T',⟨oe,vs,oT,ts,a0,he,hc,h0,hd,h1,hTe,hT,hdT,h3⟩,hn,oT,ts,hT,hdT⟩
theorem ZP(ff:h.FunFrames base l)(st:(Gu h (e::T::frs l)).StaysIn h')(up:h.UpToSlots h'):Shift [e,T] (frs l) h h':=
 ⟨fun b o q n1 n2=>st b o (EC _ q (by simp only[Ax,D9,AX,B8]at n1 ⊢;exact⟨n1.1,by first|exact n1.2|exact n1.2.1,n2⟩)),fun b o q hb=>Tw ff up q hb⟩
theorem ZS{T':Ak}(ff:h.FunFrames base l)(up:h.UpToSlots h')(hn:(Gu h (e::T::frs l)).get? T'=Af)(hT:h'.get? T'=Ab oT)(hd:oT.data=.fields ts)(hne:T'≠e):T'=T\/h.get? T'=Af:=by
 cases q:h.get? T' with
 |none=>exact .inr rfl
 |some o=>
  refine .inl ?_;by_cases hm:T'∈e::T::frs l
  ·rcases Ax.mp hm with z|hm
   ·exact absurd z hne
   ·rcases Ax.mp hm with z|hm
    ·exact z
    ·exact absurd hm (SZ ff up hT hd)
  ·have:=EC _ q hm;rw[hn]at this;cases this
theorem Fly.ne(x:Fly e T cls h):T≠e:=by obtain⟨_,_,_,_,_,_,_,_,_,_,z,_⟩:=x;exact z
theorem ZQ(hfr:A.frames=Ab (env::outer))(hf:env.frame=Ab L)(ff:s.heap.FunFrames base (env::outer))(fl:Fly e T cls s.heap)(hQ:∀ h' T',Fly e T' cls h'->Shift [e,T] (frs (env::outer)) s.heap h'->(T'=T\/s.heap.get? T'=Af)->Q () {s with heap:=h'}):AB M A (leaving env (.ref e)) Q E s:=by
 obtain⟨a0,fw⟩:=aT ff fl;refine wpAny_leaves_onW hfr hf fw fun h' fw' up=>?_
 obtain⟨T',fl',hn,oT,ts,hT,hd⟩:=UZ fw';exact hQ h' T' fl' (ZP ff fw'.1 up) (ZS ff up hn hT hd fl'.ne)
theorem ZK{args:Ac Ai}(hfr:A.frames=Ab (env::outer))(hf:env.frame=Ab L)(ff:h.FunFrames base (env::outer))(hx:XA h s.heap e cls args)(hQ:∀ h' T',Fly e T' cls h'->Shift [] (frs (env::outer)) h h'->h.get? T'=Af->Q () {s with heap:=h'}):AB M A (leaving env (.ref e)) Q E s:=by
 have fh:=XR (as:=frs (env::outer)) ff (TV _);refine wpAny_leaves_madeW hfr hf (fun b o q=>G2 _ q) fh hx fun h' t fw _ _ up=>?_
 have up':h.UpToSlots h':=(Heap.UpToSlots.of_keeps hx.keeps).trans up;obtain⟨T',fl',hn,oT,ts,hT,hd⟩:=UZ fw;refine hQ h' T' fl' ⟨fun b o q _ n2=>fw.1 b o (EC _ q n2),fun b o q hb=>Tw ff up' q hb⟩ ?_
 cases q:h.get? T' with
 |none=>rfl
 |some o=>
  have:=EC _ q (SZ ff up' hT hd);rw[hn]at this;cases this
end
def CXR(P:A8)(w:AN):CXT:=fun outer H s E ev s'=>∃ e T cls H',ev=.ref e/\s'.os=s.os/\FQ s'.gens/\Un (frs outer) [] H H' s.heap s'.heap/\HOk P w H' s'.heap/\Fly e T cls s'.heap/\H' e=Af/\H' T=Af/\s.heap.get? e=Af/\s.heap.get? T=Af/\E cls Af H'
def QP(X:Cx)(CL:ClA)(W:XW):Prop:=∀ pI σ H s h' e C vs x,Inv X pI σ H s->XA s.heap h' e (.ref C) vs->CL x.c=Ab C->x.fs=[]->W x H->X.xe (.ref e) {s with heap:=h'}
section
variable{P:A8}{w:AN}{K:Fg}{mg:Al->Av Ai}{base:AS}{N:Ac Al}{qual:Al}{scope:CM}{f:Ak}{cd:Ai}{A:Bu}{outer:Ac CG}{s:Ap}{H:Hp}{E:XK}{CL:ClA}{W:XW}
theorem TU(I:Inv X pI σ H s):∀ b∈frs X.stack,b∈X.fs\/X.s₀.heap.get? b=Af:=fun b hb=>by
 rcases Ax.mp (I.stkSub b hb) with z|z
 ·exact .inr (by rw[z];exact XC I.ok.above)
 ·exact .inl z
theorem LM(I:Inv X pI σ H s)(hx:X.ex=[])(h:s.heap.get? b=Af):X.s₀.heap.get? b=Af:=by
 cases q:X.s₀.heap.get? b with
 |none=>rfl
 |some o=>
  obtain⟨o',z⟩:=I.base.there b o q (by rw[hx];simp)
  rw[h]at z;cases z
theorem uO(hE:∀ x cls H',W x H'->(∃ C,CL x.c=Ab C/\cls=.ref C)->E cls Af H'):∀ A',KZ (CXR P w) (GX (CXR P w) P w K mg base N qual scope f cd A outer s H E) (EKW K CL A' W):=by
 intro A' pI σ H1 s1 ev s2 I h;obtain⟨e,T,cls,H',rfl,os,bare,un,hok,fl,he,hT,ne,nT,x,xr,wx⟩:=h;have I':=I.call' (s':=s2) (ch:=[]) os un hok bare (fun b z=>absurd z (by simp))
 have hb0:Un (frs outer) [] H H' s.heap s2.heap:=I'.base;show AB (model P w) (A.deeper (Fb qual scope s.heap.objs.size f cd)) (leaving (Fb qual scope s.heap.objs.size f cd) (.ref e)) _ _ s2;refine ZQ (L:=s.heap.objs.size) I'.ok.frames rfl I'.stack fl fun h' T' fl' sh hT'=>?_
 have e0:s.heap.get? e=Af:=LM I rfl ne;have T0:s.heap.get? T=Af:=LM I rfl nT;refine⟨e,T',cls,H',rfl,I'.os,bare,Un.shift hb0 sh ?_ (TU I'),HOk.shift hok sh ?_ I'.stkFree,fl',he,?_,e0,?_,?_⟩
 ·intro b hb;rcases Ax.mp hb with rfl|hb
  ·exact e0
  ·rw[Bs.mp hb];exact T0
 ·intro b hb;rcases Ax.mp hb with rfl|hb
  ·exact he
  ·rw[Bs.mp hb];exact hT
 ·rcases hT' with rfl|z
  ·exact hT
  ·exact OR hok z
 ·rcases hT' with rfl|z
  ·exact T0
  ·exact LM I' rfl z
 ·obtain⟨C,c1,c2,_⟩:=xr;exact hE x cls H' wx ⟨C,c1,c2⟩
theorem rzR(hE:∀ x cls H',W x H'->(∃ C,CL x.c=Ab C/\cls=.ref C)->E cls Af H'):QP (GX (CXR P w) P w K mg base N qual scope f cd A outer s H E) CL W:=by
  intro pI σ H1 s1 h2 e C vs x I hm hc hf hw;have hb0:Un (frs outer) [] H H1 s.heap s1.heap:=I.base;show AB (model P w) (A.deeper (Fb qual scope s.heap.objs.size f cd)) (leaving (Fb qual scope s.heap.objs.size f cd) (.ref e)) _ _ {s1 with heap:=h2}
  refine ZK (s:={s1 with heap:=h2}) (h:=s1.heap) (L:=s.heap.objs.size) I.ok.frames rfl I.stack hm fun h' T' fl' sh hT'=>?_
  refine⟨e,T',.ref C,H1,rfl,I.os,I.bare,Un.shift hb0 sh (fun b hb=>nomatch hb) (TU I),HOk.shift I.hok sh (fun b hb=>nomatch hb) I.stkFree,fl',OR I.hok hm.new,OR I.hok hT',LM I rfl hm.new,LM I rfl hT',hE x _ H1 hw ⟨C,hc,rfl⟩⟩
theorem ownR:Gh (model P w) (GX (CXR P w) P w K mg base N qual scope f cd A outer s H E).A (GX (CXR P w) P w K mg base N qual scope f cd A outer s H E).env (GX (CXR P w) P w K mg base N qual scope f cd A outer s H E).xe:=PassesOwn.leaving
end
noncomputable def veB:Ac Ai:=[.type "ValueError", .type "Exception", .type "BaseException", .type "object"]
structure XcOk (K:Fg) (C:Ak):Prop where
 exc:PySem.W.excIn K C veB "ValueError.__new__" = Aa
 ga:GO K (.ref C) "__getattribute__" = Ab (Ab (.builtin "BaseException.__getattribute__"))
 gt:GO K (.ref C) "__getattr__" = Ab Af
 cl:GO K (.ref C) "__class__" = Ab (Ab (.builtin "object.__class__"))
 ob:PySem.W.mroIn K C (.type "object")=Ab Aa
 be:XV K (.ref C) (.type "BaseException")=Ab Aa
 cs:(PySem.W.clsIn K C).isSome=Aa
 ve:XU K (.ref C) (.type "ValueError")=Ab Aa
section
variable{prog:A8}{w:AN}{A:Bu}{E:Vq}{h:AS}{g:AQ Ll}{d:Drawn}{t:Ag}{os:OsState}{K:Fg}{e C:Ak}
end
def V1(X:Cx)(pI:Pn)(e:Ak):Prop:=e≠X.env.locals/\(∀ x c,X.env.cells.lookup x=Ab c->c≠e)/\(∀ p∈X.pn++pI,p.1≠e)/\X.s₀.heap.get? e=Af
section
variable{X:Cx}{pI:Pn}{σ:L2.St}{H:Hp}{s:Ap}{e:Ak}
end
noncomputable def Cx.hot(X:Cx)(e:Ak):Cx:={X with A:=X.A.mark (Ab (.ref e)),calm:=Ad,xe:=fun _ _=>BK}
section
variable{X:Cx}{pI:Pn}{σ:L2.St}{H:Hp}{s:Ap}{e:Ak}
end
noncomputable def xW(X:Cx)(CL:ClA)(pI:Pn)(σ:L2.St)(H:Hp)(y:Ex)(Xw:Vq):Prop:=
 ∀ s' H' e T C,Inv X pI σ H' s'->AO H H'->Fly e T (.ref C) s'.heap->H' e=Af->H' T=Af->V1 X pI e->V1 X pI T->CL y.c=Ab C->y.fs=[]->Xw (.ref e) s'
def STB(X:Cx)(CL:ClA)(body:Ac Cj)(f:Rho->O):Prop:=∀ Fz B pI s σ H D ρ (Xw:Vq),Gh (model X.prog X.w) X.A X.env Xw->Inv X pI σ H s->Sx X.K CL Fz B ρ σ H ->
  (match f ρ with
   |.exn y ρ'=>ρ'=ρ->xW X CL pI σ H y Xw
   | o=>CP X.K CL Fz B (fun _ _=>BK) o D)->(∀ y ρ',f ρ=.exn y ρ'->ρ'=ρ)->AB (model X.prog X.w) X.A (execs body X.env) (SP X pI D) Xw s
noncomputable def Cx.pw(X:Cx)(pI:Pn)(Xw:Vq):Cx:={X with pn:=X.pn++pI,xe:=Xw}
section
variable{X:Cx}{pI pins':Pn}{σ:L2.St}{H:Hp}{s:Ap}{Xw:Vq}
end
section
variable{X:Cx}{CL:ClA}{k n:Ag}{fr:Ao}{f:Ak}{fd:CO}{ps:Ac Al}{F:Ac D->R D}{x:Al}{p pos pos2:Bk}{e:At}{es:Ac At}{fs ft:Rho->R (Ac D)}{sh:Rho->Ao}
variable(hx0:X.ex=[])(G:FnOk X.prog X.w X.K X.mg X.base (CXR X.prog X.w) k f fd ps (spD X.K CL n fr F))(hr:Room k X.A)(hg:Gl X x)(hm:X.mg x=Ab (.ref f))
    (hk:DL X.K (.ref f)=Aa) (hb:Im X.K fd ps []) (hst:∀ ρ,sh ρ=Aa->ft ρ=fs ρ) (hn:∀ ρ ds,ft ρ=.ok ds->ds.length=n) (hnx:∀ ρ y,ft ρ≠.exn y)
    (hdb:(x==("__debug__" : Al))=Ad) (he:AM (e::es) X.env=(Ad,eval e X.env)::AM es X.env) (hpl:∀ pos,(CU pos (AM es X.env)).any (·.1)=Ad)
    (ha:∀ pI Xw,Gh (model X.prog X.w) X.A X.env Xw->SA (Cx.pw X pI Xw) CL (fun _ _=>BK) (e::es) fs/\SAT (Cx.pw X pI Xw) CL (fun _ _=>BK) (e::es) ft)
include hx0 G hr hg hm hk hb hst hn hnx hdb he hpl ha
end
section
variable{X:Cx}{CL:ClA}{W:XW}
def sN(K:Fg)(CL:ClA)(up:Ag->Ac Ag)(c':Ag)(C':Ak):Prop:=∀ c C,CL c=Ab C->XU K (.ref C) (.ref C')=Ab ((up c).contains c')
variable{a:At}{fa:Rho->R D}{up:Ag->Ac Ag}{x:Al}{p p2 pos:Bk}
end
end Ov
section
namespace Ov
open PySem PySem.Spec PyProof.Rows L2
end Ov
end
namespace Ov
open PySem PySem.Spec PyProof.Rows L2
variable{p pos:Bk}{as:Es}{α:Type}{g x n x0 x1:Al}{y:At}{X:Cx}{CL:ClA}{fr:Ao}{xs ys:Ac At}{env:CG}{l kk k:Ag}{scope:CM}{ts:Ac Ag}{H:Hp}{vs:Ac V}{f:Ak}{fd:CO}{CX:CXT}{ps:Ac Al}{F:Ac D->R D}{h:AS}
noncomputable abbrev YG:CXT:=fun _ _ _ _ _ _=>BK
structure HotOk (P:A8) (w:AN) (K:Fg) (mg:Al->Av Ai) (base:AS) (k:Ag) (f:Ak) (fd:CO) (ps:Ac Al) (sp:Sp):Prop where
 len:∀ vs H Q E,sp vs H Q E->vs.length=ps.length
 run:∀(A:Bu)(ev:Ak)(outer:Ac CG)(s:Ap)(H:Hp)(args:Args)(us:Ac Ai)(vs:Ac V)(Q:VK)(E:XK),Room k A->Env0 P w K mg base (A.mark (Ab (.ref ev))) outer s H->Hr s fd args (ps.zip us)->Br vs us->sp vs H Q E ->
  FR (model P w) (A.mark (Ab (.ref ev))) (.call (.ref f) args) (CR YG outer P w H s Q E) s
def spH(K:Fg)(CL:ClA)(n:Ag)(fr:Ao)(F:Ac D->R D):Sp:=fun vs H Q _=>∃(ds:Ac D)(A:Ak->Prop),vs.length=n/\AOk H A/\Reps K CL H A vs ds/\(match F ds with
  |.ok d=>∀ v H',AO H H'->EH K CL fr H A H' v d->Q v H'
  |.exn _=>BK
  | .bad=>BK)
section
variable{X:Cx}{CL:ClA}{ev:Ak}
end
structure Tc where
 sc:CM
 N:Ac Al
 /-- a def's name,its number,how many parameters it has -/
 fns:Ac (Al×Ag×Ag)
 /-- built-in names that the text does not hide -/
 bl:Ac Al
 /-- exceptions' classes by their names: those that are raised,all that are asked for -/
 rzs:Ac (Al×Ag)
 exs:Ac (Al×Ag)
 /-- the text's constants -/
 gls:Ac (Al×Ag)
noncomputable def QD(T:Tc)(x:Al):Ao:=match T.sc.names.lookup x with
  |some .local=>Aa
  |some .cell=>Aa
  |some .free=>Aa
  |_=>Ad
noncomputable def K6(T:Tc)(x:Al):Ao:=match T.sc.names.lookup x with
  |some .local=>Aa
  |some .cell=>Aa
  |_=>Ad
noncomputable def glB(T:Tc)(x:Al):Ao:=T.sc.names.lookup x==Ab .globalImplicit
noncomputable def Mf(x:Al):Ao:=!(x==("__debug__" : Al)) && !(x==("__classdict__" : Al)) && !(x==("__name__" : Al))
noncomputable def isV(T:Tc)(x:Al)(i:Ag):Ao:=T.N[i]? == Ab x&&QD T x&&Mf x
noncomputable def isB(T:Tc)(x:Al):Ao:=T.bl.contains x&&glB T x&&Mf x
noncomputable def Ev:At->Ao
 |.Starred _ _=>Ad
 |_=>Aa
noncomputable def Pd:At->Ao
 |.Slice _ _ _ _=>Ad
 |_=>Aa
noncomputable def Ma:At->Ao
 |.Set _ _ _=>Ad
 |_=>Aa
noncomputable def KS:At->Ao
 |.ListComp _ _ _ _=>Ad
 |.SetComp _ _ _ _=>Ad
 |.DictComp _ _ _ _ _=>Ad
 |_=>Aa
noncomputable def Wa(tu:Ao):At->Ao
 |.Tuple ..=>tu
 |.Name ..=>!tu
 |_=>Ad
noncomputable def xC:At->Ao
 |.Tuple _ _ _=>Aa
 |_=>Ad
noncomputable def VB:At->Ao
 |.Tuple _ _ _=>Ad
 |_=>Aa
noncomputable def OI:At->Ao
 |.UnaryOp _ _ _=>Ad
 |.BoolOp _ _ _=>Ad
 |.IfExp _ _ _ _=>Ad
 |.Compare _ _ _ _=>Ad
 |_=>Aa
noncomputable def Qs:Ki->Av Al
 |.int=>Ab "int"
 |.bool=>Ab "bool"
 |.str=>Ab "str"
 |.list=>Ab "list"
 |.tuple=>Ab "tuple"
 |_=>Af
noncomputable def Qt:BI->Av Al
 |.len=>Ab "len"
 |.abs=>Af
 |.max=>Ab "max"
 |.min=>Ab "min"
 |.int=>Af
 |.list=>Ab "list"
 |.tuple=>Ab "tuple"
 |.all=>Ab "all"
 |.any=>Ab "any"
 |.sum=>Ab "sum"
 |.sorted=>Ab "sorted"
 |.tmin=>Af
 |.tmax=>Af
 |_=>Af
noncomputable def Qu(o scope:CM):CM:={scope with names:=scope.names.map fun (n,k)=>if (k==.free&&o.kind==.function&&o.names.lookup n==Ab .cell) then (n,.cell) else (n,k)}
noncomputable def Lc:Ac Ag->Ac Al->Ac Al->Ac Al
 |t::ts,x::xs,N=>Lc ts xs ((N.map fun y=>if y==x then N.getD t x else y).set t x)
 |_,_,N=>N
noncomputable def L4:Ac Al->Ao
 |[]=>Aa
 |x::xs=>!xs.contains x&&L4 xs
noncomputable def Mh(T:Tc)(scope:CM)(ts:Ac Ag)(N':Ac Al):Ao:=
  scope.kind==.function&&scope.names.all (fun y=>scope.names.lookup y.1==Ab y.2) &&
  scope.names.all (fun y=>y.2 != .free||T.sc.names.lookup y.1==Ab .cell||T.sc.names.lookup y.1==Ab .free) &&
  N'.length==T.N.length&&L4 N' &&
  (Bb N'.length).all fun i=>ts.contains i||(match N'[i]? with
    |some x=>(scope.names.lookup x != Ab .local&&scope.names.lookup x != Ab .cell)&&(scope.names.lookup x != Ab .free||T.N[i]? == Ab x)
    | none=>Aa)
noncomputable def Fj:Ac At->Av (Ac Al)
 |[]=>Ab []
 |.Name x _::r=>(Fj r).map (x :: ·)
 |_=>Af
noncomputable def tgN(ys:Ac At):Ac Al:=(Fj ys).getD []
noncomputable def tgB(T:Tc):Ac Ag->Ac Al->Ao
 |[],[]=>Aa
 |t::ts,x::xs=>T.N[t]? == Ab x&&T.sc.names.lookup x==Ab .local&&tgB T ts xs
 |_,_=>Ad
noncomputable def tgO(T:Tc)(scope:CM)(t:Ag)(x:Al):Ao:=T.N[t]? == Ab x&&(T.sc.names.lookup x==Ab .local||(T.sc.names.lookup x==Ab .cell&&scope.names.lookup x==Ab .cell))
noncomputable def tgC(T:Tc):Ac Ag->Ac Al->Ao
 |[],[]=>Aa
 |t::ts,x::xs=>T.N[t]? == Ab x&&K6 T x&&tgC T ts xs
 |_,_=>Ad
noncomputable def Tc.blk(T:Tc)(scope:CM)(ts:Ac Ag)(xs:Ac Al):Tc:={T with sc:=Qu T.sc scope,N:=Lc ts xs T.N}
noncomputable def QL:E->Ao
 |.lst _=>Aa
 |.comp _ _ _ _=>Aa
 |.compT _ _ _ _=>Aa
 |.bin .Add _ _=>Aa
 |.bi .list _=>Aa
 |.sl _ _ _=>Aa
 |_=>Ad
noncomputable def Np:E->Av E
  | .bi b as=>(match b with
    | .list=>(match as with
      | .cons x r=>(match r with
        | .nil=>(match x with
          | .bin op a c=>(match op with
            | .Add=>(match c with
              | .tup es=>(match es with
                |.nil=>Ab a
                | _=>Af)
              | _=>Af)
            | _=>Af)
          | _=>Af)
        | _=>Af)
      | .nil=>Af)
    | _=>Af)
  |_=>Af
theorem dC{e a:E}(q:Np e=Ab a):e=.bi .list (.cons (.bin .Add a (.tup .nil)) .nil):=by
 unfold Np at q
 repeat' split at q
 all_goals first|cases q;done|skip
 cases q;rfl
theorem gO(Γ:Gam){e:E}(h:QL e=Aa):Ez Γ e=Aa:=by
 unfold QL at h;split at h<;>first|rfl|cases h
noncomputable def Mi:At->Av (At×At×Bk)
  | .Compare x ops ys p=>(match ops with
    | [.Lt]=>(match ys with
      |[y]=>Ab (x,y,p)
      | _=>Af)
    | _=>Af)
  |_=>Af
theorem mG{e x y:At}(q:Mi e=Ab (x,y,p)):e=.Compare x [.Lt] [y] p:=by
 unfold Mi at q;split at q
 ·split at q
  ·split at q
   ·cases q;rfl
   ·cases q
  ·cases q
 ·cases q
noncomputable def J9:Es->Av (E×E)
  | .cons a r=>(match r with
    | .cons b t=>(match t with
      |.nil=>Ab (a,b)
      | _=>Af)
    | _=>Af)
  |.nil=>Af
theorem SJ{a b:E}(q:J9 as=Ab (a,b)):as=.cons a (.cons b .nil):=by
 unfold J9 at q;split at q
 ·split at q
  ·split at q
   ·cases q;rfl
   ·cases q
  ·cases q
 ·cases q
noncomputable def QF(T:Tc)(ck:Tc->At->E->Ao)(x:At)(ops:Ac ES)(ys:Ac At)(b:BI)(as:Es):Ao:=match J9 as with
  | some (a,c)=>(match ops,ys with
    |[.Lt],[y]=>decide (b=.tlt) && !behindInMarks .Lt y&&ck T x a&&ck T y c
    | _,_=>Ad)
  |none=>Ad
noncomputable def QX(T:Tc)(e:At)(b:BI)(as:Es):Ao:=Ad
noncomputable def P0:At->Av (Al×Bk)
 |.Name x p=>Ab (x,p)
 |_=>Af
theorem Sd{e:At}{t:Al×Bk}(q:P0 e=Ab t):e=.Name t.1 t.2:=by
 cases e with
 |Name x p=>cases q;rfl
 |_=>cases q
noncomputable def P5:At->Av (At×Ac At×Ac Fe×Bk)
 |.Call f as ks p=>Ab (f,as,ks,p)
 |_=>Af
theorem Sf{e:At}{t:At×Ac At×Ac Fe×Bk}(q:P5 e=Ab t):e=.Call t.1 t.2.1 t.2.2.1 t.2.2.2:=by
 cases e with
 |Call f as ks p=>cases q;rfl
 |_=>cases q
noncomputable def yH:At->Av (Ac At×Ag×Bk)
 |.Tuple es k p=>Ab (es,k,p)
 |_=>Af
noncomputable def one{α:Type}:Ac α->Av α
 |[a]=>Ab a
 |_=>Af
theorem pL{l:Ac α}{a:α}(q:one l=Ab a):l=[a]:=by
  match l,q with
  |[b],q=>cases q;rfl
noncomputable def La(e:At):Av (Al×Al×Ac At):=(P5 e).bind fun c=>(P0 c.1).bind fun g=>(one c.2.1).bind fun a=>(P5 a).bind fun d=>(P0 d.1).bind fun h=>if (c.2.2.1.isEmpty&&d.2.2.1.isEmpty)=Aa then Ab (g.1,h.1,d.2.1) else Af
theorem Uz{e:At}{h:Al}{bs:Ac At}(q:La e=Ab (g,h,bs)):∃ p p' pos pos',e=.Call (.Name g p) [.Call (.Name h p') bs [] pos'] [] pos:=by
 obtain⟨⟨f,as,ks,pos⟩,e1,q⟩:=DH.mp q;obtain⟨⟨g',p⟩,e2,q⟩:=DH.mp q;obtain⟨a,e3,q⟩:=DH.mp q;obtain⟨⟨f',bs',ks',pos'⟩,e4,q⟩:=DH.mp q;obtain⟨⟨h',p'⟩,e5,q⟩:=DH.mp q;by_cases hk:(ks.isEmpty&&ks'.isEmpty)=Aa
 ·rw[Az hk]at q;cases q;rw[An,Hy,Hy]at hk;obtain⟨rfl,rfl⟩:=hk;have x1:=Sf e1;have x2:=Sd e2;have x3:=pL e3;have x4:=Sf e4;have x5:=Sd e5;dsimp only at x1 x2 x3 x4 x5;subst x1 x2 x3 x4 x5;exact⟨_,_,_,_,rfl⟩
 ·rw[AH hk]at q;cases q
noncomputable def Nv(e:At):Av (Al×Al×At×At×At):=match La e with
  | some (g,h,bs)=>(match bs with
    |[x,y,z]=>Ab (g,h,x,y,z)
    | _=>Af)
  |none=>Af
theorem jF{e:At}{h:Al}{x z:At}(q:Nv e=Ab (g,h,x,y,z)):∃ p p' pos pos',e=.Call (.Name g p) [.Call (.Name h p') [x,y,z] [] pos'] [] pos:=by
  unfold Nv at q;cases c:La e with
  |none=>rw[c]at q;cases q
  |some t=>
    obtain⟨g',h',bs⟩:=t;rw[c]at q
    match bs,q,c with
    |[a,b,d],q,c=>cases q;exact Uz c
noncomputable def Rk(e:At):Av (Al×Al×At×At):=match La e with
  | some (g,h,bs)=>(match bs with
    |[x,y]=>Ab (g,h,x,y)
    | _=>Af)
  |none=>Af
noncomputable def Qz(_:Es):Av (E×E):=Af
noncomputable def Mg(e:At):Av (Al×Al×At):=match La e with
  | some (g,h,bs)=>(match bs with
    |[x]=>Ab (g,h,x)
    | _=>Af)
  |none=>Af
theorem fP{e:At}{h:Al}{x:At}(q:Mg e=Ab (g,h,x)):∃ p p' pos pos',e=.Call (.Name g p) [.Call (.Name h p') [x] [] pos'] [] pos:=by
  unfold Mg at q;cases c:La e with
  |none=>rw[c]at q;cases q
  |some t=>
    obtain⟨g',h',bs⟩:=t;rw[c]at q
    match bs,q,c with
    |[a],q,c=>cases q;exact Uz c
noncomputable def Md:Es->Av E
  | .cons a r=>(match r with
    |.nil=>Ab a
    | _=>Af)
  |.nil=>Af
theorem dB{a:E}(q:Md as=Ab a):as=.cons a .nil:=by
 unfold Md at q;split at q
 ·split at q
  ·cases q;rfl
  ·cases q
 ·cases q
noncomputable def two(e:At):Av (At×At):=(yH e).bind fun t=>match t.1 with
  |[a,b]=>Ab (a,b)
  |_=>Af
noncomputable def Wb:At->Av (At×Ae)
  | .Subscript v s _=>(match s with
    | .Slice lo hi st _=>(match lo with
      | some (.Constant (.int k) _ _)=>(match hi with
        | none=>(match st with
          |some (.Constant (.int j) _ _)=>if j=2 then Ab (v,k) else Af
          | _=>Af)
        | some _=>Af)
      | _=>Af)
    | _=>Af)
  |_=>Af
noncomputable def Qy(_:Es):Av (E×Ae):=Af
mutual
noncomputable def Bo:Ag->Tc->At->E->Ao
  |0,_,_,_=>Ad
  |n+1,T,e,c=>match c with
    |.non=>(match e with | .Constant .none _ _=>Aa|_=>Ad)
    |.bl b=>(match e with | .Constant (.bool b') _ _=>b' == b|_=>Ad)
    |.int i=>(match e with | .Constant (.int j) _ _=>decide (j=i)|_=>Ad)
    |.str x=>(match e with | .Constant (.str y) _ _=>decide (y=x)|_=>Ad)
    |.var i=>(match e with | .Name x _=>isV T x i|_=>Ad)
    |.glob g=>Ad
    |.bin op a b=>(match e with | .BinOp x op' y _=>decide (op'=op)&&Bo n T x a&&Bo n T y b|_=>Ad)
    |.un op a=>(match e with | .UnaryOp .USub x _=>decide (op=.USub)&&Bo n T x a|_=>Ad)
    |.no a=>(match e with | .UnaryOp .Not x _=>Bo n T x a|_=>Ad)
    |.and es=>(match e with | .BoolOp .And xs _=>chkEs n T xs es && !xs.isEmpty|_=>Ad)
    |.or es=>(match e with | .BoolOp .Or xs _=>chkEs n T xs es && !xs.isEmpty|_=>Ad)
    |.cmp op a b=>(match e with | .Compare x [op'] [y] _=>decide (op'=op) && !behindInMarks op y&&Bo n T x a&&Bo n T y b|_=>Ad)
    |.cmp2 op1 op2 a b c=>(match e with | .Compare x [o1,o2] [y,z] _=>decide (o1=op1)&&decide (o2=op2) && !lastMarks [op1,op2] [y,z]&&Bo n T x a&&Bo n T y b&&Bo n T z c|_=>Ad)
    |.ite c a b=>Ad
    |.call f as=>(match e with | .Call (.Name g _) (x::xs) [] _=>(T.fns.any fun p=>p.1==g&&p.2.1==f&&p.2.2==xs.length+1)&&decide (xs.length<900)&&glB T g&&Mf g&&chkEs n T (x::xs) as|_=>Ad)
    |.bi b as=>(match e with | .Call (.Name g _) (x::xs) [] _=>Qt b==Ab g&&isB T g&&chkEs n T (x::xs) as|_=>Ad)||QX T e b as||(match Qz as with|some (a,c)=>(match Rk e with|some (g,h,x,y)=>decide (b=.list)&&g==("list" : Al)&&h==("range" : Al)&&isB T g&&isB T h&&Ev x&&Ev y&&Bo n T x a&&Bo n T y c|none=>Ad)|none=>Ad)||(match Qy as with|some (a,k)=>(match Wb e with|some (x,j)=>decide (b=.stp)&&decide (j=k)&&decide (0<=k)&&Bo n T x a|none=>Ad)|none=>Ad)||(match Md as with|some a=>(match Mg e with|some (g,h,x)=>decide (b=.lset)&&g==("len" : Al)&&h==("set" : Al)&&isB T g&&isB T h&&Ev x&&Bo n T x a|none=>Ad)|none=>Ad)||(match J9 as with|some (a,c)=>(match Mi e with|some (x,y,_)=>decide (b=.tlt) && !behindInMarks .Lt y&&Bo n T x a&&Bo n T y c|none=>Ad)|none=>Ad)
    |.isi a ks=>(match ks with | [k]=>(match e with | .Call (.Name g _) [x,.Name t _] [] _=>g==("isinstance" : Al)&&isB T g&&Qs k==Ab t&&isB T t&&Ev x&&Bo n T x a|_=>Ad)|_=>Ad)
    |.idx a i=>(match e with | .Subscript x y _=>Pd y&&Bo n T x a&&Bo n T y i|_=>Ad)
    |.sl a lo hi=>(match e with | .Subscript x (.Slice l h Af _) _=>Bo n T x a&&chkO n T l lo&&chkO n T h hi|_=>Ad)
    |.tup es=>(match e with | .Tuple xs _ _=>chkEs n T xs es&&decide (xs.length<=1000)|_=>Ad)
    |.lst es=>(match e with | .List xs _=>chkEs n T xs es&&decide (xs.length<=1000)|_=>Ad)
    |.comp elt t it c=>(match e with | .ListComp x [⟨.Name y _,iter,ifs,0⟩] scope _=>chkI n T Ad iter it&&Ma iter&&Mh T scope [t] (Lc [t] [y] T.N)&&tgO (T.blk scope [t] [y]) scope t y&&chkT n (T.blk scope [t] [y]) ifs c&&Bo n (T.blk scope [t] [y]) x elt|_=>Ad)
    |.compT elt ts it c=>(match e with | .ListComp x [⟨.Tuple ys _ _,iter,ifs,0⟩] scope _=>(Fj ys).isSome&&chkI n T Aa iter it&&Ma iter&&Mh T scope ts (Lc ts (tgN ys) T.N)&&tgB (T.blk scope ts (tgN ys)) ts (tgN ys)&&chkT n (T.blk scope ts (tgN ys)) ifs c&&Bo n (T.blk scope ts (tgN ys)) x elt|_=>Ad)
    |.tupI it=>(match it with | .zip3 a b c=>(match Nv e with|some (g,h,x,y,z)=>g==("tuple" : Al)&&h==("zip" : Al)&&isB T g&&isB T h&&Ev x&&Ev y&&Ev z&&Bo n T x a&&Bo n T y b&&Bo n T z c|none=>Ad)|_=>Ad)
    |.dnew=>Ad
    |.fld _ _=>Ad
noncomputable def Kf:Ag->Tc->At->E->Ao
  |0,_,_,_=>Ad
  |n+1,T,e,c=>match e with
    |.UnaryOp .Not x _=>(match c with | .no a=>Kf n T x a|_=>Ad)
    |.BoolOp .And xs _=>(match c with | .and es=>chkBs n T xs es && !xs.isEmpty|_=>Ad)
    |.BoolOp .Or xs _=>(match c with | .or es=>chkBs n T xs es && !xs.isEmpty|_=>Ad)
    | .Compare x ops ys _=>(match c with
      |.cmp op a b=>(match ops,ys with | [op'],[y]=>decide (op'=op) && !behindInMarks op y&&Bo n T x a&&Bo n T y b|_,_=>Ad)
      |.cmp2 op1 op2 a b c=>(match ops,ys with | [o1,o2],[y,z]=>decide (o1=op1)&&decide (o2=op2) && !lastMarks [op1,op2] [y,z]&&Bo n T x a&&Bo n T y b&&Bo n T z c|_,_=>Ad)
      |.bi b as=>QF T (Bo n) x ops ys b as
      | _=>Ad)
    |e=>OI e&&Bo n T e c
noncomputable def chkBs:Ag->Tc->Ac At->Es->Ao
  |0,_,_,_=>Ad
  |n+1,T,xs,es=>match xs,es with
    |[],.nil=>Aa
    |x::xs,.cons e es=>Kf n T x e&&chkBs n T xs es
    |_,_=>Ad
noncomputable def chkEs:Ag->Tc->Ac At->Es->Ao
  |0,_,_,_=>Ad
  |n+1,T,xs,es=>match xs,es with
    |[],.nil=>Aa
    |x::xs,.cons e es=>Ev x&&Bo n T x e&&chkEs n T xs es
    |_,_=>Ad
noncomputable def chkO:Ag->Tc->Av At->E->Ao
  |0,_,_,_=>Ad
  |n+1,T,x,e=>match x with
    |none=>(match e with | .non=>Aa|_=>Ad)
    |some x=>(match e with | .non=>Ad|e=>Bo n T x e)
noncomputable def chkT:Ag->Tc->Ac At->E->Ao
  |0,_,_,_=>Ad
  |n+1,T,xs,e=>match xs with
    |[]=>(match e with | .bl Aa=>Aa|_=>Ad)
    |[x]=>Kf n T x e
    |_=>Ad
noncomputable def chkI:Ag->Tc->Ao->At->I->Ao
  |0,_,_,_,_=>Ad
  |n+1,T,tu,e,i=>match i with
    |.e a=>Bo n T e a
    |.rng a=>(match e with | .Call (.Name g _) [x] [] _=>g==("range" : Al)&&isB T g&&Ev x&&Bo n T x a|_=>Ad)
    |.enm a=>(match e with | .Call (.Name g _) [x] [] _=>tu&&g==("enumerate" : Al)&&isB T g&&Ev x&&Bo n T x a|_=>Ad)
    |.zip a b=>(match e with | .Call (.Name g _) [x,y] [] _=>tu&&g==("zip" : Al)&&isB T g&&Ev x&&Ev y&&Bo n T x a&&Bo n T y b|_=>Ad)
    |.rng2 a b=>(match e with | .Call (.Name g _) [x,y] [] _=>g==("range" : Al)&&isB T g&&Ev x&&Ev y&&Bo n T x a&&Bo n T y b|_=>Ad)
    |.zip3 a b c=>Ad
end
noncomputable def VO(_:Ag)(_:Tc)(_:Ag)(_:Ac Cj)(_:Ss):Ao:=Ad
mutual
noncomputable def Gd:Ag->Tc->Cj->S->Ao
  |0,_,_,_=>Ad
  |n+1,T,st,s=>match s with
    |.pass=>Ad
    |.brk=>Ad
    |.cont=>Ad
    |.asg i _ e=>(match st with | .Assign [.Name x _] v _=>T.N[i]? == Ab x&&K6 T x&&Bo n T v e|_=>Ad)
    |.asgT ts e=>(match st with | .Assign [.Tuple ys _ _] v _=>(Fj ys).isSome&&tgC T ts (tgN ys)&&(VB v||Em 4 ys.length)&&Bo n T v e|_=>Ad)
    |.expr e=>(match st with | .Expr v _=>KS v&&Bo n T v e|_=>Ad)
    |.ret e=>(match st with | .Return (Ab v) _=>Bo n T v e|_=>Ad)
    |.retN=>Ad
    |.ife c a b=>(match st with | .If t xs ys _=>Kf n T t c&&chkSs n T xs a&&chkSs n T ys b|_=>Ad)
    |.fors t it body=>(match st with | .For (.Name x _) iter xs [] _=>tgC T [t] [x]&&Ma iter&&chkI n T Ad iter it&&chkSs n T xs body|_=>Ad)
    |.forT ts it body=>(match st with | .For (.Tuple ys _ _) iter xs [] _=>(Fj ys).isSome&&tgC T ts (tgN ys)&&Ma iter&&chkI n T Aa iter it&&chkSs n T xs body|_=>Ad)
    |.whl c body=>Ad
    |.rais c as=>!(T.rzs.any fun p=>p.2==c)
    |.tryx _ _ _ _=>Ad
    |.app i e=>(match st with | .Expr (.Call (.Attribute (.Name x _) m ap) [v] [] cp) _=>m==("append" : Al)&&isV T x i&&ap.endLine==cp.line&&Ev v&&Bo n T v e|_=>Ad)
    |.ext i e=>(match st with | .Expr (.Call (.Attribute (.Name x _) m ap) [v] [] cp) _=>m==("extend" : Al)&&isV T x i&&ap.endLine==cp.line&&Ev v&&(QL e&&Bo n T v e||(match Np e with|some a=>Bo n T v a|none=>Ad))|_=>Ad)
    |.rev i=>Ad
    |.clr i=>Ad
    |.put i k e=>(match st with | .Assign [.Subscript (.Name x _) y _] v _=>isV T x i&&Pd y&&Bo n T y k&&Bo n T v e|_=>Ad)
    |.swp _ _ _=>Ad
    |.ins _ _ _=>Ad
    |.dput _ _ _=>Ad
    |.dsd _ _ _=>Ad
    |.rel _=>Ad
noncomputable def chkSs:Ag->Tc->Ac Cj->Ss->Ao
  |0,_,_,_=>Ad
  |n+1,T,sts,ss=>match ss with
    |.nil=>sts.isEmpty
    |.cons (.rel i) ss=>chkSs n T sts ss
    | .cons s ss=>(match sts with
      |st::r=>Gd n T st s&&chkSs n T r ss
      | []=>Ad)
end
noncomputable def HW(fuel:Ag)(hot:Ao)(fns:Ac (Al×Ag×Ag))(bl:Ac Al)(rzs exs gls:Ac (Al×Ag))(ps N:Ac Al)(st:Cj)(df:Df):Ao:=
  let sc:=GQ st
  sc.kind==.function && !sc.isCoroutine && !sc.isGenerator&&L4 N&&N.take ps.length==ps&&ps.all (fun x=>sc.names.lookup x==Ab .local||sc.names.lookup x==Ab .cell)&&sc.names.all (fun y=>y.2 != .free)&&N.length==df.n &&
  (match hot with
  |true=>VO fuel ⟨sc,N,fns,bl,rzs,exs,gls⟩ 0 (Ih st) df.body
  | false=>chkSs fuel ⟨sc,N,fns,bl,rzs,exs,gls⟩ (Ih st) df.body)
structure XT (up:Ag->Ac Ag) (xn:Ag->Ac D->R Ex) (CL:ClA) (rzs exs:Ac (Al×Ag)) (K:Fg) (mg:Al->Av Ai):Prop where
 xc:∀ c C,CL c=Ab C->XcOk K C
 rz:∀ p∈rzs,∃ C,CL p.2=Ab C/\mg p.1=Ab (.ref C)
 ex:∀ p∈exs,∃ C,mg p.1=Ab (.ref C)/\sN K CL up p.2 C/\∀ c D,CL c=Ab D->XV K (.ref D) (.ref C)=Ab ((up c).contains p.2)
 made:∀ c ds,xn c ds=.bad\/xn c ds=.ok ⟨c,[]⟩
 xb:∀ c,(∀ p∈rzs,p.2≠c)->∀ ds,xn c ds=.bad
def QR(K:Fg)(mg:Al->Av Ai)(CL:ClA)(x:Al)(d:D):Prop:=∃ u v,mg x=Ab u/\BZ v u/\∀ H A,Rep K CL H A v d
structure VX (Γ:Gam) (CL:ClA) (k:Ag) (W:XW) (T:Tc) (X:Cx):Prop where
 sc:X.env.scope=T.sc
 kd:T.sc.kind=.function
 N:X.N=T.N
 nd:T.N.Nodup
 calm:X.calm=Aa
 room:Room k X.A
 bl:∀ x,x∈T.bl->X.mg x=Af
 fn:∀ p∈T.fns,∃ f fd ps,X.mg p.1=Ab (.ref f)/\DL X.K (.ref f)=Aa/\Im X.K fd ps []/\ps.length=p.2.2%1000/\(p.2.2<1000->FnOk X.prog X.w X.K X.mg X.base (CXR X.prog X.w) k f fd ps (spD X.K CL (p.2.2%1000) (Γ.fr p.2.1) (Γ.F p.2.1)))/\(1000<=p.2.2->HotOk X.prog X.w X.K X.mg X.base k f fd ps (spH X.K CL (p.2.2%1000) (Γ.fr p.2.1) (Γ.F p.2.1)))
 own:Gh (model X.prog X.w) X.A X.env X.xe
 px:∀ A,KZ (CXR X.prog X.w) X (EKW X.K CL A W)
 rz:QP X CL W
 xt:XT Γ.up Γ.xn CL T.rzs T.exs X.K X.mg
 gl:∀ p∈T.gls,QR X.K X.mg CL p.1 (Γ.G p.2)
theorem UM:∀ A,KZ (CXR X.prog X.w) X (EKW X.K CL A W0):=fun A pI σ H s ev s' I h=>by
 obtain⟨e,T,cls,H',_,_,_,_,_,_,_,_,_,_,x,_,w⟩:=h;exact w.elim
theorem Q4:QP X CL W0:=fun _ _ _ _ _ _ _ _ _ _ _ _ _ z=>z.elim
def Rf{α:Type}(g f:Rho->R α):Prop:=∀ ρ,g ρ=.bad\/g ρ=f ρ
section
variable{X:Cx}{CL:ClA}{W:XW}{a:At}{f g:Rho->R D}
theorem SE.ref(h:SE X CL W a f)(r:Rf g f):SE X CL W a g:=fun A=>PE.weak (h A) fun σ H Q ⟨hA,ρ,q,p⟩=>⟨hA,ρ,q,by
 rcases r ρ with e|e
 ·rw[e]at p;exact p.elim
 ·rw[e]at p;exact p⟩
theorem SB.ref{f g:Rho->R Ao}(h:SB X CL W a f)(r:Rf g f):SB X CL W a g:=fun A=>PT.weak (h A) fun σ H Q ⟨hA,ρ,q,p⟩=>⟨hA,ρ,q,by
 rcases r ρ with e|e
 ·rw[e]at p;exact p.elim
 ·rw[e]at p;exact p⟩
theorem SW.ref{f g:Rho->R Ao}(h:SW X CL W a f)(r:Rf g f):SW X CL W a g:=fun A=>PW.weak (h A) fun σ H Q ⟨hA,ρ,q,p⟩=>⟨hA,ρ,q,by
 rcases r ρ with e|e
 ·rw[e]at p;exact p.elim
 ·rw[e]at p;exact p⟩
theorem SC.ref(h:SC X CL W fr a f)(r:Rf g f):SC X CL W fr a g:=fun A=>PE.weak (h A) fun σ H Q ⟨hA,ρ,q,p⟩=>⟨hA,ρ,q,by
 rcases r ρ with e|e
 ·rw[e]at p;exact p.elim
 ·rw[e]at p;exact p⟩
theorem SS.ref{st:Cj}{f g:Rho->O}(h:SS X CL W st f)(r:∀ ρ,g ρ=.bad\/g ρ=f ρ):SS X CL W st g:=fun Fz B=>PS.weak (h Fz B) fun D σ H ⟨ρ,x,p⟩=>⟨ρ,x,by
 rcases r ρ with e|e
 ·rw[e]at p;exact p.elim
 ·rw[e]at p;exact p⟩
end
theorem MJ:∀{l:Ac Al},L4 l=Aa->l.Nodup
 |[],_=>WP
 |x::xs,h=>by
  unfold L4 at h;simp only[An,Bz,Wv,Cs]at h;exact List.nodup_cons.mpr ⟨h.1,MJ h.2⟩
section
variable{T:Tc}{X:Cx}{Γ:Gam}{CL:ClA}{k:Ag}{W:XW}
theorem fH(h:QD T x=Aa):Vis T.sc x:=by
 unfold QD at h;split at h
 ·exact .inl (by assumption)
 ·exact .inr (.inl (by assumption))
 ·exact .inr (.inr (by assumption))
 ·cases h
theorem Pi(h:K6 T x=Aa):Loc T.sc x:=by
 unfold K6 at h;split at h
 ·exact .inl (by assumption)
 ·exact .inr (by assumption)
 ·cases h
theorem Pe(h:Mf x=Aa):(x==("__debug__" : Al))=Ad/\(x==("__classdict__" : Al))=Ad/\x≠"__name__" := by
 unfold Mf at h;simp only[An,Bz]at h;exact⟨h.1.1,h.1.2,fun e=>by subst e;exact absurd h.2 (by simp)⟩
theorem J6{i:Ag}(v:VX Γ CL k W T X)(h:isV T x i=Aa):PE X (.Name x pos) (Jb i):=by
 unfold isV at h;simp only[An,BN]at h;obtain⟨h2,h3,_⟩:=Pe h.2;exact qH (by rw[v.N];exact h.1.1) (by rw[v.sc];exact fH h.1.2) h2 h3
theorem HK(v:VX Γ CL k W T X)(h:isB T x=Aa):Gl X x/\X.mg x=Af/\x≠"__name__"/\(x==("__debug__" : Al))=Ad:=by
 unfold isB glB at h;simp only[An,BN,Wv,AK]at h;obtain⟨h2,h3,h4⟩:=Pe h.2;exact⟨by show X.env.scope.names.lookup x=_;rw[v.sc];exact h.1.2,v.bl x h.1.1,h4,h2⟩
theorem Dc{x:At}(h:Ev x=Aa):AM (x::xs) env=(Ad,eval x env)::AM xs env:=by
 cases x<;>first|rfl|cases h
theorem cP(h:Pd y=Aa):Pu y:=by
 intro o i;cases y<;>first|rfl|cases h
theorem Nd{e:At}(h:Ma e=Aa):∀ x,Dj e env x=pure x:=by
 intro x;cases e<;>first|rfl|cases h
theorem Uv{e:At}{t:Av At}(h:KS e=Aa):DS e t l env=pure Ad:=by
 cases e<;>first|rfl|cases h
theorem dY{e:At}(h:OI e=Aa):∀ whole,Iz e env whole=(do let v <-whole;JI e.pos;holding [v] (truthy v)):=by
 intro whole;cases e<;>first|rfl|cases h
theorem ZF(v:VX Γ CL k W T X)(scope:CM):relabel scope X.env=Qu T.sc scope:=by
 unfold relabel Qu;have:∀ n,X.env.kindOf n=T.sc.names.lookup n:=fun n=>by show X.env.scope.names.lookup n=_;rw[v.sc]
 simp only[this,v.sc]
theorem Qh{N':Ac Al}(v:VX Γ CL k W T X)(h:Mh T scope ts N'=Aa):BlockOk X scope N' ts/\N'.Nodup/\scope.kind=.function:=by
 unfold Mh at h;simp only[An,BN,Ck,Cu,Jd,ne_eq]at h;obtain⟨⟨⟨⟨⟨h1,h2⟩,h4⟩,h5⟩,h6⟩,h7⟩:=h;have at7:∀ i x,N'[i]?=Ab x->i∈ts\/((scope.names.lookup x≠Ab .local/\scope.names.lookup x≠Ab .cell)/\(scope.names.lookup x≠Ab .free\/T.N[i]?=Ab x)):=fun i x e=>by
  have hi:=(Ba.mp e).1;have:=h7 i (Ct.mpr hi);rcases this with z|z
  ·exact .inl (by simpa using z)
  ·rw[e]at z;simp only[An,Jd,ne_eq,Cu,BN]at z;exact .inr z
 refine⟨⟨h1,h2,fun y hy hl=>by rw[h2 y hy,hl],fun y hy hf=>?_,by rw[v.N];exact h5,fun i x e hf hn=>?_,fun i x e hl=>?_⟩,MJ h6,h1⟩
 ·rw[v.sc];rcases h4 y hy with (z|z)|z
  ·exact absurd hf z
  ·exact .inl z
  ·exact .inr z
 ·rw[v.N];rcases at7 i x e with z|⟨_,z⟩
  ·exact absurd z hn
  ·exact z.resolve_left fun q=>q hf
 ·rcases at7 i x e with z|⟨z,_⟩
  ·exact z
  ·exact hl.elim (fun q=>absurd q z.1) (fun q=>absurd q z.2)
theorem VX.blk{xs:Ac Al}{cl:Ac (Al×Ak)}{C:Ak}{s:Ap}{fp:Ac Ak}(v:VX Γ CL k W T X)(h:Mh T scope ts (Lc ts xs T.N)=Aa):VX Γ CL k W0 (T.blk scope ts xs) (cxC X scope cl C (Lc ts xs T.N) s H fp):=by
 obtain⟨_,h2,h3⟩:=Qh v h;exact⟨ZF v scope,h3,rfl,h2,v.calm,v.room,v.bl,v.fn,PassesOwn.never,UM,Q4,v.xt,v.gl⟩
theorem dR{t:Ag}(v:VX Γ CL k W T X)(hfn:scope.names.lookup x=Ab .cell->X.fn x=Aa)(h:tgO T scope t x=Aa):PG X (.Name x pos) (Fk t):=by
 unfold tgO at h;simp only[An,Cu,BN]at h;rcases h with ⟨h1,h2|h2⟩
 ·exact LV (by rw[v.N];exact v.nd) (by rw[v.N];exact h1) (by rw[v.sc];exact .inl h2) (.inr (by rw[v.sc];exact h2))
 ·exact LV (by rw[v.N];exact v.nd) (by rw[v.N];exact h1) (by rw[v.sc];exact .inr h2.1) (.inl (hfn h2.2))
theorem NY{r:Ac At}{zs:Ac Al}(h:Fj (y::r)=Ab zs):∃ x p ws,y=.Name x p/\Fj r=Ab ws/\zs=x::ws:=by
 cases y with
 |Name x p=>
  have h':(Fj r).map (x :: ·)=Ab zs:=h;cases e:Fj r with
  |none=>rw[e]at h';cases h'
  |some ws=>rw[e]at h';cases h';exact⟨x,p,ws,rfl,rfl,rfl⟩
 |_=>cases h
theorem ON(x:Al)(p:Bk)(r:Ac At)(env:CG):Cz (.Name x p::r) env=(Ad,assign (.Name x p) env)::Cz r env:=rfl
theorem NX:∀(ys:Ac At)(zs:Ac Al),Fj ys=Ab zs->(Cz ys env).length=ys.length/\(Cz ys env).findIdx? (·.1)=Af/\(Cz ys env).map (·.2)=ys.map fun y=>assign y env:=by
 intro ys
 induction ys with
 |nil=>intro _ _;exact⟨rfl,rfl,rfl⟩
 |cons y r ih=>
  intro zs h;obtain⟨x,p,ws,rfl,e,rfl⟩:=NY h;obtain⟨h1,h2,h3⟩:=ih ws e;rw[ON];refine⟨?_,?_,?_⟩
  ·rw[Cm,Cm,h1]
  ·rw[List.findIdx?_cons,h2];simp
  ·rw[BQ,BQ,h3]
theorem dX(v:VX Γ CL k W T X):∀(ys:Ac At)(ts:Ac Ag)(zs:Ac Al),Fj ys=Ab zs->tgB T ts zs=Aa->PGs X ys (ts.foldr (fun t u=>HS (Fk t) u) HV)/\ts.length=ys.length:=by
 intro ys
 induction ys with
 |nil=>
  intro ts zs e h;cases e;cases ts with
  |nil=>exact⟨T3,rfl⟩
  |cons t ts=>cases h
 |cons y r ih=>
  intro ts zs e h;obtain⟨x,p,ws,rfl,e2,rfl⟩:=NY e;cases ts with
  |nil=>cases h
  |cons t ts=>
   have h':(T.N[t]? == Ab x&&T.sc.names.lookup x==Ab .local&&tgB T ts ws)=Aa:=h;simp only[An,BN]at h';obtain⟨h1,h2⟩:=ih ts ws e2 h'.2;exact⟨SU (LV (by rw[v.N];exact v.nd) (by rw[v.N];exact h'.1.1) (by rw[v.sc];exact .inl h'.1.2) (.inr (by rw[v.sc];exact h'.1.2))) h1 (by rw[ON];rfl),congrArg (· + 1) h2⟩
theorem dW(v:VX Γ CL k W T X)(hn:(Fj ys).isSome=Aa)(h:tgB T ts (tgN ys)=Aa):PG X (.Tuple ys kk pos) (K9 X.K ts.length (ts.foldr (fun t u=>HS (Fk t) u) HV)):=by
 cases e:Fj ys with
 |none=>rw[e]at hn;cases hn
 |some zs=>
  have e2:tgN ys=zs:=by unfold tgN;rw[e];rfl
  rw[e2]at h;obtain⟨h1,h2⟩:=dX v ys ts zs e h;obtain⟨h3,h4,_⟩:=NX (env:=X.env) ys zs e;exact PY v.calm h1 (by rw[h3,h2]) h4
end
noncomputable def Es.len:Es->Ag
 |.nil=>0
 |.cons _ es=>es.len+1
theorem O4(Γ:Gam)(ρ:Rho):∀(es:Es)(ds:Ac D),evA Γ ρ es=.ok ds->ds.length=es.len
 |.nil,ds,h=>by cases h;rfl
 |.cons e es,ds,h=>by
  obtain⟨x,h1,h2⟩:=JW (Td Γ ρ e es ▸ h);obtain⟨xs,h3,h4⟩:=JW h2;cases h4;exact congrArg (· + 1) (O4 Γ ρ es xs h3)
theorem TK(Γ:Gam)(ρ:Rho):∀(es:Es)(ds:Ac D),evB Γ ρ es=.ok ds->ds.length=es.len
 |.nil,ds,h=>by cases h;rfl
 |.cons e es,ds,h=>by
  obtain⟨x,h1,h2⟩:=JW (Tb Γ ρ e es ▸ h);obtain⟨xs,h3,h4⟩:=JW h2;cases h4;exact congrArg (· + 1) (TK Γ ρ es xs h3)
theorem Vb(Γ:Gam)(ρ:Rho)(e:E)(h:shE ρ e=Aa):top ρ e (evE Γ ρ e)=evE Γ ρ e:=by
 cases e with
 |var i=>
  show Ge ρ i=FX ρ i;have h':shV ρ i=Aa:=h;unfold shV at h';unfold Ge FX;cases q:ρ[i]? with
  |none=>rfl
  |some x=>
   cases x with
   |none=>rfl
   |some y=>
    obtain⟨d,o⟩:=y;cases o with
    |true=>rw[q]at h';cases h'
    |false=>rfl
 |_=>rfl
theorem U1(Γ:Gam)(ρ:Rho):∀(es:Es),JE ρ es=Aa->evB Γ ρ es=evA Γ ρ es
 |.nil,_=>rfl
 |.cons e es,h=>by
  simp only[Zk,An]at h;rw[Td,Tb,Vb Γ ρ e h.1,U1 Γ ρ es h.2]
theorem PF(Γ:Gam)(c:E):Rf (fun ρ=>evE Γ ρ c) (fun ρ=>top ρ c (evE Γ ρ c)):=fun ρ=>by
 by_cases h:shE ρ c=Aa
 ·exact .inr (Vb Γ ρ c h).symm
 ·cases c with
  |var i=>
   refine .inl ?_;show FX ρ i=.bad;have h':¬ shV ρ i=Aa:=h;unfold shV at h';unfold FX;cases q:ρ[i]? with
   |none=>rfl
   |some x=>
    cases x with
    |none=>rfl
    |some y=>
     obtain⟨d,o⟩:=y;cases o with
     |true=>rfl
     |false=>rw[q]at h';exact absurd rfl h'
  |_=>exact absurd rfl h
def Pcs(X:Cx)(CL:ClA)(W:XW)(e:At)(f:Rho->R D):Prop:=∃ tg iter elt ifs scope pos N' ts fi fc fe as g,e=.ListComp elt [⟨tg,iter,ifs,0⟩] scope pos/\BlockOk X scope N' ts/\SI X CL W tg iter fi/\GG X.K CL ts as g /\
 (∀ cl C s H fp,PG (cxC X scope cl C N' s H fp) tg g)/\(∀ cl C s H fp,STs (cxC X scope cl C N' s H fp) CL ifs fc)/\(∀ cl C s H fp,SE (cxC X scope cl C N' s H fp) CL W0 elt fe)/\(∀ x,Dj iter X.env x=pure x) /\
 ∀ ρ,f ρ=(fi ρ).bind fun xs=>(noX (BJ (fun x=>(as x ρ).bind fc) (fun x=>(as x ρ).bind fe) xs)).bind fun ys=>.ok (.lst ys)
theorem Pcs.sc{W:XW}{e:At}{f:Rho->R D}(hc:X.calm=Aa)(h:Pcs X CL W e f):SC X CL W Aa e f:=by
 obtain⟨tg,iter,elt,ifs,scope,pos,N',ts,fi,fc,fe,as,g,rfl,B,hi,hGG,hg,ht,he,hs,ef⟩:=h;exact SC.congr (dJ hc B hi hGG hg ht he hs) ef
structure OkE (Γ:Gam) (CL:ClA) (W:XW) (X:Cx) (e:At) (c:E):Prop where
 se:SE X CL W e (fun ρ=>evE Γ ρ c)
 st:ST X CL W e (fun ρ=>top ρ c (evE Γ ρ c))
 nw:Ez Γ c=Aa->SC X CL W Aa e (fun ρ=>evE Γ ρ c)
 cp:KS e=Ad->Pcs X CL W e (fun ρ=>evE Γ ρ c)
section
variable{Γ:Gam}{CL:ClA}{W:XW}{X:Cx}{e:At}{c:E}
theorem Eu(h:SE X CL W e (fun ρ=>evE Γ ρ c))(ht:∀ ρ r,top ρ c r=r)(hn:Ez Γ c=Ad)(hc:KS e=Aa):OkE Γ CL W X e c:=
 ⟨h,by simp only[ht];exact h.st,fun z=>absurd z (by rw[hn];decide),fun z=>absurd z (by rw[hc];decide)⟩
theorem M5(h:SC X CL W Aa e (fun ρ=>evE Γ ρ c))(ht:∀ ρ r,top ρ c r=r)(hc:KS e=Aa):OkE Γ CL W X e c:=
 ⟨h.se,by simp only[ht];exact h.se.st,fun _=>h,fun z=>absurd z (by rw[hc];decide)⟩
theorem VA(hc:X.calm=Aa)(h:Pcs X CL W e (fun ρ=>evE Γ ρ c))(ht:∀ ρ r,top ρ c r=r):OkE Γ CL W X e c:=
 ⟨(h.sc hc).se,by simp only[ht];exact(h.sc hc).se.st,fun _=>h.sc hc,fun _=>h⟩
end
theorem yD{k:Ki}(h:Qs k=Ab x):∃ T,tyK k=Ab T/\Db x=Ab (.type T):=by
 cases k<;>simp only[Qs]at h<;>cases h
 ·exact⟨_,rfl,PyProof.Rows.boot_int⟩
 ·exact⟨_,rfl,PyProof.Rows.boot_bool⟩
 ·exact⟨_,rfl,PyProof.Rows.boot_str⟩
 ·exact⟨_,rfl,W5⟩
 ·exact⟨_,rfl,FT⟩
structure Snd (Γ:Gam) (CL:ClA) (k:Ag) (n:Ag):Prop where
 e:∀(W:XW)(T:Tc)(X:Cx)(x:At)(c:E),VX Γ CL k W T X->Bo n T x c=Aa->OkE Γ CL W X x c
 b:∀(W:XW)(T:Tc)(X:Cx)(x:At)(c:E),VX Γ CL k W T X->Kf n T x c=Aa->SB X CL W x (fun ρ=>(top ρ c (evE Γ ρ c)).bind CC)
 bs:∀(W:XW)(T:Tc)(X:Cx)(xs:Ac At)(es:Es)(pos:Bk),VX Γ CL k W T X->chkBs n T xs es=Aa->xs≠[]->SW X CL W (.BoolOp .And xs pos) (fun ρ=>(evN Γ ρ es).bind CC)/\SW X CL W (.BoolOp .Or xs pos) (fun ρ=>(evO Γ ρ es).bind CC)
 es:∀(W:XW)(T:Tc)(X:Cx)(xs:Ac At)(es:Es),VX Γ CL k W T X->chkEs n T xs es=Aa->SA X CL W xs (fun ρ=>evA Γ ρ es)/\SAT X CL W xs (fun ρ=>evB Γ ρ es)/\xs.length=es.len/\(∀ pos,xs≠[]->SE X CL W (.BoolOp .And xs pos) (fun ρ=>evN Γ ρ es)/\SE X CL W (.BoolOp .Or xs pos) (fun ρ=>evO Γ ρ es))/\(∀ pos,(CU pos (AM xs X.env)).any (·.1)=Ad)
 o:∀(W:XW)(T:Tc)(X:Cx)(x:Av At)(c:E),VX Γ CL k W T X->chkO n T x c=Aa->SO X CL W x (fun ρ=>(top ρ c (evE Γ ρ c)).bind (slE c))
 t:∀(T:Tc)(X:Cx)(xs:Ac At)(c:E),VX Γ CL k W0 T X->chkT n T xs c=Aa->STs X CL xs (fun ρ=>(top ρ c (evE Γ ρ c)).bind CC)
 i:∀(W:XW)(T:Tc)(X:Cx)(tu:Ao)(tg x:At)(i:I),VX Γ CL k W T X->Wa tu tg=Aa->chkI n T tu x i=Aa->SI X CL W tg x (fun ρ=>evI Γ ρ i)
section
variable{Γ:Gam}{CL:ClA}{W:XW}{k n:Ag}{T:Tc}{X:Cx}
theorem cO:Snd Γ CL k 0:=⟨fun _ _ _ _ _ _ h=>absurd (show Ad=Aa from h) AJ,fun _ _ _ _ _ _ h=>absurd (show Ad=Aa from h) AJ,fun _ _ _ _ _ _ _ h=>absurd (show Ad=Aa from h) AJ,fun _ _ _ _ _ _ h=>absurd (show Ad=Aa from h) AJ,fun _ _ _ _ _ _ h=>absurd (show Ad=Aa from h) AJ,fun _ _ _ _ _ h=>absurd (show Ad=Aa from h) AJ,fun _ _ _ _ _ _ _ _ _ h=>absurd (show Ad=Aa from h) AJ⟩
theorem Rw{x:At}(h:Ev x=Aa)(hx:(CU pos (AM xs env)).any (·.1)=Ad):(CU pos (AM (x::xs) env)).any (·.1)=Ad:=by
 rw[Dc h];show (Ad||(CU pos (AM xs env)).any (·.1))=Ad;rw[hx];rfl
theorem oA(S:Snd Γ CL k n)(W:XW)(T:Tc)(X:Cx)(xs:Ac At)(es:Es)(v:VX Γ CL k W T X)(h:chkEs (n+1) T xs es=Aa):SA X CL W xs (fun ρ=>evA Γ ρ es)/\SAT X CL W xs (fun ρ=>evB Γ ρ es)/\xs.length=es.len/\(∀ pos,xs≠[]->SE X CL W (.BoolOp .And xs pos) (fun ρ=>evN Γ ρ es)/\SE X CL W (.BoolOp .Or xs pos) (fun ρ=>evO Γ ρ es))/\(∀ pos,(CU pos (AM xs X.env)).any (·.1)=Ad):=by
 cases xs with
 |nil=>
  cases es with
  |nil=>exact⟨nC,dM,rfl,fun _ z=>absurd rfl z,fun _=>rfl⟩
  |cons=>simp[chkEs]at h
 |cons x xs=>
  cases es with
  |nil=>simp[chkEs]at h
  |cons e es=>
   simp only[chkEs,An]at h;obtain⟨⟨h0,h1⟩,h2⟩:=h;have he:=S.e W T X x e v h1;obtain⟨a1,a2,a3,a4,a5⟩:=S.es W T X xs es v h2;refine⟨dN he.se a1 (Dc h0),cT he.st a2 (Dc h0),congrArg (· + 1) a3,fun pos _=>?_,fun pos=>Rw h0 (a5 pos)⟩
   cases xs with
   |nil=>
    cases es with
    |nil=>exact⟨Vf he.se,Vf he.se⟩
    |cons=>cases a3
   |cons y ys=>
    cases es with
    |nil=>cases a3
    |cons e' es'=>
     obtain⟨b1,b2⟩:=a4 pos (by simp)
     exact⟨mX he.se b1,tN he.se b2⟩
theorem uF(S:Snd Γ CL k n)(W:XW)(T:Tc)(X:Cx)(x:Av At)(c:E)(v:VX Γ CL k W T X)(h:chkO (n+1) T x c=Aa):SO X CL W x (fun ρ=>(top ρ c (evE Γ ρ c)).bind (slE c)):=by
 cases x with
 |none=>
  simp only[chkO]at h;split at h
  ·exact eT
  ·cases h
 |some x=>
  simp only[chkO]at h;split at h
  ·cases h
  ·rename_i hne;have q:=eS (S.e W T X x c v h).st;have e:slE c=fun d=>(Fl d).bind fun i=>.ok (Ab i):=by
    funext d
    cases c<;>first|rfl|exact absurd rfl hne
   rw[e];exact q
theorem uD(S:Snd Γ CL k n)(T:Tc)(X:Cx)(xs:Ac At)(c:E)(v:VX Γ CL k W0 T X)(h:chkT (n+1) T xs c=Aa):STs X CL xs (fun ρ=>(top ρ c (evE Γ ρ c)).bind CC):=by
 cases xs with
 |nil=>
  simp only[chkT]at h;split at h
  ·exact eF
  ·cases h
 |cons x xs=>
  cases xs with
  |nil=>
   simp only[chkT]at h;exact eE (S.b W0 T X x c v h)
  |cons y ys=>simp[chkT]at h
theorem uG(S:Snd Γ CL k n)(W:XW)(T:Tc)(X:Cx)(tu:Ao)(tg x:At)(i:I)(v:VX Γ CL k W T X)(ht':Wa tu tg=Aa)(h:chkI (n+1) T tu x i=Aa):SI X CL W tg x (fun ρ=>evI Γ ρ i):=by
 have ht:tu=Aa->xC tg=Aa:=fun z=>by
  subst z;cases tg<;>first|rfl|cases ht'
 cases i with
 |e a=>
  simp only[chkI]at h;exact YU (S.e W T X x a v h).se
 |rng a=>
  simp only[chkI]at h;split at h
  ·simp only[An,BN]at h;obtain⟨⟨⟨rfl,h1⟩,h2⟩,h3⟩:=h;obtain⟨g1,g2,_,_⟩:=HK v h1;exact oO (S.e W T X _ a v h3).st g1 g2 (Dc h2)
  ·cases h
 |rng2 a b=>
  simp only[chkI]at h;split at h
  ·simp only[An,BN]at h;obtain⟨⟨⟨⟨⟨rfl,h1⟩,h2⟩,h3⟩,h4⟩,h5⟩:=h;obtain⟨g1,g2,_,_⟩:=HK v h1;exact eX (S.e W T X _ a v h4).st (S.e W T X _ b v h5).st g1 g2 (by rw[Dc h2,Dc h3];rfl) (by rw[Dc h3];rfl)
  ·cases h
 |zip a b=>
  simp only[chkI]at h;split at h
  ·simp only[An,BN]at h;obtain⟨⟨⟨⟨⟨⟨h0,rfl⟩,h1⟩,h2⟩,h3⟩,h4⟩,h5⟩:=h;obtain⟨g1,g2,_,_⟩:=HK v h1;have hg:=ht h0;cases tg with
   |Tuple es m tpos=>exact oN (S.e W T X _ a v h4).se (S.e W T X _ b v h5).se g1 g2 (by rw[Dc h2,Dc h3];rfl) (by rw[Dc h3];rfl)
   |_=>cases hg
  ·cases h
 |zip3 a b c=>simp[chkI]at h
 |enm a=>
  simp only[chkI]at h;split at h
  ·simp only[An,BN]at h;obtain⟨⟨⟨⟨h0,rfl⟩,h1⟩,h2⟩,h3⟩:=h;obtain⟨g1,g2,_,_⟩:=HK v h1;have hg:=ht h0;cases tg with
   |Tuple es m tpos=>exact dH (S.e W T X _ a v h3).se g1 g2 (Dc h2)
   |_=>cases hg
  ·cases h
theorem KB{c:Prop}[Gf c]{b:Ao}:(if c then R.ok (D.bl b) else .bad)=.bad\/∃ b',(if c then R.ok (D.bl b) else .bad)=.ok (.bl b'):=by
 by_cases h:c
 ·rw[Az h];exact .inr ⟨_,rfl⟩
 ·rw[AH h];exact .inl rfl
theorem cY(op:ES)(d d':D):Cp op d d'=.bad\/∃ b,Cp op d d'=.ok (.bl b):=by
 cases op with
 |Eq=>exact KB
 |NotEq=>exact KB
 |In=>
  cases d' with
  |lst ys=>exact KB
  |tup ys=>exact KB
  |dic kvs=>
   show (match K7 d with|some k=>R.ok (D.bl (kvs.any fun p=>p.1==k))|none=>.bad)=.bad\/∃ b,(match K7 d with|some k=>R.ok (D.bl (kvs.any fun p=>p.1==k))|none=>.bad)=.ok (.bl b)
   cases K7 d with
   |some k=>exact .inr ⟨_,rfl⟩
   |none=>exact .inl rfl
  |_=>cases d<;>exact .inl rfl
 |NotIn=>
  cases d' with
  |lst ys=>exact KB
  |tup ys=>exact KB
  |_=>cases d<;>exact .inl rfl
 |Is=>
  cases d' with
  |non=>cases d<;>first|exact .inr ⟨_,rfl⟩|exact .inl rfl
  |_=>cases d<;>first|exact .inl rfl|exact .inr ⟨_,rfl⟩
 |IsNot=>
  cases d' with
  |non=>cases d<;>first|exact .inr ⟨_,rfl⟩|exact .inl rfl
  |_=>cases d<;>first|exact .inl rfl|exact .inr ⟨_,rfl⟩
 |_=>
  cases d with
  |int i=>cases d'<;>first|exact .inr ⟨_,rfl⟩|exact .inl rfl
  |_=>exact .inl rfl
theorem Uy(op:ES)(d d':D):(Cp op d d').bind CC=.bad\/(Cp op d d').bind CC=(Cp op d d').bind DU:=by
 rcases cY op d d' with h|⟨b,h⟩
 ·rw[h];exact .inl rfl
 ·rw[h];exact .inr rfl
theorem rA(e e':E)(es:Es):Rf (fun ρ=>(evN Γ ρ (.cons e (.cons e' es))).bind CC) (fun ρ=>((top ρ e (evE Γ ρ e)).bind CC).bind fun c=>if c=Aa then (evN Γ ρ (.cons e' es)).bind CC else .ok Ad):=fun ρ=>by
 have e0:evN Γ ρ (.cons e (.cons e' es))=(evE Γ ρ e).bind fun x=>(DU x).bind fun c=>if c=Aa then evN Γ ρ (.cons e' es) else .ok (.bl Ad):=rfl
 dsimp only;rw[e0];rcases PF Γ e ρ with z|z<;>dsimp only at z
 ·rw[z];exact .inl rfl
 ·rw[<-z];cases evE Γ ρ e with
  |bad=>exact .inl rfl
  |exn x=>exact .inr rfl
  |ok d=>
   cases d with
   |bl b=>cases b<;>exact .inr rfl
   |_=>exact .inl rfl
theorem qZ(e e':E)(es:Es):Rf (fun ρ=>(evO Γ ρ (.cons e (.cons e' es))).bind CC) (fun ρ=>((top ρ e (evE Γ ρ e)).bind CC).bind fun c=>if c=Aa then .ok Aa else (evO Γ ρ (.cons e' es)).bind CC):=fun ρ=>by
 have e0:evO Γ ρ (.cons e (.cons e' es))=(evE Γ ρ e).bind fun x=>(DU x).bind fun c=>if c=Aa then .ok (.bl Aa) else evO Γ ρ (.cons e' es):=rfl
 dsimp only;rw[e0];rcases PF Γ e ρ with z|z<;>dsimp only at z
 ·rw[z];exact .inl rfl
 ·rw[<-z];cases evE Γ ρ e with
  |bad=>exact .inl rfl
  |exn x=>exact .inr rfl
  |ok d=>
   cases d with
   |bl b=>cases b<;>exact .inr rfl
   |_=>exact .inl rfl
theorem Rf.tru(e:E):Rf (fun ρ=>(evE Γ ρ e).bind CC) (fun ρ=>(top ρ e (evE Γ ρ e)).bind CC):=fun ρ=>by
 rcases PF Γ e ρ with z|z<;>dsimp only at z ⊢
 ·rw[z];exact .inl rfl
 ·rw[<-z];exact .inr rfl
theorem oB(S:Snd Γ CL k n)(W:XW)(T:Tc)(X:Cx)(xs:Ac At)(es:Es)(pos:Bk)(v:VX Γ CL k W T X)(h:chkBs (n+1) T xs es=Aa)(hne:xs≠[]):SW X CL W (.BoolOp .And xs pos) (fun ρ=>(evN Γ ρ es).bind CC)/\SW X CL W (.BoolOp .Or xs pos) (fun ρ=>(evO Γ ρ es).bind CC):=by
 cases xs with
 |nil=>exact absurd rfl hne
 |cons x xs=>
  cases es with
  |nil=>simp[chkBs]at h
  |cons e es=>
   simp only[chkBs,An]at h;obtain⟨h1,h2⟩:=h;have he:=S.b W T X x e v h1;cases xs with
   |nil=>
    cases es with
    |nil=>exact⟨SW.ref (eC he) (Rf.tru e),SW.ref (kZ he) (Rf.tru e)⟩
    |cons=>
     cases n with
     |zero=>simp[chkBs]at h2
     |succ n=>simp[chkBs]at h2
   |cons y ys=>
    cases es with
    |nil=>
     cases n with
     |zero=>simp[chkBs]at h2
     |succ n=>simp[chkBs]at h2
    |cons e' es'=>
     obtain⟨b1,b2⟩:=S.bs W T X (y::ys) (.cons e' es') pos v h2 (by simp)
     exact⟨SW.ref (nX he b1) (rA e e' es'),SW.ref (uC he b2) (qZ e e' es')⟩
theorem fL(x y:D):(HU x y).bind CC=.bad\/(HU x y).bind CC=(HU x y).bind DU:=by
 unfold HU;split
 ·exact .inr rfl
 ·exact .inl rfl
theorem fM(S:Snd Γ CL k n){x:At}{ops:Ac ES}{b:BI}(v:VX Γ CL k W T X)(h:QF T (Bo n) x ops ys b as=Aa):SB X CL W (.Compare x ops ys pos) (fun ρ=>(top ρ (.bi b as) (evE Γ ρ (.bi b as))).bind CC):=by
 unfold QF at h;cases q1:J9 as with
 |none=>rw[q1]at h;cases h
 |some t=>
  obtain⟨a,c⟩:=t;rw[q1]at h;dsimp only at h;split at h
  ·rename_i y;simp only[An,Bz,AK]at h;obtain⟨⟨⟨rfl,h1⟩,h2⟩,h3⟩:=h;rw[SJ q1];refine SB.ref (Vi (T5 v.room.units) (S.e W T X _ a v h2).st (S.e W T X _ c v h3).st h1) fun ρ=>?_
   have e:top ρ (.bi .tlt (.cons a (.cons c .nil))) (evE Γ ρ (.bi .tlt (.cons a (.cons c .nil))))=(top ρ a (evE Γ ρ a)).bind fun x=>(top ρ c (evE Γ ρ c)).bind fun y=>HU x y:=by
    show evE Γ ρ (.bi .tlt (.cons a (.cons c .nil)))=_;simp only[M8,evB,R.bind_assoc,R.bind_ok,Vs]
   rw[e];cases top ρ a (evE Γ ρ a) with
   |bad=>exact .inl rfl
   |exn x=>exact .inr rfl
   |ok d=>
    cases top ρ c (evE Γ ρ c) with
    |bad=>exact .inl rfl
    |exn x=>exact .inr rfl
    |ok d'=>
     dsimp only[R.bind];exact fL d d'
  ·cases h
theorem uI(S:Snd Γ CL k n)(W:XW)(T:Tc)(X:Cx)(x:At)(c:E)(v:VX Γ CL k W T X)(h:Kf (n+1) T x c=Aa):SB X CL W x (fun ρ=>(top ρ c (evE Γ ρ c)).bind CC):=by
 have plain:∀ e,OI e=Aa->Bo n T e c=Aa->SB X CL W e (fun ρ=>(top ρ c (evE Γ ρ c)).bind CC):=fun e h1 h2=>mY (S.e W T X e c v h2).st (dY h1)
 simp only[Kf]at h;split at h
 ·split at h
  ·rename_i a;refine SB.ref (mZ (S.b W T X _ a v h)) fun ρ=>?_
   show ((top ρ a (evE Γ ρ a)).bind fun x=>(DU x).bind fun b=>.ok (.bl (!b))).bind CC=.bad\/((top ρ a (evE Γ ρ a)).bind fun x=>(DU x).bind fun b=>.ok (.bl (!b))).bind CC=_
   cases top ρ a (evE Γ ρ a) with
   |bad=>exact .inl rfl
   |exn x=>exact .inr rfl
   |ok d=>cases d<;>first|exact .inr rfl|exact .inl rfl
  ·cases h
 ·split at h
  ·simp only[An,Bz,Ed]at h;exact(S.bs W T X _ _ _ v h.1 h.2).1.sb
  ·cases h
 ·split at h
  ·simp only[An,Bz,Ed]at h;exact(S.bs W T X _ _ _ v h.1 h.2).2.sb
  ·cases h
 ·split at h
  ·split at h
   ·rename_i op a b _ _ op' y;simp only[An,Bz,AK]at h;obtain⟨⟨⟨rfl,h1⟩,h2⟩,h3⟩:=h;refine SB.ref (Vi (KH v.room.units _) (S.e W T X _ a v h2).st (S.e W T X _ b v h3).st h1) fun ρ=>?_
    show ((top ρ a (evE Γ ρ a)).bind fun x=>(top ρ b (evE Γ ρ b)).bind fun y=>Cp op' x y).bind CC=.bad\/((top ρ a (evE Γ ρ a)).bind fun x=>(top ρ b (evE Γ ρ b)).bind fun y=>Cp op' x y).bind CC=_
    cases top ρ a (evE Γ ρ a) with
    |bad=>exact .inl rfl
    |exn x=>exact .inr rfl
    |ok d=>
     cases top ρ b (evE Γ ρ b) with
     |bad=>exact .inl rfl
     |exn x=>exact .inr rfl
     |ok d'=>
      dsimp only[R.bind];exact Uy _ d d'
   ·cases h
  ·split at h
   ·rename_i op1 op2 a b c _ _ o1 o2 y z;simp only[An,Bz,AK]at h;obtain⟨⟨⟨⟨⟨rfl,rfl⟩,h1⟩,h2⟩,h3⟩,h4⟩:=h;refine SB.ref (cS v.room.units (S.e W T X _ a v h2).st (S.e W T X _ b v h3).st (S.e W T X _ c v h4).st h1) fun ρ=>?_
    show ((top ρ a (evE Γ ρ a)).bind fun x=>(top ρ b (evE Γ ρ b)).bind fun y=>(Cp o1 x y).bind fun z=>(DU z).bind fun k=>if k=Aa then (top ρ c (evE Γ ρ c)).bind fun u=>Cp o2 y u else .ok (.bl Ad)).bind CC=.bad\/((top ρ a (evE Γ ρ a)).bind fun x=>(top ρ b (evE Γ ρ b)).bind fun y=>(Cp o1 x y).bind fun z=>(DU z).bind fun k=>if k=Aa then (top ρ c (evE Γ ρ c)).bind fun u=>Cp o2 y u else .ok (.bl Ad)).bind CC=_
    cases top ρ a (evE Γ ρ a) with
    |bad=>exact .inl rfl
    |exn x=>exact .inr rfl
    |ok d=>
     cases top ρ b (evE Γ ρ b) with
     |bad=>exact .inl rfl
     |exn x=>exact .inr rfl
     |ok d'=>
      dsimp only[R.bind];cases Cp o1 d d' with
      |bad=>exact .inl rfl
      |exn x=>exact .inr rfl
      |ok d3=>
       cases d3 with
       |bl k=>
        cases k with
        |false=>exact .inr rfl
        |true=>
         dsimp only[R.bind,DU];rw[Az rfl,Az rfl];cases top ρ c (evE Γ ρ c) with
         |bad=>exact .inl rfl
         |exn x=>exact .inr rfl
         |ok d4=>exact Uy _ d' d4
       |_=>exact .inl rfl
   ·cases h
  ·exact fM S v h
  ·cases h
 ·simp only[An]at h;exact plain _ h.1 h.2
end
section
variable{Γ:Gam}{CL:ClA}{W:XW}{k n:Ag}{T:Tc}{X:Cx}
theorem yE{b:BI}{x:At}(v:VX Γ CL k W T X)(hb:Qt b=Ab g)(hg:isB T g=Aa)(hs:SAT X CL W (x::xs) (fun ρ=>evB Γ ρ as))(h0:Ev x=Aa)(hpl:∀ pos,(CU pos (AM xs X.env)).any (·.1)=Ad):OkE Γ CL W X (.Call (.Name g p) (x::xs) [] pos) (.bi b as):=by
 obtain⟨g1,g2,g3,g4⟩:=HK v hg;cases b<;>simp only[Qt]at hb<;>cases hb
 ·exact Eu (KR qV g1 g2 PySem.boot_len hs g3 g4 (Dc h0) hpl) (fun _ _=>rfl) rfl rfl
 ·exact Eu (KR (rY v.calm) g1 g2 PyProof.Rows.boot_max hs g3 g4 (Dc h0) hpl) (fun _ _=>rfl) rfl rfl
 ·exact Eu (KR (rX v.calm) g1 g2 PyProof.Rows.boot_min hs g3 g4 (Dc h0) hpl) (fun _ _=>rfl) rfl rfl
 ·exact M5 (oI jI g1 g2 W5 hs g3 g4 (Dc h0) hpl) (fun _ _=>rfl) rfl
 ·exact Eu (mW cZ g1 g2 FT hs g3 g4 (Dc h0) hpl) (fun _ _=>rfl) rfl rfl
 ·exact Eu (KR (qX v.calm) g1 g2 PyProof.Rows.boot_all hs g3 g4 (Dc h0) hpl) (fun _ _=>rfl) rfl rfl
 ·exact Eu (KR (qW v.calm) g1 g2 PyProof.Rows.boot_any hs g3 g4 (Dc h0) hpl) (fun _ _=>rfl) rfl rfl
 ·exact Eu (KR (rW v.calm) g1 g2 PyProof.Rows.boot_sum hs g3 g4 (Dc h0) hpl) (fun _ _=>rfl) rfl rfl
 ·exact M5 (oJ aM g1 g2 PyProof.Rows.boot_sorted hs g3 g4 (Dc h0) hpl) (fun _ _=>rfl) rfl
theorem Oj{x:At}{es:Es}(h:chkEs n T (x::xs) es=Aa):Ev x=Aa/\∃ e es',es=.cons e es'/\∃ m,n=m+1/\chkEs m T xs es'=Aa:=by
 cases n with
 |zero=>simp[chkEs]at h
 |succ m=>
  cases es with
  |nil=>simp[chkEs]at h
  |cons e es=>
   simp only[chkEs,An]at h;exact⟨h.1.1,e,es,rfl,m,rfl,h.2⟩
theorem RV:∀(m:Ag)(xs:Ac At)(es:Es),chkEs m T xs es=Aa->∀ pos,(CU pos (AM xs X.env)).any (·.1)=Ad:=by
 intro m
 induction m with
 |zero=>intro xs es h;simp[chkEs]at h
 |succ m ih=>
  intro xs es h pos;cases xs with
  |nil=>rfl
  |cons x xs=>
   obtain⟨h0,e,es',rfl,m',e1,h1⟩:=Oj h;cases e1;exact Rw h0 (ih xs es' h1 pos)
theorem kX(S:Snd Γ CL k n){x:At}{b:BI}(v:VX Γ CL k W T X)(h:(match J9 as with|some (a,c)=>(match Mi x with|some (y,z,_)=>decide (b=.tlt) && !behindInMarks .Lt z&&Bo n T y a&&Bo n T z c|none=>Ad)|none=>Ad)=Aa):OkE Γ CL W X x (.bi b as):=by
 cases q1:J9 as with
 |none=>rw[q1]at h;cases h
 |some t=>
  obtain⟨a,c⟩:=t;cases q2:Mi x with
  |none=>rw[q1,q2]at h;cases h
  |some t2=>
   obtain⟨y,z,p⟩:=t2;rw[q1,q2]at h;simp only[An,AK,Bz]at h;obtain⟨⟨⟨rfl,h1⟩,h2⟩,h3⟩:=h;rw[SJ q1,mG q2];refine Eu (SE.congr (Vg (T5 v.room.units) (S.e W T X _ a v h2).st (S.e W T X _ c v h3).st h1) fun ρ=>?_) (fun _ _=>rfl) rfl rfl
   simp only[M8,evB,R.bind_assoc,R.bind_ok,Vs]
theorem rH{x:At}{b:BI}(v:VX Γ CL k W T X)(h:QX T x b as=Aa):OkE Γ CL W X x (.bi b as):=by
 exact absurd h AJ
theorem nY(S:Snd Γ CL k n){x:At}{b:BI}(v:VX Γ CL k W T X)(h:(match Qy as with|some (a,k)=>(match Wb x with|some (y,j)=>decide (b=.stp)&&decide (j=k)&&decide (0<=k)&&Bo n T y a|none=>Ad)|none=>Ad)=Aa):OkE Γ CL W X x (.bi b as):=by
 simp[Qy]at h
theorem pT(S:Snd Γ CL k n){x:At}{b:BI}(v:VX Γ CL k W T X)(h:(match Qz as with|some (a,c)=>(match Rk x with|some (g,h,y,z)=>decide (b=.list)&&g==("list" : Al)&&h==("range" : Al)&&isB T g&&isB T h&&Ev y&&Ev z&&Bo n T y a&&Bo n T z c|none=>Ad)|none=>Ad)=Aa):OkE Γ CL W X x (.bi b as):=by
 simp[Qz]at h
theorem fQ(S:Snd Γ CL k n){x:At}{b:BI}(v:VX Γ CL k W T X)(h:(match Md as with|some a=>(match Mg x with|some (g,h,y)=>decide (b=.lset)&&g==("len" : Al)&&h==("set" : Al)&&isB T g&&isB T h&&Ev y&&Bo n T y a|none=>Ad)|none=>Ad)=Aa):OkE Γ CL W X x (.bi b as):=by
 cases q1:Md as with
 |none=>rw[q1]at h;cases h
 |some a=>
  cases q2:Mg x with
  |none=>rw[q1,q2]at h;cases h
  |some t2=>
   obtain⟨g,f,y⟩:=t2;rw[q1,q2]at h;simp only[An,BN,AK]at h;obtain⟨⟨⟨⟨⟨⟨rfl,rfl⟩,rfl⟩,h1⟩,h2⟩,h3⟩,h4⟩:=h;obtain⟨p,p',pos,pos',rfl⟩:=fP q2;have e:=dB q1;subst e;obtain⟨g1,g2,_,_⟩:=HK v h1;obtain⟨g3,g4,_,_⟩:=HK v h2;refine Eu (SE.congr (dI (S.e W T X _ a v h4).st v.calm g1 g2 g3 g4 (by rw[Dc h3];rfl)) fun ρ=>?_) (fun _ _=>rfl) rfl rfl
   simp only[M8,evB,R.bind_assoc,R.bind_ok]
theorem uH(S:Snd Γ CL k n)(W:XW)(T:Tc)(X:Cx)(x:At)(c:E)(v:VX Γ CL k W T X)(h:Bo (n+1) T x c=Aa):OkE Γ CL W X x c:=by
 cases c with
 |non=>
  unfold Bo at h;dsimp only at h;split at h
  ·exact Eu oU (fun _ _=>rfl) rfl rfl
  ·cases h
 |bl b=>
  unfold Bo at h;dsimp only at h;split at h
  ·have e:=eq_of_beq h;subst e;exact Eu tO (fun _ _=>rfl) rfl rfl
  ·cases h
 |int i=>
  unfold Bo at h;dsimp only at h;split at h
  ·have e:=Ea h;subst e;exact Eu mT (fun _ _=>rfl) rfl rfl
  ·cases h
 |str i=>
  unfold Bo at h;dsimp only at h;split at h
  ·have e:=Ea h;subst e;exact Eu oR (fun _ _=>rfl) rfl rfl
  ·cases h
 |var i=>
  unfold Bo at h;dsimp only at h;split at h
  ·exact⟨oP (J6 v h),oC (J6 v h),fun z=>(nomatch z),fun z=>(nomatch z)⟩
  ·cases h
 |glob g=>exact absurd (show Ad=Aa from h) AJ
 |bin op a b=>
  unfold Bo at h;dsimp only at h;split at h
  ·simp only[An,AK]at h;obtain⟨⟨rfl,h1⟩,h2⟩:=h;have ha:=(S.e W T X _ a v h1).st;have hb:=(S.e W T X _ b v h2).st;refine⟨Vh (T6 _) ha hb,(Vh (T6 _) ha hb).st,fun z=>?_,fun z=>nomatch z⟩
   rename_i op' _ _;cases op'<;>first|exact oK ha hb|cases z
  ·cases h
 |un op a=>
  unfold Bo at h;dsimp only at h;split at h
  ·simp only[An,AK]at h;obtain⟨rfl,h1⟩:=h;exact Eu (oV (S.e W T X _ a v h1).st) (fun _ _=>rfl) rfl rfl
  ·cases h
 |no a=>
  unfold Bo at h;dsimp only at h;split at h
  ·exact Eu (oS (S.e W T X _ a v h).st) (fun _ _=>rfl) rfl rfl
  ·cases h
 |and es=>
  unfold Bo at h;dsimp only at h;split at h
  ·simp only[An,Bz,Ed]at h;exact Eu ((S.es W T X _ es v h.1).2.2.2.1 _ h.2).1 (fun _ _=>rfl) rfl rfl
  ·cases h
 |or es=>
  unfold Bo at h;dsimp only at h;split at h
  ·simp only[An,Bz,Ed]at h;exact Eu ((S.es W T X _ es v h.1).2.2.2.1 _ h.2).2 (fun _ _=>rfl) rfl rfl
  ·cases h
 |cmp op a b=>
  unfold Bo at h;dsimp only at h;split at h
  ·simp only[An,Bz,AK]at h;obtain⟨⟨⟨rfl,h1⟩,h2⟩,h3⟩:=h;exact Eu (Vg (KH v.room.units _) (S.e W T X _ a v h2).st (S.e W T X _ b v h3).st h1) (fun _ _=>rfl) rfl rfl
  ·cases h
 |cmp2 op1 op2 a b c=>
  unfold Bo at h;dsimp only at h;split at h
  ·simp only[An,Bz,AK]at h;obtain⟨⟨⟨⟨⟨rfl,rfl⟩,h1⟩,h2⟩,h3⟩,h4⟩:=h;exact Eu (cR v.room.units (S.e W T X _ a v h2).st (S.e W T X _ b v h3).st (S.e W T X _ c v h4).st h1) (fun _ _=>rfl) rfl rfl
  ·cases h
 |ite c a b=>exact absurd (show Ad=Aa from h) AJ
 |call f as=>
  unfold Bo at h;dsimp only at h;split at h
  ·rename_i g pp y ys qq;simp only[An,F5,BN,AK]at h;obtain⟨⟨⟨⟨⟨p,hp,⟨rfl,rfl⟩,hl⟩,h900⟩,h1⟩,h2⟩,h3⟩:=h;obtain⟨fa,fd,ps,m1,m2,m3,m4,m5,_⟩:=v.fn p hp;have hlt:p.2.2<1000:=by omega
   rw[Nat.mod_eq_of_lt hlt]at m4 m5;have m5:=m5 hlt;obtain⟨n2,n3,n4⟩:=Pe h2;obtain⟨a1,a2,a3,a4,a5⟩:=S.es W T X _ as v h3;obtain⟨s0,e,es',rfl,m,rfl,s1⟩:=Oj h3;have q:SC X CL W (Γ.fr p.2.1) (.Call (.Name p.1 pp) (y::ys) [] qq) (fun ρ=>evE Γ ρ (.call p.2.1 (.cons e es'))):=dL (sh:=fun ρ=>JE ρ (.cons e es')) m5 v.room (by unfold glB at h1;show X.env.scope.names.lookup p.1=_;rw[v.sc];exact eq_of_beq h1) m1 m2 m3 v.px a1 a2 (fun ρ z=>U1 Γ ρ _ z) (fun ρ ds z=>by rw[TK Γ ρ _ _ z,<-a3,hl];rfl) n2 (Dc s0) (RV m ys es' s1)
   exact⟨q.se,q.se.st,fun z=>by
    have z':Γ.fr p.2.1=Aa:=z;rw[z']at q;exact q,fun z=>nomatch z⟩
  ·cases h
 |bi b as=>
  unfold Bo at h;dsimp only at h;simp only[Cu]at h;rcases h with ((((h|h)|h)|h)|h)|h
  ·split at h
   ·simp only[An,BN]at h;obtain⟨⟨h1,h2⟩,h3⟩:=h;obtain⟨s0,e,es',rfl,m,rfl,s1⟩:=Oj h3;exact yE v h1 h2 (S.es W T X _ _ v h3).2.1 s0 (RV m _ es' s1)
   ·cases h
  ·exact rH v h
  ·exact pT S v h
  ·exact nY S v h
  ·exact fQ S v h
  ·exact kX S v h
 |isi a ks=>
  cases ks with
  |nil=>exact absurd (show Ad=Aa from h) AJ
  |cons k' ks=>
   cases ks with
   |cons=>exact absurd (show Ad=Aa from h) AJ
   |nil=>
    unfold Bo at h;dsimp only at h;split at h
    ·simp only[An,BN]at h;obtain⟨⟨⟨⟨⟨rfl,h1⟩,h2⟩,h3⟩,h4⟩,h5⟩:=h;obtain⟨g1,g2,_,_⟩:=HK v h1;obtain⟨b1,b2,b3,b4⟩:=HK v h3;obtain⟨ty,t1,t2⟩:=yD h2;exact Eu (mS t1 g1 g2 b1 b2 t2 b3 b4 (S.e W T X _ a v h5).st (Dc h4)) (fun _ _=>rfl) rfl rfl
    ·cases h
 |idx a i=>
  unfold Bo at h;dsimp only at h;split at h
  ·simp only[An]at h;obtain⟨⟨h1,h2⟩,h3⟩:=h;exact Eu (mU (cP h1) (S.e W T X _ a v h2).st (S.e W T X _ i v h3).st) (fun _ _=>rfl) rfl rfl
  ·cases h
 |sl a lo hi=>
  unfold Bo at h;dsimp only at h;split at h
  ·simp only[An]at h;obtain⟨⟨h1,h2⟩,h3⟩:=h;refine M5 (SC.congr (uM (S.e W T X _ a v h1).st (S.o W T X _ lo v h2) (S.o W T X _ hi v h3)) fun ρ=>?_) (fun _ _=>rfl) rfl
   show ((top ρ a (evE Γ ρ a)).bind fun x=>(top ρ lo (evE Γ ρ lo)).bind fun l=>(slE lo l).bind fun l'=>(top ρ hi (evE Γ ρ hi)).bind fun h=>(slE hi h).bind fun h'=>slD x l' h')=_
   simp only[R.bind_assoc]
  ·cases h
 |tup es=>
  unfold Bo at h;dsimp only at h;split at h
  ·simp only[An,AK]at h;have q:=S.es W T X _ es v h.1;exact Eu (oQ q.1 fun ρ ds z=>by rw[O4 Γ ρ _ _ z,<-q.2.2.1];omega) (fun _ _=>rfl) rfl rfl
  ·cases h
 |lst es=>
  unfold Bo at h;dsimp only at h;split at h
  ·simp only[An,AK]at h;have q:=S.es W T X _ es v h.1;exact M5 (oH q.1 fun ρ ds z=>by rw[O4 Γ ρ _ _ z,<-q.2.2.1];omega) (fun _ _=>rfl) rfl
  ·cases h
 |comp elt t it c=>
  unfold Bo at h;dsimp only at h;split at h
  ·simp only[An]at h;obtain⟨⟨⟨⟨⟨h1,h2⟩,h3⟩,h4⟩,h5⟩,h6⟩:=h;refine VA v.calm ⟨_,_,_,_,_,_,_,_,_,_,_,_,_,rfl,(Qh v h3).1,S.i W T X Ad _ _ it v rfl h1,kH t,fun cl C s H fp=>dR (v.blk h3) (fun z=>BN.mpr z) h4,fun cl C s H fp=>S.t _ _ _ c (v.blk h3) h5,fun cl C s H fp=>(S.e W0 _ _ _ elt (v.blk h3) h6).se,Nd h2,fun ρ=>rfl⟩ (fun _ _=>rfl)
  ·cases h
 |compT elt ts it c=>
  unfold Bo at h;dsimp only at h;split at h
  ·simp only[An]at h;obtain⟨⟨⟨⟨⟨⟨h0,h1⟩,h2⟩,h3⟩,h4⟩,h5⟩,h6⟩:=h;refine VA v.calm ⟨_,_,_,_,_,_,_,_,_,_,_,_,_,rfl,(Qh v h3).1,S.i W T X Aa _ _ it v rfl h1,pF ts,fun cl C s H fp=>dW (v.blk h3) h0 h4,fun cl C s H fp=>S.t _ _ _ c (v.blk h3) h5,fun cl C s H fp=>(S.e W0 _ _ _ elt (v.blk h3) h6).se,Nd h2,fun ρ=>rfl⟩ (fun _ _=>rfl)
  ·cases h
 |tupI it=>
  cases it with
  |zip3 a b c=>
   unfold Bo at h;dsimp only at h;cases q:Nv x with
   |none=>rw[q]at h;cases h
   |some t=>
    obtain⟨g,f,y1,y2,y3⟩:=t;rw[q]at h;simp only[An,BN]at h;obtain⟨⟨⟨⟨⟨⟨⟨⟨⟨rfl,rfl⟩,h1⟩,h2⟩,h3⟩,h4⟩,h5⟩,h6⟩,h7⟩,h8⟩:=h;obtain⟨p,p',pos,pos',rfl⟩:=jF q;obtain⟨g1,g2,_,_⟩:=HK v h1;obtain⟨g3,g4,_,_⟩:=HK v h2;exact Eu (mV (S.e W T X _ a v h6).se (S.e W T X _ b v h7).se (S.e W T X _ c v h8).se v.calm g1 g2 g3 g4 (by rw[Dc h3,Dc h4,Dc h5];rfl) (by rw[Dc h4,Dc h5];rfl) (by rw[Dc h5];rfl)) (fun _ _=>rfl) rfl rfl
  |_=>exact absurd (show Ad=Aa from h) AJ
 |dnew=>exact absurd (show Ad=Aa from h) AJ
 |fld o f=>exact absurd (show Ad=Aa from h) AJ
theorem snd:∀ n,Snd Γ CL k n
 |0=>cO
 |n+1=>⟨uH (snd n),uI (snd n),oB (snd n),oA (snd n),uF (snd n),uD (snd n),uG (snd n)⟩
end
section
variable{Γ:Gam}{CL:ClA}{W:XW}{k n:Ag}{T:Tc}{X:Cx}
theorem dU{t:Ag}(v:VX Γ CL k W T X)(hf:∀ x,X.fn x=Aa)(h:tgC T [t] [x]=Aa):PG X (.Name x pos) (Fk t):=by
 unfold tgC at h;simp only[An,BN]at h;exact LV (by rw[v.N];exact v.nd) (by rw[v.N];exact h.1.1) (by rw[v.sc];exact Pi h.1.2) (.inl (hf x))
theorem Tz(v:VX Γ CL k W T X)(hf:∀ x,X.fn x=Aa):∀(ys:Ac At)(ts:Ac Ag)(zs:Ac Al),Fj ys=Ab zs->tgC T ts zs=Aa->PGs X ys (ts.foldr (fun t u=>HS (Fk t) u) HV)/\ts.length=ys.length:=by
 intro ys
 induction ys with
 |nil=>
  intro ts zs e h;cases e;cases ts with
  |nil=>exact⟨T3,rfl⟩
  |cons t ts=>cases h
 |cons y r ih=>
  intro ts zs e h;obtain⟨x,p,ws,rfl,e2,rfl⟩:=NY e;cases ts with
  |nil=>cases h
  |cons t ts=>
   have h':(T.N[t]? == Ab x&&K6 T x&&tgC T ts ws)=Aa:=h;simp only[An,BN]at h';obtain⟨h1,h2⟩:=ih ts ws e2 h'.2;exact⟨SU (LV (by rw[v.N];exact v.nd) (by rw[v.N];exact h'.1.1) (by rw[v.sc];exact Pi h'.1.2) (.inl (hf x))) h1 (by rw[ON];rfl),congrArg (· + 1) h2⟩
theorem dS(v:VX Γ CL k W T X)(hf:∀ x,X.fn x=Aa)(hn:(Fj ys).isSome=Aa)(h:tgC T ts (tgN ys)=Aa):PG X (.Tuple ys kk pos) (K9 X.K ts.length (ts.foldr (fun t u=>HS (Fk t) u) HV)):=by
 cases e:Fj ys with
 |none=>rw[e]at hn;cases hn
 |some zs=>
  have e2:tgN ys=zs:=by unfold tgN;rw[e];rfl
  rw[e2]at h;obtain⟨h1,h2⟩:=Tz v hf ys ts zs e h;obtain⟨h3,h4,_⟩:=NX (env:=X.env) ys zs e;exact PY v.calm h1 (by rw[h3,h2]) h4
theorem kY(v:VX Γ CL k W T X)(hf:∀ x,X.fn x=Aa)(hn:(Fj ys).isSome=Aa)(h:tgC T ts (tgN ys)=Aa):PG X (.Tuple ys kk pos) (gSq X.K ts.length (ts.foldr (fun t u=>HS (Fk t) u) HV)):=by
 cases e:Fj ys with
 |none=>rw[e]at hn;cases hn
 |some zs=>
  have e2:tgN ys=zs:=by unfold tgN;rw[e];rfl
  rw[e2]at h;obtain⟨h1,h2⟩:=Tz v hf ys ts zs e h;obtain⟨h3,h4,_⟩:=NX (env:=X.env) ys zs e;exact vT v.calm h1 (by rw[h3,h2]) h4
theorem lK{e:At}(h:(VB e||Em 4 ys.length)=Aa):F4 [.Tuple ys kk pos] e env=pure Af:=by
 cases e with
 |Tuple vs a b=>
  have h4:=EY (show Em 4 ys.length=Aa from h)
  have e2:(ys.length==2)=Ad:=by rw[DI];omega
  have e3:(ys.length==3)=Ad:=by rw[DI];omega
  unfold F4;dsimp only;rw[e2,e3];rfl
 |_=>rfl
theorem RX(ts:Ac Ag):∀ d ρ x,GA ts d ρ≠.exn x:=fun d ρ x h=>by
 unfold GA at h;cases d with
 |tup xs=>
  dsimp only at h;cases e:E6 ts xs ρ with
  |some r=>rw[e]at h;cases h
  |none=>rw[e]at h;cases h
 |_=>cases h
theorem aH(ts:Ac Ag):∀ d ρ x,HM ts d ρ≠.exn x:=fun d ρ x h=>by
 unfold HM at h;split at h
 ·split at h<;>cases h
 ·exact RX ts _ ρ x h
theorem cL{elt:At}{gs:Ac Comprehension}{pos':Bk}:∃ b,DS (.ListComp elt gs scope pos) (Ab (.Name x pos')) l env=pure b/\(b=Aa->env.scope.names.lookup x=Ab .local):=by
 refine⟨_,rfl,fun h=>?_⟩
 simp only[An,BN]at h;exact h.1.1.2
theorem Pv{v0:At}{i:Ag}{e:E}(v:VX Γ CL k W T X)(hf:∀ x,X.fn x=Aa)(hi:T.N[i]?=Ab x)(hl:K6 T x=Aa)(o:OkE Γ CL W X v0 e)(hfr:fr=Aa->Ez Γ e=Aa):SAs X CL W fr i (.Assign [.Name x p] v0 pos) (fun ρ=>evE Γ ρ e):=by
 have hN:X.N.Nodup:=by rw[v.N];exact v.nd
 have hi':X.N[i]?=Ab x:=by rw[v.N];exact hi
 have hx:Loc X.env.scope x:=by rw[v.sc];exact Pi hl
 have sc:SC X CL W fr v0 (fun ρ=>evE Γ ρ e):=by
  cases fr with
  |false=>exact o.se.sc
  |true=>exact o.nw (hfr rfl)
 cases hc:KS v0 with
 |true=>exact SC.sas hN hi' hx sc (Uv hc) (.inl (hf x))
 |false=>
  obtain⟨tg,iter,elt,ifs,scope,pos2,N',ts,fi,fc,fe,as,g,rfl,B,h2,hGG,hg,ht,he,hs,ef⟩:=o.cp hc;obtain⟨b,hb,hb'⟩:=cL (elt:=elt) (gs:=[⟨tg,iter,ifs,0⟩]) (scope:=scope) (pos:=pos2) (pos':=p) (x:=x) (l:=pos.line) (env:=X.env);cases b with
  |false=>exact SC.sas hN hi' hx sc hb (.inl (hf x))
  |true=>
   have q:=cU (pos2:=pos) v.calm B h2 hGG hg ht he hs hN hi' (hb' rfl) hb;have q':SAs X CL W Aa i (.Assign [.Name x p] (.ListComp elt [⟨tg,iter,ifs,0⟩] scope pos2) pos) (fun ρ=>evE Γ ρ e):=by
    have:(fun ρ=>evE Γ ρ e)=_:=funext ef
    rw[this];exact q
   cases fr with
   |true=>exact q'
   | false=>exact fun A=>PS.weak (q' A) fun D σ H ⟨hA,ρ,gd,z⟩=>⟨hA,ρ,gd,by
     dsimp only at z ⊢;cases e0:evE Γ ρ e with
     |ok d=>
      rw[e0]at z;exact fun v' H' s' r'=>z v' H' s' ⟨r'.1,fun _=>r'.2 rfl⟩
     |exn y=>rw[e0]at z;exact z
     | bad=>rw[e0]at z;exact z⟩
theorem Tr{e t:At}(h:∀ x p,t≠.Name x p):G9 [t] e l env=pure Ad:=by
 show DS e (Ab t) l env=pure Ad;cases e<;>first|rfl|(cases t<;>first|rfl|exact absurd rfl (h _ _))
theorem Sy(ρ:Rho)(e:E)(h:∀ i,e≠.var i):evS Γ ρ (.ret e)=O.of ρ (evE Γ ρ e) fun d=>.ret d (Ez Γ e):=by
 cases e<;>first|exact absurd rfl (h _)|(simp only[evS,top,Wj])
structure DefX (X:Cx):Prop where
 fn:∀ x,X.fn x=Aa
 ex:X.ex=[]
 st:X.stack=X.env::X.outer
 fm:X.env.frame=Ab X.env.locals
structure SndS (Γ:Gam) (CL:ClA) (k:Ag) (n:Ag):Prop where
 s:∀(W:XW)(T:Tc)(X:Cx)(x:Cj)(c:S),VX Γ CL k W T X->DefX X->Gd n T x c=Aa->SS X CL W x (fun ρ=>evS Γ ρ c)
 ss:∀(W:XW)(T:Tc)(X:Cx)(x:Ac Cj)(c:Ss),VX Γ CL k W T X->DefX X->chkSs n T x c=Aa->SSs X CL W x (fun ρ=>evSs Γ ρ c)
theorem VX.pw(v:VX Γ CL k W T X){pI:Pn}{Xw:Vq}(own:Gh (model X.prog X.w) X.A X.env Xw):VX Γ CL k W0 T (Cx.pw X pI Xw):=⟨v.sc,v.kd,v.N,v.nd,v.calm,v.room,v.bl,v.fn,own,UM,Q4,v.xt,v.gl⟩
theorem STB.congr{st:Ac Cj}{f g:Rho->O}(h:STB X CL st f)(e:∀ ρ,g ρ=f ρ):STB X CL st g:=by
 have:g=f:=funext e;rw[this];exact h
theorem uE(Z:SndS Γ CL k n)(W:XW)(T:Tc)(X:Cx)(st:Cj)(c:S)(v:VX Γ CL k W T X)(hf:DefX X)(h:Gd (n+1) T st c=Aa):SS X CL W st (fun ρ=>evS Γ ρ c):=by
  have E:=snd (Γ:=Γ) (CL:=CL) (k:=k) n;cases c with
  |pass=>exact absurd (show Ad=Aa from h) AJ
  |brk=>exact absurd (show Ad=Aa from h) AJ
  |cont=>exact absurd (show Ad=Aa from h) AJ
  |asg i fresh e=>
    unfold Gd at h;dsimp only at h;split at h
    · simp only[An,BN]at h;obtain⟨⟨h1,h2⟩,h3⟩:=h;have o:=E.e W T X _ e v h3;cases fresh with
      |false=>exact Ve (Pv (fr:=Ad) v hf.fn h1 h2 o (fun z=>nomatch z))
      |true=>
        cases hn:Ez Γ e with
        |true=>
          refine SS.ref (eR (Pv (fr:=Aa) v hf.fn h1 h2 o (fun _=>hn))) fun ρ=>.inr ?_
          show O.of ρ (evE Γ ρ e) (fun d=>if Aa=Aa then (if Ez Γ e=Aa then (match d with
            |.lst xs=>.next (ρ.set i (Ab (.lst xs,Aa)))
            |.dic xs=>.next (ρ.set i (Ab (.dic xs,Aa)))
            | _=>.bad) else .bad) else .next (ρ.set i (Ab (d,Ad))))=_
          rw[hn];rfl
        |false=>
          refine SS.ref (Ve (Pv (fr:=Ad) v hf.fn h1 h2 o (fun z=>nomatch z))) fun ρ=>?_
          have e0:evS Γ ρ (.asg i Aa e)=O.of ρ (evE Γ ρ e) (fun d=>if Aa=Aa then (if Ez Γ e=Aa then (match d with
            |.lst xs=>.next (ρ.set i (Ab (.lst xs,Aa)))
            |.dic xs=>.next (ρ.set i (Ab (.dic xs,Aa)))
            | _=>.bad) else .bad) else .next (ρ.set i (Ab (d,Ad)))):=rfl
          rw[e0,hn];cases evE Γ ρ e with
          |ok d=>exact .inl rfl
          |exn y=>exact .inr rfl
          |bad=>exact .inl rfl
    · cases h
  |asgT ts e=>
    unfold Gd at h;dsimp only at h;split at h
    · simp only[An]at h;obtain⟨⟨⟨h1,h2⟩,h3⟩,h5⟩:=h;exact eQ (xH ts) (kY v hf.fn h1 h2) (E.e W T X _ e v h5).se (Tr (fun _ _ z=>by cases z)) (lK h3) rfl (aH ts)
    · cases h
  |expr e=>
    unfold Gd at h;dsimp only at h;split at h
    · simp only[An]at h;exact eO (E.e W T X _ e v h.2).se (Uv h.1)
    · cases h
  |ret e=>
    unfold Gd at h;dsimp only at h;split at h
    · have o:=E.e W T X _ e v h;cases hv:Ez Γ e with
      |true=>
        refine SS.ref (eK (o.nw hv)) fun ρ=>.inr ?_
        rw[Sy ρ e (fun i z=>by subst z;cases hv),hv]
      |false=>
        cases e with
        |var i=>
          cases n with
          |zero=>exact absurd (show Ad=Aa from h) AJ
          |succ n=>
            unfold Bo at h;dsimp only at h;split at h
            · exact eI (J6 v h)
            · cases h
        |_=>
          refine SS.ref (eJ o.se) fun ρ=>.inr ?_
          rw[Sy ρ _ (by intro i z;cases z),hv]
    · cases h
  |retN=>exact absurd (show Ad=Aa from h) AJ
  |ife c a b=>
    unfold Gd at h;dsimp only at h;split at h
    · simp only[An]at h;exact uJ (E.b W T X _ c v h.1.1) (Z.ss W T X _ a v hf h.1.2) (Z.ss W T X _ b v hf h.2)
    · cases h
  |fors t it body=>
    unfold Gd at h;dsimp only at h;split at h
    · simp only[An]at h;obtain⟨⟨⟨h1,h2⟩,h3⟩,h4⟩:=h;exact Vd v.own v.calm (kG t) (dU v hf.fn h1) (E.i W T X Ad _ _ it v rfl h3) (Z.ss W T X _ body v hf h4) (Nd h2) (fun _ _ _ z=>nomatch z)
    · cases h
  |forT ts it body=>
    unfold Gd at h;dsimp only at h;split at h
    · simp only[An]at h;obtain⟨⟨⟨⟨h0,h1⟩,h2⟩,h3⟩,h4⟩:=h;exact Vd v.own v.calm (UY ts) (dS v hf.fn h0 h1) (E.i W T X Aa _ _ it v rfl h3) (Z.ss W T X _ body v hf h4) (Nd h2) (RX ts)
    · cases h
  |whl c body=>exact absurd (show Ad=Aa from h) AJ
  |rais c as=>
    unfold Gd at h;dsimp only at h;cases hc:T.rzs.any (fun p=>p.2==c) with
    |false=>
      have hb:∀ ds,Γ.xn c ds=.bad:=v.xt.xb c fun p hp z=>by
        have:T.rzs.any (fun p=>p.2==c)=Aa:=List.any_eq_true.mpr ⟨p,hp,BN.mpr z⟩
        rw[hc]at this;cases this
      intro Fz B pI s σ H D I ⟨ρ,x,p⟩;have p':CP X.K CL Fz B W (O.of ρ (noX (evA Γ ρ as)) fun xs=>O.of ρ (Γ.xn c xs) fun x=>.exn x ρ) D:=p
      cases e1:evA Γ ρ as with
      |bad=>rw[e1]at p';exact p'.elim
      |exn y=>rw[e1]at p';exact p'.elim
      |ok ds=>
        rw[e1]at p';have p2:CP X.K CL Fz B W (O.of ρ (Γ.xn c ds) fun x=>.exn x ρ) D:=p'
        rw[hb ds]at p2;exact p2.elim
    |true=>rw[hc]at h;cases h
  |app i e=>
    unfold Gd at h;dsimp only at h;split at h
    · simp only[An,BN]at h;obtain⟨⟨⟨⟨rfl,h1⟩,h2⟩,h3⟩,h4⟩:=h;exact oF (J6 v h1) (E.e W T X _ e v h4).se rfl (by rw[Dc h3];rfl) (by rw[h2];exact Dd _) (Dc h3) rfl
    · cases h
  |ext i e=>
    unfold Gd at h;dsimp only at h;split at h
    · simp only[An,BN]at h;rw[Cu]at h;obtain⟨⟨⟨⟨rfl,h1⟩,h2⟩,h3⟩,h5⟩:=h;rcases h5 with h5|h5
      · rw[An]at h5;obtain⟨h5,h4⟩:=h5;exact oE (J6 v h1) ((E.e W T X _ e v h4).nw (gO Γ h5)) rfl (by rw[Dc h3];rfl) (by rw[h2];exact Dd _) (Dc h3) rfl
      · cases q:Np e with
        |none=>rw[q]at h5;cases h5
        |some a=>
          rw[q]at h5;have eq:=dC q;subst eq;have fe:(fun ρ=>evS Γ ρ (.ext i (.bi .list (.cons (.bin .Add a (.tup .nil)) .nil))))=fun ρ=>O.of ρ (Du ρ i) fun xs=>O.of ρ (top ρ a (evE Γ ρ a)) fun x=>O.of ρ ((Dk .Add x (.tup [])).bind fun y=>biD .list [y]) fun d=>O.of ρ (K4 d) fun ys=>if DM (xs.length+ys.length)=Aa then .next (ρ.set i (Ab (.lst (xs++ys),Aa))) else .bad:=funext fun ρ=>by
            rw[kQ];have e2:evE Γ ρ (.bi .list (.cons (.bin .Add a (.tup .nil)) .nil))=(top ρ a (evE Γ ρ a)).bind fun x=>(Dk .Add x (.tup [])).bind fun y=>biD .list [y]:=by
              simp only[M8,evB,kS,fK,fJ,kR,evA,R.bind_ok,R.bind_assoc]
            rw[e2];cases Du ρ i with
            |ok xs=>
              rw[O.of_ok,O.of_ok];cases top ρ a (evE Γ ρ a)<;>rfl
            |exn z=>rfl
            |bad=>rfl
          show SS X CL W _ (fun ρ=>evS Γ ρ (.ext i (.bi .list (.cons (.bin .Add a (.tup .nil)) .nil))))
          rw[fe];exact eL (J6 v h1) (E.e W T X _ a v h5).st rfl (by rw[Dc h3];rfl) (by rw[h2];exact Dd _) (Dc h3) rfl
    · cases h
  |rev i=>exact absurd (show Ad=Aa from h) AJ
  |clr i=>exact absurd (show Ad=Aa from h) AJ
  |put i k e=>
    unfold Gd at h;dsimp only at h;split at h
    · simp only[An]at h;obtain⟨⟨⟨h1,h2⟩,h4⟩,h5⟩:=h;rename_i x p y sp v0 pos;exact oD (J6 v h1) (E.e W T X _ k v h4).st (E.e W T X _ e v h5).se (fun w=>by cases y<;>first|rfl|cases h2) (Tr (fun _ _ z=>by cases z)) rfl rfl
    · cases h
  |tryx body c x hh=>exact absurd (show Ad=Aa from h) AJ
  |swp i k l=>exact absurd (show Ad=Aa from h) AJ
  |ins=>exact absurd (show Ad=Aa from h) AJ
  |dput=>exact absurd (show Ad=Aa from h) AJ
  |dsd=>exact absurd (show Ad=Aa from h) AJ
  |rel=>exact absurd (show Ad=Aa from h) AJ
theorem nZ(Z:SndS Γ CL k n)(W:XW)(T:Tc)(X:Cx)(xs:Ac Cj)(c:Ss)(v:VX Γ CL k W T X)(hf:DefX X)(h:chkSs (n+1) T xs c=Aa):SSs X CL W xs (fun ρ=>evSs Γ ρ c):=by
 cases c with
 |nil=>
  simp only[chkSs,Hy]at h;subst h;exact eH
 |cons s ss=>
  by_cases hr:∃ i,s=.rel i
  ·obtain⟨i,rfl⟩:=hr;simp only[chkSs]at h;exact eG i (Z.ss W T X xs ss v hf h)
  ·cases xs with
   |nil=>cases s<;>first|(simp[chkSs]at h;done)|exact absurd ⟨_,rfl⟩ hr
   |cons st r=>
    have h':Gd n T st s=Aa/\chkSs n T r ss=Aa:=by
     cases s<;>first|(simp only[chkSs,An]at h;exact h)|exact absurd ⟨_,rfl⟩ hr
    exact cN (Z.s W T X st s v hf h'.1) (Z.ss W T X r ss v hf h'.2)
theorem QG:∀ n,SndS Γ CL k n
 |0=>⟨fun _ _ _ _ _ _ _ h=>absurd (show Ad=Aa from h) AJ,fun _ _ _ _ _ _ _ h=>absurd (show Ad=Aa from h) AJ⟩
 |n+1=>⟨uE (QG n),nZ (QG n)⟩
end
theorem Lw{n:Ag}{ds:Ac D}{i:Ag}{d:D}{o:Ao}(h:(BH n ds)[i]?=Ab (Ab (d,o))):o=Ad/\ds[i]?=Ab d:=by
 unfold BH at h;by_cases hi:i<ds.length
 ·rw[Fq (by simpa using hi),D4]at h
  cases e:ds[i]? with
  |none=>rw[e]at h;cases h
  |some x=>rw[e]at h;cases h;exact⟨rfl,rfl⟩
 ·rw[WA (by simpa using Nat.le_of_not_lt hi),WC]at h
  split at h<;>cases h
theorem Zv{N:Ac Al}{i:Ag}{v:V}(h:vs[i]?=Ab v):(L2.start N vs)[i]?=Ab (Ab v):=by
 unfold L2.start;have hi:=(Ba.mp h).1;rw[Fq (by simpa using hi),D4,h]
 rfl
theorem cK{K:Fg}{A:Ak->Prop}{N:Ac Al}{n:Ag}{ds:Ac D}(hn:N.length=n)(hA:AOk H A)(r:Reps K CL H A vs ds):Sx K CL (fun b o=>H b=Ab o) A (BH n ds) (L2.start N vs) H:=by
 have own:∀ a,CQ A (BH n ds) (L2.start N vs) a->A a:=fun a h=>by
  rcases h with h|⟨j,d,h,_⟩
  ·exact h
  ·exact absurd (Lw h).1 (by decide)
 have hlen:(BH n ds).length=(L2.start N vs).length:=by
  unfold BH L2.start;simp only[Cv,Bp,Gg,r.length,hn]
 refine⟨⟨fun i d h=>?_,fun i d h=>absurd (Lw h).1 (by decide),hlen⟩,fun a h=>hA a (own a h),fun j d a h _=>absurd (Lw h).1 (by decide),fun i j d e a h _ _ _=>absurd (Lw h).1 (by decide),fun b o h=>h,hlen⟩
 obtain⟨v,h1,h2⟩:=r.get (Lw h).2;exact⟨v,Zv h1,Rep.sub own _ h2⟩
def Lb(K:Fg)(mg:Al->Av Ai)(fns:Ac (Al×Ag×Ag))(bl:Ac Al)(rzs exs gls:Ac (Al×Ag))(Pg:Prg)(fuel:Ag)(p:Al×Ag×Ag):Prop:=∃ f fd ps qual st N,mg p.1=Ab (.ref f)/\Fun K p.1 qual st f fd/\Im K fd ps []/\ps.length=p.2.2%1000/\HW fuel (Em 1000 p.2.2) fns bl rzs exs gls ps N st (Pg.defs p.2.1)=Aa
structure Tab (K:Fg) (mg:Al->Av Ai) (CL:ClA) (fns:Ac (Al×Ag×Ag)) (bl:Ac Al) (rzs exs gls:Ac (Al×Ag)) (Pg:Prg) (fuel:Ag):Prop where
 xt:XT Pg.up Pg.xn CL rzs exs K mg
 bln:∀ x,x∈bl->mg x=Af
 gl:∀ p∈gls,QR K mg CL p.1 (Pg.G p.2)
 fn:∀ p∈fns,Lb K mg fns bl rzs exs gls Pg fuel p
theorem sB(Pg:Prg)(n i:Ag):(gam Pg n).fr i=(Pg.defs i).fr:=by cases n<;>rfl
theorem sA(Pg:Prg)(n:Ag):(gam Pg n).up=Pg.up:=by cases n<;>rfl
theorem xI(Pg:Prg)(n:Ag):(gam Pg n).G=Pg.G:=by cases n<;>rfl
theorem rZ(Pg:Prg)(n:Ag):(gam Pg n).xn=Pg.xn:=by cases n<;>rfl
section
variable{P:A8}{w:AN}{K:Fg}{mg:Al->Av Ai}{base:AS}{CL:ClA}{fns:Ac (Al×Ag×Ag)}{bl:Ac Al}{rzs exs gls:Ac (Al×Ag)}{Pg:Prg}{fuel:Ag}
def Lvl(P:A8)(w:AN)(K:Fg)(mg:Al->Av Ai)(base:AS)(CL:ClA)(Pg:Prg)(n:Ag)(p:Al×Ag×Ag):Prop:=∃ f fd ps,mg p.1=Ab (.ref f)/\DL K (.ref f)=Aa/\Im K fd ps []/\ps.length=p.2.2%1000/\(p.2.2<1000->FnOk P w K mg base (CXR P w) n f fd ps (spD K CL (p.2.2%1000) ((gam Pg n).fr p.2.1) ((gam Pg n).F p.2.1)))/\(1000<=p.2.2->HotOk P w K mg base n f fd ps (spH K CL (p.2.2%1000) ((gam Pg n).fr p.2.1) ((gam Pg n).F p.2.1)))
theorem UD(t:Tab K mg CL fns bl rzs exs gls Pg fuel){n:Ag}(hlv:∀ q∈fns,Lvl P w K mg base CL Pg n q){qual:Al}{st:Cj}{ps N:Ac Al}{m id:Ag}(h2:Fun K x qual st f fd)(h4:ps.length=m)(h5:HW fuel Ad fns bl rzs exs gls ps N st (Pg.defs id)=Aa):FnOk P w K mg base (CXR P w) (n+1) f fd ps (spD K CL m ((gam Pg (n+1)).fr id) ((gam Pg (n+1)).F id)):=by
  unfold HW at h5;simp only[An,BN,Bz,Ck,Cu,Jd,ne_eq]at h5;obtain⟨⟨⟨⟨⟨⟨⟨⟨c1,c2⟩,c3⟩,c4⟩,c5⟩,c6⟩,c7⟩,c8⟩,c9⟩:=h5;obtain⟨oc,od,kV,doc,pm,an,cdv,ct,osl,rfl,lk,hcd⟩:=h2.ex;refine VU (N:=N) lk hcd ⟨c1,c2,c3,MJ c4,c5,c6,c7⟩ (fun vs H Q E ⟨ds,A,z,_⟩=>z.trans h4.symm) fun A outer s H vs Q E hr ⟨ds,B,hl,hA,hreps,hpost⟩=>?_
  have xt:XT (gam Pg n).up (gam Pg n).xn CL rzs exs K mg:=by rw[sA,rZ];exact t.xt
  have gl:∀ p∈gls,QR K mg CL p.1 ((gam Pg n).G p.2):=by rw[xI];exact t.gl
  have key:∀ W:XW,(∀ x cls H',W x H'->(∃ C,CL x.c=Ab C/\cls=.ref C)->E cls Af H')->CP K CL (fun b o=>H b=Ab o) B W (evSs (gam Pg n) (BH (Pg.defs id).n ds) (Pg.defs id).body) {nx:=fun _ H'=>Q .non H',rt:=Q} ->
      ∃ t,PSs (GX (CXR P w) P w K mg base N qual (GQ st) f cdv A outer s H E) (Ih st) t/\t {nx:=fun _ H'=>Q .non H',rt:=Q} (start N vs) H:=fun W hW hp=>by
    have v:VX (gam Pg n) CL n W ⟨GQ st,N,fns,bl,rzs,exs,gls⟩ (GX (CXR P w) P w K mg base N qual (GQ st) f cdv A outer s H E):=⟨rfl,c1,rfl,MJ c4,rfl,hr,t.bln,hlv,ownR,uO hW,rzR hW,xt,gl⟩;exact⟨_,(QG fuel).ss W _ _ _ (Pg.defs id).body v ⟨fun _=>rfl,rfl,rfl,rfl⟩ c9 (fun b o=>H b=Ab o) B,_,cK c8 hA hreps,hp⟩
  have no:∀ x cls H',W0 x H'->(∃ C,CL x.c=Ab C/\cls=.ref C)->E cls Af H':=fun _ _ _ z=>z.elim
  have e:(gam Pg (n+1)).F id ds=EG Pg.xs ((evSs (gam Pg n) (BH (Pg.defs id).n ds) (Pg.defs id).body).ans (Pg.defs id).fr):=rfl;rw[e,sB]at hpost;have cutO:∀ r:R D,(∀ x,r≠.exn x)->EG Pg.xs r=r:=fun r hr=>by
    cases Pg.xs<;>cases r<;>first|rfl|exact absurd rfl (hr _)
  cases eo:evSs (gam Pg n) (BH (Pg.defs id).n ds) (Pg.defs id).body with
  |next ρ'=>
    refine key W0 no ?_;rw[eo]at hpost ⊢;cases ef:(Pg.defs id).fr with
    |true=>rw[ef]at hpost;rw[cutO _ (by intro x z;cases z)]at hpost;exact hpost.elim
    |false=>
      rw[ef]at hpost;rw[cutO _ (by intro x z;cases z)]at hpost
      exact fun σ' H' x'=>hpost .non H' (fun b o z=>x'.same b o z) ⟨rfl,fun z=>nomatch z⟩
  |ret d b=>
    refine key W0 no ?_;rw[eo]at hpost ⊢;intro v H' sm rp fr;have hp2:(match EG Pg.xs (if ((Pg.defs id).fr&&(!b&&isL d))=Aa then R.bad else R.ok d) with
      |.ok d=>∀ v H',AO H H'->EH K CL (Pg.defs id).fr H B H' v d->Q v H'
      |.exn x=>∀ cls dx H',AO H H'->Mj K CL H' B cls dx x->E cls dx H'
      | .bad=>BK):=hpost
    cases ec:((Pg.defs id).fr&&(!b&&isL d)) with
    |true=>rw[ec,Az rfl,cutO _ (by intro x z;cases z)]at hp2;exact hp2.elim
    |false=>
      rw[ec,AH (by decide),cutO _ (by intro x z;cases z)]at hp2
      refine hp2 v H' sm ⟨rp,fun efr es hd=>?_⟩
      subst hd;have eb:b=Aa:=by
        cases b with
        |true=>rfl
        |false=>rw[efr]at ec;cases ec
      obtain⟨a,xs,h1,h2,h3,h4⟩:=fr eb es rfl;refine⟨a,xs,h1,?_,h3,h4⟩;cases ha:H a with
      |none=>rfl
      |some o=>exact absurd ha (h2 o)
  |brk ρ'=>rw[eo]at hpost;have hp2:(match EG Pg.xs (R.bad:R D) with | .ok _=>_ | .exn _=>_ | .bad=>BK):=hpost;rw[cutO _ (by intro x z;cases z)]at hp2;exact hp2.elim
  |cont ρ'=>rw[eo]at hpost;have hp2:(match EG Pg.xs (R.bad:R D) with | .ok _=>_ | .exn _=>_ | .bad=>BK):=hpost;rw[cutO _ (by intro x z;cases z)]at hp2;exact hp2.elim
  |bad=>rw[eo]at hpost;have hp2:(match EG Pg.xs (R.bad:R D) with | .ok _=>_ | .exn _=>_ | .bad=>BK):=hpost;rw[cutO _ (by intro x z;cases z)]at hp2;exact hp2.elim
  |exn x ρ'=>
    rw[eo]at hpost;have hp2:(match EG Pg.xs (R.exn x:R D) with
      |.ok d=>∀ v H',AO H H'->EH K CL (Pg.defs id).fr H B H' v d->Q v H'
      |.exn x=>∀ cls dx H',AO H H'->Mj K CL H' B cls dx x->E cls dx H'
      | .bad=>BK):=hpost
    cases ex:Pg.xs with
    |false=>rw[ex]at hp2;exact hp2.elim
    |true=>
      rw[ex]at hp2;have hp3:(match (if x.fs.isEmpty=Aa then (R.exn x:R D) else .bad) with
        |.ok d=>∀ v H',AO H H'->EH K CL (Pg.defs id).fr H B H' v d->Q v H'
        |.exn x=>∀ cls dx H',AO H H'->Mj K CL H' B cls dx x->E cls dx H'
        | .bad=>BK):=hp2
      by_cases hfs:x.fs.isEmpty=Aa
      · rw[Az hfs]at hp3;refine key (fun y H'=>y=x/\AO H H') (fun y cls H' ⟨e1,sm⟩ ⟨C,d1,d2⟩=>?_) ?_
        · subst e1;exact hp3 cls Af H' sm ⟨C,d1,d2,.inl (List.isEmpty_iff.mp hfs)⟩
        · rw[eo];exact fun H' sm=>⟨rfl,sm⟩
      · rw[AH hfs]at hp3;exact hp3.elim
theorem pE(t:Tab K mg CL fns bl rzs exs gls Pg fuel){n:Ag}(hlv:∀ q∈fns,Lvl P w K mg base CL Pg n q){qual:Al}{st:Cj}{ps N:Ac Al}{m id:Ag}(h2:Fun K x qual st f fd)(h4:ps.length=m)(h5:HW fuel Aa fns bl rzs exs gls ps N st (Pg.defs id)=Aa):HotOk P w K mg base (n+1) f fd ps (spH K CL m ((gam Pg (n+1)).fr id) ((gam Pg (n+1)).F id)):=by
 exfalso
 unfold HW at h5;simp[VO]at h5
theorem PH(t:Tab K mg CL fns bl rzs exs gls Pg fuel):∀ n,∀ p∈fns,Lvl P w K mg base CL Pg n p
 |0,p,hp=>by
  obtain⟨f,fd,ps,qual,st,N,h1,h2,h3,h4,h5⟩:=t.fn p hp;exact⟨f,fd,ps,h1,h2.kp,h3,h4,fun _=>⟨fun vs H Q E ⟨ds,A,_,_,_,z⟩=>z.elim,fun A outer s H args us vs Q E _ _ _ _ ⟨ds,A,_,_,_,z⟩=>z.elim⟩,fun _=>⟨fun vs H Q E ⟨ds,A,_,_,_,z⟩=>z.elim,fun A ev outer s H args us vs Q E _ _ _ _ ⟨ds,A,_,_,_,z⟩=>z.elim⟩⟩
 |n+1,p,hp=>by
  obtain⟨f,fd,ps,qual,st,N,h1,h2,h3,h4,h5⟩:=t.fn p hp;refine⟨f,fd,ps,h1,h2.kp,h3,h4,fun hlt=>?_,fun hge=>?_⟩
  ·have eb:Em 1000 p.2.2=Ad:=by
    cases e:Em 1000 p.2.2 with
    |false=>rfl
    |true=>exact absurd (EY e) (by omega)
   rw[eb]at h5;exact UD t (fun q hq=>PH t n q hq) h2 h4 h5
  ·rw[EX hge]at h5;exact pE t (fun q hq=>PH t n q hq) h2 h4 h5
theorem rE{s s':Ap}{e:Ai}(h:CXR P w [] H s (fun _ _ _=>BK) e s'):BK:=by
 obtain⟨_,_,_,_,_,_,_,_,_,_,_,_,_,_,z⟩:=h;exact z
theorem fG{up:Ag->Ac Ag}{xn:Ag->Ac D->R Ex}(h:∀ c ds,xn c ds=.bad):XT up xn (fun _=>Af) [] [] K mg:=⟨fun _ _ z=>(nomatch z),fun _ z=>(nomatch z),fun _ z=>(nomatch z),fun c ds=>.inl (h c ds),fun c _ ds=>h c ds⟩
def Mb(K:Fg):Sp:=fun vs H Q _=>∃(a:Ak)(ns:Ac Ae),vs=[.ref a]/\ns.length<=63/\SqL K H a (ns.map V.int)/\∀ v H',v=V.bl Aa->Q v H'
theorem law_fn(G:FnOk P w K mg base CX k f fd ps (spD K CL 1 Ad F))(h:∀ ns:Ac Ae,F [.lst (ns.map .int)]=.ok (.bl Aa)):FnOk P w K mg base CX k f fd ps (Mb K):=G.imp fun vs H Q E ⟨a,ns,e,hl,hS,q⟩=>by
 subst e;have rs:∀ l:Ac Ae,Reps K CL H A0 (l.map V.int) (l.map D.int):=fun l=>by
  induction l with
  |nil=>trivial
  |cons x l ih=>exact⟨rfl,ih⟩
 refine⟨[.lst (ns.map .int)],A0,rfl,fun _ z=>z.elim,⟨⟨a,_,rfl,.inl (fun z=>z),hS,rs ns⟩,trivial⟩,?_⟩
 rw[h ns];exact fun v H' _ r=>q v H' r.1
theorem jZ(G:FnOk P w K mg base CX k f fd ps (spD K CL 1 Ad F))(h:∀ ns:Ac Ae,ns.length<=63->F [.lst (ns.map .int)]=.ok (.bl Aa)):FnOk P w K mg base CX k f fd ps (Mb K):=G.imp fun vs H Q E ⟨a,ns,e,hl,hS,q⟩=>by
 subst e;have rs:∀ l:Ac Ae,Reps K CL H A0 (l.map V.int) (l.map D.int):=fun l=>by
  induction l with
  |nil=>trivial
  |cons x l ih=>exact⟨rfl,ih⟩
 refine⟨[.lst (ns.map .int)],A0,rfl,fun _ z=>z.elim,⟨⟨a,_,rfl,.inl (fun z=>z),hS,rs ns⟩,trivial⟩,?_⟩
 rw[h ns hl];exact fun v H' _ r=>q v H' r.1
theorem Pp{Q:α->Prop}:∀ x∈([]:Ac α),Q x:=fun _ h=>nomatch h
theorem all_cons{Q:α->Prop}{a:α}{l:Ac α}(h1:Q a)(h2:∀ x∈l,Q x):∀ x∈a::l,Q x:=List.forall_mem_cons.2 ⟨h1,h2⟩
def FnI(K:Fg)(f:Ak)(n:Al)(st:Cj):Prop:=∃ fd,Fun K n n st f fd/\Ca K Bj n=Ab (Ab (.ref f))
theorem fni{st:Cj}{oc:Ai}{od an:Av Ak}{osl:AQ (Av Ai)}{kV doc pm cdv ct:Ai}(a:Ca K Bj n=Ab (Ab (.ref f)))(l:K.lookup f=Ab ⟨oc,od,.func (Et n n (KM st) (Ih st) (GQ st) .none kV doc pm an cdv ct),osl⟩)(c:GN K cdv n=Aa)(k:DL K (.ref f)=Aa):FnI K f n st:=⟨_,sD l c k,a⟩
def Bd(n:Al)(st:Cj)(ps:Ac Al)(us:Ac Ai):Prop:=∀(kV doc pm:Ai)(an:Av Ak)(cdv ct:Ai),Lq (Et n n (KM st) (Ih st) (GQ st) .none kV doc pm an cdv ct) ⟨us,[]⟩=pure (ps.zip us)
theorem M3{st:Cj}{ps N:Ac Al}(m id:Ag)(X:K.In h)(G:h.Ns Bj mg)(A:FnI K f n st)(hl:ps.length=m%1000)(hc:HW fuel (Em 1000 m) fns bl rzs exs gls ps N st (Pg.defs id)=Aa)(hb:∀ us:Ac Ai,us.length=ps.length->Bd n st ps us):Lb K mg fns bl rzs exs gls Pg fuel (n,id,m):=by
 obtain⟨fd,F,a⟩:=A;exact⟨_,_,_,_,_,_,Je X G a,F,F.binds fun kV doc pm an cdv ct us hu=>hb us hu kV doc pm an cdv ct,hl,hc⟩
theorem Kc{st:Cj}{N:Ac Al}(m id:Ag)(X:K.In h)(G:h.Ns Bj mg)(A:FnI K f n st)(hl:1=m%1000)(hc:HW fuel (Em 1000 m) fns bl rzs exs gls [x0] N st (Pg.defs id)=Aa)(hb:∀ u0,Bd n st [x0] [u0]):Lb K mg fns bl rzs exs gls Pg fuel (n,id,m):=
 M3 (ps:=[x0]) m id X G A hl hc fun us hu=>match us,hu with | [u0],_=>hb u0
theorem Ey{st:Cj}{N:Ac Al}(m id:Ag)(X:K.In h)(G:h.Ns Bj mg)(A:FnI K f n st)(hl:2=m%1000)(hc:HW fuel (Em 1000 m) fns bl rzs exs gls [x0,x1] N st (Pg.defs id)=Aa)(hb:∀ u0 u1,Bd n st [x0,x1] [u0,u1]):Lb K mg fns bl rzs exs gls Pg fuel (n,id,m):=
 M3 (ps:=[x0,x1]) m id X G A hl hc fun us hu=>match us,hu with | [u0,u1],_=>hb u0 u1
theorem FM{st:Cj}{N:Ac Al}{x2:Al}(m id:Ag)(X:K.In h)(G:h.Ns Bj mg)(A:FnI K f n st)(hl:3=m%1000)(hc:HW fuel (Em 1000 m) fns bl rzs exs gls [x0,x1,x2] N st (Pg.defs id)=Aa)(hb:∀ u0 u1 u2,Bd n st [x0,x1,x2] [u0,u1,u2]):Lb K mg fns bl rzs exs gls Pg fuel (n,id,m):=
 M3 (ps:=[x0,x1,x2]) m id X G A hl hc fun us hu=>match us,hu with | [u0,u1,u2],_=>hb u0 u1 u2
theorem Q5{st:Cj}{N:Ac Al}{x2 x3:Al}(m id:Ag)(X:K.In h)(G:h.Ns Bj mg)(A:FnI K f n st)(hl:4=m%1000)(hc:HW fuel (Em 1000 m) fns bl rzs exs gls [x0,x1,x2,x3] N st (Pg.defs id)=Aa)(hb:∀ u0 u1 u2 u3,Bd n st [x0,x1,x2,x3] [u0,u1,u2,u3]):Lb K mg fns bl rzs exs gls Pg fuel (n,id,m):=
 M3 (ps:=[x0,x1,x2,x3]) m id X G A hl hc fun us hu=>match us,hu with | [u0,u1,u2,u3],_=>hb u0 u1 u2 u3
end
end Ov
namespace OvC
open PySem Ov
variable{p t u k v f:Ae}{xs ns:Ac Ae}{m n w:Ag}{Γ:Gam}{α:Type}{s6 s5:Sl}
noncomputable def OD:Df:=⟨4,Ad,(.cons (.ret (.call 1 (.cons (.var 0) (.cons (.bin .Add (.bin .Sub (.bin .Mult (.idx (.var 1) (.int 0)) (.bin .Sub (.bin .Mult (.idx (.var 2) (.int 1)) (.idx (.var 3) (.int 2))) (.bin .Mult (.idx (.var 2) (.int 2)) (.idx (.var 3) (.int 1))))) (.bin .Mult (.idx (.var 1) (.int 1)) (.bin .Sub (.bin .Mult (.idx (.var 2) (.int 0)) (.idx (.var 3) (.int 2))) (.bin .Mult (.idx (.var 2) (.int 2)) (.idx (.var 3) (.int 0)))))) (.bin .Mult (.idx (.var 1) (.int 2)) (.bin .Sub (.bin .Mult (.idx (.var 2) (.int 0)) (.idx (.var 3) (.int 1))) (.bin .Mult (.idx (.var 2) (.int 1)) (.idx (.var 3) (.int 0)))))) .nil)))) .nil)⟩
noncomputable abbrev tr(a b c:Ae):D:=.tup [.int a,.int b,.int c]
noncomputable def det(a0 a1 a2 b0 b1 b2 c0 c1 c2:Ae):Ae:=a0*(b1*c2-b2*c1)-a1*(b0*c2-b2*c0)+a2*(b0*c1-b1*c0)
def Sm(x:Ae):Prop:=0<=x/\x<11
theorem yB{x y:Ae}(q:Ae)(h:x=y+p*q):x%p=y%p:=by rw[h,Fa]
theorem Sm.of(h:P4 p)(x:Ae):Sm (x%p):=⟨A9 _ (by have:=h.pos;omega),by have:=A7 x h.pos;have:=h.hi;omega⟩
theorem RT{body:D->Rho->O}(I:Rho->Prop)(g:Ae->Ao):∀(L:Ac Ae),(∀ t∈L,∀ ρ,I ρ->(g t=Aa/\body (.int t) ρ=.ret (.int t) Ad)\/(g t=Ad/\∃ ρ',body (.int t) ρ=.next ρ'/\I ρ'))->∀ ρ,I ρ->(∃ t∈L,g t=Aa/\CS body (L.map D.int) ρ=.ret (.int t) Ad)\/((∀ t∈L,g t=Ad)/\∃ ρ',CS body (L.map D.int) ρ=.next ρ'/\I ρ')
 |[],_,ρ,i=>.inr ⟨(fun _ h=>nomatch h),ρ,rfl,i⟩
 |m::L,h,ρ,i=>by
  rcases h m (Ay ..) ρ i with ⟨e1,e2⟩|⟨e1,ρ',e2,i'⟩
  ·refine .inl ⟨m,Ay ..,e1,?_⟩;show (body (.int m) ρ).turn _=_;rw[e2];rfl
  ·rcases RT I g L (fun m' h'=>h m' (Au _ h')) ρ' i' with ⟨t,ht,a,b⟩|⟨a,r,b,c⟩
   ·refine .inl ⟨t,Au _ ht,a,?_⟩;show (body (.int m) ρ).turn _=_;rw[e2];exact b
   ·refine .inr ⟨fun t ht=>?_,r,?_,c⟩
    ·rcases Ax.mp ht with rfl|ht
     ·exact e1
     ·exact a t ht
    ·show (body (.int m) ρ).turn _=_;rw[e2];exact b
noncomputable def Ky:Ss:=(.cons (.ife (.cmp .Eq (.call 1 (.cons (.var 0) (.cons (.bin .Mult (.var 1) (.var 2)) .nil))) (.int 1)) (.cons (.ret (.var 2)) .nil) .nil) .nil)
noncomputable def Mn:Df:=⟨3,Ad,(.cons (.fors 2 (.rng2 (.int 1) (.var 0)) Ky) (.cons (.rais 2 (.cons (.str (Aq "a number with the rest 0 is not turned over")) .nil)) .nil))⟩
noncomputable def GD(p:Ae):Ac Ae:=(Bb (p-1).toNat).map fun(k:Ag)=>1+(k:Ae)
theorem KF:t∈GD p↔1<=t/\t<p:=by
 unfold GD;rw[Cw];constructor
 ·rintro⟨k,hk,rfl⟩;have:=Ct.mp hk;omega
 ·rintro⟨h1,h2⟩;exact⟨(t-1).toNat,Ct.mpr (by omega),by omega⟩
theorem SQ(h:P4 p):Dt 1 p=.ok ((GD p).map D.int):=by
 rcases h with rfl|rfl|rfl|rfl<;>rfl
theorem kE:∀ p:Fin 12,(p.val=3\/p.val=5\/p.val=7\/p.val=11)->∀ r:Fin 12,r.val<p.val->r.val≠0->∃ t:Fin 12,1<=t.val/\t.val<p.val/\r.val*t.val%p.val=1:=by decide +kernel
theorem HL{n:Ae}(h:P4 p)(hn:n%p≠0):∃ t,1<=t/\t<p/\n*t%p=1:=by
 have p0:0<p/\p<12:=by rcases h with rfl|rfl|rfl|rfl<;>decide
 obtain⟨q,rfl⟩:∃ q:Ag,p=q:=⟨p.toNat,by omega⟩
 have h0:=A9 n (b:=(q:Ae)) (by omega)
 have h1:=A7 n p0.1;obtain⟨r,hr⟩:∃ r:Ag,n%(q:Ae)=r:=⟨(n%(q:Ae)).toNat,by omega⟩
 obtain⟨t,t1,t2,t3⟩:=kE ⟨q,by omega⟩ (by rcases h with e|e|e|e<;>simp<;>omega) ⟨r,by omega⟩ (by show r<q;omega) (by show r≠0;omega)
 refine⟨(t.val:Ae),by omega,by show (t.val:Ae)<q;exact Int.ofNat_lt.mpr t2,?_⟩
 have e:((r*t.val%q:Ag):Ae)=1:=by rw[show r*t.val%q=1 from t3];rfl
 rw[<-e,Int.natCast_emod,Gj,<-hr];exact(A2 n _ _).trans (by rw[A2 (n%(q:Ae)) (t.val:Ae) (q:Ae),AT n (Bv _)])
theorem Co{r:R D}{d:D}(h:r=.ok d):EG Aa r=.ok d:=by rw[h];rfl
def DV(p n t:Ae):Prop:=1<=t/\t<p/\n*t%p=1
theorem Sq{n:Ae}(h1:DV p n t)(h2:DV p n u):t=u:=by
 have hp:1<p:=by have:=h1.1;have:=h1.2.1;omega
 have e:t%p=u%p:=by
  have a:t%p=t*(n*u)%p:=by rw[A2,h2.2.2,El,AT _ (Bv p)]
  have b:u%p=(n*t)*u%p:=by rw[A2 (n*t) u p,h1.2.2,CF,AT _ (Bv p)]
  rw[a,b]
  congr 1
  rw[<-F3,BY t n]
 rw[AI (by have:=h1.1;omega) h1.2.1,AI (by have:=h2.1;omega) h2.2.1]at e
 exact e
theorem Bm{c x:Ae}(hp:P4 p)(hc:c%p≠0)(hx:x%p≠0):c*x%p≠0:=fun z=>by
 obtain⟨t,_,_,e⟩:=HL hp hc;refine hx ?_;have e1:x%p=(c*t)*x%p:=by rw[A2 (c*t) x p,e,CF,AT _ (Bv p)]
 rw[e1,show c*t*x=t*(c*x) by rw[BY c t,F3],A2,z,C8,A5]
noncomputable def AW(p:Ae):Ac Ae->Av Ae
 |[]=>Af
 |x::xs=>if x%p=0 then AW p xs else Ab (x%p)
theorem IQ{p:Ae}:∀{xs:Ac Ae},AW p xs=Af↔∀ x∈xs,x%p=0
 |[]=>by simp[AW]
 |x::xs=>by
  unfold AW;by_cases h:x%p=0
  ·rw[Az h,IQ (xs:=xs)];simp[h]
  ·rw[AH h];simp[h]
theorem IP{p l:Ae}(hp:0<p):∀{xs:Ac Ae},AW p xs=Ab l->l%p≠0/\0<l/\l<p
 |[],h=>by cases h
 |x::xs,h=>by
  unfold AW at h;by_cases hx:x%p=0
  ·rw[Az hx]at h;exact IP hp h
  ·rw[AH hx]at h;cases h;have h0:=A9 x (b:=p) (by omega)
   have h1:=A7 x hp;exact⟨by rw[AT _ (Bv p)];exact hx,by omega,h1⟩
theorem Jw{p c:Ae}(hp:P4 p)(hc:c%p≠0){f:Ae->Ae}(hf:∀ x,f x%p=c*x%p):∀ xs:Ac Ae,AW p (xs.map f)=(AW p xs).map fun l=>c*l%p
 |[]=>rfl
 |x::xs=>by
  rw[BQ];unfold AW;rw[hf x];by_cases hx:x%p=0
  ·rw[Az hx,Az (by rw[A2,hx,C8,A5]),Jw hp hc hf xs]
  ·rw[AH hx,AH (Bm hp hc hx),DX]
   congr 1
   rw[A2 c (x%p),AT _ (Bv p),<-A2]
noncomputable def ds(xs:Ac Ae):Ac D:=xs.map D.int
noncomputable def Dp(b:Ao)(xs:Ac Ae):D:=if b=Aa then .tup (ds xs) else .lst (ds xs)
theorem Op(b xs):Cc (Dp b xs)=.ok (ds xs):=by unfold Dp;cases b<;>rfl
theorem LJ{g:D->R Ao}{f:D->R D}{φ:Ae->Ae}:∀(xs:Ac Ae),(∀ x∈xs,g (.int x)=.ok Aa/\f (.int x)=.ok (.int (φ x)))->BJ g f (ds xs)=.ok (ds (xs.map φ))
 |[],_=>rfl
 |x::xs,h=>by
  obtain⟨h1,h2⟩:=h x (Ay ..);show (g (.int x)).bind _=_;rw[h1,R.bind_ok,Az rfl,h2,R.bind_ok];show (BJ g f (ds xs)).bind _=_;rw[LJ xs fun y hy=>h y (Au _ hy)]
  rfl
noncomputable def CB:E:=(.bl Aa)
noncomputable def N6:E:=(.call 1 (.cons (.var 0) (.cons (.var 5) .nil)))
noncomputable def N5:E:=(.call 1 (.cons (.var 0) (.cons (.bin .Mult (.var 4) (.var 6)) .nil)))
noncomputable def HG:Ss:=(.cons (.ife (.cmp .NotEq (.var 3) (.int 0)) (.cons (.asg 4 Ad (.call 9 (.cons (.var 0) (.cons (.var 3) .nil)))) (.cons (.ret (.bi .tuple (.cons (.comp N5 6 (.e (.var 2)) CB) .nil))) .nil)) .nil) .nil)
noncomputable def Mv:Df:=⟨7,Ad,(.cons (.asg 2 Ad (.comp N6 5 (.e (.var 1)) CB)) (.cons (.fors 3 (.e (.var 2)) HG) (.cons (.rais 3 (.cons (.str (Aq "all the numbers have the rest 0")) .nil)) .nil)))⟩
noncomputable def fmI(p t:Ae)(xs:Ac Ae):Ac Ae:=xs.map fun x=>t*(x%p)%p
section
variable{Γ:Gam}{p:Ae}{xs:Ac Ae}{b:Ao}
end
theorem LA{g:D->R Ao}{f:D->R D}{q:Ae->Ao}:∀(xs:Ac Ae),(∀ x∈xs,g (.int x)=.ok (q x)/\f (.int x)=.ok (.int x))->BJ g f (ds xs)=.ok (ds (xs.filter q))
 |[],_=>rfl
 |x::xs,h=>by
  obtain⟨h1,h2⟩:=h x (Ay ..);have ih:=LA xs fun y hy=>h y (Au _ hy)
  show (g (.int x)).bind _=_;rw[h1,R.bind_ok];cases hq:q x with
  |true=>
   rw[Az rfl,h2,R.bind_ok,Dq,hq,Az rfl];show (BJ g f (ds xs)).bind _=_;rw[ih];rfl
  |false=>
   rw[AH (by decide),Dq,hq,AH (by decide)]
   exact ih
theorem ZM{p l t:Ae}(it:DV p l t):((GD p).filter fun k=>decide (k*l%p=1)).head?=Ab t:=by
 have hm:t∈(GD p).filter fun k=>decide (k*l%p=1):=AR.mpr ⟨KF.mpr ⟨it.1,it.2.1⟩,by simp[BY t l,it.2.2]⟩
 cases e:(GD p).filter fun k=>decide (k*l%p=1) with
 |nil=>rw[e]at hm;cases hm
 |cons u us=>
  have hu:u∈(GD p).filter fun k=>decide (k*l%p=1):=by rw[e];exact Ay ..
  obtain⟨h1,h2⟩:=AR.mp hu;obtain⟨a,b⟩:=KF.mp h1;have h3:u*l%p=1:=by simpa using h2
  rw[Sq it ⟨a,b,by rw[BY];exact h3⟩]
  rfl
theorem MM{l:Ae}(h:xs.head?=Ab l):D0 (ds xs) 0=.ok (.int l):=by
 cases xs with
 |nil=>cases h
 |cons x xs=>cases h;exact MH (by omega) rfl
theorem U2:∀ xs:Ac Ae,eqDs (ds xs) (ds xs)=Aa
 |[]=>rfl
 |x::xs=>by
  show (eqD (.int x) (.int x)&&eqDs (ds xs) (ds xs))=Aa;rw[U2 xs];simp
theorem SK:∀ xs:Ac Ae,GB (xs.map fun _=>D.bl Aa)=.ok Aa
 |[]=>rfl
 |x::xs=>by
  rw[BQ,Oq,SK xs];rfl
theorem Ux{g:D->R Ao}{f:D->R D}:∀(xs:Ac Ae),(∀ x∈xs,g (.int x)=.ok Aa/\f (.int x)=.ok (.bl Aa))->BJ g f (ds xs)=.ok (xs.map fun _=>D.bl Aa)
 |[],_=>rfl
 |x::xs,h=>by
  obtain⟨h1,h2⟩:=h x (Ay ..);show (g (.int x)).bind _=_;rw[h1,R.bind_ok,Az rfl,h2,R.bind_ok];show (BJ g f (ds xs)).bind _=_;rw[Ux xs fun y hy=>h y (Au _ hy)]
  rfl
noncomputable abbrev own(xs:Ac Ae):Sl:=Ab (.lst (ds xs),Aa)
section
variable{Γ:Gam}{ns:Ac Ae}{a1 a2 a4 a6 a7 a8 a9 b0 b1 b2 b3 b4:Sl}{p:Ae}
end
theorem bR{p c l t:Ae}(hp:P4 p)(hc:c%p≠0)(hl:l%p≠0)(it:DV p l t){f:Ae->Ae}(hf:∀ x,f x%p=c*x%p)(xs:Ac Ae):∃ u,DV p (c*l%p) u/\fmI p u (xs.map f)=fmI p t xs:=by
 have h1:(c*l%p)%p≠0:=by rw[AT _ (Bv p)];exact Bm hp hc hl
 obtain⟨u,u1,u2,u3⟩:=HL hp h1;refine⟨u,⟨u1,u2,u3⟩,?_⟩;unfold fmI;rw[FB];refine EB fun x _=>?_
 show u*(f x%p)%p=t*(x%p)%p;have u4:c*l*u%p=1:=by rw[<-u3,A2 (c*l%p) u p,AT _ (Bv p),<-A2]
 have e1:u*(f x%p)%p=u*(c*x)%p:=by rw[hf,A2 u (c*x%p) p,AT _ (Bv p),<-A2]
 have e2:t*(x%p)%p=t*x%p:=by rw[A2 t (x%p) p,AT _ (Bv p),<-A2]
 have e3:u*(c*x)%p=(l*t)*(u*(c*x))%p:=by rw[A2 (l*t) _ p,it.2.2,CF,AT _ (Bv p)]
 have e4:t*x%p=(c*l*u)*(t*x)%p:=by rw[A2 (c*l*u) _ p,u4,CF,AT _ (Bv p)]
 rw[e1,e2,e3,e4]
 congr 1
 grind
section
variable{Γ:Gam}{ns:Ac Ae}{a1 a4 a6 a7 a8 a9 b2 b3 b4:Sl}{p m:Ae}{xs:Ac Ae}
end
def Cg(p x y:Ae):Prop:=x%p=y%p
section
variable{p a b c d:Ae}
theorem Cg.rfl:Cg p a a:=Eq.refl _
theorem Cg.of(h:a=b):Cg p a b:=by unfold Cg;rw[h]
theorem Cg.trans{a b c:Ae}(h:Cg p a b)(g:Cg p b c):Cg p a c:=Eq.trans h g
theorem Cg.symm(h:Cg p a b):Cg p b a:=Eq.symm h
theorem Cg.add(h:Cg p a b)(g:Cg p c d):Cg p (a+c) (b+d):=by unfold Cg at *;rw[Hw,h,g,<-Hw]
theorem Cg.sub(h:Cg p a b)(g:Cg p c d):Cg p (a-c) (b-d):=by unfold Cg at *;rw[Jg,h,g,<-Jg]
theorem Cg.mul(h:Cg p a b)(g:Cg p c d):Cg p (a*c) (b*d):=by unfold Cg at *;rw[A2,h,g,<-A2]
theorem Cg.md(h:a=b%p):Cg p a b:=by unfold Cg;rw[h,AT _ (Bv p)]
theorem Cg.far(q:Ae)(h:a=b+p*q):Cg p a b:=yB q h
end
theorem UC{p a0 a1 a2 b0 b1 b2 c0 c1 c2 x0 x1 x2 y0 y1 y2 z0 z1 z2:Ae}(h0:Cg p a0 x0)(h1:Cg p a1 x1)(h2:Cg p a2 x2)(h3:Cg p b0 y0)(h4:Cg p b1 y1)(h5:Cg p b2 y2)(h6:Cg p c0 z0)(h7:Cg p c1 z1)(h8:Cg p c2 z2):Cg p (a0*(b1*c2-b2*c1)-a1*(b0*c2-b2*c0)+a2*(b0*c1-b1*c0)) (x0*(y1*z2-y2*z1)-x1*(y0*z2-y2*z0)+x2*(y0*z1-y1*z0)):=
 ((h0.mul ((h4.mul h8).sub (h5.mul h7))).sub (h1.mul ((h3.mul h8).sub (h5.mul h6)))).add (h2.mul ((h3.mul h7).sub (h4.mul h6)))
theorem P4.m1(h:P4 p):(-1:Ae)%p≠0:=by rcases h with rfl|rfl|rfl|rfl<;>decide
theorem P4.o1(h:P4 p):(1:Ae)%p≠0:=by rcases h with rfl|rfl|rfl|rfl<;>decide
abbrev R3:=Ae×Ae×Ae
variable{a y' x y x' r g:R3}
noncomputable def Fn(a:R3):D:=.lst [.int a.1,.int a.2.1,.int a.2.2]
noncomputable def Am(a b c:R3):Ae:=det a.1 a.2.1 a.2.2 b.1 b.2.1 b.2.2 c.1 c.2.1 c.2.2
def In3(p:Ae)(a:R3):Prop:=(0<=a.1/\a.1<p)/\(0<=a.2.1/\a.2.1<p)/\(0<=a.2.2/\a.2.2<p)
structure GoodR (p:Ae) (a b c:R3):Prop where
 p4:P4 p
 ia:In3 p a
 ib:In3 p b
 ic:In3 p c
 nz:Am a b c%p≠0
theorem GoodR.of{a b c a' b' c':R3}(h:GoodR p a b c)(hk:k%p≠0)(e:Cg p (Am a' b' c') (k*Am a b c))(hin:In3 p a'/\In3 p b'/\In3 p c'):GoodR p a' b' c':=⟨h.p4,hin.1,hin.2.1,hin.2.2,by rw[show Am a' b' c'%p=_ from e];exact Bm h.p4 hk h.nz⟩
theorem kI(h0:0<=k)(h1:k<ns.length):D0 (ns.map D.int) k=.ok (.int (ns.getD k.toNat 0)):=MH h0 (by
 have:k.toNat<ns.length:=by omega
 simp[this])
noncomputable abbrev ownR(a b c:R3):Sl:=Ab (.lst [Fn a,Fn b,Fn c],Aa)
section
variable{Γ:Gam}{ns:Ac Ae}{at_ many s5 s0 s1 s2:Sl}{p t m:Ae}{a b c:R3}
end
section
variable{Γ:Gam}{ns:Ac Ae}{many s5 s6 s7 s8 s9 s0 s1 s2:Sl}{p:Ae}{a b c:R3}
end
noncomputable def nine(a b c:R3):Ac Ae:=[a.1,a.2.1,a.2.2,b.1,b.2.1,b.2.2,c.1,c.2.1,c.2.2]
noncomputable def trR(a:R3):D:=.tup [.int a.1,.int a.2.1,.int a.2.2]
noncomputable def Bc(a b c:R3):D:=.tup [trR a,trR b,trR c]
noncomputable def fmR(p t:Ae)(a:R3):R3:=(t*(a.1%p)%p,t*(a.2.1%p)%p,t*(a.2.2%p)%p)
theorem TW(p t:Ae)(a b c:R3):fmI p t (nine a b c)=nine (fmR p t a) (fmR p t b) (fmR p t c):=rfl
theorem MK{a b c:R3}(h:Am a b c%p≠0):∃ l,AW p (nine a b c)=Ab l:=by
 cases e:AW p (nine a b c) with
 |some l=>exact⟨l,rfl⟩
 |none=>
  refine absurd ?_ h;have z:=IQ.mp e;have q:∀ x∈nine a b c,Cg p x 0:=fun x hx=>by
   have:=z x hx;show x%p=0%p;rw[this];simp
  have:=UC (p:=p) (q a.1 (by simp[nine])) (q a.2.1 (by simp[nine])) (q a.2.2 (by simp[nine])) (q b.1 (by simp[nine])) (q b.2.1 (by simp[nine])) (q b.2.2 (by simp[nine])) (q c.1 (by simp[nine])) (q c.2.1 (by simp[nine])) (q c.2.2 (by simp[nine]))
  have e2:Am a b c%p=(0*(0*0-0*0)-0*(0*0-0*0)+0*(0*0-0*0))%p:=this;rw[e2];simp
theorem Yz(a b c:R3):slD (.tup (ds (nine a b c))) Af (Ab 3)=.ok (trR a)/\slD (.tup (ds (nine a b c))) (Ab 3) (Ab 6)=.ok (trR b)/\slD (.tup (ds (nine a b c))) (Ab 6) Af=.ok (trR c):=⟨rfl,rfl,rfl⟩
theorem dE(a b c:R3):Dk .Add (Fn a) (Fn b)=.ok (.lst [.int a.1,.int a.2.1,.int a.2.2,.int b.1,.int b.2.1,.int b.2.2])/\Dk .Add (.lst [.int a.1,.int a.2.1,.int a.2.2,.int b.1,.int b.2.1,.int b.2.2]) (Fn c)=.ok (.lst (ds (nine a b c))):=⟨rfl,rfl⟩
def Bd(n:Ag)(x:Ae):Prop:=x.natAbs<2 ^ n
theorem Bd.mul{x y:Ae}(h:Bd m x)(g:Bd n y):Bd (m+n) (x*y):=by
 unfold Bd at *;rw[Int.natAbs_mul,Nat.pow_add];exact Nat.mul_lt_mul'' h g
theorem Bd.sub{x y:Ae}(h:Bd n x)(g:Bd n y):Bd (n+1) (x-y):=by
 unfold Bd at *;rw[Nat.pow_succ];omega
theorem GU{x y:Ae}(h:Bd m x)(g:Bd n y)(hm:m<=2000)(hn:n<=2000):E8 x y=Aa:=by
 unfold E8 Bd at *;rw[An,AK,AK];exact⟨AD h (Go (by decide) hm),AD g (Go (by decide) hn)⟩
def B3(a:R3):Prop:=Bd 300 a.1/\Bd 300 a.2.1/\Bd 300 a.2.2
noncomputable def Aj(q:Ao)(a:R3):D:=Dp q [a.1,a.2.1,a.2.2]
theorem GS(q:Ao)(a:R3):BW (Aj q a) (.int 0)=.ok (.int a.1)/\BW (Aj q a) (.int 1)=.ok (.int a.2.1)/\BW (Aj q a) (.int 2)=.ok (.int a.2.2):=by cases q<;>exact⟨rfl,rfl,rfl⟩
def KN(Γ:Gam):Prop:=∀(p:Ae)(q:Ao)(a b c:R3),0<p->B3 a->B3 b->B3 c->Γ.F 61 [.int p,Aj q a,Aj q b,Aj q c]=.ok (.int (Am a b c%p))
theorem hV(h:Il Γ)(p:Ae)(q:Ao)(a b c:R3)(hp:0<p)(ha:B3 a)(hb:B3 b)(hc:B3 c):OD.run Γ [.int p,Aj q a,Aj q b,Aj q c]=.ok (.int (Am a b c%p)):=by
 obtain⟨a0,a1,a2⟩:=GS q a;obtain⟨b0,b1,b2⟩:=GS q b;obtain⟨c0,c1,c2⟩:=GS q c;have k:∀ {x y},Bd 300 x->Bd 300 y->E8 x y=Aa:=fun hx hy=>GU hx hy (by decide) (by decide)
 have k2:∀ {x y z u v},Bd 300 x->Bd 300 y->Bd 300 z->Bd 300 u->Bd 300 v->E8 x (y*z-u*v)=Aa:=fun hx hy hz hu hv=>GU hx ((hy.mul hz).sub (hu.mul hv)) (by decide) (by decide)
 simp[OD,Df.run,BH,a0,a1,a2,b0,b1,b2,c0,c1,c2,k hb.2.1 hc.2.2,k hb.2.2 hc.2.1,k hb.1 hc.2.2,k hb.2.2 hc.1,k hb.1 hc.2.1,k hb.2.1 hc.1,k2 ha.1 hb.2.1 hc.2.2 hb.2.2 hc.2.1,k2 ha.2.1 hb.1 hc.2.2 hb.2.2 hc.1,k2 ha.2.2 hb.1 hc.2.1 hb.2.1 hc.1,h p _ hp];rfl
noncomputable def Om:Df:=⟨3,Ad,(.cons (.ife (.cmp .Eq (.call 61 (.cons (.var 0) (.cons (.idx (.var 1) (.int 0)) (.cons (.idx (.var 1) (.int 1)) (.cons (.idx (.var 1) (.int 2)) .nil))))) (.int 0)) (.cons (.rais 4 (.cons (.str (Aq "the measure of the rows is 0")) .nil)) .nil) .nil) (.cons (.asg 2 Ad (.call 17 (.cons (.var 0) (.cons (.bin .Add (.bin .Add (.bi .list (.cons (.idx (.var 1) (.int 0)) .nil)) (.bi .list (.cons (.idx (.var 1) (.int 1)) .nil))) (.bi .list (.cons (.idx (.var 1) (.int 2)) .nil))) .nil)))) (.cons (.ret (.tup (.cons (.sl (.var 2) .non (.int 3)) (.cons (.sl (.var 2) (.int 3) (.int 6)) (.cons (.sl (.var 2) (.int 6) .non) .nil))))) .nil)))⟩
theorem pS(q:Ao)(a:R3):biD .list [Aj q a]=.ok (Fn a):=by cases q<;>rfl
section
variable{Γ:Gam}{ns:Ac Ae}{p t:Ae}{a b c r:R3}{made s6 s7:Sl}
end
theorem Lz{p:Ae}:∀{xs ys:Ac Ae},xs.map (fun x=>x%p)=ys.map (fun x=>x%p)->AW p xs=AW p ys
 |[],[],_=>rfl
 |x::xs,y::ys,h=>by
  rw[BQ,BQ,HX]at h;unfold AW;rw[h.1,Lz h.2]
 |[],_::_,h=>by simp at h
 |_::_,[],h=>by simp at h
theorem Ta{ys:Ac Ae}(h:xs.map (fun x=>x%p)=ys.map (fun x=>x%p)):fmI p t xs=fmI p t ys:=by
 have e:∀ zs:Ac Ae,fmI p t zs=(zs.map fun x=>x%p).map fun r=>t*r%p:=fun zs=>by simp[fmI,FB,Wl]
 rw[e,e,h]
theorem bP{a b c a' b' c':R3}(h:nine a b c=nine a' b' c'):a=a'/\b=b'/\c=c':=by
 unfold nine at h;simp only[HX,and_true]at h;obtain⟨h1,h2,h3,h4,h5,h6,h7,h8,h9⟩:=h;exact⟨Bl h1 (Bl h2 h3),Bl h4 (Bl h5 h6),Bl h7 (Bl h8 h9)⟩
theorem GV(hp:0<p)(t:Ae)(a:R3):In3 p (fmR p t a):=⟨⟨A9 _ (by omega),A7 _ hp⟩,⟨A9 _ (by omega),A7 _ hp⟩,⟨A9 _ (by omega),A7 _ hp⟩⟩
section
variable{Γ:Gam}{ns:Ac Ae}{p m:Ae}{a b c:R3}{fa fb fc:R3}{q:Ao}{s9 s0 s1 s2:Sl}
end
def OG(Γ:Gam):Prop:=∀ p n:Ae,P4 p->n%p≠0->∃ t,1<=t/\t<p/\n*t%p=1/\Γ.F 9 [.int p,.int n]=.ok (.int t)
def LS(Γ:Gam):Prop:=∀(p:Ae)(b:Ao)(xs:Ac Ae)(l t:Ae),P4 p->AW p xs=Ab l->DV p l t->Γ.F 17 [.int p,Dp b xs]=.ok (.tup (ds (fmI p t xs)))
theorem Z6(hr:Il Γ)(p n:Ae)(hp:P4 p)(z:n%p≠0):∃ t,1<=t/\t<p/\n*t%p=1/\Mn.run Γ [.int p,.int n]=.ok (.int t):=by
 have p0:=hp.pos;have ph:=hp.hi;have body:∀ t∈GD p,∀ ρ,(∃ s,ρ=[si p,si n,s])->(decide (n*t%p=1)=Aa/\CJ Γ 2 Ky (.int t) ρ=.ret (.int t) Ad)\/(decide (n*t%p=1)=Ad/\∃ ρ',CJ Γ 2 Ky (.int t) ρ=.next ρ'/\∃ s,ρ'=[si p,si n,s]):=by
  rintro t ht ρ ⟨s,rfl⟩;obtain⟨t1,t2⟩:=KF.mp ht;have m:Ei n t=Aa:=MS (by omega) (by omega)
  by_cases e:n*t%p=1
  ·exact .inl ⟨by simp[e],by simp[CJ,Ky,hr p (n*t) p0,m,e,Ez]⟩
  ·exact .inr ⟨by simp[e],_,by simp[CJ,Ky,hr p (n*t) p0,m,e];rfl,_,rfl⟩
 have run:∀ o,CS (CJ Γ 2 Ky) ((GD p).map D.int) [si p,si n,Af]=o->Mn.run Γ [.int p,.int n]=(Gc Γ (.cons (.rais 2 (.cons (.str (Aq "a number with the rest 0 is not turned over")) .nil)) .nil) o).ans Ad:=by
  rintro o rfl;simp[Mn,Df.run,BH,SQ hp]
 rcases RT (fun ρ=>∃ s,ρ=[si p,si n,s]) (fun t=>decide (n*t%p=1)) (GD p) body [si p,si n,Af] ⟨_,rfl⟩ with ⟨t,ht,a,b⟩|⟨a,r,b,s,rfl⟩
 ·obtain⟨t1,t2⟩:=KF.mp ht;have a':n*t%p=1:=by simpa using a
  exact⟨t,t1,t2,a',by rw[run _ b];rfl⟩
 ·obtain⟨t,t1,t2,e⟩:=HL hp z;have:=a t (KF.mpr ⟨t1,t2⟩);simp[e]at this
section
variable{Γ:Gam}{p:Ae}{xs:Ac Ae}{b:Ao}
theorem SV(hr:Il Γ)(ht:OG Γ)(hp:P4 p)(rs:Ac Ae):∀(ys:Ac Ae),(∀ y∈ys,0<=y/\y<p)->∀ s3,(AW p ys=Af->∃ s3',CS (CJ Γ 3 HG) (ds ys) [si p,sh (Dp b xs),sh (.lst (ds rs)),s3,Af,Af,Af]=.next [si p,sh (Dp b xs),sh (.lst (ds rs)),s3',Af,Af,Af])/\(∀ l t,AW p ys=Ab l->DV p l t->CS (CJ Γ 3 HG) (ds ys) [si p,sh (Dp b xs),sh (.lst (ds rs)),s3,Af,Af,Af]=.ret (.tup (ds (rs.map fun r=>t*r%p))) Ad)
 |[],_,s3=>⟨fun _=>⟨s3,rfl⟩,(fun l t h=>nomatch h)⟩
 |y::ys,hy,s3=>by
  obtain⟨y0,y1⟩:=hy y (Ay ..);have ym:y%p=y:=AI y0 y1;have ih:=SV hr ht hp rs ys (fun z hz=>hy z (Au _ hz)) (si y)
  have step:∀ o,CJ Γ 3 HG (.int y) [si p,sh (Dp b xs),sh (.lst (ds rs)),s3,Af,Af,Af]=o->CS (CJ Γ 3 HG) (ds (y::ys)) [si p,sh (Dp b xs),sh (.lst (ds rs)),s3,Af,Af,Af]=o.turn (CS (CJ Γ 3 HG) (ds ys)):=by
   rintro o rfl;rfl
  unfold AW;rw[ym];by_cases hz:y=0
  ·have e:CJ Γ 3 HG (.int y) [si p,sh (Dp b xs),sh (.lst (ds rs)),s3,Af,Af,Af]=.next [si p,sh (Dp b xs),sh (.lst (ds rs)),si y,Af,Af,Af]:=by
    simp[CJ,HG,hz]
   rw[Az hz,step _ e];exact ih
  ·rw[AH hz];refine⟨(fun z=>nomatch z),fun l t e it=>?_⟩
   cases e;obtain⟨u,u1,u2,u3,u4⟩:=ht p y hp (by rw[ym];exact hz)
   have:t=u:=Sq it ⟨u1,u2,u3⟩;subst this;have p0:=hp.pos;have ph:=hp.hi;have cp:BJ (cG Γ [si p,sh (Dp b xs),sh (.lst (ds rs)),si y,si t,Af,Af] 6 CB) (cF Γ [si p,sh (Dp b xs),sh (.lst (ds rs)),si y,si t,Af,Af] 6 N5) (ds rs)=.ok (ds (rs.map fun r=>t*r%p)):=by
    refine LJ rs fun r _=>⟨rfl,?_⟩
    have m:Ei t r=Aa:=HI (by omega) (by omega)
    simp[cF,N5,m,hr p (t*r) p0]
   have e:CJ Γ 3 HG (.int y) [si p,sh (Dp b xs),sh (.lst (ds rs)),s3,Af,Af,Af]=.ret (.tup (ds (rs.map fun r=>t*r%p))) Ad:=by
    simp[CJ,HG,hz,u4,cp,Ez]
   rw[step _ e];rfl
theorem hZ(hr:Il Γ)(ht:OG Γ)(hp:P4 p){l t:Ae}(e:AW p xs=Ab l)(it:DV p l t):Mv.run Γ [.int p,Dp b xs]=.ok (.tup (ds (fmI p t xs))):=by
 have p0:=hp.pos;have cp:BJ (cG Γ [si p,sh (Dp b xs),Af,Af,Af,Af,Af] 5 CB) (cF Γ [si p,sh (Dp b xs),Af,Af,Af,Af,Af] 5 N6) (ds xs)=.ok (ds (xs.map fun x=>x%p)):=by
  refine LJ xs fun x _=>⟨rfl,?_⟩
  simp[cF,N6,hr p x p0]
 have run:∀ o,CS (CJ Γ 3 HG) (ds (xs.map fun x=>x%p)) [si p,sh (Dp b xs),sh (.lst (ds (xs.map fun x=>x%p))),Af,Af,Af,Af]=o->Mv.run Γ [.int p,Dp b xs]=(Gc Γ (.cons (.rais 3 (.cons (.str (Aq "all the numbers have the rest 0")) .nil)) .nil) o).ans Ad:=by
  rintro o rfl;simp[Mv,Df.run,BH,Op,cp]
 have le:AW p (xs.map fun x=>x%p)=AW p xs:=by
  have:=Jw (c:=1) hp (by rcases hp with rfl|rfl|rfl|rfl<;>decide) (f:=fun x=>x%p) (fun x=>by rw[CF,AT _ (Bv p)]) xs
  rw[this];cases e:AW p xs with
  |none=>rfl
  |some l=>
   obtain⟨_,l0,l1⟩:=IP p0 e;simp[AI (Int.le_of_lt l0) l1]
 obtain⟨a,c⟩:=SV (b:=b) (xs:=xs) hr ht hp (xs.map fun x=>x%p) (xs.map fun x=>x%p) (fun y hy=>by
  obtain⟨x,_,rfl⟩:=Cw.mp hy;exact⟨A9 _ (by omega),A7 _ p0⟩) Af
 rw[le]at a c;rw[run _ (c l t e it)];simp[fmI,FB,Wl]
end
noncomputable def DD(t q:Ao)(a b c:R3):D:=if t=Aa then .tup [Aj q a,Aj q b,Aj q c] else .lst [Aj q a,Aj q b,Aj q c]
theorem QN(t q:Ao)(a b c:R3):BW (DD t q a b c) (.int 0)=.ok (Aj q a)/\BW (DD t q a b c) (.int 1)=.ok (Aj q b)/\BW (DD t q a b c) (.int 2)=.ok (Aj q c):=by cases t<;>exact⟨rfl,rfl,rfl⟩
theorem Nc(q:Ao)(a:R3):Cc (Aj q a)=.ok [.int a.1,.int a.2.1,.int a.2.2]:=by cases q<;>rfl
theorem YS(t q:Ao)(a b c:R3):Cc (DD t q a b c)=.ok [Aj q a,Aj q b,Aj q c]:=by cases t<;>rfl
noncomputable def BA(a b c:R3):R3:=(a.1,b.1,c.1)
noncomputable def BG(a b c:R3):R3:=(a.2.1,b.2.1,c.2.1)
noncomputable def BF(a b c:R3):R3:=(a.2.2,b.2.2,c.2.2)
noncomputable def OF:Df:=⟨1,Ad,(.cons (.ret (.tupI (.zip3 (.idx (.var 0) (.int 0)) (.idx (.var 0) (.int 1)) (.idx (.var 0) (.int 2))))) .nil)⟩
def M2(Γ:Gam):Prop:=∀(t q:Ao)(a b c:R3),Γ.F 104 [DD t q a b c]=.ok (DD Aa Aa (BA a b c) (BG a b c) (BF a b c))
theorem mK(Γ:Gam)(t q:Ao)(a b c:R3):OF.run Γ [DD t q a b c]=.ok (DD Aa Aa (BA a b c) (BG a b c) (BF a b c)):=by
 obtain⟨r0,r1,r2⟩:=QN t q a b c;have z:K1 (Aj q a) (Aj q b) (Aj q c)=.ok [Aj Aa (BA a b c),Aj Aa (BG a b c),Aj Aa (BF a b c)]:=by
  unfold K1;rw[Nc,Nc,Nc];rfl
 simp[OF,Df.run,BH,r0,r1,r2,z];rfl
noncomputable def Ar(a x:R3):Ae:=a.1*x.1+a.2.1*x.2.1+a.2.2*x.2.2
noncomputable def Mp:E:=(.call 1 (.cons (.var 0) (.cons (.bin .Add (.bin .Add (.bin .Mult (.idx (.var 3) (.int 0)) (.idx (.var 2) (.int 0))) (.bin .Mult (.idx (.var 3) (.int 1)) (.idx (.var 2) (.int 1)))) (.bin .Mult (.idx (.var 3) (.int 2)) (.idx (.var 2) (.int 2)))) .nil)))
noncomputable def OC:Df:=⟨4,Ad,(.cons (.ret (.bi .tuple (.cons (.comp Mp 3 (.e (.var 1)) CB) .nil))) .nil)⟩
def M0(Γ:Gam):Prop:=∀(p:Ae)(t q q':Ao)(a b c x:R3),0<p->B3 a->B3 b->B3 c->B3 x->Γ.F 91 [.int p,DD t q a b c,Aj q' x]=.ok (Aj Aa (Ar a x%p,Ar b x%p,Ar c x%p))
theorem nL(h:Il Γ)(p:Ae)(t q q':Ao)(a b c x:R3)(hp:0<p)(ha:B3 a)(hb:B3 b)(hc:B3 c)(hx:B3 x):OC.run Γ [.int p,DD t q a b c,Aj q' x]=.ok (Aj Aa (Ar a x%p,Ar b x%p,Ar c x%p)):=by
 obtain⟨x0,x1,x2⟩:=GS q' x;have k:∀ {u v},Bd 300 u->Bd 300 v->E8 u v=Aa:=fun hu hv=>GU hu hv (by decide) (by decide)
 have key:∀ r:R3,B3 r->cF Γ [si p,sh (DD t q a b c),sh (Aj q' x),Af] 3 Mp (Aj q r)=.ok (.int (Ar r x%p)):=fun r hr=>by
  obtain⟨y0,y1,y2⟩:=GS q r;simp[cF,Mp,x0,x1,x2,y0,y1,y2,k hr.1 hx.1,k hr.2.1 hx.2.1,k hr.2.2 hx.2.2,h p _ hp];rfl
 have g:∀ r,cG Γ [si p,sh (DD t q a b c),sh (Aj q' x),Af] 3 CB r=.ok Aa:=fun _=>rfl
 have cp:BJ (cG Γ [si p,sh (DD t q a b c),sh (Aj q' x),Af] 3 CB) (cF Γ [si p,sh (DD t q a b c),sh (Aj q' x),Af] 3 Mp) [Aj q a,Aj q b,Aj q c]=.ok [.int (Ar a x%p),.int (Ar b x%p),.int (Ar c x%p)]:=by
  simp[BJ,g,key a ha,key b hb,key c hc]
 simp[OC,Df.run,BH,YS,cp];rfl
noncomputable def crs(a b:R3):R3:=(a.2.1*b.2.2-a.2.2*b.2.1,a.2.2*b.1-a.1*b.2.2,a.1*b.2.1-a.2.1*b.1)
theorem TL:∀ xs ys:Ac Ae,eqDs (ds xs) (ds ys)=decide (xs=ys)
 |[],[]=>rfl
 |[],_::_=>rfl
 |_::_,[]=>rfl
 |x::xs,y::ys=>by
  show ((x==y)&&eqDs (ds xs) (ds ys))=_;rw[TL xs ys,BU];simp
theorem U3(a b:R3):eqD (Aj Aa a) (Aj Aa b)=decide (a=b):=by
 show eqDs (ds [a.1,a.2.1,a.2.2]) (ds [b.1,b.2.1,b.2.2])=_;rw[TL,BU];simp only[HX,and_true,AK];exact⟨fun ⟨h1,h2,h3⟩=>by obtain⟨a1,a2,a3⟩:=a;obtain⟨b1,b2,b3⟩:=b;simp at h1 h2 h3;rw[h1,h2,h3],fun h=>by rw[h];exact⟨rfl,rfl,rfl⟩⟩
noncomputable def OE:Df:=⟨2,Ad,(.cons (.ife (.cmp .Eq (.var 0) (.var 1)) (.cons (.rais 7 (.cons (.var 0) .nil)) .nil) .nil) (.cons (.ret (.tup (.cons (.bin .Sub (.bin .Mult (.idx (.var 0) (.int 1)) (.idx (.var 1) (.int 2))) (.bin .Mult (.idx (.var 0) (.int 2)) (.idx (.var 1) (.int 1)))) (.cons (.bin .Sub (.bin .Mult (.idx (.var 0) (.int 2)) (.idx (.var 1) (.int 0))) (.bin .Mult (.idx (.var 0) (.int 0)) (.idx (.var 1) (.int 2)))) (.cons (.bin .Sub (.bin .Mult (.idx (.var 0) (.int 0)) (.idx (.var 1) (.int 1))) (.bin .Mult (.idx (.var 0) (.int 1)) (.idx (.var 1) (.int 0)))) .nil))))) .nil))⟩
def Up(Γ:Gam):Prop:=∀ a b:R3,B3 a->B3 b->a≠b->Γ.F 23 [Aj Aa a,Aj Aa b]=.ok (Aj Aa (crs a b))
theorem T2(Γ:Gam)(a b:R3)(ha:B3 a)(hb:B3 b)(ne:a≠b):OE.run Γ [Aj Aa a,Aj Aa b]=.ok (Aj Aa (crs a b)):=by
 obtain⟨x0,x1,x2⟩:=GS Aa a;obtain⟨y0,y1,y2⟩:=GS Aa b;have k:∀ {u v},Bd 300 u->Bd 300 v->E8 u v=Aa:=fun hu hv=>GU hu hv (by decide) (by decide)
 have f:∀ r:R3,flD 5 (Aj Aa r)=Aa:=fun _=>rfl
 have e:eqD (Aj Aa a) (Aj Aa b)=Ad:=by rw[U3];exact CD ne
 simp[OE,Df.run,BH,f,e,x0,x1,x2,y0,y1,y2,k ha.2.1 hb.2.2,k ha.2.2 hb.2.1,k ha.2.2 hb.1,k ha.1 hb.2.2,k ha.1 hb.2.1,k ha.2.1 hb.1];rfl
noncomputable def NE:Df:=⟨1,Ad,(.cons (.ret (.tup (.cons (.call 23 (.cons (.idx (.var 0) (.int 1)) (.cons (.idx (.var 0) (.int 2)) .nil))) (.cons (.call 23 (.cons (.idx (.var 0) (.int 2)) (.cons (.idx (.var 0) (.int 0)) .nil))) (.cons (.call 23 (.cons (.idx (.var 0) (.int 0)) (.cons (.idx (.var 0) (.int 1)) .nil))) .nil))))) .nil)⟩
def Uo(Γ:Gam):Prop:=∀ a b c:R3,B3 a->B3 b->B3 c->a≠b->b≠c->c≠a->Γ.F 98 [DD Aa Aa a b c]=.ok (DD Aa Aa (crs b c) (crs c a) (crs a b))
theorem iG(h:Up Γ)(a b c:R3)(ha:B3 a)(hb:B3 b)(hc:B3 c)(n1:a≠b)(n2:b≠c)(n3:c≠a):NE.run Γ [DD Aa Aa a b c]=.ok (DD Aa Aa (crs b c) (crs c a) (crs a b)):=by
 obtain⟨r0,r1,r2⟩:=QN Aa Aa a b c;simp[NE,Df.run,BH,r0,r1,r2,h b c hb hc n2,h c a hc ha n3,h a b ha hb n1];rfl
def L0(Γ:Gam):Prop:=∀(p:Ae)(t q:Ao)(a b c:R3),P4 p->B3 a->B3 b->B3 c->Am a b c%p≠0->∀ l u,AW p (nine a b c)=Ab l->DV p l u->Γ.F 78 [.int p,DD t q a b c]=.ok (Bc (fmR p u a) (fmR p u b) (fmR p u c))
theorem nK(hm:KN Γ)(hf:LS Γ)(p:Ae)(t q:Ao)(a b c:R3)(hp:P4 p)(ha:B3 a)(hb:B3 b)(hc:B3 c)(z:Am a b c%p≠0)(l u:Ae)(e:AW p (nine a b c)=Ab l)(it:DV p l u):Om.run Γ [.int p,DD t q a b c]=.ok (Bc (fmR p u a) (fmR p u b) (fmR p u c)):=by
 obtain⟨r0,r1,r2⟩:=QN t q a b c;have m:=hm p q a b c hp.pos ha hb hc;have f:=hf p Ad (nine a b c) l u hp e it;rw[TW]at f;have f':Γ.F 17 [.int p,.lst (ds (nine a b c))]=.ok (.tup (ds (nine (fmR p u a) (fmR p u b) (fmR p u c)))):=f;obtain⟨x1,x2⟩:=dE a b c;obtain⟨y1,y2,y3⟩:=Yz (fmR p u a) (fmR p u b) (fmR p u c);simp[Om,Df.run,BH,r0,r1,r2,m,z,pS,x1,x2,f',y1,y2,y3,slE];rfl
noncomputable def NZ:Df:=⟨2,Ad,(.cons (.ret (.call 78 (.cons (.var 0) (.cons (.call 104 (.cons (.call 98 (.cons (.var 1) .nil)) .nil)) .nil)))) .nil)⟩
noncomputable def bk0(a b c:R3):R3:=BA (crs b c) (crs c a) (crs a b)
noncomputable def bk1(a b c:R3):R3:=BG (crs b c) (crs c a) (crs a b)
noncomputable def bk2(a b c:R3):R3:=BF (crs b c) (crs c a) (crs a b)
def P8(Γ:Gam):Prop:=∀(p:Ae)(a b c:R3),P4 p->In3 p a->In3 p b->In3 p c->Am a b c%p≠0->∀ l u,AW p (nine (bk0 a b c) (bk1 a b c) (bk2 a b c))=Ab l->DV p l u->Γ.F 106 [.int p,Bc a b c]=.ok (Bc (fmR p u (bk0 a b c)) (fmR p u (bk1 a b c)) (fmR p u (bk2 a b c)))
theorem J8{x:Ae}(hp:P4 p)(h0:0<=x)(h1:x<p):Bd 10 x:=by
 unfold Bd;have:=hp.hi;omega
theorem Bd.mono{x:Ae}(h:Bd m x)(hm:m<=n):Bd n x:=AD h (Go (by decide) hm)
def Bn(n:Ag)(a:R3):Prop:=Bd n a.1/\Bd n a.2.1/\Bd n a.2.2
theorem Bn.b3(h:Bn n a)(hn:n<=300):B3 a:=⟨h.1.mono hn,h.2.1.mono hn,h.2.2.mono hn⟩
theorem Ci(hp:P4 p)(h:In3 p a):Bn 10 a:=⟨J8 hp h.1.1 h.1.2,J8 hp h.2.1.1 h.2.1.2,J8 hp h.2.2.1 h.2.2.2⟩
theorem Nh{a b:R3}(ha:Bn n a)(hb:Bn n b):Bn (n+n+1) (crs a b):=
 ⟨(ha.2.1.mul hb.2.2).sub (ha.2.2.mul hb.2.1),(ha.2.2.mul hb.1).sub (ha.1.mul hb.2.2),(ha.1.mul hb.2.1).sub (ha.2.1.mul hb.1)⟩
theorem Qv{a b c:R3}(ha:Bn n a)(hb:Bn n b)(hc:Bn n c):Bn n (BA a b c)/\Bn n (BG a b c)/\Bn n (BF a b c):=⟨⟨ha.1,hb.1,hc.1⟩,⟨ha.2.1,hb.2.1,hc.2.1⟩,⟨ha.2.2,hb.2.2,hc.2.2⟩⟩
theorem sM{a b c:R3}(z:Am a b c%p≠0):a≠b/\b≠c/\c≠a:=by
 refine⟨fun e=>z ?_,fun e=>z ?_,fun e=>z ?_⟩
 ·subst e;rw[show Am a a c=0 by unfold Am det;grind,A5]
 ·subst e;rw[show Am a b b=0 by unfold Am det;grind,A5]
 ·subst e;rw[show Am c b c=0 by unfold Am det;grind,A5]
theorem Ik(a b c:R3):Am (bk0 a b c) (bk1 a b c) (bk2 a b c)=Am a b c*Am a b c:=by
 unfold Am det bk0 bk1 bk2 BA BG BF crs;grind
theorem mM(h1:Uo Γ)(h2:M2 Γ)(h3:L0 Γ)(p:Ae)(a b c:R3)(hp:P4 p)(ha:In3 p a)(hb:In3 p b)(hc:In3 p c)(z:Am a b c%p≠0)(l u:Ae)(e:AW p (nine (bk0 a b c) (bk1 a b c) (bk2 a b c))=Ab l)(it:DV p l u):NZ.run Γ [.int p,Bc a b c]=.ok (Bc (fmR p u (bk0 a b c)) (fmR p u (bk1 a b c)) (fmR p u (bk2 a b c))):=by
 have ba:=Ci hp ha;have bb:=Ci hp hb;have bc:=Ci hp hc;obtain⟨n1,n2,n3⟩:=sM z;have e1:Γ.F 98 [Bc a b c]=.ok (DD Aa Aa (crs b c) (crs c a) (crs a b)):=h1 a b c (ba.b3 (by decide)) (bb.b3 (by decide)) (bc.b3 (by decide)) n1 n2 n3
 have e2:=h2 Aa Aa (crs b c) (crs c a) (crs a b);obtain⟨c0,c1,c2⟩:=Qv (Nh bb bc) (Nh bc ba) (Nh ba bb);have z2:Am (bk0 a b c) (bk1 a b c) (bk2 a b c)%p≠0:=by rw[Ik];exact Bm hp z z
 have e3:Γ.F 78 [.int p,DD Aa Aa (BA (crs b c) (crs c a) (crs a b)) (BG (crs b c) (crs c a) (crs a b)) (BF (crs b c) (crs c a) (crs a b))]=.ok (Bc (fmR p u (bk0 a b c)) (fmR p u (bk1 a b c)) (fmR p u (bk2 a b c))):=h3 p Aa Aa _ _ _ hp (c0.b3 (by decide)) (c1.b3 (by decide)) (c2.b3 (by decide)) z2 l u e it
 simp[NZ,Df.run,BH,e1,e2,e3]
noncomputable def mlR(p:Ae)(x a b c:R3):R3:=(Ar (BA a b c) x%p,Ar (BG a b c) x%p,Ar (BF a b c) x%p)
noncomputable def Mx:E:=(.call 91 (.cons (.var 0) (.cons (.var 3) (.cons (.var 4) .nil))))
noncomputable def O8:Df:=⟨5,Ad,(.cons (.asg 3 Ad (.call 104 (.cons (.var 2) .nil))) (.cons (.ret (.call 78 (.cons (.var 0) (.cons (.comp Mx 4 (.e (.var 1)) CB) .nil)))) .nil))⟩
def Ub(Γ:Gam):Prop:=∀(p:Ae)(x y z a b c:R3),P4 p->In3 p x->In3 p y->In3 p z->In3 p a->In3 p b->In3 p c->Am (mlR p x a b c) (mlR p y a b c) (mlR p z a b c)%p≠0->∀ l u,AW p (nine (mlR p x a b c) (mlR p y a b c) (mlR p z a b c))=Ab l->DV p l u ->
 Γ.F 105 [.int p,Bc x y z,Bc a b c]=.ok (Bc (fmR p u (mlR p x a b c)) (fmR p u (mlR p y a b c)) (fmR p u (mlR p z a b c)))
theorem Qo(hp:0<p)(x a b c:R3):In3 p (mlR p x a b c):=⟨⟨A9 _ (by omega),A7 _ hp⟩,⟨A9 _ (by omega),A7 _ hp⟩,⟨A9 _ (by omega),A7 _ hp⟩⟩
theorem iI(h2:M2 Γ)(hs:M0 Γ)(h3:L0 Γ)(p:Ae)(x y z a b c:R3)(hp:P4 p)(hx:In3 p x)(hy:In3 p y)(hz:In3 p z)(ha:In3 p a)(hb:In3 p b)(hc:In3 p c)(nz:Am (mlR p x a b c) (mlR p y a b c) (mlR p z a b c)%p≠0)(l u:Ae)(e:AW p (nine (mlR p x a b c) (mlR p y a b c) (mlR p z a b c))=Ab l)(it:DV p l u):O8.run Γ [.int p,Bc x y z,Bc a b c]=.ok (Bc (fmR p u (mlR p x a b c)) (fmR p u (mlR p y a b c)) (fmR p u (mlR p z a b c))):=by
 have p0:=hp.pos;have e1:Γ.F 104 [Bc a b c]=.ok (DD Aa Aa (BA a b c) (BG a b c) (BF a b c)):=h2 Aa Aa a b c;obtain⟨c0,c1,c2⟩:=Qv (Ci hp ha) (Ci hp hb) (Ci hp hc);have es:∀ r:R3,In3 p r->Γ.F 91 [.int p,DD Aa Aa (BA a b c) (BG a b c) (BF a b c),Aj Aa r]=.ok (Aj Aa (mlR p r a b c)):=fun r hr=>hs p Aa Aa Aa _ _ _ r p0 (c0.b3 (by decide)) (c1.b3 (by decide)) (c2.b3 (by decide)) ((Ci hp hr).b3 (by decide))
 have key:∀ r:R3,In3 p r->cF Γ [si p,sh (Bc x y z),sh (Bc a b c),sh (DD Aa Aa (BA a b c) (BG a b c) (BF a b c)),Af] 4 Mx (Aj Aa r)=.ok (Aj Aa (mlR p r a b c)):=fun r hr=>by
  simp[cF,Mx,es r hr]
 have g:∀ r,cG Γ [si p,sh (Bc x y z),sh (Bc a b c),sh (DD Aa Aa (BA a b c) (BG a b c) (BF a b c)),Af] 4 CB r=.ok Aa:=fun _=>rfl
 have sq:Cc (Bc x y z)=.ok [Aj Aa x,Aj Aa y,Aj Aa z]:=rfl;have cp:BJ (cG Γ [si p,sh (Bc x y z),sh (Bc a b c),sh (DD Aa Aa (BA a b c) (BG a b c) (BF a b c)),Af] 4 CB) (cF Γ [si p,sh (Bc x y z),sh (Bc a b c),sh (DD Aa Aa (BA a b c) (BG a b c) (BF a b c)),Af] 4 Mx) [Aj Aa x,Aj Aa y,Aj Aa z]=.ok [Aj Aa (mlR p x a b c),Aj Aa (mlR p y a b c),Aj Aa (mlR p z a b c)]:=by
  simp[BJ,g,key x hx,key y hy,key z hz]
 have e3:Γ.F 78 [.int p,.lst [Aj Aa (mlR p x a b c),Aj Aa (mlR p y a b c),Aj Aa (mlR p z a b c)]]=.ok (Bc (fmR p u (mlR p x a b c)) (fmR p u (mlR p y a b c)) (fmR p u (mlR p z a b c))):=
  h3 p Ad Aa _ _ _ hp ((Ci hp (Qo p0 x a b c)).b3 (by decide)) ((Ci hp (Qo p0 y a b c)).b3 (by decide)) ((Ci hp (Qo p0 z a b c)).b3 (by decide)) nz l u e it
 simp[O8,Df.run,BH,e1,sq,cp,e3]
noncomputable def Ot:E:=(.bin .Mult (.var 0) (.var 2))
noncomputable def OW:Df:=⟨3,Ad,(.cons (.ret (.comp Ot 2 (.e (.var 1)) CB)) .nil)⟩
def dF(Γ:Gam):Prop:=∀(k:Ae)(a:R3),0<=k->k<100->Γ.F 110 [.int k,Aj Aa a]=.ok (Aj Ad (k*a.1,k*a.2.1,k*a.2.2))
theorem cX(Γ:Gam)(k:Ae)(a:R3)(h0:0<=k)(h1:k<100):OW.run Γ [.int k,Aj Aa a]=.ok (Aj Ad (k*a.1,k*a.2.1,k*a.2.2)):=by
 have m:∀ x,Ei k x=Aa:=fun x=>HI (by omega) (by omega)
 have key:∀ x:Ae,cF Γ [si k,sh (Aj Aa a),Af] 2 Ot (.int x)=.ok (.int (k*x)):=fun x=>by
  simp[cF,Ot,m]
 have g:∀ x,cG Γ [si k,sh (Aj Aa a),Af] 2 CB x=.ok Aa:=fun _=>rfl
 simp[OW,Df.run,BH,Nc,BJ,g,key];rfl
noncomputable def Do(a b c d:R3):D:=.lst [Aj Aa a,Aj Aa b,Aj Aa c,Aj Aa d]
noncomputable def AF(k:Ae)(a:R3):R3:=(k*a.1,k*a.2.1,k*a.2.2)
theorem kD(a b c d:R3):BW (Do a b c d) (.int 0)=.ok (Aj Aa a)/\BW (Do a b c d) (.int 1)=.ok (Aj Aa b)/\BW (Do a b c d) (.int 2)=.ok (Aj Aa c)/\BW (Do a b c d) (.int 3)=.ok (Aj Aa d):=⟨rfl,rfl,rfl,rfl⟩
noncomputable def Oc:Df:=⟨3,Ad,(.cons (.asg 2 Ad (.tup (.cons (.call 110 (.cons (.call 61 (.cons (.var 0) (.cons (.idx (.var 1) (.int 3)) (.cons (.idx (.var 1) (.int 1)) (.cons (.idx (.var 1) (.int 2)) .nil))))) (.cons (.idx (.var 1) (.int 0)) .nil))) (.cons (.call 110 (.cons (.call 61 (.cons (.var 0) (.cons (.idx (.var 1) (.int 0)) (.cons (.idx (.var 1) (.int 3)) (.cons (.idx (.var 1) (.int 2)) .nil))))) (.cons (.idx (.var 1) (.int 1)) .nil))) (.cons (.call 110 (.cons (.call 61 (.cons (.var 0) (.cons (.idx (.var 1) (.int 0)) (.cons (.idx (.var 1) (.int 1)) (.cons (.idx (.var 1) (.int 3)) .nil))))) (.cons (.idx (.var 1) (.int 2)) .nil))) .nil))))) (.cons (.ret (.call 78 (.cons (.var 0) (.cons (.call 104 (.cons (.var 2) .nil)) .nil)))) .nil))⟩
noncomputable def fk0(p:Ae)(a b c d:R3):Ae:=Am d b c%p
noncomputable def fk1(p:Ae)(a b c d:R3):Ae:=Am a d c%p
noncomputable def fk2(p:Ae)(a b c d:R3):Ae:=Am a b d%p
noncomputable def fs0(p:Ae)(a b c d:R3):R3:=AF (fk0 p a b c d) a
noncomputable def fs1(p:Ae)(a b c d:R3):R3:=AF (fk1 p a b c d) b
noncomputable def fs2(p:Ae)(a b c d:R3):R3:=AF (fk2 p a b c d) c
noncomputable def fr0(p:Ae)(a b c d:R3):R3:=BA (fs0 p a b c d) (fs1 p a b c d) (fs2 p a b c d)
noncomputable def fr1(p:Ae)(a b c d:R3):R3:=BG (fs0 p a b c d) (fs1 p a b c d) (fs2 p a b c d)
noncomputable def fr2(p:Ae)(a b c d:R3):R3:=BF (fs0 p a b c d) (fs1 p a b c d) (fs2 p a b c d)
def Q2(Γ:Gam):Prop:=∀(p:Ae)(a b c d:R3),P4 p->In3 p a->In3 p b->In3 p c->In3 p d->Am (fr0 p a b c d) (fr1 p a b c d) (fr2 p a b c d)%p≠0->∀ l u,AW p (nine (fr0 p a b c d) (fr1 p a b c d) (fr2 p a b c d))=Ab l->DV p l u ->
 Γ.F 111 [.int p,Do a b c d]=.ok (Bc (fmR p u (fr0 p a b c d)) (fmR p u (fr1 p a b c d)) (fmR p u (fr2 p a b c d)))
theorem QE(hk:Bd n k)(ha:Bn m a):Bn (n+m) (AF k a):=⟨hk.mul ha.1,hk.mul ha.2.1,hk.mul ha.2.2⟩
theorem Y1(hm:KN Γ)(hs:dF Γ)(h2:M2 Γ)(h3:L0 Γ)(p:Ae)(a b c d:R3)(hp:P4 p)(ha:In3 p a)(hb:In3 p b)(hc:In3 p c)(hd:In3 p d)(z:Am (fr0 p a b c d) (fr1 p a b c d) (fr2 p a b c d)%p≠0)(l u:Ae)(e:AW p (nine (fr0 p a b c d) (fr1 p a b c d) (fr2 p a b c d))=Ab l)(it:DV p l u):Oc.run Γ [.int p,Do a b c d]=.ok (Bc (fmR p u (fr0 p a b c d)) (fmR p u (fr1 p a b c d)) (fmR p u (fr2 p a b c d))):=by
 have p0:=hp.pos;have ph:=hp.hi;have ba:=(Ci hp ha).b3 (by decide)
 have bb:=(Ci hp hb).b3 (by decide)
 have bc:=(Ci hp hc).b3 (by decide)
 have bd:=(Ci hp hd).b3 (by decide)
 obtain⟨x0,x1,x2,x3⟩:=kD a b c d;have m0:=hm p Aa d b c p0 bd bb bc;have m1:=hm p Aa a d c p0 ba bd bc;have m2:=hm p Aa a b d p0 ba bb bd;have k0:0<=Am d b c%p/\Am d b c%p<p:=⟨A9 _ (by omega),A7 _ p0⟩
 have k1:0<=Am a d c%p/\Am a d c%p<p:=⟨A9 _ (by omega),A7 _ p0⟩
 have k2:0<=Am a b d%p/\Am a b d%p<p:=⟨A9 _ (by omega),A7 _ p0⟩
 have s0:Γ.F 110 [.int (Am d b c%p),Aj Aa a]=.ok (Aj Ad (AF (Am d b c%p) a)):=hs (Am d b c%p) a k0.1 (by omega)
 have s1:Γ.F 110 [.int (Am a d c%p),Aj Aa b]=.ok (Aj Ad (AF (Am a d c%p) b)):=hs (Am a d c%p) b k1.1 (by omega)
 have s2:Γ.F 110 [.int (Am a b d%p),Aj Aa c]=.ok (Aj Ad (AF (Am a b d%p) c)):=hs (Am a b d%p) c k2.1 (by omega)
 have e2:Γ.F 104 [.tup [Aj Ad (AF (Am d b c%p) a),Aj Ad (AF (Am a d c%p) b),Aj Ad (AF (Am a b d%p) c)]]=.ok (DD Aa Aa (fr0 p a b c d) (fr1 p a b c d) (fr2 p a b c d)):=h2 Aa Ad _ _ _;obtain⟨c0,c1,c2⟩:=Qv (QE (J8 hp k0.1 k0.2) (Ci hp ha)) (QE (J8 hp k1.1 k1.2) (Ci hp hb)) (QE (J8 hp k2.1 k2.2) (Ci hp hc));have e3:=h3 p Aa Aa (fr0 p a b c d) (fr1 p a b c d) (fr2 p a b c d) hp (c0.b3 (by decide)) (c1.b3 (by decide)) (c2.b3 (by decide)) z l u e it
 simp[Oc,Df.run,BH,x0,x1,x2,x3,m0,m1,m2,s0,s1,s2,e2,e3]
noncomputable def Rs:Ss:=(.cons (.ife (.cmp .Eq (.call 61 (.cons (.var 0) (.cons (.var 3) (.cons (.idx (.var 1) (.var 4)) (.cons (.idx (.var 1) (.var 5)) .nil))))) (.int 0)) (.cons (.ret (.tup (.cons (.var 3) (.cons (.idx (.var 1) (.var 4)) (.cons (.idx (.var 1) (.var 5)) .nil))))) .nil) .nil) .nil)
noncomputable def Rr:Ss:=(.cons (.fors 5 (.rng2 (.bin .Add (.var 4) (.int 1)) (.bi .len (.cons (.var 1) .nil))) Rs) .nil)
noncomputable def Ro:Ss:=(.cons (.fors 4 (.rng2 (.bin .Add (.var 2) (.int 1)) (.bi .len (.cons (.var 1) .nil))) Rr) .nil)
noncomputable def LC:Df:=⟨6,Ad,(.cons (.forT [2,3] (.enm (.var 1)) Ro) (.cons (.ret .non) .nil))⟩
noncomputable def Mt:Df:=⟨3,Ad,(.cons (.asg 2 Ad (.call 65 (.cons (.var 0) (.cons (.var 1) .nil)))) (.cons (.ife (.cmp .IsNot (.var 2) .non) (.cons (.rais 18 (.cons (.var 2) .nil)) .nil) .nil) .nil))⟩
theorem bD(p:Ae)(a b c d:D){m0 m1 m2 m3:Ae}(h0:Γ.F 61 [.int p,a,b,c]=.ok (.int m0))(h1:Γ.F 61 [.int p,a,b,d]=.ok (.int m1))(h2:Γ.F 61 [.int p,a,c,d]=.ok (.int m2))(h3:Γ.F 61 [.int p,b,c,d]=.ok (.int m3))(n0:m0≠0)(n1:m1≠0)(n2:m2≠0)(n3:m3≠0):LC.run Γ [.int p,.lst [a,b,c,d]]=.ok .non:=by
 have x0:D0 [a,b,c,d] 0=.ok a:=rfl;have x1:D0 [a,b,c,d] 1=.ok b:=rfl;have x2:D0 [a,b,c,d] 2=.ok c:=rfl;have x3:D0 [a,b,c,d] 3=.ok d:=rfl;have r14:Dt 1 4=.ok [.int 1,.int 2,.int 3]:=rfl;have r24:Dt 2 4=.ok [.int 2,.int 3]:=rfl;have r34:Dt 3 4=.ok [.int 3]:=rfl;have r44:Dt 4 4=.ok []:=rfl;simp[LC,Df.run,BH,Hl,CS,CJ,Ng,Rs,Rr,Ro,GA,x0,x1,x2,x3,r14,r24,r34,r44,h0,h1,h2,h3,n0,n1,n2,n3]
def Hj(p:Ae)(a b c d:R3):Prop:=Am a b c%p≠0/\Am a b d%p≠0/\Am a c d%p≠0/\Am b c d%p≠0
def VZ(Γ:Gam):Prop:=∀(p:Ae)(a b c d:R3),P4 p->In3 p a->In3 p b->In3 p c->In3 p d->Hj p a b c d->Γ.F 109 [.int p,Do a b c d]=.ok .non
def SM(Γ:Gam):Prop:=∀(p:Ae)(a b c d:R3),P4 p->In3 p a->In3 p b->In3 p c->In3 p d->Hj p a b c d->Γ.F 65 [.int p,Do a b c d]=.ok .non
theorem iF(hm:KN Γ)(p:Ae)(a b c d:R3)(hp:P4 p)(ha:In3 p a)(hb:In3 p b)(hc:In3 p c)(hd:In3 p d)(h:Hj p a b c d):LC.run Γ [.int p,Do a b c d]=.ok .non:=by
 have p0:=hp.pos;have ba:=(Ci hp ha).b3 (by decide)
 have bb:=(Ci hp hb).b3 (by decide)
 have bc:=(Ci hp hc).b3 (by decide)
 have bd:=(Ci hp hd).b3 (by decide)
 exact bD p _ _ _ _ (hm p Aa a b c p0 ba bb bc) (hm p Aa a b d p0 ba bb bd) (hm p Aa a c d p0 ba bc bd) (hm p Aa b c d p0 bb bc bd) h.1 h.2.1 h.2.2.1 h.2.2.2
theorem vD(hf:SM Γ)(p:Ae)(a b c d:R3)(hp:P4 p)(ha:In3 p a)(hb:In3 p b)(hc:In3 p c)(hd:In3 p d)(h:Hj p a b c d):Mt.run Γ [.int p,Do a b c d]=.ok .non:=by
 have e:=hf p a b c d hp ha hb hc hd h;simp[Mt,Df.run,BH,e]
noncomputable def LF:Df:=⟨3,Ad,(.cons (.ife (.or (.cons (.cmp .NotEq (.bi .len (.cons (.var 1) .nil)) (.int 4)) (.cons (.cmp .NotEq (.bi .len (.cons (.var 2) .nil)) (.int 4)) .nil))) (.cons (.rais 13 (.cons (.str (Aq "a frame has four points")) .nil)) .nil) .nil) (.cons (.expr (.call 109 (.cons (.var 0) (.cons (.var 1) .nil)))) (.cons (.expr (.call 109 (.cons (.var 0) (.cons (.var 2) .nil)))) (.cons (.ret (.call 105 (.cons (.var 0) (.cons (.call 111 (.cons (.var 0) (.cons (.var 2) .nil))) (.cons (.call 106 (.cons (.var 0) (.cons (.call 111 (.cons (.var 0) (.cons (.var 1) .nil))) .nil))) .nil))))) .nil))))⟩
theorem nS{a b c d a' b' c' d':R3}{M N B R:D}(e1:Γ.F 109 [.int p,Do a b c d]=.ok .non)(e2:Γ.F 109 [.int p,Do a' b' c' d']=.ok .non)(e3:Γ.F 111 [.int p,Do a' b' c' d']=.ok N)(e4:Γ.F 111 [.int p,Do a b c d]=.ok M)(e5:Γ.F 106 [.int p,M]=.ok B)(e6:Γ.F 105 [.int p,N,B]=.ok R):LF.run Γ [.int p,Do a b c d,Do a' b' c' d']=.ok R:=by
 have l1:biD .len [Do a b c d]=.ok (.int 4):=rfl;have l2:biD .len [Do a' b' c' d']=.ok (.int 4):=rfl;simp[LF,Df.run,BH,l1,l2,e1,e2,e3,e4,e5,e6]
def CgR(p:Ae)(x y:R3):Prop:=Cg p x.1 y.1/\Cg p x.2.1 y.2.1/\Cg p x.2.2 y.2.2
section
variable{p:Ae}{a b c a' b' c' x y z x':R3}{k l m k':Ae}
theorem CgR.rfl:CgR p a a:=⟨Cg.rfl,Cg.rfl,Cg.rfl⟩
theorem CgR.of(h:a=b):CgR p a b:=by rw[h];exact CgR.rfl
theorem CgR.trans(h:CgR p a b)(g:CgR p b c):CgR p a c:=⟨h.1.trans g.1,h.2.1.trans g.2.1,h.2.2.trans g.2.2⟩
theorem CgR.symm(h:CgR p a b):CgR p b a:=⟨h.1.symm,h.2.1.symm,h.2.2.symm⟩
theorem CgR.sc(hk:Cg p k k')(h:CgR p a b):CgR p (AF k a) (AF k' b):=⟨hk.mul h.1,hk.mul h.2.1,hk.mul h.2.2⟩
theorem IR(ha:CgR p a a')(hb:CgR p b b')(hc:CgR p c c'):Cg p (Am a b c) (Am a' b' c'):=by
 unfold Am det;exact UC ha.1 ha.2.1 ha.2.2 hb.1 hb.2.1 hb.2.2 hc.1 hc.2.1 hc.2.2
theorem FI(ha:CgR p a a')(hb:CgR p b b'):Cg p (Ar a b) (Ar a' b'):=((ha.1.mul hb.1).add (ha.2.1.mul hb.2.1)).add (ha.2.2.mul hb.2.2)
theorem MZ(ha:CgR p a a')(hb:CgR p b b')(hc:CgR p c c'):CgR p (BA a b c) (BA a' b' c')/\CgR p (BG a b c) (BG a' b' c')/\CgR p (BF a b c) (BF a' b' c'):=⟨⟨ha.1,hb.1,hc.1⟩,⟨ha.2.1,hb.2.1,hc.2.1⟩,⟨ha.2.2,hb.2.2,hc.2.2⟩⟩
theorem L7(ha:CgR p a a')(hb:CgR p b b'):CgR p (crs a b) (crs a' b'):=
 ⟨(ha.2.1.mul hb.2.2).sub (ha.2.2.mul hb.2.1),(ha.2.2.mul hb.1).sub (ha.1.mul hb.2.2),(ha.1.mul hb.2.1).sub (ha.2.1.mul hb.1)⟩
theorem VM(ha:CgR p a a')(hb:CgR p b b')(hc:CgR p c c'):CgR p (bk0 a b c) (bk0 a' b' c')/\CgR p (bk1 a b c) (bk1 a' b' c')/\CgR p (bk2 a b c) (bk2 a' b' c'):=MZ (L7 hb hc) (L7 hc ha) (L7 ha hb)
theorem Ew(p t:Ae)(a:R3):CgR p (fmR p t a) (AF t a):=by
 have key:∀ x:Ae,Cg p (t*(x%p)%p) (t*x):=fun x=>(Cg.md _root_.rfl).trans (Cg.rfl.mul (Cg.md _root_.rfl))
 exact⟨key _,key _,key _⟩
noncomputable def rm(a x y z:R3):R3:=(Ar (BA x y z) a,Ar (BG x y z) a,Ar (BF x y z) a)
theorem xP(p:Ae)(a x y z:R3):CgR p (mlR p a x y z) (rm a x y z):=⟨Cg.md _root_.rfl,Cg.md _root_.rfl,Cg.md _root_.rfl⟩
theorem wY{z':R3}(ha:CgR p a a')(hx:CgR p x x')(hy:CgR p y y')(hz:CgR p z z'):CgR p (rm a x y z) (rm a' x' y' z'):=by
 obtain⟨c0,c1,c2⟩:=MZ hx hy hz;exact⟨FI c0 ha,FI c1 ha,FI c2 ha⟩
noncomputable def ap(a b c x:R3):R3:=(Ar a x,Ar b x,Ar c x)
theorem Qa(a b c x y z:R3):Am (ap a b c x) (ap a b c y) (ap a b c z)=Am a b c*Am x y z:=by
 unfold Am det ap Ar;grind
theorem J7(k l m:Ae)(x y z:R3):Am (AF k x) (AF l y) (AF m z)=k*l*m*Am x y z:=by
 unfold Am det AF;grind
theorem HQ(k l:Ae)(x:R3):AF k (AF l x)=AF (k*l) x:=by
 unfold AF;simp only[F3]
theorem V5(a b c x:R3)(k:Ae):ap a b c (AF k x)=AF k (ap a b c x):=by
 unfold ap AF Ar;refine Bl ?_ (Bl ?_ ?_)<;>(simp only;grind)
theorem wX(k:Ae)(a x y z:R3):rm (AF k a) x y z=AF k (rm a x y z):=by
 unfold rm AF Ar BA BG BF;refine Bl ?_ (Bl ?_ ?_)<;>(simp only;grind)
theorem nG(k:Ae)(a x y z:R3):rm a (AF k x) (AF k y) (AF k z)=AF k (rm a x y z):=by
 unfold rm AF Ar BA BG BF;refine Bl ?_ (Bl ?_ ?_)<;>(simp only;grind)
theorem VL(k:Ae)(x y z:R3):bk0 (AF k x) (AF k y) (AF k z)=AF (k*k) (bk0 x y z)/\bk1 (AF k x) (AF k y) (AF k z)=AF (k*k) (bk1 x y z)/\bk2 (AF k x) (AF k y) (AF k z)=AF (k*k) (bk2 x y z):=by
 unfold bk0 bk1 bk2 AF BA BG BF crs;refine⟨?_,?_,?_⟩<;>refine Bl ?_ (Bl ?_ ?_)<;>(simp only;grind)
theorem wZ(a x y z:R3):rm (rm a x y z) (bk0 x y z) (bk1 x y z) (bk2 x y z)=AF (Am x y z) a:=by
 unfold rm AF Ar bk0 bk1 bk2 BA BG BF crs Am det;refine Bl ?_ (Bl ?_ ?_)<;>(simp only;grind)
theorem O5(x y z:R3):Am (BA x y z) (BG x y z) (BF x y z)=Am x y z:=by
 unfold Am det BA BG BF;grind
end
theorem Jx(a b:R3):Ar a b=Ar b a:=by unfold Ar;grind
theorem JA{x y:Ae}(h:Cg p x y)(hy:y%p≠0):x%p≠0:=fun z=>hy ((show x%p=y%p from h).symm.trans z)
theorem nz3{x y z:Ae}(hp:P4 p)(hx:x%p≠0)(hy:y%p≠0)(hz:z%p≠0):x*y*z%p≠0:=Bm hp (Bm hp hx hy) hz
section
variable{p:Ae}{a b c f0 f1 f2 f3 g0 g1 g2 g3:R3}{d0 d1 d2 d3:Ae}
theorem KJ(hx:CgR p g0 (AF d0 (ap a b c f0)))(hy:CgR p g1 (AF d1 (ap a b c f1)))(hz:CgR p g2 (AF d2 (ap a b c f2))):Cg p (Am g0 g1 g2) (d0*d1*d2*(Am a b c*Am f0 f1 f2)):=
 (IR hx hy hz).trans (Cg.of (by rw[J7,Qa]))
theorem PR{z w z' w':R3}{k0 k1 k2 k3 K:Ae}(hx:CgR p x' (AF k0 (ap a b c x)))(hy:CgR p y' (AF k1 (ap a b c y)))(hz:CgR p z' (AF k2 (ap a b c z)))(hw:CgR p w' (AF k3 (ap a b c w)))(hK:K=k0*k1*k2*k3*Am a b c):CgR p (AF (Am x' y' z'%p) w') (AF K (ap a b c (AF (Am x y z%p) w))):=by
 have e1:Cg p (Am x' y' z'%p) (k0*k1*k2*(Am a b c*(Am x y z%p))):=((Cg.md rfl).trans (KJ hx hy hz)).trans (Cg.rfl.mul (Cg.rfl.mul (Cg.md rfl).symm));refine(CgR.sc e1 hw).trans (CgR.of ?_);rw[HQ,V5,HQ,hK]
 congr 1
 grind
theorem sE(h0:CgR p g0 (AF d0 (ap a b c f0)))(h1:CgR p g1 (AF d1 (ap a b c f1)))(h2:CgR p g2 (AF d2 (ap a b c f2)))(h3:CgR p g3 (AF d3 (ap a b c f3))):CgR p (fr0 p g0 g1 g2 g3) (AF (d0*d1*d2*d3*Am a b c) (rm a (fr0 p f0 f1 f2 f3) (fr1 p f0 f1 f2 f3) (fr2 p f0 f1 f2 f3)))/\CgR p (fr1 p g0 g1 g2 g3) (AF (d0*d1*d2*d3*Am a b c) (rm b (fr0 p f0 f1 f2 f3) (fr1 p f0 f1 f2 f3) (fr2 p f0 f1 f2 f3)))/\CgR p (fr2 p g0 g1 g2 g3) (AF (d0*d1*d2*d3*Am a b c) (rm c (fr0 p f0 f1 f2 f3) (fr1 p f0 f1 f2 f3) (fr2 p f0 f1 f2 f3))):=by
 have s0:CgR p (fs0 p g0 g1 g2 g3) (AF (d0*d1*d2*d3*Am a b c) (ap a b c (fs0 p f0 f1 f2 f3))):=PR h3 h1 h2 h0 (by grind)
 have s1:CgR p (fs1 p g0 g1 g2 g3) (AF (d0*d1*d2*d3*Am a b c) (ap a b c (fs1 p f0 f1 f2 f3))):=PR h0 h3 h2 h1 (by grind)
 have s2:CgR p (fs2 p g0 g1 g2 g3) (AF (d0*d1*d2*d3*Am a b c) (ap a b c (fs2 p f0 f1 f2 f3))):=PR h0 h1 h3 h2 (by grind)
 obtain⟨c0,c1,c2⟩:=MZ s0 s1 s2;have key:∀ r:R3,rm r (fr0 p f0 f1 f2 f3) (fr1 p f0 f1 f2 f3) (fr2 p f0 f1 f2 f3)=(Ar r (fs0 p f0 f1 f2 f3),Ar r (fs1 p f0 f1 f2 f3),Ar r (fs2 p f0 f1 f2 f3)):=fun r=>by
  rw[Jx r,Jx r,Jx r];rfl
 rw[key a,key b,key c];exact⟨c0,c1,c2⟩
theorem sF(p:Ae)(f0 f1 f2 f3:R3):Am (fr0 p f0 f1 f2 f3) (fr1 p f0 f1 f2 f3) (fr2 p f0 f1 f2 f3)=fk0 p f0 f1 f2 f3*fk1 p f0 f1 f2 f3*fk2 p f0 f1 f2 f3*Am f0 f1 f2:=by
 unfold fr0 fr1 fr2;rw[O5];unfold fs0 fs1 fs2;rw[J7]
theorem Qp{x:Ae}(h:x%p≠0):x%p%p≠0:=by rw[AT _ (Bv p)];exact h
theorem VQ(hp:P4 p)(h:Hj p f0 f1 f2 f3):Am (fr0 p f0 f1 f2 f3) (fr1 p f0 f1 f2 f3) (fr2 p f0 f1 f2 f3)%p≠0:=by
 rw[sF];obtain⟨h1,h2,h3,h4⟩:=h;have k0:Am f3 f1 f2%p≠0:=by rw[show Am f3 f1 f2=Am f1 f2 f3 by unfold Am det;grind];exact h4
 have k1:Am f0 f3 f2%p≠0:=by rw[show Am f0 f3 f2=-1*Am f0 f2 f3 by unfold Am det;grind];exact Bm hp hp.m1 h3
 exact Bm hp (nz3 hp (Qp k0) (Qp k1) (Qp h2)) h1
theorem kK(hp:P4 p)(hD:Am a b c%p≠0)(n0:d0%p≠0)(n1:d1%p≠0)(n2:d2%p≠0)(n3:d3%p≠0)(h0:CgR p g0 (AF d0 (ap a b c f0)))(h1:CgR p g1 (AF d1 (ap a b c f1)))(h2:CgR p g2 (AF d2 (ap a b c f2)))(h3:CgR p g3 (AF d3 (ap a b c f3)))(h:Hj p f0 f1 f2 f3):Hj p g0 g1 g2 g3:=
 ⟨JA (KJ h0 h1 h2) (Bm hp (nz3 hp n0 n1 n2) (Bm hp hD h.1)),JA (KJ h0 h1 h3) (Bm hp (nz3 hp n0 n1 n3) (Bm hp hD h.2.1)),JA (KJ h0 h2 h3) (Bm hp (nz3 hp n0 n2 n3) (Bm hp hD h.2.2.1)),JA (KJ h1 h2 h3) (Bm hp (nz3 hp n1 n2 n3) (Bm hp hD h.2.2.2))⟩
end
theorem kM{a b c x y z:R3}(hp:P4 p)(hk:k%p≠0)(ha:In3 p a)(hb:In3 p b)(hc:In3 p c)(l1:AW p (nine a b c)=Ab 1)(hx:CgR p x (AF k a))(hy:CgR p y (AF k b))(hz:CgR p z (AF k c)):∃ l u,AW p (nine x y z)=Ab l/\DV p l u/\fmR p u x=a/\fmR p u y=b/\fmR p u z=c:=by
 have p1:1<p:=by have:=hp.lo;omega
 have rs:(nine x y z).map (fun x=>x%p)=((nine a b c).map fun x=>k*x).map (fun x=>x%p):=by
  simp only[nine,BQ,FC];rw[show x.1%p=k*a.1%p from hx.1,show x.2.1%p=k*a.2.1%p from hx.2.1,show x.2.2%p=k*a.2.2%p from hx.2.2,show y.1%p=k*b.1%p from hy.1,show y.2.1%p=k*b.2.1%p from hy.2.1,show y.2.2%p=k*b.2.2%p from hy.2.2,show z.1%p=k*c.1%p from hz.1,show z.2.1%p=k*c.2.1%p from hz.2.1,show z.2.2%p=k*c.2.2%p from hz.2.2]
 have it:DV p 1 1:=⟨by decide,p1,by rw[CF,AI (by decide) p1]⟩
 have l0:(1:Ae)%p≠0:=hp.o1;obtain⟨u,iu,eu⟩:=bR hp hk l0 it (f:=fun x=>k*x) (fun _=>rfl) (nine a b c)
 have el:=Jw hp hk (f:=fun x=>k*x) (fun _=>rfl) (nine a b c)
 rw[l1,<-Lz rs]at el;rw[<-Ta rs]at eu;have one:∀ v:Ae,0<=v->v<p->1*(v%p)%p=v:=fun v h0 h1=>by rw[CF,AT _ (Bv p),AI h0 h1]
 have same:fmI p 1 (nine a b c)=nine a b c:=by
  unfold fmI nine;simp only[BQ,FC];rw[one _ ha.1.1 ha.1.2,one _ ha.2.1.1 ha.2.1.2,one _ ha.2.2.1 ha.2.2.2,one _ hb.1.1 hb.1.2,one _ hb.2.1.1 hb.2.1.2,one _ hb.2.2.1 hb.2.2.2,one _ hc.1.1 hc.1.2,one _ hc.2.1.1 hc.2.1.2,one _ hc.2.2.1 hc.2.2.2]
 rw[same,TW]at eu;obtain⟨e1,e2,e3⟩:=bP eu;exact⟨_,u,el,iu,e1,e2,e3⟩
theorem hJ(hk:VZ Γ)(hf:Q2 Γ)(hb:P8 Γ)(ha:Ub Γ){a b c f0 f1 f2 f3 g0 g1 g2 g3:R3}{d0 d1 d2 d3:Ae}(hp:P4 p)(ia:In3 p a)(ib:In3 p b)(ic:In3 p c)(hD:Am a b c%p≠0)(l1:AW p (nine a b c)=Ab 1)(i0:In3 p f0)(i1:In3 p f1)(i2:In3 p f2)(i3:In3 p f3)(hg:Hj p f0 f1 f2 f3)(j0:In3 p g0)(j1:In3 p g1)(j2:In3 p g2)(j3:In3 p g3)(n0:d0%p≠0)(n1:d1%p≠0)(n2:d2%p≠0)(n3:d3%p≠0)(h0:CgR p g0 (AF d0 (ap a b c f0)))(h1:CgR p g1 (AF d1 (ap a b c f1)))(h2:CgR p g2 (AF d2 (ap a b c f2)))(h3:CgR p g3 (AF d3 (ap a b c f3))):LF.run Γ [.int p,Do f0 f1 f2 f3,Do g0 g1 g2 g3]=.ok (Bc a b c):=by
 have p0:=hp.pos;have hg':=kK hp hD n0 n1 n2 n3 h0 h1 h2 h3 hg;have e1:=hk p f0 f1 f2 f3 hp i0 i1 i2 i3 hg;have e2:=hk p g0 g1 g2 g3 hp j0 j1 j2 j3 hg';have zM:=VQ hp hg;have zN:=VQ hp hg';obtain⟨r0,r1,r2⟩:=sE h0 h1 h2 h3
 -- the frames' tables
 obtain⟨lM,eM⟩:=MK zM;obtain⟨v,v1,v2,v3⟩:=HL hp (IP p0 eM).1;have e4:=hf p f0 f1 f2 f3 hp i0 i1 i2 i3 zM lM v eM ⟨v1,v2,v3⟩;obtain⟨lN,eN⟩:=MK zN;obtain⟨u,u1,u2,u3⟩:=HL hp (IP p0 eN).1;have e3:=hf p g0 g1 g2 g3 hp j0 j1 j2 j3 zN lN u eN ⟨u1,u2,u3⟩;have vz:v%p≠0:=by rw[AI (by omega) v2];omega
 have uz:u%p≠0:=by rw[AI (by omega) u2];omega
 generalize fr0 p f0 f1 f2 f3=x at *;generalize fr1 p f0 f1 f2 f3=y at *;generalize fr2 p f0 f1 f2 f3=z at *;generalize fr0 p g0 g1 g2 g3=x' at *;generalize fr1 p g0 g1 g2 g3=y' at *;generalize fr2 p g0 g1 g2 g3=z' at *;have mx:=Ew p v x;have my:=Ew p v y;have mz:=Ew p v z;have kx:In3 p (fmR p v x):=GV p0 v x;have ky:In3 p (fmR p v y):=GV p0 v y;have kz:In3 p (fmR p v z):=GV p0 v z;have zM':Am (fmR p v x) (fmR p v y) (fmR p v z)%p≠0:=JA ((IR mx my mz).trans (Cg.of (J7 v v v x y z))) (Bm hp (nz3 hp vz vz vz) zM);obtain⟨b0,b1,b2⟩:=VM mx my mz;obtain⟨s0,s1,s2⟩:=VL v x y z;rw[s0]at b0;rw[s1]at b1;rw[s2]at b2;have zB:Am (bk0 (fmR p v x) (fmR p v y) (fmR p v z)) (bk1 (fmR p v x) (fmR p v y) (fmR p v z)) (bk2 (fmR p v x) (fmR p v y) (fmR p v z))%p≠0:=by rw[Ik];exact Bm hp zM' zM'
 obtain⟨lB,eB⟩:=MK zB;obtain⟨w,w1,w2,w3⟩:=HL hp (IP p0 eB).1;have wz:w%p≠0:=by rw[AI (by omega) w2];omega
 have e5:=hb p _ _ _ hp kx ky kz zM' lB w eB ⟨w1,w2,w3⟩;generalize bk0 (fmR p v x) (fmR p v y) (fmR p v z)=B0 at *;generalize bk1 (fmR p v x) (fmR p v y) (fmR p v z)=B1 at *;generalize bk2 (fmR p v x) (fmR p v y) (fmR p v z)=B2 at *;have c0:CgR p (fmR p w B0) (AF (w*(v*v)) (bk0 x y z)):=(Ew p w B0).trans ((CgR.sc Cg.rfl b0).trans (CgR.of (HQ _ _ _)));have c1:CgR p (fmR p w B1) (AF (w*(v*v)) (bk1 x y z)):=(Ew p w B1).trans ((CgR.sc Cg.rfl b1).trans (CgR.of (HQ _ _ _)));have c2:CgR p (fmR p w B2) (AF (w*(v*v)) (bk2 x y z)):=(Ew p w B2).trans ((CgR.sc Cg.rfl b2).trans (CgR.of (HQ _ _ _)))
 -- the product
 have row:∀{r t:R3},CgR p t (AF (d0*d1*d2*d3*Am a b c) (rm r x y z))->CgR p (mlR p (fmR p u t) (fmR p w B0) (fmR p w B1) (fmR p w B2)) (AF (w*(v*v)*(u*(d0*d1*d2*d3*Am a b c))*Am x y z) r):=fun {r t} ht=>by
  have q:CgR p (fmR p u t) (AF (u*(d0*d1*d2*d3*Am a b c)) (rm r x y z)):=(Ew p u t).trans ((CgR.sc Cg.rfl ht).trans (CgR.of (HQ _ _ _)));refine(xP p _ _ _ _).trans ((wY q c0 c1 c2).trans (CgR.of ?_));rw[nG,wX,wZ,HQ,HQ]
 have q0:=row r0;have q1:=row r1;have q2:=row r2;have kz':w*(v*v)*(u*(d0*d1*d2*d3*Am a b c))*Am x y z%p≠0:=Bm hp (Bm hp (Bm hp wz (Bm hp vz vz)) (Bm hp uz (Bm hp (Bm hp (nz3 hp n0 n1 n2) n3) hD))) zM;obtain⟨l,t,el,it,f0',f1',f2'⟩:=kM hp kz' ia ib ic l1 q0 q1 q2;have zR:Am (mlR p (fmR p u x') (fmR p w B0) (fmR p w B1) (fmR p w B2)) (mlR p (fmR p u y') (fmR p w B0) (fmR p w B1) (fmR p w B2)) (mlR p (fmR p u z') (fmR p w B0) (fmR p w B1) (fmR p w B2))%p≠0:=JA ((IR q0 q1 q2).trans (Cg.of (J7 _ _ _ a b c))) (Bm hp (nz3 hp kz' kz' kz') hD);have e6:=ha p _ _ _ _ _ _ hp (GV p0 u x') (GV p0 u y') (GV p0 u z') (GV p0 w B0) (GV p0 w B1) (GV p0 w B2) zR l t el it;rw[f0',f1',f2']at e6;exact nS e1 e2 e3 e4 e5 e6
section
variable{Γ:Gam}{ns:Ac Ae}
end
section
variable{Γ:Gam}{ns:Ac Ae}{many s5 s6 s7 s8 s9 s0 s1 s2:Sl}{p:Ae}{a b c:R3}
end
noncomputable def Od:E:=(.call 1 (.cons (.var 0) (.cons (.var 3) .nil)))
noncomputable def On:Df:=⟨4,Ad,(.cons (.asg 2 Ad (.comp Od 3 (.e (.var 1)) CB)) (.cons (.ife (.no (.bi .any (.cons (.var 2) .nil))) (.cons (.rais 5 (.cons (.str (Aq "all six numbers have the rest 0")) .nil)) .nil) .nil) (.cons (.ret (.call 17 (.cons (.var 0) (.cons (.var 2) .nil)))) .nil)))⟩
noncomputable def N4:Df:=⟨1,Ad,(.cons (.ret (.call 122 (.cons (.var 0) (.cons (.tup (.cons (.int 0) (.cons (.int 1) (.cons (.int 0) (.cons (.int 0) (.cons (.un .USub (.int 1)) (.cons (.int 0) .nil))))))) .nil)))) .nil)⟩
theorem OY:∀ xs:Ac Ae,FK (ds xs)=.ok (xs.any fun x=>x != 0)
 |[]=>rfl
 |x::xs=>by
  show (EF (.int x)).bind (fun b=>(FK (ds xs)).bind fun c=>.ok (b||c))=_
  rw[OY xs];rfl
theorem S5{p:Ae}(hp:0<p):∀ xs:Ac Ae,((xs.map fun x=>x%p).any fun x=>x != 0)=(AW p xs).isSome
 |[]=>rfl
 |x::xs=>by
  unfold AW;rw[BQ,Wu];by_cases h:x%p=0
  ·rw[Az h,h,S5 hp xs];rfl
  ·rw[AH h];simp[h]
theorem VD(xs:Ac Ae):(xs.map fun x=>x%p).map (fun x=>x%p)=xs.map fun x=>x%p:=by
 rw[FB];refine EB fun x _=>?_
 show x%p%p=x%p;rw[AT _ (Bv p)]
def Uj(Γ:Gam):Prop:=∀ p:Ae,P4 p->Γ.F 123 [.int p]=.ok (.tup (ds [0,1,0,0,p-1,0]))
def InL(p:Ae)(xs:Ac Ae):Prop:=∀ x∈xs,0<=x/\x<p
theorem InL.set(h:InL p xs)(k:Ag)(h0:0<=v)(h1:v<p):InL p (xs.set k v):=fun x hx=>by
 rcases Fs hx with z|rfl
 ·exact h x z
 ·exact⟨h0,h1⟩
section
variable{Γ:Gam}{ns:Ac Ae}{p at_:Ae}
end
section
variable{Γ:Gam}{ns:Ac Ae}{p t:Ae}
end
structure C6 where
 c0:Ae
 c1:Ae
 c2:Ae
 c3:Ae
 c4:Ae
 c5:Ae
variable{C:C6}
noncomputable def C6.l(C:C6):Ac Ae:=[C.c0,C.c1,C.c2,C.c3,C.c4,C.c5]
noncomputable def AY(C:C6):D:=.tup (ds C.l)
noncomputable def vI(C:C6)(x:R3):Ae:=C.c0*x.1*x.1+C.c1*x.2.1*x.2.1+C.c2*x.2.2*x.2.2+(C.c3*x.1*x.2.1+C.c4*x.1*x.2.2+C.c5*x.2.1*x.2.2)
noncomputable def tw0(C:C6):R3:=(2*C.c0,C.c3,C.c4)
noncomputable def tw1(C:C6):R3:=(C.c3,2*C.c1,C.c5)
noncomputable def tw2(C:C6):R3:=(C.c4,C.c5,2*C.c2)
noncomputable def bI(C:C6)(x y:R3):Ae:=Ar (ap (tw0 C) (tw1 C) (tw2 C) x) y
noncomputable def scC(k:Ae)(C:C6):C6:=⟨k*C.c0,k*C.c1,k*C.c2,k*C.c3,k*C.c4,k*C.c5⟩
def CgC(p:Ae)(C D:C6):Prop:=Cg p C.c0 D.c0/\Cg p C.c1 D.c1/\Cg p C.c2 D.c2/\Cg p C.c3 D.c3/\Cg p C.c4 D.c4/\Cg p C.c5 D.c5
noncomputable def pb(C:C6)(a b c:R3):C6:=⟨vI C (BA a b c),vI C (BG a b c),vI C (BF a b c),bI C (BA a b c) (BG a b c),bI C (BA a b c) (BF a b c),bI C (BG a b c) (BF a b c)⟩
section
variable{p:Ae}{C D E:C6}{a b c a' b' c' x y x' y':R3}{k k':Ae}
theorem C6.ext'(h0:C.c0=D.c0)(h1:C.c1=D.c1)(h2:C.c2=D.c2)(h3:C.c3=D.c3)(h4:C.c4=D.c4)(h5:C.c5=D.c5):C=D:=by
 cases C;cases D;simp_all
theorem CgC.rfl:CgC p C C:=⟨Cg.rfl,Cg.rfl,Cg.rfl,Cg.rfl,Cg.rfl,Cg.rfl⟩
theorem CgC.of(h:C=D):CgC p C D:=by rw[h];exact CgC.rfl
theorem CgC.symm(h:CgC p C D):CgC p D C:=⟨h.1.symm,h.2.1.symm,h.2.2.1.symm,h.2.2.2.1.symm,h.2.2.2.2.1.symm,h.2.2.2.2.2.symm⟩
theorem CgC.trans(h:CgC p C D)(g:CgC p D E):CgC p C E:=⟨h.1.trans g.1,h.2.1.trans g.2.1,h.2.2.1.trans g.2.2.1,h.2.2.2.1.trans g.2.2.2.1,h.2.2.2.2.1.trans g.2.2.2.2.1,h.2.2.2.2.2.trans g.2.2.2.2.2⟩
theorem CgC.sc(hk:Cg p k k')(h:CgC p C D):CgC p (scC k C) (scC k' D):=⟨hk.mul h.1,hk.mul h.2.1,hk.mul h.2.2.1,hk.mul h.2.2.2.1,hk.mul h.2.2.2.2.1,hk.mul h.2.2.2.2.2⟩
theorem IX(h:CgC p C D)(hx:CgR p x x'):Cg p (vI C x) (vI D x'):=
 (((((h.1.mul hx.1).mul hx.1).add ((h.2.1.mul hx.2.1).mul hx.2.1)).add ((h.2.2.1.mul hx.2.2).mul hx.2.2))).add ((((h.2.2.2.1.mul hx.1).mul hx.2.1).add ((h.2.2.2.2.1.mul hx.1).mul hx.2.2)).add ((h.2.2.2.2.2.mul hx.2.1).mul hx.2.2))
theorem L8(h:CgC p C D):CgR p (tw0 C) (tw0 D)/\CgR p (tw1 C) (tw1 D)/\CgR p (tw2 C) (tw2 D):=
 ⟨⟨Cg.rfl.mul h.1,h.2.2.2.1,h.2.2.2.2.1⟩,⟨h.2.2.2.1,Cg.rfl.mul h.2.1,h.2.2.2.2.2⟩,⟨h.2.2.2.2.1,h.2.2.2.2.2,Cg.rfl.mul h.2.2.1⟩⟩
theorem sR(ha:CgR p a a')(hb:CgR p b b')(hc:CgR p c c')(hx:CgR p x x'):CgR p (ap a b c x) (ap a' b' c' x'):=⟨FI ha hx,FI hb hx,FI hc hx⟩
theorem No(h:CgC p C D)(hx:CgR p x x')(hy:CgR p y y'):Cg p (bI C x y) (bI D x' y'):=
 let ⟨t0,t1,t2⟩:=L8 h
 FI (sR t0 t1 t2 hx) hy
theorem VJ(h:CgC p C D)(ha:CgR p a a')(hb:CgR p b b')(hc:CgR p c c'):CgC p (pb C a b c) (pb D a' b' c'):=
 let ⟨s0,s1,s2⟩:=MZ ha hb hc
 ⟨IX h s0,IX h s1,IX h s2,No h s0 s1,No h s0 s2,No h s1 s2⟩
theorem Nf(k l:Ae)(C:C6):scC k (scC l C)=scC (k*l) C:=by
 unfold scC;simp only[F3]
theorem LU(C:C6):scC 1 C=C:=by unfold scC;simp only[CF]
theorem VH(k:Ae)(C:C6)(a b c:R3):pb (scC k C) a b c=scC k (pb C a b c):=by
 unfold pb scC vI bI ap tw0 tw1 tw2 Ar;refine C6.ext' ?_ ?_ ?_ ?_ ?_ ?_<;>(simp only;grind)
theorem qS(k:Ae)(C:C6)(a b c:R3):pb C (AF k a) (AF k b) (AF k c)=scC (k*k) (pb C a b c):=by
 unfold pb scC vI bI ap tw0 tw1 tw2 Ar BA BG BF AF;refine C6.ext' ?_ ?_ ?_ ?_ ?_ ?_<;>(simp only;grind)
theorem PB(C:C6)(x y z:R3)(k l m:Ae):vI C (k*x.1+l*y.1+m*z.1,k*x.2.1+l*y.2.1+m*z.2.1,k*x.2.2+l*y.2.2+m*z.2.2)=k*k*vI C x+l*l*vI C y+m*m*vI C z+(k*l*bI C x y+k*m*bI C x z+l*m*bI C y z):=by
 unfold vI bI ap tw0 tw1 tw2 Ar;simp only;grind
theorem Vj(C:C6)(x y z w:R3)(k l m:Ae):bI C (k*x.1+l*y.1+m*z.1,k*x.2.1+l*y.2.1+m*z.2.1,k*x.2.2+l*y.2.2+m*z.2.2) w=k*bI C x w+l*bI C y w+m*bI C z w:=by
 unfold bI ap tw0 tw1 tw2 Ar;simp only;grind
theorem IT(C:C6)(x y:R3):bI C x y=bI C y x:=by
 unfold bI ap tw0 tw1 tw2 Ar;simp only;grind
theorem IS(C:C6)(x:R3):bI C x x=2*vI C x:=by
 unfold vI bI ap tw0 tw1 tw2 Ar;simp only;grind
theorem xQ(v0 v1 v2 b0 b1 b2:Ae)(u:R3):vI ⟨v0,v1,v2,b0,b1,b2⟩ u=u.1*u.1*v0+u.2.1*u.2.1*v1+u.2.2*u.2.2*v2+(u.1*u.2.1*b0+u.1*u.2.2*b1+u.2.1*u.2.2*b2):=by
 unfold vI;simp only;grind
theorem xR(v0 v1 v2 b0 b1 b2:Ae)(u w:R3):bI ⟨v0,v1,v2,b0,b1,b2⟩ u w=u.1*(w.1*(2*v0)+w.2.1*b0+w.2.2*b1)+u.2.1*(w.1*b0+w.2.1*(2*v1)+w.2.2*b2)+u.2.2*(w.1*b1+w.2.1*b2+w.2.2*(2*v2)):=by
 unfold bI ap tw0 tw1 tw2 Ar;simp only;grind
theorem YB(C:C6)(s0 s1 s2 u:R3):vI C (u.1*s0.1+u.2.1*s1.1+u.2.2*s2.1,u.1*s0.2.1+u.2.1*s1.2.1+u.2.2*s2.2.1,u.1*s0.2.2+u.2.1*s1.2.2+u.2.2*s2.2.2)=vI ⟨vI C s0,vI C s1,vI C s2,bI C s0 s1,bI C s0 s2,bI C s1 s2⟩ u:=by
 exact(PB C s0 s1 s2 u.1 u.2.1 u.2.2).trans (xQ _ _ _ _ _ _ u).symm
theorem Q0(C:C6)(s0 s1 s2 u w:R3):bI C (u.1*s0.1+u.2.1*s1.1+u.2.2*s2.1,u.1*s0.2.1+u.2.1*s1.2.1+u.2.2*s2.2.1,u.1*s0.2.2+u.2.1*s1.2.2+u.2.2*s2.2.2) (w.1*s0.1+w.2.1*s1.1+w.2.2*s2.1,w.1*s0.2.1+w.2.1*s1.2.1+w.2.2*s2.2.1,w.1*s0.2.2+w.2.1*s1.2.2+w.2.2*s2.2.2)=bI ⟨vI C s0,vI C s1,vI C s2,bI C s0 s1,bI C s0 s2,bI C s1 s2⟩ u w:=by
 have e:∀ s:R3,bI C s (w.1*s0.1+w.2.1*s1.1+w.2.2*s2.1,w.1*s0.2.1+w.2.1*s1.2.1+w.2.2*s2.2.1,w.1*s0.2.2+w.2.1*s1.2.2+w.2.2*s2.2.2)=w.1*bI C s0 s+w.2.1*bI C s1 s+w.2.2*bI C s2 s:=fun s=>(IT C _ _).trans (Vj C s0 s1 s2 s w.1 w.2.1 w.2.2)
 refine Eq.trans ?_ (xR _ _ _ _ _ _ u w).symm;rw[Vj,e,e,e,IS C s0,IS C s1,IS C s2,IT C s1 s0,IT C s2 s0,IT C s2 s1]
theorem VI(C:C6)(a b c x y z:R3):pb (pb C a b c) x y z=pb C (rm a x y z) (rm b x y z) (rm c x y z):=by
 have v:=fun u=>(YB C (BA a b c) (BG a b c) (BF a b c) u).symm
 have w:=fun u u'=>(Q0 C (BA a b c) (BG a b c) (BF a b c) u u').symm
 exact C6.ext' (v (BA x y z)) (v (BG x y z)) (v (BF x y z)) (w (BA x y z) (BG x y z)) (w (BA x y z) (BF x y z)) (w (BG x y z) (BF x y z))
theorem uN(C:C6)(k:Ae):pb C (k,0,0) (0,k,0) (0,0,k)=scC (k*k) C:=by
 unfold pb scC vI bI ap tw0 tw1 tw2 Ar BA BG BF;refine C6.ext' ?_ ?_ ?_ ?_ ?_ ?_<;>(simp only;grind)
theorem nH(a b c:R3):rm a (bk0 a b c) (bk1 a b c) (bk2 a b c)=(Am a b c,0,0)/\rm b (bk0 a b c) (bk1 a b c) (bk2 a b c)=(0,Am a b c,0)/\rm c (bk0 a b c) (bk1 a b c) (bk2 a b c)=(0,0,Am a b c):=by
 unfold rm Ar bk0 bk1 bk2 BA BG BF crs Am det;refine⟨?_,?_,?_⟩<;>refine Bl ?_ (Bl ?_ ?_)<;>(simp only;grind)
theorem sL(C:C6)(a b c:R3):Am (tw0 (pb C a b c)) (tw1 (pb C a b c)) (tw2 (pb C a b c))=Am a b c*Am a b c*Am (tw0 C) (tw1 C) (tw2 C):=by
 have row:∀ s:R3,(bI C s (BA a b c),bI C s (BG a b c),bI C s (BF a b c))=ap (BA a b c) (BG a b c) (BF a b c) (ap (tw0 C) (tw1 C) (tw2 C) s):=fun s=>by
  unfold bI;rw[Jx,Jx _ (BG a b c),Jx _ (BF a b c)];rfl
 have e0:tw0 (pb C a b c)=(bI C (BA a b c) (BA a b c),bI C (BA a b c) (BG a b c),bI C (BA a b c) (BF a b c)):=by rw[IS];rfl
 have e1:tw1 (pb C a b c)=(bI C (BG a b c) (BA a b c),bI C (BG a b c) (BG a b c),bI C (BG a b c) (BF a b c)):=by rw[IS,IT C (BG a b c) (BA a b c)];rfl
 have e2:tw2 (pb C a b c)=(bI C (BF a b c) (BA a b c),bI C (BF a b c) (BG a b c),bI C (BF a b c) (BF a b c)):=by rw[IS,IT C (BF a b c) (BA a b c),IT C (BF a b c) (BG a b c)];rfl
 rw[e0,e1,e2,row,row,row,Qa,Qa,O5];grind
theorem Us(k:Ae)(C:C6):Am (tw0 (scC k C)) (tw1 (scC k C)) (tw2 (scC k C))=k*k*k*Am (tw0 C) (tw1 C) (tw2 C):=by
 rw[<-J7];unfold tw0 tw1 tw2 scC AF;simp only[<-F3,BY 2 k]
def PrC(p:Ae)(C D:C6):Prop:=∃ d,d%p≠0/\CgC p C (scC d D)
theorem PrC.rfl(hp:P4 p):PrC p C C:=⟨1,hp.o1,CgC.of (LU C).symm⟩
theorem PrC.trans(hp:P4 p)(i:PrC p C D)(j:PrC p D E):PrC p C E:=by
 obtain⟨d,dz,e⟩:=i;obtain⟨d',dz',e'⟩:=j;exact⟨d*d',Bm hp dz dz',e.trans ((CgC.sc Cg.rfl e').trans (CgC.of (Nf _ _ _)))⟩
theorem PM(hp:P4 p)(dz:k%p≠0):∃ u,u%p≠0/\Cg p (u*k) 1:=by
 obtain⟨u,u1,u2,u3⟩:=HL hp dz;refine⟨u,by rw[AI (by omega) u2];omega,?_⟩
 show u*k%p=1%p;rw[BY,u3,AI (by decide) (by have:=hp.lo;omega)]
theorem PrC.symm(hp:P4 p)(i:PrC p C D):PrC p D C:=by
 obtain⟨d,dz,e⟩:=i;obtain⟨u,uz,o⟩:=PM hp dz;refine⟨u,uz,?_⟩;have q:=CgC.sc (k:=u) (k':=u) Cg.rfl e;rw[Nf]at q;exact(q.trans ((CgC.sc o CgC.rfl).trans (CgC.of (LU D)))).symm
theorem PrC.pb(i:PrC p C D):PrC p (OvC.pb C a b c) (OvC.pb D a b c):=by
 obtain⟨d,dz,e⟩:=i;exact⟨d,dz,(VJ e CgR.rfl CgR.rfl CgR.rfl).trans (CgC.of (VH d D a b c))⟩
theorem PrC.tab(hp:P4 p)(kz:k%p≠0)(ha:CgR p a (AF k a'))(hb:CgR p b (AF k b'))(hc:CgR p c (AF k c')):PrC p (OvC.pb C a b c) (OvC.pb C a' b' c'):=
 ⟨k*k,Bm hp kz kz,(VJ CgC.rfl ha hb hc).trans (CgC.of (qS k C a' b' c'))⟩
def InC(p:Ae)(C:C6):Prop:=∀ x∈C.l,0<=x/\x<p
theorem aD(hp:P4 p)(iC:InC p C)(iD:InC p D)(lC:AW p C.l=Ab 1)(lD:AW p D.l=Ab 1)(h:PrC p C D):C=D:=by
 obtain⟨d,dz,e⟩:=h;have p1:1<p:=by have:=hp.lo;omega
 have rs:C.l.map (fun x=>x%p)=(D.l.map fun x=>d*x).map (fun x=>x%p):=by
  obtain⟨h0,h1,h2,h3,h4,h5⟩:=e;simp only[C6.l,BQ,FC];rw[show C.c0%p=d*D.c0%p from h0,show C.c1%p=d*D.c1%p from h1,show C.c2%p=d*D.c2%p from h2,show C.c3%p=d*D.c3%p from h3,show C.c4%p=d*D.c4%p from h4,show C.c5%p=d*D.c5%p from h5]
 have el:=Jw hp dz (f:=fun x=>d*x) (fun _=>rfl) D.l
 rw[lD,<-Lz rs,lC,DX,Ch,El]at el;have o:Cg p d 1:=by
  show d%p=1%p;rw[<-el,AI (by decide) p1]
 obtain⟨h0,h1,h2,h3,h4,h5⟩:=e.trans ((CgC.sc o CgC.rfl).trans (CgC.of (LU D)));have same:∀{u v:Ae},u∈C.l->v∈D.l->Cg p u v->u=v:=fun hu hv huv=>by
  have:=show _%p=_%p from huv
  rwa [AI (iC _ hu).1 (iC _ hu).2,AI (iD _ hv).1 (iD _ hv).2]at this
 exact C6.ext' (same (by simp[C6.l]) (by simp[C6.l]) h0) (same (by simp[C6.l]) (by simp[C6.l]) h1) (same (by simp[C6.l]) (by simp[C6.l]) h2) (same (by simp[C6.l]) (by simp[C6.l]) h3) (same (by simp[C6.l]) (by simp[C6.l]) h4) (same (by simp[C6.l]) (by simp[C6.l]) h5)
end
noncomputable def O7:Df:=⟨5,Ad,(.cons (.asg 3 Ad (.bin .Add (.bin .Add (.bin .Mult (.bin .Mult (.idx (.var 1) (.int 0)) (.idx (.var 2) (.int 0))) (.idx (.var 2) (.int 0))) (.bin .Mult (.bin .Mult (.idx (.var 1) (.int 1)) (.idx (.var 2) (.int 1))) (.idx (.var 2) (.int 1)))) (.bin .Mult (.bin .Mult (.idx (.var 1) (.int 2)) (.idx (.var 2) (.int 2))) (.idx (.var 2) (.int 2))))) (.cons (.asg 4 Ad (.bin .Add (.bin .Add (.bin .Mult (.bin .Mult (.idx (.var 1) (.int 3)) (.idx (.var 2) (.int 0))) (.idx (.var 2) (.int 1))) (.bin .Mult (.bin .Mult (.idx (.var 1) (.int 4)) (.idx (.var 2) (.int 0))) (.idx (.var 2) (.int 2)))) (.bin .Mult (.bin .Mult (.idx (.var 1) (.int 5)) (.idx (.var 2) (.int 1))) (.idx (.var 2) (.int 2))))) (.cons (.ret (.call 1 (.cons (.var 0) (.cons (.bin .Add (.var 3) (.var 4)) .nil)))) .nil)))⟩
noncomputable def N2:Df:=⟨2,Ad,(.cons (.ret (.tup (.cons (.tup (.cons (.call 1 (.cons (.var 0) (.cons (.bin .Mult (.int 2) (.idx (.var 1) (.int 0))) .nil))) (.cons (.idx (.var 1) (.int 3)) (.cons (.idx (.var 1) (.int 4)) .nil)))) (.cons (.tup (.cons (.idx (.var 1) (.int 3)) (.cons (.call 1 (.cons (.var 0) (.cons (.bin .Mult (.int 2) (.idx (.var 1) (.int 1))) .nil))) (.cons (.idx (.var 1) (.int 5)) .nil)))) (.cons (.tup (.cons (.idx (.var 1) (.int 4)) (.cons (.idx (.var 1) (.int 5)) (.cons (.call 1 (.cons (.var 0) (.cons (.bin .Mult (.int 2) (.idx (.var 1) (.int 2))) .nil))) .nil)))) .nil))))) .nil)⟩
noncomputable def LK:Df:=⟨3,Ad,(.cons (.asg 2 Ad (.call 131 (.cons (.var 0) (.cons (.var 1) .nil)))) (.cons (.ret (.cmp .NotEq (.call 61 (.cons (.var 0) (.cons (.idx (.var 2) (.int 0)) (.cons (.idx (.var 2) (.int 1)) (.cons (.idx (.var 2) (.int 2)) .nil))))) (.int 0))) .nil))⟩
theorem ix6(C:C6):BW (AY C) (.int 0)=.ok (.int C.c0)/\BW (AY C) (.int 1)=.ok (.int C.c1)/\BW (AY C) (.int 2)=.ok (.int C.c2)/\BW (AY C) (.int 3)=.ok (.int C.c3)/\BW (AY C) (.int 4)=.ok (.int C.c4)/\BW (AY C) (.int 5)=.ok (.int C.c5):=⟨rfl,rfl,rfl,rfl,rfl,rfl⟩
structure BC (C:C6):Prop where
 b0:Bd 10 C.c0
 b1:Bd 10 C.c1
 b2:Bd 10 C.c2
 b3:Bd 10 C.c3
 b4:Bd 10 C.c4
 b5:Bd 10 C.c5
theorem InC.b(hp:P4 p)(h:InC p C):BC C:=by
 have k:∀ x∈C.l,Bd 10 x:=fun x hx=>J8 hp (h x hx).1 (h x hx).2
 exact⟨k _ (by simp[C6.l]),k _ (by simp[C6.l]),k _ (by simp[C6.l]),k _ (by simp[C6.l]),k _ (by simp[C6.l]),k _ (by simp[C6.l])⟩
def Uh(Γ:Gam):Prop:=∀(p:Ae)(C:C6)(x:R3),P4 p->InC p C->In3 p x->Γ.F 126 [.int p,AY C,Aj Aa x]=.ok (.int (vI C x%p))
theorem gU(hr:Il Γ)(p:Ae)(C:C6)(x:R3)(hp:P4 p)(iC:InC p C)(ix:In3 p x):O7.run Γ [.int p,AY C,Aj Aa x]=.ok (.int (vI C x%p)):=by
 obtain⟨i0,i1,i2,i3,i4,i5⟩:=ix6 C;obtain⟨x0,x1,x2⟩:=GS Aa x;have bC:=iC.b hp;have bx:=Ci hp ix;have k:∀ {u v},Bd 10 u->Bd 10 v->E8 u v=Aa:=fun hu hv=>GU hu hv (by decide) (by decide)
 have k2:∀ {u v w},Bd 10 u->Bd 10 v->Bd 10 w->E8 (u*v) w=Aa:=fun hu hv hw=>GU (hu.mul hv) hw (by decide) (by decide)
 simp[O7,Df.run,BH,i0,i1,i2,i3,i4,i5,x0,x1,x2,k bC.b0 bx.1,k bC.b1 bx.2.1,k bC.b2 bx.2.2,k bC.b3 bx.1,k bC.b4 bx.1,k bC.b5 bx.2.1,k2 bC.b0 bx.1 bx.1,k2 bC.b1 bx.2.1 bx.2.1,k2 bC.b2 bx.2.2 bx.2.2,k2 bC.b3 bx.1 bx.2.1,k2 bC.b4 bx.1 bx.2.2,k2 bC.b5 bx.2.1 bx.2.2,hr p _ hp.pos];rfl
noncomputable def t0(p:Ae)(C:C6):R3:=(2*C.c0%p,C.c3,C.c4)
noncomputable def t1(p:Ae)(C:C6):R3:=(C.c3,2*C.c1%p,C.c5)
noncomputable def t2(p:Ae)(C:C6):R3:=(C.c4,C.c5,2*C.c2%p)
theorem Nr(hp:P4 p)(h:InC p C):In3 p (t0 p C)/\In3 p (t1 p C)/\In3 p (t2 p C):=by
 have p0:=hp.pos;have k:∀ x∈C.l,0<=x/\x<p:=h;have m:∀ x:Ae,0<=x%p/\x%p<p:=fun x=>⟨A9 _ (by omega),A7 _ p0⟩
 exact⟨⟨m _,k _ (by simp[C6.l,t0]),k _ (by simp[C6.l,t0])⟩,⟨k _ (by simp[C6.l,t1]),m _,k _ (by simp[C6.l,t1])⟩,⟨k _ (by simp[C6.l,t2]),k _ (by simp[C6.l,t2]),m _⟩⟩
theorem Nt(p:Ae)(C:C6):CgR p (t0 p C) (tw0 C)/\CgR p (t1 p C) (tw1 C)/\CgR p (t2 p C) (tw2 C):=⟨⟨Cg.md rfl,Cg.rfl,Cg.rfl⟩,⟨Cg.rfl,Cg.md rfl,Cg.rfl⟩,⟨Cg.rfl,Cg.rfl,Cg.md rfl⟩⟩
def LR(Γ:Gam):Prop:=∀(p:Ae)(C:C6),P4 p->Γ.F 131 [.int p,AY C]=.ok (Bc (t0 p C) (t1 p C) (t2 p C))
theorem gW(hr:Il Γ)(p:Ae)(C:C6)(hp:P4 p):N2.run Γ [.int p,AY C]=.ok (Bc (t0 p C) (t1 p C) (t2 p C)):=by
 obtain⟨i0,i1,i2,i3,i4,i5⟩:=ix6 C;have m22:∀ y,Ei 2 y=Aa:=fun y=>HI (by decide) (by decide)
 simp[N2,Df.run,BH,i0,i1,i2,i3,i4,i5,m22,hr p _ hp.pos];rfl
def Vp(Γ:Gam):Prop:=∀(p:Ae)(b:Ao)(xs:Ac Ae)(l t:Ae),P4 p->AW p xs=Ab l->DV p l t->Γ.F 122 [.int p,Dp b xs]=.ok (.tup (ds (fmI p t xs)))
theorem mL(hr:Il Γ)(hf:LS Γ){b:Ao}{l t:Ae}(hp:P4 p)(e:AW p xs=Ab l)(it:DV p l t):On.run Γ [.int p,Dp b xs]=.ok (.tup (ds (fmI p t xs))):=by
 have p0:=hp.pos;have cp:BJ (cG Γ [si p,sh (Dp b xs),Af,Af] 3 CB) (cF Γ [si p,sh (Dp b xs),Af,Af] 3 Od) (ds xs)=.ok (ds (xs.map fun x=>x%p)):=by
  refine LJ xs fun x _=>⟨rfl,?_⟩
  simp[cF,Od,hr p x p0]
 have an:=OY (xs.map fun x=>x%p)
 rw[S5 p0,e]at an;have le:AW p (xs.map fun x=>x%p)=Ab l:=by rw[Lz (VD xs)];exact e
 have f:=hf p Ad (xs.map fun x=>x%p) l t hp le it
 rw[Ta (VD xs)]at f;have f':Γ.F 17 [.int p,.lst (ds (xs.map fun x=>x%p))]=.ok (.tup (ds (fmI p t xs))):=f
 simp[On,Df.run,BH,Op,cp,an,f']
theorem VR{E:C6}{l:Ae}(hp:P4 p)(el:AW p E.l=Ab l):∃(t:Ae)(D:C6),DV p l t/\fmI p t E.l=D.l/\InC p D/\AW p D.l=Ab 1/\PrC p D E:=by
 have p0:=hp.pos;obtain⟨lz,_,_⟩:=IP p0 el;obtain⟨t,t1,t2,t3⟩:=HL hp lz;have tz:t%p≠0:=by rw[AI (by omega) t2];omega
 have ff:∀ x,(t*(x%p)%p)%p=t*x%p:=fun x=>by rw[AT _ (Bv p),A2 t (x%p) p,AT _ (Bv p),<-A2]
 have lv:=Jw hp tz (f:=fun x=>t*(x%p)%p) ff E.l
 rw[el,DX,BY,t3]at lv;have key:∀ x:Ae,Cg p (t*(x%p)%p) (t*x):=fun x=>(Cg.md rfl).trans (Cg.rfl.mul (Cg.md rfl))
 refine⟨t,⟨t*(E.c0%p)%p,t*(E.c1%p)%p,t*(E.c2%p)%p,t*(E.c3%p)%p,t*(E.c4%p)%p,t*(E.c5%p)%p⟩,⟨t1,t2,t3⟩,rfl,fun x hx=>?_,lv,t,tz,key _,key _,key _,key _,key _,key _⟩
 obtain⟨y,_,rfl⟩:=Cw.mp (show x∈E.l.map fun x=>t*(x%p)%p from hx)
 exact⟨A9 _ (by omega),A7 _ p0⟩
section
variable{Γ:Gam}{ns:Ac Ae}{p at_:Ae}{φ:Ae->Ae}
end
noncomputable def e0R:R3:=(1,0,0)
noncomputable def e1R:R3:=(0,1,0)
noncomputable def e2R:R3:=(0,0,1)
noncomputable def e3R:R3:=(1,1,1)
structure Frm (p:Ae) (f0 f1 f2 f3:R3):Prop where
 i0:In3 p f0
 i1:In3 p f1
 i2:In3 p f2
 i3:In3 p f3
 gen:Hj p f0 f1 f2 f3
def Pr(p:Ae)(x y:R3):Prop:=∃ d,d%p≠0/\CgR p x (AF d y)
section
variable{p:Ae}{a b c x y z f g h:R3}{k:Ae}
theorem LY(x:R3):AF 1 x=x:=by unfold AF;simp only[CF]
theorem Pr.rfl(hp:P4 p):Pr p x x:=⟨1,hp.o1,CgR.of (LY x).symm⟩
theorem Pr.trans(hp:P4 p)(i:Pr p x y)(j:Pr p y z):Pr p x z:=by
 obtain⟨d,dz,e⟩:=i;obtain⟨d',dz',e'⟩:=j;exact⟨d*d',Bm hp dz dz',e.trans ((CgR.sc Cg.rfl e').trans (CgR.of (HQ _ _ _)))⟩
theorem Pr.symm(hp:P4 p)(i:Pr p x y):Pr p y x:=by
 obtain⟨d,dz,e⟩:=i;obtain⟨u,u1,u2,u3⟩:=HL hp dz;have uz:u%p≠0:=by rw[AI (by omega) u2];omega
 have o:Cg p (u*d) 1:=by
  show u*d%p=1%p;rw[BY,u3,AI (by decide) (by have:=hp.lo;omega)]
 refine⟨u,uz,?_⟩;have q:=CgR.sc (k:=u) (k':=u) Cg.rfl e;rw[HQ]at q;exact(q.trans ((CgR.sc o CgR.rfl).trans (CgR.of (LY y)))).symm
theorem Pr.cg(hp:P4 p)(e:CgR p x y):Pr p x y:=⟨1,hp.o1,e.trans (CgR.of (LY y).symm)⟩
theorem Me{a' b' c':R3}(ha:CgR p a a')(hb:CgR p b b')(hc:CgR p c c')(hx:CgR p x x'):CgR p (ap a b c x) (ap a' b' c' x'):=⟨FI ha hx,FI hb hx,FI hc hx⟩
theorem Pr.ap(i:Pr p x y):Pr p (OvC.ap a b c x) (OvC.ap a b c y):=by
 obtain⟨d,dz,e⟩:=i;exact⟨d,dz,(Me CgR.rfl CgR.rfl CgR.rfl e).trans (CgR.of (V5 a b c y d))⟩
theorem sQ(k:Ae)(a b c x:R3):ap (AF k a) (AF k b) (AF k c) x=AF k (ap a b c x):=by
 unfold ap AF Ar;refine Bl ?_ (Bl ?_ ?_)<;>(simp only;grind)
theorem Pr.tab{a' b' c':R3}(kz:k%p≠0)(ha:CgR p a (AF k a'))(hb:CgR p b (AF k b'))(hc:CgR p c (AF k c')):Pr p (OvC.ap a b c x) (OvC.ap a' b' c' x):=
 ⟨k,kz,(Me ha hb hc CgR.rfl).trans (CgR.of (sQ k a' b' c' x))⟩
theorem xU(a b c x y z v:R3):ap (rm a x y z) (rm b x y z) (rm c x y z) v=ap a b c (ap x y z v):=by
 unfold ap rm Ar BA BG BF;refine Bl ?_ (Bl ?_ ?_)<;>(simp only;grind)
theorem QA(a b c v:R3):ap (bk0 a b c) (bk1 a b c) (bk2 a b c) (ap a b c v)=AF (Am a b c) v:=by
 unfold ap AF Ar bk0 bk1 bk2 BA BG BF crs Am det;refine Bl ?_ (Bl ?_ ?_)<;>(simp only;grind)
theorem U6(a b c x y z:R3):Am (rm a x y z) (rm b x y z) (rm c x y z)=Am a b c*Am x y z:=by
 unfold Am det rm Ar BA BG BF;grind
end
noncomputable def tri(g:R3):Ac Ae:=[g.1,g.2.1,g.2.2]
theorem T9(hp:P4 p)(ix:In3 p x)(iy:In3 p y)(lx:AW p (tri x)=Ab 1)(ly:AW p (tri y)=Ab 1)(h:Pr p x y):x=y:=by
 obtain⟨d,dz,e⟩:=h;have p1:1<p:=by have:=hp.lo;omega
 have rs:(tri x).map (fun x=>x%p)=((tri y).map fun x=>d*x).map (fun x=>x%p):=by
  simp only[tri,BQ,FC];rw[show x.1%p=d*y.1%p from e.1,show x.2.1%p=d*y.2.1%p from e.2.1,show x.2.2%p=d*y.2.2%p from e.2.2]
 have el:=Jw hp dz (f:=fun x=>d*x) (fun _=>rfl) (tri y)
 rw[ly,<-Lz rs,lx,DX,Ch,El]at el;have o:Cg p d 1:=by
  show d%p=1%p;rw[<-el,AI (by decide) p1]
 have q:=e.trans ((CgR.sc o CgR.rfl).trans (CgR.of (LY y)));have same:∀{u v:Ae},(0<=u/\u<p)->(0<=v/\v<p)->Cg p u v->u=v:=fun hu hv huv=>by
  have:=show _%p=_%p from huv
  rwa [AI hu.1 hu.2,AI hv.1 hv.2]at this
 exact Bl (same ix.1 iy.1 q.1) (Bl (same ix.2.1 iy.2.1 q.2.1) (same ix.2.2 iy.2.2 q.2.2))
theorem MI{a b c:R3}(hp:P4 p)(nz:Am a b c%p≠0):∃ l t,AW p (nine a b c)=Ab l/\DV p l t/\t%p≠0/\GoodR p (fmR p t a) (fmR p t b) (fmR p t c)/\AW p (nine (fmR p t a) (fmR p t b) (fmR p t c))=Ab 1:=by
 have p0:=hp.pos;obtain⟨l,el⟩:=MK nz;obtain⟨lz,_,_⟩:=IP p0 el;obtain⟨t,t1,t2,t3⟩:=HL hp lz;have tz:t%p≠0:=by rw[AI (by omega) t2];omega
 have ff:∀ x,(t*(x%p)%p)%p=t*x%p:=fun x=>by rw[AT _ (Bv p),A2 t (x%p) p,AT _ (Bv p),<-A2]
 have lv:=Jw hp tz (f:=fun x=>t*(x%p)%p) ff (nine a b c)
 rw[el]at lv;refine⟨l,t,el,⟨t1,t2,t3⟩,tz,⟨hp,GV p0 t a,GV p0 t b,GV p0 t c,JA ((IR (Ew p t a) (Ew p t b) (Ew p t c)).trans (Cg.of (J7 t t t a b c))) (Bm hp (nz3 hp tz tz tz) nz)⟩,?_⟩;have e:AW p ((nine a b c).map fun x=>t*(x%p)%p)=Ab 1:=by rw[lv,DX,BY,t3]
 exact e
structure Led (p:Ae) (a b c f0 f1 f2 f3 g0 g1 g2 g3:R3):Prop where
 h0:Pr p g0 (ap a b c f0)
 h1:Pr p g1 (ap a b c f1)
 h2:Pr p g2 (ap a b c f2)
 h3:Pr p g3 (ap a b c f3)
section
variable{p:Ae}{a b c a' b' c' f0 f1 f2 f3 g0 g1 g2 g3 h0 h1 h2 h3:R3}
theorem xO(hp:P4 p)(T:GoodR p a b c)(T':GoodR p a' b' c')(L:Led p a b c e0R e1R e2R e3R f0 f1 f2 f3)(L':Led p a' b' c' e0R e1R e2R e3R g0 g1 g2 g3):∃ x y z,GoodR p x y z/\AW p (nine x y z)=Ab 1/\Led p x y z f0 f1 f2 f3 g0 g1 g2 g3:=by
 have zB:Am (bk0 a b c) (bk1 a b c) (bk2 a b c)%p≠0:=by rw[Ik];exact Bm hp T.nz T.nz
 have zR:Am (rm a' (bk0 a b c) (bk1 a b c) (bk2 a b c)) (rm b' (bk0 a b c) (bk1 a b c) (bk2 a b c)) (rm c' (bk0 a b c) (bk1 a b c) (bk2 a b c))%p≠0:=by rw[U6];exact Bm hp T'.nz zB
 obtain⟨l,t,_,_,tz,gd,l1⟩:=MI hp zR;refine⟨_,_,_,gd,l1,?_⟩;have key:∀{e f g:R3},Pr p f (ap a b c e)->Pr p g (ap a' b' c' e)->Pr p g (ap (fmR p t (rm a' (bk0 a b c) (bk1 a b c) (bk2 a b c))) (fmR p t (rm b' (bk0 a b c) (bk1 a b c) (bk2 a b c))) (fmR p t (rm c' (bk0 a b c) (bk1 a b c) (bk2 a b c))) f):=fun {e f g} hf hg=>by
  refine hg.trans hp (Pr.symm hp ?_);refine(Pr.tab tz (Ew p t _) (Ew p t _) (Ew p t _)).trans hp ?_;rw[xU];refine Pr.ap ((Pr.ap hf).trans hp ?_);rw[QA];exact⟨_,T.nz,CgR.rfl⟩
 exact⟨key L.h0 L'.h0,key L.h1 L'.h1,key L.h2 L'.h2,key L.h3 L'.h3⟩
end
section
variable{Γ:Gam}{ns:Ac Ae}{p:Ae}
end
noncomputable def L3(a b c:R3):Ac D:=[Fn a,Fn b,Fn c]
def M1(Γ:Gam)(mid:Ag)(ns:Ac Ae):Prop:=∀ k:Ae,0<=k->∃ m,0<=m/\Γ.F mid [scr ns,.int k]=.ok (.int m)
section
variable{Γ:Gam}{ns:Ac Ae}{mid:Ag}{p:Ae}{a b c:R3}{s2 s4 s5 s6 s7 s8:Sl}
end
theorem Z2{lo hi:Ae}(h1:-1000<=lo)(h2:lo<=1000)(h3:-1000<=hi)(h4:hi<=1000):Dt lo hi=.ok (FN lo (hi-lo).toNat):=by
 unfold Dt;rw[Az (by refine⟨⟨by omega,by omega⟩,⟨by omega,by omega⟩,?_⟩;omega)]
theorem Uw{g:D->R Ao}{f:D->R D}{q:Ae->Ao}{φ:Ae->Ae}:∀(xs:Ac Ae),(∀ x∈xs,g (.int x)=.ok (q x)/\f (.int x)=.ok (.int (φ x)))->BJ g f (ds xs)=.ok (ds ((xs.filter q).map φ))
 |[],_=>rfl
 |x::xs,h=>by
  obtain⟨h1,h2⟩:=h x (Ay ..);have ih:=Uw xs fun y hy=>h y (Au _ hy)
  show (g (.int x)).bind _=_;rw[h1,R.bind_ok,Dq];cases hq:q x with
  |true=>
   rw[Az rfl,Az rfl,h2,R.bind_ok,show BJ g f (Li D.int xs)=_ from ih]
   rfl
  |false=>
   rw[AH (by decide),AH (by decide)]
   exact ih
theorem So{p:Ae}:∀ xs:Ac Ae,((xs.filter fun x=>decide (x%p≠0)).map fun x=>x%p).head?=AW p xs
 |[]=>rfl
 |x::xs=>by
  unfold AW;rw[Dq];by_cases h:x%p=0
  ·rw[AH (by simp[h]),Az h]
   exact So xs
  ·rw[Az (by simp[h]),AH h]
   rfl
noncomputable def NU:E:=(.cmp .NotEq (.bin .Mod (.var 4) (.var 0)) (.int 0))
noncomputable def NW:E:=(.bin .Mod (.var 4) (.var 0))
noncomputable def NT:E:=(.cmp .Eq (.bin .Mod (.bin .Mult (.var 5) (.var 2)) (.var 0)) (.int 1))
noncomputable def JU:E:=(.var 5)
noncomputable def NV:E:=(.bin .Mod (.bin .Mult (.var 6) (.var 3)) (.var 0))
noncomputable def Ob:Df:=⟨7,Ad,(.cons (.asg 2 Ad (.idx (.comp NW 4 (.e (.var 1)) NU) (.int 0))) (.cons (.asg 3 Ad (.idx (.comp JU 5 (.rng2 (.int 1) (.var 0)) NT) (.int 0))) (.cons (.ret (.bi .tuple (.cons (.comp NV 6 (.e (.var 1)) CB) .nil))) .nil)))⟩
def MV(Γ:Gam):Prop:=∀(p:Ae)(b:Ao)(xs:Ac Ae)(l t:Ae),P4 p->AW p xs=Ab l->DV p l t->Γ.F 158 [.int p,Dp b xs]=.ok (.tup (ds (fmI p t xs)))
theorem iA(Γ:Gam){b:Ao}{l t:Ae}(hp:P4 p)(e:AW p xs=Ab l)(it:DV p l t):Ob.run Γ [.int p,Dp b xs]=.ok (.tup (ds (fmI p t xs))):=by
 have p0:=hp.pos;have ph:=hp.hi;have c1:BJ (cG Γ [si p,sh (Dp b xs),Af,Af,Af,Af,Af] 4 NU) (cF Γ [si p,sh (Dp b xs),Af,Af,Af,Af,Af] 4 NW) (ds xs)=.ok (ds ((xs.filter fun x=>decide (x%p≠0)).map fun x=>x%p)):=by
  refine Uw xs fun x _=>⟨?_,?_⟩
  ·simp[cG,NU,p0];rw[BU];simp
  ·simp[cF,NW,p0]
 have hl:=So (p:=p) xs;rw[e]at hl;generalize ((xs.filter fun x=>decide (x%p≠0)).map fun x=>x%p)=ls at c1 hl
 have g0:=MM hl;obtain⟨_,l0,l1⟩:=IP p0 e;have c3:BJ (cG Γ [si p,sh (Dp b xs),si l,Af,Af,Af,Af] 5 NT) (cF Γ [si p,sh (Dp b xs),si l,Af,Af,Af,Af] 5 JU) (ds (GD p))=.ok (ds ((GD p).filter fun k=>decide (k*l%p=1))):=by
  refine LA (GD p) fun x hx=>⟨?_,?_⟩
  ·obtain⟨x1,x2⟩:=KF.mp hx;have m:Ei x l=Aa:=HI (by omega) (by omega)
   simp[cG,NT,m,p0];rw[BU];simp
  ·simp[cF,JU]
 have g1:=MM (ZM it);have c4:BJ (cG Γ [si p,sh (Dp b xs),si l,si t,Af,Af,Af] 6 CB) (cF Γ [si p,sh (Dp b xs),si l,si t,Af,Af,Af] 6 NV) (ds xs)=.ok (ds (xs.map fun x=>x*t%p)):=by
  refine LJ xs fun x _=>⟨rfl,?_⟩
  have m:Ei x t=Aa:=MS (by have:=it.1;omega) (by have:=it.2.1;omega)
  simp[cF,NV,m,p0]
 have ru:Dt 1 p=.ok (ds (GD p)):=SQ hp;have fe:fmI p t xs=xs.map fun x=>x*t%p:=by
  unfold fmI;refine EB fun x _=>?_
  rw[BY x t,A2 t (x%p) p,AT _ (Bv p),<-A2]
 simp[Ob,Df.run,BH,Op,c1,g0,ru,c3,g1,c4,fe]
noncomputable def LB:Df:=⟨3,Ad,(.cons (.asg 2 Ad (.bin .Mod (.var 1) (.bin .Add (.bin .Add (.bin .Mult (.var 0) (.var 0)) (.var 0)) (.int 1)))) (.cons (.ife (.cmp .Eq (.var 2) (.int 0)) (.cons (.ret (.tup (.cons (.int 0) (.cons (.int 0) (.cons (.int 1) .nil))))) .nil) .nil) (.cons (.ife (.cmp .LtE (.var 2) (.var 0)) (.cons (.ret (.tup (.cons (.int 0) (.cons (.int 1) (.cons (.bin .Sub (.var 2) (.int 1)) .nil))))) .nil) .nil) (.cons (.ret (.tup (.cons (.int 1) (.cons (.bin .FloorDiv (.bin .Sub (.bin .Sub (.var 2) (.var 0)) (.int 1)) (.var 0)) (.cons (.bin .Mod (.bin .Sub (.bin .Sub (.var 2) (.var 0)) (.int 1)) (.var 0)) .nil))))) .nil))))⟩
theorem pU(h:1<p):AW p [0,0,1]=Ab 1:=by
 simp[AW,AI (by decide:(0:Ae)<=1) h]
theorem xS(h:1<p)(z:Ae):AW p [0,1,z]=Ab 1:=by
 simp[AW,AI (by decide:(0:Ae)<=1) h]
theorem Y2(h:1<p)(y z:Ae):AW p [1,y,z]=Ab 1:=by
 simp[AW,AI (by decide:(0:Ae)<=1) h]
noncomputable def NA:E:=(.bin .Mult (.idx (.var 0) (.var 5)) (.idx (.var 1) (.var 5)))
noncomputable def Rm:Ss:=(.cons (.app 2 (.bin .Add (.bin .Mult (.idx (.var 0) (.var 3)) (.idx (.var 1) (.var 4))) (.bin .Mult (.idx (.var 0) (.var 4)) (.idx (.var 1) (.var 3))))) .nil)
noncomputable def NM:Df:=⟨6,Ad,(.cons (.asg 2 Aa (.comp NA 5 (.rng (.int 3)) CB)) (.cons (.forT [3,4] (.e (.lst (.cons (.tup (.cons (.int 0) (.cons (.int 1) .nil))) (.cons (.tup (.cons (.int 0) (.cons (.int 2) .nil))) (.cons (.tup (.cons (.int 1) (.cons (.int 2) .nil))) .nil))))) Rm) (.cons (.ret (.var 2)) .nil)))⟩
noncomputable def prd(a b:R3):C6:=⟨a.1*b.1,a.2.1*b.2.1,a.2.2*b.2.2,a.1*b.2.1+a.2.1*b.1,a.1*b.2.2+a.2.2*b.1,a.2.1*b.2.2+a.2.2*b.2.1⟩
noncomputable def Ej(C D:C6):C6:=⟨C.c0-D.c0,C.c1-D.c1,C.c2-D.c2,C.c3-D.c3,C.c4-D.c4,C.c5-D.c5⟩
theorem aK(a b c:R3):Am (tw0 (Ej (prd a c) (prd b b))) (tw1 (Ej (prd a c) (prd b b))) (tw2 (Ej (prd a c) (prd b b)))=2*(Am a b c*Am a b c):=by
 unfold tw0 tw1 tw2 Ej prd Am det;simp only;grind
theorem P4.two(h:P4 p):(2:Ae)%p≠0:=by rcases h with rfl|rfl|rfl|rfl<;>decide
noncomputable def Qx:Df:=⟨3,Ad,(.cons (.ret (.call 17 (.cons (.var 0) (.cons (.call 91 (.cons (.var 0) (.cons (.var 1) (.cons (.var 2) .nil)))) .nil)))) .nil)⟩
theorem O2{p l:Ae}(hp:P4 p)(el:AW p (tri r)=Ab l):∃ u,DV p l u/\In3 p (fmR p u r)/\AW p (tri (fmR p u r))=Ab 1/\Pr p (fmR p u r) r/\fmI p u (tri r)=tri (fmR p u r):=by
 have p0:=hp.pos;obtain⟨lz,_,_⟩:=IP p0 el;obtain⟨t,t1,t2,t3⟩:=HL hp lz;have tz:t%p≠0:=by rw[AI (by omega) t2];omega
 have ff:∀ x,(t*(x%p)%p)%p=t*x%p:=fun x=>by rw[AT _ (Bv p),A2 t (x%p) p,AT _ (Bv p),<-A2]
 have lv:=Jw hp tz (f:=fun x=>t*(x%p)%p) ff (tri r)
 rw[el,DX,BY,t3]at lv;exact⟨t,⟨t1,t2,t3⟩,GV p0 t r,lv,⟨t,tz,Ew p t r⟩,rfl⟩
theorem O0(h:AW p (tri g)=Af):CgR p g (0,0,0):=by
 have hz:=IQ.mp h;have k:∀ x∈tri g,Cg p x 0:=fun x hx=>by show x%p=0%p;rw[hz x hx,A5]
 exact⟨k _ (by simp[tri]),k _ (by simp[tri]),k _ (by simp[tri])⟩
theorem Tq(h:CgR p g (0,0,0)):AW p (tri g)=Af:=by
 refine IQ.mpr fun x hx=>?_
 have k:∀{x:Ae},Cg p x 0->x%p=0:=fun {x} h=>by rw[show x%p=_ from h,A5]
 simp only[tri,Ax,AX,B8]at hx;rcases hx with rfl|rfl|rfl
 ·exact k h.1
 ·exact k h.2.1
 ·exact k h.2.2
theorem Uf{p l:Ae}{a b c f g:R3}(hp:P4 p)(z:Am a b c%p≠0)(lf:AW p (tri f)=Ab l)(h:CgR p g (ap a b c f)):∃ l,AW p (tri g)=Ab l:=by
 cases el:AW p (tri g) with
 |some l=>exact⟨l,rfl⟩
 |none=>
  have q0:CgR p (ap a b c f) (0,0,0):=h.symm.trans (O0 el);have q1:CgR p (AF (Am a b c) f) (0,0,0):=by
   have:=Me (CgR.rfl (a:=bk0 a b c)) (CgR.rfl (a:=bk1 a b c)) (CgR.rfl (a:=bk2 a b c)) q0;rw[QA]at this;refine this.trans (CgR.of ?_);unfold ap Ar;simp
  obtain⟨u,uz,o⟩:=PM hp z;have q2:CgR p f (0,0,0):=by
   have w:=CgR.sc (k:=u) (k':=u) Cg.rfl q1;rw[HQ]at w;refine((CgR.of (LY f).symm).trans (CgR.sc o.symm CgR.rfl)).trans (w.trans (CgR.of ?_));unfold AF;simp
  rw[Tq q2]at lf;cases lf
def Vo(Γ:Gam):Prop:=∀(p:Ae)(a b c f:R3),GoodR p a b c->In3 p f->AW p (tri f)=Ab 1->∃ g,In3 p g/\AW p (tri g)=Ab 1/\Pr p g (ap a b c f)/\Γ.F 92 [.int p,Bc a b c,Aj Aa f]=.ok (Aj Aa g)
theorem mI(hs:M0 Γ)(hf:LS Γ)(p:Ae)(a b c f:R3)(g:GoodR p a b c)(i0:In3 p f)(lf:AW p (tri f)=Ab 1):∃ g,In3 p g/\AW p (tri g)=Ab 1/\Pr p g (ap a b c f)/\Qx.run Γ [.int p,Bc a b c,Aj Aa f]=.ok (Aj Aa g):=by
 have hp:=g.p4;have e1:Γ.F 91 [.int p,Bc a b c,Aj Aa f]=_:=hs p Aa Aa Aa a b c f hp.pos ((Ci hp g.ia).b3 (by decide)) ((Ci hp g.ib).b3 (by decide)) ((Ci hp g.ic).b3 (by decide)) ((Ci hp i0).b3 (by decide))
 have cg:CgR p (Ar a f%p,Ar b f%p,Ar c f%p) (ap a b c f):=⟨Cg.md rfl,Cg.md rfl,Cg.md rfl⟩;obtain⟨l,el⟩:=Uf hp g.nz lf cg;obtain⟨u,iu,j,l1,pr,ef⟩:=O2 hp el;have e2:=hf p Aa _ l u hp el iu;rw[ef]at e2;generalize (Ar a f%p,Ar b f%p,Ar c f%p)=w at *;have e2':Γ.F 17 [.int p,Aj Aa w]=.ok (Aj Aa (fmR p u w)):=e2;refine⟨fmR p u w,j,l1,pr.trans hp (Pr.cg hp cg),?_⟩;simp[Qx,Df.run,BH,e1,e2']
def SL(Γ:Gam):Prop:=∀(p:Ae)(C:C6),P4 p->InC p C->Am (tw0 C) (tw1 C) (tw2 C)%p≠0->Γ.F 136 [.int p,AY C]=.ok (.bl Aa)
theorem cW(ht:LR Γ)(hm:KN Γ)(p:Ae)(C:C6)(hp:P4 p)(iC:InC p C)(z:Am (tw0 C) (tw1 C) (tw2 C)%p≠0):LK.run Γ [.int p,AY C]=.ok (.bl Aa):=by
 obtain⟨h0,h1,h2⟩:=Nr hp iC;have e1:=ht p C hp;have e2:=hm p Aa (t0 p C) (t1 p C) (t2 p C) hp.pos ((Ci hp h0).b3 (by decide)) ((Ci hp h1).b3 (by decide)) ((Ci hp h2).b3 (by decide))
 have td:Am (t0 p C) (t1 p C) (t2 p C)%p=Am (tw0 C) (tw1 C) (tw2 C)%p:=let ⟨h0,h1,h2⟩:=Nt p C;IR h0 h1 h2
 rw[td]at e2;have k0:BW (Bc (t0 p C) (t1 p C) (t2 p C)) (.int 0)=.ok (Aj Aa (t0 p C)):=rfl;have k1:BW (Bc (t0 p C) (t1 p C) (t2 p C)) (.int 1)=.ok (Aj Aa (t1 p C)):=rfl;have k2:BW (Bc (t0 p C) (t1 p C) (t2 p C)) (.int 2)=.ok (Aj Aa (t2 p C)):=rfl;generalize Am (tw0 C) (tw1 C) (tw2 C)%p=d at *;simp[LK,Df.run,BH,e1,e2,k0,k1,k2,z]
noncomputable def Ox:Df:=⟨2,Ad,(.cons (.ife (.no (.call 136 (.cons (.var 0) (.cons (.var 1) .nil)))) (.cons (.rais 14 (.cons (.str (Aq "the curve is not whole")) .nil)) .nil) .nil) .nil)⟩
noncomputable def N3:Df:=⟨2,Ad,(.cons (.expr (.call 147 (.cons (.var 0) (.cons (.var 1) .nil)))) (.cons (.ret (.call 78 (.cons (.var 0) (.cons (.call 131 (.cons (.var 0) (.cons (.var 1) .nil))) .nil)))) .nil))⟩
noncomputable def Qd:Df:=⟨3,Ad,(.cons (.ret (.call 92 (.cons (.var 0) (.cons (.call 106 (.cons (.var 0) (.cons (.call 148 (.cons (.var 0) (.cons (.var 1) .nil))) .nil))) (.cons (.var 2) .nil))))) .nil)⟩
def P9(Γ:Gam):Prop:=∀(p:Ae)(C:C6),P4 p->InC p C->Am (tw0 C) (tw1 C) (tw2 C)%p≠0->Γ.F 147 [.int p,AY C]=.ok .non
theorem mN(h:SL Γ)(p:Ae)(C:C6)(hp:P4 p)(iC:InC p C)(z:Am (tw0 C) (tw1 C) (tw2 C)%p≠0):Ox.run Γ [.int p,AY C]=.ok .non:=by
 have e:=h p C hp iC z;simp[Ox,Df.run,BH,e]
def QU(p:Ae)(C:C6)(a b c:R3):Prop:=GoodR p a b c/\∃ k,k%p≠0/\CgR p a (AF k (tw0 C))/\CgR p b (AF k (tw1 C))/\CgR p c (AF k (tw2 C))
def Vm(Γ:Gam):Prop:=∀(p:Ae)(C:C6),P4 p->InC p C->Am (tw0 C) (tw1 C) (tw2 C)%p≠0->∃ a b c,QU p C a b c/\Γ.F 148 [.int p,AY C]=.ok (Bc a b c)
theorem nN(hw:P9 Γ)(ht:LR Γ)(hf:L0 Γ)(p:Ae)(C:C6)(hp:P4 p)(iC:InC p C)(z:Am (tw0 C) (tw1 C) (tw2 C)%p≠0):∃ a b c,QU p C a b c/\N3.run Γ [.int p,AY C]=.ok (Bc a b c):=by
 obtain⟨i0,i1,i2⟩:=Nr hp iC;obtain⟨h0,h1,h2⟩:=Nt p C;have zt:Am (t0 p C) (t1 p C) (t2 p C)%p≠0:=JA (IR h0 h1 h2) z;obtain⟨l,t,el,it,tz,gd,_⟩:=MI hp zt;have e1:=hw p C hp iC z;have e2:=ht p C hp;have e3:Γ.F 78 [.int p,Bc (t0 p C) (t1 p C) (t2 p C)]=_:=hf p Aa Aa _ _ _ hp ((Ci hp i0).b3 (by decide)) ((Ci hp i1).b3 (by decide)) ((Ci hp i2).b3 (by decide)) zt l t el it
 refine⟨_,_,_,⟨gd,t,tz,(Ew p t _).trans (CgR.sc Cg.rfl h0),(Ew p t _).trans (CgR.sc Cg.rfl h1),(Ew p t _).trans (CgR.sc Cg.rfl h2)⟩,?_⟩;generalize Bc (fmR p t (t0 p C)) (fmR p t (t1 p C)) (fmR p t (t2 p C))=T at *;simp[N3,Df.run,BH,e1,e2,e3]
def sX(Γ:Gam):Prop:=∀(p:Ae)(C:C6)(x:R3),P4 p->InC p C->Am (tw0 C) (tw1 C) (tw2 C)%p≠0->In3 p x->AW p (tri x)=Ab 1->∃ y,In3 p y/\AW p (tri y)=Ab 1/\Pr p y (ap (bk0 (tw0 C) (tw1 C) (tw2 C)) (bk1 (tw0 C) (tw1 C) (tw2 C)) (bk2 (tw0 C) (tw1 C) (tw2 C)) x)/\Γ.F 149 [.int p,AY C,Aj Aa x]=.ok (Aj Aa y)
theorem nO(hq:Vm Γ)(hb:P8 Γ)(hl:Vo Γ)(p:Ae)(C:C6)(x:R3)(hp:P4 p)(iC:InC p C)(z:Am (tw0 C) (tw1 C) (tw2 C)%p≠0)(ix:In3 p x)(lx:AW p (tri x)=Ab 1):∃ y,In3 p y/\AW p (tri y)=Ab 1/\Pr p y (ap (bk0 (tw0 C) (tw1 C) (tw2 C)) (bk1 (tw0 C) (tw1 C) (tw2 C)) (bk2 (tw0 C) (tw1 C) (tw2 C)) x)/\Qd.run Γ [.int p,AY C,Aj Aa x]=.ok (Aj Aa y):=by
 obtain⟨a,b,c,⟨gd,k,kz,h0,h1,h2⟩,e1⟩:=hq p C hp iC z;have zB:Am (bk0 a b c) (bk1 a b c) (bk2 a b c)%p≠0:=by rw[Ik];exact Bm hp gd.nz gd.nz
 obtain⟨l,t,el,it,tz,gB,_⟩:=MI hp zB;have e2:=hb p a b c hp gd.ia gd.ib gd.ic gd.nz l t el it;obtain⟨y,j,l1,pr,e3⟩:=hl p _ _ _ x gB ix lx;obtain⟨b0,b1,b2⟩:=VM h0 h1 h2;obtain⟨s0,s1,s2⟩:=VL k (tw0 C) (tw1 C) (tw2 C);rw[s0]at b0;rw[s1]at b1;rw[s2]at b2;refine⟨y,j,l1,(pr.trans hp (Pr.tab tz (Ew p t _) (Ew p t _) (Ew p t _))).trans hp (Pr.tab (Bm hp kz kz) b0 b1 b2),?_⟩;generalize Bc (fmR p t (bk0 a b c)) (fmR p t (bk1 a b c)) (fmR p t (bk2 a b c))=TB at *;simp[Qd,Df.run,BH,e1,e2,e3]
theorem sS(a b c v:R3):ap a b c (ap (bk0 a b c) (bk1 a b c) (bk2 a b c) v)=AF (Am a b c) v:=by
 unfold ap AF Ar bk0 bk1 bk2 BA BG BF crs Am det;refine Bl ?_ (Bl ?_ ?_)<;>(simp only;grind)
noncomputable def QJ(mid:Ag):Df:=⟨1,Ad,(.cons (.ret (.idx (.lst (.cons (.int 3) (.cons (.int 5) (.cons (.int 7) (.cons (.int 11) .nil))))) (.bin .Mod (.bin .FloorDiv (.call mid (.cons (.var 0) (.cons (.int 0) .nil))) (.int 5)) (.int 4)))) .nil)⟩
def dG(Γ:Gam)(id:Ag)(ns:Ac Ae):Prop:=∃ p,P4 p/\Γ.F id [scr ns]=.ok (.int p)
theorem aY{mid:Ag}(h:M1 Γ mid ns):∃ p,P4 p/\(QJ mid).run Γ [scr ns]=.ok (.int p):=by
 obtain⟨m,m0,e⟩:=h 0 (by decide)
 refine⟨_,qC (m / 5),?_⟩;simp[QJ,Df.run,BH,e,aQ]
noncomputable def Mm:E:=(.and (.cons (.isi (.var 3) [.int]) (.cons (.no (.isi (.var 3) [.bool])) (.cons (.cmp2 .LtE .Lt (.int 0) (.var 3) (.var 0)) .nil))))
noncomputable def NK:E:=(.cmp .NotEq (.var 4) (.int 0))
noncomputable def KA:E:=(.var 4)
noncomputable def NG:Df:=⟨5,Ad,(.cons (.ife (.or (.cons (.no (.isi (.var 1) [.tuple])) (.cons (.cmp .NotEq (.bi .len (.cons (.var 1) .nil)) (.int 3)) .nil))) (.cons (.ret (.bl Ad)) .nil) .nil) (.cons (.ife (.no (.bi .all (.cons (.comp Mm 3 (.e (.var 1)) CB) .nil))) (.cons (.ret (.bl Ad)) .nil) .nil) (.cons (.asg 2 Ad (.comp KA 4 (.e (.var 1)) NK)) (.cons (.ret (.and (.cons (.cmp .Gt (.bi .len (.cons (.var 2) .nil)) (.int 0)) (.cons (.cmp .Eq (.idx (.var 2) (.int 0)) (.int 1)) .nil)))) .nil))))⟩
theorem nJ(Γ:Gam)(p:Ae)(x:R3)(ix:In3 p x)(lx:AW p (tri x)=Ab 1):NG.run Γ [.int p,Aj Aa x]=.ok (.bl Aa):=by
 have hin:∀ v∈tri x,0<=v/\v<p:=fun v hv=>by
  simp only[tri,Ax,AX,B8]at hv;rcases hv with rfl|rfl|rfl
  ·exact ix.1
  ·exact ix.2.1
  ·exact ix.2.2
 have sq:Cc (Aj Aa x)=.ok (ds (tri x)):=rfl;have c1:BJ (cG Γ [si p,sh (Aj Aa x),Af,Af,Af] 3 CB) (cF Γ [si p,sh (Aj Aa x),Af,Af,Af] 3 Mm) (ds (tri x))=.ok [.bl Aa,.bl Aa,.bl Aa]:=by
  have key:∀ v:Ae,0<=v/\v<p->cF Γ [si p,sh (Aj Aa x),Af,Af,Af] 3 Mm (.int v)=.ok (.bl Aa):=fun v h=>by
   simp[cF,Mm,kiD,h.1,h.2]
  have g:∀ v,cG Γ [si p,sh (Aj Aa x),Af,Af,Af] 3 CB v=.ok Aa:=fun _=>rfl
  show BJ _ _ [.int x.1,.int x.2.1,.int x.2.2]=_;simp[BJ,g,key _ ix.1,key _ ix.2.1,key _ ix.2.2]
 have c2:BJ (cG Γ [si p,sh (Aj Aa x),Af,Af,Af] 4 NK) (cF Γ [si p,sh (Aj Aa x),Af,Af,Af] 4 KA) (ds (tri x))=.ok (ds ((tri x).filter fun v=>decide (v≠0))):=by
  refine LA (tri x) fun v _=>⟨?_,?_⟩
  ·simp[cG,NK];rw[BU];simp
  ·simp[cF,KA]
 have hh:((tri x).filter fun v=>decide (v≠0)).head?=Ab 1:=by
  have key:∀ xs:Ac Ae,(∀ v∈xs,0<=v/\v<p)->AW p xs=(xs.filter fun v=>decide (v≠0)).head?:=fun xs=>by
   induction xs with
   |nil=>intro _;rfl
   |cons v xs ih=>
    intro h;have hv:=h v (Ay ..);have em:=AI hv.1 hv.2;have:=ih fun w hw=>h w (Au _ hw)
    unfold AW;rw[em,Dq];by_cases z:v=0
    ·rw[Az z,AH (by simp[z])]
     exact this
    ·rw[AH z,Az (by simp[z])]
     rfl
  rw[<-key (tri x) hin];exact lx
 generalize ((tri x).filter fun v=>decide (v≠0))=hs at c2 hh
 have g1:=MM hh;have l1:0<hs.length:=by cases hs with
  |nil=>cases hh
  |cons _ _=>simp
 have ln:biD .len [.lst (ds hs)]=.ok (.int (hs.length:Ae)):=by simp[ds]
 have l3:biD .len [Aj Aa x]=.ok (.int 3):=rfl;have ki:Fo Γ.up [.tuple] (Aj Aa x)=.ok (.bl Aa):=rfl;have al:biD .all [.lst [.bl Aa,.bl Aa,.bl Aa]]=.ok (.bl Aa):=rfl;have g1':BW (.lst (ds hs)) (.int 0)=.ok (.int 1):=g1;have l1':(0:Ae)<(hs.length:Ae):=by omega
 have hne:¬ hs=[]:=fun z=>by rw[z]at hh;cases hh
 simp[NG,Df.run,BH,ki,l3,sq,c1,al,c2,ln,l1',g1',hne]
noncomputable def Ow:Df:=⟨8,Ad,(.cons (.asgT [2,3,4] (.var 0)) (.cons (.asgT [5,6,7] (.var 1)) (.cons (.ret (.lst (.cons (.bin .Sub (.bin .Mult (.var 3) (.var 7)) (.bin .Mult (.var 4) (.var 6))) (.cons (.bin .Sub (.bin .Mult (.var 4) (.var 5)) (.bin .Mult (.var 2) (.var 7))) (.cons (.bin .Sub (.bin .Mult (.var 2) (.var 6)) (.bin .Mult (.var 3) (.var 5))) .nil))))) .nil)))⟩
noncomputable def NL:E:=(.bin .Mult (.var 7) (.var 8))
noncomputable def ND:Df:=⟨9,Ad,(.cons (.asgT [3,4,5] (.var 2)) (.cons (.asg 6 Ad (.lst (.cons (.bin .Mult (.var 3) (.var 3)) (.cons (.bin .Mult (.var 4) (.var 4)) (.cons (.bin .Mult (.var 5) (.var 5)) (.cons (.bin .Mult (.var 3) (.var 4)) (.cons (.bin .Mult (.var 3) (.var 5)) (.cons (.bin .Mult (.var 4) (.var 5)) .nil)))))))) (.cons (.ret (.bin .Mod (.bi .sum (.cons (.compT NL [7,8] (.zip (.var 1) (.var 6)) CB) .nil)) (.var 0))) .nil)))⟩
theorem PJ(x:R3):flD 5 (Aj Aa x)=Aa/\eqD (Aj Aa x) (Aj Aa x)=Aa:=by
 refine⟨rfl,?_⟩;show eqDs (ds [x.1,x.2.1,x.2.2]) (ds [x.1,x.2.1,x.2.2])=Aa;rw[U2]
section
variable{Γ:Gam}{ns:Ac Ae}{p:Ae}{C:C6}{s3 s4 s5 s6 s7 s8:Sl}
end
noncomputable def Lu:Ss:=(.cons (.asg 2 Ad (.bin .FloorDiv (.var 2) (.int 1000033))) .nil)
noncomputable def Ls:Df:=⟨4,Ad,(.cons (.asg 2 Ad (.int 0)) (.cons (.ife (.cmp .Gt (.bi .len (.cons (.var 0) .nil)) (.int 0)) (.cons (.asg 2 Ad (.idx (.var 0) (.bin .Mod (.var 1) (.bi .len (.cons (.var 0) .nil))))) .nil) .nil) (.cons (.ife (.cmp .Eq (.bin .Mod (.bi .len (.cons (.var 0) .nil)) (.int 2)) (.int 0)) (.cons (.fors 3 (.rng (.bi .min (.cons (.int 60) (.cons (.bin .FloorDiv (.var 1) (.bi .max (.cons (.int 1) (.cons (.bi .len (.cons (.var 0) .nil)) .nil)))) .nil)))) Lu) (.cons (.ret (.bin .Mod (.var 2) (.int 1000033))) .nil)) .nil) (.cons (.ret (.bin .Mod (.bin .Mult (.bin .Mod (.bin .Mult (.bin .Add (.bin .Add (.bin .Mod (.var 2) (.int 1000003)) (.bin .Mult (.int 7919) (.var 1))) (.int 11)) (.int 48271)) (.int 1000033)) (.int 69621)) (.int 1000033))) .nil))))⟩
section
variable{Γ:Gam}{ns:Ac Ae}
theorem bQ(k x:Ae)(n:Ag):∃ y s3,CS (CJ Γ 3 Lu) (FN 0 n) [sh (scr ns),si k,si x,Af]=.next [sh (scr ns),si k,si y,s3]:=by
 obtain⟨ρ',e,y,s3,rfl⟩:=OS (body:=CJ Γ 3 Lu) (fun ρ=>∃ y s3,ρ=[sh (scr ns),si k,si y,s3]) (FN 0 n) [sh (scr ns),si k,si x,Af] ⟨x,Af,rfl⟩ (by
  rintro z hz ρ ⟨y,s3,rfl⟩;obtain⟨j,_,rfl⟩:=bS hz;exact⟨[sh (scr ns),si k,si (y / 1000033),si (0+(j:Ae))],by simp[CJ,Lu],_,_,rfl⟩)
 exact⟨y,s3,e⟩
theorem nV(Γ:Gam)(ns:Ac Ae)(hl:ns.length<=63)(k:Ae)(k0:0<=k):∃ m,0<=m/\Ls.run Γ [scr ns,.int k]=.ok (.int m):=by
 have m1:Ei 7919 k=Aa:=HI (by decide) (by decide)
 have m2:∀ x,Ei x 48271=Aa:=fun x=>MS (by decide) (by decide)
 have m3:∀ x,Ei x 69621=Aa:=fun x=>MS (by decide) (by decide)
 generalize hn:(ns.length:Ae)=n;have n0:0<=n:=by omega
 have n1:n<=63:=by omega
 have len:biD .len [scr ns]=.ok (.int n):=by rw[<-hn];show R.ok (D.int ((ns.map D.int).length:Ag))=_;rw[Bp]
 have fin:∀ x hi:Ae,0<=hi->hi<=60->∃ y s3,QK Γ 3 Lu [sh (scr ns),si k,si x,Af] (Dt 0 hi)=.next [sh (scr ns),si k,si y,s3]:=fun x hi h0 h1=>by
  rw[Z5 h0 (by omega)]
  exact bQ (Γ:=Γ) (ns:=ns) k x hi.toNat
 have mx:0<(if 1<n then n else 1)/\(if 1<n then n else 1)<1073741824:=by split<;>omega
 generalize hM:(if 1<n then n else 1)=M at mx
 have hi:∀ q:Ae,0<=q->0<=(if q<60 then q else 60)/\(if q<60 then q else 60)<=60:=fun q h=>by split<;>omega
 have q0:0<=k / M:=Wm k0 (by omega)
 obtain⟨u1,u2⟩:=hi _ q0;by_cases hp:0<n
 ·have r0:0<=k%n:=A9 _ (by omega)
  have r1:k%n<ns.length:=by rw[hn];exact A7 _ hp
  have g:=kI r0 r1;generalize ns.getD (k%n).toNat 0=x at g;by_cases h2:n%2=0
  ·obtain⟨y,s3,e⟩:=fin x _ u1 u2;refine⟨y%1000033,A9 _ (by decide),?_⟩
   have gx:BW (scr ns) (.int (k%n))=.ok (.int x):=g;simp[Ls,Df.run,BH,len,hp,gx,h2,hM,mx.1,mx.2,e]
  ·refine⟨((x%1000003+7919*k+11)*48271%1000033)*69621%1000033,A9 _ (by decide),?_⟩
   have gx:BW (scr ns) (.int (k%n))=.ok (.int x):=g;simp[Ls,Df.run,BH,len,hp,gx,h2,m1,m2,m3]
 ·have z:n=0:=by omega
  subst z;obtain⟨y,s3,e⟩:=fin 0 _ u1 u2;refine⟨y%1000033,A9 _ (by decide),?_⟩
  have hM':M=1:=by rw[<-hM];rfl
  subst hM';simp at e;simp[Ls,Df.run,BH,len,e]
end
noncomputable def Qf:Df:=⟨3,Ad,(.cons (.ret (.call 17 (.cons (.var 0) (.cons (.call 23 (.cons (.var 1) (.cons (.var 2) .nil))) .nil)))) .nil)⟩
theorem Tf{a b:R3}(hp:P4 p)(h:CgR p (crs a b) (0,0,0))(la:AW p (tri a)=Ab 1)(lb:AW p (tri b)=Ab 1):Pr p b a:=by
 obtain⟨h0,h1,h2⟩:=h;have p1:1<p:=by have:=hp.lo;omega
 have sw:∀{x y:Ae},Cg p (x-y) 0->Cg p x y:=fun {x y} h=>by
  have:=h.add (Cg.rfl (a:=y))
  rwa [Wp,EV]at this
 have e0:Cg p (a.2.1*b.2.2) (a.2.2*b.2.1):=sw h0;have e1:Cg p (a.2.2*b.1) (a.1*b.2.2):=sw h1;have e2:Cg p (a.1*b.2.1) (a.2.1*b.1):=sw h2;have one:∀{x:Ae},x%p=1->Cg p x 1:=fun {x} h=>by show x%p=1%p;rw[h,AI (by decide) p1]
 have fin:∀ k,CgR p b (AF k a)->Pr p b a:=fun k hk=>by
  refine⟨k,fun z=>?_,hk⟩
  have:CgR p b (0,0,0):=by
   have kz:Cg p k 0:=by show k%p=0%p;rw[z,A5]
   refine hk.trans ((CgR.sc kz CgR.rfl).trans (CgR.of ?_));unfold AF;simp
  rw[Tq this]at lb;cases lb
 unfold tri AW at la;by_cases z0:a.1%p=0
 ·rw[Az z0]at la;have c0:Cg p a.1 0:=by show a.1%p=0%p;rw[z0,A5]
  unfold AW at la;by_cases z1:a.2.1%p=0
  ·rw[Az z1]at la;have c1:Cg p a.2.1 0:=by show a.2.1%p=0%p;rw[z1,A5]
   unfold AW at la;by_cases z2:a.2.2%p=0
   ·rw[Az z2]at la;cases la
   ·rw[AH z2,Ch]at la;have c2:=one la;refine fin b.2.2 ⟨?_,?_,?_⟩
    ·have:=(c2.symm.mul (Cg.rfl (a:=b.1))).trans e1;rw[CF]at this;exact this.trans (Cg.of (BY _ _))
    ·have:=(c2.symm.mul (Cg.rfl (a:=b.2.1))).trans e0.symm;rw[CF]at this;exact this.trans (Cg.of (BY _ _))
    ·have:=(Cg.rfl (a:=b.2.2)).mul c2;rw[El]at this;exact this.symm
  ·rw[AH z1,Ch]at la;have c1:=one la;refine fin b.2.1 ⟨?_,?_,?_⟩
   ·have:=(c1.symm.mul (Cg.rfl (a:=b.1))).trans e2.symm;rw[CF]at this;exact this.trans (Cg.of (BY _ _))
   ·have:=(Cg.rfl (a:=b.2.1)).mul c1;rw[El]at this;exact this.symm
   ·have:=(c1.symm.mul (Cg.rfl (a:=b.2.2))).trans e0;rw[CF]at this;exact this.trans (Cg.of (BY _ _))
 ·rw[AH z0,Ch]at la;have c0:=one la;refine fin b.1 ⟨?_,?_,?_⟩
  ·have:=(Cg.rfl (a:=b.1)).mul c0;rw[El]at this;exact this.symm
  ·have:=(c0.symm.mul (Cg.rfl (a:=b.2.1))).trans e2;rw[CF]at this;exact this.trans (Cg.of (BY _ _))
  ·have:=(c0.symm.mul (Cg.rfl (a:=b.2.2))).trans e1.symm;rw[CF]at this;exact this.trans (Cg.of (BY _ _))
def J3(Γ:Gam):Prop:=∀(p:Ae)(a b:R3),P4 p->In3 p a->In3 p b->AW p (tri a)=Ab 1->AW p (tri b)=Ab 1->a≠b->∃ y,In3 p y/\AW p (tri y)=Ab 1/\Pr p y (crs a b)/\Γ.F 57 [.int p,Aj Aa a,Aj Aa b]=.ok (Aj Aa y)
theorem mJ(hc:Up Γ)(hf:LS Γ)(p:Ae)(a b:R3)(hp:P4 p)(ia:In3 p a)(ib:In3 p b)(la:AW p (tri a)=Ab 1)(lb:AW p (tri b)=Ab 1)(ne:a≠b):∃ y,In3 p y/\AW p (tri y)=Ab 1/\Pr p y (crs a b)/\Qf.run Γ [.int p,Aj Aa a,Aj Aa b]=.ok (Aj Aa y):=by
 have e1:=hc a b ((Ci hp ia).b3 (by decide)) ((Ci hp ib).b3 (by decide)) ne
 cases el:AW p (tri (crs a b)) with
 |none=>exact absurd (T9 hp ib ia lb la (Tf hp (O0 el) la lb)).symm ne
 |some l=>
  obtain⟨u,iu,j,l1,pr,ef⟩:=O2 hp el;have e2:=hf p Aa _ l u hp el iu;rw[ef]at e2;have e2':Γ.F 17 [.int p,Aj Aa (crs a b)]=.ok (Aj Aa (fmR p u (crs a b))):=e2;refine⟨_,j,l1,pr,?_⟩;generalize Aj Aa (fmR p u (crs a b))=Y at *;simp[Qf,Df.run,BH,e1,e2']
noncomputable def Ou:E:=(.bin .Mult (.var 3) (.var 4))
noncomputable def OX:Df:=⟨5,Ad,(.cons (.ret (.cmp .Eq (.bin .Mod (.bi .sum (.cons (.compT Ou [3,4] (.zip (.var 2) (.var 1)) CB) .nil)) (.var 0)) (.int 0))) .nil)⟩
theorem YW(Γ:Gam)(p:Ae)(x y:R3)(hp:P4 p)(ix:In3 p x)(iy:In3 p y):OX.run Γ [.int p,Aj Aa x,Aj Aa y]=.ok (.bl (decide (Ar y x%p=0))):=by
 have p0:=hp.pos;have bx:=Ci hp ix;have by_:=Ci hp iy;have k:∀ {u v},Bd 10 u->Bd 10 v->E8 u v=Aa:=fun hu hv=>GU hu hv (by decide) (by decide)
 have k0:=k by_.1 bx.1;have k1:=k by_.2.1 bx.2.1;have k2:=k by_.2.2 bx.2.2;have sx:Cc (Aj Aa x)=.ok [.int x.1,.int x.2.1,.int x.2.2]:=rfl;have sy:Cc (Aj Aa y)=.ok [.int y.1,.int y.2.1,.int y.2.2]:=rfl;unfold Ar;generalize x.1=x0 at *;generalize x.2.1=x1 at *;generalize x.2.2=x2 at *;generalize y.1=y0 at *;generalize y.2.1=y1 at *;generalize y.2.2=y2 at *;generalize Aj Aa x=xx at *;generalize Aj Aa y=yy at *;have cp:BJ (cGT Γ [si p,sh xx,sh yy,Af,Af] [3,4] CB) (cFT Γ [si p,sh xx,sh yy,Af,Af] [3,4] Ou) (Fm [.int y0,.int y1,.int y2] [.int x0,.int x1,.int x2])=.ok [.int (y0*x0),.int (y1*x1),.int (y2*x2)]:=by
  simp[BJ,cGT,cFT,Fm,Ou,CB,k0,k1,k2]
 generalize hs:y0*x0+y1*x1+y2*x2=s;have sm:GW 0 [.int (y0*x0),.int (y1*x1),.int (y2*x2)]=.ok s:=by rw[<-hs];simp[GW]
 simp[OX,Df.run,BH,sx,sy,cp,sm,p0];rw[BU];simp
theorem jD(a b:R3):Ar (crs a b) a=0/\Ar (crs a b) b=0:=by
 unfold Ar crs;constructor<;>grind
theorem E7{x:Ae}(hp:P4 p)(kz:k%p≠0):k*x%p=0↔x%p=0:=by
 constructor
 ·intro z;exact Eb fun n=>Bm hp kz n z
 ·intro z;rw[A2,z,C8,A5]
theorem Qr(hp:P4 p)(hx:Pr p x x')(hy:Pr p y y'):(Ar x y%p=0)↔(Ar x' y'%p=0):=by
 obtain⟨d,dz,e⟩:=hx;obtain⟨d',dz',e'⟩:=hy;have q:Cg p (Ar x y) (d*d'*Ar x' y'):=(FI e e').trans (Cg.of (by unfold Ar AF;simp only;grind))
 rw[show Ar x y%p=_ from q]
 exact E7 hp (Bm hp dz dz')
section
variable{Γ:Gam}{ns:Ac Ae}{p:Ae}{C:C6}{s3 s4 s5 s6 s7 s8:Sl}
end
def NF(p:Ae)(x:R3):Prop:=In3 p x/\AW p (tri x)=Ab 1
noncomputable def ptI(p n:Ae):R3:=if n=0 then (0,0,1) else if n<=p then (0,1,n-1) else (1,(n-p-1) / p,(n-p-1)%p)
noncomputable def BX(p:Ae):Ac R3:=(Bb (p*p+p+1).toNat).map fun(n:Ag)=>ptI p n
theorem vO{n:Ae}(hp:P4 p)(h0:0<=n)(h1:n<p*p+p+1):NF p (ptI p n):=by
 have p1:1<p:=by have:=hp.lo;omega
 have p0:=hp.pos;unfold ptI;by_cases z:n=0
 ·rw[Az z];exact⟨⟨⟨by decide,p0⟩,⟨by decide,p0⟩,⟨by decide,p1⟩⟩,pU p1⟩
 ·rw[AH z];by_cases z1:n<=p
  ·rw[Az z1];exact⟨⟨⟨JK 0,p0⟩,⟨(by decide:(0:Ae)<=1),p1⟩,⟨by show 0<=n-1;omega,by show n-1<p;omega⟩⟩,xS p1 _⟩
  ·rw[AH z1];have d0:0<=(n-p-1) / p:=Wm (by omega) (by omega)
   have d1:(n-p-1) / p<p:=by rw[Int.ediv_lt_iff_lt_mul p0];omega
   exact⟨⟨⟨(by decide:(0:Ae)<=1),p1⟩,⟨d0,d1⟩,⟨A9 _ (by omega),A7 _ p0⟩⟩,Y2 p1 _ _⟩
theorem xL(hp:P4 p)(h:NF p x):∃ n:Ae,0<=n/\n<p*p+p+1/\x=ptI p n:=by
 obtain⟨⟨i0,i1,i2⟩,l⟩:=h;have p1:1<p:=by have:=hp.lo;omega
 have p0:=hp.pos;have pp:=JL p0 p0;obtain⟨x0,x1,x2⟩:=x;simp only at i0 i1 i2;unfold tri AW at l;simp only at l;rw[AI i0.1 i0.2]at l;by_cases z0:x0=0
 ·rw[Az z0]at l;unfold AW at l;rw[AI i1.1 i1.2]at l;by_cases z1:x1=0
  ·rw[Az z1]at l;unfold AW at l;rw[AI i2.1 i2.2]at l;by_cases z2:x2=0
   ·rw[Az z2]at l;cases l
   ·rw[AH z2,Ch]at l;exact⟨0,JK 0,by omega,by rw[z0,z1,l];rfl⟩
  ·rw[AH z1,Ch]at l;refine⟨x2+1,by omega,by omega,?_⟩
   unfold ptI;rw[AH (by omega),Az (by omega),z0,l,Int.add_sub_cancel]
 ·rw[AH z0,Ch]at l;have m1:p*x1<=p*(p-1):=Int.mul_le_mul_of_nonneg_left (by omega) (by omega)
  have m0:0<=p*x1:=Int.mul_nonneg (by omega) i1.1
  rw[Wo,El]at m1;refine⟨p+1+p*x1+x2,by omega,by omega,?_⟩
  unfold ptI;have e:p+1+p*x1+x2-p-1=x2+p*x1:=by omega
  rw[AH (by omega),AH (by omega),e,Int.add_mul_ediv_left _ _ (by omega),Int.ediv_eq_zero_of_lt i2.1 i2.2,Fa,AI i2.1 i2.2,EV,l]
theorem Eh(hp:P4 p):x∈BX p↔NF p x:=by
 have p0:=hp.pos;have pp:=JL p0 p0;constructor
 ·intro h;obtain⟨n,hn,rfl⟩:=Cw.mp h;have:=Ct.mp hn;exact vO hp (by omega) (by omega)
 ·intro h;obtain⟨n,n0,n1,rfl⟩:=xL hp h;refine Cw.mpr ⟨n.toNat,Ct.mpr (by omega),?_⟩
  rw[Ws n0]
theorem LH(hp:P4 p):(BX p).Nodup:=by
 rcases hp with rfl|rfl|rfl|rfl<;>decide +kernel
theorem Pj{α:Type}[DecidableEq α]:∀{l1 l2:Ac α},l1.Nodup->(∀ x∈l1,x∈l2)->l1.length<=l2.length
 |[],_,_,_=>CV _
 |x::l1,l2,nd,h=>by
  obtain⟨n1,n2⟩:=B5.mp nd;have hx:=h x Ay;have:=Pj (l1:=l1) (l2:=l2.erase x) n2 fun y hy=>by
   have hy2:=h y (Au _ hy);have ne:y≠x:=fun e=>n1 (e ▸ hy)
   exact(WN ne).mpr hy2
  rw[WG hx]at this;have l0:0<l2.length:=List.length_pos_of_mem hx;rw[Cm];omega
theorem OJ{α β:Type}{f:α->β}:∀{l:Ac α},l.Nodup->(∀ x∈l,∀ y∈l,f x=f y->x=y)->(l.map f).Nodup
 |[],_,_=>WP
 |x::l,nd,h=>by
  obtain⟨n1,n2⟩:=B5.mp nd;rw[BQ,B5];refine⟨fun m=>?_,OJ n2 fun y hy z hz=>h y (Au _ hy) z (Au _ hz)⟩
  obtain⟨y,hy,e⟩:=Cw.mp m;have:=h y (Au _ hy) x Ay e;exact n1 (this ▸ hy)
theorem jH[DecidableEq α]{l:Ac α}(nd:l.Nodup)(F G:α->α)(hF:∀ x∈l,F x∈l)(hG:∀ y∈l,G y∈l)(GF:∀ x∈l,G (F x)=x)(FG:∀ y∈l,F (G y)=y)(Q:α->Ao):(l.filter fun x=>Q (F x)).length=(l.filter Q).length:=by
 refine HZ ?_ ?_
 ·have n:((l.filter fun x=>Q (F x)).map F).Nodup:=OJ (nd.filter _) fun x hx y hy e=>by
   have h1:=GF x (AR.mp hx).1;have h2:=GF y (AR.mp hy).1;rw[<-h1,<-h2,e]
  have:=Pj (l2:=l.filter Q) n fun z hz=>by
   obtain⟨x,hx,rfl⟩:=Cw.mp hz;obtain⟨h1,h2⟩:=AR.mp hx;exact AR.mpr ⟨hF x h1,h2⟩
  rwa [Bp]at this
 ·have n:((l.filter Q).map G).Nodup:=OJ (nd.filter _) fun x hx y hy e=>by
   have h1:=FG x (AR.mp hx).1;have h2:=FG y (AR.mp hy).1;rw[<-h1,<-h2,e]
  have:=Pj (l2:=l.filter fun x=>Q (F x)) n fun z hz=>by
   obtain⟨x,hx,rfl⟩:=Cw.mp hz;obtain⟨h1,h2⟩:=AR.mp hx;exact AR.mpr ⟨hG x h1,by rw[FG x h1];exact h2⟩
  rwa [Bp]at this
noncomputable def nrm(p:Ae)(r:R3):R3:=open Classical in if h:∃ y,NF p y/\Pr p y r then Wk h else r
theorem OO{p l:Ae}(hp:P4 p)(el:AW p (tri r)=Ab l):NF p (nrm p r)/\Pr p (nrm p r) r:=by
 have h:∃ y,NF p y/\Pr p y r:=by
  obtain⟨u,iu,j,l1,pr,_⟩:=O2 hp el;exact⟨_,⟨j,l1⟩,pr⟩
 unfold nrm;rw[dif_pos h];exact EU h
theorem Hb{a b c x:R3}(hp:P4 p)(z:Am a b c%p≠0)(hx:NF p x):NF p (nrm p (ap a b c x))/\Pr p (nrm p (ap a b c x)) (ap a b c x):=by
 obtain⟨l,el⟩:=Uf hp z hx.2 CgR.rfl;exact OO hp el
theorem L5(hp:P4 p)(hx:NF p x)(hy:NF p y)(h:Pr p x y):x=y:=T9 hp hx.1 hy.1 hx.2 hy.2 h
theorem LI{a b c x:R3}(hp:P4 p)(z:Am a b c%p≠0)(hx:NF p x):nrm p (ap (bk0 a b c) (bk1 a b c) (bk2 a b c) (nrm p (ap a b c x)))=x:=by
 obtain⟨h1,h2⟩:=Hb hp z hx;have zB:Am (bk0 a b c) (bk1 a b c) (bk2 a b c)%p≠0:=by rw[Ik];exact Bm hp z z
 obtain⟨h3,h4⟩:=Hb hp zB h1;refine L5 hp h3 hx (h4.trans hp ((Pr.ap h2).trans hp ?_));rw[QA];exact⟨_,z,CgR.rfl⟩
theorem Sn{a b c x:R3}(hp:P4 p)(z:Am a b c%p≠0)(hx:NF p x):nrm p (ap a b c (nrm p (ap (bk0 a b c) (bk1 a b c) (bk2 a b c) x)))=x:=by
 have zB:Am (bk0 a b c) (bk1 a b c) (bk2 a b c)%p≠0:=by rw[Ik];exact Bm hp z z
 obtain⟨h1,h2⟩:=Hb hp zB hx;obtain⟨h3,h4⟩:=Hb hp z h1;refine L5 hp h3 hx (h4.trans hp ((Pr.ap h2).trans hp ?_));rw[sS];exact⟨_,z,CgR.rfl⟩
theorem jG{a b c:R3}(hp:P4 p)(z:Am a b c%p≠0)(Q:R3->Ao):((BX p).filter fun x=>Q (nrm p (ap a b c x))).length=((BX p).filter Q).length:=by
 have zB:Am (bk0 a b c) (bk1 a b c) (bk2 a b c)%p≠0:=by rw[Ik];exact Bm hp z z
 exact jH (LH hp) (fun x=>nrm p (ap a b c x)) (fun x=>nrm p (ap (bk0 a b c) (bk1 a b c) (bk2 a b c) x)) (fun x hx=>(Eh hp).mpr (Hb hp z ((Eh hp).mp hx)).1) (fun x hx=>(Eh hp).mpr (Hb hp zB ((Eh hp).mp hx)).1) (fun x hx=>LI hp z ((Eh hp).mp hx)) (fun x hx=>Sn hp z ((Eh hp).mp hx)) Q
noncomputable def CI(p:Ae):Ae:=if p=7 then 3 else 2
noncomputable def q4(w:Ag)(k:Ae)(y:R3):Ae:=match w with
  |0=>y.1*y.2.2-y.2.1*y.2.1
  |1=>y.1*y.1
  |2=>y.1*y.2.1
  |_=>y.1*y.1-k*(y.2.1*y.2.1)
noncomputable def E4(w:Ag)(k:Ae)(a b c:R3):C6:=match w with
  |0=>Ej (prd a c) (prd b b)
  |1=>prd a a
  |2=>prd a b
  |_=>Ej (prd a a) (scC k (prd b b))
def W4(w:Ag):Prop:=w=0\/w=1\/w=2\/w=3
theorem He(u v x:R3):vI (prd u v) x=Ar u x*Ar v x:=by
 unfold vI prd Ar;simp only;grind
theorem KO(A B:C6)(x:R3):vI (Ej A B) x=vI A x-vI B x:=by
 unfold vI Ej;simp only;grind
theorem KP(k:Ae)(A:C6)(x:R3):vI (scC k A) x=k*vI A x:=by
 unfold vI scC;simp only;grind
theorem Ym(hw:W4 w)(k:Ae)(a b c x:R3):vI (E4 w k a b c) x=q4 w k (ap a b c x):=by
 rcases hw with rfl|rfl|rfl|rfl
 ·show vI (Ej _ _) x=Ar a x*Ar c x-Ar b x*Ar b x;rw[KO,He,He]
 ·show vI (prd _ _) x=Ar a x*Ar a x;rw[He]
 ·show vI (prd _ _) x=Ar a x*Ar b x;rw[He]
 ·show vI (Ej _ _) x=Ar a x*Ar a x-k*(Ar b x*Ar b x);rw[KO,KP,He,He]
theorem vK(hw:W4 w)(k d:Ae)(y:R3):q4 w k (AF d y)=d*d*q4 w k y:=by
 rcases hw with rfl|rfl|rfl|rfl<;>(unfold q4 AF;simp only;grind)
theorem vM(hw:W4 w)(h:CgR p y y'):Cg p (q4 w k y) (q4 w k y'):=by
 rcases hw with rfl|rfl|rfl|rfl
 ·exact(h.1.mul h.2.2).sub (h.2.1.mul h.2.1)
 ·exact h.1.mul h.1
 ·exact h.1.mul h.2.1
 ·exact(h.1.mul h.1).sub (Cg.rfl.mul (h.2.1.mul h.2.1))
theorem vL(hw:W4 w)(hp:P4 p)(h:Pr p y y'):(q4 w k y%p=0)↔(q4 w k y'%p=0):=by
 obtain⟨d,dz,e⟩:=h;have q:=(vM (k:=k) hw e).trans (Cg.of (vK hw k d y'));rw[show q4 w k y%p=_ from q]
 exact E7 hp (Bm hp dz dz)
theorem Qm(hw:W4 w){a b c x:R3}(hp:P4 p)(z:Am a b c%p≠0)(h:PrC p C (E4 w k a b c))(hx:NF p x):(vI C x%p=0)↔(q4 w k (nrm p (ap a b c x))%p=0):=by
 rw[vL hw hp (Hb hp z hx).2,<-Ym hw];obtain⟨d,dz,e⟩:=h;have q:=(IX e CgR.rfl (x:=x)).trans (Cg.of (KP d _ x));rw[show vI C x%p=_ from q]
 exact E7 hp dz
noncomputable def GC(p:Ae)(w:Ag):Ag:=match w with
  |0=>(p+1).toNat
  |1=>(p+1).toNat
  |2=>(2*p+1).toNat
  |_=>1
theorem YA(hp:P4 p)(hw:W4 w):((BX p).filter fun y=>decide (q4 w (CI p) y%p=0)).length=GC p w:=by
 rcases hp with rfl|rfl|rfl|rfl<;>rcases hw with rfl|rfl|rfl|rfl<;>decide +kernel
noncomputable def AZ(p:Ae)(C:C6):Ac R3:=(BX p).filter fun x=>decide (vI C x%p=0)
theorem JZ(hw:W4 w){a b c:R3}(hp:P4 p)(z:Am a b c%p≠0)(h:PrC p C (E4 w (CI p) a b c)):(AZ p C).length=GC p w:=by
 rw[<-YA hp hw,<-jG hp z];unfold AZ
 congr 1
 refine FV fun x hx=>?_
 rw[EA];exact Qm hw hp z h ((Eh hp).mp hx)
noncomputable def no3(p:Ae)(l:Ac R3):Ao:=l.all fun x=>l.all fun y=>l.all fun u=>decide (x=y)||decide (x=u)||decide (y=u)||decide (Am x y u%p≠0)
theorem rF(hp:P4 p):no3 p ((BX p).filter fun y=>decide (q4 0 (CI p) y%p=0))=Aa:=by
 rcases hp with rfl|rfl|rfl|rfl<;>decide +kernel
theorem iN{a b c:R3}(hp:P4 p)(z:Am a b c%p≠0)(h:PrC p C (E4 0 (CI p) a b c)){u:R3}(hx:x∈AZ p C)(hy:y∈AZ p C)(hu:u∈AZ p C)(n1:x≠y)(n2:x≠u)(n3:y≠u):Am x y u%p≠0:=by
 have hw:W4 0:=.inl rfl;have led:∀{x:R3},x∈AZ p C->NF p x/\nrm p (ap a b c x)∈((BX p).filter fun y=>decide (q4 0 (CI p) y%p=0))/\Pr p (nrm p (ap a b c x)) (ap a b c x):=fun {x} hx=>by
  obtain⟨h1,h2⟩:=AR.mp hx;have nx:=(Eh hp).mp h1;obtain⟨s1,s2⟩:=Hb hp z nx;refine⟨nx,AR.mpr ⟨(Eh hp).mpr s1,?_⟩,s2⟩;rw[AK]at h2 ⊢;exact(Qm hw hp z h nx).mp h2
 obtain⟨nx,mx,px⟩:=led hx;obtain⟨ny,my,py⟩:=led hy;obtain⟨nu,mu,pu⟩:=led hu;have inj:∀{x y:R3},NF p x->NF p y->x≠y->nrm p (ap a b c x)≠nrm p (ap a b c y):=fun {x y} hx hy ne e=>ne (by rw[<-LI hp z hx,<-LI hp z hy,e])
 have all:=rF hp;unfold no3 at all;rw[Ck]at all;have a1:=all _ mx;rw[Ck]at a1;have a2:=a1 _ my;rw[Ck]at a2;have a3:=a2 _ mu;simp only[Cu,AK]at a3;rcases a3 with ((e|e)|e)|e
 ·exact absurd e (inj nx ny n1)
 ·exact absurd e (inj nx nu n2)
 ·exact absurd e (inj ny nu n3)
 ·intro z0;obtain⟨d1,_,g1⟩:=px;obtain⟨d2,_,g2⟩:=py;obtain⟨d3,_,g3⟩:=pu;have q:=KJ g1 g2 g3;refine e ?_;rw[show Am _ _ _%p=_ from q,A2,A2 (Am a b c),z0,C8,A5,C8,A5]
theorem rC(hw:W4 w)(k:Ae)(a b c:R3):Am (tw0 (E4 w k a b c)) (tw1 (E4 w k a b c)) (tw2 (E4 w k a b c))=if w=0 then 2*(Am a b c*Am a b c) else 0:=by
 rcases hw with rfl|rfl|rfl|rfl
 ·exact aK a b c
 ·unfold E4 tw0 tw1 tw2 prd Am det;simp only;grind
 ·unfold E4 tw0 tw1 tw2 prd Am det;simp only;grind
 ·unfold E4 tw0 tw1 tw2 prd Ej scC Am det;simp only;grind
theorem LZ(hw:W4 w){a b c:R3}(hp:P4 p)(z:Am a b c%p≠0)(h:PrC p C (E4 w k a b c)):(Am (tw0 C) (tw1 C) (tw2 C)%p≠0)↔w=0:=by
 obtain⟨d,dz,cg⟩:=h;obtain⟨x0,x1,x2⟩:=L8 cg;have e:=(IR x0 x1 x2).trans (Cg.of ((Us d _).trans (by rw[rC hw])))
 rw[show Am (tw0 C) (tw1 C) (tw2 C)%p=_ from e]
 by_cases h0:w=0
 ·rw[Az h0];exact⟨fun _=>h0,fun _=>Bm hp (nz3 hp dz dz dz) (Bm hp hp.two (Bm hp z z))⟩
 ·rw[AH h0,C8,A5];exact⟨fun n=>absurd rfl n,fun e=>absurd e h0⟩
noncomputable def BR(pts:Ac R3):D:=.lst (pts.map (Aj Aa))
theorem JV{g:D->R Ao}{f:D->R D}{q:R3->Ao}:∀(xs:Ac R3),(∀ x∈xs,g (Aj Aa x)=.ok (q x)/\f (Aj Aa x)=.ok (Aj Aa x))->BJ g f (xs.map (Aj Aa))=.ok ((xs.filter q).map (Aj Aa))
 |[],_=>rfl
 |x::xs,h=>by
  obtain⟨h1,h2⟩:=h x (Ay ..);have ih:=JV xs fun y hy=>h y (Au _ hy)
  show (g (Aj Aa x)).bind _=_;rw[h1,R.bind_ok,Dq];cases hq:q x with
  |true=>
   rw[Az rfl,Az rfl,h2,R.bind_ok,show BJ g f (Li (Aj Aa) xs)=_ from ih]
   rfl
  |false=>
   rw[AH (by decide),AH (by decide)]
   exact ih
noncomputable def Ze:Ss:=(.cons (.app 1 (.tup (.cons (.int 0) (.cons (.int 1) (.cons (.var 2) .nil))))) .nil)
noncomputable def Zf:E:=(.tup (.cons (.int 1) (.cons (.var 3) (.cons (.var 4) .nil))))
noncomputable def Zi:Ss:=(.cons (.ext 1 (.comp Zf 4 (.rng (.var 0)) CB)) .nil)
noncomputable def OB:Df:=⟨5,Aa,(.cons (.asg 1 Aa (.lst (.cons (.tup (.cons (.int 0) (.cons (.int 0) (.cons (.int 1) .nil)))) .nil))) (.cons (.fors 2 (.rng (.var 0)) Ze) (.cons (.fors 3 (.rng (.var 0)) Zi) (.cons (.ret (.var 1)) .nil))))⟩
def V8(Γ:Gam):Prop:=∀ p:Ae,P4 p->Γ.F 69 [.int p]=.ok (BR (BX p))
theorem uW(Γ:Gam)(p:Ae)(hp:P4 p):OB.run Γ [.int p]=.ok (BR (BX p)):=by
 rcases hp with rfl|rfl|rfl|rfl<;>kernel_rfl!
noncomputable def NB:E:=(.cmp .Eq (.call 126 (.cons (.var 0) (.cons (.var 1) (.cons (.var 2) .nil)))) (.int 0))
noncomputable def NC:E:=(.var 2)
noncomputable def MC:Df:=⟨3,Aa,(.cons (.ret (.comp NC 2 (.e (.call 69 (.cons (.var 0) .nil))) NB)) .nil)⟩
def Pq(Γ:Gam):Prop:=∀(p:Ae)(C:C6),P4 p->InC p C->Γ.F 128 [.int p,AY C]=.ok (BR (AZ p C))
theorem gY(ht:V8 Γ)(hv:Uh Γ)(p:Ae)(C:C6)(hp:P4 p)(iC:InC p C):MC.run Γ [.int p,AY C]=.ok (BR (AZ p C)):=by
 have e1:=ht p hp;have cp:BJ (cG Γ [si p,sh (AY C),Af] 2 NB) (cF Γ [si p,sh (AY C),Af] 2 NC) ((BX p).map (Aj Aa))=.ok ((AZ p C).map (Aj Aa)):=by
  refine JV (BX p) fun x hx=>⟨?_,?_⟩
  ·have e:=hv p C x hp iC ((Eh hp).mp hx).1;generalize vI C x%p=v at *;simp[cG,NB,e];rw[BU];simp
  ·simp[cF,NC]
 have sq:Cc (BR (BX p))=.ok ((BX p).map (Aj Aa)):=rfl;generalize BX p=A at *;generalize BR A=AA at *;simp[MC,Df.run,BH,e1,sq,cp];rfl
def xX(Γ:Gam):Prop:=∀(p n:Ae),P4 p->0<=n->n<p*p+p+1->Γ.F 157 [.int p,.int n]=.ok (Aj Aa (ptI p n))
theorem uX(Γ:Gam)(p n:Ae)(hp:P4 p)(h0:0<=n)(h1:n<p*p+p+1):LB.run Γ [.int p,.int n]=.ok (Aj Aa (ptI p n)):=by
 have pp:Ei p p=Aa:=HI (by have:=hp.lo;omega) (by have:=hp.hi;omega)
 have p0:=hp.pos;have ph:=hp.hi;have N0:0<p*p+p+1:=by have:=JL p0 p0;omega
 have hr:n%(p*p+p+1)=n:=AI h0 h1;have pb:p<1073741824:=by omega
 unfold ptI;by_cases z0:n=0
 ·rw[Az z0];simp[LB,Df.run,BH,pp,N0,hr,z0];rfl
 ·rw[AH z0];by_cases z1:n<=p
  ·rw[Az z1];simp[LB,Df.run,BH,pp,N0,hr,z0,z1];rfl
  ·rw[AH z1];simp[LB,Df.run,BH,pp,N0,hr,z0,z1,p0,pb];rfl
noncomputable def Lv:E:=(.call 157 (.cons (.var 0) (.cons (.var 1) .nil)))
noncomputable def Mr:Df:=⟨2,Ad,(.cons (.ret (.comp Lv 1 (.rng (.bin .Add (.bin .Add (.bin .Mult (.var 0) (.var 0)) (.var 0)) (.int 1))) CB)) .nil)⟩
def QB(Γ:Gam):Prop:=∀ p:Ae,P4 p->Γ.F 164 [.int p]=.ok (BR (BX p))
theorem vE(h:xX Γ)(p:Ae)(hp:P4 p):Mr.run Γ [.int p]=.ok (BR (BX p)):=by
 have pp:Ei p p=Aa:=HI (by have:=hp.lo;omega) (by have:=hp.hi;omega)
 have N1:0<=p*p+p+1/\p*p+p+1<=1000:=by rcases hp with rfl|rfl|rfl|rfl<;>decide
 have rg:Dt 0 (p*p+p+1)=.ok (FN 0 (p*p+p+1-0).toNat):=Z2 (by decide) (by decide) (by omega) (by omega)
 rw[Jh]at rg;have cp:BJ (cG Γ [si p,Af] 1 CB) (cF Γ [si p,Af] 1 Lv) (FN 0 (p*p+p+1).toNat)=.ok ((BX p).map (Aj Aa)):=by
  have key:∀ L:Ac Ag,(∀ k∈L,(k:Ae)<p*p+p+1)->BJ (cG Γ [si p,Af] 1 CB) (cF Γ [si p,Af] 1 Lv) (L.map fun(k:Ag)=>D.int (0+(k:Ae)))=.ok ((L.map fun(n:Ag)=>ptI p n).map (Aj Aa)):=fun L=>by
   induction L with
   |nil=>intro _;rfl
   |cons k L ih=>
    intro hL;have e:=h p k hp (by omega) (hL k Ay)
    have f:cF Γ [si p,Af] 1 Lv (.int (0+(k:Ae)))=.ok (Aj Aa (ptI p k)):=by
     rw[EV];simp[cF,Lv,e]
    have ih':=ih fun m hm=>hL m (Au _ hm)
    show (R.ok Aa).bind _=_;rw[R.bind_ok,Az rfl,f,R.bind_ok,show BJ _ _ (Li _ L)=_ from ih']
    rfl
  exact key _ fun k hk=>by have:=Ct.mp hk;omega
 generalize hN:p*p+p+1=N at *;generalize FN 0 N.toNat=RL at *;have e1:p*p+p+1=N:=hN;simp[Mr,Df.run,BH,pp,e1,rg,cp];rfl
def V6(Γ:Gam):Prop:=∀(p:Ae)(C:C6),P4 p->InC p C->Γ.F 136 [.int p,AY C]=.ok (.bl (decide (Am (tw0 C) (tw1 C) (tw2 C)%p≠0)))
theorem uU(ht:LR Γ)(hm:KN Γ)(p:Ae)(C:C6)(hp:P4 p)(iC:InC p C):LK.run Γ [.int p,AY C]=.ok (.bl (decide (Am (tw0 C) (tw1 C) (tw2 C)%p≠0))):=by
 obtain⟨h0,h1,h2⟩:=Nr hp iC;have e1:=ht p C hp;have e2:=hm p Aa (t0 p C) (t1 p C) (t2 p C) hp.pos ((Ci hp h0).b3 (by decide)) ((Ci hp h1).b3 (by decide)) ((Ci hp h2).b3 (by decide))
 have td:Am (t0 p C) (t1 p C) (t2 p C)%p=Am (tw0 C) (tw1 C) (tw2 C)%p:=let ⟨h0,h1,h2⟩:=Nt p C;IR h0 h1 h2
 rw[td]at e2;have k0:BW (Bc (t0 p C) (t1 p C) (t2 p C)) (.int 0)=.ok (Aj Aa (t0 p C)):=rfl;have k1:BW (Bc (t0 p C) (t1 p C) (t2 p C)) (.int 1)=.ok (Aj Aa (t1 p C)):=rfl;have k2:BW (Bc (t0 p C) (t1 p C) (t2 p C)) (.int 2)=.ok (Aj Aa (t2 p C)):=rfl;generalize Am (tw0 C) (tw1 C) (tw2 C)%p=d at *;simp[LK,Df.run,BH,e1,e2,k0,k1,k2];rw[BU];simp
def VY(Γ:Gam):Prop:=∀(p:Ae)(a b:R3),P4 p->In3 p a->In3 p b->Γ.F 161 [Aj Aa a,Aj Aa b]=.ok (Fn (crs a b))
theorem vC(Γ:Gam)(p:Ae)(a b:R3)(hp:P4 p)(ia:In3 p a)(ib:In3 p b):Ow.run Γ [Aj Aa a,Aj Aa b]=.ok (Fn (crs a b)):=by
 have ba:=Ci hp ia;have bb:=Ci hp ib;have k:∀ {u v},Bd 10 u->Bd 10 v->E8 u v=Aa:=fun hu hv=>GU hu hv (by decide) (by decide)
 obtain⟨a0,a1,a2⟩:=a;obtain⟨b0,b1,b2⟩:=b;have ea:∀(x y z:Ae)(i j k:Ag)(ρ:Rho),HM [i,j,k] (Aj Aa (x,y,z)) ρ=.ok (((ρ.set i (si x)).set j (si y)).set k (si z)):=fun _ _ _ _ _ _ _=>rfl
 simp[Ow,Df.run,BH,ea,k ba.2.1 bb.2.2,k ba.2.2 bb.2.1,k ba.2.2 bb.1,k ba.1 bb.2.2,k ba.1 bb.2.1,k ba.2.1 bb.1];rfl
noncomputable def NN:Df:=⟨7,Ad,(.cons (.asgT [4,5,6] (.call 161 (.cons (.var 1) (.cons (.var 2) .nil)))) (.cons (.ret (.bin .Mod (.bin .Add (.bin .Add (.bin .Mult (.var 4) (.idx (.var 3) (.int 0))) (.bin .Mult (.var 5) (.idx (.var 3) (.int 1)))) (.bin .Mult (.var 6) (.idx (.var 3) (.int 2)))) (.var 0))) .nil))⟩
def V9(Γ:Gam):Prop:=∀(p:Ae)(a b c:R3),P4 p->In3 p a->In3 p b->In3 p c->Γ.F 165 [.int p,Aj Aa a,Aj Aa b,Aj Aa c]=.ok (.int (Am a b c%p))
theorem O6(a b c:R3):Ar (crs a b) c=Am a b c:=by
 unfold Ar crs Am det;grind
theorem uZ(h:VY Γ)(p:Ae)(a b c:R3)(hp:P4 p)(ia:In3 p a)(ib:In3 p b)(ic:In3 p c):NN.run Γ [.int p,Aj Aa a,Aj Aa b,Aj Aa c]=.ok (.int (Am a b c%p)):=by
 have e1:=h p a b hp ia ib;have bc:=Ci hp ic;have bx:=Nh (Ci hp ia) (Ci hp ib);have k:∀ {u v},Bd 21 u->Bd 10 v->E8 u v=Aa:=fun hu hv=>GU hu hv (by decide) (by decide)
 have k0:=k bx.1 bc.1;have k1:=k bx.2.1 bc.2.1;have k2:=k bx.2.2 bc.2.2;have p0:=hp.pos;obtain⟨x0,x1,x2⟩:=GS Aa c;rw[<-O6];unfold Ar;generalize crs a b=w at *;obtain⟨w0,w1,w2⟩:=w;have ea:∀ ρ:Rho,HM [4,5,6] (Fn (w0,w1,w2)) ρ=.ok (((ρ.set 4 (si w0)).set 5 (si w1)).set 6 (si w2)):=fun _=>rfl
 generalize Fn (w0,w1,w2)=ww at *;simp[NN,Df.run,BH,e1,ea,x0,x1,x2,k0,k1,k2,p0]
theorem KW{pts:Ac R3}{i:Ag}(h:pts[i]?=Ab x):BW (BR pts) (.int (i:Ae))=.ok (Aj Aa x):=by
 show D0 (pts.map (Aj Aa)) (i:Ae)=_;refine MH (by omega) ?_
 have hi:i<pts.length:=(Ba.mp h).1;rw[Hm,D4,h];rfl
section
variable{Γ:Gam}{p i j k d N:Ae}{PP x y u:D}{RL:Ac D}{s t s' t' v:Sl}
end
section
variable{Γ:Gam}{p:Ae}{pts:Ac R3}
end
theorem TF:∀ pts:Ac R3,flD 5 (BR pts)=Aa/\eqD (BR pts) (BR pts)=Aa:=fun pts=>by
 have k1:∀ l:Ac R3,(l.map (Aj Aa)).all (flD 4)=Aa:=fun l=>by
  rw[Ck];intro x hx;obtain⟨y,_,rfl⟩:=Cw.mp hx;rfl
 have k2:∀ l:Ac R3,eqDs (l.map (Aj Aa)) (l.map (Aj Aa))=Aa:=fun l=>by
  induction l with
  |nil=>rfl
  |cons x l ih=>
   show (eqD (Aj Aa x) (Aj Aa x)&&eqDs (l.map (Aj Aa)) (l.map (Aj Aa)))=Aa;rw[(PJ x).2,ih];rfl
 exact⟨k1 pts,k2 pts⟩
theorem Pw(x:R3):Aj Aa x=tI (tri x):=by
 unfold Aj Dp;rw[Az rfl];rfl
theorem RG[DecidableEq α]{l:Ac α}{q:α->Ao}{y:α}(nd:l.Nodup)(hy:y∈l)(h:∀ x∈l,q x=Aa↔x=y):l.filter q=[y]:=by
 have hm:∀ x,x∈l.filter q↔x∈[y]:=fun x=>by
  rw[AR,Bs];constructor
  ·rintro⟨h1,h2⟩;exact(h x h1).mp h2
  ·rintro rfl;exact⟨hy,(h x hy).mpr rfl⟩
 exact List.perm_singleton.mp (RJ (nd.filter _) (by simp) hm)
theorem jE(u v x:R3):crs (crs u v) x=(v.1*Ar u x-u.1*Ar v x,v.2.1*Ar u x-u.2.1*Ar v x,v.2.2*Ar u x-u.2.2*Ar v x):=by
 unfold crs Ar;simp only;refine Bl ?_ (Bl ?_ ?_)<;>(simp only;grind)
theorem UE(k l:Ae)(a b:R3):crs (AF k a) (AF l b)=AF (k*l) (crs a b):=by
 unfold crs AF;simp only;refine Bl ?_ (Bl ?_ ?_)<;>(simp only;grind)
theorem Pr.crs{a b a' b':R3}(hp:P4 p)(h:Pr p a a')(g:Pr p b b'):Pr p (OvC.crs a b) (OvC.crs a' b'):=by
 obtain⟨d,dz,e⟩:=h;obtain⟨d',dz',e'⟩:=g;exact⟨d*d',Bm hp dz dz',(L7 e e').trans (CgR.of (UE ..))⟩
theorem S0{u v:R3}(hp:P4 p)(hy:NF p y)(hx:NF p x)(py:Pr p y (crs u v))(h1:Ar u x%p=0)(h2:Ar v x%p=0):x=y:=by
 refine L5 hp hx hy (Tf hp ?_ hy.2 hx.2);obtain⟨d,dz,e⟩:=py;have c1:Cg p (Ar u x) 0:=by show _%p=0%p;rw[h1,A5]
 have c2:Cg p (Ar v x) 0:=by show _%p=0%p;rw[h2,A5]
 have key:∀ s t:Ae,Cg p (d*(s*Ar u x-t*Ar v x)) 0:=fun s t=>((Cg.rfl (a:=d)).mul (((Cg.rfl (a:=s)).mul c1).sub ((Cg.rfl (a:=t)).mul c2))).trans (Cg.of (by simp))
 refine(L7 e CgR.rfl).trans ?_;have e2:crs (AF d (crs u v)) x=AF d (crs (crs u v) x):=by
  have:=UE d 1 (crs u v) x
  rwa [show AF 1 x=x by unfold AF;simp,El]at this
 rw[e2,jE];exact⟨key _ _,key _ _,key _ _⟩
theorem SD(a b:R3):Ar a b=Ar b a:=by
 unfold Ar;grind
noncomputable def Qe:Df:=⟨3,Ad,(.cons (.ret (.cmp .Eq (.call 1 (.cons (.var 0) (.cons (.bin .Add (.bin .Add (.bin .Mult (.idx (.var 1) (.int 0)) (.idx (.var 2) (.int 0))) (.bin .Mult (.idx (.var 1) (.int 1)) (.idx (.var 2) (.int 1)))) (.bin .Mult (.idx (.var 1) (.int 2)) (.idx (.var 2) (.int 2)))) .nil))) (.int 0))) .nil)⟩
def sY(Γ:Gam):Prop:=∀(p:Ae)(x y:R3),P4 p->In3 p x->In3 p y->Γ.F 24 [.int p,Aj Aa x,Aj Aa y]=.ok (.bl (decide (Ar x y%p=0)))
theorem nW(hr:Il Γ)(p:Ae)(x y:R3)(hp:P4 p)(ix:In3 p x)(iy:In3 p y):Qe.run Γ [.int p,Aj Aa x,Aj Aa y]=.ok (.bl (decide (Ar x y%p=0))):=by
 have p0:=hp.pos;have bx:=Ci hp ix;have by_:=Ci hp iy;have k:∀ {u v},Bd 10 u->Bd 10 v->E8 u v=Aa:=fun hu hv=>GU hu hv (by decide) (by decide)
 have k0:=k bx.1 by_.1;have k1:=k bx.2.1 by_.2.1;have k2:=k bx.2.2 by_.2.2;obtain⟨x0,x1,x2⟩:=GS Aa x;obtain⟨y0,y1,y2⟩:=GS Aa y;have e:=hr p (Ar x y) p0;unfold Ar at *;generalize x.1=a0 at *;generalize x.2.1=a1 at *;generalize x.2.2=a2 at *;generalize y.1=b0 at *;generalize y.2.1=b1 at *;generalize y.2.2=b2 at *;generalize Aj Aa x=xx at *;generalize Aj Aa y=yy at *;generalize hs:(a0*b0+a1*b1+a2*b2)%p=s at *;simp[Qe,Df.run,BH,x0,x1,x2,y0,y1,y2,k0,k1,k2,e];rw[BU];simp
noncomputable def QS:Df:=⟨3,Ad,(.cons (.ret (.call 24 (.cons (.var 0) (.cons (.var 1) (.cons (.var 2) .nil))))) .nil)⟩
def Vn(Γ:Gam):Prop:=∀(p:Ae)(x y:R3),P4 p->In3 p x->In3 p y->Γ.F 56 [.int p,Aj Aa x,Aj Aa y]=.ok (.bl (decide (Ar x y%p=0)))
theorem nR(h:sY Γ)(p:Ae)(x y:R3)(hp:P4 p)(ix:In3 p x)(iy:In3 p y):QS.run Γ [.int p,Aj Aa x,Aj Aa y]=.ok (.bl (decide (Ar x y%p=0))):=by
 have e:=h p x y hp ix iy;generalize Aj Aa x=xx at *;generalize Aj Aa y=yy at *;simp[QS,Df.run,BH,e]
noncomputable def ptL(p:Ae)(l:R3):Ac R3:=(BX p).filter fun x=>decide (Ar x l%p=0)
theorem LW(h:J3 Γ){a b:R3}(hp:P4 p)(ha:NF p a)(hb:NF p b)(ne:a≠b):∃ y,NF p y/\Pr p y (crs a b)/\Γ.F 57 [.int p,Aj Aa a,Aj Aa b]=.ok (Aj Aa y):=by
 obtain⟨y,h1,h2,h3,e⟩:=h p a b hp ha.1 hb.1 ha.2 hb.2 ne;exact⟨y,⟨h1,h2⟩,h3,e⟩
theorem Pb{a b x l:R3}(hp:P4 p)(pl:Pr p l (crs a b)):Ar x l%p=0↔Am a b x%p=0:=by
 rw[SD,Qr hp pl (Pr.rfl hp (x:=x)),O6]
theorem Ut(a b:R3):Am a b a=0/\Am a b b=0:=by
 unfold Am det;constructor<;>grind
noncomputable def pol(p:Ae)(C:C6)(x:R3):R3:=nrm p (ap (tw0 C) (tw1 C) (tw2 C) x)
noncomputable abbrev Whl(p:Ae)(C:C6):Prop:=Am (tw0 C) (tw1 C) (tw2 C)%p≠0
theorem bK(hp:P4 p)(z:Whl p C)(hx:NF p x):NF p (pol p C x)/\Pr p (pol p C x) (ap (tw0 C) (tw1 C) (tw2 C) x):=Hb hp z hx
theorem IU(hp:P4 p)(z:Whl p C)(hx:NF p x):Ar y (pol p C x)%p=0↔bI C x y%p=0:=by
 rw[SD,Qr hp (bK hp z hx).2 (Pr.rfl hp (x:=y))];exact Iff.rfl
noncomputable def b4(u v:R3):Ae:=u.1*v.2.2+u.2.2*v.1-2*(u.2.1*v.2.1)
theorem yF(k:Ae)(a b c x y:R3):bI (E4 0 k a b c) x y=b4 (ap a b c x) (ap a b c y):=by
 unfold bI E4 b4 ap Ar tw0 tw1 tw2 Ej prd;simp only;grind
theorem rB(d:Ae)(C:C6)(x y:R3):bI (scC d C) x y=d*bI C x y:=by
 unfold bI ap Ar tw0 tw1 tw2 scC;simp only;grind
theorem sP{C E:C6}(hp:P4 p)(h:PrC p C E)(x y:R3):bI C x y%p=0↔bI E x y%p=0:=by
 obtain⟨d,dz,e⟩:=h;obtain⟨x0,x1,x2⟩:=L8 e;have q:Cg p (bI C x y) (bI (scC d E) x y):=FI ⟨FI x0 CgR.rfl,FI x1 CgR.rfl,FI x2 CgR.rfl⟩ CgR.rfl;rw[show bI C x y%p=_ from q,rB]
 exact E7 hp dz
theorem yG{u v u' v':R3}(hp:P4 p)(h:Pr p u u')(g:Pr p v v'):b4 u v%p=0↔b4 u' v'%p=0:=by
 obtain⟨d,dz,e⟩:=h;obtain⟨d',dz',e'⟩:=g;have q:Cg p (b4 u v) (b4 (AF d u') (AF d' v')):=((e.1.mul e'.2.2).add (e.2.2.mul e'.1)).sub (Cg.rfl.mul (e.2.1.mul e'.2.1));have q2:b4 (AF d u') (AF d' v')=d*d'*b4 u' v':=by
  unfold b4 AF;simp only;grind
 rw[show b4 u v%p=_ from q,q2]
 exact E7 hp (Bm hp dz dz')
theorem rG(hp:P4 p):(((BX p).filter fun y=>decide (q4 0 (CI p) y%p=0)).all fun u=>((BX p).filter fun y=>decide (q4 0 (CI p) y%p=0)).all fun v=>decide (b4 u v%p=0)==decide (u=v))=Aa:=by
 rcases hp with rfl|rfl|rfl|rfl<;>decide +kernel
theorem Vr{a b c:R3}(hp:P4 p)(z:Am a b c%p≠0)(h:PrC p C (E4 0 (CI p) a b c))(hx:x∈AZ p C)(hy:y∈AZ p C):bI C x y%p=0↔x=y:=by
 have hw:W4 0:=.inl rfl;have led:∀{x:R3},x∈AZ p C->NF p x/\nrm p (ap a b c x)∈((BX p).filter fun y=>decide (q4 0 (CI p) y%p=0))/\Pr p (nrm p (ap a b c x)) (ap a b c x):=fun {x} hx=>by
  obtain⟨h1,h2⟩:=AR.mp hx;have nx:=(Eh hp).mp h1;obtain⟨s1,s2⟩:=Hb hp z nx;refine⟨nx,AR.mpr ⟨(Eh hp).mpr s1,?_⟩,s2⟩;rw[AK]at h2 ⊢;exact(Qm hw hp z h nx).mp h2
 obtain⟨nx,mx,px⟩:=led hx;obtain⟨ny,my,py⟩:=led hy;have all:=rG hp;rw[Ck]at all;have a1:=all _ mx;rw[Ck]at a1;have a2:=a1 _ my;rw[BN,EA]at a2;rw[sP hp h,yF,<-yG hp px py,a2];constructor
 ·intro e;rw[<-LI hp z nx,<-LI hp z ny,e]
 ·intro e;rw[e]
noncomputable def Kb(p:Ae)(C:C6)(l:R3):Ac R3:=(ptL p l).filter fun x=>decide (vI C x%p=0)
section
variable{p:Ae}{a b c:R3}{C:C6}
theorem Ph(hp:P4 p)(z:Am a b c%p≠0)(w:Whl p C)(h:PrC p C (E4 0 (CI p) a b c))(hx:x∈AZ p C):Kb p C (pol p C x)=[x]:=by
 obtain⟨h1,h2⟩:=AR.mp hx;have nx:=(Eh hp).mp h1;have xl:x∈ptL p (pol p C x):=AR.mpr ⟨h1,E3 ((IU hp w nx).mpr ((Vr hp z h hx hx).mpr rfl))⟩;refine RG ((LH hp).filter _) xl fun y hy=>?_
 obtain⟨g1,g2⟩:=AR.mp hy;rw[AK]at g2;constructor
 ·intro v;exact((Vr hp z h hx (AR.mpr ⟨g1,v⟩)).mp ((IU hp w nx).mp g2)).symm
 ·intro e;rw[e];exact h2
end
noncomputable def sides:D:=.tup [.str (Aq "inner"),.str (Aq "on"),.str (Aq "outer")]
theorem Nl(C:C6)(a b c x:R3):vI (pb C a b c) x=vI C (ap a b c x):=by
 have e:ap a b c x=(x.1*(BA a b c).1+x.2.1*(BG a b c).1+x.2.2*(BF a b c).1,x.1*(BA a b c).2.1+x.2.1*(BG a b c).2.1+x.2.2*(BF a b c).2.1,x.1*(BA a b c).2.2+x.2.1*(BG a b c).2.2+x.2.2*(BF a b c).2.2):=by
  unfold ap Ar BA BG BF;simp only;refine Bl ?_ (Bl ?_ ?_)<;>(simp only;grind)
 rw[e,PB];have e2:∀(u0 u1 u2 u3 u4 u5:Ae),vI ⟨u0,u1,u2,u3,u4,u5⟩ x=x.1*x.1*u0+x.2.1*x.2.1*u1+x.2.2*x.2.2*u2+(x.1*x.2.1*u3+x.1*x.2.2*u4+x.2.1*x.2.2*u5):=fun u0 u1 u2 u3 u4 u5=>by
  unfold vI;simp only;grind
 exact e2 ..
theorem U7(C:C6)(k:Ae)(x:R3):vI C (AF k x)=k*k*vI C x:=by
 unfold vI AF;simp only;grind
theorem Qn(hp:P4 p)(h:Pr p x y):vI C x%p=0↔vI C y%p=0:=by
 obtain⟨d,dz,e⟩:=h;have q:=(IX (D:=C) ⟨Cg.rfl,Cg.rfl,Cg.rfl,Cg.rfl,Cg.rfl,Cg.rfl⟩ e).trans (Cg.of (U7 C d y));rw[show vI C x%p=_ from q]
 exact E7 hp (Bm hp dz dz)
section
variable{p:Ae}{a b c:R3}{C:C6}
theorem MT{l x:R3}(hp:P4 p):x∈Kb p C l↔x∈AZ p C/\Ar x l%p=0:=by
 unfold Kb ptL AZ;rw[AR,AR,AR,AK,AK];exact⟨fun h=>⟨⟨h.1.1,h.2⟩,h.1.2⟩,fun h=>⟨⟨h.1.1,h.2⟩,h.1.2⟩⟩
end
noncomputable def pole(p:Ae)(C:C6)(l:R3):R3:=nrm p (ap (bk0 (tw0 C) (tw1 C) (tw2 C)) (bk1 (tw0 C) (tw1 C) (tw2 C)) (bk2 (tw0 C) (tw1 C) (tw2 C)) l)
def Ps(Γ:Gam):Prop:=∀(p:Ae)(C:C6)(x:R3),P4 p->InC p C->Whl p C->NF p x->Γ.F 149 [.int p,AY C,Aj Aa x]=.ok (Aj Aa (pole p C x))
theorem fV(hp:P4 p)(z:Whl p C)(hx:NF p x):NF p (pole p C x)/\pol p C (pole p C x)=x:=by
 have zB:Am (bk0 (tw0 C) (tw1 C) (tw2 C)) (bk1 (tw0 C) (tw1 C) (tw2 C)) (bk2 (tw0 C) (tw1 C) (tw2 C))%p≠0:=by rw[Ik];exact Bm hp z z
 exact⟨(Hb hp zB hx).1,Sn hp z hx⟩
theorem vS(h:sX Γ):Ps Γ:=fun p C x hp iC z nx=>by
 obtain⟨y,i,l,pr,e⟩:=h p C x hp iC z nx.1 nx.2;have zB:Am (bk0 (tw0 C) (tw1 C) (tw2 C)) (bk1 (tw0 C) (tw1 C) (tw2 C)) (bk2 (tw0 C) (tw1 C) (tw2 C))%p≠0:=by rw[Ik];exact Bm hp z z
 obtain⟨h1,h2⟩:=Hb hp zB nx;have q:y=pole p C x:=L5 hp ⟨i,l⟩ h1 (pr.trans hp (h2.symm hp));rw[<-q];exact e
structure FOn (p:Ae) (C:C6) (A B P U:R3):Prop where
 vA:vI C A%p=0
 vB:vI C B%p=0
 vU:vI C U%p=0
 bA:bI C A P%p=0
 bB:bI C B P%p=0
theorem UF(A B P x:R3):AF (Am A B P) x=(Am x B P*A.1+Am A x P*B.1+Am A B x*P.1,Am x B P*A.2.1+Am A x P*B.2.1+Am A B x*P.2.1,Am x B P*A.2.2+Am A x P*B.2.2+Am A B x*P.2.2):=by
 unfold AF Am det;refine Bl ?_ (Bl ?_ ?_)<;>(simp only;grind)
section
variable{p:Ae}{C R:C6}{A B P U x:R3}
theorem cg0{k x:Ae}(h:x%p=0):Cg p (k*x) 0:=by
 show k*x%p=0%p;rw[A2,h,C8]
theorem Tv(h:FOn p C A B P U)(x:R3):Cg p (Am A B P*Am A B P*vI C x) (Am A B x*Am A B x*vI C P+Am x B P*Am A x P*bI C A B):=by
 have e:=PB C A B P (Am x B P) (Am A x P) (Am A B x);rw[<-UF,U7]at e;rw[e];generalize Am x B P=α;generalize Am A x P=β;generalize Am A B x=γ;have k1:Cg p (α*α*vI C A) 0:=cg0 h.vA;have k2:Cg p (β*β*vI C B) 0:=cg0 h.vB;have k3:Cg p (α*γ*bI C A P) 0:=cg0 h.bA;have k4:Cg p (β*γ*bI C B P) 0:=cg0 h.bB;refine(((k1.add k2).add Cg.rfl).add ((Cg.rfl.add k3).add k4)).trans (Cg.of ?_);grind
theorem Ql(h:FOn p C A B P U)(x:R3):Cg p (Am A B U*Am A B U*(Am A B P*Am A B P*vI C x)) (bI C A B*(Am A B U*Am A B U*(Am x B P*Am A x P)-Am A B x*Am A B x*(Am U B P*Am A U P))):=by
 have e1:=Tv h x;have e2:=Tv h U;have e0:Cg p (Am A B P*Am A B P*vI C U) 0:=cg0 h.vU;have e3:Cg p (Am A B U*Am A B U*vI C P+Am U B P*Am A U P*bI C A B) 0:=e2.symm.trans e0;generalize Am A B P=D at *;generalize Am x B P=α at *;generalize Am A x P=β at *;generalize Am A B x=γ at *;generalize Am U B P=α0 at *;generalize Am A U P=β0 at *;generalize Am A B U=γ0 at *;generalize bI C A B=b at *;generalize vI C P=v at *;generalize vI C x=vx at *;have e4:Cg p (γ0*γ0*(D*D*vx)) (γ0*γ0*(γ*γ*v+α*β*b)):=Cg.rfl.mul e1;have e5:Cg p (γ*γ*(γ0*γ0*v+α0*β0*b)) (γ*γ*0):=Cg.rfl.mul e3;refine e4.trans ?_;have e6:γ0*γ0*(γ*γ*v+α*β*b)=γ*γ*(γ0*γ0*v+α0*β0*b)+b*(γ0*γ0*(α*β)-γ*γ*(α0*β0)):=by grind
 rw[e6];refine(e5.add Cg.rfl).trans (Cg.of ?_);grind
theorem UI{k x y:Ae}(hp:P4 p)(kz:k%p≠0)(h:Cg p (k*x) (k*y)):Cg p x y:=by
 have e:k*(x-y)%p=0:=by
  have q:=h.sub (Cg.rfl (p:=p) (a:=k*y));have q2:(k*x-k*y)%p=(k*y-k*y)%p:=q;rw[Wr,A5,<-Wo]at q2;exact q2
 have z:=(E7 hp kz).mp e;have q3:=Cg.add (p:=p) (a:=x-y) (b:=0) (c:=y) (d:=y) (by show (x-y)%p=0%p;rw[z,A5]) Cg.rfl
 have q4:Cg p (x-y+y) (0+y):=q3;rw[Wp,EV]at q4;exact q4
theorem lG(hp:P4 p)(d1:Am A B P%p≠0)(d2:Am A B U%p≠0)(hC:FOn p C A B P U)(hR:FOn p R A B P U)(x:R3):Cg p (bI C A B*vI R x) (bI R A B*vI C x):=by
 have e1:=Ql hC x;have e2:=Ql hR x;generalize (Am A B U*Am A B U*(Am x B P*Am A x P)-Am A B x*Am A B x*(Am U B P*Am A U P))=F at *;refine UI hp (k:=Am A B U*Am A B U*(Am A B P*Am A B P)) (Bm hp (Bm hp d2 d2) (Bm hp d1 d1)) ?_;generalize Am A B U=γ at *;generalize Am A B P=D at *;generalize bI C A B=b at *;generalize bI R A B=r at *;have f1:Cg p (b*(γ*γ*(D*D*vI R x))) (b*(r*F)):=Cg.rfl.mul e2;have f2:Cg p (r*(γ*γ*(D*D*vI C x))) (r*(b*F)):=Cg.rfl.mul e1;refine(Cg.of (by grind)).trans (f1.trans ((Cg.of (by grind:b*(r*F)=r*(b*F))).trans (f2.symm.trans (Cg.of (by grind)))))
theorem UJ{k l:Ae}(h:∀ x,Cg p (k*vI R x) (l*vI C x)):CgC p (scC k R) (scC l C):=by
 have a0:=h (1,0,0);have a1:=h (0,1,0);have a2:=h (0,0,1);have b0:=h (1,1,0);have b1:=h (1,0,1);have b2:=h (0,1,1);have v0:∀ E:C6,vI E (1,0,0)=E.c0:=fun E=>by unfold vI;simp
 have v1:∀ E:C6,vI E (0,1,0)=E.c1:=fun E=>by unfold vI;simp
 have v2:∀ E:C6,vI E (0,0,1)=E.c2:=fun E=>by unfold vI;simp
 have w0:∀ E:C6,vI E (1,1,0)=E.c0+E.c1+E.c3:=fun E=>by unfold vI;simp
 have w1:∀ E:C6,vI E (1,0,1)=E.c0+E.c2+E.c4:=fun E=>by unfold vI;simp
 have w2:∀ E:C6,vI E (0,1,1)=E.c1+E.c2+E.c5:=fun E=>by unfold vI;simp
 rw[v0,v0]at a0;rw[v1,v1]at a1;rw[v2,v2]at a2;rw[w0,w0]at b0;rw[w1,w1]at b1;rw[w2,w2]at b2;refine⟨a0,a1,a2,?_,?_,?_⟩
 ·have:=(b0.sub a0).sub a1;refine(Cg.of ?_).trans (this.trans (Cg.of ?_))<;>(unfold scC;simp only;grind)
 ·have:=(b1.sub a0).sub a2;refine(Cg.of ?_).trans (this.trans (Cg.of ?_))<;>(unfold scC;simp only;grind)
 ·have:=(b2.sub a1).sub a2;refine(Cg.of ?_).trans (this.trans (Cg.of ?_))<;>(unfold scC;simp only;grind)
theorem QZ(hp:P4 p)(w:Whl p C)(d1:Am A B P%p≠0)(d2:Am A B U%p≠0)(hC:FOn p C A B P U):bI C A B%p≠0:=fun z=>by
 refine w ?_;have v0:∀ x,Cg p (1*vI C x) (0*vI C x):=fun x=>by
  rw[CF,Hx];refine UI hp (k:=Am A B U*Am A B U*(Am A B P*Am A B P)) (Bm hp (Bm hp d2 d2) (Bm hp d1 d1)) ?_;have e1:=Ql hC x;refine(Cg.of (by grind)).trans (e1.trans ?_)
  rw[C8];show _%p=0%p;rw[A2,z,Hx]
 have c:=UJ v0;rw[LU]at c;obtain⟨t0,t1,t2⟩:=L8 c;have e:=IR t0 t1 t2;rw[Us]at e;show Am (tw0 C) (tw1 C) (tw2 C)%p=0;rw[show Am (tw0 C) (tw1 C) (tw2 C)%p=_ from e]
 simp
theorem bJ(hp:P4 p)(wC:Whl p C)(wR:Whl p R)(d1:Am A B P%p≠0)(d2:Am A B U%p≠0)(hC:FOn p C A B P U)(hR:FOn p R A B P U):PrC p R C:=by
 have b1:=QZ hp wC d1 d2 hC;have b2:=QZ hp wR d1 d2 hR;obtain⟨u,uz,ue⟩:=PM hp b1;refine⟨u*bI R A B,Bm hp uz b2,?_⟩;have c:=UJ (lG hp d1 d2 hC hR);have e1:CgC p (scC u (scC (bI C A B) R)) (scC u (scC (bI R A B) C)):=CgC.sc Cg.rfl c;rw[Nf,Nf]at e1;have e2:CgC p (scC (u*bI C A B) R) (scC 1 R):=CgC.sc ue CgC.rfl;rw[LU]at e2;exact e2.symm.trans e1
end
section
variable{p:Ae}{C E:C6}{a b c A B P U A' B' P' U' x y:R3}
theorem V3(C:C6)(a b c x y:R3):bI (pb C a b c) x y=bI C (ap a b c x) (ap a b c y):=by
 have e:∀ u:R3,ap a b c u=(u.1*(BA a b c).1+u.2.1*(BG a b c).1+u.2.2*(BF a b c).1,u.1*(BA a b c).2.1+u.2.1*(BG a b c).2.1+u.2.2*(BF a b c).2.1,u.1*(BA a b c).2.2+u.2.1*(BG a b c).2.2+u.2.2*(BF a b c).2.2):=fun u=>by
  unfold ap Ar BA BG BF;simp only;refine Bl ?_ (Bl ?_ ?_)<;>(simp only;grind)
 rw[e x,e y,Q0];rfl
theorem sO(C:C6)(k l:Ae)(x y:R3):bI C (AF k x) (AF l y)=k*l*bI C x y:=by
 unfold bI ap Ar AF;simp only;grind
theorem V2(hp:P4 p)(h:Pr p x x')(g:Pr p y y'):bI C x y%p=0↔bI C x' y'%p=0:=by
 obtain⟨d,dz,e⟩:=h;obtain⟨d',dz',e'⟩:=g;have q:=(No (CgC.rfl (C:=C)) e e').trans (Cg.of (sO C d d' x' y'));rw[show bI C x y%p=_ from q]
 exact E7 hp (Bm hp dz dz')
theorem sG(hp:P4 p)(h:FOn p E A' B' P' U')(hA:Pr p A' (ap a b c A))(hB:Pr p B' (ap a b c B))(hP:Pr p P' (ap a b c P))(hU:Pr p U' (ap a b c U)):FOn p (pb E a b c) A B P U:=
 ⟨by rw[Nl];exact(Qn hp hA).mp h.vA,by rw[Nl];exact(Qn hp hB).mp h.vB,by rw[Nl];exact(Qn hp hU).mp h.vU,by rw[V3];exact(V2 hp hA hP).mp h.bA,by rw[V3];exact(V2 hp hB hP).mp h.bB⟩
theorem lF(hp:P4 p)(z:Am a b c%p≠0)(w:Whl p E):Whl p (pb E a b c):=by
 show Am _ _ _%p≠0;rw[sL];exact Bm hp (Bm hp z z) w
theorem ZY(hp:P4 p)(z:Am a b c%p≠0)(wC:Whl p C)(wE:Whl p E)(d1:Am A B P%p≠0)(d2:Am A B U%p≠0)(hC:FOn p C A B P U)(hE:FOn p E A' B' P' U')(hA:Pr p A' (ap a b c A))(hB:Pr p B' (ap a b c B))(hP:Pr p P' (ap a b c P))(hU:Pr p U' (ap a b c U)):PrC p (pb E a b c) C:=
 bJ hp wC (lF hp z wE) d1 d2 hC (sG hp hE hA hB hP hU)
end
theorem S4{p:Ae}:∀ xs:Ac Ae,(∀ v∈xs,0<=v/\v<p)->AW p xs=(xs.filter fun v=>decide (0<v)).head?
 |[],_=>rfl
 |v::xs,h=>by
  have hv:=h v (Ay ..);have em:=AI hv.1 hv.2;have ih:=S4 xs fun w hw=>h w (Au _ hw)
  unfold AW;rw[em,Dq,ih];by_cases z:v=0
  ·rw[Az z,z];rfl
  ·rw[AH z,Az (by simp;omega)]
   rfl
section
variable{Γ:Gam}{ns:Ac Ae}{p:Ae}{a b c:R3}{s2 s4 s5 s6 s7 s8:Sl}
end
section
variable{p:Ae}{C:C6}{a b c A B P U l m:R3}
theorem swp(h:Ar U m%p=0):Ar m U%p=0:=by rw[Jx];exact h
theorem SN(hp:P4 p)(d:Am A B P%p≠0)(h1:Ar A m%p=0)(h2:Ar P m%p=0)(h3:Am A P U%p=0):Ar U m%p=0:=by
 have e:Am A B P*Ar U m=Ar A m*Am U B P-Ar P m*Am U B A-Ar B m*Am A P U:=by
  unfold Am det Ar;grind
 have q:Cg p (Am A B P*Ar U m) 0:=by
  rw[e];have k1:Cg p (Ar A m*Am U B P) 0:=by rw[BY];exact cg0 h1
  have k2:Cg p (Ar P m*Am U B A) 0:=by rw[BY];exact cg0 h2
  have k3:Cg p (Ar B m*Am A P U) 0:=cg0 h3;exact(k1.sub k2).sub k3
 have q':Am A B P*Ar U m%p=0:=by rw[show _%p=0%p from q,A5]
 exact(E7 hp d).mp q'
theorem aS(hp:P4 p)(z:Am a b c%p≠0)(w:Whl p C)(h:PrC p C (E4 0 (CI p) a b c))(hA:A∈AZ p C)(hB:B∈AZ p C)(hU:U∈AZ p C)(nAB:A≠B)(nAU:A≠U)(nBU:B≠U)(nl:NF p l)(pl:Pr p l (crs A B)):FOn p C A B (pole p C l) U/\NF p (pole p C l)/\Hj p A B (pole p C l) U:=by
 obtain⟨nP,eP⟩:=fV hp w nl;have nA:=(Eh hp).mp (AR.mp hA).1;have nB:=(Eh hp).mp (AR.mp hB).1;have vA:=Ea (AR.mp hA).2;have vB:=Ea (AR.mp hB).2;have vU:=Ea (AR.mp hU).2;have lA:Ar A l%p=0:=(Pb hp pl).mpr (by rw[(Ut A B).1];exact A5 _)
 have lB:Ar B l%p=0:=(Pb hp pl).mpr (by rw[(Ut A B).2];exact A5 _)
 generalize pole p C l=P at *;have bA:bI C A P%p=0:=by rw[IT];exact(IU hp w nP).mp (by rw[eP];exact lA)
 have bB:bI C B P%p=0:=by rw[IT];exact(IU hp w nP).mp (by rw[eP];exact lB)
 have d1:Am A B P%p≠0:=fun e=>by
  have e1:Ar P l%p=0:=(Pb hp pl).mpr e;have e2:bI C P P%p=0:=(IU hp w nP).mp (by rw[eP];exact e1)
  rw[IS]at e2;have z2:(2:Ae)%p≠0:=by rcases hp with rfl|rfl|rfl|rfl<;>decide
  have vP:vI C P%p=0:=(E7 hp z2).mp e2;have hP:P∈AZ p C:=AR.mpr ⟨(Eh hp).mpr nP,E3 vP⟩;have m1:=Ph hp z w h hP;rw[eP]at m1;have a1:A∈Kb p C l:=(MT hp).mpr ⟨hA,lA⟩;have b1:B∈Kb p C l:=(MT hp).mpr ⟨hB,lB⟩;rw[m1]at a1 b1;exact nAB ((Bs.mp a1).trans (Bs.mp b1).symm)
 have d2:=iN hp z h hA hB hU nAB nAU nBU;have tA:Ar A (pol p C A)%p=0:=(IU hp w nA).mpr (by rw[IS,A2,vA];simp)
 have tB:Ar B (pol p C B)%p=0:=(IU hp w nB).mpr (by rw[IS,A2,vB];simp)
 have pA:Ar P (pol p C A)%p=0:=(IU hp w nA).mpr bA;have pB:Ar P (pol p C B)%p=0:=(IU hp w nB).mpr bB;have d3:Am A P U%p≠0:=fun e=>by
  have e1:=SN hp d1 tA pA e;have u1:U∈Kb p C (pol p C A):=(MT hp).mpr ⟨hU,e1⟩;rw[Ph hp z w h hA]at u1;exact nAU (Bs.mp u1).symm
 have d1':Am B A P%p≠0:=by
  have:Am B A P=(-1)*Am A B P:=by unfold Am det;grind
  rw[this];exact Bm hp hp.m1 d1
 have d4:Am B P U%p≠0:=fun e=>by
  have e1:=SN hp d1' tB pB e;have u1:U∈Kb p C (pol p C B):=(MT hp).mpr ⟨hU,e1⟩;rw[Ph hp z w h hB]at u1;exact nBU (Bs.mp u1).symm
 exact⟨⟨vA,vB,vU,bA,bB⟩,nP,d1,d2,d3,d4⟩
end
theorem Sv{f0 f1 f2 f3:R3}(hp:P4 p)(g:Hj p f0 f1 f2 f3):∃ a b c,GoodR p a b c/\Led p a b c e0R e1R e2R e3R f0 f1 f2 f3:=by
 obtain⟨g0,g1,g2,g3⟩:=g;have k0:Am f3 f1 f2%p≠0:=by
  have:Am f3 f1 f2=1*Am f1 f2 f3:=by unfold Am det;grind
  rw[this];exact Bm hp hp.o1 g3
 have k1:Am f0 f3 f2%p≠0:=by
  have:Am f0 f3 f2=(-1)*Am f0 f2 f3:=by unfold Am det;grind
  rw[this];exact Bm hp hp.m1 g2
 have k2:=g1;have cr:=UF f0 f1 f2 f3;generalize Am f3 f1 f2=x0 at *;generalize Am f0 f3 f2=x1 at *;generalize Am f0 f1 f3=x2 at *;have zz:Am (BA (AF x0 f0) (AF x1 f1) (AF x2 f2)) (BG (AF x0 f0) (AF x1 f1) (AF x2 f2)) (BF (AF x0 f0) (AF x1 f1) (AF x2 f2))%p≠0:=by
  rw[O5,J7];exact Bm hp (Bm hp (Bm hp k0 k1) k2) g0
 obtain⟨l,t,_,_,tz,gd,_⟩:=MI hp zz;have key:∀(e f:R3)(k:Ae),k%p≠0->ap (BA (AF x0 f0) (AF x1 f1) (AF x2 f2)) (BG (AF x0 f0) (AF x1 f1) (AF x2 f2)) (BF (AF x0 f0) (AF x1 f1) (AF x2 f2)) e=AF k f->Pr p f (ap (fmR p t (BA (AF x0 f0) (AF x1 f1) (AF x2 f2))) (fmR p t (BG (AF x0 f0) (AF x1 f1) (AF x2 f2))) (fmR p t (BF (AF x0 f0) (AF x1 f1) (AF x2 f2))) e):=fun e f k kz q=>by
  refine Pr.symm hp ((Pr.tab tz (Ew p t _) (Ew p t _) (Ew p t _)).trans hp ?_);rw[q];exact⟨k,kz,CgR.rfl⟩
 refine⟨_,_,_,gd,key _ _ x0 k0 ?_,key _ _ x1 k1 ?_,key _ _ x2 k2 ?_,key _ _ (Am f0 f1 f2) g0 ?_⟩
 ·unfold ap Ar BA BG BF AF e0R;simp
 ·unfold ap Ar BA BG BF AF e1R;simp
 ·unfold ap Ar BA BG BF AF e2R;simp
 ·rw[cr];unfold ap Ar BA BG BF AF e3R;simp
structure Fc (p:Ae) (C:C6) (A B P U:R3) (rest:Ac R3):Prop where
 pts:AZ p C=A::B::U::rest
 nA:NF p A
 nB:NF p B
 nP:NF p P
 nU:NF p U
 ne:A≠B
 on:FOn p C A B P U
 gen:Hj p A B P U
 ln:∃ l,NF p l/\Pr p l (crs A B)/\P=pole p C l
theorem VV(hj:J3 Γ){a b c:R3}(hp:P4 p)(z:Am a b c%p≠0)(w:Whl p C)(h:PrC p C (E4 0 (CI p) a b c)):∃ A B P U rest,Fc p C A B P U rest:=by
  have ln:(AZ p C).length=GC p 0:=JZ (.inl rfl) hp z h;have nd:(AZ p C).Nodup:=(LH hp).filter _;have w4:4<=GC p 0:=by rcases hp with rfl|rfl|rfl|rfl<;>decide
  match e:AZ p C,ln,nd with
  |[],q,_=>exact absurd q (by simp;omega)
  |[_],q,_=>exact absurd q (by simp;omega)
  |[_,_],q,_=>exact absurd q (by simp;omega)
  |A::B::U::rest,_,nd=>
    have hA:A∈AZ p C:=by rw[e];simp
    have hB:B∈AZ p C:=by rw[e];simp
    have hU:U∈AZ p C:=by rw[e];simp
    have nA:=(Eh hp).mp (AR.mp hA).1;have nB:=(Eh hp).mp (AR.mp hB).1;have nU:=(Eh hp).mp (AR.mp hU).1;simp only[B5,Ax,D9]at nd;obtain⟨⟨n1,n2,_⟩,⟨n3,_⟩,_⟩:=nd;obtain⟨l,nl,pl,_⟩:=LW hj hp nA nB n1;obtain⟨f,nP,g⟩:=aS hp z w h hA hB hU n1 n2 n3 nl pl;exact⟨A,B,_,U,rest,e,nA,nB,nP,nU,n1,f,g,l,nl,pl,rfl⟩
noncomputable def Mw:Df:=⟨3,Ad,(.cons (.ret (.lst (.cons (.idx (.var 2) (.int 0)) (.cons (.idx (.var 2) (.int 1)) (.cons (.call 149 (.cons (.var 0) (.cons (.var 1) (.cons (.call 57 (.cons (.var 0) (.cons (.idx (.var 2) (.int 0)) (.cons (.idx (.var 2) (.int 1)) .nil)))) .nil)))) (.cons (.idx (.var 2) (.int 2)) .nil)))))) .nil)⟩
noncomputable def Ms:Df:=⟨3,Ad,(.cons (.expr (.call 147 (.cons (.var 0) (.cons (.var 1) .nil)))) (.cons (.expr (.call 147 (.cons (.var 0) (.cons (.var 2) .nil)))) (.cons (.ret (.call 112 (.cons (.var 0) (.cons (.call 150 (.cons (.var 0) (.cons (.var 1) (.cons (.sl (.call 128 (.cons (.var 0) (.cons (.var 1) .nil))) .non (.int 3)) .nil)))) (.cons (.call 150 (.cons (.var 0) (.cons (.var 2) (.cons (.sl (.call 128 (.cons (.var 0) (.cons (.var 2) .nil))) .non (.int 3)) .nil)))) .nil))))) .nil)))⟩
def Um(Γ:Gam):Prop:=∀(p:Ae)(C:C6)(A B P U:R3)(rest:Ac R3),P4 p->InC p C->Whl p C->Fc p C A B P U rest->Γ.F 150 [.int p,AY C,BR [A,B,U]]=.ok (Do A B P U)
theorem iB(hj:J3 Γ)(hl:Ps Γ)(p:Ae)(C:C6)(A B P U:R3)(rest:Ac R3)(hp:P4 p)(iC:InC p C)(w:Whl p C)(h:Fc p C A B P U rest):Mw.run Γ [.int p,AY C,BR [A,B,U]]=.ok (Do A B P U):=by
 obtain⟨l,nl,pl,rfl⟩:=h.ln;obtain⟨y,ny,py,e1⟩:=LW hj hp h.nA h.nB h.ne;have q:y=l:=L5 hp ny nl (py.trans hp (pl.symm hp));rw[q]at e1;have e2:=hl p C l hp iC w nl;have i0:BW (BR [A,B,U]) (.int 0)=.ok (Aj Aa A):=rfl;have i1:BW (BR [A,B,U]) (.int 1)=.ok (Aj Aa B):=rfl;have i2:BW (BR [A,B,U]) (.int 2)=.ok (Aj Aa U):=rfl;unfold Do;generalize BR [A,B,U]=T at *;generalize Aj Aa A=ta at *;generalize Aj Aa B=tb at *;generalize Aj Aa U=tu at *;generalize Aj Aa l=tl at *;generalize Aj Aa (pole p C l)=tp at *;generalize AY C=cC at *;simp[Mw,Df.run,BH,i0,i1,i2,e1,e2]
def Uk(Γ:Gam):Prop:=∀{p:Ae}{a b c f0 f1 f2 f3 g0 g1 g2 g3:R3},GoodR p a b c->AW p (nine a b c)=Ab 1->Frm p f0 f1 f2 f3->Frm p g0 g1 g2 g3->Led p a b c f0 f1 f2 f3 g0 g1 g2 g3->Γ.F 112 [.int p,Do f0 f1 f2 f3,Do g0 g1 g2 g3]=.ok (Bc a b c)
def Uq(Γ:Gam):Prop:=∀(p:Ae)(C E:C6)(a b c A B P U A' B' P' U':R3)(rest rest':Ac R3),GoodR p a b c->AW p (nine a b c)=Ab 1->InC p C->Whl p C->InC p E->Whl p E->Fc p C A B P U rest->Fc p E A' B' P' U' rest'->Led p a b c A B P U A' B' P' U'->Γ.F 151 [.int p,AY C,AY E]=.ok (Bc a b c)
theorem sl3(A B U:R3)(rest:Ac R3):slD (BR (A::B::U::rest)) Af (Ab 3)=.ok (BR [A,B,U]):=by
 show R.ok (D.lst (JC _ _ _))=_;unfold JC Iq;simp[BR]
theorem iH(hw:P9 Γ)(ho:Pq Γ)(hf:Um Γ)(hm:Uk Γ)(p:Ae)(C E:C6)(a b c A B P U A' B' P' U':R3)(rest rest':Ac R3)(T:GoodR p a b c)(l1:AW p (nine a b c)=Ab 1)(iC:InC p C)(wC:Whl p C)(iE:InC p E)(wE:Whl p E)(fC:Fc p C A B P U rest)(fE:Fc p E A' B' P' U' rest')(L:Led p a b c A B P U A' B' P' U'):Ms.run Γ [.int p,AY C,AY E]=.ok (Bc a b c):=by
 have hp:=T.p4;have e1:=hw p C hp iC wC;have e2:=hw p E hp iE wE;have e3:=ho p C hp iC;have e4:=ho p E hp iE;rw[fC.pts]at e3;rw[fE.pts]at e4;have s1:=sl3 A B U rest;have s2:=sl3 A' B' U' rest';have e5:=hf p C A B P U rest hp iC wC fC;have e6:=hf p E A' B' P' U' rest' hp iE wE fE;have e7:=hm T l1 ⟨fC.nA.1,fC.nB.1,fC.nP.1,fC.nU.1,fC.gen⟩ ⟨fE.nA.1,fE.nB.1,fE.nP.1,fE.nU.1,fE.gen⟩ L;generalize BR (A::B::U::rest)=R1 at *;generalize BR (A'::B'::U'::rest')=R2 at *;generalize BR [A,B,U]=R3 at *;generalize BR [A',B',U']=R4 at *;generalize Do A B P U=R5 at *;generalize Do A' B' P' U'=R6 at *;generalize Bc a b c=R7 at *;generalize AY C=cC at *;generalize AY E=cE at *;simp[Ms,Df.run,BH,e1,e2,e3,e4,s1,s2,e5,e6,e7]
section
variable{p:Ae}{C:C6}{a b c x y l P Q:R3}
theorem kg0{n:Ae}(h:n%p=0):Cg p n 0:=by show n%p=0%p;rw[h,A5]
theorem IZ{n:Ae}(h:Cg p n 0):n%p=0:=by
 have:n%p=0%p:=h;rw[this,A5]
theorem Ua{s:R3}(h:Ar r s%p≠0):∃ l,AW p (tri r)=Ab l:=by
 cases el:AW p (tri r) with
 |some l=>exact⟨l,rfl⟩
 |none=>
  refine absurd (IZ ?_) h;refine(FI (O0 el) (CgR.rfl (a:=s))).trans (Cg.of ?_);unfold Ar;simp
theorem yC(a b c:R3):Ar a (crs b c)=Am a b c:=by
 unfold Ar crs Am det;simp only;grind
theorem sK(a b c:R3):Am b a c=- Am a b c:=by
 unfold Am det;grind
theorem L9(hp:P4 p)(z:Am a b c%p≠0):NF p (nrm p a)/\Pr p (nrm p a) a:=by
 obtain⟨l,el⟩:=Ua (p:=p) (r:=a) (s:=crs b c) (by rw[yC];exact z)
 exact OO hp el
theorem Jy(hp:P4 p)(z:Am a b c%p≠0):NF p (nrm p (crs a b))/\Pr p (nrm p (crs a b)) (crs a b):=by
 obtain⟨l,el⟩:=Ua (p:=p) (r:=crs a b) (s:=c) (by rw[O6];exact z)
 exact OO hp el
theorem Qi(z:Am a b c%p≠0):Am b a c%p≠0:=by
 rw[sK];intro h;exact z (DG (JJ.mp (DF h)))
theorem GR(hp:P4 p)(ha:Pr p l a):Ar x l%p=0↔Ar a x%p=0:=by
 rw[Jx x l];exact Qr hp ha ⟨1,hp.o1,CgR.of (by unfold AF;simp)⟩
theorem Nj(hp:P4 p)(z:Am a b c%p≠0):Ar a (nrm p (crs a b))%p=0/\Ar b (nrm p (crs a b))%p=0:=by
 obtain⟨h1,h2⟩:=jD a b;have k:∀ u,Ar (crs a b) u=0->Ar u (nrm p (crs a b))%p=0:=fun u e=>by
  rw[GR hp (Jy hp z).2,e,A5]
 exact⟨k a h1,k b h2⟩
theorem M9(hp:P4 p)(hy:NF p y)(hl:NF p l)(py:Pr p y (crs P Q))(h1:Ar P l%p=0)(h2:Ar Q l%p=0):y=l:=(S0 hp hy hl py h1 h2).symm
theorem Ij(hp:P4 p):x∈AZ p C↔NF p x/\vI C x%p=0:=by
 unfold AZ;rw[AR,Eh hp,AK]
theorem QI(hp:P4 p)(h:PrC p C (E4 w (CI p) a b c))(x:R3):vI C x%p=0↔vI (E4 w (CI p) a b c) x%p=0:=by
 obtain⟨d,dz,e⟩:=h;have q:=(IX e (CgR.rfl (a:=x))).trans (Cg.of (KP d _ x));rw[show vI C x%p=_ from q]
 exact E7 hp dz
theorem QM(hp:P4 p){i j:Ae}:i*j%p=0↔i%p=0\/j%p=0:=by
 constructor
 ·intro h;by_cases hi:i%p=0
  ·exact .inl hi
  ·exact .inr ((E7 hp hi).mp h)
 ·rintro (h|h)
  ·rw[A2,h,Hx,A5]
  ·rw[A2,h,C8,A5]
theorem Rj(hp:P4 p)(h:PrC p C (E4 1 (CI p) a b c))(x:R3):vI C x%p=0↔Ar a x%p=0:=by
 rw[QI hp h,show E4 1 (CI p) a b c=prd a a from rfl,He,QM hp,or_self]
theorem Ri(hp:P4 p)(h:PrC p C (E4 2 (CI p) a b c))(x:R3):vI C x%p=0↔Ar a x%p=0\/Ar b x%p=0:=by
 rw[QI hp h,show E4 2 (CI p) a b c=prd a b from rfl,He,QM hp]
theorem Rh(hp:P4 p)(z:Am a b c%p≠0)(h:PrC p C (E4 3 (CI p) a b c)):vI C (nrm p (crs a b))%p=0:=by
 obtain⟨h1,h2⟩:=Nj hp z;rw[QI hp h,show E4 3 (CI p) a b c=Ej (prd a a) (scC (CI p) (prd b b)) from rfl,KO,KP,He,He]
 refine IZ (((kg0 h1).mul (kg0 h1)).sub ((Cg.rfl (a:=CI p)).mul ((kg0 h2).mul (kg0 h2))) |>.trans (Cg.of ?_));simp
theorem U9(a b x:R3):ap (tw0 (prd a b)) (tw1 (prd a b)) (tw2 (prd a b)) x=(Ar b x*a.1+Ar a x*b.1,Ar b x*a.2.1+Ar a x*b.2.1,Ar b x*a.2.2+Ar a x*b.2.2):=by
 unfold ap tw0 tw1 tw2 prd Ar;simp only;refine Bl ?_ (Bl ?_ ?_)<;>(simp only;grind)
theorem lJ(hp:P4 p)(z:Am a b c%p≠0)(h:PrC p C (E4 2 (CI p) a b c))(nx:NF p x):CgR p (ap (tw0 C) (tw1 C) (tw2 C) x) (0,0,0)↔x=nrm p (crs a b):=by
 obtain⟨d,dz,e⟩:=h;have e:CgC p C (scC d (prd a b)):=e;obtain⟨t0,t1,t2⟩:=L8 e;have q:CgR p (ap (tw0 C) (tw1 C) (tw2 C) x) (AF d (ap (tw0 (prd a b)) (tw1 (prd a b)) (tw2 (prd a b)) x)):=(Me t0 t1 t2 CgR.rfl).trans (CgR.of (by
  unfold ap tw0 tw1 tw2 scC Ar AF;simp only;refine Bl ?_ (Bl ?_ ?_)<;>(simp only;grind)))
 constructor
 ·intro k;have k2:=q.symm.trans k;have r:∀ u,(d*Ar (ap (tw0 (prd a b)) (tw1 (prd a b)) (tw2 (prd a b)) x) u)%p=0:=fun u=>by
   refine IZ ((Cg.of ?_).trans ((FI k2 (CgR.rfl (a:=u))).trans (Cg.of ?_)))
   ·unfold Ar AF;simp only;grind
   ·unfold Ar;simp
  have r1:=(E7 hp dz).mp (r (crs b c));have r2:=(E7 hp dz).mp (r (crs c a));rw[U9]at r1 r2;have s1:Ar (Ar b x*a.1+Ar a x*b.1,Ar b x*a.2.1+Ar a x*b.2.1,Ar b x*a.2.2+Ar a x*b.2.2) (crs b c)=Am a b c*Ar b x:=by
   generalize Ar b x=s;generalize Ar a x=t;unfold Ar crs Am det;simp only;grind
  have s2:Ar (Ar b x*a.1+Ar a x*b.1,Ar b x*a.2.1+Ar a x*b.2.1,Ar b x*a.2.2+Ar a x*b.2.2) (crs c a)=Am a b c*Ar a x:=by
   generalize Ar b x=s;generalize Ar a x=t;unfold Ar crs Am det;simp only;grind
  rw[s1,E7 hp z]at r1;rw[s2,E7 hp z]at r2;exact S0 hp (Jy hp z).1 nx (Jy hp z).2 r2 r1
 ·rintro rfl;obtain⟨h1,h2⟩:=Nj hp z;refine q.trans ?_;rw[U9];have k:∀ i j:Ae,Cg p (d*(Ar b (nrm p (crs a b))*i+Ar a (nrm p (crs a b))*j)) 0:=fun i j=>((Cg.rfl (a:=d)).mul (((kg0 h2).mul (Cg.rfl (a:=i))).add ((kg0 h1).mul (Cg.rfl (a:=j))))).trans (Cg.of (by simp))
  exact⟨k _ _,k _ _,k _ _⟩
end
noncomputable def Oe:E:=(.no (.bi .any (.cons (.call 91 (.cons (.var 0) (.cons (.var 3) (.cons (.var 4) .nil)))) .nil)))
noncomputable def Oo:Df:=⟨5,Ad,(.cons (.asg 3 Ad (.call 131 (.cons (.var 0) (.cons (.var 1) .nil)))) (.cons (.ret (.idx (.comp KA 4 (.e (.var 2)) Oe) (.int 0))) .nil))⟩
noncomputable def NI:E:=(.cmp .NotEq (.var 6) (.var 3))
noncomputable def NJ:E:=(.var 6)
noncomputable def NH:E:=(.no (.call 56 (.cons (.var 0) (.cons (.var 7) (.cons (.var 4) .nil)))))
noncomputable def Kz:E:=(.var 7)
noncomputable def MB:Df:=⟨8,Ad,(.cons (.asg 3 Ad (.call 152 (.cons (.var 0) (.cons (.var 1) (.cons (.var 2) .nil))))) (.cons (.asg 4 Ad (.call 57 (.cons (.var 0) (.cons (.var 3) (.cons (.idx (.comp NJ 6 (.e (.var 2)) NI) (.int 0)) .nil))))) (.cons (.asg 5 Ad (.call 57 (.cons (.var 0) (.cons (.var 3) (.cons (.idx (.comp Kz 7 (.e (.var 2)) NH) (.int 0)) .nil))))) (.cons (.ret (.bi .sorted (.cons (.lst (.cons (.var 4) (.cons (.var 5) .nil))) .nil))) .nil))))⟩
noncomputable def IV:Df:=⟨4,Ad,(.cons (.ife (.call 136 (.cons (.var 0) (.cons (.var 1) .nil))) (.cons (.ret (.tup (.cons (.str (Aq "whole")) (.cons (.call 151 (.cons (.var 0) (.cons (.call 123 (.cons (.var 0) .nil)) (.cons (.var 1) .nil)))) .nil)))) .nil) .nil) (.cons (.asg 2 Ad (.call 128 (.cons (.var 0) (.cons (.var 1) .nil)))) (.cons (.ife (.cmp .Eq (.bi .len (.cons (.var 2) .nil)) (.int 1)) (.cons (.ret (.tup (.cons (.str (Aq "point")) (.cons (.idx (.var 2) (.int 0)) .nil)))) .nil) .nil) (.cons (.ife (.cmp .Eq (.bi .len (.cons (.var 2) .nil)) (.bin .Add (.var 0) (.int 1))) (.cons (.ret (.tup (.cons (.str (Aq "twice")) (.cons (.call 57 (.cons (.var 0) (.cons (.idx (.var 2) (.int 0)) (.cons (.idx (.var 2) (.int 1)) .nil)))) .nil)))) .nil) .nil) (.cons (.asg 3 Ad (.call 153 (.cons (.var 0) (.cons (.var 1) (.cons (.var 2) .nil))))) (.cons (.ret (.tup (.cons (.str (Aq "lines")) (.cons (.idx (.var 3) (.int 0)) (.cons (.idx (.var 3) (.int 1)) .nil))))) .nil))))))⟩
section
variable{Γ:Gam}{p:Ae}{C:C6}{a b c:R3}
theorem PN{l:Ac R3}{q:R3->Ao}(h:∃ x∈l,q x=Aa):∃ x,(l.filter q)[0]?=Ab x/\x∈l/\q x=Aa:=by
 obtain⟨x,hx,hq⟩:=h;cases e:l.filter q with
 |nil=>
  have:x∈l.filter q:=AR.mpr ⟨hx,hq⟩;rw[e]at this;cases this
 |cons y r=>
  have:y∈l.filter q:=by rw[e];exact Ay
  exact⟨y,rfl,(AR.mp this).1,(AR.mp this).2⟩
theorem YC(i j k:Ae):biD .any [Aj Aa (i,j,k)]=.ok (.bl (!decide (i=0/\j=0/\k=0))):=by
 have e:biD .any [Aj Aa (i,j,k)]=.ok (.bl ((i != 0)||((j != 0)||((k != 0)||false)))):=rfl;rw[e]
 congr 2
 rw[BU];simp
def R0(Γ:Gam):Prop:=∀(p:Ae)(C:C6)(a b c:R3),P4 p->InC p C->Am a b c%p≠0->PrC p C (E4 2 (CI p) a b c)->Γ.F 152 [.int p,AY C,BR (AZ p C)]=.ok (Aj Aa (nrm p (crs a b)))
theorem ZG(hs:M0 Γ)(ht:LR Γ)(hp:P4 p)(iC:InC p C)(z:Am a b c%p≠0)(h:PrC p C (E4 2 (CI p) a b c)):Oo.run Γ [.int p,AY C,BR (AZ p C)]=.ok (Aj Aa (nrm p (crs a b))):=by
 have p0:=hp.pos;have e1:=ht p C hp;obtain⟨i0,i1,i2⟩:=Nr hp iC;obtain⟨g0,g1,g2⟩:=Nt p C;have b3:∀ {r},In3 p r->B3 r:=fun h=>(Ci hp h).b3 (by decide)
 have cp:BJ (cG Γ [si p,sh (AY C),sh (BR (AZ p C)),sh (Bc (t0 p C) (t1 p C) (t2 p C)),Af] 4 Oe) (cF Γ [si p,sh (AY C),sh (BR (AZ p C)),sh (Bc (t0 p C) (t1 p C) (t2 p C)),Af] 4 KA) ((AZ p C).map (Aj Aa))=.ok (((AZ p C).filter fun x=>decide (x=nrm p (crs a b))).map (Aj Aa)):=by
  refine JV (AZ p C) fun x hx=>⟨?_,?_⟩
  ·have nx:=((Ij hp).mp hx).1;have e:Γ.F 91 [.int p,Bc (t0 p C) (t1 p C) (t2 p C),Aj Aa x]=_:=hs p Aa Aa Aa (t0 p C) (t1 p C) (t2 p C) x p0 (b3 i0) (b3 i1) (b3 i2) (b3 nx.1);have q:=YC (Ar (t0 p C) x%p) (Ar (t1 p C) x%p) (Ar (t2 p C) x%p);have k:decide (Ar (t0 p C) x%p=0/\Ar (t1 p C) x%p=0/\Ar (t2 p C) x%p=0)=decide (x=nrm p (crs a b)):=by
    rw[EA,<-lJ hp z h nx];have w:=Me g0 g1 g2 (CgR.rfl (a:=x));constructor
    ·rintro⟨q0,q1,q2⟩;exact w.symm.trans ⟨kg0 q0,kg0 q1,kg0 q2⟩
    ·intro q;obtain⟨q0,q1,q2⟩:=w.trans q;exact⟨IZ q0,IZ q1,IZ q2⟩
   rw[k]at q;generalize Aj Aa (Ar (t0 p C) x%p,Ar (t1 p C) x%p,Ar (t2 p C) x%p)=R3 at *;generalize Bc (t0 p C) (t1 p C) (t2 p C)=TT at *;generalize decide (x=nrm p (crs a b))=v at *;generalize Aj Aa x=xx at *;simp[cG,Oe,e,q]
  ·simp[cF,KA]
 have hm:nrm p (crs a b)∈AZ p C:=(Ij hp).mpr ⟨(Jy hp z).1,(Ri hp h _).mpr (.inl (Nj hp z).1)⟩;obtain⟨x,hx,_,hq⟩:=PN (l:=AZ p C) (q:=fun x=>decide (x=nrm p (crs a b))) ⟨_,hm,E3 rfl⟩
 have hq:=Ea hq;subst hq;have ix:=KW hx;have sq:Cc (BR (AZ p C))=.ok ((AZ p C).map (Aj Aa)):=rfl;have ix':BW (.lst (((AZ p C).filter fun x=>decide (x=nrm p (crs a b))).map (Aj Aa))) (.int 0)=.ok (Aj Aa (nrm p (crs a b))):=ix
 generalize Bc (t0 p C) (t1 p C) (t2 p C)=TT at *;generalize ((AZ p C).filter fun x=>decide (x=nrm p (crs a b))).map (Aj Aa)=FL at *
 generalize BR (AZ p C)=PP at *;generalize Aj Aa (nrm p (crs a b))=mm at *;generalize (AZ p C).map (Aj Aa)=PL at *;generalize AY C=cC at *;simp[Oo,Df.run,BH,e1,sq,cp,ix']
theorem VN(hp:P4 p)(z:Am a b c%p≠0):((BX p).filter fun x=>decide (Ar a x%p=0)).length=GC p 1:=by
 rw[<-JZ (w:=1) (C:=prd a a) (.inr (.inl rfl)) hp z (PrC.rfl hp)];unfold AZ
 congr 1
 refine FV fun x hx=>?_
 rw[EA,He,QM hp,or_self]
theorem Tx(hj:J3 Γ)(hp:P4 p){A B m:R3}(on:∀ x,vI C x%p=0↔Ar A x%p=0\/Ar B x%p=0)(nA:NF p (nrm p A)/\Pr p (nrm p A) A)(nB:NF p (nrm p B)/\Pr p (nrm p B) B)(nm:NF p m)(mA:Ar A m%p=0)(mB:Ar B m%p=0)(cnt:(AZ p C).length≠((BX p).filter fun x=>decide (Ar A x%p=0)).length):∃ P,((AZ p C).filter fun x=>!decide (Ar x (nrm p A)%p=0))[0]?=Ab P/\nrm p A≠nrm p B/\Γ.F 57 [.int p,Aj Aa m,Aj Aa P]=.ok (Aj Aa (nrm p B)):=by
 have ex:∃ x∈AZ p C,(!decide (Ar x (nrm p A)%p=0))=Aa:=by
  refine Eb fun n=>cnt ?_
  unfold AZ
  congr 1
  refine FV fun x hx=>?_
  rw[EA];constructor
  ·intro h;refine Eb fun k=>n ⟨x,(Ij hp).mpr ⟨(Eh hp).mp hx,h⟩,?_⟩
   rw[Bz,Cs,GR hp nA.2];exact k
  ·intro h;exact(on x).mpr (.inl h)
 obtain⟨P,e,hP,hq⟩:=PN ex;rw[Bz,Cs]at hq;obtain⟨nP,vP⟩:=(Ij hp).mp hP;have hB:Ar B P%p=0:=((on P).mp vP).resolve_left fun k=>hq ((GR hp nA.2).mpr k)
 have ne:m≠P:=fun k=>hq (by rw[<-k];exact(GR hp nA.2).mpr mA)
 obtain⟨y,ny,py,e2⟩:=LW hj hp nm nP ne;have ey:=M9 hp ny nB.1 py ((GR hp nB.2).mpr mB) ((GR hp nB.2).mpr hB);subst ey;exact⟨P,e,fun k=>hq (by rw[k];exact(GR hp nB.2).mpr hB),e2⟩
def V7(Γ:Gam):Prop:=∀(p:Ae)(C:C6)(a b c:R3),P4 p->InC p C->Am a b c%p≠0->PrC p C (E4 2 (CI p) a b c)->∃ L1 L2,((L1=nrm p a/\L2=nrm p b)\/(L1=nrm p b/\L2=nrm p a))/\BP (tri L1) (tri L2)=Aa/\Γ.F 153 [.int p,AY C,BR (AZ p C)]=.ok (BR [L1,L2])
theorem uL(ne:x≠y):∃ L1 L2,((L1=x/\L2=y)\/(L1=y/\L2=x))/\BP (tri L1) (tri L2)=Aa/\Hc [Aj Aa x,Aj Aa y]=.ok [Aj Aa L1,Aj Aa L2]:=by
 have nt:tri x≠tri y:=fun h=>ne (by
  obtain⟨x1,x2,x3⟩:=x;obtain⟨y1,y2,y3⟩:=y;unfold tri at h;simp at h;obtain⟨rfl,rfl,rfl⟩:=h;rfl)
 have k:∀ L1 L2:R3,(L1=x/\L2=y)\/(L1=y/\L2=x)->BP (tri L1) (tri L2)=Aa->Hc [Aj Aa x,Aj Aa y]=.ok [Aj Aa L1,Aj Aa L2]:=fun L1 L2 h hl=>by
  have:=Zw (rs:=[tri x,tri y]) (ys:=[tri L1,tri L2]) (by intro r hr;simp at hr;rcases hr with rfl|rfl<;>simp[tri]) (by simp[nt]) (by simp) (by simp[hl]) (by
   intro r;rcases h with ⟨rfl,rfl⟩|⟨rfl,rfl⟩
   ·rfl
   ·simp only[Ax,AX,B8];exact or_comm)
  simp only[BQ,FC,<-Pw]at this;exact this
 cases hl:BP (tri x) (tri y) with
 |true=>exact⟨x,y,.inl ⟨rfl,rfl⟩,hl,k x y (.inl ⟨rfl,rfl⟩) hl⟩
 |false=>
  have hl':=MF nt hl;exact⟨y,x,.inr ⟨rfl,rfl⟩,hl',k y x (.inr ⟨rfl,rfl⟩) hl'⟩
theorem uV(hj:J3 Γ)(hc:R0 Γ)(ho:Vn Γ)(hp:P4 p)(iC:InC p C)(z:Am a b c%p≠0)(h:PrC p C (E4 2 (CI p) a b c)):∃ L1 L2,((L1=nrm p a/\L2=nrm p b)\/(L1=nrm p b/\L2=nrm p a))/\BP (tri L1) (tri L2)=Aa/\MB.run Γ [.int p,AY C,BR (AZ p C)]=.ok (BR [L1,L2]):=by
  have p0:=hp.pos;have e1:=hc p C a b c hp iC z h;have nA:=L9 hp z;have nB:=L9 hp (Qi z);obtain⟨mA,mB⟩:=Nj hp z;have nm:=(Jy hp z).1;have len:=JZ (.inr (.inr (.inl rfl))) hp z h;have wl:GC p 2≠GC p 1/\2<=GC p 2:=by rcases hp with rfl|rfl|rfl|rfl<;>decide
  have on:=Ri hp h;have exn:∃ x∈AZ p C,(!decide (x=nrm p (crs a b)))=Aa:=by
    have nd:(AZ p C).Nodup:=(LH hp).filter _
    match e:AZ p C,len,nd with
    |[],q,_=>exact absurd q (by simp;omega)
    |[_],q,_=>exact absurd q (by simp;omega)
    |x::y::r,_,nd=>
      by_cases hx:x=nrm p (crs a b)
      · refine⟨y,by simp,?_⟩
        rw[Bz,Cs];rintro rfl;exact(B5.mp nd).1 (by rw[hx];simp)
      · exact⟨x,by simp,by rw[Bz,Cs];exact hx⟩
  generalize nrm p (crs a b)=m at *;obtain⟨P,eP,hP,hq⟩:=PN exn;rw[Bz,Cs]at hq;obtain⟨nP,vP⟩:=(Ij hp).mp hP;obtain⟨y,ny,py,e2⟩:=LW hj hp nm nP fun k=>hq k.symm
  have fin:∃ y2 P2,(((y=nrm p a/\y2=nrm p b))\/(y=nrm p b/\y2=nrm p a))/\y≠y2/\((AZ p C).filter fun x=>!decide (Ar x y%p=0))[0]?=Ab P2/\Γ.F 57 [.int p,Aj Aa m,Aj Aa P2]=.ok (Aj Aa y2):=by
    rcases (on P).mp vP with k|k
    · have ey:=M9 hp ny nA.1 py ((GR hp nA.2).mpr mA) ((GR hp nA.2).mpr k);subst ey;obtain⟨P2,q1,q2,q3⟩:=Tx hj hp on nA nB nm mA mB (by rw[len,VN hp z];exact wl.1)
      exact⟨_,P2,.inl ⟨rfl,rfl⟩,q2,q1,q3⟩
    · have ey:=M9 hp ny nB.1 py ((GR hp nB.2).mpr mB) ((GR hp nB.2).mpr k);subst ey;obtain⟨P2,q1,q2,q3⟩:=Tx hj hp (fun x=>(on x).trans or_comm) nB nA nm mB mA (by rw[len,VN hp (Qi z)];exact wl.1)
      exact⟨_,P2,.inr ⟨rfl,rfl⟩,q2,q1,q3⟩
  obtain⟨y2,P2,hy,ne,eP2,e3⟩:=fin;obtain⟨L1,L2,hL,lx,so⟩:=uL ne;refine⟨L1,L2,?_,lx,?_⟩
  · rcases hy with ⟨rfl,rfl⟩|⟨rfl,rfl⟩
    · exact hL
    · rcases hL with ⟨rfl,rfl⟩|⟨rfl,rfl⟩
      · exact .inr ⟨rfl,rfl⟩
      · exact .inl ⟨rfl,rfl⟩
  have cp1:BJ (cG Γ [si p,sh (AY C),sh (BR (AZ p C)),sh (Aj Aa m),Af,Af,Af,Af] 6 NI) (cF Γ [si p,sh (AY C),sh (BR (AZ p C)),sh (Aj Aa m),Af,Af,Af,Af] 6 NJ) ((AZ p C).map (Aj Aa))=.ok (((AZ p C).filter fun x=>!decide (x=m)).map (Aj Aa)):=by
    refine JV (AZ p C) fun x hx=>⟨?_,?_⟩
    · have f1:=(PJ x).1;have f2:=(PJ m).1;have q:=U3 x m;generalize decide (x=m)=v at *;generalize Aj Aa x=xx at *;generalize Aj Aa m=mm at *;simp[cG,NI,f1,f2,q]
    · simp[cF,NJ]
  have cp2:BJ (cG Γ [si p,sh (AY C),sh (BR (AZ p C)),sh (Aj Aa m),sh (Aj Aa y),Af,Af,Af] 7 NH) (cF Γ [si p,sh (AY C),sh (BR (AZ p C)),sh (Aj Aa m),sh (Aj Aa y),Af,Af,Af] 7 Kz) ((AZ p C).map (Aj Aa))=.ok (((AZ p C).filter fun x=>!decide (Ar x y%p=0)).map (Aj Aa)):=by
    refine JV (AZ p C) fun x hx=>⟨?_,?_⟩
    · have e:=ho p x y hp ((Ij hp).mp hx).1.1 ny.1;generalize decide (Ar x y%p=0)=v at *;generalize Aj Aa x=xx at *;simp[cG,NH,e]
    · simp[cF,Kz]
  have ix1:BW (.lst (((AZ p C).filter fun x=>!decide (x=m)).map (Aj Aa))) (.int 0)=.ok (Aj Aa P):=KW eP
  have ix2:BW (.lst (((AZ p C).filter fun x=>!decide (Ar x y%p=0)).map (Aj Aa))) (.int 0)=.ok (Aj Aa P2):=KW eP2
  have sq:Cc (BR (AZ p C))=.ok ((AZ p C).map (Aj Aa)):=rfl;have so':Hc [Aj Aa y,Aj Aa y2]=.ok ([L1,L2].map (Aj Aa)):=so;show _=R.ok (D.lst ([L1,L2].map (Aj Aa)));generalize [L1,L2].map (Aj Aa)=LL at *;generalize ((AZ p C).filter fun x=>!decide (x=m)).map (Aj Aa)=F1 at *
  generalize ((AZ p C).filter fun x=>!decide (Ar x y%p=0)).map (Aj Aa)=F2 at *
  generalize BR (AZ p C)=PP at *;generalize (AZ p C).map (Aj Aa)=PL at *;generalize Aj Aa y=yy at *;generalize Aj Aa y2=yy2 at *;generalize Aj Aa m=mm at *;generalize Aj Aa P=tP at *;generalize Aj Aa P2=tP2 at *;generalize AY C=cC at *;simp[MB,Df.run,BH,e1,sq,cp1,ix1,e2,cp2,ix2,e3,so']
end
section
variable{Γ:Gam}{p:Ae}{C:C6}{a b c:R3}
noncomputable def P0c(p:Ae):C6:=⟨0,1,0,0,p-1,0⟩
theorem uP(hp:P4 p):InC p (P0c p):=by
 rcases hp with rfl|rfl|rfl|rfl<;>(unfold InC P0c C6.l;decide)
theorem Rc(hp:P4 p):PrC p (P0c p) (E4 0 (CI p) e0R e1R e2R):=by
 refine⟨-1,hp.m1,?_⟩;rcases hp with rfl|rfl|rfl|rfl<;>exact⟨by rfl,by rfl,by rfl,by rfl,by rfl,by rfl⟩
theorem Vy(hp:P4 p):Am e0R e1R e2R%p≠0:=by
 rcases hp with rfl|rfl|rfl|rfl<;>decide
structure Kd (Γ:Gam):Prop where
 k0:∀(p:Ae)(C:C6)(a b c:R3),P4 p->InC p C->Am a b c%p≠0->PrC p C (E4 0 (CI p) a b c)->∃ m0 m1 m2,GoodR p m0 m1 m2/\AW p (nine m0 m1 m2)=Ab 1/\PrC p (pb C m0 m1 m2) (P0c p)/\Γ.F 154 [.int p,AY C]=.ok (.tup [.str (Aq "whole"),Bc m0 m1 m2])
 k1:∀(p:Ae)(C:C6)(a b c:R3),P4 p->InC p C->Am a b c%p≠0->PrC p C (E4 1 (CI p) a b c)->Γ.F 154 [.int p,AY C]=.ok (.tup [.str (Aq "twice"),Aj Aa (nrm p a)])
 k2:∀(p:Ae)(C:C6)(a b c:R3),P4 p->InC p C->Am a b c%p≠0->PrC p C (E4 2 (CI p) a b c)->∃ L1 L2,((L1=nrm p a/\L2=nrm p b)\/(L1=nrm p b/\L2=nrm p a))/\BP (tri L1) (tri L2)=Aa/\Γ.F 154 [.int p,AY C]=.ok (.tup [.str (Aq "lines"),Aj Aa L1,Aj Aa L2])
 k3:∀(p:Ae)(C:C6)(a b c:R3),P4 p->InC p C->Am a b c%p≠0->PrC p C (E4 3 (CI p) a b c)->Γ.F 154 [.int p,AY C]=.ok (.tup [.str (Aq "point"),Aj Aa (nrm p (crs a b))])
structure Hk (Γ:Gam):Prop where
 wh:V6 Γ
 pl:Uj Γ
 cm:Uq Γ
 pt:Pq Γ
 jn:J3 Γ
 tw:V7 Γ
theorem Y0(h:Hk Γ)(hp:P4 p)(iC:InC p C)(z:Am a b c%p≠0)(pC:PrC p C (E4 0 (CI p) a b c)):∃ m0 m1 m2,GoodR p m0 m1 m2/\AW p (nine m0 m1 m2)=Ab 1/\PrC p (pb C m0 m1 m2) (P0c p)/\IV.run Γ [.int p,AY C]=.ok (.tup [.str (Aq "whole"),Bc m0 m1 m2]):=by
 have e1:=h.wh p C hp iC;have wC:Whl p C:=(LZ (.inl rfl) hp z pC).mpr rfl;rw[E3 wC]at e1;have e2:Γ.F 123 [.int p]=.ok (AY (P0c p)):=h.pl p hp;have w0:Whl p (P0c p):=(LZ (.inl rfl) hp (Vy hp) (Rc hp)).mpr rfl;obtain⟨A,B,P,U,rs,fC⟩:=VV h.jn hp (Vy hp) w0 (Rc hp);obtain⟨A',B',P',U',rs',fE⟩:=VV h.jn hp z wC pC;obtain⟨x0,x1,x2,Gx,Lx⟩:=Sv hp fC.gen;obtain⟨y0,y1,y2,Gy,Ly⟩:=Sv hp fE.gen;obtain⟨m0,m1,m2,Gm,lm,Lm⟩:=xO hp Gx Gy Lx Ly;have e3:=h.cm p (P0c p) C m0 m1 m2 A B P U A' B' P' U' rs rs' Gm lm (uP hp) w0 iC wC fC fE Lm;have pq:=ZY hp Gm.nz w0 wC fC.gen.1 fC.gen.2.1 fC.on fE.on Lm.h0 Lm.h1 Lm.h2 Lm.h3;refine⟨m0,m1,m2,Gm,lm,pq,?_⟩;generalize Bc m0 m1 m2=TT at *;generalize AY (P0c p)=c0 at *;generalize AY C=cC at *;simp[IV,Df.run,BH,e1,e2,e3]
theorem Pk(hw:W4 w)(hp:P4 p)(z:Am a b c%p≠0)(pC:PrC p C (E4 w (CI p) a b c)):biD .len [BR (AZ p C)]=.ok (.int (GC p w:Ae)):=by
 rw[<-JZ hw hp z pC];show R.ok (D.int (((AZ p C).map (Aj Aa)).length:Ag))=_;rw[Bp]
theorem YZ(h:Hk Γ)(hp:P4 p)(iC:InC p C)(z:Am a b c%p≠0)(pC:PrC p C (E4 1 (CI p) a b c)):IV.run Γ [.int p,AY C]=.ok (.tup [.str (Aq "twice"),Aj Aa (nrm p a)]):=by
  have p0:=hp.pos;have w1:W4 1:=.inr (.inl rfl);have e1:=h.wh p C hp iC;rw[CD (fun k=>absurd ((LZ w1 hp z pC).mp k) (by decide))]at e1
  have e2:=h.pt p C hp iC;have ln:=Pk w1 hp z pC;have wv:(GC p 1:Ae)=p+1:=by show (((p+1).toNat:Ag):Ae)=_;omega
  rw[wv]at ln;have nA:=L9 hp z;have len:=JZ w1 hp z pC;have w2:2<=GC p 1:=by rcases hp with rfl|rfl|rfl|rfl<;>decide
  have nd:(AZ p C).Nodup:=(LH hp).filter _;obtain⟨P,Q,g0,g1,ne,hP,hQ⟩:∃ P Q,(AZ p C)[0]?=Ab P/\(AZ p C)[1]?=Ab Q/\P≠Q/\P∈AZ p C/\Q∈AZ p C:=by
    match e:AZ p C,len,nd with
    |[],q,_=>exact absurd q (by simp;omega)
    |[_],q,_=>exact absurd q (by simp;omega)
    |x::y::r,_,nd=>
      refine⟨x,y,rfl,rfl,?_,by simp,by simp⟩
      rintro rfl;exact(B5.mp nd).1 (by simp)
  obtain⟨nP,vP⟩:=(Ij hp).mp hP;obtain⟨nQ,vQ⟩:=(Ij hp).mp hQ;obtain⟨y,ny,py,e3⟩:=LW h.jn hp nP nQ ne;have ey:=M9 hp ny nA.1 py ((GR hp nA.2).mpr ((Rj hp pC P).mp vP)) ((GR hp nA.2).mpr ((Rj hp pC Q).mp vQ));subst ey;have i0:BW (BR (AZ p C)) (.int 0)=.ok (Aj Aa P):=KW g0;have i1:BW (BR (AZ p C)) (.int 1)=.ok (Aj Aa Q):=KW g1;have q1:¬ p+1=1:=by omega
  generalize BR (AZ p C)=PP at *;generalize Aj Aa P=tP at *;generalize Aj Aa Q=tQ at *;generalize Aj Aa (nrm p a)=tA at *;generalize AY C=cC at *;simp[IV,Df.run,BH,e1,e2,ln,q1,i0,i1,e3]
theorem YY(h:Hk Γ)(hp:P4 p)(iC:InC p C)(z:Am a b c%p≠0)(pC:PrC p C (E4 2 (CI p) a b c)):∃ L1 L2,((L1=nrm p a/\L2=nrm p b)\/(L1=nrm p b/\L2=nrm p a))/\BP (tri L1) (tri L2)=Aa/\IV.run Γ [.int p,AY C]=.ok (.tup [.str (Aq "lines"),Aj Aa L1,Aj Aa L2]):=by
 have p0:=hp.pos;have w2:W4 2:=.inr (.inr (.inl rfl));have e1:=h.wh p C hp iC;rw[CD (fun k=>absurd ((LZ w2 hp z pC).mp k) (by decide))]at e1
 have e2:=h.pt p C hp iC;have ln:=Pk w2 hp z pC;have wv:(GC p 2:Ae)=2*p+1:=by show (((2*p+1).toNat:Ag):Ae)=_;omega
 rw[wv]at ln;obtain⟨L1,L2,hL,lx,e3⟩:=h.tw p C a b c hp iC z pC;refine⟨L1,L2,hL,lx,?_⟩;have q1:¬ 2*p+1=1:=by omega
 have q2:¬ 2*p+1=p+1:=by omega
 have i0:BW (BR [L1,L2]) (.int 0)=.ok (Aj Aa L1):=rfl;have i1:BW (BR [L1,L2]) (.int 1)=.ok (Aj Aa L2):=rfl;generalize BR [L1,L2]=LL at *;generalize BR (AZ p C)=PP at *;generalize Aj Aa L1=t1 at *;generalize Aj Aa L2=t2 at *;generalize AY C=cC at *;generalize 2*p+1=N at *;simp[IV,Df.run,BH,e1,e2,ln,q1,q2,e3,i0,i1]
theorem YX(h:Hk Γ)(hp:P4 p)(iC:InC p C)(z:Am a b c%p≠0)(pC:PrC p C (E4 3 (CI p) a b c)):IV.run Γ [.int p,AY C]=.ok (.tup [.str (Aq "point"),Aj Aa (nrm p (crs a b))]):=by
  have p0:=hp.pos;have w3:W4 3:=.inr (.inr (.inr rfl));have e1:=h.wh p C hp iC;rw[CD (fun k=>absurd ((LZ w3 hp z pC).mp k) (by decide))]at e1
  have e2:=h.pt p C hp iC;have ln:=Pk w3 hp z pC;have wv:(GC p 3:Ae)=1:=rfl;rw[wv]at ln;have hm:nrm p (crs a b)∈AZ p C:=(Ij hp).mpr ⟨(Jy hp z).1,Rh hp z pC⟩;have len:(AZ p C).length=1:=JZ w3 hp z pC;have g0:(AZ p C)[0]?=Ab (nrm p (crs a b)):=by
    match e:AZ p C,len,hm with
    |[x],_,hm=>
      rw[Bs]at hm;rw[hm];rfl
  have i0:BW (BR (AZ p C)) (.int 0)=.ok (Aj Aa (nrm p (crs a b))):=KW g0;generalize BR (AZ p C)=PP at *;generalize Aj Aa (nrm p (crs a b))=t1 at *;generalize AY C=cC at *;simp[IV,Df.run,BH,e1,e2,ln,i0]
end
def Ul(Γ:Gam):Prop:=∀(p:Ae)(q:Ao)(C:C6)(x:R3),P4 p->InC p C->In3 p x->Γ.F 162 [.int p,AY C,Aj q x]=.ok (.int (vI C x%p))
theorem TZ(Γ:Gam)(p:Ae)(q:Ao)(C:C6)(x:R3)(hp:P4 p)(iC:InC p C)(ix:In3 p x):ND.run Γ [.int p,AY C,Aj q x]=.ok (.int (vI C x%p)):=by
 have p0:=hp.pos;have bC:=iC.b hp;have bx:=Ci hp ix;have k:∀ {u v},Bd 10 u->Bd 10 v->E8 u v=Aa:=fun hu hv=>GU hu hv (by decide) (by decide)
 have k2:∀ {u v w},Bd 10 u->Bd 10 v->Bd 10 w->E8 u (v*w)=Aa:=fun hu hv hw=>GU hu (hv.mul hw) (by decide) (by decide)
 obtain⟨c0,c1,c2,c3,c4,c5⟩:=C;obtain⟨x0,x1,x2⟩:=x;have q00:=k bx.1 bx.1;have q11:=k bx.2.1 bx.2.1;have q22:=k bx.2.2 bx.2.2;have q01:=k bx.1 bx.2.1;have q02:=k bx.1 bx.2.2;have q12:=k bx.2.1 bx.2.2;have m0:=k2 bC.b0 bx.1 bx.1;have m1:=k2 bC.b1 bx.2.1 bx.2.1;have m2:=k2 bC.b2 bx.2.2 bx.2.2;have m3:=k2 bC.b3 bx.1 bx.2.1;have m4:=k2 bC.b4 bx.1 bx.2.2;have m5:=k2 bC.b5 bx.2.1 bx.2.2;simp only at q00 q11 q22 q01 q02 q12 m0 m1 m2 m3 m4 m5;have sC:Cc (AY ⟨c0,c1,c2,c3,c4,c5⟩)=.ok [.int c0,.int c1,.int c2,.int c3,.int c4,.int c5]:=rfl;have as:∀ ρ:Rho,HM [3,4,5] (Aj q (x0,x1,x2)) ρ=.ok (((ρ.set 3 (si x0)).set 4 (si x1)).set 5 (si x2)):=fun _=>by cases q<;>rfl
 have ev:vI ⟨c0,c1,c2,c3,c4,c5⟩ (x0,x1,x2)=c0*(x0*x0)+c1*(x1*x1)+c2*(x2*x2)+c3*(x0*x1)+c4*(x0*x2)+c5*(x1*x2):=by
  unfold vI;simp only;grind
 rw[ev];generalize AY ⟨c0,c1,c2,c3,c4,c5⟩=cC at *;generalize Aj q (x0,x1,x2)=xx at *;generalize hz0:x0*x0=z0 at *;generalize hz1:x1*x1=z1 at *;generalize hz2:x2*x2=z2 at *;generalize hz3:x0*x1=z3 at *;generalize hz4:x0*x2=z4 at *;generalize hz5:x1*x2=z5 at *;have cp:BJ (cGT Γ [si p,sh cC,sh xx,si x0,si x1,si x2,sh (.lst [.int z0,.int z1,.int z2,.int z3,.int z4,.int z5]),Af,Af] [7,8] CB) (cFT Γ [si p,sh cC,sh xx,si x0,si x1,si x2,sh (.lst [.int z0,.int z1,.int z2,.int z3,.int z4,.int z5]),Af,Af] [7,8] NL) (Fm [.int c0,.int c1,.int c2,.int c3,.int c4,.int c5] [.int z0,.int z1,.int z2,.int z3,.int z4,.int z5])=.ok [.int (c0*z0),.int (c1*z1),.int (c2*z2),.int (c3*z3),.int (c4*z4),.int (c5*z5)]:=by
  simp[BJ,cGT,cFT,Fm,NL,CB,m0,m1,m2,m3,m4,m5]
 generalize hs:c0*z0+c1*z1+c2*z2+c3*z3+c4*z4+c5*z5=s;have sm:GW 0 [.int (c0*z0),.int (c1*z1),.int (c2*z2),.int (c3*z3),.int (c4*z4),.int (c5*z5)]=.ok s:=by rw[<-hs];simp[GW]
 simp[ND,Df.run,BH,as,q00,q11,q22,q01,q02,q12,hz0,hz1,hz2,hz3,hz4,hz5,sC,cp,sm,p0]
noncomputable def JT:Ss:=(.cons (.ife (.or (.cons (.no (.isi (.var 4) [.tuple])) (.cons (.cmp .NotEq (.bi .len (.cons (.var 4) .nil)) (.int 3)) .nil))) (.cons (.ret (.bl Ad)) .nil) .nil) (.cons (.ext 3 (.bi .list (.cons (.bin .Add (.var 4) (.tup .nil)) .nil))) .nil))
noncomputable def NS:E:=(.and (.cons (.isi (.var 13) [.int]) (.cons (.no (.isi (.var 13) [.bool])) (.cons (.cmp2 .LtE .Lt (.int 0) (.var 13) (.var 0)) .nil))))
noncomputable def NP:E:=(.cmp .NotEq (.var 14) (.int 0))
noncomputable def NR:E:=(.var 14)
noncomputable def Mk:E:=(.bin .Mod (.bin .Add (.bin .Add (.bin .Mult (.idx (.var 15) (.int 0)) (.var 7)) (.bin .Mult (.idx (.var 15) (.int 1)) (.var 8))) (.bin .Mult (.idx (.var 15) (.int 2)) (.var 9))) (.var 0))
noncomputable def NO:E:=(.cmp .Eq (.bin .Mod (.bin .Mult (.var 16) (.var 11)) (.var 0)) (.var 12))
noncomputable def NQ:E:=(.var 16)
noncomputable def JS:Ss:=(.cons (.asgT [7,8,9] (.var 6)) (.cons (.asg 10 Ad (.comp Mk 15 (.e (.var 2)) CB)) (.cons (.asg 11 Ad (.bin .Mod (.bin .Sub (.bin .Mult (.var 7) (.var 9)) (.bin .Mult (.var 8) (.var 8))) (.var 0))) (.cons (.asg 12 Ad (.call 162 (.cons (.var 0) (.cons (.var 1) (.cons (.var 10) .nil))))) (.cons (.ife (.cmp .NotEq (.cmp .Eq (.var 11) (.int 0)) (.cmp .Eq (.var 12) (.int 0))) (.cons (.ret (.bl Ad)) .nil) .nil) (.cons (.ife (.cmp .NotEq (.var 11) (.int 0)) (.cons (.app 5 (.idx (.comp NQ 16 (.rng (.var 0)) NO) (.int 0))) .nil) .nil) .nil))))))
noncomputable def Oa:Df:=⟨17,Ad,(.cons (.ife (.or (.cons (.no (.isi (.var 2) [.tuple])) (.cons (.cmp .NotEq (.bi .len (.cons (.var 2) .nil)) (.int 3)) .nil))) (.cons (.ret (.bl Ad)) .nil) .nil) (.cons (.asg 3 Aa (.lst .nil)) (.cons (.fors 4 (.e (.var 2)) JT) (.cons (.rel 3) (.cons (.ife (.no (.bi .all (.cons (.comp NS 13 (.e (.var 3)) CB) .nil))) (.cons (.ret (.bl Ad)) .nil) .nil) (.cons (.rel 3) (.cons (.ife (.or (.cons (.cmp .Eq (.call 165 (.cons (.var 0) (.cons (.idx (.var 2) (.int 0)) (.cons (.idx (.var 2) (.int 1)) (.cons (.idx (.var 2) (.int 2)) .nil))))) (.int 0)) (.cons (.cmp .NotEq (.idx (.comp NR 14 (.e (.var 3)) NP) (.int 0)) (.int 1)) .nil))) (.cons (.ret (.bl Ad)) .nil) .nil) (.cons (.asg 5 Aa (.lst .nil)) (.cons (.fors 6 (.e (.call 164 (.cons (.var 0) .nil))) JS) (.cons (.ret (.cmp .Eq (.bi .lset (.cons (.var 5) .nil)) (.int 1))) .nil))))))))))⟩
section
variable{Γ:Gam}{p:Ae}{C:C6}{a b c:R3}
theorem PK(r:R3)(xs:Ac D)(cC TT:D)(s4:Sl)(hn:xs.length<=9):CJ Γ 4 JT (trR r) [si p,sh cC,sh TT,Ab (.lst xs,Aa),s4,Af,Af,Af,Af,Af,Af,Af,Af,Af,Af,Af,Af]=.next [si p,sh cC,sh TT,Ab (.lst (xs++[.int r.1,.int r.2.1,.int r.2.2]),Aa),sh (trR r),Af,Af,Af,Af,Af,Af,Af,Af,Af,Af,Af,Af]:=by
 have it:Fo Γ.up [.tuple] (trR r)=.ok (.bl Aa):=rfl;have ln:biD .len [trR r]=.ok (.int 3):=rfl;have ad:Dk .Add (trR r) (.tup [])=.ok (.tup [.int r.1,.int r.2.1,.int r.2.2]):=rfl;have sz:DM (xs.length+3)=Aa:=EX (by omega)
 generalize trR r=tr at *;simp[CJ,JT,it,ln,ad,sz,Du]
theorem rD(t:Ae):∀ n:Ag,ddN (EW (n+1) t)=1:=fun n=>by
 have k:∀ n:Ag,(EW n t).foldl ddS [t]=[t]:=fun n=>by
  induction n with
  |zero=>rfl
  |succ n ih=>
   rw[WS,Wz];have:ddS [t] t=[t]:=by simp[ddS]
   rw[this];exact ih
 unfold ddN;rw[WS,Wz];have:ddS [] t=[t]:=by simp[ddS]
 rw[this,k];rfl
noncomputable def hx(p:Ae)(x:R3):Ae:=(x.1*x.2.2-x.2.1*x.2.1)%p
theorem kF(hp:P4 p):((BX p).filter fun x=>decide (hx p x≠0)).length≠0:=by
 rcases hp with rfl|rfl|rfl|rfl<;>decide +kernel
theorem UX(hp:P4 p):(BX p).length<=200:=by
 rcases hp with rfl|rfl|rfl|rfl<;>decide +kernel
noncomputable def up0(p:Ae):Ac Ae:=(Bb p.toNat).map fun(k:Ag)=>(k:Ae)
theorem gS(hp:P4 p):Dt 0 p=.ok (ds (up0 p)):=by
 rcases hp with rfl|rfl|rfl|rfl<;>rfl
theorem U8(hp:P4 p):(up0 p).Nodup/\∀ k,k∈up0 p↔0<=k/\k<p:=by
 have p0:=hp.pos;constructor
 ·rcases hp with rfl|rfl|rfl|rfl<;>decide
 ·intro k;unfold up0;rw[Cw];constructor
  ·rintro⟨n,hn,rfl⟩;rw[Ct]at hn;omega
  ·intro h;exact⟨k.toNat,Ct.mpr (by omega),by omega⟩
theorem kO(hp:P4 p){h:Ae}(hz:h%p≠0)(t0:0<=t)(t1:t<p):(up0 p).filter (fun k=>decide (k*h%p=t*h%p))=[t]:=by
 obtain⟨nd,mm⟩:=U8 hp;refine RG nd ((mm t).mpr ⟨t0,t1⟩) fun k hk=>?_
 rw[AK];constructor
 ·intro e;obtain⟨k0,k1⟩:=(mm k).mp hk;have d:h*(k-t)%p=0:=by
   have:h*(k-t)=k*h-t*h:=by grind
   rw[this,Jg,e,Wr,A5]
  have d2:=(E7 hp hz).mp d;have d3:k%p=t%p:=by
   have:=DN.mpr d2;exact this
  rwa [AI k0 k1,AI t0 t1]at d3
 ·rintro rfl;rfl
structure Pt (Γ:Gam) (p:Ae) (cC:D) (m0 m1 m2:R3) (t:Ae) (x:R3):Prop where
 ix:In3 p x
 far:Γ.F 162 [.int p,cC,Fn (Ar m0 x%p,Ar m1 x%p,Ar m2 x%p)]=.ok (.int (t*hx p x%p))
theorem xN(hp:P4 p){m0 m1 m2:R3}(i0:In3 p m0)(i1:In3 p m1)(i2:In3 p m2)(tz:t%p≠0)(t0:0<=t)(t1:t<p){cC:D}(h:Pt Γ p cC m0 m1 m2 t x)(xs:Ac D)(hn:xs.length<=900)(s3 s4 s6 s7 s8 s9 s10 s11 s12:Sl):∃ s6' s7' s8' s9' s10' s11' s12',CJ Γ 6 JS (Aj Aa x) [si p,sh cC,sh (Bc m0 m1 m2),s3,s4,Ab (.lst xs,Aa),s6,s7,s8,s9,s10,s11,s12,Af,Af,Af,Af]=.next [si p,sh cC,sh (Bc m0 m1 m2),s3,s4,Ab (.lst (xs++if hx p x≠0 then [.int t] else []),Aa),s6',s7',s8',s9',s10',s11',s12',Af,Af,Af,Af]:=by
 have p0:=hp.pos;have ph:=hp.hi;obtain⟨ix,far⟩:=h;have bb:∀{u v:Ae},0<=u/\u<p->Ei u v=Aa:=fun hu=>HI (by omega) (by omega)
 have hh:hx p x=(x.1*x.2.2-x.2.1*x.2.1)%p:=rfl;obtain⟨h0,h1⟩:0<=hx p x/\hx p x<p:=⟨A9 _ (by omega),A7 _ p0⟩
 have as:∀ ρ:Rho,HM [7,8,9] (Aj Aa x) ρ=.ok (((ρ.set 7 (si x.1)).set 8 (si x.2.1)).set 9 (si x.2.2)):=fun _=>rfl
 have q1:=bb (v:=x.2.2) ix.1;have q2:=bb (v:=x.2.1) ix.2.1;have row:∀ r:R3,In3 p r->cF Γ [si p,sh cC,sh (Bc m0 m1 m2),s3,s4,Ab (.lst xs,Aa),sh (Aj Aa x),si x.1,si x.2.1,si x.2.2,s10,s11,s12,Af,Af,Af,Af] 15 Mk (trR r)=.ok (.int (Ar r x%p)):=fun r hr=>by
  obtain⟨r0,r1,r2⟩:BW (trR r) (.int 0)=.ok (.int r.1)/\BW (trR r) (.int 1)=.ok (.int r.2.1)/\BW (trR r) (.int 2)=.ok (.int r.2.2):=⟨rfl,rfl,rfl⟩;have k0:=bb (v:=x.1) hr.1;have k1:=bb (v:=x.2.1) hr.2.1;have k2:=bb (v:=x.2.2) hr.2.2;generalize trR r=tr at *;generalize Aj Aa x=xx at *;unfold Ar;simp[cF,Mk,r0,r1,r2,k0,k1,k2,p0]
 have gg:∀ r,cG Γ [si p,sh cC,sh (Bc m0 m1 m2),s3,s4,Ab (.lst xs,Aa),sh (Aj Aa x),si x.1,si x.2.1,si x.2.2,s10,s11,s12,Af,Af,Af,Af] 15 CB r=.ok Aa:=fun _=>rfl
 have cp:BJ (cG Γ [si p,sh cC,sh (Bc m0 m1 m2),s3,s4,Ab (.lst xs,Aa),sh (Aj Aa x),si x.1,si x.2.1,si x.2.2,s10,s11,s12,Af,Af,Af,Af] 15 CB) (cF Γ [si p,sh cC,sh (Bc m0 m1 m2),s3,s4,Ab (.lst xs,Aa),sh (Aj Aa x),si x.1,si x.2.1,si x.2.2,s10,s11,s12,Af,Af,Af,Af] 15 Mk) [trR m0,trR m1,trR m2]=.ok [.int (Ar m0 x%p),.int (Ar m1 x%p),.int (Ar m2 x%p)]:=by
  simp[BJ,gg,row m0 i0,row m1 i1,row m2 i2]
 have rd:D.lst [.int (Ar m0 x%p),.int (Ar m1 x%p),.int (Ar m2 x%p)]=Fn (Ar m0 x%p,Ar m1 x%p,Ar m2 x%p):=rfl;have sq:Cc (Bc m0 m1 m2)=.ok [trR m0,trR m1,trR m2]:=rfl;have cp3:∀ s10:Sl,BJ (cG Γ [si p,sh cC,sh (Bc m0 m1 m2),s3,s4,Ab (.lst xs,Aa),sh (Aj Aa x),si x.1,si x.2.1,si x.2.2,s10,si (hx p x),si (t*hx p x%p),Af,Af,Af,Af] 16 NO) (cF Γ [si p,sh cC,sh (Bc m0 m1 m2),s3,s4,Ab (.lst xs,Aa),sh (Aj Aa x),si x.1,si x.2.1,si x.2.2,s10,si (hx p x),si (t*hx p x%p),Af,Af,Af,Af] 16 NQ) (ds (up0 p))=.ok (ds ((up0 p).filter fun k=>decide (k*hx p x%p=t*hx p x%p))):=fun s10=>by
  refine LA (up0 p) fun k hk=>⟨?_,?_⟩
  ·have:=bb (v:=hx p x) (((U8 hp).2 k).mp hk);generalize hx p x=H at *;generalize t*H%p=F at *;generalize Aj Aa x=xx at *;generalize Bc m0 m1 m2=TT at *;simp[cG,NO,this,p0];rw[BU];simp
  ·simp[cF,NQ]
 have ru:=gS hp;have sz:DM (xs.length+1)=Aa:=EX (by omega)
 generalize hT:Bc m0 m1 m2=TT at *;generalize hxx:Aj Aa x=xx at *;by_cases hz:hx p x=0
 ·have fz:t*hx p x%p=0:=by rw[hz,C8,A5]
  rw[fz]at far;rw[hh]at hz;rw[hh,AH (by simp[hz])]
  generalize Fn (Ar m0 x%p,Ar m1 x%p,Ar m2 x%p)=RD at *;refine⟨sh xx,si x.1,si x.2.1,si x.2.2,sh RD,si 0,si 0,?_⟩;simp[CJ,JS,as,sq,cp,rd,q1,q2,p0,hz,far]
 ·have hzp:hx p x%p≠0:=by rw[AI h0 h1];exact hz
  have fz:t*hx p x%p≠0:=Bm hp tz hzp;have f1:=kO hp hzp t0 t1;rw[Az hz];simp only[f1]at cp3;have g0:D0 (ds [t]) 0=.ok (.int t):=rfl;generalize hF:t*hx p x%p=F at *;rw[hh]at hz cp3;generalize hH:(x.1*x.2.2-x.2.1*x.2.1)%p=H at *;generalize hR:Fn (Ar m0 x%p,Ar m1 x%p,Ar m2 x%p)=RD at *;refine⟨sh xx,si x.1,si x.2.1,si x.2.2,sh RD,si H,si F,?_⟩;simp[CJ,JS,as,sq,cp,rd,q1,q2,p0,hH,hR,hz,far,fz,ru,cp3,g0,sz,Du];rw[GE hz,GE fz]
theorem TN(hp:P4 p){m0 m1 m2:R3}(i0:In3 p m0)(i1:In3 p m1)(i2:In3 p m2){t:Ae}(tz:t%p≠0)(t0:0<=t)(t1:t<p){cC:D}{s3 s4:Sl}:∀(l:Ac R3)(xs:Ac D)(s6 s7 s8 s9 s10 s11 s12:Sl),(∀ x∈l,Pt Γ p cC m0 m1 m2 t x)->xs.length+l.length<=900->∃ s6' s7' s8' s9' s10' s11' s12',CS (CJ Γ 6 JS) (l.map (Aj Aa)) [si p,sh cC,sh (Bc m0 m1 m2),s3,s4,Ab (.lst xs,Aa),s6,s7,s8,s9,s10,s11,s12,Af,Af,Af,Af]=.next [si p,sh cC,sh (Bc m0 m1 m2),s3,s4,Ab (.lst (xs++(l.filter fun x=>decide (hx p x≠0)).map fun _=>.int t),Aa),s6',s7',s8',s9',s10',s11',s12',Af,Af,Af,Af]
 |[],xs,s6,s7,s8,s9,s10,s11,s12,_,_=>⟨s6,s7,s8,s9,s10,s11,s12,by simp[CS]⟩
 |x::l,xs,s6,s7,s8,s9,s10,s11,s12,h,hn=>by
  rw[Cm]at hn;obtain⟨a6,a7,a8,a9,a10,a11,a12,e1⟩:=xN hp i0 i1 i2 tz t0 t1 (h x (Ay ..)) xs (by omega) s3 s4 s6 s7 s8 s9 s10 s11 s12
  obtain⟨b6,b7,b8,b9,b10,b11,b12,e2⟩:=TN hp i0 i1 i2 tz t0 t1 l (xs++if hx p x≠0 then [.int t] else []) a6 a7 a8 a9 a10 a11 a12 (fun y hy=>h y (Au _ hy)) (by
   rw[Cv];split<;>simp<;>omega)
  refine⟨b6,b7,b8,b9,b10,b11,b12,?_⟩;rw[BQ];show (CJ Γ 6 JS (Aj Aa x) _).turn _=_;rw[e1];show CS (CJ Γ 6 JS) (l.map (Aj Aa)) _=_;rw[e2,Dq];by_cases hz:hx p x=0
  ·simp[hz]
  ·simp[hz]
theorem S7:∀ xs:Ac Ae,HR (ds xs)=Ab xs
 |[]=>rfl
 |x::xs=>by
  show (HR (ds xs)).map (x :: ·)=_;rw[S7 xs];rfl
def xY(Γ:Gam):Prop:=∀(p:Ae)(C:C6)(m0 m1 m2:R3),GoodR p m0 m1 m2->AW p (nine m0 m1 m2)=Ab 1->InC p C->PrC p (pb C m0 m1 m2) (P0c p)->Γ.F 166 [.int p,AY C,Bc m0 m1 m2]=.ok (.bl Aa)
theorem uY(ha:QB Γ)(hv:Ul Γ)(hm:V9 Γ){m0 m1 m2:R3}(G:GoodR p m0 m1 m2)(l1:AW p (nine m0 m1 m2)=Ab 1)(iC:InC p C)(pr:PrC p (pb C m0 m1 m2) (P0c p)):Oa.run Γ [.int p,AY C,Bc m0 m1 m2]=.ok (.bl Aa):=by
 have hp:=G.p4;have p0:=hp.pos;have ph:=hp.hi;have it:Fo Γ.up [.tuple] (Bc m0 m1 m2)=.ok (.bl Aa):=rfl;have ln:biD .len [Bc m0 m1 m2]=.ok (.int 3):=rfl;have sq:Cc (Bc m0 m1 m2)=.ok [trR m0,trR m1,trR m2]:=rfl;have x0:BW (Bc m0 m1 m2) (.int 0)=.ok (Aj Aa m0):=rfl;have x1:BW (Bc m0 m1 m2) (.int 1)=.ok (Aj Aa m1):=rfl;have x2:BW (Bc m0 m1 m2) (.int 2)=.ok (Aj Aa m2):=rfl;have lp:CS (CJ Γ 4 JT) [trR m0,trR m1,trR m2] [si p,sh (AY C),sh (Bc m0 m1 m2),Ab (.lst [],Aa),Af,Af,Af,Af,Af,Af,Af,Af,Af,Af,Af,Af,Af]=.next [si p,sh (AY C),sh (Bc m0 m1 m2),Ab (.lst (ds (nine m0 m1 m2)),Aa),sh (trR m2),Af,Af,Af,Af,Af,Af,Af,Af,Af,Af,Af,Af]:=by
  have a1:=PK (Γ:=Γ) (p:=p) m0 [] (AY C) (Bc m0 m1 m2) Af (by simp)
  have a2:=PK (Γ:=Γ) (p:=p) m1 ([]++[.int m0.1,.int m0.2.1,.int m0.2.2]) (AY C) (Bc m0 m1 m2) (sh (trR m0)) (by simp)
  have a3:=PK (Γ:=Γ) (p:=p) m2 (([]++[.int m0.1,.int m0.2.1,.int m0.2.2])++[.int m1.1,.int m1.2.1,.int m1.2.2]) (AY C) (Bc m0 m1 m2) (sh (trR m1)) (by simp)
  show (CJ Γ 4 JT (trR m0) _).turn _=_;rw[a1,IL];show (CJ Γ 4 JT (trR m1) _).turn _=_;rw[a2,IL];show (CJ Γ 4 JT (trR m2) _).turn _=_;rw[a3,IL];rfl
 have i9:∀ v∈nine m0 m1 m2,0<=v/\v<p:=by
  intro x hx;unfold nine at hx;simp at hx;rcases hx with rfl|rfl|rfl|rfl|rfl|rfl|rfl|rfl|rfl
  ·exact G.ia.1
  ·exact G.ia.2.1
  ·exact G.ia.2.2
  ·exact G.ib.1
  ·exact G.ib.2.1
  ·exact G.ib.2.2
  ·exact G.ic.1
  ·exact G.ic.2.1
  ·exact G.ic.2.2
 have l0:((nine m0 m1 m2).filter fun v=>decide (v≠0)).head?=Ab 1:=by
  rw[<-l1,S4 _ i9]
  congr 1
  refine FV fun v hv=>?_
  have:=i9 v hv;rw[EA];omega
 have e1:=hm p m0 m1 m2 hp G.ia G.ib G.ic;have nz:¬ Am m0 m1 m2%p=0:=G.nz
 -- the factor
 obtain⟨d,dz,e⟩:=pr;have e2:=ha p hp;have key:∀ x:R3,vI C (ap m0 m1 m2 x)%p=(-d)%p*hx p x%p:=fun x=>by
  rw[<-Nl];have q:=(IX e (CgR.rfl (a:=x))).trans (Cg.of (KP d _ x));rw[show vI (pb C m0 m1 m2) x%p=_ from q]
  have v0:vI (P0c p) x=p*(x.1*x.2.2)-(x.1*x.2.2-x.2.1*x.2.1):=by
   unfold vI P0c;simp only;grind
  have g:Cg p (d*vI (P0c p) x) ((-d)%p*hx p x):=by
   have g1:Cg p ((-d)%p*hx p x) ((-d)*(x.1*x.2.2-x.2.1*x.2.1)):=Cg.mul (Cg.md rfl) (Cg.md rfl);refine Cg.trans ?_ g1.symm;rw[v0];show (d*(p*(x.1*x.2.2)-(x.1*x.2.2-x.2.1*x.2.1)))%p=(-d*(x.1*x.2.2-x.2.1*x.2.1))%p;have:d*(p*(x.1*x.2.2)-(x.1*x.2.2-x.2.1*x.2.1))=-d*(x.1*x.2.2-x.2.1*x.2.1)+p*(d*(x.1*x.2.2)):=by grind
   rw[this,Fa]
  exact g
 have t0:0<=(-d)%p:=A9 _ (by omega)
 have t1:(-d)%p<p:=A7 _ p0;have tz:(-d)%p%p≠0:=by
  rw[AT _ (Bv p)];intro z;exact dz (DG (JJ.mp (DF z)))
 generalize (-d)%p=t at *;have pts:∀ x∈BX p,Pt Γ p (AY C) m0 m1 m2 t x:=fun x hx=>by
  have nx:=(Eh hp).mp hx;have rng:∀ v:Ae,0<=v%p/\v%p<p:=fun v=>⟨A9 _ (by omega),A7 _ p0⟩
  have f:=hv p Ad C (Ar m0 x%p,Ar m1 x%p,Ar m2 x%p) hp iC ⟨rng _,rng _,rng _⟩;have c:Cg p (vI C (Ar m0 x%p,Ar m1 x%p,Ar m2 x%p)) (vI C (ap m0 m1 m2 x)):=IX (CgC.of rfl) ⟨Cg.md rfl,Cg.md rfl,Cg.md rfl⟩;rw[show vI C (Ar m0 x%p,Ar m1 x%p,Ar m2 x%p)%p=_ from c,key x]at f
  exact⟨nx.1,f⟩
 obtain⟨s6,s7,s8,s9,s10,s11,s12,lp2⟩:=TN hp G.ia G.ib G.ic tz t0 t1 (s3:=sh (.lst (ds (nine m0 m1 m2)))) (s4:=sh (trR m2)) (BX p) [] Af Af Af Af Af Af Af pts (by have:=UX hp;simp;omega)
 have fin:K3 ([]++((BX p).filter fun x=>decide (hx p x≠0)).map fun _=>.int t)=.ok (.int 1):=by
  have hs:=kF hp;have hl:((BX p).filter fun x=>decide (hx p x≠0)).length<=200:=BD (List.length_filter_le _ _) (UX hp)
  generalize ((BX p).filter fun x=>decide (hx p x≠0))=L at *
  have em:([]++L.map fun _=>D.int t)=ds (EW L.length t):=by
   rw[List.nil_append]
   clear hs hl lp2
   induction L with
   |nil=>rfl
   |cons y L ih=>
    rw[BQ,ih];rfl
  rw[em];unfold K3;rw[S7];show (if Em (EW L.length t).length 4000=Aa then _ else _)=_
  rw[Gg,Az (EX (by omega))]
  obtain⟨n,hn⟩:=Nat.exists_eq_succ_of_ne_zero hs;rw[hn,rD];rfl
 have c1:BJ (cG Γ [si p,sh (AY C),sh (Bc m0 m1 m2),sh (.lst (ds (nine m0 m1 m2))),sh (trR m2),Af,Af,Af,Af,Af,Af,Af,Af,Af,Af,Af,Af] 13 CB) (cF Γ [si p,sh (AY C),sh (Bc m0 m1 m2),sh (.lst (ds (nine m0 m1 m2))),sh (trR m2),Af,Af,Af,Af,Af,Af,Af,Af,Af,Af,Af,Af] 13 NS) (ds (nine m0 m1 m2))=.ok ((nine m0 m1 m2).map fun _=>D.bl Aa):=by
  refine Ux _ fun x hm=>⟨rfl,?_⟩
  obtain⟨h0,h1⟩:=i9 x hm;simp[cF,NS,kiD,FO,h0,h1]
 have c2:BJ (cG Γ [si p,sh (AY C),sh (Bc m0 m1 m2),sh (.lst (ds (nine m0 m1 m2))),sh (trR m2),Af,Af,Af,Af,Af,Af,Af,Af,Af,Af,Af,Af] 14 NP) (cF Γ [si p,sh (AY C),sh (Bc m0 m1 m2),sh (.lst (ds (nine m0 m1 m2))),sh (trR m2),Af,Af,Af,Af,Af,Af,Af,Af,Af,Af,Af,Af] 14 NR) (ds (nine m0 m1 m2))=.ok (ds ((nine m0 m1 m2).filter fun v=>decide (v≠0))):=by
  refine LA _ fun x hm=>⟨?_,?_⟩
  ·simp[cG,NP];rw[BU];simp
  ·simp[cF,NR]
 have g1:=MM l0;have sa:Cc (BR (BX p))=.ok ((BX p).map (Aj Aa)):=rfl;have at':=SK (nine m0 m1 m2);generalize (nine m0 m1 m2).map (fun _=>D.bl Aa)=BL at *
 generalize ds ((nine m0 m1 m2).filter fun v=>decide (v≠0))=FL at *
 generalize ds (nine m0 m1 m2)=N9 at *;generalize ([]++((BX p).filter fun x=>decide (hx p x≠0)).map fun _=>D.int t)=XL at *
 generalize (BX p).map (Aj Aa)=AL at *;generalize BR (BX p)=AA at *;generalize Bc m0 m1 m2=TT at *;generalize trR m0=r0 at *;generalize trR m1=r1 at *;generalize trR m2=r2 at *;generalize Aj Aa m0=q0 at *;generalize Aj Aa m1=q1 at *;generalize Aj Aa m2=q2 at *;generalize AY C=cC at *;generalize Am m0 m1 m2%p=dd at *;have rl1:evS Γ [si p,sh cC,sh TT,Ab (.lst N9,Aa),sh r2,Af,Af,Af,Af,Af,Af,Af,Af,Af,Af,Af,Af] (.rel 3)=.next [si p,sh cC,sh TT,sh (.lst N9),sh r2,Af,Af,Af,Af,Af,Af,Af,Af,Af,Af,Af,Af]:=rfl;have rl2:evS Γ [si p,sh cC,sh TT,sh (.lst N9),sh r2,Af,Af,Af,Af,Af,Af,Af,Af,Af,Af,Af,Af] (.rel 3)=.next [si p,sh cC,sh TT,sh (.lst N9),sh r2,Af,Af,Af,Af,Af,Af,Af,Af,Af,Af,Af,Af]:=rfl;simp[Oa,Df.run,BH,Ez,rl1,rl2,it,ln,sq,lp,c1,at',x0,x1,x2,e1,nz,c2,g1,e2,sa,lp2,fin]
end
section
variable{Γ:Gam}{p k:Ae}{C D:C6}{a b c m0 m1 m2 l x:R3}
theorem qB(u v a b c:R3):pb (prd u v) a b c=prd (rm u a b c) (rm v a b c):=by
 unfold pb prd vI bI tw0 tw1 tw2 ap rm Ar BA BG BF;simp only[C6.mk.injEq];refine⟨?_,?_,?_,?_,?_,?_⟩<;>grind
theorem PZ(C D:C6)(x y:R3):bI (Ej C D) x y=bI C x y-bI D x y:=by unfold bI Ej tw0 tw1 tw2 ap Ar;grind
theorem qR(C D:C6)(a b c:R3):pb (Ej C D) a b c=Ej (pb C a b c) (pb D a b c):=by
 unfold pb;rw[KO,KO,KO,PZ,PZ,PZ];rfl
theorem YV(a b c:R3):rm e0R a b c=a/\rm e1R a b c=b/\rm e2R a b c=c:=by
 unfold rm Ar BA BG BF e0R e1R e2R;simp
theorem V0(hw:W4 w)(k:Ae)(a b c:R3):E4 w k a b c=pb (E4 w k e0R e1R e2R) a b c:=by
 obtain⟨r0,r1,r2⟩:=YV a b c;rcases hw with rfl|rfl|rfl|rfl<;>simp only[E4,qR,VH,qB,r0,r1,r2]
theorem fN(hw:W4 w)(hp:P4 p)(h:PrC p C (E4 w k a b c))(hD:PrC p D (pb C m0 m1 m2)):PrC p D (E4 w k (rm a m0 m1 m2) (rm b m0 m1 m2) (rm c m0 m1 m2)):=by
 refine hD.trans hp ?_;rw[V0 hw k (rm a m0 m1 m2),<-VI,<-V0 hw];exact PrC.pb h
end
section
variable{Γ:Gam}{p:Ae}{ns:Ac Ae}
end
theorem aZ(h:Vp Γ)(hp:P4 p):N4.run Γ [.int p]=.ok (.tup (ds [0,1,0,0,p-1,0])):=by
 have l:AW p [0,1,0,0,-1,0]=Ab 1:=by rcases hp with rfl|rfl|rfl|rfl<;>rfl
 have it:DV p 1 1:=by rcases hp with rfl|rfl|rfl|rfl<;>exact⟨by decide,by decide,by decide⟩
 have f:=h p Aa [0,1,0,0,-1,0] 1 1 hp l it;have e:fmI p 1 [0,1,0,0,-1,0]=[0,1,0,0,p-1,0]:=by rcases hp with rfl|rfl|rfl|rfl<;>rfl
 rw[e]at f;have f':Γ.F 122 [.int p,.tup [.int 0,.int 1,.int 0,.int 0,.int (-1),.int 0]]=.ok (.tup (ds [0,1,0,0,p-1,0])):=f;simp[N4,Df.run,BH,f']
section
variable{Γ:Gam}{p:Ae}{ns:Ac Ae}
end
def Cls(p:Ae)(C:C6):Prop:=∃(w:Ag)(a b c:R3),W4 w/\Am a b c%p≠0/\PrC p C (E4 w (CI p) a b c)
noncomputable def Dg(a b c:Ae):C6:=⟨a,b,c,0,0,0⟩
section
variable{p:Ae}{C D:C6}{m0 m1 m2:R3}
theorem UG(hp:P4 p)(h:Cls p C)(z:Am m0 m1 m2%p≠0)(i:PrC p D (pb C m0 m1 m2)):Cls p D:=by
 obtain⟨w,a,b,c,hw,n,e⟩:=h;exact⟨w,_,_,_,hw,by rw[U6];exact Bm hp n z,fN hw hp e i⟩
theorem OV(hp:P4 p)(z:Am m0 m1 m2%p≠0)(h:Cls p (pb C m0 m1 m2)):Cls p C:=by
 refine UG (m0:=bk0 m0 m1 m2) (m1:=bk1 m0 m1 m2) (m2:=bk2 m0 m1 m2) hp h (by rw[Ik];exact Bm hp z z) ?_
 refine PrC.symm hp ⟨Am m0 m1 m2*Am m0 m1 m2,Bm hp z z,CgC.of ?_⟩;obtain⟨r0,r1,r2⟩:=nH m0 m1 m2;rw[VI,r0,r1,r2,uN]
theorem OU(hp:P4 p){a:Ae}:∃ n:Ag,(n:Ae)=a%p/\n<p.toNat:=by
 have h0:=A9 a (show p≠0 by have:=hp.pos;omega)
 have h1:=A7 a hp.pos;exact⟨(a%p).toNat,by omega,by omega⟩
noncomputable def sqB(q k:Ag):Ao:=(Bb q).all fun a=>a==0||(Bb q).any fun s=>s != 0&&((s*s+a)%q==0||(k*(s*s)+a)%q==0)
theorem oG{q k:Ag}(h:sqB q k=Aa){a:Ag}(ha:a<q)(a0:a≠0):∃ s:Ag,s≠0/\s<q/\((s*s+a)%q=0\/(k*(s*s)+a)%q=0):=by
 unfold sqB at h;rw[Ck]at h;have:=h a (Ct.mpr ha);simp only[Cu,BN,a0,false_or,F5,Ct,An,Jd,ne_eq]at this;obtain⟨s,h1,h2,h3⟩:=this;exact⟨s,h2,h1,h3⟩
theorem uK(hp:P4 p){a:Ae}(h:a%p≠0):∃ s,s%p≠0/\(Cg p (s*s) (-a)\/Cg p (CI p*(s*s)) (-a)):=by
 obtain⟨n,hn,hl⟩:=OU hp (a:=a);have go:∀ q k:Ag,p=(q:Ae)->CI p=(k:Ae)->sqB q k=Aa->∃ s,s%p≠0/\(Cg p (s*s) (-a)\/Cg p (CI p*(s*s)) (-a)):=fun q k e1 e2 hb=>by
  obtain⟨s,s0,sl,hs⟩:=oG hb (a:=n) (by omega) (by intro z;rw[z]at hn;exact h hn.symm)
  have key:∀ x:Ag,(x+n)%q=0->Cg p (x:Ae) (-a):=fun x hx=>by
   show (x:Ae)%p=-a%p;have e:((x:Ae)+a%p)%p=0:=by rw[<-hn,e1];exact_mod_cast hx
   rw[Int.add_emod_emod]at e;have d:p ∣ (x:Ae) - -a:=by rw[Wq];exact DF e
   exact DN.mpr (DG d)
  refine⟨s,?_,hs.imp (fun z=>?_) fun z=>?_⟩
  ·rw[e1,AI (by omega) (by omega)]
   omega
  ·have:=key (s*s) z;rw[Gj]at this;exact this
  ·have:=key (k*(s*s)) z;rw[e2];rw[Gj,Gj]at this;exact this
 rcases hp with rfl|rfl|rfl|rfl
 ·exact go 3 2 rfl rfl (by decide)
 ·exact go 5 2 rfl rfl (by decide)
 ·exact go 7 3 rfl rfl (by decide)
 ·exact go 11 2 rfl rfl (by decide)
noncomputable def Rl(q:Ag):Ao:=(Bb q).all fun u=>(Bb q).all fun v=>u==0||v==0||(Bb q).any fun r=>(Bb q).any fun s=>(r*r+u*(s*s)+v)%q==0
theorem oX(hp:P4 p)(hu:u%p≠0)(hv:v%p≠0):∃ r s,Cg p (r*r+u*(s*s)) (-v):=by
 obtain⟨n,hn,hl⟩:=OU hp (a:=u);obtain⟨m,hm,hk⟩:=OU hp (a:=v);have go:∀ q:Ag,p=(q:Ae)->Rl q=Aa->∃ r s,Cg p (r*r+u*(s*s)) (-v):=fun q e1 hb=>by
  unfold Rl at hb;simp only[Ck,Ct,Cu,BN,F5]at hb;have n0:n≠0:=by intro z;rw[z]at hn;exact hu hn.symm
  have m0:m≠0:=by intro z;rw[z]at hm;exact hv hm.symm
  rcases hb n (by omega) m (by omega) with (z|z)|⟨r,_,s,_,hs⟩
  ·exact absurd z n0
  ·exact absurd z m0
  ·refine⟨r,s,?_⟩;have e:((r:Ae)*r+(u%p)*(s*s)+v%p)%p=0:=by rw[<-hn,<-hm,e1];exact_mod_cast hs
   have c:Cg p ((r:Ae)*r+(u%p)*(s*s)+v%p) ((r:Ae)*r+u*(s*s)+v):=Cg.add (Cg.add Cg.rfl (Cg.mul (Cg.md rfl) Cg.rfl)) (Cg.md rfl);have e':((r:Ae)*r+u*(s*s)+v)%p=0:=by rw[<-c];exact e
   have d:p ∣ ((r:Ae)*r+u*(s*s)) - -v:=by rw[Wq];exact DF e'
   exact DN.mpr (DG d)
 rcases hp with rfl|rfl|rfl|rfl
 ·exact go 3 rfl (by decide +kernel)
 ·exact go 5 rfl (by decide +kernel)
 ·exact go 7 rfl (by decide +kernel)
 ·exact go 11 rfl (by decide +kernel)
theorem J5{x:Ae}(h:x%p≠0):-x%p≠0:=fun z=>h (DG (JJ.mp (DF z)))
theorem Cg.flip{x y:Ae}(h:Cg p x (-y)):Cg p y (-x):=by
 have:=Cg.sub (Cg.rfl (p:=p) (a:=0)) h;simp only[Int.zero_sub,Int.neg_neg]at this;exact Cg.symm this
theorem rJ(hp:P4 p)(hu:u%p≠0):Cls p (Dg u 1 v):=by
 by_cases hv:v%p=0
 ·have v0:=kg0 hv;obtain⟨s,sz,e|e⟩:=uK hp hu
  ·refine⟨2,(-s,1,0),(s,1,0),(0,0,1),.inr (.inr (.inl rfl)),?_,⟨1,hp.o1,?_⟩⟩
   ·have:Am (-s,1,0) (s,1,0) (0,0,1)=2*(-s):=by unfold Am det;simp only;grind
    rw[this];exact Bm hp hp.two (J5 sz)
   ·have e':=Cg.flip e;refine⟨?_,Cg.of ?_,v0.trans (Cg.of ?_),Cg.of ?_,Cg.of ?_,Cg.of ?_⟩
    ·exact e'.trans (Cg.of (by simp only[E4,prd,scC];grind))
    all_goals simp[Dg,E4,prd,scC]<;>grind
  ·refine⟨3,(0,1,0),(s,0,0),(0,0,1),.inr (.inr (.inr rfl)),?_,⟨1,hp.o1,?_⟩⟩
   ·have:Am (0,1,0) (s,0,0) (0,0,1)=-s:=by unfold Am det;simp only;grind
    rw[this];exact J5 sz
   ·have e':=Cg.flip e;refine⟨?_,Cg.of ?_,v0.trans (Cg.of ?_),Cg.of ?_,Cg.of ?_,Cg.of ?_⟩
    ·exact e'.trans (Cg.of (by simp only[E4,prd,scC,Ej];grind))
    all_goals simp[Dg,E4,prd,scC,Ej]
 ·obtain⟨r,s,e⟩:=oX hp hu hv;have nz:(r*r+u*(s*s))%p≠0:=by rw[show (r*r+u*(s*s))%p=-v%p from e];exact J5 hv
  have e2:Cg p (-(r*r+u*(s*s))) v:=Cg.symm (Cg.flip e);refine⟨0,(u*(s*u),u*r,u*v),(u * -r,u*s,0),(-(s*u),-r,v),.inl rfl,?_,?_⟩
  ·have:Am (u*(s*u),u*r,u*v) (u * -r,u*s,0) (-(s*u),-r,v)=2*(u*u)*(v*(r*r+u*(s*s))):=by unfold Am det;simp only;grind
   rw[this];exact Bm hp (Bm hp hp.two (Bm hp hu hu)) (Bm hp hv nz)
  ·refine PrC.symm hp ⟨u*v,Bm hp hu hv,?_⟩;refine⟨?_,?_,Cg.of ?_,Cg.of ?_,Cg.of ?_,Cg.of ?_⟩
   ·refine(Cg.of (b:=u*u*(-(r*r+u*(s*s)))) ?_).trans ((Cg.mul Cg.rfl e2).trans (Cg.of ?_))
    ·simp only[E4,prd,Ej];grind
    ·simp only[Dg,scC];grind
   ·refine(Cg.of (b:=u*(-(r*r+u*(s*s)))) ?_).trans ((Cg.mul Cg.rfl e2).trans (Cg.of ?_))
    ·simp only[E4,prd,Ej];grind
    ·simp only[Dg,scC];grind
   all_goals simp only[Dg,E4,prd,scC,Ej];grind
theorem kL(C:C6):scC (16*(4*C.c0*C.c1-C.c3*C.c3)*C.c0) C=pb (Dg (4*(4*C.c0*C.c1-C.c3*C.c3)) 1 (4*(4*C.c0*C.c1-C.c3*C.c3)*(4*C.c0*C.c2-C.c4*C.c4)-(4*C.c0*C.c5-2*C.c3*C.c4)*(4*C.c0*C.c5-2*C.c3*C.c4))) (2*C.c0,C.c3,C.c4) (0,2*(4*C.c0*C.c1-C.c3*C.c3),4*C.c0*C.c5-2*C.c3*C.c4) (0,0,1):=by
 obtain⟨c0,c1,c2,c3,c4,c5⟩:=C;simp only[scC,pb,Dg,vI,bI,Ar,ap,tw0,tw1,tw2,BA,BG,BF]
 congr 1<;>grind
theorem pK(C:C6):CgC p (Ej (scC (4*C.c0) C) (prd (2*C.c0,C.c3,C.c4) (2*C.c0,C.c3,C.c4))) ⟨0,4*C.c0*C.c1-C.c3*C.c3,4*C.c0*C.c2-C.c4*C.c4,0,0,4*C.c0*C.c5-2*C.c3*C.c4⟩:=by
 refine CgC.of ?_;obtain⟨c0,c1,c2,c3,c4,c5⟩:=C;simp only[scC,Ej,prd]
 congr 1<;>grind
theorem Ur(x y z:Ae)(b d e:Ae):Am (x,b,d) (0,y,e) (0,0,z)=x*y*z:=by
 unfold Am det;simp only;grind
theorem Qb(hp:P4 p)(h0:C.c0%p≠0)(h1:(4*C.c0*C.c1-C.c3*C.c3)%p≠0):Cls p C:=by
 have four:(4:Ae)%p≠0:=Bm (c:=2) (x:=2) hp hp.two hp.two;have k:(16*(4*C.c0*C.c1-C.c3*C.c3)*C.c0)%p≠0:=nz3 hp (Bm (c:=4) (x:=4) hp four four) h1 h0;refine UG hp (rJ hp (Bm hp four h1)) ?_ (PrC.symm hp ⟨_,k,CgC.of (kL C).symm⟩);rw[Ur];exact nz3 hp (Bm hp hp.two h0) (Bm hp hp.two h1) hp.o1
theorem Rb(C:C6):(pb C (1,0,0) (0,0,1) (0,1,0))=⟨C.c0,C.c2,C.c1,C.c4,C.c3,C.c5⟩:=by
 obtain⟨c0,c1,c2,c3,c4,c5⟩:=C;simp only[pb,vI,bI,Ar,ap,tw0,tw1,tw2,BA,BG,BF]
 congr 1<;>grind
theorem Ra(C:C6):(pb C (1,0,0) (0,1,0) (0,1,1))=⟨C.c0,C.c1+C.c2+C.c5,C.c2,C.c3+C.c4,C.c4,2*C.c2+C.c5⟩:=by
 obtain⟨c0,c1,c2,c3,c4,c5⟩:=C;simp only[pb,vI,bI,Ar,ap,tw0,tw1,tw2,BA,BG,BF]
 congr 1<;>grind
theorem sV{x y z:Ae}(hx:x%p=0)(hy:y%p=0)(hz:z%p≠0):(x+y+z)%p≠0:=by
 rw[Hw,Hw x y,hx,hy,Int.add_zero,A5,EV,AT _ (Bv p)];exact hz
theorem UH(hp:P4 p)(h0:C.c0%p≠0):Cls p C:=by
 by_cases h1:(4*C.c0*C.c1-C.c3*C.c3)%p=0
 ·by_cases h2:(4*C.c0*C.c2-C.c4*C.c4)%p=0
  ·by_cases h3:(4*C.c0*C.c5-2*C.c3*C.c4)%p=0
   ·have four:(4:Ae)%p≠0:=Bm (c:=2) (x:=2) hp hp.two hp.two;refine⟨1,(2*C.c0,C.c3,C.c4),(0,1,0),(0,0,1),.inr (.inl rfl),?_,PrC.symm hp ⟨4*C.c0,Bm hp four h0,?_⟩⟩
    ·rw[Ur];exact nz3 hp (Bm hp hp.two h0) hp.o1 hp.o1
    ·obtain⟨q0,q1,q2,q3,q4,q5⟩:=pK (p:=p) C;have k:∀{x y z:Ae},Cg p (x-y) z->z%p=0->Cg p y x:=fun {x y z} h hz=>by
      have:=Cg.sub (Cg.rfl (a:=x)) (h.trans (kg0 hz));exact(Cg.of (by omega)).trans (this.trans (Cg.of (by omega)))
     exact⟨k q0 (A5 p),k q1 h1,k q2 h2,k q3 (A5 p),k q4 (A5 p),k q5 h3⟩
   ·refine OV (m0:=(1,0,0)) (m1:=(0,1,0)) (m2:=(0,1,1)) hp (by rw[show Am (1,0,0) (0,1,0) (0,1,1)=1 from rfl];exact hp.o1) ?_
    refine Qb hp (by rw[Ra];exact h0) ?_
    rw[Ra];have e:4*C.c0*(C.c1+C.c2+C.c5)-(C.c3+C.c4)*(C.c3+C.c4)=(4*C.c0*C.c1-C.c3*C.c3)+(4*C.c0*C.c2-C.c4*C.c4)+(4*C.c0*C.c5-2*C.c3*C.c4):=by grind
    show (4*C.c0*(C.c1+C.c2+C.c5)-(C.c3+C.c4)*(C.c3+C.c4))%p≠0;rw[e];exact sV h1 h2 h3
  ·refine OV (m0:=(1,0,0)) (m1:=(0,0,1)) (m2:=(0,1,0)) hp (by rw[show Am (1,0,0) (0,0,1) (0,1,0)=-1 from rfl];exact J5 hp.o1) ?_
   exact Qb hp (by rw[Rb];exact h0) (by rw[Rb];exact h2)
 ·exact Qb hp h0 h1
theorem jK(hp:P4 p){l:Ae}(h:AW p C.l=Ab l):Cls p C:=by
 have bk:∀(m0 m1 m2:R3),Am m0 m1 m2%p≠0->vI C (BA m0 m1 m2)%p≠0->Cls p C:=fun m0 m1 m2 z hz=>OV hp z (UH hp hz)
 by_cases h0:C.c0%p=0
 ·by_cases h1:C.c1%p=0
  ·by_cases h2:C.c2%p=0
   ·have v3:∀ x:R3,vI C x%p=(C.c3*(x.1*x.2.1)+C.c4*(x.1*x.2.2)+C.c5*(x.2.1*x.2.2))%p:=fun x=>by
     have:Cg p (vI C x) (C.c3*(x.1*x.2.1)+C.c4*(x.1*x.2.2)+C.c5*(x.2.1*x.2.2)):=by
      have a:=Cg.add (Cg.add (Cg.mul (kg0 h0) (Cg.rfl (a:=x.1*x.1))) (Cg.mul (kg0 h1) (Cg.rfl (a:=x.2.1*x.2.1)))) (Cg.mul (kg0 h2) (Cg.rfl (a:=x.2.2*x.2.2)));have b:=Cg.add a (Cg.rfl (a:=C.c3*(x.1*x.2.1)+C.c4*(x.1*x.2.2)+C.c5*(x.2.1*x.2.2)));exact(Cg.of (by unfold vI;grind)).trans (b.trans (Cg.of (by grind)))
     exact this
    by_cases h3:C.c3%p=0
    ·by_cases h4:C.c4%p=0
     ·by_cases h5:C.c5%p=0
      ·exfalso
       have:AW p C.l=Af:=IQ.mpr fun x hx=>by
        simp[C6.l]at hx;rcases hx with rfl|rfl|rfl|rfl|rfl|rfl<;>assumption
       rw[this]at h;cases h
      ·exact bk (0,1,0) (1,0,0) (1,0,1) (by rw[show Am (0,1,0) (1,0,0) (1,0,1)=-1 from rfl];exact J5 hp.o1) (by rw[v3];simpa [BA] using h5)
     ·exact bk (1,0,0) (0,1,0) (1,0,1) (by rw[show Am (1,0,0) (0,1,0) (1,0,1)=1 from rfl];exact hp.o1) (by rw[v3];simpa [BA] using h4)
    ·exact bk (1,0,0) (1,1,0) (0,0,1) (by rw[show Am (1,0,0) (1,1,0) (0,0,1)=1 from rfl];exact hp.o1) (by rw[v3];simpa [BA] using h3)
   ·exact bk (0,0,1) (0,1,0) (1,0,0) (by rw[show Am (0,0,1) (0,1,0) (1,0,0)=-1 from rfl];exact J5 hp.o1) (by simpa [BA,vI] using h2)
  ·exact bk (0,1,0) (1,0,0) (0,0,1) (by rw[show Am (0,1,0) (1,0,0) (0,0,1)=-1 from rfl];exact J5 hp.o1) (by simpa [BA,vI] using h1)
 ·exact UH hp h0
end
noncomputable def Mo:E:=(.cmp .Eq (.call 162 (.cons (.var 0) (.cons (.var 1) (.cons (.var 5) .nil)))) (.int 0))
noncomputable def N8:E:=(.call 171 (.cons (.var 0) (.cons (.var 6) .nil)))
noncomputable def N7:E:=(.or (.cons (.call 173 (.cons (.var 0) (.cons (.var 7) (.cons (.idx (.var 2) (.int 1)) .nil)))) (.cons (.call 173 (.cons (.var 0) (.cons (.var 7) (.cons (.idx (.var 2) (.int 2)) .nil)))) .nil)))
noncomputable def Ig:Df:=⟨8,Ad,(.cons (.asg 3 Ad (.comp JU 5 (.e (.call 164 (.cons (.var 0) .nil))) Mo)) (.cons (.ife (.or (.cons (.no (.isi (.var 2) [.tuple])) (.cons (.cmp .Lt (.bi .len (.cons (.var 2) .nil)) (.int 2)) .nil))) (.cons (.ret (.bl Ad)) .nil) .nil) (.cons (.ife (.cmp .Eq (.idx (.var 2) (.int 0)) (.str (Aq "whole"))) (.cons (.ret (.and (.cons (.cmp .Eq (.bi .len (.cons (.var 2) .nil)) (.int 2)) (.cons (.cmp .Eq (.bi .len (.cons (.var 3) .nil)) (.bin .Add (.var 0) (.int 1))) (.cons (.call 166 (.cons (.var 0) (.cons (.var 1) (.cons (.idx (.var 2) (.int 1)) .nil)))) .nil))))) .nil) .nil) (.cons (.ife (.no (.bi .all (.cons (.comp N8 6 (.e (.sl (.var 2) (.int 1) .non)) CB) .nil))) (.cons (.ret (.bl Ad)) .nil) .nil) (.cons (.ife (.cmp .Eq (.idx (.var 2) (.int 0)) (.str (Aq "point"))) (.cons (.ret (.and (.cons (.cmp .Eq (.bi .len (.cons (.var 2) .nil)) (.int 2)) (.cons (.cmp .Eq (.var 3) (.lst (.cons (.idx (.var 2) (.int 1)) .nil))) .nil)))) .nil) .nil) (.cons (.ife (.cmp .Eq (.idx (.var 2) (.int 0)) (.str (Aq "twice"))) (.cons (.ret (.and (.cons (.cmp .Eq (.bi .len (.cons (.var 2) .nil)) (.int 2)) (.cons (.cmp .Eq (.var 1) (.call 158 (.cons (.var 0) (.cons (.call 160 (.cons (.idx (.var 2) (.int 1)) (.cons (.idx (.var 2) (.int 1)) .nil))) .nil)))) .nil)))) .nil) .nil) (.cons (.ife (.or (.cons (.cmp .NotEq (.idx (.var 2) (.int 0)) (.str (Aq "lines"))) (.cons (.cmp .NotEq (.bi .len (.cons (.var 2) .nil)) (.int 3)) (.cons (.no (.bi .tlt (.cons (.idx (.var 2) (.int 1)) (.cons (.idx (.var 2) (.int 2)) .nil)))) .nil)))) (.cons (.ret (.bl Ad)) .nil) .nil) (.cons (.asg 4 Ad (.comp Kz 7 (.e (.call 164 (.cons (.var 0) .nil))) N7)) (.cons (.ret (.and (.cons (.cmp .Eq (.var 3) (.var 4)) (.cons (.cmp .Eq (.var 1) (.call 158 (.cons (.var 0) (.cons (.call 160 (.cons (.idx (.var 2) (.int 1)) (.cons (.idx (.var 2) (.int 2)) .nil))) .nil)))) .nil)))) .nil)))))))))⟩
noncomputable def Mq:E:=(.bin .Mod (.bin .FloorDiv (.call 38 (.cons (.var 0) (.cons (.bin .Add (.bin .Add (.int 1) (.bin .Mult (.int 7) (.var 2))) (.var 7)) .nil))) (.int 11)) (.var 1))
noncomputable def LD:Ss:=(.cons (.put 3 (.var 5) (.bin .Mult (.idx (.var 3) (.var 5)) (.bin .Mod (.var 4) (.int 2)))) (.cons (.asg 4 Ad (.bin .FloorDiv (.var 4) (.int 2))) .nil))
noncomputable def E2:Ss:=(.cons (.ife (.and (.cons (.cmp .Gt (.var 2) (.int 0)) (.cons (.cmp .Lt (.bi .len (.cons (.var 0) .nil)) (.bin .Mult (.int 7) (.var 2))) .nil))) (.cons (.ret (.bl Aa)) .nil) .nil) (.cons (.asg 3 Aa (.comp Mq 7 (.rng (.int 6)) CB)) (.cons (.asg 4 Ad (.bin .Mod (.bin .FloorDiv (.call 38 (.cons (.var 0) (.cons (.bin .Add (.int 7) (.bin .Mult (.int 7) (.var 2))) .nil))) (.int 3)) (.int 64))) (.cons (.ife (.cmp .Eq (.bin .Mod (.var 4) (.int 2)) (.int 1)) (.cons (.asg 4 Ad (.bin .FloorDiv (.var 4) (.int 2))) (.cons (.fors 5 (.rng (.int 6)) LD) .nil)) .nil) (.cons (.ife (.no (.bi .any (.cons (.var 3) .nil))) (.cons (.put 3 (.bin .Mod (.bin .FloorDiv (.call 38 (.cons (.var 0) (.cons (.bin .Add (.int 7) (.bin .Mult (.int 7) (.var 2))) .nil))) (.int 200)) (.int 6)) (.int 1)) .nil) .nil) (.cons (.asg 6 Ad (.call 158 (.cons (.var 1) (.cons (.var 3) .nil)))) (.cons (.ife (.no (.call 174 (.cons (.var 1) (.cons (.var 6) (.cons (.call 154 (.cons (.var 1) (.cons (.var 6) .nil))) .nil))))) (.cons (.ret (.bl Ad)) .nil) .nil) .nil)))))))
noncomputable def MN:Df:=⟨8,Ad,(.cons (.asg 1 Ad (.call 169 (.cons (.var 0) .nil))) (.cons (.fors 2 (.rng (.int 3)) E2) (.cons (.ret (.bl Aa)) .nil)))⟩
section
variable{Γ:Gam}{p:Ae}{ns:Ac Ae}{C E:C6}{a b c:R3}
def Ui(Γ:Gam):Prop:=∀(p:Ae)(a b:R3),P4 p->In3 p a->In3 p b->Γ.F 160 [Aj Aa a,Aj Aa b]=.ok (.lst (ds (prd a b).l))
theorem gZ(Γ:Gam)(p:Ae)(a b:R3)(hp:P4 p)(ha:In3 p a)(hb:In3 p b):NM.run Γ [Aj Aa a,Aj Aa b]=.ok (.lst (ds (prd a b).l)):=by
 have ba:=Ci hp ha;have bb:=Ci hp hb;have k:∀ {u v},Bd 10 u->Bd 10 v->E8 u v=Aa:=fun hu hv=>GU hu hv (by decide) (by decide)
 obtain⟨i0,i1,i2⟩:=GS Aa a;obtain⟨j0,j1,j2⟩:=GS Aa b;have rg:Dt 0 3=.ok [.int 0,.int 1,.int 2]:=rfl;have c1:BJ (cG Γ [sh (Aj Aa a),sh (Aj Aa b),Af,Af,Af,Af] 5 CB) (cF Γ [sh (Aj Aa a),sh (Aj Aa b),Af,Af,Af,Af] 5 NA) [.int 0,.int 1,.int 2]=.ok [.int (a.1*b.1),.int (a.2.1*b.2.1),.int (a.2.2*b.2.2)]:=by
  simp[BJ,cG,cF,CB,NA,i0,i1,i2,j0,j1,j2,k ba.1 bb.1,k ba.2.1 bb.2.1,k ba.2.2 bb.2.2]
 simp[NM,Rm,Df.run,BH,Ez,rg,c1,CS,Ng,Du,i0,i1,i2,j0,j1,j2,k ba.1 bb.2.1,k ba.2.1 bb.1,k ba.1 bb.2.2,k ba.2.2 bb.1,k ba.2.1 bb.2.2,k ba.2.2 bb.2.1,DM];rfl
theorem fS(hp:P4 p){l:Ae}(lC:AW p C.l=Ab l)(h:PrC p C E):∃ l',AW p E.l=Ab l':=by
 cases e:AW p E.l with
 |some l'=>exact⟨l',rfl⟩
 |none=>
  have z:=IQ.mp e;obtain⟨d,_,q0,q1,q2,q3,q4,q5⟩:=h;have m:∀{x y:Ae},Cg p x (d*y)->y%p=0->x%p=0:=fun h hy=>IZ (h.trans ((Cg.mul Cg.rfl (kg0 hy)).trans (Cg.of (C8 d))))
  have:AW p C.l=Af:=IQ.mpr fun x hx=>by
   simp[C6.l]at hx;rcases hx with rfl|rfl|rfl|rfl|rfl|rfl
   ·exact m q0 (z _ (by simp[C6.l]))
   ·exact m q1 (z _ (by simp[C6.l]))
   ·exact m q2 (z _ (by simp[C6.l]))
   ·exact m q3 (z _ (by simp[C6.l]))
   ·exact m q4 (z _ (by simp[C6.l]))
   ·exact m q5 (z _ (by simp[C6.l]))
  rw[this]at lC;cases lC
theorem S9(hf:MV Γ)(hd:Ui Γ)(hp:P4 p)(iC:InC p C)(lC:AW p C.l=Ab 1)(ia:In3 p a)(ib:In3 p b)(h:PrC p C (prd a b)):∃ Y,Γ.F 160 [Aj Aa a,Aj Aa b]=.ok Y/\Γ.F 158 [.int p,Y]=.ok (AY C):=by
 obtain⟨l,el⟩:=fS hp lC h;obtain⟨t,D,it,eD,iD,lD,pD⟩:=VR hp el;have e3:=hf p Ad _ l t hp el it;rw[eD]at e3;have e:=aD hp iC iD lC lD (h.trans hp (pD.symm hp));subst e;exact⟨_,hd p a b hp ia ib,e3⟩
structure H42t (Γ:Gam):Prop where
 al:QB Γ
 lv:Ul Γ
 tr:∀(p:Ae)(x:R3),In3 p x->AW p (tri x)=Ab 1->Γ.F 171 [.int p,Aj Aa x]=.ok (.bl Aa)
 on:∀(p:Ae)(x y:R3),P4 p->In3 p x->In3 p y->Γ.F 173 [.int p,Aj Aa x,Aj Aa y]=.ok (.bl (decide (Ar y x%p=0)))
 f3:MV Γ
 pr:Ui Γ
 md:xY Γ
theorem MR(h:H42t Γ)(hp:P4 p)(iC:InC p C)(F:D):BJ (cG Γ [si p,sh (AY C),sh F,Af,Af,Af,Af,Af] 5 Mo) (cF Γ [si p,sh (AY C),sh F,Af,Af,Af,Af,Af] 5 JU) ((BX p).map (Aj Aa))=.ok ((AZ p C).map (Aj Aa)):=by
 refine JV (q:=fun x=>decide (vI C x%p=0)) (BX p) fun x hx=>⟨?_,?_⟩
 ·have e:=h.lv p Aa C x hp iC ((Eh hp).mp hx).1;generalize AY C=cC at *;generalize Aj Aa x=rx at *;simp[cG,Mo,e];rw[BU];simp
 ·generalize AY C=cC at *;generalize Aj Aa x=rx at *;simp[cF,JU]
theorem TH(C:C6):flD 5 (AY C)=Aa/\eqD (AY C) (AY C)=Aa:=by
 obtain⟨c0,c1,c2,c3,c4,c5⟩:=C;refine⟨rfl,?_⟩;show (decide (c0=c0)&&(decide (c1=c1)&&(decide (c2=c2)&&(decide (c3=c3)&&(decide (c4=c4)&&(decide (c5=c5)&&Aa))))))=Aa;simp
theorem KQ{x y:DT}(h:(Aq x==Aq y)=Ad):eqD (.str (Aq x)) (.str (Aq y))=Ad:=h
theorem lO(h:H42t Γ)(hp:P4 p)(iC:InC p C){m0 m1 m2:R3}(G:GoodR p m0 m1 m2)(l1:AW p (nine m0 m1 m2)=Ab 1)(pr:PrC p (pb C m0 m1 m2) (P0c p))(len:(AZ p C).length=GC p 0):Ig.run Γ [.int p,AY C,.tup [.str (Aq "whole"),Bc m0 m1 m2]]=.ok (.bl Aa):=by
 have e0:=h.al p hp;have nt:=MR h hp iC (.tup [.str (Aq "whole"),Bc m0 m1 m2]);have sq:Cc (BR (BX p))=.ok ((BX p).map (Aj Aa)):=rfl;have md:=h.md p C m0 m1 m2 G l1 iC pr;have it:Fo Γ.up [.tuple] (.tup [.str (Aq "whole"),Bc m0 m1 m2])=.ok (.bl Aa):=rfl;have ln:biD .len [.tup [.str (Aq "whole"),Bc m0 m1 m2]]=.ok (.int 2):=rfl;have i0:BW (.tup [.str (Aq "whole"),Bc m0 m1 m2]) (.int 0)=.ok (.str (Aq "whole")):=rfl;have i1:BW (.tup [.str (Aq "whole"),Bc m0 m1 m2]) (.int 1)=.ok (Bc m0 m1 m2):=rfl;have nl:biD .len [.lst ((AZ p C).map (Aj Aa))]=.ok (.int (p+1)):=by
  show R.ok (D.int (((AZ p C).map (Aj Aa)).length:Ag))=_;rw[Bp,len];have:=hp.pos;show R.ok (D.int ((p+1).toNat:Ae))=_;rw[Ws (by omega)]
 have fs:∀ z:Al,flD 5 (.str z)=Aa:=fun _=>rfl
 have es:∀ z:Al,eqD (.str z) (.str z)=Aa:=fun z=>Dd z
 generalize D.tup [.str (Aq "whole"),Bc m0 m1 m2]=F at *;generalize (AZ p C).map (Aj Aa)=PL at *;generalize (BX p).map (Aj Aa)=AL at *;generalize BR (BX p)=AA at *;generalize Bc m0 m1 m2=T at *;generalize AY C=cC at *;simp[Ig,Df.run,BH,e0,sq,nt,it,ln,i0,fs,es,nl,i1,md]
theorem P6(h:H42t Γ){X:Ac R3}(hX:∀ x∈X,In3 p x/\AW p (tri x)=Ab 1)(cC F N:D):BJ (cG Γ [si p,sh cC,sh F,sh N,Af,Af,Af,Af] 6 CB) (cF Γ [si p,sh cC,sh F,sh N,Af,Af,Af,Af] 6 N8) (X.map (Aj Aa))=.ok (X.map fun _=>D.bl Aa):=by
 induction X with
 |nil=>rfl
 |cons x X ih=>
  have e:=h.tr p x (hX x Ay).1 (hX x Ay).2;rw[BQ,BJ,ih fun y hy=>hX y (Au _ hy)]
  generalize Aj Aa x=rx at *;simp[cG,cF,CB,N8,e]
theorem P7(X:Ac R3):GB (X.map fun _=>D.bl Aa)=.ok Aa:=by
 induction X with
 |nil=>rfl
 |cons x X ih=>
  rw[BQ,GB,ih];rfl
theorem kU(h:H42t Γ)(hp:P4 p)(iC:InC p C)(nx:NF p x)(e:AZ p C=[x]):Ig.run Γ [.int p,AY C,.tup [.str (Aq "point"),Aj Aa x]]=.ok (.bl Aa):=by
 have e0:=h.al p hp;have nt:=MR h hp iC (.tup [.str (Aq "point"),Aj Aa x]);rw[e]at nt;have nt':BJ (cG Γ [si p,sh (AY C),sh (.tup [.str (Aq "point"),Aj Aa x]),Af,Af,Af,Af,Af] 5 Mo) (cF Γ [si p,sh (AY C),sh (.tup [.str (Aq "point"),Aj Aa x]),Af,Af,Af,Af,Af] 5 JU) ((BX p).map (Aj Aa))=.ok [Aj Aa x]:=nt;have sq:Cc (BR (BX p))=.ok ((BX p).map (Aj Aa)):=rfl;have tr:=P6 h (X:=[x]) (p:=p) (fun y hy=>by rw[Bs]at hy;subst hy;exact nx) (AY C) (.tup [.str (Aq "point"),Aj Aa x]) (.lst [Aj Aa x])
 have al:=P7 [x];have it:Fo Γ.up [.tuple] (.tup [.str (Aq "point"),Aj Aa x])=.ok (.bl Aa):=rfl;have ln:biD .len [.tup [.str (Aq "point"),Aj Aa x]]=.ok (.int 2):=rfl;have i0:BW (.tup [.str (Aq "point"),Aj Aa x]) (.int 0)=.ok (.str (Aq "point")):=rfl;have i1:BW (.tup [.str (Aq "point"),Aj Aa x]) (.int 1)=.ok (Aj Aa x):=rfl;have sl:slD (.tup [.str (Aq "point"),Aj Aa x]) (Ab 1) Af=.ok (.tup [Aj Aa x]):=rfl;have sq2:Cc (.tup [Aj Aa x])=.ok ([x].map (Aj Aa)):=rfl;have fs:∀ z:Al,flD 5 (.str z)=Aa:=fun _=>rfl
 have es:∀ z:Al,eqD (.str z) (.str z)=Aa:=fun z=>Dd z
 have n1:eqD (.str (Aq "point")) (.str (Aq "whole"))=Ad:=KQ (by decide)
 obtain⟨f1,f2⟩:=TF [x];have f1':flD 5 (.lst [Aj Aa x])=Aa:=f1;have f2':eqD (.lst [Aj Aa x]) (.lst [Aj Aa x])=Aa:=f2
 clear nt f1 f2 e
 generalize D.tup [.str (Aq "point"),Aj Aa x]=F at *;generalize D.tup [Aj Aa x]=F1 at *;generalize (BX p).map (Aj Aa)=AL at *;generalize BR (BX p)=AA at *;generalize [x].map (Aj Aa)=XL at *;generalize ([x].map fun _=>D.bl Aa)=BL at *
 generalize Aj Aa x=rx at *;generalize AY C=cC at *;simp[Ig,Df.run,BH,e0,sq,nt',it,ln,i0,fs,es,n1,slE,sl,sq2,tr,al,i1,f1',f2']
theorem kT(h:H42t Γ)(hp:P4 p)(iC:InC p C)(lC:AW p C.l=Ab 1)(nx:NF p x)(e:PrC p C (prd x x)):Ig.run Γ [.int p,AY C,.tup [.str (Aq "twice"),Aj Aa x]]=.ok (.bl Aa):=by
 have e0:=h.al p hp;have nt:=MR h hp iC (.tup [.str (Aq "twice"),Aj Aa x]);have sq:Cc (BR (BX p))=.ok ((BX p).map (Aj Aa)):=rfl;have tr:=P6 h (X:=[x]) (p:=p) (fun y hy=>by rw[Bs]at hy;subst hy;exact nx) (AY C) (.tup [.str (Aq "twice"),Aj Aa x]) (.lst ((AZ p C).map (Aj Aa)))
 have al:=P7 [x];obtain⟨Y,y1,y2⟩:=S9 h.f3 h.pr hp iC lC nx.1 nx.1 e;have it:Fo Γ.up [.tuple] (.tup [.str (Aq "twice"),Aj Aa x])=.ok (.bl Aa):=rfl;have ln:biD .len [.tup [.str (Aq "twice"),Aj Aa x]]=.ok (.int 2):=rfl;have i0:BW (.tup [.str (Aq "twice"),Aj Aa x]) (.int 0)=.ok (.str (Aq "twice")):=rfl;have i1:BW (.tup [.str (Aq "twice"),Aj Aa x]) (.int 1)=.ok (Aj Aa x):=rfl;have sl:slD (.tup [.str (Aq "twice"),Aj Aa x]) (Ab 1) Af=.ok (.tup [Aj Aa x]):=rfl;have sq2:Cc (.tup [Aj Aa x])=.ok ([x].map (Aj Aa)):=rfl;have fs:∀ z:Al,flD 5 (.str z)=Aa:=fun _=>rfl
 have es:∀ z:Al,eqD (.str z) (.str z)=Aa:=fun z=>Dd z
 have n1:eqD (.str (Aq "twice")) (.str (Aq "whole"))=Ad:=KQ (by decide)
 have n2:eqD (.str (Aq "twice")) (.str (Aq "point"))=Ad:=KQ (by decide)
 obtain⟨f1,f2⟩:=TH C;generalize D.tup [.str (Aq "twice"),Aj Aa x]=F at *;generalize D.tup [Aj Aa x]=F1 at *;generalize (AZ p C).map (Aj Aa)=PL at *;generalize (BX p).map (Aj Aa)=AL at *;generalize BR (BX p)=AA at *;generalize [x].map (Aj Aa)=XL at *;generalize ([x].map fun _=>D.bl Aa)=BL at *
 generalize Aj Aa x=rx at *;generalize AY C=cC at *;simp[Ig,Df.run,BH,e0,sq,nt,it,ln,i0,fs,es,n1,n2,slE,sl,sq2,tr,al,i1,y1,y2,f1,f2]
theorem Va(h:H42t Γ)(hp:P4 p)(iC:InC p C)(lC:AW p C.l=Ab 1)(nx:NF p x)(ny:NF p y)(lx:BP (tri x) (tri y)=Aa)(e:PrC p C (prd x y)):Ig.run Γ [.int p,AY C,.tup [.str (Aq "lines"),Aj Aa x,Aj Aa y]]=.ok (.bl Aa):=by
 have e0:=h.al p hp;have nt:=MR h hp iC (.tup [.str (Aq "lines"),Aj Aa x,Aj Aa y]);have sq:Cc (BR (BX p))=.ok ((BX p).map (Aj Aa)):=rfl;have tr:=P6 h (X:=[x,y]) (p:=p) (fun z hz=>by simp at hz;rcases hz with rfl|rfl;exact nx;exact ny) (AY C) (.tup [.str (Aq "lines"),Aj Aa x,Aj Aa y]) (.lst ((AZ p C).map (Aj Aa)))
 have al:=P7 [x,y];obtain⟨Y,y1,y2⟩:=S9 h.f3 h.pr hp iC lC nx.1 ny.1 e;have i1:BW (.tup [.str (Aq "lines"),Aj Aa x,Aj Aa y]) (.int 1)=.ok (Aj Aa x):=rfl;have i2:BW (.tup [.str (Aq "lines"),Aj Aa x,Aj Aa y]) (.int 2)=.ok (Aj Aa y):=rfl;have du:BJ (cG Γ [si p,sh (AY C),sh (.tup [.str (Aq "lines"),Aj Aa x,Aj Aa y]),sh (.lst ((AZ p C).map (Aj Aa))),Af,Af,Af,Af] 7 N7) (cF Γ [si p,sh (AY C),sh (.tup [.str (Aq "lines"),Aj Aa x,Aj Aa y]),sh (.lst ((AZ p C).map (Aj Aa))),Af,Af,Af,Af] 7 Kz) ((BX p).map (Aj Aa))=.ok ((AZ p C).map (Aj Aa)):=by
  refine JV (q:=fun u=>decide (vI C u%p=0)) (BX p) fun u hu=>?_
  have iu:=((Eh hp).mp hu).1;have o1:=h.on p u x hp iu nx.1;have o2:=h.on p u y hp iu ny.1;have ev:decide (vI C u%p=0)=(decide (Ar x u%p=0)||decide (Ar y u%p=0)):=by
   obtain⟨d,dz,cg⟩:=e;have q:=(IX cg (CgR.rfl (a:=u))).trans (Cg.of (KP d _ u));rw[show vI C u%p=_ from q,He,BU]
   simp only[AK,Cu];rw[E7 hp dz];constructor
   ·intro z;by_cases z1:Ar x u%p=0
    ·exact .inl z1
    ·exact .inr ((E7 hp z1).mp z)
   ·rintro (z|z)
    ·exact IZ ((Cg.mul (kg0 z) Cg.rfl).trans (Cg.of (Hx _)))
    ·exact IZ ((Cg.mul Cg.rfl (kg0 z)).trans (Cg.of (C8 _)))
  generalize (AZ p C).map (Aj Aa)=PL at *;generalize D.tup [.str (Aq "lines"),Aj Aa x,Aj Aa y]=F at *;generalize Aj Aa x=rx at *;generalize Aj Aa y=ry at *;generalize Aj Aa u=ru at *;generalize AY C=cC at *;refine⟨?_,by simp[cF,Kz]⟩
  rw[ev];cases hd:decide (Ar x u%p=0)<;>rw[hd]at o1<;>simp[cG,N7,i1,i2,o1,o2]
 have it:Fo Γ.up [.tuple] (.tup [.str (Aq "lines"),Aj Aa x,Aj Aa y])=.ok (.bl Aa):=rfl;have ln:biD .len [.tup [.str (Aq "lines"),Aj Aa x,Aj Aa y]]=.ok (.int 3):=rfl;have i0:BW (.tup [.str (Aq "lines"),Aj Aa x,Aj Aa y]) (.int 0)=.ok (.str (Aq "lines")):=rfl;have sl:slD (.tup [.str (Aq "lines"),Aj Aa x,Aj Aa y]) (Ab 1) Af=.ok (.tup [Aj Aa x,Aj Aa y]):=rfl;have sq2:Cc (.tup [Aj Aa x,Aj Aa y])=.ok ([x,y].map (Aj Aa)):=rfl;have lt:HU (Aj Aa x) (Aj Aa y)=.ok (.bl Aa):=by
  unfold HU;have k:([tI (tri x),tI (tri y)].all fun d=>rkD 1 d && !eqD d (.tup []))=Aa:=Py (rs:=[tri x,tri y]) (by intro r hr;simp at hr;rcases hr with rfl|rfl<;>simp[tri])
  rw[Pw,Pw,Az k,M6,lx]
 have fs:∀ z:Al,flD 5 (.str z)=Aa:=fun _=>rfl
 have es:∀ z:Al,eqD (.str z) (.str z)=Aa:=fun z=>Dd z
 have n1:eqD (.str (Aq "lines")) (.str (Aq "whole"))=Ad:=KQ (by decide)
 have n2:eqD (.str (Aq "lines")) (.str (Aq "point"))=Ad:=KQ (by decide)
 have n3:eqD (.str (Aq "lines")) (.str (Aq "twice"))=Ad:=KQ (by decide)
 obtain⟨f1,f2⟩:=TH C;obtain⟨f3,f4⟩:=TF (AZ p C);have f3':flD 5 (.lst ((AZ p C).map (Aj Aa)))=Aa:=f3;have f4':eqD (.lst ((AZ p C).map (Aj Aa))) (.lst ((AZ p C).map (Aj Aa)))=Aa:=f4
 clear f3 f4 e
 generalize D.tup [.str (Aq "lines"),Aj Aa x,Aj Aa y]=F at *;generalize D.tup [Aj Aa x,Aj Aa y]=F1 at *;generalize (AZ p C).map (Aj Aa)=PL at *;generalize (BX p).map (Aj Aa)=AL at *;generalize BR (BX p)=AA at *;generalize [x,y].map (Aj Aa)=XL at *;generalize ([x,y].map fun _=>D.bl Aa)=BL at *
 generalize Aj Aa x=rx at *;generalize Aj Aa y=ry at *;generalize AY C=cC at *;simp[Ig,Df.run,BH,e0,sq,nt,it,ln,i0,fs,es,n1,n2,n3,slE,sl,sq2,tr,al,i1,i2,lt,du,f3',f4',y1,y2,f1,f2]
theorem PV(hp:P4 p){x y a b:R3}(h:Pr p x a)(g:Pr p y b):PrC p (prd x y) (prd a b):=by
 obtain⟨d,dz,h0,h1,h2⟩:=h;obtain⟨e,ez,g0,g1,g2⟩:=g;refine⟨d*e,Bm hp dz ez,?_⟩;have k:∀{u v u' v':Ae},Cg p u (d*u')->Cg p v (e*v')->Cg p (u*v) (d*e*(u'*v')):=fun hu hv=>(Cg.mul hu hv).trans (Cg.of (by grind))
 have s:∀{u v u' v':Ae},Cg p u (d*e*u')->Cg p v (d*e*v')->Cg p (u+v) (d*e*(u'+v')):=fun hu hv=>(Cg.add hu hv).trans (Cg.of (by grind))
 exact⟨k h0 g0,k h1 g1,k h2 g2,s (k h0 g1) (k h1 g0),s (k h0 g2) (k h2 g0),s (k h1 g2) (k h2 g1)⟩
theorem bH(x y:R3):prd x y=prd y x:=by
 unfold prd
 congr 1<;>grind
def sW(Γ:Gam):Prop:=∀(p:Ae)(C:C6),P4 p->InC p C->AW p C.l=Ab 1->∃ F,Γ.F 154 [.int p,AY C]=.ok F/\Γ.F 174 [.int p,AY C,F]=.ok (.bl Aa)
theorem gX{Γ':Gam}(h:H42t Γ)(kd:Kd Γ')(hp:P4 p)(iC:InC p C)(lC:AW p C.l=Ab 1):∃ F,Γ'.F 154 [.int p,AY C]=.ok F/\Ig.run Γ [.int p,AY C,F]=.ok (.bl Aa):=by
  obtain⟨w,a,b,c,hw,z,pC⟩:=jK hp lC;have len:=JZ hw hp z pC;have nA:=L9 hp z;have nB:=L9 hp (Qi z);rcases hw with rfl|rfl|rfl|rfl
  · obtain⟨m0,m1,m2,G,l1,pr,e⟩:=kd.k0 p C a b c hp iC z pC;exact⟨_,e,lO h hp iC G l1 pr len⟩
  · exact⟨_,kd.k1 p C a b c hp iC z pC,kT h hp iC lC nA.1 (pC.trans hp ((PV hp nA.2 nA.2).symm hp))⟩
  · obtain⟨L1,L2,hL,lx,e⟩:=kd.k2 p C a b c hp iC z pC;refine⟨_,e,?_⟩;rcases hL with ⟨rfl,rfl⟩|⟨rfl,rfl⟩
    · exact Va h hp iC lC nA.1 nB.1 lx (pC.trans hp ((PV hp nA.2 nB.2).symm hp))
    · exact Va h hp iC lC nB.1 nA.1 lx (pC.trans hp (by rw[show E4 2 (CI p) a b c=prd b a from bH a b];exact(PV hp nB.2 nA.2).symm hp))
  · refine⟨_,kd.k3 p C a b c hp iC z pC,kU h hp iC (Jy hp z).1 ?_⟩;have hm:nrm p (crs a b)∈AZ p C:=(Ij hp).mpr ⟨(Jy hp z).1,Rh hp z pC⟩;have len':(AZ p C).length=1:=len
    match e:AZ p C,len',hm with
    |[x],_,hm=>rw[Bs]at hm;rw[hm]
def Six(p:Ae)(xs:Ac Ae):Prop:=xs.length=6/\∀ x∈xs,0<=x/\x<p
structure H42 (Γ:Gam) (ns:Ac Ae):Prop where
 prime:dG Γ 169 ns
 mix:M1 Γ 38 ns
 f3:MV Γ
 tt:sW Γ
theorem UN(h:M1 Γ 38 ns)(hp:P4 p){t:Ae}(t0:0<=t)(ρ4 ρ5 ρ6 ρ3:Sl):∀ L:Ac Ag,∃ xs:Ac Ae,xs.length=L.length/\(∀ x∈xs,0<=x/\x<p)/\BJ (cG Γ [sh (scr ns),si p,si t,ρ3,ρ4,ρ5,ρ6,Af] 7 CB) (cF Γ [sh (scr ns),si p,si t,ρ3,ρ4,ρ5,ρ6,Af] 7 Mq) (L.map fun(k:Ag)=>D.int (k:Ae))=.ok (ds xs)
 |[]=>⟨[],rfl,fun x hx=>(AX hx).elim,rfl⟩
 |k::L=>by
  obtain⟨xs,l,bd,e⟩:=UN h hp t0 ρ4 ρ5 ρ6 ρ3 L;obtain⟨m,m0,em⟩:=h (1+7*t+(k:Ae)) (by omega)
  have p0:=hp.pos;refine⟨m / 11%p::xs,by simp[l],fun x hx=>?_,?_⟩
  ·rcases Ax.mp hx with rfl|hx
   ·exact⟨A9 _ (by omega),A7 _ p0⟩
   ·exact bd x hx
  ·rw[BQ,BJ,e];have mt:Ei 7 t=Aa:=HI (by omega) (by omega)
   generalize scr ns=S at *;simp[cG,cF,CB,Mq,em,p0,mt];rfl
theorem pR(hp:P4 p){S:D}{k:Ag}(hk:k<6)(hx:Six p xs)(f0:0<=f):∃ xs',Six p xs'/\CJ Γ 5 LD (.int (k:Ae)) [sh S,si p,si t,Ab (.lst (ds xs),Aa),si f,s5,s6,Af]=.next [sh S,si p,si t,Ab (.lst (ds xs'),Aa),si (f / 2),si (k:Ae),s6,Af]:=by
 obtain⟨hl,hb⟩:=hx;have hk':k<xs.length:=by omega
 have b0:=hb xs[k] (En hk');have b2:f%2=0\/f%2=1:=by omega
 have ph:=hp.hi;have p0:=hp.pos;refine⟨xs.set k (xs[k]*(f%2)),⟨by rw[Bq,hl],fun x hx=>?_⟩,?_⟩
 ·rcases Fs hx with h|rfl
  ·exact hb x h
  ·rcases b2 with e|e<;>rw[e]<;>omega
 ·have ld:(ds xs).length=6:=by unfold ds;rw[Bp,hl]
  have ix:D0 (ds xs) (k:Ae)=.ok (.int xs[k]):=by
   rw[aR _ k (by rw[ld];exact hk)]
   simp[ds]
  have pl:plD 6 (k:Ae)=Ab k:=by
   unfold plD;rw[Az (by omega),Az (by omega)]
   rfl
  have st:(ds xs).set k (.int (xs[k]*(f%2)))=ds (xs.set k (xs[k]*(f%2))):=by
   unfold ds;rw[WK]
  have mt:Ei xs[k] (f%2)=Aa:=HI (by omega) (by omega)
  generalize xs[k]=v at *;generalize hv:v*(f%2)=u at *;generalize ds xs=X at *;generalize ds (xs.set k u)=X' at *;have f2:(0:Ae)<2:=by decide
  simp[CJ,LD,TJ,Du,ix,ld,pl,hv,mt,st]
theorem eV(hp:P4 p)(hx:Six p xs)(hn:n<6):Six p (xs.set n 1)/\∃ l,AW p (xs.set n 1)=Ab l:=by
 obtain⟨hl,hb⟩:=hx;have p1:1<p:=by have:=hp.lo;omega
 refine⟨⟨by rw[Bq,hl],fun x h=>?_⟩,?_⟩
 ·rcases Fs h with h|rfl
  ·exact hb x h
  ·omega
 ·cases e:AW p (xs.set n 1) with
  |some l=>exact⟨l,rfl⟩
  |none=>
   have:=IQ.mp e 1 (List.mem_iff_getElem.mpr ⟨n,by rw[Bq];omega,by simp⟩)
   rw[AI (by decide) p1]at this
   cases this
theorem dD(hp:P4 p)(hx:Six p xs)(h:(xs.any fun x=>x != 0)=Aa):∃ l,AW p xs=Ab l:=by
 cases e:AW p xs with
 |some l=>exact⟨l,rfl⟩
 |none=>
  obtain⟨x,hm,hz⟩:=List.any_eq_true.mp h;have:=IQ.mp e x hm;have b:=hx.2 x hm;rw[AI b.1 b.2]at this;rw[this]at hz;cases hz
theorem eW(hl:xs.length=6):∃ E:C6,E.l=xs:=by
  match xs,hl with
  |[a,b,c,d,e,f],_=>exact⟨⟨a,b,c,d,e,f⟩,rfl⟩
theorem fO(hp:P4 p){S:D}(hx:Six p xs)(f0:0<=f):∃ xs' f' s5',Six p xs'/\CS (CJ Γ 5 LD) [.int 0,.int 1,.int 2,.int 3,.int 4,.int 5] [sh S,si p,si t,Ab (.lst (ds xs),Aa),si f,s5,s6,Af]=.next [sh S,si p,si t,Ab (.lst (ds xs'),Aa),si f',s5',s6,Af]:=by
 obtain⟨ρ',e,xs',f',s5',h1,_,rfl⟩:=OS (body:=CJ Γ 5 LD) (fun ρ=>∃ xs' f' s5',Six p xs'/\0<=f'/\ρ=[sh S,si p,si t,Ab (.lst (ds xs'),Aa),si f',s5',s6,Af]) [.int 0,.int 1,.int 2,.int 3,.int 4,.int 5] [sh S,si p,si t,Ab (.lst (ds xs),Aa),si f,s5,s6,Af] ⟨xs,f,s5,hx,f0,rfl⟩ (fun x hm ρ ⟨ys,g,s,hy,g0,er⟩=>by
  subst er;have:∃ k:Ag,k<6/\x=.int (k:Ae):=by
   simp only[Ax,AX,B8]at hm;rcases hm with rfl|rfl|rfl|rfl|rfl|rfl
   ·exact⟨0,by decide,rfl⟩
   ·exact⟨1,by decide,rfl⟩
   ·exact⟨2,by decide,rfl⟩
   ·exact⟨3,by decide,rfl⟩
   ·exact⟨4,by decide,rfl⟩
   ·exact⟨5,by decide,rfl⟩
  obtain⟨k,hk,rfl⟩:=this;obtain⟨zs,hz,e⟩:=pR (Γ:=Γ) (t:=t) (S:=S) (s6:=s6) (s5:=s) hp hk hy g0;exact⟨_,e,zs,g / 2,_,hz,by omega,rfl⟩)
 exact⟨xs',f',s5',h1,e⟩
theorem PD(h:H42 Γ ns)(hp:P4 p)(t0:0<=t)(s2 s3 s4 s5 s6:Sl):CJ Γ 2 E2 (.int t) [sh (scr ns),si p,s2,s3,s4,s5,s6,Af]=.ret (.bl Aa) Ad\/∃ s3' s4' s5' s6',CJ Γ 2 E2 (.int t) [sh (scr ns),si p,s2,s3,s4,s5,s6,Af]=.next [sh (scr ns),si p,si t,s3',s4',s5',s6',Af]:=by
 have p0:=hp.pos;have mt:Ei 7 t=Aa:=HI (by omega) (by omega)
 have ln:biD .len [scr ns]=.ok (.int (ns.length:Ae)):=by
  show R.ok (D.int ((ns.map D.int).length:Ag))=_;rw[Bp]
 have rg:Dt 0 6=.ok [.int 0,.int 1,.int 2,.int 3,.int 4,.int 5]:=rfl;by_cases hs:0<t/\(ns.length:Ae)<7*t
 ·refine .inl ?_;generalize scr ns=S at *;simp[CJ,E2,Ez,ln,mt,hs.1,hs.2]
 ·refine .inr ?_;obtain⟨xs,xl,xb,ec⟩:=UN h.mix hp t0 s4 s5 s6 s3 [0,1,2,3,4,5];have ec':BJ (cG Γ [sh (scr ns),si p,si t,s3,s4,s5,s6,Af] 7 CB) (cF Γ [sh (scr ns),si p,si t,s3,s4,s5,s6,Af] 7 Mq) [.int 0,.int 1,.int 2,.int 3,.int 4,.int 5]=.ok (ds xs):=ec;obtain⟨m,m0,em⟩:=h.mix (7+7*t) (by omega)
  have hd:evSs Γ [sh (scr ns),si p,si t,s3,s4,s5,s6,Af] (E2.take 3)=.next [sh (scr ns),si p,si t,Ab (.lst (ds xs),Aa),si (m / 3%64),s5,s6,Af]:=by
   have hs':¬ (0<t/\(ns.length:Ae)<7*t):=hs;generalize scr ns=S at *;by_cases ht:0<t
   ·have:¬ (ns.length:Ae)<7*t:=fun z=>hs' ⟨ht,z⟩
    simp[E2,Ss.take,ln,mt,ht,this,Ez,rg,ec',em]
   ·simp[E2,Ss.take,ln,mt,ht,Ez,rg,ec',em]
  have few0:0<=m / 3%64:=A9 _ (by decide)
  generalize m / 3%64=few at *;have hA:∃ xs1 f1 s5',Six p xs1/\evSs Γ [sh (scr ns),si p,si t,Ab (.lst (ds xs),Aa),si few,s5,s6,Af] ((E2.drop 3).take 1)=.next [sh (scr ns),si p,si t,Ab (.lst (ds xs1),Aa),si f1,s5',s6,Af]:=by
   by_cases hf:few%2=1
   ·obtain⟨xs1,f1,s5',h1,e1⟩:=fO (Γ:=Γ) (t:=t) (S:=scr ns) (s5:=s5) (s6:=s6) hp ⟨xl,xb⟩ (f:=few / 2) (by omega)
    refine⟨xs1,f1,s5',h1,?_⟩;generalize ds xs=X at *;generalize ds xs1=X1 at *;generalize scr ns=S at *;simp[E2,Ss.drop,Ss.take,hf,rg,e1]
   ·refine⟨xs,few,s5,⟨xl,xb⟩,?_⟩;generalize ds xs=X at *;generalize scr ns=S at *;simp[E2,Ss.drop,Ss.take,hf]
  obtain⟨xs1,f1,s5',h1,eA⟩:=hA;have hB:∃ xs2,Six p xs2/\(∃ l,AW p xs2=Ab l)/\evSs Γ [sh (scr ns),si p,si t,Ab (.lst (ds xs1),Aa),si f1,s5',s6,Af] ((E2.drop 4).take 1)=.next [sh (scr ns),si p,si t,Ab (.lst (ds xs2),Aa),si f1,s5',s6,Af]:=by
   have an:biD .any [.lst (ds xs1)]=.ok (.bl (xs1.any fun x=>x != 0)):=by
    show (FK (ds xs1)).bind _=_;rw[OY];rfl
   cases ha:xs1.any fun x=>x != 0 with
   |true=>
    rw[ha]at an;refine⟨xs1,h1,dD hp h1 ha,?_⟩;generalize ds xs1=X at *;generalize scr ns=S at *;simp[E2,Ss.drop,Ss.take,an]
   |false=>
    rw[ha]at an;have j0:0<=m / 200%6:=A9 _ (by decide)
    have j1:m / 200%6<6:=A7 _ (by decide)
    obtain⟨hx,hl⟩:=eV hp h1 (n:=(m / 200%6).toNat) (by omega)
    refine⟨_,hx,hl,?_⟩;have ld:(ds xs1).length=6:=by unfold ds;rw[Bp,h1.1]
    have pl:plD 6 (m / 200%6)=Ab (m / 200%6).toNat:=by
     unfold plD;rw[Az j0,Az (by omega)]
    have st:(ds xs1).set (m / 200%6).toNat (.int 1)=ds (xs1.set (m / 200%6).toNat 1):=by
     unfold ds;rw[WK]
    generalize ds xs1=X at *;generalize scr ns=S at *;simp[E2,Ss.drop,Ss.take,an,TJ,Du,em,mt,ld,pl,st]
  obtain⟨xs2,h2,⟨l,el⟩,eB⟩:=hB;obtain⟨E,rfl⟩:=eW h2.1;obtain⟨u,C,iu,eD,iC,lC,pC⟩:=VR hp el;have e3:=h.f3 p Ad _ l u hp el iu;rw[eD]at e3;have e3':Γ.F 158 [.int p,.lst (ds E.l)]=.ok (AY C):=e3;obtain⟨F,k1,k2⟩:=h.tt p C hp iC lC;have nl:∀ fr,Ke fr (AY C)=Aa:=fun _=>rfl
  have hC:evSs Γ [sh (scr ns),si p,si t,Ab (.lst (ds E.l),Aa),si f1,s5',s6,Af] (E2.drop 5)=.next [sh (scr ns),si p,si t,Ab (.lst (ds E.l),Aa),si f1,s5',sh (AY C),Af]:=by
   clear eD e3 iC lC pC el iu h2 eB eA hd ec ec'
   generalize ds E.l=X at *;generalize AY C=cC at *;generalize scr ns=S at *;simp[E2,Ss.drop,e3',k1,k2,nl]
  refine⟨Ab (.lst (ds E.l),Aa),si f1,s5',sh (AY C),?_⟩
  ·show evSs Γ [sh (scr ns),si p,si t,s3,s4,s5,s6,Af] E2=_;rw[MP Γ 3,hd];show evSs Γ _ (E2.drop 3)=_;rw[MP Γ 1,eA];show evSs Γ _ (E2.drop 4)=_;rw[MP Γ 1,eB];exact hC
theorem sH(h:H42 Γ ns):MN.run Γ [scr ns]=.ok (.bl Aa):=by
 obtain⟨p,hp,e1⟩:=h.prime;have rg:Dt 0 3=.ok [.int 0,.int 1,.int 2]:=rfl;have lp:(∃ ρ,CS (CJ Γ 2 E2) [.int 0,.int 1,.int 2] [sh (scr ns),si p,Af,Af,Af,Af,Af,Af]=.next ρ)\/CS (CJ Γ 2 E2) [.int 0,.int 1,.int 2] [sh (scr ns),si p,Af,Af,Af,Af,Af,Af]=.ret (.bl Aa) Ad:=by
  rcases PD h hp (t:=0) (by decide) Af Af Af Af Af with e|⟨a3,a4,a5,a6,e⟩
  ·exact .inr (by rw[CS,e];rfl)
  rcases PD h hp (t:=1) (by decide) (si 0) a3 a4 a5 a6 with e'|⟨b3,b4,b5,b6,e'⟩
  ·exact .inr (by rw[CS,e,IL,CS,e'];rfl)
  rcases PD h hp (t:=2) (by decide) (si 1) b3 b4 b5 b6 with e''|⟨d3,d4,d5,d6,e''⟩
  ·exact .inr (by rw[CS,e,IL,CS,e',IL,CS,e''];rfl)
  ·exact .inl ⟨_,by rw[CS,e,IL,CS,e',IL,CS,e'',IL];rfl⟩
 generalize scr ns=S at *;rcases lp with ⟨ρ,lp⟩|lp
 ·simp[MN,Df.run,BH,e1,rg,lp,Ez]
 ·simp[MN,Df.run,BH,e1,rg,lp,Ez]
end
noncomputable def Yn:Ag->Ac Ag:=fun _=>[]
noncomputable def Yl:Ag->Ac D->R Ex:=fun _ _=>.bad
noncomputable def Q42:Prg:=⟨Aa,fun
 |1=>Qc
 |9=>Mn
 |17=>Mv
 |23=>OE
 |24=>Qe
 |56=>QS
 |57=>Qf
 |61=>OD
 |65=>LC
 |109=>Mt
 |69=>OB
 |104=>OF
 |91=>OC
 |78=>Om
 |98=>NE
 |92=>Qx
 |105=>O8
 |106=>NZ
 |122=>On
 |123=>N4
 |126=>O7
 |128=>MC
 |131=>N2
 |136=>LK
 |110=>OW
 |111=>Oc
 |112=>LF
 |147=>Ox
 |148=>N3
 |149=>Qd
 |150=>Mw
 |151=>Ms
 |152=>Oo
 |153=>MB
 |154=>IV
 |38=>Ls
 |169=>QJ 38
 |157=>LB
 |158=>Ob
 |160=>NM
 |161=>Ow
 |162=>ND
 |164=>Mr
 |165=>NN
 |171=>NG
 |166=>Oa
 |173=>OX
 |174=>Ig
 |175=>MN
 | _=>⟨0,Ad,.nil⟩,fun _=>.non,Yn,Yl⟩
theorem xT(ns:Ac Ae)(hl:ns.length<=63):(gam Q42 11).F 175 [scr ns]=.ok (.bl Aa):=by
 have rs:∀ n,Il (gam Q42 (n+1)):=fun n p m hp=>Co (nM _ p m hp)
 have mi:∀ n,M1 (gam Q42 (n+1)) 38 ns:=fun n k hk=>let ⟨m,m0,e⟩:=nV _ ns hl k hk;⟨m,m0,Co e⟩
 have tu:∀ n,OG (gam Q42 (n+2)):=fun n p m hp z=>let ⟨t,t1,t2,t3,e⟩:=Z6 (rs n) p m hp z;⟨t,t1,t2,t3,Co e⟩
 have fo:∀ n,LS (gam Q42 (n+3)):=fun n p b xs l t hp e it=>Co (hZ (rs (n+1)) (tu n) hp e it)
 have me:∀ n,KN (gam Q42 (n+2)):=fun n p q a b c hp ha hb hc=>Co (hV (rs n) p q a b c hp ha hb hc)
 have tf:∀ n,L0 (gam Q42 (n+4)):=fun n p t q a b c hp ha hb hc z l u e it=>Co (nK (me (n+1)) (fo n) p t q a b c hp ha hb hc z l u e it)
 have co:∀ n,M2 (gam Q42 (n+1)):=fun n t q a b c=>Co (mK _ t q a b c)
 have su:∀ n,M0 (gam Q42 (n+2)):=fun n p t q q' a b c x hp ha hb hc hx=>Co (nL (rs n) p t q q' a b c x hp ha hb hc hx)
 have cr:∀ n,Uo (gam Q42 (n+2)):=fun n a b c ha hb hc n1 n2 n3=>Co (iG (fun a b ha hb ne=>Co (T2 _ a b ha hb ne)) a b c ha hb hc n1 n2 n3)
 have ba:∀ n,P8 (gam Q42 (n+5)):=fun n p a b c hp ha hb hc z l u e it=>Co (mM (cr (n+2)) (co (n+3)) (tf n) p a b c hp ha hb hc z l u e it)
 have af:∀ n,Ub (gam Q42 (n+5)):=fun n p x y z a b c hp hx hy hz ha hb hc nz l u e it=>Co (iI (co (n+3)) (su (n+2)) (tf n) p x y z a b c hp hx hy hz ha hb hc nz l u e it)
 have ft:∀ n,Q2 (gam Q42 (n+5)):=fun n p a b c d hp ha hb hc hd z l u e it=>Co (Y1 (me (n+2)) (fun k a h0 h1=>Co (cX _ k a h0 h1)) (co (n+3)) (tf n) p a b c d hp ha hb hc hd z l u e it)
 have fi:∀ n,SM (gam Q42 (n+3)):=fun n p a b c d hp ha hb hc hd h=>by
  have e:=iF (me n) p a b c d hp ha hb hc hd h;generalize Do a b c d=F at e ⊢;show EG Aa (LC.run (gam Q42 (n+2)) [.int p,F])=.ok .non;rw[e];rfl
 have ask:∀ n,VZ (gam Q42 (n+4)):=fun n p a b c d hp ha hb hc hd h=>by
  have e:=vD (fi n) p a b c d hp ha hb hc hd h;generalize Do a b c d=F at e ⊢;show EG Aa (Mt.run (gam Q42 (n+3)) [.int p,F])=.ok .non;rw[e];rfl
 have mv:∀ n,Uk (gam Q42 (n+6)):=fun n {p a b c f0 f1 f2 f3 g0 g1 g2 g3} gT l1 fr fr' L=>by
  obtain⟨⟨d0,n0,h0⟩,⟨d1,n1,h1⟩,⟨d2,n2,h2⟩,⟨d3,n3,h3⟩⟩:=L;have e:=hJ (ask (n+1)) (ft n) (ba n) (af n) gT.p4 gT.ia gT.ib gT.ic gT.nz l1 fr.i0 fr.i1 fr.i2 fr.i3 fr.gen fr'.i0 fr'.i1 fr'.i2 fr'.i3 n0 n1 n2 n3 h0 h1 h2 h3;generalize Do f0 f1 f2 f3=F at e ⊢;generalize Do g0 g1 g2 g3=G at e ⊢;generalize Bc a b c=T at e ⊢;show EG Aa (LF.run (gam Q42 (n+5)) [.int p,F,G])=.ok T;rw[e];rfl
 have tw:∀ n,LR (gam Q42 (n+2)):=fun n p C hp=>Co (gW (rs n) p C hp)
 have wh:∀ n,SL (gam Q42 (n+3)):=fun n p C hp iC z=>Co (cW (tw n) (me n) p C hp iC z)
 have aw:∀ n,P9 (gam Q42 (n+4)):=fun n p C hp iC z=>Co (mN (wh n) p C hp iC z)
 have pt:∀ n,Vm (gam Q42 (n+5)):=fun n p C hp iC z=>let ⟨a,b,c,h,e⟩:=nN (aw n) (tw (n+2)) (tf n) p C hp iC z;⟨a,b,c,h,Co e⟩
 have ld:∀ n,Vo (gam Q42 (n+4)):=fun n p a b c f g i l=>let ⟨y,h1,h2,h3,e⟩:=mI (su (n+1)) (fo n) p a b c f g i l;⟨y,h1,h2,h3,Co e⟩
 have pl:∀ n,Ps (gam Q42 (n+6)):=fun n=>vS fun p C x hp iC z ix lx=>let ⟨y,h1,h2,h3,e⟩:=nO (pt n) (ba n) (ld (n+1)) p C x hp iC z ix lx;⟨y,h1,h2,h3,Co e⟩
 have jo:∀ n,J3 (gam Q42 (n+4)):=fun n p a b hp ia ib la lb ne=>let ⟨y,h1,h2,h3,e⟩:=mJ (fun a b ha hb ne=>Co (T2 _ a b ha hb ne)) (fo n) p a b hp ia ib la lb ne;⟨y,h1,h2,h3,Co e⟩
 have va:∀ n,Uh (gam Q42 (n+2)):=fun n p C x hp iC ix=>Co (gU (rs n) p C x hp iC ix)
 have tr:∀ n,V8 (gam Q42 (n+1)):=fun n p hp=>by
  have e:=uW (gam Q42 n) p hp;show EG Aa (OB.run (gam Q42 n) [.int p])=_;rw[e];rfl
 have po:∀ n,Pq (gam Q42 (n+3)):=fun n p C hp iC=>by
  have e:=gY (tr (n+1)) (va n) p C hp iC;show EG Aa (MC.run (gam Q42 (n+2)) [.int p,AY C])=_;rw[e];rfl
 have fr:∀ n,Um (gam Q42 (n+7)):=fun n p C A B P U rest hp iC w h=>by
  have e:=iB (jo (n+2)) (pl n) p C A B P U rest hp iC w h;generalize Do A B P U=F at e ⊢;generalize BR [A,B,U]=G at e ⊢;show EG Aa (Mw.run (gam Q42 (n+6)) [.int p,AY C,G])=_;rw[e];rfl
 have cf:∀ n,Vp (gam Q42 (n+4)):=fun n p b xs l t hp e it=>Co (mL (rs (n+2)) (fo n) hp e it)
 have f3:∀ n,MV (gam Q42 (n+1)):=fun n p b xs l t hp e it=>Co (iA _ hp e it)
 have lc:∀ n,VY (gam Q42 (n+1)):=fun n p a b hp ia ib=>Co (vC _ p a b hp ia ib)
 have lm:∀ n,V9 (gam Q42 (n+2)):=fun n p a b c hp ia ib ic=>Co (uZ (lc n) p a b c hp ia ib ic)
 have al:∀ n,QB (gam Q42 (n+2)):=fun n p hp=>by
  have e:=vE (Γ:=gam Q42 (n+1)) (fun p n hp h0 h1=>Co (uX _ p n hp h0 h1)) p hp
  show EG Aa (Mr.run (gam Q42 (n+1)) [.int p])=_;rw[e];rfl
 have whD:∀ n,V6 (gam Q42 (n+3)):=fun n p C hp iC=>Co (uU (tw n) (me n) p C hp iC)
 have on:∀ n,Vn (gam Q42 (n+3)):=fun n p x y hp ix iy=>Co (nR (fun p x y hp ix iy=>Co (nW (rs n) p x y hp ix iy)) p x y hp ix iy)
 have cx:∀ n,R0 (gam Q42 (n+3)):=fun n p C a b c hp iC z h=>Co (ZG (su n) (tw n) hp iC z h)
 have to:∀ n,V7 (gam Q42 (n+5)):=fun n p C a b c hp iC z h=>by
  obtain⟨L1,L2,h1,h2,e⟩:=uV (jo n) (cx (n+1)) (on (n+1)) hp iC z h;refine⟨L1,L2,h1,h2,?_⟩;show EG Aa (MB.run (gam Q42 (n+4)) [.int p,AY C,BR (AZ p C)])=_;rw[e];rfl
 have pn:∀ n,Uj (gam Q42 (n+5)):=fun n p hp=>Co (aZ (cf n) hp)
 have cm:∀ n,Uq (gam Q42 (n+8)):=fun n p C E a b c A B P U A' B' P' U' rest rest' T l1 iC wC iE wE fC fE L=>by
  have e:=iH (aw (n+3)) (po (n+4)) (fr n) (mv (n+1)) p C E a b c A B P U A' B' P' U' rest rest' T l1 iC wC iE wE fC fE L;generalize Bc a b c=F at e ⊢;show EG Aa (Ms.run (gam Q42 (n+7)) [.int p,AY C,AY E])=_;rw[e];rfl
 have hk:Hk (gam Q42 9):=⟨whD 6,pn 4,cm 1,po 6,jo 5,to 4⟩;have kd:Kd (gam Q42 10):=by
  refine⟨fun p C a b c hp iC z h=>?_,fun p C a b c hp iC z h=>?_,fun p C a b c hp iC z h=>?_,fun p C a b c hp iC z h=>?_⟩
  ·obtain⟨x,y,u,g,l,q,e⟩:=Y0 hk hp iC z h;exact⟨x,y,u,g,l,q,Co e⟩
  ·exact Co (YZ hk hp iC z h)
  ·obtain⟨x,y,q,l,e⟩:=YY hk hp iC z h;exact⟨x,y,q,l,Co e⟩
  ·exact Co (YX hk hp iC z h)
 have ht:H42t (gam Q42 9):=⟨al 7,fun p q C x hp iC ix=>Co (TZ _ p q C x hp iC ix),fun p x ix lx=>Co (nJ _ p x ix lx),fun p x y hp ix iy=>Co (YW _ p x y hp ix iy),f3 8,fun p a b hp ha hb=>Co (gZ _ p a b hp ha hb),fun p C m0 m1 m2 G l1 iC pr=>Co (uY (al 6) (fun p q C x hp iC ix=>Co (TZ _ p q C x hp iC ix)) (lm 6) G l1 iC pr)⟩
 have h:H42 (gam Q42 10) ns:=by
  refine⟨?_,mi 9,f3 9,fun p C hp iC lC=>?_⟩
  ·obtain⟨p,hp,e⟩:=aY (mi 8);exact⟨p,hp,Co e⟩
  ·obtain⟨F,e1,e2⟩:=gX ht kd hp iC lC;exact⟨F,e1,Co e2⟩
 exact Co (sH h)
end OvC
namespace OvC
set_option genInjectivity false in
structure Eleven (P:Prop) where
 (α1 α2 α3 α4 α5 α6 α7 α8 α9 α10 α11:Type)
 (l1 r1:AN->α1)
 (l2 r2:AN->α2)
 (l3 r3:AN->α3)
 (l4 r4:AN->α4)
 (l5 r5:AN->α5)
 (l6 r6:AN->α6)
 (l7 r7:AN->α7)
 (l8 r8:AN->α8)
 (l9 r9:AN->α9)
 (l10 r10:AN->α10)
 (l11 r11:AN->α11)
 go:(∀ w,l1 w=r1 w)->(∀ w,l2 w=r2 w)->(∀ w,l3 w=r3 w)->(∀ w,l4 w=r4 w)->(∀ w,l5 w=r5 w)->(∀ w,l6 w=r6 w)->(∀ w,l7 w=r7 w)->(∀ w,l8 w=r8 w)->(∀ w,l9 w=r9 w)->(∀ w,l10 w=r10 w)->(∀ w,l11 w=r11 w)->P
theorem map_pair{σ α β:Type}{A:σ->α}{B:σ->β}{r:Av σ}{a:α}{b:β}(h1:Gp A r=Ab a)(h2:Gp B r=Ab b):Gp (fun s=>(A s,B s)) r=Ab (a,b):=by
 cases r with
 |none=>cases h1
 |some s=>cases h1;cases h2;rfl
theorem map_take{σ α:Type}{B:σ->Ac α}{r:Av σ}{v:Ac α}(n:Ag)(h1:Gp (fun s=>(B s).take n) r=Ab (v.take n))(h2:Gp (fun s=>(B s).drop n) r=Ab (v.drop n)):Gp B r=Ab v:=by
 cases r with
 |none=>cases h1
 |some s=>
  have e1:(B s).take n=v.take n:=by injection h1
  have e2:(B s).drop n=v.drop n:=by injection h2
  show Ab (B s)=Ab v;rw[<-WV n (B s),<-WV n v,e1,e2]
end OvC
namespace OvC
open PySem PySem.Spec PyProof.Rows Ov L2
variable{l:FZ}
noncomputable def tp42(i:Ag):Cj:=PySem.Challenge.pw_ovalfield_k42_whole_any_curve.main.body.getD i (.Pass ⟨0,0,0,0⟩)
noncomputable def VT:Ac (Al×Ag×Ag):=([("rest", 1,2),("turned_over", 9,2),("one_form", 17,2),("crossed", 23,2),("lies", 24,3),("on", 56,3),("join", 57,3),("measure", 61,4),("first_three", 65,2),("ask_no_three", 109,2),("triples", 69,1),("columns", 104,1),("sums_by", 91,3),("table_of", 78,2),("crossed_rows", 98,1),("led", 92,3),("after", 105,3),("table_back", 106,2),("curve_of", 122,2),("plain_curve", 123,1),("value", 126,3),("points_of", 128,2),("twice_table", 131,2),("is_whole", 136,2),("scaled", 110,2),("frame_table", 111,2),("frame_move", 112,3),("ask_whole", 147,2),("polar_table", 148,2),("pole", 149,3)]:Ac (Al×Ag×Ag))++([("frame_on", 150,3),("curve_move", 151,3),("crossing", 152,3),("two_lines", 153,3),("kind", 154,2),("_law_mixed", 38,2),("_law_prime", 169,1),("_law_point", 157,2),("_law_form", 158,2),("_law_product", 160,2),("_law_cross", 161,2),("_law_value", 162,3),("_law_all", 164,1),("_law_measure", 165,4),("_law_triple", 171,2),("_law_is_move", 166,3),("_law_on", 173,3),("_law_true", 174,3),("law", 175,1)]:Ac (Al×Ag×Ag))
noncomputable def QY:Ac Al:=["all", "any", "bool", "enumerate", "int", "isinstance", "len", "list", "max", "min", "range", "set", "sorted", "sum", "tuple", "zip"]
noncomputable def Vu:Ac (Al×Ag):=[]
noncomputable def VW:Ac (Al×Ag):=[]
noncomputable def Vz:Ac (Al×Ag):=[]
noncomputable abbrev C42(h:Ao)(ps N:Ac Al)(i d:Ag):Ao:=HW 80 h VT QY Vu VW Vz ps N (tp42 i) (Q42.defs d)
theorem rV:C42 Ad ["p", "n"] ["p", "n"] 11 1=Aa:=by decide +kernel
theorem rT:C42 Ad ["p", "n"] ["p", "n", "turned"] 12 9=Aa:=by decide +kernel
theorem rS:C42 Ad ["p", "numbers"] ["p", "numbers", "rests", "first", "factor", "#5", "#6"] 14 17=Aa:=by decide +kernel
theorem rR:C42 Ad ["one", "other"] ["one", "other"] 15 23=Aa:=by decide +kernel
theorem rQ:C42 Ad ["p", "point", "line"] ["p", "point", "line"] 16 24=Aa:=by decide +kernel
theorem rP:C42 Ad ["p", "point", "line"] ["p", "point", "line"] 18 56=Aa:=by decide +kernel
theorem rO:C42 Ad ["p", "one", "other"] ["p", "one", "other"] 19 57=Aa:=by decide +kernel
theorem rN:C42 Ad ["p", "one", "other", "third"] ["p", "one", "other", "third"] 20 61=Aa:=by decide +kernel
theorem rM:C42 Ad ["p", "points"] ["p", "points", "i", "one", "j", "k"] 21 65=Aa:=by decide +kernel
theorem rL:C42 Ad ["p", "points"] ["p", "points", "three"] 22 109=Aa:=by decide +kernel
theorem mF:C42 Ad ["p"] ["p", "told", "z", "y", "#4"] 23 69=Aa:=by decide +kernel
theorem mE:C42 Ad ["rows"] ["rows"] 25 104=Aa:=by decide +kernel
theorem mD:C42 Ad ["p", "rows", "numbers"] ["p", "rows", "numbers", "#3"] 26 91=Aa:=by decide +kernel
theorem mC:C42 Ad ["p", "rows"] ["p", "rows", "nine"] 27 78=Aa:=by decide +kernel
theorem lZ:C42 Ad ["table"] ["table"] 28 98=Aa:=by decide +kernel
theorem lY:C42 Ad ["p", "table", "point"] ["p", "table", "point"] 29 92=Aa:=by decide +kernel
theorem lX:C42 Ad ["p", "one", "other"] ["p", "one", "other", "sides", "#4"] 30 105=Aa:=by decide +kernel
theorem lW:C42 Ad ["p", "table"] ["p", "table"] 31 106=Aa:=by decide +kernel
theorem lV:C42 Ad ["p", "numbers"] ["p", "numbers", "rests", "#3"] 33 122=Aa:=by decide +kernel
theorem lU:C42 Ad ["p"] ["p"] 34 123=Aa:=by decide +kernel
theorem lT:C42 Ad ["p", "curve", "point"] ["p", "curve", "point", "squares", "products"] 35 126=Aa:=by decide +kernel
theorem lR:C42 Ad ["p", "curve"] ["p", "curve", "#2"] 36 128=Aa:=by decide +kernel
theorem lQ:C42 Ad ["p", "curve"] ["p", "curve"] 37 131=Aa:=by decide +kernel
theorem lP:C42 Ad ["p", "curve"] ["p", "curve", "rows"] 38 136=Aa:=by decide +kernel
theorem jB:C42 Ad ["factor", "point"] ["factor", "point", "#2"] 40 110=Aa:=by decide +kernel
theorem jA:C42 Ad ["p", "four"] ["p", "four", "sides"] 41 111=Aa:=by decide +kernel
theorem iZ:C42 Ad ["p", "four", "goals"] ["p", "four", "goals"] 42 112=Aa:=by decide +kernel
theorem iY:C42 Ad ["p", "curve"] ["p", "curve"] 44 147=Aa:=by decide +kernel
theorem iX:C42 Ad ["p", "curve"] ["p", "curve"] 45 148=Aa:=by decide +kernel
theorem iW:C42 Ad ["p", "curve", "line"] ["p", "curve", "line"] 46 149=Aa:=by decide +kernel
theorem iV:C42 Ad ["p", "curve", "three"] ["p", "curve", "three"] 48 150=Aa:=by decide +kernel
theorem iU:C42 Ad ["p", "one", "other"] ["p", "one", "other"] 49 151=Aa:=by decide +kernel
theorem iT:C42 Ad ["p", "curve", "points"] ["p", "curve", "points", "rows", "#4"] 51 152=Aa:=by decide +kernel
theorem iS:C42 Ad ["p", "curve", "points"] ["p", "curve", "points", "middle", "one", "other", "#6", "#7"] 52 153=Aa:=by decide +kernel
theorem jY:C42 Ad ["p", "curve"] ["p", "curve", "points", "lines"] 53 154=Aa:=by decide +kernel
theorem jX:C42 Ad ["_law_script", "_law_k"] ["_law_script", "_law_k", "_law_cell", "_law_step"] 55 38=Aa:=by decide +kernel
theorem jW:C42 Ad ["_law_script"] ["_law_script"] 56 169=Aa:=by decide +kernel
theorem jV:C42 Ad ["_law_p", "_law_number"] ["_law_p", "_law_number", "_law_n"] 57 157=Aa:=by decide +kernel
theorem jU:C42 Ad ["_law_p", "_law_numbers"] ["_law_p", "_law_numbers", "_law_head", "_law_by", "#4", "#5", "#6"] 58 158=Aa:=by decide +kernel
theorem jT:C42 Ad ["_law_one", "_law_other"] ["_law_one", "_law_other", "_law_numbers", "_law_i", "_law_j", "#5"] 59 160=Aa:=by decide +kernel
theorem jS:C42 Ad ["_law_one", "_law_other"] ["_law_one", "_law_other", "_law_a", "_law_b", "_law_c", "_law_d", "_law_e", "_law_f"] 60 161=Aa:=by decide +kernel
theorem jR:C42 Ad ["_law_p", "_law_curve", "_law_point_here"] ["_law_p", "_law_curve", "_law_point_here", "_law_x", "_law_y", "_law_z", "_law_some", "#7", "#8"] 61 162=Aa:=by decide +kernel
theorem jQ:C42 Ad ["_law_p"] ["_law_p", "#1"] 62 164=Aa:=by decide +kernel
theorem jP:C42 Ad ["_law_p", "_law_one", "_law_other", "_law_third"] ["_law_p", "_law_one", "_law_other", "_law_third", "_law_a", "_law_b", "_law_c"] 63 165=Aa:=by decide +kernel
theorem jO:C42 Ad ["_law_p", "_law_found"] ["_law_p", "_law_found", "_law_heads", "#3", "#4"] 64 171=Aa:=by decide +kernel
theorem jN:C42 Ad ["_law_p", "_law_curve", "_law_table"] ["_law_p", "_law_curve", "_law_table", "_law_flat", "_law_row", "_law_factors", "_law_point_here", "_law_x", "_law_y", "_law_z", "_law_there", "_law_here", "_law_far", "#13", "#14", "#15", "#16"] 65 166=Aa:=by decide +kernel
theorem jM:C42 Ad ["_law_p", "_law_point_here", "_law_line"] ["_law_p", "_law_point_here", "_law_line", "#3", "#4"] 66 173=Aa:=by decide +kernel
theorem jL:C42 Ad ["_law_p", "_law_curve", "_law_found"] ["_law_p", "_law_curve", "_law_found", "_law_noughts", "_law_due", "#5", "#6", "#7"] 67 174=Aa:=by decide +kernel
theorem UB:C42 Ad ["_law_script"] ["_law_script", "_law_p", "_law_turn", "_law_numbers", "_law_few", "_law_k", "_law_curve", "#7"] 68 175=Aa:=by decide +kernel
set_option maxHeartbeats 0 in
theorem all42{w:AN}{K:Fg}{h:AS}{mg:Al->Av Ai}{fa f0 f1 f2 f3 f4 f5 f6 f7 f8 f9 f10 f11 f12 f13 f14 f15 f16 f17 f18 f19 f20 f21 f22 f23 f24 f25 f26 f27 f28 f29 f30 f31 f32 f33 f34 f35 f36 f37 f38 f39 f40 f41 f42 f43 f44 f45 f46 f47 f48:Ak}(X:K.In h)(G:h.Ns Bj mg)(hfa:mg "law" = Ab (.ref fa))(a0:FnI K f0 "rest" (tp42 11))(a1:FnI K f1 "turned_over" (tp42 12))(a2:FnI K f2 "one_form" (tp42 14))(a3:FnI K f3 "crossed" (tp42 15))(a4:FnI K f4 "lies" (tp42 16))(a5:FnI K f5 "on" (tp42 18))(a6:FnI K f6 "join" (tp42 19))(a7:FnI K f7 "measure" (tp42 20))(a8:FnI K f8 "first_three" (tp42 21))(a9:FnI K f9 "ask_no_three" (tp42 22))(a10:FnI K f10 "triples" (tp42 23))(a11:FnI K f11 "columns" (tp42 25))(a12:FnI K f12 "sums_by" (tp42 26))(a13:FnI K f13 "table_of" (tp42 27))(a14:FnI K f14 "crossed_rows" (tp42 28))(a15:FnI K f15 "led" (tp42 29))(a16:FnI K f16 "after" (tp42 30))(a17:FnI K f17 "table_back" (tp42 31))(a18:FnI K f18 "curve_of" (tp42 33))(a19:FnI K f19 "plain_curve" (tp42 34))(a20:FnI K f20 "value" (tp42 35))(a21:FnI K f21 "points_of" (tp42 36))(a22:FnI K f22 "twice_table" (tp42 37))(a23:FnI K f23 "is_whole" (tp42 38))(a24:FnI K f24 "scaled" (tp42 40))(a25:FnI K f25 "frame_table" (tp42 41))(a26:FnI K f26 "frame_move" (tp42 42))(a27:FnI K f27 "ask_whole" (tp42 44))(a28:FnI K f28 "polar_table" (tp42 45))(a29:FnI K f29 "pole" (tp42 46))(a30:FnI K f30 "frame_on" (tp42 48))(a31:FnI K f31 "curve_move" (tp42 49))(a32:FnI K f32 "crossing" (tp42 51))(a33:FnI K f33 "two_lines" (tp42 52))(a34:FnI K f34 "kind" (tp42 53))(a35:FnI K f35 "_law_mixed" (tp42 55))(a36:FnI K f36 "_law_prime" (tp42 56))(a37:FnI K f37 "_law_point" (tp42 57))(a38:FnI K f38 "_law_form" (tp42 58))(a39:FnI K f39 "_law_product" (tp42 59))(a40:FnI K f40 "_law_cross" (tp42 60))(a41:FnI K f41 "_law_value" (tp42 61))(a42:FnI K f42 "_law_all" (tp42 62))(a43:FnI K f43 "_law_measure" (tp42 63))(a44:FnI K f44 "_law_triple" (tp42 64))(a45:FnI K f45 "_law_is_move" (tp42 65))(a46:FnI K f46 "_law_on" (tp42 66))(a47:FnI K f47 "_law_true" (tp42 67))(a48:FnI K f48 "law" (tp42 68))(z0:Ca K Bj "all" = Ab Af)(z1:Ca K Bj "any" = Ab Af)(z2:Ca K Bj "bool" = Ab Af)(z3:Ca K Bj "enumerate" = Ab Af)(z4:Ca K Bj "int" = Ab Af)(z5:Ca K Bj "isinstance" = Ab Af)(z6:Ca K Bj "len" = Ab Af)(z7:Ca K Bj "list" = Ab Af)(z8:Ca K Bj "max" = Ab Af)(z9:Ca K Bj "min" = Ab Af)(z10:Ca K Bj "range" = Ab Af)(z11:Ca K Bj "set" = Ab Af)(z12:Ca K Bj "sorted" = Ab Af)(z13:Ca K Bj "sum" = Ab Af)(z14:Ca K Bj "tuple" = Ab Af)(z15:Ca K Bj "zip" = Ab Af):
    ∃ fd:CO,(∀(s:Ap)(v:Ai),Hr s fd ⟨[v],[]⟩ [("_law_script", v)])/\∀ base:AS,K.In base->base.Ns Bj mg->FnOk l.prog w K mg base (CXR l.prog w) 11 fa fd ["_law_script"] (Mb K):=by
  obtain⟨_,F,e⟩:=a48;obtain⟨_,_,_,_,_,_,_,_,_,rfl,_,_⟩:=F.ex;cases hfa.symm.trans (Je X G e);have T:Tab K mg (fun _=>Af) VT QY Vu VW Vz Q42 80:=⟨fG fun _ _=>rfl,all_cons (BE X G z0) (all_cons (BE X G z1) (all_cons (BE X G z2) (all_cons (BE X G z3) (all_cons (BE X G z4) (all_cons (BE X G z5) (all_cons (BE X G z6) (all_cons (BE X G z7) (all_cons (BE X G z8) (all_cons (BE X G z9) (all_cons (BE X G z10) (all_cons (BE X G z11) (all_cons (BE X G z12) (all_cons (BE X G z13) (all_cons (BE X G z14) (all_cons (BE X G z15) (Pp)))))))))))))))),Pp,all_cons (Ey 2 1 X G a0 rfl rV fun _ _ _ _ _ _ _ _=>rfl) (all_cons (Ey 2 9 X G a1 rfl rT fun _ _ _ _ _ _ _ _=>rfl) (all_cons (Ey 2 17 X G a2 rfl rS fun _ _ _ _ _ _ _ _=>rfl) (all_cons (Ey 2 23 X G a3 rfl rR fun _ _ _ _ _ _ _ _=>rfl) (all_cons (FM 3 24 X G a4 rfl rQ fun _ _ _ _ _ _ _ _ _=>rfl) (all_cons (FM 3 56 X G a5 rfl rP fun _ _ _ _ _ _ _ _ _=>rfl) (all_cons (FM 3 57 X G a6 rfl rO fun _ _ _ _ _ _ _ _ _=>rfl) (all_cons (Q5 4 61 X G a7 rfl rN fun _ _ _ _ _ _ _ _ _ _=>rfl) (all_cons (Ey 2 65 X G a8 rfl rM fun _ _ _ _ _ _ _ _=>rfl) (all_cons (Ey 2 109 X G a9 rfl rL fun _ _ _ _ _ _ _ _=>rfl) (all_cons (Kc 1 69 X G a10 rfl mF fun _ _ _ _ _ _ _=>rfl) (all_cons (Kc 1 104 X G a11 rfl mE fun _ _ _ _ _ _ _=>rfl) (all_cons (FM 3 91 X G a12 rfl mD fun _ _ _ _ _ _ _ _ _=>rfl) (all_cons (Ey 2 78 X G a13 rfl mC fun _ _ _ _ _ _ _ _=>rfl) (all_cons (Kc 1 98 X G a14 rfl lZ fun _ _ _ _ _ _ _=>rfl) (all_cons (FM 3 92 X G a15 rfl lY fun _ _ _ _ _ _ _ _ _=>rfl) (all_cons (FM 3 105 X G a16 rfl lX fun _ _ _ _ _ _ _ _ _=>rfl) (all_cons (Ey 2 106 X G a17 rfl lW fun _ _ _ _ _ _ _ _=>rfl) (all_cons (Ey 2 122 X G a18 rfl lV fun _ _ _ _ _ _ _ _=>rfl) (all_cons (Kc 1 123 X G a19 rfl lU fun _ _ _ _ _ _ _=>rfl) (all_cons (FM 3 126 X G a20 rfl lT fun _ _ _ _ _ _ _ _ _=>rfl) (all_cons (Ey 2 128 X G a21 rfl lR fun _ _ _ _ _ _ _ _=>rfl) (all_cons (Ey 2 131 X G a22 rfl lQ fun _ _ _ _ _ _ _ _=>rfl) (all_cons (Ey 2 136 X G a23 rfl lP fun _ _ _ _ _ _ _ _=>rfl) (all_cons (Ey 2 110 X G a24 rfl jB fun _ _ _ _ _ _ _ _=>rfl) (all_cons (Ey 2 111 X G a25 rfl jA fun _ _ _ _ _ _ _ _=>rfl) (all_cons (FM 3 112 X G a26 rfl iZ fun _ _ _ _ _ _ _ _ _=>rfl) (all_cons (Ey 2 147 X G a27 rfl iY fun _ _ _ _ _ _ _ _=>rfl) (all_cons (Ey 2 148 X G a28 rfl iX fun _ _ _ _ _ _ _ _=>rfl) (all_cons (FM 3 149 X G a29 rfl iW fun _ _ _ _ _ _ _ _ _=>rfl) (all_cons (FM 3 150 X G a30 rfl iV fun _ _ _ _ _ _ _ _ _=>rfl) (all_cons (FM 3 151 X G a31 rfl iU fun _ _ _ _ _ _ _ _ _=>rfl) (all_cons (FM 3 152 X G a32 rfl iT fun _ _ _ _ _ _ _ _ _=>rfl) (all_cons (FM 3 153 X G a33 rfl iS fun _ _ _ _ _ _ _ _ _=>rfl) (all_cons (Ey 2 154 X G a34 rfl jY fun _ _ _ _ _ _ _ _=>rfl) (all_cons (Ey 2 38 X G a35 rfl jX fun _ _ _ _ _ _ _ _=>rfl) (all_cons (Kc 1 169 X G a36 rfl jW fun _ _ _ _ _ _ _=>rfl) (all_cons (Ey 2 157 X G a37 rfl jV fun _ _ _ _ _ _ _ _=>rfl) (all_cons (Ey 2 158 X G a38 rfl jU fun _ _ _ _ _ _ _ _=>rfl) (all_cons (Ey 2 160 X G a39 rfl jT fun _ _ _ _ _ _ _ _=>rfl) (all_cons (Ey 2 161 X G a40 rfl jS fun _ _ _ _ _ _ _ _=>rfl) (all_cons (FM 3 162 X G a41 rfl jR fun _ _ _ _ _ _ _ _ _=>rfl) (all_cons (Kc 1 164 X G a42 rfl jQ fun _ _ _ _ _ _ _=>rfl) (all_cons (Q5 4 165 X G a43 rfl jP fun _ _ _ _ _ _ _ _ _ _=>rfl) (all_cons (Ey 2 171 X G a44 rfl jO fun _ _ _ _ _ _ _ _=>rfl) (all_cons (FM 3 166 X G a45 rfl jN fun _ _ _ _ _ _ _ _ _=>rfl) (all_cons (FM 3 173 X G a46 rfl jM fun _ _ _ _ _ _ _ _ _=>rfl) (all_cons (FM 3 174 X G a47 rfl jL fun _ _ _ _ _ _ _ _ _=>rfl) (all_cons (Kc 1 175 X G ⟨_,F,e⟩ rfl UB fun _ _ _ _ _ _ _=>rfl) (Pp)))))))))))))))))))))))))))))))))))))))))))))))))⟩
  exact⟨_,fun s v=>.of_eq rfl,fun base _ _=>jZ (UD T (PH T 10) F rfl UB) xT⟩
theorem walk42{q:A8}{loose:Ac Al}{XP:(Al->Av Ai)->AS->Prop}{YP:AN->AS->Prop}{d:DefRec}{K:Lo->Fg}(hn:l.most=Ab 63)(hdf:d.params.defaults=[])(hY:∀(w:AN)(h:AS),YP w h->(K w.params).In h)(F:∀(w:AN)(mg:Al->Av Ai)(fa:Ak)(h:AS),(K w.params).In h->h.Ns Bj mg->mg d.name=Ab (.ref fa) ->
   ∃ fd:CO,(∀(s:Ap)(u:Ai),Hr s fd ⟨[u],[]⟩ [("_law_script", u)])/\∀ base:AS,(K w.params).In base->base.Ns Bj mg->FnOk l.prog w (K w.params) mg base (CXR l.prog w) 11 fa fd ["_law_script"] (Mb (K w.params))):XO q loose XP YP l.row.toRowW d [] (fun f vs=>Ko f vs):=
 L2.walk_of (n:=63) (k:=11) (x := "_law_script") (CX:=fun w=>CXR l.prog w) (sp:=fun w=>Mb (K w.params)) hn (by decide) hdf ⟨rfl,by decide,by decide⟩ hY F (fun _ H a ns hl _ hS=>⟨a,ns,rfl,hl,hS,fun _ _ z=>z⟩) fun _ _ _ _ _ z=>rE z
end OvC
open PySem PySem.W PyProof.Rows
noncomputable def OvC.view42:PySem.Program:={ PySem.Challenge.pw_ovalfield_k42_whole_any_curve with main:={PySem.Challenge.pw_ovalfield_k42_whole_any_curve.main with body:=[OvC.tp42 1,OvC.tp42 2,OvC.tp42 3,OvC.tp42 4,OvC.tp42 5,OvC.tp42 6,OvC.tp42 7,OvC.tp42 8,OvC.tp42 9,OvC.tp42 11,OvC.tp42 12,OvC.tp42 14,OvC.tp42 15,OvC.tp42 16,OvC.tp42 18,OvC.tp42 19,OvC.tp42 20,OvC.tp42 21,OvC.tp42 22,OvC.tp42 23,OvC.tp42 25,OvC.tp42 26,OvC.tp42 27,OvC.tp42 28,OvC.tp42 29,OvC.tp42 30,OvC.tp42 31,OvC.tp42 33,OvC.tp42 34,OvC.tp42 35,OvC.tp42 36,OvC.tp42 37,OvC.tp42 38,OvC.tp42 40,OvC.tp42 41,OvC.tp42 42,OvC.tp42 44,OvC.tp42 45,OvC.tp42 46,OvC.tp42 48,OvC.tp42 49,OvC.tp42 51,OvC.tp42 52,OvC.tp42 53,OvC.tp42 55,OvC.tp42 56,OvC.tp42 57,OvC.tp42 58,OvC.tp42 59,OvC.tp42 60,OvC.tp42 61,OvC.tp42 62,OvC.tp42 63,OvC.tp42 64,OvC.tp42 65,OvC.tp42 66,OvC.tp42 67,OvC.tp42 68]} }
set_option hygiene false
local macro_rules | `(tactic| o_head $H)=>`(tactic| refine holds_open (q:=OvC.view42) (loose:=[]) (Xt:=fun s=>xlAt OvC.view42 [] s&&recOk (RowW.records (OpenRow.toRowW (PySem.Challenge.rw_ovalfield_k42_whole_any_curve.row))) s) (XP:=XL OvC.view42 []) (Yf:=Hook.obs $H) (Ya:=Hook.val $H) (YP:=Hook.says $H) (N:=7096) ?hl (Hook.of $H) (Hook.keeps $H) (fun s e=>xl_of s (Bool.and_eq_true_iff.mp e).1) XL.keeps (by rfl) (by rfl) (by rfl) (fun s e=>recFacts_of (Bool.and_eq_true_iff.mp e).2) (by rfl) (by first|assumption|decide +kernel) (by decide +kernel) ⟨rfl,rfl,rfl,rfl,rfl,by decide +kernel⟩ ?hw ?hc)
set_option maxRecDepth 100000 in
set_option maxHeartbeats 0 in
noncomputable def OvC.hold42:OvC.Eleven PySem.Challenge.rw_ovalfield_k42_whole_any_curve.Holds:=by
 refine' ⟨_,_,_,_,_,_,_,_,_,_,_,_,_,_,_,_,_,_,_,_,_,_,_,_,_,_,_,_,_,_,_,_,_,fun g1 g2 g3 g4 g5 g6 g7 g8 g9 g10 g11=>_⟩
 rotate_right
 w_on;refine holds_law (by decide +kernel) fun said=>?_;k_head
 (case hl=>intro w;refine OvC.map_pair ?p1 (OvC.map_take 100 ?p2 ?p3);(case p1=>rw[PySem.W.Fast.te4187177175401517315];unfold PySem.W.Fast.tw4187177175401517315 openGood;refine OvC.map_pair ?q1 (OvC.map_pair ?q2 (OvC.map_pair ?q3 (OvC.map_pair ?q4 (OvC.map_pair ?q5 (OvC.map_pair ?q6 (OvC.map_pair ?q7 (OvC.map_pair ?q8 ?q9)))))));(case q1=>unfold EO De Ff;rw[Be,Bh,Bi,Bg,Bf];exact g1 w);(case q2=>unfold EO De Ff;rw[Be,Bh,Bi,Bg,Bf];exact g2 w);(case q3=>unfold EO De Ff;rw[Be,Bh,Bi,Bg,Bf];exact g3 w);(case q4=>unfold EO De Ff;rw[Be,Bh,Bi,Bg,Bf];exact g4 w);(case q5=>unfold EO De Ff;rw[Be,Bh,Bi,Bg,Bf];exact g5 w);(case q6=>unfold EO De Ff;rw[Be,Bh,Bi,Bg,Bf];exact g6 w);(case q7=>unfold EO De Ff;rw[Be,Bh,Bi,Bg,Bf];exact g7 w);(case q8=>unfold EO De Ff;rw[Be,Bh,Bi,Bg,Bf];exact g8 w);(case q9=>unfold EO De Ff;rw[Be,Bh,Bi,Bg,Bf];exact g9 w);skip);(case p2=>unfold EO De Ff;rw[Be,Bh,Bi,Bg,Bf];exact g10 w);(case p3=>unfold EO De Ff;rw[Be,Bh,Bi,Bg,Bf];exact g11 w))
 (case hw=>w_witness2)
 k_fill
 refine OvC.walk42 (l:=PySem.Challenge.rw_ovalfield_k42_whole_any_curve) rfl rfl (fun w h Y=>XS Y) ?F
 case F=>
  intro w mg fa h KX G hmg
  refine' OvC.all42 KX G hmg ?a0 ?a1 ?a2 ?a3 ?a4 ?a5 ?a6 ?a7 ?a8 ?a9 ?a10 ?a11 ?a12 ?a13 ?a14 ?a15 ?a16 ?a17 ?a18 ?a19 ?a20 ?a21 ?a22 ?a23 ?a24 ?a25 ?a26 ?a27 ?a28 ?a29 ?a30 ?a31 ?a32 ?a33 ?a34 ?a35 ?a36 ?a37 ?a38 ?a39 ?a40 ?a41 ?a42 ?a43 ?a44 ?a45 ?a46 ?a47 ?a48 ?z0 ?z1 ?z2 ?z3 ?z4 ?z5 ?z6 ?z7 ?z8 ?z9 ?z10 ?z11 ?z12 ?z13 ?z14 ?z15
  case a0|a1|a2|a3|a4|a5|a6|a7|a8|a9|a10|a11|a12|a13|a14|a15|a16|a17|a18|a19|a20|a21|a22|a23|a24|a25|a26|a27|a28|a29|a30|a31|a32|a33|a34|a35|a36|a37|a38|a39|a40|a41|a42|a43|a44|a45|a46|a47|a48=>(refine' Ov.fni ?a ?l ?c ?k;(case a=>k_is);(case l=>k_is);(case c=>k_is);(case k=>k_is))
  (case z0=>k_is)
  (case z1=>k_is)
  (case z2=>k_is)
  (case z3=>k_is)
  (case z4=>k_is)
  (case z5=>k_is)
  (case z6=>k_is)
  (case z7=>k_is)
  (case z8=>k_is)
  (case z9=>k_is)
  (case z10=>k_is)
  (case z11=>k_is)
  (case z12=>k_is)
  (case z13=>k_is)
  (case z14=>k_is)
  (case z15=>k_is)
theorem OvC.reck42_1(w:AN):OvC.hold42.l1 w=OvC.hold42.r1 w:=by kernel_rfl
theorem OvC.reck42_2(w:AN):OvC.hold42.l2 w=OvC.hold42.r2 w:=by kernel_rfl
theorem OvC.reck42_3(w:AN):OvC.hold42.l3 w=OvC.hold42.r3 w:=by kernel_rfl
theorem OvC.reck42_4(w:AN):OvC.hold42.l4 w=OvC.hold42.r4 w:=by kernel_rfl
theorem OvC.reck42_5(w:AN):OvC.hold42.l5 w=OvC.hold42.r5 w:=by kernel_rfl
theorem OvC.reck42_6(w:AN):OvC.hold42.l6 w=OvC.hold42.r6 w:=by kernel_rfl
theorem OvC.reck42_7(w:AN):OvC.hold42.l7 w=OvC.hold42.r7 w:=by kernel_rfl
theorem OvC.reck42_8(w:AN):OvC.hold42.l8 w=OvC.hold42.r8 w:=by kernel_rfl
theorem OvC.reck42_9(w:AN):OvC.hold42.l9 w=OvC.hold42.r9 w:=by kernel_rfl
theorem OvC.reck42_10(w:AN):OvC.hold42.l10 w=OvC.hold42.r10 w:=by kernel_rfl
theorem OvC.reck42_11(w:AN):OvC.hold42.l11 w=OvC.hold42.r11 w:=by kernel_rfl
theorem PySem.Challenge.cw_ovalfield_k42_whole_any_curve_holds : PySem.Challenge.rw_ovalfield_k42_whole_any_curve.Holds := by
 exact OvC.hold42.go OvC.reck42_1 OvC.reck42_2 OvC.reck42_3 OvC.reck42_4 OvC.reck42_5 OvC.reck42_6 OvC.reck42_7 OvC.reck42_8 OvC.reck42_9 OvC.reck42_10 OvC.reck42_11
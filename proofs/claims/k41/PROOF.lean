import PyProof.Rows.All
import Wide.All
import OpenK.AllK
import Wide.FinOn
import PyProof.EqAt
import KE.KSortTup
import PyProof.EqKinds
import PyProof.TupleCall
import Lean
import PySem.Challenge.RW_ovalfield_k41_kinds_as_built
set_option Elab.async false
set_option linter.all false
set_option maxRecDepth 100000
set_option maxHeartbeats 4000000
open Bool renaming true→Aa,false→Ae,and_eq_true→Am,not_eq_true'→BJ,eq_iff_iff→Cy,false_ne_true→Dc,or_eq_true→Ds,false_eq_true→EV,and_false→FT,and_true→Wu,or_false→Wv
open Option renaming some→Ab,none→Af,bind_eq_some_iff→Bp,map_some→E0,map→Gz,getD_none→Xg,isSome_iff_exists→Xh
open _root_ renaming List→Ac,Int→Ad,Nat→Ag,Bool→Ap,Option→Au,if_pos→AD,if_neg→AH,decide_eq_true_eq→AI,Array→AM,False→BF,beq_iff_eq→BN,or_false→Cj,decide_eq_false_iff_not→Cw,decide_eq_false→CF,String→DM,beq_eq_false_iff_ne→DN,beq_self_eq_true→DX,not_or→El,of_decide_eq_true→Em,decide_eq_decide→EI,decide_eq_true→Ff,if_false→Gi,Decidable→Gj,beq_false_of_ne→GL,if_true→HE,True→IX,Unit→JV,bne_iff_ne→KA
open PySem renaming wpAny_bind→Ah,Value→Ai,Addr→Ak,Str→Al,Shared→Aq,Expr→Ar,wpAny_pure→As,wpAny→Ax,starEach→AG,World→AJ,Heap→AQ,Program→A5,Pos→A8,mainGlobals→Bg,wpAny_field→Bu,Around→Bv,wpAny_seqItems→Bx,wpAny_holding→BQ,wpAny_newObj_type→B8,Stmt→Ca,wpAny_setField_rec→Cc,cLine→Cf,wpAny_callSpecial?_slot→Ck,wpAny_truthy_bool→Ct,binaryOp→Cv,Env→CA,assignEach→CC,wpAny_call_entry→CH,wpAny_mono→CK,Scope→CP,codeAny_builtin→CQ,sizeLine_eq→CS,wpAny_updateSeq→CT,backTo→CV,FuncData→CW,plainId_quiet→C0,wpAny_letGo→C2,compareOp→C4,mem_of_lookup→C5,rawInt→C9,bootBuiltins→Dh,foldedSetIterable→Dr,cellsFrom→Dy,Obj→Dz,Tok→DG,wpAny_onRaise→DK,codeAny→DU,wpAny_tryCatch→DV,swapsWith→D6,wpAny_pyIter_tuple→D7,swappedStores→Ed,pyNext→Ej,wpAny_pyIter_list→Ek,NameKind→ED,IsPair→Fb,wpAny_rule→Fi,wpAny_attempt→Fs,Keyword→Ft,sliceBounds→Fv,CmpOp→FH,wpAny_passesOwn→FI,swapsWithSole→F9,wpAny_eqBool_int→Gb,PassesOwn→Gn,IsZip→GB,letOwnedTupleGo→GH,wpAny_updateSeq_pair→GI,wpAny_newTuple→GU,pushCells→Hd,updateSeq→He,wpAny_Call_Name_kw→Hf,Sem→Hg,attributeBase→Hh,behindInMarks→Hi,wpAny_standAt→Hj,BindsTo→Hy,callerA→Hz,standAt→HA,IsPart→HM,Operator→HN,Paired→HP,pushCells_keeps→Ip,wpAny_specialOf→Iq,keywordEach→Ix,wpAny_of_eq→Iy,isTrue→IN,newFunctionEnv→IP,notedBy→IQ,bindC→IT,bindL→IU,builtinsNs→IV,numAt→IW,callType_new→Jw,codeAny_mono→Jx,concat_meets→Jy,lastMarks→Jz,preSum→JA,seqIndex_neg→JB,getItem→JN,setItem→JO,richCompare→JS,seqIndex_of→JT,backToKw→JU,Meets→Kl,Model→Km,Result→Kn,Walks→Kq,call→Kt,call_meets→Ku,pyIter→Kv,sysModules→Kw,typeIs_int→Kx,typeLookup→Ky,wpAny_Name→Kz,GenState→Lw,IntMulOk→Lz,Params→LD,bindArgs→LG,intItems→LH,newTuple→LI,builtinLookup_eq_fast→Yd,call_function_tree→Ye,call_sum_walkG→Yg,checkBuiltinCall→Yh,firstArgMember→Yi,isSubtype_stop→Yj,noFill_tuple_add→Yk,recursionLimit→Yl,richCompare_meets_room→Ym,slot_list_getitem→Yn,typeLookup_type→Yo,wpAny_assign_Name→Yp,wpAny_comprehension_free→Yq,wpAny_execs_nil→Yr,wpAny_forIn_list→Ys,wpAny_isInstance→Yt,wpAny_pyIter_enum→Yu,wpAny_pyIter_zip→Yv,wpAny_pyNext_list_end→Yw,wpAny_pyNext_list_item→Yx,wpAny_setField→Yy
open PySem.Heap renaming get?_push_of_some→Ao,get?_push_size→Aw,lt_size→AC,size_push→Bi,get?_update_other→Bk,get?_update_self→Ce,SameBut→Fa,get?_push_ne→F0,size_update→HL,ExtBut→Iu,FlyingW→XQ,MadeExcOf→XR,get?_none_of_le→XU,get?_push_cases→XV
open List renaming mem_cons_of_mem→Av,mem_cons→Ay,mem_cons_self→AB,size_toArray→AE,mem_filter→AR,getElem?_eq_getElem→AU,getD_eq_getElem?_getD→A2,not_mem_nil→A3,getElem?_eq_some_iff→A6,range→Bl,length_set→Bz,toArray→BA,mem_append_right→BH,mem_singleton→BK,length_map→BR,nodup_cons→B5,lookup_cons→B6,map_cons→Ch,length_cons→Cp,length_append→Cz,mem_map→CZ,all_eq_true→Dd,getElem?_set_self→Dt,append_nil→DD,mem_of_getElem?→DE,filter_cons→DO,forIn_nil→DP,mem_range→DQ,forIn_cons→Ea,getElem?_map→Eg,isEmpty_eq_false_iff→Ep,pairwise_iff_getElem→Er,zipWith→Ez,map_congr_left→EJ,getElem?_cons_succ→EL,getElem?_cons_zero→EM,all_cons→EU,pairwise_cons→EX,replicate→E6,getElem_mem→Fh,drop_eq_getElem_cons→FC,getElem?_append_left→FD,map_map→FK,getElem?_set_self'→FV,filter_congr→FY,zipIdx_cons→Ga,length_replicate→Gk,getElem?_of_mem→Gr,getElem?_set_ne→Gs,map_nil→Gu,zipIdx_nil→Gv,filterMap_cons→GN,getElem_of_mem→GO,zip_cons_cons→Hb,getElem?_set→Hv,isEmpty_iff→HG,length_take→HH,mem_append→Ik,of_mem_zip→Il,range'→Ir,map→Ls,all_map→WH,any_cons→WI,any_eq_true→WJ,contains_eq_mem→WK,drop_eq_nil_of_le→WL,ext_getElem→WM,ext_getElem?→WN,foldl_cons→WO,getElem?_append_right→WP,getElem?_replicate→WQ,getElem?_toArray→WR,length→WS,length_drop→WT,length_erase_of_mem→WU,length_singleton→WV,lookup→WW,lookup_cons_self→WX,mem_append_left→WY,mem_erase_of_ne→WZ,mem_filterMap→W1,nodup_nil→W2,pairwise_singleton→W3,range_succ_eq_map→W5,replicate_succ→W6,reverse_cons→W7,set_set→W8,take_append_drop→W9
open Nat renaming lt_of_lt_of_le→Az,le_refl→AS,ne_of_lt→AT,lt_irrefl→Bw,le_trans→BD,lt_of_le_of_lt→BX,ne_of_gt→Cm,lt_succ_of_lt→C3,zero_le→Di,le_of_lt→D4,le_of_lt_succ→Eh,ble→Ey,le_add_right→EA,lt_succ_self→EB,lt_of_le_of_ne→EY,not_lt→EZ,ble_eq_true_of_le→E7,le_of_ble_eq_true→E8,not_lt_zero→FE,lt_trans→FM,pow_le_pow_right→Gw,add_le_add_left→GP,le_succ→Ha,le_of_eq→HI,le_antisymm→Im,one_pos→JR,sub_le→Kh,sub_lt→Kj,add_sub_cancel'→Xa,le_of_sub_eq_zero→Xb,le_pred_of_lt→Xc,min_self→Xd,sub_lt_sub_right→Xe,zero_add→Xf
open PySem.Str renaming ofString→AK
open Int renaming emod_eq_of_lt→AO,emod_emod_of_dvd→AV,mul_emod→AW,emod_lt_of_pos→A4,zero_emod→A7,emod_nonneg→Be,dvd_refl→By,mul_comm→BS,one_mul→CG,mul_zero→DC,mul_one→DY,add_mul_emod_self_left→Fp,zero_add→FJ,mul_assoc→F8,zero_mul→Gq,toNat_natCast→Hu,sub_emod→Jp,le_refl→JP,mul_pos→JQ,add_emod→Wy,dvd_neg→Wz,dvd_of_emod_eq_zero→WA,emod_eq_zero_of_dvd→WB,le_trans→WC,mul_sub→WD,sub_add_cancel→WE,sub_self→WF,sub_zero→WG
open PySem.Builtin.SmallTypes renaming nextOf→AX,ownedTupleIsFree→AZ,ownedTupleHandOut→De
open PySem.W.Fast renaming te10274390034422433532→A9,te14082659384304107361→Ba,te14289696077712309145→Bb,te14364793385576792824→Bc,te1435165496053646825→Bf
open PySem.Obj renaming mapSeq→Br,data_mapFields→XY
open Prod renaming ext→Bs
open PySem.W renaming mg_none_of→BE,nsIn→Cb,fencedOpening→Dj,keepIn→DT,fnOf→EE,hideAll_get→EK,openEnds→E1,topFrom→Fu,OpenLaw→F7,kasC_bind→Go,hideAll→GD,hideAll_none→GE,codeIn→GS,of_hideAll→Hc,methodObj→Hw,findIn→IM,kas_item→IS,mg_of→Jn,kasC_pure→Jt,kas_count→Ju,kas_st→Jv,kas_rev→KB,kasC_cons→Lr,kasC_get→LF,WalkO→X6,cellsFrom_some→X7,funFrames_hide→X8,kIn_of→X9,kitOne→Yb,subIn→Yc
open PyProof.Rows renaming callWith_type1→BM,seqObj→Cu,IntsAre→Db,envOfC→Fq,AllBare→FU,boot_tuple→FW,boot_list→F5,failedOf→GR,Call_→Hx,arrOf→IR,IsTup→JM,boot_range→Kk,pendingOf→Lo,sortRuns'→Lp,SortSt→Lu,boot_min→Xi,boot_zip→Xj,callWith_builtin1→Xk,slicePart_none→Xl,slot_tuple_getitem→Xm,subscriptTail_builtinR→Xn
open Option.some renaming inj→BU,injEq→Cs
open Array renaming getElem?_eq_getElem→B4,length_toList→CJ,getD_eq_getD_getElem?→D0,getElem?_toList→D9,toArray_toList→Gp,getElem?_push→GM,toList_inj→HF,toList→Jo,forIn_toList→Wq,getD→Wr,getElem?_eq_some_iff→Ws,size_push→Wt
open PySem.Around renaming under_plainId→B9
open PySem.NameKind renaming cell→Ci,free→Ec
open PySem.F renaming slot_zip_next→CB,plain_max_loop→DR,plain_min_loop→DS,slot_tuple_iterator_next→Eb,args_zip_next_1→Ei,entry_zip_next→EC,slot_list_extend→E9,plain_extend_loop→Fw,plainAttrs_list→FX,entry_max_loop→HJ,entry_min_loop→HK,args_list_extend_2→Xy,args_object_init_2→Xz,args_tuple_add_2→XA,args_tuple_iterator_next_1→XB,called_zip→XC,entry_extend_loop→XD,entry_list_extend→XE,entry_tuple_add→XF,entry_tuple_iterator_next→XG,entry_zip_new→XH,plain_list_iadd→XI,plain_tuple_new→XJ,slot_tuple_add→XM,slot_zip_iter→XN,type_list_extend→XO
open Ne renaming symm→C1
open PySem.Builtin.Tuple renaming tupleExact→Dg,tupleCompareSizes→Xv
open PySem.Value renaming none→Dk,type→DZ,ref→D5,int→Io,bool→X2,str→X3
open PySem.Builtin.List renaming listTooLong→DF,listExtendWith→Xr,listSameRef→Xs
open Classical renaming byContradiction→En,choose_spec→E5,choose→Ww
open False renaming elim→Eo
open PySem.Builtin.Slice renaming slicePlaces→Et,sliceAdjust→FF,sliceApplied→Xu
open ForInStep renaming yield→EW
open PySem.AutoSeq1 renaming sub_tuple_tuple→FN,wpAny_loadPart'→Xo
open PySem.Calls renaming spliced_cons→FO,spliced_nil→FZ,Name_function_global→Xx
open PySem.Shared renaming heap→F6
open PyProof.Rows.SortSt renaming mk'→GA
open PySem.SeqAt renaming EqAt→GC,RcNeAt→Js,RcAt→Ko
open PySem.Heap.SameBut renaming update→GQ,refl→XS
open Sum renaming inl→HB,inr→HC
open List.cons renaming injEq→Ii
open PySem.Walks renaming tuple→Iw,list→Ks
open List.Perm renaming cons→IL
open Nat.succ renaming inj→Jq
open PyProof.Rows.IsTup renaming new→Jr
open NeZero renaming ne→Ln
open PySem.Data renaming cell→Lq,seq→Lv
open Function renaming comp_def→Wx
open PySem.Builtin.Builtins renaming bindParams→Xp
open PySem.Builtin.Int renaming intBits→Xq
open PySem.IsRange renaming new→XX
open PySem.Paired renaming length→XZ
open PySem.SeqAt.EqAt renaming of_refs→X0,same→X1
open PySem.W.WData renaming int→X4
open PySem.W.WShape renaming has→X5
abbrev Fg:=PySem.W.Frag
abbrev Pn:=Ac (PySem.Addr×PySem.Obj)
abbrev Vq:=PySem.Value->PySem.Shared->Prop
set_option genSizeOfSpec false
-- CHANGE: your row's module here,as the last of these rows
namespace L2
open PySem PySem.Spec PyProof.Rows
abbrev Key:=Sum Ad Al
noncomputable def VP:Key->Ai->Ap
 |.inl k,v=>Value.isInt k v
 |.inr x,v=>Value.isStrOf x v
noncomputable def YH(w:AJ):Key->Ad
 |.inl k=>hashInt k
 |.inr x=>hashStr w x
theorem Ja:∀{k:Key}{v:Ai},VP k v=Aa->(∃ i t,k=HB i/\v=Io i t)\/(∃ x t,k=HC x/\v=X3 x t)
 |.inl i,v,h=>by
  obtain⟨t,e⟩:=Value.isInt_shape (k:=i) (v:=v) h;exact .inl ⟨i,t,rfl,e⟩
 |.inr x,v,h=>by
  obtain⟨t,e⟩:=Value.isStrOf_shape (x:=x) (v:=v) h;exact .inr ⟨x,t,rfl,e⟩
theorem qJ(a b:Ad):decide ((HB a:Key)=HB b)=(a==b):=by
 by_cases e:a=b
 ·subst e;simp
 ·have h:¬ (HB a:Key)=HB b:=fun q=>e (Sum.inl.inj q)
  rw[CF h];exact(DN.mpr e).symm
theorem qG(a b:Al):decide ((HC a:Key)=HC b)=decide (a=b):=by
 by_cases e:a=b
 ·subst e;simp
 ·have h:¬ (HC a:Key)=HC b:=fun q=>e (Sum.inr.inj q)
  rw[CF h,CF e]
theorem qI(a:Ad)(b:Al):decide ((HB a:Key)=HC b)=Ae:=CF (fun q=>nomatch q)
theorem qH(a:Al)(b:Ad):decide ((HC a:Key)=HB b)=Ae:=CF (fun q=>nomatch q)
noncomputable def Pj(prog:A5)(w:AJ):PySem.KeyKind prog w Key where
 is:=VP
 hash:=YH w
 inj:=fun v a b ha hb=>by
  rcases Ja ha with ⟨i,t,rfl,rfl⟩|⟨x,t,rfl,rfl⟩
  ·rcases Ja hb with ⟨j,u,rfl,e⟩|⟨y,u,rfl,e⟩
   ·injection e with e1 _;rw[e1]
   ·exact nomatch e
  ·rcases Ja hb with ⟨j,u,rfl,e⟩|⟨y,u,rfl,e⟩
   ·exact nomatch e
   ·injection e with e1 _;rw[e1]
 byValue:=fun k v h=>by
  rcases Ja h with ⟨i,t,rfl,rfl⟩|⟨x,t,rfl,rfl⟩<;>rfl
 pyHash:=fun hv h=>by
  rcases Ja hv with ⟨i,t,rfl,rfl⟩|⟨x,t,rfl,rfl⟩
  ·exact wpAny_pyHash_int h
  ·exact wpAny_pyHash_str h
 eqBool:=fun hu hv h=>by
  rcases Ja hu with ⟨i,t,rfl,rfl⟩|⟨x,t,rfl,rfl⟩
  ·rcases Ja hv with ⟨j,u,rfl,rfl⟩|⟨y,u,rfl,rfl⟩
   ·rw[qJ]at h;exact Gb h
   ·rw[qI]at h;exact SeqAt.EqAt.int_str i t y u _ _ _ _ h
  ·rcases Ja hv with ⟨j,u,rfl,rfl⟩|⟨y,u,rfl,rfl⟩
   ·rw[qH]at h;exact SeqAt.EqAt.str_int x t j u _ _ _ _ h
   ·rw[qG]at h;exact wpAny_eqBool_str h
 «strs»:=fun k x t v h=>by
  rcases Ja h with ⟨i,u,rfl,e⟩|⟨y,u,rfl,e⟩
  ·exact nomatch e
  ·injection e with e1 _
   subst e1;cases v<;>rfl
end L2
namespace L2
open PySem PySem.Spec PyProof.Rows
variable{us:Ac Ai}{a b it:Ak}{P:A5}{h:AQ}{o:Dz}{g':AM Lw}{t' i k n:Ag}{d':Drawn}{ch fp:Ac Ak}{x qual:Al}{M:Km}{u:Ai}{Q:JV->Aq->Prop}{e tg:Ar}{s:Aq}{pos p:A8}{pI:Pn}{es:Ac Ar}{body:Ac Ca}{f:Ai->Ai->Hg Ai}{g:Ad->Ad->Ad}{op:FH}{fd:CW}{ps:Ac Al}{scope:CP}
inductive V where
 |non|bl (b:Ap)|int (i:Ad)|str (x:Al)|byt (b:AM UInt8)|flt (b:UInt64)|ref (a:Ak)|ty (n:DM)
 deriving DecidableEq
variable{xs vs:Ac V}{v:V}
def BZ:V->Ai->Prop
 |.non,u=>u=Dk
 |.bl b,u=>u=X2 b
 |.int i,u=>∃ t,u=Io i t
 |.str x,u=>∃ t,u=X3 x t
 |.byt b,u=>∃ t,u=Value.bytes b t
 |.flt b,u=>∃ t,u=Value.float b t
 |.ref a,u=>u=D5 a
 |.ty n,u=>u=DZ n
noncomputable abbrev Bq:Ac V->Ac Ai->Prop:=HP BZ
theorem Bq.length(r:Bq xs us):xs.length=us.length:=XZ r
theorem Bq.get:∀{xs:Ac V}{us:Ac Ai}{i:Ag}{x:V},Bq xs us->xs[i]?=Ab x->∃ u,us[i]?=Ab u/\BZ x u
 |_,_,_,_,.nil,e=>by simp at e
 |_,_,0,_,.cons r _,e=>by simp at e;subst e;exact⟨_,rfl,r⟩
 |_,_,i+1,x,.cons _ t,e=>by
  obtain⟨u,h1,h2⟩:=Bq.get (i:=i) (x:=x) t (by simpa using e)
  exact⟨u,by simpa using h1,h2⟩
theorem Bq.set{x:V}{u:Ai}(r:BZ x u):∀{xs:Ac V}{us:Ac Ai}(i:Ag),Bq xs us->Bq (xs.set i x) (us.set i u)
 |_,_,_,.nil=>.nil
 |_,_,0,.cons _ t=>.cons r t
 |_,_,i+1,.cons q t=>.cons q (Bq.set r i t)
theorem Bq.append:∀{xs ys:Ac V}{us ws:Ac Ai},Bq xs us->Bq ys ws->Bq (xs++ys) (us++ws)
 |_,_,_,_,.nil,s=>s
 |_,_,_,_,.cons r t,s=>.cons r (Bq.append t s)
theorem Bq.take:∀{xs:Ac V}{us:Ac Ai}(n:Ag),Bq xs us->Bq (xs.take n) (us.take n)
 |_,_,0,_=>.nil
 |_,_,_+1,.nil=>.nil
 |_,_,n+1,.cons r t=>.cons r (Bq.take n t)
theorem Bq.drop:∀{xs:Ac V}{us:Ac Ai}(n:Ag),Bq xs us->Bq (xs.drop n) (us.drop n)
 |_,_,0,r=>r
 |_,_,_+1,.nil=>.nil
 |_,_,n+1,.cons _ t=>Bq.drop n t
def Rb:Au V->Au Ai->Prop
 |some v,Ab u=>BZ v u
 |none,Af=>IX
 |_,_=>BF
def KV{κ:Type}:Ac (κ×V)->Ac (κ×Ai)->Prop:=HP fun(p:κ×V)(q:κ×Ai)=>p.1=q.1/\BZ p.2 q.2
noncomputable def kV:Key->V
 |.inl i=>.int i
 |.inr x=>.str x
inductive HO where
 /-- a list -/
 |lst (xs:Ac V)
 /-- a tuple (never changes) -/
 |tup (xs:Ac V)
 /-- a dict whose keys are ints and texts;one whose keys are tuples of ints and texts (the empty one is both) -/
 |dK (kvs:Ac (Key×V))|dT (kvs:Ac (Ac Key×V))
 /-- a set of ints: its members,its size -/
 |set (S:Ad->Ap) (n:Ag)
 /-- an instance of the class at C,its dict at dx,its attributes -/
 |ins (C dx:Ak) (fs:Ac (Al×V))
 /-- the dict of the instance at x -/
 |own (x:Ak)
 /-- the dict of an exception -/
 |xd (fs:Ac (Al×V))
 /-- a bound method,f of x -/
 |met (f x:Ak)
 /-- a range object lo,lo+1,.. below hi -/
 |rng (lo hi:Ad)
 /-- a thing that is known to the object (the script;a dict while a loop walks it): read,never written while it is so -/
 |frz (o:Dz) (u:HO)
 /-- a code object's table -/
 |tbl (ps:AM Ai)
 /-- any other thing,by what is Aa of its one object (a def of one's own: SetO a S n:=HO.ext fun h=>..) -/
 |ext (φ:AQ->Prop)
abbrev Hp:=Ak->Au HO
variable{H:Hp}
noncomputable def upd(H:Hp)(a:Ak)(o:HO):Hp:=fun b=>if b=a then Ab o else H b
theorem HQ{o:HO}:upd H a o a=Ab o:=by unfold upd;rw[AD rfl]
theorem Dm{o:HO}(h:b≠a):upd H a o b=H b:=by unfold upd;rw[AH h]
theorem Gc{o:HO}(h:H a=Ab o)(h':H b=Af):a≠b:=by
 intro e;subst e;rw[h]at h';cases h'
section
variable(P:A5)(w:AJ)
def ObjOk(H:Hp)(h:AQ)(a:Ak):HO->Prop
  |.lst xs=>xs.length<=sizeLine/\∃(its:Ac Ai)(n:Ag),Bq xs its/\h.get? a=Ab { cls:=.type "list", data:=.seq its.toArray n }
  |.tup xs=>xs.length<=sizeLine/\∃ its:Ac Ai,Bq xs its/\JM h a its.toArray
  |.dK kvs=>kvs.length<=sizeLine/\(a==Kw)=Ae/\∃ vs,KV kvs vs/\h.DictOf (Pj P w) a vs
  |.dT kvs=>kvs.length<=sizeLine/\(a==Kw)=Ae/\∃ xs:Ac (Ac Key×Ak×Ai),
      HP (fun(p:Ac Key×V)(q:Ac Key×Ak×Ai)=>p.1=q.1/\H q.2.1=Ab (.tup (p.1.map kV))/\BZ p.2 q.2.2) kvs xs /\
      ∃ o es ep,h.get? a=Ab o/\o.ExactDict/\o.data=.dict es ep/\es.toList=xs.map (entryOfKey (tupleKind (Pj P w)))/\(xs.map (·.1)).Nodup
  |.set S n=>h.SetOf (intKind P w) a S n
  |.ins C dx fs=>H dx=Ab (.own a)/\fs.length<=1000/\dx≠a/\h.get? a=Ab (PySem.W.instObj C dx) /\
      ∃ mA,h.Ns1 dx mA/\(∀ f,Rb (fs.lookup f) (mA f))/\PySem.Within mA (fs.map (·.1))
  |.own _=>∃ o,h.get? a=Ab o
  |.xd fs=>∃ mA,h.Ns1 a mA/\∀ f,Rb (fs.lookup f) (mA f)
  |.rng lo hi=>∃ t u v,h.get? a=Ab { cls:=.type "range", data:=.fields #[.int lo t,.int hi u,.int 1 v] }
  |.frz o u=>h.get? a=Ab o/\ObjOk H h a u
  |.tbl ps=>h.get? a=Ab {cls:=.none,data:=.fields ps}
  |.met f x=>h.get? a=Ab (Hw (.ref f) (.ref x))
  |.ext φ=>φ h/\(∃ o,h.get? a=Ab o)/\∀ h1 h2:AQ,φ h1->(∀ o,h1.get? a=Ab o->h2.get? a=Ab o)->φ h2
def HOk(H:Hp)(h:AQ):Prop:=∀ a o,H a=Ab o->ObjOk P w H h a o
end
section
variable{P:A5}{w:AJ}{H H':Hp}{h h':AQ}{a:Ak}{o:HO}
theorem ObjOk.lt(x:ObjOk P w H h a o):a<h.objs.size:=by
 cases o with
 |lst xs=>obtain⟨_,_,_,_,e⟩:=x;exact AC e
 |tup xs=>obtain⟨_,_,_,p⟩:=x;exact p.lt
 |dK kvs=>obtain⟨_,_,_,_,o,_,_,e,_⟩:=x;exact AC e
 |dT kvs=>obtain⟨_,_,_,_,o,_,_,e,_⟩:=x;exact AC e
 |set S n=>obtain⟨o,_,_,_,e,_⟩:=x;exact AC e
 |ins C dx fs=>obtain⟨_,_,_,e,_⟩:=x;exact AC e
 |own y=>obtain⟨_,e⟩:=x;exact AC e
 |xd fs=>obtain⟨_,⟨_,_,_,e,_⟩,_⟩:=x;exact AC e
 |rng lo hi=>obtain⟨_,_,_,e⟩:=x;exact AC e
 |frz ob u=>obtain⟨e,_⟩:=x;exact AC e
 |tbl ps=>exact AC (show h.get? a=Ab _ from x)
 |met f y=>exact AC (show h.get? a=Ab _ from x)
 |ext φ=>obtain⟨_,⟨_,e⟩,_⟩:=x;exact AC e
theorem HP.mapP{α β:Type}{F G:α->β->Prop}:∀{l₁:Ac α}{l₂:Ac β},HP F l₁ l₂->(∀ a b,F a b->G a b)->HP G l₁ l₂
 |_,_,.nil,_=>.nil
 |_,_,.cons r t,f=>.cons (f _ _ r) (HP.mapP t f)
theorem ObjOk.stay(x:ObjOk P w H h a o)(k:∀ b u,(b=a\/H b=Ab (.own a))->h.get? b=Ab u->h'.get? b=Ab u)(ho:∀ b,H b=Ab (.own a)->H' b=Ab (.own a))(ht:∀ b xs,H b=Ab (.tup xs)->H' b=Ab (.tup xs)):ObjOk P w H' h' a o:=by
 induction o with
 |lst xs=>obtain⟨z,its,n,r,e⟩:=x;exact⟨z,its,n,r,k _ _ (.inl rfl) e⟩
 |tup xs=>obtain⟨z,its,r,ob,e,c⟩:=x;exact⟨z,its,r,ob,k _ _ (.inl rfl) e,c⟩
 |dK kvs=>obtain⟨z,y,vs,r,ob,es,ep,e,c⟩:=x;exact⟨z,y,vs,r,ob,es,ep,k _ _ (.inl rfl) e,c⟩
 |dT kvs=>
  obtain⟨z,y,xs,r,ob,es,ep,e,c⟩:=x;exact⟨z,y,xs,HP.mapP r fun p q z=>⟨z.1,ht _ _ z.2.1,z.2.2⟩,ob,es,ep,k _ _ (.inl rfl) e,c⟩
 |set S n=>obtain⟨ob,es,ep,t,e,c⟩:=x;exact⟨ob,es,ep,t,k _ _ (.inl rfl) e,c⟩
 |ins C dx fs=>
  obtain⟨d,z,ne,e,mA,⟨od,es,ep,e2,c⟩,r⟩:=x;exact⟨ho _ d,z,ne,k _ _ (.inl rfl) e,mA,⟨od,es,ep,k _ _ (.inr d) e2,c⟩,r⟩
 |own y=>obtain⟨ob,e⟩:=x;exact⟨ob,k _ _ (.inl rfl) e⟩
 |xd fs=>obtain⟨mA,⟨od,es,ep,e,c⟩,r⟩:=x;exact⟨mA,⟨od,es,ep,k _ _ (.inl rfl) e,c⟩,r⟩
 |rng lo hi=>obtain⟨t,u,v,e⟩:=x;exact⟨t,u,v,k _ _ (.inl rfl) e⟩
 |frz ob u ih=>obtain⟨e,q⟩:=x;exact⟨k _ _ (.inl rfl) e,ih q⟩
 |tbl ps=>
  have e:h.get? a=Ab {cls:=.none,data:=.fields ps}:=x;show h'.get? a=Ab {cls:=.none,data:=.fields ps};exact k a _ (.inl rfl) e
 |met f y=>
  have e:h.get? a=Ab (Hw (.ref f) (.ref y)):=x;show h'.get? a=Ab (Hw (.ref f) (.ref y));exact k a _ (.inl rfl) e
 |ext φ=>obtain⟨p,⟨o,e⟩,st⟩:=x;exact⟨st _ _ p fun o q=>k _ _ (.inl rfl) q,⟨o,k _ _ (.inl rfl) e⟩,st⟩
theorem HOk.lt(x:HOk P w H h)(e:H a=Ab o):a<h.objs.size:=(x a o e).lt
theorem HOk.fresh(x:HOk P w H h)(e:h.objs.size<=a):H a=Af:=by
 cases q:H a with
 |none=>rfl
 |some u=>exact absurd (Az (x.lt q) e) (Bw _)
theorem HOk.kept(x:HOk P w H h)(k:∀ b u,h.get? b=Ab u->h'.get? b=Ab u):HOk P w H h':=fun a o e=>
 (x a o e).stay (fun b u _ q=>k b u q) (fun _ q=>q) fun _ _ q=>q
theorem HOk.laid(x:HOk P w H h)(k:∀ b u,h.get? b=Ab u->h'.get? b=Ab u)(hp:h.objs.size<=a)(new:ObjOk P w (upd H a o) h' a o):HOk P w (upd H a o) h':=fun b u e=>by
 have hn:=x.fresh hp;by_cases hb:b=a
 ·subst hb;rw[HQ]at e;cases e;exact new
 ·rw[Dm hb]at e;exact(x b u e).stay (fun c v _ q=>k c v q) (fun c q=>by rw[Dm (Gc q hn)];exact q) fun c xs q=>by rw[Dm (Gc q hn)];exact q
end
def Rd(H:Hp)(a:Ak)(u:HO):Prop:=H a=Ab u\/∃ o,H a=Ab (.frz o u)
theorem Rd.ok{w:AJ}{u:HO}(r:Rd H a u)(x:HOk P w H h):ObjOk P w H h a u:=by
 rcases r with r|⟨o,r⟩
 ·exact x a u r
 ·obtain⟨_,q⟩:=x a _ r;exact q
def Mut:Au HO->Prop
 |some (.lst _)=>IX
 |some (.dK _)=>IX
 |some (.dT _)=>IX
 |some (.set _ _)=>IX
 |some (.ins _ _ _)=>IX
 |some (.ext _)=>IX
 |_=>BF
section
variable{P:A5}{w:AJ}{H:Hp}{h h':AQ}{x e:Ak}{o':HO}
theorem HOk.write(ok:HOk P w H h)(mu:Mut (H x))(he:e=x\/H e=Ab (.own x))(k:∀ b u,b≠e->h.get? b=Ab u->h'.get? b=Ab u)(heo:∃ u,h'.get? e=Ab u)(new:ObjOk P w (upd H x o') h' x o'):HOk P w (upd H x o') h':=fun b u q=>by
 have nown:∀ c y,H c=Ab (.own y)->c≠x:=fun c y r z=>by subst z;rw[r]at mu;exact mu
 have ntup:∀ c xs,H c=Ab (.tup xs)->c≠x:=fun c xs r z=>by subst z;rw[r]at mu;exact mu
 by_cases hb:b=x
 ·subst hb;rw[HQ]at q;cases q;exact new
 ·rw[Dm hb]at q;by_cases hbe:b=e
  ·have q':H b=Ab (.own x):=by
    rcases he with z|z
    ·exact absurd (hbe.trans z) hb
    ·rw[hbe];exact z
   rw[q]at q';cases q';obtain⟨v,hv⟩:=heo;exact⟨v,by rw[hbe];exact hv⟩
  ·refine(ok b u q).stay (fun c v hc r=>k c v ?_ r) (fun c r=>by rw[Dm (nown c b r)];exact r) fun c xs r=>by rw[Dm (ntup c xs r)];exact r
   rcases hc with rfl|hc
   ·exact hbe
   ·rintro rfl;rcases he with z|z
    ·exact nown c b hc z
    ·rw[hc]at z;cases z;exact hb rfl
end
structure Un (fs ex:Ac Ak) (H H':Hp) (h h':AQ):Prop where
 keep:∀ b o,h.get? b=Ab o->H b=Af->b∉fs->b∉ex->h'.get? b=Ab o
 slot:∀ b o,h.get? b=Ab o->H b=Af->b∈fs->b∉ex->∃ sl,h'.get? b=Ab {o with slots:=sl}
 free:∀ b o,h.get? b=Ab o->H b=Af->b∉ex->H' b=Af
 there:∀ b o,h.get? b=Ab o->b∉ex->∃ o',h'.get? b=Ab o'
 tups:∀ b xs,H b=Ab (.tup xs)->H' b=Ab (.tup xs)
 frzs:∀ b o u,H b=Ab (.frz o u)->H' b=Ab (.frz o u)
 tbls:∀ b ps,H b=Ab (.tbl ps)->∃ more,H' b=Ab (.tbl (ps++more))
section
variable{fs fs' ex ex':Ac Ak}{H H1 H2:Hp}{h h1 h2 h':AQ}{a x e:Ak}{o:HO}
theorem Un.any(u:Un fs ex H H1 h h1){ob:Dz}(q:h.get? b=Ab ob)(n:H b=Af)(hx:b∉ex):∃ sl,h1.get? b=Ab {ob with slots:=sl}:=by
 by_cases hb:b∈fs
 ·exact u.slot b ob q n hb hx
 ·exact⟨ob.slots,u.keep b ob q n hb hx⟩
theorem Un.kept(k:∀ b u,h.get? b=Ab u->h'.get? b=Ab u):Un fs ex H H h h':=
 ⟨fun b ob q _ _ _=>k b ob q,fun b ob q _ _ _=>⟨ob.slots,k b ob q⟩,fun _ _ _ n _=>n,fun b ob q _=>⟨ob,k b ob q⟩,fun _ _ q=>q,fun _ _ _ q=>q,fun _ ps q=>⟨#[],by rw[q];simp⟩⟩
theorem Un.refl:Un fs ex H H h h:=Un.kept fun _ _ q=>q
theorem Un.laid(k:∀ b u,h.get? b=Ab u->h'.get? b=Ab u)(hp:h.objs.size<=a)(hn:H a=Af):Un fs ex H (upd H a o) h h' where
 keep:=fun b u q _ _ _=>k b u q
 slot:=fun b u q _ _ _=>⟨u.slots,k b u q⟩
 free:=fun b u q n _=>by rw[Dm (AT (Az (AC q) hp))];exact n
 there:=fun b u q _=>⟨u,k b u q⟩
 tups:=fun b xs q=>by rw[Dm (Gc q hn)];exact q
 frzs:=fun b u xs q=>by rw[Dm (Gc q hn)];exact q
 tbls:=fun b ps q=>⟨#[],by rw[Dm (Gc q hn),q];simp⟩
theorem Un.write(mu:Mut (H x))(he:e=x\/H e=Ab (.own x))(k:∀ b u,b≠e->h.get? b=Ab u->h'.get? b=Ab u)(heo:∃ u,h'.get? e=Ab u):Un fs ex H (upd H x o) h h':=by
 have hx:∀ b,H b=Af->b≠x:=fun b n z=>by subst z;rw[n]at mu;exact mu
 have hb:∀ b,H b=Af->b≠e:=fun b n z=>by
  subst z;rcases he with r|r
  ·exact hx b n r
  ·rw[n]at r;cases r
 have hm:∀ b u,H b=Ab u->¬ Mut (Ab u)->b≠x:=fun b u q nm z=>by subst z;rw[q]at mu;exact nm mu
 refine⟨fun b u q n _ _=>k b u (hb b n) q,fun b u q n _ _=>⟨u.slots,k b u (hb b n) q⟩,fun b u q n _=>by rw[Dm (hx b n)];exact n,fun b u q _=>?_,
  fun b xs q=>by rw[Dm (hm b _ q fun z=>z)];exact q,fun b u xs q=>by rw[Dm (hm b _ q fun z=>z)];exact q,fun b ps q=>⟨#[],by rw[Dm (hm b _ q fun z=>z),q];simp⟩⟩
 by_cases hbe:b=e
 ·subst hbe;exact heo
 ·exact⟨u,k b u hbe q⟩
end
noncomputable def trk(h:AQ)(H:Hp):Ac Ak:=(Bl h.objs.size).filter fun a=>(H a).isSome
noncomputable def Jl(h:AQ)(H:Hp):AQ:=GD h (trk h H)
theorem Z7(h:AQ)(H:Hp):(Jl h H).objs.size=h.objs.size:=PySem.W.hideAll_size _ _
theorem cM(e:h.get? b=Ab o)(n:H b=Af):(Jl h H).get? b=Ab o:=
 EK _ e fun hm=>by
  have q:(H b).isSome=Aa:=(AR.mp hm).2;rw[n]at q;simp at q
theorem hV(e:(Jl h H).get? b=Ab o):h.get? b=Ab o/\H b=Af:=by
 have e':h.get? b=Ab o:=Hc (trk h H) e;refine⟨e',?_⟩;cases q:H b with
 |none=>rfl
 |some x=>
  have hm:b∈trk h H:=AR.mpr ⟨DQ.mpr (AC e'),by simp[q]⟩
  have z:(Jl h H).get? b=Af:=GE (trk h H) hm;rw[z]at e;cases e
noncomputable def mV(g h:AQ)(L:Ak):Pn:=(Bl h.objs.size).filterMap fun a=>if a=L\/(g.get? a).isSome=Aa then Af else (h.get? a).map fun o=>(a,o)
noncomputable def rest(g h:AQ)(L d:Ak):Pn:=(mV g h L).filter fun p=>decide (p.1≠d)
structure Mod (K:Fg) (mg:Al->Au Ai) (base:AQ):Prop where
 kin:K.In base
 glob:base.Ns Bg mg
 blt:∃ mb,base.Ns IV mb/\∀ x:Al,x≠"__name__"->mb x=Dh x
 nolimit:base.NoLimit
structure Cx where
 prog:A5
 w:AJ
 K:Fg
 mg:Al->Au Ai
 base:AQ
 A:Bv
 N:Ac Al
 s₀:Aq
 H₀:Hp
 env:CA
 outer:Ac CA
 stack:Ac CA
 ex:Ac Ak
 fn:Al->Ap
 calm:Ap
 pn:Pn
 xe:Ai->Aq->Prop
variable{X:Cx}
noncomputable def frs(l:Ac CA):Ac Ak:=l.filterMap (·.frame)
noncomputable abbrev Cx.fs(X:Cx):Ac Ak:=frs X.outer
def Vis(sc:CP)(x:Al):Prop:=sc.names.lookup x=Ab .local\/sc.names.lookup x=Ab .cell\/sc.names.lookup x=Ab .free
def Loc(sc:CP)(x:Al):Prop:=sc.names.lookup x=Ab .local\/sc.names.lookup x=Ab .cell
noncomputable def YD(env:CA)(h:AQ)(m:Al->Au Ai)(x:Al)(u:Ai):Prop:=
 (env.kindOf x=Ab .local/\m x=Ab u)\/((env.kindOf x=Ab .cell\/env.kindOf x=Ab .free)/\∃ c,env.cells.lookup x=Ab c/\h.IsCell c (Ab u))
structure Cx.Ok (X:Cx):Prop where
 mod:Mod X.K X.mg X.base
 kind:X.env.scope.kind=.function
 glob:X.env.globals=Bg
 blt:X.env.builtins=IV
 above:X.s₀.heap.objs.size<=X.env.locals
 inj:∀ x y c,X.env.cells.lookup x=Ab c->X.env.cells.lookup y=Ab c->x=y
 has:∀ x,(X.env.kindOf x=Ab .cell\/X.env.kindOf x=Ab .free)->∃ c,X.env.cells.lookup x=Ab c
 cab:∀ x c,X.fn x=Aa->X.env.cells.lookup x=Ab c->X.s₀.heap.objs.size<=c
 hd:X.calm=Aa->X.A.handled=Af
 frames:X.A.frames=Ab X.stack
 stk:X.stack=X.outer\/(X.stack=X.env::X.outer/\X.env.frame=Ab X.env.locals)
 exf:∀ b∈X.ex,b≠X.env.locals/\∀ x c,X.env.cells.lookup x=Ab c->c≠b
 bs:∀ b o,X.base.get? b=Ab o->X.s₀.heap.get? b=Ab o/\X.H₀ b=Af
 bsz:X.base.objs.size<=X.s₀.heap.objs.size
 noex:∀ b o,X.base.get? b=Ab o->b∉X.ex
 exfs:∀ b∈X.ex,b∉X.fs
 funs:X.s₀.heap.FunFrames X.base X.outer
 frf:∀ b∈X.fs,X.H₀ b=Af
structure Inv (X:Cx) (pI:Pn) (σ:Ac (Au V)) (H:Hp) (s:Aq):Prop where
 ok:X.Ok
 os:s.os=X.s₀.os
 bare:FU s.gens
 base:Un X.fs X.ex X.H₀ H X.s₀.heap s.heap
 loc:∃ m,s.heap.Ns X.env.locals m/\∀(i:Ag)(x:Al)(v:V),X.N[i]?=Ab x->σ[i]?=Ab (Ab v)->Vis X.env.scope x->∃ u,BZ v u/\YD X.env s.heap m x u
 cell:∀ x c,X.env.cells.lookup x=Ab c->∃ v,s.heap.IsCell c v
 free:H X.env.locals=Af
 freeC:∀ x c,X.env.cells.lookup x=Ab c->H c=Af
 pin:∀ p∈X.pn++pI,s.heap.get? p.1=Ab p.2/\H p.1=Af/\p.1≠X.env.locals/\p.1∉X.fs/\∀ v,p.2.data≠.cell v
 hok:HOk X.prog X.w H s.heap
 len:σ.length=X.N.length
section
variable{X:Cx}{pI:Pn}{σ:Ac (Au V)}{H H':Hp}{s:Aq}{h':AQ}
theorem Cx.Ok.nofr(ok:X.Ok)(e:X.base.get? b=Ab o):b∉X.fs:=fun hb=>by
 have:=(ok.funs.mem hb).1;rw[e]at this;cases this
theorem Inv.bs(I:Inv X pI σ H s):∀ b o,X.base.get? b=Ab o->s.heap.get? b=Ab o/\H b=Af:=fun b o e=>
 ⟨I.base.keep b o (I.ok.bs b o e).1 (I.ok.bs b o e).2 (I.ok.nofr e) (I.ok.noex b o e),I.base.free b o (I.ok.bs b o e).1 (I.ok.bs b o e).2 (I.ok.noex b o e)⟩
theorem Inv.bk(I:Inv X pI σ H s):∀ b o,X.base.get? b=Ab o->s.heap.get? b=Ab o:=fun b o e=>(I.bs b o e).1
theorem Inv.mod(I:Inv X pI σ H s):Mod X.K X.mg X.base:=I.ok.mod
theorem Inv.kIn(I:Inv X pI σ H s):X.K.In s.heap:=I.ok.mod.kin.keeps I.bk
theorem Inv.lt(I:Inv X pI σ H s):X.env.locals<s.heap.objs.size:=let ⟨_,hn,_⟩:=I.loc;hn.lt
theorem Inv.sz(I:Inv X pI σ H s):X.s₀.heap.objs.size<=s.heap.objs.size:=BD I.ok.above (D4 I.lt)
theorem Inv.nofs(I:Inv X pI σ H s)(h:s.heap.objs.size<=a):a∉X.fs:=fun hb=>by
 obtain⟨_,o,ho,_⟩:=I.ok.funs.mem hb;exact absurd (Az (AC ho) (BD I.sz h)) (Bw _)
theorem Inv.cne(I:Inv X pI σ H s):∀ x c,X.env.cells.lookup x=Ab c->c≠X.env.locals:=fun x c e z=>by
 obtain⟨v,o,ho,hd⟩:=I.cell x c e;obtain⟨m,⟨o',es,ep,ho',hd',_⟩,_⟩:=I.loc;rw[z,ho']at ho;cases ho;rw[hd']at hd;cases hd
theorem Inv.funs(I:Inv X pI σ H s):s.heap.FunFrames X.base X.outer:=by
 have all:∀(l:Ac CA),(∀ b∈frs l,b∈X.fs)->X.s₀.heap.FunFrames X.base l->s.heap.FunFrames X.base l:=by
  intro l
  induction l with
  |nil=>intro _ _;trivial
  |cons env r ih=>
   intro hs hl;obtain⟨hk,⟨L,o,hf,hn,ho,hd⟩,hr⟩:=hl;have hL:L∈X.fs:=hs L (by unfold frs;rw[GN,hf];exact AB)
   obtain⟨sl,e⟩:=I.base.slot L o ho (I.ok.frf L hL) hL fun z=>I.ok.exfs L z hL
   exact⟨hk,⟨L,_,hf,hn,e,hd⟩,ih (fun b hb=>hs b (by unfold frs;rw[GN,hf];exact Av _ hb)) hr⟩
 exact all X.outer (fun _ hb=>hb) I.ok.funs
theorem Inv.stack(I:Inv X pI σ H s):s.heap.FunFrames X.base X.stack:=by
 rcases I.ok.stk with e|⟨e,hf⟩
 ·rw[e];exact I.funs
 ·rw[e];obtain⟨m,hn,_⟩:=I.loc;refine .cons (by rw[I.ok.kind];decide) hf hn ?_ I.funs
  exact XU (BD I.ok.bsz I.ok.above)
theorem Inv.stkSub(I:Inv X pI σ H s):∀ b∈frs X.stack,b∈X.env.locals::X.fs:=fun b hb=>by
 rcases I.ok.stk with e|⟨e,hf⟩
 ·rw[e]at hb;exact Av _ hb
 ·rw[e]at hb;unfold frs at hb;rw[GN,hf]at hb;exact hb
theorem Inv.stkFree(I:Inv X pI σ H s):∀ b∈frs X.stack,H b=Af:=fun b hb=>by
 rcases Ay.mp (I.stkSub b hb) with e|hb
 ·rw[e];exact I.free
 ·obtain⟨_,o,ho,_⟩:=I.ok.funs.mem hb;exact I.base.free b o ho (I.ok.frf b hb) fun z=>I.ok.exfs b z hb
theorem Inv.step(I:Inv X pI σ H s)(hch:∀ b∈ch,(b∈X.ex\/X.s₀.heap.objs.size<=b)/\b≠X.env.locals/\(∀ x c,X.env.cells.lookup x=Ab c->c≠b)/\∀ p∈X.pn++pI,p.1≠b)(keep:∀ b o,b≠X.env.locals->b∉X.fs->b∉ch->s.heap.get? b=Ab o->H b=Af->h'.get? b=Ab o)(slot:∀ b o,b≠X.env.locals->b∈X.fs->b∉ch->s.heap.get? b=Ab o->H b=Af->∃ sl,h'.get? b=Ab {o with slots:=sl})(free:∀ b o,b∉ch->s.heap.get? b=Ab o->H b=Af->H' b=Af)(there:∀ b o,b∉ch->s.heap.get? b=Ab o->∃ o',h'.get? b=Ab o')(tups:∀ b xs,H b=Ab (.tup xs)->H' b=Ab (.tup xs))(frzs:∀ b o u,H b=Ab (.frz o u)->H' b=Ab (.frz o u))(tbls:∀ b ps,H b=Ab (.tbl ps)->∃ more,H' b=Ab (.tbl (ps++more)))(ns:∀ m,s.heap.Ns X.env.locals m->h'.Ns X.env.locals m)(hok:HOk X.prog X.w H' h')(hg:FU g'):Inv X pI σ H' {s with heap:=h',gens:=g',drawn:=d',toks:=t'}:=by
 have neL:∀ b o,X.s₀.heap.get? b=Ab o->b≠X.env.locals:=fun b o e=>AT (Az (AC e) I.ok.above)
 have neC:∀ b o,X.s₀.heap.get? b=Ab o->b∉X.ex->b∉ch:=fun b o e hx hb=>by
  rcases (hch b hb).1 with z|z
  ·exact hx z
  ·exact absurd (Az (AC e) z) (Bw _)
 have cellK:∀ x c,X.env.cells.lookup x=Ab c->∀ v,s.heap.IsCell c v->h'.IsCell c v:=fun x c e v ⟨o,ho,hd⟩=>by
  have nch:c∉ch:=fun z=>(hch c z).2.2.1 x c e rfl
  by_cases hc:c∈X.fs
  ·obtain⟨sl,q⟩:=slot c o (I.cne x c e) hc nch ho (I.freeC x c e);exact⟨_,q,hd⟩
  ·exact⟨o,keep c o (I.cne x c e) hc nch ho (I.freeC x c e),hd⟩
 refine⟨I.ok,I.os,hg,⟨fun b o e n hb hx=>?_,fun b o e n hb hx=>?_,fun b o e n hx=>?_,fun b o e hx=>?_,fun b xs e=>tups b xs (I.base.tups b xs e),fun b o xs e=>frzs b o xs (I.base.frzs b o xs e),fun b ps e=>?_⟩,?_,fun x c e=>?_,?_,fun x c e=>?_,fun p hp=>?_,hok,I.len⟩
 ·exact keep b o (neL b o e) hb (neC b o e hx) (I.base.keep b o e n hb hx) (I.base.free b o e n hx)
 ·obtain⟨sl,e1⟩:=I.base.slot b o e n hb hx;obtain⟨sl',e2⟩:=slot b _ (neL b o e) hb (neC b o e hx) e1 (I.base.free b o e n hx);exact⟨sl',e2⟩
 ·obtain⟨o',e1⟩:=I.base.there b o e hx;exact free b o' (neC b o e hx) e1 (I.base.free b o e n hx)
 ·obtain⟨o',e1⟩:=I.base.there b o e hx;exact there b o' (neC b o e hx) e1
 ·obtain⟨m1,e1⟩:=I.base.tbls b ps e;obtain⟨m2,e2⟩:=tbls b _ e1;exact⟨m1++m2,by rw[e2,Array.append_assoc]⟩
 ·obtain⟨m,hn,hl⟩:=I.loc;refine⟨m,ns m hn,fun i x v e1 e2 e3=>?_⟩
  obtain⟨u,r,l⟩:=hl i x v e1 e2 e3;refine⟨u,r,?_⟩;rcases l with l|⟨k,c,e,z⟩
  ·exact .inl l
  ·exact .inr ⟨k,c,e,cellK x c e _ z⟩
 ·obtain⟨v,z⟩:=I.cell x c e;exact⟨v,cellK x c e v z⟩
 ·obtain⟨m,⟨o,_,_,ho,_⟩,_⟩:=I.loc;exact free _ o (fun z=>(hch _ z).2.1 rfl) ho I.free
 ·obtain⟨v,o,ho,hd⟩:=I.cell x c e;exact free c o (fun z=>(hch c z).2.2.1 x c e rfl) ho (I.freeC x c e)
 ·obtain⟨e,n,ne,nf,d⟩:=I.pin p hp;have nch:p.1∉ch:=fun z=>(hch p.1 z).2.2.2 p hp rfl
  exact⟨keep p.1 p.2 ne nf nch e n,free p.1 p.2 nch e n,ne,nf,d⟩
theorem Inv.un(I:Inv X pI σ H s)(u:Un X.fs [] H H' s.heap h')(hok:HOk X.prog X.w H' h'):Inv X pI σ H' {s with heap:=h',toks:=t'}:=by
 obtain⟨m,⟨o,es,ep,ho,r⟩,_⟩:=id I.loc;obtain⟨sl,hL⟩:=u.any ho I.free (by simp)
 exact I.step (g':=s.gens) (d':=s.drawn) (ch:=[]) (fun _ z=>nomatch z) (fun b o _ hb _ e n=>u.keep b o e n hb (by simp)) (fun b o _ hb _ e n=>u.slot b o e n hb (by simp)) (fun b o _ e n=>u.free b o e n (by simp)) (fun b o _ e=>u.there b o e (by simp)) u.tups u.frzs u.tbls (fun m' hm=>by
  obtain⟨o',es',ep',ho',r'⟩:=hm;rw[ho]at ho';cases ho';exact⟨_,es',ep',hL,r'⟩) hok I.bare
theorem Inv.call(I:Inv X pI σ H s)(u:Un (frs X.stack) ch H H' s.heap h')(hok:HOk X.prog X.w H' h')(hg:FU g')(hch:∀ b∈ch,(b∈X.ex\/X.s₀.heap.objs.size<=b)/\b≠X.env.locals/\(∀ x c,X.env.cells.lookup x=Ab c->c≠b)/\∀ p∈X.pn++pI,p.1≠b):Inv X pI σ H' {s with heap:=h',gens:=g',drawn:=d',toks:=t'}:=by
 obtain⟨m,⟨o,es,ep,ho,r⟩,_⟩:=id I.loc;obtain⟨sl,hL⟩:=u.any ho I.free fun z=>(hch _ z).2.1 rfl
 exact I.step (ch:=ch) hch (fun b o hL hb hc e n=>u.keep b o e n (fun z=>(Ay.mp (I.stkSub b z)).elim hL hb) hc) (fun b o _ _ hc e n=>u.any e n hc) (fun b o hc e n=>u.free b o e n hc) (fun b o hc e=>u.there b o e hc) u.tups u.frzs u.tbls (fun m' hm=>by
  obtain⟨o',es',ep',ho',r'⟩:=hm;rw[ho]at ho';cases ho';exact⟨_,es',ep',hL,r'⟩) hok hg
theorem Inv.turned(I:Inv X pI σ H s)(k:∀ b o,b≠it->s.heap.get? b=Ab o->h'.get? b=Ab o)(hn:H it=Af)(hL:it≠X.env.locals)(h1:it∈X.ex\/X.s₀.heap.objs.size<=it)(h2:∀ x c,X.env.cells.lookup x=Ab c->c≠it)(h3:∀ p∈X.pn++pI,p.1≠it):Inv X pI σ H {s with heap:=h',toks:=t'}:=by
 have nit:∀ b u,H b=Ab u->b≠it:=fun b u e z=>by rw[z,hn]at e;cases e
 refine I.step (g':=s.gens) (d':=s.drawn) (ch:=[it]) (fun b hb=>?_) (fun b o _ _ hc e _=>k b o (fun z=>hc (by simp[z])) e) (fun b o _ _ hc e _=>⟨o.slots,k b o (fun z=>hc (by simp[z])) e⟩) (fun _ _ _ _ n=>n)
  (fun b o hc e=>⟨o,k b o (fun z=>hc (by simp[z])) e⟩) (fun _ _ e=>e) (fun _ _ _ e=>e) (fun b ps e=>⟨#[],by rw[e];simp⟩) (fun m hm=>?_) (fun b u e=>?_) I.bare
 ·have e:b=it:=by simpa using hb
  subst e;exact⟨h1,hL,h2,h3⟩
 ·obtain⟨o,es,ep,ho,r⟩:=hm;exact⟨o,es,ep,k _ o (C1 hL) ho,r⟩
 ·refine(I.hok b u e).stay (fun c v hc q=>k c v ?_ q) (fun _ q=>q) fun _ _ q=>q
  rcases hc with z|z
  ·rw[z];exact nit b u e
  ·exact nit c _ z
theorem Inv.tok(I:Inv X pI σ H s)(t:Ag):Inv X pI σ H {s with toks:=t}:=I.un (h':=s.heap) (t':=t) Un.refl I.hok
theorem Inv.kept{t':Ag}(I:Inv X pI σ H s)(k:∀ b u,s.heap.get? b=Ab u->h'.get? b=Ab u):Inv X pI σ H {s with heap:=h',toks:=t'}:=I.un (Un.kept k) (I.hok.kept k)
theorem Inv.laid{a:Ak}{o:HO}{t':Ag}(I:Inv X pI σ H s)(k:∀ b u,s.heap.get? b=Ab u->h'.get? b=Ab u)(hp:s.heap.objs.size<=a)(new:ObjOk X.prog X.w (upd H a o) h' a o):Inv X pI σ (upd H a o) {s with heap:=h',toks:=t'}:=I.un (Un.laid k hp (I.hok.fresh hp)) (I.hok.laid k hp new)
theorem Inv.write{x e:Ak}{o:HO}{t':Ag}(I:Inv X pI σ H s)(mu:Mut (H x))(he:e=x\/H e=Ab (.own x))(k:∀ b u,b≠e->s.heap.get? b=Ab u->h'.get? b=Ab u)(heo:∃ u,h'.get? e=Ab u)(new:ObjOk X.prog X.w (upd H x o) h' x o):Inv X pI σ (upd H x o) {s with heap:=h',toks:=t'}:=I.un (Un.write mu he k heo) (I.hok.write mu he k heo new)
theorem Inv.pins_of{pins':Pn}(I:Inv X pI σ H s)(h:∀ p∈pins',s.heap.get? p.1=Ab p.2/\H p.1=Af/\p.1≠X.env.locals/\p.1∉X.fs/\∀ v,p.2.data≠.cell v):Inv X pins' σ H s:=
 ⟨I.ok,I.os,I.bare,I.base,I.loc,I.cell,I.free,I.freeC,fun p hp=>(Ik.mp hp).elim (fun z=>I.pin p (WY _ z)) (h p),I.hok,I.len⟩
theorem Tk{N:Ac Al}(hN:N.Nodup){j:Ag}(a:N[i]?=Ab x)(b:N[j]?=Ab x):i=j:=by
 obtain⟨h1,e1⟩:=A6.mp a;obtain⟨h2,e2⟩:=A6.mp b;exact(List.getElem_inj hN).mp (e1.trans e2.symm)
theorem RW{A:Bv}{E:Vq}(I:Inv X pI σ H s)(hN:X.N.Nodup)(hi:X.N[i]?=Ab x)(hx:Loc X.env.scope x)(r:BZ v u)(h:∀ s',Inv X pI (σ.set i (Ab v)) H s'->(∃ a,Fa a s.heap s'.heap/\(a=X.env.locals\/X.env.cells.lookup x=Ab a))->Q () s')(hf:X.fn x=Aa\/X.env.scope.names.lookup x=Ab .local:=by first|exact .inl rfl|exact .inr rfl|assumption):Ax M A (storeName X.env x u) Q E s:=by
 obtain⟨m,hn,hl⟩:=id I.loc;have hcls:(X.env.scope.kind==.class||(X.env.scope.kind==.module&&X.env.locals != X.env.globals))=Ae:=by rw[I.ok.kind];rfl
 have hiσ:i<σ.length:=by rw[I.len];exact(A6.mp hi).1
 have cne:=I.cne;have tracked:∀{a:Ak}{h':AQ},(∃ o,s.heap.get? a=Ab o/\H a=Af)->Fa a s.heap h'->HOk X.prog X.w H h':=fun {a h'} ha hs b ob e=>by
  obtain⟨_,_,hfree⟩:=ha;refine(I.hok b ob e).stay (fun c w' hc q=>(hs.2 c ?_).trans q) (fun _ q=>q) fun _ _ q=>q
  rintro rfl;rcases hc with rfl|hc
  ·rw[hfree]at e;cases e
  ·rw[hfree]at hc;cases hc
 rcases hx with hk|hk
 ·refine wpAny_storeName_local hk hn (fun h' hn' hs=>?_) hcls
  obtain⟨oL,_,_,hoL,_⟩:=id hn;refine h _ ⟨I.ok,I.os,I.bare,⟨fun b o e n hb hx=>?_,fun b o e n hb hx=>?_,I.base.free,fun b o e hx=>?_,I.base.tups,I.base.frzs,I.base.tbls⟩,⟨_,hn',fun j y v' e1 e2 e3=>?_⟩,fun y c e=>?_,I.free,I.freeC,fun p hp=>?_,tracked ⟨oL,hoL,I.free⟩ hs,by simpa using I.len⟩ ⟨_,hs,.inl rfl⟩
  ·exact(hs.2 b (AT (Az (AC e) I.ok.above))).trans (I.base.keep b o e n hb hx)
  ·obtain⟨sl,e1⟩:=I.base.slot b o e n hb hx;exact⟨sl,(hs.2 b (AT (Az (AC e) I.ok.above))).trans e1⟩
  ·obtain⟨o',e1⟩:=I.base.there b o e hx;exact⟨o',(hs.2 b (AT (Az (AC e) I.ok.above))).trans e1⟩
  ·by_cases hj:j=i
   ·subst hj;rw[hi]at e1;cases e1;rw[Dt hiσ]at e2;cases e2;exact⟨u,r,.inl ⟨hk,by simp⟩⟩
   ·rw[Gs (C1 hj)]at e2;obtain⟨u',r',q⟩:=hl j y v' e1 e2 e3;refine⟨u',r',?_⟩;rcases q with ⟨k,e⟩|⟨k,c,e,z⟩
    ·refine .inl ⟨k,?_⟩;have:y≠x:=fun e=>hj (Tk hN e1 (e ▸ hi))
     simp[this,e]
    ·exact .inr ⟨k,c,e,z.sameBut hs (cne y c e)⟩
  ·obtain⟨w',z⟩:=I.cell y c e;exact⟨w',z.sameBut hs (cne y c e)⟩
  ·obtain⟨e,n,ne,nf,d⟩:=I.pin p hp;exact⟨(hs.2 p.1 ne).trans e,n,ne,nf,d⟩
 ·have hfn:X.fn x=Aa:=by
   rcases hf with z|z
   ·exact z
   ·rw[z]at hk;cases hk
  obtain⟨c,hc⟩:=I.ok.has x (.inl hk);obtain⟨w',z⟩:=I.cell x c hc;refine wpAny_storeName_cell I.ok.kind hk hc z (fun h' hc' hs=>?_)
  obtain⟨oc,hoc,hocd⟩:=id z;refine h {s with heap:=h'} ⟨I.ok,I.os,I.bare,⟨fun b o e n hb hx=>?_,fun b o e n hb hx=>?_,I.base.free,fun b o e hx=>?_,I.base.tups,I.base.frzs,I.base.tbls⟩,⟨m,hn.sameBut hs (C1 (cne x c hc)),fun j y v' e1 e2 e3=>?_⟩,fun y c' e=>?_,I.free,I.freeC,fun p hp=>?_,tracked ⟨oc,hoc,I.freeC x c hc⟩ hs,by simpa using I.len⟩ ⟨c,hs,.inr hc⟩
  ·exact(hs.2 b (AT (Az (AC e) (I.ok.cab x c hfn hc)))).trans (I.base.keep b o e n hb hx)
  ·obtain⟨sl,e1⟩:=I.base.slot b o e n hb hx;exact⟨sl,(hs.2 b (AT (Az (AC e) (I.ok.cab x c hfn hc)))).trans e1⟩
  ·obtain⟨o',e1⟩:=I.base.there b o e hx;exact⟨o',(hs.2 b (AT (Az (AC e) (I.ok.cab x c hfn hc)))).trans e1⟩
  ·by_cases hj:j=i
   ·subst hj;rw[hi]at e1;cases e1;rw[Dt hiσ]at e2;cases e2;exact⟨u,r,.inr ⟨.inl hk,c,hc,hc'⟩⟩
   ·rw[Gs (C1 hj)]at e2;obtain⟨u',r',q⟩:=hl j y v' e1 e2 e3;refine⟨u',r',?_⟩;rcases q with q|⟨k,c',e,z'⟩
    ·exact .inl q
    ·refine .inr ⟨k,c',e,z'.sameBut hs ?_⟩;rintro rfl;exact hj (Tk hN e1 (I.ok.inj _ _ _ e hc ▸ hi))
  ·by_cases hcc:c'=c
   ·subst hcc;exact⟨_,hc'⟩
   ·obtain⟨w2,z2⟩:=I.cell y c' e;exact⟨w2,z2.sameBut hs hcc⟩
  ·obtain⟨e,n,ne,nf,d⟩:=I.pin p hp;refine⟨(hs.2 p.1 ?_).trans e,n,ne,nf,d⟩;intro q;rw[q,hoc]at e;have q':oc=p.2:=BU e;exact d w' (by rw[<-q'];exact hocd)
theorem TK{A:Bv}{E:Vq}(I:Inv X pI σ H s)(hN:X.N.Nodup)(hi:X.N[i]?=Ab x)(hx:Loc X.env.scope x)(r:BZ v u)(h:∀ s',Inv X pI (σ.set i (Ab v)) H s'->Q () s')(hf:X.fn x=Aa\/X.env.scope.names.lookup x=Ab .local:=by first|exact .inl rfl|exact .inr rfl|assumption):Ax M A (storeName X.env x u) Q E s:=
 RW I hN hi hx r (fun s' I' _=>h s' I') hf
theorem Inv.call'{s':Aq}(I:Inv X pI σ H s)(ho:s'.os=s.os)(u:Un (frs X.stack) ch H H' s.heap s'.heap)(hok:HOk X.prog X.w H' s'.heap)(hg:FU s'.gens)(hch:∀ b∈ch,(b∈X.ex\/X.s₀.heap.objs.size<=b)/\b≠X.env.locals/\(∀ x c,X.env.cells.lookup x=Ab c->c≠b)/\∀ p∈X.pn++pI,p.1≠b):Inv X pI σ H' s':=by
 obtain⟨h',g',d',t',o'⟩:=s';have e:o'=s.os:=ho;subst e;exact I.call (g':=g') (t':=t') (d':=d') u hok hg hch
end
abbrev XK:=Ai->Au Ak->Hp->Prop
abbrev St:=Ac (Au V)
variable{σ:St}
abbrev VK:=V->Hp->Prop
abbrev TE:=St->Hp->VK->Prop
variable{te:TE}
abbrev TT:=St->Hp->(Ap->Hp->Prop)->Prop
abbrev TA:=St->Hp->(Ac V->Hp->Prop)->Prop
variable{ta:TA}
structure Ends where
 nx:St->Hp->Prop
 rt:VK
 bk:St->Hp->Prop:=fun _ _=>BF
 ct:St->Hp->Prop:=fun _ _=>BF
abbrev TS:=Ends->St->Hp->Prop
def EP(X:Cx)(pI:Pn)(σ:St)(Q:VK)(u:Ai)(s':Aq):Prop:=∃ v H',Inv X pI σ H' s'/\BZ v u/\Q v H'
def TP(X:Cx)(pI:Pn)(σ:St)(Q:Ap->Hp->Prop)(b:Ap)(s':Aq):Prop:=∃ H',Inv X pI σ H' s'/\Q b H'
def AP(X:Cx)(pI:Pn)(σ:St)(Q:Ac V->Hp->Prop)(us:Ac Ai)(s':Aq):Prop:=∃ vs H',Inv X pI σ H' s'/\Bq vs us/\Q vs H'
noncomputable def SP(X:Cx)(pI:Pn)(D:Ends)(f:Flow)(s':Aq):Prop:=
  match f with
  |.next=>∃ σ' H',Inv X pI σ' H' s'/\D.nx σ' H'
  |.brk=>∃ σ' H',Inv X pI σ' H' s'/\D.bk σ' H'
  |.cont=>∃ σ' H',Inv X pI σ' H' s'/\D.ct σ' H'
  |.ret u=>∃ v σ' H',Inv X pI σ' H' s'/\BZ v u/\D.rt v H'
noncomputable def PE(X:Cx)(e:Ar)(t:TE):Prop:=
 ∀(pI:Pn)(s:Aq)(σ:St)(H:Hp)(Q:VK),Inv X pI σ H s->t σ H Q->Ax (model X.prog X.w) X.A (eval e X.env) (EP X pI σ Q) X.xe s
noncomputable def PT(X:Cx)(e:Ar)(t:TT):Prop:=
 ∀(pI:Pn)(s:Aq)(σ:St)(H:Hp)(Q:Ap->Hp->Prop),Inv X pI σ H s->t σ H Q->Ax (model X.prog X.w) X.A (IN e X.env (eval e X.env)) (TP X pI σ Q) X.xe s
noncomputable def PW(X:Cx)(e:Ar)(t:TT):Prop:=
 ∀(whole:Hg Ai)(pI:Pn)(s:Aq)(σ:St)(H:Hp)(Q:Ap->Hp->Prop),Inv X pI σ H s->t σ H Q->Ax (model X.prog X.w) X.A (IN e X.env whole) (TP X pI σ Q) X.xe s
theorem PW.pt{t:TT}(h:PW X e t):PT X e t:=h _
noncomputable def PA(X:Cx)(es:Ac Ar)(t:TA):Prop:=
 ∀(pos:A8)(pI:Pn)(s:Aq)(σ:St)(H:Hp)(Q:Ac V->Hp->Prop),Inv X pI σ H s->t σ H Q->Ax (model X.prog X.w) X.A (spliced (CV pos (AG es X.env))) (AP X pI σ Q) X.xe s
noncomputable def PS(X:Cx)(st:Ca)(t:TS):Prop:=
 ∀(pI:Pn)(s:Aq)(σ:St)(H:Hp)(D:Ends),Inv X pI σ H s->t D σ H->Ax (model X.prog X.w) X.A (exec st X.env) (SP X pI D) X.xe s
noncomputable def PSs(X:Cx)(st:Ac Ca)(t:TS):Prop:=
 ∀(pI:Pn)(s:Aq)(σ:St)(H:Hp)(D:Ends),Inv X pI σ H s->t D σ H->Ax (model X.prog X.w) X.A (execs st X.env) (SP X pI D) X.xe s
theorem thn{α:Type}{t:Hg α}{Q Q':α->Aq->Prop}{A:Bv}{E:Vq}(h:Ax M A t Q E s)(hQ:∀ a s,Q a s->Q' a s):Ax M A t Q' E s:=CK h hQ fun _ _ x=>x
section
variable{X:Cx}
def G8(i:Ag):TE:=fun σ H Q=>∃ v,σ[i]?=Ab (Ab v)/\Q v H
def tC(v:V):TE:=fun _ H Q=>Q v H
theorem qT(hN:X.N[i]?=Ab x)(hv:Vis X.env.scope x)(hd:(x==("__debug__" : Al))=Ae:=by decide)(hcd:(x==("__classdict__" : Al))=Ae:=by decide):PE X (.Name x pos) (G8 i):=by
 intro pI s σ H Q I h;obtain⟨v,e,h⟩:=h;obtain⟨m,hn,hl⟩:=I.loc;obtain⟨u,r,l⟩:=hl i x v hN e hv;have fin:EP X pI σ Q u s:=⟨v,H,I,r,h⟩;rcases l with ⟨hk,hm⟩|⟨hk,c,hc,hcell⟩
 ·exact Kz (wpAny_loadName_local I.ok.kind hk hn hm fin) hd
 ·rcases hk with hk|hk
  ·exact Kz (wpAny_loadName_cell I.ok.kind hk hc hcell fin) hd
  ·exact Kz (wpAny_loadName_free I.ok.kind hk hc hcell fin hcd) hd
theorem rB{i j pos}:PE X (.Constant (.int i) j pos) (tC (.int i)):=fun _ _ _ H _ I h=>wpAny_Constant_int ⟨.int i,H,I.tok _,⟨_,rfl⟩,h⟩
theorem wG{b j pos}:PE X (.Constant (.bool b) j pos) (tC (.bl b)):=fun _ _ _ H _ I h=>Constant_bool ⟨.bl b,H,I,rfl,h⟩
theorem qY{j pos}:PE X (.Constant .none j pos) (tC .non):=fun _ _ _ H _ I h=>Constant_none ⟨.non,H,I,rfl,h⟩
theorem qV{x j pos}:PE X (.Constant (.str x) j pos) (tC (.str x)):=fun _ _ _ H _ I h=>Calls.Constant_str ⟨.str x,H,I.tok _,⟨_,rfl⟩,h⟩
def Gl(X:Cx)(x:Al):Prop:=X.env.kindOf x=Ab .globalImplicit
theorem gM{E:Vq}{Q:Vq}(I:Inv X pI σ H s)(hg:Gl X x)(hm:X.mg x=Ab u)(h:Q u s)(hd:(x==("__debug__" : Al))=Ae:=by decide):Ax (model X.prog X.w) X.A (eval (.Name x pos) X.env) Q E s:=
 Xx I.ok.kind hg (Calls.loadGlobal_global (by rw[I.ok.glob];exact I.mod.glob.keeps I.bk) hm h) hd
theorem GY{E:Vq}{Q:Vq}(I:Inv X pI σ H s)(hg:Gl X x)(hm:X.mg x=Af)(hv:Dh x=Ab u)(h:Q u s)(hn:x≠"__name__" := by decide)(hd:(x==("__debug__" : Al))=Ae:=by decide):Ax (model X.prog X.w) X.A (eval (.Name x pos) X.env) Q E s:=by
 obtain⟨mb,h1,h2⟩:=I.mod.blt;exact Xx I.ok.kind hg (Calls.loadGlobal_builtin (by rw[I.ok.glob];exact I.mod.glob.keeps I.bk) hm (by rw[I.ok.blt];exact h1.keeps I.bk) ((h2 x hn).trans hv) h) hd
theorem gO(hg:Gl X x)(hm:X.mg x=Af)(hv:Dh x=Ab u)(r:BZ v u)(hn:x≠"__name__" := by decide)(hd:(x==("__debug__" : Al))=Ae:=by decide):PE X (.Name x pos) (tC v):=
 fun _ _ _ H _ I h=>GY I hg hm hv ⟨v,H,I,r,h⟩ hn hd
variable{a b:Ar}{ta tb:TE}{pos:A8}
def tB(t:TE):TT:=fun σ H Q=>t σ H fun x H1=>∃ c,x=.bl c/\Q c H1
variable{tA tB':TT}{rest:Ac Ar}
def Y6(t u:TT):TT:=fun σ H Q=>t σ H fun c H1=>if c=Aa then u σ H1 Q else Q Ae H1
def tOr(t u:TT):TT:=fun σ H Q=>t σ H fun c H1=>if c=Aa then Q Aa H1 else u σ H1 Q
def YZ(t:TT):TT:=fun σ H Q=>t σ H fun c H1=>Q (!c) H1
theorem iU(ha:PT X a tA):PW X (.BoolOp .And [a] pos) tA:=by
 intro wh pI s σ H Q I h;refine isTrue_and (thn (ha pI s σ H Q I h) fun c s1 e=>?_)
 cases c with
 |true=>exact isTrue_and_nil e
 |false=>exact e
theorem nH(ha:PT X a tA):PW X (.BoolOp .Or [a] pos) tA:=by
 intro wh pI s σ H Q I h;refine isTrue_or (thn (ha pI s σ H Q I h) fun c s1 e=>?_)
 cases c with
 |false=>exact isTrue_or_nil e
 |true=>exact e
theorem nI(ha:PT X a tA)(hb:PW X (.BoolOp .And (b::rest) pos) tB'):PW X (.BoolOp .And (a::b::rest) pos) (Y6 tA tB'):=by
 intro wh pI s σ H Q I h;refine isTrue_and (thn (ha pI s σ H _ I h) fun c s1 ⟨H1,I1,q1⟩=>?_)
 cases c with
 |true=>exact hb wh pI s1 σ H1 Q I1 q1
 |false=>exact⟨H1,I1,q1⟩
theorem vW(ha:PT X a tA)(hb:PW X (.BoolOp .Or (b::rest) pos) tB'):PW X (.BoolOp .Or (a::b::rest) pos) (tOr tA tB'):=by
 intro wh pI s σ H Q I h;refine isTrue_or (thn (ha pI s σ H _ I h) fun c s1 ⟨H1,I1,q1⟩=>?_)
 cases c with
 |true=>exact⟨H1,I1,q1⟩
 |false=>exact hb wh pI s1 σ H1 Q I1 q1
theorem qM(ha:PT X a tA):PT X (.UnaryOp .Not a pos) (YZ tA):=by
 intro pI s σ H Q I h;exact isTrue_not (ha pI s σ H (fun c H1=>Q (!c) H1) I h)
def uO(ta tb:TE):TE:=fun σ H Q=>ta σ H fun x H1=>∃ c,x=.bl c/\if c=Aa then tb σ H1 Q else Q (.bl Ae) H1
def YY(ta tb:TE):TE:=fun σ H Q=>ta σ H fun x H1=>∃ c,x=.bl c/\if c=Aa then Q (.bl Aa) H1 else tb σ H1 Q
def tM(ta:TE):TE:=fun σ H Q=>ta σ H fun x H1=>∃ c,x=.bl c/\Q (.bl (!c)) H1
theorem qW{op}{t:TE}(h:PE X a t):PE X (.BoolOp op [a] pos) t:=fun pI s σ H Q I hw=>BoolOp_one (h pI s σ H Q I hw)
theorem rD(ha:PE X a ta)(hb:PE X (.BoolOp .And (b::rest) pos) tb):PE X (.BoolOp .And (a::b::rest) pos) (uO ta tb):=by
 intro pI s σ H Q I h;refine BoolOp_and (thn (ha pI s σ H _ I h) fun v s1 ⟨x,H1,I1,r1,q1⟩=>?_)
 obtain⟨c,rfl,q1⟩:=q1;cases r1;refine Ct ?_;cases c with
 |true=>exact hb pI s1 σ H1 Q I1 q1
 |false=>exact⟨.bl Ae,H1,I1,rfl,q1⟩
theorem wD(ha:PE X a ta)(hb:PE X (.BoolOp .Or (b::rest) pos) tb):PE X (.BoolOp .Or (a::b::rest) pos) (YY ta tb):=by
 intro pI s σ H Q I h;refine BoolOp_or (thn (ha pI s σ H _ I h) fun v s1 ⟨x,H1,I1,r1,q1⟩=>?_)
 obtain⟨c,rfl,q1⟩:=q1;cases r1;refine Ct ?_;cases c with
 |false=>exact hb pI s1 σ H1 Q I1 q1
 |true=>exact⟨.bl Aa,H1,I1,rfl,q1⟩
theorem qX(ha:PE X a ta):PE X (.UnaryOp .Not a pos) (tM ta):=by
 intro pI s σ H Q I h;refine UnaryOp_ (thn (ha pI s σ H _ I h) fun v s1 ⟨x,H1,I1,r1,q1⟩=>?_)
 obtain⟨c,rfl,q1⟩:=q1;cases r1;exact not_of (Ct ⟨.bl (!c),H1,I1,rfl,q1⟩)
end
noncomputable def SqL(K:Fg)(H:Hp)(a:Ak)(xs:Ac V):Prop:=
 Rd H a (.lst xs) \/
  ∃(o:Dz)(its:AM Ai)(n:Ag),K.lookup a=Ab o/\o.cls=.type "list"/\o.dict=Af/\o.data=.seq its n/\its.size<=sizeLine/\Bq xs its.toList
noncomputable def SqT(K:Fg)(H:Hp)(a:Ak)(xs:Ac V):Prop:=
 Rd H a (.tup xs) \/
  ∃(o:Dz)(its:AM Ai)(n:Ag),K.lookup a=Ab o/\o.cls=.type "tuple"/\o.data=.seq its n/\its.size<=sizeLine/\Bq xs its.toList
noncomputable def YT:Ai->Au V
 |.none=>Ab .non
 |.bool b=>Ab (.bl b)
 |.int i _=>Ab (.int i)
 |.str x _=>Ab (.str x)
 |.bytes b _=>Ab (.byt b)
 |.float b _=>Ab (.flt b)
 |.ref a=>Ab (.ref a)
 |.type n=>Ab (.ty n)
 |_=>Af
theorem BZ.abs{x:V}(r:BZ x u):YT u=Ab x:=by
 cases x with
 |non=>cases r;rfl
 |bl _=>cases r;rfl
 |int _=>obtain⟨t,rfl⟩:=r;rfl
 |str _=>obtain⟨t,rfl⟩:=r;rfl
 |byt _=>obtain⟨t,rfl⟩:=r;rfl
 |flt _=>obtain⟨t,rfl⟩:=r;rfl
 |ref _=>cases r;rfl
 |ty _=>cases r;rfl
theorem BZ.inj{x y:V}(r:BZ x u)(q:BZ y u):x=y:=BU (r.abs.symm.trans q.abs)
theorem Bq.inj:∀{xs ys:Ac V}{us:Ac Ai},Bq xs us->Bq ys us->xs=ys
 |_,_,_,.nil,.nil=>rfl
 |_,_,_,.cons r t,.cons r' t'=>by rw[r.inj r',Bq.inj t t']
section
variable{X:Cx}{pI:Pn}{σ:St}{H:Hp}{s:Aq}{a:Ak}{xs ys:Ac V}
theorem SqL.of{K:Fg}(h:H a=Ab (.lst xs)):SqL K H a xs:=.inl (.inl h)
theorem SqT.of{K:Fg}(h:H a=Ab (.tup xs)):SqT K H a xs:=.inl (.inl h)
theorem Inv.list(I:Inv X pI σ H s)(h:SqL X.K H a xs):∃ its:Ac Ai,Bq xs its/\PlainL s.heap a its.toArray/\xs.length<=sizeLine:=by
 rcases h with h|⟨o,its,n,hk,hc,hd,hs,hz,r⟩
 ·obtain⟨z,its,n,r,e⟩:=h.ok I.hok;exact⟨its,r,⟨_,n,e,rfl,rfl,rfl⟩,z⟩
 ·refine⟨its.toList,r,⟨o,n,I.kIn a o hk,hc,hd,by simpa using hs⟩,?_⟩
  have e:=r.length;simp only[CJ]at e;omega
theorem Inv.tuple(I:Inv X pI σ H s)(h:SqT X.K H a xs):∃ its:Ac Ai,Bq xs its/\JM s.heap a its.toArray/\xs.length<=sizeLine:=by
 rcases h with h|⟨o,its,n,hk,hc,hs,hz,r⟩
 ·obtain⟨z,its,r,p⟩:=h.ok I.hok;exact⟨its,r,p,z⟩
 ·refine⟨its.toList,r,⟨o,I.kIn a o hk,hc,n,by simpa using hs⟩,?_⟩
  have e:=r.length;simp only[CJ]at e;omega
theorem Inv.list_inj(I:Inv X pI σ H s)(h:SqL X.K H a xs)(h':SqL X.K H a ys):xs=ys:=by
 obtain⟨its,r,⟨o,n,e,_,_,d⟩,_⟩:=I.list h;obtain⟨its',r',⟨o',n',e',_,_,d'⟩,_⟩:=I.list h';rw[e]at e';cases e';rw[d]at d'
 injection d' with d1 _
 have:its=its':=by simpa using congrArg Jo d1
 subst this;exact r.inj r'
theorem Inv.tuple_inj(I:Inv X pI σ H s)(h:SqT X.K H a xs)(h':SqT X.K H a ys):xs=ys:=by
 obtain⟨its,r,⟨o,e,_,n,d⟩,_⟩:=I.tuple h;obtain⟨its',r',⟨o',e',_,n',d'⟩,_⟩:=I.tuple h';rw[e]at e';cases e';rw[d]at d'
 injection d' with d1 _
 have:its=its':=by simpa using congrArg Jo d1
 subst this;exact r.inj r'
end
noncomputable abbrev Cx.wish(X:Cx)(E:Vq):Cx:={X with xe:=E}
noncomputable abbrev Cx.nox(X:Cx):Cx:=X.wish fun _ _=>BF
theorem Cx.Ok.wish(ok:X.Ok)(E:Vq):(X.wish E).Ok:=
 ⟨ok.mod,ok.kind,ok.glob,ok.blt,ok.above,ok.inj,ok.has,ok.cab,ok.hd,ok.frames,ok.stk,ok.exf,ok.bs,ok.bsz,ok.noex,ok.exfs,ok.funs,ok.frf⟩
theorem Cx.Ok.unwish{E:Vq}(ok:(X.wish E).Ok):X.Ok:=
 ⟨ok.mod,ok.kind,ok.glob,ok.blt,ok.above,ok.inj,ok.has,ok.cab,ok.hd,ok.frames,ok.stk,ok.exf,ok.bs,ok.bsz,ok.noex,ok.exfs,ok.funs,ok.frf⟩
section
variable{X:Cx}{pI:Pn}{σ:St}{H:Hp}{s:Aq}{E:Vq}
theorem Inv.wish(I:Inv X pI σ H s)(E:Vq):Inv (X.wish E) pI σ H s:=⟨I.ok.wish E,I.os,I.bare,I.base,I.loc,I.cell,I.free,I.freeC,I.pin,I.hok,I.len⟩
theorem Inv.unwish(I:Inv (X.wish E) pI σ H s):Inv X pI σ H s:=⟨I.ok.unwish,I.os,I.bare,I.base,I.loc,I.cell,I.free,I.freeC,I.pin,I.hok,I.len⟩
theorem SP.unwish{D:Ends}{f:Flow}{s':Aq}(h:SP (X.wish E) pI D f s'):SP X pI D f s':=by
 cases f with
 |next=>obtain⟨σ',H',I,q⟩:=h;exact⟨σ',H',I.unwish,q⟩
 |brk=>obtain⟨σ',H',I,q⟩:=h;exact⟨σ',H',I.unwish,q⟩
 |cont=>obtain⟨σ',H',I,q⟩:=h;exact⟨σ',H',I.unwish,q⟩
 |ret u=>obtain⟨v,σ',H',I,r,q⟩:=h;exact⟨v,σ',H',I.unwish,r,q⟩
theorem PSs.nox{st:Ac Ca}{t:TS}(h:PSs X.nox st t):PSs X st t:=fun pI s σ H D I hw=>
 CK (h pI s σ H D (I.wish _) hw) (fun _ _ q=>q.unwish) fun _ _ z=>Eo z
end
section
variable{X:Cx}{st:Ca}{rest:Ac Ca}{t u:TS}{e:Ar}{te:TE}{pos:A8}
def uJ:TS:=fun D σ H=>D.nx σ H
def YW(t u:TS):TS:=fun D σ H=>t {D with nx:=u D} σ H
theorem iZ:PSs X [] uJ:=fun _ _ σ H _ I h=>Yr ⟨σ,H,I,h⟩
theorem bW(h1:PS X st t)(h2:PSs X rest u):PSs X (st::rest) (YW t u):=by
 intro pI s σ H D I h;refine wpAny_execs_cons (thn (h1 pI s σ H {D with nx:=u D} I h) fun f s1 q=>?_)
 cases f with
 |next=>
  obtain⟨σ',H',I',q⟩:=q;exact h2 pI s1 σ' H' D I' q
 |ret v=>exact q
 |brk=>exact q
 |cont=>exact q
theorem Inv.quiet(I:Inv X pI σ H s):interactive X.env=Ae:=by simp[interactive,I.ok.kind]
def uL(te:TE):TS:=fun D σ H=>te σ H fun _ H1=>D.nx σ H1
theorem M9(he:PE X e te)(hs:D6 e Af pos.line X.env=pure Ae:=by rfl):PS X (.Expr e pos) (uL te):=by
 intro pI s σ H D I h;exact wpAny_Expr_any (thn (he pI s σ H _ I h) fun v s1 ⟨x,H1,I1,r1,q1⟩=>⟨σ,H1,I1,q1⟩) I.quiet hs
def YX(te:TE):TS:=fun D σ H=>te σ H D.rt
theorem Qg(he:PE X e te):PS X (.Return (Ab e) pos) (YX te):=by
 intro pI s σ H D I h;exact wpAny_Return_some (thn (he pI s σ H _ I h) fun v s1 ⟨x,H1,I1,r1,q1⟩=>⟨x,σ,H1,I1,r1,q1⟩)
def Y3(c:TT)(t u:TS):TS:=fun D σ H=>c σ H fun b H1=>if b=Aa then t D σ H1 else u D σ H1
theorem vY{c:Ar}{a b:Ac Ca}{tc:TT}(hc:PT X c tc)(ha:PSs X a t)(hb:PSs X b u):PS X (.If c a b pos) (Y3 tc t u):=by
 intro pI s σ H D I h;refine wpAny_If (thn (hc pI s σ H _ I h) fun d s1 ⟨H1,I1,q1⟩=>?_)
 cases d with
 |true=>exact ha pI s1 σ H1 D I1 q1
 |false=>exact hb pI s1 σ H1 D I1 q1
end
abbrev TG:=V->St->Hp->(St->Hp->Prop)->Prop
abbrev TGs:=Ac V->St->Hp->(St->Hp->Prop)->Prop
noncomputable def PG(X:Cx)(target:Ar)(t:TG):Prop:=
 ∀(pI:Pn)(s:Aq)(σ:St)(H:Hp)(v:V)(u:Ai)(Q:St->Hp->Prop),Inv X pI σ H s->BZ v u->t v σ H Q ->
  Ax (model X.prog X.w) X.A (assign target X.env u) (fun _ s'=>∃ σ' H',Inv X pI σ' H' s'/\Q σ' H') X.xe s
noncomputable def PGs(X:Cx)(ts:Ac Ar)(t:TGs):Prop:=
 ∀(pI:Pn)(s:Aq)(σ:St)(H:Hp)(vs:Ac V)(us:Ac Ai)(Q:St->Hp->Prop),Inv X pI σ H s->Bq vs us->t vs σ H Q ->
  Ax (model X.prog X.w) X.A (assignInOrder ((CC ts X.env).map (·.2)) us) (fun _ s'=>∃ σ' H',Inv X pI σ' H' s'/\Q σ' H') X.xe s
abbrev Q2:=V->V->V->Hp->(Hp->Prop)->Prop
noncomputable def Re(X:Cx)(t:Q2):Prop:=
 ∀(pI:Pn)(s:Aq)(σ:St)(H:Hp)(o i v:V)(ov iv u:Ai)(Q:Hp->Prop),Inv X pI σ H s->BZ o ov->BZ i iv->BZ v u->t o i v H Q ->
  Ax (model X.prog X.w) X.A (JO ov iv u) (fun _ s'=>∃ H',Inv X pI σ H' s'/\Q H') X.xe s
section
variable{X:Cx}{pos:A8}
def FA(i:Ag):TG:=fun v σ H Q=>Q (σ.set i (Ab v)) H
theorem Mb(hN:X.N.Nodup)(hi:X.N[i]?=Ab x)(hx:Loc X.env.scope x)(hf:X.fn x=Aa\/X.env.scope.names.lookup x=Ab .local:=by first|exact .inl rfl|exact .inr rfl|assumption):PG X (.Name x pos) (FA i):=by
 intro pI s σ H v u Q I r h;exact Yp (TK I hN hi hx r (fun s' I'=>⟨_,H,I',h⟩) hf)
def Ie:TGs:=fun vs σ H Q=>vs=[]/\Q σ H
def H9(t:TG)(u:TGs):TGs:=fun vs σ H Q=>∃ v r,vs=v::r/\t v σ H fun σ' H'=>u r σ' H' Q
theorem Px:PGs X [] Ie:=by
 intro pI s σ H vs us Q I r h;obtain⟨e,h⟩:=h;subst e;cases r;exact assignInOrder_nil ⟨σ,H,I,h⟩
theorem M1{t:TG}{u:TGs}(h1:PG X e t)(h2:PGs X es u)(hs:(CC (e::es) X.env).map (·.2)=assign e X.env::(CC es X.env).map (·.2):=by rfl):PGs X (e::es) (H9 t u):=by
 intro pI s σ H vs us Q I r h;obtain⟨v,vr,e1,h⟩:=h;subst e1;cases r with
 |cons r rr=>
  rw[hs];refine assignInOrder_cons (thn (h1 pI s σ H _ _ _ I r h) fun _ s1 ⟨σ1,H1,I1,q1⟩=>?_)
  exact h2 pI s1 σ1 H1 _ _ Q I1 rr q1
def Lg(K:Fg)(n:Ag)(t:TGs):TG:=fun v σ H Q=>∃ a xs,v=.ref a/\SqT K H a xs/\xs.length=n/\t xs σ H Q
theorem Nn{t:TGs}(hc:X.calm=Aa)(h:PGs X es t)(hn:(CC es X.env).length=n:=by rfl)(hst:(CC es X.env).findIdx? (·.1)=Af:=by rfl):PG X (.Tuple es k pos) (Lg X.K n t):=by
 intro pI s σ H v u Q I r hw;obtain⟨a,xs,e1,hq,hl,hw⟩:=hw;subst e1;cases r;obtain⟨its,rv,ht,hz⟩:=I.tuple hq;refine assign_Tuple_tuple (I.ok.hd hc) ht (by simp[hn,<-hl,rv.length]) hst fun h' hx=>?_
 have I1:Inv X pI σ H {s with heap:=h'}:=I.kept (t':=s.toks) fun b o e=>hx b o (AT (AC e)) e
 exact h pI _ σ H xs _ Q I1 (by simpa using rv) hw
def YM(to ti:TE)(t:Q2):TG:=fun v σ H Q=>to σ H fun o H1=>ti σ H1 fun i H2=>t o i v H2 fun H3=>Q σ H3
theorem P7{o i:Ar}{to ti:TE}{t:Q2}(ho:PE X o to)(hi:PE X i ti)(hs:Re X t)(ha:∀ v,assign (.Subscript o i pos) X.env v=(do
   let ov <-holding [v] (eval o X.env)
   let iv <-holding [v,ov] (eval i X.env)
   HA pos
   holding [v,ov,iv] (JO ov iv v)
   release [v,ov,iv] []):=by intro _;rfl):PG X (.Subscript o i pos) (YM to ti t):=by
 intro pI s σ H v u Q I r h;rw[ha];refine Ah (BQ (thn (ho pI s σ H _ I h) fun ov s1 ⟨x,H1,I1,r1,q1⟩=>?_))
 refine Ah (BQ (thn (hi pI s1 σ H1 _ I1 q1) fun iv s2 ⟨y,H2,I2,r2,q2⟩=>?_))
 refine Ah (Hj (Ah (BQ (thn (hs pI s2 σ H2 x y v ov iv u _ I2 r1 r2 r q2) fun _ s3 ⟨H3,I3,q3⟩=>?_))))
 exact wpAny_release ⟨σ,H3,I3,q3⟩
def NM(te:TE)(g:TG):TS:=fun D σ H=>te σ H fun x H1=>g x σ H1 D.nx
theorem Qh{g:TG}(he:PE X e te)(hg:PG X tg g)(hs:F9 [tg] e pos.line X.env=pure Ae:=by rfl)(hw:Ed [tg] e X.env=pure Af:=by rfl)(h1:(CC [tg] X.env).map (·.2)=[assign tg X.env]:=by rfl):PS X (.Assign [tg] e pos) (NM te g):=by
 intro pI s σ H D I h;refine wpAny_Assign_stores (thn (he pI s σ H _ I h) fun v s1 ⟨x,H1,I1,r1,q1⟩=>?_) hs hw
 rw[h1];exact thn (hg pI s1 σ H1 x v _ I1 r1 q1) fun _ s2 q=>q
theorem qN{pos':A8}(hN:X.N.Nodup)(hi:X.N[i]?=Ab x)(hx:Loc X.env.scope x)(he:PE X e te)(hs:D6 e (Ab (.Name x pos')) pos.line X.env=pure Ae:=by rfl)(hf:X.fn x=Aa\/X.env.scope.names.lookup x=Ab .local:=by first|exact .inl rfl|exact .inr rfl|assumption):PS X (.Assign [.Name x pos'] e pos) (NM te (FA i)):=by
 intro pI s σ H D I h;refine wpAny_Assign_Name (thn (he pI s σ H _ I h) fun v s1 ⟨y,H1,I1,r1,q1⟩=>?_) hs
 exact TK I1 hN hi hx r1 (fun s2 I2=>⟨_,H1,I2,q1⟩) hf
end
section
variable{X:Cx}{pos:A8}
end
structure It where
 go:Ag->Hp->Prop
 yld:Ag->Hp->V->Hp->Prop
 stop:Ag->Hp->Prop
noncomputable def G6(X:Cx)(pI:Pn)(H:Hp)(b:Ak):Prop:=
 H b=Af/\b≠X.env.locals/\b∉X.fs/\(b∈X.ex\/X.s₀.heap.objs.size<=b)/\(∀ x c,X.env.cells.lookup x=Ab c->c≠b)/\∀ p∈X.pn++pI,p.1≠b
theorem Inv.fpOk{H':Hp}(I:Inv X pI σ H s)(hb:s.heap.objs.size<=b)(hn:H' b=Af):G6 X pI H' b:=by
 refine⟨hn,Cm (Az I.lt hb),I.nofs hb,.inr (BD I.sz hb),fun x c e z=>?_,fun p hp z=>?_⟩
 ·obtain⟨v,q⟩:=I.cell x c e;exact absurd (Az q.lt (by rw[z];exact hb)) (Bw _)
 ·exact absurd (Az (AC (I.pin p hp).1) (by rw[z];exact hb)) (Bw _)
structure Turn (P:A5) (w:AJ) (K:Fg) (tg:Ar) (J:It) (fp:Ac Ak) (it:Ak) (tn:Ag->AQ->Prop):Prop where
 mem:it∈fp
 obj:∀ i h,tn i h->∀ b∈fp,∃ o,h.get? b=Ab o/\∀ v,o.data≠.cell v
 keep:∀ i h h',tn i h->(∀ b∈fp,∀ o,h.get? b=Ab o->h'.get? b=Ab o)->tn i h'
 item:∀(X:Cx),X.prog=P->X.w=w->X.K=K->X.calm=Aa->∀(i:Ag)(pI:Pn)(s:Aq)(σ:St)(H:Hp)(E:Vq),Inv X pI σ H s->(∀ b∈fp,G6 X pI H b)->tn i s.heap->J.go i H ->
  Ax (model P w) X.A (Ej (.ref it)) (fun r s1=>∃ u,r=Ab u /\
   Ax (model P w) X.A (GH tg (.ref it) u) (fun _ s2=>∃ x H',Inv X pI σ H' s2/\BZ x u/\J.yld i H x H'/\tn (i+1) s2.heap/\∀ b∈fp,H' b=Af) E s1) E s
 done:∀(X:Cx),X.prog=P->X.w=w->X.K=K->X.calm=Aa->∀(i:Ag)(pI:Pn)(s:Aq)(σ:St)(H:Hp)(E:Vq),Inv X pI σ H s->(∀ b∈fp,G6 X pI H b)->tn i s.heap->J.stop i H ->
  Ax (model P w) X.A (Ej (.ref it)) (fun r s1=>r=Af/\Inv X pI σ H s1) E s
 self:∀(A:Bv)(i:Ag)(s:Aq)(Q:Vq)(E:Vq),tn i s.heap->Q (.ref it) s->Ax (model P w) A (Kv (.ref it)) Q E s
abbrev TI:=St->Hp->(It->Hp->Prop)->Prop
noncomputable def PIE(X:Cx)(pI:Pn)(σ:St)(tg:Ar)(R:It->Hp->Prop)(itv:Ai)(s2:Aq):Prop:=
 ∃(it:Ak)(fp:Ac Ak)(tn:Ag->AQ->Prop)(J:It)(H':Hp),itv=.ref it/\Inv X pI σ H' s2/\Turn X.prog X.w X.K tg J fp it tn/\tn 0 s2.heap/\(∀ b∈fp,G6 X pI H' b)/\R J H'
noncomputable def PI(X:Cx)(tg iter:Ar)(wi:TI):Prop:=
 ∀(pI:Pn)(s:Aq)(σ:St)(H:Hp)(R:It->Hp->Prop),Inv X pI σ H s->wi σ H R ->
  Ax (model X.prog X.w) X.A (eval iter X.env) (fun v s1=>Ax (model X.prog X.w) X.A (Kv v) (PIE X pI σ tg R) X.xe s1) X.xe s
theorem QK{A:Bv}{E:Vq}{n:DM}{vs:AM Ai}(ho:s.heap.get? it=Ab o)(hc:o.cls=.type n)(hd:o.data=.fields vs)(hn:["enumerate", "zip", "dict_itemiterator", "dict_reverseitemiterator", "odict_iterator", "itertools.zip_longest", "itertools.pairwise"].contains n=Ae)(hQ:Q () s):Ax M A (GH tg (.ref it) u) Q E s:=by
  unfold GH;cases tg<;>first
    |exact As hQ
    | (cases u<;>first
        |exact As hQ
        | (refine Ah (wpAny_load ho ?_)
           rw[hc,hd];show Ax M A (if (["enumerate", "zip", "dict_itemiterator", "dict_reverseitemiterator", "odict_iterator", "itertools.zip_longest", "itertools.pairwise"].contains n&&vs[0]? == Ab (C9 _))=Aa then _ else _) Q E s
           rw[AH (by intro h;rw[hn,Bool.false_and]at h;cases h)]
           exact As hQ))
noncomputable def Itl(K:Fg)(a:Ak):It:=
 ⟨fun i H=>∃ xs x,SqL K H a xs/\xs[i]?=Ab x,fun i H x H'=>H'=H/\∀ xs,SqL K H a xs->xs[i]?=Ab x,fun i H=>∃ xs,SqL K H a xs/\xs.length<=i⟩
noncomputable def Itt(K:Fg)(a:Ak):It:=
 ⟨fun i H=>∃ xs x,SqT K H a xs/\xs[i]?=Ab x,fun i H x H'=>H'=H/\∀ xs,SqT K H a xs->xs[i]?=Ab x,fun i H=>∃ xs,SqT K H a xs/\xs.length<=i⟩
noncomputable def Itr(lo:Ad)(n:Ag):It:=⟨fun i _=>i<n,fun i H x H'=>H'=H/\x=.int (lo+i),fun i _=>n<=i⟩
theorem ZB{w:AJ}{K:Fg}(a it:Ak):Turn P w K tg (Itl K a) [it] it (fun i h=>h.IsListIter it a i) where
  mem:=by simp
  obj:=fun i h st b hb=>by
    have e:b=it:=by simpa using hb
    subst e;obtain⟨o,e,c,d⟩:=st;exact⟨o,e,fun v z=>by rw[d]at z;cases z⟩
  keep:=fun i h h' st k=>st.at fun o e=>k it (by simp) o e
  item:=by
    intro X hP hw hK hc i pI s σ H E I hf st hg;subst hP hw hK;obtain⟨xs,x,hq,hx⟩:=hg;obtain⟨its,rv,p,hz⟩:=I.list hq;obtain⟨u,hu,ru⟩:=rv.get hx;obtain⟨f0,f1,f2,f3,f4,f5⟩:=hf it (by simp)
    refine Yx st p.isList (x:=u) (by simpa using hu) fun h' st' sb=>?_
    have I1:Inv X pI σ H {s with heap:=h'}:=I.turned (t':=s.toks) (fun b o hb e=>(sb.2 b hb).trans e) f0 f1 f3 f4 f5
    obtain⟨o,e,c,d⟩:=id st';exact⟨u,rfl,QK (s:={s with heap:=h'}) e c d (by decide) ⟨x,H,I1,ru,⟨rfl,fun ys hy=>by rw[I.list_inj hy hq];exact hx⟩,st',fun b hb=>(hf b hb).1⟩⟩
  done:=by
    intro X hP hw hK hc i pI s σ H E I hf st hg;subst hP hw hK;obtain⟨xs,hq,hx⟩:=hg;obtain⟨its,rv,p,hz⟩:=I.list hq;obtain⟨f0,f1,f2,f3,f4,f5⟩:=hf it (by simp)
    have hl:=rv.length;exact Yw (I.ok.hd hc) st p.isList (by simp;omega) fun h' eb=>⟨rfl,I.turned (t':=s.toks) (fun b o hb e=>eb b o hb e) f0 f1 f3 f4 f5⟩
  self:=fun _ _ _ _ _ st h=>wpAny_pyIter_listiter st h
theorem ZY{w:AJ}{K:Fg}(a it:Ak):Turn P w K tg (Itt K a) [it] it (fun i h=>h.IsTupleIter it a i) where
  mem:=by simp
  obj:=fun i h st b hb=>by
    have e:b=it:=by simpa using hb
    subst e;obtain⟨o,e,c,d⟩:=st;exact⟨o,e,fun v z=>by rw[d]at z;cases z⟩
  keep:=fun i h h' st k=>st.at fun o e=>k it (by simp) o e
  item:=by
    intro X hP hw hK hc i pI s σ H E I hf st hg;subst hP hw hK;obtain⟨xs,x,hq,hx⟩:=hg;obtain⟨its,rv,p,hz⟩:=I.tuple hq;obtain⟨u,hu,ru⟩:=rv.get hx;obtain⟨f0,f1,f2,f3,f4,f5⟩:=hf it (by simp)
    refine wpAny_pyNext_tuple_item st (show s.heap.IsTuple a its.toArray from p) (x:=u) (by simpa using hu) fun h' st' sb=>?_
    have I1:Inv X pI σ H {s with heap:=h'}:=I.turned (t':=s.toks) (fun b o hb e=>(sb.2 b hb).trans e) f0 f1 f3 f4 f5
    obtain⟨o,e,c,d⟩:=id st';exact⟨u,rfl,QK (s:={s with heap:=h'}) e c d (by decide) ⟨x,H,I1,ru,⟨rfl,fun ys hy=>by rw[I.tuple_inj hy hq];exact hx⟩,st',fun b hb=>(hf b hb).1⟩⟩
  done:=by
    intro X hP hw hK hc i pI s σ H E I hf st hg;subst hP hw hK;obtain⟨xs,hq,hx⟩:=hg;obtain⟨its,rv,p,hz⟩:=I.tuple hq;obtain⟨f0,f1,f2,f3,f4,f5⟩:=hf it (by simp)
    have hl:=rv.length;exact wpAny_pyNext_tuple_end (I.ok.hd hc) st (show s.heap.IsTuple a its.toArray from p) (by simp;omega) fun h' eb=>⟨rfl,I.turned (t':=s.toks) (fun b o hb e=>eb b o hb e) f0 f1 f3 f4 f5⟩
  self:=fun _ _ _ _ _ st h=>wpAny_pyIter_tupleiter st h
theorem ZZ{w:AJ}{K:Fg}(it:Ak)(lo:Ad)(n:Ag):Turn P w K tg (Itr lo n) [it] it (fun i h=>IsRangeIter h it (lo+(i:Ag)*1) ((n:Ad)-(i:Ag)) 1) where
  mem:=by simp
  obj:=fun i h st b hb=>by
    have e:b=it:=by simpa using hb
    subst e;exact⟨_,st,fun v z=>by
      have z':Data.fields _=Lq v:=z;cases z'⟩
  keep:=fun i h h' st k=>k it (by simp) _ st
  item:=by
    intro X hP hw hK hc i pI s σ H E I hf st hg;subst hP hw hK;obtain⟨f0,f1,f2,f3,f4,f5⟩:=hf it (by simp)
    have W:=Walks.range (prog:=X.prog) (w:=X.w) (I.ok.hd hc) it lo 1 n;refine W.item i s _ _ hg st fun v h' tk hv st' kk=>?_
    obtain⟨t,rfl⟩:=hv;have I1:Inv X pI σ H {s with heap:=h',toks:=tk}:=I.turned (fun b o hb e=>kk b o (by simpa using hb) e) f0 f1 f3 f4 f5
    refine⟨_,rfl,QK (s:={s with heap:=h',toks:=tk}) (n := "range_iterator") st' rfl rfl (by decide) ⟨.int (lo+i),H,I1,⟨t,?_⟩,⟨rfl,rfl⟩,st',fun b hb=>(hf b hb).1⟩⟩
    rw[DY]
  done:=by
    intro X hP hw hK hc i pI s σ H E I hf st hg;subst hP hw hK;obtain⟨f0,f1,f2,f3,f4,f5⟩:=hf it (by simp)
    exact wpAny_pyNext_range_end (I.ok.hd hc) st (by have:n<=i:=hg;omega) fun h' eb=>⟨rfl,I.turned (t':=s.toks) (fun b o hb e=>eb b o hb e) f0 f1 f3 f4 f5⟩
  self:=fun _ _ _ _ _ st h=>wpAny_pyIter_rangeiter st h
section
variable{X:Cx}{tg:Ar}
theorem Th{R:It->Hp->Prop}{E:Vq}{lo hi:Ad}{t u v:DG}{tk:Ag}(I:Inv X pI σ H s)(h1:-(2 ^ 62)<=lo)(h2:lo<2 ^ 62)(h3:-(2 ^ 62)<=hi)(h4:hi<2 ^ 62)(q:R (Itr lo (hi-lo).toNat) H):Ax (model X.prog X.w) X.A (Kv (.ref s.heap.objs.size)) (PIE X pI σ tg R) E { s with heap:=s.heap.push { cls:=.type "range", data:=.fields #[.int lo t,.int hi u,.int 1 v] },toks:=tk }:=by
 refine wpAny_pyIter_range (XX ..) (small_one h1 h2 h3 h4) ?_;have I1:Inv X pI σ H { s with heap:=s.heap.push { cls:=.type "range", data:=.fields #[.int lo t,.int hi u,.int 1 v] },toks:=tk }:=I.kept fun b o e=>Ao _ e
 refine⟨(s.heap.push { cls:=.type "range", data:=.fields #[.int lo t,.int hi u,.int 1 v] }).objs.size,[(s.heap.push { cls:=.type "range", data:=.fields #[.int lo t,.int hi u,.int 1 v] }).objs.size],_,_,H,rfl,
  I1.kept (t':=tk) fun b o e=>Ao _ e,ZZ _ lo (hi-lo).toNat,?_,fun b hb=>?_,q⟩
 ·have e1:lo+((0:Ag):Ad)*1=lo:=by simp
  have e2:(((hi-lo).toNat:Ag):Ad)-((0:Ag):Ad)=Builtin.Range.rangeSize lo hi 1:=by rw[rangeSize_one];split<;>omega
  show IsRangeIter _ _ (lo+((0:Ag):Ad)*1) ((((hi-lo).toNat:Ag):Ad)-((0:Ag):Ad)) 1;rw[e1,e2];exact Aw _ rfl
 ·have e:b=(s.heap.push { cls:=.type "range", data:=.fields #[.int lo t,.int hi u,.int 1 v] }).objs.size:=by simpa using hb
  subst e;exact I1.fpOk (AS _) (I1.hok.fresh (AS _))
def xP(ta:TA):TI:=fun σ H R=>ta σ H fun vs H1=>∃ j:Ad,vs=[.int j]/\-(2 ^ 62)<=j/\j<2 ^ 62/\R (Itr 0 j.toNat) H1
def xO(ta:TA):TI:=fun σ H R=>ta σ H fun vs H1=>∃ i j:Ad,vs=[.int i,.int j]/\(-(2 ^ 62)<=i/\i<2 ^ 62/\-(2 ^ 62)<=j/\j<2 ^ 62)/\R (Itr i (j-i).toNat) H1
theorem aA{a:Ar}(hg:Gl X "range")(hm:X.mg "range" = Af)(ha:PA X [a] ta)(hs:AG [a] X.env=[(Ae,eval a X.env)]:=by rfl):PI X tg (.Call (.Name "range" p) [a] [] pos) (xP ta):=by
 intro pI s σ H R I h;refine Hx (GY I hg hm Kk (BM (thn (ha pos pI s σ H _ I h) fun us s1 ⟨vs,H1,I1,r1,q1⟩=>?_) hs rfl))
 obtain⟨j,e,q1,q2,q⟩:=q1;subst e;cases r1 with
 |cons r rr=>
  cases rr;obtain⟨t,rfl⟩:=r;exact call_range_1 (Th I1 (by omega) (by omega) q1 q2 (by simpa using q))
theorem Z9{a b:Ar}(hg:Gl X "range")(hm:X.mg "range" = Af)(ha:PA X [a,b] ta)(hs:AG [a,b] X.env=[(Ae,eval a X.env),(Ae,eval b X.env)]:=by rfl)(hs2:AG [b] X.env=[(Ae,eval b X.env)]:=by rfl):
  PI X tg (.Call (.Name "range" p) [a,b] [] pos) (xO ta):=by
 intro pI s σ H R I h;refine Hx (GY I hg hm Kk (BM (thn (ha pos pI s σ H _ I h) fun us s1 ⟨vs,H1,I1,r1,q1⟩=>?_) (by rw[hs,hs2]) (by rw[hs2];rfl)))
 obtain⟨i,j,e,⟨q1,q2,q3,q4⟩,q⟩:=q1;subst e;cases r1 with
 |cons r rr=>
  cases rr with
  |cons r' rr=>
   cases rr;obtain⟨t,rfl⟩:=r;obtain⟨t',rfl⟩:=r';exact call_range_2 (Th I1 q1 q2 q3 q4 q)
def Y4(wi:TI)(g:TG)(tb:TS):TS:=fun D σ H=>wi σ H fun J H1=>∃ W:Ag->Ag->St->Hp->Prop,(∃ m,W 0 m σ H1)/\∀ i m σ H,W i m σ H ->
 (J.stop i H/\D.nx σ H)\/(J.go i H/\∃ N:St->Hp->Prop,(∀ σ' H',N σ' H'->∃ m',m'<m/\W (i+1) m' σ' H')/\∀ x H',J.yld i H x H'->g x σ H' fun σ2 H2=>tb {D with nx:=N,ct:=N,bk:=D.nx} σ2 H2)
noncomputable def J8(fp:Ac Ak)(h:AQ):Pn:=fp.filterMap fun b=>(h.get? b).map fun o=>(b,o)
theorem MK(hb:b∈fp)(e:h.get? b=Ab o):(b,o)∈J8 fp h:=W1.mpr ⟨b,hb,by rw[e];rfl⟩
theorem SF{p:Ak×Dz}(hp:p∈J8 fp h):p.1∈fp/\h.get? p.1=Ab p.2:=by
 obtain⟨b,hb,e⟩:=List.mem_filterMap.mp hp;cases q:h.get? b with
 |none=>rw[q]at e;cases e
 |some o=>
  rw[q]at e;have e':(b,o)=p:=BU e;subst e';exact⟨hb,q⟩
theorem Inv.pinned(I:Inv X pI σ H s)(hf:∀ b∈fp,G6 X pI H b)(ho:∀ b∈fp,∃ o,s.heap.get? b=Ab o/\∀ v,o.data≠.cell v):Inv X (pI++J8 fp s.heap) σ H s:=
 I.pins_of fun p hp=>(Ik.mp hp).elim (fun z=>I.pin p (BH _ z)) fun z=>by
  obtain⟨hb,e⟩:=SF z;obtain⟨f0,f1,f2,_⟩:=hf p.1 hb;obtain⟨o,e',d⟩:=ho p.1 hb;rw[e]at e';cases e';exact⟨e,f0,f1,f2,d⟩
theorem Inv.unpinned{pl:Pn}(I:Inv X (pI++pl) σ H s):Inv X pI σ H s:=I.pins_of fun p hp=>I.pin p (BH _ (WY _ hp))
theorem qO{iter:Ar}{wi:TI}{g:TG}{tb:TS}(hp:Gn (model X.prog X.w) X.A X.env X.xe)(hc:X.calm=Aa)(hi:PI X tg iter wi)(hg:PG X tg g)(hb:PSs X body tb)(hs:∀ x,Dr iter X.env x=pure x:=by intro _;rfl):PS X (.For tg iter body [] pos) (Y4 wi g tb):=by
 intro pI s σ H D I h;refine wpAny_For (thn (hi pI s σ H _ I h) fun v s1 h1=>thn h1 fun itv s2 h2=>?_) hs
 obtain⟨it,fp,tn,J,H2,e,I2,T,st2,f2,W,⟨m0,w0⟩,turn⟩:=h2;subst e
 -- what stays Aa of the iterator's objects through the loop
 have stat:∀{H':Hp},(∀ b∈fp,H' b=Af)->∀ b∈fp,G6 X pI H' b:=fun hn b hb=>⟨hn b hb,(f2 b hb).2⟩
 refine codeAny_forLoop_any (fun n s'=>∃ i σ' H',Inv X pI σ' H' s'/\tn i s'.heap/\(∀ b∈fp,H' b=Af)/\W i n σ' H') ?_ m0 ⟨0,σ,H2,I2,st2,fun b hb=>(f2 b hb).1,w0⟩
 rintro n s3 ⟨i,σ3,H3,I3,st3,fr3,w3⟩;rcases turn i n σ3 H3 w3 with ⟨stop,qn⟩|⟨go,N,hN,step⟩
 ·refine FI hp (thn (T.done X rfl rfl rfl hc i pI s3 σ3 H3 X.xe I3 (stat fr3) st3 stop) fun r s4 ⟨hr,I4⟩=>?_)
  subst hr;exact Yr ⟨σ3,H3,I4,qn⟩
 ·refine FI hp (thn (T.item X rfl rfl rfl hc i pI s3 σ3 H3 X.xe I3 (stat fr3) st3 go) fun r s4 ⟨u,hr,h4⟩=>?_)
  subst hr;refine FI hp (thn h4 fun _ s5 ⟨x,H5,I5,r5,y5,st5,fr5⟩=>?_)
  have I5':=I5.pinned (stat fr5) (T.obj _ _ st5);refine FI hp (thn (hg _ s5 σ3 H5 x u _ I5' r5 (step x H5 y5)) fun _ s6 ⟨σ6,H6,I6,q6⟩=>?_)
  refine FI hp (thn (hb _ s6 σ6 H6 _ I6 q6) fun f s7 q7=>?_)
  have again:∀{σ7:St}{H7:Hp},Inv X (pI++J8 fp s5.heap) σ7 H7 s7->N σ7 H7->∃ m,m<n/\∃ i σ' H',Inv X pI σ' H' s7/\tn i s7.heap/\(∀ b∈fp,H' b=Af)/\W i m σ' H':=fun {σ7 H7} I7 n7=>by
   obtain⟨m',hm,w7⟩:=hN σ7 H7 n7;refine⟨m',hm,i+1,σ7,H7,I7.unpinned,T.keep _ _ _ st5 fun b hb o e=>(I7.pin (b,o) (BH _ (BH _ (MK hb e)))).1,fun b hb=>?_,w7⟩
   obtain⟨o,e,d⟩:=T.obj _ _ st5 b hb;exact(I7.pin (b,o) (BH _ (BH _ (MK hb e)))).2.1
  cases f with
  |next=>obtain⟨σ7,H7,I7,n7⟩:=q7;exact again I7 n7
  |cont=>obtain⟨σ7,H7,I7,n7⟩:=q7;exact again I7 n7
  |brk=>obtain⟨σ7,H7,I7,q7⟩:=q7;exact⟨σ7,H7,I7.unpinned,q7⟩
  |ret v=>obtain⟨x7,σ7,H7,I7,r7,q7⟩:=q7;exact⟨x7,σ7,H7,I7.unpinned,r7,q7⟩
end
abbrev R2:=V->V->Hp->VK->Prop
variable{r:R2}
noncomputable def OpR(X:Cx)(f:Ai->Ai->Hg Ai)(r:R2):Prop:=
 ∀(pI:Pn)(s:Aq)(σ:St)(H:Hp)(x y:V)(v u:Ai)(Q:VK),Inv X pI σ H s->BZ x v->BZ y u->r x y H Q ->
  Ax (model X.prog X.w) X.A (f v u) (EP X pI σ Q) X.xe s
noncomputable def UnR(X:Cx)(f:Ai->Hg Ai)(r:V->Hp->VK->Prop):Prop:=
 ∀(pI:Pn)(s:Aq)(σ:St)(H:Hp)(x:V)(v:Ai)(Q:VK),Inv X pI σ H s->BZ x v->r x H Q ->
  Ax (model X.prog X.w) X.A (f v) (EP X pI σ Q) X.xe s
noncomputable def IE(X:Cx)(f:Ai)(r:Ac V->Hp->VK->Prop):Prop:=
 ∀(pI:Pn)(s:Aq)(σ:St)(H:Hp)(xs:Ac V)(us:Ac Ai)(Q:VK),Inv X pI σ H s->Bq xs us->r xs H Q ->
  Ax (model X.prog X.w) X.A (call f us) (EP X pI σ Q) X.xe s
noncomputable def YU(X:Cx)(r:V->Hp->(Ap->Hp->Prop)->Prop):Prop:=
 ∀(pI:Pn)(s:Aq)(σ:St)(H:Hp)(x:V)(v:Ai)(Q:Ap->Hp->Prop),Inv X pI σ H s->BZ x v->r x H Q ->
  Ax (model X.prog X.w) X.A (truthy v) (TP X pI σ Q) X.xe s
def tOp(r:R2)(ta tb:TE):TE:=fun σ H Q=>ta σ H fun x H1=>tb σ H1 fun y H2=>r x y H2 Q
def tUn(r:V->Hp->VK->Prop)(ta:TE):TE:=fun σ H Q=>ta σ H fun x H1=>r x H1 Q
def rI(C:Ad->Ad->Prop)(g:Ad->Ad->V):R2:=fun x y H Q=>∃ i j,x=.int i/\y=.int j/\C i j/\Q (g i j) H
def rI0(g:Ad->Ad->V):R2:=fun x y H Q=>∃ i j,x=.int i/\y=.int j/\Q (g i j) H
def rU(g:Ad->V):V->Hp->VK->Prop:=fun x H Q=>∃ i,x=.int i/\Q (g i) H
section
variable{X:Cx}{a b c:Ar}{ta tb tc:TE}{pos:A8}
theorem Q7(ha:PE X a ta)(hb:PE X b tb){R:V->V->Hp->Prop}(I:Inv X pI σ H s)(h:ta σ H fun x H1=>tb σ H1 fun y H2=>R x y H2){Q:Vq}(hf:∀ v u s2 x y H2,Inv X pI σ H2 s2->BZ x v->BZ y u->R x y H2->Ax (model X.prog X.w) X.A (f v u) Q X.xe s2):Ax (model X.prog X.w) X.A (eval a X.env) (fun v s₁=>Ax (model X.prog X.w) X.A (eval b X.env) (fun u s₂=>Ax (model X.prog X.w) X.A (f v u) Q X.xe s₂) X.xe s₁) X.xe s:=by
 refine thn (ha pI s σ H _ I h) fun v s1 ⟨x,H1,I1,r1,q1⟩=>?_
 refine thn (hb pI s1 σ H1 _ I1 q1) fun u s2 ⟨y,H2,I2,r2,q2⟩=>?_
 exact hf v u s2 x y H2 I2 r1 r2 q2
theorem VS{op:HN}(ho:OpR X (Cv op) r)(ha:PE X a ta)(hb:PE X b tb):PE X (.BinOp a op b pos) (tOp r ta tb):=by
 intro pI s σ H Q I h;exact wpAny_BinOp (Q7 ha hb I h fun v u s2 x y H2 I2 rx ry q=>ho pI s2 σ H2 x y v u Q I2 rx ry q)
theorem wB{op:UnaryOp}{r:V->Hp->VK->Prop}(ho:UnR X (unaryOp op) r)(ha:PE X a ta):PE X (.UnaryOp op a pos) (tUn r ta):=by
 intro pI s σ H Q I h;exact UnaryOp_ (thn (ha pI s σ H _ I h) fun v s1 ⟨x,H1,I1,r1,q1⟩=>ho pI s1 σ H1 x v Q I1 r1 q1)
theorem opI{C:Ad->Ad->Prop}(rule:∀(i j:Ad)(t u:DG)(s:Aq)(Q:Vq)(E:Vq),C i j->Q (.int (g i j) s.toks) {s with toks:=s.toks+1}->Ax (model X.prog X.w) X.A (f (.int i t) (.int j u)) Q E s):OpR X f (rI C fun i j=>.int (g i j)):=by
 intro pI s σ H x y v u Q I rx ry h;obtain⟨i,j,rfl,rfl,hc,q⟩:=h;obtain⟨t,rfl⟩:=rx;obtain⟨t',rfl⟩:=ry;exact rule i j t t' s _ _ hc ⟨.int (g i j),H,I.tok _,⟨_,rfl⟩,q⟩
theorem Rx(rule:∀(i j:Ad)(t u:DG)(s:Aq)(Q:Vq)(E:Vq),Q (.int (g i j) s.toks) {s with toks:=s.toks+1}->Ax (model X.prog X.w) X.A (f (.int i t) (.int j u)) Q E s):OpR X f (rI0 fun i j=>.int (g i j)):=by
 intro pI s σ H x y v u Q I rx ry h;obtain⟨i,j,rfl,rfl,q⟩:=h;obtain⟨t,rfl⟩:=rx;obtain⟨t',rfl⟩:=ry;exact rule i j t t' s _ _ ⟨.int (g i j),H,I.tok _,⟨_,rfl⟩,q⟩
theorem NI{g:Ad->Ad->Ap}(rule:∀(i j:Ad)(t u:DG)(s:Aq)(Q:Vq)(E:Vq),Q (.bool (g i j)) s->Ax (model X.prog X.w) X.A (f (.int i t) (.int j u)) Q E s):OpR X f (rI0 fun i j=>.bl (g i j)):=by
 intro pI s σ H x y v u Q I rx ry h;obtain⟨i,j,rfl,rfl,q⟩:=h;obtain⟨t,rfl⟩:=rx;obtain⟨t',rfl⟩:=ry;exact rule i j t t' s _ _ ⟨.bl (g i j),H,I,rfl,q⟩
def YF(i j:Ad):Prop:=0<j/\j<1073741824
def YE(i j:Ad):Prop:=0<=j/\j<=1000000/\i.natAbs<2 ^ 64
def NQ(i j:Ad):Prop:=(-(2 ^ 64)<i/\i<2 ^ 64)\/(-(2 ^ 64)<j/\j<2 ^ 64)
theorem NQ.ok{i j:Ad}(h:NQ i j):Lz i j:=by
 rcases h with ⟨h1,h2⟩|⟨h1,h2⟩
 ·exact .of_left (intBits_le_64 h1 h2)
 ·exact .of_right (intBits_le_64 h1 h2)
theorem pW:OpR X (Cv .Add) (rI0 fun i j=>.int (i+j)):=Rx fun _ _ _ _ _ _ _ q=>add_int q
theorem rF:OpR X (Cv .Sub) (rI0 fun i j=>.int (i-j)):=Rx fun _ _ _ _ _ _ _ q=>sub_int q
theorem gZ:OpR X (Cv .FloorDiv) (rI YF fun i j=>.int (i / j)):=opI fun i j _ _ _ _ _ hc q=>by
 have h1:(0:Ad)<j:=hc.1;have h2:j<1073741824:=hc.2;exact floordiv_int (by omega) (by rw[Int.fdiv_eq_ediv_of_nonneg i (by omega)];exact q) (.inl (PyProof.noPylong_small (by omega)))
theorem rH:OpR X (Cv .Mod) (rI (fun _ j=>0<j) fun i j=>.int (i%j)):=opI fun i j _ _ _ _ _ hc q=>by
 have h1:(0:Ad)<j:=hc;exact mod_int' (by omega) (by rw[Int.fmod_eq_emod_of_nonneg i (by omega)];exact q)
theorem rG:OpR X (Cv .Pow) (rI YE fun i j=>.int (i ^ j.toNat)):=opI fun _ _ _ _ _ _ _ hc q=>pow_int_small hc.1 hc.2.1 hc.2.2 q
theorem unI{f:Ai->Hg Ai}{g:Ad->Ad}(rule:∀(i:Ad)(t:DG)(s:Aq)(Q:Vq)(E:Vq),Q (.int (g i) s.toks) {s with toks:=s.toks+1}->Ax (model X.prog X.w) X.A (f (.int i t)) Q E s):UnR X f (rU fun i=>.int (g i)):=by
 intro pI s σ H x v Q I rx h;obtain⟨i,rfl,q⟩:=h;obtain⟨t,rfl⟩:=rx;exact rule i t s _ _ ⟨.int (g i),H,I.tok _,⟨_,rfl⟩,q⟩
theorem mC:UnR X (unaryOp .USub) (rU fun i=>.int (-i)):=unI fun _ _ _ _ _ q=>neg_int q
end
section
variable{X:Cx}{a b c:Ar}{ta tb tc:TE}{pos:A8}
theorem Vd{Q:VK}{k k':Ap}(I:Inv X pI σ H s)(q:Q (.bl k) H)(e:k=k'):EP X pI σ Q (.bool k') s:=by
 subst e;exact⟨.bl k,H,I,rfl,q⟩
theorem uZ:OpR X (C4 .Lt) (rI0 fun i j=>.bl (decide (i<j))):=NI fun _ _ _ _ _ _ _ q=>lt_int q
theorem vC:OpR X (C4 .LtE) (rI0 fun i j=>.bl (decide (i<=j))):=NI fun _ _ _ _ _ _ _ q=>le_int q
theorem vD:OpR X (C4 .Gt) (rI0 fun i j=>.bl (decide (j<i))):=NI fun _ _ _ _ _ _ _ q=>gt_int q
theorem vE:OpR X (C4 .GtE) (rI0 fun i j=>.bl (decide (j<=i))):=NI fun _ _ _ _ _ _ _ q=>ge_int q
theorem rJ:OpR X (C4 .Is) (fun x y H Q=>y=.non/\Q (.bl (decide (x=.non))) H):=by
 intro pI s σ H x y v u Q I rx ry h;obtain⟨rfl,q⟩:=h;cases ry;refine is_none_gen (Vd I q ?_);cases x<;>first
  |(cases rx;rfl)
  |(obtain⟨t,rfl⟩:=rx;rfl)
theorem gX:OpR X (C4 .IsNot) (fun x y H Q=>y=.non/\Q (.bl (!decide (x=.non))) H):=by
 intro pI s σ H x y v u Q I rx ry h;obtain⟨rfl,q⟩:=h;cases ry;refine isnot_none_gen (Vd I q ?_);cases x<;>first
  |(cases rx;rfl)
  |(obtain⟨t,rfl⟩:=rx;rfl)
theorem jH(ho:OpR X (C4 op) r)(ha:PE X a ta)(hb:PE X b tb)(hm:Hi op b=Ae):PE X (.Compare a [op] [b] pos) (tOp r ta tb):=by
 intro pI s σ H Q I h;exact wpAny_Compare1 (Q7 ha hb I h fun v u s2 x y H2 I2 rx ry q=>ho pI s2 σ H2 x y v u Q I2 rx ry q) hm
def VB(t:TE):TT:=fun σ H Q=>t σ H fun x H'=>∃ k,x=.bl k/\Q k H'
theorem iY(ho:OpR X (C4 op) r)(ha:PE X a ta)(hb:PE X b tb)(hm:Hi op b=Ae):PT X (.Compare a [op] [b] pos) (VB (tOp r ta tb)):=by
 intro pI s σ H Q I h;refine wpAny_isTrue_Compare1 (thn (ha pI s σ H _ I h) fun v s1 ⟨x,H1,I1,r1,q1⟩=>thn (hb pI s1 σ H1 _ I1 q1) fun u s2 ⟨y,H2,I2,r2,q2⟩=>
  thn (ho pI s2 σ H2 x y v u _ I2 r1 r2 q2) fun c s3 ⟨z,H3,I3,r3,k,e,q3⟩=>?_) hm
 subst e;cases r3;exact Ct ⟨H3,I3,q3⟩
def Vr(r r':R2)(ta tb tc:TE):TE:=fun σ H Q=>ta σ H fun x H1=>tb σ H1 fun y H2=>r x y H2 fun z H3=>∃ k,z=.bl k /\
 (if k=Aa then tc σ H3 fun w' H4=>r' y w' H4 Q else Q (.bl Ae) H3)
theorem cB{op':FH}{r':R2}(ho:OpR X (C4 op) r)(ho':OpR X (C4 op') r')(ha:PE X a ta)(hb:PE X b tb)(hc:PE X c tc)(hm:Jz [op,op'] [b,c]=Ae:=by with_unfolding_all rfl):PE X (.Compare a [op,op'] [b,c] pos) (Vr r r' ta tb tc):=by
 intro pI s σ H Q I h;refine Compare_chain (thn (ha pI s σ H _ I h) fun v s1 ⟨x,H1,I1,r1,q1⟩=>chain_link (thn (hb pI s1 σ H1 _ I1 q1) fun u s2 ⟨y,H2,I2,r2,q2⟩=>
  thn (ho pI s2 σ H2 x y v u _ I2 r1 r2 q2) fun d s3 ⟨z,H3,I3,r3,k,e,q3⟩=>?_)) hm
 subst e;cases r3;refine Ct ?_;cases k with
 |false=>exact ite_ff ⟨.bl Ae,H3,I3,rfl,q3⟩
 |true=>exact ite_tt (chain_last (thn (hc pI s3 σ H3 _ I3 q3) fun w' s4 ⟨z',H4,I4,r4,q4⟩=>ho' pI s4 σ H4 y z' u w' Q I4 r2 r4 q4))
theorem bV{op':FH}{r':R2}(ho:OpR X (C4 op) r)(ho':OpR X (C4 op') r')(ha:PE X a ta)(hb:PE X b tb)(hc:PE X c tc)(hm:Jz [op,op'] [b,c]=Ae:=by with_unfolding_all rfl):PT X (.Compare a [op,op'] [b,c] pos) (VB (Vr r r' ta tb tc)):=by
 intro pI s σ H Q I h;refine isTrue_chain (thn (ha pI s σ H _ I h) fun v s1 ⟨x,H1,I1,r1,q1⟩=>test_link (thn (hb pI s1 σ H1 _ I1 q1) fun u s2 ⟨y,H2,I2,r2,q2⟩=>
  thn (ho pI s2 σ H2 x y v u _ I2 r1 r2 q2) fun d s3 ⟨z,H3,I3,r3,k,e,q3⟩=>?_)) hm
 subst e;cases r3;refine Ct ?_;cases k with
 |false=>
  obtain⟨k',e',q'⟩:=q3;cases e';exact ite_ff ⟨H3,I3,q'⟩
 |true=>
  refine ite_tt (test_last (thn (hc pI s3 σ H3 _ I3 q3) fun w' s4 ⟨z',H4,I4,r4,q4⟩=>thn (ho' pI s4 σ H4 y z' u w' _ I4 r2 r4 q4) fun d' s5 ⟨z2,H5,I5,r5,k2,e2,q5⟩=>?_))
  subst e2;cases r5;exact Ct ⟨H5,I5,q5⟩
noncomputable def Q9(K:Fg)(x:V)(H:Hp)(k:Ap):Prop:=
  match x with
  |.non=>k=Ae
  |.bl b=>k=b
  |.int i=>k=(i != 0)
  |.str y=>y.length<=sizeLine/\k=((y.length:Ad) != 0)
  |.byt y=>y.size<=sizeLine/\k=((y.size:Ad) != 0)
  |.ref p=>(∃ xs,SqL K H p xs/\k=!xs.isEmpty)\/(∃ xs,SqT K H p xs/\k=!xs.isEmpty)\/∃ kvs,H p=Ab (.dK kvs)/\k=!kvs.isEmpty
  |_=>BF
theorem ZJ{κ:Type}{kvs:Ac (κ×V)}{vs:Ac (κ×Ai)}(r:KV kvs vs):(!vs.isEmpty)=!kvs.isEmpty:=by
 cases r<;>rfl
theorem Se{its:Ac Ai}(r:Bq xs its):(!its.toArray.isEmpty)=!xs.isEmpty:=by
 cases r<;>simp
theorem K0:(sizeLine:Ag)<2 ^ 63:=by rw[CS];decide
theorem mH:YU X (fun x H Q=>∃ k,Q9 X.K x H k/\Q k H):=by
 intro pI s σ H x v Q I rx h;obtain⟨k,e,q⟩:=h;have hl:=K0;have hs:sizeLine=16777216:=CS;cases x with
 |non=>
  cases rx;have e':k=Ae:=e;subst e';exact truthy_none ⟨H,I,q⟩
 |bl b=>
  cases rx;have e':k=b:=e;subst e';exact Ct ⟨H,I,q⟩
 |int i=>
  obtain⟨t,rfl⟩:=rx;have e':k=(i != 0):=e;subst e';exact PySem.P.truthy_int ⟨H,I,q⟩
 |str y=>
  obtain⟨t,rfl⟩:=rx;obtain⟨hy,e'⟩:y.length<=sizeLine/\k=((y.length:Ad) != 0):=e;subst e';exact PySem.P.truthy_str (by omega) ⟨H,I.tok _,q⟩
 |byt y=>
  obtain⟨t,rfl⟩:=rx;obtain⟨hy,e'⟩:y.size<=sizeLine/\k=((y.size:Ad) != 0):=e;subst e';exact PySem.W.truthy_bytes (by omega) ⟨H,I.tok _,q⟩
 |ref p=>
  cases rx;have e':(∃ xs,SqL X.K H p xs/\k=!xs.isEmpty)\/(∃ xs,SqT X.K H p xs/\k=!xs.isEmpty)\/∃ kvs,H p=Ab (.dK kvs)/\k=!kvs.isEmpty:=e;rcases e' with ⟨xs,hx,e'⟩|⟨xs,hx,e'⟩|⟨kvs,hx,e'⟩
  ·subst e';obtain⟨its,r,pl,hz⟩:=I.list hx;have hlen:=r.length;exact wpAny_truthy_list pl.isList (by simp only[AE];omega) ⟨H,I.tok _,by rw[Se r];exact q⟩
  ·subst e';obtain⟨its,r,pl,hz⟩:=I.tuple hx;have hlen:=r.length;exact truthy_tuple pl (by simp only[AE];omega) ⟨H,I.tok _,by rw[Se r];exact q⟩
  ·subst e';obtain⟨hz,hS,vs,r,m⟩:kvs.length<=sizeLine/\(p==Kw)=Ae/\∃ vs,KV kvs vs/\s.heap.DictOf (Pj X.prog X.w) p vs:=I.hok p _ hx;have hlen:kvs.length=vs.length:=XZ r;exact wpAny_truthy_dict hS m (by omega) ⟨H,I.tok _,by rw[ZJ r];exact q⟩
 |_=>exact(show BF from e).elim
theorem bU(ha:PE X a ta)(he:∀ whole,IN a X.env whole=(do let v <-whole;HA a.pos;holding [v] (truthy v))):PT X a (fun σ H Q=>ta σ H fun x H'=>∃ k,Q9 X.K x H' k/\Q k H'):=by
 intro pI s σ H Q I h;exact isTrue_plain (thn (ha pI s σ H _ I h) fun v s1 ⟨x,H1,I1,r1,q1⟩=>mH pI s1 σ H1 x v Q I1 r1 q1) (he _)
theorem ZG:OpR X (Cv .Add) (fun x y H Q=>∃ i j,x=.str i/\y=.str j/\i.length+j.length<=sizeLine/\Q (.str (i++j)) H):=by
 intro pI s σ H x y v u Q I rx ry h;obtain⟨i,j,rfl,rfl,hz,q⟩:=h;obtain⟨t,rfl⟩:=rx;obtain⟨t',rfl⟩:=ry;exact add_str (fun t' tk=>⟨.str (i++j),H,I.tok _,⟨_,rfl⟩,q⟩) hz
theorem Ia{x:V}(r:Bq [x] us):∃ u,us=[u]/\BZ x u:=by
 cases r with
 |cons r1 r2=>cases r2;exact⟨_,rfl,r1⟩
theorem Qx{x y:V}(r:Bq [x,y] us):∃ u w',us=[u,w']/\BZ x u/\BZ y w':=by
 cases r with
 |cons r1 r2=>
  cases r2 with
  |cons r3 r4=>cases r4;exact⟨_,_,rfl,r1,r3⟩
theorem aR(hc:X.calm=Aa):IE X (.builtin "min") (fun xs H Q=>∃ i j,xs=[.int i,.int j]/\Q (.int (if j<i then j else i)) H):=by
 intro pI s σ H xs us Q I r h;obtain⟨i,j,rfl,q⟩:=h;obtain⟨u,w',rfl,⟨t,rfl⟩,⟨t',rfl⟩⟩:=Qx r;refine min_two_ints (I.ok.hd hc) fun h' tk k=>⟨_,H,I.kept k,?_,q⟩
 by_cases hj:j<i
 ·rw[AD hj,AD hj];exact⟨_,rfl⟩
 ·rw[AH hj,AH hj];exact⟨_,rfl⟩
end
section
variable{prog:A5}{w:AJ}{A:Bv}{E:Vq}{s:Aq}{K:Fg}{x dx C f:Ak}{mA:Al->Au Ai}{name:Al}{v:Ai}
end
section
variable{P:A5}{w:AJ}{H H':Hp}{h h':AQ}{a C dx:Ak}{fs fs':Ac (Al×V)}
end
section
variable{X:Cx}{pI:Pn}{σ:St}{H:Hp}{s:Aq}{a C dx:Ak}{fs:Ac (Al×V)}{f:Al}{v:V}{A:Bv}{E:Vq}
end
section
variable{X:Cx}{o e value:Ar}{f:Al}{pos pos' tpos:A8}{ta tv:TE}
end
section
variable{X:Cx}{pI:Pn}{σ:St}{H:Hp}{s:Aq}{A:Bv}{E:Vq}{Q:Vq}{c:Ai}{b:Ap}
end
structure Room (k:Ag) (A:Bv):Prop where
 hd:A.handled=Af
 dp:A.depth+3*k+5<Yl
 un:A.units+16*k+200<Cf
theorem Room.deeper{A:Bv}(r:Room (k+1) A)(env:CA):Room k (A.deeper env):=
 ⟨r.hd,by have:=r.dp;show A.depth+1+3*k+5<_;omega,by have:=r.un;show A.units+3+16*k+200<_;omega⟩
theorem Room.depth{A:Bv}(r:Room k A):A.depth<Yl:=by have:=r.dp;omega
theorem Room.units{A:Bv}(r:Room k A):A.units+64<Cf:=by have:=r.un;omega
def Y0:TA:=fun _ H Q=>Q [] H
def uM(ta:TE)(tr:TA):TA:=fun σ H Q=>ta σ H fun x H1=>tr σ H1 fun xs H2=>Q (x::xs) H2
section
variable{X:Cx}{e:Ar}{es:Ac Ar}{te:TE}{t:TA}{pos:A8}
theorem GW:PA X [] Y0:=fun _ _ _ _ H Q I h=>FZ ⟨[],H,I,.nil,h⟩
theorem Fk(ha:PE X e te)(hr:PA X es t)(hs:AG (e::es) X.env=(Ae,eval e X.env)::AG es X.env:=by rfl):PA X (e::es) (uM te t):=by
 intro pos pI s σ H Q I h;rw[hs];show Ax _ _ (spliced ((Ae,eval e X.env)::CV pos (AG es X.env))) _ _ s;refine FO (thn (ha pI s σ H _ I h) fun u s1 ⟨x,H1,I1,r1,q1⟩=>?_)
 exact thn (hr pos pI s1 σ H1 _ I1 q1) fun us s2 ⟨xs,H2,I2,r2,q2⟩=>⟨x::xs,H2,I2,.cons r1 r2,q2⟩
def YB(t:TA):TE:=fun σ H Q=>t σ H fun xs H1=>xs.length<=sizeLine/\∀ p,H1 p=Af->Q (.ref p) (upd H1 p (.tup xs))
def Y1(t:TA):TE:=fun σ H Q=>t σ H fun xs H1=>xs.length<=sizeLine/\∀ p,H1 p=Af->Q (.ref p) (upd H1 p (.lst xs))
theorem qU{x1}(h:PA X es t):PE X (.Tuple es x1 pos) (YB t):=by
 intro pI s σ H Q I hq;refine wpAny_Tuple_spliced (thn (h pos pI s σ H _ I hq) fun us s1 ⟨xs,H1,I1,r,z,q⟩=>⟨by rw[<-r.length];exact z,?_⟩)
 have hf:H1 s1.heap.objs.size=Af:=I1.hok.fresh (AS _);refine⟨.ref s1.heap.objs.size,upd H1 s1.heap.objs.size (.tup xs),I1.laid (t':=s1.toks) (fun b u e=>Ao _ e) (AS _) ?_,rfl,q _ hf⟩
 exact⟨z,us,r,⟨_,Aw _ rfl,rfl,_,rfl⟩⟩
theorem qZ(h:PA X es t):PE X (.List es pos) (Y1 t):=by
 intro pI s σ H Q I hq;refine wpAny_List_spliced (thn (h pos pI s σ H _ I hq) fun us s1 ⟨xs,H1,I1,r,z,q⟩=>⟨by rw[<-r.length];exact z,?_⟩)
 have hf:H1 s1.heap.objs.size=Af:=I1.hok.fresh (AS _);refine⟨.ref s1.heap.objs.size,upd H1 s1.heap.objs.size (.lst xs),I1.laid (t':=s1.toks) (fun b u e=>Ao _ e) (AS _) ?_,rfl,q _ hf⟩
 exact⟨z,us,0,r,Aw _ rfl⟩
end
abbrev Sp:=Ac V->Hp->VK->XK->Prop
variable{sp:Sp}
abbrev CXT:=Ac CA->Hp->Aq->XK->Ai->Aq->Prop
variable{CX:CXT}
structure Env0 (P:A5) (w:AJ) (K:Fg) (mg:Al->Au Ai) (base:AQ) (A:Bv) (outer:Ac CA) (s:Aq) (H:Hp):Prop where
 frames:A.frames=Ab outer
 mod:Mod K mg base
 bs:∀ b o,base.get? b=Ab o->s.heap.get? b=Ab o/\H b=Af
 bsz:base.objs.size<=s.heap.objs.size
 funs:s.heap.FunFrames base outer
 frf:∀ b∈frs outer,H b=Af
 hok:HOk P w H s.heap
 bare:FU s.gens
noncomputable def CE(outer:Ac CA)(P:A5)(w:AJ)(H:Hp)(s:Aq)(Q:VK)(u:Ai)(s':Aq):Prop:=
 ∃ v H',s'.os=s.os/\FU s'.gens/\Un (frs outer) [] H H' s.heap s'.heap/\HOk P w H' s'.heap/\BZ v u/\Q v H'
noncomputable def CR(CX:CXT)(outer:Ac CA)(P:A5)(w:AJ)(H:Hp)(s:Aq)(Q:VK)(E:XK)(r:Kn)(s':Aq):Prop:=
  match r with
  |.ok (.ret u)=>CE outer P w H s Q u s'
  |.ok _=>BF
  |.error e=>CX outer H s E e s'
structure FnOk (P:A5) (w:AJ) (K:Fg) (mg:Al->Au Ai) (base:AQ) (CX:CXT) (k:Ag) (f:Ak) (fd:CW) (ps:Ac Al) (sp:Sp):Prop where
 len:∀ vs H Q E,sp vs H Q E->vs.length=ps.length
 run:∀(A:Bv)(outer:Ac CA)(s:Aq)(H:Hp)(args:Args)(us:Ac Ai)(vs:Ac V)(Q:VK)(E:XK),Room k A->Env0 P w K mg base A outer s H->Hy s fd args (ps.zip us)->Bq vs us->sp vs H Q E ->
  DU (model P w) A (.call (.ref f) args) (CR CX outer P w H s Q E) s
theorem FnOk.imp{w:AJ}{K:Fg}{mg:Al->Au Ai}{base:AQ}{f:Ak}{sp':Sp}(F:FnOk P w K mg base CX k f fd ps sp)(h:∀ vs H Q E,sp' vs H Q E->sp vs H Q E):FnOk P w K mg base CX k f fd ps sp':=
 ⟨fun vs H Q E q=>F.len vs H Q E (h _ _ _ _ q),fun A outer s H args us vs Q E hr he hb hv hs=>F.run A outer s H args us vs Q E hr he hb hv (h _ _ _ _ hs)⟩
section
variable{X:Cx}{pI:Pn}{σ:St}{H:Hp}{s s':Aq}
theorem Inv.env0(I:Inv X pI σ H s):Env0 X.prog X.w X.K X.mg X.base X.A X.stack s H:=
 ⟨I.ok.frames,I.ok.mod,I.bs,BD I.ok.bsz I.sz,I.stack,I.stkFree,I.hok,I.bare⟩
theorem Inv.after{Q:VK}(I:Inv X pI σ H s)(h:CE X.stack X.prog X.w H s Q u s'):EP X pI σ Q u s':=by
 obtain⟨v,H',os,bare,un,hok,r,q⟩:=h;obtain⟨hh,g,d,t,os'⟩:=s';obtain rfl:os'=s.os:=os;exact⟨v,H',I.call (h':=hh) (g':=g) (d':=d) (t':=t) (ch:=[]) un hok bare (fun b z=>absurd z (by simp)),r,q⟩
end
def uN(sp:Sp)(dvs:Ac V)(E:XK)(t:TA):TE:=fun σ H Q=>t σ H fun vs H1=>sp (vs++dvs) H1 Q E
noncomputable def IF(K:Fg)(fd:CW)(ps:Ac Al)(ds:Ac Ai):Prop:=
 ∀(s:Aq)(us:Ac Ai),K.In s.heap->(us++ds).length=ps.length->Hy s fd ⟨us,[]⟩ (ps.zip (us++ds))
theorem IF.all{K:Fg}(h:∀ us:Ac Ai,us.length=ps.length->LG fd ⟨us,[]⟩=pure (ps.zip us)):IF K fd ps []:=fun s us _ hl=>by
 rw[DD]at hl ⊢;exact .of_eq (h us hl)
def K3(CX:CXT)(X:Cx)(E:XK):Prop:=∀(pI:Pn)(σ:St)(H:Hp)(s:Aq)(e:Ai)(s':Aq),Inv X pI σ H s->CX X.stack H s E e s'->X.xe e s'
section
variable{X:Cx}{CX:CXT}{k:Ag}{f C:Ak}{fd:CW}{ps:Ac Al}{sp:Sp}{dvs:Ac V}{ds:Ac Ai}{E:XK}{x m:Al}{p pos apos:A8}{e o:Ar}{es:Ac Ar}{ta:TE}{t:TA}
theorem nY{Q:VK}(F:FnOk X.prog X.w X.K X.mg X.base CX k f fd ps sp)(hr:Room k X.A)(hb:IF X.K fd ps ds)(hd:Bq dvs ds)(hx:K3 CX X E)(I:Inv X pI σ H s)(r:Bq vs us)(h:sp (vs++dvs) H Q E):Ax (model X.prog X.w) X.A (call (.ref f) us) (EP X pI σ Q) X.xe s:=by
 have r2:Bq (vs++dvs) (us++ds):=r.append hd;have hl:(us++ds).length=ps.length:=by rw[<-r2.length];exact F.len _ _ _ _ h
 refine wpAny_call (Jx (F.run X.A X.stack s H ⟨us,[]⟩ (us++ds) (vs++dvs) Q E hr I.env0 (hb s us I.kIn hl) r2 h) fun r s' hq=>?_)
 cases r with
 |error e=>exact hx pI σ H s e s' I hq
 |ok fl=>
  cases fl with
  |ret u=>exact I.after hq
  |next=>exact Eo hq
  |brk=>exact Eo hq
  |cont=>exact Eo hq
theorem T4(F:FnOk X.prog X.w X.K X.mg X.base CX k f fd ps sp)(hr:Room k X.A)(hg:Gl X x)(hm:X.mg x=Ab (.ref f))(hk:DT X.K (.ref f)=Aa)(hb:IF X.K fd ps ds)(hd:Bq dvs ds)(hx:K3 CX X E)(ha:PA X (e::es) t)(hdb:(x==("__debug__" : Al))=Ae:=by decide)(he:AG (e::es) X.env=(Ae,eval e X.env)::AG es X.env:=by rfl)(hpl:(CV pos (AG es X.env)).any (·.1)=Ae:=by rfl):PE X (.Call (.Name x p) (e::es) [] pos) (uN sp dvs E t):=by
 intro pI s σ H Q I h;refine Hf (gM I hg hm ?_ hdb);refine PySem.W.callWith_K (h₀:=X.base) I.ok.mod.kin hk (thn (ha pos pI s σ H _ I h) fun us s1 ⟨vs,H1,I1,r,q⟩=>⟨I1.kIn,?_⟩) he hpl
 exact nY F hr hb hd hx I1 r q
end
section
variable{X:Cx}{CX:CXT}{k:Ag}{f C:Ak}{fd:CW}{ps ks:Ac Al}{sp:Sp}{E:XK}{x m:Al}{p pos apos kpos:A8}{e o:Ar}{es:Ac Ar}{kws:Ac Ft}{te ta:TE}{t tk:TA}{nm:Au Al}
variable{g:Ac Ai->Ac Ai->Ac Ai}{gV:Ac V->Ac V->Ac V}
end
structure FnScope (N P:Ac Al) (sc:CP):Prop where
 kind:sc.kind=.function
 co:sc.isCoroutine=Ae
 gen:sc.isGenerator=Ae
 nd:N.Nodup
 pre:N.take P.length=P
 par:∀ x∈P,sc.names.lookup x=Ab .local\/sc.names.lookup x=Ab .cell
 nofree:∀ y∈sc.names,y.2≠.free
theorem Su{kindOf:Al->Au ED}{x:Al}:∀{binds:Ac (Al×Ai)}{m:Al->Au Ai},(∀ v,(x,v)∉binds)->IU kindOf binds m x=m x
 |[],_,_=>rfl
 |(n,v)::r,m,h=>by
  unfold IU;rw[Su fun w hw=>h w (Av _ hw)]
  split
  ·have:x≠n:=by rintro rfl;exact h v AB
   simp[this]
  ·rfl
theorem Sw{kindOf:Al->Au ED}{x:Al}:∀{binds:Ac (Al×Ai)}{m:Al->Au Ai},(∀ v,(x,v)∉binds)->IT kindOf binds m x=m x
 |[],_,_=>rfl
 |(n,v)::r,m,h=>by
  unfold IT;rw[Sw fun w hw=>h w (Av _ hw)]
  split
  ·rfl
  ·have:x≠n:=by rintro rfl;exact h v AB
   simp[this]
theorem Sv{kindOf:Al->Au ED}{x:Al}{v:Ai}:∀{P:Ac Al}{vs:Ac Ai}{i:Ag}{m:Al->Au Ai},P.Nodup->P[i]?=Ab x->vs[i]?=Ab v->kindOf x=Ab .local->IU kindOf (P.zip vs) m x=Ab v
 |[],_,_,_,_,h,_,_=>by simp at h
 |_::_,[],_,_,_,_,h,_=>by simp at h
 |p::P,w::vs,0,m,nd,h1,h2,hk=>by
  simp at h1 h2;subst h1;subst h2;show IU kindOf ((p,w)::P.zip vs) m p=_;unfold IU;rw[Su fun v hv=>(B5.mp nd).1 (Il hv).1,AD hk]
  simp
 |p::P,w::vs,i+1,m,nd,h1,h2,hk=>by
  show IU kindOf ((p,w)::P.zip vs) m x=_;unfold IU;exact Sv (i:=i) (B5.mp nd).2 (by simpa using h1) (by simpa using h2) hk
theorem Sy{kindOf:Al->Au ED}{x:Al}{v:Ai}:∀{P:Ac Al}{vs:Ac Ai}{i:Ag}{m:Al->Au Ai},P.Nodup->P[i]?=Ab x->vs[i]?=Ab v->kindOf x≠Ab .local->IT kindOf (P.zip vs) m x=Ab v
 |[],_,_,_,_,h,_,_=>by simp at h
 |_::_,[],_,_,_,_,h,_=>by simp at h
 |p::P,w::vs,0,m,nd,h1,h2,hk=>by
  simp at h1 h2;subst h1;subst h2;show IT kindOf ((p,w)::P.zip vs) m p=_;unfold IT;rw[Sw fun v hv=>(B5.mp nd).1 (Il hv).1,AH hk]
  simp
 |p::P,w::vs,i+1,m,nd,h1,h2,hk=>by
  show IT kindOf ((p,w)::P.zip vs) m x=_;unfold IT;exact Sy (i:=i) (B5.mp nd).2 (by simpa using h1) (by simpa using h2) hk
noncomputable def start(N:Ac Al)(vs:Ac V):St:=vs.map Ab++E6 (N.length-vs.length) Af
noncomputable def G3(CX:CXT)(P:A5)(w:AJ)(K:Fg)(mg:Al->Au Ai)(base:AQ)(N:Ac Al)(qual:Al)(scope:CP)(f:Ak)(cd:Ai)(A:Bv)(outer:Ac CA)(s:Aq)(H:Hp)(E:XK):Cx where
 prog:=P
 w:=w
 K:=K
 mg:=mg
 base:=base
 A:=A.deeper (Fq qual scope s.heap.objs.size f cd)
 N:=N
 s₀:=s
 H₀:=H
 env:=Fq qual scope s.heap.objs.size f cd
 outer:=outer
 stack:=Fq qual scope s.heap.objs.size f cd::outer
 ex:=[]
 calm:=Aa
 fn:=fun _=>Aa
 pn:=[]
 xe:=fun e s'=>Ax (model P w) (A.deeper (Fq qual scope s.heap.objs.size f cd)) (leaving (Fq qual scope s.heap.objs.size f cd) e) (fun _ s''=>CX outer H s E e s'') (fun e' s''=>CX outer H s E e' s'') s'
theorem TR{sc:CP}(h:sc.names.lookup x=Ab .cell):∃ c,(Dy n sc.names []).lookup x=Ab c:=by
 have q:=X7 sc.names n [] (.inl h);exact Xh.mp q
theorem Z6{w:AJ}{K:Fg}{mg:Al->Au Ai}{base:AQ}{N ps:Ac Al}{f:Ak}{cd:Ai}{A:Bv}{outer:Ac CA}{s1:Aq}{E:XK}(S:FnScope N ps scope)(hd:A.handled=Af)(e0:Env0 P w K mg base A outer s H)(hl:vs.length=ps.length)(r:Bq vs us)(x:InCallC s s.heap.objs.size (IU (Fq qual scope s.heap.objs.size f cd).kindOf (ps.zip us) fun _=>Af) (Dy (s.heap.objs.size+1) scope.names []) (IT (Fq qual scope s.heap.objs.size f cd).kindOf (ps.zip us) fun _=>Af) s1):Inv (G3 CX P w K mg base N qual scope f cd A outer s H E) [] (start N vs) H s1:=by
 have hpl:ps.length<=N.length:=by have:=congrArg WS S.pre;rw[HH]at this;omega
 obtain⟨h1,tk,rfl,hk⟩:=x.done;have noA:∀ b:Ak,b∉(G3 CX P w K mg base N qual scope f cd A outer s H E).ex:=fun b z=>absurd (show b∈([]:Ac Ak) from z) (by simp)
 refine⟨⟨e0.mod,S.kind,rfl,rfl,AS _,fun y z c h1 h2=>?_,fun y hy=>?_,fun y c _ h=>?_,fun _=>hd,Around.frames_deeper e0.frames,.inr ⟨rfl,rfl⟩,fun b z=>absurd z (noA b),e0.bs,e0.bsz,fun b _ _=>noA b,fun b z=>absurd z (noA b),e0.funs,e0.frf⟩,
  rfl,e0.bare,Un.kept hk,⟨_,x.toInCall.ns,fun i y v h1 h2 h3=>?_⟩,fun y c h=>⟨_,x.cell y c h⟩,e0.hok.fresh (AS _),fun y c h=>?_,fun p hp=>absurd (show p∈([]:Pn) from hp) (by simp),e0.hok.kept hk,?_⟩
 ·exact name_of_addr x.apart (C5 h1) (C5 h2)
 ·have hy:scope.names.lookup y=Ab .cell\/scope.names.lookup y=Ab .free:=hy;rcases hy with hy|hy
  ·exact TR hy
  ·exact absurd rfl (S.nofree _ (C5 hy))
 ·exact D4 (x.above y c (C5 h))
 ·have hi:i<vs.length:=by
   unfold start at h2;by_cases hi:i<vs.length
   ·exact hi
   ·rw[WP (by simpa using hi)]at h2
    rw[WQ]at h2;split at h2<;>cases h2
  have ha:vs[i]?=Ab v:=by
   unfold start at h2;rw[FD (by simpa using hi),Eg]at h2
   cases e:vs[i]? with
   |none=>rw[e]at h2;cases h2
   |some a=>rw[e]at h2;cases h2;rfl
  obtain⟨u,hu,rv⟩:=r.get ha;have hp:ps[i]?=Ab y:=by
   rw[<-S.pre,List.getElem?_take_of_lt (by omega)];exact h1
  have ndP:ps.Nodup:=by rw[<-S.pre];exact S.nd.sublist (List.take_sublist _ _)
  refine⟨u,rv,?_⟩;rcases S.par y (DE hp) with k|k
  ·exact .inl ⟨k,Sv ndP hp hu k⟩
  ·obtain⟨c,e⟩:=TR (n:=s.heap.objs.size+1) k;refine .inr ⟨.inl k,c,e,?_⟩;have q:=x.cell y c e;rw[Sy ndP hp hu (by show scope.names.lookup y≠_;rw[k];decide)]at q
   exact q
 ·exact e0.hok.fresh (D4 (x.above y c (C5 h)))
 ·unfold start;show _=N.length;rw[Cz,BR,Gk];omega
theorem V5{w:AJ}{K:Fg}{mg:Al->Au Ai}{base:AQ}{f:Ak}{name:Al}{params:Arguments}{dV kV doc pm cdv ct oc:Ai}{an od:Au Ak}{osl:AM (Au Ai)}{N ps:Ac Al}(lk:K.lookup f=Ab ⟨oc,od,.func (EE name qual params body scope dV kV doc pm an cdv ct),osl⟩)(hcd:GS K cdv qual=Aa)(S:FnScope N ps scope)(len:∀ vs H Q E,sp vs H Q E->vs.length=ps.length)(hbody:∀(A:Bv)(outer:Ac CA)(s:Aq)(H:Hp)(vs:Ac V)(Q:VK)(E:XK),Room k (A.deeper (Fq qual scope s.heap.objs.size f cdv))->sp vs H Q E ->
   ∃ t,PSs (G3 CX P w K mg base N qual scope f cdv A outer s H E) body t/\t {nx:=fun _ H'=>Q .non H',rt:=Q} (start N vs) H):FnOk P w K mg base CX (k+1) f (EE name qual params body scope dV kV doc pm an cdv ct) ps sp:=by
 refine⟨len,fun A outer s H args us vs Q E hr e0 hb r hsp=>?_⟩
 have hl:=len _ _ _ _ hsp;have KX:K.In s.heap:=e0.mod.kin.keeps fun b o e=>(e0.bs b o e).1
 have lim:s.heap.NoLimit:=e0.mod.nolimit.keeps fun b o e=>(e0.bs b o e).1
 have hkind:∀ y∈ps.zip us,scope.names.lookup y.1=Ab .local\/(scope.names.lookup y.1=Ab .cell/\((Dy (s.heap.objs.size+1) scope.names []).lookup y.1).isSome=Aa):=fun ⟨n,v⟩ hy=>by
  rcases S.par n (Il hy).1 with q|q
  ·exact .inl q
  ·exact .inr ⟨q,X7 _ _ _ (.inl q)⟩
 refine codeAny_call_function hr.depth (KX _ _ lk) rfl S.co S.gen rfl (PySem.W.codeRec_of KX hcd) (hb _ _ _ _ ?_);refine wpAny_newFunctionEnv_cells S.kind hkind fun env he s1 x=>?_
 subst he;refine⟨lim.keeps x.toInCall.keep,codeAny_func ?_⟩;obtain⟨t,ht,hq⟩:=hbody A outer s H vs Q E (hr.deeper _) hsp;have I:Inv (G3 CX P w K mg base N qual scope f cdv A outer s H E) [] (start N vs) H s1:=Z6 S hr.hd e0 hl r x;refine CK (ht [] s1 (start N vs) H _ I hq) (fun fl s' hs=>?_) fun e s' hs=>hs
 have fin:∀{σ':St}{H':Hp}{v:V}{u:Ai},Inv (G3 CX P w K mg base N qual scope f cdv A outer s H E) [] σ' H' s'->BZ v u->Q v H'->CE outer P w H s Q u s':=
  fun {σ' H' v u} J rv q=>⟨v,H',J.os,J.bare,J.base,J.hok,rv,q⟩
 cases fl with
 |ret u=>
  obtain⟨v,σ',H',J,rv,q⟩:=hs;exact fin J rv q
 |next=>
  obtain⟨σ',H',J,q⟩:=hs;exact fin (v:=V.non) (u:=Dk) J rfl q
 |brk=>
  obtain⟨_,_,_,q⟩:=hs;exact Eo q
 |cont=>
  obtain⟨_,_,_,q⟩:=hs;exact Eo q
section
variable{X:Cx}{x:Al}{p pos:A8}{e:Ar}{es:Ac Ar}{t:TA}{id T:DM}{r:Ac V->Hp->VK->Prop}
def tCB(r:Ac V->Hp->VK->Prop)(t:TA):TE:=fun σ H Q=>t σ H fun vs H1=>r vs H1 Q
theorem O8(hc:IE X (.builtin id) r)(hg:Gl X x)(hm:X.mg x=Af)(hv:Dh x=Ab (.builtin id))(ha:PA X (e::es) t)(hn:x≠"__name__" := by decide)(hdb:(x==("__debug__" : Al))=Ae:=by decide)(he:AG (e::es) X.env=(Ae,eval e X.env)::AG es X.env:=by rfl)(hpl:(CV pos (AG es X.env)).any (·.1)=Ae:=by rfl):PE X (.Call (.Name x p) (e::es) [] pos) (tCB r t):=by
 intro pI s σ H Q I h;refine Hf (GY I hg hm hv ?_ hn hdb);exact Xk (thn (ha pos pI s σ H _ I h) fun us s1 ⟨vs,H1,I1,r1,q1⟩=>hc pI s1 σ H1 vs us Q I1 r1 q1) he hpl
theorem R9(hc:IE X (.type T) r)(hg:Gl X x)(hm:X.mg x=Af)(hv:Dh x=Ab (.type T))(ha:PA X (e::es) t)(hn:x≠"__name__" := by decide)(hdb:(x==("__debug__" : Al))=Ae:=by decide)(he:AG (e::es) X.env=(Ae,eval e X.env)::AG es X.env:=by rfl)(hpl:(CV pos (AG es X.env)).any (·.1)=Ae:=by rfl):PE X (.Call (.Name x p) (e::es) [] pos) (tCB r t):=by
 intro pI s σ H Q I h;refine Hf (GY I hg hm hv ?_ hn hdb);exact BM (thn (ha pos pI s σ H _ I h) fun us s1 ⟨vs,H1,I1,r1,q1⟩=>hc pI s1 σ H1 vs us Q I1 r1 q1) he hpl
end
end L2
namespace HT
open PySem PyProof.Rows
variable{sl:Ak}
section
open PySem.SeqAt
open PySem.AutoSeq1 (wpAny_loadPart')
open PySem.MeetsSeq PySem.MeetsSeq2 PySem.MeetsSeq3
end
section
variable{prog:A5}{w:AJ}{A:Bv}{E:Vq}{s:Aq}
theorem cat_tup{t b:Ak}{vs ws:Ac Ai}{Q:Vq}(ht:JM s.heap t vs.toArray)(hb:JM s.heap b ws.toArray)(hv:vs≠[])(h1:ws=[]->Q (.ref t) s)(h2:ws≠[]->Q (.ref s.heap.objs.size) { s with heap:=s.heap.push { cls:=.type "tuple", data:=.seq (vs++ws).toArray } })(hsz:vs.length+ws.length<=sizeLine):Ax (model prog w) A (Cv .Add (.ref t) (.ref b)) Q E s:=by
 obtain⟨⟨cls,dd,data,sl⟩,ho,hc,n,hd⟩:=id ht;obtain⟨⟨cls2,dd2,data2,sl2⟩,ho2,hc2,n2,hd2⟩:=id hb;simp only at hc hd hc2 hd2;subst hc hd hc2 hd2;have e:vs.toArray++ws.toArray=(vs++ws).toArray:=by simp
 by_cases hw:ws=[]
 ·exact Jy ⟨_,ho,rfl⟩ ⟨_,ho2,rfl⟩ Yk seq_tuple_add XM XF (XA _ _)
   (tuple_addW1 t b vs.toArray ws.toArray n n2 dd dd2 sl sl2 (by simpa using hv) (by simp[hw])) ⟨ho,ho2,h1 hw⟩
 ·refine Jy ⟨_,ho,rfl⟩ ⟨_,ho2,rfl⟩ Yk seq_tuple_add XM XF (XA _ _)
   (tuple_addW2 t b vs.toArray ws.toArray n n2 dd dd2 sl sl2 (by simpa using hv) (by simpa using hw) (by rw[AE,AE];exact hsz)) ⟨ho,ho2,?_⟩
  rw[e];exact h2 hw
noncomputable def sIx(n d:Ag):Au Ad->Ag
 |none=>d
 |some v=>if v<0 then (v+(n:Ad)).toNat else min v.toNat n
theorem nS(n d:Ag)(hd:d<=n)(o:Au Ad):sIx n d o<=n:=by
 cases o with
 |none=>exact hd
 |some v=>
  show (if v<0 then (v+(n:Ad)).toNat else min v.toNat n)<=n
  by_cases hv:v<0
  ·rw[AD hv];omega
  ·rw[AH hv];exact Nat.min_le_right _ _
theorem UO(v:Ad)(n d:Ag):(if v<0 then max (v+(n:Ad)) 0 else min v (n:Ad))=((sIx n d (Ab v):Ag):Ad):=by
 show (if v<0 then max (v+(n:Ad)) 0 else min v (n:Ad))=(((if v<0 then (v+(n:Ad)).toNat else min v.toNat n):Ag):Ad)
 by_cases hv:v<0
 ·simp only[AD hv];omega
 ·simp only[AH hv];omega
theorem ZN(lo hi:Au Ad)(n:Ag):FF lo hi 1 (n:Ad)=(((sIx n 0 lo:Ag):Ad),((sIx n n hi:Ag):Ad)):=by
 have h1:¬ ((1:Ad)<0):=by omega
 unfold FF;simp only[h1,Gi];refine Bs ?_ ?_
 ·cases lo with
  |none=>rfl
  |some v=>exact UO v n 0
 ·cases hi with
  |none=>rfl
  |some v=>exact UO v n n
theorem ZF(i j:Ag):Et (i:Ad) (j:Ad) 1=j-i:=by
 unfold Et;have h1:(1:Ad) > 0:=by omega
 simp only[h1,HE,Int.ediv_one];split<;>omega
theorem Sd{v:Ai}{o:Au Ad}{Q:Au Ad->Aq->Prop}(p:HM v o)(h:Q o s):Ax (model prog w) A (Builtin.Slice.slicePartIndex v) Q E s:=by
 cases p with
 |none=>exact Xl h
 |int i t=>exact slicePart_int h
theorem Zh{vl vu:Ai}{lo hi:Au Ad}{n:Ag}{Q:Ad×Ad×Ag->Aq->Prop}(hs:s.heap.IsSliceOf sl vl vu .none)(pl:HM vl lo)(pu:HM vu hi)(h:Q (((sIx n 0 lo:Ag):Ad),1,sIx n n hi-sIx n 0 lo) s):Ax (model prog w) A (Xu (.ref sl) (pure (n:Ad))) Q E s:=by
 obtain⟨os,hos,hcs,hds⟩:=id hs;unfold Xu Builtin.Slice.sliceFields;refine Ah (Ah (Bu hos hds (x:=vl) rfl (Ah (Bu hos hds (x:=vu) rfl (Ah (Bu hos hds (x:=.none) rfl (As ?_)))))));refine Ah (Xl ?_);show Ax _ _ (if ((1:Ad)==0)=Aa then _ else _) _ _ s
 rw[AH (by decide)]
 refine Ah (Sd pl (Ah (Sd pu (Ah (As ?_)))));show Ax _ _ (match FF lo hi 1 (n:Ad) with|(lo,hi)=>pure (lo,(1:Ad),Et lo hi 1)) _ _ s
 rw[ZN lo hi n];show Ax _ _ (pure (((sIx n 0 lo:Ag):Ad),(1:Ad),Et ((sIx n 0 lo:Ag):Ad) ((sIx n n hi:Ag):Ad) 1)) _ _ s;rw[ZF];exact As h
theorem bZ(xs:AM Ai)(i k:Ag):((Bl k).filterMap fun(m:Ag)=>xs[((i:Ad)+(m:Ad)*1).toNat]?).toArray=((xs.toList.drop i).take k).toArray:=by
 have e:(fun(m:Ag)=>xs[((i:Ad)+(m:Ad)*1).toNat]?)=fun m=>xs[i+m]?:=by
  funext m
  have:((i:Ad)+(m:Ad)*1).toNat=i+m:=by omega
  rw[this]
 rw[e];have:=pick_run xs i k;rw[List.filterMap_map]at this;have e2:((fun x=>xs[x]?) ∘ fun x=>i+x)=fun m=>xs[i+m]?:=rfl
 rw[e2]at this;rw[this]
theorem getItem_tuple_cut{t:Ak}{items:AM Ai}{vl vu:Ai}{lo hi:Au Ad}{Q:Vq}(ht:JM s.heap t items)(hs:s.heap.IsSliceOf sl vl vu .none)(pl:HM vl lo)(pu:HM vu hi)(hw:¬ (sIx items.size 0 lo=0/\sIx items.size items.size hi=items.size))(h:Q (.ref s.heap.objs.size) { s with heap:=s.heap.push { cls:=.type "tuple", data:=.seq ((items.toList.drop (sIx items.size 0 lo)).take (sIx items.size items.size hi-sIx items.size 0 lo)).toArray } })(hsz:items.size<=sizeLine):Ax (model prog w) A (JN (.ref t) (.ref sl)) Q E s:=by
 have htake:sizeOk (.seq ((items.toList.drop (sIx items.size 0 lo)).take (sIx items.size items.size hi-sIx items.size 0 lo)).toArray):=by
  show ((items.toList.drop (sIx items.size 0 lo)).take (sIx items.size items.size hi-sIx items.size 0 lo)).toArray.size<=sizeLine;rw[AE,HH,WT,CJ];omega
 have hj:sIx items.size items.size hi<=items.size:=nS _ _ (AS _) hi;obtain⟨os,hos,hcs,hds⟩:=id hs;have hTs:s.TypeIs (.ref sl) "slice" := ⟨os,hos,hcs⟩;unfold JN
 try with_reducible refine BQ ?_
 first|refine Ah (As ?_)|skip
 refine Ah (wpAny_sequenceKey ht.typeIs (by decide) ?_)
 refine Ah (Ck (name:=AK "__getitem__") ht.typeIs Xm
  (CH Xm ht.typeIs entry_tuple_getitem ?_ (args_tuple_getitem _ _)))
 show Ax _ _ (Builtin.Tuple.tupleItemsOf (.ref t) >>= _) _ _ s;refine Ah (tupleItemsOf_ ht ?_);refine Ah (wpAny_typeOf hTs ?_);rw[AD (by decide)]
 refine Ah (Zh hs pl pu ?_);have hno:¬ ((((sIx items.size 0 lo:Ag):Ad)==0&&(1:Ad)==1&&(sIx items.size items.size hi-sIx items.size 0 lo)==items.size)=Aa):=by
  intro q;rw[Am,Am]at q;have q1:((sIx items.size 0 lo:Ag):Ad)=0:=eq_of_beq q.1.1;have q2:sIx items.size items.size hi-sIx items.size 0 lo=items.size:=eq_of_beq q.2;exact hw ⟨by omega,by omega⟩
 show Ax _ _ (if (((sIx items.size 0 lo:Ag):Ad)==0&&(1:Ad)==1&&(sIx items.size items.size hi-sIx items.size 0 lo)==items.size)=Aa then _ else _) _ _ s
 rw[AH hno,bZ]
 first
  |exact Ah (m:=Dg _) (B8 (As ⟨_,rfl,As h⟩) htake)
  |exact Ah (m:=Dg _) (B8 (Ah (As (As ⟨_,rfl,As h⟩))) htake)
  |exact Ah (Ah (m:=Dg _) (B8 (As (As ⟨_,rfl,As h⟩)) htake))
  |exact Ah (Ah (m:=Dg _) (B8 (As ⟨_,rfl,As h⟩) htake))
end
end HT
namespace L2
open PySem PySem.Spec PyProof.Rows
variable{xs:Ac V}{us its its':Ac Ai}{n t':Ag}{i:Ad}{pI:Pn}{σ:St}{H:Hp}{s:Aq}{p:Ak}
abbrev TO:=St->Hp->(Au Ad->Hp->Prop)->Prop
noncomputable def PO(X:Cx)(e:Au Ar)(t:TO):Prop:=
 ∀(pI:Pn)(s:Aq)(σ:St)(H:Hp)(Q:Au Ad->Hp->Prop),Inv X pI σ H s->t σ H Q ->
  Ax (model X.prog X.w) X.A (evalPart e X.env) (fun u s'=>∃ o H',Inv X pI σ H' s'/\HM u o/\Q o H') X.xe s
def eL:TO:=fun _ H Q=>Q Af H
def tL(t:TE):TO:=fun σ H Q=>t σ H fun x H1=>∃ i,x=.int i/\Q (Ab i) H1
section
variable{X:Cx}{e:Ar}{te:TE}{lo hi:Au Ar}{tl th:TO}{pos p2:A8}
theorem jD:PO X Af eL:=by
 intro pI s σ H Q I h;rw[evalPart_none];exact As ⟨Af,H,I,.none,h⟩
theorem jC(h:PE X e te):PO X (Ab e) (tL te):=by
 intro pI s σ H Q I hw;rw[evalPart_some];refine thn (h pI s σ H _ I hw) fun u s1 ⟨x,H1,I1,r1,q1⟩=>?_
 obtain⟨i,rfl,q⟩:=q1;obtain⟨t,rfl⟩:=r1;exact⟨Ab i,H1,I1,.int i t,q⟩
noncomputable def SlR(X:Cx)(r:V->Au Ad->Au Ad->Hp->VK->Prop):Prop:=
 ∀(pI:Pn)(s:Aq)(σ:St)(H:Hp)(x:V)(v vl vu:Ai)(lo hi:Au Ad)(sl:Ak)(Q:VK),Inv X pI σ H s->BZ x v->s.heap.IsSliceOf sl vl vu .none->HM vl lo->HM vu hi->r x lo hi H Q ->
  ∃ T id,Ky (.type T) "__getitem__" = pure (Ab (.builtin id))/\s.TypeIs v T/\Ax (model X.prog X.w) X.A (JN v (.ref sl)) (EP X pI σ Q) X.xe s
def tSl(r:V->Au Ad->Au Ad->Hp->VK->Prop)(te:TE)(tl th:TO):TE:=fun σ H Q=>te σ H fun x H1=>tl σ H1 fun l H2=>th σ H2 fun u H3=>r x l u H3 Q
theorem cA{r:V->Au Ad->Au Ad->Hp->VK->Prop}(hr:SlR X r)(he:PE X e te)(hl:PO X lo tl)(hu:PO X hi th):PE X (.Subscript e (.Slice lo hi Af p2) pos) (tSl r te tl th):=by
 intro pI s σ H Q I h;refine Subscript_ (thn (he pI s σ H _ I h) fun v s1 ⟨x,H1,I1,r1,q1⟩=>?_)
 refine wpAny_Slice (thn (hl pI s1 σ H1 _ I1 q1) fun vl s2 ⟨l,H2,I2,pl,q2⟩=>thn (hu pI s2 σ H2 _ I2 q2) fun vu s3 ⟨u,H3,I3,pu,q3⟩=>?_)
 rw[evalPart_none];refine As ?_;have I4:Inv X pI σ H3 { s3 with heap:=s3.heap.push { cls:=.type "slice", data:=.fields #[vl,vu,.none] } }:=I3.kept (t':=s3.toks) fun b ob q=>Ao _ q
 obtain⟨T,id,hT,ht,hg⟩:=hr pI { s3 with heap:=s3.heap.push { cls:=.type "slice", data:=.fields #[vl,vu,.none] } } σ H3 x v vl vu l u s3.heap.objs.size Q I4 r1 (Heap.IsSliceOf.new ..) pl pu q3
 show Ax (model X.prog X.w) X.A (subscriptTail e (.Slice lo hi Af p2) v (.ref s3.heap.objs.size)) (EP X pI σ Q) X.xe { s3 with heap:=s3.heap.push { cls:=.type "slice", data:=.fields #[vl,vu,.none] } }
 exact tail_any (ops:=[.ref s3.heap.objs.size,v]) ht hT hg (by with_unfolding_all rfl)
noncomputable def JG(xs:Ac V)(lo hi:Au Ad):Ac V:=(xs.drop (HT.sIx xs.length 0 lo)).take (HT.sIx xs.length xs.length hi-HT.sIx xs.length 0 lo)
theorem RS(xs:Ac V)(lo hi:Au Ad):(JG xs lo hi).length<=xs.length:=by
 unfold JG;rw[HH,WT];omega
def Rr(K:Fg):V->Au Ad->Au Ad->Hp->VK->Prop:=fun x lo hi H Q=>∃ a xs,x=.ref a/\SqT K H a xs /\
 ¬ (HT.sIx xs.length 0 lo=0/\HT.sIx xs.length xs.length hi=xs.length)/\∀ p,H p=Af->Q (.ref p) (upd H p (.tup (JG xs lo hi)))
theorem oX:SlR X (Rr X.K):=by
 intro pI s σ H x v vl vu lo hi sl Q I rx hs pl pu h;obtain⟨a,xs,rfl,hx,hw,q⟩:=h;cases rx;obtain⟨its,r,ht,hz⟩:=I.tuple hx;have hlen:its.toArray.size=xs.length:=by rw[AE];exact r.length.symm
 refine⟨"tuple", _,PyProof.Rows.slot_tuple_getitem.lookup,ht.typeIs,?_⟩;refine HT.getItem_tuple_cut ht hs pl pu (by rw[hlen];exact hw) ?_ (by rw[hlen];exact hz)
 rw[hlen];refine⟨.ref s.heap.objs.size,_,I.laid (t':=s.toks) (o:=.tup (JG xs lo hi)) (fun b ob q=>Ao _ q) (AS _) ?_,rfl,q _ (I.hok.fresh (AS _))⟩
 exact⟨BD (RS xs lo hi) hz,_,(r.drop (HT.sIx xs.length 0 lo)).take (HT.sIx xs.length xs.length hi-HT.sIx xs.length 0 lo),Jr _ _⟩
def vR(K:Fg):R2:=fun x y H Q=>∃ a b xs ys,x=.ref a/\y=.ref b/\SqT K H a xs/\SqT K H b ys/\xs≠[]/\xs.length+ys.length<=sizeLine /\
 (ys=[]->Q (.ref a) H)/\(ys≠[]->∀ p,H p=Af->Q (.ref p) (upd H p (.tup (xs++ys))))
theorem Bq.nil_iff(r:Bq xs us):us=[]↔xs=[]:=by
 cases r with
 |nil=>simp
 |cons _ _=>simp
theorem hJ:OpR X (Cv .Add) (vR X.K):=by
 intro pI s σ H x y v u Q I rx ry h;obtain⟨a,b,xs,ys,rfl,rfl,ha,hb,hx,hz,q1,q2⟩:=h;cases rx;cases ry;obtain⟨its,r1,p1,_⟩:=I.tuple ha;obtain⟨its2,r2,p2,_⟩:=I.tuple hb;refine HT.cat_tup p1 p2 (fun z=>hx (r1.nil_iff.mp z)) (fun z=>⟨.ref a,H,I,rfl,q1 (r2.nil_iff.mp z)⟩) (fun z=>?_) (by rw[<-r1.length,<-r2.length];exact hz)
 refine⟨.ref s.heap.objs.size,_,I.laid (t':=s.toks) (o:=.tup (xs++ys)) (fun b ob q=>Ao _ q) (AS _) ?_,rfl,q2 (fun w=>z (r2.nil_iff.mpr w)) _ (I.hok.fresh (AS _))⟩
 exact⟨by rw[Cz];exact hz,_,r1.append r2,Jr _ _⟩
end
noncomputable def ixN(n:Ag)(i:Ad):Au Ag:=if 0<=i then (if i<n then Ab i.toNat else Af) else if -(n:Ad)<=i then Ab (i+n).toNat else Af
noncomputable def atI{α:Type}(xs:Ac α)(i:Ad):Au α:=(ixN xs.length i).bind fun j=>xs[j]?
theorem Ud{j:Ag}(h:ixN n i=Ab j):seqIndex? i n=Ab j/\j<n/\-(n:Ad)<=i/\i<n:=by
 unfold ixN at h;by_cases h0:0<=i
 ·rw[AD h0]at h;by_cases h1:i<n
  ·rw[AD h1]at h;have e:i.toNat=j:=BU h;exact⟨by rw[JT h0 h1,e],by omega,by omega,h1⟩
  ·rw[AH h1]at h;cases h
 ·rw[AH h0]at h;by_cases h1:-(n:Ad)<=i
  ·rw[AD h1]at h;have e:(i+n).toNat=j:=BU h;exact⟨by rw[JB (by omega) h1,e],by omega,h1,by omega⟩
  ·rw[AH h1]at h;cases h
theorem Ut{α:Type}{xs:Ac α}{v:α}(h:atI xs i=Ab v):∃ j,seqIndex? i xs.length=Ab j/\xs[j]?=Ab v/\j<xs.length/\-(xs.length:Ad)<=i/\i<xs.length:=by
 unfold atI at h;cases e:ixN xs.length i with
 |none=>rw[e]at h;cases h
 |some j=>
  rw[e]at h;obtain⟨h1,h2,h3,h4⟩:=Ud e;exact⟨j,h1,h,h2,h3,h4⟩
def PV(b:Ar):Prop:=∀ o i,subscripted b Ae o i=operate [o,i] (JN o i)
noncomputable def IxR(X:Cx)(r:R2):Prop:=
 ∀(value slice:Ar)(pI:Pn)(s:Aq)(σ:St)(H:Hp)(x y:V)(v u:Ai)(Q:VK),Inv X pI σ H s->BZ x v->BZ y u->r x y H Q ->
  subscripted slice Ae v u=operate [v,u] (JN v u)->Ax (model X.prog X.w) X.A (subscriptTail value slice v u) (EP X pI σ Q) X.xe s
noncomputable def MtR(X:Cx)(id:DM)(r:V->Ac V->Hp->VK->Prop):Prop:=
 ∀(pI:Pn)(s:Aq)(σ:St)(H:Hp)(x:V)(xs:Ac V)(v:Ai)(us:Ac Ai)(Q:VK),Inv X pI σ H s->BZ x v->Bq xs us->r x xs H Q ->
  Ax (model X.prog X.w) X.A (call (.builtin id) (v::us)) (EP X pI σ Q) X.xe s
section
variable{X:Cx}{a b:Ar}{ta tb:TE}{pos:A8}
theorem IxR.or{r r':R2}(h:IxR X r)(h':IxR X r'):IxR X (fun x y H Q=>r x y H Q\/r' x y H Q):=by
 intro value slice pI s σ H x y v u Q I rx ry q hs;rcases q with q|q
 ·exact h value slice pI s σ H x y v u Q I rx ry q hs
 ·exact h' value slice pI s σ H x y v u Q I rx ry q hs
theorem wF{r:R2}(hr:IxR X r)(ha:PE X a ta)(hb:PE X b tb)(hs:PV b):PE X (.Subscript a b pos) (tOp r ta tb):=by
 intro pI s σ H Q I h;exact Subscript_ (Q7 ha hb I h fun v u s2 x y H2 I2 rx ry q=>hr a b pI s2 σ H2 x y v u Q I2 rx ry q (hs _ _))
def Ru(K:Fg):R2:=fun x y H Q=>∃ p xs i v,x=.ref p/\y=.int i/\SqL K H p xs/\atI xs i=Ab v/\Q v H
def Rt(K:Fg):R2:=fun x y H Q=>∃ p xs i v,x=.ref p/\y=.int i/\SqT K H p xs/\atI xs i=Ab v/\Q v H
theorem kQ:IxR X (Ru X.K):=by
 intro value slice pI s σ H x y v u Q I rx ry h hs;obtain⟨p,xs,i,z,rfl,rfl,hq,he,q⟩:=h;cases rx;obtain⟨t,rfl⟩:=ry;obtain⟨its,r,pl,hz⟩:=I.list hq;obtain⟨j,h1,h2,h3,h4,h5⟩:=Ut he;obtain⟨w,ew,rw'⟩:=r.get h2;have hl:=r.length;have hn:=K0;have fin:EP X pI σ Q w s:=⟨z,H,I,rw',q⟩;by_cases h0:0<=i
 ·have hj:i.toNat=j:=by
   rw[JT h0 h5]at h1;exact BU h1
  exact item_listR pl.isList h0 (by omega) (by rw[hj];simpa using ew) fin hs
 ·have hj:(i+(its.toArray.size:Ad)).toNat=j:=by
   rw[JB (by omega) h4]at h1
   rw[AE,<-hl];exact BU h1
  exact Xn (x:=w) pl.isList.typeIs Yn.lookup
   (wpAny_getItem_list_neg (Q:=fun r s'=>r=w/\EP X pI σ Q r s') pl.isList (by omega) (by rw[AE]<;>omega) (by omega) (by rw[hj];simpa using ew) ⟨rfl,fin⟩) hs
theorem qL:IxR X (Rt X.K):=by
 intro value slice pI s σ H x y v u Q I rx ry h hs;obtain⟨p,xs,i,z,rfl,rfl,hq,he,q⟩:=h;cases rx;obtain⟨t,rfl⟩:=ry;obtain⟨its,r,pl,hz⟩:=I.tuple hq;obtain⟨j,h1,h2,h3,h4,h5⟩:=Ut he;obtain⟨w,ew,rw'⟩:=r.get h2;have hl:=r.length;have hn:=K0;have fin:EP X pI σ Q w s:=⟨z,H,I,rw',q⟩;exact Xn (x:=w) pl.typeIs slot_tuple_getitem.lookup
  (getItem_tuple (j:=j) (Q:=fun r s'=>r=w/\EP X pI σ Q r s') pl (by omega) (by omega) (by rw[AE,<-hl];exact h1) (by simpa using ew) ⟨rfl,fin⟩) hs
theorem ZH(its:Ac Ai)(n j:Ag)(u:Ai):Br (·.setIfInBounds j u) { cls:=.type "list", data:=.seq its.toArray n }={ cls:=.type "list", data:=.seq (its.set j u).toArray n }:=by
 simp[Br]
theorem Inv.lst(I:Inv X pI σ H s)(h:H p=Ab (.lst xs)):
  ∃(its:Ac Ai)(n:Ag),Bq xs its/\s.heap.get? p=Ab { cls:=.type "list", data:=.seq its.toArray n }/\xs.length<=sizeLine:=by
 obtain⟨z,its,n,r,e⟩:=I.hok p _ h;exact⟨its,n,r,e,z⟩
theorem Inv.lstUpd{ys:Ac V}{n':Ag}{f:Dz->Dz}(I:Inv X pI σ H s)(h:H p=Ab (.lst xs))(ho:s.heap.get? p=Ab { cls:=.type "list", data:=.seq its.toArray n })(hf:f { cls:=.type "list", data:=.seq its.toArray n }={ cls:=.type "list", data:=.seq its'.toArray n' })(r:Bq ys its')(hz:ys.length<=sizeLine)(t:Ag):Inv X pI σ (upd H p (.lst ys)) {s with heap:=s.heap.update p f,toks:=t}:=by
 have e:(s.heap.update p f).get? p=Ab { cls:=.type "list", data:=.seq its'.toArray n' }:=by
  rw[Ce f ho (by rw[hf]<;>rfl),hf]
 refine I.write (x:=p) (e:=p) (by rw[h];trivial) (.inl rfl) (fun b u hb q=>(Bk _ _ (C1 hb)).trans q) ⟨_,e⟩ ?_
 exact⟨hz,its',n',r,e⟩
def vN:V->V->V->Hp->(Hp->Prop)->Prop:=fun o i v H Q=>∃ p xs k j,o=.ref p/\i=.int k/\H p=Ab (.lst xs)/\ixN xs.length k=Ab j/\Q (upd H p (.lst (xs.set j v)))
theorem O6:Re X vN:=by
 intro pI s σ H o i v ov iv u Q I ro ri rv h;obtain⟨p,xs,k,j,rfl,rfl,hp,hj,q⟩:=h;cases ro;obtain⟨t,rfl⟩:=ri;obtain⟨its,n,r,ho,hz⟩:=I.lst hp;obtain⟨h1,h2,h3,h4⟩:=Ud hj;have hl:=r.length;have hn:=K0;have I':Inv X pI σ (upd H p (.lst (xs.set j v))) {s with heap:=s.heap.update p (Br (·.setIfInBounds j u))}:=
  I.lstUpd hp ho (ZH its n j u) (r.set rv j) (by rw[Bz];exact hz) s.toks
 by_cases h0:0<=k
 ·have hk:k.toNat=j:=by
   rw[JT h0 h4]at h1;exact BU h1
  exact PySem.W.ki_setAt ho h0 (by omega) (by rw[AE,<-hl];exact h4) (by rw[hk];exact⟨_,I',q⟩)
 ·have hk:(k+(its.toArray.size:Ad)).toNat=j:=by
   rw[JB (by omega) h3]at h1
   rw[AE,<-hl];exact BU h1
  exact PySem.W.ki_setBack ho (by omega) (by rw[AE,<-hl];exact h3) (by omega) (by rw[hk];exact⟨_,I',q⟩)
theorem Zm(lo hi:Au Ad)(n:Ag):(Fv lo hi Af n).1=((HT.sIx n 0 lo:Ag):Ad)/\(Fv lo hi Af n).2.1=((HT.sIx n n hi:Ag):Ad)/\(Fv lo hi Af n).2.2=1:=by
 refine⟨?_,?_,rfl⟩
 ·cases lo with
  |none=>simp[Fv,HT.sIx]
  |some i=>
   simp only[Fv,HT.sIx,Xg,show (1:Ad) > 0 by decide,HE]
   by_cases h:i<0
   ·simp only[h,HE]<;>omega
   ·simp only[h,Gi]<;>omega
 ·cases hi with
  |none=>simp[Fv,HT.sIx]
  |some i=>
   simp only[Fv,HT.sIx,Xg,show (1:Ad) > 0 by decide,HE]
   by_cases h:i<0
   ·simp only[h,HE]<;>omega
   ·simp only[h,Gi]<;>omega
theorem Zn(its:Ac Ai)(lo hi:Au Ad):slicePick its.toArray lo hi Af=((its.drop (HT.sIx its.length 0 lo)).take (HT.sIx its.length its.length hi-HT.sIx its.length 0 lo)).toArray:=by
 obtain⟨h1,h2,h3⟩:=Zm lo hi its.toArray.size;unfold slicePick;rw[h1,h2,h3];simp only[sliceRange_one,pick_run,AE]<;>rfl
def Rs(K:Fg):V->Au Ad->Au Ad->Hp->VK->Prop:=fun x lo hi H Q=>∃ a xs,x=.ref a/\SqL K H a xs/\∀ p,H p=Af->Q (.ref p) (upd H p (.lst (JG xs lo hi)))
theorem fG:SlR X (Rs X.K):=by
 intro pI s σ H x v vl vu lo hi sl Q I rx hs pl pu h;obtain⟨a,xs,rfl,hx,q⟩:=h;cases rx;obtain⟨its,r,ht,hz⟩:=I.list hx;have hlen:=r.length;refine⟨"list", _,Yn.lookup,ht.isList.typeIs,?_⟩;refine wpAny_getItem_list_slice ht.isList hs pl pu .none (by simp) ?_ (by rw[AE]<;>omega)
 rw[Zn,<-hlen];refine⟨.ref s.heap.objs.size,_,I.laid (t':=s.toks) (o:=.lst (JG xs lo hi)) (fun b ob q=>Ao _ q) (AS _) ?_,rfl,q _ (I.hok.fresh (AS _))⟩
 exact⟨BD (RS xs lo hi) hz,_,0,(r.drop (HT.sIx xs.length 0 lo)).take (HT.sIx xs.length xs.length hi-HT.sIx xs.length 0 lo),Aw _ rfl⟩
theorem RK:IE X (.builtin "len") (fun xs H Q=>∃ p ys,xs=[.ref p]/\(SqL X.K H p ys\/SqT X.K H p ys)/\Q (.int ys.length) H):=by
 intro pI s σ H xs us Q I r h;obtain⟨p,ys,rfl,hq,q⟩:=h;obtain⟨u,rfl,rx⟩:=Ia r;cases rx;have hn:=K0;rcases hq with hq|hq
 ·obtain⟨its,r',pl,hz⟩:=I.list hq;have hlen:=r'.length;exact Calls.call_len_list pl.isList (by simp only[AE]<;>omega) ⟨.int ys.length,H,I.tok _,⟨s.toks+1,by rw[AE,hlen]⟩,q⟩
 ·obtain⟨its,r',pl,hz⟩:=I.tuple hq;have hlen:=r'.length;exact len_tuple pl (by simp only[AE]<;>omega) ⟨.int ys.length,H,I.tok _,⟨s.toks+1,by rw[AE,hlen]⟩,q⟩
theorem Zy:IE X (.builtin "len") (fun xs H Q=>∃ z,xs=[.str z]/\z.length<=sizeLine/\Q (.int z.length) H):=by
 intro pI s σ H xs us Q I r h;obtain⟨z,rfl,hz,q⟩:=h;obtain⟨u,rfl,t,rfl⟩:=Ia r;have hn:=K0;exact len_str (by omega) ⟨.int z.length,H,I.tok _,⟨_,rfl⟩,q⟩
theorem RJ:IE X (.type "list") (fun xs H Q=>∃ p ys,xs=[.ref p]/\(SqL X.K H p ys\/SqT X.K H p ys)/\∀ l,H l=Af->Q (.ref l) (upd H l (.lst ys))):=by
 intro pI s σ H xs us Q I r h;obtain⟨p,ys,rfl,hq,q⟩:=h;obtain⟨u,rfl,rx⟩:=Ia r;cases rx;have fin:∀(its:Ac Ai),Bq ys its->ys.length<=sizeLine->∀(h':AQ)(c':Ag),(∀ b o',s.heap.get? b=Ab o'->h'.get? b=Ab o') ->
   h'.get? s.heap.objs.size=Ab { cls:=.type "list", dict:=Af,data:=.seq its.toArray c',slots:=#[] }->EP X pI σ Q (.ref s.heap.objs.size) {s with heap:=h'}:=fun its r' hz h' c' kp e=>
  ⟨.ref s.heap.objs.size,_,I.laid (t':=s.toks) kp (AS _) (show ObjOk X.prog X.w _ h' _ (.lst ys) from ⟨hz,its,c',r',e⟩),rfl,q _ (I.hok.fresh (AS _))⟩
 rcases hq with hq|hq
 ·obtain⟨its,r',pl,hz⟩:=I.list hq;have hlen:=r'.length;obtain⟨o,ho,hc,n,hd⟩:=pl.isList;exact call_list_seq p (.inl rfl) ho hc hd (fun h' c' kp e=>fin its r' hz h' c' kp e) (by simp only[AE]<;>omega)
 ·obtain⟨its,r',pl,hz⟩:=I.tuple hq;have hlen:=r'.length;obtain⟨o,ho,hc,n,hd⟩:=pl;exact call_list_seq p (.inr rfl) ho hc hd (fun h' c' kp e=>fin its r' hz h' c' kp e) (by simp only[AE]<;>omega)
theorem RP:IE X (.type "tuple") (fun xs H Q=>∃ p ys,xs=[.ref p]/\((SqL X.K H p ys/\∀ l,H l=Af->Q (.ref l) (upd H l (.tup ys)))\/(SqT X.K H p ys/\Q (.ref p) H))):=by
 intro pI s σ H xs us Q I r h;obtain⟨p,ys,rfl,h⟩:=h;obtain⟨u,rfl,rx⟩:=Ia r;cases rx;rcases h with ⟨hq,q⟩|⟨hq,q⟩
 ·obtain⟨its,r',pl,hz⟩:=I.list hq;have hlen:=r'.length;refine call_tuple_list pl.isList (fun h' kp=>?_) (by simp only[AE]<;>omega)
  have I1:Inv X pI σ H {s with heap:=h'}:=I.kept (t':=s.toks) kp
  have I2:Inv X pI σ (upd H h'.objs.size (.tup ys)) { s with heap:=h'.push { cls:=.type "tuple", data:=.seq its.toArray } }:=
   I1.laid (t':=s.toks) (fun b o e=>Ao _ e) (AS _) (show ObjOk X.prog X.w _ _ _ (.tup ys) from ⟨hz,its,r',Jr _ _⟩)
  exact⟨.ref h'.objs.size,_,I2,rfl,q _ (I1.hok.fresh (AS _))⟩
 ·obtain⟨its,r',pl,hz⟩:=I.tuple hq;exact call_tuple_same pl ⟨.ref p,H,I,rfl,q⟩
def tyV(K:Fg)(T:DM)(x:V)(H:Hp):Prop:=match x with
  |.str _=>T = "str"
  |.int _=>T = "int"
  |.ref p=>(T = "list"/\∃ xs,SqL K H p xs)\/(T = "tuple"/\∃ o,K.lookup p=Ab o/\o.cls=.type "tuple"/\o.dict=Af) \/
      (T = "dict"/\((∃ kvs,H p=Ab (.dK kvs))\/∃ kvs,H p=Ab (.dT kvs)))\/(T = "set"/\∃ S n,H p=Ab (.set S n))
  |_=>BF
theorem mD{T:DM}{x:V}{v:Ai}(I:Inv X pI σ H s)(r:BZ x v)(ty:tyV X.K T x H):s.TypeIs v T/\∀ a,v=.ref a->∃ ob,s.heap.get? a=Ab ob/\ob.dict=Af:=by
 cases x with
 |str z=>
  obtain⟨t,rfl⟩:=r;cases (show T = "str" from ty)
  exact⟨typeIs_str s z t,fun _ e=>nomatch e⟩
 |int i=>
  obtain⟨t,rfl⟩:=r;cases (show T = "int" from ty)
  exact⟨Kx s i t,fun _ e=>nomatch e⟩
 |ref p=>
  cases r;rcases ty with ⟨rfl,xs,hq⟩|⟨rfl,o,hk,hc,hd⟩|⟨rfl,hk⟩|⟨rfl,S,n,hk⟩
  ·obtain⟨its,_,pl,_⟩:=I.list hq;refine⟨pl.isList.typeIs,fun a e=>?_⟩
   cases e;obtain⟨o,n,e,c,hd,_⟩:=pl;exact⟨o,e,hd⟩
  ·refine⟨⟨o,I.kIn p o hk,hc⟩,fun a e=>?_⟩
   cases e;exact⟨o,I.kIn _ o hk,hd⟩
  ·have z:∃ o,s.heap.get? p=Ab o/\o.ExactDict:=by
    rcases hk with ⟨kvs,hk⟩|⟨kvs,hk⟩
    ·obtain⟨_,_,_,_,o,_,_,e,ex,_⟩:=I.hok p _ hk;exact⟨o,e,ex⟩
    ·obtain⟨_,_,_,_,o,_,_,e,ex,_⟩:=I.hok p _ hk;exact⟨o,e,ex⟩
   obtain⟨o,e,ex⟩:=z;refine⟨⟨o,e,ex.1⟩,fun a e2=>?_⟩
   cases e2;exact⟨o,e,ex.2.1⟩
  ·obtain⟨o,_,_,_,e,ex,_⟩:=I.hok p _ hk;refine⟨⟨o,e,ex.1⟩,fun a e2=>?_⟩
   cases e2;exact⟨o,e,ex.2.1⟩
 |_=>exact Eo ty
def tBM(K:Fg)(T:DM)(r:V->Ac V->Hp->VK->Prop)(to:TE)(t:TA):TE:=fun σ H Q=>to σ H fun x H1=>tyV K T x H1/\t σ H1 fun xs H2=>r x xs H2 Q
variable{o e:Ar}{es:Ac Ar}{to:TE}{t:TA}{name:Al}{apos cpos:A8}{T id:DM}{r:V->Ac V->Hp->VK->Prop}
theorem QC(pa:PlainAttrs T)(slot:Slot T name id)(hty:typeOf (.builtin id)=pure (.type "method_descriptor"))(hm:MtR X id r)(ho:PE X o to)(ha:PA X (e::es) t)(hbase:Hh o name X.env (eval o X.env)=eval o X.env:=by rfl)(hfew:((CV cpos (AG (e::es) X.env)).all (fun x=>!x.1)&&(JU cpos (Ix [] X.env)).all (fun x=>x.1.isSome)
   && decide ((e::es).length+([]:Ac Ft).length+(if ([]:Ac Ft).isEmpty then 0 else 1)<30))=Aa:=by rfl)(hline:(apos.endLine==cpos.line)=Aa:=by rfl)(hs:AG (e::es) X.env=(Ae,eval e X.env)::AG es X.env:=by rfl)(hplain:(CV cpos (AG es X.env)).any (·.1)=Ae:=by rfl):PE X (.Call (.Attribute o name apos) (e::es) [] cpos) (tBM X.K T r to t):=by
 intro pI s σ H Q I h;refine wpAny_Call_method_late hbase hfew hline rfl (thn (ho pI s σ H _ I h) fun v s1 ⟨x,H1,I1,r1,ty,q1⟩=>?_)
 obtain⟨h1,h2⟩:=mD I1 r1 ty;refine⟨T,id,pa,slot,hty,h1,h2,?_⟩;have hA:=ha cpos pI s1 σ H1 _ I1 q1;rw[hs]at hA ⊢;refine Calls.callWith_builtin (by show (Ae||(CV cpos (AG es X.env)).any (·.1))=Ae;rw[hplain]<;>rfl) (Calls.evalArgs_plain ?_)
 exact thn hA fun us s2 ⟨vs,H2,I2,r2,q2⟩=>hm pI s2 σ H2 x vs v us Q I2 r1 r2 q2
/- xs.append(e),list.index on a module's tuple .. are MtR facts of 06m -/
end
noncomputable def MtM(X:Cx)(id:DM)(r:V->Ac V->Hp->VK->Prop):Prop:=
 ∀(pI:Pn)(s:Aq)(σ:St)(H:Hp)(x:V)(xs:Ac V)(v:Ai)(us:Ac Ai)(Q:VK),Inv X pI σ H s->BZ x v->Bq xs us->r x xs H Q ->
  Ax (model X.prog X.w) X.A (call (.builtin id) (v::us)) (EP X pI σ Q) X.xe s
theorem Bq.one:∀{x:V}{us:Ac Ai},Bq [x] us->∃ u,us=[u]/\BZ x u
 |_,_,.cons r .nil=>⟨_,rfl,r⟩
theorem Bq.zero:∀{us:Ac Ai},Bq [] us->us=[]
 |_,.nil=>rfl
theorem Bq.reverse(h:Bq xs us):Bq xs.reverse us.reverse:=by
 induction h with
 |nil=>exact .nil
 |cons r t ih=>rw[W7,W7];exact Bq.append ih (.cons r .nil)
section
variable{X:Cx}{pI:Pn}{σ:St}{H:Hp}{s:Aq}{l b:Ak}{xs ys zs:Ac V}
theorem Inv.lset{f:AM Ai->AM Ai}(I:Inv X pI σ H s)(hH:H l=Ab (.lst xs))(e:s.heap.get? l=Ab { cls:=.type "list", data:=.seq its.toArray n })(hf:f its.toArray=its'.toArray)(hv:Bq ys its')(hz:ys.length<=sizeLine):Inv X pI σ (upd H l (.lst ys)) {s with heap:=s.heap.update l (Br f),toks:=t'}:=by
 have q:=PySem.IsL.update e f;rw[hf]at q;refine I.write (x:=l) (e:=l) (by rw[hH];exact trivial) (.inl rfl) (fun b' u hb hu=>(Bk s.heap (Br f) (C1 hb)).trans hu) ⟨_,q⟩ ?_
 exact⟨hz,its',_,hv,q⟩
theorem Inv.lnew(I:Inv X pI σ H s)(hv:Bq ys its)(hz:ys.length<=sizeLine):
  Inv X pI σ (upd H s.heap.objs.size (.lst ys)) { s with heap:=s.heap.push { cls:=.type "list", data:=.seq its.toArray },toks:=t' }:=
 I.laid (fun _ _ q=>Ao _ q) (AS _) ⟨hz,its,0,hv,Aw _ rfl⟩
theorem Inv.fresh(I:Inv X pI σ H s):H s.heap.objs.size=Af:=I.hok.fresh (AS _)
theorem Inv.lstM(I:Inv X pI σ H s)(hH:H l=Ab (.lst xs)):xs.length<=sizeLine/\∃(its:Ac Ai)(n:Ag),Bq xs its/\xs.length=its.length/\s.heap.get? l=Ab { cls:=.type "list", data:=.seq its.toArray n }:=by
 obtain⟨z,its,n,r,e⟩:=I.hok l _ hH;exact⟨z,its,n,r,r.length,e⟩
theorem Tj(h:n<=sizeLine):DF n=Ae:=by
 unfold DF;exact CF (by omega)
end
section
variable{X:Cx}
def iT:V->Ac V->Hp->VK->Prop:=fun x vs H Q=>∃ l xs y,x=.ref l/\vs=[y]/\H l=Ab (.lst xs)/\xs.length<sizeLine/\Q .non (upd H l (.lst (xs++[y])))
theorem aF:MtM X "list.append" iT:=by
 intro pI s σ H x vs v us Q I rx rv h;obtain⟨l,xs,y,rfl,rfl,hH,hz,q⟩:=h;cases rx;obtain⟨u,rfl,ru⟩:=rv.one;obtain⟨z,its,n,r,hl,e⟩:=I.lstM hH;refine Ku F.slot_list_append ⟨_,e,rfl⟩ F.entry_list_append (F.args_list_append_2 _ _) (PySem.list_append l its.toArray n u (by rw[AE];omega)) ⟨e,?_⟩
 refine⟨.non,_,I.lset (its':=its++[u]) hH e (by simp) (r.append (.cons ru .nil)) ?_,rfl,q⟩
 rw[Cz,WV];omega
def iS:V->Ac V->Hp->VK->Prop:=fun x vs H Q=>∃ l b xs zs,x=.ref l/\vs=[.ref b]/\H l=Ab (.lst xs)/\H b=Ab (.lst zs)/\xs.length+zs.length<=sizeLine/\Q .non (upd H l (.lst (xs++zs)))
theorem aE:MtM X "list.extend" iS:=by
 intro pI s σ H x vs v us Q I rx rv h;obtain⟨l,b,xs,zs,rfl,rfl,hH,hB,hz,q⟩:=h;cases rx;obtain⟨u,rfl,ru⟩:=rv.one;cases ru;obtain⟨z,its,n,r,hl,e⟩:=I.lstM hH;obtain⟨z2,its2,n2,r2,hl2,e2⟩:=I.lstM hB;have hsz:its.toArray.size+its2.toArray.size<=sizeLine:=by rw[AE,AE];omega
 have hlong:¬ (!its.toArray.isEmpty&&DF (its.toArray.size+its2.toArray.size))=Aa:=by
  rw[Tj hsz,FT];exact Dc
 refine Ku E9 ⟨_,e,rfl⟩ XE (Xy _ _)
  (AutoSeq1.list_extend_list_list_0 l its.toArray n b its2.toArray n2 hlong (by rw[AE];omega) (by omega)) ⟨e,e2,?_⟩
 refine⟨.non,_,I.lset (its':=its++its2) hH e (by simp) (r.append r2) ?_,rfl,q⟩
 rw[Cz];omega
end
section
variable{prog:A5}{w:AJ}{A:Bv}{E:Vq}{s:Aq}
set_option maxRecDepth 100000 in
end
section
variable{X:Cx}
end
end L2
namespace Att
open PySem PySem.W PySem.Calls PyProof.Rows
variable{P:LD}{h:AQ}{l:F7}{n:Ag}
theorem Zl:∀(ns:Ac Ad)(vs:Ac Ai),WellAll P h vs (ns.map X4)->Db vs ns:=by
 intro ns
 induction ns with
 |nil=>
  intro vs w;rw[Gu]at w;cases w;exact .nil
 |cons n ns ih=>
  intro vs w;rw[Ch]at w;cases w with
  |cons a b=>
   cases a;exact .cons _ _ (ih _ b)
theorem aM(hn:l.most=Ab n){args:Ac WData}{vals:Ac Ai}(hpre:l.row.toRowW.claim.pre args=Aa)(hwl:WellAll P h vals args):
  ∃ a vs ns,vals=[D5 a]/\args=[WData.list (ns.map X4)]/\h.get? a=Ab { cls:=.type "list", data:=.seq vs.toArray }/\Db vs ns/\ns.length<=n:=by
 have hsh:WShape.hasAll [] args [.list .int]=Aa:=(pre_splitW hpre).1;have hc:l.pre.holds [] {args:=args}=Aa:=(pre_splitW hpre).2;obtain⟨d,r,rfl,h1,h2⟩:=hasAllW_cons hsh;obtain rfl:=hasAllW_nil h2;obtain⟨xs,rfl,h3⟩:=hasW_list h1;obtain⟨ns,rfl⟩:=items_int h3;have hlen:ns.length<=n:=by
  unfold OpenLaw.pre at hc;have h4:(WTm.not (.lt (.lit (.int (n:Ad))) (.len (.arg 0)))).holds [] {args:=[.list (ns.map .int)]}=Aa:=by
   have h4:=(holds_andW hc).1;rw[hn]at h4;exact h4
  have h5:=condW_of h4 (w_not (w_lt w_lit (w_len_list (w_arg rfl))));rw[BR]at h5;refine Nat.le_of_not_lt fun q=>?_
  have q':(n:Ad)<((ns.length:Ag):Ad):=by omega
  first
   |(rw[Ff q']at h5;exact absurd h5 (by decide))
   |(simp at h5;omega)
 cases hwl with
 |cons w1 w2=>
  cases w2;cases w1 with
  |list ho hall=>exact⟨_,_,ns,rfl,rfl,ho,Zl ns _ hall,hlen⟩
theorem aP(l:F7)(args:Ac WData):l.row.toRowW.claim.post args (.bool Aa) args=Aa:=
 postW_of (r:=l.row.toRowW) (X:=(Aa==Aa))
  (show X5 [] (.bool Aa) .bool=Aa by first|rfl|decide|simp[X5,WShape.arms,WShape.armsAll])
  (show (WTm.eq .res (.lit (.bool Aa))).value [] {args:=args,res:=Ab (.bool Aa),after:=args}=Ab (.bool (Aa==Aa)) from w_eq_bool (w_res rfl) w_lit) rfl
theorem attach_call{q:A5}{loose:Ac Al}{XP:(Al->Au Ai)->AQ->Prop}{YP:AJ->AQ->Prop}{d:DefRec}(hn:l.most=Ab n)(hdf:d.params.defaults=[])(call:∀(w:AJ)(s₀ s₁:Aq)(mg mb:Al->Au Ai)(fa:Ak)(o:Dz)(pm cd doc:Ai)(a:Ak)(vs:Ac Ai)(ns:Ac Ad),
   Ground q loose [] XP w s₀ mg mb s₁.heap->YP w s₁.heap ->
   s₁.heap.get? fa=Ab o->o.data=.func (docDef d.name d.params d.body d.scope pm cd doc)->s₁.heap.CodeRec cd d.name->mg d.name=Ab (.ref fa) ->
   s₁.heap.get? a=Ab { cls:=.type "list", data:=.seq vs.toArray }->Db vs ns->ns.length<=n->s₁.gens=#[] ->
   DU (model l.prog w) Hz (.call (.ref fa) ⟨[.ref a],[]⟩) (fun r s'=>r=.ok (.ret (.bool Aa))/\OldK s₁.heap s'.heap/\s'.os=s₁.os/\FU s'.gens) s₁):WalkO q loose XP YP l.row.toRowW d [] (fun f vs=>Kt f vs):=by
 intro w s₀ s₁ mg mb G Y fa o pm cd doc dV kV ho hd hcd hD hmg hg args vals as hpre hlay hrd hwl hlo;obtain rfl:dV=.none:=Dflts.none hD hdf;obtain rfl:kV=.none:=Dflts.noKw hD;obtain⟨a,vs,ns,rfl,rfl,hobj,hints,hlen⟩:=aM hn hpre hwl;refine enter_call (Jx (call w s₀ s₁ mg mb fa o pm cd doc a vs ns G Y ho (fd_plain hd) hcd hmg hobj hints hlen hg) fun r s' hq=>?_)
 obtain⟨rfl,h2,h3,h4⟩:=hq;exact⟨.inl ⟨.bool Aa,.bool Aa,[],rfl,fun _=>rfl,.bool Aa,aP l _,fun _=>⟨List.Pairwise.nil,fun _ hm=>(nomatch hm)⟩⟩,h2,h3,h4⟩
section
variable{prog:A5}{w:AJ}{A:Bv}{E:Vq}{s:Aq}{K:Frag}
end
end Att
namespace L2
open PySem PySem.Spec PyProof.Rows
variable{k:Ag}{x:Al}
theorem Sb:∀{vs:Ac Ai}{ns:Ac Ad},Db vs ns->Bq (ns.map V.int) vs
 |_,_,.nil=>.nil
 |_,_,.cons n t h=>.cons ⟨t,rfl⟩ (Sb h)
def Q4(H:Hp):Prop:=∀ b,H b=Af\/∃ o xs,H b=Ab (.frz o (.lst xs))
theorem cK{P:A5}{w:AJ}{K:Fg}{mg mb:Al->Au Ai}{CX:CXT}{fa a:Ak}{fd:CW}{sp:Sp}{s₁:Aq}{vs:Ac Ai}{ns:Ac Ad}(KX:K.In s₁.heap)(hns:s₁.heap.Ns Bg mg)(hb:s₁.heap.Ns IV mb)(hbb:∀ x:Al,x≠"__name__"->mb x=Dh x)(hlim:s₁.heap.NoLimit)(hg:s₁.gens=#[])(ha:s₁.heap.get? a=Ab { cls:=.type "list", data:=.seq vs.toArray })(hi:Db vs ns)(hl:ns.length<=sizeLine)(hr:Room k Hz)(F:∀ base:AQ,K.In base->base.Ns Bg mg->FnOk P w K mg base CX k fa fd [x] sp)(hbind:∀(s:Aq)(u:Ai),Hy s fd ⟨[u],[]⟩ [(x,u)])(hsp:∀ H:Hp,Q4 H->SqL K H a (ns.map V.int)->sp [.ref a] H (fun v _=>v=.bl Aa) fun _ _ _=>BF)(hCX:∀ H e s',CX [] H s₁ (fun _ _ _=>BF) e s'->BF):DU (model P w) Hz (.call (.ref fa) ⟨[.ref a],[]⟩) (fun r s'=>r=.ok (.ret (.bool Aa))/\OldK s₁.heap s'.heap/\s'.os=s₁.os/\FU s'.gens) s₁:=by
 have rv:=Sb hi;have lenV:=hi.length
 -- from an abstract heap in which nothing but the script may be tracked
 have core:∀ H:Hp,Q4 H->SqL K H a (ns.map V.int)->HOk P w H s₁.heap->(∀ b,H b≠Af->b=a)->(H a≠Af->K.lookup a=Af) ->
   DU (model P w) Hz (.call (.ref fa) ⟨[.ref a],[]⟩) (fun r s'=>r=.ok (.ret (.bool Aa))/\OldK s₁.heap s'.heap/\s'.os=s₁.os/\FU s'.gens) s₁:=by
  intro H hO hS hok hA hK;have base_of:∀{b:Ak}{o:Dz},s₁.heap.get? b=Ab o->H b=Af->(Jl s₁.heap H).get? b=Ab o:=fun e n=>cM e n
  have noA:∀{b:Ak}{o:Dz}{es:AM DictEntry}{ep:Ag},s₁.heap.get? b=Ab o->o.data=.dict es ep->H b=Af:=fun {b o es ep} e d=>by
   cases q:H b with
   |none=>rfl
   |some u=>
    have e':b=a:=hA b (by rw[q];simp)
    subst e';rw[ha]at e;cases e;have d':Lv vs.toArray _=Data.dict es ep:=d;cases d'
  have nsK:∀{b:Ak}{m:Al->Au Ai},s₁.heap.Ns b m->(Jl s₁.heap H).Ns b m:=fun {b m} ⟨o,es,ep,e,d,r⟩=>⟨o,es,ep,base_of e (noA e d),d,r⟩
  have hKb:K.In (Jl s₁.heap H):=fun b o e=>base_of (KX b o e) (by
   cases q:H b with
   |none=>rfl
   |some u=>
    have e':b=a:=hA b (by rw[q];simp)
    subst e';rw[hK (by rw[q];simp)]at e;cases e)
  have hM:Mod K mg (Jl s₁.heap H):=⟨hKb,nsK hns,⟨mb,nsK hb,hbb⟩,let ⟨mc,h1,h2⟩:=hlim;⟨mc,nsK h1,h2⟩⟩
  have e0:Env0 P w K mg (Jl s₁.heap H) Hz [] s₁ H:=⟨rfl,hM,fun b o e=>hV e,HI (Z7 _ _),trivial,fun b hb=>absurd (show b∈([]:Ac Ak) from hb) (by simp),hok,.of_eq hg⟩
  refine Jx ((F _ hKb (nsK hns)).run Hz [] s₁ H ⟨[.ref a],[]⟩ [.ref a] [.ref a] _ _ hr e0 (hbind s₁ (.ref a)) (.cons rfl .nil) (hsp H hO hS)) fun r s' h=>?_
  cases r with
  |error e=>exact(hCX H e s' h).elim
  |ok fl=>
   cases fl with
   |next=>exact Eo h
   |brk=>exact Eo h
   |cont=>exact Eo h
   |ret u=>
    obtain⟨v,H',os,bare,un,hok',r',q⟩:=h;have q':v=.bl Aa:=q;subst q';obtain rfl:u=X2 Aa:=r';refine⟨rfl,OldK.of_keep fun b o e=>?_,os,bare⟩
    cases q:H b with
    |none=>exact un.keep b o e q (by intro z;exact absurd (show b∈([]:Ac Ak) from z) (by simp)) (by simp)
    |some u=>
     rcases hO b with z|⟨ob,xs,z⟩
     ·rw[q]at z;cases z
     ·have z2:=un.frzs b ob _ z;obtain⟨e1,_⟩:=hok b _ z;obtain⟨e2,_⟩:=hok' b _ z2;rw[e]at e1;cases e1;exact e2
 cases hk:K.lookup a with
 |some o=>
  -- the script is one of the module's own objects
  have e:=KX a o hk;rw[ha]at e;cases e;refine core (fun _=>Af) (fun _=>.inl rfl) (.inr ⟨_,vs.toArray,_,hk,rfl,rfl,rfl,by rw[AE,lenV];exact hl,by simpa using rv⟩) (fun b u z=>by have z':(Af:Au HO)=Ab u:=z;cases z') (fun b z=>absurd rfl z) fun z=>absurd rfl z
 |none=>
  refine core (fun b=>if b=a then Ab (.frz { cls:=.type "list", data:=.seq vs.toArray } (.lst (ns.map V.int))) else Af) (fun b=>?_) (.inl (.inr ⟨{ cls:=.type "list", data:=.seq vs.toArray },AD rfl⟩)) (fun b u z=>?_) (fun b z=>?_) fun _=>hk
  ·by_cases hb:b=a
   ·exact .inr ⟨_,_,AD hb⟩
   ·exact .inl (AH hb)
  ·by_cases hb:b=a
   ·have z':=(AD hb).symm.trans z;cases z';subst hb;exact⟨ha,by rw[BR];exact hl,vs,_,rv,ha⟩
   ·have z':=(AH hb).symm.trans z;cases z'
  ·by_cases hb:b=a
   ·exact hb
   ·exact absurd (AH hb) z
noncomputable abbrev KOf{K:Fg}{h:AQ}(_:K.In h):Fg:=K
theorem walk_of{l:F7}{n:Ag}{q:A5}{loose:Ac Al}{XP:(Al->Au Ai)->AQ->Prop}{YP:AJ->AQ->Prop}{d:DefRec}{K:LD->Fg}{CX:AJ->CXT}{sp:AJ->Sp}(hn:l.most=Ab n)(hn2:n<=sizeLine)(hdf:d.params.defaults=[])(hr:Room k Hz)(hY:∀(w:AJ)(h:AQ),YP w h->(K w.params).In h)(F:∀(w:AJ)(mg:Al->Au Ai)(fa:Ak)(h:AQ),(K w.params).In h->h.Ns Bg mg->mg d.name=Ab (.ref fa) ->
   ∃ fd:CW,(∀(s:Aq)(u:Ai),Hy s fd ⟨[u],[]⟩ [(x,u)]) /\
    ∀ base:AQ,(K w.params).In base->base.Ns Bg mg->FnOk l.prog w (K w.params) mg base (CX w) k fa fd [x] (sp w))(hsp:∀(w:AJ)(H:Hp)(a:Ak)(ns:Ac Ad),ns.length<=n->Q4 H->SqL (K w.params) H a (ns.map V.int)->sp w [.ref a] H (fun v _=>v=.bl Aa) fun _ _ _=>BF)(hCX:∀(w:AJ)(H:Hp)(s:Aq)(e:Ai)(s':Aq),CX w [] H s (fun _ _ _=>BF) e s'->BF):X6 q loose XP YP l.row.toRowW d [] (fun f vs=>Kt f vs):=by
 refine Att.attach_call hn hdf fun w s₀ s₁ mg mb fa o pm cd doc a vs ns G Y ho hd hcd hmg hobj hints hlen hg=>?_
 have KX:=hY w _ Y;obtain⟨fd,hb,hF⟩:=F w mg fa _ KX G.T.g hmg;exact cK KX G.T.g G.T.b G.T.builtins G.T.nolimit hg hobj hints (BD hlen hn2) hr hF hb (fun H hO hS=>hsp w H a ns hlen hO hS) fun H e s'=>hCX w H s₁ e s'
end L2
/- THE LAST THEOREM (shape;LID,My.* are yours):
   My.Adr: a structure of the addresses that your layer names (classes,functions);My.Txt K t: a structure (Prop) of the equations over K;
   My.txt_mk:{K} {implicit addresses ..} (e1:nsIn K Bg "law" = Ab (Ab (.ref f))) (e2:K.lookup f=Ab ⟨oc,od,.func (fnOf "law" "law" params body scope dV kV doc pm an cdv ct),sl⟩) (e3:codeIn K cdv "law" = Aa) ..:∃ t,My.Txt K t
set_option maxRecDepth 100000 in
set_option maxHeartbeats 0 in
theorem PySem.Challenge.cw_LID_holds:PySem.Challenge.rw_LID.Holds:=by
 w_on;o_law;k_head;(case hw=>w_witness2)
 k_fill
 refine L2.walk_of (l:=PySem.Challenge.rw_LID) (n:=63) (k:=40) (x := "script") (CX:=fun w=>..) (sp:=fun _=>My.sp_law) rfl (by decide) rfl ⟨rfl,by decide,by decide⟩ (fun w h Y=>X9 Y) ?F ?S ?C
 case F=>
  intro w mg fa h KX G hmg;have T:∃ t,My.Txt (L2.KOf KX) t:=by
   dsimp only[L2.KOf]                          -- K must stand as «<heap const> w.params» for k_is
   refine' My.txt_mk ?e1 ?e2 ?e3 ..
   (case e1=>PySem.W.k_is)                    -- in the order: a name -> its address -> its object -> its parts
   (case e2=>PySem.W.k_is)
   ..
  obtain⟨t,T⟩:=T;have e0:=hmg.symm.trans (Jn KX G T.law);cases e0                                       -- fa is the law's own address
  exact⟨_,fun s u=>.of_eq rfl,fun base kb nb=>My.law_fn T kb nb⟩     -- if «.of_eq rfl» comes too early: refine' ⟨_,?b,fun base kb nb=>My.law_fn T kb nb⟩;exact fun s u=>.of_eq rfl
 case S=>exact fun w H a ns hl hO hS=>..
 case C=>exact ..
(the tactic k_is has no namespace: write k_is) -/
namespace L2
open PySem PySem.Spec PyProof.Rows
noncomputable def KS(s:Ca):Arguments:=match s with
  |.FunctionDef _ a _ _ _ _ _ _ _ _=>a
  |_=>{posonlyargs:=[],args:=[],vararg:=Af,kwonlyargs:=[],kw_defaults:=[],kwarg:=Af,defaults:=[]}
noncomputable def IA(s:Ca):Ac Ca:=match s with
  |.FunctionDef _ _ b _ _ _ _ _ _ _=>b
  |_=>[]
noncomputable def GV(s:Ca):CP:=match s with
  |.FunctionDef _ _ _ _ _ _ sc _ _ _=>sc
  |_=>{kind:=.function,names:=[],isGenerator:=Ae,isCoroutine:=Ae}
noncomputable abbrev CX0:CXT:=fun _ _ _ _ _ _=>BF
structure Fun (K:Fg) (x qual:Al) (st:Ca) (f:Ak) (fd:CW):Prop where
 ex:∃(oc:Ai)(od:Au Ak)(kV doc pm:Ai)(an:Au Ak)(cdv ct:Ai)(osl:AM (Au Ai)),
  fd=EE x qual (KS st) (IA st) (GV st) .none kV doc pm an cdv ct/\K.lookup f=Ab ⟨oc,od,.func fd,osl⟩/\GS K cdv qual=Aa
 kp:DT K (.ref f)=Aa
section
variable{P:A5}{w:AJ}{K:Fg}{mg:Al->Au Ai}{base:AQ}
theorem Fun.ok{x qual:Al}{st:Ca}{f:Ak}{fd:CW}{N ps:Ac Al}{k:Ag}{sp:Sp}(F:Fun K x qual st f fd)(S:FnScope N ps (GV st))(len:∀ vs H Q E,sp vs H Q E->vs.length=ps.length)(hbody:∀(cdv:Ai)(A:Bv)(outer:Ac CA)(s:Aq)(H:Hp)(vs:Ac V)(Q:VK)(E:XK),Room k (A.deeper (Fq qual (GV st) s.heap.objs.size f cdv))->sp vs H Q E ->
   ∃ t,PSs (G3 CX0 P w K mg base N qual (GV st) f cdv A outer s H E).nox (IA st) t/\t {nx:=fun _ H'=>Q .non H',rt:=Q} (start N vs) H):FnOk P w K mg base CX0 (k+1) f fd ps sp:=by
 obtain⟨oc,od,kV,doc,pm,an,cdv,ct,osl,rfl,lk,hcd⟩:=F.ex;refine V5 lk hcd S len fun A outer s H vs Q E hr hsp=>?_
 obtain⟨t,h,q⟩:=hbody cdv A outer s H vs Q E hr hsp;exact⟨t,h.nox,q⟩
theorem Fun.binds{x qual:Al}{st:Ca}{f:Ak}{fd:CW}{ps:Ac Al}(F:Fun K x qual st f fd)(h:∀(kV doc pm:Ai)(an:Au Ak)(cdv ct:Ai)(us:Ac Ai),us.length=ps.length->LG (EE x qual (KS st) (IA st) (GV st) .none kV doc pm an cdv ct) ⟨us,[]⟩=pure (ps.zip us)):IF K fd ps []:=by
 obtain⟨oc,od,kV,doc,pm,an,cdv,ct,osl,rfl,lk,hcd⟩:=F.ex;exact .all (h kV doc pm an cdv ct)
theorem pV{x qual:Al}{st:Ca}{f:Ak}{oc:Ai}{od an:Au Ak}{osl:AM (Au Ai)}{kV doc pm cdv ct:Ai}(l:K.lookup f=Ab ⟨oc,od,.func (EE x qual (KS st) (IA st) (GV st) .none kV doc pm an cdv ct),osl⟩)(c:GS K cdv qual=Aa)(k:DT K (.ref f)=Aa):Fun K x qual st f (EE x qual (KS st) (IA st) (GV st) .none kV doc pm an cdv ct):=⟨⟨oc,od,kV,doc,pm,an,cdv,ct,osl,rfl,l,c⟩,k⟩
end
section
variable{X:Cx}
end
def AN(H H':Hp):Prop:=∀ b o,H b=Ab o->H' b=Ab o
theorem AN.refl(H:Hp):AN H H:=fun _ _ h=>h
theorem AN.trans{H H1 H2:Hp}(a:AN H H1)(b:AN H1 H2):AN H H2:=fun c o h=>b c o (a c o h)
theorem AN.free{H H':Hp}(e:AN H H'){l:Ak}(h:H' l=Af):H l=Af:=by
 cases q:H l with
 |none=>rfl
 |some o=>
  rw[e l o q]at h;cases h
end L2
section
namespace Ov
open PySem
variable{α β:Type}
inductive D where
 |non|bl (b:Ap)|int (i:Ad)|str (x:Al)|tup (ds:Ac D)|lst (ds:Ac D)
 |obj (c:Ag) (fs:Ac (Al×D))|exc (c:Ag) (fs:Ac (Al×D))|dic (kvs:Ac (Ac Ad×D))
 deriving Inhabited
structure Ex where
 c:Ag
 fs:Ac (Al×D)
 deriving Inhabited
inductive R (α:Type) where
 |ok (a:α)|exn (x:Ex)|bad
 deriving Inhabited
noncomputable def R.bind{α β:Type}(r:R α)(f:α->R β):R β:=match r with
  |.ok a=>f a
  |.exn x=>.exn x
  |.bad=>.bad
@[simp]theorem R.bind_ok(a:α)(f:α->R β):(R.ok a).bind f=f a:=rfl
@[simp]theorem R.bind_exn(x:Ex)(f:α->R β):(R.exn x:R α).bind f=.exn x:=rfl
@[simp]theorem R.bind_bad(f:α->R β):(R.bad:R α).bind f=.bad:=rfl
theorem R.bind_assoc{γ:Type}(r:R α)(f:α->R β)(g:β->R γ):(r.bind f).bind g=r.bind fun a=>(f a).bind g:=by cases r<;>rfl
noncomputable def DL(n:Ag):Ap:=Ey n 1000000
noncomputable def Ee(i j:Ad):Ap:=(decide (-(18446744073709551616:Ad)<i)&&decide (i<18446744073709551616))||(decide (-(18446744073709551616:Ad)<j)&&decide (j<18446744073709551616))
noncomputable def Fl(i j:Ad):Ap:=decide (i.natAbs<2 ^ 2000)&&decide (j.natAbs<2 ^ 2000)
noncomputable def Dp:HN->D->D->R D
 |.Add,.int i,.int j=>.ok (.int (i+j))
 |.Sub,.int i,.int j=>.ok (.int (i-j))
 |.Mult,.int i,.int j=>if (Ee i j||Fl i j)=Aa then .ok (.int (i*j)) else .bad
 |.FloorDiv,.int i,.int j=>if 0<j/\j<1073741824 then .ok (.int (i / j)) else .bad
 |.Mod,.int i,.int j=>if 0<j then .ok (.int (i%j)) else .bad
 |.Pow,.int i,.int j=>if (0<=j/\j<=1000000)/\(-(18446744073709551616:Ad)<i/\i<18446744073709551616) then .ok (.int (i ^ j.toNat)) else .bad
 |.Add,.str x,.str y=>if DL (x.length+y.length)=Aa then .ok (.str (x++y)) else .bad
 |.Add,.lst x,.lst y=>if DL (x.length+y.length)=Aa then .ok (.lst (x++y)) else .bad
 |.Add,.tup x,.tup y=>if (!x.isEmpty&&DL (x.length+y.length))=Aa then .ok (.tup (x++y)) else .bad
 |_,_,_=>.bad
noncomputable def unD:UnaryOp->D->R D
 |.USub,.int i=>.ok (.int (-i))
 |_,_=>.bad
noncomputable def b2i(b:Ap):Ad:=if b=Aa then 1 else 0
mutual
noncomputable def eqD:D->D->Ap
 |.non,.non=>Aa
 |.bl a,.bl b=>a==b
 |.bl a,.int j=>b2i a==j
 |.int i,.bl b=>i==b2i b
 |.int i,.int j=>i==j
 |.str x,.str y=>x==y
 |.tup xs,.tup ys=>eqDs xs ys
 |.lst xs,.lst ys=>eqDs xs ys
 |_,_=>Ae
noncomputable def eqDs:Ac D->Ac D->Ap
 |[],[]=>Aa
 |x::xs,y::ys=>eqD x y&&eqDs xs ys
 |_,_=>Ae
end
noncomputable def flD:Ag->D->Ap
 |_,.non=>Aa
 |_,.bl _=>Aa
 |_,.int _=>Aa
 |_,.str _=>Aa
 |n+1,.tup xs=>xs.all (flD n)
 |n+1,.lst xs=>xs.all (flD n)
 |_,_=>Ae
noncomputable def Le:D->Au (Ac Ad)
 |.tup ds=>keyDs ds
 |_=>Af
where keyDs:Ac D->Au (Ac Ad)
 |[]=>Ab []
 |.int i::r=>(keyDs r).map (i :: ·)
 |_=>Af
noncomputable def ltD:Ag->D->D->Ap
 |0,.int i,.int j=>decide (i<j)
 |n+1,.tup xs,.tup ys=>ltDs (ltD n) xs ys
 |_,_,_=>Ae
where ltDs (lt:D->D->Ap):Ac D->Ac D->Ap
 |[],[]=>Ae
 |[],_::_=>Aa
 |_::_,[]=>Ae
 |x::xs,y::ys=>if eqD x y=Aa then ltDs lt xs ys else lt x y
noncomputable def rkD:Ag->D->Ap
 |0,.int _=>Aa
 |n+1,.tup xs=>xs.all (rkD n)
 |_,_=>Ae
noncomputable def Lf(lt:D->D->Ap)(x:D):Ac D->Ac D
 |[]=>[x]
 |y::ys=>if lt y x=Aa then y::Lf lt x ys else x::y::ys
noncomputable def NC(lt:D->D->Ap):Ac D->Ac D
 |[]=>[]
 |x::xs=>Lf lt x (NC lt xs)
noncomputable def Lk:Ac D->Ap
 |[]=>Aa
 |x::xs=>xs.all (fun y=>!eqD x y)&&Lk xs
noncomputable def NP:Ac D->Ap
 |[]=>Aa
 |[_]=>Aa
 |x::y::r=>ltD 1 x y&&NP (y::r)
noncomputable def Hm(xs:Ac D):R (Ac D):=if (xs.all (fun d=>rkD 1 d && !eqD d (.tup []))&&Lk xs&&(decide (xs.length<64)||(NP xs&&decide (xs.length<=1000))))=Aa then .ok (NC (ltD 1) xs) else .bad
noncomputable def Cr:FH->D->D->R D
  |.Eq,x,y=>if (flD 5 x&&flD 5 y)=Aa then .ok (.bl (eqD x y)) else .bad
  |.NotEq,x,y=>if (flD 5 x&&flD 5 y)=Aa then .ok (.bl (!eqD x y)) else .bad
  |.Lt,.int i,.int j=>.ok (.bl (decide (i<j)))
  |.LtE,.int i,.int j=>.ok (.bl (decide (i<=j)))
  |.Gt,.int i,.int j=>.ok (.bl (decide (j<i)))
  |.GtE,.int i,.int j=>.ok (.bl (decide (j<=i)))
  |.In,x,.lst ys=>if (flD 5 x&&ys.all (flD 5))=Aa then .ok (.bl (ys.any fun y=>eqD y x)) else .bad
  |.In,x,.dic kvs=>match Le x with
    |some k=>.ok (.bl (kvs.any fun p=>p.1==k))
    |none=>.bad
  |.In,x,.tup ys=>if (flD 5 x&&ys.all (flD 5))=Aa then .ok (.bl (ys.any fun y=>eqD y x)) else .bad
  |.NotIn,x,.lst ys=>if (flD 5 x&&ys.all (flD 5))=Aa then .ok (.bl (!ys.any fun y=>eqD y x)) else .bad
  |.NotIn,x,.tup ys=>if (flD 5 x&&ys.all (flD 5))=Aa then .ok (.bl (!ys.any fun y=>eqD y x)) else .bad
  |.Is,.non,.non=>.ok (.bl Aa)
  |.Is,.bl _,.non=>.ok (.bl Ae)
  |.Is,.int _,.non=>.ok (.bl Ae)
  |.Is,.str _,.non=>.ok (.bl Ae)
  |.Is,.tup _,.non=>.ok (.bl Ae)
  |.Is,.lst _,.non=>.ok (.bl Ae)
  |.Is,.obj _ _,.non=>.ok (.bl Ae)
  |.Is,.bl a,.bl b=>.ok (.bl (a==b))
  |.IsNot,.bl a,.bl b=>.ok (.bl (!(a==b)))
  |.IsNot,.non,.non=>.ok (.bl Ae)
  |.IsNot,.bl _,.non=>.ok (.bl Aa)
  |.IsNot,.int _,.non=>.ok (.bl Aa)
  |.IsNot,.str _,.non=>.ok (.bl Aa)
  |.IsNot,.tup _,.non=>.ok (.bl Aa)
  |.IsNot,.lst _,.non=>.ok (.bl Aa)
  |.IsNot,.obj _ _,.non=>.ok (.bl Aa)
  |_,_,_=>.bad
noncomputable def CO:D->R Ap
 |.non=>.ok Ae
 |.bl b=>.ok b
 |.int i=>.ok (i != 0)
 |.str x=>if DL x.length=Aa then .ok (x.length != 0) else .bad
 |.tup xs=>.ok (!xs.isEmpty)
 |.lst xs=>.ok (!xs.isEmpty)
 |_=>.bad
noncomputable def plD(n:Ag)(i:Ad):Au Ag:=if 0<=i then (if i<n then Ab i.toNat else Af) else if -(n:Ad)<=i then Ab (i+n).toNat else Af
noncomputable def DI(xs:Ac D)(i:Ad):R D:=match plD xs.length i with
  |some k=>match xs[k]? with
    |some d=>.ok d
    |none=>.bad
  |none=>.bad
noncomputable def sS(kvs:Ac (Ac Ad×D))(k:Ac Ad):Au D:=(kvs.find? fun p=>p.1==k).map (·.2)
noncomputable def Vh(kvs:Ac (Ac Ad×D))(k:Ac Ad)(v:D):Ac (Ac Ad×D):=if (kvs.any fun p=>p.1==k)=Aa then kvs.map (fun p=>if (p.1==k)=Aa then (k,v) else p) else kvs++[(k,v)]
noncomputable def B7:D->D->R D
  |.lst xs,.int i=>DI xs i
  |.tup xs,.int i=>DI xs i
  |.dic kvs,k=>match (Le k).bind (sS kvs) with
    |some d=>.ok d
    |none=>.bad
  |_,_=>.bad
noncomputable def Fe:D->R Ad
 |.int i=>.ok i
 |_=>.bad
noncomputable def Ef:D->R Ap
 |.bl b=>.ok b
 |_=>.bad
noncomputable def CI:D->R (Ac D)
 |.lst xs=>.ok xs
 |.tup xs=>.ok xs
 |_=>.bad
noncomputable def K8:D->R (Ac D)
 |.lst xs=>.ok xs
 |_=>.bad
inductive BI where
 |len|abs|max|min|int|list|tuple|all|any|sum|sorted|str|count|stp|lset|tmin|tmax
 deriving DecidableEq,Inhabited
inductive Ki where
 |int|bool|str|list|tuple|verr|cls (c:Ag)
 deriving DecidableEq,Inhabited
mutual
inductive E where
 |non|bl (b:Ap)|int (i:Ad)|str (x:Al)
 |var (i:Ag)|glob (g:Ag)
 |bin (op:HN) (a b:E)|un (op:UnaryOp) (a:E)|no (a:E)
 |and (es:Es)|or (es:Es)
 |cmp (op:FH) (a b:E)|cmp2 (op op':FH) (a b c:E)
 |ite (c a b:E)
 |call (f:Ag) (as:Es)|bi (b:BI) (as:Es)
 |isi (a:E) (ks:Ac Ki)
 |idx (a i:E)|sl (a lo hi:E)
 |tup (es:Es)|lst (es:Es)
 |comp (elt:E) (t:Ag) (it:I) (c:E)|compT (elt:E) (ts:Ac Ag) (it:I) (c:E)|tupI (it:I)|dnew
 |fld (o:E) (f:Al)
inductive Es where
 |nil|cons (e:E) (es:Es)
inductive I where
 |e (a:E)|rng (a:E)|rng2 (a b:E)|zip (a b:E)|zip3 (a b c:E)|enm (a:E)
end
abbrev Sl:=Au (D×Ap)
abbrev Rho:=Ac Sl
structure Gam where
 F:Ag->Ac D->R D
 G:Ag->D
 up:Ag->Ac Ag
 /-- the defs whose answer is a new list -/
 fr:Ag->Ap
 /-- what is raised: the class,what it is made of -/
 xn:Ag->Ac D->R Ex
noncomputable def DB(lo:Ad)(n:Ag):Ac D:=(Bl n).map fun(k:Ag)=>D.int (lo+(k:Ad))
noncomputable def DA(lo hi:Ad):R (Ac D):=if (-(4611686018427387904:Ad)<=lo/\lo<4611686018427387904)/\(-(4611686018427387904:Ad)<=hi/\hi<4611686018427387904)/\hi-lo<1000000 then .ok (DB lo (hi-lo).toNat) else .bad
noncomputable def kiD(up:Ag->Ac Ag):Ki->D->Ap
 |.int,.int _=>Aa
 |.int,.bl _=>Aa
 |.bool,.bl _=>Aa
 |.str,.str _=>Aa
 |.list,.lst _=>Aa
 |.tuple,.tup _=>Aa
 |.cls c,.obj k _=>(up k).contains c
 |.cls c,.exc k _=>(up k).contains c
 |.verr,.exc _ _=>Aa
 |_,_=>Ae
noncomputable def FS:Ki->Ap
 |.cls _=>Aa
 |.verr=>Aa
 |_=>Ae
noncomputable def Ge(up:Ag->Ac Ag)(ks:Ac Ki)(x:D):R D:=match x with
  |.obj _ _=>.bad
  |.exc _ _=>if ks.all FS=Aa then .ok (.bl (ks.any fun k=>kiD up k x)) else .bad
  |.dic _=>.bad
  |_=>if ks.any FS=Aa then .bad else .ok (.bl (ks.any fun k=>kiD up k x))
noncomputable def EQ:D->R Ap
 |.non=>.ok Ae
 |.bl b=>.ok b
 |.int i=>.ok (i != 0)
 |_=>.bad
noncomputable def Hr:Ac D->R Ap
 |[]=>.ok Aa
 |x::r=>(EQ x).bind fun b=>(Hr r).bind fun c=>.ok (b&&c)
noncomputable def F4:Ac D->R Ap
 |[]=>.ok Ae
 |x::r=>(EQ x).bind fun b=>(F4 r).bind fun c=>.ok (b||c)
noncomputable def Ig:Ad->Ac D->R Ad
 |a,[]=>.ok a
 |a,.int i::r=>Ig (a+i) r
 |_,_=>.bad
noncomputable def EO:Ac D->Ac D->Ac D
 |x::xs,y::ys=>.tup [x,y]::EO xs ys
 |_,_=>[]
noncomputable def Qw:Ac D->Ac D->Ac D->Ac D
 |x::xs,y::ys,z::zs=>.tup [x,y,z]::Qw xs ys zs
 |_,_,_=>[]
noncomputable def La(x y z:D):R (Ac D):=(CI x).bind fun xs=>(CI y).bind fun ys=>(CI z).bind fun zs=>if 0<xs.length/\xs.length<=1000/\ys.length=xs.length/\zs.length=xs.length then .ok (Qw xs ys zs) else .bad
noncomputable def Ht:Ad->Ac D->Ac D
 |_,[]=>[]
 |i,x::xs=>.tup [.int i,x]::Ht (i+1) xs
noncomputable def nlD:Ag->D->Ap
 |_,.non=>Aa
 |_,.bl _=>Aa
 |_,.int _=>Aa
 |_,.str _=>Aa
 |n+1,.tup xs=>xs.all (nlD n)
 |_,_=>Ae
noncomputable def Lh(fr:Ap):D->Ap
 |.lst ds=>fr&&ds.all (nlD 5)
 |d=>nlD 5 d
noncomputable def Ic:Ac D->Au (Ac Ad)
 |[]=>Ab []
 |.int i::r=>(Ic r).map (i :: ·)
 |_=>Af
noncomputable def II(i:Ad):Ac Ad->Ad
 |[]=>i
 |j::r=>II (if j<i then j else i) r
noncomputable def pk2(k n:Ag):Ac Ag:=(Bl ((n-min k n+1) / 2)).map fun j=>min k n+2*j
noncomputable def Wo(k:Ag)(xs:Ac D):Ac D:=(pk2 k xs.length).filterMap fun i=>xs[i]?
noncomputable def ddS(acc:Ac Ad)(x:Ad):Ac Ad:=if acc.any (· == x)=Aa then acc else acc++[x]
noncomputable def ddN(is:Ac Ad):Ag:=(is.foldl ddS []).length
noncomputable def K6(xs:Ac D):R D:=match Ic xs with
  |some is=>if Ey is.length 4000=Aa then .ok (.int (ddN is)) else .bad
  |none=>.bad
noncomputable def mmD(mx:Ap)(x y:D):R D:=if [x,y].all (fun d=>rkD 1 d && !eqD d (.tup []))=Aa then .ok (if (if mx=Aa then ltD 1 x y else ltD 1 y x)=Aa then y else x) else .bad
noncomputable def biD:BI->Ac D->R D
  |.len,[.lst xs]=>.ok (.int xs.length)
  |.len,[.tup xs]=>.ok (.int xs.length)
  |.len,[.str x]=>if DL x.length=Aa then .ok (.int x.length) else .bad
  |.abs,[.int i]=>.ok (.int (if i<0 then -i else i))
  |.max,[.int i,.int j]=>.ok (.int (if i<j then j else i))
  |.min,[.int i,.int j]=>.ok (.int (if j<i then j else i))
  |.min,[.lst xs]=>match Ic xs with
    |some (i::is)=>.ok (.int (II i is))
    |_=>.bad
  |.int,[.int i]=>.ok (.int i)
  |.int,[.bl b]=>.ok (.int (b2i b))
  |.list,[.lst xs]=>.ok (.lst xs)
  |.list,[.tup xs]=>.ok (.lst xs)
  |.tuple,[.lst xs]=>.ok (.tup xs)
  |.tuple,[.tup xs]=>.ok (.tup xs)
  |.all,[.lst xs]=>(Hr xs).bind fun b=>.ok (.bl b)
  |.any,[.lst xs]=>(F4 xs).bind fun b=>.ok (.bl b)
  |.any,[.tup xs]=>(F4 xs).bind fun b=>.ok (.bl b)
  |.sum,[.lst xs]=>(Ig 0 xs).bind fun i=>.ok (.int i)
  |.sum,[.tup xs]=>(Ig 0 xs).bind fun i=>.ok (.int i)
  |.sorted,[.lst xs]=>(Hm xs).bind fun ys=>.ok (.lst ys)
  |.count,[.lst xs,x]=>if (flD 5 x&&xs.all (flD 5))=Aa then .ok (.int ((xs.filter fun y=>eqD y x).length:Ag)) else .bad
  |.len,[.dic kvs]=>.ok (.int kvs.length)
  |.stp,[.lst xs,.int k]=>.ok (.lst (Wo k.toNat xs))
  |.lset,[.lst xs]=>K6 xs
  |.tmin,[x,y]=>mmD Ae x y
  |.tmax,[x,y]=>mmD Aa x y
  |_,_=>.bad
noncomputable def slE(c:E)(d:D):R (Au Ad):=match c with
  |.non=>.ok Af
  |_=>(Fe d).bind fun i=>.ok (Ab i)
noncomputable def IH(n d:Ag):Au Ad->Ag
 |none=>d
 |some i=>if i<0 then (i+n).toNat else min i.toNat n
noncomputable def JH(xs:Ac D)(lo hi:Au Ad):Ac D:=(xs.drop (IH xs.length 0 lo)).take (IH xs.length xs.length hi-IH xs.length 0 lo)
noncomputable def slD:D->Au Ad->Au Ad->R D
 |.lst xs,l,h=>.ok (.lst (JH xs l h))
 |.tup xs,l,h=>if (IH xs.length 0 l==0&&IH xs.length xs.length h==xs.length)=Aa then .bad else .ok (.tup (JH xs l h))
 |_,_,_=>.bad
noncomputable def Rh:D->Al->R D
  |.obj _ fs,f=>match fs.lookup f with
    |some d=>.ok d
    |none=>.bad
  |.exc _ fs,f=>match fs.lookup f with
    |some d=>.ok d
    |none=>.bad
  |_,_=>.bad
noncomputable def Fo(ρ:Rho)(i:Ag):R D:=match ρ[i]? with
  |some (Ab (d,Ae))=>.ok d
  |_=>.bad
noncomputable def Gf(ρ:Rho)(i:Ag):R D:=match ρ[i]? with
  |some (Ab (d,_))=>.ok d
  |_=>.bad
noncomputable def shE(ρ:Rho):E->Ap
  | .var i=>(match ρ[i]? with
    |some (Ab (_,Aa))=>Ae
    | _=>Aa)
  |_=>Aa
noncomputable def JK(ρ:Rho):Es->Ap
 |.nil=>Aa
 |.cons e es=>shE ρ e&&JK ρ es
noncomputable def Fj:Ac Ag->Ac D->Rho->Au Rho
 |[],[],ρ=>Ab ρ
 |t::ts,d::ds,ρ=>Fj ts ds (ρ.set t (Ab (d,Ae)))
 |_,_,_=>Af
noncomputable def GJ(ts:Ac Ag)(d:D)(ρ:Rho):R Rho:=match d with
  | .tup xs=>(match Fj ts xs ρ with
    |some ρ'=>.ok ρ'
    | none=>.bad)
  |_=>.bad
noncomputable def G2(ts:Ac Ag)(d:D)(ρ:Rho):R Rho:=match d with
  | .lst xs=>(match Fj ts xs ρ with
    |some ρ'=>.ok ρ'
    | none=>.bad)
  |d=>GJ ts d ρ
noncomputable def BP(g:D->R Ap)(f:D->R D):Ac D->R (Ac D)
 |[]=>.ok []
 |x::xs=>(g x).bind fun b=>if b=Aa then (f x).bind fun y=>(BP g f xs).bind fun ys=>.ok (y::ys) else BP g f xs
noncomputable def noX{α:Type}:R α->R α
 |.ok a=>.ok a
 |_=>.bad
noncomputable def top(ρ:Rho)(e:E)(r:R D):R D:=match e with
  |.var i=>Gf ρ i
  |_=>r
mutual
noncomputable def evE(Γ:Gam)(ρ:Rho):E->R D
 |.non=>.ok .non
 |.bl b=>.ok (.bl b)
 |.int i=>.ok (.int i)
 |.str x=>.ok (.str x)
 |.var i=>Fo ρ i
 |.glob g=>.ok (Γ.G g)
 |.bin op a b=>(top ρ a (evE Γ ρ a)).bind fun x=>(top ρ b (evE Γ ρ b)).bind fun y=>Dp op x y
 |.un op a=>(top ρ a (evE Γ ρ a)).bind fun x=>unD op x
 |.no a=>(top ρ a (evE Γ ρ a)).bind fun x=>(Ef x).bind fun b=>.ok (.bl (!b))
 |.and es=>evN Γ ρ es
 |.or es=>evO Γ ρ es
 |.cmp op a b=>(top ρ a (evE Γ ρ a)).bind fun x=>(top ρ b (evE Γ ρ b)).bind fun y=>Cr op x y
 |.cmp2 op op' a b c=>(top ρ a (evE Γ ρ a)).bind fun x=>(top ρ b (evE Γ ρ b)).bind fun y=>(Cr op x y).bind fun z=>(Ef z).bind fun k=>if k=Aa then (top ρ c (evE Γ ρ c)).bind fun u=>Cr op' y u else .ok (.bl Ae)
 |.ite c a b=>(top ρ c (evE Γ ρ c)).bind fun x=>(CO x).bind fun k=>if k=Aa then evE Γ ρ a else evE Γ ρ b
 |.call f as=>(evB Γ ρ as).bind fun xs=>(Γ.F f xs).bind fun d=>if JK ρ as=Aa then .ok d else if Lh (Γ.fr f) d=Aa then .ok d else .bad
 |.bi b as=>(evB Γ ρ as).bind fun xs=>biD b xs
 |.isi a ks=>(top ρ a (evE Γ ρ a)).bind fun x=>Ge Γ.up ks x
 |.idx a i=>(top ρ a (evE Γ ρ a)).bind fun x=>(top ρ i (evE Γ ρ i)).bind fun y=>B7 x y
 |.sl a lo hi=>(top ρ a (evE Γ ρ a)).bind fun x=>(top ρ lo (evE Γ ρ lo)).bind fun l=>(slE lo l).bind fun l'=>(top ρ hi (evE Γ ρ hi)).bind fun h=>(slE hi h).bind fun h'=>slD x l' h'
 |.tup es=>(evA Γ ρ es).bind fun xs=>.ok (.tup xs)
 |.lst es=>(evA Γ ρ es).bind fun xs=>.ok (.lst xs)
 |.comp elt t it c=>(evI Γ ρ it).bind fun xs=>(noX (BP (fun x=>(top (ρ.set t (Ab (x,Ae))) c (evE Γ (ρ.set t (Ab (x,Ae))) c)).bind CO) (fun x=>evE Γ (ρ.set t (Ab (x,Ae))) elt) xs)).bind fun ys=>.ok (.lst ys)
 |.compT elt ts it c=>(evI Γ ρ it).bind fun xs=>(noX (BP (fun x=>(GJ ts x ρ).bind fun ρ'=>(top ρ' c (evE Γ ρ' c)).bind CO) (fun x=>(GJ ts x ρ).bind fun ρ'=>evE Γ ρ' elt) xs)).bind fun ys=>.ok (.lst ys)
 |.tupI it=>(evI Γ ρ it).bind fun xs=>.ok (.tup xs)
 |.dnew=>.ok (.dic [])
 |.fld o f=>(top ρ o (evE Γ ρ o)).bind fun x=>Rh x f
noncomputable def evN(Γ:Gam)(ρ:Rho):Es->R D
 |.nil=>.bad
 |.cons e .nil=>evE Γ ρ e
 |.cons e (.cons e' es)=>(evE Γ ρ e).bind fun x=>(Ef x).bind fun c=>if c=Aa then evN Γ ρ (.cons e' es) else .ok (.bl Ae)
noncomputable def evO(Γ:Gam)(ρ:Rho):Es->R D
 |.nil=>.bad
 |.cons e .nil=>evE Γ ρ e
 |.cons e (.cons e' es)=>(evE Γ ρ e).bind fun x=>(Ef x).bind fun c=>if c=Aa then .ok (.bl Aa) else evO Γ ρ (.cons e' es)
noncomputable def evA(Γ:Gam)(ρ:Rho):Es->R (Ac D)
 |.nil=>.ok []
 |.cons e es=>(evE Γ ρ e).bind fun x=>(evA Γ ρ es).bind fun xs=>.ok (x::xs)
noncomputable def evB(Γ:Gam)(ρ:Rho):Es->R (Ac D)
 |.nil=>.ok []
 |.cons e es=>(top ρ e (evE Γ ρ e)).bind fun x=>(evB Γ ρ es).bind fun xs=>.ok (x::xs)
noncomputable def evI(Γ:Gam)(ρ:Rho):I->R (Ac D)
 |.e a=>(evE Γ ρ a).bind CI
 |.rng a=>(top ρ a (evE Γ ρ a)).bind fun x=>(Fe x).bind fun j=>DA 0 j
 |.rng2 a b=>(top ρ a (evE Γ ρ a)).bind fun x=>(top ρ b (evE Γ ρ b)).bind fun y=>(Fe x).bind fun i=>(Fe y).bind fun j=>DA i j
 |.zip a b=>(evE Γ ρ a).bind fun x=>(evE Γ ρ b).bind fun y=>(CI x).bind fun xs=>(CI y).bind fun ys=>.ok (EO xs ys)
 |.zip3 a b c=>(evE Γ ρ a).bind fun x=>(evE Γ ρ b).bind fun y=>(evE Γ ρ c).bind fun z=>La x y z
 |.enm a=>(evE Γ ρ a).bind fun x=>(CI x).bind fun xs=>.ok (Ht 0 xs)
end
noncomputable def Fn(Γ:Gam):E->Ap
 |.lst _=>Aa
 |.comp _ _ _ _=>Aa
 |.compT _ _ _ _=>Aa
 |.dnew=>Aa
 |.bin .Add _ _=>Aa
 |.bi .list _=>Aa
 |.bi .sorted _=>Aa
 |.sl _ _ _=>Aa
 |.call f _=>Γ.fr f
 |_=>Ae
mutual
inductive S where
 |pass
 /-- x=e;fresh: x alone holds the new list -/
 |asg (i:Ag) (fresh:Ap) (e:E)
 /-- a,b,..=e -/
 |asgT (ts:Ac Ag) (e:E)
 |expr (e:E)
 |ret (e:E)|retN
 |ife (c:E) (a b:Ss)
 |fors (t:Ag) (it:I) (body:Ss)
 |forT (ts:Ac Ag) (it:I) (body:Ss)
 |whl (c:E) (body:Ss)
 /-- raise C(e,..) -/
 |rais (c:Ag) (as:Es)
 /-- try: body except C as x: h -/
 |tryx (body:Ss) (c:Ag) (x:Ag) (h:Ss)
 /-- x.append(e),x.extend(e),x.insert(k,e),x.reverse(),x.clear() -/
 |app (i:Ag) (e:E)|ext (i:Ag) (e:E)|ins (i:Ag) (k e:E)|rev (i:Ag)|clr (i:Ag)
 /-- d[k]=e,d.setdefault(k,e) -/
 |dput (i:Ag) (k e:E)|dsd (i:Ag) (k e:E)
 /-- x[k]=e -/
 |put (i:Ag) (k e:E)
 /-- x[k],x[l]=x[l],x[k] -/
 |swp (i k l:Ag)
 |brk|cont
 /-- nothing: from here on x is no longer changed -/
 |rel (i:Ag)
inductive Ss where
 |nil|cons (s:S) (ss:Ss)
end
inductive O where
 |next (ρ:Rho)|ret (d:D) (fr:Ap)|brk (ρ:Rho)|cont (ρ:Rho)|exn (x:Ex) (ρ:Rho)|bad
 deriving Inhabited
noncomputable def O.of{α:Type}(ρ:Rho)(r:R α)(f:α->O):O:=match r with
  |.ok a=>f a
  |.exn x=>.exn x ρ
  |.bad=>.bad
@[simp]theorem O.of_ok(ρ:Rho)(a:α)(f:α->O):O.of ρ (.ok a) f=f a:=rfl
@[simp]theorem O.of_exn(ρ:Rho)(x:Ex)(f:α->O):O.of ρ (.exn x:R α) f=.exn x ρ:=rfl
@[simp]theorem O.of_bad(ρ:Rho)(f:α->O):O.of ρ (.bad:R α) f=.bad:=rfl
noncomputable def IK(Γ:Gam)(ρ:Rho)(i:I):R (Ac D):=evI Γ ρ i
noncomputable def Dq(ρ:Rho)(i:Ag):R (Ac D):=match ρ[i]? with
  |some (Ab (.lst xs,Aa))=>.ok xs
  |_=>.bad
noncomputable def Rw(ρ:Rho)(i:Ag):R (Ac (Ac Ad×D)):=match ρ[i]? with
  |some (Ab (.dic xs,Aa))=>.ok xs
  |_=>.bad
noncomputable def Wc(d:D):R (Ac Ad):=match Le d with
  |some k=>.ok k
  |none=>.bad
noncomputable def V1:Ag:=4096
noncomputable def O.seq(o:O)(f:Rho->O):O:=match o with
  |.next ρ=>f ρ
  |.ret d b=>.ret d b
  |.brk ρ=>.brk ρ
  |.cont ρ=>.cont ρ
  |.exn x ρ=>.exn x ρ
  |.bad=>.bad
noncomputable def O.turn(o:O)(f:Rho->O):O:=match o with
  |.next ρ=>f ρ
  |.cont ρ=>f ρ
  |.brk ρ=>.next ρ
  |.ret d b=>.ret d b
  |.exn x ρ=>.exn x ρ
  |.bad=>.bad
noncomputable def DW(body:D->Rho->O):Ac D->Rho->O
 |[],ρ=>.next ρ
 |x::xs,ρ=>(body x ρ).turn (DW body xs)
noncomputable def QQ(c:Rho->R Ap)(body:Rho->O):Ag->Rho->O
 |0,_=>.bad
 |n+1,ρ=>O.of ρ (c ρ) fun b=>if b=Aa then (body ρ).turn (QQ c body n) else .next ρ
noncomputable def HZ(ρ:Rho)(k:Ag):R Ad:=(Fo ρ k).bind Fe
noncomputable def NN(ρ:Rho)(d:D)(i k l:Ag):O:=match d with
  |.tup [x,y]=>O.of ρ (Dq ρ i) fun xs=>O.of ρ (HZ ρ k) fun a=>O.of ρ (HZ ρ l) fun b=>match plD xs.length a,plD xs.length b with
    |some m,Ab n=>.next (ρ.set i (Ab (.lst ((xs.set m x).set n y),Aa)))
    |_,_=>.bad
  |_=>.bad
mutual
noncomputable def evS(Γ:Gam)(ρ:Rho):S->O
  |.pass=>.next ρ
  | .asg i fresh e=>O.of ρ (evE Γ ρ e) fun d=>if fresh=Aa then (if Fn Γ e=Aa then (match d with
      |.lst xs=>.next (ρ.set i (Ab (.lst xs,Aa)))
      |.dic xs=>.next (ρ.set i (Ab (.dic xs,Aa)))
      | _=>.bad) else .bad) else .next (ρ.set i (Ab (d,Ae)))
  |.asgT ts e=>O.of ρ (evE Γ ρ e) fun d=>O.of ρ (G2 ts d ρ) fun ρ'=>.next ρ'
  |.expr e=>O.of ρ (evE Γ ρ e) fun _=>.next ρ
  |.ret e=>O.of ρ (top ρ e (evE Γ ρ e)) fun d=>.ret d (Fn Γ e||(match e with | .var i=>(match ρ[i]? with|some (Ab (_,o))=>o|_=>Ae)|_=>Ae))
  |.retN=>.ret .non Ae
  |.ife c a b=>O.of ρ ((top ρ c (evE Γ ρ c)).bind CO) fun k=>if k=Aa then evSs Γ ρ a else evSs Γ ρ b
  |.fors t it body=>O.of ρ (IK Γ ρ it) fun xs=>DW (fun x ρ'=>evSs Γ (ρ'.set t (Ab (x,Ae))) body) xs ρ
  |.forT ts it body=>O.of ρ (IK Γ ρ it) fun xs=>DW (fun x ρ'=>O.of ρ' (GJ ts x ρ') fun ρ''=>evSs Γ ρ'' body) xs ρ
  |.whl c body=>QQ (fun ρ'=>(top ρ' c (evE Γ ρ' c)).bind CO) (fun ρ'=>evSs Γ ρ' body) V1 ρ
  |.rais c as=>O.of ρ (noX (evA Γ ρ as)) fun xs=>O.of ρ (Γ.xn c xs) fun x=>.exn x ρ
  |.tryx body c x h=>match evSs Γ ρ body with
      | .exn y ρ'=>if (Γ.up y.c).contains c=Aa then (match evSs Γ (ρ'.set x (Ab (.exc y.c y.fs,Ae))) h with
          |.next ρ''=>.next (ρ''.set x Af)
          |.ret d f=>.ret d f
          | _=>.bad) else .bad
      |o=>o
  |.app i e=>O.of ρ (Dq ρ i) fun xs=>O.of ρ (evE Γ ρ e) fun d=>if DL (xs.length+1)=Aa then .next (ρ.set i (Ab (.lst (xs++[d]),Aa))) else .bad
  |.ext i e=>O.of ρ (Dq ρ i) fun xs=>O.of ρ (evE Γ ρ e) fun d=>O.of ρ (K8 d) fun ys=>if DL (xs.length+ys.length)=Aa then .next (ρ.set i (Ab (.lst (xs++ys),Aa))) else .bad
  |.ins i k e=>O.of ρ (Dq ρ i) fun xs=>O.of ρ ((top ρ k (evE Γ ρ k)).bind Fe) fun j=>O.of ρ (evE Γ ρ e) fun d=>if (DL (xs.length+1)&&decide (0<=j)&&decide (j<=xs.length))=Aa then .next (ρ.set i (Ab (.lst (xs.take j.toNat++d::xs.drop j.toNat),Aa))) else .bad
  |.rev i=>O.of ρ (Dq ρ i) fun xs=>.next (ρ.set i (Ab (.lst xs.reverse,Aa)))
  |.clr i=>O.of ρ (Dq ρ i) fun _=>.next (ρ.set i (Ab (.lst [],Aa)))
  |.dput i k e=>O.of ρ (evE Γ ρ e) fun d=>O.of ρ (Rw ρ i) fun xs=>O.of ρ ((evE Γ ρ k).bind Wc) fun j=>if DL (xs.length+1)=Aa then .next (ρ.set i (Ab (.dic (Vh xs j d),Aa))) else .bad
  |.dsd i k e=>O.of ρ (Rw ρ i) fun xs=>O.of ρ ((evE Γ ρ k).bind Wc) fun j=>O.of ρ (evE Γ ρ e) fun d=>if DL (xs.length+1)=Aa then .next (ρ.set i (Ab (.dic (if (xs.any fun p=>p.1==j)=Aa then xs else Vh xs j d),Aa))) else .bad
  |.put i k e=>O.of ρ (evE Γ ρ e) fun d=>O.of ρ (Dq ρ i) fun xs=>O.of ρ ((top ρ k (evE Γ ρ k)).bind Fe) fun j=>match plD xs.length j with
      |some n=>.next (ρ.set i (Ab (.lst (xs.set n d),Aa)))
      |none=>.bad
  |.swp i k l=>O.of ρ (evE Γ ρ (.tup (.cons (.idx (.var i) (.var l)) (.cons (.idx (.var i) (.var k)) .nil)))) fun d=>NN ρ d i k l
  |.brk=>.brk ρ
  |.cont=>.cont ρ
  |.rel i=>match ρ[i]? with
      |some (Ab (d,Aa))=>.next (ρ.set i (Ab (d,Ae)))
      |_=>.next ρ
noncomputable def evSs(Γ:Gam)(ρ:Rho):Ss->O
 |.nil=>.next ρ
 |.cons s ss=>(evS Γ ρ s).seq fun ρ'=>evSs Γ ρ' ss
end
structure Df where
 n:Ag
 fr:Ap
 body:Ss
noncomputable def BB(n:Ag)(ds:Ac D):Rho:=ds.map (fun d=>Ab (d,Ae))++E6 (n-ds.length) Af
noncomputable def isL:D->Ap
 |.lst _=>Aa
 |.dic _=>Aa
 |_=>Ae
noncomputable def O.ans(fr:Ap)(o:O):R D:=match o with
  |.ret d b=>if (fr&&(!b&&isL d))=Aa then .bad else .ok d
  |.next _=>if fr=Aa then .bad else .ok .non
  |.exn x _=>.exn x
  |_=>.bad
noncomputable def Df.run(Γ:Gam)(f:Df)(ds:Ac D):R D:=(evSs Γ (BB f.n ds) f.body).ans f.fr
structure Prg where
 xs:Ap
 defs:Ag->Df
 G:Ag->D
 up:Ag->Ac Ag
 xn:Ag->Ac D->R Ex
noncomputable def ES(xs:Ap)(r:R D):R D:=match xs with
  | true=>(match r with
    |.exn x=>if x.fs.isEmpty=Aa then .exn x else .bad
    | r=>r)
  |false=>noX r
noncomputable def gam(P:Prg):Ag->Gam
 |0=>⟨fun _ _=>.bad,P.G,P.up,fun i=>(P.defs i).fr,P.xn⟩
 |n+1=>⟨fun i ds=>ES P.xs ((P.defs i).run (gam P n) ds),P.G,P.up,fun i=>(P.defs i).fr,P.xn⟩
end Ov
end
section
namespace Ov
open PySem
variable{α:Type}
section
variable(Γ:Gam)(ρ:Rho)
@[simp]theorem Zy4:evE Γ ρ .non=.ok .non:=rfl
@[simp]theorem ZAT(b):evE Γ ρ (.bl b)=.ok (.bl b):=rfl
@[simp]theorem Zy8(b):evE Γ ρ (.int b)=.ok (.int b):=rfl
@[simp]theorem Zy3(b):evE Γ ρ (.str b)=.ok (.str b):=rfl
@[simp]theorem Zy2(i):evE Γ ρ (.var i)=Fo ρ i:=rfl
@[simp]theorem Zvz(i):evE Γ ρ (.glob i)=.ok (Γ.G i):=rfl
@[simp]theorem lO(op a b):evE Γ ρ (.bin op a b)=(top ρ a (evE Γ ρ a)).bind fun x=>(top ρ b (evE Γ ρ b)).bind fun y=>Dp op x y:=rfl
@[simp]theorem ZAP(op a):evE Γ ρ (.un op a)=(top ρ a (evE Γ ρ a)).bind fun x=>unD op x:=rfl
@[simp]theorem ZAS(a):evE Γ ρ (.no a)=(top ρ a (evE Γ ρ a)).bind fun x=>(Ef x).bind fun b=>.ok (.bl (!b)):=rfl
@[simp]theorem Zzc(es):evE Γ ρ (.and es)=evN Γ ρ es:=rfl
@[simp]theorem ZAR(es):evE Γ ρ (.or es)=evO Γ ρ es:=rfl
@[simp]theorem ZyY(e):evN Γ ρ (.cons e .nil)=evE Γ ρ e:=rfl
@[simp]theorem Zvu(e e' es):evN Γ ρ (.cons e (.cons e' es))=(evE Γ ρ e).bind fun x=>(Ef x).bind fun c=>if c=Aa then evN Γ ρ (.cons e' es) else .ok (.bl Ae):=rfl
@[simp]theorem ZyX(e):evO Γ ρ (.cons e .nil)=evE Γ ρ e:=rfl
@[simp]theorem Zvt(e e' es):evO Γ ρ (.cons e (.cons e' es))=(evE Γ ρ e).bind fun x=>(Ef x).bind fun c=>if c=Aa then .ok (.bl Aa) else evO Γ ρ (.cons e' es):=rfl
@[simp]theorem Zzb(op a b):evE Γ ρ (.cmp op a b)=(top ρ a (evE Γ ρ a)).bind fun x=>(top ρ b (evE Γ ρ b)).bind fun y=>Cr op x y:=rfl
@[simp]theorem ZvC(op op' a b c):evE Γ ρ (.cmp2 op op' a b c)=(top ρ a (evE Γ ρ a)).bind fun x=>(top ρ b (evE Γ ρ b)).bind fun y=>(Cr op x y).bind fun z=>(Ef z).bind fun k=>if k=Aa then (top ρ c (evE Γ ρ c)).bind fun u=>Cr op' y u else .ok (.bl Ae):=rfl
@[simp]theorem Zy6(c a b):evE Γ ρ (.ite c a b)=(top ρ c (evE Γ ρ c)).bind fun x=>(CO x).bind fun k=>if k=Aa then evE Γ ρ a else evE Γ ρ b:=rfl
@[simp]theorem ZvD(f as):evE Γ ρ (.call f as)=(evB Γ ρ as).bind fun xs=>(Γ.F f xs).bind fun d=>if JK ρ as=Aa then .ok d else if Lh (Γ.fr f) d=Aa then .ok d else .bad:=rfl
@[simp]theorem Ng(f as):evE Γ ρ (.bi f as)=(evB Γ ρ as).bind fun xs=>biD f xs:=rfl
@[simp]theorem Zy7(a ks):evE Γ ρ (.isi a ks)=(top ρ a (evE Γ ρ a)).bind fun x=>Ge Γ.up ks x:=rfl
@[simp]theorem Zy9(a i):evE Γ ρ (.idx a i)=(top ρ a (evE Γ ρ a)).bind fun x=>(top ρ i (evE Γ ρ i)).bind fun y=>B7 x y:=rfl
@[simp]theorem ZAQ(a lo hi):evE Γ ρ (.sl a lo hi)=(top ρ a (evE Γ ρ a)).bind fun x=>(top ρ lo (evE Γ ρ lo)).bind fun l=>(slE lo l).bind fun l'=>(top ρ hi (evE Γ ρ hi)).bind fun h=>(slE hi h).bind fun h'=>slD x l' h':=rfl
@[simp]theorem lK(es):evE Γ ρ (.tup es)=(evA Γ ρ es).bind fun xs=>.ok (.tup xs):=rfl
@[simp]theorem Zy5(es):evE Γ ρ (.lst es)=(evA Γ ρ es).bind fun xs=>.ok (.lst xs):=rfl
noncomputable def cG(Γ:Gam)(ρ:Rho)(t:Ag)(c:E):D->R Ap:=fun x=>(top (ρ.set t (Ab (x,Ae))) c (evE Γ (ρ.set t (Ab (x,Ae))) c)).bind CO
noncomputable def cF(Γ:Gam)(ρ:Rho)(t:Ag)(elt:E):D->R D:=fun x=>evE Γ (ρ.set t (Ab (x,Ae))) elt
noncomputable def mkL(r:R (Ac D)):R D:=(noX r).bind fun ys=>.ok (.lst ys)
@[simp]theorem ZAt(ys):mkL (.ok ys)=.ok (.lst ys):=rfl
@[simp]theorem ZvB(elt t it c):evE Γ ρ (.comp elt t it c)=(evI Γ ρ it).bind fun xs=>mkL (BP (cG Γ ρ t c) (cF Γ ρ t elt) xs):=rfl
noncomputable def cGT(Γ:Gam)(ρ:Rho)(ts:Ac Ag)(c:E):D->R Ap:=fun x=>(GJ ts x ρ).bind fun ρ'=>(top ρ' c (evE Γ ρ' c)).bind CO
noncomputable def cFT(Γ:Gam)(ρ:Rho)(ts:Ac Ag)(elt:E):D->R D:=fun x=>(GJ ts x ρ).bind fun ρ'=>evE Γ ρ' elt
@[simp]theorem Ztq(elt ts it c):evE Γ ρ (.compT elt ts it c)=(evI Γ ρ it).bind fun xs=>mkL (BP (cGT Γ ρ ts c) (cFT Γ ρ ts elt) xs):=rfl
@[simp]theorem bJ(it):evE Γ ρ (.tupI it)=(evI Γ ρ it).bind fun xs=>.ok (.tup xs):=rfl
@[simp]theorem ZvA:evE Γ ρ .dnew=.ok (.dic []):=rfl
@[simp]theorem Zza(o f):evE Γ ρ (.fld o f)=(top ρ o (evE Γ ρ o)).bind fun x=>Rh x f:=rfl
@[simp]theorem Zze:evA Γ ρ .nil=.ok []:=rfl
@[simp]theorem S9(e es):evA Γ ρ (.cons e es)=(evE Γ ρ e).bind fun x=>(evA Γ ρ es).bind fun xs=>.ok (x::xs):=rfl
@[simp]theorem Zzd:evB Γ ρ .nil=.ok []:=rfl
@[simp]theorem S8(e es):evB Γ ρ (.cons e es)=(top ρ e (evE Γ ρ e)).bind fun x=>(evB Γ ρ es).bind fun xs=>.ok (x::xs):=rfl
@[simp]theorem ZBO(a):evI Γ ρ (.e a)=(evE Γ ρ a).bind CI:=rfl
@[simp]theorem Zy0(a):evI Γ ρ (.rng a)=(top ρ a (evE Γ ρ a)).bind fun x=>(Fe x).bind fun j=>DA 0 j:=rfl
@[simp]theorem bH(a b):evI Γ ρ (.rng2 a b)=(top ρ a (evE Γ ρ a)).bind fun x=>(top ρ b (evE Γ ρ b)).bind fun y=>(Fe x).bind fun i=>(Fe y).bind fun j=>DA i j:=rfl
@[simp]theorem ZyZ(a b):evI Γ ρ (.zip a b)=(evE Γ ρ a).bind fun x=>(evE Γ ρ b).bind fun y=>(CI x).bind fun xs=>(CI y).bind fun ys=>.ok (EO xs ys):=rfl
@[simp]theorem Zvy(a b c):evI Γ ρ (.zip3 a b c)=(evE Γ ρ a).bind fun x=>(evE Γ ρ b).bind fun y=>(evE Γ ρ c).bind fun z=>La x y z:=rfl
@[simp]theorem Zy1(a):evI Γ ρ (.enm a)=(evE Γ ρ a).bind fun x=>(CI x).bind fun xs=>.ok (Ht 0 xs):=rfl
@[simp]theorem Zvv(a b):IK Γ ρ (.zip a b)=evI Γ ρ (.zip a b):=rfl
@[simp]theorem Zto(a b c):IK Γ ρ (.zip3 a b c)=evI Γ ρ (.zip3 a b c):=rfl
@[simp]theorem Zvx(a):IK Γ ρ (.enm a)=evI Γ ρ (.enm a):=rfl
@[simp]theorem ZAO(a):IK Γ ρ (.e a)=(evE Γ ρ a).bind CI:=rfl
@[simp]theorem Zvw(a):IK Γ ρ (.rng a)=evI Γ ρ (.rng a):=rfl
@[simp]theorem Ztp(a b):IK Γ ρ (.rng2 a b)=evI Γ ρ (.rng2 a b):=rfl
variable(r:R D)
@[simp]theorem ZvW(i):top ρ (.var i) r=Gf ρ i:=rfl
@[simp]theorem ZvY:top ρ .non r=r:=rfl
@[simp]theorem ZzZ(b):top ρ (.bl b) r=r:=rfl
@[simp]theorem Zv2(b):top ρ (.int b) r=r:=rfl
@[simp]theorem ZvX(b):top ρ (.str b) r=r:=rfl
@[simp]theorem ZuM(b):top ρ (.glob b) r=r:=rfl
@[simp]theorem fY(op a b):top ρ (.bin op a b) r=r:=rfl
@[simp]theorem ZzV(op a):top ρ (.un op a) r=r:=rfl
@[simp]theorem ZzY(a):top ρ (.no a) r=r:=rfl
@[simp]theorem Zv6(a):top ρ (.and a) r=r:=rfl
@[simp]theorem ZzX(a):top ρ (.or a) r=r:=rfl
@[simp]theorem Zv5(op a b):top ρ (.cmp op a b) r=r:=rfl
@[simp]theorem ZuP(op op' a b c):top ρ (.cmp2 op op' a b c) r=r:=rfl
@[simp]theorem Zv0(a b c):top ρ (.ite a b c) r=r:=rfl
@[simp]theorem ZuQ(a b):top ρ (.call a b) r=r:=rfl
@[simp]theorem Zz0(a b):top ρ (.bi a b) r=r:=rfl
@[simp]theorem Zv1(a b):top ρ (.isi a b) r=r:=rfl
@[simp]theorem Zv3(a b):top ρ (.idx a b) r=r:=rfl
@[simp]theorem ZzW(a b c):top ρ (.sl a b c) r=r:=rfl
@[simp]theorem fX(a):top ρ (.tup a) r=r:=rfl
@[simp]theorem ZvZ(a):top ρ (.lst a) r=r:=rfl
@[simp]theorem ZuO(a b c d):top ρ (.comp a b c d) r=r:=rfl
@[simp]theorem Zv4(a b):top ρ (.fld a b) r=r:=rfl
@[simp]theorem Zq0(a b c d):top ρ (.compT a b c d) r=r:=rfl
@[simp]theorem dB(a):top ρ (.tupI a) r=r:=rfl
@[simp]theorem ZuN:top ρ .dnew r=r:=rfl
end
@[simp]theorem ZqP(x:D×Ap)(ρ:Rho):Gf (Ab x::ρ) 0=.ok x.1:=rfl
@[simp]theorem ZqQ(x:D)(ρ:Rho):Fo (Ab (x,Ae)::ρ) 0=.ok x:=rfl
@[simp]theorem Zqu(x:Sl)(ρ:Rho)(i:Ag)[NeZero i]:Gf (x::ρ) i=Gf ρ (i-1):=by
 obtain⟨j,rfl⟩:∃ j,i=j+1:=⟨i-1,by have:=Ln i;omega⟩
 rfl
@[simp]theorem Zqv(x:Sl)(ρ:Rho)(i:Ag)[NeZero i]:Fo (x::ρ) i=Fo ρ (i-1):=by
 obtain⟨j,rfl⟩:∃ j,i=j+1:=⟨i-1,by have:=Ln i;omega⟩
 rfl
noncomputable def shV(ρ:Rho)(i:Ag):Ap:=match ρ[i]? with
    |some (Ab (_,Aa))=>Ae
    |_=>Aa
@[simp]theorem ZuW(x:D)(b:Ap)(ρ:Rho):shV (Ab (x,b)::ρ) 0=!b:=by cases b<;>rfl
@[simp]theorem Zrn(ρ:Rho):shV (Af::ρ) 0=Aa:=rfl
@[simp]theorem Zro(x:Sl)(ρ:Rho)(i:Ag)[NeZero i]:shV (x::ρ) i=shV ρ (i-1):=by
 obtain⟨j,rfl⟩:∃ j,i=j+1:=⟨i-1,by have:=Ln i;omega⟩
 rfl
section
variable(ρ:Rho)
@[simp]theorem Zwx(i):shE ρ (.var i)=shV ρ i:=rfl
@[simp]theorem ZwA:shE ρ .non=Aa:=rfl
@[simp]theorem ZAd(b):shE ρ (.bl b)=Aa:=rfl
@[simp]theorem ZwE(b):shE ρ (.int b)=Aa:=rfl
@[simp]theorem Zwz(b):shE ρ (.str b)=Aa:=rfl
@[simp]theorem ZuZ(b):shE ρ (.glob b)=Aa:=rfl
@[simp]theorem ZwI(op a b):shE ρ (.bin op a b)=Aa:=rfl
@[simp]theorem Zz9(op a):shE ρ (.un op a)=Aa:=rfl
@[simp]theorem ZAc(a):shE ρ (.no a)=Aa:=rfl
@[simp]theorem ZwJ(a):shE ρ (.and a)=Aa:=rfl
@[simp]theorem ZAb(a):shE ρ (.or a)=Aa:=rfl
@[simp]theorem ZwH(op a b):shE ρ (.cmp op a b)=Aa:=rfl
@[simp]theorem Zu2(op op' a b c):shE ρ (.cmp2 op op' a b c)=Aa:=rfl
@[simp]theorem ZwC(a b c):shE ρ (.ite a b c)=Aa:=rfl
@[simp]theorem Zu3(a b):shE ρ (.call a b)=Aa:=rfl
@[simp]theorem ZAe(a b):shE ρ (.bi a b)=Aa:=rfl
@[simp]theorem ZwD(a b):shE ρ (.isi a b)=Aa:=rfl
@[simp]theorem ZwF(a b):shE ρ (.idx a b)=Aa:=rfl
@[simp]theorem ZAa(a b c):shE ρ (.sl a b c)=Aa:=rfl
@[simp]theorem Zwy(a):shE ρ (.tup a)=Aa:=rfl
@[simp]theorem ZwB(a):shE ρ (.lst a)=Aa:=rfl
@[simp]theorem Zu1(a b c d):shE ρ (.comp a b c d)=Aa:=rfl
@[simp]theorem Zrp(a b c d):shE ρ (.compT a b c d)=Aa:=rfl
@[simp]theorem ZuY(a):shE ρ (.tupI a)=Aa:=rfl
@[simp]theorem Zu0:shE ρ .dnew=Aa:=rfl
@[simp]theorem ZwG(a b):shE ρ (.fld a b)=Aa:=rfl
@[simp]theorem ZuX:JK ρ .nil=Aa:=rfl
@[simp]theorem aL(e es):JK ρ (.cons e es)=(shE ρ e&&JK ρ es):=rfl
end
@[simp]theorem Zqx(ρ:Rho):Fj [] [] ρ=Ab ρ:=rfl
@[simp]theorem ZnV(t ts d ds)(ρ:Rho):Fj (t::ts) (d::ds) ρ=Fj ts ds (ρ.set t (Ab (d,Ae))):=rfl
@[simp]theorem aT(ts ds)(ρ:Rho):G2 ts (.lst ds) ρ=match Fj ts ds ρ with
  |some ρ'=>.ok ρ'
  |none=>.bad:=rfl
@[simp]theorem Zub(ts ds)(ρ:Rho):G2 ts (.tup ds) ρ=GJ ts (.tup ds) ρ:=rfl
@[simp]theorem Sj(ts ds)(ρ:Rho):GJ ts (.tup ds) ρ=match Fj ts ds ρ with
  |some ρ'=>.ok ρ'
  |none=>.bad:=rfl
@[simp]theorem ZvL{β:Type}(c:Prop)[Gj c](a b:R α)(f:α->R β):(if c then a else b).bind f=if c then a.bind f else b.bind f:=by split<;>rfl
@[simp]theorem ZAs(ρ:Rho)(c:Prop)[Gj c](a b:R α)(f:α->O):O.of ρ (if c then a else b) f=if c then O.of ρ a f else O.of ρ b f:=by split<;>rfl
@[simp]theorem Zx6{β:Type}(ρ:Rho)(a:R α)(g:α->R β)(f:β->O):O.of ρ (a.bind g) f=O.of ρ a fun x=>O.of ρ (g x) f:=by cases a<;>rfl
@[simp]theorem ZwL(c:Prop)[Gj c](a b:O)(f:Rho->O):O.seq (if c then a else b) f=if c then a.seq f else b.seq f:=by split<;>rfl
@[simp]theorem ZuC(c:Prop)[Gj c](a b:O)(f:Rho->O):O.turn (if c then a else b) f=if c then a.turn f else b.turn f:=by split<;>rfl
@[simp]theorem ZzG(fr:Ap)(c:Prop)[Gj c](a b:O):O.ans fr (if c then a else b)=if c then a.ans fr else b.ans fr:=by split<;>rfl
@[simp]theorem Zu4(ρ f):O.seq (.next ρ) f=f ρ:=rfl
@[simp]theorem ZwK(d b f):O.seq (.ret d b) f=.ret d b:=rfl
@[simp]theorem ZwN(ρ f):O.seq (.brk ρ) f=.brk ρ:=rfl
@[simp]theorem Zu5(ρ f):O.seq (.cont ρ) f=.cont ρ:=rfl
@[simp]theorem ZwM(x ρ f):O.seq (.exn x ρ) f=.exn x ρ:=rfl
@[simp]theorem ZwO(f):O.seq .bad f=.bad:=rfl
@[simp]theorem O1(ρ f):O.turn (.next ρ) f=f ρ:=rfl
@[simp]theorem ZuB(d b f):O.turn (.ret d b) f=.ret d b:=rfl
@[simp]theorem ZuE(ρ f):O.turn (.brk ρ) f=.next ρ:=rfl
@[simp]theorem ZqV(ρ f):O.turn (.cont ρ) f=f ρ:=rfl
@[simp]theorem ZuD(x ρ f):O.turn (.exn x ρ) f=.exn x ρ:=rfl
@[simp]theorem ZuF(f):O.turn .bad f=.bad:=rfl
@[simp]theorem ZvO(ρ):O.ans Ae (.next ρ)=.ok .non:=rfl
@[simp]theorem ZzF(d b):O.ans Ae (.ret d b)=.ok d:=rfl
@[simp]theorem ZvN(d b):O.ans Aa (.ret d b)=if (!b&&isL d)=Aa then .bad else .ok d:=rfl
@[simp]theorem Zyz(d):isL (.lst d)=Aa:=rfl
@[simp]theorem Zyy(d):isL (.tup d)=Ae:=rfl
@[simp]theorem ZyA(d):isL (.int d)=Ae:=rfl
@[simp]theorem ZzH(fr x ρ):O.ans fr (.exn x ρ)=.exn x:=rfl
@[simp]theorem ZzI(fr):O.ans fr .bad=.bad:=rfl
@[simp]theorem ZA1(i j:Ad):Dp .Add (.int i) (.int j)=.ok (.int (i+j)):=rfl
@[simp]theorem Zz4(i j:Ad):Dp .Sub (.int i) (.int j)=.ok (.int (i-j)):=rfl
@[simp]theorem pZ(i j:Ad):Dp .Mult (.int i) (.int j)=if (Ee i j||Fl i j)=Aa then .ok (.int (i*j)) else .bad:=rfl
@[simp]theorem lF(i j:Ad):Dp .FloorDiv (.int i) (.int j)=if 0<j/\j<1073741824 then .ok (.int (i / j)) else .bad:=rfl
@[simp]theorem qA(i j:Ad):Dp .Mod (.int i) (.int j)=if 0<j then .ok (.int (i%j)) else .bad:=rfl
@[simp]theorem qQ(i j:Ad):Dp .Pow (.int i) (.int j)=if (0<=j/\j<=1000000)/\(-(18446744073709551616:Ad)<i/\i<18446744073709551616) then .ok (.int (i ^ j.toNat)) else .bad:=rfl
@[simp]theorem tF(x y:Al):Dp .Add (.str x) (.str y)=if DL (x.length+y.length)=Aa then .ok (.str (x++y)) else .bad:=rfl
@[simp]theorem Qr(x y:Ac D):Dp .Add (.lst x) (.lst y)=if DL (x.length+y.length)=Aa then .ok (.lst (x++y)) else .bad:=rfl
@[simp]theorem tE(x y:Ac D):Dp .Add (.tup x) (.tup y)=if (!x.isEmpty&&DL (x.length+y.length))=Aa then .ok (.tup (x++y)) else .bad:=rfl
@[simp]theorem ZBx(i:Ad):unD .USub (.int i)=.ok (.int (-i)):=rfl
@[simp]theorem yP(x y:D):Cr .Eq x y=if (flD 5 x&&flD 5 y)=Aa then .ok (.bl (eqD x y)) else .bad:=rfl
@[simp]theorem xW(x y:D):Cr .NotEq x y=if (flD 5 x&&flD 5 y)=Aa then .ok (.bl (!eqD x y)) else .bad:=rfl
@[simp]theorem ZBy(i j:Ad):Cr .Lt (.int i) (.int j)=.ok (.bl (decide (i<j))):=rfl
@[simp]theorem ZBB(i j:Ad):Cr .LtE (.int i) (.int j)=.ok (.bl (decide (i<=j))):=rfl
@[simp]theorem ZBL(i j:Ad):Cr .Gt (.int i) (.int j)=.ok (.bl (decide (j<i))):=rfl
@[simp]theorem ZBM(i j:Ad):Cr .GtE (.int i) (.int j)=.ok (.bl (decide (j<=i))):=rfl
@[simp]theorem YJ(x:D)(ys:Ac D):Cr .In x (.lst ys)=if (flD 5 x&&ys.all (flD 5))=Aa then .ok (.bl (ys.any fun y=>eqD y x)) else .bad:=rfl
@[simp]theorem YI(x:D)(ys:Ac D):Cr .In x (.tup ys)=if (flD 5 x&&ys.all (flD 5))=Aa then .ok (.bl (ys.any fun y=>eqD y x)) else .bad:=rfl
@[simp]theorem xU(x:D)(ys:Ac D):Cr .NotIn x (.lst ys)=if (flD 5 x&&ys.all (flD 5))=Aa then .ok (.bl (!ys.any fun y=>eqD y x)) else .bad:=rfl
@[simp]theorem xT(x:D)(ys:Ac D):Cr .NotIn x (.tup ys)=if (flD 5 x&&ys.all (flD 5))=Aa then .ok (.bl (!ys.any fun y=>eqD y x)) else .bad:=rfl
@[simp]theorem ZAC:Cr .Is .non .non=.ok (.bl Aa):=rfl
@[simp]theorem ZAE(i):Cr .Is (.int i) .non=.ok (.bl Ae):=rfl
@[simp]theorem ZAB(i):Cr .Is (.tup i) .non=.ok (.bl Ae):=rfl
@[simp]theorem ZAD(i):Cr .Is (.lst i) .non=.ok (.bl Ae):=rfl
@[simp]theorem ZBE(a b):Cr .Is (.bl a) (.bl b)=.ok (.bl (a==b)):=rfl
@[simp]theorem ZAz(a b):Cr .IsNot (.bl a) (.bl b)=.ok (.bl (!(a==b))):=rfl
@[simp]theorem Zyo:Cr .IsNot .non .non=.ok (.bl Ae):=rfl
@[simp]theorem Zyq(i):Cr .IsNot (.int i) .non=.ok (.bl Aa):=rfl
@[simp]theorem Zyn(i):Cr .IsNot (.tup i) .non=.ok (.bl Aa):=rfl
@[simp]theorem Zyp(i):Cr .IsNot (.lst i) .non=.ok (.bl Aa):=rfl
@[simp]theorem Zzl(i j:Ad):eqD (.int i) (.int j)=(i==j):=rfl
@[simp]theorem ZAU(i j:Ap):eqD (.bl i) (.bl j)=(i==j):=rfl
@[simp]theorem Zzi(i j:Al):eqD (.str i) (.str j)=(i==j):=rfl
@[simp]theorem Zzh(i j:Ac D):eqD (.tup i) (.tup j)=eqDs i j:=rfl
@[simp]theorem Zzk(i j:Ac D):eqD (.lst i) (.lst j)=eqDs i j:=rfl
@[simp]theorem Zzj:eqD .non .non=Aa:=rfl
@[simp]theorem Zpz(i):eqD .non (.int i)=Ae:=rfl
@[simp]theorem ZpA(i):eqD (.int i) .non=Ae:=rfl
@[simp]theorem ZvE:eqDs [] []=Aa:=rfl
@[simp]theorem OQ(x y:D)(xs ys:Ac D):eqDs (x::xs) (y::ys)=(eqD x y&&eqDs xs ys):=rfl
@[simp]theorem ZyO(n)(i:Ad):flD n (.int i)=Aa:=by cases n<;>rfl
@[simp]theorem ZAN(n)(i:Ap):flD n (.bl i)=Aa:=by cases n<;>rfl
@[simp]theorem ZyM(n)(i:Al):flD n (.str i)=Aa:=by cases n<;>rfl
@[simp]theorem ZyN(n):flD n .non=Aa:=by cases n<;>rfl
@[simp]theorem Zu9(i):flD 5 (.tup i)=i.all (flD 4):=rfl
@[simp]theorem Zve(i):flD 5 (.lst i)=i.all (flD 4):=rfl
@[simp]theorem Zva(i):flD 4 (.tup i)=i.all (flD 3):=rfl
@[simp]theorem Zvf(i):flD 4 (.lst i)=i.all (flD 3):=rfl
@[simp]theorem Zvb(i):flD 3 (.tup i)=i.all (flD 2):=rfl
@[simp]theorem Zvg(i):flD 3 (.lst i)=i.all (flD 2):=rfl
@[simp]theorem Zvc(i):flD 2 (.tup i)=i.all (flD 1):=rfl
@[simp]theorem Zvh(i):flD 2 (.lst i)=i.all (flD 1):=rfl
@[simp]theorem Zvd(i):flD 1 (.tup i)=i.all (flD 0):=rfl
@[simp]theorem Zvi(i):flD 1 (.lst i)=i.all (flD 0):=rfl
@[simp]theorem ZvU(b):CO (.bl b)=.ok b:=rfl
@[simp]theorem ZuJ(i):CO (.int i)=.ok (i != 0):=rfl
@[simp]theorem ZuI(i):CO (.lst i)=.ok (!i.isEmpty):=rfl
@[simp]theorem ZuG(i):CO (.tup i)=.ok (!i.isEmpty):=rfl
@[simp]theorem ZuH:CO .non=.ok Ae:=rfl
@[simp]theorem ZvV(b):EQ (.bl b)=.ok b:=rfl
@[simp]theorem ZuL(i):EQ (.int i)=.ok (i != 0):=rfl
@[simp]theorem ZuK:EQ .non=.ok Ae:=rfl
@[simp]theorem Zul:Hr []=.ok Aa:=rfl
@[simp]theorem OK(x r):Hr (x::r)=(EQ x).bind fun b=>(Hr r).bind fun c=>.ok (b&&c):=rfl
@[simp]theorem Zuk:F4 []=.ok Ae:=rfl
@[simp]theorem Sn(x r):F4 (x::r)=(EQ x).bind fun b=>(F4 r).bind fun c=>.ok (b||c):=rfl
@[simp]theorem Zzv(b)(d):ES b (.ok d)=.ok d:=by cases b<;>rfl
@[simp]theorem ZvG(b):ES b .bad=.bad:=by cases b<;>rfl
@[simp]theorem ZvF(c):ES Aa (.exn ⟨c,[]⟩)=.exn ⟨c,[]⟩:=rfl
@[simp]theorem ZqJ(r):ES Ae r=noX r:=rfl
@[simp]theorem Zx7(a:α):noX (.ok a)=.ok a:=rfl
@[simp]theorem Zx9:noX (.bad:R α)=.bad:=rfl
@[simp]theorem Zx8(x):noX (.exn x:R α)=.bad:=rfl
@[simp]theorem ZzD(b):Ef (.bl b)=.ok b:=rfl
@[simp]theorem aU(b):Fe (.int b)=.ok b:=rfl
@[simp]theorem Sz(b):K8 (.lst b)=.ok b:=rfl
@[simp]theorem Zue(b):CI (.lst b)=.ok b:=rfl
@[simp]theorem Zud(b):CI (.tup b)=.ok b:=rfl
@[simp]theorem xN(xs i):B7 (.lst xs) (.int i)=DI xs i:=rfl
@[simp]theorem xM(xs i):B7 (.tup xs) (.int i)=DI xs i:=rfl
@[simp]theorem ZBA(xs):biD .len [.lst xs]=.ok (.int xs.length):=rfl
@[simp]theorem ZBz(xs):biD .len [.tup xs]=.ok (.int xs.length):=rfl
@[simp]theorem ZBW(i):biD .abs [.int i]=.ok (.int (if i<0 then -i else i)):=rfl
@[simp]theorem ZAv(i j):biD .max [.int i,.int j]=.ok (.int (if i<j then j else i)):=rfl
@[simp]theorem ZAu(i j):biD .min [.int i,.int j]=.ok (.int (if j<i then j else i)):=rfl
@[simp]theorem ZBF(i):biD .int [.int i]=.ok (.int i):=rfl
@[simp]theorem ZBG(i):biD .int [.bl i]=.ok (.int (b2i i)):=rfl
@[simp]theorem ZAy(i):biD .list [.lst i]=.ok (.lst i):=rfl
@[simp]theorem qE(i):biD .list [.tup i]=.ok (.lst i):=rfl
@[simp]theorem ZvT(i):biD .tuple [.lst i]=.ok (.tup i):=rfl
@[simp]theorem ZvS(i):biD .tuple [.tup i]=.ok (.tup i):=rfl
@[simp]theorem yI(i):biD .all [.lst i]=(Hr i).bind fun b=>.ok (.bl b):=rfl
@[simp]theorem ZBU(i):biD .any [.lst i]=(F4 i).bind fun b=>.ok (.bl b):=rfl
@[simp]theorem ZBT(i):biD .any [.tup i]=(F4 i).bind fun b=>.ok (.bl b):=rfl
@[simp]theorem ZBm(i):biD .sum [.lst i]=(Ig 0 i).bind fun b=>.ok (.int b):=rfl
@[simp]theorem ZBl(i):biD .sum [.tup i]=(Ig 0 i).bind fun b=>.ok (.int b):=rfl
@[simp]theorem ZuV(i):biD .sorted [.lst i]=(Hm i).bind fun b=>.ok (.lst b):=rfl
@[simp]theorem ZBn(xs k):biD .stp [.lst xs,.int k]=.ok (.lst (Wo k.toNat xs)):=rfl
@[simp]theorem ZAw(xs):biD .lset [.lst xs]=K6 xs:=rfl
@[simp]theorem Zz1(x y):biD .tmin [x,y]=mmD Ae x y:=rfl
@[simp]theorem Zz2(x y):biD .tmax [x,y]=mmD Aa x y:=rfl
@[simp]theorem Zzw(xs x):biD .count [.lst xs,x]=if (flD 5 x&&xs.all (flD 5))=Aa then .ok (.int ((xs.filter fun y=>eqD y x).length:Ag)) else .bad:=rfl
@[simp]theorem Y8(xs lo hi):slD (.tup xs) lo hi=if (IH xs.length 0 lo==0&&IH xs.length xs.length hi==xs.length)=Aa then .bad else .ok (.tup (JH xs lo hi)):=rfl
@[simp]theorem ZB4(xs lo hi):slD (.lst xs) lo hi=.ok (.lst (JH xs lo hi)):=rfl
@[simp]theorem Zwu(d):slE .non d=.ok Af:=rfl
@[simp]theorem Zwv(k i):slE (.int k) (.int i)=.ok (Ab i):=rfl
@[simp]theorem Zwt(k i):slE (.var k) (.int i)=.ok (Ab i):=rfl
@[simp]theorem Zww(op a b i):slE (.bin op a b) (.int i)=.ok (Ab i):=rfl
@[simp]theorem Zz7(op a i):slE (.un op a) (.int i)=.ok (Ab i):=rfl
@[simp]theorem Zz8(b as i):slE (.bi b as) (.int i)=.ok (Ab i):=rfl
@[simp]theorem Zyt(up ks):Ge up ks .non=if ks.any FS=Aa then .bad else .ok (.bl (ks.any fun k=>kiD up k .non)):=rfl
@[simp]theorem ZAA(up ks b):Ge up ks (.bl b)=if ks.any FS=Aa then .bad else .ok (.bl (ks.any fun k=>kiD up k (.bl b))):=rfl
@[simp]theorem Zyv(up ks b):Ge up ks (.int b)=if ks.any FS=Aa then .bad else .ok (.bl (ks.any fun k=>kiD up k (.int b))):=rfl
@[simp]theorem Zys(up ks b):Ge up ks (.str b)=if ks.any FS=Aa then .bad else .ok (.bl (ks.any fun k=>kiD up k (.str b))):=rfl
@[simp]theorem Zyr(up ks b):Ge up ks (.tup b)=if ks.any FS=Aa then .bad else .ok (.bl (ks.any fun k=>kiD up k (.tup b))):=rfl
@[simp]theorem Zyu(up ks b):Ge up ks (.lst b)=if ks.any FS=Aa then .bad else .ok (.bl (ks.any fun k=>kiD up k (.lst b))):=rfl
@[simp]theorem Zyw(up ks c f):Ge up ks (.exc c f)=if ks.all FS=Aa then .ok (.bl (ks.any fun k=>kiD up k (.exc c f))) else .bad:=rfl
@[simp]theorem ZvK(c):FS (.cls c)=Aa:=rfl
@[simp]theorem ZtF:FS .verr=Aa:=rfl
@[simp]theorem ZvJ:FS .int=Ae:=rfl
@[simp]theorem ZtH:FS .bool=Ae:=rfl
@[simp]theorem ZvI:FS .str=Ae:=rfl
@[simp]theorem ZtG:FS .list=Ae:=rfl
@[simp]theorem ZqK:FS .tuple=Ae:=rfl
@[simp]theorem ZqC(up i):kiD up .int (.int i)=Aa:=rfl
@[simp]theorem ZqB(up):kiD up .int .non=Ae:=rfl
@[simp]theorem Zpd(up i):kiD up .bool (.int i)=Ae:=rfl
@[simp]theorem ZqA(up i):kiD up .int (.tup i)=Ae:=rfl
@[simp]theorem ZqE(up i):kiD up .bool (.bl i)=Aa:=rfl
@[simp]theorem Zpc(up):kiD up .bool .non=Ae:=rfl
@[simp]theorem Zpb(up i):kiD up .list (.lst i)=Aa:=rfl
@[simp]theorem ZmJ(up i):kiD up .tuple (.tup i)=Aa:=rfl
@[simp]theorem ZmK(up):kiD up .tuple .non=Ae:=rfl
@[simp]theorem ZqD(up c k f):kiD up (.cls c) (.exc k f)=(up k).contains c:=rfl
@[simp]theorem Zpa(up k f):kiD up .verr (.exc k f)=Aa:=rfl
theorem M7{xs:Ac D}{i:Ad}{d:D}(h0:0<=i)(h:xs[i.toNat]?=Ab d):DI xs i=.ok d:=by
 unfold DI plD;obtain⟨h1,_⟩:=A6.mp h;rw[AD h0,AD (by omega)]
 dsimp only;rw[h]
section
variable(Γ:Gam)(ρ:Rho)
@[simp]theorem Zvj:evSs Γ ρ .nil=.next ρ:=rfl
noncomputable def Gh(Γ:Gam)(ss:Ss)(o:O):O:=o.seq fun ρ'=>evSs Γ ρ' ss
@[simp]theorem Ztm(s ss):evSs Γ ρ (.cons s ss)=Gh Γ ss (evS Γ ρ s):=rfl
@[simp]theorem ZyH(ss):Gh Γ ss (.next ρ)=evSs Γ ρ ss:=rfl
@[simp]theorem ZAF(ss d b):Gh Γ ss (.ret d b)=.ret d b:=rfl
@[simp]theorem ZAJ(ss):Gh Γ ss (.brk ρ)=.brk ρ:=rfl
@[simp]theorem ZyI(ss):Gh Γ ss (.cont ρ)=.cont ρ:=rfl
@[simp]theorem ZAI(ss x):Gh Γ ss (.exn x ρ)=.exn x ρ:=rfl
@[simp]theorem ZAK(ss):Gh Γ ss .bad=.bad:=rfl
@[simp]theorem ZAH(ss)(c:Prop)[Gj c](a b:O):Gh Γ ss (if c then a else b)=if c then Gh Γ ss a else Gh Γ ss b:=by split<;>rfl
@[simp]theorem ZAG(o:O):Gh Γ .nil o=o:=by cases o<;>rfl
noncomputable def Do(Γ:Gam)(t:Ag)(body:Ss):D->Rho->O:=fun x ρ'=>evSs Γ (ρ'.set t (Ab (x,Ae))) body
noncomputable def whC(Γ:Gam)(c:E):Rho->R Ap:=fun ρ'=>(top ρ' c (evE Γ ρ' c)).bind CO
noncomputable def whB(Γ:Gam)(body:Ss):Rho->O:=fun ρ'=>evSs Γ ρ' body
noncomputable def Rg(Γ:Gam)(t:Ag)(body:Ss)(ρ:Rho)(r:R (Ac D)):O:=O.of ρ r fun xs=>DW (Do Γ t body) xs ρ
@[simp]theorem ZyL(t body xs):Rg Γ t body ρ (.ok xs)=DW (Do Γ t body) xs ρ:=rfl
@[simp]theorem Zvn:evS Γ ρ .pass=.next ρ:=rfl
@[simp]theorem ZyV(i e):evS Γ ρ (.asg i Ae e)=O.of ρ (evE Γ ρ e) fun d=>.next (ρ.set i (Ab (d,Ae))):=rfl
@[simp]theorem Zvq(e):evS Γ ρ (.expr e)=O.of ρ (evE Γ ρ e) fun _=>.next ρ:=rfl
@[simp]theorem ZyR(e):evS Γ ρ (.ret e)=O.of ρ (top ρ e (evE Γ ρ e)) fun d=>.ret d (Fn Γ e||(match e with | .var i=>(match ρ[i]? with|some (Ab (_,o))=>o|_=>Ae)|_=>Ae)):=rfl
@[simp]theorem Zvl:evS Γ ρ .retN=.ret .non Ae:=rfl
@[simp]theorem ZyS(c a b):evS Γ ρ (.ife c a b)=O.of ρ ((top ρ c (evE Γ ρ c)).bind CO) fun k=>if k=Aa then evSs Γ ρ a else evSs Γ ρ b:=rfl
@[simp]theorem Zvo(t it body):evS Γ ρ (.fors t it body)=Rg Γ t body ρ (IK Γ ρ it):=rfl
noncomputable def Nw(Γ:Gam)(ts:Ac Ag)(body:Ss):D->Rho->O:=fun x ρ'=>O.of ρ' (GJ ts x ρ') fun ρ''=>evSs Γ ρ'' body
noncomputable def V3(Γ:Gam)(ts:Ac Ag)(body:Ss)(ρ:Rho)(r:R (Ac D)):O:=O.of ρ r fun xs=>DW (Nw Γ ts body) xs ρ
@[simp]theorem Zu8(t body xs):V3 Γ t body ρ (.ok xs)=DW (Nw Γ t body) xs ρ:=rfl
@[simp]theorem Zvp(t it body):evS Γ ρ (.forT t it body)=V3 Γ t body ρ (IK Γ ρ it):=rfl
@[simp]theorem Zvs(ts e):evS Γ ρ (.asgT ts e)=O.of ρ (evE Γ ρ e) fun d=>O.of ρ (G2 ts d ρ) fun ρ'=>.next ρ':=rfl
theorem bG(i e):evS Γ ρ (.asg i Aa e)=O.of ρ (evE Γ ρ e) fun d=>if Fn Γ e=Aa then (match d with
      |.lst xs=>.next (ρ.set i (Ab (.lst xs,Aa)))
      |.dic xs=>.next (ρ.set i (Ab (.dic xs,Aa)))
      | _=>.bad) else .bad:=rfl
noncomputable def setF(ρ:Rho)(i:Ag):D->O
 |.lst xs=>.next (ρ.set i (Ab (.lst xs,Aa)))
 |.dic xs=>.next (ρ.set i (Ab (.dic xs,Aa)))
 |_=>.bad
@[simp]theorem ZAf(i xs):setF ρ i (.lst xs)=.next (ρ.set i (Ab (.lst xs,Aa))):=rfl
@[simp]theorem ZAg(i xs):setF ρ i (.dic xs)=.next (ρ.set i (Ab (.dic xs,Aa))):=rfl
@[simp]theorem Ztn(i e):evS Γ ρ (.asg i Aa e)=O.of ρ (evE Γ ρ e) fun d=>if Fn Γ e=Aa then setF ρ i d else .bad:=by
 rw[bG]
 congr 1
@[simp]theorem ZyW(i e):evS Γ ρ (.app i e)=O.of ρ (Dq ρ i) fun xs=>O.of ρ (evE Γ ρ e) fun d=>if DL (xs.length+1)=Aa then .next (ρ.set i (Ab (.lst (xs++[d]),Aa))) else .bad:=rfl
@[simp]theorem lJ(i e):evS Γ ρ (.ext i e)=O.of ρ (Dq ρ i) fun xs=>O.of ρ (evE Γ ρ e) fun d=>O.of ρ (K8 d) fun ys=>if DL (xs.length+ys.length)=Aa then .next (ρ.set i (Ab (.lst (xs++ys),Aa))) else .bad:=rfl
@[simp]theorem ZyQ(i):evS Γ ρ (.rev i)=O.of ρ (Dq ρ i) fun xs=>.next (ρ.set i (Ab (.lst xs.reverse,Aa))):=rfl
@[simp]theorem ZyT(i):evS Γ ρ (.clr i)=O.of ρ (Dq ρ i) fun _=>.next (ρ.set i (Ab (.lst [],Aa))):=rfl
theorem UC(i k e):evS Γ ρ (.put i k e)=O.of ρ (evE Γ ρ e) fun d=>O.of ρ (Dq ρ i) fun xs=>O.of ρ ((top ρ k (evE Γ ρ k)).bind Fe) fun j=>match plD xs.length j with
      |some n=>.next (ρ.set i (Ab (.lst (xs.set n d),Aa)))
      |none=>.bad:=rfl
theorem lI(i k l):evS Γ ρ (.swp i k l)=O.of ρ (evE Γ ρ (.tup (.cons (.idx (.var i) (.var l)) (.cons (.idx (.var i) (.var k)) .nil)))) fun d=>NN ρ d i k l:=rfl
@[simp]theorem Zvk(body c x h):evS Γ ρ (.tryx body c x h)=match evSs Γ ρ body with
      | .exn y ρ'=>if (Γ.up y.c).contains c=Aa then (match evSs Γ (ρ'.set x (Ab (.exc y.c y.fs,Ae))) h with
          |.next ρ''=>.next (ρ''.set x Af)
          |.ret d f=>.ret d f
          | _=>.bad) else .bad
      |o=>o:=rfl
@[simp]theorem ZyP(c body):evS Γ ρ (.whl c body)=QQ (whC Γ c) (whB Γ body) V1 ρ:=rfl
@[simp]theorem Zvm(c as):evS Γ ρ (.rais c as)=O.of ρ (noX (evA Γ ρ as)) fun xs=>O.of ρ (Γ.xn c xs) fun x=>.exn x ρ:=rfl
@[simp]theorem ZyU:evS Γ ρ .brk=.brk ρ:=rfl
@[simp]theorem Zvr:evS Γ ρ .cont=.cont ρ:=rfl
end
end Ov
namespace Ov
open PySem
theorem S5{body:D->Rho->O}(P:Rho->Prop):∀(xs:Ac D)(ρ:Rho),P ρ->(∀ x∈xs,∀ ρ,P ρ->∃ ρ',body x ρ=.next ρ'/\P ρ')->∃ ρ',DW body xs ρ=.next ρ'/\P ρ'
 |[],ρ,h,_=>⟨ρ,rfl,h⟩
 |x::xs,ρ,h,k=>by
  obtain⟨ρ1,e1,h1⟩:=k x AB ρ h;obtain⟨ρ2,e2,h2⟩:=S5 P xs ρ1 h1 fun y hy=>k y (Av _ hy)
  exact⟨ρ2,by show (body x ρ).turn _=_;rw[e1];exact e2,h2⟩
theorem KC(lo:Ad)(n:Ag):(DB lo n).length=n:=by simp[DB]
theorem Tv{lo:Ad}{n i:Ag}{x:D}(h:(DB lo n)[i]?=Ab x):i<n/\x=.int (lo+(i:Ad)):=by
 have hl:=(A6.mp h).1;rw[KC]at hl;unfold DB at h;rw[Eg,List.getElem?_range hl]at h;cases h;exact⟨hl,rfl⟩
noncomputable def Ss.take:Ag->Ss->Ss
 |0,_=>.nil
 |_,.nil=>.nil
 |n+1,.cons s ss=>.cons s (ss.take n)
noncomputable def Ss.drop:Ag->Ss->Ss
 |0,ss=>ss
 |_,.nil=>.nil
 |n+1,.cons _ ss=>ss.drop n
theorem S7(Γ:Gam):∀(n:Ag)(ss:Ss)(ρ:Rho),evSs Γ ρ ss=Gh Γ (ss.drop n) (evSs Γ ρ (ss.take n))
 |0,_,_=>rfl
 |_+1,.nil,_=>rfl
 |n+1,.cons s ss,ρ=>by
  show (evS Γ ρ s).seq (fun ρ'=>evSs Γ ρ' ss)=Gh Γ (ss.drop n) ((evS Γ ρ s).seq fun ρ'=>evSs Γ ρ' (ss.take n))
  cases evS Γ ρ s with
  |next ρ'=>exact S7 Γ n ss ρ'
  |_=>rfl
end Ov
end
section
namespace OvC
open PySem Ov PyProof.Rows
variable{j:Ad}
noncomputable abbrev scr(ns:Ac Ad):D:=.lst (ns.map .int)
noncomputable abbrev sh(d:D):Sl:=Ab (d,Ae)
noncomputable abbrev si(i:Ad):Sl:=Ab (.int i,Ae)
theorem four{P:Ag->Prop}(h0:P 0)(h1:P 1)(h2:P 2)(h3:P 3):P (j%4).toNat:=by
 have:(j%4).toNat=0\/(j%4).toNat=1\/(j%4).toNat=2\/(j%4).toNat=3:=by omega
 rcases this with e|e|e|e<;>rw[e]<;>assumption
def P4(p:Ad):Prop:=p=3\/p=5\/p=7\/p=11
noncomputable def pr4(j:Ad):Ad:=[3,5,7,11].getD (j%4).toNat 0
theorem qP(j):P4 (pr4 j):=by
 unfold pr4;exact four (P:=fun j=>P4 ([3,5,7,11].getD j 0)) (.inl rfl) (.inr (.inl rfl)) (.inr (.inr (.inl rfl))) (.inr (.inr (.inr rfl)))
theorem P4.pos{p}(h:P4 p):0<p:=by rcases h with rfl|rfl|rfl|rfl<;>decide
theorem P4.lo{p}(h:P4 p):3<=p:=by rcases h with rfl|rfl|rfl|rfl<;>decide
theorem P4.hi{p}(h:P4 p):p<=11:=by rcases h with rfl|rfl|rfl|rfl<;>decide
theorem cN(j:Ad):DI [.int 3,.int 5,.int 7,.int 11] (j%4)=.ok (.int (pr4 j)):=by
 have h:=four (P:=fun j=>[D.int 3,D.int 5,D.int 7,D.int 11][j]?=Ab (D.int ([3,5,7,11].getD j 0))) (j:=j) rfl rfl rfl rfl
 exact M7 (by omega) h
theorem Iz{i:Ad}(h0:-18446744073709551616<i)(h1:i<18446744073709551616):Ee i j=Aa:=by simp[Ee];left;exact⟨h0,h1⟩
theorem Pi{i:Ad}(h0:-18446744073709551616<j)(h1:j<18446744073709551616):Ee i j=Aa:=by simp[Ee];right;exact⟨h0,h1⟩
noncomputable def Qk:Df:=⟨2,Ae,(.cons (.ret (.bin .Mod (.var 1) (.var 0))) .nil)⟩
def IC(Γ:Gam):Prop:=∀ p n:Ad,0<p->Γ.F 1 [.int p,.int n]=.ok (.int (n%p))
theorem oD(Γ:Gam)(p n:Ad)(h:0<p):Qk.run Γ [.int p,.int n]=.ok (.int (n%p)):=by simp[Qk,Df.run,BB,h]
end OvC
end
namespace Ov
open PySem PySem.Spec PyProof.Rows L2
variable{A B:Ak->Prop}{H H' H1 H0:Hp}{a b l q:Ak}{xs vs:Ac V}{v:V}{d:D}{Rp Rq:Hp->V->D->Prop}{r:R D}{Q:VK}{X:Cx}{e c tg iter elt:Ar}{ρ:Rho}{i n j k t':Ag}{σ:L2.St}{g:D->D->R D}{op:FH}{K:Fg}{pI:Pn}{s:Aq}{items2 its ys us acc items:AM Ai}{h h' h2:AQ}{u y f0:Ai}{its2:Ac Ai}{es ifs:Ac Ar}{fs fi:Rho->R (Ac D)}{Q':Au Ad->Hp->Prop}{x:Al}{id T:DM}{p p2 pos pos' pos2 tpos:A8}{f fc:Rho->R Ap}{α:Type}{Fz:Ak->HO->Prop}{D':Ends}{lo:Ad}{as:D->Rho->R Rho}{up:Ag->Ac Ag}{prog P:A5}{w:AJ}{o o1:Dz}{scope:CP}{env:CA}{cl:Ac (Al×Ak)}{N':Ac Al}{ts:Ac Ag}{fp:Ac Ak}{tt:TT}{te:TE}{J:It}{wi:TI}{P1 P2:Ag->Ai->Prop}{S1 S2:Ag->AQ->Prop}{t f1:Ap}{ta:TA}{ps:Ac (Ak×Ac V)}
abbrev ClA:=Ag->Au Ak
variable{CL:ClA}
def KL(K:Fg)(a:Ak)(xs:Ac V):Prop:=∃(o:Dz)(its:AM Ai)(n:Ag),K.lookup a=Ab o/\o.cls=.type "list"/\o.dict=Af/\o.data=.seq its n/\its.size<=sizeLine/\Bq xs its.toList
def KT(K:Fg)(a:Ak)(xs:Ac V):Prop:=∃(o:Dz)(its:AM Ai)(n:Ag),K.lookup a=Ab o/\o.cls=.type "tuple"/\o.data=.seq its n/\its.size<=sizeLine/\Bq xs its.toList
section
variable(K:Fg)(CL:ClA)(H:Hp)(A:Ak->Prop)
mutual
def Rep:V->D->Prop
 |v,.non=>v=.non
 |v,.bl b=>v=.bl b
 |v,.int i=>v=.int i
 |v,.str x=>v=.str x
 |v,.tup ds=>∃ a xs,v=.ref a/\(¬ A a\/KT K a xs)/\SqT K H a xs/\Reps xs ds
 |v,.lst ds=>∃ a xs,v=.ref a/\(¬ A a\/KL K a xs)/\SqL K H a xs/\Reps xs ds
 |v,.obj c fs=>∃ a C dx vs,v=.ref a/\¬ A a/\CL c=Ab C/\H a=Ab (.ins C dx vs)/\Repf vs fs
 |_,.dic _=>BF
 |v,.exc c fs=>∃ a C φ,v=.ref a/\¬ A a/\CL c=Ab C/\H a=Ab (.ext φ)/\(∀ h,φ h->∃ o,h.get? a=Ab o/\o.cls=.ref C)/\(fs=[]\/∃ dx vs,¬ A dx/\H dx=Ab (.xd vs)/\Repf vs fs/\∀ h,φ h->∃ o,h.get? a=Ab o/\o.dict=Ab dx)
def Reps:Ac V->Ac D->Prop
 |[],[]=>IX
 |v::vs,d::ds=>Rep v d/\Reps vs ds
 |_,_=>BF
def Repf:Ac (Al×V)->Ac (Al×D)->Prop
 |[],[]=>IX
 |v::vs,d::ds=>Repp v d/\Repf vs ds
 |_,_=>BF
def Repp:Al×V->Al×D->Prop
 |v,(n,d)=>v.1=n/\Rep v.2 d
end
def C7(v:V)(d:D):Prop:=Rep K CL H A v d\/∃ a xs ds,v=.ref a/\d=.lst ds/\H a=Ab (.lst xs)/\Reps K CL H A xs ds
end
def Kp(A:Ak->Prop)(H H':Hp):Prop:=∀ b o,H b=Ab o->¬ A b->H' b=Ab o
def AOk(H:Hp)(A:Ak->Prop):Prop:=∀ a,A a->∃ xs,H a=Ab (.lst xs)
theorem Kp.of(h:AN H H'):Kp A H H':=fun b o e _=>h b o e
theorem AOk.same(h:AOk H A)(s:AN H H'):AOk H' A:=fun a ha=>let ⟨xs,e⟩:=h a ha;⟨xs,s _ _ e⟩
theorem AOk.new{p:Ak}(h:AOk H A)(e:H p=Af):¬ A p:=fun ha=>by
 obtain⟨xs,q⟩:=h p ha;rw[e]at q;cases q
section
variable{K:Fg}{CL:ClA}{H H':Hp}{A B:Ak->Prop}
theorem VG{u:HO}(k:Kp A H H')(na:¬ A a)(h:Rd H a u):Rd H' a u:=by
 rcases h with h|⟨o,h⟩
 ·exact .inl (k _ _ h na)
 ·exact .inr ⟨o,k _ _ h na⟩
theorem Nh(k:Kp A H H')(na:¬ A a\/KL K a xs)(h:SqL K H a xs):SqL K H' a xs:=na.elim (fun na=>h.imp (VG k na) id) .inr
theorem Nr(k:Kp A H H')(na:¬ A a\/KT K a xs)(h:SqT K H a xs):SqT K H' a xs:=na.elim (fun na=>h.imp (VG k na) id) .inr
mutual
theorem Rep.kp(k:Kp A H H'):∀{v:V}(d:D),Rep K CL H A v d->Rep K CL H' A v d
 |_,.non,h=>h
 |_,.bl _,h=>h
 |_,.int _,h=>h
 |_,.str _,h=>h
 |_,.dic _,h=>h.elim
 |_,.tup ds,h=>by
  obtain⟨a,xs,e,na,s,r⟩:=h;exact⟨a,xs,e,na,by first|exact Nr k na s|exact Nh k na s,Reps.kp k ds r⟩
 |_,.lst ds,h=>by
  obtain⟨a,xs,e,na,s,r⟩:=h;exact⟨a,xs,e,na,by first|exact Nr k na s|exact Nh k na s,Reps.kp k ds r⟩
 |_,.obj c fs,h=>by
  obtain⟨a,C,dx,vs,e,na,c,s,r⟩:=h;exact⟨a,C,dx,vs,e,na,c,k _ _ s na,Repf.kp k fs r⟩
 |_,.exc c fs,h=>by
  obtain⟨a,C,φ,e,na,c,s,p,q⟩:=h;refine⟨a,C,φ,e,na,c,k _ _ s na,p,q.imp id ?_⟩;rintro⟨dx,vs,nx,s2,r,z⟩;exact⟨dx,vs,nx,k _ _ s2 nx,Repf.kp k fs r,z⟩
theorem Reps.kp(k:Kp A H H'):∀{vs:Ac V}(ds:Ac D),Reps K CL H A vs ds->Reps K CL H' A vs ds
 |[],[],h=>h
 |_::_,d::ds,h=>⟨Rep.kp k d h.1,Reps.kp k ds h.2⟩
 |[],_::_,h=>h.elim
 |_::_,[],h=>h.elim
theorem Repf.kp(k:Kp A H H'):∀{vs:Ac (Al×V)}(ds:Ac (Al×D)),Repf K CL H A vs ds->Repf K CL H' A vs ds
 |[],[],h=>h
 |_::_,d::ds,h=>⟨Repp.kp k d h.1,Repf.kp k ds h.2⟩
 |[],_::_,h=>h.elim
 |_::_,[],h=>h.elim
theorem Repp.kp(k:Kp A H H'):∀{v:Al×V}(d:Al×D),Repp K CL H A v d->Repp K CL H' A v d
 |_,(_,d),h=>⟨h.1,Rep.kp k d h.2⟩
end
mutual
theorem Rep.sub(k:∀ a,B a->A a):∀{v:V}(d:D),Rep K CL H A v d->Rep K CL H B v d
 |_,.non,h=>h
 |_,.bl _,h=>h
 |_,.int _,h=>h
 |_,.str _,h=>h
 |_,.dic _,h=>h.elim
 |_,.tup ds,h=>by
  obtain⟨a,xs,e,na,s,r⟩:=h;exact⟨a,xs,e,na.imp (fun na z=>na (k _ z)) id,s,Reps.sub k ds r⟩
 |_,.lst ds,h=>by
  obtain⟨a,xs,e,na,s,r⟩:=h;exact⟨a,xs,e,na.imp (fun na z=>na (k _ z)) id,s,Reps.sub k ds r⟩
 |_,.obj c fs,h=>by
  obtain⟨a,C,dx,vs,e,na,c,s,r⟩:=h;exact⟨a,C,dx,vs,e,fun z=>na (k _ z),c,s,Repf.sub k fs r⟩
 |_,.exc c fs,h=>by
  obtain⟨a,C,φ,e,na,c,s,p,q⟩:=h;refine⟨a,C,φ,e,fun z=>na (k _ z),c,s,p,q.imp id ?_⟩
  rintro⟨dx,vs,nx,s2,r,z⟩;exact⟨dx,vs,fun z=>nx (k _ z),s2,Repf.sub k fs r,z⟩
theorem Reps.sub(k:∀ a,B a->A a):∀{vs:Ac V}(ds:Ac D),Reps K CL H A vs ds->Reps K CL H B vs ds
 |[],[],h=>h
 |_::_,d::ds,h=>⟨Rep.sub k d h.1,Reps.sub k ds h.2⟩
 |[],_::_,h=>h.elim
 |_::_,[],h=>h.elim
theorem Repf.sub(k:∀ a,B a->A a):∀{vs:Ac (Al×V)}(ds:Ac (Al×D)),Repf K CL H A vs ds->Repf K CL H B vs ds
 |[],[],h=>h
 |_::_,d::ds,h=>⟨Repp.sub k d h.1,Repf.sub k ds h.2⟩
 |[],_::_,h=>h.elim
 |_::_,[],h=>h.elim
theorem Repp.sub(k:∀ a,B a->A a):∀{v:Al×V}(d:Al×D),Repp K CL H A v d->Repp K CL H B v d
 |_,(_,d),h=>⟨h.1,Rep.sub k d h.2⟩
end
mutual
theorem Rep.wide(hp:∀ a,B a->A a\/H a=Af):∀{v:V}(d:D),Rep K CL H A v d->Rep K CL H B v d
 |_,.non,h=>h
 |_,.bl _,h=>h
 |_,.int _,h=>h
 |_,.str _,h=>h
 |_,.dic _,h=>h.elim
 |_,.tup ds,h=>by
  obtain⟨a,xs,e,na,s,r⟩:=h;refine⟨a,xs,e,?_,s,Reps.wide hp ds r⟩;rcases s with s|s
  ·refine na.imp (fun na z=>(hp _ z).elim na fun e=>?_) id
   rcases s with s|⟨o,s⟩<;>rw[e]at s<;>cases s
  ·exact .inr s
 |_,.lst ds,h=>by
  obtain⟨a,xs,e,na,s,r⟩:=h;refine⟨a,xs,e,?_,s,Reps.wide hp ds r⟩;rcases s with s|s
  ·refine na.imp (fun na z=>(hp _ z).elim na fun e=>?_) id
   rcases s with s|⟨o,s⟩<;>rw[e]at s<;>cases s
  ·exact .inr s
 |_,.obj c fs,h=>by
  obtain⟨a,C,dx,vs,e,na,c,s,r⟩:=h;exact⟨a,C,dx,vs,e,(fun z=>(hp _ z).elim na fun e=>by rw[e]at s;cases s),c,s,Repf.wide hp fs r⟩
 |_,.exc c fs,h=>by
  obtain⟨a,C,φ,e,na,c,s,p,q⟩:=h;refine⟨a,C,φ,e,(fun z=>(hp _ z).elim na fun e=>by rw[e]at s;cases s),c,s,p,q.imp id ?_⟩
  rintro⟨dx,vs,nx,s2,r,z⟩;exact⟨dx,vs,(fun z=>(hp _ z).elim nx fun e=>by rw[e]at s2;cases s2),s2,Repf.wide hp fs r,z⟩
theorem Reps.wide(hp:∀ a,B a->A a\/H a=Af):∀{vs:Ac V}(ds:Ac D),Reps K CL H A vs ds->Reps K CL H B vs ds
 |[],[],h=>h
 |_::_,d::ds,h=>⟨Rep.wide hp d h.1,Reps.wide hp ds h.2⟩
 |[],_::_,h=>h.elim
 |_::_,[],h=>h.elim
theorem Repf.wide(hp:∀ a,B a->A a\/H a=Af):∀{vs:Ac (Al×V)}(ds:Ac (Al×D)),Repf K CL H A vs ds->Repf K CL H B vs ds
 |[],[],h=>h
 |_::_,d::ds,h=>⟨Repp.wide hp d h.1,Repf.wide hp ds h.2⟩
 |[],_::_,h=>h.elim
 |_::_,[],h=>h.elim
theorem Repp.wide(hp:∀ a,B a->A a\/H a=Af):∀{v:Al×V}(d:Al×D),Repp K CL H A v d->Repp K CL H B v d
 |_,(_,d),h=>⟨h.1,Rep.wide hp d h.2⟩
end
theorem Rep.same(s:AN H H')(h:Rep K CL H A v d):Rep K CL H' A v d:=Rep.kp (Kp.of s) d h
theorem Reps.same{v:Ac V}{d:Ac D}(s:AN H H')(h:Reps K CL H A v d):Reps K CL H' A v d:=Reps.kp (Kp.of s) d h
theorem C7.same{v:V}{d:D}(s:AN H H')(h:C7 K CL H A v d):C7 K CL H' A v d:=by
 rcases h with h|⟨a,xs,ds,e,e2,q,r⟩
 ·exact .inl (h.same s)
 ·exact .inr ⟨a,xs,ds,e,e2,s _ _ q,r.same s⟩
theorem Reps.length:∀{vs:Ac V}{ds:Ac D},Reps K CL H A vs ds->vs.length=ds.length
 |[],[],_=>rfl
 |_::_,_::_,h=>congrArg (· + 1) (Reps.length h.2)
 |[],_::_,h=>h.elim
 |_::_,[],h=>h.elim
theorem Reps.append:∀{vs ws:Ac V}{ds es:Ac D},Reps K CL H A vs ds->Reps K CL H A ws es->Reps K CL H A (vs++ws) (ds++es)
 |[],_,[],_,_,h=>h
 |_::_,_,_::_,_,h,g=>⟨h.1,Reps.append h.2 g⟩
 |[],_,_::_,_,h,_=>h.elim
 |_::_,_,[],_,h,_=>h.elim
theorem Reps.get:∀{vs:Ac V}{ds:Ac D}{i:Ag}{d:D},Reps K CL H A vs ds->ds[i]?=Ab d->∃ v,vs[i]?=Ab v/\Rep K CL H A v d
 |[],[],_,_,_,e=>by simp at e
 |v::_,_::_,0,_,h,e=>by simp at e;subst e;exact⟨v,rfl,h.1⟩
 |_::_,_::_,i+1,_,h,e=>by
  obtain⟨v,q,r⟩:=Reps.get (i:=i) h.2 (by simpa using e)
  exact⟨v,by simpa using q,r⟩
 |[],_::_,_,_,h,_=>h.elim
 |_::_,[],_,_,h,_=>h.elim
theorem Reps.take:∀{vs:Ac V}{ds:Ac D}(n:Ag),Reps K CL H A vs ds->Reps K CL H A (vs.take n) (ds.take n)
 |_,_,0,_=>trivial
 |[],[],_+1,_=>trivial
 |_::_,_::_,n+1,h=>⟨h.1,Reps.take n h.2⟩
 |[],_::_,_+1,h=>h.elim
 |_::_,[],_+1,h=>h.elim
theorem Reps.drop:∀{vs:Ac V}{ds:Ac D}(n:Ag),Reps K CL H A vs ds->Reps K CL H A (vs.drop n) (ds.drop n)
 |_,_,0,h=>h
 |[],[],_+1,_=>trivial
 |_::_,_::_,n+1,h=>Reps.drop n h.2
 |[],_::_,_+1,h=>h.elim
 |_::_,[],_+1,h=>h.elim
theorem Reps.set{x:V}{e:D}(r:Rep K CL H A x e):∀{vs:Ac V}{ds:Ac D}(n:Ag),Reps K CL H A vs ds->Reps K CL H A (vs.set n x) (ds.set n e)
 |[],[],_,_=>trivial
 |_::_,_::_,0,h=>⟨r,h.2⟩
 |_::_,_::_,n+1,h=>⟨h.1,Reps.set r n h.2⟩
 |[],_::_,_,h=>h.elim
 |_::_,[],_,h=>h.elim
end
structure Good (K:Fg) (CL:ClA) (A:Ak->Prop) (ρ:Rho) (σ:L2.St) (H:Hp):Prop where
 sh:∀(i:Ag)(d:D),ρ[i]?=Ab (Ab (d,Ae))->∃ v,σ[i]?=Ab (Ab v)/\Rep K CL H A v d
 ow:∀(i:Ag)(d:D),ρ[i]?=Ab (Ab (d,Aa))->∃ a xs ds,σ[i]?=Ab (Ab (.ref a))/\d=.lst ds/\A a/\H a=Ab (.lst xs)/\Reps K CL H A xs ds
 len:ρ.length=σ.length
theorem Good.same{K:Fg}{CL:ClA}{A:Ak->Prop}{ρ:Rho}{σ:L2.St}{H H':Hp}(g:Good K CL A ρ σ H)(s:AN H H'):Good K CL A ρ σ H':=
 ⟨fun i d e=>let ⟨v,q,r⟩:=g.sh i d e;⟨v,q,r.same s⟩,fun i d e=>let ⟨a,xs,ds,q,z,na,h,r⟩:=g.ow i d e;⟨a,xs,ds,q,z,na,s _ _ h,r.same s⟩,g.len⟩
abbrev XW:=Ex->Hp->Prop
variable{W:XW}
def Bt(Rp:Hp->V->D->Prop)(W:XW)(H:Hp)(r:R D)(Q:VK):Prop:=match r with
  |.ok d=>∀ v H',AN H H'->Rp H' v d->Q v H'
  |.exn x=>∀ H',AN H H'->W x H'
  |.bad=>BF
def Hs(Rp:Hp->Ac V->Ac D->Prop)(W:XW)(H:Hp)(r:R (Ac D))(Q:Ac V->Hp->Prop):Prop:=match r with
  |.ok d=>∀ v H',AN H H'->Rp H' v d->Q v H'
  |.exn x=>∀ H',AN H H'->W x H'
  |.bad=>BF
def Dx(W:XW)(H:Hp)(r:R Ap)(Q:Ap->Hp->Prop):Prop:=match r with
  |.ok b=>∀ H',AN H H'->Q b H'
  |.exn x=>∀ H',AN H H'->W x H'
  |.bad=>BF
theorem Bt.same(s:AN H H')(h:Bt Rp W H r Q):Bt Rp W H' r Q:=by
 cases r with
 |ok d=>exact fun v H2 s2 q=>h v H2 (s.trans s2) q
 |exn x=>exact fun H2 s2=>h H2 (s.trans s2)
 |bad=>exact h
theorem Dx.same{r:R Ap}{Q:Ap->Hp->Prop}(s:AN H H')(h:Dx W H r Q):Dx W H' r Q:=by
 cases r with
 |ok d=>exact fun H2 s2=>h H2 (s.trans s2)
 |exn x=>exact fun H2 s2=>h H2 (s.trans s2)
 |bad=>exact h
theorem Bt.bind{f:D->R D}{Q':VK}(h:Bt Rq W H (r.bind f) Q)(k:∀ d v H',r=.ok d->AN H H'->Rp H' v d->Bt Rq W H' (f d) Q->Q' v H'):Bt Rp W H r Q':=by
 cases r with
 |ok d=>exact fun v H2 s2 q=>k d v H2 rfl s2 q (Bt.same s2 h)
 |exn x=>exact h
 |bad=>exact h
section
variable(X:Cx)(CL:ClA)(W:XW)
def SE(e:Ar)(f:Rho->R D):Prop:=∀ A,PE X e (fun σ H Q=>AOk H A/\∃ ρ,Good X.K CL A ρ σ H/\Bt (fun H=>Rep X.K CL H A) W H (f ρ) Q)
def ST(e:Ar)(f:Rho->R D):Prop:=∀ A,PE X e (fun σ H Q=>AOk H A/\∃ ρ,Good X.K CL A ρ σ H/\Bt (fun H=>C7 X.K CL H A) W H (f ρ) Q)
def SB(e:Ar)(f:Rho->R Ap):Prop:=∀ A,PT X e (fun σ H Q=>AOk H A/\∃ ρ,Good X.K CL A ρ σ H/\Dx W H (f ρ) Q)
def SA(es:Ac Ar)(f:Rho->R (Ac D)):Prop:=∀ A,PA X es (fun σ H Q=>AOk H A/\∃ ρ,Good X.K CL A ρ σ H/\Hs (fun H=>Reps X.K CL H A) W H (f ρ) Q)
end
theorem PE.weak{t t':TE}(h:PE X e t)(k:∀ σ H Q,t' σ H Q->t σ H Q):PE X e t':=fun pI s σ H Q I q=>h pI s σ H Q I (k _ _ _ q)
theorem PT.weak{t t':TT}(h:PT X e t)(k:∀ σ H Q,t' σ H Q->t σ H Q):PT X e t':=fun pI s σ H Q I q=>h pI s σ H Q I (k _ _ _ q)
theorem PA.weak{e:Ac Ar}{t t':TA}(h:PA X e t)(k:∀ σ H Q,t' σ H Q->t σ H Q):PA X e t':=fun pos pI s σ H Q I q=>h pos pI s σ H Q I (k _ _ _ q)
noncomputable def OpD(X:Cx)(CL:ClA)(W:XW)(f:Ai->Ai->Hg Ai)(g:D->D->R D):Prop:=
 ∀ A,OpR X f (fun x y H Q=>AOk H A/\∃ dx dy,C7 X.K CL H A x dx/\C7 X.K CL H A y dy/\Bt (fun H=>Rep X.K CL H A) W H (g dx dy) Q)
section
variable{X:Cx}{CL:ClA}{W:XW}{a b c:Ar}{fa fb fc:Rho->R D}{pos:A8}
theorem SE.st(h:SE X CL W a fa):ST X CL W a fa:=fun A=>PE.weak (h A) fun σ H Q ⟨hA,ρ,g,p⟩=>⟨hA,ρ,g,by
 cases e:fa ρ with
 |ok d=>rw[e]at p;exact fun v H' s r=>p v H' s (.inl r)
 |exn x=>rw[e]at p;exact p
 | bad=>rw[e]at p;exact p⟩
theorem SE.congr{f g:Rho->R D}(h:SE X CL W a f)(e:∀ ρ,g ρ=f ρ):SE X CL W a g:=fun A=>PE.weak (h A) fun σ H Q ⟨hA,ρ,q,p⟩=>⟨hA,ρ,q,by rw[<-e];exact p⟩
theorem ND(h:PE X a (tC v))(r:∀ H A,AOk H A->Rep X.K CL H A v d):SE X CL W a (fun _=>.ok d):=fun A=>PE.weak h fun σ H Q ⟨hA,ρ,g,p⟩=>p v H (AN.refl H) (r H A hA)
theorem pL{i j}:SE X CL W (.Constant (.int i) j pos) (fun _=>.ok (.int i)):=ND rB fun _ _ _=>rfl
theorem uA{b j}:SE X CL W (.Constant (.bool b) j pos) (fun _=>.ok (.bl b)):=ND wG fun _ _ _=>rfl
theorem pH{j}:SE X CL W (.Constant .none j pos) (fun _=>.ok .non):=ND qY fun _ _ _=>rfl
theorem pF{x j}:SE X CL W (.Constant (.str x) j pos) (fun _=>.ok (.str x)):=ND qV fun _ _ _=>rfl
theorem fW(h:Fo ρ i=.ok d):ρ[i]?=Ab (Ab (d,Ae)):=by
 unfold Fo at h;split at h
 ·rename_i e;cases h;exact e
 ·cases h
theorem TQ(h:Gf ρ i=.ok d):∃ o,ρ[i]?=Ab (Ab (d,o)):=by
 unfold Gf at h;split at h
 ·rename_i e;cases h;exact⟨_,e⟩
 ·cases h
theorem cY{x:Ex}(h:Fo ρ i=.exn x):BF:=by
 unfold Fo at h;split at h<;>cases h
theorem TD{x:Ex}(h:Gf ρ i=.exn x):BF:=by
 unfold Gf at h;split at h<;>cases h
theorem pD(h:PE X a (G8 i)):SE X CL W a (fun ρ=>Fo ρ i):=fun A=>PE.weak h fun σ H Q ⟨hA,ρ,g,p⟩=>by
 dsimp only at p;cases e:Fo ρ i with
 |ok d=>
  rw[e]at p;obtain⟨v,q,r⟩:=g.sh i d (fW e);exact⟨v,q,p v H (AN.refl H) r⟩
 |exn x=>exact(cY e).elim
 |bad=>rw[e]at p;exact p.elim
theorem oM(h:PE X a (G8 i)):ST X CL W a (fun ρ=>Gf ρ i):=fun A=>PE.weak h fun σ H Q ⟨hA,ρ,g,p⟩=>by
 dsimp only at p;cases e:Gf ρ i with
 |ok d=>
  rw[e]at p;obtain⟨o,e⟩:=TQ e;cases o with
  |false=>
   obtain⟨v,q,r⟩:=g.sh i d e;exact⟨v,q,p v H (AN.refl H) (.inl r)⟩
  |true=>
   obtain⟨x,xs,ds,q,rfl,ha,hh,r⟩:=g.ow i d e;exact⟨_,q,p _ H (AN.refl H) (.inr ⟨x,xs,ds,rfl,rfl,hh,r⟩)⟩
 |exn x=>exact(TD e).elim
 |bad=>rw[e]at p;exact p.elim
theorem op2(h:AOk H A/\∃ ρ,Good X.K CL A ρ σ H/\Bt Rq W H ((fa ρ).bind fun x=>(fb ρ).bind fun y=>g x y) Q):AOk H A/\∃ ρ,Good X.K CL A ρ σ H/\Bt (fun H=>C7 X.K CL H A) W H (fa ρ) (fun x H1=>AOk H1 A/\∃ ρ,Good X.K CL A ρ σ H1/\Bt (fun H=>C7 X.K CL H A) W H1 (fb ρ) (fun y H2=>AOk H2 A/\∃ dx dy,C7 X.K CL H2 A x dx/\C7 X.K CL H2 A y dy/\Bt Rq W H2 (g dx dy) Q)):=by
 obtain⟨hA,ρ,gd,p⟩:=h;refine⟨hA,ρ,gd,Bt.bind p fun dx x H1 _ s1 r1 p1=>⟨hA.same s1,ρ,gd.same s1,Bt.bind p1 fun dy y H2 _ s2 r2 p2=>⟨(hA.same s1).same s2,dx,dy,r1.same s2,r2,p2⟩⟩⟩
theorem Vv{op:HN}(ho:OpD X CL W (Cv op) g)(ha:ST X CL W a fa)(hb:ST X CL W b fb):SE X CL W (.BinOp a op b pos) (fun ρ=>(fa ρ).bind fun x=>(fb ρ).bind fun y=>g x y):=
 fun A=>PE.weak (VS (ho A) (ha A) (hb A)) fun σ H Q h=>op2 h
theorem nJ(ho:OpD X CL W (C4 op) g)(ha:ST X CL W a fa)(hb:ST X CL W b fb)(hm:Hi op b=Ae):SE X CL W (.Compare a [op] [b] pos) (fun ρ=>(fa ρ).bind fun x=>(fb ρ).bind fun y=>g x y):=
 fun A=>PE.weak (jH (ho A) (ha A) (hb A) hm) fun σ H Q h=>op2 h
theorem C7.int_of{i:Ad}(h:C7 K CL H A v (.int i)):v=.int i:=by
 rcases h with h|⟨_,_,_,_,e,_⟩
 ·exact h
 ·cases e
theorem C7.str_of{i:Al}(h:C7 K CL H A v (.str i)):v=.str i:=by
 rcases h with h|⟨_,_,_,_,e,_⟩
 ·exact h
 ·cases e
theorem C7.bl_of{i:Ap}(h:C7 K CL H A v (.bl i)):v=.bl i:=by
 rcases h with h|⟨_,_,_,_,e,_⟩
 ·exact h
 ·cases e
theorem C7.non_of(h:C7 K CL H A v .non):v=.non:=by
 rcases h with h|⟨_,_,_,_,e,_⟩
 ·exact h
 ·cases e
theorem C7.lst_of{ds:Ac D}(h:C7 K CL H A v (.lst ds)):∃ a xs,v=.ref a/\SqL K H a xs/\Reps K CL H A xs ds:=by
 rcases h with ⟨a,xs,e,_,s,r⟩|⟨a,xs,es,rfl,e,s,r⟩
 ·exact⟨a,xs,e,s,r⟩
 ·cases e;exact⟨a,xs,rfl,SqL.of s,r⟩
theorem C7.tup_of{ds:Ac D}(h:C7 K CL H A v (.tup ds)):∃ a xs,v=.ref a/\(¬ A a\/KT K a xs)/\SqT K H a xs/\Reps K CL H A xs ds:=by
 rcases h with ⟨a,xs,e,n,s,r⟩|⟨_,_,_,_,e,_⟩
 ·exact⟨a,xs,e,n,s,r⟩
 ·cases e
theorem iB{i j:Ad}(h:Ee i j=Aa):NQ i j:=by
 unfold Ee at h;simp only[Ds,Am,AI]at h;unfold NQ;omega
theorem Ur{a:Ad}(h:a.natAbs<2 ^ 2000):Xq a<=2 ^ 20:=by
 unfold Xq;split
 ·omega
 ·rename_i hz;have h0:a.natAbs≠0:=by intro z;exact hz (by rw[Int.natAbs_eq_zero.mp z];rfl)
  have:=(Nat.log2_lt h0).mpr h;omega
theorem iA{i j:Ad}(h:(Ee i j||Fl i j)=Aa):Lz i j:=by
 rcases Bool.or_eq_true_iff.mp h with h|h
 ·exact(iB h).ok
 ·unfold Fl at h;rw[Am,AI,AI]at h;exact .of_bits (Ur h.1) (Ur h.2)
theorem gY:OpR X (Cv .Mult) (rI Lz fun i j=>.int (i*j)):=opI fun _ _ _ _ _ _ _ hc q=>mul_int q hc
theorem IY(h:DL n=Aa):n<=sizeLine:=by
 unfold DL at h;rw[CS];have:=E8 h;omega
theorem T9{p:Ak}{ds:Ac D}(hA:AOk H A)(hp:H p=Af)(r:Reps K CL H A xs ds):Rep K CL (upd H p (.lst xs)) A (.ref p) (.lst ds):=
 ⟨p,xs,rfl,.inl (hA.new hp),SqL.of HQ,r.same fun b o e=>by rw[Dm (Gc e hp)];exact e⟩
theorem KQ{p:Ak}{ds:Ac D}(hA:AOk H A)(hp:H p=Af)(r:Reps K CL H A xs ds):Rep K CL (upd H p (.tup xs)) A (.ref p) (.tup ds):=
 ⟨p,xs,rfl,.inl (hA.new hp),SqT.of HQ,r.same fun b o e=>by rw[Dm (Gc e hp)];exact e⟩
theorem F3{p:Ak}(h:H p=Af)(o:HO):AN H (upd H p o):=fun b u q=>by rw[Dm (Gc q h)];exact q
def vS(K:Fg):R2:=fun x y H Q=>∃ l b xs zs,x=.ref l/\y=.ref b/\SqL K H l xs/\SqL K H b zs/\xs.length+zs.length<=sizeLine/\∀ p,H p=Af->Q (.ref p) (upd H p (.lst (xs++zs)))
end
section
variable{X:Cx}{CL:ClA}{W:XW}
theorem T7:OpR X (Cv .Add) (vS X.K):=by
 intro pI s σ H x y v u Q I rx ry h;obtain⟨l,b,xs,zs,rfl,rfl,hH,hB,hz,q⟩:=h;cases rx;cases ry;obtain⟨its,r,⟨o,n,e,c,dd,dt⟩,z⟩:=I.list hH;obtain⟨its2,r2,⟨o2,n2,e2,c2,dd2,dt2⟩,z2⟩:=I.list hB;have hl:=r.length;have hl2:=r2.length;obtain⟨cls,dd0,data,sl⟩:=o;obtain⟨cls2,dd02,data2,sl2⟩:=o2;simp only at c dd dt c2 dd2 dt2;subst c dd dt c2 dd2 dt2;have ea:its.toArray++its2.toArray=(its++its2).toArray:=by simp
 refine Jy ⟨_,e,rfl⟩ ⟨_,e2,rfl⟩ noFill_list_add seq_list_add PySem.F.slot_list_add PySem.F.entry_list_add (PySem.F.args_list_add_2 _ _) (list_addW l b its.toArray its2.toArray n n2 Af Af sl sl2 (by simp;omega)) ⟨e,e2,?_⟩
 rw[ea];exact⟨.ref _,_,I.lnew (t':=s.toks) (r.append r2) (by rw[Cz];omega),rfl,q _ I.fresh⟩
theorem T6:OpD X CL W (Cv .Add) (Dp .Add):=by
 intro A pI s σ H x y v u Q I rx ry ⟨hA,dx,dy,hx,hy,p⟩;cases dx with
 |int i=>
  cases dy with
  |int j=>
   have ex:=hx.int_of;have ey:=hy.int_of
   subst ex ey;exact pW pI s σ H _ _ v u Q I rx ry ⟨i,j,rfl,rfl,p _ H (AN.refl H) rfl⟩
  |_=>exact p.elim
 |str i=>
  cases dy with
  |str j=>
   have ex:=hx.str_of;have ey:=hy.str_of
   subst ex ey;simp only[tF]at p;split at p
   ·rename_i h;exact ZG pI s σ H _ _ v u Q I rx ry ⟨i,j,rfl,rfl,IY h,p _ H (AN.refl H) rfl⟩
   ·exact p.elim
  |_=>exact p.elim
 |lst ds=>
  cases dy with
  |lst es=>
   obtain⟨a,xs,rfl,s1,r1⟩:=hx.lst_of;obtain⟨b,ys,rfl,s2,r2⟩:=hy.lst_of;simp only[Qr]at p;split at p
   ·rename_i h;refine T7 pI s σ H _ _ v u Q I rx ry ⟨a,b,xs,ys,rfl,rfl,s1,s2,by rw[r1.length,r2.length];exact IY h,fun q hq=>?_⟩
    exact p _ _ (F3 hq _) (T9 hA hq (r1.append r2))
   ·exact p.elim
  |_=>exact p.elim
 |tup ds=>
  cases dy with
  |tup es=>
   obtain⟨a,xs,rfl,na1,s1,r1⟩:=hx.tup_of;obtain⟨b,ys,rfl,_,s2,r2⟩:=hy.tup_of;simp only[tE]at p;split at p
   ·rename_i h;simp only[Am]at h;refine hJ pI s σ H _ _ v u Q I rx ry ⟨a,b,xs,ys,rfl,rfl,s1,s2,?_,by rw[r1.length,r2.length];exact IY h.2,fun hy0=>?_,fun _ q hq=>?_⟩
    ·rintro rfl;cases ds with
     |nil=>cases h.1
     |cons _ _=>exact r1.elim
    ·subst hy0;cases es with
     |nil=>rw[DD]at p;exact p _ H (AN.refl H) ⟨a,xs,rfl,na1,s1,r1⟩
     |cons _ _=>exact r2.elim
    ·exact p _ _ (F3 hq _) (KQ hA hq (r1.append r2))
   ·exact p.elim
  |_=>exact p.elim
 |_=>exact p.elim
theorem Na{op:HN}{C:Ad->Ad->Prop}{g:Ad->Ad->Ad}(ho:OpR X (Cv op) (rI C fun i j=>.int (g i j)))(hg:∀ dx dy,(∃ i j,dx=.int i/\dy=.int j/\((C i j/\Dp op dx dy=.ok (.int (g i j)))\/Dp op dx dy=.bad))\/Dp op dx dy=.bad):OpD X CL W (Cv op) (Dp op):=by
 intro A pI s σ H x y v u Q I rx ry ⟨hA,dx,dy,hx,hy,p⟩;rcases hg dx dy with ⟨i,j,rfl,rfl,⟨c,e⟩|e⟩|e
 ·have ex:=hx.int_of;have ey:=hy.int_of
  subst ex ey;rw[e]at p;exact ho pI s σ H _ _ v u Q I rx ry ⟨i,j,rfl,rfl,c,p _ H (AN.refl H) rfl⟩
 ·rw[e]at p;exact p.elim
 ·rw[e]at p;exact p.elim
theorem gQ:OpD X CL W (Cv .Sub) (Dp .Sub):=by
 intro A pI s σ H x y v u Q I rx ry ⟨hA,dx,dy,hx,hy,p⟩;cases dx with
 |int i=>
  cases dy with
  |int j=>
   have ex:=hx.int_of;have ey:=hy.int_of
   subst ex ey;exact rF pI s σ H _ _ v u Q I rx ry ⟨i,j,rfl,rfl,p _ H (AN.refl H) rfl⟩
  |_=>exact p.elim
 |_=>exact p.elim
theorem gU:OpD X CL W (Cv .Mult) (Dp .Mult):=Na gY fun dx dy=>by
 cases dx with
 |int i=>
  cases dy with
  |int j=>
   refine .inl ⟨i,j,rfl,rfl,?_⟩;rw[pZ];split
   ·rename_i h;exact .inl ⟨iA h,rfl⟩
   ·exact .inr rfl
  |_=>exact .inr rfl
 |_=>exact .inr rfl
theorem cH:OpD X CL W (Cv .FloorDiv) (Dp .FloorDiv):=Na gZ fun dx dy=>by
 cases dx with
 |int i=>
  cases dy with
  |int j=>
   refine .inl ⟨i,j,rfl,rfl,?_⟩;rw[lF];split
   ·rename_i h;exact .inl ⟨h,rfl⟩
   ·exact .inr rfl
  |_=>exact .inr rfl
 |_=>exact .inr rfl
theorem gW:OpD X CL W (Cv .Mod) (Dp .Mod):=Na rH fun dx dy=>by
 cases dx with
 |int i=>
  cases dy with
  |int j=>
   refine .inl ⟨i,j,rfl,rfl,?_⟩;rw[qA];split
   ·rename_i h;exact .inl ⟨h,rfl⟩
   ·exact .inr rfl
  |_=>exact .inr rfl
 |_=>exact .inr rfl
theorem gR:OpD X CL W (Cv .Pow) (Dp .Pow):=Na rG fun dx dy=>by
 cases dx with
 |int i=>
  cases dy with
  |int j=>
   refine .inl ⟨i,j,rfl,rfl,?_⟩;rw[qQ];split
   ·rename_i h;exact .inl ⟨⟨h.1.1,h.1.2,by omega⟩,rfl⟩
   ·exact .inr rfl
  |_=>exact .inr rfl
 |_=>exact .inr rfl
theorem T5(op:HN):OpD X CL W (Cv op) (Dp op):=by
 cases op with
 |Add=>exact T6
 |Sub=>exact gQ
 |Mult=>exact gU
 |FloorDiv=>exact cH
 |Mod=>exact gW
 |Pow=>exact gR
 |_=>
  intro A pI s σ H x y v u Q I rx ry ⟨hA,dx,dy,hx,hy,p⟩;cases dx<;>cases dy<;>exact p.elim
noncomputable abbrev A0:Ak->Prop:=fun _=>BF
theorem C7.plain(h:C7 K CL H A v d):Rep K CL H A0 v d:=by
 rcases h with h|⟨a,xs,ds,rfl,rfl,e,r⟩
 ·exact Rep.sub (fun _ z=>z.elim) d h
 ·exact⟨a,xs,rfl,.inl fun z=>z.elim,SqL.of e,Reps.sub (fun _ z=>z.elim) ds r⟩
mutual
theorem bK:∀(n:Ag)(d:D),flD n d=Aa->eqD d d=Aa
 |_,.non,_=>rfl
 |_,.bl b,_=>by simp
 |_,.int i,_=>by simp
 |_,.str x,_=>by simp
 |n+1,.tup ds,h=>by
  show eqDs ds ds=Aa;exact eqDs_refl n ds h
 |n+1,.lst ds,h=>by
  show eqDs ds ds=Aa;exact eqDs_refl n ds h
 |0,.tup ds,h=>by cases h
 |0,.lst ds,h=>by cases h
 |n,.obj _ _,h=>by cases n<;>cases h
 |n,.exc _ _,h=>by cases n<;>cases h
 |n,.dic _,h=>by cases n<;>cases h
theorem eqDs_refl:∀(n:Ag)(ds:Ac D),ds.all (flD n)=Aa->eqDs ds ds=Aa
 |_,[],_=>rfl
 |n,d::ds,h=>by
  simp only[EU,Am]at h;simp only[OQ,Am];exact⟨bK n d h.1,eqDs_refl n ds h.2⟩
end
theorem So{ys:Ac V}(I:Inv X pI σ H s)(h:SqL X.K H a xs)(h':SqT X.K H a ys):BF:=by
 obtain⟨its,r,⟨o,n,e,c,_,_⟩,_⟩:=I.list h;obtain⟨its',r',⟨o',e',c',_⟩,_⟩:=I.tuple h';rw[e]at e';cases e';rw[c]at c'
 injection c' with z
 exact absurd z (by decide)
mutual
theorem M8{pI:Pn}{σ:L2.St}{H:Hp}{s:Aq}(I:Inv X pI σ H s):∀(n:Ag)(d e:D){v:V},flD n d=Aa->flD n e=Aa->Rep X.K CL H A0 v d->Rep X.K CL H A0 v e->d=e
 |n,.tup ds,e,v,hd,he,r,q=>by
  obtain⟨a,xs,rfl,_,s1,r1⟩:=r;cases e with
  |tup es=>
   obtain⟨b,ys,e,_,s2,r2⟩:=q;cases e;have z:=I.tuple_inj s1 s2;subst z;cases n with
   |zero=>cases hd
   |succ n=>rw[reps_inj I n ds es hd he r1 r2]
  |lst es=>
   obtain⟨b,ys,e,_,s2,r2⟩:=q;cases e;exact(So I s2 s1).elim
  |obj=>cases n<;>cases he
  |exc=>cases n<;>cases he
  |dic=>cases n<;>cases he
  |_=>cases q
 |n,.lst ds,e,v,hd,he,r,q=>by
  obtain⟨a,xs,rfl,_,s1,r1⟩:=r;cases e with
  |lst es=>
   obtain⟨b,ys,e,_,s2,r2⟩:=q;cases e;have z:=I.list_inj s1 s2;subst z;cases n with
   |zero=>cases hd
   |succ n=>rw[reps_inj I n ds es hd he r1 r2]
  |tup es=>
   obtain⟨b,ys,e,_,s2,r2⟩:=q;cases e;exact(So I s1 s2).elim
  |obj=>cases n<;>cases he
  |exc=>cases n<;>cases he
  |dic=>cases n<;>cases he
  |_=>cases q
 |n,.obj _ _,e,v,hd,he,r,q=>by cases n<;>cases hd
 |n,.exc _ _,e,v,hd,he,r,q=>by cases n<;>cases hd
 |n,.dic _,e,v,hd,he,r,q=>by cases n<;>cases hd
 |n,.non,e,v,hd,he,r,q=>by
  cases r;cases e with
  |tup=>obtain⟨_,_,z,_⟩:=q;cases z
  |lst=>obtain⟨_,_,z,_⟩:=q;cases z
  |obj=>cases n<;>cases he
  |exc=>cases n<;>cases he
  |dic=>cases n<;>cases he
  |_=>cases q<;>rfl
 |n,.bl b,e,v,hd,he,r,q=>by
  cases r;cases e with
  |tup=>obtain⟨_,_,z,_⟩:=q;cases z
  |lst=>obtain⟨_,_,z,_⟩:=q;cases z
  |obj=>cases n<;>cases he
  |exc=>cases n<;>cases he
  |dic=>cases n<;>cases he
  |_=>cases q<;>rfl
 |n,.int b,e,v,hd,he,r,q=>by
  cases r;cases e with
  |tup=>obtain⟨_,_,z,_⟩:=q;cases z
  |lst=>obtain⟨_,_,z,_⟩:=q;cases z
  |obj=>cases n<;>cases he
  |exc=>cases n<;>cases he
  |dic=>cases n<;>cases he
  |_=>cases q<;>rfl
 |n,.str b,e,v,hd,he,r,q=>by
  cases r;cases e with
  |tup=>obtain⟨_,_,z,_⟩:=q;cases z
  |lst=>obtain⟨_,_,z,_⟩:=q;cases z
  |obj=>cases n<;>cases he
  |exc=>cases n<;>cases he
  |dic=>cases n<;>cases he
  |_=>cases q<;>rfl
theorem reps_inj{pI:Pn}{σ:L2.St}{H:Hp}{s:Aq}(I:Inv X pI σ H s):∀(n:Ag)(ds es:Ac D){xs:Ac V},ds.all (flD n)=Aa->es.all (flD n)=Aa->Reps X.K CL H A0 xs ds->Reps X.K CL H A0 xs es->ds=es
 |_,[],[],_,_,_,_,_=>rfl
 |n,d::ds,e::es,x::xs,hd,he,r,q=>by
  simp only[EU,Am]at hd he;rw[M8 I n d e hd.1 he.1 r.1 q.1,reps_inj I n ds es hd.2 he.2 r.2 q.2]
 |_,[],_::_,[],_,_,_,q=>q.elim
 |_,[],_::_,_::_,_,_,r,_=>r.elim
 |_,_::_,[],[],_,_,r,_=>r.elim
 |_,_::_,[],_::_,_,_,_,q=>q.elim
 |_,_::_,_::_,[],_,_,r,_=>r.elim
end
theorem L5:∀{ds es:Ac D},ds.length≠es.length->eqDs ds es=Ae
 |[],[],h=>absurd rfl h
 |[],_::_,_=>rfl
 |_::_,[],_=>rfl
 |d::ds,e::es,h=>by
  simp only[OQ,L5 (ds:=ds) (es:=es) (by simpa using h),FT]
theorem RO(n:Ag)(f:Ag->Ap):(Bl (n+1)).all f=(f 0&&(Bl n).all fun j=>f (j+1)):=by
 rw[W5,EU,WH];rfl
theorem L6:∀{ds es:Ac D},ds.length=es.length->eqDs ds es=(Bl ds.length).all fun j=>eqD (ds.getD j .non) (es.getD j .non)
 |[],[],_=>rfl
 |d::ds,e::es,h=>by
  rw[OQ,L6 (ds:=ds) (es:=es) (by simpa using h),Cp,RO]
  rfl
 |[],_::_,h=>by cases h
 |_::_,[],h=>by cases h
theorem J5{ds:Ac D}{its:Ac Ai}(r:Reps K CL H A0 xs ds)(rv:Bq xs its)(h:j<its.length):∃ x,Rep K CL H A0 x (ds.getD j .non)/\BZ x its[j]:=by
 have e1:=rv.length;have e2:=r.length;have hd:ds[j]?=Ab (ds.getD j .non):=by
  rw[A2,AU (by omega)];rfl
 obtain⟨x,hx,q⟩:=r.get hd;obtain⟨u,hu,ru⟩:=rv.get hx;refine⟨x,q,?_⟩;rw[AU h]at hu;cases hu;exact ru
theorem J3{ds:Ac D}(h:ds.all (flD n)=Aa)(j:Ag):flD n (ds.getD j .non)=Aa:=by
 rw[A2];cases e:ds[j]? with
 |none=>cases n<;>rfl
 |some d=>exact List.all_eq_true.mp h d (DE e)
def C8(B:Bv)(s:Aq)(u t:Ai)(k:Ap):Prop:=Ko B s u t k/\GC B s u t k/\Js B s u t (!k)
section
variable{B:Bv}{s:Aq}
open SeqAt
theorem tU:C8 B s .none .none Aa:=⟨RcAt.none_none,EqAt.same _,RcNeAt.none_none⟩
theorem xA(a b:Ap):C8 B s (.bool a) (.bool b) (a==b):=⟨RcAt.bool_bool _ _,EqAt.bool_bool _ _,RcNeAt.bool_bool _ _⟩
theorem tX(b:Ap):C8 B s .none (.bool b) Ae:=⟨RcAt.none_bool _,EqAt.none_bool _,RcNeAt.none_bool _⟩
theorem wX(b:Ap):C8 B s (.bool b) .none Ae:=⟨RcAt.bool_none _,EqAt.bool_none _,RcNeAt.bool_none _⟩
theorem wT(a:Ad)(t:DG)(b:Ad)(u:DG):C8 B s (.int a t) (.int b u) (a==b):=⟨RcAt.int_int _ _ _ _,EqAt.int_int _ _ _ _,RcNeAt.int_int _ _ _ _⟩
theorem uH(a:Al)(t:DG)(b:Al)(u:DG):C8 B s (.str a t) (.str b u) (a==b):=⟨RcAt.str_str _ _ _ _,EqAt.str_str _ _ _ _,RcNeAt.str_str _ _ _ _⟩
theorem wP(a:Ad)(t:DG)(b:Al)(u:DG):C8 B s (.int a t) (.str b u) Ae:=⟨RcAt.int_str _ _ _ _,EqAt.int_str _ _ _ _,RcNeAt.int_str _ _ _ _⟩
theorem tO(a:Al)(t:DG)(b:Ad)(u:DG):C8 B s (.str a t) (.int b u) Ae:=⟨RcAt.str_int _ _ _ _,EqAt.str_int _ _ _ _,RcNeAt.str_int _ _ _ _⟩
theorem tW(b:Ad)(u:DG):C8 B s .none (.int b u) Ae:=⟨RcAt.none_int _ _,EqAt.none_int _ _,RcNeAt.none_int _ _⟩
theorem wQ(b:Ad)(u:DG):C8 B s (.int b u) .none Ae:=⟨RcAt.int_none _ _,EqAt.int_none _ _,RcNeAt.int_none _ _⟩
theorem tT(b:Al)(u:DG):C8 B s .none (.str b u) Ae:=⟨RcAt.none_str _ _,EqAt.none_str _ _,RcNeAt.none_str _ _⟩
theorem uI(b:Al)(u:DG):C8 B s (.str b u) .none Ae:=⟨RcAt.str_none _ _,EqAt.str_none _ _,RcNeAt.str_none _ _⟩
theorem wZ(a:Ap)(b:Ad)(u:DG):C8 B s (.bool a) (.int b u) (b2i a==b):=⟨RcAt.bool_int _ _ _,EqAt.bool_int _ _ _,RcNeAt.bool_int _ _ _⟩
theorem wU(a:Ap)(b:Ad)(u:DG):C8 B s (.int b u) (.bool a) (b==b2i a):=⟨RcAt.int_bool _ _ _,EqAt.int_bool _ _ _,RcNeAt.int_bool _ _ _⟩
theorem wW(a:Ap)(b:Al)(u:DG):C8 B s (.bool a) (.str b u) Ae:=⟨RcAt.bool_str _ _ _,EqAt.bool_str _ _ _,RcNeAt.bool_str _ _ _⟩
theorem tR(a:Ap)(b:Al)(u:DG):C8 B s (.str b u) (.bool a) Ae:=⟨RcAt.str_bool _ _ _,EqAt.str_bool _ _ _,RcNeAt.str_bool _ _ _⟩
variable{l:Ak}{items:AM Ai}
theorem wL(h:s.heap.IsList l items)(hu:B.units<Cf):C8 B s (.ref l) .none Ae:=⟨RcAt.list_none h hu,EqAt.list_none h hu,RcNeAt.list_none h hu⟩
theorem tV(h:s.heap.IsList l items)(hu:B.units<Cf):C8 B s .none (.ref l) Ae:=⟨RcAt.none_list h hu,EqAt.none_list h hu,RcNeAt.none_list h hu⟩
theorem wN(b:Ap)(h:s.heap.IsList l items)(hu:B.units<Cf):C8 B s (.ref l) (.bool b) Ae:=⟨RcAt.list_bool b h hu,EqAt.list_bool b h hu,RcNeAt.list_bool b h hu⟩
theorem wY(b:Ap)(h:s.heap.IsList l items)(hu:B.units<Cf):C8 B s (.bool b) (.ref l) Ae:=⟨RcAt.bool_list b h hu,EqAt.bool_list b h hu,RcNeAt.bool_list b h hu⟩
theorem wM(b:Ad)(u:DG)(h:s.heap.IsList l items)(hu:B.units<Cf):C8 B s (.ref l) (.int b u) Ae:=⟨RcAt.list_int b u h hu,EqAt.list_int b u h hu,RcNeAt.list_int b u h hu⟩
theorem wS(b:Ad)(u:DG)(h:s.heap.IsList l items)(hu:B.units<Cf):C8 B s (.int b u) (.ref l) Ae:=⟨RcAt.int_list b u h hu,EqAt.int_list b u h hu,RcNeAt.int_list b u h hu⟩
theorem wK(b:Al)(u:DG)(h:s.heap.IsList l items)(hu:B.units<Cf):C8 B s (.ref l) (.str b u) Ae:=⟨RcAt.list_str b u h hu,EqAt.list_str b u h hu,RcNeAt.list_str b u h hu⟩
theorem tN(b:Al)(u:DG)(h:s.heap.IsList l items)(hu:B.units<Cf):C8 B s (.str b u) (.ref l) Ae:=⟨RcAt.str_list b u h hu,EqAt.str_list b u h hu,RcNeAt.str_list b u h hu⟩
theorem uC(h:s.heap.IsTuple l items)(hu:B.units<Cf):C8 B s (.ref l) .none Ae:=⟨RcAt.tuple_none h hu,EqAt.tuple_none h hu,RcNeAt.tuple_none h hu⟩
theorem tS(h:s.heap.IsTuple l items)(hu:B.units<Cf):C8 B s .none (.ref l) Ae:=⟨RcAt.none_tuple h hu,EqAt.none_tuple h hu,RcNeAt.none_tuple h hu⟩
theorem uF(b:Ap)(h:s.heap.IsTuple l items)(hu:B.units<Cf):C8 B s (.ref l) (.bool b) Ae:=⟨RcAt.tuple_bool b h hu,EqAt.tuple_bool b h hu,RcNeAt.tuple_bool b h hu⟩
theorem wV(b:Ap)(h:s.heap.IsTuple l items)(hu:B.units<Cf):C8 B s (.bool b) (.ref l) Ae:=⟨RcAt.bool_tuple b h hu,EqAt.bool_tuple b h hu,RcNeAt.bool_tuple b h hu⟩
theorem uE(b:Ad)(u:DG)(h:s.heap.IsTuple l items)(hu:B.units<Cf):C8 B s (.ref l) (.int b u) Ae:=⟨RcAt.tuple_int b u h hu,EqAt.tuple_int b u h hu,RcNeAt.tuple_int b u h hu⟩
theorem wO(b:Ad)(u:DG)(h:s.heap.IsTuple l items)(hu:B.units<Cf):C8 B s (.int b u) (.ref l) Ae:=⟨RcAt.int_tuple b u h hu,EqAt.int_tuple b u h hu,RcNeAt.int_tuple b u h hu⟩
theorem uB(b:Al)(u:DG)(h:s.heap.IsTuple l items)(hu:B.units<Cf):C8 B s (.ref l) (.str b u) Ae:=⟨RcAt.tuple_str b u h hu,EqAt.tuple_str b u h hu,RcNeAt.tuple_str b u h hu⟩
theorem uG(b:Al)(u:DG)(h:s.heap.IsTuple l items)(hu:B.units<Cf):C8 B s (.str b u) (.ref l) Ae:=⟨RcAt.str_tuple b u h hu,EqAt.str_tuple b u h hu,RcNeAt.str_tuple b u h hu⟩
theorem tY(h:s.heap.IsList l items)(h2:s.heap.IsTuple b items2)(hu:B.units<Cf):C8 B s (.ref l) (.ref b) Ae:=⟨RcAt.list_tuple h h2 hu,EqAt.list_tuple h h2 hu,RcNeAt.list_tuple h h2 hu⟩
theorem uD(h:s.heap.IsTuple l items)(h2:s.heap.IsList b items2)(hu:B.units<Cf):C8 B s (.ref l) (.ref b) Ae:=⟨RcAt.tuple_list h h2 hu,EqAt.tuple_list h h2 hu,RcNeAt.tuple_list h h2 hu⟩
end
end
section
variable{X:Cx}{CL:ClA}{W:XW}
theorem IB(x:PlainL h a its):h.IsList a its:=let ⟨o,n,e,c,_,d⟩:=x;⟨o,e,c,n,d⟩
def YV(X:Cx)(CL:ClA)(H:Hp)(s:Aq)(d:D)(u:Ai):Prop:=match d with
  |.non=>u=.none
  |.bl b=>u=.bool b
  |.int i=>∃ t,u=.int i t
  |.str x=>∃ t,u=.str x t
  |.tup ds=>∃ a xs its,u=.ref a/\Reps X.K CL H A0 xs ds/\Bq xs its/\s.heap.IsTuple a its.toArray
  |.lst ds=>∃ a xs its,u=.ref a/\Reps X.K CL H A0 xs ds/\Bq xs its/\s.heap.IsList a its.toArray
  |_=>BF
theorem Ui(I:Inv X pI σ H s)(hd:flD n d=Aa)(r:Rep X.K CL H A0 v d)(q:BZ v u):YV X CL H s d u:=by
 cases d with
 |non=>cases r;exact q
 |bl b=>cases r;exact q
 |int b=>cases r;exact q
 |str b=>cases r;exact q
 |tup ds=>
  obtain⟨a,xs,rfl,_,sq,r⟩:=r;obtain⟨its,rv,p,_⟩:=I.tuple sq;cases q;exact⟨a,xs,its,rfl,r,rv,p⟩
 |lst ds=>
  obtain⟨a,xs,rfl,_,sq,r⟩:=r;obtain⟨its,rv,p,_⟩:=I.list sq;cases q;exact⟨a,xs,its,rfl,r,rv,IB p⟩
 |obj=>cases n<;>cases hd
 |exc=>cases n<;>cases hd
 |dic=>cases n<;>cases hd
theorem eE{B:Bv}{its:Ac Ai}{ds es:Ac D}(hl:s.heap.IsList l its.toArray)(hb:s.heap.IsList b its2.toArray)(e1:its.length=ds.length)(e2:its2.length=es.length)(hu:B.units<Cf)(hs:l=b->eqDs ds es=Aa)(he:∀ j (h1:j<its.length) (h2:j<its2.length),GC B.in1 s its[j] its2[j] (eqD (ds.getD j .non) (es.getD j .non))):C8 B s (.ref l) (.ref b) (eqDs ds es):=by
 have rc:Ko B s (.ref l) (.ref b) (eqDs ds es):=by
  by_cases hz:its.length=its2.length
  ·have q:=SeqAt.RcAt.lists (e:=fun j=>eqD (ds.getD j .non) (es.getD j .non)) hl hb (by simpa using hz) hu (fun j h1 h2=>by simpa using he j (by simpa using h1) (by simpa using h2))
   rw[L6 (by omega)]
   have e:its.toArray.size=ds.length:=by simpa using e1
   rw[e]at q;exact q
  ·rw[L5 (by omega)]
   exact SeqAt.RcAt.lists_lengths hl hb (by simpa using hz) hu
 have ne:Js B s (.ref l) (.ref b) (!eqDs ds es):=by
  by_cases hz:its.length=its2.length
  ·have q:=SeqAt.RcNeAt.lists (e:=fun j=>eqD (ds.getD j .non) (es.getD j .non)) hl hb (by simpa using hz) hu (fun j h1 h2=>by simpa using he j (by simpa using h1) (by simpa using h2))
   rw[L6 (by omega)]
   have e:its.toArray.size=ds.length:=by simpa using e1
   rw[e]at q;exact q
  ·rw[L5 (by omega)]
   exact SeqAt.RcNeAt.lists_lengths hl hb (by simpa using hz) hu
 refine⟨rc,?_,ne⟩;by_cases hlb:l=b
 ·rw[hs hlb,hlb];exact X1 _
 ·exact X0 hlb rc
theorem eC{B:Bv}{its:Ac Ai}{ds es:Ac D}(hl:s.heap.IsTuple l its.toArray)(hb:s.heap.IsTuple b its2.toArray)(e1:its.length=ds.length)(e2:its2.length=es.length)(hu:B.units<Cf)(hs:l=b->eqDs ds es=Aa)(he:∀ j (h1:j<its.length) (h2:j<its2.length),GC B.in1 s its[j] its2[j] (eqD (ds.getD j .non) (es.getD j .non))):C8 B s (.ref l) (.ref b) (eqDs ds es):=by
 have rc:Ko B s (.ref l) (.ref b) (eqDs ds es):=by
  have q:=SeqAt.RcAt.tuples (e:=fun j=>eqD (ds.getD j .non) (es.getD j .non)) hl hb hu (fun j h1 h2=>by simpa using he j (by simpa using h1) (by simpa using h2))
  have e:its.toArray.size=ds.length:=by simpa using e1
  have e':its2.toArray.size=es.length:=by simpa using e2
  rw[e,e']at q;by_cases hz:ds.length=es.length
  ·rw[L6 hz];rw[hz,Xd,DX,Wu]at q;rw[hz];exact q
  ·rw[L5 hz];rw[DN.mpr hz,FT]at q;exact q
 have ne:Js B s (.ref l) (.ref b) (!eqDs ds es):=by
  have q:=SeqAt.RcNeAt.tuples (e:=fun j=>eqD (ds.getD j .non) (es.getD j .non)) hl hb hu (fun j h1 h2=>by simpa using he j (by simpa using h1) (by simpa using h2))
  have e:its.toArray.size=ds.length:=by simpa using e1
  have e':its2.toArray.size=es.length:=by simpa using e2
  rw[e,e']at q;by_cases hz:ds.length=es.length
  ·rw[L6 hz];rw[hz,Xd,DX,Wu]at q;rw[hz];exact q
  ·rw[L5 hz];rw[DN.mpr hz,FT]at q;exact q
 refine⟨rc,?_,ne⟩;by_cases hlb:l=b
 ·rw[hs hlb,hlb];exact X1 _
 ·exact X0 hlb rc
theorem Ml{pI:Pn}{σ:L2.St}{H:Hp}{s:Aq}(I:Inv X pI σ H s):∀(n:Ag)(d e:D)(v w':V)(u t:Ai)(B:Bv),flD n d=Aa->flD n e=Aa->Rep X.K CL H A0 v d->Rep X.K CL H A0 w' e->BZ v u->BZ w' t->B.units+n<Cf->C8 B s u t (eqD d e)
  |n,d,e,v,w',u,t,B,hd,he,r,q,rv,rw',hu=>by
    have hu0:B.units<Cf:=by omega
    have sd:=Ui I hd r rv;have se:=Ui I he q rw'
    match d,e,sd,se with
    |.non,.non,s1,s2=>cases s1;cases s2;exact tU
    |.non,.bl b,s1,s2=>cases s1;cases s2;exact tX b
    |.non,.int b,s1,s2=>cases s1;obtain⟨_,rfl⟩:=s2;exact tW b _
    |.non,.str b,s1,s2=>cases s1;obtain⟨_,rfl⟩:=s2;exact tT b _
    |.non,.tup es,s1,s2=>cases s1;obtain⟨_,_,_,rfl,_,_,p⟩:=s2;exact tS p hu0
    |.non,.lst es,s1,s2=>cases s1;obtain⟨_,_,_,rfl,_,_,p⟩:=s2;exact tV p hu0
    |.bl a,.non,s1,s2=>cases s1;cases s2;exact wX a
    |.bl a,.bl b,s1,s2=>cases s1;cases s2;exact xA a b
    |.bl a,.int b,s1,s2=>cases s1;obtain⟨_,rfl⟩:=s2;exact wZ a b _
    |.bl a,.str b,s1,s2=>cases s1;obtain⟨_,rfl⟩:=s2;exact wW a b _
    |.bl a,.tup es,s1,s2=>cases s1;obtain⟨_,_,_,rfl,_,_,p⟩:=s2;exact wV a p hu0
    |.bl a,.lst es,s1,s2=>cases s1;obtain⟨_,_,_,rfl,_,_,p⟩:=s2;exact wY a p hu0
    |.int a,.non,s1,s2=>obtain⟨_,rfl⟩:=s1;cases s2;exact wQ a _
    |.int a,.bl b,s1,s2=>obtain⟨_,rfl⟩:=s1;cases s2;exact wU b a _
    |.int a,.int b,s1,s2=>obtain⟨_,rfl⟩:=s1;obtain⟨_,rfl⟩:=s2;exact wT a _ b _
    |.int a,.str b,s1,s2=>obtain⟨_,rfl⟩:=s1;obtain⟨_,rfl⟩:=s2;exact wP a _ b _
    |.int a,.tup es,s1,s2=>obtain⟨_,rfl⟩:=s1;obtain⟨_,_,_,rfl,_,_,p⟩:=s2;exact wO a _ p hu0
    |.int a,.lst es,s1,s2=>obtain⟨_,rfl⟩:=s1;obtain⟨_,_,_,rfl,_,_,p⟩:=s2;exact wS a _ p hu0
    |.str a,.non,s1,s2=>obtain⟨_,rfl⟩:=s1;cases s2;exact uI a _
    |.str a,.bl b,s1,s2=>obtain⟨_,rfl⟩:=s1;cases s2;exact tR b a _
    |.str a,.int b,s1,s2=>obtain⟨_,rfl⟩:=s1;obtain⟨_,rfl⟩:=s2;exact tO a _ b _
    |.str a,.str b,s1,s2=>obtain⟨_,rfl⟩:=s1;obtain⟨_,rfl⟩:=s2;exact uH a _ b _
    |.str a,.tup es,s1,s2=>obtain⟨_,rfl⟩:=s1;obtain⟨_,_,_,rfl,_,_,p⟩:=s2;exact uG a _ p hu0
    |.str a,.lst es,s1,s2=>obtain⟨_,rfl⟩:=s1;obtain⟨_,_,_,rfl,_,_,p⟩:=s2;exact tN a _ p hu0
    |.tup ds,.non,s1,s2=>cases s2;obtain⟨_,_,_,rfl,_,_,p⟩:=s1;exact uC p hu0
    |.tup ds,.bl b,s1,s2=>cases s2;obtain⟨_,_,_,rfl,_,_,p⟩:=s1;exact uF b p hu0
    |.tup ds,.int b,s1,s2=>obtain⟨_,rfl⟩:=s2;obtain⟨_,_,_,rfl,_,_,p⟩:=s1;exact uE b _ p hu0
    |.tup ds,.str b,s1,s2=>obtain⟨_,rfl⟩:=s2;obtain⟨_,_,_,rfl,_,_,p⟩:=s1;exact uB b _ p hu0
    |.tup ds,.lst es,s1,s2=>obtain⟨_,_,_,rfl,_,_,p⟩:=s1;obtain⟨_,_,_,rfl,_,_,p2⟩:=s2;exact uD p p2 hu0
    |.lst ds,.non,s1,s2=>cases s2;obtain⟨_,_,_,rfl,_,_,p⟩:=s1;exact wL p hu0
    |.lst ds,.bl b,s1,s2=>cases s2;obtain⟨_,_,_,rfl,_,_,p⟩:=s1;exact wN b p hu0
    |.lst ds,.int b,s1,s2=>obtain⟨_,rfl⟩:=s2;obtain⟨_,_,_,rfl,_,_,p⟩:=s1;exact wM b _ p hu0
    |.lst ds,.str b,s1,s2=>obtain⟨_,rfl⟩:=s2;obtain⟨_,_,_,rfl,_,_,p⟩:=s1;exact wK b _ p hu0
    |.lst ds,.tup es,s1,s2=>obtain⟨_,_,_,rfl,_,_,p⟩:=s1;obtain⟨_,_,_,rfl,_,_,p2⟩:=s2;exact tY p p2 hu0
    |.tup ds,.tup es,s1,s2=>
      match n,hd,he,hu with
      |n+1,hd,he,hu=>
        obtain⟨a,xs,its,rfl,r1,v1,p1⟩:=s1;obtain⟨b,ys,its2,rfl,r2,v2,p2⟩:=s2;have l1:=v1.length;have l2:=r1.length;have l3:=v2.length;have l4:=r2.length
        refine eC p1 p2 (by omega) (by omega) hu0 (fun hab=>?_) fun j h1 h2=>?_
        · have e1:v=.ref a:=BZ.inj rv rfl;have e2:w'=.ref b:=BZ.inj rw' rfl;subst e1 e2 hab;have z:=M8 I (n+1) _ _ hd he r q
          injection z with z
          rw[z];exact eqDs_refl n es he
        · obtain⟨x,rx,qx⟩:=J5 r1 v1 h1;obtain⟨y,ry,qy⟩:=J5 r2 v2 h2;exact(Ml I n _ _ x y _ _ B.in1 (J3 hd j) (J3 he j) rx ry qx qy (by show B.units+1+n<Cf;omega)).2.1
    |.lst ds,.lst es,s1,s2=>
      match n,hd,he,hu with
      |n+1,hd,he,hu=>
        obtain⟨a,xs,its,rfl,r1,v1,p1⟩:=s1;obtain⟨b,ys,its2,rfl,r2,v2,p2⟩:=s2;have l1:=v1.length;have l2:=r1.length;have l3:=v2.length;have l4:=r2.length
        refine eE p1 p2 (by omega) (by omega) hu0 (fun hab=>?_) fun j h1 h2=>?_
        · have e1:v=.ref a:=BZ.inj rv rfl;have e2:w'=.ref b:=BZ.inj rw' rfl;subst e1 e2 hab;have z:=M8 I (n+1) _ _ hd he r q
          injection z with z
          rw[z];exact eqDs_refl n es he
        · obtain⟨x,rx,qx⟩:=J5 r1 v1 h1;obtain⟨y,ry,qy⟩:=J5 r2 v2 h2;exact(Ml I n _ _ x y _ _ B.in1 (J3 hd j) (J3 he j) rx ry qx qy (by show B.units+1+n<Cf;omega)).2.1
    |.obj _ _,_,s1,_=>exact s1.elim
    |.exc _ _,_,s1,_=>exact s1.elim
    |.dic _,_,s1,_=>exact s1.elim
    |_,.obj _ _,_,s2=>exact s2.elim
    |_,.exc _ _,_,s2=>exact s2.elim
    |_,.dic _,_,s2=>exact s2.elim
end
section
variable{X:Cx}{CL:ClA}{W:XW}
theorem Np(I:Inv X pI σ H s){ds:Ac D}{its:Ac Ai}(B:Bv)(hd:flD n d=Aa)(hs:ds.all (flD n)=Aa)(r:Reps X.K CL H A0 xs ds)(rv:Bq xs its)(q:Rep X.K CL H A0 v d)(qv:BZ v u)(hu:B.units+n<Cf):∃ e:Ai->Ap,(∀ y,y∈its.toArray->GC B s y u (e y))/\its.toArray.any e=ds.any fun y=>eqD y d:=by
 have l1:=rv.length;have l2:=r.length
 have key:∀ y,y∈its->∃ k:Ap,GC B s y u k/\∀ j (h:j<its.length),its[j]=y->eqD (ds.getD j .non) d=k:=fun y hy=>by
  obtain⟨j,hj,rfl⟩:=GO hy;obtain⟨x,rx,qx⟩:=J5 r rv hj;refine⟨eqD (ds.getD j .non) d,(Ml I n _ _ x v _ _ B (J3 hs j) hd rx q qx qv hu).2.1,fun j' hj' e=>?_⟩
  obtain⟨x',rx',qx'⟩:=J5 r rv hj';rw[e]at qx';have z:=BZ.inj qx qx';subst z;rw[M8 I n _ _ (J3 hs j') (J3 hs j) rx' rx]
 have key2:∀ y,∃ k:Ap,y∈its->GC B s y u k/\∀ j (h:j<its.length),its[j]=y->eqD (ds.getD j .non) d=k:=fun y=>by
  by_cases hy:y∈its
  ·obtain⟨k,hk⟩:=key y hy;exact⟨k,fun _=>hk⟩
  ·exact⟨Aa,fun h=>absurd h hy⟩
 refine⟨fun y=>Ww (key2 y),fun y hy=>(E5 (key2 y) (by simpa using hy)).1,?_⟩
 rw[Cy];simp only[List.any_toArray,WJ];constructor
 ·rintro⟨y,hy,hk⟩;obtain⟨j,hj,rfl⟩:=GO hy;have z:=(E5 (key2 its[j]) hy).2 j hj rfl;rw[hk]at z;refine⟨ds.getD j .non,?_,z⟩;rw[A2,AU (by omega)]
  exact Fh _
 ·rintro⟨y,hy,hk⟩;obtain⟨j,hj,rfl⟩:=GO hy;have hj':j<its.length:=by omega
  refine⟨its[j],Fh _,?_⟩;have z:=(E5 (key2 its[j]) (Fh _)).2 j hj' rfl;rw[<-z,A2,AU hj];exact hk
theorem M2{g:Ad->Ad->Ap}(ho:OpR X (C4 op) (rI0 fun i j=>.bl (g i j)))(hg:∀ dx dy,(∃ i j,dx=.int i/\dy=.int j/\Cr op dx dy=.ok (.bl (g i j)))\/Cr op dx dy=.bad):OpD X CL W (C4 op) (Cr op):=by
 intro A pI s σ H x y v u Q I rx ry ⟨hA,dx,dy,hx,hy,p⟩;rcases hg dx dy with ⟨i,j,rfl,rfl,e⟩|e
 ·have ex:=hx.int_of;have ey:=hy.int_of
  subst ex ey;rw[e]at p;exact ho pI s σ H _ _ v u Q I rx ry ⟨i,j,rfl,rfl,p _ H (AN.refl H) rfl⟩
 ·rw[e]at p;exact p.elim
theorem U6{x:V}(h:C7 X.K CL H A x d)(hd:d≠.non):x≠.non:=by
 rintro rfl;have h:=h.plain;cases d with
 |non=>exact hd rfl
 |tup=>obtain⟨_,_,e,_⟩:=h;cases e
 |lst=>obtain⟨_,_,e,_⟩:=h;cases e
 |obj=>obtain⟨_,_,_,_,e,_⟩:=h;cases e
 |exc=>obtain⟨_,_,_,e,_⟩:=h;cases e
 |dic=>exact h.elim
 |_=>cases h
theorem KP(hu:X.A.units+64<Cf)(op:FH):OpD X CL W (C4 op) (Cr op):=by
 cases op with
 |Eq=>
  intro A pI s σ H x y v u Q I rx ry ⟨hA,dx,dy,hx,hy,p⟩;rw[yP]at p;split at p
  ·rename_i h;simp only[Am]at h;exact(Ml I 5 dx dy x y v u X.A h.1 h.2 hx.plain hy.plain rx ry (by omega)).1 X.prog X.w X.xe _ ⟨.bl _,H,I,rfl,p _ H (AN.refl H) rfl⟩
  ·exact p.elim
 |NotEq=>
  intro A pI s σ H x y v u Q I rx ry ⟨hA,dx,dy,hx,hy,p⟩;rw[xW]at p;split at p
  ·rename_i h;simp only[Am]at h;exact(Ml I 5 dx dy x y v u X.A h.1 h.2 hx.plain hy.plain rx ry (by omega)).2.2 X.prog X.w X.xe _ ⟨.bl _,H,I,rfl,p _ H (AN.refl H) rfl⟩
  ·exact p.elim
 |Lt=>exact M2 uZ fun dx dy=>by cases dx<;>cases dy<;>first|exact .inl ⟨_,_,rfl,rfl,rfl⟩|exact .inr rfl
 |LtE=>exact M2 vC fun dx dy=>by cases dx<;>cases dy<;>first|exact .inl ⟨_,_,rfl,rfl,rfl⟩|exact .inr rfl
 |Gt=>exact M2 vD fun dx dy=>by cases dx<;>cases dy<;>first|exact .inl ⟨_,_,rfl,rfl,rfl⟩|exact .inr rfl
 |GtE=>exact M2 vE fun dx dy=>by cases dx<;>cases dy<;>first|exact .inl ⟨_,_,rfl,rfl,rfl⟩|exact .inr rfl
 |In=>
  intro A pI s σ H x y v u Q I rx ry ⟨hA,dx,dy,hx,hy,p⟩;cases dy with
  |lst es=>
   rw[YJ]at p;split at p
   ·rename_i h;simp only[Am]at h;obtain⟨a,xs,e,_,sq,r⟩:=hy.plain;subst e;cases ry;obtain⟨its,rv,pl,_⟩:=I.list sq;obtain⟨e,he,ha⟩:=Np I (n:=5) X.A.in1 h.1 h.2 r rv hx.plain rx (by show X.A.units+1+5<Cf;omega)
    refine SeqAt.in_listAt e (IB pl) he ?_;rw[ha];exact⟨.bl _,H,I,rfl,p _ H (AN.refl H) rfl⟩
   ·exact p.elim
  |tup es=>
   rw[YI]at p;split at p
   ·rename_i h;simp only[Am]at h;obtain⟨a,xs,e,_,sq,r⟩:=hy.plain;subst e;cases ry;obtain⟨its,rv,pl,_⟩:=I.tuple sq;obtain⟨e,he,ha⟩:=Np I (n:=5) X.A.in1 h.1 h.2 r rv hx.plain rx (by show X.A.units+1+5<Cf;omega)
    refine SeqAt.in_tupleAt e pl he ?_;rw[ha];exact⟨.bl _,H,I,rfl,p _ H (AN.refl H) rfl⟩
   ·exact p.elim
  |dic kvs=>exact hy.plain.elim
  |_=>cases dx<;>exact p.elim
 |NotIn=>
  intro A pI s σ H x y v u Q I rx ry ⟨hA,dx,dy,hx,hy,p⟩;cases dy with
  |lst es=>
   rw[xU]at p;split at p
   ·rename_i h;simp only[Am]at h;obtain⟨a,xs,e,_,sq,r⟩:=hy.plain;subst e;cases ry;obtain⟨its,rv,pl,_⟩:=I.list sq;obtain⟨e,he,ha⟩:=Np I (n:=5) X.A.in1 h.1 h.2 r rv hx.plain rx (by show X.A.units+1+5<Cf;omega)
    refine SeqAt.notIn_listAt e (IB pl) he ?_;rw[ha];exact⟨.bl _,H,I,rfl,p _ H (AN.refl H) rfl⟩
   ·exact p.elim
  |tup es=>
   rw[xT]at p;split at p
   ·rename_i h;simp only[Am]at h;obtain⟨a,xs,e,_,sq,r⟩:=hy.plain;subst e;cases ry;obtain⟨its,rv,pl,_⟩:=I.tuple sq;obtain⟨e,he,ha⟩:=Np I (n:=5) X.A.in1 h.1 h.2 r rv hx.plain rx (by show X.A.units+1+5<Cf;omega)
    refine SeqAt.notIn_tupleAt e pl he ?_;rw[ha];exact⟨.bl _,H,I,rfl,p _ H (AN.refl H) rfl⟩
   ·exact p.elim
  |_=>cases dx<;>exact p.elim
 |Is=>
  intro A pI s σ H x y v u Q I rx ry ⟨hA,dx,dy,hx,hy,p⟩;cases dy with
  |non=>
   have ey:=hy.non_of;subst ey;refine rJ pI s σ H _ _ v u Q I rx ry ⟨rfl,?_⟩;cases dx with
   |non=>
    have ex:=hx.non_of;subst ex;exact p _ H (AN.refl H) rfl
   |exc=>exact p.elim
   |dic=>exact p.elim
   |_=>rw[CF (U6 hx (by simp))];exact p _ H (AN.refl H) rfl
  |bl b=>
   cases dx with
   |bl a=>
    have ey:=hy.bl_of;have ex:=hx.bl_of;subst ex ey;cases rx;cases ry;refine wpAny_is_plain rfl ⟨.bl (a==b),H,I,?_,p _ H (AN.refl H) rfl⟩;cases a<;>cases b<;>rfl
   |_=>exact p.elim
  |_=>cases dx<;>exact p.elim
 |IsNot=>
  intro A pI s σ H x y v u Q I rx ry ⟨hA,dx,dy,hx,hy,p⟩;cases dy with
  |non=>
   have ey:=hy.non_of;subst ey;refine gX pI s σ H _ _ v u Q I rx ry ⟨rfl,?_⟩;cases dx with
   |non=>
    have ex:=hx.non_of;subst ex;exact p _ H (AN.refl H) rfl
   |exc=>exact p.elim
   |dic=>exact p.elim
   |_=>rw[CF (U6 hx (by simp))];exact p _ H (AN.refl H) rfl
  |bl b=>
   cases dx with
   |bl a=>
    have ey:=hy.bl_of;have ex:=hx.bl_of;subst ex ey;cases rx;cases ry;refine wpAny_isNot_plain rfl ⟨.bl (!(a==b)),H,I,?_,p _ H (AN.refl H) rfl⟩;cases a<;>cases b<;>rfl
   |_=>exact p.elim
  |_=>cases dx<;>exact p.elim
end
section
variable{X:Cx}{CL:ClA}{W:XW}{a b c:Ar}{fa fb fc:Rho->R D}{pos:A8}
theorem Dx.bind{f:D->R Ap}{Q:Ap->Hp->Prop}{Q':VK}(h:Dx W H (r.bind f) Q)(k:∀ d v H',r=.ok d->AN H H'->Rp H' v d->Dx W H' (f d) Q->Q' v H'):Bt Rp W H r Q':=by
 cases r with
 |ok d=>exact fun v H2 s2 q=>k d v H2 rfl s2 q (Dx.same s2 h)
 |exn x=>exact h
 |bad=>exact h
theorem Dx.bindB{r:R Ap}{f:Ap->R Ap}{Q:Ap->Hp->Prop}{Q':Ap->Hp->Prop}(h:Dx W H (r.bind f) Q)(k:∀ b H',r=.ok b->AN H H'->Dx W H' (f b) Q->Q' b H'):Dx W H r Q':=by
 cases r with
 |ok d=>exact fun H2 s2=>k d H2 rfl s2 (Dx.same s2 h)
 |exn x=>exact h
 |bad=>exact h
theorem Hs.bind{Rp:Hp->Ac V->Ac D->Prop}{r:R (Ac D)}{f:Ac D->R D}{Q':Ac V->Hp->Prop}(h:Bt Rq W H (r.bind f) Q)(k:∀ d v H',r=.ok d->AN H H'->Rp H' v d->Bt Rq W H' (f d) Q->Q' v H'):Hs Rp W H r Q':=by
 cases r with
 |ok d=>exact fun v H2 s2 q=>k d v H2 rfl s2 q (Bt.same s2 h)
 |exn x=>exact h
 |bad=>exact h
theorem pJ(ha:ST X CL W a fa):SE X CL W (.UnaryOp .USub a pos) (fun ρ=>(fa ρ).bind fun x=>unD .USub x):=fun A=>PE.weak (wB mC (ha A)) fun σ H Q ⟨hA,ρ,g,p⟩=>⟨hA,ρ,g,Bt.bind p fun d v H1 _ s1 r1 p1=>by
 cases d with
 |int i=>
  have e:=r1.int_of;subst e;exact⟨i,rfl,p1 _ H1 (AN.refl H1) rfl⟩
 | _=>exact p1.elim⟩
theorem MZ{f:Ap->R D}(h:Bt Rq W H ((Ef d).bind f) Q):∃ c,d=.bl c/\Bt Rq W H (f c) Q:=by
 cases d with
 |bl c=>exact⟨c,rfl,h⟩
 |_=>exact h.elim
theorem pG(ha:ST X CL W a fa):SE X CL W (.UnaryOp .Not a pos) (fun ρ=>(fa ρ).bind fun x=>(Ef x).bind fun b=>.ok (.bl (!b))):=fun A=>PE.weak (qX (ha A)) fun σ H Q ⟨hA,ρ,g,p⟩=>⟨hA,ρ,g,Bt.bind p fun d v H1 _ s1 r1 p1=>by
 obtain⟨c,rfl,p2⟩:=MZ p1;exact⟨c,r1.bl_of,p2 _ H1 (AN.refl H1) rfl⟩⟩
theorem Vu{op}(ha:SE X CL W a fa):SE X CL W (.BoolOp op [a] pos) fa:=fun A=>qW (ha A)
theorem nL{rest:Ac Ar}(ha:SE X CL W a fa)(hb:SE X CL W (.BoolOp .And (b::rest) pos) fb):SE X CL W (.BoolOp .And (a::b::rest) pos) (fun ρ=>(fa ρ).bind fun x=>(Ef x).bind fun c=>if c=Aa then fb ρ else .ok (.bl Ae)):=
 fun A=>PE.weak (rD (ha A) (hb A)) fun σ H Q ⟨hA,ρ,g,p⟩=>⟨hA,ρ,g,Bt.bind p fun d v H1 _ s1 r1 p1=>by
  obtain⟨c,rfl,p2⟩:=MZ p1;refine⟨c,r1,?_⟩;cases c with
  |true=>exact⟨hA.same s1,ρ,g.same s1,p2⟩
  | false=>exact p2 _ H1 (AN.refl H1) rfl⟩
theorem tZ{rest:Ac Ar}(ha:SE X CL W a fa)(hb:SE X CL W (.BoolOp .Or (b::rest) pos) fb):SE X CL W (.BoolOp .Or (a::b::rest) pos) (fun ρ=>(fa ρ).bind fun x=>(Ef x).bind fun c=>if c=Aa then .ok (.bl Aa) else fb ρ):=
 fun A=>PE.weak (wD (ha A) (hb A)) fun σ H Q ⟨hA,ρ,g,p⟩=>⟨hA,ρ,g,Bt.bind p fun d v H1 _ s1 r1 p1=>by
  obtain⟨c,rfl,p2⟩:=MZ p1;refine⟨c,r1,?_⟩;cases c with
  |false=>exact⟨hA.same s1,ρ,g.same s1,p2⟩
  | true=>exact p2 _ H1 (AN.refl H1) rfl⟩
theorem dI{op':FH}(hu:X.A.units+64<Cf)(ha:ST X CL W a fa)(hb:ST X CL W b fb)(hc:ST X CL W c fc)(hm:Jz [op,op'] [b,c]=Ae):SE X CL W (.Compare a [op,op'] [b,c] pos) (fun ρ=>(fa ρ).bind fun x=>(fb ρ).bind fun y=>(Cr op x y).bind fun z=>(Ef z).bind fun k=>if k=Aa then (fc ρ).bind fun u=>Cr op' y u else .ok (.bl Ae)):=
 fun A=>PE.weak (cB (KP hu op A) (KP hu op' A) (ha A) (hb A) (hc A) hm) fun σ H Q ⟨hA,ρ,g,p⟩=>⟨hA,ρ,g,Bt.bind p fun dx x H1 _ s1 r1 p1=>⟨hA.same s1,ρ,g.same s1,Bt.bind p1 fun dy y H2 _ s2 r2 p2=>
  ⟨(hA.same s1).same s2,dx,dy,r1.same s2,r2,Bt.bind p2 fun dz z H3 _ s3 r3 p3=>by
   obtain⟨k,rfl,p4⟩:=MZ p3;refine⟨k,r3,?_⟩;cases k with
   |false=>exact p4 _ H3 (AN.refl H3) rfl
   | true=>exact⟨((hA.same s1).same s2).same s3,ρ,((g.same s1).same s2).same s3,Bt.bind p4 fun du u H4 _ s4 r4 p5=>⟨(((hA.same s1).same s2).same s3).same s4,dy,du,(r2.same s3).same s4,r4,p5⟩⟩⟩⟩⟩
theorem kZ{xs:Ac D}{i:Ad}(h:DI xs i=.ok d):∃ k,plD xs.length i=Ab k/\xs[k]?=Ab d:=by
 unfold DI at h;split at h
 ·rename_i k e;split at h
  ·rename_i d' e';cases h;exact⟨k,e,e'⟩
  ·cases h
 ·cases h
theorem S4{xs:Ac D}{i:Ad}{x:Ex}(h:DI xs i=.exn x):BF:=by
 unfold DI at h;split at h
 ·split at h<;>cases h
 ·cases h
theorem Us{ds:Ac D}{i:Ad}(r:Reps K CL H A xs ds)(h:DI ds i=.ok d):∃ v,atI xs i=Ab v/\Rep K CL H A v d:=by
 obtain⟨k,e,q⟩:=kZ h;obtain⟨v,hv,rv⟩:=r.get q;refine⟨v,?_,rv⟩;unfold atI;have:ixN xs.length i=Ab k:=by rw[r.length];exact e
 rw[this];exact hv
theorem pM(hs:PV b)(ha:ST X CL W a fa)(hb:ST X CL W b fb):SE X CL W (.Subscript a b pos) (fun ρ=>(fa ρ).bind fun x=>(fb ρ).bind fun y=>B7 x y):=
 fun A=>PE.weak (wF (r:=fun x y H Q=>Ru X.K x y H Q\/Rt X.K x y H Q) (kQ.or qL) (ha A) (hb A) hs) fun σ H Q h=>by
  obtain⟨hA,ρ,g,h⟩:=op2 h;refine⟨hA,ρ,g,?_⟩;cases e:fa ρ with
  |bad=>rw[e]at h;exact h
  |exn x=>rw[e]at h;exact h
  |ok dx0=>
   rw[e]at h;intro x H1 s1 r1;obtain⟨hA1,ρ1,g1,h1⟩:=h x H1 s1 r1;refine⟨hA1,ρ1,g1,?_⟩;cases e1:fb ρ1 with
   |bad=>rw[e1]at h1;exact h1
   |exn x=>rw[e1]at h1;exact h1
   |ok dy0=>
    rw[e1]at h1;intro y H2 s2 r2;obtain⟨hA2,dx,dy,rx,ry,p⟩:=h1 y H2 s2 r2;cases dy with
    |int i=>
     have ey:=ry.int_of;subst ey;cases dx with
     |lst ds=>
      obtain⟨q,xs,rfl,sq,r⟩:=rx.lst_of;rw[xN]at p;cases e2:DI ds i with
      |ok d=>
       rw[e2]at p;obtain⟨v,hv,rv⟩:=Us r e2;exact .inl ⟨q,xs,i,v,rfl,rfl,sq,hv,p v H2 (AN.refl H2) rv⟩
      |exn x=>exact(S4 e2).elim
      |bad=>rw[e2]at p;exact p.elim
     |tup ds=>
      obtain⟨q,xs,rfl,_,sq,r⟩:=rx.tup_of;rw[xM]at p;cases e2:DI ds i with
      |ok d=>
       rw[e2]at p;obtain⟨v,hv,rv⟩:=Us r e2;exact .inr ⟨q,xs,i,v,rfl,rfl,sq,hv,p v H2 (AN.refl H2) rv⟩
      |exn x=>exact(S4 e2).elim
      |bad=>rw[e2]at p;exact p.elim
     |dic=>exact rx.plain.elim
     |_=>exact p.elim
    |_=>cases dx<;>first|exact p.elim|exact rx.plain.elim
theorem nR:SA X CL W [] (fun _=>.ok []):=fun A=>PA.weak GW fun σ H Q ⟨hA,ρ,g,p⟩=>p [] H (AN.refl H) trivial
theorem dZ(ha:SE X CL W a fa)(hs:SA X CL W es fs)(hst:AG (a::es) X.env=(Ae,eval a X.env)::AG es X.env):SA X CL W (a::es) (fun ρ=>(fa ρ).bind fun x=>(fs ρ).bind fun xs=>.ok (x::xs)):=
 fun A=>PA.weak (Fk (ha A) (hs A) hst) fun σ H Q ⟨hA,ρ,g,p⟩=>by
  dsimp only at p;refine⟨hA,ρ,g,?_⟩;cases e:fa ρ with
  |bad=>rw[e]at p;exact p
  |exn x=>rw[e]at p;exact p
  |ok d=>
   rw[e]at p;intro v H1 s1 r1;refine⟨hA.same s1,ρ,g.same s1,?_⟩;cases e1:fs ρ with
   |bad=>rw[R.bind_ok,e1]at p;exact p
   |exn x=>rw[R.bind_ok,e1]at p;exact fun H2 s2=>p H2 (s1.trans s2)
   |ok ds=>
    rw[R.bind_ok,e1]at p;exact fun vs H2 s2 r2=>p (v::vs) H2 (s1.trans s2) ⟨r1.same s2,r2⟩
theorem pE(hs:SA X CL W es fs)(hz:∀ ρ ds,fs ρ=.ok ds->ds.length<=100000):SE X CL W (.Tuple es k pos) (fun ρ=>(fs ρ).bind fun xs=>.ok (.tup xs)):=
 fun A=>PE.weak (qU (hs A)) fun σ H Q ⟨hA,ρ,g,p⟩=>⟨hA,ρ,g,Hs.bind p fun ds vs H1 e s1 r1 p1=>⟨by
  rw[r1.length,CS];have:=hz ρ ds e;omega,fun q hq=>p1 _ _ (F3 hq _) (KQ (hA.same s1) hq r1)⟩⟩
def Ka(W:XW)(H:Hp)(r:R (Au Ad))(Q:Au Ad->Hp->Prop):Prop:=match r with
  |.ok o=>∀ H',AN H H'->Q o H'
  |.exn x=>∀ H',AN H H'->W x H'
  |.bad=>BF
theorem Ka.bind{r:R (Au Ad)}{f:Au Ad->R D}(h:Bt Rq W H (r.bind f) Q)(k:∀ o H',r=.ok o->AN H H'->Bt Rq W H' (f o) Q->Q' o H'):Ka W H r Q':=by
 cases r with
 |ok d=>exact fun H2 s2=>k d H2 rfl s2 (Bt.same s2 h)
 |exn x=>exact h
 |bad=>exact h
def SO(X:Cx)(CL:ClA)(W:XW)(e:Au Ar)(f:Rho->R (Au Ad)):Prop:=∀ A,PO X e (fun σ H Q=>AOk H A/\∃ ρ,Good X.K CL A ρ σ H/\Ka W H (f ρ) Q)
theorem PO.weak{e:Au Ar}{t t':TO}(h:PO X e t)(k:∀ σ H Q,t' σ H Q->t σ H Q):PO X e t':=fun pI s σ H Q I q=>h pI s σ H Q I (k _ _ _ q)
theorem fF:SO X CL W Af (fun _=>.ok Af):=fun A=>PO.weak jD fun σ H Q ⟨hA,ρ,g,p⟩=>p H (AN.refl H)
theorem fD(ha:ST X CL W a fa):SO X CL W (Ab a) (fun ρ=>(fa ρ).bind fun d=>(Fe d).bind fun i=>.ok (Ab i)):=fun A=>PO.weak (jC (ha A)) fun σ H Q ⟨hA,ρ,g,p⟩=>by
 dsimp only at p;refine⟨hA,ρ,g,?_⟩;cases e:fa ρ with
 |bad=>rw[e]at p;exact p
 |exn x=>rw[e]at p;exact p
 |ok d=>
  rw[e]at p;intro v H1 s1 r1;cases d with
  |int i=>exact⟨i,r1.int_of,p H1 s1⟩
  |_=>exact p.elim
theorem UI{ds:Ac D}(lo hi:Au Ad)(r:Reps K CL H A xs ds):Reps K CL H A (JG xs lo hi) (JH ds lo hi):=by
 unfold JG JH;have e:∀ d o,HT.sIx xs.length d o=IH ds.length d o:=fun d o=>by rw[r.length];cases o<;>rfl
 rw[e,e,r.length];exact(r.drop _).take _
end
section
variable{X:Cx}{CL:ClA}{W:XW}{a b c:Ar}{fa fb fc:Rho->R D}{pos:A8}
def Gd(K:Fg)(CL:ClA)(H:Hp)(A:Ak->Prop):Ac V->Ac D->Prop
 |[],[]=>IX
 |v::vs,d::ds=>C7 K CL H A v d/\Gd K CL H A vs ds
 |_,_=>BF
theorem Gd.same{K:Fg}{H H':Hp}{A:Ak->Prop}(s:AN H H'):∀{vs:Ac V}{ds:Ac D},Gd K CL H A vs ds->Gd K CL H' A vs ds
 |[],[],h=>h
 |_::_,_::_,h=>⟨h.1.same s,Gd.same s h.2⟩
 |[],_::_,h=>h.elim
 |_::_,[],h=>h.elim
theorem Gd.one(h:Gd K CL H A vs [d]):∃ v,vs=[v]/\C7 K CL H A v d:=by
 cases vs with
 |nil=>exact h.elim
 |cons v vs=>
  cases vs with
  |nil=>exact⟨v,rfl,h.1⟩
  |cons=>exact h.2.elim
theorem Gd.two{e:D}(h:Gd K CL H A vs [d,e]):∃ v w',vs=[v,w']/\C7 K CL H A v d/\C7 K CL H A w' e:=by
 cases vs with
 |nil=>exact h.elim
 |cons v vs=>
  cases vs with
  |nil=>exact h.2.elim
  |cons w' vs=>
   cases vs with
   |nil=>exact⟨v,w',rfl,h.1,h.2.1⟩
   |cons=>exact h.2.2.elim
def SAT(X:Cx)(CL:ClA)(W:XW)(es:Ac Ar)(f:Rho->R (Ac D)):Prop:=∀ A,PA X es (fun σ H Q=>AOk H A/\∃ ρ,Good X.K CL A ρ σ H/\Hs (fun H=>Gd X.K CL H A) W H (f ρ) Q)
theorem fM:SAT X CL W [] (fun _=>.ok []):=fun A=>PA.weak GW fun σ H Q ⟨hA,ρ,g,p⟩=>p [] H (AN.refl H) trivial
theorem dL(ha:ST X CL W a fa)(hs:SAT X CL W es fs)(hst:AG (a::es) X.env=(Ae,eval a X.env)::AG es X.env):SAT X CL W (a::es) (fun ρ=>(fa ρ).bind fun x=>(fs ρ).bind fun xs=>.ok (x::xs)):=
 fun A=>PA.weak (Fk (ha A) (hs A) hst) fun σ H Q ⟨hA,ρ,g,p⟩=>by
  dsimp only at p;refine⟨hA,ρ,g,?_⟩;cases e:fa ρ with
  |bad=>rw[e]at p;exact p
  |exn x=>rw[e]at p;exact p
  |ok d=>
   rw[e]at p;intro v H1 s1 r1;refine⟨hA.same s1,ρ,g.same s1,?_⟩;cases e1:fs ρ with
   |bad=>rw[R.bind_ok,e1]at p;exact p
   |exn x=>rw[R.bind_ok,e1]at p;exact fun H2 s2=>p H2 (s1.trans s2)
   |ok ds=>
    rw[R.bind_ok,e1]at p;exact fun vs H2 s2 r2=>p (v::vs) H2 (s1.trans s2) ⟨r1.same s2,r2⟩
def Jj(X:Cx)(CL:ClA)(W:XW)(f:Ai)(g:Ac D->R D):Prop:=∀ A,IE X f (fun xs H Q=>AOk H A/\∃ ds,Gd X.K CL H A xs ds/\Bt (fun H=>Rep X.K CL H A) W H (g ds) Q)
theorem J7{g:Ac D->R D}(hc:Jj X CL W (.builtin id) g)(hg:Gl X x)(hm:X.mg x=Af)(hv:Dh x=Ab (.builtin id))(ha:SAT X CL W (e::es) fs)(hn:x≠"__name__")(hdb:(x==("__debug__" : Al))=Ae)(he:AG (e::es) X.env=(Ae,eval e X.env)::AG es X.env)(hpl:∀ pos,(CV pos (AG es X.env)).any (·.1)=Ae):SE X CL W (.Call (.Name x p) (e::es) [] pos) (fun ρ=>(fs ρ).bind g):=fun A=>PE.weak (O8 (hc A) hg hm hv (ha A) hn hdb he (hpl _)) fun σ H Q ⟨hA,ρ,gd,q⟩=>⟨hA,ρ,gd,Hs.bind q fun ds vs H1 _ s1 r1 p1=>⟨hA.same s1,ds,r1,p1⟩⟩
theorem nK{g:Ac D->R D}(hc:Jj X CL W (.type T) g)(hg:Gl X x)(hm:X.mg x=Af)(hv:Dh x=Ab (.type T))(ha:SAT X CL W (e::es) fs)(hn:x≠"__name__")(hdb:(x==("__debug__" : Al))=Ae)(he:AG (e::es) X.env=(Ae,eval e X.env)::AG es X.env)(hpl:∀ pos,(CV pos (AG es X.env)).any (·.1)=Ae):SE X CL W (.Call (.Name x p) (e::es) [] pos) (fun ρ=>(fs ρ).bind g):=fun A=>PE.weak (R9 (hc A) hg hm hv (ha A) hn hdb he (hpl _)) fun σ H Q ⟨hA,ρ,gd,q⟩=>⟨hA,ρ,gd,Hs.bind q fun ds vs H1 _ s1 r1 p1=>⟨hA.same s1,ds,r1,p1⟩⟩
theorem sJ:Jj X CL W (.builtin "len") (biD .len):=by
  intro A pI s σ H xs us Q I r ⟨hA,ds,rs,p⟩
  match ds,rs,p with
  |[.lst es],rs,p=>
    obtain⟨v,rfl,rv⟩:=rs.one;obtain⟨q,ys,rfl,sq,ry⟩:=rv.lst_of;exact RK pI s σ H _ us Q I r ⟨q,ys,rfl,.inl sq,p _ H (AN.refl H) (by rw[ry.length];rfl)⟩
  |[.tup es],rs,p=>
    obtain⟨v,rfl,rv⟩:=rs.one;obtain⟨q,ys,rfl,_,sq,ry⟩:=rv.tup_of;exact RK pI s σ H _ us Q I r ⟨q,ys,rfl,.inr sq,p _ H (AN.refl H) (by rw[ry.length];rfl)⟩
  |[.str x],rs,p=>
    obtain⟨v,rfl,rv⟩:=rs.one;have e:=rv.str_of;subst e;have p':Bt (fun H=>Rep X.K CL H A) W H (if DL x.length=Aa then .ok (.int x.length) else .bad) Q:=p
    split at p'
    · rename_i h;exact Zy pI s σ H _ us Q I r ⟨x,rfl,IY h,p' _ H (AN.refl H) rfl⟩
    · exact p'.elim
  |[],_,p=>exact p.elim
  |[.non],_,p=>exact p.elim
  |[.bl _],_,p=>exact p.elim
  |[.int _],_,p=>exact p.elim
  |[.obj _ _],_,p=>exact p.elim
  |[.exc _ _],_,p=>exact p.elim
  |[.dic _],rs,p=>first|exact p.elim|(obtain⟨v,rfl,rv⟩:=rs.one;exact rv.plain.elim)
  |x::_::_,_,p=>cases x<;>exact p.elim
theorem SH:∀(is:Ac Ad)(i:Ad),II i is∈i::is/\∀ a∈i::is,II i is<=a
 |[],i=>⟨AB,fun a h=>by rw[BK]at h;rw[h];exact JP _⟩
 |j::r,i=>by
  obtain⟨h1,h2⟩:=SH r (if j<i then j else i)
  refine⟨?_,fun a h=>?_⟩
  ·show II (if j<i then j else i) r∈_
   rcases Ay.mp h1 with e|e
   ·rw[e];split
    ·exact Av _ AB
    ·exact AB
   ·exact Av _ (Av _ e)
  ·show II (if j<i then j else i) r<=a
   have h0:=h2 _ AB;rcases Ay.mp h with e|e
   ·subst e;refine WC h0 ?_;split<;>omega
   ·rcases Ay.mp e with e|e
    ·subst e;refine WC h0 ?_;split<;>omega
    ·exact h2 a (Av _ e)
theorem Sf:∀{is:Ac Ad}{its:Ac Ai},Bq (is.map V.int) its->∃ xs:AM (Ad×DG),its.toArray=LH xs/\xs.toList.map (·.1)=is
 |[],_,h=>by cases h;exact⟨#[],by simp[LH],rfl⟩
 |i::is,_,h=>by
  cases h with
  |cons h1 h2=>
   obtain⟨t,rfl⟩:=h1;obtain⟨xs,e1,e2⟩:=Sf h2;refine⟨((i,t)::xs.toList).toArray,?_,?_⟩
   ·apply HF.mp
    have e1':=congrArg Jo e1;simp[LH]at e1' ⊢;exact e1'
   ·simp[e2]
theorem aQ(hc:X.calm=Aa):IE X (.builtin "min") (fun xs H Q=>∃ a i is,xs=[.ref a]/\SqL X.K H a ((i::is).map V.int)/\Q (.int (II i is)) H):=by
 intro pI s σ H xs us Q I r h;obtain⟨a,i,is,rfl,sq,q⟩:=h;obtain⟨u,rfl,ru⟩:=Ia r;cases ru;obtain⟨its,rv,pl,hz⟩:=I.list sq;obtain⟨ys,e1,e2⟩:=Sf rv;have hsz:0<ys.size:=by
  have:=congrArg WS e2;simp at this;omega
 have hl:=pl.isList;rw[e1]at hl;refine min_intList (I.ok.hd hc) hl hsz fun v h' tk hv hk=>?_
 obtain⟨t,rfl⟩:=intItems_at hv;obtain⟨h1,h2⟩:=argBest_lt (IW ys) (ys.size-1);have nm:∀ j,j<ys.size->IW ys j∈i::is:=fun j hj=>by
  rw[<-e2];unfold IW;rw[B4 hj];simp only[E0,Option.getD_some];exact CZ.mpr ⟨ys[j],by simp,rfl⟩
 have nx:∀ x∈i::is,∃ j,j<ys.size/\IW ys j=x:=fun x hx=>by
  rw[<-e2]at hx;obtain⟨y,hy,rfl⟩:=CZ.mp hx;obtain⟨j,hj,ej⟩:=Array.mem_iff_getElem.mp (Array.mem_toList_iff.mp hy);refine⟨j,hj,?_⟩;unfold IW;rw[B4 hj,ej];rfl
 obtain⟨m1,m2⟩:=SH is i;have em:IW ys (argBest (fun i j=>decide (IW ys i<IW ys j)) (ys.size-1))=II i is:=by
  refine Int.le_antisymm ?_ (m2 _ (nm _ (by omega)))
  obtain⟨j,hj,ej⟩:=nx _ m1;rw[<-ej];exact h2 j (by omega)
 rw[em];exact⟨.int (II i is),H,I.kept hk,⟨_,rfl⟩,q⟩
theorem OB{K:Fg}{CL:ClA}{H:Hp}{A:Ak->Prop}:∀{es:Ac D}{is:Ac Ad}{ys:Ac V},Ic es=Ab is->Reps K CL H A ys es->ys=is.map V.int
 |[],_,[],h,_=>by cases h;rfl
 |[],_,_::_,_,r=>r.elim
 |_::_,_,[],_,r=>r.elim
 |e::es,is,y::ys,h,r=>by
  cases e with
  |int i=>
   have h':(Ic es).map (i :: ·)=Ab is:=h;cases e2:Ic es with
   |none=>rw[e2]at h';cases h'
   |some js=>
    rw[e2]at h';cases h';have ih:=OB e2 r.2;have e1:y=.int i:=r.1;rw[ih,e1];rfl
  |_=>cases h
theorem aG(ds:Ac D)(hl:∀ es,ds≠[.lst es]):(∃ i j,ds=[.int i,.int j])\/biD .min ds=.bad:=by
  match ds with
  |[.int i,.int j]=>exact .inl ⟨i,j,rfl⟩
  |[]=>exact .inr rfl
  |[x]=>cases x<;>first|exact .inr rfl|exact absurd rfl (hl _)
  |x::y::z::r=>cases x<;>cases y<;>exact .inr rfl
  |[x,.non]=>cases x<;>exact .inr rfl
  |[x,.bl _]=>cases x<;>exact .inr rfl
  |[x,.str _]=>cases x<;>exact .inr rfl
  |[x,.tup _]=>cases x<;>exact .inr rfl
  |[x,.lst _]=>cases x<;>exact .inr rfl
  |[x,.obj _ _]=>cases x<;>exact .inr rfl
  |[x,.exc _ _]=>cases x<;>exact .inr rfl
  |[x,.dic _]=>cases x<;>exact .inr rfl
  |[.non,.int _]=>exact .inr rfl
  |[.bl _,.int _]=>exact .inr rfl
  |[.str _,.int _]=>exact .inr rfl
  |[.tup _,.int _]=>exact .inr rfl
  |[.lst _,.int _]=>exact .inr rfl
  |[.obj _ _,.int _]=>exact .inr rfl
  |[.exc _ _,.int _]=>exact .inr rfl
  |[.dic _,.int _]=>exact .inr rfl
theorem sI(hc:X.calm=Aa):Jj X CL W (.builtin "min") (biD .min):=by
  intro A pI s σ H xs us Q I r ⟨hA,ds,rs,p⟩;by_cases hls:∃ es,ds=[.lst es]
  · obtain⟨es,rfl⟩:=hls;obtain⟨v,rfl,rv⟩:=rs.one;obtain⟨a,ys,rfl,sq,ry⟩:=rv.lst_of;have p':Bt (Rep X.K CL · A) W H (match Ic es with
      |some (i::is)=>R.ok (.int (II i is))
      | _=>.bad) Q:=p
    cases e1:Ic es with
    |none=>rw[e1]at p';exact p'.elim
    |some is=>
      cases is with
      |nil=>rw[e1]at p';exact p'.elim
      |cons i is=>
        rw[e1]at p';have ey:=OB e1 ry;subst ey;exact aQ hc pI s σ H _ us Q I r ⟨a,i,is,rfl,sq,p' _ H (AN.refl H) rfl⟩
  rcases aG ds (fun es z=>hls ⟨es,z⟩) with ⟨i,j,rfl⟩|e
  · obtain⟨v,w',rfl,rv,rw'⟩:=rs.two;have e1:=rv.int_of;have e2:=rw'.int_of
    subst e1 e2;exact aR hc pI s σ H _ us Q I r ⟨i,j,rfl,p _ H (AN.refl H) rfl⟩
  · rw[e]at p;exact p.elim
theorem dN:Jj X CL W (.type "tuple") (biD .tuple):=by
  intro A pI s σ H xs us Q I r ⟨hA,ds,rs,p⟩
  match ds,rs,p with
  |[.lst es],rs,p=>
    obtain⟨v,rfl,rv⟩:=rs.one;obtain⟨q,ys,rfl,sq,ry⟩:=rv.lst_of;exact RP pI s σ H _ us Q I r ⟨q,ys,rfl,.inl ⟨sq,fun l hl=>p _ _ (F3 hl _) (KQ hA hl ry)⟩⟩
  |[.tup es],rs,p=>
    obtain⟨v,rfl,rv⟩:=rs.one;obtain⟨q,ys,rfl,na,sq,ry⟩:=rv.tup_of;exact RP pI s σ H _ us Q I r ⟨q,ys,rfl,.inr ⟨sq,p _ H (AN.refl H) ⟨q,ys,rfl,na,sq,ry⟩⟩⟩
  |[],_,p=>exact p.elim
  |[.non],_,p=>exact p.elim
  |[.bl _],_,p=>exact p.elim
  |[.int _],_,p=>exact p.elim
  |[.str _],_,p=>exact p.elim
  |[.obj _ _],_,p=>exact p.elim
  |[.exc _ _],_,p=>exact p.elim
  |[.dic _],rs,p=>first|exact p.elim|(obtain⟨v,rfl,rv⟩:=rs.one;exact rv.plain.elim)
  |x::_::_,_,p=>cases x<;>exact p.elim
end
section
variable{X:Cx}{CL:ClA}{W:XW}{a b c:Ar}{fa fb fc:Rho->R D}{pos:A8}
theorem SB.congr{g:Rho->R Ap}(h:SB X CL W a f)(e:∀ ρ,g ρ=f ρ):SB X CL W a g:=fun A=>PT.weak (h A) fun σ H Q ⟨hA,ρ,q,p⟩=>⟨hA,ρ,q,by rw[<-e];exact p⟩
theorem nN(ha:SB X CL W a f):SB X CL W (.UnaryOp .Not a pos) (fun ρ=>(f ρ).bind fun b=>.ok (!b)):=fun A=>PT.weak (qM (ha A)) fun σ H Q ⟨hA,ρ,g,p⟩=>⟨hA,ρ,g,Dx.bindB p fun b H1 _ s1 p1=>p1 H1 (AN.refl H1)⟩
def SW(X:Cx)(CL:ClA)(W:XW)(e:Ar)(f:Rho->R Ap):Prop:=∀ A,PW X e (fun σ H Q=>AOk H A/\∃ ρ,Good X.K CL A ρ σ H/\Dx W H (f ρ) Q)
theorem PW.weak{t t':TT}(h:PW X e t)(k:∀ σ H Q,t' σ H Q->t σ H Q):PW X e t':=fun wh pI s σ H Q I q=>h wh pI s σ H Q I (k _ _ _ q)
theorem SW.sb(h:SW X CL W a f):SB X CL W a f:=fun A=>PW.pt (h A)
theorem SW.congr{g:Rho->R Ap}(h:SW X CL W a f)(e:∀ ρ,g ρ=f ρ):SW X CL W a g:=fun A=>PW.weak (h A) fun σ H Q ⟨hA,ρ,q,p⟩=>⟨hA,ρ,q,by rw[<-e];exact p⟩
theorem eQ(ha:SB X CL W a f):SW X CL W (.BoolOp .And [a] pos) f:=fun A=>iU (ha A)
theorem lQ(ha:SB X CL W a f):SW X CL W (.BoolOp .Or [a] pos) f:=fun A=>nH (ha A)
theorem lR{g:Rho->R Ap}{rest:Ac Ar}(ha:SB X CL W a f)(hb:SW X CL W (.BoolOp .And (b::rest) pos) g):SW X CL W (.BoolOp .And (a::b::rest) pos) (fun ρ=>(f ρ).bind fun c=>if c=Aa then g ρ else .ok Ae):=
 fun A=>PW.weak (nI (ha A) (hb A)) fun σ H Q ⟨hA,ρ,gd,p⟩=>⟨hA,ρ,gd,Dx.bindB p fun c H1 _ s1 p1=>by
  cases c with
  |true=>exact⟨hA.same s1,ρ,gd.same s1,p1⟩
  | false=>exact p1 H1 (AN.refl H1)⟩
theorem uP{g:Rho->R Ap}{rest:Ac Ar}(ha:SB X CL W a f)(hb:SW X CL W (.BoolOp .Or (b::rest) pos) g):SW X CL W (.BoolOp .Or (a::b::rest) pos) (fun ρ=>(f ρ).bind fun c=>if c=Aa then .ok Aa else g ρ):=
 fun A=>PW.weak (vW (ha A) (hb A)) fun σ H Q ⟨hA,ρ,gd,p⟩=>⟨hA,ρ,gd,Dx.bindB p fun c H1 _ s1 p1=>by
  cases c with
  |false=>exact⟨hA.same s1,ρ,gd.same s1,p1⟩
  | true=>exact p1 H1 (AN.refl H1)⟩
theorem nO(ho:OpD X CL W (C4 op) g)(ha:ST X CL W a fa)(hb:ST X CL W b fb)(hm:Hi op b=Ae):SB X CL W (.Compare a [op] [b] pos) (fun ρ=>(fa ρ).bind fun x=>(fb ρ).bind fun y=>(g x y).bind Ef):=
 fun A=>PT.weak (iY (ho A) (ha A) (hb A) hm) fun σ H Q ⟨hA,ρ,gd,p⟩=>⟨hA,ρ,gd,Dx.bind p fun dx x H1 _ s1 r1 p1=>⟨hA.same s1,ρ,gd.same s1,Dx.bind p1 fun dy y H2 _ s2 r2 p2=>
  ⟨(hA.same s1).same s2,dx,dy,r1.same s2,r2,Dx.bind p2 fun dz z H3 _ s3 r3 p3=>by
   cases dz with
   |bl k=>exact⟨k,r3,p3 H3 (AN.refl H3)⟩
   | _=>exact p3.elim⟩⟩⟩
theorem dJ{op':FH}(hu:X.A.units+64<Cf)(ha:ST X CL W a fa)(hb:ST X CL W b fb)(hc:ST X CL W c fc)(hm:Jz [op,op'] [b,c]=Ae):SB X CL W (.Compare a [op,op'] [b,c] pos) (fun ρ=>(fa ρ).bind fun x=>(fb ρ).bind fun y=>(Cr op x y).bind fun z=>(Ef z).bind fun k=>if k=Aa then (fc ρ).bind fun u=>(Cr op' y u).bind Ef else .ok Ae):=
  fun A=>PT.weak (bV (KP hu op A) (KP hu op' A) (ha A) (hb A) (hc A) hm) fun σ H Q ⟨hA,ρ,g,p⟩=>⟨hA,ρ,g,Dx.bind p fun dx x H1 _ s1 r1 p1=>⟨hA.same s1,ρ,g.same s1,Dx.bind p1 fun dy y H2 _ s2 r2 p2=>
    ⟨(hA.same s1).same s2,dx,dy,r1.same s2,r2,Dx.bind p2 fun dz z H3 _ s3 r3 p3=>by
      cases dz with
      |bl k=>
        refine⟨k,r3,?_⟩;cases k with
        |false=>exact⟨Ae,rfl,p3 H3 (AN.refl H3)⟩
        | true=>exact⟨((hA.same s1).same s2).same s3,ρ,((g.same s1).same s2).same s3,Dx.bind p3 fun du u H4 _ s4 r4 p5=>⟨(((hA.same s1).same s2).same s3).same s4,dy,du,(r2.same s3).same s4,r4,Dx.bind p5 fun dv v H5 _ s5 r5 p6=>by
            cases dv with
            |bl k'=>exact⟨k',r5,p6 H5 (AN.refl H5)⟩
            | _=>exact p6.elim⟩⟩
      | _=>exact p3.elim⟩⟩⟩
theorem nM(ha:ST X CL W a fa)(he:∀ whole,IN a X.env whole=(do let v <-whole;HA a.pos;holding [v] (truthy v))):SB X CL W a (fun ρ=>(fa ρ).bind CO):=
 fun A=>PT.weak (bU (ha A) he) fun σ H Q ⟨hA,ρ,g,p⟩=>⟨hA,ρ,g,Dx.bind p fun d v H1 _ s1 r1 p1=>by
  cases d with
  |non=>
   have e:=r1.non_of;subst e;exact⟨Ae,rfl,p1 H1 (AN.refl H1)⟩
  |bl b=>
   have e:=r1.bl_of;subst e;exact⟨b,rfl,p1 H1 (AN.refl H1)⟩
  |int i=>
   have e:=r1.int_of;subst e;exact⟨_,rfl,p1 H1 (AN.refl H1)⟩
  |str x=>
   have e:=r1.str_of;subst e;have p2:Dx W H1 (if DL x.length=Aa then .ok (x.length != 0) else .bad) Q:=p1
   split at p2
   ·rename_i h;refine⟨_,⟨IY h,rfl⟩,?_⟩;have e:((x.length:Ad) != 0)=(x.length != 0):=by
     rw[Cy];simp
    rw[e];exact p2 H1 (AN.refl H1)
   ·exact p2.elim
  |tup ds=>
   obtain⟨q,xs,rfl,_,sq,r⟩:=r1.tup_of;refine⟨_,.inr (.inl ⟨xs,sq,rfl⟩),?_⟩;have e:xs.isEmpty=ds.isEmpty:=by
    have:=r.length;cases xs<;>cases ds<;>first|rfl|cases this
   rw[e];exact p1 H1 (AN.refl H1)
  |lst ds=>
   obtain⟨q,xs,rfl,sq,r⟩:=r1.lst_of;refine⟨_,.inl ⟨xs,sq,rfl⟩,?_⟩;have e:xs.isEmpty=ds.isEmpty:=by
    have:=r.length;cases xs<;>cases ds<;>first|rfl|cases this
   rw[e];exact p1 H1 (AN.refl H1)
  | _=>exact p1.elim⟩
noncomputable def MA(K:Fg)(CL:ClA)(H:Hp)(A:Ak->Prop)(cls:Ai)(dx:Au Ak)(x:Ex):Prop:=
 ∃ C,CL x.c=Ab C/\cls=.ref C/\(x.fs=[]\/∃ d vs,dx=Ab d/\¬ A d/\H d=Ab (.xd vs)/\Repf K CL H A vs x.fs)
end
def CU(B:Ak->Prop)(ρ:Rho)(σ:L2.St):Ak->Prop:=fun a=>B a\/∃(j:Ag)(d:D),ρ[j]?=Ab (Ab (d,Aa))/\σ[j]?=Ab (Ab (.ref a))
structure Sx (K:Fg) (CL:ClA) (Fz:Ak->HO->Prop) (B:Ak->Prop) (ρ:Rho) (σ:L2.St) (H:Hp):Prop where
 good:Good K CL (CU B ρ σ) ρ σ H
 aok:AOk H (CU B ρ σ)
 new:∀(j:Ag)(d:D)(a:Ak),ρ[j]?=Ab (Ab (d,Aa))->σ[j]?=Ab (Ab (.ref a))->(∀ o,¬ Fz a o)/\¬ B a
 dis:∀(i j:Ag)(d e:D)(a:Ak),ρ[i]?=Ab (Ab (d,Aa))->ρ[j]?=Ab (Ab (e,Aa))->σ[i]?=Ab (Ab (.ref a))->σ[j]?=Ab (Ab (.ref a))->i=j
 same:∀ b o,Fz b o->H b=Ab o
 len:ρ.length=σ.length
def CN(K:Fg)(CL:ClA)(Fz:Ak->HO->Prop)(B:Ak->Prop)(W:XW)(o:O)(D:Ends):Prop:=match o with
  |.next ρ=>∀ σ H,Sx K CL Fz B ρ σ H->D.nx σ H
  |.brk ρ=>∀ σ H,Sx K CL Fz B ρ σ H->D.bk σ H
  |.cont ρ=>∀ σ H,Sx K CL Fz B ρ σ H->D.ct σ H
  |.ret d fr=>∀ v H,(∀ b o,Fz b o->H b=Ab o)->Rep K CL H B v d->(fr=Aa->∀ ds,d=.lst ds->∃ a xs,v=.ref a/\(∀ o,¬ Fz a o)/\H a=Ab (.lst xs)/\Reps K CL H (fun b=>B b\/b=a) xs ds)->D.rt v H
  |.exn x _=>∀ H,(∀ b o,Fz b o->H b=Ab o)->W x H
  |.bad=>BF
section
variable{K:Fg}{CL:ClA}{Fz Fy:Ak->HO->Prop}{B:Ak->Prop}{ρ:Rho}{σ:L2.St}{H H':Hp}
theorem Sx.mono(k:∀ b o,Fz b o->Fy b o)(x:Sx K CL Fy B ρ σ H):Sx K CL Fz B ρ σ H:=⟨x.good,x.aok,fun j d a h1 h2=>⟨fun o z=>(x.new j d a h1 h2).1 o (k _ _ z),(x.new j d a h1 h2).2⟩,x.dis,fun b o z=>x.same b o (k _ _ z),x.len⟩
theorem Sx.grow(x:Sx K CL Fz B ρ σ H)(s:AN H H'):Sx K CL Fz B ρ σ H':=⟨x.good.same s,x.aok.same s,x.new,x.dis,fun b o z=>s _ _ (x.same b o z),x.len⟩
theorem Dl{l:Ac α}{v:α}(h:i≠j):(l.set i v)[j]?=l[j]?:=by rw[Gs h]
theorem HS{l:Ac α}{v w':α}(h:(l.set i v)[i]?=Ab w'):w'=v:=by
 rw[FV]at h;cases e:l[i]? with
 |none=>rw[e]at h;cases h
 |some x=>rw[e]at h;cases h;rfl
theorem Sx.set(x:Sx K CL Fz B ρ σ H){v:V}{d:D}(i:Ag)(r:Rep K CL H (CU B ρ σ) v d):Sx K CL Fz B (ρ.set i (Ab (d,Ae))) (σ.set i (Ab v)) H:=by
 have own:∀(j:Ag)(e:D),(ρ.set i (Ab (d,Ae)))[j]?=Ab (Ab (e,Aa))->i≠j/\ρ[j]?=Ab (Ab (e,Aa)):=fun j e h=>by
  by_cases hj:i=j
  ·subst hj;have:=HS h;cases this
  ·exact⟨hj,by rw[Dl hj]at h;exact h⟩
 have sub:∀ a,CU B (ρ.set i (Ab (d,Ae))) (σ.set i (Ab v)) a->CU B ρ σ a:=fun a h=>by
  rcases h with h|⟨j,e,h1,h2⟩
  ·exact .inl h
  ·obtain⟨hj,h1⟩:=own j e h1;rw[Dl hj]at h2;exact .inr ⟨j,e,h1,h2⟩
 refine⟨⟨fun j e h=>?_,fun j e h=>?_,by rw[Bz,Bz];exact x.len⟩,fun a h=>x.aok a (sub a h),fun j e a h1 h2=>?_,fun j k e f a h1 h2 h3 h4=>?_,x.same,by rw[Bz,Bz];exact x.len⟩
 ·by_cases hj:i=j
  ·subst hj;have e1:=HS h;cases e1;refine⟨v,?_,Rep.sub sub _ r⟩;have hl:i<σ.length:=by
    rw[<-x.len];have:=(A6.mp h).1;simpa using this
   rw[Dt hl]
  ·rw[Dl hj]at h;obtain⟨w',q,rw'⟩:=x.good.sh j e h;exact⟨w',by rw[Dl hj];exact q,Rep.sub sub _ rw'⟩
 ·obtain⟨hj,h1⟩:=own j e h;obtain⟨a,xs,ds,q,z,ha,hh,rr⟩:=x.good.ow j e h1;exact⟨a,xs,ds,by rw[Dl hj];exact q,z,.inr ⟨j,e,h,by rw[Dl hj];exact q⟩,hh,Reps.sub sub _ rr⟩
 ·obtain⟨hj,h1⟩:=own j e h1;rw[Dl hj]at h2;exact x.new j e a h1 h2
 ·obtain⟨hj,h1⟩:=own j e h1;obtain⟨hk,h2⟩:=own k f h2;rw[Dl hj]at h3;rw[Dl hk]at h4;exact x.dis j k e f a h1 h2 h3 h4
end
section
variable{X:Cx}{CL:ClA}{W:XW}{pos:A8}{e:Ar}{fe:Rho->R D}
def SS(X:Cx)(CL:ClA)(W:XW)(st:Ca)(f:Rho->O):Prop:=∀ Fz B,PS X st (fun D σ H=>∃ ρ,Sx X.K CL Fz B ρ σ H/\CN X.K CL Fz B W (f ρ) D)
def SSs(X:Cx)(CL:ClA)(W:XW)(st:Ac Ca)(f:Rho->O):Prop:=∀ Fz B,PSs X st (fun D σ H=>∃ ρ,Sx X.K CL Fz B ρ σ H/\CN X.K CL Fz B W (f ρ) D)
theorem PS.weak{e:Ca}{t t':TS}(h:PS X e t)(k:∀ D σ H,t' D σ H->t D σ H):PS X e t':=fun pI s σ H D I q=>h pI s σ H D I (k _ _ _ q)
theorem PSs.weak{e:Ac Ca}{t t':TS}(h:PSs X e t)(k:∀ D σ H,t' D σ H->t D σ H):PSs X e t':=fun pI s σ H D I q=>h pI s σ H D I (k _ _ _ q)
theorem CN.ex{f:D->O}(x:Sx X.K CL Fz B ρ σ H)(h:CN X.K CL Fz B W (O.of ρ r f) D')(k:∀ d v H',r=.ok d->AN H H'->Rp H' v d->Sx X.K CL Fz B ρ σ H'->CN X.K CL Fz B W (f d) D'->Q v H'):Bt Rp W H r Q:=by
 cases r with
 |ok d=>exact fun v H' s r=>k d v H' rfl s r (x.grow s) h
 |exn y=>exact fun H' s=>h H' fun b o z=>s _ _ (x.same b o z)
 |bad=>exact h
theorem CN.exB{r:R Ap}{f:Ap->O}{Q:Ap->Hp->Prop}(x:Sx X.K CL Fz B ρ σ H)(h:CN X.K CL Fz B W (O.of ρ r f) D')(k:∀ b H',r=.ok b->AN H H'->Sx X.K CL Fz B ρ σ H'->CN X.K CL Fz B W (f b) D'->Q b H'):Dx W H r Q:=by
 cases r with
 |ok d=>exact fun H' s=>k d H' rfl s (x.grow s) h
 |exn y=>exact fun H' s=>h H' fun b o z=>s _ _ (x.same b o z)
 |bad=>exact h
theorem eZ(he:SE X CL W e fe)(hs:D6 e Af pos.line X.env=pure Ae):SS X CL W (.Expr e pos) (fun ρ=>O.of ρ (fe ρ) fun _=>.next ρ):=fun Fz B pI s σ H D I ⟨ρ,x,p⟩=>
 M9 (he (CU B ρ σ)) hs pI s σ H D I ⟨x.aok,ρ,x.good,CN.ex x p fun d v H' _ s r x' q=>q σ H' x'⟩
theorem eW(he:SE X CL W e fe):SS X CL W (.Return (Ab e) pos) (fun ρ=>O.of ρ (fe ρ) fun d=>.ret d Ae):=fun Fz B pI s σ H D I ⟨ρ,x,p⟩=>
 Qg (he (CU B ρ σ)) pI s σ H D I ⟨x.aok,ρ,x.good,CN.ex x p fun d v H' _ s r x' q=>q v H' x'.same (Rep.sub (fun a h=>.inl h) _ r) fun z=>nomatch z⟩
theorem uW{a b:Ac Ca}{fa fb:Rho->O}(hc:SB X CL W c fc)(ha:SSs X CL W a fa)(hb:SSs X CL W b fb):SS X CL W (.If c a b pos) (fun ρ=>O.of ρ (fc ρ) fun k=>if k=Aa then fa ρ else fb ρ):=fun Fz B pI s σ H D I ⟨ρ,x,p⟩=>
 vY (hc (CU B ρ σ)) (ha Fz B) (hb Fz B) pI s σ H D I ⟨x.aok,ρ,x.good,CN.exB x p fun k H' _ s x' q=>by
  cases k with
  |true=>exact⟨ρ,x',q⟩
  | false=>exact⟨ρ,x',q⟩⟩
theorem eU:SSs X CL W [] (fun ρ=>.next ρ):=fun Fz B=>PSs.weak iZ fun D σ H ⟨ρ,x,p⟩=>p σ H x
theorem dF{st:Ca}{rest:Ac Ca}{f g:Rho->O}(h1:SS X CL W st f)(h2:SSs X CL W rest g):SSs X CL W (st::rest) (fun ρ=>(f ρ).seq g):=fun Fz B=>PSs.weak (bW (h1 Fz B) (h2 Fz B)) fun D σ H ⟨ρ,x,p⟩=>⟨ρ,x,by
 dsimp only at p;cases e:f ρ with
 |next ρ'=>rw[e]at p;exact fun σ' H' x'=>⟨ρ',x',p⟩
 |ret d b=>rw[e]at p;exact p
 |brk ρ'=>rw[e]at p;exact p
 |cont ρ'=>rw[e]at p;exact p
 |exn y ρ'=>rw[e]at p;exact p
 | bad=>rw[e]at p;exact p⟩
end
def Jm(K:Fg)(CL:ClA)(A:Ak->Prop)(ds:Ac D)(J:It)(H1:Hp):Prop:=∀ H,Kp A H1 H->∀ i:Ag,(ds.length<=i->J.stop i H)/\∀ d,ds[i]?=Ab d->J.go i H/\∀ x H',J.yld i H x H'->AN H H'/\∀ B,(∀ a,B a->A a\/H1 a=Af)->AOk H B->Rep K CL H' B x d
def Fm(K:Fg)(CL:ClA)(A:Ak->Prop)(W:XW)(H:Hp)(r:R (Ac D))(Q:It->Hp->Prop):Prop:=match r with
  |.ok ds=>∀ J H',AN H H'->Jm K CL A ds J H'->ds.length<=sizeLine->Q J H'
  |.exn x=>∀ H',AN H H'->W x H'
  |.bad=>BF
def SI(X:Cx)(CL:ClA)(W:XW)(tg iter:Ar)(f:Rho->R (Ac D)):Prop:=∀ A,PI X tg iter (fun σ H R=>AOk H A/\∃ ρ,Good X.K CL A ρ σ H/\Fm X.K CL A W H (f ρ) R)
theorem PI.weak{t t':TI}(h:PI X tg e t)(k:∀ σ H Q,t' σ H Q->t σ H Q):PI X tg e t':=fun pI s σ H Q I q=>h pI s σ H Q I (k _ _ _ q)
section
variable{X:Cx}{CL:ClA}{W:XW}{pos p:A8}{tg e a b:Ar}{fe fa fb:Rho->R D}
theorem Fm.ex{f:D->R (Ac D)}{Q:It->Hp->Prop}{Q':VK}(h:Fm X.K CL A W H (r.bind f) Q)(k:∀ d v H',r=.ok d->AN H H'->Rp H' v d->Fm X.K CL A W H' (f d) Q->Q' v H'):Bt Rp W H r Q':=by
  cases r with
  | ok d=>exact fun v H' s q=>k d v H' rfl s q (by
      have h':Fm X.K CL A W H (f d) Q:=h;cases e:f d with
      |ok ds=>rw[e]at h';exact fun J H2 s2 y z=>h' J H2 (s.trans s2) y z
      |exn y=>rw[e]at h';exact fun H2 s2=>h' H2 (s.trans s2)
      | bad=>rw[e]at h';exact h')
  |exn y=>exact h
  |bad=>exact h
theorem LR{x:V}(r:Rep K CL H1 A x d)(k:Kp A H1 H)(hB:∀ a,B a->A a\/H1 a=Af):Rep K CL H B x d:=by
 have r1:Rep K CL H1 (fun a=>A a\/B a) x d:=Rep.wide (fun a ha=>ha.elim .inl (hB a)) _ r
 have r2:Rep K CL H (fun a=>A a\/B a) x d:=Rep.kp (fun b o e na=>k b o e fun z=>na (.inl z)) _ r1
 exact Rep.sub (fun a ha=>.inr ha) _ r2
theorem ZX{ds:Ac D}(na:¬ A q\/KL K q xs)(s:SqL K H q xs)(r:Reps K CL H A xs ds):Jm K CL A ds (Itl K q) H:=fun H' k i=>by
 have s':=Nh k na s;refine⟨fun h=>⟨xs,s',by rw[r.length];exact h⟩,fun d hd=>?_⟩
 obtain⟨v,hv,rv⟩:=r.get hd;exact⟨⟨xs,v,s',hv⟩,fun x H2 ⟨e,y⟩=>by
  subst e;have:=y xs s';rw[hv]at this;cases this;exact⟨AN.refl _,fun B hB _=>LR rv k hB⟩⟩
theorem cX{ds:Ac D}(na:¬ A q\/KT K q xs)(s:SqT K H q xs)(r:Reps K CL H A xs ds):Jm K CL A ds (Itt K q) H:=fun H' k i=>by
 have s':=Nr k na s;refine⟨fun h=>⟨xs,s',by rw[r.length];exact h⟩,fun d hd=>?_⟩
 obtain⟨v,hv,rv⟩:=r.get hd;exact⟨⟨xs,v,s',hv⟩,fun x H2 ⟨e,y⟩=>by
  subst e;have:=y xs s';rw[hv]at this;cases this;exact⟨AN.refl _,fun B hB _=>LR rv k hB⟩⟩
theorem TC(lo:Ad)(n:Ag):Jm K CL A (DB lo n) (Itr lo n) H:=fun H' k i=>by
 refine⟨fun h=>by rw[KC]at h;exact h,fun d hd=>?_⟩
 obtain⟨h1,rfl⟩:=Tv hd;exact⟨h1,fun x H2 ⟨e,y⟩=>by
  subst e y;exact⟨AN.refl _,fun _ _ _=>rfl⟩⟩
theorem qS{l:Ar}{tl:TE}(hl:PE X l tl):PI X tg l (fun σ H R=>tl σ H fun x H1=>(∃ a,x=.ref a/\(∃ xs,SqL X.K H1 a xs/\(xs.length<=sizeLine->R (Itl X.K a) H1)))\/∃ a,x=.ref a/\(∃ xs,SqT X.K H1 a xs/\(xs.length<=sizeLine->R (Itt X.K a) H1))):=by
 intro pI s σ H R I h;refine thn (hl pI s σ H _ I h) fun v s1 ⟨x,H1,I1,r1,q1⟩=>?_
 rcases q1 with ⟨a,e,xs,hq,q⟩|⟨a,e,xs,hq,q⟩
 ·subst e;cases r1;obtain⟨its,rv,p,hz⟩:=I1.list hq;refine Ek p.isList ?_;refine⟨s1.heap.objs.size,[s1.heap.objs.size],_,_,H1,rfl,I1.kept (t':=s1.toks) fun b o e=>Ao _ e,ZB a _,⟨_,Aw _ rfl,rfl,rfl⟩,fun b hb=>?_,q hz⟩
  have e:b=s1.heap.objs.size:=by simpa using hb
  subst e;exact I1.fpOk (AS _) (I1.hok.fresh (AS _))
 ·subst e;cases r1;obtain⟨its,rv,p,hz⟩:=I1.tuple hq;refine D7 (show s1.heap.IsTuple a its.toArray from p) ?_
  refine⟨s1.heap.objs.size,[s1.heap.objs.size],_,_,H1,rfl,I1.kept (t':=s1.toks) fun b o e=>Ao _ e,ZY a _,⟨_,Aw _ rfl,rfl,rfl⟩,fun b hb=>?_,q hz⟩
  have e:b=s1.heap.objs.size:=by simpa using hb
  subst e;exact I1.fpOk (AS _) (I1.hok.fresh (AS _))
theorem Y9(he:SE X CL W e fe):SI X CL W tg e (fun ρ=>(fe ρ).bind CI):=fun A=>PI.weak (qS (he A)) fun σ H R ⟨hA,ρ,g,p⟩=>⟨hA,ρ,g,Fm.ex p fun d v H1 _ s1 r1 p1=>by
 cases d with
 |lst ds=>
  obtain⟨q,xs,rfl,na,sq,r⟩:=r1;exact .inl ⟨q,rfl,xs,sq,fun hz=>p1 _ H1 (AN.refl H1) (ZX na sq r) (by rw[<-r.length];exact hz)⟩
 |tup ds=>
  obtain⟨q,xs,rfl,na,sq,r⟩:=r1;exact .inr ⟨q,rfl,xs,sq,fun hz=>p1 _ H1 (AN.refl H1) (cX na sq r) (by rw[<-r.length];exact hz)⟩
 | _=>exact p1.elim⟩
theorem O3{hi:Ad}{ds:Ac D}(h:DA lo hi=.ok ds):(-(2 ^ 62)<=lo/\lo<2 ^ 62)/\(-(2 ^ 62)<=hi/\hi<2 ^ 62)/\ds=DB lo (hi-lo).toNat/\(DB lo (hi-lo).toNat).length<=sizeLine:=by
 unfold DA at h;split at h
 ·rename_i q;cases h;exact⟨by omega,by omega,rfl,by rw[KC,CS];omega⟩
 ·cases h
theorem Oz{hi:Ad}{x:Ex}(h:DA lo hi=.exn x):BF:=by
 unfold DA at h;split at h<;>cases h
theorem oZ(ha:ST X CL W a fa)(hg:Gl X "range")(hm:X.mg "range" = Af)(hs:AG [a] X.env=[(Ae,eval a X.env)]):SI X CL W tg (.Call (.Name "range" p) [a] [] pos) (fun ρ=>(fa ρ).bind fun x=>(Fe x).bind fun j=>DA 0 j):=
 fun A=>PI.weak (aA hg hm (Fk (ha A) GW hs) hs) fun σ H R ⟨hA,ρ,g,q⟩=>⟨hA,ρ,g,Fm.ex q fun d v H1 _ s1 r1 p1=>by
  cases d with
  |int j=>
   have e:=r1.int_of;subst e;have p2:Fm X.K CL A W H1 (DA 0 j) R:=p1;cases e2:DA 0 j with
   |ok ds=>
    rw[e2]at p2;obtain⟨_,h2,rfl,hz⟩:=O3 e2;exact⟨j,rfl,h2.1,h2.2,p2 _ H1 (AN.refl H1) (by rw[WG];exact TC 0 j.toNat) hz⟩
   |exn y=>exact(Oz e2).elim
   |bad=>rw[e2]at p2;exact p2.elim
  | _=>exact p1.elim⟩
theorem fH(ha:ST X CL W a fa)(hb:ST X CL W b fb)(hg:Gl X "range")(hm:X.mg "range" = Af)(hs:AG [a,b] X.env=[(Ae,eval a X.env),(Ae,eval b X.env)])(hs2:AG [b] X.env=[(Ae,eval b X.env)]):
  SI X CL W tg (.Call (.Name "range" p) [a,b] [] pos) (fun ρ=>(fa ρ).bind fun x=>(fb ρ).bind fun y=>(Fe x).bind fun i=>(Fe y).bind fun j=>DA i j):=
 fun A=>PI.weak (Z9 hg hm (Fk (ha A) (Fk (hb A) GW hs2) (by rw[hs,hs2])) hs hs2) fun σ H R ⟨hA,ρ,g,q⟩=>⟨hA,ρ,g,Fm.ex q fun d v H1 _ s1 r1 p1=>⟨hA.same s1,ρ,g.same s1,Fm.ex p1 fun d2 v2 H2 _ s2 r2 p2=>by
  cases d with
  |int i=>
   cases d2 with
   |int j=>
    have e:=r1.int_of;have e':=r2.int_of
    subst e e';have p3:Fm X.K CL A W H2 (DA i j) R:=p2;cases e2:DA i j with
    |ok ds=>
     rw[e2]at p3;obtain⟨h1,h2,rfl,hz⟩:=O3 e2;exact⟨i,j,rfl,⟨h1.1,h1.2,h2.1,h2.2⟩,p3 _ H2 (AN.refl H2) (TC _ _) hz⟩
    |exn y=>exact(Oz e2).elim
    |bad=>rw[e2]at p3;exact p3.elim
   |_=>exact p2.elim
  | _=>exact p2.elim⟩⟩
theorem CN.exI{r:R (Ac D)}{f:Ac D->O}{Q:It->Hp->Prop}(x:Sx X.K CL Fz B ρ σ H)(h:CN X.K CL Fz B W (O.of ρ r f) D')(k:∀ ds J H',r=.ok ds->AN H H'->Jm X.K CL A ds J H'->ds.length<=sizeLine->Sx X.K CL Fz B ρ σ H'->CN X.K CL Fz B W (f ds) D'->Q J H'):Fm X.K CL A W H r Q:=by
 cases r with
 |ok d=>exact fun J H' s y z=>k d J H' rfl s y z (x.grow s) h
 |exn y=>exact fun H' s=>h H' fun b o z=>s _ _ (x.same b o z)
 |bad=>exact h
theorem CN.turn{Fy:Ak->HO->Prop}{o:O}{g:Rho->O}{N:L2.St->Hp->Prop}(hf:∀ b q,Fz b q->Fy b q)(h:CN K CL Fz B W (o.turn g) D')(k:∀ ρ' σ' H',Sx K CL Fy B ρ' σ' H'->CN K CL Fz B W (g ρ') D'->N σ' H'):CN K CL Fy B W o {D' with nx:=N,ct:=N,bk:=D'.nx}:=by
 cases o with
 |next ρ'=>exact fun σ' H' x=>k ρ' σ' H' x h
 |cont ρ'=>exact fun σ' H' x=>k ρ' σ' H' x h
 |brk ρ'=>exact fun σ' H' x=>h σ' H' (x.mono hf)
 |ret d b=>exact fun v H' s r n=>h v H' (fun b o z=>s b o (hf b o z)) r fun z ds e=>let ⟨a,xs,h1,h2,h3⟩:=n z ds e;⟨a,xs,h1,fun o q=>h2 o (hf a o q),h3⟩
 |exn y ρ'=>exact fun H' s=>h H' (fun b o z=>s b o (hf b o z))
 |bad=>exact h
noncomputable def FR(ts:Ac Ag)(ρ:Rho):Rho:=ts.foldl (fun ρ t=>ρ.set t Af) ρ
def GT(K:Fg)(CL:ClA)(as:D->Rho->R Rho)(g:TG):Prop:=∀ Fz B ρ σ H v d ρ' Q,Sx K CL Fz B ρ σ H->Rep K CL H (CU B ρ σ) v d->as d ρ=.ok ρ'->(∀ σ',Sx K CL Fz B ρ' σ' H->Q σ' H)->g v σ H Q
theorem kW(i:Ag):GT K CL (fun d ρ=>.ok (ρ.set i (Ab (d,Ae)))) (FA i):=fun Fz B ρ σ H v d ρ' Q x r e k=>by
 cases e;exact k _ (x.set i r)
theorem P0{K:Fg}{Fz:Ak->HO->Prop}{B:Ak->Prop}{H:Hp}:∀(ts:Ac Ag)(ds:Ac D)(vs:Ac V)(ρ ρ':Rho)(σ:L2.St)(Q:L2.St->Hp->Prop),Sx K CL Fz B ρ σ H->Reps K CL H (CU B ρ σ) vs ds->Fj ts ds ρ=Ab ρ'->(∀ σ',Sx K CL Fz B ρ' σ' H->Q σ' H)->(ts.foldr (fun t u=>H9 (FA t) u) Ie) vs σ H Q
 |[],[],[],ρ,ρ',σ,Q,x,_,e,k=>by
  cases e;exact⟨rfl,k σ x⟩
 |t::ts,d::ds,v::vs,ρ,ρ',σ,Q,x,r,e,k=>by
  refine⟨v,vs,rfl,P0 ts ds vs _ ρ' _ Q (x.set t r.1) (Reps.sub (fun a ha=>?_) ds r.2) e k⟩
  rcases ha with ha|⟨j,c,h1,h2⟩
  ·exact .inl ha
  ·by_cases hj:t=j
   ·subst hj;have:=HS h1;cases this
   ·rw[Dl hj]at h1 h2;exact .inr ⟨j,c,h1,h2⟩
 |[],_::_,_,_,_,_,_,_,_,e,_=>by cases e
 |_::_,[],_,_,_,_,_,_,_,e,_=>by cases e
 |[],[],_::_,_,_,_,_,_,r,_,_=>r.elim
 |_::_,_::_,[],_,_,_,_,_,r,_,_=>r.elim
theorem MP:∀(ts:Ac Ag)(ds:Ac D)(ρ ρ':Rho),Fj ts ds ρ=Ab ρ'->ds.length=ts.length
 |[],[],_,_,_=>rfl
 |_::ts,_::ds,_,_,e=>congrArg (· + 1) (MP ts ds _ _ e)
 |[],_::_,_,_,e=>by cases e
 |_::_,[],_,_,e=>by cases e
theorem Vb(ts:Ac Ag):GT K CL (GJ ts) (Lg K ts.length (ts.foldr (fun t u=>H9 (FA t) u) Ie)):=fun Fz B ρ σ H v d ρ' Q x r e k=>by
 cases d with
 |tup ds=>
  obtain⟨a,xs,rfl,na,sq,rs⟩:=r;rw[Sj]at e;cases e2:Fj ts ds ρ with
  |none=>rw[e2]at e;cases e
  |some ρ2=>
   rw[e2]at e;cases e;exact⟨a,xs,rfl,sq,by rw[rs.length];exact MP _ _ _ _ e2,P0 ts ds xs ρ _ σ Q x rs e2 k⟩
 |_=>cases e
theorem Vs{body:Ac Ca}{fbd:Rho->O}{g:TG}(hp:Gn (model X.prog X.w) X.A X.env X.xe)(hc:X.calm=Aa)(hGT:GT X.K CL as g)(hg:PG X tg g)(hit:SI X CL W tg iter fi)(hb:SSs X CL W body fbd)(hs:∀ x,Dr iter X.env x=pure x)(hax:∀ d ρ x,as d ρ≠.exn x):SS X CL W (.For tg iter body [] pos) (fun ρ=>O.of ρ (fi ρ) fun xs=>DW (fun x ρ'=>O.of ρ' (as x ρ') fbd) xs ρ):=fun Fz B pI s σ H D I ⟨ρ,x,p⟩=>by
 refine qO hp hc (hit (CU B ρ σ)) hg (tb:=fun D σ H=>∃ Fy,(fun D σ H=>∃ ρ,Sx X.K CL Fy B ρ σ H/\CN X.K CL Fy B W (fbd ρ) D) D σ H) (fun pI s σ H D I ⟨Fy,q⟩=>hb Fy B pI s σ H D I q) hs pI s σ H D I ⟨x.aok,ρ,x.good,CN.exI x p fun ds J H1 _ s1 y _ x1 q=>?_⟩
 let Fy:Ak->HO->Prop:=fun b o=>H1 b=Ab o/\¬ ∃(j:Ag)(d:Ov.D),ρ[j]?=Ab (Ab (d,Aa))/\σ[j]?=Ab (Ab (.ref b))
 have hfy:∀ b o,Fz b o->Fy b o:=fun b o z=>⟨x1.same b o z,fun ⟨j,d,h1,h2⟩=>(x1.new j d b h1 h2).1 o z⟩
 have xy:Sx X.K CL Fy B ρ σ H1:=⟨x1.good,x1.aok,fun j d a h1 h2=>⟨fun o z=>z.2 ⟨j,d,h1,h2⟩,(x1.new j d a h1 h2).2⟩,x1.dis,fun b o z=>z.1,x1.len⟩
 refine⟨fun k m σ' H'=>m=ds.length-k/\k<=ds.length/\∃ ρ',Sx X.K CL Fy B ρ' σ' H'/\CN X.K CL Fz B W (DW (fun x ρ'=>O.of ρ' (as x ρ') fbd) (ds.drop k) ρ') D,⟨ds.length,by simp,Di _,ρ,xy,q⟩,?_⟩
 rintro k m σ' H' ⟨rfl,hk,ρ',x',q'⟩;have kp:Kp (CU B ρ σ) H1 H':=fun b o e na=>x'.same b o ⟨e,fun z=>na (.inr z)⟩
 obtain⟨yst,ygo⟩:=y H' kp k;by_cases hlt:k<ds.length
 ·have hd:ds[k]?=Ab ds[k]:=AU hlt;obtain⟨hgo,hyl⟩:=ygo _ hd;refine .inr ⟨hgo,fun σ'' H''=>∃ ρ'',Sx X.K CL Fy B ρ'' σ'' H''/\CN X.K CL Fz B W (DW (fun x ρ'=>O.of ρ' (as x ρ') fbd) (ds.drop (k+1)) ρ'') D,fun σ'' H'' z=>⟨ds.length-(k+1),by omega,rfl,hlt,z⟩,fun v H2 hv=>?_⟩
  obtain⟨e2,rv⟩:=hyl v H2 hv;rw[FC hlt]at q';have q2:CN X.K CL Fz B W ((O.of ρ' (as ds[k] ρ') fbd).turn (DW (fun x ρ'=>O.of ρ' (as x ρ') fbd) (ds.drop (k+1)))) D:=q'
  have rv':Rep X.K CL H2 (CU B ρ' σ') v ds[k]:=rv _ (fun a ha=>by
    rcases ha with ha|⟨j,d,h1,h2⟩
    ·exact .inl (.inl ha)
    ·cases e:H1 a with
     |none=>exact .inr rfl
     |some o=>
      by_cases ho:∃(j:Ag)(d:Ov.D),ρ[j]?=Ab (Ab (d,Aa))/\σ[j]?=Ab (Ab (.ref a))
      ·exact .inl (.inr ho)
      ·exact absurd ⟨e,ho⟩ ((x'.new j d a h1 h2).1 o)) x'.aok
  cases ea:as ds[k] ρ' with
  |bad=>rw[ea]at q2;exact q2.elim
  |exn z=>exact absurd ea (hax _ _ z)
  |ok ρ2=>
   rw[ea,O.of_ok]at q2;exact hGT Fy B ρ' σ' H2 v ds[k] ρ2 _ (x'.grow e2) rv' ea fun σ3 x3=>⟨Fy,ρ2,x3,CN.turn hfy q2 fun ρ3 σ3 H3 x3 q3=>⟨ρ3,x3,q3⟩⟩
 ·have hk':ds.length<=k:=by omega
  rw[WL hk']at q';exact .inl ⟨yst hk',q' σ' H' (x'.mono hfy)⟩
end
section
variable{X:Cx}{CL:ClA}{W:XW}{a b c:Ar}{fa fb fc:Rho->R D}{pos:A8}
noncomputable def tyK:Ki->Au DM
 |.int=>Ab "int"
 |.bool=>Ab "bool"
 |.str=>Ab "str"
 |.list=>Ab "list"
 |.tuple=>Ab "tuple"
 |_=>Af
noncomputable def P6:D->Ap
 |.obj _ _=>Ae
 |.exc _ _=>Ae
 |.dic _=>Ae
 |_=>Aa
theorem pO{k:Ki}{Q:Vq}{E:Vq}(I:Inv X pI σ H s)(r:C7 X.K CL H A v d)(q:BZ v u)(hT:tyK k=Ab T)(hd:P6 d=Aa)(h:∀ s',Inv X pI σ H s'->Q (.bool (kiD up k d)) s'):
  Ax (model X.prog X.w) X.A (call (.builtin "isinstance") [u,.type T]) Q E s:=by
 have r':=r.plain;have it:=fun t=>h _ (I.tok t)
 cases d with
 |obj=>cases hd
 |exc=>cases hd
 |dic=>cases hd
 |non=>
  cases r';cases q;cases k<;>simp only[tyK]at hT<;>cases hT
  ·exact IsiPair.NoneType_int (it _)
  ·exact IsiPair.NoneType_bool (it _)
  ·exact IsiPair.NoneType_str (it _)
  ·exact IsiPair.NoneType_list (it _)
  ·exact IsiPair.NoneType_tuple (it _)
 |bl b=>
  cases r';cases q;cases k<;>simp only[tyK]at hT<;>cases hT
  ·exact IsiPair.bool_int (h _ I)
  ·exact IsiPair.bool_bool (h _ I)
  ·exact IsiPair.bool_str (it _)
  ·exact IsiPair.bool_list (it _)
  ·exact IsiPair.bool_tuple (it _)
 |int i=>
  cases r';obtain⟨t,rfl⟩:=q;cases k<;>simp only[tyK]at hT<;>cases hT
  ·exact IsiPair.int_int (h _ I)
  ·exact IsiPair.int_bool (it _)
  ·exact IsiPair.int_str (it _)
  ·exact IsiPair.int_list (it _)
  ·exact IsiPair.int_tuple (it _)
 |str x=>
  cases r';obtain⟨t,rfl⟩:=q;cases k<;>simp only[tyK]at hT<;>cases hT
  ·exact IsiPair.str_int (it _)
  ·exact IsiPair.str_bool (it _)
  ·exact IsiPair.str_str (h _ I)
  ·exact IsiPair.str_list (it _)
  ·exact IsiPair.str_tuple (it _)
 |tup ds=>
  obtain⟨p,xs,rfl,_,sq,rr⟩:=r';obtain⟨its,rv,pt,_⟩:=I.tuple sq;cases q;have pt':s.heap.IsTuple p its.toArray:=pt;cases k<;>simp only[tyK]at hT<;>cases hT
  ·exact IsiPair.isTuple_int pt' (fun _ _ e=>e) (it _)
  ·exact IsiPair.isTuple_bool pt' (fun _ _ e=>e) (it _)
  ·exact IsiPair.isTuple_str pt' (fun _ _ e=>e) (it _)
  ·exact IsiPair.isTuple_list pt' (fun _ _ e=>e) (it _)
  ·exact IsiPair.isTuple_tuple pt' (fun _ _ e=>e) (h _ I)
 |lst ds=>
  obtain⟨p,xs,rfl,_,sq,rr⟩:=r';obtain⟨its,rv,pl,_⟩:=I.list sq;cases q;have pt':s.heap.IsList p its.toArray:=IB pl;cases k<;>simp only[tyK]at hT<;>cases hT
  ·exact IsiPair.isList_int pt' (fun _ _ e=>e) (it _)
  ·exact IsiPair.isList_bool pt' (fun _ _ e=>e) (it _)
  ·exact IsiPair.isList_str pt' (fun _ _ e=>e) (it _)
  ·exact IsiPair.isList_list pt' (fun _ _ e=>e) (h _ I)
  ·exact IsiPair.isList_tuple pt' (fun _ _ e=>e) (it _)
theorem aI{k:Ki}(hT:tyK k=Ab T)(p:Bt Rp W H (Ge up [k] d) Q):P6 d=Aa/\Bt Rp W H (.ok (.bl (kiD up k d))) Q:=by
 cases k<;>simp only[tyK]at hT<;>cases hT<;>cases d<;>first|exact p.elim|exact⟨rfl,by simpa using p⟩
theorem pK{k:Ki}(hT:tyK k=Ab T)(hg:Gl X "isinstance")(hm:X.mg "isinstance" = Af)(hg2:Gl X x)(hm2:X.mg x=Af)(hv:Dh x=Ab (.type T))(hn:x≠"__name__")(hdb:(x==("__debug__" : Al))=Ae)(ha:ST X CL W a fa)(he:AG [a,.Name x p2] X.env=(Ae,eval a X.env)::AG [.Name x p2] X.env):SE X CL W (.Call (.Name "isinstance" p) [a,.Name x p2] [] pos) (fun ρ=>(fa ρ).bind fun x=>Ge up [k] x):=fun A=>
 PE.weak (O8 (r:=fun xs H Q=>∃ y d,xs=[y,.ty T]/\C7 X.K CL H A y d/\P6 d=Aa/\Q (.bl (kiD up k d)) H) (fun pI s σ H xs us Q I r ⟨y,d,e,ry,hd,q⟩=>by
   subst e;obtain⟨u,w',rfl,r1,r2⟩:=Qx r;cases r2;exact pO I ry r1 hT hd fun s' I'=>⟨.bl _,H,I',rfl,q⟩)
  hg hm boot_isinstance (Fk (ha A) (Fk (gO (v:=.ty T) hg2 hm2 hv rfl hn hdb) GW rfl) he) (by decide) (by decide) he rfl) fun σ H Q ⟨hA,ρ,g,q⟩=>⟨hA,ρ,g,Bt.bind q fun d v H1 _ s1 r1 p1=>by
   obtain⟨hd,p2⟩:=aI hT p1;exact⟨v,d,rfl,r1,hd,p2 _ H1 (AN.refl H1) rfl⟩⟩
theorem Ps{b:Ap}{A':Bv}{E:Vq}{Q:Ap->Aq->Prop}(r:Rep X.K CL H A v d)(q:BZ v u)(h:EQ d=.ok b)(hq:Q b s):Ax (model prog w) A' (truthy u) Q E s:=by
 cases d with
 |non=>
  cases r;cases q;cases h;exact truthy_none hq
 |bl k=>
  cases r;cases q;cases h;exact Ct hq
 |int i=>
  cases r;obtain⟨t,rfl⟩:=q;cases h;exact truthy_int hq
 |_=>cases h
theorem RU:∀{ds:Ac D}{b:Ap},Hr ds=.ok b->(∀ j,j<ds.length->∃ c,EQ (ds.getD j .non)=.ok c)/\b=(Bl ds.length).all fun j=>match EQ (ds.getD j .non) with
  |.ok c=>c
  |_=>Ae
 |[],b,h=>by cases h;exact⟨fun j hj=>absurd hj (FE _),rfl⟩
 |d::ds,b,h=>by
  rw[OK]at h;cases e:EQ d with
  |bad=>rw[e]at h;cases h
  |exn x=>rw[e]at h;cases h
  |ok c=>
   rw[e,R.bind_ok]at h;cases e2:Hr ds with
   |bad=>rw[e2]at h;cases h
   |exn x=>rw[e2]at h;cases h
   |ok c2=>
    rw[e2,R.bind_ok]at h;cases h;obtain⟨h1,h2⟩:=RU e2;refine⟨fun j hj=>?_,?_⟩
    ·cases j with
     |zero=>exact⟨c,e⟩
     |succ j=>exact h1 j (by simpa using hj)
    ·rw[Cp,RO,h2];show (c&&_)=((match EQ d with | .ok c=>c|_=>Ae)&&_)
     rw[e];rfl
theorem RT:∀{ds:Ac D}{b:Ap},F4 ds=.ok b->(∀ j,j<ds.length->∃ c,EQ (ds.getD j .non)=.ok c)/\b=(Bl ds.length).any fun j=>match EQ (ds.getD j .non) with
  |.ok c=>c
  |_=>Ae
 |[],b,h=>by cases h;exact⟨fun j hj=>absurd hj (FE _),rfl⟩
 |d::ds,b,h=>by
  rw[Sn]at h;cases e:EQ d with
  |bad=>rw[e]at h;cases h
  |exn x=>rw[e]at h;cases h
  |ok c=>
   rw[e,R.bind_ok]at h;cases e2:F4 ds with
   |bad=>rw[e2]at h;cases h
   |exn x=>rw[e2]at h;cases h
   |ok c2=>
    rw[e2,R.bind_ok]at h;cases h;obtain⟨h1,h2⟩:=RT e2;refine⟨fun j hj=>?_,?_⟩
    ·cases j with
     |zero=>exact⟨c,e⟩
     |succ j=>exact h1 j (by simpa using hj)
    ·rw[Cp,W5,WI,List.any_map,h2];show (c||_)=((match EQ d with | .ok c=>c|_=>Ae)||_)
     rw[e];rfl
theorem TH:∀(ds:Ac D)(a z:Ad),Ig a ds=.ok z->(∀ j,j<ds.length->∃ i,ds.getD j .non=.int i)/\z=a+JA (fun j=>match ds.getD j .non with
  |.int i=>i
  | _=>0) ds.length
 |[],a,z,h=>by cases h;exact⟨fun j hj=>absurd hj (FE _),by simp[JA]⟩
 |.int i::ds,a,z,h=>by
  obtain⟨h1,h2⟩:=TH ds (a+i) z h;refine⟨fun j hj=>?_,?_⟩
  ·cases j with
   |zero=>exact⟨i,rfl⟩
   |succ j=>exact h1 j (by simpa using hj)
  ·have key:∀ n,JA (fun j=>match (D.int i::ds).getD j .non with | .int i=>i|_=>0) (n+1)=i+JA (fun j=>match ds.getD j .non with | .int i=>i|_=>0) n:=by
    intro n
    induction n with
    |zero=>show (0:Ad)+i=i+0;omega
    |succ n ih=>
     show JA _ (n+1)+(match ds.getD n .non with | .int i=>i|_=>0)=i+(JA _ n+(match ds.getD n .non with | .int i=>i|_=>0))
     rw[ih];omega
   rw[h2,Cp,key];omega
 |.non::_,_,_,h=>by cases h
 |.bl _::_,_,_,h=>by cases h
 |.str _::_,_,_,h=>by cases h
 |.tup _::_,_,_,h=>by cases h
 |.lst _::_,_,_,h=>by cases h
 |.obj _ _::_,_,_,h=>by cases h
 |.exc _ _::_,_,_,h=>by cases h
 |.dic _::_,_,_,h=>by cases h
theorem L9{ds:Ac D}{its:Ac Ai}(r:Reps X.K CL H A0 xs ds)(rv:Bq xs its){v:Ai}(h:its.toArray[j]?=Ab v):j<ds.length/\∃ x,Rep X.K CL H A0 x (ds.getD j .non)/\BZ x v:=by
 have h':its[j]?=Ab v:=by simpa using h
 obtain⟨hj,e⟩:=A6.mp h';obtain⟨x,rx,q⟩:=J5 r rv hj;have l1:=rv.length;have l2:=r.length
 exact⟨by omega,x,rx,by rw[<-e];exact q⟩
theorem Mr(k:∀ b q,b∉[h.objs.size]->(h.push o).get? b=Ab q->h'.get? b=Ab q):∀ b q,h.get? b=Ab q->h'.get? b=Ab q:=fun b q e=>k b q (by
 intro z;have:=BK.mp z;rw[this]at e;exact absurd (AC e) (Bw _)) (Ao _ e)
theorem sL(hc:X.calm=Aa):Jj X CL W (.builtin "all") (biD .all):=by
  intro A pI s σ H xs us Q I r ⟨hA,ds,rs,p⟩
  match ds,rs,p with
  |[.lst es],rs,p=>
    obtain⟨v,rfl,rv⟩:=rs.one;obtain⟨q,ys,e,_,sq,ry⟩:=rv.plain;subst e;obtain⟨u,rfl,ru⟩:=Ia r;cases ru;rw[yI]at p;cases e1:Hr es with
    |bad=>rw[e1]at p;exact p.elim
    |exn x=>
      exfalso
      have:∀(es:Ac D) x,Hr es≠.exn x:=by
        intro es
        induction es with
        |nil=>intro x h;cases h
        |cons d ds ih=>
          intro x h;rw[OK]at h;cases e:EQ d with
          |bad=>rw[e]at h;cases h
          |exn y=>cases d<;>cases e
          |ok c=>
            rw[e,R.bind_ok]at h;cases e2:Hr ds with
            |bad=>rw[e2]at h;cases h
            |exn y=>exact ih y e2
            |ok c2=>rw[e2]at h;cases h
      exact this es x e1
    |ok b=>
      rw[e1,R.bind_ok]at p;obtain⟨h1,h2⟩:=RU e1;obtain⟨its,rvv,pl,_⟩:=I.list sq;have hlt:q<s.heap.objs.size:=by obtain⟨o,n,e,_⟩:=pl;exact AC e
      have hl:its.toArray.size=es.length:=by rw[AE,<-rvv.length,ry.length]
      refine call_all_walk (Ek (IB pl) ⟨s.heap.objs.size,_,_,_,_,_,(fun j=>match EQ (es.getD j .non) with | .ok c=>c|_=>Ae),rfl,Ks (A:=X.A.in1) (I.ok.hd hc) s.heap.objs.size q (AT hlt) its.toArray,⟨⟨_,Aw _ rfl,rfl,rfl⟩,(IB pl).push _⟩,fun j v s' Q' E' hv hQ=>?_,fun h' tk k=>?_⟩)
      · obtain⟨hj,x,rx,qx⟩:=L9 ry rvv hv;obtain⟨c,ec⟩:=h1 j hj;exact Ps rx qx ec (by dsimp only at hQ;rw[ec]at hQ;exact hQ)
      · rw[hl,<-h2];exact⟨.bl b,H,I.kept (Mr k),rfl,p _ H (AN.refl H) rfl⟩
  |[],_,p=>exact p.elim
  |[.non],_,p=>exact p.elim
  |[.bl _],_,p=>exact p.elim
  |[.int _],_,p=>exact p.elim
  |[.str _],_,p=>exact p.elim
  |[.tup _],_,p=>exact p.elim
  |[.obj _ _],_,p=>exact p.elim
  |[.exc _ _],_,p=>exact p.elim
  |[.dic _],_,p=>exact p.elim
  |x::_::_,_,p=>cases x<;>exact p.elim
theorem Uv(hc:X.calm=Aa){ys:Ac V}{es:Ac D}(I:Inv X pI σ H s)(sq:SqL X.K H q ys\/SqT X.K H q ys)(ry:Reps X.K CL H A0 ys es)(p:Bt (fun H=>Rep X.K CL H A) W H ((F4 es).bind fun b=>.ok (.bl b)) Q):Ax (model X.prog X.w) X.A (call (.builtin "any") [.ref q]) (EP X pI σ Q) X.xe s:=by
 cases e1:F4 es with
 |bad=>rw[e1]at p;exact p.elim
 |exn x=>
  exfalso
  clear p
  have:∀(es:Ac D) x,F4 es≠.exn x:=by
   intro es
   induction es with
   |nil=>intro x h;cases h
   |cons d ds ih=>
    intro x h;rw[Sn]at h;cases e:EQ d with
    |bad=>rw[e]at h;cases h
    |exn y=>cases d<;>cases e
    |ok c=>
     rw[e,R.bind_ok]at h;cases e2:F4 ds with
     |bad=>rw[e2]at h;cases h
     |exn y=>exact ih y e2
     |ok c2=>rw[e2]at h;cases h
  exact this es x e1
 |ok b=>
  rw[e1,R.bind_ok]at p;obtain⟨h1,h2⟩:=RT e1;rcases sq with sq|sq
  ·obtain⟨its,rvv,pl,_⟩:=I.list sq;have hlt:q<s.heap.objs.size:=by obtain⟨o,n,e,_⟩:=pl;exact AC e
   have hl:its.toArray.size=es.length:=by rw[AE,<-rvv.length,ry.length]
   refine call_any_walk (Ek (IB pl) ⟨s.heap.objs.size,_,_,_,_,_,(fun j=>match EQ (es.getD j .non) with | .ok c=>c|_=>Ae),rfl,Ks (A:=X.A.in1) (I.ok.hd hc) s.heap.objs.size q (AT hlt) its.toArray,⟨⟨_,Aw _ rfl,rfl,rfl⟩,(IB pl).push _⟩,fun j v s' Q' E' hv hQ=>?_,fun h' tk k=>?_⟩)
   ·obtain⟨hj,x,rx,qx⟩:=L9 ry rvv hv;obtain⟨c,ec⟩:=h1 j hj;exact Ps rx qx ec (by dsimp only at hQ;rw[ec]at hQ;exact hQ)
   ·rw[hl,<-h2];exact⟨.bl b,H,I.kept (Mr k),rfl,p _ H (AN.refl H) rfl⟩
  ·obtain⟨its,rvv,pl,_⟩:=I.tuple sq;have pl':s.heap.IsTuple q its.toArray:=pl;have hlt:q<s.heap.objs.size:=by obtain⟨o,e,_⟩:=pl';exact AC e
   have hl:its.toArray.size=es.length:=by rw[AE,<-rvv.length,ry.length]
   refine call_any_walk (D7 pl' ⟨s.heap.objs.size,_,_,_,_,_,(fun j=>match EQ (es.getD j .non) with | .ok c=>c|_=>Ae),rfl,Iw (A:=X.A.in1) (I.ok.hd hc) s.heap.objs.size q (AT hlt) its.toArray,⟨⟨_,Aw _ rfl,rfl,rfl⟩,pl'.push _⟩,fun j v s' Q' E' hv hQ=>?_,fun h' tk k=>?_⟩)
   ·obtain⟨hj,x,rx,qx⟩:=L9 ry rvv hv;obtain⟨c,ec⟩:=h1 j hj;exact Ps rx qx ec (by dsimp only at hQ;rw[ec]at hQ;exact hQ)
   ·rw[hl,<-h2];exact⟨.bl b,H,I.kept (Mr k),rfl,p _ H (AN.refl H) rfl⟩
theorem sK(hc:X.calm=Aa):Jj X CL W (.builtin "any") (biD .any):=by
  intro A pI s σ H xs us Q I r ⟨hA,ds,rs,p⟩
  match ds,rs,p with
  |[.lst es],rs,p=>
    obtain⟨v,rfl,rv⟩:=rs.one;obtain⟨q,ys,e,_,sq,ry⟩:=rv.plain;subst e;obtain⟨u,rfl,ru⟩:=Ia r;cases ru;exact Uv hc I (.inl sq) ry p
  |[.tup es],rs,p=>
    obtain⟨v,rfl,rv⟩:=rs.one;obtain⟨q,ys,e,_,sq,ry⟩:=rv.plain;subst e;obtain⟨u,rfl,ru⟩:=Ia r;cases ru;exact Uv hc I (.inr sq) ry p
  |[],_,p=>exact p.elim
  |[.non],_,p=>exact p.elim
  |[.bl _],_,p=>exact p.elim
  |[.int _],_,p=>exact p.elim
  |[.str _],_,p=>exact p.elim
  |[.obj _ _],_,p=>exact p.elim
  |[.exc _ _],_,p=>exact p.elim
  |[.dic _],_,p=>exact p.elim
  |x::_::_,_,p=>cases x<;>exact p.elim
theorem Uf(hc:X.calm=Aa){ys:Ac V}{es:Ac D}(I:Inv X pI σ H s)(sq:SqL X.K H q ys\/SqT X.K H q ys)(ry:Reps X.K CL H A0 ys es)(p:Bt (fun H=>Rep X.K CL H A) W H ((Ig 0 es).bind fun b=>.ok (.int b)) Q):Ax (model X.prog X.w) X.A (call (.builtin "sum") [.ref q]) (EP X pI σ Q) X.xe s:=by
 cases e1:Ig 0 es with
 |bad=>rw[e1]at p;exact p.elim
 |exn x=>
  exfalso
  have:∀(es:Ac D)(a:Ad) x,Ig a es≠.exn x:=by
   intro es
   induction es with
   |nil=>intro a x h;cases h
   |cons d ds ih=>
    intro a x h;cases d<;>first|exact ih _ _ h|cases h
  exact this es 0 x e1
 |ok z=>
  rw[e1,R.bind_ok]at p;obtain⟨h1,h2⟩:=TH es 0 z e1;rw[FJ]at h2;rcases sq with sq|sq
  ·obtain⟨its,rvv,pl,_⟩:=I.list sq;have hlt:q<s.heap.objs.size:=by obtain⟨o,n,e,_⟩:=pl;exact AC e
   have hl:its.toArray.size=es.length:=by rw[AE,<-rvv.length,ry.length]
   refine Yg (Ek (IB pl) ⟨s.heap.objs.size,_,_,_,_,_,(fun j=>match es.getD j .non with | .int i=>i|_=>0),rfl,Ks (A:=X.A.in1) (I.ok.hd hc) s.heap.objs.size q (AT hlt) its.toArray,⟨⟨_,Aw _ rfl,rfl,rfl⟩,(IB pl).push _⟩,fun b hb=>?_,fun j v hv=>?_,fun h' tk t' k=>?_⟩)
   ·show b<(s.heap.push _).objs.size;rw[Bi];rcases Ay.mp hb with rfl|hb
    ·exact EB _
    ·rw[BK.mp hb];exact C3 hlt
   ·obtain⟨hj,x,rx,qx⟩:=L9 ry rvv hv;obtain⟨i,ei⟩:=h1 j hj;rw[ei]at rx;dsimp only;rw[ei];cases rx;exact qx
   ·rw[hl,<-h2];exact⟨.int z,H,I.kept (Mr k),⟨_,rfl⟩,p _ H (AN.refl H) rfl⟩
  ·obtain⟨its,rvv,pl,_⟩:=I.tuple sq;have pl':s.heap.IsTuple q its.toArray:=pl;have hlt:q<s.heap.objs.size:=by obtain⟨o,e,_⟩:=pl';exact AC e
   have hl:its.toArray.size=es.length:=by rw[AE,<-rvv.length,ry.length]
   refine Yg (D7 pl' ⟨s.heap.objs.size,_,_,_,_,_,(fun j=>match es.getD j .non with | .int i=>i|_=>0),rfl,Iw (A:=X.A.in1) (I.ok.hd hc) s.heap.objs.size q (AT hlt) its.toArray,⟨⟨_,Aw _ rfl,rfl,rfl⟩,pl'.push _⟩,fun b hb=>?_,fun j v hv=>?_,fun h' tk t' k=>?_⟩)
   ·show b<(s.heap.push _).objs.size;rw[Bi];rcases Ay.mp hb with rfl|hb
    ·exact EB _
    ·rw[BK.mp hb];exact C3 hlt
   ·obtain⟨hj,x,rx,qx⟩:=L9 ry rvv hv;obtain⟨i,ei⟩:=h1 j hj;rw[ei]at rx;dsimp only;rw[ei];cases rx;exact qx
   ·rw[hl,<-h2];exact⟨.int z,H,I.kept (Mr k),⟨_,rfl⟩,p _ H (AN.refl H) rfl⟩
theorem sH(hc:X.calm=Aa):Jj X CL W (.builtin "sum") (biD .sum):=by
  intro A pI s σ H xs us Q I r ⟨hA,ds,rs,p⟩
  match ds,rs,p with
  |[.lst es],rs,p=>
    obtain⟨v,rfl,rv⟩:=rs.one;obtain⟨q,ys,e,_,sq,ry⟩:=rv.plain;subst e;obtain⟨u,rfl,ru⟩:=Ia r;cases ru;exact Uf hc I (.inl sq) ry p
  |[.tup es],rs,p=>
    obtain⟨v,rfl,rv⟩:=rs.one;obtain⟨q,ys,e,_,sq,ry⟩:=rv.plain;subst e;obtain⟨u,rfl,ru⟩:=Ia r;cases ru;exact Uf hc I (.inr sq) ry p
  |[],_,p=>exact p.elim
  |[.non],_,p=>exact p.elim
  |[.bl _],_,p=>exact p.elim
  |[.int _],_,p=>exact p.elim
  |[.str _],_,p=>exact p.elim
  |[.obj _ _],_,p=>exact p.elim
  |[.exc _ _],_,p=>exact p.elim
  |[.dic _],_,p=>exact p.elim
  |x::_::_,_,p=>cases x<;>exact p.elim
end
section
variable(K:Fg)(CL:ClA)
def yO(H0:Hp)(A:Ak->Prop)(H:Hp)(v:V)(d:D):Prop:=∀ ds,d=.lst ds->∃ a xs,v=.ref a/\H0 a=Af/\H a=Ab (.lst xs)/\Reps K CL H (fun b=>A b\/b=a) xs ds
def Ew(fr:Ap)(H0:Hp)(A:Ak->Prop)(H:Hp)(v:V)(d:D):Prop:=Rep K CL H A v d/\(fr=Aa->yO K CL H0 A H v d)
end
section
variable{X:Cx}{CL:ClA}{W:XW}{a b c:Ar}{fa fb fc:Rho->R D}{pos:A8}
def SC(X:Cx)(CL:ClA)(W:XW)(fr:Ap)(e:Ar)(f:Rho->R D):Prop:=∀ A,PE X e (fun σ H Q=>AOk H A/\∃ ρ,Good X.K CL A ρ σ H/\Bt (Ew X.K CL fr H A) W H (f ρ) Q)
theorem SC.se{fr:Ap}(h:SC X CL W fr a fa):SE X CL W a fa:=fun A=>PE.weak (h A) fun σ H Q ⟨hA,ρ,g,p⟩=>⟨hA,ρ,g,by
 cases e:fa ρ with
 |ok d=>rw[e]at p;exact fun v H' s r=>p v H' s r.1
 |exn x=>rw[e]at p;exact p
 | bad=>rw[e]at p;exact p⟩
theorem SE.sc(h:SE X CL W a fa):SC X CL W Ae a fa:=fun A=>PE.weak (h A) fun σ H Q ⟨hA,ρ,g,p⟩=>⟨hA,ρ,g,by
 cases e:fa ρ with
 |ok d=>rw[e]at p;exact fun v H' s r=>p v H' s ⟨r,fun z=>nomatch z⟩
 |exn x=>rw[e]at p;exact p
 | bad=>rw[e]at p;exact p⟩
theorem SC.congr{fr:Ap}{f g:Rho->R D}(h:SC X CL W fr a f)(e:∀ ρ,g ρ=f ρ):SC X CL W fr a g:=fun A=>PE.weak (h A) fun σ H Q ⟨hA,ρ,q,p⟩=>⟨hA,ρ,q,by rw[<-e];exact p⟩
theorem JC{p:Ak}{ds:Ac D}(s:AN H0 H)(hA:AOk H A)(hp:H p=Af)(r:Reps K CL H A xs ds):Ew K CL Aa H0 A (upd H p (.lst xs)) (.ref p) (.lst ds):=
 ⟨T9 hA hp r,fun _ ds' e=>by
  cases e;exact⟨p,xs,rfl,s.free hp,HQ,(Reps.wide (fun a ha=>ha.imp id fun e=>by rw[e];exact hp) _ r).same (F3 hp _)⟩⟩
theorem Ul{fr:Ap}(r:Rep K CL H A v d)(h:∀ ds,d≠.lst ds):Ew K CL fr H0 A H v d:=⟨r,fun _ ds e=>absurd e (h ds)⟩
theorem oR(hs:SA X CL W es fs)(hz:∀ ρ ds,fs ρ=.ok ds->ds.length<=100000):SC X CL W Aa (.List es pos) (fun ρ=>(fs ρ).bind fun xs=>.ok (.lst xs)):=
 fun A=>PE.weak (qZ (hs A)) fun σ H Q ⟨hA,ρ,g,p⟩=>⟨hA,ρ,g,Hs.bind p fun ds vs H1 e s1 r1 p1=>⟨by
  rw[r1.length,CS];have:=hz ρ ds e;omega,fun q hq=>p1 _ _ (F3 hq _) (JC s1 (hA.same s1) hq r1)⟩⟩
theorem Bt.bindF{fr:Ap}{f:D->R D}{Q':VK}(h:Bt (Ew K CL fr H A) W H (r.bind f) Q)(k:∀ d v H',r=.ok d->AN H H'->Rp H' v d->Bt (Ew K CL fr H A) W H' (f d) Q->Q' v H'):Bt Rp W H r Q':=by
 cases r with
 |ok d=>exact fun v H2 s2 q=>k d v H2 rfl s2 q (Bt.same s2 h)
 |exn x=>exact h
 |bad=>exact h
theorem Hs.bindF{Rp:Hp->Ac V->Ac D->Prop}{r:R (Ac D)}{f:Ac D->R D}{Q':Ac V->Hp->Prop}(h:Bt Rq W H (r.bind f) Q)(k:∀ d v H',r=.ok d->AN H H'->Rp H' v d->Bt Rq W H' (f d) Q->Q' v H'):Hs Rp W H r Q':=by
 cases r with
 |ok d=>exact fun v H2 s2 q=>k d v H2 rfl s2 q (Bt.same s2 h)
 |exn x=>exact h
 |bad=>exact h
theorem Ka.bindF{r:R (Au Ad)}{f:Au Ad->R D}(h:Bt Rq W H (r.bind f) Q)(k:∀ o H',r=.ok o->AN H H'->Bt Rq W H' (f o) Q->Q' o H'):Ka W H r Q':=by
 cases r with
 |ok d=>exact fun H2 s2=>k d H2 rfl s2 (Bt.same s2 h)
 |exn x=>exact h
 |bad=>exact h
theorem uY{lo hi:Au Ar}{fl fh:Rho->R (Au Ad)}(ha:ST X CL W a fa)(hl:SO X CL W lo fl)(hh:SO X CL W hi fh):SC X CL W Aa (.Subscript a (.Slice lo hi Af p2) pos) (fun ρ=>(fa ρ).bind fun x=>(fl ρ).bind fun l=>(fh ρ).bind fun h=>slD x l h):=
 fun A=>PE.weak (cA (r:=fun x l h H Q=>Rs X.K x l h H Q\/Rr X.K x l h H Q) (fun pI s σ H x v vl vu lo hi sl Q I rx hs pl pu h=>h.elim (fG pI s σ H x v vl vu lo hi sl Q I rx hs pl pu) (oX pI s σ H x v vl vu lo hi sl Q I rx hs pl pu)) (ha A) (hl A) (hh A)) fun σ H Q ⟨hA,ρ,g,p⟩=>⟨hA,ρ,g,Bt.bindF p fun dx x H1 _ s1 r1 p1=>⟨hA.same s1,ρ,g.same s1,Ka.bindF p1 fun l H2 _ s2 p2=>⟨(hA.same s1).same s2,ρ,(g.same s1).same s2,Ka.bindF p2 fun h H3 _ s3 p3=>by
  cases dx with
  |lst ds=>
   obtain⟨q,xs,rfl,sq,r⟩:=((r1.same s2).same s3).lst_of;exact .inl ⟨q,xs,rfl,sq,fun t ht=>p3 _ _ (F3 ht _) (JC ((s1.trans s2).trans s3) (((hA.same s1).same s2).same s3) ht (UI l h r))⟩
  |tup ds=>
   obtain⟨q,xs,rfl,_,sq,r⟩:=((r1.same s2).same s3).tup_of;rw[Y8]at p3;split at p3
   ·exact p3.elim
   ·rename_i hw;refine .inr ⟨q,xs,rfl,sq,?_,fun t ht=>p3 _ _ (F3 ht _) (Ul (KQ (((hA.same s1).same s2).same s3) ht (UI l h r)) (by intro _ z;cases z))⟩
    rintro⟨h1,h2⟩;refine hw ?_;have e:∀ d o,HT.sIx xs.length d o=IH ds.length d o:=fun d o=>by rw[r.length];cases o<;>rfl
    rw[e]at h1 h2;rw[r.length]at h2;simp[h1,h2]
  | _=>exact p3.elim⟩⟩⟩
noncomputable def OpN(X:Cx)(CL:ClA)(W:XW)(f:Ai->Ai->Hg Ai)(g:D->D->R D):Prop:=
 ∀ A H0,OpR X f (fun x y H Q=>AN H0 H/\AOk H A/\∃ dx dy,C7 X.K CL H A x dx/\C7 X.K CL H A y dy/\Bt (Ew X.K CL Aa H0 A) W H (g dx dy) Q)
theorem gP:OpN X CL W (Cv .Add) (Dp .Add):=by
 intro A H0 pI s σ H x y v u Q I rx ry ⟨s0,hA,dx,dy,hx,hy,p⟩;have key:(∀ ds,dx≠.lst ds)->EP X pI σ Q=EP X pI σ Q->Ax (model X.prog X.w) X.A (Cv .Add v u) (EP X pI σ Q) X.xe s:=fun hd _=>by
  refine T6 (W:=W) A pI s σ H x y v u Q I rx ry ⟨hA,dx,dy,hx,hy,?_⟩;cases e:Dp .Add dx dy with
  |bad=>rw[e]at p;exact p
  |exn x=>rw[e]at p;exact p
  |ok d=>
   rw[e]at p;refine fun v' H' s' r'=>p v' H' s' (Ul r' fun ds z=>?_)
   subst z;cases dx with
   |lst ds=>exact hd _ rfl
   |_=>cases dy<;>first|(cases e;done)|(simp only[Dp]at e;split at e<;>cases e)
 cases dx with
 |lst ds=>
  cases dy with
  |lst es=>
   obtain⟨a,xs,rfl,s1,r1⟩:=hx.lst_of;obtain⟨b,ys,rfl,s2,r2⟩:=hy.lst_of;simp only[Qr]at p;split at p
   ·rename_i h;refine T7 pI s σ H _ _ v u Q I rx ry ⟨a,b,xs,ys,rfl,rfl,s1,s2,by rw[r1.length,r2.length];exact IY h,fun q hq=>?_⟩
    exact p _ _ (F3 hq _) (JC s0 hA hq (r1.append r2))
   ·exact p.elim
  |_=>exact p.elim
 |_=>exact key (by intro _ z;cases z) rfl
theorem oW(ha:ST X CL W a fa)(hb:ST X CL W b fb):SC X CL W Aa (.BinOp a .Add b pos) (fun ρ=>(fa ρ).bind fun x=>(fb ρ).bind fun y=>Dp .Add x y):=
 fun A pI s σ H Q I h=>by
  obtain⟨hA,ρ,g,p⟩:=h;exact VS (gP (W:=W) A H) (ha A) (hb A) pI s σ H Q I ⟨hA,ρ,g,Bt.bindF p fun dx x H1 _ s1 r1 p1=>⟨hA.same s1,ρ,g.same s1,Bt.bind (Rq:=Ew X.K CL Aa H A) p1 fun dy y H2 _ s2 r2 p2=>⟨s1.trans s2,(hA.same s1).same s2,dx,dy,r1.same s2,r2,p2⟩⟩⟩
def NH(X:Cx)(CL:ClA)(W:XW)(f:Ai)(g:Ac D->R D):Prop:=∀ A H0,IE X f (fun xs H Q=>AN H0 H/\AOk H A/\∃ ds,Gd X.K CL H A xs ds/\Bt (Ew X.K CL Aa H0 A) W H (g ds) Q)
theorem jY:NH X CL W (.type "list") (biD .list):=by
  intro A H0 pI s σ H xs us Q I r ⟨s0,hA,ds,rs,p⟩
  match ds,rs,p with
  |[.lst es],rs,p=>
    obtain⟨v,rfl,rv⟩:=rs.one;obtain⟨q,ys,rfl,sq,ry⟩:=rv.lst_of;exact RJ pI s σ H _ us Q I r ⟨q,ys,rfl,.inl sq,fun l hl=>p _ _ (F3 hl _) (JC s0 hA hl ry)⟩
  |[.tup es],rs,p=>
    obtain⟨v,rfl,rv⟩:=rs.one;obtain⟨q,ys,rfl,_,sq,ry⟩:=rv.tup_of;exact RJ pI s σ H _ us Q I r ⟨q,ys,rfl,.inr sq,fun l hl=>p _ _ (F3 hl _) (JC s0 hA hl ry)⟩
  |[],_,p=>exact p.elim
  |[.non],_,p=>exact p.elim
  |[.bl _],_,p=>exact p.elim
  |[.int _],_,p=>exact p.elim
  |[.str _],_,p=>exact p.elim
  |[.obj _ _],_,p=>exact p.elim
  |[.exc _ _],_,p=>exact p.elim
  |[.dic _],_,p=>exact p.elim
  |x::_::_,_,p=>cases x<;>exact p.elim
theorem oU{g:Ac D->R D}(hc:NH X CL W (.type T) g)(hg:Gl X x)(hm:X.mg x=Af)(hv:Dh x=Ab (.type T))(ha:SAT X CL W (e::es) fs)(hn:x≠"__name__")(hdb:(x==("__debug__" : Al))=Ae)(he:AG (e::es) X.env=(Ae,eval e X.env)::AG es X.env)(hpl:∀ pos,(CV pos (AG es X.env)).any (·.1)=Ae):SC X CL W Aa (.Call (.Name x p) (e::es) [] pos) (fun ρ=>(fs ρ).bind g):=fun A pI s σ H Q I ⟨hA,ρ,gd,q⟩=>
 R9 (hc A H) hg hm hv (ha A) hn hdb he (hpl _) pI s σ H Q I ⟨hA,ρ,gd,Hs.bindF q fun ds vs H1 _ s1 r1 p1=>⟨s1,hA.same s1,ds,r1,p1⟩⟩
theorem oV{g:Ac D->R D}(hc:NH X CL W (.builtin id) g)(hg:Gl X x)(hm:X.mg x=Af)(hv:Dh x=Ab (.builtin id))(ha:SAT X CL W (e::es) fs)(hn:x≠"__name__")(hdb:(x==("__debug__" : Al))=Ae)(he:AG (e::es) X.env=(Ae,eval e X.env)::AG es X.env)(hpl:∀ pos,(CV pos (AG es X.env)).any (·.1)=Ae):SC X CL W Aa (.Call (.Name x p) (e::es) [] pos) (fun ρ=>(fs ρ).bind g):=fun A pI s σ H Q I ⟨hA,ρ,gd,q⟩=>
 O8 (hc A H) hg hm hv (ha A) hn hdb he (hpl _) pI s σ H Q I ⟨hA,ρ,gd,Hs.bindF q fun ds vs H1 _ s1 r1 p1=>⟨s1,hA.same s1,ds,r1,p1⟩⟩
mutual
theorem VM{K:Fg}{H:Hp}{A:Ak->Prop}(hA:AOk H A):∀(n:Ag)(d:D){v:V},nlD n d=Aa->Rep K CL H A0 v d->Rep K CL H A v d
 |_,.non,_,_,h=>h
 |_,.bl _,_,_,h=>h
 |_,.int _,_,_,h=>h
 |_,.str _,_,_,h=>h
 |0,.tup _,_,hn,_=>by cases hn
 |n+1,.tup ds,_,hn,h=>by
  obtain⟨a,xs,e,_,s,r⟩:=h;refine⟨a,xs,e,?_,s,nls_up hA n ds hn r⟩;rcases s with s|s
  ·refine .inl fun z=>?_
   obtain⟨ys,q⟩:=hA a z;rcases s with s|⟨o,s⟩<;>rw[q]at s<;>cases s
  ·exact .inr s
 |n,.lst _,_,hn,_=>by cases n<;>cases hn
 |n,.obj _ _,_,hn,_=>by cases n<;>cases hn
 |n,.exc _ _,_,hn,_=>by cases n<;>cases hn
 |n,.dic _,_,hn,_=>by cases n<;>cases hn
theorem nls_up{K:Fg}{H:Hp}{A:Ak->Prop}(hA:AOk H A):∀(n:Ag)(ds:Ac D){vs:Ac V},ds.all (nlD n)=Aa->Reps K CL H A0 vs ds->Reps K CL H A vs ds
 |_,[],[],_,h=>h
 |n,d::ds,_::_,hn,h=>by
  simp only[EU,Am]at hn;exact⟨VM hA n d hn.1 h.1,nls_up hA n ds hn.2 h.2⟩
 |_,[],_::_,_,h=>h.elim
 |_,_::_,[],_,h=>h.elim
end
theorem rV{fr:Ap}(hA0:AOk H0 A)(s:AN H0 H)(hc:Lh fr d=Aa)(r:Ew K CL fr H0 A0 H v d):Ew K CL fr H0 A H v d:=by
 have hA:=hA0.same s;cases d with
 |lst ds=>
  have hc':(fr&&ds.all (nlD 5))=Aa:=hc;rw[Am]at hc';obtain⟨a,xs,e,h0,h1,rs⟩:=r.2 hc'.1 ds rfl;have hA2:AOk H (fun b=>A b\/b=a):=fun b hb=>hb.elim (hA b) fun e=>by rw[e];exact⟨xs,h1⟩
  have rs':=nls_up hA2 5 ds hc'.2 (Reps.sub (fun _ z=>z.elim) _ rs)
  refine⟨⟨a,xs,e,.inl (hA0.new h0),SqL.of h1,Reps.sub (fun _ z=>.inl z) _ rs'⟩,fun _ ds' e'=>?_⟩
  cases e';exact⟨a,xs,e,h0,h1,rs'⟩
 |_=>exact⟨VM hA 5 _ hc r.1,fun _ _ z=>nomatch z⟩
def spD(K:Fg)(CL:ClA)(n:Ag)(fr:Ap)(F:Ac D->R D):Sp:=fun vs H Q E=>∃(ds:Ac D)(A:Ak->Prop),vs.length=n/\AOk H A/\Reps K CL H A vs ds/\(match F ds with
  |.ok d=>∀ v H',AN H H'->Ew K CL fr H A H' v d->Q v H'
  |.exn x=>∀ cls dx H',AN H H'->MA K CL H' A cls dx x->E cls dx H'
  | .bad=>BF)
def EKW(K:Fg)(CL:ClA)(A:Ak->Prop)(W:XW):XK:=fun cls dx H'=>∃ x,MA K CL H' A cls dx x/\W x H'
theorem Gd.plain{K:Fg}{H:Hp}{A:Ak->Prop}:∀{vs:Ac V}{ds:Ac D},Gd K CL H A vs ds->Reps K CL H A0 vs ds
 |[],[],h=>trivial
 |_::_,_::_,h=>⟨h.1.plain,Gd.plain h.2⟩
 |[],_::_,h=>h.elim
 |_::_,[],h=>h.elim
theorem fL{CX:CXT}{fr:Ap}{f:Ak}{fd:CW}{ps:Ac Al}{F:Ac D->R D}{ft:Rho->R (Ac D)}{sh:Rho->Ap}(G:FnOk X.prog X.w X.K X.mg X.base CX k f fd ps (spD X.K CL n fr F))(hr:Room k X.A)(hg:Gl X x)(hm:X.mg x=Ab (.ref f))(hk:DT X.K (.ref f)=Aa)(hb:IF X.K fd ps [])(hx:∀ A,K3 CX X (EKW X.K CL A W))(ha:SA X CL W (e::es) fs)(hat:SAT X CL W (e::es) ft)(hst:∀ ρ,sh ρ=Aa->ft ρ=fs ρ)(hn:∀ ρ ds,ft ρ=.ok ds->ds.length=n)(hdb:(x==("__debug__" : Al))=Ae)(he:AG (e::es) X.env=(Ae,eval e X.env)::AG es X.env)(hpl:∀ pos,(CV pos (AG es X.env)).any (·.1)=Ae):SC X CL W fr (.Call (.Name x p) (e::es) [] pos) (fun ρ=>(ft ρ).bind fun ds=>(F ds).bind fun d=>if sh ρ=Aa then .ok d else if Lh fr d=Aa then .ok d else .bad):=fun A pI s σ H Q I ⟨hA,ρ,gd,q⟩=>by
 dsimp only at q;by_cases hs:sh ρ=Aa
 ·rw[hst ρ hs]at q;refine T4 G hr hg hm hk hb .nil (hx A) (ha A) hdb he (hpl _) pI s σ H Q I ⟨hA,ρ,gd,?_⟩;cases e1:fs ρ with
  |bad=>rw[e1]at q;exact q
  |exn y=>rw[e1]at q;exact q
  |ok ds=>
   rw[e1]at q;intro vs H1 s1 r1;refine⟨ds,A,by rw[DD,r1.length];exact hn ρ ds (by rw[hst ρ hs];exact e1),hA.same s1,by rw[DD];exact r1,?_⟩
   have q':Bt (Ew X.K CL fr H A) W H ((F ds).bind fun d=>if sh ρ=Aa then .ok d else if Lh fr d=Aa then .ok d else .bad) Q:=q
   cases e2:F ds with
   |ok d=>
    rw[e2,R.bind_ok,AD hs]at q';exact fun v H2 s2 r2=>q' v H2 (s1.trans s2) ⟨r2.1,fun z ds' e'=>let ⟨a,xs,z1,z2,z3⟩:=r2.2 z ds' e';⟨a,xs,z1,s1.free z2,z3⟩⟩
   |exn y=>rw[e2]at q';exact fun cls dx H2 s2 xr=>⟨y,xr,q' H2 (s1.trans s2)⟩
   |bad=>rw[e2]at q';exact q'.elim
 ·refine T4 G hr hg hm hk hb .nil (hx A0) (hat A) hdb he (hpl _) pI s σ H Q I ⟨hA,ρ,gd,?_⟩;cases e1:ft ρ with
  |bad=>rw[e1]at q;exact q
  |exn y=>rw[e1]at q;exact q
  |ok ds=>
   rw[e1]at q;intro vs H1 s1 r1;refine⟨ds,A0,by rw[DD,r1.plain.length];exact hn ρ ds e1,fun _ z=>z.elim,by rw[DD];exact r1.plain,?_⟩
   have q':Bt (Ew X.K CL fr H A) W H ((F ds).bind fun d=>if sh ρ=Aa then .ok d else if Lh fr d=Aa then .ok d else .bad) Q:=q
   cases e2:F ds with
   |ok d=>
    rw[e2,R.bind_ok,AH hs]at q';split at q'
    ·rename_i hc;exact fun v H2 s2 r2=>q' v H2 (s1.trans s2) (rV hA (s1.trans s2) hc ⟨r2.1,fun z ds' e'=>let ⟨a,xs,z1,z2,z3⟩:=r2.2 z ds' e';⟨a,xs,z1,s1.free z2,z3⟩⟩)
    ·exact q'.elim
   |exn y=>rw[e2]at q';exact fun cls dx H2 s2 xr=>⟨y,xr,q' H2 (s1.trans s2)⟩
   |bad=>rw[e2]at q';exact q'.elim
end
theorem OD(env:CA):∀(ns:Ac (Al×ED))(acc:Ac (Al×Ak)),(∀ x∈ns,x.2=.free->∃ c,env.cells.lookup x.1=Ab c)->(∀ x c,acc.lookup x=Ab c->env.cells.lookup x=Ab c) ->
  ∃ cl,(forIn ns acc fun(x:Al×ED)(cs:Ac (Al×Ak))=>(if (x.2==.free)=Aa then do let c <-cellOf env x.1;pure (EW ((x.1,c)::cs)) else pure (EW cs):Hg (ForInStep (Ac (Al×Ak)))))=pure cl /\
   (∀ x c,cl.lookup x=Ab c->env.cells.lookup x=Ab c)/\(∀ x,((x,Ec)∈ns\/∃ c,acc.lookup x=Ab c)->∃ c,cl.lookup x=Ab c)
 |[],acc,_,h2=>⟨acc,by rw[DP],h2,fun x hx=>hx.elim (fun z=>nomatch z) id⟩
 |(n,k)::r,acc,h1,h2=>by
  rw[Ea];by_cases hk:k=.free
  ·subst hk;obtain⟨c,hc⟩:=h1 (n,.free) AB rfl;obtain⟨cl,e,p,q⟩:=OD env r ((n,c)::acc) (fun x hx=>h1 x (Av _ hx)) (fun x d hd=>by
    rw[B6]at hd;split at hd
    ·rename_i hx;cases hd;rw[eq_of_beq hx];exact hc
    ·exact h2 x d hd)
   refine⟨cl,?_,p,fun x hx=>q x ?_⟩
   ·have e1:cellOf env n=pure c:=by unfold cellOf;dsimp only at hc;rw[hc]
    rw[AD (by rfl),e1]
    exact e
   ·rcases hx with hx|⟨d,hd⟩
    ·rcases Ay.mp hx with z|z
     ·cases z;exact .inr ⟨c,by simp[B6]⟩
     ·exact .inl z
    ·by_cases hxn:x=n
     ·exact .inr ⟨c,by subst hxn;simp[B6]⟩
     ·exact .inr ⟨d,by rw[B6];rw[DN.mpr hxn];exact hd⟩
  ·obtain⟨cl,e,p,q⟩:=OD env r acc (fun x hx=>h1 x (Av _ hx)) h2
   refine⟨cl,?_,p,fun x hx=>q x ?_⟩
   ·rw[AH (by simpa using hk)]
    exact e
   ·rcases hx with hx|hx
    ·rcases Ay.mp hx with z|z
     ·cases z;exact absurd rfl hk
     ·exact .inl z
    ·exact .inr hx
theorem Sh(h:∀ x∈scope.names,x.2=.free->∃ c,env.cells.lookup x.1=Ab c):∃ cl,closureFor scope env=pure cl/\(∀ x c,cl.lookup x=Ab c->env.cells.lookup x=Ab c)/\∀ x,(x,Ec)∈scope.names->∃ c,cl.lookup x=Ab c:=by
 obtain⟨cl,e,p,q⟩:=OD env scope.names [] h (fun x c z=>by simp at z)
 refine⟨cl,?_,p,fun x hx=>q x (.inl hx)⟩
 unfold closureFor
 first
  |exact e
  |(simp only[bind_pure];exact e)
  |(rw[show (forIn scope.names ([]:Ac (Al×Ak)) _:Hg _)=pure cl from e];rfl)
theorem OS:∀(names:Ac (Al×ED))(h:AQ)(acc:Ac (Al×Ak))(x:Al)(c:Ak),(Dy h.objs.size names acc).lookup x=Ab c->acc.lookup x=Ab c\/((x,Ci)∈names/\h.objs.size<=c/\(Hd h names).IsCell c Af)
 |[],_,_,_,_,e=>.inl e
 |(n,k)::r,h,acc,x,c,e=>by
  unfold Dy at e;unfold Hd;by_cases hk:(k==Ci)=Aa
  ·rw[AD hk]at e ⊢;have hs:h.objs.size+1=(h.push { cls:=.type "cell", data:=.cell Af }).objs.size:=(Bi ..).symm;rw[hs]at e;rcases OS r _ _ x c e with q|⟨q1,q2,q3⟩
   ·rw[B6]at q;cases hx:x==n with
    |true=>
     rw[hx]at q;cases q;refine .inr ⟨?_,AS _,?_⟩
     ·rw[eq_of_beq hx,eq_of_beq hk];exact AB
     ·exact⟨_,Ip r _ _ _ (Aw _ rfl),rfl⟩
    |false=>rw[hx]at q;exact .inl q
   ·exact .inr ⟨Av _ q1,by omega,q3⟩
  ·rw[AH hk]at e ⊢;rcases OS r h acc x c e with q|⟨q1,q2,q3⟩
   ·exact .inl q
   ·exact .inr ⟨Av _ q1,q2,q3⟩
theorem OT:∀(names:Ac (Al×ED))(h:AQ)(acc:Ac (Al×Ak)),(∀ x y c,acc.lookup x=Ab c->acc.lookup y=Ab c->x=y)->(∀ x c,acc.lookup x=Ab c->c<h.objs.size)->∀ x y c,(Dy h.objs.size names acc).lookup x=Ab c->(Dy h.objs.size names acc).lookup y=Ab c->x=y
 |[],_,_,i,_,x,y,c,e1,e2=>i x y c e1 e2
 |(n,k)::r,h,acc,i,b,x,y,c,e1,e2=>by
  unfold Dy at e1 e2;by_cases hk:(k==Ci)=Aa
  ·rw[AD hk]at e1 e2;have hs:h.objs.size+1=(h.push { cls:=.type "cell", data:=.cell Af }).objs.size:=(Bi ..).symm;rw[hs]at e1 e2;have look:∀ z d,WW z ((n,h.objs.size)::acc)=Ab d->(z=n/\d=h.objs.size)\/(z≠n/\acc.lookup z=Ab d):=fun z d q=>by
    rw[B6]at q;cases hx:z==n with
    |true=>rw[hx]at q;cases q;exact .inl ⟨eq_of_beq hx,rfl⟩
    |false=>rw[hx]at q;exact .inr ⟨fun e=>by rw[e]at hx;simp at hx,q⟩
   refine OT r _ _ (fun z z' d q q'=>?_) (fun z d q=>?_) x y c e1 e2
   ·rcases look z d q with ⟨rfl,q1⟩|⟨_,q1⟩<;>rcases look z' d q' with ⟨rfl,q2⟩|⟨_,q2⟩
    ·rfl
    ·exact absurd (b _ _ q2) (by rw[q1];exact Bw _)
    ·exact absurd (b _ _ q1) (by rw[q2];exact Bw _)
    ·exact i _ _ _ q1 q2
   ·rw[<-hs];rcases look z d q with ⟨_,q1⟩|⟨_,q1⟩
    ·rw[q1];exact EB _
    ·exact C3 (b _ _ q1)
  ·rw[AH hk]at e1 e2;exact OT r h acc i b x y c e1 e2
theorem OF:∀(names:Ac (Al×ED))(n:Ag)(acc:Ac (Al×Ak))(x:Al),(x,Ci)∉names->(Dy n names acc).lookup x=acc.lookup x
 |[],_,_,_,_=>rfl
 |(m,k)::r,n,acc,x,hx=>by
  unfold Dy;have hr:(x,Ci)∉r:=fun z=>hx (Av _ z)
  by_cases hk:(k==Ci)=Aa
  ·rw[AD hk,OF r _ _ x hr,B6];cases q:x==m with
   |true=>exact absurd (by rw[eq_of_beq q,eq_of_beq hk];exact AB) hx
   |false=>rfl
  ·rw[AH hk];exact OF r n acc x hr
theorem OU(n0:Ag):∀(names:Ac (Al×ED))(n:Ag)(acc:Ac (Al×Ak))(x:Al),n0<=n->((x,Ci)∈names\/∃ c,acc.lookup x=Ab c/\n0<=c)->∃ c,(Dy n names acc).lookup x=Ab c/\n0<=c
 |[],_,_,_,_,h=>h.elim (fun z=>nomatch z) id
 |(m,k)::r,n,acc,x,hn,h=>by
  unfold Dy;by_cases hk:(k==Ci)=Aa
  ·rw[AD hk];refine OU n0 r _ _ x (by omega) ?_
   by_cases hx:(x==m)=Aa
   ·exact .inr ⟨n,by rw[B6,hx],hn⟩
   ·rcases h with h|⟨c,h,hc⟩
    ·rcases Ay.mp h with z|z
     ·cases z;simp at hx
     ·exact .inl z
    ·exact .inr ⟨c,by rw[B6];simp only[hx];exact h,hc⟩
  ·rw[AH hk];refine OU n0 r _ _ x hn (h.imp (fun h=>?_) id)
   rcases Ay.mp h with z|z
   ·cases z;simp at hk
   ·exact z
theorem Zk{M:Km}{A:Bv}{E:Vq}{globals:Ak}{qual:Al}{Q:CA->Aq->Prop}(hQ:Q (newEnv scope s.heap.objs.size globals (Dy (s.heap.objs.size+1) scope.names cl) qual Af .none (Ab env) IV) { s with heap:=Hd (s.heap.push { cls:=.type "dict", data:=.dict #[] }) scope.names }):Ax M A (IP scope globals cl [] qual Af .none (Ab env)) Q E s:=by
 simp only[IP,Option.isSome_some,HE];refine Ah (wpAny_alloc ?_);refine Ah (wpAny_layCells _ (fun name kind cells=>by cases hkc:kind==Ci<;>simp[hkc]) _ _ _ _ ?_)
 rw[show ({ s with heap:=s.heap.push { cls:=.type "dict", data:=.dict #[] } }:Aq).heap.objs.size=s.heap.objs.size+1 from Bi ..]
 rw[DP];exact Ah (As (As hQ))
noncomputable def cxC(X:Cx)(scope:CP)(cl:Ac (Al×Ak))(C:Ak)(N':Ac Al)(s₀:Aq)(H₀:Hp)(fp:Ac Ak):Cx where
 prog:=X.prog
 w:=X.w
 K:=X.K
 mg:=X.mg
 base:=X.base
 A:=X.A
 N:=N'
 s₀:=s₀
 H₀:=H₀
 env:=compEnvC scope cl C X.env
 outer:=X.stack
 stack:=X.stack
 ex:=fp
 fn:=fun x=>scope.names.lookup x==Ab Ci
 calm:=X.calm
 pn:=[]
 xe:=fun _ _=>BF
theorem MB{env:CA}:∀{names:Ac (Al×ED)}{x:Al}{k:ED},(names.map fun (n,k)=>if (k==Ec&&env.scope.kind==.function&&env.kindOf n==Ab .cell) then (n,Ci) else (n,k)).lookup x=Ab k->names.lookup x=Ab k\/(k=.cell/\names.lookup x=Ab .free)
 |[],_,_,h=>by simp at h
 |(n,j)::r,x,k,h=>by
  have ih:=@MB env r x k;have h':WW x ((if (j==Ec&&env.scope.kind==.function&&env.kindOf n==Ab .cell)=Aa then (n,Ci) else (n,j))::(r.map fun (n,k)=>if (k==Ec&&env.scope.kind==.function&&env.kindOf n==Ab .cell) then (n,Ci) else (n,k)))=Ab k:=h
  by_cases hc:(j==Ec&&env.scope.kind==.function&&env.kindOf n==Ab .cell)=Aa
  ·rw[AD hc]at h';rw[B6]at h' ⊢;cases hx:x==n with
   |true=>
    rw[hx]at h';cases h';simp only[Am]at hc;exact .inr ⟨rfl,by rw[eq_of_beq hc.1.1]⟩
   |false=>rw[hx]at h';exact ih h'
  ·rw[AH hc]at h';rw[B6]at h' ⊢;cases hx:x==n with
   |true=>rw[hx]at h';exact .inl h'
   |false=>rw[hx]at h';exact ih h'
structure BlockOk (X:Cx) (scope:CP) (N':Ac Al) (ts:Ac Ag):Prop where
 kind:scope.kind=.function
 uniq:∀ y∈scope.names,scope.names.lookup y.1=Ab y.2
 names:∀ y∈scope.names,y.2=.local->scope.names.lookup y.1=Ab .local
 free:∀ y∈scope.names,y.2=.free->X.env.scope.names.lookup y.1=Ab .cell\/X.env.scope.names.lookup y.1=Ab .free
 len:N'.length=X.N.length
 same:∀ i x,N'[i]?=Ab x->scope.names.lookup x=Ab .free->i∉ts->X.N[i]?=Ab x
 loc:∀ i x,N'[i]?=Ab x->(scope.names.lookup x=Ab .local\/scope.names.lookup x=Ab .cell)->i∈ts
structure BCells (X:Cx) (scope:CP) (cl:Ac (Al×Ak)) (C:Ak) (h:AQ):Prop where
 own:∀ x c,cl.lookup x=Ab c->X.env.cells.lookup x=Ab c\/(scope.names.lookup x=Ab .cell/\C<c/\h.IsCell c Af)
 inj:∀ x y c,cl.lookup x=Ab c->cl.lookup y=Ab c->x=y
 has:∀ x,scope.names.lookup x=Ab .cell->∃ c,cl.lookup x=Ab c/\C<c
 fr:∀ x,(x,Ec)∈scope.names->∃ c,cl.lookup x=Ab c/\X.env.cells.lookup x=Ab c
section
variable{X:Cx}{pI:Pn}{σ:L2.St}{H:Hp}{s:Aq}
noncomputable def hideT(ts:Ac Ag)(σ:L2.St):L2.St:=ts.foldl (fun σ t=>σ.set t Af) σ
theorem ON:∀(ts:Ac Ag)(σ:L2.St),(hideT ts σ).length=σ.length
 |[],_=>rfl
 |t::ts,σ=>by show (hideT ts (σ.set t Af)).length=_;rw[ON ts,Bz]
theorem SR:∀(ts:Ac Ag)(σ:L2.St){i:Ag}{v:V},(hideT ts σ)[i]?=Ab (Ab v)->σ[i]?=Ab (Ab v)/\i∉ts
 |[],_,_,_,h=>⟨h,by simp⟩
 |t::ts,σ,i,v,h=>by
  obtain⟨h1,h2⟩:=SR ts (σ.set t Af) (i:=i) (v:=v) h;by_cases e:t=i
  ·subst e;have:=HS h1;cases this
  ·rw[Dl e]at h1;exact⟨h1,by simp only[Ay,El];exact⟨fun z=>e z.symm,h2⟩⟩
theorem ZA{tk:Ag}{C:Ak}{m:Al->Au Ai}(I:Inv X pI σ H s)(B:BlockOk X scope N' ts)(hf:∀ b∈fp,G6 X pI H b)(hfo:∀ b∈fp,b<s.heap.objs.size)(hb:BCells X scope cl C h')(hk:∀ b o,s.heap.get? b=Ab o->h'.get? b=Ab o)(hC:s.heap.objs.size<=C)(hn:h'.Ns C m):Inv (cxC X scope cl C N' s H fp) [] (hideT ts σ) H {s with heap:=h',toks:=tk}:=by
 have stf:∀ b∈fp,b∉frs X.stack:=fun b hb z=>by
  rcases Ay.mp (I.stkSub b z) with e|e
  ·exact(hf b hb).2.1 e
  ·exact(hf b hb).2.2.1 e
 have frOf:∀ x,((relabel scope X.env).names.lookup x=Ab .cell\/(relabel scope X.env).names.lookup x=Ab .free)->scope.names.lookup x=Ab .free\/scope.names.lookup x=Ab .cell:=fun x hx=>by
  rcases hx with z|z
  ·rcases MB z with z|⟨_,z⟩
   ·exact .inr z
   ·exact .inl z
  ·rcases MB z with z|⟨z,_⟩
   ·exact .inl z
   ·cases z
 have gtC:∀ c:Ak,C<c->s.heap.objs.size<=c:=fun c z=>BD hC (D4 z)
 have cellK:∀ c v,s.heap.IsCell c v->h'.IsCell c v:=fun c v ⟨o,ho,hd⟩=>⟨o,hk _ _ ho,hd⟩
 refine⟨⟨I.ok.mod,B.kind,I.ok.glob,I.ok.blt,hC,hb.inj,fun x hx=>?_,fun x c h e=>?_,I.ok.hd,I.ok.frames,.inl rfl,fun b hbb=>⟨?_,fun x c e=>?_⟩,I.bs,BD I.ok.bsz I.sz,fun b o e hbb=>?_,stf,I.stack,I.stkFree⟩,rfl,I.bare,Un.kept hk,⟨m,hn,fun i x v h1 h2 h3=>?_⟩,fun x c e=>?_,I.hok.fresh hC,fun x c e=>(hb.own x c e).elim (I.freeC x c) (fun z=>I.hok.fresh (gtC c z.2.1)),fun p hp=>absurd (show p∈([]:Pn) from hp) (by simp),I.hok.kept hk,?_⟩
 ·rcases frOf x hx with z|z
  ·obtain⟨c,q,_⟩:=hb.fr x (C5 z);exact⟨c,q⟩
  ·obtain⟨c,q,_⟩:=hb.has x z;exact⟨c,q⟩
 ·obtain⟨c',q,z⟩:=hb.has x (eq_of_beq h);have e':cl.lookup x=Ab c:=e;rw[q]at e';cases e';exact gtC _ z
 ·intro z;have z':b=C:=z;have:=hfo b hbb;rw[z']at this;exact absurd (Az this hC) (Bw _)
 ·rcases hb.own x c e with z|z
  ·exact(hf b hbb).2.2.2.2.1 x c z
  ·intro q;have:=hfo b hbb;have:=gtC c z.2.1;rw[q]at this;exact absurd ‹b<_› (EZ.mpr this)
 ·rcases (hf b hbb).2.2.2.1 with z|z
  ·exact I.ok.noex b o e z
  ·exact absurd (Az (AC e) (BD I.ok.bsz z)) (Bw _)
 ·obtain⟨h2,hts⟩:=SR ts σ h2;have h3':(relabel scope X.env).names.lookup x=Ab .local\/(relabel scope X.env).names.lookup x=Ab .cell\/(relabel scope X.env).names.lookup x=Ab .free:=h3;have h1':N'[i]?=Ab x:=h1;rcases h3' with z|z
  ·rcases MB z with z|⟨z,_⟩
   ·exact absurd (B.loc i x h1' (.inl z)) hts
   ·cases z
  ·have fr:=(frOf x z).resolve_right fun q=>hts (B.loc i x h1' (.inr q))
   have hm:=C5 fr;have hX:=B.same i x h1' fr hts;obtain⟨m0,hn0,hl0⟩:=I.loc;obtain⟨u,ru,lk⟩:=hl0 i x v hX h2 (by
    rcases B.free _ hm rfl with q|q
    ·exact .inr (.inl q)
    ·exact .inr (.inr q))
   refine⟨u,ru,?_⟩;obtain⟨c,hc,hcX⟩:=hb.fr x hm;rcases lk with ⟨q,_⟩|⟨_,c',hc',hcell⟩
   ·have q':X.env.scope.names.lookup x=Ab .local:=q;rcases B.free _ hm rfl with p|p
    ·rw[show X.env.scope.names.lookup x=_ from p]at q';cases q'
    ·rw[show X.env.scope.names.lookup x=_ from p]at q';cases q'
   ·have e:=hcX;rw[hc']at e;cases e;exact .inr ⟨z,c,hc,cellK _ _ hcell⟩
 ·rcases hb.own x c e with z|z
  ·obtain⟨v,q⟩:=I.cell x c z;exact⟨v,cellK _ _ q⟩
  ·exact⟨_,z.2.2⟩
 ·show (hideT ts σ).length=N'.length;rw[ON,I.len,B.len]
theorem Sr{C D:Ak}{s':Aq}{σ':L2.St}{pins':Pn}{h'':AQ}{ys:Ac Ai}(I:Inv X pI σ H s)(hf:∀ b∈fp,G6 X pI H b)(I':Inv (cxC X scope cl C N' s H fp) pins' σ' H' s')(hD:s.heap.objs.size<=D)(hDC:D≠C)(hC:s.heap.objs.size<=C)(hd:s'.heap.get? D=Ab { cls:=.type "list", data:=.seq ys.toArray n })(hDn:H' D=Af)(rv:Bq xs ys)(hz:xs.length<=sizeLine)(hs:Fa C s'.heap h''):Inv X pI σ (upd H' D (.lst xs)) {s' with heap:=h''}:=by
  have u:Un (frs X.stack) fp H H' s.heap s'.heap:=I'.base;have lt:∀ b o,s.heap.get? b=Ab o->b≠C/\b≠D:=fun b o e=>⟨fun z=>absurd (Az (AC e) (z ▸ hC)) (Bw _),fun z=>absurd (Az (AC e) (z ▸ hD)) (Bw _)⟩
  have HD:H D=Af:=I.hok.fresh hD;have hCn:H' C=Af:=I'.free;have kb:∀ b o,b≠C->s'.heap.get? b=Ab o->h''.get? b=Ab o:=fun b o hb e=>(hs.2 b hb).trans e
  have u2:Un (frs X.stack) fp H (upd H' D (.lst xs)) s.heap h'':=⟨fun b o e q hb hx=>kb b o (lt b o e).1 (u.keep b o e q hb hx),fun b o e q hb hx=>by
      obtain⟨sl,e1⟩:=u.slot b o e q hb hx;exact⟨sl,kb b _ (lt b o e).1 e1⟩,fun b o e q hx=>by rw[Dm (lt b o e).2];exact u.free b o e q hx,fun b o e hx=>by
      obtain⟨o',e1⟩:=u.there b o e hx;exact⟨o',kb b _ (lt b o e).1 e1⟩,fun b zs q=>by rw[Dm (Gc q HD)];exact u.tups b zs q,fun b o zs q=>by rw[Dm (Gc q HD)];exact u.frzs b o zs q,fun b ps q=>by rw[Dm (Gc q HD)];exact u.tbls b ps q⟩
  have hok:HOk X.prog X.w (upd H' D (.lst xs)) h'':=fun b o e=>by
    by_cases hb:b=D
    · subst hb;rw[HQ]at e;cases e;exact⟨hz,ys,n,rv,kb _ _ hDC hd⟩
    · rw[Dm hb]at e;refine(I'.hok b o e).stay (fun c v hc q=>kb c v ?_ q) (fun c q=>by rw[Dm (Gc q hDn)];exact q) fun c zs q=>by rw[Dm (Gc q hDn)];exact q
      rcases hc with rfl|hc
      · exact Gc e hCn
      · exact Gc hc hCn
  exact I.call' (s':={s' with heap:=h''}) (ch:=fp) I'.os u2 hok I'.bare fun b hb=>⟨(hf b hb).2.2.2.1,(hf b hb).2.1,(hf b hb).2.2.2.2.1,(hf b hb).2.2.2.2.2⟩
end
def PTs(X:Cx)(ifs:Ac Ar)(tt:TT):Prop:=∀(pI:Pn)(s:Aq)(σ:L2.St)(H:Hp)(Q:Ap->Hp->Prop),Inv X pI σ H s->tt σ H Q ->
 Ax (model X.prog X.w) X.A (forIn ifs Aa fun c r=>if r=Aa then do let ok <-IN c X.env (eval c X.env);pure (EW ok) else pure (EW r)) (TP X pI σ Q) X.xe s
theorem iX:PTs X [] (fun σ H Q=>Q Aa H):=fun pI s σ H Q I h=>wpAny_tests_nil ⟨H,I,h⟩
theorem iV{t:TT}(h:PT X c t):PTs X [c] t:=fun pI s σ H Q I q=>wpAny_tests_one (h pI s σ H Q I q)
theorem ZO{D:Ak}{ys:Ac Ai}{E:Vq}{Q:Vq}(I:Inv X ((D,{ cls:=.type "list", data:=.seq ys.toArray n })::pI) σ H s)(hD:X.s₀.heap.objs.size<=D)(hp:∀ p∈X.pn++pI,p.1≠D)(hc:∀ x c,X.env.cells.lookup x=Ab c->c≠D)(hz:ys.length<=sizeLine)(h:∀ s',Inv X ((D,{ cls:=.type "list", data:=.seq (ys++[y]).toArray (n+1) })::pI) σ H s'->(∀ b o,b≠D->s.heap.get? b=Ab o->s'.heap.get? b=Ab o)->Q .none s'):Ax (model X.prog X.w) X.A (call (.builtin "list.append") [.ref D,y]) Q E s:=by
 obtain⟨e,hn,hL,hfs,_⟩:=I.pin (D,{ cls:=.type "list", data:=.seq ys.toArray n }) (BH _ AB);refine append_at (hsz:=by rw[AE];exact hz) e fun h' hs hd=>?_
 have hd':h'.get? D=Ab { cls:=.type "list", data:=.seq (ys++[y]).toArray (n+1) }:=by rw[hd];simp
 have kb:∀ b o,b≠D->s.heap.get? b=Ab o->h'.get? b=Ab o:=fun b o hb q=>(hs.2 b hb).trans q
 have I0:Inv X pI σ H s:=I.pins_of fun p hp=>I.pin p (BH _ (Av _ hp))
 have I1:Inv X pI σ H {s with heap:=h'}:=I0.turned (t':=s.toks) kb hn hL (.inr hD) hc hp
 refine h _ (I1.pins_of fun p hp=>?_) kb
 rcases Ay.mp hp with rfl|hp
 ·exact⟨hd',hn,hL,hfs,fun v z=>by
   have z':Lv _ _=Lq v:=z;cases z'⟩
 ·exact I1.pin p (BH _ hp)
section
variable{prog:A5}{w:AJ}{A:Bv}{R:Kn->Aq->Prop}{s:Aq}
theorem Zz{target:Ar}{it acc:Ai}(I:Ag->Aq->Prop)(turn:∀ n s,I n s->Ax (model prog w) A (Ej it) (fun r s₁=>match r with
      |none=>R (.ok .next) s₁
      | some v=>Ax (model prog w) A (GH target it v) (fun _ s₁'=>Ax (model prog w) A (assign target env v) (fun _ s₂=>
          Ax (model prog w) A (forIn ifs Aa fun c r=>if r=Aa then do let ok <-IN c env (eval c env);pure (EW ok) else pure (EW r)) (fun ok s₃=>
            if ok=Aa then Ax (model prog w) A (eval elt env) (fun x s₄=>
              Ax (model prog w) A (call (.builtin "list.append") [acc,x]) (fun _ s₅=>∃ m,m<n/\I m s₅) (IQ (model prog w) A env fun e s'=>R (.error e) s') s₄) (IQ (model prog w) A env fun e s'=>R (.error e) s') s₃
            else ∃ m,m<n/\I m s₃) (IQ (model prog w) A env fun e s'=>R (.error e) s') s₂) (IQ (model prog w) A env fun e s'=>R (.error e) s') s₁') (IQ (model prog w) A env fun e s'=>R (.error e) s') s₁) (IQ (model prog w) A env fun e s'=>R (.error e) s') s)(n:Ag)(h:I n s):DU (model prog w) A (.compLoop (.ListComp elt [⟨target,iter,ifs,0⟩] scope pos) 0 it acc env) R s:=by
  refine codeAny_loop rfl I (fun n s hI=>?_) n h
  show Ax _ A ((compTurn (.ListComp elt [⟨target,iter,ifs,0⟩] scope pos) 0 it acc env).onRaise (fun x=>do noteFrame x env;theTreesLotGoes x)) _ _ s
  refine wpAny_noted ?_;rw[compTurn_list];refine Ah (Hj (Ah (CK (turn n s hI) (fun r s₁ h₁=>?_) fun _ _ h'=>h')))
  cases r with
  |none=>exact As h₁
  |some v=>
    refine Ah (CK h₁ (fun _ s₁' h₁'=>?_) fun _ _ h'=>h')
    refine Ah (CK h₁' (fun _ s₂ h₂=>Ah (CK h₂ (fun ok s₃ h₃=>?_) fun _ _ h'=>h')) fun _ _ h'=>h')
    cases ok with
    |false=>exact As ⟨rfl,h₃⟩
    |true=>
      exact Ah (Ah (CK h₃ (fun x s₄ h₄=>Ah (CK h₄ (fun _ s₅ h₅=>As (As ⟨rfl,h₅⟩)) fun _ _ h'=>h')) fun _ _ h'=>h'))
end
def LY(J:It)(ts:Ac Ag)(g:TG)(tt:TT)(te:TE)(σ:L2.St)(H:Hp)(Q:VK):Prop:=∃ W:Ag->Ag->Ac V->L2.St->Hp->Prop,(∃ m,W 0 m [] (hideT ts σ) H)/\∀ i m xs σ H,W i m xs σ H ->
 (J.stop i H/\∀ p,H p=Af->Q (.ref p) (upd H p (.lst xs))) \/
 (J.go i H/\xs.length<sizeLine/\∀ x H',J.yld i H x H'->g x σ H' fun σ2 H2=>tt σ2 H2 fun b H3=>if b=Aa then te σ2 H3 fun y H4=>∃ m',m'<m/\W (i+1) m' (xs++[y]) σ2 H4 else ∃ m',m'<m/\W (i+1) m' xs σ2 H3)
theorem Td{g:TG}{it:Ak}{tn:Ag->AQ->Prop}{E:Vq}{RR:Ai->Ak->Kn->Aq->Prop}(hc:X.calm=Aa)(B:BlockOk X scope N' ts)(I:Inv X pI σ H s)(T:Turn X.prog X.w X.K tg J fp it tn)(st:tn 0 s.heap)(hf:∀ b∈fp,G6 X pI H b)(hcl:∀ x c,cl.lookup x=Ab c->X.env.cells.lookup x=Ab c)(hcl2:∀ x,(x,Ec)∈scope.names->∃ c,cl.lookup x=Ab c)(hg:∀ cl C s H,PG (cxC X scope cl C N' s H fp) tg g)(ht:∀ cl C s H,PTs (cxC X scope cl C N' s H fp) ifs tt)(he:∀ cl C s H,PE (cxC X scope cl C N' s H fp) elt te)(h:LY J ts g tt te σ H Q)(hRR:∀ cl D C s' H' σ' pins' xs ys n m,Inv (cxC X scope cl C N' s H fp) pins' σ' H' s'->s'.heap.get? D=Ab { cls:=.type "list", data:=.seq (BA ys) n }->H' D=Af->Bq xs ys->xs.length<=sizeLine->s.heap.objs.size<=D->D≠C->s.heap.objs.size<=C->s'.heap.Ns C m->Q (.ref D) (upd H' D (.lst xs))->RR (.ref D) C (.ok .next) s'):Ax (model X.prog X.w) X.A (newList []) (fun acc s₃=>Ax (model X.prog X.w) X.A (IP scope X.env.globals cl [] X.env.qual Af .none (Ab X.env)) (fun cenv s₄=>DU (model X.prog X.w) X.A (.compStart (.ListComp elt [⟨tg,iter,ifs,0⟩] scope pos) 0 (.ref it) acc {cenv with scope:=relabel scope X.env}) (RR acc cenv.locals) s₄) E s₃) E s:=by
 refine B8 (Zk ?_);dsimp only;generalize hH2:s.heap.push { cls:=.type "list", dict:=Af,data:=.seq ([]:Ac Ai).toArray }=H2;have hns₁:(Hd (H2.push { cls:=.type "dict", data:=.dict #[] }) scope.names).Ns H2.objs.size (fun _=>Af):=(Heap.Ns.new H2 (.type "dict")).keeps (Ip _ _)
 have hkp₁:∀ b o,H2.get? b=Ab o->(Hd (H2.push { cls:=.type "dict", data:=.dict #[] }) scope.names).get? b=Ab o:=fun b o e=>Ip _ _ b o (Ao _ e)
 have hown:=OS scope.names (H2.push { cls:=.type "dict", data:=.dict #[] }) cl;have hinj:=OT scope.names (H2.push { cls:=.type "dict", data:=.dict #[] }) cl;rw[Bi]at hown hinj;generalize hcl':Dy (H2.objs.size+1) scope.names cl=cl' at hown hinj;have hcf:∀ x,(x,Ci)∉scope.names->cl'.lookup x=cl.lookup x:=fun x hx=>by rw[<-hcl'];exact OF _ _ _ x hx
 have hch:∀ x,(x,Ci)∈scope.names->∃ c,cl'.lookup x=Ab c/\H2.objs.size+1<=c:=fun x hx=>by rw[<-hcl'];exact OU _ _ _ _ x (AS _) (.inl hx)
 generalize hh₁:Hd (H2.push { cls:=.type "dict", data:=.dict #[] }) scope.names=h₁ at hns₁ hkp₁ hown;have hC:H2.objs.size=s.heap.objs.size+1:=by rw[<-hH2,Bi]
 have hCle:s.heap.objs.size<=H2.objs.size:=by rw[hC];exact Ha _
 have hDC:s.heap.objs.size≠H2.objs.size:=by rw[hC];exact AT (EB _)
 have below:∀ b,b<s.heap.objs.size->b≠H2.objs.size:=fun b hb=>by rw[hC];exact AT (C3 hb)
 have old:∀ b o,s.heap.get? b=Ab o->h₁.get? b=Ab o:=fun b o e=>hkp₁ b o (hH2 ▸ Ao _ e)
 have hacc:h₁.get? s.heap.objs.size=Ab { cls:=.type "list", data:=.seq ([]:Ac Ai).toArray 0 }:=hkp₁ _ _ (hH2 ▸ Aw _ rfl);have clt:∀ x c,cl.lookup x=Ab c->c<s.heap.objs.size:=fun x c e=>by
  obtain⟨v,q⟩:=I.cell x c (hcl x c e);exact q.lt
 have bc:BCells X scope cl' H2.objs.size h₁:=by
  refine⟨fun x c e=>?_,hinj (fun x y c e1 e2=>I.ok.inj x y c (hcl x c e1) (hcl y c e2)) (fun x c e=>C3 (Az (clt x c e) hCle)),fun x hx=>?_,fun x hx=>?_⟩
  ·rcases hown x c e with q|⟨q1,q2,q3⟩
   ·exact .inl (hcl x c q)
   ·exact .inr ⟨B.uniq _ q1,q2,q3⟩
  ·have hm:=C5 hx;obtain⟨c,e,hc⟩:=hch x hm;exact⟨c,e,hc⟩
  ·have hno:(x,Ci)∉scope.names:=fun z=>by
    have e1:=B.uniq _ hx;have e2:=B.uniq _ z;rw[show scope.names.lookup x=_ from e1]at e2
    cases e2
   obtain⟨c,e⟩:=hcl2 x hx;exact⟨c,by rw[hcf x hno];exact e,hcl x c e⟩
 have hfo:∀ b∈fp,b<s.heap.objs.size:=fun b hb=>by
  obtain⟨o,e,_⟩:=T.obj 0 _ st b hb;exact AC e
 generalize hD:s.heap.objs.size=D at *;generalize hC':H2.objs.size=C at *;have I0:Inv (cxC X scope cl' C N' s H fp) [] (hideT ts σ) H {s with heap:=h₁,toks:=s.toks+([]:Ac (Al×Ai)).length}:=ZA (tk:=s.toks+([]:Ac (Al×Ai)).length) I B hf (fun b hb=>by rw[hD];exact hfo b hb) bc old (by rw[hD];exact hCle) hns₁
 have nD:H D=Af:=I.hok.fresh (by rw[hD];exact AS _)
 have noD:∀ b∈fp,b≠D:=fun b hb=>AT (hfo b hb)
 have noC:∀ b∈fp,b≠C:=fun b hb=>below b (hfo b hb)
 have stfs:D∉frs X.stack:=fun z=>by
  obtain⟨_,o,ho,_⟩:=I.stack.mem z;exact absurd (AC ho) (by rw[hD];exact Bw _)
 have cD:∀ x c,cl'.lookup x=Ab c->c≠D:=fun x c e z=>by
  rcases bc.own x c e with q|⟨_,q,_⟩
  ·obtain⟨v,q⟩:=I.cell x c q;exact absurd q.lt (by rw[z,hD];exact Bw _)
  ·rw[z]at q;exact absurd (Az q hCle) (Bw _)
 have I1:Inv (cxC X scope cl' C N' s H fp) [(D,{ cls:=.type "list", data:=.seq ([]:Ac Ai).toArray 0 })] (hideT ts σ) H {s with heap:=h₁,toks:=s.toks+([]:Ac (Al×Ai)).length}:=I0.pins_of fun p hp=>by
  have e:=BK.mp hp;subst e;exact⟨hacc,nD,hDC,stfs,fun v z=>by
   have z':Lv _ _=Lq v:=z;cases z'⟩
 have st1:tn 0 h₁:=T.keep _ _ _ st fun b _ o e=>old b o e
 obtain⟨W,⟨m0,w0⟩,turn⟩:=h;have fpk:∀{pl:Pn}{H':Hp},(∀ p∈pl,p.1=D)->(∀ b∈fp,H' b=Af)->∀ b∈fp,G6 (cxC X scope cl' C N' s H fp) pl H' b:=fun {pl H'} hp hn b hb=>
  ⟨hn b hb,noC b hb,fun z=>by
   rcases Ay.mp (I.stkSub b z) with e|e
   ·exact(hf b hb).2.1 e
   ·exact(hf b hb).2.2.1 e,.inl hb,fun x c e=>(bc.own x c e).elim ((hf b hb).2.2.2.2.1 x c) (fun z q=>absurd (BX hCle z.2.1) (EZ.mpr (by rw[q];exact D4 (hfo b hb)))),fun p hp'=>by
   have hp2:p∈pl:=hp';rw[hp p hp2];exact(noD b hb).symm⟩
 have loop:∀ s₃:Aq,s₃={s with heap:=h₁,toks:=s.toks+([]:Ac (Al×Ai)).length} ->
   DU (model X.prog X.w) X.A (.compLoop (.ListComp elt [⟨tg,iter,ifs,0⟩] scope pos) 0 (.ref it) (.ref D) (compEnvC scope cl' C X.env)) (RR (.ref D) C) s₃:=by
  rintro s₃ rfl;refine Zz (fun k s'=>∃ i σ' H' xs ys n,Inv (cxC X scope cl' C N' s H fp) [(D,{ cls:=.type "list", data:=.seq (BA ys) n })] σ' H' s'/\tn i s'.heap/\(∀ b∈fp,H' b=Af)/\Bq xs ys/\xs.length<=sizeLine/\W i k xs σ' H') ?_ m0
   ⟨0,_,H,[],[],0,I1,st1,fun b hb=>(hf b hb).1,.nil,Di _,w0⟩
  rintro k s' ⟨i,σ',H',xs,ys,n,I',st',fr',rv,hz,w'⟩;have one:∀ p∈[((D,{ cls:=.type "list", data:=.seq (BA ys) n }):Ak×Dz)],p.1=D:=fun p hp=>by rw[BK.mp hp]
  rcases turn i k xs σ' H' w' with ⟨stop,q⟩|⟨go,hlt,step⟩
  ·refine CK (T.done (cxC X scope cl' C N' s H fp) rfl rfl rfl hc i _ s' σ' H' (fun _ _=>BF) I' (fpk one fr') st' stop) (fun r s1 ⟨hr,J1⟩=>?_) fun _ _ f=>f.elim
   subst hr;obtain⟨e,hn,_⟩:=J1.pin _ (BH _ AB);obtain⟨m,hm,_⟩:=J1.loc;exact hRR cl' D C s1 H' σ' _ xs ys n m J1 e hn rv hz (AS _) hDC hCle hm (q D hn)
  ·refine CK (T.item (cxC X scope cl' C N' s H fp) rfl rfl rfl hc i _ s' σ' H' (fun _ _=>BF) I' (fpk one fr') st' go) (fun r s1 ⟨u,hr,h4⟩=>?_) fun _ _ f=>f.elim
   subst hr;refine CK h4 (fun _ s5 ⟨x,H5,I5,r5,y5,st5,fr5⟩=>?_) fun _ _ f=>f.elim
   have I5':=I5.pinned (fpk one fr5) (T.obj _ _ st5);refine CK (hg cl' C s H _ s5 σ' H5 x u _ I5' r5 (step x H5 y5)) (fun _ s6 ⟨σ6,H6,I6,q6⟩=>?_) fun _ _ f=>f.elim
   refine CK (ht cl' C s H _ s6 σ6 H6 _ I6 q6) (fun ok s7 ⟨H7,I7,q7⟩=>?_) fun _ _ f=>f.elim
   have again:∀{s8:Aq}{H8:Hp}{ys':Ac Ai}{n':Ag},Inv (cxC X scope cl' C N' s H fp) ((D,{ cls:=.type "list", data:=.seq (BA ys') n' })::J8 fp s5.heap) σ6 H8 s8->Inv (cxC X scope cl' C N' s H fp) [(D,{ cls:=.type "list", data:=.seq (BA ys') n' })] σ6 H8 s8/\tn (i+1) s8.heap/\∀ b∈fp,H8 b=Af:=fun {s8 H8 ys' n'} I8=>
    ⟨I8.pins_of fun p hp=>I8.pin p (BH _ (by rw[BK.mp hp];exact AB)),T.keep _ _ _ st5 fun b hb o e=>(I8.pin (b,o) (BH _ (Av _ (MK hb e)))).1,fun b hb=>by
     obtain⟨o,e,d⟩:=T.obj _ _ st5 b hb;exact(I8.pin (b,o) (BH _ (Av _ (MK hb e)))).2.1⟩
   cases ok with
   |false=>
    rw[AH (by decide)]at q7
    obtain⟨m',hm,w7⟩:=q7;obtain⟨a1,a2,a3⟩:=again I7;rw[AH (by decide)]
    exact⟨m',hm,i+1,σ6,H7,xs,ys,n,a1,a2,a3,rv,hz,w7⟩
   |true=>
    rw[AD rfl]at q7;rw[AD rfl];refine CK (he cl' C s H _ s7 σ6 H7 _ I7 q7) (fun val s8 ⟨y,H8,I8,r8,m',hm,w8⟩=>?_) fun _ _ f=>f.elim
    have hl:=rv.length;refine ZO (X:=cxC X scope cl' C N' s H fp) (ys:=ys) (n:=n) (pI:=J8 fp s5.heap) I8 (by show s.heap.objs.size<=D;rw[hD];exact AS _) (fun p hp=>?_) cD (by omega) fun s9 I9 kb=>?_
    ·have hp2:p∈J8 fp s5.heap:=hp;exact noD _ (SF hp2).1
    ·obtain⟨a1,a2,a3⟩:=again I9;exact⟨m',hm,i+1,σ6,H8,xs++[y],ys++[val],n+1,a1,a2,a3,rv.append (.cons r8 .nil),by rw[Cz];exact hlt,w8⟩
 exact codeAny_compStart_list (loop _ rfl) (T.self _ 0 _ _ _ st1 (loop _ rfl))
theorem jG{g:TG}(hc:X.calm=Aa)(B:BlockOk X scope N' ts)(hi:PI X tg iter wi)(hg:∀ cl C s H fp,PG (cxC X scope cl C N' s H fp) tg g)(ht:∀ cl C s H fp,PTs (cxC X scope cl C N' s H fp) ifs tt)(he:∀ cl C s H fp,PE (cxC X scope cl C N' s H fp) elt te)(hs:∀ x,Dr iter X.env x=pure x):PE X (.ListComp elt [⟨tg,iter,ifs,0⟩] scope pos) (fun σ H Q=>wi σ H fun J H1=>LY J ts g tt te σ H1 Q):=by
 intro pI s σ H Q I h;obtain⟨cl,hclos,hcl,hcl2⟩:=Sh (scope:=scope) (env:=X.env) fun x hx hk=>I.ok.has x.1 ((B.free x hx hk).imp id id)
 rw[eval_ListComp];refine Yq (use:=Af) rfl hs hclos B.kind B.names (thn (hi pI s σ H _ I h) fun v s1 h1=>thn h1 fun itv s2 h2=>?_)
 obtain⟨it,fp,tn,J,H2,e,I2,T,st2,f2,h3⟩:=h2;subst e;refine Td (RR:=fun acc C=>compPost (model X.prog X.w) X.A X.xe Af (EP X pI σ Q) acc C) hc B I2 T st2 f2 hcl hcl2 (fun cl C s H=>hg cl C s H fp) (fun cl C s H=>ht cl C s H fp) (fun cl C s H=>he cl C s H fp) h3 fun cl' D C s' H' σ' pins' xs ys n m I' hd hDn rv hz hD hDC hC hm q=>?_
 exact⟨m,hm,fun h'' hs''=>⟨.ref D,_,Sr I2 f2 I' hD hDC hC hd hDn rv hz hs'',rfl,q⟩⟩
theorem jA{n:Al}{g:TG}(hc:X.calm=Aa)(B:BlockOk X scope N' ts)(hi:PI X tg iter wi)(hg:∀ cl C s H fp,PG (cxC X scope cl C N' s H fp) tg g)(ht:∀ cl C s H fp,PTs (cxC X scope cl C N' s H fp) ifs tt)(he:∀ cl C s H fp,PE (cxC X scope cl C N' s H fp) elt te)(hs:∀ x,Dr iter X.env x=pure x)(hN:X.N.Nodup)(hni:X.N[i]?=Ab n)(hx:X.env.scope.names.lookup n=Ab .local)(hsw:D6 (.ListComp elt [⟨tg,iter,ifs,0⟩] scope pos) (Ab (.Name n pos')) pos2.line X.env=pure Aa):PS X (.Assign [.Name n pos'] (.ListComp elt [⟨tg,iter,ifs,0⟩] scope pos) pos2) (NM (fun σ H Q=>wi σ H fun J H1=>LY J ts g tt te σ H1 Q) (FA i)):=by
 intro pI s σ H Dn I h;obtain⟨cl,hclos,hcl,hcl2⟩:=Sh (scope:=scope) (env:=X.env) fun x hx hk=>I.ok.has x.1 ((B.free x hx hk).imp id id)
 rw[exec_Assign_Name_used _ _ _ _ hsw];refine Ah (Hj (Ah ?_));show Ax _ X.A (do let _ <-comprehension (.ListComp elt [⟨tg,iter,ifs,0⟩] scope pos) scope X.env _ (newList []) Ae (eval iter X.env) (Ab (assign (.Name n pos') X.env))) _ _ s
 refine Ah (CK (Yq (use:=Ab (assign (.Name n pos') X.env)) (Q:=fun _ s'=>SP X pI Dn .next s') rfl hs hclos B.kind B.names
  (thn (hi pI s σ H _ I h) fun v s1 h1=>thn h1 fun itv s2 h2=>?_)) (fun _ s' hq=>As (As hq)) fun _ _ e=>e)
 obtain⟨it,fp,tn,J,H2,e,I2,T,st2,f2,h3⟩:=h2;subst e;refine Td (RR:=fun acc C=>compPost (model X.prog X.w) X.A X.xe (Ab (assign (.Name n pos') X.env)) (fun _ s'=>SP X pI Dn .next s') acc C) hc B I2 T st2 f2 hcl hcl2 (fun cl C s H=>hg cl C s H fp) (fun cl C s H=>ht cl C s H fp) (fun cl C s H=>he cl C s H fp) h3 fun cl' D C s' H' σ' pins' xs ys n' m I' hd hDn rv hz hD hDC hC hm q=>?_
 have J0:Inv X pI σ (upd H' D (.lst xs)) s':=Sr I2 f2 I' hD hDC hC hd hDn rv hz (XS ..);refine Yp (RW J0 hN hni (.inl hx) (show BZ (.ref D) (.ref D) from rfl) (fun s'' J1 ⟨a,sb,ha⟩=>?_) (.inr hx))
 have hC0:X.s₀.heap.objs.size<=C:=BD I2.sz hC;have hL:C≠X.env.locals:=fun z=>absurd (Az I2.lt (z ▸ hC)) (Bw _)
 have hcC:∀ x c,X.env.cells.lookup x=Ab c->c≠C:=fun x c e z=>by
  obtain⟨v,q'⟩:=I2.cell x c e;exact absurd (Az q'.lt (by rw[z];exact hC)) (Bw _)
 have hp:∀ p∈X.pn++pI,p.1≠C:=fun p hp z=>absurd (Az (AC (I2.pin p hp).1) (by rw[z];exact hC)) (Bw _)
 have hCn:upd H' D (.lst xs) C=Af:=by rw[Dm hDC.symm];exact I'.free
 have hCa:C≠a:=by
  rcases ha with rfl|ha
  ·exact hL
  ·exact fun z=>hcC n a ha z.symm
 refine⟨m,hm.sameBut sb hCa,fun h'' hs''=>⟨_,_,J1.turned (t':=s''.toks) (fun b o hb e=>(hs''.2 b hb).trans e) hCn hL (.inr hC0) hcC hp,q⟩⟩
theorem KG:∀(ts:Ac Ag)(ρ:Rho)(j:Ag),(FR ts ρ)[j]?=if j∈ts then (ρ[j]?).map (fun _=>Af) else ρ[j]?
 |[],ρ,j=>by simp[FR]
 |t::ts,ρ,j=>by
  show (FR ts (ρ.set t Af))[j]?=_;rw[KG ts];by_cases h1:j∈ts
  ·rw[AD h1,AD (Av _ h1)];by_cases h2:t=j
   ·subst h2;rw[FV];cases ρ[t]?<;>rfl
   ·rw[Dl h2]
  ·rw[AH h1];by_cases h2:t=j
   ·subst h2;rw[AD AB,FV];cases ρ[t]?<;>rfl
   ·rw[Dl h2,AH (by simp only[Ay,El];exact⟨fun z=>h2 z.symm,h1⟩)]
theorem MX:∀(ts:Ac Ag)(ρ:Rho),(FR ts ρ).length=ρ.length
 |[],_=>rfl
 |t::ts,ρ=>by show (FR ts (ρ.set t Af)).length=_;rw[MX ts,Bz]
theorem OC:∀(ts:Ac Ag)(σ:L2.St){i:Ag},i∉ts->(hideT ts σ)[i]?=σ[i]?
 |[],_,_,_=>rfl
 |t::ts,σ,i,h=>by
  simp only[Ay,El]at h;show (hideT ts (σ.set t Af))[i]?=_;rw[OC ts _ h.2,Dl (fun z=>h.1 z.symm)]
theorem RN:∀(ts:Ac Ag)(ds:Ac D)(ρ1 ρ2:Rho),ρ1.length=ρ2.length->(∀ j,j∉ts->ρ1[j]?=ρ2[j]?)->Fj ts ds ρ1=Fj ts ds ρ2
 |[],[],ρ1,ρ2,hl,h=>congrArg Ab (WN fun j=>h j (by simp))
 |[],_::_,_,_,_,_=>rfl
 |_::_,[],_,_,_,_=>rfl
 |t::ts,d::ds,ρ1,ρ2,hl,h=>by
  refine RN ts ds _ _ (by rw[Bz,Bz];exact hl) fun j hj=>?_
  by_cases e:t=j
  ·subst e;rw[Hv,Hv,AD rfl,AD rfl,hl]
  ·rw[Dl e,Dl e];exact h j (by simp only[Ay,El];exact⟨fun z=>e z.symm,hj⟩)
theorem RV:∀(ts us:Ac Ag)(ds:Ac D)(ρ ρ':Rho),(∀ t∈ts,t∈us)->Fj ts ds ρ=Ab ρ'->FR us ρ'=FR us ρ
 |[],us,[],ρ,ρ',_,e=>by cases e;rfl
 |t::ts,us,d::ds,ρ,ρ',hs,e=>by
  rw[RV ts us ds _ ρ' (fun u hu=>hs u (Av _ hu)) e]
  refine WN fun j=>?_
  rw[KG,KG];by_cases h:j∈us
  ·rw[AD h,AD h,Hv];split
   ·rename_i e2;subst e2;split
    ·rename_i h3;rw[AU h3];rfl
    ·rename_i h3;rw[List.getElem?_eq_none (by omega)]
   ·rfl
  ·rw[AH h,AH h,Dl];rintro rfl;exact h (hs _ AB)
 |[],_,_::_,_,_,_,e=>by cases e
 |_::_,_,[],_,_,_,e=>by cases e
section
variable{K:Fg}{CL:ClA}{A:Ak->Prop}{ρ ρ':Rho}{σ:L2.St}{H:Hp}
theorem Good.less(g:Good K CL A ρ σ H)(hl:ρ'.length=ρ.length)(h:∀(i:Ag)(d:D)(o:Ap),ρ'[i]?=Ab (Ab (d,o))->ρ[i]?=Ab (Ab (d,o))):Good K CL A ρ' σ H:=⟨fun i d e=>g.sh i d (h i d Ae e),fun i d e=>g.ow i d (h i d Aa e),hl.trans g.len⟩
theorem Good.put(g:Good K CL A ρ σ H)(t:Ag)(r:Rep K CL H A v d):Good K CL A (ρ.set t (Ab (d,Ae))) (σ.set t (Ab v)) H:=by
 refine⟨fun j e h=>?_,fun j e h=>?_,by rw[Bz,Bz];exact g.len⟩
 ·by_cases hj:t=j
  ·subst hj;have e1:=HS h;cases e1;have hl:t<σ.length:=by
    rw[<-g.len];have:=(A6.mp h).1;simpa using this
   exact⟨v,by rw[Dt hl],r⟩
  ·rw[Dl hj]at h;obtain⟨w',q,rw'⟩:=g.sh j e h;exact⟨w',by rw[Dl hj];exact q,rw'⟩
 ·have hj:t≠j:=by
   rintro rfl;have:=HS h;cases this
  rw[Dl hj]at h;obtain⟨a,xs,ds,q,z⟩:=g.ow j e h;exact⟨a,xs,ds,by rw[Dl hj];exact q,z⟩
theorem Good.hide(g:Good K CL A ρ σ H)(ts:Ac Ag):Good K CL A (FR ts ρ) σ H:=g.less (MX _ _) fun i d o e=>by
 rw[KG]at e;split at e
 ·cases q:ρ[i]? with
  |none=>rw[q]at e;cases e
  |some x=>rw[q]at e;cases e
 ·exact e
theorem Good.hideT(g:Good K CL A ρ σ H)(ts:Ac Ag):Good K CL A (FR ts ρ) (hideT ts σ) H:=by
 have key:∀ i x,(FR ts ρ)[i]?=Ab (Ab x)->ρ[i]?=Ab (Ab x)/\i∉ts:=fun i x e=>by
  rw[KG]at e;split at e
  ·cases q:ρ[i]? with
   |none=>rw[q]at e;cases e
   |some x=>rw[q]at e;cases e
  ·exact⟨e,by assumption⟩
 refine⟨fun i d e=>?_,fun i d e=>?_,by rw[MX,ON];exact g.len⟩
 ·obtain⟨e1,e2⟩:=key i _ e;obtain⟨v,q,r⟩:=g.sh i d e1;exact⟨v,by rw[OC _ _ e2];exact q,r⟩
 ·obtain⟨e1,e2⟩:=key i _ e;obtain⟨a,xs,ds,q,r⟩:=g.ow i d e1;exact⟨a,xs,ds,by rw[OC _ _ e2];exact q,r⟩
end
def GG(K:Fg)(CL:ClA)(ts:Ac Ag)(as:D->Rho->R Rho)(g:TG):Prop:=∀ A ρ σ H v d ρ' Q,Good K CL A (FR ts ρ) σ H->Rep K CL H A v d->as d ρ=.ok ρ'->(∀ σ',Good K CL A ρ' σ' H->Good K CL A (FR ts ρ) σ' H->Q σ' H)->g v σ H Q
theorem kX(i:Ag):GG K CL [i] (fun d ρ=>.ok (ρ.set i (Ab (d,Ae)))) (FA i):=fun A ρ σ H v d ρ' Q g r e k=>by
 cases e;have g2:=g.put i r;have e1:(FR [i] ρ).set i (Ab (d,Ae))=ρ.set i (Ab (d,Ae)):=by
  show (ρ.set i Af).set i (Ab (d,Ae))=_;rw[W8]
 rw[e1]at g2;refine k _ g2 ?_;have:=g2.hide [i];have e2:FR [i] (ρ.set i (Ab (d,Ae)))=FR [i] ρ:=by
  show (ρ.set i _).set i Af=ρ.set i Af;rw[W8]
 rw[e2]at this;exact this
theorem TZ{K:Fg}{CL:ClA}{A:Ak->Prop}{H:Hp}:∀(ts:Ac Ag)(ds:Ac D)(vs:Ac V)(ρ ρ':Rho)(σ:L2.St)(Q:L2.St->Hp->Prop),Good K CL A ρ σ H->Reps K CL H A vs ds->Fj ts ds ρ=Ab ρ'->(∀ σ',Good K CL A ρ' σ' H->Q σ' H)->(ts.foldr (fun t u=>H9 (FA t) u) Ie) vs σ H Q
 |[],[],[],ρ,ρ',σ,Q,x,_,e,k=>by
  cases e;exact⟨rfl,k σ x⟩
 |t::ts,d::ds,v::vs,ρ,ρ',σ,Q,x,r,e,k=>⟨v,vs,rfl,TZ ts ds vs _ ρ' _ Q (x.put t r.1) r.2 e k⟩
 |[],_::_,_,_,_,_,_,_,_,e,_=>by cases e
 |_::_,[],_,_,_,_,_,_,_,e,_=>by cases e
 |[],[],_::_,_,_,_,_,_,r,_,_=>r.elim
 |_::_,_::_,[],_,_,_,_,_,r,_,_=>r.elim
theorem pR(ts:Ac Ag):GG K CL ts (GJ ts) (Lg K ts.length (ts.foldr (fun t u=>H9 (FA t) u) Ie)):=fun A ρ σ H v d ρ' Q g r e k=>by
 cases d with
 |tup ds=>
  obtain⟨a,xs,rfl,na,sq,rs⟩:=r;rw[Sj]at e;cases e2:Fj ts ds ρ with
  |none=>rw[e2]at e;cases e
  |some ρ2=>
   rw[e2]at e;cases e;have e3:Fj ts ds (FR ts ρ)=Ab ρ':=by
    rw[<-e2];exact RN ts ds _ _ (MX _ _) fun j hj=>by rw[KG,AH hj]
   refine⟨a,xs,rfl,sq,by rw[rs.length];exact MP _ _ _ _ e2,TZ ts ds xs _ ρ' σ Q g rs e3 fun σ' g'=>k σ' g' ?_⟩
   have:=g'.hide ts;rw[RV ts ts ds ρ ρ' (fun _ h=>h) e2]at this
   exact this
 |_=>cases e
noncomputable abbrev W0:XW:=fun _ _=>BF
def STs(X:Cx)(CL:ClA)(ifs:Ac Ar)(f:Rho->R Ap):Prop:=∀ A,PTs X ifs (fun σ H Q=>AOk H A/\∃ ρ,Good X.K CL A ρ σ H/\Dx W0 H (f ρ) Q)
theorem eS:STs X CL [] (fun _=>.ok Aa):=fun A pI s σ H Q I ⟨hA,ρ,g,p⟩=>iX pI s σ H Q I (p H (AN.refl H))
theorem eR(h:SB X CL W0 c f):STs X CL [c] f:=fun A pI s σ H Q I q=>iV (h A) pI s σ H Q I q
section
variable{X:Cx}{CL:ClA}{W:XW}{tg iter elt:Ar}{ifs:Ac Ar}{scope:CP}{pos:A8}{N':Ac Al}{ts:Ac Ag}{fi:Rho->R (Ac D)}{fc:Rho->R Ap}{fe:Rho->R D}{as:D->Rho->R Rho}{g:TG}
theorem Zp{g:D->R Ap}{f:D->R D}{x:D}{xs ys:Ac D}(h:BP g f (x::xs)=.ok ys):(g x=.ok Ae/\BP g f xs=.ok ys)\/∃ y r,g x=.ok Aa/\f x=.ok y/\BP g f xs=.ok r/\ys=y::r:=by
 unfold BP at h;cases e:g x with
 |bad=>rw[e]at h;cases h
 |exn z=>rw[e]at h;cases h
 |ok b=>
  rw[e,R.bind_ok]at h;cases b with
  |false=>exact .inl ⟨rfl,h⟩
  |true=>
   rw[AD rfl]at h;cases e2:f x with
   |bad=>rw[e2]at h;cases h
   |exn z=>rw[e2]at h;cases h
   |ok y=>
    rw[e2,R.bind_ok]at h;cases e3:BP g f xs with
    |bad=>rw[e3]at h;cases h
    |exn z=>rw[e3]at h;cases h
    |ok r=>
     rw[e3,R.bind_ok]at h;cases h;exact .inr ⟨y,r,rfl,rfl,rfl,rfl⟩
theorem JZ{β:Type}{r:R α}{f:α->R β}{b:β}(h:r.bind f=.ok b):∃ a,r=.ok a/\f a=.ok b:=by
 cases r with
 |ok a=>exact⟨a,rfl,h⟩
 |exn x=>cases h
 |bad=>cases h
theorem bD{ds ys:Ac D}(hGG:GG K CL ts as g)(hA:AOk H1 A)(gd:Good K CL A ρ σ H1)(yl:Jm K CL A ds J H1)(hz:ds.length<=sizeLine)(hcp:BP (fun x=>(as x ρ).bind fc) (fun x=>(as x ρ).bind fe) ds=.ok ys)(q:∀ xs H2,AN H1 H2->Reps K CL H2 A xs ys->∀ p,H2 p=Af->Q (.ref p) (upd H2 p (.lst xs))):LY J ts g (fun σ H Q=>AOk H A/\∃ ρ,Good K CL A ρ σ H/\Dx W0 H (fc ρ) Q) (fun σ H Q=>AOk H A/\∃ ρ,Good K CL A ρ σ H/\Bt (fun H=>Rep K CL H A) W0 H (fe ρ) Q) σ H1 Q:=by
 refine⟨fun i m xs σ' H'=>m=ds.length-i/\i<=ds.length/\xs.length<=i/\AN H1 H'/\Good K CL A (FR ts ρ) σ' H'/\∃ outs rest,Reps K CL H' A xs outs/\BP (fun x=>(as x ρ).bind fc) (fun x=>(as x ρ).bind fe) (ds.drop i)=.ok rest/\ys=outs++rest,
  ⟨ds.length,by simp,Di _,AS _,AN.refl _,gd.hideT ts,[],ys,trivial,hcp,rfl⟩,?_⟩
 rintro i m xs σ' H' ⟨rfl,hi,hxl,sm,g',outs,rest,rs,hc,e⟩;obtain⟨yst,ygo⟩:=yl H' (Kp.of sm) i;by_cases hlt:i<ds.length
 ·have hd:ds[i]?=Ab ds[i]:=AU hlt;obtain⟨hgo,hyl⟩:=ygo _ hd;refine .inr ⟨hgo,by omega,fun x H2 hx=>?_⟩
  obtain⟨s2,rx⟩:=hyl x H2 hx;have rx':=rx A (fun a ha=>.inl ha) (hA.same sm)
  rw[FC hlt]at hc;have sm2:=sm.trans s2;rcases Zp hc with ⟨h1,h2⟩|⟨y,r,h1,h2,h3,h4⟩
  ·obtain⟨ρ',ea,ec⟩:=JZ h1;refine hGG A ρ σ' H2 x ds[i] ρ' _ (g'.same s2) rx' ea fun σ3 g3 g4=>⟨hA.same sm2,ρ',g3,?_⟩
   rw[ec];exact fun H3 s3=>by
    dsimp only;rw[AH (by decide)]
    exact⟨ds.length-(i+1),by omega,rfl,hlt,by omega,sm2.trans s3,g4.same s3,outs,rest,(rs.same s2).same s3,h2,e⟩
  ·obtain⟨ρ',ea,ec⟩:=JZ h1;obtain⟨ρ2,ea2,ee⟩:=JZ h2;rw[ea]at ea2;cases ea2;refine hGG A ρ σ' H2 x ds[i] ρ' _ (g'.same s2) rx' ea fun σ3 g3 g4=>⟨hA.same sm2,ρ',g3,?_⟩
   rw[ec];exact fun H3 s3=>by
    dsimp only;rw[AD rfl];refine⟨(hA.same sm2).same s3,ρ',g3.same s3,?_⟩;rw[ee];exact fun v H4 s4 r4=>⟨ds.length-(i+1),by omega,rfl,hlt,by rw[Cz,WV];omega,(sm2.trans s3).trans s4,(g4.same s3).same s4,outs++[y],r,(((rs.same s2).same s3).same s4).append ⟨r4,trivial⟩,h3,by rw[e,h4];simp⟩
 ·have hk':ds.length<=i:=by omega
  rw[WL hk']at hc;have hr:rest=[]:=by cases hc;rfl
  subst hr;rw[DD]at e;subst e;exact .inl ⟨yst hk',fun p hp=>q xs H' sm rs p hp⟩
theorem Fm.ok_of{r:R (Ac D)}{f:Ac D->R D}{Q':It->Hp->Prop}(h:Bt Rq W H (r.bind f) Q)(k:∀ ds J H',r=.ok ds->AN H H'->Jm K CL A ds J H'->ds.length<=sizeLine->Bt Rq W H' (f ds) Q->Q' J H'):Fm K CL A W H r Q':=by
 cases r with
 |ok d=>exact fun J H2 s2 y z=>k d J H2 rfl s2 y z (Bt.same s2 h)
 |exn x=>exact h
 |bad=>exact h
theorem pY{r:R α}{a:α}(h:noX r=.ok a):r=.ok a:=by
 cases r with
 |ok b=>exact h
 |exn x=>cases h
 |bad=>cases h
theorem S0(hGG:GG X.K CL ts as g)(hA:AOk H A)(gd:Good X.K CL A ρ σ H)(p:Bt (Ew X.K CL Aa H A) W H ((fi ρ).bind fun xs=>(noX (BP (fun x=>(as x ρ).bind fc) (fun x=>(as x ρ).bind fe) xs)).bind fun ys=>.ok (.lst ys)) Q):Fm X.K CL A W H (fi ρ) (fun J H1=>LY J ts g (fun σ H Q=>AOk H A/\∃ ρ,Good X.K CL A ρ σ H/\Dx W0 H (fc ρ) Q) (fun σ H Q=>AOk H A/\∃ ρ,Good X.K CL A ρ σ H/\Bt (fun H=>Rep X.K CL H A) W0 H (fe ρ) Q) σ H1 Q):=
 Fm.ok_of p fun ds J H1 e1 s1 yl hz p1=>by
  cases e2:noX (BP (fun x=>(as x ρ).bind fc) (fun x=>(as x ρ).bind fe) ds) with
  |ok ys=>
   rw[e2]at p1;exact bD hGG (hA.same s1) (gd.same s1) yl hz (pY e2) fun xs H2 s2 rs q hq=>p1 _ _ (s2.trans (F3 hq _)) (JC (s1.trans s2) ((hA.same s1).same s2) hq rs)
  |exn x=>rw[e2]at p1;cases hq:BP (fun x=>(as x ρ).bind fc) (fun x=>(as x ρ).bind fe) ds<;>rw[hq]at e2<;>cases e2
  |bad=>rw[e2]at p1;exact p1.elim
theorem fK(hc:X.calm=Aa)(B:BlockOk X scope N' ts)(hi:SI X CL W tg iter fi)(hGG:GG X.K CL ts as g)(hg:∀ cl C s H fp,PG (cxC X scope cl C N' s H fp) tg g)(ht:∀ cl C s H fp,STs (cxC X scope cl C N' s H fp) CL ifs fc)(he:∀ cl C s H fp,SE (cxC X scope cl C N' s H fp) CL W0 elt fe)(hs:∀ x,Dr iter X.env x=pure x):SC X CL W Aa (.ListComp elt [⟨tg,iter,ifs,0⟩] scope pos) (fun ρ=>(fi ρ).bind fun xs=>(noX (BP (fun x=>(as x ρ).bind fc) (fun x=>(as x ρ).bind fe) xs)).bind fun ys=>.ok (.lst ys)):=fun A pI s σ H Q I ⟨hA,ρ,gd,p⟩=>
 jG hc B (hi A) hg (fun cl C s H fp=>ht cl C s H fp A) (fun cl C s H fp=>he cl C s H fp A) hs pI s σ H Q I ⟨hA,ρ,gd,S0 hGG hA gd p⟩
end
section
variable{K:Fg}{CL:ClA}{Fz:Ak->HO->Prop}{B:Ak->Prop}{ρ:Rho}{σ:L2.St}{H H':Hp}
theorem Sx.setF(x:Sx K CL Fz B ρ σ H)(s:AN H H'){ds:Ac D}(h0:H a=Af)(h1:H' a=Ab (.lst xs))(r:Reps K CL H' (fun b=>CU B ρ σ b\/b=a) xs ds):Sx K CL Fz B (ρ.set i (Ab (.lst ds,Aa))) (σ.set i (Ab (.ref a))) H':=by
 have nA:¬ CU B ρ σ a:=x.aok.new h0;have own:∀(j:Ag)(e:D),(ρ.set i (Ab (.lst ds,Aa)))[j]?=Ab (Ab (e,Aa))->(i=j/\e=.lst ds)\/(i≠j/\ρ[j]?=Ab (Ab (e,Aa))):=fun j e h=>by
  by_cases hj:i=j
  ·subst hj;have:=HS h;cases this;exact .inl ⟨rfl,rfl⟩
  ·exact .inr ⟨hj,by rw[Dl hj]at h;exact h⟩
 have atI:∀{j:Ag}{y:Sl},(ρ.set i (Ab (.lst ds,Aa)))[j]?=Ab y->i=j->(σ.set i (Ab (.ref a)))[j]?=Ab (Ab (.ref a)):=fun {j y} h e=>by
  subst e;have hl:i<σ.length:=by
   rw[<-x.len];have:=(A6.mp h).1;simpa using this
  rw[Dt hl]
 have sub:∀ b,CU B (ρ.set i (Ab (.lst ds,Aa))) (σ.set i (Ab (.ref a))) b->CU B ρ σ b\/b=a:=fun b h=>by
  rcases h with h|⟨j,e,h1,h2⟩
  ·exact .inl (.inl h)
  ·rcases own j e h1 with ⟨hj,_⟩|⟨hj,h1'⟩
   ·rw[atI h1 hj]at h2;cases h2;exact .inr rfl
   ·rw[Dl hj]at h2;exact .inl (.inr ⟨j,e,h1',h2⟩)
 have wide:∀{v:V}{d:D},Rep K CL H (CU B ρ σ) v d->Rep K CL H' (CU B (ρ.set i (Ab (.lst ds,Aa))) (σ.set i (Ab (.ref a)))) v d:=fun r=>(Rep.wide (fun b hb=>(sub b hb).imp id fun e=>by rw[e];exact h0) _ r).same s
 have wides:∀{v:Ac V}{d:Ac D},Reps K CL H (CU B ρ σ) v d->Reps K CL H' (CU B (ρ.set i (Ab (.lst ds,Aa))) (σ.set i (Ab (.ref a)))) v d:=fun r=>(Reps.wide (fun b hb=>(sub b hb).imp id fun e=>by rw[e];exact h0) _ r).same s
 refine⟨⟨fun j e h=>?_,fun j e h=>?_,by rw[Bz,Bz];exact x.len⟩,fun b h=>?_,fun j e b g1 g2=>?_,fun j k e f b g1 g2 g3 g4=>?_,fun b o z=>s _ _ (x.same b o z),by rw[Bz,Bz];exact x.len⟩
 ·have hj:i≠j:=by
   rintro rfl;have:=HS h;cases this
  rw[Dl hj]at h;obtain⟨w',q,rw'⟩:=x.good.sh j e h;exact⟨w',by rw[Dl hj];exact q,wide rw'⟩
 ·rcases own j e h with ⟨hj,rfl⟩|⟨hj,h'⟩
  ·have q:=atI h hj;exact⟨a,xs,ds,q,rfl,.inr ⟨j,_,h,q⟩,h1,Reps.sub sub _ r⟩
  ·obtain⟨b,ys,es,q,z,ha,hh,rr⟩:=x.good.ow j e h';have q':(σ.set i (Ab (.ref a)))[j]?=Ab (Ab (.ref b)):=by rw[Dl hj];exact q
   exact⟨b,ys,es,q',z,.inr ⟨j,e,h,q'⟩,s _ _ hh,wides rr⟩
 ·rcases sub b h with z|z
  ·obtain⟨ys,q⟩:=x.aok b z;exact⟨ys,s _ _ q⟩
  ·rw[z];exact⟨xs,h1⟩
 ·rcases own j e g1 with ⟨hj,_⟩|⟨hj,h'⟩
  ·rw[atI g1 hj]at g2;cases g2;refine⟨fun o z=>?_,fun z=>nA (.inl z)⟩
   have:=x.same a o z;rw[h0]at this;cases this
  ·rw[Dl hj]at g2;exact x.new j e b h' g2
 ·rcases own j e g1 with ⟨hj,_⟩|⟨hj,h'⟩
  ·rw[atI g1 hj]at g3;cases g3;rcases own k f g2 with ⟨hk,_⟩|⟨hk,h''⟩
   ·exact hj.symm.trans hk
   ·rw[Dl hk]at g4;exact absurd (.inr ⟨k,f,h'',g4⟩) nA
  ·rw[Dl hj]at g3;rcases own k f g2 with ⟨hk,_⟩|⟨hk,h''⟩
   ·rw[atI g2 hk]at g4;cases g4;exact absurd (.inr ⟨j,e,h',g3⟩) nA
   ·rw[Dl hk]at g4;exact x.dis j k e f b h' h'' g3 g4
theorem Sx.upd(x:Sx K CL Fz B ρ σ H){i:Ag}{d:D}{a:Ak}{xs:Ac V}{ds:Ac D}(hi:ρ[i]?=Ab (Ab (d,Aa)))(ha:σ[i]?=Ab (Ab (.ref a)))(r:Reps K CL H (CU B ρ σ) xs ds):Sx K CL Fz B (ρ.set i (Ab (.lst ds,Aa))) σ (L2.upd H a (.lst xs)):=by
 have oa:CU B ρ σ a:=.inr ⟨i,d,hi,ha⟩;have hil:i<ρ.length:=(A6.mp hi).1;have get:∀(j:Ag)(e:D),(ρ.set i (Ab (.lst ds,Aa)))[j]?=Ab (Ab (e,Aa))↔(i=j/\e=.lst ds)\/(i≠j/\ρ[j]?=Ab (Ab (e,Aa))):=fun j e=>by
  by_cases hj:i=j
  ·subst hj;rw[Dt hil];simp;exact⟨fun z=>z.symm,fun z=>z.symm⟩
  ·rw[Dl hj];simp[hj]
 have same:∀ b,CU B (ρ.set i (Ab (.lst ds,Aa))) σ b↔CU B ρ σ b:=fun b=>by
  constructor
  ·rintro (h|⟨j,e,h1,h2⟩)
   ·exact .inl h
   ·rcases (get j e).mp h1 with ⟨rfl,_⟩|⟨_,h1⟩
    ·exact .inr ⟨i,d,hi,h2⟩
    ·exact .inr ⟨j,e,h1,h2⟩
  ·rintro (h|⟨j,e,h1,h2⟩)
   ·exact .inl h
   ·by_cases hj:i=j
    ·subst hj;exact .inr ⟨i,.lst ds,(get i _).mpr (.inl ⟨rfl,rfl⟩),h2⟩
    ·exact .inr ⟨j,e,(get j e).mpr (.inr ⟨hj,h1⟩),h2⟩
 have kp:Kp (CU B ρ σ) H (L2.upd H a (.lst xs)):=fun b o e na=>by
  have hne:b≠a:=by
   rintro rfl;exact na oa
  rw[Dm hne];exact e
 refine⟨⟨fun j e h=>?_,fun j e h=>?_,by rw[Bz];exact x.len⟩,fun b h=>?_,fun j e b g1 g2=>?_,fun j k e f b g1 g2 g3 g4=>?_,fun b o z=>?_,by rw[Bz];exact x.len⟩
 ·have hj:i≠j:=by
   rintro rfl;have:=HS h;cases this
  rw[Dl hj]at h;obtain⟨w',q,rw'⟩:=x.good.sh j e h;exact⟨w',q,Rep.sub (fun b hb=>(same b).mp hb) _ (Rep.kp kp _ rw')⟩
 ·rcases (get j e).mp h with ⟨rfl,rfl⟩|⟨hj,h'⟩
  ·exact⟨a,xs,ds,ha,rfl,(same a).mpr oa,HQ,Reps.sub (fun b hb=>(same b).mp hb) _ (Reps.kp kp _ r)⟩
  ·obtain⟨b,ys,es,q,z,hb,hh,rr⟩:=x.good.ow j e h';have hne:b≠a:=fun z=>hj (x.dis i j d e a hi h' ha (z ▸ q))
   exact⟨b,ys,es,q,z,(same b).mpr hb,by rw[Dm hne];exact hh,Reps.sub (fun b hb=>(same b).mp hb) _ (Reps.kp kp _ rr)⟩
 ·obtain⟨ys,q⟩:=x.aok b ((same b).mp h);by_cases e:b=a
  ·rw[e];exact⟨xs,HQ⟩
  ·exact⟨ys,by rw[Dm e];exact q⟩
 ·rcases (get j e).mp g1 with ⟨rfl,_⟩|⟨_,h'⟩
  ·exact x.new i d b hi g2
  ·exact x.new j e b h' g2
 ·rcases (get j e).mp g1 with ⟨rfl,_⟩|⟨hj,h'⟩
  ·rcases (get k f).mp g2 with ⟨rfl,_⟩|⟨hk,h''⟩
   ·rfl
   ·exact x.dis i k d f b hi h'' g3 g4
  ·rcases (get k f).mp g2 with ⟨rfl,_⟩|⟨hk,h''⟩
   ·exact x.dis j i e d b h' hi g3 g4
   ·exact x.dis j k e f b h' h'' g3 g4
 ·have hne:b≠a:=fun e=>(x.new i d a hi ha).1 o (e ▸ z)
  rw[Dm hne];exact x.same b o z
theorem Sx.rel(x:Sx K CL Fz B ρ σ H)(hi:ρ[i]?=Ab (Ab (d,Aa))):Sx K CL Fz B (ρ.set i (Ab (d,Ae))) σ H:=by
 obtain⟨a,xs,ds,q,rfl,oa,hh,rr⟩:=x.good.ow i d hi;have own:∀(j:Ag)(e:D),(ρ.set i (Ab (.lst ds,Ae)))[j]?=Ab (Ab (e,Aa))->i≠j/\ρ[j]?=Ab (Ab (e,Aa)):=fun j e h=>by
  by_cases hj:i=j
  ·subst hj;have:=HS h;cases this
  ·exact⟨hj,by rw[Dl hj]at h;exact h⟩
 have sub:∀ b,CU B (ρ.set i (Ab (.lst ds,Ae))) σ b->CU B ρ σ b:=fun b h=>by
  rcases h with h|⟨j,e,h1,h2⟩
  ·exact .inl h
  ·exact .inr ⟨j,e,(own j e h1).2,h2⟩
 have na:¬ CU B (ρ.set i (Ab (.lst ds,Ae))) σ a:=fun h=>by
  rcases h with h|⟨j,e,h1,h2⟩
  ·exact(x.new i _ a hi q).2 h
  ·obtain⟨hj,h1⟩:=own j e h1;exact hj (x.dis i j _ e a hi h1 q h2)
 refine⟨⟨fun j e h=>?_,fun j e h=>?_,by rw[Bz];exact x.len⟩,fun b h=>x.aok b (sub b h),fun j e b g1 g2=>x.new j e b (own j e g1).2 g2,fun j k e f b g1 g2 g3 g4=>x.dis j k e f b (own j e g1).2 (own k f g2).2 g3 g4,x.same,by rw[Bz];exact x.len⟩
 ·by_cases hj:i=j
  ·subst hj;have e1:=HS h;cases e1;exact⟨_,q,a,xs,rfl,.inl na,SqL.of hh,Reps.sub sub _ rr⟩
  ·rw[Dl hj]at h;obtain⟨w',q',rw'⟩:=x.good.sh j e h;exact⟨w',q',Rep.sub sub _ rw'⟩
 ·obtain⟨hj,h'⟩:=own j e h;obtain⟨b,ys,es,q',z,hb,hh',rr'⟩:=x.good.ow j e h';exact⟨b,ys,es,q',z,.inr ⟨j,e,h,q'⟩,hh',Reps.sub sub _ rr'⟩
end
section
variable{X:Cx}{CL:ClA}{W:XW}{pos:A8}{e:Ar}{fe:Rho->R D}{fr:Ap}
theorem CN.exC{f:D->O}(x:Sx X.K CL Fz B ρ σ H)(h:CN X.K CL Fz B W (O.of ρ r f) D')(k:∀ d v H',r=.ok d->AN H H'->Ew X.K CL fr H A H' v d->Sx X.K CL Fz B ρ σ H'->CN X.K CL Fz B W (f d) D'->Q v H'):Bt (Ew X.K CL fr H A) W H r Q:=by
 cases r with
 |ok d=>exact fun v H' s r=>k d v H' rfl s r (x.grow s) h
 |exn y=>exact fun H' s=>h H' fun b o z=>s _ _ (x.same b o z)
 |bad=>exact h
def SAs(X:Cx)(CL:ClA)(W:XW)(fr:Ap)(i:Ag)(st:Ca)(f:Rho->R D):Prop:=∀ A,PS X st (NM (fun σ H Q=>AOk H A/\∃ ρ,Good X.K CL A ρ σ H/\Bt (Ew X.K CL fr H A) W H (f ρ) Q) (FA i))
theorem SC.sas{n:Al}(hN:X.N.Nodup)(hi:X.N[i]?=Ab n)(hx:Loc X.env.scope n)(he:SC X CL W fr e fe)(hs:D6 e (Ab (.Name n pos')) pos.line X.env=pure Ae)(hf:X.fn n=Aa\/X.env.scope.names.lookup n=Ab .local):SAs X CL W fr i (.Assign [.Name n pos'] e pos) fe:=
 fun A=>qN hN hi hx (he A) hs hf
theorem dM{n:Al}{fe:Rho->R D}{g:TG}(hc:X.calm=Aa)(B:BlockOk X scope N' ts)(hi:SI X CL W tg iter fi)(hGG:GG X.K CL ts as g)(hg:∀ cl C s H fp,PG (cxC X scope cl C N' s H fp) tg g)(ht:∀ cl C s H fp,STs (cxC X scope cl C N' s H fp) CL ifs fc)(he:∀ cl C s H fp,SE (cxC X scope cl C N' s H fp) CL W0 elt fe)(hs:∀ x,Dr iter X.env x=pure x)(hN:X.N.Nodup)(hni:X.N[i]?=Ab n)(hx:X.env.scope.names.lookup n=Ab .local)(hsw:D6 (.ListComp elt [⟨tg,iter,ifs,0⟩] scope pos) (Ab (.Name n pos')) pos2.line X.env=pure Aa):SAs X CL W Aa i (.Assign [.Name n pos'] (.ListComp elt [⟨tg,iter,ifs,0⟩] scope pos) pos2) (fun ρ=>(fi ρ).bind fun xs=>(noX (BP (fun x=>(as x ρ).bind fc) (fun x=>(as x ρ).bind fe) xs)).bind fun ys=>.ok (.lst ys)):=fun A pI s σ H Dn I ⟨hA,ρ,gd,p⟩=>
 jA hc B (hi A) hg (fun cl C s H fp=>ht cl C s H fp A) (fun cl C s H fp=>he cl C s H fp A) hs hN hni hx hsw pI s σ H Dn I ⟨hA,ρ,gd,S0 hGG hA gd p⟩
theorem Vt{st:Ca}(h:SAs X CL W fr i st fe):SS X CL W st (fun ρ=>O.of ρ (fe ρ) fun d=>.next (ρ.set i (Ab (d,Ae)))):=fun Fz B pI s σ H D I ⟨ρ,x,p⟩=>
 h (CU B ρ σ) pI s σ H D I ⟨x.aok,ρ,x.good,CN.exC x p fun d v H' _ s r x' q=>q _ H' (x'.set i r.1)⟩
theorem fB{st:Ca}(h:SAs X CL W Aa i st fe):SS X CL W st (fun ρ=>O.of ρ (fe ρ) fun d=>setF ρ i d):=fun Fz B pI s σ H D I ⟨ρ,x,p⟩=>
 h (CU B ρ σ) pI s σ H D I ⟨x.aok,ρ,x.good,CN.exC x p fun d v H' _ s r x' q=>by
  cases d with
  |lst ds=>
   obtain⟨a,xs,rfl,h0,h1,rs⟩:=r.2 rfl ds rfl;exact q _ H' (x.setF s h0 h1 rs)
  |dic ds=>exact r.1.elim
  | _=>exact q.elim⟩
theorem eX(he:SC X CL W Aa e fe):SS X CL W (.Return (Ab e) pos) (fun ρ=>O.of ρ (fe ρ) fun d=>.ret d Aa):=fun Fz B pI s σ H D I ⟨ρ,x,p⟩=>
 Qg (he (CU B ρ σ)) pI s σ H D I ⟨x.aok,ρ,x.good,CN.exC x p fun d v H' _ s r x' q=>q v H' x'.same (Rep.sub (fun a h=>.inl h) _ r.1) fun _ ds e=>by
  obtain⟨a,xs,h0,h1,h2,h3⟩:=r.2 rfl ds e;refine⟨a,xs,h0,fun o z=>?_,h2,Reps.sub (fun b hb=>hb.imp .inl id) _ h3⟩
  have:=x.same a o z;rw[h1]at this;cases this⟩
noncomputable def QW(ρ:Rho)(i:Ag):Ap:=match ρ[i]? with
  |some (Ab (_,o))=>o
  |_=>Ae
theorem eV(he:PE X e (G8 i)):SS X CL W (.Return (Ab e) pos) (fun ρ=>O.of ρ (Gf ρ i) fun d=>.ret d (QW ρ i)):=fun Fz B pI s σ H D I ⟨ρ,x,p⟩=>
 Qg he pI s σ H D I (by
  dsimp only at p;cases e:Gf ρ i with
  |bad=>rw[e]at p;exact p.elim
  |exn z=>exact(TD e).elim
  |ok d=>
   rw[e]at p;obtain⟨o,e⟩:=TQ e;have eo:QW ρ i=o:=by unfold QW;rw[e]
   rw[O.of_ok,eo]at p;cases o with
   |false=>
    obtain⟨v,q,r⟩:=x.good.sh i d e;exact⟨v,q,p v H x.same (Rep.sub (fun a h=>.inl h) _ r) fun z=>nomatch z⟩
   |true=>
    obtain⟨a,xs,ds,q,rfl,ha,hh,r⟩:=x.good.ow i d e;obtain⟨n1,n2⟩:=x.new i _ a e q;refine⟨_,q,p _ H x.same ⟨a,xs,rfl,.inl n2,SqL.of hh,Reps.sub (fun a h=>.inl h) _ r⟩ fun _ ds' e'=>?_⟩
    cases e';exact⟨a,xs,rfl,n1,hh,Reps.sub (fun b hb=>hb.elim .inl fun z=>z ▸ ha) _ r⟩)
theorem Mc{ds:Ac D}(h:Dq ρ i=.ok ds):ρ[i]?=Ab (Ab (.lst ds,Aa)):=by
 unfold Dq at h;split at h
 ·rename_i e;cases h;exact e
 ·cases h
theorem LZ{x:Ex}(h:Dq ρ i=.exn x):BF:=by
 unfold Dq at h;split at h<;>cases h
variable{o:Ar}{i:Ag}{apos cpos:A8}
theorem oQ(ho:PE X o (G8 i))(he:SE X CL W e fe)(hbase:Hh o "append" X.env (eval o X.env)=eval o X.env)(hfew:((CV cpos (AG [e] X.env)).all (fun x=>!x.1)&&(JU cpos (Ix [] X.env)).all (fun x=>x.1.isSome)&&decide ([e].length+([]:Ac Ft).length+(if ([]:Ac Ft).isEmpty then 0 else 1)<30))=Aa)(hline:(apos.endLine==cpos.line)=Aa)(hs:AG [e] X.env=[(Ae,eval e X.env)])(hsw:D6 (.Call (.Attribute o "append" apos) [e] [] cpos) Af pos.line X.env=pure Ae):
  SS X CL W (.Expr (.Call (.Attribute o "append" apos) [e] [] cpos) pos) (fun ρ=>O.of ρ (Dq ρ i) fun xs=>O.of ρ (fe ρ) fun d=>if DL (xs.length+1)=Aa then .next (ρ.set i (Ab (.lst (xs++[d]),Aa))) else .bad):=fun Fz B pI s σ H D I ⟨ρ,x,p⟩=>by
 refine M9 (QC FX PySem.F.slot_list_append PySem.F.type_list_append aF ho (Fk (he (CU B ρ σ)) GW hs) hbase hfew hline hs rfl) hsw pI s σ H D I ?_;dsimp only at p;cases e1:Dq ρ i with
 |bad=>rw[e1]at p;exact p.elim
 |exn z=>exact(LZ e1).elim
 |ok ds=>
  rw[e1,O.of_ok]at p;have hi:=Mc e1;obtain⟨a,xs,ds',q,e2,ha,hh,r⟩:=x.good.ow i _ hi;cases e2;refine⟨_,q,.inl ⟨rfl,xs,SqL.of hh⟩,x.aok,ρ,x.good,CN.ex x p fun d v H' _ s rv x' q'=>?_⟩
  split at q'
  ·rename_i hz;refine⟨a,xs,v,rfl,rfl,s _ _ hh,?_,q' _ _ (x'.upd hi q ((r.same s).append ⟨rv,trivial⟩))⟩;have:=IY hz;rw[r.length];omega
  ·exact q'.elim
theorem oP(ho:PE X o (G8 i))(he:SC X CL W Aa e fe)(hbase:Hh o "extend" X.env (eval o X.env)=eval o X.env)(hfew:((CV cpos (AG [e] X.env)).all (fun x=>!x.1)&&(JU cpos (Ix [] X.env)).all (fun x=>x.1.isSome)&&decide ([e].length+([]:Ac Ft).length+(if ([]:Ac Ft).isEmpty then 0 else 1)<30))=Aa)(hline:(apos.endLine==cpos.line)=Aa)(hs:AG [e] X.env=[(Ae,eval e X.env)])(hsw:D6 (.Call (.Attribute o "extend" apos) [e] [] cpos) Af pos.line X.env=pure Ae):
  SS X CL W (.Expr (.Call (.Attribute o "extend" apos) [e] [] cpos) pos) (fun ρ=>O.of ρ (Dq ρ i) fun xs=>O.of ρ (fe ρ) fun d=>O.of ρ (K8 d) fun ys=>if DL (xs.length+ys.length)=Aa then .next (ρ.set i (Ab (.lst (xs++ys),Aa))) else .bad):=fun Fz B pI s σ H D I ⟨ρ,x,p⟩=>by
 refine M9 (QC FX E9 XO aE ho (Fk (he (CU B ρ σ)) GW hs) hbase hfew hline hs rfl) hsw pI s σ H D I ?_;dsimp only at p;cases e1:Dq ρ i with
 |bad=>rw[e1]at p;exact p.elim
 |exn z=>exact(LZ e1).elim
 |ok ds=>
  rw[e1,O.of_ok]at p;have hi:=Mc e1;obtain⟨a,xs,ds',q,e2,ha,hh,r⟩:=x.good.ow i _ hi;cases e2;refine⟨_,q,.inl ⟨rfl,xs,SqL.of hh⟩,x.aok,ρ,x.good,CN.exC x p fun d v H' _ s rv x' q'=>?_⟩
  cases d with
  |lst es=>
   obtain⟨b,ys,rfl,h0,h1,rs⟩:=rv.2 rfl es rfl;rw[Sz,O.of_ok]at q';split at q'
   ·rename_i hz;refine⟨a,b,xs,ys,rfl,rfl,s _ _ hh,h1,?_,q' _ _ (x'.upd hi q ((r.same s).append (Reps.sub (fun c hc=>.inl hc) _ rs)))⟩
    rw[r.length,rs.length];exact IY hz
   ·exact q'.elim
  |_=>exact q'.elim
theorem oO{k:Ar}{fk:Rho->R Ov.D}{spos:A8}(ho:PE X o (G8 i))(hk:ST X CL W k fk)(he:SE X CL W e fe)(ha:∀ v,assign (.Subscript o k spos) X.env v=(do
      let ov <-holding [v] (eval o X.env)
      let iv <-holding [v,ov] (eval k X.env)
      HA spos
      holding [v,ov,iv] (JO ov iv v)
      release [v,ov,iv] []))(hs:F9 [.Subscript o k spos] e pos.line X.env=pure Ae)(hw:Ed [.Subscript o k spos] e X.env=pure Af)(h1:(CC [.Subscript o k spos] X.env).map (·.2)=[assign (.Subscript o k spos) X.env]):
    SS X CL W (.Assign [.Subscript o k spos] e pos) (fun ρ=>O.of ρ (fe ρ) fun d=>O.of ρ (Dq ρ i) fun xs=>O.of ρ ((fk ρ).bind Fe) fun j=>match plD xs.length j with
      |some n=>.next (ρ.set i (Ab (.lst (xs.set n d),Aa)))
      | none=>.bad):=fun Fz B pI s σ H D I ⟨ρ,x,p⟩=>
  Qh (he (CU B ρ σ)) (P7 ho (hk (CU B ρ σ)) O6 ha) hs hw h1 pI s σ H D I ⟨x.aok,ρ,x.good,CN.ex x p fun d v H' _ s rv x' q'=>by
    cases e1:Dq ρ i with
    |bad=>rw[e1]at q';exact q'.elim
    |exn z=>exact(LZ e1).elim
    |ok ds=>
      rw[e1,O.of_ok]at q';have hi:=Mc e1;obtain⟨a,xs,ds',q,e2,ha,hh,r⟩:=x'.good.ow i _ hi;cases e2;refine⟨_,q,x'.aok,ρ,x'.good,?_⟩;cases e3:fk ρ with
      |bad=>rw[e3]at q';exact q'.elim
      |exn z=>rw[e3]at q';exact fun H2 s2=>q' H2 fun b o z=>s2 _ _ (x'.same b o z)
      |ok dk=>
        rw[e3]at q';intro y H2 s2 ry;cases dk with
        |int j=>
          have ey:=ry.int_of;subst ey;rw[R.bind_ok,aU,O.of_ok]at q';cases e4:plD ds.length j with
          |none=>rw[e4]at q';exact q'.elim
          |some n=>
            rw[e4]at q';refine⟨a,xs,j,n,rfl,rfl,s2 _ _ hh,?_,q' _ _ ((x'.grow s2).upd hi q (Reps.set (rv.same s2) n (r.same s2)))⟩;rw[r.length];exact e4
        | _=>exact q'.elim⟩
theorem fA{as:Ov.D->Rho->R Rho}{g:TG}(hGT:GT X.K CL as g)(hg:PG X tg g)(he:SE X CL W e fe)(hs:F9 [tg] e pos.line X.env=pure Ae)(hw:Ed [tg] e X.env=pure Af)(h1:(CC [tg] X.env).map (·.2)=[assign tg X.env])(hax:∀ d ρ x,as d ρ≠.exn x):SS X CL W (.Assign [tg] e pos) (fun ρ=>O.of ρ (fe ρ) fun d=>O.of ρ (as d ρ) fun ρ'=>.next ρ'):=fun Fz B pI s σ H D I ⟨ρ,x,p⟩=>
 Qh (he (CU B ρ σ)) hg hs hw h1 pI s σ H D I ⟨x.aok,ρ,x.good,CN.ex x p fun d v H' _ s rv x' q'=>by
  cases ea:as d ρ with
  |bad=>rw[ea]at q';exact q'.elim
  |exn z=>exact absurd ea (hax _ _ z)
  |ok ρ2=>
   rw[ea,O.of_ok]at q';exact hGT Fz B ρ σ H' v d ρ2 _ x' rv ea fun σ' x3=>q' σ' H' x3⟩
theorem eT{rest:Ac Ca}{f:Rho->O}(i:Ag)(h:SSs X CL W rest f):SSs X CL W rest (fun ρ=>(match ρ[i]? with
   |some (Ab (d,Aa))=>O.next (ρ.set i (Ab (d,Ae)))
   | _=>O.next ρ).seq f):=fun Fz B=>PSs.weak (h Fz B) fun D σ H ⟨ρ,x,p⟩=>by
 dsimp only at p;split at p
 ·rename_i d e;exact⟨_,x.rel e,p⟩
 ·exact⟨ρ,x,p⟩
end
section
variable{prog:A5}{w:AJ}{A:Bv}{E:Vq}{s:Aq}
theorem pX{j t:Ak}{x:Ai}{Q:Vq}(st:s.heap.IsTupleIter j t k)(sq:s.heap.IsTuple t its)(at_:its[k]?=Ab x)(go:∀ h2,h2.IsTupleIter j t (k+1)->Fa j s.heap h2->Q x {s with heap:=h2}):Ax (model prog w) A (AX (.ref j)) Q E s:=by
 obtain⟨oj,gj,cj,dj⟩:=id st;obtain⟨ot,gt,_,nt,dt⟩:=sq;show Ax _ _ (callSpecial? _ _ >>= _) _ _ _;refine Ah (Ck st.typeIs Eb (CH Eb st.typeIs XG ?_ (XB _)));show Ax _ _ (field (.ref j) 0 >>= _) _ _ _;refine Ah (Bu gj dj (x:=.ref t) rfl ?_);show Ax _ _ (field (.ref j) 1 >>= _) _ _ _;refine Ah (Bu gj dj (x:=.int k 0) rfl ?_);refine Ah (Bx gt dt ?_);simp only[Hu,at_];exact Ah (Yy gj dj (by simp) (As ⟨x,rfl,As (go _ ⟨_,Ce _ gj (Obj.isFreed_of_fields (XY dj _)),(Obj.cls_mapFields ..).trans cj,by rw[XY dj];simp[C9]⟩ (GQ ..))⟩))
theorem aD{j t:Ak}{Q:Vq}(calm:A.handled=Af)(st:s.heap.IsTupleIter j t k)(sq:s.heap.IsTuple t its)(at_:its[k]?=Af)(up:∀ h2 e,Iu j s.heap h2->(∃ o,h2.get? e=Ab o/\o.cls=.type "StopIteration")->E (.ref e) {s with heap:=h2}):Ax (model prog w) A (AX (.ref j)) Q E s:=by
 obtain⟨oj,gj,cj,dj⟩:=id st;obtain⟨ot,gt,_,nt,dt⟩:=sq;show Ax _ _ (callSpecial? _ _ >>= _) _ _ _;refine Ah (Ck st.typeIs Eb (CH Eb st.typeIs XG ?_ (XB _)));show Ax _ _ (field (.ref j) 0 >>= _) _ _ _;refine Ah (Bu gj dj (x:=.ref t) rfl ?_);show Ax _ _ (field (.ref j) 1 >>= _) _ _ _;refine Ah (Bu gj dj (x:=.int k 0) rfl ?_);refine Ah (Bx gt dt ?_);simp only[Hu,at_];refine Ah (Fi (Ah (Yy gj dj (by simp) ?_)))
 refine Ah ?_;simp only[newExc,LI];refine Ah (B8 ?_ (by size_fits))
 refine Ah (m:=Yi _ _) (Iy (a:=.none) (by first|rfl|(simp only[Yi];rfl)) (B8 ?_ (by size_fits)))
 simp only[raiseNew];refine Ah (wpAny_handled ?_)
 first|rw[show A.in1.handled=Af from calm]|rw[calm]
 exact Ah (As (wpAny_throw (up _ _ (((GQ ..).extBut.push _).push _) ⟨_,Aw _ rfl,rfl⟩)))
end
structure Dw (prog:A5) (w:AJ) (A:Bv) (j:Ak) (fp:Ac Ak) (n:Ag) (P:Ag->Ai->Prop) (S:Ag->AQ->Prop):Prop where
 frame:∀ i h h2,S i h->(∀ c∈fp,∀ o,h.get? c=Ab o->h2.get? c=Ab o)->S i h2
 item:∀ i (s:Aq) (Q:Vq) (E:Vq),i<n->S i s.heap->(∀ x h2 tk,P i x->S (i+1) h2->Fa j s.heap h2->Q x {s with heap:=h2,toks:=tk})->Ax (model prog w) A (AX (.ref j)) Q E s
 done:∀ i (s:Aq) (Q:Vq) (E:Vq),n<=i->S i s.heap->(∀ h2 e,Iu j s.heap h2->(∃ o,h2.get? e=Ab o/\o.cls=.type "StopIteration")->E (.ref e) {s with heap:=h2})->Ax (model prog w) A (AX (.ref j)) Q E s
def E3(t:Ap)(h:AQ)(j l:Ak)(i:Ag):Prop:=match t with
  |true=>h.IsTupleIter j l i
  |false=>h.IsListIter j l i
def Cq(t:Ap)(h:AQ)(l:Ak)(its:AM Ai):Prop:=match t with
  |true=>h.IsTuple l its
  |false=>h.IsList l its
theorem ID{A:Bv}(calm:A.handled=Af)(t:Ap)(j l:Ak)(ne:l≠j)(its:AM Ai):Dw prog w A j [j,l] its.size (fun i v=>its[i]?=Ab v) (fun i h=>E3 t h j l i/\Cq t h l its):=by
 cases t with
 |true=>exact⟨fun _ _ _ z k=>⟨z.1.at fun o e=>k j (by simp) o e,z.2.at fun o e=>k l (by simp) o e⟩,fun i s Q E hi z q=>pX z.1 z.2 (x:=its[i]) (by simp[hi]) fun h2 z2 sb=>q _ h2 s.toks (by simp[hi]) ⟨z2,z.2.extBut sb.extBut ne⟩ sb,fun i s Q E hi z q=>aD calm z.1 z.2 (by simp[hi]) q⟩
 |false=>exact⟨fun _ _ _ z k=>⟨z.1.at fun o e=>k j (by simp) o e,z.2.at fun o e=>k l (by simp) o e⟩,fun i s Q E hi z q=>wpAny_nextOf_list_item z.1 z.2 (x:=its[i]) (by simp[hi]) fun h2 z2 sb=>q _ h2 s.toks (by simp[hi]) ⟨z2,z.2.extBut sb.extBut ne⟩ sb,fun i s Q E hi z q=>wpAny_nextOf_list_end calm z.1 z.2 (by simp[hi]) q⟩
theorem nb1{I l c:Ag}(b:l<I)(h:c∈[I,l])(j:Ag):c≠I+(j+1):=by
 have h':c=I\/c=l:=by simpa using h
 omega
theorem nb2{I l c:Ag}(b:l<I)(h:c∈[I+1,l]):c≠I/\c≠I+3/\c≠I+4:=by
 have h':c=I+1\/c=l:=by simpa using h
 omega
theorem nij{I i j:Ag}(h:i≠j):I+i≠I+j:=by omega
theorem ni0{I i:Ag}(h:i≠0):I+i≠I:=by omega
section
variable{prog:A5}{w:AJ}{A:Bv}{E:Vq}{s:Aq}
theorem cQ{I l1 l2 n1 n2 k:Ag}{a b:Ai}{Q:Vq}(b1:l1<I)(b2:l2<I)(D1:Dw prog w A I [I,l1] n1 P1 S1)(D2:Dw prog w A (I+1) [I+1,l2] n2 P2 S2)(hz:GB s.heap (I+4) (I+2) (I+3) .none)(hI:Fb s.heap (I+2) (.ref I) (.ref (I+1)))(hO:Fb s.heap (I+3) a b)(g1:S1 k s.heap)(g2:S2 k s.heap)(k1:k<n1)(k2:k<n2)(go:∀ x y h2 tk,P1 k x->P2 k y->GB h2 (I+4) (I+2) (I+3) (C9 s.heap.objs.size)->Fb h2 (I+3) x y->S1 (k+1) h2->S2 (k+1) h2->Fb h2 s.heap.objs.size x y ->
   (∀ c o,c∉[I,I+1,I+3,I+4]->s.heap.get? c=Ab o->h2.get? c=Ab o)->Q (.ref s.heap.objs.size) {s with heap:=h2,toks:=tk}):Ax (model prog w) A (Builtin.«zip.__next__» ⟨[.ref (I+4)],[]⟩) (fun fin s'=>∃ v,fin=.done (.ret v)/\Q v s') E s:=by
 refine Ah (m:=field (.ref (I+4)) 2) (Bu hz rfl (x:=.bool Ae) rfl ?_);refine Ah (m:=field (.ref (I+4)) 3) (Bu hz rfl (x:=.ref (I+2)) rfl (Ah (Bx hI rfl ?_)));refine Ah (m:=AZ (.ref (I+4))) ?_;simp only[AZ];refine Ah (Bu hz rfl (x:=.none) rfl (As ?_));rw[AD rfl];refine Ah (Fi (Ah (Bu hz rfl (x:=.ref (I+3)) rfl (Ah (Cc hz (by simp) fun p1 z1 e1=>Ah ?_)))))
 have z1':GB p1 (I+4) (I+2) (I+3) .ellipsis:=z1;simp only[Ga,Gv,Ea,DP];refine Ah (Ah (DK (Ah (m:=AX (.ref I)) (D1.item k _ _ _ k1 (D1.frame _ _ _ g1 fun c hc o q=>e1.extBut c o (nb1 b1 hc 3) q) fun x p2 t2 px s2 e2=>As ?_))))
 have o2:Fb p2 (I+3) a b:=e2.extBut _ _ (ni0 (by decide)) (e1.extBut _ _ (nij (by decide)) hO)
 refine Ah (Bx o2 rfl (Ah (GI o2 fun p3 o3 e3=>Ah (C2 (As ?_)))))
 have o3':Fb p3 (I+3) x b:=o3;have g2':S2 k p3:=D2.frame _ _ _ g2 fun c hc o q=>e3.extBut c o (nb2 b2 hc).2.1 (e2.extBut c o (nb2 b2 hc).1 (e1.extBut c o (nb2 b2 hc).2.2 q))
 refine Ah (Ah (DK (Ah (m:=AX (.ref (I+1))) (D2.item k _ _ _ k2 g2' fun y p4 t4 py s4 e4=>As ?_))))
 have o4:Fb p4 (I+3) x b:=e4.extBut _ _ (nij (by decide)) o3'
 refine Ah (Bx o4 rfl (Ah (GI o4 fun p5 o5 e5=>Ah (C2 (As (As ?_))))))
 have o5':Fb p5 (I+3) x y:=o5;have sz:p5.objs.size=s.heap.objs.size:=by rw[e5.1,e4.1,e3.1,e2.1,e1.1]
 have z5:GB p5 (I+4) (I+2) (I+3) .ellipsis:=e5.extBut _ _ (nij (by decide)) (e4.extBut _ _ (nij (by decide)) (e3.extBut _ _ (nij (by decide)) (e2.extBut _ _ (ni0 (by decide)) z1')))
 refine Ah (Bx o5' rfl (Ah (GU ?_)));refine Ah (m:=De (.ref (I+4)) (.ref p5.objs.size)) ?_;simp only[De];have z6:GB (p5.push { cls:=.type "tuple", data:=.seq #[x,y] }) (I+4) (I+2) (I+3) .ellipsis:=Ao _ z5;refine Ah (Cc z6 (by simp) fun p7 z7 e7=>?_)
 have z7':GB p7 (I+4) (I+2) (I+3) (C9 p5.objs.size):=z7;refine Cc z7' (by simp) fun p8 z8 e8=>As ⟨_,rfl,?_⟩
 have z8':GB p8 (I+4) (I+2) (I+3) (C9 p5.objs.size):=z8;have lt5:I+4<p5.objs.size:=AC z5;have up:∀ c o,c≠I+4->p5.get? c=Ab o->p8.get? c=Ab o:=fun c o nc q=>e8.extBut _ _ nc (e7.extBut _ _ nc (Ao _ q))
 have t8:Fb p8 p5.objs.size x y:=e8.extBut _ _ (Cm lt5) (e7.extBut _ _ (Cm lt5) (Aw _ rfl));have a1:S1 (k+1) p8:=D1.frame _ _ _ s2 fun c hc o q=>up c o (nb1 b1 hc 3) (e5.extBut c o (nb1 b1 hc 2) (e4.extBut c o (nb1 b1 hc 0) (e3.extBut c o (nb1 b1 hc 2) q)))
 have a2:S2 (k+1) p8:=D2.frame _ _ _ s4 fun c hc o q=>up c o (nb2 b2 hc).2.2 (e5.extBut c o (nb2 b2 hc).2.1 q)
 have kp:∀ c o,c∉[I,I+1,I+3,I+4]->s.heap.get? c=Ab o->p8.get? c=Ab o:=fun c o nc q=>by
  simp only[Ay,A3,Cj,El]at nc;exact up c o nc.2.2.2 (e5.extBut c o nc.2.2.1 (e4.extBut c o nc.2.1 (e3.extBut c o nc.2.2.1 (e2.extBut c o nc.1 (e1.extBut c o nc.2.2.2 q)))))
 have q:=go x y p8 t4 px py (by rw[<-sz];exact z8') (up _ _ (nij (by decide)) o5') a1 a2 (by rw[<-sz];exact t8) kp
 rw[<-sz]at q;exact q
theorem fO{I l1 l2 n1 n2 k:Ag}{a b:Ai}{Q:Fin->Aq->Prop}(b1:l1<I)(b2:l2<I)(D1:Dw prog w A I [I,l1] n1 P1 S1)(D2:Dw prog w A (I+1) [I+1,l2] n2 P2 S2)(hz:GB s.heap (I+4) (I+2) (I+3) .none)(hI:Fb s.heap (I+2) (.ref I) (.ref (I+1)))(hO:Fb s.heap (I+3) a b)(g1:S1 k s.heap)(g2:S2 k s.heap)(hk:n1<=k\/(k<n1/\n2<=k))(up:∀ h2 e tk,(∀ c o,c∉[I,I+1,I+3,I+4]->s.heap.get? c=Ab o->h2.get? c=Ab o)->(∃ o,h2.get? e=Ab o/\o.cls=.type "StopIteration")->E (.ref e) {s with heap:=h2,toks:=tk}):Ax (model prog w) A (Builtin.«zip.__next__» ⟨[.ref (I+4)],[]⟩) Q E s:=by
 refine Ah (m:=field (.ref (I+4)) 2) (Bu hz rfl (x:=.bool Ae) rfl ?_);refine Ah (m:=field (.ref (I+4)) 3) (Bu hz rfl (x:=.ref (I+2)) rfl (Ah (Bx hI rfl ?_)));refine Ah (m:=AZ (.ref (I+4))) ?_;simp only[AZ];refine Ah (Bu hz rfl (x:=.none) rfl (As ?_));rw[AD rfl];refine Ah (Fi (Ah (Bu hz rfl (x:=.ref (I+3)) rfl (Ah (Cc hz (by simp) fun p1 z1 e1=>Ah ?_)))))
 have z1':GB p1 (I+4) (I+2) (I+3) .ellipsis:=z1;simp only[Ga,Gv,Ea,DP];have g1':S1 k p1:=D1.frame _ _ _ g1 fun c hc o q=>e1.extBut c o (nb1 b1 hc 3) q
 rcases hk with k1|⟨k1,k2⟩
 ·refine Ah (Ah (DK (Ah (m:=AX (.ref I)) (D1.done _ _ _ _ k1 g1' fun p2 e e2 he=>?_))))
  obtain⟨oe,hoe,hce⟩:=he;have z2:GB p2 (I+4) (I+2) (I+3) .ellipsis:=e2 _ _ (ni0 (by decide)) z1'
  have ne:e≠I+4:=fun x=>by subst x;rw[z2]at hoe;cases hoe;simp at hce
  refine Cc z2 (by simp) fun p3 _ e3=>up p3 e s.toks (fun c o nc q=>?_) ⟨oe,e3.extBut _ _ ne hoe,hce⟩
  simp only[Ay,A3,Cj,El]at nc;exact e3.extBut c o nc.2.2.2 (e2 c o nc.1 (e1.extBut c o nc.2.2.2 q))
 ·refine Ah (Ah (DK (Ah (m:=AX (.ref I)) (D1.item k _ _ _ k1 g1' fun x p2 t2 px s2 e2=>As ?_))))
  have o2:Fb p2 (I+3) a b:=e2.extBut _ _ (ni0 (by decide)) (e1.extBut _ _ (nij (by decide)) hO)
  refine Ah (Bx o2 rfl (Ah (GI o2 fun p3 o3 e3=>Ah (C2 (As ?_)))))
  have g2':S2 k p3:=D2.frame _ _ _ g2 fun c hc o q=>e3.extBut c o (nb2 b2 hc).2.1 (e2.extBut c o (nb2 b2 hc).1 (e1.extBut c o (nb2 b2 hc).2.2 q))
  refine Ah (Ah (DK (Ah (m:=AX (.ref (I+1))) (D2.done _ _ _ _ k2 g2' fun p4 e e4 he=>?_))))
  obtain⟨oe,hoe,hce⟩:=he;have z4:GB p4 (I+4) (I+2) (I+3) .ellipsis:=e4 _ _ (nij (by decide)) (e3.extBut _ _ (nij (by decide)) (e2.extBut _ _ (ni0 (by decide)) z1'))
  have ne:e≠I+4:=fun x=>by subst x;rw[z4]at hoe;cases hoe;simp at hce
  refine Cc z4 (by simp) fun p5 _ e5=>up p5 e t2 (fun c o nc q=>?_) ⟨oe,e5.extBut _ _ ne hoe,hce⟩
  simp only[Ay,A3,Cj,El]at nc;exact e5.extBut c o nc.2.2.2 (e4 c o nc.2.1 (e3.extBut c o nc.2.2.1 (e2.extBut c o nc.1 (e1.extBut c o nc.2.2.2 q))))
end
def SqX(t:Ap)(K:Fg)(H:Hp)(a:Ak)(xs:Ac V):Prop:=match t with
  |true=>SqT K H a xs
  |false=>SqL K H a xs
theorem Hn(I:Inv X pI σ H s)(h:SqX t X.K H a xs):∃ its:Ac Ai,Bq xs its/\Cq t s.heap a its.toArray/\xs.length<=sizeLine:=by
 cases t with
 |true=>
  obtain⟨its,rv,p,z⟩:=I.tuple h;exact⟨its,rv,p,z⟩
 |false=>
  obtain⟨its,rv,p,z⟩:=I.list h;exact⟨its,rv,p.isList,z⟩
theorem OA{ys:Ac V}(I:Inv X pI σ H s)(h:SqX t X.K H a xs)(h2:SqX t X.K H a ys):xs=ys:=by
 cases t with
 |true=>exact I.tuple_inj h h2
 |false=>exact I.list_inj h h2
noncomputable def Itz(K:Fg)(t1 t2:Ap)(a b:Ak):It:=
  ⟨fun i H=>∃ xs ys x y,SqX t1 K H a xs/\SqX t2 K H b ys/\xs[i]?=Ab x/\ys[i]?=Ab y,
   fun i H v H'=>∃ p x y,H p=Af/\v=.ref p/\(∀ xs,SqX t1 K H a xs->xs[i]?=Ab x)/\(∀ ys,SqX t2 K H b ys->ys[i]?=Ab y)/\H'=upd H p (.tup [x,y]),
   fun i H=>∃ xs ys,SqX t1 K H a xs/\SqX t2 K H b ys/\(xs.length<=i\/(i<xs.length/\ys.length<=i))⟩
theorem Inv.turnedL(ch:Ac Ak)(I:Inv X pI σ H s)(k:∀ b o,b∉ch->s.heap.get? b=Ab o->h'.get? b=Ab o)(hf:∀ b∈ch,G6 X pI H b):Inv X pI σ H {s with heap:=h',toks:=t'}:=by
 have nit:∀ b u,H b=Ab u->b∉ch:=fun b u e z=>by rw[(hf b z).1]at e;cases e
 refine I.step (g':=s.gens) (d':=s.drawn) (ch:=ch) (fun b hb=>⟨(hf b hb).2.2.2.1,(hf b hb).2.1,(hf b hb).2.2.2.2.1,(hf b hb).2.2.2.2.2⟩) (fun b o _ _ hc e _=>k b o hc e) (fun b o _ _ hc e _=>⟨o.slots,k b o hc e⟩) (fun _ _ _ _ n=>n)
  (fun b o hc e=>⟨o,k b o hc e⟩) (fun _ _ e=>e) (fun _ _ _ e=>e) (fun b ps e=>⟨#[],by rw[e];simp⟩) (fun m ⟨o,es,ep,ho,r⟩=>⟨o,es,ep,k _ o (fun z=>(hf _ z).2.1 rfl) ho,r⟩) (fun b u e=>(I.hok b u e).stay (fun c v hc q=>k c v ?_ q) (fun _ q=>q) fun _ _ q=>q) I.bare
 rcases hc with z|z
 ·rw[z];exact nit b u e
 ·exact nit c _ z
def zTn(t1 t2:Ap)(I l1 l2:Ag)(i:Ag)(h:AQ):Prop:=GB h (I+4) (I+2) (I+3) .none/\Fb h (I+2) (.ref I) (.ref (I+1))/\(∃ a b,Fb h (I+3) a b)/\E3 t1 h I l1 i/\E3 t2 h (I+1) l2 i
noncomputable def zFp(I:Ag):Ac Ak:=[I,I+1,I+2,I+3,I+4]
theorem E3.obj{j:Ak}(z:E3 t h j l i):∃ o,h.get? j=Ab o/\∀ v,o.data≠.cell v:=by
 cases t with
 |true=>obtain⟨o,e,c,d⟩:=z;exact⟨o,e,fun v z=>by rw[d]at z;cases z⟩
 |false=>obtain⟨o,e,c,d⟩:=z;exact⟨o,e,fun v z=>by rw[d]at z;cases z⟩
theorem E3.at'{j:Ak}(z:E3 t h j l i)(k:∀ o,h.get? j=Ab o->h2.get? j=Ab o):E3 t h2 j l i:=by
 cases t with
 |true=>exact PySem.Heap.IsTupleIter.at z k
 |false=>exact PySem.Heap.IsListIter.at z k
theorem cZ(t1 t2:Ap)(I l1 l2:Ag)(b1:l1<I)(b2:l2<I):Turn P w K (.Tuple es n pos) (Itz K t1 t2 l1 l2) (zFp I) (I+4) (zTn t1 t2 I l1 l2) where
  mem:=by simp[zFp]
  obj:=fun i h ⟨z1,z2,⟨a,b,z3⟩,z4,z5⟩ c hc=>by
    simp only[zFp,Ay,A3,Cj]at hc;rcases hc with rfl|rfl|rfl|rfl|rfl
    · exact z4.obj
    · exact z5.obj
    · exact⟨_,z2,fun v z=>by cases z⟩
    · exact⟨_,z3,fun v z=>by cases z⟩
    · exact⟨_,z1,fun v z=>by cases z⟩
  keep:=fun i h h2 ⟨z1,z2,⟨a,b,z3⟩,z4,z5⟩ k=>⟨k _ (by simp[zFp]) _ z1,k _ (by simp[zFp]) _ z2,⟨a,b,k _ (by simp[zFp]) _ z3⟩,z4.at' fun o e=>k _ (by simp[zFp]) o e,z5.at' fun o e=>k _ (by simp[zFp]) o e⟩
  item:=by
    intro X hP hw hK hc i pI s σ H E Iv hf ⟨z1,z2,⟨a,b,z3⟩,z4,z5⟩ ⟨xs,ys,x,y,q1,q2,hx,hy⟩;subst hP hw hK;obtain⟨us,rx,sx,_⟩:=Hn Iv q1;obtain⟨vs,ry,sy,_⟩:=Hn Iv q2;obtain⟨u,hu,ru⟩:=rx.get hx;obtain⟨v,hv,rv⟩:=ry.get hy;have hT:s.TypeIs (.ref (I+4)) "zip" := ⟨_,z1,rfl⟩;have calm:X.A.in1.handled=Af:=Iv.ok.hd hc;show Ax _ _ (Ej _) _ _ _;simp only[Ej];refine Ah (Fs (Ck hT CB (CH CB hT EC (cQ (k:=i) b1 b2 (ID calm t1 I l1 (AT b1) us.toArray) (ID calm t2 (I+1) l2 (AT (C3 b2)) vs.toArray) z1 z2 z3 ⟨z4,sx⟩ ⟨z5,sy⟩
      (by have:=(A6.mp hu).1;simpa using this) (by have:=(A6.mp hv).1;simpa using this) fun x' y' h2 tk px py c1 c2 c3 c4 c5 kp=>As ?_) (Ei _))))
    have ex:x'=u:=by
      have px':us[i]?=Ab x':=by simpa using px
      rw[hu]at px';exact(BU px').symm
    have ey:y'=v:=by
      have py':vs[i]?=Ab y':=by simpa using py
      rw[hv]at py';exact(BU py').symm
    subst ex ey;refine⟨_,rfl,wpAny_letOwnedTupleGo_zip c1 fun h3 d1 sb=>?_⟩
    have lt4:I+4<s.heap.objs.size:=AC z1;have kp3:∀ c o,c∉zFp I->s.heap.get? c=Ab o->h3.get? c=Ab o:=fun c o nc q=>by
      simp only[zFp,Ay,A3,Cj,El]at nc;exact sb.extBut c o nc.2.2.2.2 (kp c o (by simp only[Ay,A3,Cj,El];exact⟨nc.1,nc.2.1,nc.2.2.2.1,nc.2.2.2.2⟩) q)
    have nT:∀ c∈zFp I,c≠s.heap.objs.size:=fun c hc z=>by
      have:c<=I+4:=by
        simp only[zFp,Ay,A3,Cj]at hc;rcases hc with z|z|z|z|z<;>rw[z]<;>simp
      exact absurd (z ▸ BX this lt4) (Bw _)
    have I1:Inv X pI σ (upd H s.heap.objs.size (.tup [x,y])) { s with heap:=s.heap.push { cls:=.type "tuple", data:=.seq #[x',y'] },toks:=s.toks }:=
      Iv.laid (fun _ _ q=>Ao _ q) (AS _) ⟨(by decide:2<=sizeLine),[x',y'],.cons ru (.cons rv .nil),⟨_,Aw _ rfl,rfl,_,rfl⟩⟩
    have hf':∀ b∈zFp I,G6 X pI (upd H s.heap.objs.size (.tup [x,y])) b:=fun b hb=>⟨by rw[Dm (nT b hb)];exact(hf b hb).1,(hf b hb).2⟩
    have I2:Inv X pI σ (upd H s.heap.objs.size (.tup [x,y])) {s with heap:=h3,toks:=tk}:=Inv.turnedL (s:={ s with heap:=s.heap.push { cls:=.type "tuple", data:=.seq #[x',y'] },toks:=s.toks }) (zFp I) I1 (fun c o nc q=>by
      rcases XV q with ⟨e1,e2⟩|e1
      · subst e1 e2;exact sb.extBut _ _ (Cm lt4) c5
      · exact kp3 c o nc e1) hf'
    refine⟨.ref s.heap.objs.size,_,I2,rfl,⟨s.heap.objs.size,x,y,Iv.fresh,rfl,fun zs hz=>by rw[OA Iv hz q1];exact hx,fun zs hz=>by rw[OA Iv hz q2];exact hy,rfl⟩,⟨d1,sb.extBut _ _ (nij (by decide)) (kp _ _ (by simp) z2),⟨_,_,sb.extBut _ _ (nij (by decide)) c2⟩,c3.1.at' fun o q=>sb.extBut _ o (C1 (ni0 (by decide))) q,c4.1.at' fun o q=>sb.extBut _ o (nij (by decide)) q⟩,fun b hb=>(hf' b hb).1⟩
  done:=by
    intro X hP hw hK hc i pI s σ H E Iv hf ⟨z1,z2,⟨a,b,z3⟩,z4,z5⟩ ⟨xs,ys,q1,q2,hk⟩;subst hP hw hK;obtain⟨us,rx,sx,_⟩:=Hn Iv q1;obtain⟨vs,ry,sy,_⟩:=Hn Iv q2;have hT:s.TypeIs (.ref (I+4)) "zip" := ⟨_,z1,rfl⟩;have calm:X.A.in1.handled=Af:=Iv.ok.hd hc;have e1:=rx.length;have e2:=ry.length;simp only[Ej];refine Ah (Fs (Ck hT CB (CH CB hT EC (fO (k:=i) b1 b2 (ID calm t1 I l1 (AT b1) us.toArray) (ID calm t2 (I+1) l2 (AT (C3 b2)) vs.toArray) z1 z2 z3 ⟨z4,sx⟩ ⟨z5,sy⟩
      (by simp only[AE];omega) fun h2 e tk kp he=>?_) (Ei _))))
    obtain⟨o,ho,hcl⟩:=he;refine Ah (Yt (T := "StopIteration") (b:=Aa) ⟨o,ho,hcl⟩ Yj (As ⟨rfl,Inv.turnedL [I,I+1,I+3,I+4] Iv (fun c o nc q=>kp c o nc q) fun c hc=>hf c ?_⟩))
    simp only[Ay,A3,Cj]at hc;simp only[zFp,Ay,A3,Cj];rcases hc with rfl|rfl|rfl|rfl<;>simp
  self:=fun _ _ _ _ _ st h=>Yv st.1 h
section
variable{prog:A5}{w:AJ}{A:Bv}{E:Vq}{s:Aq}
noncomputable def itO(t:Ap)(l:Ak):Dz:=match t with
  |true=>{ cls:=.type "tuple_iterator", data:=.fields #[.ref l,.int 0 0] }
  |false=>{ cls:=.type "list_iterator", data:=.fields #[.ref l,.int 0 0] }
theorem JE{Q:Vq}(h:Cq t s.heap l its)(q:Q (.ref s.heap.objs.size) {s with heap:=s.heap.push (itO t l)}):Ax (model prog w) A (Kv (.ref l)) Q E s:=by
 cases t with
 |true=>exact D7 h q
 |false=>exact Ek h q
theorem Cq.push(z:Cq t h l its)(o:Dz):Cq t (h.push o) l its:=by
 cases t with
 |true=>exact PySem.Heap.IsTuple.at z fun _ e=>Ao _ e
 |false=>exact PySem.Heap.IsList.at z fun _ e=>Ao _ e
theorem K2{j:Ak}(e:h.get? j=Ab (itO t l)):E3 t h j l 0:=by
 cases t with
 |true=>exact⟨_,e,rfl,rfl⟩
 |false=>exact⟨_,e,rfl,rfl⟩
theorem KJ(t:Ap)(l:Ak):(itO t l).isFreed=Ae:=by cases t<;>rfl
noncomputable abbrev zh2(t1 t2:Ap)(h:AQ)(l1 l2:Ak):AQ:=(h.push (itO t1 l1)).push (itO t2 l2)
noncomputable abbrev zh3(t1 t2:Ap)(h:AQ)(l1 l2:Ak):AQ:=(zh2 t1 t2 h l1 l2).push { cls:=.type "tuple", data:=.seq #[.ref h.objs.size,.ref (h.push (itO t1 l1)).objs.size] }
noncomputable abbrev zh4(t1 t2:Ap)(h:AQ)(l1 l2:Ak):AQ:=(zh3 t1 t2 h l1 l2).push { cls:=.type "tuple", data:=.seq #[.none,.none] }
noncomputable abbrev zh5(t1 t2:Ap)(h:AQ)(l1 l2:Ak):AQ:=(zh4 t1 t2 h l1 l2).push { cls:=.type "zip", data:=.fields #[.none,.bool Ae,.bool Ae,.ref (zh2 t1 t2 h l1 l2).objs.size,.ref (zh3 t1 t2 h l1 l2).objs.size] }
theorem fN(t1 t2:Ap)(l1 l2:Ak)(xs ys:AM Ai):Kl (Builtin.«zip.__new__» ⟨[.type "zip", .ref l1,.ref l2],[]⟩) (fun _ R s=>Cq t1 s.heap l1 xs/\Cq t2 s.heap l2 ys/\R (.ok (.ret (.ref (zh4 t1 t2 s.heap l1 l2).objs.size))) {s with heap:=zh5 t1 t2 s.heap l1 l2}):=
 .of_wp fun prog w A R s h=>by
  obtain⟨hp,g,d,tk,os⟩:=s;obtain⟨a1,a2,q⟩:=h;have hsub:=sub_zip;have L1:Cq t1 (F6 ⟨hp,g,d,tk,os⟩) l1 xs:=a1;have L2:Cq t2 (F6 ⟨hp.push (itO t1 l1),g,d,tk,os⟩) l2 ys:=a2.push _
  wp_walk using JE L1,JE L2
  exact⟨_,rfl,q⟩
theorem cR{t1 t2:Ap}{l1 l2:Ak}{xs:AM Ai}{Q:Vq}(a1:Cq t1 s.heap l1 xs)(a2:Cq t2 s.heap l2 ys)(q:∀ h2,zTn t1 t2 s.heap.objs.size l1 l2 0 h2->(∀ c o,s.heap.get? c=Ab o->h2.get? c=Ab o)->Q (.ref (s.heap.objs.size+4)) {s with heap:=h2}):Ax (model prog w) A (call (.type "zip") [.ref l1,.ref l2]) Q E s:=by
 refine Jw XC (by decide) (F.typeCall_zip_2 _ _) (F.newCall_zip_2 _ _) (fun obj=>F.args_object_init_3 obj _ _) XH (fN t1 t2 l1 l2 xs ys) ⟨a1,a2,?_⟩
 have s1:(s.heap.push (itO t1 l1)).objs.size=s.heap.objs.size+1:=Bi ..;have s2:(zh2 t1 t2 s.heap l1 l2).objs.size=s.heap.objs.size+2:=by rw[Bi,s1]
 have s3:(zh3 t1 t2 s.heap l1 l2).objs.size=s.heap.objs.size+3:=by rw[Bi,s2]
 have s4:(zh4 t1 t2 s.heap l1 l2).objs.size=s.heap.objs.size+4:=by rw[Bi,s3]
 have u5:∀ {c o},(zh4 t1 t2 s.heap l1 l2).get? c=Ab o->(zh5 t1 t2 s.heap l1 l2).get? c=Ab o:=fun e=>Ao _ e
 have u4:∀ {c o},(zh3 t1 t2 s.heap l1 l2).get? c=Ab o->(zh5 t1 t2 s.heap l1 l2).get? c=Ab o:=fun e=>u5 (Ao _ e)
 have u3:∀ {c o},(zh2 t1 t2 s.heap l1 l2).get? c=Ab o->(zh5 t1 t2 s.heap l1 l2).get? c=Ab o:=fun e=>u4 (Ao _ e)
 have u2:∀ {c o},(s.heap.push (itO t1 l1)).get? c=Ab o->(zh5 t1 t2 s.heap l1 l2).get? c=Ab o:=fun e=>u3 (Ao _ e)
 have g5:(zh5 t1 t2 s.heap l1 l2).get? (zh4 t1 t2 s.heap l1 l2).objs.size=Ab _:=Aw _ rfl;have g4:(zh5 t1 t2 s.heap l1 l2).get? (zh3 t1 t2 s.heap l1 l2).objs.size=Ab _:=u5 (Aw _ rfl);have g3:(zh5 t1 t2 s.heap l1 l2).get? (zh2 t1 t2 s.heap l1 l2).objs.size=Ab _:=u4 (Aw _ rfl);have g2:(zh5 t1 t2 s.heap l1 l2).get? (s.heap.push (itO t1 l1)).objs.size=Ab _:=u3 (Aw _ (KJ _ _));have g1:(zh5 t1 t2 s.heap l1 l2).get? s.heap.objs.size=Ab _:=u2 (Aw _ (KJ _ _));show _/\_;rw[s2,s3,s4]at g5;rw[s3]at g4;rw[s1,s2]at g3;rw[s1]at g2;rw[s4];exact⟨⟨_,g5,rfl⟩,q _ ⟨g5,g3,⟨_,_,g4⟩,K2 g1,K2 g2⟩ fun c o e=>u2 (Ao _ e)⟩
end
def YK(K:Fg)(ta:TA):TI:=fun σ H R=>ta σ H fun vs H1=>∃ t1 t2 a b xs ys,vs=[.ref a,.ref b]/\SqX t1 K H1 a xs/\SqX t2 K H1 b ys/\(xs.length<=sizeLine->R (Itz K t1 t2 a b) H1)
theorem Cq.lt(z:Cq t h a its):a<h.objs.size:=by
 cases t with
 |true=>obtain⟨o,e,_⟩:=z;exact AC e
 |false=>obtain⟨o,e,_⟩:=z;exact AC e
theorem qR{a b:Ar}(hg:Gl X "zip")(hm:X.mg "zip" = Af)(ha:PA X [a,b] ta)(hs:AG [a,b] X.env=[(Ae,eval a X.env),(Ae,eval b X.env)])(hs2:AG [b] X.env=[(Ae,eval b X.env)]):
  PI X (.Tuple es n tpos) (.Call (.Name "zip" p) [a,b] [] pos) (YK X.K ta):=by
 intro pI s σ H R I h;refine Hx (GY I hg hm Xj (BM (thn (ha pos pI s σ H _ I h) fun us s1 ⟨vs,H1,I1,r1,q1⟩=>?_) (by rw[hs,hs2]) (by rw[hs2];rfl)))
 obtain⟨t1,t2,c,d,xs,ys,e,sx,sy,q⟩:=q1;subst e;cases r1 with
 |cons r rr=>
  cases rr with
  |cons r' rr=>
   cases rr;cases r;cases r';obtain⟨us,ru,iu,zu⟩:=Hn I1 sx;obtain⟨vs,rv,iv,_⟩:=Hn I1 sy;refine cR iu iv fun h2 z kp=>Yv z.1 ?_
   refine⟨s1.heap.objs.size+4,zFp s1.heap.objs.size,_,_,H1,rfl,I1.kept (t':=s1.toks) kp,cZ t1 t2 s1.heap.objs.size c d iu.lt iv.lt,z,fun b hb=>?_,q zu⟩
   have hb':s1.heap.objs.size<=b:=by
    simp only[zFp,Ay,A3,Cj]at hb;rcases hb with z|z|z|z|z<;>rw[z]<;>simp
   exact I1.fpOk hb' (I1.hok.fresh hb')
theorem Lb{ds:Ac D}(r:Rep K CL H A v d)(e:CI d=.ok ds):∃ t a xs,v=.ref a/\(∀ H2,Kp A H H2->SqX t K H2 a xs)/\Reps K CL H A xs ds:=by
 cases d with
 |lst es=>
  cases e;obtain⟨q,xs,rfl,na,sq,r⟩:=r;exact⟨Ae,q,xs,rfl,fun H2 k=>Nh k na sq,r⟩
 |tup es=>
  cases e;obtain⟨q,xs,rfl,na,sq,r⟩:=r;exact⟨Aa,q,xs,rfl,fun H2 k=>Nr k na sq,r⟩
 |_=>cases e
theorem Pf:∀(xs ys:Ac D),(EO xs ys).length=min xs.length ys.length
 |[],_=>by simp[EO]
 |_::_,[]=>by simp[EO]
 |x::xs,y::ys=>by
  rw[EO,Cp,Pf xs ys];simp only[Cp];omega
theorem Tz:∀(xs ys:Ac D)(i:Ag)(d:D),(EO xs ys)[i]?=Ab d->∃ x y,xs[i]?=Ab x/\ys[i]?=Ab y/\d=.tup [x,y]
 |[],_,i,d,h=>by simp[EO]at h
 |_::_,[],i,d,h=>by simp[EO]at h
 |x::xs,y::ys,0,d,h=>by
  rw[EO]at h;simp only[EM,Cs]at h;exact⟨x,y,rfl,rfl,h.symm⟩
 |x::xs,y::ys,i+1,d,h=>by
  rw[EO]at h;simp only[EL]at h ⊢;exact Tz xs ys i d h
theorem cW{t1 t2:Ap}{ys:Ac V}{ds es:Ac D}(s1:∀ H2,Kp A H1 H2->SqX t1 K H2 a xs)(s2:∀ H2,Kp A H1 H2->SqX t2 K H2 b ys)(r1:Reps K CL H1 A xs ds)(r2:Reps K CL H1 A ys es) :Jm K CL A (EO ds es) (Itz K t1 t2 a b) H1:=fun H k i=>by
 refine⟨fun hi=>⟨xs,ys,s1 H k,s2 H k,?_⟩,fun d hd=>?_⟩
 ·rw[Pf]at hi;rw[r1.length,r2.length];omega
 ·obtain⟨x,y,hx,hy,rfl⟩:=Tz _ _ _ _ hd;obtain⟨u,hu,ru⟩:=r1.get hx;obtain⟨v,hv,rv⟩:=r2.get hy;refine⟨⟨xs,ys,u,v,s1 H k,s2 H k,hu,hv⟩,?_⟩;rintro w' H' ⟨p,x',y',hp,rfl,c1,c2,rfl⟩;have ex:x'=u:=BU ((c1 xs (s1 H k)).symm.trans hu);have ey:y'=v:=BU ((c2 ys (s2 H k)).symm.trans hv);subst ex ey;have sm:=F3 hp (.tup [x',y']);exact⟨sm,fun B hB aB=>KQ aB hp ⟨LR ru k hB,LR rv k hB,trivial⟩⟩
section
variable{X:Cx}{CL:ClA}{W:XW}{pos p:A8}{a b:Ar}{fa fb:Rho->R D}
theorem oY(ha:SE X CL W a fa)(hb:SE X CL W b fb)(hg:Gl X "zip")(hm:X.mg "zip" = Af)(hs:AG [a,b] X.env=[(Ae,eval a X.env),(Ae,eval b X.env)])(hs2:AG [b] X.env=[(Ae,eval b X.env)]):
  SI X CL W (.Tuple es n tpos) (.Call (.Name "zip" p) [a,b] [] pos) (fun ρ=>(fa ρ).bind fun x=>(fb ρ).bind fun y=>(CI x).bind fun xs=>(CI y).bind fun ys=>.ok (EO xs ys)):=
 fun A=>PI.weak (qR hg hm (Fk (ha A) (Fk (hb A) GW hs2) (by rw[hs,hs2])) hs hs2) fun σ H R ⟨hA,ρ,g,q⟩=>⟨hA,ρ,g,Fm.ex q fun d v H1 _ s1 r1 p1=>⟨hA.same s1,ρ,g.same s1,Fm.ex p1 fun d2 v2 H2 _ s2 r2 p2=>by
  cases e1:CI d with
  |bad=>rw[e1]at p2;exact p2.elim
  |exn z=>exact absurd e1 (by cases d<;>simp[CI])
  |ok ds=>
   cases e2:CI d2 with
   |bad=>rw[e1,e2]at p2;exact p2.elim
   |exn z=>exact absurd e2 (by cases d2<;>simp[CI])
   |ok es=>
    rw[e1,e2]at p2;obtain⟨t1,c1,xs,rfl,k1,rs1⟩:=Lb (r1.same s2) e1;obtain⟨t2,c2,ys,rfl,k2,rs2⟩:=Lb r2 e2;refine⟨t1,t2,c1,c2,xs,ys,rfl,k1 H2 (Kp.of (AN.refl H2)),k2 H2 (Kp.of (AN.refl H2)),fun hz=>p2 _ H2 (AN.refl H2) (cW k1 k2 rs1 rs2) ?_⟩
    rw[Pf,<-rs1.length];omega⟩⟩
end
theorem E3.live{l:Ag}(z:E3 t h j l i):∃ o,h.get? j=Ab o/\∀ v,o.data≠.cell v:=by
 cases t with
 |true=>obtain⟨o,e,c,d⟩:=z;exact⟨o,e,fun v z=>by rw[d]at z;cases z⟩
 |false=>obtain⟨o,e,c,d⟩:=z;exact⟨o,e,fun v z=>by rw[d]at z;cases z⟩
theorem E3.keep{l:Ag}(z:E3 t h j l i)(k:∀ o,h.get? j=Ab o->h2.get? j=Ab o):E3 t h2 j l i:=by
 cases t with
 |true=>exact PySem.Heap.IsTupleIter.at z k
 |false=>exact PySem.Heap.IsListIter.at z k
theorem sR{A:Bv}(calm:A.handled=Af)(t:Ap)(j l:Ak)(ne:l≠j)(its:AM Ai):Draws prog w A j [j,l] its.size (fun i v=>its[i]?=Ab v) (fun i h=>E3 t h j l i/\Cq t h l its):=
 have d:=ID (prog:=prog) (w:=w) calm t j l ne its
 ⟨fun i h z=>let ⟨o,e,_⟩:=z.1.live;⟨o,e⟩,d.frame,d.item,fun s Q E h q=>d.done _ s Q E (AS _) h q⟩
theorem jS{A:Bv}(calm:A.handled=Af)(t:Ap)(j l:Ak)(ne:l≠j)(its:AM Ai)(i:Ag)(hi:its.size<=i):Draws prog w A j [j,l] i (fun _ _=>BF) (fun k h=>k=i/\E3 t h j l i/\Cq t h l its):=
 have d:=ID (prog:=prog) (w:=w) calm t j l ne its
 ⟨fun _ h z=>let ⟨o,e,_⟩:=z.2.1.live;⟨o,e⟩,fun k h h' z q=>⟨z.1,d.frame i h h' z.2 q⟩,fun k s Q E lt z=>absurd z.1 (AT lt),fun s Q E h q=>d.done i s Q E hi h.2 q⟩
noncomputable def Ite(K:Fg)(t:Ap)(a:Ak):It:=
 ⟨fun i H=>∃ xs x,SqX t K H a xs/\xs[i]?=Ab x,fun i H v H'=>∃ p x,H p=Af/\v=.ref p/\(∀ xs,SqX t K H a xs->xs[i]?=Ab x)/\H'=upd H p (.tup [.int i,x]),fun i H=>∃ xs,SqX t K H a xs/\xs.length<=i⟩
def eTn(t:Ap)(I l:Ag)(i:Ag)(h:AQ):Prop:=(∃ old,IsEnum h (I+1) I i old)/\E3 t h I l i
theorem ZC(t:Ap)(I l:Ag)(b:l<I):Turn P w K (.Tuple es n pos) (Ite K t l) [I,I+1] (I+1) (eTn t I l) where
  mem:=by simp
  obj:=fun i h ⟨⟨old,z1⟩,z2⟩ c hc=>by
    simp only[Ay,A3,Cj]at hc;rcases hc with rfl|rfl
    · exact z2.live
    · exact⟨_,z1,fun v z=>by cases z⟩
  keep:=fun i h h2 ⟨⟨old,z1⟩,z2⟩ k=>⟨⟨old,k _ (by simp) _ z1⟩,z2.keep fun o e=>k _ (by simp) o e⟩
  item:=by
    intro X hP hw hK hc i pI s σ H E Iv hf ⟨⟨old,z1⟩,z2⟩ ⟨xs,x,q1,hx⟩;subst hP hw hK;obtain⟨us,rx,px,_⟩:=Hn Iv q1;obtain⟨u,hu,ru⟩:=rx.get hx;have lu:i<us.toArray.size:=by
      have:=(A6.mp hu).1;simpa using this
    refine wpAny_pyNext_enum_itemD (sR (A:=X.A.in1) (Iv.ok.hd hc) t I l (AT b) us.toArray) z1 ⟨z2,px⟩ lu (ni0 (by decide)) (by simp only[Ay,A3,Cj,El];exact⟨ni0 (by decide),Cm (Az b (EA _ _))⟩) fun u' h2 tk hu' ho it2 hT sz kp=>⟨_,rfl,wpAny_letOwnedTupleGo_enum ho fun h3 d1 sb=>?_⟩
    have eu:u'=u:=by
      rw[WR,hu]at hu';exact(BU hu').symm
    subst eu;have lt:I+1<s.heap.objs.size:=AC z1;have kp3:∀ c o,c∉[I,I+1]->s.heap.get? c=Ab o->h3.get? c=Ab o:=fun c o nc q=>by
      simp only[Ay,A3,Cj,El]at nc;exact sb.extBut c o nc.2 (kp c o nc.2 nc.1 q)
    have nT:∀ c∈[I,I+1],c≠s.heap.objs.size:=fun c hc z=>by
      have:c<=I+1:=by
        simp only[Ay,A3,Cj]at hc;rcases hc with z|z<;>rw[z]<;>simp
      exact absurd (z ▸ BX this lt) (Bw _)
    have I1:Inv X pI σ (upd H s.heap.objs.size (.tup [.int i,x])) { s with heap:=s.heap.push { cls:=.type "tuple", data:=.seq #[.int i tk,u'] },toks:=s.toks }:=
      Iv.laid (fun _ _ q=>Ao _ q) (AS _) ⟨(by decide:2<=sizeLine),[.int i tk,u'],.cons ⟨_,rfl⟩ (.cons ru .nil),⟨_,Aw _ rfl,rfl,_,rfl⟩⟩
    have hf':∀ b∈[I,I+1],G6 X pI (upd H s.heap.objs.size (.tup [.int i,x])) b:=fun b hb=>⟨by rw[Dm (nT b hb)];exact(hf b hb).1,(hf b hb).2⟩
    have I2:Inv X pI σ (upd H s.heap.objs.size (.tup [.int i,x])) {s with heap:=h3,toks:=tk+1}:=Inv.turnedL (s:={ s with heap:=s.heap.push { cls:=.type "tuple", data:=.seq #[.int i tk,u'] },toks:=s.toks }) [I,I+1] I1 (fun c o nc q=>by
      rcases XV q with ⟨e1,e2⟩|e1
      · subst e1 e2;exact sb.extBut _ _ (Cm lt) hT
      · exact kp3 c o nc e1) hf'
    exact⟨.ref s.heap.objs.size,_,I2,rfl,⟨s.heap.objs.size,x,Iv.fresh,rfl,fun zs hz=>by rw[OA Iv hz q1];exact hx,rfl⟩,⟨⟨u',by simpa using d1⟩,it2.1.keep fun o q=>sb.extBut _ o (C1 (ni0 (by decide))) q⟩,fun b hb=>(hf' b hb).1⟩
  done:=by
    intro X hP hw hK hc i pI s σ H E Iv hf ⟨⟨old,z1⟩,z2⟩ ⟨xs,q1,hk⟩;subst hP hw hK;obtain⟨us,rx,px,_⟩:=Hn Iv q1;have e1:=rx.length;have e2:us.toArray.size<=i:=by rw[AE,<-e1];exact hk
    refine wpAny_pyNext_enum_endD (jS (A:=X.A.in1) (Iv.ok.hd hc) t I l (AT b) us.toArray i e2) z1 ⟨rfl,z2,px⟩ fun h2 eb=>⟨rfl,Inv.turnedL [I] Iv (t':=s.toks) (fun c o nc q=>eb c o (fun z=>nc (by simp[z])) q) fun c hc=>hf c ?_⟩
    have:c=I:=by simpa using hc
    subst this;simp
  self:=fun _ _ _ _ _ st h=>Yu st.1.choose_spec h
section
variable{prog:A5}{w:AJ}{A:Bv}{E:Vq}{s:Aq}
theorem bL(t:Ap)(l:Ak)(xs:AM Ai):Kl (Builtin.«enumerate.__new__» ⟨[.type "enumerate", .ref l],[]⟩) (fun _ R s=>Cq t s.heap l xs /\
   R (.ok (.ret (.ref (s.heap.push (itO t l)).objs.size))) { s with heap:=(s.heap.push (itO t l)).push { cls:=.type "enumerate", data:=.fields #[.none,.bool Ae,.ref s.heap.objs.size,C9 0,.none,.none] } }):=
 .of_wp fun prog w A R s h=>by
  obtain⟨hp,g,d,tk,os⟩:=s;obtain⟨hl,h⟩:=h;have hsub:=sub_enumerate;have hL:Cq t (F6 ⟨hp,g,d,tk,os⟩) l xs:=hl
  wp_walk
  refine wpAny_stack_any fun st=>As ?_
  split
  ·rename_i c _ _ _ _ _;cases (c==DZ "enumerate")
   ·wp_walk using JE hL
    exact⟨_,rfl,h⟩
   ·wp_walk using JE hL
    exact⟨_,rfl,h⟩
  ·wp_walk using JE hL
   exact⟨_,rfl,h⟩
theorem aX{xs:AM Ai}{Q:Vq}(hL:Cq t s.heap l xs)(h:∀ h',IsEnum h' (s.heap.objs.size+1) s.heap.objs.size 0 .none->E3 t h' s.heap.objs.size l 0->(∀ b o,s.heap.get? b=Ab o->h'.get? b=Ab o)->Q (.ref (s.heap.objs.size+1)) {s with heap:=h'}):
    Ax (model prog w) A (call (.type "enumerate") [.ref l]) Q E s:=by
  refine Jw F.called_enumerate (by decide) (F.typeCall_enumerate_1 _) (F.newCall_enumerate_1 _) (fun obj=>Xz obj _) F.entry_enumerate_new (bL t l xs) ⟨hL,?_⟩
  have hz:(s.heap.push (itO t l)).objs.size=s.heap.objs.size+1:=Bi ..;show _/\_;rw[hz];have he:IsEnum ((s.heap.push (itO t l)).push { cls:=.type "enumerate", data:=.fields #[.none,.bool Ae,.ref s.heap.objs.size,C9 0,.none,.none] }) (s.heap.objs.size+1) s.heap.objs.size 0 .none:=by
    have:=Aw (s.heap.push (itO t l)) (o:={ cls:=.type "enumerate", data:=.fields #[.none,.bool Ae,.ref s.heap.objs.size,C9 0,.none,.none] }) rfl;rw[hz]at this;exact this
  exact⟨⟨_,he,rfl⟩,h _ he (K2 (Ao _ (Aw _ (KJ _ _)))) fun b o x=>Ao _ (Ao _ x)⟩
end
def YL(K:Fg)(ta:TA):TI:=fun σ H R=>ta σ H fun vs H1=>∃ t a xs,vs=[.ref a]/\SqX t K H1 a xs/\(xs.length<=sizeLine->R (Ite K t a) H1)
theorem jE{a:Ar}(hg:Gl X "enumerate")(hm:X.mg "enumerate" = Af)(ha:PA X [a] ta)(hs:AG [a] X.env=[(Ae,eval a X.env)]):
  PI X (.Tuple es n tpos) (.Call (.Name "enumerate" p) [a] [] pos) (YL X.K ta):=by
 intro pI s σ H R I h;refine Hx (GY I hg hm PyProof.Rows.boot_enumerate (BM (thn (ha pos pI s σ H _ I h) fun us s1 ⟨vs,H1,I1,r1,q1⟩=>?_) hs rfl))
 obtain⟨t,c,xs,e,sx,q⟩:=q1;subst e;cases r1 with
 |cons r rr=>
  cases rr;cases r;obtain⟨us,ru,pu,zu⟩:=Hn I1 sx;refine aX pu fun h2 z1 z2 kp=>Yu z1 ?_
  refine⟨s1.heap.objs.size+1,[s1.heap.objs.size,s1.heap.objs.size+1],_,_,H1,rfl,I1.kept (t':=s1.toks) kp,ZC t s1.heap.objs.size c pu.lt,⟨⟨_,z1⟩,z2⟩,fun b hb=>?_,q zu⟩
  have hb':s1.heap.objs.size<=b:=by
   simp only[Ay,A3,Cj]at hb;rcases hb with z|z<;>rw[z]<;>simp
  exact I1.fpOk hb' (I1.hok.fresh hb')
theorem Pd:∀(j:Ad)(xs:Ac D),(Ht j xs).length=xs.length
 |_,[]=>rfl
 |j,x::xs=>by rw[Ht,Cp,Pd,Cp]
theorem Ta:∀(xs:Ac D)(j:Ad)(i:Ag)(d:D),(Ht j xs)[i]?=Ab d->∃ x,xs[i]?=Ab x/\d=.tup [.int (j+i),x]
 |[],j,i,d,h=>by simp[Ht]at h
 |x::xs,j,0,d,h=>by
  rw[Ht]at h;simp only[EM,Cs]at h;exact⟨x,rfl,by rw[<-h];simp⟩
 |x::xs,j,i+1,d,h=>by
  rw[Ht]at h;simp only[EL]at h ⊢;obtain⟨y,h1,h2⟩:=Ta xs (j+1) i d h;exact⟨y,h1,by rw[h2];congr 3;omega⟩
theorem ZT{ds:Ac D}(sq:∀ H2,Kp A H1 H2->SqX t K H2 a xs)(r1:Reps K CL H1 A xs ds):Jm K CL A (Ht 0 ds) (Ite K t a) H1:=fun H k i=>by
 have s1:=sq H k;refine⟨fun hi=>⟨xs,s1,?_⟩,fun d hd=>?_⟩
 ·rw[Pd]at hi;rw[r1.length];exact hi
 ·obtain⟨x,hx,rfl⟩:=Ta _ _ _ _ hd;obtain⟨u,hu,ru⟩:=r1.get hx;refine⟨⟨xs,u,s1,hu⟩,?_⟩;rintro w' H' ⟨p,x',hp,rfl,c1,rfl⟩;have ex:x'=u:=BU ((c1 xs s1).symm.trans hu);subst ex;rw[FJ];exact⟨F3 hp (.tup [.int i,x']),fun B hB aB=>KQ aB hp ⟨rfl,LR ru k hB,trivial⟩⟩
section
variable{X:Cx}{CL:ClA}{W:XW}{pos p:A8}{a:Ar}{fa:Rho->R D}
theorem fI(ha:SE X CL W a fa)(hg:Gl X "enumerate")(hm:X.mg "enumerate" = Af)(hs:AG [a] X.env=[(Ae,eval a X.env)]):
  SI X CL W (.Tuple es n tpos) (.Call (.Name "enumerate" p) [a] [] pos) (fun ρ=>(fa ρ).bind fun x=>(CI x).bind fun xs=>.ok (Ht 0 xs)):=
 fun A=>PI.weak (jE hg hm (Fk (ha A) GW hs) hs) fun σ H R ⟨hA,ρ,g,q⟩=>⟨hA,ρ,g,Fm.ex q fun d v H1 _ s1 r1 p1=>by
  cases e1:CI d with
  |bad=>rw[e1]at p1;exact p1.elim
  |exn z=>exact absurd e1 (by cases d<;>simp[CI])
  |ok ds=>
   rw[e1]at p1;obtain⟨t,c,xs,rfl,k1,rs⟩:=Lb r1 e1;exact⟨t,c,xs,rfl,k1 H1 (Kp.of (AN.refl H1)),fun hz=>p1 _ H1 (AN.refl H1) (ZT k1 rs) (by rw[Pd,<-rs.length];exact hz)⟩⟩
end
noncomputable abbrev E2(h:AQ)(z TI TO:Ak)(f0 f1:Ai):Prop:=h.get? z=Ab { cls:=.type "zip", dict:=Af,data:=.fields #[f0,f1,.bool Ae,.ref TI,.ref TO],slots:=#[] }
noncomputable abbrev ET(h:AQ)(T:Ak)(a b c:Ai):Prop:=h.get? T=Ab { cls:=.type "tuple", data:=.seq #[a,b,c] }
section
variable{prog:A5}{w:AJ}{A:Bv}{E:Vq}{s:Aq}
theorem nb3{I l c:Ag}(b:l<I)(h:c∈[I+j,l])(i:Ag)(hi:i≠j):c≠I+i:=by
 have h':c=I+j\/c=l:=by simpa using h
 omega
theorem Tw{z TI TO T1:Ag}{Q:Ap->Aq->Prop}(hz:E2 s.heap z TI TO (C9 T1) (.bool f1))(hT:s.heap.get? T1=Ab o1)(go:∀ h1,E2 h1 z TI TO (C9 T1) (.bool Aa)->(∀ c o,c≠z->s.heap.get? c=Ab o->h1.get? c=Ab o)->h1.objs.size=s.heap.objs.size->Q Ae {s with heap:=h1}):Ax (model prog w) A (AZ (.ref z)) Q E s:=by
 simp only[AZ];refine Ah (Bu hz rfl (x:=C9 T1) rfl ?_);show Ax _ _ (loadIfAlive T1 >>= _) _ _ _;refine Ah (fun Γ p _=>?_)
 show Ax _ _ _ _ _ _;rw[hT];show Ax _ _ (field (.ref z) 1 >>= _) _ _ _;refine Ah (Bu hz rfl (x:=.bool f1) rfl ?_);cases f1 with
 |true=>exact As (go s.heap hz (fun _ _ _ e=>e) rfl)
 |false=>exact Ah (Cc hz (by simp) fun h1 z1 sb=>As (go h1 z1 (fun c o nc e=>sb.extBut c o nc e) sb.1))
theorem Tx{z TI TO:Ag}{f1:Ai}{Q:Ap->Aq->Prop}(hz:E2 s.heap z TI TO f0 f1)(hf:f0=.none\/∃ T1:Ag,f0=C9 T1/\s.heap.get? T1=Af)(go:Q Aa s):Ax (model prog w) A (AZ (.ref z)) Q E s:=by
 simp only[AZ];rcases hf with rfl|⟨T1,rfl,hT⟩
 ·exact Ah (Bu hz rfl (x:=.none) rfl (As go))
 ·refine Ah (Bu hz rfl (x:=C9 T1) rfl ?_);show Ax _ _ (loadIfAlive T1 >>= _) _ _ _;refine Ah (fun Γ p _=>?_)
  show Ax _ _ _ _ _ _;rw[hT];exact As go
theorem ZR{I l1 l2 l3 n1 n2 n3 k T1:Ag}{P3:Ag->Ai->Prop}{S3:Ag->AQ->Prop}{Q:Vq}(b1:l1<I)(b2:l2<I)(b3:l3<I)(D1:Dw prog w A (I+0) [I+0,l1] n1 P1 S1)(D2:Dw prog w A (I+1) [I+1,l2] n2 P2 S2)(D3:Dw prog w A (I+2) [I+2,l3] n3 P3 S3)(hz:E2 s.heap (I+5) (I+3) (I+4) (C9 T1) (.bool f1))(hI:ET s.heap (I+3) (.ref (I+0)) (.ref (I+1)) (.ref (I+2)))(hT:s.heap.get? T1=Ab o1)(g1:S1 k s.heap)(g2:S2 k s.heap)(g3:S3 k s.heap)(k1:k<n1)(k2:k<n2)(k3:k<n3)(go:∀ x y u h2 tk,P1 k x->P2 k y->P3 k u->E2 h2 (I+5) (I+3) (I+4) (C9 T1) (.bool Aa)->S1 (k+1) h2->S2 (k+1) h2->S3 (k+1) h2->ET h2 s.heap.objs.size x y u->h2.objs.size=s.heap.objs.size+1 ->
   (∀ c o,c∉[I+0,I+1,I+2,I+5]->s.heap.get? c=Ab o->h2.get? c=Ab o)->Q (.ref s.heap.objs.size) {s with heap:=h2,toks:=tk}):Ax (model prog w) A (Builtin.«zip.__next__» ⟨[.ref (I+5)],[]⟩) (fun fin s'=>∃ v,fin=.done (.ret v)/\Q v s') E s:=by
 refine Ah (m:=field (.ref (I+5)) 2) (Bu hz rfl (x:=.bool Ae) rfl ?_);refine Ah (m:=field (.ref (I+5)) 3) (Bu hz rfl (x:=.ref (I+3)) rfl (Ah (Bx hI rfl ?_)));refine Ah (m:=AZ (.ref (I+5))) (Tw hz hT fun p1 z1 e1 s1=>?_)
 rw[AH (by decide)]
 refine Ah ?_;simp only[<-Wq,Ea,DP];have f1':S1 k p1:=D1.frame _ _ _ g1 fun c hc o q=>e1 c o (nb3 b1 hc 5 (by decide)) q
 refine Ah (Ah (BQ (Ah (m:=AX (.ref (I+0))) (D1.item k _ _ _ k1 f1' fun x p2 t2 px s2 e2=>As (As ?_)))))
 have f2':S2 k p2:=D2.frame _ _ _ g2 fun c hc o q=>e2.extBut c o (nb3 b2 hc 0 (by decide)) (e1 c o (nb3 b2 hc 5 (by decide)) q)
 refine Ah (Ah (BQ (Ah (m:=AX (.ref (I+1))) (D2.item k _ _ _ k2 f2' fun y p3 t3 py s3 e3=>As (As ?_)))))
 have f3':S3 k p3:=D3.frame _ _ _ g3 fun c hc o q=>e3.extBut c o (nb3 b3 hc 1 (by decide)) (e2.extBut c o (nb3 b3 hc 0 (by decide)) (e1 c o (nb3 b3 hc 5 (by decide)) q))
 refine Ah (Ah (BQ (Ah (m:=AX (.ref (I+2))) (D3.item k _ _ _ k3 f3' fun u p4 t4 pu s4 e4=>As (As (As ?_))))))
 refine Ah (GU (hsz:=by show 3<=sizeLine;decide) (As ⟨_,rfl,?_⟩))
 have sz:p4.objs.size=s.heap.objs.size:=by rw[e4.1,e3.1,e2.1,s1]
 have z4:E2 p4 (I+5) (I+3) (I+4) (C9 T1) (.bool Aa):=e4.extBut _ _ (nij (by decide)) (e3.extBut _ _ (nij (by decide)) (e2.extBut _ _ (nij (by decide)) z1))
 have a1:S1 (k+1) p4:=D1.frame _ _ _ s2 fun c hc o q=>e4.extBut c o (nb3 b1 hc 2 (by decide)) (e3.extBut c o (nb3 b1 hc 1 (by decide)) q)
 have a2:S2 (k+1) p4:=D2.frame _ _ _ s3 fun c hc o q=>e4.extBut c o (nb3 b2 hc 2 (by decide)) q
 have psh:∀ {c o},p4.get? c=Ab o->(p4.push { cls:=.type "tuple", data:=.seq #[x,y,u] }).get? c=Ab o:=fun q=>Ao _ q
 have q:=go x y u (p4.push { cls:=.type "tuple", data:=.seq #[x,y,u] }) t4 px py pu (psh z4) (D1.frame _ _ _ a1 fun c _ o q=>psh q) (D2.frame _ _ _ a2 fun c _ o q=>psh q) (D3.frame _ _ _ s4 fun c _ o q=>psh q) (by rw[<-sz];exact Aw _ rfl) (by rw[Bi,sz]) (fun c o nc q=>by
  simp only[Ay,A3,Cj,El]at nc;exact psh (e4.extBut c o nc.2.2.1 (e3.extBut c o nc.2.1 (e2.extBut c o nc.1 (e1 c o nc.2.2.2 q)))))
 rw[<-sz]at q;exact q
theorem ZQ{I l1 n1 k T1:Ag}{Q:Fin->Aq->Prop}(b1:l1<I)(D1:Dw prog w A (I+0) [I+0,l1] n1 P1 S1)(hz:E2 s.heap (I+5) (I+3) (I+4) (C9 T1) (.bool f1))(hI:ET s.heap (I+3) (.ref (I+0)) (.ref (I+1)) (.ref (I+2)))(hT:s.heap.get? T1=Ab o1)(g1:S1 k s.heap)(k1:n1<=k)(up:∀ h2 e,(∀ c o,c∉[I+0,I+5]->s.heap.get? c=Ab o->h2.get? c=Ab o)->(∃ o,h2.get? e=Ab o/\o.cls=.type "StopIteration")->E (.ref e) {s with heap:=h2}):Ax (model prog w) A (Builtin.«zip.__next__» ⟨[.ref (I+5)],[]⟩) Q E s:=by
 refine Ah (m:=field (.ref (I+5)) 2) (Bu hz rfl (x:=.bool Ae) rfl ?_);refine Ah (m:=field (.ref (I+5)) 3) (Bu hz rfl (x:=.ref (I+3)) rfl (Ah (Bx hI rfl ?_)));refine Ah (m:=AZ (.ref (I+5))) (Tw hz hT fun p1 z1 e1 s1=>?_)
 rw[AH (by decide)]
 refine Ah ?_;simp only[<-Wq,Ea,DP];have f1':S1 k p1:=D1.frame _ _ _ g1 fun c hc o q=>e1 c o (nb3 b1 hc 5 (by decide)) q
 refine Ah (Ah (BQ (Ah (m:=AX (.ref (I+0))) (D1.done k _ _ _ k1 f1' fun p2 e e2 he=>up p2 e (fun c o nc q=>?_) he))))
 simp only[Ay,A3,Cj,El]at nc;exact e2 c o nc.1 (e1 c o nc.2 q)
theorem cT{I l1 n1 k:Ag}{f1:Ai}{Q:Fin->Aq->Prop}(b1:l1<I)(D1:Dw prog w A (I+0) [I+0,l1] n1 P1 S1)(hz:E2 s.heap (I+5) (I+3) (I+4) f0 f1)(hf:f0=.none\/∃ T1:Ag,f0=C9 T1/\s.heap.get? T1=Af)(hI:ET s.heap (I+3) (.ref (I+0)) (.ref (I+1)) (.ref (I+2)))(g1:S1 k s.heap)(k1:n1<=k)(up:∀ h2 e,(∀ c o,c∉[I+0,I+5]->s.heap.get? c=Ab o->h2.get? c=Ab o)->(∃ o,h2.get? e=Ab o/\o.cls=.type "StopIteration")->E (.ref e) {s with heap:=h2}):Ax (model prog w) A (Builtin.«zip.__next__» ⟨[.ref (I+5)],[]⟩) Q E s:=by
 refine Ah (m:=field (.ref (I+5)) 2) (Bu hz rfl (x:=.bool Ae) rfl ?_);refine Ah (m:=field (.ref (I+5)) 3) (Bu hz rfl (x:=.ref (I+3)) rfl (Ah (Bx hI rfl ?_)));refine Ah (m:=AZ (.ref (I+5))) (Tx hz hf ?_);rw[AD rfl];refine Ah (Fi (Ah (Bu hz rfl (x:=.ref (I+4)) rfl (Ah (Cc hz (by simp) fun p1 z1 e1=>Ah ?_)))))
 have z1':E2 p1 (I+5) (I+3) (I+4) .ellipsis f1:=z1;simp only[Ga,Gv,Ea,DP];have g1':S1 k p1:=D1.frame _ _ _ g1 fun c hc o q=>e1.extBut c o (nb3 b1 hc 5 (by decide)) q
 refine Ah (Ah (DK (Ah (m:=AX (.ref (I+0))) (D1.done _ _ _ _ k1 g1' fun p2 e e2 he=>?_))))
 obtain⟨oe,hoe,hce⟩:=he;have z2:E2 p2 (I+5) (I+3) (I+4) .ellipsis f1:=e2 _ _ (nij (by decide)) z1'
 have ne:e≠I+5:=fun x=>by subst x;rw[z2]at hoe;cases hoe;simp at hce
 refine Cc z2 (by simp) fun p3 _ e3=>up p3 e (fun c o nc q=>?_) ⟨oe,e3.extBut _ _ ne hoe,hce⟩
 simp only[Ay,A3,Cj,El]at nc;exact e3.extBut c o nc.2 (e2 c o nc.1 (e1.extBut c o nc.2 q))
theorem PY{T:Ak}{a b c x:Ai}{Q:JV->Aq->Prop}(h:ET s.heap T a b c)(go:∀ h2,h2.get? T=Ab { cls:=.type "tuple", data:=.seq ((#[a,b,c]:AM Ai).setIfInBounds k x) }->Fa T s.heap h2->Q () {s with heap:=h2}):Ax (model prog w) A (He T (·.setIfInBounds k x)) Q E s:=by
 refine CT h rfl (go _ ?_ (GQ ..)) (by show 3<=sizeLine;decide) (by show ((#[a,b,c]:AM Ai).setIfInBounds k x).size<=sizeLine+1;rw[Array.size_setIfInBounds];show 3<=sizeLine+1;decide)
 rw[Ce _ h rfl];simp[Br]
theorem ZV{I l1 l2 l3 n1 n2 n3 k:Ag}{P3:Ag->Ai->Prop}{S3:Ag->AQ->Prop}{a b c f1:Ai}{Q:Vq}(b1:l1<I)(b2:l2<I)(b3:l3<I)(D1:Dw prog w A (I+0) [I+0,l1] n1 P1 S1)(D2:Dw prog w A (I+1) [I+1,l2] n2 P2 S2)(D3:Dw prog w A (I+2) [I+2,l3] n3 P3 S3)(hz:E2 s.heap (I+5) (I+3) (I+4) f0 f1)(hf:f0=.none\/∃ T1:Ag,f0=C9 T1/\s.heap.get? T1=Af)(hI:ET s.heap (I+3) (.ref (I+0)) (.ref (I+1)) (.ref (I+2)))(hO:ET s.heap (I+4) a b c)(g1:S1 k s.heap)(g2:S2 k s.heap)(g3:S3 k s.heap)(k1:k<n1)(k2:k<n2)(k3:k<n3)(go:∀ x y u h2 tk,P1 k x->P2 k y->P3 k u->E2 h2 (I+5) (I+3) (I+4) (C9 s.heap.objs.size) (.bool Ae)->S1 (k+1) h2->S2 (k+1) h2->S3 (k+1) h2->ET h2 s.heap.objs.size x y u->ET h2 (I+4) x y u->h2.objs.size=s.heap.objs.size+1 ->
   (∀ c o,c∉[I+0,I+1,I+2,I+4,I+5]->s.heap.get? c=Ab o->h2.get? c=Ab o)->Q (.ref s.heap.objs.size) {s with heap:=h2,toks:=tk}):Ax (model prog w) A (Builtin.«zip.__next__» ⟨[.ref (I+5)],[]⟩) (fun fin s'=>∃ v,fin=.done (.ret v)/\Q v s') E s:=by
 refine Ah (m:=field (.ref (I+5)) 2) (Bu hz rfl (x:=.bool Ae) rfl ?_);refine Ah (m:=field (.ref (I+5)) 3) (Bu hz rfl (x:=.ref (I+3)) rfl (Ah (Bx hI rfl ?_)));refine Ah (m:=AZ (.ref (I+5))) (Tx hz hf ?_);rw[AD rfl];refine Ah (Fi (Ah (Bu hz rfl (x:=.ref (I+4)) rfl (Ah (Cc hz (by simp) fun p1 z1 e1=>Ah ?_)))))
 have z1':E2 p1 (I+5) (I+3) (I+4) .ellipsis f1:=z1;simp only[Ga,Gv,Ea,DP];have f1':S1 k p1:=D1.frame _ _ _ g1 fun c hc o q=>e1.extBut c o (nb3 b1 hc 5 (by decide)) q
 refine Ah (Ah (DK (Ah (m:=AX (.ref (I+0))) (D1.item k _ _ _ k1 f1' fun x p2 t2 px s2 e2=>As ?_))))
 have o2:ET p2 (I+4) a b c:=e2.extBut _ _ (nij (by decide)) (e1.extBut _ _ (nij (by decide)) hO)
 refine Ah (Bx o2 rfl (Ah (PY o2 fun p3 o3 e3=>Ah (C2 (As ?_)))))
 have o3':ET p3 (I+4) x b c:=o3;have f2':S2 k p3:=D2.frame _ _ _ g2 fun c hc o q=>e3.extBut c o (nb3 b2 hc 4 (by decide)) (e2.extBut c o (nb3 b2 hc 0 (by decide)) (e1.extBut c o (nb3 b2 hc 5 (by decide)) q))
 refine Ah (Ah (DK (Ah (m:=AX (.ref (I+1))) (D2.item k _ _ _ k2 f2' fun y p4 t4 py s4 e4=>As ?_))))
 have o4:ET p4 (I+4) x b c:=e4.extBut _ _ (nij (by decide)) o3'
 refine Ah (Bx o4 rfl (Ah (PY o4 fun p5 o5 e5=>Ah (C2 (As ?_)))))
 have o5':ET p5 (I+4) x y c:=o5;have f3':S3 k p5:=D3.frame _ _ _ g3 fun c hc o q=>e5.extBut c o (nb3 b3 hc 4 (by decide)) (e4.extBut c o (nb3 b3 hc 1 (by decide)) (e3.extBut c o (nb3 b3 hc 4 (by decide)) (e2.extBut c o (nb3 b3 hc 0 (by decide)) (e1.extBut c o (nb3 b3 hc 5 (by decide)) q))))
 refine Ah (Ah (DK (Ah (m:=AX (.ref (I+2))) (D3.item k _ _ _ k3 f3' fun u p6 t6 pu s6 e6=>As ?_))))
 have o6:ET p6 (I+4) x y c:=e6.extBut _ _ (nij (by decide)) o5'
 refine Ah (Bx o6 rfl (Ah (PY o6 fun p7 o7 e7=>Ah (C2 (As (As ?_))))))
 have o7':ET p7 (I+4) x y u:=o7;have sz:p7.objs.size=s.heap.objs.size:=by rw[e7.1,e6.1,e5.1,e4.1,e3.1,e2.1,e1.1]
 have z7:E2 p7 (I+5) (I+3) (I+4) .ellipsis f1:=e7.extBut _ _ (nij (by decide)) (e6.extBut _ _ (nij (by decide)) (e5.extBut _ _ (nij (by decide)) (e4.extBut _ _ (nij (by decide)) (e3.extBut _ _ (nij (by decide)) (e2.extBut _ _ (nij (by decide)) z1')))))
 refine Ah (Bx o7' rfl (Ah (GU (hsz:=by show 3<=sizeLine;decide) ?_)))
 refine Ah (m:=De (.ref (I+5)) (.ref p7.objs.size)) ?_;simp only[De];have z8:E2 (p7.push { cls:=.type "tuple", data:=.seq #[x,y,u] }) (I+5) (I+3) (I+4) .ellipsis f1:=Ao _ z7;refine Ah (Cc z8 (by simp) fun p9 z9 e9=>?_)
 have z9':E2 p9 (I+5) (I+3) (I+4) (C9 p7.objs.size) f1:=z9;refine Cc z9' (by simp) fun pa za ea=>As ⟨_,rfl,?_⟩
 have za':E2 pa (I+5) (I+3) (I+4) (C9 p7.objs.size) (.bool Ae):=za;have lt5:I+5<p7.objs.size:=AC z7;have up:∀ c o,c≠I+5->p7.get? c=Ab o->pa.get? c=Ab o:=fun c o nc q=>ea.extBut _ _ nc (e9.extBut _ _ nc (Ao _ q))
 have a1:S1 (k+1) pa:=D1.frame _ _ _ s2 fun c hc o q=>up c o (nb3 b1 hc 5 (by decide)) (e7.extBut c o (nb3 b1 hc 4 (by decide)) (e6.extBut c o (nb3 b1 hc 2 (by decide)) (e5.extBut c o (nb3 b1 hc 4 (by decide)) (e4.extBut c o (nb3 b1 hc 1 (by decide)) (e3.extBut c o (nb3 b1 hc 4 (by decide)) q)))))
 have a2:S2 (k+1) pa:=D2.frame _ _ _ s4 fun c hc o q=>up c o (nb3 b2 hc 5 (by decide)) (e7.extBut c o (nb3 b2 hc 4 (by decide)) (e6.extBut c o (nb3 b2 hc 2 (by decide)) (e5.extBut c o (nb3 b2 hc 4 (by decide)) q)))
 have a3:S3 (k+1) pa:=D3.frame _ _ _ s6 fun c hc o q=>up c o (nb3 b3 hc 5 (by decide)) (e7.extBut c o (nb3 b3 hc 4 (by decide)) q)
 have tp:ET pa p7.objs.size x y u:=ea.extBut _ _ (Cm lt5) (e9.extBut _ _ (Cm lt5) (Aw _ rfl));have q:=go x y u pa t6 px py pu (by rw[<-sz];exact za') a1 a2 a3 (by rw[<-sz];exact tp) (up _ _ (nij (by decide)) o7') (by rw[ea.1,e9.1,Bi,sz]) (fun c o nc q=>by
  simp only[Ay,A3,Cj,El]at nc;exact up c o nc.2.2.2.2 (e7.extBut c o nc.2.2.2.1 (e6.extBut c o nc.2.2.1 (e5.extBut c o nc.2.2.2.1 (e4.extBut c o nc.2.1 (e3.extBut c o nc.2.2.2.1 (e2.extBut c o nc.1 (e1.extBut c o nc.2.2.2.2 q))))))))
 rw[<-sz]at q;exact q
def Z3(t1 t2 t3:Ap)(I l1 l2 l3 i:Ag)(h:AQ):Prop:=ET h (I+3) (.ref (I+0)) (.ref (I+1)) (.ref (I+2))/\E3 t1 h (I+0) l1 i/\E3 t2 h (I+1) l2 i/\E3 t3 h (I+2) l3 i/\(∃ a b c,ET h (I+4) a b c) /\
 (E2 h (I+5) (I+3) (I+4) .none (.bool Ae)\/∃(T1:Ag)(f1:Ap),E2 h (I+5) (I+3) (I+4) (C9 T1) (.bool f1))
noncomputable def z3w(I:Ag):Ac Ak:=[I+0,I+1,I+2,I+4,I+5]
theorem fP{t1 t2 t3:Ap}{I l1 l2 l3 i:Ag}{xs:AM Ai}{x:Ai}{Q:Au Ai->Aq->Prop}(calm:A.handled=Af)(b1:l1<I)(b2:l2<I)(b3:l3<I)(z:Z3 t1 t2 t3 I l1 l2 l3 i s.heap)(q1:Cq t1 s.heap l1 xs)(q2:Cq t2 s.heap l2 ys)(q3:Cq t3 s.heap l3 us)(hx:xs[i]?=Ab x)(hy:ys[i]?=Ab y)(hu:us[i]?=Ab u)(go:∀ h2 tk,Z3 t1 t2 t3 I l1 l2 l3 (i+1) h2->ET h2 s.heap.objs.size x y u->h2.objs.size=s.heap.objs.size+1->(∀ c o,c∉z3w I->s.heap.get? c=Ab o->h2.get? c=Ab o)->Q (Ab (.ref s.heap.objs.size)) {s with heap:=h2,toks:=tk}):Ax (model prog w) A (Ej (.ref (I+5))) Q E s:=by
 obtain⟨zI,i1,i2,i3,zz⟩:=z;have calm':A.in1.handled=Af:=calm;have lt:∀{v:AM Ai}{k:Ag}{a:Ai},v[k]?=Ab a->k<v.size:=fun h=>by
  rw[Array.getElem?_eq_some_iff]at h;exact h.1
 have inj:∀{v:AM Ai}{k:Ag}{a b:Ai},v[k]?=Ab a->v[k]?=Ab b->b=a:=fun h1 h2=>by
  rw[h1]at h2;exact(BU h2).symm
 have d1:=ID (prog:=prog) (w:=w) calm' t1 (I+0) l1 (AT b1) xs;have d2:=ID (prog:=prog) (w:=w) calm' t2 (I+1) l2 (AT (Az b2 (EA _ _))) ys;have d3:=ID (prog:=prog) (w:=w) calm' t3 (I+2) l3 (AT (Az b3 (EA _ _))) us;obtain⟨⟨a,b,c,hO⟩,zz⟩:=zz;have fst:∀{f0 f1:Ai},E2 s.heap (I+5) (I+3) (I+4) f0 f1->(f0=.none\/∃ T1:Ag,f0=C9 T1/\s.heap.get? T1=Af)->Ax (model prog w) A (Ej (.ref (I+5))) Q E s:=fun hz hf=>by
  have hty:s.TypeIs (.ref (I+5)) "zip" := ⟨_,hz,rfl⟩;simp only[Ej];refine Ah (Fs (Ck hty CB (CH CB hty EC (ZV (k:=i) b1 b2 b3 d1 d2 d3 hz hf zI hO ⟨i1,q1⟩ ⟨i2,q2⟩ ⟨i3,q3⟩ (lt hx) (lt hy) (lt hu) fun x' y' u' h2 tk px py pu c1 c2 c3 c4 c5 c6 c7 kp=>As ?_) (Ei _))))
  rw[inj hx px,inj hy py,inj hu pu]at c5;exact go h2 tk ⟨kp _ _ (by simp) zI,c2.1,c3.1,c4.1,⟨_,_,_,c6⟩,.inr ⟨_,_,c1⟩⟩ c5 c7 kp
 rcases zz with hz|⟨T1,f1,hz⟩
 ·exact fst hz (.inl rfl)
 ·cases hT:s.heap.get? T1 with
  |none=>exact fst hz (.inr ⟨T1,rfl,hT⟩)
  |some o1=>
   have hty:s.TypeIs (.ref (I+5)) "zip" := ⟨_,hz,rfl⟩;simp only[Ej];refine Ah (Fs (Ck hty CB (CH CB hty EC (ZR (k:=i) b1 b2 b3 d1 d2 d3 hz zI hT ⟨i1,q1⟩ ⟨i2,q2⟩ ⟨i3,q3⟩ (lt hx) (lt hy) (lt hu) fun x' y' u' h2 tk px py pu c1 c2 c3 c4 c5 c6 kp=>As ?_) (Ei _))))
   rw[inj hx px,inj hy py,inj hu pu]at c5;exact go h2 tk ⟨kp _ _ (by simp) zI,c2.1,c3.1,c4.1,⟨a,b,c,kp _ _ (by simp) hO⟩,.inr ⟨T1,Aa,c1⟩⟩ c5 c6 (fun c o nc q=>kp c o (fun h=>nc (by simp only[z3w,Ay,A3,Cj]at h ⊢;rcases h with h|h|h|h<;>simp[h])) q)
theorem lX{t1 t2 t3:Ap}{I l1 l2 l3 i:Ag}{xs:AM Ai}{Q:Au Ai->Aq->Prop}(calm:A.handled=Af)(b1:l1<I)(z:Z3 t1 t2 t3 I l1 l2 l3 i s.heap)(q1:Cq t1 s.heap l1 xs)(hx:xs.size<=i)(go:∀ h2,(∀ c o,c∉z3w I->s.heap.get? c=Ab o->h2.get? c=Ab o)->Q Af {s with heap:=h2}):Ax (model prog w) A (Ej (.ref (I+5))) Q E s:=by
 obtain⟨zI,i1,i2,i3,zz⟩:=z;have calm':A.in1.handled=Af:=calm;have d1:=ID (prog:=prog) (w:=w) calm' t1 (I+0) l1 (AT b1) xs;have go':∀ h2 e,(∀ c o,c∉[I+0,I+5]->s.heap.get? c=Ab o->h2.get? c=Ab o)->(∃ o,h2.get? e=Ab o/\o.cls=.type "StopIteration")->Ax (model prog w) A (isInstance (.ref e) (.type "StopIteration") >>= fun b=>if b=Aa then pure Af else throw (.ref e)) Q E {s with heap:=h2}:=fun h2 e kp ⟨o,ho,hcl⟩=>
  Ah (Yt (T := "StopIteration") (b:=Aa) ⟨o,ho,hcl⟩ Yj (As (go h2 fun c o nc q=>kp c o (fun h=>nc (by simp only[z3w,Ay,A3,Cj]at h ⊢;rcases h with h|h<;>simp[h])) q)))
 have fin:∀{f0 f1:Ai},E2 s.heap (I+5) (I+3) (I+4) f0 f1->(f0=.none\/∃ T1:Ag,f0=C9 T1/\s.heap.get? T1=Af)->Ax (model prog w) A (Ej (.ref (I+5))) Q E s:=fun hz hf=>by
  have hty:s.TypeIs (.ref (I+5)) "zip" := ⟨_,hz,rfl⟩;simp only[Ej];exact Ah (Fs (Ck hty CB (CH CB hty EC (cT (k:=i) b1 d1 hz hf zI ⟨i1,q1⟩ hx fun h2 e kp he=>go' h2 e kp he) (Ei _))))
 obtain⟨_,zz⟩:=zz;rcases zz with hz|⟨T1,f1,hz⟩
 ·exact fin hz (.inl rfl)
 ·cases hT:s.heap.get? T1 with
  |none=>exact fin hz (.inr ⟨T1,rfl,hT⟩)
  |some o1=>
   have hty:s.TypeIs (.ref (I+5)) "zip" := ⟨_,hz,rfl⟩;simp only[Ej];exact Ah (Fs (Ck hty CB (CH CB hty EC (ZQ (k:=i) b1 d1 hz zI hT ⟨i1,q1⟩ hx fun h2 e kp he=>go' h2 e kp he) (Ei _))))
end
section
variable{prog:A5}{w:AJ}{A:Bv}{R:Kn->Aq->Prop}
def K4(I S:Ag)(xs ys us:AM Ai)(i:Ag)(acc:AM Ai)(h:AQ):Prop:=acc.size=i/\(∀ j,j<i->∃(a:Ag)(x y u:Ai),acc[j]?=Ab (.ref a)/\xs[j]?=Ab x/\ys[j]?=Ab y/\us[j]?=Ab u/\ET h a x y u/\I+5<a/\a≠S)/\∀(j1 j2 a:Ag),acc[j1]?=Ab (D5 a)->acc[j2]?=Ab (D5 a)->j1=j2
theorem Cq.at'(z:Cq t h l its)(k:∀ o,h.get? l=Ab o->h2.get? l=Ab o):Cq t h2 l its:=by
 cases t with
 |true=>exact PySem.Heap.IsTuple.at z k
 |false=>exact PySem.Heap.IsList.at z k
theorem NJ{I a:Ag}(h:I+5<a):a∉z3w I:=by
 intro z;simp only[z3w,Ay,A3,Cj]at z;rcases z with z|z|z|z|z<;>· rw[z]at h;exact absurd h (EZ.mpr (GP (by decide) I))
theorem Ny{I l:Ag}(h:l<I):l∉z3w I:=by
 intro z;simp only[z3w,Ay,A3,Cj]at z;rcases z with z|z|z|z|z<;>· rw[z]at h;exact absurd h (EZ.mpr (EA I _))
theorem Z3.at'{t1 t2 t3:Ap}{I l1 l2 l3 i:Ag}{h h2:AQ}(z:Z3 t1 t2 t3 I l1 l2 l3 i h)(k:∀ j,j<=5->∀ o,h.get? (I+j)=Ab o->h2.get? (I+j)=Ab o):Z3 t1 t2 t3 I l1 l2 l3 i h2:=by
 obtain⟨zI,i1,i2,i3,⟨a,b,c,hO⟩,zz⟩:=z;exact⟨k 3 (by decide) _ zI,i1.at' fun o q=>k 0 (by decide) o q,i2.at' fun o q=>k 1 (by decide) o q,i3.at' fun o q=>k 2 (by decide) o q,⟨a,b,c,k 4 (by decide) _ hO⟩,zz.imp (k 5 (by decide) _) fun ⟨T1,f1,hz⟩=>⟨T1,f1,k 5 (by decide) _ hz⟩⟩
theorem fR{t1 t2 t3:Ap}{I l1 l2 l3 n:Ag}{xs:AM Ai}{res:Ai}(calm:A.handled=Af)(b1:l1<I)(b2:l2<I)(b3:l3<I)(S:Ag)(hS:I+5<S)(n0:0<n)(nn:n<=1000)(e1:xs.size=n)(e2:ys.size=n)(e3:us.size=n):
  ∀(k i:Ag)(s:Aq)(acc:AM Ai)(c:Ag),n-i=k->i<=n->Z3 t1 t2 t3 I l1 l2 l3 i s.heap->Cq t1 s.heap l1 xs->Cq t2 s.heap l2 ys->Cq t3 s.heap l3 us ->
  s.heap.get? S=Ab { cls:=.type "list", dict:=Af,data:=.seq acc c,slots:=#[] }->K4 I S xs ys us i acc s.heap ->
  (∀ h2 acc2 c2 tk,(∀ d o,d∉z3w I->d≠S->s.heap.get? d=Ab o->h2.get? d=Ab o)->h2.get? S=Ab { cls:=.type "list", dict:=Af,data:=.seq acc2 c2,slots:=#[] }->K4 I S xs ys us n acc2 h2->R (.ok (.ret res)) {s with heap:=h2,toks:=tk}) ->
  DU (model prog w) A (.builtin "list.extend.loop" ⟨[.ref S,.ref (I+5),res],[]⟩) R s:=by
 have calm':A.in1.handled=Af:=calm;intro k
 induction k with
 |zero=>
  intro i s acc c hk hi hz q1 q2 q3 hSo hd hR;have ein:i=n:=Im hi (Xb hk);subst ein;refine CQ XD ?_;rw[B9 Fw _];refine Ah (m:=Ej (.ref (I+5))) (lX calm' b1 hz q1 (HI e1) fun h2 kp=>?_)
  exact As (hR h2 acc c s.toks (fun d o nd _ q=>kp d o nd q) (kp _ _ (NJ hS) hSo) ⟨hd.1,fun j hj=>by
   obtain⟨a,x,y,u,r1,r2,r3,r4,r5,r6,r7⟩:=hd.2.1 j hj;exact⟨a,x,y,u,r1,r2,r3,r4,kp _ _ (NJ r6) r5,r6,r7⟩,hd.2.2⟩)
 |succ k ih=>
  intro i s acc c hk hi hz q1 q2 q3 hSo hd hR;have lt:i<n:=Nat.lt_of_sub_pos (by rw[hk];exact Nat.succ_pos _)
  have lx:i<xs.size:=by rw[e1];exact lt
  have ly:i<ys.size:=by rw[e2];exact lt
  have lu:i<us.size:=by rw[e3];exact lt
  refine CQ XD ?_;rw[B9 Fw _];refine Ah (m:=Ej (.ref (I+5))) (fP calm' b1 b2 b3 hz q1 q2 q3 (B4 lx) (B4 ly) (B4 lu) fun h2 tk z2 tr sz kp=>?_)
  have hS2:=kp _ _ (NJ hS) hSo;refine Ah (m:=He S _) ?_;have ot:∀(f:Dz->Dz) d o,d≠S->h2.get? d=Ab o->(h2.update S f).get? d=Ab o:=fun f d o nd q=>(Bk _ _ (C1 nd)).trans q
  have lS:I+5<s.heap.objs.size:=FM hS (AC hSo);have nT:s.heap.objs.size≠S:=Cm (AC hSo);have hS3:=Ce (Br (·.push (.ref s.heap.objs.size))) hS2 rfl;have lne:∀{l:Ag},l<I->l≠S:=fun h e=>by rw[e]at h;exact absurd (FM h (BX (EA I 5) hS)) (Bw _)
  refine CT hS2 rfl (As ⟨C0 Fw _,ih (i+1) {s with heap:=h2.update S (Br (·.push (.ref s.heap.objs.size))),toks:=tk} _ _ (by omega) lt (z2.at' fun j hj o q=>ot _ _ o (fun e=>by rw[<-e]at hS;exact absurd hS (EZ.mpr (GP hj I))) q) ?_ ?_ ?_ hS3 ⟨by rw[Wt,hd.1],fun j hj=>?_,?_⟩ fun h4 acc4 c4 tk4 kp4 hS4 hd4=>hR h4 acc4 c4 tk4 (fun d o nd ns q=>kp4 d o nd ns (ot _ d o ns (kp d o nd q))) hS4 hd4⟩) ?_ ?_
  ·exact q1.at' fun o q=>ot _ _ o (lne b1) (kp _ o (Ny b1) q)
  ·exact q2.at' fun o q=>ot _ _ o (lne b2) (kp _ o (Ny b2) q)
  ·exact q3.at' fun o q=>ot _ _ o (lne b3) (kp _ o (Ny b3) q)
  ·by_cases ej:j=i
   ·subst ej;exact⟨s.heap.objs.size,_,_,_,by rw[GM,AD hd.1.symm],B4 lx,B4 ly,B4 lu,ot _ _ _ nT tr,lS,nT⟩
   ·obtain⟨a,x,y,u,r1,r2,r3,r4,r5,r6,r7⟩:=hd.2.1 j (EY (Eh hj) ej);exact⟨a,x,y,u,by rw[GM,AH (by rw[hd.1];exact ej)];exact r1,r2,r3,r4,ot _ _ _ r7 (kp _ _ (NJ r6) r5),r6,r7⟩
  ·have old:∀(j a:Ag),acc[j]?=Ab (D5 a)->a<s.heap.objs.size:=fun j a e=>by
    have hj:j<i:=by rw[<-hd.1];exact(Ws.mp e).1
    obtain⟨a',x,y,u,r1,r2,r3,r4,r5,r6,r7⟩:=hd.2.1 j hj;rw[e]at r1;cases r1;exact AC r5
   intro j1 j2 a q1 q2;rw[GM]at q1 q2;split at q1
   ·split at q2
    ·omega
    ·cases q1;exact absurd (old _ _ q2) (Bw _)
   ·split at q2
    ·cases q2;exact absurd (old _ _ q1) (Bw _)
    ·exact hd.2.2 _ _ _ q1 q2
  ·rw[hd.1];exact BD (BD hi nn) (by decide)
  ·show (acc.push _).size<=sizeLine+1;rw[Wt,hd.1];exact BD (Nat.succ_le_succ (BD hi nn)) (by decide)
end
theorem ZP(a b c:Ai):checkTypeCall "zip" ⟨[a,b,c],[]⟩=pure ():=by kernel_rfl
theorem cU(a b c:Ai):Yh "zip.__new__" ⟨[.type "zip", a,b,c],[]⟩=pure ():=by kernel_rfl
theorem pP(a b c d:Ai):argsOk "object.__init__" ⟨[a,b,c,d],[]⟩:=by
 unfold argsOk;rw[signature?_of (id := "object.__init__") (n:=['_','_','t','i','n','i','_','_']) (o:=['t','c','e','j','b','o']) (by kernel_rfl) F.owner_object];kernel_rfl
section
variable{prog:A5}{w:AJ}{A:Bv}{E:Vq}{s:Aq}
noncomputable abbrev yh3(t1 t2 t3:Ap)(h:AQ)(l1 l2 l3:Ak):AQ:=((h.push (itO t1 l1)).push (itO t2 l2)).push (itO t3 l3)
noncomputable abbrev yh4(t1 t2 t3:Ap)(h:AQ)(l1 l2 l3:Ak):AQ:=(yh3 t1 t2 t3 h l1 l2 l3).push { cls:=.type "tuple", data:=.seq #[.ref h.objs.size,.ref (h.push (itO t1 l1)).objs.size,.ref ((h.push (itO t1 l1)).push (itO t2 l2)).objs.size] }
noncomputable abbrev yh5(t1 t2 t3:Ap)(h:AQ)(l1 l2 l3:Ak):AQ:=(yh4 t1 t2 t3 h l1 l2 l3).push { cls:=.type "tuple", data:=.seq #[.none,.none,.none] }
noncomputable abbrev yh6(t1 t2 t3:Ap)(h:AQ)(l1 l2 l3:Ak):AQ:=(yh5 t1 t2 t3 h l1 l2 l3).push { cls:=.type "zip", data:=.fields #[.none,.bool Ae,.bool Ae,.ref (yh3 t1 t2 t3 h l1 l2 l3).objs.size,.ref (yh4 t1 t2 t3 h l1 l2 l3).objs.size] }
theorem cS(t1 t2 t3:Ap)(l1 l2 l3:Ak)(xs ys us:AM Ai):Kl (Builtin.«zip.__new__» ⟨[.type "zip", .ref l1,.ref l2,.ref l3],[]⟩) (fun _ R s=>Cq t1 s.heap l1 xs/\Cq t2 s.heap l2 ys/\Cq t3 s.heap l3 us/\R (.ok (.ret (.ref (yh5 t1 t2 t3 s.heap l1 l2 l3).objs.size))) {s with heap:=yh6 t1 t2 t3 s.heap l1 l2 l3}):=
 .of_wp fun prog w A R s h=>by
  obtain⟨hp,g,d,tk,os⟩:=s;obtain⟨a1,a2,a3,q⟩:=h;have hsub:=sub_zip;have L1:Cq t1 (F6 ⟨hp,g,d,tk,os⟩) l1 xs:=a1;have L2:Cq t2 (F6 ⟨hp.push (itO t1 l1),g,d,tk,os⟩) l2 ys:=a2.push _;have L3:Cq t3 (F6 ⟨(hp.push (itO t1 l1)).push (itO t2 l2),g,d,tk,os⟩) l3 us:=(a3.push _).push _
  wp_walk using JE L1,JE L2,JE L3
  exact⟨_,rfl,q⟩
theorem ZS{t1 t2 t3:Ap}{l1 l2 l3:Ak}{xs:AM Ai}{Q:Vq}(a1:Cq t1 s.heap l1 xs)(a2:Cq t2 s.heap l2 ys)(a3:Cq t3 s.heap l3 us)(q:∀ h2,Z3 t1 t2 t3 s.heap.objs.size l1 l2 l3 0 h2->h2.objs.size=s.heap.objs.size+6->(∀ c o,s.heap.get? c=Ab o->h2.get? c=Ab o)->Q (.ref (s.heap.objs.size+5)) {s with heap:=h2}):Ax (model prog w) A (call (.type "zip") [.ref l1,.ref l2,.ref l3]) Q E s:=by
 refine Jw XC (by decide) (ZP _ _ _) (cU _ _ _) (fun obj=>pP obj _ _ _) XH (cS t1 t2 t3 l1 l2 l3 xs ys us) ⟨a1,a2,a3,?_⟩
 have s1:(s.heap.push (itO t1 l1)).objs.size=s.heap.objs.size+1:=Bi ..;have s2:((s.heap.push (itO t1 l1)).push (itO t2 l2)).objs.size=s.heap.objs.size+2:=by rw[Bi,s1]
 have s3:(yh3 t1 t2 t3 s.heap l1 l2 l3).objs.size=s.heap.objs.size+3:=by rw[Bi,s2]
 have s4:(yh4 t1 t2 t3 s.heap l1 l2 l3).objs.size=s.heap.objs.size+4:=by rw[Bi,s3]
 have s5:(yh5 t1 t2 t3 s.heap l1 l2 l3).objs.size=s.heap.objs.size+5:=by rw[Bi,s4]
 have s6:(yh6 t1 t2 t3 s.heap l1 l2 l3).objs.size=s.heap.objs.size+6:=by rw[Bi,s5]
 have u6:∀ {c o},(yh5 t1 t2 t3 s.heap l1 l2 l3).get? c=Ab o->(yh6 t1 t2 t3 s.heap l1 l2 l3).get? c=Ab o:=fun e=>Ao _ e
 have u5:∀ {c o},(yh4 t1 t2 t3 s.heap l1 l2 l3).get? c=Ab o->(yh6 t1 t2 t3 s.heap l1 l2 l3).get? c=Ab o:=fun e=>u6 (Ao _ e)
 have u4:∀ {c o},(yh3 t1 t2 t3 s.heap l1 l2 l3).get? c=Ab o->(yh6 t1 t2 t3 s.heap l1 l2 l3).get? c=Ab o:=fun e=>u5 (Ao _ e)
 have u3:∀ {c o},((s.heap.push (itO t1 l1)).push (itO t2 l2)).get? c=Ab o->(yh6 t1 t2 t3 s.heap l1 l2 l3).get? c=Ab o:=fun e=>u4 (Ao _ e)
 have u2:∀ {c o},(s.heap.push (itO t1 l1)).get? c=Ab o->(yh6 t1 t2 t3 s.heap l1 l2 l3).get? c=Ab o:=fun e=>u3 (Ao _ e)
 have g6:(yh6 t1 t2 t3 s.heap l1 l2 l3).get? (yh5 t1 t2 t3 s.heap l1 l2 l3).objs.size=Ab _:=Aw _ rfl;have g5:(yh6 t1 t2 t3 s.heap l1 l2 l3).get? (yh4 t1 t2 t3 s.heap l1 l2 l3).objs.size=Ab _:=u6 (Aw _ rfl);have g4:(yh6 t1 t2 t3 s.heap l1 l2 l3).get? (yh3 t1 t2 t3 s.heap l1 l2 l3).objs.size=Ab _:=u5 (Aw _ rfl);have g3:(yh6 t1 t2 t3 s.heap l1 l2 l3).get? ((s.heap.push (itO t1 l1)).push (itO t2 l2)).objs.size=Ab _:=u4 (Aw _ (KJ _ _));have g2:(yh6 t1 t2 t3 s.heap l1 l2 l3).get? (s.heap.push (itO t1 l1)).objs.size=Ab _:=u3 (Aw _ (KJ _ _));have g1:(yh6 t1 t2 t3 s.heap l1 l2 l3).get? s.heap.objs.size=Ab _:=u2 (Aw _ (KJ _ _));show _/\_;rw[s3,s4,s5]at g6;rw[s4]at g5;rw[s1,s2,s3]at g4;rw[s2]at g3;rw[s1]at g2;rw[s5];exact⟨⟨_,g6,rfl⟩,q _ ⟨g4,K2 g1,K2 g2,K2 g3,⟨_,_,_,g5⟩,.inl g6⟩ s6 fun c o e=>u2 (Ao _ e)⟩
end
theorem ZU:Ky (.type "zip") "__len__" = pure Af:=by rw[Yo,Yd];kernel_rfl
theorem Zu:Ky (.type "zip") "__length_hint__" = pure Af:=by rw[Yo,Yd];kernel_rfl
theorem Z3.ty{t1 t2 t3:Ap}{I l1 l2 l3 i:Ag}(z:Z3 t1 t2 t3 I l1 l2 l3 i s.heap):s.TypeIs (.ref (I+5)) "zip" := by
 obtain⟨_,_,_,_,_,hz|⟨_,_,hz⟩⟩:=z
 ·exact⟨_,hz,rfl⟩
 ·exact⟨_,hz,rfl⟩
theorem Z3.lt{t1 t2 t3:Ap}{I l1 l2 l3 i:Ag}(z:Z3 t1 t2 t3 I l1 l2 l3 i s.heap):I+5<s.heap.objs.size:=by
 obtain⟨o,h,_⟩:=z.ty;exact AC h
theorem fQ{t1 t2 t3:Ap}{I l1 l2 l3 i:Ag}(z:Z3 t1 t2 t3 I l1 l2 l3 i h):Z3 t1 t2 t3 I l1 l2 l3 i (h.push o):=by
 have k:∀ {c u},h.get? c=Ab u->(h.push o).get? c=Ab u:=fun q=>Ao _ q
 obtain⟨zI,i1,i2,i3,zz⟩:=z;refine⟨k zI,i1.at' fun o q=>k q,i2.at' fun o q=>k q,i3.at' fun o q=>k q,?_⟩
 obtain⟨⟨a,b,c,hO⟩,zz⟩:=zz;refine⟨⟨a,b,c,k hO⟩,?_⟩;rcases zz with hz|⟨T1,f1,hz⟩
 ·exact .inl (k hz)
 ·exact .inr ⟨T1,f1,k hz⟩
section
variable{prog:A5}{w:AJ}{A:Bv}{E:Vq}{s:Aq}
theorem cP{z:Ak}{Q:Vq}(hT:s.TypeIs (.ref z) "zip")(h:Q (.ref z) s):Ax (model prog w) A (Kv (.ref z)) Q E s:=by
 refine wpAny_pyIter_slot hT XN (CH XN hT F.entry_zip_iter ?_ (F.args_zip_iter_1 _));show Ax _ _ (ret (.ref z)) _ _ s;exact As ⟨_,rfl, "zip", _,hT,F.slot_zip_next.lookup,h⟩
theorem ZW{t1 t2 t3:Ap}{I l1 l2 l3 n:Ag}{xs:AM Ai}{Q:Ac Ai->Aq->Prop}(calm:A.handled=Af)(b1:l1<I)(b2:l2<I)(b3:l3<I)(n0:0<n)(nn:n<=1000)(e1:xs.size=n)(e2:ys.size=n)(e3:us.size=n)(hz:Z3 t1 t2 t3 I l1 l2 l3 0 s.heap)(q1:Cq t1 s.heap l1 xs)(q2:Cq t2 s.heap l2 ys)(q3:Cq t3 s.heap l3 us)(hQ:∀ h2 acc tk,(∀ d o,d∉z3w I->s.heap.get? d=Ab o->h2.get? d=Ab o)->K4 I s.heap.objs.size xs ys us n acc h2->Q acc.toList {s with heap:=h2,toks:=tk}):Ax (model prog w) A (collect (.ref (I+5))) Q E s:=by
  have lt:=hz.lt;have hSI:s.heap.objs.size≠I+5:=Cm lt;unfold collect;refine Ah (wpAny_runValue (CQ F.entry_proto_collect ?_));rw[B9 F.plain_proto_collect _];show Ax _ A.in1 (newList [] >>= fun l=>again (.builtin "list.__iadd__" ⟨[l,.ref (I+5)],[]⟩)) _ _ s
  refine Ah (B8 ?_);refine As ⟨C0 XI _,CQ F.entry_list_iadd ?_⟩;rw[B9 XI _];have hz1:Z3 t1 t2 t3 I l1 l2 l3 0 (s.heap.push { cls:=.type "list", data:=.seq ([]:Ac Ai).toArray }):=fQ hz;have ty1:Shared.TypeIs { s with heap:=s.heap.push { cls:=.type "list", data:=.seq ([]:Ac Ai).toArray } } (.ref (I+5)) "zip" := Z3.ty (s:={ s with heap:=s.heap.push { cls:=.type "list", data:=.seq ([]:Ac Ai).toArray } }) hz1
  show Ax _ A.in1 (Xr (.ref s.heap.objs.size) (.ref (I+5)) (.ref s.heap.objs.size)) _ _ _;unfold Xr;refine Ah (wpAny_typeOf ty1 ?_);have h1:Xs (.ref s.heap.objs.size) (.ref (I+5))=Ae:=by simp[Xs,hSI]
  have h2:(DZ "zip" == DZ "list")=Ae:=by decide
  have h3:(DZ "zip" == DZ "tuple")=Ae:=by decide
  simp only[h1,h2,h3,Wv,EV,Gi];refine Ah (cP ty1 ?_);refine Ah (BQ ?_);unfold Builtin.List.listLengthHint;refine Ah (Iq ty1 ZU ?_);show Ax _ A.in1 (specialOf (D5 (I+5)) (AK "__length_hint__") >>= _) _ _ _;refine Ah (Iq ty1 Zu ?_);refine As ?_;show Ax _ A.in1 (rule "list.extend.makes-room" >>= fun _=>Builtin.List.listTouch (.ref s.heap.objs.size) >>= fun _=>
    again (.builtin "list.extend.loop" ⟨[.ref s.heap.objs.size,.ref (I+5),.ref s.heap.objs.size],[]⟩)) _ _ _
  refine Ah (Fi ?_);have hS₁:(s.heap.push { cls:=.type "list", data:=.seq ([]:Ac Ai).toArray }).get? s.heap.objs.size=Ab { cls:=.type "list", data:=.seq ([]:Ac Ai).toArray }:=Aw _ rfl;refine Ah ?_;show Ax _ A.in1 (He s.heap.objs.size (·.push .none) >>= fun _=>He s.heap.objs.size (·.pop)) _ _ _
  refine Ah (CT hS₁ rfl ?_);have hS₂:=Ce (Br (·.push Dk)) hS₁ rfl;refine CT hS₂ rfl ?_;have hS₃:=Ce (Br (·.pop)) hS₂ rfl;have oth:∀ b o,b≠s.heap.objs.size->(s.heap.push { cls:=.type "list", data:=.seq ([]:Ac Ai).toArray }).get? b=Ab o ->
      (((s.heap.push { cls:=.type "list", data:=.seq ([]:Ac Ai).toArray }).update s.heap.objs.size (Br (·.push Dk))).update s.heap.objs.size (Br (·.pop))).get? b=Ab o:=
    fun b o hb e=>(Bk _ _ (C1 hb)).trans ((Bk _ _ (C1 hb)).trans e)
  have oth':∀ b o,s.heap.get? b=Ab o->(((s.heap.push { cls:=.type "list", data:=.seq ([]:Ac Ai).toArray }).update s.heap.objs.size (Br (·.push Dk))).update s.heap.objs.size (Br (·.pop))).get? b=Ab o:=
    fun b o e=>oth b o (AT (AC e)) (Ao _ e)
  refine As ⟨C0 Fw _,fR calm b1 b2 b3 s.heap.objs.size lt n0 nn e1 e2 e3 n 0 _ _ _ rfl (Di _) (hz1.at' fun j hj o q=>oth _ o (fun e=>by rw[<-e]at lt;exact absurd lt (EZ.mpr (GP hj I))) q) (q1.at' fun o e=>oth' _ o e) (q2.at' fun o e=>oth' _ o e) (q3.at' fun o e=>oth' _ o e) hS₃ ⟨rfl,fun j hj=>absurd hj (FE _),fun j1 j2 a e=>by simp[Br]at e⟩ fun h2 acc c tk kp hS hd=>?_⟩
  show Ax _ A (load s.heap.objs.size >>= _) _ _ _;refine Ah (wpAny_load hS ?_);exact As (hQ h2 acc tk (fun d o nd e=>kp d o nd (AT (AC e)) (oth' d o e)) hd)
theorem fS{t1 t2 t3:Ap}{I l1 l2 l3 n:Ag}{xs:AM Ai}{Q₁:Vq}(calm:A.handled=Af)(b1:l1<I)(b2:l2<I)(b3:l3<I)(n0:0<n)(nn:n<=1000)(e1:xs.size=n)(e2:ys.size=n)(e3:us.size=n)(hz:Z3 t1 t2 t3 I l1 l2 l3 0 s.heap)(q1:Cq t1 s.heap l1 xs)(q2:Cq t2 s.heap l2 ys)(q3:Cq t3 s.heap l3 us)(h:∀ h2 acc tk,(∀ d o,d∉z3w I->s.heap.get? d=Ab o->h2.get? d=Ab o)->K4 I s.heap.objs.size xs ys us n acc h2->Q₁ (.ref h2.objs.size) { s with heap:=h2.push { cls:=.type "tuple", data:=.seq acc },toks:=tk }):
  DU (model prog w) A (.call (.builtin "tuple.__new__") ⟨[.type "tuple", .ref (I+5)],[]⟩) (wants Q₁ E) s:=by
 refine codeAny_of_tree ?_;show Ax _ A.in1 (do Yh "tuple.__new__" ⟨[.type "tuple", .ref (I+5)],[]⟩;again (.builtin "tuple.__new__" ⟨[.type "tuple", .ref (I+5)],[]⟩)) _ _ s
 refine Ah (Iy (F.newCall_tuple_1 _) (As ⟨C0 XJ _,CQ F.entry_tuple_new ?_⟩));rw[B9 XJ _];have hsub:=sub_tuple_self;have hinit:=init_tuple_lookup;have hmh:=madeHere_tuple;have hTI:=hz.ty;have calm2:A.in1.handled=Af:=calm
 wp_walk using wpAny_typeOf hTI,ZW calm2 b1 b2 b3 n0 nn e1 e2 e3 hz q1 q2 q3
 intro h2 acc tk kp hd;show Ax _ _ (Dg acc.toList.toArray >>= fun v=>ret v) _ _ _
 unfold Dg;refine Ah (B8 ?_ (by show acc.toList.toArray.size<=sizeLine;simp only[Gp];rw[hd.1,CS];omega))
 refine As ?_;have e:acc.toList.toArray=acc:=by simp
 rw[e];exact h h2 acc tk kp hd
theorem cV{t1 t2 t3:Ap}{I l1 l2 l3 n:Ag}{xs:AM Ai}{Q:Vq}(calm:A.handled=Af)(b1:l1<I)(b2:l2<I)(b3:l3<I)(n0:0<n)(nn:n<=1000)(e1:xs.size=n)(e2:ys.size=n)(e3:us.size=n)(hz:Z3 t1 t2 t3 I l1 l2 l3 0 s.heap)(q1:Cq t1 s.heap l1 xs)(q2:Cq t2 s.heap l2 ys)(q3:Cq t3 s.heap l3 us)(h:∀ h2 acc tk,(∀ d o,d∉z3w I->s.heap.get? d=Ab o->h2.get? d=Ab o)->K4 I s.heap.objs.size xs ys us n acc h2->Q (.ref h2.objs.size) { s with heap:=h2.push { cls:=.type "tuple", data:=.seq acc },toks:=tk }):
  Ax (model prog w) A (call (.type "tuple") [.ref (I+5)]) Q E s:=by
 refine callType_codes (Q₁:=fun obj s₁=>s₁.TypeIs obj "tuple"/\Q obj s₁) F.called_tuple (F.typeCall_tuple_1 _) F.entry_object_init
  (fS (by exact calm) b1 b2 b3 n0 nn e1 e2 e3 hz q1 q2 q3 fun h2 acc tk kp hd=>⟨⟨_,Aw _ rfl,rfl⟩,h h2 acc tk kp hd⟩) fun obj s₁ h₁=>?_
 exact⟨h₁.1,Xz obj _,object_init_meets F.called_tuple.init.lookup F.called_tuple.made (by decide) prog w A.in1 _ s₁ ⟨h₁.1,rfl,h₁.2⟩⟩
end
noncomputable def IG(H:Hp)(ps:Ac (Ak×Ac V)):Hp:=fun b=>match ps.lookup b with
  |some xs=>Ab (.tup xs)
  |none=>H b
theorem U3(h:ps.lookup a=Ab xs):(a,xs)∈ps:=by
 induction ps with
 |nil=>cases h
 |cons p ps ih=>
  obtain⟨b,ys⟩:=p;rw[B6]at h;split at h
  ·rename_i e;cases h;rw[BN]at e;subst e;exact AB
  ·exact Av _ (ih h)
theorem TF(h:∀ p∈ps,p.1≠b):IG H ps b=H b:=by
 unfold IG;cases e:ps.lookup b with
 |none=>rfl
 |some xs=>exact absurd rfl (h _ (U3 e))
theorem cL(ps:Ac (Ak×Ac V))(I:Inv X pI σ H s)(k:∀ b u,s.heap.get? b=Ab u->h'.get? b=Ab u)(hp:∀ p∈ps,s.heap.objs.size<=p.1)(new:∀ p∈ps,p.2.length<=sizeLine/\∃ its:Ac Ai,Bq p.2 its/\JM h' p.1 its.toArray):Inv X pI σ (IG H ps) {s with heap:=h',toks:=t'}:=by
 have old:∀ b,b<s.heap.objs.size->IG H ps b=H b:=fun b hb=>TF fun p hq e=>by
  have:=hp p hq;rw[e]at this;exact absurd hb (EZ.mpr this)
 have hl:∀ b o,H b=Ab o->IG H ps b=Ab o:=fun b o q=>by rw[old b (I.hok.lt q)];exact q
 refine I.un ⟨fun b u q _ _ _=>k b u q,fun b u q _ _ _=>⟨u.slots,k b u q⟩,fun b u q n _=>by rw[old b (AC q)];exact n,fun b u q _=>⟨u,k b u q⟩,fun b xs q=>hl b _ q,fun b u xs q=>hl b _ q,fun b xs q=>⟨#[],by rw[hl b _ q];simp⟩⟩ fun b u e=>?_
 unfold IG at e;split at e
 ·rename_i xs hx;cases e;exact new _ (U3 hx)
 ·exact(I.hok b u e).stay (fun c v _ q=>k c v q) (fun c q=>hl c _ q) fun c xs q=>hl c _ q
noncomputable def Ho:Ac V->Ac V->Ac V->Ac (Ac V)
 |x::xs,y::ys,u::us=>[x,y,u]::Ho xs ys us
 |_,_,_=>[]
theorem RZ:∀(xs ys us:Ac V)(j:Ag)(r:Ac V),(Ho xs ys us)[j]?=Ab r->∃ x y u,xs[j]?=Ab x/\ys[j]?=Ab y/\us[j]?=Ab u/\r=[x,y,u]
 |[],_,_,j,r,h=>by simp[Ho]at h
 |_::_,[],_,j,r,h=>by simp[Ho]at h
 |_::_,_::_,[],j,r,h=>by simp[Ho]at h
 |x::xs,y::ys,u::us,0,r,h=>by
  simp only[Ho,EM,Cs]at h;exact⟨x,y,u,rfl,rfl,rfl,h.symm⟩
 |x::xs,y::ys,u::us,j+1,r,h=>by
  simp only[Ho,EL]at h ⊢;exact RZ xs ys us j r h
theorem MQ{α β:Type}:∀{as:Ac α}{bs:Ac β}{a:α}{b:β},(a,b)∈as.zip bs->∃ j:Ag,as[j]?=Ab a/\bs[j]?=Ab b
 |[],_,_,_,h=>by simp at h
 |_::_,[],_,_,h=>by simp at h
 |x::as,y::bs,a,b,h=>by
  simp only[Hb,Ay,Prod.mk.injEq]at h;rcases h with ⟨rfl,rfl⟩|h
  ·exact⟨0,rfl,rfl⟩
  ·obtain⟨j,h1,h2⟩:=MQ h;exact⟨j+1,h1,h2⟩
def Y5(K:Fg)(ta:TA):TE:=fun σ H Q=>ta σ H fun vs H1=>∃ t1 t2 t3 a b c xs ys us,vs=[.ref a,.ref b,.ref c]/\SqX t1 K H1 a xs/\SqX t2 K H1 b ys/\SqX t3 K H1 c us/\0<xs.length/\xs.length<=1000/\ys.length=xs.length/\us.length=xs.length /\
 ∀(as:Ac Ak)(T:Ak),as.length=xs.length->as.Nodup->(∀ p∈as,H1 p=Af)->T∉as->H1 T=Af->Q (.ref T) (IG H1 ((T,as.map .ref)::as.zip (Ho xs ys us)))
theorem bM{I S:Ag}{xs:AM Ai}(d:K4 I S xs ys us n acc h):∃ as:Ac Ak,acc.toList=as.map D5/\as.length=n/\as.Nodup/\∀(j:Ag)(a:Ak),as[j]?=Ab a->∃ x y u,xs[j]?=Ab x/\ys[j]?=Ab y/\us[j]?=Ab u/\ET h a x y u/\I+5<a:=by
  obtain⟨hn,hj,inj⟩:=d
  let f:Ai->Ak:=fun v=>match v with
    |.ref a=>a
    |_=>0
  have hg:∀ j v,acc.toList[j]?=Ab v->∃(a:Ag)(x y u:Ai),v=D5 a/\xs[j]?=Ab x/\ys[j]?=Ab y/\us[j]?=Ab u/\ET h a x y u/\I+5<a:=fun j v e=>by
    rw[D9]at e;have lt:j<n:=by rw[<-hn];exact(Ws.mp e).1
    obtain⟨a,x,y,u,r1,r2,r3,r4,r5,r6,_⟩:=hj j lt;rw[e]at r1;cases r1;exact⟨a,x,y,u,rfl,r2,r3,r4,r5,r6⟩
  have hf:∀ v∈acc.toList,D5 (f v)=v:=fun v hv=>by
    obtain⟨j,hj⟩:=Gr hv;obtain⟨a,_,_,_,rfl,_⟩:=hg j v hj;rfl
  have hm:acc.toList=(acc.toList.map f).map D5:=by
    rw[FK]
    conv=>lhs;rw[<-List.map_id acc.toList]
    exact EJ fun v hv=>(hf v hv).symm
  refine⟨acc.toList.map f,hm,by rw[BR,CJ,hn],?_,fun j a e=>?_⟩
  · rw[List.nodup_iff_pairwise_ne,Er];intro i j hi hj' lt e;rw[BR,CJ]at hi hj';have at':∀(k:Ag)(hk:k<acc.size)(hk':k<(acc.toList.map f).length),acc[k]?=Ab (D5 (acc.toList.map f)[k]):=fun k hk hk'=>by
      rw[B4 hk,List.getElem_map,hf _ (Fh _),Array.getElem_toList]
    have:=inj i j _ (at' i hi _) (by rw[e];exact at' j hj' _)
    omega
  · rw[Eg,Option.map_eq_some_iff]at e;obtain⟨v,hv,rfl⟩:=e;obtain⟨a,x,y,u,rfl,r⟩:=hg j v hv;exact⟨x,y,u,r⟩
theorem rC{a b:Ar}{p':A8}(hc:X.calm=Aa)(hg:Gl X "tuple")(hm:X.mg "tuple" = Af)(hg':Gl X "zip")(hm':X.mg "zip" = Af)(ha:PA X [a,b,c] ta)(hs:AG [a,b,c] X.env=[(Ae,eval a X.env),(Ae,eval b X.env),(Ae,eval c X.env)])(hs2:AG [b,c] X.env=[(Ae,eval b X.env),(Ae,eval c X.env)]):
    PE X (.Call (.Name "tuple" p) [.Call (.Name "zip" p') [a,b,c] [] pos'] [] pos) (Y5 X.K ta):=by
  intro pI s σ H Q I h;refine Hx (GY I hg hm FW (BM ?_ rfl rfl));show Ax _ _ (spliced ((Ae,eval (.Call (.Name "zip" p') [a,b,c] [] pos') X.env)::CV pos (AG [] X.env))) _ _ s;refine FO ?_;refine Hx (GY I hg' hm' Xj (BM (thn (ha pos' pI s σ H _ I h) fun us s1 ⟨vs,H1,I1,r1,q1⟩=>?_) (by rw[hs,hs2]) (by rw[hs2];rfl)))
  obtain⟨t1,t2,t3,l1,l2,l3,xs,ys,zs,e,sx,sy,sz,n0,nn,ey,ez,q⟩:=q1;subst e;cases r1 with
  |cons r rr=>
    cases rr with
    |cons r' rr=>
      cases rr with
      |cons r'' rr=>
        cases rr;cases r;cases r';cases r'';obtain⟨xv,rx,ix,_⟩:=Hn I1 sx;obtain⟨yv,ry,iy,_⟩:=Hn I1 sy;obtain⟨zv,rz,iz,_⟩:=Hn I1 sz;refine ZS ix iy iz fun h2 z hsz kp=>FZ ?_
        have lx:=rx.length;have ly:=ry.length;have lz:=rz.length;refine cV (s:={s1 with heap:=h2}) (n:=xs.length) (I1.ok.hd hc) ix.lt iy.lt iz.lt n0 nn (by simp[lx]) (by simp[<-ly,ey]) (by simp[<-lz,ez]) z (ix.at' fun o e=>kp _ o e) (iy.at' fun o e=>kp _ o e) (iz.at' fun o e=>kp _ o e) fun h3 acc tk kp3 dr=>?_
        obtain⟨as,e1,e2,nd,each⟩:=bM dr;have nw:∀ b,b<s1.heap.objs.size->b∉z3w s1.heap.objs.size:=fun b hb=>Ny hb
        have kp4:∀ b o,s1.heap.get? b=Ab o->(h3.push { cls:=.type "tuple", data:=.seq acc }).get? b=Ab o:=fun b o e=>Ao _ (kp3 b o (nw b (AC e)) (kp b o e))
        have big:∀ a∈as,s1.heap.objs.size<=a/\a<h3.objs.size:=fun a ha=>by
          obtain⟨j,hj⟩:=Gr ha;obtain⟨x,y,u,_,_,_,tr,lt⟩:=each j a hj;exact⟨D4 (BX (EA _ 5) lt),AC tr⟩
        have b3:s1.heap.objs.size<=h3.objs.size:=by
          obtain⟨a,ha⟩:∃ a,a∈as:=List.exists_mem_of_length_pos (by rw[e2];exact n0)
          exact D4 (BX (big a ha).1 (big a ha).2)
        refine⟨.ref h3.objs.size,_,cL (s:=s1) (h':=h3.push { cls:=.type "tuple", data:=.seq acc }) (t':=tk) ((h3.objs.size,as.map V.ref)::as.zip (Ho xs ys zs)) I1 kp4 (fun p hp=>?_) (fun p hp=>?_),rfl,q as h3.objs.size e2 nd (fun p hp=>I1.hok.fresh (big p hp).1) (fun hT=>absurd (big _ hT).2 (Bw _)) (I1.hok.fresh b3)⟩
        · rcases Ay.mp hp with rfl|hp
          · exact b3
          · obtain⟨j,h1,h2⟩:=MQ (a:=p.1) (b:=p.2) hp;exact(big _ (DE h1)).1
        · rcases Ay.mp hp with rfl|hp
          · refine⟨by rw[BR,e2,CS];omega,as.map D5,?_,?_⟩
            · clear q each big hp e1 e2 nd
              induction as with
              |nil=>exact .nil
              |cons a as ih=>exact .cons rfl ih
            · rw[<-e1,Gp];exact Jr _ _
          · obtain⟨j,h1,h2⟩:=MQ (a:=p.1) (b:=p.2) hp;obtain⟨x,y,u,g1,g2,g3,er⟩:=RZ _ _ _ _ _ h2;obtain⟨x',y',u',k1,k2,k3,tr,_⟩:=each j _ h1;obtain⟨x2,m1,w1⟩:=rx.get g1;obtain⟨y2,m2,w2⟩:=ry.get g2;obtain⟨u2,m3,w3⟩:=rz.get g3;rw[WR]at k1 k2 k3;cases m1.symm.trans k1;cases m2.symm.trans k2;cases m3.symm.trans k3;rw[er];exact⟨by show 3<=sizeLine;decide,[x',y',u'],.cons w1 (.cons w2 (.cons w3 .nil)),⟨_,Ao _ tr,rfl,_,rfl⟩⟩
theorem Sc{K:Fg}{CL:ClA}{H H3:Hp}{A:Ak->Prop}(hA:AOk H A)(sm:AN H H3):∀{as:Ac Ak}{xs ys us:Ac V}{ds es fs:Ac D},(∀(j:Ag)(a:Ak)(r:Ac V),as[j]?=Ab a->(Ho xs ys us)[j]?=Ab r->H3 a=Ab (.tup r))->(∀ p∈as,H p=Af)->as.length=xs.length->ys.length=xs.length->us.length=xs.length->Reps K CL H A xs ds->Reps K CL H A ys es->Reps K CL H A us fs->Reps K CL H3 A (as.map .ref) (Qw ds es fs)
 |[],[],[],[],[],[],[],_,_,_,_,_,_,_,_=>trivial
 |a::as,x::xs,y::ys,u::us,d::ds,e::es,f::fs,h,hn,l1,l2,l3,r1,r2,r3=>
  ⟨⟨a,[x,y,u],rfl,.inl (hA.new (hn a AB)),SqT.of (h 0 a _ rfl rfl),r1.1.same sm,r2.1.same sm,r3.1.same sm,trivial⟩,
   Sc hA sm (fun j a' r p q=>h (j+1) a' r p q) (fun p hp=>hn p (Av _ hp)) (Jq l1) (Jq l2) (Jq l3) r1.2 r2.2 r3.2⟩
 |[],_::_,_,_,_,_,_,_,_,l,_,_,_,_,_=>nomatch l
 |_::_,[],_,_,_,_,_,_,_,l,_,_,_,_,_=>nomatch l
 |_,[],_::_,_,_,_,_,_,_,_,l,_,_,_,_=>nomatch l
 |_,[],_,_::_,_,_,_,_,_,_,_,l,_,_,_=>nomatch l
 |_,_::_,[],_,_,_,_,_,_,_,l,_,_,_,_=>nomatch l
 |_,_::_,_,[],_,_,_,_,_,_,_,l,_,_,_=>nomatch l
 |_,[],_,_,_::_,_,_,_,_,_,_,_,r,_,_=>r.elim
 |_,_::_,_,_,[],_,_,_,_,_,_,_,r,_,_=>r.elim
 |_,_,[],_,_,_::_,_,_,_,_,_,_,_,r,_=>r.elim
 |_,_,_::_,_,_,[],_,_,_,_,_,_,_,r,_=>r.elim
 |_,_,_,[],_,_,_::_,_,_,_,_,_,_,_,r=>r.elim
 |_,_,_,_::_,_,_,[],_,_,_,_,_,_,_,r=>r.elim
theorem U2:∀{as:Ac Ak}{rs:Ac (Ac V)}{j:Ag}{a:Ak}{r:Ac V},as.Nodup->as[j]?=Ab a->rs[j]?=Ab r->(as.zip rs).lookup a=Ab r
 |[],_,_,_,_,_,h,_=>by simp at h
 |_::_,[],_,_,_,_,_,h=>by simp at h
 |b::as,q::rs,0,a,r,nd,h1,h2=>by
  simp only[EM,Cs]at h1 h2;subst h1 h2;rw[Hb,WX]
 |b::as,q::rs,j+1,a,r,nd,h1,h2=>by
  simp only[EL]at h1 h2;have nb:a≠b:=fun e=>by subst e;exact(B5.mp nd).1 (DE h1)
  rw[Hb,B6,GL nb];exact U2 (B5.mp nd).2 h1 h2
section
variable{X:Cx}{CL:ClA}{W:XW}{pos p pos' p':A8}{a b c:Ar}{fa fb fc:Rho->R D}
theorem pN(ha:SE X CL W a fa)(hb:SE X CL W b fb)(hd:SE X CL W c fc)(hc:X.calm=Aa)(hg:Gl X "tuple")(hm:X.mg "tuple" = Af)(hg':Gl X "zip")(hm':X.mg "zip" = Af)(hs:AG [a,b,c] X.env=[(Ae,eval a X.env),(Ae,eval b X.env),(Ae,eval c X.env)])(hs2:AG [b,c] X.env=[(Ae,eval b X.env),(Ae,eval c X.env)])(hs3:AG [c] X.env=[(Ae,eval c X.env)]):
  SE X CL W (.Call (.Name "tuple" p) [.Call (.Name "zip" p') [a,b,c] [] pos'] [] pos) (fun ρ=>((fa ρ).bind fun x=>(fb ρ).bind fun y=>(fc ρ).bind fun z=>La x y z).bind fun xs=>.ok (.tup xs)):=
 fun A=>PE.weak (rC hc hg hm hg' hm' (Fk (ha A) (Fk (hb A) (Fk (hd A) GW hs3) (by rw[hs2,hs3])) (by rw[hs,hs2])) hs hs2) fun σ H Q ⟨hA,ρ,g,q⟩=>by
  simp only[R.bind_assoc]at q;refine⟨hA,ρ,g,Bt.bind q fun d v H1 _ s1 r1 p1=>⟨hA.same s1,ρ,g.same s1,Bt.bind p1 fun d2 v2 H2 _ s2 r2 p2=>⟨(hA.same s1).same s2,ρ,(g.same s1).same s2,Bt.bind p2 fun d3 v3 H3 _ s3 r3 p3=>?_⟩⟩⟩
  unfold La at p3;cases e1:CI d with
  |bad=>rw[e1]at p3;exact p3.elim
  |exn z=>exact absurd e1 (by cases d<;>simp[CI])
  |ok ds=>
   cases e2:CI d2 with
   |bad=>rw[e1,e2]at p3;exact p3.elim
   |exn z=>exact absurd e2 (by cases d2<;>simp[CI])
   |ok es=>
    cases e3:CI d3 with
    |bad=>rw[e1,e2,e3]at p3;exact p3.elim
    |exn z=>exact absurd e3 (by cases d3<;>simp[CI])
    |ok fs=>
     rw[e1,e2,e3]at p3;simp only[R.bind_ok]at p3;obtain⟨t1,c1,xs,rfl,k1,rs1⟩:=Lb ((r1.same s2).same s3) e1;obtain⟨t2,c2,ys,rfl,k2,rs2⟩:=Lb (r2.same s3) e2;obtain⟨t3,c3,us,rfl,k3,rs3⟩:=Lb r3 e3;split at p3
     ·rename_i hn;obtain⟨n0,nn,ny,nz⟩:=hn;rw[<-rs1.length]at n0 nn ny nz;rw[<-rs2.length]at ny;rw[<-rs3.length]at nz;refine⟨t1,t2,t3,c1,c2,c3,xs,ys,us,rfl,k1 H3 (Kp.of (AN.refl H3)),k2 H3 (Kp.of (AN.refl H3)),k3 H3 (Kp.of (AN.refl H3)),n0,nn,ny,nz,fun as T el nd fr hT fT=>?_⟩
      have hA3:AOk H3 A:=((hA.same s1).same s2).same s3;have fr':∀ q∈(T,as.map V.ref)::as.zip (Ho xs ys us),H3 q.1=Af:=fun q hq=>by
       rcases Ay.mp hq with rfl|hq
       ·exact fT
       ·obtain⟨j,h1,h2⟩:=MQ (a:=q.1) (b:=q.2) hq;exact fr _ (DE h1)
      have sm:AN H3 (IG H3 ((T,as.map V.ref)::as.zip (Ho xs ys us))):=fun b o e=>by
       rw[TF fun q hq z=>by rw[<-z,fr' q hq]at e;cases e]
       exact e
      refine p3 _ _ sm ⟨T,as.map V.ref,rfl,.inl (hA3.new fT),SqT.of ?_,Sc hA3 sm (fun j a r h1 h2=>?_) fr el ny nz rs1 rs2 rs3⟩
      ·unfold IG;rw[WX]
      ·have na:a≠T:=fun e=>by subst e;exact hT (DE h1)
       unfold IG;rw[B6,GL na,U2 nd h1 h2]
     ·exact p3.elim
end
section
variable{X:Cx}{CL:ClA}{W:XW}{pos p tpos:A8}{a b c:Ar}{fa fb fc:Rho->R D}{x:Al}
end
section
variable{X:Cx}{CL:ClA}{W:XW}{a:Ar}{fa:Rho->R D}
end
section
variable{X:Cx}{CL:ClA}{W:XW}
end
noncomputable def K7(lo:Ad)(n:Ag):Ac V:=(Bl n).map fun(k:Ag)=>V.int (lo+(k:Ad))
theorem Zv(lo:Ad)(n:Ag):(K7 lo n).length=n:=by simp[K7]
theorem ZL(lo:Ad)(n:Ag):Reps K CL H A (K7 lo n) (DB lo n):=by
 have key:∀ L:Ac Ag,Reps K CL H A (L.map fun(k:Ag)=>V.int (lo+(k:Ad))) (L.map fun(k:Ag)=>D.int (lo+(k:Ad))):=fun L=>by
  induction L with
  |nil=>exact trivial
  |cons x L ih=>exact⟨rfl,ih⟩
 exact key _
theorem ZK(h:ItemsOf (fun i v=>∃ t,v=.int (lo+i*1) t) acc n):Bq (K7 lo n) acc.toList:=by
 obtain⟨h1,h2⟩:=h;have key:∀(L:Ac Ai)(m:Ag),(∀(j:Ag)(v:Ai),L[j]?=Ab v->∃ t,v=.int (lo+((m+j:Ag):Ad)) t)->Bq ((Ir m L.length).map fun(k:Ag)=>V.int (lo+(k:Ad))) L:=fun L=>by
  induction L with
  |nil=>intro m _;exact .nil
  |cons v L ih=>
   intro m h;obtain⟨t,rfl⟩:=h 0 v rfl;refine .cons ⟨t,rfl⟩ (ih (m+1) fun j w hw=>?_)
   obtain⟨u,rfl⟩:=h (j+1) w hw;exact⟨u,by rw[show m+1+j=m+(j+1) by omega]⟩
 have k:=key acc.toList 0 fun j v hv=>by
  obtain⟨t,rfl⟩:=h2 j v (by rw[<-D9];exact hv)
  exact⟨t,by rw[DY,Xf]⟩
 rw[CJ,h1,<-List.range_eq_range']at k;exact k
section
variable{X:Cx}
def Y2(ta:TA):TE:=fun σ H Q=>ta σ H fun vs H1=>∃ i j:Ad,vs=[.int i,.int j]/\(-(2 ^ 62)<=i/\i<2 ^ 62/\-(2 ^ 62)<=j/\j<2 ^ 62)/\(j-i).toNat<=2 ^ 24/\(j-i).toNat<=sizeLine/\∀ l,H1 l=Af->Q (.ref l) (upd H1 l (.lst (K7 i (j-i).toNat)))
theorem rA{a b:Ar}{p':A8}(hc:X.calm=Aa)(hg:Gl X "list")(hm:X.mg "list" = Af)(hg':Gl X "range")(hm':X.mg "range" = Af)(ha:PA X [a,b] ta)(hs:AG [a,b] X.env=[(Ae,eval a X.env),(Ae,eval b X.env)])(hs2:AG [b] X.env=[(Ae,eval b X.env)]):
  PE X (.Call (.Name "list" p) [.Call (.Name "range" p') [a,b] [] pos'] [] pos) (Y2 ta):=by
 intro pI s σ H Q I h;refine Hx (GY I hg hm F5 (BM ?_ rfl rfl));show Ax _ _ (spliced ((Ae,eval (.Call (.Name "range" p') [a,b] [] pos') X.env)::CV pos (AG [] X.env))) _ _ s;refine FO ?_;refine Hx (GY I hg' hm' Kk (BM (thn (ha pos' pI s σ H _ I h) fun us s1 ⟨vs,H1,I1,r1,q1⟩=>?_) (by rw[hs,hs2]) (by rw[hs2];rfl)))
 obtain⟨i,j,e,⟨b1,b2,b3,b4⟩,hn,hz,q⟩:=q1;subst e;cases r1 with
 |cons r rr=>
  cases rr with
  |cons r' rr=>
   cases rr;obtain⟨t,rfl⟩:=r;obtain⟨t',rfl⟩:=r';refine call_range_2 (FZ ?_);refine call_list_range (n:=(j-i).toNat) (I1.ok.hd hc) (XX ..) (small_one b1 b2 b3 b4) (by rw[rangeSize_one];split<;>omega) hn fun h' tk acc c' kp e it=>?_
   have e':=ZK it;refine⟨.ref (s1.heap.push { cls:=.type "range", data:=.fields #[.int i t,.int j t',.int 1 s1.toks] }).objs.size,_,I1.laid (t':=tk) (fun b o e=>kp b o (Ao _ e)) ?_ (show ObjOk X.prog X.w _ h' _ (.lst (K7 i (j-i).toNat)) from ⟨by rw[Zv];exact hz,acc.toList,c',e',by rw[Gp];exact e⟩),rfl,q _ (I1.hok.fresh ?_)⟩
   ·rw[Bi];exact Ha _
   ·rw[Bi];exact Ha _
noncomputable def RA(x y:D):R D:=(Fe x).bind fun i=>(Fe y).bind fun j=>(DA i j).bind fun xs=>.ok (.lst xs)
variable{CL:ClA}{W:XW}{pos p pos' p':A8}{a b:Ar}{fa fb:Rho->R D}
theorem oS(ha:ST X CL W a fa)(hb:ST X CL W b fb)(hc:X.calm=Aa)(hg:Gl X "list")(hm:X.mg "list" = Af)(hg':Gl X "range")(hm':X.mg "range" = Af)(hs:AG [a,b] X.env=[(Ae,eval a X.env),(Ae,eval b X.env)])(hs2:AG [b] X.env=[(Ae,eval b X.env)]):
  SC X CL W Aa (.Call (.Name "list" p) [.Call (.Name "range" p') [a,b] [] pos'] [] pos) (fun ρ=>(fa ρ).bind fun x=>(fb ρ).bind fun y=>RA x y):=fun A pI s σ H Q I h=>by
 obtain⟨hA,ρ,g,pp⟩:=h;refine rA hc hg hm hg' hm' (Fk (ha A) (Fk (hb A) GW hs2) (by rw[hs,hs2])) hs hs2 pI s σ H Q I ?_
 refine⟨hA,ρ,g,Bt.bindF pp fun dx x H1 _ s1 r1 p1=>⟨hA.same s1,ρ,g.same s1,Bt.bind (Rq:=Ew X.K CL Aa H A) p1 fun dy y H2 _ s2 r2 p2=>?_⟩⟩
 cases dx with
 |int i=>
  cases dy with
  |int j=>
   have e:=r1.int_of;have e':=r2.int_of;subst e e';have p3:Bt (Ew X.K CL Aa H A) W H2 ((DA i j).bind fun xs=>.ok (.lst xs)) Q:=p2
   cases e2:DA i j with
   |ok ds=>
    rw[e2]at p3;obtain⟨h1,h2,rfl,hz⟩:=O3 e2;rw[KC]at hz;refine⟨i,j,rfl,⟨h1.1,h1.2,h2.1,h2.2⟩,by rw[CS]at hz;omega,hz,fun l hl=>?_⟩
    exact p3 _ _ (F3 hl _) (JC (s1.trans s2) ((hA.same s1).same s2) hl (ZL i _))
   |exn y=>exact(Oz e2).elim
   |bad=>rw[e2]at p3;exact p3.elim
  |_=>exact p2.elim
 |_=>exact p2.elim
end
section
variable{X:Cx}{CL:ClA}{W:XW}{e o o' k l:Ar}{fe:Rho->R Ov.D}{i ik il:Ag}{pos spos spos' tpos:A8}{kt:Ag}
theorem Tu{k:Ag}{j:Ad}(h:HZ ρ k=.ok j):ρ[k]?=Ab (Ab (.int j,Ae)):=by
 unfold HZ Fo at h;split at h
 ·rename_i d hd;cases d<;>first|(cases h;exact hd)|cases h
 ·cases h
theorem SQ{k:Ag}{z:Ex}(h:HZ ρ k=.exn z):BF:=by
 unfold HZ Fo at h;split at h
 ·rename_i d hd;cases d<;>cases h
 ·cases h
theorem oN(hc:X.calm=Aa)(ho:PE X o (G8 i))(ho':PE X o' (G8 i))(hk:PE X k (G8 ik))(hl:PE X l (G8 il))(he:SE X CL W e fe)(ha:∀ v,assign (.Subscript o k spos) X.env v=(do
      let ov <-holding [v] (eval o X.env)
      let iv <-holding [v,ov] (eval k X.env)
      HA spos
      holding [v,ov,iv] (JO ov iv v)
      release [v,ov,iv] []))(ha':∀ v,assign (.Subscript o' l spos') X.env v=(do
      let ov <-holding [v] (eval o' X.env)
      let iv <-holding [v,ov] (eval l X.env)
      HA spos'
      holding [v,ov,iv] (JO ov iv v)
      release [v,ov,iv] []))(hs:F9 [.Tuple [.Subscript o k spos,.Subscript o' l spos'] kt tpos] e pos.line X.env=pure Ae)(hw:Ed [.Tuple [.Subscript o k spos,.Subscript o' l spos'] kt tpos] e X.env=pure Af):SS X CL W (.Assign [.Tuple [.Subscript o k spos,.Subscript o' l spos'] kt tpos] e pos) (fun ρ=>O.of ρ (fe ρ) fun d=>NN ρ d i ik il):=fun Fz B pI s σ H D I ⟨ρ,x,p⟩=>
  Qh (he (CU B ρ σ)) (Nn hc (M1 (P7 ho hk O6 ha) (M1 (P7 ho' hl O6 ha') Px))) hs hw rfl pI s σ H D I ⟨x.aok,ρ,x.good,CN.ex x p fun d v H' _ s rv x' q'=>by
    cases d with
    |tup es=>
     cases es with
     |nil=>exact q'.elim
     |cons dx es=>
      cases es with
      |nil=>exact q'.elim
      |cons dy es=>
       cases es with
       |cons _ _=>exact q'.elim
       |nil=>
        have q':CN X.K CL Fz B W (O.of ρ (Dq ρ i) fun xs=>O.of ρ (HZ ρ ik) fun a=>O.of ρ (HZ ρ il) fun b=>match plD xs.length a,plD xs.length b with
          |some m,Ab n=>.next (ρ.set i (Ab (.lst ((xs.set m dx).set n dy),Aa)))
          | _,_=>.bad) D:=q'
        obtain⟨t,vs,rfl,_,sq,r⟩:=rv;cases vs with
        |nil=>exact r.elim
        |cons vx vs=>
         cases vs with
         |nil=>exact r.2.elim
         |cons vy vs=>
          cases vs with
          |cons _ _=>exact r.2.2.elim
          |nil=>
            obtain⟨rx,ry,_⟩:=r;cases e1:Dq ρ i with
            |bad=>rw[e1]at q';exact q'.elim
            |exn z=>exact(LZ e1).elim
            |ok ds=>
              rw[e1,O.of_ok]at q';have hi:=Mc e1;obtain⟨a,xs,ds',q,e2,ha,hh,rr⟩:=x'.good.ow i _ hi;cases e2;cases e3:HZ ρ ik with
              |bad=>rw[e3]at q';exact q'.elim
              |exn z=>exact(SQ e3).elim
              |ok j=>
                rw[e3,O.of_ok]at q';obtain⟨w1,qk,rk⟩:=x'.good.sh ik _ (Tu e3);subst rk;cases e4:HZ ρ il with
                |bad=>rw[e4]at q';exact q'.elim
                |exn z=>exact(SQ e4).elim
                |ok j'=>
                  rw[e4,O.of_ok]at q';obtain⟨w2,ql,rl⟩:=x'.good.sh il _ (Tu e4);subst rl;cases e5:plD ds.length j with
                  |none=>rw[e5]at q';exact q'.elim
                  |some m=>
                    cases e6:plD ds.length j' with
                    |none=>rw[e5,e6]at q';exact q'.elim
                    |some n=>
                      rw[e5,e6]at q';have lx:=rr.length;refine⟨t,[vx,vy],rfl,sq,rfl,vx,[vy],rfl,_,q,_,qk,a,xs,j,m,rfl,rfl,hh,by rw[lx];exact e5,vy,[],rfl,_,q,_,ql,a,xs.set m vx,j',n,rfl,rfl,HQ,by rw[Bz,lx];exact e6,rfl,?_⟩
                      have uu:L2.upd (L2.upd H' a (.lst (xs.set m vx))) a (.lst ((xs.set m vx).set n vy))=L2.upd H' a (.lst ((xs.set m vx).set n vy)):=by
                        funext b
                        by_cases hb:b=a
                        · subst hb;rw[HQ,HQ]
                        · rw[Dm hb,Dm hb,Dm hb]
                      rw[uu];exact q' _ _ (x'.upd hi q (Reps.set ry n (Reps.set rx m rr)))
    | _=>exact q'.elim⟩
end
section
variable{prog:A5}{w:AJ}{A:Bv}{E:Vq}{s:Aq}
theorem SY{it t:Ak}{items:AM Ai}(hne:t≠it):∀(n i:Ag)(s:Aq)(Q:Ac Ai->Aq->Prop),s.heap.IsListIter it t i->s.heap.IsList t items->i+n<=items.size->(∀ h',h'.IsListIter it t (i+n)->Fa it s.heap h'->Q ((items.toList.drop i).take n) {s with heap:=h'})->Ax (model prog w) A (draw (.ref it) n) Q E s
 |0,i,s,Q,hit,_,_,hQ=>by
  show Ax _ _ (pure []) Q E s;exact As (by simpa using hQ s.heap hit (XS ..))
 |n+1,i,s,Q,hit,ht,hle,hQ=>by
  have hlt:i<items.size:=by omega
  show Ax _ _ (Ej (.ref it) >>= _) Q E s;refine Ah (Yx hit ht (x:=items[i]) (by simp[hlt]) fun h₁ hit₁ hs₁=>?_)
  refine Ah (BQ (SY hne n (i+1) _ _ hit₁ (ht.extBut hs₁.extBut hne) (by omega) fun h₂ hit₂ hs₂=>As ?_))
  have hd:items.toList.drop i=items[i]::items.toList.drop (i+1):=by simp[FC,hlt]
  have:=hQ h₂ (by rw[show i+(n+1)=i+1+n by omega];exact hit₂) (hs₁.trans hs₂)
  rw[hd,List.take_succ_cons]at this;exact this
theorem Zg{t:Ak}{Q:Ac Ai->Aq->Prop}(hh:A.handled=Af)(ht:s.heap.IsList t items)(hQ:∀ h',Iu s.heap.objs.size s.heap h'->Q items.toList {s with heap:=h'}):Ax (model prog w) A (unpackItems (.ref t) items.size Af) Q E s:=by
 have hlt:t≠s.heap.objs.size:=by obtain⟨o,ho,_⟩:=ht;exact AT (AC ho)
 have htp:(s.heap.push { cls:=.type "list_iterator", data:=.fields #[.ref t,.int 0 0] }).IsList t items:=by
  obtain⟨o,ho,r⟩:=ht;exact⟨o,Ao _ ho,r⟩
 unfold unpackItems;refine Ah ?_
 ·unfold notIterableAtAll;refine Ah (Iq ht.typeIs slot_list_iter.lookup ?_);refine As ?_;simp only[EV,Gi];refine Ah (BQ (Ek ht ?_));refine Ah (BQ (SY hlt items.size 0 _ _ ⟨_,Aw _ rfl,rfl,rfl⟩ htp (by omega) fun h₁ hit₁ hs₁=>?_))
  have hall:List.take items.size (List.drop 0 items.toList)=items.toList:=by
   rw[List.drop_zero];exact List.take_of_length_le (by simp)
  rw[hall];rw[AH (by simp)]
  have ht₁:h₁.IsList t items:=htp.extBut hs₁.extBut hlt;refine Ah (BQ (Yw hh hit₁ ht₁ (by simp) fun h₂ he₂=>?_))
  simp only[Option.isSome_none,EV,Gi];refine As (hQ h₂ fun b o hb e=>he₂ b o hb (hs₁.extBut b o hb (Ao _ e)))
theorem Zj{elts:Ac Ar}{x1}{t:Ak}{Q:JV->Aq->Prop}(hh:A.handled=Af)(ht:s.heap.IsList t items) (hn:(CC elts env).length=items.size) (hstar:(CC elts env).findIdx? (·.1)=Af) (h:∀ h',Iu s.heap.objs.size s.heap h'->Ax (model prog w) A (assignInOrder ((CC elts env).map (·.2)) items.toList) Q E {s with heap:=h'}):Ax (model prog w) A (assign (.Tuple elts x1 pos) env (.ref t)) Q E s:=by
 rw[assign_Tuple];refine Ah (Hj ?_);unfold unpack;rw[hn,hstar];exact Ah (BQ (Zg hh ht h))
end
section
variable{X:Cx}{pos:A8}{CL:ClA}
def gSq(K:Fg)(n:Ag)(t:TGs):TG:=fun v σ H Q=>Lg K n t v σ H Q\/∃ a xs,v=.ref a/\SqL K H a xs/\xs.length=n/\t xs σ H Q
theorem wA{t:TGs}(hc:X.calm=Aa)(h:PGs X es t)(hn:(CC es X.env).length=n)(hst:(CC es X.env).findIdx? (·.1)=Af):PG X (.Tuple es k pos) (gSq X.K n t):=by
 intro pI s σ H v u Q I r hw;rcases hw with hw|hw
 ·exact Nn hc h hn hst pI s σ H v u Q I r hw
 ·obtain⟨a,xs,e1,hq,hl,hw⟩:=hw;subst e1;cases r;obtain⟨its,rv,ht,hz⟩:=I.list hq;refine Zj (I.ok.hd hc) ht.isList (by simp[hn,<-hl,rv.length]) hst fun h' hx=>?_
  have I1:Inv X pI σ H {s with heap:=h'}:=I.kept (t':=s.toks) fun b o e=>hx b o (AT (AC e)) e
  exact h pI _ σ H xs _ Q I1 (by simpa using rv) hw
theorem xQ(ts:Ac Ag):GT K CL (G2 ts) (gSq K ts.length (ts.foldr (fun t u=>H9 (FA t) u) Ie)):=fun Fz B ρ σ H v d ρ' Q x r e k=>by
 cases d with
 |lst ds=>
  obtain⟨a,xs,rfl,na,sq,rs⟩:=r;rw[aT]at e;cases e2:Fj ts ds ρ with
  |none=>rw[e2]at e;cases e
  |some ρ2=>
   rw[e2]at e;cases e;exact .inr ⟨a,xs,rfl,sq,by rw[rs.length];exact MP _ _ _ _ e2,P0 ts ds xs ρ _ σ Q x rs e2 k⟩
 |_=>exact .inl (Vb ts Fz B ρ σ H v _ ρ' Q x r e k)
end
section
variable{X:Cx}{CL:ClA}{W:XW}
end
end Ov
namespace Ov
open PySem PySem.W PyProof.Rows
variable{p:AM Ag}{m x y l k n:Ag}{Q:Ag×AM Ag->Prop}{G:AM Ag->Aq->Prop}{s:Aq}{vs:Ac Ai}{v:Ai}{r:Ac Ad}{rs:Ac (Ac Ad)}
def Kr{α:Type}(lt:Ag->Ag->Ap)(n:Ag):KasT α->(α->Prop)->Prop
 |.ret a,Q=>Q a
 |.ask i j k,Q=>i<n/\j<n/\Kr lt n (k (lt i j)) Q
theorem Kr.mono{α:Type}{lt:Ag->Ag->Ap}{n:Ag}{Q Q':α->Prop}:∀{t:KasT α},Kr lt n t Q->(∀ a,Q a->Q' a)->Kr lt n t Q'
 |.ret _,h,k=>k _ h
 |.ask i j f,h,k=>⟨h.1,h.2.1,Kr.mono (t:=f (lt i j)) h.2.2 k⟩
theorem Kr.bind{α β:Type}{lt:Ag->Ag->Ap}{n:Ag}{f:α->KasT β}{Q:β->Prop}:∀{t:KasT α},Kr lt n t (fun a=>Kr lt n (f a) Q)->Kr lt n (t.bind f) Q
 |.ret _,h=>h
 |.ask i j k,h=>⟨h.1,h.2.1,Kr.bind (t:=k (lt i j)) h.2.2⟩
theorem Kr.wp{α:Type}{lt:Ag->Ag->Ap}{n:Ag}{cmp:Ag->Ag->(Ap->Aq->Prop)->Aq->Prop}{s:Aq}(hc:∀ i j C,i<n->j<n->C (lt i j) s->cmp i j C s){Q:α->Prop}{Q':α->Aq->Prop}:∀{t:KasT α},Kr lt n t Q->(∀ a,Q a->Q' a s)->t.kasWp cmp Q' s
 |.ret _,h,k=>k _ h
 |.ask i j f,h,k=>hc i j _ h.1 h.2.1 (Kr.wp hc (t:=f (lt i j)) h.2.2 k)
structure Sto (lt:Ag->Ag->Ap) (n:Ag):Prop where
 tr:∀ i j k,i<n->j<n->k<n->lt i j=Aa->lt j k=Aa->lt i k=Aa
 tot:∀ i j,i<n->j<n->i≠j->lt i j=Ae->lt j i=Aa
 asy:∀ i j,i<n->j<n->lt i j=Aa->lt j i=Ae
noncomputable def at0(p:AM Ag)(x:Ag):Ag:=p.getD x 0
structure Pm (n:Ag) (p:AM Ag):Prop where
 sz:p.size=n
 lt:∀ x,x<n->at0 p x<n
 inj:∀ x y,x<n->y<n->at0 p x=at0 p y->x=y
section
variable{lt:Ag->Ag->Ap}{n:Ag}
def Ev(lt:Ag->Ag->Ap)(p:AM Ag)(m:Ag):Prop:=∀ x y,x<y->y<m->lt (at0 p x) (at0 p y)=Aa
def JL(lt:Ag->Ag->Ap)(p:AM Ag)(m:Ag):Prop:=∀ x y,x<y->y<m->lt (at0 p y) (at0 p x)=Aa
theorem Ev.succ(S:Sto lt n)(hp:Pm n p)(h1:1<=m)(hm:m<n)(h:Ev lt p m)(e:lt (at0 p (m-1)) (at0 p m)=Aa):Ev lt p (m+1):=fun x y hxy hy=>by
 by_cases hym:y<m
 ·exact h x y hxy hym
 ·have:y=m:=by omega
  subst this;by_cases hx:x=y-1
  ·rw[hx];exact e
  ·exact S.tr _ _ _ (hp.lt _ (by omega)) (hp.lt _ (by omega)) (hp.lt _ hm) (h x (y-1) (by omega) (by omega)) e
theorem JL.succ(S:Sto lt n)(hp:Pm n p)(h1:1<=m)(hm:m<n)(h:JL lt p m)(e:lt (at0 p m) (at0 p (m-1))=Aa):JL lt p (m+1):=fun x y hxy hy=>by
 by_cases hym:y<m
 ·exact h x y hxy hym
 ·have:y=m:=by omega
  subst this;by_cases hx:x=y-1
  ·rw[hx];exact e
  ·exact S.tr _ _ _ (hp.lt _ hm) (hp.lt _ (by omega)) (hp.lt _ (by omega)) e (h x (y-1) (by omega) (by omega))
theorem NA(S:Sto lt n){p:AM Ag}(hp:Pm n p):∀(f m:Ag){Q:Ag->Prop},1<=m->m+f<=n->Ev lt p m->(∀ m',m<=m'->m'<=m+f->Ev lt p m'->(m'=m+f\/lt (at0 p m') (at0 p (m'-1))=Aa)->Q m')->Kr lt n (kas_asc p f m) Q
 |0,m,Q,h1,hf,hs,k=>k m (AS _) (by omega) hs (.inl (by omega))
 |f+1,m,Q,h1,hf,hs,k=>by
  refine⟨hp.lt _ (by omega),hp.lt _ (by omega),?_⟩
  cases e:lt (p.getD m 0) (p.getD (m-1) 0) with
  |true=>
   dsimp only;rw[AD rfl];exact k m (AS _) (by omega) hs (.inr e)
  |false=>
   dsimp only;rw[AH Dc];have ne:at0 p m≠at0 p (m-1):=fun z=>by have:=hp.inj _ _ (by omega) (by omega) z;omega
   have hs':=hs.succ S hp h1 (by omega) (S.tot _ _ (hp.lt _ (by omega)) (hp.lt _ (by omega)) ne e)
   exact NA S hp f (m+1) (by omega) (by omega) hs' fun m' a b c d=>k m' (by omega) (by omega) c (d.imp (fun z=>by omega) id)
theorem U5(S:Sto lt n){p:AM Ag}(hp:Pm n p):∀(f m:Ag){Q:AM Ag×Ag×Ag->Prop},1<=m->m+f<=n->JL lt p m->(∀ m',m<=m'->m'<=m+f->JL lt p m'->Q (p,m',0))->Kr lt n (kas_desc f p m 0) Q
 |0,m,Q,h1,hf,hs,k=>k m (AS _) (by omega) hs
 |f+1,m,Q,h1,hf,hs,k=>by
  refine⟨hp.lt _ (by omega),hp.lt _ (by omega),?_⟩
  cases e:lt (p.getD m 0) (p.getD (m-1) 0) with
  |true=>
   dsimp only;rw[AD rfl,AH (by omega)]
   exact U5 S hp f (m+1) (by omega) (by omega) (hs.succ S hp h1 (by omega) e) fun m' a b c=>k m' (by omega) (by omega) c
  |false=>
   dsimp only;rw[AH Dc];have ne:at0 p m≠at0 p (m-1):=fun z=>by have:=hp.inj _ _ (by omega) (by omega) z;omega
   refine⟨hp.lt _ (by omega),hp.lt _ (by omega),?_⟩
   have e2:lt (p.getD (m-1) 0) (p.getD m 0)=Aa:=S.tot _ _ (hp.lt _ (by omega)) (hp.lt _ (by omega)) ne e
   rw[e2];dsimp only;rw[AD rfl];exact k m (AS _) (by omega) hs
theorem L8{q:AM Ag}(h:p[x]?=q[y]?):p.getD x 0=q.getD y 0:=by
 rw[D0,D0,h]
theorem Qf(hm:m<=p.size)(x:Ag):at0 (KB p 0 m) x=if x<m then at0 p (m-1-x) else at0 p x:=by
 have e:=getElem?_mirror_all (xs:=p) (i:=0) (j:=m) hm x;by_cases h:x<m
 ·rw[AD h];rw[AD (by omega)]at e
  rw[show 0+m-1-x=m-1-x by omega]at e
  exact L8 e
 ·rw[AH h];rw[AH (by omega)]at e
  exact L8 e
theorem xF(h:(if x<m then m-1-x else x)=(if y<m then m-1-y else y)):x=y:=by
 split at h<;>split at h<;>omega
theorem UX(hp:Pm n p)(hm:m<=n):Pm n (KB p 0 m):=by
 have hs:m<=p.size:=by rw[hp.sz];exact hm
 have at_:∀ x,at0 (KB p 0 m) x=at0 p (if x<m then m-1-x else x):=fun x=>by
  rw[Qf hs];split<;>rfl
 have lt_:∀ x,x<n->(if x<m then m-1-x else x)<n:=fun x hx=>by
  split
  ·rename_i h;exact BX (Kh _ _) (Az (Kj (BX (Di _) h) JR) hm)
  ·exact hx
 refine⟨(mirror_size _ _ _ _).trans hp.sz,fun x hx=>?_,fun x y hx hy e=>?_⟩
 ·rw[at_];exact hp.lt _ (lt_ x hx)
 ·rw[at_,at_]at e;exact xF (hp.inj _ _ (lt_ x hx) (lt_ y hy) e)
theorem oA(hp:Pm n p)(hm:m<=n)(h:JL lt p m):Ev lt (KB p 0 m) m:=fun x y hxy hy=>by
 have hs:m<=p.size:=by rw[hp.sz];exact hm
 rw[Qf hs,Qf hs,AD (by omega),AD hy]
 exact h _ _ (by omega) (by omega)
theorem kO(S:Sto lt n)(hp:Pm n p)(h1:1<=m)(hm:m<=n)(h:JL lt p m)(k:∀ m' q,m<=m'->m'<=n->Pm n q->Ev lt q m'->Q (m',q)):Kr lt n (kas_tail3 m n p) Q:=by
 refine Kr.bind (NA S (UX hp hm) (n-m) m h1 (by omega) (oA hp hm h) fun m' a b c _=>?_)
 exact k m' _ a (by omega) (UX hp hm) c
theorem kP(S:Sto lt n)(hp:Pm n p)(h2:2<=n)(k:∀ m' q,1<=m'->m'<=n->Pm n q->Ev lt q m'->Q (m',q)):Kr lt n (Ju n p) Q:=by
 refine Kr.bind (NA S hp (n-1) 1 (AS _) (HI (Xa (BD (by decide) h2))) (fun x y a b=>absurd (BX (Di x) a) (EZ.mpr (Eh b))) fun m a b c d=>?_)
 have b':m<=n:=BD b (HI (Xa (BD (by decide) h2)))
 by_cases e:m=n
 ·rw[AD (by simp[e])]
  exact k m p a b' hp c
 ·rw[AH (by simp[e])]
  by_cases g:m > 1
  ·rw[AD g];have m1:m-1<m:=Kj a JR;refine⟨hp.lt _ (Az a b'),hp.lt _ (Az m1 b'),?_⟩;have c0:lt (p.getD 0 0) (p.getD (m-1) 0)=Aa:=c 0 (m-1) (Nat.sub_pos_of_lt g) m1;rw[c0];dsimp only;rw[AD rfl];exact k m p a b' hp c
  ·rw[AH g];have m1:m=1:=Im (Nat.le_of_not_lt g) a;subst m1;have e1:lt (at0 p 1) (at0 p 0)=Aa:=by
    rcases d with d|d
    ·omega
    ·exact d
   have d2:JL lt p 2:=fun x y hxy hy=>by
    have:x=0/\y=1:=by omega
    obtain⟨rfl,rfl⟩:=this;exact e1
   refine Kr.bind (U5 S hp (n-(1+1)) (1+1) (by omega) (by omega) d2 fun m' a' b' c'=>?_)
   show Kr lt n (if (0:Ag) > 0 then _ else kas_tail3 m' n p) Q
   rw[AH (by omega)]
   exact kO S hp (by omega) (by omega) c' fun m'' q x1 x2 x3 x4=>k m'' q (by omega) x2 x3 x4
theorem qB{r:Ag}(h:l<r):∃ m,(l+r) / 2=m/\l<=m/\m<r:=⟨_,rfl,by omega,by omega⟩
theorem Pq(S:Sto lt n){p:AM Ag}(hp:Pm n p){k:Ag}(hk:k<n)(hs:Ev lt p k):∀(f l r:Ag){Q:Ag->Prop},l<=r->r<=k->r-l<=f->(∀ x,x<l->lt (at0 p x) (at0 p k)=Aa)->(∀ x,r<=x->x<k->lt (at0 p k) (at0 p x)=Aa)->(∀ l',l'<=k->(∀ x,x<l'->lt (at0 p x) (at0 p k)=Aa)->(∀ x,l'<=x->x<k->lt (at0 p k) (at0 p x)=Aa)->Q l')->Kr lt n (kas_place p k f l r) Q
 |0,l,r,Q,h1,h2,h3,ha,hb,q=>q l (BD h1 h2) ha fun x hx=>hb x (BD (Xb (Nat.le_zero.mp h3)) hx)
 |f+1,l,r,Q,h1,h2,h3,ha,hb,q=>by
  unfold kas_place;by_cases g:l ≥ r
  ·rw[AD g];exact q l (BD h1 h2) ha fun x hx=>hb x (BD g hx)
  ·rw[AH g];obtain⟨m,em,m1,m2⟩:=qB (Nat.lt_of_not_le g);rw[em];have hm:m<k:=Az m2 h2;have hmn:m<n:=FM hm hk;refine⟨hp.lt _ hk,hp.lt _ hmn,?_⟩;cases e:lt (p.getD k 0) (p.getD m 0) with
   |true=>
    dsimp only;rw[AD rfl];refine Pq S hp hk hs f l m m1 (D4 hm) (Eh (Az (Xe m1 m2) h3)) ha (fun x hx hxk=>?_) q
    by_cases hxm:x=m
    ·rw[hxm];exact e
    ·exact S.tr _ _ _ (hp.lt _ hk) (hp.lt _ hmn) (hp.lt _ (FM hxk hk)) e (hs _ x (EY hx (C1 hxm)) hxk)
   |false=>
    dsimp only;rw[AH Dc];have ne:at0 p k≠at0 p m:=fun z=>absurd (hp.inj _ _ hk hmn z) (Cm hm)
    have e2:=S.tot _ _ (hp.lt _ hk) (hp.lt _ hmn) ne e;refine Pq S hp hk hs f (m+1) r m2 h2 (Eh (Az (Nat.sub_lt_sub_left (BX m1 m2) (Nat.lt_succ_of_le m1)) h3)) (fun x hx=>?_) hb q
    by_cases hxm:x=m
    ·rw[hxm];exact e2
    ·have hx':x<m:=EY (Eh hx) hxm;exact S.tr _ _ _ (hp.lt _ (FM hx' hmn)) (hp.lt _ hmn) (hp.lt _ hk) (hs x _ hx' hm) e2
theorem Qo(hk:k<p.size)(hl:l<=k)(x:Ag):at0 (bubble p k (k-l)) x=if x=l then at0 p k else if l<x/\x<=k then at0 p (x-1) else at0 p x:=by
 have e:=getElem?_bubble hk (k-l) (by omega) x
 rw[show k-(k-l)=l by omega]at e
 split
 ·rename_i h;rw[AD h]at e;exact L8 e
 ·rename_i h;rw[AH h]at e;split
  ·rename_i g;rw[AD g]at e;exact L8 e
  ·rename_i g;rw[AH g]at e;exact L8 e
noncomputable def Kg(k l x:Ag):Ag:=if x=l then k else if l<x/\x<=k then x-1 else x
theorem dO(hl:l<=k)(h:Kg k l x=Kg k l y):x=y:=by
 unfold Kg at h;split at h<;>split at h<;>first|omega|(split at h<;>first|omega|(split at h<;>omega))
theorem PN(hk:k<n)(hx:x<n):Kg k l x<n:=by
 unfold Kg;split
 ·exact hk
 ·split
  ·exact BX (Kh _ _) hx
  ·exact hx
theorem rK(hp:Pm n p)(hk:k<n)(hl:l<=k):Pm n (bubble p k (k-l)):=by
 have hs:k<p.size:=by rw[hp.sz];exact hk
 have at_:∀ x,at0 (bubble p k (k-l)) x=at0 p (Kg k l x):=fun x=>by
  rw[Qo hs hl];unfold Kg;split
  ·rfl
  ·split<;>rfl
 refine⟨(bubble_size _ _ _).trans hp.sz,fun x hx=>?_,fun x y hx hy e=>?_⟩
 ·rw[at_];exact hp.lt _ (PN hk hx)
 ·rw[at_,at_]at e;exact dO hl (hp.inj _ _ (PN hk hx) (PN hk hy) e)
theorem VQ(S:Sto lt n):∀(f:Ag){p:AM Ag}{k:Ag}{Q:AM Ag->Prop},Pm n p->k+f=n->Ev lt p k->(∀ q,Pm n q->Ev lt q n->Q q)->Kr lt n (kas_bin f p k) Q
 |0,p,k,Q,hp,hk,hs,q=>by
  have:k=n:=by omega
  subst this;exact q p hp hs
 |f+1,p,k,Q,hp,hk,hs,q=>by
  have hkn:k<n:=by omega
  have hsz:k<p.size:=by rw[hp.sz];exact hkn
  refine Kr.bind (Pq S hp hkn hs k 0 k (Di _) (AS _) (Kh _ _) (fun x hx=>absurd hx (FE _)) (fun x a b=>absurd b (EZ.mpr a)) fun l hl ha hb=>?_)
  refine VQ S f (rK hp hkn hl) (by omega) (fun x y hxy hy=>?_) q
  have y2:y<=k:=Eh hy;have py:y-1<k:=Az (Kj (BX (Di _) hxy) JR) y2;rw[Qo hsz hl,Qo hsz hl];by_cases x1:x=l
  ·have ly:l<y:=x1 ▸ hxy;rw[AD x1,AH (Cm ly),AD ⟨ly,y2⟩];exact hb _ (Xc ly) py
  ·rw[AH x1];by_cases x2:l<x/\x<=k
   ·have ly:l<y:=FM x2.1 hxy;rw[AD x2,AH (Cm ly),AD ⟨ly,y2⟩];exact hs _ _ (Xe (BX (Di _) x2.1) hxy) py
   ·rw[AH x2];have xl:x<l:=EY (Nat.le_of_not_lt fun z=>x2 ⟨z,D4 (Az hxy y2)⟩) x1
    by_cases y1:y=l
    ·rw[AD y1];exact ha _ xl
    ·rw[AH y1];by_cases y3:l<y/\y<=k
     ·rw[AD y3];exact hs _ _ (Az xl (Xc y3.1)) py
     ·rw[AH y3];exact hs _ _ hxy (Az (EY (Nat.le_of_not_lt fun z=>y3 ⟨z,y2⟩) y1) hl)
theorem KM(n:Ag):Pm n (BA (Bl n)):=by
 have e:∀ x,x<n->at0 (BA (Bl n)) x=x:=fun x hx=>by simp[at0,Wr,hx]
 exact⟨by simp,fun x hx=>by rw[e x hx];exact hx,fun x y hx hy h=>by rw[e x hx,e y hy]at h;exact h⟩
theorem qK(S:Sto lt n)(h2:2<=n):Kr lt n (kas_sort n) (fun q=>Pm n q/\Ev lt q n):=by
 refine Kr.bind (kP S (KM n) h2 fun m q h1 hm hq hs=>?_)
 by_cases h:m<n
 ·rw[AD h];have mx:max m 1=m:=by omega
  rw[mx];exact VQ S (n-m) hq (by omega) hs fun q a b=>⟨a,b⟩
 ·rw[AH h];have:m=n:=by omega
  subst this;exact⟨hq,hs⟩
end
theorem U0:∀(f n r:Ag),r<=1->minRun' f n r<=n+r
 |0,n,r,_=>AS _
 |f+1,n,r,h=>by
  rw[minRun'_succ];split
  ·exact AS _
  ·have:=U0 f (n / 2) (max r (n%2)) (by omega)
   omega
section
variable{prog:A5}{w:AJ}{A:Bv}{E:Vq}{κ:SortKind}{it:AM Keyed}
theorem bO{Q:JV->Lu->Aq->Prop}(h2:2<=n)(hG:∀ p' st' s',p'.size=n->IR st'=p'.map (IS it)->GR st'=Af->G p' s'->Q () st' s')(h:(Ju n (BA (Bl n))).kasWp (kas_cmp prog w A κ it) (fun r s'=>r.1=n/\G r.2 s') s):kasC (model prog w) A E Lp Q (Jv κ it (BA (Bl n))) s:=by
 obtain⟨r,rfl⟩:∃ r,n=r+2:=⟨n-2,by omega⟩
 have hrs:(BA (Bl (r+2))).size=r+2:=by simp
 rw[sortRuns'_eq];refine Go (LF ?_);dsimp only;have hsz:(IR (Jv κ it (BA (Bl (r+2))))).size=r+2:=by
  show ((BA (Bl (r+2))).map (IS it)).size=_;rw[Array.size_map,hrs]
 have hmr:=U0 (r+2) (r+2) 0 (by omega)
 simp only[hsz];generalize minRun' (r+2) (r+2) 0=mr at *;refine Go (kasC_range ?_);show kasC _ _ _ (forIn (0::1::Ir 2 r) _ _) _ _ _;refine Lr ?_;dsimp only;rw[AH (by omega)]
 simp only[Nat.sub_zero,Xf];refine Go (kas_count_ (by omega) (by rw[hrs];exact AS _) (fun m p' s' hm1 hm2 hp hg=>?_) h)
 have hps:p'.size=r+2:=hp.trans hrs;dsimp only;obtain⟨hm,hg'⟩:=hg;replace hm:m=r+2:=hm;subst hm;rw[AH (by omega)]
 refine Go (LF ?_);rw[show (Lo (Jv κ it p')).back?=Af from rfl]
 dsimp only;refine Go (kasC_modify (Jt ?_));show kasC _ _ _ (forIn (1::Ir 2 r) _ _) _ _ _;refine Lr ?_;dsimp only;rw[AD (AS _)];refine Jt ?_;dsimp only;refine Go (kasC_range ?_);show kasC _ _ _ (forIn (0::1::Ir 2 r) _ _) _ _ _;refine Lr ?_;refine Go (LF ?_);rw[AD (show (Lo (setPending (Jv κ it p') ((Lo (Jv κ it p')).push (0,r+2,0)))).size<=1 from AS 1)]
 refine Jt ?_;dsimp only;exact Jt (hG p' _ _ hps rfl rfl hg')
theorem eA{ks:Ac Ai}{Q:Lu->Aq->Prop}(hl:ks.length=vs.length)(h2:2<=vs.length)(hG:∀ p st' s',p.size=vs.length->IR st'=p.map (IS (ks.toArray.zip vs.toArray))->GR st'=Af->G p s'->Q st' s')(h:(Ju vs.length (BA (Bl vs.length))).kasWp (kas_ask prog w A κ ks) (fun r s'=>r.1=vs.length/\G r.2 s') s):Ax (model prog w) A ((Lp).run (GA κ (ks.toArray.zip vs.toArray) #[] 7 Af)) (fun r s'=>Q r.2 s') E s:=by
 rw[kat_ask_eq hl]at h;have run:=bO (E:=E) (Q:=fun _ st' s'=>Q st' s') h2 hG h
 have est:GA κ (ks.toArray.zip vs.toArray) #[] 7 Af=Jv κ (ks.toArray.zip vs.toArray) (BA (Bl vs.length)):=by
  have e:=kas_range (ks.toArray.zip vs.toArray);rw[show (ks.toArray.zip vs.toArray).size=vs.length by simp[hl]]at e
  show GA κ (ks.toArray.zip vs.toArray) #[] 7 Af=GA κ ((BA (Bl vs.length)).map (IS (ks.toArray.zip vs.toArray))) #[] 7 Af;rw[e]
 rw[est];exact run
end
section
variable{lt:Ag->Ag->Ap}{n:Ag}
theorem Zq(S:Sto lt n)(h2:2<=n)(hs:Ev lt (BA (Bl n)) n):Kr lt n (Ju n (BA (Bl n))) (fun r=>r.1=n/\Pm n r.2/\Ev lt r.2 n):=by
 refine Kr.bind (NA S (KM n) (n-1) 1 (AS _) (by omega) (fun x y a b=>by omega) fun m a b c d=>?_)
 have e:m=n:=by
  rcases d with d|d
  ·omega
  ·refine En fun ne=>?_
   have q:=hs (m-1) m (by omega) (by omega)
   have:=S.asy _ _ ((KM n).lt _ (by omega)) ((KM n).lt _ (by omega)) q
   rw[this]at d;cases d
 rw[AD (by simp[e])]
 subst e;exact⟨rfl,KM _,hs⟩
end
def Eu(h:AQ)(v:Ai)(r:Ac Ad):Prop:=∃ a its,v=.ref a/\JM h a its/\Db its.toList r/\r≠[]
theorem Eu.kept{h h':AQ}(t:Eu h v r)(k:∀ b o,h.get? b=Ab o->h'.get? b=Ab o):Eu h' v r:=by
 obtain⟨a,its,e,⟨o,ho,q⟩,i,n⟩:=t;exact⟨a,its,e,⟨o,k _ _ ho,q⟩,i,n⟩
noncomputable def BG:Ac Ad->Ac Ad->Ap
 |[],[]=>Ae
 |[],_::_=>Aa
 |_::_,[]=>Ae
 |x::xs,y::ys=>if x=y then BG xs ys else decide (x<y)
section
variable{prog:A5}{w:AJ}{A:Bv}{E:Vq}{s:Aq}
theorem U4{C:Ap->Aq->Prop}:∀{vs us:Ac Ai}{r q:Ac Ad}(i:Ag),Db vs r->Db us q->C (BG r q) s->KatLex prog w A Aa (decide (vs.length<us.length)) C (vs.zip us) i s
 |[],[],[],[],i,_,_,h=>by
  have h':C Ae s:=h;exact kat_nil h'
 |[],u::us,[],y::q,i,_,_,h=>by
  have h':C Aa s:=h;refine kat_nil ?_;have e:decide (([]:Ac Ai).length<(u::us).length)=Aa:=by simp
  rw[e];exact h'
 |v::vs,[],x::r,[],i,_,_,h=>by
  have h':C Ae s:=h;exact kat_nil h'
 |v::vs,u::us,x::r,y::q,i,hv,hu,h=>by
  cases hv with
  |cons _ tv hv=>
   cases hu with
   |cons _ tu hu=>
    have e0:decide ((Io x tv::vs).length<(Io y tu::us).length)=decide (vs.length<us.length):=by simp
    rw[e0];refine kat_cons (Gb ?_);by_cases e:x=y
    ·have e1:(x==y)=Aa:=by simp[e]
     rw[e1];refine kat_yes (U4 (i+1) hv hu ?_);have h':C (if x=y then BG r q else decide (x<y)) s:=h
     rw[AD e]at h';exact h'
    ·have e1:(x==y)=Ae:=by simp[e]
     rw[e1];have h':C (decide (x<y)) s:=by
      have h':C (if x=y then BG r q else decide (x<y)) s:=h
      rwa [AH e]at h'
     refine kat_no ?_;cases i with
     |zero=>exact oneLt_int h'
     |succ i=>
      have e2:(Aa&&(i+1==0))=Ae:=rfl;rw[e2];exact kat_one _ _ (wpAny_lt_int h')
 |[],_,_::_,_,_,hv,_,_=>nomatch hv
 |_::_,_,[],_,_,hv,_,_=>nomatch hv
 |_,[],_,_::_,_,_,hu,_=>nomatch hu
 |_,_::_,_,[],_,_,hu,_=>nomatch hu
theorem mG{C:Ap->Aq->Prop}{u:Ai}{q:Ac Ad}(hv:Eu s.heap v r)(hu:Eu s.heap u q)(h:C (BG r q) s):Ax (model prog w) A (keyLt' (tuples' Aa) v u) C E s:=by
 obtain⟨a,xs,rfl,⟨oa,ga,_,n,da⟩,ix,_⟩:=hv;obtain⟨b,ys,rfl,⟨ob,gb,_,m,db⟩,iy,_⟩:=hu;refine kat_lt ga da gb db ?_;have:=U4 (prog:=prog) (w:=w) (A:=A) (s:=s) 0 ix iy h;simpa using this
theorem L4:∀{r q:Ac Ad},BG r q=Aa->BG q r=Ae
 |[],[],h=>by cases h
 |[],_::_,_=>rfl
 |_::_,[],h=>by cases h
 |x::r,y::q,h=>by
  have h':(if x=y then BG r q else decide (x<y))=Aa:=h
  show (if y=x then BG q r else decide (y<x))=Ae
  by_cases e:x=y
  ·rw[AD e]at h';rw[AD e.symm];exact L4 h'
  ·rw[AH e,AI]at h';rw[AH (C1 e),Cw];omega
theorem M6:∀{r q:Ac Ad},r≠q->BG r q=Ae->BG q r=Aa
 |[],[],n,_=>absurd rfl n
 |[],_::_,_,h=>by cases h
 |_::_,[],_,_=>rfl
 |x::r,y::q,n,h=>by
  have h':(if x=y then BG r q else decide (x<y))=Ae:=h
  show (if y=x then BG q r else decide (y<x))=Aa
  by_cases e:x=y
  ·rw[AD e]at h';rw[AD e.symm];exact M6 (fun z=>n (by rw[e,z])) h'
  ·rw[AH e,Cw]at h';rw[AH (C1 e),AI];omega
theorem Nc:∀{r q t:Ac Ad},BG r q=Aa->BG q t=Aa->BG r t=Aa
 |[],[],_,h,_=>by cases h
 |_::_,[],_,h,_=>by cases h
 |_,_::_,[],_,h=>by cases h
 |[],_::_,_::_,_,_=>rfl
 |x::r,y::q,u::t,h,g=>by
  have h':(if x=y then BG r q else decide (x<y))=Aa:=h
  have g':(if y=u then BG q t else decide (y<u))=Aa:=g
  show (if x=u then BG r t else decide (x<u))=Aa
  by_cases e:x=y
  ·rw[AD e]at h';by_cases f:y=u
   ·rw[AD f]at g';rw[AD (e.trans f)];exact Nc h' g'
   ·rw[AH f,AI]at g';rw[AH (by omega),AI]
    omega
  ·rw[AH e,AI]at h';by_cases f:y=u
   ·rw[AH (by omega),AI]
    omega
   ·rw[AH f,AI]at g';rw[AH (by omega),AI]
    omega
noncomputable def ltR(rs:Ac (Ac Ad))(i j:Ag):Ap:=BG (rs.getD i []) (rs.getD j [])
theorem dE(nd:rs.Nodup):Sto (ltR rs) rs.length:=by
 refine⟨fun i j k _ _ _=>Nc,fun i j hi hj ne h=>M6 (fun e=>ne ?_) h,fun i j _ _=>L4⟩
 have h':=Er.mp nd;rw[A2,A2,AU hi,AU hj]at e;have e':rs[i]=rs[j]:=e;rcases Nat.lt_trichotomy i j with z|z|z
 ·exact absurd e' (h' i j hi hj z)
 ·exact z
 ·exact absurd e'.symm (h' j i hj hi z)
noncomputable abbrev JJ(vs:Ac Ai)(p:AM Ag):AM Ai:=BA (p.toList.map fun i=>vs.getD i Dk)
theorem aC(vs:Ac Ai):JJ vs (BA (Bl vs.length))=vs.toArray:=by
 apply HF.mp
 show (Bl vs.length).map (fun i=>vs.getD i Dk)=vs
 apply WM
 ·simp
 ·intro i h1 h2;simp[h2]
theorem SV{h:AQ}:∀{vs:Ac Ai}{rs:Ac (Ac Ad)},rs.length=vs.length->(∀(i:Ag)(v:Ai)(r:Ac Ad),vs[i]?=Ab v->rs[i]?=Ab r->Eu h v r)->∃ fs,KatTups h vs fs/\fs.length=vs.length/\∀ v∈fs,∃ x t,v=Io x t
 |[],_,_,_=>⟨[],KatTups.nil,rfl,fun v hv=>by cases hv⟩
 |v::vs,[],hl,_=>by cases hl
 |v::vs,r::rs,hl,ht=>by
  obtain⟨fs,h1,h2,h3⟩:=SV (vs:=vs) (rs:=rs) (by simpa using hl) fun i v r a b=>ht (i+1) v r a b
  obtain⟨a,its,rfl,⟨o,ho,hc,n,hd⟩,hi,hne⟩:=ht 0 v r rfl rfl;cases e:its.toList with
  |nil=>
   rw[e]at hi;cases hi;exact absurd rfl hne
  |cons f l=>
   rw[e]at hi;cases hi with
   |cons x t hi=>
    refine⟨.int x t::fs,KatTups.cons ho hc hd ?_ h1,by simp[h2],fun v hv=>?_⟩
    ·rw[<-D9,e];rfl
    ·rcases Ay.mp hv with rfl|hv
     ·exact⟨x,t,rfl⟩
     ·exact h3 v hv
theorem Zo{a:Ak}{P:PySem.Fin->Aq->Prop}(ho:s.heap.get? a=Ab (Cu "list" vs.toArray n))(hr:rs.length=vs.length)(ht:∀(i:Ag)(v:Ai)(r:Ac Ad),vs[i]?=Ab v->rs[i]?=Ab r->Eu s.heap v r)(nd:rs.Nodup)(h64:vs.length<64\/(Ev (ltR rs) (BA (Bl vs.length)) vs.length/\vs.length<=1000))(h:∀ p:AM Ag,Pm vs.length p->Ev (ltR rs) p vs.length->P (.done (.ret .none)) {s with heap:=sortedHeap s.heap a vs (JJ vs p)}):Ax (model prog w) A (Builtin.«list.sort» ⟨[.ref a],[]⟩) P E s:=by
 have hz:vs.length<=1000:=h64.elim (fun h=>by omega) fun h=>h.2
 rw[list_sort_plain];have ha:a<s.heap.objs.size:=AC ho;refine Ah (listItems_at ho rfl ?_ );refine Ah (listUpdate_at ho rfl ?_ (by rw[AE,CS];omega) (Di _))
 obtain⟨e1,ho1⟩:∃ e1,(s.heap.update a (Br fun _=>(#[]:AM Ai))).get? a=Ab (Cu "list" #[] e1):=⟨_,get?_update_seq ho (fun _=>#[])⟩
 refine Ah (seqEpoch_at ho1 rfl ?_);refine Ah (GU ?_ (by show vs.length<=_;rw[CS];omega))
 refine Ah (wpAny_newList ?_ (Di _));refine BQ ?_;have ho6:(((s.heap.update a (Br fun _=>(#[]:AM Ai))).push (Cu "tuple" vs.toArray 0)).push (Cu "list" #[] 0)).get? a=Ab (Cu "list" #[] e1):=by
  rw[F0 _ _ _ (by rw[size_push',HL];exact AT (C3 ha)),F0 _ _ _ (by rw[HL];exact AT ha)]
  exact ho1
 show Ax (model prog w) A _ P E { s with heap:=((s.heap.update a (Br fun _=>(#[]:AM Ai))).push (Cu "tuple" vs.toArray 0)).push (Cu "list" #[] 0) }
 have kt:∀(i:Ag)(v:Ai)(r:Ac Ad),vs[i]?=Ab v->rs[i]?=Ab r->Eu (((s.heap.update a (Br fun _=>(#[]:AM Ai))).push (Cu "tuple" vs.toArray 0)).push (Cu "list" #[] 0)) v r:=fun i v r h1 h2=>by
  obtain⟨b,its,e,⟨o,hb,hc,q⟩,x,y⟩:=ht i v r h1 h2;have ne:b≠a:=fun z=>by
   rw[z,ho]at hb;cases hb;have hc':DZ "list" = DZ "tuple" := hc
   injection hc' with hc'
   exact absurd hc' (by decide)
  refine⟨b,its,e,⟨o,?_,hc,q⟩,x,y⟩;exact Ao _ (Ao _ ((Bk _ _ (C1 ne)).trans hb))
 dsimp only;have hsz:vs.toArray.size=vs.length:=by simp
 have fin:∀ p:AM Ag,Pm vs.length p->Ev (ltR rs) p vs.length->∀ st':Lu,(IR st').map (·.2)=JJ vs p->GR st'=Af->∀ s':Aq,s'={ s with heap:=((s.heap.update a (Br fun _=>(#[]:AM Ai))).push (Cu "tuple" vs.toArray 0)).push (Cu "list" #[] 0) }->Ax (model prog w) A (do
   let sorted:=(IR st').map (·.2)
   let touched:=(<-seqEpoch a) != e1
   Builtin.List.listUpdate (.ref a) fun _=>sorted
   if let Ab e:=GR st' then rule "list.sort.comparison-raised"; throw e
   if touched then rule "list.sort.modified"; raiseError "ValueError" "list modified during sort"
   ret .none) P E s':=fun p hp hs st' ho' hf s' es=>by
  subst es;have osz:(JJ vs p).size=vs.length:=by show (BA (p.toList.map _)).size=_;rw[AE,BR,CJ,hp.sz]
  refine Ah (seqEpoch_at ho6 rfl ?_);rw[ho',hf];refine Ah (listUpdate_at ho6 rfl ?_ (Di _) (by rw[osz,CS];omega))
  simp only[bne_self_eq_false,EV,Gi];exact As (h p hp hs)
 by_cases h2:vs.toArray.size<2
 ·rw[AD h2,AD h2];refine Ah (As ?_);rw[StateT.run_pure];refine Ah (As ?_);dsimp only;refine fin (BA (Bl vs.length)) (KM _) (fun x y a b=>by omega) (GA general' (vs.toArray.zip vs.toArray) #[] 7 Af) ?_ rfl _ rfl
  rw[aC];show (vs.toArray.zip vs.toArray).map (·.2)=vs.toArray
  apply HF.mp
  simp[List.map_snd_zip]
 ·rw[AH h2,AH h2];have h2':2<=vs.length:=by rw[hsz]at h2;omega
  obtain⟨fs,t1,t2,t3⟩:=SV hr kt;refine Ah (kat_kind t1 (by omega) (T:=DZ "int") (fun v hv=>?_) rfl ?_)
  ·obtain⟨x,t,rfl⟩:=t3 v hv;exact .now
  ·have e0:tuples' (DZ "int" != DZ "tuple")=tuples' Aa:=rfl;rw[e0];have S:=dE nd;rw[hr]at S;have ask:∀(i j:Ag)(C:Ap->Aq->Prop),i<vs.length->j<vs.length->C (ltR rs i j) { s with heap:=((s.heap.update a (Br fun _=>(#[]:AM Ai))).push (Cu "tuple" vs.toArray 0)).push (Cu "list" #[] 0) }->kas_ask prog w A (tuples' Aa) vs i j C { s with heap:=((s.heap.update a (Br fun _=>(#[]:AM Ai))).push (Cu "tuple" vs.toArray 0)).push (Cu "list" #[] 0) }:=fun i j C hi hj hC=>by
    have gi:vs[i]?=Ab vs[i]:=AU hi;have gj:vs[j]?=Ab vs[j]:=AU hj;have ri:rs[i]?=Ab rs[i]:=AU (by omega)
    have rj:rs[j]?=Ab rs[j]:=AU (by omega)
    show Ax (model prog w) A (keyLt' (tuples' Aa) (vs.getD i Dk) (vs.getD j Dk)) C (fun _ _=>BF) _
    rw[A2,A2,gi,gj];refine mG (kt i _ _ gi ri) (kt j _ _ gj rj) ?_;have:ltR rs i j=BG rs[i] rs[j]:=by unfold ltR;rw[A2,A2,ri,rj];rfl
    rw[<-this];exact hC
   have hq:∀(p:AM Ag)(st':Lu)(s':Aq),p.size=vs.length->IR st'=p.map (IS (vs.toArray.zip vs.toArray))->GR st'=Af->(fun p s'=>Pm vs.length p/\Ev (ltR rs) p vs.length/\s'={ s with heap:=((s.heap.update a (Br fun _=>(#[]:AM Ai))).push (Cu "tuple" vs.toArray 0)).push (Cu "list" #[] 0) }) p s'->(fun st' s'=>∃ p,Pm vs.length p/\Ev (ltR rs) p vs.length/\(IR st').map (·.2)=JJ vs p/\GR st'=Af/\s'={ s with heap:=((s.heap.update a (Br fun _=>(#[]:AM Ai))).push (Cu "tuple" vs.toArray 0)).push (Cu "list" #[] 0) }) st' s':=fun p st' s' _ ha hf hg=>⟨p,hg.1,hg.2.1,kat_snds rfl ha,hf,hg.2.2⟩
   refine Ah (CK (show Ax (model prog w) A ((Lp).run (GA (tuples' Aa) (vs.toArray.zip vs.toArray) #[] 7 Af)) (fun r s'=>(fun st' s'=>∃ p,Pm vs.length p/\Ev (ltR rs) p vs.length/\(IR st').map (·.2)=JJ vs p/\GR st'=Af/\s'={ s with heap:=((s.heap.update a (Br fun _=>(#[]:AM Ai))).push (Cu "tuple" vs.toArray 0)).push (Cu "list" #[] 0) }) r.2 s') E _ from ?_) ?_ fun _ _ e=>e)
   ·rcases h64 with h64|⟨h64,_⟩
    ·exact kat_run (ks:=vs) (vs:=vs) (κ:=tuples' Aa) rfl h2' h64 hq (Kr.wp ask (qK S h2') fun p hp=>⟨hp.1,hp.2,rfl⟩)
    ·exact eA (ks:=vs) (vs:=vs) (κ:=tuples' Aa) rfl h2' hq (Kr.wp ask (Zq S h2' h64) fun r hr=>⟨hr.1,hr.2.1,hr.2.2,rfl⟩)
   ·rintro⟨⟨⟩,st'⟩ s' ⟨p,hp,hs,ho',hf,es⟩;exact fin p hp hs st' ho' hf s' es
theorem Z1{l:Ak}{Q:Vq}(hl:s.heap.IsList l vs.toArray)(hr:rs.length=vs.length)(ht:∀(i:Ag)(v:Ai)(r:Ac Ad),vs[i]?=Ab v->rs[i]?=Ab r->Eu s.heap v r)(nd:rs.Nodup)(h64:vs.length<64\/(Ev (ltR rs) (BA (Bl vs.length)) vs.length/\vs.length<=1000))(h:∀ p:AM Ag,Pm vs.length p->Ev (ltR rs) p vs.length->Q (.ref (s.heap.objs.size+1)) {s with heap:=sortedAll s.heap vs (JJ vs p)}):
    Ax (model prog w) A (call (.builtin "sorted") [.ref l]) Q E s:=by
  have hz:vs.length<=1000:=h64.elim (fun h=>by omega) fun h=>h.2
  refine Calls.call_function_entry kind_sorted plain_sorted entry_sorted (args_sorted1 _) ?_;unfold Builtin.«sorted»;refine Ah (m:=checkCount "sorted" 1 1 _) (As ?_);refine Ah (collect_list hl ?_ (by rw[CS];omega))
  refine Ah (wpAny_newList ?_ (by rw[CS];omega))
  have hsz:((s.heap.push (Cu "list" #[] 0)).update s.heap.objs.size (Br (· ++ vs.toArray))).objs.size=s.heap.objs.size+1:=by
    rw[HL,size_push']
  have hoL:(((s.heap.push (Cu "list" #[] 0)).update s.heap.objs.size (Br (· ++ vs.toArray))).push (Cu "list" vs.toArray 0)).get? (s.heap.objs.size+1)=Ab (Cu "list" vs.toArray 0):=by
    rw[<-hsz];exact Aw _ rfl
  have keep:∀ b o,s.heap.get? b=Ab o->(((s.heap.push (Cu "list" #[] 0)).update s.heap.objs.size (Br (· ++ vs.toArray))).push (Cu "list" vs.toArray 0)).get? b=Ab o:=fun b o q=>by
    have hlt:b<s.heap.objs.size:=AC q;rw[F0 _ _ _ (by rw[hsz];exact AT (C3 hlt)),Heap.get?_update_ne _ _ _ _ (AT hlt),F0 _ _ _ (AT hlt)]
    exact q
  show Ax _ _ _ _ _ { s with heap:=((s.heap.push (Cu "list" #[] 0)).update s.heap.objs.size (Br (· ++ vs.toArray))).push (Cu "list" vs.toArray 0) }
  rw[hsz];refine Ah (BQ (CH slot_list_sort ⟨_,hoL,rfl⟩ entry_list_sort (Zo (s:={ s with heap:=((s.heap.push (Cu "list" #[] 0)).update s.heap.objs.size (Br (· ++ vs.toArray))).push (Cu "list" vs.toArray 0) }) hoL hr (fun i v r h1 h2=>(ht i v r h1 h2).kept keep) nd h64 fun p hp hs=>⟨_,rfl,?_⟩) (args_list_sort _)))
  exact As ⟨_,rfl,h p hp hs⟩
end
end Ov
section
namespace Ov
noncomputable def tI(r:Ac Ad):D:=.tup (r.map D.int)
theorem OP:∀(r q:Ac Ad),eqDs (r.map D.int) (q.map D.int)=decide (r=q)
 |[],[]=>rfl
 |[],_::_=>rfl
 |_::_,[]=>rfl
 |x::r,y::q=>by
  have e:eqDs ((x::r).map D.int) ((y::q).map D.int)=(x==y&&eqDs (r.map D.int) (q.map D.int)):=rfl;rw[e,OP r q];by_cases h:x=y<;>by_cases g:r=q<;>simp[h,g]
theorem Vg(r q:Ac Ad):eqD (tI r) (tI q)=decide (r=q):=OP r q
theorem SJ:∀(r q:Ac Ad),ltD.ltDs (ltD 0) (r.map D.int) (q.map D.int)=BG r q
 |[],[]=>rfl
 |[],_::_=>rfl
 |_::_,[]=>rfl
 |x::r,y::q=>by
  have e:ltD.ltDs (ltD 0) ((x::r).map D.int) ((y::q).map D.int)=if (x==y)=Aa then ltD.ltDs (ltD 0) (r.map D.int) (q.map D.int) else decide (x<y):=rfl
  have e':BG (x::r) (y::q)=if x=y then BG r q else decide (x<y):=rfl
  rw[e,e',SJ r q];by_cases h:x=y<;>simp[h]
theorem No(r q:Ac Ad):ltD 1 (tI r) (tI q)=BG r q:=SJ r q
theorem Uj:∀{xs:Ac D},xs.all (rkD 0)=Aa->∃ r:Ac Ad,xs=r.map D.int
 |[],_=>⟨[],rfl⟩
 |x::xs,h=>by
  rw[EU,Am]at h;obtain⟨r,e⟩:=Uj h.2;cases x with
  |int i=>exact⟨i::r,by rw[e];rfl⟩
  |_=>cases h.1
theorem xE{d:D}(h:rkD 1 d=Aa):∃ r,d=tI r:=by
 cases d with
 |tup xs=>
  obtain⟨r,e⟩:=Uj (xs:=xs) h;exact⟨r,by rw[e];rfl⟩
 |_=>cases h
theorem Qd:∀{xs:Ac D},xs.all (fun d=>rkD 1 d && !eqD d (.tup []))=Aa->∃ rs:Ac (Ac Ad),xs=rs.map tI/\∀ r∈rs,r≠[]
 |[],_=>⟨[],rfl,fun r h=>by cases h⟩
 |x::xs,h=>by
  rw[EU,Am,Am]at h;obtain⟨rs,e,hn⟩:=Qd h.2;obtain⟨r,e1⟩:=xE h.1.1;refine⟨r::rs,by rw[e,e1];rfl,fun q hq=>?_⟩
  rcases Ay.mp hq with rfl|hq
  ·intro z;have h2:=h.1.2;rw[e1,z]at h2;cases h2
  ·exact hn q hq
theorem Qe:∀{rs:Ac (Ac Ad)},(∀ r∈rs,r≠[])->(rs.map tI).all (fun d=>rkD 1 d && !eqD d (.tup []))=Aa
 |[],_=>rfl
 |r::rs,h=>by
  rw[Ch,EU,Am,Am];refine⟨⟨?_,?_⟩,Qe fun q hq=>h q (Av _ hq)⟩
  ·show (r.map D.int).all (rkD 0)=Aa;rw[Dd];intro d hd;obtain⟨i,_,rfl⟩:=CZ.mp hd;rfl
  ·have e:eqD (tI r) (.tup [])=decide (r=[]):=OP r [];rw[e];have:=h r (AB ..);simp[this]
noncomputable def IJ(x:Ac Ad):Ac (Ac Ad)->Ac (Ac Ad)
 |[]=>[x]
 |y::ys=>if BG y x=Aa then y::IJ x ys else x::y::ys
noncomputable def Ji:Ac (Ac Ad)->Ac (Ac Ad)
 |[]=>[]
 |x::xs=>IJ x (Ji xs)
theorem U8(x:Ac Ad):∀ ys:Ac (Ac Ad),Lf (ltD 1) (tI x) (ys.map tI)=(IJ x ys).map tI
 |[]=>rfl
 |y::ys=>by
  have e:Lf (ltD 1) (tI x) ((y::ys).map tI)=if ltD 1 (tI y) (tI x)=Aa then tI y::Lf (ltD 1) (tI x) (ys.map tI) else tI x::tI y::ys.map tI:=rfl
  have e':IJ x (y::ys)=if BG y x=Aa then y::IJ x ys else x::y::ys:=rfl
  rw[e,e',No,U8 x ys];by_cases h:BG y x=Aa<;>simp[h]
theorem Pu:∀ rs:Ac (Ac Ad),NC (ltD 1) (rs.map tI)=(Ji rs).map tI
 |[]=>rfl
 |r::rs=>by
  show Lf (ltD 1) (tI r) (NC (ltD 1) (rs.map tI))=(IJ r (Ji rs)).map tI;rw[Pu rs,U8]
theorem Pa(x:Ac Ad):∀ ys:Ac (Ac Ad),(IJ x ys).Perm (x::ys)
 |[]=>.refl _
 |y::ys=>by
  show (if BG y x=Aa then y::IJ x ys else x::y::ys).Perm _
  split
  ·exact(IL y (Pa x ys)).trans (List.Perm.swap ..)
  ·exact .refl _
theorem O2:∀ rs:Ac (Ac Ad),(Ji rs).Perm rs
 |[]=>.refl _
 |r::rs=>(Pa r _).trans (IL r (O2 rs))
theorem U9(x:Ac Ad):∀{ys:Ac (Ac Ad)},x∉ys->ys.Pairwise (fun a b=>BG a b=Aa)->(IJ x ys).Pairwise (fun a b=>BG a b=Aa)
 |[],_,_=>W3 ..
 |y::ys,hx,h=>by
  show (if BG y x=Aa then y::IJ x ys else x::y::ys).Pairwise _
  obtain⟨h1,h2⟩:=EX.mp h;by_cases g:BG y x=Aa
  ·rw[AD g];refine EX.mpr ⟨fun z hz=>?_,U9 x (fun m=>hx (Av _ m)) h2⟩
   rcases Ay.mp ((Pa x ys).mem_iff.mp hz) with rfl|hz
   ·exact g
   ·exact h1 z hz
  ·rw[AH g];have g':BG y x=Ae:=by simpa using g
   have xy:BG x y=Aa:=M6 (fun e=>hx (by rw[e];exact AB ..)) g'
   refine EX.mpr ⟨fun z hz=>?_,h⟩
   rcases Ay.mp hz with rfl|hz
   ·exact xy
   ·exact Nc xy (h1 z hz)
theorem Uh:∀{rs:Ac (Ac Ad)},rs.Nodup->(Ji rs).Pairwise (fun a b=>BG a b=Aa)
 |[],_=>.nil
 |r::rs,h=>by
  obtain⟨h1,h2⟩:=B5.mp h;exact U9 r (fun m=>h1 ((O2 rs).mem_iff.mp m)) (Uh h2)
theorem RX{ys rs:Ac (Ac Ad)}(nd:rs.Nodup)(hs:ys.Pairwise (fun a b=>BG a b=Aa))(hp:ys.Perm rs):Ji rs=ys:=by
 refine List.Perm.eq_of_pairwise (le:=fun a b=>BG a b=Aa) (fun a b _ _ h1 h2=>?_) (Uh nd) hs ((O2 rs).trans hp.symm)
 rw[L4 h1]at h2;cases h2
theorem TJ{α:Type}[DecidableEq α]:∀{l m:Ac α},l.Nodup->(∀ x∈l,x∈m)->m.length<=l.length->l.Perm m
 |[],m,_,_,hl=>by
  cases m with
  |nil=>exact .refl _
  |cons a m=>simp at hl
 |x::l,m,nd,hs,hl=>by
  obtain⟨h1,h2⟩:=B5.mp nd;have hx:x∈m:=hs x (AB ..);have hp:=List.perm_cons_erase hx;refine(IL x (TJ h2 (fun y hy=>?_) ?_)).trans hp.symm
  ·refine(WZ (fun e=>h1 (by rw[<-e];exact hy))).mpr (hs y (Av _ hy))
  ·have:=WU hx;simp at hl;omega
theorem SG{ys:Ac (Ac Ad)}(h:ys.Pairwise (fun a b=>BG a b=Aa)):ys.Nodup:=
 h.imp fun {a b} g e=>by
  subst e;have:=L4 g;rw[g]at this;cases this
theorem RY{α:Type}[DecidableEq α]{l m:Ac α}(hl:l.Nodup)(hm:m.Nodup)(h:∀ x,x∈l↔x∈m):l.Perm m:=by
 rw[List.perm_iff_count];intro a;rw[hl.count,hm.count];simp[h]
theorem PB:∀ rs:Ac (Ac Ad),Lk (rs.map tI)=Aa↔rs.Nodup
 |[]=>by simp[Lk]
 |r::rs=>by
  have e:Lk ((r::rs).map tI)=((rs.map tI).all (fun y=>!eqD (tI r) y)&&Lk (rs.map tI)):=rfl
  rw[e,Am,PB rs,B5];refine and_congr ?_ Iff.rfl;rw[WH,Dd];constructor
  ·intro h m;have:=h r m;simp[Vg]at this
  ·intro h q hq;have:r≠q:=fun z=>h (by rw[z];exact hq)
   simp[Vg,this]
theorem UV:∀{rs:Ac (Ac Ad)},NP (rs.map tI)=Aa->rs.Pairwise (fun a b=>BG a b=Aa)
 |[],_=>.nil
 |[_],_=>W3 ..
 |x::y::r,h=>by
  have h':(ltD 1 (tI x) (tI y)&&NP ((y::r).map tI))=Aa:=h;rw[Am,No]at h';have ih:=UV h'.2;refine EX.mpr ⟨fun z hz=>?_,ih⟩
  rcases Ay.mp hz with rfl|hz
  ·exact h'.1
  ·exact Nc h'.1 ((EX.mp ih).1 z hz)
theorem aK{rs ys:Ac (Ac Ad)}(hn:∀ r∈rs,r≠[])(nd:rs.Nodup)(h64:rs.length<64)(hs:ys.Pairwise (fun a b=>BG a b=Aa))(hm:∀ r,r∈ys↔r∈rs):Hm (rs.map tI)=.ok (ys.map tI):=by
 unfold Hm;rw[AD (by rw[Qe hn,(PB rs).mpr nd,BR,Ff h64,Bool.true_or];rfl),Pu,RX nd hs (RY (SG hs) nd hm)]
theorem Z2{xs:Ac D}{d:Ac D}(h:Hm xs=.ok d):∃ rs:Ac (Ac Ad),xs=rs.map tI/\(∀ r∈rs,r≠[])/\rs.Nodup/\(rs.length<64\/(rs.Pairwise (fun a b=>BG a b=Aa)/\rs.length<=1000))/\d=(Ji rs).map tI:=by
 unfold Hm at h;split at h
 ·next g=>
  rw[Am,Am,Ds,Am,AI,AI]at g;obtain⟨rs,e,hn⟩:=Qd g.1.1;subst e;rw[Pu]at h;cases h;exact⟨rs,rfl,hn,(PB rs).mp g.1.2,g.2.imp (fun h=>by simpa using h) fun h=>⟨UV h.1,by simpa using h.2⟩,rfl⟩
 ·cases h
open PySem PySem.Spec PyProof.Rows L2
variable{n:Ag}{p:AM Ag}
section
variable{X:Cx}{CL:ClA}{W:XW}
theorem SN{K:Fg}{H:Hp}{A:Ak->Prop}:∀{is:Ac Ad}{ys:Ac V},Reps K CL H A ys (is.map D.int)->ys=is.map V.int
 |[],[],_=>rfl
 |[],_::_,r=>r.elim
 |_::_,[],r=>r.elim
 |i::is,y::ys,r=>by
  have e1:y=.int i:=r.1;rw[SN r.2,e1];rfl
theorem O9:∀{is:Ac Ad}{its:Ac Ai},Bq (is.map V.int) its->Db its is
 |[],_,h=>by cases h;exact .nil
 |i::is,_,h=>by
  cases h with
  |cons h1 h2=>
   obtain⟨t,rfl⟩:=h1;exact .cons i t (O9 h2)
theorem O7{pI:Pn}{s:Aq}{σ:Ac (Au V)}{H:Hp}{A:Ak->Prop}(I:Inv X pI σ H s):∀{rs:Ac (Ac Ad)}{ys:Ac V}{its:Ac Ai},Reps X.K CL H A ys (rs.map tI)->Bq ys its->(∀ r∈rs,r≠[])->∀(i:Ag)(v:Ai)(r:Ac Ad),its[i]?=Ab v->rs[i]?=Ab r->Eu s.heap v r
 |[],_,_,_,_,_,i,v,r,_,e=>by cases e
 |_::_,[],_,h,_,_,_,_,_,_,_=>h.elim
 |q::rs,y::ys,_,h,hv,hn,i,v,r,e1,e2=>by
  cases hv with
  |cons h1 h2=>
   cases i with
   |succ i=>exact O7 I h.2 h2 (fun r m=>hn r (Av _ m)) i v r e1 e2
   |zero=>
    cases e1;cases e2;have h0:C7 X.K CL H A y (.tup (q.map D.int)):=.inl h.1;obtain⟨a,xs,rfl,_,sq,rx⟩:=h0.tup_of;obtain⟨its,hi,ht,_⟩:=I.tuple sq;rw[SN rx]at hi;cases h1;exact⟨a,its.toArray,rfl,ht,O9 hi,hn q (AB ..)⟩
theorem Sa{ys:Ac V}{its:Ac Ai}(h:Bq ys its):∀ l:Ac Ag,(∀ i∈l,i<ys.length)->Bq (l.map fun i=>ys.getD i .non) (l.map fun i=>its.getD i Dk)
 |[],_=>.nil
 |i::l,hl=>by
  have hi:i<ys.length:=hl i (AB ..);have e:ys[i]?=Ab ys[i]:=AU hi;obtain⟨u,e2,r⟩:=h.get e;refine .cons ?_ (Sa h l fun j hj=>hl j (Av _ hj))
  show BZ (ys.getD i .non) (its.getD i Dk);rw[A2,A2,e,e2];exact r
theorem Uk{K:Fg}{H:Hp}{A:Ak->Prop}:∀{ys:Ac V}{ds:Ac D}{i:Ag},Reps K CL H A ys ds->i<ds.length->Rep K CL H A (ys.getD i .non) (ds.getD i .non)
 |[],[],_,_,h=>by cases h
 |[],_::_,_,r,_=>r.elim
 |_::_,[],_,r,_=>r.elim
 |y::ys,d::ds,0,r,_=>r.1
 |y::ys,d::ds,i+1,r,h=>Uk (ys:=ys) (ds:=ds) (i:=i) r.2 (Nat.lt_of_succ_lt_succ h)
theorem R0{K:Fg}{H:Hp}{A:Ak->Prop}{ys:Ac V}{ds:Ac D}(h:Reps K CL H A ys ds):∀ l:Ac Ag,(∀ i∈l,i<ds.length)->Reps K CL H A (l.map fun i=>ys.getD i .non) (l.map fun i=>ds.getD i .non)
 |[],_=>trivial
 |i::l,hl=>⟨Uk h (hl i (AB ..)),R0 h l fun j hj=>hl j (Av _ hj)⟩
theorem Nm(hp:Pm n p):∀ i∈p.toList,i<n:=fun i hi=>by
 obtain⟨j,hj,e⟩:=List.mem_iff_getElem.mp hi;have hj':j<n:=by rw[<-hp.sz];simpa using hj
 have:=hp.lt j hj';unfold at0 at this;rw[D0,<-D9,AU hj,e]at this;exact this
theorem VR(hp:Pm n p){j:Ag}(hj:j<p.toList.length):at0 p j=p.toList[j]:=by
 unfold at0;rw[D0,<-D9,AU hj];rfl
theorem Z8{rs:Ac (Ac Ad)}(nd:rs.Nodup)(hp:Pm rs.length p)(hs:Ev (ltR rs) p rs.length):p.toList.map (fun i=>rs.getD i [])=Ji rs:=by
 have hl:p.toList.length=rs.length:=by rw[CJ,hp.sz]
 have pw:(p.toList.map (fun i=>rs.getD i [])).Pairwise (fun a b=>BG a b=Aa):=by
  rw[List.pairwise_map,Er];intro i j hi hj hij;have:=hs i j hij (by omega)
  rw[VR hp hi,VR hp hj]at this;exact this
 refine(RX nd pw (TJ (SG pw) (fun x hx=>?_) (by rw[BR,hl];exact AS _))).symm
 obtain⟨i,hi,rfl⟩:=CZ.mp hx;have:=Nm hp i hi;rw[A2,AU this];exact Fh this
theorem bE:NH X CL W (.builtin "sorted") (biD .sorted):=by
  intro A H0 pI s σ H xs us Q I r ⟨s0,hA,ds,rs,p⟩;by_cases hls:∃ es,ds=[.lst es]
  · obtain⟨es,rfl⟩:=hls;obtain⟨v,rfl,rv⟩:=rs.one;obtain⟨q,ys,rfl,sq,ry⟩:=rv.lst_of;have p':Bt (Ew X.K CL Aa H0 A) W H ((Hm es).bind fun b=>.ok (.lst b)) Q:=p
    cases hd:Hm es with
    |exn x=>
      unfold Hm at hd;split at hd<;>cases hd
    |bad=>
      rw[hd]at p';exact p'.elim
    |ok d=>
      rw[hd]at p';obtain⟨rs',rfl,hn,nd,h64,rfl⟩:=Z2 hd;obtain⟨u,rfl,rx⟩:=Ia r;cases rx;obtain⟨its,hv,pl,hz⟩:=I.list sq;have l1:ys.length=rs'.length:=by rw[ry.length,BR]
      have l2:ys.length=its.length:=hv.length;have h1000:rs'.length<=1000:=h64.elim (fun h=>by omega) fun h=>h.2
      have h64':its.length<64\/(Ev (ltR rs') (BA (Bl its.length)) its.length/\its.length<=1000):=h64.imp (fun h=>by omega) fun h=>⟨fun x y hxy hy=>by
        have e:∀ x,x<its.length->at0 (BA (Bl its.length)) x=x:=fun x hx=>by simp[at0,Wr,hx]
        rw[e x (by omega),e y hy]
        have g:=Er.mp h.1 x y (by omega) (by omega) hxy
        unfold ltR;rw[A2,A2,AU (by omega),AU (by omega)]
        exact g,by omega⟩
      refine Z1 pl.isList (by omega) (O7 I ry hv hn) nd h64' fun pp hp hs=>?_
      rw[<-l2,l1]at hp hs;have e1:=Z8 nd hp hs;have rp:=R0 ry pp.toList (fun i hi=>by rw[BR];exact Nm hp i hi)
      have e2:(pp.toList.map fun i=>(rs'.map tI).getD i .non)=(Ji rs').map tI:=by
        rw[<-e1,FK]
        apply EJ
        intro i hi;have:=Nm hp i hi;simp[AU this]
      rw[e2]at rp;have vp:=Sa hv pp.toList (fun i hi=>by rw[l1];exact Nm hp i hi)
      obtain⟨c,hat⟩:=sortedAll_at s.heap its (JJ its pp);have hf:=I.hok.fresh (Ha s.heap.objs.size);refine⟨.ref (s.heap.objs.size+1),_,I.laid (t':=s.toks) (fun b o hb=>sortedAll_old hb) (Ha _) (o:=.lst (pp.toList.map fun i=>ys.getD i .non)) ?_,rfl,p' _ _ (F3 hf _) (JC s0 hA hf rp)⟩
      refine⟨?_,pp.toList.map fun i=>its.getD i Dk,c,vp,hat⟩
      rw[BR,CJ,hp.sz,CS];omega
  · have e:biD .sorted ds=.bad:=by
      match ds with
      |[]=>rfl
      |[x]=>cases x<;>first|rfl|exact absurd ⟨_,rfl⟩ hls
      |x::_::_=>cases x<;>rfl
    rw[e]at p;exact p.elim
end
end Ov
end
namespace Ov
open PySem PySem.Spec PyProof.Rows L2
variable{prog P:A5}{w:AJ}{A:Bv}{s:Aq}{a b:Ak}{r:Ac Ad}{H:Hp}{h h':AQ}{l:Ac CA}{oT:Dz}{ts:AM Ai}{Q:JV->Aq->Prop}{X:Cx}{pI:Pn}{σ:L2.St}
theorem U1(is:Ac Ad):(firstMet (fun i=>is.getD i 0) is.length).length=ddN is:=by
 have e:(Bl is.length).map (fun i=>is.getD i 0)=is:=by
  apply WM
  ·simp
  ·intro i h1 h2;simp[A2,AU h2]
 unfold firstMet ddN;rw[e];rfl
theorem gK{E:Vq}{S:Ad->Ap}{n:Ag}{Q:Vq}(h:s.heap.SetOf (intKind prog w) a S n)(hf:(n:Ad)<2 ^ 63)(q:Q (.int n (s.toks+1)) {s with toks:=s.toks+1+1}):Ax (model prog w) A (call (.builtin "len") [.ref a]) Q E s:=by
 obtain⟨o,es,ep,t,ho,hex,hd,_,_,_,hfi,rfl⟩:=h;exact call_len_set ho hex hd hfi hf q
section
variable{X:Cx}
def uK(K:Fg)(ta:TA):TE:=fun σ H Q=>ta σ H fun vs H1=>∃ a,∃ is:Ac Ad,vs=[.ref a]/\SqL K H1 a (is.map V.int)/\is.length<=4000/\Q (.int (ddN is)) H1
theorem jF{a:Ar}{ta:TA}{p p' pos pos':A8}(hc:X.calm=Aa)(hg:Gl X "len")(hm:X.mg "len" = Af)(hg':Gl X "set")(hm':X.mg "set" = Af)(ha:PA X [a] ta)(hs:AG [a] X.env=[(Ae,eval a X.env)]):
    PE X (.Call (.Name "len" p) [.Call (.Name "set" p') [a] [] pos'] [] pos) (uK X.K ta):=by
  intro pI s σ H Q I h;refine Hx (GY I hg hm boot_len (Xk ?_ rfl rfl));show Ax _ _ (spliced ((Ae,eval (.Call (.Name "set" p') [a] [] pos') X.env)::CV pos (AG [] X.env))) _ _ s;refine FO ?_;refine Hx (GY I hg' hm' PyProof.Rows.boot_set (BM (thn (ha pos' pI s σ H _ I h) fun us s1 ⟨vs,H1,I1,r1,q1⟩=>?_) (by rw[hs];rfl) rfl))
  obtain⟨b,is,e,sq,hn,q⟩:=q1;subst e;cases r1 with
  |cons r rr=>
    cases rr;cases r;obtain⟨its,rv,pl,hz⟩:=I1.list sq;have ia:=O9 rv;have hl:its.length=is.length:=by rw[<-rv.length,BR]
    refine PySem.call_set_list (ns:=is) (I1.ok.hd hc) pl.isList ia (by rw[AE,hl];unfold scanBound;omega) fun h' tk hS kp=>FZ ?_
    have hsz:its.toArray.size=is.length:=by rw[AE,hl]
    rw[hsz,U1]at hS;have hle:ddN is<=is.length:=by
      rw[<-U1];exact firstMet_length_le _ _
    refine gK (s:={s1 with heap:=h',toks:=tk}) hS (by omega) ?_
    exact⟨.int (ddN is),H1,I1.kept (t':=tk+1+1) fun b o e=>kp b o (AC e) e,⟨_,rfl⟩,q⟩
variable{CL:ClA}{W:XW}{pos p pos' p':A8}{a:Ar}{fa:Rho->R D}
theorem fJ(ha:ST X CL W a fa)(hc:X.calm=Aa)(hg:Gl X "len")(hm:X.mg "len" = Af)(hg':Gl X "set")(hm':X.mg "set" = Af)(hs:AG [a] X.env=[(Ae,eval a X.env)]):
  SE X CL W (.Call (.Name "len" p) [.Call (.Name "set" p') [a] [] pos'] [] pos) (fun ρ=>(fa ρ).bind fun x=>biD .lset [x]):=
 fun A=>PE.weak (jF hc hg hm hg' hm' (Fk (ha A) GW hs) hs) fun σ H Q ⟨hA,ρ,g,q⟩=>⟨hA,ρ,g,Bt.bind q fun d v H1 _ s1 r1 p1=>by
  cases d with
  |lst ds=>
   obtain⟨b,xs,rfl,sq,r⟩:=r1.lst_of;have p2:Bt (fun H=>Rep X.K CL H A) W H1 (K6 ds) Q:=p1
   unfold K6 at p2;cases e:Ic ds with
   |none=>rw[e]at p2;exact p2.elim
   |some is=>
    rw[e]at p2;have ex:=OB e r;subst ex;dsimp only at p2;split at p2
    ·rename_i hb;exact⟨b,is,rfl,sq,E8 hb,p2 _ H1 (AN.refl H1) rfl⟩
    ·exact p2.elim
  | _=>exact p1.elim⟩
end
section
theorem lH(l:Ak)(items:AM Ai)(n:Ag)(b:Ak)(items2:AM Ai)(n2:Ag)(dd:Au Ak)(sl:AM (Au Ai))(hs0:¬(!items.isEmpty&&DF (items.size+items2.size))=Aa)(hs1:items.size<=sizeLine)(hs2:items.size+items2.size<=sizeLine+1):
  Kl (Builtin.«list.extend» ⟨[.ref l,.ref b],[]⟩) (fun _ R s=>s.heap.get? l=Ab { cls:=.type "list", dict:=Af,data:=.seq items n,slots:=#[] }/\s.heap.get? b=Ab { cls:=.type "tuple", dict:=dd,data:=.seq items2 n2,slots:=sl }/\R (.ok (.ret Dk)) {s with heap:=s.heap.update l (Br fun x=>x++items2),toks:=s.toks}):=
 .of_wp fun prog w A R s h=>by
  obtain⟨hp,g,d,tk,os⟩:=s;obtain⟨hl,hb,h⟩:=h;have f1:=AutoSeq1.idx_int;have f2:=FN;have f3:=AutoSeq1.sub_list_list;have f4:=AutoSeq1.sub_tuple_list;have f5:=AutoSeq1.sub_list_tuple;
  have hz':(items++items2).size<=sizeLine+1:=by rw[Array.size_append];exact hs2
  wp_walk using (CT hl rfl (hz:=hs1) (_hz':=hz')),Xo hl,Xo hb;exact⟨_,rfl,h⟩
end
section
variable{X:Cx}
def vO(K:Fg):V->Ac V->Hp->VK->Prop:=fun x vs H Q=>∃ l b xs zs,x=.ref l/\vs=[.ref b]/\H l=Ab (.lst xs)/\SqT K H b zs/\xs.length+zs.length<=sizeLine/\Q .non (upd H l (.lst (xs++zs)))
theorem iD:MtM X "list.extend" (vO X.K):=by
 intro pI s σ H x vs v us Q I rx rv h;obtain⟨l,b,xs,zs,rfl,rfl,hH,hB,hz,q⟩:=h;cases rx;obtain⟨u,rfl,ru⟩:=rv.one;cases ru;obtain⟨z,its,n,r,hl,e⟩:=I.lstM hH;obtain⟨its2,r2,⟨o,e2,c2,n2,d2⟩,z2⟩:=I.tuple hB;have hl2:=r2.length;obtain⟨oc,od,oda,os⟩:=o;dsimp only at c2 d2;subst c2 d2;have hsz:its.toArray.size+its2.toArray.size<=sizeLine:=by rw[AE,AE];omega
 have hlong:¬ (!its.toArray.isEmpty&&DF (its.toArray.size+its2.toArray.size))=Aa:=by
  rw[Tj hsz,FT];exact Dc
 refine Ku E9 ⟨_,e,rfl⟩ XE (Xy _ _)
  (lH l its.toArray n b its2.toArray n2 od os hlong (by rw[AE];omega) (by omega)) ⟨e,e2,?_⟩
 refine⟨.non,_,I.lset (its':=its++its2) hH e (by simp) (r.append r2) ?_,rfl,q⟩
 rw[Cz];omega
variable{CL:ClA}{W:XW}{o e:Ar}{fe:Rho->R D}{i:Ag}{apos cpos pos:A8}
theorem eY(ho:PE X o (G8 i))(he:ST X CL W e fe)(hbase:Hh o "extend" X.env (eval o X.env)=eval o X.env)(hfew:((CV cpos (AG [e] X.env)).all (fun x=>!x.1)&&(JU cpos (Ix [] X.env)).all (fun x=>x.1.isSome)&&decide ([e].length+([]:Ac Ft).length+(if ([]:Ac Ft).isEmpty then 0 else 1)<30))=Aa)(hline:(apos.endLine==cpos.line)=Aa)(hs:AG [e] X.env=[(Ae,eval e X.env)])(hsw:D6 (.Call (.Attribute o "extend" apos) [e] [] cpos) Af pos.line X.env=pure Ae):
  SS X CL W (.Expr (.Call (.Attribute o "extend" apos) [e] [] cpos) pos) (fun ρ=>O.of ρ (Dq ρ i) fun xs=>O.of ρ (fe ρ) fun x=>O.of ρ ((Dp .Add x (.tup [])).bind fun y=>biD .list [y]) fun d=>O.of ρ (K8 d) fun ys=>if DL (xs.length+ys.length)=Aa then .next (ρ.set i (Ab (.lst (xs++ys),Aa))) else .bad):=fun Fz B pI s σ H D I ⟨ρ,x,p⟩=>by
 refine M9 (QC FX E9 XO iD ho (Fk (he (CU B ρ σ)) GW hs) hbase hfew hline hs rfl) hsw pI s σ H D I ?_;dsimp only at p;cases e1:Dq ρ i with
 |bad=>rw[e1]at p;exact p.elim
 |exn z=>exact(LZ e1).elim
 |ok ds=>
  rw[e1,O.of_ok]at p;have hi:=Mc e1;obtain⟨a,xs,ds',q,e2,ha,hh,r⟩:=x.good.ow i _ hi;cases e2;refine⟨_,q,.inl ⟨rfl,xs,SqL.of hh⟩,x.aok,ρ,x.good,CN.ex x p fun d v H' _ s rv x' q'=>?_⟩
  cases d with
  |tup es=>
   obtain⟨b,ys,rfl,h0,h1,rs⟩:=C7.tup_of rv;have eb:Dp .Add (.tup es) (.tup [])=if (!es.isEmpty&&DL (es.length+0))=Aa then .ok (.tup (es++[])) else .bad:=rfl
   rw[eb]at q';split at q'
   ·rw[R.bind_ok,show biD .list [.tup (es++[])]=.ok (.lst (es++[])) from rfl,O.of_ok,Sz,O.of_ok,DD]at q'
    split at q'
    ·rename_i hz;refine⟨a,b,xs,ys,rfl,rfl,s _ _ hh,h1,?_,q' _ _ (x'.upd hi q ((r.same s).append rs))⟩;rw[r.length,rs.length];exact IY hz
    ·exact q'.elim
   ·exact q'.elim
  |_=>exact q'.elim
end
section
open PySem.AutoSeq1 (wpAny_loadPart')
theorem Ts:∀{vs us:Ac Ai}{r q:Ac Ad},Db vs r->Db us q->∀ y x rest,vs.zip us=(y,x)::rest->∃ i j ti tj vs' us' r' q',y=.int i ti/\x=.int j tj/\rest=vs'.zip us'/\r=i::r'/\q=j::q'/\vs=y::vs'/\us=x::us'/\Db vs' r'/\Db us' q'
 |_,_,_,_,.cons i ti h1,.cons j tj h2,y,x,rest,e=>by
  cases e;exact⟨i,j,ti,tj,_,_,_,_,rfl,rfl,rfl,rfl,rfl,rfl,rfl,h1,h2⟩
 |_,_,_,_,.nil,_,_,_,_,e=>by cases e
 |_,_,_,_,.cons _ _ _,.nil,_,_,_,e=>by cases e
theorem ZD(l b:Ak)(items items2:AM Ai)(n n2:Ag)(dd dd2:Au Ak)(sl sl2:AM (Au Ai))(r q:Ac Ad):
  Kl (Builtin.«tuple.__lt__» ⟨[.ref l,.ref b],[]⟩)
   (fun A R s=>s.heap.get? l=Ab { cls:=.type "tuple", dict:=dd,data:=.seq items n,slots:=sl }/\s.heap.get? b=Ab { cls:=.type "tuple", dict:=dd2,data:=.seq items2 n2,slots:=sl2 } /\
    Db items.toList r/\Db items2.toList q/\R (.ok (.ret (.bool (BG r q)))) s):=
 .of_wp fun prog w A R s h=>by
  obtain⟨hp,g,d,tk,os⟩:=s;obtain⟨hl,hb,h1,h2,h⟩:=h;have f2:=FN
  wp_walk using wpAny_loadPart' hl,wpAny_loadPart' hb,Ys _ (fun rest b s'=>b.1=Af/\s'=⟨hp,g,d,tk,os⟩/\∃ vs us r' q',rest=vs.zip us/\Db vs r'/\Db us q'/\BG r' q'=BG r q/\(decide (vs.length<us.length)=decide (items.size<items2.size))) _
  case turn=>
   rintro⟨y,x⟩ rest b s' ⟨hb',rfl,vs,us,r',q',hz,i1,i2,hx,hd⟩;obtain⟨i,j,ti,tj,vs',us',r'',q'',rfl,rfl,rfl,rfl,rfl,rfl,rfl,k1,k2⟩:=Ts i1 i2 _ _ _ hz.symm;refine Ah (Gb ?_);have hx':(if i=j then BG r'' q'' else decide (i<j))=BG r q:=hx
   by_cases e:i=j
   ·rw[AD e]at hx';rw[show (i==j)=Aa by simp[e]]
    wp_walk
    exact⟨rfl,rfl,vs',us',r'',q'',rfl,k1,k2,hx',by simpa using hd⟩
   ·rw[AH e]at hx';rw[show (i==j)=Ae by simp[e]]
    refine Ah (Fi (Ah (wpAny_lt_int ?_)));rw[hx']
    wp_walk
    exact⟨_,rfl,h⟩
  case fin=>
   rintro⟨b1,b2⟩ s' ⟨hb',rfl,vs,us,r',q',hz,i1,i2,hx,hd⟩;simp only at hb';subst hb';have e:decide (items.size<items2.size)=BG r q:=by
    rw[<-hd,<-hx];cases i1 with
    |nil=>cases i2 with
     |nil=>rfl
     |cons _ _ _=>simp[BG]
    |cons _ _ _=>cases i2 with
     |nil=>rfl
     |cons _ _ _=>cases hz
   wp_walk
   exact⟨_,rfl,by simpa [Xv,e] using h⟩
  case h=>
   exact⟨rfl,rfl,_,_,r,q,rfl,h1,h2,rfl,by simp⟩
theorem ZE(l b:Ak)(items items2:AM Ai)(n n2:Ag)(dd dd2:Au Ak)(sl sl2:AM (Au Ai))(r q:Ac Ad):
  Kl (Builtin.«tuple.__gt__» ⟨[.ref l,.ref b],[]⟩)
   (fun A R s=>s.heap.get? l=Ab { cls:=.type "tuple", dict:=dd,data:=.seq items n,slots:=sl }/\s.heap.get? b=Ab { cls:=.type "tuple", dict:=dd2,data:=.seq items2 n2,slots:=sl2 } /\
    Db items.toList r/\Db items2.toList q/\R (.ok (.ret (.bool (BG q r)))) s):=
 .of_wp fun prog w A R s h=>by
  obtain⟨hp,g,d,tk,os⟩:=s;obtain⟨hl,hb,h1,h2,h⟩:=h;have f2:=FN
  wp_walk using wpAny_loadPart' hl,wpAny_loadPart' hb,Ys _ (fun rest b s'=>b.1=Af/\s'=⟨hp,g,d,tk,os⟩/\∃ vs us r' q',rest=vs.zip us/\Db vs r'/\Db us q'/\BG q' r'=BG q r/\(decide (us.length<vs.length)=decide (items2.size<items.size))) _
  case turn=>
   rintro⟨y,x⟩ rest b s' ⟨hb',rfl,vs,us,r',q',hz,i1,i2,hx,hd⟩;obtain⟨i,j,ti,tj,vs',us',r'',q'',rfl,rfl,rfl,rfl,rfl,rfl,rfl,k1,k2⟩:=Ts i1 i2 _ _ _ hz.symm;refine Ah (Gb ?_);have hx':(if j=i then BG q'' r'' else decide (j<i))=BG q r:=hx
   by_cases e:i=j
   ·rw[AD e.symm]at hx';rw[show (i==j)=Aa by simp[e]]
    wp_walk
    exact⟨rfl,rfl,vs',us',r'',q'',rfl,k1,k2,hx',by simpa using hd⟩
   ·rw[AH (C1 e)]at hx';rw[show (i==j)=Ae by simp[e]]
    refine Ah (Fi (Ah (richCompare_gives (op:=.Gt) (Kx _ i ti) (Kx _ j tj) F.slot_int_gt F.entry_int_gt (F.args_int_gt_2 _ _) (gives_int_gt i j ti tj) nofun ?_)));rw[show decide (i > j)=_ from hx']
    exact Ah (As (As (As ⟨_,rfl,h⟩)))
  case fin=>
   rintro⟨b1,b2⟩ s' ⟨hb',rfl,vs,us,r',q',hz,i1,i2,hx,hd⟩;simp only at hb';subst hb';have e:decide (items2.size<items.size)=BG q r:=by
    rw[<-hd,<-hx];cases i1 with
    |nil=>cases i2 with
     |nil=>rfl
     |cons _ _ _=>rfl
    |cons _ _ _=>cases i2 with
     |nil=>simp[BG]
     |cons _ _ _=>cases hz
   wp_walk
   exact⟨_,rfl,by simpa [Xv,e] using h⟩
  case h=>
   exact⟨rfl,rfl,_,_,r,q,rfl,h1,h2,rfl,by simp⟩
noncomputable def bt2(mx:Ap)(r q:Ac Ad):Ap:=if mx then BG r q else BG q r
theorem UM{E:Vq}{u v:Ai}{q:Ac Ad}{Q:Vq}(mx:Ap)(hu:A.units<Cf)(h1:Eu s.heap u r)(h2:Eu s.heap v q)(h:Q (.bool (bt2 mx r q)) s):Ax (model prog w) A (JS (if mx then .Gt else .Lt) v u) Q E s:=by
 obtain⟨a,xs,rfl,⟨⟨_,d1,_,l1⟩,ga,rfl,n,rfl⟩,ix,_⟩:=h1;obtain⟨b,ys,rfl,⟨⟨_,d2,_,l2⟩,gb,rfl,m,rfl⟩,iy,_⟩:=h2;cases mx with
 |true=>exact Ym (op:=.Gt) ⟨_,gb,rfl⟩ ⟨_,ga,rfl⟩ F.slot_tuple_gt F.entry_tuple_gt (F.args_tuple_gt_2 _ _) (ZE b a ys xs m n d2 d1 l2 l1 q r) ⟨gb,ga,iy,ix,⟨nofun,h⟩⟩ hu
 |false=>exact Ym (op:=.Lt) ⟨_,gb,rfl⟩ ⟨_,ga,rfl⟩ F.slot_tuple_lt F.entry_tuple_lt (F.args_tuple_lt_2 _ _) (ZD b a ys xs m n d2 d1 l2 l1 q r) ⟨gb,ga,iy,ix,⟨nofun,h⟩⟩ hu
end
noncomputable abbrev Hq(xs:AM Ai)(c:Ag):Dz:={ cls:=.type "list", dict:=Af,data:=.seq xs c,slots:=#[] }
section
variable{prog:A5}{w:AJ}{A:Bv}{R:Kn->Aq->Prop}{I S T:Ak}{u v:Ai}{c:Ag}{P:Ag->Ai->Prop}{St:Ag->AQ->Prop}{s:Aq}{r q:Ac Ad}
noncomputable abbrev KpI(I S:Ak)(h h':AQ):Prop:=∀ b o,b≠I->b≠S->h.get? b=Ab o->h'.get? b=Ab o
theorem M4:(toString "min" ++ toString ".loop" : DM) = "min.loop" := by decide
theorem Ub(W:Kq prog w A.in1 I [I,T] [I] 2 P St)(hS:S≠I)(st:St 2 s.heap)(ho:s.heap.get? S=Ab (Hq #[u,u] c))(k:∀ h' tk,KpI I S s.heap h'->R (.ok (.ret u)) {s with heap:=h',toks:=tk}):
  DU (model prog w) A (.builtin "min.loop" ⟨[.ref I,.none,.ref S],[]⟩) R s:=by
 refine CQ HK ?_;rw[B9 DS _];refine Ah (Bx ho rfl ?_);refine Ah (DV (W.done s _ _ st fun h' tk hk=>?_))
 have ho':=hk S _ (by simpa using hS) ho
 refine Ah (CT ho' rfl (Ah (C2 (As ?_))));exact k _ tk fun b o hb hbS e=>(Bk _ _ (C1 hbS)).trans (hk b o (by simpa using hb) e)
theorem iG(W:Kq prog w A.in1 I [I,T] [I] 2 P St)(h1:∀ x,P 1 x->x=v)(hS:S≠I)(hT:S≠T)(hu:A.in1.units<Cf)(st:St 1 s.heap)(ho:s.heap.get? S=Ab (Hq #[u,u] c))(ku:∀ h':AQ,KpI I S s.heap h'->Eu h' u r/\Eu h' v q)(k:∀ h' tk,KpI I S s.heap h'->R (.ok (.ret (if bt2 Ae r q=Aa then v else u))) {s with heap:=h',toks:=tk}):
  DU (model prog w) A (.builtin "min.loop" ⟨[.ref I,.none,.ref S],[]⟩) R s:=by
 refine CQ HK ?_;rw[B9 DS _];refine Ah (Bx ho rfl ?_);refine Ah (DV (W.item 1 s _ _ (by decide) st fun x h' tk hP st' hk=>?_))
 have ho':=hk S _ (by simpa using hS) ho
 obtain⟨t1,t2⟩:=ku h' fun b o hb _ e=>hk b o (by simpa using hb) e
 rw[h1 x hP];refine Ah (As ?_);show Ax _ _ (tryCatch (holding [v,v] (JS .Lt v u >>= _)) _ >>= _) _ _ _;refine Ah (DV (BQ (Ah (UM Ae hu t1 t2 ?_))));refine Ah (BQ (Ct (Ah (C2 (As ?_)))));generalize bt2 Ae r q=b at k ⊢;cases b with
 |true=>
  rw[AD rfl]at k ⊢;refine Ah (CT ho' rfl (Ah (C2 ?_)));show Ax _ _ (again (.builtin (toString "min" ++ toString ".loop") _)) _ _ _;rw[M4];refine As ⟨C0 DS _,Ub W hS (W.frame _ _ _ st' fun b hb o e=>?_) (Ce _ ho' rfl) fun h2 tk2 hk2=>?_⟩
  ·exact(Bk _ _ (fun z:S=b=>by subst z;simp[hS,hT]at hb)).trans e
  ·exact k h2 tk2 fun b o hb hbS e=>hk2 b o hb hbS ((Bk _ _ (C1 hbS)).trans (hk b o (by simpa using hb) e))
 |false=>
  rw[AH Dc]at k ⊢;refine Ah (C2 ?_);show Ax _ _ (again (.builtin (toString "min" ++ toString ".loop") _)) _ _ _;rw[M4];refine As ⟨C0 DS _,Ub W hS st' ho' fun h2 tk2 hk2=>?_⟩
  exact k h2 tk2 fun b o hb hbS e=>hk2 b o hb hbS (hk b o (by simpa using hb) e)
theorem iH(W:Kq prog w A.in1 I [I,T] [I] 2 P St)(h0:∀ x,P 0 x->x=u)(h1:∀ x,P 1 x->x=v)(hS:S≠I)(hT:S≠T)(hu:A.in1.units<Cf)(st:St 0 s.heap)(ho:s.heap.get? S=Ab (Hq #[] c))(ku:∀ h':AQ,KpI I S s.heap h'->Eu h' u r/\Eu h' v q)(k:∀ h' tk,KpI I S s.heap h'->R (.ok (.ret (if bt2 Ae r q=Aa then v else u))) {s with heap:=h',toks:=tk}):
  DU (model prog w) A (.builtin "min.loop" ⟨[.ref I,.none,.ref S],[]⟩) R s:=by
 refine CQ HK ?_;rw[B9 DS _];refine Ah (Bx ho rfl ?_);refine Ah (DV (W.item 0 s _ _ (by decide) st fun x h' tk hP st' hk=>?_))
 have ho':=hk S _ (by simpa using hS) ho
 rw[h0 x hP];refine Ah (As ?_);show Ax _ _ (He S (fun _=>#[u,u]) >>= _) _ _ _
 refine Ah (CT ho' rfl ?_);show Ax _ _ (again (.builtin (toString "min" ++ toString ".loop") _)) _ _ _;rw[M4];have kp:KpI I S s.heap (h'.update S (Br fun _=>#[u,u])):=fun b o hb hbS e=>(Bk _ _ (C1 hbS)).trans (hk b o (by simpa using hb) e)
 refine As ⟨C0 DS _,iG W h1 hS hT hu (W.frame _ _ _ st' fun b hb o e=>?_) (Ce _ ho' rfl) (fun h2 k2=>ku h2 fun b o hb hbS e=>k2 b o hb hbS (kp b o hb hbS e)) fun h2 tk2 k2=>k h2 tk2 fun b o hb hbS e=>k2 b o hb hbS (kp b o hb hbS e)⟩
 exact(Bk _ _ (fun z:S=b=>by subst z;simp[hS,hT]at hb)).trans e
theorem M5:(toString "max" ++ toString ".loop" : DM) = "max.loop" := by decide
theorem Uc(W:Kq prog w A.in1 I [I,T] [I] 2 P St)(hS:S≠I)(st:St 2 s.heap)(ho:s.heap.get? S=Ab (Hq #[u,u] c))(k:∀ h' tk,KpI I S s.heap h'->R (.ok (.ret u)) {s with heap:=h',toks:=tk}):
  DU (model prog w) A (.builtin "max.loop" ⟨[.ref I,.none,.ref S],[]⟩) R s:=by
 refine CQ HJ ?_;rw[B9 DR _];refine Ah (Bx ho rfl ?_);refine Ah (DV (W.done s _ _ st fun h' tk hk=>?_))
 have ho':=hk S _ (by simpa using hS) ho
 refine Ah (CT ho' rfl (Ah (C2 (As ?_))));exact k _ tk fun b o hb hbS e=>(Bk _ _ (C1 hbS)).trans (hk b o (by simpa using hb) e)
theorem gE(W:Kq prog w A.in1 I [I,T] [I] 2 P St)(h1:∀ x,P 1 x->x=v)(hS:S≠I)(hT:S≠T)(hu:A.in1.units<Cf)(st:St 1 s.heap)(ho:s.heap.get? S=Ab (Hq #[u,u] c))(ku:∀ h':AQ,KpI I S s.heap h'->Eu h' u r/\Eu h' v q)(k:∀ h' tk,KpI I S s.heap h'->R (.ok (.ret (if bt2 Aa r q=Aa then v else u))) {s with heap:=h',toks:=tk}):
  DU (model prog w) A (.builtin "max.loop" ⟨[.ref I,.none,.ref S],[]⟩) R s:=by
 refine CQ HJ ?_;rw[B9 DR _];refine Ah (Bx ho rfl ?_);refine Ah (DV (W.item 1 s _ _ (by decide) st fun x h' tk hP st' hk=>?_))
 have ho':=hk S _ (by simpa using hS) ho
 obtain⟨t1,t2⟩:=ku h' fun b o hb _ e=>hk b o (by simpa using hb) e
 rw[h1 x hP];refine Ah (As ?_);show Ax _ _ (tryCatch (holding [v,v] (JS .Gt v u >>= _)) _ >>= _) _ _ _;refine Ah (DV (BQ (Ah (UM Aa hu t1 t2 ?_))));refine Ah (BQ (Ct (Ah (C2 (As ?_)))));generalize bt2 Aa r q=b at k ⊢;cases b with
 |true=>
  rw[AD rfl]at k ⊢;refine Ah (CT ho' rfl (Ah (C2 ?_)));show Ax _ _ (again (.builtin (toString "max" ++ toString ".loop") _)) _ _ _;rw[M5];refine As ⟨C0 DR _,Uc W hS (W.frame _ _ _ st' fun b hb o e=>?_) (Ce _ ho' rfl) fun h2 tk2 hk2=>?_⟩
  ·exact(Bk _ _ (fun z:S=b=>by subst z;simp[hS,hT]at hb)).trans e
  ·exact k h2 tk2 fun b o hb hbS e=>hk2 b o hb hbS ((Bk _ _ (C1 hbS)).trans (hk b o (by simpa using hb) e))
 |false=>
  rw[AH Dc]at k ⊢;refine Ah (C2 ?_);show Ax _ _ (again (.builtin (toString "max" ++ toString ".loop") _)) _ _ _;rw[M5];refine As ⟨C0 DR _,Uc W hS st' ho' fun h2 tk2 hk2=>?_⟩
  exact k h2 tk2 fun b o hb hbS e=>hk2 b o hb hbS (hk b o (by simpa using hb) e)
theorem gF(W:Kq prog w A.in1 I [I,T] [I] 2 P St)(h0:∀ x,P 0 x->x=u)(h1:∀ x,P 1 x->x=v)(hS:S≠I)(hT:S≠T)(hu:A.in1.units<Cf)(st:St 0 s.heap)(ho:s.heap.get? S=Ab (Hq #[] c))(ku:∀ h':AQ,KpI I S s.heap h'->Eu h' u r/\Eu h' v q)(k:∀ h' tk,KpI I S s.heap h'->R (.ok (.ret (if bt2 Aa r q=Aa then v else u))) {s with heap:=h',toks:=tk}):
  DU (model prog w) A (.builtin "max.loop" ⟨[.ref I,.none,.ref S],[]⟩) R s:=by
 refine CQ HJ ?_;rw[B9 DR _];refine Ah (Bx ho rfl ?_);refine Ah (DV (W.item 0 s _ _ (by decide) st fun x h' tk hP st' hk=>?_))
 have ho':=hk S _ (by simpa using hS) ho
 rw[h0 x hP];refine Ah (As ?_);show Ax _ _ (He S (fun _=>#[u,u]) >>= _) _ _ _
 refine Ah (CT ho' rfl ?_);show Ax _ _ (again (.builtin (toString "max" ++ toString ".loop") _)) _ _ _;rw[M5];have kp:KpI I S s.heap (h'.update S (Br fun _=>#[u,u])):=fun b o hb hbS e=>(Bk _ _ (C1 hbS)).trans (hk b o (by simpa using hb) e)
 refine As ⟨C0 DR _,gE W h1 hS hT hu (W.frame _ _ _ st' fun b hb o e=>?_) (Ce _ ho' rfl) (fun h2 k2=>ku h2 fun b o hb hbS e=>k2 b o hb hbS (kp b o hb hbS e)) fun h2 tk2 k2=>k h2 tk2 fun b o hb hbS e=>k2 b o hb hbS (kp b o hb hbS e)⟩
 exact(Bk _ _ (fun z:S=b=>by subst z;simp[hS,hT]at hb)).trans e
theorem Zw{E:Vq}{Q:Vq}(hh:A.handled=Af)(hu:A.units+1<Cf)(t1:Eu s.heap u r)(t2:Eu s.heap v q)(k:∀ h' tk,(∀ b o,s.heap.get? b=Ab o->h'.get? b=Ab o)->Q (if bt2 Ae r q=Aa then v else u) {s with heap:=h',toks:=tk}):Ax (model prog w) A (call (.builtin "min") [u,v]) Q E s:=by
 refine Ye F.kind_min F.plain_min F.entry_min (F.args_min2 _ _) ?_;refine Ah (Iy (show Xp "min" _ 0 ⟨[],[]⟩=pure [Af,Af] from rfl) ?_)
 show Ax _ _ (LI [u,v] >>= _) _ _ s;refine Ah (B8 ?_);have g0:(s.heap.push { cls:=.type "tuple", data:=.seq #[u,v] }).get? s.heap.objs.size=Ab { cls:=.type "tuple", data:=.seq #[u,v] }:=Aw _ rfl;refine Ah (D7 (items:=#[u,v]) ⟨_,g0,rfl,_,rfl⟩ ?_);refine Ah (B8 ?_);show Ax _ _ (again (.builtin (toString "min" ++ toString ".loop") _)) _ _ _;rw[M4];have n1:=Bi s.heap { cls:=.type "tuple", data:=.seq #[u,v] };have n2:=Bi (s.heap.push { cls:=.type "tuple", data:=.seq #[u,v] }) { cls:=.type "tuple_iterator", data:=.fields #[.ref s.heap.objs.size,.int 0 0] };have W:=Iw (prog:=prog) (w:=w) (A:=A.in1) hh (s.heap.push { cls:=.type "tuple", data:=.seq #[u,v] }).objs.size s.heap.objs.size (by rw[n1];exact AT (EB _)) #[u,v]
 generalize hI:(s.heap.push { cls:=.type "tuple", data:=.seq #[u,v] }).objs.size=I at *;generalize hS:((s.heap.push { cls:=.type "tuple", data:=.seq #[u,v] }).push { cls:=.type "tuple_iterator", data:=.fields #[.ref s.heap.objs.size,.int 0 0] }).objs.size=S at *;have gS:(((s.heap.push { cls:=.type "tuple", data:=.seq #[u,v] }).push { cls:=.type "tuple_iterator", data:=.fields #[.ref s.heap.objs.size,.int 0 0] }).push (Hq #[] 0)).get? S=Ab (Hq #[] 0):=by rw[<-hS];exact Aw _ rfl
 have gI:((s.heap.push { cls:=.type "tuple", data:=.seq #[u,v] }).push { cls:=.type "tuple_iterator", data:=.fields #[.ref s.heap.objs.size,.int 0 0] }).get? I=Ab { cls:=.type "tuple_iterator", data:=.fields #[.ref s.heap.objs.size,.int 0 0] }:=by rw[<-hI];exact Aw _ rfl
 have kq:∀ h2,KpI I S (((s.heap.push { cls:=.type "tuple", data:=.seq #[u,v] }).push { cls:=.type "tuple_iterator", data:=.fields #[.ref s.heap.objs.size,.int 0 0] }).push (Hq #[] 0)) h2->∀ b o,s.heap.get? b=Ab o->h2.get? b=Ab o:=fun h2 k2 b o e=>
  k2 b o (AT (Az (AC e) (by omega))) (AT (Az (AC e) (by omega))) (Ao _ (Ao _ (Ao _ e)))
 refine As ⟨C0 DS _,iH W (fun x h=>by simpa using h.symm) (fun x h=>by simpa using h.symm) (Cm (by omega)) (Cm (by omega)) hu ?_ gS (fun h2 k2=>⟨t1.kept (kq h2 k2),t2.kept (kq h2 k2)⟩) fun h2 tk2 k2=>k h2 tk2 (kq h2 k2)⟩
 exact⟨⟨_,Ao _ gI,rfl,rfl⟩,⟨_,Ao _ (Ao _ g0),rfl,_,rfl⟩⟩
theorem Zx{E:Vq}{Q:Vq}(hh:A.handled=Af)(hu:A.units+1<Cf)(t1:Eu s.heap u r)(t2:Eu s.heap v q)(k:∀ h' tk,(∀ b o,s.heap.get? b=Ab o->h'.get? b=Ab o)->Q (if bt2 Aa r q=Aa then v else u) {s with heap:=h',toks:=tk}):Ax (model prog w) A (call (.builtin "max") [u,v]) Q E s:=by
 refine Ye F.kind_max F.plain_max F.entry_max (F.args_max2 _ _) ?_;refine Ah (Iy (show Xp "max" _ 0 ⟨[],[]⟩=pure [Af,Af] from rfl) ?_)
 show Ax _ _ (LI [u,v] >>= _) _ _ s;refine Ah (B8 ?_);have g0:(s.heap.push { cls:=.type "tuple", data:=.seq #[u,v] }).get? s.heap.objs.size=Ab { cls:=.type "tuple", data:=.seq #[u,v] }:=Aw _ rfl;refine Ah (D7 (items:=#[u,v]) ⟨_,g0,rfl,_,rfl⟩ ?_);refine Ah (B8 ?_);show Ax _ _ (again (.builtin (toString "max" ++ toString ".loop") _)) _ _ _;rw[M5];have n1:=Bi s.heap { cls:=.type "tuple", data:=.seq #[u,v] };have n2:=Bi (s.heap.push { cls:=.type "tuple", data:=.seq #[u,v] }) { cls:=.type "tuple_iterator", data:=.fields #[.ref s.heap.objs.size,.int 0 0] };have W:=Iw (prog:=prog) (w:=w) (A:=A.in1) hh (s.heap.push { cls:=.type "tuple", data:=.seq #[u,v] }).objs.size s.heap.objs.size (by rw[n1];exact AT (EB _)) #[u,v]
 generalize hI:(s.heap.push { cls:=.type "tuple", data:=.seq #[u,v] }).objs.size=I at *;generalize hS:((s.heap.push { cls:=.type "tuple", data:=.seq #[u,v] }).push { cls:=.type "tuple_iterator", data:=.fields #[.ref s.heap.objs.size,.int 0 0] }).objs.size=S at *;have gS:(((s.heap.push { cls:=.type "tuple", data:=.seq #[u,v] }).push { cls:=.type "tuple_iterator", data:=.fields #[.ref s.heap.objs.size,.int 0 0] }).push (Hq #[] 0)).get? S=Ab (Hq #[] 0):=by rw[<-hS];exact Aw _ rfl
 have gI:((s.heap.push { cls:=.type "tuple", data:=.seq #[u,v] }).push { cls:=.type "tuple_iterator", data:=.fields #[.ref s.heap.objs.size,.int 0 0] }).get? I=Ab { cls:=.type "tuple_iterator", data:=.fields #[.ref s.heap.objs.size,.int 0 0] }:=by rw[<-hI];exact Aw _ rfl
 have kq:∀ h2,KpI I S (((s.heap.push { cls:=.type "tuple", data:=.seq #[u,v] }).push { cls:=.type "tuple_iterator", data:=.fields #[.ref s.heap.objs.size,.int 0 0] }).push (Hq #[] 0)) h2->∀ b o,s.heap.get? b=Ab o->h2.get? b=Ab o:=fun h2 k2 b o e=>
  k2 b o (AT (Az (AC e) (by omega))) (AT (Az (AC e) (by omega))) (Ao _ (Ao _ (Ao _ e)))
 refine As ⟨C0 DR _,gF W (fun x h=>by simpa using h.symm) (fun x h=>by simpa using h.symm) (Cm (by omega)) (Cm (by omega)) hu ?_ gS (fun h2 k2=>⟨t1.kept (kq h2 k2),t2.kept (kq h2 k2)⟩) fun h2 tk2 k2=>k h2 tk2 (kq h2 k2)⟩
 exact⟨⟨_,Ao _ gI,rfl,rfl⟩,⟨_,Ao _ (Ao _ g0),rfl,_,rfl⟩⟩
end
section
variable{X:Cx}{CL:ClA}{W:XW}
theorem C7.tI_rep{K:Fg}{A:Ak->Prop}{v:V}(h:C7 K CL H A v (tI r)):Rep K CL H A v (tI r):=by
 rcases h with h|⟨_,_,_,_,e,_⟩
 ·exact h
 ·cases e
theorem V0(hc:X.calm=Aa)(hu:X.A.units+64<Cf)(mx:Ap):Jj X CL W (.builtin (if mx=Aa then "max" else "min")) (biD (if mx=Aa then .tmax else .tmin)):=by
  intro A pI s σ H xs us Q I r ⟨hA,ds,rs,p⟩
  match ds,rs,p with
  |[x,y],rs,p=>
    have p':Bt (fun H=>Rep X.K CL H A) W H (mmD mx x y) Q:=by cases mx<;>exact p
    unfold mmD at p';split at p'
    · rename_i hk;obtain⟨rs',e,hn⟩:=Qd hk
      match rs',e,hn with
      |[a,b],e,hn=>
        cases e;obtain⟨v,w',rfl,rv,rw'⟩:=rs.two;obtain⟨u1,u2,rfl,h1,h2⟩:=Qx r;have rr:Reps X.K CL H A [v,w'] ([a,b].map tI):=⟨rv.tI_rep,rw'.tI_rep,trivial⟩;have ts:=O7 I rr r hn;have t1:=ts 0 u1 a rfl rfl;have t2:=ts 1 u2 b rfl rfl;have e2:(if mx=Aa then ltD 1 (tI a) (tI b) else ltD 1 (tI b) (tI a))=bt2 mx a b:=by
          cases mx<;>exact No _ _
        rw[e2]at p';have fin:∀(h':AQ)(tk:Ag),(∀ c o,s.heap.get? c=Ab o->h'.get? c=Ab o)->EP X pI σ Q (if bt2 mx a b=Aa then u2 else u1) {s with heap:=h',toks:=tk}:=fun h' tk k=>by
          cases hb:bt2 mx a b with
          |true=>
            rw[hb]at p';exact⟨w',H,I.kept k,h2,p' w' H (AN.refl H) rw'.tI_rep⟩
          |false=>
            rw[hb]at p';exact⟨v,H,I.kept k,h1,p' v H (AN.refl H) rv.tI_rep⟩
        cases mx with
        |true=>exact Zx (I.ok.hd hc) (by omega) t1 t2 fin
        |false=>exact Zw (I.ok.hd hc) (by omega) t1 t2 fin
      |[],e,_=>cases e
      |[_],e,_=>cases e
      |_::_::_::_,e,_=>cases e
    · exact p'.elim
  |[],_,p=>cases mx<;>exact p.elim
  |[_],_,p=>cases mx<;>exact p.elim
  |_::_::_::_,_,p=>cases mx<;>exact p.elim
end
def Fly(e T:Ak)(cls:Ai)(h:AQ):Prop:=∃ oe vs oT ts a0,h.get? e=Ab oe/\oe.cls=cls/\vs[0]?=Ab a0/\oe.data=.fields vs/\vs[1]?=Ab (.ref T)/\T≠e/\h.get? T=Ab oT/\oT.data=.fields ts/\ts[3]?=Ab Dk
structure Shift (ex fs:Ac Ak) (h h':AQ):Prop where
 keep:∀ b o,h.get? b=Ab o->b∉ex->b∉fs->h'.get? b=Ab o
 slot:∀ b o,h.get? b=Ab o->b∈fs->∃ sl,h'.get? b=Ab {o with slots:=sl}
theorem Shift.trans{ex fs:Ac Ak}{h1 h2:AQ}(a:Shift ex fs h h1)(b:Shift ex fs h1 h2):Shift ex fs h h2:=
 ⟨fun c o q n m=>b.keep c o (a.keep c o q n m) n m,fun c o q m=>by
  obtain⟨sl,e1⟩:=a.slot c o q m;obtain⟨sl',e2⟩:=b.slot c _ e1 m;exact⟨sl',e2⟩⟩
theorem ObjOk.isThere:∀(o:HO),L2.ObjOk P w H h a o->∃ ob,h.get? a=Ab ob
 |.lst _,x=>by obtain⟨_,_,_,_,e⟩:=x;exact⟨_,e⟩
 |.tup _,x=>by obtain⟨_,_,_,p⟩:=x;obtain⟨o,e,_⟩:=p;exact⟨_,e⟩
 |.dK _,x=>by obtain⟨_,_,_,_,o,_,_,e,_⟩:=x;exact⟨_,e⟩
 |.dT _,x=>by obtain⟨_,_,_,_,o,_,_,e,_⟩:=x;exact⟨_,e⟩
 |.set _ _,x=>by obtain⟨o,_,_,_,e,_⟩:=x;exact⟨_,e⟩
 |.ins _ _ _,x=>by obtain⟨_,_,_,e,_⟩:=x;exact⟨_,e⟩
 |.own _,x=>x
 |.xd _,x=>by obtain⟨_,⟨_,_,_,e,_⟩,_⟩:=x;exact⟨_,e⟩
 |.met _ _,x=>⟨_,x⟩
 |.rng _ _,x=>by obtain⟨_,_,_,e⟩:=x;exact⟨_,e⟩
 |.frz _ _,x=>⟨_,x.1⟩
 |.tbl _,x=>⟨_,x⟩
 |.ext _,x=>x.2.1
theorem Pb(x:HOk P w H h)(e:h.get? a=Af):H a=Af:=by
 cases q:H a with
 |none=>rfl
 |some o=>
  obtain⟨ob,z⟩:=ObjOk.isThere o (x a o q);rw[e]at z;cases z
theorem HOk.shift{ex fs:Ac Ak}(x:HOk P w H h)(sh:Shift ex fs h h')(h1:∀ b∈ex,H b=Af)(h2:∀ b∈fs,H b=Af):HOk P w H h':=fun a o e=>
 (x a o e).stay (fun b u hb q=>by
  have hs:∃ v,H b=Ab v:=by
   rcases hb with rfl|hb
   ·exact⟨_,e⟩
   ·exact⟨_,hb⟩
  obtain⟨v,hv⟩:=hs;exact sh.keep b u q (fun z=>by rw[h1 b z]at hv;cases hv) (fun z=>by rw[h2 b z]at hv;cases hv)) (fun _ q=>q) fun _ _ q=>q
theorem Un.shift{fs0 fs ex:Ac Ak}{H':Hp}{h0:AQ}(u:Un fs0 [] H H' h0 h)(sh:Shift ex fs h h')(h1:∀ b∈ex,h0.get? b=Af)(h2:∀ b∈fs,b∈fs0\/h0.get? b=Af):Un fs0 [] H H' h0 h' where
 keep:=fun b o q n hb hx=>sh.keep b o (u.keep b o q n hb hx) (fun z=>by rw[h1 b z]at q;cases q) fun z=>(h2 b z).elim hb fun e=>by rw[e]at q;cases q
 slot:=fun b o q n hb hx=>by
  obtain⟨sl,e1⟩:=u.slot b o q n hb hx;by_cases hf:b∈fs
  ·obtain⟨sl',e2⟩:=sh.slot b _ e1 hf;exact⟨sl',e2⟩
  ·exact⟨sl,sh.keep b _ e1 (fun z=>by rw[h1 b z]at q;cases q) hf⟩
 free:=u.free
 there:=fun b o q hx=>by
  obtain⟨o',e1⟩:=u.there b o q hx;by_cases hf:b∈fs
  ·obtain⟨sl',e2⟩:=sh.slot b _ e1 hf;exact⟨_,e2⟩
  ·exact⟨o',sh.keep b _ e1 (fun z=>by rw[h1 b z]at q;cases q) hf⟩
 tups:=u.tups
 frzs:=u.frzs
 tbls:=u.tbls
section
variable{M:Km}{A:Bv}{E:Vq}{s:Aq}{env:CA}{outer:Ac CA}{L e T:Ak}{cls:Ai}{base h:AQ}
theorem T3(l:Ac CA):∀ env∈l,∀ a,env.frame=Ab a->a∈frs l:=fun env he a hf=>W1.mpr ⟨env,he,hf⟩
theorem bF(ff:h.FunFrames base l)(fl:Fly e T cls h):∃ a0,XQ (GD h (e::T::frs l)) l e cls a0 h:=by
 obtain⟨oe,vs,oT,ts,a0,he,hc,h0,hd,h1,hTe,hT,hdT,h3⟩:=fl;exact⟨a0,fun b o q=>Hc _ q,GE _ AB,X8 ff fun env he a hf=>Av _ (Av _ (T3 l env he a hf)),
  oe,vs,T,oT,ts,he,⟨hc,h0⟩,hd,h1,GE _ (Av _ AB),hTe,hT,hdT,h3⟩
theorem TM(ff:h.FunFrames base l)(up:h.UpToSlots h'){o:Dz}(ho:h.get? b=Ab o)(hb:b∈frs l):∃ sl,h'.get? b=Ab {o with slots:=sl}:=by
 obtain⟨_,o',ho',hn⟩:=ff.mem hb;rw[ho]at ho';cases ho';exact up b o ho hn
theorem Tl(ff:h.FunFrames base l)(up:h.UpToSlots h')(hT:h'.get? T=Ab oT)(hd:oT.data=.fields ts):T∉frs l:=fun hb=>by
 obtain⟨_,o',ho',hn⟩:=ff.mem hb;obtain⟨sl,e1⟩:=up T o' ho' hn;rw[hT]at e1;cases e1;exact hn ts hd
theorem Vc{B:AQ}{a0:Ai}(x:XQ B l e cls a0 h'):∃ T',Fly e T' cls h'/\B.get? T'=Af/\∃ oT ts,h'.get? T'=Ab oT/\oT.data=.fields ts:=by
 obtain⟨_,_,_,oe,vs,T',oT,ts,he,⟨hc,h0⟩,hd,h1,hn,hTe,hT,hdT,h3⟩:=x;exact⟨T',⟨oe,vs,oT,ts,a0,he,hc,h0,hd,h1,hTe,hT,hdT,h3⟩,hn,oT,ts,hT,hdT⟩
theorem aV(ff:h.FunFrames base l)(st:(GD h (e::T::frs l)).StaysIn h')(up:h.UpToSlots h'):Shift [e,T] (frs l) h h':=
 ⟨fun b o q n1 n2=>st b o (EK _ q (by simp only[Ay,El,A3,Cj]at n1 ⊢;exact⟨n1.1,by first|exact n1.2|exact n1.2.1,n2⟩)),fun b o q hb=>TM ff up q hb⟩
theorem aY{T':Ak}(ff:h.FunFrames base l)(up:h.UpToSlots h')(hn:(GD h (e::T::frs l)).get? T'=Af)(hT:h'.get? T'=Ab oT)(hd:oT.data=.fields ts)(hne:T'≠e):T'=T\/h.get? T'=Af:=by
 cases q:h.get? T' with
 |none=>exact .inr rfl
 |some o=>
  refine .inl ?_;by_cases hm:T'∈e::T::frs l
  ·rcases Ay.mp hm with z|hm
   ·exact absurd z hne
   ·rcases Ay.mp hm with z|hm
    ·exact z
    ·exact absurd hm (Tl ff up hT hd)
  ·have:=EK _ q hm;rw[hn]at this;cases this
theorem Fly.ne(x:Fly e T cls h):T≠e:=by obtain⟨_,_,_,_,_,_,_,_,_,_,z,_⟩:=x;exact z
theorem aW(hfr:A.frames=Ab (env::outer))(hf:env.frame=Ab L)(ff:s.heap.FunFrames base (env::outer))(fl:Fly e T cls s.heap)(hQ:∀ h' T',Fly e T' cls h'->Shift [e,T] (frs (env::outer)) s.heap h'->(T'=T\/s.heap.get? T'=Af)->Q () {s with heap:=h'}):Ax M A (leaving env (.ref e)) Q E s:=by
 obtain⟨a0,fw⟩:=bF ff fl;refine wpAny_leaves_onW hfr hf fw fun h' fw' up=>?_
 obtain⟨T',fl',hn,oT,ts,hT,hd⟩:=Vc fw';exact hQ h' T' fl' (aV ff fw'.1 up) (aY ff up hn hT hd fl'.ne)
theorem ZI{args:Ac Ai}(hfr:A.frames=Ab (env::outer))(hf:env.frame=Ab L)(ff:h.FunFrames base (env::outer))(hx:XR h s.heap e cls args)(hQ:∀ h' T',Fly e T' cls h'->Shift [] (frs (env::outer)) h h'->h.get? T'=Af->Q () {s with heap:=h'}):Ax M A (leaving env (.ref e)) Q E s:=by
 have fh:=X8 (as:=frs (env::outer)) ff (T3 _);refine wpAny_leaves_madeW hfr hf (fun b o q=>Hc _ q) fh hx fun h' t fw _ _ up=>?_
 have up':h.UpToSlots h':=(Heap.UpToSlots.of_keeps hx.keeps).trans up;obtain⟨T',fl',hn,oT,ts,hT,hd⟩:=Vc fw;refine hQ h' T' fl' ⟨fun b o q _ n2=>fw.1 b o (EK _ q n2),fun b o q hb=>TM ff up' q hb⟩ ?_
 cases q:h.get? T' with
 |none=>rfl
 |some o=>
  have:=EK _ q (Tl ff up' hT hd);rw[hn]at this;cases this
end
def CXR(P:A5)(w:AJ):CXT:=fun outer H s E ev s'=>∃ e T cls H',ev=.ref e/\s'.os=s.os/\FU s'.gens/\Un (frs outer) [] H H' s.heap s'.heap/\HOk P w H' s'.heap/\Fly e T cls s'.heap/\H' e=Af/\H' T=Af/\s.heap.get? e=Af/\s.heap.get? T=Af/\E cls Af H'
def Q3(X:Cx)(CL:ClA)(W:XW):Prop:=∀ pI σ H s h' e C vs x,Inv X pI σ H s->XR s.heap h' e (.ref C) vs->CL x.c=Ab C->x.fs=[]->W x H->X.xe (.ref e) {s with heap:=h'}
section
variable{P:A5}{w:AJ}{K:Fg}{mg:Al->Au Ai}{base:AQ}{N:Ac Al}{qual:Al}{scope:CP}{f:Ak}{cd:Ai}{A:Bv}{outer:Ac CA}{s:Aq}{H:Hp}{E:XK}{CL:ClA}{W:XW}
theorem T2(I:Inv X pI σ H s):∀ b∈frs X.stack,b∈X.fs\/X.s₀.heap.get? b=Af:=fun b hb=>by
 rcases Ay.mp (I.stkSub b hb) with z|z
 ·exact .inr (by rw[z];exact XU I.ok.above)
 ·exact .inl z
theorem L0(I:Inv X pI σ H s)(hx:X.ex=[])(h:s.heap.get? b=Af):X.s₀.heap.get? b=Af:=by
 cases q:X.s₀.heap.get? b with
 |none=>rfl
 |some o=>
  obtain⟨o',z⟩:=I.base.there b o q (by rw[hx];simp)
  rw[h]at z;cases z
theorem wI(hE:∀ x cls H',W x H'->(∃ C,CL x.c=Ab C/\cls=.ref C)->E cls Af H'):∀ A',K3 (CXR P w) (G3 (CXR P w) P w K mg base N qual scope f cd A outer s H E) (EKW K CL A' W):=by
 intro A' pI σ H1 s1 ev s2 I h;obtain⟨e,T,cls,H',rfl,os,bare,un,hok,fl,he,hT,ne,nT,x,xr,wx⟩:=h;have I':=I.call' (s':=s2) (ch:=[]) os un hok bare (fun b z=>absurd z (by simp))
 have hb0:Un (frs outer) [] H H' s.heap s2.heap:=I'.base;show Ax (model P w) (A.deeper (Fq qual scope s.heap.objs.size f cd)) (leaving (Fq qual scope s.heap.objs.size f cd) (.ref e)) _ _ s2;refine aW (L:=s.heap.objs.size) I'.ok.frames rfl I'.stack fl fun h' T' fl' sh hT'=>?_
 have e0:s.heap.get? e=Af:=L0 I rfl ne;have T0:s.heap.get? T=Af:=L0 I rfl nT;refine⟨e,T',cls,H',rfl,I'.os,bare,Un.shift hb0 sh ?_ (T2 I'),HOk.shift hok sh ?_ I'.stkFree,fl',he,?_,e0,?_,?_⟩
 ·intro b hb;rcases Ay.mp hb with rfl|hb
  ·exact e0
  ·rw[BK.mp hb];exact T0
 ·intro b hb;rcases Ay.mp hb with rfl|hb
  ·exact he
  ·rw[BK.mp hb];exact hT
 ·rcases hT' with rfl|z
  ·exact hT
  ·exact Pb hok z
 ·rcases hT' with rfl|z
  ·exact T0
  ·exact L0 I' rfl z
 ·obtain⟨C,c1,c2,_⟩:=xr;exact hE x cls H' wx ⟨C,c1,c2⟩
theorem rzR(hE:∀ x cls H',W x H'->(∃ C,CL x.c=Ab C/\cls=.ref C)->E cls Af H'):Q3 (G3 (CXR P w) P w K mg base N qual scope f cd A outer s H E) CL W:=by
  intro pI σ H1 s1 h2 e C vs x I hm hc hf hw;have hb0:Un (frs outer) [] H H1 s.heap s1.heap:=I.base;show Ax (model P w) (A.deeper (Fq qual scope s.heap.objs.size f cd)) (leaving (Fq qual scope s.heap.objs.size f cd) (.ref e)) _ _ {s1 with heap:=h2}
  refine ZI (s:={s1 with heap:=h2}) (h:=s1.heap) (L:=s.heap.objs.size) I.ok.frames rfl I.stack hm fun h' T' fl' sh hT'=>?_
  refine⟨e,T',.ref C,H1,rfl,I.os,I.bare,Un.shift hb0 sh (fun b hb=>nomatch hb) (T2 I),HOk.shift I.hok sh (fun b hb=>nomatch hb) I.stkFree,fl',Pb I.hok hm.new,Pb I.hok hT',L0 I rfl hm.new,L0 I rfl hT',hE x _ H1 hw ⟨C,hc,rfl⟩⟩
theorem ownR:Gn (model P w) (G3 (CXR P w) P w K mg base N qual scope f cd A outer s H E).A (G3 (CXR P w) P w K mg base N qual scope f cd A outer s H E).env (G3 (CXR P w) P w K mg base N qual scope f cd A outer s H E).xe:=PassesOwn.leaving
end
noncomputable def veB:Ac Ai:=[.type "ValueError", .type "Exception", .type "BaseException", .type "object"]
structure XcOk (K:Fg) (C:Ak):Prop where
 exc:PySem.W.excIn K C veB "ValueError.__new__" = Aa
 ga:IM K (.ref C) "__getattribute__" = Ab (Ab (.builtin "BaseException.__getattribute__"))
 gt:IM K (.ref C) "__getattr__" = Ab Af
 cl:IM K (.ref C) "__class__" = Ab (Ab (.builtin "object.__class__"))
 ob:PySem.W.mroIn K C (.type "object")=Ab Aa
 be:Yc K (.ref C) (.type "BaseException")=Ab Aa
 cs:(PySem.W.clsIn K C).isSome=Aa
 ve:Yb K (.ref C) (.type "ValueError")=Ab Aa
section
variable{prog:A5}{w:AJ}{A:Bv}{E:Vq}{h:AQ}{g:AM Lw}{d:Drawn}{t:Ag}{os:OsState}{K:Fg}{e C:Ak}
end
def V9(X:Cx)(pI:Pn)(e:Ak):Prop:=e≠X.env.locals/\(∀ x c,X.env.cells.lookup x=Ab c->c≠e)/\(∀ p∈X.pn++pI,p.1≠e)/\X.s₀.heap.get? e=Af
section
variable{X:Cx}{pI:Pn}{σ:L2.St}{H:Hp}{s:Aq}{e:Ak}
end
noncomputable def Cx.hot(X:Cx)(e:Ak):Cx:={X with A:=X.A.mark (Ab (.ref e)),calm:=Ae,xe:=fun _ _=>BF}
section
variable{X:Cx}{pI:Pn}{σ:L2.St}{H:Hp}{s:Aq}{e:Ak}
end
noncomputable def yJ(X:Cx)(CL:ClA)(pI:Pn)(σ:L2.St)(H:Hp)(y:Ex)(Xw:Vq):Prop:=
 ∀ s' H' e T C,Inv X pI σ H' s'->AN H H'->Fly e T (.ref C) s'.heap->H' e=Af->H' T=Af->V9 X pI e->V9 X pI T->CL y.c=Ab C->y.fs=[]->Xw (.ref e) s'
def STB(X:Cx)(CL:ClA)(body:Ac Ca)(f:Rho->O):Prop:=∀ Fz B pI s σ H D ρ (Xw:Vq),Gn (model X.prog X.w) X.A X.env Xw->Inv X pI σ H s->Sx X.K CL Fz B ρ σ H ->
  (match f ρ with
   |.exn y ρ'=>ρ'=ρ->yJ X CL pI σ H y Xw
   | o=>CN X.K CL Fz B (fun _ _=>BF) o D)->(∀ y ρ',f ρ=.exn y ρ'->ρ'=ρ)->Ax (model X.prog X.w) X.A (execs body X.env) (SP X pI D) Xw s
noncomputable def Cx.pw(X:Cx)(pI:Pn)(Xw:Vq):Cx:={X with pn:=X.pn++pI,xe:=Xw}
section
variable{X:Cx}{pI pins':Pn}{σ:L2.St}{H:Hp}{s:Aq}{Xw:Vq}
end
section
variable{X:Cx}{CL:ClA}{k n:Ag}{fr:Ap}{f:Ak}{fd:CW}{ps:Ac Al}{F:Ac D->R D}{x:Al}{p pos pos2:A8}{e:Ar}{es:Ac Ar}{fs ft:Rho->R (Ac D)}{sh:Rho->Ap}
variable(hx0:X.ex=[])(G:FnOk X.prog X.w X.K X.mg X.base (CXR X.prog X.w) k f fd ps (spD X.K CL n fr F))(hr:Room k X.A)(hg:Gl X x)(hm:X.mg x=Ab (.ref f))
    (hk:DT X.K (.ref f)=Aa) (hb:IF X.K fd ps []) (hst:∀ ρ,sh ρ=Aa->ft ρ=fs ρ) (hn:∀ ρ ds,ft ρ=.ok ds->ds.length=n) (hnx:∀ ρ y,ft ρ≠.exn y)
    (hdb:(x==("__debug__" : Al))=Ae) (he:AG (e::es) X.env=(Ae,eval e X.env)::AG es X.env) (hpl:∀ pos,(CV pos (AG es X.env)).any (·.1)=Ae)
    (ha:∀ pI Xw,Gn (model X.prog X.w) X.A X.env Xw->SA (Cx.pw X pI Xw) CL (fun _ _=>BF) (e::es) fs/\SAT (Cx.pw X pI Xw) CL (fun _ _=>BF) (e::es) ft)
include hx0 G hr hg hm hk hb hst hn hnx hdb he hpl ha
end
section
variable{X:Cx}{CL:ClA}{W:XW}
def tK(K:Fg)(CL:ClA)(up:Ag->Ac Ag)(c':Ag)(C':Ak):Prop:=∀ c C,CL c=Ab C->Yb K (.ref C) (.ref C')=Ab ((up c).contains c')
variable{a:Ar}{fa:Rho->R D}{up:Ag->Ac Ag}{x:Al}{p p2 pos:A8}
end
end Ov
section
namespace Ov
open PySem PySem.Spec PyProof.Rows L2
end Ov
end
namespace Ov
open PySem PySem.Spec PyProof.Rows L2
variable{α:Type}{g x n x0 x1:Al}{y:Ar}{as:Es}{X:Cx}{CL:ClA}{fr:Ap}{pos p:A8}{xs ys:Ac Ar}{env:CA}{l kk k:Ag}{scope:CP}{ts:Ac Ag}{H:Hp}{vs:Ac V}{f:Ak}{fd:CW}{CX:CXT}{ps:Ac Al}{F:Ac D->R D}{h:AQ}
noncomputable abbrev YC:CXT:=fun _ _ _ _ _ _=>BF
structure HotOk (P:A5) (w:AJ) (K:Fg) (mg:Al->Au Ai) (base:AQ) (k:Ag) (f:Ak) (fd:CW) (ps:Ac Al) (sp:Sp):Prop where
 len:∀ vs H Q E,sp vs H Q E->vs.length=ps.length
 run:∀(A:Bv)(ev:Ak)(outer:Ac CA)(s:Aq)(H:Hp)(args:Args)(us:Ac Ai)(vs:Ac V)(Q:VK)(E:XK),Room k A->Env0 P w K mg base (A.mark (Ab (.ref ev))) outer s H->Hy s fd args (ps.zip us)->Bq vs us->sp vs H Q E ->
  DU (model P w) (A.mark (Ab (.ref ev))) (.call (.ref f) args) (CR YC outer P w H s Q E) s
def spH(K:Fg)(CL:ClA)(n:Ag)(fr:Ap)(F:Ac D->R D):Sp:=fun vs H Q _=>∃(ds:Ac D)(A:Ak->Prop),vs.length=n/\AOk H A/\Reps K CL H A vs ds/\(match F ds with
  |.ok d=>∀ v H',AN H H'->Ew K CL fr H A H' v d->Q v H'
  |.exn _=>BF
  | .bad=>BF)
section
variable{X:Cx}{CL:ClA}{ev:Ak}
end
structure Tc where
 sc:CP
 N:Ac Al
 /-- a def's name,its number,how many parameters it has -/
 fns:Ac (Al×Ag×Ag)
 /-- built-in names that the text does not hide -/
 bl:Ac Al
 /-- exceptions' classes by their names: those that are raised,all that are asked for -/
 rzs:Ac (Al×Ag)
 exs:Ac (Al×Ag)
 /-- the text's constants -/
 gls:Ac (Al×Ag)
noncomputable def QR(T:Tc)(x:Al):Ap:=match T.sc.names.lookup x with
  |some .local=>Aa
  |some .cell=>Aa
  |some .free=>Aa
  |_=>Ae
noncomputable def Ll(T:Tc)(x:Al):Ap:=match T.sc.names.lookup x with
  |some .local=>Aa
  |some .cell=>Aa
  |_=>Ae
noncomputable def glB(T:Tc)(x:Al):Ap:=T.sc.names.lookup x==Ab .globalImplicit
noncomputable def Mv(x:Al):Ap:=!(x==("__debug__" : Al)) && !(x==("__classdict__" : Al)) && !(x==("__name__" : Al))
noncomputable def isV(T:Tc)(x:Al)(i:Ag):Ap:=T.N[i]? == Ab x&&QR T x&&Mv x
noncomputable def isB(T:Tc)(x:Al):Ap:=T.bl.contains x&&glB T x&&Mv x
noncomputable def EG:Ar->Ap
 |.Starred _ _=>Ae
 |_=>Aa
noncomputable def PC:Ar->Ap
 |.Slice _ _ _ _=>Ae
 |_=>Aa
noncomputable def Mp:Ar->Ap
 |.Set _ _ _=>Ae
 |_=>Aa
noncomputable def KY:Ar->Ap
 |.ListComp _ _ _ _=>Ae
 |.SetComp _ _ _ _=>Ae
 |.DictComp _ _ _ _ _=>Ae
 |_=>Aa
noncomputable def Wm(tu:Ap):Ar->Ap
 |.Tuple ..=>tu
 |.Name ..=>!tu
 |_=>Ae
noncomputable def yD:Ar->Ap
 |.Tuple _ _ _=>Aa
 |_=>Ae
noncomputable def VL:Ar->Ap
 |.Tuple _ _ _=>Ae
 |_=>Aa
noncomputable def O4:Ar->Ap
 |.UnaryOp _ _ _=>Ae
 |.BoolOp _ _ _=>Ae
 |.IfExp _ _ _ _=>Ae
 |.Compare _ _ _ _=>Ae
 |_=>Aa
noncomputable def QF:Ki->Au Al
 |.int=>Ab "int"
 |.bool=>Ab "bool"
 |.str=>Ab "str"
 |.list=>Ab "list"
 |.tuple=>Ab "tuple"
 |_=>Af
noncomputable def QG:BI->Au Al
 |.len=>Ab "len"
 |.abs=>Af
 |.max=>Af
 |.min=>Ab "min"
 |.int=>Af
 |.list=>Ab "list"
 |.tuple=>Ab "tuple"
 |.all=>Ab "all"
 |.any=>Ab "any"
 |.sum=>Ab "sum"
 |.sorted=>Ab "sorted"
 |.tmin=>Ab "min"
 |.tmax=>Ab "max"
 |_=>Af
noncomputable def Qv(o scope:CP):CP:={scope with names:=scope.names.map fun (n,k)=>if (k==.free&&o.kind==.function&&o.names.lookup n==Ab .cell) then (n,.cell) else (n,k)}
noncomputable def Lj:Ac Ag->Ac Al->Ac Al->Ac Al
 |t::ts,x::xs,N=>Lj ts xs ((N.map fun y=>if y==x then N.getD t x else y).set t x)
 |_,_,N=>N
noncomputable def Mk:Ac Al->Ap
 |[]=>Aa
 |x::xs=>!xs.contains x&&Mk xs
noncomputable def Mz(T:Tc)(scope:CP)(ts:Ac Ag)(N':Ac Al):Ap:=
  scope.kind==.function&&scope.names.all (fun y=>scope.names.lookup y.1==Ab y.2) &&
  scope.names.all (fun y=>y.2 != .free||T.sc.names.lookup y.1==Ab .cell||T.sc.names.lookup y.1==Ab .free) &&
  N'.length==T.N.length&&Mk N' &&
  (Bl N'.length).all fun i=>ts.contains i||(match N'[i]? with
    |some x=>(scope.names.lookup x != Ab .local&&scope.names.lookup x != Ab .cell)&&(scope.names.lookup x != Ab .free||T.N[i]? == Ab x)
    | none=>Aa)
noncomputable def Fx:Ac Ar->Au (Ac Al)
 |[]=>Ab []
 |.Name x _::r=>(Fx r).map (x :: ·)
 |_=>Af
noncomputable def tgN(ys:Ac Ar):Ac Al:=(Fx ys).getD []
noncomputable def tgB(T:Tc):Ac Ag->Ac Al->Ap
 |[],[]=>Aa
 |t::ts,x::xs=>T.N[t]? == Ab x&&T.sc.names.lookup x==Ab .local&&tgB T ts xs
 |_,_=>Ae
noncomputable def tgO(T:Tc)(scope:CP)(t:Ag)(x:Al):Ap:=T.N[t]? == Ab x&&(T.sc.names.lookup x==Ab .local||(T.sc.names.lookup x==Ab .cell&&scope.names.lookup x==Ab .cell))
noncomputable def tgC(T:Tc):Ac Ag->Ac Al->Ap
 |[],[]=>Aa
 |t::ts,x::xs=>T.N[t]? == Ab x&&Ll T x&&tgC T ts xs
 |_,_=>Ae
noncomputable def Tc.blk(T:Tc)(scope:CP)(ts:Ac Ag)(xs:Ac Al):Tc:={T with sc:=Qv T.sc scope,N:=Lj ts xs T.N}
noncomputable def QZ:E->Ap
 |.lst _=>Aa
 |.comp _ _ _ _=>Aa
 |.compT _ _ _ _=>Aa
 |.bin .Add _ _=>Aa
 |.bi .list _=>Aa
 |.sl _ _ _=>Aa
 |_=>Ae
noncomputable def NG:E->Au E
  | .bi b as=>(match b with
    | .list=>(match as with
      | .cons x r=>(match r with
        | .nil=>(match x with
          | .bin op a c=>(match op with
            | .Add=>(match c with
              | .tup es=>(match es with
                |.nil=>Ab a
                | _=>Af)
              | _=>Af)
            | _=>Af)
          | _=>Af)
        | _=>Af)
      | .nil=>Af)
    | _=>Af)
  |_=>Af
theorem dS{e a:E}(q:NG e=Ab a):e=.bi .list (.cons (.bin .Add a (.tup .nil)) .nil):=by
 unfold NG at q
 repeat' split at q
 all_goals first|cases q;done|skip
 cases q;rfl
theorem hZ(Γ:Gam){e:E}(h:QZ e=Aa):Fn Γ e=Aa:=by
 unfold QZ at h;split at h<;>first|rfl|cases h
noncomputable def Rl(T:Tc)(e:Ar)(b:BI)(as:Es):Ap:=Ae
noncomputable def Mh:Ar->Au (Al×A8)
 |.Name x p=>Ab (x,p)
 |_=>Af
theorem MY{e:Ar}{t:Al×A8}(q:Mh e=Ab t):e=.Name t.1 t.2:=by
 cases e with
 |Name x p=>cases q;rfl
 |_=>cases q
noncomputable def Qq:Ar->Au (Ar×Ac Ar×Ac Ft×A8)
 |.Call f as ks p=>Ab (f,as,ks,p)
 |_=>Af
theorem SD{e:Ar}{t:Ar×Ac Ar×Ac Ft×A8}(q:Qq e=Ab t):e=.Call t.1 t.2.1 t.2.2.1 t.2.2.2:=by
 cases e with
 |Call f as ks p=>cases q;rfl
 |_=>cases q
noncomputable def QM:Ar->Au (Ar×Ar×A8)
 |.Subscript v s p=>Ab (v,s,p)
 |_=>Af
theorem TU{e:Ar}{t:Ar×Ar×A8}(q:QM e=Ab t):e=.Subscript t.1 t.2.1 t.2.2:=by
 cases e with
 |Subscript v s p=>cases q;rfl
 |_=>cases q
noncomputable def Wb:Ar->Au (Ac Ar×Ag×A8)
 |.Tuple es k p=>Ab (es,k,p)
 |_=>Af
theorem dP{e:Ar}{t:Ac Ar×Ag×A8}(q:Wb e=Ab t):e=.Tuple t.1 t.2.1 t.2.2:=by
 cases e with
 |Tuple es k p=>cases q;rfl
 |_=>cases q
noncomputable def Wd:Ca->Au (Ac Ar×Ar×A8)
 |.Assign ts v p=>Ab (ts,v,p)
 |_=>Af
theorem dU{s:Ca}{t:Ac Ar×Ar×A8}(q:Wd s=Ab t):s=.Assign t.1 t.2.1 t.2.2:=by
 cases s with
 |Assign ts v p=>cases q;rfl
 |_=>cases q
noncomputable def one{α:Type}:Ac α->Au α
 |[a]=>Ab a
 |_=>Af
theorem UZ{l:Ac α}{a:α}(q:one l=Ab a):l=[a]:=by
  match l,q with
  |[b],q=>cases q;rfl
noncomputable def Kf(e:Ar):Au (Al×Al×Ac Ar):=(Qq e).bind fun c=>(Mh c.1).bind fun g=>(one c.2.1).bind fun a=>(Qq a).bind fun d=>(Mh d.1).bind fun h=>if (c.2.2.1.isEmpty&&d.2.2.1.isEmpty)=Aa then Ab (g.1,h.1,d.2.1) else Af
theorem PJ{e:Ar}{h:Al}{bs:Ac Ar}(q:Kf e=Ab (g,h,bs)):∃ p p' pos pos',e=.Call (.Name g p) [.Call (.Name h p') bs [] pos'] [] pos:=by
 obtain⟨⟨f,as,ks,pos⟩,e1,q⟩:=Bp.mp q;obtain⟨⟨g',p⟩,e2,q⟩:=Bp.mp q;obtain⟨a,e3,q⟩:=Bp.mp q;obtain⟨⟨f',bs',ks',pos'⟩,e4,q⟩:=Bp.mp q;obtain⟨⟨h',p'⟩,e5,q⟩:=Bp.mp q;by_cases hk:(ks.isEmpty&&ks'.isEmpty)=Aa
 ·rw[AD hk]at q;cases q;rw[Am,HG,HG]at hk;obtain⟨rfl,rfl⟩:=hk;have x1:=SD e1;have x2:=MY e2;have x3:=UZ e3;have x4:=SD e4;have x5:=MY e5;dsimp only at x1 x2 x3 x4 x5;subst x1 x2 x3 x4 x5;exact⟨_,_,_,_,rfl⟩
 ·rw[AH hk]at q;cases q
noncomputable def NO(e:Ar):Au (Al×Al×Ar×Ar×Ar):=match Kf e with
  | some (g,h,bs)=>(match bs with
    |[x,y,z]=>Ab (g,h,x,y,z)
    | _=>Af)
  |none=>Af
theorem jV{e:Ar}{h:Al}{x z:Ar}(q:NO e=Ab (g,h,x,y,z)):∃ p p' pos pos',e=.Call (.Name g p) [.Call (.Name h p') [x,y,z] [] pos'] [] pos:=by
  unfold NO at q;cases c:Kf e with
  |none=>rw[c]at q;cases q
  |some t=>
    obtain⟨g',h',bs⟩:=t;rw[c]at q
    match bs,q,c with
    |[a,b,d],q,c=>cases q;exact PJ c
noncomputable def Mx(e:Ar):Au (Al×Al×Ar×Ar):=match Kf e with
  | some (g,h,bs)=>(match bs with
    |[x,y]=>Ab (g,h,x,y)
    | _=>Af)
  |none=>Af
theorem gJ{e:Ar}{h:Al}{x:Ar}(q:Mx e=Ab (g,h,x,y)):∃ p p' pos pos',e=.Call (.Name g p) [.Call (.Name h p') [x,y] [] pos'] [] pos:=by
  unfold Mx at q;cases c:Kf e with
  |none=>rw[c]at q;cases q
  |some t=>
    obtain⟨g',h',bs⟩:=t;rw[c]at q
    match bs,q,c with
    |[a,b],q,c=>cases q;exact PJ c
noncomputable def Mt:Es->Au (E×E)
 |.cons (.tupI (.rng2 a b)) .nil=>Ab (a,b)
 |_=>Af
theorem dR{a b:E}(q:Mt as=Ab (a,b)):as=.cons (.tupI (.rng2 a b)) .nil:=by
 unfold Mt at q;split at q
 ·cases q;rfl
 ·cases q
noncomputable def Mw(e:Ar):Au (Al×Al×Ar):=match Kf e with
  | some (g,h,bs)=>(match bs with
    |[x]=>Ab (g,h,x)
    | _=>Af)
  |none=>Af
theorem gG{e:Ar}{h:Al}{x:Ar}(q:Mw e=Ab (g,h,x)):∃ p p' pos pos',e=.Call (.Name g p) [.Call (.Name h p') [x] [] pos'] [] pos:=by
  unfold Mw at q;cases c:Kf e with
  |none=>rw[c]at q;cases q
  |some t=>
    obtain⟨g',h',bs⟩:=t;rw[c]at q
    match bs,q,c with
    |[a],q,c=>cases q;exact PJ c
noncomputable def Ms:Es->Au E
  | .cons a r=>(match r with
    |.nil=>Ab a
    | _=>Af)
  |.nil=>Af
theorem dQ{a:E}(q:Ms as=Ab a):as=.cons a .nil:=by
 unfold Ms at q;split at q
 ·split at q
  ·cases q;rfl
  ·cases q
 ·cases q
noncomputable def QU(e:Ar):Au (Al×Al):=(QM e).bind fun t=>(Mh t.1).bind fun x=>(Mh t.2.1).bind fun y=>Ab (x.1,y.1)
theorem Ug{e:Ar}{y:Al}(q:QU e=Ab (x,y)):∃ p1 p2 p3,e=.Subscript (.Name x p1) (.Name y p2) p3:=by
 obtain⟨⟨v,s,p⟩,e1,q⟩:=Bp.mp q;obtain⟨⟨x',p1⟩,e2,q⟩:=Bp.mp q;obtain⟨⟨y',p2⟩,e3,q⟩:=Bp.mp q;cases q;have x1:=TU e1;have x2:=MY e2;have x3:=MY e3;dsimp only at x1 x2 x3;subst x1 x2 x3;exact⟨_,_,_,rfl⟩
noncomputable def Mo(e:Ar):Ap:=(QM e).isSome
theorem Tr{e:Ar}(q:Mo e=Aa):∃ o a p,e=.Subscript o a p:=by
 obtain⟨t,h⟩:=Xh.mp q;exact⟨_,_,_,TU h⟩
noncomputable def two(e:Ar):Au (Ar×Ar):=(Wb e).bind fun t=>match t.1 with
  |[a,b]=>Ab (a,b)
  |_=>Af
theorem Vn{e a b:Ar}(q:two e=Ab (a,b)):∃ k p,e=.Tuple [a,b] k p:=by
  obtain⟨⟨es,k,p⟩,e1,q⟩:=Bp.mp q;have x1:=dP e1;dsimp only at x1;subst x1
  match es,q with
  |[a',b'],q=>cases q;exact⟨_,_,rfl⟩
noncomputable def QT(st:Ca):Au (Al×Al×Al×Al×Ar):=(Wd st).bind fun t=>(one t.1).bind fun u=>(two u).bind fun ab=>(QU ab.1).bind fun xy=>(QU ab.2).bind fun xz=>(two t.2.1).bind fun cd=>if (Mo cd.1&&Mo cd.2)=Aa then Ab (xy.1,xy.2,xz.1,xz.2,t.2.1) else Af
theorem eO{st:Ca}{y x' z:Al}{v:Ar}(q:QT st=Ab (x,y,x',z,v)):∃ p1 p2 p3 p4 p5 p6 kt tp o a p o' a' p' q0 q1 pos,v=.Tuple [.Subscript o a p,.Subscript o' a' p'] q0 q1/\st=.Assign [.Tuple [.Subscript (.Name x p1) (.Name y p2) p3,.Subscript (.Name x' p4) (.Name z p5) p6] kt tp] (.Tuple [.Subscript o a p,.Subscript o' a' p'] q0 q1) pos:=by
 obtain⟨⟨ts,w,pos⟩,e5,q⟩:=Bp.mp q;obtain⟨t,e6,q⟩:=Bp.mp q;obtain⟨⟨a,b⟩,e1,q⟩:=Bp.mp q;obtain⟨⟨y1,y2⟩,e2,q⟩:=Bp.mp q;obtain⟨⟨z1,z2⟩,e3,q⟩:=Bp.mp q;obtain⟨⟨c,d⟩,e4,q⟩:=Bp.mp q;by_cases hs:(Mo c&&Mo d)=Aa
 ·rw[AD hs]at q;cases q;rw[Am]at hs;have x5:=dU e5;have x6:=UZ e6;dsimp only at x5 x6 e4;obtain⟨k1,t1,rfl⟩:=Vn e1;obtain⟨u1,u2,u3,rfl⟩:=Ug e2;obtain⟨u4,u5,u6,rfl⟩:=Ug e3;obtain⟨k2,t2,rfl⟩:=Vn e4;obtain⟨o,a,p,rfl⟩:=Tr hs.1;obtain⟨o',a',p',rfl⟩:=Tr hs.2;subst x6 x5;exact⟨_,_,_,_,_,_,_,_,_,_,_,_,_,_,_,_,_,rfl,rfl⟩
 ·rw[AH hs]at q;cases q
noncomputable def Wn:Ar->Au (Ar×Ad)
  | .Subscript v s _=>(match s with
    | .Slice lo hi st _=>(match lo with
      | some (.Constant (.int k) _ _)=>(match hi with
        | none=>(match st with
          |some (.Constant (.int j) _ _)=>if j=2 then Ab (v,k) else Af
          | _=>Af)
        | some _=>Af)
      | _=>Af)
    | _=>Af)
  |_=>Af
noncomputable def QN(_:Es):Au (E×Ad):=Af
mutual
noncomputable def Bo:Ag->Tc->Ar->E->Ap
  |0,_,_,_=>Ae
  |n+1,T,e,c=>match c with
    |.non=>(match e with | .Constant .none _ _=>Aa|_=>Ae)
    |.bl b=>(match e with | .Constant (.bool b') _ _=>b' == b|_=>Ae)
    |.int i=>(match e with | .Constant (.int j) _ _=>decide (j=i)|_=>Ae)
    |.str x=>(match e with | .Constant (.str y) _ _=>decide (y=x)|_=>Ae)
    |.var i=>(match e with | .Name x _=>isV T x i|_=>Ae)
    |.glob g=>Ae
    |.bin op a b=>(match e with | .BinOp x op' y _=>decide (op'=op)&&Bo n T x a&&Bo n T y b|_=>Ae)
    |.un op a=>(match e with | .UnaryOp .USub x _=>decide (op=.USub)&&Bo n T x a|_=>Ae)
    |.no a=>(match e with | .UnaryOp .Not x _=>Bo n T x a|_=>Ae)
    |.and es=>(match e with | .BoolOp .And xs _=>chkEs n T xs es && !xs.isEmpty|_=>Ae)
    |.or es=>(match e with | .BoolOp .Or xs _=>chkEs n T xs es && !xs.isEmpty|_=>Ae)
    |.cmp op a b=>(match e with | .Compare x [op'] [y] _=>decide (op'=op) && !behindInMarks op y&&Bo n T x a&&Bo n T y b|_=>Ae)
    |.cmp2 op1 op2 a b c=>(match e with | .Compare x [o1,o2] [y,z] _=>decide (o1=op1)&&decide (o2=op2) && !lastMarks [op1,op2] [y,z]&&Bo n T x a&&Bo n T y b&&Bo n T z c|_=>Ae)
    |.ite c a b=>Ae
    |.call f as=>(match e with | .Call (.Name g _) (x::xs) [] _=>(T.fns.any fun p=>p.1==g&&p.2.1==f&&p.2.2==xs.length+1)&&decide (xs.length<900)&&glB T g&&Mv g&&chkEs n T (x::xs) as|_=>Ae)
    |.bi b as=>(match e with | .Call (.Name g _) (x::xs) [] _=>QG b==Ab g&&isB T g&&chkEs n T (x::xs) as|_=>Ae)||Rl T e b as||(match Mt as with|some (a,c)=>(match Mx e with|some (g,h,x,y)=>decide (b=.list)&&g==("list" : Al)&&h==("range" : Al)&&isB T g&&isB T h&&EG x&&EG y&&Bo n T x a&&Bo n T y c|none=>Ae)|none=>Ae)||(match QN as with|some (a,k)=>(match Wn e with|some (x,j)=>decide (b=.stp)&&decide (j=k)&&decide (0<=k)&&Bo n T x a|none=>Ae)|none=>Ae)||(match Ms as with|some a=>(match Mw e with|some (g,h,x)=>decide (b=.lset)&&g==("len" : Al)&&h==("set" : Al)&&isB T g&&isB T h&&EG x&&Bo n T x a|none=>Ae)|none=>Ae)
    |.isi a ks=>(match ks with | [k]=>(match e with | .Call (.Name g _) [x,.Name t _] [] _=>g==("isinstance" : Al)&&isB T g&&QF k==Ab t&&isB T t&&EG x&&Bo n T x a|_=>Ae)|_=>Ae)
    |.idx a i=>(match e with | .Subscript x y _=>PC y&&Bo n T x a&&Bo n T y i|_=>Ae)
    |.sl a lo hi=>(match e with | .Subscript x (.Slice l h Af _) _=>Bo n T x a&&chkO n T l lo&&chkO n T h hi|_=>Ae)
    |.tup es=>(match e with | .Tuple xs _ _=>chkEs n T xs es&&decide (xs.length<=1000)|_=>Ae)
    |.lst es=>(match e with | .List xs _=>chkEs n T xs es&&decide (xs.length<=1000)|_=>Ae)
    |.comp elt t it c=>(match e with | .ListComp x [⟨.Name y _,iter,ifs,0⟩] scope _=>chkI n T Ae iter it&&Mp iter&&Mz T scope [t] (Lj [t] [y] T.N)&&tgO (T.blk scope [t] [y]) scope t y&&chkT n (T.blk scope [t] [y]) ifs c&&Bo n (T.blk scope [t] [y]) x elt|_=>Ae)
    |.compT elt ts it c=>(match e with | .ListComp x [⟨.Tuple ys _ _,iter,ifs,0⟩] scope _=>(Fx ys).isSome&&chkI n T Aa iter it&&Mp iter&&Mz T scope ts (Lj ts (tgN ys) T.N)&&tgB (T.blk scope ts (tgN ys)) ts (tgN ys)&&chkT n (T.blk scope ts (tgN ys)) ifs c&&Bo n (T.blk scope ts (tgN ys)) x elt|_=>Ae)
    |.tupI it=>(match it with | .zip3 a b c=>(match NO e with|some (g,h,x,y,z)=>g==("tuple" : Al)&&h==("zip" : Al)&&isB T g&&isB T h&&EG x&&EG y&&EG z&&Bo n T x a&&Bo n T y b&&Bo n T z c|none=>Ae)|_=>Ae)
    |.dnew=>Ae
    |.fld _ _=>Ae
noncomputable def JI:Ag->Tc->Ar->E->Ap
  |0,_,_,_=>Ae
  |n+1,T,e,c=>match e with
    |.UnaryOp .Not x _=>(match c with | .no a=>JI n T x a|_=>Ae)
    |.BoolOp .And xs _=>(match c with | .and es=>chkBs n T xs es && !xs.isEmpty|_=>Ae)
    |.BoolOp .Or xs _=>(match c with | .or es=>chkBs n T xs es && !xs.isEmpty|_=>Ae)
    | .Compare x ops ys _=>(match c with
      |.cmp op a b=>(match ops,ys with | [op'],[y]=>decide (op'=op) && !behindInMarks op y&&Bo n T x a&&Bo n T y b|_,_=>Ae)
      |.cmp2 op1 op2 a b c=>(match ops,ys with | [o1,o2],[y,z]=>decide (o1=op1)&&decide (o2=op2) && !lastMarks [op1,op2] [y,z]&&Bo n T x a&&Bo n T y b&&Bo n T z c|_,_=>Ae)
      | _=>Ae)
    |e=>O4 e&&Bo n T e c
noncomputable def chkBs:Ag->Tc->Ac Ar->Es->Ap
  |0,_,_,_=>Ae
  |n+1,T,xs,es=>match xs,es with
    |[],.nil=>Aa
    |x::xs,.cons e es=>JI n T x e&&chkBs n T xs es
    |_,_=>Ae
noncomputable def chkEs:Ag->Tc->Ac Ar->Es->Ap
  |0,_,_,_=>Ae
  |n+1,T,xs,es=>match xs,es with
    |[],.nil=>Aa
    |x::xs,.cons e es=>EG x&&Bo n T x e&&chkEs n T xs es
    |_,_=>Ae
noncomputable def chkO:Ag->Tc->Au Ar->E->Ap
  |0,_,_,_=>Ae
  |n+1,T,x,e=>match x with
    |none=>(match e with | .non=>Aa|_=>Ae)
    |some x=>(match e with | .non=>Ae|e=>Bo n T x e)
noncomputable def chkT:Ag->Tc->Ac Ar->E->Ap
  |0,_,_,_=>Ae
  |n+1,T,xs,e=>match xs with
    |[]=>(match e with | .bl Aa=>Aa|_=>Ae)
    |[x]=>JI n T x e
    |_=>Ae
noncomputable def chkI:Ag->Tc->Ap->Ar->I->Ap
  |0,_,_,_,_=>Ae
  |n+1,T,tu,e,i=>match i with
    |.e a=>Bo n T e a
    |.rng a=>(match e with | .Call (.Name g _) [x] [] _=>g==("range" : Al)&&isB T g&&EG x&&Bo n T x a|_=>Ae)
    |.enm a=>(match e with | .Call (.Name g _) [x] [] _=>tu&&g==("enumerate" : Al)&&isB T g&&EG x&&Bo n T x a|_=>Ae)
    |.zip a b=>(match e with | .Call (.Name g _) [x,y] [] _=>tu&&g==("zip" : Al)&&isB T g&&EG x&&EG y&&Bo n T x a&&Bo n T y b|_=>Ae)
    |.rng2 a b=>(match e with | .Call (.Name g _) [x,y] [] _=>g==("range" : Al)&&isB T g&&EG x&&EG y&&Bo n T x a&&Bo n T y b|_=>Ae)
    |.zip3 a b c=>Ae
end
noncomputable def VZ(_:Ag)(_:Tc)(_:Ag)(_:Ac Ca)(_:Ss):Ap:=Ae
mutual
noncomputable def DJ:Ag->Tc->Ca->S->Ap
  |0,_,_,_=>Ae
  |n+1,T,st,s=>match s with
    |.pass=>Ae
    |.brk=>Ae
    |.cont=>Ae
    |.asg i _ e=>(match st with | .Assign [.Name x _] v _=>T.N[i]? == Ab x&&Ll T x&&Bo n T v e|_=>Ae)
    |.asgT ts e=>(match st with | .Assign [.Tuple ys _ _] v _=>(Fx ys).isSome&&tgC T ts (tgN ys)&&(VL v||Ey 4 ys.length)&&Bo n T v e|_=>Ae)
    |.expr e=>(match st with | .Expr v _=>KY v&&Bo n T v e|_=>Ae)
    |.ret e=>(match st with | .Return (Ab v) _=>Bo n T v e|_=>Ae)
    |.retN=>Ae
    |.ife c a b=>(match st with | .If t xs ys _=>JI n T t c&&chkSs n T xs a&&chkSs n T ys b|_=>Ae)
    |.fors t it body=>(match st with | .For (.Name x _) iter xs [] _=>tgC T [t] [x]&&Mp iter&&chkI n T Ae iter it&&chkSs n T xs body|_=>Ae)
    |.forT ts it body=>(match st with | .For (.Tuple ys _ _) iter xs [] _=>(Fx ys).isSome&&tgC T ts (tgN ys)&&Mp iter&&chkI n T Aa iter it&&chkSs n T xs body|_=>Ae)
    |.whl c body=>Ae
    |.rais c as=>!(T.rzs.any fun p=>p.2==c)
    |.tryx _ _ _ _=>Ae
    |.app i e=>(match st with | .Expr (.Call (.Attribute (.Name x _) m ap) [v] [] cp) _=>m==("append" : Al)&&isV T x i&&ap.endLine==cp.line&&EG v&&Bo n T v e|_=>Ae)
    |.ext i e=>(match st with | .Expr (.Call (.Attribute (.Name x _) m ap) [v] [] cp) _=>m==("extend" : Al)&&isV T x i&&ap.endLine==cp.line&&EG v&&(QZ e&&Bo n T v e||(match NG e with|some a=>Bo n T v a|none=>Ae))|_=>Ae)
    |.rev i=>Ae
    |.clr i=>Ae
    |.put i k e=>(match st with | .Assign [.Subscript (.Name x _) y _] v _=>isV T x i&&PC y&&Bo n T y k&&Bo n T v e|_=>Ae)
    |.swp i k l=>(match QT st with|some (x,y,x',z,v)=>isV T x i&&isV T x' i&&isV T y k&&isV T z l&&Bo n T v (.tup (.cons (.idx (.var i) (.var l)) (.cons (.idx (.var i) (.var k)) .nil)))|none=>Ae)
    |.ins _ _ _=>Ae
    |.dput _ _ _=>Ae
    |.dsd _ _ _=>Ae
    |.rel _=>Ae
noncomputable def chkSs:Ag->Tc->Ac Ca->Ss->Ap
  |0,_,_,_=>Ae
  |n+1,T,sts,ss=>match ss with
    |.nil=>sts.isEmpty
    |.cons (.rel i) ss=>chkSs n T sts ss
    | .cons s ss=>(match sts with
      |st::r=>DJ n T st s&&chkSs n T r ss
      | []=>Ae)
end
noncomputable def Ih(fuel:Ag)(hot:Ap)(fns:Ac (Al×Ag×Ag))(bl:Ac Al)(rzs exs gls:Ac (Al×Ag))(ps N:Ac Al)(st:Ca)(df:Df):Ap:=
  let sc:=GV st
  sc.kind==.function && !sc.isCoroutine && !sc.isGenerator&&Mk N&&N.take ps.length==ps&&ps.all (fun x=>sc.names.lookup x==Ab .local||sc.names.lookup x==Ab .cell)&&sc.names.all (fun y=>y.2 != .free)&&N.length==df.n &&
  (match hot with
  |true=>VZ fuel ⟨sc,N,fns,bl,rzs,exs,gls⟩ 0 (IA st) df.body
  | false=>chkSs fuel ⟨sc,N,fns,bl,rzs,exs,gls⟩ (IA st) df.body)
structure XT (up:Ag->Ac Ag) (xn:Ag->Ac D->R Ex) (CL:ClA) (rzs exs:Ac (Al×Ag)) (K:Fg) (mg:Al->Au Ai):Prop where
 xc:∀ c C,CL c=Ab C->XcOk K C
 rz:∀ p∈rzs,∃ C,CL p.2=Ab C/\mg p.1=Ab (.ref C)
 ex:∀ p∈exs,∃ C,mg p.1=Ab (.ref C)/\tK K CL up p.2 C/\∀ c D,CL c=Ab D->Yc K (.ref D) (.ref C)=Ab ((up c).contains p.2)
 made:∀ c ds,xn c ds=.bad\/xn c ds=.ok ⟨c,[]⟩
 xb:∀ c,(∀ p∈rzs,p.2≠c)->∀ ds,xn c ds=.bad
def Q5(K:Fg)(mg:Al->Au Ai)(CL:ClA)(x:Al)(d:D):Prop:=∃ u v,mg x=Ab u/\BZ v u/\∀ H A,Rep K CL H A v d
structure VX (Γ:Gam) (CL:ClA) (k:Ag) (W:XW) (T:Tc) (X:Cx):Prop where
 sc:X.env.scope=T.sc
 kd:T.sc.kind=.function
 N:X.N=T.N
 nd:T.N.Nodup
 calm:X.calm=Aa
 room:Room k X.A
 bl:∀ x,x∈T.bl->X.mg x=Af
 fn:∀ p∈T.fns,∃ f fd ps,X.mg p.1=Ab (.ref f)/\DT X.K (.ref f)=Aa/\IF X.K fd ps []/\ps.length=p.2.2%1000/\(p.2.2<1000->FnOk X.prog X.w X.K X.mg X.base (CXR X.prog X.w) k f fd ps (spD X.K CL (p.2.2%1000) (Γ.fr p.2.1) (Γ.F p.2.1)))/\(1000<=p.2.2->HotOk X.prog X.w X.K X.mg X.base k f fd ps (spH X.K CL (p.2.2%1000) (Γ.fr p.2.1) (Γ.F p.2.1)))
 own:Gn (model X.prog X.w) X.A X.env X.xe
 px:∀ A,K3 (CXR X.prog X.w) X (EKW X.K CL A W)
 rz:Q3 X CL W
 xt:XT Γ.up Γ.xn CL T.rzs T.exs X.K X.mg
 gl:∀ p∈T.gls,Q5 X.K X.mg CL p.1 (Γ.G p.2)
theorem UY:∀ A,K3 (CXR X.prog X.w) X (EKW X.K CL A W0):=fun A pI σ H s ev s' I h=>by
 obtain⟨e,T,cls,H',_,_,_,_,_,_,_,_,_,_,x,_,w⟩:=h;exact w.elim
theorem Rn:Q3 X CL W0:=fun _ _ _ _ _ _ _ _ _ _ _ _ _ z=>z.elim
def Rf{α:Type}(g f:Rho->R α):Prop:=∀ ρ,g ρ=.bad\/g ρ=f ρ
section
variable{X:Cx}{CL:ClA}{W:XW}{a:Ar}{f g:Rho->R D}
theorem SE.ref(h:SE X CL W a f)(r:Rf g f):SE X CL W a g:=fun A=>PE.weak (h A) fun σ H Q ⟨hA,ρ,q,p⟩=>⟨hA,ρ,q,by
 rcases r ρ with e|e
 ·rw[e]at p;exact p.elim
 ·rw[e]at p;exact p⟩
theorem SB.ref{f g:Rho->R Ap}(h:SB X CL W a f)(r:Rf g f):SB X CL W a g:=fun A=>PT.weak (h A) fun σ H Q ⟨hA,ρ,q,p⟩=>⟨hA,ρ,q,by
 rcases r ρ with e|e
 ·rw[e]at p;exact p.elim
 ·rw[e]at p;exact p⟩
theorem SW.ref{f g:Rho->R Ap}(h:SW X CL W a f)(r:Rf g f):SW X CL W a g:=fun A=>PW.weak (h A) fun σ H Q ⟨hA,ρ,q,p⟩=>⟨hA,ρ,q,by
 rcases r ρ with e|e
 ·rw[e]at p;exact p.elim
 ·rw[e]at p;exact p⟩
theorem SC.ref(h:SC X CL W fr a f)(r:Rf g f):SC X CL W fr a g:=fun A=>PE.weak (h A) fun σ H Q ⟨hA,ρ,q,p⟩=>⟨hA,ρ,q,by
 rcases r ρ with e|e
 ·rw[e]at p;exact p.elim
 ·rw[e]at p;exact p⟩
theorem SS.ref{st:Ca}{f g:Rho->O}(h:SS X CL W st f)(r:∀ ρ,g ρ=.bad\/g ρ=f ρ):SS X CL W st g:=fun Fz B=>PS.weak (h Fz B) fun D σ H ⟨ρ,x,p⟩=>⟨ρ,x,by
 rcases r ρ with e|e
 ·rw[e]at p;exact p.elim
 ·rw[e]at p;exact p⟩
end
theorem MV:∀{l:Ac Al},Mk l=Aa->l.Nodup
 |[],_=>W2
 |x::xs,h=>by
  unfold Mk at h;simp only[Am,BJ,WK,Cw]at h;exact List.nodup_cons.mpr ⟨h.1,MV h.2⟩
section
variable{T:Tc}{X:Cx}{Γ:Gam}{CL:ClA}{k:Ag}{W:XW}
theorem fV(h:QR T x=Aa):Vis T.sc x:=by
 unfold QR at h;split at h
 ·exact .inl (by assumption)
 ·exact .inr (.inl (by assumption))
 ·exact .inr (.inr (by assumption))
 ·cases h
theorem Pl(h:Ll T x=Aa):Loc T.sc x:=by
 unfold Ll at h;split at h
 ·exact .inl (by assumption)
 ·exact .inr (by assumption)
 ·cases h
theorem PD(h:Mv x=Aa):(x==("__debug__" : Al))=Ae/\(x==("__classdict__" : Al))=Ae/\x≠"__name__" := by
 unfold Mv at h;simp only[Am,BJ]at h;exact⟨h.1.1,h.1.2,fun e=>by subst e;exact absurd h.2 (by simp)⟩
theorem HW{i:Ag}(v:VX Γ CL k W T X)(h:isV T x i=Aa):PE X (.Name x pos) (G8 i):=by
 unfold isV at h;simp only[Am,BN]at h;obtain⟨h2,h3,_⟩:=PD h.2;exact qT (by rw[v.N];exact h.1.1) (by rw[v.sc];exact fV h.1.2) h2 h3
theorem GZ(v:VX Γ CL k W T X)(h:isB T x=Aa):Gl X x/\X.mg x=Af/\x≠"__name__"/\(x==("__debug__" : Al))=Ae:=by
 unfold isB glB at h;simp only[Am,BN,WK,AI]at h;obtain⟨h2,h3,h4⟩:=PD h.2;exact⟨by show X.env.scope.names.lookup x=_;rw[v.sc];exact h.1.2,v.bl x h.1.1,h4,h2⟩
theorem CY{x:Ar}(h:EG x=Aa):AG (x::xs) env=(Ae,eval x env)::AG xs env:=by
 cases x<;>first|rfl|cases h
theorem dH(h:PC y=Aa):PV y:=by
 intro o i;cases y<;>first|rfl|cases h
theorem Nj{e:Ar}(h:Mp e=Aa):∀ x,Dr e env x=pure x:=by
 intro x;cases e<;>first|rfl|cases h
theorem UJ{e:Ar}{t:Au Ar}(h:KY e=Aa):D6 e t l env=pure Ae:=by
 cases e<;>first|rfl|cases h
theorem eK{e:Ar}(h:O4 e=Aa):∀ whole,IN e env whole=(do let v <-whole;HA e.pos;holding [v] (truthy v)):=by
 intro whole;cases e<;>first|rfl|cases h
theorem Z4(v:VX Γ CL k W T X)(scope:CP):relabel scope X.env=Qv T.sc scope:=by
 unfold relabel Qv;have:∀ n,X.env.kindOf n=T.sc.names.lookup n:=fun n=>by show X.env.scope.names.lookup n=_;rw[v.sc]
 simp only[this,v.sc]
theorem Qp{N':Ac Al}(v:VX Γ CL k W T X)(h:Mz T scope ts N'=Aa):BlockOk X scope N' ts/\N'.Nodup/\scope.kind=.function:=by
 unfold Mz at h;simp only[Am,BN,Dd,Ds,KA,ne_eq]at h;obtain⟨⟨⟨⟨⟨h1,h2⟩,h4⟩,h5⟩,h6⟩,h7⟩:=h;have at7:∀ i x,N'[i]?=Ab x->i∈ts\/((scope.names.lookup x≠Ab .local/\scope.names.lookup x≠Ab .cell)/\(scope.names.lookup x≠Ab .free\/T.N[i]?=Ab x)):=fun i x e=>by
  have hi:=(A6.mp e).1;have:=h7 i (DQ.mpr hi);rcases this with z|z
  ·exact .inl (by simpa using z)
  ·rw[e]at z;simp only[Am,KA,ne_eq,Ds,BN]at z;exact .inr z
 refine⟨⟨h1,h2,fun y hy hl=>by rw[h2 y hy,hl],fun y hy hf=>?_,by rw[v.N];exact h5,fun i x e hf hn=>?_,fun i x e hl=>?_⟩,MV h6,h1⟩
 ·rw[v.sc];rcases h4 y hy with (z|z)|z
  ·exact absurd hf z
  ·exact .inl z
  ·exact .inr z
 ·rw[v.N];rcases at7 i x e with z|⟨_,z⟩
  ·exact absurd z hn
  ·exact z.resolve_left fun q=>q hf
 ·rcases at7 i x e with z|⟨z,_⟩
  ·exact z
  ·exact hl.elim (fun q=>absurd q z.1) (fun q=>absurd q z.2)
theorem VX.blk{xs:Ac Al}{cl:Ac (Al×Ak)}{C:Ak}{s:Aq}{fp:Ac Ak}(v:VX Γ CL k W T X)(h:Mz T scope ts (Lj ts xs T.N)=Aa):VX Γ CL k W0 (T.blk scope ts xs) (cxC X scope cl C (Lj ts xs T.N) s H fp):=by
 obtain⟨_,h2,h3⟩:=Qp v h;exact⟨Z4 v scope,h3,rfl,h2,v.calm,v.room,v.bl,v.fn,PassesOwn.never,UY,Rn,v.xt,v.gl⟩
theorem fZ{t:Ag}(v:VX Γ CL k W T X)(hfn:scope.names.lookup x=Ab .cell->X.fn x=Aa)(h:tgO T scope t x=Aa):PG X (.Name x pos) (FA t):=by
 unfold tgO at h;simp only[Am,Ds,BN]at h;rcases h with ⟨h1,h2|h2⟩
 ·exact Mb (by rw[v.N];exact v.nd) (by rw[v.N];exact h1) (by rw[v.sc];exact .inl h2) (.inr (by rw[v.sc];exact h2))
 ·exact Mb (by rw[v.N];exact v.nd) (by rw[v.N];exact h1) (by rw[v.sc];exact .inr h2.1) (.inl (hfn h2.2))
theorem Oj{r:Ac Ar}{zs:Ac Al}(h:Fx (y::r)=Ab zs):∃ x p ws,y=.Name x p/\Fx r=Ab ws/\zs=x::ws:=by
 cases y with
 |Name x p=>
  have h':(Fx r).map (x :: ·)=Ab zs:=h;cases e:Fx r with
  |none=>rw[e]at h';cases h'
  |some ws=>rw[e]at h';cases h';exact⟨x,p,ws,rfl,rfl,rfl⟩
 |_=>cases h
theorem OR(x:Al)(p:A8)(r:Ac Ar)(env:CA):CC (.Name x p::r) env=(Ae,assign (.Name x p) env)::CC r env:=rfl
theorem Oi:∀(ys:Ac Ar)(zs:Ac Al),Fx ys=Ab zs->(CC ys env).length=ys.length/\(CC ys env).findIdx? (·.1)=Af/\(CC ys env).map (·.2)=ys.map fun y=>assign y env:=by
 intro ys
 induction ys with
 |nil=>intro _ _;exact⟨rfl,rfl,rfl⟩
 |cons y r ih=>
  intro zs h;obtain⟨x,p,ws,rfl,e,rfl⟩:=Oj h;obtain⟨h1,h2,h3⟩:=ih ws e;rw[OR];refine⟨?_,?_,?_⟩
  ·rw[Cp,Cp,h1]
  ·rw[List.findIdx?_cons,h2];simp
  ·rw[Ch,Ch,h3]
theorem eJ(v:VX Γ CL k W T X):∀(ys:Ac Ar)(ts:Ac Ag)(zs:Ac Al),Fx ys=Ab zs->tgB T ts zs=Aa->PGs X ys (ts.foldr (fun t u=>H9 (FA t) u) Ie)/\ts.length=ys.length:=by
 intro ys
 induction ys with
 |nil=>
  intro ts zs e h;cases e;cases ts with
  |nil=>exact⟨Px,rfl⟩
  |cons t ts=>cases h
 |cons y r ih=>
  intro ts zs e h;obtain⟨x,p,ws,rfl,e2,rfl⟩:=Oj e;cases ts with
  |nil=>cases h
  |cons t ts=>
   have h':(T.N[t]? == Ab x&&T.sc.names.lookup x==Ab .local&&tgB T ts ws)=Aa:=h;simp only[Am,BN]at h';obtain⟨h1,h2⟩:=ih ts ws e2 h'.2;exact⟨M1 (Mb (by rw[v.N];exact v.nd) (by rw[v.N];exact h'.1.1) (by rw[v.sc];exact .inl h'.1.2) (.inr (by rw[v.sc];exact h'.1.2))) h1 (by rw[OR];rfl),congrArg (· + 1) h2⟩
theorem gD(v:VX Γ CL k W T X)(hn:(Fx ys).isSome=Aa)(h:tgB T ts (tgN ys)=Aa):PG X (.Tuple ys kk pos) (Lg X.K ts.length (ts.foldr (fun t u=>H9 (FA t) u) Ie)):=by
 cases e:Fx ys with
 |none=>rw[e]at hn;cases hn
 |some zs=>
  have e2:tgN ys=zs:=by unfold tgN;rw[e];rfl
  rw[e2]at h;obtain⟨h1,h2⟩:=eJ v ys ts zs e h;obtain⟨h3,h4,_⟩:=Oi (env:=X.env) ys zs e;exact Nn v.calm h1 (by rw[h3,h2]) h4
end
noncomputable def Es.len:Es->Ag
 |.nil=>0
 |.cons _ es=>es.len+1
theorem PF(Γ:Gam)(ρ:Rho):∀(es:Es)(ds:Ac D),evA Γ ρ es=.ok ds->ds.length=es.len
 |.nil,ds,h=>by cases h;rfl
 |.cons e es,ds,h=>by
  obtain⟨x,h1,h2⟩:=JZ (S9 Γ ρ e es ▸ h);obtain⟨xs,h3,h4⟩:=JZ h2;cases h4;exact congrArg (· + 1) (PF Γ ρ es xs h3)
theorem UD(Γ:Gam)(ρ:Rho):∀(es:Es)(ds:Ac D),evB Γ ρ es=.ok ds->ds.length=es.len
 |.nil,ds,h=>by cases h;rfl
 |.cons e es,ds,h=>by
  obtain⟨x,h1,h2⟩:=JZ (S8 Γ ρ e es ▸ h);obtain⟨xs,h3,h4⟩:=JZ h2;cases h4;exact congrArg (· + 1) (UD Γ ρ es xs h3)
theorem Vp(Γ:Gam)(ρ:Rho)(e:E)(h:shE ρ e=Aa):top ρ e (evE Γ ρ e)=evE Γ ρ e:=by
 cases e with
 |var i=>
  show Gf ρ i=Fo ρ i;have h':shV ρ i=Aa:=h;unfold shV at h';unfold Gf Fo;cases q:ρ[i]? with
  |none=>rfl
  |some x=>
   cases x with
   |none=>rfl
   |some y=>
    obtain⟨d,o⟩:=y;cases o with
    |true=>rw[q]at h';cases h'
    |false=>rfl
 |_=>rfl
theorem Ve(Γ:Gam)(ρ:Rho):∀(es:Es),JK ρ es=Aa->evB Γ ρ es=evA Γ ρ es
 |.nil,_=>rfl
 |.cons e es,h=>by
  simp only[aL,Am]at h;rw[S9,S8,Vp Γ ρ e h.1,Ve Γ ρ es h.2]
theorem P9(Γ:Gam)(c:E):Rf (fun ρ=>evE Γ ρ c) (fun ρ=>top ρ c (evE Γ ρ c)):=fun ρ=>by
 by_cases h:shE ρ c=Aa
 ·exact .inr (Vp Γ ρ c h).symm
 ·cases c with
  |var i=>
   refine .inl ?_;show Fo ρ i=.bad;have h':¬ shV ρ i=Aa:=h;unfold shV at h';unfold Fo;cases q:ρ[i]? with
   |none=>rfl
   |some x=>
    cases x with
    |none=>rfl
    |some y=>
     obtain⟨d,o⟩:=y;cases o with
     |true=>rfl
     |false=>rw[q]at h';exact absurd rfl h'
  |_=>exact absurd rfl h
def Pcs(X:Cx)(CL:ClA)(W:XW)(e:Ar)(f:Rho->R D):Prop:=∃ tg iter elt ifs scope pos N' ts fi fc fe as g,e=.ListComp elt [⟨tg,iter,ifs,0⟩] scope pos/\BlockOk X scope N' ts/\SI X CL W tg iter fi/\GG X.K CL ts as g /\
 (∀ cl C s H fp,PG (cxC X scope cl C N' s H fp) tg g)/\(∀ cl C s H fp,STs (cxC X scope cl C N' s H fp) CL ifs fc)/\(∀ cl C s H fp,SE (cxC X scope cl C N' s H fp) CL W0 elt fe)/\(∀ x,Dr iter X.env x=pure x) /\
 ∀ ρ,f ρ=(fi ρ).bind fun xs=>(noX (BP (fun x=>(as x ρ).bind fc) (fun x=>(as x ρ).bind fe) xs)).bind fun ys=>.ok (.lst ys)
theorem Pcs.sc{W:XW}{e:Ar}{f:Rho->R D}(hc:X.calm=Aa)(h:Pcs X CL W e f):SC X CL W Aa e f:=by
 obtain⟨tg,iter,elt,ifs,scope,pos,N',ts,fi,fc,fe,as,g,rfl,B,hi,hGG,hg,ht,he,hs,ef⟩:=h;exact SC.congr (fK hc B hi hGG hg ht he hs) ef
structure OkE (Γ:Gam) (CL:ClA) (W:XW) (X:Cx) (e:Ar) (c:E):Prop where
 se:SE X CL W e (fun ρ=>evE Γ ρ c)
 st:ST X CL W e (fun ρ=>top ρ c (evE Γ ρ c))
 nw:Fn Γ c=Aa->SC X CL W Aa e (fun ρ=>evE Γ ρ c)
 cp:KY e=Ae->Pcs X CL W e (fun ρ=>evE Γ ρ c)
section
variable{Γ:Gam}{CL:ClA}{W:XW}{X:Cx}{e:Ar}{c:E}
theorem EF(h:SE X CL W e (fun ρ=>evE Γ ρ c))(ht:∀ ρ r,top ρ c r=r)(hn:Fn Γ c=Ae)(hc:KY e=Aa):OkE Γ CL W X e c:=
 ⟨h,by simp only[ht];exact h.st,fun z=>absurd z (by rw[hn];decide),fun z=>absurd z (by rw[hc];decide)⟩
theorem Mf(h:SC X CL W Aa e (fun ρ=>evE Γ ρ c))(ht:∀ ρ r,top ρ c r=r)(hc:KY e=Aa):OkE Γ CL W X e c:=
 ⟨h.se,by simp only[ht];exact h.se.st,fun _=>h,fun z=>absurd z (by rw[hc];decide)⟩
theorem VJ(hc:X.calm=Aa)(h:Pcs X CL W e (fun ρ=>evE Γ ρ c))(ht:∀ ρ r,top ρ c r=r):OkE Γ CL W X e c:=
 ⟨(h.sc hc).se,by simp only[ht];exact(h.sc hc).se.st,fun _=>h.sc hc,fun _=>h⟩
end
theorem zA{k:Ki}(h:QF k=Ab x):∃ T,tyK k=Ab T/\Dh x=Ab (.type T):=by
 cases k<;>simp only[QF]at h<;>cases h
 ·exact⟨_,rfl,PyProof.Rows.boot_int⟩
 ·exact⟨_,rfl,PyProof.Rows.boot_bool⟩
 ·exact⟨_,rfl,PyProof.Rows.boot_str⟩
 ·exact⟨_,rfl,F5⟩
 ·exact⟨_,rfl,FW⟩
structure Snd (Γ:Gam) (CL:ClA) (k:Ag) (n:Ag):Prop where
 e:∀(W:XW)(T:Tc)(X:Cx)(x:Ar)(c:E),VX Γ CL k W T X->Bo n T x c=Aa->OkE Γ CL W X x c
 b:∀(W:XW)(T:Tc)(X:Cx)(x:Ar)(c:E),VX Γ CL k W T X->JI n T x c=Aa->SB X CL W x (fun ρ=>(top ρ c (evE Γ ρ c)).bind CO)
 bs:∀(W:XW)(T:Tc)(X:Cx)(xs:Ac Ar)(es:Es)(pos:A8),VX Γ CL k W T X->chkBs n T xs es=Aa->xs≠[]->SW X CL W (.BoolOp .And xs pos) (fun ρ=>(evN Γ ρ es).bind CO)/\SW X CL W (.BoolOp .Or xs pos) (fun ρ=>(evO Γ ρ es).bind CO)
 es:∀(W:XW)(T:Tc)(X:Cx)(xs:Ac Ar)(es:Es),VX Γ CL k W T X->chkEs n T xs es=Aa->SA X CL W xs (fun ρ=>evA Γ ρ es)/\SAT X CL W xs (fun ρ=>evB Γ ρ es)/\xs.length=es.len/\(∀ pos,xs≠[]->SE X CL W (.BoolOp .And xs pos) (fun ρ=>evN Γ ρ es)/\SE X CL W (.BoolOp .Or xs pos) (fun ρ=>evO Γ ρ es))/\(∀ pos,(CV pos (AG xs X.env)).any (·.1)=Ae)
 o:∀(W:XW)(T:Tc)(X:Cx)(x:Au Ar)(c:E),VX Γ CL k W T X->chkO n T x c=Aa->SO X CL W x (fun ρ=>(top ρ c (evE Γ ρ c)).bind (slE c))
 t:∀(T:Tc)(X:Cx)(xs:Ac Ar)(c:E),VX Γ CL k W0 T X->chkT n T xs c=Aa->STs X CL xs (fun ρ=>(top ρ c (evE Γ ρ c)).bind CO)
 i:∀(W:XW)(T:Tc)(X:Cx)(tu:Ap)(tg x:Ar)(i:I),VX Γ CL k W T X->Wm tu tg=Aa->chkI n T tu x i=Aa->SI X CL W tg x (fun ρ=>evI Γ ρ i)
section
variable{Γ:Gam}{CL:ClA}{W:XW}{k n:Ag}{T:Tc}{X:Cx}
theorem dG:Snd Γ CL k 0:=⟨fun _ _ _ _ _ _ h=>by simp[Bo]at h,fun _ _ _ _ _ _ h=>by simp[JI]at h,fun _ _ _ _ _ _ _ h=>by simp[chkBs]at h,fun _ _ _ _ _ _ h=>by simp[chkEs]at h,fun _ _ _ _ _ _ h=>by simp[chkO]at h,fun _ _ _ _ _ h=>by simp[chkT]at h,fun _ _ _ _ _ _ _ _ _ h=>by simp[chkI]at h⟩
theorem RM{x:Ar}(h:EG x=Aa)(hx:(CV pos (AG xs env)).any (·.1)=Ae):(CV pos (AG (x::xs) env)).any (·.1)=Ae:=by
 rw[CY h];show (Ae||(CV pos (AG xs env)).any (·.1))=Ae;rw[hx];rfl
theorem lV(S:Snd Γ CL k n)(W:XW)(T:Tc)(X:Cx)(xs:Ac Ar)(es:Es)(v:VX Γ CL k W T X)(h:chkEs (n+1) T xs es=Aa):SA X CL W xs (fun ρ=>evA Γ ρ es)/\SAT X CL W xs (fun ρ=>evB Γ ρ es)/\xs.length=es.len/\(∀ pos,xs≠[]->SE X CL W (.BoolOp .And xs pos) (fun ρ=>evN Γ ρ es)/\SE X CL W (.BoolOp .Or xs pos) (fun ρ=>evO Γ ρ es))/\(∀ pos,(CV pos (AG xs X.env)).any (·.1)=Ae):=by
 cases xs with
 |nil=>
  cases es with
  |nil=>exact⟨nR,fM,rfl,fun _ z=>absurd rfl z,fun _=>rfl⟩
  |cons=>simp[chkEs]at h
 |cons x xs=>
  cases es with
  |nil=>simp[chkEs]at h
  |cons e es=>
   simp only[chkEs,Am]at h;obtain⟨⟨h0,h1⟩,h2⟩:=h;have he:=S.e W T X x e v h1;obtain⟨a1,a2,a3,a4,a5⟩:=S.es W T X xs es v h2;refine⟨dZ he.se a1 (CY h0),dL he.st a2 (CY h0),congrArg (· + 1) a3,fun pos _=>?_,fun pos=>RM h0 (a5 pos)⟩
   cases xs with
   |nil=>
    cases es with
    |nil=>exact⟨Vu he.se,Vu he.se⟩
    |cons=>cases a3
   |cons y ys=>
    cases es with
    |nil=>cases a3
    |cons e' es'=>
     obtain⟨b1,b2⟩:=a4 pos (by simp)
     exact⟨nL he.se b1,tZ he.se b2⟩
theorem uS(S:Snd Γ CL k n)(W:XW)(T:Tc)(X:Cx)(x:Au Ar)(c:E)(v:VX Γ CL k W T X)(h:chkO (n+1) T x c=Aa):SO X CL W x (fun ρ=>(top ρ c (evE Γ ρ c)).bind (slE c)):=by
 cases x with
 |none=>
  simp only[chkO]at h;split at h
  ·exact fF
  ·cases h
 |some x=>
  simp only[chkO]at h;split at h
  ·cases h
  ·rename_i hne;have q:=fD (S.e W T X x c v h).st;have e:slE c=fun d=>(Fe d).bind fun i=>.ok (Ab i):=by
    funext d
    cases c<;>first|rfl|exact absurd rfl hne
   rw[e];exact q
theorem uQ(S:Snd Γ CL k n)(T:Tc)(X:Cx)(xs:Ac Ar)(c:E)(v:VX Γ CL k W0 T X)(h:chkT (n+1) T xs c=Aa):STs X CL xs (fun ρ=>(top ρ c (evE Γ ρ c)).bind CO):=by
 cases xs with
 |nil=>
  simp only[chkT]at h;split at h
  ·exact eS
  ·cases h
 |cons x xs=>
  cases xs with
  |nil=>
   simp only[chkT]at h;exact eR (S.b W0 T X x c v h)
  |cons y ys=>simp[chkT]at h
theorem uT(S:Snd Γ CL k n)(W:XW)(T:Tc)(X:Cx)(tu:Ap)(tg x:Ar)(i:I)(v:VX Γ CL k W T X)(ht':Wm tu tg=Aa)(h:chkI (n+1) T tu x i=Aa):SI X CL W tg x (fun ρ=>evI Γ ρ i):=by
 have ht:tu=Aa->yD tg=Aa:=fun z=>by
  subst z;cases tg<;>first|rfl|cases ht'
 cases i with
 |e a=>
  simp only[chkI]at h;exact Y9 (S.e W T X x a v h).se
 |rng a=>
  simp only[chkI]at h;split at h
  ·simp only[Am,BN]at h;obtain⟨⟨⟨rfl,h1⟩,h2⟩,h3⟩:=h;obtain⟨g1,g2,_,_⟩:=GZ v h1;exact oZ (S.e W T X _ a v h3).st g1 g2 (CY h2)
  ·cases h
 |rng2 a b=>
  simp only[chkI]at h;split at h
  ·simp only[Am,BN]at h;obtain⟨⟨⟨⟨⟨rfl,h1⟩,h2⟩,h3⟩,h4⟩,h5⟩:=h;obtain⟨g1,g2,_,_⟩:=GZ v h1;exact fH (S.e W T X _ a v h4).st (S.e W T X _ b v h5).st g1 g2 (by rw[CY h2,CY h3];rfl) (by rw[CY h3];rfl)
  ·cases h
 |zip a b=>
  simp only[chkI]at h;split at h
  ·simp only[Am,BN]at h;obtain⟨⟨⟨⟨⟨⟨h0,rfl⟩,h1⟩,h2⟩,h3⟩,h4⟩,h5⟩:=h;obtain⟨g1,g2,_,_⟩:=GZ v h1;have hg:=ht h0;cases tg with
   |Tuple es m tpos=>exact oY (S.e W T X _ a v h4).se (S.e W T X _ b v h5).se g1 g2 (by rw[CY h2,CY h3];rfl) (by rw[CY h3];rfl)
   |_=>cases hg
  ·cases h
 |zip3 a b c=>simp[chkI]at h
 |enm a=>
  simp only[chkI]at h;split at h
  ·simp only[Am,BN]at h;obtain⟨⟨⟨⟨h0,rfl⟩,h1⟩,h2⟩,h3⟩:=h;obtain⟨g1,g2,_,_⟩:=GZ v h1;have hg:=ht h0;cases tg with
   |Tuple es m tpos=>exact fI (S.e W T X _ a v h3).se g1 g2 (CY h2)
   |_=>cases hg
  ·cases h
theorem KI{c:Prop}[Gj c]{b:Ap}:(if c then R.ok (D.bl b) else .bad)=.bad\/∃ b',(if c then R.ok (D.bl b) else .bad)=.ok (.bl b'):=by
 by_cases h:c
 ·rw[AD h];exact .inr ⟨_,rfl⟩
 ·rw[AH h];exact .inl rfl
theorem bN(op:FH)(d d':D):Cr op d d'=.bad\/∃ b,Cr op d d'=.ok (.bl b):=by
 cases op with
 |Eq=>exact KI
 |NotEq=>exact KI
 |In=>
  cases d' with
  |lst ys=>exact KI
  |tup ys=>exact KI
  |dic kvs=>
   show (match Le d with|some k=>R.ok (D.bl (kvs.any fun p=>p.1==k))|none=>.bad)=.bad\/∃ b,(match Le d with|some k=>R.ok (D.bl (kvs.any fun p=>p.1==k))|none=>.bad)=.ok (.bl b)
   cases Le d with
   |some k=>exact .inr ⟨_,rfl⟩
   |none=>exact .inl rfl
  |_=>cases d<;>exact .inl rfl
 |NotIn=>
  cases d' with
  |lst ys=>exact KI
  |tup ys=>exact KI
  |_=>cases d<;>exact .inl rfl
 |Is=>
  cases d' with
  |non=>cases d<;>first|exact .inr ⟨_,rfl⟩|exact .inl rfl
  |_=>cases d<;>first|exact .inl rfl|exact .inr ⟨_,rfl⟩
 |IsNot=>
  cases d' with
  |non=>cases d<;>first|exact .inr ⟨_,rfl⟩|exact .inl rfl
  |_=>cases d<;>first|exact .inl rfl|exact .inr ⟨_,rfl⟩
 |_=>
  cases d with
  |int i=>cases d'<;>first|exact .inr ⟨_,rfl⟩|exact .inl rfl
  |_=>exact .inl rfl
theorem UN(op:FH)(d d':D):(Cr op d d').bind CO=.bad\/(Cr op d d').bind CO=(Cr op d d').bind Ef:=by
 rcases bN op d d' with h|⟨b,h⟩
 ·rw[h];exact .inl rfl
 ·rw[h];exact .inr rfl
theorem rM(e e':E)(es:Es):Rf (fun ρ=>(evN Γ ρ (.cons e (.cons e' es))).bind CO) (fun ρ=>((top ρ e (evE Γ ρ e)).bind CO).bind fun c=>if c=Aa then (evN Γ ρ (.cons e' es)).bind CO else .ok Ae):=fun ρ=>by
 have e0:evN Γ ρ (.cons e (.cons e' es))=(evE Γ ρ e).bind fun x=>(Ef x).bind fun c=>if c=Aa then evN Γ ρ (.cons e' es) else .ok (.bl Ae):=rfl
 dsimp only;rw[e0];rcases P9 Γ e ρ with z|z<;>dsimp only at z
 ·rw[z];exact .inl rfl
 ·rw[<-z];cases evE Γ ρ e with
  |bad=>exact .inl rfl
  |exn x=>exact .inr rfl
  |ok d=>
   cases d with
   |bl b=>cases b<;>exact .inr rfl
   |_=>exact .inl rfl
theorem rL(e e':E)(es:Es):Rf (fun ρ=>(evO Γ ρ (.cons e (.cons e' es))).bind CO) (fun ρ=>((top ρ e (evE Γ ρ e)).bind CO).bind fun c=>if c=Aa then .ok Aa else (evO Γ ρ (.cons e' es)).bind CO):=fun ρ=>by
 have e0:evO Γ ρ (.cons e (.cons e' es))=(evE Γ ρ e).bind fun x=>(Ef x).bind fun c=>if c=Aa then .ok (.bl Aa) else evO Γ ρ (.cons e' es):=rfl
 dsimp only;rw[e0];rcases P9 Γ e ρ with z|z<;>dsimp only at z
 ·rw[z];exact .inl rfl
 ·rw[<-z];cases evE Γ ρ e with
  |bad=>exact .inl rfl
  |exn x=>exact .inr rfl
  |ok d=>
   cases d with
   |bl b=>cases b<;>exact .inr rfl
   |_=>exact .inl rfl
theorem Rf.tru(e:E):Rf (fun ρ=>(evE Γ ρ e).bind CO) (fun ρ=>(top ρ e (evE Γ ρ e)).bind CO):=fun ρ=>by
 rcases P9 Γ e ρ with z|z<;>dsimp only at z ⊢
 ·rw[z];exact .inl rfl
 ·rw[<-z];exact .inr rfl
theorem lW(S:Snd Γ CL k n)(W:XW)(T:Tc)(X:Cx)(xs:Ac Ar)(es:Es)(pos:A8)(v:VX Γ CL k W T X)(h:chkBs (n+1) T xs es=Aa)(hne:xs≠[]):SW X CL W (.BoolOp .And xs pos) (fun ρ=>(evN Γ ρ es).bind CO)/\SW X CL W (.BoolOp .Or xs pos) (fun ρ=>(evO Γ ρ es).bind CO):=by
 cases xs with
 |nil=>exact absurd rfl hne
 |cons x xs=>
  cases es with
  |nil=>simp[chkBs]at h
  |cons e es=>
   simp only[chkBs,Am]at h;obtain⟨h1,h2⟩:=h;have he:=S.b W T X x e v h1;cases xs with
   |nil=>
    cases es with
    |nil=>exact⟨SW.ref (eQ he) (Rf.tru e),SW.ref (lQ he) (Rf.tru e)⟩
    |cons=>
     cases n with
     |zero=>simp[chkBs]at h2
     |succ n=>simp[chkBs]at h2
   |cons y ys=>
    cases es with
    |nil=>
     cases n with
     |zero=>simp[chkBs]at h2
     |succ n=>simp[chkBs]at h2
    |cons e' es'=>
     obtain⟨b1,b2⟩:=S.bs W T X (y::ys) (.cons e' es') pos v h2 (by simp)
     exact⟨SW.ref (lR he b1) (rM e e' es'),SW.ref (uP he b2) (rL e e' es')⟩
theorem uV(S:Snd Γ CL k n)(W:XW)(T:Tc)(X:Cx)(x:Ar)(c:E)(v:VX Γ CL k W T X)(h:JI (n+1) T x c=Aa):SB X CL W x (fun ρ=>(top ρ c (evE Γ ρ c)).bind CO):=by
 have plain:∀ e,O4 e=Aa->Bo n T e c=Aa->SB X CL W e (fun ρ=>(top ρ c (evE Γ ρ c)).bind CO):=fun e h1 h2=>nM (S.e W T X e c v h2).st (eK h1)
 simp only[JI]at h;split at h
 ·split at h
  ·rename_i a;refine SB.ref (nN (S.b W T X _ a v h)) fun ρ=>?_
   show ((top ρ a (evE Γ ρ a)).bind fun x=>(Ef x).bind fun b=>.ok (.bl (!b))).bind CO=.bad\/((top ρ a (evE Γ ρ a)).bind fun x=>(Ef x).bind fun b=>.ok (.bl (!b))).bind CO=_
   cases top ρ a (evE Γ ρ a) with
   |bad=>exact .inl rfl
   |exn x=>exact .inr rfl
   |ok d=>cases d<;>first|exact .inr rfl|exact .inl rfl
  ·cases h
 ·split at h
  ·simp only[Am,BJ,Ep]at h;exact(S.bs W T X _ _ _ v h.1 h.2).1.sb
  ·cases h
 ·split at h
  ·simp only[Am,BJ,Ep]at h;exact(S.bs W T X _ _ _ v h.1 h.2).2.sb
  ·cases h
 ·split at h
  ·split at h
   ·rename_i op a b _ _ op' y;simp only[Am,BJ,AI]at h;obtain⟨⟨⟨rfl,h1⟩,h2⟩,h3⟩:=h;refine SB.ref (nO (KP v.room.units _) (S.e W T X _ a v h2).st (S.e W T X _ b v h3).st h1) fun ρ=>?_
    show ((top ρ a (evE Γ ρ a)).bind fun x=>(top ρ b (evE Γ ρ b)).bind fun y=>Cr op' x y).bind CO=.bad\/((top ρ a (evE Γ ρ a)).bind fun x=>(top ρ b (evE Γ ρ b)).bind fun y=>Cr op' x y).bind CO=_
    cases top ρ a (evE Γ ρ a) with
    |bad=>exact .inl rfl
    |exn x=>exact .inr rfl
    |ok d=>
     cases top ρ b (evE Γ ρ b) with
     |bad=>exact .inl rfl
     |exn x=>exact .inr rfl
     |ok d'=>
      dsimp only[R.bind];exact UN _ d d'
   ·cases h
  ·split at h
   ·rename_i op1 op2 a b c _ _ o1 o2 y z;simp only[Am,BJ,AI]at h;obtain⟨⟨⟨⟨⟨rfl,rfl⟩,h1⟩,h2⟩,h3⟩,h4⟩:=h;refine SB.ref (dJ v.room.units (S.e W T X _ a v h2).st (S.e W T X _ b v h3).st (S.e W T X _ c v h4).st h1) fun ρ=>?_
    show ((top ρ a (evE Γ ρ a)).bind fun x=>(top ρ b (evE Γ ρ b)).bind fun y=>(Cr o1 x y).bind fun z=>(Ef z).bind fun k=>if k=Aa then (top ρ c (evE Γ ρ c)).bind fun u=>Cr o2 y u else .ok (.bl Ae)).bind CO=.bad\/((top ρ a (evE Γ ρ a)).bind fun x=>(top ρ b (evE Γ ρ b)).bind fun y=>(Cr o1 x y).bind fun z=>(Ef z).bind fun k=>if k=Aa then (top ρ c (evE Γ ρ c)).bind fun u=>Cr o2 y u else .ok (.bl Ae)).bind CO=_
    cases top ρ a (evE Γ ρ a) with
    |bad=>exact .inl rfl
    |exn x=>exact .inr rfl
    |ok d=>
     cases top ρ b (evE Γ ρ b) with
     |bad=>exact .inl rfl
     |exn x=>exact .inr rfl
     |ok d'=>
      dsimp only[R.bind];cases Cr o1 d d' with
      |bad=>exact .inl rfl
      |exn x=>exact .inr rfl
      |ok d3=>
       cases d3 with
       |bl k=>
        cases k with
        |false=>exact .inr rfl
        |true=>
         dsimp only[R.bind,Ef];rw[AD rfl,AD rfl];cases top ρ c (evE Γ ρ c) with
         |bad=>exact .inl rfl
         |exn x=>exact .inr rfl
         |ok d4=>exact UN _ d' d4
       |_=>exact .inl rfl
   ·cases h
  ·cases h
 ·simp only[Am]at h;exact plain _ h.1 h.2
end
section
variable{Γ:Gam}{CL:ClA}{W:XW}{k n:Ag}{T:Tc}{X:Cx}
theorem yE{b:BI}{x:Ar}(v:VX Γ CL k W T X)(hb:QG b=Ab g)(hg:isB T g=Aa)(hs:SAT X CL W (x::xs) (fun ρ=>evB Γ ρ as))(h0:EG x=Aa)(hpl:∀ pos,(CV pos (AG xs X.env)).any (·.1)=Ae):OkE Γ CL W X (.Call (.Name g p) (x::xs) [] pos) (.bi b as):=by
 obtain⟨g1,g2,g3,g4⟩:=GZ v hg;cases b<;>simp only[QG]at hb<;>cases hb
 ·exact EF (J7 sJ g1 g2 PySem.boot_len hs g3 g4 (CY h0) hpl) (fun _ _=>rfl) rfl rfl
 ·exact EF (J7 (sI v.calm) g1 g2 Xi hs g3 g4 (CY h0) hpl) (fun _ _=>rfl) rfl rfl
 ·exact Mf (oU jY g1 g2 F5 hs g3 g4 (CY h0) hpl) (fun _ _=>rfl) rfl
 ·exact EF (nK dN g1 g2 FW hs g3 g4 (CY h0) hpl) (fun _ _=>rfl) rfl rfl
 ·exact EF (J7 (sL v.calm) g1 g2 PyProof.Rows.boot_all hs g3 g4 (CY h0) hpl) (fun _ _=>rfl) rfl rfl
 ·exact EF (J7 (sK v.calm) g1 g2 PyProof.Rows.boot_any hs g3 g4 (CY h0) hpl) (fun _ _=>rfl) rfl rfl
 ·exact EF (J7 (sH v.calm) g1 g2 PyProof.Rows.boot_sum hs g3 g4 (CY h0) hpl) (fun _ _=>rfl) rfl rfl
 ·exact Mf (oV bE g1 g2 PyProof.Rows.boot_sorted hs g3 g4 (CY h0) hpl) (fun _ _=>rfl) rfl
 ·exact EF (J7 (V0 v.calm v.room.units Ae) g1 g2 Xi hs g3 g4 (CY h0) hpl) (fun _ _=>rfl) rfl rfl
 ·exact EF (J7 (V0 v.calm v.room.units Aa) g1 g2 PyProof.Rows.boot_max hs g3 g4 (CY h0) hpl) (fun _ _=>rfl) rfl rfl
theorem OE{x:Ar}{es:Es}(h:chkEs n T (x::xs) es=Aa):EG x=Aa/\∃ e es',es=.cons e es'/\∃ m,n=m+1/\chkEs m T xs es'=Aa:=by
 cases n with
 |zero=>simp[chkEs]at h
 |succ m=>
  cases es with
  |nil=>simp[chkEs]at h
  |cons e es=>
   simp only[chkEs,Am]at h;exact⟨h.1.1,e,es,rfl,m,rfl,h.2⟩
theorem Si:∀(m:Ag)(xs:Ac Ar)(es:Es),chkEs m T xs es=Aa->∀ pos,(CV pos (AG xs X.env)).any (·.1)=Ae:=by
 intro m
 induction m with
 |zero=>intro xs es h;simp[chkEs]at h
 |succ m ih=>
  intro xs es h pos;cases xs with
  |nil=>rfl
  |cons x xs=>
   obtain⟨h0,e,es',rfl,m',e1,h1⟩:=OE h;cases e1;exact RM h0 (ih xs es' h1 pos)
theorem rT{x:Ar}{b:BI}(v:VX Γ CL k W T X)(h:Rl T x b as=Aa):OkE Γ CL W X x (.bi b as):=by
 exact absurd h Dc
theorem lT(S:Snd Γ CL k n){x:Ar}{b:BI}(v:VX Γ CL k W T X)(h:(match QN as with|some (a,k)=>(match Wn x with|some (y,j)=>decide (b=.stp)&&decide (j=k)&&decide (0<=k)&&Bo n T y a|none=>Ae)|none=>Ae)=Aa):OkE Γ CL W X x (.bi b as):=by
 simp[QN]at h
theorem qD(S:Snd Γ CL k n){x:Ar}{b:BI}(v:VX Γ CL k W T X)(h:(match Mt as with|some (a,c)=>(match Mx x with|some (g,h,y,z)=>decide (b=.list)&&g==("list" : Al)&&h==("range" : Al)&&isB T g&&isB T h&&EG y&&EG z&&Bo n T y a&&Bo n T z c|none=>Ae)|none=>Ae)=Aa):OkE Γ CL W X x (.bi b as):=by
 cases q1:Mt as with
 |none=>rw[q1]at h;cases h
 |some t1=>
  obtain⟨a,c⟩:=t1;cases q2:Mx x with
  |none=>rw[q1,q2]at h;cases h
  |some t2=>
   obtain⟨g,f,y,z⟩:=t2;rw[q1,q2]at h;simp only[Am,BN,AI]at h;obtain⟨⟨⟨⟨⟨⟨⟨⟨rfl,rfl⟩,rfl⟩,h1⟩,h2⟩,h3⟩,h4⟩,h5⟩,h6⟩:=h;obtain⟨p,p',pos,pos',rfl⟩:=gJ q2;have e:=dR q1;subst e;obtain⟨g1,g2,_,_⟩:=GZ v h1;obtain⟨g3,g4,_,_⟩:=GZ v h2;refine Mf (SC.congr (oS (S.e W T X _ a v h5).st (S.e W T X _ c v h6).st v.calm g1 g2 g3 g4 (by rw[CY h3,CY h4];rfl) (by rw[CY h4];rfl)) fun ρ=>?_) (fun _ _=>rfl) rfl
   simp only[Ng,evB,bJ,bH,dB,R.bind_assoc,R.bind_ok,RA,qE]
theorem gH(S:Snd Γ CL k n){x:Ar}{b:BI}(v:VX Γ CL k W T X)(h:(match Ms as with|some a=>(match Mw x with|some (g,h,y)=>decide (b=.lset)&&g==("len" : Al)&&h==("set" : Al)&&isB T g&&isB T h&&EG y&&Bo n T y a|none=>Ae)|none=>Ae)=Aa):OkE Γ CL W X x (.bi b as):=by
 cases q1:Ms as with
 |none=>rw[q1]at h;cases h
 |some a=>
  cases q2:Mw x with
  |none=>rw[q1,q2]at h;cases h
  |some t2=>
   obtain⟨g,f,y⟩:=t2;rw[q1,q2]at h;simp only[Am,BN,AI]at h;obtain⟨⟨⟨⟨⟨⟨rfl,rfl⟩,rfl⟩,h1⟩,h2⟩,h3⟩,h4⟩:=h;obtain⟨p,p',pos,pos',rfl⟩:=gG q2;have e:=dQ q1;subst e;obtain⟨g1,g2,_,_⟩:=GZ v h1;obtain⟨g3,g4,_,_⟩:=GZ v h2;refine EF (SE.congr (fJ (S.e W T X _ a v h4).st v.calm g1 g2 g3 g4 (by rw[CY h3];rfl)) fun ρ=>?_) (fun _ _=>rfl) rfl rfl
   simp only[Ng,evB,R.bind_assoc,R.bind_ok]
theorem uU(S:Snd Γ CL k n)(W:XW)(T:Tc)(X:Cx)(x:Ar)(c:E)(v:VX Γ CL k W T X)(h:Bo (n+1) T x c=Aa):OkE Γ CL W X x c:=by
 cases c with
 |non=>
  simp only[Bo]at h;split at h
  ·exact EF pH (fun _ _=>rfl) rfl rfl
  ·cases h
 |bl b=>
  simp only[Bo]at h;split at h
  ·have e:=eq_of_beq h;subst e;exact EF uA (fun _ _=>rfl) rfl rfl
  ·cases h
 |int i=>
  simp only[Bo]at h;split at h
  ·have e:=Em h;subst e;exact EF pL (fun _ _=>rfl) rfl rfl
  ·cases h
 |str i=>
  simp only[Bo]at h;split at h
  ·have e:=Em h;subst e;exact EF pF (fun _ _=>rfl) rfl rfl
  ·cases h
 |var i=>
  simp only[Bo]at h;split at h
  ·exact⟨pD (HW v h),oM (HW v h),fun z=>(nomatch z),fun z=>(nomatch z)⟩
  ·cases h
 |glob g=>simp[Bo]at h
 |bin op a b=>
  simp only[Bo]at h;split at h
  ·simp only[Am,AI]at h;obtain⟨⟨rfl,h1⟩,h2⟩:=h;have ha:=(S.e W T X _ a v h1).st;have hb:=(S.e W T X _ b v h2).st;refine⟨Vv (T5 _) ha hb,(Vv (T5 _) ha hb).st,fun z=>?_,fun z=>nomatch z⟩
   rename_i op' _ _;cases op'<;>first|exact oW ha hb|cases z
  ·cases h
 |un op a=>
  simp only[Bo]at h;split at h
  ·simp only[Am,AI]at h;obtain⟨rfl,h1⟩:=h;exact EF (pJ (S.e W T X _ a v h1).st) (fun _ _=>rfl) rfl rfl
  ·cases h
 |no a=>
  simp only[Bo]at h;split at h
  ·exact EF (pG (S.e W T X _ a v h).st) (fun _ _=>rfl) rfl rfl
  ·cases h
 |and es=>
  simp only[Bo]at h;split at h
  ·simp only[Am,BJ,Ep]at h;exact EF ((S.es W T X _ es v h.1).2.2.2.1 _ h.2).1 (fun _ _=>rfl) rfl rfl
  ·cases h
 |or es=>
  simp only[Bo]at h;split at h
  ·simp only[Am,BJ,Ep]at h;exact EF ((S.es W T X _ es v h.1).2.2.2.1 _ h.2).2 (fun _ _=>rfl) rfl rfl
  ·cases h
 |cmp op a b=>
  simp only[Bo]at h;split at h
  ·simp only[Am,BJ,AI]at h;obtain⟨⟨⟨rfl,h1⟩,h2⟩,h3⟩:=h;exact EF (nJ (KP v.room.units _) (S.e W T X _ a v h2).st (S.e W T X _ b v h3).st h1) (fun _ _=>rfl) rfl rfl
  ·cases h
 |cmp2 op1 op2 a b c=>
  simp only[Bo]at h;split at h
  ·simp only[Am,BJ,AI]at h;obtain⟨⟨⟨⟨⟨rfl,rfl⟩,h1⟩,h2⟩,h3⟩,h4⟩:=h;exact EF (dI v.room.units (S.e W T X _ a v h2).st (S.e W T X _ b v h3).st (S.e W T X _ c v h4).st h1) (fun _ _=>rfl) rfl rfl
  ·cases h
 |ite c a b=>simp[Bo]at h
 |call f as=>
  simp only[Bo]at h;split at h
  ·rename_i g pp y ys qq;simp only[Am,WJ,BN,AI]at h;obtain⟨⟨⟨⟨⟨p,hp,⟨rfl,rfl⟩,hl⟩,h900⟩,h1⟩,h2⟩,h3⟩:=h;obtain⟨fa,fd,ps,m1,m2,m3,m4,m5,_⟩:=v.fn p hp;have hlt:p.2.2<1000:=by omega
   rw[Nat.mod_eq_of_lt hlt]at m4 m5;have m5:=m5 hlt;obtain⟨n2,n3,n4⟩:=PD h2;obtain⟨a1,a2,a3,a4,a5⟩:=S.es W T X _ as v h3;obtain⟨s0,e,es',rfl,m,rfl,s1⟩:=OE h3;have q:SC X CL W (Γ.fr p.2.1) (.Call (.Name p.1 pp) (y::ys) [] qq) (fun ρ=>evE Γ ρ (.call p.2.1 (.cons e es'))):=fL (sh:=fun ρ=>JK ρ (.cons e es')) m5 v.room (by unfold glB at h1;show X.env.scope.names.lookup p.1=_;rw[v.sc];exact eq_of_beq h1) m1 m2 m3 v.px a1 a2 (fun ρ z=>Ve Γ ρ _ z) (fun ρ ds z=>by rw[UD Γ ρ _ _ z,<-a3,hl];rfl) n2 (CY s0) (Si m ys es' s1)
   exact⟨q.se,q.se.st,fun z=>by
    have z':Γ.fr p.2.1=Aa:=z;rw[z']at q;exact q,fun z=>nomatch z⟩
  ·cases h
 |bi b as=>
  simp only[Bo,Ds]at h;rcases h with (((h|h)|h)|h)|h
  ·split at h
   ·simp only[Am,BN]at h;obtain⟨⟨h1,h2⟩,h3⟩:=h;obtain⟨s0,e,es',rfl,m,rfl,s1⟩:=OE h3;exact yE v h1 h2 (S.es W T X _ _ v h3).2.1 s0 (Si m _ es' s1)
   ·cases h
  ·exact rT v h
  ·exact qD S v h
  ·exact lT S v h
  ·exact gH S v h
 |isi a ks=>
  cases ks with
  |nil=>simp[Bo]at h
  |cons k' ks=>
   cases ks with
   |cons=>simp[Bo]at h
   |nil=>
    simp only[Bo]at h;split at h
    ·simp only[Am,BN]at h;obtain⟨⟨⟨⟨⟨rfl,h1⟩,h2⟩,h3⟩,h4⟩,h5⟩:=h;obtain⟨g1,g2,_,_⟩:=GZ v h1;obtain⟨b1,b2,b3,b4⟩:=GZ v h3;obtain⟨ty,t1,t2⟩:=zA h2;exact EF (pK t1 g1 g2 b1 b2 t2 b3 b4 (S.e W T X _ a v h5).st (CY h4)) (fun _ _=>rfl) rfl rfl
    ·cases h
 |idx a i=>
  simp only[Bo]at h;split at h
  ·simp only[Am]at h;obtain⟨⟨h1,h2⟩,h3⟩:=h;exact EF (pM (dH h1) (S.e W T X _ a v h2).st (S.e W T X _ i v h3).st) (fun _ _=>rfl) rfl rfl
  ·cases h
 |sl a lo hi=>
  simp only[Bo]at h;split at h
  ·simp only[Am]at h;obtain⟨⟨h1,h2⟩,h3⟩:=h;refine Mf (SC.congr (uY (S.e W T X _ a v h1).st (S.o W T X _ lo v h2) (S.o W T X _ hi v h3)) fun ρ=>?_) (fun _ _=>rfl) rfl
   show ((top ρ a (evE Γ ρ a)).bind fun x=>(top ρ lo (evE Γ ρ lo)).bind fun l=>(slE lo l).bind fun l'=>(top ρ hi (evE Γ ρ hi)).bind fun h=>(slE hi h).bind fun h'=>slD x l' h')=_
   simp only[R.bind_assoc]
  ·cases h
 |tup es=>
  simp only[Bo]at h;split at h
  ·simp only[Am,AI]at h;have q:=S.es W T X _ es v h.1;exact EF (pE q.1 fun ρ ds z=>by rw[PF Γ ρ _ _ z,<-q.2.2.1];omega) (fun _ _=>rfl) rfl rfl
  ·cases h
 |lst es=>
  simp only[Bo]at h;split at h
  ·simp only[Am,AI]at h;have q:=S.es W T X _ es v h.1;exact Mf (oR q.1 fun ρ ds z=>by rw[PF Γ ρ _ _ z,<-q.2.2.1];omega) (fun _ _=>rfl) rfl
  ·cases h
 |comp elt t it c=>
  simp only[Bo]at h;split at h
  ·simp only[Am]at h;obtain⟨⟨⟨⟨⟨h1,h2⟩,h3⟩,h4⟩,h5⟩,h6⟩:=h;refine VJ v.calm ⟨_,_,_,_,_,_,_,_,_,_,_,_,_,rfl,(Qp v h3).1,S.i W T X Ae _ _ it v rfl h1,kX t,fun cl C s H fp=>fZ (v.blk h3) (fun z=>BN.mpr z) h4,fun cl C s H fp=>S.t _ _ _ c (v.blk h3) h5,fun cl C s H fp=>(S.e W0 _ _ _ elt (v.blk h3) h6).se,Nj h2,fun ρ=>rfl⟩ (fun _ _=>rfl)
  ·cases h
 |compT elt ts it c=>
  simp only[Bo]at h;split at h
  ·simp only[Am]at h;obtain⟨⟨⟨⟨⟨⟨h0,h1⟩,h2⟩,h3⟩,h4⟩,h5⟩,h6⟩:=h;refine VJ v.calm ⟨_,_,_,_,_,_,_,_,_,_,_,_,_,rfl,(Qp v h3).1,S.i W T X Aa _ _ it v rfl h1,pR ts,fun cl C s H fp=>gD (v.blk h3) h0 h4,fun cl C s H fp=>S.t _ _ _ c (v.blk h3) h5,fun cl C s H fp=>(S.e W0 _ _ _ elt (v.blk h3) h6).se,Nj h2,fun ρ=>rfl⟩ (fun _ _=>rfl)
  ·cases h
 |tupI it=>
  cases it with
  |zip3 a b c=>
   simp only[Bo]at h;cases q:NO x with
   |none=>rw[q]at h;cases h
   |some t=>
    obtain⟨g,f,y1,y2,y3⟩:=t;rw[q]at h;simp only[Am,BN]at h;obtain⟨⟨⟨⟨⟨⟨⟨⟨⟨rfl,rfl⟩,h1⟩,h2⟩,h3⟩,h4⟩,h5⟩,h6⟩,h7⟩,h8⟩:=h;obtain⟨p,p',pos,pos',rfl⟩:=jV q;obtain⟨g1,g2,_,_⟩:=GZ v h1;obtain⟨g3,g4,_,_⟩:=GZ v h2;exact EF (pN (S.e W T X _ a v h6).se (S.e W T X _ b v h7).se (S.e W T X _ c v h8).se v.calm g1 g2 g3 g4 (by rw[CY h3,CY h4,CY h5];rfl) (by rw[CY h4,CY h5];rfl) (by rw[CY h5];rfl)) (fun _ _=>rfl) rfl rfl
  |_=>simp[Bo]at h
 |dnew=>simp[Bo]at h
 |fld o f=>simp[Bo]at h
theorem snd:∀ n,Snd Γ CL k n
 |0=>dG
 |n+1=>⟨uU (snd n),uV (snd n),lW (snd n),lV (snd n),uS (snd n),uQ (snd n),uT (snd n)⟩
end
section
variable{Γ:Gam}{CL:ClA}{W:XW}{k n:Ag}{T:Tc}{X:Cx}
theorem gC{t:Ag}(v:VX Γ CL k W T X)(hf:∀ x,X.fn x=Aa)(h:tgC T [t] [x]=Aa):PG X (.Name x pos) (FA t):=by
 unfold tgC at h;simp only[Am,BN]at h;exact Mb (by rw[v.N];exact v.nd) (by rw[v.N];exact h.1.1) (by rw[v.sc];exact Pl h.1.2) (.inl (hf x))
theorem Ue(v:VX Γ CL k W T X)(hf:∀ x,X.fn x=Aa):∀(ys:Ac Ar)(ts:Ac Ag)(zs:Ac Al),Fx ys=Ab zs->tgC T ts zs=Aa->PGs X ys (ts.foldr (fun t u=>H9 (FA t) u) Ie)/\ts.length=ys.length:=by
 intro ys
 induction ys with
 |nil=>
  intro ts zs e h;cases e;cases ts with
  |nil=>exact⟨Px,rfl⟩
  |cons t ts=>cases h
 |cons y r ih=>
  intro ts zs e h;obtain⟨x,p,ws,rfl,e2,rfl⟩:=Oj e;cases ts with
  |nil=>cases h
  |cons t ts=>
   have h':(T.N[t]? == Ab x&&Ll T x&&tgC T ts ws)=Aa:=h;simp only[Am,BN]at h';obtain⟨h1,h2⟩:=ih ts ws e2 h'.2;exact⟨M1 (Mb (by rw[v.N];exact v.nd) (by rw[v.N];exact h'.1.1) (by rw[v.sc];exact Pl h'.1.2) (.inl (hf x))) h1 (by rw[OR];rfl),congrArg (· + 1) h2⟩
theorem gA(v:VX Γ CL k W T X)(hf:∀ x,X.fn x=Aa)(hn:(Fx ys).isSome=Aa)(h:tgC T ts (tgN ys)=Aa):PG X (.Tuple ys kk pos) (Lg X.K ts.length (ts.foldr (fun t u=>H9 (FA t) u) Ie)):=by
 cases e:Fx ys with
 |none=>rw[e]at hn;cases hn
 |some zs=>
  have e2:tgN ys=zs:=by unfold tgN;rw[e];rfl
  rw[e2]at h;obtain⟨h1,h2⟩:=Ue v hf ys ts zs e h;obtain⟨h3,h4,_⟩:=Oi (env:=X.env) ys zs e;exact Nn v.calm h1 (by rw[h3,h2]) h4
theorem lP(v:VX Γ CL k W T X)(hf:∀ x,X.fn x=Aa)(hn:(Fx ys).isSome=Aa)(h:tgC T ts (tgN ys)=Aa):PG X (.Tuple ys kk pos) (gSq X.K ts.length (ts.foldr (fun t u=>H9 (FA t) u) Ie)):=by
 cases e:Fx ys with
 |none=>rw[e]at hn;cases hn
 |some zs=>
  have e2:tgN ys=zs:=by unfold tgN;rw[e];rfl
  rw[e2]at h;obtain⟨h1,h2⟩:=Ue v hf ys ts zs e h;obtain⟨h3,h4,_⟩:=Oi (env:=X.env) ys zs e;exact wA v.calm h1 (by rw[h3,h2]) h4
theorem mF{e:Ar}(h:(VL e||Ey 4 ys.length)=Aa):Ed [.Tuple ys kk pos] e env=pure Af:=by
 cases e with
 |Tuple vs a b=>
  have h4:=E8 (show Ey 4 ys.length=Aa from h)
  have e2:(ys.length==2)=Ae:=by rw[DN];omega
  have e3:(ys.length==3)=Ae:=by rw[DN];omega
  unfold Ed;dsimp only;rw[e2,e3];rfl
 |_=>rfl
theorem Sk(ts:Ac Ag):∀ d ρ x,GJ ts d ρ≠.exn x:=fun d ρ x h=>by
 unfold GJ at h;cases d with
 |tup xs=>
  dsimp only at h;cases e:Fj ts xs ρ with
  |some r=>rw[e]at h;cases h
  |none=>rw[e]at h;cases h
 |_=>cases h
theorem aS(ts:Ac Ag):∀ d ρ x,G2 ts d ρ≠.exn x:=fun d ρ x h=>by
 unfold G2 at h;split at h
 ·split at h<;>cases h
 ·exact Sk ts _ ρ x h
theorem dD{elt:Ar}{gs:Ac Comprehension}{pos':A8}:∃ b,D6 (.ListComp elt gs scope pos) (Ab (.Name x pos')) l env=pure b/\(b=Aa->env.scope.names.lookup x=Ab .local):=by
 refine⟨_,rfl,fun h=>?_⟩
 simp only[Am,BN]at h;exact h.1.1.2
theorem Qc{v0:Ar}{i:Ag}{e:E}(v:VX Γ CL k W T X)(hf:∀ x,X.fn x=Aa)(hi:T.N[i]?=Ab x)(hl:Ll T x=Aa)(o:OkE Γ CL W X v0 e)(hfr:fr=Aa->Fn Γ e=Aa):SAs X CL W fr i (.Assign [.Name x p] v0 pos) (fun ρ=>evE Γ ρ e):=by
 have hN:X.N.Nodup:=by rw[v.N];exact v.nd
 have hi':X.N[i]?=Ab x:=by rw[v.N];exact hi
 have hx:Loc X.env.scope x:=by rw[v.sc];exact Pl hl
 have sc:SC X CL W fr v0 (fun ρ=>evE Γ ρ e):=by
  cases fr with
  |false=>exact o.se.sc
  |true=>exact o.nw (hfr rfl)
 cases hc:KY v0 with
 |true=>exact SC.sas hN hi' hx sc (UJ hc) (.inl (hf x))
 |false=>
  obtain⟨tg,iter,elt,ifs,scope,pos2,N',ts,fi,fc,fe,as,g,rfl,B,h2,hGG,hg,ht,he,hs,ef⟩:=o.cp hc;obtain⟨b,hb,hb'⟩:=dD (elt:=elt) (gs:=[⟨tg,iter,ifs,0⟩]) (scope:=scope) (pos:=pos2) (pos':=p) (x:=x) (l:=pos.line) (env:=X.env);cases b with
  |false=>exact SC.sas hN hi' hx sc hb (.inl (hf x))
  |true=>
   have q:=dM (pos2:=pos) v.calm B h2 hGG hg ht he hs hN hi' (hb' rfl) hb;have q':SAs X CL W Aa i (.Assign [.Name x p] (.ListComp elt [⟨tg,iter,ifs,0⟩] scope pos2) pos) (fun ρ=>evE Γ ρ e):=by
    have:(fun ρ=>evE Γ ρ e)=_:=funext ef
    rw[this];exact q
   cases fr with
   |true=>exact q'
   | false=>exact fun A=>PS.weak (q' A) fun D σ H ⟨hA,ρ,gd,z⟩=>⟨hA,ρ,gd,by
     dsimp only at z ⊢;cases e0:evE Γ ρ e with
     |ok d=>
      rw[e0]at z;exact fun v' H' s' r'=>z v' H' s' ⟨r'.1,fun _=>r'.2 rfl⟩
     |exn y=>rw[e0]at z;exact z
     | bad=>rw[e0]at z;exact z⟩
theorem Pv{e t:Ar}(h:∀ x p,t≠.Name x p):F9 [t] e l env=pure Ae:=by
 show D6 e (Ab t) l env=pure Ae;cases e<;>first|rfl|(cases t<;>first|rfl|exact absurd rfl (h _ _))
theorem Z0{y x' z:Al}{p1 p2 p3 p4 p5 p6 tp p' q1:A8}{kt q0:Ag}{o a o' a':Ar}:Ed [.Tuple [.Subscript (.Name x p1) (.Name y p2) p3,.Subscript (.Name x' p4) (.Name z p5) p6] kt tp] (.Tuple [.Subscript o a p,.Subscript o' a' p'] q0 q1) env=pure Af:=by
 unfold Ed;cases env.blockKind<;>rfl
theorem SX(ρ:Rho)(e:E)(h:∀ i,e≠.var i):evS Γ ρ (.ret e)=O.of ρ (evE Γ ρ e) fun d=>.ret d (Fn Γ e):=by
 cases e<;>first|exact absurd rfl (h _)|(simp only[evS,top,Wv])
structure DefX (X:Cx):Prop where
 fn:∀ x,X.fn x=Aa
 ex:X.ex=[]
 st:X.stack=X.env::X.outer
 fm:X.env.frame=Ab X.env.locals
structure SndS (Γ:Gam) (CL:ClA) (k:Ag) (n:Ag):Prop where
 s:∀(W:XW)(T:Tc)(X:Cx)(x:Ca)(c:S),VX Γ CL k W T X->DefX X->DJ n T x c=Aa->SS X CL W x (fun ρ=>evS Γ ρ c)
 ss:∀(W:XW)(T:Tc)(X:Cx)(x:Ac Ca)(c:Ss),VX Γ CL k W T X->DefX X->chkSs n T x c=Aa->SSs X CL W x (fun ρ=>evSs Γ ρ c)
theorem VX.pw(v:VX Γ CL k W T X){pI:Pn}{Xw:Vq}(own:Gn (model X.prog X.w) X.A X.env Xw):VX Γ CL k W0 T (Cx.pw X pI Xw):=⟨v.sc,v.kd,v.N,v.nd,v.calm,v.room,v.bl,v.fn,own,UY,Rn,v.xt,v.gl⟩
theorem STB.congr{st:Ac Ca}{f g:Rho->O}(h:STB X CL st f)(e:∀ ρ,g ρ=f ρ):STB X CL st g:=by
 have:g=f:=funext e;rw[this];exact h
theorem uR(Z:SndS Γ CL k n)(W:XW)(T:Tc)(X:Cx)(st:Ca)(c:S)(v:VX Γ CL k W T X)(hf:DefX X)(h:DJ (n+1) T st c=Aa):SS X CL W st (fun ρ=>evS Γ ρ c):=by
  have E:=snd (Γ:=Γ) (CL:=CL) (k:=k) n;cases c with
  |pass=>simp[DJ]at h
  |brk=>simp[DJ]at h
  |cont=>simp[DJ]at h
  |asg i fresh e=>
    simp only[DJ]at h;split at h
    · simp only[Am,BN]at h;obtain⟨⟨h1,h2⟩,h3⟩:=h;have o:=E.e W T X _ e v h3;cases fresh with
      |false=>exact Vt (Qc (fr:=Ae) v hf.fn h1 h2 o (fun z=>nomatch z))
      |true=>
        cases hn:Fn Γ e with
        |true=>
          refine SS.ref (fB (Qc (fr:=Aa) v hf.fn h1 h2 o (fun _=>hn))) fun ρ=>.inr ?_
          show O.of ρ (evE Γ ρ e) (fun d=>if Aa=Aa then (if Fn Γ e=Aa then (match d with
            |.lst xs=>.next (ρ.set i (Ab (.lst xs,Aa)))
            |.dic xs=>.next (ρ.set i (Ab (.dic xs,Aa)))
            | _=>.bad) else .bad) else .next (ρ.set i (Ab (d,Ae))))=_
          rw[hn];rfl
        |false=>
          refine SS.ref (Vt (Qc (fr:=Ae) v hf.fn h1 h2 o (fun z=>nomatch z))) fun ρ=>?_
          have e0:evS Γ ρ (.asg i Aa e)=O.of ρ (evE Γ ρ e) (fun d=>if Aa=Aa then (if Fn Γ e=Aa then (match d with
            |.lst xs=>.next (ρ.set i (Ab (.lst xs,Aa)))
            |.dic xs=>.next (ρ.set i (Ab (.dic xs,Aa)))
            | _=>.bad) else .bad) else .next (ρ.set i (Ab (d,Ae)))):=rfl
          rw[e0,hn];cases evE Γ ρ e with
          |ok d=>exact .inl rfl
          |exn y=>exact .inr rfl
          |bad=>exact .inl rfl
    · cases h
  |asgT ts e=>
    simp only[DJ]at h;split at h
    · simp only[Am]at h;obtain⟨⟨⟨h1,h2⟩,h3⟩,h5⟩:=h;exact fA (xQ ts) (lP v hf.fn h1 h2) (E.e W T X _ e v h5).se (Pv (fun _ _ z=>by cases z)) (mF h3) rfl (aS ts)
    · cases h
  |expr e=>
    simp only[DJ]at h;split at h
    · simp only[Am]at h;exact eZ (E.e W T X _ e v h.2).se (UJ h.1)
    · cases h
  |ret e=>
    simp only[DJ]at h;split at h
    · have o:=E.e W T X _ e v h;cases hv:Fn Γ e with
      |true=>
        refine SS.ref (eX (o.nw hv)) fun ρ=>.inr ?_
        rw[SX ρ e (fun i z=>by subst z;cases hv),hv]
      |false=>
        cases e with
        |var i=>
          cases n with
          |zero=>simp[Bo]at h
          |succ n=>
            simp only[Bo]at h;split at h
            · exact eV (HW v h)
            · cases h
        |_=>
          refine SS.ref (eW o.se) fun ρ=>.inr ?_
          rw[SX ρ _ (by intro i z;cases z),hv]
    · cases h
  |retN=>simp[DJ]at h
  |ife c a b=>
    simp only[DJ]at h;split at h
    · simp only[Am]at h;exact uW (E.b W T X _ c v h.1.1) (Z.ss W T X _ a v hf h.1.2) (Z.ss W T X _ b v hf h.2)
    · cases h
  |fors t it body=>
    simp only[DJ]at h;split at h
    · simp only[Am]at h;obtain⟨⟨⟨h1,h2⟩,h3⟩,h4⟩:=h;exact Vs v.own v.calm (kW t) (gC v hf.fn h1) (E.i W T X Ae _ _ it v rfl h3) (Z.ss W T X _ body v hf h4) (Nj h2) (fun _ _ _ z=>nomatch z)
    · cases h
  |forT ts it body=>
    simp only[DJ]at h;split at h
    · simp only[Am]at h;obtain⟨⟨⟨⟨h0,h1⟩,h2⟩,h3⟩,h4⟩:=h;exact Vs v.own v.calm (Vb ts) (gA v hf.fn h0 h1) (E.i W T X Aa _ _ it v rfl h3) (Z.ss W T X _ body v hf h4) (Nj h2) (Sk ts)
    · cases h
  |whl c body=>simp[DJ]at h
  |rais c as=>
    simp only[DJ]at h;cases hc:T.rzs.any (fun p=>p.2==c) with
    |false=>
      have hb:∀ ds,Γ.xn c ds=.bad:=v.xt.xb c fun p hp z=>by
        have:T.rzs.any (fun p=>p.2==c)=Aa:=List.any_eq_true.mpr ⟨p,hp,BN.mpr z⟩
        rw[hc]at this;cases this
      intro Fz B pI s σ H D I ⟨ρ,x,p⟩;have p':CN X.K CL Fz B W (O.of ρ (noX (evA Γ ρ as)) fun xs=>O.of ρ (Γ.xn c xs) fun x=>.exn x ρ) D:=p
      cases e1:evA Γ ρ as with
      |bad=>rw[e1]at p';exact p'.elim
      |exn y=>rw[e1]at p';exact p'.elim
      |ok ds=>
        rw[e1]at p';have p2:CN X.K CL Fz B W (O.of ρ (Γ.xn c ds) fun x=>.exn x ρ) D:=p'
        rw[hb ds]at p2;exact p2.elim
    |true=>rw[hc]at h;cases h
  |app i e=>
    simp only[DJ]at h;split at h
    · simp only[Am,BN]at h;obtain⟨⟨⟨⟨rfl,h1⟩,h2⟩,h3⟩,h4⟩:=h;exact oQ (HW v h1) (E.e W T X _ e v h4).se rfl (by rw[CY h3];rfl) (by rw[h2];exact DX _) (CY h3) rfl
    · cases h
  |ext i e=>
    simp only[DJ]at h;split at h
    · simp only[Am,BN]at h;rw[Ds]at h;obtain⟨⟨⟨⟨rfl,h1⟩,h2⟩,h3⟩,h5⟩:=h;rcases h5 with h5|h5
      · rw[Am]at h5;obtain⟨h5,h4⟩:=h5;exact oP (HW v h1) ((E.e W T X _ e v h4).nw (hZ Γ h5)) rfl (by rw[CY h3];rfl) (by rw[h2];exact DX _) (CY h3) rfl
      · cases q:NG e with
        |none=>rw[q]at h5;cases h5
        |some a=>
          rw[q]at h5;have eq:=dS q;subst eq;have fe:(fun ρ=>evS Γ ρ (.ext i (.bi .list (.cons (.bin .Add a (.tup .nil)) .nil))))=fun ρ=>O.of ρ (Dq ρ i) fun xs=>O.of ρ (top ρ a (evE Γ ρ a)) fun x=>O.of ρ ((Dp .Add x (.tup [])).bind fun y=>biD .list [y]) fun d=>O.of ρ (K8 d) fun ys=>if DL (xs.length+ys.length)=Aa then .next (ρ.set i (Ab (.lst (xs++ys),Aa))) else .bad:=funext fun ρ=>by
            rw[lJ];have e2:evE Γ ρ (.bi .list (.cons (.bin .Add a (.tup .nil)) .nil))=(top ρ a (evE Γ ρ a)).bind fun x=>(Dp .Add x (.tup [])).bind fun y=>biD .list [y]:=by
              simp only[Ng,evB,lO,fY,fX,lK,evA,R.bind_ok,R.bind_assoc]
            rw[e2];cases Dq ρ i with
            |ok xs=>
              rw[O.of_ok,O.of_ok];cases top ρ a (evE Γ ρ a)<;>rfl
            |exn z=>rfl
            |bad=>rfl
          show SS X CL W _ (fun ρ=>evS Γ ρ (.ext i (.bi .list (.cons (.bin .Add a (.tup .nil)) .nil))))
          rw[fe];exact eY (HW v h1) (E.e W T X _ a v h5).st rfl (by rw[CY h3];rfl) (by rw[h2];exact DX _) (CY h3) rfl
    · cases h
  |rev i=>simp[DJ]at h
  |clr i=>simp[DJ]at h
  |put i k e=>
    simp only[DJ]at h;split at h
    · simp only[Am]at h;obtain⟨⟨⟨h1,h2⟩,h4⟩,h5⟩:=h;rename_i x p y sp v0 pos;exact oO (HW v h1) (E.e W T X _ k v h4).st (E.e W T X _ e v h5).se (fun w=>by cases y<;>first|rfl|cases h2) (Pv (fun _ _ z=>by cases z)) rfl rfl
    · cases h
  |tryx body c x hh=>simp[DJ]at h
  |swp i k l=>
    simp only[DJ]at h;cases q:QT st with
    |none=>rw[q]at h;cases h
    |some t=>
      obtain⟨x1,y1,x2,z1,v0⟩:=t;rw[q]at h;simp only[Am]at h;obtain⟨⟨⟨⟨h1,h2⟩,h3⟩,h4⟩,h5⟩:=h;obtain⟨p1,p2,p3,p4,p5,p6,kt,tp,o,a,p,o',a',p',q0,q1,pos,rfl,rfl⟩:=eO q;exact oN v.calm (HW v h1) (HW v h2) (HW v h3) (HW v h4) (E.e W T X _ _ v h5).se (fun _=>rfl) (fun _=>rfl) (Pv (fun _ _ z=>by cases z)) Z0
  |ins=>simp[DJ]at h
  |dput=>simp[DJ]at h
  |dsd=>simp[DJ]at h
  |rel=>simp[DJ]at h
theorem lU(Z:SndS Γ CL k n)(W:XW)(T:Tc)(X:Cx)(xs:Ac Ca)(c:Ss)(v:VX Γ CL k W T X)(hf:DefX X)(h:chkSs (n+1) T xs c=Aa):SSs X CL W xs (fun ρ=>evSs Γ ρ c):=by
 cases c with
 |nil=>
  simp only[chkSs,HG]at h;subst h;exact eU
 |cons s ss=>
  by_cases hr:∃ i,s=.rel i
  ·obtain⟨i,rfl⟩:=hr;simp only[chkSs]at h;exact eT i (Z.ss W T X xs ss v hf h)
  ·cases xs with
   |nil=>cases s<;>first|(simp[chkSs]at h;done)|exact absurd ⟨_,rfl⟩ hr
   |cons st r=>
    have h':DJ n T st s=Aa/\chkSs n T r ss=Aa:=by
     cases s<;>first|(simp only[chkSs,Am]at h;exact h)|exact absurd ⟨_,rfl⟩ hr
    exact dF (Z.s W T X st s v hf h'.1) (Z.ss W T X r ss v hf h'.2)
theorem QV:∀ n,SndS Γ CL k n
 |0=>⟨fun _ _ _ _ _ _ _ h=>by simp[DJ]at h,fun _ _ _ _ _ _ _ h=>by simp[chkSs]at h⟩
 |n+1=>⟨uR (QV n),lU (QV n)⟩
end
theorem LP{n:Ag}{ds:Ac D}{i:Ag}{d:D}{o:Ap}(h:(BB n ds)[i]?=Ab (Ab (d,o))):o=Ae/\ds[i]?=Ab d:=by
 unfold BB at h;by_cases hi:i<ds.length
 ·rw[FD (by simpa using hi),Eg]at h
  cases e:ds[i]? with
  |none=>rw[e]at h;cases h
  |some x=>rw[e]at h;cases h;exact⟨rfl,rfl⟩
 ·rw[WP (by simpa using Nat.le_of_not_lt hi),WQ]at h
  split at h<;>cases h
theorem aJ{N:Ac Al}{i:Ag}{v:V}(h:vs[i]?=Ab v):(L2.start N vs)[i]?=Ab (Ab v):=by
 unfold L2.start;have hi:=(A6.mp h).1;rw[FD (by simpa using hi),Eg,h]
 rfl
theorem dC{K:Fg}{A:Ak->Prop}{N:Ac Al}{n:Ag}{ds:Ac D}(hn:N.length=n)(hA:AOk H A)(r:Reps K CL H A vs ds):Sx K CL (fun b o=>H b=Ab o) A (BB n ds) (L2.start N vs) H:=by
 have own:∀ a,CU A (BB n ds) (L2.start N vs) a->A a:=fun a h=>by
  rcases h with h|⟨j,d,h,_⟩
  ·exact h
  ·exact absurd (LP h).1 (by decide)
 have hlen:(BB n ds).length=(L2.start N vs).length:=by
  unfold BB L2.start;simp only[Cz,BR,Gk,r.length,hn]
 refine⟨⟨fun i d h=>?_,fun i d h=>absurd (LP h).1 (by decide),hlen⟩,fun a h=>hA a (own a h),fun j d a h _=>absurd (LP h).1 (by decide),fun i j d e a h _ _ _=>absurd (LP h).1 (by decide),fun b o h=>h,hlen⟩
 obtain⟨v,h1,h2⟩:=r.get (LP h).2;exact⟨v,aJ h1,Rep.sub own _ h2⟩
def Li(K:Fg)(mg:Al->Au Ai)(fns:Ac (Al×Ag×Ag))(bl:Ac Al)(rzs exs gls:Ac (Al×Ag))(Pg:Prg)(fuel:Ag)(p:Al×Ag×Ag):Prop:=∃ f fd ps qual st N,mg p.1=Ab (.ref f)/\Fun K p.1 qual st f fd/\IF K fd ps []/\ps.length=p.2.2%1000/\Ih fuel (Ey 1000 p.2.2) fns bl rzs exs gls ps N st (Pg.defs p.2.1)=Aa
structure Tab (K:Fg) (mg:Al->Au Ai) (CL:ClA) (fns:Ac (Al×Ag×Ag)) (bl:Ac Al) (rzs exs gls:Ac (Al×Ag)) (Pg:Prg) (fuel:Ag):Prop where
 xt:XT Pg.up Pg.xn CL rzs exs K mg
 bln:∀ x,x∈bl->mg x=Af
 gl:∀ p∈gls,Q5 K mg CL p.1 (Pg.G p.2)
 fn:∀ p∈fns,Li K mg fns bl rzs exs gls Pg fuel p
theorem pU(Pg:Prg)(n i:Ag):(gam Pg n).fr i=(Pg.defs i).fr:=by cases n<;>rfl
theorem pT(Pg:Prg)(n:Ag):(gam Pg n).up=Pg.up:=by cases n<;>rfl
theorem xR(Pg:Prg)(n:Ag):(gam Pg n).G=Pg.G:=by cases n<;>rfl
theorem pS(Pg:Prg)(n:Ag):(gam Pg n).xn=Pg.xn:=by cases n<;>rfl
section
variable{P:A5}{w:AJ}{K:Fg}{mg:Al->Au Ai}{base:AQ}{CL:ClA}{fns:Ac (Al×Ag×Ag)}{bl:Ac Al}{rzs exs gls:Ac (Al×Ag)}{Pg:Prg}{fuel:Ag}
def Lvl(P:A5)(w:AJ)(K:Fg)(mg:Al->Au Ai)(base:AQ)(CL:ClA)(Pg:Prg)(n:Ag)(p:Al×Ag×Ag):Prop:=∃ f fd ps,mg p.1=Ab (.ref f)/\DT K (.ref f)=Aa/\IF K fd ps []/\ps.length=p.2.2%1000/\(p.2.2<1000->FnOk P w K mg base (CXR P w) n f fd ps (spD K CL (p.2.2%1000) ((gam Pg n).fr p.2.1) ((gam Pg n).F p.2.1)))/\(1000<=p.2.2->HotOk P w K mg base n f fd ps (spH K CL (p.2.2%1000) ((gam Pg n).fr p.2.1) ((gam Pg n).F p.2.1)))
theorem Vi(t:Tab K mg CL fns bl rzs exs gls Pg fuel){n:Ag}(hlv:∀ q∈fns,Lvl P w K mg base CL Pg n q){qual:Al}{st:Ca}{ps N:Ac Al}{m id:Ag}(h2:Fun K x qual st f fd)(h4:ps.length=m)(h5:Ih fuel Ae fns bl rzs exs gls ps N st (Pg.defs id)=Aa):FnOk P w K mg base (CXR P w) (n+1) f fd ps (spD K CL m ((gam Pg (n+1)).fr id) ((gam Pg (n+1)).F id)):=by
  unfold Ih at h5;simp only[Am,BN,BJ,Dd,Ds,KA,ne_eq]at h5;obtain⟨⟨⟨⟨⟨⟨⟨⟨c1,c2⟩,c3⟩,c4⟩,c5⟩,c6⟩,c7⟩,c8⟩,c9⟩:=h5;obtain⟨oc,od,kV,doc,pm,an,cdv,ct,osl,rfl,lk,hcd⟩:=h2.ex;refine V5 (N:=N) lk hcd ⟨c1,c2,c3,MV c4,c5,c6,c7⟩ (fun vs H Q E ⟨ds,A,z,_⟩=>z.trans h4.symm) fun A outer s H vs Q E hr ⟨ds,B,hl,hA,hreps,hpost⟩=>?_
  have xt:XT (gam Pg n).up (gam Pg n).xn CL rzs exs K mg:=by rw[pT,pS];exact t.xt
  have gl:∀ p∈gls,Q5 K mg CL p.1 ((gam Pg n).G p.2):=by rw[xR];exact t.gl
  have key:∀ W:XW,(∀ x cls H',W x H'->(∃ C,CL x.c=Ab C/\cls=.ref C)->E cls Af H')->CN K CL (fun b o=>H b=Ab o) B W (evSs (gam Pg n) (BB (Pg.defs id).n ds) (Pg.defs id).body) {nx:=fun _ H'=>Q .non H',rt:=Q} ->
      ∃ t,PSs (G3 (CXR P w) P w K mg base N qual (GV st) f cdv A outer s H E) (IA st) t/\t {nx:=fun _ H'=>Q .non H',rt:=Q} (start N vs) H:=fun W hW hp=>by
    have v:VX (gam Pg n) CL n W ⟨GV st,N,fns,bl,rzs,exs,gls⟩ (G3 (CXR P w) P w K mg base N qual (GV st) f cdv A outer s H E):=⟨rfl,c1,rfl,MV c4,rfl,hr,t.bln,hlv,ownR,wI hW,rzR hW,xt,gl⟩;exact⟨_,(QV fuel).ss W _ _ _ (Pg.defs id).body v ⟨fun _=>rfl,rfl,rfl,rfl⟩ c9 (fun b o=>H b=Ab o) B,_,dC c8 hA hreps,hp⟩
  have no:∀ x cls H',W0 x H'->(∃ C,CL x.c=Ab C/\cls=.ref C)->E cls Af H':=fun _ _ _ z=>z.elim
  have e:(gam Pg (n+1)).F id ds=ES Pg.xs ((evSs (gam Pg n) (BB (Pg.defs id).n ds) (Pg.defs id).body).ans (Pg.defs id).fr):=rfl;rw[e,pU]at hpost;have cutO:∀ r:R D,(∀ x,r≠.exn x)->ES Pg.xs r=r:=fun r hr=>by
    cases Pg.xs<;>cases r<;>first|rfl|exact absurd rfl (hr _)
  cases eo:evSs (gam Pg n) (BB (Pg.defs id).n ds) (Pg.defs id).body with
  |next ρ'=>
    refine key W0 no ?_;rw[eo]at hpost ⊢;cases ef:(Pg.defs id).fr with
    |true=>rw[ef]at hpost;rw[cutO _ (by intro x z;cases z)]at hpost;exact hpost.elim
    |false=>
      rw[ef]at hpost;rw[cutO _ (by intro x z;cases z)]at hpost
      exact fun σ' H' x'=>hpost .non H' (fun b o z=>x'.same b o z) ⟨rfl,fun z=>nomatch z⟩
  |ret d b=>
    refine key W0 no ?_;rw[eo]at hpost ⊢;intro v H' sm rp fr;have hp2:(match ES Pg.xs (if ((Pg.defs id).fr&&(!b&&isL d))=Aa then R.bad else R.ok d) with
      |.ok d=>∀ v H',AN H H'->Ew K CL (Pg.defs id).fr H B H' v d->Q v H'
      |.exn x=>∀ cls dx H',AN H H'->MA K CL H' B cls dx x->E cls dx H'
      | .bad=>BF):=hpost
    cases ec:((Pg.defs id).fr&&(!b&&isL d)) with
    |true=>rw[ec,AD rfl,cutO _ (by intro x z;cases z)]at hp2;exact hp2.elim
    |false=>
      rw[ec,AH (by decide),cutO _ (by intro x z;cases z)]at hp2
      refine hp2 v H' sm ⟨rp,fun efr es hd=>?_⟩
      subst hd;have eb:b=Aa:=by
        cases b with
        |true=>rfl
        |false=>rw[efr]at ec;cases ec
      obtain⟨a,xs,h1,h2,h3,h4⟩:=fr eb es rfl;refine⟨a,xs,h1,?_,h3,h4⟩;cases ha:H a with
      |none=>rfl
      |some o=>exact absurd ha (h2 o)
  |brk ρ'=>rw[eo]at hpost;have hp2:(match ES Pg.xs (R.bad:R D) with | .ok _=>_ | .exn _=>_ | .bad=>BF):=hpost;rw[cutO _ (by intro x z;cases z)]at hp2;exact hp2.elim
  |cont ρ'=>rw[eo]at hpost;have hp2:(match ES Pg.xs (R.bad:R D) with | .ok _=>_ | .exn _=>_ | .bad=>BF):=hpost;rw[cutO _ (by intro x z;cases z)]at hp2;exact hp2.elim
  |bad=>rw[eo]at hpost;have hp2:(match ES Pg.xs (R.bad:R D) with | .ok _=>_ | .exn _=>_ | .bad=>BF):=hpost;rw[cutO _ (by intro x z;cases z)]at hp2;exact hp2.elim
  |exn x ρ'=>
    rw[eo]at hpost;have hp2:(match ES Pg.xs (R.exn x:R D) with
      |.ok d=>∀ v H',AN H H'->Ew K CL (Pg.defs id).fr H B H' v d->Q v H'
      |.exn x=>∀ cls dx H',AN H H'->MA K CL H' B cls dx x->E cls dx H'
      | .bad=>BF):=hpost
    cases ex:Pg.xs with
    |false=>rw[ex]at hp2;exact hp2.elim
    |true=>
      rw[ex]at hp2;have hp3:(match (if x.fs.isEmpty=Aa then (R.exn x:R D) else .bad) with
        |.ok d=>∀ v H',AN H H'->Ew K CL (Pg.defs id).fr H B H' v d->Q v H'
        |.exn x=>∀ cls dx H',AN H H'->MA K CL H' B cls dx x->E cls dx H'
        | .bad=>BF):=hp2
      by_cases hfs:x.fs.isEmpty=Aa
      · rw[AD hfs]at hp3;refine key (fun y H'=>y=x/\AN H H') (fun y cls H' ⟨e1,sm⟩ ⟨C,d1,d2⟩=>?_) ?_
        · subst e1;exact hp3 cls Af H' sm ⟨C,d1,d2,.inl (List.isEmpty_iff.mp hfs)⟩
        · rw[eo];exact fun H' sm=>⟨rfl,sm⟩
      · rw[AH hfs]at hp3;exact hp3.elim
theorem pQ(t:Tab K mg CL fns bl rzs exs gls Pg fuel){n:Ag}(hlv:∀ q∈fns,Lvl P w K mg base CL Pg n q){qual:Al}{st:Ca}{ps N:Ac Al}{m id:Ag}(h2:Fun K x qual st f fd)(h4:ps.length=m)(h5:Ih fuel Aa fns bl rzs exs gls ps N st (Pg.defs id)=Aa):HotOk P w K mg base (n+1) f fd ps (spH K CL m ((gam Pg (n+1)).fr id) ((gam Pg (n+1)).F id)):=by
 exfalso
 unfold Ih at h5;simp[VZ]at h5
theorem Qa(t:Tab K mg CL fns bl rzs exs gls Pg fuel):∀ n,∀ p∈fns,Lvl P w K mg base CL Pg n p
 |0,p,hp=>by
  obtain⟨f,fd,ps,qual,st,N,h1,h2,h3,h4,h5⟩:=t.fn p hp;exact⟨f,fd,ps,h1,h2.kp,h3,h4,fun _=>⟨fun vs H Q E ⟨ds,A,_,_,_,z⟩=>z.elim,fun A outer s H args us vs Q E _ _ _ _ ⟨ds,A,_,_,_,z⟩=>z.elim⟩,fun _=>⟨fun vs H Q E ⟨ds,A,_,_,_,z⟩=>z.elim,fun A ev outer s H args us vs Q E _ _ _ _ ⟨ds,A,_,_,_,z⟩=>z.elim⟩⟩
 |n+1,p,hp=>by
  obtain⟨f,fd,ps,qual,st,N,h1,h2,h3,h4,h5⟩:=t.fn p hp;refine⟨f,fd,ps,h1,h2.kp,h3,h4,fun hlt=>?_,fun hge=>?_⟩
  ·have eb:Ey 1000 p.2.2=Ae:=by
    cases e:Ey 1000 p.2.2 with
    |false=>rfl
    |true=>exact absurd (E8 e) (by omega)
   rw[eb]at h5;exact Vi t (fun q hq=>Qa t n q hq) h2 h4 h5
  ·rw[E7 hge]at h5;exact pQ t (fun q hq=>Qa t n q hq) h2 h4 h5
theorem rQ{s s':Aq}{e:Ai}(h:CXR P w [] H s (fun _ _ _=>BF) e s'):BF:=by
 obtain⟨_,_,_,_,_,_,_,_,_,_,_,_,_,_,z⟩:=h;exact z
theorem fU{up:Ag->Ac Ag}{xn:Ag->Ac D->R Ex}(h:∀ c ds,xn c ds=.bad):XT up xn (fun _=>Af) [] [] K mg:=⟨fun _ _ z=>(nomatch z),fun _ z=>(nomatch z),fun _ z=>(nomatch z),fun c ds=>.inl (h c ds),fun c _ ds=>h c ds⟩
def Mq(K:Fg):Sp:=fun vs H Q _=>∃(a:Ak)(ns:Ac Ad),vs=[.ref a]/\ns.length<=63/\SqL K H a (ns.map V.int)/\∀ v H',v=V.bl Aa->Q v H'
theorem law_fn(G:FnOk P w K mg base CX k f fd ps (spD K CL 1 Ae F))(h:∀ ns:Ac Ad,F [.lst (ns.map .int)]=.ok (.bl Aa)):FnOk P w K mg base CX k f fd ps (Mq K):=G.imp fun vs H Q E ⟨a,ns,e,hl,hS,q⟩=>by
 subst e;have rs:∀ l:Ac Ad,Reps K CL H A0 (l.map V.int) (l.map D.int):=fun l=>by
  induction l with
  |nil=>trivial
  |cons x l ih=>exact⟨rfl,ih⟩
 refine⟨[.lst (ns.map .int)],A0,rfl,fun _ z=>z.elim,⟨⟨a,_,rfl,.inl (fun z=>z),hS,rs ns⟩,trivial⟩,?_⟩
 rw[h ns];exact fun v H' _ r=>q v H' r.1
theorem gN(G:FnOk P w K mg base CX k f fd ps (spD K CL 1 Ae F))(h:∀ ns:Ac Ad,ns.length<=63->F [.lst (ns.map .int)]=.ok (.bl Aa)):FnOk P w K mg base CX k f fd ps (Mq K):=G.imp fun vs H Q E ⟨a,ns,e,hl,hS,q⟩=>by
 subst e;have rs:∀ l:Ac Ad,Reps K CL H A0 (l.map V.int) (l.map D.int):=fun l=>by
  induction l with
  |nil=>trivial
  |cons x l ih=>exact⟨rfl,ih⟩
 refine⟨[.lst (ns.map .int)],A0,rfl,fun _ z=>z.elim,⟨⟨a,_,rfl,.inl (fun z=>z),hS,rs ns⟩,trivial⟩,?_⟩
 rw[h ns hl];exact fun v H' _ r=>q v H' r.1
theorem PQ{Q:α->Prop}:∀ x∈([]:Ac α),Q x:=fun _ h=>nomatch h
theorem all_cons{Q:α->Prop}{a:α}{l:Ac α}(h1:Q a)(h2:∀ x∈l,Q x):∀ x∈a::l,Q x:=List.forall_mem_cons.2 ⟨h1,h2⟩
def FnI(K:Fg)(f:Ak)(n:Al)(st:Ca):Prop:=∃ fd,Fun K n n st f fd/\Cb K Bg n=Ab (Ab (.ref f))
theorem fni{st:Ca}{oc:Ai}{od an:Au Ak}{osl:AM (Au Ai)}{kV doc pm cdv ct:Ai}(a:Cb K Bg n=Ab (Ab (.ref f)))(l:K.lookup f=Ab ⟨oc,od,.func (EE n n (KS st) (IA st) (GV st) .none kV doc pm an cdv ct),osl⟩)(c:GS K cdv n=Aa)(k:DT K (.ref f)=Aa):FnI K f n st:=⟨_,pV l c k,a⟩
def Bd(n:Al)(st:Ca)(ps:Ac Al)(us:Ac Ai):Prop:=∀(kV doc pm:Ai)(an:Au Ak)(cdv ct:Ai),LG (EE n n (KS st) (IA st) (GV st) .none kV doc pm an cdv ct) ⟨us,[]⟩=pure (ps.zip us)
theorem Nl{st:Ca}{ps N:Ac Al}(m id:Ag)(X:K.In h)(G:h.Ns Bg mg)(A:FnI K f n st)(hl:ps.length=m%1000)(hc:Ih fuel (Ey 1000 m) fns bl rzs exs gls ps N st (Pg.defs id)=Aa)(hb:∀ us:Ac Ai,us.length=ps.length->Bd n st ps us):Li K mg fns bl rzs exs gls Pg fuel (n,id,m):=by
 obtain⟨fd,F,a⟩:=A;exact⟨_,_,_,_,_,_,Jn X G a,F,F.binds fun kV doc pm an cdv ct us hu=>hb us hu kV doc pm an cdv ct,hl,hc⟩
theorem Kb{st:Ca}{N:Ac Al}(m id:Ag)(X:K.In h)(G:h.Ns Bg mg)(A:FnI K f n st)(hl:1=m%1000)(hc:Ih fuel (Ey 1000 m) fns bl rzs exs gls [x0] N st (Pg.defs id)=Aa)(hb:∀ u0,Bd n st [x0] [u0]):Li K mg fns bl rzs exs gls Pg fuel (n,id,m):=
 Nl (ps:=[x0]) m id X G A hl hc fun us hu=>match us,hu with | [u0],_=>hb u0
theorem ER{st:Ca}{N:Ac Al}(m id:Ag)(X:K.In h)(G:h.Ns Bg mg)(A:FnI K f n st)(hl:2=m%1000)(hc:Ih fuel (Ey 1000 m) fns bl rzs exs gls [x0,x1] N st (Pg.defs id)=Aa)(hb:∀ u0 u1,Bd n st [x0,x1] [u0,u1]):Li K mg fns bl rzs exs gls Pg fuel (n,id,m):=
 Nl (ps:=[x0,x1]) m id X G A hl hc fun us hu=>match us,hu with | [u0,u1],_=>hb u0 u1
theorem FB{st:Ca}{N:Ac Al}{x2:Al}(m id:Ag)(X:K.In h)(G:h.Ns Bg mg)(A:FnI K f n st)(hl:3=m%1000)(hc:Ih fuel (Ey 1000 m) fns bl rzs exs gls [x0,x1,x2] N st (Pg.defs id)=Aa)(hb:∀ u0 u1 u2,Bd n st [x0,x1,x2] [u0,u1,u2]):Li K mg fns bl rzs exs gls Pg fuel (n,id,m):=
 Nl (ps:=[x0,x1,x2]) m id X G A hl hc fun us hu=>match us,hu with | [u0,u1,u2],_=>hb u0 u1 u2
theorem Ro{st:Ca}{N:Ac Al}{x2 x3:Al}(m id:Ag)(X:K.In h)(G:h.Ns Bg mg)(A:FnI K f n st)(hl:4=m%1000)(hc:Ih fuel (Ey 1000 m) fns bl rzs exs gls [x0,x1,x2,x3] N st (Pg.defs id)=Aa)(hb:∀ u0 u1 u2 u3,Bd n st [x0,x1,x2,x3] [u0,u1,u2,u3]):Li K mg fns bl rzs exs gls Pg fuel (n,id,m):=
 Nl (ps:=[x0,x1,x2,x3]) m id X G A hl hc fun us hu=>match us,hu with | [u0,u1,u2,u3],_=>hb u0 u1 u2 u3
end
end Ov
namespace OvC
open PySem Ov
variable{p t k i j lo:Ad}{xs ns:Ac Ad}{m n i' mid w:Ag}{Γ:Gam}{L:Ac D}{α:Type}
noncomputable def OX:Df:=⟨4,Ae,(.cons (.ret (.call 1 (.cons (.var 0) (.cons (.bin .Add (.bin .Sub (.bin .Mult (.idx (.var 1) (.int 0)) (.bin .Sub (.bin .Mult (.idx (.var 2) (.int 1)) (.idx (.var 3) (.int 2))) (.bin .Mult (.idx (.var 2) (.int 2)) (.idx (.var 3) (.int 1))))) (.bin .Mult (.idx (.var 1) (.int 1)) (.bin .Sub (.bin .Mult (.idx (.var 2) (.int 0)) (.idx (.var 3) (.int 2))) (.bin .Mult (.idx (.var 2) (.int 2)) (.idx (.var 3) (.int 0)))))) (.bin .Mult (.idx (.var 1) (.int 2)) (.bin .Sub (.bin .Mult (.idx (.var 2) (.int 0)) (.idx (.var 3) (.int 1))) (.bin .Mult (.idx (.var 2) (.int 1)) (.idx (.var 3) (.int 0)))))) .nil)))) .nil)⟩
noncomputable abbrev tr(a b c:Ad):D:=.tup [.int a,.int b,.int c]
noncomputable def det(a0 a1 a2 b0 b1 b2 c0 c1 c2:Ad):Ad:=a0*(b1*c2-b2*c1)-a1*(b0*c2-b2*c0)+a2*(b0*c1-b1*c0)
def Sm(x:Ad):Prop:=0<=x/\x<11
theorem yR{x y:Ad}(q:Ad)(h:x=y+p*q):x%p=y%p:=by rw[h,Fp]
theorem Sm.of(h:P4 p)(x:Ad):Sm (x%p):=⟨Be _ (by have:=h.pos;omega),by have:=A4 x h.pos;have:=h.hi;omega⟩
theorem Sg{body:D->Rho->O}(I:Rho->Prop)(g:Ad->Ap):∀(L:Ac Ad),(∀ t∈L,∀ ρ,I ρ->(g t=Aa/\body (.int t) ρ=.ret (.int t) Ae)\/(g t=Ae/\∃ ρ',body (.int t) ρ=.next ρ'/\I ρ'))->∀ ρ,I ρ->(∃ t∈L,g t=Aa/\DW body (L.map D.int) ρ=.ret (.int t) Ae)\/((∀ t∈L,g t=Ae)/\∃ ρ',DW body (L.map D.int) ρ=.next ρ'/\I ρ')
 |[],_,ρ,i=>.inr ⟨(fun _ h=>nomatch h),ρ,rfl,i⟩
 |m::L,h,ρ,i=>by
  rcases h m (AB ..) ρ i with ⟨e1,e2⟩|⟨e1,ρ',e2,i'⟩
  ·refine .inl ⟨m,AB ..,e1,?_⟩;show (body (.int m) ρ).turn _=_;rw[e2];rfl
  ·rcases Sg I g L (fun m' h'=>h m' (Av _ h')) ρ' i' with ⟨t,ht,a,b⟩|⟨a,r,b,c⟩
   ·refine .inl ⟨t,Av _ ht,a,?_⟩;show (body (.int m) ρ).turn _=_;rw[e2];exact b
   ·refine .inr ⟨fun t ht=>?_,r,?_,c⟩
    ·rcases Ay.mp ht with rfl|ht
     ·exact e1
     ·exact a t ht
    ·show (body (.int m) ρ).turn _=_;rw[e2];exact b
noncomputable def KD:Ss:=(.cons (.ife (.cmp .Eq (.call 1 (.cons (.var 0) (.cons (.bin .Mult (.var 1) (.var 2)) .nil))) (.int 1)) (.cons (.ret (.var 2)) .nil) .nil) .nil)
noncomputable def MJ:Df:=⟨3,Ae,(.cons (.fors 2 (.rng2 (.int 1) (.var 0)) KD) (.cons (.rais 2 (.cons (.str (AK "a number with the rest 0 is not turned over")) .nil)) .nil))⟩
noncomputable def GK(p:Ad):Ac Ad:=(Bl (p-1).toNat).map fun(k:Ag)=>1+(k:Ad)
theorem KN:t∈GK p↔1<=t/\t<p:=by
 unfold GK;rw[CZ];constructor
 ·rintro⟨k,hk,rfl⟩;have:=DQ.mp hk;omega
 ·rintro⟨h1,h2⟩;exact⟨(t-1).toNat,DQ.mpr (by omega),by omega⟩
theorem Tg(h:P4 p):DA 1 p=.ok ((GK p).map D.int):=by
 rcases h with rfl|rfl|rfl|rfl<;>rfl
theorem kS:∀ p:Fin 12,(p.val=3\/p.val=5\/p.val=7\/p.val=11)->∀ r:Fin 12,r.val<p.val->r.val≠0->∃ t:Fin 12,1<=t.val/\t.val<p.val/\r.val*t.val%p.val=1:=by decide +kernel
theorem HX{n:Ad}(h:P4 p)(hn:n%p≠0):∃ t,1<=t/\t<p/\n*t%p=1:=by
 have p0:0<p/\p<12:=by rcases h with rfl|rfl|rfl|rfl<;>decide
 obtain⟨q,rfl⟩:∃ q:Ag,p=q:=⟨p.toNat,by omega⟩
 have h0:=Be n (b:=(q:Ad)) (by omega)
 have h1:=A4 n p0.1;obtain⟨r,hr⟩:∃ r:Ag,n%(q:Ad)=r:=⟨(n%(q:Ad)).toNat,by omega⟩
 obtain⟨t,t1,t2,t3⟩:=kS ⟨q,by omega⟩ (by rcases h with e|e|e|e<;>simp<;>omega) ⟨r,by omega⟩ (by show r<q;omega) (by show r≠0;omega)
 refine⟨(t.val:Ad),by omega,by show (t.val:Ad)<q;exact Int.ofNat_lt.mpr t2,?_⟩
 have e:((r*t.val%q:Ag):Ad)=1:=by rw[show r*t.val%q=1 from t3];rfl
 rw[<-e,Int.natCast_emod,Int.natCast_mul,<-hr];exact(AW n _ _).trans (by rw[AW (n%(q:Ad)) (t.val:Ad) (q:Ad),AV n (By _)])
theorem Co{r:R D}{d:D}(h:r=.ok d):ES Aa r=.ok d:=by rw[h];rfl
def D8(p n t:Ad):Prop:=1<=t/\t<p/\n*t%p=1
theorem SM{n u:Ad}(h1:D8 p n t)(h2:D8 p n u):t=u:=by
 have hp:1<p:=by have:=h1.1;have:=h1.2.1;omega
 have e:t%p=u%p:=by
  have a:t%p=t*(n*u)%p:=by rw[AW,h2.2.2,DY,AV _ (By p)]
  have b:u%p=(n*t)*u%p:=by rw[AW (n*t) u p,h1.2.2,CG,AV _ (By p)]
  rw[a,b]
  congr 1
  rw[<-F8,BS t n]
 rw[AO (by have:=h1.1;omega) h1.2.1,AO (by have:=h2.1;omega) h2.2.1]at e
 exact e
theorem BO{c x:Ad}(hp:P4 p)(hc:c%p≠0)(hx:x%p≠0):c*x%p≠0:=fun z=>by
 obtain⟨t,_,_,e⟩:=HX hp hc;refine hx ?_;have e1:x%p=(c*t)*x%p:=by rw[AW (c*t) x p,e,CG,AV _ (By p)]
 rw[e1,show c*t*x=t*(c*x) by rw[BS c t,F8],AW,z,DC,A7]
noncomputable def AY(p:Ad):Ac Ad->Au Ad
 |[]=>Af
 |x::xs=>if x%p=0 then AY p xs else Ab (x%p)
theorem LV{p:Ad}:∀{xs:Ac Ad},AY p xs=Af↔∀ x∈xs,x%p=0
 |[]=>by simp[AY]
 |x::xs=>by
  unfold AY;by_cases h:x%p=0
  ·rw[AD h,LV (xs:=xs)];simp[h]
  ·rw[AH h];simp[h]
theorem IZ{p l:Ad}(hp:0<p):∀{xs:Ac Ad},AY p xs=Ab l->l%p≠0/\0<l/\l<p
 |[],h=>by cases h
 |x::xs,h=>by
  unfold AY at h;by_cases hx:x%p=0
  ·rw[AD hx]at h;exact IZ hp h
  ·rw[AH hx]at h;cases h;have h0:=Be x (b:=p) (by omega)
   have h1:=A4 x hp;exact⟨by rw[AV _ (By p)];exact hx,by omega,h1⟩
theorem J2{p c:Ad}(hp:P4 p)(hc:c%p≠0){f:Ad->Ad}(hf:∀ x,f x%p=c*x%p):∀ xs:Ac Ad,AY p (xs.map f)=(AY p xs).map fun l=>c*l%p
 |[]=>rfl
 |x::xs=>by
  rw[Ch];unfold AY;rw[hf x];by_cases hx:x%p=0
  ·rw[AD hx,AD (by rw[AW,hx,DC,A7]),J2 hp hc hf xs]
  ·rw[AH hx,AH (BO hp hc hx),E0]
   congr 1
   rw[AW c (x%p),AV _ (By p),<-AW]
noncomputable def ds(xs:Ac Ad):Ac D:=xs.map D.int
noncomputable def Dv(b:Ap)(xs:Ac Ad):D:=if b=Aa then .tup (ds xs) else .lst (ds xs)
theorem OJ(b xs):CI (Dv b xs)=.ok (ds xs):=by unfold Dv;cases b<;>rfl
theorem KH{g:D->R Ap}{f:D->R D}{φ:Ad->Ad}:∀(xs:Ac Ad),(∀ x∈xs,g (.int x)=.ok Aa/\f (.int x)=.ok (.int (φ x)))->BP g f (ds xs)=.ok (ds (xs.map φ))
 |[],_=>rfl
 |x::xs,h=>by
  obtain⟨h1,h2⟩:=h x (AB ..);show (g (.int x)).bind _=_;rw[h1,R.bind_ok,AD rfl,h2,R.bind_ok];show (BP g f (ds xs)).bind _=_;rw[KH xs fun y hy=>h y (Av _ hy)]
  rfl
noncomputable def CM:E:=(.bl Aa)
noncomputable def Oq:E:=(.call 1 (.cons (.var 0) (.cons (.var 5) .nil)))
noncomputable def Op:E:=(.call 1 (.cons (.var 0) (.cons (.bin .Mult (.var 4) (.var 6)) .nil)))
noncomputable def HR:Ss:=(.cons (.ife (.cmp .NotEq (.var 3) (.int 0)) (.cons (.asg 4 Ae (.call 9 (.cons (.var 0) (.cons (.var 3) .nil)))) (.cons (.ret (.bi .tuple (.cons (.comp Op 6 (.e (.var 2)) CM) .nil))) .nil)) .nil) .nil)
noncomputable def MM:Df:=⟨7,Ae,(.cons (.asg 2 Ae (.comp Oq 5 (.e (.var 1)) CM)) (.cons (.fors 3 (.e (.var 2)) HR) (.cons (.rais 3 (.cons (.str (AK "all the numbers have the rest 0")) .nil)) .nil)))⟩
noncomputable def fmI(p t:Ad)(xs:Ac Ad):Ac Ad:=xs.map fun x=>t*(x%p)%p
section
variable{Γ:Gam}{p:Ad}{xs:Ac Ad}{b:Ap}
end
theorem MR{g:D->R Ap}{f:D->R D}{q:Ad->Ap}:∀(xs:Ac Ad),(∀ x∈xs,g (.int x)=.ok (q x)/\f (.int x)=.ok (.int x))->BP g f (ds xs)=.ok (ds (xs.filter q))
 |[],_=>rfl
 |x::xs,h=>by
  obtain⟨h1,h2⟩:=h x (AB ..);have ih:=MR xs fun y hy=>h y (Av _ hy)
  show (g (.int x)).bind _=_;rw[h1,R.bind_ok];cases hq:q x with
  |true=>
   rw[AD rfl,h2,R.bind_ok,DO,hq,AD rfl];show (BP g f (ds xs)).bind _=_;rw[ih];rfl
  |false=>
   rw[AH (by decide),DO,hq,AH (by decide)]
   exact ih
theorem ZM{p l t:Ad}(it:D8 p l t):((GK p).filter fun k=>decide (k*l%p=1)).head?=Ab t:=by
 have hm:t∈(GK p).filter fun k=>decide (k*l%p=1):=AR.mpr ⟨KN.mpr ⟨it.1,it.2.1⟩,by simp[BS t l,it.2.2]⟩
 cases e:(GK p).filter fun k=>decide (k*l%p=1) with
 |nil=>rw[e]at hm;cases hm
 |cons u us=>
  have hu:u∈(GK p).filter fun k=>decide (k*l%p=1):=by rw[e];exact AB ..
  obtain⟨h1,h2⟩:=AR.mp hu;obtain⟨a,b⟩:=KN.mp h1;have h3:u*l%p=1:=by simpa using h2
  rw[SM it ⟨a,b,by rw[BS];exact h3⟩]
  rfl
theorem OO{l:Ad}(h:xs.head?=Ab l):DI (ds xs) 0=.ok (.int l):=by
 cases xs with
 |nil=>cases h
 |cons x xs=>cases h;exact M7 (by omega) rfl
theorem Qt:∀ xs:Ac Ad,eqDs (ds xs) (ds xs)=Aa
 |[]=>rfl
 |x::xs=>by
  show (eqD (.int x) (.int x)&&eqDs (ds xs) (ds xs))=Aa;rw[Qt xs];simp
theorem TW:∀ xs:Ac Ad,Hr (xs.map fun _=>D.bl Aa)=.ok Aa
 |[]=>rfl
 |x::xs=>by
  rw[Ch,OK,TW xs];rfl
theorem UL{g:D->R Ap}{f:D->R D}:∀(xs:Ac Ad),(∀ x∈xs,g (.int x)=.ok Aa/\f (.int x)=.ok (.bl Aa))->BP g f (ds xs)=.ok (xs.map fun _=>D.bl Aa)
 |[],_=>rfl
 |x::xs,h=>by
  obtain⟨h1,h2⟩:=h x (AB ..);show (g (.int x)).bind _=_;rw[h1,R.bind_ok,AD rfl,h2,R.bind_ok];show (BP g f (ds xs)).bind _=_;rw[UL xs fun y hy=>h y (Av _ hy)]
  rfl
noncomputable abbrev own(xs:Ac Ad):Sl:=Ab (.lst (ds xs),Aa)
section
variable{Γ:Gam}{ns:Ac Ad}{a1 a2 a4 a6 a7 a8 a9 b0 b1 b2 b3 b4:Sl}{p:Ad}
end
theorem cJ{p c l t:Ad}(hp:P4 p)(hc:c%p≠0)(hl:l%p≠0)(it:D8 p l t){f:Ad->Ad}(hf:∀ x,f x%p=c*x%p)(xs:Ac Ad):∃ u,D8 p (c*l%p) u/\fmI p u (xs.map f)=fmI p t xs:=by
 have h1:(c*l%p)%p≠0:=by rw[AV _ (By p)];exact BO hp hc hl
 obtain⟨u,u1,u2,u3⟩:=HX hp h1;refine⟨u,⟨u1,u2,u3⟩,?_⟩;unfold fmI;rw[FK];refine EJ fun x _=>?_
 show u*(f x%p)%p=t*(x%p)%p;have u4:c*l*u%p=1:=by rw[<-u3,AW (c*l%p) u p,AV _ (By p),<-AW]
 have e1:u*(f x%p)%p=u*(c*x)%p:=by rw[hf,AW u (c*x%p) p,AV _ (By p),<-AW]
 have e2:t*(x%p)%p=t*x%p:=by rw[AW t (x%p) p,AV _ (By p),<-AW]
 have e3:u*(c*x)%p=(l*t)*(u*(c*x))%p:=by rw[AW (l*t) _ p,it.2.2,CG,AV _ (By p)]
 have e4:t*x%p=(c*l*u)*(t*x)%p:=by rw[AW (c*l*u) _ p,u4,CG,AV _ (By p)]
 rw[e1,e2,e3,e4]
 congr 1
 grind
section
variable{Γ:Gam}{ns:Ac Ad}{a1 a4 a6 a7 a8 a9 b2 b3 b4:Sl}{p m:Ad}{xs:Ac Ad}
end
def Cg(p x y:Ad):Prop:=x%p=y%p
section
variable{p a b c d:Ad}
theorem Cg.rfl:Cg p a a:=Eq.refl _
theorem Cg.of(h:a=b):Cg p a b:=by unfold Cg;rw[h]
theorem Cg.trans{a b c:Ad}(h:Cg p a b)(g:Cg p b c):Cg p a c:=Eq.trans h g
theorem Cg.symm(h:Cg p a b):Cg p b a:=Eq.symm h
theorem Cg.add(h:Cg p a b)(g:Cg p c d):Cg p (a+c) (b+d):=by unfold Cg at *;rw[Wy,h,g,<-Wy]
theorem Cg.sub(h:Cg p a b)(g:Cg p c d):Cg p (a-c) (b-d):=by unfold Cg at *;rw[Jp,h,g,<-Jp]
theorem Cg.mul(h:Cg p a b)(g:Cg p c d):Cg p (a*c) (b*d):=by unfold Cg at *;rw[AW,h,g,<-AW]
theorem Cg.md(h:a=b%p):Cg p a b:=by unfold Cg;rw[h,AV _ (By p)]
theorem Cg.far(q:Ad)(h:a=b+p*q):Cg p a b:=yR q h
end
theorem HY{p a0 a1 a2 b0 b1 b2 c0 c1 c2 x0 x1 x2 y0 y1 y2 z0 z1 z2:Ad}(h0:Cg p a0 x0)(h1:Cg p a1 x1)(h2:Cg p a2 x2)(h3:Cg p b0 y0)(h4:Cg p b1 y1)(h5:Cg p b2 y2)(h6:Cg p c0 z0)(h7:Cg p c1 z1)(h8:Cg p c2 z2):Cg p (a0*(b1*c2-b2*c1)-a1*(b0*c2-b2*c0)+a2*(b0*c1-b1*c0)) (x0*(y1*z2-y2*z1)-x1*(y0*z2-y2*z0)+x2*(y0*z1-y1*z0)):=
 ((h0.mul ((h4.mul h8).sub (h5.mul h7))).sub (h1.mul ((h3.mul h8).sub (h5.mul h6)))).add (h2.mul ((h3.mul h7).sub (h4.mul h6)))
theorem P4.m1(h:P4 p):(-1:Ad)%p≠0:=by rcases h with rfl|rfl|rfl|rfl<;>decide
theorem P4.o1(h:P4 p):(1:Ad)%p≠0:=by rcases h with rfl|rfl|rfl|rfl<;>decide
abbrev R3:=Ad×Ad×Ad
variable{a y' x y x' r g:R3}
noncomputable def Bm(a:R3):D:=.lst [.int a.1,.int a.2.1,.int a.2.2]
noncomputable def Aj(a b c:R3):Ad:=det a.1 a.2.1 a.2.2 b.1 b.2.1 b.2.2 c.1 c.2.1 c.2.2
def In3(p:Ad)(a:R3):Prop:=(0<=a.1/\a.1<p)/\(0<=a.2.1/\a.2.1<p)/\(0<=a.2.2/\a.2.2<p)
structure GoodR (p:Ad) (a b c:R3):Prop where
 p4:P4 p
 ia:In3 p a
 ib:In3 p b
 ic:In3 p c
 nz:Aj a b c%p≠0
theorem GoodR.of{a b c a' b' c':R3}(h:GoodR p a b c)(hk:k%p≠0)(e:Cg p (Aj a' b' c') (k*Aj a b c))(hin:In3 p a'/\In3 p b'/\In3 p c'):GoodR p a' b' c':=⟨h.p4,hin.1,hin.2.1,hin.2.2,by rw[show Aj a' b' c'%p=_ from e];exact BO h.p4 hk h.nz⟩
noncomputable def Kc(t:Ad)(a:R3):R3:=(a.1*t,a.2.1*t,a.2.2*t)
noncomputable def G4(t:Ad)(a b:R3):R3:=(a.1+t*b.1,a.2.1+t*b.2.1,a.2.2+t*b.2.2)
noncomputable def mdR(p:Ad)(a:R3):R3:=(a.1%p,a.2.1%p,a.2.2%p)
noncomputable def scR(p t:Ad)(a:R3):R3:=mdR p (Kc t a)
noncomputable def adR(p t:Ad)(a b:R3):R3:=mdR p (G4 t a b)
theorem VO(h:0<p)(a:R3):In3 p (mdR p a):=⟨⟨Be _ (by omega),A4 _ h⟩,⟨Be _ (by omega),A4 _ h⟩,⟨Be _ (by omega),A4 _ h⟩⟩
theorem Lc(h:0<p)(t:Ad)(a:R3):In3 p (scR p t a):=VO h _
theorem K9(h:0<p)(t:Ad)(a b:R3):In3 p (adR p t a b):=VO h _
theorem Rk(p t:Ad)(a b c:R3):Cg p (Aj (scR p t a) b c) (t*Aj a b c):=by
 refine Cg.trans (b:=Aj (Kc t a) b c) ?_ (Cg.of (by unfold Aj det Kc;grind))
 unfold Aj det;exact HY (Cg.md (by rfl)) (Cg.md (by rfl)) (Cg.md (by rfl)) Cg.rfl Cg.rfl Cg.rfl Cg.rfl Cg.rfl Cg.rfl
theorem yZ(p t:Ad)(a b c:R3):Cg p (Aj (adR p t a b) b c) (1*Aj a b c):=by
 refine Cg.trans (b:=Aj (G4 t a b) b c) ?_ (Cg.of (by unfold Aj det G4;grind))
 unfold Aj det;exact HY (Cg.md (by rfl)) (Cg.md (by rfl)) (Cg.md (by rfl)) Cg.rfl Cg.rfl Cg.rfl Cg.rfl Cg.rfl Cg.rfl
theorem yY(p t:Ad)(a b c:R3):Cg p (Aj (adR p t a c) b c) (1*Aj a b c):=by
 refine Cg.trans (b:=Aj (G4 t a c) b c) ?_ (Cg.of (by unfold Aj det G4;grind))
 unfold Aj det;exact HY (Cg.md (by rfl)) (Cg.md (by rfl)) (Cg.md (by rfl)) Cg.rfl Cg.rfl Cg.rfl Cg.rfl Cg.rfl Cg.rfl
theorem Rj(p t:Ad)(a b c:R3):Cg p (Aj a (scR p t b) c) (t*Aj a b c):=by
 refine Cg.trans (b:=Aj a (Kc t b) c) ?_ (Cg.of (by unfold Aj det Kc;grind))
 unfold Aj det;exact HY Cg.rfl Cg.rfl Cg.rfl (Cg.md (by rfl)) (Cg.md (by rfl)) (Cg.md (by rfl)) Cg.rfl Cg.rfl Cg.rfl
theorem yX(p t:Ad)(a b c:R3):Cg p (Aj a (adR p t b a) c) (1*Aj a b c):=by
 refine Cg.trans (b:=Aj a (G4 t b a) c) ?_ (Cg.of (by unfold Aj det G4;grind))
 unfold Aj det;exact HY Cg.rfl Cg.rfl Cg.rfl (Cg.md (by rfl)) (Cg.md (by rfl)) (Cg.md (by rfl)) Cg.rfl Cg.rfl Cg.rfl
theorem yW(p t:Ad)(a b c:R3):Cg p (Aj a (adR p t b c) c) (1*Aj a b c):=by
 refine Cg.trans (b:=Aj a (G4 t b c) c) ?_ (Cg.of (by unfold Aj det G4;grind))
 unfold Aj det;exact HY Cg.rfl Cg.rfl Cg.rfl (Cg.md (by rfl)) (Cg.md (by rfl)) (Cg.md (by rfl)) Cg.rfl Cg.rfl Cg.rfl
theorem Ri(p t:Ad)(a b c:R3):Cg p (Aj a b (scR p t c)) (t*Aj a b c):=by
 refine Cg.trans (b:=Aj a b (Kc t c)) ?_ (Cg.of (by unfold Aj det Kc;grind))
 unfold Aj det;exact HY Cg.rfl Cg.rfl Cg.rfl Cg.rfl Cg.rfl Cg.rfl (Cg.md (by rfl)) (Cg.md (by rfl)) (Cg.md (by rfl))
theorem yV(p t:Ad)(a b c:R3):Cg p (Aj a b (adR p t c a)) (1*Aj a b c):=by
 refine Cg.trans (b:=Aj a b (G4 t c a)) ?_ (Cg.of (by unfold Aj det G4;grind))
 unfold Aj det;exact HY Cg.rfl Cg.rfl Cg.rfl Cg.rfl Cg.rfl Cg.rfl (Cg.md (by rfl)) (Cg.md (by rfl)) (Cg.md (by rfl))
theorem yU(p t:Ad)(a b c:R3):Cg p (Aj a b (adR p t c b)) (1*Aj a b c):=by
 refine Cg.trans (b:=Aj a b (G4 t c b)) ?_ (Cg.of (by unfold Aj det G4;grind))
 unfold Aj det;exact HY Cg.rfl Cg.rfl Cg.rfl Cg.rfl Cg.rfl Cg.rfl (Cg.md (by rfl)) (Cg.md (by rfl)) (Cg.md (by rfl))/-! ### draws -/
theorem kY(h0:0<=k)(h1:k<ns.length):DI (ns.map D.int) k=.ok (.int (ns.getD k.toNat 0)):=M7 h0 (by
 have:k.toNat<ns.length:=by omega
 simp[this])
noncomputable abbrev ownR(a b c:R3):Sl:=Ab (.lst [Bm a,Bm b,Bm c],Aa)
section
variable{Γ:Gam}{ns:Ac Ad}{at_ many s5 s0 s1 s2:Sl}{p t m:Ad}{a b c:R3}
end
section
variable{Γ:Gam}{ns:Ac Ad}{many s5 s6 s7 s8 s9 s0 s1 s2:Sl}{p:Ad}{a b c:R3}
end
noncomputable def Fd(a b c:R3):D:=.lst [Bm a,Bm b,Bm c]
noncomputable def nine(a b c:R3):Ac Ad:=[a.1,a.2.1,a.2.2,b.1,b.2.1,b.2.2,c.1,c.2.1,c.2.2]
noncomputable def trR(a:R3):D:=.tup [.int a.1,.int a.2.1,.int a.2.2]
noncomputable def A1(a b c:R3):D:=.tup [trR a,trR b,trR c]
noncomputable def fmR(p t:Ad)(a:R3):R3:=(t*(a.1%p)%p,t*(a.2.1%p)%p,t*(a.2.2%p)%p)
theorem UB(p t:Ad)(a b c:R3):fmI p t (nine a b c)=nine (fmR p t a) (fmR p t b) (fmR p t c):=rfl
theorem MW{a b c:R3}(h:Aj a b c%p≠0):∃ l,AY p (nine a b c)=Ab l:=by
 cases e:AY p (nine a b c) with
 |some l=>exact⟨l,rfl⟩
 |none=>
  refine absurd ?_ h;have z:=LV.mp e;have q:∀ x∈nine a b c,Cg p x 0:=fun x hx=>by
   have:=z x hx;show x%p=0%p;rw[this];simp
  have:=HY (p:=p) (q a.1 (by simp[nine])) (q a.2.1 (by simp[nine])) (q a.2.2 (by simp[nine])) (q b.1 (by simp[nine])) (q b.2.1 (by simp[nine])) (q b.2.2 (by simp[nine])) (q c.1 (by simp[nine])) (q c.2.1 (by simp[nine])) (q c.2.2 (by simp[nine]))
  have e2:Aj a b c%p=(0*(0*0-0*0)-0*(0*0-0*0)+0*(0*0-0*0))%p:=this;rw[e2];simp
theorem YO(a b c:R3):slD (.tup (ds (nine a b c))) Af (Ab 3)=.ok (trR a)/\slD (.tup (ds (nine a b c))) (Ab 3) (Ab 6)=.ok (trR b)/\slD (.tup (ds (nine a b c))) (Ab 6) Af=.ok (trR c):=⟨rfl,rfl,rfl⟩
theorem dW(a b c:R3):Dp .Add (Bm a) (Bm b)=.ok (.lst [.int a.1,.int a.2.1,.int a.2.2,.int b.1,.int b.2.1,.int b.2.2])/\Dp .Add (.lst [.int a.1,.int a.2.1,.int a.2.2,.int b.1,.int b.2.1,.int b.2.2]) (Bm c)=.ok (.lst (ds (nine a b c))):=⟨rfl,rfl⟩
def Bd(n:Ag)(x:Ad):Prop:=x.natAbs<2 ^ n
theorem Bd.mul{x y:Ad}(h:Bd m x)(g:Bd n y):Bd (m+n) (x*y):=by
 unfold Bd at *;rw[Int.natAbs_mul,Nat.pow_add];exact Nat.mul_lt_mul'' h g
theorem Bd.sub{x y:Ad}(h:Bd n x)(g:Bd n y):Bd (n+1) (x-y):=by
 unfold Bd at *;rw[Nat.pow_succ];omega
theorem G0{x y:Ad}(h:Bd m x)(g:Bd n y)(hm:m<=2000)(hn:n<=2000):Fl x y=Aa:=by
 unfold Fl Bd at *;rw[Am,AI,AI];exact⟨Az h (Gw (by decide) hm),Az g (Gw (by decide) hn)⟩
def B3(a:R3):Prop:=Bd 300 a.1/\Bd 300 a.2.1/\Bd 300 a.2.2
noncomputable def An(q:Ap)(a:R3):D:=Dv q [a.1,a.2.1,a.2.2]
theorem HV(q:Ap)(a:R3):B7 (An q a) (.int 0)=.ok (.int a.1)/\B7 (An q a) (.int 1)=.ok (.int a.2.1)/\B7 (An q a) (.int 2)=.ok (.int a.2.2):=by cases q<;>exact⟨rfl,rfl,rfl⟩
def KU(Γ:Gam):Prop:=∀(p:Ad)(q:Ap)(a b c:R3),0<p->B3 a->B3 b->B3 c->Γ.F 61 [.int p,An q a,An q b,An q c]=.ok (.int (Aj a b c%p))
theorem iJ(h:IC Γ)(p:Ad)(q:Ap)(a b c:R3)(hp:0<p)(ha:B3 a)(hb:B3 b)(hc:B3 c):OX.run Γ [.int p,An q a,An q b,An q c]=.ok (.int (Aj a b c%p)):=by
 obtain⟨a0,a1,a2⟩:=HV q a;obtain⟨b0,b1,b2⟩:=HV q b;obtain⟨c0,c1,c2⟩:=HV q c;have k:∀ {x y},Bd 300 x->Bd 300 y->Fl x y=Aa:=fun hx hy=>G0 hx hy (by decide) (by decide)
 have k2:∀ {x y z u v},Bd 300 x->Bd 300 y->Bd 300 z->Bd 300 u->Bd 300 v->Fl x (y*z-u*v)=Aa:=fun hx hy hz hu hv=>G0 hx ((hy.mul hz).sub (hu.mul hv)) (by decide) (by decide)
 simp[OX,Df.run,BB,a0,a1,a2,b0,b1,b2,c0,c1,c2,k hb.2.1 hc.2.2,k hb.2.2 hc.2.1,k hb.1 hc.2.2,k hb.2.2 hc.1,k hb.1 hc.2.1,k hb.2.1 hc.1,k2 ha.1 hb.2.1 hc.2.2 hb.2.2 hc.2.1,k2 ha.2.1 hb.1 hc.2.2 hb.2.2 hc.1,k2 ha.2.2 hb.1 hc.2.1 hb.2.1 hc.1,h p _ hp];rfl
noncomputable def OG:Df:=⟨3,Ae,(.cons (.ife (.cmp .Eq (.call 61 (.cons (.var 0) (.cons (.idx (.var 1) (.int 0)) (.cons (.idx (.var 1) (.int 1)) (.cons (.idx (.var 1) (.int 2)) .nil))))) (.int 0)) (.cons (.rais 4 (.cons (.str (AK "the measure of the rows is 0")) .nil)) .nil) .nil) (.cons (.asg 2 Ae (.call 17 (.cons (.var 0) (.cons (.bin .Add (.bin .Add (.bi .list (.cons (.idx (.var 1) (.int 0)) .nil)) (.bi .list (.cons (.idx (.var 1) (.int 1)) .nil))) (.bi .list (.cons (.idx (.var 1) (.int 2)) .nil))) .nil)))) (.cons (.ret (.tup (.cons (.sl (.var 2) .non (.int 3)) (.cons (.sl (.var 2) (.int 3) (.int 6)) (.cons (.sl (.var 2) (.int 6) .non) .nil))))) .nil)))⟩
theorem qC(q:Ap)(a:R3):biD .list [An q a]=.ok (Bm a):=by cases q<;>rfl
section
variable{Γ:Gam}{ns:Ac Ad}{p t:Ad}{a b c r:R3}{made s6 s7:Sl}
end
theorem ML{p:Ad}:∀{xs ys:Ac Ad},xs.map (fun x=>x%p)=ys.map (fun x=>x%p)->AY p xs=AY p ys
 |[],[],_=>rfl
 |x::xs,y::ys,h=>by
  rw[Ch,Ch,Ii]at h;unfold AY;rw[h.1,ML h.2]
 |[],_::_,h=>by simp at h
 |_::_,[],h=>by simp at h
theorem S6{ys:Ac Ad}(h:xs.map (fun x=>x%p)=ys.map (fun x=>x%p)):fmI p t xs=fmI p t ys:=by
 have e:∀ zs:Ac Ad,fmI p t zs=(zs.map fun x=>x%p).map fun r=>t*r%p:=fun zs=>by simp[fmI,FK,Wx]
 rw[e,e,h]
theorem cI{a b c a' b' c':R3}(h:nine a b c=nine a' b' c'):a=a'/\b=b'/\c=c':=by
 unfold nine at h;simp only[Ii,and_true]at h;obtain⟨h1,h2,h3,h4,h5,h6,h7,h8,h9⟩:=h;exact⟨Bs h1 (Bs h2 h3),Bs h4 (Bs h5 h6),Bs h7 (Bs h8 h9)⟩
theorem G1(hp:0<p)(t:Ad)(a:R3):In3 p (fmR p t a):=⟨⟨Be _ (by omega),A4 _ hp⟩,⟨Be _ (by omega),A4 _ hp⟩,⟨Be _ (by omega),A4 _ hp⟩⟩
section
variable{Γ:Gam}{ns:Ac Ad}{p m:Ad}{a b c:R3}{fa fb fc:R3}{q:Ap}{s9 s0 s1 s2:Sl}
theorem sP(a b c:R3):flD 5 (A1 a b c)=Aa/\eqD (A1 a b c) (A1 a b c)=Aa:=by
 refine⟨rfl,?_⟩;show (eqDs (ds [a.1,a.2.1,a.2.2]) (ds [a.1,a.2.1,a.2.2])&&(eqDs (ds [b.1,b.2.1,b.2.2]) (ds [b.1,b.2.1,b.2.2])&&(eqDs (ds [c.1,c.2.1,c.2.2]) (ds [c.1,c.2.1,c.2.2])&&Aa)))=Aa;simp only[Qt,Bool.and_self]
end
def O0(Γ:Gam):Prop:=∀ p n:Ad,P4 p->n%p≠0->∃ t,1<=t/\t<p/\n*t%p=1/\Γ.F 9 [.int p,.int n]=.ok (.int t)
def L7(Γ:Gam):Prop:=∀(p:Ad)(b:Ap)(xs:Ac Ad)(l t:Ad),P4 p->AY p xs=Ab l->D8 p l t->Γ.F 17 [.int p,Dv b xs]=.ok (.tup (ds (fmI p t xs)))
theorem aO(hr:IC Γ)(p n:Ad)(hp:P4 p)(z:n%p≠0):∃ t,1<=t/\t<p/\n*t%p=1/\MJ.run Γ [.int p,.int n]=.ok (.int t):=by
 have p0:=hp.pos;have ph:=hp.hi;have body:∀ t∈GK p,∀ ρ,(∃ s,ρ=[si p,si n,s])->(decide (n*t%p=1)=Aa/\Do Γ 2 KD (.int t) ρ=.ret (.int t) Ae)\/(decide (n*t%p=1)=Ae/\∃ ρ',Do Γ 2 KD (.int t) ρ=.next ρ'/\∃ s,ρ'=[si p,si n,s]):=by
  rintro t ht ρ ⟨s,rfl⟩;obtain⟨t1,t2⟩:=KN.mp ht;have m:Ee n t=Aa:=Pi (by omega) (by omega)
  by_cases e:n*t%p=1
  ·exact .inl ⟨by simp[e],by simp[Do,KD,hr p (n*t) p0,m,e,Fn]⟩
  ·exact .inr ⟨by simp[e],_,by simp[Do,KD,hr p (n*t) p0,m,e];rfl,_,rfl⟩
 have run:∀ o,DW (Do Γ 2 KD) ((GK p).map D.int) [si p,si n,Af]=o->MJ.run Γ [.int p,.int n]=(Gh Γ (.cons (.rais 2 (.cons (.str (AK "a number with the rest 0 is not turned over")) .nil)) .nil) o).ans Ae:=by
  rintro o rfl;simp[MJ,Df.run,BB,Tg hp]
 rcases Sg (fun ρ=>∃ s,ρ=[si p,si n,s]) (fun t=>decide (n*t%p=1)) (GK p) body [si p,si n,Af] ⟨_,rfl⟩ with ⟨t,ht,a,b⟩|⟨a,r,b,s,rfl⟩
 ·obtain⟨t1,t2⟩:=KN.mp ht;have a':n*t%p=1:=by simpa using a
  exact⟨t,t1,t2,a',by rw[run _ b];rfl⟩
 ·obtain⟨t,t1,t2,e⟩:=HX hp z;have:=a t (KN.mpr ⟨t1,t2⟩);simp[e]at this
section
variable{Γ:Gam}{p:Ad}{xs:Ac Ad}{b:Ap}
theorem Ti(hr:IC Γ)(ht:O0 Γ)(hp:P4 p)(rs:Ac Ad):∀(ys:Ac Ad),(∀ y∈ys,0<=y/\y<p)->∀ s3,(AY p ys=Af->∃ s3',DW (Do Γ 3 HR) (ds ys) [si p,sh (Dv b xs),sh (.lst (ds rs)),s3,Af,Af,Af]=.next [si p,sh (Dv b xs),sh (.lst (ds rs)),s3',Af,Af,Af])/\(∀ l t,AY p ys=Ab l->D8 p l t->DW (Do Γ 3 HR) (ds ys) [si p,sh (Dv b xs),sh (.lst (ds rs)),s3,Af,Af,Af]=.ret (.tup (ds (rs.map fun r=>t*r%p))) Ae)
 |[],_,s3=>⟨fun _=>⟨s3,rfl⟩,(fun l t h=>nomatch h)⟩
 |y::ys,hy,s3=>by
  obtain⟨y0,y1⟩:=hy y (AB ..);have ym:y%p=y:=AO y0 y1;have ih:=Ti hr ht hp rs ys (fun z hz=>hy z (Av _ hz)) (si y)
  have step:∀ o,Do Γ 3 HR (.int y) [si p,sh (Dv b xs),sh (.lst (ds rs)),s3,Af,Af,Af]=o->DW (Do Γ 3 HR) (ds (y::ys)) [si p,sh (Dv b xs),sh (.lst (ds rs)),s3,Af,Af,Af]=o.turn (DW (Do Γ 3 HR) (ds ys)):=by
   rintro o rfl;rfl
  unfold AY;rw[ym];by_cases hz:y=0
  ·have e:Do Γ 3 HR (.int y) [si p,sh (Dv b xs),sh (.lst (ds rs)),s3,Af,Af,Af]=.next [si p,sh (Dv b xs),sh (.lst (ds rs)),si y,Af,Af,Af]:=by
    simp[Do,HR,hz]
   rw[AD hz,step _ e];exact ih
  ·rw[AH hz];refine⟨(fun z=>nomatch z),fun l t e it=>?_⟩
   cases e;obtain⟨u,u1,u2,u3,u4⟩:=ht p y hp (by rw[ym];exact hz)
   have:t=u:=SM it ⟨u1,u2,u3⟩;subst this;have p0:=hp.pos;have ph:=hp.hi;have cp:BP (cG Γ [si p,sh (Dv b xs),sh (.lst (ds rs)),si y,si t,Af,Af] 6 CM) (cF Γ [si p,sh (Dv b xs),sh (.lst (ds rs)),si y,si t,Af,Af] 6 Op) (ds rs)=.ok (ds (rs.map fun r=>t*r%p)):=by
    refine KH rs fun r _=>⟨rfl,?_⟩
    have m:Ee t r=Aa:=Iz (by omega) (by omega)
    simp[cF,Op,m,hr p (t*r) p0]
   have e:Do Γ 3 HR (.int y) [si p,sh (Dv b xs),sh (.lst (ds rs)),s3,Af,Af,Af]=.ret (.tup (ds (rs.map fun r=>t*r%p))) Ae:=by
    simp[Do,HR,hz,u4,cp,Fn]
   rw[step _ e];rfl
theorem iL(hr:IC Γ)(ht:O0 Γ)(hp:P4 p){l t:Ad}(e:AY p xs=Ab l)(it:D8 p l t):MM.run Γ [.int p,Dv b xs]=.ok (.tup (ds (fmI p t xs))):=by
 have p0:=hp.pos;have cp:BP (cG Γ [si p,sh (Dv b xs),Af,Af,Af,Af,Af] 5 CM) (cF Γ [si p,sh (Dv b xs),Af,Af,Af,Af,Af] 5 Oq) (ds xs)=.ok (ds (xs.map fun x=>x%p)):=by
  refine KH xs fun x _=>⟨rfl,?_⟩
  simp[cF,Oq,hr p x p0]
 have run:∀ o,DW (Do Γ 3 HR) (ds (xs.map fun x=>x%p)) [si p,sh (Dv b xs),sh (.lst (ds (xs.map fun x=>x%p))),Af,Af,Af,Af]=o->MM.run Γ [.int p,Dv b xs]=(Gh Γ (.cons (.rais 3 (.cons (.str (AK "all the numbers have the rest 0")) .nil)) .nil) o).ans Ae:=by
  rintro o rfl;simp[MM,Df.run,BB,OJ,cp]
 have le:AY p (xs.map fun x=>x%p)=AY p xs:=by
  have:=J2 (c:=1) hp (by rcases hp with rfl|rfl|rfl|rfl<;>decide) (f:=fun x=>x%p) (fun x=>by rw[CG,AV _ (By p)]) xs
  rw[this];cases e:AY p xs with
  |none=>rfl
  |some l=>
   obtain⟨_,l0,l1⟩:=IZ p0 e;simp[AO (Int.le_of_lt l0) l1]
 obtain⟨a,c⟩:=Ti (b:=b) (xs:=xs) hr ht hp (xs.map fun x=>x%p) (xs.map fun x=>x%p) (fun y hy=>by
  obtain⟨x,_,rfl⟩:=CZ.mp hy;exact⟨Be _ (by omega),A4 _ p0⟩) Af
 rw[le]at a c;rw[run _ (c l t e it)];simp[fmI,FK,Wx]
end
noncomputable def DH(t q:Ap)(a b c:R3):D:=if t=Aa then .tup [An q a,An q b,An q c] else .lst [An q a,An q b,An q c]
theorem Q1(t q:Ap)(a b c:R3):B7 (DH t q a b c) (.int 0)=.ok (An q a)/\B7 (DH t q a b c) (.int 1)=.ok (An q b)/\B7 (DH t q a b c) (.int 2)=.ok (An q c):=by cases t<;>exact⟨rfl,rfl,rfl⟩
theorem Ni(q:Ap)(a:R3):CI (An q a)=.ok [.int a.1,.int a.2.1,.int a.2.2]:=by cases q<;>rfl
theorem Y7(t q:Ap)(a b c:R3):CI (DH t q a b c)=.ok [An q a,An q b,An q c]:=by cases t<;>rfl
noncomputable def BY(a b c:R3):R3:=(a.1,b.1,c.1)
noncomputable def BW(a b c:R3):R3:=(a.2.1,b.2.1,c.2.1)
noncomputable def BV(a b c:R3):R3:=(a.2.2,b.2.2,c.2.2)
noncomputable def OZ:Df:=⟨1,Ae,(.cons (.ret (.tupI (.zip3 (.idx (.var 0) (.int 0)) (.idx (.var 0) (.int 1)) (.idx (.var 0) (.int 2))))) .nil)⟩
def Nv(Γ:Gam):Prop:=∀(t q:Ap)(a b c:R3),Γ.F 104 [DH t q a b c]=.ok (DH Aa Aa (BY a b c) (BW a b c) (BV a b c))
theorem nC(Γ:Gam)(t q:Ap)(a b c:R3):OZ.run Γ [DH t q a b c]=.ok (DH Aa Aa (BY a b c) (BW a b c) (BV a b c)):=by
 obtain⟨r0,r1,r2⟩:=Q1 t q a b c;have z:La (An q a) (An q b) (An q c)=.ok [An Aa (BY a b c),An Aa (BW a b c),An Aa (BV a b c)]:=by
  unfold La;rw[Ni,Ni,Ni];rfl
 simp[OZ,Df.run,BB,r0,r1,r2,z];rfl
noncomputable def At(a x:R3):Ad:=a.1*x.1+a.2.1*x.2.1+a.2.2*x.2.2
noncomputable def ME:E:=(.call 1 (.cons (.var 0) (.cons (.bin .Add (.bin .Add (.bin .Mult (.idx (.var 3) (.int 0)) (.idx (.var 2) (.int 0))) (.bin .Mult (.idx (.var 3) (.int 1)) (.idx (.var 2) (.int 1)))) (.bin .Mult (.idx (.var 3) (.int 2)) (.idx (.var 2) (.int 2)))) .nil)))
noncomputable def OW:Df:=⟨4,Ae,(.cons (.ret (.bi .tuple (.cons (.comp ME 3 (.e (.var 1)) CM) .nil))) .nil)⟩
def Nu(Γ:Gam):Prop:=∀(p:Ad)(t q q':Ap)(a b c x:R3),0<p->B3 a->B3 b->B3 c->B3 x->Γ.F 91 [.int p,DH t q a b c,An q' x]=.ok (An Aa (At a x%p,At b x%p,At c x%p))
theorem oC(h:IC Γ)(p:Ad)(t q q':Ap)(a b c x:R3)(hp:0<p)(ha:B3 a)(hb:B3 b)(hc:B3 c)(hx:B3 x):OW.run Γ [.int p,DH t q a b c,An q' x]=.ok (An Aa (At a x%p,At b x%p,At c x%p)):=by
 obtain⟨x0,x1,x2⟩:=HV q' x;have k:∀ {u v},Bd 300 u->Bd 300 v->Fl u v=Aa:=fun hu hv=>G0 hu hv (by decide) (by decide)
 have key:∀ r:R3,B3 r->cF Γ [si p,sh (DH t q a b c),sh (An q' x),Af] 3 ME (An q r)=.ok (.int (At r x%p)):=fun r hr=>by
  obtain⟨y0,y1,y2⟩:=HV q r;simp[cF,ME,x0,x1,x2,y0,y1,y2,k hr.1 hx.1,k hr.2.1 hx.2.1,k hr.2.2 hx.2.2,h p _ hp];rfl
 have g:∀ r,cG Γ [si p,sh (DH t q a b c),sh (An q' x),Af] 3 CM r=.ok Aa:=fun _=>rfl
 have cp:BP (cG Γ [si p,sh (DH t q a b c),sh (An q' x),Af] 3 CM) (cF Γ [si p,sh (DH t q a b c),sh (An q' x),Af] 3 ME) [An q a,An q b,An q c]=.ok [.int (At a x%p),.int (At b x%p),.int (At c x%p)]:=by
  simp[BP,g,key a ha,key b hb,key c hc]
 simp[OW,Df.run,BB,Y7,cp];rfl
noncomputable def crs(a b:R3):R3:=(a.2.1*b.2.2-a.2.2*b.2.1,a.2.2*b.1-a.1*b.2.2,a.1*b.2.1-a.2.1*b.1)
theorem UE:∀ xs ys:Ac Ad,eqDs (ds xs) (ds ys)=decide (xs=ys)
 |[],[]=>rfl
 |[],_::_=>rfl
 |_::_,[]=>rfl
 |x::xs,y::ys=>by
  show ((x==y)&&eqDs (ds xs) (ds ys))=_;rw[UE xs ys,Cy];simp
theorem Vf(a b:R3):eqD (An Aa a) (An Aa b)=decide (a=b):=by
 show eqDs (ds [a.1,a.2.1,a.2.2]) (ds [b.1,b.2.1,b.2.2])=_;rw[UE,Cy];simp only[Ii,and_true,AI];exact⟨fun ⟨h1,h2,h3⟩=>by obtain⟨a1,a2,a3⟩:=a;obtain⟨b1,b2,b3⟩:=b;simp at h1 h2 h3;rw[h1,h2,h3],fun h=>by rw[h];exact⟨rfl,rfl,rfl⟩⟩
noncomputable def OY:Df:=⟨2,Ae,(.cons (.ife (.cmp .Eq (.var 0) (.var 1)) (.cons (.rais 7 (.cons (.var 0) .nil)) .nil) .nil) (.cons (.ret (.tup (.cons (.bin .Sub (.bin .Mult (.idx (.var 0) (.int 1)) (.idx (.var 1) (.int 2))) (.bin .Mult (.idx (.var 0) (.int 2)) (.idx (.var 1) (.int 1)))) (.cons (.bin .Sub (.bin .Mult (.idx (.var 0) (.int 2)) (.idx (.var 1) (.int 0))) (.bin .Mult (.idx (.var 0) (.int 0)) (.idx (.var 1) (.int 2)))) (.cons (.bin .Sub (.bin .Mult (.idx (.var 0) (.int 0)) (.idx (.var 1) (.int 1))) (.bin .Mult (.idx (.var 0) (.int 1)) (.idx (.var 1) (.int 0)))) .nil))))) .nil))⟩
def Uo(Γ:Gam):Prop:=∀ a b:R3,B3 a->B3 b->a≠b->Γ.F 23 [An Aa a,An Aa b]=.ok (An Aa (crs a b))
theorem Um(Γ:Gam)(a b:R3)(ha:B3 a)(hb:B3 b)(ne:a≠b):OY.run Γ [An Aa a,An Aa b]=.ok (An Aa (crs a b)):=by
 obtain⟨x0,x1,x2⟩:=HV Aa a;obtain⟨y0,y1,y2⟩:=HV Aa b;have k:∀ {u v},Bd 300 u->Bd 300 v->Fl u v=Aa:=fun hu hv=>G0 hu hv (by decide) (by decide)
 have f:∀ r:R3,flD 5 (An Aa r)=Aa:=fun _=>rfl
 have e:eqD (An Aa a) (An Aa b)=Ae:=by rw[Vf];exact CF ne
 simp[OY,Df.run,BB,f,e,x0,x1,x2,y0,y1,y2,k ha.2.1 hb.2.2,k ha.2.2 hb.2.1,k ha.2.2 hb.1,k ha.1 hb.2.2,k ha.1 hb.2.1,k ha.2.1 hb.1];rfl
noncomputable def NZ:Df:=⟨1,Ae,(.cons (.ret (.tup (.cons (.call 23 (.cons (.idx (.var 0) (.int 1)) (.cons (.idx (.var 0) (.int 2)) .nil))) (.cons (.call 23 (.cons (.idx (.var 0) (.int 2)) (.cons (.idx (.var 0) (.int 0)) .nil))) (.cons (.call 23 (.cons (.idx (.var 0) (.int 0)) (.cons (.idx (.var 0) (.int 1)) .nil))) .nil))))) .nil)⟩
def UA(Γ:Gam):Prop:=∀ a b c:R3,B3 a->B3 b->B3 c->a≠b->b≠c->c≠a->Γ.F 98 [DH Aa Aa a b c]=.ok (DH Aa Aa (crs b c) (crs c a) (crs a b))
theorem iP(h:Uo Γ)(a b c:R3)(ha:B3 a)(hb:B3 b)(hc:B3 c)(n1:a≠b)(n2:b≠c)(n3:c≠a):NZ.run Γ [DH Aa Aa a b c]=.ok (DH Aa Aa (crs b c) (crs c a) (crs a b)):=by
 obtain⟨r0,r1,r2⟩:=Q1 Aa Aa a b c;simp[NZ,Df.run,BB,r0,r1,r2,h b c hb hc n2,h c a hc ha n3,h a b ha hb n1];rfl
def Mi(Γ:Gam):Prop:=∀(p:Ad)(t q:Ap)(a b c:R3),P4 p->B3 a->B3 b->B3 c->Aj a b c%p≠0->∀ l u,AY p (nine a b c)=Ab l->D8 p l u->Γ.F 78 [.int p,DH t q a b c]=.ok (A1 (fmR p u a) (fmR p u b) (fmR p u c))
theorem oB(hm:KU Γ)(hf:L7 Γ)(p:Ad)(t q:Ap)(a b c:R3)(hp:P4 p)(ha:B3 a)(hb:B3 b)(hc:B3 c)(z:Aj a b c%p≠0)(l u:Ad)(e:AY p (nine a b c)=Ab l)(it:D8 p l u):OG.run Γ [.int p,DH t q a b c]=.ok (A1 (fmR p u a) (fmR p u b) (fmR p u c)):=by
 obtain⟨r0,r1,r2⟩:=Q1 t q a b c;have m:=hm p q a b c hp.pos ha hb hc;have f:=hf p Ae (nine a b c) l u hp e it;rw[UB]at f;have f':Γ.F 17 [.int p,.lst (ds (nine a b c))]=.ok (.tup (ds (nine (fmR p u a) (fmR p u b) (fmR p u c)))):=f;obtain⟨x1,x2⟩:=dW a b c;obtain⟨y1,y2,y3⟩:=YO (fmR p u a) (fmR p u b) (fmR p u c);simp[OG,Df.run,BB,r0,r1,r2,m,z,qC,x1,x2,f',y1,y2,y3,slE];rfl
noncomputable def Ol:Df:=⟨2,Ae,(.cons (.ret (.call 78 (.cons (.var 0) (.cons (.call 104 (.cons (.call 98 (.cons (.var 1) .nil)) .nil)) .nil)))) .nil)⟩
noncomputable def bk0(a b c:R3):R3:=BY (crs b c) (crs c a) (crs a b)
noncomputable def bk1(a b c:R3):R3:=BW (crs b c) (crs c a) (crs a b)
noncomputable def bk2(a b c:R3):R3:=BV (crs b c) (crs c a) (crs a b)
def Qi(Γ:Gam):Prop:=∀(p:Ad)(a b c:R3),P4 p->In3 p a->In3 p b->In3 p c->Aj a b c%p≠0->∀ l u,AY p (nine (bk0 a b c) (bk1 a b c) (bk2 a b c))=Ab l->D8 p l u->Γ.F 106 [.int p,A1 a b c]=.ok (A1 (fmR p u (bk0 a b c)) (fmR p u (bk1 a b c)) (fmR p u (bk2 a b c)))
theorem J9{x:Ad}(hp:P4 p)(h0:0<=x)(h1:x<p):Bd 10 x:=by
 unfold Bd;have:=hp.hi;omega
theorem Bd.mono{x:Ad}(h:Bd m x)(hm:m<=n):Bd n x:=Az h (Gw (by decide) hm)
def Bn(n:Ag)(a:R3):Prop:=Bd n a.1/\Bd n a.2.1/\Bd n a.2.2
theorem Bn.b3(h:Bn n a)(hn:n<=300):B3 a:=⟨h.1.mono hn,h.2.1.mono hn,h.2.2.mono hn⟩
theorem Cn(hp:P4 p)(h:In3 p a):Bn 10 a:=⟨J9 hp h.1.1 h.1.2,J9 hp h.2.1.1 h.2.1.2,J9 hp h.2.2.1 h.2.2.2⟩
theorem Nx{a b:R3}(ha:Bn n a)(hb:Bn n b):Bn (n+n+1) (crs a b):=
 ⟨(ha.2.1.mul hb.2.2).sub (ha.2.2.mul hb.2.1),(ha.2.2.mul hb.1).sub (ha.1.mul hb.2.2),(ha.1.mul hb.2.1).sub (ha.2.1.mul hb.1)⟩
theorem QJ{a b c:R3}(ha:Bn n a)(hb:Bn n b)(hc:Bn n c):Bn n (BY a b c)/\Bn n (BW a b c)/\Bn n (BV a b c):=⟨⟨ha.1,hb.1,hc.1⟩,⟨ha.2.1,hb.2.1,hc.2.1⟩,⟨ha.2.2,hb.2.2,hc.2.2⟩⟩
theorem sW{a b c:R3}(z:Aj a b c%p≠0):a≠b/\b≠c/\c≠a:=by
 refine⟨fun e=>z ?_,fun e=>z ?_,fun e=>z ?_⟩
 ·subst e;rw[show Aj a a c=0 by unfold Aj det;grind,A7]
 ·subst e;rw[show Aj a b b=0 by unfold Aj det;grind,A7]
 ·subst e;rw[show Aj c b c=0 by unfold Aj det;grind,A7]
theorem Jh(a b c:R3):Aj (bk0 a b c) (bk1 a b c) (bk2 a b c)=Aj a b c*Aj a b c:=by
 unfold Aj det bk0 bk1 bk2 BY BW BV crs;grind
theorem nF(h1:UA Γ)(h2:Nv Γ)(h3:Mi Γ)(p:Ad)(a b c:R3)(hp:P4 p)(ha:In3 p a)(hb:In3 p b)(hc:In3 p c)(z:Aj a b c%p≠0)(l u:Ad)(e:AY p (nine (bk0 a b c) (bk1 a b c) (bk2 a b c))=Ab l)(it:D8 p l u):Ol.run Γ [.int p,A1 a b c]=.ok (A1 (fmR p u (bk0 a b c)) (fmR p u (bk1 a b c)) (fmR p u (bk2 a b c))):=by
 have ba:=Cn hp ha;have bb:=Cn hp hb;have bc:=Cn hp hc;obtain⟨n1,n2,n3⟩:=sW z;have e1:Γ.F 98 [A1 a b c]=.ok (DH Aa Aa (crs b c) (crs c a) (crs a b)):=h1 a b c (ba.b3 (by decide)) (bb.b3 (by decide)) (bc.b3 (by decide)) n1 n2 n3
 have e2:=h2 Aa Aa (crs b c) (crs c a) (crs a b);obtain⟨c0,c1,c2⟩:=QJ (Nx bb bc) (Nx bc ba) (Nx ba bb);have z2:Aj (bk0 a b c) (bk1 a b c) (bk2 a b c)%p≠0:=by rw[Jh];exact BO hp z z
 have e3:Γ.F 78 [.int p,DH Aa Aa (BY (crs b c) (crs c a) (crs a b)) (BW (crs b c) (crs c a) (crs a b)) (BV (crs b c) (crs c a) (crs a b))]=.ok (A1 (fmR p u (bk0 a b c)) (fmR p u (bk1 a b c)) (fmR p u (bk2 a b c))):=h3 p Aa Aa _ _ _ hp (c0.b3 (by decide)) (c1.b3 (by decide)) (c2.b3 (by decide)) z2 l u e it
 simp[Ol,Df.run,BB,e1,e2,e3]
noncomputable def mlR(p:Ad)(x a b c:R3):R3:=(At (BY a b c) x%p,At (BW a b c) x%p,At (BV a b c) x%p)
noncomputable def MO:E:=(.call 91 (.cons (.var 0) (.cons (.var 3) (.cons (.var 4) .nil))))
noncomputable def PM:Df:=⟨5,Ae,(.cons (.asg 3 Ae (.call 104 (.cons (.var 2) .nil))) (.cons (.ret (.call 78 (.cons (.var 0) (.cons (.comp MO 4 (.e (.var 1)) CM) .nil)))) .nil))⟩
def Uq(Γ:Gam):Prop:=∀(p:Ad)(x y z a b c:R3),P4 p->In3 p x->In3 p y->In3 p z->In3 p a->In3 p b->In3 p c->Aj (mlR p x a b c) (mlR p y a b c) (mlR p z a b c)%p≠0->∀ l u,AY p (nine (mlR p x a b c) (mlR p y a b c) (mlR p z a b c))=Ab l->D8 p l u ->
 Γ.F 105 [.int p,A1 x y z,A1 a b c]=.ok (A1 (fmR p u (mlR p x a b c)) (fmR p u (mlR p y a b c)) (fmR p u (mlR p z a b c)))
theorem QH(hp:0<p)(x a b c:R3):In3 p (mlR p x a b c):=⟨⟨Be _ (by omega),A4 _ hp⟩,⟨Be _ (by omega),A4 _ hp⟩,⟨Be _ (by omega),A4 _ hp⟩⟩
theorem iR(h2:Nv Γ)(hs:Nu Γ)(h3:Mi Γ)(p:Ad)(x y z a b c:R3)(hp:P4 p)(hx:In3 p x)(hy:In3 p y)(hz:In3 p z)(ha:In3 p a)(hb:In3 p b)(hc:In3 p c)(nz:Aj (mlR p x a b c) (mlR p y a b c) (mlR p z a b c)%p≠0)(l u:Ad)(e:AY p (nine (mlR p x a b c) (mlR p y a b c) (mlR p z a b c))=Ab l)(it:D8 p l u):PM.run Γ [.int p,A1 x y z,A1 a b c]=.ok (A1 (fmR p u (mlR p x a b c)) (fmR p u (mlR p y a b c)) (fmR p u (mlR p z a b c))):=by
 have p0:=hp.pos;have e1:Γ.F 104 [A1 a b c]=.ok (DH Aa Aa (BY a b c) (BW a b c) (BV a b c)):=h2 Aa Aa a b c;obtain⟨c0,c1,c2⟩:=QJ (Cn hp ha) (Cn hp hb) (Cn hp hc);have es:∀ r:R3,In3 p r->Γ.F 91 [.int p,DH Aa Aa (BY a b c) (BW a b c) (BV a b c),An Aa r]=.ok (An Aa (mlR p r a b c)):=fun r hr=>hs p Aa Aa Aa _ _ _ r p0 (c0.b3 (by decide)) (c1.b3 (by decide)) (c2.b3 (by decide)) ((Cn hp hr).b3 (by decide))
 have key:∀ r:R3,In3 p r->cF Γ [si p,sh (A1 x y z),sh (A1 a b c),sh (DH Aa Aa (BY a b c) (BW a b c) (BV a b c)),Af] 4 MO (An Aa r)=.ok (An Aa (mlR p r a b c)):=fun r hr=>by
  simp[cF,MO,es r hr]
 have g:∀ r,cG Γ [si p,sh (A1 x y z),sh (A1 a b c),sh (DH Aa Aa (BY a b c) (BW a b c) (BV a b c)),Af] 4 CM r=.ok Aa:=fun _=>rfl
 have sq:CI (A1 x y z)=.ok [An Aa x,An Aa y,An Aa z]:=rfl;have cp:BP (cG Γ [si p,sh (A1 x y z),sh (A1 a b c),sh (DH Aa Aa (BY a b c) (BW a b c) (BV a b c)),Af] 4 CM) (cF Γ [si p,sh (A1 x y z),sh (A1 a b c),sh (DH Aa Aa (BY a b c) (BW a b c) (BV a b c)),Af] 4 MO) [An Aa x,An Aa y,An Aa z]=.ok [An Aa (mlR p x a b c),An Aa (mlR p y a b c),An Aa (mlR p z a b c)]:=by
  simp[BP,g,key x hx,key y hy,key z hz]
 have e3:Γ.F 78 [.int p,.lst [An Aa (mlR p x a b c),An Aa (mlR p y a b c),An Aa (mlR p z a b c)]]=.ok (A1 (fmR p u (mlR p x a b c)) (fmR p u (mlR p y a b c)) (fmR p u (mlR p z a b c))):=
  h3 p Ae Aa _ _ _ hp ((Cn hp (QH p0 x a b c)).b3 (by decide)) ((Cn hp (QH p0 y a b c)).b3 (by decide)) ((Cn hp (QH p0 z a b c)).b3 (by decide)) nz l u e it
 simp[PM,Df.run,BB,e1,sq,cp,e3]
noncomputable def OL:E:=(.bin .Mult (.var 0) (.var 2))
noncomputable def Pe:Df:=⟨3,Ae,(.cons (.ret (.comp OL 2 (.e (.var 1)) CM)) .nil)⟩
def dX(Γ:Gam):Prop:=∀(k:Ad)(a:R3),0<=k->k<100->Γ.F 110 [.int k,An Aa a]=.ok (An Ae (k*a.1,k*a.2.1,k*a.2.2))
theorem bQ(Γ:Gam)(k:Ad)(a:R3)(h0:0<=k)(h1:k<100):Pe.run Γ [.int k,An Aa a]=.ok (An Ae (k*a.1,k*a.2.1,k*a.2.2)):=by
 have m:∀ x,Ee k x=Aa:=fun x=>Iz (by omega) (by omega)
 have key:∀ x:Ad,cF Γ [si k,sh (An Aa a),Af] 2 OL (.int x)=.ok (.int (k*x)):=fun x=>by
  simp[cF,OL,m]
 have g:∀ x,cG Γ [si k,sh (An Aa a),Af] 2 CM x=.ok Aa:=fun _=>rfl
 simp[Pe,Df.run,BB,Ni,BP,g,key];rfl
noncomputable def Du(a b c d:R3):D:=.lst [An Aa a,An Aa b,An Aa c,An Aa d]
noncomputable def AF(k:Ad)(a:R3):R3:=(k*a.1,k*a.2.1,k*a.2.2)
theorem kR(a b c d:R3):B7 (Du a b c d) (.int 0)=.ok (An Aa a)/\B7 (Du a b c d) (.int 1)=.ok (An Aa b)/\B7 (Du a b c d) (.int 2)=.ok (An Aa c)/\B7 (Du a b c d) (.int 3)=.ok (An Aa d):=⟨rfl,rfl,rfl,rfl⟩
noncomputable def Ou:Df:=⟨3,Ae,(.cons (.asg 2 Ae (.tup (.cons (.call 110 (.cons (.call 61 (.cons (.var 0) (.cons (.idx (.var 1) (.int 3)) (.cons (.idx (.var 1) (.int 1)) (.cons (.idx (.var 1) (.int 2)) .nil))))) (.cons (.idx (.var 1) (.int 0)) .nil))) (.cons (.call 110 (.cons (.call 61 (.cons (.var 0) (.cons (.idx (.var 1) (.int 0)) (.cons (.idx (.var 1) (.int 3)) (.cons (.idx (.var 1) (.int 2)) .nil))))) (.cons (.idx (.var 1) (.int 1)) .nil))) (.cons (.call 110 (.cons (.call 61 (.cons (.var 0) (.cons (.idx (.var 1) (.int 0)) (.cons (.idx (.var 1) (.int 1)) (.cons (.idx (.var 1) (.int 3)) .nil))))) (.cons (.idx (.var 1) (.int 2)) .nil))) .nil))))) (.cons (.ret (.call 78 (.cons (.var 0) (.cons (.call 104 (.cons (.var 2) .nil)) .nil)))) .nil))⟩
noncomputable def fk0(p:Ad)(a b c d:R3):Ad:=Aj d b c%p
noncomputable def fk1(p:Ad)(a b c d:R3):Ad:=Aj a d c%p
noncomputable def fk2(p:Ad)(a b c d:R3):Ad:=Aj a b d%p
noncomputable def fs0(p:Ad)(a b c d:R3):R3:=AF (fk0 p a b c d) a
noncomputable def fs1(p:Ad)(a b c d:R3):R3:=AF (fk1 p a b c d) b
noncomputable def fs2(p:Ad)(a b c d:R3):R3:=AF (fk2 p a b c d) c
noncomputable def fr0(p:Ad)(a b c d:R3):R3:=BY (fs0 p a b c d) (fs1 p a b c d) (fs2 p a b c d)
noncomputable def fr1(p:Ad)(a b c d:R3):R3:=BW (fs0 p a b c d) (fs1 p a b c d) (fs2 p a b c d)
noncomputable def fr2(p:Ad)(a b c d:R3):R3:=BV (fs0 p a b c d) (fs1 p a b c d) (fs2 p a b c d)
def Ra(Γ:Gam):Prop:=∀(p:Ad)(a b c d:R3),P4 p->In3 p a->In3 p b->In3 p c->In3 p d->Aj (fr0 p a b c d) (fr1 p a b c d) (fr2 p a b c d)%p≠0->∀ l u,AY p (nine (fr0 p a b c d) (fr1 p a b c d) (fr2 p a b c d))=Ab l->D8 p l u ->
 Γ.F 111 [.int p,Du a b c d]=.ok (A1 (fmR p u (fr0 p a b c d)) (fmR p u (fr1 p a b c d)) (fmR p u (fr2 p a b c d)))
theorem QS(hk:Bd n k)(ha:Bn m a):Bn (n+m) (AF k a):=⟨hk.mul ha.1,hk.mul ha.2.1,hk.mul ha.2.2⟩
theorem Ze(hm:KU Γ)(hs:dX Γ)(h2:Nv Γ)(h3:Mi Γ)(p:Ad)(a b c d:R3)(hp:P4 p)(ha:In3 p a)(hb:In3 p b)(hc:In3 p c)(hd:In3 p d)(z:Aj (fr0 p a b c d) (fr1 p a b c d) (fr2 p a b c d)%p≠0)(l u:Ad)(e:AY p (nine (fr0 p a b c d) (fr1 p a b c d) (fr2 p a b c d))=Ab l)(it:D8 p l u):Ou.run Γ [.int p,Du a b c d]=.ok (A1 (fmR p u (fr0 p a b c d)) (fmR p u (fr1 p a b c d)) (fmR p u (fr2 p a b c d))):=by
 have p0:=hp.pos;have ph:=hp.hi;have ba:=(Cn hp ha).b3 (by decide)
 have bb:=(Cn hp hb).b3 (by decide)
 have bc:=(Cn hp hc).b3 (by decide)
 have bd:=(Cn hp hd).b3 (by decide)
 obtain⟨x0,x1,x2,x3⟩:=kR a b c d;have m0:=hm p Aa d b c p0 bd bb bc;have m1:=hm p Aa a d c p0 ba bd bc;have m2:=hm p Aa a b d p0 ba bb bd;have k0:0<=Aj d b c%p/\Aj d b c%p<p:=⟨Be _ (by omega),A4 _ p0⟩
 have k1:0<=Aj a d c%p/\Aj a d c%p<p:=⟨Be _ (by omega),A4 _ p0⟩
 have k2:0<=Aj a b d%p/\Aj a b d%p<p:=⟨Be _ (by omega),A4 _ p0⟩
 have s0:Γ.F 110 [.int (Aj d b c%p),An Aa a]=.ok (An Ae (AF (Aj d b c%p) a)):=hs (Aj d b c%p) a k0.1 (by omega)
 have s1:Γ.F 110 [.int (Aj a d c%p),An Aa b]=.ok (An Ae (AF (Aj a d c%p) b)):=hs (Aj a d c%p) b k1.1 (by omega)
 have s2:Γ.F 110 [.int (Aj a b d%p),An Aa c]=.ok (An Ae (AF (Aj a b d%p) c)):=hs (Aj a b d%p) c k2.1 (by omega)
 have e2:Γ.F 104 [.tup [An Ae (AF (Aj d b c%p) a),An Ae (AF (Aj a d c%p) b),An Ae (AF (Aj a b d%p) c)]]=.ok (DH Aa Aa (fr0 p a b c d) (fr1 p a b c d) (fr2 p a b c d)):=h2 Aa Ae _ _ _;obtain⟨c0,c1,c2⟩:=QJ (QS (J9 hp k0.1 k0.2) (Cn hp ha)) (QS (J9 hp k1.1 k1.2) (Cn hp hb)) (QS (J9 hp k2.1 k2.2) (Cn hp hc));have e3:=h3 p Aa Aa (fr0 p a b c d) (fr1 p a b c d) (fr2 p a b c d) hp (c0.b3 (by decide)) (c1.b3 (by decide)) (c2.b3 (by decide)) z l u e it
 simp[Ou,Df.run,BB,x0,x1,x2,x3,m0,m1,m2,s0,s1,s2,e2,e3]
noncomputable def RI:Ss:=(.cons (.ife (.cmp .Eq (.call 61 (.cons (.var 0) (.cons (.var 3) (.cons (.idx (.var 1) (.var 4)) (.cons (.idx (.var 1) (.var 5)) .nil))))) (.int 0)) (.cons (.ret (.tup (.cons (.var 3) (.cons (.idx (.var 1) (.var 4)) (.cons (.idx (.var 1) (.var 5)) .nil))))) .nil) .nil) .nil)
noncomputable def RH:Ss:=(.cons (.fors 5 (.rng2 (.bin .Add (.var 4) (.int 1)) (.bi .len (.cons (.var 1) .nil))) RI) .nil)
noncomputable def RG:Ss:=(.cons (.fors 4 (.rng2 (.bin .Add (.var 2) (.int 1)) (.bi .len (.cons (.var 1) .nil))) RH) .nil)
noncomputable def LJ:Df:=⟨6,Ae,(.cons (.forT [2,3] (.enm (.var 1)) RG) (.cons (.ret .non) .nil))⟩
noncomputable def MI:Df:=⟨3,Ae,(.cons (.asg 2 Ae (.call 65 (.cons (.var 0) (.cons (.var 1) .nil)))) (.cons (.ife (.cmp .IsNot (.var 2) .non) (.cons (.rais 18 (.cons (.var 2) .nil)) .nil) .nil) .nil))⟩
theorem bT(p:Ad)(a b c d:D){m0 m1 m2 m3:Ad}(h0:Γ.F 61 [.int p,a,b,c]=.ok (.int m0))(h1:Γ.F 61 [.int p,a,b,d]=.ok (.int m1))(h2:Γ.F 61 [.int p,a,c,d]=.ok (.int m2))(h3:Γ.F 61 [.int p,b,c,d]=.ok (.int m3))(n0:m0≠0)(n1:m1≠0)(n2:m2≠0)(n3:m3≠0):LJ.run Γ [.int p,.lst [a,b,c,d]]=.ok .non:=by
 have x0:DI [a,b,c,d] 0=.ok a:=rfl;have x1:DI [a,b,c,d] 1=.ok b:=rfl;have x2:DI [a,b,c,d] 2=.ok c:=rfl;have x3:DI [a,b,c,d] 3=.ok d:=rfl;have r14:DA 1 4=.ok [.int 1,.int 2,.int 3]:=rfl;have r24:DA 2 4=.ok [.int 2,.int 3]:=rfl;have r34:DA 3 4=.ok [.int 3]:=rfl;have r44:DA 4 4=.ok []:=rfl;simp[LJ,Df.run,BB,Ht,DW,Do,Nw,RI,RH,RG,GJ,x0,x1,x2,x3,r14,r24,r34,r44,h0,h1,h2,h3,n0,n1,n2,n3]
def G5(p:Ad)(a b c d:R3):Prop:=Aj a b c%p≠0/\Aj a b d%p≠0/\Aj a c d%p≠0/\Aj b c d%p≠0
def Wk(Γ:Gam):Prop:=∀(p:Ad)(a b c d:R3),P4 p->In3 p a->In3 p b->In3 p c->In3 p d->G5 p a b c d->Γ.F 109 [.int p,Du a b c d]=.ok .non
def TY(Γ:Gam):Prop:=∀(p:Ad)(a b c d:R3),P4 p->In3 p a->In3 p b->In3 p c->In3 p d->G5 p a b c d->Γ.F 65 [.int p,Du a b c d]=.ok .non
theorem iO(hm:KU Γ)(p:Ad)(a b c d:R3)(hp:P4 p)(ha:In3 p a)(hb:In3 p b)(hc:In3 p c)(hd:In3 p d)(h:G5 p a b c d):LJ.run Γ [.int p,Du a b c d]=.ok .non:=by
 have p0:=hp.pos;have ba:=(Cn hp ha).b3 (by decide)
 have bb:=(Cn hp hb).b3 (by decide)
 have bc:=(Cn hp hc).b3 (by decide)
 have bd:=(Cn hp hd).b3 (by decide)
 exact bT p _ _ _ _ (hm p Aa a b c p0 ba bb bc) (hm p Aa a b d p0 ba bb bd) (hm p Aa a c d p0 ba bc bd) (hm p Aa b c d p0 bb bc bd) h.1 h.2.1 h.2.2.1 h.2.2.2
theorem vL(hf:TY Γ)(p:Ad)(a b c d:R3)(hp:P4 p)(ha:In3 p a)(hb:In3 p b)(hc:In3 p c)(hd:In3 p d)(h:G5 p a b c d):MI.run Γ [.int p,Du a b c d]=.ok .non:=by
 have e:=hf p a b c d hp ha hb hc hd h;simp[MI,Df.run,BB,e]
noncomputable def LQ:Df:=⟨3,Ae,(.cons (.ife (.or (.cons (.cmp .NotEq (.bi .len (.cons (.var 1) .nil)) (.int 4)) (.cons (.cmp .NotEq (.bi .len (.cons (.var 2) .nil)) (.int 4)) .nil))) (.cons (.rais 13 (.cons (.str (AK "a frame has four points")) .nil)) .nil) .nil) (.cons (.expr (.call 109 (.cons (.var 0) (.cons (.var 1) .nil)))) (.cons (.expr (.call 109 (.cons (.var 0) (.cons (.var 2) .nil)))) (.cons (.ret (.call 105 (.cons (.var 0) (.cons (.call 111 (.cons (.var 0) (.cons (.var 2) .nil))) (.cons (.call 106 (.cons (.var 0) (.cons (.call 111 (.cons (.var 0) (.cons (.var 1) .nil))) .nil))) .nil))))) .nil))))⟩
theorem oI{a b c d a' b' c' d':R3}{M N B R:D}(e1:Γ.F 109 [.int p,Du a b c d]=.ok .non)(e2:Γ.F 109 [.int p,Du a' b' c' d']=.ok .non)(e3:Γ.F 111 [.int p,Du a' b' c' d']=.ok N)(e4:Γ.F 111 [.int p,Du a b c d]=.ok M)(e5:Γ.F 106 [.int p,M]=.ok B)(e6:Γ.F 105 [.int p,N,B]=.ok R):LQ.run Γ [.int p,Du a b c d,Du a' b' c' d']=.ok R:=by
 have l1:biD .len [Du a b c d]=.ok (.int 4):=rfl;have l2:biD .len [Du a' b' c' d']=.ok (.int 4):=rfl;simp[LQ,Df.run,BB,l1,l2,e1,e2,e3,e4,e5,e6]
def CgR(p:Ad)(x y:R3):Prop:=Cg p x.1 y.1/\Cg p x.2.1 y.2.1/\Cg p x.2.2 y.2.2
section
variable{p:Ad}{a b c a' b' c' x y z x':R3}{k l m k':Ad}
theorem CgR.rfl:CgR p a a:=⟨Cg.rfl,Cg.rfl,Cg.rfl⟩
theorem CgR.of(h:a=b):CgR p a b:=by rw[h];exact CgR.rfl
theorem CgR.trans(h:CgR p a b)(g:CgR p b c):CgR p a c:=⟨h.1.trans g.1,h.2.1.trans g.2.1,h.2.2.trans g.2.2⟩
theorem CgR.symm(h:CgR p a b):CgR p b a:=⟨h.1.symm,h.2.1.symm,h.2.2.symm⟩
theorem CgR.sc(hk:Cg p k k')(h:CgR p a b):CgR p (AF k a) (AF k' b):=⟨hk.mul h.1,hk.mul h.2.1,hk.mul h.2.2⟩
theorem Jb(ha:CgR p a a')(hb:CgR p b b')(hc:CgR p c c'):Cg p (Aj a b c) (Aj a' b' c'):=by
 unfold Aj det;exact HY ha.1 ha.2.1 ha.2.2 hb.1 hb.2.1 hb.2.2 hc.1 hc.2.1 hc.2.2
theorem FQ(ha:CgR p a a')(hb:CgR p b b'):Cg p (At a b) (At a' b'):=((ha.1.mul hb.1).add (ha.2.1.mul hb.2.1)).add (ha.2.2.mul hb.2.2)
theorem Nt(ha:CgR p a a')(hb:CgR p b b')(hc:CgR p c c'):CgR p (BY a b c) (BY a' b' c')/\CgR p (BW a b c) (BW a' b' c')/\CgR p (BV a b c) (BV a' b' c'):=⟨⟨ha.1,hb.1,hc.1⟩,⟨ha.2.1,hb.2.1,hc.2.1⟩,⟨ha.2.2,hb.2.2,hc.2.2⟩⟩
theorem Mm(ha:CgR p a a')(hb:CgR p b b'):CgR p (crs a b) (crs a' b'):=
 ⟨(ha.2.1.mul hb.2.2).sub (ha.2.2.mul hb.2.1),(ha.2.2.mul hb.1).sub (ha.1.mul hb.2.2),(ha.1.mul hb.2.1).sub (ha.2.1.mul hb.1)⟩
theorem VV(ha:CgR p a a')(hb:CgR p b b')(hc:CgR p c c'):CgR p (bk0 a b c) (bk0 a' b' c')/\CgR p (bk1 a b c) (bk1 a' b' c')/\CgR p (bk2 a b c) (bk2 a' b' c'):=Nt (Mm hb hc) (Mm hc ha) (Mm ha hb)
theorem EH(p t:Ad)(a:R3):CgR p (fmR p t a) (AF t a):=by
 have key:∀ x:Ad,Cg p (t*(x%p)%p) (t*x):=fun x=>(Cg.md _root_.rfl).trans (Cg.rfl.mul (Cg.md _root_.rfl))
 exact⟨key _,key _,key _⟩
noncomputable def rm(a x y z:R3):R3:=(At (BY x y z) a,At (BW x y z) a,At (BV x y z) a)
theorem xZ(p:Ad)(a x y z:R3):CgR p (mlR p a x y z) (rm a x y z):=⟨Cg.md _root_.rfl,Cg.md _root_.rfl,Cg.md _root_.rfl⟩
theorem xC{z':R3}(ha:CgR p a a')(hx:CgR p x x')(hy:CgR p y y')(hz:CgR p z z'):CgR p (rm a x y z) (rm a' x' y' z'):=by
 obtain⟨c0,c1,c2⟩:=Nt hx hy hz;exact⟨FQ c0 ha,FQ c1 ha,FQ c2 ha⟩
noncomputable def ap(a b c x:R3):R3:=(At a x,At b x,At c x)
theorem Qu(a b c x y z:R3):Aj (ap a b c x) (ap a b c y) (ap a b c z)=Aj a b c*Aj x y z:=by
 unfold Aj det ap At;grind
theorem J4(k l m:Ad)(x y z:R3):Aj (AF k x) (AF l y) (AF m z)=k*l*m*Aj x y z:=by
 unfold Aj det AF;grind
theorem Ib(k l:Ad)(x:R3):AF k (AF l x)=AF (k*l) x:=by
 unfold AF;simp only[F8]
theorem We(a b c x:R3)(k:Ad):ap a b c (AF k x)=AF k (ap a b c x):=by
 unfold ap AF At;refine Bs ?_ (Bs ?_ ?_)<;>(simp only;grind)
theorem xB(k:Ad)(a x y z:R3):rm (AF k a) x y z=AF k (rm a x y z):=by
 unfold rm AF At BY BW BV;refine Bs ?_ (Bs ?_ ?_)<;>(simp only;grind)
theorem nZ(k:Ad)(a x y z:R3):rm a (AF k x) (AF k y) (AF k z)=AF k (rm a x y z):=by
 unfold rm AF At BY BW BV;refine Bs ?_ (Bs ?_ ?_)<;>(simp only;grind)
theorem VU(k:Ad)(x y z:R3):bk0 (AF k x) (AF k y) (AF k z)=AF (k*k) (bk0 x y z)/\bk1 (AF k x) (AF k y) (AF k z)=AF (k*k) (bk1 x y z)/\bk2 (AF k x) (AF k y) (AF k z)=AF (k*k) (bk2 x y z):=by
 unfold bk0 bk1 bk2 AF BY BW BV crs;refine⟨?_,?_,?_⟩<;>refine Bs ?_ (Bs ?_ ?_)<;>(simp only;grind)
theorem xD(a x y z:R3):rm (rm a x y z) (bk0 x y z) (bk1 x y z) (bk2 x y z)=AF (Aj x y z) a:=by
 unfold rm AF At bk0 bk1 bk2 BY BW BV crs Aj det;refine Bs ?_ (Bs ?_ ?_)<;>(simp only;grind)
theorem PH(x y z:R3):Aj (BY x y z) (BW x y z) (BV x y z)=Aj x y z:=by
 unfold Aj det BY BW BV;grind
end
theorem JD(a b:R3):At a b=At b a:=by unfold At;grind
theorem JF{x y:Ad}(h:Cg p x y)(hy:y%p≠0):x%p≠0:=fun z=>hy ((show x%p=y%p from h).symm.trans z)
theorem nz3{x y z:Ad}(hp:P4 p)(hx:x%p≠0)(hy:y%p≠0)(hz:z%p≠0):x*y*z%p≠0:=BO hp (BO hp hx hy) hz
section
variable{p:Ad}{a b c f0 f1 f2 f3 g0 g1 g2 g3:R3}{d0 d1 d2 d3:Ad}
theorem KR(hx:CgR p g0 (AF d0 (ap a b c f0)))(hy:CgR p g1 (AF d1 (ap a b c f1)))(hz:CgR p g2 (AF d2 (ap a b c f2))):Cg p (Aj g0 g1 g2) (d0*d1*d2*(Aj a b c*Aj f0 f1 f2)):=
 (Jb hx hy hz).trans (Cg.of (by rw[J4,Qu]))
theorem P5{z w z' w':R3}{k0 k1 k2 k3 K:Ad}(hx:CgR p x' (AF k0 (ap a b c x)))(hy:CgR p y' (AF k1 (ap a b c y)))(hz:CgR p z' (AF k2 (ap a b c z)))(hw:CgR p w' (AF k3 (ap a b c w)))(hK:K=k0*k1*k2*k3*Aj a b c):CgR p (AF (Aj x' y' z'%p) w') (AF K (ap a b c (AF (Aj x y z%p) w))):=by
 have e1:Cg p (Aj x' y' z'%p) (k0*k1*k2*(Aj a b c*(Aj x y z%p))):=((Cg.md rfl).trans (KR hx hy hz)).trans (Cg.rfl.mul (Cg.rfl.mul (Cg.md rfl).symm));refine(CgR.sc e1 hw).trans (CgR.of ?_);rw[Ib,We,Ib,hK]
 congr 1
 grind
theorem sM(h0:CgR p g0 (AF d0 (ap a b c f0)))(h1:CgR p g1 (AF d1 (ap a b c f1)))(h2:CgR p g2 (AF d2 (ap a b c f2)))(h3:CgR p g3 (AF d3 (ap a b c f3))):CgR p (fr0 p g0 g1 g2 g3) (AF (d0*d1*d2*d3*Aj a b c) (rm a (fr0 p f0 f1 f2 f3) (fr1 p f0 f1 f2 f3) (fr2 p f0 f1 f2 f3)))/\CgR p (fr1 p g0 g1 g2 g3) (AF (d0*d1*d2*d3*Aj a b c) (rm b (fr0 p f0 f1 f2 f3) (fr1 p f0 f1 f2 f3) (fr2 p f0 f1 f2 f3)))/\CgR p (fr2 p g0 g1 g2 g3) (AF (d0*d1*d2*d3*Aj a b c) (rm c (fr0 p f0 f1 f2 f3) (fr1 p f0 f1 f2 f3) (fr2 p f0 f1 f2 f3))):=by
 have s0:CgR p (fs0 p g0 g1 g2 g3) (AF (d0*d1*d2*d3*Aj a b c) (ap a b c (fs0 p f0 f1 f2 f3))):=P5 h3 h1 h2 h0 (by grind)
 have s1:CgR p (fs1 p g0 g1 g2 g3) (AF (d0*d1*d2*d3*Aj a b c) (ap a b c (fs1 p f0 f1 f2 f3))):=P5 h0 h3 h2 h1 (by grind)
 have s2:CgR p (fs2 p g0 g1 g2 g3) (AF (d0*d1*d2*d3*Aj a b c) (ap a b c (fs2 p f0 f1 f2 f3))):=P5 h0 h1 h3 h2 (by grind)
 obtain⟨c0,c1,c2⟩:=Nt s0 s1 s2;have key:∀ r:R3,rm r (fr0 p f0 f1 f2 f3) (fr1 p f0 f1 f2 f3) (fr2 p f0 f1 f2 f3)=(At r (fs0 p f0 f1 f2 f3),At r (fs1 p f0 f1 f2 f3),At r (fs2 p f0 f1 f2 f3)):=fun r=>by
  rw[JD r,JD r,JD r];rfl
 rw[key a,key b,key c];exact⟨c0,c1,c2⟩
theorem sN(p:Ad)(f0 f1 f2 f3:R3):Aj (fr0 p f0 f1 f2 f3) (fr1 p f0 f1 f2 f3) (fr2 p f0 f1 f2 f3)=fk0 p f0 f1 f2 f3*fk1 p f0 f1 f2 f3*fk2 p f0 f1 f2 f3*Aj f0 f1 f2:=by
 unfold fr0 fr1 fr2;rw[PH];unfold fs0 fs1 fs2;rw[J4]
theorem QB{x:Ad}(h:x%p≠0):x%p%p≠0:=by rw[AV _ (By p)];exact h
theorem V2(hp:P4 p)(h:G5 p f0 f1 f2 f3):Aj (fr0 p f0 f1 f2 f3) (fr1 p f0 f1 f2 f3) (fr2 p f0 f1 f2 f3)%p≠0:=by
 rw[sN];obtain⟨h1,h2,h3,h4⟩:=h;have k0:Aj f3 f1 f2%p≠0:=by rw[show Aj f3 f1 f2=Aj f1 f2 f3 by unfold Aj det;grind];exact h4
 have k1:Aj f0 f3 f2%p≠0:=by rw[show Aj f0 f3 f2=-1*Aj f0 f2 f3 by unfold Aj det;grind];exact BO hp hp.m1 h3
 exact BO hp (nz3 hp (QB k0) (QB k1) (QB h2)) h1
theorem lD(hp:P4 p)(hD:Aj a b c%p≠0)(n0:d0%p≠0)(n1:d1%p≠0)(n2:d2%p≠0)(n3:d3%p≠0)(h0:CgR p g0 (AF d0 (ap a b c f0)))(h1:CgR p g1 (AF d1 (ap a b c f1)))(h2:CgR p g2 (AF d2 (ap a b c f2)))(h3:CgR p g3 (AF d3 (ap a b c f3)))(h:G5 p f0 f1 f2 f3):G5 p g0 g1 g2 g3:=
 ⟨JF (KR h0 h1 h2) (BO hp (nz3 hp n0 n1 n2) (BO hp hD h.1)),JF (KR h0 h1 h3) (BO hp (nz3 hp n0 n1 n3) (BO hp hD h.2.1)),JF (KR h0 h2 h3) (BO hp (nz3 hp n0 n2 n3) (BO hp hD h.2.2.1)),JF (KR h1 h2 h3) (BO hp (nz3 hp n1 n2 n3) (BO hp hD h.2.2.2))⟩
end
theorem lE{a b c x y z:R3}(hp:P4 p)(hk:k%p≠0)(ha:In3 p a)(hb:In3 p b)(hc:In3 p c)(l1:AY p (nine a b c)=Ab 1)(hx:CgR p x (AF k a))(hy:CgR p y (AF k b))(hz:CgR p z (AF k c)):∃ l u,AY p (nine x y z)=Ab l/\D8 p l u/\fmR p u x=a/\fmR p u y=b/\fmR p u z=c:=by
 have p1:1<p:=by have:=hp.lo;omega
 have rs:(nine x y z).map (fun x=>x%p)=((nine a b c).map fun x=>k*x).map (fun x=>x%p):=by
  simp only[nine,Ch,Gu];rw[show x.1%p=k*a.1%p from hx.1,show x.2.1%p=k*a.2.1%p from hx.2.1,show x.2.2%p=k*a.2.2%p from hx.2.2,show y.1%p=k*b.1%p from hy.1,show y.2.1%p=k*b.2.1%p from hy.2.1,show y.2.2%p=k*b.2.2%p from hy.2.2,show z.1%p=k*c.1%p from hz.1,show z.2.1%p=k*c.2.1%p from hz.2.1,show z.2.2%p=k*c.2.2%p from hz.2.2]
 have it:D8 p 1 1:=⟨by decide,p1,by rw[CG,AO (by decide) p1]⟩
 have l0:(1:Ad)%p≠0:=hp.o1;obtain⟨u,iu,eu⟩:=cJ hp hk l0 it (f:=fun x=>k*x) (fun _=>rfl) (nine a b c)
 have el:=J2 hp hk (f:=fun x=>k*x) (fun _=>rfl) (nine a b c)
 rw[l1,<-ML rs]at el;rw[<-S6 rs]at eu;have one:∀ v:Ad,0<=v->v<p->1*(v%p)%p=v:=fun v h0 h1=>by rw[CG,AV _ (By p),AO h0 h1]
 have same:fmI p 1 (nine a b c)=nine a b c:=by
  unfold fmI nine;simp only[Ch,Gu];rw[one _ ha.1.1 ha.1.2,one _ ha.2.1.1 ha.2.1.2,one _ ha.2.2.1 ha.2.2.2,one _ hb.1.1 hb.1.2,one _ hb.2.1.1 hb.2.1.2,one _ hb.2.2.1 hb.2.2.2,one _ hc.1.1 hc.1.2,one _ hc.2.1.1 hc.2.1.2,one _ hc.2.2.1 hc.2.2.2]
 rw[same,UB]at eu;obtain⟨e1,e2,e3⟩:=cI eu;exact⟨_,u,el,iu,e1,e2,e3⟩
theorem iI(hk:Wk Γ)(hf:Ra Γ)(hb:Qi Γ)(ha:Uq Γ){a b c f0 f1 f2 f3 g0 g1 g2 g3:R3}{d0 d1 d2 d3:Ad}(hp:P4 p)(ia:In3 p a)(ib:In3 p b)(ic:In3 p c)(hD:Aj a b c%p≠0)(l1:AY p (nine a b c)=Ab 1)(i0:In3 p f0)(i1:In3 p f1)(i2:In3 p f2)(i3:In3 p f3)(hg:G5 p f0 f1 f2 f3)(j0:In3 p g0)(j1:In3 p g1)(j2:In3 p g2)(j3:In3 p g3)(n0:d0%p≠0)(n1:d1%p≠0)(n2:d2%p≠0)(n3:d3%p≠0)(h0:CgR p g0 (AF d0 (ap a b c f0)))(h1:CgR p g1 (AF d1 (ap a b c f1)))(h2:CgR p g2 (AF d2 (ap a b c f2)))(h3:CgR p g3 (AF d3 (ap a b c f3))):LQ.run Γ [.int p,Du f0 f1 f2 f3,Du g0 g1 g2 g3]=.ok (A1 a b c):=by
 have p0:=hp.pos;have hg':=lD hp hD n0 n1 n2 n3 h0 h1 h2 h3 hg;have e1:=hk p f0 f1 f2 f3 hp i0 i1 i2 i3 hg;have e2:=hk p g0 g1 g2 g3 hp j0 j1 j2 j3 hg';have zM:=V2 hp hg;have zN:=V2 hp hg';obtain⟨r0,r1,r2⟩:=sM h0 h1 h2 h3
 -- the frames' tables
 obtain⟨lM,eM⟩:=MW zM;obtain⟨v,v1,v2,v3⟩:=HX hp (IZ p0 eM).1;have e4:=hf p f0 f1 f2 f3 hp i0 i1 i2 i3 zM lM v eM ⟨v1,v2,v3⟩;obtain⟨lN,eN⟩:=MW zN;obtain⟨u,u1,u2,u3⟩:=HX hp (IZ p0 eN).1;have e3:=hf p g0 g1 g2 g3 hp j0 j1 j2 j3 zN lN u eN ⟨u1,u2,u3⟩;have vz:v%p≠0:=by rw[AO (by omega) v2];omega
 have uz:u%p≠0:=by rw[AO (by omega) u2];omega
 generalize fr0 p f0 f1 f2 f3=x at *;generalize fr1 p f0 f1 f2 f3=y at *;generalize fr2 p f0 f1 f2 f3=z at *;generalize fr0 p g0 g1 g2 g3=x' at *;generalize fr1 p g0 g1 g2 g3=y' at *;generalize fr2 p g0 g1 g2 g3=z' at *;have mx:=EH p v x;have my:=EH p v y;have mz:=EH p v z;have kx:In3 p (fmR p v x):=G1 p0 v x;have ky:In3 p (fmR p v y):=G1 p0 v y;have kz:In3 p (fmR p v z):=G1 p0 v z;have zM':Aj (fmR p v x) (fmR p v y) (fmR p v z)%p≠0:=JF ((Jb mx my mz).trans (Cg.of (J4 v v v x y z))) (BO hp (nz3 hp vz vz vz) zM);obtain⟨b0,b1,b2⟩:=VV mx my mz;obtain⟨s0,s1,s2⟩:=VU v x y z;rw[s0]at b0;rw[s1]at b1;rw[s2]at b2;have zB:Aj (bk0 (fmR p v x) (fmR p v y) (fmR p v z)) (bk1 (fmR p v x) (fmR p v y) (fmR p v z)) (bk2 (fmR p v x) (fmR p v y) (fmR p v z))%p≠0:=by rw[Jh];exact BO hp zM' zM'
 obtain⟨lB,eB⟩:=MW zB;obtain⟨w,w1,w2,w3⟩:=HX hp (IZ p0 eB).1;have wz:w%p≠0:=by rw[AO (by omega) w2];omega
 have e5:=hb p _ _ _ hp kx ky kz zM' lB w eB ⟨w1,w2,w3⟩;generalize bk0 (fmR p v x) (fmR p v y) (fmR p v z)=B0 at *;generalize bk1 (fmR p v x) (fmR p v y) (fmR p v z)=B1 at *;generalize bk2 (fmR p v x) (fmR p v y) (fmR p v z)=B2 at *;have c0:CgR p (fmR p w B0) (AF (w*(v*v)) (bk0 x y z)):=(EH p w B0).trans ((CgR.sc Cg.rfl b0).trans (CgR.of (Ib _ _ _)));have c1:CgR p (fmR p w B1) (AF (w*(v*v)) (bk1 x y z)):=(EH p w B1).trans ((CgR.sc Cg.rfl b1).trans (CgR.of (Ib _ _ _)));have c2:CgR p (fmR p w B2) (AF (w*(v*v)) (bk2 x y z)):=(EH p w B2).trans ((CgR.sc Cg.rfl b2).trans (CgR.of (Ib _ _ _)))
 -- the product
 have row:∀{r t:R3},CgR p t (AF (d0*d1*d2*d3*Aj a b c) (rm r x y z))->CgR p (mlR p (fmR p u t) (fmR p w B0) (fmR p w B1) (fmR p w B2)) (AF (w*(v*v)*(u*(d0*d1*d2*d3*Aj a b c))*Aj x y z) r):=fun {r t} ht=>by
  have q:CgR p (fmR p u t) (AF (u*(d0*d1*d2*d3*Aj a b c)) (rm r x y z)):=(EH p u t).trans ((CgR.sc Cg.rfl ht).trans (CgR.of (Ib _ _ _)));refine(xZ p _ _ _ _).trans ((xC q c0 c1 c2).trans (CgR.of ?_));rw[nZ,xB,xD,Ib,Ib]
 have q0:=row r0;have q1:=row r1;have q2:=row r2;have kz':w*(v*v)*(u*(d0*d1*d2*d3*Aj a b c))*Aj x y z%p≠0:=BO hp (BO hp (BO hp wz (BO hp vz vz)) (BO hp uz (BO hp (BO hp (nz3 hp n0 n1 n2) n3) hD))) zM;obtain⟨l,t,el,it,f0',f1',f2'⟩:=lE hp kz' ia ib ic l1 q0 q1 q2;have zR:Aj (mlR p (fmR p u x') (fmR p w B0) (fmR p w B1) (fmR p w B2)) (mlR p (fmR p u y') (fmR p w B0) (fmR p w B1) (fmR p w B2)) (mlR p (fmR p u z') (fmR p w B0) (fmR p w B1) (fmR p w B2))%p≠0:=JF ((Jb q0 q1 q2).trans (Cg.of (J4 _ _ _ a b c))) (BO hp (nz3 hp kz' kz' kz') hD);have e6:=ha p _ _ _ _ _ _ hp (G1 p0 u x') (G1 p0 u y') (G1 p0 u z') (G1 p0 w B0) (G1 p0 w B1) (G1 p0 w B2) zR l t el it;rw[f0',f1',f2']at e6;exact oI e1 e2 e3 e4 e5 e6
section
variable{Γ:Gam}{ns:Ac Ad}
end
section
variable{Γ:Gam}{ns:Ac Ad}{many s5 s6 s7 s8 s9 s0 s1 s2:Sl}{p:Ad}{a b c:R3}
end
noncomputable def Ow:E:=(.call 1 (.cons (.var 0) (.cons (.var 3) .nil)))
noncomputable def OH:Df:=⟨4,Ae,(.cons (.asg 2 Ae (.comp Ow 3 (.e (.var 1)) CM)) (.cons (.ife (.no (.bi .any (.cons (.var 2) .nil))) (.cons (.rais 5 (.cons (.str (AK "all six numbers have the rest 0")) .nil)) .nil) .nil) (.cons (.ret (.call 17 (.cons (.var 0) (.cons (.var 2) .nil)))) .nil)))⟩
noncomputable def Oo:Df:=⟨1,Ae,(.cons (.ret (.call 122 (.cons (.var 0) (.cons (.tup (.cons (.int 0) (.cons (.int 1) (.cons (.int 0) (.cons (.int 0) (.cons (.un .USub (.int 1)) (.cons (.int 0) .nil))))))) .nil)))) .nil)⟩
theorem TV:∀ xs:Ac Ad,F4 (ds xs)=.ok (xs.any fun x=>x != 0)
 |[]=>rfl
 |x::xs=>by
  show (EQ (.int x)).bind (fun b=>(F4 (ds xs)).bind fun c=>.ok (b||c))=_
  rw[TV xs];rfl
theorem Tq{p:Ad}(hp:0<p):∀ xs:Ac Ad,((xs.map fun x=>x%p).any fun x=>x != 0)=(AY p xs).isSome
 |[]=>rfl
 |x::xs=>by
  unfold AY;rw[Ch,WI];by_cases h:x%p=0
  ·rw[AD h,h,Tq hp xs];rfl
  ·rw[AH h];simp[h]
theorem VN(xs:Ac Ad):(xs.map fun x=>x%p).map (fun x=>x%p)=xs.map fun x=>x%p:=by
 rw[FK];refine EJ fun x _=>?_
 show x%p%p=x%p;rw[AV _ (By p)]
def Ux(Γ:Gam):Prop:=∀ p:Ad,P4 p->Γ.F 123 [.int p]=.ok (.tup (ds [0,1,0,0,p-1,0]))
def InL(p:Ad)(xs:Ac Ad):Prop:=∀ x∈xs,0<=x/\x<p
theorem InL.set(h:InL p xs)(k:Ag){v:Ad}(h0:0<=v)(h1:v<p):InL p (xs.set k v):=fun x hx=>by
 rcases List.mem_or_eq_of_mem_set hx with z|rfl
 ·exact h x z
 ·exact⟨h0,h1⟩
section
variable{Γ:Gam}{ns:Ac Ad}{p at_:Ad}
end
section
variable{Γ:Gam}{ns:Ac Ad}{p t:Ad}
end
structure C6 where
 c0:Ad
 c1:Ad
 c2:Ad
 c3:Ad
 c4:Ad
 c5:Ad
variable{C:C6}
noncomputable def C6.l(C:C6):Ac Ad:=[C.c0,C.c1,C.c2,C.c3,C.c4,C.c5]
noncomputable def Bj(C:C6):D:=.tup (ds C.l)
noncomputable def vI(C:C6)(x:R3):Ad:=C.c0*x.1*x.1+C.c1*x.2.1*x.2.1+C.c2*x.2.2*x.2.2+(C.c3*x.1*x.2.1+C.c4*x.1*x.2.2+C.c5*x.2.1*x.2.2)
noncomputable def tw0(C:C6):R3:=(2*C.c0,C.c3,C.c4)
noncomputable def tw1(C:C6):R3:=(C.c3,2*C.c1,C.c5)
noncomputable def tw2(C:C6):R3:=(C.c4,C.c5,2*C.c2)
noncomputable def bI(C:C6)(x y:R3):Ad:=At (ap (tw0 C) (tw1 C) (tw2 C) x) y
noncomputable def scC(k:Ad)(C:C6):C6:=⟨k*C.c0,k*C.c1,k*C.c2,k*C.c3,k*C.c4,k*C.c5⟩
def CgC(p:Ad)(C D:C6):Prop:=Cg p C.c0 D.c0/\Cg p C.c1 D.c1/\Cg p C.c2 D.c2/\Cg p C.c3 D.c3/\Cg p C.c4 D.c4/\Cg p C.c5 D.c5
noncomputable def pb(C:C6)(a b c:R3):C6:=⟨vI C (BY a b c),vI C (BW a b c),vI C (BV a b c),bI C (BY a b c) (BW a b c),bI C (BY a b c) (BV a b c),bI C (BW a b c) (BV a b c)⟩
section
variable{p:Ad}{C D E:C6}{a b c a' b' c' x y x' y':R3}{k k':Ad}
theorem C6.ext'(h0:C.c0=D.c0)(h1:C.c1=D.c1)(h2:C.c2=D.c2)(h3:C.c3=D.c3)(h4:C.c4=D.c4)(h5:C.c5=D.c5):C=D:=by
 cases C;cases D;simp_all
theorem CgC.rfl:CgC p C C:=⟨Cg.rfl,Cg.rfl,Cg.rfl,Cg.rfl,Cg.rfl,Cg.rfl⟩
theorem CgC.of(h:C=D):CgC p C D:=by rw[h];exact CgC.rfl
theorem CgC.symm(h:CgC p C D):CgC p D C:=⟨h.1.symm,h.2.1.symm,h.2.2.1.symm,h.2.2.2.1.symm,h.2.2.2.2.1.symm,h.2.2.2.2.2.symm⟩
theorem CgC.trans(h:CgC p C D)(g:CgC p D E):CgC p C E:=⟨h.1.trans g.1,h.2.1.trans g.2.1,h.2.2.1.trans g.2.2.1,h.2.2.2.1.trans g.2.2.2.1,h.2.2.2.2.1.trans g.2.2.2.2.1,h.2.2.2.2.2.trans g.2.2.2.2.2⟩
theorem CgC.sc(hk:Cg p k k')(h:CgC p C D):CgC p (scC k C) (scC k' D):=⟨hk.mul h.1,hk.mul h.2.1,hk.mul h.2.2.1,hk.mul h.2.2.2.1,hk.mul h.2.2.2.2.1,hk.mul h.2.2.2.2.2⟩
theorem Jk(h:CgC p C D)(hx:CgR p x x'):Cg p (vI C x) (vI D x'):=
 (((((h.1.mul hx.1).mul hx.1).add ((h.2.1.mul hx.2.1).mul hx.2.1)).add ((h.2.2.1.mul hx.2.2).mul hx.2.2))).add ((((h.2.2.2.1.mul hx.1).mul hx.2.1).add ((h.2.2.2.2.1.mul hx.1).mul hx.2.2)).add ((h.2.2.2.2.2.mul hx.2.1).mul hx.2.2))
theorem Mn(h:CgC p C D):CgR p (tw0 C) (tw0 D)/\CgR p (tw1 C) (tw1 D)/\CgR p (tw2 C) (tw2 D):=
 ⟨⟨Cg.rfl.mul h.1,h.2.2.2.1,h.2.2.2.2.1⟩,⟨h.2.2.2.1,Cg.rfl.mul h.2.1,h.2.2.2.2.2⟩,⟨h.2.2.2.2.1,h.2.2.2.2.2,Cg.rfl.mul h.2.2.1⟩⟩
theorem tD(ha:CgR p a a')(hb:CgR p b b')(hc:CgR p c c')(hx:CgR p x x'):CgR p (ap a b c x) (ap a' b' c' x'):=⟨FQ ha hx,FQ hb hx,FQ hc hx⟩
theorem NE(h:CgC p C D)(hx:CgR p x x')(hy:CgR p y y'):Cg p (bI C x y) (bI D x' y'):=
 let ⟨t0,t1,t2⟩:=Mn h
 FQ (tD t0 t1 t2 hx) hy
theorem VT(h:CgC p C D)(ha:CgR p a a')(hb:CgR p b b')(hc:CgR p c c'):CgC p (pb C a b c) (pb D a' b' c'):=
 let ⟨s0,s1,s2⟩:=Nt ha hb hc
 ⟨Jk h s0,Jk h s1,Jk h s2,NE h s0 s1,NE h s0 s2,NE h s1 s2⟩
theorem Qb(k l:Ad)(C:C6):scC k (scC l C)=scC (k*l) C:=by
 unfold scC;simp only[F8]
theorem Pw(C:C6):scC 1 C=C:=by unfold scC;simp only[CG]
theorem wH(k:Ad)(C:C6)(a b c:R3):pb (scC k C) a b c=scC k (pb C a b c):=by
 unfold pb scC vI bI ap tw0 tw1 tw2 At;refine C6.ext' ?_ ?_ ?_ ?_ ?_ ?_<;>(simp only;grind)
theorem rE(k:Ad)(C:C6)(a b c:R3):pb C (AF k a) (AF k b) (AF k c)=scC (k*k) (pb C a b c):=by
 unfold pb scC vI bI ap tw0 tw1 tw2 At BY BW BV AF;refine C6.ext' ?_ ?_ ?_ ?_ ?_ ?_<;>(simp only;grind)
theorem Vk(C:C6)(x y z:R3)(k l m:Ad):vI C (k*x.1+l*y.1+m*z.1,k*x.2.1+l*y.2.1+m*z.2.1,k*x.2.2+l*y.2.2+m*z.2.2)=k*k*vI C x+l*l*vI C y+m*m*vI C z+(k*l*bI C x y+k*m*bI C x z+l*m*bI C y z):=by
 unfold vI bI ap tw0 tw1 tw2 At;simp only;grind
theorem UU(C:C6)(x y z w:R3)(k l m:Ad):bI C (k*x.1+l*y.1+m*z.1,k*x.2.1+l*y.2.1+m*z.2.1,k*x.2.2+l*y.2.2+m*z.2.2) w=k*bI C x w+l*bI C y w+m*bI C z w:=by
 unfold bI ap tw0 tw1 tw2 At;simp only;grind
theorem Jd(C:C6)(x y:R3):bI C x y=bI C y x:=by
 unfold bI ap tw0 tw1 tw2 At;simp only;grind
theorem Jc(C:C6)(x:R3):bI C x x=2*vI C x:=by
 unfold vI bI ap tw0 tw1 tw2 At;simp only;grind
theorem yA(v0 v1 v2 b0 b1 b2:Ad)(u w:R3):bI ⟨v0,v1,v2,b0,b1,b2⟩ u w=u.1*(w.1*(2*v0)+w.2.1*b0+w.2.2*b1)+u.2.1*(w.1*b0+w.2.1*(2*v1)+w.2.2*b2)+u.2.2*(w.1*b1+w.2.1*b2+w.2.2*(2*v2)):=by
 unfold bI ap tw0 tw1 tw2 At;simp only;grind
theorem YR(C:C6)(s0 s1 s2 u w:R3):bI C (u.1*s0.1+u.2.1*s1.1+u.2.2*s2.1,u.1*s0.2.1+u.2.1*s1.2.1+u.2.2*s2.2.1,u.1*s0.2.2+u.2.1*s1.2.2+u.2.2*s2.2.2) (w.1*s0.1+w.2.1*s1.1+w.2.2*s2.1,w.1*s0.2.1+w.2.1*s1.2.1+w.2.2*s2.2.1,w.1*s0.2.2+w.2.1*s1.2.2+w.2.2*s2.2.2)=bI ⟨vI C s0,vI C s1,vI C s2,bI C s0 s1,bI C s0 s2,bI C s1 s2⟩ u w:=by
 have e:∀ s:R3,bI C s (w.1*s0.1+w.2.1*s1.1+w.2.2*s2.1,w.1*s0.2.1+w.2.1*s1.2.1+w.2.2*s2.2.1,w.1*s0.2.2+w.2.1*s1.2.2+w.2.2*s2.2.2)=w.1*bI C s0 s+w.2.1*bI C s1 s+w.2.2*bI C s2 s:=fun s=>(Jd C _ _).trans (UU C s0 s1 s2 s w.1 w.2.1 w.2.2)
 refine Eq.trans ?_ (yA _ _ _ _ _ _ u w).symm;rw[UU,e,e,e,Jc C s0,Jc C s1,Jc C s2,Jd C s1 s0,Jd C s2 s0,Jd C s2 s1]
theorem sV(C:C6)(a b c:R3):Aj (tw0 (pb C a b c)) (tw1 (pb C a b c)) (tw2 (pb C a b c))=Aj a b c*Aj a b c*Aj (tw0 C) (tw1 C) (tw2 C):=by
 have row:∀ s:R3,(bI C s (BY a b c),bI C s (BW a b c),bI C s (BV a b c))=ap (BY a b c) (BW a b c) (BV a b c) (ap (tw0 C) (tw1 C) (tw2 C) s):=fun s=>by
  unfold bI;rw[JD,JD _ (BW a b c),JD _ (BV a b c)];rfl
 have e0:tw0 (pb C a b c)=(bI C (BY a b c) (BY a b c),bI C (BY a b c) (BW a b c),bI C (BY a b c) (BV a b c)):=by rw[Jc];rfl
 have e1:tw1 (pb C a b c)=(bI C (BW a b c) (BY a b c),bI C (BW a b c) (BW a b c),bI C (BW a b c) (BV a b c)):=by rw[Jc,Jd C (BW a b c) (BY a b c)];rfl
 have e2:tw2 (pb C a b c)=(bI C (BV a b c) (BY a b c),bI C (BV a b c) (BW a b c),bI C (BV a b c) (BV a b c)):=by rw[Jc,Jd C (BV a b c) (BY a b c),Jd C (BV a b c) (BW a b c)];rfl
 rw[e0,e1,e2,row,row,row,Qu,Qu,PH];grind
theorem UF(k:Ad)(C:C6):Aj (tw0 (scC k C)) (tw1 (scC k C)) (tw2 (scC k C))=k*k*k*Aj (tw0 C) (tw1 C) (tw2 C):=by
 rw[<-J4];unfold tw0 tw1 tw2 scC AF;simp only[<-F8,BS 2 k]
def PrC(p:Ad)(C D:C6):Prop:=∃ d,d%p≠0/\CgC p C (scC d D)
theorem PrC.rfl(hp:P4 p):PrC p C C:=⟨1,hp.o1,CgC.of (Pw C).symm⟩
theorem PrC.trans(hp:P4 p)(i:PrC p C D)(j:PrC p D E):PrC p C E:=by
 obtain⟨d,dz,e⟩:=i;obtain⟨d',dz',e'⟩:=j;exact⟨d*d',BO hp dz dz',e.trans ((CgC.sc Cg.rfl e').trans (CgC.of (Qb _ _ _)))⟩
theorem U7(hp:P4 p)(dz:k%p≠0):∃ u,u%p≠0/\Cg p (u*k) 1:=by
 obtain⟨u,u1,u2,u3⟩:=HX hp dz;refine⟨u,by rw[AO (by omega) u2];omega,?_⟩
 show u*k%p=1%p;rw[BS,u3,AO (by decide) (by have:=hp.lo;omega)]
theorem PrC.pb(i:PrC p C D):PrC p (OvC.pb C a b c) (OvC.pb D a b c):=by
 obtain⟨d,dz,e⟩:=i;exact⟨d,dz,(VT e CgR.rfl CgR.rfl CgR.rfl).trans (CgC.of (wH d D a b c))⟩
theorem PrC.tab(hp:P4 p)(kz:k%p≠0)(ha:CgR p a (AF k a'))(hb:CgR p b (AF k b'))(hc:CgR p c (AF k c')):PrC p (OvC.pb C a b c) (OvC.pb C a' b' c'):=
 ⟨k*k,BO hp kz kz,(VT CgC.rfl ha hb hc).trans (CgC.of (rE k C a' b' c'))⟩
def InC(p:Ad)(C:C6):Prop:=∀ x∈C.l,0<=x/\x<p
end
noncomputable def PK:Df:=⟨5,Ae,(.cons (.asg 3 Ae (.bin .Add (.bin .Add (.bin .Mult (.bin .Mult (.idx (.var 1) (.int 0)) (.idx (.var 2) (.int 0))) (.idx (.var 2) (.int 0))) (.bin .Mult (.bin .Mult (.idx (.var 1) (.int 1)) (.idx (.var 2) (.int 1))) (.idx (.var 2) (.int 1)))) (.bin .Mult (.bin .Mult (.idx (.var 1) (.int 2)) (.idx (.var 2) (.int 2))) (.idx (.var 2) (.int 2))))) (.cons (.asg 4 Ae (.bin .Add (.bin .Add (.bin .Mult (.bin .Mult (.idx (.var 1) (.int 3)) (.idx (.var 2) (.int 0))) (.idx (.var 2) (.int 1))) (.bin .Mult (.bin .Mult (.idx (.var 1) (.int 4)) (.idx (.var 2) (.int 0))) (.idx (.var 2) (.int 2)))) (.bin .Mult (.bin .Mult (.idx (.var 1) (.int 5)) (.idx (.var 2) (.int 1))) (.idx (.var 2) (.int 2))))) (.cons (.ret (.call 1 (.cons (.var 0) (.cons (.bin .Add (.var 3) (.var 4)) .nil)))) .nil)))⟩
noncomputable def Om:Df:=⟨2,Ae,(.cons (.ret (.tup (.cons (.tup (.cons (.call 1 (.cons (.var 0) (.cons (.bin .Mult (.int 2) (.idx (.var 1) (.int 0))) .nil))) (.cons (.idx (.var 1) (.int 3)) (.cons (.idx (.var 1) (.int 4)) .nil)))) (.cons (.tup (.cons (.idx (.var 1) (.int 3)) (.cons (.call 1 (.cons (.var 0) (.cons (.bin .Mult (.int 2) (.idx (.var 1) (.int 1))) .nil))) (.cons (.idx (.var 1) (.int 5)) .nil)))) (.cons (.tup (.cons (.idx (.var 1) (.int 4)) (.cons (.idx (.var 1) (.int 5)) (.cons (.call 1 (.cons (.var 0) (.cons (.bin .Mult (.int 2) (.idx (.var 1) (.int 2))) .nil))) .nil)))) .nil))))) .nil)⟩
noncomputable def LM:Df:=⟨3,Ae,(.cons (.asg 2 Ae (.call 131 (.cons (.var 0) (.cons (.var 1) .nil)))) (.cons (.ret (.cmp .NotEq (.call 61 (.cons (.var 0) (.cons (.idx (.var 2) (.int 0)) (.cons (.idx (.var 2) (.int 1)) (.cons (.idx (.var 2) (.int 2)) .nil))))) (.int 0))) .nil))⟩
theorem ix6(C:C6):B7 (Bj C) (.int 0)=.ok (.int C.c0)/\B7 (Bj C) (.int 1)=.ok (.int C.c1)/\B7 (Bj C) (.int 2)=.ok (.int C.c2)/\B7 (Bj C) (.int 3)=.ok (.int C.c3)/\B7 (Bj C) (.int 4)=.ok (.int C.c4)/\B7 (Bj C) (.int 5)=.ok (.int C.c5):=⟨rfl,rfl,rfl,rfl,rfl,rfl⟩
structure BC (C:C6):Prop where
 b0:Bd 10 C.c0
 b1:Bd 10 C.c1
 b2:Bd 10 C.c2
 b3:Bd 10 C.c3
 b4:Bd 10 C.c4
 b5:Bd 10 C.c5
theorem InC.b(hp:P4 p)(h:InC p C):BC C:=by
 have k:∀ x∈C.l,Bd 10 x:=fun x hx=>J9 hp (h x hx).1 (h x hx).2
 exact⟨k _ (by simp[C6.l]),k _ (by simp[C6.l]),k _ (by simp[C6.l]),k _ (by simp[C6.l]),k _ (by simp[C6.l]),k _ (by simp[C6.l])⟩
def Uw(Γ:Gam):Prop:=∀(p:Ad)(C:C6)(x:R3),P4 p->InC p C->In3 p x->Γ.F 126 [.int p,Bj C,An Aa x]=.ok (.int (vI C x%p))
theorem eG(hr:IC Γ)(p:Ad)(C:C6)(x:R3)(hp:P4 p)(iC:InC p C)(ix:In3 p x):PK.run Γ [.int p,Bj C,An Aa x]=.ok (.int (vI C x%p)):=by
 obtain⟨i0,i1,i2,i3,i4,i5⟩:=ix6 C;obtain⟨x0,x1,x2⟩:=HV Aa x;have bC:=iC.b hp;have bx:=Cn hp ix;have k:∀ {u v},Bd 10 u->Bd 10 v->Fl u v=Aa:=fun hu hv=>G0 hu hv (by decide) (by decide)
 have k2:∀ {u v w},Bd 10 u->Bd 10 v->Bd 10 w->Fl (u*v) w=Aa:=fun hu hv hw=>G0 (hu.mul hv) hw (by decide) (by decide)
 simp[PK,Df.run,BB,i0,i1,i2,i3,i4,i5,x0,x1,x2,k bC.b0 bx.1,k bC.b1 bx.2.1,k bC.b2 bx.2.2,k bC.b3 bx.1,k bC.b4 bx.1,k bC.b5 bx.2.1,k2 bC.b0 bx.1 bx.1,k2 bC.b1 bx.2.1 bx.2.1,k2 bC.b2 bx.2.2 bx.2.2,k2 bC.b3 bx.1 bx.2.1,k2 bC.b4 bx.1 bx.2.2,k2 bC.b5 bx.2.1 bx.2.2,hr p _ hp.pos];rfl
noncomputable def t0(p:Ad)(C:C6):R3:=(2*C.c0%p,C.c3,C.c4)
noncomputable def t1(p:Ad)(C:C6):R3:=(C.c3,2*C.c1%p,C.c5)
noncomputable def t2(p:Ad)(C:C6):R3:=(C.c4,C.c5,2*C.c2%p)
theorem NK(hp:P4 p)(h:InC p C):In3 p (t0 p C)/\In3 p (t1 p C)/\In3 p (t2 p C):=by
 have p0:=hp.pos;have k:∀ x∈C.l,0<=x/\x<p:=h;have m:∀ x:Ad,0<=x%p/\x%p<p:=fun x=>⟨Be _ (by omega),A4 _ p0⟩
 exact⟨⟨m _,k _ (by simp[C6.l,t0]),k _ (by simp[C6.l,t0])⟩,⟨k _ (by simp[C6.l,t1]),m _,k _ (by simp[C6.l,t1])⟩,⟨k _ (by simp[C6.l,t2]),k _ (by simp[C6.l,t2]),m _⟩⟩
theorem NL(p:Ad)(C:C6):CgR p (t0 p C) (tw0 C)/\CgR p (t1 p C) (tw1 C)/\CgR p (t2 p C) (tw2 C):=⟨⟨Cg.md rfl,Cg.rfl,Cg.rfl⟩,⟨Cg.rfl,Cg.md rfl,Cg.rfl⟩,⟨Cg.rfl,Cg.rfl,Cg.md rfl⟩⟩
def Ma(Γ:Gam):Prop:=∀(p:Ad)(C:C6),P4 p->Γ.F 131 [.int p,Bj C]=.ok (A1 (t0 p C) (t1 p C) (t2 p C))
theorem eH(hr:IC Γ)(p:Ad)(C:C6)(hp:P4 p):Om.run Γ [.int p,Bj C]=.ok (A1 (t0 p C) (t1 p C) (t2 p C)):=by
 obtain⟨i0,i1,i2,i3,i4,i5⟩:=ix6 C;have m22:∀ y,Ee 2 y=Aa:=fun y=>Iz (by decide) (by decide)
 simp[Om,Df.run,BB,i0,i1,i2,i3,i4,i5,m22,hr p _ hp.pos];rfl
def VA(Γ:Gam):Prop:=∀(p:Ad)(b:Ap)(xs:Ac Ad)(l t:Ad),P4 p->AY p xs=Ab l->D8 p l t->Γ.F 122 [.int p,Dv b xs]=.ok (.tup (ds (fmI p t xs)))
theorem nE(hr:IC Γ)(hf:L7 Γ){b:Ap}{l t:Ad}(hp:P4 p)(e:AY p xs=Ab l)(it:D8 p l t):OH.run Γ [.int p,Dv b xs]=.ok (.tup (ds (fmI p t xs))):=by
 have p0:=hp.pos;have cp:BP (cG Γ [si p,sh (Dv b xs),Af,Af] 3 CM) (cF Γ [si p,sh (Dv b xs),Af,Af] 3 Ow) (ds xs)=.ok (ds (xs.map fun x=>x%p)):=by
  refine KH xs fun x _=>⟨rfl,?_⟩
  simp[cF,Ow,hr p x p0]
 have an:=TV (xs.map fun x=>x%p)
 rw[Tq p0,e]at an;have le:AY p (xs.map fun x=>x%p)=Ab l:=by rw[ML (VN xs)];exact e
 have f:=hf p Ae (xs.map fun x=>x%p) l t hp le it
 rw[S6 (VN xs)]at f;have f':Γ.F 17 [.int p,.lst (ds (xs.map fun x=>x%p))]=.ok (.tup (ds (fmI p t xs))):=f
 simp[OH,Df.run,BB,OJ,cp,an,f']
theorem xS{E:C6}{l:Ad}(hp:P4 p)(el:AY p E.l=Ab l):∃(t:Ad)(D:C6),D8 p l t/\fmI p t E.l=D.l/\InC p D/\AY p D.l=Ab 1/\PrC p D E:=by
 have p0:=hp.pos;obtain⟨lz,_,_⟩:=IZ p0 el;obtain⟨t,t1,t2,t3⟩:=HX hp lz;have tz:t%p≠0:=by rw[AO (by omega) t2];omega
 have ff:∀ x,(t*(x%p)%p)%p=t*x%p:=fun x=>by rw[AV _ (By p),AW t (x%p) p,AV _ (By p),<-AW]
 have lv:=J2 hp tz (f:=fun x=>t*(x%p)%p) ff E.l
 rw[el,E0,BS,t3]at lv;have key:∀ x:Ad,Cg p (t*(x%p)%p) (t*x):=fun x=>(Cg.md rfl).trans (Cg.rfl.mul (Cg.md rfl))
 refine⟨t,⟨t*(E.c0%p)%p,t*(E.c1%p)%p,t*(E.c2%p)%p,t*(E.c3%p)%p,t*(E.c4%p)%p,t*(E.c5%p)%p⟩,⟨t1,t2,t3⟩,rfl,fun x hx=>?_,lv,t,tz,key _,key _,key _,key _,key _,key _⟩
 obtain⟨y,_,rfl⟩:=CZ.mp (show x∈E.l.map fun x=>t*(x%p)%p from hx)
 exact⟨Be _ (by omega),A4 _ p0⟩
section
variable{Γ:Gam}{ns:Ac Ad}{p at_:Ad}{φ:Ad->Ad}
end
noncomputable def e0R:R3:=(1,0,0)
noncomputable def e1R:R3:=(0,1,0)
noncomputable def e2R:R3:=(0,0,1)
noncomputable def e3R:R3:=(1,1,1)
theorem YN(hp:P4 p):In3 p e0R/\In3 p e1R/\In3 p e2R/\In3 p e3R:=by
 have z:0<=(0:Ad)/\(0:Ad)<p:=⟨by decide,hp.pos⟩
 have o:0<=(1:Ad)/\(1:Ad)<p:=⟨by decide,by have:=hp.lo;omega⟩
 exact⟨⟨o,z,z⟩,⟨z,o,z⟩,⟨z,z,o⟩,⟨o,o,o⟩⟩
theorem yS(hp:P4 p):G5 p e0R e1R e2R e3R:=by
 rcases hp with rfl|rfl|rfl|rfl<;>exact⟨by decide,by decide,by decide,by decide⟩
structure Frm (p:Ad) (f0 f1 f2 f3:R3):Prop where
 i0:In3 p f0
 i1:In3 p f1
 i2:In3 p f2
 i3:In3 p f3
 gen:G5 p f0 f1 f2 f3
def Pr(p:Ad)(x y:R3):Prop:=∃ d,d%p≠0/\CgR p x (AF d y)
section
variable{p:Ad}{a b c x y z f g h:R3}{k:Ad}
theorem Me(x:R3):AF 1 x=x:=by unfold AF;simp only[CG]
theorem Pr.rfl(hp:P4 p):Pr p x x:=⟨1,hp.o1,CgR.of (Me x).symm⟩
theorem Pr.trans(hp:P4 p)(i:Pr p x y)(j:Pr p y z):Pr p x z:=by
 obtain⟨d,dz,e⟩:=i;obtain⟨d',dz',e'⟩:=j;exact⟨d*d',BO hp dz dz',e.trans ((CgR.sc Cg.rfl e').trans (CgR.of (Ib _ _ _)))⟩
theorem Pr.symm(hp:P4 p)(i:Pr p x y):Pr p y x:=by
 obtain⟨d,dz,e⟩:=i;obtain⟨u,u1,u2,u3⟩:=HX hp dz;have uz:u%p≠0:=by rw[AO (by omega) u2];omega
 have o:Cg p (u*d) 1:=by
  show u*d%p=1%p;rw[BS,u3,AO (by decide) (by have:=hp.lo;omega)]
 refine⟨u,uz,?_⟩;have q:=CgR.sc (k:=u) (k':=u) Cg.rfl e;rw[Ib]at q;exact(q.trans ((CgR.sc o CgR.rfl).trans (CgR.of (Me y)))).symm
theorem Pr.cg(hp:P4 p)(e:CgR p x y):Pr p x y:=⟨1,hp.o1,e.trans (CgR.of (Me y).symm)⟩
theorem Mu{a' b' c':R3}(ha:CgR p a a')(hb:CgR p b b')(hc:CgR p c c')(hx:CgR p x x'):CgR p (ap a b c x) (ap a' b' c' x'):=⟨FQ ha hx,FQ hb hx,FQ hc hx⟩
theorem Pr.ap(i:Pr p x y):Pr p (OvC.ap a b c x) (OvC.ap a b c y):=by
 obtain⟨d,dz,e⟩:=i;exact⟨d,dz,(Mu CgR.rfl CgR.rfl CgR.rfl e).trans (CgR.of (We a b c y d))⟩
theorem sZ(k:Ad)(a b c x:R3):ap (AF k a) (AF k b) (AF k c) x=AF k (ap a b c x):=by
 unfold ap AF At;refine Bs ?_ (Bs ?_ ?_)<;>(simp only;grind)
theorem Pr.tab{a' b' c':R3}(kz:k%p≠0)(ha:CgR p a (AF k a'))(hb:CgR p b (AF k b'))(hc:CgR p c (AF k c')):Pr p (OvC.ap a b c x) (OvC.ap a' b' c' x):=
 ⟨k,kz,(Mu ha hb hc CgR.rfl).trans (CgR.of (sZ k a' b' c' x))⟩
theorem yH(a b c x y z v:R3):ap (rm a x y z) (rm b x y z) (rm c x y z) v=ap a b c (ap x y z v):=by
 unfold ap rm At BY BW BV;refine Bs ?_ (Bs ?_ ?_)<;>(simp only;grind)
theorem QO(a b c v:R3):ap (bk0 a b c) (bk1 a b c) (bk2 a b c) (ap a b c v)=AF (Aj a b c) v:=by
 unfold ap AF At bk0 bk1 bk2 BY BW BV crs Aj det;refine Bs ?_ (Bs ?_ ?_)<;>(simp only;grind)
theorem sU(a b c x y z:R3):Aj (rm a x y z) (rm b x y z) (rm c x y z)=Aj a b c*Aj x y z:=by
 unfold Aj det rm At BY BW BV;grind
end
noncomputable def tri(g:R3):Ac Ad:=[g.1,g.2.1,g.2.2]
theorem T8(hp:P4 p)(ix:In3 p x)(iy:In3 p y)(lx:AY p (tri x)=Ab 1)(ly:AY p (tri y)=Ab 1)(h:Pr p x y):x=y:=by
 obtain⟨d,dz,e⟩:=h;have p1:1<p:=by have:=hp.lo;omega
 have rs:(tri x).map (fun x=>x%p)=((tri y).map fun x=>d*x).map (fun x=>x%p):=by
  simp only[tri,Ch,Gu];rw[show x.1%p=d*y.1%p from e.1,show x.2.1%p=d*y.2.1%p from e.2.1,show x.2.2%p=d*y.2.2%p from e.2.2]
 have el:=J2 hp dz (f:=fun x=>d*x) (fun _=>rfl) (tri y)
 rw[ly,<-ML rs,lx,E0,Cs,DY]at el;have o:Cg p d 1:=by
  show d%p=1%p;rw[<-el,AO (by decide) p1]
 have q:=e.trans ((CgR.sc o CgR.rfl).trans (CgR.of (Me y)));have same:∀{u v:Ad},(0<=u/\u<p)->(0<=v/\v<p)->Cg p u v->u=v:=fun hu hv huv=>by
  have:=show _%p=_%p from huv
  rwa [AO hu.1 hu.2,AO hv.1 hv.2]at this
 exact Bs (same ix.1 iy.1 q.1) (Bs (same ix.2.1 iy.2.1 q.2.1) (same ix.2.2 iy.2.2 q.2.2))
theorem MU{a b c:R3}(hp:P4 p)(nz:Aj a b c%p≠0):∃ l t,AY p (nine a b c)=Ab l/\D8 p l t/\t%p≠0/\GoodR p (fmR p t a) (fmR p t b) (fmR p t c)/\AY p (nine (fmR p t a) (fmR p t b) (fmR p t c))=Ab 1:=by
 have p0:=hp.pos;obtain⟨l,el⟩:=MW nz;obtain⟨lz,_,_⟩:=IZ p0 el;obtain⟨t,t1,t2,t3⟩:=HX hp lz;have tz:t%p≠0:=by rw[AO (by omega) t2];omega
 have ff:∀ x,(t*(x%p)%p)%p=t*x%p:=fun x=>by rw[AV _ (By p),AW t (x%p) p,AV _ (By p),<-AW]
 have lv:=J2 hp tz (f:=fun x=>t*(x%p)%p) ff (nine a b c)
 rw[el]at lv;refine⟨l,t,el,⟨t1,t2,t3⟩,tz,⟨hp,G1 p0 t a,G1 p0 t b,G1 p0 t c,JF ((Jb (EH p t a) (EH p t b) (EH p t c)).trans (Cg.of (J4 t t t a b c))) (BO hp (nz3 hp tz tz tz) nz)⟩,?_⟩;have e:AY p ((nine a b c).map fun x=>t*(x%p)%p)=Ab 1:=by rw[lv,E0,BS,t3]
 exact e
structure Led (p:Ad) (a b c f0 f1 f2 f3 g0 g1 g2 g3:R3):Prop where
 h0:Pr p g0 (ap a b c f0)
 h1:Pr p g1 (ap a b c f1)
 h2:Pr p g2 (ap a b c f2)
 h3:Pr p g3 (ap a b c f3)
section
variable{p:Ad}{a b c a' b' c' f0 f1 f2 f3 g0 g1 g2 g3 h0 h1 h2 h3:R3}
theorem xY(hp:P4 p)(T:GoodR p a b c)(T':GoodR p a' b' c')(L:Led p a b c e0R e1R e2R e3R f0 f1 f2 f3)(L':Led p a' b' c' e0R e1R e2R e3R g0 g1 g2 g3):∃ x y z,GoodR p x y z/\AY p (nine x y z)=Ab 1/\Led p x y z f0 f1 f2 f3 g0 g1 g2 g3:=by
 have zB:Aj (bk0 a b c) (bk1 a b c) (bk2 a b c)%p≠0:=by rw[Jh];exact BO hp T.nz T.nz
 have zR:Aj (rm a' (bk0 a b c) (bk1 a b c) (bk2 a b c)) (rm b' (bk0 a b c) (bk1 a b c) (bk2 a b c)) (rm c' (bk0 a b c) (bk1 a b c) (bk2 a b c))%p≠0:=by rw[sU];exact BO hp T'.nz zB
 obtain⟨l,t,_,_,tz,gd,l1⟩:=MU hp zR;refine⟨_,_,_,gd,l1,?_⟩;have key:∀{e f g:R3},Pr p f (ap a b c e)->Pr p g (ap a' b' c' e)->Pr p g (ap (fmR p t (rm a' (bk0 a b c) (bk1 a b c) (bk2 a b c))) (fmR p t (rm b' (bk0 a b c) (bk1 a b c) (bk2 a b c))) (fmR p t (rm c' (bk0 a b c) (bk1 a b c) (bk2 a b c))) f):=fun {e f g} hf hg=>by
  refine hg.trans hp (Pr.symm hp ?_);refine(Pr.tab tz (EH p t _) (EH p t _) (EH p t _)).trans hp ?_;rw[yH];refine Pr.ap ((Pr.ap hf).trans hp ?_);rw[QO];exact⟨_,T.nz,CgR.rfl⟩
 exact⟨key L.h0 L'.h0,key L.h1 L'.h1,key L.h2 L'.h2,key L.h3 L'.h3⟩
end
section
variable{Γ:Gam}{ns:Ac Ad}{p:Ad}
theorem kT(hp:P4 p):GoodR p e0R e1R e2R/\AY p (nine e0R e1R e2R)=Ab 1:=by
 obtain⟨i0,i1,i2,i3⟩:=YN hp;refine⟨⟨hp,i0,i1,i2,(yS hp).1⟩,?_⟩;rcases hp with rfl|rfl|rfl|rfl<;>decide
end
noncomputable def L3(a b c:R3):Ac D:=[Bm a,Bm b,Bm c]
def Ij(i j:Ad):Prop:=(i=0/\j=1)\/(i=0/\j=2)\/(i=1/\j=0)\/(i=1/\j=2)\/(i=2/\j=0)\/(i=2/\j=1)
theorem xL{m:Ad}(hi:m%3=i)(hj:(i+1+m / 3%2)%3=j):Ij i j:=by
 have i3:i=0\/i=1\/i=2:=by omega
 have e2:m / 3%2=0\/m / 3%2=1:=by omega
 rcases i3 with z|z|z<;>rcases e2 with e|e<;>rw[z,e]at hj
 ·exact .inl ⟨z,hj.symm⟩
 ·exact .inr (.inl ⟨z,hj.symm⟩)
 ·exact .inr (.inr (.inr (.inl ⟨z,hj.symm⟩)))
 ·exact .inr (.inr (.inl ⟨z,hj.symm⟩))
 ·exact .inr (.inr (.inr (.inr (.inl ⟨z,hj.symm⟩))))
 ·exact .inr (.inr (.inr (.inr (.inr ⟨z,hj.symm⟩))))
theorem aN{a b c:R3}(h:GoodR p a b c)(ht:0<t/\t<p)(ij:Ij i j):∃(i' j':Ag)(x y:R3),DI (L3 a b c) i=.ok (Bm x)/\DI (L3 a b c) j=.ok (Bm y)/\plD 3 i=Ab i'/\plD 3 j=Ab j'/\(∃ a' b' c',GoodR p a' b' c'/\((L3 a b c).set i' (Bm y)).set j' (Bm x)=L3 a' b' c')/\(∃ a' b' c',GoodR p a' b' c'/\(L3 a b c).set i' (Bm (scR p t x))=L3 a' b' c')/\(∃ a' b' c',GoodR p a' b' c'/\(L3 a b c).set i' (Bm (adR p t x y))=L3 a' b' c'):=by
 have p0:=h.p4.pos;have tz:t%p≠0:=by rw[AO (by omega) ht.2];omega
 rcases ij with ⟨rfl,rfl⟩|⟨rfl,rfl⟩|⟨rfl,rfl⟩|⟨rfl,rfl⟩|⟨rfl,rfl⟩|⟨rfl,rfl⟩
 ·exact⟨0,1,a,b,rfl,rfl,rfl,rfl,⟨b,a,c,h.of (k:=-1) h.p4.m1 (Cg.of (by unfold Aj det;grind)) ⟨h.ib,h.ia,h.ic⟩,rfl⟩,⟨_,_,_,h.of (k:=t) tz (Rk p t a b c) ⟨Lc p0 _ _,h.ib,h.ic⟩,rfl⟩,⟨_,_,_,h.of (k:=1) h.p4.o1 (yZ p t a b c) ⟨K9 p0 _ _ _,h.ib,h.ic⟩,rfl⟩⟩
 ·exact⟨0,2,a,c,rfl,rfl,rfl,rfl,⟨c,b,a,h.of (k:=-1) h.p4.m1 (Cg.of (by unfold Aj det;grind)) ⟨h.ic,h.ib,h.ia⟩,rfl⟩,⟨_,_,_,h.of (k:=t) tz (Rk p t a b c) ⟨Lc p0 _ _,h.ib,h.ic⟩,rfl⟩,⟨_,_,_,h.of (k:=1) h.p4.o1 (yY p t a b c) ⟨K9 p0 _ _ _,h.ib,h.ic⟩,rfl⟩⟩
 ·exact⟨1,0,b,a,rfl,rfl,rfl,rfl,⟨b,a,c,h.of (k:=-1) h.p4.m1 (Cg.of (by unfold Aj det;grind)) ⟨h.ib,h.ia,h.ic⟩,rfl⟩,⟨_,_,_,h.of (k:=t) tz (Rj p t a b c) ⟨h.ia,Lc p0 _ _,h.ic⟩,rfl⟩,⟨_,_,_,h.of (k:=1) h.p4.o1 (yX p t a b c) ⟨h.ia,K9 p0 _ _ _,h.ic⟩,rfl⟩⟩
 ·exact⟨1,2,b,c,rfl,rfl,rfl,rfl,⟨a,c,b,h.of (k:=-1) h.p4.m1 (Cg.of (by unfold Aj det;grind)) ⟨h.ia,h.ic,h.ib⟩,rfl⟩,⟨_,_,_,h.of (k:=t) tz (Rj p t a b c) ⟨h.ia,Lc p0 _ _,h.ic⟩,rfl⟩,⟨_,_,_,h.of (k:=1) h.p4.o1 (yW p t a b c) ⟨h.ia,K9 p0 _ _ _,h.ic⟩,rfl⟩⟩
 ·exact⟨2,0,c,a,rfl,rfl,rfl,rfl,⟨c,b,a,h.of (k:=-1) h.p4.m1 (Cg.of (by unfold Aj det;grind)) ⟨h.ic,h.ib,h.ia⟩,rfl⟩,⟨_,_,_,h.of (k:=t) tz (Ri p t a b c) ⟨h.ia,h.ib,Lc p0 _ _⟩,rfl⟩,⟨_,_,_,h.of (k:=1) h.p4.o1 (yV p t a b c) ⟨h.ia,h.ib,K9 p0 _ _ _⟩,rfl⟩⟩
 ·exact⟨2,1,c,b,rfl,rfl,rfl,rfl,⟨a,c,b,h.of (k:=-1) h.p4.m1 (Cg.of (by unfold Aj det;grind)) ⟨h.ia,h.ic,h.ib⟩,rfl⟩,⟨_,_,_,h.of (k:=t) tz (Ri p t a b c) ⟨h.ia,h.ib,Lc p0 _ _⟩,rfl⟩,⟨_,_,_,h.of (k:=1) h.p4.o1 (yU p t a b c) ⟨h.ia,h.ib,K9 p0 _ _ _⟩,rfl⟩⟩
def Mj(Γ:Gam)(mid:Ag)(ns:Ac Ad):Prop:=∀ k:Ad,0<=k->∃ m,0<=m/\Γ.F mid [scr ns,.int k]=.ok (.int m)
noncomputable def N4:E:=(.bin .Mod (.bin .Mult (.var 8) (.var 9)) (.var 0))
noncomputable def N3:E:=(.bin .Mod (.bin .Add (.var 10) (.bin .Mult (.var 8) (.var 11))) (.var 0))
noncomputable def Gg(mid:Ag):Ss:=(.cons (.asg 5 Ae (.bin .FloorDiv (.call mid (.cons (.var 1) (.cons (.var 4) .nil))) (.int 3))) (.cons (.asg 6 Ae (.bin .Mod (.var 5) (.int 3))) (.cons (.asg 7 Ae (.bin .Mod (.bin .Add (.bin .Add (.var 6) (.int 1)) (.bin .Mod (.bin .FloorDiv (.var 5) (.int 3)) (.int 2))) (.int 3))) (.cons (.asg 8 Ae (.bin .Add (.int 1) (.bin .Mod (.bin .FloorDiv (.var 5) (.int 24)) (.bin .Sub (.var 0) (.int 1))))) (.cons (.ife (.cmp .Eq (.bin .Mod (.bin .FloorDiv (.var 5) (.int 6)) (.int 4)) (.int 0)) (.cons (.swp 3 6 7) .nil) (.cons (.ife (.cmp .Eq (.bin .Mod (.bin .FloorDiv (.var 5) (.int 6)) (.int 4)) (.int 1)) (.cons (.put 3 (.var 6) (.comp N4 9 (.e (.idx (.var 3) (.var 6))) CM)) .nil) (.cons (.put 3 (.var 6) (.compT N3 [10,11] (.zip (.idx (.var 3) (.var 6)) (.idx (.var 3) (.var 7))) CM)) .nil)) .nil)) .nil)))))
noncomputable def QP(mid:Ag):Df:=⟨12,Ae,(.cons (.asg 3 Aa (.lst (.cons (.lst (.cons (.int 1) (.cons (.int 0) (.cons (.int 0) .nil)))) (.cons (.lst (.cons (.int 0) (.cons (.int 1) (.cons (.int 0) .nil)))) (.cons (.lst (.cons (.int 0) (.cons (.int 0) (.cons (.int 1) .nil)))) .nil))))) (.cons (.fors 4 (.e (.bin .Add (.bi .list (.cons (.tupI (.rng2 (.var 2) (.bin .Add (.var 2) (.int 9)))) .nil)) (.bi .list (.cons (.tupI (.rng2 (.int 23) (.bi .min (.cons (.bi .len (.cons (.var 1) .nil)) (.cons (.int 63) .nil))))) .nil)))) (Gg mid)) (.cons (.ret (.var 3)) .nil)))⟩
section
variable{Γ:Gam}{ns:Ac Ad}{mid:Ag}{p:Ad}{a b c:R3}{s2 s4 s5 s6 s7 s8:Sl}
theorem nV{k cl i j t:Ad}{j':Ag}(hi:DI L i=.ok (Bm x))(hj:DI L j=.ok (Bm y))(pi:plD L.length i=Ab i')(pj:plD L.length j=Ab j')(k0:cl / 6%4=0):evSs Γ [si p,sh (scr ns),s2,Ab (.lst L,Aa),s4,si cl,si i,si j,si t,Af,Af,Af] ((Gg mid).drop 4)=.next [si p,sh (scr ns),s2,Ab (.lst ((L.set i' (Bm y)).set j' (Bm x)),Aa),s4,si cl,si i,si j,si t,Af,Af,Af]:=by
 simp[Gg,Ss.drop,k0,lI,NN,Dq,HZ,Fo,hi,hj,pi,pj]
theorem nW{cl:Ad}(hi:DI L i=.ok (Bm x))(pi:plD L.length i=Ab i')(p0:0<p)(mt:∀ x,Ee t x=Aa)(k0:¬ cl / 6%4=0)(k1:cl / 6%4=1):evSs Γ [si p,sh (scr ns),s2,Ab (.lst L,Aa),s4,si cl,si i,si j,si t,Af,Af,Af] ((Gg mid).drop 4)=.next [si p,sh (scr ns),s2,Ab (.lst (L.set i' (Bm (scR p t x))),Aa),s4,si cl,si i,si j,si t,Af,Af,Af]:=by
 have cp:BP (cG Γ [si p,sh (scr ns),s2,Ab (.lst L,Aa),s4,si cl,si i,si j,si t,Af,Af,Af] 9 CM) (cF Γ [si p,sh (scr ns),s2,Ab (.lst L,Aa),s4,si cl,si i,si j,si t,Af,Af,Af] 9 N4) [.int x.1,.int x.2.1,.int x.2.2]=.ok [.int (x.1*t%p),.int (x.2.1*t%p),.int (x.2.2*t%p)]:=by
  refine KH (φ:=fun x=>x*t%p) [x.1,x.2.1,x.2.2] fun x _=>⟨rfl,?_⟩
  simp[cF,N4,mt,p0,BS]
 rw[Bm]at hi;simp[Gg,Ss.drop,k1,UC,Dq,hi,pi,cp];rfl
theorem nX{cl:Ad}(hi:DI L i=.ok (Bm x))(hj:DI L j=.ok (Bm y))(pi:plD L.length i=Ab i')(p0:0<p)(mt:∀ x,Ee t x=Aa)(k0:¬ cl / 6%4=0)(k1:¬ cl / 6%4=1):evSs Γ [si p,sh (scr ns),s2,Ab (.lst L,Aa),s4,si cl,si i,si j,si t,Af,Af,Af] ((Gg mid).drop 4)=.next [si p,sh (scr ns),s2,Ab (.lst (L.set i' (Bm (adR p t x y))),Aa),s4,si cl,si i,si j,si t,Af,Af,Af]:=by
 have cp:BP (cGT Γ [si p,sh (scr ns),s2,Ab (.lst L,Aa),s4,si cl,si i,si j,si t,Af,Af,Af] [10,11] CM) (cFT Γ [si p,sh (scr ns),s2,Ab (.lst L,Aa),s4,si cl,si i,si j,si t,Af,Af,Af] [10,11] N3) (EO [.int x.1,.int x.2.1,.int x.2.2] [.int y.1,.int y.2.1,.int y.2.2])=.ok [.int ((x.1+t*y.1)%p),.int ((x.2.1+t*y.2.1)%p),.int ((x.2.2+t*y.2.2)%p)]:=by
  generalize x.1=x0;generalize x.2.1=x1;generalize x.2.2=x2;generalize y.1=y0;generalize y.2.1=y1;generalize y.2.2=y2;simp[BP,cGT,cFT,EO,N3,CM,p0,mt]
 rw[Bm]at hi hj;simp[Gg,Ss.drop,k0,k1,UC,Dq,hi,hj,pi,cp];rfl
theorem dA(hm:Mj Γ mid ns)(h:GoodR p a b c)(hk:0<=k):∃ a' b' c' v5 v6 v7 v8,GoodR p a' b' c'/\Do Γ 4 (Gg mid) (.int k) [si p,sh (scr ns),s2,Ab (.lst (L3 a b c),Aa),s4,s5,s6,s7,s8,Af,Af,Af]=.next [si p,sh (scr ns),s2,Ab (.lst (L3 a' b' c'),Aa),si k,v5,v6,v7,v8,Af,Af,Af]:=by
 have p0:=h.p4.pos;have pl:=h.p4.lo;have ph:=h.p4.hi;obtain⟨m,m0,e0⟩:=hm k hk;generalize hcl:m / 3=cl;have q1:0<p-1:=by omega
 have q2:1<p:=by omega
 have t0:0<1+cl / 24%(p-1):=by have:=Be (cl / 24) (b:=p-1) (by omega);omega
 have t1:1+cl / 24%(p-1)<p:=by have:=A4 (cl / 24) q1;omega
 generalize ht:1+cl / 24%(p-1)=t at t0 t1;generalize hi:cl%3=i;generalize hj:(i+1+cl / 3%2)%3=j;have ij:=xL hi hj;have hd:evSs Γ [si p,sh (scr ns),s2,Ab (.lst (L3 a b c),Aa),si k,s5,s6,s7,s8,Af,Af,Af] ((Gg mid).take 4)=.next [si p,sh (scr ns),s2,Ab (.lst (L3 a b c),Aa),si k,si cl,si i,si j,si t,Af,Af,Af]:=by
  simp[Gg,Ss.take,e0,hcl,hi,hj,q1,q2,ht]
 have mt:∀ x,Ee t x=Aa:=fun x=>Iz (by omega) (by omega)
 obtain⟨i',j',x,y,gi,gj,pi,pj,⟨a1,b1,c1,g1,f1⟩,⟨a2,b2,c2,g2,f2⟩,⟨a3,b3,c3,g3,f3⟩⟩:=aN h ⟨t0,t1⟩ ij;have pi':plD (L3 a b c).length i=Ab i':=pi;have pj':plD (L3 a b c).length j=Ab j':=pj;have fin:∀ {o},evSs Γ [si p,sh (scr ns),s2,Ab (.lst (L3 a b c),Aa),si k,si cl,si i,si j,si t,Af,Af,Af] ((Gg mid).drop 4)=o->Do Γ 4 (Gg mid) (.int k) [si p,sh (scr ns),s2,Ab (.lst (L3 a b c),Aa),s4,s5,s6,s7,s8,Af,Af,Af]=o:=fun {o} h=>by
  show evSs Γ [si p,sh (scr ns),s2,Ab (.lst (L3 a b c),Aa),si k,s5,s6,s7,s8,Af,Af,Af] (Gg mid)=o;rw[S7 Γ 4,hd];exact h
 by_cases k0:cl / 6%4=0
 ·refine⟨a1,b1,c1,si cl,si i,si j,si t,g1,fin ?_⟩;rw[nV (k:=0) gi gj pi' pj' k0,f1]
 ·by_cases k1:cl / 6%4=1
  ·refine⟨a2,b2,c2,si cl,si i,si j,si t,g2,fin ?_⟩;rw[nW gi pi' p0 mt k0 k1,f2]
  ·refine⟨a3,b3,c3,si cl,si i,si j,si t,g3,fin ?_⟩;rw[nX gi gj pi' p0 mt k0 k1,f3]
end
theorem Tn{x:D}(h:x∈DB lo n):∃ j:Ag,j<n/\x=.int (lo+(j:Ad)):=by
 obtain⟨j,hj⟩:=Gr h;exact⟨j,Tv hj⟩
theorem R8{hi:Ad}(h1:-1000<=lo)(h2:lo<=1000)(h3:-1000<=hi)(h4:hi<=1000):DA lo hi=.ok (DB lo (hi-lo).toNat):=by
 unfold DA;rw[AD (by refine⟨⟨by omega,by omega⟩,⟨by omega,by omega⟩,?_⟩;omega)]
def yK(Γ:Gam)(id:Ag)(ns:Ac Ad):Prop:=∀(p:Ad),P4 p->∃ a b c,GoodR p a b c/\Γ.F id [.int p,scr ns,.int 1]=.ok (Fd a b c)
theorem xJ(hl:ns.length<=63)(hm:Mj Γ mid ns)(p:Ad)(hp:P4 p):∃ a b c,GoodR p a b c/\(QP mid).run Γ [.int p,scr ns,.int 1]=.ok (Fd a b c):=by
 have g0:GoodR p e0R e1R e2R:=(kT hp).1;have r1:DA 1 10=.ok (DB 1 9):=rfl;generalize hn:(if (63:Ad)<(ns.length:Ad) then (63:Ad) else (ns.length:Ad))=n
 have n0:0<=n/\n<=63:=by split at hn<;>omega
 have r2:DA 23 n=.ok (DB 23 (n-23).toNat):=R8 (by decide) (by decide) (by omega) (by omega)
 have ad:Dp .Add (.lst (DB 1 9)) (.lst (DB 23 (n-23).toNat))=.ok (.lst (DB 1 9++DB 23 (n-23).toNat)):=by
  rw[Qr,AD];rw[KC,KC];unfold DL;simp;omega
 obtain⟨ρ',e,a,b,c,s4,s5,s6,s7,s8,g,rfl⟩:=S5 (body:=Do Γ 4 (Gg mid)) (fun ρ=>∃ a b c s4 s5 s6 s7 s8,GoodR p a b c/\ρ=[si p,sh (scr ns),si 1,Ab (.lst (L3 a b c),Aa),s4,s5,s6,s7,s8,Af,Af,Af]) (DB 1 9++DB 23 (n-23).toNat) [si p,sh (scr ns),si 1,Ab (.lst (L3 e0R e1R e2R),Aa),Af,Af,Af,Af,Af,Af,Af,Af] ⟨_,_,_,_,_,_,_,_,g0,rfl⟩ (by
  rintro x hx ρ ⟨a,b,c,s4,s5,s6,s7,s8,g,rfl⟩;have hk:∃ k:Ad,0<=k/\x=.int k:=by
   rcases Ik.mp hx with z|z
   ·obtain⟨j,_,rfl⟩:=Tn z;exact⟨_,by omega,rfl⟩
   ·obtain⟨j,_,rfl⟩:=Tn z;exact⟨_,by omega,rfl⟩
  obtain⟨k,k0,rfl⟩:=hk;obtain⟨a',b',c',v5,v6,v7,v8,g',e⟩:=dA (s2:=si 1) (s4:=s4) (s5:=s5) (s6:=s6) (s7:=s7) (s8:=s8) hm g k0;exact⟨_,e,a',b',c',_,_,_,_,_,g',rfl⟩)
 refine⟨a,b,c,g,?_⟩;have ln:biD .len [scr ns]=.ok (.int ns.length):=by simp[scr]
 have mn:biD .min [.int (ns.length:Ad),.int 63]=.ok (.int n):=by rw[<-hn];rfl
 have sq:CI (.lst (DB 1 9++DB 23 (n-23).toNat))=.ok (DB 1 9++DB 23 (n-23).toNat):=rfl;have e':DW (Do Γ 4 (Gg mid)) (DB 1 9++DB 23 (n-23).toNat) [si p,sh (scr ns),si 1,Ab (.lst [.lst [.int 1,.int 0,.int 0],.lst [.int 0,.int 1,.int 0],.lst [.int 0,.int 0,.int 1]],Aa),Af,Af,Af,Af,Af,Af,Af,Af]=_:=e;generalize DB 1 9=A at *;generalize DB 23 (n-23).toNat=B at *;generalize scr ns=S at *;simp[QP,Df.run,BB,Fn,ln,mn,r1,r2,ad,sq,e'];rfl
theorem UK{g:D->R Ap}{f:D->R D}{q:Ad->Ap}{φ:Ad->Ad}:∀(xs:Ac Ad),(∀ x∈xs,g (.int x)=.ok (q x)/\f (.int x)=.ok (.int (φ x)))->BP g f (ds xs)=.ok (ds ((xs.filter q).map φ))
 |[],_=>rfl
 |x::xs,h=>by
  obtain⟨h1,h2⟩:=h x (AB ..);have ih:=UK xs fun y hy=>h y (Av _ hy)
  show (g (.int x)).bind _=_;rw[h1,R.bind_ok,DO];cases hq:q x with
  |true=>
   rw[AD rfl,AD rfl,h2,R.bind_ok,show BP g f (Ls D.int xs)=_ from ih]
   rfl
  |false=>
   rw[AH (by decide),AH (by decide)]
   exact ih
theorem SL{p:Ad}:∀ xs:Ac Ad,((xs.filter fun x=>decide (x%p≠0)).map fun x=>x%p).head?=AY p xs
 |[]=>rfl
 |x::xs=>by
  unfold AY;rw[DO];by_cases h:x%p=0
  ·rw[AH (by simp[h]),AD h]
   exact SL xs
  ·rw[AD (by simp[h]),AH h]
   rfl
noncomputable def Oe:E:=(.cmp .NotEq (.bin .Mod (.var 4) (.var 0)) (.int 0))
noncomputable def Oh:E:=(.bin .Mod (.var 4) (.var 0))
noncomputable def Od:E:=(.cmp .Eq (.bin .Mod (.bin .Mult (.var 5) (.var 2)) (.var 0)) (.int 1))
noncomputable def Og:E:=(.var 5)
noncomputable def Of:E:=(.bin .Mod (.bin .Mult (.var 6) (.var 3)) (.var 0))
noncomputable def Ot:Df:=⟨7,Ae,(.cons (.asg 2 Ae (.idx (.comp Oh 4 (.e (.var 1)) Oe) (.int 0))) (.cons (.asg 3 Ae (.idx (.comp Og 5 (.rng2 (.int 1) (.var 0)) Od) (.int 0))) (.cons (.ret (.bi .tuple (.cons (.comp Of 6 (.e (.var 1)) CM) .nil))) .nil)))⟩
def Nf(Γ:Gam):Prop:=∀(p:Ad)(b:Ap)(xs:Ac Ad)(l t:Ad),P4 p->AY p xs=Ab l->D8 p l t->Γ.F 158 [.int p,Dv b xs]=.ok (.tup (ds (fmI p t xs)))
theorem iM(Γ:Gam){b:Ap}{l t:Ad}(hp:P4 p)(e:AY p xs=Ab l)(it:D8 p l t):Ot.run Γ [.int p,Dv b xs]=.ok (.tup (ds (fmI p t xs))):=by
 have p0:=hp.pos;have ph:=hp.hi;have c1:BP (cG Γ [si p,sh (Dv b xs),Af,Af,Af,Af,Af] 4 Oe) (cF Γ [si p,sh (Dv b xs),Af,Af,Af,Af,Af] 4 Oh) (ds xs)=.ok (ds ((xs.filter fun x=>decide (x%p≠0)).map fun x=>x%p)):=by
  refine UK xs fun x _=>⟨?_,?_⟩
  ·simp[cG,Oe,p0];rw[Cy];simp
  ·simp[cF,Oh,p0]
 have hl:=SL (p:=p) xs;rw[e]at hl;generalize ((xs.filter fun x=>decide (x%p≠0)).map fun x=>x%p)=ls at c1 hl
 have g0:=OO hl;obtain⟨_,l0,l1⟩:=IZ p0 e;have c3:BP (cG Γ [si p,sh (Dv b xs),si l,Af,Af,Af,Af] 5 Od) (cF Γ [si p,sh (Dv b xs),si l,Af,Af,Af,Af] 5 Og) (ds (GK p))=.ok (ds ((GK p).filter fun k=>decide (k*l%p=1))):=by
  refine MR (GK p) fun x hx=>⟨?_,?_⟩
  ·obtain⟨x1,x2⟩:=KN.mp hx;have m:Ee x l=Aa:=Iz (by omega) (by omega)
   simp[cG,Od,m,p0];rw[Cy];simp
  ·simp[cF,Og]
 have g1:=OO (ZM it);have c4:BP (cG Γ [si p,sh (Dv b xs),si l,si t,Af,Af,Af] 6 CM) (cF Γ [si p,sh (Dv b xs),si l,si t,Af,Af,Af] 6 Of) (ds xs)=.ok (ds (xs.map fun x=>x*t%p)):=by
  refine KH xs fun x _=>⟨rfl,?_⟩
  have m:Ee x t=Aa:=Pi (by have:=it.1;omega) (by have:=it.2.1;omega)
  simp[cF,Of,m,p0]
 have ru:DA 1 p=.ok (ds (GK p)):=Tg hp;have fe:fmI p t xs=xs.map fun x=>x*t%p:=by
  unfold fmI;refine EJ fun x _=>?_
  rw[BS x t,AW t (x%p) p,AV _ (By p),<-AW]
 simp[Ot,Df.run,BB,OJ,c1,g0,ru,c3,g1,c4,fe]
noncomputable def LN:Df:=⟨3,Ae,(.cons (.asg 2 Ae (.bin .Mod (.var 1) (.bin .Add (.bin .Add (.bin .Mult (.var 0) (.var 0)) (.var 0)) (.int 1)))) (.cons (.ife (.cmp .Eq (.var 2) (.int 0)) (.cons (.ret (.tup (.cons (.int 0) (.cons (.int 0) (.cons (.int 1) .nil))))) .nil) .nil) (.cons (.ife (.cmp .LtE (.var 2) (.var 0)) (.cons (.ret (.tup (.cons (.int 0) (.cons (.int 1) (.cons (.bin .Sub (.var 2) (.int 1)) .nil))))) .nil) .nil) (.cons (.ret (.tup (.cons (.int 1) (.cons (.bin .FloorDiv (.bin .Sub (.bin .Sub (.var 2) (.var 0)) (.int 1)) (.var 0)) (.cons (.bin .Mod (.bin .Sub (.bin .Sub (.var 2) (.var 0)) (.int 1)) (.var 0)) .nil))))) .nil))))⟩
theorem qF(h:1<p):AY p [0,0,1]=Ab 1:=by
 simp[AY,AO (by decide:(0:Ad)<=1) h]
theorem yB(h:1<p)(z:Ad):AY p [0,1,z]=Ab 1:=by
 simp[AY,AO (by decide:(0:Ad)<=1) h]
theorem YG(h:1<p)(y z:Ad):AY p [1,y,z]=Ab 1:=by
 simp[AY,AO (by decide:(0:Ad)<=1) h]
noncomputable def NR:E:=(.bin .Mult (.idx (.var 0) (.var 5)) (.idx (.var 1) (.var 5)))
noncomputable def RF:Ss:=(.cons (.app 2 (.bin .Add (.bin .Mult (.idx (.var 0) (.var 3)) (.idx (.var 1) (.var 4))) (.bin .Mult (.idx (.var 0) (.var 4)) (.idx (.var 1) (.var 3))))) .nil)
noncomputable def N5:Df:=⟨6,Ae,(.cons (.asg 2 Aa (.comp NR 5 (.rng (.int 3)) CM)) (.cons (.forT [3,4] (.e (.lst (.cons (.tup (.cons (.int 0) (.cons (.int 1) .nil))) (.cons (.tup (.cons (.int 0) (.cons (.int 2) .nil))) (.cons (.tup (.cons (.int 1) (.cons (.int 2) .nil))) .nil))))) RF) (.cons (.ret (.var 2)) .nil)))⟩
noncomputable def prd(a b:R3):C6:=⟨a.1*b.1,a.2.1*b.2.1,a.2.2*b.2.2,a.1*b.2.1+a.2.1*b.1,a.1*b.2.2+a.2.2*b.1,a.2.1*b.2.2+a.2.2*b.2.1⟩
def tG(Γ:Gam):Prop:=∀(p:Ad)(a b:R3),P4 p->In3 p a->In3 p b->Γ.F 160 [Bm a,Bm b]=.ok (.lst (ds (prd a b).l))
theorem oF(Γ:Gam)(p:Ad)(a b:R3)(hp:P4 p)(ha:In3 p a)(hb:In3 p b):N5.run Γ [Bm a,Bm b]=.ok (.lst (ds (prd a b).l)):=by
 have ba:=Cn hp ha;have bb:=Cn hp hb;have k:∀ {u v},Bd 10 u->Bd 10 v->Fl u v=Aa:=fun hu hv=>G0 hu hv (by decide) (by decide)
 obtain⟨a0,a1,a2⟩:=a;obtain⟨b0,b1,b2⟩:=b;have i0:B7 (Bm (a0,a1,a2)) (.int 0)=.ok (.int a0):=rfl;have i1:B7 (Bm (a0,a1,a2)) (.int 1)=.ok (.int a1):=rfl;have i2:B7 (Bm (a0,a1,a2)) (.int 2)=.ok (.int a2):=rfl;have j0:B7 (Bm (b0,b1,b2)) (.int 0)=.ok (.int b0):=rfl;have j1:B7 (Bm (b0,b1,b2)) (.int 1)=.ok (.int b1):=rfl;have j2:B7 (Bm (b0,b1,b2)) (.int 2)=.ok (.int b2):=rfl;have rg:DA 0 3=.ok [.int 0,.int 1,.int 2]:=rfl;have c1:BP (cG Γ [sh (Bm (a0,a1,a2)),sh (Bm (b0,b1,b2)),Af,Af,Af,Af] 5 CM) (cF Γ [sh (Bm (a0,a1,a2)),sh (Bm (b0,b1,b2)),Af,Af,Af,Af] 5 NR) [.int 0,.int 1,.int 2]=.ok [.int (a0*b0),.int (a1*b1),.int (a2*b2)]:=by
  simp[BP,cG,cF,CM,NR,i0,i1,i2,j0,j1,j2,k ba.1 bb.1,k ba.2.1 bb.2.1,k ba.2.2 bb.2.2]
 simp[N5,RF,Df.run,BB,Fn,rg,c1,DW,Nw,Dq,i0,i1,i2,j0,j1,j2,k ba.1 bb.2.1,k ba.2.1 bb.1,k ba.1 bb.2.2,k ba.2.2 bb.1,k ba.2.1 bb.2.2,k ba.2.2 bb.2.1,DL];rfl
noncomputable def Zi:E:=(.bin .Mod (.bin .Mult (.var 9) (.var 9)) (.var 0))
noncomputable def RB:E:=(.cmp .NotIn (.var 8) (.comp Zi 9 (.rng (.var 0)) CM))
noncomputable def RE:E:=(.var 8)
noncomputable def MC:E:=(.bin .Sub (.var 10) (.bin .Mult (.var 7) (.var 11)))
noncomputable def RC:E:=(.bin .Sub (.var 12) (.var 13))
noncomputable def KF:Df:=⟨14,Ae,(.cons (.asgT [3,4,5] (.var 1)) (.cons (.ife (.cmp .Eq (.var 2) (.int 1)) (.cons (.ret (.call 158 (.cons (.var 0) (.cons (.call 160 (.cons (.var 3) (.cons (.var 3) .nil))) .nil)))) .nil) .nil) (.cons (.ife (.cmp .Eq (.var 2) (.int 2)) (.cons (.ret (.call 158 (.cons (.var 0) (.cons (.call 160 (.cons (.var 3) (.cons (.var 4) .nil))) .nil)))) .nil) .nil) (.cons (.asg 6 Ae (.call 160 (.cons (.var 4) (.cons (.var 4) .nil)))) (.cons (.ife (.cmp .Eq (.var 2) (.int 3)) (.cons (.asg 7 Ae (.bi .min (.cons (.comp RE 8 (.rng2 (.int 2) (.var 0)) RB) .nil))) (.cons (.ret (.call 158 (.cons (.var 0) (.cons (.compT MC [10,11] (.zip (.call 160 (.cons (.var 3) (.cons (.var 3) .nil))) (.var 6)) CM) .nil)))) .nil)) .nil) (.cons (.ret (.call 158 (.cons (.var 0) (.cons (.compT RC [12,13] (.zip (.call 160 (.cons (.var 3) (.cons (.var 5) .nil))) (.var 6)) CM) .nil)))) .nil))))))⟩
noncomputable def G9(C D:C6):C6:=⟨C.c0-D.c0,C.c1-D.c1,C.c2-D.c2,C.c3-D.c3,C.c4-D.c4,C.c5-D.c5⟩
theorem aZ(a b c:R3):Aj (tw0 (G9 (prd a c) (prd b b))) (tw1 (G9 (prd a c) (prd b b))) (tw2 (G9 (prd a c) (prd b b)))=2*(Aj a b c*Aj a b c):=by
 unfold tw0 tw1 tw2 G9 prd Aj det;simp only;grind
theorem P4.two(h:P4 p):(2:Ad)%p≠0:=by rcases h with rfl|rfl|rfl|rfl<;>decide
noncomputable def QL:Df:=⟨3,Ae,(.cons (.ret (.call 17 (.cons (.var 0) (.cons (.call 91 (.cons (.var 0) (.cons (.var 1) (.cons (.var 2) .nil)))) .nil)))) .nil)⟩
theorem M0{p l:Ad}(hp:P4 p)(el:AY p (tri r)=Ab l):∃ u,D8 p l u/\In3 p (fmR p u r)/\AY p (tri (fmR p u r))=Ab 1/\Pr p (fmR p u r) r/\fmI p u (tri r)=tri (fmR p u r):=by
 have p0:=hp.pos;obtain⟨lz,_,_⟩:=IZ p0 el;obtain⟨t,t1,t2,t3⟩:=HX hp lz;have tz:t%p≠0:=by rw[AO (by omega) t2];omega
 have ff:∀ x,(t*(x%p)%p)%p=t*x%p:=fun x=>by rw[AV _ (By p),AW t (x%p) p,AV _ (By p),<-AW]
 have lv:=J2 hp tz (f:=fun x=>t*(x%p)%p) ff (tri r)
 rw[el,E0,BS,t3]at lv;exact⟨t,⟨t1,t2,t3⟩,G1 p0 t r,lv,⟨t,tz,EH p t r⟩,rfl⟩
theorem Ph(h:AY p (tri g)=Af):CgR p g (0,0,0):=by
 have hz:=LV.mp h;have k:∀ x∈tri g,Cg p x 0:=fun x hx=>by show x%p=0%p;rw[hz x hx,A7]
 exact⟨k _ (by simp[tri]),k _ (by simp[tri]),k _ (by simp[tri])⟩
theorem Te(h:CgR p g (0,0,0)):AY p (tri g)=Af:=by
 refine LV.mpr fun x hx=>?_
 have k:∀{x:Ad},Cg p x 0->x%p=0:=fun {x} h=>by rw[show x%p=_ from h,A7]
 simp only[tri,Ay,A3,Cj]at hx;rcases hx with rfl|rfl|rfl
 ·exact k h.1
 ·exact k h.2.1
 ·exact k h.2.2
theorem Uu{p l:Ad}{a b c f g:R3}(hp:P4 p)(z:Aj a b c%p≠0)(lf:AY p (tri f)=Ab l)(h:CgR p g (ap a b c f)):∃ l,AY p (tri g)=Ab l:=by
 cases el:AY p (tri g) with
 |some l=>exact⟨l,rfl⟩
 |none=>
  have q0:CgR p (ap a b c f) (0,0,0):=h.symm.trans (Ph el);have q1:CgR p (AF (Aj a b c) f) (0,0,0):=by
   have:=Mu (CgR.rfl (a:=bk0 a b c)) (CgR.rfl (a:=bk1 a b c)) (CgR.rfl (a:=bk2 a b c)) q0;rw[QO]at this;refine this.trans (CgR.of ?_);unfold ap At;simp
  obtain⟨u,uz,o⟩:=U7 hp z;have q2:CgR p f (0,0,0):=by
   have w:=CgR.sc (k:=u) (k':=u) Cg.rfl q1;rw[Ib]at w;refine((CgR.of (Me f).symm).trans (CgR.sc o.symm CgR.rfl)).trans (w.trans (CgR.of ?_));unfold AF;simp
  rw[Te q2]at lf;cases lf
def Vy(Γ:Gam):Prop:=∀(p:Ad)(a b c f:R3),GoodR p a b c->In3 p f->AY p (tri f)=Ab 1->∃ g,In3 p g/\AY p (tri g)=Ab 1/\Pr p g (ap a b c f)/\Γ.F 92 [.int p,A1 a b c,An Aa f]=.ok (An Aa g)
theorem mX(hs:Nu Γ)(hf:L7 Γ)(p:Ad)(a b c f:R3)(g:GoodR p a b c)(i0:In3 p f)(lf:AY p (tri f)=Ab 1):∃ g,In3 p g/\AY p (tri g)=Ab 1/\Pr p g (ap a b c f)/\QL.run Γ [.int p,A1 a b c,An Aa f]=.ok (An Aa g):=by
 have hp:=g.p4;have e1:Γ.F 91 [.int p,A1 a b c,An Aa f]=_:=hs p Aa Aa Aa a b c f hp.pos ((Cn hp g.ia).b3 (by decide)) ((Cn hp g.ib).b3 (by decide)) ((Cn hp g.ic).b3 (by decide)) ((Cn hp i0).b3 (by decide))
 have cg:CgR p (At a f%p,At b f%p,At c f%p) (ap a b c f):=⟨Cg.md rfl,Cg.md rfl,Cg.md rfl⟩;obtain⟨l,el⟩:=Uu hp g.nz lf cg;obtain⟨u,iu,j,l1,pr,ef⟩:=M0 hp el;have e2:=hf p Aa _ l u hp el iu;rw[ef]at e2;generalize (At a f%p,At b f%p,At c f%p)=w at *;have e2':Γ.F 17 [.int p,An Aa w]=.ok (An Aa (fmR p u w)):=e2;refine⟨fmR p u w,j,l1,pr.trans hp (Pr.cg hp cg),?_⟩;simp[QL,Df.run,BB,e1,e2']
def TX(Γ:Gam):Prop:=∀(p:Ad)(C:C6),P4 p->InC p C->Aj (tw0 C) (tw1 C) (tw2 C)%p≠0->Γ.F 136 [.int p,Bj C]=.ok (.bl Aa)
theorem bP(ht:Ma Γ)(hm:KU Γ)(p:Ad)(C:C6)(hp:P4 p)(iC:InC p C)(z:Aj (tw0 C) (tw1 C) (tw2 C)%p≠0):LM.run Γ [.int p,Bj C]=.ok (.bl Aa):=by
 obtain⟨h0,h1,h2⟩:=NK hp iC;have e1:=ht p C hp;have e2:=hm p Aa (t0 p C) (t1 p C) (t2 p C) hp.pos ((Cn hp h0).b3 (by decide)) ((Cn hp h1).b3 (by decide)) ((Cn hp h2).b3 (by decide))
 have td:Aj (t0 p C) (t1 p C) (t2 p C)%p=Aj (tw0 C) (tw1 C) (tw2 C)%p:=let ⟨h0,h1,h2⟩:=NL p C;Jb h0 h1 h2
 rw[td]at e2;have k0:B7 (A1 (t0 p C) (t1 p C) (t2 p C)) (.int 0)=.ok (An Aa (t0 p C)):=rfl;have k1:B7 (A1 (t0 p C) (t1 p C) (t2 p C)) (.int 1)=.ok (An Aa (t1 p C)):=rfl;have k2:B7 (A1 (t0 p C) (t1 p C) (t2 p C)) (.int 2)=.ok (An Aa (t2 p C)):=rfl;generalize Aj (tw0 C) (tw1 C) (tw2 C)%p=d at *;simp[LM,Df.run,BB,e1,e2,k0,k1,k2,z]
noncomputable def OM:Df:=⟨2,Ae,(.cons (.ife (.no (.call 136 (.cons (.var 0) (.cons (.var 1) .nil)))) (.cons (.rais 14 (.cons (.str (AK "the curve is not whole")) .nil)) .nil) .nil) .nil)⟩
noncomputable def On:Df:=⟨2,Ae,(.cons (.expr (.call 147 (.cons (.var 0) (.cons (.var 1) .nil)))) (.cons (.ret (.call 78 (.cons (.var 0) (.cons (.call 131 (.cons (.var 0) (.cons (.var 1) .nil))) .nil)))) .nil))⟩
noncomputable def Ql:Df:=⟨3,Ae,(.cons (.ret (.call 92 (.cons (.var 0) (.cons (.call 106 (.cons (.var 0) (.cons (.call 148 (.cons (.var 0) (.cons (.var 1) .nil))) .nil))) (.cons (.var 2) .nil))))) .nil)⟩
def Qj(Γ:Gam):Prop:=∀(p:Ad)(C:C6),P4 p->InC p C->Aj (tw0 C) (tw1 C) (tw2 C)%p≠0->Γ.F 147 [.int p,Bj C]=.ok .non
theorem nG(h:TX Γ)(p:Ad)(C:C6)(hp:P4 p)(iC:InC p C)(z:Aj (tw0 C) (tw1 C) (tw2 C)%p≠0):OM.run Γ [.int p,Bj C]=.ok .non:=by
 have e:=h p C hp iC z;simp[OM,Df.run,BB,e]
def Rc(p:Ad)(C:C6)(a b c:R3):Prop:=GoodR p a b c/\∃ k,k%p≠0/\CgR p a (AF k (tw0 C))/\CgR p b (AF k (tw1 C))/\CgR p c (AF k (tw2 C))
def Vw(Γ:Gam):Prop:=∀(p:Ad)(C:C6),P4 p->InC p C->Aj (tw0 C) (tw1 C) (tw2 C)%p≠0->∃ a b c,Rc p C a b c/\Γ.F 148 [.int p,Bj C]=.ok (A1 a b c)
theorem oE(hw:Qj Γ)(ht:Ma Γ)(hf:Mi Γ)(p:Ad)(C:C6)(hp:P4 p)(iC:InC p C)(z:Aj (tw0 C) (tw1 C) (tw2 C)%p≠0):∃ a b c,Rc p C a b c/\On.run Γ [.int p,Bj C]=.ok (A1 a b c):=by
 obtain⟨i0,i1,i2⟩:=NK hp iC;obtain⟨h0,h1,h2⟩:=NL p C;have zt:Aj (t0 p C) (t1 p C) (t2 p C)%p≠0:=JF (Jb h0 h1 h2) z;obtain⟨l,t,el,it,tz,gd,_⟩:=MU hp zt;have e1:=hw p C hp iC z;have e2:=ht p C hp;have e3:Γ.F 78 [.int p,A1 (t0 p C) (t1 p C) (t2 p C)]=_:=hf p Aa Aa _ _ _ hp ((Cn hp i0).b3 (by decide)) ((Cn hp i1).b3 (by decide)) ((Cn hp i2).b3 (by decide)) zt l t el it
 refine⟨_,_,_,⟨gd,t,tz,(EH p t _).trans (CgR.sc Cg.rfl h0),(EH p t _).trans (CgR.sc Cg.rfl h1),(EH p t _).trans (CgR.sc Cg.rfl h2)⟩,?_⟩;generalize A1 (fmR p t (t0 p C)) (fmR p t (t1 p C)) (fmR p t (t2 p C))=T at *;simp[On,Df.run,BB,e1,e2,e3]
def tH(Γ:Gam):Prop:=∀(p:Ad)(C:C6)(x:R3),P4 p->InC p C->Aj (tw0 C) (tw1 C) (tw2 C)%p≠0->In3 p x->AY p (tri x)=Ab 1->∃ y,In3 p y/\AY p (tri y)=Ab 1/\Pr p y (ap (bk0 (tw0 C) (tw1 C) (tw2 C)) (bk1 (tw0 C) (tw1 C) (tw2 C)) (bk2 (tw0 C) (tw1 C) (tw2 C)) x)/\Γ.F 149 [.int p,Bj C,An Aa x]=.ok (An Aa y)
theorem oG(hq:Vw Γ)(hb:Qi Γ)(hl:Vy Γ)(p:Ad)(C:C6)(x:R3)(hp:P4 p)(iC:InC p C)(z:Aj (tw0 C) (tw1 C) (tw2 C)%p≠0)(ix:In3 p x)(lx:AY p (tri x)=Ab 1):∃ y,In3 p y/\AY p (tri y)=Ab 1/\Pr p y (ap (bk0 (tw0 C) (tw1 C) (tw2 C)) (bk1 (tw0 C) (tw1 C) (tw2 C)) (bk2 (tw0 C) (tw1 C) (tw2 C)) x)/\Ql.run Γ [.int p,Bj C,An Aa x]=.ok (An Aa y):=by
 obtain⟨a,b,c,⟨gd,k,kz,h0,h1,h2⟩,e1⟩:=hq p C hp iC z;have zB:Aj (bk0 a b c) (bk1 a b c) (bk2 a b c)%p≠0:=by rw[Jh];exact BO hp gd.nz gd.nz
 obtain⟨l,t,el,it,tz,gB,_⟩:=MU hp zB;have e2:=hb p a b c hp gd.ia gd.ib gd.ic gd.nz l t el it;obtain⟨y,j,l1,pr,e3⟩:=hl p _ _ _ x gB ix lx;obtain⟨b0,b1,b2⟩:=VV h0 h1 h2;obtain⟨s0,s1,s2⟩:=VU k (tw0 C) (tw1 C) (tw2 C);rw[s0]at b0;rw[s1]at b1;rw[s2]at b2;refine⟨y,j,l1,(pr.trans hp (Pr.tab tz (EH p t _) (EH p t _) (EH p t _))).trans hp (Pr.tab (BO hp kz kz) b0 b1 b2),?_⟩;generalize A1 (fmR p t (bk0 a b c)) (fmR p t (bk1 a b c)) (fmR p t (bk2 a b c))=TB at *;simp[Ql,Df.run,BB,e1,e2,e3]
theorem UW(a b c v:R3):ap a b c (ap (bk0 a b c) (bk1 a b c) (bk2 a b c) v)=AF (Aj a b c) v:=by
 unfold ap AF At bk0 bk1 bk2 BY BW BV crs Aj det;refine Bs ?_ (Bs ?_ ?_)<;>(simp only;grind)
noncomputable def MH:Df:=⟨3,Ae,(.cons (.asg 2 Ae (.int 0)) (.cons (.ife (.cmp .Lt (.var 1) (.bi .len (.cons (.var 0) .nil))) (.cons (.asg 2 Ae (.idx (.var 0) (.var 1))) .nil) .nil) (.cons (.ret (.bin .Mod (.bin .Mult (.bin .Add (.bin .Add (.bin .Mod (.var 2) (.int 1000003)) (.bin .Mult (.int 7919) (.var 1))) (.int 11)) (.int 48271)) (.int 1000033))) .nil)))⟩
theorem oJ(Γ:Gam)(ns:Ac Ad)(k:Ad)(h0:0<=k):∃ m,0<=m/\MH.run Γ [scr ns,.int k]=.ok (.int m):=by
 have m1:Ee 7919 k=Aa:=Iz (by decide) (by decide)
 have m2:∀ x,Ee x 48271=Aa:=fun x=>Pi (by decide) (by decide)
 by_cases h1:k<ns.length
 ·have g:=kY h0 h1;generalize ns.getD k.toNat 0=x at g;refine⟨(x%1000003+7919*k+11)*48271%1000033,Be _ (by decide),?_⟩
  simp[MH,Df.run,BB,h1,g,m1,m2]
 ·refine⟨(0%1000003+7919*k+11)*48271%1000033,Be _ (by decide),?_⟩
  simp[MH,Df.run,BB,h1,m1,m2]
noncomputable def QY(mid:Ag):Df:=⟨1,Ae,(.cons (.ret (.idx (.lst (.cons (.int 3) (.cons (.int 5) (.cons (.int 7) (.cons (.int 11) .nil))))) (.bin .Mod (.bin .FloorDiv (.call mid (.cons (.var 0) (.cons (.int 0) .nil))) (.int 5)) (.int 4)))) .nil)⟩
def dY(Γ:Gam)(id:Ag)(ns:Ac Ad):Prop:=∃ p,P4 p/\Γ.F id [scr ns]=.ok (.int p)
theorem bR(h:Mj Γ mid ns):∃ p,P4 p/\(QY mid).run Γ [scr ns]=.ok (.int p):=by
 obtain⟨m,m0,e⟩:=h 0 (by decide)
 refine⟨_,qP (m / 5),?_⟩;simp[QY,Df.run,BB,e,cN]
noncomputable def LO:Df:=⟨8,Ae,(.cons (.asgT [2,3,4] (.var 0)) (.cons (.asgT [5,6,7] (.var 1)) (.cons (.ret (.lst (.cons (.bin .Sub (.bin .Mult (.var 3) (.var 7)) (.bin .Mult (.var 4) (.var 6))) (.cons (.bin .Sub (.bin .Mult (.var 4) (.var 5)) (.bin .Mult (.var 2) (.var 7))) (.cons (.bin .Sub (.bin .Mult (.var 2) (.var 6)) (.bin .Mult (.var 3) (.var 5))) .nil))))) .nil)))⟩
noncomputable def N2:E:=(.bin .Mult (.var 7) (.var 8))
noncomputable def NY:Df:=⟨9,Ae,(.cons (.asgT [3,4,5] (.var 2)) (.cons (.asg 6 Ae (.lst (.cons (.bin .Mult (.var 3) (.var 3)) (.cons (.bin .Mult (.var 4) (.var 4)) (.cons (.bin .Mult (.var 5) (.var 5)) (.cons (.bin .Mult (.var 3) (.var 4)) (.cons (.bin .Mult (.var 3) (.var 5)) (.cons (.bin .Mult (.var 4) (.var 5)) .nil)))))))) (.cons (.ret (.bin .Mod (.bi .sum (.cons (.compT N2 [7,8] (.zip (.var 1) (.var 6)) CM) .nil)) (.var 0))) .nil)))⟩
theorem Qs(x:R3):flD 5 (An Aa x)=Aa/\eqD (An Aa x) (An Aa x)=Aa:=by
 refine⟨rfl,?_⟩;show eqDs (ds [x.1,x.2.1,x.2.2]) (ds [x.1,x.2.1,x.2.2])=Aa;rw[Qt]
section
variable{Γ:Gam}{ns:Ac Ad}{p:Ad}{C:C6}{s3 s4 s5 s6 s7 s8:Sl}
end
section
variable{Γ:Gam}{ns:Ac Ad}
end
noncomputable def Qn:Df:=⟨3,Ae,(.cons (.ret (.call 17 (.cons (.var 0) (.cons (.call 23 (.cons (.var 1) (.cons (.var 2) .nil))) .nil)))) .nil)⟩
theorem Tb{a b:R3}(hp:P4 p)(h:CgR p (crs a b) (0,0,0))(la:AY p (tri a)=Ab 1)(lb:AY p (tri b)=Ab 1):Pr p b a:=by
 obtain⟨h0,h1,h2⟩:=h;have p1:1<p:=by have:=hp.lo;omega
 have sw:∀{x y:Ad},Cg p (x-y) 0->Cg p x y:=fun {x y} h=>by
  have:=h.add (Cg.rfl (a:=y))
  rwa [WE,FJ]at this
 have e0:Cg p (a.2.1*b.2.2) (a.2.2*b.2.1):=sw h0;have e1:Cg p (a.2.2*b.1) (a.1*b.2.2):=sw h1;have e2:Cg p (a.1*b.2.1) (a.2.1*b.1):=sw h2;have one:∀{x:Ad},x%p=1->Cg p x 1:=fun {x} h=>by show x%p=1%p;rw[h,AO (by decide) p1]
 have fin:∀ k,CgR p b (AF k a)->Pr p b a:=fun k hk=>by
  refine⟨k,fun z=>?_,hk⟩
  have:CgR p b (0,0,0):=by
   have kz:Cg p k 0:=by show k%p=0%p;rw[z,A7]
   refine hk.trans ((CgR.sc kz CgR.rfl).trans (CgR.of ?_));unfold AF;simp
  rw[Te this]at lb;cases lb
 unfold tri AY at la;by_cases z0:a.1%p=0
 ·rw[AD z0]at la;have c0:Cg p a.1 0:=by show a.1%p=0%p;rw[z0,A7]
  unfold AY at la;by_cases z1:a.2.1%p=0
  ·rw[AD z1]at la;have c1:Cg p a.2.1 0:=by show a.2.1%p=0%p;rw[z1,A7]
   unfold AY at la;by_cases z2:a.2.2%p=0
   ·rw[AD z2]at la;cases la
   ·rw[AH z2,Cs]at la;have c2:=one la;refine fin b.2.2 ⟨?_,?_,?_⟩
    ·have:=(c2.symm.mul (Cg.rfl (a:=b.1))).trans e1;rw[CG]at this;exact this.trans (Cg.of (BS _ _))
    ·have:=(c2.symm.mul (Cg.rfl (a:=b.2.1))).trans e0.symm;rw[CG]at this;exact this.trans (Cg.of (BS _ _))
    ·have:=(Cg.rfl (a:=b.2.2)).mul c2;rw[DY]at this;exact this.symm
  ·rw[AH z1,Cs]at la;have c1:=one la;refine fin b.2.1 ⟨?_,?_,?_⟩
   ·have:=(c1.symm.mul (Cg.rfl (a:=b.1))).trans e2.symm;rw[CG]at this;exact this.trans (Cg.of (BS _ _))
   ·have:=(Cg.rfl (a:=b.2.1)).mul c1;rw[DY]at this;exact this.symm
   ·have:=(c1.symm.mul (Cg.rfl (a:=b.2.2))).trans e0;rw[CG]at this;exact this.trans (Cg.of (BS _ _))
 ·rw[AH z0,Cs]at la;have c0:=one la;refine fin b.1 ⟨?_,?_,?_⟩
  ·have:=(Cg.rfl (a:=b.1)).mul c0;rw[DY]at this;exact this.symm
  ·have:=(c0.symm.mul (Cg.rfl (a:=b.2.1))).trans e2;rw[CG]at this;exact this.trans (Cg.of (BS _ _))
  ·have:=(c0.symm.mul (Cg.rfl (a:=b.2.2))).trans e1.symm;rw[CG]at this;exact this.trans (Cg.of (BS _ _))
def J6(Γ:Gam):Prop:=∀(p:Ad)(a b:R3),P4 p->In3 p a->In3 p b->AY p (tri a)=Ab 1->AY p (tri b)=Ab 1->a≠b->∃ y,In3 p y/\AY p (tri y)=Ab 1/\Pr p y (crs a b)/\Γ.F 57 [.int p,An Aa a,An Aa b]=.ok (An Aa y)
theorem mZ(hc:Uo Γ)(hf:L7 Γ)(p:Ad)(a b:R3)(hp:P4 p)(ia:In3 p a)(ib:In3 p b)(la:AY p (tri a)=Ab 1)(lb:AY p (tri b)=Ab 1)(ne:a≠b):∃ y,In3 p y/\AY p (tri y)=Ab 1/\Pr p y (crs a b)/\Qn.run Γ [.int p,An Aa a,An Aa b]=.ok (An Aa y):=by
 have e1:=hc a b ((Cn hp ia).b3 (by decide)) ((Cn hp ib).b3 (by decide)) ne
 cases el:AY p (tri (crs a b)) with
 |none=>exact absurd (T8 hp ib ia lb la (Tb hp (Ph el) la lb)).symm ne
 |some l=>
  obtain⟨u,iu,j,l1,pr,ef⟩:=M0 hp el;have e2:=hf p Aa _ l u hp el iu;rw[ef]at e2;have e2':Γ.F 17 [.int p,An Aa (crs a b)]=.ok (An Aa (fmR p u (crs a b))):=e2;refine⟨_,j,l1,pr,?_⟩;generalize An Aa (fmR p u (crs a b))=Y at *;simp[Qn,Df.run,BB,e1,e2']
theorem jT(a b:R3):At (crs a b) a=0/\At (crs a b) b=0:=by
 unfold At crs;constructor<;>grind
theorem FP{x:Ad}(hp:P4 p)(kz:k%p≠0):k*x%p=0↔x%p=0:=by
 constructor
 ·intro z;exact En fun n=>BO hp kz n z
 ·intro z;rw[AW,z,DC,A7]
theorem QD(hp:P4 p)(hx:Pr p x x')(hy:Pr p y y'):(At x y%p=0)↔(At x' y'%p=0):=by
 obtain⟨d,dz,e⟩:=hx;obtain⟨d',dz',e'⟩:=hy;have q:Cg p (At x y) (d*d'*At x' y'):=(FQ e e').trans (Cg.of (by unfold At AF;simp only;grind))
 rw[show At x y%p=_ from q]
 exact FP hp (BO hp dz dz')
section
variable{Γ:Gam}{ns:Ac Ad}{p:Ad}{C:C6}{s3 s4 s5 s6 s7 s8:Sl}
end
def NF(p:Ad)(x:R3):Prop:=In3 p x/\AY p (tri x)=Ab 1
noncomputable def ptI(p n:Ad):R3:=if n=0 then (0,0,1) else if n<=p then (0,1,n-1) else (1,(n-p-1) / p,(n-p-1)%p)
noncomputable def Da(p:Ad):Ac R3:=(Bl (p*p+p+1).toNat).map fun(n:Ag)=>ptI p n
theorem vX{n:Ad}(hp:P4 p)(h0:0<=n)(h1:n<p*p+p+1):NF p (ptI p n):=by
 have p1:1<p:=by have:=hp.lo;omega
 have p0:=hp.pos;unfold ptI;by_cases z:n=0
 ·rw[AD z];exact⟨⟨⟨by decide,p0⟩,⟨by decide,p0⟩,⟨by decide,p1⟩⟩,qF p1⟩
 ·rw[AH z];by_cases z1:n<=p
  ·rw[AD z1];exact⟨⟨⟨JP 0,p0⟩,⟨(by decide:(0:Ad)<=1),p1⟩,⟨by show 0<=n-1;omega,by show n-1<p;omega⟩⟩,yB p1 _⟩
  ·rw[AH z1];have d0:0<=(n-p-1) / p:=Int.ediv_nonneg (by omega) (by omega)
   have d1:(n-p-1) / p<p:=by rw[Int.ediv_lt_iff_lt_mul p0];omega
   exact⟨⟨⟨(by decide:(0:Ad)<=1),p1⟩,⟨d0,d1⟩,⟨Be _ (by omega),A4 _ p0⟩⟩,YG p1 _ _⟩
theorem xV(hp:P4 p)(h:NF p x):∃ n:Ad,0<=n/\n<p*p+p+1/\x=ptI p n:=by
 obtain⟨⟨i0,i1,i2⟩,l⟩:=h;have p1:1<p:=by have:=hp.lo;omega
 have p0:=hp.pos;have pp:=JQ p0 p0;obtain⟨x0,x1,x2⟩:=x;simp only at i0 i1 i2;unfold tri AY at l;simp only at l;rw[AO i0.1 i0.2]at l;by_cases z0:x0=0
 ·rw[AD z0]at l;unfold AY at l;rw[AO i1.1 i1.2]at l;by_cases z1:x1=0
  ·rw[AD z1]at l;unfold AY at l;rw[AO i2.1 i2.2]at l;by_cases z2:x2=0
   ·rw[AD z2]at l;cases l
   ·rw[AH z2,Cs]at l;exact⟨0,JP 0,by omega,by rw[z0,z1,l];rfl⟩
  ·rw[AH z1,Cs]at l;refine⟨x2+1,by omega,by omega,?_⟩
   unfold ptI;rw[AH (by omega),AD (by omega),z0,l,Int.add_sub_cancel]
 ·rw[AH z0,Cs]at l;have m1:p*x1<=p*(p-1):=Int.mul_le_mul_of_nonneg_left (by omega) (by omega)
  have m0:0<=p*x1:=Int.mul_nonneg (by omega) i1.1
  rw[WD,DY]at m1;refine⟨p+1+p*x1+x2,by omega,by omega,?_⟩
  unfold ptI;have e:p+1+p*x1+x2-p-1=x2+p*x1:=by omega
  rw[AH (by omega),AH (by omega),e,Int.add_mul_ediv_left _ _ (by omega),Int.ediv_eq_zero_of_lt i2.1 i2.2,Fp,AO i2.1 i2.2,FJ,l]
theorem EN(hp:P4 p):x∈Da p↔NF p x:=by
 have p0:=hp.pos;have pp:=JQ p0 p0;constructor
 ·intro h;obtain⟨n,hn,rfl⟩:=CZ.mp h;have:=DQ.mp hn;exact vX hp (by omega) (by omega)
 ·intro h;obtain⟨n,n0,n1,rfl⟩:=xV hp h;refine CZ.mpr ⟨n.toNat,DQ.mpr (by omega),?_⟩
  rw[Int.toNat_of_nonneg n0]
theorem LS(hp:P4 p):(Da p).Nodup:=by
 rcases hp with rfl|rfl|rfl|rfl<;>decide +kernel
theorem Po{α:Type}[DecidableEq α]:∀{l1 l2:Ac α},l1.Nodup->(∀ x∈l1,x∈l2)->l1.length<=l2.length
 |[],_,_,_=>Di _
 |x::l1,l2,nd,h=>by
  obtain⟨n1,n2⟩:=B5.mp nd;have hx:=h x AB;have:=Po (l1:=l1) (l2:=l2.erase x) n2 fun y hy=>by
   have hy2:=h y (Av _ hy);have ne:y≠x:=fun e=>n1 (e ▸ hy)
   exact(WZ ne).mpr hy2
  rw[WU hx]at this;have l0:0<l2.length:=List.length_pos_of_mem hx;rw[Cp];omega
theorem O5{α β:Type}{f:α->β}:∀{l:Ac α},l.Nodup->(∀ x∈l,∀ y∈l,f x=f y->x=y)->(l.map f).Nodup
 |[],_,_=>W2
 |x::l,nd,h=>by
  obtain⟨n1,n2⟩:=B5.mp nd;rw[Ch,B5];refine⟨fun m=>?_,O5 n2 fun y hy z hz=>h y (Av _ hy) z (Av _ hz)⟩
  obtain⟨y,hy,e⟩:=CZ.mp m;have:=h y (Av _ hy) x AB e;exact n1 (this ▸ hy)
theorem jX[DecidableEq α]{l:Ac α}(nd:l.Nodup)(F G:α->α)(hF:∀ x∈l,F x∈l)(hG:∀ y∈l,G y∈l)(GF:∀ x∈l,G (F x)=x)(FG:∀ y∈l,F (G y)=y)(Q:α->Ap):(l.filter fun x=>Q (F x)).length=(l.filter Q).length:=by
 refine Im ?_ ?_
 ·have n:((l.filter fun x=>Q (F x)).map F).Nodup:=O5 (nd.filter _) fun x hx y hy e=>by
   have h1:=GF x (AR.mp hx).1;have h2:=GF y (AR.mp hy).1;rw[<-h1,<-h2,e]
  have:=Po (l2:=l.filter Q) n fun z hz=>by
   obtain⟨x,hx,rfl⟩:=CZ.mp hz;obtain⟨h1,h2⟩:=AR.mp hx;exact AR.mpr ⟨hF x h1,h2⟩
  rwa [BR]at this
 ·have n:((l.filter Q).map G).Nodup:=O5 (nd.filter _) fun x hx y hy e=>by
   have h1:=FG x (AR.mp hx).1;have h2:=FG y (AR.mp hy).1;rw[<-h1,<-h2,e]
  have:=Po (l2:=l.filter fun x=>Q (F x)) n fun z hz=>by
   obtain⟨x,hx,rfl⟩:=CZ.mp hz;obtain⟨h1,h2⟩:=AR.mp hx;exact AR.mpr ⟨hG x h1,by rw[FG x h1];exact h2⟩
  rwa [BR]at this
noncomputable def nrm(p:Ad)(r:R3):R3:=open Classical in if h:∃ y,NF p y/\Pr p y r then Ww h else r
theorem M3{p l:Ad}(hp:P4 p)(el:AY p (tri r)=Ab l):NF p (nrm p r)/\Pr p (nrm p r) r:=by
 have h:∃ y,NF p y/\Pr p y r:=by
  obtain⟨u,iu,j,l1,pr,_⟩:=M0 hp el;exact⟨_,⟨j,l1⟩,pr⟩
 unfold nrm;rw[dif_pos h];exact E5 h
theorem Hl{a b c x:R3}(hp:P4 p)(z:Aj a b c%p≠0)(hx:NF p x):NF p (nrm p (ap a b c x))/\Pr p (nrm p (ap a b c x)) (ap a b c x):=by
 obtain⟨l,el⟩:=Uu hp z hx.2 CgR.rfl;exact M3 hp el
theorem KZ(hp:P4 p)(hx:NF p x)(hy:NF p y)(h:Pr p x y):x=y:=T8 hp hx.1 hy.1 hx.2 hy.2 h
theorem LU{a b c x:R3}(hp:P4 p)(z:Aj a b c%p≠0)(hx:NF p x):nrm p (ap (bk0 a b c) (bk1 a b c) (bk2 a b c) (nrm p (ap a b c x)))=x:=by
 obtain⟨h1,h2⟩:=Hl hp z hx;have zB:Aj (bk0 a b c) (bk1 a b c) (bk2 a b c)%p≠0:=by rw[Jh];exact BO hp z z
 obtain⟨h3,h4⟩:=Hl hp zB h1;refine KZ hp h3 hx (h4.trans hp ((Pr.ap h2).trans hp ?_));rw[QO];exact⟨_,z,CgR.rfl⟩
theorem SK{a b c x:R3}(hp:P4 p)(z:Aj a b c%p≠0)(hx:NF p x):nrm p (ap a b c (nrm p (ap (bk0 a b c) (bk1 a b c) (bk2 a b c) x)))=x:=by
 have zB:Aj (bk0 a b c) (bk1 a b c) (bk2 a b c)%p≠0:=by rw[Jh];exact BO hp z z
 obtain⟨h1,h2⟩:=Hl hp zB hx;obtain⟨h3,h4⟩:=Hl hp z h1;refine KZ hp h3 hx (h4.trans hp ((Pr.ap h2).trans hp ?_));rw[UW];exact⟨_,z,CgR.rfl⟩
theorem jW{a b c:R3}(hp:P4 p)(z:Aj a b c%p≠0)(Q:R3->Ap):((Da p).filter fun x=>Q (nrm p (ap a b c x))).length=((Da p).filter Q).length:=by
 have zB:Aj (bk0 a b c) (bk1 a b c) (bk2 a b c)%p≠0:=by rw[Jh];exact BO hp z z
 exact jX (LS hp) (fun x=>nrm p (ap a b c x)) (fun x=>nrm p (ap (bk0 a b c) (bk1 a b c) (bk2 a b c) x)) (fun x hx=>(EN hp).mpr (Hl hp z ((EN hp).mp hx)).1) (fun x hx=>(EN hp).mpr (Hl hp zB ((EN hp).mp hx)).1) (fun x hx=>LU hp z ((EN hp).mp hx)) (fun x hx=>SK hp z ((EN hp).mp hx)) Q
noncomputable def CD(p:Ad):Ad:=if p=7 then 3 else 2
noncomputable def q4(w:Ag)(k:Ad)(y:R3):Ad:=match w with
  |0=>y.1*y.2.2-y.2.1*y.2.1
  |1=>y.1*y.1
  |2=>y.1*y.2.1
  |_=>y.1*y.1-k*(y.2.1*y.2.1)
noncomputable def E4(w:Ag)(k:Ad)(a b c:R3):C6:=match w with
  |0=>G9 (prd a c) (prd b b)
  |1=>prd a a
  |2=>prd a b
  |_=>G9 (prd a a) (scC k (prd b b))
def W4(w:Ag):Prop:=w=0\/w=1\/w=2\/w=3
theorem HU(u v x:R3):vI (prd u v) x=At u x*At v x:=by
 unfold vI prd At;simp only;grind
theorem PX(A B:C6)(x:R3):vI (G9 A B) x=vI A x-vI B x:=by
 unfold vI G9;simp only;grind
theorem KW(k:Ad)(A:C6)(x:R3):vI (scC k A) x=k*vI A x:=by
 unfold vI scC;simp only;grind
theorem Wp(hw:W4 w)(k:Ad)(a b c x:R3):vI (E4 w k a b c) x=q4 w k (ap a b c x):=by
 rcases hw with rfl|rfl|rfl|rfl
 ·show vI (G9 _ _) x=At a x*At c x-At b x*At b x;rw[PX,HU,HU]
 ·show vI (prd _ _) x=At a x*At a x;rw[HU]
 ·show vI (prd _ _) x=At a x*At b x;rw[HU]
 ·show vI (G9 _ _) x=At a x*At a x-k*(At b x*At b x);rw[PX,KW,HU,HU]
theorem VE(hw:W4 w)(k d:Ad)(y:R3):q4 w k (AF d y)=d*d*q4 w k y:=by
 rcases hw with rfl|rfl|rfl|rfl<;>(unfold q4 AF;simp only;grind)
theorem vV(hw:W4 w)(h:CgR p y y'):Cg p (q4 w k y) (q4 w k y'):=by
 rcases hw with rfl|rfl|rfl|rfl
 ·exact(h.1.mul h.2.2).sub (h.2.1.mul h.2.1)
 ·exact h.1.mul h.1
 ·exact h.1.mul h.2.1
 ·exact(h.1.mul h.1).sub (Cg.rfl.mul (h.2.1.mul h.2.1))
theorem vT(hw:W4 w)(hp:P4 p)(h:Pr p y y'):(q4 w k y%p=0)↔(q4 w k y'%p=0):=by
 obtain⟨d,dz,e⟩:=h;have q:=(vV (k:=k) hw e).trans (Cg.of (VE hw k d y'));rw[show q4 w k y%p=_ from q]
 exact FP hp (BO hp dz dz)
theorem Qz(hw:W4 w){a b c x:R3}(hp:P4 p)(z:Aj a b c%p≠0)(h:PrC p C (E4 w k a b c))(hx:NF p x):(vI C x%p=0)↔(q4 w k (nrm p (ap a b c x))%p=0):=by
 rw[vT hw hp (Hl hp z hx).2,<-Wp hw];obtain⟨d,dz,e⟩:=h;have q:=(Jk e CgR.rfl (x:=x)).trans (Cg.of (KW d _ x));rw[show vI C x%p=_ from q]
 exact FP hp dz
noncomputable def G7(p:Ad)(w:Ag):Ag:=match w with
  |0=>(p+1).toNat
  |1=>(p+1).toNat
  |2=>(2*p+1).toNat
  |_=>1
theorem YQ(hp:P4 p)(hw:W4 w):((Da p).filter fun y=>decide (q4 w (CD p) y%p=0)).length=G7 p w:=by
 rcases hp with rfl|rfl|rfl|rfl<;>rcases hw with rfl|rfl|rfl|rfl<;>decide +kernel
noncomputable def Bh(p:Ad)(C:C6):Ac R3:=(Da p).filter fun x=>decide (vI C x%p=0)
theorem KO(hw:W4 w){a b c:R3}(hp:P4 p)(z:Aj a b c%p≠0)(h:PrC p C (E4 w (CD p) a b c)):(Bh p C).length=G7 p w:=by
 rw[<-YQ hp hw,<-jW hp z];unfold Bh
 congr 1
 refine FY fun x hx=>?_
 rw[EI];exact Qz hw hp z h ((EN hp).mp hx)
noncomputable def no3(p:Ad)(l:Ac R3):Ap:=l.all fun x=>l.all fun y=>l.all fun u=>decide (x=y)||decide (x=u)||decide (y=u)||decide (Aj x y u%p≠0)
theorem rR(hp:P4 p):no3 p ((Da p).filter fun y=>decide (q4 0 (CD p) y%p=0))=Aa:=by
 rcases hp with rfl|rfl|rfl|rfl<;>decide +kernel
theorem iW{a b c:R3}(hp:P4 p)(z:Aj a b c%p≠0)(h:PrC p C (E4 0 (CD p) a b c)){u:R3}(hx:x∈Bh p C)(hy:y∈Bh p C)(hu:u∈Bh p C)(n1:x≠y)(n2:x≠u)(n3:y≠u):Aj x y u%p≠0:=by
 have hw:W4 0:=.inl rfl;have led:∀{x:R3},x∈Bh p C->NF p x/\nrm p (ap a b c x)∈((Da p).filter fun y=>decide (q4 0 (CD p) y%p=0))/\Pr p (nrm p (ap a b c x)) (ap a b c x):=fun {x} hx=>by
  obtain⟨h1,h2⟩:=AR.mp hx;have nx:=(EN hp).mp h1;obtain⟨s1,s2⟩:=Hl hp z nx;refine⟨nx,AR.mpr ⟨(EN hp).mpr s1,?_⟩,s2⟩;rw[AI]at h2 ⊢;exact(Qz hw hp z h nx).mp h2
 obtain⟨nx,mx,px⟩:=led hx;obtain⟨ny,my,py⟩:=led hy;obtain⟨nu,mu,pu⟩:=led hu;have inj:∀{x y:R3},NF p x->NF p y->x≠y->nrm p (ap a b c x)≠nrm p (ap a b c y):=fun {x y} hx hy ne e=>ne (by rw[<-LU hp z hx,<-LU hp z hy,e])
 have all:=rR hp;unfold no3 at all;rw[Dd]at all;have a1:=all _ mx;rw[Dd]at a1;have a2:=a1 _ my;rw[Dd]at a2;have a3:=a2 _ mu;simp only[Ds,AI]at a3;rcases a3 with ((e|e)|e)|e
 ·exact absurd e (inj nx ny n1)
 ·exact absurd e (inj nx nu n2)
 ·exact absurd e (inj ny nu n3)
 ·intro z0;obtain⟨d1,_,g1⟩:=px;obtain⟨d2,_,g2⟩:=py;obtain⟨d3,_,g3⟩:=pu;have q:=KR g1 g2 g3;refine e ?_;rw[show Aj _ _ _%p=_ from q,AW,AW (Aj a b c),z0,DC,A7,DC,A7]
theorem sX(hw:W4 w)(k:Ad)(a b c:R3):Aj (tw0 (E4 w k a b c)) (tw1 (E4 w k a b c)) (tw2 (E4 w k a b c))=if w=0 then 2*(Aj a b c*Aj a b c) else 0:=by
 rcases hw with rfl|rfl|rfl|rfl
 ·exact aZ a b c
 ·unfold E4 tw0 tw1 tw2 prd Aj det;simp only;grind
 ·unfold E4 tw0 tw1 tw2 prd Aj det;simp only;grind
 ·unfold E4 tw0 tw1 tw2 prd G9 scC Aj det;simp only;grind
theorem Mg(hw:W4 w){a b c:R3}(hp:P4 p)(z:Aj a b c%p≠0)(h:PrC p C (E4 w k a b c)):(Aj (tw0 C) (tw1 C) (tw2 C)%p≠0)↔w=0:=by
 obtain⟨d,dz,cg⟩:=h;obtain⟨x0,x1,x2⟩:=Mn cg;have e:=(Jb x0 x1 x2).trans (Cg.of ((UF d _).trans (by rw[sX hw])))
 rw[show Aj (tw0 C) (tw1 C) (tw2 C)%p=_ from e]
 by_cases h0:w=0
 ·rw[AD h0];exact⟨fun _=>h0,fun _=>BO hp (nz3 hp dz dz dz) (BO hp hp.two (BO hp z z))⟩
 ·rw[AH h0,DC,A7];exact⟨fun n=>absurd rfl n,fun e=>absurd e h0⟩
theorem gL(hw:W4 w){a b c:R3}(hp:P4 p)(z:Aj a b c%p≠0):∃ l,AY p (E4 w k a b c).l=Ab l:=by
 cases el:AY p (E4 w k a b c).l with
 |some l=>exact⟨l,rfl⟩
 |none=>
  have hz:=LV.mp el;have kk:∀ x∈(E4 w k a b c).l,Cg p x (0*x):=fun x hx=>by show x%p=0*x%p;rw[hz x hx,Gq,A7]
  have e0:CgC p (E4 w k a b c) (scC 0 (E4 w k a b c)):=⟨kk _ (by simp[C6.l]),kk _ (by simp[C6.l]),kk _ (by simp[C6.l]),kk _ (by simp[C6.l]),kk _ (by simp[C6.l]),kk _ (by simp[C6.l])⟩
  have zero:∀ x:R3,vI (E4 w k a b c) x%p=0:=fun x=>by
   rw[show vI (E4 w k a b c) x%p=_ from Jk e0 CgR.rfl,KW,Gq,A7]
  obtain⟨y,hy⟩:∃ y:R3,q4 w k y=1:=by
   rcases hw with rfl|rfl|rfl|rfl
   ·exact⟨(1,0,1),rfl⟩
   ·exact⟨(1,0,0),rfl⟩
   ·exact⟨(1,1,0),rfl⟩
   ·exact⟨(1,0,0),by unfold q4;simp⟩
  have:=zero (ap (bk0 a b c) (bk1 a b c) (bk2 a b c) y);rw[Wp hw,UW,VE hw,hy,DY]at this;exact absurd this (BO hp z z)
noncomputable def Cd(pts:Ac R3):D:=.lst (pts.map (An Aa))
theorem LW{g:D->R Ap}{f:D->R D}{q:R3->Ap}:∀(xs:Ac R3),(∀ x∈xs,g (An Aa x)=.ok (q x)/\f (An Aa x)=.ok (An Aa x))->BP g f (xs.map (An Aa))=.ok ((xs.filter q).map (An Aa))
 |[],_=>rfl
 |x::xs,h=>by
  obtain⟨h1,h2⟩:=h x (AB ..);have ih:=LW xs fun y hy=>h y (Av _ hy)
  show (g (An Aa x)).bind _=_;rw[h1,R.bind_ok,DO];cases hq:q x with
  |true=>
   rw[AD rfl,AD rfl,h2,R.bind_ok,show BP g f (Ls (An Aa) xs)=_ from ih]
   rfl
  |false=>
   rw[AH (by decide),AH (by decide)]
   exact ih
noncomputable def Zs:Ss:=(.cons (.app 1 (.tup (.cons (.int 0) (.cons (.int 1) (.cons (.var 2) .nil))))) .nil)
noncomputable def Zt:E:=(.tup (.cons (.int 1) (.cons (.var 3) (.cons (.var 4) .nil))))
noncomputable def Zr:Ss:=(.cons (.ext 1 (.comp Zt 4 (.rng (.var 0)) CM)) .nil)
noncomputable def OV:Df:=⟨5,Aa,(.cons (.asg 1 Aa (.lst (.cons (.tup (.cons (.int 0) (.cons (.int 0) (.cons (.int 1) .nil)))) .nil))) (.cons (.fors 2 (.rng (.var 0)) Zs) (.cons (.fors 3 (.rng (.var 0)) Zr) (.cons (.ret (.var 1)) .nil))))⟩
def Wh(Γ:Gam):Prop:=∀ p:Ad,P4 p->Γ.F 69 [.int p]=.ok (Cd (Da p))
theorem xI(Γ:Gam)(p:Ad)(hp:P4 p):OV.run Γ [.int p]=.ok (Cd (Da p)):=by
 rcases hp with rfl|rfl|rfl|rfl<;>kernel_rfl!
noncomputable def NW:E:=(.cmp .Eq (.call 126 (.cons (.var 0) (.cons (.var 1) (.cons (.var 2) .nil)))) (.int 0))
noncomputable def NX:E:=(.var 2)
noncomputable def MT:Df:=⟨3,Aa,(.cons (.ret (.comp NX 2 (.e (.call 69 (.cons (.var 0) .nil))) NW)) .nil)⟩
def PR(Γ:Gam):Prop:=∀(p:Ad)(C:C6),P4 p->InC p C->Γ.F 128 [.int p,Bj C]=.ok (Cd (Bh p C))
theorem eI(ht:Wh Γ)(hv:Uw Γ)(p:Ad)(C:C6)(hp:P4 p)(iC:InC p C):MT.run Γ [.int p,Bj C]=.ok (Cd (Bh p C)):=by
 have e1:=ht p hp;have cp:BP (cG Γ [si p,sh (Bj C),Af] 2 NW) (cF Γ [si p,sh (Bj C),Af] 2 NX) ((Da p).map (An Aa))=.ok ((Bh p C).map (An Aa)):=by
  refine LW (Da p) fun x hx=>⟨?_,?_⟩
  ·have e:=hv p C x hp iC ((EN hp).mp hx).1;generalize vI C x%p=v at *;simp[cG,NW,e];rw[Cy];simp
  ·simp[cF,NX]
 have sq:CI (Cd (Da p))=.ok ((Da p).map (An Aa)):=rfl;generalize Da p=A at *;generalize Cd A=AA at *;simp[MT,Df.run,BB,e1,sq,cp];rfl
def yL(Γ:Gam):Prop:=∀(p n:Ad),P4 p->0<=n->n<p*p+p+1->Γ.F 157 [.int p,.int n]=.ok (An Aa (ptI p n))
theorem xK(Γ:Gam)(p n:Ad)(hp:P4 p)(h0:0<=n)(h1:n<p*p+p+1):LN.run Γ [.int p,.int n]=.ok (An Aa (ptI p n)):=by
 have pp:Ee p p=Aa:=Iz (by have:=hp.lo;omega) (by have:=hp.hi;omega)
 have p0:=hp.pos;have ph:=hp.hi;have N0:0<p*p+p+1:=by have:=JQ p0 p0;omega
 have hr:n%(p*p+p+1)=n:=AO h0 h1;have pb:p<1073741824:=by omega
 unfold ptI;by_cases z0:n=0
 ·rw[AD z0];simp[LN,Df.run,BB,pp,N0,hr,z0];rfl
 ·rw[AH z0];by_cases z1:n<=p
  ·rw[AD z1];simp[LN,Df.run,BB,pp,N0,hr,z0,z1];rfl
  ·rw[AH z1];simp[LN,Df.run,BB,pp,N0,hr,z0,z1,p0,pb];rfl
noncomputable def LK:E:=(.call 157 (.cons (.var 0) (.cons (.var 1) .nil)))
noncomputable def MF:Df:=⟨2,Ae,(.cons (.ret (.comp LK 1 (.rng (.bin .Add (.bin .Add (.bin .Mult (.var 0) (.var 0)) (.var 0)) (.int 1))) CM)) .nil)⟩
def Wl(Γ:Gam):Prop:=∀ p:Ad,P4 p->Γ.F 164 [.int p]=.ok (Cd (Da p))
theorem vM(h:yL Γ)(p:Ad)(hp:P4 p):MF.run Γ [.int p]=.ok (Cd (Da p)):=by
 have pp:Ee p p=Aa:=Iz (by have:=hp.lo;omega) (by have:=hp.hi;omega)
 have N1:0<=p*p+p+1/\p*p+p+1<=1000:=by rcases hp with rfl|rfl|rfl|rfl<;>decide
 have rg:DA 0 (p*p+p+1)=.ok (DB 0 (p*p+p+1-0).toNat):=R8 (by decide) (by decide) (by omega) (by omega)
 rw[WG]at rg;have cp:BP (cG Γ [si p,Af] 1 CM) (cF Γ [si p,Af] 1 LK) (DB 0 (p*p+p+1).toNat)=.ok ((Da p).map (An Aa)):=by
  have key:∀ L:Ac Ag,(∀ k∈L,(k:Ad)<p*p+p+1)->BP (cG Γ [si p,Af] 1 CM) (cF Γ [si p,Af] 1 LK) (L.map fun(k:Ag)=>D.int (0+(k:Ad)))=.ok ((L.map fun(n:Ag)=>ptI p n).map (An Aa)):=fun L=>by
   induction L with
   |nil=>intro _;rfl
   |cons k L ih=>
    intro hL;have e:=h p k hp (by omega) (hL k AB)
    have f:cF Γ [si p,Af] 1 LK (.int (0+(k:Ad)))=.ok (An Aa (ptI p k)):=by
     rw[FJ];simp[cF,LK,e]
    have ih':=ih fun m hm=>hL m (Av _ hm)
    show (R.ok Aa).bind _=_;rw[R.bind_ok,AD rfl,f,R.bind_ok,show BP _ _ (Ls _ L)=_ from ih']
    rfl
  exact key _ fun k hk=>by have:=DQ.mp hk;omega
 generalize hN:p*p+p+1=N at *;generalize DB 0 N.toNat=RL at *;have e1:p*p+p+1=N:=hN;simp[MF,Df.run,BB,pp,e1,rg,cp];rfl
def Wf(Γ:Gam):Prop:=∀(p:Ad)(C:C6),P4 p->InC p C->Γ.F 136 [.int p,Bj C]=.ok (.bl (decide (Aj (tw0 C) (tw1 C) (tw2 C)%p≠0)))
theorem xG(ht:Ma Γ)(hm:KU Γ)(p:Ad)(C:C6)(hp:P4 p)(iC:InC p C):LM.run Γ [.int p,Bj C]=.ok (.bl (decide (Aj (tw0 C) (tw1 C) (tw2 C)%p≠0))):=by
 obtain⟨h0,h1,h2⟩:=NK hp iC;have e1:=ht p C hp;have e2:=hm p Aa (t0 p C) (t1 p C) (t2 p C) hp.pos ((Cn hp h0).b3 (by decide)) ((Cn hp h1).b3 (by decide)) ((Cn hp h2).b3 (by decide))
 have td:Aj (t0 p C) (t1 p C) (t2 p C)%p=Aj (tw0 C) (tw1 C) (tw2 C)%p:=let ⟨h0,h1,h2⟩:=NL p C;Jb h0 h1 h2
 rw[td]at e2;have k0:B7 (A1 (t0 p C) (t1 p C) (t2 p C)) (.int 0)=.ok (An Aa (t0 p C)):=rfl;have k1:B7 (A1 (t0 p C) (t1 p C) (t2 p C)) (.int 1)=.ok (An Aa (t1 p C)):=rfl;have k2:B7 (A1 (t0 p C) (t1 p C) (t2 p C)) (.int 2)=.ok (An Aa (t2 p C)):=rfl;generalize Aj (tw0 C) (tw1 C) (tw2 C)%p=d at *;simp[LM,Df.run,BB,e1,e2,k0,k1,k2];rw[Cy];simp
def yN(Γ:Gam):Prop:=∀(p:Ad)(a b c:R3)(w:Ag),GoodR p a b c->W4 w->∃ C:C6,InC p C/\AY p C.l=Ab 1/\PrC p C (E4 w (CD p) a b c)/\Γ.F 163 [.int p,Fd a b c,.int w]=.ok (Bj C)
theorem od4(Γ:Gam)(RR ra rb rc:D)(s6:Sl)(hp:P4 p):evE Γ [si p,sh RR,si 3,sh ra,sh rb,sh rc,s6,Af,Af,Af,Af,Af,Af,Af] (.bi .min (.cons (.comp RE 8 (.rng2 (.int 2) (.var 0)) RB) .nil))=.ok (.int (CD p)):=by
 rcases hp with rfl|rfl|rfl|rfl<;>kernel_rfl!
theorem Vj{Γ:Gam}{s0 s1 s2 s3 s4 s5 s6 s7 s8 s9 s10 s11:Sl}:∀ xs ys:Ac Ad,BP (cGT Γ [s0,s1,s2,s3,s4,s5,s6,s7,s8,s9,s10,s11,Af,Af] [12,13] CM) (cFT Γ [s0,s1,s2,s3,s4,s5,s6,s7,s8,s9,s10,s11,Af,Af] [12,13] RC) (EO (ds xs) (ds ys))=.ok (ds (Ez (fun x y=>x-y) xs ys))
 |[],_=>rfl
 |_::_,[]=>rfl
 |x::xs,y::ys=>by
  have ih:=Vj (Γ:=Γ) (s0:=s0) (s1:=s1) (s2:=s2) (s3:=s3) (s4:=s4) (s5:=s5) (s6:=s6) (s7:=s7) (s8:=s8) (s9:=s9) (s10:=s10) (s11:=s11) xs ys;show BP _ _ (.tup [.int x,.int y]::EO (ds xs) (ds ys))=.ok (.int (x-y)::ds (Ez (fun x y=>x-y) xs ys))
  rw[BP,ih];rfl
theorem UH{Γ:Gam}{o:Ad}{s0 s1 s2 s3 s4 s5 s6 s8 s9:Sl}(ob:∀ y,Ee o y=Aa):∀ xs ys:Ac Ad,BP (cGT Γ [s0,s1,s2,s3,s4,s5,s6,si o,s8,s9,Af,Af,Af,Af] [10,11] CM) (cFT Γ [s0,s1,s2,s3,s4,s5,s6,si o,s8,s9,Af,Af,Af,Af] [10,11] MC) (EO (ds xs) (ds ys))=.ok (ds (Ez (fun x y=>x-o*y) xs ys))
 |[],_=>rfl
 |_::_,[]=>rfl
 |x::xs,y::ys=>by
  have ih:=UH (Γ:=Γ) (s0:=s0) (s1:=s1) (s2:=s2) (s3:=s3) (s4:=s4) (s5:=s5) (s6:=s6) (s8:=s8) (s9:=s9) ob xs ys;have f:cFT Γ [s0,s1,s2,s3,s4,s5,s6,si o,s8,s9,Af,Af,Af,Af] [10,11] MC (.tup [.int x,.int y])=.ok (.int (x-o*y)):=by
   simp[cFT,MC,ob]
  show BP _ _ (.tup [.int x,.int y]::EO (ds xs) (ds ys))=.ok (.int (x-o*y)::ds (Ez (fun x y=>x-o*y) xs ys))
  rw[BP,ih,f];rfl
theorem vK(hf:Nf Γ)(hd:tG Γ)(p:Ad)(a b c:R3)(w:Ag)(g:GoodR p a b c)(hw:W4 w):∃ C:C6,InC p C/\AY p C.l=Ab 1/\PrC p C (E4 w (CD p) a b c)/\KF.run Γ [.int p,Fd a b c,.int w]=.ok (Bj C):=by
 have hp:=g.p4;obtain⟨l,el⟩:=gL hw (k:=CD p) hp g.nz;obtain⟨t,C,it,eD,iC,lC,pC⟩:=xS hp el;have e3:=hf p Ae _ l t hp el it;rw[eD]at e3;refine⟨C,iC,lC,pC,?_⟩
 clear pC lC iC eD it el
 have eaa:=hd p a a hp g.ia g.ia;have eab:=hd p a b hp g.ia g.ib;have eac:=hd p a c hp g.ia g.ic;have ebb:=hd p b b hp g.ib g.ib;have as:∀ ρ:Rho,G2 [3,4,5] (Fd a b c) ρ=.ok (((ρ.set 3 (sh (Bm a))).set 4 (sh (Bm b))).set 5 (sh (Bm c))):=fun _=>rfl
 rcases hw with rfl|rfl|rfl|rfl
 ·have e3':Γ.F 158 [.int p,.lst (ds (Ez (fun x y=>x-y) (prd a c).l (prd b b).l))]=.ok (Bj C):=e3
  have e1':Γ.F 160 [Bm a,Bm c]=.ok (.lst (ds (prd a c).l)):=eac;have e2':Γ.F 160 [Bm b,Bm b]=.ok (.lst (ds (prd b b).l)):=ebb;have cp:=fun(s0 s1 s2 s3 s4 s5 s6 s7 s8 s9 s10 s11:Sl)=>Vj (Γ:=Γ) (s0:=s0) (s1:=s1) (s2:=s2) (s3:=s3) (s4:=s4) (s5:=s5) (s6:=s6) (s7:=s7) (s8:=s8) (s9:=s9) (s10:=s10) (s11:=s11) (prd a c).l (prd b b).l
  generalize ds (Ez (fun x y=>x-y) (prd a c).l (prd b b).l)=LC at *
  generalize ds (prd a c).l=LA at *;generalize ds (prd b b).l=LB at *;generalize Bm a=ra at *;generalize Bm b=rb at *;generalize Bm c=rc at *;generalize Fd a b c=RR at *;simp[KF,Df.run,BB,as,e1',e2',cp,e3']
 ·have e3':Γ.F 158 [.int p,.lst (ds (prd a a).l)]=.ok (Bj C):=e3;generalize D.lst (ds (prd a a).l)=A at *;simp[KF,Df.run,BB,as,eaa,e3']
 ·have e3':Γ.F 158 [.int p,.lst (ds (prd a b).l)]=.ok (Bj C):=e3;generalize D.lst (ds (prd a b).l)=A at *;simp[KF,Df.run,BB,as,eab,e3']
 ·have ob:∀ y,Ee (CD p) y=Aa:=fun y=>by rcases hp with rfl|rfl|rfl|rfl<;>exact Iz (by decide) (by decide)
  have e3':Γ.F 158 [.int p,.lst (ds (Ez (fun x y=>x-CD p*y) (prd a a).l (prd b b).l))]=.ok (Bj C):=e3
  have e1':Γ.F 160 [Bm a,Bm a]=.ok (.lst (ds (prd a a).l)):=eaa;have e2':Γ.F 160 [Bm b,Bm b]=.ok (.lst (ds (prd b b).l)):=ebb;have od:=fun(RR ra rb rc:D)(s6:Sl)=>od4 Γ RR ra rb rc s6 hp
  have cp:=fun(s0 s1 s2 s3 s4 s5 s6 s8 s9:Sl)=>UH (Γ:=Γ) (s0:=s0) (s1:=s1) (s2:=s2) (s3:=s3) (s4:=s4) (s5:=s5) (s6:=s6) (s8:=s8) (s9:=s9) ob (prd a a).l (prd b b).l
  generalize CD p=o at *;generalize ds (Ez (fun x y=>x-o*y) (prd a a).l (prd b b).l)=LC at *
  generalize ds (prd a a).l=LA at *;generalize ds (prd b b).l=LB at *;generalize Bm a=ra at *;generalize Bm b=rb at *;generalize Bm c=rc at *;generalize Fd a b c=RR at *;simp[-Ng,KF,Df.run,BB,as,e1',e2',od,cp,e3']
def Wj(Γ:Gam):Prop:=∀(p:Ad)(a b:R3),P4 p->In3 p a->In3 p b->Γ.F 161 [An Aa a,An Aa b]=.ok (Bm (crs a b))
theorem vH(Γ:Gam)(p:Ad)(a b:R3)(hp:P4 p)(ia:In3 p a)(ib:In3 p b):LO.run Γ [An Aa a,An Aa b]=.ok (Bm (crs a b)):=by
 have ba:=Cn hp ia;have bb:=Cn hp ib;have k:∀ {u v},Bd 10 u->Bd 10 v->Fl u v=Aa:=fun hu hv=>G0 hu hv (by decide) (by decide)
 obtain⟨a0,a1,a2⟩:=a;obtain⟨b0,b1,b2⟩:=b;have ea:∀(x y z:Ad)(i j k:Ag)(ρ:Rho),G2 [i,j,k] (An Aa (x,y,z)) ρ=.ok (((ρ.set i (si x)).set j (si y)).set k (si z)):=fun _ _ _ _ _ _ _=>rfl
 simp[LO,Df.run,BB,ea,k ba.2.1 bb.2.2,k ba.2.2 bb.2.1,k ba.2.2 bb.1,k ba.1 bb.2.2,k ba.1 bb.2.1,k ba.2.1 bb.1];rfl
noncomputable def N6:Df:=⟨7,Ae,(.cons (.asgT [4,5,6] (.call 161 (.cons (.var 1) (.cons (.var 2) .nil)))) (.cons (.ret (.bin .Mod (.bin .Add (.bin .Add (.bin .Mult (.var 4) (.idx (.var 3) (.int 0))) (.bin .Mult (.var 5) (.idx (.var 3) (.int 1)))) (.bin .Mult (.var 6) (.idx (.var 3) (.int 2)))) (.var 0))) .nil))⟩
def Wi(Γ:Gam):Prop:=∀(p:Ad)(a b c:R3),P4 p->In3 p a->In3 p b->In3 p c->Γ.F 165 [.int p,An Aa a,An Aa b,An Aa c]=.ok (.int (Aj a b c%p))
theorem Nd(a b c:R3):At (crs a b) c=Aj a b c:=by
 unfold At crs Aj det;grind
theorem vG(h:Wj Γ)(p:Ad)(a b c:R3)(hp:P4 p)(ia:In3 p a)(ib:In3 p b)(ic:In3 p c):N6.run Γ [.int p,An Aa a,An Aa b,An Aa c]=.ok (.int (Aj a b c%p)):=by
 have e1:=h p a b hp ia ib;have bc:=Cn hp ic;have bx:=Nx (Cn hp ia) (Cn hp ib);have k:∀ {u v},Bd 21 u->Bd 10 v->Fl u v=Aa:=fun hu hv=>G0 hu hv (by decide) (by decide)
 have k0:=k bx.1 bc.1;have k1:=k bx.2.1 bc.2.1;have k2:=k bx.2.2 bc.2.2;have p0:=hp.pos;obtain⟨x0,x1,x2⟩:=HV Aa c;rw[<-Nd];unfold At;generalize crs a b=w at *;obtain⟨w0,w1,w2⟩:=w;have ea:∀ ρ:Rho,G2 [4,5,6] (Bm (w0,w1,w2)) ρ=.ok (((ρ.set 4 (si w0)).set 5 (si w1)).set 6 (si w2)):=fun _=>rfl
 generalize Bm (w0,w1,w2)=ww at *;simp[N6,Df.run,BB,e1,ea,x0,x1,x2,k0,k1,k2,p0]
theorem K1{pts:Ac R3}{i:Ag}(h:pts[i]?=Ab x):B7 (Cd pts) (.int (i:Ad))=.ok (An Aa x):=by
 show DI (pts.map (An Aa)) (i:Ad)=_;refine M7 (by omega) ?_
 have hi:i<pts.length:=(A6.mp h).1;rw[Hu,Eg,h];rfl
section
variable{Γ:Gam}{p i j k d N:Ad}{PP x y u:D}{RL:Ac D}{s t s' t' v:Sl}
end
section
variable{Γ:Gam}{p:Ad}{pts:Ac R3}
end
theorem Nk(x:R3):An Aa x=tI (tri x):=by
 unfold An Dv;rw[AD rfl];rfl
theorem RQ[DecidableEq α]{l:Ac α}{q:α->Ap}{y:α}(nd:l.Nodup)(hy:y∈l)(h:∀ x∈l,q x=Aa↔x=y):l.filter q=[y]:=by
 have hm:∀ x,x∈l.filter q↔x∈[y]:=fun x=>by
  rw[AR,BK];constructor
  ·rintro⟨h1,h2⟩;exact(h x h1).mp h2
  ·rintro rfl;exact⟨hy,(h x hy).mpr rfl⟩
 exact List.perm_singleton.mp (RY (nd.filter _) (by simp) hm)
theorem jU(u v x:R3):crs (crs u v) x=(v.1*At u x-u.1*At v x,v.2.1*At u x-u.2.1*At v x,v.2.2*At u x-u.2.2*At v x):=by
 unfold crs At;simp only;refine Bs ?_ (Bs ?_ ?_)<;>(simp only;grind)
theorem UQ(k l:Ad)(a b:R3):crs (AF k a) (AF l b)=AF (k*l) (crs a b):=by
 unfold crs AF;simp only;refine Bs ?_ (Bs ?_ ?_)<;>(simp only;grind)
theorem Pr.crs{a b a' b':R3}(hp:P4 p)(h:Pr p a a')(g:Pr p b b'):Pr p (OvC.crs a b) (OvC.crs a' b'):=by
 obtain⟨d,dz,e⟩:=h;obtain⟨d',dz',e'⟩:=g;exact⟨d*d',BO hp dz dz',(Mm e e').trans (CgR.of (UQ ..))⟩
theorem To{u v:R3}(hp:P4 p)(hy:NF p y)(hx:NF p x)(py:Pr p y (crs u v))(h1:At u x%p=0)(h2:At v x%p=0):x=y:=by
 refine KZ hp hx hy (Tb hp ?_ hy.2 hx.2);obtain⟨d,dz,e⟩:=py;have c1:Cg p (At u x) 0:=by show _%p=0%p;rw[h1,A7]
 have c2:Cg p (At v x) 0:=by show _%p=0%p;rw[h2,A7]
 have key:∀ s t:Ad,Cg p (d*(s*At u x-t*At v x)) 0:=fun s t=>((Cg.rfl (a:=d)).mul (((Cg.rfl (a:=s)).mul c1).sub ((Cg.rfl (a:=t)).mul c2))).trans (Cg.of (by simp))
 refine(Mm e CgR.rfl).trans ?_;have e2:crs (AF d (crs u v)) x=AF d (crs (crs u v) x):=by
  have:=UQ d 1 (crs u v) x
  rwa [show AF 1 x=x by unfold AF;simp,DY]at this
 rw[e2,jU];exact⟨key _ _,key _ _,key _ _⟩
theorem SZ(a b:R3):At a b=At b a:=by
 unfold At;grind
noncomputable def Qm:Df:=⟨3,Ae,(.cons (.ret (.cmp .Eq (.call 1 (.cons (.var 0) (.cons (.bin .Add (.bin .Add (.bin .Mult (.idx (.var 1) (.int 0)) (.idx (.var 2) (.int 0))) (.bin .Mult (.idx (.var 1) (.int 1)) (.idx (.var 2) (.int 1)))) (.bin .Mult (.idx (.var 1) (.int 2)) (.idx (.var 2) (.int 2)))) .nil))) (.int 0))) .nil)⟩
def tJ(Γ:Gam):Prop:=∀(p:Ad)(x y:R3),P4 p->In3 p x->In3 p y->Γ.F 24 [.int p,An Aa x,An Aa y]=.ok (.bl (decide (At x y%p=0)))
theorem oK(hr:IC Γ)(p:Ad)(x y:R3)(hp:P4 p)(ix:In3 p x)(iy:In3 p y):Qm.run Γ [.int p,An Aa x,An Aa y]=.ok (.bl (decide (At x y%p=0))):=by
 have p0:=hp.pos;have bx:=Cn hp ix;have by_:=Cn hp iy;have k:∀ {u v},Bd 10 u->Bd 10 v->Fl u v=Aa:=fun hu hv=>G0 hu hv (by decide) (by decide)
 have k0:=k bx.1 by_.1;have k1:=k bx.2.1 by_.2.1;have k2:=k bx.2.2 by_.2.2;obtain⟨x0,x1,x2⟩:=HV Aa x;obtain⟨y0,y1,y2⟩:=HV Aa y;have e:=hr p (At x y) p0;unfold At at *;generalize x.1=a0 at *;generalize x.2.1=a1 at *;generalize x.2.2=a2 at *;generalize y.1=b0 at *;generalize y.2.1=b1 at *;generalize y.2.2=b2 at *;generalize An Aa x=xx at *;generalize An Aa y=yy at *;generalize hs:(a0*b0+a1*b1+a2*b2)%p=s at *;simp[Qm,Df.run,BB,x0,x1,x2,y0,y1,y2,k0,k1,k2,e];rw[Cy];simp
noncomputable def Q6:Df:=⟨3,Ae,(.cons (.ret (.call 24 (.cons (.var 0) (.cons (.var 1) (.cons (.var 2) .nil))))) .nil)⟩
def Vx(Γ:Gam):Prop:=∀(p:Ad)(x y:R3),P4 p->In3 p x->In3 p y->Γ.F 56 [.int p,An Aa x,An Aa y]=.ok (.bl (decide (At x y%p=0)))
theorem oH(h:tJ Γ)(p:Ad)(x y:R3)(hp:P4 p)(ix:In3 p x)(iy:In3 p y):Q6.run Γ [.int p,An Aa x,An Aa y]=.ok (.bl (decide (At x y%p=0))):=by
 have e:=h p x y hp ix iy;generalize An Aa x=xx at *;generalize An Aa y=yy at *;simp[Q6,Df.run,BB,e]
noncomputable def ptL(p:Ad)(l:R3):Ac R3:=(Da p).filter fun x=>decide (At x l%p=0)
theorem Md(h:J6 Γ){a b:R3}(hp:P4 p)(ha:NF p a)(hb:NF p b)(ne:a≠b):∃ y,NF p y/\Pr p y (crs a b)/\Γ.F 57 [.int p,An Aa a,An Aa b]=.ok (An Aa y):=by
 obtain⟨y,h1,h2,h3,e⟩:=h p a b hp ha.1 hb.1 ha.2 hb.2 ne;exact⟨y,⟨h1,h2⟩,h3,e⟩
theorem Py{a b x l:R3}(hp:P4 p)(pl:Pr p l (crs a b)):At x l%p=0↔Aj a b x%p=0:=by
 rw[SZ,QD hp pl (Pr.rfl hp (x:=x)),Nd]
theorem UG(a b:R3):Aj a b a=0/\Aj a b b=0:=by
 unfold Aj det;constructor<;>grind
noncomputable def pol(p:Ad)(C:C6)(x:R3):R3:=nrm p (ap (tw0 C) (tw1 C) (tw2 C) x)
noncomputable abbrev Whl(p:Ad)(C:C6):Prop:=Aj (tw0 C) (tw1 C) (tw2 C)%p≠0
theorem bY(hp:P4 p)(z:Whl p C)(hx:NF p x):NF p (pol p C x)/\Pr p (pol p C x) (ap (tw0 C) (tw1 C) (tw2 C) x):=Hl hp z hx
theorem Je(hp:P4 p)(z:Whl p C)(hx:NF p x):At y (pol p C x)%p=0↔bI C x y%p=0:=by
 rw[SZ,QD hp (bY hp z hx).2 (Pr.rfl hp (x:=y))];exact Iff.rfl
noncomputable def b4(u v:R3):Ad:=u.1*v.2.2+u.2.2*v.1-2*(u.2.1*v.2.1)
theorem yF(k:Ad)(a b c x y:R3):bI (E4 0 k a b c) x y=b4 (ap a b c x) (ap a b c y):=by
 unfold bI E4 b4 ap At tw0 tw1 tw2 G9 prd;simp only;grind
theorem rN(d:Ad)(C:C6)(x y:R3):bI (scC d C) x y=d*bI C x y:=by
 unfold bI ap At tw0 tw1 tw2 scC;simp only;grind
theorem rP{C E:C6}(hp:P4 p)(h:PrC p C E)(x y:R3):bI C x y%p=0↔bI E x y%p=0:=by
 obtain⟨d,dz,e⟩:=h;obtain⟨x0,x1,x2⟩:=Mn e;have q:Cg p (bI C x y) (bI (scC d E) x y):=FQ ⟨FQ x0 CgR.rfl,FQ x1 CgR.rfl,FQ x2 CgR.rfl⟩ CgR.rfl;rw[show bI C x y%p=_ from q,rN]
 exact FP hp dz
theorem yG{u v u' v':R3}(hp:P4 p)(h:Pr p u u')(g:Pr p v v'):b4 u v%p=0↔b4 u' v'%p=0:=by
 obtain⟨d,dz,e⟩:=h;obtain⟨d',dz',e'⟩:=g;have q:Cg p (b4 u v) (b4 (AF d u') (AF d' v')):=((e.1.mul e'.2.2).add (e.2.2.mul e'.1)).sub (Cg.rfl.mul (e.2.1.mul e'.2.1));have q2:b4 (AF d u') (AF d' v')=d*d'*b4 u' v':=by
  unfold b4 AF;simp only;grind
 rw[show b4 u v%p=_ from q,q2]
 exact FP hp (BO hp dz dz')
theorem rS(hp:P4 p):(((Da p).filter fun y=>decide (q4 0 (CD p) y%p=0)).all fun u=>((Da p).filter fun y=>decide (q4 0 (CD p) y%p=0)).all fun v=>decide (b4 u v%p=0)==decide (u=v))=Aa:=by
 rcases hp with rfl|rfl|rfl|rfl<;>decide +kernel
theorem VD{a b c:R3}(hp:P4 p)(z:Aj a b c%p≠0)(h:PrC p C (E4 0 (CD p) a b c))(hx:x∈Bh p C)(hy:y∈Bh p C):bI C x y%p=0↔x=y:=by
 have hw:W4 0:=.inl rfl;have led:∀{x:R3},x∈Bh p C->NF p x/\nrm p (ap a b c x)∈((Da p).filter fun y=>decide (q4 0 (CD p) y%p=0))/\Pr p (nrm p (ap a b c x)) (ap a b c x):=fun {x} hx=>by
  obtain⟨h1,h2⟩:=AR.mp hx;have nx:=(EN hp).mp h1;obtain⟨s1,s2⟩:=Hl hp z nx;refine⟨nx,AR.mpr ⟨(EN hp).mpr s1,?_⟩,s2⟩;rw[AI]at h2 ⊢;exact(Qz hw hp z h nx).mp h2
 obtain⟨nx,mx,px⟩:=led hx;obtain⟨ny,my,py⟩:=led hy;have all:=rS hp;rw[Dd]at all;have a1:=all _ mx;rw[Dd]at a1;have a2:=a1 _ my;rw[BN,EI]at a2;rw[rP hp h,yF,<-yG hp px py,a2];constructor
 ·intro e;rw[<-LU hp z nx,<-LU hp z ny,e]
 ·intro e;rw[e]
noncomputable def Ke(p:Ad)(C:C6)(l:R3):Ac R3:=(ptL p l).filter fun x=>decide (vI C x%p=0)
section
variable{p:Ad}{a b c:R3}{C:C6}
theorem Pk(hp:P4 p)(z:Aj a b c%p≠0)(w:Whl p C)(h:PrC p C (E4 0 (CD p) a b c))(hx:x∈Bh p C):Ke p C (pol p C x)=[x]:=by
 obtain⟨h1,h2⟩:=AR.mp hx;have nx:=(EN hp).mp h1;have xl:x∈ptL p (pol p C x):=AR.mpr ⟨h1,Ff ((Je hp w nx).mpr ((VD hp z h hx hx).mpr rfl))⟩;refine RQ ((LS hp).filter _) xl fun y hy=>?_
 obtain⟨g1,g2⟩:=AR.mp hy;rw[AI]at g2;constructor
 ·intro v;exact((VD hp z h hx (AR.mpr ⟨g1,v⟩)).mp ((Je hp w nx).mp g2)).symm
 ·intro e;rw[e];exact h2
end
noncomputable def sides:D:=.tup [.str (AK "inner"),.str (AK "on"),.str (AK "outer")]
theorem NB(C:C6)(a b c x:R3):vI (pb C a b c) x=vI C (ap a b c x):=by
 have e:ap a b c x=(x.1*(BY a b c).1+x.2.1*(BW a b c).1+x.2.2*(BV a b c).1,x.1*(BY a b c).2.1+x.2.1*(BW a b c).2.1+x.2.2*(BV a b c).2.1,x.1*(BY a b c).2.2+x.2.1*(BW a b c).2.2+x.2.2*(BV a b c).2.2):=by
  unfold ap At BY BW BV;simp only;refine Bs ?_ (Bs ?_ ?_)<;>(simp only;grind)
 rw[e,Vk];have e2:∀(u0 u1 u2 u3 u4 u5:Ad),vI ⟨u0,u1,u2,u3,u4,u5⟩ x=x.1*x.1*u0+x.2.1*x.2.1*u1+x.2.2*x.2.2*u2+(x.1*x.2.1*u3+x.1*x.2.2*u4+x.2.1*x.2.2*u5):=fun u0 u1 u2 u3 u4 u5=>by
  unfold vI;simp only;grind
 exact e2 ..
theorem Vl(C:C6)(k:Ad)(x:R3):vI C (AF k x)=k*k*vI C x:=by
 unfold vI AF;simp only;grind
theorem QA(hp:P4 p)(h:Pr p x y):vI C x%p=0↔vI C y%p=0:=by
 obtain⟨d,dz,e⟩:=h;have q:=(Jk (D:=C) ⟨Cg.rfl,Cg.rfl,Cg.rfl,Cg.rfl,Cg.rfl,Cg.rfl⟩ e).trans (Cg.of (Vl C d y));rw[show vI C x%p=_ from q]
 exact FP hp (BO hp dz dz)
section
variable{p:Ad}{a b c:R3}{C:C6}
theorem Nb{l x:R3}(hp:P4 p):x∈Ke p C l↔x∈Bh p C/\At x l%p=0:=by
 unfold Ke ptL Bh;rw[AR,AR,AR,AI,AI];exact⟨fun h=>⟨⟨h.1.1,h.2⟩,h.1.2⟩,fun h=>⟨⟨h.1.1,h.2⟩,h.1.2⟩⟩
end
noncomputable def pole(p:Ad)(C:C6)(l:R3):R3:=nrm p (ap (bk0 (tw0 C) (tw1 C) (tw2 C)) (bk1 (tw0 C) (tw1 C) (tw2 C)) (bk2 (tw0 C) (tw1 C) (tw2 C)) l)
def PU(Γ:Gam):Prop:=∀(p:Ad)(C:C6)(x:R3),P4 p->InC p C->Whl p C->NF p x->Γ.F 149 [.int p,Bj C,An Aa x]=.ok (An Aa (pole p C x))
theorem jB(hp:P4 p)(z:Whl p C)(hx:NF p x):NF p (pole p C x)/\pol p C (pole p C x)=x:=by
 have zB:Aj (bk0 (tw0 C) (tw1 C) (tw2 C)) (bk1 (tw0 C) (tw1 C) (tw2 C)) (bk2 (tw0 C) (tw1 C) (tw2 C))%p≠0:=by rw[Jh];exact BO hp z z
 exact⟨(Hl hp zB hx).1,SK hp z hx⟩
theorem vZ(h:tH Γ):PU Γ:=fun p C x hp iC z nx=>by
 obtain⟨y,i,l,pr,e⟩:=h p C x hp iC z nx.1 nx.2;have zB:Aj (bk0 (tw0 C) (tw1 C) (tw2 C)) (bk1 (tw0 C) (tw1 C) (tw2 C)) (bk2 (tw0 C) (tw1 C) (tw2 C))%p≠0:=by rw[Jh];exact BO hp z z
 obtain⟨h1,h2⟩:=Hl hp zB nx;have q:y=pole p C x:=KZ hp ⟨i,l⟩ h1 (pr.trans hp (h2.symm hp));rw[<-q];exact e
structure FOn (p:Ad) (C:C6) (A B P U:R3):Prop where
 vA:vI C A%p=0
 vB:vI C B%p=0
 vU:vI C U%p=0
 bA:bI C A P%p=0
 bB:bI C B P%p=0
theorem UR(A B P x:R3):AF (Aj A B P) x=(Aj x B P*A.1+Aj A x P*B.1+Aj A B x*P.1,Aj x B P*A.2.1+Aj A x P*B.2.1+Aj A B x*P.2.1,Aj x B P*A.2.2+Aj A x P*B.2.2+Aj A B x*P.2.2):=by
 unfold AF Aj det;refine Bs ?_ (Bs ?_ ?_)<;>(simp only;grind)
section
variable{p:Ad}{C R:C6}{A B P U x:R3}
theorem cg0{k x:Ad}(h:x%p=0):Cg p (k*x) 0:=by
 show k*x%p=0%p;rw[AW,h,DC]
theorem TL(h:FOn p C A B P U)(x:R3):Cg p (Aj A B P*Aj A B P*vI C x) (Aj A B x*Aj A B x*vI C P+Aj x B P*Aj A x P*bI C A B):=by
 have e:=Vk C A B P (Aj x B P) (Aj A x P) (Aj A B x);rw[<-UR,Vl]at e;rw[e];generalize Aj x B P=α;generalize Aj A x P=β;generalize Aj A B x=γ;have k1:Cg p (α*α*vI C A) 0:=cg0 h.vA;have k2:Cg p (β*β*vI C B) 0:=cg0 h.vB;have k3:Cg p (α*γ*bI C A P) 0:=cg0 h.bA;have k4:Cg p (β*γ*bI C B P) 0:=cg0 h.bB;refine(((k1.add k2).add Cg.rfl).add ((Cg.rfl.add k3).add k4)).trans (Cg.of ?_);grind
theorem Qy(h:FOn p C A B P U)(x:R3):Cg p (Aj A B U*Aj A B U*(Aj A B P*Aj A B P*vI C x)) (bI C A B*(Aj A B U*Aj A B U*(Aj x B P*Aj A x P)-Aj A B x*Aj A B x*(Aj U B P*Aj A U P))):=by
 have e1:=TL h x;have e2:=TL h U;have e0:Cg p (Aj A B P*Aj A B P*vI C U) 0:=cg0 h.vU;have e3:Cg p (Aj A B U*Aj A B U*vI C P+Aj U B P*Aj A U P*bI C A B) 0:=e2.symm.trans e0;generalize Aj A B P=D at *;generalize Aj x B P=α at *;generalize Aj A x P=β at *;generalize Aj A B x=γ at *;generalize Aj U B P=α0 at *;generalize Aj A U P=β0 at *;generalize Aj A B U=γ0 at *;generalize bI C A B=b at *;generalize vI C P=v at *;generalize vI C x=vx at *;have e4:Cg p (γ0*γ0*(D*D*vx)) (γ0*γ0*(γ*γ*v+α*β*b)):=Cg.rfl.mul e1;have e5:Cg p (γ*γ*(γ0*γ0*v+α0*β0*b)) (γ*γ*0):=Cg.rfl.mul e3;refine e4.trans ?_;have e6:γ0*γ0*(γ*γ*v+α*β*b)=γ*γ*(γ0*γ0*v+α0*β0*b)+b*(γ0*γ0*(α*β)-γ*γ*(α0*β0)):=by grind
 rw[e6];refine(e5.add Cg.rfl).trans (Cg.of ?_);grind
theorem US{k x y:Ad}(hp:P4 p)(kz:k%p≠0)(h:Cg p (k*x) (k*y)):Cg p x y:=by
 have e:k*(x-y)%p=0:=by
  have q:=h.sub (Cg.rfl (p:=p) (a:=k*y));have q2:(k*x-k*y)%p=(k*y-k*y)%p:=q;rw[WF,A7,<-WD]at q2;exact q2
 have z:=(FP hp kz).mp e;have q3:=Cg.add (p:=p) (a:=x-y) (b:=0) (c:=y) (d:=y) (by show (x-y)%p=0%p;rw[z,A7]) Cg.rfl
 have q4:Cg p (x-y+y) (0+y):=q3;rw[WE,FJ]at q4;exact q4
theorem lZ(hp:P4 p)(d1:Aj A B P%p≠0)(d2:Aj A B U%p≠0)(hC:FOn p C A B P U)(hR:FOn p R A B P U)(x:R3):Cg p (bI C A B*vI R x) (bI R A B*vI C x):=by
 have e1:=Qy hC x;have e2:=Qy hR x;generalize (Aj A B U*Aj A B U*(Aj x B P*Aj A x P)-Aj A B x*Aj A B x*(Aj U B P*Aj A U P))=F at *;refine US hp (k:=Aj A B U*Aj A B U*(Aj A B P*Aj A B P)) (BO hp (BO hp d2 d2) (BO hp d1 d1)) ?_;generalize Aj A B U=γ at *;generalize Aj A B P=D at *;generalize bI C A B=b at *;generalize bI R A B=r at *;have f1:Cg p (b*(γ*γ*(D*D*vI R x))) (b*(r*F)):=Cg.rfl.mul e2;have f2:Cg p (r*(γ*γ*(D*D*vI C x))) (r*(b*F)):=Cg.rfl.mul e1;refine(Cg.of (by grind)).trans (f1.trans ((Cg.of (by grind:b*(r*F)=r*(b*F))).trans (f2.symm.trans (Cg.of (by grind)))))
theorem UT{k l:Ad}(h:∀ x,Cg p (k*vI R x) (l*vI C x)):CgC p (scC k R) (scC l C):=by
 have a0:=h (1,0,0);have a1:=h (0,1,0);have a2:=h (0,0,1);have b0:=h (1,1,0);have b1:=h (1,0,1);have b2:=h (0,1,1);have v0:∀ E:C6,vI E (1,0,0)=E.c0:=fun E=>by unfold vI;simp
 have v1:∀ E:C6,vI E (0,1,0)=E.c1:=fun E=>by unfold vI;simp
 have v2:∀ E:C6,vI E (0,0,1)=E.c2:=fun E=>by unfold vI;simp
 have w0:∀ E:C6,vI E (1,1,0)=E.c0+E.c1+E.c3:=fun E=>by unfold vI;simp
 have w1:∀ E:C6,vI E (1,0,1)=E.c0+E.c2+E.c4:=fun E=>by unfold vI;simp
 have w2:∀ E:C6,vI E (0,1,1)=E.c1+E.c2+E.c5:=fun E=>by unfold vI;simp
 rw[v0,v0]at a0;rw[v1,v1]at a1;rw[v2,v2]at a2;rw[w0,w0]at b0;rw[w1,w1]at b1;rw[w2,w2]at b2;refine⟨a0,a1,a2,?_,?_,?_⟩
 ·have:=(b0.sub a0).sub a1;refine(Cg.of ?_).trans (this.trans (Cg.of ?_))<;>(unfold scC;simp only;grind)
 ·have:=(b1.sub a0).sub a2;refine(Cg.of ?_).trans (this.trans (Cg.of ?_))<;>(unfold scC;simp only;grind)
 ·have:=(b2.sub a1).sub a2;refine(Cg.of ?_).trans (this.trans (Cg.of ?_))<;>(unfold scC;simp only;grind)
theorem Q8(hp:P4 p)(w:Whl p C)(d1:Aj A B P%p≠0)(d2:Aj A B U%p≠0)(hC:FOn p C A B P U):bI C A B%p≠0:=fun z=>by
 refine w ?_;have v0:∀ x,Cg p (1*vI C x) (0*vI C x):=fun x=>by
  rw[CG,Gq];refine US hp (k:=Aj A B U*Aj A B U*(Aj A B P*Aj A B P)) (BO hp (BO hp d2 d2) (BO hp d1 d1)) ?_;have e1:=Qy hC x;refine(Cg.of (by grind)).trans (e1.trans ?_)
  rw[DC];show _%p=0%p;rw[AW,z,Gq]
 have c:=UT v0;rw[Pw]at c;obtain⟨t0,t1,t2⟩:=Mn c;have e:=Jb t0 t1 t2;rw[UF]at e;show Aj (tw0 C) (tw1 C) (tw2 C)%p=0;rw[show Aj (tw0 C) (tw1 C) (tw2 C)%p=_ from e]
 simp
theorem bX(hp:P4 p)(wC:Whl p C)(wR:Whl p R)(d1:Aj A B P%p≠0)(d2:Aj A B U%p≠0)(hC:FOn p C A B P U)(hR:FOn p R A B P U):PrC p R C:=by
 have b1:=Q8 hp wC d1 d2 hC;have b2:=Q8 hp wR d1 d2 hR;obtain⟨u,uz,ue⟩:=U7 hp b1;refine⟨u*bI R A B,BO hp uz b2,?_⟩;have c:=UT (lZ hp d1 d2 hC hR);have e1:CgC p (scC u (scC (bI C A B) R)) (scC u (scC (bI R A B) C)):=CgC.sc Cg.rfl c;rw[Qb,Qb]at e1;have e2:CgC p (scC (u*bI C A B) R) (scC 1 R):=CgC.sc ue CgC.rfl;rw[Pw]at e2;exact e2.symm.trans e1
end
section
variable{p:Ad}{C E:C6}{a b c A B P U A' B' P' U' x y:R3}
theorem Wa(C:C6)(a b c x y:R3):bI (pb C a b c) x y=bI C (ap a b c x) (ap a b c y):=by
 have e:∀ u:R3,ap a b c u=(u.1*(BY a b c).1+u.2.1*(BW a b c).1+u.2.2*(BV a b c).1,u.1*(BY a b c).2.1+u.2.1*(BW a b c).2.1+u.2.2*(BV a b c).2.1,u.1*(BY a b c).2.2+u.2.1*(BW a b c).2.2+u.2.2*(BV a b c).2.2):=fun u=>by
  unfold ap At BY BW BV;simp only;refine Bs ?_ (Bs ?_ ?_)<;>(simp only;grind)
 rw[e x,e y,YR];rfl
theorem rO(C:C6)(k l:Ad)(x y:R3):bI C (AF k x) (AF l y)=k*l*bI C x y:=by
 unfold bI ap At AF;simp only;grind
theorem VW(hp:P4 p)(h:Pr p x x')(g:Pr p y y'):bI C x y%p=0↔bI C x' y'%p=0:=by
 obtain⟨d,dz,e⟩:=h;obtain⟨d',dz',e'⟩:=g;have q:=(NE (CgC.rfl (C:=C)) e e').trans (Cg.of (rO C d d' x' y'));rw[show bI C x y%p=_ from q]
 exact FP hp (BO hp dz dz')
theorem sO(hp:P4 p)(h:FOn p E A' B' P' U')(hA:Pr p A' (ap a b c A))(hB:Pr p B' (ap a b c B))(hP:Pr p P' (ap a b c P))(hU:Pr p U' (ap a b c U)):FOn p (pb E a b c) A B P U:=
 ⟨by rw[NB];exact(QA hp hA).mp h.vA,by rw[NB];exact(QA hp hB).mp h.vB,by rw[NB];exact(QA hp hU).mp h.vU,by rw[Wa];exact(VW hp hA hP).mp h.bA,by rw[Wa];exact(VW hp hB hP).mp h.bB⟩
theorem lY(hp:P4 p)(z:Aj a b c%p≠0)(w:Whl p E):Whl p (pb E a b c):=by
 show Aj _ _ _%p≠0;rw[sV];exact BO hp (BO hp z z) w
theorem aH(hp:P4 p)(z:Aj a b c%p≠0)(wC:Whl p C)(wE:Whl p E)(d1:Aj A B P%p≠0)(d2:Aj A B U%p≠0)(hC:FOn p C A B P U)(hE:FOn p E A' B' P' U')(hA:Pr p A' (ap a b c A))(hB:Pr p B' (ap a b c B))(hP:Pr p P' (ap a b c P))(hU:Pr p U' (ap a b c U)):PrC p (pb E a b c) C:=
 bX hp wC (lY hp z wE) d1 d2 hC (sO hp hE hA hB hP hU)
end
theorem Tp{p:Ad}:∀ xs:Ac Ad,(∀ v∈xs,0<=v/\v<p)->AY p xs=(xs.filter fun v=>decide (0<v)).head?
 |[],_=>rfl
 |v::xs,h=>by
  have hv:=h v (AB ..);have em:=AO hv.1 hv.2;have ih:=Tp xs fun w hw=>h w (Av _ hw)
  unfold AY;rw[em,DO,ih];by_cases z:v=0
  ·rw[AD z,z];rfl
  ·rw[AH z,AD (by simp;omega)]
   rfl
section
variable{Γ:Gam}{ns:Ac Ad}{p:Ad}{a b c:R3}{s2 s4 s5 s6 s7 s8:Sl}
end
section
variable{p:Ad}{C:C6}{a b c A B P U l m:R3}
theorem swp(h:At U m%p=0):At m U%p=0:=by rw[JD];exact h
theorem Tf(hp:P4 p)(d:Aj A B P%p≠0)(h1:At A m%p=0)(h2:At P m%p=0)(h3:Aj A P U%p=0):At U m%p=0:=by
 have e:Aj A B P*At U m=At A m*Aj U B P-At P m*Aj U B A-At B m*Aj A P U:=by
  unfold Aj det At;grind
 have q:Cg p (Aj A B P*At U m) 0:=by
  rw[e];have k1:Cg p (At A m*Aj U B P) 0:=by rw[BS];exact cg0 h1
  have k2:Cg p (At P m*Aj U B A) 0:=by rw[BS];exact cg0 h2
  have k3:Cg p (At B m*Aj A P U) 0:=cg0 h3;exact(k1.sub k2).sub k3
 have q':Aj A B P*At U m%p=0:=by rw[show _%p=0%p from q,A7]
 exact(FP hp d).mp q'
theorem cO(hp:P4 p)(z:Aj a b c%p≠0)(w:Whl p C)(h:PrC p C (E4 0 (CD p) a b c))(hA:A∈Bh p C)(hB:B∈Bh p C)(hU:U∈Bh p C)(nAB:A≠B)(nAU:A≠U)(nBU:B≠U)(nl:NF p l)(pl:Pr p l (crs A B)):FOn p C A B (pole p C l) U/\NF p (pole p C l)/\G5 p A B (pole p C l) U:=by
 obtain⟨nP,eP⟩:=jB hp w nl;have nA:=(EN hp).mp (AR.mp hA).1;have nB:=(EN hp).mp (AR.mp hB).1;have vA:=Em (AR.mp hA).2;have vB:=Em (AR.mp hB).2;have vU:=Em (AR.mp hU).2;have lA:At A l%p=0:=(Py hp pl).mpr (by rw[(UG A B).1];exact A7 _)
 have lB:At B l%p=0:=(Py hp pl).mpr (by rw[(UG A B).2];exact A7 _)
 generalize pole p C l=P at *;have bA:bI C A P%p=0:=by rw[Jd];exact(Je hp w nP).mp (by rw[eP];exact lA)
 have bB:bI C B P%p=0:=by rw[Jd];exact(Je hp w nP).mp (by rw[eP];exact lB)
 have d1:Aj A B P%p≠0:=fun e=>by
  have e1:At P l%p=0:=(Py hp pl).mpr e;have e2:bI C P P%p=0:=(Je hp w nP).mp (by rw[eP];exact e1)
  rw[Jc]at e2;have z2:(2:Ad)%p≠0:=by rcases hp with rfl|rfl|rfl|rfl<;>decide
  have vP:vI C P%p=0:=(FP hp z2).mp e2;have hP:P∈Bh p C:=AR.mpr ⟨(EN hp).mpr nP,Ff vP⟩;have m1:=Pk hp z w h hP;rw[eP]at m1;have a1:A∈Ke p C l:=(Nb hp).mpr ⟨hA,lA⟩;have b1:B∈Ke p C l:=(Nb hp).mpr ⟨hB,lB⟩;rw[m1]at a1 b1;exact nAB ((BK.mp a1).trans (BK.mp b1).symm)
 have d2:=iW hp z h hA hB hU nAB nAU nBU;have tA:At A (pol p C A)%p=0:=(Je hp w nA).mpr (by rw[Jc,AW,vA];simp)
 have tB:At B (pol p C B)%p=0:=(Je hp w nB).mpr (by rw[Jc,AW,vB];simp)
 have pA:At P (pol p C A)%p=0:=(Je hp w nA).mpr bA;have pB:At P (pol p C B)%p=0:=(Je hp w nB).mpr bB;have d3:Aj A P U%p≠0:=fun e=>by
  have e1:=Tf hp d1 tA pA e;have u1:U∈Ke p C (pol p C A):=(Nb hp).mpr ⟨hU,e1⟩;rw[Pk hp z w h hA]at u1;exact nAU (BK.mp u1).symm
 have d1':Aj B A P%p≠0:=by
  have:Aj B A P=(-1)*Aj A B P:=by unfold Aj det;grind
  rw[this];exact BO hp hp.m1 d1
 have d4:Aj B P U%p≠0:=fun e=>by
  have e1:=Tf hp d1' tB pB e;have u1:U∈Ke p C (pol p C B):=(Nb hp).mpr ⟨hU,e1⟩;rw[Pk hp z w h hB]at u1;exact nBU (BK.mp u1).symm
 exact⟨⟨vA,vB,vU,bA,bB⟩,nP,d1,d2,d3,d4⟩
end
theorem SU{f0 f1 f2 f3:R3}(hp:P4 p)(g:G5 p f0 f1 f2 f3):∃ a b c,GoodR p a b c/\Led p a b c e0R e1R e2R e3R f0 f1 f2 f3:=by
 obtain⟨g0,g1,g2,g3⟩:=g;have k0:Aj f3 f1 f2%p≠0:=by
  have:Aj f3 f1 f2=1*Aj f1 f2 f3:=by unfold Aj det;grind
  rw[this];exact BO hp hp.o1 g3
 have k1:Aj f0 f3 f2%p≠0:=by
  have:Aj f0 f3 f2=(-1)*Aj f0 f2 f3:=by unfold Aj det;grind
  rw[this];exact BO hp hp.m1 g2
 have k2:=g1;have cr:=UR f0 f1 f2 f3;generalize Aj f3 f1 f2=x0 at *;generalize Aj f0 f3 f2=x1 at *;generalize Aj f0 f1 f3=x2 at *;have zz:Aj (BY (AF x0 f0) (AF x1 f1) (AF x2 f2)) (BW (AF x0 f0) (AF x1 f1) (AF x2 f2)) (BV (AF x0 f0) (AF x1 f1) (AF x2 f2))%p≠0:=by
  rw[PH,J4];exact BO hp (BO hp (BO hp k0 k1) k2) g0
 obtain⟨l,t,_,_,tz,gd,_⟩:=MU hp zz;have key:∀(e f:R3)(k:Ad),k%p≠0->ap (BY (AF x0 f0) (AF x1 f1) (AF x2 f2)) (BW (AF x0 f0) (AF x1 f1) (AF x2 f2)) (BV (AF x0 f0) (AF x1 f1) (AF x2 f2)) e=AF k f->Pr p f (ap (fmR p t (BY (AF x0 f0) (AF x1 f1) (AF x2 f2))) (fmR p t (BW (AF x0 f0) (AF x1 f1) (AF x2 f2))) (fmR p t (BV (AF x0 f0) (AF x1 f1) (AF x2 f2))) e):=fun e f k kz q=>by
  refine Pr.symm hp ((Pr.tab tz (EH p t _) (EH p t _) (EH p t _)).trans hp ?_);rw[q];exact⟨k,kz,CgR.rfl⟩
 refine⟨_,_,_,gd,key _ _ x0 k0 ?_,key _ _ x1 k1 ?_,key _ _ x2 k2 ?_,key _ _ (Aj f0 f1 f2) g0 ?_⟩
 ·unfold ap At BY BW BV AF e0R;simp
 ·unfold ap At BY BW BV AF e1R;simp
 ·unfold ap At BY BW BV AF e2R;simp
 ·rw[cr];unfold ap At BY BW BV AF e3R;simp
structure Fc (p:Ad) (C:C6) (A B P U:R3) (rest:Ac R3):Prop where
 pts:Bh p C=A::B::U::rest
 nA:NF p A
 nB:NF p B
 nP:NF p P
 nU:NF p U
 ne:A≠B
 on:FOn p C A B P U
 gen:G5 p A B P U
 ln:∃ l,NF p l/\Pr p l (crs A B)/\P=pole p C l
theorem V6(hj:J6 Γ){a b c:R3}(hp:P4 p)(z:Aj a b c%p≠0)(w:Whl p C)(h:PrC p C (E4 0 (CD p) a b c)):∃ A B P U rest,Fc p C A B P U rest:=by
  have ln:(Bh p C).length=G7 p 0:=KO (.inl rfl) hp z h;have nd:(Bh p C).Nodup:=(LS hp).filter _;have w4:4<=G7 p 0:=by rcases hp with rfl|rfl|rfl|rfl<;>decide
  match e:Bh p C,ln,nd with
  |[],q,_=>exact absurd q (by simp;omega)
  |[_],q,_=>exact absurd q (by simp;omega)
  |[_,_],q,_=>exact absurd q (by simp;omega)
  |A::B::U::rest,_,nd=>
    have hA:A∈Bh p C:=by rw[e];simp
    have hB:B∈Bh p C:=by rw[e];simp
    have hU:U∈Bh p C:=by rw[e];simp
    have nA:=(EN hp).mp (AR.mp hA).1;have nB:=(EN hp).mp (AR.mp hB).1;have nU:=(EN hp).mp (AR.mp hU).1;simp only[B5,Ay,El]at nd;obtain⟨⟨n1,n2,_⟩,⟨n3,_⟩,_⟩:=nd;obtain⟨l,nl,pl,_⟩:=Md hj hp nA nB n1;obtain⟨f,nP,g⟩:=cO hp z w h hA hB hU n1 n2 n3 nl pl;exact⟨A,B,_,U,rest,e,nA,nB,nP,nU,n1,f,g,l,nl,pl,rfl⟩
noncomputable def MN:Df:=⟨3,Ae,(.cons (.ret (.lst (.cons (.idx (.var 2) (.int 0)) (.cons (.idx (.var 2) (.int 1)) (.cons (.call 149 (.cons (.var 0) (.cons (.var 1) (.cons (.call 57 (.cons (.var 0) (.cons (.idx (.var 2) (.int 0)) (.cons (.idx (.var 2) (.int 1)) .nil)))) .nil)))) (.cons (.idx (.var 2) (.int 2)) .nil)))))) .nil)⟩
noncomputable def MG:Df:=⟨3,Ae,(.cons (.expr (.call 147 (.cons (.var 0) (.cons (.var 1) .nil)))) (.cons (.expr (.call 147 (.cons (.var 0) (.cons (.var 2) .nil)))) (.cons (.ret (.call 112 (.cons (.var 0) (.cons (.call 150 (.cons (.var 0) (.cons (.var 1) (.cons (.sl (.call 128 (.cons (.var 0) (.cons (.var 1) .nil))) .non (.int 3)) .nil)))) (.cons (.call 150 (.cons (.var 0) (.cons (.var 2) (.cons (.sl (.call 128 (.cons (.var 0) (.cons (.var 2) .nil))) .non (.int 3)) .nil)))) .nil))))) .nil)))⟩
def Uz(Γ:Gam):Prop:=∀(p:Ad)(C:C6)(A B P U:R3)(rest:Ac R3),P4 p->InC p C->Whl p C->Fc p C A B P U rest->Γ.F 150 [.int p,Bj C,Cd [A,B,U]]=.ok (Du A B P U)
theorem iN(hj:J6 Γ)(hl:PU Γ)(p:Ad)(C:C6)(A B P U:R3)(rest:Ac R3)(hp:P4 p)(iC:InC p C)(w:Whl p C)(h:Fc p C A B P U rest):MN.run Γ [.int p,Bj C,Cd [A,B,U]]=.ok (Du A B P U):=by
 obtain⟨l,nl,pl,rfl⟩:=h.ln;obtain⟨y,ny,py,e1⟩:=Md hj hp h.nA h.nB h.ne;have q:y=l:=KZ hp ny nl (py.trans hp (pl.symm hp));rw[q]at e1;have e2:=hl p C l hp iC w nl;have i0:B7 (Cd [A,B,U]) (.int 0)=.ok (An Aa A):=rfl;have i1:B7 (Cd [A,B,U]) (.int 1)=.ok (An Aa B):=rfl;have i2:B7 (Cd [A,B,U]) (.int 2)=.ok (An Aa U):=rfl;unfold Du;generalize Cd [A,B,U]=T at *;generalize An Aa A=ta at *;generalize An Aa B=tb at *;generalize An Aa U=tu at *;generalize An Aa l=tl at *;generalize An Aa (pole p C l)=tp at *;generalize Bj C=cC at *;simp[MN,Df.run,BB,i0,i1,i2,e1,e2]
def Uy(Γ:Gam):Prop:=∀{p:Ad}{a b c f0 f1 f2 f3 g0 g1 g2 g3:R3},GoodR p a b c->AY p (nine a b c)=Ab 1->Frm p f0 f1 f2 f3->Frm p g0 g1 g2 g3->Led p a b c f0 f1 f2 f3 g0 g1 g2 g3->Γ.F 112 [.int p,Du f0 f1 f2 f3,Du g0 g1 g2 g3]=.ok (A1 a b c)
def Up(Γ:Gam):Prop:=∀(p:Ad)(C E:C6)(a b c A B P U A' B' P' U':R3)(rest rest':Ac R3),GoodR p a b c->AY p (nine a b c)=Ab 1->InC p C->Whl p C->InC p E->Whl p E->Fc p C A B P U rest->Fc p E A' B' P' U' rest'->Led p a b c A B P U A' B' P' U'->Γ.F 151 [.int p,Bj C,Bj E]=.ok (A1 a b c)
theorem sl3(A B U:R3)(rest:Ac R3):slD (Cd (A::B::U::rest)) Af (Ab 3)=.ok (Cd [A,B,U]):=by
 show R.ok (D.lst (JH _ _ _))=_;unfold JH IH;simp[Cd]
theorem iQ(hw:Qj Γ)(ho:PR Γ)(hf:Uz Γ)(hm:Uy Γ)(p:Ad)(C E:C6)(a b c A B P U A' B' P' U':R3)(rest rest':Ac R3)(T:GoodR p a b c)(l1:AY p (nine a b c)=Ab 1)(iC:InC p C)(wC:Whl p C)(iE:InC p E)(wE:Whl p E)(fC:Fc p C A B P U rest)(fE:Fc p E A' B' P' U' rest')(L:Led p a b c A B P U A' B' P' U'):MG.run Γ [.int p,Bj C,Bj E]=.ok (A1 a b c):=by
 have hp:=T.p4;have e1:=hw p C hp iC wC;have e2:=hw p E hp iE wE;have e3:=ho p C hp iC;have e4:=ho p E hp iE;rw[fC.pts]at e3;rw[fE.pts]at e4;have s1:=sl3 A B U rest;have s2:=sl3 A' B' U' rest';have e5:=hf p C A B P U rest hp iC wC fC;have e6:=hf p E A' B' P' U' rest' hp iE wE fE;have e7:=hm T l1 ⟨fC.nA.1,fC.nB.1,fC.nP.1,fC.nU.1,fC.gen⟩ ⟨fE.nA.1,fE.nB.1,fE.nP.1,fE.nU.1,fE.gen⟩ L;generalize Cd (A::B::U::rest)=R1 at *;generalize Cd (A'::B'::U'::rest')=R2 at *;generalize Cd [A,B,U]=R3 at *;generalize Cd [A',B',U']=R4 at *;generalize Du A B P U=R5 at *;generalize Du A' B' P' U'=R6 at *;generalize A1 a b c=R7 at *;generalize Bj C=cC at *;generalize Bj E=cE at *;simp[MG,Df.run,BB,e1,e2,e3,e4,s1,s2,e5,e6,e7]
section
variable{p:Ad}{C:C6}{a b c x y l P Q:R3}
theorem kg0{n:Ad}(h:n%p=0):Cg p n 0:=by show n%p=0%p;rw[h,A7]
theorem Ld{n:Ad}(h:Cg p n 0):n%p=0:=by
 have:n%p=0%p:=h;rw[this,A7]
theorem Pz{s:R3}(h:At r s%p≠0):∃ l,AY p (tri r)=Ab l:=by
 cases el:AY p (tri r) with
 |some l=>exact⟨l,rfl⟩
 |none=>
  refine absurd (Ld ?_) h;refine(FQ (Ph el) (CgR.rfl (a:=s))).trans (Cg.of ?_);unfold At;simp
theorem V8(a b c:R3):At a (crs b c)=Aj a b c:=by
 unfold At crs Aj det;simp only;grind
theorem yT(a b c:R3):At b (crs c a)=Aj a b c:=by
 unfold At crs Aj det;simp only;grind
theorem sT(a b c:R3):Aj b a c=- Aj a b c:=by
 unfold Aj det;grind
theorem QE(hp:P4 p)(z:Aj a b c%p≠0):NF p (nrm p a)/\Pr p (nrm p a) a:=by
 obtain⟨l,el⟩:=Pz (p:=p) (r:=a) (s:=crs b c) (by rw[V8];exact z)
 exact M3 hp el
theorem K5(hp:P4 p)(z:Aj a b c%p≠0):NF p (nrm p (crs a b))/\Pr p (nrm p (crs a b)) (crs a b):=by
 obtain⟨l,el⟩:=Pz (p:=p) (r:=crs a b) (s:=c) (by rw[Nd];exact z)
 exact M3 hp el
theorem VC(z:Aj a b c%p≠0):Aj b a c%p≠0:=by
 rw[sT];intro h;exact z (WB (Wz.mp (WA h)))
theorem GX(hp:P4 p)(ha:Pr p l a):At x l%p=0↔At a x%p=0:=by
 rw[JD x l];exact QD hp ha ⟨1,hp.o1,CgR.of (by unfold AF;simp)⟩
theorem Nz(hp:P4 p)(z:Aj a b c%p≠0):At a (nrm p (crs a b))%p=0/\At b (nrm p (crs a b))%p=0:=by
 obtain⟨h1,h2⟩:=jT a b;have k:∀ u,At (crs a b) u=0->At u (nrm p (crs a b))%p=0:=fun u e=>by
  rw[GX hp (K5 hp z).2,e,A7]
 exact⟨k a h1,k b h2⟩
theorem Nq(hp:P4 p)(hy:NF p y)(hl:NF p l)(py:Pr p y (crs P Q))(h1:At P l%p=0)(h2:At Q l%p=0):y=l:=(To hp hy hl py h1 h2).symm
theorem Jf(hp:P4 p):x∈Bh p C↔NF p x/\vI C x%p=0:=by
 unfold Bh;rw[AR,EN hp,AI]
theorem QX(hp:P4 p)(h:PrC p C (E4 w (CD p) a b c))(x:R3):vI C x%p=0↔vI (E4 w (CD p) a b c) x%p=0:=by
 obtain⟨d,dz,e⟩:=h;have q:=(Jk e (CgR.rfl (a:=x))).trans (Cg.of (KW d _ x));rw[show vI C x%p=_ from q]
 exact FP hp dz
theorem Q0(hp:P4 p):i*j%p=0↔i%p=0\/j%p=0:=by
 constructor
 ·intro h;by_cases hi:i%p=0
  ·exact .inl hi
  ·exact .inr ((FP hp hi).mp h)
 ·rintro (h|h)
  ·rw[AW,h,Gq,A7]
  ·rw[AW,h,DC,A7]
theorem Rz(hp:P4 p)(h:PrC p C (E4 1 (CD p) a b c))(x:R3):vI C x%p=0↔At a x%p=0:=by
 rw[QX hp h,show E4 1 (CD p) a b c=prd a a from rfl,HU,Q0 hp,or_self]
theorem Ry(hp:P4 p)(h:PrC p C (E4 2 (CD p) a b c))(x:R3):vI C x%p=0↔At a x%p=0\/At b x%p=0:=by
 rw[QX hp h,show E4 2 (CD p) a b c=prd a b from rfl,HU,Q0 hp]
theorem Zf(hp:P4 p)(z:Aj a b c%p≠0)(h:PrC p C (E4 3 (CD p) a b c)):vI C (nrm p (crs a b))%p=0:=by
 obtain⟨h1,h2⟩:=Nz hp z;rw[QX hp h,show E4 3 (CD p) a b c=G9 (prd a a) (scC (CD p) (prd b b)) from rfl,PX,KW,HU,HU]
 refine Ld (((kg0 h1).mul (kg0 h1)).sub ((Cg.rfl (a:=CD p)).mul ((kg0 h2).mul (kg0 h2))) |>.trans (Cg.of ?_));simp
theorem Vo(a b x:R3):ap (tw0 (prd a b)) (tw1 (prd a b)) (tw2 (prd a b)) x=(At b x*a.1+At a x*b.1,At b x*a.2.1+At a x*b.2.1,At b x*a.2.2+At a x*b.2.2):=by
 unfold ap tw0 tw1 tw2 prd At;simp only;refine Bs ?_ (Bs ?_ ?_)<;>(simp only;grind)
theorem mE(hp:P4 p)(z:Aj a b c%p≠0)(h:PrC p C (E4 2 (CD p) a b c))(nx:NF p x):CgR p (ap (tw0 C) (tw1 C) (tw2 C) x) (0,0,0)↔x=nrm p (crs a b):=by
 obtain⟨d,dz,e⟩:=h;have e:CgC p C (scC d (prd a b)):=e;obtain⟨t0,t1,t2⟩:=Mn e;have q:CgR p (ap (tw0 C) (tw1 C) (tw2 C) x) (AF d (ap (tw0 (prd a b)) (tw1 (prd a b)) (tw2 (prd a b)) x)):=(Mu t0 t1 t2 CgR.rfl).trans (CgR.of (by
  unfold ap tw0 tw1 tw2 scC At AF;simp only;refine Bs ?_ (Bs ?_ ?_)<;>(simp only;grind)))
 constructor
 ·intro k;have k2:=q.symm.trans k;have r:∀ u,(d*At (ap (tw0 (prd a b)) (tw1 (prd a b)) (tw2 (prd a b)) x) u)%p=0:=fun u=>by
   refine Ld ((Cg.of ?_).trans ((FQ k2 (CgR.rfl (a:=u))).trans (Cg.of ?_)))
   ·unfold At AF;simp only;grind
   ·unfold At;simp
  have r1:=(FP hp dz).mp (r (crs b c));have r2:=(FP hp dz).mp (r (crs c a));rw[Vo]at r1 r2;have s1:At (At b x*a.1+At a x*b.1,At b x*a.2.1+At a x*b.2.1,At b x*a.2.2+At a x*b.2.2) (crs b c)=Aj a b c*At b x:=by
   generalize At b x=s;generalize At a x=t;unfold At crs Aj det;simp only;grind
  have s2:At (At b x*a.1+At a x*b.1,At b x*a.2.1+At a x*b.2.1,At b x*a.2.2+At a x*b.2.2) (crs c a)=Aj a b c*At a x:=by
   generalize At b x=s;generalize At a x=t;unfold At crs Aj det;simp only;grind
  rw[s1,FP hp z]at r1;rw[s2,FP hp z]at r2;exact To hp (K5 hp z).1 nx (K5 hp z).2 r2 r1
 ·rintro rfl;obtain⟨h1,h2⟩:=Nz hp z;refine q.trans ?_;rw[Vo];have k:∀ i j:Ad,Cg p (d*(At b (nrm p (crs a b))*i+At a (nrm p (crs a b))*j)) 0:=fun i j=>((Cg.rfl (a:=d)).mul (((kg0 h2).mul (Cg.rfl (a:=i))).add ((kg0 h1).mul (Cg.rfl (a:=j))))).trans (Cg.of (by simp))
  exact⟨k _ _,k _ _,k _ _⟩
end
noncomputable def Ox:E:=(.no (.bi .any (.cons (.call 91 (.cons (.var 0) (.cons (.var 3) (.cons (.var 4) .nil)))) .nil)))
noncomputable def Oy:E:=(.var 4)
noncomputable def OI:Df:=⟨5,Ae,(.cons (.asg 3 Ae (.call 131 (.cons (.var 0) (.cons (.var 1) .nil)))) (.cons (.ret (.idx (.comp Oy 4 (.e (.var 2)) Ox) (.int 0))) .nil))⟩
noncomputable def NT:E:=(.cmp .NotEq (.var 6) (.var 3))
noncomputable def NV:E:=(.var 6)
noncomputable def NS:E:=(.no (.call 56 (.cons (.var 0) (.cons (.var 7) (.cons (.var 4) .nil)))))
noncomputable def NU:E:=(.var 7)
noncomputable def MS:Df:=⟨8,Ae,(.cons (.asg 3 Ae (.call 152 (.cons (.var 0) (.cons (.var 1) (.cons (.var 2) .nil))))) (.cons (.asg 4 Ae (.call 57 (.cons (.var 0) (.cons (.var 3) (.cons (.idx (.comp NV 6 (.e (.var 2)) NT) (.int 0)) .nil))))) (.cons (.asg 5 Ae (.call 57 (.cons (.var 0) (.cons (.var 3) (.cons (.idx (.comp NU 7 (.e (.var 2)) NS) (.int 0)) .nil))))) (.cons (.ret (.bi .sorted (.cons (.lst (.cons (.var 4) (.cons (.var 5) .nil))) .nil))) .nil))))⟩
noncomputable def Jg:Df:=⟨4,Ae,(.cons (.ife (.call 136 (.cons (.var 0) (.cons (.var 1) .nil))) (.cons (.ret (.tup (.cons (.str (AK "whole")) (.cons (.call 151 (.cons (.var 0) (.cons (.call 123 (.cons (.var 0) .nil)) (.cons (.var 1) .nil)))) .nil)))) .nil) .nil) (.cons (.asg 2 Ae (.call 128 (.cons (.var 0) (.cons (.var 1) .nil)))) (.cons (.ife (.cmp .Eq (.bi .len (.cons (.var 2) .nil)) (.int 1)) (.cons (.ret (.tup (.cons (.str (AK "point")) (.cons (.idx (.var 2) (.int 0)) .nil)))) .nil) .nil) (.cons (.ife (.cmp .Eq (.bi .len (.cons (.var 2) .nil)) (.bin .Add (.var 0) (.int 1))) (.cons (.ret (.tup (.cons (.str (AK "twice")) (.cons (.call 57 (.cons (.var 0) (.cons (.idx (.var 2) (.int 0)) (.cons (.idx (.var 2) (.int 1)) .nil)))) .nil)))) .nil) .nil) (.cons (.asg 3 Ae (.call 153 (.cons (.var 0) (.cons (.var 1) (.cons (.var 2) .nil))))) (.cons (.ret (.tup (.cons (.str (AK "lines")) (.cons (.idx (.var 3) (.int 0)) (.cons (.idx (.var 3) (.int 1)) .nil))))) .nil))))))⟩
section
variable{Γ:Gam}{p:Ad}{C:C6}{a b c:R3}
theorem PZ{l:Ac R3}{q:R3->Ap}(h:∃ x∈l,q x=Aa):∃ x,(l.filter q)[0]?=Ab x/\x∈l/\q x=Aa:=by
 obtain⟨x,hx,hq⟩:=h;cases e:l.filter q with
 |nil=>
  have:x∈l.filter q:=AR.mpr ⟨hx,hq⟩;rw[e]at this;cases this
 |cons y r=>
  have:y∈l.filter q:=by rw[e];exact AB
  exact⟨y,rfl,(AR.mp this).1,(AR.mp this).2⟩
theorem YS(i j k:Ad):biD .any [An Aa (i,j,k)]=.ok (.bl (!decide (i=0/\j=0/\k=0))):=by
 have e:biD .any [An Aa (i,j,k)]=.ok (.bl ((i != 0)||((j != 0)||((k != 0)||false)))):=rfl;rw[e]
 congr 2
 rw[Cy];simp
def Sq(Γ:Gam):Prop:=∀(p:Ad)(C:C6)(a b c:R3),P4 p->InC p C->Aj a b c%p≠0->PrC p C (E4 2 (CD p) a b c)->Γ.F 152 [.int p,Bj C,Cd (Bh p C)]=.ok (An Aa (nrm p (crs a b)))
theorem Z5(hs:Nu Γ)(ht:Ma Γ)(hp:P4 p)(iC:InC p C)(z:Aj a b c%p≠0)(h:PrC p C (E4 2 (CD p) a b c)):OI.run Γ [.int p,Bj C,Cd (Bh p C)]=.ok (An Aa (nrm p (crs a b))):=by
 have p0:=hp.pos;have e1:=ht p C hp;obtain⟨i0,i1,i2⟩:=NK hp iC;obtain⟨g0,g1,g2⟩:=NL p C;have b3:∀ {r},In3 p r->B3 r:=fun h=>(Cn hp h).b3 (by decide)
 have cp:BP (cG Γ [si p,sh (Bj C),sh (Cd (Bh p C)),sh (A1 (t0 p C) (t1 p C) (t2 p C)),Af] 4 Ox) (cF Γ [si p,sh (Bj C),sh (Cd (Bh p C)),sh (A1 (t0 p C) (t1 p C) (t2 p C)),Af] 4 Oy) ((Bh p C).map (An Aa))=.ok (((Bh p C).filter fun x=>decide (x=nrm p (crs a b))).map (An Aa)):=by
  refine LW (Bh p C) fun x hx=>⟨?_,?_⟩
  ·have nx:=((Jf hp).mp hx).1;have e:Γ.F 91 [.int p,A1 (t0 p C) (t1 p C) (t2 p C),An Aa x]=_:=hs p Aa Aa Aa (t0 p C) (t1 p C) (t2 p C) x p0 (b3 i0) (b3 i1) (b3 i2) (b3 nx.1);have q:=YS (At (t0 p C) x%p) (At (t1 p C) x%p) (At (t2 p C) x%p);have k:decide (At (t0 p C) x%p=0/\At (t1 p C) x%p=0/\At (t2 p C) x%p=0)=decide (x=nrm p (crs a b)):=by
    rw[EI,<-mE hp z h nx];have w:=Mu g0 g1 g2 (CgR.rfl (a:=x));constructor
    ·rintro⟨q0,q1,q2⟩;exact w.symm.trans ⟨kg0 q0,kg0 q1,kg0 q2⟩
    ·intro q;obtain⟨q0,q1,q2⟩:=w.trans q;exact⟨Ld q0,Ld q1,Ld q2⟩
   rw[k]at q;generalize An Aa (At (t0 p C) x%p,At (t1 p C) x%p,At (t2 p C) x%p)=R3 at *;generalize A1 (t0 p C) (t1 p C) (t2 p C)=TT at *;generalize decide (x=nrm p (crs a b))=v at *;generalize An Aa x=xx at *;simp[cG,Ox,e,q]
  ·simp[cF,Oy]
 have hm:nrm p (crs a b)∈Bh p C:=(Jf hp).mpr ⟨(K5 hp z).1,(Ry hp h _).mpr (.inl (Nz hp z).1)⟩;obtain⟨x,hx,_,hq⟩:=PZ (l:=Bh p C) (q:=fun x=>decide (x=nrm p (crs a b))) ⟨_,hm,Ff rfl⟩
 have hq:=Em hq;subst hq;have ix:=K1 hx;have sq:CI (Cd (Bh p C))=.ok ((Bh p C).map (An Aa)):=rfl;have ix':B7 (.lst (((Bh p C).filter fun x=>decide (x=nrm p (crs a b))).map (An Aa))) (.int 0)=.ok (An Aa (nrm p (crs a b))):=ix
 generalize A1 (t0 p C) (t1 p C) (t2 p C)=TT at *;generalize ((Bh p C).filter fun x=>decide (x=nrm p (crs a b))).map (An Aa)=FL at *
 generalize Cd (Bh p C)=PP at *;generalize An Aa (nrm p (crs a b))=mm at *;generalize (Bh p C).map (An Aa)=PL at *;generalize Bj C=cC at *;simp[OI,Df.run,BB,e1,sq,cp,ix']
theorem VY(hp:P4 p)(z:Aj a b c%p≠0):((Da p).filter fun x=>decide (At a x%p=0)).length=G7 p 1:=by
 rw[<-KO (w:=1) (C:=prd a a) (.inr (.inl rfl)) hp z (PrC.rfl hp)];unfold Bh
 congr 1
 refine FY fun x hx=>?_
 rw[EI,HU,Q0 hp,or_self]
theorem TN(hj:J6 Γ)(hp:P4 p){A B m:R3}(on:∀ x,vI C x%p=0↔At A x%p=0\/At B x%p=0)(nA:NF p (nrm p A)/\Pr p (nrm p A) A)(nB:NF p (nrm p B)/\Pr p (nrm p B) B)(nm:NF p m)(mA:At A m%p=0)(mB:At B m%p=0)(cnt:(Bh p C).length≠((Da p).filter fun x=>decide (At A x%p=0)).length):∃ P,((Bh p C).filter fun x=>!decide (At x (nrm p A)%p=0))[0]?=Ab P/\nrm p A≠nrm p B/\Γ.F 57 [.int p,An Aa m,An Aa P]=.ok (An Aa (nrm p B)):=by
 have ex:∃ x∈Bh p C,(!decide (At x (nrm p A)%p=0))=Aa:=by
  refine En fun n=>cnt ?_
  unfold Bh
  congr 1
  refine FY fun x hx=>?_
  rw[EI];constructor
  ·intro h;refine En fun k=>n ⟨x,(Jf hp).mpr ⟨(EN hp).mp hx,h⟩,?_⟩
   rw[BJ,Cw,GX hp nA.2];exact k
  ·intro h;exact(on x).mpr (.inl h)
 obtain⟨P,e,hP,hq⟩:=PZ ex;rw[BJ,Cw]at hq;obtain⟨nP,vP⟩:=(Jf hp).mp hP;have hB:At B P%p=0:=((on P).mp vP).resolve_left fun k=>hq ((GX hp nA.2).mpr k)
 have ne:m≠P:=fun k=>hq (by rw[<-k];exact(GX hp nA.2).mpr mA)
 obtain⟨y,ny,py,e2⟩:=Md hj hp nm nP ne;have ey:=Nq hp ny nB.1 py ((GX hp nB.2).mpr mB) ((GX hp nB.2).mpr hB);subst ey;exact⟨P,e,fun k=>hq (by rw[k];exact(GX hp nB.2).mpr hB),e2⟩
def Wg(Γ:Gam):Prop:=∀(p:Ad)(C:C6)(a b c:R3),P4 p->InC p C->Aj a b c%p≠0->PrC p C (E4 2 (CD p) a b c)->∃ L1 L2,((L1=nrm p a/\L2=nrm p b)\/(L1=nrm p b/\L2=nrm p a))/\BG (tri L1) (tri L2)=Aa/\Γ.F 153 [.int p,Bj C,Cd (Bh p C)]=.ok (Cd [L1,L2])
theorem uX(ne:x≠y):∃ L1 L2,((L1=x/\L2=y)\/(L1=y/\L2=x))/\BG (tri L1) (tri L2)=Aa/\Hm [An Aa x,An Aa y]=.ok [An Aa L1,An Aa L2]:=by
 have nt:tri x≠tri y:=fun h=>ne (by
  obtain⟨x1,x2,x3⟩:=x;obtain⟨y1,y2,y3⟩:=y;unfold tri at h;simp at h;obtain⟨rfl,rfl,rfl⟩:=h;rfl)
 have k:∀ L1 L2:R3,(L1=x/\L2=y)\/(L1=y/\L2=x)->BG (tri L1) (tri L2)=Aa->Hm [An Aa x,An Aa y]=.ok [An Aa L1,An Aa L2]:=fun L1 L2 h hl=>by
  have:=aK (rs:=[tri x,tri y]) (ys:=[tri L1,tri L2]) (by intro r hr;simp at hr;rcases hr with rfl|rfl<;>simp[tri]) (by simp[nt]) (by simp) (by simp[hl]) (by
   intro r;rcases h with ⟨rfl,rfl⟩|⟨rfl,rfl⟩
   ·rfl
   ·simp only[Ay,A3,Cj];exact or_comm)
  simp only[Ch,Gu,<-Nk]at this;exact this
 cases hl:BG (tri x) (tri y) with
 |true=>exact⟨x,y,.inl ⟨rfl,rfl⟩,hl,k x y (.inl ⟨rfl,rfl⟩) hl⟩
 |false=>
  have hl':=M6 nt hl;exact⟨y,x,.inr ⟨rfl,rfl⟩,hl',k y x (.inr ⟨rfl,rfl⟩) hl'⟩
theorem xH(hj:J6 Γ)(hc:Sq Γ)(ho:Vx Γ)(hp:P4 p)(iC:InC p C)(z:Aj a b c%p≠0)(h:PrC p C (E4 2 (CD p) a b c)):∃ L1 L2,((L1=nrm p a/\L2=nrm p b)\/(L1=nrm p b/\L2=nrm p a))/\BG (tri L1) (tri L2)=Aa/\MS.run Γ [.int p,Bj C,Cd (Bh p C)]=.ok (Cd [L1,L2]):=by
  have p0:=hp.pos;have e1:=hc p C a b c hp iC z h;have nA:=QE hp z;have nB:=QE hp (VC z);obtain⟨mA,mB⟩:=Nz hp z;have nm:=(K5 hp z).1;have len:=KO (.inr (.inr (.inl rfl))) hp z h;have wl:G7 p 2≠G7 p 1/\2<=G7 p 2:=by rcases hp with rfl|rfl|rfl|rfl<;>decide
  have on:=Ry hp h;have exn:∃ x∈Bh p C,(!decide (x=nrm p (crs a b)))=Aa:=by
    have nd:(Bh p C).Nodup:=(LS hp).filter _
    match e:Bh p C,len,nd with
    |[],q,_=>exact absurd q (by simp;omega)
    |[_],q,_=>exact absurd q (by simp;omega)
    |x::y::r,_,nd=>
      by_cases hx:x=nrm p (crs a b)
      · refine⟨y,by simp,?_⟩
        rw[BJ,Cw];rintro rfl;exact(B5.mp nd).1 (by rw[hx];simp)
      · exact⟨x,by simp,by rw[BJ,Cw];exact hx⟩
  generalize nrm p (crs a b)=m at *;obtain⟨P,eP,hP,hq⟩:=PZ exn;rw[BJ,Cw]at hq;obtain⟨nP,vP⟩:=(Jf hp).mp hP;obtain⟨y,ny,py,e2⟩:=Md hj hp nm nP fun k=>hq k.symm
  have fin:∃ y2 P2,(((y=nrm p a/\y2=nrm p b))\/(y=nrm p b/\y2=nrm p a))/\y≠y2/\((Bh p C).filter fun x=>!decide (At x y%p=0))[0]?=Ab P2/\Γ.F 57 [.int p,An Aa m,An Aa P2]=.ok (An Aa y2):=by
    rcases (on P).mp vP with k|k
    · have ey:=Nq hp ny nA.1 py ((GX hp nA.2).mpr mA) ((GX hp nA.2).mpr k);subst ey;obtain⟨P2,q1,q2,q3⟩:=TN hj hp on nA nB nm mA mB (by rw[len,VY hp z];exact wl.1)
      exact⟨_,P2,.inl ⟨rfl,rfl⟩,q2,q1,q3⟩
    · have ey:=Nq hp ny nB.1 py ((GX hp nB.2).mpr mB) ((GX hp nB.2).mpr k);subst ey;obtain⟨P2,q1,q2,q3⟩:=TN hj hp (fun x=>(on x).trans or_comm) nB nA nm mB mA (by rw[len,VY hp (VC z)];exact wl.1)
      exact⟨_,P2,.inr ⟨rfl,rfl⟩,q2,q1,q3⟩
  obtain⟨y2,P2,hy,ne,eP2,e3⟩:=fin;obtain⟨L1,L2,hL,lx,so⟩:=uX ne;refine⟨L1,L2,?_,lx,?_⟩
  · rcases hy with ⟨rfl,rfl⟩|⟨rfl,rfl⟩
    · exact hL
    · rcases hL with ⟨rfl,rfl⟩|⟨rfl,rfl⟩
      · exact .inr ⟨rfl,rfl⟩
      · exact .inl ⟨rfl,rfl⟩
  have cp1:BP (cG Γ [si p,sh (Bj C),sh (Cd (Bh p C)),sh (An Aa m),Af,Af,Af,Af] 6 NT) (cF Γ [si p,sh (Bj C),sh (Cd (Bh p C)),sh (An Aa m),Af,Af,Af,Af] 6 NV) ((Bh p C).map (An Aa))=.ok (((Bh p C).filter fun x=>!decide (x=m)).map (An Aa)):=by
    refine LW (Bh p C) fun x hx=>⟨?_,?_⟩
    · have f1:=(Qs x).1;have f2:=(Qs m).1;have q:=Vf x m;generalize decide (x=m)=v at *;generalize An Aa x=xx at *;generalize An Aa m=mm at *;simp[cG,NT,f1,f2,q]
    · simp[cF,NV]
  have cp2:BP (cG Γ [si p,sh (Bj C),sh (Cd (Bh p C)),sh (An Aa m),sh (An Aa y),Af,Af,Af] 7 NS) (cF Γ [si p,sh (Bj C),sh (Cd (Bh p C)),sh (An Aa m),sh (An Aa y),Af,Af,Af] 7 NU) ((Bh p C).map (An Aa))=.ok (((Bh p C).filter fun x=>!decide (At x y%p=0)).map (An Aa)):=by
    refine LW (Bh p C) fun x hx=>⟨?_,?_⟩
    · have e:=ho p x y hp ((Jf hp).mp hx).1.1 ny.1;generalize decide (At x y%p=0)=v at *;generalize An Aa x=xx at *;simp[cG,NS,e]
    · simp[cF,NU]
  have ix1:B7 (.lst (((Bh p C).filter fun x=>!decide (x=m)).map (An Aa))) (.int 0)=.ok (An Aa P):=K1 eP
  have ix2:B7 (.lst (((Bh p C).filter fun x=>!decide (At x y%p=0)).map (An Aa))) (.int 0)=.ok (An Aa P2):=K1 eP2
  have sq:CI (Cd (Bh p C))=.ok ((Bh p C).map (An Aa)):=rfl;have so':Hm [An Aa y,An Aa y2]=.ok ([L1,L2].map (An Aa)):=so;show _=R.ok (D.lst ([L1,L2].map (An Aa)));generalize [L1,L2].map (An Aa)=LL at *;generalize ((Bh p C).filter fun x=>!decide (x=m)).map (An Aa)=F1 at *
  generalize ((Bh p C).filter fun x=>!decide (At x y%p=0)).map (An Aa)=F2 at *
  generalize Cd (Bh p C)=PP at *;generalize (Bh p C).map (An Aa)=PL at *;generalize An Aa y=yy at *;generalize An Aa y2=yy2 at *;generalize An Aa m=mm at *;generalize An Aa P=tP at *;generalize An Aa P2=tP2 at *;generalize Bj C=cC at *;simp[MS,Df.run,BB,e1,sq,cp1,ix1,e2,cp2,ix2,e3,so']
end
section
variable{Γ:Gam}{p:Ad}{C:C6}{a b c:R3}
noncomputable def P0c(p:Ad):C6:=⟨0,1,0,0,p-1,0⟩
theorem wJ(hp:P4 p):InC p (P0c p):=by
 rcases hp with rfl|rfl|rfl|rfl<;>(unfold InC P0c C6.l;decide)
theorem Rv(hp:P4 p):PrC p (P0c p) (E4 0 (CD p) e0R e1R e2R):=by
 refine⟨-1,hp.m1,?_⟩;rcases hp with rfl|rfl|rfl|rfl<;>exact⟨by rfl,by rfl,by rfl,by rfl,by rfl,by rfl⟩
theorem VH(hp:P4 p):Aj e0R e1R e2R%p≠0:=by
 rcases hp with rfl|rfl|rfl|rfl<;>decide
structure Kd (Γ:Gam):Prop where
 k0:∀(p:Ad)(C:C6)(a b c:R3),P4 p->InC p C->Aj a b c%p≠0->PrC p C (E4 0 (CD p) a b c)->∃ m0 m1 m2,GoodR p m0 m1 m2/\AY p (nine m0 m1 m2)=Ab 1/\PrC p (pb C m0 m1 m2) (P0c p)/\Γ.F 154 [.int p,Bj C]=.ok (.tup [.str (AK "whole"),A1 m0 m1 m2])
 k1:∀(p:Ad)(C:C6)(a b c:R3),P4 p->InC p C->Aj a b c%p≠0->PrC p C (E4 1 (CD p) a b c)->Γ.F 154 [.int p,Bj C]=.ok (.tup [.str (AK "twice"),An Aa (nrm p a)])
 k2:∀(p:Ad)(C:C6)(a b c:R3),P4 p->InC p C->Aj a b c%p≠0->PrC p C (E4 2 (CD p) a b c)->∃ L1 L2,((L1=nrm p a/\L2=nrm p b)\/(L1=nrm p b/\L2=nrm p a))/\BG (tri L1) (tri L2)=Aa/\Γ.F 154 [.int p,Bj C]=.ok (.tup [.str (AK "lines"),An Aa L1,An Aa L2])
 k3:∀(p:Ad)(C:C6)(a b c:R3),P4 p->InC p C->Aj a b c%p≠0->PrC p C (E4 3 (CD p) a b c)->Γ.F 154 [.int p,Bj C]=.ok (.tup [.str (AK "point"),An Aa (nrm p (crs a b))])
structure Hk (Γ:Gam):Prop where
 wh:Wf Γ
 pl:Ux Γ
 cm:Up Γ
 pt:PR Γ
 jn:J6 Γ
 tw:Wg Γ
theorem Zd(h:Hk Γ)(hp:P4 p)(iC:InC p C)(z:Aj a b c%p≠0)(pC:PrC p C (E4 0 (CD p) a b c)):∃ m0 m1 m2,GoodR p m0 m1 m2/\AY p (nine m0 m1 m2)=Ab 1/\PrC p (pb C m0 m1 m2) (P0c p)/\Jg.run Γ [.int p,Bj C]=.ok (.tup [.str (AK "whole"),A1 m0 m1 m2]):=by
 have e1:=h.wh p C hp iC;have wC:Whl p C:=(Mg (.inl rfl) hp z pC).mpr rfl;rw[Ff wC]at e1;have e2:Γ.F 123 [.int p]=.ok (Bj (P0c p)):=h.pl p hp;have w0:Whl p (P0c p):=(Mg (.inl rfl) hp (VH hp) (Rv hp)).mpr rfl;obtain⟨A,B,P,U,rs,fC⟩:=V6 h.jn hp (VH hp) w0 (Rv hp);obtain⟨A',B',P',U',rs',fE⟩:=V6 h.jn hp z wC pC;obtain⟨x0,x1,x2,Gx,Lx⟩:=SU hp fC.gen;obtain⟨y0,y1,y2,Gy,Ly⟩:=SU hp fE.gen;obtain⟨m0,m1,m2,Gm,lm,Lm⟩:=xY hp Gx Gy Lx Ly;have e3:=h.cm p (P0c p) C m0 m1 m2 A B P U A' B' P' U' rs rs' Gm lm (wJ hp) w0 iC wC fC fE Lm;have pq:=aH hp Gm.nz w0 wC fC.gen.1 fC.gen.2.1 fC.on fE.on Lm.h0 Lm.h1 Lm.h2 Lm.h3;refine⟨m0,m1,m2,Gm,lm,pq,?_⟩;generalize A1 m0 m1 m2=TT at *;generalize Bj (P0c p)=c0 at *;generalize Bj C=cC at *;simp[Jg,Df.run,BB,e1,e2,e3]
theorem Pp(hw:W4 w)(hp:P4 p)(z:Aj a b c%p≠0)(pC:PrC p C (E4 w (CD p) a b c)):biD .len [Cd (Bh p C)]=.ok (.int (G7 p w:Ad)):=by
 rw[<-KO hw hp z pC];show R.ok (D.int (((Bh p C).map (An Aa)).length:Ag))=_;rw[BR]
theorem Zc(h:Hk Γ)(hp:P4 p)(iC:InC p C)(z:Aj a b c%p≠0)(pC:PrC p C (E4 1 (CD p) a b c)):Jg.run Γ [.int p,Bj C]=.ok (.tup [.str (AK "twice"),An Aa (nrm p a)]):=by
  have p0:=hp.pos;have w1:W4 1:=.inr (.inl rfl);have e1:=h.wh p C hp iC;rw[CF (fun k=>absurd ((Mg w1 hp z pC).mp k) (by decide))]at e1
  have e2:=h.pt p C hp iC;have ln:=Pp w1 hp z pC;have wv:(G7 p 1:Ad)=p+1:=by show (((p+1).toNat:Ag):Ad)=_;omega
  rw[wv]at ln;have nA:=QE hp z;have len:=KO w1 hp z pC;have w2:2<=G7 p 1:=by rcases hp with rfl|rfl|rfl|rfl<;>decide
  have nd:(Bh p C).Nodup:=(LS hp).filter _;obtain⟨P,Q,g0,g1,ne,hP,hQ⟩:∃ P Q,(Bh p C)[0]?=Ab P/\(Bh p C)[1]?=Ab Q/\P≠Q/\P∈Bh p C/\Q∈Bh p C:=by
    match e:Bh p C,len,nd with
    |[],q,_=>exact absurd q (by simp;omega)
    |[_],q,_=>exact absurd q (by simp;omega)
    |x::y::r,_,nd=>
      refine⟨x,y,rfl,rfl,?_,by simp,by simp⟩
      rintro rfl;exact(B5.mp nd).1 (by simp)
  obtain⟨nP,vP⟩:=(Jf hp).mp hP;obtain⟨nQ,vQ⟩:=(Jf hp).mp hQ;obtain⟨y,ny,py,e3⟩:=Md h.jn hp nP nQ ne;have ey:=Nq hp ny nA.1 py ((GX hp nA.2).mpr ((Rz hp pC P).mp vP)) ((GX hp nA.2).mpr ((Rz hp pC Q).mp vQ));subst ey;have i0:B7 (Cd (Bh p C)) (.int 0)=.ok (An Aa P):=K1 g0;have i1:B7 (Cd (Bh p C)) (.int 1)=.ok (An Aa Q):=K1 g1;have q1:¬ p+1=1:=by omega
  generalize Cd (Bh p C)=PP at *;generalize An Aa P=tP at *;generalize An Aa Q=tQ at *;generalize An Aa (nrm p a)=tA at *;generalize Bj C=cC at *;simp[Jg,Df.run,BB,e1,e2,ln,q1,i0,i1,e3]
theorem Zb(h:Hk Γ)(hp:P4 p)(iC:InC p C)(z:Aj a b c%p≠0)(pC:PrC p C (E4 2 (CD p) a b c)):∃ L1 L2,((L1=nrm p a/\L2=nrm p b)\/(L1=nrm p b/\L2=nrm p a))/\BG (tri L1) (tri L2)=Aa/\Jg.run Γ [.int p,Bj C]=.ok (.tup [.str (AK "lines"),An Aa L1,An Aa L2]):=by
 have p0:=hp.pos;have w2:W4 2:=.inr (.inr (.inl rfl));have e1:=h.wh p C hp iC;rw[CF (fun k=>absurd ((Mg w2 hp z pC).mp k) (by decide))]at e1
 have e2:=h.pt p C hp iC;have ln:=Pp w2 hp z pC;have wv:(G7 p 2:Ad)=2*p+1:=by show (((2*p+1).toNat:Ag):Ad)=_;omega
 rw[wv]at ln;obtain⟨L1,L2,hL,lx,e3⟩:=h.tw p C a b c hp iC z pC;refine⟨L1,L2,hL,lx,?_⟩;have q1:¬ 2*p+1=1:=by omega
 have q2:¬ 2*p+1=p+1:=by omega
 have i0:B7 (Cd [L1,L2]) (.int 0)=.ok (An Aa L1):=rfl;have i1:B7 (Cd [L1,L2]) (.int 1)=.ok (An Aa L2):=rfl;generalize Cd [L1,L2]=LL at *;generalize Cd (Bh p C)=PP at *;generalize An Aa L1=t1 at *;generalize An Aa L2=t2 at *;generalize Bj C=cC at *;generalize 2*p+1=N at *;simp[Jg,Df.run,BB,e1,e2,ln,q1,q2,e3,i0,i1]
theorem Za(h:Hk Γ)(hp:P4 p)(iC:InC p C)(z:Aj a b c%p≠0)(pC:PrC p C (E4 3 (CD p) a b c)):Jg.run Γ [.int p,Bj C]=.ok (.tup [.str (AK "point"),An Aa (nrm p (crs a b))]):=by
  have p0:=hp.pos;have w3:W4 3:=.inr (.inr (.inr rfl));have e1:=h.wh p C hp iC;rw[CF (fun k=>absurd ((Mg w3 hp z pC).mp k) (by decide))]at e1
  have e2:=h.pt p C hp iC;have ln:=Pp w3 hp z pC;have wv:(G7 p 3:Ad)=1:=rfl;rw[wv]at ln;have hm:nrm p (crs a b)∈Bh p C:=(Jf hp).mpr ⟨(K5 hp z).1,Zf hp z pC⟩;have len:(Bh p C).length=1:=KO w3 hp z pC;have g0:(Bh p C)[0]?=Ab (nrm p (crs a b)):=by
    match e:Bh p C,len,hm with
    |[x],_,hm=>
      rw[BK]at hm;rw[hm];rfl
  have i0:B7 (Cd (Bh p C)) (.int 0)=.ok (An Aa (nrm p (crs a b))):=K1 g0;generalize Cd (Bh p C)=PP at *;generalize An Aa (nrm p (crs a b))=t1 at *;generalize Bj C=cC at *;simp[Jg,Df.run,BB,e1,e2,ln,i0]
end
def mW(Γ:Gam):Prop:=∀(p:Ad)(q:Ap)(C:C6)(x:R3),P4 p->InC p C->In3 p x->Γ.F 162 [.int p,Bj C,An q x]=.ok (.int (vI C x%p))
theorem iK(Γ:Gam)(p:Ad)(q:Ap)(C:C6)(x:R3)(hp:P4 p)(iC:InC p C)(ix:In3 p x):NY.run Γ [.int p,Bj C,An q x]=.ok (.int (vI C x%p)):=by
 have p0:=hp.pos;have bC:=iC.b hp;have bx:=Cn hp ix;have k:∀ {u v},Bd 10 u->Bd 10 v->Fl u v=Aa:=fun hu hv=>G0 hu hv (by decide) (by decide)
 have k2:∀ {u v w},Bd 10 u->Bd 10 v->Bd 10 w->Fl u (v*w)=Aa:=fun hu hv hw=>G0 hu (hv.mul hw) (by decide) (by decide)
 obtain⟨c0,c1,c2,c3,c4,c5⟩:=C;obtain⟨x0,x1,x2⟩:=x;have q00:=k bx.1 bx.1;have q11:=k bx.2.1 bx.2.1;have q22:=k bx.2.2 bx.2.2;have q01:=k bx.1 bx.2.1;have q02:=k bx.1 bx.2.2;have q12:=k bx.2.1 bx.2.2;have m0:=k2 bC.b0 bx.1 bx.1;have m1:=k2 bC.b1 bx.2.1 bx.2.1;have m2:=k2 bC.b2 bx.2.2 bx.2.2;have m3:=k2 bC.b3 bx.1 bx.2.1;have m4:=k2 bC.b4 bx.1 bx.2.2;have m5:=k2 bC.b5 bx.2.1 bx.2.2;simp only at q00 q11 q22 q01 q02 q12 m0 m1 m2 m3 m4 m5;have sC:CI (Bj ⟨c0,c1,c2,c3,c4,c5⟩)=.ok [.int c0,.int c1,.int c2,.int c3,.int c4,.int c5]:=rfl;have as:∀ ρ:Rho,G2 [3,4,5] (An q (x0,x1,x2)) ρ=.ok (((ρ.set 3 (si x0)).set 4 (si x1)).set 5 (si x2)):=fun _=>by cases q<;>rfl
 have ev:vI ⟨c0,c1,c2,c3,c4,c5⟩ (x0,x1,x2)=c0*(x0*x0)+c1*(x1*x1)+c2*(x2*x2)+c3*(x0*x1)+c4*(x0*x2)+c5*(x1*x2):=by
  unfold vI;simp only;grind
 rw[ev];generalize Bj ⟨c0,c1,c2,c3,c4,c5⟩=cC at *;generalize An q (x0,x1,x2)=xx at *;generalize hz0:x0*x0=z0 at *;generalize hz1:x1*x1=z1 at *;generalize hz2:x2*x2=z2 at *;generalize hz3:x0*x1=z3 at *;generalize hz4:x0*x2=z4 at *;generalize hz5:x1*x2=z5 at *;have cp:BP (cGT Γ [si p,sh cC,sh xx,si x0,si x1,si x2,sh (.lst [.int z0,.int z1,.int z2,.int z3,.int z4,.int z5]),Af,Af] [7,8] CM) (cFT Γ [si p,sh cC,sh xx,si x0,si x1,si x2,sh (.lst [.int z0,.int z1,.int z2,.int z3,.int z4,.int z5]),Af,Af] [7,8] N2) (EO [.int c0,.int c1,.int c2,.int c3,.int c4,.int c5] [.int z0,.int z1,.int z2,.int z3,.int z4,.int z5])=.ok [.int (c0*z0),.int (c1*z1),.int (c2*z2),.int (c3*z3),.int (c4*z4),.int (c5*z5)]:=by
  simp[BP,cGT,cFT,EO,N2,CM,m0,m1,m2,m3,m4,m5]
 generalize hs:c0*z0+c1*z1+c2*z2+c3*z3+c4*z4+c5*z5=s;have sm:Ig 0 [.int (c0*z0),.int (c1*z1),.int (c2*z2),.int (c3*z3),.int (c4*z4),.int (c5*z5)]=.ok s:=by rw[<-hs];simp[Ig]
 simp[NY,Df.run,BB,as,q00,q11,q22,q01,q02,q12,hz0,hz1,hz2,hz3,hz4,hz5,sC,cp,sm,p0]
noncomputable def JY:Ss:=(.cons (.ife (.or (.cons (.no (.isi (.var 4) [.tuple])) (.cons (.cmp .NotEq (.bi .len (.cons (.var 4) .nil)) (.int 3)) .nil))) (.cons (.ret (.bl Ae)) .nil) .nil) (.cons (.ext 3 (.bi .list (.cons (.bin .Add (.var 4) (.tup .nil)) .nil))) .nil))
noncomputable def Oc:E:=(.and (.cons (.isi (.var 13) [.int]) (.cons (.no (.isi (.var 13) [.bool])) (.cons (.cmp2 .LtE .Lt (.int 0) (.var 13) (.var 0)) .nil))))
noncomputable def N8:E:=(.cmp .NotEq (.var 14) (.int 0))
noncomputable def Ob:E:=(.var 14)
noncomputable def MD:E:=(.bin .Mod (.bin .Add (.bin .Add (.bin .Mult (.idx (.var 15) (.int 0)) (.var 7)) (.bin .Mult (.idx (.var 15) (.int 1)) (.var 8))) (.bin .Mult (.idx (.var 15) (.int 2)) (.var 9))) (.var 0))
noncomputable def N7:E:=(.cmp .Eq (.bin .Mod (.bin .Mult (.var 16) (.var 11)) (.var 0)) (.var 12))
noncomputable def Oa:E:=(.var 16)
noncomputable def JX:Ss:=(.cons (.asgT [7,8,9] (.var 6)) (.cons (.asg 10 Ae (.comp MD 15 (.e (.var 2)) CM)) (.cons (.asg 11 Ae (.bin .Mod (.bin .Sub (.bin .Mult (.var 7) (.var 9)) (.bin .Mult (.var 8) (.var 8))) (.var 0))) (.cons (.asg 12 Ae (.call 162 (.cons (.var 0) (.cons (.var 1) (.cons (.var 10) .nil))))) (.cons (.ife (.cmp .NotEq (.cmp .Eq (.var 11) (.int 0)) (.cmp .Eq (.var 12) (.int 0))) (.cons (.ret (.bl Ae)) .nil) .nil) (.cons (.ife (.cmp .NotEq (.var 11) (.int 0)) (.cons (.app 5 (.idx (.comp Oa 16 (.rng (.var 0)) N7) (.int 0))) .nil) .nil) .nil))))))
noncomputable def Os:Df:=⟨17,Ae,(.cons (.ife (.or (.cons (.no (.isi (.var 2) [.tuple])) (.cons (.cmp .NotEq (.bi .len (.cons (.var 2) .nil)) (.int 3)) .nil))) (.cons (.ret (.bl Ae)) .nil) .nil) (.cons (.asg 3 Aa (.lst .nil)) (.cons (.fors 4 (.e (.var 2)) JY) (.cons (.rel 3) (.cons (.ife (.no (.bi .all (.cons (.comp Oc 13 (.e (.var 3)) CM) .nil))) (.cons (.ret (.bl Ae)) .nil) .nil) (.cons (.rel 3) (.cons (.ife (.or (.cons (.cmp .Eq (.call 165 (.cons (.var 0) (.cons (.idx (.var 2) (.int 0)) (.cons (.idx (.var 2) (.int 1)) (.cons (.idx (.var 2) (.int 2)) .nil))))) (.int 0)) (.cons (.cmp .NotEq (.idx (.comp Ob 14 (.e (.var 3)) N8) (.int 0)) (.int 1)) .nil))) (.cons (.ret (.bl Ae)) .nil) .nil) (.cons (.asg 5 Aa (.lst .nil)) (.cons (.fors 6 (.e (.call 164 (.cons (.var 0) .nil))) JX) (.cons (.ret (.cmp .Eq (.bi .lset (.cons (.var 5) .nil)) (.int 1))) .nil))))))))))⟩
section
variable{Γ:Gam}{p:Ad}{C:C6}{a b c:R3}
theorem P8(r:R3)(xs:Ac D)(cC TT:D)(s4:Sl)(hn:xs.length<=9):Do Γ 4 JY (trR r) [si p,sh cC,sh TT,Ab (.lst xs,Aa),s4,Af,Af,Af,Af,Af,Af,Af,Af,Af,Af,Af,Af]=.next [si p,sh cC,sh TT,Ab (.lst (xs++[.int r.1,.int r.2.1,.int r.2.2]),Aa),sh (trR r),Af,Af,Af,Af,Af,Af,Af,Af,Af,Af,Af,Af]:=by
 have it:Ge Γ.up [.tuple] (trR r)=.ok (.bl Aa):=rfl;have ln:biD .len [trR r]=.ok (.int 3):=rfl;have ad:Dp .Add (trR r) (.tup [])=.ok (.tup [.int r.1,.int r.2.1,.int r.2.2]):=rfl;have sz:DL (xs.length+3)=Aa:=E7 (by omega)
 generalize trR r=tr at *;simp[Do,JY,it,ln,ad,sz,Dq]
theorem sY(t:Ad):∀ n:Ag,ddN (E6 (n+1) t)=1:=fun n=>by
 have k:∀ n:Ag,(E6 n t).foldl ddS [t]=[t]:=fun n=>by
  induction n with
  |zero=>rfl
  |succ n ih=>
   rw[W6,WO];have:ddS [t] t=[t]:=by simp[ddS]
   rw[this];exact ih
 unfold ddN;rw[W6,WO];have:ddS [] t=[t]:=by simp[ddS]
 rw[this,k];rfl
noncomputable def hx(p:Ad)(x:R3):Ad:=(x.1*x.2.2-x.2.1*x.2.1)%p
theorem kU(hp:P4 p):((Da p).filter fun x=>decide (hx p x≠0)).length≠0:=by
 rcases hp with rfl|rfl|rfl|rfl<;>decide +kernel
theorem Va(hp:P4 p):(Da p).length<=200:=by
 rcases hp with rfl|rfl|rfl|rfl<;>decide +kernel
noncomputable def up0(p:Ad):Ac Ad:=(Bl p.toNat).map fun(k:Ag)=>(k:Ad)
theorem eF(hp:P4 p):DA 0 p=.ok (ds (up0 p)):=by
 rcases hp with rfl|rfl|rfl|rfl<;>rfl
theorem Vm(hp:P4 p):(up0 p).Nodup/\∀ k,k∈up0 p↔0<=k/\k<p:=by
 have p0:=hp.pos;constructor
 ·rcases hp with rfl|rfl|rfl|rfl<;>decide
 ·intro k;unfold up0;rw[CZ];constructor
  ·rintro⟨n,hn,rfl⟩;rw[List.mem_range]at hn;omega
  ·intro h;exact⟨k.toNat,DQ.mpr (by omega),by omega⟩
theorem lG(hp:P4 p){h:Ad}(hz:h%p≠0)(t0:0<=t)(t1:t<p):(up0 p).filter (fun k=>decide (k*h%p=t*h%p))=[t]:=by
 obtain⟨nd,mm⟩:=Vm hp;refine RQ nd ((mm t).mpr ⟨t0,t1⟩) fun k hk=>?_
 rw[AI];constructor
 ·intro e;obtain⟨k0,k1⟩:=(mm k).mp hk;have d:h*(k-t)%p=0:=by
   have:h*(k-t)=k*h-t*h:=by grind
   rw[this,Jp,e,WF,A7]
  have d2:=(FP hp hz).mp d;have d3:k%p=t%p:=by
   have:=Int.emod_eq_emod_iff_emod_sub_eq_zero.mpr d2;exact this
  rwa [AO k0 k1,AO t0 t1]at d3
 ·rintro rfl;rfl
structure Pt (Γ:Gam) (p:Ad) (cC:D) (m0 m1 m2:R3) (t:Ad) (x:R3):Prop where
 ix:In3 p x
 far:Γ.F 162 [.int p,cC,Bm (At m0 x%p,At m1 x%p,At m2 x%p)]=.ok (.int (t*hx p x%p))
theorem xX(hp:P4 p){m0 m1 m2:R3}(i0:In3 p m0)(i1:In3 p m1)(i2:In3 p m2)(tz:t%p≠0)(t0:0<=t)(t1:t<p){cC:D}(h:Pt Γ p cC m0 m1 m2 t x)(xs:Ac D)(hn:xs.length<=900)(s3 s4 s6 s7 s8 s9 s10 s11 s12:Sl):∃ s6' s7' s8' s9' s10' s11' s12',Do Γ 6 JX (An Aa x) [si p,sh cC,sh (A1 m0 m1 m2),s3,s4,Ab (.lst xs,Aa),s6,s7,s8,s9,s10,s11,s12,Af,Af,Af,Af]=.next [si p,sh cC,sh (A1 m0 m1 m2),s3,s4,Ab (.lst (xs++if hx p x≠0 then [.int t] else []),Aa),s6',s7',s8',s9',s10',s11',s12',Af,Af,Af,Af]:=by
 have p0:=hp.pos;have ph:=hp.hi;obtain⟨ix,far⟩:=h;have bb:∀{u v:Ad},0<=u/\u<p->Ee u v=Aa:=fun hu=>Iz (by omega) (by omega)
 have hh:hx p x=(x.1*x.2.2-x.2.1*x.2.1)%p:=rfl;obtain⟨h0,h1⟩:0<=hx p x/\hx p x<p:=⟨Be _ (by omega),A4 _ p0⟩
 have as:∀ ρ:Rho,G2 [7,8,9] (An Aa x) ρ=.ok (((ρ.set 7 (si x.1)).set 8 (si x.2.1)).set 9 (si x.2.2)):=fun _=>rfl
 have q1:=bb (v:=x.2.2) ix.1;have q2:=bb (v:=x.2.1) ix.2.1;have row:∀ r:R3,In3 p r->cF Γ [si p,sh cC,sh (A1 m0 m1 m2),s3,s4,Ab (.lst xs,Aa),sh (An Aa x),si x.1,si x.2.1,si x.2.2,s10,s11,s12,Af,Af,Af,Af] 15 MD (trR r)=.ok (.int (At r x%p)):=fun r hr=>by
  obtain⟨r0,r1,r2⟩:B7 (trR r) (.int 0)=.ok (.int r.1)/\B7 (trR r) (.int 1)=.ok (.int r.2.1)/\B7 (trR r) (.int 2)=.ok (.int r.2.2):=⟨rfl,rfl,rfl⟩;have k0:=bb (v:=x.1) hr.1;have k1:=bb (v:=x.2.1) hr.2.1;have k2:=bb (v:=x.2.2) hr.2.2;generalize trR r=tr at *;generalize An Aa x=xx at *;unfold At;simp[cF,MD,r0,r1,r2,k0,k1,k2,p0]
 have gg:∀ r,cG Γ [si p,sh cC,sh (A1 m0 m1 m2),s3,s4,Ab (.lst xs,Aa),sh (An Aa x),si x.1,si x.2.1,si x.2.2,s10,s11,s12,Af,Af,Af,Af] 15 CM r=.ok Aa:=fun _=>rfl
 have cp:BP (cG Γ [si p,sh cC,sh (A1 m0 m1 m2),s3,s4,Ab (.lst xs,Aa),sh (An Aa x),si x.1,si x.2.1,si x.2.2,s10,s11,s12,Af,Af,Af,Af] 15 CM) (cF Γ [si p,sh cC,sh (A1 m0 m1 m2),s3,s4,Ab (.lst xs,Aa),sh (An Aa x),si x.1,si x.2.1,si x.2.2,s10,s11,s12,Af,Af,Af,Af] 15 MD) [trR m0,trR m1,trR m2]=.ok [.int (At m0 x%p),.int (At m1 x%p),.int (At m2 x%p)]:=by
  simp[BP,gg,row m0 i0,row m1 i1,row m2 i2]
 have rd:D.lst [.int (At m0 x%p),.int (At m1 x%p),.int (At m2 x%p)]=Bm (At m0 x%p,At m1 x%p,At m2 x%p):=rfl;have sq:CI (A1 m0 m1 m2)=.ok [trR m0,trR m1,trR m2]:=rfl;have cp3:∀ s10:Sl,BP (cG Γ [si p,sh cC,sh (A1 m0 m1 m2),s3,s4,Ab (.lst xs,Aa),sh (An Aa x),si x.1,si x.2.1,si x.2.2,s10,si (hx p x),si (t*hx p x%p),Af,Af,Af,Af] 16 N7) (cF Γ [si p,sh cC,sh (A1 m0 m1 m2),s3,s4,Ab (.lst xs,Aa),sh (An Aa x),si x.1,si x.2.1,si x.2.2,s10,si (hx p x),si (t*hx p x%p),Af,Af,Af,Af] 16 Oa) (ds (up0 p))=.ok (ds ((up0 p).filter fun k=>decide (k*hx p x%p=t*hx p x%p))):=fun s10=>by
  refine MR (up0 p) fun k hk=>⟨?_,?_⟩
  ·have:=bb (v:=hx p x) (((Vm hp).2 k).mp hk);generalize hx p x=H at *;generalize t*H%p=F at *;generalize An Aa x=xx at *;generalize A1 m0 m1 m2=TT at *;simp[cG,N7,this,p0];rw[Cy];simp
  ·simp[cF,Oa]
 have ru:=eF hp;have sz:DL (xs.length+1)=Aa:=E7 (by omega)
 generalize hT:A1 m0 m1 m2=TT at *;generalize hxx:An Aa x=xx at *;by_cases hz:hx p x=0
 ·have fz:t*hx p x%p=0:=by rw[hz,DC,A7]
  rw[fz]at far;rw[hh]at hz;rw[hh,AH (by simp[hz])]
  generalize Bm (At m0 x%p,At m1 x%p,At m2 x%p)=RD at *;refine⟨sh xx,si x.1,si x.2.1,si x.2.2,sh RD,si 0,si 0,?_⟩;simp[Do,JX,as,sq,cp,rd,q1,q2,p0,hz,far]
 ·have hzp:hx p x%p≠0:=by rw[AO h0 h1];exact hz
  have fz:t*hx p x%p≠0:=BO hp tz hzp;have f1:=lG hp hzp t0 t1;rw[AD hz];simp only[f1]at cp3;have g0:DI (ds [t]) 0=.ok (.int t):=rfl;generalize hF:t*hx p x%p=F at *;rw[hh]at hz cp3;generalize hH:(x.1*x.2.2-x.2.1*x.2.1)%p=H at *;generalize hR:Bm (At m0 x%p,At m1 x%p,At m2 x%p)=RD at *;refine⟨sh xx,si x.1,si x.2.1,si x.2.2,sh RD,si H,si F,?_⟩;simp[Do,JX,as,sq,cp,rd,q1,q2,p0,hH,hR,hz,far,fz,ru,cp3,g0,sz,Dq];rw[GL hz,GL fz]
theorem Ua(hp:P4 p){m0 m1 m2:R3}(i0:In3 p m0)(i1:In3 p m1)(i2:In3 p m2){t:Ad}(tz:t%p≠0)(t0:0<=t)(t1:t<p){cC:D}{s3 s4:Sl}:∀(l:Ac R3)(xs:Ac D)(s6 s7 s8 s9 s10 s11 s12:Sl),(∀ x∈l,Pt Γ p cC m0 m1 m2 t x)->xs.length+l.length<=900->∃ s6' s7' s8' s9' s10' s11' s12',DW (Do Γ 6 JX) (l.map (An Aa)) [si p,sh cC,sh (A1 m0 m1 m2),s3,s4,Ab (.lst xs,Aa),s6,s7,s8,s9,s10,s11,s12,Af,Af,Af,Af]=.next [si p,sh cC,sh (A1 m0 m1 m2),s3,s4,Ab (.lst (xs++(l.filter fun x=>decide (hx p x≠0)).map fun _=>.int t),Aa),s6',s7',s8',s9',s10',s11',s12',Af,Af,Af,Af]
 |[],xs,s6,s7,s8,s9,s10,s11,s12,_,_=>⟨s6,s7,s8,s9,s10,s11,s12,by simp[DW]⟩
 |x::l,xs,s6,s7,s8,s9,s10,s11,s12,h,hn=>by
  rw[Cp]at hn;obtain⟨a6,a7,a8,a9,a10,a11,a12,e1⟩:=xX hp i0 i1 i2 tz t0 t1 (h x (AB ..)) xs (by omega) s3 s4 s6 s7 s8 s9 s10 s11 s12
  obtain⟨b6,b7,b8,b9,b10,b11,b12,e2⟩:=Ua hp i0 i1 i2 tz t0 t1 l (xs++if hx p x≠0 then [.int t] else []) a6 a7 a8 a9 a10 a11 a12 (fun y hy=>h y (Av _ hy)) (by
   rw[Cz];split<;>simp<;>omega)
  refine⟨b6,b7,b8,b9,b10,b11,b12,?_⟩;rw[Ch];show (Do Γ 6 JX (An Aa x) _).turn _=_;rw[e1];show DW (Do Γ 6 JX) (l.map (An Aa)) _=_;rw[e2,DO];by_cases hz:hx p x=0
  ·simp[hz]
  ·simp[hz]
theorem Tt:∀ xs:Ac Ad,Ic (ds xs)=Ab xs
 |[]=>rfl
 |x::xs=>by
  show (Ic (ds xs)).map (x :: ·)=_;rw[Tt xs];rfl
def yM(Γ:Gam):Prop:=∀(p:Ad)(C:C6)(m0 m1 m2:R3),GoodR p m0 m1 m2->AY p (nine m0 m1 m2)=Ab 1->InC p C->PrC p (pb C m0 m1 m2) (P0c p)->Γ.F 166 [.int p,Bj C,A1 m0 m1 m2]=.ok (.bl Aa)
theorem vF(ha:Wl Γ)(hv:mW Γ)(hm:Wi Γ){m0 m1 m2:R3}(G:GoodR p m0 m1 m2)(l1:AY p (nine m0 m1 m2)=Ab 1)(iC:InC p C)(pr:PrC p (pb C m0 m1 m2) (P0c p)):Os.run Γ [.int p,Bj C,A1 m0 m1 m2]=.ok (.bl Aa):=by
 have hp:=G.p4;have p0:=hp.pos;have ph:=hp.hi;have it:Ge Γ.up [.tuple] (A1 m0 m1 m2)=.ok (.bl Aa):=rfl;have ln:biD .len [A1 m0 m1 m2]=.ok (.int 3):=rfl;have sq:CI (A1 m0 m1 m2)=.ok [trR m0,trR m1,trR m2]:=rfl;have x0:B7 (A1 m0 m1 m2) (.int 0)=.ok (An Aa m0):=rfl;have x1:B7 (A1 m0 m1 m2) (.int 1)=.ok (An Aa m1):=rfl;have x2:B7 (A1 m0 m1 m2) (.int 2)=.ok (An Aa m2):=rfl;have lp:DW (Do Γ 4 JY) [trR m0,trR m1,trR m2] [si p,sh (Bj C),sh (A1 m0 m1 m2),Ab (.lst [],Aa),Af,Af,Af,Af,Af,Af,Af,Af,Af,Af,Af,Af,Af]=.next [si p,sh (Bj C),sh (A1 m0 m1 m2),Ab (.lst (ds (nine m0 m1 m2)),Aa),sh (trR m2),Af,Af,Af,Af,Af,Af,Af,Af,Af,Af,Af,Af]:=by
  have a1:=P8 (Γ:=Γ) (p:=p) m0 [] (Bj C) (A1 m0 m1 m2) Af (by simp)
  have a2:=P8 (Γ:=Γ) (p:=p) m1 ([]++[.int m0.1,.int m0.2.1,.int m0.2.2]) (Bj C) (A1 m0 m1 m2) (sh (trR m0)) (by simp)
  have a3:=P8 (Γ:=Γ) (p:=p) m2 (([]++[.int m0.1,.int m0.2.1,.int m0.2.2])++[.int m1.1,.int m1.2.1,.int m1.2.2]) (Bj C) (A1 m0 m1 m2) (sh (trR m1)) (by simp)
  show (Do Γ 4 JY (trR m0) _).turn _=_;rw[a1,O1];show (Do Γ 4 JY (trR m1) _).turn _=_;rw[a2,O1];show (Do Γ 4 JY (trR m2) _).turn _=_;rw[a3,O1];rfl
 have i9:∀ v∈nine m0 m1 m2,0<=v/\v<p:=by
  intro x hx;unfold nine at hx;simp at hx;rcases hx with rfl|rfl|rfl|rfl|rfl|rfl|rfl|rfl|rfl
  ·exact G.ia.1
  ·exact G.ia.2.1
  ·exact G.ia.2.2
  ·exact G.ib.1
  ·exact G.ib.2.1
  ·exact G.ib.2.2
  ·exact G.ic.1
  ·exact G.ic.2.1
  ·exact G.ic.2.2
 have l0:((nine m0 m1 m2).filter fun v=>decide (v≠0)).head?=Ab 1:=by
  rw[<-l1,Tp _ i9]
  congr 1
  refine FY fun v hv=>?_
  have:=i9 v hv;rw[EI];omega
 have e1:=hm p m0 m1 m2 hp G.ia G.ib G.ic;have nz:¬ Aj m0 m1 m2%p=0:=G.nz
 -- the factor
 obtain⟨d,dz,e⟩:=pr;have e2:=ha p hp;have key:∀ x:R3,vI C (ap m0 m1 m2 x)%p=(-d)%p*hx p x%p:=fun x=>by
  rw[<-NB];have q:=(Jk e (CgR.rfl (a:=x))).trans (Cg.of (KW d _ x));rw[show vI (pb C m0 m1 m2) x%p=_ from q]
  have v0:vI (P0c p) x=p*(x.1*x.2.2)-(x.1*x.2.2-x.2.1*x.2.1):=by
   unfold vI P0c;simp only;grind
  have g:Cg p (d*vI (P0c p) x) ((-d)%p*hx p x):=by
   have g1:Cg p ((-d)%p*hx p x) ((-d)*(x.1*x.2.2-x.2.1*x.2.1)):=Cg.mul (Cg.md rfl) (Cg.md rfl);refine Cg.trans ?_ g1.symm;rw[v0];show (d*(p*(x.1*x.2.2)-(x.1*x.2.2-x.2.1*x.2.1)))%p=(-d*(x.1*x.2.2-x.2.1*x.2.1))%p;have:d*(p*(x.1*x.2.2)-(x.1*x.2.2-x.2.1*x.2.1))=-d*(x.1*x.2.2-x.2.1*x.2.1)+p*(d*(x.1*x.2.2)):=by grind
   rw[this,Fp]
  exact g
 have t0:0<=(-d)%p:=Be _ (by omega)
 have t1:(-d)%p<p:=A4 _ p0;have tz:(-d)%p%p≠0:=by
  rw[AV _ (By p)];intro z;exact dz (WB (Wz.mp (WA z)))
 generalize (-d)%p=t at *;have pts:∀ x∈Da p,Pt Γ p (Bj C) m0 m1 m2 t x:=fun x hx=>by
  have nx:=(EN hp).mp hx;have rng:∀ v:Ad,0<=v%p/\v%p<p:=fun v=>⟨Be _ (by omega),A4 _ p0⟩
  have f:=hv p Ae C (At m0 x%p,At m1 x%p,At m2 x%p) hp iC ⟨rng _,rng _,rng _⟩;have c:Cg p (vI C (At m0 x%p,At m1 x%p,At m2 x%p)) (vI C (ap m0 m1 m2 x)):=Jk (CgC.of rfl) ⟨Cg.md rfl,Cg.md rfl,Cg.md rfl⟩;rw[show vI C (At m0 x%p,At m1 x%p,At m2 x%p)%p=_ from c,key x]at f
  exact⟨nx.1,f⟩
 obtain⟨s6,s7,s8,s9,s10,s11,s12,lp2⟩:=Ua hp G.ia G.ib G.ic tz t0 t1 (s3:=sh (.lst (ds (nine m0 m1 m2)))) (s4:=sh (trR m2)) (Da p) [] Af Af Af Af Af Af Af pts (by have:=Va hp;simp;omega)
 have fin:K6 ([]++((Da p).filter fun x=>decide (hx p x≠0)).map fun _=>.int t)=.ok (.int 1):=by
  have hs:=kU hp;have hl:((Da p).filter fun x=>decide (hx p x≠0)).length<=200:=BD (List.length_filter_le _ _) (Va hp)
  generalize ((Da p).filter fun x=>decide (hx p x≠0))=L at *
  have em:([]++L.map fun _=>D.int t)=ds (E6 L.length t):=by
   rw[List.nil_append]
   clear hs hl lp2
   induction L with
   |nil=>rfl
   |cons y L ih=>
    rw[Ch,ih];rfl
  rw[em];unfold K6;rw[Tt];show (if Ey (E6 L.length t).length 4000=Aa then _ else _)=_
  rw[Gk,AD (E7 (by omega))]
  obtain⟨n,hn⟩:=Nat.exists_eq_succ_of_ne_zero hs;rw[hn,sY];rfl
 have c1:BP (cG Γ [si p,sh (Bj C),sh (A1 m0 m1 m2),sh (.lst (ds (nine m0 m1 m2))),sh (trR m2),Af,Af,Af,Af,Af,Af,Af,Af,Af,Af,Af,Af] 13 CM) (cF Γ [si p,sh (Bj C),sh (A1 m0 m1 m2),sh (.lst (ds (nine m0 m1 m2))),sh (trR m2),Af,Af,Af,Af,Af,Af,Af,Af,Af,Af,Af,Af] 13 Oc) (ds (nine m0 m1 m2))=.ok ((nine m0 m1 m2).map fun _=>D.bl Aa):=by
  refine UL _ fun x hm=>⟨rfl,?_⟩
  obtain⟨h0,h1⟩:=i9 x hm;simp[cF,Oc,kiD,FS,h0,h1]
 have c2:BP (cG Γ [si p,sh (Bj C),sh (A1 m0 m1 m2),sh (.lst (ds (nine m0 m1 m2))),sh (trR m2),Af,Af,Af,Af,Af,Af,Af,Af,Af,Af,Af,Af] 14 N8) (cF Γ [si p,sh (Bj C),sh (A1 m0 m1 m2),sh (.lst (ds (nine m0 m1 m2))),sh (trR m2),Af,Af,Af,Af,Af,Af,Af,Af,Af,Af,Af,Af] 14 Ob) (ds (nine m0 m1 m2))=.ok (ds ((nine m0 m1 m2).filter fun v=>decide (v≠0))):=by
  refine MR _ fun x hm=>⟨?_,?_⟩
  ·simp[cG,N8];rw[Cy];simp
  ·simp[cF,Ob]
 have g1:=OO l0;have sa:CI (Cd (Da p))=.ok ((Da p).map (An Aa)):=rfl;have at':=TW (nine m0 m1 m2);generalize (nine m0 m1 m2).map (fun _=>D.bl Aa)=BL at *
 generalize ds ((nine m0 m1 m2).filter fun v=>decide (v≠0))=FL at *
 generalize ds (nine m0 m1 m2)=N9 at *;generalize ([]++((Da p).filter fun x=>decide (hx p x≠0)).map fun _=>D.int t)=XL at *
 generalize (Da p).map (An Aa)=AL at *;generalize Cd (Da p)=AA at *;generalize A1 m0 m1 m2=TT at *;generalize trR m0=r0 at *;generalize trR m1=r1 at *;generalize trR m2=r2 at *;generalize An Aa m0=q0 at *;generalize An Aa m1=q1 at *;generalize An Aa m2=q2 at *;generalize Bj C=cC at *;generalize Aj m0 m1 m2%p=dd at *;have rl1:evS Γ [si p,sh cC,sh TT,Ab (.lst N9,Aa),sh r2,Af,Af,Af,Af,Af,Af,Af,Af,Af,Af,Af,Af] (.rel 3)=.next [si p,sh cC,sh TT,sh (.lst N9),sh r2,Af,Af,Af,Af,Af,Af,Af,Af,Af,Af,Af,Af]:=rfl;have rl2:evS Γ [si p,sh cC,sh TT,sh (.lst N9),sh r2,Af,Af,Af,Af,Af,Af,Af,Af,Af,Af,Af,Af] (.rel 3)=.next [si p,sh cC,sh TT,sh (.lst N9),sh r2,Af,Af,Af,Af,Af,Af,Af,Af,Af,Af,Af,Af]:=rfl;simp[Os,Df.run,BB,Fn,rl1,rl2,it,ln,sq,lp,c1,at',x0,x1,x2,e1,nz,c2,g1,e2,sa,lp2,fin]
end
section
variable{Γ:Gam}{p k:Ad}{C D:C6}{a b c m0 m1 m2 l x:R3}
end
section
variable{Γ:Gam}{p:Ad}{ns:Ac Ad}
theorem yQ(s:Al)(ys:Ac R3):flD 5 (.tup (.str s::ys.map (An Aa)))=Aa/\eqD (.tup (.str s::ys.map (An Aa))) (.tup (.str s::ys.map (An Aa)))=Aa:=by
 constructor
 ·have:flD 5 (.tup (.str s::ys.map (An Aa)))=(.str s::ys.map (An Aa)).all (flD 4):=rfl;rw[this];simp;exact fun _ _ _ _=>rfl
 ·show (eqD (.str s) (.str s)&&eqDs (ys.map (An Aa)) (ys.map (An Aa)))=Aa;have e1:eqD (.str s) (.str s)=Aa:=DX s;rw[e1,Bool.true_and]
  induction ys with
  |nil=>rfl
  |cons y ys ih=>
   show (eqD (An Aa y) (An Aa y)&&eqDs (ys.map (An Aa)) (ys.map (An Aa)))=Aa;rw[(Qs y).2,ih];rfl
end
theorem bS(h:VA Γ)(hp:P4 p):Oo.run Γ [.int p]=.ok (.tup (ds [0,1,0,0,p-1,0])):=by
 have l:AY p [0,1,0,0,-1,0]=Ab 1:=by rcases hp with rfl|rfl|rfl|rfl<;>rfl
 have it:D8 p 1 1:=by rcases hp with rfl|rfl|rfl|rfl<;>exact⟨by decide,by decide,by decide⟩
 have f:=h p Aa [0,1,0,0,-1,0] 1 1 hp l it;have e:fmI p 1 [0,1,0,0,-1,0]=[0,1,0,0,p-1,0]:=by rcases hp with rfl|rfl|rfl|rfl<;>rfl
 rw[e]at f;have f':Γ.F 122 [.int p,.tup [.int 0,.int 1,.int 0,.int 0,.int (-1),.int 0]]=.ok (.tup (ds [0,1,0,0,p-1,0])):=f;simp[Oo,Df.run,BB,f']
noncomputable def JW:Df:=⟨5,Ae,(.cons (.asg 3 Ae (.call 158 (.cons (.var 0) (.cons (.idx (.var 1) (.int 0)) .nil)))) (.cons (.asg 4 Ae (.call 158 (.cons (.var 0) (.cons (.idx (.var 1) (.int 1)) .nil)))) (.cons (.ife (.cmp .Eq (.var 2) (.int 1)) (.cons (.ret (.tup (.cons (.str (AK "twice")) (.cons (.var 3) .nil)))) .nil) .nil) (.cons (.ife (.cmp .Eq (.var 2) (.int 2)) (.cons (.ret (.tup (.cons (.str (AK "lines")) (.cons (.bi .tmin (.cons (.var 3) (.cons (.var 4) .nil))) (.cons (.bi .tmax (.cons (.var 3) (.cons (.var 4) .nil))) .nil))))) .nil) .nil) (.cons (.ret (.tup (.cons (.str (AK "point")) (.cons (.call 158 (.cons (.var 0) (.cons (.call 161 (.cons (.idx (.var 1) (.int 0)) (.cons (.idx (.var 1) (.int 1)) .nil))) .nil))) .nil)))) .nil)))))⟩
noncomputable def LX:Df:=⟨6,Ae,(.cons (.asg 1 Ae (.call 156 (.cons (.var 0) .nil))) (.cons (.asg 2 Ae (.call 159 (.cons (.var 1) (.cons (.var 0) (.cons (.int 1) .nil))))) (.cons (.asg 3 Ae (.bin .Mod (.bin .FloorDiv (.call 155 (.cons (.var 0) (.cons (.int 10) .nil))) (.int 7)) (.int 4))) (.cons (.asg 4 Ae (.call 163 (.cons (.var 1) (.cons (.var 2) (.cons (.var 3) .nil))))) (.cons (.asg 5 Ae (.call 154 (.cons (.var 1) (.cons (.var 4) .nil)))) (.cons (.ife (.or (.cons (.no (.isi (.var 5) [.tuple])) (.cons (.cmp .NotEq (.call 154 (.cons (.var 1) (.cons (.var 4) .nil))) (.var 5)) .nil))) (.cons (.ret (.bl Ae)) .nil) .nil) (.cons (.ife (.cmp .Gt (.var 3) (.int 0)) (.cons (.ret (.cmp .Eq (.var 5) (.call 167 (.cons (.var 1) (.cons (.var 2) (.cons (.var 3) .nil)))))) .nil) .nil) (.cons (.ret (.and (.cons (.cmp .Eq (.bi .len (.cons (.var 5) .nil)) (.int 2)) (.cons (.cmp .Eq (.idx (.var 5) (.int 0)) (.str (AK "whole"))) (.cons (.call 166 (.cons (.var 1) (.cons (.var 4) (.cons (.idx (.var 5) (.int 1)) .nil)))) .nil))))) .nil))))))))⟩
section
variable{Γ:Gam}{p:Ad}{ns:Ac Ad}
def Vz(Γ:Gam):Prop:=∀(p:Ad)(a b:R3),P4 p->In3 p a->In3 p b->Γ.F 161 [Bm a,Bm b]=.ok (Bm (crs a b))
theorem mY(Γ:Gam)(p:Ad)(a b:R3)(hp:P4 p)(ia:In3 p a)(ib:In3 p b):LO.run Γ [Bm a,Bm b]=.ok (Bm (crs a b)):=by
 have ba:=Cn hp ia;have bb:=Cn hp ib;have k:∀ {u v},Bd 10 u->Bd 10 v->Fl u v=Aa:=fun hu hv=>G0 hu hv (by decide) (by decide)
 obtain⟨a0,a1,a2⟩:=a;obtain⟨b0,b1,b2⟩:=b;have ea:∀(x y z:Ad)(i j k:Ag)(ρ:Rho),G2 [i,j,k] (Bm (x,y,z)) ρ=.ok (((ρ.set i (si x)).set j (si y)).set k (si z)):=fun _ _ _ _ _ _ _=>rfl
 simp[LO,Df.run,BB,ea,k ba.2.1 bb.2.2,k ba.2.2 bb.2.1,k ba.2.2 bb.1,k ba.1 bb.2.2,k ba.1 bb.2.1,k ba.2.1 bb.1];rfl
theorem Pc(hf:Nf Γ)(hp:P4 p){s:R3}(h:At r s%p≠0):Γ.F 158 [.int p,Bm r]=.ok (An Aa (nrm p r)):=by
 obtain⟨l,el⟩:=Pz h;obtain⟨n1,n2⟩:=M3 hp el;obtain⟨u,iu,j,l1,pr,ef⟩:=M0 hp el;have e3:=hf p Ae _ l u hp el iu;rw[ef]at e3;have q:fmR p u r=nrm p r:=KZ hp ⟨j,l1⟩ n1 (pr.trans hp (n2.symm hp));rw[q]at e3;exact e3
theorem iF{L1 L2:R3}(h:BG (tri L1) (tri L2)=Aa):mmD Ae (An Aa L1) (An Aa L2)=.ok (An Aa L1)/\mmD Aa (An Aa L1) (An Aa L2)=.ok (An Aa L2)/\mmD Ae (An Aa L2) (An Aa L1)=.ok (An Aa L1)/\mmD Aa (An Aa L2) (An Aa L1)=.ok (An Aa L2):=by
 have h':=L4 h;have k:∀ x y:R3,([An Aa x,An Aa y].all fun d=>rkD 1 d && !eqD d (.tup []))=Aa:=fun x y=>by
  rw[Nk,Nk];exact Qe (rs:=[tri x,tri y]) (by intro r hr;simp at hr;rcases hr with rfl|rfl<;>simp[tri])
 unfold mmD;rw[k,k];simp only[Nk,No,h,h',HE,EV,Gi];exact⟨trivial,trivial,trivial,trivial⟩
structure S_due (Γ:Gam) (p:Ad) (a b c:R3):Prop where
 d1:Γ.F 167 [.int p,Fd a b c,.int 1]=.ok (.tup [.str (AK "twice"),An Aa (nrm p a)])
 d2:∀ L1 L2,((L1=nrm p a/\L2=nrm p b)\/(L1=nrm p b/\L2=nrm p a))->BG (tri L1) (tri L2)=Aa->Γ.F 167 [.int p,Fd a b c,.int 2]=.ok (.tup [.str (AK "lines"),An Aa L1,An Aa L2])
 d3:Γ.F 167 [.int p,Fd a b c,.int 3]=.ok (.tup [.str (AK "point"),An Aa (nrm p (crs a b))])
theorem vJ(hf:Nf Γ)(hc:Vz Γ){a b c:R3}(g:GoodR p a b c):
  JW.run Γ [.int p,Fd a b c,.int 1]=.ok (.tup [.str (AK "twice"),An Aa (nrm p a)]) /\
  (∀ L1 L2,((L1=nrm p a/\L2=nrm p b)\/(L1=nrm p b/\L2=nrm p a))->BG (tri L1) (tri L2)=Aa->JW.run Γ [.int p,Fd a b c,.int 2]=.ok (.tup [.str (AK "lines"),An Aa L1,An Aa L2])) /\
  JW.run Γ [.int p,Fd a b c,.int 3]=.ok (.tup [.str (AK "point"),An Aa (nrm p (crs a b))]):=by
 have hp:=g.p4;have ea:=Pc hf hp (r:=a) (s:=crs b c) (by rw[V8];exact g.nz)
 have eb:=Pc hf hp (r:=b) (s:=crs c a) (by rw[yT];exact g.nz)
 have ex:=Pc hf hp (r:=crs a b) (s:=c) (by rw[Nd];exact g.nz)
 have ec:=hc p a b hp g.ia g.ib;have x0:B7 (Fd a b c) (.int 0)=.ok (Bm a):=rfl;have x1:B7 (Fd a b c) (.int 1)=.ok (Bm b):=rfl;refine⟨?_,fun L1 L2 hL hx=>?_,?_⟩
 ·generalize An Aa (nrm p a)=A at *;generalize An Aa (nrm p b)=B at *;generalize Fd a b c=R at *;generalize Bm a=ra at *;generalize Bm b=rb at *;simp[JW,Df.run,BB,x0,x1,ea,eb]
 ·obtain⟨m1,m2,m3,m4⟩:=iF hx;rcases hL with ⟨rfl,rfl⟩|⟨rfl,rfl⟩
  all_goals
   generalize An Aa (nrm p a)=A at *;generalize An Aa (nrm p b)=B at *;generalize Fd a b c=R at *;generalize Bm a=ra at *;generalize Bm b=rb at *;simp[JW,Df.run,BB,x0,x1,ea,eb,m1,m2,m3,m4]
 ·generalize An Aa (nrm p a)=A at *;generalize An Aa (nrm p b)=B at *;generalize An Aa (nrm p (crs a b))=X at *;generalize Fd a b c=R at *;generalize Bm a=ra at *;generalize Bm b=rb at *;generalize Bm (crs a b)=rx at *;simp[JW,Df.run,BB,x0,x1,ea,eb,ec,ex]
structure H41 (Γ:Gam) (ns:Ac Ad):Prop where
 prime:dY Γ 156 ns
 mix:Mj Γ 155 ns
 tbl:yK Γ 159 ns
 cv:yN Γ
 kd:Kd Γ
 md:yM Γ
 du:∀(p:Ad)(a b c:R3),GoodR p a b c->S_due Γ p a b c
theorem QI{w:Ad}(hw:w=1\/w=2\/w=3){m:Ad}{s:Al}{X:Ac R3}{R cC S:D}(e1:Γ.F 156 [S]=.ok (.int p))(e2:Γ.F 155 [S,.int 10]=.ok (.int m))(ew:m / 7%4=w)(e3:Γ.F 159 [.int p,S,.int 1]=.ok R)(e4:Γ.F 163 [.int p,R,.int w]=.ok cC)(k:Γ.F 154 [.int p,cC]=.ok (.tup (.str s::X.map (An Aa))))(d:Γ.F 167 [.int p,R,.int w]=.ok (.tup (.str s::X.map (An Aa)))):LX.run Γ [S]=.ok (.bl Aa):=by
 obtain⟨q1,q2⟩:=yQ s X;have it:Ge Γ.up [.tuple] (.tup (.str s::X.map (An Aa)))=.ok (.bl Aa):=rfl;have w0:0<w:=by omega
 generalize D.tup (.str s::X.map (An Aa))=F at *;simp[LX,Df.run,BB,e1,e2,ew,e3,e4,k,it,q1,q2,w0,d]
theorem sQ(h:H41 Γ ns):LX.run Γ [scr ns]=.ok (.bl Aa):=by
 obtain⟨p,hp,e1⟩:=h.prime;obtain⟨m,m0,e2⟩:=h.mix 10 (by decide)
 have hw:∃ w:Ag,W4 w/\m / 7%4=(w:Ad):=by
  have:m / 7%4=0\/m / 7%4=1\/m / 7%4=2\/m / 7%4=3:=by omega
  rcases this with e|e|e|e
  ·exact⟨0,.inl rfl,e⟩
  ·exact⟨1,.inr (.inl rfl),e⟩
  ·exact⟨2,.inr (.inr (.inl rfl)),e⟩
  ·exact⟨3,.inr (.inr (.inr rfl)),e⟩
 obtain⟨w,hw,ew⟩:=hw;obtain⟨a,b,c,g,e3⟩:=h.tbl p hp;obtain⟨C,iC,lC,pC,e4⟩:=h.cv p a b c w g hw;obtain⟨d1,d2,d3⟩:=h.du p a b c g;have it:∀ xs,Ge Γ.up [.tuple] (.tup xs)=.ok (.bl Aa):=fun _=>rfl
 have fs:∀ z:Al,flD 5 (.str z)=Aa:=fun _=>rfl
 have es:∀ z:Al,eqD (.str z) (.str z)=Aa:=fun z=>DX z
 rcases hw with rfl|rfl|rfl|rfl
 ·obtain⟨x0,x1,x2,Gx,lx,px,k⟩:=h.kd.k0 p C a b c hp iC g.nz pC;have md:=h.md p C x0 x1 x2 Gx lx iC px;change Γ.F 163 [.int p,Fd a b c,.int 0]=_ at e4;change m / 7%4=0 at ew;obtain⟨f1,f2⟩:flD 5 (.tup [.str (AK "whole"),A1 x0 x1 x2])=Aa/\eqD (.tup [.str (AK "whole"),A1 x0 x1 x2]) (.tup [.str (AK "whole"),A1 x0 x1 x2])=Aa:=by
   constructor
   ·rfl
   ·show (eqD (.str (AK "whole")) (.str (AK "whole"))&&(eqD (A1 x0 x1 x2) (A1 x0 x1 x2)&&Aa))=Aa;rw[es,(sP x0 x1 x2).2];rfl
  have i0:B7 (.tup [.str (AK "whole"),A1 x0 x1 x2]) (.int 0)=.ok (.str (AK "whole")):=rfl;have i1:B7 (.tup [.str (AK "whole"),A1 x0 x1 x2]) (.int 1)=.ok (A1 x0 x1 x2):=rfl;have ln:biD .len [.tup [.str (AK "whole"),A1 x0 x1 x2]]=.ok (.int 2):=rfl;have it:=it [.str (AK "whole"),A1 x0 x1 x2];generalize D.tup [.str (AK "whole"),A1 x0 x1 x2]=F at *;generalize A1 x0 x1 x2=T at *;generalize Fd a b c=R at *;generalize Bj C=cC at *;generalize scr ns=S at *;simp[LX,Df.run,BB,e1,e2,ew,e3,e4,k,it,f1,f2,ln,i0,i1,fs,es,md]
 ·have k:=h.kd.k1 p C a b c hp iC g.nz pC;exact QI (w:=1) (.inl rfl) (s:=AK "twice") (X:=[nrm p a]) e1 e2 ew e3 e4 k d1
 ·obtain⟨L1,L2,hL,lx,k⟩:=h.kd.k2 p C a b c hp iC g.nz pC;exact QI (w:=2) (.inr (.inl rfl)) (s:=AK "lines") (X:=[L1,L2]) e1 e2 ew e3 e4 k (d2 L1 L2 hL lx)
 ·have k:=h.kd.k3 p C a b c hp iC g.nz pC;exact QI (w:=3) (.inr (.inr rfl)) (s:=AK "point") (X:=[nrm p (crs a b)]) e1 e2 ew e3 e4 k d3
end
noncomputable def YA:Ag->Ac Ag:=fun _=>[]
noncomputable def Yz:Ag->Ac D->R Ex:=fun _ _=>.bad
noncomputable def Q41:Prg:=⟨Aa,fun
 |1=>Qk
 |9=>MJ
 |17=>MM
 |23=>OY
 |24=>Qm
 |56=>Q6
 |57=>Qn
 |61=>OX
 |65=>LJ
 |109=>MI
 |69=>OV
 |104=>OZ
 |91=>OW
 |78=>OG
 |98=>NZ
 |92=>QL
 |105=>PM
 |106=>Ol
 |122=>OH
 |123=>Oo
 |126=>PK
 |128=>MT
 |131=>Om
 |136=>LM
 |110=>Pe
 |111=>Ou
 |112=>LQ
 |147=>OM
 |148=>On
 |149=>Ql
 |150=>MN
 |151=>MG
 |152=>OI
 |153=>MS
 |154=>Jg
 |155=>MH
 |156=>QY 155
 |157=>LN
 |158=>Ot
 |159=>QP 155
 |160=>N5
 |161=>LO
 |162=>NY
 |163=>KF
 |164=>MF
 |165=>N6
 |166=>Os
 |167=>JW
 |168=>LX
 | _=>⟨0,Ae,.nil⟩,fun _=>.non,YA,Yz⟩
theorem yC(ns:Ac Ad)(hl:ns.length<=63):(gam Q41 10).F 168 [scr ns]=.ok (.bl Aa):=by
 have rs:∀ n,IC (gam Q41 (n+1)):=fun n p m hp=>Co (oD _ p m hp)
 have mi:∀ n,Mj (gam Q41 (n+1)) 155 ns:=fun n k hk=>let ⟨m,m0,e⟩:=oJ _ ns k hk;⟨m,m0,Co e⟩
 have tu:∀ n,O0 (gam Q41 (n+2)):=fun n p m hp z=>let ⟨t,t1,t2,t3,e⟩:=aO (rs n) p m hp z;⟨t,t1,t2,t3,Co e⟩
 have fo:∀ n,L7 (gam Q41 (n+3)):=fun n p b xs l t hp e it=>Co (iL (rs (n+1)) (tu n) hp e it)
 have me:∀ n,KU (gam Q41 (n+2)):=fun n p q a b c hp ha hb hc=>Co (iJ (rs n) p q a b c hp ha hb hc)
 have tf:∀ n,Mi (gam Q41 (n+4)):=fun n p t q a b c hp ha hb hc z l u e it=>Co (oB (me (n+1)) (fo n) p t q a b c hp ha hb hc z l u e it)
 have co:∀ n,Nv (gam Q41 (n+1)):=fun n t q a b c=>Co (nC _ t q a b c)
 have su:∀ n,Nu (gam Q41 (n+2)):=fun n p t q q' a b c x hp ha hb hc hx=>Co (oC (rs n) p t q q' a b c x hp ha hb hc hx)
 have cr:∀ n,UA (gam Q41 (n+2)):=fun n a b c ha hb hc n1 n2 n3=>Co (iP (fun a b ha hb ne=>Co (Um _ a b ha hb ne)) a b c ha hb hc n1 n2 n3)
 have ba:∀ n,Qi (gam Q41 (n+5)):=fun n p a b c hp ha hb hc z l u e it=>Co (nF (cr (n+2)) (co (n+3)) (tf n) p a b c hp ha hb hc z l u e it)
 have af:∀ n,Uq (gam Q41 (n+5)):=fun n p x y z a b c hp hx hy hz ha hb hc nz l u e it=>Co (iR (co (n+3)) (su (n+2)) (tf n) p x y z a b c hp hx hy hz ha hb hc nz l u e it)
 have ft:∀ n,Ra (gam Q41 (n+5)):=fun n p a b c d hp ha hb hc hd z l u e it=>Co (Ze (me (n+2)) (fun k a h0 h1=>Co (bQ _ k a h0 h1)) (co (n+3)) (tf n) p a b c d hp ha hb hc hd z l u e it)
 have fi:∀ n,TY (gam Q41 (n+3)):=fun n p a b c d hp ha hb hc hd h=>by
  have e:=iO (me n) p a b c d hp ha hb hc hd h;generalize Du a b c d=F at e ⊢;show ES Aa (LJ.run (gam Q41 (n+2)) [.int p,F])=.ok .non;rw[e];rfl
 have ask:∀ n,Wk (gam Q41 (n+4)):=fun n p a b c d hp ha hb hc hd h=>by
  have e:=vL (fi n) p a b c d hp ha hb hc hd h;generalize Du a b c d=F at e ⊢;show ES Aa (MI.run (gam Q41 (n+3)) [.int p,F])=.ok .non;rw[e];rfl
 have mv:∀ n,Uy (gam Q41 (n+6)):=fun n {p a b c f0 f1 f2 f3 g0 g1 g2 g3} gT l1 fr fr' L=>by
  obtain⟨⟨d0,n0,h0⟩,⟨d1,n1,h1⟩,⟨d2,n2,h2⟩,⟨d3,n3,h3⟩⟩:=L;have e:=iI (ask (n+1)) (ft n) (ba n) (af n) gT.p4 gT.ia gT.ib gT.ic gT.nz l1 fr.i0 fr.i1 fr.i2 fr.i3 fr.gen fr'.i0 fr'.i1 fr'.i2 fr'.i3 n0 n1 n2 n3 h0 h1 h2 h3;generalize Du f0 f1 f2 f3=F at e ⊢;generalize Du g0 g1 g2 g3=G at e ⊢;generalize A1 a b c=T at e ⊢;show ES Aa (LQ.run (gam Q41 (n+5)) [.int p,F,G])=.ok T;rw[e];rfl
 have tw:∀ n,Ma (gam Q41 (n+2)):=fun n p C hp=>Co (eH (rs n) p C hp)
 have wh:∀ n,TX (gam Q41 (n+3)):=fun n p C hp iC z=>Co (bP (tw n) (me n) p C hp iC z)
 have aw:∀ n,Qj (gam Q41 (n+4)):=fun n p C hp iC z=>Co (nG (wh n) p C hp iC z)
 have pt:∀ n,Vw (gam Q41 (n+5)):=fun n p C hp iC z=>let ⟨a,b,c,h,e⟩:=oE (aw n) (tw (n+2)) (tf n) p C hp iC z;⟨a,b,c,h,Co e⟩
 have ld:∀ n,Vy (gam Q41 (n+4)):=fun n p a b c f g i l=>let ⟨y,h1,h2,h3,e⟩:=mX (su (n+1)) (fo n) p a b c f g i l;⟨y,h1,h2,h3,Co e⟩
 have pl:∀ n,PU (gam Q41 (n+6)):=fun n=>vZ fun p C x hp iC z ix lx=>let ⟨y,h1,h2,h3,e⟩:=oG (pt n) (ba n) (ld (n+1)) p C x hp iC z ix lx;⟨y,h1,h2,h3,Co e⟩
 have jo:∀ n,J6 (gam Q41 (n+4)):=fun n p a b hp ia ib la lb ne=>let ⟨y,h1,h2,h3,e⟩:=mZ (fun a b ha hb ne=>Co (Um _ a b ha hb ne)) (fo n) p a b hp ia ib la lb ne;⟨y,h1,h2,h3,Co e⟩
 have va:∀ n,Uw (gam Q41 (n+2)):=fun n p C x hp iC ix=>Co (eG (rs n) p C x hp iC ix)
 have tr:∀ n,Wh (gam Q41 (n+1)):=fun n p hp=>by
  have e:=xI (gam Q41 n) p hp;show ES Aa (OV.run (gam Q41 n) [.int p])=_;rw[e];rfl
 have po:∀ n,PR (gam Q41 (n+3)):=fun n p C hp iC=>by
  have e:=eI (tr (n+1)) (va n) p C hp iC;show ES Aa (MT.run (gam Q41 (n+2)) [.int p,Bj C])=_;rw[e];rfl
 have fr:∀ n,Uz (gam Q41 (n+7)):=fun n p C A B P U rest hp iC w h=>by
  have e:=iN (jo (n+2)) (pl n) p C A B P U rest hp iC w h;generalize Du A B P U=F at e ⊢;generalize Cd [A,B,U]=G at e ⊢;show ES Aa (MN.run (gam Q41 (n+6)) [.int p,Bj C,G])=_;rw[e];rfl
 have cf:∀ n,VA (gam Q41 (n+4)):=fun n p b xs l t hp e it=>Co (nE (rs (n+2)) (fo n) hp e it)
 have f3:∀ n,Nf (gam Q41 (n+1)):=fun n p b xs l t hp e it=>Co (iM _ hp e it)
 have lc:∀ n,Wj (gam Q41 (n+1)):=fun n p a b hp ia ib=>Co (vH _ p a b hp ia ib)
 have lm:∀ n,Wi (gam Q41 (n+2)):=fun n p a b c hp ia ib ic=>Co (vG (lc n) p a b c hp ia ib ic)
 have al:∀ n,Wl (gam Q41 (n+2)):=fun n p hp=>by
  have e:=vM (Γ:=gam Q41 (n+1)) (fun p n hp h0 h1=>Co (xK _ p n hp h0 h1)) p hp
  show ES Aa (MF.run (gam Q41 (n+1)) [.int p])=_;rw[e];rfl
 have whD:∀ n,Wf (gam Q41 (n+3)):=fun n p C hp iC=>Co (xG (tw n) (me n) p C hp iC)
 have on:∀ n,Vx (gam Q41 (n+3)):=fun n p x y hp ix iy=>Co (oH (fun p x y hp ix iy=>Co (oK (rs n) p x y hp ix iy)) p x y hp ix iy)
 have cx:∀ n,Sq (gam Q41 (n+3)):=fun n p C a b c hp iC z h=>Co (Z5 (su n) (tw n) hp iC z h)
 have to:∀ n,Wg (gam Q41 (n+5)):=fun n p C a b c hp iC z h=>by
  obtain⟨L1,L2,h1,h2,e⟩:=xH (jo n) (cx (n+1)) (on (n+1)) hp iC z h;refine⟨L1,L2,h1,h2,?_⟩;show ES Aa (MS.run (gam Q41 (n+4)) [.int p,Bj C,Cd (Bh p C)])=_;rw[e];rfl
 have pn:∀ n,Ux (gam Q41 (n+5)):=fun n p hp=>Co (bS (cf n) hp)
 have cm:Up (gam Q41 8):=fun p C E a b c A B P U A' B' P' U' rest rest' T l1 iC wC iE wE fC fE L=>by
  have e:=iQ (aw 3) (po 4) (fr 0) (mv 1) p C E a b c A B P U A' B' P' U' rest rest' T l1 iC wC iE wE fC fE L;generalize A1 a b c=F at e ⊢;show ES Aa (MG.run (gam Q41 7) [.int p,Bj C,Bj E])=_;rw[e];rfl
 have hk:Hk (gam Q41 8):=⟨whD 5,pn 3,cm,po 5,jo 4,to 3⟩;have kd:Kd (gam Q41 9):=by
  refine⟨fun p C a b c hp iC z h=>?_,fun p C a b c hp iC z h=>?_,fun p C a b c hp iC z h=>?_,fun p C a b c hp iC z h=>?_⟩
  ·obtain⟨x,y,u,g,l,q,e⟩:=Zd hk hp iC z h;exact⟨x,y,u,g,l,q,Co e⟩
  ·exact Co (Zc hk hp iC z h)
  ·obtain⟨x,y,q,l,e⟩:=Zb hk hp iC z h;exact⟨x,y,q,l,Co e⟩
  ·exact Co (Za hk hp iC z h)
 have lL:∀ n,Vz (gam Q41 (n+1)):=fun n p a b hp ia ib=>Co (mY _ p a b hp ia ib)
 have h:H41 (gam Q41 9) ns:=by
  refine⟨?_,mi 8,fun p hp=>?_,fun p a b c w g hw=>?_,kd,fun p C m0 m1 m2 G l1 iC pr=>Co (vF (al 6) (fun p q C x hp iC ix=>Co (iK _ p q C x hp iC ix)) (lm 6) G l1 iC pr),fun p a b c g=>?_⟩
  ·obtain⟨p,hp,e⟩:=bR (mi 7);exact⟨p,hp,Co e⟩
  ·obtain⟨a,b,c,g,e⟩:=xJ hl (mi 7) p hp;exact⟨a,b,c,g,Co e⟩
  ·obtain⟨C,h1,h2,h3,e⟩:=vK (f3 7) (fun p a b hp ha hb=>Co (oF _ p a b hp ha hb)) p a b c w g hw
   exact⟨C,h1,h2,h3,Co e⟩
  ·obtain⟨h1,h2,h3⟩:=vJ (f3 7) (lL 7) g;exact⟨Co h1,fun L1 L2 hL hx=>Co (h2 L1 L2 hL hx),Co h3⟩
 exact Co (sQ h)
end OvC
namespace OvC
set_option genInjectivity false in
structure Eleven (P:Prop) where
 (α1 α2 α3 α4 α5 α6 α7 α8 α9 α10 α11:Type)
 (l1 r1:AJ->α1)
 (l2 r2:AJ->α2)
 (l3 r3:AJ->α3)
 (l4 r4:AJ->α4)
 (l5 r5:AJ->α5)
 (l6 r6:AJ->α6)
 (l7 r7:AJ->α7)
 (l8 r8:AJ->α8)
 (l9 r9:AJ->α9)
 (l10 r10:AJ->α10)
 (l11 r11:AJ->α11)
 go:(∀ w,l1 w=r1 w)->(∀ w,l2 w=r2 w)->(∀ w,l3 w=r3 w)->(∀ w,l4 w=r4 w)->(∀ w,l5 w=r5 w)->(∀ w,l6 w=r6 w)->(∀ w,l7 w=r7 w)->(∀ w,l8 w=r8 w)->(∀ w,l9 w=r9 w)->(∀ w,l10 w=r10 w)->(∀ w,l11 w=r11 w)->P
theorem map_pair{σ α β:Type}{A:σ->α}{B:σ->β}{r:Au σ}{a:α}{b:β}(h1:Gz A r=Ab a)(h2:Gz B r=Ab b):Gz (fun s=>(A s,B s)) r=Ab (a,b):=by
 cases r with
 |none=>cases h1
 |some s=>cases h1;cases h2;rfl
theorem map_take{σ α:Type}{B:σ->Ac α}{r:Au σ}{v:Ac α}(n:Ag)(h1:Gz (fun s=>(B s).take n) r=Ab (v.take n))(h2:Gz (fun s=>(B s).drop n) r=Ab (v.drop n)):Gz B r=Ab v:=by
 cases r with
 |none=>cases h1
 |some s=>
  have e1:(B s).take n=v.take n:=by injection h1
  have e2:(B s).drop n=v.drop n:=by injection h2
  show Ab (B s)=Ab v;rw[<-W9 n (B s),<-W9 n v,e1,e2]
end OvC
namespace OvC
open PySem PySem.Spec PyProof.Rows Ov L2
variable{l:F7}
noncomputable def tp41(i:Ag):Ca:=PySem.Challenge.pw_ovalfield_k41_kinds_as_built.main.body.getD i (.Pass ⟨0,0,0,0⟩)
noncomputable def V4:Ac (Al×Ag×Ag):=([("rest", 1,2),("turned_over", 9,2),("one_form", 17,2),("crossed", 23,2),("lies", 24,3),("on", 56,3),("join", 57,3),("measure", 61,4),("first_three", 65,2),("ask_no_three", 109,2),("triples", 69,1),("columns", 104,1),("sums_by", 91,3),("table_of", 78,2),("crossed_rows", 98,1),("led", 92,3),("after", 105,3),("table_back", 106,2),("curve_of", 122,2),("plain_curve", 123,1),("value", 126,3),("points_of", 128,2),("twice_table", 131,2),("is_whole", 136,2),("scaled", 110,2),("frame_table", 111,2),("frame_move", 112,3),("ask_whole", 147,2),("polar_table", 148,2),("pole", 149,3)]:Ac (Al×Ag×Ag))++([("frame_on", 150,3),("curve_move", 151,3),("crossing", 152,3),("two_lines", 153,3),("kind", 154,2),("_law_mixed", 155,2),("_law_prime", 156,1),("_law_point", 157,2),("_law_form", 158,2),("_law_table", 159,3),("_law_product", 160,2),("_law_cross", 161,2),("_law_value", 162,3),("_law_curve", 163,3),("_law_all", 164,1),("_law_measure", 165,4),("_law_is_move", 166,3),("_law_due", 167,3),("law", 168,1)]:Ac (Al×Ag×Ag))
noncomputable def Rm:Ac Al:=["all", "any", "bool", "enumerate", "int", "isinstance", "len", "list", "max", "min", "range", "set", "sorted", "sum", "tuple", "zip"]
noncomputable def VF:Ac (Al×Ag):=[]
noncomputable def V7:Ac (Al×Ag):=[]
noncomputable def VI:Ac (Al×Ag):=[]
noncomputable abbrev C41(h:Ap)(ps N:Ac Al)(i d:Ag):Ap:=Ih 80 h V4 Rm VF V7 VI ps N (tp41 i) (Q41.defs d)
theorem sG:C41 Ae ["p", "n"] ["p", "n"] 11 1=Aa:=by decide +kernel
theorem sF:C41 Ae ["p", "n"] ["p", "n", "turned"] 12 9=Aa:=by decide +kernel
theorem sE:C41 Ae ["p", "numbers"] ["p", "numbers", "rests", "first", "factor", "#5", "#6"] 14 17=Aa:=by decide +kernel
theorem sD:C41 Ae ["one", "other"] ["one", "other"] 15 23=Aa:=by decide +kernel
theorem sB:C41 Ae ["p", "point", "line"] ["p", "point", "line"] 16 24=Aa:=by decide +kernel
theorem sA:C41 Ae ["p", "point", "line"] ["p", "point", "line"] 18 56=Aa:=by decide +kernel
theorem rZ:C41 Ae ["p", "one", "other"] ["p", "one", "other"] 19 57=Aa:=by decide +kernel
theorem rY:C41 Ae ["p", "one", "other", "third"] ["p", "one", "other", "third"] 20 61=Aa:=by decide +kernel
theorem rX:C41 Ae ["p", "points"] ["p", "points", "i", "one", "j", "k"] 21 65=Aa:=by decide +kernel
theorem rW:C41 Ae ["p", "points"] ["p", "points", "three"] 22 109=Aa:=by decide +kernel
theorem mU:C41 Ae ["p"] ["p", "told", "z", "y", "#4"] 23 69=Aa:=by decide +kernel
theorem mT:C41 Ae ["rows"] ["rows"] 25 104=Aa:=by decide +kernel
theorem mS:C41 Ae ["p", "rows", "numbers"] ["p", "rows", "numbers", "#3"] 26 91=Aa:=by decide +kernel
theorem mR:C41 Ae ["p", "rows"] ["p", "rows", "nine"] 27 78=Aa:=by decide +kernel
theorem mQ:C41 Ae ["table"] ["table"] 28 98=Aa:=by decide +kernel
theorem mP:C41 Ae ["p", "table", "point"] ["p", "table", "point"] 29 92=Aa:=by decide +kernel
theorem mO:C41 Ae ["p", "one", "other"] ["p", "one", "other", "sides", "#4"] 30 105=Aa:=by decide +kernel
theorem mN:C41 Ae ["p", "table"] ["p", "table"] 31 106=Aa:=by decide +kernel
theorem mM:C41 Ae ["p", "numbers"] ["p", "numbers", "rests", "#3"] 33 122=Aa:=by decide +kernel
theorem mL:C41 Ae ["p"] ["p"] 34 123=Aa:=by decide +kernel
theorem mK:C41 Ae ["p", "curve", "point"] ["p", "curve", "point", "squares", "products"] 35 126=Aa:=by decide +kernel
theorem mJ:C41 Ae ["p", "curve"] ["p", "curve", "#2"] 36 128=Aa:=by decide +kernel
theorem mI:C41 Ae ["p", "curve"] ["p", "curve"] 37 131=Aa:=by decide +kernel
theorem jR:C41 Ae ["p", "curve"] ["p", "curve", "rows"] 38 136=Aa:=by decide +kernel
theorem jQ:C41 Ae ["factor", "point"] ["factor", "point", "#2"] 40 110=Aa:=by decide +kernel
theorem jP:C41 Ae ["p", "four"] ["p", "four", "sides"] 41 111=Aa:=by decide +kernel
theorem jO:C41 Ae ["p", "four", "goals"] ["p", "four", "goals"] 42 112=Aa:=by decide +kernel
theorem jN:C41 Ae ["p", "curve"] ["p", "curve"] 44 147=Aa:=by decide +kernel
theorem jM:C41 Ae ["p", "curve"] ["p", "curve"] 45 148=Aa:=by decide +kernel
theorem jL:C41 Ae ["p", "curve", "line"] ["p", "curve", "line"] 46 149=Aa:=by decide +kernel
theorem jK:C41 Ae ["p", "curve", "three"] ["p", "curve", "three"] 48 150=Aa:=by decide +kernel
theorem jJ:C41 Ae ["p", "one", "other"] ["p", "one", "other"] 49 151=Aa:=by decide +kernel
theorem jI:C41 Ae ["p", "curve", "points"] ["p", "curve", "points", "rows", "#4"] 51 152=Aa:=by decide +kernel
theorem kN:C41 Ae ["p", "curve", "points"] ["p", "curve", "points", "middle", "one", "other", "#6", "#7"] 52 153=Aa:=by decide +kernel
theorem kM:C41 Ae ["p", "curve"] ["p", "curve", "points", "lines"] 53 154=Aa:=by decide +kernel
theorem kL:C41 Ae ["_law_script", "_law_k"] ["_law_script", "_law_k", "_law_cell"] 55 155=Aa:=by decide +kernel
theorem kK:C41 Ae ["_law_script"] ["_law_script"] 56 156=Aa:=by decide +kernel
theorem kJ:C41 Ae ["_law_p", "_law_number"] ["_law_p", "_law_number", "_law_n"] 57 157=Aa:=by decide +kernel
theorem kI:C41 Ae ["_law_p", "_law_numbers"] ["_law_p", "_law_numbers", "_law_head", "_law_by", "#4", "#5", "#6"] 58 158=Aa:=by decide +kernel
theorem kH:C41 Ae ["_law_p", "_law_script", "_law_at"] ["_law_p", "_law_script", "_law_at", "_law_rows", "_law_k", "_law_cell", "_law_i", "_law_j", "_law_times", "#9", "#10", "#11"] 59 159=Aa:=by decide +kernel
theorem kG:C41 Ae ["_law_one", "_law_other"] ["_law_one", "_law_other", "_law_numbers", "_law_i", "_law_j", "#5"] 60 160=Aa:=by decide +kernel
theorem kF:C41 Ae ["_law_one", "_law_other"] ["_law_one", "_law_other", "_law_a", "_law_b", "_law_c", "_law_d", "_law_e", "_law_f"] 61 161=Aa:=by decide +kernel
theorem kE:C41 Ae ["_law_p", "_law_curve_here", "_law_point_here"] ["_law_p", "_law_curve_here", "_law_point_here", "_law_x", "_law_y", "_law_z", "_law_some", "#7", "#8"] 62 162=Aa:=by decide +kernel
theorem kD:C41 Ae ["_law_p", "_law_rows", "_law_way"] ["_law_p", "_law_rows", "_law_way", "_law_one", "_law_other", "_law_third", "_law_square", "_law_odd", "#8", "#9", "#10", "#11", "#12", "#13"] 63 163=Aa:=by decide +kernel
theorem kC:C41 Ae ["_law_p"] ["_law_p", "#1"] 64 164=Aa:=by decide +kernel
theorem kB:C41 Ae ["_law_p", "_law_one", "_law_other", "_law_third"] ["_law_p", "_law_one", "_law_other", "_law_third", "_law_a", "_law_b", "_law_c"] 65 165=Aa:=by decide +kernel
theorem kA:C41 Ae ["_law_p", "_law_curve_here", "_law_table_here"] ["_law_p", "_law_curve_here", "_law_table_here", "_law_flat", "_law_row", "_law_factors", "_law_point_here", "_law_x", "_law_y", "_law_z", "_law_there", "_law_here", "_law_far", "#13", "#14", "#15", "#16"] 66 166=Aa:=by decide +kernel
theorem jZ:C41 Ae ["_law_p", "_law_rows", "_law_way"] ["_law_p", "_law_rows", "_law_way", "_law_one", "_law_other"] 67 167=Aa:=by decide +kernel
theorem UP:C41 Ae ["_law_script"] ["_law_script", "_law_p", "_law_rows", "_law_way", "_law_curve_here", "_law_found"] 68 168=Aa:=by decide +kernel
set_option maxHeartbeats 0 in
theorem all41{w:AJ}{K:Fg}{h:AQ}{mg:Al->Au Ai}{fa f0 f1 f2 f3 f4 f5 f6 f7 f8 f9 f10 f11 f12 f13 f14 f15 f16 f17 f18 f19 f20 f21 f22 f23 f24 f25 f26 f27 f28 f29 f30 f31 f32 f33 f34 f35 f36 f37 f38 f39 f40 f41 f42 f43 f44 f45 f46 f47 f48:Ak}(X:K.In h)(G:h.Ns Bg mg)(hfa:mg "law" = Ab (.ref fa))(a0:FnI K f0 "rest" (tp41 11))(a1:FnI K f1 "turned_over" (tp41 12))(a2:FnI K f2 "one_form" (tp41 14))(a3:FnI K f3 "crossed" (tp41 15))(a4:FnI K f4 "lies" (tp41 16))(a5:FnI K f5 "on" (tp41 18))(a6:FnI K f6 "join" (tp41 19))(a7:FnI K f7 "measure" (tp41 20))(a8:FnI K f8 "first_three" (tp41 21))(a9:FnI K f9 "ask_no_three" (tp41 22))(a10:FnI K f10 "triples" (tp41 23))(a11:FnI K f11 "columns" (tp41 25))(a12:FnI K f12 "sums_by" (tp41 26))(a13:FnI K f13 "table_of" (tp41 27))(a14:FnI K f14 "crossed_rows" (tp41 28))(a15:FnI K f15 "led" (tp41 29))(a16:FnI K f16 "after" (tp41 30))(a17:FnI K f17 "table_back" (tp41 31))(a18:FnI K f18 "curve_of" (tp41 33))(a19:FnI K f19 "plain_curve" (tp41 34))(a20:FnI K f20 "value" (tp41 35))(a21:FnI K f21 "points_of" (tp41 36))(a22:FnI K f22 "twice_table" (tp41 37))(a23:FnI K f23 "is_whole" (tp41 38))(a24:FnI K f24 "scaled" (tp41 40))(a25:FnI K f25 "frame_table" (tp41 41))(a26:FnI K f26 "frame_move" (tp41 42))(a27:FnI K f27 "ask_whole" (tp41 44))(a28:FnI K f28 "polar_table" (tp41 45))(a29:FnI K f29 "pole" (tp41 46))(a30:FnI K f30 "frame_on" (tp41 48))(a31:FnI K f31 "curve_move" (tp41 49))(a32:FnI K f32 "crossing" (tp41 51))(a33:FnI K f33 "two_lines" (tp41 52))(a34:FnI K f34 "kind" (tp41 53))(a35:FnI K f35 "_law_mixed" (tp41 55))(a36:FnI K f36 "_law_prime" (tp41 56))(a37:FnI K f37 "_law_point" (tp41 57))(a38:FnI K f38 "_law_form" (tp41 58))(a39:FnI K f39 "_law_table" (tp41 59))(a40:FnI K f40 "_law_product" (tp41 60))(a41:FnI K f41 "_law_cross" (tp41 61))(a42:FnI K f42 "_law_value" (tp41 62))(a43:FnI K f43 "_law_curve" (tp41 63))(a44:FnI K f44 "_law_all" (tp41 64))(a45:FnI K f45 "_law_measure" (tp41 65))(a46:FnI K f46 "_law_is_move" (tp41 66))(a47:FnI K f47 "_law_due" (tp41 67))(a48:FnI K f48 "law" (tp41 68))(z0:Cb K Bg "all" = Ab Af)(z1:Cb K Bg "any" = Ab Af)(z2:Cb K Bg "bool" = Ab Af)(z3:Cb K Bg "enumerate" = Ab Af)(z4:Cb K Bg "int" = Ab Af)(z5:Cb K Bg "isinstance" = Ab Af)(z6:Cb K Bg "len" = Ab Af)(z7:Cb K Bg "list" = Ab Af)(z8:Cb K Bg "max" = Ab Af)(z9:Cb K Bg "min" = Ab Af)(z10:Cb K Bg "range" = Ab Af)(z11:Cb K Bg "set" = Ab Af)(z12:Cb K Bg "sorted" = Ab Af)(z13:Cb K Bg "sum" = Ab Af)(z14:Cb K Bg "tuple" = Ab Af)(z15:Cb K Bg "zip" = Ab Af):
    ∃ fd:CW,(∀(s:Aq)(v:Ai),Hy s fd ⟨[v],[]⟩ [("_law_script", v)])/\∀ base:AQ,K.In base->base.Ns Bg mg->FnOk l.prog w K mg base (CXR l.prog w) 10 fa fd ["_law_script"] (Mq K):=by
  obtain⟨_,F,e⟩:=a48;obtain⟨_,_,_,_,_,_,_,_,_,rfl,_,_⟩:=F.ex;cases hfa.symm.trans (Jn X G e);have T:Tab K mg (fun _=>Af) V4 Rm VF V7 VI Q41 80:=⟨fU fun _ _=>rfl,all_cons (BE X G z0) (all_cons (BE X G z1) (all_cons (BE X G z2) (all_cons (BE X G z3) (all_cons (BE X G z4) (all_cons (BE X G z5) (all_cons (BE X G z6) (all_cons (BE X G z7) (all_cons (BE X G z8) (all_cons (BE X G z9) (all_cons (BE X G z10) (all_cons (BE X G z11) (all_cons (BE X G z12) (all_cons (BE X G z13) (all_cons (BE X G z14) (all_cons (BE X G z15) (PQ)))))))))))))))),PQ,all_cons (ER 2 1 X G a0 rfl sG fun _ _ _ _ _ _ _ _=>rfl) (all_cons (ER 2 9 X G a1 rfl sF fun _ _ _ _ _ _ _ _=>rfl) (all_cons (ER 2 17 X G a2 rfl sE fun _ _ _ _ _ _ _ _=>rfl) (all_cons (ER 2 23 X G a3 rfl sD fun _ _ _ _ _ _ _ _=>rfl) (all_cons (FB 3 24 X G a4 rfl sB fun _ _ _ _ _ _ _ _ _=>rfl) (all_cons (FB 3 56 X G a5 rfl sA fun _ _ _ _ _ _ _ _ _=>rfl) (all_cons (FB 3 57 X G a6 rfl rZ fun _ _ _ _ _ _ _ _ _=>rfl) (all_cons (Ro 4 61 X G a7 rfl rY fun _ _ _ _ _ _ _ _ _ _=>rfl) (all_cons (ER 2 65 X G a8 rfl rX fun _ _ _ _ _ _ _ _=>rfl) (all_cons (ER 2 109 X G a9 rfl rW fun _ _ _ _ _ _ _ _=>rfl) (all_cons (Kb 1 69 X G a10 rfl mU fun _ _ _ _ _ _ _=>rfl) (all_cons (Kb 1 104 X G a11 rfl mT fun _ _ _ _ _ _ _=>rfl) (all_cons (FB 3 91 X G a12 rfl mS fun _ _ _ _ _ _ _ _ _=>rfl) (all_cons (ER 2 78 X G a13 rfl mR fun _ _ _ _ _ _ _ _=>rfl) (all_cons (Kb 1 98 X G a14 rfl mQ fun _ _ _ _ _ _ _=>rfl) (all_cons (FB 3 92 X G a15 rfl mP fun _ _ _ _ _ _ _ _ _=>rfl) (all_cons (FB 3 105 X G a16 rfl mO fun _ _ _ _ _ _ _ _ _=>rfl) (all_cons (ER 2 106 X G a17 rfl mN fun _ _ _ _ _ _ _ _=>rfl) (all_cons (ER 2 122 X G a18 rfl mM fun _ _ _ _ _ _ _ _=>rfl) (all_cons (Kb 1 123 X G a19 rfl mL fun _ _ _ _ _ _ _=>rfl) (all_cons (FB 3 126 X G a20 rfl mK fun _ _ _ _ _ _ _ _ _=>rfl) (all_cons (ER 2 128 X G a21 rfl mJ fun _ _ _ _ _ _ _ _=>rfl) (all_cons (ER 2 131 X G a22 rfl mI fun _ _ _ _ _ _ _ _=>rfl) (all_cons (ER 2 136 X G a23 rfl jR fun _ _ _ _ _ _ _ _=>rfl) (all_cons (ER 2 110 X G a24 rfl jQ fun _ _ _ _ _ _ _ _=>rfl) (all_cons (ER 2 111 X G a25 rfl jP fun _ _ _ _ _ _ _ _=>rfl) (all_cons (FB 3 112 X G a26 rfl jO fun _ _ _ _ _ _ _ _ _=>rfl) (all_cons (ER 2 147 X G a27 rfl jN fun _ _ _ _ _ _ _ _=>rfl) (all_cons (ER 2 148 X G a28 rfl jM fun _ _ _ _ _ _ _ _=>rfl) (all_cons (FB 3 149 X G a29 rfl jL fun _ _ _ _ _ _ _ _ _=>rfl) (all_cons (FB 3 150 X G a30 rfl jK fun _ _ _ _ _ _ _ _ _=>rfl) (all_cons (FB 3 151 X G a31 rfl jJ fun _ _ _ _ _ _ _ _ _=>rfl) (all_cons (FB 3 152 X G a32 rfl jI fun _ _ _ _ _ _ _ _ _=>rfl) (all_cons (FB 3 153 X G a33 rfl kN fun _ _ _ _ _ _ _ _ _=>rfl) (all_cons (ER 2 154 X G a34 rfl kM fun _ _ _ _ _ _ _ _=>rfl) (all_cons (ER 2 155 X G a35 rfl kL fun _ _ _ _ _ _ _ _=>rfl) (all_cons (Kb 1 156 X G a36 rfl kK fun _ _ _ _ _ _ _=>rfl) (all_cons (ER 2 157 X G a37 rfl kJ fun _ _ _ _ _ _ _ _=>rfl) (all_cons (ER 2 158 X G a38 rfl kI fun _ _ _ _ _ _ _ _=>rfl) (all_cons (FB 3 159 X G a39 rfl kH fun _ _ _ _ _ _ _ _ _=>rfl) (all_cons (ER 2 160 X G a40 rfl kG fun _ _ _ _ _ _ _ _=>rfl) (all_cons (ER 2 161 X G a41 rfl kF fun _ _ _ _ _ _ _ _=>rfl) (all_cons (FB 3 162 X G a42 rfl kE fun _ _ _ _ _ _ _ _ _=>rfl) (all_cons (FB 3 163 X G a43 rfl kD fun _ _ _ _ _ _ _ _ _=>rfl) (all_cons (Kb 1 164 X G a44 rfl kC fun _ _ _ _ _ _ _=>rfl) (all_cons (Ro 4 165 X G a45 rfl kB fun _ _ _ _ _ _ _ _ _ _=>rfl) (all_cons (FB 3 166 X G a46 rfl kA fun _ _ _ _ _ _ _ _ _=>rfl) (all_cons (FB 3 167 X G a47 rfl jZ fun _ _ _ _ _ _ _ _ _=>rfl) (all_cons (Kb 1 168 X G ⟨_,F,e⟩ rfl UP fun _ _ _ _ _ _ _=>rfl) (PQ)))))))))))))))))))))))))))))))))))))))))))))))))⟩
  exact⟨_,fun s v=>.of_eq rfl,fun base _ _=>gN (Vi T (Qa T 9) F rfl UP) yC⟩
theorem walk41{q:A5}{loose:Ac Al}{XP:(Al->Au Ai)->AQ->Prop}{YP:AJ->AQ->Prop}{d:DefRec}{K:LD->Fg}(hn:l.most=Ab 63)(hdf:d.params.defaults=[])(hY:∀(w:AJ)(h:AQ),YP w h->(K w.params).In h)(F:∀(w:AJ)(mg:Al->Au Ai)(fa:Ak)(h:AQ),(K w.params).In h->h.Ns Bg mg->mg d.name=Ab (.ref fa) ->
   ∃ fd:CW,(∀(s:Aq)(u:Ai),Hy s fd ⟨[u],[]⟩ [("_law_script", u)])/\∀ base:AQ,(K w.params).In base->base.Ns Bg mg->FnOk l.prog w (K w.params) mg base (CXR l.prog w) 10 fa fd ["_law_script"] (Mq (K w.params))):X6 q loose XP YP l.row.toRowW d [] (fun f vs=>Kt f vs):=
 L2.walk_of (n:=63) (k:=10) (x := "_law_script") (CX:=fun w=>CXR l.prog w) (sp:=fun w=>Mq (K w.params)) hn (by decide) hdf ⟨rfl,by decide,by decide⟩ hY F (fun _ H a ns hl _ hS=>⟨a,ns,rfl,hl,hS,fun _ _ z=>z⟩) fun _ _ _ _ _ z=>rQ z
end OvC
open PySem PySem.W PyProof.Rows
noncomputable def OvC.view41:PySem.Program:={ PySem.Challenge.pw_ovalfield_k41_kinds_as_built with main:={PySem.Challenge.pw_ovalfield_k41_kinds_as_built.main with body:=[OvC.tp41 1,OvC.tp41 2,OvC.tp41 3,OvC.tp41 4,OvC.tp41 5,OvC.tp41 6,OvC.tp41 7,OvC.tp41 8,OvC.tp41 9,OvC.tp41 11,OvC.tp41 12,OvC.tp41 14,OvC.tp41 15,OvC.tp41 16,OvC.tp41 18,OvC.tp41 19,OvC.tp41 20,OvC.tp41 21,OvC.tp41 22,OvC.tp41 23,OvC.tp41 25,OvC.tp41 26,OvC.tp41 27,OvC.tp41 28,OvC.tp41 29,OvC.tp41 30,OvC.tp41 31,OvC.tp41 33,OvC.tp41 34,OvC.tp41 35,OvC.tp41 36,OvC.tp41 37,OvC.tp41 38,OvC.tp41 40,OvC.tp41 41,OvC.tp41 42,OvC.tp41 44,OvC.tp41 45,OvC.tp41 46,OvC.tp41 48,OvC.tp41 49,OvC.tp41 51,OvC.tp41 52,OvC.tp41 53,OvC.tp41 55,OvC.tp41 56,OvC.tp41 57,OvC.tp41 58,OvC.tp41 59,OvC.tp41 60,OvC.tp41 61,OvC.tp41 62,OvC.tp41 63,OvC.tp41 64,OvC.tp41 65,OvC.tp41 66,OvC.tp41 67,OvC.tp41 68]} }
set_option hygiene false
local macro_rules | `(tactic| o_head $H)=>`(tactic| refine holds_open (q:=OvC.view41) (loose:=[]) (Xt:=fun s=>xlAt OvC.view41 [] s&&recOk (RowW.records (OpenRow.toRowW (PySem.Challenge.rw_ovalfield_k41_kinds_as_built.row))) s) (XP:=XL OvC.view41 []) (Yf:=Hook.obs $H) (Ya:=Hook.val $H) (YP:=Hook.says $H) (N:=7124) ?hl (Hook.of $H) (Hook.keeps $H) (fun s e=>xl_of s (Bool.and_eq_true_iff.mp e).1) XL.keeps (by rfl) (by rfl) (by rfl) (fun s e=>recFacts_of (Bool.and_eq_true_iff.mp e).2) (by rfl) (by first|assumption|decide +kernel) (by decide +kernel) ⟨rfl,rfl,rfl,rfl,rfl,by decide +kernel⟩ ?hw ?hc)
set_option maxRecDepth 100000 in
set_option maxHeartbeats 0 in
noncomputable def OvC.hold41:OvC.Eleven PySem.Challenge.rw_ovalfield_k41_kinds_as_built.Holds:=by
 refine' ⟨_,_,_,_,_,_,_,_,_,_,_,_,_,_,_,_,_,_,_,_,_,_,_,_,_,_,_,_,_,_,_,_,_,fun g1 g2 g3 g4 g5 g6 g7 g8 g9 g10 g11=>_⟩
 rotate_right
 w_on;refine holds_law (by decide +kernel) fun said=>?_;k_head
 (case hl=>intro w;refine OvC.map_pair ?p1 (OvC.map_take 100 ?p2 ?p3);(case p1=>rw[PySem.W.Fast.te4187177175401517315];unfold PySem.W.Fast.tw4187177175401517315 openGood;refine OvC.map_pair ?q1 (OvC.map_pair ?q2 (OvC.map_pair ?q3 (OvC.map_pair ?q4 (OvC.map_pair ?q5 (OvC.map_pair ?q6 (OvC.map_pair ?q7 (OvC.map_pair ?q8 ?q9)))))));(case q1=>unfold E1 Dj Fu;rw[A9,Bc,Bf,Bb,Ba];exact g1 w);(case q2=>unfold E1 Dj Fu;rw[A9,Bc,Bf,Bb,Ba];exact g2 w);(case q3=>unfold E1 Dj Fu;rw[A9,Bc,Bf,Bb,Ba];exact g3 w);(case q4=>unfold E1 Dj Fu;rw[A9,Bc,Bf,Bb,Ba];exact g4 w);(case q5=>unfold E1 Dj Fu;rw[A9,Bc,Bf,Bb,Ba];exact g5 w);(case q6=>unfold E1 Dj Fu;rw[A9,Bc,Bf,Bb,Ba];exact g6 w);(case q7=>unfold E1 Dj Fu;rw[A9,Bc,Bf,Bb,Ba];exact g7 w);(case q8=>unfold E1 Dj Fu;rw[A9,Bc,Bf,Bb,Ba];exact g8 w);(case q9=>unfold E1 Dj Fu;rw[A9,Bc,Bf,Bb,Ba];exact g9 w);skip);(case p2=>unfold E1 Dj Fu;rw[A9,Bc,Bf,Bb,Ba];exact g10 w);(case p3=>unfold E1 Dj Fu;rw[A9,Bc,Bf,Bb,Ba];exact g11 w))
 (case hw=>w_witness2)
 k_fill
 refine OvC.walk41 (l:=PySem.Challenge.rw_ovalfield_k41_kinds_as_built) rfl rfl (fun w h Y=>X9 Y) ?F
 case F=>
  intro w mg fa h KX G hmg
  refine' OvC.all41 KX G hmg ?a0 ?a1 ?a2 ?a3 ?a4 ?a5 ?a6 ?a7 ?a8 ?a9 ?a10 ?a11 ?a12 ?a13 ?a14 ?a15 ?a16 ?a17 ?a18 ?a19 ?a20 ?a21 ?a22 ?a23 ?a24 ?a25 ?a26 ?a27 ?a28 ?a29 ?a30 ?a31 ?a32 ?a33 ?a34 ?a35 ?a36 ?a37 ?a38 ?a39 ?a40 ?a41 ?a42 ?a43 ?a44 ?a45 ?a46 ?a47 ?a48 ?z0 ?z1 ?z2 ?z3 ?z4 ?z5 ?z6 ?z7 ?z8 ?z9 ?z10 ?z11 ?z12 ?z13 ?z14 ?z15
  case a0|a1|a2|a3|a4|a5|a6|a7|a8|a9|a10|a11|a12|a13|a14|a15|a16|a17|a18|a19|a20|a21|a22|a23|a24|a25|a26|a27|a28|a29|a30|a31|a32|a33|a34|a35|a36|a37|a38|a39|a40|a41|a42|a43|a44|a45|a46|a47|a48=>(refine' Ov.fni ?a ?l ?c ?k;(case a=>k_is);(case l=>k_is);(case c=>k_is);(case k=>k_is))
  (case z0=>k_is)
  (case z1=>k_is)
  (case z2=>k_is)
  (case z3=>k_is)
  (case z4=>k_is)
  (case z5=>k_is)
  (case z6=>k_is)
  (case z7=>k_is)
  (case z8=>k_is)
  (case z9=>k_is)
  (case z10=>k_is)
  (case z11=>k_is)
  (case z12=>k_is)
  (case z13=>k_is)
  (case z14=>k_is)
  (case z15=>k_is)
theorem OvC.reck41_1(w:AJ):OvC.hold41.l1 w=OvC.hold41.r1 w:=by kernel_rfl
theorem OvC.reck41_2(w:AJ):OvC.hold41.l2 w=OvC.hold41.r2 w:=by kernel_rfl
theorem OvC.reck41_3(w:AJ):OvC.hold41.l3 w=OvC.hold41.r3 w:=by kernel_rfl
theorem OvC.reck41_4(w:AJ):OvC.hold41.l4 w=OvC.hold41.r4 w:=by kernel_rfl
theorem OvC.reck41_5(w:AJ):OvC.hold41.l5 w=OvC.hold41.r5 w:=by kernel_rfl
theorem OvC.reck41_6(w:AJ):OvC.hold41.l6 w=OvC.hold41.r6 w:=by kernel_rfl
theorem OvC.reck41_7(w:AJ):OvC.hold41.l7 w=OvC.hold41.r7 w:=by kernel_rfl
theorem OvC.reck41_8(w:AJ):OvC.hold41.l8 w=OvC.hold41.r8 w:=by kernel_rfl
theorem OvC.reck41_9(w:AJ):OvC.hold41.l9 w=OvC.hold41.r9 w:=by kernel_rfl
theorem OvC.reck41_10(w:AJ):OvC.hold41.l10 w=OvC.hold41.r10 w:=by kernel_rfl
theorem OvC.reck41_11(w:AJ):OvC.hold41.l11 w=OvC.hold41.r11 w:=by kernel_rfl
theorem PySem.Challenge.cw_ovalfield_k41_kinds_as_built_holds : PySem.Challenge.rw_ovalfield_k41_kinds_as_built.Holds := by
 exact OvC.hold41.go OvC.reck41_1 OvC.reck41_2 OvC.reck41_3 OvC.reck41_4 OvC.reck41_5 OvC.reck41_6 OvC.reck41_7 OvC.reck41_8 OvC.reck41_9 OvC.reck41_10 OvC.reck41_11
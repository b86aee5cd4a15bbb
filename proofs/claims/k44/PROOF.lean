import PyProof.Rows.All
import Wide.All
import OpenK.AllK
import Wide.FinOn
import PyProof.EqAt
import KE.KSortTup
import PyProof.EqKinds
import PyProof.TupleCall
import Lean
import PySem.Challenge.RW_ovalfield_k44_whole_kinds_moved
set_option Elab.async false
set_option linter.all false
set_option maxRecDepth 100000
set_option maxHeartbeats 4000000
open Bool renaming true→Aa,false→Ad,and_eq_true→An,false_ne_true→AI,not_eq_true'→BP,eq_iff_iff→Cv,or_eq_true→Dl,false_eq_true→Fx,and_false→FM,and_true→Jg,or_false→WL
open Option renaming some→Ab,none→Af,bind_eq_some_iff→Bo,map_some→EQ,map→Gs,getD_none→Xz,isSome_iff_exists→XA
open _root_ renaming List→Ac,Int→Ae,Nat→Ag,Bool→Ao,Option→At,if_pos→Ay,if_neg→AH,decide_eq_true_eq→AJ,Array→AR,False→BN,beq_iff_eq→BS,or_false→Cb,decide_eq_false_iff_not→Cu,decide_eq_false→CB,beq_eq_false_iff_ne→DH,beq_self_eq_true→DM,String→Ec,not_or→Ed,of_decide_eq_true→Ee,decide_eq_true→Eo,decide_eq_decide→Ey,Decidable→Gf,beq_false_of_ne→GJ,if_false→G7,if_true→IM,True→IU,Unit→JS,bne_iff_ne→Kv
open PySem renaming wpAny_bind→Ah,Value→Ai,Str→Ak,Addr→Al,Shared→Ap,Expr→Ar,wpAny_pure→Av,wpAny→Az,starEach→AG,World→AK,Heap→AT,Program→A9,Pos→Bb,mainGlobals→Bj,wpAny_field→Bu,Around→Bx,wpAny_seqItems→B6,Stmt→B8,wpAny_setField_rec→Ca,wpAny_holding→Cf,wpAny_callSpecial?_slot→Ci,binaryOp→Ct,Env→Cy,assignEach→CA,wpAny_call_entry→CD,cLine→CG,wpAny_mono→CH,Scope→CN,sizeLine_eq→CO,backTo→CQ,FuncData→CS,compareOp→CZ,wpAny_newObj_type→C0,wpAny_truthy_bool→C1,mem_of_lookup→C2,rawInt→C4,bootBuiltins→Db,foldedSetIterable→Dk,cellsFrom→Dy,Obj→DC,Tok→DD,wpAny_onRaise→DG,swapsWith→DT,swappedStores→D5,pyNext→Ea,wpAny_pyIter_list→Eb,NameKind→Eu,IsPair→E0,wpAny_attempt→Ff,Keyword→Fh,sliceBounds→Fj,CmpOp→Ft,codeAny_builtin→Fu,wpAny_passesOwn→Fv,wpAny_updateSeq→Fw,wpAny_pyIter_tuple→FF,codeAny→FO,wpAny_letGo→F6,swapsWithSole→F8,PassesOwn→Gi,IsZip→Gv,letOwnedTupleGo→GB,wpAny_rule→GC,wpAny_updateSeq_pair→GD,wpAny_newTuple→GR,pushCells→Ha,wpAny_Call_Name_kw→Hb,Sem→Hc,attributeBase→Hd,behindInMarks→He,plainId_quiet→Hf,wpAny_standAt→Hg,BindsTo→Hv,callerA→Hw,standAt→Hx,IsPart→HG,Operator→HH,Paired→HI,pushCells_keeps→Ii,wpAny_specialOf→Ik,keywordEach→Io,isTrue→IJ,newFunctionEnv→IK,notedBy→IL,bindC→IQ,bindL→IR,builtinsNs→IS,numAt→IT,callType_new→Jr,codeAny_mono→Js,concat_meets→Jt,lastMarks→Ju,preSum→Jv,seqIndex_neg→Jw,updateSeq→Jx,getItem→JL,setItem→JM,seqIndex_of→JQ,backToKw→JR,Model→Kj,Result→Kk,call→Kn,call_meets→Ko,pyIter→Kq,sysModules→Ks,typeLookup→Kt,wpAny_Name→Ku,GenState→LD,IntMulOk→LF,Params→LG,bindArgs→LI,intItems→LJ,builtinLookup_eq_fast→Yx,call_sum_walkG→Yy,checkBuiltinCall→Yz,firstArgMember→YA,isSubtype_stop→YB,noFill_tuple_add→YC,recursionLimit→YD,slot_list_getitem→YE,typeLookup_type→YF,wpAny_assign_Name→YG,wpAny_comprehension_free→YH,wpAny_eqBool_int→YI,wpAny_execs_nil→YJ,wpAny_isInstance→YK,wpAny_pyIter_enum→YL,wpAny_pyIter_zip→YM,wpAny_pyNext_list_end→YN,wpAny_pyNext_list_item→YO,wpAny_setField→YQ
open PySem.Heap renaming get?_push_of_some→As,get?_push_size→AC,lt_size→AF,size_push→Bz,get?_update_other→Dp,get?_update_self→Dx,SameBut→EZ,get?_push_ne→FU,size_update→HF,ExtBut→Im,FlyingW→Yb,MadeExcOf→Yc,get?_none_of_le→Ye,get?_push_cases→Yg
open List renaming mem_cons_of_mem→Au,mem_cons→Aw,mem_cons_self→Ax,size_toArray→AE,mem_filter→AO,getElem?_eq_getElem→AU,not_mem_nil→A3,getD_eq_getElem?_getD→A8,getElem?_eq_some_iff→Ba,range→Bk,mem_singleton→BA,length_map→BD,length_set→BE,toArray→BF,mem_append_right→BO,nodup_cons→B4,lookup_cons→B5,map_cons→B7,length_cons→Ck,length_append→Cw,mem_map→CI,all_eq_true→C8,getElem?_set_self→Do,mem_range→Dv,append_nil→Dz,mem_of_getElem?→DA,filter_cons→DI,forIn_nil→DJ,pairwise_cons→DQ,forIn_cons→DX,getElem?_map→D7,isEmpty_eq_false_iff→Eh,pairwise_iff_getElem→Ei,zipWith→Ep,map_congr_left→Ez,getElem?_cons_succ→EB,getElem?_cons_zero→EC,all_cons→EL,replicate→EW,getElem_mem→E3,drop_eq_getElem_cons→Fo,getElem?_append_left→Fp,map_map→FB,map_nil→FC,getElem?_set_self'→FP,filter_congr→FS,zipIdx_cons→F9,length_replicate→Gg,getElem?_of_mem→Gn,getElem?_set_ne→Go,mem_append→Gp,zipIdx_nil→Gq,filterMap_cons→GL,getElem_of_mem→GM,zip_cons_cons→G8,getElem?_set→Hs,isEmpty_iff→HB,length_take→HC,of_mem_zip→Ie,range'→Il,map→Lv,all_map→WX,any_cons→WY,any_eq_true→WZ,contains_eq_mem→W1,drop_eq_nil_of_le→W2,ext_getElem→W3,ext_getElem?→W5,foldl_cons→W6,getElem?_append_right→W7,getElem?_replicate→W8,getElem?_toArray→W9,length→Xa,length_drop→Xb,length_erase_of_mem→Xc,length_singleton→Xd,lookup→Xe,lookup_cons_self→Xf,mem_append_left→Xg,mem_erase_of_ne→Xh,mem_filterMap→Xi,nodup_nil→Xj,pairwise_singleton→Xk,range_succ_eq_map→Xl,replicate_succ→Xm,reverse_cons→Xn,set_set→Xo,take_append_drop→Xp
open Nat renaming lt_of_lt_of_le→AD,le_refl→AS,ne_of_lt→A1,lt_irrefl→Bw,le_trans→BK,lt_of_le_of_lt→BU,ne_of_gt→CU,zero_le→CW,lt_succ_of_lt→CY,le_of_lt→DR,ble_eq_true_of_le→DY,le_of_lt_succ→D8,ble→En,le_add_right→Er,lt_of_le_of_ne→EN,not_lt→EO,le_of_ble_eq_true→EX,not_lt_zero→Fq,lt_trans→FD,le_succ→F0,lt_succ_self→Ga,pow_le_pow_right→Gr,add_le_add_left→GN,le_of_eq→HE,le_antisymm→Ig,one_pos→JP,sub_le→Kf,sub_lt→Kg,add_sub_cancel'→Xq,le_of_sub_eq_zero→Xr,le_pred_of_lt→Xs,lt_of_not_le→Xu,min_self→Xv,sub_lt_sub_right→Xx,zero_add→Xy
open Int renaming emod_eq_of_lt→AM,emod_emod_of_dvd→AV,emod_lt_of_pos→AW,emod_nonneg→AZ,mul_emod→A2,zero_emod→A7,dvd_refl→BB,mul_comm→BV,one_mul→CC,mul_zero→Dm,mul_one→DN,zero_mul→EV,add_mul_emod_self_left→Fd,zero_add→FA,mul_assoc→F7,toNat_natCast→Hr,sub_emod→Jj,sub_zero→Jk,le_refl→JN,mul_pos→JO,add_emod→WO,dvd_neg→WP,dvd_of_emod_eq_zero→WQ,ediv_nonneg→WR,emod_eq_zero_of_dvd→WS,le_trans→WT,mul_sub→WU,sub_add_cancel→WV,sub_self→WW
open PySem.Str renaming ofString→AQ
open PySem.Builtin.SmallTypes renaming nextOf→A4,ownedTupleIsFree→A5,ownedTupleHandOut→C9
open PySem.W.Fast renaming te10274390034422433532→Bc,te14082659384304107361→Be,te14289696077712309145→Bf,te14364793385576792824→Bg,te1435165496053646825→Bi
open Prod renaming ext→Bp
open PySem.Obj renaming mapSeq→By,data_mapFields→Yi
open PySem.W renaming mg_none_of→BM,nsIn→B9,fencedOpening→De,keepIn→DK,fnOf→Ev,hideAll_get→EA,openEnds→ER,topFrom→Fi,OpenLaw→F5,kasC_bind→Gj,hideAll→Gz,hideAll_none→GA,codeIn→GQ,of_hideAll→G9,methodObj→Ht,findIn→II,kas_item→IP,mg_of→Jh,kasC_pure→Jo,kas_count→Jp,kas_st→Jq,kas_rev→Kw,kasC_cons→Lu,kasC_get→LH,WalkO→Yq,cellsFrom_some→Yr,funFrames_hide→Ys,kIn_of→Yt,kitOne→Yu,subIn→Yv
open PyProof.Rows renaming callWith_type1→BR,seqObj→Cs,envOfC→Fe,AllBare→FN,boot_tuple→FQ,boot_list→F3,IntsAre→Gh,failedOf→GP,Call_→Hu,arrOf→IN,IsTup→JK,boot_range→Kh,pendingOf→Lq,sortRuns'→Lr,SortSt→Lw,boot_zip→XB,callWith_builtin1→XC,slicePart_none→XD,slot_tuple_getitem→XE,subscriptTail_builtinR→XF
open Option.some renaming inj→BW,injEq→Cr
open Array renaming getElem?_eq_getElem→BZ,length_toList→CF,getD_eq_getD_getElem?→DP,getElem?_toList→DW,toArray_toList→Gk,getElem?_push→GK,toList_inj→HA,toList→Ji,forIn_toList→WH,getD→WI,getElem?_eq_some_iff→WJ,size_push→WK
open PySem.NameKind renaming cell→Ce,free→D4
open PySem.F renaming slot_zip_next→Cz,slot_tuple_iterator_next→D0,args_zip_next_1→D9,entry_zip_next→Et,slot_list_extend→EY,plain_extend_loop→Fk,plainAttrs_list→FR,args_list_extend_2→XO,args_object_init_2→XQ,args_tuple_add_2→XR,args_tuple_iterator_next_1→XS,called_zip→XU,entry_extend_loop→XV,entry_list_extend→XY,entry_tuple_add→XZ,entry_tuple_iterator_next→X3,entry_zip_new→X4,plain_list_iadd→X5,plain_tuple_new→X6,slot_tuple_add→X7,slot_zip_iter→X8,type_list_extend→X9
open PySem.Builtin.Tuple renaming tupleExact→Da
open PySem.Value renaming none→Dg,type→DO,ref→DS,int→Ih,bool→Ym,str→Yn
open PySem.Builtin.List renaming listTooLong→DB,listExtendWith→XI,listSameRef→XJ
open Ne renaming symm→DZ
open Classical renaming byContradiction→Ef,choose_spec→EU,choose→WM
open False renaming elim→Eg
open PySem.Around renaming under_plainId→Ej
open PySem.Builtin.Slice renaming slicePlaces→Ek,sliceAdjust→Fs,sliceApplied→XM
open ForInStep renaming yield→EM
open PySem.Calls renaming spliced_cons→FE,spliced_nil→FT,Name_function_global→XN
open PySem.Shared renaming heap→F4
open PyProof.Rows.SortSt renaming mk'→Gu
open PySem.SeqAt renaming EqAt→Gw,RcNeAt→Jn,RcAt→Kl
open PySem.Heap.SameBut renaming update→GO,refl→Yd
open Sum renaming inl→Hy,inr→Hz
open List.cons renaming injEq→Ic
open List.Perm renaming cons→IH
open Nat.succ renaming inj→Jl
open PyProof.Rows.IsTup renaming new→Jm
open PySem.Walks renaming list→Km,tuple→Yw
open NeZero renaming ne→Lp
open PySem.Data renaming cell→Ls,seq→Lz
open Function renaming comp_def→WN
open PySem.AutoSeq1 renaming wpAny_loadPart'→XG
open PySem.Builtin.Int renaming intBits→XH
open PySem.IsRange renaming new→Yh
open PySem.Paired renaming length→Yj
open PySem.SeqAt.EqAt renaming of_refs→Yk,same→Yl
open PySem.W.WData renaming int→Yo
open PySem.W.WShape renaming has→Yp
abbrev Fg:=PySem.W.Frag
abbrev Pn:=Ac (PySem.Addr×PySem.Obj)
abbrev Vq:=PySem.Value->PySem.Shared->Prop
set_option genSizeOfSpec false
-- CHANGE: your row's module here,as the last of these rows
namespace L2
open PySem PySem.Spec PyProof.Rows
abbrev Key:=Sum Ae Ak
noncomputable def Wh:Key->Ai->Ao
 |.inl k,v=>Value.isInt k v
 |.inr x,v=>Value.isStrOf x v
noncomputable def YV(w:AK):Key->Ae
 |.inl k=>hashInt k
 |.inr x=>hashStr w x
theorem IW:∀{k:Key}{v:Ai},Wh k v=Aa->(∃ i t,k=Hy i/\v=Ih i t)\/(∃ x t,k=Hz x/\v=Yn x t)
 |.inl i,v,h=>by
  obtain⟨t,e⟩:=Value.isInt_shape (k:=i) (v:=v) h;exact .inl ⟨i,t,rfl,e⟩
 |.inr x,v,h=>by
  obtain⟨t,e⟩:=Value.isStrOf_shape (x:=x) (v:=v) h;exact .inr ⟨x,t,rfl,e⟩
theorem tD(a b:Ae):decide ((Hy a:Key)=Hy b)=(a==b):=by
 by_cases e:a=b
 ·subst e;simp
 ·have h:¬ (Hy a:Key)=Hy b:=fun q=>e (Sum.inl.inj q)
  rw[CB h];exact(DH.mpr e).symm
theorem sX(a b:Ak):decide ((Hz a:Key)=Hz b)=decide (a=b):=by
 by_cases e:a=b
 ·subst e;simp
 ·have h:¬ (Hz a:Key)=Hz b:=fun q=>e (Sum.inr.inj q)
  rw[CB h,CB e]
theorem sZ(a:Ae)(b:Ak):decide ((Hy a:Key)=Hz b)=Ad:=CB (fun q=>nomatch q)
theorem sY(a:Ak)(b:Ae):decide ((Hz a:Key)=Hy b)=Ad:=CB (fun q=>nomatch q)
noncomputable def PF(prog:A9)(w:AK):PySem.KeyKind prog w Key where
 is:=Wh
 hash:=YV w
 inj:=fun v a b ha hb=>by
  rcases IW ha with ⟨i,t,rfl,rfl⟩|⟨x,t,rfl,rfl⟩
  ·rcases IW hb with ⟨j,u,rfl,e⟩|⟨y,u,rfl,e⟩
   ·injection e with e1 _;rw[e1]
   ·exact nomatch e
  ·rcases IW hb with ⟨j,u,rfl,e⟩|⟨y,u,rfl,e⟩
   ·exact nomatch e
   ·injection e with e1 _;rw[e1]
 byValue:=fun k v h=>by
  rcases IW h with ⟨i,t,rfl,rfl⟩|⟨x,t,rfl,rfl⟩<;>rfl
 pyHash:=fun hv h=>by
  rcases IW hv with ⟨i,t,rfl,rfl⟩|⟨x,t,rfl,rfl⟩
  ·exact wpAny_pyHash_int h
  ·exact wpAny_pyHash_str h
 eqBool:=fun hu hv h=>by
  rcases IW hu with ⟨i,t,rfl,rfl⟩|⟨x,t,rfl,rfl⟩
  ·rcases IW hv with ⟨j,u,rfl,rfl⟩|⟨y,u,rfl,rfl⟩
   ·rw[tD]at h;exact YI h
   ·rw[sZ]at h;exact SeqAt.EqAt.int_str i t y u _ _ _ _ h
  ·rcases IW hv with ⟨j,u,rfl,rfl⟩|⟨y,u,rfl,rfl⟩
   ·rw[sY]at h;exact SeqAt.EqAt.str_int x t j u _ _ _ _ h
   ·rw[sX]at h;exact wpAny_eqBool_str h
 «strs»:=fun k x t v h=>by
  rcases IW h with ⟨i,u,rfl,e⟩|⟨y,u,rfl,e⟩
  ·exact nomatch e
  ·injection e with e1 _
   subst e1;cases v<;>rfl
end L2
namespace L2
open PySem PySem.Spec PyProof.Rows
variable{us:Ac Ai}{a b it:Al}{P:A9}{h:AT}{o:DC}{g':AR LD}{t' i k n:Ag}{d':Drawn}{ch fp:Ac Al}{x qual:Ak}{M:Kj}{u:Ai}{Q:JS->Ap->Prop}{e tg:Ar}{s:Ap}{pos p:Bb}{pI:Pn}{es:Ac Ar}{body:Ac B8}{f:Ai->Ai->Hc Ai}{g:Ae->Ae->Ae}{op:Ft}{fd:CS}{ps:Ac Ak}{scope:CN}
inductive V where
 |non|bl (b:Ao)|int (i:Ae)|str (x:Ak)|byt (b:AR UInt8)|flt (b:UInt64)|ref (a:Al)|ty (n:Ec)
 deriving DecidableEq
variable{xs vs:Ac V}{v:V}
def BY:V->Ai->Prop
 |.non,u=>u=Dg
 |.bl b,u=>u=Ym b
 |.int i,u=>∃ t,u=Ih i t
 |.str x,u=>∃ t,u=Yn x t
 |.byt b,u=>∃ t,u=Value.bytes b t
 |.flt b,u=>∃ t,u=Value.float b t
 |.ref a,u=>u=DS a
 |.ty n,u=>u=DO n
noncomputable abbrev Br:Ac V->Ac Ai->Prop:=HI BY
theorem Br.length(r:Br xs us):xs.length=us.length:=Yj r
theorem Br.get:∀{xs:Ac V}{us:Ac Ai}{i:Ag}{x:V},Br xs us->xs[i]?=Ab x->∃ u,us[i]?=Ab u/\BY x u
 |_,_,_,_,.nil,e=>by simp at e
 |_,_,0,_,.cons r _,e=>by simp at e;subst e;exact⟨_,rfl,r⟩
 |_,_,i+1,x,.cons _ t,e=>by
  obtain⟨u,h1,h2⟩:=Br.get (i:=i) (x:=x) t (by simpa using e)
  exact⟨u,by simpa using h1,h2⟩
theorem Br.set{x:V}{u:Ai}(r:BY x u):∀{xs:Ac V}{us:Ac Ai}(i:Ag),Br xs us->Br (xs.set i x) (us.set i u)
 |_,_,_,.nil=>.nil
 |_,_,0,.cons _ t=>.cons r t
 |_,_,i+1,.cons q t=>.cons q (Br.set r i t)
theorem Br.append:∀{xs ys:Ac V}{us ws:Ac Ai},Br xs us->Br ys ws->Br (xs++ys) (us++ws)
 |_,_,_,_,.nil,s=>s
 |_,_,_,_,.cons r t,s=>.cons r (Br.append t s)
theorem Br.take:∀{xs:Ac V}{us:Ac Ai}(n:Ag),Br xs us->Br (xs.take n) (us.take n)
 |_,_,0,_=>.nil
 |_,_,_+1,.nil=>.nil
 |_,_,n+1,.cons r t=>.cons r (Br.take n t)
theorem Br.drop:∀{xs:Ac V}{us:Ac Ai}(n:Ag),Br xs us->Br (xs.drop n) (us.drop n)
 |_,_,0,r=>r
 |_,_,_+1,.nil=>.nil
 |_,_,n+1,.cons _ t=>Br.drop n t
def RV:At V->At Ai->Prop
 |some v,Ab u=>BY v u
 |none,Af=>IU
 |_,_=>BN
def KV{κ:Type}:Ac (κ×V)->Ac (κ×Ai)->Prop:=HI fun(p:κ×V)(q:κ×Ai)=>p.1=q.1/\BY p.2 q.2
noncomputable def kV:Key->V
 |.inl i=>.int i
 |.inr x=>.str x
inductive HO where
 /-- a list -/
 |lst (xs:Ac V)
 /-- a tuple (never changes) -/
 |tup (xs:Ac V)
 /-- a dict whose keys are ints and texts;one whose keys are tuples of ints and texts (the empty one is both) -/
 |dK (kvs:Ac (Key×V))|dT (kvs:Ac (Ac Key×V))
 /-- a set of ints: its members,its size -/
 |set (S:Ae->Ao) (n:Ag)
 /-- an instance of the class at C,its dict at dx,its attributes -/
 |ins (C dx:Al) (fs:Ac (Ak×V))
 /-- the dict of the instance at x -/
 |own (x:Al)
 /-- the dict of an exception -/
 |xd (fs:Ac (Ak×V))
 /-- a bound method,f of x -/
 |met (f x:Al)
 /-- a range object lo,lo+1,.. below hi -/
 |rng (lo hi:Ae)
 /-- a thing that is known to the object (the script;a dict while a loop walks it): read,never written while it is so -/
 |frz (o:DC) (u:HO)
 /-- a code object's table -/
 |tbl (ps:AR Ai)
 /-- any other thing,by what is Aa of its one object (a def of one's own: SetO a S n:=HO.ext fun h=>..) -/
 |ext (φ:AT->Prop)
abbrev Hp:=Al->At HO
variable{H:Hp}
noncomputable def upd(H:Hp)(a:Al)(o:HO):Hp:=fun b=>if b=a then Ab o else H b
theorem HJ{o:HO}:upd H a o a=Ab o:=by unfold upd;rw[Ay rfl]
theorem Di{o:HO}(h:b≠a):upd H a o b=H b:=by unfold upd;rw[AH h]
theorem Gb{o:HO}(h:H a=Ab o)(h':H b=Af):a≠b:=by
 intro e;subst e;rw[h]at h';cases h'
section
variable(P:A9)(w:AK)
def ObjOk(H:Hp)(h:AT)(a:Al):HO->Prop
  |.lst xs=>xs.length<=sizeLine/\∃(its:Ac Ai)(n:Ag),Br xs its/\h.get? a=Ab { cls:=.type "list", data:=.seq its.toArray n }
  |.tup xs=>xs.length<=sizeLine/\∃ its:Ac Ai,Br xs its/\JK h a its.toArray
  |.dK kvs=>kvs.length<=sizeLine/\(a==Ks)=Ad/\∃ vs,KV kvs vs/\h.DictOf (PF P w) a vs
  |.dT kvs=>kvs.length<=sizeLine/\(a==Ks)=Ad/\∃ xs:Ac (Ac Key×Al×Ai),
      HI (fun(p:Ac Key×V)(q:Ac Key×Al×Ai)=>p.1=q.1/\H q.2.1=Ab (.tup (p.1.map kV))/\BY p.2 q.2.2) kvs xs /\
      ∃ o es ep,h.get? a=Ab o/\o.ExactDict/\o.data=.dict es ep/\es.toList=xs.map (entryOfKey (tupleKind (PF P w)))/\(xs.map (·.1)).Nodup
  |.set S n=>h.SetOf (intKind P w) a S n
  |.ins C dx fs=>H dx=Ab (.own a)/\fs.length<=1000/\dx≠a/\h.get? a=Ab (PySem.W.instObj C dx) /\
      ∃ mA,h.Ns1 dx mA/\(∀ f,RV (fs.lookup f) (mA f))/\PySem.Within mA (fs.map (·.1))
  |.own _=>∃ o,h.get? a=Ab o
  |.xd fs=>∃ mA,h.Ns1 a mA/\∀ f,RV (fs.lookup f) (mA f)
  |.rng lo hi=>∃ t u v,h.get? a=Ab { cls:=.type "range", data:=.fields #[.int lo t,.int hi u,.int 1 v] }
  |.frz o u=>h.get? a=Ab o/\ObjOk H h a u
  |.tbl ps=>h.get? a=Ab {cls:=.none,data:=.fields ps}
  |.met f x=>h.get? a=Ab (Ht (.ref f) (.ref x))
  |.ext φ=>φ h/\(∃ o,h.get? a=Ab o)/\∀ h1 h2:AT,φ h1->(∀ o,h1.get? a=Ab o->h2.get? a=Ab o)->φ h2
def HOk(H:Hp)(h:AT):Prop:=∀ a o,H a=Ab o->ObjOk P w H h a o
end
section
variable{P:A9}{w:AK}{H H':Hp}{h h':AT}{a:Al}{o:HO}
theorem ObjOk.lt(x:ObjOk P w H h a o):a<h.objs.size:=by
 cases o with
 |lst xs=>obtain⟨_,_,_,_,e⟩:=x;exact AF e
 |tup xs=>obtain⟨_,_,_,p⟩:=x;exact p.lt
 |dK kvs=>obtain⟨_,_,_,_,o,_,_,e,_⟩:=x;exact AF e
 |dT kvs=>obtain⟨_,_,_,_,o,_,_,e,_⟩:=x;exact AF e
 |set S n=>obtain⟨o,_,_,_,e,_⟩:=x;exact AF e
 |ins C dx fs=>obtain⟨_,_,_,e,_⟩:=x;exact AF e
 |own y=>obtain⟨_,e⟩:=x;exact AF e
 |xd fs=>obtain⟨_,⟨_,_,_,e,_⟩,_⟩:=x;exact AF e
 |rng lo hi=>obtain⟨_,_,_,e⟩:=x;exact AF e
 |frz ob u=>obtain⟨e,_⟩:=x;exact AF e
 |tbl ps=>exact AF (show h.get? a=Ab _ from x)
 |met f y=>exact AF (show h.get? a=Ab _ from x)
 |ext φ=>obtain⟨_,⟨_,e⟩,_⟩:=x;exact AF e
theorem HI.mapP{α β:Type}{F G:α->β->Prop}:∀{l₁:Ac α}{l₂:Ac β},HI F l₁ l₂->(∀ a b,F a b->G a b)->HI G l₁ l₂
 |_,_,.nil,_=>.nil
 |_,_,.cons r t,f=>.cons (f _ _ r) (HI.mapP t f)
theorem ObjOk.stay(x:ObjOk P w H h a o)(k:∀ b u,(b=a\/H b=Ab (.own a))->h.get? b=Ab u->h'.get? b=Ab u)(ho:∀ b,H b=Ab (.own a)->H' b=Ab (.own a))(ht:∀ b xs,H b=Ab (.tup xs)->H' b=Ab (.tup xs)):ObjOk P w H' h' a o:=by
 induction o with
 |lst xs=>obtain⟨z,its,n,r,e⟩:=x;exact⟨z,its,n,r,k _ _ (.inl rfl) e⟩
 |tup xs=>obtain⟨z,its,r,ob,e,c⟩:=x;exact⟨z,its,r,ob,k _ _ (.inl rfl) e,c⟩
 |dK kvs=>obtain⟨z,y,vs,r,ob,es,ep,e,c⟩:=x;exact⟨z,y,vs,r,ob,es,ep,k _ _ (.inl rfl) e,c⟩
 |dT kvs=>
  obtain⟨z,y,xs,r,ob,es,ep,e,c⟩:=x;exact⟨z,y,xs,HI.mapP r fun p q z=>⟨z.1,ht _ _ z.2.1,z.2.2⟩,ob,es,ep,k _ _ (.inl rfl) e,c⟩
 |set S n=>obtain⟨ob,es,ep,t,e,c⟩:=x;exact⟨ob,es,ep,t,k _ _ (.inl rfl) e,c⟩
 |ins C dx fs=>
  obtain⟨d,z,ne,e,mA,⟨od,es,ep,e2,c⟩,r⟩:=x;exact⟨ho _ d,z,ne,k _ _ (.inl rfl) e,mA,⟨od,es,ep,k _ _ (.inr d) e2,c⟩,r⟩
 |own y=>obtain⟨ob,e⟩:=x;exact⟨ob,k _ _ (.inl rfl) e⟩
 |xd fs=>obtain⟨mA,⟨od,es,ep,e,c⟩,r⟩:=x;exact⟨mA,⟨od,es,ep,k _ _ (.inl rfl) e,c⟩,r⟩
 |rng lo hi=>obtain⟨t,u,v,e⟩:=x;exact⟨t,u,v,k _ _ (.inl rfl) e⟩
 |frz ob u ih=>obtain⟨e,q⟩:=x;exact⟨k _ _ (.inl rfl) e,ih q⟩
 |tbl ps=>
  have e:h.get? a=Ab {cls:=.none,data:=.fields ps}:=x;show h'.get? a=Ab {cls:=.none,data:=.fields ps};exact k a _ (.inl rfl) e
 |met f y=>
  have e:h.get? a=Ab (Ht (.ref f) (.ref y)):=x;show h'.get? a=Ab (Ht (.ref f) (.ref y));exact k a _ (.inl rfl) e
 |ext φ=>obtain⟨p,⟨o,e⟩,st⟩:=x;exact⟨st _ _ p fun o q=>k _ _ (.inl rfl) q,⟨o,k _ _ (.inl rfl) e⟩,st⟩
theorem HOk.lt(x:HOk P w H h)(e:H a=Ab o):a<h.objs.size:=(x a o e).lt
theorem HOk.fresh(x:HOk P w H h)(e:h.objs.size<=a):H a=Af:=by
 cases q:H a with
 |none=>rfl
 |some u=>exact absurd (AD (x.lt q) e) (Bw _)
theorem HOk.kept(x:HOk P w H h)(k:∀ b u,h.get? b=Ab u->h'.get? b=Ab u):HOk P w H h':=fun a o e=>
 (x a o e).stay (fun b u _ q=>k b u q) (fun _ q=>q) fun _ _ q=>q
theorem HOk.laid(x:HOk P w H h)(k:∀ b u,h.get? b=Ab u->h'.get? b=Ab u)(hp:h.objs.size<=a)(new:ObjOk P w (upd H a o) h' a o):HOk P w (upd H a o) h':=fun b u e=>by
 have hn:=x.fresh hp;by_cases hb:b=a
 ·subst hb;rw[HJ]at e;cases e;exact new
 ·rw[Di hb]at e;exact(x b u e).stay (fun c v _ q=>k c v q) (fun c q=>by rw[Di (Gb q hn)];exact q) fun c xs q=>by rw[Di (Gb q hn)];exact q
end
def Rd(H:Hp)(a:Al)(u:HO):Prop:=H a=Ab u\/∃ o,H a=Ab (.frz o u)
theorem Rd.ok{w:AK}{u:HO}(r:Rd H a u)(x:HOk P w H h):ObjOk P w H h a u:=by
 rcases r with r|⟨o,r⟩
 ·exact x a u r
 ·obtain⟨_,q⟩:=x a _ r;exact q
def Mut:At HO->Prop
 |some (.lst _)=>IU
 |some (.dK _)=>IU
 |some (.dT _)=>IU
 |some (.set _ _)=>IU
 |some (.ins _ _ _)=>IU
 |some (.ext _)=>IU
 |_=>BN
section
variable{P:A9}{w:AK}{H:Hp}{h h':AT}{x e:Al}{o':HO}
theorem HOk.write(ok:HOk P w H h)(mu:Mut (H x))(he:e=x\/H e=Ab (.own x))(k:∀ b u,b≠e->h.get? b=Ab u->h'.get? b=Ab u)(heo:∃ u,h'.get? e=Ab u)(new:ObjOk P w (upd H x o') h' x o'):HOk P w (upd H x o') h':=fun b u q=>by
 have nown:∀ c y,H c=Ab (.own y)->c≠x:=fun c y r z=>by subst z;rw[r]at mu;exact mu
 have ntup:∀ c xs,H c=Ab (.tup xs)->c≠x:=fun c xs r z=>by subst z;rw[r]at mu;exact mu
 by_cases hb:b=x
 ·subst hb;rw[HJ]at q;cases q;exact new
 ·rw[Di hb]at q;by_cases hbe:b=e
  ·have q':H b=Ab (.own x):=by
    rcases he with z|z
    ·exact absurd (hbe.trans z) hb
    ·rw[hbe];exact z
   rw[q]at q';cases q';obtain⟨v,hv⟩:=heo;exact⟨v,by rw[hbe];exact hv⟩
  ·refine(ok b u q).stay (fun c v hc r=>k c v ?_ r) (fun c r=>by rw[Di (nown c b r)];exact r) fun c xs r=>by rw[Di (ntup c xs r)];exact r
   rcases hc with rfl|hc
   ·exact hbe
   ·rintro rfl;rcases he with z|z
    ·exact nown c b hc z
    ·rw[hc]at z;cases z;exact hb rfl
end
structure Un (fs ex:Ac Al) (H H':Hp) (h h':AT):Prop where
 keep:∀ b o,h.get? b=Ab o->H b=Af->b∉fs->b∉ex->h'.get? b=Ab o
 slot:∀ b o,h.get? b=Ab o->H b=Af->b∈fs->b∉ex->∃ sl,h'.get? b=Ab {o with slots:=sl}
 free:∀ b o,h.get? b=Ab o->H b=Af->b∉ex->H' b=Af
 there:∀ b o,h.get? b=Ab o->b∉ex->∃ o',h'.get? b=Ab o'
 tups:∀ b xs,H b=Ab (.tup xs)->H' b=Ab (.tup xs)
 frzs:∀ b o u,H b=Ab (.frz o u)->H' b=Ab (.frz o u)
 tbls:∀ b ps,H b=Ab (.tbl ps)->∃ more,H' b=Ab (.tbl (ps++more))
section
variable{fs fs' ex ex':Ac Al}{H H1 H2:Hp}{h h1 h2 h':AT}{a x e:Al}{o:HO}
theorem Un.any(u:Un fs ex H H1 h h1){ob:DC}(q:h.get? b=Ab ob)(n:H b=Af)(hx:b∉ex):∃ sl,h1.get? b=Ab {ob with slots:=sl}:=by
 by_cases hb:b∈fs
 ·exact u.slot b ob q n hb hx
 ·exact⟨ob.slots,u.keep b ob q n hb hx⟩
theorem Un.kept(k:∀ b u,h.get? b=Ab u->h'.get? b=Ab u):Un fs ex H H h h':=
 ⟨fun b ob q _ _ _=>k b ob q,fun b ob q _ _ _=>⟨ob.slots,k b ob q⟩,fun _ _ _ n _=>n,fun b ob q _=>⟨ob,k b ob q⟩,fun _ _ q=>q,fun _ _ _ q=>q,fun _ ps q=>⟨#[],by rw[q];simp⟩⟩
theorem Un.refl:Un fs ex H H h h:=Un.kept fun _ _ q=>q
theorem Un.laid(k:∀ b u,h.get? b=Ab u->h'.get? b=Ab u)(hp:h.objs.size<=a)(hn:H a=Af):Un fs ex H (upd H a o) h h' where
 keep:=fun b u q _ _ _=>k b u q
 slot:=fun b u q _ _ _=>⟨u.slots,k b u q⟩
 free:=fun b u q n _=>by rw[Di (A1 (AD (AF q) hp))];exact n
 there:=fun b u q _=>⟨u,k b u q⟩
 tups:=fun b xs q=>by rw[Di (Gb q hn)];exact q
 frzs:=fun b u xs q=>by rw[Di (Gb q hn)];exact q
 tbls:=fun b ps q=>⟨#[],by rw[Di (Gb q hn),q];simp⟩
theorem Un.write(mu:Mut (H x))(he:e=x\/H e=Ab (.own x))(k:∀ b u,b≠e->h.get? b=Ab u->h'.get? b=Ab u)(heo:∃ u,h'.get? e=Ab u):Un fs ex H (upd H x o) h h':=by
 have hx:∀ b,H b=Af->b≠x:=fun b n z=>by subst z;rw[n]at mu;exact mu
 have hb:∀ b,H b=Af->b≠e:=fun b n z=>by
  subst z;rcases he with r|r
  ·exact hx b n r
  ·rw[n]at r;cases r
 have hm:∀ b u,H b=Ab u->¬ Mut (Ab u)->b≠x:=fun b u q nm z=>by subst z;rw[q]at mu;exact nm mu
 refine⟨fun b u q n _ _=>k b u (hb b n) q,fun b u q n _ _=>⟨u.slots,k b u (hb b n) q⟩,fun b u q n _=>by rw[Di (hx b n)];exact n,fun b u q _=>?_,
  fun b xs q=>by rw[Di (hm b _ q fun z=>z)];exact q,fun b u xs q=>by rw[Di (hm b _ q fun z=>z)];exact q,fun b ps q=>⟨#[],by rw[Di (hm b _ q fun z=>z),q];simp⟩⟩
 by_cases hbe:b=e
 ·subst hbe;exact heo
 ·exact⟨u,k b u hbe q⟩
end
noncomputable def trk(h:AT)(H:Hp):Ac Al:=(Bk h.objs.size).filter fun a=>(H a).isSome
noncomputable def Je(h:AT)(H:Hp):AT:=Gz h (trk h H)
theorem bY(h:AT)(H:Hp):(Je h H).objs.size=h.objs.size:=PySem.W.hideAll_size _ _
theorem cP(e:h.get? b=Ab o)(n:H b=Af):(Je h H).get? b=Ab o:=
 EA _ e fun hm=>by
  have q:(H b).isSome=Aa:=(AO.mp hm).2;rw[n]at q;simp at q
theorem gW(e:(Je h H).get? b=Ab o):h.get? b=Ab o/\H b=Af:=by
 have e':h.get? b=Ab o:=G9 (trk h H) e;refine⟨e',?_⟩;cases q:H b with
 |none=>rfl
 |some x=>
  have hm:b∈trk h H:=AO.mpr ⟨Dv.mpr (AF e'),by simp[q]⟩
  have z:(Je h H).get? b=Af:=GA (trk h H) hm;rw[z]at e;cases e
noncomputable def mM(g h:AT)(L:Al):Pn:=(Bk h.objs.size).filterMap fun a=>if a=L\/(g.get? a).isSome=Aa then Af else (h.get? a).map fun o=>(a,o)
noncomputable def rest(g h:AT)(L d:Al):Pn:=(mM g h L).filter fun p=>decide (p.1≠d)
structure Mod (K:Fg) (mg:Ak->At Ai) (base:AT):Prop where
 kin:K.In base
 glob:base.Ns Bj mg
 blt:∃ mb,base.Ns IS mb/\∀ x:Ak,x≠"__name__"->mb x=Db x
 nolimit:base.NoLimit
structure Cx where
 prog:A9
 w:AK
 K:Fg
 mg:Ak->At Ai
 base:AT
 A:Bx
 N:Ac Ak
 s₀:Ap
 H₀:Hp
 env:Cy
 outer:Ac Cy
 stack:Ac Cy
 ex:Ac Al
 fn:Ak->Ao
 calm:Ao
 pn:Pn
 xe:Ai->Ap->Prop
variable{X:Cx}
noncomputable def frs(l:Ac Cy):Ac Al:=l.filterMap (·.frame)
noncomputable abbrev Cx.fs(X:Cx):Ac Al:=frs X.outer
def Vis(sc:CN)(x:Ak):Prop:=sc.names.lookup x=Ab .local\/sc.names.lookup x=Ab .cell\/sc.names.lookup x=Ab .free
def Loc(sc:CN)(x:Ak):Prop:=sc.names.lookup x=Ab .local\/sc.names.lookup x=Ab .cell
noncomputable def Zz(env:Cy)(h:AT)(m:Ak->At Ai)(x:Ak)(u:Ai):Prop:=
 (env.kindOf x=Ab .local/\m x=Ab u)\/((env.kindOf x=Ab .cell\/env.kindOf x=Ab .free)/\∃ c,env.cells.lookup x=Ab c/\h.IsCell c (Ab u))
structure Cx.Ok (X:Cx):Prop where
 mod:Mod X.K X.mg X.base
 kind:X.env.scope.kind=.function
 glob:X.env.globals=Bj
 blt:X.env.builtins=IS
 above:X.s₀.heap.objs.size<=X.env.locals
 inj:∀ x y c,X.env.cells.lookup x=Ab c->X.env.cells.lookup y=Ab c->x=y
 has:∀ x,(X.env.kindOf x=Ab .cell\/X.env.kindOf x=Ab .free)->∃ c,X.env.cells.lookup x=Ab c
 cab:∀ x c,X.fn x=Aa->X.env.cells.lookup x=Ab c->X.s₀.heap.objs.size<=c
 hd:X.calm=Aa->X.A.handled=Af
 frames:X.A.frames=Ab X.stack
 stk:X.stack=X.outer\/(X.stack=X.env::X.outer/\X.env.frame=Ab X.env.locals)
 exf:∀ b∈X.ex,b≠X.env.locals/\∀ x c,X.env.cells.lookup x=Ab c->c≠b
 bs:∀ b o,X.base.get? b=Ab o->X.s₀.heap.get? b=Ab o/\X.H₀ b=Af
 bsz:X.base.objs.size<=X.s₀.heap.objs.size
 noex:∀ b o,X.base.get? b=Ab o->b∉X.ex
 exfs:∀ b∈X.ex,b∉X.fs
 funs:X.s₀.heap.FunFrames X.base X.outer
 frf:∀ b∈X.fs,X.H₀ b=Af
structure Inv (X:Cx) (pI:Pn) (σ:Ac (At V)) (H:Hp) (s:Ap):Prop where
 ok:X.Ok
 os:s.os=X.s₀.os
 bare:FN s.gens
 base:Un X.fs X.ex X.H₀ H X.s₀.heap s.heap
 loc:∃ m,s.heap.Ns X.env.locals m/\∀(i:Ag)(x:Ak)(v:V),X.N[i]?=Ab x->σ[i]?=Ab (Ab v)->Vis X.env.scope x->∃ u,BY v u/\Zz X.env s.heap m x u
 cell:∀ x c,X.env.cells.lookup x=Ab c->∃ v,s.heap.IsCell c v
 free:H X.env.locals=Af
 freeC:∀ x c,X.env.cells.lookup x=Ab c->H c=Af
 pin:∀ p∈X.pn++pI,s.heap.get? p.1=Ab p.2/\H p.1=Af/\p.1≠X.env.locals/\p.1∉X.fs/\∀ v,p.2.data≠.cell v
 hok:HOk X.prog X.w H s.heap
 len:σ.length=X.N.length
section
variable{X:Cx}{pI:Pn}{σ:Ac (At V)}{H H':Hp}{s:Ap}{h':AT}
theorem Cx.Ok.nofr(ok:X.Ok)(e:X.base.get? b=Ab o):b∉X.fs:=fun hb=>by
 have:=(ok.funs.mem hb).1;rw[e]at this;cases this
theorem Inv.bs(I:Inv X pI σ H s):∀ b o,X.base.get? b=Ab o->s.heap.get? b=Ab o/\H b=Af:=fun b o e=>
 ⟨I.base.keep b o (I.ok.bs b o e).1 (I.ok.bs b o e).2 (I.ok.nofr e) (I.ok.noex b o e),I.base.free b o (I.ok.bs b o e).1 (I.ok.bs b o e).2 (I.ok.noex b o e)⟩
theorem Inv.bk(I:Inv X pI σ H s):∀ b o,X.base.get? b=Ab o->s.heap.get? b=Ab o:=fun b o e=>(I.bs b o e).1
theorem Inv.mod(I:Inv X pI σ H s):Mod X.K X.mg X.base:=I.ok.mod
theorem Inv.kIn(I:Inv X pI σ H s):X.K.In s.heap:=I.ok.mod.kin.keeps I.bk
theorem Inv.lt(I:Inv X pI σ H s):X.env.locals<s.heap.objs.size:=let ⟨_,hn,_⟩:=I.loc;hn.lt
theorem Inv.sz(I:Inv X pI σ H s):X.s₀.heap.objs.size<=s.heap.objs.size:=BK I.ok.above (DR I.lt)
theorem Inv.nofs(I:Inv X pI σ H s)(h:s.heap.objs.size<=a):a∉X.fs:=fun hb=>by
 obtain⟨_,o,ho,_⟩:=I.ok.funs.mem hb;exact absurd (AD (AF ho) (BK I.sz h)) (Bw _)
theorem Inv.cne(I:Inv X pI σ H s):∀ x c,X.env.cells.lookup x=Ab c->c≠X.env.locals:=fun x c e z=>by
 obtain⟨v,o,ho,hd⟩:=I.cell x c e;obtain⟨m,⟨o',es,ep,ho',hd',_⟩,_⟩:=I.loc;rw[z,ho']at ho;cases ho;rw[hd']at hd;cases hd
theorem Inv.funs(I:Inv X pI σ H s):s.heap.FunFrames X.base X.outer:=by
 have all:∀(l:Ac Cy),(∀ b∈frs l,b∈X.fs)->X.s₀.heap.FunFrames X.base l->s.heap.FunFrames X.base l:=by
  intro l
  induction l with
  |nil=>intro _ _;trivial
  |cons env r ih=>
   intro hs hl;obtain⟨hk,⟨L,o,hf,hn,ho,hd⟩,hr⟩:=hl;have hL:L∈X.fs:=hs L (by unfold frs;rw[GL,hf];exact Ax)
   obtain⟨sl,e⟩:=I.base.slot L o ho (I.ok.frf L hL) hL fun z=>I.ok.exfs L z hL
   exact⟨hk,⟨L,_,hf,hn,e,hd⟩,ih (fun b hb=>hs b (by unfold frs;rw[GL,hf];exact Au _ hb)) hr⟩
 exact all X.outer (fun _ hb=>hb) I.ok.funs
theorem Inv.stack(I:Inv X pI σ H s):s.heap.FunFrames X.base X.stack:=by
 rcases I.ok.stk with e|⟨e,hf⟩
 ·rw[e];exact I.funs
 ·rw[e];obtain⟨m,hn,_⟩:=I.loc;refine .cons (by rw[I.ok.kind];decide) hf hn ?_ I.funs
  exact Ye (BK I.ok.bsz I.ok.above)
theorem Inv.stkSub(I:Inv X pI σ H s):∀ b∈frs X.stack,b∈X.env.locals::X.fs:=fun b hb=>by
 rcases I.ok.stk with e|⟨e,hf⟩
 ·rw[e]at hb;exact Au _ hb
 ·rw[e]at hb;unfold frs at hb;rw[GL,hf]at hb;exact hb
theorem Inv.stkFree(I:Inv X pI σ H s):∀ b∈frs X.stack,H b=Af:=fun b hb=>by
 rcases Aw.mp (I.stkSub b hb) with e|hb
 ·rw[e];exact I.free
 ·obtain⟨_,o,ho,_⟩:=I.ok.funs.mem hb;exact I.base.free b o ho (I.ok.frf b hb) fun z=>I.ok.exfs b z hb
theorem Inv.step(I:Inv X pI σ H s)(hch:∀ b∈ch,(b∈X.ex\/X.s₀.heap.objs.size<=b)/\b≠X.env.locals/\(∀ x c,X.env.cells.lookup x=Ab c->c≠b)/\∀ p∈X.pn++pI,p.1≠b)(keep:∀ b o,b≠X.env.locals->b∉X.fs->b∉ch->s.heap.get? b=Ab o->H b=Af->h'.get? b=Ab o)(slot:∀ b o,b≠X.env.locals->b∈X.fs->b∉ch->s.heap.get? b=Ab o->H b=Af->∃ sl,h'.get? b=Ab {o with slots:=sl})(free:∀ b o,b∉ch->s.heap.get? b=Ab o->H b=Af->H' b=Af)(there:∀ b o,b∉ch->s.heap.get? b=Ab o->∃ o',h'.get? b=Ab o')(tups:∀ b xs,H b=Ab (.tup xs)->H' b=Ab (.tup xs))(frzs:∀ b o u,H b=Ab (.frz o u)->H' b=Ab (.frz o u))(tbls:∀ b ps,H b=Ab (.tbl ps)->∃ more,H' b=Ab (.tbl (ps++more)))(ns:∀ m,s.heap.Ns X.env.locals m->h'.Ns X.env.locals m)(hok:HOk X.prog X.w H' h')(hg:FN g'):Inv X pI σ H' {s with heap:=h',gens:=g',drawn:=d',toks:=t'}:=by
 have neL:∀ b o,X.s₀.heap.get? b=Ab o->b≠X.env.locals:=fun b o e=>A1 (AD (AF e) I.ok.above)
 have neC:∀ b o,X.s₀.heap.get? b=Ab o->b∉X.ex->b∉ch:=fun b o e hx hb=>by
  rcases (hch b hb).1 with z|z
  ·exact hx z
  ·exact absurd (AD (AF e) z) (Bw _)
 have cellK:∀ x c,X.env.cells.lookup x=Ab c->∀ v,s.heap.IsCell c v->h'.IsCell c v:=fun x c e v ⟨o,ho,hd⟩=>by
  have nch:c∉ch:=fun z=>(hch c z).2.2.1 x c e rfl
  by_cases hc:c∈X.fs
  ·obtain⟨sl,q⟩:=slot c o (I.cne x c e) hc nch ho (I.freeC x c e);exact⟨_,q,hd⟩
  ·exact⟨o,keep c o (I.cne x c e) hc nch ho (I.freeC x c e),hd⟩
 refine⟨I.ok,I.os,hg,⟨fun b o e n hb hx=>?_,fun b o e n hb hx=>?_,fun b o e n hx=>?_,fun b o e hx=>?_,fun b xs e=>tups b xs (I.base.tups b xs e),fun b o xs e=>frzs b o xs (I.base.frzs b o xs e),fun b ps e=>?_⟩,?_,fun x c e=>?_,?_,fun x c e=>?_,fun p hp=>?_,hok,I.len⟩
 ·exact keep b o (neL b o e) hb (neC b o e hx) (I.base.keep b o e n hb hx) (I.base.free b o e n hx)
 ·obtain⟨sl,e1⟩:=I.base.slot b o e n hb hx;obtain⟨sl',e2⟩:=slot b _ (neL b o e) hb (neC b o e hx) e1 (I.base.free b o e n hx);exact⟨sl',e2⟩
 ·obtain⟨o',e1⟩:=I.base.there b o e hx;exact free b o' (neC b o e hx) e1 (I.base.free b o e n hx)
 ·obtain⟨o',e1⟩:=I.base.there b o e hx;exact there b o' (neC b o e hx) e1
 ·obtain⟨m1,e1⟩:=I.base.tbls b ps e;obtain⟨m2,e2⟩:=tbls b _ e1;exact⟨m1++m2,by rw[e2,Array.append_assoc]⟩
 ·obtain⟨m,hn,hl⟩:=I.loc;refine⟨m,ns m hn,fun i x v e1 e2 e3=>?_⟩
  obtain⟨u,r,l⟩:=hl i x v e1 e2 e3;refine⟨u,r,?_⟩;rcases l with l|⟨k,c,e,z⟩
  ·exact .inl l
  ·exact .inr ⟨k,c,e,cellK x c e _ z⟩
 ·obtain⟨v,z⟩:=I.cell x c e;exact⟨v,cellK x c e v z⟩
 ·obtain⟨m,⟨o,_,_,ho,_⟩,_⟩:=I.loc;exact free _ o (fun z=>(hch _ z).2.1 rfl) ho I.free
 ·obtain⟨v,o,ho,hd⟩:=I.cell x c e;exact free c o (fun z=>(hch c z).2.2.1 x c e rfl) ho (I.freeC x c e)
 ·obtain⟨e,n,ne,nf,d⟩:=I.pin p hp;have nch:p.1∉ch:=fun z=>(hch p.1 z).2.2.2 p hp rfl
  exact⟨keep p.1 p.2 ne nf nch e n,free p.1 p.2 nch e n,ne,nf,d⟩
theorem Inv.un(I:Inv X pI σ H s)(u:Un X.fs [] H H' s.heap h')(hok:HOk X.prog X.w H' h'):Inv X pI σ H' {s with heap:=h',toks:=t'}:=by
 obtain⟨m,⟨o,es,ep,ho,r⟩,_⟩:=id I.loc;obtain⟨sl,hL⟩:=u.any ho I.free (by simp)
 exact I.step (g':=s.gens) (d':=s.drawn) (ch:=[]) (fun _ z=>nomatch z) (fun b o _ hb _ e n=>u.keep b o e n hb (by simp)) (fun b o _ hb _ e n=>u.slot b o e n hb (by simp)) (fun b o _ e n=>u.free b o e n (by simp)) (fun b o _ e=>u.there b o e (by simp)) u.tups u.frzs u.tbls (fun m' hm=>by
  obtain⟨o',es',ep',ho',r'⟩:=hm;rw[ho]at ho';cases ho';exact⟨_,es',ep',hL,r'⟩) hok I.bare
theorem Inv.call(I:Inv X pI σ H s)(u:Un (frs X.stack) ch H H' s.heap h')(hok:HOk X.prog X.w H' h')(hg:FN g')(hch:∀ b∈ch,(b∈X.ex\/X.s₀.heap.objs.size<=b)/\b≠X.env.locals/\(∀ x c,X.env.cells.lookup x=Ab c->c≠b)/\∀ p∈X.pn++pI,p.1≠b):Inv X pI σ H' {s with heap:=h',gens:=g',drawn:=d',toks:=t'}:=by
 obtain⟨m,⟨o,es,ep,ho,r⟩,_⟩:=id I.loc;obtain⟨sl,hL⟩:=u.any ho I.free fun z=>(hch _ z).2.1 rfl
 exact I.step (ch:=ch) hch (fun b o hL hb hc e n=>u.keep b o e n (fun z=>(Aw.mp (I.stkSub b z)).elim hL hb) hc) (fun b o _ _ hc e n=>u.any e n hc) (fun b o hc e n=>u.free b o e n hc) (fun b o hc e=>u.there b o e hc) u.tups u.frzs u.tbls (fun m' hm=>by
  obtain⟨o',es',ep',ho',r'⟩:=hm;rw[ho]at ho';cases ho';exact⟨_,es',ep',hL,r'⟩) hok hg
theorem Inv.turned(I:Inv X pI σ H s)(k:∀ b o,b≠it->s.heap.get? b=Ab o->h'.get? b=Ab o)(hn:H it=Af)(hL:it≠X.env.locals)(h1:it∈X.ex\/X.s₀.heap.objs.size<=it)(h2:∀ x c,X.env.cells.lookup x=Ab c->c≠it)(h3:∀ p∈X.pn++pI,p.1≠it):Inv X pI σ H {s with heap:=h',toks:=t'}:=by
 have nit:∀ b u,H b=Ab u->b≠it:=fun b u e z=>by rw[z,hn]at e;cases e
 refine I.step (g':=s.gens) (d':=s.drawn) (ch:=[it]) (fun b hb=>?_) (fun b o _ _ hc e _=>k b o (fun z=>hc (by simp[z])) e) (fun b o _ _ hc e _=>⟨o.slots,k b o (fun z=>hc (by simp[z])) e⟩) (fun _ _ _ _ n=>n)
  (fun b o hc e=>⟨o,k b o (fun z=>hc (by simp[z])) e⟩) (fun _ _ e=>e) (fun _ _ _ e=>e) (fun b ps e=>⟨#[],by rw[e];simp⟩) (fun m hm=>?_) (fun b u e=>?_) I.bare
 ·have e:b=it:=by simpa using hb
  subst e;exact⟨h1,hL,h2,h3⟩
 ·obtain⟨o,es,ep,ho,r⟩:=hm;exact⟨o,es,ep,k _ o (DZ hL) ho,r⟩
 ·refine(I.hok b u e).stay (fun c v hc q=>k c v ?_ q) (fun _ q=>q) fun _ _ q=>q
  rcases hc with z|z
  ·rw[z];exact nit b u e
  ·exact nit c _ z
theorem Inv.tok(I:Inv X pI σ H s)(t:Ag):Inv X pI σ H {s with toks:=t}:=I.un (h':=s.heap) (t':=t) Un.refl I.hok
theorem Inv.kept{t':Ag}(I:Inv X pI σ H s)(k:∀ b u,s.heap.get? b=Ab u->h'.get? b=Ab u):Inv X pI σ H {s with heap:=h',toks:=t'}:=I.un (Un.kept k) (I.hok.kept k)
theorem Inv.laid{a:Al}{o:HO}{t':Ag}(I:Inv X pI σ H s)(k:∀ b u,s.heap.get? b=Ab u->h'.get? b=Ab u)(hp:s.heap.objs.size<=a)(new:ObjOk X.prog X.w (upd H a o) h' a o):Inv X pI σ (upd H a o) {s with heap:=h',toks:=t'}:=I.un (Un.laid k hp (I.hok.fresh hp)) (I.hok.laid k hp new)
theorem Inv.write{x e:Al}{o:HO}{t':Ag}(I:Inv X pI σ H s)(mu:Mut (H x))(he:e=x\/H e=Ab (.own x))(k:∀ b u,b≠e->s.heap.get? b=Ab u->h'.get? b=Ab u)(heo:∃ u,h'.get? e=Ab u)(new:ObjOk X.prog X.w (upd H x o) h' x o):Inv X pI σ (upd H x o) {s with heap:=h',toks:=t'}:=I.un (Un.write mu he k heo) (I.hok.write mu he k heo new)
theorem Inv.pins_of{pins':Pn}(I:Inv X pI σ H s)(h:∀ p∈pins',s.heap.get? p.1=Ab p.2/\H p.1=Af/\p.1≠X.env.locals/\p.1∉X.fs/\∀ v,p.2.data≠.cell v):Inv X pins' σ H s:=
 ⟨I.ok,I.os,I.bare,I.base,I.loc,I.cell,I.free,I.freeC,fun p hp=>(Gp.mp hp).elim (fun z=>I.pin p (Xg _ z)) (h p),I.hok,I.len⟩
theorem TV{N:Ac Ak}(hN:N.Nodup){j:Ag}(a:N[i]?=Ab x)(b:N[j]?=Ab x):i=j:=by
 obtain⟨h1,e1⟩:=Ba.mp a;obtain⟨h2,e2⟩:=Ba.mp b;exact(List.getElem_inj hN).mp (e1.trans e2.symm)
theorem S4{A:Bx}{E:Vq}(I:Inv X pI σ H s)(hN:X.N.Nodup)(hi:X.N[i]?=Ab x)(hx:Loc X.env.scope x)(r:BY v u)(h:∀ s',Inv X pI (σ.set i (Ab v)) H s'->(∃ a,EZ a s.heap s'.heap/\(a=X.env.locals\/X.env.cells.lookup x=Ab a))->Q () s')(hf:X.fn x=Aa\/X.env.scope.names.lookup x=Ab .local:=by first|exact .inl rfl|exact .inr rfl|assumption):Az M A (storeName X.env x u) Q E s:=by
 obtain⟨m,hn,hl⟩:=id I.loc;have hcls:(X.env.scope.kind==.class||(X.env.scope.kind==.module&&X.env.locals != X.env.globals))=Ad:=by rw[I.ok.kind];rfl
 have hiσ:i<σ.length:=by rw[I.len];exact(Ba.mp hi).1
 have cne:=I.cne;have tracked:∀{a:Al}{h':AT},(∃ o,s.heap.get? a=Ab o/\H a=Af)->EZ a s.heap h'->HOk X.prog X.w H h':=fun {a h'} ha hs b ob e=>by
  obtain⟨_,_,hfree⟩:=ha;refine(I.hok b ob e).stay (fun c w' hc q=>(hs.2 c ?_).trans q) (fun _ q=>q) fun _ _ q=>q
  rintro rfl;rcases hc with rfl|hc
  ·rw[hfree]at e;cases e
  ·rw[hfree]at hc;cases hc
 rcases hx with hk|hk
 ·refine wpAny_storeName_local hk hn (fun h' hn' hs=>?_) hcls
  obtain⟨oL,_,_,hoL,_⟩:=id hn;refine h _ ⟨I.ok,I.os,I.bare,⟨fun b o e n hb hx=>?_,fun b o e n hb hx=>?_,I.base.free,fun b o e hx=>?_,I.base.tups,I.base.frzs,I.base.tbls⟩,⟨_,hn',fun j y v' e1 e2 e3=>?_⟩,fun y c e=>?_,I.free,I.freeC,fun p hp=>?_,tracked ⟨oL,hoL,I.free⟩ hs,by simpa using I.len⟩ ⟨_,hs,.inl rfl⟩
  ·exact(hs.2 b (A1 (AD (AF e) I.ok.above))).trans (I.base.keep b o e n hb hx)
  ·obtain⟨sl,e1⟩:=I.base.slot b o e n hb hx;exact⟨sl,(hs.2 b (A1 (AD (AF e) I.ok.above))).trans e1⟩
  ·obtain⟨o',e1⟩:=I.base.there b o e hx;exact⟨o',(hs.2 b (A1 (AD (AF e) I.ok.above))).trans e1⟩
  ·by_cases hj:j=i
   ·subst hj;rw[hi]at e1;cases e1;rw[Do hiσ]at e2;cases e2;exact⟨u,r,.inl ⟨hk,by simp⟩⟩
   ·rw[Go (DZ hj)]at e2;obtain⟨u',r',q⟩:=hl j y v' e1 e2 e3;refine⟨u',r',?_⟩;rcases q with ⟨k,e⟩|⟨k,c,e,z⟩
    ·refine .inl ⟨k,?_⟩;have:y≠x:=fun e=>hj (TV hN e1 (e ▸ hi))
     simp[this,e]
    ·exact .inr ⟨k,c,e,z.sameBut hs (cne y c e)⟩
  ·obtain⟨w',z⟩:=I.cell y c e;exact⟨w',z.sameBut hs (cne y c e)⟩
  ·obtain⟨e,n,ne,nf,d⟩:=I.pin p hp;exact⟨(hs.2 p.1 ne).trans e,n,ne,nf,d⟩
 ·have hfn:X.fn x=Aa:=by
   rcases hf with z|z
   ·exact z
   ·rw[z]at hk;cases hk
  obtain⟨c,hc⟩:=I.ok.has x (.inl hk);obtain⟨w',z⟩:=I.cell x c hc;refine wpAny_storeName_cell I.ok.kind hk hc z (fun h' hc' hs=>?_)
  obtain⟨oc,hoc,hocd⟩:=id z;refine h {s with heap:=h'} ⟨I.ok,I.os,I.bare,⟨fun b o e n hb hx=>?_,fun b o e n hb hx=>?_,I.base.free,fun b o e hx=>?_,I.base.tups,I.base.frzs,I.base.tbls⟩,⟨m,hn.sameBut hs (DZ (cne x c hc)),fun j y v' e1 e2 e3=>?_⟩,fun y c' e=>?_,I.free,I.freeC,fun p hp=>?_,tracked ⟨oc,hoc,I.freeC x c hc⟩ hs,by simpa using I.len⟩ ⟨c,hs,.inr hc⟩
  ·exact(hs.2 b (A1 (AD (AF e) (I.ok.cab x c hfn hc)))).trans (I.base.keep b o e n hb hx)
  ·obtain⟨sl,e1⟩:=I.base.slot b o e n hb hx;exact⟨sl,(hs.2 b (A1 (AD (AF e) (I.ok.cab x c hfn hc)))).trans e1⟩
  ·obtain⟨o',e1⟩:=I.base.there b o e hx;exact⟨o',(hs.2 b (A1 (AD (AF e) (I.ok.cab x c hfn hc)))).trans e1⟩
  ·by_cases hj:j=i
   ·subst hj;rw[hi]at e1;cases e1;rw[Do hiσ]at e2;cases e2;exact⟨u,r,.inr ⟨.inl hk,c,hc,hc'⟩⟩
   ·rw[Go (DZ hj)]at e2;obtain⟨u',r',q⟩:=hl j y v' e1 e2 e3;refine⟨u',r',?_⟩;rcases q with q|⟨k,c',e,z'⟩
    ·exact .inl q
    ·refine .inr ⟨k,c',e,z'.sameBut hs ?_⟩;rintro rfl;exact hj (TV hN e1 (I.ok.inj _ _ _ e hc ▸ hi))
  ·by_cases hcc:c'=c
   ·subst hcc;exact⟨_,hc'⟩
   ·obtain⟨w2,z2⟩:=I.cell y c' e;exact⟨w2,z2.sameBut hs hcc⟩
  ·obtain⟨e,n,ne,nf,d⟩:=I.pin p hp;refine⟨(hs.2 p.1 ?_).trans e,n,ne,nf,d⟩;intro q;rw[q,hoc]at e;have q':oc=p.2:=BW e;exact d w' (by rw[<-q'];exact hocd)
theorem TJ{A:Bx}{E:Vq}(I:Inv X pI σ H s)(hN:X.N.Nodup)(hi:X.N[i]?=Ab x)(hx:Loc X.env.scope x)(r:BY v u)(h:∀ s',Inv X pI (σ.set i (Ab v)) H s'->Q () s')(hf:X.fn x=Aa\/X.env.scope.names.lookup x=Ab .local:=by first|exact .inl rfl|exact .inr rfl|assumption):Az M A (storeName X.env x u) Q E s:=
 S4 I hN hi hx r (fun s' I' _=>h s' I') hf
theorem Inv.call'{s':Ap}(I:Inv X pI σ H s)(ho:s'.os=s.os)(u:Un (frs X.stack) ch H H' s.heap s'.heap)(hok:HOk X.prog X.w H' s'.heap)(hg:FN s'.gens)(hch:∀ b∈ch,(b∈X.ex\/X.s₀.heap.objs.size<=b)/\b≠X.env.locals/\(∀ x c,X.env.cells.lookup x=Ab c->c≠b)/\∀ p∈X.pn++pI,p.1≠b):Inv X pI σ H' s':=by
 obtain⟨h',g',d',t',o'⟩:=s';have e:o'=s.os:=ho;subst e;exact I.call (g':=g') (t':=t') (d':=d') u hok hg hch
end
abbrev XK:=Ai->At Al->Hp->Prop
abbrev St:=Ac (At V)
variable{σ:St}
abbrev VK:=V->Hp->Prop
abbrev TE:=St->Hp->VK->Prop
variable{te:TE}
abbrev TT:=St->Hp->(Ao->Hp->Prop)->Prop
abbrev TA:=St->Hp->(Ac V->Hp->Prop)->Prop
variable{ta:TA}
structure Ends where
 nx:St->Hp->Prop
 rt:VK
 bk:St->Hp->Prop:=fun _ _=>BN
 ct:St->Hp->Prop:=fun _ _=>BN
abbrev TS:=Ends->St->Hp->Prop
def EP(X:Cx)(pI:Pn)(σ:St)(Q:VK)(u:Ai)(s':Ap):Prop:=∃ v H',Inv X pI σ H' s'/\BY v u/\Q v H'
def TP(X:Cx)(pI:Pn)(σ:St)(Q:Ao->Hp->Prop)(b:Ao)(s':Ap):Prop:=∃ H',Inv X pI σ H' s'/\Q b H'
def AP(X:Cx)(pI:Pn)(σ:St)(Q:Ac V->Hp->Prop)(us:Ac Ai)(s':Ap):Prop:=∃ vs H',Inv X pI σ H' s'/\Br vs us/\Q vs H'
noncomputable def SP(X:Cx)(pI:Pn)(D:Ends)(f:Flow)(s':Ap):Prop:=
  match f with
  |.next=>∃ σ' H',Inv X pI σ' H' s'/\D.nx σ' H'
  |.brk=>∃ σ' H',Inv X pI σ' H' s'/\D.bk σ' H'
  |.cont=>∃ σ' H',Inv X pI σ' H' s'/\D.ct σ' H'
  |.ret u=>∃ v σ' H',Inv X pI σ' H' s'/\BY v u/\D.rt v H'
noncomputable def PE(X:Cx)(e:Ar)(t:TE):Prop:=
 ∀(pI:Pn)(s:Ap)(σ:St)(H:Hp)(Q:VK),Inv X pI σ H s->t σ H Q->Az (model X.prog X.w) X.A (eval e X.env) (EP X pI σ Q) X.xe s
noncomputable def PT(X:Cx)(e:Ar)(t:TT):Prop:=
 ∀(pI:Pn)(s:Ap)(σ:St)(H:Hp)(Q:Ao->Hp->Prop),Inv X pI σ H s->t σ H Q->Az (model X.prog X.w) X.A (IJ e X.env (eval e X.env)) (TP X pI σ Q) X.xe s
noncomputable def PW(X:Cx)(e:Ar)(t:TT):Prop:=
 ∀(whole:Hc Ai)(pI:Pn)(s:Ap)(σ:St)(H:Hp)(Q:Ao->Hp->Prop),Inv X pI σ H s->t σ H Q->Az (model X.prog X.w) X.A (IJ e X.env whole) (TP X pI σ Q) X.xe s
theorem PW.pt{t:TT}(h:PW X e t):PT X e t:=h _
noncomputable def PA(X:Cx)(es:Ac Ar)(t:TA):Prop:=
 ∀(pos:Bb)(pI:Pn)(s:Ap)(σ:St)(H:Hp)(Q:Ac V->Hp->Prop),Inv X pI σ H s->t σ H Q->Az (model X.prog X.w) X.A (spliced (CQ pos (AG es X.env))) (AP X pI σ Q) X.xe s
noncomputable def PS(X:Cx)(st:B8)(t:TS):Prop:=
 ∀(pI:Pn)(s:Ap)(σ:St)(H:Hp)(D:Ends),Inv X pI σ H s->t D σ H->Az (model X.prog X.w) X.A (exec st X.env) (SP X pI D) X.xe s
noncomputable def PSs(X:Cx)(st:Ac B8)(t:TS):Prop:=
 ∀(pI:Pn)(s:Ap)(σ:St)(H:Hp)(D:Ends),Inv X pI σ H s->t D σ H->Az (model X.prog X.w) X.A (execs st X.env) (SP X pI D) X.xe s
theorem thn{α:Type}{t:Hc α}{Q Q':α->Ap->Prop}{A:Bx}{E:Vq}(h:Az M A t Q E s)(hQ:∀ a s,Q a s->Q' a s):Az M A t Q' E s:=CH h hQ fun _ _ x=>x
section
variable{X:Cx}
def G6(i:Ag):TE:=fun σ H Q=>∃ v,σ[i]?=Ab (Ab v)/\Q v H
def tC(v:V):TE:=fun _ H Q=>Q v H
theorem qG(hN:X.N[i]?=Ab x)(hv:Vis X.env.scope x)(hd:(x==("__debug__" : Ak))=Ad:=by decide)(hcd:(x==("__classdict__" : Ak))=Ad:=by decide):PE X (.Name x pos) (G6 i):=by
 intro pI s σ H Q I h;obtain⟨v,e,h⟩:=h;obtain⟨m,hn,hl⟩:=I.loc;obtain⟨u,r,l⟩:=hl i x v hN e hv;have fin:EP X pI σ Q u s:=⟨v,H,I,r,h⟩;rcases l with ⟨hk,hm⟩|⟨hk,c,hc,hcell⟩
 ·exact Ku (wpAny_loadName_local I.ok.kind hk hn hm fin) hd
 ·rcases hk with hk|hk
  ·exact Ku (wpAny_loadName_cell I.ok.kind hk hc hcell fin) hd
  ·exact Ku (wpAny_loadName_free I.ok.kind hk hc hcell fin hcd) hd
theorem qO{i j pos}:PE X (.Constant (.int i) j pos) (tC (.int i)):=fun _ _ _ H _ I h=>wpAny_Constant_int ⟨.int i,H,I.tok _,⟨_,rfl⟩,h⟩
theorem yX{b j pos}:PE X (.Constant (.bool b) j pos) (tC (.bl b)):=fun _ _ _ H _ I h=>Constant_bool ⟨.bl b,H,I,rfl,h⟩
theorem qL{j pos}:PE X (.Constant .none j pos) (tC .non):=fun _ _ _ H _ I h=>Constant_none ⟨.non,H,I,rfl,h⟩
theorem qI{x j pos}:PE X (.Constant (.str x) j pos) (tC (.str x)):=fun _ _ _ H _ I h=>Calls.Constant_str ⟨.str x,H,I.tok _,⟨_,rfl⟩,h⟩
def Gl(X:Cx)(x:Ak):Prop:=X.env.kindOf x=Ab .globalImplicit
theorem lR{E:Vq}{Q:Vq}(I:Inv X pI σ H s)(hg:Gl X x)(hm:X.mg x=Ab u)(h:Q u s)(hd:(x==("__debug__" : Ak))=Ad:=by decide):Az (model X.prog X.w) X.A (eval (.Name x pos) X.env) Q E s:=
 XN I.ok.kind hg (Calls.loadGlobal_global (by rw[I.ok.glob];exact I.mod.glob.keeps I.bk) hm h) hd
theorem GW{E:Vq}{Q:Vq}(I:Inv X pI σ H s)(hg:Gl X x)(hm:X.mg x=Af)(hv:Db x=Ab u)(h:Q u s)(hn:x≠"__name__" := by decide)(hd:(x==("__debug__" : Ak))=Ad:=by decide):Az (model X.prog X.w) X.A (eval (.Name x pos) X.env) Q E s:=by
 obtain⟨mb,h1,h2⟩:=I.mod.blt;exact XN I.ok.kind hg (Calls.loadGlobal_builtin (by rw[I.ok.glob];exact I.mod.glob.keeps I.bk) hm (by rw[I.ok.blt];exact h1.keeps I.bk) ((h2 x hn).trans hv) h) hd
theorem iQ(hg:Gl X x)(hm:X.mg x=Af)(hv:Db x=Ab u)(r:BY v u)(hn:x≠"__name__" := by decide)(hd:(x==("__debug__" : Ak))=Ad:=by decide):PE X (.Name x pos) (tC v):=
 fun _ _ _ H _ I h=>GW I hg hm hv ⟨v,H,I,r,h⟩ hn hd
variable{a b:Ar}{ta tb:TE}{pos:Bb}
def tB(t:TE):TT:=fun σ H Q=>t σ H fun x H1=>∃ c,x=.bl c/\Q c H1
variable{tA tB':TT}{rest:Ac Ar}
def Y8(t u:TT):TT:=fun σ H Q=>t σ H fun c H1=>if c=Aa then u σ H1 Q else Q Ad H1
def tOr(t u:TT):TT:=fun σ H Q=>t σ H fun c H1=>if c=Aa then Q Aa H1 else u σ H1 Q
def Y1(t:TT):TT:=fun σ H Q=>t σ H fun c H1=>Q (!c) H1
theorem hV(ha:PT X a tA):PW X (.BoolOp .And [a] pos) tA:=by
 intro wh pI s σ H Q I h;refine isTrue_and (thn (ha pI s σ H Q I h) fun c s1 e=>?_)
 cases c with
 |true=>exact isTrue_and_nil e
 |false=>exact e
theorem rQ(ha:PT X a tA):PW X (.BoolOp .Or [a] pos) tA:=by
 intro wh pI s σ H Q I h;refine isTrue_or (thn (ha pI s σ H Q I h) fun c s1 e=>?_)
 cases c with
 |false=>exact isTrue_or_nil e
 |true=>exact e
theorem rR(ha:PT X a tA)(hb:PW X (.BoolOp .And (b::rest) pos) tB'):PW X (.BoolOp .And (a::b::rest) pos) (Y8 tA tB'):=by
 intro wh pI s σ H Q I h;refine isTrue_and (thn (ha pI s σ H _ I h) fun c s1 ⟨H1,I1,q1⟩=>?_)
 cases c with
 |true=>exact hb wh pI s1 σ H1 Q I1 q1
 |false=>exact⟨H1,I1,q1⟩
theorem vZ(ha:PT X a tA)(hb:PW X (.BoolOp .Or (b::rest) pos) tB'):PW X (.BoolOp .Or (a::b::rest) pos) (tOr tA tB'):=by
 intro wh pI s σ H Q I h;refine isTrue_or (thn (ha pI s σ H _ I h) fun c s1 ⟨H1,I1,q1⟩=>?_)
 cases c with
 |true=>exact⟨H1,I1,q1⟩
 |false=>exact hb wh pI s1 σ H1 Q I1 q1
theorem rS(ha:PT X a tA):PT X (.UnaryOp .Not a pos) (Y1 tA):=by
 intro pI s σ H Q I h;exact isTrue_not (ha pI s σ H (fun c H1=>Q (!c) H1) I h)
def vO(ta tb:TE):TE:=fun σ H Q=>ta σ H fun x H1=>∃ c,x=.bl c/\if c=Aa then tb σ H1 Q else Q (.bl Ad) H1
def Y0(ta tb:TE):TE:=fun σ H Q=>ta σ H fun x H1=>∃ c,x=.bl c/\if c=Aa then Q (.bl Aa) H1 else tb σ H1 Q
def vH(ta:TE):TE:=fun σ H Q=>ta σ H fun x H1=>∃ c,x=.bl c/\Q (.bl (!c)) H1
theorem qJ{op}{t:TE}(h:PE X a t):PE X (.BoolOp op [a] pos) t:=fun pI s σ H Q I hw=>BoolOp_one (h pI s σ H Q I hw)
theorem qQ(ha:PE X a ta)(hb:PE X (.BoolOp .And (b::rest) pos) tb):PE X (.BoolOp .And (a::b::rest) pos) (vO ta tb):=by
 intro pI s σ H Q I h;refine BoolOp_and (thn (ha pI s σ H _ I h) fun v s1 ⟨x,H1,I1,r1,q1⟩=>?_)
 obtain⟨c,rfl,q1⟩:=q1;cases r1;refine C1 ?_;cases c with
 |true=>exact hb pI s1 σ H1 Q I1 q1
 |false=>exact⟨.bl Ad,H1,I1,rfl,q1⟩
theorem yV(ha:PE X a ta)(hb:PE X (.BoolOp .Or (b::rest) pos) tb):PE X (.BoolOp .Or (a::b::rest) pos) (Y0 ta tb):=by
 intro pI s σ H Q I h;refine BoolOp_or (thn (ha pI s σ H _ I h) fun v s1 ⟨x,H1,I1,r1,q1⟩=>?_)
 obtain⟨c,rfl,q1⟩:=q1;cases r1;refine C1 ?_;cases c with
 |false=>exact hb pI s1 σ H1 Q I1 q1
 |true=>exact⟨.bl Aa,H1,I1,rfl,q1⟩
theorem qK(ha:PE X a ta):PE X (.UnaryOp .Not a pos) (vH ta):=by
 intro pI s σ H Q I h;refine UnaryOp_ (thn (ha pI s σ H _ I h) fun v s1 ⟨x,H1,I1,r1,q1⟩=>?_)
 obtain⟨c,rfl,q1⟩:=q1;cases r1;exact not_of (C1 ⟨.bl (!c),H1,I1,rfl,q1⟩)
end
noncomputable def SqL(K:Fg)(H:Hp)(a:Al)(xs:Ac V):Prop:=
 Rd H a (.lst xs) \/
  ∃(o:DC)(its:AR Ai)(n:Ag),K.lookup a=Ab o/\o.cls=.type "list"/\o.dict=Af/\o.data=.seq its n/\its.size<=sizeLine/\Br xs its.toList
noncomputable def SqT(K:Fg)(H:Hp)(a:Al)(xs:Ac V):Prop:=
 Rd H a (.tup xs) \/
  ∃(o:DC)(its:AR Ai)(n:Ag),K.lookup a=Ab o/\o.cls=.type "tuple"/\o.data=.seq its n/\its.size<=sizeLine/\Br xs its.toList
noncomputable def Zu:Ai->At V
 |.none=>Ab .non
 |.bool b=>Ab (.bl b)
 |.int i _=>Ab (.int i)
 |.str x _=>Ab (.str x)
 |.bytes b _=>Ab (.byt b)
 |.float b _=>Ab (.flt b)
 |.ref a=>Ab (.ref a)
 |.type n=>Ab (.ty n)
 |_=>Af
theorem BY.abs{x:V}(r:BY x u):Zu u=Ab x:=by
 cases x with
 |non=>cases r;rfl
 |bl _=>cases r;rfl
 |int _=>obtain⟨t,rfl⟩:=r;rfl
 |str _=>obtain⟨t,rfl⟩:=r;rfl
 |byt _=>obtain⟨t,rfl⟩:=r;rfl
 |flt _=>obtain⟨t,rfl⟩:=r;rfl
 |ref _=>cases r;rfl
 |ty _=>cases r;rfl
theorem BY.inj{x y:V}(r:BY x u)(q:BY y u):x=y:=BW (r.abs.symm.trans q.abs)
theorem Br.inj:∀{xs ys:Ac V}{us:Ac Ai},Br xs us->Br ys us->xs=ys
 |_,_,_,.nil,.nil=>rfl
 |_,_,_,.cons r t,.cons r' t'=>by rw[r.inj r',Br.inj t t']
section
variable{X:Cx}{pI:Pn}{σ:St}{H:Hp}{s:Ap}{a:Al}{xs ys:Ac V}
theorem SqL.of{K:Fg}(h:H a=Ab (.lst xs)):SqL K H a xs:=.inl (.inl h)
theorem SqT.of{K:Fg}(h:H a=Ab (.tup xs)):SqT K H a xs:=.inl (.inl h)
theorem Inv.list(I:Inv X pI σ H s)(h:SqL X.K H a xs):∃ its:Ac Ai,Br xs its/\PlainL s.heap a its.toArray/\xs.length<=sizeLine:=by
 rcases h with h|⟨o,its,n,hk,hc,hd,hs,hz,r⟩
 ·obtain⟨z,its,n,r,e⟩:=h.ok I.hok;exact⟨its,r,⟨_,n,e,rfl,rfl,rfl⟩,z⟩
 ·refine⟨its.toList,r,⟨o,n,I.kIn a o hk,hc,hd,by simpa using hs⟩,?_⟩
  have e:=r.length;simp only[CF]at e;omega
theorem Inv.tuple(I:Inv X pI σ H s)(h:SqT X.K H a xs):∃ its:Ac Ai,Br xs its/\JK s.heap a its.toArray/\xs.length<=sizeLine:=by
 rcases h with h|⟨o,its,n,hk,hc,hs,hz,r⟩
 ·obtain⟨z,its,r,p⟩:=h.ok I.hok;exact⟨its,r,p,z⟩
 ·refine⟨its.toList,r,⟨o,I.kIn a o hk,hc,n,by simpa using hs⟩,?_⟩
  have e:=r.length;simp only[CF]at e;omega
theorem Inv.list_inj(I:Inv X pI σ H s)(h:SqL X.K H a xs)(h':SqL X.K H a ys):xs=ys:=by
 obtain⟨its,r,⟨o,n,e,_,_,d⟩,_⟩:=I.list h;obtain⟨its',r',⟨o',n',e',_,_,d'⟩,_⟩:=I.list h';rw[e]at e';cases e';rw[d]at d'
 injection d' with d1 _
 have:its=its':=by simpa using congrArg Ji d1
 subst this;exact r.inj r'
theorem Inv.tuple_inj(I:Inv X pI σ H s)(h:SqT X.K H a xs)(h':SqT X.K H a ys):xs=ys:=by
 obtain⟨its,r,⟨o,e,_,n,d⟩,_⟩:=I.tuple h;obtain⟨its',r',⟨o',e',_,n',d'⟩,_⟩:=I.tuple h';rw[e]at e';cases e';rw[d]at d'
 injection d' with d1 _
 have:its=its':=by simpa using congrArg Ji d1
 subst this;exact r.inj r'
end
noncomputable abbrev Cx.wish(X:Cx)(E:Vq):Cx:={X with xe:=E}
noncomputable abbrev Cx.nox(X:Cx):Cx:=X.wish fun _ _=>BN
theorem Cx.Ok.wish(ok:X.Ok)(E:Vq):(X.wish E).Ok:=
 ⟨ok.mod,ok.kind,ok.glob,ok.blt,ok.above,ok.inj,ok.has,ok.cab,ok.hd,ok.frames,ok.stk,ok.exf,ok.bs,ok.bsz,ok.noex,ok.exfs,ok.funs,ok.frf⟩
theorem Cx.Ok.unwish{E:Vq}(ok:(X.wish E).Ok):X.Ok:=
 ⟨ok.mod,ok.kind,ok.glob,ok.blt,ok.above,ok.inj,ok.has,ok.cab,ok.hd,ok.frames,ok.stk,ok.exf,ok.bs,ok.bsz,ok.noex,ok.exfs,ok.funs,ok.frf⟩
section
variable{X:Cx}{pI:Pn}{σ:St}{H:Hp}{s:Ap}{E:Vq}
theorem Inv.wish(I:Inv X pI σ H s)(E:Vq):Inv (X.wish E) pI σ H s:=⟨I.ok.wish E,I.os,I.bare,I.base,I.loc,I.cell,I.free,I.freeC,I.pin,I.hok,I.len⟩
theorem Inv.unwish(I:Inv (X.wish E) pI σ H s):Inv X pI σ H s:=⟨I.ok.unwish,I.os,I.bare,I.base,I.loc,I.cell,I.free,I.freeC,I.pin,I.hok,I.len⟩
theorem SP.unwish{D:Ends}{f:Flow}{s':Ap}(h:SP (X.wish E) pI D f s'):SP X pI D f s':=by
 cases f with
 |next=>obtain⟨σ',H',I,q⟩:=h;exact⟨σ',H',I.unwish,q⟩
 |brk=>obtain⟨σ',H',I,q⟩:=h;exact⟨σ',H',I.unwish,q⟩
 |cont=>obtain⟨σ',H',I,q⟩:=h;exact⟨σ',H',I.unwish,q⟩
 |ret u=>obtain⟨v,σ',H',I,r,q⟩:=h;exact⟨v,σ',H',I.unwish,r,q⟩
theorem PSs.nox{st:Ac B8}{t:TS}(h:PSs X.nox st t):PSs X st t:=fun pI s σ H D I hw=>
 CH (h pI s σ H D (I.wish _) hw) (fun _ _ q=>q.unwish) fun _ _ z=>Eg z
end
section
variable{X:Cx}{st:B8}{rest:Ac B8}{t u:TS}{e:Ar}{te:TE}{pos:Bb}
def vJ:TS:=fun D σ H=>D.nx σ H
def Zm(t u:TS):TS:=fun D σ H=>t {D with nx:=u D} σ H
theorem iH:PSs X [] vJ:=fun _ _ σ H _ I h=>YJ ⟨σ,H,I,h⟩
theorem dF(h1:PS X st t)(h2:PSs X rest u):PSs X (st::rest) (Zm t u):=by
 intro pI s σ H D I h;refine wpAny_execs_cons (thn (h1 pI s σ H {D with nx:=u D} I h) fun f s1 q=>?_)
 cases f with
 |next=>
  obtain⟨σ',H',I',q⟩:=q;exact h2 pI s1 σ' H' D I' q
 |ret v=>exact q
 |brk=>exact q
 |cont=>exact q
theorem Inv.quiet(I:Inv X pI σ H s):interactive X.env=Ad:=by simp[interactive,I.ok.kind]
def vL(te:TE):TS:=fun D σ H=>te σ H fun _ H1=>D.nx σ H1
theorem Nj(he:PE X e te)(hs:DT e Af pos.line X.env=pure Ad:=by rfl):PS X (.Expr e pos) (vL te):=by
 intro pI s σ H D I h;exact wpAny_Expr_any (thn (he pI s σ H _ I h) fun v s1 ⟨x,H1,I1,r1,q1⟩=>⟨σ,H1,I1,q1⟩) I.quiet hs
def Zn(te:TE):TS:=fun D σ H=>te σ H D.rt
theorem Qj(he:PE X e te):PS X (.Return (Ab e) pos) (Zn te):=by
 intro pI s σ H D I h;exact wpAny_Return_some (thn (he pI s σ H _ I h) fun v s1 ⟨x,H1,I1,r1,q1⟩=>⟨x,σ,H1,I1,r1,q1⟩)
def Y5(c:TT)(t u:TS):TS:=fun D σ H=>c σ H fun b H1=>if b=Aa then t D σ H1 else u D σ H1
theorem wB{c:Ar}{a b:Ac B8}{tc:TT}(hc:PT X c tc)(ha:PSs X a t)(hb:PSs X b u):PS X (.If c a b pos) (Y5 tc t u):=by
 intro pI s σ H D I h;refine wpAny_If (thn (hc pI s σ H _ I h) fun d s1 ⟨H1,I1,q1⟩=>?_)
 cases d with
 |true=>exact ha pI s1 σ H1 D I1 q1
 |false=>exact hb pI s1 σ H1 D I1 q1
end
abbrev TG:=V->St->Hp->(St->Hp->Prop)->Prop
abbrev TGs:=Ac V->St->Hp->(St->Hp->Prop)->Prop
noncomputable def PG(X:Cx)(target:Ar)(t:TG):Prop:=
 ∀(pI:Pn)(s:Ap)(σ:St)(H:Hp)(v:V)(u:Ai)(Q:St->Hp->Prop),Inv X pI σ H s->BY v u->t v σ H Q ->
  Az (model X.prog X.w) X.A (assign target X.env u) (fun _ s'=>∃ σ' H',Inv X pI σ' H' s'/\Q σ' H') X.xe s
noncomputable def PGs(X:Cx)(ts:Ac Ar)(t:TGs):Prop:=
 ∀(pI:Pn)(s:Ap)(σ:St)(H:Hp)(vs:Ac V)(us:Ac Ai)(Q:St->Hp->Prop),Inv X pI σ H s->Br vs us->t vs σ H Q ->
  Az (model X.prog X.w) X.A (assignInOrder ((CA ts X.env).map (·.2)) us) (fun _ s'=>∃ σ' H',Inv X pI σ' H' s'/\Q σ' H') X.xe s
abbrev Rm:=V->V->V->Hp->(Hp->Prop)->Prop
noncomputable def RX(X:Cx)(t:Rm):Prop:=
 ∀(pI:Pn)(s:Ap)(σ:St)(H:Hp)(o i v:V)(ov iv u:Ai)(Q:Hp->Prop),Inv X pI σ H s->BY o ov->BY i iv->BY v u->t o i v H Q ->
  Az (model X.prog X.w) X.A (JM ov iv u) (fun _ s'=>∃ H',Inv X pI σ H' s'/\Q H') X.xe s
section
variable{X:Cx}{pos:Bb}
def Fn(i:Ag):TG:=fun v σ H Q=>Q (σ.set i (Ab v)) H
theorem L9(hN:X.N.Nodup)(hi:X.N[i]?=Ab x)(hx:Loc X.env.scope x)(hf:X.fn x=Aa\/X.env.scope.names.lookup x=Ab .local:=by first|exact .inl rfl|exact .inr rfl|assumption):PG X (.Name x pos) (Fn i):=by
 intro pI s σ H v u Q I r h;exact YG (TJ I hN hi hx r (fun s' I'=>⟨_,H,I',h⟩) hf)
def Ib:TGs:=fun vs σ H Q=>vs=[]/\Q σ H
def HX(t:TG)(u:TGs):TGs:=fun vs σ H Q=>∃ v r,vs=v::r/\t v σ H fun σ' H'=>u r σ' H' Q
theorem Pz:PGs X [] Ib:=by
 intro pI s σ H vs us Q I r h;obtain⟨e,h⟩:=h;subst e;cases r;exact assignInOrder_nil ⟨σ,H,I,h⟩
theorem M8{t:TG}{u:TGs}(h1:PG X e t)(h2:PGs X es u)(hs:(CA (e::es) X.env).map (·.2)=assign e X.env::(CA es X.env).map (·.2):=by rfl):PGs X (e::es) (HX t u):=by
 intro pI s σ H vs us Q I r h;obtain⟨v,vr,e1,h⟩:=h;subst e1;cases r with
 |cons r rr=>
  rw[hs];refine assignInOrder_cons (thn (h1 pI s σ H _ _ _ I r h) fun _ s1 ⟨σ1,H1,I1,q1⟩=>?_)
  exact h2 pI s1 σ1 H1 _ _ Q I1 rr q1
def Lk(K:Fg)(n:Ag)(t:TGs):TG:=fun v σ H Q=>∃ a xs,v=.ref a/\SqT K H a xs/\xs.length=n/\t xs σ H Q
theorem Nz{t:TGs}(hc:X.calm=Aa)(h:PGs X es t)(hn:(CA es X.env).length=n:=by rfl)(hst:(CA es X.env).findIdx? (·.1)=Af:=by rfl):PG X (.Tuple es k pos) (Lk X.K n t):=by
 intro pI s σ H v u Q I r hw;obtain⟨a,xs,e1,hq,hl,hw⟩:=hw;subst e1;cases r;obtain⟨its,rv,ht,hz⟩:=I.tuple hq;refine assign_Tuple_tuple (I.ok.hd hc) ht (by simp[hn,<-hl,rv.length]) hst fun h' hx=>?_
 have I1:Inv X pI σ H {s with heap:=h'}:=I.kept (t':=s.toks) fun b o e=>hx b o (A1 (AF e)) e
 exact h pI _ σ H xs _ Q I1 (by simpa using rv) hw
def Zo(to ti:TE)(t:Rm):TG:=fun v σ H Q=>to σ H fun o H1=>ti σ H1 fun i H2=>t o i v H2 fun H3=>Q σ H3
theorem Qm{o i:Ar}{to ti:TE}{t:Rm}(ho:PE X o to)(hi:PE X i ti)(hs:RX X t)(ha:∀ v,assign (.Subscript o i pos) X.env v=(do
   let ov <-holding [v] (eval o X.env)
   let iv <-holding [v,ov] (eval i X.env)
   Hx pos
   holding [v,ov,iv] (JM ov iv v)
   release [v,ov,iv] []):=by intro _;rfl):PG X (.Subscript o i pos) (Zo to ti t):=by
 intro pI s σ H v u Q I r h;rw[ha];refine Ah (Cf (thn (ho pI s σ H _ I h) fun ov s1 ⟨x,H1,I1,r1,q1⟩=>?_))
 refine Ah (Cf (thn (hi pI s1 σ H1 _ I1 q1) fun iv s2 ⟨y,H2,I2,r2,q2⟩=>?_))
 refine Ah (Hg (Ah (Cf (thn (hs pI s2 σ H2 x y v ov iv u _ I2 r1 r2 r q2) fun _ s3 ⟨H3,I3,q3⟩=>?_))))
 exact wpAny_release ⟨σ,H3,I3,q3⟩
def NU(te:TE)(g:TG):TS:=fun D σ H=>te σ H fun x H1=>g x σ H1 D.nx
theorem Qk{g:TG}(he:PE X e te)(hg:PG X tg g)(hs:F8 [tg] e pos.line X.env=pure Ad:=by rfl)(hw:D5 [tg] e X.env=pure Af:=by rfl)(h1:(CA [tg] X.env).map (·.2)=[assign tg X.env]:=by rfl):PS X (.Assign [tg] e pos) (NU te g):=by
 intro pI s σ H D I h;refine wpAny_Assign_stores (thn (he pI s σ H _ I h) fun v s1 ⟨x,H1,I1,r1,q1⟩=>?_) hs hw
 rw[h1];exact thn (hg pI s1 σ H1 x v _ I1 r1 q1) fun _ s2 q=>q
theorem rT{pos':Bb}(hN:X.N.Nodup)(hi:X.N[i]?=Ab x)(hx:Loc X.env.scope x)(he:PE X e te)(hs:DT e (Ab (.Name x pos')) pos.line X.env=pure Ad:=by rfl)(hf:X.fn x=Aa\/X.env.scope.names.lookup x=Ab .local:=by first|exact .inl rfl|exact .inr rfl|assumption):PS X (.Assign [.Name x pos'] e pos) (NU te (Fn i)):=by
 intro pI s σ H D I h;refine wpAny_Assign_Name (thn (he pI s σ H _ I h) fun v s1 ⟨y,H1,I1,r1,q1⟩=>?_) hs
 exact TJ I1 hN hi hx r1 (fun s2 I2=>⟨_,H1,I2,q1⟩) hf
end
section
variable{X:Cx}{pos:Bb}
end
structure It where
 go:Ag->Hp->Prop
 yld:Ag->Hp->V->Hp->Prop
 stop:Ag->Hp->Prop
noncomputable def G4(X:Cx)(pI:Pn)(H:Hp)(b:Al):Prop:=
 H b=Af/\b≠X.env.locals/\b∉X.fs/\(b∈X.ex\/X.s₀.heap.objs.size<=b)/\(∀ x c,X.env.cells.lookup x=Ab c->c≠b)/\∀ p∈X.pn++pI,p.1≠b
theorem Inv.fpOk{H':Hp}(I:Inv X pI σ H s)(hb:s.heap.objs.size<=b)(hn:H' b=Af):G4 X pI H' b:=by
 refine⟨hn,CU (AD I.lt hb),I.nofs hb,.inr (BK I.sz hb),fun x c e z=>?_,fun p hp z=>?_⟩
 ·obtain⟨v,q⟩:=I.cell x c e;exact absurd (AD q.lt (by rw[z];exact hb)) (Bw _)
 ·exact absurd (AD (AF (I.pin p hp).1) (by rw[z];exact hb)) (Bw _)
structure Turn (P:A9) (w:AK) (K:Fg) (tg:Ar) (J:It) (fp:Ac Al) (it:Al) (tn:Ag->AT->Prop):Prop where
 mem:it∈fp
 obj:∀ i h,tn i h->∀ b∈fp,∃ o,h.get? b=Ab o/\∀ v,o.data≠.cell v
 keep:∀ i h h',tn i h->(∀ b∈fp,∀ o,h.get? b=Ab o->h'.get? b=Ab o)->tn i h'
 item:∀(X:Cx),X.prog=P->X.w=w->X.K=K->X.calm=Aa->∀(i:Ag)(pI:Pn)(s:Ap)(σ:St)(H:Hp)(E:Vq),Inv X pI σ H s->(∀ b∈fp,G4 X pI H b)->tn i s.heap->J.go i H ->
  Az (model P w) X.A (Ea (.ref it)) (fun r s1=>∃ u,r=Ab u /\
   Az (model P w) X.A (GB tg (.ref it) u) (fun _ s2=>∃ x H',Inv X pI σ H' s2/\BY x u/\J.yld i H x H'/\tn (i+1) s2.heap/\∀ b∈fp,H' b=Af) E s1) E s
 done:∀(X:Cx),X.prog=P->X.w=w->X.K=K->X.calm=Aa->∀(i:Ag)(pI:Pn)(s:Ap)(σ:St)(H:Hp)(E:Vq),Inv X pI σ H s->(∀ b∈fp,G4 X pI H b)->tn i s.heap->J.stop i H ->
  Az (model P w) X.A (Ea (.ref it)) (fun r s1=>r=Af/\Inv X pI σ H s1) E s
 self:∀(A:Bx)(i:Ag)(s:Ap)(Q:Vq)(E:Vq),tn i s.heap->Q (.ref it) s->Az (model P w) A (Kq (.ref it)) Q E s
abbrev TI:=St->Hp->(It->Hp->Prop)->Prop
noncomputable def PIE(X:Cx)(pI:Pn)(σ:St)(tg:Ar)(R:It->Hp->Prop)(itv:Ai)(s2:Ap):Prop:=
 ∃(it:Al)(fp:Ac Al)(tn:Ag->AT->Prop)(J:It)(H':Hp),itv=.ref it/\Inv X pI σ H' s2/\Turn X.prog X.w X.K tg J fp it tn/\tn 0 s2.heap/\(∀ b∈fp,G4 X pI H' b)/\R J H'
noncomputable def PI(X:Cx)(tg iter:Ar)(wi:TI):Prop:=
 ∀(pI:Pn)(s:Ap)(σ:St)(H:Hp)(R:It->Hp->Prop),Inv X pI σ H s->wi σ H R ->
  Az (model X.prog X.w) X.A (eval iter X.env) (fun v s1=>Az (model X.prog X.w) X.A (Kq v) (PIE X pI σ tg R) X.xe s1) X.xe s
theorem Q0{A:Bx}{E:Vq}{n:Ec}{vs:AR Ai}(ho:s.heap.get? it=Ab o)(hc:o.cls=.type n)(hd:o.data=.fields vs)(hn:["enumerate", "zip", "dict_itemiterator", "dict_reverseitemiterator", "odict_iterator", "itertools.zip_longest", "itertools.pairwise"].contains n=Ad)(hQ:Q () s):Az M A (GB tg (.ref it) u) Q E s:=by
  unfold GB;cases tg<;>first
    |exact Av hQ
    | (cases u<;>first
        |exact Av hQ
        | (refine Ah (wpAny_load ho ?_)
           rw[hc,hd];show Az M A (if (["enumerate", "zip", "dict_itemiterator", "dict_reverseitemiterator", "odict_iterator", "itertools.zip_longest", "itertools.pairwise"].contains n&&vs[0]? == Ab (C4 _))=Aa then _ else _) Q E s
           rw[AH (by intro h;rw[hn,Bool.false_and]at h;cases h)]
           exact Av hQ))
noncomputable def Itl(K:Fg)(a:Al):It:=
 ⟨fun i H=>∃ xs x,SqL K H a xs/\xs[i]?=Ab x,fun i H x H'=>H'=H/\∀ xs,SqL K H a xs->xs[i]?=Ab x,fun i H=>∃ xs,SqL K H a xs/\xs.length<=i⟩
noncomputable def Itt(K:Fg)(a:Al):It:=
 ⟨fun i H=>∃ xs x,SqT K H a xs/\xs[i]?=Ab x,fun i H x H'=>H'=H/\∀ xs,SqT K H a xs->xs[i]?=Ab x,fun i H=>∃ xs,SqT K H a xs/\xs.length<=i⟩
noncomputable def Itr(lo:Ae)(n:Ag):It:=⟨fun i _=>i<n,fun i H x H'=>H'=H/\x=.int (lo+i),fun i _=>n<=i⟩
theorem bJ{w:AK}{K:Fg}(a it:Al):Turn P w K tg (Itl K a) [it] it (fun i h=>h.IsListIter it a i) where
  mem:=by simp
  obj:=fun i h st b hb=>by
    have e:b=it:=by simpa using hb
    subst e;obtain⟨o,e,c,d⟩:=st;exact⟨o,e,fun v z=>by rw[d]at z;cases z⟩
  keep:=fun i h h' st k=>st.at fun o e=>k it (by simp) o e
  item:=by
    intro X hP hw hK hc i pI s σ H E I hf st hg;subst hP hw hK;obtain⟨xs,x,hq,hx⟩:=hg;obtain⟨its,rv,p,hz⟩:=I.list hq;obtain⟨u,hu,ru⟩:=rv.get hx;obtain⟨f0,f1,f2,f3,f4,f5⟩:=hf it (by simp)
    refine YO st p.isList (x:=u) (by simpa using hu) fun h' st' sb=>?_
    have I1:Inv X pI σ H {s with heap:=h'}:=I.turned (t':=s.toks) (fun b o hb e=>(sb.2 b hb).trans e) f0 f1 f3 f4 f5
    obtain⟨o,e,c,d⟩:=id st';exact⟨u,rfl,Q0 (s:={s with heap:=h'}) e c d (by decide) ⟨x,H,I1,ru,⟨rfl,fun ys hy=>by rw[I.list_inj hy hq];exact hx⟩,st',fun b hb=>(hf b hb).1⟩⟩
  done:=by
    intro X hP hw hK hc i pI s σ H E I hf st hg;subst hP hw hK;obtain⟨xs,hq,hx⟩:=hg;obtain⟨its,rv,p,hz⟩:=I.list hq;obtain⟨f0,f1,f2,f3,f4,f5⟩:=hf it (by simp)
    have hl:=rv.length;exact YN (I.ok.hd hc) st p.isList (by simp;omega) fun h' eb=>⟨rfl,I.turned (t':=s.toks) (fun b o hb e=>eb b o hb e) f0 f1 f3 f4 f5⟩
  self:=fun _ _ _ _ _ st h=>wpAny_pyIter_listiter st h
theorem aM{w:AK}{K:Fg}(a it:Al):Turn P w K tg (Itt K a) [it] it (fun i h=>h.IsTupleIter it a i) where
  mem:=by simp
  obj:=fun i h st b hb=>by
    have e:b=it:=by simpa using hb
    subst e;obtain⟨o,e,c,d⟩:=st;exact⟨o,e,fun v z=>by rw[d]at z;cases z⟩
  keep:=fun i h h' st k=>st.at fun o e=>k it (by simp) o e
  item:=by
    intro X hP hw hK hc i pI s σ H E I hf st hg;subst hP hw hK;obtain⟨xs,x,hq,hx⟩:=hg;obtain⟨its,rv,p,hz⟩:=I.tuple hq;obtain⟨u,hu,ru⟩:=rv.get hx;obtain⟨f0,f1,f2,f3,f4,f5⟩:=hf it (by simp)
    refine wpAny_pyNext_tuple_item st (show s.heap.IsTuple a its.toArray from p) (x:=u) (by simpa using hu) fun h' st' sb=>?_
    have I1:Inv X pI σ H {s with heap:=h'}:=I.turned (t':=s.toks) (fun b o hb e=>(sb.2 b hb).trans e) f0 f1 f3 f4 f5
    obtain⟨o,e,c,d⟩:=id st';exact⟨u,rfl,Q0 (s:={s with heap:=h'}) e c d (by decide) ⟨x,H,I1,ru,⟨rfl,fun ys hy=>by rw[I.tuple_inj hy hq];exact hx⟩,st',fun b hb=>(hf b hb).1⟩⟩
  done:=by
    intro X hP hw hK hc i pI s σ H E I hf st hg;subst hP hw hK;obtain⟨xs,hq,hx⟩:=hg;obtain⟨its,rv,p,hz⟩:=I.tuple hq;obtain⟨f0,f1,f2,f3,f4,f5⟩:=hf it (by simp)
    have hl:=rv.length;exact wpAny_pyNext_tuple_end (I.ok.hd hc) st (show s.heap.IsTuple a its.toArray from p) (by simp;omega) fun h' eb=>⟨rfl,I.turned (t':=s.toks) (fun b o hb e=>eb b o hb e) f0 f1 f3 f4 f5⟩
  self:=fun _ _ _ _ _ st h=>wpAny_pyIter_tupleiter st h
theorem aN{w:AK}{K:Fg}(it:Al)(lo:Ae)(n:Ag):Turn P w K tg (Itr lo n) [it] it (fun i h=>IsRangeIter h it (lo+(i:Ag)*1) ((n:Ae)-(i:Ag)) 1) where
  mem:=by simp
  obj:=fun i h st b hb=>by
    have e:b=it:=by simpa using hb
    subst e;exact⟨_,st,fun v z=>by
      have z':Data.fields _=Ls v:=z;cases z'⟩
  keep:=fun i h h' st k=>k it (by simp) _ st
  item:=by
    intro X hP hw hK hc i pI s σ H E I hf st hg;subst hP hw hK;obtain⟨f0,f1,f2,f3,f4,f5⟩:=hf it (by simp)
    have W:=Walks.range (prog:=X.prog) (w:=X.w) (I.ok.hd hc) it lo 1 n;refine W.item i s _ _ hg st fun v h' tk hv st' kk=>?_
    obtain⟨t,rfl⟩:=hv;have I1:Inv X pI σ H {s with heap:=h',toks:=tk}:=I.turned (fun b o hb e=>kk b o (by simpa using hb) e) f0 f1 f3 f4 f5
    refine⟨_,rfl,Q0 (s:={s with heap:=h',toks:=tk}) (n := "range_iterator") st' rfl rfl (by decide) ⟨.int (lo+i),H,I1,⟨t,?_⟩,⟨rfl,rfl⟩,st',fun b hb=>(hf b hb).1⟩⟩
    rw[DN]
  done:=by
    intro X hP hw hK hc i pI s σ H E I hf st hg;subst hP hw hK;obtain⟨f0,f1,f2,f3,f4,f5⟩:=hf it (by simp)
    exact wpAny_pyNext_range_end (I.ok.hd hc) st (by have:n<=i:=hg;omega) fun h' eb=>⟨rfl,I.turned (t':=s.toks) (fun b o hb e=>eb b o hb e) f0 f1 f3 f4 f5⟩
  self:=fun _ _ _ _ _ st h=>wpAny_pyIter_rangeiter st h
section
variable{X:Cx}{tg:Ar}
theorem TQ{R:It->Hp->Prop}{E:Vq}{lo hi:Ae}{t u v:DD}{tk:Ag}(I:Inv X pI σ H s)(h1:-(2 ^ 62)<=lo)(h2:lo<2 ^ 62)(h3:-(2 ^ 62)<=hi)(h4:hi<2 ^ 62)(q:R (Itr lo (hi-lo).toNat) H):Az (model X.prog X.w) X.A (Kq (.ref s.heap.objs.size)) (PIE X pI σ tg R) E { s with heap:=s.heap.push { cls:=.type "range", data:=.fields #[.int lo t,.int hi u,.int 1 v] },toks:=tk }:=by
 refine wpAny_pyIter_range (Yh ..) (small_one h1 h2 h3 h4) ?_;have I1:Inv X pI σ H { s with heap:=s.heap.push { cls:=.type "range", data:=.fields #[.int lo t,.int hi u,.int 1 v] },toks:=tk }:=I.kept fun b o e=>As _ e
 refine⟨(s.heap.push { cls:=.type "range", data:=.fields #[.int lo t,.int hi u,.int 1 v] }).objs.size,[(s.heap.push { cls:=.type "range", data:=.fields #[.int lo t,.int hi u,.int 1 v] }).objs.size],_,_,H,rfl,
  I1.kept (t':=tk) fun b o e=>As _ e,aN _ lo (hi-lo).toNat,?_,fun b hb=>?_,q⟩
 ·have e1:lo+((0:Ag):Ae)*1=lo:=by simp
  have e2:(((hi-lo).toNat:Ag):Ae)-((0:Ag):Ae)=Builtin.Range.rangeSize lo hi 1:=by rw[rangeSize_one];split<;>omega
  show IsRangeIter _ _ (lo+((0:Ag):Ae)*1) ((((hi-lo).toNat:Ag):Ae)-((0:Ag):Ae)) 1;rw[e1,e2];exact AC _ rfl
 ·have e:b=(s.heap.push { cls:=.type "range", data:=.fields #[.int lo t,.int hi u,.int 1 v] }).objs.size:=by simpa using hb
  subst e;exact I1.fpOk (AS _) (I1.hok.fresh (AS _))
def yE(ta:TA):TI:=fun σ H R=>ta σ H fun vs H1=>∃ j:Ae,vs=[.int j]/\-(2 ^ 62)<=j/\j<2 ^ 62/\R (Itr 0 j.toNat) H1
def yD(ta:TA):TI:=fun σ H R=>ta σ H fun vs H1=>∃ i j:Ae,vs=[.int i,.int j]/\(-(2 ^ 62)<=i/\i<2 ^ 62/\-(2 ^ 62)<=j/\j<2 ^ 62)/\R (Itr i (j-i).toNat) H1
theorem bD{a:Ar}(hg:Gl X "range")(hm:X.mg "range" = Af)(ha:PA X [a] ta)(hs:AG [a] X.env=[(Ad,eval a X.env)]:=by rfl):PI X tg (.Call (.Name "range" p) [a] [] pos) (yE ta):=by
 intro pI s σ H R I h;refine Hu (GW I hg hm Kh (BR (thn (ha pos pI s σ H _ I h) fun us s1 ⟨vs,H1,I1,r1,q1⟩=>?_) hs rfl))
 obtain⟨j,e,q1,q2,q⟩:=q1;subst e;cases r1 with
 |cons r rr=>
  cases rr;obtain⟨t,rfl⟩:=r;exact call_range_1 (TQ I1 (by omega) (by omega) q1 q2 (by simpa using q))
theorem aZ{a b:Ar}(hg:Gl X "range")(hm:X.mg "range" = Af)(ha:PA X [a,b] ta)(hs:AG [a,b] X.env=[(Ad,eval a X.env),(Ad,eval b X.env)]:=by rfl)(hs2:AG [b] X.env=[(Ad,eval b X.env)]:=by rfl):
  PI X tg (.Call (.Name "range" p) [a,b] [] pos) (yD ta):=by
 intro pI s σ H R I h;refine Hu (GW I hg hm Kh (BR (thn (ha pos pI s σ H _ I h) fun us s1 ⟨vs,H1,I1,r1,q1⟩=>?_) (by rw[hs,hs2]) (by rw[hs2];rfl)))
 obtain⟨i,j,e,⟨q1,q2,q3,q4⟩,q⟩:=q1;subst e;cases r1 with
 |cons r rr=>
  cases rr with
  |cons r' rr=>
   cases rr;obtain⟨t,rfl⟩:=r;obtain⟨t',rfl⟩:=r';exact call_range_2 (TQ I1 q1 q2 q3 q4 q)
def Y6(wi:TI)(g:TG)(tb:TS):TS:=fun D σ H=>wi σ H fun J H1=>∃ W:Ag->Ag->St->Hp->Prop,(∃ m,W 0 m σ H1)/\∀ i m σ H,W i m σ H ->
 (J.stop i H/\D.nx σ H)\/(J.go i H/\∃ N:St->Hp->Prop,(∀ σ' H',N σ' H'->∃ m',m'<m/\W (i+1) m' σ' H')/\∀ x H',J.yld i H x H'->g x σ H' fun σ2 H2=>tb {D with nx:=N,ct:=N,bk:=D.nx} σ2 H2)
noncomputable def J4(fp:Ac Al)(h:AT):Pn:=fp.filterMap fun b=>(h.get? b).map fun o=>(b,o)
theorem MR(hb:b∈fp)(e:h.get? b=Ab o):(b,o)∈J4 fp h:=Xi.mpr ⟨b,hb,by rw[e];rfl⟩
theorem S9{p:Al×DC}(hp:p∈J4 fp h):p.1∈fp/\h.get? p.1=Ab p.2:=by
 obtain⟨b,hb,e⟩:=List.mem_filterMap.mp hp;cases q:h.get? b with
 |none=>rw[q]at e;cases e
 |some o=>
  rw[q]at e;have e':(b,o)=p:=BW e;subst e';exact⟨hb,q⟩
theorem Inv.pinned(I:Inv X pI σ H s)(hf:∀ b∈fp,G4 X pI H b)(ho:∀ b∈fp,∃ o,s.heap.get? b=Ab o/\∀ v,o.data≠.cell v):Inv X (pI++J4 fp s.heap) σ H s:=
 I.pins_of fun p hp=>(Gp.mp hp).elim (fun z=>I.pin p (BO _ z)) fun z=>by
  obtain⟨hb,e⟩:=S9 z;obtain⟨f0,f1,f2,_⟩:=hf p.1 hb;obtain⟨o,e',d⟩:=ho p.1 hb;rw[e]at e';cases e';exact⟨e,f0,f1,f2,d⟩
theorem Inv.unpinned{pl:Pn}(I:Inv X (pI++pl) σ H s):Inv X pI σ H s:=I.pins_of fun p hp=>I.pin p (BO _ (Xg _ hp))
theorem rV{iter:Ar}{wi:TI}{g:TG}{tb:TS}(hp:Gi (model X.prog X.w) X.A X.env X.xe)(hc:X.calm=Aa)(hi:PI X tg iter wi)(hg:PG X tg g)(hb:PSs X body tb)(hs:∀ x,Dk iter X.env x=pure x:=by intro _;rfl):PS X (.For tg iter body [] pos) (Y6 wi g tb):=by
 intro pI s σ H D I h;refine wpAny_For (thn (hi pI s σ H _ I h) fun v s1 h1=>thn h1 fun itv s2 h2=>?_) hs
 obtain⟨it,fp,tn,J,H2,e,I2,T,st2,f2,W,⟨m0,w0⟩,turn⟩:=h2;subst e
 -- what stays Aa of the iterator's objects through the loop
 have stat:∀{H':Hp},(∀ b∈fp,H' b=Af)->∀ b∈fp,G4 X pI H' b:=fun hn b hb=>⟨hn b hb,(f2 b hb).2⟩
 refine codeAny_forLoop_any (fun n s'=>∃ i σ' H',Inv X pI σ' H' s'/\tn i s'.heap/\(∀ b∈fp,H' b=Af)/\W i n σ' H') ?_ m0 ⟨0,σ,H2,I2,st2,fun b hb=>(f2 b hb).1,w0⟩
 rintro n s3 ⟨i,σ3,H3,I3,st3,fr3,w3⟩;rcases turn i n σ3 H3 w3 with ⟨stop,qn⟩|⟨go,N,hN,step⟩
 ·refine Fv hp (thn (T.done X rfl rfl rfl hc i pI s3 σ3 H3 X.xe I3 (stat fr3) st3 stop) fun r s4 ⟨hr,I4⟩=>?_)
  subst hr;exact YJ ⟨σ3,H3,I4,qn⟩
 ·refine Fv hp (thn (T.item X rfl rfl rfl hc i pI s3 σ3 H3 X.xe I3 (stat fr3) st3 go) fun r s4 ⟨u,hr,h4⟩=>?_)
  subst hr;refine Fv hp (thn h4 fun _ s5 ⟨x,H5,I5,r5,y5,st5,fr5⟩=>?_)
  have I5':=I5.pinned (stat fr5) (T.obj _ _ st5);refine Fv hp (thn (hg _ s5 σ3 H5 x u _ I5' r5 (step x H5 y5)) fun _ s6 ⟨σ6,H6,I6,q6⟩=>?_)
  refine Fv hp (thn (hb _ s6 σ6 H6 _ I6 q6) fun f s7 q7=>?_)
  have again:∀{σ7:St}{H7:Hp},Inv X (pI++J4 fp s5.heap) σ7 H7 s7->N σ7 H7->∃ m,m<n/\∃ i σ' H',Inv X pI σ' H' s7/\tn i s7.heap/\(∀ b∈fp,H' b=Af)/\W i m σ' H':=fun {σ7 H7} I7 n7=>by
   obtain⟨m',hm,w7⟩:=hN σ7 H7 n7;refine⟨m',hm,i+1,σ7,H7,I7.unpinned,T.keep _ _ _ st5 fun b hb o e=>(I7.pin (b,o) (BO _ (BO _ (MR hb e)))).1,fun b hb=>?_,w7⟩
   obtain⟨o,e,d⟩:=T.obj _ _ st5 b hb;exact(I7.pin (b,o) (BO _ (BO _ (MR hb e)))).2.1
  cases f with
  |next=>obtain⟨σ7,H7,I7,n7⟩:=q7;exact again I7 n7
  |cont=>obtain⟨σ7,H7,I7,n7⟩:=q7;exact again I7 n7
  |brk=>obtain⟨σ7,H7,I7,q7⟩:=q7;exact⟨σ7,H7,I7.unpinned,q7⟩
  |ret v=>obtain⟨x7,σ7,H7,I7,r7,q7⟩:=q7;exact⟨x7,σ7,H7,I7.unpinned,r7,q7⟩
end
abbrev R2:=V->V->Hp->VK->Prop
variable{r:R2}
noncomputable def OpR(X:Cx)(f:Ai->Ai->Hc Ai)(r:R2):Prop:=
 ∀(pI:Pn)(s:Ap)(σ:St)(H:Hp)(x y:V)(v u:Ai)(Q:VK),Inv X pI σ H s->BY x v->BY y u->r x y H Q ->
  Az (model X.prog X.w) X.A (f v u) (EP X pI σ Q) X.xe s
noncomputable def UnR(X:Cx)(f:Ai->Hc Ai)(r:V->Hp->VK->Prop):Prop:=
 ∀(pI:Pn)(s:Ap)(σ:St)(H:Hp)(x:V)(v:Ai)(Q:VK),Inv X pI σ H s->BY x v->r x H Q ->
  Az (model X.prog X.w) X.A (f v) (EP X pI σ Q) X.xe s
noncomputable def HU(X:Cx)(f:Ai)(r:Ac V->Hp->VK->Prop):Prop:=
 ∀(pI:Pn)(s:Ap)(σ:St)(H:Hp)(xs:Ac V)(us:Ac Ai)(Q:VK),Inv X pI σ H s->Br xs us->r xs H Q ->
  Az (model X.prog X.w) X.A (call f us) (EP X pI σ Q) X.xe s
noncomputable def Zv(X:Cx)(r:V->Hp->(Ao->Hp->Prop)->Prop):Prop:=
 ∀(pI:Pn)(s:Ap)(σ:St)(H:Hp)(x:V)(v:Ai)(Q:Ao->Hp->Prop),Inv X pI σ H s->BY x v->r x H Q ->
  Az (model X.prog X.w) X.A (truthy v) (TP X pI σ Q) X.xe s
def tOp(r:R2)(ta tb:TE):TE:=fun σ H Q=>ta σ H fun x H1=>tb σ H1 fun y H2=>r x y H2 Q
def tUn(r:V->Hp->VK->Prop)(ta:TE):TE:=fun σ H Q=>ta σ H fun x H1=>r x H1 Q
def rI(C:Ae->Ae->Prop)(g:Ae->Ae->V):R2:=fun x y H Q=>∃ i j,x=.int i/\y=.int j/\C i j/\Q (g i j) H
def rI0(g:Ae->Ae->V):R2:=fun x y H Q=>∃ i j,x=.int i/\y=.int j/\Q (g i j) H
def rU(g:Ae->V):V->Hp->VK->Prop:=fun x H Q=>∃ i,x=.int i/\Q (g i) H
section
variable{X:Cx}{a b c:Ar}{ta tb tc:TE}{pos:Bb}
theorem Ro(ha:PE X a ta)(hb:PE X b tb){R:V->V->Hp->Prop}(I:Inv X pI σ H s)(h:ta σ H fun x H1=>tb σ H1 fun y H2=>R x y H2){Q:Vq}(hf:∀ v u s2 x y H2,Inv X pI σ H2 s2->BY x v->BY y u->R x y H2->Az (model X.prog X.w) X.A (f v u) Q X.xe s2):Az (model X.prog X.w) X.A (eval a X.env) (fun v s₁=>Az (model X.prog X.w) X.A (eval b X.env) (fun u s₂=>Az (model X.prog X.w) X.A (f v u) Q X.xe s₂) X.xe s₁) X.xe s:=by
 refine thn (ha pI s σ H _ I h) fun v s1 ⟨x,H1,I1,r1,q1⟩=>?_
 refine thn (hb pI s1 σ H1 _ I1 q1) fun u s2 ⟨y,H2,I2,r2,q2⟩=>?_
 exact hf v u s2 x y H2 I2 r1 r2 q2
theorem VZ{op:HH}(ho:OpR X (Ct op) r)(ha:PE X a ta)(hb:PE X b tb):PE X (.BinOp a op b pos) (tOp r ta tb):=by
 intro pI s σ H Q I h;exact wpAny_BinOp (Ro ha hb I h fun v u s2 x y H2 I2 rx ry q=>ho pI s2 σ H2 x y v u Q I2 rx ry q)
theorem yU{op:UnaryOp}{r:V->Hp->VK->Prop}(ho:UnR X (unaryOp op) r)(ha:PE X a ta):PE X (.UnaryOp op a pos) (tUn r ta):=by
 intro pI s σ H Q I h;exact UnaryOp_ (thn (ha pI s σ H _ I h) fun v s1 ⟨x,H1,I1,r1,q1⟩=>ho pI s1 σ H1 x v Q I1 r1 q1)
theorem opI{C:Ae->Ae->Prop}(rule:∀(i j:Ae)(t u:DD)(s:Ap)(Q:Vq)(E:Vq),C i j->Q (.int (g i j) s.toks) {s with toks:=s.toks+1}->Az (model X.prog X.w) X.A (f (.int i t) (.int j u)) Q E s):OpR X f (rI C fun i j=>.int (g i j)):=by
 intro pI s σ H x y v u Q I rx ry h;obtain⟨i,j,rfl,rfl,hc,q⟩:=h;obtain⟨t,rfl⟩:=rx;obtain⟨t',rfl⟩:=ry;exact rule i j t t' s _ _ hc ⟨.int (g i j),H,I.tok _,⟨_,rfl⟩,q⟩
theorem Rz(rule:∀(i j:Ae)(t u:DD)(s:Ap)(Q:Vq)(E:Vq),Q (.int (g i j) s.toks) {s with toks:=s.toks+1}->Az (model X.prog X.w) X.A (f (.int i t) (.int j u)) Q E s):OpR X f (rI0 fun i j=>.int (g i j)):=by
 intro pI s σ H x y v u Q I rx ry h;obtain⟨i,j,rfl,rfl,q⟩:=h;obtain⟨t,rfl⟩:=rx;obtain⟨t',rfl⟩:=ry;exact rule i j t t' s _ _ ⟨.int (g i j),H,I.tok _,⟨_,rfl⟩,q⟩
theorem NW{g:Ae->Ae->Ao}(rule:∀(i j:Ae)(t u:DD)(s:Ap)(Q:Vq)(E:Vq),Q (.bool (g i j)) s->Az (model X.prog X.w) X.A (f (.int i t) (.int j u)) Q E s):OpR X f (rI0 fun i j=>.bl (g i j)):=by
 intro pI s σ H x y v u Q I rx ry h;obtain⟨i,j,rfl,rfl,q⟩:=h;obtain⟨t,rfl⟩:=rx;obtain⟨t',rfl⟩:=ry;exact rule i j t t' s _ _ ⟨.bl (g i j),H,I,rfl,q⟩
def ZB(i j:Ae):Prop:=0<j/\j<1073741824
def ZA(i j:Ae):Prop:=0<=j/\j<=1000000/\i.natAbs<2 ^ 64
def NT(i j:Ae):Prop:=(-(2 ^ 64)<i/\i<2 ^ 64)\/(-(2 ^ 64)<j/\j<2 ^ 64)
theorem NT.ok{i j:Ae}(h:NT i j):LF i j:=by
 rcases h with ⟨h1,h2⟩|⟨h1,h2⟩
 ·exact .of_left (intBits_le_64 h1 h2)
 ·exact .of_right (intBits_le_64 h1 h2)
theorem qX:OpR X (Ct .Add) (rI0 fun i j=>.int (i+j)):=Rz fun _ _ _ _ _ _ _ q=>add_int q
theorem qT:OpR X (Ct .Sub) (rI0 fun i j=>.int (i-j)):=Rz fun _ _ _ _ _ _ _ q=>sub_int q
theorem gS:OpR X (Ct .FloorDiv) (rI ZB fun i j=>.int (i / j)):=opI fun i j _ _ _ _ _ hc q=>by
 have h1:(0:Ae)<j:=hc.1;have h2:j<1073741824:=hc.2;exact floordiv_int (by omega) (by rw[Int.fdiv_eq_ediv_of_nonneg i (by omega)];exact q) (.inl (PyProof.noPylong_small (by omega)))
theorem qV:OpR X (Ct .Mod) (rI (fun _ j=>0<j) fun i j=>.int (i%j)):=opI fun i j _ _ _ _ _ hc q=>by
 have h1:(0:Ae)<j:=hc;exact mod_int' (by omega) (by rw[Int.fmod_eq_emod_of_nonneg i (by omega)];exact q)
theorem qU:OpR X (Ct .Pow) (rI ZA fun i j=>.int (i ^ j.toNat)):=opI fun _ _ _ _ _ _ _ hc q=>pow_int_small hc.1 hc.2.1 hc.2.2 q
theorem unI{f:Ai->Hc Ai}{g:Ae->Ae}(rule:∀(i:Ae)(t:DD)(s:Ap)(Q:Vq)(E:Vq),Q (.int (g i) s.toks) {s with toks:=s.toks+1}->Az (model X.prog X.w) X.A (f (.int i t)) Q E s):UnR X f (rU fun i=>.int (g i)):=by
 intro pI s σ H x v Q I rx h;obtain⟨i,rfl,q⟩:=h;obtain⟨t,rfl⟩:=rx;exact rule i t s _ _ ⟨.int (g i),H,I.tok _,⟨_,rfl⟩,q⟩
theorem mI:UnR X (unaryOp .USub) (rU fun i=>.int (-i)):=unI fun _ _ _ _ _ q=>neg_int q
end
section
variable{X:Cx}{a b c:Ar}{ta tb tc:TE}{pos:Bb}
theorem Va{Q:VK}{k k':Ao}(I:Inv X pI σ H s)(q:Q (.bl k) H)(e:k=k'):EP X pI σ Q (.bool k') s:=by
 subst e;exact⟨.bl k,H,I,rfl,q⟩
theorem zC:OpR X (CZ .Lt) (rI0 fun i j=>.bl (decide (i<j))):=NW fun _ _ _ _ _ _ _ q=>lt_int q
theorem zD:OpR X (CZ .LtE) (rI0 fun i j=>.bl (decide (i<=j))):=NW fun _ _ _ _ _ _ _ q=>le_int q
theorem zE:OpR X (CZ .Gt) (rI0 fun i j=>.bl (decide (j<i))):=NW fun _ _ _ _ _ _ _ q=>gt_int q
theorem zF:OpR X (CZ .GtE) (rI0 fun i j=>.bl (decide (j<=i))):=NW fun _ _ _ _ _ _ _ q=>ge_int q
theorem qW:OpR X (CZ .Is) (fun x y H Q=>y=.non/\Q (.bl (decide (x=.non))) H):=by
 intro pI s σ H x y v u Q I rx ry h;obtain⟨rfl,q⟩:=h;cases ry;refine is_none_gen (Va I q ?_);cases x<;>first
  |(cases rx;rfl)
  |(obtain⟨t,rfl⟩:=rx;rfl)
theorem iX:OpR X (CZ .IsNot) (fun x y H Q=>y=.non/\Q (.bl (!decide (x=.non))) H):=by
 intro pI s σ H x y v u Q I rx ry h;obtain⟨rfl,q⟩:=h;cases ry;refine isnot_none_gen (Va I q ?_);cases x<;>first
  |(cases rx;rfl)
  |(obtain⟨t,rfl⟩:=rx;rfl)
theorem iP(ho:OpR X (CZ op) r)(ha:PE X a ta)(hb:PE X b tb)(hm:He op b=Ad):PE X (.Compare a [op] [b] pos) (tOp r ta tb):=by
 intro pI s σ H Q I h;exact wpAny_Compare1 (Ro ha hb I h fun v u s2 x y H2 I2 rx ry q=>ho pI s2 σ H2 x y v u Q I2 rx ry q) hm
def VU(t:TE):TT:=fun σ H Q=>t σ H fun x H'=>∃ k,x=.bl k/\Q k H'
theorem iG(ho:OpR X (CZ op) r)(ha:PE X a ta)(hb:PE X b tb)(hm:He op b=Ad):PT X (.Compare a [op] [b] pos) (VU (tOp r ta tb)):=by
 intro pI s σ H Q I h;refine wpAny_isTrue_Compare1 (thn (ha pI s σ H _ I h) fun v s1 ⟨x,H1,I1,r1,q1⟩=>thn (hb pI s1 σ H1 _ I1 q1) fun u s2 ⟨y,H2,I2,r2,q2⟩=>
  thn (ho pI s2 σ H2 x y v u _ I2 r1 r2 q2) fun c s3 ⟨z,H3,I3,r3,k,e,q3⟩=>?_) hm
 subst e;cases r3;exact C1 ⟨H3,I3,q3⟩
def Vi(r r':R2)(ta tb tc:TE):TE:=fun σ H Q=>ta σ H fun x H1=>tb σ H1 fun y H2=>r x y H2 fun z H3=>∃ k,z=.bl k /\
 (if k=Aa then tc σ H3 fun w' H4=>r' y w' H4 Q else Q (.bl Ad) H3)
theorem dL{op':Ft}{r':R2}(ho:OpR X (CZ op) r)(ho':OpR X (CZ op') r')(ha:PE X a ta)(hb:PE X b tb)(hc:PE X c tc)(hm:Ju [op,op'] [b,c]=Ad:=by with_unfolding_all rfl):PE X (.Compare a [op,op'] [b,c] pos) (Vi r r' ta tb tc):=by
 intro pI s σ H Q I h;refine Compare_chain (thn (ha pI s σ H _ I h) fun v s1 ⟨x,H1,I1,r1,q1⟩=>chain_link (thn (hb pI s1 σ H1 _ I1 q1) fun u s2 ⟨y,H2,I2,r2,q2⟩=>
  thn (ho pI s2 σ H2 x y v u _ I2 r1 r2 q2) fun d s3 ⟨z,H3,I3,r3,k,e,q3⟩=>?_)) hm
 subst e;cases r3;refine C1 ?_;cases k with
 |false=>exact ite_ff ⟨.bl Ad,H3,I3,rfl,q3⟩
 |true=>exact ite_tt (chain_last (thn (hc pI s3 σ H3 _ I3 q3) fun w' s4 ⟨z',H4,I4,r4,q4⟩=>ho' pI s4 σ H4 y z' u w' Q I4 r2 r4 q4))
theorem dE{op':Ft}{r':R2}(ho:OpR X (CZ op) r)(ho':OpR X (CZ op') r')(ha:PE X a ta)(hb:PE X b tb)(hc:PE X c tc)(hm:Ju [op,op'] [b,c]=Ad:=by with_unfolding_all rfl):PT X (.Compare a [op,op'] [b,c] pos) (VU (Vi r r' ta tb tc)):=by
 intro pI s σ H Q I h;refine isTrue_chain (thn (ha pI s σ H _ I h) fun v s1 ⟨x,H1,I1,r1,q1⟩=>test_link (thn (hb pI s1 σ H1 _ I1 q1) fun u s2 ⟨y,H2,I2,r2,q2⟩=>
  thn (ho pI s2 σ H2 x y v u _ I2 r1 r2 q2) fun d s3 ⟨z,H3,I3,r3,k,e,q3⟩=>?_)) hm
 subst e;cases r3;refine C1 ?_;cases k with
 |false=>
  obtain⟨k',e',q'⟩:=q3;cases e';exact ite_ff ⟨H3,I3,q'⟩
 |true=>
  refine ite_tt (test_last (thn (hc pI s3 σ H3 _ I3 q3) fun w' s4 ⟨z',H4,I4,r4,q4⟩=>thn (ho' pI s4 σ H4 y z' u w' _ I4 r2 r4 q4) fun d' s5 ⟨z2,H5,I5,r5,k2,e2,q5⟩=>?_))
  subst e2;cases r5;exact C1 ⟨H5,I5,q5⟩
noncomputable def RT(K:Fg)(x:V)(H:Hp)(k:Ao):Prop:=
  match x with
  |.non=>k=Ad
  |.bl b=>k=b
  |.int i=>k=(i != 0)
  |.str y=>y.length<=sizeLine/\k=((y.length:Ae) != 0)
  |.byt y=>y.size<=sizeLine/\k=((y.size:Ae) != 0)
  |.ref p=>(∃ xs,SqL K H p xs/\k=!xs.isEmpty)\/(∃ xs,SqT K H p xs/\k=!xs.isEmpty)\/∃ kvs,H p=Ab (.dK kvs)/\k=!kvs.isEmpty
  |_=>BN
theorem aC{κ:Type}{kvs:Ac (κ×V)}{vs:Ac (κ×Ai)}(r:KV kvs vs):(!vs.isEmpty)=!kvs.isEmpty:=by
 cases r<;>rfl
theorem Sz{its:Ac Ai}(r:Br xs its):(!its.toArray.isEmpty)=!xs.isEmpty:=by
 cases r<;>simp
theorem K3:(sizeLine:Ag)<2 ^ 63:=by rw[CO];decide
theorem pH:Zv X (fun x H Q=>∃ k,RT X.K x H k/\Q k H):=by
 intro pI s σ H x v Q I rx h;obtain⟨k,e,q⟩:=h;have hl:=K3;have hs:sizeLine=16777216:=CO;cases x with
 |non=>
  cases rx;have e':k=Ad:=e;subst e';exact truthy_none ⟨H,I,q⟩
 |bl b=>
  cases rx;have e':k=b:=e;subst e';exact C1 ⟨H,I,q⟩
 |int i=>
  obtain⟨t,rfl⟩:=rx;have e':k=(i != 0):=e;subst e';exact PySem.P.truthy_int ⟨H,I,q⟩
 |str y=>
  obtain⟨t,rfl⟩:=rx;obtain⟨hy,e'⟩:y.length<=sizeLine/\k=((y.length:Ae) != 0):=e;subst e';exact PySem.P.truthy_str (by omega) ⟨H,I.tok _,q⟩
 |byt y=>
  obtain⟨t,rfl⟩:=rx;obtain⟨hy,e'⟩:y.size<=sizeLine/\k=((y.size:Ae) != 0):=e;subst e';exact PySem.W.truthy_bytes (by omega) ⟨H,I.tok _,q⟩
 |ref p=>
  cases rx;have e':(∃ xs,SqL X.K H p xs/\k=!xs.isEmpty)\/(∃ xs,SqT X.K H p xs/\k=!xs.isEmpty)\/∃ kvs,H p=Ab (.dK kvs)/\k=!kvs.isEmpty:=e;rcases e' with ⟨xs,hx,e'⟩|⟨xs,hx,e'⟩|⟨kvs,hx,e'⟩
  ·subst e';obtain⟨its,r,pl,hz⟩:=I.list hx;have hlen:=r.length;exact wpAny_truthy_list pl.isList (by simp only[AE];omega) ⟨H,I.tok _,by rw[Sz r];exact q⟩
  ·subst e';obtain⟨its,r,pl,hz⟩:=I.tuple hx;have hlen:=r.length;exact truthy_tuple pl (by simp only[AE];omega) ⟨H,I.tok _,by rw[Sz r];exact q⟩
  ·subst e';obtain⟨hz,hS,vs,r,m⟩:kvs.length<=sizeLine/\(p==Ks)=Ad/\∃ vs,KV kvs vs/\s.heap.DictOf (PF X.prog X.w) p vs:=I.hok p _ hx;have hlen:kvs.length=vs.length:=Yj r;exact wpAny_truthy_dict hS m (by omega) ⟨H,I.tok _,by rw[aC r];exact q⟩
 |_=>exact(show BN from e).elim
theorem dD(ha:PE X a ta)(he:∀ whole,IJ a X.env whole=(do let v <-whole;Hx a.pos;holding [v] (truthy v))):PT X a (fun σ H Q=>ta σ H fun x H'=>∃ k,RT X.K x H' k/\Q k H'):=by
 intro pI s σ H Q I h;exact isTrue_plain (thn (ha pI s σ H _ I h) fun v s1 ⟨x,H1,I1,r1,q1⟩=>pH pI s1 σ H1 x v Q I1 r1 q1) (he _)
theorem Z8:OpR X (Ct .Add) (fun x y H Q=>∃ i j,x=.str i/\y=.str j/\i.length+j.length<=sizeLine/\Q (.str (i++j)) H):=by
 intro pI s σ H x y v u Q I rx ry h;obtain⟨i,j,rfl,rfl,hz,q⟩:=h;obtain⟨t,rfl⟩:=rx;obtain⟨t',rfl⟩:=ry;exact add_str (fun t' tk=>⟨.str (i++j),H,I.tok _,⟨_,rfl⟩,q⟩) hz
theorem HY{x:V}(r:Br [x] us):∃ u,us=[u]/\BY x u:=by
 cases r with
 |cons r1 r2=>cases r2;exact⟨_,rfl,r1⟩
theorem QL{x y:V}(r:Br [x,y] us):∃ u w',us=[u,w']/\BY x u/\BY y w':=by
 cases r with
 |cons r1 r2=>
  cases r2 with
  |cons r3 r4=>cases r4;exact⟨_,_,rfl,r1,r3⟩
theorem bU(hc:X.calm=Aa):HU X (.builtin "max") (fun xs H Q=>∃ i j,xs=[.int i,.int j]/\Q (.int (if j > i then j else i)) H):=by
 intro pI s σ H xs us Q I r h;obtain⟨i,j,rfl,q⟩:=h;obtain⟨u,w',rfl,⟨t,rfl⟩,⟨t',rfl⟩⟩:=QL r;refine max_two_ints (I.ok.hd hc) fun h' tk k=>⟨_,H,I.kept k,?_,q⟩
 by_cases hj:j > i
 ·rw[Ay hj,Ay hj];exact⟨_,rfl⟩
 ·rw[AH hj,AH hj];exact⟨_,rfl⟩
theorem bT(hc:X.calm=Aa):HU X (.builtin "min") (fun xs H Q=>∃ i j,xs=[.int i,.int j]/\Q (.int (if j<i then j else i)) H):=by
 intro pI s σ H xs us Q I r h;obtain⟨i,j,rfl,q⟩:=h;obtain⟨u,w',rfl,⟨t,rfl⟩,⟨t',rfl⟩⟩:=QL r;refine min_two_ints (I.ok.hd hc) fun h' tk k=>⟨_,H,I.kept k,?_,q⟩
 by_cases hj:j<i
 ·rw[Ay hj,Ay hj];exact⟨_,rfl⟩
 ·rw[AH hj,AH hj];exact⟨_,rfl⟩
end
section
variable{prog:A9}{w:AK}{A:Bx}{E:Vq}{s:Ap}{K:Fg}{x dx C f:Al}{mA:Ak->At Ai}{name:Ak}{v:Ai}
end
section
variable{P:A9}{w:AK}{H H':Hp}{h h':AT}{a C dx:Al}{fs fs':Ac (Ak×V)}
end
section
variable{X:Cx}{pI:Pn}{σ:St}{H:Hp}{s:Ap}{a C dx:Al}{fs:Ac (Ak×V)}{f:Ak}{v:V}{A:Bx}{E:Vq}
end
section
variable{X:Cx}{o e value:Ar}{f:Ak}{pos pos' tpos:Bb}{ta tv:TE}
end
section
variable{X:Cx}{pI:Pn}{σ:St}{H:Hp}{s:Ap}{A:Bx}{E:Vq}{Q:Vq}{c:Ai}{b:Ao}
end
structure Room (k:Ag) (A:Bx):Prop where
 hd:A.handled=Af
 dp:A.depth+3*k+5<YD
 un:A.units+16*k+200<CG
theorem Room.deeper{A:Bx}(r:Room (k+1) A)(env:Cy):Room k (A.deeper env):=
 ⟨r.hd,by have:=r.dp;show A.depth+1+3*k+5<_;omega,by have:=r.un;show A.units+3+16*k+200<_;omega⟩
theorem Room.depth{A:Bx}(r:Room k A):A.depth<YD:=by have:=r.dp;omega
theorem Room.units{A:Bx}(r:Room k A):A.units+64<CG:=by have:=r.un;omega
def Y2:TA:=fun _ H Q=>Q [] H
def vM(ta:TE)(tr:TA):TA:=fun σ H Q=>ta σ H fun x H1=>tr σ H1 fun xs H2=>Q (x::xs) H2
section
variable{X:Cx}{e:Ar}{es:Ac Ar}{te:TE}{t:TA}{pos:Bb}
theorem GU:PA X [] Y2:=fun _ _ _ _ H Q I h=>FT ⟨[],H,I,.nil,h⟩
theorem E6(ha:PE X e te)(hr:PA X es t)(hs:AG (e::es) X.env=(Ad,eval e X.env)::AG es X.env:=by rfl):PA X (e::es) (vM te t):=by
 intro pos pI s σ H Q I h;rw[hs];show Az _ _ (spliced ((Ad,eval e X.env)::CQ pos (AG es X.env))) _ _ s;refine FE (thn (ha pI s σ H _ I h) fun u s1 ⟨x,H1,I1,r1,q1⟩=>?_)
 exact thn (hr pos pI s1 σ H1 _ I1 q1) fun us s2 ⟨xs,H2,I2,r2,q2⟩=>⟨x::xs,H2,I2,.cons r1 r2,q2⟩
def Zl(t:TA):TE:=fun σ H Q=>t σ H fun xs H1=>xs.length<=sizeLine/\∀ p,H1 p=Af->Q (.ref p) (upd H1 p (.tup xs))
def Y3(t:TA):TE:=fun σ H Q=>t σ H fun xs H1=>xs.length<=sizeLine/\∀ p,H1 p=Af->Q (.ref p) (upd H1 p (.lst xs))
theorem qH{x1}(h:PA X es t):PE X (.Tuple es x1 pos) (Zl t):=by
 intro pI s σ H Q I hq;refine wpAny_Tuple_spliced (thn (h pos pI s σ H _ I hq) fun us s1 ⟨xs,H1,I1,r,z,q⟩=>⟨by rw[<-r.length];exact z,?_⟩)
 have hf:H1 s1.heap.objs.size=Af:=I1.hok.fresh (AS _);refine⟨.ref s1.heap.objs.size,upd H1 s1.heap.objs.size (.tup xs),I1.laid (t':=s1.toks) (fun b u e=>As _ e) (AS _) ?_,rfl,q _ hf⟩
 exact⟨z,us,r,⟨_,AC _ rfl,rfl,_,rfl⟩⟩
theorem qM(h:PA X es t):PE X (.List es pos) (Y3 t):=by
 intro pI s σ H Q I hq;refine wpAny_List_spliced (thn (h pos pI s σ H _ I hq) fun us s1 ⟨xs,H1,I1,r,z,q⟩=>⟨by rw[<-r.length];exact z,?_⟩)
 have hf:H1 s1.heap.objs.size=Af:=I1.hok.fresh (AS _);refine⟨.ref s1.heap.objs.size,upd H1 s1.heap.objs.size (.lst xs),I1.laid (t':=s1.toks) (fun b u e=>As _ e) (AS _) ?_,rfl,q _ hf⟩
 exact⟨z,us,0,r,AC _ rfl⟩
end
abbrev Sp:=Ac V->Hp->VK->XK->Prop
variable{sp:Sp}
abbrev CXT:=Ac Cy->Hp->Ap->XK->Ai->Ap->Prop
variable{CX:CXT}
structure Env0 (P:A9) (w:AK) (K:Fg) (mg:Ak->At Ai) (base:AT) (A:Bx) (outer:Ac Cy) (s:Ap) (H:Hp):Prop where
 frames:A.frames=Ab outer
 mod:Mod K mg base
 bs:∀ b o,base.get? b=Ab o->s.heap.get? b=Ab o/\H b=Af
 bsz:base.objs.size<=s.heap.objs.size
 funs:s.heap.FunFrames base outer
 frf:∀ b∈frs outer,H b=Af
 hok:HOk P w H s.heap
 bare:FN s.gens
noncomputable def CE(outer:Ac Cy)(P:A9)(w:AK)(H:Hp)(s:Ap)(Q:VK)(u:Ai)(s':Ap):Prop:=
 ∃ v H',s'.os=s.os/\FN s'.gens/\Un (frs outer) [] H H' s.heap s'.heap/\HOk P w H' s'.heap/\BY v u/\Q v H'
noncomputable def CR(CX:CXT)(outer:Ac Cy)(P:A9)(w:AK)(H:Hp)(s:Ap)(Q:VK)(E:XK)(r:Kk)(s':Ap):Prop:=
  match r with
  |.ok (.ret u)=>CE outer P w H s Q u s'
  |.ok _=>BN
  |.error e=>CX outer H s E e s'
structure FnOk (P:A9) (w:AK) (K:Fg) (mg:Ak->At Ai) (base:AT) (CX:CXT) (k:Ag) (f:Al) (fd:CS) (ps:Ac Ak) (sp:Sp):Prop where
 len:∀ vs H Q E,sp vs H Q E->vs.length=ps.length
 run:∀(A:Bx)(outer:Ac Cy)(s:Ap)(H:Hp)(args:Args)(us:Ac Ai)(vs:Ac V)(Q:VK)(E:XK),Room k A->Env0 P w K mg base A outer s H->Hv s fd args (ps.zip us)->Br vs us->sp vs H Q E ->
  FO (model P w) A (.call (.ref f) args) (CR CX outer P w H s Q E) s
theorem FnOk.imp{w:AK}{K:Fg}{mg:Ak->At Ai}{base:AT}{f:Al}{sp':Sp}(F:FnOk P w K mg base CX k f fd ps sp)(h:∀ vs H Q E,sp' vs H Q E->sp vs H Q E):FnOk P w K mg base CX k f fd ps sp':=
 ⟨fun vs H Q E q=>F.len vs H Q E (h _ _ _ _ q),fun A outer s H args us vs Q E hr he hb hv hs=>F.run A outer s H args us vs Q E hr he hb hv (h _ _ _ _ hs)⟩
section
variable{X:Cx}{pI:Pn}{σ:St}{H:Hp}{s s':Ap}
theorem Inv.env0(I:Inv X pI σ H s):Env0 X.prog X.w X.K X.mg X.base X.A X.stack s H:=
 ⟨I.ok.frames,I.ok.mod,I.bs,BK I.ok.bsz I.sz,I.stack,I.stkFree,I.hok,I.bare⟩
theorem Inv.after{Q:VK}(I:Inv X pI σ H s)(h:CE X.stack X.prog X.w H s Q u s'):EP X pI σ Q u s':=by
 obtain⟨v,H',os,bare,un,hok,r,q⟩:=h;obtain⟨hh,g,d,t,os'⟩:=s';obtain rfl:os'=s.os:=os;exact⟨v,H',I.call (h':=hh) (g':=g) (d':=d) (t':=t) (ch:=[]) un hok bare (fun b z=>absurd z (by simp)),r,q⟩
end
def vN(sp:Sp)(dvs:Ac V)(E:XK)(t:TA):TE:=fun σ H Q=>t σ H fun vs H1=>sp (vs++dvs) H1 Q E
noncomputable def IA(K:Fg)(fd:CS)(ps:Ac Ak)(ds:Ac Ai):Prop:=
 ∀(s:Ap)(us:Ac Ai),K.In s.heap->(us++ds).length=ps.length->Hv s fd ⟨us,[]⟩ (ps.zip (us++ds))
theorem IA.all{K:Fg}(h:∀ us:Ac Ai,us.length=ps.length->LI fd ⟨us,[]⟩=pure (ps.zip us)):IA K fd ps []:=fun s us _ hl=>by
 rw[Dz]at hl ⊢;exact .of_eq (h us hl)
def KS(CX:CXT)(X:Cx)(E:XK):Prop:=∀(pI:Pn)(σ:St)(H:Hp)(s:Ap)(e:Ai)(s':Ap),Inv X pI σ H s->CX X.stack H s E e s'->X.xe e s'
section
variable{X:Cx}{CX:CXT}{k:Ag}{f C:Al}{fd:CS}{ps:Ac Ak}{sp:Sp}{dvs:Ac V}{ds:Ac Ai}{E:XK}{x m:Ak}{p pos apos:Bb}{e o:Ar}{es:Ac Ar}{ta:TE}{t:TA}
theorem nX{Q:VK}(F:FnOk X.prog X.w X.K X.mg X.base CX k f fd ps sp)(hr:Room k X.A)(hb:IA X.K fd ps ds)(hd:Br dvs ds)(hx:KS CX X E)(I:Inv X pI σ H s)(r:Br vs us)(h:sp (vs++dvs) H Q E):Az (model X.prog X.w) X.A (call (.ref f) us) (EP X pI σ Q) X.xe s:=by
 have r2:Br (vs++dvs) (us++ds):=r.append hd;have hl:(us++ds).length=ps.length:=by rw[<-r2.length];exact F.len _ _ _ _ h
 refine wpAny_call (Js (F.run X.A X.stack s H ⟨us,[]⟩ (us++ds) (vs++dvs) Q E hr I.env0 (hb s us I.kIn hl) r2 h) fun r s' hq=>?_)
 cases r with
 |error e=>exact hx pI σ H s e s' I hq
 |ok fl=>
  cases fl with
  |ret u=>exact I.after hq
  |next=>exact Eg hq
  |brk=>exact Eg hq
  |cont=>exact Eg hq
theorem Ui(F:FnOk X.prog X.w X.K X.mg X.base CX k f fd ps sp)(hr:Room k X.A)(hg:Gl X x)(hm:X.mg x=Ab (.ref f))(hk:DK X.K (.ref f)=Aa)(hb:IA X.K fd ps ds)(hd:Br dvs ds)(hx:KS CX X E)(ha:PA X (e::es) t)(hdb:(x==("__debug__" : Ak))=Ad:=by decide)(he:AG (e::es) X.env=(Ad,eval e X.env)::AG es X.env:=by rfl)(hpl:(CQ pos (AG es X.env)).any (·.1)=Ad:=by rfl):PE X (.Call (.Name x p) (e::es) [] pos) (vN sp dvs E t):=by
 intro pI s σ H Q I h;refine Hb (lR I hg hm ?_ hdb);refine PySem.W.callWith_K (h₀:=X.base) I.ok.mod.kin hk (thn (ha pos pI s σ H _ I h) fun us s1 ⟨vs,H1,I1,r,q⟩=>⟨I1.kIn,?_⟩) he hpl
 exact nX F hr hb hd hx I1 r q
end
section
variable{X:Cx}{CX:CXT}{k:Ag}{f C:Al}{fd:CS}{ps ks:Ac Ak}{sp:Sp}{E:XK}{x m:Ak}{p pos apos kpos:Bb}{e o:Ar}{es:Ac Ar}{kws:Ac Fh}{te ta:TE}{t tk:TA}{nm:At Ak}
variable{g:Ac Ai->Ac Ai->Ac Ai}{gV:Ac V->Ac V->Ac V}
end
structure FnScope (N P:Ac Ak) (sc:CN):Prop where
 kind:sc.kind=.function
 co:sc.isCoroutine=Ad
 gen:sc.isGenerator=Ad
 nd:N.Nodup
 pre:N.take P.length=P
 par:∀ x∈P,sc.names.lookup x=Ab .local\/sc.names.lookup x=Ab .cell
 nofree:∀ y∈sc.names,y.2≠.free
theorem SU{kindOf:Ak->At Eu}{x:Ak}:∀{binds:Ac (Ak×Ai)}{m:Ak->At Ai},(∀ v,(x,v)∉binds)->IR kindOf binds m x=m x
 |[],_,_=>rfl
 |(n,v)::r,m,h=>by
  unfold IR;rw[SU fun w hw=>h w (Au _ hw)]
  split
  ·have:x≠n:=by rintro rfl;exact h v Ax
   simp[this]
  ·rfl
theorem SX{kindOf:Ak->At Eu}{x:Ak}:∀{binds:Ac (Ak×Ai)}{m:Ak->At Ai},(∀ v,(x,v)∉binds)->IQ kindOf binds m x=m x
 |[],_,_=>rfl
 |(n,v)::r,m,h=>by
  unfold IQ;rw[SX fun w hw=>h w (Au _ hw)]
  split
  ·rfl
  ·have:x≠n:=by rintro rfl;exact h v Ax
   simp[this]
theorem SV{kindOf:Ak->At Eu}{x:Ak}{v:Ai}:∀{P:Ac Ak}{vs:Ac Ai}{i:Ag}{m:Ak->At Ai},P.Nodup->P[i]?=Ab x->vs[i]?=Ab v->kindOf x=Ab .local->IR kindOf (P.zip vs) m x=Ab v
 |[],_,_,_,_,h,_,_=>by simp at h
 |_::_,[],_,_,_,_,h,_=>by simp at h
 |p::P,w::vs,0,m,nd,h1,h2,hk=>by
  simp at h1 h2;subst h1;subst h2;show IR kindOf ((p,w)::P.zip vs) m p=_;unfold IR;rw[SU fun v hv=>(B4.mp nd).1 (Ie hv).1,Ay hk]
  simp
 |p::P,w::vs,i+1,m,nd,h1,h2,hk=>by
  show IR kindOf ((p,w)::P.zip vs) m x=_;unfold IR;exact SV (i:=i) (B4.mp nd).2 (by simpa using h1) (by simpa using h2) hk
theorem SY{kindOf:Ak->At Eu}{x:Ak}{v:Ai}:∀{P:Ac Ak}{vs:Ac Ai}{i:Ag}{m:Ak->At Ai},P.Nodup->P[i]?=Ab x->vs[i]?=Ab v->kindOf x≠Ab .local->IQ kindOf (P.zip vs) m x=Ab v
 |[],_,_,_,_,h,_,_=>by simp at h
 |_::_,[],_,_,_,_,h,_=>by simp at h
 |p::P,w::vs,0,m,nd,h1,h2,hk=>by
  simp at h1 h2;subst h1;subst h2;show IQ kindOf ((p,w)::P.zip vs) m p=_;unfold IQ;rw[SX fun v hv=>(B4.mp nd).1 (Ie hv).1,AH hk]
  simp
 |p::P,w::vs,i+1,m,nd,h1,h2,hk=>by
  show IQ kindOf ((p,w)::P.zip vs) m x=_;unfold IQ;exact SY (i:=i) (B4.mp nd).2 (by simpa using h1) (by simpa using h2) hk
noncomputable def start(N:Ac Ak)(vs:Ac V):St:=vs.map Ab++EW (N.length-vs.length) Af
noncomputable def G1(CX:CXT)(P:A9)(w:AK)(K:Fg)(mg:Ak->At Ai)(base:AT)(N:Ac Ak)(qual:Ak)(scope:CN)(f:Al)(cd:Ai)(A:Bx)(outer:Ac Cy)(s:Ap)(H:Hp)(E:XK):Cx where
 prog:=P
 w:=w
 K:=K
 mg:=mg
 base:=base
 A:=A.deeper (Fe qual scope s.heap.objs.size f cd)
 N:=N
 s₀:=s
 H₀:=H
 env:=Fe qual scope s.heap.objs.size f cd
 outer:=outer
 stack:=Fe qual scope s.heap.objs.size f cd::outer
 ex:=[]
 calm:=Aa
 fn:=fun _=>Aa
 pn:=[]
 xe:=fun e s'=>Az (model P w) (A.deeper (Fe qual scope s.heap.objs.size f cd)) (leaving (Fe qual scope s.heap.objs.size f cd) e) (fun _ s''=>CX outer H s E e s'') (fun e' s''=>CX outer H s E e' s'') s'
theorem Ua{sc:CN}(h:sc.names.lookup x=Ab .cell):∃ c,(Dy n sc.names []).lookup x=Ab c:=by
 have q:=Yr sc.names n [] (.inl h);exact XA.mp q
theorem aT{w:AK}{K:Fg}{mg:Ak->At Ai}{base:AT}{N ps:Ac Ak}{f:Al}{cd:Ai}{A:Bx}{outer:Ac Cy}{s1:Ap}{E:XK}(S:FnScope N ps scope)(hd:A.handled=Af)(e0:Env0 P w K mg base A outer s H)(hl:vs.length=ps.length)(r:Br vs us)(x:InCallC s s.heap.objs.size (IR (Fe qual scope s.heap.objs.size f cd).kindOf (ps.zip us) fun _=>Af) (Dy (s.heap.objs.size+1) scope.names []) (IQ (Fe qual scope s.heap.objs.size f cd).kindOf (ps.zip us) fun _=>Af) s1):Inv (G1 CX P w K mg base N qual scope f cd A outer s H E) [] (start N vs) H s1:=by
 have hpl:ps.length<=N.length:=by have:=congrArg Xa S.pre;rw[HC]at this;omega
 obtain⟨h1,tk,rfl,hk⟩:=x.done;have noA:∀ b:Al,b∉(G1 CX P w K mg base N qual scope f cd A outer s H E).ex:=fun b z=>absurd (show b∈([]:Ac Al) from z) (by simp)
 refine⟨⟨e0.mod,S.kind,rfl,rfl,AS _,fun y z c h1 h2=>?_,fun y hy=>?_,fun y c _ h=>?_,fun _=>hd,Around.frames_deeper e0.frames,.inr ⟨rfl,rfl⟩,fun b z=>absurd z (noA b),e0.bs,e0.bsz,fun b _ _=>noA b,fun b z=>absurd z (noA b),e0.funs,e0.frf⟩,
  rfl,e0.bare,Un.kept hk,⟨_,x.toInCall.ns,fun i y v h1 h2 h3=>?_⟩,fun y c h=>⟨_,x.cell y c h⟩,e0.hok.fresh (AS _),fun y c h=>?_,fun p hp=>absurd (show p∈([]:Pn) from hp) (by simp),e0.hok.kept hk,?_⟩
 ·exact name_of_addr x.apart (C2 h1) (C2 h2)
 ·have hy:scope.names.lookup y=Ab .cell\/scope.names.lookup y=Ab .free:=hy;rcases hy with hy|hy
  ·exact Ua hy
  ·exact absurd rfl (S.nofree _ (C2 hy))
 ·exact DR (x.above y c (C2 h))
 ·have hi:i<vs.length:=by
   unfold start at h2;by_cases hi:i<vs.length
   ·exact hi
   ·rw[W7 (by simpa using hi)]at h2
    rw[W8]at h2;split at h2<;>cases h2
  have ha:vs[i]?=Ab v:=by
   unfold start at h2;rw[Fp (by simpa using hi),D7]at h2
   cases e:vs[i]? with
   |none=>rw[e]at h2;cases h2
   |some a=>rw[e]at h2;cases h2;rfl
  obtain⟨u,hu,rv⟩:=r.get ha;have hp:ps[i]?=Ab y:=by
   rw[<-S.pre,List.getElem?_take_of_lt (by omega)];exact h1
  have ndP:ps.Nodup:=by rw[<-S.pre];exact S.nd.sublist (List.take_sublist _ _)
  refine⟨u,rv,?_⟩;rcases S.par y (DA hp) with k|k
  ·exact .inl ⟨k,SV ndP hp hu k⟩
  ·obtain⟨c,e⟩:=Ua (n:=s.heap.objs.size+1) k;refine .inr ⟨.inl k,c,e,?_⟩;have q:=x.cell y c e;rw[SY ndP hp hu (by show scope.names.lookup y≠_;rw[k];decide)]at q
   exact q
 ·exact e0.hok.fresh (DR (x.above y c (C2 h)))
 ·unfold start;show _=N.length;rw[Cw,BD,Gg];omega
theorem Wa{w:AK}{K:Fg}{mg:Ak->At Ai}{base:AT}{f:Al}{name:Ak}{params:Arguments}{dV kV doc pm cdv ct oc:Ai}{an od:At Al}{osl:AR (At Ai)}{N ps:Ac Ak}(lk:K.lookup f=Ab ⟨oc,od,.func (Ev name qual params body scope dV kV doc pm an cdv ct),osl⟩)(hcd:GQ K cdv qual=Aa)(S:FnScope N ps scope)(len:∀ vs H Q E,sp vs H Q E->vs.length=ps.length)(hbody:∀(A:Bx)(outer:Ac Cy)(s:Ap)(H:Hp)(vs:Ac V)(Q:VK)(E:XK),Room k (A.deeper (Fe qual scope s.heap.objs.size f cdv))->sp vs H Q E ->
   ∃ t,PSs (G1 CX P w K mg base N qual scope f cdv A outer s H E) body t/\t {nx:=fun _ H'=>Q .non H',rt:=Q} (start N vs) H):FnOk P w K mg base CX (k+1) f (Ev name qual params body scope dV kV doc pm an cdv ct) ps sp:=by
 refine⟨len,fun A outer s H args us vs Q E hr e0 hb r hsp=>?_⟩
 have hl:=len _ _ _ _ hsp;have KX:K.In s.heap:=e0.mod.kin.keeps fun b o e=>(e0.bs b o e).1
 have lim:s.heap.NoLimit:=e0.mod.nolimit.keeps fun b o e=>(e0.bs b o e).1
 have hkind:∀ y∈ps.zip us,scope.names.lookup y.1=Ab .local\/(scope.names.lookup y.1=Ab .cell/\((Dy (s.heap.objs.size+1) scope.names []).lookup y.1).isSome=Aa):=fun ⟨n,v⟩ hy=>by
  rcases S.par n (Ie hy).1 with q|q
  ·exact .inl q
  ·exact .inr ⟨q,Yr _ _ _ (.inl q)⟩
 refine codeAny_call_function hr.depth (KX _ _ lk) rfl S.co S.gen rfl (PySem.W.codeRec_of KX hcd) (hb _ _ _ _ ?_);refine wpAny_newFunctionEnv_cells S.kind hkind fun env he s1 x=>?_
 subst he;refine⟨lim.keeps x.toInCall.keep,codeAny_func ?_⟩;obtain⟨t,ht,hq⟩:=hbody A outer s H vs Q E (hr.deeper _) hsp;have I:Inv (G1 CX P w K mg base N qual scope f cdv A outer s H E) [] (start N vs) H s1:=aT S hr.hd e0 hl r x;refine CH (ht [] s1 (start N vs) H _ I hq) (fun fl s' hs=>?_) fun e s' hs=>hs
 have fin:∀{σ':St}{H':Hp}{v:V}{u:Ai},Inv (G1 CX P w K mg base N qual scope f cdv A outer s H E) [] σ' H' s'->BY v u->Q v H'->CE outer P w H s Q u s':=
  fun {σ' H' v u} J rv q=>⟨v,H',J.os,J.bare,J.base,J.hok,rv,q⟩
 cases fl with
 |ret u=>
  obtain⟨v,σ',H',J,rv,q⟩:=hs;exact fin J rv q
 |next=>
  obtain⟨σ',H',J,q⟩:=hs;exact fin (v:=V.non) (u:=Dg) J rfl q
 |brk=>
  obtain⟨_,_,_,q⟩:=hs;exact Eg q
 |cont=>
  obtain⟨_,_,_,q⟩:=hs;exact Eg q
section
variable{X:Cx}{x:Ak}{p pos:Bb}{e:Ar}{es:Ac Ar}{t:TA}{id T:Ec}{r:Ac V->Hp->VK->Prop}
def tCB(r:Ac V->Hp->VK->Prop)(t:TA):TE:=fun σ H Q=>t σ H fun vs H1=>r vs H1 Q
theorem Pw(hc:HU X (.builtin id) r)(hg:Gl X x)(hm:X.mg x=Af)(hv:Db x=Ab (.builtin id))(ha:PA X (e::es) t)(hn:x≠"__name__" := by decide)(hdb:(x==("__debug__" : Ak))=Ad:=by decide)(he:AG (e::es) X.env=(Ad,eval e X.env)::AG es X.env:=by rfl)(hpl:(CQ pos (AG es X.env)).any (·.1)=Ad:=by rfl):PE X (.Call (.Name x p) (e::es) [] pos) (tCB r t):=by
 intro pI s σ H Q I h;refine Hb (GW I hg hm hv ?_ hn hdb);exact XC (thn (ha pos pI s σ H _ I h) fun us s1 ⟨vs,H1,I1,r1,q1⟩=>hc pI s1 σ H1 vs us Q I1 r1 q1) he hpl
theorem S8(hc:HU X (.type T) r)(hg:Gl X x)(hm:X.mg x=Af)(hv:Db x=Ab (.type T))(ha:PA X (e::es) t)(hn:x≠"__name__" := by decide)(hdb:(x==("__debug__" : Ak))=Ad:=by decide)(he:AG (e::es) X.env=(Ad,eval e X.env)::AG es X.env:=by rfl)(hpl:(CQ pos (AG es X.env)).any (·.1)=Ad:=by rfl):PE X (.Call (.Name x p) (e::es) [] pos) (tCB r t):=by
 intro pI s σ H Q I h;refine Hb (GW I hg hm hv ?_ hn hdb);exact BR (thn (ha pos pI s σ H _ I h) fun us s1 ⟨vs,H1,I1,r1,q1⟩=>hc pI s1 σ H1 vs us Q I1 r1 q1) he hpl
end
end L2
namespace HT
open PySem PyProof.Rows
variable{sl:Al}
section
open PySem.SeqAt
open PySem.AutoSeq1 (wpAny_loadPart')
open PySem.MeetsSeq PySem.MeetsSeq2 PySem.MeetsSeq3
end
section
variable{prog:A9}{w:AK}{A:Bx}{E:Vq}{s:Ap}
theorem cat_tup{t b:Al}{vs ws:Ac Ai}{Q:Vq}(ht:JK s.heap t vs.toArray)(hb:JK s.heap b ws.toArray)(hv:vs≠[])(h1:ws=[]->Q (.ref t) s)(h2:ws≠[]->Q (.ref s.heap.objs.size) { s with heap:=s.heap.push { cls:=.type "tuple", data:=.seq (vs++ws).toArray } })(hsz:vs.length+ws.length<=sizeLine):Az (model prog w) A (Ct .Add (.ref t) (.ref b)) Q E s:=by
 obtain⟨⟨cls,dd,data,sl⟩,ho,hc,n,hd⟩:=id ht;obtain⟨⟨cls2,dd2,data2,sl2⟩,ho2,hc2,n2,hd2⟩:=id hb;simp only at hc hd hc2 hd2;subst hc hd hc2 hd2;have e:vs.toArray++ws.toArray=(vs++ws).toArray:=by simp
 by_cases hw:ws=[]
 ·exact Jt ⟨_,ho,rfl⟩ ⟨_,ho2,rfl⟩ YC seq_tuple_add X7 XZ (XR _ _)
   (tuple_addW1 t b vs.toArray ws.toArray n n2 dd dd2 sl sl2 (by simpa using hv) (by simp[hw])) ⟨ho,ho2,h1 hw⟩
 ·refine Jt ⟨_,ho,rfl⟩ ⟨_,ho2,rfl⟩ YC seq_tuple_add X7 XZ (XR _ _)
   (tuple_addW2 t b vs.toArray ws.toArray n n2 dd dd2 sl sl2 (by simpa using hv) (by simpa using hw) (by rw[AE,AE];exact hsz)) ⟨ho,ho2,?_⟩
  rw[e];exact h2 hw
noncomputable def sIx(n d:Ag):At Ae->Ag
 |none=>d
 |some v=>if v<0 then (v+(n:Ae)).toNat else min v.toNat n
theorem pF(n d:Ag)(hd:d<=n)(o:At Ae):sIx n d o<=n:=by
 cases o with
 |none=>exact hd
 |some v=>
  show (if v<0 then (v+(n:Ae)).toNat else min v.toNat n)<=n
  by_cases hv:v<0
  ·rw[Ay hv];omega
  ·rw[AH hv];exact Nat.min_le_right _ _
theorem UK(v:Ae)(n d:Ag):(if v<0 then max (v+(n:Ae)) 0 else min v (n:Ae))=((sIx n d (Ab v):Ag):Ae):=by
 show (if v<0 then max (v+(n:Ae)) 0 else min v (n:Ae))=(((if v<0 then (v+(n:Ae)).toNat else min v.toNat n):Ag):Ae)
 by_cases hv:v<0
 ·simp only[Ay hv];omega
 ·simp only[AH hv];omega
theorem aG(lo hi:At Ae)(n:Ag):Fs lo hi 1 (n:Ae)=(((sIx n 0 lo:Ag):Ae),((sIx n n hi:Ag):Ae)):=by
 have h1:¬ ((1:Ae)<0):=by omega
 unfold Fs;simp only[h1,G7];refine Bp ?_ ?_
 ·cases lo with
  |none=>rfl
  |some v=>exact UK v n 0
 ·cases hi with
  |none=>rfl
  |some v=>exact UK v n n
theorem Z7(i j:Ag):Ek (i:Ae) (j:Ae) 1=j-i:=by
 unfold Ek;have h1:(1:Ae) > 0:=by omega
 simp only[h1,IM,Int.ediv_one];split<;>omega
theorem Sy{v:Ai}{o:At Ae}{Q:At Ae->Ap->Prop}(p:HG v o)(h:Q o s):Az (model prog w) A (Builtin.Slice.slicePartIndex v) Q E s:=by
 cases p with
 |none=>exact XD h
 |int i t=>exact slicePart_int h
theorem ZG{vl vu:Ai}{lo hi:At Ae}{n:Ag}{Q:Ae×Ae×Ag->Ap->Prop}(hs:s.heap.IsSliceOf sl vl vu .none)(pl:HG vl lo)(pu:HG vu hi)(h:Q (((sIx n 0 lo:Ag):Ae),1,sIx n n hi-sIx n 0 lo) s):Az (model prog w) A (XM (.ref sl) (pure (n:Ae))) Q E s:=by
 obtain⟨os,hos,hcs,hds⟩:=id hs;unfold XM Builtin.Slice.sliceFields;refine Ah (Ah (Bu hos hds (x:=vl) rfl (Ah (Bu hos hds (x:=vu) rfl (Ah (Bu hos hds (x:=.none) rfl (Av ?_)))))));refine Ah (XD ?_);show Az _ _ (if ((1:Ae)==0)=Aa then _ else _) _ _ s
 rw[AH (by decide)]
 refine Ah (Sy pl (Ah (Sy pu (Ah (Av ?_)))));show Az _ _ (match Fs lo hi 1 (n:Ae) with|(lo,hi)=>pure (lo,(1:Ae),Ek lo hi 1)) _ _ s
 rw[aG lo hi n];show Az _ _ (pure (((sIx n 0 lo:Ag):Ae),(1:Ae),Ek ((sIx n 0 lo:Ag):Ae) ((sIx n n hi:Ag):Ae) 1)) _ _ s;rw[Z7];exact Av h
theorem dI(xs:AR Ai)(i k:Ag):((Bk k).filterMap fun(m:Ag)=>xs[((i:Ae)+(m:Ae)*1).toNat]?).toArray=((xs.toList.drop i).take k).toArray:=by
 have e:(fun(m:Ag)=>xs[((i:Ae)+(m:Ae)*1).toNat]?)=fun m=>xs[i+m]?:=by
  funext m
  have:((i:Ae)+(m:Ae)*1).toNat=i+m:=by omega
  rw[this]
 rw[e];have:=pick_run xs i k;rw[List.filterMap_map]at this;have e2:((fun x=>xs[x]?) ∘ fun x=>i+x)=fun m=>xs[i+m]?:=rfl
 rw[e2]at this;rw[this]
theorem getItem_tuple_cut{t:Al}{items:AR Ai}{vl vu:Ai}{lo hi:At Ae}{Q:Vq}(ht:JK s.heap t items)(hs:s.heap.IsSliceOf sl vl vu .none)(pl:HG vl lo)(pu:HG vu hi)(hw:¬ (sIx items.size 0 lo=0/\sIx items.size items.size hi=items.size))(h:Q (.ref s.heap.objs.size) { s with heap:=s.heap.push { cls:=.type "tuple", data:=.seq ((items.toList.drop (sIx items.size 0 lo)).take (sIx items.size items.size hi-sIx items.size 0 lo)).toArray } })(hsz:items.size<=sizeLine):Az (model prog w) A (JL (.ref t) (.ref sl)) Q E s:=by
 have htake:sizeOk (.seq ((items.toList.drop (sIx items.size 0 lo)).take (sIx items.size items.size hi-sIx items.size 0 lo)).toArray):=by
  show ((items.toList.drop (sIx items.size 0 lo)).take (sIx items.size items.size hi-sIx items.size 0 lo)).toArray.size<=sizeLine;rw[AE,HC,Xb,CF];omega
 have hj:sIx items.size items.size hi<=items.size:=pF _ _ (AS _) hi;obtain⟨os,hos,hcs,hds⟩:=id hs;have hTs:s.TypeIs (.ref sl) "slice" := ⟨os,hos,hcs⟩;unfold JL
 try with_reducible refine Cf ?_
 first|refine Ah (Av ?_)|skip
 refine Ah (wpAny_sequenceKey ht.typeIs (by decide) ?_)
 refine Ah (Ci (name:=AQ "__getitem__") ht.typeIs XE
  (CD XE ht.typeIs entry_tuple_getitem ?_ (args_tuple_getitem _ _)))
 show Az _ _ (Builtin.Tuple.tupleItemsOf (.ref t) >>= _) _ _ s;refine Ah (tupleItemsOf_ ht ?_);refine Ah (wpAny_typeOf hTs ?_);rw[Ay (by decide)]
 refine Ah (ZG hs pl pu ?_);have hno:¬ ((((sIx items.size 0 lo:Ag):Ae)==0&&(1:Ae)==1&&(sIx items.size items.size hi-sIx items.size 0 lo)==items.size)=Aa):=by
  intro q;rw[An,An]at q;have q1:((sIx items.size 0 lo:Ag):Ae)=0:=eq_of_beq q.1.1;have q2:sIx items.size items.size hi-sIx items.size 0 lo=items.size:=eq_of_beq q.2;exact hw ⟨by omega,by omega⟩
 show Az _ _ (if (((sIx items.size 0 lo:Ag):Ae)==0&&(1:Ae)==1&&(sIx items.size items.size hi-sIx items.size 0 lo)==items.size)=Aa then _ else _) _ _ s
 rw[AH hno,dI]
 first
  |exact Ah (m:=Da _) (C0 (Av ⟨_,rfl,Av h⟩) htake)
  |exact Ah (m:=Da _) (C0 (Ah (Av (Av ⟨_,rfl,Av h⟩))) htake)
  |exact Ah (Ah (m:=Da _) (C0 (Av (Av ⟨_,rfl,Av h⟩)) htake))
  |exact Ah (Ah (m:=Da _) (C0 (Av ⟨_,rfl,Av h⟩) htake))
end
end HT
namespace L2
open PySem PySem.Spec PyProof.Rows
variable{xs:Ac V}{us its its':Ac Ai}{n t':Ag}{i:Ae}{pI:Pn}{σ:St}{H:Hp}{s:Ap}{p:Al}
abbrev TO:=St->Hp->(At Ae->Hp->Prop)->Prop
noncomputable def PO(X:Cx)(e:At Ar)(t:TO):Prop:=
 ∀(pI:Pn)(s:Ap)(σ:St)(H:Hp)(Q:At Ae->Hp->Prop),Inv X pI σ H s->t σ H Q ->
  Az (model X.prog X.w) X.A (evalPart e X.env) (fun u s'=>∃ o H',Inv X pI σ H' s'/\HG u o/\Q o H') X.xe s
def gA:TO:=fun _ H Q=>Q Af H
def vG(t:TE):TO:=fun σ H Q=>t σ H fun x H1=>∃ i,x=.int i/\Q (Ab i) H1
section
variable{X:Cx}{e:Ar}{te:TE}{lo hi:At Ar}{tl th:TO}{pos p2:Bb}
theorem iL:PO X Af gA:=by
 intro pI s σ H Q I h;rw[evalPart_none];exact Av ⟨Af,H,I,.none,h⟩
theorem iK(h:PE X e te):PO X (Ab e) (vG te):=by
 intro pI s σ H Q I hw;rw[evalPart_some];refine thn (h pI s σ H _ I hw) fun u s1 ⟨x,H1,I1,r1,q1⟩=>?_
 obtain⟨i,rfl,q⟩:=q1;obtain⟨t,rfl⟩:=r1;exact⟨Ab i,H1,I1,.int i t,q⟩
noncomputable def SlR(X:Cx)(r:V->At Ae->At Ae->Hp->VK->Prop):Prop:=
 ∀(pI:Pn)(s:Ap)(σ:St)(H:Hp)(x:V)(v vl vu:Ai)(lo hi:At Ae)(sl:Al)(Q:VK),Inv X pI σ H s->BY x v->s.heap.IsSliceOf sl vl vu .none->HG vl lo->HG vu hi->r x lo hi H Q ->
  ∃ T id,Kt (.type T) "__getitem__" = pure (Ab (.builtin id))/\s.TypeIs v T/\Az (model X.prog X.w) X.A (JL v (.ref sl)) (EP X pI σ Q) X.xe s
def tSl(r:V->At Ae->At Ae->Hp->VK->Prop)(te:TE)(tl th:TO):TE:=fun σ H Q=>te σ H fun x H1=>tl σ H1 fun l H2=>th σ H2 fun u H3=>r x l u H3 Q
theorem dJ{r:V->At Ae->At Ae->Hp->VK->Prop}(hr:SlR X r)(he:PE X e te)(hl:PO X lo tl)(hu:PO X hi th):PE X (.Subscript e (.Slice lo hi Af p2) pos) (tSl r te tl th):=by
 intro pI s σ H Q I h;refine Subscript_ (thn (he pI s σ H _ I h) fun v s1 ⟨x,H1,I1,r1,q1⟩=>?_)
 refine wpAny_Slice (thn (hl pI s1 σ H1 _ I1 q1) fun vl s2 ⟨l,H2,I2,pl,q2⟩=>thn (hu pI s2 σ H2 _ I2 q2) fun vu s3 ⟨u,H3,I3,pu,q3⟩=>?_)
 rw[evalPart_none];refine Av ?_;have I4:Inv X pI σ H3 { s3 with heap:=s3.heap.push { cls:=.type "slice", data:=.fields #[vl,vu,.none] } }:=I3.kept (t':=s3.toks) fun b ob q=>As _ q
 obtain⟨T,id,hT,ht,hg⟩:=hr pI { s3 with heap:=s3.heap.push { cls:=.type "slice", data:=.fields #[vl,vu,.none] } } σ H3 x v vl vu l u s3.heap.objs.size Q I4 r1 (Heap.IsSliceOf.new ..) pl pu q3
 show Az (model X.prog X.w) X.A (subscriptTail e (.Slice lo hi Af p2) v (.ref s3.heap.objs.size)) (EP X pI σ Q) X.xe { s3 with heap:=s3.heap.push { cls:=.type "slice", data:=.fields #[vl,vu,.none] } }
 exact tail_any (ops:=[.ref s3.heap.objs.size,v]) ht hT hg (by with_unfolding_all rfl)
noncomputable def JH(xs:Ac V)(lo hi:At Ae):Ac V:=(xs.drop (HT.sIx xs.length 0 lo)).take (HT.sIx xs.length xs.length hi-HT.sIx xs.length 0 lo)
theorem Sn(xs:Ac V)(lo hi:At Ae):(JH xs lo hi).length<=xs.length:=by
 unfold JH;rw[HC,Xb];omega
def Rt(K:Fg):V->At Ae->At Ae->Hp->VK->Prop:=fun x lo hi H Q=>∃ a xs,x=.ref a/\SqT K H a xs /\
 ¬ (HT.sIx xs.length 0 lo=0/\HT.sIx xs.length xs.length hi=xs.length)/\∀ p,H p=Af->Q (.ref p) (upd H p (.tup (JH xs lo hi)))
theorem oE:SlR X (Rt X.K):=by
 intro pI s σ H x v vl vu lo hi sl Q I rx hs pl pu h;obtain⟨a,xs,rfl,hx,hw,q⟩:=h;cases rx;obtain⟨its,r,ht,hz⟩:=I.tuple hx;have hlen:its.toArray.size=xs.length:=by rw[AE];exact r.length.symm
 refine⟨"tuple", _,PyProof.Rows.slot_tuple_getitem.lookup,ht.typeIs,?_⟩;refine HT.getItem_tuple_cut ht hs pl pu (by rw[hlen];exact hw) ?_ (by rw[hlen];exact hz)
 rw[hlen];refine⟨.ref s.heap.objs.size,_,I.laid (t':=s.toks) (o:=.tup (JH xs lo hi)) (fun b ob q=>As _ q) (AS _) ?_,rfl,q _ (I.hok.fresh (AS _))⟩
 exact⟨BK (Sn xs lo hi) hz,_,(r.drop (HT.sIx xs.length 0 lo)).take (HT.sIx xs.length xs.length hi-HT.sIx xs.length 0 lo),Jm _ _⟩
def vV(K:Fg):R2:=fun x y H Q=>∃ a b xs ys,x=.ref a/\y=.ref b/\SqT K H a xs/\SqT K H b ys/\xs≠[]/\xs.length+ys.length<=sizeLine /\
 (ys=[]->Q (.ref a) H)/\(ys≠[]->∀ p,H p=Af->Q (.ref p) (upd H p (.tup (xs++ys))))
theorem Br.nil_iff(r:Br xs us):us=[]↔xs=[]:=by
 cases r with
 |nil=>simp
 |cons _ _=>simp
theorem gU:OpR X (Ct .Add) (vV X.K):=by
 intro pI s σ H x y v u Q I rx ry h;obtain⟨a,b,xs,ys,rfl,rfl,ha,hb,hx,hz,q1,q2⟩:=h;cases rx;cases ry;obtain⟨its,r1,p1,_⟩:=I.tuple ha;obtain⟨its2,r2,p2,_⟩:=I.tuple hb;refine HT.cat_tup p1 p2 (fun z=>hx (r1.nil_iff.mp z)) (fun z=>⟨.ref a,H,I,rfl,q1 (r2.nil_iff.mp z)⟩) (fun z=>?_) (by rw[<-r1.length,<-r2.length];exact hz)
 refine⟨.ref s.heap.objs.size,_,I.laid (t':=s.toks) (o:=.tup (xs++ys)) (fun b ob q=>As _ q) (AS _) ?_,rfl,q2 (fun w=>z (r2.nil_iff.mpr w)) _ (I.hok.fresh (AS _))⟩
 exact⟨by rw[Cw];exact hz,_,r1.append r2,Jm _ _⟩
end
noncomputable def ixN(n:Ag)(i:Ae):At Ag:=if 0<=i then (if i<n then Ab i.toNat else Af) else if -(n:Ae)<=i then Ab (i+n).toNat else Af
noncomputable def atI{α:Type}(xs:Ac α)(i:Ae):At α:=(ixN xs.length i).bind fun j=>xs[j]?
theorem Ug{j:Ag}(h:ixN n i=Ab j):seqIndex? i n=Ab j/\j<n/\-(n:Ae)<=i/\i<n:=by
 unfold ixN at h;by_cases h0:0<=i
 ·rw[Ay h0]at h;by_cases h1:i<n
  ·rw[Ay h1]at h;have e:i.toNat=j:=BW h;exact⟨by rw[JQ h0 h1,e],by omega,by omega,h1⟩
  ·rw[AH h1]at h;cases h
 ·rw[AH h0]at h;by_cases h1:-(n:Ae)<=i
  ·rw[Ay h1]at h;have e:(i+n).toNat=j:=BW h;exact⟨by rw[Jw (by omega) h1,e],by omega,h1,by omega⟩
  ·rw[AH h1]at h;cases h
theorem UO{α:Type}{xs:Ac α}{v:α}(h:atI xs i=Ab v):∃ j,seqIndex? i xs.length=Ab j/\xs[j]?=Ab v/\j<xs.length/\-(xs.length:Ae)<=i/\i<xs.length:=by
 unfold atI at h;cases e:ixN xs.length i with
 |none=>rw[e]at h;cases h
 |some j=>
  rw[e]at h;obtain⟨h1,h2,h3,h4⟩:=Ug e;exact⟨j,h1,h,h2,h3,h4⟩
def Qf(b:Ar):Prop:=∀ o i,subscripted b Ad o i=operate [o,i] (JL o i)
noncomputable def IxR(X:Cx)(r:R2):Prop:=
 ∀(value slice:Ar)(pI:Pn)(s:Ap)(σ:St)(H:Hp)(x y:V)(v u:Ai)(Q:VK),Inv X pI σ H s->BY x v->BY y u->r x y H Q ->
  subscripted slice Ad v u=operate [v,u] (JL v u)->Az (model X.prog X.w) X.A (subscriptTail value slice v u) (EP X pI σ Q) X.xe s
noncomputable def MtR(X:Cx)(id:Ec)(r:V->Ac V->Hp->VK->Prop):Prop:=
 ∀(pI:Pn)(s:Ap)(σ:St)(H:Hp)(x:V)(xs:Ac V)(v:Ai)(us:Ac Ai)(Q:VK),Inv X pI σ H s->BY x v->Br xs us->r x xs H Q ->
  Az (model X.prog X.w) X.A (call (.builtin id) (v::us)) (EP X pI σ Q) X.xe s
section
variable{X:Cx}{a b:Ar}{ta tb:TE}{pos:Bb}
theorem IxR.or{r r':R2}(h:IxR X r)(h':IxR X r'):IxR X (fun x y H Q=>r x y H Q\/r' x y H Q):=by
 intro value slice pI s σ H x y v u Q I rx ry q hs;rcases q with q|q
 ·exact h value slice pI s σ H x y v u Q I rx ry q hs
 ·exact h' value slice pI s σ H x y v u Q I rx ry q hs
theorem yW{r:R2}(hr:IxR X r)(ha:PE X a ta)(hb:PE X b tb)(hs:Qf b):PE X (.Subscript a b pos) (tOp r ta tb):=by
 intro pI s σ H Q I h;exact Subscript_ (Ro ha hb I h fun v u s2 x y H2 I2 rx ry q=>hr a b pI s2 σ H2 x y v u Q I2 rx ry q (hs _ _))
def Rw(K:Fg):R2:=fun x y H Q=>∃ p xs i v,x=.ref p/\y=.int i/\SqL K H p xs/\atI xs i=Ab v/\Q v H
def Rv(K:Fg):R2:=fun x y H Q=>∃ p xs i v,x=.ref p/\y=.int i/\SqT K H p xs/\atI xs i=Ab v/\Q v H
theorem lW:IxR X (Rw X.K):=by
 intro value slice pI s σ H x y v u Q I rx ry h hs;obtain⟨p,xs,i,z,rfl,rfl,hq,he,q⟩:=h;cases rx;obtain⟨t,rfl⟩:=ry;obtain⟨its,r,pl,hz⟩:=I.list hq;obtain⟨j,h1,h2,h3,h4,h5⟩:=UO he;obtain⟨w,ew,rw'⟩:=r.get h2;have hl:=r.length;have hn:=K3;have fin:EP X pI σ Q w s:=⟨z,H,I,rw',q⟩;by_cases h0:0<=i
 ·have hj:i.toNat=j:=by
   rw[JQ h0 h5]at h1;exact BW h1
  exact item_listR pl.isList h0 (by omega) (by rw[hj];simpa using ew) fin hs
 ·have hj:(i+(its.toArray.size:Ae)).toNat=j:=by
   rw[Jw (by omega) h4]at h1
   rw[AE,<-hl];exact BW h1
  exact XF (x:=w) pl.isList.typeIs YE.lookup
   (wpAny_getItem_list_neg (Q:=fun r s'=>r=w/\EP X pI σ Q r s') pl.isList (by omega) (by rw[AE]<;>omega) (by omega) (by rw[hj];simpa using ew) ⟨rfl,fin⟩) hs
theorem tF:IxR X (Rv X.K):=by
 intro value slice pI s σ H x y v u Q I rx ry h hs;obtain⟨p,xs,i,z,rfl,rfl,hq,he,q⟩:=h;cases rx;obtain⟨t,rfl⟩:=ry;obtain⟨its,r,pl,hz⟩:=I.tuple hq;obtain⟨j,h1,h2,h3,h4,h5⟩:=UO he;obtain⟨w,ew,rw'⟩:=r.get h2;have hl:=r.length;have hn:=K3;have fin:EP X pI σ Q w s:=⟨z,H,I,rw',q⟩;exact XF (x:=w) pl.typeIs slot_tuple_getitem.lookup
  (getItem_tuple (j:=j) (Q:=fun r s'=>r=w/\EP X pI σ Q r s') pl (by omega) (by omega) (by rw[AE,<-hl];exact h1) (by simpa using ew) ⟨rfl,fin⟩) hs
theorem Z9(its:Ac Ai)(n j:Ag)(u:Ai):By (·.setIfInBounds j u) { cls:=.type "list", data:=.seq its.toArray n }={ cls:=.type "list", data:=.seq (its.set j u).toArray n }:=by
 simp[By]
theorem Inv.lst(I:Inv X pI σ H s)(h:H p=Ab (.lst xs)):
  ∃(its:Ac Ai)(n:Ag),Br xs its/\s.heap.get? p=Ab { cls:=.type "list", data:=.seq its.toArray n }/\xs.length<=sizeLine:=by
 obtain⟨z,its,n,r,e⟩:=I.hok p _ h;exact⟨its,n,r,e,z⟩
theorem Inv.lstUpd{ys:Ac V}{n':Ag}{f:DC->DC}(I:Inv X pI σ H s)(h:H p=Ab (.lst xs))(ho:s.heap.get? p=Ab { cls:=.type "list", data:=.seq its.toArray n })(hf:f { cls:=.type "list", data:=.seq its.toArray n }={ cls:=.type "list", data:=.seq its'.toArray n' })(r:Br ys its')(hz:ys.length<=sizeLine)(t:Ag):Inv X pI σ (upd H p (.lst ys)) {s with heap:=s.heap.update p f,toks:=t}:=by
 have e:(s.heap.update p f).get? p=Ab { cls:=.type "list", data:=.seq its'.toArray n' }:=by
  rw[Dx f ho (by rw[hf]<;>rfl),hf]
 refine I.write (x:=p) (e:=p) (by rw[h];trivial) (.inl rfl) (fun b u hb q=>(Dp _ _ (DZ hb)).trans q) ⟨_,e⟩ ?_
 exact⟨hz,its',n',r,e⟩
def vS:V->V->V->Hp->(Hp->Prop)->Prop:=fun o i v H Q=>∃ p xs k j,o=.ref p/\i=.int k/\H p=Ab (.lst xs)/\ixN xs.length k=Ab j/\Q (upd H p (.lst (xs.set j v)))
theorem Pv:RX X vS:=by
 intro pI s σ H o i v ov iv u Q I ro ri rv h;obtain⟨p,xs,k,j,rfl,rfl,hp,hj,q⟩:=h;cases ro;obtain⟨t,rfl⟩:=ri;obtain⟨its,n,r,ho,hz⟩:=I.lst hp;obtain⟨h1,h2,h3,h4⟩:=Ug hj;have hl:=r.length;have hn:=K3;have I':Inv X pI σ (upd H p (.lst (xs.set j v))) {s with heap:=s.heap.update p (By (·.setIfInBounds j u))}:=
  I.lstUpd hp ho (Z9 its n j u) (r.set rv j) (by rw[BE];exact hz) s.toks
 by_cases h0:0<=k
 ·have hk:k.toNat=j:=by
   rw[JQ h0 h4]at h1;exact BW h1
  exact PySem.W.ki_setAt ho h0 (by omega) (by rw[AE,<-hl];exact h4) (by rw[hk];exact⟨_,I',q⟩)
 ·have hk:(k+(its.toArray.size:Ae)).toNat=j:=by
   rw[Jw (by omega) h3]at h1
   rw[AE,<-hl];exact BW h1
  exact PySem.W.ki_setBack ho (by omega) (by rw[AE,<-hl];exact h3) (by omega) (by rw[hk];exact⟨_,I',q⟩)
theorem ZQ(lo hi:At Ae)(n:Ag):(Fj lo hi Af n).1=((HT.sIx n 0 lo:Ag):Ae)/\(Fj lo hi Af n).2.1=((HT.sIx n n hi:Ag):Ae)/\(Fj lo hi Af n).2.2=1:=by
 refine⟨?_,?_,rfl⟩
 ·cases lo with
  |none=>simp[Fj,HT.sIx]
  |some i=>
   simp only[Fj,HT.sIx,Xz,show (1:Ae) > 0 by decide,IM]
   by_cases h:i<0
   ·simp only[h,IM]<;>omega
   ·simp only[h,G7]<;>omega
 ·cases hi with
  |none=>simp[Fj,HT.sIx]
  |some i=>
   simp only[Fj,HT.sIx,Xz,show (1:Ae) > 0 by decide,IM]
   by_cases h:i<0
   ·simp only[h,IM]<;>omega
   ·simp only[h,G7]<;>omega
theorem ZI(its:Ac Ai)(lo hi:At Ae):slicePick its.toArray lo hi Af=((its.drop (HT.sIx its.length 0 lo)).take (HT.sIx its.length its.length hi-HT.sIx its.length 0 lo)).toArray:=by
 obtain⟨h1,h2,h3⟩:=ZQ lo hi its.toArray.size;unfold slicePick;rw[h1,h2,h3];simp only[sliceRange_one,pick_run,AE]<;>rfl
def Ru(K:Fg):V->At Ae->At Ae->Hp->VK->Prop:=fun x lo hi H Q=>∃ a xs,x=.ref a/\SqL K H a xs/\∀ p,H p=Af->Q (.ref p) (upd H p (.lst (JH xs lo hi)))
theorem fK:SlR X (Ru X.K):=by
 intro pI s σ H x v vl vu lo hi sl Q I rx hs pl pu h;obtain⟨a,xs,rfl,hx,q⟩:=h;cases rx;obtain⟨its,r,ht,hz⟩:=I.list hx;have hlen:=r.length;refine⟨"list", _,YE.lookup,ht.isList.typeIs,?_⟩;refine wpAny_getItem_list_slice ht.isList hs pl pu .none (by simp) ?_ (by rw[AE]<;>omega)
 rw[ZI,<-hlen];refine⟨.ref s.heap.objs.size,_,I.laid (t':=s.toks) (o:=.lst (JH xs lo hi)) (fun b ob q=>As _ q) (AS _) ?_,rfl,q _ (I.hok.fresh (AS _))⟩
 exact⟨BK (Sn xs lo hi) hz,_,0,(r.drop (HT.sIx xs.length 0 lo)).take (HT.sIx xs.length xs.length hi-HT.sIx xs.length 0 lo),AC _ rfl⟩
theorem Se:HU X (.builtin "len") (fun xs H Q=>∃ p ys,xs=[.ref p]/\(SqL X.K H p ys\/SqT X.K H p ys)/\Q (.int ys.length) H):=by
 intro pI s σ H xs us Q I r h;obtain⟨p,ys,rfl,hq,q⟩:=h;obtain⟨u,rfl,rx⟩:=HY r;cases rx;have hn:=K3;rcases hq with hq|hq
 ·obtain⟨its,r',pl,hz⟩:=I.list hq;have hlen:=r'.length;exact Calls.call_len_list pl.isList (by simp only[AE]<;>omega) ⟨.int ys.length,H,I.tok _,⟨s.toks+1,by rw[AE,hlen]⟩,q⟩
 ·obtain⟨its,r',pl,hz⟩:=I.tuple hq;have hlen:=r'.length;exact len_tuple pl (by simp only[AE]<;>omega) ⟨.int ys.length,H,I.tok _,⟨s.toks+1,by rw[AE,hlen]⟩,q⟩
theorem ZL:HU X (.builtin "len") (fun xs H Q=>∃ z,xs=[.str z]/\z.length<=sizeLine/\Q (.int z.length) H):=by
 intro pI s σ H xs us Q I r h;obtain⟨z,rfl,hz,q⟩:=h;obtain⟨u,rfl,t,rfl⟩:=HY r;have hn:=K3;exact len_str (by omega) ⟨.int z.length,H,I.tok _,⟨_,rfl⟩,q⟩
theorem Sd:HU X (.type "list") (fun xs H Q=>∃ p ys,xs=[.ref p]/\(SqL X.K H p ys\/SqT X.K H p ys)/\∀ l,H l=Af->Q (.ref l) (upd H l (.lst ys))):=by
 intro pI s σ H xs us Q I r h;obtain⟨p,ys,rfl,hq,q⟩:=h;obtain⟨u,rfl,rx⟩:=HY r;cases rx;have fin:∀(its:Ac Ai),Br ys its->ys.length<=sizeLine->∀(h':AT)(c':Ag),(∀ b o',s.heap.get? b=Ab o'->h'.get? b=Ab o') ->
   h'.get? s.heap.objs.size=Ab { cls:=.type "list", dict:=Af,data:=.seq its.toArray c',slots:=#[] }->EP X pI σ Q (.ref s.heap.objs.size) {s with heap:=h'}:=fun its r' hz h' c' kp e=>
  ⟨.ref s.heap.objs.size,_,I.laid (t':=s.toks) kp (AS _) (show ObjOk X.prog X.w _ h' _ (.lst ys) from ⟨hz,its,c',r',e⟩),rfl,q _ (I.hok.fresh (AS _))⟩
 rcases hq with hq|hq
 ·obtain⟨its,r',pl,hz⟩:=I.list hq;have hlen:=r'.length;obtain⟨o,ho,hc,n,hd⟩:=pl.isList;exact call_list_seq p (.inl rfl) ho hc hd (fun h' c' kp e=>fin its r' hz h' c' kp e) (by simp only[AE]<;>omega)
 ·obtain⟨its,r',pl,hz⟩:=I.tuple hq;have hlen:=r'.length;obtain⟨o,ho,hc,n,hd⟩:=pl;exact call_list_seq p (.inr rfl) ho hc hd (fun h' c' kp e=>fin its r' hz h' c' kp e) (by simp only[AE]<;>omega)
theorem Sg:HU X (.type "tuple") (fun xs H Q=>∃ p ys,xs=[.ref p]/\((SqL X.K H p ys/\∀ l,H l=Af->Q (.ref l) (upd H l (.tup ys)))\/(SqT X.K H p ys/\Q (.ref p) H))):=by
 intro pI s σ H xs us Q I r h;obtain⟨p,ys,rfl,h⟩:=h;obtain⟨u,rfl,rx⟩:=HY r;cases rx;rcases h with ⟨hq,q⟩|⟨hq,q⟩
 ·obtain⟨its,r',pl,hz⟩:=I.list hq;have hlen:=r'.length;refine call_tuple_list pl.isList (fun h' kp=>?_) (by simp only[AE]<;>omega)
  have I1:Inv X pI σ H {s with heap:=h'}:=I.kept (t':=s.toks) kp
  have I2:Inv X pI σ (upd H h'.objs.size (.tup ys)) { s with heap:=h'.push { cls:=.type "tuple", data:=.seq its.toArray } }:=
   I1.laid (t':=s.toks) (fun b o e=>As _ e) (AS _) (show ObjOk X.prog X.w _ _ _ (.tup ys) from ⟨hz,its,r',Jm _ _⟩)
  exact⟨.ref h'.objs.size,_,I2,rfl,q _ (I1.hok.fresh (AS _))⟩
 ·obtain⟨its,r',pl,hz⟩:=I.tuple hq;exact call_tuple_same pl ⟨.ref p,H,I,rfl,q⟩
def tyV(K:Fg)(T:Ec)(x:V)(H:Hp):Prop:=match x with
  |.str _=>T = "str"
  |.int _=>T = "int"
  |.ref p=>(T = "list"/\∃ xs,SqL K H p xs)\/(T = "tuple"/\∃ o,K.lookup p=Ab o/\o.cls=.type "tuple"/\o.dict=Af) \/
      (T = "dict"/\((∃ kvs,H p=Ab (.dK kvs))\/∃ kvs,H p=Ab (.dT kvs)))\/(T = "set"/\∃ S n,H p=Ab (.set S n))
  |_=>BN
theorem mJ{T:Ec}{x:V}{v:Ai}(I:Inv X pI σ H s)(r:BY x v)(ty:tyV X.K T x H):s.TypeIs v T/\∀ a,v=.ref a->∃ ob,s.heap.get? a=Ab ob/\ob.dict=Af:=by
 cases x with
 |str z=>
  obtain⟨t,rfl⟩:=r;cases (show T = "str" from ty)
  exact⟨typeIs_str s z t,fun _ e=>nomatch e⟩
 |int i=>
  obtain⟨t,rfl⟩:=r;cases (show T = "int" from ty)
  exact⟨typeIs_int s i t,fun _ e=>nomatch e⟩
 |ref p=>
  cases r;rcases ty with ⟨rfl,xs,hq⟩|⟨rfl,o,hk,hc,hd⟩|⟨rfl,hk⟩|⟨rfl,S,n,hk⟩
  ·obtain⟨its,_,pl,_⟩:=I.list hq;refine⟨pl.isList.typeIs,fun a e=>?_⟩
   cases e;obtain⟨o,n,e,c,hd,_⟩:=pl;exact⟨o,e,hd⟩
  ·refine⟨⟨o,I.kIn p o hk,hc⟩,fun a e=>?_⟩
   cases e;exact⟨o,I.kIn _ o hk,hd⟩
  ·have z:∃ o,s.heap.get? p=Ab o/\o.ExactDict:=by
    rcases hk with ⟨kvs,hk⟩|⟨kvs,hk⟩
    ·obtain⟨_,_,_,_,o,_,_,e,ex,_⟩:=I.hok p _ hk;exact⟨o,e,ex⟩
    ·obtain⟨_,_,_,_,o,_,_,e,ex,_⟩:=I.hok p _ hk;exact⟨o,e,ex⟩
   obtain⟨o,e,ex⟩:=z;refine⟨⟨o,e,ex.1⟩,fun a e2=>?_⟩
   cases e2;exact⟨o,e,ex.2.1⟩
  ·obtain⟨o,_,_,_,e,ex,_⟩:=I.hok p _ hk;refine⟨⟨o,e,ex.1⟩,fun a e2=>?_⟩
   cases e2;exact⟨o,e,ex.2.1⟩
 |_=>exact Eg ty
def tBM(K:Fg)(T:Ec)(r:V->Ac V->Hp->VK->Prop)(to:TE)(t:TA):TE:=fun σ H Q=>to σ H fun x H1=>tyV K T x H1/\t σ H1 fun xs H2=>r x xs H2 Q
variable{o e:Ar}{es:Ac Ar}{to:TE}{t:TA}{name:Ak}{apos cpos:Bb}{T id:Ec}{r:V->Ac V->Hp->VK->Prop}
theorem QU(pa:PlainAttrs T)(slot:Slot T name id)(hty:typeOf (.builtin id)=pure (.type "method_descriptor"))(hm:MtR X id r)(ho:PE X o to)(ha:PA X (e::es) t)(hbase:Hd o name X.env (eval o X.env)=eval o X.env:=by rfl)(hfew:((CQ cpos (AG (e::es) X.env)).all (fun x=>!x.1)&&(JR cpos (Io [] X.env)).all (fun x=>x.1.isSome)
   && decide ((e::es).length+([]:Ac Fh).length+(if ([]:Ac Fh).isEmpty then 0 else 1)<30))=Aa:=by rfl)(hline:(apos.endLine==cpos.line)=Aa:=by rfl)(hs:AG (e::es) X.env=(Ad,eval e X.env)::AG es X.env:=by rfl)(hplain:(CQ cpos (AG es X.env)).any (·.1)=Ad:=by rfl):PE X (.Call (.Attribute o name apos) (e::es) [] cpos) (tBM X.K T r to t):=by
 intro pI s σ H Q I h;refine wpAny_Call_method_late hbase hfew hline rfl (thn (ho pI s σ H _ I h) fun v s1 ⟨x,H1,I1,r1,ty,q1⟩=>?_)
 obtain⟨h1,h2⟩:=mJ I1 r1 ty;refine⟨T,id,pa,slot,hty,h1,h2,?_⟩;have hA:=ha cpos pI s1 σ H1 _ I1 q1;rw[hs]at hA ⊢;refine Calls.callWith_builtin (by show (Ad||(CQ cpos (AG es X.env)).any (·.1))=Ad;rw[hplain]<;>rfl) (Calls.evalArgs_plain ?_)
 exact thn hA fun us s2 ⟨vs,H2,I2,r2,q2⟩=>hm pI s2 σ H2 x vs v us Q I2 r1 r2 q2
/- xs.append(e),list.index on a module's tuple .. are MtR facts of 06m -/
end
noncomputable def MtM(X:Cx)(id:Ec)(r:V->Ac V->Hp->VK->Prop):Prop:=
 ∀(pI:Pn)(s:Ap)(σ:St)(H:Hp)(x:V)(xs:Ac V)(v:Ai)(us:Ac Ai)(Q:VK),Inv X pI σ H s->BY x v->Br xs us->r x xs H Q ->
  Az (model X.prog X.w) X.A (call (.builtin id) (v::us)) (EP X pI σ Q) X.xe s
theorem Br.one:∀{x:V}{us:Ac Ai},Br [x] us->∃ u,us=[u]/\BY x u
 |_,_,.cons r .nil=>⟨_,rfl,r⟩
theorem Br.zero:∀{us:Ac Ai},Br [] us->us=[]
 |_,.nil=>rfl
theorem Br.reverse(h:Br xs us):Br xs.reverse us.reverse:=by
 induction h with
 |nil=>exact .nil
 |cons r t ih=>rw[Xn,Xn];exact Br.append ih (.cons r .nil)
section
variable{X:Cx}{pI:Pn}{σ:St}{H:Hp}{s:Ap}{l b:Al}{xs ys zs:Ac V}
theorem Inv.lset{f:AR Ai->AR Ai}(I:Inv X pI σ H s)(hH:H l=Ab (.lst xs))(e:s.heap.get? l=Ab { cls:=.type "list", data:=.seq its.toArray n })(hf:f its.toArray=its'.toArray)(hv:Br ys its')(hz:ys.length<=sizeLine):Inv X pI σ (upd H l (.lst ys)) {s with heap:=s.heap.update l (By f),toks:=t'}:=by
 have q:=PySem.IsL.update e f;rw[hf]at q;refine I.write (x:=l) (e:=l) (by rw[hH];exact trivial) (.inl rfl) (fun b' u hb hu=>(Dp s.heap (By f) (DZ hb)).trans hu) ⟨_,q⟩ ?_
 exact⟨hz,its',_,hv,q⟩
theorem Inv.lnew(I:Inv X pI σ H s)(hv:Br ys its)(hz:ys.length<=sizeLine):
  Inv X pI σ (upd H s.heap.objs.size (.lst ys)) { s with heap:=s.heap.push { cls:=.type "list", data:=.seq its.toArray },toks:=t' }:=
 I.laid (fun _ _ q=>As _ q) (AS _) ⟨hz,its,0,hv,AC _ rfl⟩
theorem Inv.fresh(I:Inv X pI σ H s):H s.heap.objs.size=Af:=I.hok.fresh (AS _)
theorem Inv.lstM(I:Inv X pI σ H s)(hH:H l=Ab (.lst xs)):xs.length<=sizeLine/\∃(its:Ac Ai)(n:Ag),Br xs its/\xs.length=its.length/\s.heap.get? l=Ab { cls:=.type "list", data:=.seq its.toArray n }:=by
 obtain⟨z,its,n,r,e⟩:=I.hok l _ hH;exact⟨z,its,n,r,r.length,e⟩
theorem TU(h:n<=sizeLine):DB n=Ad:=by
 unfold DB;exact CB (by omega)
end
section
variable{X:Cx}
def hJ:V->Ac V->Hp->VK->Prop:=fun x vs H Q=>∃ l xs y,x=.ref l/\vs=[y]/\H l=Ab (.lst xs)/\xs.length<sizeLine/\Q .non (upd H l (.lst (xs++[y])))
theorem bH:MtM X "list.append" hJ:=by
 intro pI s σ H x vs v us Q I rx rv h;obtain⟨l,xs,y,rfl,rfl,hH,hz,q⟩:=h;cases rx;obtain⟨u,rfl,ru⟩:=rv.one;obtain⟨z,its,n,r,hl,e⟩:=I.lstM hH;refine Ko F.slot_list_append ⟨_,e,rfl⟩ F.entry_list_append (F.args_list_append_2 _ _) (PySem.list_append l its.toArray n u (by rw[AE];omega)) ⟨e,?_⟩
 refine⟨.non,_,I.lset (its':=its++[u]) hH e (by simp) (r.append (.cons ru .nil)) ?_,rfl,q⟩
 rw[Cw,Xd];omega
def jW:V->Ac V->Hp->VK->Prop:=fun x vs H Q=>∃ l b xs zs,x=.ref l/\vs=[.ref b]/\H l=Ab (.lst xs)/\H b=Ab (.lst zs)/\xs.length+zs.length<=sizeLine/\Q .non (upd H l (.lst (xs++zs)))
theorem bG:MtM X "list.extend" jW:=by
 intro pI s σ H x vs v us Q I rx rv h;obtain⟨l,b,xs,zs,rfl,rfl,hH,hB,hz,q⟩:=h;cases rx;obtain⟨u,rfl,ru⟩:=rv.one;cases ru;obtain⟨z,its,n,r,hl,e⟩:=I.lstM hH;obtain⟨z2,its2,n2,r2,hl2,e2⟩:=I.lstM hB;have hsz:its.toArray.size+its2.toArray.size<=sizeLine:=by rw[AE,AE];omega
 have hlong:¬ (!its.toArray.isEmpty&&DB (its.toArray.size+its2.toArray.size))=Aa:=by
  rw[TU hsz,FM];exact AI
 refine Ko EY ⟨_,e,rfl⟩ XY (XO _ _)
  (AutoSeq1.list_extend_list_list_0 l its.toArray n b its2.toArray n2 hlong (by rw[AE];omega) (by omega)) ⟨e,e2,?_⟩
 refine⟨.non,_,I.lset (its':=its++its2) hH e (by simp) (r.append r2) ?_,rfl,q⟩
 rw[Cw];omega
end
section
variable{prog:A9}{w:AK}{A:Bx}{E:Vq}{s:Ap}
set_option maxRecDepth 100000 in
end
section
variable{X:Cx}
end
end L2
namespace Att
open PySem PySem.W PySem.Calls PyProof.Rows
variable{P:LG}{h:AT}{l:F5}{n:Ag}
theorem ZF:∀(ns:Ac Ae)(vs:Ac Ai),WellAll P h vs (ns.map Yo)->Gh vs ns:=by
 intro ns
 induction ns with
 |nil=>
  intro vs w;rw[FC]at w;cases w;exact .nil
 |cons n ns ih=>
  intro vs w;rw[B7]at w;cases w with
  |cons a b=>
   cases a;exact .cons _ _ (ih _ b)
theorem bO(hn:l.most=Ab n){args:Ac WData}{vals:Ac Ai}(hpre:l.row.toRowW.claim.pre args=Aa)(hwl:WellAll P h vals args):
  ∃ a vs ns,vals=[DS a]/\args=[WData.list (ns.map Yo)]/\h.get? a=Ab { cls:=.type "list", data:=.seq vs.toArray }/\Gh vs ns/\ns.length<=n:=by
 have hsh:WShape.hasAll [] args [.list .int]=Aa:=(pre_splitW hpre).1;have hc:l.pre.holds [] {args:=args}=Aa:=(pre_splitW hpre).2;obtain⟨d,r,rfl,h1,h2⟩:=hasAllW_cons hsh;obtain rfl:=hasAllW_nil h2;obtain⟨xs,rfl,h3⟩:=hasW_list h1;obtain⟨ns,rfl⟩:=items_int h3;have hlen:ns.length<=n:=by
  unfold OpenLaw.pre at hc;have h4:(WTm.not (.lt (.lit (.int (n:Ae))) (.len (.arg 0)))).holds [] {args:=[.list (ns.map .int)]}=Aa:=by
   have h4:=(holds_andW hc).1;rw[hn]at h4;exact h4
  have h5:=condW_of h4 (w_not (w_lt w_lit (w_len_list (w_arg rfl))));rw[BD]at h5;refine Nat.le_of_not_lt fun q=>?_
  have q':(n:Ae)<((ns.length:Ag):Ae):=by omega
  first
   |(rw[Eo q']at h5;exact absurd h5 (by decide))
   |(simp at h5;omega)
 cases hwl with
 |cons w1 w2=>
  cases w2;cases w1 with
  |list ho hall=>exact⟨_,_,ns,rfl,rfl,ho,ZF ns _ hall,hlen⟩
theorem aX(l:F5)(args:Ac WData):l.row.toRowW.claim.post args (.bool Aa) args=Aa:=
 postW_of (r:=l.row.toRowW) (X:=(Aa==Aa))
  (show Yp [] (.bool Aa) .bool=Aa by first|rfl|decide|simp[Yp,WShape.arms,WShape.armsAll])
  (show (WTm.eq .res (.lit (.bool Aa))).value [] {args:=args,res:=Ab (.bool Aa),after:=args}=Ab (.bool (Aa==Aa)) from w_eq_bool (w_res rfl) w_lit) rfl
theorem attach_call{q:A9}{loose:Ac Ak}{XP:(Ak->At Ai)->AT->Prop}{YP:AK->AT->Prop}{d:DefRec}(hn:l.most=Ab n)(hdf:d.params.defaults=[])(call:∀(w:AK)(s₀ s₁:Ap)(mg mb:Ak->At Ai)(fa:Al)(o:DC)(pm cd doc:Ai)(a:Al)(vs:Ac Ai)(ns:Ac Ae),
   Ground q loose [] XP w s₀ mg mb s₁.heap->YP w s₁.heap ->
   s₁.heap.get? fa=Ab o->o.data=.func (docDef d.name d.params d.body d.scope pm cd doc)->s₁.heap.CodeRec cd d.name->mg d.name=Ab (.ref fa) ->
   s₁.heap.get? a=Ab { cls:=.type "list", data:=.seq vs.toArray }->Gh vs ns->ns.length<=n->s₁.gens=#[] ->
   FO (model l.prog w) Hw (.call (.ref fa) ⟨[.ref a],[]⟩) (fun r s'=>r=.ok (.ret (.bool Aa))/\OldK s₁.heap s'.heap/\s'.os=s₁.os/\FN s'.gens) s₁):WalkO q loose XP YP l.row.toRowW d [] (fun f vs=>Kn f vs):=by
 intro w s₀ s₁ mg mb G Y fa o pm cd doc dV kV ho hd hcd hD hmg hg args vals as hpre hlay hrd hwl hlo;obtain rfl:dV=.none:=Dflts.none hD hdf;obtain rfl:kV=.none:=Dflts.noKw hD;obtain⟨a,vs,ns,rfl,rfl,hobj,hints,hlen⟩:=bO hn hpre hwl;refine enter_call (Js (call w s₀ s₁ mg mb fa o pm cd doc a vs ns G Y ho (fd_plain hd) hcd hmg hobj hints hlen hg) fun r s' hq=>?_)
 obtain⟨rfl,h2,h3,h4⟩:=hq;exact⟨.inl ⟨.bool Aa,.bool Aa,[],rfl,fun _=>rfl,.bool Aa,aX l _,fun _=>⟨List.Pairwise.nil,fun _ hm=>(nomatch hm)⟩⟩,h2,h3,h4⟩
section
variable{prog:A9}{w:AK}{A:Bx}{E:Vq}{s:Ap}{K:Frag}
end
end Att
namespace L2
open PySem PySem.Spec PyProof.Rows
variable{k:Ag}{x:Ak}
theorem Sr:∀{vs:Ac Ai}{ns:Ac Ae},Gh vs ns->Br (ns.map V.int) vs
 |_,_,.nil=>.nil
 |_,_,.cons n t h=>.cons ⟨t,rfl⟩ (Sr h)
def NZ(H:Hp):Prop:=∀ b,H b=Af\/∃ o xs,H b=Ab (.frz o (.lst xs))
theorem cN{P:A9}{w:AK}{K:Fg}{mg mb:Ak->At Ai}{CX:CXT}{fa a:Al}{fd:CS}{sp:Sp}{s₁:Ap}{vs:Ac Ai}{ns:Ac Ae}(KX:K.In s₁.heap)(hns:s₁.heap.Ns Bj mg)(hb:s₁.heap.Ns IS mb)(hbb:∀ x:Ak,x≠"__name__"->mb x=Db x)(hlim:s₁.heap.NoLimit)(hg:s₁.gens=#[])(ha:s₁.heap.get? a=Ab { cls:=.type "list", data:=.seq vs.toArray })(hi:Gh vs ns)(hl:ns.length<=sizeLine)(hr:Room k Hw)(F:∀ base:AT,K.In base->base.Ns Bj mg->FnOk P w K mg base CX k fa fd [x] sp)(hbind:∀(s:Ap)(u:Ai),Hv s fd ⟨[u],[]⟩ [(x,u)])(hsp:∀ H:Hp,NZ H->SqL K H a (ns.map V.int)->sp [.ref a] H (fun v _=>v=.bl Aa) fun _ _ _=>BN)(hCX:∀ H e s',CX [] H s₁ (fun _ _ _=>BN) e s'->BN):FO (model P w) Hw (.call (.ref fa) ⟨[.ref a],[]⟩) (fun r s'=>r=.ok (.ret (.bool Aa))/\OldK s₁.heap s'.heap/\s'.os=s₁.os/\FN s'.gens) s₁:=by
 have rv:=Sr hi;have lenV:=hi.length
 -- from an abstract heap in which nothing but the script may be tracked
 have core:∀ H:Hp,NZ H->SqL K H a (ns.map V.int)->HOk P w H s₁.heap->(∀ b,H b≠Af->b=a)->(H a≠Af->K.lookup a=Af) ->
   FO (model P w) Hw (.call (.ref fa) ⟨[.ref a],[]⟩) (fun r s'=>r=.ok (.ret (.bool Aa))/\OldK s₁.heap s'.heap/\s'.os=s₁.os/\FN s'.gens) s₁:=by
  intro H hO hS hok hA hK;have base_of:∀{b:Al}{o:DC},s₁.heap.get? b=Ab o->H b=Af->(Je s₁.heap H).get? b=Ab o:=fun e n=>cP e n
  have noA:∀{b:Al}{o:DC}{es:AR DictEntry}{ep:Ag},s₁.heap.get? b=Ab o->o.data=.dict es ep->H b=Af:=fun {b o es ep} e d=>by
   cases q:H b with
   |none=>rfl
   |some u=>
    have e':b=a:=hA b (by rw[q];simp)
    subst e';rw[ha]at e;cases e;have d':Lz vs.toArray _=Data.dict es ep:=d;cases d'
  have nsK:∀{b:Al}{m:Ak->At Ai},s₁.heap.Ns b m->(Je s₁.heap H).Ns b m:=fun {b m} ⟨o,es,ep,e,d,r⟩=>⟨o,es,ep,base_of e (noA e d),d,r⟩
  have hKb:K.In (Je s₁.heap H):=fun b o e=>base_of (KX b o e) (by
   cases q:H b with
   |none=>rfl
   |some u=>
    have e':b=a:=hA b (by rw[q];simp)
    subst e';rw[hK (by rw[q];simp)]at e;cases e)
  have hM:Mod K mg (Je s₁.heap H):=⟨hKb,nsK hns,⟨mb,nsK hb,hbb⟩,let ⟨mc,h1,h2⟩:=hlim;⟨mc,nsK h1,h2⟩⟩
  have e0:Env0 P w K mg (Je s₁.heap H) Hw [] s₁ H:=⟨rfl,hM,fun b o e=>gW e,HE (bY _ _),trivial,fun b hb=>absurd (show b∈([]:Ac Al) from hb) (by simp),hok,.of_eq hg⟩
  refine Js ((F _ hKb (nsK hns)).run Hw [] s₁ H ⟨[.ref a],[]⟩ [.ref a] [.ref a] _ _ hr e0 (hbind s₁ (.ref a)) (.cons rfl .nil) (hsp H hO hS)) fun r s' h=>?_
  cases r with
  |error e=>exact(hCX H e s' h).elim
  |ok fl=>
   cases fl with
   |next=>exact Eg h
   |brk=>exact Eg h
   |cont=>exact Eg h
   |ret u=>
    obtain⟨v,H',os,bare,un,hok',r',q⟩:=h;have q':v=.bl Aa:=q;subst q';obtain rfl:u=Ym Aa:=r';refine⟨rfl,OldK.of_keep fun b o e=>?_,os,bare⟩
    cases q:H b with
    |none=>exact un.keep b o e q (by intro z;exact absurd (show b∈([]:Ac Al) from z) (by simp)) (by simp)
    |some u=>
     rcases hO b with z|⟨ob,xs,z⟩
     ·rw[q]at z;cases z
     ·have z2:=un.frzs b ob _ z;obtain⟨e1,_⟩:=hok b _ z;obtain⟨e2,_⟩:=hok' b _ z2;rw[e]at e1;cases e1;exact e2
 cases hk:K.lookup a with
 |some o=>
  -- the script is one of the module's own objects
  have e:=KX a o hk;rw[ha]at e;cases e;refine core (fun _=>Af) (fun _=>.inl rfl) (.inr ⟨_,vs.toArray,_,hk,rfl,rfl,rfl,by rw[AE,lenV];exact hl,by simpa using rv⟩) (fun b u z=>by have z':(Af:At HO)=Ab u:=z;cases z') (fun b z=>absurd rfl z) fun z=>absurd rfl z
 |none=>
  refine core (fun b=>if b=a then Ab (.frz { cls:=.type "list", data:=.seq vs.toArray } (.lst (ns.map V.int))) else Af) (fun b=>?_) (.inl (.inr ⟨{ cls:=.type "list", data:=.seq vs.toArray },Ay rfl⟩)) (fun b u z=>?_) (fun b z=>?_) fun _=>hk
  ·by_cases hb:b=a
   ·exact .inr ⟨_,_,Ay hb⟩
   ·exact .inl (AH hb)
  ·by_cases hb:b=a
   ·have z':=(Ay hb).symm.trans z;cases z';subst hb;exact⟨ha,by rw[BD];exact hl,vs,_,rv,ha⟩
   ·have z':=(AH hb).symm.trans z;cases z'
  ·by_cases hb:b=a
   ·exact hb
   ·exact absurd (AH hb) z
noncomputable abbrev KOf{K:Fg}{h:AT}(_:K.In h):Fg:=K
theorem walk_of{l:F5}{n:Ag}{q:A9}{loose:Ac Ak}{XP:(Ak->At Ai)->AT->Prop}{YP:AK->AT->Prop}{d:DefRec}{K:LG->Fg}{CX:AK->CXT}{sp:AK->Sp}(hn:l.most=Ab n)(hn2:n<=sizeLine)(hdf:d.params.defaults=[])(hr:Room k Hw)(hY:∀(w:AK)(h:AT),YP w h->(K w.params).In h)(F:∀(w:AK)(mg:Ak->At Ai)(fa:Al)(h:AT),(K w.params).In h->h.Ns Bj mg->mg d.name=Ab (.ref fa) ->
   ∃ fd:CS,(∀(s:Ap)(u:Ai),Hv s fd ⟨[u],[]⟩ [(x,u)]) /\
    ∀ base:AT,(K w.params).In base->base.Ns Bj mg->FnOk l.prog w (K w.params) mg base (CX w) k fa fd [x] (sp w))(hsp:∀(w:AK)(H:Hp)(a:Al)(ns:Ac Ae),ns.length<=n->NZ H->SqL (K w.params) H a (ns.map V.int)->sp w [.ref a] H (fun v _=>v=.bl Aa) fun _ _ _=>BN)(hCX:∀(w:AK)(H:Hp)(s:Ap)(e:Ai)(s':Ap),CX w [] H s (fun _ _ _=>BN) e s'->BN):Yq q loose XP YP l.row.toRowW d [] (fun f vs=>Kn f vs):=by
 refine Att.attach_call hn hdf fun w s₀ s₁ mg mb fa o pm cd doc a vs ns G Y ho hd hcd hmg hobj hints hlen hg=>?_
 have KX:=hY w _ Y;obtain⟨fd,hb,hF⟩:=F w mg fa _ KX G.T.g hmg;exact cN KX G.T.g G.T.b G.T.builtins G.T.nolimit hg hobj hints (BK hlen hn2) hr hF hb (fun H hO hS=>hsp w H a ns hlen hO hS) fun H e s'=>hCX w H s₁ e s'
end L2
/- THE LAST THEOREM (shape;LID,My.* are yours):
   My.Adr: a structure of the addresses that your layer names (classes,functions);My.Txt K t: a structure (Prop) of the equations over K;
   My.txt_mk:{K} {implicit addresses ..} (e1:nsIn K Bj "law" = Ab (Ab (.ref f))) (e2:K.lookup f=Ab ⟨oc,od,.func (fnOf "law" "law" params body scope dV kV doc pm an cdv ct),sl⟩) (e3:codeIn K cdv "law" = Aa) ..:∃ t,My.Txt K t
set_option maxRecDepth 100000 in
set_option maxHeartbeats 0 in
theorem PySem.Challenge.cw_LID_holds:PySem.Challenge.rw_LID.Holds:=by
 w_on;o_law;k_head;(case hw=>w_witness2)
 k_fill
 refine L2.walk_of (l:=PySem.Challenge.rw_LID) (n:=63) (k:=40) (x := "script") (CX:=fun w=>..) (sp:=fun _=>My.sp_law) rfl (by decide) rfl ⟨rfl,by decide,by decide⟩ (fun w h Y=>Yt Y) ?F ?S ?C
 case F=>
  intro w mg fa h KX G hmg;have T:∃ t,My.Txt (L2.KOf KX) t:=by
   dsimp only[L2.KOf]                          -- K must stand as «<heap const> w.params» for k_is
   refine' My.txt_mk ?e1 ?e2 ?e3 ..
   (case e1=>PySem.W.k_is)                    -- in the order: a name -> its address -> its object -> its parts
   (case e2=>PySem.W.k_is)
   ..
  obtain⟨t,T⟩:=T;have e0:=hmg.symm.trans (Jh KX G T.law);cases e0                                       -- fa is the law's own address
  exact⟨_,fun s u=>.of_eq rfl,fun base kb nb=>My.law_fn T kb nb⟩     -- if «.of_eq rfl» comes too early: refine' ⟨_,?b,fun base kb nb=>My.law_fn T kb nb⟩;exact fun s u=>.of_eq rfl
 case S=>exact fun w H a ns hl hO hS=>..
 case C=>exact ..
(the tactic k_is has no namespace: write k_is) -/
namespace L2
open PySem PySem.Spec PyProof.Rows
noncomputable def KO(s:B8):Arguments:=match s with
  |.FunctionDef _ a _ _ _ _ _ _ _ _=>a
  |_=>{posonlyargs:=[],args:=[],vararg:=Af,kwonlyargs:=[],kw_defaults:=[],kwarg:=Af,defaults:=[]}
noncomputable def Iu(s:B8):Ac B8:=match s with
  |.FunctionDef _ _ b _ _ _ _ _ _ _=>b
  |_=>[]
noncomputable def GS(s:B8):CN:=match s with
  |.FunctionDef _ _ _ _ _ _ sc _ _ _=>sc
  |_=>{kind:=.function,names:=[],isGenerator:=Ad,isCoroutine:=Ad}
noncomputable abbrev CX0:CXT:=fun _ _ _ _ _ _=>BN
structure Fun (K:Fg) (x qual:Ak) (st:B8) (f:Al) (fd:CS):Prop where
 ex:∃(oc:Ai)(od:At Al)(kV doc pm:Ai)(an:At Al)(cdv ct:Ai)(osl:AR (At Ai)),
  fd=Ev x qual (KO st) (Iu st) (GS st) .none kV doc pm an cdv ct/\K.lookup f=Ab ⟨oc,od,.func fd,osl⟩/\GQ K cdv qual=Aa
 kp:DK K (.ref f)=Aa
section
variable{P:A9}{w:AK}{K:Fg}{mg:Ak->At Ai}{base:AT}
theorem Fun.ok{x qual:Ak}{st:B8}{f:Al}{fd:CS}{N ps:Ac Ak}{k:Ag}{sp:Sp}(F:Fun K x qual st f fd)(S:FnScope N ps (GS st))(len:∀ vs H Q E,sp vs H Q E->vs.length=ps.length)(hbody:∀(cdv:Ai)(A:Bx)(outer:Ac Cy)(s:Ap)(H:Hp)(vs:Ac V)(Q:VK)(E:XK),Room k (A.deeper (Fe qual (GS st) s.heap.objs.size f cdv))->sp vs H Q E ->
   ∃ t,PSs (G1 CX0 P w K mg base N qual (GS st) f cdv A outer s H E).nox (Iu st) t/\t {nx:=fun _ H'=>Q .non H',rt:=Q} (start N vs) H):FnOk P w K mg base CX0 (k+1) f fd ps sp:=by
 obtain⟨oc,od,kV,doc,pm,an,cdv,ct,osl,rfl,lk,hcd⟩:=F.ex;refine Wa lk hcd S len fun A outer s H vs Q E hr hsp=>?_
 obtain⟨t,h,q⟩:=hbody cdv A outer s H vs Q E hr hsp;exact⟨t,h.nox,q⟩
theorem Fun.binds{x qual:Ak}{st:B8}{f:Al}{fd:CS}{ps:Ac Ak}(F:Fun K x qual st f fd)(h:∀(kV doc pm:Ai)(an:At Al)(cdv ct:Ai)(us:Ac Ai),us.length=ps.length->LI (Ev x qual (KO st) (Iu st) (GS st) .none kV doc pm an cdv ct) ⟨us,[]⟩=pure (ps.zip us)):IA K fd ps []:=by
 obtain⟨oc,od,kV,doc,pm,an,cdv,ct,osl,rfl,lk,hcd⟩:=F.ex;exact .all (h kV doc pm an cdv ct)
theorem tO{x qual:Ak}{st:B8}{f:Al}{oc:Ai}{od an:At Al}{osl:AR (At Ai)}{kV doc pm cdv ct:Ai}(l:K.lookup f=Ab ⟨oc,od,.func (Ev x qual (KO st) (Iu st) (GS st) .none kV doc pm an cdv ct),osl⟩)(c:GQ K cdv qual=Aa)(k:DK K (.ref f)=Aa):Fun K x qual st f (Ev x qual (KO st) (Iu st) (GS st) .none kV doc pm an cdv ct):=⟨⟨oc,od,kV,doc,pm,an,cdv,ct,osl,rfl,l,c⟩,k⟩
end
section
variable{X:Cx}
end
def AN(H H':Hp):Prop:=∀ b o,H b=Ab o->H' b=Ab o
theorem AN.refl(H:Hp):AN H H:=fun _ _ h=>h
theorem AN.trans{H H1 H2:Hp}(a:AN H H1)(b:AN H1 H2):AN H H2:=fun c o h=>b c o (a c o h)
theorem AN.free{H H':Hp}(e:AN H H'){l:Al}(h:H' l=Af):H l=Af:=by
 cases q:H l with
 |none=>rfl
 |some o=>
  rw[e l o q]at h;cases h
end L2
section
namespace Ov
open PySem
variable{α β:Type}
inductive D where
 |non|bl (b:Ao)|int (i:Ae)|str (x:Ak)|tup (ds:Ac D)|lst (ds:Ac D)
 |obj (c:Ag) (fs:Ac (Ak×D))|exc (c:Ag) (fs:Ac (Ak×D))|dic (kvs:Ac (Ac Ae×D))
 deriving Inhabited
structure Ex where
 c:Ag
 fs:Ac (Ak×D)
 deriving Inhabited
inductive R (α:Type) where
 |ok (a:α)|exn (x:Ex)|bad
 deriving Inhabited
noncomputable def R.bind{α β:Type}(r:R α)(f:α->R β):R β:=match r with
  |.ok a=>f a
  |.exn x=>.exn x
  |.bad=>.bad
@[simp]theorem R.bind_ok(a:α)(f:α->R β):(R.ok a).bind f=f a:=rfl
@[simp]theorem R.bind_exn(x:Ex)(f:α->R β):(R.exn x:R α).bind f=.exn x:=rfl
@[simp]theorem R.bind_bad(f:α->R β):(R.bad:R α).bind f=.bad:=rfl
theorem R.bind_assoc{γ:Type}(r:R α)(f:α->R β)(g:β->R γ):(r.bind f).bind g=r.bind fun a=>(f a).bind g:=by cases r<;>rfl
noncomputable def Du(n:Ag):Ao:=En n 1000000
noncomputable def DL(i j:Ae):Ao:=(decide (-(18446744073709551616:Ae)<i)&&decide (i<18446744073709551616))||(decide (-(18446744073709551616:Ae)<j)&&decide (j<18446744073709551616))
noncomputable def E8(i j:Ae):Ao:=decide (i.natAbs<2 ^ 2000)&&decide (j.natAbs<2 ^ 2000)
noncomputable def CM:HH->D->D->R D
 |.Add,.int i,.int j=>.ok (.int (i+j))
 |.Sub,.int i,.int j=>.ok (.int (i-j))
 |.Mult,.int i,.int j=>if (DL i j||E8 i j)=Aa then .ok (.int (i*j)) else .bad
 |.FloorDiv,.int i,.int j=>if 0<j/\j<1073741824 then .ok (.int (i / j)) else .bad
 |.Mod,.int i,.int j=>if 0<j then .ok (.int (i%j)) else .bad
 |.Pow,.int i,.int j=>if (0<=j/\j<=1000000)/\(-(18446744073709551616:Ae)<i/\i<18446744073709551616) then .ok (.int (i ^ j.toNat)) else .bad
 |.Add,.str x,.str y=>if Du (x.length+y.length)=Aa then .ok (.str (x++y)) else .bad
 |.Add,.lst x,.lst y=>if Du (x.length+y.length)=Aa then .ok (.lst (x++y)) else .bad
 |.Add,.tup x,.tup y=>if (!x.isEmpty&&Du (x.length+y.length))=Aa then .ok (.tup (x++y)) else .bad
 |_,_,_=>.bad
noncomputable def unD:UnaryOp->D->R D
 |.USub,.int i=>.ok (.int (-i))
 |_,_=>.bad
noncomputable def b2i(b:Ao):Ae:=if b=Aa then 1 else 0
mutual
noncomputable def eqD:D->D->Ao
 |.non,.non=>Aa
 |.bl a,.bl b=>a==b
 |.bl a,.int j=>b2i a==j
 |.int i,.bl b=>i==b2i b
 |.int i,.int j=>i==j
 |.str x,.str y=>x==y
 |.tup xs,.tup ys=>eqDs xs ys
 |.lst xs,.lst ys=>eqDs xs ys
 |_,_=>Ad
noncomputable def eqDs:Ac D->Ac D->Ao
 |[],[]=>Aa
 |x::xs,y::ys=>eqD x y&&eqDs xs ys
 |_,_=>Ad
end
noncomputable def flD:Ag->D->Ao
 |_,.non=>Aa
 |_,.bl _=>Aa
 |_,.int _=>Aa
 |_,.str _=>Aa
 |n+1,.tup xs=>xs.all (flD n)
 |n+1,.lst xs=>xs.all (flD n)
 |_,_=>Ad
noncomputable def Li:D->At (Ac Ae)
 |.tup ds=>keyDs ds
 |_=>Af
where keyDs:Ac D->At (Ac Ae)
 |[]=>Ab []
 |.int i::r=>(keyDs r).map (i :: ·)
 |_=>Af
noncomputable def ltD:Ag->D->D->Ao
 |0,.int i,.int j=>decide (i<j)
 |n+1,.tup xs,.tup ys=>ltDs (ltD n) xs ys
 |_,_,_=>Ad
where ltDs (lt:D->D->Ao):Ac D->Ac D->Ao
 |[],[]=>Ad
 |[],_::_=>Aa
 |_::_,[]=>Ad
 |x::xs,y::ys=>if eqD x y=Aa then ltDs lt xs ys else lt x y
noncomputable def rkD:Ag->D->Ao
 |0,.int _=>Aa
 |n+1,.tup xs=>xs.all (rkD n)
 |_,_=>Ad
noncomputable def Lj(lt:D->D->Ao)(x:D):Ac D->Ac D
 |[]=>[x]
 |y::ys=>if lt y x=Aa then y::Lj lt x ys else x::y::ys
noncomputable def NI(lt:D->D->Ao):Ac D->Ac D
 |[]=>[]
 |x::xs=>Lj lt x (NI lt xs)
noncomputable def Lf:Ac D->Ao
 |[]=>Aa
 |x::xs=>xs.all (fun y=>!eqD x y)&&Lf xs
noncomputable def Ln:Ac D->Ao
 |[]=>Aa
 |[_]=>Aa
 |x::y::r=>ltD 1 x y&&Ln (y::r)
noncomputable def Fm(xs:Ac D):R (Ac D):=if (xs.all (fun d=>rkD 1 d && !eqD d (.tup []))&&Lf xs&&(decide (xs.length<64)||(Ln xs&&decide (xs.length<=1000))))=Aa then .ok (NI (ltD 1) xs) else .bad
noncomputable def Cq:Ft->D->D->R D
  |.Eq,x,y=>if (flD 5 x&&flD 5 y)=Aa then .ok (.bl (eqD x y)) else .bad
  |.NotEq,x,y=>if (flD 5 x&&flD 5 y)=Aa then .ok (.bl (!eqD x y)) else .bad
  |.Lt,.int i,.int j=>.ok (.bl (decide (i<j)))
  |.LtE,.int i,.int j=>.ok (.bl (decide (i<=j)))
  |.Gt,.int i,.int j=>.ok (.bl (decide (j<i)))
  |.GtE,.int i,.int j=>.ok (.bl (decide (j<=i)))
  |.In,x,.lst ys=>if (flD 5 x&&ys.all (flD 5))=Aa then .ok (.bl (ys.any fun y=>eqD y x)) else .bad
  |.In,x,.dic kvs=>match Li x with
    |some k=>.ok (.bl (kvs.any fun p=>p.1==k))
    |none=>.bad
  |.In,x,.tup ys=>if (flD 5 x&&ys.all (flD 5))=Aa then .ok (.bl (ys.any fun y=>eqD y x)) else .bad
  |.NotIn,x,.lst ys=>if (flD 5 x&&ys.all (flD 5))=Aa then .ok (.bl (!ys.any fun y=>eqD y x)) else .bad
  |.NotIn,x,.tup ys=>if (flD 5 x&&ys.all (flD 5))=Aa then .ok (.bl (!ys.any fun y=>eqD y x)) else .bad
  |.Is,.non,.non=>.ok (.bl Aa)
  |.Is,.bl _,.non=>.ok (.bl Ad)
  |.Is,.int _,.non=>.ok (.bl Ad)
  |.Is,.str _,.non=>.ok (.bl Ad)
  |.Is,.tup _,.non=>.ok (.bl Ad)
  |.Is,.lst _,.non=>.ok (.bl Ad)
  |.Is,.obj _ _,.non=>.ok (.bl Ad)
  |.Is,.bl a,.bl b=>.ok (.bl (a==b))
  |.IsNot,.bl a,.bl b=>.ok (.bl (!(a==b)))
  |.IsNot,.non,.non=>.ok (.bl Ad)
  |.IsNot,.bl _,.non=>.ok (.bl Aa)
  |.IsNot,.int _,.non=>.ok (.bl Aa)
  |.IsNot,.str _,.non=>.ok (.bl Aa)
  |.IsNot,.tup _,.non=>.ok (.bl Aa)
  |.IsNot,.lst _,.non=>.ok (.bl Aa)
  |.IsNot,.obj _ _,.non=>.ok (.bl Aa)
  |_,_,_=>.bad
noncomputable def CK:D->R Ao
 |.non=>.ok Ad
 |.bl b=>.ok b
 |.int i=>.ok (i != 0)
 |.str x=>if Du x.length=Aa then .ok (x.length != 0) else .bad
 |.tup xs=>.ok (!xs.isEmpty)
 |.lst xs=>.ok (!xs.isEmpty)
 |_=>.bad
noncomputable def plD(n:Ag)(i:Ae):At Ag:=if 0<=i then (if i<n then Ab i.toNat else Af) else if -(n:Ae)<=i then Ab (i+n).toNat else Af
noncomputable def DE(xs:Ac D)(i:Ae):R D:=match plD xs.length i with
  |some k=>match xs[k]? with
    |some d=>.ok d
    |none=>.bad
  |none=>.bad
noncomputable def sL(kvs:Ac (Ac Ae×D))(k:Ac Ae):At D:=(kvs.find? fun p=>p.1==k).map (·.2)
noncomputable def VC(kvs:Ac (Ac Ae×D))(k:Ac Ae)(v:D):Ac (Ac Ae×D):=if (kvs.any fun p=>p.1==k)=Aa then kvs.map (fun p=>if (p.1==k)=Aa then (k,v) else p) else kvs++[(k,v)]
noncomputable def BQ:D->D->R D
  |.lst xs,.int i=>DE xs i
  |.tup xs,.int i=>DE xs i
  |.dic kvs,k=>match (Li k).bind (sL kvs) with
    |some d=>.ok d
    |none=>.bad
  |_,_=>.bad
noncomputable def E1:D->R Ae
 |.int i=>.ok i
 |_=>.bad
noncomputable def D6:D->R Ao
 |.bl b=>.ok b
 |_=>.bad
noncomputable def Co:D->R (Ac D)
 |.lst xs=>.ok xs
 |.tup xs=>.ok xs
 |_=>.bad
noncomputable def La:D->R (Ac D)
 |.lst xs=>.ok xs
 |_=>.bad
inductive BI where
 |len|abs|max|min|int|list|tuple|all|any|sum|sorted|str|count|stp|lset|tmin|tmax|tlt
 deriving DecidableEq,Inhabited
inductive Ki where
 |int|bool|str|list|tuple|verr|cls (c:Ag)
 deriving DecidableEq,Inhabited
mutual
inductive E where
 |non|bl (b:Ao)|int (i:Ae)|str (x:Ak)
 |var (i:Ag)|glob (g:Ag)
 |bin (op:HH) (a b:E)|un (op:UnaryOp) (a:E)|no (a:E)
 |and (es:Es)|or (es:Es)
 |cmp (op:Ft) (a b:E)|cmp2 (op op':Ft) (a b c:E)
 |ite (c a b:E)
 |call (f:Ag) (as:Es)|bi (b:BI) (as:Es)
 |isi (a:E) (ks:Ac Ki)
 |idx (a i:E)|sl (a lo hi:E)
 |tup (es:Es)|lst (es:Es)
 |comp (elt:E) (t:Ag) (it:I) (c:E)|compT (elt:E) (ts:Ac Ag) (it:I) (c:E)|tupI (it:I)|dnew
 |fld (o:E) (f:Ak)
inductive Es where
 |nil|cons (e:E) (es:Es)
inductive I where
 |e (a:E)|rng (a:E)|rng2 (a b:E)|zip (a b:E)|zip3 (a b c:E)|enm (a:E)
end
abbrev Sl:=At (D×Ao)
abbrev Rho:=Ac Sl
structure Gam where
 F:Ag->Ac D->R D
 G:Ag->D
 up:Ag->Ac Ag
 /-- the defs whose answer is a new list -/
 fr:Ag->Ao
 /-- what is raised: the class,what it is made of -/
 xn:Ag->Ac D->R Ex
noncomputable def Ch(lo:Ae)(n:Ag):Ac D:=(Bk n).map fun(k:Ag)=>D.int (lo+(k:Ae))
noncomputable def C5(lo hi:Ae):R (Ac D):=if (-(4611686018427387904:Ae)<=lo/\lo<4611686018427387904)/\(-(4611686018427387904:Ae)<=hi/\hi<4611686018427387904)/\hi-lo<1000000 then .ok (Ch lo (hi-lo).toNat) else .bad
noncomputable def kiD(up:Ag->Ac Ag):Ki->D->Ao
 |.int,.int _=>Aa
 |.int,.bl _=>Aa
 |.bool,.bl _=>Aa
 |.str,.str _=>Aa
 |.list,.lst _=>Aa
 |.tuple,.tup _=>Aa
 |.cls c,.obj k _=>(up k).contains c
 |.cls c,.exc k _=>(up k).contains c
 |.verr,.exc _ _=>Aa
 |_,_=>Ad
noncomputable def FJ:Ki->Ao
 |.cls _=>Aa
 |.verr=>Aa
 |_=>Ad
noncomputable def G0(up:Ag->Ac Ag)(ks:Ac Ki)(x:D):R D:=match x with
  |.obj _ _=>.bad
  |.exc _ _=>if ks.all FJ=Aa then .ok (.bl (ks.any fun k=>kiD up k x)) else .bad
  |.dic _=>.bad
  |_=>if ks.any FJ=Aa then .bad else .ok (.bl (ks.any fun k=>kiD up k x))
noncomputable def EH:D->R Ao
 |.non=>.ok Ad
 |.bl b=>.ok b
 |.int i=>.ok (i != 0)
 |_=>.bad
noncomputable def Hn:Ac D->R Ao
 |[]=>.ok Aa
 |x::r=>(EH x).bind fun b=>(Hn r).bind fun c=>.ok (b&&c)
noncomputable def FY:Ac D->R Ao
 |[]=>.ok Ad
 |x::r=>(EH x).bind fun b=>(FY r).bind fun c=>.ok (b||c)
noncomputable def H9:Ae->Ac D->R Ae
 |a,[]=>.ok a
 |a,.int i::r=>H9 (a+i) r
 |_,_=>.bad
noncomputable def EG:Ac D->Ac D->Ac D
 |x::xs,y::ys=>.tup [x,y]::EG xs ys
 |_,_=>[]
noncomputable def QP:Ac D->Ac D->Ac D->Ac D
 |x::xs,y::ys,z::zs=>.tup [x,y,z]::QP xs ys zs
 |_,_,_=>[]
noncomputable def Lc(x y z:D):R (Ac D):=(Co x).bind fun xs=>(Co y).bind fun ys=>(Co z).bind fun zs=>if 0<xs.length/\xs.length<=1000/\ys.length=xs.length/\zs.length=xs.length then .ok (QP xs ys zs) else .bad
noncomputable def Hq:Ae->Ac D->Ac D
 |_,[]=>[]
 |i,x::xs=>.tup [.int i,x]::Hq (i+1) xs
noncomputable def nlD:Ag->D->Ao
 |_,.non=>Aa
 |_,.bl _=>Aa
 |_,.int _=>Aa
 |_,.str _=>Aa
 |n+1,.tup xs=>xs.all (nlD n)
 |_,_=>Ad
noncomputable def Ll(fr:Ao):D->Ao
 |.lst ds=>fr&&ds.all (nlD 5)
 |d=>nlD 5 d
noncomputable def HV:Ac D->At (Ac Ae)
 |[]=>Ab []
 |.int i::r=>(HV r).map (i :: ·)
 |_=>Af
noncomputable def ID(i:Ae):Ac Ae->Ae
 |[]=>i
 |j::r=>ID (if j<i then j else i) r
noncomputable def pk2(k n:Ag):Ac Ag:=(Bk ((n-min k n+1) / 2)).map fun j=>min k n+2*j
noncomputable def RI(k:Ag)(xs:Ac D):Ac D:=(pk2 k xs.length).filterMap fun i=>xs[i]?
noncomputable def ddS(acc:Ac Ae)(x:Ae):Ac Ae:=if acc.any (· == x)=Aa then acc else acc++[x]
noncomputable def ddN(is:Ac Ae):Ag:=(is.foldl ddS []).length
noncomputable def K8(xs:Ac D):R D:=match HV xs with
  |some is=>if En is.length 4000=Aa then .ok (.int (ddN is)) else .bad
  |none=>.bad
noncomputable def mmD(mx:Ao)(x y:D):R D:=if [x,y].all (fun d=>rkD 1 d && !eqD d (.tup []))=Aa then .ok (if (if mx=Aa then ltD 1 x y else ltD 1 y x)=Aa then y else x) else .bad
noncomputable def RF(x y:D):R D:=if [x,y].all (fun d=>rkD 1 d && !eqD d (.tup []))=Aa then .ok (.bl (ltD 1 x y)) else .bad
noncomputable def biD:BI->Ac D->R D
  |.len,[.lst xs]=>.ok (.int xs.length)
  |.len,[.tup xs]=>.ok (.int xs.length)
  |.len,[.str x]=>if Du x.length=Aa then .ok (.int x.length) else .bad
  |.abs,[.int i]=>.ok (.int (if i<0 then -i else i))
  |.max,[.int i,.int j]=>.ok (.int (if i<j then j else i))
  |.min,[.int i,.int j]=>.ok (.int (if j<i then j else i))
  |.min,[.lst xs]=>match HV xs with
    |some (i::is)=>.ok (.int (ID i is))
    |_=>.bad
  |.int,[.int i]=>.ok (.int i)
  |.int,[.bl b]=>.ok (.int (b2i b))
  |.list,[.lst xs]=>.ok (.lst xs)
  |.list,[.tup xs]=>.ok (.lst xs)
  |.tuple,[.lst xs]=>.ok (.tup xs)
  |.tuple,[.tup xs]=>.ok (.tup xs)
  |.all,[.lst xs]=>(Hn xs).bind fun b=>.ok (.bl b)
  |.any,[.lst xs]=>(FY xs).bind fun b=>.ok (.bl b)
  |.any,[.tup xs]=>(FY xs).bind fun b=>.ok (.bl b)
  |.sum,[.lst xs]=>(H9 0 xs).bind fun i=>.ok (.int i)
  |.sum,[.tup xs]=>(H9 0 xs).bind fun i=>.ok (.int i)
  |.sorted,[.lst xs]=>(Fm xs).bind fun ys=>.ok (.lst ys)
  |.count,[.lst xs,x]=>if (flD 5 x&&xs.all (flD 5))=Aa then .ok (.int ((xs.filter fun y=>eqD y x).length:Ag)) else .bad
  |.len,[.dic kvs]=>.ok (.int kvs.length)
  |.stp,[.lst xs,.int k]=>.ok (.lst (RI k.toNat xs))
  |.lset,[.lst xs]=>K8 xs
  |.tmin,[x,y]=>mmD Ad x y
  |.tmax,[x,y]=>mmD Aa x y
  |.tlt,[x,y]=>RF x y
  |_,_=>.bad
noncomputable def slE(c:E)(d:D):R (At Ae):=match c with
  |.non=>.ok Af
  |_=>(E1 d).bind fun i=>.ok (Ab i)
noncomputable def IC(n d:Ag):At Ae->Ag
 |none=>d
 |some i=>if i<0 then (i+n).toNat else min i.toNat n
noncomputable def JI(xs:Ac D)(lo hi:At Ae):Ac D:=(xs.drop (IC xs.length 0 lo)).take (IC xs.length xs.length hi-IC xs.length 0 lo)
noncomputable def slD:D->At Ae->At Ae->R D
 |.lst xs,l,h=>.ok (.lst (JI xs l h))
 |.tup xs,l,h=>if (IC xs.length 0 l==0&&IC xs.length xs.length h==xs.length)=Aa then .bad else .ok (.tup (JI xs l h))
 |_,_,_=>.bad
noncomputable def Rr:D->Ak->R D
  |.obj _ fs,f=>match fs.lookup f with
    |some d=>.ok d
    |none=>.bad
  |.exc _ fs,f=>match fs.lookup f with
    |some d=>.ok d
    |none=>.bad
  |_,_=>.bad
noncomputable def Fa(ρ:Rho)(i:Ag):R D:=match ρ[i]? with
  |some (Ab (d,Ad))=>.ok d
  |_=>.bad
noncomputable def Gd(ρ:Rho)(i:Ag):R D:=match ρ[i]? with
  |some (Ab (d,_))=>.ok d
  |_=>.bad
noncomputable def shE(ρ:Rho):E->Ao
  | .var i=>(match ρ[i]? with
    |some (Ab (_,Aa))=>Ad
    | _=>Aa)
  |_=>Aa
noncomputable def JF(ρ:Rho):Es->Ao
 |.nil=>Aa
 |.cons e es=>shE ρ e&&JF ρ es
noncomputable def E5:Ac Ag->Ac D->Rho->At Rho
 |[],[],ρ=>Ab ρ
 |t::ts,d::ds,ρ=>E5 ts ds (ρ.set t (Ab (d,Ad)))
 |_,_,_=>Af
noncomputable def GE(ts:Ac Ag)(d:D)(ρ:Rho):R Rho:=match d with
  | .tup xs=>(match E5 ts xs ρ with
    |some ρ'=>.ok ρ'
    | none=>.bad)
  |_=>.bad
noncomputable def Hm(ts:Ac Ag)(d:D)(ρ:Rho):R Rho:=match d with
  | .lst xs=>(match E5 ts xs ρ with
    |some ρ'=>.ok ρ'
    | none=>.bad)
  |d=>GE ts d ρ
noncomputable def BH(g:D->R Ao)(f:D->R D):Ac D->R (Ac D)
 |[]=>.ok []
 |x::xs=>(g x).bind fun b=>if b=Aa then (f x).bind fun y=>(BH g f xs).bind fun ys=>.ok (y::ys) else BH g f xs
noncomputable def noX{α:Type}:R α->R α
 |.ok a=>.ok a
 |_=>.bad
noncomputable def top(ρ:Rho)(e:E)(r:R D):R D:=match e with
  |.var i=>Gd ρ i
  |_=>r
mutual
noncomputable def evE(Γ:Gam)(ρ:Rho):E->R D
 |.non=>.ok .non
 |.bl b=>.ok (.bl b)
 |.int i=>.ok (.int i)
 |.str x=>.ok (.str x)
 |.var i=>Fa ρ i
 |.glob g=>.ok (Γ.G g)
 |.bin op a b=>(top ρ a (evE Γ ρ a)).bind fun x=>(top ρ b (evE Γ ρ b)).bind fun y=>CM op x y
 |.un op a=>(top ρ a (evE Γ ρ a)).bind fun x=>unD op x
 |.no a=>(top ρ a (evE Γ ρ a)).bind fun x=>(D6 x).bind fun b=>.ok (.bl (!b))
 |.and es=>evN Γ ρ es
 |.or es=>evO Γ ρ es
 |.cmp op a b=>(top ρ a (evE Γ ρ a)).bind fun x=>(top ρ b (evE Γ ρ b)).bind fun y=>Cq op x y
 |.cmp2 op op' a b c=>(top ρ a (evE Γ ρ a)).bind fun x=>(top ρ b (evE Γ ρ b)).bind fun y=>(Cq op x y).bind fun z=>(D6 z).bind fun k=>if k=Aa then (top ρ c (evE Γ ρ c)).bind fun u=>Cq op' y u else .ok (.bl Ad)
 |.ite c a b=>(top ρ c (evE Γ ρ c)).bind fun x=>(CK x).bind fun k=>if k=Aa then evE Γ ρ a else evE Γ ρ b
 |.call f as=>(evB Γ ρ as).bind fun xs=>(Γ.F f xs).bind fun d=>if JF ρ as=Aa then .ok d else if Ll (Γ.fr f) d=Aa then .ok d else .bad
 |.bi b as=>(evB Γ ρ as).bind fun xs=>biD b xs
 |.isi a ks=>(top ρ a (evE Γ ρ a)).bind fun x=>G0 Γ.up ks x
 |.idx a i=>(top ρ a (evE Γ ρ a)).bind fun x=>(top ρ i (evE Γ ρ i)).bind fun y=>BQ x y
 |.sl a lo hi=>(top ρ a (evE Γ ρ a)).bind fun x=>(top ρ lo (evE Γ ρ lo)).bind fun l=>(slE lo l).bind fun l'=>(top ρ hi (evE Γ ρ hi)).bind fun h=>(slE hi h).bind fun h'=>slD x l' h'
 |.tup es=>(evA Γ ρ es).bind fun xs=>.ok (.tup xs)
 |.lst es=>(evA Γ ρ es).bind fun xs=>.ok (.lst xs)
 |.comp elt t it c=>(evI Γ ρ it).bind fun xs=>(noX (BH (fun x=>(top (ρ.set t (Ab (x,Ad))) c (evE Γ (ρ.set t (Ab (x,Ad))) c)).bind CK) (fun x=>evE Γ (ρ.set t (Ab (x,Ad))) elt) xs)).bind fun ys=>.ok (.lst ys)
 |.compT elt ts it c=>(evI Γ ρ it).bind fun xs=>(noX (BH (fun x=>(GE ts x ρ).bind fun ρ'=>(top ρ' c (evE Γ ρ' c)).bind CK) (fun x=>(GE ts x ρ).bind fun ρ'=>evE Γ ρ' elt) xs)).bind fun ys=>.ok (.lst ys)
 |.tupI it=>(evI Γ ρ it).bind fun xs=>.ok (.tup xs)
 |.dnew=>.ok (.dic [])
 |.fld o f=>(top ρ o (evE Γ ρ o)).bind fun x=>Rr x f
noncomputable def evN(Γ:Gam)(ρ:Rho):Es->R D
 |.nil=>.bad
 |.cons e .nil=>evE Γ ρ e
 |.cons e (.cons e' es)=>(evE Γ ρ e).bind fun x=>(D6 x).bind fun c=>if c=Aa then evN Γ ρ (.cons e' es) else .ok (.bl Ad)
noncomputable def evO(Γ:Gam)(ρ:Rho):Es->R D
 |.nil=>.bad
 |.cons e .nil=>evE Γ ρ e
 |.cons e (.cons e' es)=>(evE Γ ρ e).bind fun x=>(D6 x).bind fun c=>if c=Aa then .ok (.bl Aa) else evO Γ ρ (.cons e' es)
noncomputable def evA(Γ:Gam)(ρ:Rho):Es->R (Ac D)
 |.nil=>.ok []
 |.cons e es=>(evE Γ ρ e).bind fun x=>(evA Γ ρ es).bind fun xs=>.ok (x::xs)
noncomputable def evB(Γ:Gam)(ρ:Rho):Es->R (Ac D)
 |.nil=>.ok []
 |.cons e es=>(top ρ e (evE Γ ρ e)).bind fun x=>(evB Γ ρ es).bind fun xs=>.ok (x::xs)
noncomputable def evI(Γ:Gam)(ρ:Rho):I->R (Ac D)
 |.e a=>(evE Γ ρ a).bind Co
 |.rng a=>(top ρ a (evE Γ ρ a)).bind fun x=>(E1 x).bind fun j=>C5 0 j
 |.rng2 a b=>(top ρ a (evE Γ ρ a)).bind fun x=>(top ρ b (evE Γ ρ b)).bind fun y=>(E1 x).bind fun i=>(E1 y).bind fun j=>C5 i j
 |.zip a b=>(evE Γ ρ a).bind fun x=>(evE Γ ρ b).bind fun y=>(Co x).bind fun xs=>(Co y).bind fun ys=>.ok (EG xs ys)
 |.zip3 a b c=>(evE Γ ρ a).bind fun x=>(evE Γ ρ b).bind fun y=>(evE Γ ρ c).bind fun z=>Lc x y z
 |.enm a=>(evE Γ ρ a).bind fun x=>(Co x).bind fun xs=>.ok (Hq 0 xs)
end
noncomputable def E2(Γ:Gam):E->Ao
 |.lst _=>Aa
 |.comp _ _ _ _=>Aa
 |.compT _ _ _ _=>Aa
 |.dnew=>Aa
 |.bin .Add _ _=>Aa
 |.bi .list _=>Aa
 |.bi .sorted _=>Aa
 |.sl _ _ _=>Aa
 |.call f _=>Γ.fr f
 |_=>Ad
mutual
inductive S where
 |pass
 /-- x=e;fresh: x alone holds the new list -/
 |asg (i:Ag) (fresh:Ao) (e:E)
 /-- a,b,..=e -/
 |asgT (ts:Ac Ag) (e:E)
 |expr (e:E)
 |ret (e:E)|retN
 |ife (c:E) (a b:Ss)
 |fors (t:Ag) (it:I) (body:Ss)
 |forT (ts:Ac Ag) (it:I) (body:Ss)
 |whl (c:E) (body:Ss)
 /-- raise C(e,..) -/
 |rais (c:Ag) (as:Es)
 /-- try: body except C as x: h -/
 |tryx (body:Ss) (c:Ag) (x:Ag) (h:Ss)
 /-- x.append(e),x.extend(e),x.insert(k,e),x.reverse(),x.clear() -/
 |app (i:Ag) (e:E)|ext (i:Ag) (e:E)|ins (i:Ag) (k e:E)|rev (i:Ag)|clr (i:Ag)
 /-- d[k]=e,d.setdefault(k,e) -/
 |dput (i:Ag) (k e:E)|dsd (i:Ag) (k e:E)
 /-- x[k]=e -/
 |put (i:Ag) (k e:E)
 /-- x[k],x[l]=x[l],x[k] -/
 |swp (i k l:Ag)
 |brk|cont
 /-- nothing: from here on x is no longer changed -/
 |rel (i:Ag)
inductive Ss where
 |nil|cons (s:S) (ss:Ss)
end
inductive O where
 |next (ρ:Rho)|ret (d:D) (fr:Ao)|brk (ρ:Rho)|cont (ρ:Rho)|exn (x:Ex) (ρ:Rho)|bad
 deriving Inhabited
noncomputable def O.of{α:Type}(ρ:Rho)(r:R α)(f:α->O):O:=match r with
  |.ok a=>f a
  |.exn x=>.exn x ρ
  |.bad=>.bad
@[simp]theorem O.of_ok(ρ:Rho)(a:α)(f:α->O):O.of ρ (.ok a) f=f a:=rfl
@[simp]theorem O.of_exn(ρ:Rho)(x:Ex)(f:α->O):O.of ρ (.exn x:R α) f=.exn x ρ:=rfl
@[simp]theorem O.of_bad(ρ:Rho)(f:α->O):O.of ρ (.bad:R α) f=.bad:=rfl
noncomputable def IF(Γ:Gam)(ρ:Rho)(i:I):R (Ac D):=evI Γ ρ i
noncomputable def Dj(ρ:Rho)(i:Ag):R (Ac D):=match ρ[i]? with
  |some (Ab (.lst xs,Aa))=>.ok xs
  |_=>.bad
noncomputable def Ry(ρ:Rho)(i:Ag):R (Ac (Ac Ae×D)):=match ρ[i]? with
  |some (Ab (.dic xs,Aa))=>.ok xs
  |_=>.bad
noncomputable def Wp(d:D):R (Ac Ae):=match Li d with
  |some k=>.ok k
  |none=>.bad
noncomputable def Wl:Ag:=4096
noncomputable def O.seq(o:O)(f:Rho->O):O:=match o with
  |.next ρ=>f ρ
  |.ret d b=>.ret d b
  |.brk ρ=>.brk ρ
  |.cont ρ=>.cont ρ
  |.exn x ρ=>.exn x ρ
  |.bad=>.bad
noncomputable def O.turn(o:O)(f:Rho->O):O:=match o with
  |.next ρ=>f ρ
  |.cont ρ=>f ρ
  |.brk ρ=>.next ρ
  |.ret d b=>.ret d b
  |.exn x ρ=>.exn x ρ
  |.bad=>.bad
noncomputable def DF(body:D->Rho->O):Ac D->Rho->O
 |[],ρ=>.next ρ
 |x::xs,ρ=>(body x ρ).turn (DF body xs)
noncomputable def Q8(c:Rho->R Ao)(body:Rho->O):Ag->Rho->O
 |0,_=>.bad
 |n+1,ρ=>O.of ρ (c ρ) fun b=>if b=Aa then (body ρ).turn (Q8 c body n) else .next ρ
noncomputable def HW(ρ:Rho)(k:Ag):R Ae:=(Fa ρ k).bind E1
noncomputable def NV(ρ:Rho)(d:D)(i k l:Ag):O:=match d with
  |.tup [x,y]=>O.of ρ (Dj ρ i) fun xs=>O.of ρ (HW ρ k) fun a=>O.of ρ (HW ρ l) fun b=>match plD xs.length a,plD xs.length b with
    |some m,Ab n=>.next (ρ.set i (Ab (.lst ((xs.set m x).set n y),Aa)))
    |_,_=>.bad
  |_=>.bad
mutual
noncomputable def evS(Γ:Gam)(ρ:Rho):S->O
  |.pass=>.next ρ
  | .asg i fresh e=>O.of ρ (evE Γ ρ e) fun d=>if fresh=Aa then (if E2 Γ e=Aa then (match d with
      |.lst xs=>.next (ρ.set i (Ab (.lst xs,Aa)))
      |.dic xs=>.next (ρ.set i (Ab (.dic xs,Aa)))
      | _=>.bad) else .bad) else .next (ρ.set i (Ab (d,Ad)))
  |.asgT ts e=>O.of ρ (evE Γ ρ e) fun d=>O.of ρ (Hm ts d ρ) fun ρ'=>.next ρ'
  |.expr e=>O.of ρ (evE Γ ρ e) fun _=>.next ρ
  |.ret e=>O.of ρ (top ρ e (evE Γ ρ e)) fun d=>.ret d (E2 Γ e||(match e with | .var i=>(match ρ[i]? with|some (Ab (_,o))=>o|_=>Ad)|_=>Ad))
  |.retN=>.ret .non Ad
  |.ife c a b=>O.of ρ ((top ρ c (evE Γ ρ c)).bind CK) fun k=>if k=Aa then evSs Γ ρ a else evSs Γ ρ b
  |.fors t it body=>O.of ρ (IF Γ ρ it) fun xs=>DF (fun x ρ'=>evSs Γ (ρ'.set t (Ab (x,Ad))) body) xs ρ
  |.forT ts it body=>O.of ρ (IF Γ ρ it) fun xs=>DF (fun x ρ'=>O.of ρ' (GE ts x ρ') fun ρ''=>evSs Γ ρ'' body) xs ρ
  |.whl c body=>Q8 (fun ρ'=>(top ρ' c (evE Γ ρ' c)).bind CK) (fun ρ'=>evSs Γ ρ' body) Wl ρ
  |.rais c as=>O.of ρ (noX (evA Γ ρ as)) fun xs=>O.of ρ (Γ.xn c xs) fun x=>.exn x ρ
  |.tryx body c x h=>match evSs Γ ρ body with
      | .exn y ρ'=>if (Γ.up y.c).contains c=Aa then (match evSs Γ (ρ'.set x (Ab (.exc y.c y.fs,Ad))) h with
          |.next ρ''=>.next (ρ''.set x Af)
          |.ret d f=>.ret d f
          | _=>.bad) else .bad
      |o=>o
  |.app i e=>O.of ρ (Dj ρ i) fun xs=>O.of ρ (evE Γ ρ e) fun d=>if Du (xs.length+1)=Aa then .next (ρ.set i (Ab (.lst (xs++[d]),Aa))) else .bad
  |.ext i e=>O.of ρ (Dj ρ i) fun xs=>O.of ρ (evE Γ ρ e) fun d=>O.of ρ (La d) fun ys=>if Du (xs.length+ys.length)=Aa then .next (ρ.set i (Ab (.lst (xs++ys),Aa))) else .bad
  |.ins i k e=>O.of ρ (Dj ρ i) fun xs=>O.of ρ ((top ρ k (evE Γ ρ k)).bind E1) fun j=>O.of ρ (evE Γ ρ e) fun d=>if (Du (xs.length+1)&&decide (0<=j)&&decide (j<=xs.length))=Aa then .next (ρ.set i (Ab (.lst (xs.take j.toNat++d::xs.drop j.toNat),Aa))) else .bad
  |.rev i=>O.of ρ (Dj ρ i) fun xs=>.next (ρ.set i (Ab (.lst xs.reverse,Aa)))
  |.clr i=>O.of ρ (Dj ρ i) fun _=>.next (ρ.set i (Ab (.lst [],Aa)))
  |.dput i k e=>O.of ρ (evE Γ ρ e) fun d=>O.of ρ (Ry ρ i) fun xs=>O.of ρ ((evE Γ ρ k).bind Wp) fun j=>if Du (xs.length+1)=Aa then .next (ρ.set i (Ab (.dic (VC xs j d),Aa))) else .bad
  |.dsd i k e=>O.of ρ (Ry ρ i) fun xs=>O.of ρ ((evE Γ ρ k).bind Wp) fun j=>O.of ρ (evE Γ ρ e) fun d=>if Du (xs.length+1)=Aa then .next (ρ.set i (Ab (.dic (if (xs.any fun p=>p.1==j)=Aa then xs else VC xs j d),Aa))) else .bad
  |.put i k e=>O.of ρ (evE Γ ρ e) fun d=>O.of ρ (Dj ρ i) fun xs=>O.of ρ ((top ρ k (evE Γ ρ k)).bind E1) fun j=>match plD xs.length j with
      |some n=>.next (ρ.set i (Ab (.lst (xs.set n d),Aa)))
      |none=>.bad
  |.swp i k l=>O.of ρ (evE Γ ρ (.tup (.cons (.idx (.var i) (.var l)) (.cons (.idx (.var i) (.var k)) .nil)))) fun d=>NV ρ d i k l
  |.brk=>.brk ρ
  |.cont=>.cont ρ
  |.rel i=>match ρ[i]? with
      |some (Ab (d,Aa))=>.next (ρ.set i (Ab (d,Ad)))
      |_=>.next ρ
noncomputable def evSs(Γ:Gam)(ρ:Rho):Ss->O
 |.nil=>.next ρ
 |.cons s ss=>(evS Γ ρ s).seq fun ρ'=>evSs Γ ρ' ss
end
structure Df where
 n:Ag
 fr:Ao
 body:Ss
noncomputable def BG(n:Ag)(ds:Ac D):Rho:=ds.map (fun d=>Ab (d,Ad))++EW (n-ds.length) Af
noncomputable def isL:D->Ao
 |.lst _=>Aa
 |.dic _=>Aa
 |_=>Ad
noncomputable def O.ans(fr:Ao)(o:O):R D:=match o with
  |.ret d b=>if (fr&&(!b&&isL d))=Aa then .bad else .ok d
  |.next _=>if fr=Aa then .bad else .ok .non
  |.exn x _=>.exn x
  |_=>.bad
noncomputable def Df.run(Γ:Gam)(f:Df)(ds:Ac D):R D:=(evSs Γ (BG f.n ds) f.body).ans f.fr
structure Prg where
 xs:Ao
 defs:Ag->Df
 G:Ag->D
 up:Ag->Ac Ag
 xn:Ag->Ac D->R Ex
noncomputable def EJ(xs:Ao)(r:R D):R D:=match xs with
  | true=>(match r with
    |.exn x=>if x.fs.isEmpty=Aa then .exn x else .bad
    | r=>r)
  |false=>noX r
noncomputable def gam(P:Prg):Ag->Gam
 |0=>⟨fun _ _=>.bad,P.G,P.up,fun i=>(P.defs i).fr,P.xn⟩
 |n+1=>⟨fun i ds=>EJ P.xs ((P.defs i).run (gam P n) ds),P.G,P.up,fun i=>(P.defs i).fr,P.xn⟩
end Ov
end
section
namespace Ov
open PySem
variable{α:Type}{lo hi:Ae}{n:Ag}{x:D}
section
variable(Γ:Gam)(ρ:Rho)
@[simp]theorem Zzq:evE Γ ρ .non=.ok .non:=rfl
@[simp]theorem ZBe(b):evE Γ ρ (.bl b)=.ok (.bl b):=rfl
@[simp]theorem Zzu(b):evE Γ ρ (.int b)=.ok (.int b):=rfl
@[simp]theorem Zzp(b):evE Γ ρ (.str b)=.ok (.str b):=rfl
@[simp]theorem Zzo(i):evE Γ ρ (.var i)=Fa ρ i:=rfl
@[simp]theorem ZvU(i):evE Γ ρ (.glob i)=.ok (Γ.G i):=rfl
@[simp]theorem kQ(op a b):evE Γ ρ (.bin op a b)=(top ρ a (evE Γ ρ a)).bind fun x=>(top ρ b (evE Γ ρ b)).bind fun y=>CM op x y:=rfl
@[simp]theorem ZBa(op a):evE Γ ρ (.un op a)=(top ρ a (evE Γ ρ a)).bind fun x=>unD op x:=rfl
@[simp]theorem ZBd(a):evE Γ ρ (.no a)=(top ρ a (evE Γ ρ a)).bind fun x=>(D6 x).bind fun b=>.ok (.bl (!b)):=rfl
@[simp]theorem Zzy(es):evE Γ ρ (.and es)=evN Γ ρ es:=rfl
@[simp]theorem ZBc(es):evE Γ ρ (.or es)=evO Γ ρ es:=rfl
@[simp]theorem Zzk(e):evN Γ ρ (.cons e .nil)=evE Γ ρ e:=rfl
@[simp]theorem ZvP(e e' es):evN Γ ρ (.cons e (.cons e' es))=(evE Γ ρ e).bind fun x=>(D6 x).bind fun c=>if c=Aa then evN Γ ρ (.cons e' es) else .ok (.bl Ad):=rfl
@[simp]theorem Zzj(e):evO Γ ρ (.cons e .nil)=evE Γ ρ e:=rfl
@[simp]theorem ZvO(e e' es):evO Γ ρ (.cons e (.cons e' es))=(evE Γ ρ e).bind fun x=>(D6 x).bind fun c=>if c=Aa then .ok (.bl Aa) else evO Γ ρ (.cons e' es):=rfl
@[simp]theorem Zzx(op a b):evE Γ ρ (.cmp op a b)=(top ρ a (evE Γ ρ a)).bind fun x=>(top ρ b (evE Γ ρ b)).bind fun y=>Cq op x y:=rfl
@[simp]theorem ZvX(op op' a b c):evE Γ ρ (.cmp2 op op' a b c)=(top ρ a (evE Γ ρ a)).bind fun x=>(top ρ b (evE Γ ρ b)).bind fun y=>(Cq op x y).bind fun z=>(D6 z).bind fun k=>if k=Aa then (top ρ c (evE Γ ρ c)).bind fun u=>Cq op' y u else .ok (.bl Ad):=rfl
@[simp]theorem Zzs(c a b):evE Γ ρ (.ite c a b)=(top ρ c (evE Γ ρ c)).bind fun x=>(CK x).bind fun k=>if k=Aa then evE Γ ρ a else evE Γ ρ b:=rfl
@[simp]theorem ZvY(f as):evE Γ ρ (.call f as)=(evB Γ ρ as).bind fun xs=>(Γ.F f xs).bind fun d=>if JF ρ as=Aa then .ok d else if Ll (Γ.fr f) d=Aa then .ok d else .bad:=rfl
@[simp]theorem NA(f as):evE Γ ρ (.bi f as)=(evB Γ ρ as).bind fun xs=>biD f xs:=rfl
@[simp]theorem Zzt(a ks):evE Γ ρ (.isi a ks)=(top ρ a (evE Γ ρ a)).bind fun x=>G0 Γ.up ks x:=rfl
@[simp]theorem Zzv(a i):evE Γ ρ (.idx a i)=(top ρ a (evE Γ ρ a)).bind fun x=>(top ρ i (evE Γ ρ i)).bind fun y=>BQ x y:=rfl
@[simp]theorem ZBb(a lo hi):evE Γ ρ (.sl a lo hi)=(top ρ a (evE Γ ρ a)).bind fun x=>(top ρ lo (evE Γ ρ lo)).bind fun l=>(slE lo l).bind fun l'=>(top ρ hi (evE Γ ρ hi)).bind fun h=>(slE hi h).bind fun h'=>slD x l' h':=rfl
@[simp]theorem kP(es):evE Γ ρ (.tup es)=(evA Γ ρ es).bind fun xs=>.ok (.tup xs):=rfl
@[simp]theorem Zzr(es):evE Γ ρ (.lst es)=(evA Γ ρ es).bind fun xs=>.ok (.lst xs):=rfl
noncomputable def cG(Γ:Gam)(ρ:Rho)(t:Ag)(c:E):D->R Ao:=fun x=>(top (ρ.set t (Ab (x,Ad))) c (evE Γ (ρ.set t (Ab (x,Ad))) c)).bind CK
noncomputable def cF(Γ:Gam)(ρ:Rho)(t:Ag)(elt:E):D->R D:=fun x=>evE Γ (ρ.set t (Ab (x,Ad))) elt
noncomputable def mkL(r:R (Ac D)):R D:=(noX r).bind fun ys=>.ok (.lst ys)
@[simp]theorem ZAP(ys):mkL (.ok ys)=.ok (.lst ys):=rfl
@[simp]theorem ZvW(elt t it c):evE Γ ρ (.comp elt t it c)=(evI Γ ρ it).bind fun xs=>mkL (BH (cG Γ ρ t c) (cF Γ ρ t elt) xs):=rfl
noncomputable def cGT(Γ:Gam)(ρ:Rho)(ts:Ac Ag)(c:E):D->R Ao:=fun x=>(GE ts x ρ).bind fun ρ'=>(top ρ' c (evE Γ ρ' c)).bind CK
noncomputable def cFT(Γ:Gam)(ρ:Rho)(ts:Ac Ag)(elt:E):D->R D:=fun x=>(GE ts x ρ).bind fun ρ'=>evE Γ ρ' elt
@[simp]theorem ZtK(elt ts it c):evE Γ ρ (.compT elt ts it c)=(evI Γ ρ it).bind fun xs=>mkL (BH (cGT Γ ρ ts c) (cFT Γ ρ ts elt) xs):=rfl
@[simp]theorem eL(it):evE Γ ρ (.tupI it)=(evI Γ ρ it).bind fun xs=>.ok (.tup xs):=rfl
@[simp]theorem ZvV:evE Γ ρ .dnew=.ok (.dic []):=rfl
@[simp]theorem Zzw(o f):evE Γ ρ (.fld o f)=(top ρ o (evE Γ ρ o)).bind fun x=>Rr x f:=rfl
@[simp]theorem ZzA:evA Γ ρ .nil=.ok []:=rfl
@[simp]theorem T6(e es):evA Γ ρ (.cons e es)=(evE Γ ρ e).bind fun x=>(evA Γ ρ es).bind fun xs=>.ok (x::xs):=rfl
@[simp]theorem Zzz:evB Γ ρ .nil=.ok []:=rfl
@[simp]theorem T5(e es):evB Γ ρ (.cons e es)=(top ρ e (evE Γ ρ e)).bind fun x=>(evB Γ ρ es).bind fun xs=>.ok (x::xs):=rfl
@[simp]theorem ZCd(a):evI Γ ρ (.e a)=(evE Γ ρ a).bind Co:=rfl
@[simp]theorem Zzm(a):evI Γ ρ (.rng a)=(top ρ a (evE Γ ρ a)).bind fun x=>(E1 x).bind fun j=>C5 0 j:=rfl
@[simp]theorem eK(a b):evI Γ ρ (.rng2 a b)=(top ρ a (evE Γ ρ a)).bind fun x=>(top ρ b (evE Γ ρ b)).bind fun y=>(E1 x).bind fun i=>(E1 y).bind fun j=>C5 i j:=rfl
@[simp]theorem Zzl(a b):evI Γ ρ (.zip a b)=(evE Γ ρ a).bind fun x=>(evE Γ ρ b).bind fun y=>(Co x).bind fun xs=>(Co y).bind fun ys=>.ok (EG xs ys):=rfl
@[simp]theorem ZvT(a b c):evI Γ ρ (.zip3 a b c)=(evE Γ ρ a).bind fun x=>(evE Γ ρ b).bind fun y=>(evE Γ ρ c).bind fun z=>Lc x y z:=rfl
@[simp]theorem Zzn(a):evI Γ ρ (.enm a)=(evE Γ ρ a).bind fun x=>(Co x).bind fun xs=>.ok (Hq 0 xs):=rfl
@[simp]theorem ZvQ(a b):IF Γ ρ (.zip a b)=evI Γ ρ (.zip a b):=rfl
@[simp]theorem ZtI(a b c):IF Γ ρ (.zip3 a b c)=evI Γ ρ (.zip3 a b c):=rfl
@[simp]theorem ZvS(a):IF Γ ρ (.enm a)=evI Γ ρ (.enm a):=rfl
@[simp]theorem ZA9(a):IF Γ ρ (.e a)=(evE Γ ρ a).bind Co:=rfl
@[simp]theorem ZvR(a):IF Γ ρ (.rng a)=evI Γ ρ (.rng a):=rfl
@[simp]theorem ZtJ(a b):IF Γ ρ (.rng2 a b)=evI Γ ρ (.rng2 a b):=rfl
variable(r:R D)
@[simp]theorem Zwg(i):top ρ (.var i) r=Gd ρ i:=rfl
@[simp]theorem Zwi:top ρ .non r=r:=rfl
@[simp]theorem ZAl(b):top ρ (.bl b) r=r:=rfl
@[simp]theorem Zwm(b):top ρ (.int b) r=r:=rfl
@[simp]theorem Zwh(b):top ρ (.str b) r=r:=rfl
@[simp]theorem Zu9(b):top ρ (.glob b) r=r:=rfl
@[simp]theorem fS(op a b):top ρ (.bin op a b) r=r:=rfl
@[simp]theorem ZAh(op a):top ρ (.un op a) r=r:=rfl
@[simp]theorem ZAk(a):top ρ (.no a) r=r:=rfl
@[simp]theorem Zwq(a):top ρ (.and a) r=r:=rfl
@[simp]theorem ZAj(a):top ρ (.or a) r=r:=rfl
@[simp]theorem Zwp(op a b):top ρ (.cmp op a b) r=r:=rfl
@[simp]theorem Zvc(op op' a b c):top ρ (.cmp2 op op' a b c) r=r:=rfl
@[simp]theorem Zwk(a b c):top ρ (.ite a b c) r=r:=rfl
@[simp]theorem Zvd(a b):top ρ (.call a b) r=r:=rfl
@[simp]theorem ZAm(a b):top ρ (.bi a b) r=r:=rfl
@[simp]theorem Zwl(a b):top ρ (.isi a b) r=r:=rfl
@[simp]theorem Zwn(a b):top ρ (.idx a b) r=r:=rfl
@[simp]theorem ZAi(a b c):top ρ (.sl a b c) r=r:=rfl
@[simp]theorem fR(a):top ρ (.tup a) r=r:=rfl
@[simp]theorem Zwj(a):top ρ (.lst a) r=r:=rfl
@[simp]theorem Zvb(a b c d):top ρ (.comp a b c d) r=r:=rfl
@[simp]theorem Zwo(a b):top ρ (.fld a b) r=r:=rfl
@[simp]theorem Zrd(a b c d):top ρ (.compT a b c d) r=r:=rfl
@[simp]theorem eA(a):top ρ (.tupI a) r=r:=rfl
@[simp]theorem Zva:top ρ .dnew r=r:=rfl
end
@[simp]theorem Zq2(x:D×Ao)(ρ:Rho):Gd (Ab x::ρ) 0=.ok x.1:=rfl
@[simp]theorem Zq3(x:D)(ρ:Rho):Fa (Ab (x,Ad)::ρ) 0=.ok x:=rfl
@[simp]theorem ZqG(x:Sl)(ρ:Rho)(i:Ag)[NeZero i]:Gd (x::ρ) i=Gd ρ (i-1):=by
 obtain⟨j,rfl⟩:∃ j,i=j+1:=⟨i-1,by have:=Lp i;omega⟩
 rfl
@[simp]theorem ZqH(x:Sl)(ρ:Rho)(i:Ag)[NeZero i]:Fa (x::ρ) i=Fa ρ (i-1):=by
 obtain⟨j,rfl⟩:∃ j,i=j+1:=⟨i-1,by have:=Lp i;omega⟩
 rfl
noncomputable def shV(ρ:Rho)(i:Ag):Ao:=match ρ[i]? with
    |some (Ab (_,Aa))=>Ad
    |_=>Aa
@[simp]theorem Zvh(x:D)(b:Ao)(ρ:Rho):shV (Ab (x,b)::ρ) 0=!b:=by cases b<;>rfl
@[simp]theorem ZrE(ρ:Rho):shV (Af::ρ) 0=Aa:=rfl
@[simp]theorem ZrF(x:Sl)(ρ:Rho)(i:Ag)[NeZero i]:shV (x::ρ) i=shV ρ (i-1):=by
 obtain⟨j,rfl⟩:∃ j,i=j+1:=⟨i-1,by have:=Lp i;omega⟩
 rfl
section
variable(ρ:Rho)
@[simp]theorem ZwR(i):shE ρ (.var i)=shV ρ i:=rfl
@[simp]theorem ZwU:shE ρ .non=Aa:=rfl
@[simp]theorem ZAA(b):shE ρ (.bl b)=Aa:=rfl
@[simp]theorem ZwY(b):shE ρ (.int b)=Aa:=rfl
@[simp]theorem ZwT(b):shE ρ (.str b)=Aa:=rfl
@[simp]theorem Zvk(b):shE ρ (.glob b)=Aa:=rfl
@[simp]theorem Zw2(op a b):shE ρ (.bin op a b)=Aa:=rfl
@[simp]theorem ZAw(op a):shE ρ (.un op a)=Aa:=rfl
@[simp]theorem ZAz(a):shE ρ (.no a)=Aa:=rfl
@[simp]theorem Zw3(a):shE ρ (.and a)=Aa:=rfl
@[simp]theorem ZAy(a):shE ρ (.or a)=Aa:=rfl
@[simp]theorem Zw1(op a b):shE ρ (.cmp op a b)=Aa:=rfl
@[simp]theorem Zvn(op op' a b c):shE ρ (.cmp2 op op' a b c)=Aa:=rfl
@[simp]theorem ZwW(a b c):shE ρ (.ite a b c)=Aa:=rfl
@[simp]theorem Zvo(a b):shE ρ (.call a b)=Aa:=rfl
@[simp]theorem ZAB(a b):shE ρ (.bi a b)=Aa:=rfl
@[simp]theorem ZwX(a b):shE ρ (.isi a b)=Aa:=rfl
@[simp]theorem ZwZ(a b):shE ρ (.idx a b)=Aa:=rfl
@[simp]theorem ZAx(a b c):shE ρ (.sl a b c)=Aa:=rfl
@[simp]theorem ZwS(a):shE ρ (.tup a)=Aa:=rfl
@[simp]theorem ZwV(a):shE ρ (.lst a)=Aa:=rfl
@[simp]theorem Zvm(a b c d):shE ρ (.comp a b c d)=Aa:=rfl
@[simp]theorem ZrG(a b c d):shE ρ (.compT a b c d)=Aa:=rfl
@[simp]theorem Zvj(a):shE ρ (.tupI a)=Aa:=rfl
@[simp]theorem Zvl:shE ρ .dnew=Aa:=rfl
@[simp]theorem Zw0(a b):shE ρ (.fld a b)=Aa:=rfl
@[simp]theorem Zvi:JF ρ .nil=Aa:=rfl
@[simp]theorem bN(e es):JF ρ (.cons e es)=(shE ρ e&&JF ρ es):=rfl
end
@[simp]theorem ZqJ(ρ:Rho):E5 [] [] ρ=Ab ρ:=rfl
@[simp]theorem Zn8(t ts d ds)(ρ:Rho):E5 (t::ts) (d::ds) ρ=E5 ts ds (ρ.set t (Ab (d,Ad))):=rfl
@[simp]theorem bW(ts ds)(ρ:Rho):Hm ts (.lst ds) ρ=match E5 ts ds ρ with
  |some ρ'=>.ok ρ'
  |none=>.bad:=rfl
@[simp]theorem Zuw(ts ds)(ρ:Rho):Hm ts (.tup ds) ρ=GE ts (.tup ds) ρ:=rfl
@[simp]theorem SJ(ts ds)(ρ:Rho):GE ts (.tup ds) ρ=match E5 ts ds ρ with
  |some ρ'=>.ok ρ'
  |none=>.bad:=rfl
@[simp]theorem Zv6{β:Type}(c:Prop)[Gf c](a b:R α)(f:α->R β):(if c then a else b).bind f=if c then a.bind f else b.bind f:=by split<;>rfl
@[simp]theorem ZAO(ρ:Rho)(c:Prop)[Gf c](a b:R α)(f:α->O):O.of ρ (if c then a else b) f=if c then O.of ρ a f else O.of ρ b f:=by split<;>rfl
@[simp]theorem Zyr{β:Type}(ρ:Rho)(a:R α)(g:α->R β)(f:β->O):O.of ρ (a.bind g) f=O.of ρ a fun x=>O.of ρ (g x) f:=by cases a<;>rfl
@[simp]theorem Zw5(c:Prop)[Gf c](a b:O)(f:Rho->O):O.seq (if c then a else b) f=if c then a.seq f else b.seq f:=by split<;>rfl
@[simp]theorem ZuZ(c:Prop)[Gf c](a b:O)(f:Rho->O):O.turn (if c then a else b) f=if c then a.turn f else b.turn f:=by split<;>rfl
@[simp]theorem Zz2(fr:Ao)(c:Prop)[Gf c](a b:O):O.ans fr (if c then a else b)=if c then a.ans fr else b.ans fr:=by split<;>rfl
@[simp]theorem Zvp(ρ f):O.seq (.next ρ) f=f ρ:=rfl
@[simp]theorem Zw4(d b f):O.seq (.ret d b) f=.ret d b:=rfl
@[simp]theorem Zw7(ρ f):O.seq (.brk ρ) f=.brk ρ:=rfl
@[simp]theorem Zvq(ρ f):O.seq (.cont ρ) f=.cont ρ:=rfl
@[simp]theorem Zw6(x ρ f):O.seq (.exn x ρ) f=.exn x ρ:=rfl
@[simp]theorem Zw8(f):O.seq .bad f=.bad:=rfl
@[simp]theorem Ph(ρ f):O.turn (.next ρ) f=f ρ:=rfl
@[simp]theorem ZuY(d b f):O.turn (.ret d b) f=.ret d b:=rfl
@[simp]theorem Zu1(ρ f):O.turn (.brk ρ) f=.next ρ:=rfl
@[simp]theorem Zq8(ρ f):O.turn (.cont ρ) f=f ρ:=rfl
@[simp]theorem Zu0(x ρ f):O.turn (.exn x ρ) f=.exn x ρ:=rfl
@[simp]theorem Zu2(f):O.turn .bad f=.bad:=rfl
@[simp]theorem Zv8(ρ):O.ans Ad (.next ρ)=.ok .non:=rfl
@[simp]theorem Zz1(d b):O.ans Ad (.ret d b)=.ok d:=rfl
@[simp]theorem Zv7(d b):O.ans Aa (.ret d b)=if (!b&&isL d)=Aa then .bad else .ok d:=rfl
@[simp]theorem ZyV(d):isL (.lst d)=Aa:=rfl
@[simp]theorem ZyU(d):isL (.tup d)=Ad:=rfl
@[simp]theorem ZyW(d):isL (.int d)=Ad:=rfl
@[simp]theorem Zz3(fr x ρ):O.ans fr (.exn x ρ)=.exn x:=rfl
@[simp]theorem Zz4(fr):O.ans fr .bad=.bad:=rfl
@[simp]theorem ZBo(i j:Ae):CM .Add (.int i) (.int j)=.ok (.int (i+j)):=rfl
@[simp]theorem ZAr(i j:Ae):CM .Sub (.int i) (.int j)=.ok (.int (i-j)):=rfl
@[simp]theorem qA(i j:Ae):CM .Mult (.int i) (.int j)=if (DL i j||E8 i j)=Aa then .ok (.int (i*j)) else .bad:=rfl
@[simp]theorem kK(i j:Ae):CM .FloorDiv (.int i) (.int j)=if 0<j/\j<1073741824 then .ok (.int (i / j)) else .bad:=rfl
@[simp]theorem qB(i j:Ae):CM .Mod (.int i) (.int j)=if 0<j then .ok (.int (i%j)) else .bad:=rfl
@[simp]theorem rY(i j:Ae):CM .Pow (.int i) (.int j)=if (0<=j/\j<=1000000)/\(-(18446744073709551616:Ae)<i/\i<18446744073709551616) then .ok (.int (i ^ j.toNat)) else .bad:=rfl
@[simp]theorem tW(x y:Ak):CM .Add (.str x) (.str y)=if Du (x.length+y.length)=Aa then .ok (.str (x++y)) else .bad:=rfl
@[simp]theorem NC(x y:Ac D):CM .Add (.lst x) (.lst y)=if Du (x.length+y.length)=Aa then .ok (.lst (x++y)) else .bad:=rfl
@[simp]theorem tV(x y:Ac D):CM .Add (.tup x) (.tup y)=if (!x.isEmpty&&Du (x.length+y.length))=Aa then .ok (.tup (x++y)) else .bad:=rfl
@[simp]theorem ZBW(i:Ae):unD .USub (.int i)=.ok (.int (-i)):=rfl
@[simp]theorem zT(x y:D):Cq .Eq x y=if (flD 5 x&&flD 5 y)=Aa then .ok (.bl (eqD x y)) else .bad:=rfl
@[simp]theorem zK(x y:D):Cq .NotEq x y=if (flD 5 x&&flD 5 y)=Aa then .ok (.bl (!eqD x y)) else .bad:=rfl
@[simp]theorem ZBX(i j:Ae):Cq .Lt (.int i) (.int j)=.ok (.bl (decide (i<j))):=rfl
@[simp]theorem ZB0(i j:Ae):Cq .LtE (.int i) (.int j)=.ok (.bl (decide (i<=j))):=rfl
@[simp]theorem ZCa(i j:Ae):Cq .Gt (.int i) (.int j)=.ok (.bl (decide (j<i))):=rfl
@[simp]theorem ZCb(i j:Ae):Cq .GtE (.int i) (.int j)=.ok (.bl (decide (j<=i))):=rfl
@[simp]theorem YX(x:D)(ys:Ac D):Cq .In x (.lst ys)=if (flD 5 x&&ys.all (flD 5))=Aa then .ok (.bl (ys.any fun y=>eqD y x)) else .bad:=rfl
@[simp]theorem YW(x:D)(ys:Ac D):Cq .In x (.tup ys)=if (flD 5 x&&ys.all (flD 5))=Aa then .ok (.bl (ys.any fun y=>eqD y x)) else .bad:=rfl
@[simp]theorem zH(x:D)(ys:Ac D):Cq .NotIn x (.lst ys)=if (flD 5 x&&ys.all (flD 5))=Aa then .ok (.bl (!ys.any fun y=>eqD y x)) else .bad:=rfl
@[simp]theorem zG(x:D)(ys:Ac D):Cq .NotIn x (.tup ys)=if (flD 5 x&&ys.all (flD 5))=Aa then .ok (.bl (!ys.any fun y=>eqD y x)) else .bad:=rfl
@[simp]theorem ZAY:Cq .Is .non .non=.ok (.bl Aa):=rfl
@[simp]theorem ZA0(i):Cq .Is (.int i) .non=.ok (.bl Ad):=rfl
@[simp]theorem ZAX(i):Cq .Is (.tup i) .non=.ok (.bl Ad):=rfl
@[simp]theorem ZAZ(i):Cq .Is (.lst i) .non=.ok (.bl Ad):=rfl
@[simp]theorem ZB3(a b):Cq .Is (.bl a) (.bl b)=.ok (.bl (a==b)):=rfl
@[simp]theorem ZAV(a b):Cq .IsNot (.bl a) (.bl b)=.ok (.bl (!(a==b))):=rfl
@[simp]theorem ZyK:Cq .IsNot .non .non=.ok (.bl Ad):=rfl
@[simp]theorem ZyM(i):Cq .IsNot (.int i) .non=.ok (.bl Aa):=rfl
@[simp]theorem ZyJ(i):Cq .IsNot (.tup i) .non=.ok (.bl Aa):=rfl
@[simp]theorem ZyL(i):Cq .IsNot (.lst i) .non=.ok (.bl Aa):=rfl
@[simp]theorem ZzG(i j:Ae):eqD (.int i) (.int j)=(i==j):=rfl
@[simp]theorem ZBf(i j:Ao):eqD (.bl i) (.bl j)=(i==j):=rfl
@[simp]theorem ZzD(i j:Ak):eqD (.str i) (.str j)=(i==j):=rfl
@[simp]theorem ZzC(i j:Ac D):eqD (.tup i) (.tup j)=eqDs i j:=rfl
@[simp]theorem ZzF(i j:Ac D):eqD (.lst i) (.lst j)=eqDs i j:=rfl
@[simp]theorem ZzE:eqD .non .non=Aa:=rfl
@[simp]theorem ZpK(i):eqD .non (.int i)=Ad:=rfl
@[simp]theorem ZpL(i):eqD (.int i) .non=Ad:=rfl
@[simp]theorem ZvZ:eqDs [] []=Aa:=rfl
@[simp]theorem O6(x y:D)(xs ys:Ac D):eqDs (x::xs) (y::ys)=(eqD x y&&eqDs xs ys):=rfl
@[simp]theorem Zza(n)(i:Ae):flD n (.int i)=Aa:=by cases n<;>rfl
@[simp]theorem ZA8(n)(i:Ao):flD n (.bl i)=Aa:=by cases n<;>rfl
@[simp]theorem Zy8(n)(i:Ak):flD n (.str i)=Aa:=by cases n<;>rfl
@[simp]theorem Zy9(n):flD n .non=Aa:=by cases n<;>rfl
@[simp]theorem Zvu(i):flD 5 (.tup i)=i.all (flD 4):=rfl
@[simp]theorem Zvz(i):flD 5 (.lst i)=i.all (flD 4):=rfl
@[simp]theorem Zvv(i):flD 4 (.tup i)=i.all (flD 3):=rfl
@[simp]theorem ZvA(i):flD 4 (.lst i)=i.all (flD 3):=rfl
@[simp]theorem Zvw(i):flD 3 (.tup i)=i.all (flD 2):=rfl
@[simp]theorem ZvB(i):flD 3 (.lst i)=i.all (flD 2):=rfl
@[simp]theorem Zvx(i):flD 2 (.tup i)=i.all (flD 1):=rfl
@[simp]theorem ZvC(i):flD 2 (.lst i)=i.all (flD 1):=rfl
@[simp]theorem Zvy(i):flD 1 (.tup i)=i.all (flD 0):=rfl
@[simp]theorem ZvD(i):flD 1 (.lst i)=i.all (flD 0):=rfl
@[simp]theorem Zwe(b):CK (.bl b)=.ok b:=rfl
@[simp]theorem Zu6(i):CK (.int i)=.ok (i != 0):=rfl
@[simp]theorem Zu5(i):CK (.lst i)=.ok (!i.isEmpty):=rfl
@[simp]theorem Zu3(i):CK (.tup i)=.ok (!i.isEmpty):=rfl
@[simp]theorem Zu4:CK .non=.ok Ad:=rfl
@[simp]theorem Zwf(b):EH (.bl b)=.ok b:=rfl
@[simp]theorem Zu8(i):EH (.int i)=.ok (i != 0):=rfl
@[simp]theorem Zu7:EH .non=.ok Ad:=rfl
@[simp]theorem ZuG:Hn []=.ok Aa:=rfl
@[simp]theorem OW(x r):Hn (x::r)=(EH x).bind fun b=>(Hn r).bind fun c=>.ok (b&&c):=rfl
@[simp]theorem ZuF:FY []=.ok Ad:=rfl
@[simp]theorem SL(x r):FY (x::r)=(EH x).bind fun b=>(FY r).bind fun c=>.ok (b||c):=rfl
@[simp]theorem ZzQ(b)(d):EJ b (.ok d)=.ok d:=by cases b<;>rfl
@[simp]theorem Zv1(b):EJ b .bad=.bad:=by cases b<;>rfl
@[simp]theorem Zv0(c):EJ Aa (.exn ⟨c,[]⟩)=.exn ⟨c,[]⟩:=rfl
@[simp]theorem ZqV(r):EJ Ad r=noX r:=rfl
@[simp]theorem Zys(a:α):noX (.ok a)=.ok a:=rfl
@[simp]theorem Zyu:noX (.bad:R α)=.bad:=rfl
@[simp]theorem Zyt(x):noX (.exn x:R α)=.bad:=rfl
@[simp]theorem ZzZ(b):D6 (.bl b)=.ok b:=rfl
@[simp]theorem bX(b):E1 (.int b)=.ok b:=rfl
@[simp]theorem SZ(b):La (.lst b)=.ok b:=rfl
@[simp]theorem Zuz(b):Co (.lst b)=.ok b:=rfl
@[simp]theorem Zuy(b):Co (.tup b)=.ok b:=rfl
@[simp]theorem yR(xs i):BQ (.lst xs) (.int i)=DE xs i:=rfl
@[simp]theorem yQ(xs i):BQ (.tup xs) (.int i)=DE xs i:=rfl
@[simp]theorem ZBZ(xs):biD .len [.lst xs]=.ok (.int xs.length):=rfl
@[simp]theorem ZBY(xs):biD .len [.tup xs]=.ok (.int xs.length):=rfl
@[simp]theorem ZCl(i):biD .abs [.int i]=.ok (.int (if i<0 then -i else i)):=rfl
@[simp]theorem ZAR(i j):biD .max [.int i,.int j]=.ok (.int (if i<j then j else i)):=rfl
@[simp]theorem ZAQ(i j):biD .min [.int i,.int j]=.ok (.int (if j<i then j else i)):=rfl
@[simp]theorem ZB4(i):biD .int [.int i]=.ok (.int i):=rfl
@[simp]theorem ZB5(i):biD .int [.bl i]=.ok (.int (b2i i)):=rfl
@[simp]theorem ZAU(i):biD .list [.lst i]=.ok (.lst i):=rfl
@[simp]theorem sV(i):biD .list [.tup i]=.ok (.lst i):=rfl
@[simp]theorem Zwd(i):biD .tuple [.lst i]=.ok (.tup i):=rfl
@[simp]theorem Zwc(i):biD .tuple [.tup i]=.ok (.tup i):=rfl
@[simp]theorem zO(i):biD .all [.lst i]=(Hn i).bind fun b=>.ok (.bl b):=rfl
@[simp]theorem ZCj(i):biD .any [.lst i]=(FY i).bind fun b=>.ok (.bl b):=rfl
@[simp]theorem ZCi(i):biD .any [.tup i]=(FY i).bind fun b=>.ok (.bl b):=rfl
@[simp]theorem ZBK(i):biD .sum [.lst i]=(H9 0 i).bind fun b=>.ok (.int b):=rfl
@[simp]theorem ZBJ(i):biD .sum [.tup i]=(H9 0 i).bind fun b=>.ok (.int b):=rfl
@[simp]theorem Zvg(i):biD .sorted [.lst i]=(Fm i).bind fun b=>.ok (.lst b):=rfl
@[simp]theorem ZBL(xs k):biD .stp [.lst xs,.int k]=.ok (.lst (RI k.toNat xs)):=rfl
@[simp]theorem ZAS(xs):biD .lset [.lst xs]=K8 xs:=rfl
@[simp]theorem ZAn(x y):biD .tmin [x,y]=mmD Ad x y:=rfl
@[simp]theorem ZBw(x y):biD .tlt [x,y]=RF x y:=rfl
@[simp]theorem ZAo(x y):biD .tmax [x,y]=mmD Aa x y:=rfl
@[simp]theorem ZzR(xs x):biD .count [.lst xs,x]=if (flD 5 x&&xs.all (flD 5))=Aa then .ok (.int ((xs.filter fun y=>eqD y x).length:Ag)) else .bad:=rfl
@[simp]theorem Za(xs lo hi):slD (.tup xs) lo hi=if (IC xs.length 0 lo==0&&IC xs.length xs.length hi==xs.length)=Aa then .bad else .ok (.tup (JI xs lo hi)):=rfl
@[simp]theorem ZCu(xs lo hi):slD (.lst xs) lo hi=.ok (.lst (JI xs lo hi)):=rfl
@[simp]theorem ZwO(d):slE .non d=.ok Af:=rfl
@[simp]theorem ZwP(k i):slE (.int k) (.int i)=.ok (Ab i):=rfl
@[simp]theorem ZwN(k i):slE (.var k) (.int i)=.ok (Ab i):=rfl
@[simp]theorem ZwQ(op a b i):slE (.bin op a b) (.int i)=.ok (Ab i):=rfl
@[simp]theorem ZAu(op a i):slE (.un op a) (.int i)=.ok (Ab i):=rfl
@[simp]theorem ZAv(b as i):slE (.bi b as) (.int i)=.ok (Ab i):=rfl
@[simp]theorem ZyP(up ks):G0 up ks .non=if ks.any FJ=Aa then .bad else .ok (.bl (ks.any fun k=>kiD up k .non)):=rfl
@[simp]theorem ZAW(up ks b):G0 up ks (.bl b)=if ks.any FJ=Aa then .bad else .ok (.bl (ks.any fun k=>kiD up k (.bl b))):=rfl
@[simp]theorem ZyR(up ks b):G0 up ks (.int b)=if ks.any FJ=Aa then .bad else .ok (.bl (ks.any fun k=>kiD up k (.int b))):=rfl
@[simp]theorem ZyO(up ks b):G0 up ks (.str b)=if ks.any FJ=Aa then .bad else .ok (.bl (ks.any fun k=>kiD up k (.str b))):=rfl
@[simp]theorem ZyN(up ks b):G0 up ks (.tup b)=if ks.any FJ=Aa then .bad else .ok (.bl (ks.any fun k=>kiD up k (.tup b))):=rfl
@[simp]theorem ZyQ(up ks b):G0 up ks (.lst b)=if ks.any FJ=Aa then .bad else .ok (.bl (ks.any fun k=>kiD up k (.lst b))):=rfl
@[simp]theorem ZyS(up ks c f):G0 up ks (.exc c f)=if ks.all FJ=Aa then .ok (.bl (ks.any fun k=>kiD up k (.exc c f))) else .bad:=rfl
@[simp]theorem Zv5(c):FJ (.cls c)=Aa:=rfl
@[simp]theorem Zt0:FJ .verr=Aa:=rfl
@[simp]theorem Zv4:FJ .int=Ad:=rfl
@[simp]theorem Zt2:FJ .bool=Ad:=rfl
@[simp]theorem Zv3:FJ .str=Ad:=rfl
@[simp]theorem Zt1:FJ .list=Ad:=rfl
@[simp]theorem ZqW:FJ .tuple=Ad:=rfl
@[simp]theorem ZqO(up i):kiD up .int (.int i)=Aa:=rfl
@[simp]theorem ZqN(up):kiD up .int .non=Ad:=rfl
@[simp]theorem Zpp(up i):kiD up .bool (.int i)=Ad:=rfl
@[simp]theorem ZqM(up i):kiD up .int (.tup i)=Ad:=rfl
@[simp]theorem ZqQ(up i):kiD up .bool (.bl i)=Aa:=rfl
@[simp]theorem Zpo(up):kiD up .bool .non=Ad:=rfl
@[simp]theorem Zpn(up i):kiD up .list (.lst i)=Aa:=rfl
@[simp]theorem ZmX(up i):kiD up .tuple (.tup i)=Aa:=rfl
@[simp]theorem ZmY(up):kiD up .tuple .non=Ad:=rfl
@[simp]theorem ZqP(up c k f):kiD up (.cls c) (.exc k f)=(up k).contains c:=rfl
@[simp]theorem Zpm(up k f):kiD up .verr (.exc k f)=Aa:=rfl
theorem Nf{xs:Ac D}{i:Ae}{d:D}(h0:0<=i)(h:xs[i.toNat]?=Ab d):DE xs i=.ok d:=by
 unfold DE plD;obtain⟨h1,_⟩:=Ba.mp h;rw[Ay h0,Ay (by omega)]
 dsimp only;rw[h]
section
variable(Γ:Gam)(ρ:Rho)
@[simp]theorem ZvE:evSs Γ ρ .nil=.next ρ:=rfl
noncomputable def Ge(Γ:Gam)(ss:Ss)(o:O):O:=o.seq fun ρ'=>evSs Γ ρ' ss
@[simp]theorem ZtG(s ss):evSs Γ ρ (.cons s ss)=Ge Γ ss (evS Γ ρ s):=rfl
@[simp]theorem Zy3(ss):Ge Γ ss (.next ρ)=evSs Γ ρ ss:=rfl
@[simp]theorem ZA1(ss d b):Ge Γ ss (.ret d b)=.ret d b:=rfl
@[simp]theorem ZA5(ss):Ge Γ ss (.brk ρ)=.brk ρ:=rfl
@[simp]theorem Zy4(ss):Ge Γ ss (.cont ρ)=.cont ρ:=rfl
@[simp]theorem ZA4(ss x):Ge Γ ss (.exn x ρ)=.exn x ρ:=rfl
@[simp]theorem ZA6(ss):Ge Γ ss .bad=.bad:=rfl
@[simp]theorem ZA3(ss)(c:Prop)[Gf c](a b:O):Ge Γ ss (if c then a else b)=if c then Ge Γ ss a else Ge Γ ss b:=by split<;>rfl
@[simp]theorem ZA2(o:O):Ge Γ .nil o=o:=by cases o<;>rfl
noncomputable def CT(Γ:Gam)(t:Ag)(body:Ss):D->Rho->O:=fun x ρ'=>evSs Γ (ρ'.set t (Ab (x,Ad))) body
noncomputable def whC(Γ:Gam)(c:E):Rho->R Ao:=fun ρ'=>(top ρ' c (evE Γ ρ' c)).bind CK
noncomputable def whB(Γ:Gam)(body:Ss):Rho->O:=fun ρ'=>evSs Γ ρ' body
noncomputable def Rc(Γ:Gam)(t:Ag)(body:Ss)(ρ:Rho)(r:R (Ac D)):O:=O.of ρ r fun xs=>DF (CT Γ t body) xs ρ
@[simp]theorem Zy6(t body xs):Rc Γ t body ρ (.ok xs)=DF (CT Γ t body) xs ρ:=rfl
@[simp]theorem ZvI:evS Γ ρ .pass=.next ρ:=rfl
@[simp]theorem Zzh(i e):evS Γ ρ (.asg i Ad e)=O.of ρ (evE Γ ρ e) fun d=>.next (ρ.set i (Ab (d,Ad))):=rfl
@[simp]theorem ZvL(e):evS Γ ρ (.expr e)=O.of ρ (evE Γ ρ e) fun _=>.next ρ:=rfl
@[simp]theorem Zzd(e):evS Γ ρ (.ret e)=O.of ρ (top ρ e (evE Γ ρ e)) fun d=>.ret d (E2 Γ e||(match e with | .var i=>(match ρ[i]? with|some (Ab (_,o))=>o|_=>Ad)|_=>Ad)):=rfl
@[simp]theorem ZvG:evS Γ ρ .retN=.ret .non Ad:=rfl
@[simp]theorem Zze(c a b):evS Γ ρ (.ife c a b)=O.of ρ ((top ρ c (evE Γ ρ c)).bind CK) fun k=>if k=Aa then evSs Γ ρ a else evSs Γ ρ b:=rfl
@[simp]theorem ZvJ(t it body):evS Γ ρ (.fors t it body)=Rc Γ t body ρ (IF Γ ρ it):=rfl
noncomputable def NO(Γ:Gam)(ts:Ac Ag)(body:Ss):D->Rho->O:=fun x ρ'=>O.of ρ' (GE ts x ρ') fun ρ''=>evSs Γ ρ'' body
noncomputable def Wo(Γ:Gam)(ts:Ac Ag)(body:Ss)(ρ:Rho)(r:R (Ac D)):O:=O.of ρ r fun xs=>DF (NO Γ ts body) xs ρ
@[simp]theorem Zvt(t body xs):Wo Γ t body ρ (.ok xs)=DF (NO Γ t body) xs ρ:=rfl
@[simp]theorem ZvK(t it body):evS Γ ρ (.forT t it body)=Wo Γ t body ρ (IF Γ ρ it):=rfl
@[simp]theorem ZvN(ts e):evS Γ ρ (.asgT ts e)=O.of ρ (evE Γ ρ e) fun d=>O.of ρ (Hm ts d ρ) fun ρ'=>.next ρ':=rfl
theorem eJ(i e):evS Γ ρ (.asg i Aa e)=O.of ρ (evE Γ ρ e) fun d=>if E2 Γ e=Aa then (match d with
      |.lst xs=>.next (ρ.set i (Ab (.lst xs,Aa)))
      |.dic xs=>.next (ρ.set i (Ab (.dic xs,Aa)))
      | _=>.bad) else .bad:=rfl
noncomputable def setF(ρ:Rho)(i:Ag):D->O
 |.lst xs=>.next (ρ.set i (Ab (.lst xs,Aa)))
 |.dic xs=>.next (ρ.set i (Ab (.dic xs,Aa)))
 |_=>.bad
@[simp]theorem ZAC(i xs):setF ρ i (.lst xs)=.next (ρ.set i (Ab (.lst xs,Aa))):=rfl
@[simp]theorem ZAD(i xs):setF ρ i (.dic xs)=.next (ρ.set i (Ab (.dic xs,Aa))):=rfl
@[simp]theorem ZtH(i e):evS Γ ρ (.asg i Aa e)=O.of ρ (evE Γ ρ e) fun d=>if E2 Γ e=Aa then setF ρ i d else .bad:=by
 rw[eJ]
 congr 1
@[simp]theorem Zzi(i e):evS Γ ρ (.app i e)=O.of ρ (Dj ρ i) fun xs=>O.of ρ (evE Γ ρ e) fun d=>if Du (xs.length+1)=Aa then .next (ρ.set i (Ab (.lst (xs++[d]),Aa))) else .bad:=rfl
@[simp]theorem kO(i e):evS Γ ρ (.ext i e)=O.of ρ (Dj ρ i) fun xs=>O.of ρ (evE Γ ρ e) fun d=>O.of ρ (La d) fun ys=>if Du (xs.length+ys.length)=Aa then .next (ρ.set i (Ab (.lst (xs++ys),Aa))) else .bad:=rfl
@[simp]theorem Zzc(i):evS Γ ρ (.rev i)=O.of ρ (Dj ρ i) fun xs=>.next (ρ.set i (Ab (.lst xs.reverse,Aa))):=rfl
@[simp]theorem Zzf(i):evS Γ ρ (.clr i)=O.of ρ (Dj ρ i) fun _=>.next (ρ.set i (Ab (.lst [],Aa))):=rfl
theorem UU(i k e):evS Γ ρ (.put i k e)=O.of ρ (evE Γ ρ e) fun d=>O.of ρ (Dj ρ i) fun xs=>O.of ρ ((top ρ k (evE Γ ρ k)).bind E1) fun j=>match plD xs.length j with
      |some n=>.next (ρ.set i (Ab (.lst (xs.set n d),Aa)))
      |none=>.bad:=rfl
theorem kN(i k l):evS Γ ρ (.swp i k l)=O.of ρ (evE Γ ρ (.tup (.cons (.idx (.var i) (.var l)) (.cons (.idx (.var i) (.var k)) .nil)))) fun d=>NV ρ d i k l:=rfl
@[simp]theorem ZvF(body c x h):evS Γ ρ (.tryx body c x h)=match evSs Γ ρ body with
      | .exn y ρ'=>if (Γ.up y.c).contains c=Aa then (match evSs Γ (ρ'.set x (Ab (.exc y.c y.fs,Ad))) h with
          |.next ρ''=>.next (ρ''.set x Af)
          |.ret d f=>.ret d f
          | _=>.bad) else .bad
      |o=>o:=rfl
@[simp]theorem Zzb(c body):evS Γ ρ (.whl c body)=Q8 (whC Γ c) (whB Γ body) Wl ρ:=rfl
@[simp]theorem ZvH(c as):evS Γ ρ (.rais c as)=O.of ρ (noX (evA Γ ρ as)) fun xs=>O.of ρ (Γ.xn c xs) fun x=>.exn x ρ:=rfl
@[simp]theorem Zzg:evS Γ ρ .brk=.brk ρ:=rfl
@[simp]theorem ZvM:evS Γ ρ .cont=.cont ρ:=rfl
end
end Ov
namespace Ov
open PySem
theorem Ng{body:D->Rho->O}(P:Rho->Prop):∀(xs:Ac D)(ρ:Rho),P ρ->(∀ x∈xs,∀ ρ,P ρ->∃ ρ',body x ρ=.next ρ'/\P ρ')->∃ ρ',DF body xs ρ=.next ρ'/\P ρ'
 |[],ρ,h,_=>⟨ρ,rfl,h⟩
 |x::xs,ρ,h,k=>by
  obtain⟨ρ1,e1,h1⟩:=k x Ax ρ h;obtain⟨ρ2,e2,h2⟩:=Ng P xs ρ1 h1 fun y hy=>k y (Au _ hy)
  exact⟨ρ2,by show (body x ρ).turn _=_;rw[e1];exact e2,h2⟩
theorem aU(h1:0<=lo)(h2:lo<1000000)(h3:0<=hi)(h4:hi<1000000):C5 lo hi=.ok (Ch lo (hi-lo).toNat):=by
 unfold C5;rw[Ay (by omega)]
theorem aV(h3:0<=hi)(h4:hi<1000000):C5 0 hi=.ok (Ch 0 hi.toNat):=by
 rw[aU (by omega) (by omega) h3 h4,Jk]
theorem cM(h:x∈Ch lo n):∃ k:Ag,k<n/\x=.int (lo+(k:Ae)):=by
 obtain⟨k,hk,e⟩:=CI.mp h;exact⟨k,Dv.mp hk,e.symm⟩
theorem Jy(lo:Ae)(n:Ag):(Ch lo n).length=n:=by simp[Ch]
theorem Ts{i:Ag}(h:(Ch lo n)[i]?=Ab x):i<n/\x=.int (lo+(i:Ae)):=by
 have hl:=(Ba.mp h).1;rw[Jy]at hl;unfold Ch at h;rw[D7,List.getElem?_range hl]at h;cases h;exact⟨hl,rfl⟩
noncomputable def Ss.take:Ag->Ss->Ss
 |0,_=>.nil
 |_,.nil=>.nil
 |n+1,.cons s ss=>.cons s (ss.take n)
noncomputable def Ss.drop:Ag->Ss->Ss
 |0,ss=>ss
 |_,.nil=>.nil
 |n+1,.cons _ ss=>ss.drop n
theorem Tv(Γ:Gam):∀(n:Ag)(ss:Ss)(ρ:Rho),evSs Γ ρ ss=Ge Γ (ss.drop n) (evSs Γ ρ (ss.take n))
 |0,_,_=>rfl
 |_+1,.nil,_=>rfl
 |n+1,.cons s ss,ρ=>by
  show (evS Γ ρ s).seq (fun ρ'=>evSs Γ ρ' ss)=Ge Γ (ss.drop n) ((evS Γ ρ s).seq fun ρ'=>evSs Γ ρ' (ss.take n))
  cases evS Γ ρ s with
  |next ρ'=>exact Tv Γ n ss ρ'
  |_=>rfl
end Ov
end
section
namespace OvC
open PySem Ov PyProof.Rows
variable{j:Ae}
noncomputable abbrev scr(ns:Ac Ae):D:=.lst (ns.map .int)
noncomputable abbrev sh(d:D):Sl:=Ab (d,Ad)
noncomputable abbrev si(i:Ae):Sl:=Ab (.int i,Ad)
theorem four{P:Ag->Prop}(h0:P 0)(h1:P 1)(h2:P 2)(h3:P 3):P (j%4).toNat:=by
 have:(j%4).toNat=0\/(j%4).toNat=1\/(j%4).toNat=2\/(j%4).toNat=3:=by omega
 rcases this with e|e|e|e<;>rw[e]<;>assumption
def P4(p:Ae):Prop:=p=3\/p=5\/p=7\/p=11
noncomputable def pr4(j:Ae):Ae:=[3,5,7,11].getD (j%4).toNat 0
theorem rX(j):P4 (pr4 j):=by
 unfold pr4;exact four (P:=fun j=>P4 ([3,5,7,11].getD j 0)) (.inl rfl) (.inr (.inl rfl)) (.inr (.inr (.inl rfl))) (.inr (.inr (.inr rfl)))
theorem P4.pos{p}(h:P4 p):0<p:=by rcases h with rfl|rfl|rfl|rfl<;>decide
theorem P4.lo{p}(h:P4 p):3<=p:=by rcases h with rfl|rfl|rfl|rfl<;>decide
theorem P4.hi{p}(h:P4 p):p<=11:=by rcases h with rfl|rfl|rfl|rfl<;>decide
theorem eG(j:Ae):DE [.int 3,.int 5,.int 7,.int 11] (j%4)=.ok (.int (pr4 j)):=by
 have h:=four (P:=fun j=>[D.int 3,D.int 5,D.int 7,D.int 11][j]?=Ab (D.int ([3,5,7,11].getD j 0))) (j:=j) rfl rfl rfl rfl
 exact Nf (by omega) h
theorem HM{i:Ae}(h0:-18446744073709551616<i)(h1:i<18446744073709551616):DL i j=Aa:=by simp[DL];left;exact⟨h0,h1⟩
theorem Nn{i:Ae}(h0:-18446744073709551616<j)(h1:j<18446744073709551616):DL i j=Aa:=by simp[DL];right;exact⟨h0,h1⟩
noncomputable def Qw:Df:=⟨2,Ad,(.cons (.ret (.bin .Mod (.var 1) (.var 0))) .nil)⟩
def Ix(Γ:Gam):Prop:=∀ p n:Ae,0<p->Γ.F 1 [.int p,.int n]=.ok (.int (n%p))
theorem rA(Γ:Gam)(p n:Ae)(h:0<p):Qw.run Γ [.int p,.int n]=.ok (.int (n%p)):=by simp[Qw,Df.run,BG,h]
end OvC
end
namespace Ov
open PySem PySem.Spec PyProof.Rows L2
variable{A B:Al->Prop}{H H' H1 H0:Hp}{a b l q:Al}{xs vs:Ac V}{v:V}{d:D}{Rp Rq:Hp->V->D->Prop}{r:R D}{Q:VK}{X:Cx}{e c tg iter elt:Ar}{ρ:Rho}{i n j k t':Ag}{σ:L2.St}{g:D->D->R D}{op:Ft}{K:Fg}{pI:Pn}{s:Ap}{items2 its ys us acc items:AR Ai}{h h' h2:AT}{u y f0:Ai}{its2:Ac Ai}{es ifs:Ac Ar}{fs fi:Rho->R (Ac D)}{Q':At Ae->Hp->Prop}{x:Ak}{id T:Ec}{p p2 pos pos' pos2 tpos:Bb}{f fc:Rho->R Ao}{α:Type}{Fz:Al->HO->Prop}{D':Ends}{lo:Ae}{as:D->Rho->R Rho}{up:Ag->Ac Ag}{prog P:A9}{w:AK}{o o1:DC}{scope:CN}{env:Cy}{cl:Ac (Ak×Al)}{N':Ac Ak}{ts:Ac Ag}{fp:Ac Al}{tt:TT}{te:TE}{J:It}{wi:TI}{P1 P2:Ag->Ai->Prop}{S1 S2:Ag->AT->Prop}{t f1:Ao}{ta:TA}{ps:Ac (Al×Ac V)}
abbrev ClA:=Ag->At Al
variable{CL:ClA}
def KL(K:Fg)(a:Al)(xs:Ac V):Prop:=∃(o:DC)(its:AR Ai)(n:Ag),K.lookup a=Ab o/\o.cls=.type "list"/\o.dict=Af/\o.data=.seq its n/\its.size<=sizeLine/\Br xs its.toList
def KT(K:Fg)(a:Al)(xs:Ac V):Prop:=∃(o:DC)(its:AR Ai)(n:Ag),K.lookup a=Ab o/\o.cls=.type "tuple"/\o.data=.seq its n/\its.size<=sizeLine/\Br xs its.toList
section
variable(K:Fg)(CL:ClA)(H:Hp)(A:Al->Prop)
mutual
def Rep:V->D->Prop
 |v,.non=>v=.non
 |v,.bl b=>v=.bl b
 |v,.int i=>v=.int i
 |v,.str x=>v=.str x
 |v,.tup ds=>∃ a xs,v=.ref a/\(¬ A a\/KT K a xs)/\SqT K H a xs/\Reps xs ds
 |v,.lst ds=>∃ a xs,v=.ref a/\(¬ A a\/KL K a xs)/\SqL K H a xs/\Reps xs ds
 |v,.obj c fs=>∃ a C dx vs,v=.ref a/\¬ A a/\CL c=Ab C/\H a=Ab (.ins C dx vs)/\Repf vs fs
 |_,.dic _=>BN
 |v,.exc c fs=>∃ a C φ,v=.ref a/\¬ A a/\CL c=Ab C/\H a=Ab (.ext φ)/\(∀ h,φ h->∃ o,h.get? a=Ab o/\o.cls=.ref C)/\(fs=[]\/∃ dx vs,¬ A dx/\H dx=Ab (.xd vs)/\Repf vs fs/\∀ h,φ h->∃ o,h.get? a=Ab o/\o.dict=Ab dx)
def Reps:Ac V->Ac D->Prop
 |[],[]=>IU
 |v::vs,d::ds=>Rep v d/\Reps vs ds
 |_,_=>BN
def Repf:Ac (Ak×V)->Ac (Ak×D)->Prop
 |[],[]=>IU
 |v::vs,d::ds=>Repp v d/\Repf vs ds
 |_,_=>BN
def Repp:Ak×V->Ak×D->Prop
 |v,(n,d)=>v.1=n/\Rep v.2 d
end
def Dd(v:V)(d:D):Prop:=Rep K CL H A v d\/∃ a xs ds,v=.ref a/\d=.lst ds/\H a=Ab (.lst xs)/\Reps K CL H A xs ds
end
def Kp(A:Al->Prop)(H H':Hp):Prop:=∀ b o,H b=Ab o->¬ A b->H' b=Ab o
def AOk(H:Hp)(A:Al->Prop):Prop:=∀ a,A a->∃ xs,H a=Ab (.lst xs)
theorem Kp.of(h:AN H H'):Kp A H H':=fun b o e _=>h b o e
theorem AOk.same(h:AOk H A)(s:AN H H'):AOk H' A:=fun a ha=>let ⟨xs,e⟩:=h a ha;⟨xs,s _ _ e⟩
theorem AOk.new{p:Al}(h:AOk H A)(e:H p=Af):¬ A p:=fun ha=>by
 obtain⟨xs,q⟩:=h p ha;rw[e]at q;cases q
section
variable{K:Fg}{CL:ClA}{H H':Hp}{A B:Al->Prop}
theorem VR{u:HO}(k:Kp A H H')(na:¬ A a)(h:Rd H a u):Rd H' a u:=by
 rcases h with h|⟨o,h⟩
 ·exact .inl (k _ _ h na)
 ·exact .inr ⟨o,k _ _ h na⟩
theorem Nu(k:Kp A H H')(na:¬ A a\/KL K a xs)(h:SqL K H a xs):SqL K H' a xs:=na.elim (fun na=>h.imp (VR k na) id) .inr
theorem Nt(k:Kp A H H')(na:¬ A a\/KT K a xs)(h:SqT K H a xs):SqT K H' a xs:=na.elim (fun na=>h.imp (VR k na) id) .inr
mutual
theorem Rep.kp(k:Kp A H H'):∀{v:V}(d:D),Rep K CL H A v d->Rep K CL H' A v d
 |_,.non,h=>h
 |_,.bl _,h=>h
 |_,.int _,h=>h
 |_,.str _,h=>h
 |_,.dic _,h=>h.elim
 |_,.tup ds,h=>by
  obtain⟨a,xs,e,na,s,r⟩:=h;exact⟨a,xs,e,na,by first|exact Nt k na s|exact Nu k na s,Reps.kp k ds r⟩
 |_,.lst ds,h=>by
  obtain⟨a,xs,e,na,s,r⟩:=h;exact⟨a,xs,e,na,by first|exact Nt k na s|exact Nu k na s,Reps.kp k ds r⟩
 |_,.obj c fs,h=>by
  obtain⟨a,C,dx,vs,e,na,c,s,r⟩:=h;exact⟨a,C,dx,vs,e,na,c,k _ _ s na,Repf.kp k fs r⟩
 |_,.exc c fs,h=>by
  obtain⟨a,C,φ,e,na,c,s,p,q⟩:=h;refine⟨a,C,φ,e,na,c,k _ _ s na,p,q.imp id ?_⟩;rintro⟨dx,vs,nx,s2,r,z⟩;exact⟨dx,vs,nx,k _ _ s2 nx,Repf.kp k fs r,z⟩
theorem Reps.kp(k:Kp A H H'):∀{vs:Ac V}(ds:Ac D),Reps K CL H A vs ds->Reps K CL H' A vs ds
 |[],[],h=>h
 |_::_,d::ds,h=>⟨Rep.kp k d h.1,Reps.kp k ds h.2⟩
 |[],_::_,h=>h.elim
 |_::_,[],h=>h.elim
theorem Repf.kp(k:Kp A H H'):∀{vs:Ac (Ak×V)}(ds:Ac (Ak×D)),Repf K CL H A vs ds->Repf K CL H' A vs ds
 |[],[],h=>h
 |_::_,d::ds,h=>⟨Repp.kp k d h.1,Repf.kp k ds h.2⟩
 |[],_::_,h=>h.elim
 |_::_,[],h=>h.elim
theorem Repp.kp(k:Kp A H H'):∀{v:Ak×V}(d:Ak×D),Repp K CL H A v d->Repp K CL H' A v d
 |_,(_,d),h=>⟨h.1,Rep.kp k d h.2⟩
end
mutual
theorem Rep.sub(k:∀ a,B a->A a):∀{v:V}(d:D),Rep K CL H A v d->Rep K CL H B v d
 |_,.non,h=>h
 |_,.bl _,h=>h
 |_,.int _,h=>h
 |_,.str _,h=>h
 |_,.dic _,h=>h.elim
 |_,.tup ds,h=>by
  obtain⟨a,xs,e,na,s,r⟩:=h;exact⟨a,xs,e,na.imp (fun na z=>na (k _ z)) id,s,Reps.sub k ds r⟩
 |_,.lst ds,h=>by
  obtain⟨a,xs,e,na,s,r⟩:=h;exact⟨a,xs,e,na.imp (fun na z=>na (k _ z)) id,s,Reps.sub k ds r⟩
 |_,.obj c fs,h=>by
  obtain⟨a,C,dx,vs,e,na,c,s,r⟩:=h;exact⟨a,C,dx,vs,e,fun z=>na (k _ z),c,s,Repf.sub k fs r⟩
 |_,.exc c fs,h=>by
  obtain⟨a,C,φ,e,na,c,s,p,q⟩:=h;refine⟨a,C,φ,e,fun z=>na (k _ z),c,s,p,q.imp id ?_⟩
  rintro⟨dx,vs,nx,s2,r,z⟩;exact⟨dx,vs,fun z=>nx (k _ z),s2,Repf.sub k fs r,z⟩
theorem Reps.sub(k:∀ a,B a->A a):∀{vs:Ac V}(ds:Ac D),Reps K CL H A vs ds->Reps K CL H B vs ds
 |[],[],h=>h
 |_::_,d::ds,h=>⟨Rep.sub k d h.1,Reps.sub k ds h.2⟩
 |[],_::_,h=>h.elim
 |_::_,[],h=>h.elim
theorem Repf.sub(k:∀ a,B a->A a):∀{vs:Ac (Ak×V)}(ds:Ac (Ak×D)),Repf K CL H A vs ds->Repf K CL H B vs ds
 |[],[],h=>h
 |_::_,d::ds,h=>⟨Repp.sub k d h.1,Repf.sub k ds h.2⟩
 |[],_::_,h=>h.elim
 |_::_,[],h=>h.elim
theorem Repp.sub(k:∀ a,B a->A a):∀{v:Ak×V}(d:Ak×D),Repp K CL H A v d->Repp K CL H B v d
 |_,(_,d),h=>⟨h.1,Rep.sub k d h.2⟩
end
mutual
theorem Rep.wide(hp:∀ a,B a->A a\/H a=Af):∀{v:V}(d:D),Rep K CL H A v d->Rep K CL H B v d
 |_,.non,h=>h
 |_,.bl _,h=>h
 |_,.int _,h=>h
 |_,.str _,h=>h
 |_,.dic _,h=>h.elim
 |_,.tup ds,h=>by
  obtain⟨a,xs,e,na,s,r⟩:=h;refine⟨a,xs,e,?_,s,Reps.wide hp ds r⟩;rcases s with s|s
  ·refine na.imp (fun na z=>(hp _ z).elim na fun e=>?_) id
   rcases s with s|⟨o,s⟩<;>rw[e]at s<;>cases s
  ·exact .inr s
 |_,.lst ds,h=>by
  obtain⟨a,xs,e,na,s,r⟩:=h;refine⟨a,xs,e,?_,s,Reps.wide hp ds r⟩;rcases s with s|s
  ·refine na.imp (fun na z=>(hp _ z).elim na fun e=>?_) id
   rcases s with s|⟨o,s⟩<;>rw[e]at s<;>cases s
  ·exact .inr s
 |_,.obj c fs,h=>by
  obtain⟨a,C,dx,vs,e,na,c,s,r⟩:=h;exact⟨a,C,dx,vs,e,(fun z=>(hp _ z).elim na fun e=>by rw[e]at s;cases s),c,s,Repf.wide hp fs r⟩
 |_,.exc c fs,h=>by
  obtain⟨a,C,φ,e,na,c,s,p,q⟩:=h;refine⟨a,C,φ,e,(fun z=>(hp _ z).elim na fun e=>by rw[e]at s;cases s),c,s,p,q.imp id ?_⟩
  rintro⟨dx,vs,nx,s2,r,z⟩;exact⟨dx,vs,(fun z=>(hp _ z).elim nx fun e=>by rw[e]at s2;cases s2),s2,Repf.wide hp fs r,z⟩
theorem Reps.wide(hp:∀ a,B a->A a\/H a=Af):∀{vs:Ac V}(ds:Ac D),Reps K CL H A vs ds->Reps K CL H B vs ds
 |[],[],h=>h
 |_::_,d::ds,h=>⟨Rep.wide hp d h.1,Reps.wide hp ds h.2⟩
 |[],_::_,h=>h.elim
 |_::_,[],h=>h.elim
theorem Repf.wide(hp:∀ a,B a->A a\/H a=Af):∀{vs:Ac (Ak×V)}(ds:Ac (Ak×D)),Repf K CL H A vs ds->Repf K CL H B vs ds
 |[],[],h=>h
 |_::_,d::ds,h=>⟨Repp.wide hp d h.1,Repf.wide hp ds h.2⟩
 |[],_::_,h=>h.elim
 |_::_,[],h=>h.elim
theorem Repp.wide(hp:∀ a,B a->A a\/H a=Af):∀{v:Ak×V}(d:Ak×D),Repp K CL H A v d->Repp K CL H B v d
 |_,(_,d),h=>⟨h.1,Rep.wide hp d h.2⟩
end
theorem Rep.same(s:AN H H')(h:Rep K CL H A v d):Rep K CL H' A v d:=Rep.kp (Kp.of s) d h
theorem Reps.same{v:Ac V}{d:Ac D}(s:AN H H')(h:Reps K CL H A v d):Reps K CL H' A v d:=Reps.kp (Kp.of s) d h
theorem Dd.same{v:V}{d:D}(s:AN H H')(h:Dd K CL H A v d):Dd K CL H' A v d:=by
 rcases h with h|⟨a,xs,ds,e,e2,q,r⟩
 ·exact .inl (h.same s)
 ·exact .inr ⟨a,xs,ds,e,e2,s _ _ q,r.same s⟩
theorem Reps.length:∀{vs:Ac V}{ds:Ac D},Reps K CL H A vs ds->vs.length=ds.length
 |[],[],_=>rfl
 |_::_,_::_,h=>congrArg (· + 1) (Reps.length h.2)
 |[],_::_,h=>h.elim
 |_::_,[],h=>h.elim
theorem Reps.append:∀{vs ws:Ac V}{ds es:Ac D},Reps K CL H A vs ds->Reps K CL H A ws es->Reps K CL H A (vs++ws) (ds++es)
 |[],_,[],_,_,h=>h
 |_::_,_,_::_,_,h,g=>⟨h.1,Reps.append h.2 g⟩
 |[],_,_::_,_,h,_=>h.elim
 |_::_,_,[],_,h,_=>h.elim
theorem Reps.get:∀{vs:Ac V}{ds:Ac D}{i:Ag}{d:D},Reps K CL H A vs ds->ds[i]?=Ab d->∃ v,vs[i]?=Ab v/\Rep K CL H A v d
 |[],[],_,_,_,e=>by simp at e
 |v::_,_::_,0,_,h,e=>by simp at e;subst e;exact⟨v,rfl,h.1⟩
 |_::_,_::_,i+1,_,h,e=>by
  obtain⟨v,q,r⟩:=Reps.get (i:=i) h.2 (by simpa using e)
  exact⟨v,by simpa using q,r⟩
 |[],_::_,_,_,h,_=>h.elim
 |_::_,[],_,_,h,_=>h.elim
theorem Reps.take:∀{vs:Ac V}{ds:Ac D}(n:Ag),Reps K CL H A vs ds->Reps K CL H A (vs.take n) (ds.take n)
 |_,_,0,_=>trivial
 |[],[],_+1,_=>trivial
 |_::_,_::_,n+1,h=>⟨h.1,Reps.take n h.2⟩
 |[],_::_,_+1,h=>h.elim
 |_::_,[],_+1,h=>h.elim
theorem Reps.drop:∀{vs:Ac V}{ds:Ac D}(n:Ag),Reps K CL H A vs ds->Reps K CL H A (vs.drop n) (ds.drop n)
 |_,_,0,h=>h
 |[],[],_+1,_=>trivial
 |_::_,_::_,n+1,h=>Reps.drop n h.2
 |[],_::_,_+1,h=>h.elim
 |_::_,[],_+1,h=>h.elim
theorem Reps.set{x:V}{e:D}(r:Rep K CL H A x e):∀{vs:Ac V}{ds:Ac D}(n:Ag),Reps K CL H A vs ds->Reps K CL H A (vs.set n x) (ds.set n e)
 |[],[],_,_=>trivial
 |_::_,_::_,0,h=>⟨r,h.2⟩
 |_::_,_::_,n+1,h=>⟨h.1,Reps.set r n h.2⟩
 |[],_::_,_,h=>h.elim
 |_::_,[],_,h=>h.elim
end
structure Good (K:Fg) (CL:ClA) (A:Al->Prop) (ρ:Rho) (σ:L2.St) (H:Hp):Prop where
 sh:∀(i:Ag)(d:D),ρ[i]?=Ab (Ab (d,Ad))->∃ v,σ[i]?=Ab (Ab v)/\Rep K CL H A v d
 ow:∀(i:Ag)(d:D),ρ[i]?=Ab (Ab (d,Aa))->∃ a xs ds,σ[i]?=Ab (Ab (.ref a))/\d=.lst ds/\A a/\H a=Ab (.lst xs)/\Reps K CL H A xs ds
 len:ρ.length=σ.length
theorem Good.same{K:Fg}{CL:ClA}{A:Al->Prop}{ρ:Rho}{σ:L2.St}{H H':Hp}(g:Good K CL A ρ σ H)(s:AN H H'):Good K CL A ρ σ H':=
 ⟨fun i d e=>let ⟨v,q,r⟩:=g.sh i d e;⟨v,q,r.same s⟩,fun i d e=>let ⟨a,xs,ds,q,z,na,h,r⟩:=g.ow i d e;⟨a,xs,ds,q,z,na,s _ _ h,r.same s⟩,g.len⟩
abbrev XW:=Ex->Hp->Prop
variable{W:XW}
def Bt(Rp:Hp->V->D->Prop)(W:XW)(H:Hp)(r:R D)(Q:VK):Prop:=match r with
  |.ok d=>∀ v H',AN H H'->Rp H' v d->Q v H'
  |.exn x=>∀ H',AN H H'->W x H'
  |.bad=>BN
def Ho(Rp:Hp->Ac V->Ac D->Prop)(W:XW)(H:Hp)(r:R (Ac D))(Q:Ac V->Hp->Prop):Prop:=match r with
  |.ok d=>∀ v H',AN H H'->Rp H' v d->Q v H'
  |.exn x=>∀ H',AN H H'->W x H'
  |.bad=>BN
def Dt(W:XW)(H:Hp)(r:R Ao)(Q:Ao->Hp->Prop):Prop:=match r with
  |.ok b=>∀ H',AN H H'->Q b H'
  |.exn x=>∀ H',AN H H'->W x H'
  |.bad=>BN
theorem Bt.same(s:AN H H')(h:Bt Rp W H r Q):Bt Rp W H' r Q:=by
 cases r with
 |ok d=>exact fun v H2 s2 q=>h v H2 (s.trans s2) q
 |exn x=>exact fun H2 s2=>h H2 (s.trans s2)
 |bad=>exact h
theorem Dt.same{r:R Ao}{Q:Ao->Hp->Prop}(s:AN H H')(h:Dt W H r Q):Dt W H' r Q:=by
 cases r with
 |ok d=>exact fun H2 s2=>h H2 (s.trans s2)
 |exn x=>exact fun H2 s2=>h H2 (s.trans s2)
 |bad=>exact h
theorem Bt.bind{f:D->R D}{Q':VK}(h:Bt Rq W H (r.bind f) Q)(k:∀ d v H',r=.ok d->AN H H'->Rp H' v d->Bt Rq W H' (f d) Q->Q' v H'):Bt Rp W H r Q':=by
 cases r with
 |ok d=>exact fun v H2 s2 q=>k d v H2 rfl s2 q (Bt.same s2 h)
 |exn x=>exact h
 |bad=>exact h
section
variable(X:Cx)(CL:ClA)(W:XW)
def SE(e:Ar)(f:Rho->R D):Prop:=∀ A,PE X e (fun σ H Q=>AOk H A/\∃ ρ,Good X.K CL A ρ σ H/\Bt (fun H=>Rep X.K CL H A) W H (f ρ) Q)
def ST(e:Ar)(f:Rho->R D):Prop:=∀ A,PE X e (fun σ H Q=>AOk H A/\∃ ρ,Good X.K CL A ρ σ H/\Bt (fun H=>Dd X.K CL H A) W H (f ρ) Q)
def SB(e:Ar)(f:Rho->R Ao):Prop:=∀ A,PT X e (fun σ H Q=>AOk H A/\∃ ρ,Good X.K CL A ρ σ H/\Dt W H (f ρ) Q)
def SA(es:Ac Ar)(f:Rho->R (Ac D)):Prop:=∀ A,PA X es (fun σ H Q=>AOk H A/\∃ ρ,Good X.K CL A ρ σ H/\Ho (fun H=>Reps X.K CL H A) W H (f ρ) Q)
end
theorem PE.weak{t t':TE}(h:PE X e t)(k:∀ σ H Q,t' σ H Q->t σ H Q):PE X e t':=fun pI s σ H Q I q=>h pI s σ H Q I (k _ _ _ q)
theorem PT.weak{t t':TT}(h:PT X e t)(k:∀ σ H Q,t' σ H Q->t σ H Q):PT X e t':=fun pI s σ H Q I q=>h pI s σ H Q I (k _ _ _ q)
theorem PA.weak{e:Ac Ar}{t t':TA}(h:PA X e t)(k:∀ σ H Q,t' σ H Q->t σ H Q):PA X e t':=fun pos pI s σ H Q I q=>h pos pI s σ H Q I (k _ _ _ q)
noncomputable def OpD(X:Cx)(CL:ClA)(W:XW)(f:Ai->Ai->Hc Ai)(g:D->D->R D):Prop:=
 ∀ A,OpR X f (fun x y H Q=>AOk H A/\∃ dx dy,Dd X.K CL H A x dx/\Dd X.K CL H A y dy/\Bt (fun H=>Rep X.K CL H A) W H (g dx dy) Q)
section
variable{X:Cx}{CL:ClA}{W:XW}{a b c:Ar}{fa fb fc:Rho->R D}{pos:Bb}
theorem SE.st(h:SE X CL W a fa):ST X CL W a fa:=fun A=>PE.weak (h A) fun σ H Q ⟨hA,ρ,g,p⟩=>⟨hA,ρ,g,by
 cases e:fa ρ with
 |ok d=>rw[e]at p;exact fun v H' s r=>p v H' s (.inl r)
 |exn x=>rw[e]at p;exact p
 | bad=>rw[e]at p;exact p⟩
theorem SE.congr{f g:Rho->R D}(h:SE X CL W a f)(e:∀ ρ,g ρ=f ρ):SE X CL W a g:=fun A=>PE.weak (h A) fun σ H Q ⟨hA,ρ,q,p⟩=>⟨hA,ρ,q,by rw[<-e];exact p⟩
theorem NJ(h:PE X a (tC v))(r:∀ H A,AOk H A->Rep X.K CL H A v d):SE X CL W a (fun _=>.ok d):=fun A=>PE.weak h fun σ H Q ⟨hA,ρ,g,p⟩=>p v H (AN.refl H) (r H A hA)
theorem oP{i j}:SE X CL W (.Constant (.int i) j pos) (fun _=>.ok (.int i)):=NJ qO fun _ _ _=>rfl
theorem xE{b j}:SE X CL W (.Constant (.bool b) j pos) (fun _=>.ok (.bl b)):=NJ yX fun _ _ _=>rfl
theorem oM{j}:SE X CL W (.Constant .none j pos) (fun _=>.ok .non):=NJ qL fun _ _ _=>rfl
theorem oJ{x j}:SE X CL W (.Constant (.str x) j pos) (fun _=>.ok (.str x)):=NJ qI fun _ _ _=>rfl
theorem fQ(h:Fa ρ i=.ok d):ρ[i]?=Ab (Ab (d,Ad)):=by
 unfold Fa at h;split at h
 ·rename_i e;cases h;exact e
 ·cases h
theorem T3(h:Gd ρ i=.ok d):∃ o,ρ[i]?=Ab (Ab (d,o)):=by
 unfold Gd at h;split at h
 ·rename_i e;cases h;exact⟨_,e⟩
 ·cases h
theorem dY{x:Ex}(h:Fa ρ i=.exn x):BN:=by
 unfold Fa at h;split at h<;>cases h
theorem Tx{x:Ex}(h:Gd ρ i=.exn x):BN:=by
 unfold Gd at h;split at h<;>cases h
theorem oH(h:PE X a (G6 i)):SE X CL W a (fun ρ=>Fa ρ i):=fun A=>PE.weak h fun σ H Q ⟨hA,ρ,g,p⟩=>by
 dsimp only at p;cases e:Fa ρ i with
 |ok d=>
  rw[e]at p;obtain⟨v,q,r⟩:=g.sh i d (fQ e);exact⟨v,q,p v H (AN.refl H) r⟩
 |exn x=>exact(dY e).elim
 |bad=>rw[e]at p;exact p.elim
theorem pR(h:PE X a (G6 i)):ST X CL W a (fun ρ=>Gd ρ i):=fun A=>PE.weak h fun σ H Q ⟨hA,ρ,g,p⟩=>by
 dsimp only at p;cases e:Gd ρ i with
 |ok d=>
  rw[e]at p;obtain⟨o,e⟩:=T3 e;cases o with
  |false=>
   obtain⟨v,q,r⟩:=g.sh i d e;exact⟨v,q,p v H (AN.refl H) (.inl r)⟩
  |true=>
   obtain⟨x,xs,ds,q,rfl,ha,hh,r⟩:=g.ow i d e;exact⟨_,q,p _ H (AN.refl H) (.inr ⟨x,xs,ds,rfl,rfl,hh,r⟩)⟩
 |exn x=>exact(Tx e).elim
 |bad=>rw[e]at p;exact p.elim
theorem op2(h:AOk H A/\∃ ρ,Good X.K CL A ρ σ H/\Bt Rq W H ((fa ρ).bind fun x=>(fb ρ).bind fun y=>g x y) Q):AOk H A/\∃ ρ,Good X.K CL A ρ σ H/\Bt (fun H=>Dd X.K CL H A) W H (fa ρ) (fun x H1=>AOk H1 A/\∃ ρ,Good X.K CL A ρ σ H1/\Bt (fun H=>Dd X.K CL H A) W H1 (fb ρ) (fun y H2=>AOk H2 A/\∃ dx dy,Dd X.K CL H2 A x dx/\Dd X.K CL H2 A y dy/\Bt Rq W H2 (g dx dy) Q)):=by
 obtain⟨hA,ρ,gd,p⟩:=h;refine⟨hA,ρ,gd,Bt.bind p fun dx x H1 _ s1 r1 p1=>⟨hA.same s1,ρ,gd.same s1,Bt.bind p1 fun dy y H2 _ s2 r2 p2=>⟨(hA.same s1).same s2,dx,dy,r1.same s2,r2,p2⟩⟩⟩
theorem Vm{op:HH}(ho:OpD X CL W (Ct op) g)(ha:ST X CL W a fa)(hb:ST X CL W b fb):SE X CL W (.BinOp a op b pos) (fun ρ=>(fa ρ).bind fun x=>(fb ρ).bind fun y=>g x y):=
 fun A=>PE.weak (VZ (ho A) (ha A) (hb A)) fun σ H Q h=>op2 h
theorem oS(ho:OpD X CL W (CZ op) g)(ha:ST X CL W a fa)(hb:ST X CL W b fb)(hm:He op b=Ad):SE X CL W (.Compare a [op] [b] pos) (fun ρ=>(fa ρ).bind fun x=>(fb ρ).bind fun y=>g x y):=
 fun A=>PE.weak (iP (ho A) (ha A) (hb A) hm) fun σ H Q h=>op2 h
theorem Dd.int_of{i:Ae}(h:Dd K CL H A v (.int i)):v=.int i:=by
 rcases h with h|⟨_,_,_,_,e,_⟩
 ·exact h
 ·cases e
theorem Dd.str_of{i:Ak}(h:Dd K CL H A v (.str i)):v=.str i:=by
 rcases h with h|⟨_,_,_,_,e,_⟩
 ·exact h
 ·cases e
theorem Dd.bl_of{i:Ao}(h:Dd K CL H A v (.bl i)):v=.bl i:=by
 rcases h with h|⟨_,_,_,_,e,_⟩
 ·exact h
 ·cases e
theorem Dd.non_of(h:Dd K CL H A v .non):v=.non:=by
 rcases h with h|⟨_,_,_,_,e,_⟩
 ·exact h
 ·cases e
theorem Dd.lst_of{ds:Ac D}(h:Dd K CL H A v (.lst ds)):∃ a xs,v=.ref a/\SqL K H a xs/\Reps K CL H A xs ds:=by
 rcases h with ⟨a,xs,e,_,s,r⟩|⟨a,xs,es,rfl,e,s,r⟩
 ·exact⟨a,xs,e,s,r⟩
 ·cases e;exact⟨a,xs,rfl,SqL.of s,r⟩
theorem Dd.tup_of{ds:Ac D}(h:Dd K CL H A v (.tup ds)):∃ a xs,v=.ref a/\(¬ A a\/KT K a xs)/\SqT K H a xs/\Reps K CL H A xs ds:=by
 rcases h with ⟨a,xs,e,n,s,r⟩|⟨_,_,_,_,e,_⟩
 ·exact⟨a,xs,e,n,s,r⟩
 ·cases e
theorem gZ{i j:Ae}(h:DL i j=Aa):NT i j:=by
 unfold DL at h;simp only[Dl,An,AJ]at h;unfold NT;omega
theorem UM{a:Ae}(h:a.natAbs<2 ^ 2000):XH a<=2 ^ 20:=by
 unfold XH;split
 ·omega
 ·rename_i hz;have h0:a.natAbs≠0:=by intro z;exact hz (by rw[Int.natAbs_eq_zero.mp z];rfl)
  have:=(Nat.log2_lt h0).mpr h;omega
theorem gY{i j:Ae}(h:(DL i j||E8 i j)=Aa):LF i j:=by
 rcases Bool.or_eq_true_iff.mp h with h|h
 ·exact(gZ h).ok
 ·unfold E8 at h;rw[An,AJ,AJ]at h;exact .of_bits (UM h.1) (UM h.2)
theorem iY:OpR X (Ct .Mult) (rI LF fun i j=>.int (i*j)):=opI fun _ _ _ _ _ _ _ hc q=>mul_int q hc
theorem IV(h:Du n=Aa):n<=sizeLine:=by
 unfold Du at h;rw[CO];have:=EX h;omega
theorem Uo{p:Al}{ds:Ac D}(hA:AOk H A)(hp:H p=Af)(r:Reps K CL H A xs ds):Rep K CL (upd H p (.lst xs)) A (.ref p) (.lst ds):=
 ⟨p,xs,rfl,.inl (hA.new hp),SqL.of HJ,r.same fun b o e=>by rw[Di (Gb e hp)];exact e⟩
theorem KM{p:Al}{ds:Ac D}(hA:AOk H A)(hp:H p=Af)(r:Reps K CL H A xs ds):Rep K CL (upd H p (.tup xs)) A (.ref p) (.tup ds):=
 ⟨p,xs,rfl,.inl (hA.new hp),SqT.of HJ,r.same fun b o e=>by rw[Di (Gb e hp)];exact e⟩
theorem FV{p:Al}(h:H p=Af)(o:HO):AN H (upd H p o):=fun b u q=>by rw[Di (Gb q h)];exact q
def vW(K:Fg):R2:=fun x y H Q=>∃ l b xs zs,x=.ref l/\y=.ref b/\SqL K H l xs/\SqL K H b zs/\xs.length+zs.length<=sizeLine/\∀ p,H p=Af->Q (.ref p) (upd H p (.lst (xs++zs)))
end
section
variable{X:Cx}{CL:ClA}{W:XW}
theorem Ul:OpR X (Ct .Add) (vW X.K):=by
 intro pI s σ H x y v u Q I rx ry h;obtain⟨l,b,xs,zs,rfl,rfl,hH,hB,hz,q⟩:=h;cases rx;cases ry;obtain⟨its,r,⟨o,n,e,c,dd,dt⟩,z⟩:=I.list hH;obtain⟨its2,r2,⟨o2,n2,e2,c2,dd2,dt2⟩,z2⟩:=I.list hB;have hl:=r.length;have hl2:=r2.length;obtain⟨cls,dd0,data,sl⟩:=o;obtain⟨cls2,dd02,data2,sl2⟩:=o2;simp only at c dd dt c2 dd2 dt2;subst c dd dt c2 dd2 dt2;have ea:its.toArray++its2.toArray=(its++its2).toArray:=by simp
 refine Jt ⟨_,e,rfl⟩ ⟨_,e2,rfl⟩ noFill_list_add seq_list_add PySem.F.slot_list_add PySem.F.entry_list_add (PySem.F.args_list_add_2 _ _) (list_addW l b its.toArray its2.toArray n n2 Af Af sl sl2 (by simp;omega)) ⟨e,e2,?_⟩
 rw[ea];exact⟨.ref _,_,I.lnew (t':=s.toks) (r.append r2) (by rw[Cw];omega),rfl,q _ I.fresh⟩
theorem Uk:OpD X CL W (Ct .Add) (CM .Add):=by
 intro A pI s σ H x y v u Q I rx ry ⟨hA,dx,dy,hx,hy,p⟩;cases dx with
 |int i=>
  cases dy with
  |int j=>
   have ex:=hx.int_of;have ey:=hy.int_of
   subst ex ey;exact qX pI s σ H _ _ v u Q I rx ry ⟨i,j,rfl,rfl,p _ H (AN.refl H) rfl⟩
  |_=>exact p.elim
 |str i=>
  cases dy with
  |str j=>
   have ex:=hx.str_of;have ey:=hy.str_of
   subst ex ey;simp only[tW]at p;split at p
   ·rename_i h;exact Z8 pI s σ H _ _ v u Q I rx ry ⟨i,j,rfl,rfl,IV h,p _ H (AN.refl H) rfl⟩
   ·exact p.elim
  |_=>exact p.elim
 |lst ds=>
  cases dy with
  |lst es=>
   obtain⟨a,xs,rfl,s1,r1⟩:=hx.lst_of;obtain⟨b,ys,rfl,s2,r2⟩:=hy.lst_of;simp only[NC]at p;split at p
   ·rename_i h;refine Ul pI s σ H _ _ v u Q I rx ry ⟨a,b,xs,ys,rfl,rfl,s1,s2,by rw[r1.length,r2.length];exact IV h,fun q hq=>?_⟩
    exact p _ _ (FV hq _) (Uo hA hq (r1.append r2))
   ·exact p.elim
  |_=>exact p.elim
 |tup ds=>
  cases dy with
  |tup es=>
   obtain⟨a,xs,rfl,na1,s1,r1⟩:=hx.tup_of;obtain⟨b,ys,rfl,_,s2,r2⟩:=hy.tup_of;simp only[tV]at p;split at p
   ·rename_i h;simp only[An]at h;refine gU pI s σ H _ _ v u Q I rx ry ⟨a,b,xs,ys,rfl,rfl,s1,s2,?_,by rw[r1.length,r2.length];exact IV h.2,fun hy0=>?_,fun _ q hq=>?_⟩
    ·rintro rfl;cases ds with
     |nil=>cases h.1
     |cons _ _=>exact r1.elim
    ·subst hy0;cases es with
     |nil=>rw[Dz]at p;exact p _ H (AN.refl H) ⟨a,xs,rfl,na1,s1,r1⟩
     |cons _ _=>exact r2.elim
    ·exact p _ _ (FV hq _) (KM hA hq (r1.append r2))
   ·exact p.elim
  |_=>exact p.elim
 |_=>exact p.elim
theorem Nk{op:HH}{C:Ae->Ae->Prop}{g:Ae->Ae->Ae}(ho:OpR X (Ct op) (rI C fun i j=>.int (g i j)))(hg:∀ dx dy,(∃ i j,dx=.int i/\dy=.int j/\((C i j/\CM op dx dy=.ok (.int (g i j)))\/CM op dx dy=.bad))\/CM op dx dy=.bad):OpD X CL W (Ct op) (CM op):=by
 intro A pI s σ H x y v u Q I rx ry ⟨hA,dx,dy,hx,hy,p⟩;rcases hg dx dy with ⟨i,j,rfl,rfl,⟨c,e⟩|e⟩|e
 ·have ex:=hx.int_of;have ey:=hy.int_of
  subst ex ey;rw[e]at p;exact ho pI s σ H _ _ v u Q I rx ry ⟨i,j,rfl,rfl,c,p _ H (AN.refl H) rfl⟩
 ·rw[e]at p;exact p.elim
 ·rw[e]at p;exact p.elim
theorem iT:OpD X CL W (Ct .Sub) (CM .Sub):=by
 intro A pI s σ H x y v u Q I rx ry ⟨hA,dx,dy,hx,hy,p⟩;cases dx with
 |int i=>
  cases dy with
  |int j=>
   have ex:=hx.int_of;have ey:=hy.int_of
   subst ex ey;exact qT pI s σ H _ _ v u Q I rx ry ⟨i,j,rfl,rfl,p _ H (AN.refl H) rfl⟩
  |_=>exact p.elim
 |_=>exact p.elim
theorem iV:OpD X CL W (Ct .Mult) (CM .Mult):=Nk iY fun dx dy=>by
 cases dx with
 |int i=>
  cases dy with
  |int j=>
   refine .inl ⟨i,j,rfl,rfl,?_⟩;rw[qA];split
   ·rename_i h;exact .inl ⟨gY h,rfl⟩
   ·exact .inr rfl
  |_=>exact .inr rfl
 |_=>exact .inr rfl
theorem dM:OpD X CL W (Ct .FloorDiv) (CM .FloorDiv):=Nk gS fun dx dy=>by
 cases dx with
 |int i=>
  cases dy with
  |int j=>
   refine .inl ⟨i,j,rfl,rfl,?_⟩;rw[kK];split
   ·rename_i h;exact .inl ⟨h,rfl⟩
   ·exact .inr rfl
  |_=>exact .inr rfl
 |_=>exact .inr rfl
theorem iW:OpD X CL W (Ct .Mod) (CM .Mod):=Nk qV fun dx dy=>by
 cases dx with
 |int i=>
  cases dy with
  |int j=>
   refine .inl ⟨i,j,rfl,rfl,?_⟩;rw[qB];split
   ·rename_i h;exact .inl ⟨h,rfl⟩
   ·exact .inr rfl
  |_=>exact .inr rfl
 |_=>exact .inr rfl
theorem iU:OpD X CL W (Ct .Pow) (CM .Pow):=Nk qU fun dx dy=>by
 cases dx with
 |int i=>
  cases dy with
  |int j=>
   refine .inl ⟨i,j,rfl,rfl,?_⟩;rw[rY];split
   ·rename_i h;exact .inl ⟨⟨h.1.1,h.1.2,by omega⟩,rfl⟩
   ·exact .inr rfl
  |_=>exact .inr rfl
 |_=>exact .inr rfl
theorem Uj(op:HH):OpD X CL W (Ct op) (CM op):=by
 cases op with
 |Add=>exact Uk
 |Sub=>exact iT
 |Mult=>exact iV
 |FloorDiv=>exact dM
 |Mod=>exact iW
 |Pow=>exact iU
 |_=>
  intro A pI s σ H x y v u Q I rx ry ⟨hA,dx,dy,hx,hy,p⟩;cases dx<;>cases dy<;>exact p.elim
noncomputable abbrev A0:Al->Prop:=fun _=>BN
theorem Dd.plain(h:Dd K CL H A v d):Rep K CL H A0 v d:=by
 rcases h with h|⟨a,xs,ds,rfl,rfl,e,r⟩
 ·exact Rep.sub (fun _ z=>z.elim) d h
 ·exact⟨a,xs,rfl,.inl fun z=>z.elim,SqL.of e,Reps.sub (fun _ z=>z.elim) ds r⟩
mutual
theorem eO:∀(n:Ag)(d:D),flD n d=Aa->eqD d d=Aa
 |_,.non,_=>rfl
 |_,.bl b,_=>by simp
 |_,.int i,_=>by simp
 |_,.str x,_=>by simp
 |n+1,.tup ds,h=>by
  show eqDs ds ds=Aa;exact eqDs_refl n ds h
 |n+1,.lst ds,h=>by
  show eqDs ds ds=Aa;exact eqDs_refl n ds h
 |0,.tup ds,h=>by cases h
 |0,.lst ds,h=>by cases h
 |n,.obj _ _,h=>by cases n<;>cases h
 |n,.exc _ _,h=>by cases n<;>cases h
 |n,.dic _,h=>by cases n<;>cases h
theorem eqDs_refl:∀(n:Ag)(ds:Ac D),ds.all (flD n)=Aa->eqDs ds ds=Aa
 |_,[],_=>rfl
 |n,d::ds,h=>by
  simp only[EL,An]at h;simp only[O6,An];exact⟨eO n d h.1,eqDs_refl n ds h.2⟩
end
theorem Su{ys:Ac V}(I:Inv X pI σ H s)(h:SqL X.K H a xs)(h':SqT X.K H a ys):BN:=by
 obtain⟨its,r,⟨o,n,e,c,_,_⟩,_⟩:=I.list h;obtain⟨its',r',⟨o',e',c',_⟩,_⟩:=I.tuple h';rw[e]at e';cases e';rw[c]at c'
 injection c' with z
 exact absurd z (by decide)
mutual
theorem Ni{pI:Pn}{σ:L2.St}{H:Hp}{s:Ap}(I:Inv X pI σ H s):∀(n:Ag)(d e:D){v:V},flD n d=Aa->flD n e=Aa->Rep X.K CL H A0 v d->Rep X.K CL H A0 v e->d=e
 |n,.tup ds,e,v,hd,he,r,q=>by
  obtain⟨a,xs,rfl,_,s1,r1⟩:=r;cases e with
  |tup es=>
   obtain⟨b,ys,e,_,s2,r2⟩:=q;cases e;have z:=I.tuple_inj s1 s2;subst z;cases n with
   |zero=>cases hd
   |succ n=>rw[reps_inj I n ds es hd he r1 r2]
  |lst es=>
   obtain⟨b,ys,e,_,s2,r2⟩:=q;cases e;exact(Su I s2 s1).elim
  |obj=>cases n<;>cases he
  |exc=>cases n<;>cases he
  |dic=>cases n<;>cases he
  |_=>cases q
 |n,.lst ds,e,v,hd,he,r,q=>by
  obtain⟨a,xs,rfl,_,s1,r1⟩:=r;cases e with
  |lst es=>
   obtain⟨b,ys,e,_,s2,r2⟩:=q;cases e;have z:=I.list_inj s1 s2;subst z;cases n with
   |zero=>cases hd
   |succ n=>rw[reps_inj I n ds es hd he r1 r2]
  |tup es=>
   obtain⟨b,ys,e,_,s2,r2⟩:=q;cases e;exact(Su I s1 s2).elim
  |obj=>cases n<;>cases he
  |exc=>cases n<;>cases he
  |dic=>cases n<;>cases he
  |_=>cases q
 |n,.obj _ _,e,v,hd,he,r,q=>by cases n<;>cases hd
 |n,.exc _ _,e,v,hd,he,r,q=>by cases n<;>cases hd
 |n,.dic _,e,v,hd,he,r,q=>by cases n<;>cases hd
 |n,.non,e,v,hd,he,r,q=>by
  cases r;cases e with
  |tup=>obtain⟨_,_,z,_⟩:=q;cases z
  |lst=>obtain⟨_,_,z,_⟩:=q;cases z
  |obj=>cases n<;>cases he
  |exc=>cases n<;>cases he
  |dic=>cases n<;>cases he
  |_=>cases q<;>rfl
 |n,.bl b,e,v,hd,he,r,q=>by
  cases r;cases e with
  |tup=>obtain⟨_,_,z,_⟩:=q;cases z
  |lst=>obtain⟨_,_,z,_⟩:=q;cases z
  |obj=>cases n<;>cases he
  |exc=>cases n<;>cases he
  |dic=>cases n<;>cases he
  |_=>cases q<;>rfl
 |n,.int b,e,v,hd,he,r,q=>by
  cases r;cases e with
  |tup=>obtain⟨_,_,z,_⟩:=q;cases z
  |lst=>obtain⟨_,_,z,_⟩:=q;cases z
  |obj=>cases n<;>cases he
  |exc=>cases n<;>cases he
  |dic=>cases n<;>cases he
  |_=>cases q<;>rfl
 |n,.str b,e,v,hd,he,r,q=>by
  cases r;cases e with
  |tup=>obtain⟨_,_,z,_⟩:=q;cases z
  |lst=>obtain⟨_,_,z,_⟩:=q;cases z
  |obj=>cases n<;>cases he
  |exc=>cases n<;>cases he
  |dic=>cases n<;>cases he
  |_=>cases q<;>rfl
theorem reps_inj{pI:Pn}{σ:L2.St}{H:Hp}{s:Ap}(I:Inv X pI σ H s):∀(n:Ag)(ds es:Ac D){xs:Ac V},ds.all (flD n)=Aa->es.all (flD n)=Aa->Reps X.K CL H A0 xs ds->Reps X.K CL H A0 xs es->ds=es
 |_,[],[],_,_,_,_,_=>rfl
 |n,d::ds,e::es,x::xs,hd,he,r,q=>by
  simp only[EL,An]at hd he;rw[Ni I n d e hd.1 he.1 r.1 q.1,reps_inj I n ds es hd.2 he.2 r.2 q.2]
 |_,[],_::_,[],_,_,_,q=>q.elim
 |_,[],_::_,_::_,_,_,r,_=>r.elim
 |_,_::_,[],[],_,_,r,_=>r.elim
 |_,_::_,[],_::_,_,_,_,q=>q.elim
 |_,_::_,_::_,[],_,_,r,_=>r.elim
end
theorem L0:∀{ds es:Ac D},ds.length≠es.length->eqDs ds es=Ad
 |[],[],h=>absurd rfl h
 |[],_::_,_=>rfl
 |_::_,[],_=>rfl
 |d::ds,e::es,h=>by
  simp only[O6,L0 (ds:=ds) (es:=es) (by simpa using h),FM]
theorem Sh(n:Ag)(f:Ag->Ao):(Bk (n+1)).all f=(f 0&&(Bk n).all fun j=>f (j+1)):=by
 rw[Xl,EL,WX];rfl
theorem L4:∀{ds es:Ac D},ds.length=es.length->eqDs ds es=(Bk ds.length).all fun j=>eqD (ds.getD j .non) (es.getD j .non)
 |[],[],_=>rfl
 |d::ds,e::es,h=>by
  rw[O6,L4 (ds:=ds) (es:=es) (by simpa using h),Ck,Sh]
  rfl
 |[],_::_,h=>by cases h
 |_::_,[],h=>by cases h
theorem J2{ds:Ac D}{its:Ac Ai}(r:Reps K CL H A0 xs ds)(rv:Br xs its)(h:j<its.length):∃ x,Rep K CL H A0 x (ds.getD j .non)/\BY x its[j]:=by
 have e1:=rv.length;have e2:=r.length;have hd:ds[j]?=Ab (ds.getD j .non):=by
  rw[A8,AU (by omega)];rfl
 obtain⟨x,hx,q⟩:=r.get hd;obtain⟨u,hu,ru⟩:=rv.get hx;refine⟨x,q,?_⟩;rw[AU h]at hu;cases hu;exact ru
theorem JX{ds:Ac D}(h:ds.all (flD n)=Aa)(j:Ag):flD n (ds.getD j .non)=Aa:=by
 rw[A8];cases e:ds[j]? with
 |none=>cases n<;>rfl
 |some d=>exact List.all_eq_true.mp h d (DA e)
def C3(B:Bx)(s:Ap)(u t:Ai)(k:Ao):Prop:=Kl B s u t k/\Gw B s u t k/\Jn B s u t (!k)
section
variable{B:Bx}{s:Ap}
open SeqAt
theorem xS:C3 B s .none .none Aa:=⟨RcAt.none_none,EqAt.same _,RcNeAt.none_none⟩
theorem wN(a b:Ao):C3 B s (.bool a) (.bool b) (a==b):=⟨RcAt.bool_bool _ _,EqAt.bool_bool _ _,RcNeAt.bool_bool _ _⟩
theorem xV(b:Ao):C3 B s .none (.bool b) Ad:=⟨RcAt.none_bool _,EqAt.none_bool _,RcNeAt.none_bool _⟩
theorem wK(b:Ao):C3 B s (.bool b) .none Ad:=⟨RcAt.bool_none _,EqAt.bool_none _,RcNeAt.bool_none _⟩
theorem wG(a:Ae)(t:DD)(b:Ae)(u:DD):C3 B s (.int a t) (.int b u) (a==b):=⟨RcAt.int_int _ _ _ _,EqAt.int_int _ _ _ _,RcNeAt.int_int _ _ _ _⟩
theorem xL(a:Ak)(t:DD)(b:Ak)(u:DD):C3 B s (.str a t) (.str b u) (a==b):=⟨RcAt.str_str _ _ _ _,EqAt.str_str _ _ _ _,RcNeAt.str_str _ _ _ _⟩
theorem yC(a:Ae)(t:DD)(b:Ak)(u:DD):C3 B s (.int a t) (.str b u) Ad:=⟨RcAt.int_str _ _ _ _,EqAt.int_str _ _ _ _,RcNeAt.int_str _ _ _ _⟩
theorem xO(a:Ak)(t:DD)(b:Ae)(u:DD):C3 B s (.str a t) (.int b u) Ad:=⟨RcAt.str_int _ _ _ _,EqAt.str_int _ _ _ _,RcNeAt.str_int _ _ _ _⟩
theorem xU(b:Ae)(u:DD):C3 B s .none (.int b u) Ad:=⟨RcAt.none_int _ _,EqAt.none_int _ _,RcNeAt.none_int _ _⟩
theorem wD(b:Ae)(u:DD):C3 B s (.int b u) .none Ad:=⟨RcAt.int_none _ _,EqAt.int_none _ _,RcNeAt.int_none _ _⟩
theorem xR(b:Ak)(u:DD):C3 B s .none (.str b u) Ad:=⟨RcAt.none_str _ _,EqAt.none_str _ _,RcNeAt.none_str _ _⟩
theorem xM(b:Ak)(u:DD):C3 B s (.str b u) .none Ad:=⟨RcAt.str_none _ _,EqAt.str_none _ _,RcNeAt.str_none _ _⟩
theorem wM(a:Ao)(b:Ae)(u:DD):C3 B s (.bool a) (.int b u) (b2i a==b):=⟨RcAt.bool_int _ _ _,EqAt.bool_int _ _ _,RcNeAt.bool_int _ _ _⟩
theorem wH(a:Ao)(b:Ae)(u:DD):C3 B s (.int b u) (.bool a) (b==b2i a):=⟨RcAt.int_bool _ _ _,EqAt.int_bool _ _ _,RcNeAt.int_bool _ _ _⟩
theorem wJ(a:Ao)(b:Ak)(u:DD):C3 B s (.bool a) (.str b u) Ad:=⟨RcAt.bool_str _ _ _,EqAt.bool_str _ _ _,RcNeAt.bool_str _ _ _⟩
theorem xP(a:Ao)(b:Ak)(u:DD):C3 B s (.str b u) (.bool a) Ad:=⟨RcAt.str_bool _ _ _,EqAt.str_bool _ _ _,RcNeAt.str_bool _ _ _⟩
variable{l:Al}{items:AR Ai}
theorem xY(h:s.heap.IsList l items)(hu:B.units<CG):C3 B s (.ref l) .none Ad:=⟨RcAt.list_none h hu,EqAt.list_none h hu,RcNeAt.list_none h hu⟩
theorem xT(h:s.heap.IsList l items)(hu:B.units<CG):C3 B s .none (.ref l) Ad:=⟨RcAt.none_list h hu,EqAt.none_list h hu,RcNeAt.none_list h hu⟩
theorem yA(b:Ao)(h:s.heap.IsList l items)(hu:B.units<CG):C3 B s (.ref l) (.bool b) Ad:=⟨RcAt.list_bool b h hu,EqAt.list_bool b h hu,RcNeAt.list_bool b h hu⟩
theorem wL(b:Ao)(h:s.heap.IsList l items)(hu:B.units<CG):C3 B s (.bool b) (.ref l) Ad:=⟨RcAt.bool_list b h hu,EqAt.bool_list b h hu,RcNeAt.bool_list b h hu⟩
theorem xZ(b:Ae)(u:DD)(h:s.heap.IsList l items)(hu:B.units<CG):C3 B s (.ref l) (.int b u) Ad:=⟨RcAt.list_int b u h hu,EqAt.list_int b u h hu,RcNeAt.list_int b u h hu⟩
theorem wF(b:Ae)(u:DD)(h:s.heap.IsList l items)(hu:B.units<CG):C3 B s (.int b u) (.ref l) Ad:=⟨RcAt.int_list b u h hu,EqAt.int_list b u h hu,RcNeAt.int_list b u h hu⟩
theorem xX(b:Ak)(u:DD)(h:s.heap.IsList l items)(hu:B.units<CG):C3 B s (.ref l) (.str b u) Ad:=⟨RcAt.list_str b u h hu,EqAt.list_str b u h hu,RcNeAt.list_str b u h hu⟩
theorem xN(b:Ak)(u:DD)(h:s.heap.IsList l items)(hu:B.units<CG):C3 B s (.str b u) (.ref l) Ad:=⟨RcAt.str_list b u h hu,EqAt.str_list b u h hu,RcNeAt.str_list b u h hu⟩
theorem xG(h:s.heap.IsTuple l items)(hu:B.units<CG):C3 B s (.ref l) .none Ad:=⟨RcAt.tuple_none h hu,EqAt.tuple_none h hu,RcNeAt.tuple_none h hu⟩
theorem xQ(h:s.heap.IsTuple l items)(hu:B.units<CG):C3 B s .none (.ref l) Ad:=⟨RcAt.none_tuple h hu,EqAt.none_tuple h hu,RcNeAt.none_tuple h hu⟩
theorem xJ(b:Ao)(h:s.heap.IsTuple l items)(hu:B.units<CG):C3 B s (.ref l) (.bool b) Ad:=⟨RcAt.tuple_bool b h hu,EqAt.tuple_bool b h hu,RcNeAt.tuple_bool b h hu⟩
theorem wI(b:Ao)(h:s.heap.IsTuple l items)(hu:B.units<CG):C3 B s (.bool b) (.ref l) Ad:=⟨RcAt.bool_tuple b h hu,EqAt.bool_tuple b h hu,RcNeAt.bool_tuple b h hu⟩
theorem xI(b:Ae)(u:DD)(h:s.heap.IsTuple l items)(hu:B.units<CG):C3 B s (.ref l) (.int b u) Ad:=⟨RcAt.tuple_int b u h hu,EqAt.tuple_int b u h hu,RcNeAt.tuple_int b u h hu⟩
theorem yB(b:Ae)(u:DD)(h:s.heap.IsTuple l items)(hu:B.units<CG):C3 B s (.int b u) (.ref l) Ad:=⟨RcAt.int_tuple b u h hu,EqAt.int_tuple b u h hu,RcNeAt.int_tuple b u h hu⟩
theorem xF(b:Ak)(u:DD)(h:s.heap.IsTuple l items)(hu:B.units<CG):C3 B s (.ref l) (.str b u) Ad:=⟨RcAt.tuple_str b u h hu,EqAt.tuple_str b u h hu,RcNeAt.tuple_str b u h hu⟩
theorem xK(b:Ak)(u:DD)(h:s.heap.IsTuple l items)(hu:B.units<CG):C3 B s (.str b u) (.ref l) Ad:=⟨RcAt.str_tuple b u h hu,EqAt.str_tuple b u h hu,RcNeAt.str_tuple b u h hu⟩
theorem xW(h:s.heap.IsList l items)(h2:s.heap.IsTuple b items2)(hu:B.units<CG):C3 B s (.ref l) (.ref b) Ad:=⟨RcAt.list_tuple h h2 hu,EqAt.list_tuple h h2 hu,RcNeAt.list_tuple h h2 hu⟩
theorem xH(h:s.heap.IsTuple l items)(h2:s.heap.IsList b items2)(hu:B.units<CG):C3 B s (.ref l) (.ref b) Ad:=⟨RcAt.tuple_list h h2 hu,EqAt.tuple_list h h2 hu,RcNeAt.tuple_list h h2 hu⟩
end
end
section
variable{X:Cx}{CL:ClA}{W:XW}
theorem Iw(x:PlainL h a its):h.IsList a its:=let ⟨o,n,e,c,_,d⟩:=x;⟨o,e,c,n,d⟩
def Zw(X:Cx)(CL:ClA)(H:Hp)(s:Ap)(d:D)(u:Ai):Prop:=match d with
  |.non=>u=.none
  |.bl b=>u=.bool b
  |.int i=>∃ t,u=.int i t
  |.str x=>∃ t,u=.str x t
  |.tup ds=>∃ a xs its,u=.ref a/\Reps X.K CL H A0 xs ds/\Br xs its/\s.heap.IsTuple a its.toArray
  |.lst ds=>∃ a xs its,u=.ref a/\Reps X.K CL H A0 xs ds/\Br xs its/\s.heap.IsList a its.toArray
  |_=>BN
theorem Uw(I:Inv X pI σ H s)(hd:flD n d=Aa)(r:Rep X.K CL H A0 v d)(q:BY v u):Zw X CL H s d u:=by
 cases d with
 |non=>cases r;exact q
 |bl b=>cases r;exact q
 |int b=>cases r;exact q
 |str b=>cases r;exact q
 |tup ds=>
  obtain⟨a,xs,rfl,_,sq,r⟩:=r;obtain⟨its,rv,p,_⟩:=I.tuple sq;cases q;exact⟨a,xs,its,rfl,r,rv,p⟩
 |lst ds=>
  obtain⟨a,xs,rfl,_,sq,r⟩:=r;obtain⟨its,rv,p,_⟩:=I.list sq;cases q;exact⟨a,xs,its,rfl,r,rv,Iw p⟩
 |obj=>cases n<;>cases hd
 |exc=>cases n<;>cases hd
 |dic=>cases n<;>cases hd
theorem jF{B:Bx}{its:Ac Ai}{ds es:Ac D}(hl:s.heap.IsList l its.toArray)(hb:s.heap.IsList b its2.toArray)(e1:its.length=ds.length)(e2:its2.length=es.length)(hu:B.units<CG)(hs:l=b->eqDs ds es=Aa)(he:∀ j (h1:j<its.length) (h2:j<its2.length),Gw B.in1 s its[j] its2[j] (eqD (ds.getD j .non) (es.getD j .non))):C3 B s (.ref l) (.ref b) (eqDs ds es):=by
 have rc:Kl B s (.ref l) (.ref b) (eqDs ds es):=by
  by_cases hz:its.length=its2.length
  ·have q:=SeqAt.RcAt.lists (e:=fun j=>eqD (ds.getD j .non) (es.getD j .non)) hl hb (by simpa using hz) hu (fun j h1 h2=>by simpa using he j (by simpa using h1) (by simpa using h2))
   rw[L4 (by omega)]
   have e:its.toArray.size=ds.length:=by simpa using e1
   rw[e]at q;exact q
  ·rw[L0 (by omega)]
   exact SeqAt.RcAt.lists_lengths hl hb (by simpa using hz) hu
 have ne:Jn B s (.ref l) (.ref b) (!eqDs ds es):=by
  by_cases hz:its.length=its2.length
  ·have q:=SeqAt.RcNeAt.lists (e:=fun j=>eqD (ds.getD j .non) (es.getD j .non)) hl hb (by simpa using hz) hu (fun j h1 h2=>by simpa using he j (by simpa using h1) (by simpa using h2))
   rw[L4 (by omega)]
   have e:its.toArray.size=ds.length:=by simpa using e1
   rw[e]at q;exact q
  ·rw[L0 (by omega)]
   exact SeqAt.RcNeAt.lists_lengths hl hb (by simpa using hz) hu
 refine⟨rc,?_,ne⟩;by_cases hlb:l=b
 ·rw[hs hlb,hlb];exact Yl _
 ·exact Yk hlb rc
theorem jE{B:Bx}{its:Ac Ai}{ds es:Ac D}(hl:s.heap.IsTuple l its.toArray)(hb:s.heap.IsTuple b its2.toArray)(e1:its.length=ds.length)(e2:its2.length=es.length)(hu:B.units<CG)(hs:l=b->eqDs ds es=Aa)(he:∀ j (h1:j<its.length) (h2:j<its2.length),Gw B.in1 s its[j] its2[j] (eqD (ds.getD j .non) (es.getD j .non))):C3 B s (.ref l) (.ref b) (eqDs ds es):=by
 have rc:Kl B s (.ref l) (.ref b) (eqDs ds es):=by
  have q:=SeqAt.RcAt.tuples (e:=fun j=>eqD (ds.getD j .non) (es.getD j .non)) hl hb hu (fun j h1 h2=>by simpa using he j (by simpa using h1) (by simpa using h2))
  have e:its.toArray.size=ds.length:=by simpa using e1
  have e':its2.toArray.size=es.length:=by simpa using e2
  rw[e,e']at q;by_cases hz:ds.length=es.length
  ·rw[L4 hz];rw[hz,Xv,DM,Jg]at q;rw[hz];exact q
  ·rw[L0 hz];rw[DH.mpr hz,FM]at q;exact q
 have ne:Jn B s (.ref l) (.ref b) (!eqDs ds es):=by
  have q:=SeqAt.RcNeAt.tuples (e:=fun j=>eqD (ds.getD j .non) (es.getD j .non)) hl hb hu (fun j h1 h2=>by simpa using he j (by simpa using h1) (by simpa using h2))
  have e:its.toArray.size=ds.length:=by simpa using e1
  have e':its2.toArray.size=es.length:=by simpa using e2
  rw[e,e']at q;by_cases hz:ds.length=es.length
  ·rw[L4 hz];rw[hz,Xv,DM,Jg]at q;rw[hz];exact q
  ·rw[L0 hz];rw[DH.mpr hz,FM]at q;exact q
 refine⟨rc,?_,ne⟩;by_cases hlb:l=b
 ·rw[hs hlb,hlb];exact Yl _
 ·exact Yk hlb rc
theorem Mf{pI:Pn}{σ:L2.St}{H:Hp}{s:Ap}(I:Inv X pI σ H s):∀(n:Ag)(d e:D)(v w':V)(u t:Ai)(B:Bx),flD n d=Aa->flD n e=Aa->Rep X.K CL H A0 v d->Rep X.K CL H A0 w' e->BY v u->BY w' t->B.units+n<CG->C3 B s u t (eqD d e)
  |n,d,e,v,w',u,t,B,hd,he,r,q,rv,rw',hu=>by
    have hu0:B.units<CG:=by omega
    have sd:=Uw I hd r rv;have se:=Uw I he q rw'
    match d,e,sd,se with
    |.non,.non,s1,s2=>cases s1;cases s2;exact xS
    |.non,.bl b,s1,s2=>cases s1;cases s2;exact xV b
    |.non,.int b,s1,s2=>cases s1;obtain⟨_,rfl⟩:=s2;exact xU b _
    |.non,.str b,s1,s2=>cases s1;obtain⟨_,rfl⟩:=s2;exact xR b _
    |.non,.tup es,s1,s2=>cases s1;obtain⟨_,_,_,rfl,_,_,p⟩:=s2;exact xQ p hu0
    |.non,.lst es,s1,s2=>cases s1;obtain⟨_,_,_,rfl,_,_,p⟩:=s2;exact xT p hu0
    |.bl a,.non,s1,s2=>cases s1;cases s2;exact wK a
    |.bl a,.bl b,s1,s2=>cases s1;cases s2;exact wN a b
    |.bl a,.int b,s1,s2=>cases s1;obtain⟨_,rfl⟩:=s2;exact wM a b _
    |.bl a,.str b,s1,s2=>cases s1;obtain⟨_,rfl⟩:=s2;exact wJ a b _
    |.bl a,.tup es,s1,s2=>cases s1;obtain⟨_,_,_,rfl,_,_,p⟩:=s2;exact wI a p hu0
    |.bl a,.lst es,s1,s2=>cases s1;obtain⟨_,_,_,rfl,_,_,p⟩:=s2;exact wL a p hu0
    |.int a,.non,s1,s2=>obtain⟨_,rfl⟩:=s1;cases s2;exact wD a _
    |.int a,.bl b,s1,s2=>obtain⟨_,rfl⟩:=s1;cases s2;exact wH b a _
    |.int a,.int b,s1,s2=>obtain⟨_,rfl⟩:=s1;obtain⟨_,rfl⟩:=s2;exact wG a _ b _
    |.int a,.str b,s1,s2=>obtain⟨_,rfl⟩:=s1;obtain⟨_,rfl⟩:=s2;exact yC a _ b _
    |.int a,.tup es,s1,s2=>obtain⟨_,rfl⟩:=s1;obtain⟨_,_,_,rfl,_,_,p⟩:=s2;exact yB a _ p hu0
    |.int a,.lst es,s1,s2=>obtain⟨_,rfl⟩:=s1;obtain⟨_,_,_,rfl,_,_,p⟩:=s2;exact wF a _ p hu0
    |.str a,.non,s1,s2=>obtain⟨_,rfl⟩:=s1;cases s2;exact xM a _
    |.str a,.bl b,s1,s2=>obtain⟨_,rfl⟩:=s1;cases s2;exact xP b a _
    |.str a,.int b,s1,s2=>obtain⟨_,rfl⟩:=s1;obtain⟨_,rfl⟩:=s2;exact xO a _ b _
    |.str a,.str b,s1,s2=>obtain⟨_,rfl⟩:=s1;obtain⟨_,rfl⟩:=s2;exact xL a _ b _
    |.str a,.tup es,s1,s2=>obtain⟨_,rfl⟩:=s1;obtain⟨_,_,_,rfl,_,_,p⟩:=s2;exact xK a _ p hu0
    |.str a,.lst es,s1,s2=>obtain⟨_,rfl⟩:=s1;obtain⟨_,_,_,rfl,_,_,p⟩:=s2;exact xN a _ p hu0
    |.tup ds,.non,s1,s2=>cases s2;obtain⟨_,_,_,rfl,_,_,p⟩:=s1;exact xG p hu0
    |.tup ds,.bl b,s1,s2=>cases s2;obtain⟨_,_,_,rfl,_,_,p⟩:=s1;exact xJ b p hu0
    |.tup ds,.int b,s1,s2=>obtain⟨_,rfl⟩:=s2;obtain⟨_,_,_,rfl,_,_,p⟩:=s1;exact xI b _ p hu0
    |.tup ds,.str b,s1,s2=>obtain⟨_,rfl⟩:=s2;obtain⟨_,_,_,rfl,_,_,p⟩:=s1;exact xF b _ p hu0
    |.tup ds,.lst es,s1,s2=>obtain⟨_,_,_,rfl,_,_,p⟩:=s1;obtain⟨_,_,_,rfl,_,_,p2⟩:=s2;exact xH p p2 hu0
    |.lst ds,.non,s1,s2=>cases s2;obtain⟨_,_,_,rfl,_,_,p⟩:=s1;exact xY p hu0
    |.lst ds,.bl b,s1,s2=>cases s2;obtain⟨_,_,_,rfl,_,_,p⟩:=s1;exact yA b p hu0
    |.lst ds,.int b,s1,s2=>obtain⟨_,rfl⟩:=s2;obtain⟨_,_,_,rfl,_,_,p⟩:=s1;exact xZ b _ p hu0
    |.lst ds,.str b,s1,s2=>obtain⟨_,rfl⟩:=s2;obtain⟨_,_,_,rfl,_,_,p⟩:=s1;exact xX b _ p hu0
    |.lst ds,.tup es,s1,s2=>obtain⟨_,_,_,rfl,_,_,p⟩:=s1;obtain⟨_,_,_,rfl,_,_,p2⟩:=s2;exact xW p p2 hu0
    |.tup ds,.tup es,s1,s2=>
      match n,hd,he,hu with
      |n+1,hd,he,hu=>
        obtain⟨a,xs,its,rfl,r1,v1,p1⟩:=s1;obtain⟨b,ys,its2,rfl,r2,v2,p2⟩:=s2;have l1:=v1.length;have l2:=r1.length;have l3:=v2.length;have l4:=r2.length
        refine jE p1 p2 (by omega) (by omega) hu0 (fun hab=>?_) fun j h1 h2=>?_
        · have e1:v=.ref a:=BY.inj rv rfl;have e2:w'=.ref b:=BY.inj rw' rfl;subst e1 e2 hab;have z:=Ni I (n+1) _ _ hd he r q
          injection z with z
          rw[z];exact eqDs_refl n es he
        · obtain⟨x,rx,qx⟩:=J2 r1 v1 h1;obtain⟨y,ry,qy⟩:=J2 r2 v2 h2;exact(Mf I n _ _ x y _ _ B.in1 (JX hd j) (JX he j) rx ry qx qy (by show B.units+1+n<CG;omega)).2.1
    |.lst ds,.lst es,s1,s2=>
      match n,hd,he,hu with
      |n+1,hd,he,hu=>
        obtain⟨a,xs,its,rfl,r1,v1,p1⟩:=s1;obtain⟨b,ys,its2,rfl,r2,v2,p2⟩:=s2;have l1:=v1.length;have l2:=r1.length;have l3:=v2.length;have l4:=r2.length
        refine jF p1 p2 (by omega) (by omega) hu0 (fun hab=>?_) fun j h1 h2=>?_
        · have e1:v=.ref a:=BY.inj rv rfl;have e2:w'=.ref b:=BY.inj rw' rfl;subst e1 e2 hab;have z:=Ni I (n+1) _ _ hd he r q
          injection z with z
          rw[z];exact eqDs_refl n es he
        · obtain⟨x,rx,qx⟩:=J2 r1 v1 h1;obtain⟨y,ry,qy⟩:=J2 r2 v2 h2;exact(Mf I n _ _ x y _ _ B.in1 (JX hd j) (JX he j) rx ry qx qy (by show B.units+1+n<CG;omega)).2.1
    |.obj _ _,_,s1,_=>exact s1.elim
    |.exc _ _,_,s1,_=>exact s1.elim
    |.dic _,_,s1,_=>exact s1.elim
    |_,.obj _ _,_,s2=>exact s2.elim
    |_,.exc _ _,_,s2=>exact s2.elim
    |_,.dic _,_,s2=>exact s2.elim
end
section
variable{X:Cx}{CL:ClA}{W:XW}
theorem Nq(I:Inv X pI σ H s){ds:Ac D}{its:Ac Ai}(B:Bx)(hd:flD n d=Aa)(hs:ds.all (flD n)=Aa)(r:Reps X.K CL H A0 xs ds)(rv:Br xs its)(q:Rep X.K CL H A0 v d)(qv:BY v u)(hu:B.units+n<CG):∃ e:Ai->Ao,(∀ y,y∈its.toArray->Gw B s y u (e y))/\its.toArray.any e=ds.any fun y=>eqD y d:=by
 have l1:=rv.length;have l2:=r.length
 have key:∀ y,y∈its->∃ k:Ao,Gw B s y u k/\∀ j (h:j<its.length),its[j]=y->eqD (ds.getD j .non) d=k:=fun y hy=>by
  obtain⟨j,hj,rfl⟩:=GM hy;obtain⟨x,rx,qx⟩:=J2 r rv hj;refine⟨eqD (ds.getD j .non) d,(Mf I n _ _ x v _ _ B (JX hs j) hd rx q qx qv hu).2.1,fun j' hj' e=>?_⟩
  obtain⟨x',rx',qx'⟩:=J2 r rv hj';rw[e]at qx';have z:=BY.inj qx qx';subst z;rw[Ni I n _ _ (JX hs j') (JX hs j) rx' rx]
 have key2:∀ y,∃ k:Ao,y∈its->Gw B s y u k/\∀ j (h:j<its.length),its[j]=y->eqD (ds.getD j .non) d=k:=fun y=>by
  by_cases hy:y∈its
  ·obtain⟨k,hk⟩:=key y hy;exact⟨k,fun _=>hk⟩
  ·exact⟨Aa,fun h=>absurd h hy⟩
 refine⟨fun y=>WM (key2 y),fun y hy=>(EU (key2 y) (by simpa using hy)).1,?_⟩
 rw[Cv];simp only[List.any_toArray,WZ];constructor
 ·rintro⟨y,hy,hk⟩;obtain⟨j,hj,rfl⟩:=GM hy;have z:=(EU (key2 its[j]) hy).2 j hj rfl;rw[hk]at z;refine⟨ds.getD j .non,?_,z⟩;rw[A8,AU (by omega)]
  exact E3 _
 ·rintro⟨y,hy,hk⟩;obtain⟨j,hj,rfl⟩:=GM hy;have hj':j<its.length:=by omega
  refine⟨its[j],E3 _,?_⟩;have z:=(EU (key2 its[j]) (E3 _)).2 j hj' rfl;rw[<-z,A8,AU hj];exact hk
theorem Na{g:Ae->Ae->Ao}(ho:OpR X (CZ op) (rI0 fun i j=>.bl (g i j)))(hg:∀ dx dy,(∃ i j,dx=.int i/\dy=.int j/\Cq op dx dy=.ok (.bl (g i j)))\/Cq op dx dy=.bad):OpD X CL W (CZ op) (Cq op):=by
 intro A pI s σ H x y v u Q I rx ry ⟨hA,dx,dy,hx,hy,p⟩;rcases hg dx dy with ⟨i,j,rfl,rfl,e⟩|e
 ·have ex:=hx.int_of;have ey:=hy.int_of
  subst ex ey;rw[e]at p;exact ho pI s σ H _ _ v u Q I rx ry ⟨i,j,rfl,rfl,p _ H (AN.refl H) rfl⟩
 ·rw[e]at p;exact p.elim
theorem U4{x:V}(h:Dd X.K CL H A x d)(hd:d≠.non):x≠.non:=by
 rintro rfl;have h:=h.plain;cases d with
 |non=>exact hd rfl
 |tup=>obtain⟨_,_,e,_⟩:=h;cases e
 |lst=>obtain⟨_,_,e,_⟩:=h;cases e
 |obj=>obtain⟨_,_,_,_,e,_⟩:=h;cases e
 |exc=>obtain⟨_,_,_,e,_⟩:=h;cases e
 |dic=>exact h.elim
 |_=>cases h
theorem KJ(hu:X.A.units+64<CG)(op:Ft):OpD X CL W (CZ op) (Cq op):=by
 cases op with
 |Eq=>
  intro A pI s σ H x y v u Q I rx ry ⟨hA,dx,dy,hx,hy,p⟩;rw[zT]at p;split at p
  ·rename_i h;simp only[An]at h;exact(Mf I 5 dx dy x y v u X.A h.1 h.2 hx.plain hy.plain rx ry (by omega)).1 X.prog X.w X.xe _ ⟨.bl _,H,I,rfl,p _ H (AN.refl H) rfl⟩
  ·exact p.elim
 |NotEq=>
  intro A pI s σ H x y v u Q I rx ry ⟨hA,dx,dy,hx,hy,p⟩;rw[zK]at p;split at p
  ·rename_i h;simp only[An]at h;exact(Mf I 5 dx dy x y v u X.A h.1 h.2 hx.plain hy.plain rx ry (by omega)).2.2 X.prog X.w X.xe _ ⟨.bl _,H,I,rfl,p _ H (AN.refl H) rfl⟩
  ·exact p.elim
 |Lt=>exact Na zC fun dx dy=>by cases dx<;>cases dy<;>first|exact .inl ⟨_,_,rfl,rfl,rfl⟩|exact .inr rfl
 |LtE=>exact Na zD fun dx dy=>by cases dx<;>cases dy<;>first|exact .inl ⟨_,_,rfl,rfl,rfl⟩|exact .inr rfl
 |Gt=>exact Na zE fun dx dy=>by cases dx<;>cases dy<;>first|exact .inl ⟨_,_,rfl,rfl,rfl⟩|exact .inr rfl
 |GtE=>exact Na zF fun dx dy=>by cases dx<;>cases dy<;>first|exact .inl ⟨_,_,rfl,rfl,rfl⟩|exact .inr rfl
 |In=>
  intro A pI s σ H x y v u Q I rx ry ⟨hA,dx,dy,hx,hy,p⟩;cases dy with
  |lst es=>
   rw[YX]at p;split at p
   ·rename_i h;simp only[An]at h;obtain⟨a,xs,e,_,sq,r⟩:=hy.plain;subst e;cases ry;obtain⟨its,rv,pl,_⟩:=I.list sq;obtain⟨e,he,ha⟩:=Nq I (n:=5) X.A.in1 h.1 h.2 r rv hx.plain rx (by show X.A.units+1+5<CG;omega)
    refine SeqAt.in_listAt e (Iw pl) he ?_;rw[ha];exact⟨.bl _,H,I,rfl,p _ H (AN.refl H) rfl⟩
   ·exact p.elim
  |tup es=>
   rw[YW]at p;split at p
   ·rename_i h;simp only[An]at h;obtain⟨a,xs,e,_,sq,r⟩:=hy.plain;subst e;cases ry;obtain⟨its,rv,pl,_⟩:=I.tuple sq;obtain⟨e,he,ha⟩:=Nq I (n:=5) X.A.in1 h.1 h.2 r rv hx.plain rx (by show X.A.units+1+5<CG;omega)
    refine SeqAt.in_tupleAt e pl he ?_;rw[ha];exact⟨.bl _,H,I,rfl,p _ H (AN.refl H) rfl⟩
   ·exact p.elim
  |dic kvs=>exact hy.plain.elim
  |_=>cases dx<;>exact p.elim
 |NotIn=>
  intro A pI s σ H x y v u Q I rx ry ⟨hA,dx,dy,hx,hy,p⟩;cases dy with
  |lst es=>
   rw[zH]at p;split at p
   ·rename_i h;simp only[An]at h;obtain⟨a,xs,e,_,sq,r⟩:=hy.plain;subst e;cases ry;obtain⟨its,rv,pl,_⟩:=I.list sq;obtain⟨e,he,ha⟩:=Nq I (n:=5) X.A.in1 h.1 h.2 r rv hx.plain rx (by show X.A.units+1+5<CG;omega)
    refine SeqAt.notIn_listAt e (Iw pl) he ?_;rw[ha];exact⟨.bl _,H,I,rfl,p _ H (AN.refl H) rfl⟩
   ·exact p.elim
  |tup es=>
   rw[zG]at p;split at p
   ·rename_i h;simp only[An]at h;obtain⟨a,xs,e,_,sq,r⟩:=hy.plain;subst e;cases ry;obtain⟨its,rv,pl,_⟩:=I.tuple sq;obtain⟨e,he,ha⟩:=Nq I (n:=5) X.A.in1 h.1 h.2 r rv hx.plain rx (by show X.A.units+1+5<CG;omega)
    refine SeqAt.notIn_tupleAt e pl he ?_;rw[ha];exact⟨.bl _,H,I,rfl,p _ H (AN.refl H) rfl⟩
   ·exact p.elim
  |_=>cases dx<;>exact p.elim
 |Is=>
  intro A pI s σ H x y v u Q I rx ry ⟨hA,dx,dy,hx,hy,p⟩;cases dy with
  |non=>
   have ey:=hy.non_of;subst ey;refine qW pI s σ H _ _ v u Q I rx ry ⟨rfl,?_⟩;cases dx with
   |non=>
    have ex:=hx.non_of;subst ex;exact p _ H (AN.refl H) rfl
   |exc=>exact p.elim
   |dic=>exact p.elim
   |_=>rw[CB (U4 hx (by simp))];exact p _ H (AN.refl H) rfl
  |bl b=>
   cases dx with
   |bl a=>
    have ey:=hy.bl_of;have ex:=hx.bl_of;subst ex ey;cases rx;cases ry;refine wpAny_is_plain rfl ⟨.bl (a==b),H,I,?_,p _ H (AN.refl H) rfl⟩;cases a<;>cases b<;>rfl
   |_=>exact p.elim
  |_=>cases dx<;>exact p.elim
 |IsNot=>
  intro A pI s σ H x y v u Q I rx ry ⟨hA,dx,dy,hx,hy,p⟩;cases dy with
  |non=>
   have ey:=hy.non_of;subst ey;refine iX pI s σ H _ _ v u Q I rx ry ⟨rfl,?_⟩;cases dx with
   |non=>
    have ex:=hx.non_of;subst ex;exact p _ H (AN.refl H) rfl
   |exc=>exact p.elim
   |dic=>exact p.elim
   |_=>rw[CB (U4 hx (by simp))];exact p _ H (AN.refl H) rfl
  |bl b=>
   cases dx with
   |bl a=>
    have ey:=hy.bl_of;have ex:=hx.bl_of;subst ex ey;cases rx;cases ry;refine wpAny_isNot_plain rfl ⟨.bl (!(a==b)),H,I,?_,p _ H (AN.refl H) rfl⟩;cases a<;>cases b<;>rfl
   |_=>exact p.elim
  |_=>cases dx<;>exact p.elim
end
section
variable{X:Cx}{CL:ClA}{W:XW}{a b c:Ar}{fa fb fc:Rho->R D}{pos:Bb}
theorem Dt.bind{f:D->R Ao}{Q:Ao->Hp->Prop}{Q':VK}(h:Dt W H (r.bind f) Q)(k:∀ d v H',r=.ok d->AN H H'->Rp H' v d->Dt W H' (f d) Q->Q' v H'):Bt Rp W H r Q':=by
 cases r with
 |ok d=>exact fun v H2 s2 q=>k d v H2 rfl s2 q (Dt.same s2 h)
 |exn x=>exact h
 |bad=>exact h
theorem Dt.bindB{r:R Ao}{f:Ao->R Ao}{Q:Ao->Hp->Prop}{Q':Ao->Hp->Prop}(h:Dt W H (r.bind f) Q)(k:∀ b H',r=.ok b->AN H H'->Dt W H' (f b) Q->Q' b H'):Dt W H r Q':=by
 cases r with
 |ok d=>exact fun H2 s2=>k d H2 rfl s2 (Dt.same s2 h)
 |exn x=>exact h
 |bad=>exact h
theorem Ho.bind{Rp:Hp->Ac V->Ac D->Prop}{r:R (Ac D)}{f:Ac D->R D}{Q':Ac V->Hp->Prop}(h:Bt Rq W H (r.bind f) Q)(k:∀ d v H',r=.ok d->AN H H'->Rp H' v d->Bt Rq W H' (f d) Q->Q' v H'):Ho Rp W H r Q':=by
 cases r with
 |ok d=>exact fun v H2 s2 q=>k d v H2 rfl s2 q (Bt.same s2 h)
 |exn x=>exact h
 |bad=>exact h
theorem oN(ha:ST X CL W a fa):SE X CL W (.UnaryOp .USub a pos) (fun ρ=>(fa ρ).bind fun x=>unD .USub x):=fun A=>PE.weak (yU mI (ha A)) fun σ H Q ⟨hA,ρ,g,p⟩=>⟨hA,ρ,g,Bt.bind p fun d v H1 _ s1 r1 p1=>by
 cases d with
 |int i=>
  have e:=r1.int_of;subst e;exact⟨i,rfl,p1 _ H1 (AN.refl H1) rfl⟩
 | _=>exact p1.elim⟩
theorem MY{f:Ao->R D}(h:Bt Rq W H ((D6 d).bind f) Q):∃ c,d=.bl c/\Bt Rq W H (f c) Q:=by
 cases d with
 |bl c=>exact⟨c,rfl,h⟩
 |_=>exact h.elim
theorem oK(ha:ST X CL W a fa):SE X CL W (.UnaryOp .Not a pos) (fun ρ=>(fa ρ).bind fun x=>(D6 x).bind fun b=>.ok (.bl (!b))):=fun A=>PE.weak (qK (ha A)) fun σ H Q ⟨hA,ρ,g,p⟩=>⟨hA,ρ,g,Bt.bind p fun d v H1 _ s1 r1 p1=>by
 obtain⟨c,rfl,p2⟩:=MY p1;exact⟨c,r1.bl_of,p2 _ H1 (AN.refl H1) rfl⟩⟩
theorem Vl{op}(ha:SE X CL W a fa):SE X CL W (.BoolOp op [a] pos) fa:=fun A=>qJ (ha A)
theorem oV{rest:Ac Ar}(ha:SE X CL W a fa)(hb:SE X CL W (.BoolOp .And (b::rest) pos) fb):SE X CL W (.BoolOp .And (a::b::rest) pos) (fun ρ=>(fa ρ).bind fun x=>(D6 x).bind fun c=>if c=Aa then fb ρ else .ok (.bl Ad)):=
 fun A=>PE.weak (qQ (ha A) (hb A)) fun σ H Q ⟨hA,ρ,g,p⟩=>⟨hA,ρ,g,Bt.bind p fun d v H1 _ s1 r1 p1=>by
  obtain⟨c,rfl,p2⟩:=MY p1;refine⟨c,r1,?_⟩;cases c with
  |true=>exact⟨hA.same s1,ρ,g.same s1,p2⟩
  | false=>exact p2 _ H1 (AN.refl H1) rfl⟩
theorem uS{rest:Ac Ar}(ha:SE X CL W a fa)(hb:SE X CL W (.BoolOp .Or (b::rest) pos) fb):SE X CL W (.BoolOp .Or (a::b::rest) pos) (fun ρ=>(fa ρ).bind fun x=>(D6 x).bind fun c=>if c=Aa then .ok (.bl Aa) else fb ρ):=
 fun A=>PE.weak (yV (ha A) (hb A)) fun σ H Q ⟨hA,ρ,g,p⟩=>⟨hA,ρ,g,Bt.bind p fun d v H1 _ s1 r1 p1=>by
  obtain⟨c,rfl,p2⟩:=MY p1;refine⟨c,r1,?_⟩;cases c with
  |false=>exact⟨hA.same s1,ρ,g.same s1,p2⟩
  | true=>exact p2 _ H1 (AN.refl H1) rfl⟩
theorem cT{op':Ft}(hu:X.A.units+64<CG)(ha:ST X CL W a fa)(hb:ST X CL W b fb)(hc:ST X CL W c fc)(hm:Ju [op,op'] [b,c]=Ad):SE X CL W (.Compare a [op,op'] [b,c] pos) (fun ρ=>(fa ρ).bind fun x=>(fb ρ).bind fun y=>(Cq op x y).bind fun z=>(D6 z).bind fun k=>if k=Aa then (fc ρ).bind fun u=>Cq op' y u else .ok (.bl Ad)):=
 fun A=>PE.weak (dL (KJ hu op A) (KJ hu op' A) (ha A) (hb A) (hc A) hm) fun σ H Q ⟨hA,ρ,g,p⟩=>⟨hA,ρ,g,Bt.bind p fun dx x H1 _ s1 r1 p1=>⟨hA.same s1,ρ,g.same s1,Bt.bind p1 fun dy y H2 _ s2 r2 p2=>
  ⟨(hA.same s1).same s2,dx,dy,r1.same s2,r2,Bt.bind p2 fun dz z H3 _ s3 r3 p3=>by
   obtain⟨k,rfl,p4⟩:=MY p3;refine⟨k,r3,?_⟩;cases k with
   |false=>exact p4 _ H3 (AN.refl H3) rfl
   | true=>exact⟨((hA.same s1).same s2).same s3,ρ,((g.same s1).same s2).same s3,Bt.bind p4 fun du u H4 _ s4 r4 p5=>⟨(((hA.same s1).same s2).same s3).same s4,dy,du,(r2.same s3).same s4,r4,p5⟩⟩⟩⟩⟩
theorem kH{xs:Ac D}{i:Ae}(h:DE xs i=.ok d):∃ k,plD xs.length i=Ab k/\xs[k]?=Ab d:=by
 unfold DE at h;split at h
 ·rename_i k e;split at h
  ·rename_i d' e';cases h;exact⟨k,e,e'⟩
  ·cases h
 ·cases h
theorem Tt{xs:Ac D}{i:Ae}{x:Ex}(h:DE xs i=.exn x):BN:=by
 unfold DE at h;split at h
 ·split at h<;>cases h
 ·cases h
theorem UN{ds:Ac D}{i:Ae}(r:Reps K CL H A xs ds)(h:DE ds i=.ok d):∃ v,atI xs i=Ab v/\Rep K CL H A v d:=by
 obtain⟨k,e,q⟩:=kH h;obtain⟨v,hv,rv⟩:=r.get q;refine⟨v,?_,rv⟩;unfold atI;have:ixN xs.length i=Ab k:=by rw[r.length];exact e
 rw[this];exact hv
theorem oQ(hs:Qf b)(ha:ST X CL W a fa)(hb:ST X CL W b fb):SE X CL W (.Subscript a b pos) (fun ρ=>(fa ρ).bind fun x=>(fb ρ).bind fun y=>BQ x y):=
 fun A=>PE.weak (yW (r:=fun x y H Q=>Rw X.K x y H Q\/Rv X.K x y H Q) (lW.or tF) (ha A) (hb A) hs) fun σ H Q h=>by
  obtain⟨hA,ρ,g,h⟩:=op2 h;refine⟨hA,ρ,g,?_⟩;cases e:fa ρ with
  |bad=>rw[e]at h;exact h
  |exn x=>rw[e]at h;exact h
  |ok dx0=>
   rw[e]at h;intro x H1 s1 r1;obtain⟨hA1,ρ1,g1,h1⟩:=h x H1 s1 r1;refine⟨hA1,ρ1,g1,?_⟩;cases e1:fb ρ1 with
   |bad=>rw[e1]at h1;exact h1
   |exn x=>rw[e1]at h1;exact h1
   |ok dy0=>
    rw[e1]at h1;intro y H2 s2 r2;obtain⟨hA2,dx,dy,rx,ry,p⟩:=h1 y H2 s2 r2;cases dy with
    |int i=>
     have ey:=ry.int_of;subst ey;cases dx with
     |lst ds=>
      obtain⟨q,xs,rfl,sq,r⟩:=rx.lst_of;rw[yR]at p;cases e2:DE ds i with
      |ok d=>
       rw[e2]at p;obtain⟨v,hv,rv⟩:=UN r e2;exact .inl ⟨q,xs,i,v,rfl,rfl,sq,hv,p v H2 (AN.refl H2) rv⟩
      |exn x=>exact(Tt e2).elim
      |bad=>rw[e2]at p;exact p.elim
     |tup ds=>
      obtain⟨q,xs,rfl,_,sq,r⟩:=rx.tup_of;rw[yQ]at p;cases e2:DE ds i with
      |ok d=>
       rw[e2]at p;obtain⟨v,hv,rv⟩:=UN r e2;exact .inr ⟨q,xs,i,v,rfl,rfl,sq,hv,p v H2 (AN.refl H2) rv⟩
      |exn x=>exact(Tt e2).elim
      |bad=>rw[e2]at p;exact p.elim
     |dic=>exact rx.plain.elim
     |_=>exact p.elim
    |_=>cases dx<;>first|exact p.elim|exact rx.plain.elim
theorem oZ:SA X CL W [] (fun _=>.ok []):=fun A=>PA.weak GU fun σ H Q ⟨hA,ρ,g,p⟩=>p [] H (AN.refl H) trivial
theorem jC(ha:SE X CL W a fa)(hs:SA X CL W es fs)(hst:AG (a::es) X.env=(Ad,eval a X.env)::AG es X.env):SA X CL W (a::es) (fun ρ=>(fa ρ).bind fun x=>(fs ρ).bind fun xs=>.ok (x::xs)):=
 fun A=>PA.weak (E6 (ha A) (hs A) hst) fun σ H Q ⟨hA,ρ,g,p⟩=>by
  dsimp only at p;refine⟨hA,ρ,g,?_⟩;cases e:fa ρ with
  |bad=>rw[e]at p;exact p
  |exn x=>rw[e]at p;exact p
  |ok d=>
   rw[e]at p;intro v H1 s1 r1;refine⟨hA.same s1,ρ,g.same s1,?_⟩;cases e1:fs ρ with
   |bad=>rw[R.bind_ok,e1]at p;exact p
   |exn x=>rw[R.bind_ok,e1]at p;exact fun H2 s2=>p H2 (s1.trans s2)
   |ok ds=>
    rw[R.bind_ok,e1]at p;exact fun vs H2 s2 r2=>p (v::vs) H2 (s1.trans s2) ⟨r1.same s2,r2⟩
theorem oI(hs:SA X CL W es fs)(hz:∀ ρ ds,fs ρ=.ok ds->ds.length<=100000):SE X CL W (.Tuple es k pos) (fun ρ=>(fs ρ).bind fun xs=>.ok (.tup xs)):=
 fun A=>PE.weak (qH (hs A)) fun σ H Q ⟨hA,ρ,g,p⟩=>⟨hA,ρ,g,Ho.bind p fun ds vs H1 e s1 r1 p1=>⟨by
  rw[r1.length,CO];have:=hz ρ ds e;omega,fun q hq=>p1 _ _ (FV hq _) (KM (hA.same s1) hq r1)⟩⟩
def J8(W:XW)(H:Hp)(r:R (At Ae))(Q:At Ae->Hp->Prop):Prop:=match r with
  |.ok o=>∀ H',AN H H'->Q o H'
  |.exn x=>∀ H',AN H H'->W x H'
  |.bad=>BN
theorem J8.bind{r:R (At Ae)}{f:At Ae->R D}(h:Bt Rq W H (r.bind f) Q)(k:∀ o H',r=.ok o->AN H H'->Bt Rq W H' (f o) Q->Q' o H'):J8 W H r Q':=by
 cases r with
 |ok d=>exact fun H2 s2=>k d H2 rfl s2 (Bt.same s2 h)
 |exn x=>exact h
 |bad=>exact h
def SO(X:Cx)(CL:ClA)(W:XW)(e:At Ar)(f:Rho->R (At Ae)):Prop:=∀ A,PO X e (fun σ H Q=>AOk H A/\∃ ρ,Good X.K CL A ρ σ H/\J8 W H (f ρ) Q)
theorem PO.weak{e:At Ar}{t t':TO}(h:PO X e t)(k:∀ σ H Q,t' σ H Q->t σ H Q):PO X e t':=fun pI s σ H Q I q=>h pI s σ H Q I (k _ _ _ q)
theorem fJ:SO X CL W Af (fun _=>.ok Af):=fun A=>PO.weak iL fun σ H Q ⟨hA,ρ,g,p⟩=>p H (AN.refl H)
theorem fI(ha:ST X CL W a fa):SO X CL W (Ab a) (fun ρ=>(fa ρ).bind fun d=>(E1 d).bind fun i=>.ok (Ab i)):=fun A=>PO.weak (iK (ha A)) fun σ H Q ⟨hA,ρ,g,p⟩=>by
 dsimp only at p;refine⟨hA,ρ,g,?_⟩;cases e:fa ρ with
 |bad=>rw[e]at p;exact p
 |exn x=>rw[e]at p;exact p
 |ok d=>
  rw[e]at p;intro v H1 s1 r1;cases d with
  |int i=>exact⟨i,r1.int_of,p H1 s1⟩
  |_=>exact p.elim
theorem U0{ds:Ac D}(lo hi:At Ae)(r:Reps K CL H A xs ds):Reps K CL H A (JH xs lo hi) (JI ds lo hi):=by
 unfold JH JI;have e:∀ d o,HT.sIx xs.length d o=IC ds.length d o:=fun d o=>by rw[r.length];cases o<;>rfl
 rw[e,e,r.length];exact(r.drop _).take _
end
section
variable{X:Cx}{CL:ClA}{W:XW}{a b c:Ar}{fa fb fc:Rho->R D}{pos:Bb}
def Gc(K:Fg)(CL:ClA)(H:Hp)(A:Al->Prop):Ac V->Ac D->Prop
 |[],[]=>IU
 |v::vs,d::ds=>Dd K CL H A v d/\Gc K CL H A vs ds
 |_,_=>BN
theorem Gc.same{K:Fg}{H H':Hp}{A:Al->Prop}(s:AN H H'):∀{vs:Ac V}{ds:Ac D},Gc K CL H A vs ds->Gc K CL H' A vs ds
 |[],[],h=>h
 |_::_,_::_,h=>⟨h.1.same s,Gc.same s h.2⟩
 |[],_::_,h=>h.elim
 |_::_,[],h=>h.elim
theorem Gc.one(h:Gc K CL H A vs [d]):∃ v,vs=[v]/\Dd K CL H A v d:=by
 cases vs with
 |nil=>exact h.elim
 |cons v vs=>
  cases vs with
  |nil=>exact⟨v,rfl,h.1⟩
  |cons=>exact h.2.elim
theorem Gc.two{e:D}(h:Gc K CL H A vs [d,e]):∃ v w',vs=[v,w']/\Dd K CL H A v d/\Dd K CL H A w' e:=by
 cases vs with
 |nil=>exact h.elim
 |cons v vs=>
  cases vs with
  |nil=>exact h.2.elim
  |cons w' vs=>
   cases vs with
   |nil=>exact⟨v,w',rfl,h.1,h.2.1⟩
   |cons=>exact h.2.2.elim
def SAT(X:Cx)(CL:ClA)(W:XW)(es:Ac Ar)(f:Rho->R (Ac D)):Prop:=∀ A,PA X es (fun σ H Q=>AOk H A/\∃ ρ,Good X.K CL A ρ σ H/\Ho (fun H=>Gc X.K CL H A) W H (f ρ) Q)
theorem jB:SAT X CL W [] (fun _=>.ok []):=fun A=>PA.weak GU fun σ H Q ⟨hA,ρ,g,p⟩=>p [] H (AN.refl H) trivial
theorem cV(ha:ST X CL W a fa)(hs:SAT X CL W es fs)(hst:AG (a::es) X.env=(Ad,eval a X.env)::AG es X.env):SAT X CL W (a::es) (fun ρ=>(fa ρ).bind fun x=>(fs ρ).bind fun xs=>.ok (x::xs)):=
 fun A=>PA.weak (E6 (ha A) (hs A) hst) fun σ H Q ⟨hA,ρ,g,p⟩=>by
  dsimp only at p;refine⟨hA,ρ,g,?_⟩;cases e:fa ρ with
  |bad=>rw[e]at p;exact p
  |exn x=>rw[e]at p;exact p
  |ok d=>
   rw[e]at p;intro v H1 s1 r1;refine⟨hA.same s1,ρ,g.same s1,?_⟩;cases e1:fs ρ with
   |bad=>rw[R.bind_ok,e1]at p;exact p
   |exn x=>rw[R.bind_ok,e1]at p;exact fun H2 s2=>p H2 (s1.trans s2)
   |ok ds=>
    rw[R.bind_ok,e1]at p;exact fun vs H2 s2 r2=>p (v::vs) H2 (s1.trans s2) ⟨r1.same s2,r2⟩
def Jc(X:Cx)(CL:ClA)(W:XW)(f:Ai)(g:Ac D->R D):Prop:=∀ A,HU X f (fun xs H Q=>AOk H A/\∃ ds,Gc X.K CL H A xs ds/\Bt (fun H=>Rep X.K CL H A) W H (g ds) Q)
theorem KY{g:Ac D->R D}(hc:Jc X CL W (.builtin id) g)(hg:Gl X x)(hm:X.mg x=Af)(hv:Db x=Ab (.builtin id))(ha:SAT X CL W (e::es) fs)(hn:x≠"__name__")(hdb:(x==("__debug__" : Ak))=Ad)(he:AG (e::es) X.env=(Ad,eval e X.env)::AG es X.env)(hpl:∀ pos,(CQ pos (AG es X.env)).any (·.1)=Ad):SE X CL W (.Call (.Name x p) (e::es) [] pos) (fun ρ=>(fs ρ).bind g):=fun A=>PE.weak (Pw (hc A) hg hm hv (ha A) hn hdb he (hpl _)) fun σ H Q ⟨hA,ρ,gd,q⟩=>⟨hA,ρ,gd,Ho.bind q fun ds vs H1 _ s1 r1 p1=>⟨hA.same s1,ds,r1,p1⟩⟩
theorem oU{g:Ac D->R D}(hc:Jc X CL W (.type T) g)(hg:Gl X x)(hm:X.mg x=Af)(hv:Db x=Ab (.type T))(ha:SAT X CL W (e::es) fs)(hn:x≠"__name__")(hdb:(x==("__debug__" : Ak))=Ad)(he:AG (e::es) X.env=(Ad,eval e X.env)::AG es X.env)(hpl:∀ pos,(CQ pos (AG es X.env)).any (·.1)=Ad):SE X CL W (.Call (.Name x p) (e::es) [] pos) (fun ρ=>(fs ρ).bind g):=fun A=>PE.weak (S8 (hc A) hg hm hv (ha A) hn hdb he (hpl _)) fun σ H Q ⟨hA,ρ,gd,q⟩=>⟨hA,ρ,gd,Ho.bind q fun ds vs H1 _ s1 r1 p1=>⟨hA.same s1,ds,r1,p1⟩⟩
theorem uJ:Jc X CL W (.builtin "len") (biD .len):=by
  intro A pI s σ H xs us Q I r ⟨hA,ds,rs,p⟩
  match ds,rs,p with
  |[.lst es],rs,p=>
    obtain⟨v,rfl,rv⟩:=rs.one;obtain⟨q,ys,rfl,sq,ry⟩:=rv.lst_of;exact Se pI s σ H _ us Q I r ⟨q,ys,rfl,.inl sq,p _ H (AN.refl H) (by rw[ry.length];rfl)⟩
  |[.tup es],rs,p=>
    obtain⟨v,rfl,rv⟩:=rs.one;obtain⟨q,ys,rfl,_,sq,ry⟩:=rv.tup_of;exact Se pI s σ H _ us Q I r ⟨q,ys,rfl,.inr sq,p _ H (AN.refl H) (by rw[ry.length];rfl)⟩
  |[.str x],rs,p=>
    obtain⟨v,rfl,rv⟩:=rs.one;have e:=rv.str_of;subst e;have p':Bt (fun H=>Rep X.K CL H A) W H (if Du x.length=Aa then .ok (.int x.length) else .bad) Q:=p
    split at p'
    · rename_i h;exact ZL pI s σ H _ us Q I r ⟨x,rfl,IV h,p' _ H (AN.refl H) rfl⟩
    · exact p'.elim
  |[],_,p=>exact p.elim
  |[.non],_,p=>exact p.elim
  |[.bl _],_,p=>exact p.elim
  |[.int _],_,p=>exact p.elim
  |[.obj _ _],_,p=>exact p.elim
  |[.exc _ _],_,p=>exact p.elim
  |[.dic _],rs,p=>first|exact p.elim|(obtain⟨v,rfl,rv⟩:=rs.one;exact rv.plain.elim)
  |x::_::_,_,p=>cases x<;>exact p.elim
theorem aQ(ds:Ac D):(∃ i j,ds=[.int i,.int j])\/biD .max ds=.bad:=by
  match ds with
  |[.int i,.int j]=>exact .inl ⟨i,j,rfl⟩
  |[]=>exact .inr rfl
  |[x]=>cases x<;>exact .inr rfl
  |x::y::z::r=>cases x<;>cases y<;>exact .inr rfl
  |[x,.non]=>cases x<;>exact .inr rfl
  |[x,.bl _]=>cases x<;>exact .inr rfl
  |[x,.str _]=>cases x<;>exact .inr rfl
  |[x,.tup _]=>cases x<;>exact .inr rfl
  |[x,.lst _]=>cases x<;>exact .inr rfl
  |[x,.obj _ _]=>cases x<;>exact .inr rfl
  |[x,.exc _ _]=>cases x<;>exact .inr rfl
  |[x,.dic _]=>cases x<;>exact .inr rfl
  |[.non,.int _]=>exact .inr rfl
  |[.bl _,.int _]=>exact .inr rfl
  |[.str _,.int _]=>exact .inr rfl
  |[.tup _,.int _]=>exact .inr rfl
  |[.lst _,.int _]=>exact .inr rfl
  |[.obj _ _,.int _]=>exact .inr rfl
  |[.exc _ _,.int _]=>exact .inr rfl
  |[.dic _,.int _]=>exact .inr rfl
theorem Ta:∀(is:Ac Ae)(i:Ae),ID i is∈i::is/\∀ a∈i::is,ID i is<=a
 |[],i=>⟨Ax,fun a h=>by rw[BA]at h;rw[h];exact JN _⟩
 |j::r,i=>by
  obtain⟨h1,h2⟩:=Ta r (if j<i then j else i)
  refine⟨?_,fun a h=>?_⟩
  ·show ID (if j<i then j else i) r∈_
   rcases Aw.mp h1 with e|e
   ·rw[e];split
    ·exact Au _ Ax
    ·exact Ax
   ·exact Au _ (Au _ e)
  ·show ID (if j<i then j else i) r<=a
   have h0:=h2 _ Ax;rcases Aw.mp h with e|e
   ·subst e;refine WT h0 ?_;split<;>omega
   ·rcases Aw.mp e with e|e
    ·subst e;refine WT h0 ?_;split<;>omega
    ·exact h2 a (Au _ e)
theorem SD:∀{is:Ac Ae}{its:Ac Ai},Br (is.map V.int) its->∃ xs:AR (Ae×DD),its.toArray=LJ xs/\xs.toList.map (·.1)=is
 |[],_,h=>by cases h;exact⟨#[],by simp[LJ],rfl⟩
 |i::is,_,h=>by
  cases h with
  |cons h1 h2=>
   obtain⟨t,rfl⟩:=h1;obtain⟨xs,e1,e2⟩:=SD h2;refine⟨((i,t)::xs.toList).toArray,?_,?_⟩
   ·apply HA.mp
    have e1':=congrArg Ji e1;simp[LJ]at e1' ⊢;exact e1'
   ·simp[e2]
theorem bS(hc:X.calm=Aa):HU X (.builtin "min") (fun xs H Q=>∃ a i is,xs=[.ref a]/\SqL X.K H a ((i::is).map V.int)/\Q (.int (ID i is)) H):=by
 intro pI s σ H xs us Q I r h;obtain⟨a,i,is,rfl,sq,q⟩:=h;obtain⟨u,rfl,ru⟩:=HY r;cases ru;obtain⟨its,rv,pl,hz⟩:=I.list sq;obtain⟨ys,e1,e2⟩:=SD rv;have hsz:0<ys.size:=by
  have:=congrArg Xa e2;simp at this;omega
 have hl:=pl.isList;rw[e1]at hl;refine min_intList (I.ok.hd hc) hl hsz fun v h' tk hv hk=>?_
 obtain⟨t,rfl⟩:=intItems_at hv;obtain⟨h1,h2⟩:=argBest_lt (IT ys) (ys.size-1);have nm:∀ j,j<ys.size->IT ys j∈i::is:=fun j hj=>by
  rw[<-e2];unfold IT;rw[BZ hj];simp only[EQ,Option.getD_some];exact CI.mpr ⟨ys[j],by simp,rfl⟩
 have nx:∀ x∈i::is,∃ j,j<ys.size/\IT ys j=x:=fun x hx=>by
  rw[<-e2]at hx;obtain⟨y,hy,rfl⟩:=CI.mp hx;obtain⟨j,hj,ej⟩:=Array.mem_iff_getElem.mp (Array.mem_toList_iff.mp hy);refine⟨j,hj,?_⟩;unfold IT;rw[BZ hj,ej];rfl
 obtain⟨m1,m2⟩:=Ta is i;have em:IT ys (argBest (fun i j=>decide (IT ys i<IT ys j)) (ys.size-1))=ID i is:=by
  refine Int.le_antisymm ?_ (m2 _ (nm _ (by omega)))
  obtain⟨j,hj,ej⟩:=nx _ m1;rw[<-ej];exact h2 j (by omega)
 rw[em];exact⟨.int (ID i is),H,I.kept hk,⟨_,rfl⟩,q⟩
theorem OM{K:Fg}{CL:ClA}{H:Hp}{A:Al->Prop}:∀{es:Ac D}{is:Ac Ae}{ys:Ac V},HV es=Ab is->Reps K CL H A ys es->ys=is.map V.int
 |[],_,[],h,_=>by cases h;rfl
 |[],_,_::_,_,r=>r.elim
 |_::_,_,[],_,r=>r.elim
 |e::es,is,y::ys,h,r=>by
  cases e with
  |int i=>
   have h':(HV es).map (i :: ·)=Ab is:=h;cases e2:HV es with
   |none=>rw[e2]at h';cases h'
   |some js=>
    rw[e2]at h';cases h';have ih:=OM e2 r.2;have e1:y=.int i:=r.1;rw[ih,e1];rfl
  |_=>cases h
theorem aP(ds:Ac D)(hl:∀ es,ds≠[.lst es]):(∃ i j,ds=[.int i,.int j])\/biD .min ds=.bad:=by
  match ds with
  |[.int i,.int j]=>exact .inl ⟨i,j,rfl⟩
  |[]=>exact .inr rfl
  |[x]=>cases x<;>first|exact .inr rfl|exact absurd rfl (hl _)
  |x::y::z::r=>cases x<;>cases y<;>exact .inr rfl
  |[x,.non]=>cases x<;>exact .inr rfl
  |[x,.bl _]=>cases x<;>exact .inr rfl
  |[x,.str _]=>cases x<;>exact .inr rfl
  |[x,.tup _]=>cases x<;>exact .inr rfl
  |[x,.lst _]=>cases x<;>exact .inr rfl
  |[x,.obj _ _]=>cases x<;>exact .inr rfl
  |[x,.exc _ _]=>cases x<;>exact .inr rfl
  |[x,.dic _]=>cases x<;>exact .inr rfl
  |[.non,.int _]=>exact .inr rfl
  |[.bl _,.int _]=>exact .inr rfl
  |[.str _,.int _]=>exact .inr rfl
  |[.tup _,.int _]=>exact .inr rfl
  |[.lst _,.int _]=>exact .inr rfl
  |[.obj _ _,.int _]=>exact .inr rfl
  |[.exc _ _,.int _]=>exact .inr rfl
  |[.dic _,.int _]=>exact .inr rfl
theorem uI(hc:X.calm=Aa):Jc X CL W (.builtin "max") (biD .max):=by
 intro A pI s σ H xs us Q I r ⟨hA,ds,rs,p⟩;rcases aQ ds with ⟨i,j,rfl⟩|e
 ·obtain⟨v,w',rfl,rv,rw'⟩:=rs.two;have e1:=rv.int_of;have e2:=rw'.int_of
  subst e1 e2;exact bU hc pI s σ H _ us Q I r ⟨i,j,rfl,p _ H (AN.refl H) rfl⟩
 ·rw[e]at p;exact p.elim
theorem uH(hc:X.calm=Aa):Jc X CL W (.builtin "min") (biD .min):=by
  intro A pI s σ H xs us Q I r ⟨hA,ds,rs,p⟩;by_cases hls:∃ es,ds=[.lst es]
  · obtain⟨es,rfl⟩:=hls;obtain⟨v,rfl,rv⟩:=rs.one;obtain⟨a,ys,rfl,sq,ry⟩:=rv.lst_of;have p':Bt (Rep X.K CL · A) W H (match HV es with
      |some (i::is)=>R.ok (.int (ID i is))
      | _=>.bad) Q:=p
    cases e1:HV es with
    |none=>rw[e1]at p';exact p'.elim
    |some is=>
      cases is with
      |nil=>rw[e1]at p';exact p'.elim
      |cons i is=>
        rw[e1]at p';have ey:=OM e1 ry;subst ey;exact bS hc pI s σ H _ us Q I r ⟨a,i,is,rfl,sq,p' _ H (AN.refl H) rfl⟩
  rcases aP ds (fun es z=>hls ⟨es,z⟩) with ⟨i,j,rfl⟩|e
  · obtain⟨v,w',rfl,rv,rw'⟩:=rs.two;have e1:=rv.int_of;have e2:=rw'.int_of
    subst e1 e2;exact bT hc pI s σ H _ us Q I r ⟨i,j,rfl,p _ H (AN.refl H) rfl⟩
  · rw[e]at p;exact p.elim
theorem eT:Jc X CL W (.type "tuple") (biD .tuple):=by
  intro A pI s σ H xs us Q I r ⟨hA,ds,rs,p⟩
  match ds,rs,p with
  |[.lst es],rs,p=>
    obtain⟨v,rfl,rv⟩:=rs.one;obtain⟨q,ys,rfl,sq,ry⟩:=rv.lst_of;exact Sg pI s σ H _ us Q I r ⟨q,ys,rfl,.inl ⟨sq,fun l hl=>p _ _ (FV hl _) (KM hA hl ry)⟩⟩
  |[.tup es],rs,p=>
    obtain⟨v,rfl,rv⟩:=rs.one;obtain⟨q,ys,rfl,na,sq,ry⟩:=rv.tup_of;exact Sg pI s σ H _ us Q I r ⟨q,ys,rfl,.inr ⟨sq,p _ H (AN.refl H) ⟨q,ys,rfl,na,sq,ry⟩⟩⟩
  |[],_,p=>exact p.elim
  |[.non],_,p=>exact p.elim
  |[.bl _],_,p=>exact p.elim
  |[.int _],_,p=>exact p.elim
  |[.str _],_,p=>exact p.elim
  |[.obj _ _],_,p=>exact p.elim
  |[.exc _ _],_,p=>exact p.elim
  |[.dic _],rs,p=>first|exact p.elim|(obtain⟨v,rfl,rv⟩:=rs.one;exact rv.plain.elim)
  |x::_::_,_,p=>cases x<;>exact p.elim
end
section
variable{X:Cx}{CL:ClA}{W:XW}{a b c:Ar}{fa fb fc:Rho->R D}{pos:Bb}
theorem SB.congr{g:Rho->R Ao}(h:SB X CL W a f)(e:∀ ρ,g ρ=f ρ):SB X CL W a g:=fun A=>PT.weak (h A) fun σ H Q ⟨hA,ρ,q,p⟩=>⟨hA,ρ,q,by rw[<-e];exact p⟩
theorem oX(ha:SB X CL W a f):SB X CL W (.UnaryOp .Not a pos) (fun ρ=>(f ρ).bind fun b=>.ok (!b)):=fun A=>PT.weak (rS (ha A)) fun σ H Q ⟨hA,ρ,g,p⟩=>⟨hA,ρ,g,Dt.bindB p fun b H1 _ s1 p1=>p1 H1 (AN.refl H1)⟩
def SW(X:Cx)(CL:ClA)(W:XW)(e:Ar)(f:Rho->R Ao):Prop:=∀ A,PW X e (fun σ H Q=>AOk H A/\∃ ρ,Good X.K CL A ρ σ H/\Dt W H (f ρ) Q)
theorem PW.weak{t t':TT}(h:PW X e t)(k:∀ σ H Q,t' σ H Q->t σ H Q):PW X e t':=fun wh pI s σ H Q I q=>h wh pI s σ H Q I (k _ _ _ q)
theorem SW.sb(h:SW X CL W a f):SB X CL W a f:=fun A=>PW.pt (h A)
theorem SW.congr{g:Rho->R Ao}(h:SW X CL W a f)(e:∀ ρ,g ρ=f ρ):SW X CL W a g:=fun A=>PW.weak (h A) fun σ H Q ⟨hA,ρ,q,p⟩=>⟨hA,ρ,q,by rw[<-e];exact p⟩
theorem gD(ha:SB X CL W a f):SW X CL W (.BoolOp .And [a] pos) f:=fun A=>hV (ha A)
theorem pL(ha:SB X CL W a f):SW X CL W (.BoolOp .Or [a] pos) f:=fun A=>rQ (ha A)
theorem pM{g:Rho->R Ao}{rest:Ac Ar}(ha:SB X CL W a f)(hb:SW X CL W (.BoolOp .And (b::rest) pos) g):SW X CL W (.BoolOp .And (a::b::rest) pos) (fun ρ=>(f ρ).bind fun c=>if c=Aa then g ρ else .ok Ad):=
 fun A=>PW.weak (rR (ha A) (hb A)) fun σ H Q ⟨hA,ρ,gd,p⟩=>⟨hA,ρ,gd,Dt.bindB p fun c H1 _ s1 p1=>by
  cases c with
  |true=>exact⟨hA.same s1,ρ,gd.same s1,p1⟩
  | false=>exact p1 H1 (AN.refl H1)⟩
theorem uT{g:Rho->R Ao}{rest:Ac Ar}(ha:SB X CL W a f)(hb:SW X CL W (.BoolOp .Or (b::rest) pos) g):SW X CL W (.BoolOp .Or (a::b::rest) pos) (fun ρ=>(f ρ).bind fun c=>if c=Aa then .ok Aa else g ρ):=
 fun A=>PW.weak (vZ (ha A) (hb A)) fun σ H Q ⟨hA,ρ,gd,p⟩=>⟨hA,ρ,gd,Dt.bindB p fun c H1 _ s1 p1=>by
  cases c with
  |false=>exact⟨hA.same s1,ρ,gd.same s1,p1⟩
  | true=>exact p1 H1 (AN.refl H1)⟩
theorem oY(ho:OpD X CL W (CZ op) g)(ha:ST X CL W a fa)(hb:ST X CL W b fb)(hm:He op b=Ad):SB X CL W (.Compare a [op] [b] pos) (fun ρ=>(fa ρ).bind fun x=>(fb ρ).bind fun y=>(g x y).bind D6):=
 fun A=>PT.weak (iG (ho A) (ha A) (hb A) hm) fun σ H Q ⟨hA,ρ,gd,p⟩=>⟨hA,ρ,gd,Dt.bind p fun dx x H1 _ s1 r1 p1=>⟨hA.same s1,ρ,gd.same s1,Dt.bind p1 fun dy y H2 _ s2 r2 p2=>
  ⟨(hA.same s1).same s2,dx,dy,r1.same s2,r2,Dt.bind p2 fun dz z H3 _ s3 r3 p3=>by
   cases dz with
   |bl k=>exact⟨k,r3,p3 H3 (AN.refl H3)⟩
   | _=>exact p3.elim⟩⟩⟩
theorem cU{op':Ft}(hu:X.A.units+64<CG)(ha:ST X CL W a fa)(hb:ST X CL W b fb)(hc:ST X CL W c fc)(hm:Ju [op,op'] [b,c]=Ad):SB X CL W (.Compare a [op,op'] [b,c] pos) (fun ρ=>(fa ρ).bind fun x=>(fb ρ).bind fun y=>(Cq op x y).bind fun z=>(D6 z).bind fun k=>if k=Aa then (fc ρ).bind fun u=>(Cq op' y u).bind D6 else .ok Ad):=
  fun A=>PT.weak (dE (KJ hu op A) (KJ hu op' A) (ha A) (hb A) (hc A) hm) fun σ H Q ⟨hA,ρ,g,p⟩=>⟨hA,ρ,g,Dt.bind p fun dx x H1 _ s1 r1 p1=>⟨hA.same s1,ρ,g.same s1,Dt.bind p1 fun dy y H2 _ s2 r2 p2=>
    ⟨(hA.same s1).same s2,dx,dy,r1.same s2,r2,Dt.bind p2 fun dz z H3 _ s3 r3 p3=>by
      cases dz with
      |bl k=>
        refine⟨k,r3,?_⟩;cases k with
        |false=>exact⟨Ad,rfl,p3 H3 (AN.refl H3)⟩
        | true=>exact⟨((hA.same s1).same s2).same s3,ρ,((g.same s1).same s2).same s3,Dt.bind p3 fun du u H4 _ s4 r4 p5=>⟨(((hA.same s1).same s2).same s3).same s4,dy,du,(r2.same s3).same s4,r4,Dt.bind p5 fun dv v H5 _ s5 r5 p6=>by
            cases dv with
            |bl k'=>exact⟨k',r5,p6 H5 (AN.refl H5)⟩
            | _=>exact p6.elim⟩⟩
      | _=>exact p3.elim⟩⟩⟩
theorem oW(ha:ST X CL W a fa)(he:∀ whole,IJ a X.env whole=(do let v <-whole;Hx a.pos;holding [v] (truthy v))):SB X CL W a (fun ρ=>(fa ρ).bind CK):=
 fun A=>PT.weak (dD (ha A) he) fun σ H Q ⟨hA,ρ,g,p⟩=>⟨hA,ρ,g,Dt.bind p fun d v H1 _ s1 r1 p1=>by
  cases d with
  |non=>
   have e:=r1.non_of;subst e;exact⟨Ad,rfl,p1 H1 (AN.refl H1)⟩
  |bl b=>
   have e:=r1.bl_of;subst e;exact⟨b,rfl,p1 H1 (AN.refl H1)⟩
  |int i=>
   have e:=r1.int_of;subst e;exact⟨_,rfl,p1 H1 (AN.refl H1)⟩
  |str x=>
   have e:=r1.str_of;subst e;have p2:Dt W H1 (if Du x.length=Aa then .ok (x.length != 0) else .bad) Q:=p1
   split at p2
   ·rename_i h;refine⟨_,⟨IV h,rfl⟩,?_⟩;have e:((x.length:Ae) != 0)=(x.length != 0):=by
     rw[Cv];simp
    rw[e];exact p2 H1 (AN.refl H1)
   ·exact p2.elim
  |tup ds=>
   obtain⟨q,xs,rfl,_,sq,r⟩:=r1.tup_of;refine⟨_,.inr (.inl ⟨xs,sq,rfl⟩),?_⟩;have e:xs.isEmpty=ds.isEmpty:=by
    have:=r.length;cases xs<;>cases ds<;>first|rfl|cases this
   rw[e];exact p1 H1 (AN.refl H1)
  |lst ds=>
   obtain⟨q,xs,rfl,sq,r⟩:=r1.lst_of;refine⟨_,.inl ⟨xs,sq,rfl⟩,?_⟩;have e:xs.isEmpty=ds.isEmpty:=by
    have:=r.length;cases xs<;>cases ds<;>first|rfl|cases this
   rw[e];exact p1 H1 (AN.refl H1)
  | _=>exact p1.elim⟩
noncomputable def MF(K:Fg)(CL:ClA)(H:Hp)(A:Al->Prop)(cls:Ai)(dx:At Al)(x:Ex):Prop:=
 ∃ C,CL x.c=Ab C/\cls=.ref C/\(x.fs=[]\/∃ d vs,dx=Ab d/\¬ A d/\H d=Ab (.xd vs)/\Repf K CL H A vs x.fs)
end
def CP(B:Al->Prop)(ρ:Rho)(σ:L2.St):Al->Prop:=fun a=>B a\/∃(j:Ag)(d:D),ρ[j]?=Ab (Ab (d,Aa))/\σ[j]?=Ab (Ab (.ref a))
structure Sx (K:Fg) (CL:ClA) (Fz:Al->HO->Prop) (B:Al->Prop) (ρ:Rho) (σ:L2.St) (H:Hp):Prop where
 good:Good K CL (CP B ρ σ) ρ σ H
 aok:AOk H (CP B ρ σ)
 new:∀(j:Ag)(d:D)(a:Al),ρ[j]?=Ab (Ab (d,Aa))->σ[j]?=Ab (Ab (.ref a))->(∀ o,¬ Fz a o)/\¬ B a
 dis:∀(i j:Ag)(d e:D)(a:Al),ρ[i]?=Ab (Ab (d,Aa))->ρ[j]?=Ab (Ab (e,Aa))->σ[i]?=Ab (Ab (.ref a))->σ[j]?=Ab (Ab (.ref a))->i=j
 same:∀ b o,Fz b o->H b=Ab o
 len:ρ.length=σ.length
def CJ(K:Fg)(CL:ClA)(Fz:Al->HO->Prop)(B:Al->Prop)(W:XW)(o:O)(D:Ends):Prop:=match o with
  |.next ρ=>∀ σ H,Sx K CL Fz B ρ σ H->D.nx σ H
  |.brk ρ=>∀ σ H,Sx K CL Fz B ρ σ H->D.bk σ H
  |.cont ρ=>∀ σ H,Sx K CL Fz B ρ σ H->D.ct σ H
  |.ret d fr=>∀ v H,(∀ b o,Fz b o->H b=Ab o)->Rep K CL H B v d->(fr=Aa->∀ ds,d=.lst ds->∃ a xs,v=.ref a/\(∀ o,¬ Fz a o)/\H a=Ab (.lst xs)/\Reps K CL H (fun b=>B b\/b=a) xs ds)->D.rt v H
  |.exn x _=>∀ H,(∀ b o,Fz b o->H b=Ab o)->W x H
  |.bad=>BN
section
variable{K:Fg}{CL:ClA}{Fz Fy:Al->HO->Prop}{B:Al->Prop}{ρ:Rho}{σ:L2.St}{H H':Hp}
theorem Sx.mono(k:∀ b o,Fz b o->Fy b o)(x:Sx K CL Fy B ρ σ H):Sx K CL Fz B ρ σ H:=⟨x.good,x.aok,fun j d a h1 h2=>⟨fun o z=>(x.new j d a h1 h2).1 o (k _ _ z),(x.new j d a h1 h2).2⟩,x.dis,fun b o z=>x.same b o (k _ _ z),x.len⟩
theorem Sx.grow(x:Sx K CL Fz B ρ σ H)(s:AN H H'):Sx K CL Fz B ρ σ H':=⟨x.good.same s,x.aok.same s,x.new,x.dis,fun b o z=>s _ _ (x.same b o z),x.len⟩
theorem Dh{l:Ac α}{v:α}(h:i≠j):(l.set i v)[j]?=l[j]?:=by rw[Go h]
theorem HL{l:Ac α}{v w':α}(h:(l.set i v)[i]?=Ab w'):w'=v:=by
 rw[FP]at h;cases e:l[i]? with
 |none=>rw[e]at h;cases h
 |some x=>rw[e]at h;cases h;rfl
theorem Sx.set(x:Sx K CL Fz B ρ σ H){v:V}{d:D}(i:Ag)(r:Rep K CL H (CP B ρ σ) v d):Sx K CL Fz B (ρ.set i (Ab (d,Ad))) (σ.set i (Ab v)) H:=by
 have own:∀(j:Ag)(e:D),(ρ.set i (Ab (d,Ad)))[j]?=Ab (Ab (e,Aa))->i≠j/\ρ[j]?=Ab (Ab (e,Aa)):=fun j e h=>by
  by_cases hj:i=j
  ·subst hj;have:=HL h;cases this
  ·exact⟨hj,by rw[Dh hj]at h;exact h⟩
 have sub:∀ a,CP B (ρ.set i (Ab (d,Ad))) (σ.set i (Ab v)) a->CP B ρ σ a:=fun a h=>by
  rcases h with h|⟨j,e,h1,h2⟩
  ·exact .inl h
  ·obtain⟨hj,h1⟩:=own j e h1;rw[Dh hj]at h2;exact .inr ⟨j,e,h1,h2⟩
 refine⟨⟨fun j e h=>?_,fun j e h=>?_,by rw[BE,BE];exact x.len⟩,fun a h=>x.aok a (sub a h),fun j e a h1 h2=>?_,fun j k e f a h1 h2 h3 h4=>?_,x.same,by rw[BE,BE];exact x.len⟩
 ·by_cases hj:i=j
  ·subst hj;have e1:=HL h;cases e1;refine⟨v,?_,Rep.sub sub _ r⟩;have hl:i<σ.length:=by
    rw[<-x.len];have:=(Ba.mp h).1;simpa using this
   rw[Do hl]
  ·rw[Dh hj]at h;obtain⟨w',q,rw'⟩:=x.good.sh j e h;exact⟨w',by rw[Dh hj];exact q,Rep.sub sub _ rw'⟩
 ·obtain⟨hj,h1⟩:=own j e h;obtain⟨a,xs,ds,q,z,ha,hh,rr⟩:=x.good.ow j e h1;exact⟨a,xs,ds,by rw[Dh hj];exact q,z,.inr ⟨j,e,h,by rw[Dh hj];exact q⟩,hh,Reps.sub sub _ rr⟩
 ·obtain⟨hj,h1⟩:=own j e h1;rw[Dh hj]at h2;exact x.new j e a h1 h2
 ·obtain⟨hj,h1⟩:=own j e h1;obtain⟨hk,h2⟩:=own k f h2;rw[Dh hj]at h3;rw[Dh hk]at h4;exact x.dis j k e f a h1 h2 h3 h4
end
section
variable{X:Cx}{CL:ClA}{W:XW}{pos:Bb}{e:Ar}{fe:Rho->R D}
def SS(X:Cx)(CL:ClA)(W:XW)(st:B8)(f:Rho->O):Prop:=∀ Fz B,PS X st (fun D σ H=>∃ ρ,Sx X.K CL Fz B ρ σ H/\CJ X.K CL Fz B W (f ρ) D)
def SSs(X:Cx)(CL:ClA)(W:XW)(st:Ac B8)(f:Rho->O):Prop:=∀ Fz B,PSs X st (fun D σ H=>∃ ρ,Sx X.K CL Fz B ρ σ H/\CJ X.K CL Fz B W (f ρ) D)
theorem PS.weak{e:B8}{t t':TS}(h:PS X e t)(k:∀ D σ H,t' D σ H->t D σ H):PS X e t':=fun pI s σ H D I q=>h pI s σ H D I (k _ _ _ q)
theorem PSs.weak{e:Ac B8}{t t':TS}(h:PSs X e t)(k:∀ D σ H,t' D σ H->t D σ H):PSs X e t':=fun pI s σ H D I q=>h pI s σ H D I (k _ _ _ q)
theorem CJ.ex{f:D->O}(x:Sx X.K CL Fz B ρ σ H)(h:CJ X.K CL Fz B W (O.of ρ r f) D')(k:∀ d v H',r=.ok d->AN H H'->Rp H' v d->Sx X.K CL Fz B ρ σ H'->CJ X.K CL Fz B W (f d) D'->Q v H'):Bt Rp W H r Q:=by
 cases r with
 |ok d=>exact fun v H' s r=>k d v H' rfl s r (x.grow s) h
 |exn y=>exact fun H' s=>h H' fun b o z=>s _ _ (x.same b o z)
 |bad=>exact h
theorem CJ.exB{r:R Ao}{f:Ao->O}{Q:Ao->Hp->Prop}(x:Sx X.K CL Fz B ρ σ H)(h:CJ X.K CL Fz B W (O.of ρ r f) D')(k:∀ b H',r=.ok b->AN H H'->Sx X.K CL Fz B ρ σ H'->CJ X.K CL Fz B W (f b) D'->Q b H'):Dt W H r Q:=by
 cases r with
 |ok d=>exact fun H' s=>k d H' rfl s (x.grow s) h
 |exn y=>exact fun H' s=>h H' fun b o z=>s _ _ (x.same b o z)
 |bad=>exact h
theorem fF(he:SE X CL W e fe)(hs:DT e Af pos.line X.env=pure Ad):SS X CL W (.Expr e pos) (fun ρ=>O.of ρ (fe ρ) fun _=>.next ρ):=fun Fz B pI s σ H D I ⟨ρ,x,p⟩=>
 Nj (he (CP B ρ σ)) hs pI s σ H D I ⟨x.aok,ρ,x.good,CJ.ex x p fun d v H' _ s r x' q=>q σ H' x'⟩
theorem gJ(he:SE X CL W e fe):SS X CL W (.Return (Ab e) pos) (fun ρ=>O.of ρ (fe ρ) fun d=>.ret d Ad):=fun Fz B pI s σ H D I ⟨ρ,x,p⟩=>
 Qj (he (CP B ρ σ)) pI s σ H D I ⟨x.aok,ρ,x.good,CJ.ex x p fun d v H' _ s r x' q=>q v H' x'.same (Rep.sub (fun a h=>.inl h) _ r) fun z=>nomatch z⟩
theorem vC{a b:Ac B8}{fa fb:Rho->O}(hc:SB X CL W c fc)(ha:SSs X CL W a fa)(hb:SSs X CL W b fb):SS X CL W (.If c a b pos) (fun ρ=>O.of ρ (fc ρ) fun k=>if k=Aa then fa ρ else fb ρ):=fun Fz B pI s σ H D I ⟨ρ,x,p⟩=>
 wB (hc (CP B ρ σ)) (ha Fz B) (hb Fz B) pI s σ H D I ⟨x.aok,ρ,x.good,CJ.exB x p fun k H' _ s x' q=>by
  cases k with
  |true=>exact⟨ρ,x',q⟩
  | false=>exact⟨ρ,x',q⟩⟩
theorem gH:SSs X CL W [] (fun ρ=>.next ρ):=fun Fz B=>PSs.weak iH fun D σ H ⟨ρ,x,p⟩=>p σ H x
theorem cQ{st:B8}{rest:Ac B8}{f g:Rho->O}(h1:SS X CL W st f)(h2:SSs X CL W rest g):SSs X CL W (st::rest) (fun ρ=>(f ρ).seq g):=fun Fz B=>PSs.weak (dF (h1 Fz B) (h2 Fz B)) fun D σ H ⟨ρ,x,p⟩=>⟨ρ,x,by
 dsimp only at p;cases e:f ρ with
 |next ρ'=>rw[e]at p;exact fun σ' H' x'=>⟨ρ',x',p⟩
 |ret d b=>rw[e]at p;exact p
 |brk ρ'=>rw[e]at p;exact p
 |cont ρ'=>rw[e]at p;exact p
 |exn y ρ'=>rw[e]at p;exact p
 | bad=>rw[e]at p;exact p⟩
end
def Jf(K:Fg)(CL:ClA)(A:Al->Prop)(ds:Ac D)(J:It)(H1:Hp):Prop:=∀ H,Kp A H1 H->∀ i:Ag,(ds.length<=i->J.stop i H)/\∀ d,ds[i]?=Ab d->J.go i H/\∀ x H',J.yld i H x H'->AN H H'/\∀ B,(∀ a,B a->A a\/H1 a=Af)->AOk H B->Rep K CL H' B x d
def E9(K:Fg)(CL:ClA)(A:Al->Prop)(W:XW)(H:Hp)(r:R (Ac D))(Q:It->Hp->Prop):Prop:=match r with
  |.ok ds=>∀ J H',AN H H'->Jf K CL A ds J H'->ds.length<=sizeLine->Q J H'
  |.exn x=>∀ H',AN H H'->W x H'
  |.bad=>BN
def SI(X:Cx)(CL:ClA)(W:XW)(tg iter:Ar)(f:Rho->R (Ac D)):Prop:=∀ A,PI X tg iter (fun σ H R=>AOk H A/\∃ ρ,Good X.K CL A ρ σ H/\E9 X.K CL A W H (f ρ) R)
theorem PI.weak{t t':TI}(h:PI X tg e t)(k:∀ σ H Q,t' σ H Q->t σ H Q):PI X tg e t':=fun pI s σ H Q I q=>h pI s σ H Q I (k _ _ _ q)
section
variable{X:Cx}{CL:ClA}{W:XW}{pos p:Bb}{tg e a b:Ar}{fe fa fb:Rho->R D}
theorem E9.ex{f:D->R (Ac D)}{Q:It->Hp->Prop}{Q':VK}(h:E9 X.K CL A W H (r.bind f) Q)(k:∀ d v H',r=.ok d->AN H H'->Rp H' v d->E9 X.K CL A W H' (f d) Q->Q' v H'):Bt Rp W H r Q':=by
  cases r with
  | ok d=>exact fun v H' s q=>k d v H' rfl s q (by
      have h':E9 X.K CL A W H (f d) Q:=h;cases e:f d with
      |ok ds=>rw[e]at h';exact fun J H2 s2 y z=>h' J H2 (s.trans s2) y z
      |exn y=>rw[e]at h';exact fun H2 s2=>h' H2 (s.trans s2)
      | bad=>rw[e]at h';exact h')
  |exn y=>exact h
  |bad=>exact h
theorem LU{x:V}(r:Rep K CL H1 A x d)(k:Kp A H1 H)(hB:∀ a,B a->A a\/H1 a=Af):Rep K CL H B x d:=by
 have r1:Rep K CL H1 (fun a=>A a\/B a) x d:=Rep.wide (fun a ha=>ha.elim .inl (hB a)) _ r
 have r2:Rep K CL H (fun a=>A a\/B a) x d:=Rep.kp (fun b o e na=>k b o e fun z=>na (.inl z)) _ r1
 exact Rep.sub (fun a ha=>.inr ha) _ r2
theorem aL{ds:Ac D}(na:¬ A q\/KL K q xs)(s:SqL K H q xs)(r:Reps K CL H A xs ds):Jf K CL A ds (Itl K q) H:=fun H' k i=>by
 have s':=Nu k na s;refine⟨fun h=>⟨xs,s',by rw[r.length];exact h⟩,fun d hd=>?_⟩
 obtain⟨v,hv,rv⟩:=r.get hd;exact⟨⟨xs,v,s',hv⟩,fun x H2 ⟨e,y⟩=>by
  subst e;have:=y xs s';rw[hv]at this;cases this;exact⟨AN.refl _,fun B hB _=>LU rv k hB⟩⟩
theorem dX{ds:Ac D}(na:¬ A q\/KT K q xs)(s:SqT K H q xs)(r:Reps K CL H A xs ds):Jf K CL A ds (Itt K q) H:=fun H' k i=>by
 have s':=Nt k na s;refine⟨fun h=>⟨xs,s',by rw[r.length];exact h⟩,fun d hd=>?_⟩
 obtain⟨v,hv,rv⟩:=r.get hd;exact⟨⟨xs,v,s',hv⟩,fun x H2 ⟨e,y⟩=>by
  subst e;have:=y xs s';rw[hv]at this;cases this;exact⟨AN.refl _,fun B hB _=>LU rv k hB⟩⟩
theorem Tw(lo:Ae)(n:Ag):Jf K CL A (Ch lo n) (Itr lo n) H:=fun H' k i=>by
 refine⟨fun h=>by rw[Jy]at h;exact h,fun d hd=>?_⟩
 obtain⟨h1,rfl⟩:=Ts hd;exact⟨h1,fun x H2 ⟨e,y⟩=>by
  subst e y;exact⟨AN.refl _,fun _ _ _=>rfl⟩⟩
theorem qF{l:Ar}{tl:TE}(hl:PE X l tl):PI X tg l (fun σ H R=>tl σ H fun x H1=>(∃ a,x=.ref a/\(∃ xs,SqL X.K H1 a xs/\(xs.length<=sizeLine->R (Itl X.K a) H1)))\/∃ a,x=.ref a/\(∃ xs,SqT X.K H1 a xs/\(xs.length<=sizeLine->R (Itt X.K a) H1))):=by
 intro pI s σ H R I h;refine thn (hl pI s σ H _ I h) fun v s1 ⟨x,H1,I1,r1,q1⟩=>?_
 rcases q1 with ⟨a,e,xs,hq,q⟩|⟨a,e,xs,hq,q⟩
 ·subst e;cases r1;obtain⟨its,rv,p,hz⟩:=I1.list hq;refine Eb p.isList ?_;refine⟨s1.heap.objs.size,[s1.heap.objs.size],_,_,H1,rfl,I1.kept (t':=s1.toks) fun b o e=>As _ e,bJ a _,⟨_,AC _ rfl,rfl,rfl⟩,fun b hb=>?_,q hz⟩
  have e:b=s1.heap.objs.size:=by simpa using hb
  subst e;exact I1.fpOk (AS _) (I1.hok.fresh (AS _))
 ·subst e;cases r1;obtain⟨its,rv,p,hz⟩:=I1.tuple hq;refine FF (show s1.heap.IsTuple a its.toArray from p) ?_
  refine⟨s1.heap.objs.size,[s1.heap.objs.size],_,_,H1,rfl,I1.kept (t':=s1.toks) fun b o e=>As _ e,aM a _,⟨_,AC _ rfl,rfl,rfl⟩,fun b hb=>?_,q hz⟩
  have e:b=s1.heap.objs.size:=by simpa using hb
  subst e;exact I1.fpOk (AS _) (I1.hok.fresh (AS _))
theorem Zb(he:SE X CL W e fe):SI X CL W tg e (fun ρ=>(fe ρ).bind Co):=fun A=>PI.weak (qF (he A)) fun σ H R ⟨hA,ρ,g,p⟩=>⟨hA,ρ,g,E9.ex p fun d v H1 _ s1 r1 p1=>by
 cases d with
 |lst ds=>
  obtain⟨q,xs,rfl,na,sq,r⟩:=r1;exact .inl ⟨q,rfl,xs,sq,fun hz=>p1 _ H1 (AN.refl H1) (aL na sq r) (by rw[<-r.length];exact hz)⟩
 |tup ds=>
  obtain⟨q,xs,rfl,na,sq,r⟩:=r1;exact .inr ⟨q,rfl,xs,sq,fun hz=>p1 _ H1 (AN.refl H1) (dX na sq r) (by rw[<-r.length];exact hz)⟩
 | _=>exact p1.elim⟩
theorem Pl{hi:Ae}{ds:Ac D}(h:C5 lo hi=.ok ds):(-(2 ^ 62)<=lo/\lo<2 ^ 62)/\(-(2 ^ 62)<=hi/\hi<2 ^ 62)/\ds=Ch lo (hi-lo).toNat/\(Ch lo (hi-lo).toNat).length<=sizeLine:=by
 unfold C5 at h;split at h
 ·rename_i q;cases h;exact⟨by omega,by omega,rfl,by rw[Jy,CO];omega⟩
 ·cases h
theorem OK{hi:Ae}{x:Ex}(h:C5 lo hi=.exn x):BN:=by
 unfold C5 at h;split at h<;>cases h
theorem oG(ha:ST X CL W a fa)(hg:Gl X "range")(hm:X.mg "range" = Af)(hs:AG [a] X.env=[(Ad,eval a X.env)]):SI X CL W tg (.Call (.Name "range" p) [a] [] pos) (fun ρ=>(fa ρ).bind fun x=>(E1 x).bind fun j=>C5 0 j):=
 fun A=>PI.weak (bD hg hm (E6 (ha A) GU hs) hs) fun σ H R ⟨hA,ρ,g,q⟩=>⟨hA,ρ,g,E9.ex q fun d v H1 _ s1 r1 p1=>by
  cases d with
  |int j=>
   have e:=r1.int_of;subst e;have p2:E9 X.K CL A W H1 (C5 0 j) R:=p1;cases e2:C5 0 j with
   |ok ds=>
    rw[e2]at p2;obtain⟨_,h2,rfl,hz⟩:=Pl e2;exact⟨j,rfl,h2.1,h2.2,p2 _ H1 (AN.refl H1) (by rw[Jk];exact Tw 0 j.toNat) hz⟩
   |exn y=>exact(OK e2).elim
   |bad=>rw[e2]at p2;exact p2.elim
  | _=>exact p1.elim⟩
theorem fL(ha:ST X CL W a fa)(hb:ST X CL W b fb)(hg:Gl X "range")(hm:X.mg "range" = Af)(hs:AG [a,b] X.env=[(Ad,eval a X.env),(Ad,eval b X.env)])(hs2:AG [b] X.env=[(Ad,eval b X.env)]):
  SI X CL W tg (.Call (.Name "range" p) [a,b] [] pos) (fun ρ=>(fa ρ).bind fun x=>(fb ρ).bind fun y=>(E1 x).bind fun i=>(E1 y).bind fun j=>C5 i j):=
 fun A=>PI.weak (aZ hg hm (E6 (ha A) (E6 (hb A) GU hs2) (by rw[hs,hs2])) hs hs2) fun σ H R ⟨hA,ρ,g,q⟩=>⟨hA,ρ,g,E9.ex q fun d v H1 _ s1 r1 p1=>⟨hA.same s1,ρ,g.same s1,E9.ex p1 fun d2 v2 H2 _ s2 r2 p2=>by
  cases d with
  |int i=>
   cases d2 with
   |int j=>
    have e:=r1.int_of;have e':=r2.int_of
    subst e e';have p3:E9 X.K CL A W H2 (C5 i j) R:=p2;cases e2:C5 i j with
    |ok ds=>
     rw[e2]at p3;obtain⟨h1,h2,rfl,hz⟩:=Pl e2;exact⟨i,j,rfl,⟨h1.1,h1.2,h2.1,h2.2⟩,p3 _ H2 (AN.refl H2) (Tw _ _) hz⟩
    |exn y=>exact(OK e2).elim
    |bad=>rw[e2]at p3;exact p3.elim
   |_=>exact p2.elim
  | _=>exact p2.elim⟩⟩
theorem CJ.exI{r:R (Ac D)}{f:Ac D->O}{Q:It->Hp->Prop}(x:Sx X.K CL Fz B ρ σ H)(h:CJ X.K CL Fz B W (O.of ρ r f) D')(k:∀ ds J H',r=.ok ds->AN H H'->Jf X.K CL A ds J H'->ds.length<=sizeLine->Sx X.K CL Fz B ρ σ H'->CJ X.K CL Fz B W (f ds) D'->Q J H'):E9 X.K CL A W H r Q:=by
 cases r with
 |ok d=>exact fun J H' s y z=>k d J H' rfl s y z (x.grow s) h
 |exn y=>exact fun H' s=>h H' fun b o z=>s _ _ (x.same b o z)
 |bad=>exact h
theorem CJ.turn{Fy:Al->HO->Prop}{o:O}{g:Rho->O}{N:L2.St->Hp->Prop}(hf:∀ b q,Fz b q->Fy b q)(h:CJ K CL Fz B W (o.turn g) D')(k:∀ ρ' σ' H',Sx K CL Fy B ρ' σ' H'->CJ K CL Fz B W (g ρ') D'->N σ' H'):CJ K CL Fy B W o {D' with nx:=N,ct:=N,bk:=D'.nx}:=by
 cases o with
 |next ρ'=>exact fun σ' H' x=>k ρ' σ' H' x h
 |cont ρ'=>exact fun σ' H' x=>k ρ' σ' H' x h
 |brk ρ'=>exact fun σ' H' x=>h σ' H' (x.mono hf)
 |ret d b=>exact fun v H' s r n=>h v H' (fun b o z=>s b o (hf b o z)) r fun z ds e=>let ⟨a,xs,h1,h2,h3⟩:=n z ds e;⟨a,xs,h1,fun o q=>h2 o (hf a o q),h3⟩
 |exn y ρ'=>exact fun H' s=>h H' (fun b o z=>s b o (hf b o z))
 |bad=>exact h
noncomputable def FH(ts:Ac Ag)(ρ:Rho):Rho:=ts.foldl (fun ρ t=>ρ.set t Af) ρ
def GT(K:Fg)(CL:ClA)(as:D->Rho->R Rho)(g:TG):Prop:=∀ Fz B ρ σ H v d ρ' Q,Sx K CL Fz B ρ σ H->Rep K CL H (CP B ρ σ) v d->as d ρ=.ok ρ'->(∀ σ',Sx K CL Fz B ρ' σ' H->Q σ' H)->g v σ H Q
theorem mC(i:Ag):GT K CL (fun d ρ=>.ok (ρ.set i (Ab (d,Ad)))) (Fn i):=fun Fz B ρ σ H v d ρ' Q x r e k=>by
 cases e;exact k _ (x.set i r)
theorem QF{K:Fg}{Fz:Al->HO->Prop}{B:Al->Prop}{H:Hp}:∀(ts:Ac Ag)(ds:Ac D)(vs:Ac V)(ρ ρ':Rho)(σ:L2.St)(Q:L2.St->Hp->Prop),Sx K CL Fz B ρ σ H->Reps K CL H (CP B ρ σ) vs ds->E5 ts ds ρ=Ab ρ'->(∀ σ',Sx K CL Fz B ρ' σ' H->Q σ' H)->(ts.foldr (fun t u=>HX (Fn t) u) Ib) vs σ H Q
 |[],[],[],ρ,ρ',σ,Q,x,_,e,k=>by
  cases e;exact⟨rfl,k σ x⟩
 |t::ts,d::ds,v::vs,ρ,ρ',σ,Q,x,r,e,k=>by
  refine⟨v,vs,rfl,QF ts ds vs _ ρ' _ Q (x.set t r.1) (Reps.sub (fun a ha=>?_) ds r.2) e k⟩
  rcases ha with ha|⟨j,c,h1,h2⟩
  ·exact .inl ha
  ·by_cases hj:t=j
   ·subst hj;have:=HL h1;cases this
   ·rw[Dh hj]at h1 h2;exact .inr ⟨j,c,h1,h2⟩
 |[],_::_,_,_,_,_,_,_,_,e,_=>by cases e
 |_::_,[],_,_,_,_,_,_,_,e,_=>by cases e
 |[],[],_::_,_,_,_,_,_,r,_,_=>r.elim
 |_::_,_::_,[],_,_,_,_,_,r,_,_=>r.elim
theorem MQ:∀(ts:Ac Ag)(ds:Ac D)(ρ ρ':Rho),E5 ts ds ρ=Ab ρ'->ds.length=ts.length
 |[],[],_,_,_=>rfl
 |_::ts,_::ds,_,_,e=>congrArg (· + 1) (MQ ts ds _ _ e)
 |[],_::_,_,_,e=>by cases e
 |_::_,[],_,_,e=>by cases e
theorem U8(ts:Ac Ag):GT K CL (GE ts) (Lk K ts.length (ts.foldr (fun t u=>HX (Fn t) u) Ib)):=fun Fz B ρ σ H v d ρ' Q x r e k=>by
 cases d with
 |tup ds=>
  obtain⟨a,xs,rfl,na,sq,rs⟩:=r;rw[SJ]at e;cases e2:E5 ts ds ρ with
  |none=>rw[e2]at e;cases e
  |some ρ2=>
   rw[e2]at e;cases e;exact⟨a,xs,rfl,sq,by rw[rs.length];exact MQ _ _ _ _ e2,QF ts ds xs ρ _ σ Q x rs e2 k⟩
 |_=>cases e
theorem Vj{body:Ac B8}{fbd:Rho->O}{g:TG}(hp:Gi (model X.prog X.w) X.A X.env X.xe)(hc:X.calm=Aa)(hGT:GT X.K CL as g)(hg:PG X tg g)(hit:SI X CL W tg iter fi)(hb:SSs X CL W body fbd)(hs:∀ x,Dk iter X.env x=pure x)(hax:∀ d ρ x,as d ρ≠.exn x):SS X CL W (.For tg iter body [] pos) (fun ρ=>O.of ρ (fi ρ) fun xs=>DF (fun x ρ'=>O.of ρ' (as x ρ') fbd) xs ρ):=fun Fz B pI s σ H D I ⟨ρ,x,p⟩=>by
 refine rV hp hc (hit (CP B ρ σ)) hg (tb:=fun D σ H=>∃ Fy,(fun D σ H=>∃ ρ,Sx X.K CL Fy B ρ σ H/\CJ X.K CL Fy B W (fbd ρ) D) D σ H) (fun pI s σ H D I ⟨Fy,q⟩=>hb Fy B pI s σ H D I q) hs pI s σ H D I ⟨x.aok,ρ,x.good,CJ.exI x p fun ds J H1 _ s1 y _ x1 q=>?_⟩
 let Fy:Al->HO->Prop:=fun b o=>H1 b=Ab o/\¬ ∃(j:Ag)(d:Ov.D),ρ[j]?=Ab (Ab (d,Aa))/\σ[j]?=Ab (Ab (.ref b))
 have hfy:∀ b o,Fz b o->Fy b o:=fun b o z=>⟨x1.same b o z,fun ⟨j,d,h1,h2⟩=>(x1.new j d b h1 h2).1 o z⟩
 have xy:Sx X.K CL Fy B ρ σ H1:=⟨x1.good,x1.aok,fun j d a h1 h2=>⟨fun o z=>z.2 ⟨j,d,h1,h2⟩,(x1.new j d a h1 h2).2⟩,x1.dis,fun b o z=>z.1,x1.len⟩
 refine⟨fun k m σ' H'=>m=ds.length-k/\k<=ds.length/\∃ ρ',Sx X.K CL Fy B ρ' σ' H'/\CJ X.K CL Fz B W (DF (fun x ρ'=>O.of ρ' (as x ρ') fbd) (ds.drop k) ρ') D,⟨ds.length,by simp,CW _,ρ,xy,q⟩,?_⟩
 rintro k m σ' H' ⟨rfl,hk,ρ',x',q'⟩;have kp:Kp (CP B ρ σ) H1 H':=fun b o e na=>x'.same b o ⟨e,fun z=>na (.inr z)⟩
 obtain⟨yst,ygo⟩:=y H' kp k;by_cases hlt:k<ds.length
 ·have hd:ds[k]?=Ab ds[k]:=AU hlt;obtain⟨hgo,hyl⟩:=ygo _ hd;refine .inr ⟨hgo,fun σ'' H''=>∃ ρ'',Sx X.K CL Fy B ρ'' σ'' H''/\CJ X.K CL Fz B W (DF (fun x ρ'=>O.of ρ' (as x ρ') fbd) (ds.drop (k+1)) ρ'') D,fun σ'' H'' z=>⟨ds.length-(k+1),by omega,rfl,hlt,z⟩,fun v H2 hv=>?_⟩
  obtain⟨e2,rv⟩:=hyl v H2 hv;rw[Fo hlt]at q';have q2:CJ X.K CL Fz B W ((O.of ρ' (as ds[k] ρ') fbd).turn (DF (fun x ρ'=>O.of ρ' (as x ρ') fbd) (ds.drop (k+1)))) D:=q'
  have rv':Rep X.K CL H2 (CP B ρ' σ') v ds[k]:=rv _ (fun a ha=>by
    rcases ha with ha|⟨j,d,h1,h2⟩
    ·exact .inl (.inl ha)
    ·cases e:H1 a with
     |none=>exact .inr rfl
     |some o=>
      by_cases ho:∃(j:Ag)(d:Ov.D),ρ[j]?=Ab (Ab (d,Aa))/\σ[j]?=Ab (Ab (.ref a))
      ·exact .inl (.inr ho)
      ·exact absurd ⟨e,ho⟩ ((x'.new j d a h1 h2).1 o)) x'.aok
  cases ea:as ds[k] ρ' with
  |bad=>rw[ea]at q2;exact q2.elim
  |exn z=>exact absurd ea (hax _ _ z)
  |ok ρ2=>
   rw[ea,O.of_ok]at q2;exact hGT Fy B ρ' σ' H2 v ds[k] ρ2 _ (x'.grow e2) rv' ea fun σ3 x3=>⟨Fy,ρ2,x3,CJ.turn hfy q2 fun ρ3 σ3 H3 x3 q3=>⟨ρ3,x3,q3⟩⟩
 ·have hk':ds.length<=k:=by omega
  rw[W2 hk']at q';exact .inl ⟨yst hk',q' σ' H' (x'.mono hfy)⟩
end
section
variable{X:Cx}{CL:ClA}{W:XW}{a b c:Ar}{fa fb fc:Rho->R D}{pos:Bb}
noncomputable def tyK:Ki->At Ec
 |.int=>Ab "int"
 |.bool=>Ab "bool"
 |.str=>Ab "str"
 |.list=>Ab "list"
 |.tuple=>Ab "tuple"
 |_=>Af
noncomputable def Ql:D->Ao
 |.obj _ _=>Ad
 |.exc _ _=>Ad
 |.dic _=>Ad
 |_=>Aa
theorem tG{k:Ki}{Q:Vq}{E:Vq}(I:Inv X pI σ H s)(r:Dd X.K CL H A v d)(q:BY v u)(hT:tyK k=Ab T)(hd:Ql d=Aa)(h:∀ s',Inv X pI σ H s'->Q (.bool (kiD up k d)) s'):
  Az (model X.prog X.w) X.A (call (.builtin "isinstance") [u,.type T]) Q E s:=by
 have r':=r.plain;have it:=fun t=>h _ (I.tok t)
 cases d with
 |obj=>cases hd
 |exc=>cases hd
 |dic=>cases hd
 |non=>
  cases r';cases q;cases k<;>simp only[tyK]at hT<;>cases hT
  ·exact IsiPair.NoneType_int (it _)
  ·exact IsiPair.NoneType_bool (it _)
  ·exact IsiPair.NoneType_str (it _)
  ·exact IsiPair.NoneType_list (it _)
  ·exact IsiPair.NoneType_tuple (it _)
 |bl b=>
  cases r';cases q;cases k<;>simp only[tyK]at hT<;>cases hT
  ·exact IsiPair.bool_int (h _ I)
  ·exact IsiPair.bool_bool (h _ I)
  ·exact IsiPair.bool_str (it _)
  ·exact IsiPair.bool_list (it _)
  ·exact IsiPair.bool_tuple (it _)
 |int i=>
  cases r';obtain⟨t,rfl⟩:=q;cases k<;>simp only[tyK]at hT<;>cases hT
  ·exact IsiPair.int_int (h _ I)
  ·exact IsiPair.int_bool (it _)
  ·exact IsiPair.int_str (it _)
  ·exact IsiPair.int_list (it _)
  ·exact IsiPair.int_tuple (it _)
 |str x=>
  cases r';obtain⟨t,rfl⟩:=q;cases k<;>simp only[tyK]at hT<;>cases hT
  ·exact IsiPair.str_int (it _)
  ·exact IsiPair.str_bool (it _)
  ·exact IsiPair.str_str (h _ I)
  ·exact IsiPair.str_list (it _)
  ·exact IsiPair.str_tuple (it _)
 |tup ds=>
  obtain⟨p,xs,rfl,_,sq,rr⟩:=r';obtain⟨its,rv,pt,_⟩:=I.tuple sq;cases q;have pt':s.heap.IsTuple p its.toArray:=pt;cases k<;>simp only[tyK]at hT<;>cases hT
  ·exact IsiPair.isTuple_int pt' (fun _ _ e=>e) (it _)
  ·exact IsiPair.isTuple_bool pt' (fun _ _ e=>e) (it _)
  ·exact IsiPair.isTuple_str pt' (fun _ _ e=>e) (it _)
  ·exact IsiPair.isTuple_list pt' (fun _ _ e=>e) (it _)
  ·exact IsiPair.isTuple_tuple pt' (fun _ _ e=>e) (h _ I)
 |lst ds=>
  obtain⟨p,xs,rfl,_,sq,rr⟩:=r';obtain⟨its,rv,pl,_⟩:=I.list sq;cases q;have pt':s.heap.IsList p its.toArray:=Iw pl;cases k<;>simp only[tyK]at hT<;>cases hT
  ·exact IsiPair.isList_int pt' (fun _ _ e=>e) (it _)
  ·exact IsiPair.isList_bool pt' (fun _ _ e=>e) (it _)
  ·exact IsiPair.isList_str pt' (fun _ _ e=>e) (it _)
  ·exact IsiPair.isList_list pt' (fun _ _ e=>e) (h _ I)
  ·exact IsiPair.isList_tuple pt' (fun _ _ e=>e) (it _)
theorem aS{k:Ki}(hT:tyK k=Ab T)(p:Bt Rp W H (G0 up [k] d) Q):Ql d=Aa/\Bt Rp W H (.ok (.bl (kiD up k d))) Q:=by
 cases k<;>simp only[tyK]at hT<;>cases hT<;>cases d<;>first|exact p.elim|exact⟨rfl,by simpa using p⟩
theorem oO{k:Ki}(hT:tyK k=Ab T)(hg:Gl X "isinstance")(hm:X.mg "isinstance" = Af)(hg2:Gl X x)(hm2:X.mg x=Af)(hv:Db x=Ab (.type T))(hn:x≠"__name__")(hdb:(x==("__debug__" : Ak))=Ad)(ha:ST X CL W a fa)(he:AG [a,.Name x p2] X.env=(Ad,eval a X.env)::AG [.Name x p2] X.env):SE X CL W (.Call (.Name "isinstance" p) [a,.Name x p2] [] pos) (fun ρ=>(fa ρ).bind fun x=>G0 up [k] x):=fun A=>
 PE.weak (Pw (r:=fun xs H Q=>∃ y d,xs=[y,.ty T]/\Dd X.K CL H A y d/\Ql d=Aa/\Q (.bl (kiD up k d)) H) (fun pI s σ H xs us Q I r ⟨y,d,e,ry,hd,q⟩=>by
   subst e;obtain⟨u,w',rfl,r1,r2⟩:=QL r;cases r2;exact tG I ry r1 hT hd fun s' I'=>⟨.bl _,H,I',rfl,q⟩)
  hg hm boot_isinstance (E6 (ha A) (E6 (iQ (v:=.ty T) hg2 hm2 hv rfl hn hdb) GU rfl) he) (by decide) (by decide) he rfl) fun σ H Q ⟨hA,ρ,g,q⟩=>⟨hA,ρ,g,Bt.bind q fun d v H1 _ s1 r1 p1=>by
   obtain⟨hd,p2⟩:=aS hT p1;exact⟨v,d,rfl,r1,hd,p2 _ H1 (AN.refl H1) rfl⟩⟩
theorem PQ{b:Ao}{A':Bx}{E:Vq}{Q:Ao->Ap->Prop}(r:Rep X.K CL H A v d)(q:BY v u)(h:EH d=.ok b)(hq:Q b s):Az (model prog w) A' (truthy u) Q E s:=by
 cases d with
 |non=>
  cases r;cases q;cases h;exact truthy_none hq
 |bl k=>
  cases r;cases q;cases h;exact C1 hq
 |int i=>
  cases r;obtain⟨t,rfl⟩:=q;cases h;exact truthy_int hq
 |_=>cases h
theorem Sj:∀{ds:Ac D}{b:Ao},Hn ds=.ok b->(∀ j,j<ds.length->∃ c,EH (ds.getD j .non)=.ok c)/\b=(Bk ds.length).all fun j=>match EH (ds.getD j .non) with
  |.ok c=>c
  |_=>Ad
 |[],b,h=>by cases h;exact⟨fun j hj=>absurd hj (Fq _),rfl⟩
 |d::ds,b,h=>by
  rw[OW]at h;cases e:EH d with
  |bad=>rw[e]at h;cases h
  |exn x=>rw[e]at h;cases h
  |ok c=>
   rw[e,R.bind_ok]at h;cases e2:Hn ds with
   |bad=>rw[e2]at h;cases h
   |exn x=>rw[e2]at h;cases h
   |ok c2=>
    rw[e2,R.bind_ok]at h;cases h;obtain⟨h1,h2⟩:=Sj e2;refine⟨fun j hj=>?_,?_⟩
    ·cases j with
     |zero=>exact⟨c,e⟩
     |succ j=>exact h1 j (by simpa using hj)
    ·rw[Ck,Sh,h2];show (c&&_)=((match EH d with | .ok c=>c|_=>Ad)&&_)
     rw[e];rfl
theorem Si:∀{ds:Ac D}{b:Ao},FY ds=.ok b->(∀ j,j<ds.length->∃ c,EH (ds.getD j .non)=.ok c)/\b=(Bk ds.length).any fun j=>match EH (ds.getD j .non) with
  |.ok c=>c
  |_=>Ad
 |[],b,h=>by cases h;exact⟨fun j hj=>absurd hj (Fq _),rfl⟩
 |d::ds,b,h=>by
  rw[SL]at h;cases e:EH d with
  |bad=>rw[e]at h;cases h
  |exn x=>rw[e]at h;cases h
  |ok c=>
   rw[e,R.bind_ok]at h;cases e2:FY ds with
   |bad=>rw[e2]at h;cases h
   |exn x=>rw[e2]at h;cases h
   |ok c2=>
    rw[e2,R.bind_ok]at h;cases h;obtain⟨h1,h2⟩:=Si e2;refine⟨fun j hj=>?_,?_⟩
    ·cases j with
     |zero=>exact⟨c,e⟩
     |succ j=>exact h1 j (by simpa using hj)
    ·rw[Ck,Xl,WY,List.any_map,h2];show (c||_)=((match EH d with | .ok c=>c|_=>Ad)||_)
     rw[e];rfl
theorem TD:∀(ds:Ac D)(a z:Ae),H9 a ds=.ok z->(∀ j,j<ds.length->∃ i,ds.getD j .non=.int i)/\z=a+Jv (fun j=>match ds.getD j .non with
  |.int i=>i
  | _=>0) ds.length
 |[],a,z,h=>by cases h;exact⟨fun j hj=>absurd hj (Fq _),by simp[Jv]⟩
 |.int i::ds,a,z,h=>by
  obtain⟨h1,h2⟩:=TD ds (a+i) z h;refine⟨fun j hj=>?_,?_⟩
  ·cases j with
   |zero=>exact⟨i,rfl⟩
   |succ j=>exact h1 j (by simpa using hj)
  ·have key:∀ n,Jv (fun j=>match (D.int i::ds).getD j .non with | .int i=>i|_=>0) (n+1)=i+Jv (fun j=>match ds.getD j .non with | .int i=>i|_=>0) n:=by
    intro n
    induction n with
    |zero=>show (0:Ae)+i=i+0;omega
    |succ n ih=>
     show Jv _ (n+1)+(match ds.getD n .non with | .int i=>i|_=>0)=i+(Jv _ n+(match ds.getD n .non with | .int i=>i|_=>0))
     rw[ih];omega
   rw[h2,Ck,key];omega
 |.non::_,_,_,h=>by cases h
 |.bl _::_,_,_,h=>by cases h
 |.str _::_,_,_,h=>by cases h
 |.tup _::_,_,_,h=>by cases h
 |.lst _::_,_,_,h=>by cases h
 |.obj _ _::_,_,_,h=>by cases h
 |.exc _ _::_,_,_,h=>by cases h
 |.dic _::_,_,_,h=>by cases h
theorem L8{ds:Ac D}{its:Ac Ai}(r:Reps X.K CL H A0 xs ds)(rv:Br xs its){v:Ai}(h:its.toArray[j]?=Ab v):j<ds.length/\∃ x,Rep X.K CL H A0 x (ds.getD j .non)/\BY x v:=by
 have h':its[j]?=Ab v:=by simpa using h
 obtain⟨hj,e⟩:=Ba.mp h';obtain⟨x,rx,q⟩:=J2 r rv hj;have l1:=rv.length;have l2:=r.length
 exact⟨by omega,x,rx,by rw[<-e];exact q⟩
theorem Mp(k:∀ b q,b∉[h.objs.size]->(h.push o).get? b=Ab q->h'.get? b=Ab q):∀ b q,h.get? b=Ab q->h'.get? b=Ab q:=fun b q e=>k b q (by
 intro z;have:=BA.mp z;rw[this]at e;exact absurd (AF e) (Bw _)) (As _ e)
theorem uL(hc:X.calm=Aa):Jc X CL W (.builtin "all") (biD .all):=by
  intro A pI s σ H xs us Q I r ⟨hA,ds,rs,p⟩
  match ds,rs,p with
  |[.lst es],rs,p=>
    obtain⟨v,rfl,rv⟩:=rs.one;obtain⟨q,ys,e,_,sq,ry⟩:=rv.plain;subst e;obtain⟨u,rfl,ru⟩:=HY r;cases ru;rw[zO]at p;cases e1:Hn es with
    |bad=>rw[e1]at p;exact p.elim
    |exn x=>
      exfalso
      have:∀(es:Ac D) x,Hn es≠.exn x:=by
        intro es
        induction es with
        |nil=>intro x h;cases h
        |cons d ds ih=>
          intro x h;rw[OW]at h;cases e:EH d with
          |bad=>rw[e]at h;cases h
          |exn y=>cases d<;>cases e
          |ok c=>
            rw[e,R.bind_ok]at h;cases e2:Hn ds with
            |bad=>rw[e2]at h;cases h
            |exn y=>exact ih y e2
            |ok c2=>rw[e2]at h;cases h
      exact this es x e1
    |ok b=>
      rw[e1,R.bind_ok]at p;obtain⟨h1,h2⟩:=Sj e1;obtain⟨its,rvv,pl,_⟩:=I.list sq;have hlt:q<s.heap.objs.size:=by obtain⟨o,n,e,_⟩:=pl;exact AF e
      have hl:its.toArray.size=es.length:=by rw[AE,<-rvv.length,ry.length]
      refine call_all_walk (Eb (Iw pl) ⟨s.heap.objs.size,_,_,_,_,_,(fun j=>match EH (es.getD j .non) with | .ok c=>c|_=>Ad),rfl,Km (A:=X.A.in1) (I.ok.hd hc) s.heap.objs.size q (A1 hlt) its.toArray,⟨⟨_,AC _ rfl,rfl,rfl⟩,(Iw pl).push _⟩,fun j v s' Q' E' hv hQ=>?_,fun h' tk k=>?_⟩)
      · obtain⟨hj,x,rx,qx⟩:=L8 ry rvv hv;obtain⟨c,ec⟩:=h1 j hj;exact PQ rx qx ec (by dsimp only at hQ;rw[ec]at hQ;exact hQ)
      · rw[hl,<-h2];exact⟨.bl b,H,I.kept (Mp k),rfl,p _ H (AN.refl H) rfl⟩
  |[],_,p=>exact p.elim
  |[.non],_,p=>exact p.elim
  |[.bl _],_,p=>exact p.elim
  |[.int _],_,p=>exact p.elim
  |[.str _],_,p=>exact p.elim
  |[.tup _],_,p=>exact p.elim
  |[.obj _ _],_,p=>exact p.elim
  |[.exc _ _],_,p=>exact p.elim
  |[.dic _],_,p=>exact p.elim
  |x::_::_,_,p=>cases x<;>exact p.elim
theorem UB(hc:X.calm=Aa){ys:Ac V}{es:Ac D}(I:Inv X pI σ H s)(sq:SqL X.K H q ys\/SqT X.K H q ys)(ry:Reps X.K CL H A0 ys es)(p:Bt (fun H=>Rep X.K CL H A) W H ((FY es).bind fun b=>.ok (.bl b)) Q):Az (model X.prog X.w) X.A (call (.builtin "any") [.ref q]) (EP X pI σ Q) X.xe s:=by
 cases e1:FY es with
 |bad=>rw[e1]at p;exact p.elim
 |exn x=>
  exfalso
  clear p
  have:∀(es:Ac D) x,FY es≠.exn x:=by
   intro es
   induction es with
   |nil=>intro x h;cases h
   |cons d ds ih=>
    intro x h;rw[SL]at h;cases e:EH d with
    |bad=>rw[e]at h;cases h
    |exn y=>cases d<;>cases e
    |ok c=>
     rw[e,R.bind_ok]at h;cases e2:FY ds with
     |bad=>rw[e2]at h;cases h
     |exn y=>exact ih y e2
     |ok c2=>rw[e2]at h;cases h
  exact this es x e1
 |ok b=>
  rw[e1,R.bind_ok]at p;obtain⟨h1,h2⟩:=Si e1;rcases sq with sq|sq
  ·obtain⟨its,rvv,pl,_⟩:=I.list sq;have hlt:q<s.heap.objs.size:=by obtain⟨o,n,e,_⟩:=pl;exact AF e
   have hl:its.toArray.size=es.length:=by rw[AE,<-rvv.length,ry.length]
   refine call_any_walk (Eb (Iw pl) ⟨s.heap.objs.size,_,_,_,_,_,(fun j=>match EH (es.getD j .non) with | .ok c=>c|_=>Ad),rfl,Km (A:=X.A.in1) (I.ok.hd hc) s.heap.objs.size q (A1 hlt) its.toArray,⟨⟨_,AC _ rfl,rfl,rfl⟩,(Iw pl).push _⟩,fun j v s' Q' E' hv hQ=>?_,fun h' tk k=>?_⟩)
   ·obtain⟨hj,x,rx,qx⟩:=L8 ry rvv hv;obtain⟨c,ec⟩:=h1 j hj;exact PQ rx qx ec (by dsimp only at hQ;rw[ec]at hQ;exact hQ)
   ·rw[hl,<-h2];exact⟨.bl b,H,I.kept (Mp k),rfl,p _ H (AN.refl H) rfl⟩
  ·obtain⟨its,rvv,pl,_⟩:=I.tuple sq;have pl':s.heap.IsTuple q its.toArray:=pl;have hlt:q<s.heap.objs.size:=by obtain⟨o,e,_⟩:=pl';exact AF e
   have hl:its.toArray.size=es.length:=by rw[AE,<-rvv.length,ry.length]
   refine call_any_walk (FF pl' ⟨s.heap.objs.size,_,_,_,_,_,(fun j=>match EH (es.getD j .non) with | .ok c=>c|_=>Ad),rfl,Yw (A:=X.A.in1) (I.ok.hd hc) s.heap.objs.size q (A1 hlt) its.toArray,⟨⟨_,AC _ rfl,rfl,rfl⟩,pl'.push _⟩,fun j v s' Q' E' hv hQ=>?_,fun h' tk k=>?_⟩)
   ·obtain⟨hj,x,rx,qx⟩:=L8 ry rvv hv;obtain⟨c,ec⟩:=h1 j hj;exact PQ rx qx ec (by dsimp only at hQ;rw[ec]at hQ;exact hQ)
   ·rw[hl,<-h2];exact⟨.bl b,H,I.kept (Mp k),rfl,p _ H (AN.refl H) rfl⟩
theorem uK(hc:X.calm=Aa):Jc X CL W (.builtin "any") (biD .any):=by
  intro A pI s σ H xs us Q I r ⟨hA,ds,rs,p⟩
  match ds,rs,p with
  |[.lst es],rs,p=>
    obtain⟨v,rfl,rv⟩:=rs.one;obtain⟨q,ys,e,_,sq,ry⟩:=rv.plain;subst e;obtain⟨u,rfl,ru⟩:=HY r;cases ru;exact UB hc I (.inl sq) ry p
  |[.tup es],rs,p=>
    obtain⟨v,rfl,rv⟩:=rs.one;obtain⟨q,ys,e,_,sq,ry⟩:=rv.plain;subst e;obtain⟨u,rfl,ru⟩:=HY r;cases ru;exact UB hc I (.inr sq) ry p
  |[],_,p=>exact p.elim
  |[.non],_,p=>exact p.elim
  |[.bl _],_,p=>exact p.elim
  |[.int _],_,p=>exact p.elim
  |[.str _],_,p=>exact p.elim
  |[.obj _ _],_,p=>exact p.elim
  |[.exc _ _],_,p=>exact p.elim
  |[.dic _],_,p=>exact p.elim
  |x::_::_,_,p=>cases x<;>exact p.elim
theorem Ut(hc:X.calm=Aa){ys:Ac V}{es:Ac D}(I:Inv X pI σ H s)(sq:SqL X.K H q ys\/SqT X.K H q ys)(ry:Reps X.K CL H A0 ys es)(p:Bt (fun H=>Rep X.K CL H A) W H ((H9 0 es).bind fun b=>.ok (.int b)) Q):Az (model X.prog X.w) X.A (call (.builtin "sum") [.ref q]) (EP X pI σ Q) X.xe s:=by
 cases e1:H9 0 es with
 |bad=>rw[e1]at p;exact p.elim
 |exn x=>
  exfalso
  have:∀(es:Ac D)(a:Ae) x,H9 a es≠.exn x:=by
   intro es
   induction es with
   |nil=>intro a x h;cases h
   |cons d ds ih=>
    intro a x h;cases d<;>first|exact ih _ _ h|cases h
  exact this es 0 x e1
 |ok z=>
  rw[e1,R.bind_ok]at p;obtain⟨h1,h2⟩:=TD es 0 z e1;rw[FA]at h2;rcases sq with sq|sq
  ·obtain⟨its,rvv,pl,_⟩:=I.list sq;have hlt:q<s.heap.objs.size:=by obtain⟨o,n,e,_⟩:=pl;exact AF e
   have hl:its.toArray.size=es.length:=by rw[AE,<-rvv.length,ry.length]
   refine Yy (Eb (Iw pl) ⟨s.heap.objs.size,_,_,_,_,_,(fun j=>match es.getD j .non with | .int i=>i|_=>0),rfl,Km (A:=X.A.in1) (I.ok.hd hc) s.heap.objs.size q (A1 hlt) its.toArray,⟨⟨_,AC _ rfl,rfl,rfl⟩,(Iw pl).push _⟩,fun b hb=>?_,fun j v hv=>?_,fun h' tk t' k=>?_⟩)
   ·show b<(s.heap.push _).objs.size;rw[Bz];rcases Aw.mp hb with rfl|hb
    ·exact Ga _
    ·rw[BA.mp hb];exact CY hlt
   ·obtain⟨hj,x,rx,qx⟩:=L8 ry rvv hv;obtain⟨i,ei⟩:=h1 j hj;rw[ei]at rx;dsimp only;rw[ei];cases rx;exact qx
   ·rw[hl,<-h2];exact⟨.int z,H,I.kept (Mp k),⟨_,rfl⟩,p _ H (AN.refl H) rfl⟩
  ·obtain⟨its,rvv,pl,_⟩:=I.tuple sq;have pl':s.heap.IsTuple q its.toArray:=pl;have hlt:q<s.heap.objs.size:=by obtain⟨o,e,_⟩:=pl';exact AF e
   have hl:its.toArray.size=es.length:=by rw[AE,<-rvv.length,ry.length]
   refine Yy (FF pl' ⟨s.heap.objs.size,_,_,_,_,_,(fun j=>match es.getD j .non with | .int i=>i|_=>0),rfl,Yw (A:=X.A.in1) (I.ok.hd hc) s.heap.objs.size q (A1 hlt) its.toArray,⟨⟨_,AC _ rfl,rfl,rfl⟩,pl'.push _⟩,fun b hb=>?_,fun j v hv=>?_,fun h' tk t' k=>?_⟩)
   ·show b<(s.heap.push _).objs.size;rw[Bz];rcases Aw.mp hb with rfl|hb
    ·exact Ga _
    ·rw[BA.mp hb];exact CY hlt
   ·obtain⟨hj,x,rx,qx⟩:=L8 ry rvv hv;obtain⟨i,ei⟩:=h1 j hj;rw[ei]at rx;dsimp only;rw[ei];cases rx;exact qx
   ·rw[hl,<-h2];exact⟨.int z,H,I.kept (Mp k),⟨_,rfl⟩,p _ H (AN.refl H) rfl⟩
theorem uG(hc:X.calm=Aa):Jc X CL W (.builtin "sum") (biD .sum):=by
  intro A pI s σ H xs us Q I r ⟨hA,ds,rs,p⟩
  match ds,rs,p with
  |[.lst es],rs,p=>
    obtain⟨v,rfl,rv⟩:=rs.one;obtain⟨q,ys,e,_,sq,ry⟩:=rv.plain;subst e;obtain⟨u,rfl,ru⟩:=HY r;cases ru;exact Ut hc I (.inl sq) ry p
  |[.tup es],rs,p=>
    obtain⟨v,rfl,rv⟩:=rs.one;obtain⟨q,ys,e,_,sq,ry⟩:=rv.plain;subst e;obtain⟨u,rfl,ru⟩:=HY r;cases ru;exact Ut hc I (.inr sq) ry p
  |[],_,p=>exact p.elim
  |[.non],_,p=>exact p.elim
  |[.bl _],_,p=>exact p.elim
  |[.int _],_,p=>exact p.elim
  |[.str _],_,p=>exact p.elim
  |[.obj _ _],_,p=>exact p.elim
  |[.exc _ _],_,p=>exact p.elim
  |[.dic _],_,p=>exact p.elim
  |x::_::_,_,p=>cases x<;>exact p.elim
end
section
variable(K:Fg)(CL:ClA)
def YT(H0:Hp)(A:Al->Prop)(H:Hp)(v:V)(d:D):Prop:=∀ ds,d=.lst ds->∃ a xs,v=.ref a/\H0 a=Af/\H a=Ab (.lst xs)/\Reps K CL H (fun b=>A b\/b=a) xs ds
def Em(fr:Ao)(H0:Hp)(A:Al->Prop)(H:Hp)(v:V)(d:D):Prop:=Rep K CL H A v d/\(fr=Aa->YT K CL H0 A H v d)
end
section
variable{X:Cx}{CL:ClA}{W:XW}{a b c:Ar}{fa fb fc:Rho->R D}{pos:Bb}
def SC(X:Cx)(CL:ClA)(W:XW)(fr:Ao)(e:Ar)(f:Rho->R D):Prop:=∀ A,PE X e (fun σ H Q=>AOk H A/\∃ ρ,Good X.K CL A ρ σ H/\Bt (Em X.K CL fr H A) W H (f ρ) Q)
theorem SC.se{fr:Ao}(h:SC X CL W fr a fa):SE X CL W a fa:=fun A=>PE.weak (h A) fun σ H Q ⟨hA,ρ,g,p⟩=>⟨hA,ρ,g,by
 cases e:fa ρ with
 |ok d=>rw[e]at p;exact fun v H' s r=>p v H' s r.1
 |exn x=>rw[e]at p;exact p
 | bad=>rw[e]at p;exact p⟩
theorem SE.sc(h:SE X CL W a fa):SC X CL W Ad a fa:=fun A=>PE.weak (h A) fun σ H Q ⟨hA,ρ,g,p⟩=>⟨hA,ρ,g,by
 cases e:fa ρ with
 |ok d=>rw[e]at p;exact fun v H' s r=>p v H' s ⟨r,fun z=>nomatch z⟩
 |exn x=>rw[e]at p;exact p
 | bad=>rw[e]at p;exact p⟩
theorem SC.congr{fr:Ao}{f g:Rho->R D}(h:SC X CL W fr a f)(e:∀ ρ,g ρ=f ρ):SC X CL W fr a g:=fun A=>PE.weak (h A) fun σ H Q ⟨hA,ρ,q,p⟩=>⟨hA,ρ,q,by rw[<-e];exact p⟩
theorem Jz{p:Al}{ds:Ac D}(s:AN H0 H)(hA:AOk H A)(hp:H p=Af)(r:Reps K CL H A xs ds):Em K CL Aa H0 A (upd H p (.lst xs)) (.ref p) (.lst ds):=
 ⟨Uo hA hp r,fun _ ds' e=>by
  cases e;exact⟨p,xs,rfl,s.free hp,HJ,(Reps.wide (fun a ha=>ha.imp id fun e=>by rw[e];exact hp) _ r).same (FV hp _)⟩⟩
theorem Uz{fr:Ao}(r:Rep K CL H A v d)(h:∀ ds,d≠.lst ds):Em K CL fr H0 A H v d:=⟨r,fun _ ds e=>absurd e (h ds)⟩
theorem pW(hs:SA X CL W es fs)(hz:∀ ρ ds,fs ρ=.ok ds->ds.length<=100000):SC X CL W Aa (.List es pos) (fun ρ=>(fs ρ).bind fun xs=>.ok (.lst xs)):=
 fun A=>PE.weak (qM (hs A)) fun σ H Q ⟨hA,ρ,g,p⟩=>⟨hA,ρ,g,Ho.bind p fun ds vs H1 e s1 r1 p1=>⟨by
  rw[r1.length,CO];have:=hz ρ ds e;omega,fun q hq=>p1 _ _ (FV hq _) (Jz s1 (hA.same s1) hq r1)⟩⟩
theorem Bt.bindF{fr:Ao}{f:D->R D}{Q':VK}(h:Bt (Em K CL fr H A) W H (r.bind f) Q)(k:∀ d v H',r=.ok d->AN H H'->Rp H' v d->Bt (Em K CL fr H A) W H' (f d) Q->Q' v H'):Bt Rp W H r Q':=by
 cases r with
 |ok d=>exact fun v H2 s2 q=>k d v H2 rfl s2 q (Bt.same s2 h)
 |exn x=>exact h
 |bad=>exact h
theorem Ho.bindF{Rp:Hp->Ac V->Ac D->Prop}{r:R (Ac D)}{f:Ac D->R D}{Q':Ac V->Hp->Prop}(h:Bt Rq W H (r.bind f) Q)(k:∀ d v H',r=.ok d->AN H H'->Rp H' v d->Bt Rq W H' (f d) Q->Q' v H'):Ho Rp W H r Q':=by
 cases r with
 |ok d=>exact fun v H2 s2 q=>k d v H2 rfl s2 q (Bt.same s2 h)
 |exn x=>exact h
 |bad=>exact h
theorem J8.bindF{r:R (At Ae)}{f:At Ae->R D}(h:Bt Rq W H (r.bind f) Q)(k:∀ o H',r=.ok o->AN H H'->Bt Rq W H' (f o) Q->Q' o H'):J8 W H r Q':=by
 cases r with
 |ok d=>exact fun H2 s2=>k d H2 rfl s2 (Bt.same s2 h)
 |exn x=>exact h
 |bad=>exact h
theorem vE{lo hi:At Ar}{fl fh:Rho->R (At Ae)}(ha:ST X CL W a fa)(hl:SO X CL W lo fl)(hh:SO X CL W hi fh):SC X CL W Aa (.Subscript a (.Slice lo hi Af p2) pos) (fun ρ=>(fa ρ).bind fun x=>(fl ρ).bind fun l=>(fh ρ).bind fun h=>slD x l h):=
 fun A=>PE.weak (dJ (r:=fun x l h H Q=>Ru X.K x l h H Q\/Rt X.K x l h H Q) (fun pI s σ H x v vl vu lo hi sl Q I rx hs pl pu h=>h.elim (fK pI s σ H x v vl vu lo hi sl Q I rx hs pl pu) (oE pI s σ H x v vl vu lo hi sl Q I rx hs pl pu)) (ha A) (hl A) (hh A)) fun σ H Q ⟨hA,ρ,g,p⟩=>⟨hA,ρ,g,Bt.bindF p fun dx x H1 _ s1 r1 p1=>⟨hA.same s1,ρ,g.same s1,J8.bindF p1 fun l H2 _ s2 p2=>⟨(hA.same s1).same s2,ρ,(g.same s1).same s2,J8.bindF p2 fun h H3 _ s3 p3=>by
  cases dx with
  |lst ds=>
   obtain⟨q,xs,rfl,sq,r⟩:=((r1.same s2).same s3).lst_of;exact .inl ⟨q,xs,rfl,sq,fun t ht=>p3 _ _ (FV ht _) (Jz ((s1.trans s2).trans s3) (((hA.same s1).same s2).same s3) ht (U0 l h r))⟩
  |tup ds=>
   obtain⟨q,xs,rfl,_,sq,r⟩:=((r1.same s2).same s3).tup_of;rw[Za]at p3;split at p3
   ·exact p3.elim
   ·rename_i hw;refine .inr ⟨q,xs,rfl,sq,?_,fun t ht=>p3 _ _ (FV ht _) (Uz (KM (((hA.same s1).same s2).same s3) ht (U0 l h r)) (by intro _ z;cases z))⟩
    rintro⟨h1,h2⟩;refine hw ?_;have e:∀ d o,HT.sIx xs.length d o=IC ds.length d o:=fun d o=>by rw[r.length];cases o<;>rfl
    rw[e]at h1 h2;rw[r.length]at h2;simp[h1,h2]
  | _=>exact p3.elim⟩⟩⟩
noncomputable def OpN(X:Cx)(CL:ClA)(W:XW)(f:Ai->Ai->Hc Ai)(g:D->D->R D):Prop:=
 ∀ A H0,OpR X f (fun x y H Q=>AN H0 H/\AOk H A/\∃ dx dy,Dd X.K CL H A x dx/\Dd X.K CL H A y dy/\Bt (Em X.K CL Aa H0 A) W H (g dx dy) Q)
theorem iS:OpN X CL W (Ct .Add) (CM .Add):=by
 intro A H0 pI s σ H x y v u Q I rx ry ⟨s0,hA,dx,dy,hx,hy,p⟩;have key:(∀ ds,dx≠.lst ds)->EP X pI σ Q=EP X pI σ Q->Az (model X.prog X.w) X.A (Ct .Add v u) (EP X pI σ Q) X.xe s:=fun hd _=>by
  refine Uk (W:=W) A pI s σ H x y v u Q I rx ry ⟨hA,dx,dy,hx,hy,?_⟩;cases e:CM .Add dx dy with
  |bad=>rw[e]at p;exact p
  |exn x=>rw[e]at p;exact p
  |ok d=>
   rw[e]at p;refine fun v' H' s' r'=>p v' H' s' (Uz r' fun ds z=>?_)
   subst z;cases dx with
   |lst ds=>exact hd _ rfl
   |_=>cases dy<;>first|(cases e;done)|(simp only[CM]at e;split at e<;>cases e)
 cases dx with
 |lst ds=>
  cases dy with
  |lst es=>
   obtain⟨a,xs,rfl,s1,r1⟩:=hx.lst_of;obtain⟨b,ys,rfl,s2,r2⟩:=hy.lst_of;simp only[NC]at p;split at p
   ·rename_i h;refine Ul pI s σ H _ _ v u Q I rx ry ⟨a,b,xs,ys,rfl,rfl,s1,s2,by rw[r1.length,r2.length];exact IV h,fun q hq=>?_⟩
    exact p _ _ (FV hq _) (Jz s0 hA hq (r1.append r2))
   ·exact p.elim
  |_=>exact p.elim
 |_=>exact key (by intro _ z;cases z) rfl
theorem oD(ha:ST X CL W a fa)(hb:ST X CL W b fb):SC X CL W Aa (.BinOp a .Add b pos) (fun ρ=>(fa ρ).bind fun x=>(fb ρ).bind fun y=>CM .Add x y):=
 fun A pI s σ H Q I h=>by
  obtain⟨hA,ρ,g,p⟩:=h;exact VZ (iS (W:=W) A H) (ha A) (hb A) pI s σ H Q I ⟨hA,ρ,g,Bt.bindF p fun dx x H1 _ s1 r1 p1=>⟨hA.same s1,ρ,g.same s1,Bt.bind (Rq:=Em X.K CL Aa H A) p1 fun dy y H2 _ s2 r2 p2=>⟨s1.trans s2,(hA.same s1).same s2,dx,dy,r1.same s2,r2,p2⟩⟩⟩
def NN(X:Cx)(CL:ClA)(W:XW)(f:Ai)(g:Ac D->R D):Prop:=∀ A H0,HU X f (fun xs H Q=>AN H0 H/\AOk H A/\∃ ds,Gc X.K CL H A xs ds/\Bt (Em X.K CL Aa H0 A) W H (g ds) Q)
theorem kY:NN X CL W (.type "list") (biD .list):=by
  intro A H0 pI s σ H xs us Q I r ⟨s0,hA,ds,rs,p⟩
  match ds,rs,p with
  |[.lst es],rs,p=>
    obtain⟨v,rfl,rv⟩:=rs.one;obtain⟨q,ys,rfl,sq,ry⟩:=rv.lst_of;exact Sd pI s σ H _ us Q I r ⟨q,ys,rfl,.inl sq,fun l hl=>p _ _ (FV hl _) (Jz s0 hA hl ry)⟩
  |[.tup es],rs,p=>
    obtain⟨v,rfl,rv⟩:=rs.one;obtain⟨q,ys,rfl,_,sq,ry⟩:=rv.tup_of;exact Sd pI s σ H _ us Q I r ⟨q,ys,rfl,.inr sq,fun l hl=>p _ _ (FV hl _) (Jz s0 hA hl ry)⟩
  |[],_,p=>exact p.elim
  |[.non],_,p=>exact p.elim
  |[.bl _],_,p=>exact p.elim
  |[.int _],_,p=>exact p.elim
  |[.str _],_,p=>exact p.elim
  |[.obj _ _],_,p=>exact p.elim
  |[.exc _ _],_,p=>exact p.elim
  |[.dic _],_,p=>exact p.elim
  |x::_::_,_,p=>cases x<;>exact p.elim
theorem pY{g:Ac D->R D}(hc:NN X CL W (.type T) g)(hg:Gl X x)(hm:X.mg x=Af)(hv:Db x=Ab (.type T))(ha:SAT X CL W (e::es) fs)(hn:x≠"__name__")(hdb:(x==("__debug__" : Ak))=Ad)(he:AG (e::es) X.env=(Ad,eval e X.env)::AG es X.env)(hpl:∀ pos,(CQ pos (AG es X.env)).any (·.1)=Ad):SC X CL W Aa (.Call (.Name x p) (e::es) [] pos) (fun ρ=>(fs ρ).bind g):=fun A pI s σ H Q I ⟨hA,ρ,gd,q⟩=>
 S8 (hc A H) hg hm hv (ha A) hn hdb he (hpl _) pI s σ H Q I ⟨hA,ρ,gd,Ho.bindF q fun ds vs H1 _ s1 r1 p1=>⟨s1,hA.same s1,ds,r1,p1⟩⟩
theorem pZ{g:Ac D->R D}(hc:NN X CL W (.builtin id) g)(hg:Gl X x)(hm:X.mg x=Af)(hv:Db x=Ab (.builtin id))(ha:SAT X CL W (e::es) fs)(hn:x≠"__name__")(hdb:(x==("__debug__" : Ak))=Ad)(he:AG (e::es) X.env=(Ad,eval e X.env)::AG es X.env)(hpl:∀ pos,(CQ pos (AG es X.env)).any (·.1)=Ad):SC X CL W Aa (.Call (.Name x p) (e::es) [] pos) (fun ρ=>(fs ρ).bind g):=fun A pI s σ H Q I ⟨hA,ρ,gd,q⟩=>
 Pw (hc A H) hg hm hv (ha A) hn hdb he (hpl _) pI s σ H Q I ⟨hA,ρ,gd,Ho.bindF q fun ds vs H1 _ s1 r1 p1=>⟨s1,hA.same s1,ds,r1,p1⟩⟩
mutual
theorem V6{K:Fg}{H:Hp}{A:Al->Prop}(hA:AOk H A):∀(n:Ag)(d:D){v:V},nlD n d=Aa->Rep K CL H A0 v d->Rep K CL H A v d
 |_,.non,_,_,h=>h
 |_,.bl _,_,_,h=>h
 |_,.int _,_,_,h=>h
 |_,.str _,_,_,h=>h
 |0,.tup _,_,hn,_=>by cases hn
 |n+1,.tup ds,_,hn,h=>by
  obtain⟨a,xs,e,_,s,r⟩:=h;refine⟨a,xs,e,?_,s,nls_up hA n ds hn r⟩;rcases s with s|s
  ·refine .inl fun z=>?_
   obtain⟨ys,q⟩:=hA a z;rcases s with s|⟨o,s⟩<;>rw[q]at s<;>cases s
  ·exact .inr s
 |n,.lst _,_,hn,_=>by cases n<;>cases hn
 |n,.obj _ _,_,hn,_=>by cases n<;>cases hn
 |n,.exc _ _,_,hn,_=>by cases n<;>cases hn
 |n,.dic _,_,hn,_=>by cases n<;>cases hn
theorem nls_up{K:Fg}{H:Hp}{A:Al->Prop}(hA:AOk H A):∀(n:Ag)(ds:Ac D){vs:Ac V},ds.all (nlD n)=Aa->Reps K CL H A0 vs ds->Reps K CL H A vs ds
 |_,[],[],_,h=>h
 |n,d::ds,_::_,hn,h=>by
  simp only[EL,An]at hn;exact⟨V6 hA n d hn.1 h.1,nls_up hA n ds hn.2 h.2⟩
 |_,[],_::_,_,h=>h.elim
 |_,_::_,[],_,h=>h.elim
end
theorem sA{fr:Ao}(hA0:AOk H0 A)(s:AN H0 H)(hc:Ll fr d=Aa)(r:Em K CL fr H0 A0 H v d):Em K CL fr H0 A H v d:=by
 have hA:=hA0.same s;cases d with
 |lst ds=>
  have hc':(fr&&ds.all (nlD 5))=Aa:=hc;rw[An]at hc';obtain⟨a,xs,e,h0,h1,rs⟩:=r.2 hc'.1 ds rfl;have hA2:AOk H (fun b=>A b\/b=a):=fun b hb=>hb.elim (hA b) fun e=>by rw[e];exact⟨xs,h1⟩
  have rs':=nls_up hA2 5 ds hc'.2 (Reps.sub (fun _ z=>z.elim) _ rs)
  refine⟨⟨a,xs,e,.inl (hA0.new h0),SqL.of h1,Reps.sub (fun _ z=>.inl z) _ rs'⟩,fun _ ds' e'=>?_⟩
  cases e';exact⟨a,xs,e,h0,h1,rs'⟩
 |_=>exact⟨V6 hA 5 _ hc r.1,fun _ _ z=>nomatch z⟩
def spD(K:Fg)(CL:ClA)(n:Ag)(fr:Ao)(F:Ac D->R D):Sp:=fun vs H Q E=>∃(ds:Ac D)(A:Al->Prop),vs.length=n/\AOk H A/\Reps K CL H A vs ds/\(match F ds with
  |.ok d=>∀ v H',AN H H'->Em K CL fr H A H' v d->Q v H'
  |.exn x=>∀ cls dx H',AN H H'->MF K CL H' A cls dx x->E cls dx H'
  | .bad=>BN)
def EKW(K:Fg)(CL:ClA)(A:Al->Prop)(W:XW):XK:=fun cls dx H'=>∃ x,MF K CL H' A cls dx x/\W x H'
theorem Gc.plain{K:Fg}{H:Hp}{A:Al->Prop}:∀{vs:Ac V}{ds:Ac D},Gc K CL H A vs ds->Reps K CL H A0 vs ds
 |[],[],h=>trivial
 |_::_,_::_,h=>⟨h.1.plain,Gc.plain h.2⟩
 |[],_::_,h=>h.elim
 |_::_,[],h=>h.elim
theorem jA{CX:CXT}{fr:Ao}{f:Al}{fd:CS}{ps:Ac Ak}{F:Ac D->R D}{ft:Rho->R (Ac D)}{sh:Rho->Ao}(G:FnOk X.prog X.w X.K X.mg X.base CX k f fd ps (spD X.K CL n fr F))(hr:Room k X.A)(hg:Gl X x)(hm:X.mg x=Ab (.ref f))(hk:DK X.K (.ref f)=Aa)(hb:IA X.K fd ps [])(hx:∀ A,KS CX X (EKW X.K CL A W))(ha:SA X CL W (e::es) fs)(hat:SAT X CL W (e::es) ft)(hst:∀ ρ,sh ρ=Aa->ft ρ=fs ρ)(hn:∀ ρ ds,ft ρ=.ok ds->ds.length=n)(hdb:(x==("__debug__" : Ak))=Ad)(he:AG (e::es) X.env=(Ad,eval e X.env)::AG es X.env)(hpl:∀ pos,(CQ pos (AG es X.env)).any (·.1)=Ad):SC X CL W fr (.Call (.Name x p) (e::es) [] pos) (fun ρ=>(ft ρ).bind fun ds=>(F ds).bind fun d=>if sh ρ=Aa then .ok d else if Ll fr d=Aa then .ok d else .bad):=fun A pI s σ H Q I ⟨hA,ρ,gd,q⟩=>by
 dsimp only at q;by_cases hs:sh ρ=Aa
 ·rw[hst ρ hs]at q;refine Ui G hr hg hm hk hb .nil (hx A) (ha A) hdb he (hpl _) pI s σ H Q I ⟨hA,ρ,gd,?_⟩;cases e1:fs ρ with
  |bad=>rw[e1]at q;exact q
  |exn y=>rw[e1]at q;exact q
  |ok ds=>
   rw[e1]at q;intro vs H1 s1 r1;refine⟨ds,A,by rw[Dz,r1.length];exact hn ρ ds (by rw[hst ρ hs];exact e1),hA.same s1,by rw[Dz];exact r1,?_⟩
   have q':Bt (Em X.K CL fr H A) W H ((F ds).bind fun d=>if sh ρ=Aa then .ok d else if Ll fr d=Aa then .ok d else .bad) Q:=q
   cases e2:F ds with
   |ok d=>
    rw[e2,R.bind_ok,Ay hs]at q';exact fun v H2 s2 r2=>q' v H2 (s1.trans s2) ⟨r2.1,fun z ds' e'=>let ⟨a,xs,z1,z2,z3⟩:=r2.2 z ds' e';⟨a,xs,z1,s1.free z2,z3⟩⟩
   |exn y=>rw[e2]at q';exact fun cls dx H2 s2 xr=>⟨y,xr,q' H2 (s1.trans s2)⟩
   |bad=>rw[e2]at q';exact q'.elim
 ·refine Ui G hr hg hm hk hb .nil (hx A0) (hat A) hdb he (hpl _) pI s σ H Q I ⟨hA,ρ,gd,?_⟩;cases e1:ft ρ with
  |bad=>rw[e1]at q;exact q
  |exn y=>rw[e1]at q;exact q
  |ok ds=>
   rw[e1]at q;intro vs H1 s1 r1;refine⟨ds,A0,by rw[Dz,r1.plain.length];exact hn ρ ds e1,fun _ z=>z.elim,by rw[Dz];exact r1.plain,?_⟩
   have q':Bt (Em X.K CL fr H A) W H ((F ds).bind fun d=>if sh ρ=Aa then .ok d else if Ll fr d=Aa then .ok d else .bad) Q:=q
   cases e2:F ds with
   |ok d=>
    rw[e2,R.bind_ok,AH hs]at q';split at q'
    ·rename_i hc;exact fun v H2 s2 r2=>q' v H2 (s1.trans s2) (sA hA (s1.trans s2) hc ⟨r2.1,fun z ds' e'=>let ⟨a,xs,z1,z2,z3⟩:=r2.2 z ds' e';⟨a,xs,z1,s1.free z2,z3⟩⟩)
    ·exact q'.elim
   |exn y=>rw[e2]at q';exact fun cls dx H2 s2 xr=>⟨y,xr,q' H2 (s1.trans s2)⟩
   |bad=>rw[e2]at q';exact q'.elim
end
theorem OO(env:Cy):∀(ns:Ac (Ak×Eu))(acc:Ac (Ak×Al)),(∀ x∈ns,x.2=.free->∃ c,env.cells.lookup x.1=Ab c)->(∀ x c,acc.lookup x=Ab c->env.cells.lookup x=Ab c) ->
  ∃ cl,(forIn ns acc fun(x:Ak×Eu)(cs:Ac (Ak×Al))=>(if (x.2==.free)=Aa then do let c <-cellOf env x.1;pure (EM ((x.1,c)::cs)) else pure (EM cs):Hc (ForInStep (Ac (Ak×Al)))))=pure cl /\
   (∀ x c,cl.lookup x=Ab c->env.cells.lookup x=Ab c)/\(∀ x,((x,D4)∈ns\/∃ c,acc.lookup x=Ab c)->∃ c,cl.lookup x=Ab c)
 |[],acc,_,h2=>⟨acc,by rw[DJ],h2,fun x hx=>hx.elim (fun z=>nomatch z) id⟩
 |(n,k)::r,acc,h1,h2=>by
  rw[DX];by_cases hk:k=.free
  ·subst hk;obtain⟨c,hc⟩:=h1 (n,.free) Ax rfl;obtain⟨cl,e,p,q⟩:=OO env r ((n,c)::acc) (fun x hx=>h1 x (Au _ hx)) (fun x d hd=>by
    rw[B5]at hd;split at hd
    ·rename_i hx;cases hd;rw[eq_of_beq hx];exact hc
    ·exact h2 x d hd)
   refine⟨cl,?_,p,fun x hx=>q x ?_⟩
   ·have e1:cellOf env n=pure c:=by unfold cellOf;dsimp only at hc;rw[hc]
    rw[Ay (by rfl),e1]
    exact e
   ·rcases hx with hx|⟨d,hd⟩
    ·rcases Aw.mp hx with z|z
     ·cases z;exact .inr ⟨c,by simp[B5]⟩
     ·exact .inl z
    ·by_cases hxn:x=n
     ·exact .inr ⟨c,by subst hxn;simp[B5]⟩
     ·exact .inr ⟨d,by rw[B5];rw[DH.mpr hxn];exact hd⟩
  ·obtain⟨cl,e,p,q⟩:=OO env r acc (fun x hx=>h1 x (Au _ hx)) h2
   refine⟨cl,?_,p,fun x hx=>q x ?_⟩
   ·rw[AH (by simpa using hk)]
    exact e
   ·rcases hx with hx|hx
    ·rcases Aw.mp hx with z|z
     ·cases z;exact absurd rfl hk
     ·exact .inl z
    ·exact .inr hx
theorem SG(h:∀ x∈scope.names,x.2=.free->∃ c,env.cells.lookup x.1=Ab c):∃ cl,closureFor scope env=pure cl/\(∀ x c,cl.lookup x=Ab c->env.cells.lookup x=Ab c)/\∀ x,(x,D4)∈scope.names->∃ c,cl.lookup x=Ab c:=by
 obtain⟨cl,e,p,q⟩:=OO env scope.names [] h (fun x c z=>by simp at z)
 refine⟨cl,?_,p,fun x hx=>q x (.inl hx)⟩
 unfold closureFor
 first
  |exact e
  |(simp only[bind_pure];exact e)
  |(rw[show (forIn scope.names ([]:Ac (Ak×Al)) _:Hc _)=pure cl from e];rfl)
theorem O8:∀(names:Ac (Ak×Eu))(h:AT)(acc:Ac (Ak×Al))(x:Ak)(c:Al),(Dy h.objs.size names acc).lookup x=Ab c->acc.lookup x=Ab c\/((x,Ce)∈names/\h.objs.size<=c/\(Ha h names).IsCell c Af)
 |[],_,_,_,_,e=>.inl e
 |(n,k)::r,h,acc,x,c,e=>by
  unfold Dy at e;unfold Ha;by_cases hk:(k==Ce)=Aa
  ·rw[Ay hk]at e ⊢;have hs:h.objs.size+1=(h.push { cls:=.type "cell", data:=.cell Af }).objs.size:=(Bz ..).symm;rw[hs]at e;rcases O8 r _ _ x c e with q|⟨q1,q2,q3⟩
   ·rw[B5]at q;cases hx:x==n with
    |true=>
     rw[hx]at q;cases q;refine .inr ⟨?_,AS _,?_⟩
     ·rw[eq_of_beq hx,eq_of_beq hk];exact Ax
     ·exact⟨_,Ii r _ _ _ (AC _ rfl),rfl⟩
    |false=>rw[hx]at q;exact .inl q
   ·exact .inr ⟨Au _ q1,by omega,q3⟩
  ·rw[AH hk]at e ⊢;rcases O8 r h acc x c e with q|⟨q1,q2,q3⟩
   ·exact .inl q
   ·exact .inr ⟨Au _ q1,q2,q3⟩
theorem O9:∀(names:Ac (Ak×Eu))(h:AT)(acc:Ac (Ak×Al)),(∀ x y c,acc.lookup x=Ab c->acc.lookup y=Ab c->x=y)->(∀ x c,acc.lookup x=Ab c->c<h.objs.size)->∀ x y c,(Dy h.objs.size names acc).lookup x=Ab c->(Dy h.objs.size names acc).lookup y=Ab c->x=y
 |[],_,_,i,_,x,y,c,e1,e2=>i x y c e1 e2
 |(n,k)::r,h,acc,i,b,x,y,c,e1,e2=>by
  unfold Dy at e1 e2;by_cases hk:(k==Ce)=Aa
  ·rw[Ay hk]at e1 e2;have hs:h.objs.size+1=(h.push { cls:=.type "cell", data:=.cell Af }).objs.size:=(Bz ..).symm;rw[hs]at e1 e2;have look:∀ z d,Xe z ((n,h.objs.size)::acc)=Ab d->(z=n/\d=h.objs.size)\/(z≠n/\acc.lookup z=Ab d):=fun z d q=>by
    rw[B5]at q;cases hx:z==n with
    |true=>rw[hx]at q;cases q;exact .inl ⟨eq_of_beq hx,rfl⟩
    |false=>rw[hx]at q;exact .inr ⟨fun e=>by rw[e]at hx;simp at hx,q⟩
   refine O9 r _ _ (fun z z' d q q'=>?_) (fun z d q=>?_) x y c e1 e2
   ·rcases look z d q with ⟨rfl,q1⟩|⟨_,q1⟩<;>rcases look z' d q' with ⟨rfl,q2⟩|⟨_,q2⟩
    ·rfl
    ·exact absurd (b _ _ q2) (by rw[q1];exact Bw _)
    ·exact absurd (b _ _ q1) (by rw[q2];exact Bw _)
    ·exact i _ _ _ q1 q2
   ·rw[<-hs];rcases look z d q with ⟨_,q1⟩|⟨_,q1⟩
    ·rw[q1];exact Ga _
    ·exact CY (b _ _ q1)
  ·rw[AH hk]at e1 e2;exact O9 r h acc i b x y c e1 e2
theorem OQ:∀(names:Ac (Ak×Eu))(n:Ag)(acc:Ac (Ak×Al))(x:Ak),(x,Ce)∉names->(Dy n names acc).lookup x=acc.lookup x
 |[],_,_,_,_=>rfl
 |(m,k)::r,n,acc,x,hx=>by
  unfold Dy;have hr:(x,Ce)∉r:=fun z=>hx (Au _ z)
  by_cases hk:(k==Ce)=Aa
  ·rw[Ay hk,OQ r _ _ x hr,B5];cases q:x==m with
   |true=>exact absurd (by rw[eq_of_beq q,eq_of_beq hk];exact Ax) hx
   |false=>rfl
  ·rw[AH hk];exact OQ r n acc x hr
theorem Pa(n0:Ag):∀(names:Ac (Ak×Eu))(n:Ag)(acc:Ac (Ak×Al))(x:Ak),n0<=n->((x,Ce)∈names\/∃ c,acc.lookup x=Ab c/\n0<=c)->∃ c,(Dy n names acc).lookup x=Ab c/\n0<=c
 |[],_,_,_,_,h=>h.elim (fun z=>nomatch z) id
 |(m,k)::r,n,acc,x,hn,h=>by
  unfold Dy;by_cases hk:(k==Ce)=Aa
  ·rw[Ay hk];refine Pa n0 r _ _ x (by omega) ?_
   by_cases hx:(x==m)=Aa
   ·exact .inr ⟨n,by rw[B5,hx],hn⟩
   ·rcases h with h|⟨c,h,hc⟩
    ·rcases Aw.mp h with z|z
     ·cases z;simp at hx
     ·exact .inl z
    ·exact .inr ⟨c,by rw[B5];simp only[hx];exact h,hc⟩
  ·rw[AH hk];refine Pa n0 r _ _ x hn (h.imp (fun h=>?_) id)
   rcases Aw.mp h with z|z
   ·cases z;simp at hk
   ·exact z
theorem ZK{M:Kj}{A:Bx}{E:Vq}{globals:Al}{qual:Ak}{Q:Cy->Ap->Prop}(hQ:Q (newEnv scope s.heap.objs.size globals (Dy (s.heap.objs.size+1) scope.names cl) qual Af .none (Ab env) IS) { s with heap:=Ha (s.heap.push { cls:=.type "dict", data:=.dict #[] }) scope.names }):Az M A (IK scope globals cl [] qual Af .none (Ab env)) Q E s:=by
 simp only[IK,Option.isSome_some,IM];refine Ah (wpAny_alloc ?_);refine Ah (wpAny_layCells _ (fun name kind cells=>by cases hkc:kind==Ce<;>simp[hkc]) _ _ _ _ ?_)
 rw[show ({ s with heap:=s.heap.push { cls:=.type "dict", data:=.dict #[] } }:Ap).heap.objs.size=s.heap.objs.size+1 from Bz ..]
 rw[DJ];exact Ah (Av (Av hQ))
noncomputable def cxC(X:Cx)(scope:CN)(cl:Ac (Ak×Al))(C:Al)(N':Ac Ak)(s₀:Ap)(H₀:Hp)(fp:Ac Al):Cx where
 prog:=X.prog
 w:=X.w
 K:=X.K
 mg:=X.mg
 base:=X.base
 A:=X.A
 N:=N'
 s₀:=s₀
 H₀:=H₀
 env:=compEnvC scope cl C X.env
 outer:=X.stack
 stack:=X.stack
 ex:=fp
 fn:=fun x=>scope.names.lookup x==Ab Ce
 calm:=X.calm
 pn:=[]
 xe:=fun _ _=>BN
theorem MI{env:Cy}:∀{names:Ac (Ak×Eu)}{x:Ak}{k:Eu},(names.map fun (n,k)=>if (k==D4&&env.scope.kind==.function&&env.kindOf n==Ab .cell) then (n,Ce) else (n,k)).lookup x=Ab k->names.lookup x=Ab k\/(k=.cell/\names.lookup x=Ab .free)
 |[],_,_,h=>by simp at h
 |(n,j)::r,x,k,h=>by
  have ih:=@MI env r x k;have h':Xe x ((if (j==D4&&env.scope.kind==.function&&env.kindOf n==Ab .cell)=Aa then (n,Ce) else (n,j))::(r.map fun (n,k)=>if (k==D4&&env.scope.kind==.function&&env.kindOf n==Ab .cell) then (n,Ce) else (n,k)))=Ab k:=h
  by_cases hc:(j==D4&&env.scope.kind==.function&&env.kindOf n==Ab .cell)=Aa
  ·rw[Ay hc]at h';rw[B5]at h' ⊢;cases hx:x==n with
   |true=>
    rw[hx]at h';cases h';simp only[An]at hc;exact .inr ⟨rfl,by rw[eq_of_beq hc.1.1]⟩
   |false=>rw[hx]at h';exact ih h'
  ·rw[AH hc]at h';rw[B5]at h' ⊢;cases hx:x==n with
   |true=>rw[hx]at h';exact .inl h'
   |false=>rw[hx]at h';exact ih h'
structure BlockOk (X:Cx) (scope:CN) (N':Ac Ak) (ts:Ac Ag):Prop where
 kind:scope.kind=.function
 uniq:∀ y∈scope.names,scope.names.lookup y.1=Ab y.2
 names:∀ y∈scope.names,y.2=.local->scope.names.lookup y.1=Ab .local
 free:∀ y∈scope.names,y.2=.free->X.env.scope.names.lookup y.1=Ab .cell\/X.env.scope.names.lookup y.1=Ab .free
 len:N'.length=X.N.length
 same:∀ i x,N'[i]?=Ab x->scope.names.lookup x=Ab .free->i∉ts->X.N[i]?=Ab x
 loc:∀ i x,N'[i]?=Ab x->(scope.names.lookup x=Ab .local\/scope.names.lookup x=Ab .cell)->i∈ts
structure BCells (X:Cx) (scope:CN) (cl:Ac (Ak×Al)) (C:Al) (h:AT):Prop where
 own:∀ x c,cl.lookup x=Ab c->X.env.cells.lookup x=Ab c\/(scope.names.lookup x=Ab .cell/\C<c/\h.IsCell c Af)
 inj:∀ x y c,cl.lookup x=Ab c->cl.lookup y=Ab c->x=y
 has:∀ x,scope.names.lookup x=Ab .cell->∃ c,cl.lookup x=Ab c/\C<c
 fr:∀ x,(x,D4)∈scope.names->∃ c,cl.lookup x=Ab c/\X.env.cells.lookup x=Ab c
section
variable{X:Cx}{pI:Pn}{σ:L2.St}{H:Hp}{s:Ap}
noncomputable def hideT(ts:Ac Ag)(σ:L2.St):L2.St:=ts.foldl (fun σ t=>σ.set t Af) σ
theorem O3:∀(ts:Ac Ag)(σ:L2.St),(hideT ts σ).length=σ.length
 |[],_=>rfl
 |t::ts,σ=>by show (hideT ts (σ.set t Af)).length=_;rw[O3 ts,BE]
theorem Ti:∀(ts:Ac Ag)(σ:L2.St){i:Ag}{v:V},(hideT ts σ)[i]?=Ab (Ab v)->σ[i]?=Ab (Ab v)/\i∉ts
 |[],_,_,_,h=>⟨h,by simp⟩
 |t::ts,σ,i,v,h=>by
  obtain⟨h1,h2⟩:=Ti ts (σ.set t Af) (i:=i) (v:=v) h;by_cases e:t=i
  ·subst e;have:=HL h1;cases this
  ·rw[Dh e]at h1;exact⟨h1,by simp only[Aw,Ed];exact⟨fun z=>e z.symm,h2⟩⟩
theorem ZU{tk:Ag}{C:Al}{m:Ak->At Ai}(I:Inv X pI σ H s)(B:BlockOk X scope N' ts)(hf:∀ b∈fp,G4 X pI H b)(hfo:∀ b∈fp,b<s.heap.objs.size)(hb:BCells X scope cl C h')(hk:∀ b o,s.heap.get? b=Ab o->h'.get? b=Ab o)(hC:s.heap.objs.size<=C)(hn:h'.Ns C m):Inv (cxC X scope cl C N' s H fp) [] (hideT ts σ) H {s with heap:=h',toks:=tk}:=by
 have stf:∀ b∈fp,b∉frs X.stack:=fun b hb z=>by
  rcases Aw.mp (I.stkSub b z) with e|e
  ·exact(hf b hb).2.1 e
  ·exact(hf b hb).2.2.1 e
 have frOf:∀ x,((relabel scope X.env).names.lookup x=Ab .cell\/(relabel scope X.env).names.lookup x=Ab .free)->scope.names.lookup x=Ab .free\/scope.names.lookup x=Ab .cell:=fun x hx=>by
  rcases hx with z|z
  ·rcases MI z with z|⟨_,z⟩
   ·exact .inr z
   ·exact .inl z
  ·rcases MI z with z|⟨z,_⟩
   ·exact .inl z
   ·cases z
 have gtC:∀ c:Al,C<c->s.heap.objs.size<=c:=fun c z=>BK hC (DR z)
 have cellK:∀ c v,s.heap.IsCell c v->h'.IsCell c v:=fun c v ⟨o,ho,hd⟩=>⟨o,hk _ _ ho,hd⟩
 refine⟨⟨I.ok.mod,B.kind,I.ok.glob,I.ok.blt,hC,hb.inj,fun x hx=>?_,fun x c h e=>?_,I.ok.hd,I.ok.frames,.inl rfl,fun b hbb=>⟨?_,fun x c e=>?_⟩,I.bs,BK I.ok.bsz I.sz,fun b o e hbb=>?_,stf,I.stack,I.stkFree⟩,rfl,I.bare,Un.kept hk,⟨m,hn,fun i x v h1 h2 h3=>?_⟩,fun x c e=>?_,I.hok.fresh hC,fun x c e=>(hb.own x c e).elim (I.freeC x c) (fun z=>I.hok.fresh (gtC c z.2.1)),fun p hp=>absurd (show p∈([]:Pn) from hp) (by simp),I.hok.kept hk,?_⟩
 ·rcases frOf x hx with z|z
  ·obtain⟨c,q,_⟩:=hb.fr x (C2 z);exact⟨c,q⟩
  ·obtain⟨c,q,_⟩:=hb.has x z;exact⟨c,q⟩
 ·obtain⟨c',q,z⟩:=hb.has x (eq_of_beq h);have e':cl.lookup x=Ab c:=e;rw[q]at e';cases e';exact gtC _ z
 ·intro z;have z':b=C:=z;have:=hfo b hbb;rw[z']at this;exact absurd (AD this hC) (Bw _)
 ·rcases hb.own x c e with z|z
  ·exact(hf b hbb).2.2.2.2.1 x c z
  ·intro q;have:=hfo b hbb;have:=gtC c z.2.1;rw[q]at this;exact absurd ‹b<_› (EO.mpr this)
 ·rcases (hf b hbb).2.2.2.1 with z|z
  ·exact I.ok.noex b o e z
  ·exact absurd (AD (AF e) (BK I.ok.bsz z)) (Bw _)
 ·obtain⟨h2,hts⟩:=Ti ts σ h2;have h3':(relabel scope X.env).names.lookup x=Ab .local\/(relabel scope X.env).names.lookup x=Ab .cell\/(relabel scope X.env).names.lookup x=Ab .free:=h3;have h1':N'[i]?=Ab x:=h1;rcases h3' with z|z
  ·rcases MI z with z|⟨z,_⟩
   ·exact absurd (B.loc i x h1' (.inl z)) hts
   ·cases z
  ·have fr:=(frOf x z).resolve_right fun q=>hts (B.loc i x h1' (.inr q))
   have hm:=C2 fr;have hX:=B.same i x h1' fr hts;obtain⟨m0,hn0,hl0⟩:=I.loc;obtain⟨u,ru,lk⟩:=hl0 i x v hX h2 (by
    rcases B.free _ hm rfl with q|q
    ·exact .inr (.inl q)
    ·exact .inr (.inr q))
   refine⟨u,ru,?_⟩;obtain⟨c,hc,hcX⟩:=hb.fr x hm;rcases lk with ⟨q,_⟩|⟨_,c',hc',hcell⟩
   ·have q':X.env.scope.names.lookup x=Ab .local:=q;rcases B.free _ hm rfl with p|p
    ·rw[show X.env.scope.names.lookup x=_ from p]at q';cases q'
    ·rw[show X.env.scope.names.lookup x=_ from p]at q';cases q'
   ·have e:=hcX;rw[hc']at e;cases e;exact .inr ⟨z,c,hc,cellK _ _ hcell⟩
 ·rcases hb.own x c e with z|z
  ·obtain⟨v,q⟩:=I.cell x c z;exact⟨v,cellK _ _ q⟩
  ·exact⟨_,z.2.2⟩
 ·show (hideT ts σ).length=N'.length;rw[O3,I.len,B.len]
theorem SR{C D:Al}{s':Ap}{σ':L2.St}{pins':Pn}{h'':AT}{ys:Ac Ai}(I:Inv X pI σ H s)(hf:∀ b∈fp,G4 X pI H b)(I':Inv (cxC X scope cl C N' s H fp) pins' σ' H' s')(hD:s.heap.objs.size<=D)(hDC:D≠C)(hC:s.heap.objs.size<=C)(hd:s'.heap.get? D=Ab { cls:=.type "list", data:=.seq ys.toArray n })(hDn:H' D=Af)(rv:Br xs ys)(hz:xs.length<=sizeLine)(hs:EZ C s'.heap h''):Inv X pI σ (upd H' D (.lst xs)) {s' with heap:=h''}:=by
  have u:Un (frs X.stack) fp H H' s.heap s'.heap:=I'.base;have lt:∀ b o,s.heap.get? b=Ab o->b≠C/\b≠D:=fun b o e=>⟨fun z=>absurd (AD (AF e) (z ▸ hC)) (Bw _),fun z=>absurd (AD (AF e) (z ▸ hD)) (Bw _)⟩
  have HD:H D=Af:=I.hok.fresh hD;have hCn:H' C=Af:=I'.free;have kb:∀ b o,b≠C->s'.heap.get? b=Ab o->h''.get? b=Ab o:=fun b o hb e=>(hs.2 b hb).trans e
  have u2:Un (frs X.stack) fp H (upd H' D (.lst xs)) s.heap h'':=⟨fun b o e q hb hx=>kb b o (lt b o e).1 (u.keep b o e q hb hx),fun b o e q hb hx=>by
      obtain⟨sl,e1⟩:=u.slot b o e q hb hx;exact⟨sl,kb b _ (lt b o e).1 e1⟩,fun b o e q hx=>by rw[Di (lt b o e).2];exact u.free b o e q hx,fun b o e hx=>by
      obtain⟨o',e1⟩:=u.there b o e hx;exact⟨o',kb b _ (lt b o e).1 e1⟩,fun b zs q=>by rw[Di (Gb q HD)];exact u.tups b zs q,fun b o zs q=>by rw[Di (Gb q HD)];exact u.frzs b o zs q,fun b ps q=>by rw[Di (Gb q HD)];exact u.tbls b ps q⟩
  have hok:HOk X.prog X.w (upd H' D (.lst xs)) h'':=fun b o e=>by
    by_cases hb:b=D
    · subst hb;rw[HJ]at e;cases e;exact⟨hz,ys,n,rv,kb _ _ hDC hd⟩
    · rw[Di hb]at e;refine(I'.hok b o e).stay (fun c v hc q=>kb c v ?_ q) (fun c q=>by rw[Di (Gb q hDn)];exact q) fun c zs q=>by rw[Di (Gb q hDn)];exact q
      rcases hc with rfl|hc
      · exact Gb e hCn
      · exact Gb hc hCn
  exact I.call' (s':={s' with heap:=h''}) (ch:=fp) I'.os u2 hok I'.bare fun b hb=>⟨(hf b hb).2.2.2.1,(hf b hb).2.1,(hf b hb).2.2.2.2.1,(hf b hb).2.2.2.2.2⟩
end
def PTs(X:Cx)(ifs:Ac Ar)(tt:TT):Prop:=∀(pI:Pn)(s:Ap)(σ:L2.St)(H:Hp)(Q:Ao->Hp->Prop),Inv X pI σ H s->tt σ H Q ->
 Az (model X.prog X.w) X.A (forIn ifs Aa fun c r=>if r=Aa then do let ok <-IJ c X.env (eval c X.env);pure (EM ok) else pure (EM r)) (TP X pI σ Q) X.xe s
theorem iF:PTs X [] (fun σ H Q=>Q Aa H):=fun pI s σ H Q I h=>wpAny_tests_nil ⟨H,I,h⟩
theorem iA{t:TT}(h:PT X c t):PTs X [c] t:=fun pI s σ H Q I q=>wpAny_tests_one (h pI s σ H Q I q)
theorem aH{D:Al}{ys:Ac Ai}{E:Vq}{Q:Vq}(I:Inv X ((D,{ cls:=.type "list", data:=.seq ys.toArray n })::pI) σ H s)(hD:X.s₀.heap.objs.size<=D)(hp:∀ p∈X.pn++pI,p.1≠D)(hc:∀ x c,X.env.cells.lookup x=Ab c->c≠D)(hz:ys.length<=sizeLine)(h:∀ s',Inv X ((D,{ cls:=.type "list", data:=.seq (ys++[y]).toArray (n+1) })::pI) σ H s'->(∀ b o,b≠D->s.heap.get? b=Ab o->s'.heap.get? b=Ab o)->Q .none s'):Az (model X.prog X.w) X.A (call (.builtin "list.append") [.ref D,y]) Q E s:=by
 obtain⟨e,hn,hL,hfs,_⟩:=I.pin (D,{ cls:=.type "list", data:=.seq ys.toArray n }) (BO _ Ax);refine append_at (hsz:=by rw[AE];exact hz) e fun h' hs hd=>?_
 have hd':h'.get? D=Ab { cls:=.type "list", data:=.seq (ys++[y]).toArray (n+1) }:=by rw[hd];simp
 have kb:∀ b o,b≠D->s.heap.get? b=Ab o->h'.get? b=Ab o:=fun b o hb q=>(hs.2 b hb).trans q
 have I0:Inv X pI σ H s:=I.pins_of fun p hp=>I.pin p (BO _ (Au _ hp))
 have I1:Inv X pI σ H {s with heap:=h'}:=I0.turned (t':=s.toks) kb hn hL (.inr hD) hc hp
 refine h _ (I1.pins_of fun p hp=>?_) kb
 rcases Aw.mp hp with rfl|hp
 ·exact⟨hd',hn,hL,hfs,fun v z=>by
   have z':Lz _ _=Ls v:=z;cases z'⟩
 ·exact I1.pin p (BO _ hp)
section
variable{prog:A9}{w:AK}{A:Bx}{R:Kk->Ap->Prop}{s:Ap}
theorem ZT{target:Ar}{it acc:Ai}(I:Ag->Ap->Prop)(turn:∀ n s,I n s->Az (model prog w) A (Ea it) (fun r s₁=>match r with
      |none=>R (.ok .next) s₁
      | some v=>Az (model prog w) A (GB target it v) (fun _ s₁'=>Az (model prog w) A (assign target env v) (fun _ s₂=>
          Az (model prog w) A (forIn ifs Aa fun c r=>if r=Aa then do let ok <-IJ c env (eval c env);pure (EM ok) else pure (EM r)) (fun ok s₃=>
            if ok=Aa then Az (model prog w) A (eval elt env) (fun x s₄=>
              Az (model prog w) A (call (.builtin "list.append") [acc,x]) (fun _ s₅=>∃ m,m<n/\I m s₅) (IL (model prog w) A env fun e s'=>R (.error e) s') s₄) (IL (model prog w) A env fun e s'=>R (.error e) s') s₃
            else ∃ m,m<n/\I m s₃) (IL (model prog w) A env fun e s'=>R (.error e) s') s₂) (IL (model prog w) A env fun e s'=>R (.error e) s') s₁') (IL (model prog w) A env fun e s'=>R (.error e) s') s₁) (IL (model prog w) A env fun e s'=>R (.error e) s') s)(n:Ag)(h:I n s):FO (model prog w) A (.compLoop (.ListComp elt [⟨target,iter,ifs,0⟩] scope pos) 0 it acc env) R s:=by
  refine codeAny_loop rfl I (fun n s hI=>?_) n h
  show Az _ A ((compTurn (.ListComp elt [⟨target,iter,ifs,0⟩] scope pos) 0 it acc env).onRaise (fun x=>do noteFrame x env;theTreesLotGoes x)) _ _ s
  refine wpAny_noted ?_;rw[compTurn_list];refine Ah (Hg (Ah (CH (turn n s hI) (fun r s₁ h₁=>?_) fun _ _ h'=>h')))
  cases r with
  |none=>exact Av h₁
  |some v=>
    refine Ah (CH h₁ (fun _ s₁' h₁'=>?_) fun _ _ h'=>h')
    refine Ah (CH h₁' (fun _ s₂ h₂=>Ah (CH h₂ (fun ok s₃ h₃=>?_) fun _ _ h'=>h')) fun _ _ h'=>h')
    cases ok with
    |false=>exact Av ⟨rfl,h₃⟩
    |true=>
      exact Ah (Ah (CH h₃ (fun x s₄ h₄=>Ah (CH h₄ (fun _ s₅ h₅=>Av (Av ⟨rfl,h₅⟩)) fun _ _ h'=>h')) fun _ _ h'=>h'))
end
def L5(J:It)(ts:Ac Ag)(g:TG)(tt:TT)(te:TE)(σ:L2.St)(H:Hp)(Q:VK):Prop:=∃ W:Ag->Ag->Ac V->L2.St->Hp->Prop,(∃ m,W 0 m [] (hideT ts σ) H)/\∀ i m xs σ H,W i m xs σ H ->
 (J.stop i H/\∀ p,H p=Af->Q (.ref p) (upd H p (.lst xs))) \/
 (J.go i H/\xs.length<sizeLine/\∀ x H',J.yld i H x H'->g x σ H' fun σ2 H2=>tt σ2 H2 fun b H3=>if b=Aa then te σ2 H3 fun y H4=>∃ m',m'<m/\W (i+1) m' (xs++[y]) σ2 H4 else ∃ m',m'<m/\W (i+1) m' xs σ2 H3)
theorem T9{g:TG}{it:Al}{tn:Ag->AT->Prop}{E:Vq}{RR:Ai->Al->Kk->Ap->Prop}(hc:X.calm=Aa)(B:BlockOk X scope N' ts)(I:Inv X pI σ H s)(T:Turn X.prog X.w X.K tg J fp it tn)(st:tn 0 s.heap)(hf:∀ b∈fp,G4 X pI H b)(hcl:∀ x c,cl.lookup x=Ab c->X.env.cells.lookup x=Ab c)(hcl2:∀ x,(x,D4)∈scope.names->∃ c,cl.lookup x=Ab c)(hg:∀ cl C s H,PG (cxC X scope cl C N' s H fp) tg g)(ht:∀ cl C s H,PTs (cxC X scope cl C N' s H fp) ifs tt)(he:∀ cl C s H,PE (cxC X scope cl C N' s H fp) elt te)(h:L5 J ts g tt te σ H Q)(hRR:∀ cl D C s' H' σ' pins' xs ys n m,Inv (cxC X scope cl C N' s H fp) pins' σ' H' s'->s'.heap.get? D=Ab { cls:=.type "list", data:=.seq (BF ys) n }->H' D=Af->Br xs ys->xs.length<=sizeLine->s.heap.objs.size<=D->D≠C->s.heap.objs.size<=C->s'.heap.Ns C m->Q (.ref D) (upd H' D (.lst xs))->RR (.ref D) C (.ok .next) s'):Az (model X.prog X.w) X.A (newList []) (fun acc s₃=>Az (model X.prog X.w) X.A (IK scope X.env.globals cl [] X.env.qual Af .none (Ab X.env)) (fun cenv s₄=>FO (model X.prog X.w) X.A (.compStart (.ListComp elt [⟨tg,iter,ifs,0⟩] scope pos) 0 (.ref it) acc {cenv with scope:=relabel scope X.env}) (RR acc cenv.locals) s₄) E s₃) E s:=by
 refine C0 (ZK ?_);dsimp only;generalize hH2:s.heap.push { cls:=.type "list", dict:=Af,data:=.seq ([]:Ac Ai).toArray }=H2;have hns₁:(Ha (H2.push { cls:=.type "dict", data:=.dict #[] }) scope.names).Ns H2.objs.size (fun _=>Af):=(Heap.Ns.new H2 (.type "dict")).keeps (Ii _ _)
 have hkp₁:∀ b o,H2.get? b=Ab o->(Ha (H2.push { cls:=.type "dict", data:=.dict #[] }) scope.names).get? b=Ab o:=fun b o e=>Ii _ _ b o (As _ e)
 have hown:=O8 scope.names (H2.push { cls:=.type "dict", data:=.dict #[] }) cl;have hinj:=O9 scope.names (H2.push { cls:=.type "dict", data:=.dict #[] }) cl;rw[Bz]at hown hinj;generalize hcl':Dy (H2.objs.size+1) scope.names cl=cl' at hown hinj;have hcf:∀ x,(x,Ce)∉scope.names->cl'.lookup x=cl.lookup x:=fun x hx=>by rw[<-hcl'];exact OQ _ _ _ x hx
 have hch:∀ x,(x,Ce)∈scope.names->∃ c,cl'.lookup x=Ab c/\H2.objs.size+1<=c:=fun x hx=>by rw[<-hcl'];exact Pa _ _ _ _ x (AS _) (.inl hx)
 generalize hh₁:Ha (H2.push { cls:=.type "dict", data:=.dict #[] }) scope.names=h₁ at hns₁ hkp₁ hown;have hC:H2.objs.size=s.heap.objs.size+1:=by rw[<-hH2,Bz]
 have hCle:s.heap.objs.size<=H2.objs.size:=by rw[hC];exact F0 _
 have hDC:s.heap.objs.size≠H2.objs.size:=by rw[hC];exact A1 (Ga _)
 have below:∀ b,b<s.heap.objs.size->b≠H2.objs.size:=fun b hb=>by rw[hC];exact A1 (CY hb)
 have old:∀ b o,s.heap.get? b=Ab o->h₁.get? b=Ab o:=fun b o e=>hkp₁ b o (hH2 ▸ As _ e)
 have hacc:h₁.get? s.heap.objs.size=Ab { cls:=.type "list", data:=.seq ([]:Ac Ai).toArray 0 }:=hkp₁ _ _ (hH2 ▸ AC _ rfl);have clt:∀ x c,cl.lookup x=Ab c->c<s.heap.objs.size:=fun x c e=>by
  obtain⟨v,q⟩:=I.cell x c (hcl x c e);exact q.lt
 have bc:BCells X scope cl' H2.objs.size h₁:=by
  refine⟨fun x c e=>?_,hinj (fun x y c e1 e2=>I.ok.inj x y c (hcl x c e1) (hcl y c e2)) (fun x c e=>CY (AD (clt x c e) hCle)),fun x hx=>?_,fun x hx=>?_⟩
  ·rcases hown x c e with q|⟨q1,q2,q3⟩
   ·exact .inl (hcl x c q)
   ·exact .inr ⟨B.uniq _ q1,q2,q3⟩
  ·have hm:=C2 hx;obtain⟨c,e,hc⟩:=hch x hm;exact⟨c,e,hc⟩
  ·have hno:(x,Ce)∉scope.names:=fun z=>by
    have e1:=B.uniq _ hx;have e2:=B.uniq _ z;rw[show scope.names.lookup x=_ from e1]at e2
    cases e2
   obtain⟨c,e⟩:=hcl2 x hx;exact⟨c,by rw[hcf x hno];exact e,hcl x c e⟩
 have hfo:∀ b∈fp,b<s.heap.objs.size:=fun b hb=>by
  obtain⟨o,e,_⟩:=T.obj 0 _ st b hb;exact AF e
 generalize hD:s.heap.objs.size=D at *;generalize hC':H2.objs.size=C at *;have I0:Inv (cxC X scope cl' C N' s H fp) [] (hideT ts σ) H {s with heap:=h₁,toks:=s.toks+([]:Ac (Ak×Ai)).length}:=ZU (tk:=s.toks+([]:Ac (Ak×Ai)).length) I B hf (fun b hb=>by rw[hD];exact hfo b hb) bc old (by rw[hD];exact hCle) hns₁
 have nD:H D=Af:=I.hok.fresh (by rw[hD];exact AS _)
 have noD:∀ b∈fp,b≠D:=fun b hb=>A1 (hfo b hb)
 have noC:∀ b∈fp,b≠C:=fun b hb=>below b (hfo b hb)
 have stfs:D∉frs X.stack:=fun z=>by
  obtain⟨_,o,ho,_⟩:=I.stack.mem z;exact absurd (AF ho) (by rw[hD];exact Bw _)
 have cD:∀ x c,cl'.lookup x=Ab c->c≠D:=fun x c e z=>by
  rcases bc.own x c e with q|⟨_,q,_⟩
  ·obtain⟨v,q⟩:=I.cell x c q;exact absurd q.lt (by rw[z,hD];exact Bw _)
  ·rw[z]at q;exact absurd (AD q hCle) (Bw _)
 have I1:Inv (cxC X scope cl' C N' s H fp) [(D,{ cls:=.type "list", data:=.seq ([]:Ac Ai).toArray 0 })] (hideT ts σ) H {s with heap:=h₁,toks:=s.toks+([]:Ac (Ak×Ai)).length}:=I0.pins_of fun p hp=>by
  have e:=BA.mp hp;subst e;exact⟨hacc,nD,hDC,stfs,fun v z=>by
   have z':Lz _ _=Ls v:=z;cases z'⟩
 have st1:tn 0 h₁:=T.keep _ _ _ st fun b _ o e=>old b o e
 obtain⟨W,⟨m0,w0⟩,turn⟩:=h;have fpk:∀{pl:Pn}{H':Hp},(∀ p∈pl,p.1=D)->(∀ b∈fp,H' b=Af)->∀ b∈fp,G4 (cxC X scope cl' C N' s H fp) pl H' b:=fun {pl H'} hp hn b hb=>
  ⟨hn b hb,noC b hb,fun z=>by
   rcases Aw.mp (I.stkSub b z) with e|e
   ·exact(hf b hb).2.1 e
   ·exact(hf b hb).2.2.1 e,.inl hb,fun x c e=>(bc.own x c e).elim ((hf b hb).2.2.2.2.1 x c) (fun z q=>absurd (BU hCle z.2.1) (EO.mpr (by rw[q];exact DR (hfo b hb)))),fun p hp'=>by
   have hp2:p∈pl:=hp';rw[hp p hp2];exact(noD b hb).symm⟩
 have loop:∀ s₃:Ap,s₃={s with heap:=h₁,toks:=s.toks+([]:Ac (Ak×Ai)).length} ->
   FO (model X.prog X.w) X.A (.compLoop (.ListComp elt [⟨tg,iter,ifs,0⟩] scope pos) 0 (.ref it) (.ref D) (compEnvC scope cl' C X.env)) (RR (.ref D) C) s₃:=by
  rintro s₃ rfl;refine ZT (fun k s'=>∃ i σ' H' xs ys n,Inv (cxC X scope cl' C N' s H fp) [(D,{ cls:=.type "list", data:=.seq (BF ys) n })] σ' H' s'/\tn i s'.heap/\(∀ b∈fp,H' b=Af)/\Br xs ys/\xs.length<=sizeLine/\W i k xs σ' H') ?_ m0
   ⟨0,_,H,[],[],0,I1,st1,fun b hb=>(hf b hb).1,.nil,CW _,w0⟩
  rintro k s' ⟨i,σ',H',xs,ys,n,I',st',fr',rv,hz,w'⟩;have one:∀ p∈[((D,{ cls:=.type "list", data:=.seq (BF ys) n }):Al×DC)],p.1=D:=fun p hp=>by rw[BA.mp hp]
  rcases turn i k xs σ' H' w' with ⟨stop,q⟩|⟨go,hlt,step⟩
  ·refine CH (T.done (cxC X scope cl' C N' s H fp) rfl rfl rfl hc i _ s' σ' H' (fun _ _=>BN) I' (fpk one fr') st' stop) (fun r s1 ⟨hr,J1⟩=>?_) fun _ _ f=>f.elim
   subst hr;obtain⟨e,hn,_⟩:=J1.pin _ (BO _ Ax);obtain⟨m,hm,_⟩:=J1.loc;exact hRR cl' D C s1 H' σ' _ xs ys n m J1 e hn rv hz (AS _) hDC hCle hm (q D hn)
  ·refine CH (T.item (cxC X scope cl' C N' s H fp) rfl rfl rfl hc i _ s' σ' H' (fun _ _=>BN) I' (fpk one fr') st' go) (fun r s1 ⟨u,hr,h4⟩=>?_) fun _ _ f=>f.elim
   subst hr;refine CH h4 (fun _ s5 ⟨x,H5,I5,r5,y5,st5,fr5⟩=>?_) fun _ _ f=>f.elim
   have I5':=I5.pinned (fpk one fr5) (T.obj _ _ st5);refine CH (hg cl' C s H _ s5 σ' H5 x u _ I5' r5 (step x H5 y5)) (fun _ s6 ⟨σ6,H6,I6,q6⟩=>?_) fun _ _ f=>f.elim
   refine CH (ht cl' C s H _ s6 σ6 H6 _ I6 q6) (fun ok s7 ⟨H7,I7,q7⟩=>?_) fun _ _ f=>f.elim
   have again:∀{s8:Ap}{H8:Hp}{ys':Ac Ai}{n':Ag},Inv (cxC X scope cl' C N' s H fp) ((D,{ cls:=.type "list", data:=.seq (BF ys') n' })::J4 fp s5.heap) σ6 H8 s8->Inv (cxC X scope cl' C N' s H fp) [(D,{ cls:=.type "list", data:=.seq (BF ys') n' })] σ6 H8 s8/\tn (i+1) s8.heap/\∀ b∈fp,H8 b=Af:=fun {s8 H8 ys' n'} I8=>
    ⟨I8.pins_of fun p hp=>I8.pin p (BO _ (by rw[BA.mp hp];exact Ax)),T.keep _ _ _ st5 fun b hb o e=>(I8.pin (b,o) (BO _ (Au _ (MR hb e)))).1,fun b hb=>by
     obtain⟨o,e,d⟩:=T.obj _ _ st5 b hb;exact(I8.pin (b,o) (BO _ (Au _ (MR hb e)))).2.1⟩
   cases ok with
   |false=>
    rw[AH (by decide)]at q7
    obtain⟨m',hm,w7⟩:=q7;obtain⟨a1,a2,a3⟩:=again I7;rw[AH (by decide)]
    exact⟨m',hm,i+1,σ6,H7,xs,ys,n,a1,a2,a3,rv,hz,w7⟩
   |true=>
    rw[Ay rfl]at q7;rw[Ay rfl];refine CH (he cl' C s H _ s7 σ6 H7 _ I7 q7) (fun val s8 ⟨y,H8,I8,r8,m',hm,w8⟩=>?_) fun _ _ f=>f.elim
    have hl:=rv.length;refine aH (X:=cxC X scope cl' C N' s H fp) (ys:=ys) (n:=n) (pI:=J4 fp s5.heap) I8 (by show s.heap.objs.size<=D;rw[hD];exact AS _) (fun p hp=>?_) cD (by omega) fun s9 I9 kb=>?_
    ·have hp2:p∈J4 fp s5.heap:=hp;exact noD _ (S9 hp2).1
    ·obtain⟨a1,a2,a3⟩:=again I9;exact⟨m',hm,i+1,σ6,H8,xs++[y],ys++[val],n+1,a1,a2,a3,rv.append (.cons r8 .nil),by rw[Cw];exact hlt,w8⟩
 exact codeAny_compStart_list (loop _ rfl) (T.self _ 0 _ _ _ st1 (loop _ rfl))
theorem iO{g:TG}(hc:X.calm=Aa)(B:BlockOk X scope N' ts)(hi:PI X tg iter wi)(hg:∀ cl C s H fp,PG (cxC X scope cl C N' s H fp) tg g)(ht:∀ cl C s H fp,PTs (cxC X scope cl C N' s H fp) ifs tt)(he:∀ cl C s H fp,PE (cxC X scope cl C N' s H fp) elt te)(hs:∀ x,Dk iter X.env x=pure x):PE X (.ListComp elt [⟨tg,iter,ifs,0⟩] scope pos) (fun σ H Q=>wi σ H fun J H1=>L5 J ts g tt te σ H1 Q):=by
 intro pI s σ H Q I h;obtain⟨cl,hclos,hcl,hcl2⟩:=SG (scope:=scope) (env:=X.env) fun x hx hk=>I.ok.has x.1 ((B.free x hx hk).imp id id)
 rw[eval_ListComp];refine YH (use:=Af) rfl hs hclos B.kind B.names (thn (hi pI s σ H _ I h) fun v s1 h1=>thn h1 fun itv s2 h2=>?_)
 obtain⟨it,fp,tn,J,H2,e,I2,T,st2,f2,h3⟩:=h2;subst e;refine T9 (RR:=fun acc C=>compPost (model X.prog X.w) X.A X.xe Af (EP X pI σ Q) acc C) hc B I2 T st2 f2 hcl hcl2 (fun cl C s H=>hg cl C s H fp) (fun cl C s H=>ht cl C s H fp) (fun cl C s H=>he cl C s H fp) h3 fun cl' D C s' H' σ' pins' xs ys n m I' hd hDn rv hz hD hDC hC hm q=>?_
 exact⟨m,hm,fun h'' hs''=>⟨.ref D,_,SR I2 f2 I' hD hDC hC hd hDn rv hz hs'',rfl,q⟩⟩
theorem iI{n:Ak}{g:TG}(hc:X.calm=Aa)(B:BlockOk X scope N' ts)(hi:PI X tg iter wi)(hg:∀ cl C s H fp,PG (cxC X scope cl C N' s H fp) tg g)(ht:∀ cl C s H fp,PTs (cxC X scope cl C N' s H fp) ifs tt)(he:∀ cl C s H fp,PE (cxC X scope cl C N' s H fp) elt te)(hs:∀ x,Dk iter X.env x=pure x)(hN:X.N.Nodup)(hni:X.N[i]?=Ab n)(hx:X.env.scope.names.lookup n=Ab .local)(hsw:DT (.ListComp elt [⟨tg,iter,ifs,0⟩] scope pos) (Ab (.Name n pos')) pos2.line X.env=pure Aa):PS X (.Assign [.Name n pos'] (.ListComp elt [⟨tg,iter,ifs,0⟩] scope pos) pos2) (NU (fun σ H Q=>wi σ H fun J H1=>L5 J ts g tt te σ H1 Q) (Fn i)):=by
 intro pI s σ H Dn I h;obtain⟨cl,hclos,hcl,hcl2⟩:=SG (scope:=scope) (env:=X.env) fun x hx hk=>I.ok.has x.1 ((B.free x hx hk).imp id id)
 rw[exec_Assign_Name_used _ _ _ _ hsw];refine Ah (Hg (Ah ?_));show Az _ X.A (do let _ <-comprehension (.ListComp elt [⟨tg,iter,ifs,0⟩] scope pos) scope X.env _ (newList []) Ad (eval iter X.env) (Ab (assign (.Name n pos') X.env))) _ _ s
 refine Ah (CH (YH (use:=Ab (assign (.Name n pos') X.env)) (Q:=fun _ s'=>SP X pI Dn .next s') rfl hs hclos B.kind B.names
  (thn (hi pI s σ H _ I h) fun v s1 h1=>thn h1 fun itv s2 h2=>?_)) (fun _ s' hq=>Av (Av hq)) fun _ _ e=>e)
 obtain⟨it,fp,tn,J,H2,e,I2,T,st2,f2,h3⟩:=h2;subst e;refine T9 (RR:=fun acc C=>compPost (model X.prog X.w) X.A X.xe (Ab (assign (.Name n pos') X.env)) (fun _ s'=>SP X pI Dn .next s') acc C) hc B I2 T st2 f2 hcl hcl2 (fun cl C s H=>hg cl C s H fp) (fun cl C s H=>ht cl C s H fp) (fun cl C s H=>he cl C s H fp) h3 fun cl' D C s' H' σ' pins' xs ys n' m I' hd hDn rv hz hD hDC hC hm q=>?_
 have J0:Inv X pI σ (upd H' D (.lst xs)) s':=SR I2 f2 I' hD hDC hC hd hDn rv hz (Yd ..);refine YG (S4 J0 hN hni (.inl hx) (show BY (.ref D) (.ref D) from rfl) (fun s'' J1 ⟨a,sb,ha⟩=>?_) (.inr hx))
 have hC0:X.s₀.heap.objs.size<=C:=BK I2.sz hC;have hL:C≠X.env.locals:=fun z=>absurd (AD I2.lt (z ▸ hC)) (Bw _)
 have hcC:∀ x c,X.env.cells.lookup x=Ab c->c≠C:=fun x c e z=>by
  obtain⟨v,q'⟩:=I2.cell x c e;exact absurd (AD q'.lt (by rw[z];exact hC)) (Bw _)
 have hp:∀ p∈X.pn++pI,p.1≠C:=fun p hp z=>absurd (AD (AF (I2.pin p hp).1) (by rw[z];exact hC)) (Bw _)
 have hCn:upd H' D (.lst xs) C=Af:=by rw[Di hDC.symm];exact I'.free
 have hCa:C≠a:=by
  rcases ha with rfl|ha
  ·exact hL
  ·exact fun z=>hcC n a ha z.symm
 refine⟨m,hm.sameBut sb hCa,fun h'' hs''=>⟨_,_,J1.turned (t':=s''.toks) (fun b o hb e=>(hs''.2 b hb).trans e) hCn hL (.inr hC0) hcC hp,q⟩⟩
theorem Kz:∀(ts:Ac Ag)(ρ:Rho)(j:Ag),(FH ts ρ)[j]?=if j∈ts then (ρ[j]?).map (fun _=>Af) else ρ[j]?
 |[],ρ,j=>by simp[FH]
 |t::ts,ρ,j=>by
  show (FH ts (ρ.set t Af))[j]?=_;rw[Kz ts];by_cases h1:j∈ts
  ·rw[Ay h1,Ay (Au _ h1)];by_cases h2:t=j
   ·subst h2;rw[FP];cases ρ[t]?<;>rfl
   ·rw[Dh h2]
  ·rw[AH h1];by_cases h2:t=j
   ·subst h2;rw[Ay Ax,FP];cases ρ[t]?<;>rfl
   ·rw[Dh h2,AH (by simp only[Aw,Ed];exact⟨fun z=>h2 z.symm,h1⟩)]
theorem M5:∀(ts:Ac Ag)(ρ:Rho),(FH ts ρ).length=ρ.length
 |[],_=>rfl
 |t::ts,ρ=>by show (FH ts (ρ.set t Af)).length=_;rw[M5 ts,BE]
theorem ON:∀(ts:Ac Ag)(σ:L2.St){i:Ag},i∉ts->(hideT ts σ)[i]?=σ[i]?
 |[],_,_,_=>rfl
 |t::ts,σ,i,h=>by
  simp only[Aw,Ed]at h;show (hideT ts (σ.set t Af))[i]?=_;rw[ON ts _ h.2,Dh (fun z=>h.1 z.symm)]
theorem Sc:∀(ts:Ac Ag)(ds:Ac D)(ρ1 ρ2:Rho),ρ1.length=ρ2.length->(∀ j,j∉ts->ρ1[j]?=ρ2[j]?)->E5 ts ds ρ1=E5 ts ds ρ2
 |[],[],ρ1,ρ2,hl,h=>congrArg Ab (W5 fun j=>h j (by simp))
 |[],_::_,_,_,_,_=>rfl
 |_::_,[],_,_,_,_=>rfl
 |t::ts,d::ds,ρ1,ρ2,hl,h=>by
  refine Sc ts ds _ _ (by rw[BE,BE];exact hl) fun j hj=>?_
  by_cases e:t=j
  ·subst e;rw[Hs,Hs,Ay rfl,Ay rfl,hl]
  ·rw[Dh e,Dh e];exact h j (by simp only[Aw,Ed];exact⟨fun z=>e z.symm,hj⟩)
theorem So:∀(ts us:Ac Ag)(ds:Ac D)(ρ ρ':Rho),(∀ t∈ts,t∈us)->E5 ts ds ρ=Ab ρ'->FH us ρ'=FH us ρ
 |[],us,[],ρ,ρ',_,e=>by cases e;rfl
 |t::ts,us,d::ds,ρ,ρ',hs,e=>by
  rw[So ts us ds _ ρ' (fun u hu=>hs u (Au _ hu)) e]
  refine W5 fun j=>?_
  rw[Kz,Kz];by_cases h:j∈us
  ·rw[Ay h,Ay h,Hs];split
   ·rename_i e2;subst e2;split
    ·rename_i h3;rw[AU h3];rfl
    ·rename_i h3;rw[List.getElem?_eq_none (by omega)]
   ·rfl
  ·rw[AH h,AH h,Dh];rintro rfl;exact h (hs _ Ax)
 |[],_,_::_,_,_,_,e=>by cases e
 |_::_,_,[],_,_,_,e=>by cases e
section
variable{K:Fg}{CL:ClA}{A:Al->Prop}{ρ ρ':Rho}{σ:L2.St}{H:Hp}
theorem Good.less(g:Good K CL A ρ σ H)(hl:ρ'.length=ρ.length)(h:∀(i:Ag)(d:D)(o:Ao),ρ'[i]?=Ab (Ab (d,o))->ρ[i]?=Ab (Ab (d,o))):Good K CL A ρ' σ H:=⟨fun i d e=>g.sh i d (h i d Ad e),fun i d e=>g.ow i d (h i d Aa e),hl.trans g.len⟩
theorem Good.put(g:Good K CL A ρ σ H)(t:Ag)(r:Rep K CL H A v d):Good K CL A (ρ.set t (Ab (d,Ad))) (σ.set t (Ab v)) H:=by
 refine⟨fun j e h=>?_,fun j e h=>?_,by rw[BE,BE];exact g.len⟩
 ·by_cases hj:t=j
  ·subst hj;have e1:=HL h;cases e1;have hl:t<σ.length:=by
    rw[<-g.len];have:=(Ba.mp h).1;simpa using this
   exact⟨v,by rw[Do hl],r⟩
  ·rw[Dh hj]at h;obtain⟨w',q,rw'⟩:=g.sh j e h;exact⟨w',by rw[Dh hj];exact q,rw'⟩
 ·have hj:t≠j:=by
   rintro rfl;have:=HL h;cases this
  rw[Dh hj]at h;obtain⟨a,xs,ds,q,z⟩:=g.ow j e h;exact⟨a,xs,ds,by rw[Dh hj];exact q,z⟩
theorem Good.hide(g:Good K CL A ρ σ H)(ts:Ac Ag):Good K CL A (FH ts ρ) σ H:=g.less (M5 _ _) fun i d o e=>by
 rw[Kz]at e;split at e
 ·cases q:ρ[i]? with
  |none=>rw[q]at e;cases e
  |some x=>rw[q]at e;cases e
 ·exact e
theorem Good.hideT(g:Good K CL A ρ σ H)(ts:Ac Ag):Good K CL A (FH ts ρ) (hideT ts σ) H:=by
 have key:∀ i x,(FH ts ρ)[i]?=Ab (Ab x)->ρ[i]?=Ab (Ab x)/\i∉ts:=fun i x e=>by
  rw[Kz]at e;split at e
  ·cases q:ρ[i]? with
   |none=>rw[q]at e;cases e
   |some x=>rw[q]at e;cases e
  ·exact⟨e,by assumption⟩
 refine⟨fun i d e=>?_,fun i d e=>?_,by rw[M5,O3];exact g.len⟩
 ·obtain⟨e1,e2⟩:=key i _ e;obtain⟨v,q,r⟩:=g.sh i d e1;exact⟨v,by rw[ON _ _ e2];exact q,r⟩
 ·obtain⟨e1,e2⟩:=key i _ e;obtain⟨a,xs,ds,q,r⟩:=g.ow i d e1;exact⟨a,xs,ds,by rw[ON _ _ e2];exact q,r⟩
end
def GG(K:Fg)(CL:ClA)(ts:Ac Ag)(as:D->Rho->R Rho)(g:TG):Prop:=∀ A ρ σ H v d ρ' Q,Good K CL A (FH ts ρ) σ H->Rep K CL H A v d->as d ρ=.ok ρ'->(∀ σ',Good K CL A ρ' σ' H->Good K CL A (FH ts ρ) σ' H->Q σ' H)->g v σ H Q
theorem mD(i:Ag):GG K CL [i] (fun d ρ=>.ok (ρ.set i (Ab (d,Ad)))) (Fn i):=fun A ρ σ H v d ρ' Q g r e k=>by
 cases e;have g2:=g.put i r;have e1:(FH [i] ρ).set i (Ab (d,Ad))=ρ.set i (Ab (d,Ad)):=by
  show (ρ.set i Af).set i (Ab (d,Ad))=_;rw[Xo]
 rw[e1]at g2;refine k _ g2 ?_;have:=g2.hide [i];have e2:FH [i] (ρ.set i (Ab (d,Ad)))=FH [i] ρ:=by
  show (ρ.set i _).set i Af=ρ.set i Af;rw[Xo]
 rw[e2]at this;exact this
theorem UQ{K:Fg}{CL:ClA}{A:Al->Prop}{H:Hp}:∀(ts:Ac Ag)(ds:Ac D)(vs:Ac V)(ρ ρ':Rho)(σ:L2.St)(Q:L2.St->Hp->Prop),Good K CL A ρ σ H->Reps K CL H A vs ds->E5 ts ds ρ=Ab ρ'->(∀ σ',Good K CL A ρ' σ' H->Q σ' H)->(ts.foldr (fun t u=>HX (Fn t) u) Ib) vs σ H Q
 |[],[],[],ρ,ρ',σ,Q,x,_,e,k=>by
  cases e;exact⟨rfl,k σ x⟩
 |t::ts,d::ds,v::vs,ρ,ρ',σ,Q,x,r,e,k=>⟨v,vs,rfl,UQ ts ds vs _ ρ' _ Q (x.put t r.1) r.2 e k⟩
 |[],_::_,_,_,_,_,_,_,_,e,_=>by cases e
 |_::_,[],_,_,_,_,_,_,_,e,_=>by cases e
 |[],[],_::_,_,_,_,_,_,r,_,_=>r.elim
 |_::_,_::_,[],_,_,_,_,_,r,_,_=>r.elim
theorem tK(ts:Ac Ag):GG K CL ts (GE ts) (Lk K ts.length (ts.foldr (fun t u=>HX (Fn t) u) Ib)):=fun A ρ σ H v d ρ' Q g r e k=>by
 cases d with
 |tup ds=>
  obtain⟨a,xs,rfl,na,sq,rs⟩:=r;rw[SJ]at e;cases e2:E5 ts ds ρ with
  |none=>rw[e2]at e;cases e
  |some ρ2=>
   rw[e2]at e;cases e;have e3:E5 ts ds (FH ts ρ)=Ab ρ':=by
    rw[<-e2];exact Sc ts ds _ _ (M5 _ _) fun j hj=>by rw[Kz,AH hj]
   refine⟨a,xs,rfl,sq,by rw[rs.length];exact MQ _ _ _ _ e2,UQ ts ds xs _ ρ' σ Q g rs e3 fun σ' g'=>k σ' g' ?_⟩
   have:=g'.hide ts;rw[So ts ts ds ρ ρ' (fun _ h=>h) e2]at this
   exact this
 |_=>cases e
noncomputable abbrev W0:XW:=fun _ _=>BN
def STs(X:Cx)(CL:ClA)(ifs:Ac Ar)(f:Rho->R Ao):Prop:=∀ A,PTs X ifs (fun σ H Q=>AOk H A/\∃ ρ,Good X.K CL A ρ σ H/\Dt W0 H (f ρ) Q)
theorem gF:STs X CL [] (fun _=>.ok Aa):=fun A pI s σ H Q I ⟨hA,ρ,g,p⟩=>iF pI s σ H Q I (p H (AN.refl H))
theorem gE(h:SB X CL W0 c f):STs X CL [c] f:=fun A pI s σ H Q I q=>iA (h A) pI s σ H Q I q
section
variable{X:Cx}{CL:ClA}{W:XW}{tg iter elt:Ar}{ifs:Ac Ar}{scope:CN}{pos:Bb}{N':Ac Ak}{ts:Ac Ag}{fi:Rho->R (Ac D)}{fc:Rho->R Ao}{fe:Rho->R D}{as:D->Rho->R Rho}{g:TG}
theorem ZH{g:D->R Ao}{f:D->R D}{x:D}{xs ys:Ac D}(h:BH g f (x::xs)=.ok ys):(g x=.ok Ad/\BH g f xs=.ok ys)\/∃ y r,g x=.ok Aa/\f x=.ok y/\BH g f xs=.ok r/\ys=y::r:=by
 unfold BH at h;cases e:g x with
 |bad=>rw[e]at h;cases h
 |exn z=>rw[e]at h;cases h
 |ok b=>
  rw[e,R.bind_ok]at h;cases b with
  |false=>exact .inl ⟨rfl,h⟩
  |true=>
   rw[Ay rfl]at h;cases e2:f x with
   |bad=>rw[e2]at h;cases h
   |exn z=>rw[e2]at h;cases h
   |ok y=>
    rw[e2,R.bind_ok]at h;cases e3:BH g f xs with
    |bad=>rw[e3]at h;cases h
    |exn z=>rw[e3]at h;cases h
    |ok r=>
     rw[e3,R.bind_ok]at h;cases h;exact .inr ⟨y,r,rfl,rfl,rfl,rfl⟩
theorem JW{β:Type}{r:R α}{f:α->R β}{b:β}(h:r.bind f=.ok b):∃ a,r=.ok a/\f a=.ok b:=by
 cases r with
 |ok a=>exact⟨a,rfl,h⟩
 |exn x=>cases h
 |bad=>cases h
theorem bQ{ds ys:Ac D}(hGG:GG K CL ts as g)(hA:AOk H1 A)(gd:Good K CL A ρ σ H1)(yl:Jf K CL A ds J H1)(hz:ds.length<=sizeLine)(hcp:BH (fun x=>(as x ρ).bind fc) (fun x=>(as x ρ).bind fe) ds=.ok ys)(q:∀ xs H2,AN H1 H2->Reps K CL H2 A xs ys->∀ p,H2 p=Af->Q (.ref p) (upd H2 p (.lst xs))):L5 J ts g (fun σ H Q=>AOk H A/\∃ ρ,Good K CL A ρ σ H/\Dt W0 H (fc ρ) Q) (fun σ H Q=>AOk H A/\∃ ρ,Good K CL A ρ σ H/\Bt (fun H=>Rep K CL H A) W0 H (fe ρ) Q) σ H1 Q:=by
 refine⟨fun i m xs σ' H'=>m=ds.length-i/\i<=ds.length/\xs.length<=i/\AN H1 H'/\Good K CL A (FH ts ρ) σ' H'/\∃ outs rest,Reps K CL H' A xs outs/\BH (fun x=>(as x ρ).bind fc) (fun x=>(as x ρ).bind fe) (ds.drop i)=.ok rest/\ys=outs++rest,
  ⟨ds.length,by simp,CW _,AS _,AN.refl _,gd.hideT ts,[],ys,trivial,hcp,rfl⟩,?_⟩
 rintro i m xs σ' H' ⟨rfl,hi,hxl,sm,g',outs,rest,rs,hc,e⟩;obtain⟨yst,ygo⟩:=yl H' (Kp.of sm) i;by_cases hlt:i<ds.length
 ·have hd:ds[i]?=Ab ds[i]:=AU hlt;obtain⟨hgo,hyl⟩:=ygo _ hd;refine .inr ⟨hgo,by omega,fun x H2 hx=>?_⟩
  obtain⟨s2,rx⟩:=hyl x H2 hx;have rx':=rx A (fun a ha=>.inl ha) (hA.same sm)
  rw[Fo hlt]at hc;have sm2:=sm.trans s2;rcases ZH hc with ⟨h1,h2⟩|⟨y,r,h1,h2,h3,h4⟩
  ·obtain⟨ρ',ea,ec⟩:=JW h1;refine hGG A ρ σ' H2 x ds[i] ρ' _ (g'.same s2) rx' ea fun σ3 g3 g4=>⟨hA.same sm2,ρ',g3,?_⟩
   rw[ec];exact fun H3 s3=>by
    dsimp only;rw[AH (by decide)]
    exact⟨ds.length-(i+1),by omega,rfl,hlt,by omega,sm2.trans s3,g4.same s3,outs,rest,(rs.same s2).same s3,h2,e⟩
  ·obtain⟨ρ',ea,ec⟩:=JW h1;obtain⟨ρ2,ea2,ee⟩:=JW h2;rw[ea]at ea2;cases ea2;refine hGG A ρ σ' H2 x ds[i] ρ' _ (g'.same s2) rx' ea fun σ3 g3 g4=>⟨hA.same sm2,ρ',g3,?_⟩
   rw[ec];exact fun H3 s3=>by
    dsimp only;rw[Ay rfl];refine⟨(hA.same sm2).same s3,ρ',g3.same s3,?_⟩;rw[ee];exact fun v H4 s4 r4=>⟨ds.length-(i+1),by omega,rfl,hlt,by rw[Cw,Xd];omega,(sm2.trans s3).trans s4,(g4.same s3).same s4,outs++[y],r,(((rs.same s2).same s3).same s4).append ⟨r4,trivial⟩,h3,by rw[e,h4];simp⟩
 ·have hk':ds.length<=i:=by omega
  rw[W2 hk']at hc;have hr:rest=[]:=by cases hc;rfl
  subst hr;rw[Dz]at e;subst e;exact .inl ⟨yst hk',fun p hp=>q xs H' sm rs p hp⟩
theorem E9.ok_of{r:R (Ac D)}{f:Ac D->R D}{Q':It->Hp->Prop}(h:Bt Rq W H (r.bind f) Q)(k:∀ ds J H',r=.ok ds->AN H H'->Jf K CL A ds J H'->ds.length<=sizeLine->Bt Rq W H' (f ds) Q->Q' J H'):E9 K CL A W H r Q':=by
 cases r with
 |ok d=>exact fun J H2 s2 y z=>k d J H2 rfl s2 y z (Bt.same s2 h)
 |exn x=>exact h
 |bad=>exact h
theorem qZ{r:R α}{a:α}(h:noX r=.ok a):r=.ok a:=by
 cases r with
 |ok b=>exact h
 |exn x=>cases h
 |bad=>cases h
theorem SQ(hGG:GG X.K CL ts as g)(hA:AOk H A)(gd:Good X.K CL A ρ σ H)(p:Bt (Em X.K CL Aa H A) W H ((fi ρ).bind fun xs=>(noX (BH (fun x=>(as x ρ).bind fc) (fun x=>(as x ρ).bind fe) xs)).bind fun ys=>.ok (.lst ys)) Q):E9 X.K CL A W H (fi ρ) (fun J H1=>L5 J ts g (fun σ H Q=>AOk H A/\∃ ρ,Good X.K CL A ρ σ H/\Dt W0 H (fc ρ) Q) (fun σ H Q=>AOk H A/\∃ ρ,Good X.K CL A ρ σ H/\Bt (fun H=>Rep X.K CL H A) W0 H (fe ρ) Q) σ H1 Q):=
 E9.ok_of p fun ds J H1 e1 s1 yl hz p1=>by
  cases e2:noX (BH (fun x=>(as x ρ).bind fc) (fun x=>(as x ρ).bind fe) ds) with
  |ok ys=>
   rw[e2]at p1;exact bQ hGG (hA.same s1) (gd.same s1) yl hz (qZ e2) fun xs H2 s2 rs q hq=>p1 _ _ (s2.trans (FV hq _)) (Jz (s1.trans s2) ((hA.same s1).same s2) hq rs)
  |exn x=>rw[e2]at p1;cases hq:BH (fun x=>(as x ρ).bind fc) (fun x=>(as x ρ).bind fe) ds<;>rw[hq]at e2<;>cases e2
  |bad=>rw[e2]at p1;exact p1.elim
theorem iZ(hc:X.calm=Aa)(B:BlockOk X scope N' ts)(hi:SI X CL W tg iter fi)(hGG:GG X.K CL ts as g)(hg:∀ cl C s H fp,PG (cxC X scope cl C N' s H fp) tg g)(ht:∀ cl C s H fp,STs (cxC X scope cl C N' s H fp) CL ifs fc)(he:∀ cl C s H fp,SE (cxC X scope cl C N' s H fp) CL W0 elt fe)(hs:∀ x,Dk iter X.env x=pure x):SC X CL W Aa (.ListComp elt [⟨tg,iter,ifs,0⟩] scope pos) (fun ρ=>(fi ρ).bind fun xs=>(noX (BH (fun x=>(as x ρ).bind fc) (fun x=>(as x ρ).bind fe) xs)).bind fun ys=>.ok (.lst ys)):=fun A pI s σ H Q I ⟨hA,ρ,gd,p⟩=>
 iO hc B (hi A) hg (fun cl C s H fp=>ht cl C s H fp A) (fun cl C s H fp=>he cl C s H fp A) hs pI s σ H Q I ⟨hA,ρ,gd,SQ hGG hA gd p⟩
end
section
variable{K:Fg}{CL:ClA}{Fz:Al->HO->Prop}{B:Al->Prop}{ρ:Rho}{σ:L2.St}{H H':Hp}
theorem Sx.setF(x:Sx K CL Fz B ρ σ H)(s:AN H H'){ds:Ac D}(h0:H a=Af)(h1:H' a=Ab (.lst xs))(r:Reps K CL H' (fun b=>CP B ρ σ b\/b=a) xs ds):Sx K CL Fz B (ρ.set i (Ab (.lst ds,Aa))) (σ.set i (Ab (.ref a))) H':=by
 have nA:¬ CP B ρ σ a:=x.aok.new h0;have own:∀(j:Ag)(e:D),(ρ.set i (Ab (.lst ds,Aa)))[j]?=Ab (Ab (e,Aa))->(i=j/\e=.lst ds)\/(i≠j/\ρ[j]?=Ab (Ab (e,Aa))):=fun j e h=>by
  by_cases hj:i=j
  ·subst hj;have:=HL h;cases this;exact .inl ⟨rfl,rfl⟩
  ·exact .inr ⟨hj,by rw[Dh hj]at h;exact h⟩
 have atI:∀{j:Ag}{y:Sl},(ρ.set i (Ab (.lst ds,Aa)))[j]?=Ab y->i=j->(σ.set i (Ab (.ref a)))[j]?=Ab (Ab (.ref a)):=fun {j y} h e=>by
  subst e;have hl:i<σ.length:=by
   rw[<-x.len];have:=(Ba.mp h).1;simpa using this
  rw[Do hl]
 have sub:∀ b,CP B (ρ.set i (Ab (.lst ds,Aa))) (σ.set i (Ab (.ref a))) b->CP B ρ σ b\/b=a:=fun b h=>by
  rcases h with h|⟨j,e,h1,h2⟩
  ·exact .inl (.inl h)
  ·rcases own j e h1 with ⟨hj,_⟩|⟨hj,h1'⟩
   ·rw[atI h1 hj]at h2;cases h2;exact .inr rfl
   ·rw[Dh hj]at h2;exact .inl (.inr ⟨j,e,h1',h2⟩)
 have wide:∀{v:V}{d:D},Rep K CL H (CP B ρ σ) v d->Rep K CL H' (CP B (ρ.set i (Ab (.lst ds,Aa))) (σ.set i (Ab (.ref a)))) v d:=fun r=>(Rep.wide (fun b hb=>(sub b hb).imp id fun e=>by rw[e];exact h0) _ r).same s
 have wides:∀{v:Ac V}{d:Ac D},Reps K CL H (CP B ρ σ) v d->Reps K CL H' (CP B (ρ.set i (Ab (.lst ds,Aa))) (σ.set i (Ab (.ref a)))) v d:=fun r=>(Reps.wide (fun b hb=>(sub b hb).imp id fun e=>by rw[e];exact h0) _ r).same s
 refine⟨⟨fun j e h=>?_,fun j e h=>?_,by rw[BE,BE];exact x.len⟩,fun b h=>?_,fun j e b g1 g2=>?_,fun j k e f b g1 g2 g3 g4=>?_,fun b o z=>s _ _ (x.same b o z),by rw[BE,BE];exact x.len⟩
 ·have hj:i≠j:=by
   rintro rfl;have:=HL h;cases this
  rw[Dh hj]at h;obtain⟨w',q,rw'⟩:=x.good.sh j e h;exact⟨w',by rw[Dh hj];exact q,wide rw'⟩
 ·rcases own j e h with ⟨hj,rfl⟩|⟨hj,h'⟩
  ·have q:=atI h hj;exact⟨a,xs,ds,q,rfl,.inr ⟨j,_,h,q⟩,h1,Reps.sub sub _ r⟩
  ·obtain⟨b,ys,es,q,z,ha,hh,rr⟩:=x.good.ow j e h';have q':(σ.set i (Ab (.ref a)))[j]?=Ab (Ab (.ref b)):=by rw[Dh hj];exact q
   exact⟨b,ys,es,q',z,.inr ⟨j,e,h,q'⟩,s _ _ hh,wides rr⟩
 ·rcases sub b h with z|z
  ·obtain⟨ys,q⟩:=x.aok b z;exact⟨ys,s _ _ q⟩
  ·rw[z];exact⟨xs,h1⟩
 ·rcases own j e g1 with ⟨hj,_⟩|⟨hj,h'⟩
  ·rw[atI g1 hj]at g2;cases g2;refine⟨fun o z=>?_,fun z=>nA (.inl z)⟩
   have:=x.same a o z;rw[h0]at this;cases this
  ·rw[Dh hj]at g2;exact x.new j e b h' g2
 ·rcases own j e g1 with ⟨hj,_⟩|⟨hj,h'⟩
  ·rw[atI g1 hj]at g3;cases g3;rcases own k f g2 with ⟨hk,_⟩|⟨hk,h''⟩
   ·exact hj.symm.trans hk
   ·rw[Dh hk]at g4;exact absurd (.inr ⟨k,f,h'',g4⟩) nA
  ·rw[Dh hj]at g3;rcases own k f g2 with ⟨hk,_⟩|⟨hk,h''⟩
   ·rw[atI g2 hk]at g4;cases g4;exact absurd (.inr ⟨j,e,h',g3⟩) nA
   ·rw[Dh hk]at g4;exact x.dis j k e f b h' h'' g3 g4
theorem Sx.upd(x:Sx K CL Fz B ρ σ H){i:Ag}{d:D}{a:Al}{xs:Ac V}{ds:Ac D}(hi:ρ[i]?=Ab (Ab (d,Aa)))(ha:σ[i]?=Ab (Ab (.ref a)))(r:Reps K CL H (CP B ρ σ) xs ds):Sx K CL Fz B (ρ.set i (Ab (.lst ds,Aa))) σ (L2.upd H a (.lst xs)):=by
 have oa:CP B ρ σ a:=.inr ⟨i,d,hi,ha⟩;have hil:i<ρ.length:=(Ba.mp hi).1;have get:∀(j:Ag)(e:D),(ρ.set i (Ab (.lst ds,Aa)))[j]?=Ab (Ab (e,Aa))↔(i=j/\e=.lst ds)\/(i≠j/\ρ[j]?=Ab (Ab (e,Aa))):=fun j e=>by
  by_cases hj:i=j
  ·subst hj;rw[Do hil];simp;exact⟨fun z=>z.symm,fun z=>z.symm⟩
  ·rw[Dh hj];simp[hj]
 have same:∀ b,CP B (ρ.set i (Ab (.lst ds,Aa))) σ b↔CP B ρ σ b:=fun b=>by
  constructor
  ·rintro (h|⟨j,e,h1,h2⟩)
   ·exact .inl h
   ·rcases (get j e).mp h1 with ⟨rfl,_⟩|⟨_,h1⟩
    ·exact .inr ⟨i,d,hi,h2⟩
    ·exact .inr ⟨j,e,h1,h2⟩
  ·rintro (h|⟨j,e,h1,h2⟩)
   ·exact .inl h
   ·by_cases hj:i=j
    ·subst hj;exact .inr ⟨i,.lst ds,(get i _).mpr (.inl ⟨rfl,rfl⟩),h2⟩
    ·exact .inr ⟨j,e,(get j e).mpr (.inr ⟨hj,h1⟩),h2⟩
 have kp:Kp (CP B ρ σ) H (L2.upd H a (.lst xs)):=fun b o e na=>by
  have hne:b≠a:=by
   rintro rfl;exact na oa
  rw[Di hne];exact e
 refine⟨⟨fun j e h=>?_,fun j e h=>?_,by rw[BE];exact x.len⟩,fun b h=>?_,fun j e b g1 g2=>?_,fun j k e f b g1 g2 g3 g4=>?_,fun b o z=>?_,by rw[BE];exact x.len⟩
 ·have hj:i≠j:=by
   rintro rfl;have:=HL h;cases this
  rw[Dh hj]at h;obtain⟨w',q,rw'⟩:=x.good.sh j e h;exact⟨w',q,Rep.sub (fun b hb=>(same b).mp hb) _ (Rep.kp kp _ rw')⟩
 ·rcases (get j e).mp h with ⟨rfl,rfl⟩|⟨hj,h'⟩
  ·exact⟨a,xs,ds,ha,rfl,(same a).mpr oa,HJ,Reps.sub (fun b hb=>(same b).mp hb) _ (Reps.kp kp _ r)⟩
  ·obtain⟨b,ys,es,q,z,hb,hh,rr⟩:=x.good.ow j e h';have hne:b≠a:=fun z=>hj (x.dis i j d e a hi h' ha (z ▸ q))
   exact⟨b,ys,es,q,z,(same b).mpr hb,by rw[Di hne];exact hh,Reps.sub (fun b hb=>(same b).mp hb) _ (Reps.kp kp _ rr)⟩
 ·obtain⟨ys,q⟩:=x.aok b ((same b).mp h);by_cases e:b=a
  ·rw[e];exact⟨xs,HJ⟩
  ·exact⟨ys,by rw[Di e];exact q⟩
 ·rcases (get j e).mp g1 with ⟨rfl,_⟩|⟨_,h'⟩
  ·exact x.new i d b hi g2
  ·exact x.new j e b h' g2
 ·rcases (get j e).mp g1 with ⟨rfl,_⟩|⟨hj,h'⟩
  ·rcases (get k f).mp g2 with ⟨rfl,_⟩|⟨hk,h''⟩
   ·rfl
   ·exact x.dis i k d f b hi h'' g3 g4
  ·rcases (get k f).mp g2 with ⟨rfl,_⟩|⟨hk,h''⟩
   ·exact x.dis j i e d b h' hi g3 g4
   ·exact x.dis j k e f b h' h'' g3 g4
 ·have hne:b≠a:=fun e=>(x.new i d a hi ha).1 o (e ▸ z)
  rw[Di hne];exact x.same b o z
theorem Sx.rel(x:Sx K CL Fz B ρ σ H)(hi:ρ[i]?=Ab (Ab (d,Aa))):Sx K CL Fz B (ρ.set i (Ab (d,Ad))) σ H:=by
 obtain⟨a,xs,ds,q,rfl,oa,hh,rr⟩:=x.good.ow i d hi;have own:∀(j:Ag)(e:D),(ρ.set i (Ab (.lst ds,Ad)))[j]?=Ab (Ab (e,Aa))->i≠j/\ρ[j]?=Ab (Ab (e,Aa)):=fun j e h=>by
  by_cases hj:i=j
  ·subst hj;have:=HL h;cases this
  ·exact⟨hj,by rw[Dh hj]at h;exact h⟩
 have sub:∀ b,CP B (ρ.set i (Ab (.lst ds,Ad))) σ b->CP B ρ σ b:=fun b h=>by
  rcases h with h|⟨j,e,h1,h2⟩
  ·exact .inl h
  ·exact .inr ⟨j,e,(own j e h1).2,h2⟩
 have na:¬ CP B (ρ.set i (Ab (.lst ds,Ad))) σ a:=fun h=>by
  rcases h with h|⟨j,e,h1,h2⟩
  ·exact(x.new i _ a hi q).2 h
  ·obtain⟨hj,h1⟩:=own j e h1;exact hj (x.dis i j _ e a hi h1 q h2)
 refine⟨⟨fun j e h=>?_,fun j e h=>?_,by rw[BE];exact x.len⟩,fun b h=>x.aok b (sub b h),fun j e b g1 g2=>x.new j e b (own j e g1).2 g2,fun j k e f b g1 g2 g3 g4=>x.dis j k e f b (own j e g1).2 (own k f g2).2 g3 g4,x.same,by rw[BE];exact x.len⟩
 ·by_cases hj:i=j
  ·subst hj;have e1:=HL h;cases e1;exact⟨_,q,a,xs,rfl,.inl na,SqL.of hh,Reps.sub sub _ rr⟩
  ·rw[Dh hj]at h;obtain⟨w',q',rw'⟩:=x.good.sh j e h;exact⟨w',q',Rep.sub sub _ rw'⟩
 ·obtain⟨hj,h'⟩:=own j e h;obtain⟨b,ys,es,q',z,hb,hh',rr'⟩:=x.good.ow j e h';exact⟨b,ys,es,q',z,.inr ⟨j,e,h,q'⟩,hh',Reps.sub sub _ rr'⟩
end
section
variable{X:Cx}{CL:ClA}{W:XW}{pos:Bb}{e:Ar}{fe:Rho->R D}{fr:Ao}
theorem CJ.exC{f:D->O}(x:Sx X.K CL Fz B ρ σ H)(h:CJ X.K CL Fz B W (O.of ρ r f) D')(k:∀ d v H',r=.ok d->AN H H'->Em X.K CL fr H A H' v d->Sx X.K CL Fz B ρ σ H'->CJ X.K CL Fz B W (f d) D'->Q v H'):Bt (Em X.K CL fr H A) W H r Q:=by
 cases r with
 |ok d=>exact fun v H' s r=>k d v H' rfl s r (x.grow s) h
 |exn y=>exact fun H' s=>h H' fun b o z=>s _ _ (x.same b o z)
 |bad=>exact h
def SAs(X:Cx)(CL:ClA)(W:XW)(fr:Ao)(i:Ag)(st:B8)(f:Rho->R D):Prop:=∀ A,PS X st (NU (fun σ H Q=>AOk H A/\∃ ρ,Good X.K CL A ρ σ H/\Bt (Em X.K CL fr H A) W H (f ρ) Q) (Fn i))
theorem SC.sas{n:Ak}(hN:X.N.Nodup)(hi:X.N[i]?=Ab n)(hx:Loc X.env.scope n)(he:SC X CL W fr e fe)(hs:DT e (Ab (.Name n pos')) pos.line X.env=pure Ad)(hf:X.fn n=Aa\/X.env.scope.names.lookup n=Ab .local):SAs X CL W fr i (.Assign [.Name n pos'] e pos) fe:=
 fun A=>rT hN hi hx (he A) hs hf
theorem cW{n:Ak}{fe:Rho->R D}{g:TG}(hc:X.calm=Aa)(B:BlockOk X scope N' ts)(hi:SI X CL W tg iter fi)(hGG:GG X.K CL ts as g)(hg:∀ cl C s H fp,PG (cxC X scope cl C N' s H fp) tg g)(ht:∀ cl C s H fp,STs (cxC X scope cl C N' s H fp) CL ifs fc)(he:∀ cl C s H fp,SE (cxC X scope cl C N' s H fp) CL W0 elt fe)(hs:∀ x,Dk iter X.env x=pure x)(hN:X.N.Nodup)(hni:X.N[i]?=Ab n)(hx:X.env.scope.names.lookup n=Ab .local)(hsw:DT (.ListComp elt [⟨tg,iter,ifs,0⟩] scope pos) (Ab (.Name n pos')) pos2.line X.env=pure Aa):SAs X CL W Aa i (.Assign [.Name n pos'] (.ListComp elt [⟨tg,iter,ifs,0⟩] scope pos) pos2) (fun ρ=>(fi ρ).bind fun xs=>(noX (BH (fun x=>(as x ρ).bind fc) (fun x=>(as x ρ).bind fe) xs)).bind fun ys=>.ok (.lst ys)):=fun A pI s σ H Dn I ⟨hA,ρ,gd,p⟩=>
 iI hc B (hi A) hg (fun cl C s H fp=>ht cl C s H fp A) (fun cl C s H fp=>he cl C s H fp A) hs hN hni hx hsw pI s σ H Dn I ⟨hA,ρ,gd,SQ hGG hA gd p⟩
theorem Vk{st:B8}(h:SAs X CL W fr i st fe):SS X CL W st (fun ρ=>O.of ρ (fe ρ) fun d=>.next (ρ.set i (Ab (d,Ad)))):=fun Fz B pI s σ H D I ⟨ρ,x,p⟩=>
 h (CP B ρ σ) pI s σ H D I ⟨x.aok,ρ,x.good,CJ.exC x p fun d v H' _ s r x' q=>q _ H' (x'.set i r.1)⟩
theorem fH{st:B8}(h:SAs X CL W Aa i st fe):SS X CL W st (fun ρ=>O.of ρ (fe ρ) fun d=>setF ρ i d):=fun Fz B pI s σ H D I ⟨ρ,x,p⟩=>
 h (CP B ρ σ) pI s σ H D I ⟨x.aok,ρ,x.good,CJ.exC x p fun d v H' _ s r x' q=>by
  cases d with
  |lst ds=>
   obtain⟨a,xs,rfl,h0,h1,rs⟩:=r.2 rfl ds rfl;exact q _ H' (x.setF s h0 h1 rs)
  |dic ds=>exact r.1.elim
  | _=>exact q.elim⟩
theorem gK(he:SC X CL W Aa e fe):SS X CL W (.Return (Ab e) pos) (fun ρ=>O.of ρ (fe ρ) fun d=>.ret d Aa):=fun Fz B pI s σ H D I ⟨ρ,x,p⟩=>
 Qj (he (CP B ρ σ)) pI s σ H D I ⟨x.aok,ρ,x.good,CJ.exC x p fun d v H' _ s r x' q=>q v H' x'.same (Rep.sub (fun a h=>.inl h) _ r.1) fun _ ds e=>by
  obtain⟨a,xs,h0,h1,h2,h3⟩:=r.2 rfl ds e;refine⟨a,xs,h0,fun o z=>?_,h2,Reps.sub (fun b hb=>hb.imp .inl id) _ h3⟩
  have:=x.same a o z;rw[h1]at this;cases this⟩
noncomputable def Ri(ρ:Rho)(i:Ag):Ao:=match ρ[i]? with
  |some (Ab (_,o))=>o
  |_=>Ad
theorem gI(he:PE X e (G6 i)):SS X CL W (.Return (Ab e) pos) (fun ρ=>O.of ρ (Gd ρ i) fun d=>.ret d (Ri ρ i)):=fun Fz B pI s σ H D I ⟨ρ,x,p⟩=>
 Qj he pI s σ H D I (by
  dsimp only at p;cases e:Gd ρ i with
  |bad=>rw[e]at p;exact p.elim
  |exn z=>exact(Tx e).elim
  |ok d=>
   rw[e]at p;obtain⟨o,e⟩:=T3 e;have eo:Ri ρ i=o:=by unfold Ri;rw[e]
   rw[O.of_ok,eo]at p;cases o with
   |false=>
    obtain⟨v,q,r⟩:=x.good.sh i d e;exact⟨v,q,p v H x.same (Rep.sub (fun a h=>.inl h) _ r) fun z=>nomatch z⟩
   |true=>
    obtain⟨a,xs,ds,q,rfl,ha,hh,r⟩:=x.good.ow i d e;obtain⟨n1,n2⟩:=x.new i _ a e q;refine⟨_,q,p _ H x.same ⟨a,xs,rfl,.inl n2,SqL.of hh,Reps.sub (fun a h=>.inl h) _ r⟩ fun _ ds' e'=>?_⟩
    cases e';exact⟨a,xs,rfl,n1,hh,Reps.sub (fun b hb=>hb.elim .inl fun z=>z ▸ ha) _ r⟩)
theorem Ma{ds:Ac D}(h:Dj ρ i=.ok ds):ρ[i]?=Ab (Ab (.lst ds,Aa)):=by
 unfold Dj at h;split at h
 ·rename_i e;cases h;exact e
 ·cases h
theorem L6{x:Ex}(h:Dj ρ i=.exn x):BN:=by
 unfold Dj at h;split at h<;>cases h
variable{o:Ar}{i:Ag}{apos cpos:Bb}
theorem pV(ho:PE X o (G6 i))(he:SE X CL W e fe)(hbase:Hd o "append" X.env (eval o X.env)=eval o X.env)(hfew:((CQ cpos (AG [e] X.env)).all (fun x=>!x.1)&&(JR cpos (Io [] X.env)).all (fun x=>x.1.isSome)&&decide ([e].length+([]:Ac Fh).length+(if ([]:Ac Fh).isEmpty then 0 else 1)<30))=Aa)(hline:(apos.endLine==cpos.line)=Aa)(hs:AG [e] X.env=[(Ad,eval e X.env)])(hsw:DT (.Call (.Attribute o "append" apos) [e] [] cpos) Af pos.line X.env=pure Ad):
  SS X CL W (.Expr (.Call (.Attribute o "append" apos) [e] [] cpos) pos) (fun ρ=>O.of ρ (Dj ρ i) fun xs=>O.of ρ (fe ρ) fun d=>if Du (xs.length+1)=Aa then .next (ρ.set i (Ab (.lst (xs++[d]),Aa))) else .bad):=fun Fz B pI s σ H D I ⟨ρ,x,p⟩=>by
 refine Nj (QU FR PySem.F.slot_list_append PySem.F.type_list_append bH ho (E6 (he (CP B ρ σ)) GU hs) hbase hfew hline hs rfl) hsw pI s σ H D I ?_;dsimp only at p;cases e1:Dj ρ i with
 |bad=>rw[e1]at p;exact p.elim
 |exn z=>exact(L6 e1).elim
 |ok ds=>
  rw[e1,O.of_ok]at p;have hi:=Ma e1;obtain⟨a,xs,ds',q,e2,ha,hh,r⟩:=x.good.ow i _ hi;cases e2;refine⟨_,q,.inl ⟨rfl,xs,SqL.of hh⟩,x.aok,ρ,x.good,CJ.ex x p fun d v H' _ s rv x' q'=>?_⟩
  split at q'
  ·rename_i hz;refine⟨a,xs,v,rfl,rfl,s _ _ hh,?_,q' _ _ (x'.upd hi q ((r.same s).append ⟨rv,trivial⟩))⟩;have:=IV hz;rw[r.length];omega
  ·exact q'.elim
theorem pU(ho:PE X o (G6 i))(he:SC X CL W Aa e fe)(hbase:Hd o "extend" X.env (eval o X.env)=eval o X.env)(hfew:((CQ cpos (AG [e] X.env)).all (fun x=>!x.1)&&(JR cpos (Io [] X.env)).all (fun x=>x.1.isSome)&&decide ([e].length+([]:Ac Fh).length+(if ([]:Ac Fh).isEmpty then 0 else 1)<30))=Aa)(hline:(apos.endLine==cpos.line)=Aa)(hs:AG [e] X.env=[(Ad,eval e X.env)])(hsw:DT (.Call (.Attribute o "extend" apos) [e] [] cpos) Af pos.line X.env=pure Ad):
  SS X CL W (.Expr (.Call (.Attribute o "extend" apos) [e] [] cpos) pos) (fun ρ=>O.of ρ (Dj ρ i) fun xs=>O.of ρ (fe ρ) fun d=>O.of ρ (La d) fun ys=>if Du (xs.length+ys.length)=Aa then .next (ρ.set i (Ab (.lst (xs++ys),Aa))) else .bad):=fun Fz B pI s σ H D I ⟨ρ,x,p⟩=>by
 refine Nj (QU FR EY X9 bG ho (E6 (he (CP B ρ σ)) GU hs) hbase hfew hline hs rfl) hsw pI s σ H D I ?_;dsimp only at p;cases e1:Dj ρ i with
 |bad=>rw[e1]at p;exact p.elim
 |exn z=>exact(L6 e1).elim
 |ok ds=>
  rw[e1,O.of_ok]at p;have hi:=Ma e1;obtain⟨a,xs,ds',q,e2,ha,hh,r⟩:=x.good.ow i _ hi;cases e2;refine⟨_,q,.inl ⟨rfl,xs,SqL.of hh⟩,x.aok,ρ,x.good,CJ.exC x p fun d v H' _ s rv x' q'=>?_⟩
  cases d with
  |lst es=>
   obtain⟨b,ys,rfl,h0,h1,rs⟩:=rv.2 rfl es rfl;rw[SZ,O.of_ok]at q';split at q'
   ·rename_i hz;refine⟨a,b,xs,ys,rfl,rfl,s _ _ hh,h1,?_,q' _ _ (x'.upd hi q ((r.same s).append (Reps.sub (fun c hc=>.inl hc) _ rs)))⟩
    rw[r.length,rs.length];exact IV hz
   ·exact q'.elim
  |_=>exact q'.elim
theorem pT{k:Ar}{fk:Rho->R Ov.D}{spos:Bb}(ho:PE X o (G6 i))(hk:ST X CL W k fk)(he:SE X CL W e fe)(ha:∀ v,assign (.Subscript o k spos) X.env v=(do
      let ov <-holding [v] (eval o X.env)
      let iv <-holding [v,ov] (eval k X.env)
      Hx spos
      holding [v,ov,iv] (JM ov iv v)
      release [v,ov,iv] []))(hs:F8 [.Subscript o k spos] e pos.line X.env=pure Ad)(hw:D5 [.Subscript o k spos] e X.env=pure Af)(h1:(CA [.Subscript o k spos] X.env).map (·.2)=[assign (.Subscript o k spos) X.env]):
    SS X CL W (.Assign [.Subscript o k spos] e pos) (fun ρ=>O.of ρ (fe ρ) fun d=>O.of ρ (Dj ρ i) fun xs=>O.of ρ ((fk ρ).bind E1) fun j=>match plD xs.length j with
      |some n=>.next (ρ.set i (Ab (.lst (xs.set n d),Aa)))
      | none=>.bad):=fun Fz B pI s σ H D I ⟨ρ,x,p⟩=>
  Qk (he (CP B ρ σ)) (Qm ho (hk (CP B ρ σ)) Pv ha) hs hw h1 pI s σ H D I ⟨x.aok,ρ,x.good,CJ.ex x p fun d v H' _ s rv x' q'=>by
    cases e1:Dj ρ i with
    |bad=>rw[e1]at q';exact q'.elim
    |exn z=>exact(L6 e1).elim
    |ok ds=>
      rw[e1,O.of_ok]at q';have hi:=Ma e1;obtain⟨a,xs,ds',q,e2,ha,hh,r⟩:=x'.good.ow i _ hi;cases e2;refine⟨_,q,x'.aok,ρ,x'.good,?_⟩;cases e3:fk ρ with
      |bad=>rw[e3]at q';exact q'.elim
      |exn z=>rw[e3]at q';exact fun H2 s2=>q' H2 fun b o z=>s2 _ _ (x'.same b o z)
      |ok dk=>
        rw[e3]at q';intro y H2 s2 ry;cases dk with
        |int j=>
          have ey:=ry.int_of;subst ey;rw[R.bind_ok,bX,O.of_ok]at q';cases e4:plD ds.length j with
          |none=>rw[e4]at q';exact q'.elim
          |some n=>
            rw[e4]at q';refine⟨a,xs,j,n,rfl,rfl,s2 _ _ hh,?_,q' _ _ ((x'.grow s2).upd hi q (Reps.set (rv.same s2) n (r.same s2)))⟩;rw[r.length];exact e4
        | _=>exact q'.elim⟩
theorem fG{as:Ov.D->Rho->R Rho}{g:TG}(hGT:GT X.K CL as g)(hg:PG X tg g)(he:SE X CL W e fe)(hs:F8 [tg] e pos.line X.env=pure Ad)(hw:D5 [tg] e X.env=pure Af)(h1:(CA [tg] X.env).map (·.2)=[assign tg X.env])(hax:∀ d ρ x,as d ρ≠.exn x):SS X CL W (.Assign [tg] e pos) (fun ρ=>O.of ρ (fe ρ) fun d=>O.of ρ (as d ρ) fun ρ'=>.next ρ'):=fun Fz B pI s σ H D I ⟨ρ,x,p⟩=>
 Qk (he (CP B ρ σ)) hg hs hw h1 pI s σ H D I ⟨x.aok,ρ,x.good,CJ.ex x p fun d v H' _ s rv x' q'=>by
  cases ea:as d ρ with
  |bad=>rw[ea]at q';exact q'.elim
  |exn z=>exact absurd ea (hax _ _ z)
  |ok ρ2=>
   rw[ea,O.of_ok]at q';exact hGT Fz B ρ σ H' v d ρ2 _ x' rv ea fun σ' x3=>q' σ' H' x3⟩
theorem gG{rest:Ac B8}{f:Rho->O}(i:Ag)(h:SSs X CL W rest f):SSs X CL W rest (fun ρ=>(match ρ[i]? with
   |some (Ab (d,Aa))=>O.next (ρ.set i (Ab (d,Ad)))
   | _=>O.next ρ).seq f):=fun Fz B=>PSs.weak (h Fz B) fun D σ H ⟨ρ,x,p⟩=>by
 dsimp only at p;split at p
 ·rename_i d e;exact⟨_,x.rel e,p⟩
 ·exact⟨ρ,x,p⟩
end
section
variable{prog:A9}{w:AK}{A:Bx}{E:Vq}{s:Ap}
theorem qY{j t:Al}{x:Ai}{Q:Vq}(st:s.heap.IsTupleIter j t k)(sq:s.heap.IsTuple t its)(at_:its[k]?=Ab x)(go:∀ h2,h2.IsTupleIter j t (k+1)->EZ j s.heap h2->Q x {s with heap:=h2}):Az (model prog w) A (A4 (.ref j)) Q E s:=by
 obtain⟨oj,gj,cj,dj⟩:=id st;obtain⟨ot,gt,_,nt,dt⟩:=sq;show Az _ _ (callSpecial? _ _ >>= _) _ _ _;refine Ah (Ci st.typeIs D0 (CD D0 st.typeIs X3 ?_ (XS _)));show Az _ _ (field (.ref j) 0 >>= _) _ _ _;refine Ah (Bu gj dj (x:=.ref t) rfl ?_);show Az _ _ (field (.ref j) 1 >>= _) _ _ _;refine Ah (Bu gj dj (x:=.int k 0) rfl ?_);refine Ah (B6 gt dt ?_);simp only[Hr,at_];exact Ah (YQ gj dj (by simp) (Av ⟨x,rfl,Av (go _ ⟨_,Dx _ gj (Obj.isFreed_of_fields (Yi dj _)),(Obj.cls_mapFields ..).trans cj,by rw[Yi dj];simp[C4]⟩ (GO ..))⟩))
theorem bF{j t:Al}{Q:Vq}(calm:A.handled=Af)(st:s.heap.IsTupleIter j t k)(sq:s.heap.IsTuple t its)(at_:its[k]?=Af)(up:∀ h2 e,Im j s.heap h2->(∃ o,h2.get? e=Ab o/\o.cls=.type "StopIteration")->E (.ref e) {s with heap:=h2}):Az (model prog w) A (A4 (.ref j)) Q E s:=by
 obtain⟨oj,gj,cj,dj⟩:=id st;obtain⟨ot,gt,_,nt,dt⟩:=sq;show Az _ _ (callSpecial? _ _ >>= _) _ _ _;refine Ah (Ci st.typeIs D0 (CD D0 st.typeIs X3 ?_ (XS _)));show Az _ _ (field (.ref j) 0 >>= _) _ _ _;refine Ah (Bu gj dj (x:=.ref t) rfl ?_);show Az _ _ (field (.ref j) 1 >>= _) _ _ _;refine Ah (Bu gj dj (x:=.int k 0) rfl ?_);refine Ah (B6 gt dt ?_);simp only[Hr,at_];refine Ah (GC (Ah (YQ gj dj (by simp) ?_)))
 refine Ah ?_;simp only[newExc,newTuple];refine Ah (C0 ?_ (by size_fits))
 refine Ah (m:=YA _ _) (wpAny_of_eq (a:=.none) (by first|rfl|(simp only[YA];rfl)) (C0 ?_ (by size_fits)))
 simp only[raiseNew];refine Ah (wpAny_handled ?_)
 first|rw[show A.in1.handled=Af from calm]|rw[calm]
 exact Ah (Av (wpAny_throw (up _ _ (((GO ..).extBut.push _).push _) ⟨_,AC _ rfl,rfl⟩)))
end
structure Dw (prog:A9) (w:AK) (A:Bx) (j:Al) (fp:Ac Al) (n:Ag) (P:Ag->Ai->Prop) (S:Ag->AT->Prop):Prop where
 frame:∀ i h h2,S i h->(∀ c∈fp,∀ o,h.get? c=Ab o->h2.get? c=Ab o)->S i h2
 item:∀ i (s:Ap) (Q:Vq) (E:Vq),i<n->S i s.heap->(∀ x h2 tk,P i x->S (i+1) h2->EZ j s.heap h2->Q x {s with heap:=h2,toks:=tk})->Az (model prog w) A (A4 (.ref j)) Q E s
 done:∀ i (s:Ap) (Q:Vq) (E:Vq),n<=i->S i s.heap->(∀ h2 e,Im j s.heap h2->(∃ o,h2.get? e=Ab o/\o.cls=.type "StopIteration")->E (.ref e) {s with heap:=h2})->Az (model prog w) A (A4 (.ref j)) Q E s
def ET(t:Ao)(h:AT)(j l:Al)(i:Ag):Prop:=match t with
  |true=>h.IsTupleIter j l i
  |false=>h.IsListIter j l i
def Cm(t:Ao)(h:AT)(l:Al)(its:AR Ai):Prop:=match t with
  |true=>h.IsTuple l its
  |false=>h.IsList l its
theorem Iz{A:Bx}(calm:A.handled=Af)(t:Ao)(j l:Al)(ne:l≠j)(its:AR Ai):Dw prog w A j [j,l] its.size (fun i v=>its[i]?=Ab v) (fun i h=>ET t h j l i/\Cm t h l its):=by
 cases t with
 |true=>exact⟨fun _ _ _ z k=>⟨z.1.at fun o e=>k j (by simp) o e,z.2.at fun o e=>k l (by simp) o e⟩,fun i s Q E hi z q=>qY z.1 z.2 (x:=its[i]) (by simp[hi]) fun h2 z2 sb=>q _ h2 s.toks (by simp[hi]) ⟨z2,z.2.extBut sb.extBut ne⟩ sb,fun i s Q E hi z q=>bF calm z.1 z.2 (by simp[hi]) q⟩
 |false=>exact⟨fun _ _ _ z k=>⟨z.1.at fun o e=>k j (by simp) o e,z.2.at fun o e=>k l (by simp) o e⟩,fun i s Q E hi z q=>wpAny_nextOf_list_item z.1 z.2 (x:=its[i]) (by simp[hi]) fun h2 z2 sb=>q _ h2 s.toks (by simp[hi]) ⟨z2,z.2.extBut sb.extBut ne⟩ sb,fun i s Q E hi z q=>wpAny_nextOf_list_end calm z.1 z.2 (by simp[hi]) q⟩
theorem nb1{I l c:Ag}(b:l<I)(h:c∈[I,l])(j:Ag):c≠I+(j+1):=by
 have h':c=I\/c=l:=by simpa using h
 omega
theorem nb2{I l c:Ag}(b:l<I)(h:c∈[I+1,l]):c≠I/\c≠I+3/\c≠I+4:=by
 have h':c=I+1\/c=l:=by simpa using h
 omega
theorem nij{I i j:Ag}(h:i≠j):I+i≠I+j:=by omega
theorem ni0{I i:Ag}(h:i≠0):I+i≠I:=by omega
section
variable{prog:A9}{w:AK}{A:Bx}{E:Vq}{s:Ap}
theorem dO{I l1 l2 n1 n2 k:Ag}{a b:Ai}{Q:Vq}(b1:l1<I)(b2:l2<I)(D1:Dw prog w A I [I,l1] n1 P1 S1)(D2:Dw prog w A (I+1) [I+1,l2] n2 P2 S2)(hz:Gv s.heap (I+4) (I+2) (I+3) .none)(hI:E0 s.heap (I+2) (.ref I) (.ref (I+1)))(hO:E0 s.heap (I+3) a b)(g1:S1 k s.heap)(g2:S2 k s.heap)(k1:k<n1)(k2:k<n2)(go:∀ x y h2 tk,P1 k x->P2 k y->Gv h2 (I+4) (I+2) (I+3) (C4 s.heap.objs.size)->E0 h2 (I+3) x y->S1 (k+1) h2->S2 (k+1) h2->E0 h2 s.heap.objs.size x y ->
   (∀ c o,c∉[I,I+1,I+3,I+4]->s.heap.get? c=Ab o->h2.get? c=Ab o)->Q (.ref s.heap.objs.size) {s with heap:=h2,toks:=tk}):Az (model prog w) A (Builtin.«zip.__next__» ⟨[.ref (I+4)],[]⟩) (fun fin s'=>∃ v,fin=.done (.ret v)/\Q v s') E s:=by
 refine Ah (m:=field (.ref (I+4)) 2) (Bu hz rfl (x:=.bool Ad) rfl ?_);refine Ah (m:=field (.ref (I+4)) 3) (Bu hz rfl (x:=.ref (I+2)) rfl (Ah (B6 hI rfl ?_)));refine Ah (m:=A5 (.ref (I+4))) ?_;simp only[A5];refine Ah (Bu hz rfl (x:=.none) rfl (Av ?_));rw[Ay rfl];refine Ah (GC (Ah (Bu hz rfl (x:=.ref (I+3)) rfl (Ah (Ca hz (by simp) fun p1 z1 e1=>Ah ?_)))))
 have z1':Gv p1 (I+4) (I+2) (I+3) .ellipsis:=z1;simp only[F9,Gq,DX,DJ];refine Ah (Ah (DG (Ah (m:=A4 (.ref I)) (D1.item k _ _ _ k1 (D1.frame _ _ _ g1 fun c hc o q=>e1.extBut c o (nb1 b1 hc 3) q) fun x p2 t2 px s2 e2=>Av ?_))))
 have o2:E0 p2 (I+3) a b:=e2.extBut _ _ (ni0 (by decide)) (e1.extBut _ _ (nij (by decide)) hO)
 refine Ah (B6 o2 rfl (Ah (GD o2 fun p3 o3 e3=>Ah (F6 (Av ?_)))))
 have o3':E0 p3 (I+3) x b:=o3;have g2':S2 k p3:=D2.frame _ _ _ g2 fun c hc o q=>e3.extBut c o (nb2 b2 hc).2.1 (e2.extBut c o (nb2 b2 hc).1 (e1.extBut c o (nb2 b2 hc).2.2 q))
 refine Ah (Ah (DG (Ah (m:=A4 (.ref (I+1))) (D2.item k _ _ _ k2 g2' fun y p4 t4 py s4 e4=>Av ?_))))
 have o4:E0 p4 (I+3) x b:=e4.extBut _ _ (nij (by decide)) o3'
 refine Ah (B6 o4 rfl (Ah (GD o4 fun p5 o5 e5=>Ah (F6 (Av (Av ?_))))))
 have o5':E0 p5 (I+3) x y:=o5;have sz:p5.objs.size=s.heap.objs.size:=by rw[e5.1,e4.1,e3.1,e2.1,e1.1]
 have z5:Gv p5 (I+4) (I+2) (I+3) .ellipsis:=e5.extBut _ _ (nij (by decide)) (e4.extBut _ _ (nij (by decide)) (e3.extBut _ _ (nij (by decide)) (e2.extBut _ _ (ni0 (by decide)) z1')))
 refine Ah (B6 o5' rfl (Ah (GR ?_)));refine Ah (m:=C9 (.ref (I+4)) (.ref p5.objs.size)) ?_;simp only[C9];have z6:Gv (p5.push { cls:=.type "tuple", data:=.seq #[x,y] }) (I+4) (I+2) (I+3) .ellipsis:=As _ z5;refine Ah (Ca z6 (by simp) fun p7 z7 e7=>?_)
 have z7':Gv p7 (I+4) (I+2) (I+3) (C4 p5.objs.size):=z7;refine Ca z7' (by simp) fun p8 z8 e8=>Av ⟨_,rfl,?_⟩
 have z8':Gv p8 (I+4) (I+2) (I+3) (C4 p5.objs.size):=z8;have lt5:I+4<p5.objs.size:=AF z5;have up:∀ c o,c≠I+4->p5.get? c=Ab o->p8.get? c=Ab o:=fun c o nc q=>e8.extBut _ _ nc (e7.extBut _ _ nc (As _ q))
 have t8:E0 p8 p5.objs.size x y:=e8.extBut _ _ (CU lt5) (e7.extBut _ _ (CU lt5) (AC _ rfl));have a1:S1 (k+1) p8:=D1.frame _ _ _ s2 fun c hc o q=>up c o (nb1 b1 hc 3) (e5.extBut c o (nb1 b1 hc 2) (e4.extBut c o (nb1 b1 hc 0) (e3.extBut c o (nb1 b1 hc 2) q)))
 have a2:S2 (k+1) p8:=D2.frame _ _ _ s4 fun c hc o q=>up c o (nb2 b2 hc).2.2 (e5.extBut c o (nb2 b2 hc).2.1 q)
 have kp:∀ c o,c∉[I,I+1,I+3,I+4]->s.heap.get? c=Ab o->p8.get? c=Ab o:=fun c o nc q=>by
  simp only[Aw,A3,Cb,Ed]at nc;exact up c o nc.2.2.2 (e5.extBut c o nc.2.2.1 (e4.extBut c o nc.2.1 (e3.extBut c o nc.2.2.1 (e2.extBut c o nc.1 (e1.extBut c o nc.2.2.2 q)))))
 have q:=go x y p8 t4 px py (by rw[<-sz];exact z8') (up _ _ (nij (by decide)) o5') a1 a2 (by rw[<-sz];exact t8) kp
 rw[<-sz]at q;exact q
theorem gN{I l1 l2 n1 n2 k:Ag}{a b:Ai}{Q:Fin->Ap->Prop}(b1:l1<I)(b2:l2<I)(D1:Dw prog w A I [I,l1] n1 P1 S1)(D2:Dw prog w A (I+1) [I+1,l2] n2 P2 S2)(hz:Gv s.heap (I+4) (I+2) (I+3) .none)(hI:E0 s.heap (I+2) (.ref I) (.ref (I+1)))(hO:E0 s.heap (I+3) a b)(g1:S1 k s.heap)(g2:S2 k s.heap)(hk:n1<=k\/(k<n1/\n2<=k))(up:∀ h2 e tk,(∀ c o,c∉[I,I+1,I+3,I+4]->s.heap.get? c=Ab o->h2.get? c=Ab o)->(∃ o,h2.get? e=Ab o/\o.cls=.type "StopIteration")->E (.ref e) {s with heap:=h2,toks:=tk}):Az (model prog w) A (Builtin.«zip.__next__» ⟨[.ref (I+4)],[]⟩) Q E s:=by
 refine Ah (m:=field (.ref (I+4)) 2) (Bu hz rfl (x:=.bool Ad) rfl ?_);refine Ah (m:=field (.ref (I+4)) 3) (Bu hz rfl (x:=.ref (I+2)) rfl (Ah (B6 hI rfl ?_)));refine Ah (m:=A5 (.ref (I+4))) ?_;simp only[A5];refine Ah (Bu hz rfl (x:=.none) rfl (Av ?_));rw[Ay rfl];refine Ah (GC (Ah (Bu hz rfl (x:=.ref (I+3)) rfl (Ah (Ca hz (by simp) fun p1 z1 e1=>Ah ?_)))))
 have z1':Gv p1 (I+4) (I+2) (I+3) .ellipsis:=z1;simp only[F9,Gq,DX,DJ];have g1':S1 k p1:=D1.frame _ _ _ g1 fun c hc o q=>e1.extBut c o (nb1 b1 hc 3) q
 rcases hk with k1|⟨k1,k2⟩
 ·refine Ah (Ah (DG (Ah (m:=A4 (.ref I)) (D1.done _ _ _ _ k1 g1' fun p2 e e2 he=>?_))))
  obtain⟨oe,hoe,hce⟩:=he;have z2:Gv p2 (I+4) (I+2) (I+3) .ellipsis:=e2 _ _ (ni0 (by decide)) z1'
  have ne:e≠I+4:=fun x=>by subst x;rw[z2]at hoe;cases hoe;simp at hce
  refine Ca z2 (by simp) fun p3 _ e3=>up p3 e s.toks (fun c o nc q=>?_) ⟨oe,e3.extBut _ _ ne hoe,hce⟩
  simp only[Aw,A3,Cb,Ed]at nc;exact e3.extBut c o nc.2.2.2 (e2 c o nc.1 (e1.extBut c o nc.2.2.2 q))
 ·refine Ah (Ah (DG (Ah (m:=A4 (.ref I)) (D1.item k _ _ _ k1 g1' fun x p2 t2 px s2 e2=>Av ?_))))
  have o2:E0 p2 (I+3) a b:=e2.extBut _ _ (ni0 (by decide)) (e1.extBut _ _ (nij (by decide)) hO)
  refine Ah (B6 o2 rfl (Ah (GD o2 fun p3 o3 e3=>Ah (F6 (Av ?_)))))
  have g2':S2 k p3:=D2.frame _ _ _ g2 fun c hc o q=>e3.extBut c o (nb2 b2 hc).2.1 (e2.extBut c o (nb2 b2 hc).1 (e1.extBut c o (nb2 b2 hc).2.2 q))
  refine Ah (Ah (DG (Ah (m:=A4 (.ref (I+1))) (D2.done _ _ _ _ k2 g2' fun p4 e e4 he=>?_))))
  obtain⟨oe,hoe,hce⟩:=he;have z4:Gv p4 (I+4) (I+2) (I+3) .ellipsis:=e4 _ _ (nij (by decide)) (e3.extBut _ _ (nij (by decide)) (e2.extBut _ _ (ni0 (by decide)) z1'))
  have ne:e≠I+4:=fun x=>by subst x;rw[z4]at hoe;cases hoe;simp at hce
  refine Ca z4 (by simp) fun p5 _ e5=>up p5 e t2 (fun c o nc q=>?_) ⟨oe,e5.extBut _ _ ne hoe,hce⟩
  simp only[Aw,A3,Cb,Ed]at nc;exact e5.extBut c o nc.2.2.2 (e4 c o nc.2.1 (e3.extBut c o nc.2.2.1 (e2.extBut c o nc.1 (e1.extBut c o nc.2.2.2 q))))
end
def SqX(t:Ao)(K:Fg)(H:Hp)(a:Al)(xs:Ac V):Prop:=match t with
  |true=>SqT K H a xs
  |false=>SqL K H a xs
theorem Hi(I:Inv X pI σ H s)(h:SqX t X.K H a xs):∃ its:Ac Ai,Br xs its/\Cm t s.heap a its.toArray/\xs.length<=sizeLine:=by
 cases t with
 |true=>
  obtain⟨its,rv,p,z⟩:=I.tuple h;exact⟨its,rv,p,z⟩
 |false=>
  obtain⟨its,rv,p,z⟩:=I.list h;exact⟨its,rv,p.isList,z⟩
theorem OL{ys:Ac V}(I:Inv X pI σ H s)(h:SqX t X.K H a xs)(h2:SqX t X.K H a ys):xs=ys:=by
 cases t with
 |true=>exact I.tuple_inj h h2
 |false=>exact I.list_inj h h2
noncomputable def Itz(K:Fg)(t1 t2:Ao)(a b:Al):It:=
  ⟨fun i H=>∃ xs ys x y,SqX t1 K H a xs/\SqX t2 K H b ys/\xs[i]?=Ab x/\ys[i]?=Ab y,
   fun i H v H'=>∃ p x y,H p=Af/\v=.ref p/\(∀ xs,SqX t1 K H a xs->xs[i]?=Ab x)/\(∀ ys,SqX t2 K H b ys->ys[i]?=Ab y)/\H'=upd H p (.tup [x,y]),
   fun i H=>∃ xs ys,SqX t1 K H a xs/\SqX t2 K H b ys/\(xs.length<=i\/(i<xs.length/\ys.length<=i))⟩
theorem Inv.turnedL(ch:Ac Al)(I:Inv X pI σ H s)(k:∀ b o,b∉ch->s.heap.get? b=Ab o->h'.get? b=Ab o)(hf:∀ b∈ch,G4 X pI H b):Inv X pI σ H {s with heap:=h',toks:=t'}:=by
 have nit:∀ b u,H b=Ab u->b∉ch:=fun b u e z=>by rw[(hf b z).1]at e;cases e
 refine I.step (g':=s.gens) (d':=s.drawn) (ch:=ch) (fun b hb=>⟨(hf b hb).2.2.2.1,(hf b hb).2.1,(hf b hb).2.2.2.2.1,(hf b hb).2.2.2.2.2⟩) (fun b o _ _ hc e _=>k b o hc e) (fun b o _ _ hc e _=>⟨o.slots,k b o hc e⟩) (fun _ _ _ _ n=>n)
  (fun b o hc e=>⟨o,k b o hc e⟩) (fun _ _ e=>e) (fun _ _ _ e=>e) (fun b ps e=>⟨#[],by rw[e];simp⟩) (fun m ⟨o,es,ep,ho,r⟩=>⟨o,es,ep,k _ o (fun z=>(hf _ z).2.1 rfl) ho,r⟩) (fun b u e=>(I.hok b u e).stay (fun c v hc q=>k c v ?_ q) (fun _ q=>q) fun _ _ q=>q) I.bare
 rcases hc with z|z
 ·rw[z];exact nit b u e
 ·exact nit c _ z
def zTn(t1 t2:Ao)(I l1 l2:Ag)(i:Ag)(h:AT):Prop:=Gv h (I+4) (I+2) (I+3) .none/\E0 h (I+2) (.ref I) (.ref (I+1))/\(∃ a b,E0 h (I+3) a b)/\ET t1 h I l1 i/\ET t2 h (I+1) l2 i
noncomputable def zFp(I:Ag):Ac Al:=[I,I+1,I+2,I+3,I+4]
theorem ET.obj{j:Al}(z:ET t h j l i):∃ o,h.get? j=Ab o/\∀ v,o.data≠.cell v:=by
 cases t with
 |true=>obtain⟨o,e,c,d⟩:=z;exact⟨o,e,fun v z=>by rw[d]at z;cases z⟩
 |false=>obtain⟨o,e,c,d⟩:=z;exact⟨o,e,fun v z=>by rw[d]at z;cases z⟩
theorem ET.at'{j:Al}(z:ET t h j l i)(k:∀ o,h.get? j=Ab o->h2.get? j=Ab o):ET t h2 j l i:=by
 cases t with
 |true=>exact PySem.Heap.IsTupleIter.at z k
 |false=>exact PySem.Heap.IsListIter.at z k
theorem dZ(t1 t2:Ao)(I l1 l2:Ag)(b1:l1<I)(b2:l2<I):Turn P w K (.Tuple es n pos) (Itz K t1 t2 l1 l2) (zFp I) (I+4) (zTn t1 t2 I l1 l2) where
  mem:=by simp[zFp]
  obj:=fun i h ⟨z1,z2,⟨a,b,z3⟩,z4,z5⟩ c hc=>by
    simp only[zFp,Aw,A3,Cb]at hc;rcases hc with rfl|rfl|rfl|rfl|rfl
    · exact z4.obj
    · exact z5.obj
    · exact⟨_,z2,fun v z=>by cases z⟩
    · exact⟨_,z3,fun v z=>by cases z⟩
    · exact⟨_,z1,fun v z=>by cases z⟩
  keep:=fun i h h2 ⟨z1,z2,⟨a,b,z3⟩,z4,z5⟩ k=>⟨k _ (by simp[zFp]) _ z1,k _ (by simp[zFp]) _ z2,⟨a,b,k _ (by simp[zFp]) _ z3⟩,z4.at' fun o e=>k _ (by simp[zFp]) o e,z5.at' fun o e=>k _ (by simp[zFp]) o e⟩
  item:=by
    intro X hP hw hK hc i pI s σ H E Iv hf ⟨z1,z2,⟨a,b,z3⟩,z4,z5⟩ ⟨xs,ys,x,y,q1,q2,hx,hy⟩;subst hP hw hK;obtain⟨us,rx,sx,_⟩:=Hi Iv q1;obtain⟨vs,ry,sy,_⟩:=Hi Iv q2;obtain⟨u,hu,ru⟩:=rx.get hx;obtain⟨v,hv,rv⟩:=ry.get hy;have hT:s.TypeIs (.ref (I+4)) "zip" := ⟨_,z1,rfl⟩;have calm:X.A.in1.handled=Af:=Iv.ok.hd hc;show Az _ _ (Ea _) _ _ _;simp only[Ea];refine Ah (Ff (Ci hT Cz (CD Cz hT Et (dO (k:=i) b1 b2 (Iz calm t1 I l1 (A1 b1) us.toArray) (Iz calm t2 (I+1) l2 (A1 (CY b2)) vs.toArray) z1 z2 z3 ⟨z4,sx⟩ ⟨z5,sy⟩
      (by have:=(Ba.mp hu).1;simpa using this) (by have:=(Ba.mp hv).1;simpa using this) fun x' y' h2 tk px py c1 c2 c3 c4 c5 kp=>Av ?_) (D9 _))))
    have ex:x'=u:=by
      have px':us[i]?=Ab x':=by simpa using px
      rw[hu]at px';exact(BW px').symm
    have ey:y'=v:=by
      have py':vs[i]?=Ab y':=by simpa using py
      rw[hv]at py';exact(BW py').symm
    subst ex ey;refine⟨_,rfl,wpAny_letOwnedTupleGo_zip c1 fun h3 d1 sb=>?_⟩
    have lt4:I+4<s.heap.objs.size:=AF z1;have kp3:∀ c o,c∉zFp I->s.heap.get? c=Ab o->h3.get? c=Ab o:=fun c o nc q=>by
      simp only[zFp,Aw,A3,Cb,Ed]at nc;exact sb.extBut c o nc.2.2.2.2 (kp c o (by simp only[Aw,A3,Cb,Ed];exact⟨nc.1,nc.2.1,nc.2.2.2.1,nc.2.2.2.2⟩) q)
    have nT:∀ c∈zFp I,c≠s.heap.objs.size:=fun c hc z=>by
      have:c<=I+4:=by
        simp only[zFp,Aw,A3,Cb]at hc;rcases hc with z|z|z|z|z<;>rw[z]<;>simp
      exact absurd (z ▸ BU this lt4) (Bw _)
    have I1:Inv X pI σ (upd H s.heap.objs.size (.tup [x,y])) { s with heap:=s.heap.push { cls:=.type "tuple", data:=.seq #[x',y'] },toks:=s.toks }:=
      Iv.laid (fun _ _ q=>As _ q) (AS _) ⟨(by decide:2<=sizeLine),[x',y'],.cons ru (.cons rv .nil),⟨_,AC _ rfl,rfl,_,rfl⟩⟩
    have hf':∀ b∈zFp I,G4 X pI (upd H s.heap.objs.size (.tup [x,y])) b:=fun b hb=>⟨by rw[Di (nT b hb)];exact(hf b hb).1,(hf b hb).2⟩
    have I2:Inv X pI σ (upd H s.heap.objs.size (.tup [x,y])) {s with heap:=h3,toks:=tk}:=Inv.turnedL (s:={ s with heap:=s.heap.push { cls:=.type "tuple", data:=.seq #[x',y'] },toks:=s.toks }) (zFp I) I1 (fun c o nc q=>by
      rcases Yg q with ⟨e1,e2⟩|e1
      · subst e1 e2;exact sb.extBut _ _ (CU lt4) c5
      · exact kp3 c o nc e1) hf'
    refine⟨.ref s.heap.objs.size,_,I2,rfl,⟨s.heap.objs.size,x,y,Iv.fresh,rfl,fun zs hz=>by rw[OL Iv hz q1];exact hx,fun zs hz=>by rw[OL Iv hz q2];exact hy,rfl⟩,⟨d1,sb.extBut _ _ (nij (by decide)) (kp _ _ (by simp) z2),⟨_,_,sb.extBut _ _ (nij (by decide)) c2⟩,c3.1.at' fun o q=>sb.extBut _ o (DZ (ni0 (by decide))) q,c4.1.at' fun o q=>sb.extBut _ o (nij (by decide)) q⟩,fun b hb=>(hf' b hb).1⟩
  done:=by
    intro X hP hw hK hc i pI s σ H E Iv hf ⟨z1,z2,⟨a,b,z3⟩,z4,z5⟩ ⟨xs,ys,q1,q2,hk⟩;subst hP hw hK;obtain⟨us,rx,sx,_⟩:=Hi Iv q1;obtain⟨vs,ry,sy,_⟩:=Hi Iv q2;have hT:s.TypeIs (.ref (I+4)) "zip" := ⟨_,z1,rfl⟩;have calm:X.A.in1.handled=Af:=Iv.ok.hd hc;have e1:=rx.length;have e2:=ry.length;simp only[Ea];refine Ah (Ff (Ci hT Cz (CD Cz hT Et (gN (k:=i) b1 b2 (Iz calm t1 I l1 (A1 b1) us.toArray) (Iz calm t2 (I+1) l2 (A1 (CY b2)) vs.toArray) z1 z2 z3 ⟨z4,sx⟩ ⟨z5,sy⟩
      (by simp only[AE];omega) fun h2 e tk kp he=>?_) (D9 _))))
    obtain⟨o,ho,hcl⟩:=he;refine Ah (YK (T := "StopIteration") (b:=Aa) ⟨o,ho,hcl⟩ YB (Av ⟨rfl,Inv.turnedL [I,I+1,I+3,I+4] Iv (fun c o nc q=>kp c o nc q) fun c hc=>hf c ?_⟩))
    simp only[Aw,A3,Cb]at hc;simp only[zFp,Aw,A3,Cb];rcases hc with rfl|rfl|rfl|rfl<;>simp
  self:=fun _ _ _ _ _ st h=>YM st.1 h
section
variable{prog:A9}{w:AK}{A:Bx}{E:Vq}{s:Ap}
noncomputable def itO(t:Ao)(l:Al):DC:=match t with
  |true=>{ cls:=.type "tuple_iterator", data:=.fields #[.ref l,.int 0 0] }
  |false=>{ cls:=.type "list_iterator", data:=.fields #[.ref l,.int 0 0] }
theorem JE{Q:Vq}(h:Cm t s.heap l its)(q:Q (.ref s.heap.objs.size) {s with heap:=s.heap.push (itO t l)}):Az (model prog w) A (Kq (.ref l)) Q E s:=by
 cases t with
 |true=>exact FF h q
 |false=>exact Eb h q
theorem Cm.push(z:Cm t h l its)(o:DC):Cm t (h.push o) l its:=by
 cases t with
 |true=>exact PySem.Heap.IsTuple.at z fun _ e=>As _ e
 |false=>exact PySem.Heap.IsList.at z fun _ e=>As _ e
theorem K5{j:Al}(e:h.get? j=Ab (itO t l)):ET t h j l 0:=by
 cases t with
 |true=>exact⟨_,e,rfl,rfl⟩
 |false=>exact⟨_,e,rfl,rfl⟩
theorem KP(t:Ao)(l:Al):(itO t l).isFreed=Ad:=by cases t<;>rfl
noncomputable abbrev zh2(t1 t2:Ao)(h:AT)(l1 l2:Al):AT:=(h.push (itO t1 l1)).push (itO t2 l2)
noncomputable abbrev zh3(t1 t2:Ao)(h:AT)(l1 l2:Al):AT:=(zh2 t1 t2 h l1 l2).push { cls:=.type "tuple", data:=.seq #[.ref h.objs.size,.ref (h.push (itO t1 l1)).objs.size] }
noncomputable abbrev zh4(t1 t2:Ao)(h:AT)(l1 l2:Al):AT:=(zh3 t1 t2 h l1 l2).push { cls:=.type "tuple", data:=.seq #[.none,.none] }
noncomputable abbrev zh5(t1 t2:Ao)(h:AT)(l1 l2:Al):AT:=(zh4 t1 t2 h l1 l2).push { cls:=.type "zip", data:=.fields #[.none,.bool Ad,.bool Ad,.ref (zh2 t1 t2 h l1 l2).objs.size,.ref (zh3 t1 t2 h l1 l2).objs.size] }
theorem gM(t1 t2:Ao)(l1 l2:Al)(xs ys:AR Ai):Meets (Builtin.«zip.__new__» ⟨[.type "zip", .ref l1,.ref l2],[]⟩) (fun _ R s=>Cm t1 s.heap l1 xs/\Cm t2 s.heap l2 ys/\R (.ok (.ret (.ref (zh4 t1 t2 s.heap l1 l2).objs.size))) {s with heap:=zh5 t1 t2 s.heap l1 l2}):=
 .of_wp fun prog w A R s h=>by
  obtain⟨hp,g,d,tk,os⟩:=s;obtain⟨a1,a2,q⟩:=h;have hsub:=sub_zip;have L1:Cm t1 (F4 ⟨hp,g,d,tk,os⟩) l1 xs:=a1;have L2:Cm t2 (F4 ⟨hp.push (itO t1 l1),g,d,tk,os⟩) l2 ys:=a2.push _
  wp_walk using JE L1,JE L2
  exact⟨_,rfl,q⟩
theorem dP{t1 t2:Ao}{l1 l2:Al}{xs:AR Ai}{Q:Vq}(a1:Cm t1 s.heap l1 xs)(a2:Cm t2 s.heap l2 ys)(q:∀ h2,zTn t1 t2 s.heap.objs.size l1 l2 0 h2->(∀ c o,s.heap.get? c=Ab o->h2.get? c=Ab o)->Q (.ref (s.heap.objs.size+4)) {s with heap:=h2}):Az (model prog w) A (call (.type "zip") [.ref l1,.ref l2]) Q E s:=by
 refine Jr XU (by decide) (F.typeCall_zip_2 _ _) (F.newCall_zip_2 _ _) (fun obj=>F.args_object_init_3 obj _ _) X4 (gM t1 t2 l1 l2 xs ys) ⟨a1,a2,?_⟩
 have s1:(s.heap.push (itO t1 l1)).objs.size=s.heap.objs.size+1:=Bz ..;have s2:(zh2 t1 t2 s.heap l1 l2).objs.size=s.heap.objs.size+2:=by rw[Bz,s1]
 have s3:(zh3 t1 t2 s.heap l1 l2).objs.size=s.heap.objs.size+3:=by rw[Bz,s2]
 have s4:(zh4 t1 t2 s.heap l1 l2).objs.size=s.heap.objs.size+4:=by rw[Bz,s3]
 have u5:∀ {c o},(zh4 t1 t2 s.heap l1 l2).get? c=Ab o->(zh5 t1 t2 s.heap l1 l2).get? c=Ab o:=fun e=>As _ e
 have u4:∀ {c o},(zh3 t1 t2 s.heap l1 l2).get? c=Ab o->(zh5 t1 t2 s.heap l1 l2).get? c=Ab o:=fun e=>u5 (As _ e)
 have u3:∀ {c o},(zh2 t1 t2 s.heap l1 l2).get? c=Ab o->(zh5 t1 t2 s.heap l1 l2).get? c=Ab o:=fun e=>u4 (As _ e)
 have u2:∀ {c o},(s.heap.push (itO t1 l1)).get? c=Ab o->(zh5 t1 t2 s.heap l1 l2).get? c=Ab o:=fun e=>u3 (As _ e)
 have g5:(zh5 t1 t2 s.heap l1 l2).get? (zh4 t1 t2 s.heap l1 l2).objs.size=Ab _:=AC _ rfl;have g4:(zh5 t1 t2 s.heap l1 l2).get? (zh3 t1 t2 s.heap l1 l2).objs.size=Ab _:=u5 (AC _ rfl);have g3:(zh5 t1 t2 s.heap l1 l2).get? (zh2 t1 t2 s.heap l1 l2).objs.size=Ab _:=u4 (AC _ rfl);have g2:(zh5 t1 t2 s.heap l1 l2).get? (s.heap.push (itO t1 l1)).objs.size=Ab _:=u3 (AC _ (KP _ _));have g1:(zh5 t1 t2 s.heap l1 l2).get? s.heap.objs.size=Ab _:=u2 (AC _ (KP _ _));show _/\_;rw[s2,s3,s4]at g5;rw[s3]at g4;rw[s1,s2]at g3;rw[s1]at g2;rw[s4];exact⟨⟨_,g5,rfl⟩,q _ ⟨g5,g3,⟨_,_,g4⟩,K5 g1,K5 g2⟩ fun c o e=>u2 (As _ e)⟩
end
def YY(K:Fg)(ta:TA):TI:=fun σ H R=>ta σ H fun vs H1=>∃ t1 t2 a b xs ys,vs=[.ref a,.ref b]/\SqX t1 K H1 a xs/\SqX t2 K H1 b ys/\(xs.length<=sizeLine->R (Itz K t1 t2 a b) H1)
theorem Cm.lt(z:Cm t h a its):a<h.objs.size:=by
 cases t with
 |true=>obtain⟨o,e,_⟩:=z;exact AF e
 |false=>obtain⟨o,e,_⟩:=z;exact AF e
theorem rZ{a b:Ar}(hg:Gl X "zip")(hm:X.mg "zip" = Af)(ha:PA X [a,b] ta)(hs:AG [a,b] X.env=[(Ad,eval a X.env),(Ad,eval b X.env)])(hs2:AG [b] X.env=[(Ad,eval b X.env)]):
  PI X (.Tuple es n tpos) (.Call (.Name "zip" p) [a,b] [] pos) (YY X.K ta):=by
 intro pI s σ H R I h;refine Hu (GW I hg hm XB (BR (thn (ha pos pI s σ H _ I h) fun us s1 ⟨vs,H1,I1,r1,q1⟩=>?_) (by rw[hs,hs2]) (by rw[hs2];rfl)))
 obtain⟨t1,t2,c,d,xs,ys,e,sx,sy,q⟩:=q1;subst e;cases r1 with
 |cons r rr=>
  cases rr with
  |cons r' rr=>
   cases rr;cases r;cases r';obtain⟨us,ru,iu,zu⟩:=Hi I1 sx;obtain⟨vs,rv,iv,_⟩:=Hi I1 sy;refine dP iu iv fun h2 z kp=>YM z.1 ?_
   refine⟨s1.heap.objs.size+4,zFp s1.heap.objs.size,_,_,H1,rfl,I1.kept (t':=s1.toks) kp,dZ t1 t2 s1.heap.objs.size c d iu.lt iv.lt,z,fun b hb=>?_,q zu⟩
   have hb':s1.heap.objs.size<=b:=by
    simp only[zFp,Aw,A3,Cb]at hb;rcases hb with z|z|z|z|z<;>rw[z]<;>simp
   exact I1.fpOk hb' (I1.hok.fresh hb')
theorem K6{ds:Ac D}(r:Rep K CL H A v d)(e:Co d=.ok ds):∃ t a xs,v=.ref a/\(∀ H2,Kp A H H2->SqX t K H2 a xs)/\Reps K CL H A xs ds:=by
 cases d with
 |lst es=>
  cases e;obtain⟨q,xs,rfl,na,sq,r⟩:=r;exact⟨Ad,q,xs,rfl,fun H2 k=>Nu k na sq,r⟩
 |tup es=>
  cases e;obtain⟨q,xs,rfl,na,sq,r⟩:=r;exact⟨Aa,q,xs,rfl,fun H2 k=>Nt k na sq,r⟩
 |_=>cases e
theorem Ps:∀(xs ys:Ac D),(EG xs ys).length=min xs.length ys.length
 |[],_=>by simp[EG]
 |_::_,[]=>by simp[EG]
 |x::xs,y::ys=>by
  rw[EG,Ck,Ps xs ys];simp only[Ck];omega
theorem T2:∀(xs ys:Ac D)(i:Ag)(d:D),(EG xs ys)[i]?=Ab d->∃ x y,xs[i]?=Ab x/\ys[i]?=Ab y/\d=.tup [x,y]
 |[],_,i,d,h=>by simp[EG]at h
 |_::_,[],i,d,h=>by simp[EG]at h
 |x::xs,y::ys,0,d,h=>by
  rw[EG]at h;simp only[EC,Cr]at h;exact⟨x,y,rfl,rfl,h.symm⟩
 |x::xs,y::ys,i+1,d,h=>by
  rw[EG]at h;simp only[EB]at h ⊢;exact T2 xs ys i d h
theorem dW{t1 t2:Ao}{ys:Ac V}{ds es:Ac D}(s1:∀ H2,Kp A H1 H2->SqX t1 K H2 a xs)(s2:∀ H2,Kp A H1 H2->SqX t2 K H2 b ys)(r1:Reps K CL H1 A xs ds)(r2:Reps K CL H1 A ys es) :Jf K CL A (EG ds es) (Itz K t1 t2 a b) H1:=fun H k i=>by
 refine⟨fun hi=>⟨xs,ys,s1 H k,s2 H k,?_⟩,fun d hd=>?_⟩
 ·rw[Ps]at hi;rw[r1.length,r2.length];omega
 ·obtain⟨x,y,hx,hy,rfl⟩:=T2 _ _ _ _ hd;obtain⟨u,hu,ru⟩:=r1.get hx;obtain⟨v,hv,rv⟩:=r2.get hy;refine⟨⟨xs,ys,u,v,s1 H k,s2 H k,hu,hv⟩,?_⟩;rintro w' H' ⟨p,x',y',hp,rfl,c1,c2,rfl⟩;have ex:x'=u:=BW ((c1 xs (s1 H k)).symm.trans hu);have ey:y'=v:=BW ((c2 ys (s2 H k)).symm.trans hv);subst ex ey;have sm:=FV hp (.tup [x',y']);exact⟨sm,fun B hB aB=>KM aB hp ⟨LU ru k hB,LU rv k hB,trivial⟩⟩
section
variable{X:Cx}{CL:ClA}{W:XW}{pos p:Bb}{a b:Ar}{fa fb:Rho->R D}
theorem oF(ha:SE X CL W a fa)(hb:SE X CL W b fb)(hg:Gl X "zip")(hm:X.mg "zip" = Af)(hs:AG [a,b] X.env=[(Ad,eval a X.env),(Ad,eval b X.env)])(hs2:AG [b] X.env=[(Ad,eval b X.env)]):
  SI X CL W (.Tuple es n tpos) (.Call (.Name "zip" p) [a,b] [] pos) (fun ρ=>(fa ρ).bind fun x=>(fb ρ).bind fun y=>(Co x).bind fun xs=>(Co y).bind fun ys=>.ok (EG xs ys)):=
 fun A=>PI.weak (rZ hg hm (E6 (ha A) (E6 (hb A) GU hs2) (by rw[hs,hs2])) hs hs2) fun σ H R ⟨hA,ρ,g,q⟩=>⟨hA,ρ,g,E9.ex q fun d v H1 _ s1 r1 p1=>⟨hA.same s1,ρ,g.same s1,E9.ex p1 fun d2 v2 H2 _ s2 r2 p2=>by
  cases e1:Co d with
  |bad=>rw[e1]at p2;exact p2.elim
  |exn z=>exact absurd e1 (by cases d<;>simp[Co])
  |ok ds=>
   cases e2:Co d2 with
   |bad=>rw[e1,e2]at p2;exact p2.elim
   |exn z=>exact absurd e2 (by cases d2<;>simp[Co])
   |ok es=>
    rw[e1,e2]at p2;obtain⟨t1,c1,xs,rfl,k1,rs1⟩:=K6 (r1.same s2) e1;obtain⟨t2,c2,ys,rfl,k2,rs2⟩:=K6 r2 e2;refine⟨t1,t2,c1,c2,xs,ys,rfl,k1 H2 (Kp.of (AN.refl H2)),k2 H2 (Kp.of (AN.refl H2)),fun hz=>p2 _ H2 (AN.refl H2) (dW k1 k2 rs1 rs2) ?_⟩
    rw[Ps,<-rs1.length];omega⟩⟩
end
theorem ET.live{l:Ag}(z:ET t h j l i):∃ o,h.get? j=Ab o/\∀ v,o.data≠.cell v:=by
 cases t with
 |true=>obtain⟨o,e,c,d⟩:=z;exact⟨o,e,fun v z=>by rw[d]at z;cases z⟩
 |false=>obtain⟨o,e,c,d⟩:=z;exact⟨o,e,fun v z=>by rw[d]at z;cases z⟩
theorem ET.keep{l:Ag}(z:ET t h j l i)(k:∀ o,h.get? j=Ab o->h2.get? j=Ab o):ET t h2 j l i:=by
 cases t with
 |true=>exact PySem.Heap.IsTupleIter.at z k
 |false=>exact PySem.Heap.IsListIter.at z k
theorem sK{A:Bx}(calm:A.handled=Af)(t:Ao)(j l:Al)(ne:l≠j)(its:AR Ai):Draws prog w A j [j,l] its.size (fun i v=>its[i]?=Ab v) (fun i h=>ET t h j l i/\Cm t h l its):=
 have d:=Iz (prog:=prog) (w:=w) calm t j l ne its
 ⟨fun i h z=>let ⟨o,e,_⟩:=z.1.live;⟨o,e⟩,d.frame,d.item,fun s Q E h q=>d.done _ s Q E (AS _) h q⟩
theorem kR{A:Bx}(calm:A.handled=Af)(t:Ao)(j l:Al)(ne:l≠j)(its:AR Ai)(i:Ag)(hi:its.size<=i):Draws prog w A j [j,l] i (fun _ _=>BN) (fun k h=>k=i/\ET t h j l i/\Cm t h l its):=
 have d:=Iz (prog:=prog) (w:=w) calm t j l ne its
 ⟨fun _ h z=>let ⟨o,e,_⟩:=z.2.1.live;⟨o,e⟩,fun k h h' z q=>⟨z.1,d.frame i h h' z.2 q⟩,fun k s Q E lt z=>absurd z.1 (A1 lt),fun s Q E h q=>d.done i s Q E hi h.2 q⟩
noncomputable def Ite(K:Fg)(t:Ao)(a:Al):It:=
 ⟨fun i H=>∃ xs x,SqX t K H a xs/\xs[i]?=Ab x,fun i H v H'=>∃ p x,H p=Af/\v=.ref p/\(∀ xs,SqX t K H a xs->xs[i]?=Ab x)/\H'=upd H p (.tup [.int i,x]),fun i H=>∃ xs,SqX t K H a xs/\xs.length<=i⟩
def eTn(t:Ao)(I l:Ag)(i:Ag)(h:AT):Prop:=(∃ old,IsEnum h (I+1) I i old)/\ET t h I l i
theorem bK(t:Ao)(I l:Ag)(b:l<I):Turn P w K (.Tuple es n pos) (Ite K t l) [I,I+1] (I+1) (eTn t I l) where
  mem:=by simp
  obj:=fun i h ⟨⟨old,z1⟩,z2⟩ c hc=>by
    simp only[Aw,A3,Cb]at hc;rcases hc with rfl|rfl
    · exact z2.live
    · exact⟨_,z1,fun v z=>by cases z⟩
  keep:=fun i h h2 ⟨⟨old,z1⟩,z2⟩ k=>⟨⟨old,k _ (by simp) _ z1⟩,z2.keep fun o e=>k _ (by simp) o e⟩
  item:=by
    intro X hP hw hK hc i pI s σ H E Iv hf ⟨⟨old,z1⟩,z2⟩ ⟨xs,x,q1,hx⟩;subst hP hw hK;obtain⟨us,rx,px,_⟩:=Hi Iv q1;obtain⟨u,hu,ru⟩:=rx.get hx;have lu:i<us.toArray.size:=by
      have:=(Ba.mp hu).1;simpa using this
    refine wpAny_pyNext_enum_itemD (sK (A:=X.A.in1) (Iv.ok.hd hc) t I l (A1 b) us.toArray) z1 ⟨z2,px⟩ lu (ni0 (by decide)) (by simp only[Aw,A3,Cb,Ed];exact⟨ni0 (by decide),CU (AD b (Er _ _))⟩) fun u' h2 tk hu' ho it2 hT sz kp=>⟨_,rfl,wpAny_letOwnedTupleGo_enum ho fun h3 d1 sb=>?_⟩
    have eu:u'=u:=by
      rw[W9,hu]at hu';exact(BW hu').symm
    subst eu;have lt:I+1<s.heap.objs.size:=AF z1;have kp3:∀ c o,c∉[I,I+1]->s.heap.get? c=Ab o->h3.get? c=Ab o:=fun c o nc q=>by
      simp only[Aw,A3,Cb,Ed]at nc;exact sb.extBut c o nc.2 (kp c o nc.2 nc.1 q)
    have nT:∀ c∈[I,I+1],c≠s.heap.objs.size:=fun c hc z=>by
      have:c<=I+1:=by
        simp only[Aw,A3,Cb]at hc;rcases hc with z|z<;>rw[z]<;>simp
      exact absurd (z ▸ BU this lt) (Bw _)
    have I1:Inv X pI σ (upd H s.heap.objs.size (.tup [.int i,x])) { s with heap:=s.heap.push { cls:=.type "tuple", data:=.seq #[.int i tk,u'] },toks:=s.toks }:=
      Iv.laid (fun _ _ q=>As _ q) (AS _) ⟨(by decide:2<=sizeLine),[.int i tk,u'],.cons ⟨_,rfl⟩ (.cons ru .nil),⟨_,AC _ rfl,rfl,_,rfl⟩⟩
    have hf':∀ b∈[I,I+1],G4 X pI (upd H s.heap.objs.size (.tup [.int i,x])) b:=fun b hb=>⟨by rw[Di (nT b hb)];exact(hf b hb).1,(hf b hb).2⟩
    have I2:Inv X pI σ (upd H s.heap.objs.size (.tup [.int i,x])) {s with heap:=h3,toks:=tk+1}:=Inv.turnedL (s:={ s with heap:=s.heap.push { cls:=.type "tuple", data:=.seq #[.int i tk,u'] },toks:=s.toks }) [I,I+1] I1 (fun c o nc q=>by
      rcases Yg q with ⟨e1,e2⟩|e1
      · subst e1 e2;exact sb.extBut _ _ (CU lt) hT
      · exact kp3 c o nc e1) hf'
    exact⟨.ref s.heap.objs.size,_,I2,rfl,⟨s.heap.objs.size,x,Iv.fresh,rfl,fun zs hz=>by rw[OL Iv hz q1];exact hx,rfl⟩,⟨⟨u',by simpa using d1⟩,it2.1.keep fun o q=>sb.extBut _ o (DZ (ni0 (by decide))) q⟩,fun b hb=>(hf' b hb).1⟩
  done:=by
    intro X hP hw hK hc i pI s σ H E Iv hf ⟨⟨old,z1⟩,z2⟩ ⟨xs,q1,hk⟩;subst hP hw hK;obtain⟨us,rx,px,_⟩:=Hi Iv q1;have e1:=rx.length;have e2:us.toArray.size<=i:=by rw[AE,<-e1];exact hk
    refine wpAny_pyNext_enum_endD (kR (A:=X.A.in1) (Iv.ok.hd hc) t I l (A1 b) us.toArray i e2) z1 ⟨rfl,z2,px⟩ fun h2 eb=>⟨rfl,Inv.turnedL [I] Iv (t':=s.toks) (fun c o nc q=>eb c o (fun z=>nc (by simp[z])) q) fun c hc=>hf c ?_⟩
    have:c=I:=by simpa using hc
    subst this;simp
  self:=fun _ _ _ _ _ st h=>YL st.1.choose_spec h
section
variable{prog:A9}{w:AK}{A:Bx}{E:Vq}{s:Ap}
theorem eQ(t:Ao)(l:Al)(xs:AR Ai):Meets (Builtin.«enumerate.__new__» ⟨[.type "enumerate", .ref l],[]⟩) (fun _ R s=>Cm t s.heap l xs /\
   R (.ok (.ret (.ref (s.heap.push (itO t l)).objs.size))) { s with heap:=(s.heap.push (itO t l)).push { cls:=.type "enumerate", data:=.fields #[.none,.bool Ad,.ref s.heap.objs.size,C4 0,.none,.none] } }):=
 .of_wp fun prog w A R s h=>by
  obtain⟨hp,g,d,tk,os⟩:=s;obtain⟨hl,h⟩:=h;have hsub:=sub_enumerate;have hL:Cm t (F4 ⟨hp,g,d,tk,os⟩) l xs:=hl
  wp_walk
  refine wpAny_stack_any fun st=>Av ?_
  split
  ·rename_i c _ _ _ _ _;cases (c==DO "enumerate")
   ·wp_walk using JE hL
    exact⟨_,rfl,h⟩
   ·wp_walk using JE hL
    exact⟨_,rfl,h⟩
  ·wp_walk using JE hL
   exact⟨_,rfl,h⟩
theorem cB{xs:AR Ai}{Q:Vq}(hL:Cm t s.heap l xs)(h:∀ h',IsEnum h' (s.heap.objs.size+1) s.heap.objs.size 0 .none->ET t h' s.heap.objs.size l 0->(∀ b o,s.heap.get? b=Ab o->h'.get? b=Ab o)->Q (.ref (s.heap.objs.size+1)) {s with heap:=h'}):
    Az (model prog w) A (call (.type "enumerate") [.ref l]) Q E s:=by
  refine Jr F.called_enumerate (by decide) (F.typeCall_enumerate_1 _) (F.newCall_enumerate_1 _) (fun obj=>XQ obj _) F.entry_enumerate_new (eQ t l xs) ⟨hL,?_⟩
  have hz:(s.heap.push (itO t l)).objs.size=s.heap.objs.size+1:=Bz ..;show _/\_;rw[hz];have he:IsEnum ((s.heap.push (itO t l)).push { cls:=.type "enumerate", data:=.fields #[.none,.bool Ad,.ref s.heap.objs.size,C4 0,.none,.none] }) (s.heap.objs.size+1) s.heap.objs.size 0 .none:=by
    have:=AC (s.heap.push (itO t l)) (o:={ cls:=.type "enumerate", data:=.fields #[.none,.bool Ad,.ref s.heap.objs.size,C4 0,.none,.none] }) rfl;rw[hz]at this;exact this
  exact⟨⟨_,he,rfl⟩,h _ he (K5 (As _ (AC _ (KP _ _)))) fun b o x=>As _ (As _ x)⟩
end
def YZ(K:Fg)(ta:TA):TI:=fun σ H R=>ta σ H fun vs H1=>∃ t a xs,vs=[.ref a]/\SqX t K H1 a xs/\(xs.length<=sizeLine->R (Ite K t a) H1)
theorem iM{a:Ar}(hg:Gl X "enumerate")(hm:X.mg "enumerate" = Af)(ha:PA X [a] ta)(hs:AG [a] X.env=[(Ad,eval a X.env)]):
  PI X (.Tuple es n tpos) (.Call (.Name "enumerate" p) [a] [] pos) (YZ X.K ta):=by
 intro pI s σ H R I h;refine Hu (GW I hg hm PyProof.Rows.boot_enumerate (BR (thn (ha pos pI s σ H _ I h) fun us s1 ⟨vs,H1,I1,r1,q1⟩=>?_) hs rfl))
 obtain⟨t,c,xs,e,sx,q⟩:=q1;subst e;cases r1 with
 |cons r rr=>
  cases rr;cases r;obtain⟨us,ru,pu,zu⟩:=Hi I1 sx;refine cB pu fun h2 z1 z2 kp=>YL z1 ?_
  refine⟨s1.heap.objs.size+1,[s1.heap.objs.size,s1.heap.objs.size+1],_,_,H1,rfl,I1.kept (t':=s1.toks) kp,bK t s1.heap.objs.size c pu.lt,⟨⟨_,z1⟩,z2⟩,fun b hb=>?_,q zu⟩
  have hb':s1.heap.objs.size<=b:=by
   simp only[Aw,A3,Cb]at hb;rcases hb with z|z<;>rw[z]<;>simp
  exact I1.fpOk hb' (I1.hok.fresh hb')
theorem Pp:∀(j:Ae)(xs:Ac D),(Hq j xs).length=xs.length
 |_,[]=>rfl
 |j,x::xs=>by rw[Hq,Ck,Pp,Ck]
theorem T7:∀(xs:Ac D)(j:Ae)(i:Ag)(d:D),(Hq j xs)[i]?=Ab d->∃ x,xs[i]?=Ab x/\d=.tup [.int (j+i),x]
 |[],j,i,d,h=>by simp[Hq]at h
 |x::xs,j,0,d,h=>by
  rw[Hq]at h;simp only[EC,Cr]at h;exact⟨x,rfl,by rw[<-h];simp⟩
 |x::xs,j,i+1,d,h=>by
  rw[Hq]at h;simp only[EB]at h ⊢;obtain⟨y,h1,h2⟩:=T7 xs (j+1) i d h;exact⟨y,h1,by rw[h2];congr 3;omega⟩
theorem Z0{ds:Ac D}(sq:∀ H2,Kp A H1 H2->SqX t K H2 a xs)(r1:Reps K CL H1 A xs ds):Jf K CL A (Hq 0 ds) (Ite K t a) H1:=fun H k i=>by
 have s1:=sq H k;refine⟨fun hi=>⟨xs,s1,?_⟩,fun d hd=>?_⟩
 ·rw[Pp]at hi;rw[r1.length];exact hi
 ·obtain⟨x,hx,rfl⟩:=T7 _ _ _ _ hd;obtain⟨u,hu,ru⟩:=r1.get hx;refine⟨⟨xs,u,s1,hu⟩,?_⟩;rintro w' H' ⟨p,x',hp,rfl,c1,rfl⟩;have ex:x'=u:=BW ((c1 xs s1).symm.trans hu);subst ex;rw[FA];exact⟨FV hp (.tup [.int i,x']),fun B hB aB=>KM aB hp ⟨rfl,LU ru k hB,trivial⟩⟩
section
variable{X:Cx}{CL:ClA}{W:XW}{pos p:Bb}{a:Ar}{fa:Rho->R D}
theorem fM(ha:SE X CL W a fa)(hg:Gl X "enumerate")(hm:X.mg "enumerate" = Af)(hs:AG [a] X.env=[(Ad,eval a X.env)]):
  SI X CL W (.Tuple es n tpos) (.Call (.Name "enumerate" p) [a] [] pos) (fun ρ=>(fa ρ).bind fun x=>(Co x).bind fun xs=>.ok (Hq 0 xs)):=
 fun A=>PI.weak (iM hg hm (E6 (ha A) GU hs) hs) fun σ H R ⟨hA,ρ,g,q⟩=>⟨hA,ρ,g,E9.ex q fun d v H1 _ s1 r1 p1=>by
  cases e1:Co d with
  |bad=>rw[e1]at p1;exact p1.elim
  |exn z=>exact absurd e1 (by cases d<;>simp[Co])
  |ok ds=>
   rw[e1]at p1;obtain⟨t,c,xs,rfl,k1,rs⟩:=K6 r1 e1;exact⟨t,c,xs,rfl,k1 H1 (Kp.of (AN.refl H1)),fun hz=>p1 _ H1 (AN.refl H1) (Z0 k1 rs) (by rw[Pp,<-rs.length];exact hz)⟩⟩
end
noncomputable abbrev ES(h:AT)(z TI TO:Al)(f0 f1:Ai):Prop:=h.get? z=Ab { cls:=.type "zip", dict:=Af,data:=.fields #[f0,f1,.bool Ad,.ref TI,.ref TO],slots:=#[] }
noncomputable abbrev EK(h:AT)(T:Al)(a b c:Ai):Prop:=h.get? T=Ab { cls:=.type "tuple", data:=.seq #[a,b,c] }
section
variable{prog:A9}{w:AK}{A:Bx}{E:Vq}{s:Ap}
theorem nb3{I l c:Ag}(b:l<I)(h:c∈[I+j,l])(i:Ag)(hi:i≠j):c≠I+i:=by
 have h':c=I+j\/c=l:=by simpa using h
 omega
theorem TY{z TI TO T1:Ag}{Q:Ao->Ap->Prop}(hz:ES s.heap z TI TO (C4 T1) (.bool f1))(hT:s.heap.get? T1=Ab o1)(go:∀ h1,ES h1 z TI TO (C4 T1) (.bool Aa)->(∀ c o,c≠z->s.heap.get? c=Ab o->h1.get? c=Ab o)->h1.objs.size=s.heap.objs.size->Q Ad {s with heap:=h1}):Az (model prog w) A (A5 (.ref z)) Q E s:=by
 simp only[A5];refine Ah (Bu hz rfl (x:=C4 T1) rfl ?_);show Az _ _ (loadIfAlive T1 >>= _) _ _ _;refine Ah (fun Γ p _=>?_)
 show Az _ _ _ _ _ _;rw[hT];show Az _ _ (field (.ref z) 1 >>= _) _ _ _;refine Ah (Bu hz rfl (x:=.bool f1) rfl ?_);cases f1 with
 |true=>exact Av (go s.heap hz (fun _ _ _ e=>e) rfl)
 |false=>exact Ah (Ca hz (by simp) fun h1 z1 sb=>Av (go h1 z1 (fun c o nc e=>sb.extBut c o nc e) sb.1))
theorem TZ{z TI TO:Ag}{f1:Ai}{Q:Ao->Ap->Prop}(hz:ES s.heap z TI TO f0 f1)(hf:f0=.none\/∃ T1:Ag,f0=C4 T1/\s.heap.get? T1=Af)(go:Q Aa s):Az (model prog w) A (A5 (.ref z)) Q E s:=by
 simp only[A5];rcases hf with rfl|⟨T1,rfl,hT⟩
 ·exact Ah (Bu hz rfl (x:=.none) rfl (Av go))
 ·refine Ah (Bu hz rfl (x:=C4 T1) rfl ?_);show Az _ _ (loadIfAlive T1 >>= _) _ _ _;refine Ah (fun Γ p _=>?_)
  show Az _ _ _ _ _ _;rw[hT];exact Av go
theorem ZX{I l1 l2 l3 n1 n2 n3 k T1:Ag}{P3:Ag->Ai->Prop}{S3:Ag->AT->Prop}{Q:Vq}(b1:l1<I)(b2:l2<I)(b3:l3<I)(D1:Dw prog w A (I+0) [I+0,l1] n1 P1 S1)(D2:Dw prog w A (I+1) [I+1,l2] n2 P2 S2)(D3:Dw prog w A (I+2) [I+2,l3] n3 P3 S3)(hz:ES s.heap (I+5) (I+3) (I+4) (C4 T1) (.bool f1))(hI:EK s.heap (I+3) (.ref (I+0)) (.ref (I+1)) (.ref (I+2)))(hT:s.heap.get? T1=Ab o1)(g1:S1 k s.heap)(g2:S2 k s.heap)(g3:S3 k s.heap)(k1:k<n1)(k2:k<n2)(k3:k<n3)(go:∀ x y u h2 tk,P1 k x->P2 k y->P3 k u->ES h2 (I+5) (I+3) (I+4) (C4 T1) (.bool Aa)->S1 (k+1) h2->S2 (k+1) h2->S3 (k+1) h2->EK h2 s.heap.objs.size x y u->h2.objs.size=s.heap.objs.size+1 ->
   (∀ c o,c∉[I+0,I+1,I+2,I+5]->s.heap.get? c=Ab o->h2.get? c=Ab o)->Q (.ref s.heap.objs.size) {s with heap:=h2,toks:=tk}):Az (model prog w) A (Builtin.«zip.__next__» ⟨[.ref (I+5)],[]⟩) (fun fin s'=>∃ v,fin=.done (.ret v)/\Q v s') E s:=by
 refine Ah (m:=field (.ref (I+5)) 2) (Bu hz rfl (x:=.bool Ad) rfl ?_);refine Ah (m:=field (.ref (I+5)) 3) (Bu hz rfl (x:=.ref (I+3)) rfl (Ah (B6 hI rfl ?_)));refine Ah (m:=A5 (.ref (I+5))) (TY hz hT fun p1 z1 e1 s1=>?_)
 rw[AH (by decide)]
 refine Ah ?_;simp only[<-WH,DX,DJ];have f1':S1 k p1:=D1.frame _ _ _ g1 fun c hc o q=>e1 c o (nb3 b1 hc 5 (by decide)) q
 refine Ah (Ah (Cf (Ah (m:=A4 (.ref (I+0))) (D1.item k _ _ _ k1 f1' fun x p2 t2 px s2 e2=>Av (Av ?_)))))
 have f2':S2 k p2:=D2.frame _ _ _ g2 fun c hc o q=>e2.extBut c o (nb3 b2 hc 0 (by decide)) (e1 c o (nb3 b2 hc 5 (by decide)) q)
 refine Ah (Ah (Cf (Ah (m:=A4 (.ref (I+1))) (D2.item k _ _ _ k2 f2' fun y p3 t3 py s3 e3=>Av (Av ?_)))))
 have f3':S3 k p3:=D3.frame _ _ _ g3 fun c hc o q=>e3.extBut c o (nb3 b3 hc 1 (by decide)) (e2.extBut c o (nb3 b3 hc 0 (by decide)) (e1 c o (nb3 b3 hc 5 (by decide)) q))
 refine Ah (Ah (Cf (Ah (m:=A4 (.ref (I+2))) (D3.item k _ _ _ k3 f3' fun u p4 t4 pu s4 e4=>Av (Av (Av ?_))))))
 refine Ah (GR (hsz:=by show 3<=sizeLine;decide) (Av ⟨_,rfl,?_⟩))
 have sz:p4.objs.size=s.heap.objs.size:=by rw[e4.1,e3.1,e2.1,s1]
 have z4:ES p4 (I+5) (I+3) (I+4) (C4 T1) (.bool Aa):=e4.extBut _ _ (nij (by decide)) (e3.extBut _ _ (nij (by decide)) (e2.extBut _ _ (nij (by decide)) z1))
 have a1:S1 (k+1) p4:=D1.frame _ _ _ s2 fun c hc o q=>e4.extBut c o (nb3 b1 hc 2 (by decide)) (e3.extBut c o (nb3 b1 hc 1 (by decide)) q)
 have a2:S2 (k+1) p4:=D2.frame _ _ _ s3 fun c hc o q=>e4.extBut c o (nb3 b2 hc 2 (by decide)) q
 have psh:∀ {c o},p4.get? c=Ab o->(p4.push { cls:=.type "tuple", data:=.seq #[x,y,u] }).get? c=Ab o:=fun q=>As _ q
 have q:=go x y u (p4.push { cls:=.type "tuple", data:=.seq #[x,y,u] }) t4 px py pu (psh z4) (D1.frame _ _ _ a1 fun c _ o q=>psh q) (D2.frame _ _ _ a2 fun c _ o q=>psh q) (D3.frame _ _ _ s4 fun c _ o q=>psh q) (by rw[<-sz];exact AC _ rfl) (by rw[Bz,sz]) (fun c o nc q=>by
  simp only[Aw,A3,Cb,Ed]at nc;exact psh (e4.extBut c o nc.2.2.1 (e3.extBut c o nc.2.1 (e2.extBut c o nc.1 (e1 c o nc.2.2.2 q)))))
 rw[<-sz]at q;exact q
theorem ZW{I l1 n1 k T1:Ag}{Q:Fin->Ap->Prop}(b1:l1<I)(D1:Dw prog w A (I+0) [I+0,l1] n1 P1 S1)(hz:ES s.heap (I+5) (I+3) (I+4) (C4 T1) (.bool f1))(hI:EK s.heap (I+3) (.ref (I+0)) (.ref (I+1)) (.ref (I+2)))(hT:s.heap.get? T1=Ab o1)(g1:S1 k s.heap)(k1:n1<=k)(up:∀ h2 e,(∀ c o,c∉[I+0,I+5]->s.heap.get? c=Ab o->h2.get? c=Ab o)->(∃ o,h2.get? e=Ab o/\o.cls=.type "StopIteration")->E (.ref e) {s with heap:=h2}):Az (model prog w) A (Builtin.«zip.__next__» ⟨[.ref (I+5)],[]⟩) Q E s:=by
 refine Ah (m:=field (.ref (I+5)) 2) (Bu hz rfl (x:=.bool Ad) rfl ?_);refine Ah (m:=field (.ref (I+5)) 3) (Bu hz rfl (x:=.ref (I+3)) rfl (Ah (B6 hI rfl ?_)));refine Ah (m:=A5 (.ref (I+5))) (TY hz hT fun p1 z1 e1 s1=>?_)
 rw[AH (by decide)]
 refine Ah ?_;simp only[<-WH,DX,DJ];have f1':S1 k p1:=D1.frame _ _ _ g1 fun c hc o q=>e1 c o (nb3 b1 hc 5 (by decide)) q
 refine Ah (Ah (Cf (Ah (m:=A4 (.ref (I+0))) (D1.done k _ _ _ k1 f1' fun p2 e e2 he=>up p2 e (fun c o nc q=>?_) he))))
 simp only[Aw,A3,Cb,Ed]at nc;exact e2 c o nc.1 (e1 c o nc.2 q)
theorem dR{I l1 n1 k:Ag}{f1:Ai}{Q:Fin->Ap->Prop}(b1:l1<I)(D1:Dw prog w A (I+0) [I+0,l1] n1 P1 S1)(hz:ES s.heap (I+5) (I+3) (I+4) f0 f1)(hf:f0=.none\/∃ T1:Ag,f0=C4 T1/\s.heap.get? T1=Af)(hI:EK s.heap (I+3) (.ref (I+0)) (.ref (I+1)) (.ref (I+2)))(g1:S1 k s.heap)(k1:n1<=k)(up:∀ h2 e,(∀ c o,c∉[I+0,I+5]->s.heap.get? c=Ab o->h2.get? c=Ab o)->(∃ o,h2.get? e=Ab o/\o.cls=.type "StopIteration")->E (.ref e) {s with heap:=h2}):Az (model prog w) A (Builtin.«zip.__next__» ⟨[.ref (I+5)],[]⟩) Q E s:=by
 refine Ah (m:=field (.ref (I+5)) 2) (Bu hz rfl (x:=.bool Ad) rfl ?_);refine Ah (m:=field (.ref (I+5)) 3) (Bu hz rfl (x:=.ref (I+3)) rfl (Ah (B6 hI rfl ?_)));refine Ah (m:=A5 (.ref (I+5))) (TZ hz hf ?_);rw[Ay rfl];refine Ah (GC (Ah (Bu hz rfl (x:=.ref (I+4)) rfl (Ah (Ca hz (by simp) fun p1 z1 e1=>Ah ?_)))))
 have z1':ES p1 (I+5) (I+3) (I+4) .ellipsis f1:=z1;simp only[F9,Gq,DX,DJ];have g1':S1 k p1:=D1.frame _ _ _ g1 fun c hc o q=>e1.extBut c o (nb3 b1 hc 5 (by decide)) q
 refine Ah (Ah (DG (Ah (m:=A4 (.ref (I+0))) (D1.done _ _ _ _ k1 g1' fun p2 e e2 he=>?_))))
 obtain⟨oe,hoe,hce⟩:=he;have z2:ES p2 (I+5) (I+3) (I+4) .ellipsis f1:=e2 _ _ (nij (by decide)) z1'
 have ne:e≠I+5:=fun x=>by subst x;rw[z2]at hoe;cases hoe;simp at hce
 refine Ca z2 (by simp) fun p3 _ e3=>up p3 e (fun c o nc q=>?_) ⟨oe,e3.extBut _ _ ne hoe,hce⟩
 simp only[Aw,A3,Cb,Ed]at nc;exact e3.extBut c o nc.2 (e2 c o nc.1 (e1.extBut c o nc.2 q))
theorem Qo{T:Al}{a b c x:Ai}{Q:JS->Ap->Prop}(h:EK s.heap T a b c)(go:∀ h2,h2.get? T=Ab { cls:=.type "tuple", data:=.seq ((#[a,b,c]:AR Ai).setIfInBounds k x) }->EZ T s.heap h2->Q () {s with heap:=h2}):Az (model prog w) A (Jx T (·.setIfInBounds k x)) Q E s:=by
 refine Fw h rfl (go _ ?_ (GO ..)) (by show 3<=sizeLine;decide) (by show ((#[a,b,c]:AR Ai).setIfInBounds k x).size<=sizeLine+1;rw[Array.size_setIfInBounds];show 3<=sizeLine+1;decide)
 rw[Dx _ h rfl];simp[By]
theorem aJ{I l1 l2 l3 n1 n2 n3 k:Ag}{P3:Ag->Ai->Prop}{S3:Ag->AT->Prop}{a b c f1:Ai}{Q:Vq}(b1:l1<I)(b2:l2<I)(b3:l3<I)(D1:Dw prog w A (I+0) [I+0,l1] n1 P1 S1)(D2:Dw prog w A (I+1) [I+1,l2] n2 P2 S2)(D3:Dw prog w A (I+2) [I+2,l3] n3 P3 S3)(hz:ES s.heap (I+5) (I+3) (I+4) f0 f1)(hf:f0=.none\/∃ T1:Ag,f0=C4 T1/\s.heap.get? T1=Af)(hI:EK s.heap (I+3) (.ref (I+0)) (.ref (I+1)) (.ref (I+2)))(hO:EK s.heap (I+4) a b c)(g1:S1 k s.heap)(g2:S2 k s.heap)(g3:S3 k s.heap)(k1:k<n1)(k2:k<n2)(k3:k<n3)(go:∀ x y u h2 tk,P1 k x->P2 k y->P3 k u->ES h2 (I+5) (I+3) (I+4) (C4 s.heap.objs.size) (.bool Ad)->S1 (k+1) h2->S2 (k+1) h2->S3 (k+1) h2->EK h2 s.heap.objs.size x y u->EK h2 (I+4) x y u->h2.objs.size=s.heap.objs.size+1 ->
   (∀ c o,c∉[I+0,I+1,I+2,I+4,I+5]->s.heap.get? c=Ab o->h2.get? c=Ab o)->Q (.ref s.heap.objs.size) {s with heap:=h2,toks:=tk}):Az (model prog w) A (Builtin.«zip.__next__» ⟨[.ref (I+5)],[]⟩) (fun fin s'=>∃ v,fin=.done (.ret v)/\Q v s') E s:=by
 refine Ah (m:=field (.ref (I+5)) 2) (Bu hz rfl (x:=.bool Ad) rfl ?_);refine Ah (m:=field (.ref (I+5)) 3) (Bu hz rfl (x:=.ref (I+3)) rfl (Ah (B6 hI rfl ?_)));refine Ah (m:=A5 (.ref (I+5))) (TZ hz hf ?_);rw[Ay rfl];refine Ah (GC (Ah (Bu hz rfl (x:=.ref (I+4)) rfl (Ah (Ca hz (by simp) fun p1 z1 e1=>Ah ?_)))))
 have z1':ES p1 (I+5) (I+3) (I+4) .ellipsis f1:=z1;simp only[F9,Gq,DX,DJ];have f1':S1 k p1:=D1.frame _ _ _ g1 fun c hc o q=>e1.extBut c o (nb3 b1 hc 5 (by decide)) q
 refine Ah (Ah (DG (Ah (m:=A4 (.ref (I+0))) (D1.item k _ _ _ k1 f1' fun x p2 t2 px s2 e2=>Av ?_))))
 have o2:EK p2 (I+4) a b c:=e2.extBut _ _ (nij (by decide)) (e1.extBut _ _ (nij (by decide)) hO)
 refine Ah (B6 o2 rfl (Ah (Qo o2 fun p3 o3 e3=>Ah (F6 (Av ?_)))))
 have o3':EK p3 (I+4) x b c:=o3;have f2':S2 k p3:=D2.frame _ _ _ g2 fun c hc o q=>e3.extBut c o (nb3 b2 hc 4 (by decide)) (e2.extBut c o (nb3 b2 hc 0 (by decide)) (e1.extBut c o (nb3 b2 hc 5 (by decide)) q))
 refine Ah (Ah (DG (Ah (m:=A4 (.ref (I+1))) (D2.item k _ _ _ k2 f2' fun y p4 t4 py s4 e4=>Av ?_))))
 have o4:EK p4 (I+4) x b c:=e4.extBut _ _ (nij (by decide)) o3'
 refine Ah (B6 o4 rfl (Ah (Qo o4 fun p5 o5 e5=>Ah (F6 (Av ?_)))))
 have o5':EK p5 (I+4) x y c:=o5;have f3':S3 k p5:=D3.frame _ _ _ g3 fun c hc o q=>e5.extBut c o (nb3 b3 hc 4 (by decide)) (e4.extBut c o (nb3 b3 hc 1 (by decide)) (e3.extBut c o (nb3 b3 hc 4 (by decide)) (e2.extBut c o (nb3 b3 hc 0 (by decide)) (e1.extBut c o (nb3 b3 hc 5 (by decide)) q))))
 refine Ah (Ah (DG (Ah (m:=A4 (.ref (I+2))) (D3.item k _ _ _ k3 f3' fun u p6 t6 pu s6 e6=>Av ?_))))
 have o6:EK p6 (I+4) x y c:=e6.extBut _ _ (nij (by decide)) o5'
 refine Ah (B6 o6 rfl (Ah (Qo o6 fun p7 o7 e7=>Ah (F6 (Av (Av ?_))))))
 have o7':EK p7 (I+4) x y u:=o7;have sz:p7.objs.size=s.heap.objs.size:=by rw[e7.1,e6.1,e5.1,e4.1,e3.1,e2.1,e1.1]
 have z7:ES p7 (I+5) (I+3) (I+4) .ellipsis f1:=e7.extBut _ _ (nij (by decide)) (e6.extBut _ _ (nij (by decide)) (e5.extBut _ _ (nij (by decide)) (e4.extBut _ _ (nij (by decide)) (e3.extBut _ _ (nij (by decide)) (e2.extBut _ _ (nij (by decide)) z1')))))
 refine Ah (B6 o7' rfl (Ah (GR (hsz:=by show 3<=sizeLine;decide) ?_)))
 refine Ah (m:=C9 (.ref (I+5)) (.ref p7.objs.size)) ?_;simp only[C9];have z8:ES (p7.push { cls:=.type "tuple", data:=.seq #[x,y,u] }) (I+5) (I+3) (I+4) .ellipsis f1:=As _ z7;refine Ah (Ca z8 (by simp) fun p9 z9 e9=>?_)
 have z9':ES p9 (I+5) (I+3) (I+4) (C4 p7.objs.size) f1:=z9;refine Ca z9' (by simp) fun pa za ea=>Av ⟨_,rfl,?_⟩
 have za':ES pa (I+5) (I+3) (I+4) (C4 p7.objs.size) (.bool Ad):=za;have lt5:I+5<p7.objs.size:=AF z7;have up:∀ c o,c≠I+5->p7.get? c=Ab o->pa.get? c=Ab o:=fun c o nc q=>ea.extBut _ _ nc (e9.extBut _ _ nc (As _ q))
 have a1:S1 (k+1) pa:=D1.frame _ _ _ s2 fun c hc o q=>up c o (nb3 b1 hc 5 (by decide)) (e7.extBut c o (nb3 b1 hc 4 (by decide)) (e6.extBut c o (nb3 b1 hc 2 (by decide)) (e5.extBut c o (nb3 b1 hc 4 (by decide)) (e4.extBut c o (nb3 b1 hc 1 (by decide)) (e3.extBut c o (nb3 b1 hc 4 (by decide)) q)))))
 have a2:S2 (k+1) pa:=D2.frame _ _ _ s4 fun c hc o q=>up c o (nb3 b2 hc 5 (by decide)) (e7.extBut c o (nb3 b2 hc 4 (by decide)) (e6.extBut c o (nb3 b2 hc 2 (by decide)) (e5.extBut c o (nb3 b2 hc 4 (by decide)) q)))
 have a3:S3 (k+1) pa:=D3.frame _ _ _ s6 fun c hc o q=>up c o (nb3 b3 hc 5 (by decide)) (e7.extBut c o (nb3 b3 hc 4 (by decide)) q)
 have tp:EK pa p7.objs.size x y u:=ea.extBut _ _ (CU lt5) (e9.extBut _ _ (CU lt5) (AC _ rfl));have q:=go x y u pa t6 px py pu (by rw[<-sz];exact za') a1 a2 a3 (by rw[<-sz];exact tp) (up _ _ (nij (by decide)) o7') (by rw[ea.1,e9.1,Bz,sz]) (fun c o nc q=>by
  simp only[Aw,A3,Cb,Ed]at nc;exact up c o nc.2.2.2.2 (e7.extBut c o nc.2.2.2.1 (e6.extBut c o nc.2.2.1 (e5.extBut c o nc.2.2.2.1 (e4.extBut c o nc.2.1 (e3.extBut c o nc.2.2.2.1 (e2.extBut c o nc.1 (e1.extBut c o nc.2.2.2.2 q))))))))
 rw[<-sz]at q;exact q
def Z3(t1 t2 t3:Ao)(I l1 l2 l3 i:Ag)(h:AT):Prop:=EK h (I+3) (.ref (I+0)) (.ref (I+1)) (.ref (I+2))/\ET t1 h (I+0) l1 i/\ET t2 h (I+1) l2 i/\ET t3 h (I+2) l3 i/\(∃ a b c,EK h (I+4) a b c) /\
 (ES h (I+5) (I+3) (I+4) .none (.bool Ad)\/∃(T1:Ag)(f1:Ao),ES h (I+5) (I+3) (I+4) (C4 T1) (.bool f1))
noncomputable def z3w(I:Ag):Ac Al:=[I+0,I+1,I+2,I+4,I+5]
theorem gO{t1 t2 t3:Ao}{I l1 l2 l3 i:Ag}{xs:AR Ai}{x:Ai}{Q:At Ai->Ap->Prop}(calm:A.handled=Af)(b1:l1<I)(b2:l2<I)(b3:l3<I)(z:Z3 t1 t2 t3 I l1 l2 l3 i s.heap)(q1:Cm t1 s.heap l1 xs)(q2:Cm t2 s.heap l2 ys)(q3:Cm t3 s.heap l3 us)(hx:xs[i]?=Ab x)(hy:ys[i]?=Ab y)(hu:us[i]?=Ab u)(go:∀ h2 tk,Z3 t1 t2 t3 I l1 l2 l3 (i+1) h2->EK h2 s.heap.objs.size x y u->h2.objs.size=s.heap.objs.size+1->(∀ c o,c∉z3w I->s.heap.get? c=Ab o->h2.get? c=Ab o)->Q (Ab (.ref s.heap.objs.size)) {s with heap:=h2,toks:=tk}):Az (model prog w) A (Ea (.ref (I+5))) Q E s:=by
 obtain⟨zI,i1,i2,i3,zz⟩:=z;have calm':A.in1.handled=Af:=calm;have lt:∀{v:AR Ai}{k:Ag}{a:Ai},v[k]?=Ab a->k<v.size:=fun h=>by
  rw[Array.getElem?_eq_some_iff]at h;exact h.1
 have inj:∀{v:AR Ai}{k:Ag}{a b:Ai},v[k]?=Ab a->v[k]?=Ab b->b=a:=fun h1 h2=>by
  rw[h1]at h2;exact(BW h2).symm
 have d1:=Iz (prog:=prog) (w:=w) calm' t1 (I+0) l1 (A1 b1) xs;have d2:=Iz (prog:=prog) (w:=w) calm' t2 (I+1) l2 (A1 (AD b2 (Er _ _))) ys;have d3:=Iz (prog:=prog) (w:=w) calm' t3 (I+2) l3 (A1 (AD b3 (Er _ _))) us;obtain⟨⟨a,b,c,hO⟩,zz⟩:=zz;have fst:∀{f0 f1:Ai},ES s.heap (I+5) (I+3) (I+4) f0 f1->(f0=.none\/∃ T1:Ag,f0=C4 T1/\s.heap.get? T1=Af)->Az (model prog w) A (Ea (.ref (I+5))) Q E s:=fun hz hf=>by
  have hty:s.TypeIs (.ref (I+5)) "zip" := ⟨_,hz,rfl⟩;simp only[Ea];refine Ah (Ff (Ci hty Cz (CD Cz hty Et (aJ (k:=i) b1 b2 b3 d1 d2 d3 hz hf zI hO ⟨i1,q1⟩ ⟨i2,q2⟩ ⟨i3,q3⟩ (lt hx) (lt hy) (lt hu) fun x' y' u' h2 tk px py pu c1 c2 c3 c4 c5 c6 c7 kp=>Av ?_) (D9 _))))
  rw[inj hx px,inj hy py,inj hu pu]at c5;exact go h2 tk ⟨kp _ _ (by simp) zI,c2.1,c3.1,c4.1,⟨_,_,_,c6⟩,.inr ⟨_,_,c1⟩⟩ c5 c7 kp
 rcases zz with hz|⟨T1,f1,hz⟩
 ·exact fst hz (.inl rfl)
 ·cases hT:s.heap.get? T1 with
  |none=>exact fst hz (.inr ⟨T1,rfl,hT⟩)
  |some o1=>
   have hty:s.TypeIs (.ref (I+5)) "zip" := ⟨_,hz,rfl⟩;simp only[Ea];refine Ah (Ff (Ci hty Cz (CD Cz hty Et (ZX (k:=i) b1 b2 b3 d1 d2 d3 hz zI hT ⟨i1,q1⟩ ⟨i2,q2⟩ ⟨i3,q3⟩ (lt hx) (lt hy) (lt hu) fun x' y' u' h2 tk px py pu c1 c2 c3 c4 c5 c6 kp=>Av ?_) (D9 _))))
   rw[inj hx px,inj hy py,inj hu pu]at c5;exact go h2 tk ⟨kp _ _ (by simp) zI,c2.1,c3.1,c4.1,⟨a,b,c,kp _ _ (by simp) hO⟩,.inr ⟨T1,Aa,c1⟩⟩ c5 c6 (fun c o nc q=>kp c o (fun h=>nc (by simp only[z3w,Aw,A3,Cb]at h ⊢;rcases h with h|h|h|h<;>simp[h])) q)
theorem mF{t1 t2 t3:Ao}{I l1 l2 l3 i:Ag}{xs:AR Ai}{Q:At Ai->Ap->Prop}(calm:A.handled=Af)(b1:l1<I)(z:Z3 t1 t2 t3 I l1 l2 l3 i s.heap)(q1:Cm t1 s.heap l1 xs)(hx:xs.size<=i)(go:∀ h2,(∀ c o,c∉z3w I->s.heap.get? c=Ab o->h2.get? c=Ab o)->Q Af {s with heap:=h2}):Az (model prog w) A (Ea (.ref (I+5))) Q E s:=by
 obtain⟨zI,i1,i2,i3,zz⟩:=z;have calm':A.in1.handled=Af:=calm;have d1:=Iz (prog:=prog) (w:=w) calm' t1 (I+0) l1 (A1 b1) xs;have go':∀ h2 e,(∀ c o,c∉[I+0,I+5]->s.heap.get? c=Ab o->h2.get? c=Ab o)->(∃ o,h2.get? e=Ab o/\o.cls=.type "StopIteration")->Az (model prog w) A (isInstance (.ref e) (.type "StopIteration") >>= fun b=>if b=Aa then pure Af else throw (.ref e)) Q E {s with heap:=h2}:=fun h2 e kp ⟨o,ho,hcl⟩=>
  Ah (YK (T := "StopIteration") (b:=Aa) ⟨o,ho,hcl⟩ YB (Av (go h2 fun c o nc q=>kp c o (fun h=>nc (by simp only[z3w,Aw,A3,Cb]at h ⊢;rcases h with h|h<;>simp[h])) q)))
 have fin:∀{f0 f1:Ai},ES s.heap (I+5) (I+3) (I+4) f0 f1->(f0=.none\/∃ T1:Ag,f0=C4 T1/\s.heap.get? T1=Af)->Az (model prog w) A (Ea (.ref (I+5))) Q E s:=fun hz hf=>by
  have hty:s.TypeIs (.ref (I+5)) "zip" := ⟨_,hz,rfl⟩;simp only[Ea];exact Ah (Ff (Ci hty Cz (CD Cz hty Et (dR (k:=i) b1 d1 hz hf zI ⟨i1,q1⟩ hx fun h2 e kp he=>go' h2 e kp he) (D9 _))))
 obtain⟨_,zz⟩:=zz;rcases zz with hz|⟨T1,f1,hz⟩
 ·exact fin hz (.inl rfl)
 ·cases hT:s.heap.get? T1 with
  |none=>exact fin hz (.inr ⟨T1,rfl,hT⟩)
  |some o1=>
   have hty:s.TypeIs (.ref (I+5)) "zip" := ⟨_,hz,rfl⟩;simp only[Ea];exact Ah (Ff (Ci hty Cz (CD Cz hty Et (ZW (k:=i) b1 d1 hz zI hT ⟨i1,q1⟩ hx fun h2 e kp he=>go' h2 e kp he) (D9 _))))
end
section
variable{prog:A9}{w:AK}{A:Bx}{R:Kk->Ap->Prop}
def KU(I S:Ag)(xs ys us:AR Ai)(i:Ag)(acc:AR Ai)(h:AT):Prop:=acc.size=i/\(∀ j,j<i->∃(a:Ag)(x y u:Ai),acc[j]?=Ab (.ref a)/\xs[j]?=Ab x/\ys[j]?=Ab y/\us[j]?=Ab u/\EK h a x y u/\I+5<a/\a≠S)/\∀(j1 j2 a:Ag),acc[j1]?=Ab (DS a)->acc[j2]?=Ab (DS a)->j1=j2
theorem Cm.at'(z:Cm t h l its)(k:∀ o,h.get? l=Ab o->h2.get? l=Ab o):Cm t h2 l its:=by
 cases t with
 |true=>exact PySem.Heap.IsTuple.at z k
 |false=>exact PySem.Heap.IsList.at z k
theorem NX{I a:Ag}(h:I+5<a):a∉z3w I:=by
 intro z;simp only[z3w,Aw,A3,Cb]at z;rcases z with z|z|z|z|z<;>· rw[z]at h;exact absurd h (EO.mpr (GN (by decide) I))
theorem NE{I l:Ag}(h:l<I):l∉z3w I:=by
 intro z;simp only[z3w,Aw,A3,Cb]at z;rcases z with z|z|z|z|z<;>· rw[z]at h;exact absurd h (EO.mpr (Er I _))
theorem Z3.at'{t1 t2 t3:Ao}{I l1 l2 l3 i:Ag}{h h2:AT}(z:Z3 t1 t2 t3 I l1 l2 l3 i h)(k:∀ j,j<=5->∀ o,h.get? (I+j)=Ab o->h2.get? (I+j)=Ab o):Z3 t1 t2 t3 I l1 l2 l3 i h2:=by
 obtain⟨zI,i1,i2,i3,⟨a,b,c,hO⟩,zz⟩:=z;exact⟨k 3 (by decide) _ zI,i1.at' fun o q=>k 0 (by decide) o q,i2.at' fun o q=>k 1 (by decide) o q,i3.at' fun o q=>k 2 (by decide) o q,⟨a,b,c,k 4 (by decide) _ hO⟩,zz.imp (k 5 (by decide) _) fun ⟨T1,f1,hz⟩=>⟨T1,f1,k 5 (by decide) _ hz⟩⟩
theorem gQ{t1 t2 t3:Ao}{I l1 l2 l3 n:Ag}{xs:AR Ai}{res:Ai}(calm:A.handled=Af)(b1:l1<I)(b2:l2<I)(b3:l3<I)(S:Ag)(hS:I+5<S)(n0:0<n)(nn:n<=1000)(e1:xs.size=n)(e2:ys.size=n)(e3:us.size=n):
  ∀(k i:Ag)(s:Ap)(acc:AR Ai)(c:Ag),n-i=k->i<=n->Z3 t1 t2 t3 I l1 l2 l3 i s.heap->Cm t1 s.heap l1 xs->Cm t2 s.heap l2 ys->Cm t3 s.heap l3 us ->
  s.heap.get? S=Ab { cls:=.type "list", dict:=Af,data:=.seq acc c,slots:=#[] }->KU I S xs ys us i acc s.heap ->
  (∀ h2 acc2 c2 tk,(∀ d o,d∉z3w I->d≠S->s.heap.get? d=Ab o->h2.get? d=Ab o)->h2.get? S=Ab { cls:=.type "list", dict:=Af,data:=.seq acc2 c2,slots:=#[] }->KU I S xs ys us n acc2 h2->R (.ok (.ret res)) {s with heap:=h2,toks:=tk}) ->
  FO (model prog w) A (.builtin "list.extend.loop" ⟨[.ref S,.ref (I+5),res],[]⟩) R s:=by
 have calm':A.in1.handled=Af:=calm;intro k
 induction k with
 |zero=>
  intro i s acc c hk hi hz q1 q2 q3 hSo hd hR;have ein:i=n:=Ig hi (Xr hk);subst ein;refine Fu XV ?_;rw[Ej Fk _];refine Ah (m:=Ea (.ref (I+5))) (mF calm' b1 hz q1 (HE e1) fun h2 kp=>?_)
  exact Av (hR h2 acc c s.toks (fun d o nd _ q=>kp d o nd q) (kp _ _ (NX hS) hSo) ⟨hd.1,fun j hj=>by
   obtain⟨a,x,y,u,r1,r2,r3,r4,r5,r6,r7⟩:=hd.2.1 j hj;exact⟨a,x,y,u,r1,r2,r3,r4,kp _ _ (NX r6) r5,r6,r7⟩,hd.2.2⟩)
 |succ k ih=>
  intro i s acc c hk hi hz q1 q2 q3 hSo hd hR;have lt:i<n:=Nat.lt_of_sub_pos (by rw[hk];exact Nat.succ_pos _)
  have lx:i<xs.size:=by rw[e1];exact lt
  have ly:i<ys.size:=by rw[e2];exact lt
  have lu:i<us.size:=by rw[e3];exact lt
  refine Fu XV ?_;rw[Ej Fk _];refine Ah (m:=Ea (.ref (I+5))) (gO calm' b1 b2 b3 hz q1 q2 q3 (BZ lx) (BZ ly) (BZ lu) fun h2 tk z2 tr sz kp=>?_)
  have hS2:=kp _ _ (NX hS) hSo;refine Ah (m:=Jx S _) ?_;have ot:∀(f:DC->DC) d o,d≠S->h2.get? d=Ab o->(h2.update S f).get? d=Ab o:=fun f d o nd q=>(Dp _ _ (DZ nd)).trans q
  have lS:I+5<s.heap.objs.size:=FD hS (AF hSo);have nT:s.heap.objs.size≠S:=CU (AF hSo);have hS3:=Dx (By (·.push (.ref s.heap.objs.size))) hS2 rfl;have lne:∀{l:Ag},l<I->l≠S:=fun h e=>by rw[e]at h;exact absurd (FD h (BU (Er I 5) hS)) (Bw _)
  refine Fw hS2 rfl (Av ⟨Hf Fk _,ih (i+1) {s with heap:=h2.update S (By (·.push (.ref s.heap.objs.size))),toks:=tk} _ _ (by omega) lt (z2.at' fun j hj o q=>ot _ _ o (fun e=>by rw[<-e]at hS;exact absurd hS (EO.mpr (GN hj I))) q) ?_ ?_ ?_ hS3 ⟨by rw[WK,hd.1],fun j hj=>?_,?_⟩ fun h4 acc4 c4 tk4 kp4 hS4 hd4=>hR h4 acc4 c4 tk4 (fun d o nd ns q=>kp4 d o nd ns (ot _ d o ns (kp d o nd q))) hS4 hd4⟩) ?_ ?_
  ·exact q1.at' fun o q=>ot _ _ o (lne b1) (kp _ o (NE b1) q)
  ·exact q2.at' fun o q=>ot _ _ o (lne b2) (kp _ o (NE b2) q)
  ·exact q3.at' fun o q=>ot _ _ o (lne b3) (kp _ o (NE b3) q)
  ·by_cases ej:j=i
   ·subst ej;exact⟨s.heap.objs.size,_,_,_,by rw[GK,Ay hd.1.symm],BZ lx,BZ ly,BZ lu,ot _ _ _ nT tr,lS,nT⟩
   ·obtain⟨a,x,y,u,r1,r2,r3,r4,r5,r6,r7⟩:=hd.2.1 j (EN (D8 hj) ej);exact⟨a,x,y,u,by rw[GK,AH (by rw[hd.1];exact ej)];exact r1,r2,r3,r4,ot _ _ _ r7 (kp _ _ (NX r6) r5),r6,r7⟩
  ·have old:∀(j a:Ag),acc[j]?=Ab (DS a)->a<s.heap.objs.size:=fun j a e=>by
    have hj:j<i:=by rw[<-hd.1];exact(WJ.mp e).1
    obtain⟨a',x,y,u,r1,r2,r3,r4,r5,r6,r7⟩:=hd.2.1 j hj;rw[e]at r1;cases r1;exact AF r5
   intro j1 j2 a q1 q2;rw[GK]at q1 q2;split at q1
   ·split at q2
    ·omega
    ·cases q1;exact absurd (old _ _ q2) (Bw _)
   ·split at q2
    ·cases q2;exact absurd (old _ _ q1) (Bw _)
    ·exact hd.2.2 _ _ _ q1 q2
  ·rw[hd.1];exact BK (BK hi nn) (by decide)
  ·show (acc.push _).size<=sizeLine+1;rw[WK,hd.1];exact BK (Nat.succ_le_succ (BK hi nn)) (by decide)
end
theorem ZV(a b c:Ai):checkTypeCall "zip" ⟨[a,b,c],[]⟩=pure ():=by kernel_rfl
theorem dS(a b c:Ai):Yz "zip.__new__" ⟨[.type "zip", a,b,c],[]⟩=pure ():=by kernel_rfl
theorem tH(a b c d:Ai):argsOk "object.__init__" ⟨[a,b,c,d],[]⟩:=by
 unfold argsOk;rw[signature?_of (id := "object.__init__") (n:=['_','_','t','i','n','i','_','_']) (o:=['t','c','e','j','b','o']) (by kernel_rfl) F.owner_object];kernel_rfl
section
variable{prog:A9}{w:AK}{A:Bx}{E:Vq}{s:Ap}
noncomputable abbrev yh3(t1 t2 t3:Ao)(h:AT)(l1 l2 l3:Al):AT:=((h.push (itO t1 l1)).push (itO t2 l2)).push (itO t3 l3)
noncomputable abbrev yh4(t1 t2 t3:Ao)(h:AT)(l1 l2 l3:Al):AT:=(yh3 t1 t2 t3 h l1 l2 l3).push { cls:=.type "tuple", data:=.seq #[.ref h.objs.size,.ref (h.push (itO t1 l1)).objs.size,.ref ((h.push (itO t1 l1)).push (itO t2 l2)).objs.size] }
noncomputable abbrev yh5(t1 t2 t3:Ao)(h:AT)(l1 l2 l3:Al):AT:=(yh4 t1 t2 t3 h l1 l2 l3).push { cls:=.type "tuple", data:=.seq #[.none,.none,.none] }
noncomputable abbrev yh6(t1 t2 t3:Ao)(h:AT)(l1 l2 l3:Al):AT:=(yh5 t1 t2 t3 h l1 l2 l3).push { cls:=.type "zip", data:=.fields #[.none,.bool Ad,.bool Ad,.ref (yh3 t1 t2 t3 h l1 l2 l3).objs.size,.ref (yh4 t1 t2 t3 h l1 l2 l3).objs.size] }
theorem dQ(t1 t2 t3:Ao)(l1 l2 l3:Al)(xs ys us:AR Ai):Meets (Builtin.«zip.__new__» ⟨[.type "zip", .ref l1,.ref l2,.ref l3],[]⟩) (fun _ R s=>Cm t1 s.heap l1 xs/\Cm t2 s.heap l2 ys/\Cm t3 s.heap l3 us/\R (.ok (.ret (.ref (yh5 t1 t2 t3 s.heap l1 l2 l3).objs.size))) {s with heap:=yh6 t1 t2 t3 s.heap l1 l2 l3}):=
 .of_wp fun prog w A R s h=>by
  obtain⟨hp,g,d,tk,os⟩:=s;obtain⟨a1,a2,a3,q⟩:=h;have hsub:=sub_zip;have L1:Cm t1 (F4 ⟨hp,g,d,tk,os⟩) l1 xs:=a1;have L2:Cm t2 (F4 ⟨hp.push (itO t1 l1),g,d,tk,os⟩) l2 ys:=a2.push _;have L3:Cm t3 (F4 ⟨(hp.push (itO t1 l1)).push (itO t2 l2),g,d,tk,os⟩) l3 us:=(a3.push _).push _
  wp_walk using JE L1,JE L2,JE L3
  exact⟨_,rfl,q⟩
theorem ZY{t1 t2 t3:Ao}{l1 l2 l3:Al}{xs:AR Ai}{Q:Vq}(a1:Cm t1 s.heap l1 xs)(a2:Cm t2 s.heap l2 ys)(a3:Cm t3 s.heap l3 us)(q:∀ h2,Z3 t1 t2 t3 s.heap.objs.size l1 l2 l3 0 h2->h2.objs.size=s.heap.objs.size+6->(∀ c o,s.heap.get? c=Ab o->h2.get? c=Ab o)->Q (.ref (s.heap.objs.size+5)) {s with heap:=h2}):Az (model prog w) A (call (.type "zip") [.ref l1,.ref l2,.ref l3]) Q E s:=by
 refine Jr XU (by decide) (ZV _ _ _) (dS _ _ _) (fun obj=>tH obj _ _ _) X4 (dQ t1 t2 t3 l1 l2 l3 xs ys us) ⟨a1,a2,a3,?_⟩
 have s1:(s.heap.push (itO t1 l1)).objs.size=s.heap.objs.size+1:=Bz ..;have s2:((s.heap.push (itO t1 l1)).push (itO t2 l2)).objs.size=s.heap.objs.size+2:=by rw[Bz,s1]
 have s3:(yh3 t1 t2 t3 s.heap l1 l2 l3).objs.size=s.heap.objs.size+3:=by rw[Bz,s2]
 have s4:(yh4 t1 t2 t3 s.heap l1 l2 l3).objs.size=s.heap.objs.size+4:=by rw[Bz,s3]
 have s5:(yh5 t1 t2 t3 s.heap l1 l2 l3).objs.size=s.heap.objs.size+5:=by rw[Bz,s4]
 have s6:(yh6 t1 t2 t3 s.heap l1 l2 l3).objs.size=s.heap.objs.size+6:=by rw[Bz,s5]
 have u6:∀ {c o},(yh5 t1 t2 t3 s.heap l1 l2 l3).get? c=Ab o->(yh6 t1 t2 t3 s.heap l1 l2 l3).get? c=Ab o:=fun e=>As _ e
 have u5:∀ {c o},(yh4 t1 t2 t3 s.heap l1 l2 l3).get? c=Ab o->(yh6 t1 t2 t3 s.heap l1 l2 l3).get? c=Ab o:=fun e=>u6 (As _ e)
 have u4:∀ {c o},(yh3 t1 t2 t3 s.heap l1 l2 l3).get? c=Ab o->(yh6 t1 t2 t3 s.heap l1 l2 l3).get? c=Ab o:=fun e=>u5 (As _ e)
 have u3:∀ {c o},((s.heap.push (itO t1 l1)).push (itO t2 l2)).get? c=Ab o->(yh6 t1 t2 t3 s.heap l1 l2 l3).get? c=Ab o:=fun e=>u4 (As _ e)
 have u2:∀ {c o},(s.heap.push (itO t1 l1)).get? c=Ab o->(yh6 t1 t2 t3 s.heap l1 l2 l3).get? c=Ab o:=fun e=>u3 (As _ e)
 have g6:(yh6 t1 t2 t3 s.heap l1 l2 l3).get? (yh5 t1 t2 t3 s.heap l1 l2 l3).objs.size=Ab _:=AC _ rfl;have g5:(yh6 t1 t2 t3 s.heap l1 l2 l3).get? (yh4 t1 t2 t3 s.heap l1 l2 l3).objs.size=Ab _:=u6 (AC _ rfl);have g4:(yh6 t1 t2 t3 s.heap l1 l2 l3).get? (yh3 t1 t2 t3 s.heap l1 l2 l3).objs.size=Ab _:=u5 (AC _ rfl);have g3:(yh6 t1 t2 t3 s.heap l1 l2 l3).get? ((s.heap.push (itO t1 l1)).push (itO t2 l2)).objs.size=Ab _:=u4 (AC _ (KP _ _));have g2:(yh6 t1 t2 t3 s.heap l1 l2 l3).get? (s.heap.push (itO t1 l1)).objs.size=Ab _:=u3 (AC _ (KP _ _));have g1:(yh6 t1 t2 t3 s.heap l1 l2 l3).get? s.heap.objs.size=Ab _:=u2 (AC _ (KP _ _));show _/\_;rw[s3,s4,s5]at g6;rw[s4]at g5;rw[s1,s2,s3]at g4;rw[s2]at g3;rw[s1]at g2;rw[s5];exact⟨⟨_,g6,rfl⟩,q _ ⟨g4,K5 g1,K5 g2,K5 g3,⟨_,_,_,g5⟩,.inl g6⟩ s6 fun c o e=>u2 (As _ e)⟩
end
theorem aI:Kt (.type "zip") "__len__" = pure Af:=by rw[YF,Yx];kernel_rfl
theorem ZP:Kt (.type "zip") "__length_hint__" = pure Af:=by rw[YF,Yx];kernel_rfl
theorem Z3.ty{t1 t2 t3:Ao}{I l1 l2 l3 i:Ag}(z:Z3 t1 t2 t3 I l1 l2 l3 i s.heap):s.TypeIs (.ref (I+5)) "zip" := by
 obtain⟨_,_,_,_,_,hz|⟨_,_,hz⟩⟩:=z
 ·exact⟨_,hz,rfl⟩
 ·exact⟨_,hz,rfl⟩
theorem Z3.lt{t1 t2 t3:Ao}{I l1 l2 l3 i:Ag}(z:Z3 t1 t2 t3 I l1 l2 l3 i s.heap):I+5<s.heap.objs.size:=by
 obtain⟨o,h,_⟩:=z.ty;exact AF h
theorem gP{t1 t2 t3:Ao}{I l1 l2 l3 i:Ag}(z:Z3 t1 t2 t3 I l1 l2 l3 i h):Z3 t1 t2 t3 I l1 l2 l3 i (h.push o):=by
 have k:∀ {c u},h.get? c=Ab u->(h.push o).get? c=Ab u:=fun q=>As _ q
 obtain⟨zI,i1,i2,i3,zz⟩:=z;refine⟨k zI,i1.at' fun o q=>k q,i2.at' fun o q=>k q,i3.at' fun o q=>k q,?_⟩
 obtain⟨⟨a,b,c,hO⟩,zz⟩:=zz;refine⟨⟨a,b,c,k hO⟩,?_⟩;rcases zz with hz|⟨T1,f1,hz⟩
 ·exact .inl (k hz)
 ·exact .inr ⟨T1,f1,k hz⟩
section
variable{prog:A9}{w:AK}{A:Bx}{E:Vq}{s:Ap}
theorem dN{z:Al}{Q:Vq}(hT:s.TypeIs (.ref z) "zip")(h:Q (.ref z) s):Az (model prog w) A (Kq (.ref z)) Q E s:=by
 refine wpAny_pyIter_slot hT X8 (CD X8 hT F.entry_zip_iter ?_ (F.args_zip_iter_1 _));show Az _ _ (ret (.ref z)) _ _ s;exact Av ⟨_,rfl, "zip", _,hT,F.slot_zip_next.lookup,h⟩
theorem aK{t1 t2 t3:Ao}{I l1 l2 l3 n:Ag}{xs:AR Ai}{Q:Ac Ai->Ap->Prop}(calm:A.handled=Af)(b1:l1<I)(b2:l2<I)(b3:l3<I)(n0:0<n)(nn:n<=1000)(e1:xs.size=n)(e2:ys.size=n)(e3:us.size=n)(hz:Z3 t1 t2 t3 I l1 l2 l3 0 s.heap)(q1:Cm t1 s.heap l1 xs)(q2:Cm t2 s.heap l2 ys)(q3:Cm t3 s.heap l3 us)(hQ:∀ h2 acc tk,(∀ d o,d∉z3w I->s.heap.get? d=Ab o->h2.get? d=Ab o)->KU I s.heap.objs.size xs ys us n acc h2->Q acc.toList {s with heap:=h2,toks:=tk}):Az (model prog w) A (collect (.ref (I+5))) Q E s:=by
  have lt:=hz.lt;have hSI:s.heap.objs.size≠I+5:=CU lt;unfold collect;refine Ah (wpAny_runValue (Fu F.entry_proto_collect ?_));rw[Ej F.plain_proto_collect _];show Az _ A.in1 (newList [] >>= fun l=>again (.builtin "list.__iadd__" ⟨[l,.ref (I+5)],[]⟩)) _ _ s
  refine Ah (C0 ?_);refine Av ⟨Hf X5 _,Fu F.entry_list_iadd ?_⟩;rw[Ej X5 _];have hz1:Z3 t1 t2 t3 I l1 l2 l3 0 (s.heap.push { cls:=.type "list", data:=.seq ([]:Ac Ai).toArray }):=gP hz;have ty1:Shared.TypeIs { s with heap:=s.heap.push { cls:=.type "list", data:=.seq ([]:Ac Ai).toArray } } (.ref (I+5)) "zip" := Z3.ty (s:={ s with heap:=s.heap.push { cls:=.type "list", data:=.seq ([]:Ac Ai).toArray } }) hz1
  show Az _ A.in1 (XI (.ref s.heap.objs.size) (.ref (I+5)) (.ref s.heap.objs.size)) _ _ _;unfold XI;refine Ah (wpAny_typeOf ty1 ?_);have h1:XJ (.ref s.heap.objs.size) (.ref (I+5))=Ad:=by simp[XJ,hSI]
  have h2:(DO "zip" == DO "list")=Ad:=by decide
  have h3:(DO "zip" == DO "tuple")=Ad:=by decide
  simp only[h1,h2,h3,WL,Fx,G7];refine Ah (dN ty1 ?_);refine Ah (Cf ?_);unfold Builtin.List.listLengthHint;refine Ah (Ik ty1 aI ?_);show Az _ A.in1 (specialOf (DS (I+5)) (AQ "__length_hint__") >>= _) _ _ _;refine Ah (Ik ty1 ZP ?_);refine Av ?_;show Az _ A.in1 (rule "list.extend.makes-room" >>= fun _=>Builtin.List.listTouch (.ref s.heap.objs.size) >>= fun _=>
    again (.builtin "list.extend.loop" ⟨[.ref s.heap.objs.size,.ref (I+5),.ref s.heap.objs.size],[]⟩)) _ _ _
  refine Ah (GC ?_);have hS₁:(s.heap.push { cls:=.type "list", data:=.seq ([]:Ac Ai).toArray }).get? s.heap.objs.size=Ab { cls:=.type "list", data:=.seq ([]:Ac Ai).toArray }:=AC _ rfl;refine Ah ?_;show Az _ A.in1 (Jx s.heap.objs.size (·.push .none) >>= fun _=>Jx s.heap.objs.size (·.pop)) _ _ _
  refine Ah (Fw hS₁ rfl ?_);have hS₂:=Dx (By (·.push Dg)) hS₁ rfl;refine Fw hS₂ rfl ?_;have hS₃:=Dx (By (·.pop)) hS₂ rfl;have oth:∀ b o,b≠s.heap.objs.size->(s.heap.push { cls:=.type "list", data:=.seq ([]:Ac Ai).toArray }).get? b=Ab o ->
      (((s.heap.push { cls:=.type "list", data:=.seq ([]:Ac Ai).toArray }).update s.heap.objs.size (By (·.push Dg))).update s.heap.objs.size (By (·.pop))).get? b=Ab o:=
    fun b o hb e=>(Dp _ _ (DZ hb)).trans ((Dp _ _ (DZ hb)).trans e)
  have oth':∀ b o,s.heap.get? b=Ab o->(((s.heap.push { cls:=.type "list", data:=.seq ([]:Ac Ai).toArray }).update s.heap.objs.size (By (·.push Dg))).update s.heap.objs.size (By (·.pop))).get? b=Ab o:=
    fun b o e=>oth b o (A1 (AF e)) (As _ e)
  refine Av ⟨Hf Fk _,gQ calm b1 b2 b3 s.heap.objs.size lt n0 nn e1 e2 e3 n 0 _ _ _ rfl (CW _) (hz1.at' fun j hj o q=>oth _ o (fun e=>by rw[<-e]at lt;exact absurd lt (EO.mpr (GN hj I))) q) (q1.at' fun o e=>oth' _ o e) (q2.at' fun o e=>oth' _ o e) (q3.at' fun o e=>oth' _ o e) hS₃ ⟨rfl,fun j hj=>absurd hj (Fq _),fun j1 j2 a e=>by simp[By]at e⟩ fun h2 acc c tk kp hS hd=>?_⟩
  show Az _ A (load s.heap.objs.size >>= _) _ _ _;refine Ah (wpAny_load hS ?_);exact Av (hQ h2 acc tk (fun d o nd e=>kp d o nd (A1 (AF e)) (oth' d o e)) hd)
theorem gR{t1 t2 t3:Ao}{I l1 l2 l3 n:Ag}{xs:AR Ai}{Q₁:Vq}(calm:A.handled=Af)(b1:l1<I)(b2:l2<I)(b3:l3<I)(n0:0<n)(nn:n<=1000)(e1:xs.size=n)(e2:ys.size=n)(e3:us.size=n)(hz:Z3 t1 t2 t3 I l1 l2 l3 0 s.heap)(q1:Cm t1 s.heap l1 xs)(q2:Cm t2 s.heap l2 ys)(q3:Cm t3 s.heap l3 us)(h:∀ h2 acc tk,(∀ d o,d∉z3w I->s.heap.get? d=Ab o->h2.get? d=Ab o)->KU I s.heap.objs.size xs ys us n acc h2->Q₁ (.ref h2.objs.size) { s with heap:=h2.push { cls:=.type "tuple", data:=.seq acc },toks:=tk }):
  FO (model prog w) A (.call (.builtin "tuple.__new__") ⟨[.type "tuple", .ref (I+5)],[]⟩) (wants Q₁ E) s:=by
 refine codeAny_of_tree ?_;show Az _ A.in1 (do Yz "tuple.__new__" ⟨[.type "tuple", .ref (I+5)],[]⟩;again (.builtin "tuple.__new__" ⟨[.type "tuple", .ref (I+5)],[]⟩)) _ _ s
 refine Ah (wpAny_of_eq (F.newCall_tuple_1 _) (Av ⟨Hf X6 _,Fu F.entry_tuple_new ?_⟩));rw[Ej X6 _];have hsub:=sub_tuple_self;have hinit:=init_tuple_lookup;have hmh:=madeHere_tuple;have hTI:=hz.ty;have calm2:A.in1.handled=Af:=calm
 wp_walk using wpAny_typeOf hTI,aK calm2 b1 b2 b3 n0 nn e1 e2 e3 hz q1 q2 q3
 intro h2 acc tk kp hd;show Az _ _ (Da acc.toList.toArray >>= fun v=>ret v) _ _ _
 unfold Da;refine Ah (C0 ?_ (by show acc.toList.toArray.size<=sizeLine;simp only[Gk];rw[hd.1,CO];omega))
 refine Av ?_;have e:acc.toList.toArray=acc:=by simp
 rw[e];exact h h2 acc tk kp hd
theorem dU{t1 t2 t3:Ao}{I l1 l2 l3 n:Ag}{xs:AR Ai}{Q:Vq}(calm:A.handled=Af)(b1:l1<I)(b2:l2<I)(b3:l3<I)(n0:0<n)(nn:n<=1000)(e1:xs.size=n)(e2:ys.size=n)(e3:us.size=n)(hz:Z3 t1 t2 t3 I l1 l2 l3 0 s.heap)(q1:Cm t1 s.heap l1 xs)(q2:Cm t2 s.heap l2 ys)(q3:Cm t3 s.heap l3 us)(h:∀ h2 acc tk,(∀ d o,d∉z3w I->s.heap.get? d=Ab o->h2.get? d=Ab o)->KU I s.heap.objs.size xs ys us n acc h2->Q (.ref h2.objs.size) { s with heap:=h2.push { cls:=.type "tuple", data:=.seq acc },toks:=tk }):
  Az (model prog w) A (call (.type "tuple") [.ref (I+5)]) Q E s:=by
 refine callType_codes (Q₁:=fun obj s₁=>s₁.TypeIs obj "tuple"/\Q obj s₁) F.called_tuple (F.typeCall_tuple_1 _) F.entry_object_init
  (gR (by exact calm) b1 b2 b3 n0 nn e1 e2 e3 hz q1 q2 q3 fun h2 acc tk kp hd=>⟨⟨_,AC _ rfl,rfl⟩,h h2 acc tk kp hd⟩) fun obj s₁ h₁=>?_
 exact⟨h₁.1,XQ obj _,object_init_meets F.called_tuple.init.lookup F.called_tuple.made (by decide) prog w A.in1 _ s₁ ⟨h₁.1,rfl,h₁.2⟩⟩
end
noncomputable def IB(H:Hp)(ps:Ac (Al×Ac V)):Hp:=fun b=>match ps.lookup b with
  |some xs=>Ab (.tup xs)
  |none=>H b
theorem Vx(h:ps.lookup a=Ab xs):(a,xs)∈ps:=by
 induction ps with
 |nil=>cases h
 |cons p ps ih=>
  obtain⟨b,ys⟩:=p;rw[B5]at h;split at h
  ·rename_i e;cases h;rw[BS]at e;subst e;exact Ax
  ·exact Au _ (ih h)
theorem Tz(h:∀ p∈ps,p.1≠b):IB H ps b=H b:=by
 unfold IB;cases e:ps.lookup b with
 |none=>rfl
 |some xs=>exact absurd rfl (h _ (Vx e))
theorem cO(ps:Ac (Al×Ac V))(I:Inv X pI σ H s)(k:∀ b u,s.heap.get? b=Ab u->h'.get? b=Ab u)(hp:∀ p∈ps,s.heap.objs.size<=p.1)(new:∀ p∈ps,p.2.length<=sizeLine/\∃ its:Ac Ai,Br p.2 its/\JK h' p.1 its.toArray):Inv X pI σ (IB H ps) {s with heap:=h',toks:=t'}:=by
 have old:∀ b,b<s.heap.objs.size->IB H ps b=H b:=fun b hb=>Tz fun p hq e=>by
  have:=hp p hq;rw[e]at this;exact absurd hb (EO.mpr this)
 have hl:∀ b o,H b=Ab o->IB H ps b=Ab o:=fun b o q=>by rw[old b (I.hok.lt q)];exact q
 refine I.un ⟨fun b u q _ _ _=>k b u q,fun b u q _ _ _=>⟨u.slots,k b u q⟩,fun b u q n _=>by rw[old b (AF q)];exact n,fun b u q _=>⟨u,k b u q⟩,fun b xs q=>hl b _ q,fun b u xs q=>hl b _ q,fun b xs q=>⟨#[],by rw[hl b _ q];simp⟩⟩ fun b u e=>?_
 unfold IB at e;split at e
 ·rename_i xs hx;cases e;exact new _ (Vx hx)
 ·exact(I.hok b u e).stay (fun c v _ q=>k c v q) (fun c q=>hl c _ q) fun c xs q=>hl c _ q
noncomputable def Hl:Ac V->Ac V->Ac V->Ac (Ac V)
 |x::xs,y::ys,u::us=>[x,y,u]::Hl xs ys us
 |_,_,_=>[]
theorem S6:∀(xs ys us:Ac V)(j:Ag)(r:Ac V),(Hl xs ys us)[j]?=Ab r->∃ x y u,xs[j]?=Ab x/\ys[j]?=Ab y/\us[j]?=Ab u/\r=[x,y,u]
 |[],_,_,j,r,h=>by simp[Hl]at h
 |_::_,[],_,j,r,h=>by simp[Hl]at h
 |_::_,_::_,[],j,r,h=>by simp[Hl]at h
 |x::xs,y::ys,u::us,0,r,h=>by
  simp only[Hl,EC,Cr]at h;exact⟨x,y,u,rfl,rfl,rfl,h.symm⟩
 |x::xs,y::ys,u::us,j+1,r,h=>by
  simp only[Hl,EB]at h ⊢;exact S6 xs ys us j r h
theorem MT{α β:Type}:∀{as:Ac α}{bs:Ac β}{a:α}{b:β},(a,b)∈as.zip bs->∃ j:Ag,as[j]?=Ab a/\bs[j]?=Ab b
 |[],_,_,_,h=>by simp at h
 |_::_,[],_,_,h=>by simp at h
 |x::as,y::bs,a,b,h=>by
  simp only[G8,Aw,Prod.mk.injEq]at h;rcases h with ⟨rfl,rfl⟩|h
  ·exact⟨0,rfl,rfl⟩
  ·obtain⟨j,h1,h2⟩:=MT h;exact⟨j+1,h1,h2⟩
def Y7(K:Fg)(ta:TA):TE:=fun σ H Q=>ta σ H fun vs H1=>∃ t1 t2 t3 a b c xs ys us,vs=[.ref a,.ref b,.ref c]/\SqX t1 K H1 a xs/\SqX t2 K H1 b ys/\SqX t3 K H1 c us/\0<xs.length/\xs.length<=1000/\ys.length=xs.length/\us.length=xs.length /\
 ∀(as:Ac Al)(T:Al),as.length=xs.length->as.Nodup->(∀ p∈as,H1 p=Af)->T∉as->H1 T=Af->Q (.ref T) (IB H1 ((T,as.map .ref)::as.zip (Hl xs ys us)))
theorem eR{I S:Ag}{xs:AR Ai}(d:KU I S xs ys us n acc h):∃ as:Ac Al,acc.toList=as.map DS/\as.length=n/\as.Nodup/\∀(j:Ag)(a:Al),as[j]?=Ab a->∃ x y u,xs[j]?=Ab x/\ys[j]?=Ab y/\us[j]?=Ab u/\EK h a x y u/\I+5<a:=by
  obtain⟨hn,hj,inj⟩:=d
  let f:Ai->Al:=fun v=>match v with
    |.ref a=>a
    |_=>0
  have hg:∀ j v,acc.toList[j]?=Ab v->∃(a:Ag)(x y u:Ai),v=DS a/\xs[j]?=Ab x/\ys[j]?=Ab y/\us[j]?=Ab u/\EK h a x y u/\I+5<a:=fun j v e=>by
    rw[DW]at e;have lt:j<n:=by rw[<-hn];exact(WJ.mp e).1
    obtain⟨a,x,y,u,r1,r2,r3,r4,r5,r6,_⟩:=hj j lt;rw[e]at r1;cases r1;exact⟨a,x,y,u,rfl,r2,r3,r4,r5,r6⟩
  have hf:∀ v∈acc.toList,DS (f v)=v:=fun v hv=>by
    obtain⟨j,hj⟩:=Gn hv;obtain⟨a,_,_,_,rfl,_⟩:=hg j v hj;rfl
  have hm:acc.toList=(acc.toList.map f).map DS:=by
    rw[FB]
    conv=>lhs;rw[<-List.map_id acc.toList]
    exact Ez fun v hv=>(hf v hv).symm
  refine⟨acc.toList.map f,hm,by rw[BD,CF,hn],?_,fun j a e=>?_⟩
  · rw[List.nodup_iff_pairwise_ne,Ei];intro i j hi hj' lt e;rw[BD,CF]at hi hj';have at':∀(k:Ag)(hk:k<acc.size)(hk':k<(acc.toList.map f).length),acc[k]?=Ab (DS (acc.toList.map f)[k]):=fun k hk hk'=>by
      rw[BZ hk,List.getElem_map,hf _ (E3 _),Array.getElem_toList]
    have:=inj i j _ (at' i hi _) (by rw[e];exact at' j hj' _)
    omega
  · rw[D7,Option.map_eq_some_iff]at e;obtain⟨v,hv,rfl⟩:=e;obtain⟨a,x,y,u,rfl,r⟩:=hg j v hv;exact⟨x,y,u,r⟩
theorem qP{a b:Ar}{p':Bb}(hc:X.calm=Aa)(hg:Gl X "tuple")(hm:X.mg "tuple" = Af)(hg':Gl X "zip")(hm':X.mg "zip" = Af)(ha:PA X [a,b,c] ta)(hs:AG [a,b,c] X.env=[(Ad,eval a X.env),(Ad,eval b X.env),(Ad,eval c X.env)])(hs2:AG [b,c] X.env=[(Ad,eval b X.env),(Ad,eval c X.env)]):
    PE X (.Call (.Name "tuple" p) [.Call (.Name "zip" p') [a,b,c] [] pos'] [] pos) (Y7 X.K ta):=by
  intro pI s σ H Q I h;refine Hu (GW I hg hm FQ (BR ?_ rfl rfl));show Az _ _ (spliced ((Ad,eval (.Call (.Name "zip" p') [a,b,c] [] pos') X.env)::CQ pos (AG [] X.env))) _ _ s;refine FE ?_;refine Hu (GW I hg' hm' XB (BR (thn (ha pos' pI s σ H _ I h) fun us s1 ⟨vs,H1,I1,r1,q1⟩=>?_) (by rw[hs,hs2]) (by rw[hs2];rfl)))
  obtain⟨t1,t2,t3,l1,l2,l3,xs,ys,zs,e,sx,sy,sz,n0,nn,ey,ez,q⟩:=q1;subst e;cases r1 with
  |cons r rr=>
    cases rr with
    |cons r' rr=>
      cases rr with
      |cons r'' rr=>
        cases rr;cases r;cases r';cases r'';obtain⟨xv,rx,ix,_⟩:=Hi I1 sx;obtain⟨yv,ry,iy,_⟩:=Hi I1 sy;obtain⟨zv,rz,iz,_⟩:=Hi I1 sz;refine ZY ix iy iz fun h2 z hsz kp=>FT ?_
        have lx:=rx.length;have ly:=ry.length;have lz:=rz.length;refine dU (s:={s1 with heap:=h2}) (n:=xs.length) (I1.ok.hd hc) ix.lt iy.lt iz.lt n0 nn (by simp[lx]) (by simp[<-ly,ey]) (by simp[<-lz,ez]) z (ix.at' fun o e=>kp _ o e) (iy.at' fun o e=>kp _ o e) (iz.at' fun o e=>kp _ o e) fun h3 acc tk kp3 dr=>?_
        obtain⟨as,e1,e2,nd,each⟩:=eR dr;have nw:∀ b,b<s1.heap.objs.size->b∉z3w s1.heap.objs.size:=fun b hb=>NE hb
        have kp4:∀ b o,s1.heap.get? b=Ab o->(h3.push { cls:=.type "tuple", data:=.seq acc }).get? b=Ab o:=fun b o e=>As _ (kp3 b o (nw b (AF e)) (kp b o e))
        have big:∀ a∈as,s1.heap.objs.size<=a/\a<h3.objs.size:=fun a ha=>by
          obtain⟨j,hj⟩:=Gn ha;obtain⟨x,y,u,_,_,_,tr,lt⟩:=each j a hj;exact⟨DR (BU (Er _ 5) lt),AF tr⟩
        have b3:s1.heap.objs.size<=h3.objs.size:=by
          obtain⟨a,ha⟩:∃ a,a∈as:=List.exists_mem_of_length_pos (by rw[e2];exact n0)
          exact DR (BU (big a ha).1 (big a ha).2)
        refine⟨.ref h3.objs.size,_,cO (s:=s1) (h':=h3.push { cls:=.type "tuple", data:=.seq acc }) (t':=tk) ((h3.objs.size,as.map V.ref)::as.zip (Hl xs ys zs)) I1 kp4 (fun p hp=>?_) (fun p hp=>?_),rfl,q as h3.objs.size e2 nd (fun p hp=>I1.hok.fresh (big p hp).1) (fun hT=>absurd (big _ hT).2 (Bw _)) (I1.hok.fresh b3)⟩
        · rcases Aw.mp hp with rfl|hp
          · exact b3
          · obtain⟨j,h1,h2⟩:=MT (a:=p.1) (b:=p.2) hp;exact(big _ (DA h1)).1
        · rcases Aw.mp hp with rfl|hp
          · refine⟨by rw[BD,e2,CO];omega,as.map DS,?_,?_⟩
            · clear q each big hp e1 e2 nd
              induction as with
              |nil=>exact .nil
              |cons a as ih=>exact .cons rfl ih
            · rw[<-e1,Gk];exact Jm _ _
          · obtain⟨j,h1,h2⟩:=MT (a:=p.1) (b:=p.2) hp;obtain⟨x,y,u,g1,g2,g3,er⟩:=S6 _ _ _ _ _ h2;obtain⟨x',y',u',k1,k2,k3,tr,_⟩:=each j _ h1;obtain⟨x2,m1,w1⟩:=rx.get g1;obtain⟨y2,m2,w2⟩:=ry.get g2;obtain⟨u2,m3,w3⟩:=rz.get g3;rw[W9]at k1 k2 k3;cases m1.symm.trans k1;cases m2.symm.trans k2;cases m3.symm.trans k3;rw[er];exact⟨by show 3<=sizeLine;decide,[x',y',u'],.cons w1 (.cons w2 (.cons w3 .nil)),⟨_,As _ tr,rfl,_,rfl⟩⟩
theorem Sw{K:Fg}{CL:ClA}{H H3:Hp}{A:Al->Prop}(hA:AOk H A)(sm:AN H H3):∀{as:Ac Al}{xs ys us:Ac V}{ds es fs:Ac D},(∀(j:Ag)(a:Al)(r:Ac V),as[j]?=Ab a->(Hl xs ys us)[j]?=Ab r->H3 a=Ab (.tup r))->(∀ p∈as,H p=Af)->as.length=xs.length->ys.length=xs.length->us.length=xs.length->Reps K CL H A xs ds->Reps K CL H A ys es->Reps K CL H A us fs->Reps K CL H3 A (as.map .ref) (QP ds es fs)
 |[],[],[],[],[],[],[],_,_,_,_,_,_,_,_=>trivial
 |a::as,x::xs,y::ys,u::us,d::ds,e::es,f::fs,h,hn,l1,l2,l3,r1,r2,r3=>
  ⟨⟨a,[x,y,u],rfl,.inl (hA.new (hn a Ax)),SqT.of (h 0 a _ rfl rfl),r1.1.same sm,r2.1.same sm,r3.1.same sm,trivial⟩,
   Sw hA sm (fun j a' r p q=>h (j+1) a' r p q) (fun p hp=>hn p (Au _ hp)) (Jl l1) (Jl l2) (Jl l3) r1.2 r2.2 r3.2⟩
 |[],_::_,_,_,_,_,_,_,_,l,_,_,_,_,_=>nomatch l
 |_::_,[],_,_,_,_,_,_,_,l,_,_,_,_,_=>nomatch l
 |_,[],_::_,_,_,_,_,_,_,_,l,_,_,_,_=>nomatch l
 |_,[],_,_::_,_,_,_,_,_,_,_,l,_,_,_=>nomatch l
 |_,_::_,[],_,_,_,_,_,_,_,l,_,_,_,_=>nomatch l
 |_,_::_,_,[],_,_,_,_,_,_,_,l,_,_,_=>nomatch l
 |_,[],_,_,_::_,_,_,_,_,_,_,_,r,_,_=>r.elim
 |_,_::_,_,_,[],_,_,_,_,_,_,_,r,_,_=>r.elim
 |_,_,[],_,_,_::_,_,_,_,_,_,_,_,r,_=>r.elim
 |_,_,_::_,_,_,[],_,_,_,_,_,_,_,r,_=>r.elim
 |_,_,_,[],_,_,_::_,_,_,_,_,_,_,_,r=>r.elim
 |_,_,_,_::_,_,_,[],_,_,_,_,_,_,_,r=>r.elim
theorem Vw:∀{as:Ac Al}{rs:Ac (Ac V)}{j:Ag}{a:Al}{r:Ac V},as.Nodup->as[j]?=Ab a->rs[j]?=Ab r->(as.zip rs).lookup a=Ab r
 |[],_,_,_,_,_,h,_=>by simp at h
 |_::_,[],_,_,_,_,_,h=>by simp at h
 |b::as,q::rs,0,a,r,nd,h1,h2=>by
  simp only[EC,Cr]at h1 h2;subst h1 h2;rw[G8,Xf]
 |b::as,q::rs,j+1,a,r,nd,h1,h2=>by
  simp only[EB]at h1 h2;have nb:a≠b:=fun e=>by subst e;exact(B4.mp nd).1 (DA h1)
  rw[G8,B5,GJ nb];exact Vw (B4.mp nd).2 h1 h2
section
variable{X:Cx}{CL:ClA}{W:XW}{pos p pos' p':Bb}{a b c:Ar}{fa fb fc:Rho->R D}
theorem oR(ha:SE X CL W a fa)(hb:SE X CL W b fb)(hd:SE X CL W c fc)(hc:X.calm=Aa)(hg:Gl X "tuple")(hm:X.mg "tuple" = Af)(hg':Gl X "zip")(hm':X.mg "zip" = Af)(hs:AG [a,b,c] X.env=[(Ad,eval a X.env),(Ad,eval b X.env),(Ad,eval c X.env)])(hs2:AG [b,c] X.env=[(Ad,eval b X.env),(Ad,eval c X.env)])(hs3:AG [c] X.env=[(Ad,eval c X.env)]):
  SE X CL W (.Call (.Name "tuple" p) [.Call (.Name "zip" p') [a,b,c] [] pos'] [] pos) (fun ρ=>((fa ρ).bind fun x=>(fb ρ).bind fun y=>(fc ρ).bind fun z=>Lc x y z).bind fun xs=>.ok (.tup xs)):=
 fun A=>PE.weak (qP hc hg hm hg' hm' (E6 (ha A) (E6 (hb A) (E6 (hd A) GU hs3) (by rw[hs2,hs3])) (by rw[hs,hs2])) hs hs2) fun σ H Q ⟨hA,ρ,g,q⟩=>by
  simp only[R.bind_assoc]at q;refine⟨hA,ρ,g,Bt.bind q fun d v H1 _ s1 r1 p1=>⟨hA.same s1,ρ,g.same s1,Bt.bind p1 fun d2 v2 H2 _ s2 r2 p2=>⟨(hA.same s1).same s2,ρ,(g.same s1).same s2,Bt.bind p2 fun d3 v3 H3 _ s3 r3 p3=>?_⟩⟩⟩
  unfold Lc at p3;cases e1:Co d with
  |bad=>rw[e1]at p3;exact p3.elim
  |exn z=>exact absurd e1 (by cases d<;>simp[Co])
  |ok ds=>
   cases e2:Co d2 with
   |bad=>rw[e1,e2]at p3;exact p3.elim
   |exn z=>exact absurd e2 (by cases d2<;>simp[Co])
   |ok es=>
    cases e3:Co d3 with
    |bad=>rw[e1,e2,e3]at p3;exact p3.elim
    |exn z=>exact absurd e3 (by cases d3<;>simp[Co])
    |ok fs=>
     rw[e1,e2,e3]at p3;simp only[R.bind_ok]at p3;obtain⟨t1,c1,xs,rfl,k1,rs1⟩:=K6 ((r1.same s2).same s3) e1;obtain⟨t2,c2,ys,rfl,k2,rs2⟩:=K6 (r2.same s3) e2;obtain⟨t3,c3,us,rfl,k3,rs3⟩:=K6 r3 e3;split at p3
     ·rename_i hn;obtain⟨n0,nn,ny,nz⟩:=hn;rw[<-rs1.length]at n0 nn ny nz;rw[<-rs2.length]at ny;rw[<-rs3.length]at nz;refine⟨t1,t2,t3,c1,c2,c3,xs,ys,us,rfl,k1 H3 (Kp.of (AN.refl H3)),k2 H3 (Kp.of (AN.refl H3)),k3 H3 (Kp.of (AN.refl H3)),n0,nn,ny,nz,fun as T el nd fr hT fT=>?_⟩
      have hA3:AOk H3 A:=((hA.same s1).same s2).same s3;have fr':∀ q∈(T,as.map V.ref)::as.zip (Hl xs ys us),H3 q.1=Af:=fun q hq=>by
       rcases Aw.mp hq with rfl|hq
       ·exact fT
       ·obtain⟨j,h1,h2⟩:=MT (a:=q.1) (b:=q.2) hq;exact fr _ (DA h1)
      have sm:AN H3 (IB H3 ((T,as.map V.ref)::as.zip (Hl xs ys us))):=fun b o e=>by
       rw[Tz fun q hq z=>by rw[<-z,fr' q hq]at e;cases e]
       exact e
      refine p3 _ _ sm ⟨T,as.map V.ref,rfl,.inl (hA3.new fT),SqT.of ?_,Sw hA3 sm (fun j a r h1 h2=>?_) fr el ny nz rs1 rs2 rs3⟩
      ·unfold IB;rw[Xf]
      ·have na:a≠T:=fun e=>by subst e;exact hT (DA h1)
       unfold IB;rw[B5,GJ na,Vw nd h1 h2]
     ·exact p3.elim
end
section
variable{X:Cx}{CL:ClA}{W:XW}{pos p tpos:Bb}{a b c:Ar}{fa fb fc:Rho->R D}{x:Ak}
end
section
variable{X:Cx}{CL:ClA}{W:XW}{a:Ar}{fa:Rho->R D}
end
section
variable{X:Cx}{CL:ClA}{W:XW}
end
noncomputable def K9(lo:Ae)(n:Ag):Ac V:=(Bk n).map fun(k:Ag)=>V.int (lo+(k:Ae))
theorem ZR(lo:Ae)(n:Ag):(K9 lo n).length=n:=by simp[K9]
theorem aE(lo:Ae)(n:Ag):Reps K CL H A (K9 lo n) (Ch lo n):=by
 have key:∀ L:Ac Ag,Reps K CL H A (L.map fun(k:Ag)=>V.int (lo+(k:Ae))) (L.map fun(k:Ag)=>D.int (lo+(k:Ae))):=fun L=>by
  induction L with
  |nil=>exact trivial
  |cons x L ih=>exact⟨rfl,ih⟩
 exact key _
theorem aD(h:ItemsOf (fun i v=>∃ t,v=.int (lo+i*1) t) acc n):Br (K9 lo n) acc.toList:=by
 obtain⟨h1,h2⟩:=h;have key:∀(L:Ac Ai)(m:Ag),(∀(j:Ag)(v:Ai),L[j]?=Ab v->∃ t,v=.int (lo+((m+j:Ag):Ae)) t)->Br ((Il m L.length).map fun(k:Ag)=>V.int (lo+(k:Ae))) L:=fun L=>by
  induction L with
  |nil=>intro m _;exact .nil
  |cons v L ih=>
   intro m h;obtain⟨t,rfl⟩:=h 0 v rfl;refine .cons ⟨t,rfl⟩ (ih (m+1) fun j w hw=>?_)
   obtain⟨u,rfl⟩:=h (j+1) w hw;exact⟨u,by rw[show m+1+j=m+(j+1) by omega]⟩
 have k:=key acc.toList 0 fun j v hv=>by
  obtain⟨t,rfl⟩:=h2 j v (by rw[<-DW];exact hv)
  exact⟨t,by rw[DN,Xy]⟩
 rw[CF,h1,<-List.range_eq_range']at k;exact k
section
variable{X:Cx}
def Y4(ta:TA):TE:=fun σ H Q=>ta σ H fun vs H1=>∃ i j:Ae,vs=[.int i,.int j]/\(-(2 ^ 62)<=i/\i<2 ^ 62/\-(2 ^ 62)<=j/\j<2 ^ 62)/\(j-i).toNat<=2 ^ 24/\(j-i).toNat<=sizeLine/\∀ l,H1 l=Af->Q (.ref l) (upd H1 l (.lst (K9 i (j-i).toNat)))
theorem qN{a b:Ar}{p':Bb}(hc:X.calm=Aa)(hg:Gl X "list")(hm:X.mg "list" = Af)(hg':Gl X "range")(hm':X.mg "range" = Af)(ha:PA X [a,b] ta)(hs:AG [a,b] X.env=[(Ad,eval a X.env),(Ad,eval b X.env)])(hs2:AG [b] X.env=[(Ad,eval b X.env)]):
  PE X (.Call (.Name "list" p) [.Call (.Name "range" p') [a,b] [] pos'] [] pos) (Y4 ta):=by
 intro pI s σ H Q I h;refine Hu (GW I hg hm F3 (BR ?_ rfl rfl));show Az _ _ (spliced ((Ad,eval (.Call (.Name "range" p') [a,b] [] pos') X.env)::CQ pos (AG [] X.env))) _ _ s;refine FE ?_;refine Hu (GW I hg' hm' Kh (BR (thn (ha pos' pI s σ H _ I h) fun us s1 ⟨vs,H1,I1,r1,q1⟩=>?_) (by rw[hs,hs2]) (by rw[hs2];rfl)))
 obtain⟨i,j,e,⟨b1,b2,b3,b4⟩,hn,hz,q⟩:=q1;subst e;cases r1 with
 |cons r rr=>
  cases rr with
  |cons r' rr=>
   cases rr;obtain⟨t,rfl⟩:=r;obtain⟨t',rfl⟩:=r';refine call_range_2 (FT ?_);refine call_list_range (n:=(j-i).toNat) (I1.ok.hd hc) (Yh ..) (small_one b1 b2 b3 b4) (by rw[rangeSize_one];split<;>omega) hn fun h' tk acc c' kp e it=>?_
   have e':=aD it;refine⟨.ref (s1.heap.push { cls:=.type "range", data:=.fields #[.int i t,.int j t',.int 1 s1.toks] }).objs.size,_,I1.laid (t':=tk) (fun b o e=>kp b o (As _ e)) ?_ (show ObjOk X.prog X.w _ h' _ (.lst (K9 i (j-i).toNat)) from ⟨by rw[ZR];exact hz,acc.toList,c',e',by rw[Gk];exact e⟩),rfl,q _ (I1.hok.fresh ?_)⟩
   ·rw[Bz];exact F0 _
   ·rw[Bz];exact F0 _
noncomputable def RC(x y:D):R D:=(E1 x).bind fun i=>(E1 y).bind fun j=>(C5 i j).bind fun xs=>.ok (.lst xs)
variable{CL:ClA}{W:XW}{pos p pos' p':Bb}{a b:Ar}{fa fb:Rho->R D}
theorem pX(ha:ST X CL W a fa)(hb:ST X CL W b fb)(hc:X.calm=Aa)(hg:Gl X "list")(hm:X.mg "list" = Af)(hg':Gl X "range")(hm':X.mg "range" = Af)(hs:AG [a,b] X.env=[(Ad,eval a X.env),(Ad,eval b X.env)])(hs2:AG [b] X.env=[(Ad,eval b X.env)]):
  SC X CL W Aa (.Call (.Name "list" p) [.Call (.Name "range" p') [a,b] [] pos'] [] pos) (fun ρ=>(fa ρ).bind fun x=>(fb ρ).bind fun y=>RC x y):=fun A pI s σ H Q I h=>by
 obtain⟨hA,ρ,g,pp⟩:=h;refine qN hc hg hm hg' hm' (E6 (ha A) (E6 (hb A) GU hs2) (by rw[hs,hs2])) hs hs2 pI s σ H Q I ?_
 refine⟨hA,ρ,g,Bt.bindF pp fun dx x H1 _ s1 r1 p1=>⟨hA.same s1,ρ,g.same s1,Bt.bind (Rq:=Em X.K CL Aa H A) p1 fun dy y H2 _ s2 r2 p2=>?_⟩⟩
 cases dx with
 |int i=>
  cases dy with
  |int j=>
   have e:=r1.int_of;have e':=r2.int_of;subst e e';have p3:Bt (Em X.K CL Aa H A) W H2 ((C5 i j).bind fun xs=>.ok (.lst xs)) Q:=p2
   cases e2:C5 i j with
   |ok ds=>
    rw[e2]at p3;obtain⟨h1,h2,rfl,hz⟩:=Pl e2;rw[Jy]at hz;refine⟨i,j,rfl,⟨h1.1,h1.2,h2.1,h2.2⟩,by rw[CO]at hz;omega,hz,fun l hl=>?_⟩
    exact p3 _ _ (FV hl _) (Jz (s1.trans s2) ((hA.same s1).same s2) hl (aE i _))
   |exn y=>exact(OK e2).elim
   |bad=>rw[e2]at p3;exact p3.elim
  |_=>exact p2.elim
 |_=>exact p2.elim
end
section
variable{X:Cx}{CL:ClA}{W:XW}{e o o' k l:Ar}{fe:Rho->R Ov.D}{i ik il:Ag}{pos spos spos' tpos:Bb}{kt:Ag}
theorem Tr{k:Ag}{j:Ae}(h:HW ρ k=.ok j):ρ[k]?=Ab (Ab (.int j,Ad)):=by
 unfold HW Fa at h;split at h
 ·rename_i d hd;cases d<;>first|(cases h;exact hd)|cases h
 ·cases h
theorem Th{k:Ag}{z:Ex}(h:HW ρ k=.exn z):BN:=by
 unfold HW Fa at h;split at h
 ·rename_i d hd;cases d<;>cases h
 ·cases h
theorem pS(hc:X.calm=Aa)(ho:PE X o (G6 i))(ho':PE X o' (G6 i))(hk:PE X k (G6 ik))(hl:PE X l (G6 il))(he:SE X CL W e fe)(ha:∀ v,assign (.Subscript o k spos) X.env v=(do
      let ov <-holding [v] (eval o X.env)
      let iv <-holding [v,ov] (eval k X.env)
      Hx spos
      holding [v,ov,iv] (JM ov iv v)
      release [v,ov,iv] []))(ha':∀ v,assign (.Subscript o' l spos') X.env v=(do
      let ov <-holding [v] (eval o' X.env)
      let iv <-holding [v,ov] (eval l X.env)
      Hx spos'
      holding [v,ov,iv] (JM ov iv v)
      release [v,ov,iv] []))(hs:F8 [.Tuple [.Subscript o k spos,.Subscript o' l spos'] kt tpos] e pos.line X.env=pure Ad)(hw:D5 [.Tuple [.Subscript o k spos,.Subscript o' l spos'] kt tpos] e X.env=pure Af):SS X CL W (.Assign [.Tuple [.Subscript o k spos,.Subscript o' l spos'] kt tpos] e pos) (fun ρ=>O.of ρ (fe ρ) fun d=>NV ρ d i ik il):=fun Fz B pI s σ H D I ⟨ρ,x,p⟩=>
  Qk (he (CP B ρ σ)) (Nz hc (M8 (Qm ho hk Pv ha) (M8 (Qm ho' hl Pv ha') Pz))) hs hw rfl pI s σ H D I ⟨x.aok,ρ,x.good,CJ.ex x p fun d v H' _ s rv x' q'=>by
    cases d with
    |tup es=>
     cases es with
     |nil=>exact q'.elim
     |cons dx es=>
      cases es with
      |nil=>exact q'.elim
      |cons dy es=>
       cases es with
       |cons _ _=>exact q'.elim
       |nil=>
        have q':CJ X.K CL Fz B W (O.of ρ (Dj ρ i) fun xs=>O.of ρ (HW ρ ik) fun a=>O.of ρ (HW ρ il) fun b=>match plD xs.length a,plD xs.length b with
          |some m,Ab n=>.next (ρ.set i (Ab (.lst ((xs.set m dx).set n dy),Aa)))
          | _,_=>.bad) D:=q'
        obtain⟨t,vs,rfl,_,sq,r⟩:=rv;cases vs with
        |nil=>exact r.elim
        |cons vx vs=>
         cases vs with
         |nil=>exact r.2.elim
         |cons vy vs=>
          cases vs with
          |cons _ _=>exact r.2.2.elim
          |nil=>
            obtain⟨rx,ry,_⟩:=r;cases e1:Dj ρ i with
            |bad=>rw[e1]at q';exact q'.elim
            |exn z=>exact(L6 e1).elim
            |ok ds=>
              rw[e1,O.of_ok]at q';have hi:=Ma e1;obtain⟨a,xs,ds',q,e2,ha,hh,rr⟩:=x'.good.ow i _ hi;cases e2;cases e3:HW ρ ik with
              |bad=>rw[e3]at q';exact q'.elim
              |exn z=>exact(Th e3).elim
              |ok j=>
                rw[e3,O.of_ok]at q';obtain⟨w1,qk,rk⟩:=x'.good.sh ik _ (Tr e3);subst rk;cases e4:HW ρ il with
                |bad=>rw[e4]at q';exact q'.elim
                |exn z=>exact(Th e4).elim
                |ok j'=>
                  rw[e4,O.of_ok]at q';obtain⟨w2,ql,rl⟩:=x'.good.sh il _ (Tr e4);subst rl;cases e5:plD ds.length j with
                  |none=>rw[e5]at q';exact q'.elim
                  |some m=>
                    cases e6:plD ds.length j' with
                    |none=>rw[e5,e6]at q';exact q'.elim
                    |some n=>
                      rw[e5,e6]at q';have lx:=rr.length;refine⟨t,[vx,vy],rfl,sq,rfl,vx,[vy],rfl,_,q,_,qk,a,xs,j,m,rfl,rfl,hh,by rw[lx];exact e5,vy,[],rfl,_,q,_,ql,a,xs.set m vx,j',n,rfl,rfl,HJ,by rw[BE,lx];exact e6,rfl,?_⟩
                      have uu:L2.upd (L2.upd H' a (.lst (xs.set m vx))) a (.lst ((xs.set m vx).set n vy))=L2.upd H' a (.lst ((xs.set m vx).set n vy)):=by
                        funext b
                        by_cases hb:b=a
                        · subst hb;rw[HJ,HJ]
                        · rw[Di hb,Di hb,Di hb]
                      rw[uu];exact q' _ _ (x'.upd hi q (Reps.set ry n (Reps.set rx m rr)))
    | _=>exact q'.elim⟩
end
section
variable{prog:A9}{w:AK}{A:Bx}{E:Vq}{s:Ap}
theorem SM{it t:Al}{items:AR Ai}(hne:t≠it):∀(n i:Ag)(s:Ap)(Q:Ac Ai->Ap->Prop),s.heap.IsListIter it t i->s.heap.IsList t items->i+n<=items.size->(∀ h',h'.IsListIter it t (i+n)->EZ it s.heap h'->Q ((items.toList.drop i).take n) {s with heap:=h'})->Az (model prog w) A (draw (.ref it) n) Q E s
 |0,i,s,Q,hit,_,_,hQ=>by
  show Az _ _ (pure []) Q E s;exact Av (by simpa using hQ s.heap hit (Yd ..))
 |n+1,i,s,Q,hit,ht,hle,hQ=>by
  have hlt:i<items.size:=by omega
  show Az _ _ (Ea (.ref it) >>= _) Q E s;refine Ah (YO hit ht (x:=items[i]) (by simp[hlt]) fun h₁ hit₁ hs₁=>?_)
  refine Ah (Cf (SM hne n (i+1) _ _ hit₁ (ht.extBut hs₁.extBut hne) (by omega) fun h₂ hit₂ hs₂=>Av ?_))
  have hd:items.toList.drop i=items[i]::items.toList.drop (i+1):=by simp[Fo,hlt]
  have:=hQ h₂ (by rw[show i+(n+1)=i+1+n by omega];exact hit₂) (hs₁.trans hs₂)
  rw[hd,List.take_succ_cons]at this;exact this
theorem ZC{t:Al}{Q:Ac Ai->Ap->Prop}(hh:A.handled=Af)(ht:s.heap.IsList t items)(hQ:∀ h',Im s.heap.objs.size s.heap h'->Q items.toList {s with heap:=h'}):Az (model prog w) A (unpackItems (.ref t) items.size Af) Q E s:=by
 have hlt:t≠s.heap.objs.size:=by obtain⟨o,ho,_⟩:=ht;exact A1 (AF ho)
 have htp:(s.heap.push { cls:=.type "list_iterator", data:=.fields #[.ref t,.int 0 0] }).IsList t items:=by
  obtain⟨o,ho,r⟩:=ht;exact⟨o,As _ ho,r⟩
 unfold unpackItems;refine Ah ?_
 ·unfold notIterableAtAll;refine Ah (Ik ht.typeIs slot_list_iter.lookup ?_);refine Av ?_;simp only[Fx,G7];refine Ah (Cf (Eb ht ?_));refine Ah (Cf (SM hlt items.size 0 _ _ ⟨_,AC _ rfl,rfl,rfl⟩ htp (by omega) fun h₁ hit₁ hs₁=>?_))
  have hall:List.take items.size (List.drop 0 items.toList)=items.toList:=by
   rw[List.drop_zero];exact List.take_of_length_le (by simp)
  rw[hall];rw[AH (by simp)]
  have ht₁:h₁.IsList t items:=htp.extBut hs₁.extBut hlt;refine Ah (Cf (YN hh hit₁ ht₁ (by simp) fun h₂ he₂=>?_))
  simp only[Option.isSome_none,Fx,G7];refine Av (hQ h₂ fun b o hb e=>he₂ b o hb (hs₁.extBut b o hb (As _ e)))
theorem ZE{elts:Ac Ar}{x1}{t:Al}{Q:JS->Ap->Prop}(hh:A.handled=Af)(ht:s.heap.IsList t items) (hn:(CA elts env).length=items.size) (hstar:(CA elts env).findIdx? (·.1)=Af) (h:∀ h',Im s.heap.objs.size s.heap h'->Az (model prog w) A (assignInOrder ((CA elts env).map (·.2)) items.toList) Q E {s with heap:=h'}):Az (model prog w) A (assign (.Tuple elts x1 pos) env (.ref t)) Q E s:=by
 rw[assign_Tuple];refine Ah (Hg ?_);unfold unpack;rw[hn,hstar];exact Ah (Cf (ZC hh ht h))
end
section
variable{X:Cx}{pos:Bb}{CL:ClA}
def gSq(K:Fg)(n:Ag)(t:TGs):TG:=fun v σ H Q=>Lk K n t v σ H Q\/∃ a xs,v=.ref a/\SqL K H a xs/\xs.length=n/\t xs σ H Q
theorem yT{t:TGs}(hc:X.calm=Aa)(h:PGs X es t)(hn:(CA es X.env).length=n)(hst:(CA es X.env).findIdx? (·.1)=Af):PG X (.Tuple es k pos) (gSq X.K n t):=by
 intro pI s σ H v u Q I r hw;rcases hw with hw|hw
 ·exact Nz hc h hn hst pI s σ H v u Q I r hw
 ·obtain⟨a,xs,e1,hq,hl,hw⟩:=hw;subst e1;cases r;obtain⟨its,rv,ht,hz⟩:=I.list hq;refine ZE (I.ok.hd hc) ht.isList (by simp[hn,<-hl,rv.length]) hst fun h' hx=>?_
  have I1:Inv X pI σ H {s with heap:=h'}:=I.kept (t':=s.toks) fun b o e=>hx b o (A1 (AF e)) e
  exact h pI _ σ H xs _ Q I1 (by simpa using rv) hw
theorem yF(ts:Ac Ag):GT K CL (Hm ts) (gSq K ts.length (ts.foldr (fun t u=>HX (Fn t) u) Ib)):=fun Fz B ρ σ H v d ρ' Q x r e k=>by
 cases d with
 |lst ds=>
  obtain⟨a,xs,rfl,na,sq,rs⟩:=r;rw[bW]at e;cases e2:E5 ts ds ρ with
  |none=>rw[e2]at e;cases e
  |some ρ2=>
   rw[e2]at e;cases e;exact .inr ⟨a,xs,rfl,sq,by rw[rs.length];exact MQ _ _ _ _ e2,QF ts ds xs ρ _ σ Q x rs e2 k⟩
 |_=>exact .inl (U8 ts Fz B ρ σ H v _ ρ' Q x r e k)
end
section
variable{X:Cx}{CL:ClA}{W:XW}
end
end Ov
namespace Ov
open PySem PySem.W PyProof.Rows
variable{p:AR Ag}{m x y l k n:Ag}{Q:Ag×AR Ag->Prop}{G:AR Ag->Ap->Prop}{s:Ap}{vs:Ac Ai}{v:Ai}{r:Ac Ae}{rs:Ac (Ac Ae)}
def Kr{α:Type}(lt:Ag->Ag->Ao)(n:Ag):KasT α->(α->Prop)->Prop
 |.ret a,Q=>Q a
 |.ask i j k,Q=>i<n/\j<n/\Kr lt n (k (lt i j)) Q
theorem Kr.mono{α:Type}{lt:Ag->Ag->Ao}{n:Ag}{Q Q':α->Prop}:∀{t:KasT α},Kr lt n t Q->(∀ a,Q a->Q' a)->Kr lt n t Q'
 |.ret _,h,k=>k _ h
 |.ask i j f,h,k=>⟨h.1,h.2.1,Kr.mono (t:=f (lt i j)) h.2.2 k⟩
theorem Kr.bind{α β:Type}{lt:Ag->Ag->Ao}{n:Ag}{f:α->KasT β}{Q:β->Prop}:∀{t:KasT α},Kr lt n t (fun a=>Kr lt n (f a) Q)->Kr lt n (t.bind f) Q
 |.ret _,h=>h
 |.ask i j k,h=>⟨h.1,h.2.1,Kr.bind (t:=k (lt i j)) h.2.2⟩
theorem Kr.wp{α:Type}{lt:Ag->Ag->Ao}{n:Ag}{cmp:Ag->Ag->(Ao->Ap->Prop)->Ap->Prop}{s:Ap}(hc:∀ i j C,i<n->j<n->C (lt i j) s->cmp i j C s){Q:α->Prop}{Q':α->Ap->Prop}:∀{t:KasT α},Kr lt n t Q->(∀ a,Q a->Q' a s)->t.kasWp cmp Q' s
 |.ret _,h,k=>k _ h
 |.ask i j f,h,k=>hc i j _ h.1 h.2.1 (Kr.wp hc (t:=f (lt i j)) h.2.2 k)
structure Sto (lt:Ag->Ag->Ao) (n:Ag):Prop where
 tr:∀ i j k,i<n->j<n->k<n->lt i j=Aa->lt j k=Aa->lt i k=Aa
 tot:∀ i j,i<n->j<n->i≠j->lt i j=Ad->lt j i=Aa
 asy:∀ i j,i<n->j<n->lt i j=Aa->lt j i=Ad
noncomputable def at0(p:AR Ag)(x:Ag):Ag:=p.getD x 0
structure Pm (n:Ag) (p:AR Ag):Prop where
 sz:p.size=n
 lt:∀ x,x<n->at0 p x<n
 inj:∀ x y,x<n->y<n->at0 p x=at0 p y->x=y
section
variable{lt:Ag->Ag->Ao}{n:Ag}
def El(lt:Ag->Ag->Ao)(p:AR Ag)(m:Ag):Prop:=∀ x y,x<y->y<m->lt (at0 p x) (at0 p y)=Aa
def JJ(lt:Ag->Ag->Ao)(p:AR Ag)(m:Ag):Prop:=∀ x y,x<y->y<m->lt (at0 p y) (at0 p x)=Aa
theorem El.succ(S:Sto lt n)(hp:Pm n p)(h1:1<=m)(hm:m<n)(h:El lt p m)(e:lt (at0 p (m-1)) (at0 p m)=Aa):El lt p (m+1):=fun x y hxy hy=>by
 by_cases hym:y<m
 ·exact h x y hxy hym
 ·have:y=m:=by omega
  subst this;by_cases hx:x=y-1
  ·rw[hx];exact e
  ·exact S.tr _ _ _ (hp.lt _ (by omega)) (hp.lt _ (by omega)) (hp.lt _ hm) (h x (y-1) (by omega) (by omega)) e
theorem JJ.succ(S:Sto lt n)(hp:Pm n p)(h1:1<=m)(hm:m<n)(h:JJ lt p m)(e:lt (at0 p m) (at0 p (m-1))=Aa):JJ lt p (m+1):=fun x y hxy hy=>by
 by_cases hym:y<m
 ·exact h x y hxy hym
 ·have:y=m:=by omega
  subst this;by_cases hx:x=y-1
  ·rw[hx];exact e
  ·exact S.tr _ _ _ (hp.lt _ hm) (hp.lt _ (by omega)) (hp.lt _ (by omega)) e (h x (y-1) (by omega) (by omega))
theorem NH(S:Sto lt n){p:AR Ag}(hp:Pm n p):∀(f m:Ag){Q:Ag->Prop},1<=m->m+f<=n->El lt p m->(∀ m',m<=m'->m'<=m+f->El lt p m'->(m'=m+f\/lt (at0 p m') (at0 p (m'-1))=Aa)->Q m')->Kr lt n (kas_asc p f m) Q
 |0,m,Q,h1,hf,hs,k=>k m (AS _) (by omega) hs (.inl (by omega))
 |f+1,m,Q,h1,hf,hs,k=>by
  refine⟨hp.lt _ (by omega),hp.lt _ (by omega),?_⟩
  cases e:lt (p.getD m 0) (p.getD (m-1) 0) with
  |true=>
   dsimp only;rw[Ay rfl];exact k m (AS _) (by omega) hs (.inr e)
  |false=>
   dsimp only;rw[AH AI];have ne:at0 p m≠at0 p (m-1):=fun z=>by have:=hp.inj _ _ (by omega) (by omega) z;omega
   have hs':=hs.succ S hp h1 (by omega) (S.tot _ _ (hp.lt _ (by omega)) (hp.lt _ (by omega)) ne e)
   exact NH S hp f (m+1) (by omega) (by omega) hs' fun m' a b c d=>k m' (by omega) (by omega) c (d.imp (fun z=>by omega) id)
theorem Vz(S:Sto lt n){p:AR Ag}(hp:Pm n p):∀(f m:Ag){Q:AR Ag×Ag×Ag->Prop},1<=m->m+f<=n->JJ lt p m->(∀ m',m<=m'->m'<=m+f->JJ lt p m'->Q (p,m',0))->Kr lt n (kas_desc f p m 0) Q
 |0,m,Q,h1,hf,hs,k=>k m (AS _) (by omega) hs
 |f+1,m,Q,h1,hf,hs,k=>by
  refine⟨hp.lt _ (by omega),hp.lt _ (by omega),?_⟩
  cases e:lt (p.getD m 0) (p.getD (m-1) 0) with
  |true=>
   dsimp only;rw[Ay rfl,AH (by omega)]
   exact Vz S hp f (m+1) (by omega) (by omega) (hs.succ S hp h1 (by omega) e) fun m' a b c=>k m' (by omega) (by omega) c
  |false=>
   dsimp only;rw[AH AI];have ne:at0 p m≠at0 p (m-1):=fun z=>by have:=hp.inj _ _ (by omega) (by omega) z;omega
   refine⟨hp.lt _ (by omega),hp.lt _ (by omega),?_⟩
   have e2:lt (p.getD (m-1) 0) (p.getD m 0)=Aa:=S.tot _ _ (hp.lt _ (by omega)) (hp.lt _ (by omega)) ne e
   rw[e2];dsimp only;rw[Ay rfl];exact k m (AS _) (by omega) hs
theorem Mc{q:AR Ag}(h:p[x]?=q[y]?):p.getD x 0=q.getD y 0:=by
 rw[DP,DP,h]
theorem Qt(hm:m<=p.size)(x:Ag):at0 (Kw p 0 m) x=if x<m then at0 p (m-1-x) else at0 p x:=by
 have e:=getElem?_mirror_all (xs:=p) (i:=0) (j:=m) hm x;by_cases h:x<m
 ·rw[Ay h];rw[Ay (by omega)]at e
  rw[show 0+m-1-x=m-1-x by omega]at e
  exact Mc e
 ·rw[AH h];rw[AH (by omega)]at e
  exact Mc e
theorem wT(h:(if x<m then m-1-x else x)=(if y<m then m-1-y else y)):x=y:=by
 split at h<;>split at h<;>omega
theorem Vp(hp:Pm n p)(hm:m<=n):Pm n (Kw p 0 m):=by
 have hs:m<=p.size:=by rw[hp.sz];exact hm
 have at_:∀ x,at0 (Kw p 0 m) x=at0 p (if x<m then m-1-x else x):=fun x=>by
  rw[Qt hs];split<;>rfl
 have lt_:∀ x,x<n->(if x<m then m-1-x else x)<n:=fun x hx=>by
  split
  ·rename_i h;exact BU (Kf _ _) (AD (Kg (BU (CW _) h) JP) hm)
  ·exact hx
 refine⟨(mirror_size _ _ _ _).trans hp.sz,fun x hx=>?_,fun x y hx hy e=>?_⟩
 ·rw[at_];exact hp.lt _ (lt_ x hx)
 ·rw[at_,at_]at e;exact wT (hp.inj _ _ (lt_ x hx) (lt_ y hy) e)
theorem oA(hp:Pm n p)(hm:m<=n)(h:JJ lt p m):El lt (Kw p 0 m) m:=fun x y hxy hy=>by
 have hs:m<=p.size:=by rw[hp.sz];exact hm
 rw[Qt hs,Qt hs,Ay (by omega),Ay hy]
 exact h _ _ (by omega) (by omega)
theorem lU(S:Sto lt n)(hp:Pm n p)(h1:1<=m)(hm:m<=n)(h:JJ lt p m)(k:∀ m' q,m<=m'->m'<=n->Pm n q->El lt q m'->Q (m',q)):Kr lt n (kas_tail3 m n p) Q:=by
 refine Kr.bind (NH S (Vp hp hm) (n-m) m h1 (by omega) (oA hp hm h) fun m' a b c _=>?_)
 exact k m' _ a (by omega) (Vp hp hm) c
theorem lV(S:Sto lt n)(hp:Pm n p)(h2:2<=n)(k:∀ m' q,1<=m'->m'<=n->Pm n q->El lt q m'->Q (m',q)):Kr lt n (Jp n p) Q:=by
 refine Kr.bind (NH S hp (n-1) 1 (AS _) (HE (Xq (BK (by decide) h2))) (fun x y a b=>absurd (BU (CW x) a) (EO.mpr (D8 b))) fun m a b c d=>?_)
 have b':m<=n:=BK b (HE (Xq (BK (by decide) h2)))
 by_cases e:m=n
 ·rw[Ay (by simp[e])]
  exact k m p a b' hp c
 ·rw[AH (by simp[e])]
  by_cases g:m > 1
  ·rw[Ay g];have m1:m-1<m:=Kg a JP;refine⟨hp.lt _ (AD a b'),hp.lt _ (AD m1 b'),?_⟩;have c0:lt (p.getD 0 0) (p.getD (m-1) 0)=Aa:=c 0 (m-1) (Nat.sub_pos_of_lt g) m1;rw[c0];dsimp only;rw[Ay rfl];exact k m p a b' hp c
  ·rw[AH g];have m1:m=1:=Ig (Nat.le_of_not_lt g) a;subst m1;have e1:lt (at0 p 1) (at0 p 0)=Aa:=by
    rcases d with d|d
    ·omega
    ·exact d
   have d2:JJ lt p 2:=fun x y hxy hy=>by
    have:x=0/\y=1:=by omega
    obtain⟨rfl,rfl⟩:=this;exact e1
   refine Kr.bind (Vz S hp (n-(1+1)) (1+1) (by omega) (by omega) d2 fun m' a' b' c'=>?_)
   show Kr lt n (if (0:Ag) > 0 then _ else kas_tail3 m' n p) Q
   rw[AH (by omega)]
   exact lU S hp (by omega) (by omega) c' fun m'' q x1 x2 x3 x4=>k m'' q (by omega) x2 x3 x4
theorem qC{r:Ag}(h:l<r):∃ m,(l+r) / 2=m/\l<=m/\m<r:=⟨_,rfl,by omega,by omega⟩
theorem PN(S:Sto lt n){p:AR Ag}(hp:Pm n p){k:Ag}(hk:k<n)(hs:El lt p k):∀(f l r:Ag){Q:Ag->Prop},l<=r->r<=k->r-l<=f->(∀ x,x<l->lt (at0 p x) (at0 p k)=Aa)->(∀ x,r<=x->x<k->lt (at0 p k) (at0 p x)=Aa)->(∀ l',l'<=k->(∀ x,x<l'->lt (at0 p x) (at0 p k)=Aa)->(∀ x,l'<=x->x<k->lt (at0 p k) (at0 p x)=Aa)->Q l')->Kr lt n (kas_place p k f l r) Q
 |0,l,r,Q,h1,h2,h3,ha,hb,q=>q l (BK h1 h2) ha fun x hx=>hb x (BK (Xr (Nat.le_zero.mp h3)) hx)
 |f+1,l,r,Q,h1,h2,h3,ha,hb,q=>by
  unfold kas_place;by_cases g:l ≥ r
  ·rw[Ay g];exact q l (BK h1 h2) ha fun x hx=>hb x (BK g hx)
  ·rw[AH g];obtain⟨m,em,m1,m2⟩:=qC (Xu g);rw[em];have hm:m<k:=AD m2 h2;have hmn:m<n:=FD hm hk;refine⟨hp.lt _ hk,hp.lt _ hmn,?_⟩;cases e:lt (p.getD k 0) (p.getD m 0) with
   |true=>
    dsimp only;rw[Ay rfl];refine PN S hp hk hs f l m m1 (DR hm) (D8 (AD (Xx m1 m2) h3)) ha (fun x hx hxk=>?_) q
    by_cases hxm:x=m
    ·rw[hxm];exact e
    ·exact S.tr _ _ _ (hp.lt _ hk) (hp.lt _ hmn) (hp.lt _ (FD hxk hk)) e (hs _ x (EN hx (DZ hxm)) hxk)
   |false=>
    dsimp only;rw[AH AI];have ne:at0 p k≠at0 p m:=fun z=>absurd (hp.inj _ _ hk hmn z) (CU hm)
    have e2:=S.tot _ _ (hp.lt _ hk) (hp.lt _ hmn) ne e;refine PN S hp hk hs f (m+1) r m2 h2 (D8 (AD (Nat.sub_lt_sub_left (BU m1 m2) (Nat.lt_succ_of_le m1)) h3)) (fun x hx=>?_) hb q
    by_cases hxm:x=m
    ·rw[hxm];exact e2
    ·have hx':x<m:=EN (D8 hx) hxm;exact S.tr _ _ _ (hp.lt _ (FD hx' hmn)) (hp.lt _ hmn) (hp.lt _ hk) (hs x _ hx' hm) e2
theorem QA(hk:k<p.size)(hl:l<=k)(x:Ag):at0 (bubble p k (k-l)) x=if x=l then at0 p k else if l<x/\x<=k then at0 p (x-1) else at0 p x:=by
 have e:=getElem?_bubble hk (k-l) (by omega) x
 rw[show k-(k-l)=l by omega]at e
 split
 ·rename_i h;rw[Ay h]at e;exact Mc e
 ·rename_i h;rw[AH h]at e;split
  ·rename_i g;rw[Ay g]at e;exact Mc e
  ·rename_i g;rw[AH g]at e;exact Mc e
noncomputable def IG(k l x:Ag):Ag:=if x=l then k else if l<x/\x<=k then x-1 else x
theorem eU(hl:l<=k)(h:IG k l x=IG k l y):x=y:=by
 have key:∀ z,(z=l/\IG k l z=k)\/(l<z/\z<=k/\z=IG k l z+1)\/((z<l\/k<z)/\IG k l z=z):=fun z=>by
  unfold IG;by_cases h1:z=l
  ·exact .inl ⟨h1,Ay h1⟩
  ·rw[AH h1];by_cases h2:l<z/\z<=k
   ·rw[Ay h2];exact .inr (.inl ⟨h2.1,h2.2,(Nat.succ_pred_eq_of_pos (BU (CW l) h2.1)).symm⟩)
   ·rw[AH h2];exact .inr (.inr ⟨(Nat.lt_or_gt_of_ne h1).imp id fun q=>Xu fun q'=>h2 ⟨q,q'⟩,rfl⟩)
 have k1:=key x;have k2:=key y;rw[h]at k1
 clear key h
 omega
theorem P8(hk:k<n)(hx:x<n):IG k l x<n:=by
 unfold IG;split
 ·exact hk
 ·split
  ·exact BU (Kf _ _) hx
  ·exact hx
theorem uM(hp:Pm n p)(hk:k<n)(hl:l<=k):Pm n (bubble p k (k-l)):=by
 have hs:k<p.size:=by rw[hp.sz];exact hk
 have at_:∀ x,at0 (bubble p k (k-l)) x=at0 p (IG k l x):=fun x=>by
  rw[QA hs hl];unfold IG;split
  ·rfl
  ·split<;>rfl
 refine⟨(bubble_size _ _ _).trans hp.sz,fun x hx=>?_,fun x y hx hy e=>?_⟩
 ·rw[at_];exact hp.lt _ (P8 hk hx)
 ·rw[at_,at_]at e;exact eU hl (hp.inj _ _ (P8 hk hx) (P8 hk hy) e)
theorem Wi(S:Sto lt n):∀(f:Ag){p:AR Ag}{k:Ag}{Q:AR Ag->Prop},Pm n p->k+f=n->El lt p k->(∀ q,Pm n q->El lt q n->Q q)->Kr lt n (kas_bin f p k) Q
 |0,p,k,Q,hp,hk,hs,q=>by
  have:k=n:=by omega
  subst this;exact q p hp hs
 |f+1,p,k,Q,hp,hk,hs,q=>by
  have hkn:k<n:=by omega
  have hsz:k<p.size:=by rw[hp.sz];exact hkn
  refine Kr.bind (PN S hp hkn hs k 0 k (CW _) (AS _) (Kf _ _) (fun x hx=>absurd hx (Fq _)) (fun x a b=>absurd b (EO.mpr a)) fun l hl ha hb=>?_)
  refine Wi S f (uM hp hkn hl) (by omega) (fun x y hxy hy=>?_) q
  have y2:y<=k:=D8 hy;have py:y-1<k:=AD (Kg (BU (CW _) hxy) JP) y2;rw[QA hsz hl,QA hsz hl];by_cases x1:x=l
  ·have ly:l<y:=x1 ▸ hxy;rw[Ay x1,AH (CU ly),Ay ⟨ly,y2⟩];exact hb _ (Xs ly) py
  ·rw[AH x1];by_cases x2:l<x/\x<=k
   ·have ly:l<y:=FD x2.1 hxy;rw[Ay x2,AH (CU ly),Ay ⟨ly,y2⟩];exact hs _ _ (Xx (BU (CW _) x2.1) hxy) py
   ·rw[AH x2];have xl:x<l:=EN (Nat.le_of_not_lt fun z=>x2 ⟨z,DR (AD hxy y2)⟩) x1
    by_cases y1:y=l
    ·rw[Ay y1];exact ha _ xl
    ·rw[AH y1];by_cases y3:l<y/\y<=k
     ·rw[Ay y3];exact hs _ _ (AD xl (Xs y3.1)) py
     ·rw[AH y3];exact hs _ _ hxy (AD (EN (Nat.le_of_not_lt fun z=>y3 ⟨z,y2⟩) y1) hl)
theorem KB(n:Ag):Pm n (BF (Bk n)):=by
 have e:∀ x,x<n->at0 (BF (Bk n)) x=x:=fun x hx=>by simp[at0,WI,hx]
 exact⟨by simp,fun x hx=>by rw[e x hx];exact hx,fun x y hx hy h=>by rw[e x hx,e y hy]at h;exact h⟩
theorem tE(S:Sto lt n)(h2:2<=n):Kr lt n (kas_sort n) (fun q=>Pm n q/\El lt q n):=by
 refine Kr.bind (lV S (KB n) h2 fun m q h1 hm hq hs=>?_)
 by_cases h:m<n
 ·rw[Ay h];have mx:max m 1=m:=by omega
  rw[mx];exact Wi S (n-m) hq (by omega) hs fun q a b=>⟨a,b⟩
 ·rw[AH h];have:m=n:=by omega
  subst this;exact⟨hq,hs⟩
end
theorem Vu:∀(f n r:Ag),r<=1->minRun' f n r<=n+r
 |0,n,r,_=>AS _
 |f+1,n,r,h=>by
  rw[minRun'_succ];split
  ·exact AS _
  ·have:=Vu f (n / 2) (max r (n%2)) (by omega)
   omega
section
variable{prog:A9}{w:AK}{A:Bx}{E:Vq}{κ:SortKind}{it:AR Keyed}
theorem cX{Q:JS->Lw->Ap->Prop}(h2:2<=n)(hG:∀ p' st' s',p'.size=n->IN st'=p'.map (IP it)->GP st'=Af->G p' s'->Q () st' s')(h:(Jp n (BF (Bk n))).kasWp (kas_cmp prog w A κ it) (fun r s'=>r.1=n/\G r.2 s') s):kasC (model prog w) A E Lr Q (Jq κ it (BF (Bk n))) s:=by
 obtain⟨r,rfl⟩:∃ r,n=r+2:=⟨n-2,by omega⟩
 have hrs:(BF (Bk (r+2))).size=r+2:=by simp
 rw[sortRuns'_eq];refine Gj (LH ?_);dsimp only;have hsz:(IN (Jq κ it (BF (Bk (r+2))))).size=r+2:=by
  show ((BF (Bk (r+2))).map (IP it)).size=_;rw[Array.size_map,hrs]
 have hmr:=Vu (r+2) (r+2) 0 (by omega)
 simp only[hsz];generalize minRun' (r+2) (r+2) 0=mr at *;refine Gj (kasC_range ?_);show kasC _ _ _ (forIn (0::1::Il 2 r) _ _) _ _ _;refine Lu ?_;dsimp only;rw[AH (by omega)]
 simp only[Nat.sub_zero,Xy];refine Gj (kas_count_ (by omega) (by rw[hrs];exact AS _) (fun m p' s' hm1 hm2 hp hg=>?_) h)
 have hps:p'.size=r+2:=hp.trans hrs;dsimp only;obtain⟨hm,hg'⟩:=hg;replace hm:m=r+2:=hm;subst hm;rw[AH (by omega)]
 refine Gj (LH ?_);rw[show (Lq (Jq κ it p')).back?=Af from rfl]
 dsimp only;refine Gj (kasC_modify (Jo ?_));show kasC _ _ _ (forIn (1::Il 2 r) _ _) _ _ _;refine Lu ?_;dsimp only;rw[Ay (AS _)];refine Jo ?_;dsimp only;refine Gj (kasC_range ?_);show kasC _ _ _ (forIn (0::1::Il 2 r) _ _) _ _ _;refine Lu ?_;refine Gj (LH ?_);rw[Ay (show (Lq (setPending (Jq κ it p') ((Lq (Jq κ it p')).push (0,r+2,0)))).size<=1 from AS 1)]
 refine Jo ?_;dsimp only;exact Jo (hG p' _ _ hps rfl rfl hg')
theorem jD{ks:Ac Ai}{Q:Lw->Ap->Prop}(hl:ks.length=vs.length)(h2:2<=vs.length)(hG:∀ p st' s',p.size=vs.length->IN st'=p.map (IP (ks.toArray.zip vs.toArray))->GP st'=Af->G p s'->Q st' s')(h:(Jp vs.length (BF (Bk vs.length))).kasWp (kas_ask prog w A κ ks) (fun r s'=>r.1=vs.length/\G r.2 s') s):Az (model prog w) A ((Lr).run (Gu κ (ks.toArray.zip vs.toArray) #[] 7 Af)) (fun r s'=>Q r.2 s') E s:=by
 rw[kat_ask_eq hl]at h;have run:=cX (E:=E) (Q:=fun _ st' s'=>Q st' s') h2 hG h
 have est:Gu κ (ks.toArray.zip vs.toArray) #[] 7 Af=Jq κ (ks.toArray.zip vs.toArray) (BF (Bk vs.length)):=by
  have e:=kas_range (ks.toArray.zip vs.toArray);rw[show (ks.toArray.zip vs.toArray).size=vs.length by simp[hl]]at e
  show Gu κ (ks.toArray.zip vs.toArray) #[] 7 Af=Gu κ ((BF (Bk vs.length)).map (IP (ks.toArray.zip vs.toArray))) #[] 7 Af;rw[e]
 rw[est];exact run
end
section
variable{lt:Ag->Ag->Ao}{n:Ag}
theorem ZS(S:Sto lt n)(h2:2<=n)(hs:El lt (BF (Bk n)) n):Kr lt n (Jp n (BF (Bk n))) (fun r=>r.1=n/\Pm n r.2/\El lt r.2 n):=by
 refine Kr.bind (NH S (KB n) (n-1) 1 (AS _) (by omega) (fun x y a b=>by omega) fun m a b c d=>?_)
 have e:m=n:=by
  rcases d with d|d
  ·omega
  ·refine Ef fun ne=>?_
   have q:=hs (m-1) m (by omega) (by omega)
   have:=S.asy _ _ ((KB n).lt _ (by omega)) ((KB n).lt _ (by omega)) q
   rw[this]at d;cases d
 rw[Ay (by simp[e])]
 subst e;exact⟨rfl,KB _,hs⟩
end
def Iq(h:AT)(v:Ai)(r:Ac Ae):Prop:=∃ a its,v=.ref a/\JK h a its/\Gh its.toList r/\r≠[]
theorem Iq.kept{h h':AT}(t:Iq h v r)(k:∀ b o,h.get? b=Ab o->h'.get? b=Ab o):Iq h' v r:=by
 obtain⟨a,its,e,⟨o,ho,q⟩,i,n⟩:=t;exact⟨a,its,e,⟨o,k _ _ ho,q⟩,i,n⟩
noncomputable def Cd:Ac Ae->Ac Ae->Ao
 |[],[]=>Ad
 |[],_::_=>Aa
 |_::_,[]=>Ad
 |x::xs,y::ys=>if x=y then Cd xs ys else decide (x<y)
section
variable{prog:A9}{w:AK}{A:Bx}{E:Vq}{s:Ap}
theorem Vy{C:Ao->Ap->Prop}:∀{vs us:Ac Ai}{r q:Ac Ae}(i:Ag),Gh vs r->Gh us q->C (Cd r q) s->KatLex prog w A Aa (decide (vs.length<us.length)) C (vs.zip us) i s
 |[],[],[],[],i,_,_,h=>by
  have h':C Ad s:=h;exact kat_nil h'
 |[],u::us,[],y::q,i,_,_,h=>by
  have h':C Aa s:=h;refine kat_nil ?_;have e:decide (([]:Ac Ai).length<(u::us).length)=Aa:=by simp
  rw[e];exact h'
 |v::vs,[],x::r,[],i,_,_,h=>by
  have h':C Ad s:=h;exact kat_nil h'
 |v::vs,u::us,x::r,y::q,i,hv,hu,h=>by
  cases hv with
  |cons _ tv hv=>
   cases hu with
   |cons _ tu hu=>
    have e0:decide ((Ih x tv::vs).length<(Ih y tu::us).length)=decide (vs.length<us.length):=by simp
    rw[e0];refine kat_cons (YI ?_);by_cases e:x=y
    ·have e1:(x==y)=Aa:=by simp[e]
     rw[e1];refine kat_yes (Vy (i+1) hv hu ?_);have h':C (if x=y then Cd r q else decide (x<y)) s:=h
     rw[Ay e]at h';exact h'
    ·have e1:(x==y)=Ad:=by simp[e]
     rw[e1];have h':C (decide (x<y)) s:=by
      have h':C (if x=y then Cd r q else decide (x<y)) s:=h
      rwa [AH e]at h'
     refine kat_no ?_;cases i with
     |zero=>exact oneLt_int h'
     |succ i=>
      have e2:(Aa&&(i+1==0))=Ad:=rfl;rw[e2];exact kat_one _ _ (wpAny_lt_int h')
 |[],_,_::_,_,_,hv,_,_=>nomatch hv
 |_::_,_,[],_,_,hv,_,_=>nomatch hv
 |_,[],_,_::_,_,_,hu,_=>nomatch hu
 |_,_::_,_,[],_,_,hu,_=>nomatch hu
theorem pG{C:Ao->Ap->Prop}{u:Ai}{q:Ac Ae}(hv:Iq s.heap v r)(hu:Iq s.heap u q)(h:C (Cd r q) s):Az (model prog w) A (keyLt' (tuples' Aa) v u) C E s:=by
 obtain⟨a,xs,rfl,⟨oa,ga,_,n,da⟩,ix,_⟩:=hv;obtain⟨b,ys,rfl,⟨ob,gb,_,m,db⟩,iy,_⟩:=hu;refine kat_lt ga da gb db ?_;have:=Vy (prog:=prog) (w:=w) (A:=A) (s:=s) 0 ix iy h;simpa using this
theorem JA:∀{r q:Ac Ae},Cd r q=Aa->Cd q r=Ad
 |[],[],h=>by cases h
 |[],_::_,_=>rfl
 |_::_,[],h=>by cases h
 |x::r,y::q,h=>by
  have h':(if x=y then Cd r q else decide (x<y))=Aa:=h
  show (if y=x then Cd q r else decide (y<x))=Ad
  by_cases e:x=y
  ·rw[Ay e]at h';rw[Ay e.symm];exact JA h'
  ·rw[AH e,AJ]at h';rw[AH (DZ e),Cu];omega
theorem Nd:∀{r q:Ac Ae},r≠q->Cd r q=Ad->Cd q r=Aa
 |[],[],n,_=>absurd rfl n
 |[],_::_,_,h=>by cases h
 |_::_,[],_,_=>rfl
 |x::r,y::q,n,h=>by
  have h':(if x=y then Cd r q else decide (x<y))=Ad:=h
  show (if y=x then Cd q r else decide (y<x))=Aa
  by_cases e:x=y
  ·rw[Ay e]at h';rw[Ay e.symm];exact Nd (fun z=>n (by rw[e,z])) h'
  ·rw[AH e,Cu]at h';rw[AH (DZ e),AJ];omega
theorem Np:∀{r q t:Ac Ae},Cd r q=Aa->Cd q t=Aa->Cd r t=Aa
 |[],[],_,h,_=>by cases h
 |_::_,[],_,h,_=>by cases h
 |_,_::_,[],_,h=>by cases h
 |[],_::_,_::_,_,_=>rfl
 |x::r,y::q,u::t,h,g=>by
  have h':(if x=y then Cd r q else decide (x<y))=Aa:=h
  have g':(if y=u then Cd q t else decide (y<u))=Aa:=g
  show (if x=u then Cd r t else decide (x<u))=Aa
  by_cases e:x=y
  ·rw[Ay e]at h';by_cases f:y=u
   ·rw[Ay f]at g';rw[Ay (e.trans f)];exact Np h' g'
   ·rw[AH f,AJ]at g';rw[AH (by omega),AJ]
    omega
  ·rw[AH e,AJ]at h';by_cases f:y=u
   ·rw[AH (by omega),AJ]
    omega
   ·rw[AH f,AJ]at g';rw[AH (by omega),AJ]
    omega
noncomputable def ltR(rs:Ac (Ac Ae))(i j:Ag):Ao:=Cd (rs.getD i []) (rs.getD j [])
theorem eF(nd:rs.Nodup):Sto (ltR rs) rs.length:=by
 refine⟨fun i j k _ _ _=>Np,fun i j hi hj ne h=>Nd (fun e=>ne ?_) h,fun i j _ _=>JA⟩
 have h':=Ei.mp nd;rw[A8,A8,AU hi,AU hj]at e;have e':rs[i]=rs[j]:=e;rcases Nat.lt_trichotomy i j with z|z|z
 ·exact absurd e' (h' i j hi hj z)
 ·exact z
 ·exact absurd e'.symm (h' j i hj hi z)
noncomputable abbrev JG(vs:Ac Ai)(p:AR Ag):AR Ai:=BF (p.toList.map fun i=>vs.getD i Dg)
theorem bE(vs:Ac Ai):JG vs (BF (Bk vs.length))=vs.toArray:=by
 apply HA.mp
 show (Bk vs.length).map (fun i=>vs.getD i Dg)=vs
 apply W3
 ·simp
 ·intro i h1 h2;simp[h2]
theorem Tk{h:AT}:∀{vs:Ac Ai}{rs:Ac (Ac Ae)},rs.length=vs.length->(∀(i:Ag)(v:Ai)(r:Ac Ae),vs[i]?=Ab v->rs[i]?=Ab r->Iq h v r)->∃ fs,KatTups h vs fs/\fs.length=vs.length/\∀ v∈fs,∃ x t,v=Ih x t
 |[],_,_,_=>⟨[],KatTups.nil,rfl,fun v hv=>by cases hv⟩
 |v::vs,[],hl,_=>by cases hl
 |v::vs,r::rs,hl,ht=>by
  obtain⟨fs,h1,h2,h3⟩:=Tk (vs:=vs) (rs:=rs) (by simpa using hl) fun i v r a b=>ht (i+1) v r a b
  obtain⟨a,its,rfl,⟨o,ho,hc,n,hd⟩,hi,hne⟩:=ht 0 v r rfl rfl;cases e:its.toList with
  |nil=>
   rw[e]at hi;cases hi;exact absurd rfl hne
  |cons f l=>
   rw[e]at hi;cases hi with
   |cons x t hi=>
    refine⟨.int x t::fs,KatTups.cons ho hc hd ?_ h1,by simp[h2],fun v hv=>?_⟩
    ·rw[<-DW,e];rfl
    ·rcases Aw.mp hv with rfl|hv
     ·exact⟨x,t,rfl⟩
     ·exact h3 v hv
theorem ZJ{a:Al}{P:PySem.Fin->Ap->Prop}(ho:s.heap.get? a=Ab (Cs "list" vs.toArray n))(hr:rs.length=vs.length)(ht:∀(i:Ag)(v:Ai)(r:Ac Ae),vs[i]?=Ab v->rs[i]?=Ab r->Iq s.heap v r)(nd:rs.Nodup)(h64:vs.length<64\/(El (ltR rs) (BF (Bk vs.length)) vs.length/\vs.length<=1000))(h:∀ p:AR Ag,Pm vs.length p->El (ltR rs) p vs.length->P (.done (.ret .none)) {s with heap:=sortedHeap s.heap a vs (JG vs p)}):Az (model prog w) A (Builtin.«list.sort» ⟨[.ref a],[]⟩) P E s:=by
 have hz:vs.length<=1000:=h64.elim (fun h=>by omega) fun h=>h.2
 rw[list_sort_plain];have ha:a<s.heap.objs.size:=AF ho;refine Ah (listItems_at ho rfl ?_ );refine Ah (listUpdate_at ho rfl ?_ (by rw[AE,CO];omega) (CW _))
 obtain⟨e1,ho1⟩:∃ e1,(s.heap.update a (By fun _=>(#[]:AR Ai))).get? a=Ab (Cs "list" #[] e1):=⟨_,get?_update_seq ho (fun _=>#[])⟩
 refine Ah (seqEpoch_at ho1 rfl ?_);refine Ah (GR ?_ (by show vs.length<=_;rw[CO];omega))
 refine Ah (wpAny_newList ?_ (CW _));refine Cf ?_;have ho6:(((s.heap.update a (By fun _=>(#[]:AR Ai))).push (Cs "tuple" vs.toArray 0)).push (Cs "list" #[] 0)).get? a=Ab (Cs "list" #[] e1):=by
  rw[FU _ _ _ (by rw[size_push',HF];exact A1 (CY ha)),FU _ _ _ (by rw[HF];exact A1 ha)]
  exact ho1
 show Az (model prog w) A _ P E { s with heap:=((s.heap.update a (By fun _=>(#[]:AR Ai))).push (Cs "tuple" vs.toArray 0)).push (Cs "list" #[] 0) }
 have kt:∀(i:Ag)(v:Ai)(r:Ac Ae),vs[i]?=Ab v->rs[i]?=Ab r->Iq (((s.heap.update a (By fun _=>(#[]:AR Ai))).push (Cs "tuple" vs.toArray 0)).push (Cs "list" #[] 0)) v r:=fun i v r h1 h2=>by
  obtain⟨b,its,e,⟨o,hb,hc,q⟩,x,y⟩:=ht i v r h1 h2;have ne:b≠a:=fun z=>by
   rw[z,ho]at hb;cases hb;have hc':DO "list" = DO "tuple" := hc
   injection hc' with hc'
   exact absurd hc' (by decide)
  refine⟨b,its,e,⟨o,?_,hc,q⟩,x,y⟩;exact As _ (As _ ((Dp _ _ (DZ ne)).trans hb))
 dsimp only;have hsz:vs.toArray.size=vs.length:=by simp
 have fin:∀ p:AR Ag,Pm vs.length p->El (ltR rs) p vs.length->∀ st':Lw,(IN st').map (·.2)=JG vs p->GP st'=Af->∀ s':Ap,s'={ s with heap:=((s.heap.update a (By fun _=>(#[]:AR Ai))).push (Cs "tuple" vs.toArray 0)).push (Cs "list" #[] 0) }->Az (model prog w) A (do
   let sorted:=(IN st').map (·.2)
   let touched:=(<-seqEpoch a) != e1
   Builtin.List.listUpdate (.ref a) fun _=>sorted
   if let Ab e:=GP st' then rule "list.sort.comparison-raised"; throw e
   if touched then rule "list.sort.modified"; raiseError "ValueError" "list modified during sort"
   ret .none) P E s':=fun p hp hs st' ho' hf s' es=>by
  subst es;have osz:(JG vs p).size=vs.length:=by show (BF (p.toList.map _)).size=_;rw[AE,BD,CF,hp.sz]
  refine Ah (seqEpoch_at ho6 rfl ?_);rw[ho',hf];refine Ah (listUpdate_at ho6 rfl ?_ (CW _) (by rw[osz,CO];omega))
  simp only[bne_self_eq_false,Fx,G7];exact Av (h p hp hs)
 by_cases h2:vs.toArray.size<2
 ·rw[Ay h2,Ay h2];refine Ah (Av ?_);rw[StateT.run_pure];refine Ah (Av ?_);dsimp only;refine fin (BF (Bk vs.length)) (KB _) (fun x y a b=>by omega) (Gu general' (vs.toArray.zip vs.toArray) #[] 7 Af) ?_ rfl _ rfl
  rw[bE];show (vs.toArray.zip vs.toArray).map (·.2)=vs.toArray
  apply HA.mp
  simp[List.map_snd_zip]
 ·rw[AH h2,AH h2];have h2':2<=vs.length:=by rw[hsz]at h2;omega
  obtain⟨fs,t1,t2,t3⟩:=Tk hr kt;refine Ah (kat_kind t1 (by omega) (T:=DO "int") (fun v hv=>?_) rfl ?_)
  ·obtain⟨x,t,rfl⟩:=t3 v hv;exact .now
  ·have e0:tuples' (DO "int" != DO "tuple")=tuples' Aa:=rfl;rw[e0];have S:=eF nd;rw[hr]at S;have ask:∀(i j:Ag)(C:Ao->Ap->Prop),i<vs.length->j<vs.length->C (ltR rs i j) { s with heap:=((s.heap.update a (By fun _=>(#[]:AR Ai))).push (Cs "tuple" vs.toArray 0)).push (Cs "list" #[] 0) }->kas_ask prog w A (tuples' Aa) vs i j C { s with heap:=((s.heap.update a (By fun _=>(#[]:AR Ai))).push (Cs "tuple" vs.toArray 0)).push (Cs "list" #[] 0) }:=fun i j C hi hj hC=>by
    have gi:vs[i]?=Ab vs[i]:=AU hi;have gj:vs[j]?=Ab vs[j]:=AU hj;have ri:rs[i]?=Ab rs[i]:=AU (by omega)
    have rj:rs[j]?=Ab rs[j]:=AU (by omega)
    show Az (model prog w) A (keyLt' (tuples' Aa) (vs.getD i Dg) (vs.getD j Dg)) C (fun _ _=>BN) _
    rw[A8,A8,gi,gj];refine pG (kt i _ _ gi ri) (kt j _ _ gj rj) ?_;have:ltR rs i j=Cd rs[i] rs[j]:=by unfold ltR;rw[A8,A8,ri,rj];rfl
    rw[<-this];exact hC
   have hq:∀(p:AR Ag)(st':Lw)(s':Ap),p.size=vs.length->IN st'=p.map (IP (vs.toArray.zip vs.toArray))->GP st'=Af->(fun p s'=>Pm vs.length p/\El (ltR rs) p vs.length/\s'={ s with heap:=((s.heap.update a (By fun _=>(#[]:AR Ai))).push (Cs "tuple" vs.toArray 0)).push (Cs "list" #[] 0) }) p s'->(fun st' s'=>∃ p,Pm vs.length p/\El (ltR rs) p vs.length/\(IN st').map (·.2)=JG vs p/\GP st'=Af/\s'={ s with heap:=((s.heap.update a (By fun _=>(#[]:AR Ai))).push (Cs "tuple" vs.toArray 0)).push (Cs "list" #[] 0) }) st' s':=fun p st' s' _ ha hf hg=>⟨p,hg.1,hg.2.1,kat_snds rfl ha,hf,hg.2.2⟩
   refine Ah (CH (show Az (model prog w) A ((Lr).run (Gu (tuples' Aa) (vs.toArray.zip vs.toArray) #[] 7 Af)) (fun r s'=>(fun st' s'=>∃ p,Pm vs.length p/\El (ltR rs) p vs.length/\(IN st').map (·.2)=JG vs p/\GP st'=Af/\s'={ s with heap:=((s.heap.update a (By fun _=>(#[]:AR Ai))).push (Cs "tuple" vs.toArray 0)).push (Cs "list" #[] 0) }) r.2 s') E _ from ?_) ?_ fun _ _ e=>e)
   ·rcases h64 with h64|⟨h64,_⟩
    ·exact kat_run (ks:=vs) (vs:=vs) (κ:=tuples' Aa) rfl h2' h64 hq (Kr.wp ask (tE S h2') fun p hp=>⟨hp.1,hp.2,rfl⟩)
    ·exact jD (ks:=vs) (vs:=vs) (κ:=tuples' Aa) rfl h2' hq (Kr.wp ask (ZS S h2' h64) fun r hr=>⟨hr.1,hr.2.1,hr.2.2,rfl⟩)
   ·rintro⟨⟨⟩,st'⟩ s' ⟨p,hp,hs,ho',hf,es⟩;exact fin p hp hs st' ho' hf s' es
theorem Z1{l:Al}{Q:Vq}(hl:s.heap.IsList l vs.toArray)(hr:rs.length=vs.length)(ht:∀(i:Ag)(v:Ai)(r:Ac Ae),vs[i]?=Ab v->rs[i]?=Ab r->Iq s.heap v r)(nd:rs.Nodup)(h64:vs.length<64\/(El (ltR rs) (BF (Bk vs.length)) vs.length/\vs.length<=1000))(h:∀ p:AR Ag,Pm vs.length p->El (ltR rs) p vs.length->Q (.ref (s.heap.objs.size+1)) {s with heap:=sortedAll s.heap vs (JG vs p)}):
    Az (model prog w) A (call (.builtin "sorted") [.ref l]) Q E s:=by
  have hz:vs.length<=1000:=h64.elim (fun h=>by omega) fun h=>h.2
  refine Calls.call_function_entry kind_sorted plain_sorted entry_sorted (args_sorted1 _) ?_;unfold Builtin.«sorted»;refine Ah (m:=checkCount "sorted" 1 1 _) (Av ?_);refine Ah (collect_list hl ?_ (by rw[CO];omega))
  refine Ah (wpAny_newList ?_ (by rw[CO];omega))
  have hsz:((s.heap.push (Cs "list" #[] 0)).update s.heap.objs.size (By (· ++ vs.toArray))).objs.size=s.heap.objs.size+1:=by
    rw[HF,size_push']
  have hoL:(((s.heap.push (Cs "list" #[] 0)).update s.heap.objs.size (By (· ++ vs.toArray))).push (Cs "list" vs.toArray 0)).get? (s.heap.objs.size+1)=Ab (Cs "list" vs.toArray 0):=by
    rw[<-hsz];exact AC _ rfl
  have keep:∀ b o,s.heap.get? b=Ab o->(((s.heap.push (Cs "list" #[] 0)).update s.heap.objs.size (By (· ++ vs.toArray))).push (Cs "list" vs.toArray 0)).get? b=Ab o:=fun b o q=>by
    have hlt:b<s.heap.objs.size:=AF q;rw[FU _ _ _ (by rw[hsz];exact A1 (CY hlt)),Heap.get?_update_ne _ _ _ _ (A1 hlt),FU _ _ _ (A1 hlt)]
    exact q
  show Az _ _ _ _ _ { s with heap:=((s.heap.push (Cs "list" #[] 0)).update s.heap.objs.size (By (· ++ vs.toArray))).push (Cs "list" vs.toArray 0) }
  rw[hsz];refine Ah (Cf (CD slot_list_sort ⟨_,hoL,rfl⟩ entry_list_sort (ZJ (s:={ s with heap:=((s.heap.push (Cs "list" #[] 0)).update s.heap.objs.size (By (· ++ vs.toArray))).push (Cs "list" vs.toArray 0) }) hoL hr (fun i v r h1 h2=>(ht i v r h1 h2).kept keep) nd h64 fun p hp hs=>⟨_,rfl,?_⟩) (args_list_sort _)))
  exact Av ⟨_,rfl,h p hp hs⟩
end
end Ov
section
namespace Ov
noncomputable def tI(r:Ac Ae):D:=.tup (r.map D.int)
theorem O5:∀(r q:Ac Ae),eqDs (r.map D.int) (q.map D.int)=decide (r=q)
 |[],[]=>rfl
 |[],_::_=>rfl
 |_::_,[]=>rfl
 |x::r,y::q=>by
  have e:eqDs ((x::r).map D.int) ((y::q).map D.int)=(x==y&&eqDs (r.map D.int) (q.map D.int)):=rfl;rw[e,O5 r q];by_cases h:x=y<;>by_cases g:r=q<;>simp[h,g]
theorem VA(r q:Ac Ae):eqD (tI r) (tI q)=decide (r=q):=O5 r q
theorem Tb:∀(r q:Ac Ae),ltD.ltDs (ltD 0) (r.map D.int) (q.map D.int)=Cd r q
 |[],[]=>rfl
 |[],_::_=>rfl
 |_::_,[]=>rfl
 |x::r,y::q=>by
  have e:ltD.ltDs (ltD 0) ((x::r).map D.int) ((y::q).map D.int)=if (x==y)=Aa then ltD.ltDs (ltD 0) (r.map D.int) (q.map D.int) else decide (x<y):=rfl
  have e':Cd (x::r) (y::q)=if x=y then Cd r q else decide (x<y):=rfl
  rw[e,e',Tb r q];by_cases h:x=y<;>simp[h]
theorem Qi(r q:Ac Ae):ltD 1 (tI r) (tI q)=Cd r q:=Tb r q
theorem Ux:∀{xs:Ac D},xs.all (rkD 0)=Aa->∃ r:Ac Ae,xs=r.map D.int
 |[],_=>⟨[],rfl⟩
 |x::xs,h=>by
  rw[EL,An]at h;obtain⟨r,e⟩:=Ux h.2;cases x with
  |int i=>exact⟨i::r,by rw[e];rfl⟩
  |_=>cases h.1
theorem wS{d:D}(h:rkD 1 d=Aa):∃ r,d=tI r:=by
 cases d with
 |tup xs=>
  obtain⟨r,e⟩:=Ux (xs:=xs) h;exact⟨r,by rw[e];rfl⟩
 |_=>cases h
theorem Vo:∀{xs:Ac D},xs.all (fun d=>rkD 1 d && !eqD d (.tup []))=Aa->∃ rs:Ac (Ac Ae),xs=rs.map tI/\∀ r∈rs,r≠[]
 |[],_=>⟨[],rfl,fun r h=>by cases h⟩
 |x::xs,h=>by
  rw[EL,An,An]at h;obtain⟨rs,e,hn⟩:=Vo h.2;obtain⟨r,e1⟩:=wS h.1.1;refine⟨r::rs,by rw[e,e1];rfl,fun q hq=>?_⟩
  rcases Aw.mp hq with rfl|hq
  ·intro z;have h2:=h.1.2;rw[e1,z]at h2;cases h2
  ·exact hn q hq
theorem Qs:∀{rs:Ac (Ac Ae)},(∀ r∈rs,r≠[])->(rs.map tI).all (fun d=>rkD 1 d && !eqD d (.tup []))=Aa
 |[],_=>rfl
 |r::rs,h=>by
  rw[B7,EL,An,An];refine⟨⟨?_,?_⟩,Qs fun q hq=>h q (Au _ hq)⟩
  ·show (r.map D.int).all (rkD 0)=Aa;rw[C8];intro d hd;obtain⟨i,_,rfl⟩:=CI.mp hd;rfl
  ·have e:eqD (tI r) (.tup [])=decide (r=[]):=O5 r [];rw[e];have:=h r (Ax ..);simp[this]
noncomputable def IE(x:Ac Ae):Ac (Ac Ae)->Ac (Ac Ae)
 |[]=>[x]
 |y::ys=>if Cd y x=Aa then y::IE x ys else x::y::ys
noncomputable def Jd:Ac (Ac Ae)->Ac (Ac Ae)
 |[]=>[]
 |x::xs=>IE x (Jd xs)
theorem U5(x:Ac Ae):∀ ys:Ac (Ac Ae),Lj (ltD 1) (tI x) (ys.map tI)=(IE x ys).map tI
 |[]=>rfl
 |y::ys=>by
  have e:Lj (ltD 1) (tI x) ((y::ys).map tI)=if ltD 1 (tI y) (tI x)=Aa then tI y::Lj (ltD 1) (tI x) (ys.map tI) else tI x::tI y::ys.map tI:=rfl
  have e':IE x (y::ys)=if Cd y x=Aa then y::IE x ys else x::y::ys:=rfl
  rw[e,e',Qi,U5 x ys];by_cases h:Cd y x=Aa<;>simp[h]
theorem Nh:∀ rs:Ac (Ac Ae),NI (ltD 1) (rs.map tI)=(Jd rs).map tI
 |[]=>rfl
 |r::rs=>by
  show Lj (ltD 1) (tI r) (NI (ltD 1) (rs.map tI))=(IE r (Jd rs)).map tI;rw[Nh rs,U5]
theorem Py(x:Ac Ae):∀ ys:Ac (Ac Ae),(IE x ys).Perm (x::ys)
 |[]=>.refl _
 |y::ys=>by
  show (if Cd y x=Aa then y::IE x ys else x::y::ys).Perm _
  split
  ·exact(IH y (Py x ys)).trans (List.Perm.swap ..)
  ·exact .refl _
theorem Pj:∀ rs:Ac (Ac Ae),(Jd rs).Perm rs
 |[]=>.refl _
 |r::rs=>(Py r _).trans (IH r (Pj rs))
theorem U6(x:Ac Ae):∀{ys:Ac (Ac Ae)},x∉ys->ys.Pairwise (fun a b=>Cd a b=Aa)->(IE x ys).Pairwise (fun a b=>Cd a b=Aa)
 |[],_,_=>Xk ..
 |y::ys,hx,h=>by
  show (if Cd y x=Aa then y::IE x ys else x::y::ys).Pairwise _
  obtain⟨h1,h2⟩:=DQ.mp h;by_cases g:Cd y x=Aa
  ·rw[Ay g];refine DQ.mpr ⟨fun z hz=>?_,U6 x (fun m=>hx (Au _ m)) h2⟩
   rcases Aw.mp ((Py x ys).mem_iff.mp hz) with rfl|hz
   ·exact g
   ·exact h1 z hz
  ·rw[AH g];have g':Cd y x=Ad:=by simpa using g
   have xy:Cd x y=Aa:=Nd (fun e=>hx (by rw[e];exact Ax ..)) g'
   refine DQ.mpr ⟨fun z hz=>?_,h⟩
   rcases Aw.mp hz with rfl|hz
   ·exact xy
   ·exact Np xy (h1 z hz)
theorem Uv:∀{rs:Ac (Ac Ae)},rs.Nodup->(Jd rs).Pairwise (fun a b=>Cd a b=Aa)
 |[],_=>.nil
 |r::rs,h=>by
  obtain⟨h1,h2⟩:=B4.mp h;exact U6 r (fun m=>h1 ((Pj rs).mem_iff.mp m)) (Uv h2)
theorem Pi{ys rs:Ac (Ac Ae)}(nd:rs.Nodup)(hs:ys.Pairwise (fun a b=>Cd a b=Aa))(hp:ys.Perm rs):Jd rs=ys:=by
 refine List.Perm.eq_of_pairwise (le:=fun a b=>Cd a b=Aa) (fun a b _ _ h1 h2=>?_) (Uv nd) hs ((Pj rs).trans hp.symm)
 rw[JA h1]at h2;cases h2
theorem TF{α:Type}[DecidableEq α]:∀{l m:Ac α},l.Nodup->(∀ x∈l,x∈m)->m.length<=l.length->l.Perm m
 |[],m,_,_,hl=>by
  cases m with
  |nil=>exact .refl _
  |cons a m=>simp at hl
 |x::l,m,nd,hs,hl=>by
  obtain⟨h1,h2⟩:=B4.mp nd;have hx:x∈m:=hs x (Ax ..);have hp:=List.perm_cons_erase hx;refine(IH x (TF h2 (fun y hy=>?_) ?_)).trans hp.symm
  ·refine(Xh (fun e=>h1 (by rw[<-e];exact hy))).mpr (hs y (Au _ hy))
  ·have:=Xc hx;simp at hl;omega
theorem M3{ys:Ac (Ac Ae)}(h:ys.Pairwise (fun a b=>Cd a b=Aa)):ys.Nodup:=
 h.imp fun {a b} g e=>by
  subst e;have:=JA g;rw[g]at this;cases this
theorem S5{α:Type}[DecidableEq α]{l m:Ac α}(hl:l.Nodup)(hm:m.Nodup)(h:∀ x,x∈l↔x∈m):l.Perm m:=by
 rw[List.perm_iff_count];intro a;rw[hl.count,hm.count];simp[h]
theorem Nm:∀ rs:Ac (Ac Ae),Lf (rs.map tI)=Aa↔rs.Nodup
 |[]=>by simp[Lf]
 |r::rs=>by
  have e:Lf ((r::rs).map tI)=((rs.map tI).all (fun y=>!eqD (tI r) y)&&Lf (rs.map tI)):=rfl
  rw[e,An,Nm rs,B4];refine and_congr ?_ Iff.rfl;rw[WX,C8];constructor
  ·intro h m;have:=h r m;simp[VA]at this
  ·intro h q hq;have:r≠q:=fun z=>h (by rw[z];exact hq)
   simp[VA,this]
theorem VM:∀{rs:Ac (Ac Ae)},Ln (rs.map tI)=Aa->rs.Pairwise (fun a b=>Cd a b=Aa)
 |[],_=>.nil
 |[_],_=>Xk ..
 |x::y::r,h=>by
  have h':(ltD 1 (tI x) (tI y)&&Ln ((y::r).map tI))=Aa:=h;rw[An,Qi]at h';have ih:=VM h'.2;refine DQ.mpr ⟨fun z hz=>?_,ih⟩
  rcases Aw.mp hz with rfl|hz
  ·exact h'.1
  ·exact Np h'.1 ((DQ.mp ih).1 z hz)
theorem Vr:∀{rs:Ac (Ac Ae)},rs.Pairwise (fun a b=>Cd a b=Aa)->Ln (rs.map tI)=Aa
 |[],_=>rfl
 |[_],_=>rfl
 |x::y::r,h=>by
  obtain⟨h1,h2⟩:=DQ.mp h;show (ltD 1 (tI x) (tI y)&&Ln ((y::r).map tI))=Aa;rw[Qi,h1 y (Ax ..),Vr h2];rfl
theorem Z4{rs:Ac (Ac Ae)}(hn:∀ r∈rs,r≠[])(hl:rs.length<=1000)(hs:rs.Pairwise (fun a b=>Cd a b=Aa)):Fm (rs.map tI)=.ok (rs.map tI):=by
 unfold Fm;rw[Ay (by rw[Qs hn,(Nm rs).mpr (M3 hs),Vr hs,BD,Eo hl,Jg,Bool.or_true];rfl),Nh,Pi (M3 hs) hs (.refl _)]
theorem bM{rs ys:Ac (Ac Ae)}(hn:∀ r∈rs,r≠[])(nd:rs.Nodup)(h64:rs.length<64)(hs:ys.Pairwise (fun a b=>Cd a b=Aa))(hm:∀ r,r∈ys↔r∈rs):Fm (rs.map tI)=.ok (ys.map tI):=by
 unfold Fm;rw[Ay (by rw[Qs hn,(Nm rs).mpr nd,BD,Eo h64,Bool.true_or];rfl),Nh,Pi nd hs (S5 (M3 hs) nd hm)]
theorem Z2{xs:Ac D}{d:Ac D}(h:Fm xs=.ok d):∃ rs:Ac (Ac Ae),xs=rs.map tI/\(∀ r∈rs,r≠[])/\rs.Nodup/\(rs.length<64\/(rs.Pairwise (fun a b=>Cd a b=Aa)/\rs.length<=1000))/\d=(Jd rs).map tI:=by
 unfold Fm at h;split at h
 ·next g=>
  rw[An,An,Dl,An,AJ,AJ]at g;obtain⟨rs,e,hn⟩:=Vo g.1.1;subst e;rw[Nh]at h;cases h;exact⟨rs,rfl,hn,(Nm rs).mp g.1.2,g.2.imp (fun h=>by simpa using h) fun h=>⟨VM h.1,by simpa using h.2⟩,rfl⟩
 ·cases h
open PySem PySem.Spec PyProof.Rows L2
variable{n:Ag}{p:AR Ag}
section
variable{X:Cx}{CL:ClA}{W:XW}
theorem Tg{K:Fg}{H:Hp}{A:Al->Prop}:∀{is:Ac Ae}{ys:Ac V},Reps K CL H A ys (is.map D.int)->ys=is.map V.int
 |[],[],_=>rfl
 |[],_::_,r=>r.elim
 |_::_,[],r=>r.elim
 |i::is,y::ys,r=>by
  have e1:y=.int i:=r.1;rw[Tg r.2,e1];rfl
theorem Px:∀{is:Ac Ae}{its:Ac Ai},Br (is.map V.int) its->Gh its is
 |[],_,h=>by cases h;exact .nil
 |i::is,_,h=>by
  cases h with
  |cons h1 h2=>
   obtain⟨t,rfl⟩:=h1;exact .cons i t (Px h2)
theorem TK{pI:Pn}{s:Ap}{σ:Ac (At V)}{H:Hp}{A:Al->Prop}(I:Inv X pI σ H s):∀{rs:Ac (Ac Ae)}{ys:Ac V}{its:Ac Ai},Reps X.K CL H A ys (rs.map tI)->Br ys its->(∀ r∈rs,r≠[])->∀(i:Ag)(v:Ai)(r:Ac Ae),its[i]?=Ab v->rs[i]?=Ab r->Iq s.heap v r
 |[],_,_,_,_,_,i,v,r,_,e=>by cases e
 |_::_,[],_,h,_,_,_,_,_,_,_=>h.elim
 |q::rs,y::ys,_,h,hv,hn,i,v,r,e1,e2=>by
  cases hv with
  |cons h1 h2=>
   cases i with
   |succ i=>exact TK I h.2 h2 (fun r m=>hn r (Au _ m)) i v r e1 e2
   |zero=>
    cases e1;cases e2;have h0:Dd X.K CL H A y (.tup (q.map D.int)):=.inl h.1;obtain⟨a,xs,rfl,_,sq,rx⟩:=h0.tup_of;obtain⟨its,hi,ht,_⟩:=I.tuple sq;rw[Tg rx]at hi;cases h1;exact⟨a,its.toArray,rfl,ht,Px hi,hn q (Ax ..)⟩
theorem Sq{ys:Ac V}{its:Ac Ai}(h:Br ys its):∀ l:Ac Ag,(∀ i∈l,i<ys.length)->Br (l.map fun i=>ys.getD i .non) (l.map fun i=>its.getD i Dg)
 |[],_=>.nil
 |i::l,hl=>by
  have hi:i<ys.length:=hl i (Ax ..);have e:ys[i]?=Ab ys[i]:=AU hi;obtain⟨u,e2,r⟩:=h.get e;refine .cons ?_ (Sq h l fun j hj=>hl j (Au _ hj))
  show BY (ys.getD i .non) (its.getD i Dg);rw[A8,A8,e,e2];exact r
theorem Uy{K:Fg}{H:Hp}{A:Al->Prop}:∀{ys:Ac V}{ds:Ac D}{i:Ag},Reps K CL H A ys ds->i<ds.length->Rep K CL H A (ys.getD i .non) (ds.getD i .non)
 |[],[],_,_,h=>by cases h
 |[],_::_,_,r,_=>r.elim
 |_::_,[],_,r,_=>r.elim
 |y::ys,d::ds,0,r,_=>r.1
 |y::ys,d::ds,i+1,r,h=>Uy (ys:=ys) (ds:=ds) (i:=i) r.2 (Nat.lt_of_succ_lt_succ h)
theorem S7{K:Fg}{H:Hp}{A:Al->Prop}{ys:Ac V}{ds:Ac D}(h:Reps K CL H A ys ds):∀ l:Ac Ag,(∀ i∈l,i<ds.length)->Reps K CL H A (l.map fun i=>ys.getD i .non) (l.map fun i=>ds.getD i .non)
 |[],_=>trivial
 |i::l,hl=>⟨Uy h (hl i (Ax ..)),S7 h l fun j hj=>hl j (Au _ hj)⟩
theorem Ny(hp:Pm n p):∀ i∈p.toList,i<n:=fun i hi=>by
 obtain⟨j,hj,e⟩:=List.mem_iff_getElem.mp hi;have hj':j<n:=by rw[<-hp.sz];simpa using hj
 have:=hp.lt j hj';unfold at0 at this;rw[DP,<-DW,AU hj,e]at this;exact this
theorem V8(hp:Pm n p){j:Ag}(hj:j<p.toList.length):at0 p j=p.toList[j]:=by
 unfold at0;rw[DP,<-DW,AU hj];rfl
theorem aY{rs:Ac (Ac Ae)}(nd:rs.Nodup)(hp:Pm rs.length p)(hs:El (ltR rs) p rs.length):p.toList.map (fun i=>rs.getD i [])=Jd rs:=by
 have hl:p.toList.length=rs.length:=by rw[CF,hp.sz]
 have pw:(p.toList.map (fun i=>rs.getD i [])).Pairwise (fun a b=>Cd a b=Aa):=by
  rw[List.pairwise_map,Ei];intro i j hi hj hij;have:=hs i j hij (by omega)
  rw[V8 hp hi,V8 hp hj]at this;exact this
 refine(Pi nd pw (TF (M3 pw) (fun x hx=>?_) (by rw[BD,hl];exact AS _))).symm
 obtain⟨i,hi,rfl⟩:=CI.mp hx;have:=Ny hp i hi;rw[A8,AU this];exact E3 this
theorem bR:NN X CL W (.builtin "sorted") (biD .sorted):=by
  intro A H0 pI s σ H xs us Q I r ⟨s0,hA,ds,rs,p⟩;by_cases hls:∃ es,ds=[.lst es]
  · obtain⟨es,rfl⟩:=hls;obtain⟨v,rfl,rv⟩:=rs.one;obtain⟨q,ys,rfl,sq,ry⟩:=rv.lst_of;have p':Bt (Em X.K CL Aa H0 A) W H ((Fm es).bind fun b=>.ok (.lst b)) Q:=p
    cases hd:Fm es with
    |exn x=>
      unfold Fm at hd;split at hd<;>cases hd
    |bad=>
      rw[hd]at p';exact p'.elim
    |ok d=>
      rw[hd]at p';obtain⟨rs',rfl,hn,nd,h64,rfl⟩:=Z2 hd;obtain⟨u,rfl,rx⟩:=HY r;cases rx;obtain⟨its,hv,pl,hz⟩:=I.list sq;have l1:ys.length=rs'.length:=by rw[ry.length,BD]
      have l2:ys.length=its.length:=hv.length;have h1000:rs'.length<=1000:=h64.elim (fun h=>by omega) fun h=>h.2
      have h64':its.length<64\/(El (ltR rs') (BF (Bk its.length)) its.length/\its.length<=1000):=h64.imp (fun h=>by omega) fun h=>⟨fun x y hxy hy=>by
        have e:∀ x,x<its.length->at0 (BF (Bk its.length)) x=x:=fun x hx=>by simp[at0,WI,hx]
        rw[e x (by omega),e y hy]
        have g:=Ei.mp h.1 x y (by omega) (by omega) hxy
        unfold ltR;rw[A8,A8,AU (by omega),AU (by omega)]
        exact g,by omega⟩
      refine Z1 pl.isList (by omega) (TK I ry hv hn) nd h64' fun pp hp hs=>?_
      rw[<-l2,l1]at hp hs;have e1:=aY nd hp hs;have rp:=S7 ry pp.toList (fun i hi=>by rw[BD];exact Ny hp i hi)
      have e2:(pp.toList.map fun i=>(rs'.map tI).getD i .non)=(Jd rs').map tI:=by
        rw[<-e1,FB]
        apply Ez
        intro i hi;have:=Ny hp i hi;simp[AU this]
      rw[e2]at rp;have vp:=Sq hv pp.toList (fun i hi=>by rw[l1];exact Ny hp i hi)
      obtain⟨c,hat⟩:=sortedAll_at s.heap its (JG its pp);have hf:=I.hok.fresh (F0 s.heap.objs.size);refine⟨.ref (s.heap.objs.size+1),_,I.laid (t':=s.toks) (fun b o hb=>sortedAll_old hb) (F0 _) (o:=.lst (pp.toList.map fun i=>ys.getD i .non)) ?_,rfl,p' _ _ (FV hf _) (Jz s0 hA hf rp)⟩
      refine⟨?_,pp.toList.map fun i=>its.getD i Dg,c,vp,hat⟩
      rw[BD,CF,hp.sz,CO];omega
  · have e:biD .sorted ds=.bad:=by
      match ds with
      |[]=>rfl
      |[x]=>cases x<;>first|rfl|exact absurd ⟨_,rfl⟩ hls
      |x::_::_=>cases x<;>rfl
    rw[e]at p;exact p.elim
end
end Ov
end
namespace Ov
open PySem PySem.Spec PyProof.Rows L2
variable{w:AK}{s:Ap}{a b:Al}{h h':AT}{P:A9}{H:Hp}{l:Ac Cy}{oT:DC}{ts:AR Ai}{Q:JS->Ap->Prop}{X:Cx}{pI:Pn}{σ:L2.St}
theorem Vv(is:Ac Ae):(firstMet (fun i=>is.getD i 0) is.length).length=ddN is:=by
 have e:(Bk is.length).map (fun i=>is.getD i 0)=is:=by
  apply W3
  ·simp
  ·intro i h1 h2;simp[A8,AU h2]
 unfold firstMet ddN;rw[e];rfl
theorem lP{prog:A9}{A:Bx}{E:Vq}{S:Ae->Ao}{n:Ag}{Q:Vq}(h:s.heap.SetOf (intKind prog w) a S n)(hf:(n:Ae)<2 ^ 63)(q:Q (.int n (s.toks+1)) {s with toks:=s.toks+1+1}):Az (model prog w) A (call (.builtin "len") [.ref a]) Q E s:=by
 obtain⟨o,es,ep,t,ho,hex,hd,_,_,_,hfi,rfl⟩:=h;exact call_len_set ho hex hd hfi hf q
section
variable{X:Cx}
def vK(K:Fg)(ta:TA):TE:=fun σ H Q=>ta σ H fun vs H1=>∃ a,∃ is:Ac Ae,vs=[.ref a]/\SqL K H1 a (is.map V.int)/\is.length<=4000/\Q (.int (ddN is)) H1
theorem iN{a:Ar}{ta:TA}{p p' pos pos':Bb}(hc:X.calm=Aa)(hg:Gl X "len")(hm:X.mg "len" = Af)(hg':Gl X "set")(hm':X.mg "set" = Af)(ha:PA X [a] ta)(hs:AG [a] X.env=[(Ad,eval a X.env)]):
    PE X (.Call (.Name "len" p) [.Call (.Name "set" p') [a] [] pos'] [] pos) (vK X.K ta):=by
  intro pI s σ H Q I h;refine Hu (GW I hg hm boot_len (XC ?_ rfl rfl));show Az _ _ (spliced ((Ad,eval (.Call (.Name "set" p') [a] [] pos') X.env)::CQ pos (AG [] X.env))) _ _ s;refine FE ?_;refine Hu (GW I hg' hm' PyProof.Rows.boot_set (BR (thn (ha pos' pI s σ H _ I h) fun us s1 ⟨vs,H1,I1,r1,q1⟩=>?_) (by rw[hs];rfl) rfl))
  obtain⟨b,is,e,sq,hn,q⟩:=q1;subst e;cases r1 with
  |cons r rr=>
    cases rr;cases r;obtain⟨its,rv,pl,hz⟩:=I1.list sq;have ia:=Px rv;have hl:its.length=is.length:=by rw[<-rv.length,BD]
    refine PySem.call_set_list (ns:=is) (I1.ok.hd hc) pl.isList ia (by rw[AE,hl];unfold scanBound;omega) fun h' tk hS kp=>FT ?_
    have hsz:its.toArray.size=is.length:=by rw[AE,hl]
    rw[hsz,Vv]at hS;have hle:ddN is<=is.length:=by
      rw[<-Vv];exact firstMet_length_le _ _
    refine lP (s:={s1 with heap:=h',toks:=tk}) hS (by omega) ?_
    exact⟨.int (ddN is),H1,I1.kept (t':=tk+1+1) fun b o e=>kp b o (AF e) e,⟨_,rfl⟩,q⟩
variable{CL:ClA}{W:XW}{pos p pos' p':Bb}{a:Ar}{fa:Rho->R D}
theorem fN(ha:ST X CL W a fa)(hc:X.calm=Aa)(hg:Gl X "len")(hm:X.mg "len" = Af)(hg':Gl X "set")(hm':X.mg "set" = Af)(hs:AG [a] X.env=[(Ad,eval a X.env)]):
  SE X CL W (.Call (.Name "len" p) [.Call (.Name "set" p') [a] [] pos'] [] pos) (fun ρ=>(fa ρ).bind fun x=>biD .lset [x]):=
 fun A=>PE.weak (iN hc hg hm hg' hm' (E6 (ha A) GU hs) hs) fun σ H Q ⟨hA,ρ,g,q⟩=>⟨hA,ρ,g,Bt.bind q fun d v H1 _ s1 r1 p1=>by
  cases d with
  |lst ds=>
   obtain⟨b,xs,rfl,sq,r⟩:=r1.lst_of;have p2:Bt (fun H=>Rep X.K CL H A) W H1 (K8 ds) Q:=p1
   unfold K8 at p2;cases e:HV ds with
   |none=>rw[e]at p2;exact p2.elim
   |some is=>
    rw[e]at p2;have ex:=OM e r;subst ex;dsimp only at p2;split at p2
    ·rename_i hb;exact⟨b,is,rfl,sq,EX hb,p2 _ H1 (AN.refl H1) rfl⟩
    ·exact p2.elim
  | _=>exact p1.elim⟩
end
section
theorem kM(l:Al)(items:AR Ai)(n:Ag)(b:Al)(items2:AR Ai)(n2:Ag)(dd:At Al)(sl:AR (At Ai))(hs0:¬(!items.isEmpty&&DB (items.size+items2.size))=Aa)(hs1:items.size<=sizeLine)(hs2:items.size+items2.size<=sizeLine+1):
  Meets (Builtin.«list.extend» ⟨[.ref l,.ref b],[]⟩) (fun _ R s=>s.heap.get? l=Ab { cls:=.type "list", dict:=Af,data:=.seq items n,slots:=#[] }/\s.heap.get? b=Ab { cls:=.type "tuple", dict:=dd,data:=.seq items2 n2,slots:=sl }/\R (.ok (.ret Dg)) {s with heap:=s.heap.update l (By fun x=>x++items2),toks:=s.toks}):=
 .of_wp fun prog w A R s h=>by
  obtain⟨hp,g,d,tk,os⟩:=s;obtain⟨hl,hb,h⟩:=h;have f1:=AutoSeq1.idx_int;have f2:=AutoSeq1.sub_tuple_tuple;have f3:=AutoSeq1.sub_list_list;have f4:=AutoSeq1.sub_tuple_list;have f5:=AutoSeq1.sub_list_tuple;
  have hz':(items++items2).size<=sizeLine+1:=by rw[Array.size_append];exact hs2
  wp_walk using (Fw hl rfl (hz:=hs1) (_hz':=hz')),XG hl,XG hb;exact⟨_,rfl,h⟩
end
section
variable{X:Cx}
def vT(K:Fg):V->Ac V->Hp->VK->Prop:=fun x vs H Q=>∃ l b xs zs,x=.ref l/\vs=[.ref b]/\H l=Ab (.lst xs)/\SqT K H b zs/\xs.length+zs.length<=sizeLine/\Q .non (upd H l (.lst (xs++zs)))
theorem lI:MtM X "list.extend" (vT X.K):=by
 intro pI s σ H x vs v us Q I rx rv h;obtain⟨l,b,xs,zs,rfl,rfl,hH,hB,hz,q⟩:=h;cases rx;obtain⟨u,rfl,ru⟩:=rv.one;cases ru;obtain⟨z,its,n,r,hl,e⟩:=I.lstM hH;obtain⟨its2,r2,⟨o,e2,c2,n2,d2⟩,z2⟩:=I.tuple hB;have hl2:=r2.length;obtain⟨oc,od,oda,os⟩:=o;dsimp only at c2 d2;subst c2 d2;have hsz:its.toArray.size+its2.toArray.size<=sizeLine:=by rw[AE,AE];omega
 have hlong:¬ (!its.toArray.isEmpty&&DB (its.toArray.size+its2.toArray.size))=Aa:=by
  rw[TU hsz,FM];exact AI
 refine Ko EY ⟨_,e,rfl⟩ XY (XO _ _)
  (kM l its.toArray n b its2.toArray n2 od os hlong (by rw[AE];omega) (by omega)) ⟨e,e2,?_⟩
 refine⟨.non,_,I.lset (its':=its++its2) hH e (by simp) (r.append r2) ?_,rfl,q⟩
 rw[Cw];omega
variable{CL:ClA}{W:XW}{o e:Ar}{fe:Rho->R D}{i:Ag}{apos cpos pos:Bb}
theorem gL(ho:PE X o (G6 i))(he:ST X CL W e fe)(hbase:Hd o "extend" X.env (eval o X.env)=eval o X.env)(hfew:((CQ cpos (AG [e] X.env)).all (fun x=>!x.1)&&(JR cpos (Io [] X.env)).all (fun x=>x.1.isSome)&&decide ([e].length+([]:Ac Fh).length+(if ([]:Ac Fh).isEmpty then 0 else 1)<30))=Aa)(hline:(apos.endLine==cpos.line)=Aa)(hs:AG [e] X.env=[(Ad,eval e X.env)])(hsw:DT (.Call (.Attribute o "extend" apos) [e] [] cpos) Af pos.line X.env=pure Ad):
  SS X CL W (.Expr (.Call (.Attribute o "extend" apos) [e] [] cpos) pos) (fun ρ=>O.of ρ (Dj ρ i) fun xs=>O.of ρ (fe ρ) fun x=>O.of ρ ((CM .Add x (.tup [])).bind fun y=>biD .list [y]) fun d=>O.of ρ (La d) fun ys=>if Du (xs.length+ys.length)=Aa then .next (ρ.set i (Ab (.lst (xs++ys),Aa))) else .bad):=fun Fz B pI s σ H D I ⟨ρ,x,p⟩=>by
 refine Nj (QU FR EY X9 lI ho (E6 (he (CP B ρ σ)) GU hs) hbase hfew hline hs rfl) hsw pI s σ H D I ?_;dsimp only at p;cases e1:Dj ρ i with
 |bad=>rw[e1]at p;exact p.elim
 |exn z=>exact(L6 e1).elim
 |ok ds=>
  rw[e1,O.of_ok]at p;have hi:=Ma e1;obtain⟨a,xs,ds',q,e2,ha,hh,r⟩:=x.good.ow i _ hi;cases e2;refine⟨_,q,.inl ⟨rfl,xs,SqL.of hh⟩,x.aok,ρ,x.good,CJ.ex x p fun d v H' _ s rv x' q'=>?_⟩
  cases d with
  |tup es=>
   obtain⟨b,ys,rfl,h0,h1,rs⟩:=Dd.tup_of rv;have eb:CM .Add (.tup es) (.tup [])=if (!es.isEmpty&&Du (es.length+0))=Aa then .ok (.tup (es++[])) else .bad:=rfl
   rw[eb]at q';split at q'
   ·rw[R.bind_ok,show biD .list [.tup (es++[])]=.ok (.lst (es++[])) from rfl,O.of_ok,SZ,O.of_ok,Dz]at q'
    split at q'
    ·rename_i hz;refine⟨a,b,xs,ys,rfl,rfl,s _ _ hh,h1,?_,q' _ _ (x'.upd hi q ((r.same s).append rs))⟩;rw[r.length,rs.length];exact IV hz
    ·exact q'.elim
   ·exact q'.elim
  |_=>exact q'.elim
end
section
open PySem.AutoSeq1 (wpAny_loadPart')
end
section
variable{prog:A9}{w:AK}{A:Bx}{R:Kk->Ap->Prop}{I S T:Al}{u v:Ai}{c:Ag}{P:Ag->Ai->Prop}{St:Ag->AT->Prop}{s:Ap}{r q:Ac Ae}
end
section
variable{X:Cx}{CL:ClA}{W:XW}
end
def Fly(e T:Al)(cls:Ai)(h:AT):Prop:=∃ oe vs oT ts a0,h.get? e=Ab oe/\oe.cls=cls/\vs[0]?=Ab a0/\oe.data=.fields vs/\vs[1]?=Ab (.ref T)/\T≠e/\h.get? T=Ab oT/\oT.data=.fields ts/\ts[3]?=Ab Dg
structure Shift (ex fs:Ac Al) (h h':AT):Prop where
 keep:∀ b o,h.get? b=Ab o->b∉ex->b∉fs->h'.get? b=Ab o
 slot:∀ b o,h.get? b=Ab o->b∈fs->∃ sl,h'.get? b=Ab {o with slots:=sl}
theorem Shift.trans{ex fs:Ac Al}{h1 h2:AT}(a:Shift ex fs h h1)(b:Shift ex fs h1 h2):Shift ex fs h h2:=
 ⟨fun c o q n m=>b.keep c o (a.keep c o q n m) n m,fun c o q m=>by
  obtain⟨sl,e1⟩:=a.slot c o q m;obtain⟨sl',e2⟩:=b.slot c _ e1 m;exact⟨sl',e2⟩⟩
theorem ObjOk.isThere:∀(o:HO),L2.ObjOk P w H h a o->∃ ob,h.get? a=Ab ob
 |.lst _,x=>by obtain⟨_,_,_,_,e⟩:=x;exact⟨_,e⟩
 |.tup _,x=>by obtain⟨_,_,_,p⟩:=x;obtain⟨o,e,_⟩:=p;exact⟨_,e⟩
 |.dK _,x=>by obtain⟨_,_,_,_,o,_,_,e,_⟩:=x;exact⟨_,e⟩
 |.dT _,x=>by obtain⟨_,_,_,_,o,_,_,e,_⟩:=x;exact⟨_,e⟩
 |.set _ _,x=>by obtain⟨o,_,_,_,e,_⟩:=x;exact⟨_,e⟩
 |.ins _ _ _,x=>by obtain⟨_,_,_,e,_⟩:=x;exact⟨_,e⟩
 |.own _,x=>x
 |.xd _,x=>by obtain⟨_,⟨_,_,_,e,_⟩,_⟩:=x;exact⟨_,e⟩
 |.met _ _,x=>⟨_,x⟩
 |.rng _ _,x=>by obtain⟨_,_,_,e⟩:=x;exact⟨_,e⟩
 |.frz _ _,x=>⟨_,x.1⟩
 |.tbl _,x=>⟨_,x⟩
 |.ext _,x=>x.2.1
theorem Po(x:HOk P w H h)(e:h.get? a=Af):H a=Af:=by
 cases q:H a with
 |none=>rfl
 |some o=>
  obtain⟨ob,z⟩:=ObjOk.isThere o (x a o q);rw[e]at z;cases z
theorem HOk.shift{ex fs:Ac Al}(x:HOk P w H h)(sh:Shift ex fs h h')(h1:∀ b∈ex,H b=Af)(h2:∀ b∈fs,H b=Af):HOk P w H h':=fun a o e=>
 (x a o e).stay (fun b u hb q=>by
  have hs:∃ v,H b=Ab v:=by
   rcases hb with rfl|hb
   ·exact⟨_,e⟩
   ·exact⟨_,hb⟩
  obtain⟨v,hv⟩:=hs;exact sh.keep b u q (fun z=>by rw[h1 b z]at hv;cases hv) (fun z=>by rw[h2 b z]at hv;cases hv)) (fun _ q=>q) fun _ _ q=>q
theorem Un.shift{fs0 fs ex:Ac Al}{H':Hp}{h0:AT}(u:Un fs0 [] H H' h0 h)(sh:Shift ex fs h h')(h1:∀ b∈ex,h0.get? b=Af)(h2:∀ b∈fs,b∈fs0\/h0.get? b=Af):Un fs0 [] H H' h0 h' where
 keep:=fun b o q n hb hx=>sh.keep b o (u.keep b o q n hb hx) (fun z=>by rw[h1 b z]at q;cases q) fun z=>(h2 b z).elim hb fun e=>by rw[e]at q;cases q
 slot:=fun b o q n hb hx=>by
  obtain⟨sl,e1⟩:=u.slot b o q n hb hx;by_cases hf:b∈fs
  ·obtain⟨sl',e2⟩:=sh.slot b _ e1 hf;exact⟨sl',e2⟩
  ·exact⟨sl,sh.keep b _ e1 (fun z=>by rw[h1 b z]at q;cases q) hf⟩
 free:=u.free
 there:=fun b o q hx=>by
  obtain⟨o',e1⟩:=u.there b o q hx;by_cases hf:b∈fs
  ·obtain⟨sl',e2⟩:=sh.slot b _ e1 hf;exact⟨_,e2⟩
  ·exact⟨o',sh.keep b _ e1 (fun z=>by rw[h1 b z]at q;cases q) hf⟩
 tups:=u.tups
 frzs:=u.frzs
 tbls:=u.tbls
section
variable{M:Kj}{A:Bx}{E:Vq}{s:Ap}{env:Cy}{outer:Ac Cy}{L e T:Al}{cls:Ai}{base h:AT}
theorem US(l:Ac Cy):∀ env∈l,∀ a,env.frame=Ab a->a∈frs l:=fun env he a hf=>Xi.mpr ⟨env,he,hf⟩
theorem eI(ff:h.FunFrames base l)(fl:Fly e T cls h):∃ a0,Yb (Gz h (e::T::frs l)) l e cls a0 h:=by
 obtain⟨oe,vs,oT,ts,a0,he,hc,h0,hd,h1,hTe,hT,hdT,h3⟩:=fl;exact⟨a0,fun b o q=>G9 _ q,GA _ Ax,Ys ff fun env he a hf=>Au _ (Au _ (US l env he a hf)),
  oe,vs,T,oT,ts,he,⟨hc,h0⟩,hd,h1,GA _ (Au _ Ax),hTe,hT,hdT,h3⟩
theorem Uq(ff:h.FunFrames base l)(up:h.UpToSlots h'){o:DC}(ho:h.get? b=Ab o)(hb:b∈frs l):∃ sl,h'.get? b=Ab {o with slots:=sl}:=by
 obtain⟨_,o',ho',hn⟩:=ff.mem hb;rw[ho]at ho';cases ho';exact up b o ho hn
theorem TW(ff:h.FunFrames base l)(up:h.UpToSlots h')(hT:h'.get? T=Ab oT)(hd:oT.data=.fields ts):T∉frs l:=fun hb=>by
 obtain⟨_,o',ho',hn⟩:=ff.mem hb;obtain⟨sl,e1⟩:=up T o' ho' hn;rw[hT]at e1;cases e1;exact hn ts hd
theorem U9{B:AT}{a0:Ai}(x:Yb B l e cls a0 h'):∃ T',Fly e T' cls h'/\B.get? T'=Af/\∃ oT ts,h'.get? T'=Ab oT/\oT.data=.fields ts:=by
 obtain⟨_,_,_,oe,vs,T',oT,ts,he,⟨hc,h0⟩,hd,h1,hn,hTe,hT,hdT,h3⟩:=x;exact⟨T',⟨oe,vs,oT,ts,a0,he,hc,h0,hd,h1,hTe,hT,hdT,h3⟩,hn,oT,ts,hT,hdT⟩
theorem bZ(ff:h.FunFrames base l)(st:(Gz h (e::T::frs l)).StaysIn h')(up:h.UpToSlots h'):Shift [e,T] (frs l) h h':=
 ⟨fun b o q n1 n2=>st b o (EA _ q (by simp only[Aw,Ed,A3,Cb]at n1 ⊢;exact⟨n1.1,by first|exact n1.2|exact n1.2.1,n2⟩)),fun b o q hb=>Uq ff up q hb⟩
theorem cH{T':Al}(ff:h.FunFrames base l)(up:h.UpToSlots h')(hn:(Gz h (e::T::frs l)).get? T'=Af)(hT:h'.get? T'=Ab oT)(hd:oT.data=.fields ts)(hne:T'≠e):T'=T\/h.get? T'=Af:=by
 cases q:h.get? T' with
 |none=>exact .inr rfl
 |some o=>
  refine .inl ?_;by_cases hm:T'∈e::T::frs l
  ·rcases Aw.mp hm with z|hm
   ·exact absurd z hne
   ·rcases Aw.mp hm with z|hm
    ·exact z
    ·exact absurd hm (TW ff up hT hd)
  ·have:=EA _ q hm;rw[hn]at this;cases this
theorem Fly.ne(x:Fly e T cls h):T≠e:=by obtain⟨_,_,_,_,_,_,_,_,_,_,z,_⟩:=x;exact z
theorem cA(hfr:A.frames=Ab (env::outer))(hf:env.frame=Ab L)(ff:s.heap.FunFrames base (env::outer))(fl:Fly e T cls s.heap)(hQ:∀ h' T',Fly e T' cls h'->Shift [e,T] (frs (env::outer)) s.heap h'->(T'=T\/s.heap.get? T'=Af)->Q () {s with heap:=h'}):Az M A (leaving env (.ref e)) Q E s:=by
 obtain⟨a0,fw⟩:=eI ff fl;refine wpAny_leaves_onW hfr hf fw fun h' fw' up=>?_
 obtain⟨T',fl',hn,oT,ts,hT,hd⟩:=U9 fw';exact hQ h' T' fl' (bZ ff fw'.1 up) (cH ff up hn hT hd fl'.ne)
theorem aA{args:Ac Ai}(hfr:A.frames=Ab (env::outer))(hf:env.frame=Ab L)(ff:h.FunFrames base (env::outer))(hx:Yc h s.heap e cls args)(hQ:∀ h' T',Fly e T' cls h'->Shift [] (frs (env::outer)) h h'->h.get? T'=Af->Q () {s with heap:=h'}):Az M A (leaving env (.ref e)) Q E s:=by
 have fh:=Ys (as:=frs (env::outer)) ff (US _);refine wpAny_leaves_madeW hfr hf (fun b o q=>G9 _ q) fh hx fun h' t fw _ _ up=>?_
 have up':h.UpToSlots h':=(Heap.UpToSlots.of_keeps hx.keeps).trans up;obtain⟨T',fl',hn,oT,ts,hT,hd⟩:=U9 fw;refine hQ h' T' fl' ⟨fun b o q _ n2=>fw.1 b o (EA _ q n2),fun b o q hb=>Uq ff up' q hb⟩ ?_
 cases q:h.get? T' with
 |none=>rfl
 |some o=>
  have:=EA _ q (TW ff up' hT hd);rw[hn]at this;cases this
end
def CXR(P:A9)(w:AK):CXT:=fun outer H s E ev s'=>∃ e T cls H',ev=.ref e/\s'.os=s.os/\FN s'.gens/\Un (frs outer) [] H H' s.heap s'.heap/\HOk P w H' s'.heap/\Fly e T cls s'.heap/\H' e=Af/\H' T=Af/\s.heap.get? e=Af/\s.heap.get? T=Af/\E cls Af H'
def NY(X:Cx)(CL:ClA)(W:XW):Prop:=∀ pI σ H s h' e C vs x,Inv X pI σ H s->Yc s.heap h' e (.ref C) vs->CL x.c=Ab C->x.fs=[]->W x H->X.xe (.ref e) {s with heap:=h'}
section
variable{P:A9}{w:AK}{K:Fg}{mg:Ak->At Ai}{base:AT}{N:Ac Ak}{qual:Ak}{scope:CN}{f:Al}{cd:Ai}{A:Bx}{outer:Ac Cy}{s:Ap}{H:Hp}{E:XK}{CL:ClA}{W:XW}
theorem UR(I:Inv X pI σ H s):∀ b∈frs X.stack,b∈X.fs\/X.s₀.heap.get? b=Af:=fun b hb=>by
 rcases Aw.mp (I.stkSub b hb) with z|z
 ·exact .inr (by rw[z];exact Ye I.ok.above)
 ·exact .inl z
theorem L7(I:Inv X pI σ H s)(hx:X.ex=[])(h:s.heap.get? b=Af):X.s₀.heap.get? b=Af:=by
 cases q:X.s₀.heap.get? b with
 |none=>rfl
 |some o=>
  obtain⟨o',z⟩:=I.base.there b o q (by rw[hx];simp)
  rw[h]at z;cases z
theorem yZ(hE:∀ x cls H',W x H'->(∃ C,CL x.c=Ab C/\cls=.ref C)->E cls Af H'):∀ A',KS (CXR P w) (G1 (CXR P w) P w K mg base N qual scope f cd A outer s H E) (EKW K CL A' W):=by
 intro A' pI σ H1 s1 ev s2 I h;obtain⟨e,T,cls,H',rfl,os,bare,un,hok,fl,he,hT,ne,nT,x,xr,wx⟩:=h;have I':=I.call' (s':=s2) (ch:=[]) os un hok bare (fun b z=>absurd z (by simp))
 have hb0:Un (frs outer) [] H H' s.heap s2.heap:=I'.base;show Az (model P w) (A.deeper (Fe qual scope s.heap.objs.size f cd)) (leaving (Fe qual scope s.heap.objs.size f cd) (.ref e)) _ _ s2;refine cA (L:=s.heap.objs.size) I'.ok.frames rfl I'.stack fl fun h' T' fl' sh hT'=>?_
 have e0:s.heap.get? e=Af:=L7 I rfl ne;have T0:s.heap.get? T=Af:=L7 I rfl nT;refine⟨e,T',cls,H',rfl,I'.os,bare,Un.shift hb0 sh ?_ (UR I'),HOk.shift hok sh ?_ I'.stkFree,fl',he,?_,e0,?_,?_⟩
 ·intro b hb;rcases Aw.mp hb with rfl|hb
  ·exact e0
  ·rw[BA.mp hb];exact T0
 ·intro b hb;rcases Aw.mp hb with rfl|hb
  ·exact he
  ·rw[BA.mp hb];exact hT
 ·rcases hT' with rfl|z
  ·exact hT
  ·exact Po hok z
 ·rcases hT' with rfl|z
  ·exact T0
  ·exact L7 I' rfl z
 ·obtain⟨C,c1,c2,_⟩:=xr;exact hE x cls H' wx ⟨C,c1,c2⟩
theorem rzR(hE:∀ x cls H',W x H'->(∃ C,CL x.c=Ab C/\cls=.ref C)->E cls Af H'):NY (G1 (CXR P w) P w K mg base N qual scope f cd A outer s H E) CL W:=by
  intro pI σ H1 s1 h2 e C vs x I hm hc hf hw;have hb0:Un (frs outer) [] H H1 s.heap s1.heap:=I.base;show Az (model P w) (A.deeper (Fe qual scope s.heap.objs.size f cd)) (leaving (Fe qual scope s.heap.objs.size f cd) (.ref e)) _ _ {s1 with heap:=h2}
  refine aA (s:={s1 with heap:=h2}) (h:=s1.heap) (L:=s.heap.objs.size) I.ok.frames rfl I.stack hm fun h' T' fl' sh hT'=>?_
  refine⟨e,T',.ref C,H1,rfl,I.os,I.bare,Un.shift hb0 sh (fun b hb=>nomatch hb) (UR I),HOk.shift I.hok sh (fun b hb=>nomatch hb) I.stkFree,fl',Po I.hok hm.new,Po I.hok hT',L7 I rfl hm.new,L7 I rfl hT',hE x _ H1 hw ⟨C,hc,rfl⟩⟩
theorem ownR:Gi (model P w) (G1 (CXR P w) P w K mg base N qual scope f cd A outer s H E).A (G1 (CXR P w) P w K mg base N qual scope f cd A outer s H E).env (G1 (CXR P w) P w K mg base N qual scope f cd A outer s H E).xe:=PassesOwn.leaving
end
noncomputable def veB:Ac Ai:=[.type "ValueError", .type "Exception", .type "BaseException", .type "object"]
structure XcOk (K:Fg) (C:Al):Prop where
 exc:PySem.W.excIn K C veB "ValueError.__new__" = Aa
 ga:II K (.ref C) "__getattribute__" = Ab (Ab (.builtin "BaseException.__getattribute__"))
 gt:II K (.ref C) "__getattr__" = Ab Af
 cl:II K (.ref C) "__class__" = Ab (Ab (.builtin "object.__class__"))
 ob:PySem.W.mroIn K C (.type "object")=Ab Aa
 be:Yv K (.ref C) (.type "BaseException")=Ab Aa
 cs:(PySem.W.clsIn K C).isSome=Aa
 ve:Yu K (.ref C) (.type "ValueError")=Ab Aa
section
variable{prog:A9}{w:AK}{A:Bx}{E:Vq}{h:AT}{g:AR LD}{d:Drawn}{t:Ag}{os:OsState}{K:Fg}{e C:Al}
end
def WA(X:Cx)(pI:Pn)(e:Al):Prop:=e≠X.env.locals/\(∀ x c,X.env.cells.lookup x=Ab c->c≠e)/\(∀ p∈X.pn++pI,p.1≠e)/\X.s₀.heap.get? e=Af
section
variable{X:Cx}{pI:Pn}{σ:L2.St}{H:Hp}{s:Ap}{e:Al}
end
noncomputable def Cx.hot(X:Cx)(e:Al):Cx:={X with A:=X.A.mark (Ab (.ref e)),calm:=Ad,xe:=fun _ _=>BN}
section
variable{X:Cx}{pI:Pn}{σ:L2.St}{H:Hp}{s:Ap}{e:Al}
end
noncomputable def zP(X:Cx)(CL:ClA)(pI:Pn)(σ:L2.St)(H:Hp)(y:Ex)(Xw:Vq):Prop:=
 ∀ s' H' e T C,Inv X pI σ H' s'->AN H H'->Fly e T (.ref C) s'.heap->H' e=Af->H' T=Af->WA X pI e->WA X pI T->CL y.c=Ab C->y.fs=[]->Xw (.ref e) s'
def STB(X:Cx)(CL:ClA)(body:Ac B8)(f:Rho->O):Prop:=∀ Fz B pI s σ H D ρ (Xw:Vq),Gi (model X.prog X.w) X.A X.env Xw->Inv X pI σ H s->Sx X.K CL Fz B ρ σ H ->
  (match f ρ with
   |.exn y ρ'=>ρ'=ρ->zP X CL pI σ H y Xw
   | o=>CJ X.K CL Fz B (fun _ _=>BN) o D)->(∀ y ρ',f ρ=.exn y ρ'->ρ'=ρ)->Az (model X.prog X.w) X.A (execs body X.env) (SP X pI D) Xw s
noncomputable def Cx.pw(X:Cx)(pI:Pn)(Xw:Vq):Cx:={X with pn:=X.pn++pI,xe:=Xw}
section
variable{X:Cx}{pI pins':Pn}{σ:L2.St}{H:Hp}{s:Ap}{Xw:Vq}
end
section
variable{X:Cx}{CL:ClA}{k n:Ag}{fr:Ao}{f:Al}{fd:CS}{ps:Ac Ak}{F:Ac D->R D}{x:Ak}{p pos pos2:Bb}{e:Ar}{es:Ac Ar}{fs ft:Rho->R (Ac D)}{sh:Rho->Ao}
variable(hx0:X.ex=[])(G:FnOk X.prog X.w X.K X.mg X.base (CXR X.prog X.w) k f fd ps (spD X.K CL n fr F))(hr:Room k X.A)(hg:Gl X x)(hm:X.mg x=Ab (.ref f))
    (hk:DK X.K (.ref f)=Aa) (hb:IA X.K fd ps []) (hst:∀ ρ,sh ρ=Aa->ft ρ=fs ρ) (hn:∀ ρ ds,ft ρ=.ok ds->ds.length=n) (hnx:∀ ρ y,ft ρ≠.exn y)
    (hdb:(x==("__debug__" : Ak))=Ad) (he:AG (e::es) X.env=(Ad,eval e X.env)::AG es X.env) (hpl:∀ pos,(CQ pos (AG es X.env)).any (·.1)=Ad)
    (ha:∀ pI Xw,Gi (model X.prog X.w) X.A X.env Xw->SA (Cx.pw X pI Xw) CL (fun _ _=>BN) (e::es) fs/\SAT (Cx.pw X pI Xw) CL (fun _ _=>BN) (e::es) ft)
include hx0 G hr hg hm hk hb hst hn hnx hdb he hpl ha
end
section
variable{X:Cx}{CL:ClA}{W:XW}
def uB(K:Fg)(CL:ClA)(up:Ag->Ac Ag)(c':Ag)(C':Al):Prop:=∀ c C,CL c=Ab C->Yu K (.ref C) (.ref C')=Ab ((up c).contains c')
variable{a:Ar}{fa:Rho->R D}{up:Ag->Ac Ag}{x:Ak}{p p2 pos:Bb}
end
end Ov
section
namespace Ov
open PySem PySem.Spec PyProof.Rows L2
end Ov
end
namespace Ov
open PySem PySem.Spec PyProof.Rows L2
variable{α:Type}{g x n x0 x1:Ak}{y:Ar}{as:Es}{X:Cx}{CL:ClA}{fr:Ao}{pos p:Bb}{xs ys:Ac Ar}{env:Cy}{l kk k:Ag}{scope:CN}{ts:Ac Ag}{H:Hp}{vs:Ac V}{f:Al}{fd:CS}{CX:CXT}{ps:Ac Ak}{F:Ac D->R D}{h:AT}
noncomputable abbrev Zy:CXT:=fun _ _ _ _ _ _=>BN
structure HotOk (P:A9) (w:AK) (K:Fg) (mg:Ak->At Ai) (base:AT) (k:Ag) (f:Al) (fd:CS) (ps:Ac Ak) (sp:Sp):Prop where
 len:∀ vs H Q E,sp vs H Q E->vs.length=ps.length
 run:∀(A:Bx)(ev:Al)(outer:Ac Cy)(s:Ap)(H:Hp)(args:Args)(us:Ac Ai)(vs:Ac V)(Q:VK)(E:XK),Room k A->Env0 P w K mg base (A.mark (Ab (.ref ev))) outer s H->Hv s fd args (ps.zip us)->Br vs us->sp vs H Q E ->
  FO (model P w) (A.mark (Ab (.ref ev))) (.call (.ref f) args) (CR Zy outer P w H s Q E) s
def spH(K:Fg)(CL:ClA)(n:Ag)(fr:Ao)(F:Ac D->R D):Sp:=fun vs H Q _=>∃(ds:Ac D)(A:Al->Prop),vs.length=n/\AOk H A/\Reps K CL H A vs ds/\(match F ds with
  |.ok d=>∀ v H',AN H H'->Em K CL fr H A H' v d->Q v H'
  |.exn _=>BN
  | .bad=>BN)
section
variable{X:Cx}{CL:ClA}{ev:Al}
end
structure Tc where
 sc:CN
 N:Ac Ak
 /-- a def's name,its number,how many parameters it has -/
 fns:Ac (Ak×Ag×Ag)
 /-- built-in names that the text does not hide -/
 bl:Ac Ak
 /-- exceptions' classes by their names: those that are raised,all that are asked for -/
 rzs:Ac (Ak×Ag)
 exs:Ac (Ak×Ag)
 /-- the text's constants -/
 gls:Ac (Ak×Ag)
noncomputable def Q9(T:Tc)(x:Ak):Ao:=match T.sc.names.lookup x with
  |some .local=>Aa
  |some .cell=>Aa
  |some .free=>Aa
  |_=>Ad
noncomputable def Lg(T:Tc)(x:Ak):Ao:=match T.sc.names.lookup x with
  |some .local=>Aa
  |some .cell=>Aa
  |_=>Ad
noncomputable def glB(T:Tc)(x:Ak):Ao:=T.sc.names.lookup x==Ab .globalImplicit
noncomputable def MC(x:Ak):Ao:=!(x==("__debug__" : Ak)) && !(x==("__classdict__" : Ak)) && !(x==("__name__" : Ak))
noncomputable def isV(T:Tc)(x:Ak)(i:Ag):Ao:=T.N[i]? == Ab x&&Q9 T x&&MC x
noncomputable def isB(T:Tc)(x:Ak):Ao:=T.bl.contains x&&glB T x&&MC x
noncomputable def Ew:Ar->Ao
 |.Starred _ _=>Ad
 |_=>Aa
noncomputable def PC:Ar->Ao
 |.Slice _ _ _ _=>Ad
 |_=>Aa
noncomputable def Ms:Ar->Ao
 |.Set _ _ _=>Ad
 |_=>Aa
noncomputable def KZ:Ar->Ao
 |.ListComp _ _ _ _=>Ad
 |.SetComp _ _ _ _=>Ad
 |.DictComp _ _ _ _ _=>Ad
 |_=>Aa
noncomputable def RG(tu:Ao):Ar->Ao
 |.Tuple ..=>tu
 |.Name ..=>!tu
 |_=>Ad
noncomputable def yO:Ar->Ao
 |.Tuple _ _ _=>Aa
 |_=>Ad
noncomputable def V5:Ar->Ao
 |.Tuple _ _ _=>Ad
 |_=>Aa
noncomputable def O1:Ar->Ao
 |.UnaryOp _ _ _=>Ad
 |.BoolOp _ _ _=>Ad
 |.IfExp _ _ _ _=>Ad
 |.Compare _ _ _ _=>Ad
 |_=>Aa
noncomputable def QR:Ki->At Ak
 |.int=>Ab "int"
 |.bool=>Ab "bool"
 |.str=>Ab "str"
 |.list=>Ab "list"
 |.tuple=>Ab "tuple"
 |_=>Af
noncomputable def QS:BI->At Ak
 |.len=>Ab "len"
 |.abs=>Af
 |.max=>Ab "max"
 |.min=>Ab "min"
 |.int=>Af
 |.list=>Ab "list"
 |.tuple=>Ab "tuple"
 |.all=>Ab "all"
 |.any=>Ab "any"
 |.sum=>Ab "sum"
 |.sorted=>Ab "sorted"
 |.tmin=>Af
 |.tmax=>Af
 |_=>Af
noncomputable def QW(o scope:CN):CN:={scope with names:=scope.names.map fun (n,k)=>if (k==.free&&o.kind==.function&&o.names.lookup n==Ab .cell) then (n,.cell) else (n,k)}
noncomputable def Le:Ac Ag->Ac Ak->Ac Ak->Ac Ak
 |t::ts,x::xs,N=>Le ts xs ((N.map fun y=>if y==x then N.getD t x else y).set t x)
 |_,_,N=>N
noncomputable def Mn:Ac Ak->Ao
 |[]=>Aa
 |x::xs=>!xs.contains x&&Mn xs
noncomputable def MG(T:Tc)(scope:CN)(ts:Ac Ag)(N':Ac Ak):Ao:=
  scope.kind==.function&&scope.names.all (fun y=>scope.names.lookup y.1==Ab y.2) &&
  scope.names.all (fun y=>y.2 != .free||T.sc.names.lookup y.1==Ab .cell||T.sc.names.lookup y.1==Ab .free) &&
  N'.length==T.N.length&&Mn N' &&
  (Bk N'.length).all fun i=>ts.contains i||(match N'[i]? with
    |some x=>(scope.names.lookup x != Ab .local&&scope.names.lookup x != Ab .cell)&&(scope.names.lookup x != Ab .free||T.N[i]? == Ab x)
    | none=>Aa)
noncomputable def Fl:Ac Ar->At (Ac Ak)
 |[]=>Ab []
 |.Name x _::r=>(Fl r).map (x :: ·)
 |_=>Af
noncomputable def tgN(ys:Ac Ar):Ac Ak:=(Fl ys).getD []
noncomputable def tgB(T:Tc):Ac Ag->Ac Ak->Ao
 |[],[]=>Aa
 |t::ts,x::xs=>T.N[t]? == Ab x&&T.sc.names.lookup x==Ab .local&&tgB T ts xs
 |_,_=>Ad
noncomputable def tgO(T:Tc)(scope:CN)(t:Ag)(x:Ak):Ao:=T.N[t]? == Ab x&&(T.sc.names.lookup x==Ab .local||(T.sc.names.lookup x==Ab .cell&&scope.names.lookup x==Ab .cell))
noncomputable def tgC(T:Tc):Ac Ag->Ac Ak->Ao
 |[],[]=>Aa
 |t::ts,x::xs=>T.N[t]? == Ab x&&Lg T x&&tgC T ts xs
 |_,_=>Ad
noncomputable def Tc.blk(T:Tc)(scope:CN)(ts:Ac Ag)(xs:Ac Ak):Tc:={T with sc:=QW T.sc scope,N:=Le ts xs T.N}
noncomputable def Rl:E->Ao
 |.lst _=>Aa
 |.comp _ _ _ _=>Aa
 |.compT _ _ _ _=>Aa
 |.bin .Add _ _=>Aa
 |.bi .list _=>Aa
 |.sl _ _ _=>Aa
 |_=>Ad
noncomputable def NQ:E->At E
  | .bi b as=>(match b with
    | .list=>(match as with
      | .cons x r=>(match r with
        | .nil=>(match x with
          | .bin op a c=>(match op with
            | .Add=>(match c with
              | .tup es=>(match es with
                |.nil=>Ab a
                | _=>Af)
              | _=>Af)
            | _=>Af)
          | _=>Af)
        | _=>Af)
      | .nil=>Af)
    | _=>Af)
  |_=>Af
theorem eY{e a:E}(q:NQ e=Ab a):e=.bi .list (.cons (.bin .Add a (.tup .nil)) .nil):=by
 unfold NQ at q
 repeat' split at q
 all_goals first|cases q;done|skip
 cases q;rfl
theorem gX(Γ:Gam){e:E}(h:Rl e=Aa):E2 Γ e=Aa:=by
 unfold Rl at h;split at h<;>first|rfl|cases h
noncomputable def RS:Ar->At (Ar×Ar×Bb)
  | .Compare x ops ys p=>(match ops with
    | [.Lt]=>(match ys with
      |[y]=>Ab (x,y,p)
      | _=>Af)
    | _=>Af)
  |_=>Af
noncomputable def Q2(_:Es):At (E×E):=Af
noncomputable def RN(T:Tc)(e:Ar)(b:BI)(as:Es):Ao:=Ad
noncomputable def Mh:Ar->At (Ak×Bb)
 |.Name x p=>Ab (x,p)
 |_=>Af
theorem MX{e:Ar}{t:Ak×Bb}(q:Mh e=Ab t):e=.Name t.1 t.2:=by
 cases e with
 |Name x p=>cases q;rfl
 |_=>cases q
noncomputable def Qu:Ar->At (Ar×Ac Ar×Ac Fh×Bb)
 |.Call f as ks p=>Ab (f,as,ks,p)
 |_=>Af
theorem S0{e:Ar}{t:Ar×Ac Ar×Ac Fh×Bb}(q:Qu e=Ab t):e=.Call t.1 t.2.1 t.2.2.1 t.2.2.2:=by
 cases e with
 |Call f as ks p=>cases q;rfl
 |_=>cases q
noncomputable def Q3:Ar->At (Ar×Ar×Bb)
 |.Subscript v s p=>Ab (v,s,p)
 |_=>Af
theorem Ub{e:Ar}{t:Ar×Ar×Bb}(q:Q3 e=Ab t):e=.Subscript t.1 t.2.1 t.2.2:=by
 cases e with
 |Subscript v s p=>cases q;rfl
 |_=>cases q
noncomputable def WG:Ar->At (Ac Ar×Ag×Bb)
 |.Tuple es k p=>Ab (es,k,p)
 |_=>Af
theorem eV{e:Ar}{t:Ac Ar×Ag×Bb}(q:WG e=Ab t):e=.Tuple t.1 t.2.1 t.2.2:=by
 cases e with
 |Tuple es k p=>cases q;rfl
 |_=>cases q
noncomputable def Wq:B8->At (Ac Ar×Ar×Bb)
 |.Assign ts v p=>Ab (ts,v,p)
 |_=>Af
theorem eZ{s:B8}{t:Ac Ar×Ar×Bb}(q:Wq s=Ab t):s=.Assign t.1 t.2.1 t.2.2:=by
 cases s with
 |Assign ts v p=>cases q;rfl
 |_=>cases q
noncomputable def one{α:Type}:Ac α->At α
 |[a]=>Ab a
 |_=>Af
theorem Vt{l:Ac α}{a:α}(q:one l=Ab a):l=[a]:=by
  match l,q with
  |[b],q=>cases q;rfl
noncomputable def Kb(e:Ar):At (Ak×Ak×Ac Ar):=(Qu e).bind fun c=>(Mh c.1).bind fun g=>(one c.2.1).bind fun a=>(Qu a).bind fun d=>(Mh d.1).bind fun h=>if (c.2.2.1.isEmpty&&d.2.2.1.isEmpty)=Aa then Ab (g.1,h.1,d.2.1) else Af
theorem PZ{e:Ar}{h:Ak}{bs:Ac Ar}(q:Kb e=Ab (g,h,bs)):∃ p p' pos pos',e=.Call (.Name g p) [.Call (.Name h p') bs [] pos'] [] pos:=by
 obtain⟨⟨f,as,ks,pos⟩,e1,q⟩:=Bo.mp q;obtain⟨⟨g',p⟩,e2,q⟩:=Bo.mp q;obtain⟨a,e3,q⟩:=Bo.mp q;obtain⟨⟨f',bs',ks',pos'⟩,e4,q⟩:=Bo.mp q;obtain⟨⟨h',p'⟩,e5,q⟩:=Bo.mp q;by_cases hk:(ks.isEmpty&&ks'.isEmpty)=Aa
 ·rw[Ay hk]at q;cases q;rw[An,HB,HB]at hk;obtain⟨rfl,rfl⟩:=hk;have x1:=S0 e1;have x2:=MX e2;have x3:=Vt e3;have x4:=S0 e4;have x5:=MX e5;dsimp only at x1 x2 x3 x4 x5;subst x1 x2 x3 x4 x5;exact⟨_,_,_,_,rfl⟩
 ·rw[AH hk]at q;cases q
noncomputable def NS(e:Ar):At (Ak×Ak×Ar×Ar×Ar):=match Kb e with
  | some (g,h,bs)=>(match bs with
    |[x,y,z]=>Ab (g,h,x,y,z)
    | _=>Af)
  |none=>Af
theorem kU{e:Ar}{h:Ak}{x z:Ar}(q:NS e=Ab (g,h,x,y,z)):∃ p p' pos pos',e=.Call (.Name g p) [.Call (.Name h p') [x,y,z] [] pos'] [] pos:=by
  unfold NS at q;cases c:Kb e with
  |none=>rw[c]at q;cases q
  |some t=>
    obtain⟨g',h',bs⟩:=t;rw[c]at q
    match bs,q,c with
    |[a,b,d],q,c=>cases q;exact PZ c
noncomputable def ME(e:Ar):At (Ak×Ak×Ar×Ar):=match Kb e with
  | some (g,h,bs)=>(match bs with
    |[x,y]=>Ab (g,h,x,y)
    | _=>Af)
  |none=>Af
theorem lO{e:Ar}{h:Ak}{x:Ar}(q:ME e=Ab (g,h,x,y)):∃ p p' pos pos',e=.Call (.Name g p) [.Call (.Name h p') [x,y] [] pos'] [] pos:=by
  unfold ME at q;cases c:Kb e with
  |none=>rw[c]at q;cases q
  |some t=>
    obtain⟨g',h',bs⟩:=t;rw[c]at q
    match bs,q,c with
    |[a,b],q,c=>cases q;exact PZ c
noncomputable def Mx:Es->At (E×E)
 |.cons (.tupI (.rng2 a b)) .nil=>Ab (a,b)
 |_=>Af
theorem eX{a b:E}(q:Mx as=Ab (a,b)):as=.cons (.tupI (.rng2 a b)) .nil:=by
 unfold Mx at q;split at q
 ·cases q;rfl
 ·cases q
noncomputable def MD(e:Ar):At (Ak×Ak×Ar):=match Kb e with
  | some (g,h,bs)=>(match bs with
    |[x]=>Ab (g,h,x)
    | _=>Af)
  |none=>Af
theorem lK{e:Ar}{h:Ak}{x:Ar}(q:MD e=Ab (g,h,x)):∃ p p' pos pos',e=.Call (.Name g p) [.Call (.Name h p') [x] [] pos'] [] pos:=by
  unfold MD at q;cases c:Kb e with
  |none=>rw[c]at q;cases q
  |some t=>
    obtain⟨g',h',bs⟩:=t;rw[c]at q
    match bs,q,c with
    |[a],q,c=>cases q;exact PZ c
noncomputable def Mw:Es->At E
  | .cons a r=>(match r with
    |.nil=>Ab a
    | _=>Af)
  |.nil=>Af
theorem eW{a:E}(q:Mw as=Ab a):as=.cons a .nil:=by
 unfold Mw at q;split at q
 ·split at q
  ·cases q;rfl
  ·cases q
 ·cases q
noncomputable def Q6(e:Ar):At (Ak×Ak):=(Q3 e).bind fun t=>(Mh t.1).bind fun x=>(Mh t.2.1).bind fun y=>Ab (x.1,y.1)
theorem Uu{e:Ar}{y:Ak}(q:Q6 e=Ab (x,y)):∃ p1 p2 p3,e=.Subscript (.Name x p1) (.Name y p2) p3:=by
 obtain⟨⟨v,s,p⟩,e1,q⟩:=Bo.mp q;obtain⟨⟨x',p1⟩,e2,q⟩:=Bo.mp q;obtain⟨⟨y',p2⟩,e3,q⟩:=Bo.mp q;cases q;have x1:=Ub e1;have x2:=MX e2;have x3:=MX e3;dsimp only at x1 x2 x3;subst x1 x2 x3;exact⟨_,_,_,rfl⟩
noncomputable def Mq(e:Ar):Ao:=(Q3 e).isSome
theorem Tp{e:Ar}(q:Mq e=Aa):∃ o a p,e=.Subscript o a p:=by
 obtain⟨t,h⟩:=XA.mp q;exact⟨_,_,_,Ub h⟩
noncomputable def two(e:Ar):At (Ar×Ar):=(WG e).bind fun t=>match t.1 with
  |[a,b]=>Ab (a,b)
  |_=>Af
theorem Vf{e a b:Ar}(q:two e=Ab (a,b)):∃ k p,e=.Tuple [a,b] k p:=by
  obtain⟨⟨es,k,p⟩,e1,q⟩:=Bo.mp q;have x1:=eV e1;dsimp only at x1;subst x1
  match es,q with
  |[a',b'],q=>cases q;exact⟨_,_,rfl⟩
noncomputable def Q5(st:B8):At (Ak×Ak×Ak×Ak×Ar):=(Wq st).bind fun t=>(one t.1).bind fun u=>(two u).bind fun ab=>(Q6 ab.1).bind fun xy=>(Q6 ab.2).bind fun xz=>(two t.2.1).bind fun cd=>if (Mq cd.1&&Mq cd.2)=Aa then Ab (xy.1,xy.2,xz.1,xz.2,t.2.1) else Af
theorem gC{st:B8}{y x' z:Ak}{v:Ar}(q:Q5 st=Ab (x,y,x',z,v)):∃ p1 p2 p3 p4 p5 p6 kt tp o a p o' a' p' q0 q1 pos,v=.Tuple [.Subscript o a p,.Subscript o' a' p'] q0 q1/\st=.Assign [.Tuple [.Subscript (.Name x p1) (.Name y p2) p3,.Subscript (.Name x' p4) (.Name z p5) p6] kt tp] (.Tuple [.Subscript o a p,.Subscript o' a' p'] q0 q1) pos:=by
 obtain⟨⟨ts,w,pos⟩,e5,q⟩:=Bo.mp q;obtain⟨t,e6,q⟩:=Bo.mp q;obtain⟨⟨a,b⟩,e1,q⟩:=Bo.mp q;obtain⟨⟨y1,y2⟩,e2,q⟩:=Bo.mp q;obtain⟨⟨z1,z2⟩,e3,q⟩:=Bo.mp q;obtain⟨⟨c,d⟩,e4,q⟩:=Bo.mp q;by_cases hs:(Mq c&&Mq d)=Aa
 ·rw[Ay hs]at q;cases q;rw[An]at hs;have x5:=eZ e5;have x6:=Vt e6;dsimp only at x5 x6 e4;obtain⟨k1,t1,rfl⟩:=Vf e1;obtain⟨u1,u2,u3,rfl⟩:=Uu e2;obtain⟨u4,u5,u6,rfl⟩:=Uu e3;obtain⟨k2,t2,rfl⟩:=Vf e4;obtain⟨o,a,p,rfl⟩:=Tp hs.1;obtain⟨o',a',p',rfl⟩:=Tp hs.2;subst x6 x5;exact⟨_,_,_,_,_,_,_,_,_,_,_,_,_,_,_,_,_,rfl,rfl⟩
 ·rw[AH hs]at q;cases q
noncomputable def RH:Ar->At (Ar×Ae)
  | .Subscript v s _=>(match s with
    | .Slice lo hi st _=>(match lo with
      | some (.Constant (.int k) _ _)=>(match hi with
        | none=>(match st with
          |some (.Constant (.int j) _ _)=>if j=2 then Ab (v,k) else Af
          | _=>Af)
        | some _=>Af)
      | _=>Af)
    | _=>Af)
  |_=>Af
noncomputable def Q4(_:Es):At (E×Ae):=Af
mutual
noncomputable def Bs:Ag->Tc->Ar->E->Ao
  |0,_,_,_=>Ad
  |n+1,T,e,c=>match c with
    |.non=>(match e with | .Constant .none _ _=>Aa|_=>Ad)
    |.bl b=>(match e with | .Constant (.bool b') _ _=>b' == b|_=>Ad)
    |.int i=>(match e with | .Constant (.int j) _ _=>decide (j=i)|_=>Ad)
    |.str x=>(match e with | .Constant (.str y) _ _=>decide (y=x)|_=>Ad)
    |.var i=>(match e with | .Name x _=>isV T x i|_=>Ad)
    |.glob g=>Ad
    |.bin op a b=>(match e with | .BinOp x op' y _=>decide (op'=op)&&Bs n T x a&&Bs n T y b|_=>Ad)
    |.un op a=>(match e with | .UnaryOp .USub x _=>decide (op=.USub)&&Bs n T x a|_=>Ad)
    |.no a=>(match e with | .UnaryOp .Not x _=>Bs n T x a|_=>Ad)
    |.and es=>(match e with | .BoolOp .And xs _=>chkEs n T xs es && !xs.isEmpty|_=>Ad)
    |.or es=>(match e with | .BoolOp .Or xs _=>chkEs n T xs es && !xs.isEmpty|_=>Ad)
    |.cmp op a b=>(match e with | .Compare x [op'] [y] _=>decide (op'=op) && !behindInMarks op y&&Bs n T x a&&Bs n T y b|_=>Ad)
    |.cmp2 op1 op2 a b c=>(match e with | .Compare x [o1,o2] [y,z] _=>decide (o1=op1)&&decide (o2=op2) && !lastMarks [op1,op2] [y,z]&&Bs n T x a&&Bs n T y b&&Bs n T z c|_=>Ad)
    |.ite c a b=>Ad
    |.call f as=>(match e with | .Call (.Name g _) (x::xs) [] _=>(T.fns.any fun p=>p.1==g&&p.2.1==f&&p.2.2==xs.length+1)&&decide (xs.length<900)&&glB T g&&MC g&&chkEs n T (x::xs) as|_=>Ad)
    |.bi b as=>(match e with | .Call (.Name g _) (x::xs) [] _=>QS b==Ab g&&isB T g&&chkEs n T (x::xs) as|_=>Ad)||RN T e b as||(match Mx as with|some (a,c)=>(match ME e with|some (g,h,x,y)=>decide (b=.list)&&g==("list" : Ak)&&h==("range" : Ak)&&isB T g&&isB T h&&Ew x&&Ew y&&Bs n T x a&&Bs n T y c|none=>Ad)|none=>Ad)||(match Q4 as with|some (a,k)=>(match RH e with|some (x,j)=>decide (b=.stp)&&decide (j=k)&&decide (0<=k)&&Bs n T x a|none=>Ad)|none=>Ad)||(match Mw as with|some a=>(match MD e with|some (g,h,x)=>decide (b=.lset)&&g==("len" : Ak)&&h==("set" : Ak)&&isB T g&&isB T h&&Ew x&&Bs n T x a|none=>Ad)|none=>Ad)||(match Q2 as with|some (a,c)=>(match RS e with|some (x,y,_)=>decide (b=.tlt) && !behindInMarks .Lt y&&Bs n T x a&&Bs n T y c|none=>Ad)|none=>Ad)
    |.isi a ks=>(match ks with | [k]=>(match e with | .Call (.Name g _) [x,.Name t _] [] _=>g==("isinstance" : Ak)&&isB T g&&QR k==Ab t&&isB T t&&Ew x&&Bs n T x a|_=>Ad)|_=>Ad)
    |.idx a i=>(match e with | .Subscript x y _=>PC y&&Bs n T x a&&Bs n T y i|_=>Ad)
    |.sl a lo hi=>(match e with | .Subscript x (.Slice l h Af _) _=>Bs n T x a&&chkO n T l lo&&chkO n T h hi|_=>Ad)
    |.tup es=>(match e with | .Tuple xs _ _=>chkEs n T xs es&&decide (xs.length<=1000)|_=>Ad)
    |.lst es=>(match e with | .List xs _=>chkEs n T xs es&&decide (xs.length<=1000)|_=>Ad)
    |.comp elt t it c=>(match e with | .ListComp x [⟨.Name y _,iter,ifs,0⟩] scope _=>chkI n T Ad iter it&&Ms iter&&MG T scope [t] (Le [t] [y] T.N)&&tgO (T.blk scope [t] [y]) scope t y&&chkT n (T.blk scope [t] [y]) ifs c&&Bs n (T.blk scope [t] [y]) x elt|_=>Ad)
    |.compT elt ts it c=>(match e with | .ListComp x [⟨.Tuple ys _ _,iter,ifs,0⟩] scope _=>(Fl ys).isSome&&chkI n T Aa iter it&&Ms iter&&MG T scope ts (Le ts (tgN ys) T.N)&&tgB (T.blk scope ts (tgN ys)) ts (tgN ys)&&chkT n (T.blk scope ts (tgN ys)) ifs c&&Bs n (T.blk scope ts (tgN ys)) x elt|_=>Ad)
    |.tupI it=>(match it with | .zip3 a b c=>(match NS e with|some (g,h,x,y,z)=>g==("tuple" : Ak)&&h==("zip" : Ak)&&isB T g&&isB T h&&Ew x&&Ew y&&Ew z&&Bs n T x a&&Bs n T y b&&Bs n T z c|none=>Ad)|_=>Ad)
    |.dnew=>Ad
    |.fld _ _=>Ad
noncomputable def Ke:Ag->Tc->Ar->E->Ao
  |0,_,_,_=>Ad
  |n+1,T,e,c=>match e with
    |.UnaryOp .Not x _=>(match c with | .no a=>Ke n T x a|_=>Ad)
    |.BoolOp .And xs _=>(match c with | .and es=>chkBs n T xs es && !xs.isEmpty|_=>Ad)
    |.BoolOp .Or xs _=>(match c with | .or es=>chkBs n T xs es && !xs.isEmpty|_=>Ad)
    | .Compare x ops ys _=>(match c with
      |.cmp op a b=>(match ops,ys with | [op'],[y]=>decide (op'=op) && !behindInMarks op y&&Bs n T x a&&Bs n T y b|_,_=>Ad)
      |.cmp2 op1 op2 a b c=>(match ops,ys with | [o1,o2],[y,z]=>decide (o1=op1)&&decide (o2=op2) && !lastMarks [op1,op2] [y,z]&&Bs n T x a&&Bs n T y b&&Bs n T z c|_,_=>Ad)
      | _=>Ad)
    |e=>O1 e&&Bs n T e c
noncomputable def chkBs:Ag->Tc->Ac Ar->Es->Ao
  |0,_,_,_=>Ad
  |n+1,T,xs,es=>match xs,es with
    |[],.nil=>Aa
    |x::xs,.cons e es=>Ke n T x e&&chkBs n T xs es
    |_,_=>Ad
noncomputable def chkEs:Ag->Tc->Ac Ar->Es->Ao
  |0,_,_,_=>Ad
  |n+1,T,xs,es=>match xs,es with
    |[],.nil=>Aa
    |x::xs,.cons e es=>Ew x&&Bs n T x e&&chkEs n T xs es
    |_,_=>Ad
noncomputable def chkO:Ag->Tc->At Ar->E->Ao
  |0,_,_,_=>Ad
  |n+1,T,x,e=>match x with
    |none=>(match e with | .non=>Aa|_=>Ad)
    |some x=>(match e with | .non=>Ad|e=>Bs n T x e)
noncomputable def chkT:Ag->Tc->Ac Ar->E->Ao
  |0,_,_,_=>Ad
  |n+1,T,xs,e=>match xs with
    |[]=>(match e with | .bl Aa=>Aa|_=>Ad)
    |[x]=>Ke n T x e
    |_=>Ad
noncomputable def chkI:Ag->Tc->Ao->Ar->I->Ao
  |0,_,_,_,_=>Ad
  |n+1,T,tu,e,i=>match i with
    |.e a=>Bs n T e a
    |.rng a=>(match e with | .Call (.Name g _) [x] [] _=>g==("range" : Ak)&&isB T g&&Ew x&&Bs n T x a|_=>Ad)
    |.enm a=>(match e with | .Call (.Name g _) [x] [] _=>tu&&g==("enumerate" : Ak)&&isB T g&&Ew x&&Bs n T x a|_=>Ad)
    |.zip a b=>(match e with | .Call (.Name g _) [x,y] [] _=>tu&&g==("zip" : Ak)&&isB T g&&Ew x&&Ew y&&Bs n T x a&&Bs n T y b|_=>Ad)
    |.rng2 a b=>(match e with | .Call (.Name g _) [x,y] [] _=>g==("range" : Ak)&&isB T g&&Ew x&&Ew y&&Bs n T x a&&Bs n T y b|_=>Ad)
    |.zip3 a b c=>Ad
end
noncomputable def WB(_:Ag)(_:Tc)(_:Ag)(_:Ac B8)(_:Ss):Ao:=Ad
mutual
noncomputable def FZ:Ag->Tc->B8->S->Ao
  |0,_,_,_=>Ad
  |n+1,T,st,s=>match s with
    |.pass=>Ad
    |.brk=>Ad
    |.cont=>Ad
    |.asg i _ e=>(match st with | .Assign [.Name x _] v _=>T.N[i]? == Ab x&&Lg T x&&Bs n T v e|_=>Ad)
    |.asgT ts e=>(match st with | .Assign [.Tuple ys _ _] v _=>(Fl ys).isSome&&tgC T ts (tgN ys)&&(V5 v||En 4 ys.length)&&Bs n T v e|_=>Ad)
    |.expr e=>(match st with | .Expr v _=>KZ v&&Bs n T v e|_=>Ad)
    |.ret e=>(match st with | .Return (Ab v) _=>Bs n T v e|_=>Ad)
    |.retN=>Ad
    |.ife c a b=>(match st with | .If t xs ys _=>Ke n T t c&&chkSs n T xs a&&chkSs n T ys b|_=>Ad)
    |.fors t it body=>(match st with | .For (.Name x _) iter xs [] _=>tgC T [t] [x]&&Ms iter&&chkI n T Ad iter it&&chkSs n T xs body|_=>Ad)
    |.forT ts it body=>(match st with | .For (.Tuple ys _ _) iter xs [] _=>(Fl ys).isSome&&tgC T ts (tgN ys)&&Ms iter&&chkI n T Aa iter it&&chkSs n T xs body|_=>Ad)
    |.whl c body=>Ad
    |.rais c as=>!(T.rzs.any fun p=>p.2==c)
    |.tryx _ _ _ _=>Ad
    |.app i e=>(match st with | .Expr (.Call (.Attribute (.Name x _) m ap) [v] [] cp) _=>m==("append" : Ak)&&isV T x i&&ap.endLine==cp.line&&Ew v&&Bs n T v e|_=>Ad)
    |.ext i e=>(match st with | .Expr (.Call (.Attribute (.Name x _) m ap) [v] [] cp) _=>m==("extend" : Ak)&&isV T x i&&ap.endLine==cp.line&&Ew v&&(Rl e&&Bs n T v e||(match NQ e with|some a=>Bs n T v a|none=>Ad))|_=>Ad)
    |.rev i=>Ad
    |.clr i=>Ad
    |.put i k e=>(match st with | .Assign [.Subscript (.Name x _) y _] v _=>isV T x i&&PC y&&Bs n T y k&&Bs n T v e|_=>Ad)
    |.swp i k l=>(match Q5 st with|some (x,y,x',z,v)=>isV T x i&&isV T x' i&&isV T y k&&isV T z l&&Bs n T v (.tup (.cons (.idx (.var i) (.var l)) (.cons (.idx (.var i) (.var k)) .nil)))|none=>Ad)
    |.ins _ _ _=>Ad
    |.dput _ _ _=>Ad
    |.dsd _ _ _=>Ad
    |.rel _=>Ad
noncomputable def chkSs:Ag->Tc->Ac B8->Ss->Ao
  |0,_,_,_=>Ad
  |n+1,T,sts,ss=>match ss with
    |.nil=>sts.isEmpty
    |.cons (.rel i) ss=>chkSs n T sts ss
    | .cons s ss=>(match sts with
      |st::r=>FZ n T st s&&chkSs n T r ss
      | []=>Ad)
end
noncomputable def Ia(fuel:Ag)(hot:Ao)(fns:Ac (Ak×Ag×Ag))(bl:Ac Ak)(rzs exs gls:Ac (Ak×Ag))(ps N:Ac Ak)(st:B8)(df:Df):Ao:=
  let sc:=GS st
  sc.kind==.function && !sc.isCoroutine && !sc.isGenerator&&Mn N&&N.take ps.length==ps&&ps.all (fun x=>sc.names.lookup x==Ab .local||sc.names.lookup x==Ab .cell)&&sc.names.all (fun y=>y.2 != .free)&&N.length==df.n &&
  (match hot with
  |true=>WB fuel ⟨sc,N,fns,bl,rzs,exs,gls⟩ 0 (Iu st) df.body
  | false=>chkSs fuel ⟨sc,N,fns,bl,rzs,exs,gls⟩ (Iu st) df.body)
structure XT (up:Ag->Ac Ag) (xn:Ag->Ac D->R Ex) (CL:ClA) (rzs exs:Ac (Ak×Ag)) (K:Fg) (mg:Ak->At Ai):Prop where
 xc:∀ c C,CL c=Ab C->XcOk K C
 rz:∀ p∈rzs,∃ C,CL p.2=Ab C/\mg p.1=Ab (.ref C)
 ex:∀ p∈exs,∃ C,mg p.1=Ab (.ref C)/\uB K CL up p.2 C/\∀ c D,CL c=Ab D->Yv K (.ref D) (.ref C)=Ab ((up c).contains p.2)
 made:∀ c ds,xn c ds=.bad\/xn c ds=.ok ⟨c,[]⟩
 xb:∀ c,(∀ p∈rzs,p.2≠c)->∀ ds,xn c ds=.bad
def N3(K:Fg)(mg:Ak->At Ai)(CL:ClA)(x:Ak)(d:D):Prop:=∃ u v,mg x=Ab u/\BY v u/\∀ H A,Rep K CL H A v d
structure VX (Γ:Gam) (CL:ClA) (k:Ag) (W:XW) (T:Tc) (X:Cx):Prop where
 sc:X.env.scope=T.sc
 kd:T.sc.kind=.function
 N:X.N=T.N
 nd:T.N.Nodup
 calm:X.calm=Aa
 room:Room k X.A
 bl:∀ x,x∈T.bl->X.mg x=Af
 fn:∀ p∈T.fns,∃ f fd ps,X.mg p.1=Ab (.ref f)/\DK X.K (.ref f)=Aa/\IA X.K fd ps []/\ps.length=p.2.2%1000/\(p.2.2<1000->FnOk X.prog X.w X.K X.mg X.base (CXR X.prog X.w) k f fd ps (spD X.K CL (p.2.2%1000) (Γ.fr p.2.1) (Γ.F p.2.1)))/\(1000<=p.2.2->HotOk X.prog X.w X.K X.mg X.base k f fd ps (spH X.K CL (p.2.2%1000) (Γ.fr p.2.1) (Γ.F p.2.1)))
 own:Gi (model X.prog X.w) X.A X.env X.xe
 px:∀ A,KS (CXR X.prog X.w) X (EKW X.K CL A W)
 rz:NY X CL W
 xt:XT Γ.up Γ.xn CL T.rzs T.exs X.K X.mg
 gl:∀ p∈T.gls,N3 X.K X.mg CL p.1 (Γ.G p.2)
theorem Vs:∀ A,KS (CXR X.prog X.w) X (EKW X.K CL A W0):=fun A pI σ H s ev s' I h=>by
 obtain⟨e,T,cls,H',_,_,_,_,_,_,_,_,_,_,x,_,w⟩:=h;exact w.elim
theorem Rs:NY X CL W0:=fun _ _ _ _ _ _ _ _ _ _ _ _ _ z=>z.elim
def Rf{α:Type}(g f:Rho->R α):Prop:=∀ ρ,g ρ=.bad\/g ρ=f ρ
section
variable{X:Cx}{CL:ClA}{W:XW}{a:Ar}{f g:Rho->R D}
theorem SE.ref(h:SE X CL W a f)(r:Rf g f):SE X CL W a g:=fun A=>PE.weak (h A) fun σ H Q ⟨hA,ρ,q,p⟩=>⟨hA,ρ,q,by
 rcases r ρ with e|e
 ·rw[e]at p;exact p.elim
 ·rw[e]at p;exact p⟩
theorem SB.ref{f g:Rho->R Ao}(h:SB X CL W a f)(r:Rf g f):SB X CL W a g:=fun A=>PT.weak (h A) fun σ H Q ⟨hA,ρ,q,p⟩=>⟨hA,ρ,q,by
 rcases r ρ with e|e
 ·rw[e]at p;exact p.elim
 ·rw[e]at p;exact p⟩
theorem SW.ref{f g:Rho->R Ao}(h:SW X CL W a f)(r:Rf g f):SW X CL W a g:=fun A=>PW.weak (h A) fun σ H Q ⟨hA,ρ,q,p⟩=>⟨hA,ρ,q,by
 rcases r ρ with e|e
 ·rw[e]at p;exact p.elim
 ·rw[e]at p;exact p⟩
theorem SC.ref(h:SC X CL W fr a f)(r:Rf g f):SC X CL W fr a g:=fun A=>PE.weak (h A) fun σ H Q ⟨hA,ρ,q,p⟩=>⟨hA,ρ,q,by
 rcases r ρ with e|e
 ·rw[e]at p;exact p.elim
 ·rw[e]at p;exact p⟩
theorem SS.ref{st:B8}{f g:Rho->O}(h:SS X CL W st f)(r:∀ ρ,g ρ=.bad\/g ρ=f ρ):SS X CL W st g:=fun Fz B=>PS.weak (h Fz B) fun D σ H ⟨ρ,x,p⟩=>⟨ρ,x,by
 rcases r ρ with e|e
 ·rw[e]at p;exact p.elim
 ·rw[e]at p;exact p⟩
end
theorem M4:∀{l:Ac Ak},Mn l=Aa->l.Nodup
 |[],_=>Xj
 |x::xs,h=>by
  unfold Mn at h;simp only[An,BP,W1,Cu]at h;exact List.nodup_cons.mpr ⟨h.1,M4 h.2⟩
section
variable{T:Tc}{X:Cx}{Γ:Gam}{CL:ClA}{k:Ag}{W:XW}
theorem fP(h:Q9 T x=Aa):Vis T.sc x:=by
 unfold Q9 at h;split at h
 ·exact .inl (by assumption)
 ·exact .inr (.inl (by assumption))
 ·exact .inr (.inr (by assumption))
 ·cases h
theorem PJ(h:Lg T x=Aa):Loc T.sc x:=by
 unfold Lg at h;split at h
 ·exact .inl (by assumption)
 ·exact .inr (by assumption)
 ·cases h
theorem PD(h:MC x=Aa):(x==("__debug__" : Ak))=Ad/\(x==("__classdict__" : Ak))=Ad/\x≠"__name__" := by
 unfold MC at h;simp only[An,BP]at h;exact⟨h.1.1,h.1.2,fun e=>by subst e;exact absurd h.2 (by simp)⟩
theorem HQ{i:Ag}(v:VX Γ CL k W T X)(h:isV T x i=Aa):PE X (.Name x pos) (G6 i):=by
 unfold isV at h;simp only[An,BS]at h;obtain⟨h2,h3,_⟩:=PD h.2;exact qG (by rw[v.N];exact h.1.1) (by rw[v.sc];exact fP h.1.2) h2 h3
theorem GY(v:VX Γ CL k W T X)(h:isB T x=Aa):Gl X x/\X.mg x=Af/\x≠"__name__"/\(x==("__debug__" : Ak))=Ad:=by
 unfold isB glB at h;simp only[An,BS,W1,AJ]at h;obtain⟨h2,h3,h4⟩:=PD h.2;exact⟨by show X.env.scope.names.lookup x=_;rw[v.sc];exact h.1.2,v.bl x h.1.1,h4,h2⟩
theorem CV{x:Ar}(h:Ew x=Aa):AG (x::xs) env=(Ad,eval x env)::AG xs env:=by
 cases x<;>first|rfl|cases h
theorem cS(h:PC y=Aa):Qf y:=by
 intro o i;cases y<;>first|rfl|cases h
theorem Nw{e:Ar}(h:Ms e=Aa):∀ x,Dk e env x=pure x:=by
 intro x;cases e<;>first|rfl|cases h
theorem U1{e:Ar}{t:At Ar}(h:KZ e=Aa):DT e t l env=pure Ad:=by
 cases e<;>first|rfl|cases h
theorem fZ{e:Ar}(h:O1 e=Aa):∀ whole,IJ e env whole=(do let v <-whole;Hx e.pos;holding [v] (truthy v)):=by
 intro whole;cases e<;>first|rfl|cases h
theorem Z5(v:VX Γ CL k W T X)(scope:CN):relabel scope X.env=QW T.sc scope:=by
 unfold relabel QW;have:∀ n,X.env.kindOf n=T.sc.names.lookup n:=fun n=>by show X.env.scope.names.lookup n=_;rw[v.sc]
 simp only[this,v.sc]
theorem QB{N':Ac Ak}(v:VX Γ CL k W T X)(h:MG T scope ts N'=Aa):BlockOk X scope N' ts/\N'.Nodup/\scope.kind=.function:=by
 unfold MG at h;simp only[An,BS,C8,Dl,Kv,ne_eq]at h;obtain⟨⟨⟨⟨⟨h1,h2⟩,h4⟩,h5⟩,h6⟩,h7⟩:=h;have at7:∀ i x,N'[i]?=Ab x->i∈ts\/((scope.names.lookup x≠Ab .local/\scope.names.lookup x≠Ab .cell)/\(scope.names.lookup x≠Ab .free\/T.N[i]?=Ab x)):=fun i x e=>by
  have hi:=(Ba.mp e).1;have:=h7 i (Dv.mpr hi);rcases this with z|z
  ·exact .inl (by simpa using z)
  ·rw[e]at z;simp only[An,Kv,ne_eq,Dl,BS]at z;exact .inr z
 refine⟨⟨h1,h2,fun y hy hl=>by rw[h2 y hy,hl],fun y hy hf=>?_,by rw[v.N];exact h5,fun i x e hf hn=>?_,fun i x e hl=>?_⟩,M4 h6,h1⟩
 ·rw[v.sc];rcases h4 y hy with (z|z)|z
  ·exact absurd hf z
  ·exact .inl z
  ·exact .inr z
 ·rw[v.N];rcases at7 i x e with z|⟨_,z⟩
  ·exact absurd z hn
  ·exact z.resolve_left fun q=>q hf
 ·rcases at7 i x e with z|⟨z,_⟩
  ·exact z
  ·exact hl.elim (fun q=>absurd q z.1) (fun q=>absurd q z.2)
theorem VX.blk{xs:Ac Ak}{cl:Ac (Ak×Al)}{C:Al}{s:Ap}{fp:Ac Al}(v:VX Γ CL k W T X)(h:MG T scope ts (Le ts xs T.N)=Aa):VX Γ CL k W0 (T.blk scope ts xs) (cxC X scope cl C (Le ts xs T.N) s H fp):=by
 obtain⟨_,h2,h3⟩:=QB v h;exact⟨Z5 v scope,h3,rfl,h2,v.calm,v.room,v.bl,v.fn,PassesOwn.never,Vs,Rs,v.xt,v.gl⟩
theorem fU{t:Ag}(v:VX Γ CL k W T X)(hfn:scope.names.lookup x=Ab .cell->X.fn x=Aa)(h:tgO T scope t x=Aa):PG X (.Name x pos) (Fn t):=by
 unfold tgO at h;simp only[An,Dl,BS]at h;rcases h with ⟨h1,h2|h2⟩
 ·exact L9 (by rw[v.N];exact v.nd) (by rw[v.N];exact h1) (by rw[v.sc];exact .inl h2) (.inr (by rw[v.sc];exact h2))
 ·exact L9 (by rw[v.N];exact v.nd) (by rw[v.N];exact h1) (by rw[v.sc];exact .inr h2.1) (.inl (hfn h2.2))
theorem Oy{r:Ac Ar}{zs:Ac Ak}(h:Fl (y::r)=Ab zs):∃ x p ws,y=.Name x p/\Fl r=Ab ws/\zs=x::ws:=by
 cases y with
 |Name x p=>
  have h':(Fl r).map (x :: ·)=Ab zs:=h;cases e:Fl r with
  |none=>rw[e]at h';cases h'
  |some ws=>rw[e]at h';cases h';exact⟨x,p,ws,rfl,rfl,rfl⟩
 |_=>cases h
theorem O7(x:Ak)(p:Bb)(r:Ac Ar)(env:Cy):CA (.Name x p::r) env=(Ad,assign (.Name x p) env)::CA r env:=rfl
theorem Ox:∀(ys:Ac Ar)(zs:Ac Ak),Fl ys=Ab zs->(CA ys env).length=ys.length/\(CA ys env).findIdx? (·.1)=Af/\(CA ys env).map (·.2)=ys.map fun y=>assign y env:=by
 intro ys
 induction ys with
 |nil=>intro _ _;exact⟨rfl,rfl,rfl⟩
 |cons y r ih=>
  intro zs h;obtain⟨x,p,ws,rfl,e,rfl⟩:=Oy h;obtain⟨h1,h2,h3⟩:=ih ws e;rw[O7];refine⟨?_,?_,?_⟩
  ·rw[Ck,Ck,h1]
  ·rw[List.findIdx?_cons,h2];simp
  ·rw[B7,B7,h3]
theorem fY(v:VX Γ CL k W T X):∀(ys:Ac Ar)(ts:Ac Ag)(zs:Ac Ak),Fl ys=Ab zs->tgB T ts zs=Aa->PGs X ys (ts.foldr (fun t u=>HX (Fn t) u) Ib)/\ts.length=ys.length:=by
 intro ys
 induction ys with
 |nil=>
  intro ts zs e h;cases e;cases ts with
  |nil=>exact⟨Pz,rfl⟩
  |cons t ts=>cases h
 |cons y r ih=>
  intro ts zs e h;obtain⟨x,p,ws,rfl,e2,rfl⟩:=Oy e;cases ts with
  |nil=>cases h
  |cons t ts=>
   have h':(T.N[t]? == Ab x&&T.sc.names.lookup x==Ab .local&&tgB T ts ws)=Aa:=h;simp only[An,BS]at h';obtain⟨h1,h2⟩:=ih ts ws e2 h'.2;exact⟨M8 (L9 (by rw[v.N];exact v.nd) (by rw[v.N];exact h'.1.1) (by rw[v.sc];exact .inl h'.1.2) (.inr (by rw[v.sc];exact h'.1.2))) h1 (by rw[O7];rfl),congrArg (· + 1) h2⟩
theorem fX(v:VX Γ CL k W T X)(hn:(Fl ys).isSome=Aa)(h:tgB T ts (tgN ys)=Aa):PG X (.Tuple ys kk pos) (Lk X.K ts.length (ts.foldr (fun t u=>HX (Fn t) u) Ib)):=by
 cases e:Fl ys with
 |none=>rw[e]at hn;cases hn
 |some zs=>
  have e2:tgN ys=zs:=by unfold tgN;rw[e];rfl
  rw[e2]at h;obtain⟨h1,h2⟩:=fY v ys ts zs e h;obtain⟨h3,h4,_⟩:=Ox (env:=X.env) ys zs e;exact Nz v.calm h1 (by rw[h3,h2]) h4
end
noncomputable def Es.len:Es->Ag
 |.nil=>0
 |.cons _ es=>es.len+1
theorem PV(Γ:Gam)(ρ:Rho):∀(es:Es)(ds:Ac D),evA Γ ρ es=.ok ds->ds.length=es.len
 |.nil,ds,h=>by cases h;rfl
 |.cons e es,ds,h=>by
  obtain⟨x,h1,h2⟩:=JW (T6 Γ ρ e es ▸ h);obtain⟨xs,h3,h4⟩:=JW h2;cases h4;exact congrArg (· + 1) (PV Γ ρ es xs h3)
theorem UV(Γ:Gam)(ρ:Rho):∀(es:Es)(ds:Ac D),evB Γ ρ es=.ok ds->ds.length=es.len
 |.nil,ds,h=>by cases h;rfl
 |.cons e es,ds,h=>by
  obtain⟨x,h1,h2⟩:=JW (T5 Γ ρ e es ▸ h);obtain⟨xs,h3,h4⟩:=JW h2;cases h4;exact congrArg (· + 1) (UV Γ ρ es xs h3)
theorem Vh(Γ:Gam)(ρ:Rho)(e:E)(h:shE ρ e=Aa):top ρ e (evE Γ ρ e)=evE Γ ρ e:=by
 cases e with
 |var i=>
  show Gd ρ i=Fa ρ i;have h':shV ρ i=Aa:=h;unfold shV at h';unfold Gd Fa;cases q:ρ[i]? with
  |none=>rfl
  |some x=>
   cases x with
   |none=>rfl
   |some y=>
    obtain⟨d,o⟩:=y;cases o with
    |true=>rw[q]at h';cases h'
    |false=>rfl
 |_=>rfl
theorem Vb(Γ:Gam)(ρ:Rho):∀(es:Es),JF ρ es=Aa->evB Γ ρ es=evA Γ ρ es
 |.nil,_=>rfl
 |.cons e es,h=>by
  simp only[bN,An]at h;rw[T6,T5,Vh Γ ρ e h.1,Vb Γ ρ es h.2]
theorem Qp(Γ:Gam)(c:E):Rf (fun ρ=>evE Γ ρ c) (fun ρ=>top ρ c (evE Γ ρ c)):=fun ρ=>by
 by_cases h:shE ρ c=Aa
 ·exact .inr (Vh Γ ρ c h).symm
 ·cases c with
  |var i=>
   refine .inl ?_;show Fa ρ i=.bad;have h':¬ shV ρ i=Aa:=h;unfold shV at h';unfold Fa;cases q:ρ[i]? with
   |none=>rfl
   |some x=>
    cases x with
    |none=>rfl
    |some y=>
     obtain⟨d,o⟩:=y;cases o with
     |true=>rfl
     |false=>rw[q]at h';exact absurd rfl h'
  |_=>exact absurd rfl h
def Pcs(X:Cx)(CL:ClA)(W:XW)(e:Ar)(f:Rho->R D):Prop:=∃ tg iter elt ifs scope pos N' ts fi fc fe as g,e=.ListComp elt [⟨tg,iter,ifs,0⟩] scope pos/\BlockOk X scope N' ts/\SI X CL W tg iter fi/\GG X.K CL ts as g /\
 (∀ cl C s H fp,PG (cxC X scope cl C N' s H fp) tg g)/\(∀ cl C s H fp,STs (cxC X scope cl C N' s H fp) CL ifs fc)/\(∀ cl C s H fp,SE (cxC X scope cl C N' s H fp) CL W0 elt fe)/\(∀ x,Dk iter X.env x=pure x) /\
 ∀ ρ,f ρ=(fi ρ).bind fun xs=>(noX (BH (fun x=>(as x ρ).bind fc) (fun x=>(as x ρ).bind fe) xs)).bind fun ys=>.ok (.lst ys)
theorem Pcs.sc{W:XW}{e:Ar}{f:Rho->R D}(hc:X.calm=Aa)(h:Pcs X CL W e f):SC X CL W Aa e f:=by
 obtain⟨tg,iter,elt,ifs,scope,pos,N',ts,fi,fc,fe,as,g,rfl,B,hi,hGG,hg,ht,he,hs,ef⟩:=h;exact SC.congr (iZ hc B hi hGG hg ht he hs) ef
structure OkE (Γ:Gam) (CL:ClA) (W:XW) (X:Cx) (e:Ar) (c:E):Prop where
 se:SE X CL W e (fun ρ=>evE Γ ρ c)
 st:ST X CL W e (fun ρ=>top ρ c (evE Γ ρ c))
 nw:E2 Γ c=Aa->SC X CL W Aa e (fun ρ=>evE Γ ρ c)
 cp:KZ e=Ad->Pcs X CL W e (fun ρ=>evE Γ ρ c)
section
variable{Γ:Gam}{CL:ClA}{W:XW}{X:Cx}{e:Ar}{c:E}
theorem EE(h:SE X CL W e (fun ρ=>evE Γ ρ c))(ht:∀ ρ r,top ρ c r=r)(hn:E2 Γ c=Ad)(hc:KZ e=Aa):OkE Γ CL W X e c:=
 ⟨h,by simp only[ht];exact h.st,fun z=>absurd z (by rw[hn];decide),fun z=>absurd z (by rw[hc];decide)⟩
theorem Mm(h:SC X CL W Aa e (fun ρ=>evE Γ ρ c))(ht:∀ ρ r,top ρ c r=r)(hc:KZ e=Aa):OkE Γ CL W X e c:=
 ⟨h.se,by simp only[ht];exact h.se.st,fun _=>h,fun z=>absurd z (by rw[hc];decide)⟩
theorem V4(hc:X.calm=Aa)(h:Pcs X CL W e (fun ρ=>evE Γ ρ c))(ht:∀ ρ r,top ρ c r=r):OkE Γ CL W X e c:=
 ⟨(h.sc hc).se,by simp only[ht];exact(h.sc hc).se.st,fun _=>h.sc hc,fun _=>h⟩
end
theorem ah{k:Ki}(h:QR k=Ab x):∃ T,tyK k=Ab T/\Db x=Ab (.type T):=by
 cases k<;>simp only[QR]at h<;>cases h
 ·exact⟨_,rfl,PyProof.Rows.boot_int⟩
 ·exact⟨_,rfl,PyProof.Rows.boot_bool⟩
 ·exact⟨_,rfl,PyProof.Rows.boot_str⟩
 ·exact⟨_,rfl,F3⟩
 ·exact⟨_,rfl,FQ⟩
structure Snd (Γ:Gam) (CL:ClA) (k:Ag) (n:Ag):Prop where
 e:∀(W:XW)(T:Tc)(X:Cx)(x:Ar)(c:E),VX Γ CL k W T X->Bs n T x c=Aa->OkE Γ CL W X x c
 b:∀(W:XW)(T:Tc)(X:Cx)(x:Ar)(c:E),VX Γ CL k W T X->Ke n T x c=Aa->SB X CL W x (fun ρ=>(top ρ c (evE Γ ρ c)).bind CK)
 bs:∀(W:XW)(T:Tc)(X:Cx)(xs:Ac Ar)(es:Es)(pos:Bb),VX Γ CL k W T X->chkBs n T xs es=Aa->xs≠[]->SW X CL W (.BoolOp .And xs pos) (fun ρ=>(evN Γ ρ es).bind CK)/\SW X CL W (.BoolOp .Or xs pos) (fun ρ=>(evO Γ ρ es).bind CK)
 es:∀(W:XW)(T:Tc)(X:Cx)(xs:Ac Ar)(es:Es),VX Γ CL k W T X->chkEs n T xs es=Aa->SA X CL W xs (fun ρ=>evA Γ ρ es)/\SAT X CL W xs (fun ρ=>evB Γ ρ es)/\xs.length=es.len/\(∀ pos,xs≠[]->SE X CL W (.BoolOp .And xs pos) (fun ρ=>evN Γ ρ es)/\SE X CL W (.BoolOp .Or xs pos) (fun ρ=>evO Γ ρ es))/\(∀ pos,(CQ pos (AG xs X.env)).any (·.1)=Ad)
 o:∀(W:XW)(T:Tc)(X:Cx)(x:At Ar)(c:E),VX Γ CL k W T X->chkO n T x c=Aa->SO X CL W x (fun ρ=>(top ρ c (evE Γ ρ c)).bind (slE c))
 t:∀(T:Tc)(X:Cx)(xs:Ac Ar)(c:E),VX Γ CL k W0 T X->chkT n T xs c=Aa->STs X CL xs (fun ρ=>(top ρ c (evE Γ ρ c)).bind CK)
 i:∀(W:XW)(T:Tc)(X:Cx)(tu:Ao)(tg x:Ar)(i:I),VX Γ CL k W T X->RG tu tg=Aa->chkI n T tu x i=Aa->SI X CL W tg x (fun ρ=>evI Γ ρ i)
section
variable{Γ:Gam}{CL:ClA}{W:XW}{k n:Ag}{T:Tc}{X:Cx}
theorem cR:Snd Γ CL k 0:=⟨fun _ _ _ _ _ _ h=>absurd (show Ad=Aa from h) AI,fun _ _ _ _ _ _ h=>absurd (show Ad=Aa from h) AI,fun _ _ _ _ _ _ _ h=>absurd (show Ad=Aa from h) AI,fun _ _ _ _ _ _ h=>absurd (show Ad=Aa from h) AI,fun _ _ _ _ _ _ h=>absurd (show Ad=Aa from h) AI,fun _ _ _ _ _ h=>absurd (show Ad=Aa from h) AI,fun _ _ _ _ _ _ _ _ _ h=>absurd (show Ad=Aa from h) AI⟩
theorem Sf{x:Ar}(h:Ew x=Aa)(hx:(CQ pos (AG xs env)).any (·.1)=Ad):(CQ pos (AG (x::xs) env)).any (·.1)=Ad:=by
 rw[CV h];show (Ad||(CQ pos (AG xs env)).any (·.1))=Ad;rw[hx];rfl
theorem pP(S:Snd Γ CL k n)(W:XW)(T:Tc)(X:Cx)(xs:Ac Ar)(es:Es)(v:VX Γ CL k W T X)(h:chkEs (n+1) T xs es=Aa):SA X CL W xs (fun ρ=>evA Γ ρ es)/\SAT X CL W xs (fun ρ=>evB Γ ρ es)/\xs.length=es.len/\(∀ pos,xs≠[]->SE X CL W (.BoolOp .And xs pos) (fun ρ=>evN Γ ρ es)/\SE X CL W (.BoolOp .Or xs pos) (fun ρ=>evO Γ ρ es))/\(∀ pos,(CQ pos (AG xs X.env)).any (·.1)=Ad):=by
 cases xs with
 |nil=>
  cases es with
  |nil=>exact⟨oZ,jB,rfl,fun _ z=>absurd rfl z,fun _=>rfl⟩
  |cons=>simp[chkEs]at h
 |cons x xs=>
  cases es with
  |nil=>simp[chkEs]at h
  |cons e es=>
   simp only[chkEs,An]at h;obtain⟨⟨h0,h1⟩,h2⟩:=h;have he:=S.e W T X x e v h1;obtain⟨a1,a2,a3,a4,a5⟩:=S.es W T X xs es v h2;refine⟨jC he.se a1 (CV h0),cV he.st a2 (CV h0),congrArg (· + 1) a3,fun pos _=>?_,fun pos=>Sf h0 (a5 pos)⟩
   cases xs with
   |nil=>
    cases es with
    |nil=>exact⟨Vl he.se,Vl he.se⟩
    |cons=>cases a3
   |cons y ys=>
    cases es with
    |nil=>cases a3
    |cons e' es'=>
     obtain⟨b1,b2⟩:=a4 pos (by simp)
     exact⟨oV he.se b1,uS he.se b2⟩
theorem uW(S:Snd Γ CL k n)(W:XW)(T:Tc)(X:Cx)(x:At Ar)(c:E)(v:VX Γ CL k W T X)(h:chkO (n+1) T x c=Aa):SO X CL W x (fun ρ=>(top ρ c (evE Γ ρ c)).bind (slE c)):=by
 cases x with
 |none=>
  simp only[chkO]at h;split at h
  ·exact fJ
  ·cases h
 |some x=>
  simp only[chkO]at h;split at h
  ·cases h
  ·rename_i hne;have q:=fI (S.e W T X x c v h).st;have e:slE c=fun d=>(E1 d).bind fun i=>.ok (Ab i):=by
    funext d
    cases c<;>first|rfl|exact absurd rfl hne
   rw[e];exact q
theorem uU(S:Snd Γ CL k n)(T:Tc)(X:Cx)(xs:Ac Ar)(c:E)(v:VX Γ CL k W0 T X)(h:chkT (n+1) T xs c=Aa):STs X CL xs (fun ρ=>(top ρ c (evE Γ ρ c)).bind CK):=by
 cases xs with
 |nil=>
  simp only[chkT]at h;split at h
  ·exact gF
  ·cases h
 |cons x xs=>
  cases xs with
  |nil=>
   simp only[chkT]at h;exact gE (S.b W0 T X x c v h)
  |cons y ys=>simp[chkT]at h
theorem uX(S:Snd Γ CL k n)(W:XW)(T:Tc)(X:Cx)(tu:Ao)(tg x:Ar)(i:I)(v:VX Γ CL k W T X)(ht':RG tu tg=Aa)(h:chkI (n+1) T tu x i=Aa):SI X CL W tg x (fun ρ=>evI Γ ρ i):=by
 have ht:tu=Aa->yO tg=Aa:=fun z=>by
  subst z;cases tg<;>first|rfl|cases ht'
 cases i with
 |e a=>
  simp only[chkI]at h;exact Zb (S.e W T X x a v h).se
 |rng a=>
  simp only[chkI]at h;split at h
  ·simp only[An,BS]at h;obtain⟨⟨⟨rfl,h1⟩,h2⟩,h3⟩:=h;obtain⟨g1,g2,_,_⟩:=GY v h1;exact oG (S.e W T X _ a v h3).st g1 g2 (CV h2)
  ·cases h
 |rng2 a b=>
  simp only[chkI]at h;split at h
  ·simp only[An,BS]at h;obtain⟨⟨⟨⟨⟨rfl,h1⟩,h2⟩,h3⟩,h4⟩,h5⟩:=h;obtain⟨g1,g2,_,_⟩:=GY v h1;exact fL (S.e W T X _ a v h4).st (S.e W T X _ b v h5).st g1 g2 (by rw[CV h2,CV h3];rfl) (by rw[CV h3];rfl)
  ·cases h
 |zip a b=>
  simp only[chkI]at h;split at h
  ·simp only[An,BS]at h;obtain⟨⟨⟨⟨⟨⟨h0,rfl⟩,h1⟩,h2⟩,h3⟩,h4⟩,h5⟩:=h;obtain⟨g1,g2,_,_⟩:=GY v h1;have hg:=ht h0;cases tg with
   |Tuple es m tpos=>exact oF (S.e W T X _ a v h4).se (S.e W T X _ b v h5).se g1 g2 (by rw[CV h2,CV h3];rfl) (by rw[CV h3];rfl)
   |_=>cases hg
  ·cases h
 |zip3 a b c=>simp[chkI]at h
 |enm a=>
  simp only[chkI]at h;split at h
  ·simp only[An,BS]at h;obtain⟨⟨⟨⟨h0,rfl⟩,h1⟩,h2⟩,h3⟩:=h;obtain⟨g1,g2,_,_⟩:=GY v h1;have hg:=ht h0;cases tg with
   |Tuple es m tpos=>exact fM (S.e W T X _ a v h3).se g1 g2 (CV h2)
   |_=>cases hg
  ·cases h
theorem KD{c:Prop}[Gf c]{b:Ao}:(if c then R.ok (D.bl b) else .bad)=.bad\/∃ b',(if c then R.ok (D.bl b) else .bad)=.ok (.bl b'):=by
 by_cases h:c
 ·rw[Ay h];exact .inr ⟨_,rfl⟩
 ·rw[AH h];exact .inl rfl
theorem eS(op:Ft)(d d':D):Cq op d d'=.bad\/∃ b,Cq op d d'=.ok (.bl b):=by
 cases op with
 |Eq=>exact KD
 |NotEq=>exact KD
 |In=>
  cases d' with
  |lst ys=>exact KD
  |tup ys=>exact KD
  |dic kvs=>
   show (match Li d with|some k=>R.ok (D.bl (kvs.any fun p=>p.1==k))|none=>.bad)=.bad\/∃ b,(match Li d with|some k=>R.ok (D.bl (kvs.any fun p=>p.1==k))|none=>.bad)=.ok (.bl b)
   cases Li d with
   |some k=>exact .inr ⟨_,rfl⟩
   |none=>exact .inl rfl
  |_=>cases d<;>exact .inl rfl
 |NotIn=>
  cases d' with
  |lst ys=>exact KD
  |tup ys=>exact KD
  |_=>cases d<;>exact .inl rfl
 |Is=>
  cases d' with
  |non=>cases d<;>first|exact .inr ⟨_,rfl⟩|exact .inl rfl
  |_=>cases d<;>first|exact .inl rfl|exact .inr ⟨_,rfl⟩
 |IsNot=>
  cases d' with
  |non=>cases d<;>first|exact .inr ⟨_,rfl⟩|exact .inl rfl
  |_=>cases d<;>first|exact .inl rfl|exact .inr ⟨_,rfl⟩
 |_=>
  cases d with
  |int i=>cases d'<;>first|exact .inr ⟨_,rfl⟩|exact .inl rfl
  |_=>exact .inl rfl
theorem UJ(op:Ft)(d d':D):(Cq op d d').bind CK=.bad\/(Cq op d d').bind CK=(Cq op d d').bind D6:=by
 rcases eS op d d' with h|⟨b,h⟩
 ·rw[h];exact .inl rfl
 ·rw[h];exact .inr rfl
theorem uO(e e':E)(es:Es):Rf (fun ρ=>(evN Γ ρ (.cons e (.cons e' es))).bind CK) (fun ρ=>((top ρ e (evE Γ ρ e)).bind CK).bind fun c=>if c=Aa then (evN Γ ρ (.cons e' es)).bind CK else .ok Ad):=fun ρ=>by
 have e0:evN Γ ρ (.cons e (.cons e' es))=(evE Γ ρ e).bind fun x=>(D6 x).bind fun c=>if c=Aa then evN Γ ρ (.cons e' es) else .ok (.bl Ad):=rfl
 dsimp only;rw[e0];rcases Qp Γ e ρ with z|z<;>dsimp only at z
 ·rw[z];exact .inl rfl
 ·rw[<-z];cases evE Γ ρ e with
  |bad=>exact .inl rfl
  |exn x=>exact .inr rfl
  |ok d=>
   cases d with
   |bl b=>cases b<;>exact .inr rfl
   |_=>exact .inl rfl
theorem uN(e e':E)(es:Es):Rf (fun ρ=>(evO Γ ρ (.cons e (.cons e' es))).bind CK) (fun ρ=>((top ρ e (evE Γ ρ e)).bind CK).bind fun c=>if c=Aa then .ok Aa else (evO Γ ρ (.cons e' es)).bind CK):=fun ρ=>by
 have e0:evO Γ ρ (.cons e (.cons e' es))=(evE Γ ρ e).bind fun x=>(D6 x).bind fun c=>if c=Aa then .ok (.bl Aa) else evO Γ ρ (.cons e' es):=rfl
 dsimp only;rw[e0];rcases Qp Γ e ρ with z|z<;>dsimp only at z
 ·rw[z];exact .inl rfl
 ·rw[<-z];cases evE Γ ρ e with
  |bad=>exact .inl rfl
  |exn x=>exact .inr rfl
  |ok d=>
   cases d with
   |bl b=>cases b<;>exact .inr rfl
   |_=>exact .inl rfl
theorem Rf.tru(e:E):Rf (fun ρ=>(evE Γ ρ e).bind CK) (fun ρ=>(top ρ e (evE Γ ρ e)).bind CK):=fun ρ=>by
 rcases Qp Γ e ρ with z|z<;>dsimp only at z ⊢
 ·rw[z];exact .inl rfl
 ·rw[<-z];exact .inr rfl
theorem pQ(S:Snd Γ CL k n)(W:XW)(T:Tc)(X:Cx)(xs:Ac Ar)(es:Es)(pos:Bb)(v:VX Γ CL k W T X)(h:chkBs (n+1) T xs es=Aa)(hne:xs≠[]):SW X CL W (.BoolOp .And xs pos) (fun ρ=>(evN Γ ρ es).bind CK)/\SW X CL W (.BoolOp .Or xs pos) (fun ρ=>(evO Γ ρ es).bind CK):=by
 cases xs with
 |nil=>exact absurd rfl hne
 |cons x xs=>
  cases es with
  |nil=>simp[chkBs]at h
  |cons e es=>
   simp only[chkBs,An]at h;obtain⟨h1,h2⟩:=h;have he:=S.b W T X x e v h1;cases xs with
   |nil=>
    cases es with
    |nil=>exact⟨SW.ref (gD he) (Rf.tru e),SW.ref (pL he) (Rf.tru e)⟩
    |cons=>
     cases n with
     |zero=>simp[chkBs]at h2
     |succ n=>simp[chkBs]at h2
   |cons y ys=>
    cases es with
    |nil=>
     cases n with
     |zero=>simp[chkBs]at h2
     |succ n=>simp[chkBs]at h2
    |cons e' es'=>
     obtain⟨b1,b2⟩:=S.bs W T X (y::ys) (.cons e' es') pos v h2 (by simp)
     exact⟨SW.ref (pM he b1) (uO e e' es'),SW.ref (uT he b2) (uN e e' es')⟩
theorem uZ(S:Snd Γ CL k n)(W:XW)(T:Tc)(X:Cx)(x:Ar)(c:E)(v:VX Γ CL k W T X)(h:Ke (n+1) T x c=Aa):SB X CL W x (fun ρ=>(top ρ c (evE Γ ρ c)).bind CK):=by
 have plain:∀ e,O1 e=Aa->Bs n T e c=Aa->SB X CL W e (fun ρ=>(top ρ c (evE Γ ρ c)).bind CK):=fun e h1 h2=>oW (S.e W T X e c v h2).st (fZ h1)
 simp only[Ke]at h;split at h
 ·split at h
  ·rename_i a;refine SB.ref (oX (S.b W T X _ a v h)) fun ρ=>?_
   show ((top ρ a (evE Γ ρ a)).bind fun x=>(D6 x).bind fun b=>.ok (.bl (!b))).bind CK=.bad\/((top ρ a (evE Γ ρ a)).bind fun x=>(D6 x).bind fun b=>.ok (.bl (!b))).bind CK=_
   cases top ρ a (evE Γ ρ a) with
   |bad=>exact .inl rfl
   |exn x=>exact .inr rfl
   |ok d=>cases d<;>first|exact .inr rfl|exact .inl rfl
  ·cases h
 ·split at h
  ·simp only[An,BP,Eh]at h;exact(S.bs W T X _ _ _ v h.1 h.2).1.sb
  ·cases h
 ·split at h
  ·simp only[An,BP,Eh]at h;exact(S.bs W T X _ _ _ v h.1 h.2).2.sb
  ·cases h
 ·split at h
  ·split at h
   ·rename_i op a b _ _ op' y;simp only[An,BP,AJ]at h;obtain⟨⟨⟨rfl,h1⟩,h2⟩,h3⟩:=h;refine SB.ref (oY (KJ v.room.units _) (S.e W T X _ a v h2).st (S.e W T X _ b v h3).st h1) fun ρ=>?_
    show ((top ρ a (evE Γ ρ a)).bind fun x=>(top ρ b (evE Γ ρ b)).bind fun y=>Cq op' x y).bind CK=.bad\/((top ρ a (evE Γ ρ a)).bind fun x=>(top ρ b (evE Γ ρ b)).bind fun y=>Cq op' x y).bind CK=_
    cases top ρ a (evE Γ ρ a) with
    |bad=>exact .inl rfl
    |exn x=>exact .inr rfl
    |ok d=>
     cases top ρ b (evE Γ ρ b) with
     |bad=>exact .inl rfl
     |exn x=>exact .inr rfl
     |ok d'=>
      dsimp only[R.bind];exact UJ _ d d'
   ·cases h
  ·split at h
   ·rename_i op1 op2 a b c _ _ o1 o2 y z;simp only[An,BP,AJ]at h;obtain⟨⟨⟨⟨⟨rfl,rfl⟩,h1⟩,h2⟩,h3⟩,h4⟩:=h;refine SB.ref (cU v.room.units (S.e W T X _ a v h2).st (S.e W T X _ b v h3).st (S.e W T X _ c v h4).st h1) fun ρ=>?_
    show ((top ρ a (evE Γ ρ a)).bind fun x=>(top ρ b (evE Γ ρ b)).bind fun y=>(Cq o1 x y).bind fun z=>(D6 z).bind fun k=>if k=Aa then (top ρ c (evE Γ ρ c)).bind fun u=>Cq o2 y u else .ok (.bl Ad)).bind CK=.bad\/((top ρ a (evE Γ ρ a)).bind fun x=>(top ρ b (evE Γ ρ b)).bind fun y=>(Cq o1 x y).bind fun z=>(D6 z).bind fun k=>if k=Aa then (top ρ c (evE Γ ρ c)).bind fun u=>Cq o2 y u else .ok (.bl Ad)).bind CK=_
    cases top ρ a (evE Γ ρ a) with
    |bad=>exact .inl rfl
    |exn x=>exact .inr rfl
    |ok d=>
     cases top ρ b (evE Γ ρ b) with
     |bad=>exact .inl rfl
     |exn x=>exact .inr rfl
     |ok d'=>
      dsimp only[R.bind];cases Cq o1 d d' with
      |bad=>exact .inl rfl
      |exn x=>exact .inr rfl
      |ok d3=>
       cases d3 with
       |bl k=>
        cases k with
        |false=>exact .inr rfl
        |true=>
         dsimp only[R.bind,D6];rw[Ay rfl,Ay rfl];cases top ρ c (evE Γ ρ c) with
         |bad=>exact .inl rfl
         |exn x=>exact .inr rfl
         |ok d4=>exact UJ _ d' d4
       |_=>exact .inl rfl
   ·cases h
  ·cases h
 ·simp only[An]at h;exact plain _ h.1 h.2
end
section
variable{Γ:Gam}{CL:ClA}{W:XW}{k n:Ag}{T:Tc}{X:Cx}
theorem ai{b:BI}{x:Ar}(v:VX Γ CL k W T X)(hb:QS b=Ab g)(hg:isB T g=Aa)(hs:SAT X CL W (x::xs) (fun ρ=>evB Γ ρ as))(h0:Ew x=Aa)(hpl:∀ pos,(CQ pos (AG xs X.env)).any (·.1)=Ad):OkE Γ CL W X (.Call (.Name g p) (x::xs) [] pos) (.bi b as):=by
 obtain⟨g1,g2,g3,g4⟩:=GY v hg;cases b<;>simp only[QS]at hb<;>cases hb
 ·exact EE (KY uJ g1 g2 PySem.boot_len hs g3 g4 (CV h0) hpl) (fun _ _=>rfl) rfl rfl
 ·exact EE (KY (uI v.calm) g1 g2 PyProof.Rows.boot_max hs g3 g4 (CV h0) hpl) (fun _ _=>rfl) rfl rfl
 ·exact EE (KY (uH v.calm) g1 g2 PyProof.Rows.boot_min hs g3 g4 (CV h0) hpl) (fun _ _=>rfl) rfl rfl
 ·exact Mm (pY kY g1 g2 F3 hs g3 g4 (CV h0) hpl) (fun _ _=>rfl) rfl
 ·exact EE (oU eT g1 g2 FQ hs g3 g4 (CV h0) hpl) (fun _ _=>rfl) rfl rfl
 ·exact EE (KY (uL v.calm) g1 g2 PyProof.Rows.boot_all hs g3 g4 (CV h0) hpl) (fun _ _=>rfl) rfl rfl
 ·exact EE (KY (uK v.calm) g1 g2 PyProof.Rows.boot_any hs g3 g4 (CV h0) hpl) (fun _ _=>rfl) rfl rfl
 ·exact EE (KY (uG v.calm) g1 g2 PyProof.Rows.boot_sum hs g3 g4 (CV h0) hpl) (fun _ _=>rfl) rfl rfl
 ·exact Mm (pZ bR g1 g2 PyProof.Rows.boot_sorted hs g3 g4 (CV h0) hpl) (fun _ _=>rfl) rfl
theorem OP{x:Ar}{es:Es}(h:chkEs n T (x::xs) es=Aa):Ew x=Aa/\∃ e es',es=.cons e es'/\∃ m,n=m+1/\chkEs m T xs es'=Aa:=by
 cases n with
 |zero=>simp[chkEs]at h
 |succ m=>
  cases es with
  |nil=>simp[chkEs]at h
  |cons e es=>
   simp only[chkEs,An]at h;exact⟨h.1.1,e,es,rfl,m,rfl,h.2⟩
theorem SH:∀(m:Ag)(xs:Ac Ar)(es:Es),chkEs m T xs es=Aa->∀ pos,(CQ pos (AG xs X.env)).any (·.1)=Ad:=by
 intro m
 induction m with
 |zero=>intro xs es h;simp[chkEs]at h
 |succ m ih=>
  intro xs es h pos;cases xs with
  |nil=>rfl
  |cons x xs=>
   obtain⟨h0,e,es',rfl,m',e1,h1⟩:=OP h;cases e1;exact Sf h0 (ih xs es' h1 pos)
theorem pJ(S:Snd Γ CL k n){x:Ar}{b:BI}(v:VX Γ CL k W T X)(h:(match Q2 as with|some (a,c)=>(match RS x with|some (y,z,_)=>decide (b=.tlt) && !behindInMarks .Lt z&&Bs n T y a&&Bs n T z c|none=>Ad)|none=>Ad)=Aa):OkE Γ CL W X x (.bi b as):=by
 simp[Q2]at h
theorem sU{x:Ar}{b:BI}(v:VX Γ CL k W T X)(h:RN T x b as=Aa):OkE Γ CL W X x (.bi b as):=by
 exact absurd h AI
theorem pN(S:Snd Γ CL k n){x:Ar}{b:BI}(v:VX Γ CL k W T X)(h:(match Q4 as with|some (a,k)=>(match RH x with|some (y,j)=>decide (b=.stp)&&decide (j=k)&&decide (0<=k)&&Bs n T y a|none=>Ad)|none=>Ad)=Aa):OkE Γ CL W X x (.bi b as):=by
 simp[Q4]at h
theorem qE(S:Snd Γ CL k n){x:Ar}{b:BI}(v:VX Γ CL k W T X)(h:(match Mx as with|some (a,c)=>(match ME x with|some (g,h,y,z)=>decide (b=.list)&&g==("list" : Ak)&&h==("range" : Ak)&&isB T g&&isB T h&&Ew y&&Ew z&&Bs n T y a&&Bs n T z c|none=>Ad)|none=>Ad)=Aa):OkE Γ CL W X x (.bi b as):=by
 cases q1:Mx as with
 |none=>rw[q1]at h;cases h
 |some t1=>
  obtain⟨a,c⟩:=t1;cases q2:ME x with
  |none=>rw[q1,q2]at h;cases h
  |some t2=>
   obtain⟨g,f,y,z⟩:=t2;rw[q1,q2]at h;simp only[An,BS,AJ]at h;obtain⟨⟨⟨⟨⟨⟨⟨⟨rfl,rfl⟩,rfl⟩,h1⟩,h2⟩,h3⟩,h4⟩,h5⟩,h6⟩:=h;obtain⟨p,p',pos,pos',rfl⟩:=lO q2;have e:=eX q1;subst e;obtain⟨g1,g2,_,_⟩:=GY v h1;obtain⟨g3,g4,_,_⟩:=GY v h2;refine Mm (SC.congr (pX (S.e W T X _ a v h5).st (S.e W T X _ c v h6).st v.calm g1 g2 g3 g4 (by rw[CV h3,CV h4];rfl) (by rw[CV h4];rfl)) fun ρ=>?_) (fun _ _=>rfl) rfl
   simp only[NA,evB,eL,eK,eA,R.bind_assoc,R.bind_ok,RC,sV]
theorem lL(S:Snd Γ CL k n){x:Ar}{b:BI}(v:VX Γ CL k W T X)(h:(match Mw as with|some a=>(match MD x with|some (g,h,y)=>decide (b=.lset)&&g==("len" : Ak)&&h==("set" : Ak)&&isB T g&&isB T h&&Ew y&&Bs n T y a|none=>Ad)|none=>Ad)=Aa):OkE Γ CL W X x (.bi b as):=by
 cases q1:Mw as with
 |none=>rw[q1]at h;cases h
 |some a=>
  cases q2:MD x with
  |none=>rw[q1,q2]at h;cases h
  |some t2=>
   obtain⟨g,f,y⟩:=t2;rw[q1,q2]at h;simp only[An,BS,AJ]at h;obtain⟨⟨⟨⟨⟨⟨rfl,rfl⟩,rfl⟩,h1⟩,h2⟩,h3⟩,h4⟩:=h;obtain⟨p,p',pos,pos',rfl⟩:=lK q2;have e:=eW q1;subst e;obtain⟨g1,g2,_,_⟩:=GY v h1;obtain⟨g3,g4,_,_⟩:=GY v h2;refine EE (SE.congr (fN (S.e W T X _ a v h4).st v.calm g1 g2 g3 g4 (by rw[CV h3];rfl)) fun ρ=>?_) (fun _ _=>rfl) rfl rfl
   simp only[NA,evB,R.bind_assoc,R.bind_ok]
theorem uY(S:Snd Γ CL k n)(W:XW)(T:Tc)(X:Cx)(x:Ar)(c:E)(v:VX Γ CL k W T X)(h:Bs (n+1) T x c=Aa):OkE Γ CL W X x c:=by
 cases c with
 |non=>
  unfold Bs at h;dsimp only at h;split at h
  ·exact EE oM (fun _ _=>rfl) rfl rfl
  ·cases h
 |bl b=>
  unfold Bs at h;dsimp only at h;split at h
  ·have e:=eq_of_beq h;subst e;exact EE xE (fun _ _=>rfl) rfl rfl
  ·cases h
 |int i=>
  unfold Bs at h;dsimp only at h;split at h
  ·have e:=Ee h;subst e;exact EE oP (fun _ _=>rfl) rfl rfl
  ·cases h
 |str i=>
  unfold Bs at h;dsimp only at h;split at h
  ·have e:=Ee h;subst e;exact EE oJ (fun _ _=>rfl) rfl rfl
  ·cases h
 |var i=>
  unfold Bs at h;dsimp only at h;split at h
  ·exact⟨oH (HQ v h),pR (HQ v h),fun z=>(nomatch z),fun z=>(nomatch z)⟩
  ·cases h
 |glob g=>exact absurd (show Ad=Aa from h) AI
 |bin op a b=>
  unfold Bs at h;dsimp only at h;split at h
  ·simp only[An,AJ]at h;obtain⟨⟨rfl,h1⟩,h2⟩:=h;have ha:=(S.e W T X _ a v h1).st;have hb:=(S.e W T X _ b v h2).st;refine⟨Vm (Uj _) ha hb,(Vm (Uj _) ha hb).st,fun z=>?_,fun z=>nomatch z⟩
   rename_i op' _ _;cases op'<;>first|exact oD ha hb|cases z
  ·cases h
 |un op a=>
  unfold Bs at h;dsimp only at h;split at h
  ·simp only[An,AJ]at h;obtain⟨rfl,h1⟩:=h;exact EE (oN (S.e W T X _ a v h1).st) (fun _ _=>rfl) rfl rfl
  ·cases h
 |no a=>
  unfold Bs at h;dsimp only at h;split at h
  ·exact EE (oK (S.e W T X _ a v h).st) (fun _ _=>rfl) rfl rfl
  ·cases h
 |and es=>
  unfold Bs at h;dsimp only at h;split at h
  ·simp only[An,BP,Eh]at h;exact EE ((S.es W T X _ es v h.1).2.2.2.1 _ h.2).1 (fun _ _=>rfl) rfl rfl
  ·cases h
 |or es=>
  unfold Bs at h;dsimp only at h;split at h
  ·simp only[An,BP,Eh]at h;exact EE ((S.es W T X _ es v h.1).2.2.2.1 _ h.2).2 (fun _ _=>rfl) rfl rfl
  ·cases h
 |cmp op a b=>
  unfold Bs at h;dsimp only at h;split at h
  ·simp only[An,BP,AJ]at h;obtain⟨⟨⟨rfl,h1⟩,h2⟩,h3⟩:=h;exact EE (oS (KJ v.room.units _) (S.e W T X _ a v h2).st (S.e W T X _ b v h3).st h1) (fun _ _=>rfl) rfl rfl
  ·cases h
 |cmp2 op1 op2 a b c=>
  unfold Bs at h;dsimp only at h;split at h
  ·simp only[An,BP,AJ]at h;obtain⟨⟨⟨⟨⟨rfl,rfl⟩,h1⟩,h2⟩,h3⟩,h4⟩:=h;exact EE (cT v.room.units (S.e W T X _ a v h2).st (S.e W T X _ b v h3).st (S.e W T X _ c v h4).st h1) (fun _ _=>rfl) rfl rfl
  ·cases h
 |ite c a b=>exact absurd (show Ad=Aa from h) AI
 |call f as=>
  unfold Bs at h;dsimp only at h;split at h
  ·rename_i g pp y ys qq;simp only[An,WZ,BS,AJ]at h;obtain⟨⟨⟨⟨⟨p,hp,⟨rfl,rfl⟩,hl⟩,h900⟩,h1⟩,h2⟩,h3⟩:=h;obtain⟨fa,fd,ps,m1,m2,m3,m4,m5,_⟩:=v.fn p hp;have hlt:p.2.2<1000:=by omega
   rw[Nat.mod_eq_of_lt hlt]at m4 m5;have m5:=m5 hlt;obtain⟨n2,n3,n4⟩:=PD h2;obtain⟨a1,a2,a3,a4,a5⟩:=S.es W T X _ as v h3;obtain⟨s0,e,es',rfl,m,rfl,s1⟩:=OP h3;have q:SC X CL W (Γ.fr p.2.1) (.Call (.Name p.1 pp) (y::ys) [] qq) (fun ρ=>evE Γ ρ (.call p.2.1 (.cons e es'))):=jA (sh:=fun ρ=>JF ρ (.cons e es')) m5 v.room (by unfold glB at h1;show X.env.scope.names.lookup p.1=_;rw[v.sc];exact eq_of_beq h1) m1 m2 m3 v.px a1 a2 (fun ρ z=>Vb Γ ρ _ z) (fun ρ ds z=>by rw[UV Γ ρ _ _ z,<-a3,hl];rfl) n2 (CV s0) (SH m ys es' s1)
   exact⟨q.se,q.se.st,fun z=>by
    have z':Γ.fr p.2.1=Aa:=z;rw[z']at q;exact q,fun z=>nomatch z⟩
  ·cases h
 |bi b as=>
  unfold Bs at h;dsimp only at h;simp only[Dl]at h;rcases h with ((((h|h)|h)|h)|h)|h
  ·split at h
   ·simp only[An,BS]at h;obtain⟨⟨h1,h2⟩,h3⟩:=h;obtain⟨s0,e,es',rfl,m,rfl,s1⟩:=OP h3;exact ai v h1 h2 (S.es W T X _ _ v h3).2.1 s0 (SH m _ es' s1)
   ·cases h
  ·exact sU v h
  ·exact qE S v h
  ·exact pN S v h
  ·exact lL S v h
  ·exact pJ S v h
 |isi a ks=>
  cases ks with
  |nil=>exact absurd (show Ad=Aa from h) AI
  |cons k' ks=>
   cases ks with
   |cons=>exact absurd (show Ad=Aa from h) AI
   |nil=>
    unfold Bs at h;dsimp only at h;split at h
    ·simp only[An,BS]at h;obtain⟨⟨⟨⟨⟨rfl,h1⟩,h2⟩,h3⟩,h4⟩,h5⟩:=h;obtain⟨g1,g2,_,_⟩:=GY v h1;obtain⟨b1,b2,b3,b4⟩:=GY v h3;obtain⟨ty,t1,t2⟩:=ah h2;exact EE (oO t1 g1 g2 b1 b2 t2 b3 b4 (S.e W T X _ a v h5).st (CV h4)) (fun _ _=>rfl) rfl rfl
    ·cases h
 |idx a i=>
  unfold Bs at h;dsimp only at h;split at h
  ·simp only[An]at h;obtain⟨⟨h1,h2⟩,h3⟩:=h;exact EE (oQ (cS h1) (S.e W T X _ a v h2).st (S.e W T X _ i v h3).st) (fun _ _=>rfl) rfl rfl
  ·cases h
 |sl a lo hi=>
  unfold Bs at h;dsimp only at h;split at h
  ·simp only[An]at h;obtain⟨⟨h1,h2⟩,h3⟩:=h;refine Mm (SC.congr (vE (S.e W T X _ a v h1).st (S.o W T X _ lo v h2) (S.o W T X _ hi v h3)) fun ρ=>?_) (fun _ _=>rfl) rfl
   show ((top ρ a (evE Γ ρ a)).bind fun x=>(top ρ lo (evE Γ ρ lo)).bind fun l=>(slE lo l).bind fun l'=>(top ρ hi (evE Γ ρ hi)).bind fun h=>(slE hi h).bind fun h'=>slD x l' h')=_
   simp only[R.bind_assoc]
  ·cases h
 |tup es=>
  unfold Bs at h;dsimp only at h;split at h
  ·simp only[An,AJ]at h;have q:=S.es W T X _ es v h.1;exact EE (oI q.1 fun ρ ds z=>by rw[PV Γ ρ _ _ z,<-q.2.2.1];omega) (fun _ _=>rfl) rfl rfl
  ·cases h
 |lst es=>
  unfold Bs at h;dsimp only at h;split at h
  ·simp only[An,AJ]at h;have q:=S.es W T X _ es v h.1;exact Mm (pW q.1 fun ρ ds z=>by rw[PV Γ ρ _ _ z,<-q.2.2.1];omega) (fun _ _=>rfl) rfl
  ·cases h
 |comp elt t it c=>
  unfold Bs at h;dsimp only at h;split at h
  ·simp only[An]at h;obtain⟨⟨⟨⟨⟨h1,h2⟩,h3⟩,h4⟩,h5⟩,h6⟩:=h;refine V4 v.calm ⟨_,_,_,_,_,_,_,_,_,_,_,_,_,rfl,(QB v h3).1,S.i W T X Ad _ _ it v rfl h1,mD t,fun cl C s H fp=>fU (v.blk h3) (fun z=>BS.mpr z) h4,fun cl C s H fp=>S.t _ _ _ c (v.blk h3) h5,fun cl C s H fp=>(S.e W0 _ _ _ elt (v.blk h3) h6).se,Nw h2,fun ρ=>rfl⟩ (fun _ _=>rfl)
  ·cases h
 |compT elt ts it c=>
  unfold Bs at h;dsimp only at h;split at h
  ·simp only[An]at h;obtain⟨⟨⟨⟨⟨⟨h0,h1⟩,h2⟩,h3⟩,h4⟩,h5⟩,h6⟩:=h;refine V4 v.calm ⟨_,_,_,_,_,_,_,_,_,_,_,_,_,rfl,(QB v h3).1,S.i W T X Aa _ _ it v rfl h1,tK ts,fun cl C s H fp=>fX (v.blk h3) h0 h4,fun cl C s H fp=>S.t _ _ _ c (v.blk h3) h5,fun cl C s H fp=>(S.e W0 _ _ _ elt (v.blk h3) h6).se,Nw h2,fun ρ=>rfl⟩ (fun _ _=>rfl)
  ·cases h
 |tupI it=>
  cases it with
  |zip3 a b c=>
   unfold Bs at h;dsimp only at h;cases q:NS x with
   |none=>rw[q]at h;cases h
   |some t=>
    obtain⟨g,f,y1,y2,y3⟩:=t;rw[q]at h;simp only[An,BS]at h;obtain⟨⟨⟨⟨⟨⟨⟨⟨⟨rfl,rfl⟩,h1⟩,h2⟩,h3⟩,h4⟩,h5⟩,h6⟩,h7⟩,h8⟩:=h;obtain⟨p,p',pos,pos',rfl⟩:=kU q;obtain⟨g1,g2,_,_⟩:=GY v h1;obtain⟨g3,g4,_,_⟩:=GY v h2;exact EE (oR (S.e W T X _ a v h6).se (S.e W T X _ b v h7).se (S.e W T X _ c v h8).se v.calm g1 g2 g3 g4 (by rw[CV h3,CV h4,CV h5];rfl) (by rw[CV h4,CV h5];rfl) (by rw[CV h5];rfl)) (fun _ _=>rfl) rfl rfl
  |_=>exact absurd (show Ad=Aa from h) AI
 |dnew=>exact absurd (show Ad=Aa from h) AI
 |fld o f=>exact absurd (show Ad=Aa from h) AI
theorem snd:∀ n,Snd Γ CL k n
 |0=>cR
 |n+1=>⟨uY (snd n),uZ (snd n),pQ (snd n),pP (snd n),uW (snd n),uU (snd n),uX (snd n)⟩
end
section
variable{Γ:Gam}{CL:ClA}{W:XW}{k n:Ag}{T:Tc}{X:Cx}
theorem fW{t:Ag}(v:VX Γ CL k W T X)(hf:∀ x,X.fn x=Aa)(h:tgC T [t] [x]=Aa):PG X (.Name x pos) (Fn t):=by
 unfold tgC at h;simp only[An,BS]at h;exact L9 (by rw[v.N];exact v.nd) (by rw[v.N];exact h.1.1) (by rw[v.sc];exact PJ h.1.2) (.inl (hf x))
theorem Us(v:VX Γ CL k W T X)(hf:∀ x,X.fn x=Aa):∀(ys:Ac Ar)(ts:Ac Ag)(zs:Ac Ak),Fl ys=Ab zs->tgC T ts zs=Aa->PGs X ys (ts.foldr (fun t u=>HX (Fn t) u) Ib)/\ts.length=ys.length:=by
 intro ys
 induction ys with
 |nil=>
  intro ts zs e h;cases e;cases ts with
  |nil=>exact⟨Pz,rfl⟩
  |cons t ts=>cases h
 |cons y r ih=>
  intro ts zs e h;obtain⟨x,p,ws,rfl,e2,rfl⟩:=Oy e;cases ts with
  |nil=>cases h
  |cons t ts=>
   have h':(T.N[t]? == Ab x&&Lg T x&&tgC T ts ws)=Aa:=h;simp only[An,BS]at h';obtain⟨h1,h2⟩:=ih ts ws e2 h'.2;exact⟨M8 (L9 (by rw[v.N];exact v.nd) (by rw[v.N];exact h'.1.1) (by rw[v.sc];exact PJ h'.1.2) (.inl (hf x))) h1 (by rw[O7];rfl),congrArg (· + 1) h2⟩
theorem fV(v:VX Γ CL k W T X)(hf:∀ x,X.fn x=Aa)(hn:(Fl ys).isSome=Aa)(h:tgC T ts (tgN ys)=Aa):PG X (.Tuple ys kk pos) (Lk X.K ts.length (ts.foldr (fun t u=>HX (Fn t) u) Ib)):=by
 cases e:Fl ys with
 |none=>rw[e]at hn;cases hn
 |some zs=>
  have e2:tgN ys=zs:=by unfold tgN;rw[e];rfl
  rw[e2]at h;obtain⟨h1,h2⟩:=Us v hf ys ts zs e h;obtain⟨h3,h4,_⟩:=Ox (env:=X.env) ys zs e;exact Nz v.calm h1 (by rw[h3,h2]) h4
theorem pK(v:VX Γ CL k W T X)(hf:∀ x,X.fn x=Aa)(hn:(Fl ys).isSome=Aa)(h:tgC T ts (tgN ys)=Aa):PG X (.Tuple ys kk pos) (gSq X.K ts.length (ts.foldr (fun t u=>HX (Fn t) u) Ib)):=by
 cases e:Fl ys with
 |none=>rw[e]at hn;cases hn
 |some zs=>
  have e2:tgN ys=zs:=by unfold tgN;rw[e];rfl
  rw[e2]at h;obtain⟨h1,h2⟩:=Us v hf ys ts zs e h;obtain⟨h3,h4,_⟩:=Ox (env:=X.env) ys zs e;exact yT v.calm h1 (by rw[h3,h2]) h4
theorem mL{e:Ar}(h:(V5 e||En 4 ys.length)=Aa):D5 [.Tuple ys kk pos] e env=pure Af:=by
 cases e with
 |Tuple vs a b=>
  have h4:=EX (show En 4 ys.length=Aa from h)
  have e2:(ys.length==2)=Ad:=by rw[DH];omega
  have e3:(ys.length==3)=Ad:=by rw[DH];omega
  unfold D5;dsimp only;rw[e2,e3];rfl
 |_=>rfl
theorem SK(ts:Ac Ag):∀ d ρ x,GE ts d ρ≠.exn x:=fun d ρ x h=>by
 unfold GE at h;cases d with
 |tup xs=>
  dsimp only at h;cases e:E5 ts xs ρ with
  |some r=>rw[e]at h;cases h
  |none=>rw[e]at h;cases h
 |_=>cases h
theorem bV(ts:Ac Ag):∀ d ρ x,Hm ts d ρ≠.exn x:=fun d ρ x h=>by
 unfold Hm at h;split at h
 ·split at h<;>cases h
 ·exact SK ts _ ρ x h
theorem eE{elt:Ar}{gs:Ac Comprehension}{pos':Bb}:∃ b,DT (.ListComp elt gs scope pos) (Ab (.Name x pos')) l env=pure b/\(b=Aa->env.scope.names.lookup x=Ab .local):=by
 refine⟨_,rfl,fun h=>?_⟩
 simp only[An,BS]at h;exact h.1.1.2
theorem Qr{v0:Ar}{i:Ag}{e:E}(v:VX Γ CL k W T X)(hf:∀ x,X.fn x=Aa)(hi:T.N[i]?=Ab x)(hl:Lg T x=Aa)(o:OkE Γ CL W X v0 e)(hfr:fr=Aa->E2 Γ e=Aa):SAs X CL W fr i (.Assign [.Name x p] v0 pos) (fun ρ=>evE Γ ρ e):=by
 have hN:X.N.Nodup:=by rw[v.N];exact v.nd
 have hi':X.N[i]?=Ab x:=by rw[v.N];exact hi
 have hx:Loc X.env.scope x:=by rw[v.sc];exact PJ hl
 have sc:SC X CL W fr v0 (fun ρ=>evE Γ ρ e):=by
  cases fr with
  |false=>exact o.se.sc
  |true=>exact o.nw (hfr rfl)
 cases hc:KZ v0 with
 |true=>exact SC.sas hN hi' hx sc (U1 hc) (.inl (hf x))
 |false=>
  obtain⟨tg,iter,elt,ifs,scope,pos2,N',ts,fi,fc,fe,as,g,rfl,B,h2,hGG,hg,ht,he,hs,ef⟩:=o.cp hc;obtain⟨b,hb,hb'⟩:=eE (elt:=elt) (gs:=[⟨tg,iter,ifs,0⟩]) (scope:=scope) (pos:=pos2) (pos':=p) (x:=x) (l:=pos.line) (env:=X.env);cases b with
  |false=>exact SC.sas hN hi' hx sc hb (.inl (hf x))
  |true=>
   have q:=cW (pos2:=pos) v.calm B h2 hGG hg ht he hs hN hi' (hb' rfl) hb;have q':SAs X CL W Aa i (.Assign [.Name x p] (.ListComp elt [⟨tg,iter,ifs,0⟩] scope pos2) pos) (fun ρ=>evE Γ ρ e):=by
    have:(fun ρ=>evE Γ ρ e)=_:=funext ef
    rw[this];exact q
   cases fr with
   |true=>exact q'
   | false=>exact fun A=>PS.weak (q' A) fun D σ H ⟨hA,ρ,gd,z⟩=>⟨hA,ρ,gd,by
     dsimp only at z ⊢;cases e0:evE Γ ρ e with
     |ok d=>
      rw[e0]at z;exact fun v' H' s' r'=>z v' H' s' ⟨r'.1,fun _=>r'.2 rfl⟩
     |exn y=>rw[e0]at z;exact z
     | bad=>rw[e0]at z;exact z⟩
theorem PR{e t:Ar}(h:∀ x p,t≠.Name x p):F8 [t] e l env=pure Ad:=by
 show DT e (Ab t) l env=pure Ad;cases e<;>first|rfl|(cases t<;>first|rfl|exact absurd rfl (h _ _))
theorem aO{y x' z:Ak}{p1 p2 p3 p4 p5 p6 tp p' q1:Bb}{kt q0:Ag}{o a o' a':Ar}:D5 [.Tuple [.Subscript (.Name x p1) (.Name y p2) p3,.Subscript (.Name x' p4) (.Name z p5) p6] kt tp] (.Tuple [.Subscript o a p,.Subscript o' a' p'] q0 q1) env=pure Af:=by
 unfold D5;cases env.blockKind<;>rfl
theorem Tl(ρ:Rho)(e:E)(h:∀ i,e≠.var i):evS Γ ρ (.ret e)=O.of ρ (evE Γ ρ e) fun d=>.ret d (E2 Γ e):=by
 cases e<;>first|exact absurd rfl (h _)|(simp only[evS,top,WL])
structure DefX (X:Cx):Prop where
 fn:∀ x,X.fn x=Aa
 ex:X.ex=[]
 st:X.stack=X.env::X.outer
 fm:X.env.frame=Ab X.env.locals
structure SndS (Γ:Gam) (CL:ClA) (k:Ag) (n:Ag):Prop where
 s:∀(W:XW)(T:Tc)(X:Cx)(x:B8)(c:S),VX Γ CL k W T X->DefX X->FZ n T x c=Aa->SS X CL W x (fun ρ=>evS Γ ρ c)
 ss:∀(W:XW)(T:Tc)(X:Cx)(x:Ac B8)(c:Ss),VX Γ CL k W T X->DefX X->chkSs n T x c=Aa->SSs X CL W x (fun ρ=>evSs Γ ρ c)
theorem VX.pw(v:VX Γ CL k W T X){pI:Pn}{Xw:Vq}(own:Gi (model X.prog X.w) X.A X.env Xw):VX Γ CL k W0 T (Cx.pw X pI Xw):=⟨v.sc,v.kd,v.N,v.nd,v.calm,v.room,v.bl,v.fn,own,Vs,Rs,v.xt,v.gl⟩
theorem STB.congr{st:Ac B8}{f g:Rho->O}(h:STB X CL st f)(e:∀ ρ,g ρ=f ρ):STB X CL st g:=by
 have:g=f:=funext e;rw[this];exact h
theorem uV(Z:SndS Γ CL k n)(W:XW)(T:Tc)(X:Cx)(st:B8)(c:S)(v:VX Γ CL k W T X)(hf:DefX X)(h:FZ (n+1) T st c=Aa):SS X CL W st (fun ρ=>evS Γ ρ c):=by
  have E:=snd (Γ:=Γ) (CL:=CL) (k:=k) n;cases c with
  |pass=>exact absurd (show Ad=Aa from h) AI
  |brk=>exact absurd (show Ad=Aa from h) AI
  |cont=>exact absurd (show Ad=Aa from h) AI
  |asg i fresh e=>
    unfold FZ at h;dsimp only at h;split at h
    · simp only[An,BS]at h;obtain⟨⟨h1,h2⟩,h3⟩:=h;have o:=E.e W T X _ e v h3;cases fresh with
      |false=>exact Vk (Qr (fr:=Ad) v hf.fn h1 h2 o (fun z=>nomatch z))
      |true=>
        cases hn:E2 Γ e with
        |true=>
          refine SS.ref (fH (Qr (fr:=Aa) v hf.fn h1 h2 o (fun _=>hn))) fun ρ=>.inr ?_
          show O.of ρ (evE Γ ρ e) (fun d=>if Aa=Aa then (if E2 Γ e=Aa then (match d with
            |.lst xs=>.next (ρ.set i (Ab (.lst xs,Aa)))
            |.dic xs=>.next (ρ.set i (Ab (.dic xs,Aa)))
            | _=>.bad) else .bad) else .next (ρ.set i (Ab (d,Ad))))=_
          rw[hn];rfl
        |false=>
          refine SS.ref (Vk (Qr (fr:=Ad) v hf.fn h1 h2 o (fun z=>nomatch z))) fun ρ=>?_
          have e0:evS Γ ρ (.asg i Aa e)=O.of ρ (evE Γ ρ e) (fun d=>if Aa=Aa then (if E2 Γ e=Aa then (match d with
            |.lst xs=>.next (ρ.set i (Ab (.lst xs,Aa)))
            |.dic xs=>.next (ρ.set i (Ab (.dic xs,Aa)))
            | _=>.bad) else .bad) else .next (ρ.set i (Ab (d,Ad)))):=rfl
          rw[e0,hn];cases evE Γ ρ e with
          |ok d=>exact .inl rfl
          |exn y=>exact .inr rfl
          |bad=>exact .inl rfl
    · cases h
  |asgT ts e=>
    unfold FZ at h;dsimp only at h;split at h
    · simp only[An]at h;obtain⟨⟨⟨h1,h2⟩,h3⟩,h5⟩:=h;exact fG (yF ts) (pK v hf.fn h1 h2) (E.e W T X _ e v h5).se (PR (fun _ _ z=>by cases z)) (mL h3) rfl (bV ts)
    · cases h
  |expr e=>
    unfold FZ at h;dsimp only at h;split at h
    · simp only[An]at h;exact fF (E.e W T X _ e v h.2).se (U1 h.1)
    · cases h
  |ret e=>
    unfold FZ at h;dsimp only at h;split at h
    · have o:=E.e W T X _ e v h;cases hv:E2 Γ e with
      |true=>
        refine SS.ref (gK (o.nw hv)) fun ρ=>.inr ?_
        rw[Tl ρ e (fun i z=>by subst z;cases hv),hv]
      |false=>
        cases e with
        |var i=>
          cases n with
          |zero=>exact absurd (show Ad=Aa from h) AI
          |succ n=>
            unfold Bs at h;dsimp only at h;split at h
            · exact gI (HQ v h)
            · cases h
        |_=>
          refine SS.ref (gJ o.se) fun ρ=>.inr ?_
          rw[Tl ρ _ (by intro i z;cases z),hv]
    · cases h
  |retN=>exact absurd (show Ad=Aa from h) AI
  |ife c a b=>
    unfold FZ at h;dsimp only at h;split at h
    · simp only[An]at h;exact vC (E.b W T X _ c v h.1.1) (Z.ss W T X _ a v hf h.1.2) (Z.ss W T X _ b v hf h.2)
    · cases h
  |fors t it body=>
    unfold FZ at h;dsimp only at h;split at h
    · simp only[An]at h;obtain⟨⟨⟨h1,h2⟩,h3⟩,h4⟩:=h;exact Vj v.own v.calm (mC t) (fW v hf.fn h1) (E.i W T X Ad _ _ it v rfl h3) (Z.ss W T X _ body v hf h4) (Nw h2) (fun _ _ _ z=>nomatch z)
    · cases h
  |forT ts it body=>
    unfold FZ at h;dsimp only at h;split at h
    · simp only[An]at h;obtain⟨⟨⟨⟨h0,h1⟩,h2⟩,h3⟩,h4⟩:=h;exact Vj v.own v.calm (U8 ts) (fV v hf.fn h0 h1) (E.i W T X Aa _ _ it v rfl h3) (Z.ss W T X _ body v hf h4) (Nw h2) (SK ts)
    · cases h
  |whl c body=>exact absurd (show Ad=Aa from h) AI
  |rais c as=>
    unfold FZ at h;dsimp only at h;cases hc:T.rzs.any (fun p=>p.2==c) with
    |false=>
      have hb:∀ ds,Γ.xn c ds=.bad:=v.xt.xb c fun p hp z=>by
        have:T.rzs.any (fun p=>p.2==c)=Aa:=List.any_eq_true.mpr ⟨p,hp,BS.mpr z⟩
        rw[hc]at this;cases this
      intro Fz B pI s σ H D I ⟨ρ,x,p⟩;have p':CJ X.K CL Fz B W (O.of ρ (noX (evA Γ ρ as)) fun xs=>O.of ρ (Γ.xn c xs) fun x=>.exn x ρ) D:=p
      cases e1:evA Γ ρ as with
      |bad=>rw[e1]at p';exact p'.elim
      |exn y=>rw[e1]at p';exact p'.elim
      |ok ds=>
        rw[e1]at p';have p2:CJ X.K CL Fz B W (O.of ρ (Γ.xn c ds) fun x=>.exn x ρ) D:=p'
        rw[hb ds]at p2;exact p2.elim
    |true=>rw[hc]at h;cases h
  |app i e=>
    unfold FZ at h;dsimp only at h;split at h
    · simp only[An,BS]at h;obtain⟨⟨⟨⟨rfl,h1⟩,h2⟩,h3⟩,h4⟩:=h;exact pV (HQ v h1) (E.e W T X _ e v h4).se rfl (by rw[CV h3];rfl) (by rw[h2];exact DM _) (CV h3) rfl
    · cases h
  |ext i e=>
    unfold FZ at h;dsimp only at h;split at h
    · simp only[An,BS]at h;rw[Dl]at h;obtain⟨⟨⟨⟨rfl,h1⟩,h2⟩,h3⟩,h5⟩:=h;rcases h5 with h5|h5
      · rw[An]at h5;obtain⟨h5,h4⟩:=h5;exact pU (HQ v h1) ((E.e W T X _ e v h4).nw (gX Γ h5)) rfl (by rw[CV h3];rfl) (by rw[h2];exact DM _) (CV h3) rfl
      · cases q:NQ e with
        |none=>rw[q]at h5;cases h5
        |some a=>
          rw[q]at h5;have eq:=eY q;subst eq;have fe:(fun ρ=>evS Γ ρ (.ext i (.bi .list (.cons (.bin .Add a (.tup .nil)) .nil))))=fun ρ=>O.of ρ (Dj ρ i) fun xs=>O.of ρ (top ρ a (evE Γ ρ a)) fun x=>O.of ρ ((CM .Add x (.tup [])).bind fun y=>biD .list [y]) fun d=>O.of ρ (La d) fun ys=>if Du (xs.length+ys.length)=Aa then .next (ρ.set i (Ab (.lst (xs++ys),Aa))) else .bad:=funext fun ρ=>by
            rw[kO];have e2:evE Γ ρ (.bi .list (.cons (.bin .Add a (.tup .nil)) .nil))=(top ρ a (evE Γ ρ a)).bind fun x=>(CM .Add x (.tup [])).bind fun y=>biD .list [y]:=by
              simp only[NA,evB,kQ,fS,fR,kP,evA,R.bind_ok,R.bind_assoc]
            rw[e2];cases Dj ρ i with
            |ok xs=>
              rw[O.of_ok,O.of_ok];cases top ρ a (evE Γ ρ a)<;>rfl
            |exn z=>rfl
            |bad=>rfl
          show SS X CL W _ (fun ρ=>evS Γ ρ (.ext i (.bi .list (.cons (.bin .Add a (.tup .nil)) .nil))))
          rw[fe];exact gL (HQ v h1) (E.e W T X _ a v h5).st rfl (by rw[CV h3];rfl) (by rw[h2];exact DM _) (CV h3) rfl
    · cases h
  |rev i=>exact absurd (show Ad=Aa from h) AI
  |clr i=>exact absurd (show Ad=Aa from h) AI
  |put i k e=>
    unfold FZ at h;dsimp only at h;split at h
    · simp only[An]at h;obtain⟨⟨⟨h1,h2⟩,h4⟩,h5⟩:=h;rename_i x p y sp v0 pos;exact pT (HQ v h1) (E.e W T X _ k v h4).st (E.e W T X _ e v h5).se (fun w=>by cases y<;>first|rfl|cases h2) (PR (fun _ _ z=>by cases z)) rfl rfl
    · cases h
  |tryx body c x hh=>exact absurd (show Ad=Aa from h) AI
  |swp i k l=>
    unfold FZ at h;dsimp only at h;cases q:Q5 st with
    |none=>rw[q]at h;cases h
    |some t=>
      obtain⟨x1,y1,x2,z1,v0⟩:=t;rw[q]at h;simp only[An]at h;obtain⟨⟨⟨⟨h1,h2⟩,h3⟩,h4⟩,h5⟩:=h;obtain⟨p1,p2,p3,p4,p5,p6,kt,tp,o,a,p,o',a',p',q0,q1,pos,rfl,rfl⟩:=gC q;exact pS v.calm (HQ v h1) (HQ v h2) (HQ v h3) (HQ v h4) (E.e W T X _ _ v h5).se (fun _=>rfl) (fun _=>rfl) (PR (fun _ _ z=>by cases z)) aO
  |ins=>exact absurd (show Ad=Aa from h) AI
  |dput=>exact absurd (show Ad=Aa from h) AI
  |dsd=>exact absurd (show Ad=Aa from h) AI
  |rel=>exact absurd (show Ad=Aa from h) AI
theorem pO(Z:SndS Γ CL k n)(W:XW)(T:Tc)(X:Cx)(xs:Ac B8)(c:Ss)(v:VX Γ CL k W T X)(hf:DefX X)(h:chkSs (n+1) T xs c=Aa):SSs X CL W xs (fun ρ=>evSs Γ ρ c):=by
 cases c with
 |nil=>
  simp only[chkSs,HB]at h;subst h;exact gH
 |cons s ss=>
  by_cases hr:∃ i,s=.rel i
  ·obtain⟨i,rfl⟩:=hr;simp only[chkSs]at h;exact gG i (Z.ss W T X xs ss v hf h)
  ·cases xs with
   |nil=>cases s<;>first|(simp[chkSs]at h;done)|exact absurd ⟨_,rfl⟩ hr
   |cons st r=>
    have h':FZ n T st s=Aa/\chkSs n T r ss=Aa:=by
     cases s<;>first|(simp only[chkSs,An]at h;exact h)|exact absurd ⟨_,rfl⟩ hr
    exact cQ (Z.s W T X st s v hf h'.1) (Z.ss W T X r ss v hf h'.2)
theorem Q7:∀ n,SndS Γ CL k n
 |0=>⟨fun _ _ _ _ _ _ _ h=>absurd (show Ad=Aa from h) AI,fun _ _ _ _ _ _ _ h=>absurd (show Ad=Aa from h) AI⟩
 |n+1=>⟨uV (Q7 n),pO (Q7 n)⟩
end
theorem LO{n:Ag}{ds:Ac D}{i:Ag}{d:D}{o:Ao}(h:(BG n ds)[i]?=Ab (Ab (d,o))):o=Ad/\ds[i]?=Ab d:=by
 unfold BG at h;by_cases hi:i<ds.length
 ·rw[Fp (by simpa using hi),D7]at h
  cases e:ds[i]? with
  |none=>rw[e]at h;cases h
  |some x=>rw[e]at h;cases h;exact⟨rfl,rfl⟩
 ·rw[W7 (by simpa using Nat.le_of_not_lt hi),W8]at h
  split at h<;>cases h
theorem bL{N:Ac Ak}{i:Ag}{v:V}(h:vs[i]?=Ab v):(L2.start N vs)[i]?=Ab (Ab v):=by
 unfold L2.start;have hi:=(Ba.mp h).1;rw[Fp (by simpa using hi),D7,h]
 rfl
theorem eC{K:Fg}{A:Al->Prop}{N:Ac Ak}{n:Ag}{ds:Ac D}(hn:N.length=n)(hA:AOk H A)(r:Reps K CL H A vs ds):Sx K CL (fun b o=>H b=Ab o) A (BG n ds) (L2.start N vs) H:=by
 have own:∀ a,CP A (BG n ds) (L2.start N vs) a->A a:=fun a h=>by
  rcases h with h|⟨j,d,h,_⟩
  ·exact h
  ·exact absurd (LO h).1 (by decide)
 have hlen:(BG n ds).length=(L2.start N vs).length:=by
  unfold BG L2.start;simp only[Cw,BD,Gg,r.length,hn]
 refine⟨⟨fun i d h=>?_,fun i d h=>absurd (LO h).1 (by decide),hlen⟩,fun a h=>hA a (own a h),fun j d a h _=>absurd (LO h).1 (by decide),fun i j d e a h _ _ _=>absurd (LO h).1 (by decide),fun b o h=>h,hlen⟩
 obtain⟨v,h1,h2⟩:=r.get (LO h).2;exact⟨v,bL h1,Rep.sub own _ h2⟩
def Lo(K:Fg)(mg:Ak->At Ai)(fns:Ac (Ak×Ag×Ag))(bl:Ac Ak)(rzs exs gls:Ac (Ak×Ag))(Pg:Prg)(fuel:Ag)(p:Ak×Ag×Ag):Prop:=∃ f fd ps qual st N,mg p.1=Ab (.ref f)/\Fun K p.1 qual st f fd/\IA K fd ps []/\ps.length=p.2.2%1000/\Ia fuel (En 1000 p.2.2) fns bl rzs exs gls ps N st (Pg.defs p.2.1)=Aa
structure Tab (K:Fg) (mg:Ak->At Ai) (CL:ClA) (fns:Ac (Ak×Ag×Ag)) (bl:Ac Ak) (rzs exs gls:Ac (Ak×Ag)) (Pg:Prg) (fuel:Ag):Prop where
 xt:XT Pg.up Pg.xn CL rzs exs K mg
 bln:∀ x,x∈bl->mg x=Af
 gl:∀ p∈gls,N3 K mg CL p.1 (Pg.G p.2)
 fn:∀ p∈fns,Lo K mg fns bl rzs exs gls Pg fuel p
theorem tN(Pg:Prg)(n i:Ag):(gam Pg n).fr i=(Pg.defs i).fr:=by cases n<;>rfl
theorem tM(Pg:Prg)(n:Ag):(gam Pg n).up=Pg.up:=by cases n<;>rfl
theorem yG(Pg:Prg)(n:Ag):(gam Pg n).G=Pg.G:=by cases n<;>rfl
theorem tL(Pg:Prg)(n:Ag):(gam Pg n).xn=Pg.xn:=by cases n<;>rfl
section
variable{P:A9}{w:AK}{K:Fg}{mg:Ak->At Ai}{base:AT}{CL:ClA}{fns:Ac (Ak×Ag×Ag)}{bl:Ac Ak}{rzs exs gls:Ac (Ak×Ag)}{Pg:Prg}{fuel:Ag}
def Lvl(P:A9)(w:AK)(K:Fg)(mg:Ak->At Ai)(base:AT)(CL:ClA)(Pg:Prg)(n:Ag)(p:Ak×Ag×Ag):Prop:=∃ f fd ps,mg p.1=Ab (.ref f)/\DK K (.ref f)=Aa/\IA K fd ps []/\ps.length=p.2.2%1000/\(p.2.2<1000->FnOk P w K mg base (CXR P w) n f fd ps (spD K CL (p.2.2%1000) ((gam Pg n).fr p.2.1) ((gam Pg n).F p.2.1)))/\(1000<=p.2.2->HotOk P w K mg base n f fd ps (spH K CL (p.2.2%1000) ((gam Pg n).fr p.2.1) ((gam Pg n).F p.2.1)))
theorem VE(t:Tab K mg CL fns bl rzs exs gls Pg fuel){n:Ag}(hlv:∀ q∈fns,Lvl P w K mg base CL Pg n q){qual:Ak}{st:B8}{ps N:Ac Ak}{m id:Ag}(h2:Fun K x qual st f fd)(h4:ps.length=m)(h5:Ia fuel Ad fns bl rzs exs gls ps N st (Pg.defs id)=Aa):FnOk P w K mg base (CXR P w) (n+1) f fd ps (spD K CL m ((gam Pg (n+1)).fr id) ((gam Pg (n+1)).F id)):=by
  unfold Ia at h5;simp only[An,BS,BP,C8,Dl,Kv,ne_eq]at h5;obtain⟨⟨⟨⟨⟨⟨⟨⟨c1,c2⟩,c3⟩,c4⟩,c5⟩,c6⟩,c7⟩,c8⟩,c9⟩:=h5;obtain⟨oc,od,kV,doc,pm,an,cdv,ct,osl,rfl,lk,hcd⟩:=h2.ex;refine Wa (N:=N) lk hcd ⟨c1,c2,c3,M4 c4,c5,c6,c7⟩ (fun vs H Q E ⟨ds,A,z,_⟩=>z.trans h4.symm) fun A outer s H vs Q E hr ⟨ds,B,hl,hA,hreps,hpost⟩=>?_
  have xt:XT (gam Pg n).up (gam Pg n).xn CL rzs exs K mg:=by rw[tM,tL];exact t.xt
  have gl:∀ p∈gls,N3 K mg CL p.1 ((gam Pg n).G p.2):=by rw[yG];exact t.gl
  have key:∀ W:XW,(∀ x cls H',W x H'->(∃ C,CL x.c=Ab C/\cls=.ref C)->E cls Af H')->CJ K CL (fun b o=>H b=Ab o) B W (evSs (gam Pg n) (BG (Pg.defs id).n ds) (Pg.defs id).body) {nx:=fun _ H'=>Q .non H',rt:=Q} ->
      ∃ t,PSs (G1 (CXR P w) P w K mg base N qual (GS st) f cdv A outer s H E) (Iu st) t/\t {nx:=fun _ H'=>Q .non H',rt:=Q} (start N vs) H:=fun W hW hp=>by
    have v:VX (gam Pg n) CL n W ⟨GS st,N,fns,bl,rzs,exs,gls⟩ (G1 (CXR P w) P w K mg base N qual (GS st) f cdv A outer s H E):=⟨rfl,c1,rfl,M4 c4,rfl,hr,t.bln,hlv,ownR,yZ hW,rzR hW,xt,gl⟩;exact⟨_,(Q7 fuel).ss W _ _ _ (Pg.defs id).body v ⟨fun _=>rfl,rfl,rfl,rfl⟩ c9 (fun b o=>H b=Ab o) B,_,eC c8 hA hreps,hp⟩
  have no:∀ x cls H',W0 x H'->(∃ C,CL x.c=Ab C/\cls=.ref C)->E cls Af H':=fun _ _ _ z=>z.elim
  have e:(gam Pg (n+1)).F id ds=EJ Pg.xs ((evSs (gam Pg n) (BG (Pg.defs id).n ds) (Pg.defs id).body).ans (Pg.defs id).fr):=rfl;rw[e,tN]at hpost;have cutO:∀ r:R D,(∀ x,r≠.exn x)->EJ Pg.xs r=r:=fun r hr=>by
    cases Pg.xs<;>cases r<;>first|rfl|exact absurd rfl (hr _)
  cases eo:evSs (gam Pg n) (BG (Pg.defs id).n ds) (Pg.defs id).body with
  |next ρ'=>
    refine key W0 no ?_;rw[eo]at hpost ⊢;cases ef:(Pg.defs id).fr with
    |true=>rw[ef]at hpost;rw[cutO _ (by intro x z;cases z)]at hpost;exact hpost.elim
    |false=>
      rw[ef]at hpost;rw[cutO _ (by intro x z;cases z)]at hpost
      exact fun σ' H' x'=>hpost .non H' (fun b o z=>x'.same b o z) ⟨rfl,fun z=>nomatch z⟩
  |ret d b=>
    refine key W0 no ?_;rw[eo]at hpost ⊢;intro v H' sm rp fr;have hp2:(match EJ Pg.xs (if ((Pg.defs id).fr&&(!b&&isL d))=Aa then R.bad else R.ok d) with
      |.ok d=>∀ v H',AN H H'->Em K CL (Pg.defs id).fr H B H' v d->Q v H'
      |.exn x=>∀ cls dx H',AN H H'->MF K CL H' B cls dx x->E cls dx H'
      | .bad=>BN):=hpost
    cases ec:((Pg.defs id).fr&&(!b&&isL d)) with
    |true=>rw[ec,Ay rfl,cutO _ (by intro x z;cases z)]at hp2;exact hp2.elim
    |false=>
      rw[ec,AH (by decide),cutO _ (by intro x z;cases z)]at hp2
      refine hp2 v H' sm ⟨rp,fun efr es hd=>?_⟩
      subst hd;have eb:b=Aa:=by
        cases b with
        |true=>rfl
        |false=>rw[efr]at ec;cases ec
      obtain⟨a,xs,h1,h2,h3,h4⟩:=fr eb es rfl;refine⟨a,xs,h1,?_,h3,h4⟩;cases ha:H a with
      |none=>rfl
      |some o=>exact absurd ha (h2 o)
  |brk ρ'=>rw[eo]at hpost;have hp2:(match EJ Pg.xs (R.bad:R D) with | .ok _=>_ | .exn _=>_ | .bad=>BN):=hpost;rw[cutO _ (by intro x z;cases z)]at hp2;exact hp2.elim
  |cont ρ'=>rw[eo]at hpost;have hp2:(match EJ Pg.xs (R.bad:R D) with | .ok _=>_ | .exn _=>_ | .bad=>BN):=hpost;rw[cutO _ (by intro x z;cases z)]at hp2;exact hp2.elim
  |bad=>rw[eo]at hpost;have hp2:(match EJ Pg.xs (R.bad:R D) with | .ok _=>_ | .exn _=>_ | .bad=>BN):=hpost;rw[cutO _ (by intro x z;cases z)]at hp2;exact hp2.elim
  |exn x ρ'=>
    rw[eo]at hpost;have hp2:(match EJ Pg.xs (R.exn x:R D) with
      |.ok d=>∀ v H',AN H H'->Em K CL (Pg.defs id).fr H B H' v d->Q v H'
      |.exn x=>∀ cls dx H',AN H H'->MF K CL H' B cls dx x->E cls dx H'
      | .bad=>BN):=hpost
    cases ex:Pg.xs with
    |false=>rw[ex]at hp2;exact hp2.elim
    |true=>
      rw[ex]at hp2;have hp3:(match (if x.fs.isEmpty=Aa then (R.exn x:R D) else .bad) with
        |.ok d=>∀ v H',AN H H'->Em K CL (Pg.defs id).fr H B H' v d->Q v H'
        |.exn x=>∀ cls dx H',AN H H'->MF K CL H' B cls dx x->E cls dx H'
        | .bad=>BN):=hp2
      by_cases hfs:x.fs.isEmpty=Aa
      · rw[Ay hfs]at hp3;refine key (fun y H'=>y=x/\AN H H') (fun y cls H' ⟨e1,sm⟩ ⟨C,d1,d2⟩=>?_) ?_
        · subst e1;exact hp3 cls Af H' sm ⟨C,d1,d2,.inl (List.isEmpty_iff.mp hfs)⟩
        · rw[eo];exact fun H' sm=>⟨rfl,sm⟩
      · rw[AH hfs]at hp3;exact hp3.elim
theorem tJ(t:Tab K mg CL fns bl rzs exs gls Pg fuel){n:Ag}(hlv:∀ q∈fns,Lvl P w K mg base CL Pg n q){qual:Ak}{st:B8}{ps N:Ac Ak}{m id:Ag}(h2:Fun K x qual st f fd)(h4:ps.length=m)(h5:Ia fuel Aa fns bl rzs exs gls ps N st (Pg.defs id)=Aa):HotOk P w K mg base (n+1) f fd ps (spH K CL m ((gam Pg (n+1)).fr id) ((gam Pg (n+1)).F id)):=by
 exfalso
 unfold Ia at h5;simp[WB]at h5
theorem Qq(t:Tab K mg CL fns bl rzs exs gls Pg fuel):∀ n,∀ p∈fns,Lvl P w K mg base CL Pg n p
 |0,p,hp=>by
  obtain⟨f,fd,ps,qual,st,N,h1,h2,h3,h4,h5⟩:=t.fn p hp;exact⟨f,fd,ps,h1,h2.kp,h3,h4,fun _=>⟨fun vs H Q E ⟨ds,A,_,_,_,z⟩=>z.elim,fun A outer s H args us vs Q E _ _ _ _ ⟨ds,A,_,_,_,z⟩=>z.elim⟩,fun _=>⟨fun vs H Q E ⟨ds,A,_,_,_,z⟩=>z.elim,fun A ev outer s H args us vs Q E _ _ _ _ ⟨ds,A,_,_,_,z⟩=>z.elim⟩⟩
 |n+1,p,hp=>by
  obtain⟨f,fd,ps,qual,st,N,h1,h2,h3,h4,h5⟩:=t.fn p hp;refine⟨f,fd,ps,h1,h2.kp,h3,h4,fun hlt=>?_,fun hge=>?_⟩
  ·have eb:En 1000 p.2.2=Ad:=by
    cases e:En 1000 p.2.2 with
    |false=>rfl
    |true=>exact absurd (EX e) (by omega)
   rw[eb]at h5;exact VE t (fun q hq=>Qq t n q hq) h2 h4 h5
  ·rw[DY hge]at h5;exact tJ t (fun q hq=>Qq t n q hq) h2 h4 h5
theorem sR{s s':Ap}{e:Ai}(h:CXR P w [] H s (fun _ _ _=>BN) e s'):BN:=by
 obtain⟨_,_,_,_,_,_,_,_,_,_,_,_,_,_,z⟩:=h;exact z
theorem fO{up:Ag->Ac Ag}{xn:Ag->Ac D->R Ex}(h:∀ c ds,xn c ds=.bad):XT up xn (fun _=>Af) [] [] K mg:=⟨fun _ _ z=>(nomatch z),fun _ z=>(nomatch z),fun _ z=>(nomatch z),fun c ds=>.inl (h c ds),fun c _ ds=>h c ds⟩
def Mo(K:Fg):Sp:=fun vs H Q _=>∃(a:Al)(ns:Ac Ae),vs=[.ref a]/\ns.length<=63/\SqL K H a (ns.map V.int)/\∀ v H',v=V.bl Aa->Q v H'
theorem law_fn(G:FnOk P w K mg base CX k f fd ps (spD K CL 1 Ad F))(h:∀ ns:Ac Ae,F [.lst (ns.map .int)]=.ok (.bl Aa)):FnOk P w K mg base CX k f fd ps (Mo K):=G.imp fun vs H Q E ⟨a,ns,e,hl,hS,q⟩=>by
 subst e;have rs:∀ l:Ac Ae,Reps K CL H A0 (l.map V.int) (l.map D.int):=fun l=>by
  induction l with
  |nil=>trivial
  |cons x l ih=>exact⟨rfl,ih⟩
 refine⟨[.lst (ns.map .int)],A0,rfl,fun _ z=>z.elim,⟨⟨a,_,rfl,.inl (fun z=>z),hS,rs ns⟩,trivial⟩,?_⟩
 rw[h ns];exact fun v H' _ r=>q v H' r.1
theorem lT(G:FnOk P w K mg base CX k f fd ps (spD K CL 1 Ad F))(h:∀ ns:Ac Ae,ns.length<=63->F [.lst (ns.map .int)]=.ok (.bl Aa)):FnOk P w K mg base CX k f fd ps (Mo K):=G.imp fun vs H Q E ⟨a,ns,e,hl,hS,q⟩=>by
 subst e;have rs:∀ l:Ac Ae,Reps K CL H A0 (l.map V.int) (l.map D.int):=fun l=>by
  induction l with
  |nil=>trivial
  |cons x l ih=>exact⟨rfl,ih⟩
 refine⟨[.lst (ns.map .int)],A0,rfl,fun _ z=>z.elim,⟨⟨a,_,rfl,.inl (fun z=>z),hS,rs ns⟩,trivial⟩,?_⟩
 rw[h ns hl];exact fun v H' _ r=>q v H' r.1
theorem P9{Q:α->Prop}:∀ x∈([]:Ac α),Q x:=fun _ h=>nomatch h
theorem all_cons{Q:α->Prop}{a:α}{l:Ac α}(h1:Q a)(h2:∀ x∈l,Q x):∀ x∈a::l,Q x:=List.forall_mem_cons.2 ⟨h1,h2⟩
def FnI(K:Fg)(f:Al)(n:Ak)(st:B8):Prop:=∃ fd,Fun K n n st f fd/\B9 K Bj n=Ab (Ab (.ref f))
theorem fni{st:B8}{oc:Ai}{od an:At Al}{osl:AR (At Ai)}{kV doc pm cdv ct:Ai}(a:B9 K Bj n=Ab (Ab (.ref f)))(l:K.lookup f=Ab ⟨oc,od,.func (Ev n n (KO st) (Iu st) (GS st) .none kV doc pm an cdv ct),osl⟩)(c:GQ K cdv n=Aa)(k:DK K (.ref f)=Aa):FnI K f n st:=⟨_,tO l c k,a⟩
def Bd(n:Ak)(st:B8)(ps:Ac Ak)(us:Ac Ai):Prop:=∀(kV doc pm:Ai)(an:At Al)(cdv ct:Ai),LI (Ev n n (KO st) (Iu st) (GS st) .none kV doc pm an cdv ct) ⟨us,[]⟩=pure (ps.zip us)
theorem Nx{st:B8}{ps N:Ac Ak}(m id:Ag)(X:K.In h)(G:h.Ns Bj mg)(A:FnI K f n st)(hl:ps.length=m%1000)(hc:Ia fuel (En 1000 m) fns bl rzs exs gls ps N st (Pg.defs id)=Aa)(hb:∀ us:Ac Ai,us.length=ps.length->Bd n st ps us):Lo K mg fns bl rzs exs gls Pg fuel (n,id,m):=by
 obtain⟨fd,F,a⟩:=A;exact⟨_,_,_,_,_,_,Jh X G a,F,F.binds fun kV doc pm an cdv ct us hu=>hb us hu kV doc pm an cdv ct,hl,hc⟩
theorem Ka{st:B8}{N:Ac Ak}(m id:Ag)(X:K.In h)(G:h.Ns Bj mg)(A:FnI K f n st)(hl:1=m%1000)(hc:Ia fuel (En 1000 m) fns bl rzs exs gls [x0] N st (Pg.defs id)=Aa)(hb:∀ u0,Bd n st [x0] [u0]):Lo K mg fns bl rzs exs gls Pg fuel (n,id,m):=
 Nx (ps:=[x0]) m id X G A hl hc fun us hu=>match us,hu with | [u0],_=>hb u0
theorem EI{st:B8}{N:Ac Ak}(m id:Ag)(X:K.In h)(G:h.Ns Bj mg)(A:FnI K f n st)(hl:2=m%1000)(hc:Ia fuel (En 1000 m) fns bl rzs exs gls [x0,x1] N st (Pg.defs id)=Aa)(hb:∀ u0 u1,Bd n st [x0,x1] [u0,u1]):Lo K mg fns bl rzs exs gls Pg fuel (n,id,m):=
 Nx (ps:=[x0,x1]) m id X G A hl hc fun us hu=>match us,hu with | [u0,u1],_=>hb u0 u1
theorem Fb{st:B8}{N:Ac Ak}{x2:Ak}(m id:Ag)(X:K.In h)(G:h.Ns Bj mg)(A:FnI K f n st)(hl:3=m%1000)(hc:Ia fuel (En 1000 m) fns bl rzs exs gls [x0,x1,x2] N st (Pg.defs id)=Aa)(hb:∀ u0 u1 u2,Bd n st [x0,x1,x2] [u0,u1,u2]):Lo K mg fns bl rzs exs gls Pg fuel (n,id,m):=
 Nx (ps:=[x0,x1,x2]) m id X G A hl hc fun us hu=>match us,hu with | [u0,u1,u2],_=>hb u0 u1 u2
theorem Ra{st:B8}{N:Ac Ak}{x2 x3:Ak}(m id:Ag)(X:K.In h)(G:h.Ns Bj mg)(A:FnI K f n st)(hl:4=m%1000)(hc:Ia fuel (En 1000 m) fns bl rzs exs gls [x0,x1,x2,x3] N st (Pg.defs id)=Aa)(hb:∀ u0 u1 u2 u3,Bd n st [x0,x1,x2,x3] [u0,u1,u2,u3]):Lo K mg fns bl rzs exs gls Pg fuel (n,id,m):=
 Nx (ps:=[x0,x1,x2,x3]) m id X G A hl hc fun us hu=>match us,hu with | [u0,u1,u2,u3],_=>hb u0 u1 u2 u3
end
end Ov
namespace OvC
open PySem Ov
variable{p t k i j lo:Ae}{xs ns:Ac Ae}{m n i' mid w:Ag}{Γ:Gam}{L:Ac D}{α:Type}{g:D->R Ao}{f:D->R D}
noncomputable def Pd:Df:=⟨4,Ad,(.cons (.ret (.call 1 (.cons (.var 0) (.cons (.bin .Add (.bin .Sub (.bin .Mult (.idx (.var 1) (.int 0)) (.bin .Sub (.bin .Mult (.idx (.var 2) (.int 1)) (.idx (.var 3) (.int 2))) (.bin .Mult (.idx (.var 2) (.int 2)) (.idx (.var 3) (.int 1))))) (.bin .Mult (.idx (.var 1) (.int 1)) (.bin .Sub (.bin .Mult (.idx (.var 2) (.int 0)) (.idx (.var 3) (.int 2))) (.bin .Mult (.idx (.var 2) (.int 2)) (.idx (.var 3) (.int 0)))))) (.bin .Mult (.idx (.var 1) (.int 2)) (.bin .Sub (.bin .Mult (.idx (.var 2) (.int 0)) (.idx (.var 3) (.int 1))) (.bin .Mult (.idx (.var 2) (.int 1)) (.idx (.var 3) (.int 0)))))) .nil)))) .nil)⟩
noncomputable abbrev tr(a b c:Ae):D:=.tup [.int a,.int b,.int c]
noncomputable def det(a0 a1 a2 b0 b1 b2 c0 c1 c2:Ae):Ae:=a0*(b1*c2-b2*c1)-a1*(b0*c2-b2*c0)+a2*(b0*c1-b1*c0)
def Sm(x:Ae):Prop:=0<=x/\x<11
theorem mo{x:Ae}(h:Sm x)(y:Ae):DL x y=Aa:=HM (by have:=h.1;omega) (by have:=h.2;omega)
theorem zU{x y:Ae}(q:Ae)(h:x=y+p*q):x%p=y%p:=by rw[h,Fd]
theorem Sm.of(h:P4 p)(x:Ae):Sm (x%p):=⟨AZ _ (by have:=h.pos;omega),by have:=AW x h.pos;have:=h.hi;omega⟩
theorem SF{body:D->Rho->O}(I:Rho->Prop)(g:Ae->Ao):∀(L:Ac Ae),(∀ t∈L,∀ ρ,I ρ->(g t=Aa/\body (.int t) ρ=.ret (.int t) Ad)\/(g t=Ad/\∃ ρ',body (.int t) ρ=.next ρ'/\I ρ'))->∀ ρ,I ρ->(∃ t∈L,g t=Aa/\DF body (L.map D.int) ρ=.ret (.int t) Ad)\/((∀ t∈L,g t=Ad)/\∃ ρ',DF body (L.map D.int) ρ=.next ρ'/\I ρ')
 |[],_,ρ,i=>.inr ⟨(fun _ h=>nomatch h),ρ,rfl,i⟩
 |m::L,h,ρ,i=>by
  rcases h m (Ax ..) ρ i with ⟨e1,e2⟩|⟨e1,ρ',e2,i'⟩
  ·refine .inl ⟨m,Ax ..,e1,?_⟩;show (body (.int m) ρ).turn _=_;rw[e2];rfl
  ·rcases SF I g L (fun m' h'=>h m' (Au _ h')) ρ' i' with ⟨t,ht,a,b⟩|⟨a,r,b,c⟩
   ·refine .inl ⟨t,Au _ ht,a,?_⟩;show (body (.int m) ρ).turn _=_;rw[e2];exact b
   ·refine .inr ⟨fun t ht=>?_,r,?_,c⟩
    ·rcases Aw.mp ht with rfl|ht
     ·exact e1
     ·exact a t ht
    ·show (body (.int m) ρ).turn _=_;rw[e2];exact b
noncomputable def Kx:Ss:=(.cons (.ife (.cmp .Eq (.call 1 (.cons (.var 0) (.cons (.bin .Mult (.var 1) (.var 2)) .nil))) (.int 1)) (.cons (.ret (.var 2)) .nil) .nil) .nil)
noncomputable def MK:Df:=⟨3,Ad,(.cons (.fors 2 (.rng2 (.int 1) (.var 0)) Kx) (.cons (.rais 2 (.cons (.str (AQ "a number with the rest 0 is not turned over")) .nil)) .nil))⟩
noncomputable def GI(p:Ae):Ac Ae:=(Bk (p-1).toNat).map fun(k:Ag)=>1+(k:Ae)
theorem KC:t∈GI p↔1<=t/\t<p:=by
 unfold GI;rw[CI];constructor
 ·rintro⟨k,hk,rfl⟩;have:=Dv.mp hk;omega
 ·rintro⟨h1,h2⟩;exact⟨(t-1).toNat,Dv.mpr (by omega),by omega⟩
theorem TN(h:P4 p):C5 1 p=.ok ((GI p).map D.int):=by
 rcases h with rfl|rfl|rfl|rfl<;>rfl
theorem lY:∀ p:Fin 12,(p.val=3\/p.val=5\/p.val=7\/p.val=11)->∀ r:Fin 12,r.val<p.val->r.val≠0->∃ t:Fin 12,1<=t.val/\t.val<p.val/\r.val*t.val%p.val=1:=by decide +kernel
theorem Hj{n:Ae}(h:P4 p)(hn:n%p≠0):∃ t,1<=t/\t<p/\n*t%p=1:=by
 have p0:0<p/\p<12:=by rcases h with rfl|rfl|rfl|rfl<;>decide
 obtain⟨q,rfl⟩:∃ q:Ag,p=q:=⟨p.toNat,by omega⟩
 have h0:=AZ n (b:=(q:Ae)) (by omega)
 have h1:=AW n p0.1;obtain⟨r,hr⟩:∃ r:Ag,n%(q:Ae)=r:=⟨(n%(q:Ae)).toNat,by omega⟩
 obtain⟨t,t1,t2,t3⟩:=lY ⟨q,by omega⟩ (by rcases h with e|e|e|e<;>simp<;>omega) ⟨r,by omega⟩ (by show r<q;omega) (by show r≠0;omega)
 refine⟨(t.val:Ae),by omega,by show (t.val:Ae)<q;exact Int.ofNat_lt.mpr t2,?_⟩
 have e:((r*t.val%q:Ag):Ae)=1:=by rw[show r*t.val%q=1 from t3];rfl
 rw[<-e,Int.natCast_emod,Int.natCast_mul,<-hr];exact(A2 n _ _).trans (by rw[A2 (n%(q:Ae)) (t.val:Ae) (q:Ae),AV n (BB _)])
theorem Cj{r:R D}{d:D}(h:r=.ok d):EJ Aa r=.ok d:=by rw[h];rfl
def DV(p n t:Ae):Prop:=1<=t/\t<p/\n*t%p=1
theorem Tf{n u:Ae}(h1:DV p n t)(h2:DV p n u):t=u:=by
 have hp:1<p:=by have:=h1.1;have:=h1.2.1;omega
 have e:t%p=u%p:=by
  have a:t%p=t*(n*u)%p:=by rw[A2,h2.2.2,DN,AV _ (BB p)]
  have b:u%p=(n*t)*u%p:=by rw[A2 (n*t) u p,h1.2.2,CC,AV _ (BB p)]
  rw[a,b]
  congr 1
  rw[<-F7,BV t n]
 rw[AM (by have:=h1.1;omega) h1.2.1,AM (by have:=h2.1;omega) h2.2.1]at e
 exact e
theorem BJ{c x:Ae}(hp:P4 p)(hc:c%p≠0)(hx:x%p≠0):c*x%p≠0:=fun z=>by
 obtain⟨t,_,_,e⟩:=Hj hp hc;refine hx ?_;have e1:x%p=(c*t)*x%p:=by rw[A2 (c*t) x p,e,CC,AV _ (BB p)]
 rw[e1,show c*t*x=t*(c*x) by rw[BV c t,F7],A2,z,Dm,A7]
noncomputable def AY(p:Ae):Ac Ae->At Ae
 |[]=>Af
 |x::xs=>if x%p=0 then AY p xs else Ab (x%p)
theorem JV{p:Ae}:∀{xs:Ac Ae},AY p xs=Af↔∀ x∈xs,x%p=0
 |[]=>by simp[AY]
 |x::xs=>by
  unfold AY;by_cases h:x%p=0
  ·rw[Ay h,JV (xs:=xs)];simp[h]
  ·rw[AH h];simp[h]
theorem Ip{p l:Ae}(hp:0<p):∀{xs:Ac Ae},AY p xs=Ab l->l%p≠0/\0<l/\l<p
 |[],h=>by cases h
 |x::xs,h=>by
  unfold AY at h;by_cases hx:x%p=0
  ·rw[Ay hx]at h;exact Ip hp h
  ·rw[AH hx]at h;cases h;have h0:=AZ x (b:=p) (by omega)
   have h1:=AW x hp;exact⟨by rw[AV _ (BB p)];exact hx,by omega,h1⟩
theorem JY{p c:Ae}(hp:P4 p)(hc:c%p≠0){f:Ae->Ae}(hf:∀ x,f x%p=c*x%p):∀ xs:Ac Ae,AY p (xs.map f)=(AY p xs).map fun l=>c*l%p
 |[]=>rfl
 |x::xs=>by
  rw[B7];unfold AY;rw[hf x];by_cases hx:x%p=0
  ·rw[Ay hx,Ay (by rw[A2,hx,Dm,A7]),JY hp hc hf xs]
  ·rw[AH hx,AH (BJ hp hc hx),EQ]
   congr 1
   rw[A2 c (x%p),AV _ (BB p),<-A2]
noncomputable def ds(xs:Ac Ae):Ac D:=xs.map D.int
noncomputable def Dr(b:Ao)(xs:Ac Ae):D:=if b=Aa then .tup (ds xs) else .lst (ds xs)
theorem OV(b xs):Co (Dr b xs)=.ok (ds xs):=by unfold Dr;cases b<;>rfl
theorem KA{g:D->R Ao}{f:D->R D}{φ:Ae->Ae}:∀(xs:Ac Ae),(∀ x∈xs,g (.int x)=.ok Aa/\f (.int x)=.ok (.int (φ x)))->BH g f (ds xs)=.ok (ds (xs.map φ))
 |[],_=>rfl
 |x::xs,h=>by
  obtain⟨h1,h2⟩:=h x (Ax ..);show (g (.int x)).bind _=_;rw[h1,R.bind_ok,Ay rfl,h2,R.bind_ok];show (BH g f (ds xs)).bind _=_;rw[KA xs fun y hy=>h y (Au _ hy)]
  rfl
noncomputable def Cn:E:=(.bl Aa)
noncomputable def OD:E:=(.call 1 (.cons (.var 0) (.cons (.var 5) .nil)))
noncomputable def OC:E:=(.call 1 (.cons (.var 0) (.cons (.bin .Mult (.var 4) (.var 6)) .nil)))
noncomputable def HK:Ss:=(.cons (.ife (.cmp .NotEq (.var 3) (.int 0)) (.cons (.asg 4 Ad (.call 9 (.cons (.var 0) (.cons (.var 3) .nil)))) (.cons (.ret (.bi .tuple (.cons (.comp OC 6 (.e (.var 2)) Cn) .nil))) .nil)) .nil) .nil)
noncomputable def MZ:Df:=⟨7,Ad,(.cons (.asg 2 Ad (.comp OD 5 (.e (.var 1)) Cn)) (.cons (.fors 3 (.e (.var 2)) HK) (.cons (.rais 3 (.cons (.str (AQ "all the numbers have the rest 0")) .nil)) .nil)))⟩
noncomputable def fmI(p t:Ae)(xs:Ac Ae):Ac Ae:=xs.map fun x=>t*(x%p)%p
section
variable{Γ:Gam}{p:Ae}{xs:Ac Ae}{b:Ao}
end
theorem MU{g:D->R Ao}{f:D->R D}{q:Ae->Ao}:∀(xs:Ac Ae),(∀ x∈xs,g (.int x)=.ok (q x)/\f (.int x)=.ok (.int x))->BH g f (ds xs)=.ok (ds (xs.filter q))
 |[],_=>rfl
 |x::xs,h=>by
  obtain⟨h1,h2⟩:=h x (Ax ..);have ih:=MU xs fun y hy=>h y (Au _ hy)
  show (g (.int x)).bind _=_;rw[h1,R.bind_ok];cases hq:q x with
  |true=>
   rw[Ay rfl,h2,R.bind_ok,DI,hq,Ay rfl];show (BH g f (ds xs)).bind _=_;rw[ih];rfl
  |false=>
   rw[AH (by decide),DI,hq,AH (by decide)]
   exact ih
theorem aF{p l t:Ae}(it:DV p l t):((GI p).filter fun k=>decide (k*l%p=1)).head?=Ab t:=by
 have hm:t∈(GI p).filter fun k=>decide (k*l%p=1):=AO.mpr ⟨KC.mpr ⟨it.1,it.2.1⟩,by simp[BV t l,it.2.2]⟩
 cases e:(GI p).filter fun k=>decide (k*l%p=1) with
 |nil=>rw[e]at hm;cases hm
 |cons u us=>
  have hu:u∈(GI p).filter fun k=>decide (k*l%p=1):=by rw[e];exact Ax ..
  obtain⟨h1,h2⟩:=AO.mp hu;obtain⟨a,b⟩:=KC.mp h1;have h3:u*l%p=1:=by simpa using h2
  rw[Tf it ⟨a,b,by rw[BV];exact h3⟩]
  rfl
theorem O4{l:Ae}(h:xs.head?=Ab l):DE (ds xs) 0=.ok (.int l):=by
 cases xs with
 |nil=>cases h
 |cons x xs=>cases h;exact Nf (by omega) rfl
theorem Vc:∀ xs:Ac Ae,eqDs (ds xs) (ds xs)=Aa
 |[]=>rfl
 |x::xs=>by
  show (eqD (.int x) (.int x)&&eqDs (ds xs) (ds xs))=Aa;rw[Vc xs];simp
theorem Ud:∀ xs:Ac Ae,Hn (xs.map fun _=>D.bl Aa)=.ok Aa
 |[]=>rfl
 |x::xs=>by
  rw[B7,OW,Ud xs];rfl
theorem UI{g:D->R Ao}{f:D->R D}:∀(xs:Ac Ae),(∀ x∈xs,g (.int x)=.ok Aa/\f (.int x)=.ok (.bl Aa))->BH g f (ds xs)=.ok (xs.map fun _=>D.bl Aa)
 |[],_=>rfl
 |x::xs,h=>by
  obtain⟨h1,h2⟩:=h x (Ax ..);show (g (.int x)).bind _=_;rw[h1,R.bind_ok,Ay rfl,h2,R.bind_ok];show (BH g f (ds xs)).bind _=_;rw[UI xs fun y hy=>h y (Au _ hy)]
  rfl
noncomputable abbrev own(xs:Ac Ae):Sl:=Ab (.lst (ds xs),Aa)
section
variable{Γ:Gam}{ns:Ac Ae}{a1 a2 a4 a6 a7 a8 a9 b0 b1 b2 b3 b4:Sl}{p:Ae}
end
theorem cL{p c l t:Ae}(hp:P4 p)(hc:c%p≠0)(hl:l%p≠0)(it:DV p l t){f:Ae->Ae}(hf:∀ x,f x%p=c*x%p)(xs:Ac Ae):∃ u,DV p (c*l%p) u/\fmI p u (xs.map f)=fmI p t xs:=by
 have h1:(c*l%p)%p≠0:=by rw[AV _ (BB p)];exact BJ hp hc hl
 obtain⟨u,u1,u2,u3⟩:=Hj hp h1;refine⟨u,⟨u1,u2,u3⟩,?_⟩;unfold fmI;rw[FB];refine Ez fun x _=>?_
 show u*(f x%p)%p=t*(x%p)%p;have u4:c*l*u%p=1:=by rw[<-u3,A2 (c*l%p) u p,AV _ (BB p),<-A2]
 have e1:u*(f x%p)%p=u*(c*x)%p:=by rw[hf,A2 u (c*x%p) p,AV _ (BB p),<-A2]
 have e2:t*(x%p)%p=t*x%p:=by rw[A2 t (x%p) p,AV _ (BB p),<-A2]
 have e3:u*(c*x)%p=(l*t)*(u*(c*x))%p:=by rw[A2 (l*t) _ p,it.2.2,CC,AV _ (BB p)]
 have e4:t*x%p=(c*l*u)*(t*x)%p:=by rw[A2 (c*l*u) _ p,u4,CC,AV _ (BB p)]
 rw[e1,e2,e3,e4]
 congr 1
 grind
section
variable{Γ:Gam}{ns:Ac Ae}{a1 a4 a6 a7 a8 a9 b2 b3 b4:Sl}{p m:Ae}{xs:Ac Ae}
end
def Cg(p x y:Ae):Prop:=x%p=y%p
section
variable{p a b c d:Ae}
theorem Cg.rfl:Cg p a a:=Eq.refl _
theorem Cg.of(h:a=b):Cg p a b:=by unfold Cg;rw[h]
theorem Cg.trans{a b c:Ae}(h:Cg p a b)(g:Cg p b c):Cg p a c:=Eq.trans h g
theorem Cg.symm(h:Cg p a b):Cg p b a:=Eq.symm h
theorem Cg.add(h:Cg p a b)(g:Cg p c d):Cg p (a+c) (b+d):=by unfold Cg at *;rw[WO,h,g,<-WO]
theorem Cg.sub(h:Cg p a b)(g:Cg p c d):Cg p (a-c) (b-d):=by unfold Cg at *;rw[Jj,h,g,<-Jj]
theorem Cg.mul(h:Cg p a b)(g:Cg p c d):Cg p (a*c) (b*d):=by unfold Cg at *;rw[A2,h,g,<-A2]
theorem Cg.md(h:a=b%p):Cg p a b:=by unfold Cg;rw[h,AV _ (BB p)]
theorem Cg.far(q:Ae)(h:a=b+p*q):Cg p a b:=zU q h
end
theorem HS{p a0 a1 a2 b0 b1 b2 c0 c1 c2 x0 x1 x2 y0 y1 y2 z0 z1 z2:Ae}(h0:Cg p a0 x0)(h1:Cg p a1 x1)(h2:Cg p a2 x2)(h3:Cg p b0 y0)(h4:Cg p b1 y1)(h5:Cg p b2 y2)(h6:Cg p c0 z0)(h7:Cg p c1 z1)(h8:Cg p c2 z2):Cg p (a0*(b1*c2-b2*c1)-a1*(b0*c2-b2*c0)+a2*(b0*c1-b1*c0)) (x0*(y1*z2-y2*z1)-x1*(y0*z2-y2*z0)+x2*(y0*z1-y1*z0)):=
 ((h0.mul ((h4.mul h8).sub (h5.mul h7))).sub (h1.mul ((h3.mul h8).sub (h5.mul h6)))).add (h2.mul ((h3.mul h7).sub (h4.mul h6)))
theorem P4.m1(h:P4 p):(-1:Ae)%p≠0:=by rcases h with rfl|rfl|rfl|rfl<;>decide
theorem P4.o1(h:P4 p):(1:Ae)%p≠0:=by rcases h with rfl|rfl|rfl|rfl<;>decide
abbrev R3:=Ae×Ae×Ae
variable{a y' x y x' r:R3}
noncomputable def Bv(a:R3):D:=.lst [.int a.1,.int a.2.1,.int a.2.2]
noncomputable def Aj(a b c:R3):Ae:=det a.1 a.2.1 a.2.2 b.1 b.2.1 b.2.2 c.1 c.2.1 c.2.2
def In3(p:Ae)(a:R3):Prop:=(0<=a.1/\a.1<p)/\(0<=a.2.1/\a.2.1<p)/\(0<=a.2.2/\a.2.2<p)
structure GoodR (p:Ae) (a b c:R3):Prop where
 p4:P4 p
 ia:In3 p a
 ib:In3 p b
 ic:In3 p c
 nz:Aj a b c%p≠0
theorem GoodR.of{a b c a' b' c':R3}(h:GoodR p a b c)(hk:k%p≠0)(e:Cg p (Aj a' b' c') (k*Aj a b c))(hin:In3 p a'/\In3 p b'/\In3 p c'):GoodR p a' b' c':=⟨h.p4,hin.1,hin.2.1,hin.2.2,by rw[show Aj a' b' c'%p=_ from e];exact BJ h.p4 hk h.nz⟩
noncomputable def J9(t:Ae)(a:R3):R3:=(a.1*t,a.2.1*t,a.2.2*t)
noncomputable def G2(t:Ae)(a b:R3):R3:=(a.1+t*b.1,a.2.1+t*b.2.1,a.2.2+t*b.2.2)
noncomputable def mdR(p:Ae)(a:R3):R3:=(a.1%p,a.2.1%p,a.2.2%p)
noncomputable def scR(p t:Ae)(a:R3):R3:=mdR p (J9 t a)
noncomputable def adR(p t:Ae)(a b:R3):R3:=mdR p (G2 t a b)
theorem VY(h:0<p)(a:R3):In3 p (mdR p a):=⟨⟨AZ _ (by omega),AW _ h⟩,⟨AZ _ (by omega),AW _ h⟩,⟨AZ _ (by omega),AW _ h⟩⟩
theorem K7(h:0<p)(t:Ae)(a:R3):In3 p (scR p t a):=VY h _
theorem Lb(h:0<p)(t:Ae)(a b:R3):In3 p (adR p t a b):=VY h _
theorem RM(p t:Ae)(a b c:R3):Cg p (Aj (scR p t a) b c) (t*Aj a b c):=by
 refine Cg.trans (b:=Aj (J9 t a) b c) ?_ (Cg.of (by unfold Aj det J9;grind))
 unfold Aj det;exact HS (Cg.md (by rfl)) (Cg.md (by rfl)) (Cg.md (by rfl)) Cg.rfl Cg.rfl Cg.rfl Cg.rfl Cg.rfl Cg.rfl
theorem ae(p t:Ae)(a b c:R3):Cg p (Aj (adR p t a b) b c) (1*Aj a b c):=by
 refine Cg.trans (b:=Aj (G2 t a b) b c) ?_ (Cg.of (by unfold Aj det G2;grind))
 unfold Aj det;exact HS (Cg.md (by rfl)) (Cg.md (by rfl)) (Cg.md (by rfl)) Cg.rfl Cg.rfl Cg.rfl Cg.rfl Cg.rfl Cg.rfl
theorem ac(p t:Ae)(a b c:R3):Cg p (Aj (adR p t a c) b c) (1*Aj a b c):=by
 refine Cg.trans (b:=Aj (G2 t a c) b c) ?_ (Cg.of (by unfold Aj det G2;grind))
 unfold Aj det;exact HS (Cg.md (by rfl)) (Cg.md (by rfl)) (Cg.md (by rfl)) Cg.rfl Cg.rfl Cg.rfl Cg.rfl Cg.rfl Cg.rfl
theorem RK(p t:Ae)(a b c:R3):Cg p (Aj a (scR p t b) c) (t*Aj a b c):=by
 refine Cg.trans (b:=Aj a (J9 t b) c) ?_ (Cg.of (by unfold Aj det J9;grind))
 unfold Aj det;exact HS Cg.rfl Cg.rfl Cg.rfl (Cg.md (by rfl)) (Cg.md (by rfl)) (Cg.md (by rfl)) Cg.rfl Cg.rfl Cg.rfl
theorem aa(p t:Ae)(a b c:R3):Cg p (Aj a (adR p t b a) c) (1*Aj a b c):=by
 refine Cg.trans (b:=Aj a (G2 t b a) c) ?_ (Cg.of (by unfold Aj det G2;grind))
 unfold Aj det;exact HS Cg.rfl Cg.rfl Cg.rfl (Cg.md (by rfl)) (Cg.md (by rfl)) (Cg.md (by rfl)) Cg.rfl Cg.rfl Cg.rfl
theorem zZ(p t:Ae)(a b c:R3):Cg p (Aj a (adR p t b c) c) (1*Aj a b c):=by
 refine Cg.trans (b:=Aj a (G2 t b c) c) ?_ (Cg.of (by unfold Aj det G2;grind))
 unfold Aj det;exact HS Cg.rfl Cg.rfl Cg.rfl (Cg.md (by rfl)) (Cg.md (by rfl)) (Cg.md (by rfl)) Cg.rfl Cg.rfl Cg.rfl
theorem RJ(p t:Ae)(a b c:R3):Cg p (Aj a b (scR p t c)) (t*Aj a b c):=by
 refine Cg.trans (b:=Aj a b (J9 t c)) ?_ (Cg.of (by unfold Aj det J9;grind))
 unfold Aj det;exact HS Cg.rfl Cg.rfl Cg.rfl Cg.rfl Cg.rfl Cg.rfl (Cg.md (by rfl)) (Cg.md (by rfl)) (Cg.md (by rfl))
theorem zY(p t:Ae)(a b c:R3):Cg p (Aj a b (adR p t c a)) (1*Aj a b c):=by
 refine Cg.trans (b:=Aj a b (G2 t c a)) ?_ (Cg.of (by unfold Aj det G2;grind))
 unfold Aj det;exact HS Cg.rfl Cg.rfl Cg.rfl Cg.rfl Cg.rfl Cg.rfl (Cg.md (by rfl)) (Cg.md (by rfl)) (Cg.md (by rfl))
theorem zX(p t:Ae)(a b c:R3):Cg p (Aj a b (adR p t c b)) (1*Aj a b c):=by
 refine Cg.trans (b:=Aj a b (G2 t c b)) ?_ (Cg.of (by unfold Aj det G2;grind))
 unfold Aj det;exact HS Cg.rfl Cg.rfl Cg.rfl Cg.rfl Cg.rfl Cg.rfl (Cg.md (by rfl)) (Cg.md (by rfl)) (Cg.md (by rfl))/-! ### draws -/
theorem mE(h0:0<=k)(h1:k<ns.length):DE (ns.map D.int) k=.ok (.int (ns.getD k.toNat 0)):=Nf h0 (by
 have:k.toNat<ns.length:=by omega
 simp[this])
noncomputable abbrev ownR(a b c:R3):Sl:=Ab (.lst [Bv a,Bv b,Bv c],Aa)
section
variable{Γ:Gam}{ns:Ac Ae}{at_ many s5 s0 s1 s2:Sl}{p t m:Ae}{a b c:R3}
end
section
variable{Γ:Gam}{ns:Ac Ae}{many s5 s6 s7 s8 s9 s0 s1 s2:Sl}{p:Ae}{a b c:R3}
end
noncomputable def GH(a b c:R3):D:=.lst [Bv a,Bv b,Bv c]
noncomputable def nine(a b c:R3):Ac Ae:=[a.1,a.2.1,a.2.2,b.1,b.2.1,b.2.2,c.1,c.2.1,c.2.2]
noncomputable def trR(a:R3):D:=.tup [.int a.1,.int a.2.1,.int a.2.2]
noncomputable def AX(a b c:R3):D:=.tup [trR a,trR b,trR c]
noncomputable def fmR(p t:Ae)(a:R3):R3:=(t*(a.1%p)%p,t*(a.2.1%p)%p,t*(a.2.2%p)%p)
theorem UT(p t:Ae)(a b c:R3):fmI p t (nine a b c)=nine (fmR p t a) (fmR p t b) (fmR p t c):=rfl
theorem LX{a b c:R3}(h:Aj a b c%p≠0):∃ l,AY p (nine a b c)=Ab l:=by
 cases e:AY p (nine a b c) with
 |some l=>exact⟨l,rfl⟩
 |none=>
  refine absurd ?_ h;have z:=JV.mp e;have q:∀ x∈nine a b c,Cg p x 0:=fun x hx=>by
   have:=z x hx;show x%p=0%p;rw[this];simp
  have:=HS (p:=p) (q a.1 (by simp[nine])) (q a.2.1 (by simp[nine])) (q a.2.2 (by simp[nine])) (q b.1 (by simp[nine])) (q b.2.1 (by simp[nine])) (q b.2.2 (by simp[nine])) (q c.1 (by simp[nine])) (q c.2.1 (by simp[nine])) (q c.2.2 (by simp[nine]))
  have e2:Aj a b c%p=(0*(0*0-0*0)-0*(0*0-0*0)+0*(0*0-0*0))%p:=this;rw[e2];simp
theorem Zq(a b c:R3):slD (.tup (ds (nine a b c))) Af (Ab 3)=.ok (trR a)/\slD (.tup (ds (nine a b c))) (Ab 3) (Ab 6)=.ok (trR b)/\slD (.tup (ds (nine a b c))) (Ab 6) Af=.ok (trR c):=⟨rfl,rfl,rfl⟩
theorem fA(a b c:R3):CM .Add (Bv a) (Bv b)=.ok (.lst [.int a.1,.int a.2.1,.int a.2.2,.int b.1,.int b.2.1,.int b.2.2])/\CM .Add (.lst [.int a.1,.int a.2.1,.int a.2.2,.int b.1,.int b.2.1,.int b.2.2]) (Bv c)=.ok (.lst (ds (nine a b c))):=⟨rfl,rfl⟩
def Bd(n:Ag)(x:Ae):Prop:=x.natAbs<2 ^ n
theorem Bd.mul{x y:Ae}(h:Bd m x)(g:Bd n y):Bd (m+n) (x*y):=by
 unfold Bd at *;rw[Int.natAbs_mul,Nat.pow_add];exact Nat.mul_lt_mul'' h g
theorem Bd.sub{x y:Ae}(h:Bd n x)(g:Bd n y):Bd (n+1) (x-y):=by
 unfold Bd at *;rw[Nat.pow_succ];omega
theorem GZ{x y:Ae}(h:Bd m x)(g:Bd n y)(hm:m<=2000)(hn:n<=2000):E8 x y=Aa:=by
 unfold E8 Bd at *;rw[An,AJ,AJ];exact⟨AD h (Gr (by decide) hm),AD g (Gr (by decide) hn)⟩
def B3(a:R3):Prop:=Bd 300 a.1/\Bd 300 a.2.1/\Bd 300 a.2.2
noncomputable def Am(q:Ao)(a:R3):D:=Dr q [a.1,a.2.1,a.2.2]
theorem GX(q:Ao)(a:R3):BQ (Am q a) (.int 0)=.ok (.int a.1)/\BQ (Am q a) (.int 1)=.ok (.int a.2.1)/\BQ (Am q a) (.int 2)=.ok (.int a.2.2):=by cases q<;>exact⟨rfl,rfl,rfl⟩
def KH(Γ:Gam):Prop:=∀(p:Ae)(q:Ao)(a b c:R3),0<p->B3 a->B3 b->B3 c->Γ.F 61 [.int p,Am q a,Am q b,Am q c]=.ok (.int (Aj a b c%p))
theorem jN(h:Ix Γ)(p:Ae)(q:Ao)(a b c:R3)(hp:0<p)(ha:B3 a)(hb:B3 b)(hc:B3 c):Pd.run Γ [.int p,Am q a,Am q b,Am q c]=.ok (.int (Aj a b c%p)):=by
 obtain⟨a0,a1,a2⟩:=GX q a;obtain⟨b0,b1,b2⟩:=GX q b;obtain⟨c0,c1,c2⟩:=GX q c;have k:∀ {x y},Bd 300 x->Bd 300 y->E8 x y=Aa:=fun hx hy=>GZ hx hy (by decide) (by decide)
 have k2:∀ {x y z u v},Bd 300 x->Bd 300 y->Bd 300 z->Bd 300 u->Bd 300 v->E8 x (y*z-u*v)=Aa:=fun hx hy hz hu hv=>GZ hx ((hy.mul hz).sub (hu.mul hv)) (by decide) (by decide)
 simp[Pd,Df.run,BG,a0,a1,a2,b0,b1,b2,c0,c1,c2,k hb.2.1 hc.2.2,k hb.2.2 hc.2.1,k hb.1 hc.2.2,k hb.2.2 hc.1,k hb.1 hc.2.1,k hb.2.1 hc.1,k2 ha.1 hb.2.1 hc.2.2 hb.2.2 hc.2.1,k2 ha.2.1 hb.1 hc.2.2 hb.2.2 hc.1,k2 ha.2.2 hb.1 hc.2.1 hb.2.1 hc.1,h p _ hp];rfl
noncomputable def OR:Df:=⟨3,Ad,(.cons (.ife (.cmp .Eq (.call 61 (.cons (.var 0) (.cons (.idx (.var 1) (.int 0)) (.cons (.idx (.var 1) (.int 1)) (.cons (.idx (.var 1) (.int 2)) .nil))))) (.int 0)) (.cons (.rais 4 (.cons (.str (AQ "the measure of the rows is 0")) .nil)) .nil) .nil) (.cons (.asg 2 Ad (.call 17 (.cons (.var 0) (.cons (.bin .Add (.bin .Add (.bi .list (.cons (.idx (.var 1) (.int 0)) .nil)) (.bi .list (.cons (.idx (.var 1) (.int 1)) .nil))) (.bi .list (.cons (.idx (.var 1) (.int 2)) .nil))) .nil)))) (.cons (.ret (.tup (.cons (.sl (.var 2) .non (.int 3)) (.cons (.sl (.var 2) (.int 3) (.int 6)) (.cons (.sl (.var 2) (.int 6) .non) .nil))))) .nil)))⟩
theorem qD(q:Ao)(a:R3):biD .list [Am q a]=.ok (Bv a):=by cases q<;>rfl
section
variable{Γ:Gam}{ns:Ac Ae}{p t:Ae}{a b c r:R3}{made s6 s7:Sl}
end
theorem MS{p:Ae}:∀{xs ys:Ac Ae},xs.map (fun x=>x%p)=ys.map (fun x=>x%p)->AY p xs=AY p ys
 |[],[],_=>rfl
 |x::xs,y::ys,h=>by
  rw[B7,B7,Ic]at h;unfold AY;rw[h.1,MS h.2]
 |[],_::_,h=>by simp at h
 |_::_,[],h=>by simp at h
theorem Tu{ys:Ac Ae}(h:xs.map (fun x=>x%p)=ys.map (fun x=>x%p)):fmI p t xs=fmI p t ys:=by
 have e:∀ zs:Ac Ae,fmI p t zs=(zs.map fun x=>x%p).map fun r=>t*r%p:=fun zs=>by simp[fmI,FB,WN]
 rw[e,e,h]
theorem cJ{a b c a' b' c':R3}(h:nine a b c=nine a' b' c'):a=a'/\b=b'/\c=c':=by
 unfold nine at h;simp only[Ic,and_true]at h;obtain⟨h1,h2,h3,h4,h5,h6,h7,h8,h9⟩:=h;exact⟨Bp h1 (Bp h2 h3),Bp h4 (Bp h5 h6),Bp h7 (Bp h8 h9)⟩
theorem FW(hp:0<p)(t:Ae)(a:R3):In3 p (fmR p t a):=⟨⟨AZ _ (by omega),AW _ hp⟩,⟨AZ _ (by omega),AW _ hp⟩,⟨AZ _ (by omega),AW _ hp⟩⟩
section
variable{Γ:Gam}{ns:Ac Ae}{p m:Ae}{a b c:R3}{fa fb fc:R3}{q:Ao}{s9 s0 s1 s2:Sl}
end
def O0(Γ:Gam):Prop:=∀ p n:Ae,P4 p->n%p≠0->∃ t,1<=t/\t<p/\n*t%p=1/\Γ.F 9 [.int p,.int n]=.ok (.int t)
def KI(Γ:Gam):Prop:=∀(p:Ae)(b:Ao)(xs:Ac Ae)(l t:Ae),P4 p->AY p xs=Ab l->DV p l t->Γ.F 17 [.int p,Dr b xs]=.ok (.tup (ds (fmI p t xs)))
theorem aW(hr:Ix Γ)(p n:Ae)(hp:P4 p)(z:n%p≠0):∃ t,1<=t/\t<p/\n*t%p=1/\MK.run Γ [.int p,.int n]=.ok (.int t):=by
 have p0:=hp.pos;have ph:=hp.hi;have body:∀ t∈GI p,∀ ρ,(∃ s,ρ=[si p,si n,s])->(decide (n*t%p=1)=Aa/\CT Γ 2 Kx (.int t) ρ=.ret (.int t) Ad)\/(decide (n*t%p=1)=Ad/\∃ ρ',CT Γ 2 Kx (.int t) ρ=.next ρ'/\∃ s,ρ'=[si p,si n,s]):=by
  rintro t ht ρ ⟨s,rfl⟩;obtain⟨t1,t2⟩:=KC.mp ht;have m:DL n t=Aa:=Nn (by omega) (by omega)
  by_cases e:n*t%p=1
  ·exact .inl ⟨by simp[e],by simp[CT,Kx,hr p (n*t) p0,m,e,E2]⟩
  ·exact .inr ⟨by simp[e],_,by simp[CT,Kx,hr p (n*t) p0,m,e];rfl,_,rfl⟩
 have run:∀ o,DF (CT Γ 2 Kx) ((GI p).map D.int) [si p,si n,Af]=o->MK.run Γ [.int p,.int n]=(Ge Γ (.cons (.rais 2 (.cons (.str (AQ "a number with the rest 0 is not turned over")) .nil)) .nil) o).ans Ad:=by
  rintro o rfl;simp[MK,Df.run,BG,TN hp]
 rcases SF (fun ρ=>∃ s,ρ=[si p,si n,s]) (fun t=>decide (n*t%p=1)) (GI p) body [si p,si n,Af] ⟨_,rfl⟩ with ⟨t,ht,a,b⟩|⟨a,r,b,s,rfl⟩
 ·obtain⟨t1,t2⟩:=KC.mp ht;have a':n*t%p=1:=by simpa using a
  exact⟨t,t1,t2,a',by rw[run _ b];rfl⟩
 ·obtain⟨t,t1,t2,e⟩:=Hj hp z;have:=a t (KC.mpr ⟨t1,t2⟩);simp[e]at this
section
variable{Γ:Gam}{p:Ae}{xs:Ac Ae}{b:Ao}
theorem TR(hr:Ix Γ)(ht:O0 Γ)(hp:P4 p)(rs:Ac Ae):∀(ys:Ac Ae),(∀ y∈ys,0<=y/\y<p)->∀ s3,(AY p ys=Af->∃ s3',DF (CT Γ 3 HK) (ds ys) [si p,sh (Dr b xs),sh (.lst (ds rs)),s3,Af,Af,Af]=.next [si p,sh (Dr b xs),sh (.lst (ds rs)),s3',Af,Af,Af])/\(∀ l t,AY p ys=Ab l->DV p l t->DF (CT Γ 3 HK) (ds ys) [si p,sh (Dr b xs),sh (.lst (ds rs)),s3,Af,Af,Af]=.ret (.tup (ds (rs.map fun r=>t*r%p))) Ad)
 |[],_,s3=>⟨fun _=>⟨s3,rfl⟩,(fun l t h=>nomatch h)⟩
 |y::ys,hy,s3=>by
  obtain⟨y0,y1⟩:=hy y (Ax ..);have ym:y%p=y:=AM y0 y1;have ih:=TR hr ht hp rs ys (fun z hz=>hy z (Au _ hz)) (si y)
  have step:∀ o,CT Γ 3 HK (.int y) [si p,sh (Dr b xs),sh (.lst (ds rs)),s3,Af,Af,Af]=o->DF (CT Γ 3 HK) (ds (y::ys)) [si p,sh (Dr b xs),sh (.lst (ds rs)),s3,Af,Af,Af]=o.turn (DF (CT Γ 3 HK) (ds ys)):=by
   rintro o rfl;rfl
  unfold AY;rw[ym];by_cases hz:y=0
  ·have e:CT Γ 3 HK (.int y) [si p,sh (Dr b xs),sh (.lst (ds rs)),s3,Af,Af,Af]=.next [si p,sh (Dr b xs),sh (.lst (ds rs)),si y,Af,Af,Af]:=by
    simp[CT,HK,hz]
   rw[Ay hz,step _ e];exact ih
  ·rw[AH hz];refine⟨(fun z=>nomatch z),fun l t e it=>?_⟩
   cases e;obtain⟨u,u1,u2,u3,u4⟩:=ht p y hp (by rw[ym];exact hz)
   have:t=u:=Tf it ⟨u1,u2,u3⟩;subst this;have p0:=hp.pos;have ph:=hp.hi;have cp:BH (cG Γ [si p,sh (Dr b xs),sh (.lst (ds rs)),si y,si t,Af,Af] 6 Cn) (cF Γ [si p,sh (Dr b xs),sh (.lst (ds rs)),si y,si t,Af,Af] 6 OC) (ds rs)=.ok (ds (rs.map fun r=>t*r%p)):=by
    refine KA rs fun r _=>⟨rfl,?_⟩
    have m:DL t r=Aa:=HM (by omega) (by omega)
    simp[cF,OC,m,hr p (t*r) p0]
   have e:CT Γ 3 HK (.int y) [si p,sh (Dr b xs),sh (.lst (ds rs)),s3,Af,Af,Af]=.ret (.tup (ds (rs.map fun r=>t*r%p))) Ad:=by
    simp[CT,HK,hz,u4,cp,E2]
   rw[step _ e];rfl
theorem jP(hr:Ix Γ)(ht:O0 Γ)(hp:P4 p){l t:Ae}(e:AY p xs=Ab l)(it:DV p l t):MZ.run Γ [.int p,Dr b xs]=.ok (.tup (ds (fmI p t xs))):=by
 have p0:=hp.pos;have cp:BH (cG Γ [si p,sh (Dr b xs),Af,Af,Af,Af,Af] 5 Cn) (cF Γ [si p,sh (Dr b xs),Af,Af,Af,Af,Af] 5 OD) (ds xs)=.ok (ds (xs.map fun x=>x%p)):=by
  refine KA xs fun x _=>⟨rfl,?_⟩
  simp[cF,OD,hr p x p0]
 have run:∀ o,DF (CT Γ 3 HK) (ds (xs.map fun x=>x%p)) [si p,sh (Dr b xs),sh (.lst (ds (xs.map fun x=>x%p))),Af,Af,Af,Af]=o->MZ.run Γ [.int p,Dr b xs]=(Ge Γ (.cons (.rais 3 (.cons (.str (AQ "all the numbers have the rest 0")) .nil)) .nil) o).ans Ad:=by
  rintro o rfl;simp[MZ,Df.run,BG,OV,cp]
 have le:AY p (xs.map fun x=>x%p)=AY p xs:=by
  have:=JY (c:=1) hp (by rcases hp with rfl|rfl|rfl|rfl<;>decide) (f:=fun x=>x%p) (fun x=>by rw[CC,AV _ (BB p)]) xs
  rw[this];cases e:AY p xs with
  |none=>rfl
  |some l=>
   obtain⟨_,l0,l1⟩:=Ip p0 e;simp[AM (Int.le_of_lt l0) l1]
 obtain⟨a,c⟩:=TR (b:=b) (xs:=xs) hr ht hp (xs.map fun x=>x%p) (xs.map fun x=>x%p) (fun y hy=>by
  obtain⟨x,_,rfl⟩:=CI.mp hy;exact⟨AZ _ (by omega),AW _ p0⟩) Af
 rw[le]at a c;rw[run _ (c l t e it)];simp[fmI,FB,WN]
end
noncomputable def Ds(t q:Ao)(a b c:R3):D:=if t=Aa then .tup [Am q a,Am q b,Am q c] else .lst [Am q a,Am q b,Am q c]
theorem Rg(t q:Ao)(a b c:R3):BQ (Ds t q a b c) (.int 0)=.ok (Am q a)/\BQ (Ds t q a b c) (.int 1)=.ok (Am q b)/\BQ (Ds t q a b c) (.int 2)=.ok (Am q c):=by cases t<;>exact⟨rfl,rfl,rfl⟩
theorem Nv(q:Ao)(a:R3):Co (Am q a)=.ok [.int a.1,.int a.2.1,.int a.2.2]:=by cases q<;>rfl
theorem Y9(t q:Ao)(a b c:R3):Co (Ds t q a b c)=.ok [Am q a,Am q b,Am q c]:=by cases t<;>rfl
noncomputable def Bq(a b c:R3):R3:=(a.1,b.1,c.1)
noncomputable def Bm(a b c:R3):R3:=(a.2.1,b.2.1,c.2.1)
noncomputable def Bl(a b c:R3):R3:=(a.2.2,b.2.2,c.2.2)
noncomputable def Pf:Df:=⟨1,Ad,(.cons (.ret (.tupI (.zip3 (.idx (.var 0) (.int 0)) (.idx (.var 0) (.int 1)) (.idx (.var 0) (.int 2))))) .nil)⟩
def Mj(Γ:Gam):Prop:=∀(t q:Ao)(a b c:R3),Γ.F 104 [Ds t q a b c]=.ok (Ds Aa Aa (Bq a b c) (Bm a b c) (Bl a b c))
theorem rM(Γ:Gam)(t q:Ao)(a b c:R3):Pf.run Γ [Ds t q a b c]=.ok (Ds Aa Aa (Bq a b c) (Bm a b c) (Bl a b c)):=by
 obtain⟨r0,r1,r2⟩:=Rg t q a b c;have z:Lc (Am q a) (Am q b) (Am q c)=.ok [Am Aa (Bq a b c),Am Aa (Bm a b c),Am Aa (Bl a b c)]:=by
  unfold Lc;rw[Nv,Nv,Nv];rfl
 simp[Pf,Df.run,BG,r0,r1,r2,z];rfl
noncomputable def Aq(a x:R3):Ae:=a.1*x.1+a.2.1*x.2.1+a.2.2*x.2.2
noncomputable def ML:E:=(.call 1 (.cons (.var 0) (.cons (.bin .Add (.bin .Add (.bin .Mult (.idx (.var 3) (.int 0)) (.idx (.var 2) (.int 0))) (.bin .Mult (.idx (.var 3) (.int 1)) (.idx (.var 2) (.int 1)))) (.bin .Mult (.idx (.var 3) (.int 2)) (.idx (.var 2) (.int 2)))) .nil)))
noncomputable def Pc:Df:=⟨4,Ad,(.cons (.ret (.bi .tuple (.cons (.comp ML 3 (.e (.var 1)) Cn) .nil))) .nil)⟩
def KQ(Γ:Gam):Prop:=∀(p:Ae)(t q q':Ao)(a b c x:R3),0<p->B3 a->B3 b->B3 c->B3 x->Γ.F 91 [.int p,Ds t q a b c,Am q' x]=.ok (Am Aa (Aq a x%p,Aq b x%p,Aq c x%p))
theorem oC(h:Ix Γ)(p:Ae)(t q q':Ao)(a b c x:R3)(hp:0<p)(ha:B3 a)(hb:B3 b)(hc:B3 c)(hx:B3 x):Pc.run Γ [.int p,Ds t q a b c,Am q' x]=.ok (Am Aa (Aq a x%p,Aq b x%p,Aq c x%p)):=by
 obtain⟨x0,x1,x2⟩:=GX q' x;have k:∀ {u v},Bd 300 u->Bd 300 v->E8 u v=Aa:=fun hu hv=>GZ hu hv (by decide) (by decide)
 have key:∀ r:R3,B3 r->cF Γ [si p,sh (Ds t q a b c),sh (Am q' x),Af] 3 ML (Am q r)=.ok (.int (Aq r x%p)):=fun r hr=>by
  obtain⟨y0,y1,y2⟩:=GX q r;simp[cF,ML,x0,x1,x2,y0,y1,y2,k hr.1 hx.1,k hr.2.1 hx.2.1,k hr.2.2 hx.2.2,h p _ hp];rfl
 have g:∀ r,cG Γ [si p,sh (Ds t q a b c),sh (Am q' x),Af] 3 Cn r=.ok Aa:=fun _=>rfl
 have cp:BH (cG Γ [si p,sh (Ds t q a b c),sh (Am q' x),Af] 3 Cn) (cF Γ [si p,sh (Ds t q a b c),sh (Am q' x),Af] 3 ML) [Am q a,Am q b,Am q c]=.ok [.int (Aq a x%p),.int (Aq b x%p),.int (Aq c x%p)]:=by
  simp[BH,g,key a ha,key b hb,key c hc]
 simp[Pc,Df.run,BG,Y9,cp];rfl
noncomputable def crs(a b:R3):R3:=(a.2.1*b.2.2-a.2.2*b.2.1,a.2.2*b.1-a.1*b.2.2,a.1*b.2.1-a.2.1*b.1)
theorem UW:∀ xs ys:Ac Ae,eqDs (ds xs) (ds ys)=decide (xs=ys)
 |[],[]=>rfl
 |[],_::_=>rfl
 |_::_,[]=>rfl
 |x::xs,y::ys=>by
  show ((x==y)&&eqDs (ds xs) (ds ys))=_;rw[UW xs ys,Cv];simp
theorem Vd(a b:R3):eqD (Am Aa a) (Am Aa b)=decide (a=b):=by
 show eqDs (ds [a.1,a.2.1,a.2.2]) (ds [b.1,b.2.1,b.2.2])=_;rw[UW,Cv];simp only[Ic,and_true,AJ];exact⟨fun ⟨h1,h2,h3⟩=>by obtain⟨a1,a2,a3⟩:=a;obtain⟨b1,b2,b3⟩:=b;simp at h1 h2 h3;rw[h1,h2,h3],fun h=>by rw[h];exact⟨rfl,rfl,rfl⟩⟩
noncomputable def Pe:Df:=⟨2,Ad,(.cons (.ife (.cmp .Eq (.var 0) (.var 1)) (.cons (.rais 7 (.cons (.var 0) .nil)) .nil) .nil) (.cons (.ret (.tup (.cons (.bin .Sub (.bin .Mult (.idx (.var 0) (.int 1)) (.idx (.var 1) (.int 2))) (.bin .Mult (.idx (.var 0) (.int 2)) (.idx (.var 1) (.int 1)))) (.cons (.bin .Sub (.bin .Mult (.idx (.var 0) (.int 2)) (.idx (.var 1) (.int 0))) (.bin .Mult (.idx (.var 0) (.int 0)) (.idx (.var 1) (.int 2)))) (.cons (.bin .Sub (.bin .Mult (.idx (.var 0) (.int 0)) (.idx (.var 1) (.int 1))) (.bin .Mult (.idx (.var 0) (.int 1)) (.idx (.var 1) (.int 0)))) .nil))))) .nil))⟩
def UG(Γ:Gam):Prop:=∀ a b:R3,B3 a->B3 b->a≠b->Γ.F 23 [Am Aa a,Am Aa b]=.ok (Am Aa (crs a b))
theorem Uh(Γ:Gam)(a b:R3)(ha:B3 a)(hb:B3 b)(ne:a≠b):Pe.run Γ [Am Aa a,Am Aa b]=.ok (Am Aa (crs a b)):=by
 obtain⟨x0,x1,x2⟩:=GX Aa a;obtain⟨y0,y1,y2⟩:=GX Aa b;have k:∀ {u v},Bd 300 u->Bd 300 v->E8 u v=Aa:=fun hu hv=>GZ hu hv (by decide) (by decide)
 have f:∀ r:R3,flD 5 (Am Aa r)=Aa:=fun _=>rfl
 have e:eqD (Am Aa a) (Am Aa b)=Ad:=by rw[Vd];exact CB ne
 simp[Pe,Df.run,BG,f,e,x0,x1,x2,y0,y1,y2,k ha.2.1 hb.2.2,k ha.2.2 hb.2.1,k ha.2.2 hb.1,k ha.1 hb.2.2,k ha.1 hb.2.1,k ha.2.1 hb.1];rfl
noncomputable def Od:Df:=⟨1,Ad,(.cons (.ret (.tup (.cons (.call 23 (.cons (.idx (.var 0) (.int 1)) (.cons (.idx (.var 0) (.int 2)) .nil))) (.cons (.call 23 (.cons (.idx (.var 0) (.int 2)) (.cons (.idx (.var 0) (.int 0)) .nil))) (.cons (.call 23 (.cons (.idx (.var 0) (.int 0)) (.cons (.idx (.var 0) (.int 1)) .nil))) .nil))))) .nil)⟩
def Qe(Γ:Gam):Prop:=∀ a b c:R3,B3 a->B3 b->B3 c->a≠b->b≠c->c≠a->Γ.F 98 [Ds Aa Aa a b c]=.ok (Ds Aa Aa (crs b c) (crs c a) (crs a b))
theorem jT(h:UG Γ)(a b c:R3)(ha:B3 a)(hb:B3 b)(hc:B3 c)(n1:a≠b)(n2:b≠c)(n3:c≠a):Od.run Γ [Ds Aa Aa a b c]=.ok (Ds Aa Aa (crs b c) (crs c a) (crs a b)):=by
 obtain⟨r0,r1,r2⟩:=Rg Aa Aa a b c;simp[Od,Df.run,BG,r0,r1,r2,h b c hb hc n2,h c a hc ha n3,h a b ha hb n1];rfl
def Mi(Γ:Gam):Prop:=∀(p:Ae)(t q:Ao)(a b c:R3),P4 p->B3 a->B3 b->B3 c->Aj a b c%p≠0->∀ l u,AY p (nine a b c)=Ab l->DV p l u->Γ.F 78 [.int p,Ds t q a b c]=.ok (AX (fmR p u a) (fmR p u b) (fmR p u c))
theorem oB(hm:KH Γ)(hf:KI Γ)(p:Ae)(t q:Ao)(a b c:R3)(hp:P4 p)(ha:B3 a)(hb:B3 b)(hc:B3 c)(z:Aj a b c%p≠0)(l u:Ae)(e:AY p (nine a b c)=Ab l)(it:DV p l u):OR.run Γ [.int p,Ds t q a b c]=.ok (AX (fmR p u a) (fmR p u b) (fmR p u c)):=by
 obtain⟨r0,r1,r2⟩:=Rg t q a b c;have m:=hm p q a b c hp.pos ha hb hc;have f:=hf p Ad (nine a b c) l u hp e it;rw[UT]at f;have f':Γ.F 17 [.int p,.lst (ds (nine a b c))]=.ok (.tup (ds (nine (fmR p u a) (fmR p u b) (fmR p u c)))):=f;obtain⟨x1,x2⟩:=fA a b c;obtain⟨y1,y2,y3⟩:=Zq (fmR p u a) (fmR p u b) (fmR p u c);simp[OR,Df.run,BG,r0,r1,r2,m,z,qD,x1,x2,f',y1,y2,y3,slE];rfl
noncomputable def Ow:Df:=⟨2,Ad,(.cons (.ret (.call 78 (.cons (.var 0) (.cons (.call 104 (.cons (.call 98 (.cons (.var 1) .nil)) .nil)) .nil)))) .nil)⟩
noncomputable def bk0(a b c:R3):R3:=Bq (crs b c) (crs c a) (crs a b)
noncomputable def bk1(a b c:R3):R3:=Bm (crs b c) (crs c a) (crs a b)
noncomputable def bk2(a b c:R3):R3:=Bl (crs b c) (crs c a) (crs a b)
def ND(Γ:Gam):Prop:=∀(p:Ae)(a b c:R3),P4 p->In3 p a->In3 p b->In3 p c->Aj a b c%p≠0->∀ l u,AY p (nine (bk0 a b c) (bk1 a b c) (bk2 a b c))=Ab l->DV p l u->Γ.F 106 [.int p,AX a b c]=.ok (AX (fmR p u (bk0 a b c)) (fmR p u (bk1 a b c)) (fmR p u (bk2 a b c)))
theorem J6{x:Ae}(hp:P4 p)(h0:0<=x)(h1:x<p):Bd 10 x:=by
 unfold Bd;have:=hp.hi;omega
theorem Bd.mono{x:Ae}(h:Bd m x)(hm:m<=n):Bd n x:=AD h (Gr (by decide) hm)
def Bn(n:Ag)(a:R3):Prop:=Bd n a.1/\Bd n a.2.1/\Bd n a.2.2
theorem Bn.b3(h:Bn n a)(hn:n<=300):B3 a:=⟨h.1.mono hn,h.2.1.mono hn,h.2.2.mono hn⟩
theorem BX(hp:P4 p)(h:In3 p a):Bn 10 a:=⟨J6 hp h.1.1 h.1.2,J6 hp h.2.1.1 h.2.1.2,J6 hp h.2.2.1 h.2.2.2⟩
theorem J7{a b:R3}(ha:Bn n a)(hb:Bn n b):Bn (n+n+1) (crs a b):=
 ⟨(ha.2.1.mul hb.2.2).sub (ha.2.2.mul hb.2.1),(ha.2.2.mul hb.1).sub (ha.1.mul hb.2.2),(ha.1.mul hb.2.1).sub (ha.2.1.mul hb.1)⟩
theorem QX{a b c:R3}(ha:Bn n a)(hb:Bn n b)(hc:Bn n c):Bn n (Bq a b c)/\Bn n (Bm a b c)/\Bn n (Bl a b c):=⟨⟨ha.1,hb.1,hc.1⟩,⟨ha.2.1,hb.2.1,hc.2.1⟩,⟨ha.2.2,hb.2.2,hc.2.2⟩⟩
theorem sO{a b c:R3}(z:Aj a b c%p≠0):a≠b/\b≠c/\c≠a:=by
 refine⟨fun e=>z ?_,fun e=>z ?_,fun e=>z ?_⟩
 ·subst e;rw[show Aj a a c=0 by unfold Aj det;grind,A7]
 ·subst e;rw[show Aj a b b=0 by unfold Aj det;grind,A7]
 ·subst e;rw[show Aj c b c=0 by unfold Aj det;grind,A7]
theorem HN(a b c:R3):Aj (bk0 a b c) (bk1 a b c) (bk2 a b c)=Aj a b c*Aj a b c:=by
 unfold Aj det bk0 bk1 bk2 Bq Bm Bl crs;grind
theorem rO(h1:Qe Γ)(h2:Mj Γ)(h3:Mi Γ)(p:Ae)(a b c:R3)(hp:P4 p)(ha:In3 p a)(hb:In3 p b)(hc:In3 p c)(z:Aj a b c%p≠0)(l u:Ae)(e:AY p (nine (bk0 a b c) (bk1 a b c) (bk2 a b c))=Ab l)(it:DV p l u):Ow.run Γ [.int p,AX a b c]=.ok (AX (fmR p u (bk0 a b c)) (fmR p u (bk1 a b c)) (fmR p u (bk2 a b c))):=by
 have ba:=BX hp ha;have bb:=BX hp hb;have bc:=BX hp hc;obtain⟨n1,n2,n3⟩:=sO z;have e1:Γ.F 98 [AX a b c]=.ok (Ds Aa Aa (crs b c) (crs c a) (crs a b)):=h1 a b c (ba.b3 (by decide)) (bb.b3 (by decide)) (bc.b3 (by decide)) n1 n2 n3
 have e2:=h2 Aa Aa (crs b c) (crs c a) (crs a b);obtain⟨c0,c1,c2⟩:=QX (J7 bb bc) (J7 bc ba) (J7 ba bb);have z2:Aj (bk0 a b c) (bk1 a b c) (bk2 a b c)%p≠0:=by rw[HN];exact BJ hp z z
 have e3:Γ.F 78 [.int p,Ds Aa Aa (Bq (crs b c) (crs c a) (crs a b)) (Bm (crs b c) (crs c a) (crs a b)) (Bl (crs b c) (crs c a) (crs a b))]=.ok (AX (fmR p u (bk0 a b c)) (fmR p u (bk1 a b c)) (fmR p u (bk2 a b c))):=h3 p Aa Aa _ _ _ hp (c0.b3 (by decide)) (c1.b3 (by decide)) (c2.b3 (by decide)) z2 l u e it
 simp[Ow,Df.run,BG,e1,e2,e3]
noncomputable def mlR(p:Ae)(x a b c:R3):R3:=(Aq (Bq a b c) x%p,Aq (Bm a b c) x%p,Aq (Bl a b c) x%p)
noncomputable def M2:E:=(.call 91 (.cons (.var 0) (.cons (.var 3) (.cons (.var 4) .nil))))
noncomputable def P7:Df:=⟨5,Ad,(.cons (.asg 3 Ad (.call 104 (.cons (.var 2) .nil))) (.cons (.ret (.call 78 (.cons (.var 0) (.cons (.comp M2 4 (.e (.var 1)) Cn) .nil)))) .nil))⟩
def U3(Γ:Gam):Prop:=∀(p:Ae)(x y z a b c:R3),P4 p->In3 p x->In3 p y->In3 p z->In3 p a->In3 p b->In3 p c->Aj (mlR p x a b c) (mlR p y a b c) (mlR p z a b c)%p≠0->∀ l u,AY p (nine (mlR p x a b c) (mlR p y a b c) (mlR p z a b c))=Ab l->DV p l u ->
 Γ.F 105 [.int p,AX x y z,AX a b c]=.ok (AX (fmR p u (mlR p x a b c)) (fmR p u (mlR p y a b c)) (fmR p u (mlR p z a b c)))
theorem QY(hp:0<p)(x a b c:R3):In3 p (mlR p x a b c):=⟨⟨AZ _ (by omega),AW _ hp⟩,⟨AZ _ (by omega),AW _ hp⟩,⟨AZ _ (by omega),AW _ hp⟩⟩
theorem jV(h2:Mj Γ)(hs:KQ Γ)(h3:Mi Γ)(p:Ae)(x y z a b c:R3)(hp:P4 p)(hx:In3 p x)(hy:In3 p y)(hz:In3 p z)(ha:In3 p a)(hb:In3 p b)(hc:In3 p c)(nz:Aj (mlR p x a b c) (mlR p y a b c) (mlR p z a b c)%p≠0)(l u:Ae)(e:AY p (nine (mlR p x a b c) (mlR p y a b c) (mlR p z a b c))=Ab l)(it:DV p l u):P7.run Γ [.int p,AX x y z,AX a b c]=.ok (AX (fmR p u (mlR p x a b c)) (fmR p u (mlR p y a b c)) (fmR p u (mlR p z a b c))):=by
 have p0:=hp.pos;have e1:Γ.F 104 [AX a b c]=.ok (Ds Aa Aa (Bq a b c) (Bm a b c) (Bl a b c)):=h2 Aa Aa a b c;obtain⟨c0,c1,c2⟩:=QX (BX hp ha) (BX hp hb) (BX hp hc);have es:∀ r:R3,In3 p r->Γ.F 91 [.int p,Ds Aa Aa (Bq a b c) (Bm a b c) (Bl a b c),Am Aa r]=.ok (Am Aa (mlR p r a b c)):=fun r hr=>hs p Aa Aa Aa _ _ _ r p0 (c0.b3 (by decide)) (c1.b3 (by decide)) (c2.b3 (by decide)) ((BX hp hr).b3 (by decide))
 have key:∀ r:R3,In3 p r->cF Γ [si p,sh (AX x y z),sh (AX a b c),sh (Ds Aa Aa (Bq a b c) (Bm a b c) (Bl a b c)),Af] 4 M2 (Am Aa r)=.ok (Am Aa (mlR p r a b c)):=fun r hr=>by
  simp[cF,M2,es r hr]
 have g:∀ r,cG Γ [si p,sh (AX x y z),sh (AX a b c),sh (Ds Aa Aa (Bq a b c) (Bm a b c) (Bl a b c)),Af] 4 Cn r=.ok Aa:=fun _=>rfl
 have sq:Co (AX x y z)=.ok [Am Aa x,Am Aa y,Am Aa z]:=rfl;have cp:BH (cG Γ [si p,sh (AX x y z),sh (AX a b c),sh (Ds Aa Aa (Bq a b c) (Bm a b c) (Bl a b c)),Af] 4 Cn) (cF Γ [si p,sh (AX x y z),sh (AX a b c),sh (Ds Aa Aa (Bq a b c) (Bm a b c) (Bl a b c)),Af] 4 M2) [Am Aa x,Am Aa y,Am Aa z]=.ok [Am Aa (mlR p x a b c),Am Aa (mlR p y a b c),Am Aa (mlR p z a b c)]:=by
  simp[BH,g,key x hx,key y hy,key z hz]
 have e3:Γ.F 78 [.int p,.lst [Am Aa (mlR p x a b c),Am Aa (mlR p y a b c),Am Aa (mlR p z a b c)]]=.ok (AX (fmR p u (mlR p x a b c)) (fmR p u (mlR p y a b c)) (fmR p u (mlR p z a b c))):=
  h3 p Ad Aa _ _ _ hp ((BX hp (QY p0 x a b c)).b3 (by decide)) ((BX hp (QY p0 y a b c)).b3 (by decide)) ((BX hp (QY p0 z a b c)).b3 (by decide)) nz l u e it
 simp[P7,Df.run,BG,e1,sq,cp,e3]
noncomputable def OX:E:=(.bin .Mult (.var 0) (.var 2))
noncomputable def Pq:Df:=⟨3,Ad,(.cons (.ret (.comp OX 2 (.e (.var 1)) Cn)) .nil)⟩
def fB(Γ:Gam):Prop:=∀(k:Ae)(a:R3),0<=k->k<100->Γ.F 110 [.int k,Am Aa a]=.ok (Am Ad (k*a.1,k*a.2.1,k*a.2.2))
theorem cZ(Γ:Gam)(k:Ae)(a:R3)(h0:0<=k)(h1:k<100):Pq.run Γ [.int k,Am Aa a]=.ok (Am Ad (k*a.1,k*a.2.1,k*a.2.2)):=by
 have m:∀ x,DL k x=Aa:=fun x=>HM (by omega) (by omega)
 have key:∀ x:Ae,cF Γ [si k,sh (Am Aa a),Af] 2 OX (.int x)=.ok (.int (k*x)):=fun x=>by
  simp[cF,OX,m]
 have g:∀ x,cG Γ [si k,sh (Am Aa a),Af] 2 Cn x=.ok Aa:=fun _=>rfl
 simp[Pq,Df.run,BG,Nv,BH,g,key];rfl
noncomputable def Dq(a b c d:R3):D:=.lst [Am Aa a,Am Aa b,Am Aa c,Am Aa d]
noncomputable def AB(k:Ae)(a:R3):R3:=(k*a.1,k*a.2.1,k*a.2.2)
theorem lX(a b c d:R3):BQ (Dq a b c d) (.int 0)=.ok (Am Aa a)/\BQ (Dq a b c d) (.int 1)=.ok (Am Aa b)/\BQ (Dq a b c d) (.int 2)=.ok (Am Aa c)/\BQ (Dq a b c d) (.int 3)=.ok (Am Aa d):=⟨rfl,rfl,rfl,rfl⟩
noncomputable def OG:Df:=⟨3,Ad,(.cons (.asg 2 Ad (.tup (.cons (.call 110 (.cons (.call 61 (.cons (.var 0) (.cons (.idx (.var 1) (.int 3)) (.cons (.idx (.var 1) (.int 1)) (.cons (.idx (.var 1) (.int 2)) .nil))))) (.cons (.idx (.var 1) (.int 0)) .nil))) (.cons (.call 110 (.cons (.call 61 (.cons (.var 0) (.cons (.idx (.var 1) (.int 0)) (.cons (.idx (.var 1) (.int 3)) (.cons (.idx (.var 1) (.int 2)) .nil))))) (.cons (.idx (.var 1) (.int 1)) .nil))) (.cons (.call 110 (.cons (.call 61 (.cons (.var 0) (.cons (.idx (.var 1) (.int 0)) (.cons (.idx (.var 1) (.int 1)) (.cons (.idx (.var 1) (.int 3)) .nil))))) (.cons (.idx (.var 1) (.int 2)) .nil))) .nil))))) (.cons (.ret (.call 78 (.cons (.var 0) (.cons (.call 104 (.cons (.var 2) .nil)) .nil)))) .nil))⟩
noncomputable def fk0(p:Ae)(a b c d:R3):Ae:=Aj d b c%p
noncomputable def fk1(p:Ae)(a b c d:R3):Ae:=Aj a d c%p
noncomputable def fk2(p:Ae)(a b c d:R3):Ae:=Aj a b d%p
noncomputable def fs0(p:Ae)(a b c d:R3):R3:=AB (fk0 p a b c d) a
noncomputable def fs1(p:Ae)(a b c d:R3):R3:=AB (fk1 p a b c d) b
noncomputable def fs2(p:Ae)(a b c d:R3):R3:=AB (fk2 p a b c d) c
noncomputable def fr0(p:Ae)(a b c d:R3):R3:=Bq (fs0 p a b c d) (fs1 p a b c d) (fs2 p a b c d)
noncomputable def fr1(p:Ae)(a b c d:R3):R3:=Bm (fs0 p a b c d) (fs1 p a b c d) (fs2 p a b c d)
noncomputable def fr2(p:Ae)(a b c d:R3):R3:=Bl (fs0 p a b c d) (fs1 p a b c d) (fs2 p a b c d)
def RU(Γ:Gam):Prop:=∀(p:Ae)(a b c d:R3),P4 p->In3 p a->In3 p b->In3 p c->In3 p d->Aj (fr0 p a b c d) (fr1 p a b c d) (fr2 p a b c d)%p≠0->∀ l u,AY p (nine (fr0 p a b c d) (fr1 p a b c d) (fr2 p a b c d))=Ab l->DV p l u ->
 Γ.F 111 [.int p,Dq a b c d]=.ok (AX (fmR p u (fr0 p a b c d)) (fmR p u (fr1 p a b c d)) (fmR p u (fr2 p a b c d)))
theorem Rb(hk:Bd n k)(ha:Bn m a):Bn (n+m) (AB k a):=⟨hk.mul ha.1,hk.mul ha.2.1,hk.mul ha.2.2⟩
theorem Zi(hm:KH Γ)(hs:fB Γ)(h2:Mj Γ)(h3:Mi Γ)(p:Ae)(a b c d:R3)(hp:P4 p)(ha:In3 p a)(hb:In3 p b)(hc:In3 p c)(hd:In3 p d)(z:Aj (fr0 p a b c d) (fr1 p a b c d) (fr2 p a b c d)%p≠0)(l u:Ae)(e:AY p (nine (fr0 p a b c d) (fr1 p a b c d) (fr2 p a b c d))=Ab l)(it:DV p l u):OG.run Γ [.int p,Dq a b c d]=.ok (AX (fmR p u (fr0 p a b c d)) (fmR p u (fr1 p a b c d)) (fmR p u (fr2 p a b c d))):=by
 have p0:=hp.pos;have ph:=hp.hi;have ba:=(BX hp ha).b3 (by decide)
 have bb:=(BX hp hb).b3 (by decide)
 have bc:=(BX hp hc).b3 (by decide)
 have bd:=(BX hp hd).b3 (by decide)
 obtain⟨x0,x1,x2,x3⟩:=lX a b c d;have m0:=hm p Aa d b c p0 bd bb bc;have m1:=hm p Aa a d c p0 ba bd bc;have m2:=hm p Aa a b d p0 ba bb bd;have k0:0<=Aj d b c%p/\Aj d b c%p<p:=⟨AZ _ (by omega),AW _ p0⟩
 have k1:0<=Aj a d c%p/\Aj a d c%p<p:=⟨AZ _ (by omega),AW _ p0⟩
 have k2:0<=Aj a b d%p/\Aj a b d%p<p:=⟨AZ _ (by omega),AW _ p0⟩
 have s0:Γ.F 110 [.int (Aj d b c%p),Am Aa a]=.ok (Am Ad (AB (Aj d b c%p) a)):=hs (Aj d b c%p) a k0.1 (by omega)
 have s1:Γ.F 110 [.int (Aj a d c%p),Am Aa b]=.ok (Am Ad (AB (Aj a d c%p) b)):=hs (Aj a d c%p) b k1.1 (by omega)
 have s2:Γ.F 110 [.int (Aj a b d%p),Am Aa c]=.ok (Am Ad (AB (Aj a b d%p) c)):=hs (Aj a b d%p) c k2.1 (by omega)
 have e2:Γ.F 104 [.tup [Am Ad (AB (Aj d b c%p) a),Am Ad (AB (Aj a d c%p) b),Am Ad (AB (Aj a b d%p) c)]]=.ok (Ds Aa Aa (fr0 p a b c d) (fr1 p a b c d) (fr2 p a b c d)):=h2 Aa Ad _ _ _;obtain⟨c0,c1,c2⟩:=QX (Rb (J6 hp k0.1 k0.2) (BX hp ha)) (Rb (J6 hp k1.1 k1.2) (BX hp hb)) (Rb (J6 hp k2.1 k2.2) (BX hp hc));have e3:=h3 p Aa Aa (fr0 p a b c d) (fr1 p a b c d) (fr2 p a b c d) hp (c0.b3 (by decide)) (c1.b3 (by decide)) (c2.b3 (by decide)) z l u e it
 simp[OG,Df.run,BG,x0,x1,x2,x3,m0,m1,m2,s0,s1,s2,e2,e3]
noncomputable def R8:Ss:=(.cons (.ife (.cmp .Eq (.call 61 (.cons (.var 0) (.cons (.var 3) (.cons (.idx (.var 1) (.var 4)) (.cons (.idx (.var 1) (.var 5)) .nil))))) (.int 0)) (.cons (.ret (.tup (.cons (.var 3) (.cons (.idx (.var 1) (.var 4)) (.cons (.idx (.var 1) (.var 5)) .nil))))) .nil) .nil) .nil)
noncomputable def R0:Ss:=(.cons (.fors 5 (.rng2 (.bin .Add (.var 4) (.int 1)) (.bi .len (.cons (.var 1) .nil))) R8) .nil)
noncomputable def RZ:Ss:=(.cons (.fors 4 (.rng2 (.bin .Add (.var 2) (.int 1)) (.bi .len (.cons (.var 1) .nil))) R0) .nil)
noncomputable def LQ:Df:=⟨6,Ad,(.cons (.forT [2,3] (.enm (.var 1)) RZ) (.cons (.ret .non) .nil))⟩
noncomputable def MP:Df:=⟨3,Ad,(.cons (.asg 2 Ad (.call 65 (.cons (.var 0) (.cons (.var 1) .nil)))) (.cons (.ife (.cmp .IsNot (.var 2) .non) (.cons (.rais 18 (.cons (.var 2) .nil)) .nil) .nil) .nil))⟩
theorem dC(p:Ae)(a b c d:D){m0 m1 m2 m3:Ae}(h0:Γ.F 61 [.int p,a,b,c]=.ok (.int m0))(h1:Γ.F 61 [.int p,a,b,d]=.ok (.int m1))(h2:Γ.F 61 [.int p,a,c,d]=.ok (.int m2))(h3:Γ.F 61 [.int p,b,c,d]=.ok (.int m3))(n0:m0≠0)(n1:m1≠0)(n2:m2≠0)(n3:m3≠0):LQ.run Γ [.int p,.lst [a,b,c,d]]=.ok .non:=by
 have x0:DE [a,b,c,d] 0=.ok a:=rfl;have x1:DE [a,b,c,d] 1=.ok b:=rfl;have x2:DE [a,b,c,d] 2=.ok c:=rfl;have x3:DE [a,b,c,d] 3=.ok d:=rfl;have r14:C5 1 4=.ok [.int 1,.int 2,.int 3]:=rfl;have r24:C5 2 4=.ok [.int 2,.int 3]:=rfl;have r34:C5 3 4=.ok [.int 3]:=rfl;have r44:C5 4 4=.ok []:=rfl;simp[LQ,Df.run,BG,Hq,DF,CT,NO,R8,R0,RZ,GE,x0,x1,x2,x3,r14,r24,r34,r44,h0,h1,h2,h3,n0,n1,n2,n3]
def G3(p:Ae)(a b c d:R3):Prop:=Aj a b c%p≠0/\Aj a b d%p≠0/\Aj a c d%p≠0/\Aj b c d%p≠0
def Wx(Γ:Gam):Prop:=∀(p:Ae)(a b c d:R3),P4 p->In3 p a->In3 p b->In3 p c->In3 p d->G3 p a b c d->Γ.F 109 [.int p,Dq a b c d]=.ok .non
def Uf(Γ:Gam):Prop:=∀(p:Ae)(a b c d:R3),P4 p->In3 p a->In3 p b->In3 p c->In3 p d->G3 p a b c d->Γ.F 65 [.int p,Dq a b c d]=.ok .non
theorem jS(hm:KH Γ)(p:Ae)(a b c d:R3)(hp:P4 p)(ha:In3 p a)(hb:In3 p b)(hc:In3 p c)(hd:In3 p d)(h:G3 p a b c d):LQ.run Γ [.int p,Dq a b c d]=.ok .non:=by
 have p0:=hp.pos;have ba:=(BX hp ha).b3 (by decide)
 have bb:=(BX hp hb).b3 (by decide)
 have bc:=(BX hp hc).b3 (by decide)
 have bd:=(BX hp hd).b3 (by decide)
 exact dC p _ _ _ _ (hm p Aa a b c p0 ba bb bc) (hm p Aa a b d p0 ba bb bd) (hm p Aa a c d p0 ba bc bd) (hm p Aa b c d p0 bb bc bd) h.1 h.2.1 h.2.2.1 h.2.2.2
theorem xD(hf:Uf Γ)(p:Ae)(a b c d:R3)(hp:P4 p)(ha:In3 p a)(hb:In3 p b)(hc:In3 p c)(hd:In3 p d)(h:G3 p a b c d):MP.run Γ [.int p,Dq a b c d]=.ok .non:=by
 have e:=hf p a b c d hp ha hb hc hd h;simp[MP,Df.run,BG,e]
noncomputable def LR:Df:=⟨3,Ad,(.cons (.ife (.or (.cons (.cmp .NotEq (.bi .len (.cons (.var 1) .nil)) (.int 4)) (.cons (.cmp .NotEq (.bi .len (.cons (.var 2) .nil)) (.int 4)) .nil))) (.cons (.rais 13 (.cons (.str (AQ "a frame has four points")) .nil)) .nil) .nil) (.cons (.expr (.call 109 (.cons (.var 0) (.cons (.var 1) .nil)))) (.cons (.expr (.call 109 (.cons (.var 0) (.cons (.var 2) .nil)))) (.cons (.ret (.call 105 (.cons (.var 0) (.cons (.call 111 (.cons (.var 0) (.cons (.var 2) .nil))) (.cons (.call 106 (.cons (.var 0) (.cons (.call 111 (.cons (.var 0) (.cons (.var 1) .nil))) .nil))) .nil))))) .nil))))⟩
theorem rF{a b c d a' b' c' d':R3}{M N B R:D}(e1:Γ.F 109 [.int p,Dq a b c d]=.ok .non)(e2:Γ.F 109 [.int p,Dq a' b' c' d']=.ok .non)(e3:Γ.F 111 [.int p,Dq a' b' c' d']=.ok N)(e4:Γ.F 111 [.int p,Dq a b c d]=.ok M)(e5:Γ.F 106 [.int p,M]=.ok B)(e6:Γ.F 105 [.int p,N,B]=.ok R):LR.run Γ [.int p,Dq a b c d,Dq a' b' c' d']=.ok R:=by
 have l1:biD .len [Dq a b c d]=.ok (.int 4):=rfl;have l2:biD .len [Dq a' b' c' d']=.ok (.int 4):=rfl;simp[LR,Df.run,BG,l1,l2,e1,e2,e3,e4,e5,e6]
def CgR(p:Ae)(x y:R3):Prop:=Cg p x.1 y.1/\Cg p x.2.1 y.2.1/\Cg p x.2.2 y.2.2
section
variable{p:Ae}{a b c a' b' c' x y z x':R3}{k l m k':Ae}
theorem CgR.rfl:CgR p a a:=⟨Cg.rfl,Cg.rfl,Cg.rfl⟩
theorem CgR.of(h:a=b):CgR p a b:=by rw[h];exact CgR.rfl
theorem CgR.trans(h:CgR p a b)(g:CgR p b c):CgR p a c:=⟨h.1.trans g.1,h.2.1.trans g.2.1,h.2.2.trans g.2.2⟩
theorem CgR.symm(h:CgR p a b):CgR p b a:=⟨h.1.symm,h.2.1.symm,h.2.2.symm⟩
theorem CgR.sc(hk:Cg p k k')(h:CgR p a b):CgR p (AB k a) (AB k' b):=⟨hk.mul h.1,hk.mul h.2.1,hk.mul h.2.2⟩
theorem Ir(ha:CgR p a a')(hb:CgR p b b')(hc:CgR p c c'):Cg p (Aj a b c) (Aj a' b' c'):=by
 unfold Aj det;exact HS ha.1 ha.2.1 ha.2.2 hb.1 hb.2.1 hb.2.2 hc.1 hc.2.1 hc.2.2
theorem EF(ha:CgR p a a')(hb:CgR p b b'):Cg p (Aq a b) (Aq a' b'):=((ha.1.mul hb.1).add (ha.2.1.mul hb.2.1)).add (ha.2.2.mul hb.2.2)
theorem NB(ha:CgR p a a')(hb:CgR p b b')(hc:CgR p c c'):CgR p (Bq a b c) (Bq a' b' c')/\CgR p (Bm a b c) (Bm a' b' c')/\CgR p (Bl a b c) (Bl a' b' c'):=⟨⟨ha.1,hb.1,hc.1⟩,⟨ha.2.1,hb.2.1,hc.2.1⟩,⟨ha.2.2,hb.2.2,hc.2.2⟩⟩
theorem Mg(ha:CgR p a a')(hb:CgR p b b'):CgR p (crs a b) (crs a' b'):=
 ⟨(ha.2.1.mul hb.2.2).sub (ha.2.2.mul hb.2.1),(ha.2.2.mul hb.1).sub (ha.1.mul hb.2.2),(ha.1.mul hb.2.1).sub (ha.2.1.mul hb.1)⟩
theorem WD(ha:CgR p a a')(hb:CgR p b b')(hc:CgR p c c'):CgR p (bk0 a b c) (bk0 a' b' c')/\CgR p (bk1 a b c) (bk1 a' b' c')/\CgR p (bk2 a b c) (bk2 a' b' c'):=NB (Mg hb hc) (Mg hc ha) (Mg ha hb)
theorem DU(p t:Ae)(a:R3):CgR p (fmR p t a) (AB t a):=by
 have key:∀ x:Ae,Cg p (t*(x%p)%p) (t*x):=fun x=>(Cg.md _root_.rfl).trans (Cg.rfl.mul (Cg.md _root_.rfl))
 exact⟨key _,key _,key _⟩
noncomputable def rm(a x y z:R3):R3:=(Aq (Bq x y z) a,Aq (Bm x y z) a,Aq (Bl x y z) a)
theorem yJ(p:Ae)(a x y z:R3):CgR p (mlR p a x y z) (rm a x y z):=⟨Cg.md _root_.rfl,Cg.md _root_.rfl,Cg.md _root_.rfl⟩
theorem wP{z':R3}(ha:CgR p a a')(hx:CgR p x x')(hy:CgR p y y')(hz:CgR p z z'):CgR p (rm a x y z) (rm a' x' y' z'):=by
 obtain⟨c0,c1,c2⟩:=NB hx hy hz;exact⟨EF c0 ha,EF c1 ha,EF c2 ha⟩
noncomputable def ap(a b c x:R3):R3:=(Aq a x,Aq b x,Aq c x)
theorem QI(a b c x y z:R3):Aj (ap a b c x) (ap a b c y) (ap a b c z)=Aj a b c*Aj x y z:=by
 unfold Aj det ap Aq;grind
theorem JC(k l m:Ae)(x y z:R3):Aj (AB k x) (AB l y) (AB m z)=k*l*m*Aj x y z:=by
 unfold Aj det AB;grind
theorem HZ(k l:Ae)(x:R3):AB k (AB l x)=AB (k*l) x:=by
 unfold AB;simp only[F7]
theorem Wr(a b c x:R3)(k:Ae):ap a b c (AB k x)=AB k (ap a b c x):=by
 unfold ap AB Aq;refine Bp ?_ (Bp ?_ ?_)<;>(simp only;grind)
theorem wO(k:Ae)(a x y z:R3):rm (AB k a) x y z=AB k (rm a x y z):=by
 unfold rm AB Aq Bq Bm Bl;refine Bp ?_ (Bp ?_ ?_)<;>(simp only;grind)
theorem nY(k:Ae)(a x y z:R3):rm a (AB k x) (AB k y) (AB k z)=AB k (rm a x y z):=by
 unfold rm AB Aq Bq Bm Bl;refine Bp ?_ (Bp ?_ ?_)<;>(simp only;grind)
theorem WC(k:Ae)(x y z:R3):bk0 (AB k x) (AB k y) (AB k z)=AB (k*k) (bk0 x y z)/\bk1 (AB k x) (AB k y) (AB k z)=AB (k*k) (bk1 x y z)/\bk2 (AB k x) (AB k y) (AB k z)=AB (k*k) (bk2 x y z):=by
 unfold bk0 bk1 bk2 AB Bq Bm Bl crs;refine⟨?_,?_,?_⟩<;>refine Bp ?_ (Bp ?_ ?_)<;>(simp only;grind)
theorem wQ(a x y z:R3):rm (rm a x y z) (bk0 x y z) (bk1 x y z) (bk2 x y z)=AB (Aj x y z) a:=by
 unfold rm AB Aq bk0 bk1 bk2 Bq Bm Bl crs Aj det;refine Bp ?_ (Bp ?_ ?_)<;>(simp only;grind)
theorem PX(x y z:R3):Aj (Bq x y z) (Bm x y z) (Bl x y z)=Aj x y z:=by
 unfold Aj det Bq Bm Bl;grind
end
theorem JB(a b:R3):Aq a b=Aq b a:=by unfold Aq;grind
theorem Jb{x y:Ae}(h:Cg p x y)(hy:y%p≠0):x%p≠0:=fun z=>hy ((show x%p=y%p from h).symm.trans z)
theorem nz3{x y z:Ae}(hp:P4 p)(hx:x%p≠0)(hy:y%p≠0)(hz:z%p≠0):x*y*z%p≠0:=BJ hp (BJ hp hx hy) hz
section
variable{p:Ae}{a b c f0 f1 f2 f3 g0 g1 g2 g3:R3}{d0 d1 d2 d3:Ae}
theorem KN(hx:CgR p g0 (AB d0 (ap a b c f0)))(hy:CgR p g1 (AB d1 (ap a b c f1)))(hz:CgR p g2 (AB d2 (ap a b c f2))):Cg p (Aj g0 g1 g2) (d0*d1*d2*(Aj a b c*Aj f0 f1 f2)):=
 (Ir hx hy hz).trans (Cg.of (by rw[JC,QI]))
theorem QG{z w z' w':R3}{k0 k1 k2 k3 K:Ae}(hx:CgR p x' (AB k0 (ap a b c x)))(hy:CgR p y' (AB k1 (ap a b c y)))(hz:CgR p z' (AB k2 (ap a b c z)))(hw:CgR p w' (AB k3 (ap a b c w)))(hK:K=k0*k1*k2*k3*Aj a b c):CgR p (AB (Aj x' y' z'%p) w') (AB K (ap a b c (AB (Aj x y z%p) w))):=by
 have e1:Cg p (Aj x' y' z'%p) (k0*k1*k2*(Aj a b c*(Aj x y z%p))):=((Cg.md rfl).trans (KN hx hy hz)).trans (Cg.rfl.mul (Cg.rfl.mul (Cg.md rfl).symm));refine(CgR.sc e1 hw).trans (CgR.of ?_);rw[HZ,Wr,HZ,hK]
 congr 1
 grind
theorem tR(h0:CgR p g0 (AB d0 (ap a b c f0)))(h1:CgR p g1 (AB d1 (ap a b c f1)))(h2:CgR p g2 (AB d2 (ap a b c f2)))(h3:CgR p g3 (AB d3 (ap a b c f3))):CgR p (fr0 p g0 g1 g2 g3) (AB (d0*d1*d2*d3*Aj a b c) (rm a (fr0 p f0 f1 f2 f3) (fr1 p f0 f1 f2 f3) (fr2 p f0 f1 f2 f3)))/\CgR p (fr1 p g0 g1 g2 g3) (AB (d0*d1*d2*d3*Aj a b c) (rm b (fr0 p f0 f1 f2 f3) (fr1 p f0 f1 f2 f3) (fr2 p f0 f1 f2 f3)))/\CgR p (fr2 p g0 g1 g2 g3) (AB (d0*d1*d2*d3*Aj a b c) (rm c (fr0 p f0 f1 f2 f3) (fr1 p f0 f1 f2 f3) (fr2 p f0 f1 f2 f3))):=by
 have s0:CgR p (fs0 p g0 g1 g2 g3) (AB (d0*d1*d2*d3*Aj a b c) (ap a b c (fs0 p f0 f1 f2 f3))):=QG h3 h1 h2 h0 (by grind)
 have s1:CgR p (fs1 p g0 g1 g2 g3) (AB (d0*d1*d2*d3*Aj a b c) (ap a b c (fs1 p f0 f1 f2 f3))):=QG h0 h3 h2 h1 (by grind)
 have s2:CgR p (fs2 p g0 g1 g2 g3) (AB (d0*d1*d2*d3*Aj a b c) (ap a b c (fs2 p f0 f1 f2 f3))):=QG h0 h1 h3 h2 (by grind)
 obtain⟨c0,c1,c2⟩:=NB s0 s1 s2;have key:∀ r:R3,rm r (fr0 p f0 f1 f2 f3) (fr1 p f0 f1 f2 f3) (fr2 p f0 f1 f2 f3)=(Aq r (fs0 p f0 f1 f2 f3),Aq r (fs1 p f0 f1 f2 f3),Aq r (fs2 p f0 f1 f2 f3)):=fun r=>by
  rw[JB r,JB r,JB r];rfl
 rw[key a,key b,key c];exact⟨c0,c1,c2⟩
theorem tS(p:Ae)(f0 f1 f2 f3:R3):Aj (fr0 p f0 f1 f2 f3) (fr1 p f0 f1 f2 f3) (fr2 p f0 f1 f2 f3)=fk0 p f0 f1 f2 f3*fk1 p f0 f1 f2 f3*fk2 p f0 f1 f2 f3*Aj f0 f1 f2:=by
 unfold fr0 fr1 fr2;rw[PX];unfold fs0 fs1 fs2;rw[JC]
theorem QZ{x:Ae}(h:x%p≠0):x%p%p≠0:=by rw[AV _ (BB p)];exact h
theorem Wm(hp:P4 p)(h:G3 p f0 f1 f2 f3):Aj (fr0 p f0 f1 f2 f3) (fr1 p f0 f1 f2 f3) (fr2 p f0 f1 f2 f3)%p≠0:=by
 rw[tS];obtain⟨h1,h2,h3,h4⟩:=h;have k0:Aj f3 f1 f2%p≠0:=by rw[show Aj f3 f1 f2=Aj f1 f2 f3 by unfold Aj det;grind];exact h4
 have k1:Aj f0 f3 f2%p≠0:=by rw[show Aj f0 f3 f2=-1*Aj f0 f2 f3 by unfold Aj det;grind];exact BJ hp hp.m1 h3
 exact BJ hp (nz3 hp (QZ k0) (QZ k1) (QZ h2)) h1
theorem kI(hp:P4 p)(hD:Aj a b c%p≠0)(n0:d0%p≠0)(n1:d1%p≠0)(n2:d2%p≠0)(n3:d3%p≠0)(h0:CgR p g0 (AB d0 (ap a b c f0)))(h1:CgR p g1 (AB d1 (ap a b c f1)))(h2:CgR p g2 (AB d2 (ap a b c f2)))(h3:CgR p g3 (AB d3 (ap a b c f3)))(h:G3 p f0 f1 f2 f3):G3 p g0 g1 g2 g3:=
 ⟨Jb (KN h0 h1 h2) (BJ hp (nz3 hp n0 n1 n2) (BJ hp hD h.1)),Jb (KN h0 h1 h3) (BJ hp (nz3 hp n0 n1 n3) (BJ hp hD h.2.1)),Jb (KN h0 h2 h3) (BJ hp (nz3 hp n0 n2 n3) (BJ hp hD h.2.2.1)),Jb (KN h1 h2 h3) (BJ hp (nz3 hp n1 n2 n3) (BJ hp hD h.2.2.2))⟩
end
theorem kJ{a b c x y z:R3}(hp:P4 p)(hk:k%p≠0)(ha:In3 p a)(hb:In3 p b)(hc:In3 p c)(l1:AY p (nine a b c)=Ab 1)(hx:CgR p x (AB k a))(hy:CgR p y (AB k b))(hz:CgR p z (AB k c)):∃ l u,AY p (nine x y z)=Ab l/\DV p l u/\fmR p u x=a/\fmR p u y=b/\fmR p u z=c:=by
 have p1:1<p:=by have:=hp.lo;omega
 have rs:(nine x y z).map (fun x=>x%p)=((nine a b c).map fun x=>k*x).map (fun x=>x%p):=by
  simp only[nine,B7,FC];rw[show x.1%p=k*a.1%p from hx.1,show x.2.1%p=k*a.2.1%p from hx.2.1,show x.2.2%p=k*a.2.2%p from hx.2.2,show y.1%p=k*b.1%p from hy.1,show y.2.1%p=k*b.2.1%p from hy.2.1,show y.2.2%p=k*b.2.2%p from hy.2.2,show z.1%p=k*c.1%p from hz.1,show z.2.1%p=k*c.2.1%p from hz.2.1,show z.2.2%p=k*c.2.2%p from hz.2.2]
 have it:DV p 1 1:=⟨by decide,p1,by rw[CC,AM (by decide) p1]⟩
 have l0:(1:Ae)%p≠0:=hp.o1;obtain⟨u,iu,eu⟩:=cL hp hk l0 it (f:=fun x=>k*x) (fun _=>rfl) (nine a b c)
 have el:=JY hp hk (f:=fun x=>k*x) (fun _=>rfl) (nine a b c)
 rw[l1,<-MS rs]at el;rw[<-Tu rs]at eu;have one:∀ v:Ae,0<=v->v<p->1*(v%p)%p=v:=fun v h0 h1=>by rw[CC,AV _ (BB p),AM h0 h1]
 have same:fmI p 1 (nine a b c)=nine a b c:=by
  unfold fmI nine;simp only[B7,FC];rw[one _ ha.1.1 ha.1.2,one _ ha.2.1.1 ha.2.1.2,one _ ha.2.2.1 ha.2.2.2,one _ hb.1.1 hb.1.2,one _ hb.2.1.1 hb.2.1.2,one _ hb.2.2.1 hb.2.2.2,one _ hc.1.1 hc.1.2,one _ hc.2.1.1 hc.2.1.2,one _ hc.2.2.1 hc.2.2.2]
 rw[same,UT]at eu;obtain⟨e1,e2,e3⟩:=cJ eu;exact⟨_,u,el,iu,e1,e2,e3⟩
theorem jM(hk:Wx Γ)(hf:RU Γ)(hb:ND Γ)(ha:U3 Γ){a b c f0 f1 f2 f3 g0 g1 g2 g3:R3}{d0 d1 d2 d3:Ae}(hp:P4 p)(ia:In3 p a)(ib:In3 p b)(ic:In3 p c)(hD:Aj a b c%p≠0)(l1:AY p (nine a b c)=Ab 1)(i0:In3 p f0)(i1:In3 p f1)(i2:In3 p f2)(i3:In3 p f3)(hg:G3 p f0 f1 f2 f3)(j0:In3 p g0)(j1:In3 p g1)(j2:In3 p g2)(j3:In3 p g3)(n0:d0%p≠0)(n1:d1%p≠0)(n2:d2%p≠0)(n3:d3%p≠0)(h0:CgR p g0 (AB d0 (ap a b c f0)))(h1:CgR p g1 (AB d1 (ap a b c f1)))(h2:CgR p g2 (AB d2 (ap a b c f2)))(h3:CgR p g3 (AB d3 (ap a b c f3))):LR.run Γ [.int p,Dq f0 f1 f2 f3,Dq g0 g1 g2 g3]=.ok (AX a b c):=by
 have p0:=hp.pos;have hg':=kI hp hD n0 n1 n2 n3 h0 h1 h2 h3 hg;have e1:=hk p f0 f1 f2 f3 hp i0 i1 i2 i3 hg;have e2:=hk p g0 g1 g2 g3 hp j0 j1 j2 j3 hg';have zM:=Wm hp hg;have zN:=Wm hp hg';obtain⟨r0,r1,r2⟩:=tR h0 h1 h2 h3
 -- the frames' tables
 obtain⟨lM,eM⟩:=LX zM;obtain⟨v,v1,v2,v3⟩:=Hj hp (Ip p0 eM).1;have e4:=hf p f0 f1 f2 f3 hp i0 i1 i2 i3 zM lM v eM ⟨v1,v2,v3⟩;obtain⟨lN,eN⟩:=LX zN;obtain⟨u,u1,u2,u3⟩:=Hj hp (Ip p0 eN).1;have e3:=hf p g0 g1 g2 g3 hp j0 j1 j2 j3 zN lN u eN ⟨u1,u2,u3⟩;have vz:v%p≠0:=by rw[AM (by omega) v2];omega
 have uz:u%p≠0:=by rw[AM (by omega) u2];omega
 generalize fr0 p f0 f1 f2 f3=x at *;generalize fr1 p f0 f1 f2 f3=y at *;generalize fr2 p f0 f1 f2 f3=z at *;generalize fr0 p g0 g1 g2 g3=x' at *;generalize fr1 p g0 g1 g2 g3=y' at *;generalize fr2 p g0 g1 g2 g3=z' at *;have mx:=DU p v x;have my:=DU p v y;have mz:=DU p v z;have kx:In3 p (fmR p v x):=FW p0 v x;have ky:In3 p (fmR p v y):=FW p0 v y;have kz:In3 p (fmR p v z):=FW p0 v z;have zM':Aj (fmR p v x) (fmR p v y) (fmR p v z)%p≠0:=Jb ((Ir mx my mz).trans (Cg.of (JC v v v x y z))) (BJ hp (nz3 hp vz vz vz) zM);obtain⟨b0,b1,b2⟩:=WD mx my mz;obtain⟨s0,s1,s2⟩:=WC v x y z;rw[s0]at b0;rw[s1]at b1;rw[s2]at b2;have zB:Aj (bk0 (fmR p v x) (fmR p v y) (fmR p v z)) (bk1 (fmR p v x) (fmR p v y) (fmR p v z)) (bk2 (fmR p v x) (fmR p v y) (fmR p v z))%p≠0:=by rw[HN];exact BJ hp zM' zM'
 obtain⟨lB,eB⟩:=LX zB;obtain⟨w,w1,w2,w3⟩:=Hj hp (Ip p0 eB).1;have wz:w%p≠0:=by rw[AM (by omega) w2];omega
 have e5:=hb p _ _ _ hp kx ky kz zM' lB w eB ⟨w1,w2,w3⟩;generalize bk0 (fmR p v x) (fmR p v y) (fmR p v z)=B0 at *;generalize bk1 (fmR p v x) (fmR p v y) (fmR p v z)=B1 at *;generalize bk2 (fmR p v x) (fmR p v y) (fmR p v z)=B2 at *;have c0:CgR p (fmR p w B0) (AB (w*(v*v)) (bk0 x y z)):=(DU p w B0).trans ((CgR.sc Cg.rfl b0).trans (CgR.of (HZ _ _ _)));have c1:CgR p (fmR p w B1) (AB (w*(v*v)) (bk1 x y z)):=(DU p w B1).trans ((CgR.sc Cg.rfl b1).trans (CgR.of (HZ _ _ _)));have c2:CgR p (fmR p w B2) (AB (w*(v*v)) (bk2 x y z)):=(DU p w B2).trans ((CgR.sc Cg.rfl b2).trans (CgR.of (HZ _ _ _)))
 -- the product
 have row:∀{r t:R3},CgR p t (AB (d0*d1*d2*d3*Aj a b c) (rm r x y z))->CgR p (mlR p (fmR p u t) (fmR p w B0) (fmR p w B1) (fmR p w B2)) (AB (w*(v*v)*(u*(d0*d1*d2*d3*Aj a b c))*Aj x y z) r):=fun {r t} ht=>by
  have q:CgR p (fmR p u t) (AB (u*(d0*d1*d2*d3*Aj a b c)) (rm r x y z)):=(DU p u t).trans ((CgR.sc Cg.rfl ht).trans (CgR.of (HZ _ _ _)));refine(yJ p _ _ _ _).trans ((wP q c0 c1 c2).trans (CgR.of ?_));rw[nY,wO,wQ,HZ,HZ]
 have q0:=row r0;have q1:=row r1;have q2:=row r2;have kz':w*(v*v)*(u*(d0*d1*d2*d3*Aj a b c))*Aj x y z%p≠0:=BJ hp (BJ hp (BJ hp wz (BJ hp vz vz)) (BJ hp uz (BJ hp (BJ hp (nz3 hp n0 n1 n2) n3) hD))) zM;obtain⟨l,t,el,it,f0',f1',f2'⟩:=kJ hp kz' ia ib ic l1 q0 q1 q2;have zR:Aj (mlR p (fmR p u x') (fmR p w B0) (fmR p w B1) (fmR p w B2)) (mlR p (fmR p u y') (fmR p w B0) (fmR p w B1) (fmR p w B2)) (mlR p (fmR p u z') (fmR p w B0) (fmR p w B1) (fmR p w B2))%p≠0:=Jb ((Ir q0 q1 q2).trans (Cg.of (JC _ _ _ a b c))) (BJ hp (nz3 hp kz' kz' kz') hD);have e6:=ha p _ _ _ _ _ _ hp (FW p0 u x') (FW p0 u y') (FW p0 u z') (FW p0 w B0) (FW p0 w B1) (FW p0 w B2) zR l t el it;rw[f0',f1',f2']at e6;exact rF e1 e2 e3 e4 e5 e6
section
variable{Γ:Gam}{ns:Ac Ae}
end
section
variable{Γ:Gam}{ns:Ac Ae}{many s5 s6 s7 s8 s9 s0 s1 s2:Sl}{p:Ae}{a b c:R3}
end
noncomputable def OH:E:=(.call 1 (.cons (.var 0) (.cons (.var 3) .nil)))
noncomputable def OT:Df:=⟨4,Ad,(.cons (.asg 2 Ad (.comp OH 3 (.e (.var 1)) Cn)) (.cons (.ife (.no (.bi .any (.cons (.var 2) .nil))) (.cons (.rais 5 (.cons (.str (AQ "all six numbers have the rest 0")) .nil)) .nil) .nil) (.cons (.ret (.call 17 (.cons (.var 0) (.cons (.var 2) .nil)))) .nil)))⟩
noncomputable def OB:Df:=⟨1,Ad,(.cons (.ret (.call 122 (.cons (.var 0) (.cons (.tup (.cons (.int 0) (.cons (.int 1) (.cons (.int 0) (.cons (.int 0) (.cons (.un .USub (.int 1)) (.cons (.int 0) .nil))))))) .nil)))) .nil)⟩
theorem Uc:∀ xs:Ac Ae,FY (ds xs)=.ok (xs.any fun x=>x != 0)
 |[]=>rfl
 |x::xs=>by
  show (EH (.int x)).bind (fun b=>(FY (ds xs)).bind fun c=>.ok (b||c))=_
  rw[Uc xs];rfl
theorem To{p:Ae}(hp:0<p):∀ xs:Ac Ae,((xs.map fun x=>x%p).any fun x=>x != 0)=(AY p xs).isSome
 |[]=>rfl
 |x::xs=>by
  unfold AY;rw[B7,WY];by_cases h:x%p=0
  ·rw[Ay h,h,To hp xs];rfl
  ·rw[AH h];simp[h]
theorem VW(xs:Ac Ae):(xs.map fun x=>x%p).map (fun x=>x%p)=xs.map fun x=>x%p:=by
 rw[FB];refine Ez fun x _=>?_
 show x%p%p=x%p;rw[AV _ (BB p)]
def UC(Γ:Gam):Prop:=∀ p:Ae,P4 p->Γ.F 123 [.int p]=.ok (.tup (ds [0,1,0,0,p-1,0]))
def InL(p:Ae)(xs:Ac Ae):Prop:=∀ x∈xs,0<=x/\x<p
theorem InL.set(h:InL p xs)(k:Ag){v:Ae}(h0:0<=v)(h1:v<p):InL p (xs.set k v):=fun x hx=>by
 rcases List.mem_or_eq_of_mem_set hx with z|rfl
 ·exact h x z
 ·exact⟨h0,h1⟩
section
variable{Γ:Gam}{ns:Ac Ae}{p at_:Ae}
end
section
variable{Γ:Gam}{ns:Ac Ae}{p t:Ae}
end
structure C6 where
 c0:Ae
 c1:Ae
 c2:Ae
 c3:Ae
 c4:Ae
 c5:Ae
variable{C:C6}
noncomputable def C6.l(C:C6):Ac Ae:=[C.c0,C.c1,C.c2,C.c3,C.c4,C.c5]
noncomputable def A6(C:C6):D:=.tup (ds C.l)
noncomputable def vI(C:C6)(x:R3):Ae:=C.c0*x.1*x.1+C.c1*x.2.1*x.2.1+C.c2*x.2.2*x.2.2+(C.c3*x.1*x.2.1+C.c4*x.1*x.2.2+C.c5*x.2.1*x.2.2)
noncomputable def tw0(C:C6):R3:=(2*C.c0,C.c3,C.c4)
noncomputable def tw1(C:C6):R3:=(C.c3,2*C.c1,C.c5)
noncomputable def tw2(C:C6):R3:=(C.c4,C.c5,2*C.c2)
noncomputable def bI(C:C6)(x y:R3):Ae:=Aq (ap (tw0 C) (tw1 C) (tw2 C) x) y
noncomputable def scC(k:Ae)(C:C6):C6:=⟨k*C.c0,k*C.c1,k*C.c2,k*C.c3,k*C.c4,k*C.c5⟩
def CgC(p:Ae)(C D:C6):Prop:=Cg p C.c0 D.c0/\Cg p C.c1 D.c1/\Cg p C.c2 D.c2/\Cg p C.c3 D.c3/\Cg p C.c4 D.c4/\Cg p C.c5 D.c5
noncomputable def pb(C:C6)(a b c:R3):C6:=⟨vI C (Bq a b c),vI C (Bm a b c),vI C (Bl a b c),bI C (Bq a b c) (Bm a b c),bI C (Bq a b c) (Bl a b c),bI C (Bm a b c) (Bl a b c)⟩
section
variable{p:Ae}{C D E:C6}{a b c a' b' c' x y x' y':R3}{k k':Ae}
theorem C6.ext'(h0:C.c0=D.c0)(h1:C.c1=D.c1)(h2:C.c2=D.c2)(h3:C.c3=D.c3)(h4:C.c4=D.c4)(h5:C.c5=D.c5):C=D:=by
 cases C;cases D;simp_all
theorem CgC.rfl:CgC p C C:=⟨Cg.rfl,Cg.rfl,Cg.rfl,Cg.rfl,Cg.rfl,Cg.rfl⟩
theorem CgC.of(h:C=D):CgC p C D:=by rw[h];exact CgC.rfl
theorem CgC.symm(h:CgC p C D):CgC p D C:=⟨h.1.symm,h.2.1.symm,h.2.2.1.symm,h.2.2.2.1.symm,h.2.2.2.2.1.symm,h.2.2.2.2.2.symm⟩
theorem CgC.trans(h:CgC p C D)(g:CgC p D E):CgC p C E:=⟨h.1.trans g.1,h.2.1.trans g.2.1,h.2.2.1.trans g.2.2.1,h.2.2.2.1.trans g.2.2.2.1,h.2.2.2.2.1.trans g.2.2.2.2.1,h.2.2.2.2.2.trans g.2.2.2.2.2⟩
theorem CgC.sc(hk:Cg p k k')(h:CgC p C D):CgC p (scC k C) (scC k' D):=⟨hk.mul h.1,hk.mul h.2.1,hk.mul h.2.2.1,hk.mul h.2.2.2.1,hk.mul h.2.2.2.2.1,hk.mul h.2.2.2.2.2⟩
theorem Iy(h:CgC p C D)(hx:CgR p x x'):Cg p (vI C x) (vI D x'):=
 (((((h.1.mul hx.1).mul hx.1).add ((h.2.1.mul hx.2.1).mul hx.2.1)).add ((h.2.2.1.mul hx.2.2).mul hx.2.2))).add ((((h.2.2.2.1.mul hx.1).mul hx.2.1).add ((h.2.2.2.2.1.mul hx.1).mul hx.2.2)).add ((h.2.2.2.2.2.mul hx.2.1).mul hx.2.2))
theorem Mu(h:CgC p C D):CgR p (tw0 C) (tw0 D)/\CgR p (tw1 C) (tw1 D)/\CgR p (tw2 C) (tw2 D):=
 ⟨⟨Cg.rfl.mul h.1,h.2.2.2.1,h.2.2.2.2.1⟩,⟨h.2.2.2.1,Cg.rfl.mul h.2.1,h.2.2.2.2.2⟩,⟨h.2.2.2.2.1,h.2.2.2.2.2,Cg.rfl.mul h.2.2.1⟩⟩
theorem tU(ha:CgR p a a')(hb:CgR p b b')(hc:CgR p c c')(hx:CgR p x x'):CgR p (ap a b c x) (ap a' b' c' x'):=⟨EF ha hx,EF hb hx,EF hc hx⟩
theorem NP(h:CgC p C D)(hx:CgR p x x')(hy:CgR p y y'):Cg p (bI C x y) (bI D x' y'):=
 let ⟨t0,t1,t2⟩:=Mu h
 EF (tU t0 t1 t2 hx) hy
theorem NK(h:CgC p C D)(ha:CgR p a a')(hb:CgR p b b')(hc:CgR p c c'):CgC p (pb C a b c) (pb D a' b' c'):=
 let ⟨s0,s1,s2⟩:=NB ha hb hc
 ⟨Iy h s0,Iy h s1,Iy h s2,NP h s0 s1,NP h s0 s2,NP h s1 s2⟩
theorem Mk(k l:Ae)(C:C6):scC k (scC l C)=scC (k*l) C:=by
 unfold scC;simp only[F7]
theorem Md(C:C6):scC 1 C=C:=by unfold scC;simp only[CC]
theorem QV(k:Ae)(C:C6)(a b c:R3):pb (scC k C) a b c=scC k (pb C a b c):=by
 unfold pb scC vI bI ap tw0 tw1 tw2 Aq;refine C6.ext' ?_ ?_ ?_ ?_ ?_ ?_<;>(simp only;grind)
theorem qS(k:Ae)(C:C6)(a b c:R3):pb C (AB k a) (AB k b) (AB k c)=scC (k*k) (pb C a b c):=by
 unfold pb scC vI bI ap tw0 tw1 tw2 Aq Bq Bm Bl AB;refine C6.ext' ?_ ?_ ?_ ?_ ?_ ?_<;>(simp only;grind)
theorem Qg(C:C6)(x y z:R3)(k l m:Ae):vI C (k*x.1+l*y.1+m*z.1,k*x.2.1+l*y.2.1+m*z.2.1,k*x.2.2+l*y.2.2+m*z.2.2)=k*k*vI C x+l*l*vI C y+m*m*vI C z+(k*l*bI C x y+k*m*bI C x z+l*m*bI C y z):=by
 unfold vI bI ap tw0 tw1 tw2 Aq;simp only;grind
theorem VL(C:C6)(x y z w:R3)(k l m:Ae):bI C (k*x.1+l*y.1+m*z.1,k*x.2.1+l*y.2.1+m*z.2.1,k*x.2.2+l*y.2.2+m*z.2.2) w=k*bI C x w+l*bI C y w+m*bI C z w:=by
 unfold bI ap tw0 tw1 tw2 Aq;simp only;grind
theorem IY(C:C6)(x y:R3):bI C x y=bI C y x:=by
 unfold bI ap tw0 tw1 tw2 Aq;simp only;grind
theorem IX(C:C6)(x:R3):bI C x x=2*vI C x:=by
 unfold vI bI ap tw0 tw1 tw2 Aq;simp only;grind
theorem yK(v0 v1 v2 b0 b1 b2:Ae)(u:R3):vI ⟨v0,v1,v2,b0,b1,b2⟩ u=u.1*u.1*v0+u.2.1*u.2.1*v1+u.2.2*u.2.2*v2+(u.1*u.2.1*b0+u.1*u.2.2*b1+u.2.1*u.2.2*b2):=by
 unfold vI;simp only;grind
theorem yL(v0 v1 v2 b0 b1 b2:Ae)(u w:R3):bI ⟨v0,v1,v2,b0,b1,b2⟩ u w=u.1*(w.1*(2*v0)+w.2.1*b0+w.2.2*b1)+u.2.1*(w.1*b0+w.2.1*(2*v1)+w.2.2*b2)+u.2.2*(w.1*b1+w.2.1*b2+w.2.2*(2*v2)):=by
 unfold bI ap tw0 tw1 tw2 Aq;simp only;grind
theorem Zs(C:C6)(s0 s1 s2 u:R3):vI C (u.1*s0.1+u.2.1*s1.1+u.2.2*s2.1,u.1*s0.2.1+u.2.1*s1.2.1+u.2.2*s2.2.1,u.1*s0.2.2+u.2.1*s1.2.2+u.2.2*s2.2.2)=vI ⟨vI C s0,vI C s1,vI C s2,bI C s0 s1,bI C s0 s2,bI C s1 s2⟩ u:=by
 exact(Qg C s0 s1 s2 u.1 u.2.1 u.2.2).trans (yK _ _ _ _ _ _ u).symm
theorem RQ(C:C6)(s0 s1 s2 u w:R3):bI C (u.1*s0.1+u.2.1*s1.1+u.2.2*s2.1,u.1*s0.2.1+u.2.1*s1.2.1+u.2.2*s2.2.1,u.1*s0.2.2+u.2.1*s1.2.2+u.2.2*s2.2.2) (w.1*s0.1+w.2.1*s1.1+w.2.2*s2.1,w.1*s0.2.1+w.2.1*s1.2.1+w.2.2*s2.2.1,w.1*s0.2.2+w.2.1*s1.2.2+w.2.2*s2.2.2)=bI ⟨vI C s0,vI C s1,vI C s2,bI C s0 s1,bI C s0 s2,bI C s1 s2⟩ u w:=by
 have e:∀ s:R3,bI C s (w.1*s0.1+w.2.1*s1.1+w.2.2*s2.1,w.1*s0.2.1+w.2.1*s1.2.1+w.2.2*s2.2.1,w.1*s0.2.2+w.2.1*s1.2.2+w.2.2*s2.2.2)=w.1*bI C s0 s+w.2.1*bI C s1 s+w.2.2*bI C s2 s:=fun s=>(IY C _ _).trans (VL C s0 s1 s2 s w.1 w.2.1 w.2.2)
 refine Eq.trans ?_ (yL _ _ _ _ _ _ u w).symm;rw[VL,e,e,e,IX C s0,IX C s1,IX C s2,IY C s1 s0,IY C s2 s0,IY C s2 s1]
theorem V3(C:C6)(a b c x y z:R3):pb (pb C a b c) x y z=pb C (rm a x y z) (rm b x y z) (rm c x y z):=by
 have v:=fun u=>(Zs C (Bq a b c) (Bm a b c) (Bl a b c) u).symm
 have w:=fun u u'=>(RQ C (Bq a b c) (Bm a b c) (Bl a b c) u u').symm
 exact C6.ext' (v (Bq x y z)) (v (Bm x y z)) (v (Bl x y z)) (w (Bq x y z) (Bm x y z)) (w (Bq x y z) (Bl x y z)) (w (Bm x y z) (Bl x y z))
theorem yY(C:C6)(k:Ae):pb C (k,0,0) (0,k,0) (0,0,k)=scC (k*k) C:=by
 unfold pb scC vI bI ap tw0 tw1 tw2 Aq Bq Bm Bl;refine C6.ext' ?_ ?_ ?_ ?_ ?_ ?_<;>(simp only;grind)
theorem nZ(a b c:R3):rm a (bk0 a b c) (bk1 a b c) (bk2 a b c)=(Aj a b c,0,0)/\rm b (bk0 a b c) (bk1 a b c) (bk2 a b c)=(0,Aj a b c,0)/\rm c (bk0 a b c) (bk1 a b c) (bk2 a b c)=(0,0,Aj a b c):=by
 unfold rm Aq bk0 bk1 bk2 Bq Bm Bl crs Aj det;refine⟨?_,?_,?_⟩<;>refine Bp ?_ (Bp ?_ ?_)<;>(simp only;grind)
theorem sN(C:C6)(a b c:R3):Aj (tw0 (pb C a b c)) (tw1 (pb C a b c)) (tw2 (pb C a b c))=Aj a b c*Aj a b c*Aj (tw0 C) (tw1 C) (tw2 C):=by
 have row:∀ s:R3,(bI C s (Bq a b c),bI C s (Bm a b c),bI C s (Bl a b c))=ap (Bq a b c) (Bm a b c) (Bl a b c) (ap (tw0 C) (tw1 C) (tw2 C) s):=fun s=>by
  unfold bI;rw[JB,JB _ (Bm a b c),JB _ (Bl a b c)];rfl
 have e0:tw0 (pb C a b c)=(bI C (Bq a b c) (Bq a b c),bI C (Bq a b c) (Bm a b c),bI C (Bq a b c) (Bl a b c)):=by rw[IX];rfl
 have e1:tw1 (pb C a b c)=(bI C (Bm a b c) (Bq a b c),bI C (Bm a b c) (Bm a b c),bI C (Bm a b c) (Bl a b c)):=by rw[IX,IY C (Bm a b c) (Bq a b c)];rfl
 have e2:tw2 (pb C a b c)=(bI C (Bl a b c) (Bq a b c),bI C (Bl a b c) (Bm a b c),bI C (Bl a b c) (Bl a b c)):=by rw[IX,IY C (Bl a b c) (Bq a b c),IY C (Bl a b c) (Bm a b c)];rfl
 rw[e0,e1,e2,row,row,row,QI,QI,PX];grind
theorem UX(k:Ae)(C:C6):Aj (tw0 (scC k C)) (tw1 (scC k C)) (tw2 (scC k C))=k*k*k*Aj (tw0 C) (tw1 C) (tw2 C):=by
 rw[<-JC];unfold tw0 tw1 tw2 scC AB;simp only[<-F7,BV 2 k]
def PrC(p:Ae)(C D:C6):Prop:=∃ d,d%p≠0/\CgC p C (scC d D)
theorem PrC.rfl(hp:P4 p):PrC p C C:=⟨1,hp.o1,CgC.of (Md C).symm⟩
theorem PrC.trans(hp:P4 p)(i:PrC p C D)(j:PrC p D E):PrC p C E:=by
 obtain⟨d,dz,e⟩:=i;obtain⟨d',dz',e'⟩:=j;exact⟨d*d',BJ hp dz dz',e.trans ((CgC.sc Cg.rfl e').trans (CgC.of (Mk _ _ _)))⟩
theorem QD(hp:P4 p)(dz:k%p≠0):∃ u,u%p≠0/\Cg p (u*k) 1:=by
 obtain⟨u,u1,u2,u3⟩:=Hj hp dz;refine⟨u,by rw[AM (by omega) u2];omega,?_⟩
 show u*k%p=1%p;rw[BV,u3,AM (by decide) (by have:=hp.lo;omega)]
theorem PrC.pb(i:PrC p C D):PrC p (OvC.pb C a b c) (OvC.pb D a b c):=by
 obtain⟨d,dz,e⟩:=i;exact⟨d,dz,(NK e CgR.rfl CgR.rfl CgR.rfl).trans (CgC.of (QV d D a b c))⟩
theorem PrC.tab(hp:P4 p)(kz:k%p≠0)(ha:CgR p a (AB k a'))(hb:CgR p b (AB k b'))(hc:CgR p c (AB k c')):PrC p (OvC.pb C a b c) (OvC.pb C a' b' c'):=
 ⟨k*k,BJ hp kz kz,(NK CgC.rfl ha hb hc).trans (CgC.of (qS k C a' b' c'))⟩
def InC(p:Ae)(C:C6):Prop:=∀ x∈C.l,0<=x/\x<p
theorem iR(hp:P4 p){l:Ae}(lC:AY p C.l=Ab l)(z:Aj a b c%p≠0)(h:CgC p E (OvC.pb C a b c)):∃ l,AY p E.l=Ab l:=by
 cases el:AY p E.l with
 |some l=>exact⟨l,_root_.rfl⟩
 |none=>
  have hz:=JV.mp el;have e0:CgC p E (scC 0 E):=by
   have k:∀ x∈E.l,Cg p x (0*x):=fun x hx=>by show x%p=0*x%p;rw[hz x hx,EV,A7]
   exact⟨k _ (by simp[C6.l]),k _ (by simp[C6.l]),k _ (by simp[C6.l]),k _ (by simp[C6.l]),k _ (by simp[C6.l]),k _ (by simp[C6.l])⟩
  have q:CgC p (OvC.pb E (bk0 a b c) (bk1 a b c) (bk2 a b c)) (scC (Aj a b c*Aj a b c) C):=by
   refine(NK h CgR.rfl CgR.rfl CgR.rfl).trans (CgC.of ?_);obtain⟨r0,r1,r2⟩:=nZ a b c;rw[V3,r0,r1,r2,yY]
  have q0:CgC p (OvC.pb E (bk0 a b c) (bk1 a b c) (bk2 a b c)) (scC 0 (OvC.pb E (bk0 a b c) (bk1 a b c) (bk2 a b c))):=by
   have:=NK e0 (CgR.rfl (a:=bk0 a b c)) (CgR.rfl (a:=bk1 a b c)) (CgR.rfl (a:=bk2 a b c))
   rwa [QV]at this
  obtain⟨u,uz,o⟩:=QD hp (BJ hp z z);have t:CgC p C (scC 0 (OvC.pb E (bk0 a b c) (bk1 a b c) (bk2 a b c))):=by
   have w:=CgC.sc (k:=u) (k':=u) Cg.rfl (q.symm.trans q0);rw[Mk,Mk,Dm]at w;exact((CgC.of (Md C).symm).trans (CgC.sc o.symm CgC.rfl)).trans w
  have z0:AY p C.l=Af:=by
   refine JV.mpr fun x hx=>?_
   obtain⟨h0,h1,h2,h3,h4,h5⟩:=t;have k:∀{x y:Ae},Cg p x (0*y)->x%p=0:=fun {x y} h=>by rw[show x%p=_ from h,EV,A7]
   simp only[C6.l,Aw,A3,Cb]at hx;rcases hx with rfl|rfl|rfl|rfl|rfl|rfl
   ·exact k h0
   ·exact k h1
   ·exact k h2
   ·exact k h3
   ·exact k h4
   ·exact k h5
  rw[z0]at lC;cases lC
end
noncomputable def P0:Df:=⟨5,Ad,(.cons (.asg 3 Ad (.bin .Add (.bin .Add (.bin .Mult (.bin .Mult (.idx (.var 1) (.int 0)) (.idx (.var 2) (.int 0))) (.idx (.var 2) (.int 0))) (.bin .Mult (.bin .Mult (.idx (.var 1) (.int 1)) (.idx (.var 2) (.int 1))) (.idx (.var 2) (.int 1)))) (.bin .Mult (.bin .Mult (.idx (.var 1) (.int 2)) (.idx (.var 2) (.int 2))) (.idx (.var 2) (.int 2))))) (.cons (.asg 4 Ad (.bin .Add (.bin .Add (.bin .Mult (.bin .Mult (.idx (.var 1) (.int 3)) (.idx (.var 2) (.int 0))) (.idx (.var 2) (.int 1))) (.bin .Mult (.bin .Mult (.idx (.var 1) (.int 4)) (.idx (.var 2) (.int 0))) (.idx (.var 2) (.int 2)))) (.bin .Mult (.bin .Mult (.idx (.var 1) (.int 5)) (.idx (.var 2) (.int 1))) (.idx (.var 2) (.int 2))))) (.cons (.ret (.call 1 (.cons (.var 0) (.cons (.bin .Add (.var 3) (.var 4)) .nil)))) .nil)))⟩
noncomputable def Oz:Df:=⟨2,Ad,(.cons (.ret (.tup (.cons (.tup (.cons (.call 1 (.cons (.var 0) (.cons (.bin .Mult (.int 2) (.idx (.var 1) (.int 0))) .nil))) (.cons (.idx (.var 1) (.int 3)) (.cons (.idx (.var 1) (.int 4)) .nil)))) (.cons (.tup (.cons (.idx (.var 1) (.int 3)) (.cons (.call 1 (.cons (.var 0) (.cons (.bin .Mult (.int 2) (.idx (.var 1) (.int 1))) .nil))) (.cons (.idx (.var 1) (.int 5)) .nil)))) (.cons (.tup (.cons (.idx (.var 1) (.int 4)) (.cons (.idx (.var 1) (.int 5)) (.cons (.call 1 (.cons (.var 0) (.cons (.bin .Mult (.int 2) (.idx (.var 1) (.int 2))) .nil))) .nil)))) .nil))))) .nil)⟩
noncomputable def LZ:Df:=⟨3,Ad,(.cons (.asg 2 Ad (.call 131 (.cons (.var 0) (.cons (.var 1) .nil)))) (.cons (.ret (.cmp .NotEq (.call 61 (.cons (.var 0) (.cons (.idx (.var 2) (.int 0)) (.cons (.idx (.var 2) (.int 1)) (.cons (.idx (.var 2) (.int 2)) .nil))))) (.int 0))) .nil))⟩
noncomputable def P6:Df:=⟨5,Ad,(.cons (.asg 4 Ad (.call 91 (.cons (.var 0) (.cons (.call 131 (.cons (.var 0) (.cons (.var 1) .nil))) (.cons (.var 2) .nil))))) (.cons (.ret (.bin .Add (.bin .Add (.bin .Mult (.idx (.var 4) (.int 0)) (.idx (.var 3) (.int 0))) (.bin .Mult (.idx (.var 4) (.int 1)) (.idx (.var 3) (.int 1)))) (.bin .Mult (.idx (.var 4) (.int 2)) (.idx (.var 3) (.int 2))))) .nil))⟩
noncomputable def M0:E:=(.call 126 (.cons (.var 0) (.cons (.var 1) (.cons (.var 6) .nil))))
noncomputable def P5:Df:=⟨7,Ad,(.cons (.asg 3 Ad (.call 104 (.cons (.call 106 (.cons (.var 0) (.cons (.var 2) .nil))) .nil))) (.cons (.asg 4 Ad (.comp M0 6 (.e (.var 3)) Cn)) (.cons (.asg 5 Ad (.lst (.cons (.call 132 (.cons (.var 0) (.cons (.var 1) (.cons (.idx (.var 3) (.int 0)) (.cons (.idx (.var 3) (.int 1)) .nil))))) (.cons (.call 132 (.cons (.var 0) (.cons (.var 1) (.cons (.idx (.var 3) (.int 0)) (.cons (.idx (.var 3) (.int 2)) .nil))))) (.cons (.call 132 (.cons (.var 0) (.cons (.var 1) (.cons (.idx (.var 3) (.int 1)) (.cons (.idx (.var 3) (.int 2)) .nil))))) .nil))))) (.cons (.ret (.call 122 (.cons (.var 0) (.cons (.bin .Add (.var 4) (.var 5)) .nil)))) .nil))))⟩
theorem ix6(C:C6):BQ (A6 C) (.int 0)=.ok (.int C.c0)/\BQ (A6 C) (.int 1)=.ok (.int C.c1)/\BQ (A6 C) (.int 2)=.ok (.int C.c2)/\BQ (A6 C) (.int 3)=.ok (.int C.c3)/\BQ (A6 C) (.int 4)=.ok (.int C.c4)/\BQ (A6 C) (.int 5)=.ok (.int C.c5):=⟨rfl,rfl,rfl,rfl,rfl,rfl⟩
structure BC (C:C6):Prop where
 b0:Bd 10 C.c0
 b1:Bd 10 C.c1
 b2:Bd 10 C.c2
 b3:Bd 10 C.c3
 b4:Bd 10 C.c4
 b5:Bd 10 C.c5
theorem InC.b(hp:P4 p)(h:InC p C):BC C:=by
 have k:∀ x∈C.l,Bd 10 x:=fun x hx=>J6 hp (h x hx).1 (h x hx).2
 exact⟨k _ (by simp[C6.l]),k _ (by simp[C6.l]),k _ (by simp[C6.l]),k _ (by simp[C6.l]),k _ (by simp[C6.l]),k _ (by simp[C6.l])⟩
def Qa(Γ:Gam):Prop:=∀(p:Ae)(C:C6)(x:R3),P4 p->InC p C->In3 p x->Γ.F 126 [.int p,A6 C,Am Aa x]=.ok (.int (vI C x%p))
theorem jH(hr:Ix Γ)(p:Ae)(C:C6)(x:R3)(hp:P4 p)(iC:InC p C)(ix:In3 p x):P0.run Γ [.int p,A6 C,Am Aa x]=.ok (.int (vI C x%p)):=by
 obtain⟨i0,i1,i2,i3,i4,i5⟩:=ix6 C;obtain⟨x0,x1,x2⟩:=GX Aa x;have bC:=iC.b hp;have bx:=BX hp ix;have k:∀ {u v},Bd 10 u->Bd 10 v->E8 u v=Aa:=fun hu hv=>GZ hu hv (by decide) (by decide)
 have k2:∀ {u v w},Bd 10 u->Bd 10 v->Bd 10 w->E8 (u*v) w=Aa:=fun hu hv hw=>GZ (hu.mul hv) hw (by decide) (by decide)
 simp[P0,Df.run,BG,i0,i1,i2,i3,i4,i5,x0,x1,x2,k bC.b0 bx.1,k bC.b1 bx.2.1,k bC.b2 bx.2.2,k bC.b3 bx.1,k bC.b4 bx.1,k bC.b5 bx.2.1,k2 bC.b0 bx.1 bx.1,k2 bC.b1 bx.2.1 bx.2.1,k2 bC.b2 bx.2.2 bx.2.2,k2 bC.b3 bx.1 bx.2.1,k2 bC.b4 bx.1 bx.2.2,k2 bC.b5 bx.2.1 bx.2.2,hr p _ hp.pos];rfl
noncomputable def t0(p:Ae)(C:C6):R3:=(2*C.c0%p,C.c3,C.c4)
noncomputable def t1(p:Ae)(C:C6):R3:=(C.c3,2*C.c1%p,C.c5)
noncomputable def t2(p:Ae)(C:C6):R3:=(C.c4,C.c5,2*C.c2%p)
theorem MA(hp:P4 p)(h:InC p C):In3 p (t0 p C)/\In3 p (t1 p C)/\In3 p (t2 p C):=by
 have p0:=hp.pos;have k:∀ x∈C.l,0<=x/\x<p:=h;have m:∀ x:Ae,0<=x%p/\x%p<p:=fun x=>⟨AZ _ (by omega),AW _ p0⟩
 exact⟨⟨m _,k _ (by simp[C6.l,t0]),k _ (by simp[C6.l,t0])⟩,⟨k _ (by simp[C6.l,t1]),m _,k _ (by simp[C6.l,t1])⟩,⟨k _ (by simp[C6.l,t2]),k _ (by simp[C6.l,t2]),m _⟩⟩
theorem MB(p:Ae)(C:C6):CgR p (t0 p C) (tw0 C)/\CgR p (t1 p C) (tw1 C)/\CgR p (t2 p C) (tw2 C):=⟨⟨Cg.md rfl,Cg.rfl,Cg.rfl⟩,⟨Cg.rfl,Cg.md rfl,Cg.rfl⟩,⟨Cg.rfl,Cg.rfl,Cg.md rfl⟩⟩
def KG(Γ:Gam):Prop:=∀(p:Ae)(C:C6),P4 p->Γ.F 131 [.int p,A6 C]=.ok (AX (t0 p C) (t1 p C) (t2 p C))
theorem jI(hr:Ix Γ)(p:Ae)(C:C6)(hp:P4 p):Oz.run Γ [.int p,A6 C]=.ok (AX (t0 p C) (t1 p C) (t2 p C)):=by
 obtain⟨i0,i1,i2,i3,i4,i5⟩:=ix6 C;have m22:∀ y,DL 2 y=Aa:=fun y=>HM (by decide) (by decide)
 simp[Oz,Df.run,BG,i0,i1,i2,i3,i4,i5,m22,hr p _ hp.pos];rfl
noncomputable def mxI(p:Ae)(C:C6)(x y:R3):Ae:=Aq (Aq (t0 p C) x%p,Aq (t1 p C) x%p,Aq (t2 p C) x%p) y
theorem QT(p:Ae)(C:C6)(x y:R3):Cg p (mxI p C x y) (bI C x y):=by
 obtain⟨h0,h1,h2⟩:=MB p C;exact EF ⟨(Cg.md rfl).trans (EF h0 CgR.rfl),(Cg.md rfl).trans (EF h1 CgR.rfl),(Cg.md rfl).trans (EF h2 CgR.rfl)⟩ CgR.rfl
def VQ(Γ:Gam):Prop:=∀(p:Ae)(C:C6)(x y:R3),P4 p->InC p C->In3 p x->In3 p y->Γ.F 132 [.int p,A6 C,Am Aa x,Am Aa y]=.ok (.int (mxI p C x y))
theorem rG(ht:KG Γ)(hs:KQ Γ)(p:Ae)(C:C6)(x y:R3)(hp:P4 p)(iC:InC p C)(ix:In3 p x)(iy:In3 p y):P6.run Γ [.int p,A6 C,Am Aa x,Am Aa y]=.ok (.int (mxI p C x y)):=by
 have p0:=hp.pos;obtain⟨h0,h1,h2⟩:=MA hp iC;have e1:=ht p C hp;have e2:Γ.F 91 [.int p,AX (t0 p C) (t1 p C) (t2 p C),Am Aa x]=_:=hs p Aa Aa Aa (t0 p C) (t1 p C) (t2 p C) x p0 ((BX hp h0).b3 (by decide)) ((BX hp h1).b3 (by decide)) ((BX hp h2).b3 (by decide)) ((BX hp ix).b3 (by decide))
 have iw:In3 p (Aq (t0 p C) x%p,Aq (t1 p C) x%p,Aq (t2 p C) x%p):=⟨⟨AZ _ (by omega),AW _ p0⟩,⟨AZ _ (by omega),AW _ p0⟩,⟨AZ _ (by omega),AW _ p0⟩⟩
 unfold mxI;generalize (Aq (t0 p C) x%p,Aq (t1 p C) x%p,Aq (t2 p C) x%p)=w at *;obtain⟨x0,x1,x2⟩:=GX Aa w;obtain⟨y0,y1,y2⟩:=GX Aa y;have bw:=BX hp iw;have by_:=BX hp iy;have k:∀ {u v},Bd 10 u->Bd 10 v->E8 u v=Aa:=fun hu hv=>GZ hu hv (by decide) (by decide)
 simp[P6,Df.run,BG,e1,e2,x0,x1,x2,y0,y1,y2,k bw.1 by_.1,k bw.2.1 by_.2.1,k bw.2.2 by_.2.2];rfl
def QJ(Γ:Gam):Prop:=∀(p:Ae)(b:Ao)(xs:Ac Ae)(l t:Ae),P4 p->AY p xs=Ab l->DV p l t->Γ.F 122 [.int p,Dr b xs]=.ok (.tup (ds (fmI p t xs)))
theorem rN(hr:Ix Γ)(hf:KI Γ){b:Ao}{l t:Ae}(hp:P4 p)(e:AY p xs=Ab l)(it:DV p l t):OT.run Γ [.int p,Dr b xs]=.ok (.tup (ds (fmI p t xs))):=by
 have p0:=hp.pos;have cp:BH (cG Γ [si p,sh (Dr b xs),Af,Af] 3 Cn) (cF Γ [si p,sh (Dr b xs),Af,Af] 3 OH) (ds xs)=.ok (ds (xs.map fun x=>x%p)):=by
  refine KA xs fun x _=>⟨rfl,?_⟩
  simp[cF,OH,hr p x p0]
 have an:=Uc (xs.map fun x=>x%p)
 rw[To p0,e]at an;have le:AY p (xs.map fun x=>x%p)=Ab l:=by rw[MS (VW xs)];exact e
 have f:=hf p Ad (xs.map fun x=>x%p) l t hp le it
 rw[Tu (VW xs)]at f;have f':Γ.F 17 [.int p,.lst (ds (xs.map fun x=>x%p))]=.ok (.tup (ds (fmI p t xs))):=f
 simp[OT,Df.run,BG,OV,cp,an,f']
def UE(Γ:Gam):Prop:=∀(p:Ae)(C:C6)(a b c:R3),InC p C->AY p C.l=Ab 1->GoodR p a b c->∃ D:C6,InC p D/\AY p D.l=Ab 1/\PrC p D (pb C (bk0 a b c) (bk1 a b c) (bk2 a b c))/\Γ.F 133 [.int p,A6 C,AX a b c]=.ok (A6 D)
theorem Wn{E:C6}{l:Ae}(hp:P4 p)(el:AY p E.l=Ab l):∃(t:Ae)(D:C6),DV p l t/\fmI p t E.l=D.l/\InC p D/\AY p D.l=Ab 1/\PrC p D E:=by
 have p0:=hp.pos;obtain⟨lz,_,_⟩:=Ip p0 el;obtain⟨t,t1,t2,t3⟩:=Hj hp lz;have tz:t%p≠0:=by rw[AM (by omega) t2];omega
 have ff:∀ x,(t*(x%p)%p)%p=t*x%p:=fun x=>by rw[AV _ (BB p),A2 t (x%p) p,AV _ (BB p),<-A2]
 have lv:=JY hp tz (f:=fun x=>t*(x%p)%p) ff E.l
 rw[el,EQ,BV,t3]at lv;have key:∀ x:Ae,Cg p (t*(x%p)%p) (t*x):=fun x=>(Cg.md rfl).trans (Cg.rfl.mul (Cg.md rfl))
 refine⟨t,⟨t*(E.c0%p)%p,t*(E.c1%p)%p,t*(E.c2%p)%p,t*(E.c3%p)%p,t*(E.c4%p)%p,t*(E.c5%p)%p⟩,⟨t1,t2,t3⟩,rfl,fun x hx=>?_,lv,t,tz,key _,key _,key _,key _,key _,key _⟩
 obtain⟨y,_,rfl⟩:=CI.mp (show x∈E.l.map fun x=>t*(x%p)%p from hx)
 exact⟨AZ _ (by omega),AW _ p0⟩
theorem jL(hb:ND Γ)(hc:Mj Γ)(hv:Qa Γ)(hm:VQ Γ)(hf:QJ Γ)(p:Ae)(C:C6)(a b c:R3)(iC:InC p C)(lC:AY p C.l=Ab 1)(T:GoodR p a b c):∃ D:C6,InC p D/\AY p D.l=Ab 1/\PrC p D (pb C (bk0 a b c) (bk1 a b c) (bk2 a b c))/\P5.run Γ [.int p,A6 C,AX a b c]=.ok (A6 D):=by
 have hp:=T.p4;have p0:=hp.pos;have zB:Aj (bk0 a b c) (bk1 a b c) (bk2 a b c)%p≠0:=by rw[HN];exact BJ hp T.nz T.nz
 obtain⟨l,el⟩:=LX zB;obtain⟨u,u1,u2,u3⟩:=Hj hp (Ip p0 el).1;have uz:u%p≠0:=by rw[AM (by omega) u2];omega
 have e1:=hb p a b c hp T.ia T.ib T.ic T.nz l u el ⟨u1,u2,u3⟩;have r0:=DU p u (bk0 a b c);have r1:=DU p u (bk1 a b c);have r2:=DU p u (bk2 a b c);have i0:=FW p0 u (bk0 a b c);have i1:=FW p0 u (bk1 a b c);have i2:=FW p0 u (bk2 a b c);have zR:Aj (fmR p u (bk0 a b c)) (fmR p u (bk1 a b c)) (fmR p u (bk2 a b c))%p≠0:=Jb ((Ir r0 r1 r2).trans (Cg.of (JC u u u _ _ _))) (BJ hp (nz3 hp uz uz uz) zB);have pr:PrC p (pb C (fmR p u (bk0 a b c)) (fmR p u (bk1 a b c)) (fmR p u (bk2 a b c))) (pb C (bk0 a b c) (bk1 a b c) (bk2 a b c)):=PrC.tab hp uz r0 r1 r2;generalize fmR p u (bk0 a b c)=x at *;generalize fmR p u (bk1 a b c)=y at *;generalize fmR p u (bk2 a b c)=z at *;have e2:Γ.F 104 [AX x y z]=.ok (AX (Bq x y z) (Bm x y z) (Bl x y z)):=hc Aa Aa x y z;have j0:In3 p (Bq x y z):=⟨i0.1,i1.1,i2.1⟩;have j1:In3 p (Bm x y z):=⟨i0.2.1,i1.2.1,i2.2.1⟩;have j2:In3 p (Bl x y z):=⟨i0.2.2,i1.2.2,i2.2.2⟩;have m01:=hm p C _ _ hp iC j0 j1;have m02:=hm p C _ _ hp iC j0 j2;have m12:=hm p C _ _ hp iC j1 j2;have v0:=hv p C _ hp iC j0;have v1:=hv p C _ hp iC j1;have v2:=hv p C _ hp iC j2;have cg:CgC p ⟨vI C (Bq x y z)%p,vI C (Bm x y z)%p,vI C (Bl x y z)%p,mxI p C (Bq x y z) (Bm x y z),mxI p C (Bq x y z) (Bl x y z),mxI p C (Bm x y z) (Bl x y z)⟩ (pb C x y z):=⟨Cg.md rfl,Cg.md rfl,Cg.md rfl,QT p C _ _,QT p C _ _,QT p C _ _⟩;obtain⟨l',el'⟩:=iR hp lC zR cg;obtain⟨t,D,it,eD,iD,lD,pD⟩:=Wn hp el';have e3:=hf p Ad _ l' t hp el' it;rw[eD]at e3;refine⟨D,iD,lD,(pD.trans hp ⟨1,hp.o1,cg.trans (CgC.of (Md _).symm)⟩).trans hp pr,?_⟩;generalize hX:(mxI p C (Bq x y z) (Bm x y z))=M01 at *;generalize hY:(mxI p C (Bq x y z) (Bl x y z))=M02 at *;generalize hZ:(mxI p C (Bm x y z) (Bl x y z))=M12 at *;generalize vI C (Bq x y z)%p=V0 at *;generalize vI C (Bm x y z)%p=V1 at *;generalize vI C (Bl x y z)%p=V2 at *;have e3':Γ.F 122 [.int p,.lst [.int V0,.int V1,.int V2,.int M01,.int M02,.int M12]]=.ok (A6 D):=e3;have key:∀(r:R3)(v:Ae),Γ.F 126 [.int p,A6 C,Am Aa r]=.ok (.int v)->cF Γ [si p,sh (A6 C),sh (AX a b c),sh (AX (Bq x y z) (Bm x y z) (Bl x y z)),Af,Af,Af] 6 M0 (Am Aa r)=.ok (.int v):=fun r v h=>by
  simp[cF,M0,h]
 have gg:∀ r,cG Γ [si p,sh (A6 C),sh (AX a b c),sh (AX (Bq x y z) (Bm x y z) (Bl x y z)),Af,Af,Af] 6 Cn r=.ok Aa:=fun _=>rfl
 have cp:BH (cG Γ [si p,sh (A6 C),sh (AX a b c),sh (AX (Bq x y z) (Bm x y z) (Bl x y z)),Af,Af,Af] 6 Cn) (cF Γ [si p,sh (A6 C),sh (AX a b c),sh (AX (Bq x y z) (Bm x y z) (Bl x y z)),Af,Af,Af] 6 M0) [Am Aa (Bq x y z),Am Aa (Bm x y z),Am Aa (Bl x y z)]=.ok [.int V0,.int V1,.int V2]:=by
  simp[BH,gg,key _ _ v0,key _ _ v1,key _ _ v2]
 have sq:Co (AX (Bq x y z) (Bm x y z) (Bl x y z))=.ok [Am Aa (Bq x y z),Am Aa (Bm x y z),Am Aa (Bl x y z)]:=rfl;have k0:BQ (AX (Bq x y z) (Bm x y z) (Bl x y z)) (.int 0)=.ok (Am Aa (Bq x y z)):=rfl;have k1:BQ (AX (Bq x y z) (Bm x y z) (Bl x y z)) (.int 1)=.ok (Am Aa (Bm x y z)):=rfl;have k2:BQ (AX (Bq x y z) (Bm x y z) (Bl x y z)) (.int 2)=.ok (Am Aa (Bl x y z)):=rfl;have ad:CM .Add (.lst [.int V0,.int V1,.int V2]) (.lst [.int M01,.int M02,.int M12])=.ok (.lst [.int V0,.int V1,.int V2,.int M01,.int M02,.int M12]):=rfl;simp[P5,Df.run,BG,e1,e2,cp,sq,k0,k1,k2,m01,m02,m12,ad,e3']
section
variable{Γ:Gam}{ns:Ac Ae}{p at_:Ae}{φ:Ae->Ae}
end
noncomputable def e0R:R3:=(1,0,0)
noncomputable def e1R:R3:=(0,1,0)
noncomputable def e2R:R3:=(0,0,1)
noncomputable def e3R:R3:=(1,1,1)
theorem Zp(hp:P4 p):In3 p e0R/\In3 p e1R/\In3 p e2R/\In3 p e3R:=by
 have z:0<=(0:Ae)/\(0:Ae)<p:=⟨by decide,hp.pos⟩
 have o:0<=(1:Ae)/\(1:Ae)<p:=⟨by decide,by have:=hp.lo;omega⟩
 exact⟨⟨o,z,z⟩,⟨z,o,z⟩,⟨z,z,o⟩,⟨o,o,o⟩⟩
theorem zV(hp:P4 p):G3 p e0R e1R e2R e3R:=by
 rcases hp with rfl|rfl|rfl|rfl<;>exact⟨by decide,by decide,by decide,by decide⟩
structure Frm (p:Ae) (f0 f1 f2 f3:R3):Prop where
 i0:In3 p f0
 i1:In3 p f1
 i2:In3 p f2
 i3:In3 p f3
 gen:G3 p f0 f1 f2 f3
def Pr(p:Ae)(x y:R3):Prop:=∃ d,d%p≠0/\CgR p x (AB d y)
section
variable{p:Ae}{a b c x y z f g h:R3}{k:Ae}
theorem Ml(x:R3):AB 1 x=x:=by unfold AB;simp only[CC]
theorem Pr.rfl(hp:P4 p):Pr p x x:=⟨1,hp.o1,CgR.of (Ml x).symm⟩
theorem Pr.trans(hp:P4 p)(i:Pr p x y)(j:Pr p y z):Pr p x z:=by
 obtain⟨d,dz,e⟩:=i;obtain⟨d',dz',e'⟩:=j;exact⟨d*d',BJ hp dz dz',e.trans ((CgR.sc Cg.rfl e').trans (CgR.of (HZ _ _ _)))⟩
theorem Pr.symm(hp:P4 p)(i:Pr p x y):Pr p y x:=by
 obtain⟨d,dz,e⟩:=i;obtain⟨u,u1,u2,u3⟩:=Hj hp dz;have uz:u%p≠0:=by rw[AM (by omega) u2];omega
 have o:Cg p (u*d) 1:=by
  show u*d%p=1%p;rw[BV,u3,AM (by decide) (by have:=hp.lo;omega)]
 refine⟨u,uz,?_⟩;have q:=CgR.sc (k:=u) (k':=u) Cg.rfl e;rw[HZ]at q;exact(q.trans ((CgR.sc o CgR.rfl).trans (CgR.of (Ml y)))).symm
theorem Pr.cg(hp:P4 p)(e:CgR p x y):Pr p x y:=⟨1,hp.o1,e.trans (CgR.of (Ml y).symm)⟩
theorem Mv{a' b' c':R3}(ha:CgR p a a')(hb:CgR p b b')(hc:CgR p c c')(hx:CgR p x x'):CgR p (ap a b c x) (ap a' b' c' x'):=⟨EF ha hx,EF hb hx,EF hc hx⟩
theorem Pr.ap(i:Pr p x y):Pr p (OvC.ap a b c x) (OvC.ap a b c y):=by
 obtain⟨d,dz,e⟩:=i;exact⟨d,dz,(Mv CgR.rfl CgR.rfl CgR.rfl e).trans (CgR.of (Wr a b c y d))⟩
theorem tT(k:Ae)(a b c x:R3):ap (AB k a) (AB k b) (AB k c) x=AB k (ap a b c x):=by
 unfold ap AB Aq;refine Bp ?_ (Bp ?_ ?_)<;>(simp only;grind)
theorem Pr.tab{a' b' c':R3}(kz:k%p≠0)(ha:CgR p a (AB k a'))(hb:CgR p b (AB k b'))(hc:CgR p c (AB k c')):Pr p (OvC.ap a b c x) (OvC.ap a' b' c' x):=
 ⟨k,kz,(Mv ha hb hc CgR.rfl).trans (CgR.of (tT k a' b' c' x))⟩
theorem zL(a b c x y z v:R3):ap (rm a x y z) (rm b x y z) (rm c x y z) v=ap a b c (ap x y z v):=by
 unfold ap rm Aq Bq Bm Bl;refine Bp ?_ (Bp ?_ ?_)<;>(simp only;grind)
theorem NR(a b c v:R3):ap (bk0 a b c) (bk1 a b c) (bk2 a b c) (ap a b c v)=AB (Aj a b c) v:=by
 unfold ap AB Aq bk0 bk1 bk2 Bq Bm Bl crs Aj det;refine Bp ?_ (Bp ?_ ?_)<;>(simp only;grind)
theorem VD(a b c x y z:R3):Aj (rm a x y z) (rm b x y z) (rm c x y z)=Aj a b c*Aj x y z:=by
 unfold Aj det rm Aq Bq Bm Bl;grind
end
noncomputable def tri(g:R3):Ac Ae:=[g.1,g.2.1,g.2.2]
theorem Um(hp:P4 p)(ix:In3 p x)(iy:In3 p y)(lx:AY p (tri x)=Ab 1)(ly:AY p (tri y)=Ab 1)(h:Pr p x y):x=y:=by
 obtain⟨d,dz,e⟩:=h;have p1:1<p:=by have:=hp.lo;omega
 have rs:(tri x).map (fun x=>x%p)=((tri y).map fun x=>d*x).map (fun x=>x%p):=by
  simp only[tri,B7,FC];rw[show x.1%p=d*y.1%p from e.1,show x.2.1%p=d*y.2.1%p from e.2.1,show x.2.2%p=d*y.2.2%p from e.2.2]
 have el:=JY hp dz (f:=fun x=>d*x) (fun _=>rfl) (tri y)
 rw[ly,<-MS rs,lx,EQ,Cr,DN]at el;have o:Cg p d 1:=by
  show d%p=1%p;rw[<-el,AM (by decide) p1]
 have q:=e.trans ((CgR.sc o CgR.rfl).trans (CgR.of (Ml y)));have same:∀{u v:Ae},(0<=u/\u<p)->(0<=v/\v<p)->Cg p u v->u=v:=fun hu hv huv=>by
  have:=show _%p=_%p from huv
  rwa [AM hu.1 hu.2,AM hv.1 hv.2]at this
 exact Bp (same ix.1 iy.1 q.1) (Bp (same ix.2.1 iy.2.1 q.2.1) (same ix.2.2 iy.2.2 q.2.2))
theorem LS{a b c:R3}(hp:P4 p)(nz:Aj a b c%p≠0):∃ l t,AY p (nine a b c)=Ab l/\DV p l t/\t%p≠0/\GoodR p (fmR p t a) (fmR p t b) (fmR p t c)/\AY p (nine (fmR p t a) (fmR p t b) (fmR p t c))=Ab 1:=by
 have p0:=hp.pos;obtain⟨l,el⟩:=LX nz;obtain⟨lz,_,_⟩:=Ip p0 el;obtain⟨t,t1,t2,t3⟩:=Hj hp lz;have tz:t%p≠0:=by rw[AM (by omega) t2];omega
 have ff:∀ x,(t*(x%p)%p)%p=t*x%p:=fun x=>by rw[AV _ (BB p),A2 t (x%p) p,AV _ (BB p),<-A2]
 have lv:=JY hp tz (f:=fun x=>t*(x%p)%p) ff (nine a b c)
 rw[el]at lv;refine⟨l,t,el,⟨t1,t2,t3⟩,tz,⟨hp,FW p0 t a,FW p0 t b,FW p0 t c,Jb ((Ir (DU p t a) (DU p t b) (DU p t c)).trans (Cg.of (JC t t t a b c))) (BJ hp (nz3 hp tz tz tz) nz)⟩,?_⟩;have e:AY p ((nine a b c).map fun x=>t*(x%p)%p)=Ab 1:=by rw[lv,EQ,BV,t3]
 exact e
structure Led (p:Ae) (a b c f0 f1 f2 f3 g0 g1 g2 g3:R3):Prop where
 h0:Pr p g0 (ap a b c f0)
 h1:Pr p g1 (ap a b c f1)
 h2:Pr p g2 (ap a b c f2)
 h3:Pr p g3 (ap a b c f3)
section
variable{p:Ae}{a b c a' b' c' f0 f1 f2 f3 g0 g1 g2 g3 h0 h1 h2 h3:R3}
theorem yI(hp:P4 p)(T:GoodR p a b c)(T':GoodR p a' b' c')(L:Led p a b c e0R e1R e2R e3R f0 f1 f2 f3)(L':Led p a' b' c' e0R e1R e2R e3R g0 g1 g2 g3):∃ x y z,GoodR p x y z/\AY p (nine x y z)=Ab 1/\Led p x y z f0 f1 f2 f3 g0 g1 g2 g3:=by
 have zB:Aj (bk0 a b c) (bk1 a b c) (bk2 a b c)%p≠0:=by rw[HN];exact BJ hp T.nz T.nz
 have zR:Aj (rm a' (bk0 a b c) (bk1 a b c) (bk2 a b c)) (rm b' (bk0 a b c) (bk1 a b c) (bk2 a b c)) (rm c' (bk0 a b c) (bk1 a b c) (bk2 a b c))%p≠0:=by rw[VD];exact BJ hp T'.nz zB
 obtain⟨l,t,_,_,tz,gd,l1⟩:=LS hp zR;refine⟨_,_,_,gd,l1,?_⟩;have key:∀{e f g:R3},Pr p f (ap a b c e)->Pr p g (ap a' b' c' e)->Pr p g (ap (fmR p t (rm a' (bk0 a b c) (bk1 a b c) (bk2 a b c))) (fmR p t (rm b' (bk0 a b c) (bk1 a b c) (bk2 a b c))) (fmR p t (rm c' (bk0 a b c) (bk1 a b c) (bk2 a b c))) f):=fun {e f g} hf hg=>by
  refine hg.trans hp (Pr.symm hp ?_);refine(Pr.tab tz (DU p t _) (DU p t _) (DU p t _)).trans hp ?_;rw[zL];refine Pr.ap ((Pr.ap hf).trans hp ?_);rw[NR];exact⟨_,T.nz,CgR.rfl⟩
 exact⟨key L.h0 L'.h0,key L.h1 L'.h1,key L.h2 L'.h2,key L.h3 L'.h3⟩
end
section
variable{Γ:Gam}{ns:Ac Ae}{p:Ae}
theorem UP(hp:P4 p):GoodR p e0R e1R e2R/\AY p (nine e0R e1R e2R)=Ab 1:=by
 obtain⟨i0,i1,i2,i3⟩:=Zp hp;refine⟨⟨hp,i0,i1,i2,(zV hp).1⟩,?_⟩;rcases hp with rfl|rfl|rfl|rfl<;>decide
end
noncomputable def L3(a b c:R3):Ac D:=[Bv a,Bv b,Bv c]
def Ij(i j:Ae):Prop:=(i=0/\j=1)\/(i=0/\j=2)\/(i=1/\j=0)\/(i=1/\j=2)\/(i=2/\j=0)\/(i=2/\j=1)
theorem yP{m:Ae}(hi:m%3=i)(hj:(i+1+m / 3%2)%3=j):Ij i j:=by
 have i3:i=0\/i=1\/i=2:=by omega
 have e2:m / 3%2=0\/m / 3%2=1:=by omega
 rcases i3 with z|z|z<;>rcases e2 with e|e<;>rw[z,e]at hj
 ·exact .inl ⟨z,hj.symm⟩
 ·exact .inr (.inl ⟨z,hj.symm⟩)
 ·exact .inr (.inr (.inr (.inl ⟨z,hj.symm⟩)))
 ·exact .inr (.inr (.inl ⟨z,hj.symm⟩))
 ·exact .inr (.inr (.inr (.inr (.inl ⟨z,hj.symm⟩))))
 ·exact .inr (.inr (.inr (.inr (.inr ⟨z,hj.symm⟩))))
theorem bP{a b c:R3}(h:GoodR p a b c)(ht:0<t/\t<p)(ij:Ij i j):∃(i' j':Ag)(x y:R3),DE (L3 a b c) i=.ok (Bv x)/\DE (L3 a b c) j=.ok (Bv y)/\plD 3 i=Ab i'/\plD 3 j=Ab j'/\(∃ a' b' c',GoodR p a' b' c'/\((L3 a b c).set i' (Bv y)).set j' (Bv x)=L3 a' b' c')/\(∃ a' b' c',GoodR p a' b' c'/\(L3 a b c).set i' (Bv (scR p t x))=L3 a' b' c')/\(∃ a' b' c',GoodR p a' b' c'/\(L3 a b c).set i' (Bv (adR p t x y))=L3 a' b' c'):=by
 have p0:=h.p4.pos;have tz:t%p≠0:=by rw[AM (by omega) ht.2];omega
 rcases ij with ⟨rfl,rfl⟩|⟨rfl,rfl⟩|⟨rfl,rfl⟩|⟨rfl,rfl⟩|⟨rfl,rfl⟩|⟨rfl,rfl⟩
 ·exact⟨0,1,a,b,rfl,rfl,rfl,rfl,⟨b,a,c,h.of (k:=-1) h.p4.m1 (Cg.of (by unfold Aj det;grind)) ⟨h.ib,h.ia,h.ic⟩,rfl⟩,⟨_,_,_,h.of (k:=t) tz (RM p t a b c) ⟨K7 p0 _ _,h.ib,h.ic⟩,rfl⟩,⟨_,_,_,h.of (k:=1) h.p4.o1 (ae p t a b c) ⟨Lb p0 _ _ _,h.ib,h.ic⟩,rfl⟩⟩
 ·exact⟨0,2,a,c,rfl,rfl,rfl,rfl,⟨c,b,a,h.of (k:=-1) h.p4.m1 (Cg.of (by unfold Aj det;grind)) ⟨h.ic,h.ib,h.ia⟩,rfl⟩,⟨_,_,_,h.of (k:=t) tz (RM p t a b c) ⟨K7 p0 _ _,h.ib,h.ic⟩,rfl⟩,⟨_,_,_,h.of (k:=1) h.p4.o1 (ac p t a b c) ⟨Lb p0 _ _ _,h.ib,h.ic⟩,rfl⟩⟩
 ·exact⟨1,0,b,a,rfl,rfl,rfl,rfl,⟨b,a,c,h.of (k:=-1) h.p4.m1 (Cg.of (by unfold Aj det;grind)) ⟨h.ib,h.ia,h.ic⟩,rfl⟩,⟨_,_,_,h.of (k:=t) tz (RK p t a b c) ⟨h.ia,K7 p0 _ _,h.ic⟩,rfl⟩,⟨_,_,_,h.of (k:=1) h.p4.o1 (aa p t a b c) ⟨h.ia,Lb p0 _ _ _,h.ic⟩,rfl⟩⟩
 ·exact⟨1,2,b,c,rfl,rfl,rfl,rfl,⟨a,c,b,h.of (k:=-1) h.p4.m1 (Cg.of (by unfold Aj det;grind)) ⟨h.ia,h.ic,h.ib⟩,rfl⟩,⟨_,_,_,h.of (k:=t) tz (RK p t a b c) ⟨h.ia,K7 p0 _ _,h.ic⟩,rfl⟩,⟨_,_,_,h.of (k:=1) h.p4.o1 (zZ p t a b c) ⟨h.ia,Lb p0 _ _ _,h.ic⟩,rfl⟩⟩
 ·exact⟨2,0,c,a,rfl,rfl,rfl,rfl,⟨c,b,a,h.of (k:=-1) h.p4.m1 (Cg.of (by unfold Aj det;grind)) ⟨h.ic,h.ib,h.ia⟩,rfl⟩,⟨_,_,_,h.of (k:=t) tz (RJ p t a b c) ⟨h.ia,h.ib,K7 p0 _ _⟩,rfl⟩,⟨_,_,_,h.of (k:=1) h.p4.o1 (zY p t a b c) ⟨h.ia,h.ib,Lb p0 _ _ _⟩,rfl⟩⟩
 ·exact⟨2,1,c,b,rfl,rfl,rfl,rfl,⟨a,c,b,h.of (k:=-1) h.p4.m1 (Cg.of (by unfold Aj det;grind)) ⟨h.ia,h.ic,h.ib⟩,rfl⟩,⟨_,_,_,h.of (k:=t) tz (RJ p t a b c) ⟨h.ia,h.ib,K7 p0 _ _⟩,rfl⟩,⟨_,_,_,h.of (k:=1) h.p4.o1 (zX p t a b c) ⟨h.ia,h.ib,Lb p0 _ _ _⟩,rfl⟩⟩
def KR(Γ:Gam)(mid:Ag)(ns:Ac Ae):Prop:=∀ k:Ae,0<=k->∃ m,0<=m/\Γ.F mid [scr ns,.int k]=.ok (.int m)
noncomputable def Og:E:=(.bin .Mod (.bin .Mult (.var 8) (.var 9)) (.var 0))
noncomputable def Of:E:=(.bin .Mod (.bin .Add (.var 10) (.bin .Mult (.var 8) (.var 11))) (.var 0))
noncomputable def FI(mid:Ag):Ss:=(.cons (.asg 5 Ad (.bin .FloorDiv (.call mid (.cons (.var 1) (.cons (.var 4) .nil))) (.int 3))) (.cons (.asg 6 Ad (.bin .Mod (.var 5) (.int 3))) (.cons (.asg 7 Ad (.bin .Mod (.bin .Add (.bin .Add (.var 6) (.int 1)) (.bin .Mod (.bin .FloorDiv (.var 5) (.int 3)) (.int 2))) (.int 3))) (.cons (.asg 8 Ad (.bin .Add (.int 1) (.bin .Mod (.bin .FloorDiv (.var 5) (.int 24)) (.bin .Sub (.var 0) (.int 1))))) (.cons (.ife (.cmp .Eq (.bin .Mod (.bin .FloorDiv (.var 5) (.int 6)) (.int 4)) (.int 0)) (.cons (.swp 3 6 7) .nil) (.cons (.ife (.cmp .Eq (.bin .Mod (.bin .FloorDiv (.var 5) (.int 6)) (.int 4)) (.int 1)) (.cons (.put 3 (.var 6) (.comp Og 9 (.e (.idx (.var 3) (.var 6))) Cn)) .nil) (.cons (.put 3 (.var 6) (.compT Of [10,11] (.zip (.idx (.var 3) (.var 6)) (.idx (.var 3) (.var 7))) Cn)) .nil)) .nil)) .nil)))))
noncomputable def Mz(mid:Ag):Df:=⟨12,Ad,(.cons (.asg 3 Aa (.lst (.cons (.lst (.cons (.int 1) (.cons (.int 0) (.cons (.int 0) .nil)))) (.cons (.lst (.cons (.int 0) (.cons (.int 1) (.cons (.int 0) .nil)))) (.cons (.lst (.cons (.int 0) (.cons (.int 0) (.cons (.int 1) .nil)))) .nil))))) (.cons (.fors 4 (.e (.bin .Add (.bi .list (.cons (.tupI (.rng2 (.var 2) (.bin .Add (.var 2) (.int 9)))) .nil)) (.bi .list (.cons (.tupI (.rng2 (.int 23) (.bi .min (.cons (.bi .len (.cons (.var 1) .nil)) (.cons (.int 63) .nil))))) .nil)))) (FI mid)) (.cons (.ret (.var 3)) .nil)))⟩
section
variable{Γ:Gam}{ns:Ac Ae}{mid:Ag}{p:Ae}{a b c:R3}{s2 s4 s5 s6 s7 s8:Sl}
theorem nS{k cl i j t:Ae}{j':Ag}(hi:DE L i=.ok (Bv x))(hj:DE L j=.ok (Bv y))(pi:plD L.length i=Ab i')(pj:plD L.length j=Ab j')(k0:cl / 6%4=0):evSs Γ [si p,sh (scr ns),s2,Ab (.lst L,Aa),s4,si cl,si i,si j,si t,Af,Af,Af] ((FI mid).drop 4)=.next [si p,sh (scr ns),s2,Ab (.lst ((L.set i' (Bv y)).set j' (Bv x)),Aa),s4,si cl,si i,si j,si t,Af,Af,Af]:=by
 simp[FI,Ss.drop,k0,kN,NV,Dj,HW,Fa,hi,hj,pi,pj]
theorem nV{cl:Ae}(hi:DE L i=.ok (Bv x))(pi:plD L.length i=Ab i')(p0:0<p)(mt:∀ x,DL t x=Aa)(k0:¬ cl / 6%4=0)(k1:cl / 6%4=1):evSs Γ [si p,sh (scr ns),s2,Ab (.lst L,Aa),s4,si cl,si i,si j,si t,Af,Af,Af] ((FI mid).drop 4)=.next [si p,sh (scr ns),s2,Ab (.lst (L.set i' (Bv (scR p t x))),Aa),s4,si cl,si i,si j,si t,Af,Af,Af]:=by
 have cp:BH (cG Γ [si p,sh (scr ns),s2,Ab (.lst L,Aa),s4,si cl,si i,si j,si t,Af,Af,Af] 9 Cn) (cF Γ [si p,sh (scr ns),s2,Ab (.lst L,Aa),s4,si cl,si i,si j,si t,Af,Af,Af] 9 Og) [.int x.1,.int x.2.1,.int x.2.2]=.ok [.int (x.1*t%p),.int (x.2.1*t%p),.int (x.2.2*t%p)]:=by
  refine KA (φ:=fun x=>x*t%p) [x.1,x.2.1,x.2.2] fun x _=>⟨rfl,?_⟩
  simp[cF,Og,mt,p0,BV]
 rw[Bv]at hi;simp[FI,Ss.drop,k1,UU,Dj,hi,pi,cp];rfl
theorem nW{cl:Ae}(hi:DE L i=.ok (Bv x))(hj:DE L j=.ok (Bv y))(pi:plD L.length i=Ab i')(p0:0<p)(mt:∀ x,DL t x=Aa)(k0:¬ cl / 6%4=0)(k1:¬ cl / 6%4=1):evSs Γ [si p,sh (scr ns),s2,Ab (.lst L,Aa),s4,si cl,si i,si j,si t,Af,Af,Af] ((FI mid).drop 4)=.next [si p,sh (scr ns),s2,Ab (.lst (L.set i' (Bv (adR p t x y))),Aa),s4,si cl,si i,si j,si t,Af,Af,Af]:=by
 have cp:BH (cGT Γ [si p,sh (scr ns),s2,Ab (.lst L,Aa),s4,si cl,si i,si j,si t,Af,Af,Af] [10,11] Cn) (cFT Γ [si p,sh (scr ns),s2,Ab (.lst L,Aa),s4,si cl,si i,si j,si t,Af,Af,Af] [10,11] Of) (EG [.int x.1,.int x.2.1,.int x.2.2] [.int y.1,.int y.2.1,.int y.2.2])=.ok [.int ((x.1+t*y.1)%p),.int ((x.2.1+t*y.2.1)%p),.int ((x.2.2+t*y.2.2)%p)]:=by
  generalize x.1=x0;generalize x.2.1=x1;generalize x.2.2=x2;generalize y.1=y0;generalize y.2.1=y1;generalize y.2.2=y2;simp[BH,cGT,cFT,EG,Of,Cn,p0,mt]
 rw[Bv]at hi hj;simp[FI,Ss.drop,k0,k1,UU,Dj,hi,hj,pi,cp];rfl
theorem TC(hm:KR Γ mid ns)(h:GoodR p a b c)(hk:0<=k):∃ a' b' c' v5 v6 v7 v8,GoodR p a' b' c'/\CT Γ 4 (FI mid) (.int k) [si p,sh (scr ns),s2,Ab (.lst (L3 a b c),Aa),s4,s5,s6,s7,s8,Af,Af,Af]=.next [si p,sh (scr ns),s2,Ab (.lst (L3 a' b' c'),Aa),si k,v5,v6,v7,v8,Af,Af,Af]:=by
 have p0:=h.p4.pos;have pl:=h.p4.lo;have ph:=h.p4.hi;obtain⟨m,m0,e0⟩:=hm k hk;generalize hcl:m / 3=cl;have q1:0<p-1:=by omega
 have q2:1<p:=by omega
 have t0:0<1+cl / 24%(p-1):=by have:=AZ (cl / 24) (b:=p-1) (by omega);omega
 have t1:1+cl / 24%(p-1)<p:=by have:=AW (cl / 24) q1;omega
 generalize ht:1+cl / 24%(p-1)=t at t0 t1;generalize hi:cl%3=i;generalize hj:(i+1+cl / 3%2)%3=j;have ij:=yP hi hj;have hd:evSs Γ [si p,sh (scr ns),s2,Ab (.lst (L3 a b c),Aa),si k,s5,s6,s7,s8,Af,Af,Af] ((FI mid).take 4)=.next [si p,sh (scr ns),s2,Ab (.lst (L3 a b c),Aa),si k,si cl,si i,si j,si t,Af,Af,Af]:=by
  simp[FI,Ss.take,e0,hcl,hi,hj,q1,q2,ht]
 have mt:∀ x,DL t x=Aa:=fun x=>HM (by omega) (by omega)
 obtain⟨i',j',x,y,gi,gj,pi,pj,⟨a1,b1,c1,g1,f1⟩,⟨a2,b2,c2,g2,f2⟩,⟨a3,b3,c3,g3,f3⟩⟩:=bP h ⟨t0,t1⟩ ij;have pi':plD (L3 a b c).length i=Ab i':=pi;have pj':plD (L3 a b c).length j=Ab j':=pj;have fin:∀ {o},evSs Γ [si p,sh (scr ns),s2,Ab (.lst (L3 a b c),Aa),si k,si cl,si i,si j,si t,Af,Af,Af] ((FI mid).drop 4)=o->CT Γ 4 (FI mid) (.int k) [si p,sh (scr ns),s2,Ab (.lst (L3 a b c),Aa),s4,s5,s6,s7,s8,Af,Af,Af]=o:=fun {o} h=>by
  show evSs Γ [si p,sh (scr ns),s2,Ab (.lst (L3 a b c),Aa),si k,s5,s6,s7,s8,Af,Af,Af] (FI mid)=o;rw[Tv Γ 4,hd];exact h
 by_cases k0:cl / 6%4=0
 ·refine⟨a1,b1,c1,si cl,si i,si j,si t,g1,fin ?_⟩;rw[nS (k:=0) gi gj pi' pj' k0,f1]
 ·by_cases k1:cl / 6%4=1
  ·refine⟨a2,b2,c2,si cl,si i,si j,si t,g2,fin ?_⟩;rw[nV gi pi' p0 mt k0 k1,f2]
  ·refine⟨a3,b3,c3,si cl,si i,si j,si t,g3,fin ?_⟩;rw[nW gi gj pi' p0 mt k0 k1,f3]
end
theorem Nc{x:D}(h:x∈Ch lo n):∃ j:Ag,j<n/\x=.int (lo+(j:Ae)):=by
 obtain⟨j,hj⟩:=Gn h;exact⟨j,Ts hj⟩
theorem Pk{hi:Ae}(h1:-1000<=lo)(h2:lo<=1000)(h3:-1000<=hi)(h4:hi<=1000):C5 lo hi=.ok (Ch lo (hi-lo).toNat):=by
 unfold C5;rw[Ay (by refine⟨⟨by omega,by omega⟩,⟨by omega,by omega⟩,?_⟩;omega)]
def zQ(Γ:Gam)(id:Ag)(ns:Ac Ae):Prop:=∀(p:Ae),P4 p->∃ a b c,GoodR p a b c/\Γ.F id [.int p,scr ns,.int 1]=.ok (GH a b c)
theorem wX(hl:ns.length<=63)(hm:KR Γ mid ns)(p:Ae)(hp:P4 p):∃ a b c,GoodR p a b c/\(Mz mid).run Γ [.int p,scr ns,.int 1]=.ok (GH a b c):=by
 have g0:GoodR p e0R e1R e2R:=(UP hp).1;have r1:C5 1 10=.ok (Ch 1 9):=rfl;generalize hn:(if (63:Ae)<(ns.length:Ae) then (63:Ae) else (ns.length:Ae))=n
 have n0:0<=n/\n<=63:=by split at hn<;>omega
 have r2:C5 23 n=.ok (Ch 23 (n-23).toNat):=Pk (by decide) (by decide) (by omega) (by omega)
 have ad:CM .Add (.lst (Ch 1 9)) (.lst (Ch 23 (n-23).toNat))=.ok (.lst (Ch 1 9++Ch 23 (n-23).toNat)):=by
  rw[NC,Ay];rw[Jy,Jy];unfold Du;simp;omega
 obtain⟨ρ',e,a,b,c,s4,s5,s6,s7,s8,g,rfl⟩:=Ng (body:=CT Γ 4 (FI mid)) (fun ρ=>∃ a b c s4 s5 s6 s7 s8,GoodR p a b c/\ρ=[si p,sh (scr ns),si 1,Ab (.lst (L3 a b c),Aa),s4,s5,s6,s7,s8,Af,Af,Af]) (Ch 1 9++Ch 23 (n-23).toNat) [si p,sh (scr ns),si 1,Ab (.lst (L3 e0R e1R e2R),Aa),Af,Af,Af,Af,Af,Af,Af,Af] ⟨_,_,_,_,_,_,_,_,g0,rfl⟩ (by
  rintro x hx ρ ⟨a,b,c,s4,s5,s6,s7,s8,g,rfl⟩;have hk:∃ k:Ae,0<=k/\x=.int k:=by
   rcases Gp.mp hx with z|z
   ·obtain⟨j,_,rfl⟩:=Nc z;exact⟨_,by omega,rfl⟩
   ·obtain⟨j,_,rfl⟩:=Nc z;exact⟨_,by omega,rfl⟩
  obtain⟨k,k0,rfl⟩:=hk;obtain⟨a',b',c',v5,v6,v7,v8,g',e⟩:=TC (s2:=si 1) (s4:=s4) (s5:=s5) (s6:=s6) (s7:=s7) (s8:=s8) hm g k0;exact⟨_,e,a',b',c',_,_,_,_,_,g',rfl⟩)
 refine⟨a,b,c,g,?_⟩;have ln:biD .len [scr ns]=.ok (.int ns.length):=by simp[scr]
 have mn:biD .min [.int (ns.length:Ae),.int 63]=.ok (.int n):=by rw[<-hn];rfl
 have sq:Co (.lst (Ch 1 9++Ch 23 (n-23).toNat))=.ok (Ch 1 9++Ch 23 (n-23).toNat):=rfl;have e':DF (CT Γ 4 (FI mid)) (Ch 1 9++Ch 23 (n-23).toNat) [si p,sh (scr ns),si 1,Ab (.lst [.lst [.int 1,.int 0,.int 0],.lst [.int 0,.int 1,.int 0],.lst [.int 0,.int 0,.int 1]],Aa),Af,Af,Af,Af,Af,Af,Af,Af]=_:=e;generalize Ch 1 9=A at *;generalize Ch 23 (n-23).toNat=B at *;generalize scr ns=S at *;simp[Mz,Df.run,BG,E2,ln,mn,r1,r2,ad,sq,e'];rfl
theorem UH{g:D->R Ao}{f:D->R D}{q:Ae->Ao}{φ:Ae->Ae}:∀(xs:Ac Ae),(∀ x∈xs,g (.int x)=.ok (q x)/\f (.int x)=.ok (.int (φ x)))->BH g f (ds xs)=.ok (ds ((xs.filter q).map φ))
 |[],_=>rfl
 |x::xs,h=>by
  obtain⟨h1,h2⟩:=h x (Ax ..);have ih:=UH xs fun y hy=>h y (Au _ hy)
  show (g (.int x)).bind _=_;rw[h1,R.bind_ok,DI];cases hq:q x with
  |true=>
   rw[Ay rfl,Ay rfl,h2,R.bind_ok,show BH g f (Lv D.int xs)=_ from ih]
   rfl
  |false=>
   rw[AH (by decide),AH (by decide)]
   exact ih
theorem Te{p:Ae}:∀ xs:Ac Ae,((xs.filter fun x=>decide (x%p≠0)).map fun x=>x%p).head?=AY p xs
 |[]=>rfl
 |x::xs=>by
  unfold AY;rw[DI];by_cases h:x%p=0
  ·rw[AH (by simp[h]),Ay h]
   exact Te xs
  ·rw[Ay (by simp[h]),AH h]
   rfl
noncomputable def Oq:E:=(.cmp .NotEq (.bin .Mod (.var 4) (.var 0)) (.int 0))
noncomputable def Ou:E:=(.bin .Mod (.var 4) (.var 0))
noncomputable def Op:E:=(.cmp .Eq (.bin .Mod (.bin .Mult (.var 5) (.var 2)) (.var 0)) (.int 1))
noncomputable def Ot:E:=(.var 5)
noncomputable def Os:E:=(.bin .Mod (.bin .Mult (.var 6) (.var 3)) (.var 0))
noncomputable def OF:Df:=⟨7,Ad,(.cons (.asg 2 Ad (.idx (.comp Ou 4 (.e (.var 1)) Oq) (.int 0))) (.cons (.asg 3 Ad (.idx (.comp Ot 5 (.rng2 (.int 1) (.var 0)) Op) (.int 0))) (.cons (.ret (.bi .tuple (.cons (.comp Os 6 (.e (.var 1)) Cn) .nil))) .nil)))⟩
def Qd(Γ:Gam):Prop:=∀(p:Ae)(b:Ao)(xs:Ac Ae)(l t:Ae),P4 p->AY p xs=Ab l->DV p l t->Γ.F 158 [.int p,Dr b xs]=.ok (.tup (ds (fmI p t xs)))
theorem jQ(Γ:Gam){b:Ao}{l t:Ae}(hp:P4 p)(e:AY p xs=Ab l)(it:DV p l t):OF.run Γ [.int p,Dr b xs]=.ok (.tup (ds (fmI p t xs))):=by
 have p0:=hp.pos;have ph:=hp.hi;have c1:BH (cG Γ [si p,sh (Dr b xs),Af,Af,Af,Af,Af] 4 Oq) (cF Γ [si p,sh (Dr b xs),Af,Af,Af,Af,Af] 4 Ou) (ds xs)=.ok (ds ((xs.filter fun x=>decide (x%p≠0)).map fun x=>x%p)):=by
  refine UH xs fun x _=>⟨?_,?_⟩
  ·simp[cG,Oq,p0];rw[Cv];simp
  ·simp[cF,Ou,p0]
 have hl:=Te (p:=p) xs;rw[e]at hl;generalize ((xs.filter fun x=>decide (x%p≠0)).map fun x=>x%p)=ls at c1 hl
 have g0:=O4 hl;obtain⟨_,l0,l1⟩:=Ip p0 e;have c3:BH (cG Γ [si p,sh (Dr b xs),si l,Af,Af,Af,Af] 5 Op) (cF Γ [si p,sh (Dr b xs),si l,Af,Af,Af,Af] 5 Ot) (ds (GI p))=.ok (ds ((GI p).filter fun k=>decide (k*l%p=1))):=by
  refine MU (GI p) fun x hx=>⟨?_,?_⟩
  ·obtain⟨x1,x2⟩:=KC.mp hx;have m:DL x l=Aa:=HM (by omega) (by omega)
   simp[cG,Op,m,p0];rw[Cv];simp
  ·simp[cF,Ot]
 have g1:=O4 (aF it);have c4:BH (cG Γ [si p,sh (Dr b xs),si l,si t,Af,Af,Af] 6 Cn) (cF Γ [si p,sh (Dr b xs),si l,si t,Af,Af,Af] 6 Os) (ds xs)=.ok (ds (xs.map fun x=>x*t%p)):=by
  refine KA xs fun x _=>⟨rfl,?_⟩
  have m:DL x t=Aa:=Nn (by have:=it.1;omega) (by have:=it.2.1;omega)
  simp[cF,Os,m,p0]
 have ru:C5 1 p=.ok (ds (GI p)):=TN hp;have fe:fmI p t xs=xs.map fun x=>x*t%p:=by
  unfold fmI;refine Ez fun x _=>?_
  rw[BV x t,A2 t (x%p) p,AV _ (BB p),<-A2]
 simp[OF,Df.run,BG,OV,c1,g0,ru,c3,g1,c4,fe]
noncomputable def LP:Df:=⟨3,Ad,(.cons (.asg 2 Ad (.bin .Mod (.var 1) (.bin .Add (.bin .Add (.bin .Mult (.var 0) (.var 0)) (.var 0)) (.int 1)))) (.cons (.ife (.cmp .Eq (.var 2) (.int 0)) (.cons (.ret (.tup (.cons (.int 0) (.cons (.int 0) (.cons (.int 1) .nil))))) .nil) .nil) (.cons (.ife (.cmp .LtE (.var 2) (.var 0)) (.cons (.ret (.tup (.cons (.int 0) (.cons (.int 1) (.cons (.bin .Sub (.var 2) (.int 1)) .nil))))) .nil) .nil) (.cons (.ret (.tup (.cons (.int 1) (.cons (.bin .FloorDiv (.bin .Sub (.bin .Sub (.var 2) (.var 0)) (.int 1)) (.var 0)) (.cons (.bin .Mod (.bin .Sub (.bin .Sub (.var 2) (.var 0)) (.int 1)) (.var 0)) .nil))))) .nil))))⟩
theorem sW(h:1<p):AY p [0,0,1]=Ab 1:=by
 simp[AY,AM (by decide:(0:Ae)<=1) h]
theorem yM(h:1<p)(z:Ae):AY p [0,1,z]=Ab 1:=by
 simp[AY,AM (by decide:(0:Ae)<=1) h]
theorem YU(h:1<p)(y z:Ae):AY p [1,y,z]=Ab 1:=by
 simp[AY,AM (by decide:(0:Ae)<=1) h]
noncomputable def N4:E:=(.bin .Mult (.idx (.var 0) (.var 5)) (.idx (.var 1) (.var 5)))
noncomputable def RY:Ss:=(.cons (.app 2 (.bin .Add (.bin .Mult (.idx (.var 0) (.var 3)) (.idx (.var 1) (.var 4))) (.bin .Mult (.idx (.var 0) (.var 4)) (.idx (.var 1) (.var 3))))) .nil)
noncomputable def Oh:Df:=⟨6,Ad,(.cons (.asg 2 Aa (.comp N4 5 (.rng (.int 3)) Cn)) (.cons (.forT [3,4] (.e (.lst (.cons (.tup (.cons (.int 0) (.cons (.int 1) .nil))) (.cons (.tup (.cons (.int 0) (.cons (.int 2) .nil))) (.cons (.tup (.cons (.int 1) (.cons (.int 2) .nil))) .nil))))) RY) (.cons (.ret (.var 2)) .nil)))⟩
noncomputable def prd(a b:R3):C6:=⟨a.1*b.1,a.2.1*b.2.1,a.2.2*b.2.2,a.1*b.2.1+a.2.1*b.1,a.1*b.2.2+a.2.2*b.1,a.2.1*b.2.2+a.2.2*b.2.1⟩
def tY(Γ:Gam):Prop:=∀(p:Ae)(a b:R3),P4 p->In3 p a->In3 p b->Γ.F 160 [Bv a,Bv b]=.ok (.lst (ds (prd a b).l))
theorem rC(Γ:Gam)(p:Ae)(a b:R3)(hp:P4 p)(ha:In3 p a)(hb:In3 p b):Oh.run Γ [Bv a,Bv b]=.ok (.lst (ds (prd a b).l)):=by
 have ba:=BX hp ha;have bb:=BX hp hb;have k:∀ {u v},Bd 10 u->Bd 10 v->E8 u v=Aa:=fun hu hv=>GZ hu hv (by decide) (by decide)
 obtain⟨a0,a1,a2⟩:=a;obtain⟨b0,b1,b2⟩:=b;have i0:BQ (Bv (a0,a1,a2)) (.int 0)=.ok (.int a0):=rfl;have i1:BQ (Bv (a0,a1,a2)) (.int 1)=.ok (.int a1):=rfl;have i2:BQ (Bv (a0,a1,a2)) (.int 2)=.ok (.int a2):=rfl;have j0:BQ (Bv (b0,b1,b2)) (.int 0)=.ok (.int b0):=rfl;have j1:BQ (Bv (b0,b1,b2)) (.int 1)=.ok (.int b1):=rfl;have j2:BQ (Bv (b0,b1,b2)) (.int 2)=.ok (.int b2):=rfl;have rg:C5 0 3=.ok [.int 0,.int 1,.int 2]:=rfl;have c1:BH (cG Γ [sh (Bv (a0,a1,a2)),sh (Bv (b0,b1,b2)),Af,Af,Af,Af] 5 Cn) (cF Γ [sh (Bv (a0,a1,a2)),sh (Bv (b0,b1,b2)),Af,Af,Af,Af] 5 N4) [.int 0,.int 1,.int 2]=.ok [.int (a0*b0),.int (a1*b1),.int (a2*b2)]:=by
  simp[BH,cG,cF,Cn,N4,i0,i1,i2,j0,j1,j2,k ba.1 bb.1,k ba.2.1 bb.2.1,k ba.2.2 bb.2.2]
 simp[Oh,RY,Df.run,BG,E2,rg,c1,DF,NO,Dj,i0,i1,i2,j0,j1,j2,k ba.1 bb.2.1,k ba.2.1 bb.1,k ba.1 bb.2.2,k ba.2.2 bb.1,k ba.2.1 bb.2.2,k ba.2.2 bb.2.1,Du];rfl
noncomputable def ZD:E:=(.bin .Mod (.bin .Mult (.var 9) (.var 9)) (.var 0))
noncomputable def R9:E:=(.cmp .NotIn (.var 8) (.comp ZD 9 (.rng (.var 0)) Cn))
noncomputable def Sb:E:=(.var 8)
noncomputable def MJ:E:=(.bin .Sub (.var 10) (.bin .Mult (.var 7) (.var 11)))
noncomputable def Sa:E:=(.bin .Sub (.var 12) (.var 13))
noncomputable def Ky:Df:=⟨14,Ad,(.cons (.asgT [3,4,5] (.var 1)) (.cons (.ife (.cmp .Eq (.var 2) (.int 1)) (.cons (.ret (.call 158 (.cons (.var 0) (.cons (.call 160 (.cons (.var 3) (.cons (.var 3) .nil))) .nil)))) .nil) .nil) (.cons (.ife (.cmp .Eq (.var 2) (.int 2)) (.cons (.ret (.call 158 (.cons (.var 0) (.cons (.call 160 (.cons (.var 3) (.cons (.var 4) .nil))) .nil)))) .nil) .nil) (.cons (.asg 6 Ad (.call 160 (.cons (.var 4) (.cons (.var 4) .nil)))) (.cons (.ife (.cmp .Eq (.var 2) (.int 3)) (.cons (.asg 7 Ad (.bi .min (.cons (.comp Sb 8 (.rng2 (.int 2) (.var 0)) R9) .nil))) (.cons (.ret (.call 158 (.cons (.var 0) (.cons (.compT MJ [10,11] (.zip (.call 160 (.cons (.var 3) (.cons (.var 3) .nil))) (.var 6)) Cn) .nil)))) .nil)) .nil) (.cons (.ret (.call 158 (.cons (.var 0) (.cons (.compT Sa [12,13] (.zip (.call 160 (.cons (.var 3) (.cons (.var 5) .nil))) (.var 6)) Cn) .nil)))) .nil))))))⟩
noncomputable def FK(C D:C6):C6:=⟨C.c0-D.c0,C.c1-D.c1,C.c2-D.c2,C.c3-D.c3,C.c4-D.c4,C.c5-D.c5⟩
theorem cI(a b c:R3):Aj (tw0 (FK (prd a c) (prd b b))) (tw1 (FK (prd a c) (prd b b))) (tw2 (FK (prd a c) (prd b b)))=2*(Aj a b c*Aj a b c):=by
 unfold tw0 tw1 tw2 FK prd Aj det;simp only;grind
theorem P4.two(h:P4 p):(2:Ae)%p≠0:=by rcases h with rfl|rfl|rfl|rfl<;>decide
noncomputable def Q1:Df:=⟨3,Ad,(.cons (.ret (.call 17 (.cons (.var 0) (.cons (.call 91 (.cons (.var 0) (.cons (.var 1) (.cons (.var 2) .nil)))) .nil)))) .nil)⟩
theorem M7{p l:Ae}(hp:P4 p)(el:AY p (tri r)=Ab l):∃ u,DV p l u/\In3 p (fmR p u r)/\AY p (tri (fmR p u r))=Ab 1/\Pr p (fmR p u r) r/\fmI p u (tri r)=tri (fmR p u r):=by
 have p0:=hp.pos;obtain⟨lz,_,_⟩:=Ip p0 el;obtain⟨t,t1,t2,t3⟩:=Hj hp lz;have tz:t%p≠0:=by rw[AM (by omega) t2];omega
 have ff:∀ x,(t*(x%p)%p)%p=t*x%p:=fun x=>by rw[AV _ (BB p),A2 t (x%p) p,AV _ (BB p),<-A2]
 have lv:=JY hp tz (f:=fun x=>t*(x%p)%p) ff (tri r)
 rw[el,EQ,BV,t3]at lv;exact⟨t,⟨t1,t2,t3⟩,FW p0 t r,lv,⟨t,tz,DU p t r⟩,rfl⟩
theorem Pu{g:R3}(h:AY p (tri g)=Af):CgR p g (0,0,0):=by
 have hz:=JV.mp h;have k:∀ x∈tri g,Cg p x 0:=fun x hx=>by show x%p=0%p;rw[hz x hx,A7]
 exact⟨k _ (by simp[tri]),k _ (by simp[tri]),k _ (by simp[tri])⟩
theorem TL{g:R3}(h:CgR p g (0,0,0)):AY p (tri g)=Af:=by
 refine JV.mpr fun x hx=>?_
 have k:∀{x:Ae},Cg p x 0->x%p=0:=fun {x} h=>by rw[show x%p=_ from h,A7]
 simp only[tri,Aw,A3,Cb]at hx;rcases hx with rfl|rfl|rfl
 ·exact k h.1
 ·exact k h.2.1
 ·exact k h.2.2
theorem UA{p l:Ae}{a b c f g:R3}(hp:P4 p)(z:Aj a b c%p≠0)(lf:AY p (tri f)=Ab l)(h:CgR p g (ap a b c f)):∃ l,AY p (tri g)=Ab l:=by
 cases el:AY p (tri g) with
 |some l=>exact⟨l,rfl⟩
 |none=>
  have q0:CgR p (ap a b c f) (0,0,0):=h.symm.trans (Pu el);have q1:CgR p (AB (Aj a b c) f) (0,0,0):=by
   have:=Mv (CgR.rfl (a:=bk0 a b c)) (CgR.rfl (a:=bk1 a b c)) (CgR.rfl (a:=bk2 a b c)) q0;rw[NR]at this;refine this.trans (CgR.of ?_);unfold ap Aq;simp
  obtain⟨u,uz,o⟩:=QD hp z;have q2:CgR p f (0,0,0):=by
   have w:=CgR.sc (k:=u) (k':=u) Cg.rfl q1;rw[HZ]at w;refine((CgR.of (Ml f).symm).trans (CgR.sc o.symm CgR.rfl)).trans (w.trans (CgR.of ?_));unfold AB;simp
  rw[TL q2]at lf;cases lf
def Qv(Γ:Gam):Prop:=∀(p:Ae)(a b c f:R3),GoodR p a b c->In3 p f->AY p (tri f)=Ab 1->∃ g,In3 p g/\AY p (tri g)=Ab 1/\Pr p g (ap a b c f)/\Γ.F 92 [.int p,AX a b c,Am Aa f]=.ok (Am Aa g)
theorem rK(hs:KQ Γ)(hf:KI Γ)(p:Ae)(a b c f:R3)(g:GoodR p a b c)(i0:In3 p f)(lf:AY p (tri f)=Ab 1):∃ g,In3 p g/\AY p (tri g)=Ab 1/\Pr p g (ap a b c f)/\Q1.run Γ [.int p,AX a b c,Am Aa f]=.ok (Am Aa g):=by
 have hp:=g.p4;have e1:Γ.F 91 [.int p,AX a b c,Am Aa f]=_:=hs p Aa Aa Aa a b c f hp.pos ((BX hp g.ia).b3 (by decide)) ((BX hp g.ib).b3 (by decide)) ((BX hp g.ic).b3 (by decide)) ((BX hp i0).b3 (by decide))
 have cg:CgR p (Aq a f%p,Aq b f%p,Aq c f%p) (ap a b c f):=⟨Cg.md rfl,Cg.md rfl,Cg.md rfl⟩;obtain⟨l,el⟩:=UA hp g.nz lf cg;obtain⟨u,iu,j,l1,pr,ef⟩:=M7 hp el;have e2:=hf p Aa _ l u hp el iu;rw[ef]at e2;generalize (Aq a f%p,Aq b f%p,Aq c f%p)=w at *;have e2':Γ.F 17 [.int p,Am Aa w]=.ok (Am Aa (fmR p u w)):=e2;refine⟨fmR p u w,j,l1,pr.trans hp (Pr.cg hp cg),?_⟩;simp[Q1,Df.run,BG,e1,e2']
def Ue(Γ:Gam):Prop:=∀(p:Ae)(C:C6),P4 p->InC p C->Aj (tw0 C) (tw1 C) (tw2 C)%p≠0->Γ.F 136 [.int p,A6 C]=.ok (.bl Aa)
theorem cY(ht:KG Γ)(hm:KH Γ)(p:Ae)(C:C6)(hp:P4 p)(iC:InC p C)(z:Aj (tw0 C) (tw1 C) (tw2 C)%p≠0):LZ.run Γ [.int p,A6 C]=.ok (.bl Aa):=by
 obtain⟨h0,h1,h2⟩:=MA hp iC;have e1:=ht p C hp;have e2:=hm p Aa (t0 p C) (t1 p C) (t2 p C) hp.pos ((BX hp h0).b3 (by decide)) ((BX hp h1).b3 (by decide)) ((BX hp h2).b3 (by decide))
 have td:Aj (t0 p C) (t1 p C) (t2 p C)%p=Aj (tw0 C) (tw1 C) (tw2 C)%p:=let ⟨h0,h1,h2⟩:=MB p C;Ir h0 h1 h2
 rw[td]at e2;have k0:BQ (AX (t0 p C) (t1 p C) (t2 p C)) (.int 0)=.ok (Am Aa (t0 p C)):=rfl;have k1:BQ (AX (t0 p C) (t1 p C) (t2 p C)) (.int 1)=.ok (Am Aa (t1 p C)):=rfl;have k2:BQ (AX (t0 p C) (t1 p C) (t2 p C)) (.int 2)=.ok (Am Aa (t2 p C)):=rfl;generalize Aj (tw0 C) (tw1 C) (tw2 C)%p=d at *;simp[LZ,Df.run,BG,e1,e2,k0,k1,k2,z]
noncomputable def OZ:Df:=⟨2,Ad,(.cons (.ife (.no (.call 136 (.cons (.var 0) (.cons (.var 1) .nil)))) (.cons (.rais 14 (.cons (.str (AQ "the curve is not whole")) .nil)) .nil) .nil) .nil)⟩
noncomputable def OA:Df:=⟨2,Ad,(.cons (.expr (.call 147 (.cons (.var 0) (.cons (.var 1) .nil)))) (.cons (.ret (.call 78 (.cons (.var 0) (.cons (.call 131 (.cons (.var 0) (.cons (.var 1) .nil))) .nil)))) .nil))⟩
noncomputable def Qx:Df:=⟨3,Ad,(.cons (.ret (.call 92 (.cons (.var 0) (.cons (.call 106 (.cons (.var 0) (.cons (.call 148 (.cons (.var 0) (.cons (.var 1) .nil))) .nil))) (.cons (.var 2) .nil))))) .nil)⟩
def QK(Γ:Gam):Prop:=∀(p:Ae)(C:C6),P4 p->InC p C->Aj (tw0 C) (tw1 C) (tw2 C)%p≠0->Γ.F 147 [.int p,A6 C]=.ok .non
theorem rP(h:Ue Γ)(p:Ae)(C:C6)(hp:P4 p)(iC:InC p C)(z:Aj (tw0 C) (tw1 C) (tw2 C)%p≠0):OZ.run Γ [.int p,A6 C]=.ok .non:=by
 have e:=h p C hp iC z;simp[OZ,Df.run,BG,e]
def RW(p:Ae)(C:C6)(a b c:R3):Prop:=GoodR p a b c/\∃ k,k%p≠0/\CgR p a (AB k (tw0 C))/\CgR p b (AB k (tw1 C))/\CgR p c (AB k (tw2 C))
def VO(Γ:Gam):Prop:=∀(p:Ae)(C:C6),P4 p->InC p C->Aj (tw0 C) (tw1 C) (tw2 C)%p≠0->∃ a b c,RW p C a b c/\Γ.F 148 [.int p,A6 C]=.ok (AX a b c)
theorem rB(hw:QK Γ)(ht:KG Γ)(hf:Mi Γ)(p:Ae)(C:C6)(hp:P4 p)(iC:InC p C)(z:Aj (tw0 C) (tw1 C) (tw2 C)%p≠0):∃ a b c,RW p C a b c/\OA.run Γ [.int p,A6 C]=.ok (AX a b c):=by
 obtain⟨i0,i1,i2⟩:=MA hp iC;obtain⟨h0,h1,h2⟩:=MB p C;have zt:Aj (t0 p C) (t1 p C) (t2 p C)%p≠0:=Jb (Ir h0 h1 h2) z;obtain⟨l,t,el,it,tz,gd,_⟩:=LS hp zt;have e1:=hw p C hp iC z;have e2:=ht p C hp;have e3:Γ.F 78 [.int p,AX (t0 p C) (t1 p C) (t2 p C)]=_:=hf p Aa Aa _ _ _ hp ((BX hp i0).b3 (by decide)) ((BX hp i1).b3 (by decide)) ((BX hp i2).b3 (by decide)) zt l t el it
 refine⟨_,_,_,⟨gd,t,tz,(DU p t _).trans (CgR.sc Cg.rfl h0),(DU p t _).trans (CgR.sc Cg.rfl h1),(DU p t _).trans (CgR.sc Cg.rfl h2)⟩,?_⟩;generalize AX (fmR p t (t0 p C)) (fmR p t (t1 p C)) (fmR p t (t2 p C))=T at *;simp[OA,Df.run,BG,e1,e2,e3]
def tZ(Γ:Gam):Prop:=∀(p:Ae)(C:C6)(x:R3),P4 p->InC p C->Aj (tw0 C) (tw1 C) (tw2 C)%p≠0->In3 p x->AY p (tri x)=Ab 1->∃ y,In3 p y/\AY p (tri y)=Ab 1/\Pr p y (ap (bk0 (tw0 C) (tw1 C) (tw2 C)) (bk1 (tw0 C) (tw1 C) (tw2 C)) (bk2 (tw0 C) (tw1 C) (tw2 C)) x)/\Γ.F 149 [.int p,A6 C,Am Aa x]=.ok (Am Aa y)
theorem rD(hq:VO Γ)(hb:ND Γ)(hl:Qv Γ)(p:Ae)(C:C6)(x:R3)(hp:P4 p)(iC:InC p C)(z:Aj (tw0 C) (tw1 C) (tw2 C)%p≠0)(ix:In3 p x)(lx:AY p (tri x)=Ab 1):∃ y,In3 p y/\AY p (tri y)=Ab 1/\Pr p y (ap (bk0 (tw0 C) (tw1 C) (tw2 C)) (bk1 (tw0 C) (tw1 C) (tw2 C)) (bk2 (tw0 C) (tw1 C) (tw2 C)) x)/\Qx.run Γ [.int p,A6 C,Am Aa x]=.ok (Am Aa y):=by
 obtain⟨a,b,c,⟨gd,k,kz,h0,h1,h2⟩,e1⟩:=hq p C hp iC z;have zB:Aj (bk0 a b c) (bk1 a b c) (bk2 a b c)%p≠0:=by rw[HN];exact BJ hp gd.nz gd.nz
 obtain⟨l,t,el,it,tz,gB,_⟩:=LS hp zB;have e2:=hb p a b c hp gd.ia gd.ib gd.ic gd.nz l t el it;obtain⟨y,j,l1,pr,e3⟩:=hl p _ _ _ x gB ix lx;obtain⟨b0,b1,b2⟩:=WD h0 h1 h2;obtain⟨s0,s1,s2⟩:=WC k (tw0 C) (tw1 C) (tw2 C);rw[s0]at b0;rw[s1]at b1;rw[s2]at b2;refine⟨y,j,l1,(pr.trans hp (Pr.tab tz (DU p t _) (DU p t _) (DU p t _))).trans hp (Pr.tab (BJ hp kz kz) b0 b1 b2),?_⟩;generalize AX (fmR p t (bk0 a b c)) (fmR p t (bk1 a b c)) (fmR p t (bk2 a b c))=TB at *;simp[Qx,Df.run,BG,e1,e2,e3]
theorem VN(a b c v:R3):ap a b c (ap (bk0 a b c) (bk1 a b c) (bk2 a b c) v)=AB (Aj a b c) v:=by
 unfold ap AB Aq bk0 bk1 bk2 Bq Bm Bl crs Aj det;refine Bp ?_ (Bp ?_ ?_)<;>(simp only;grind)
noncomputable def Rh(mid:Ag):Df:=⟨1,Ad,(.cons (.ret (.idx (.lst (.cons (.int 3) (.cons (.int 5) (.cons (.int 7) (.cons (.int 11) .nil))))) (.bin .Mod (.bin .FloorDiv (.call mid (.cons (.var 0) (.cons (.int 0) .nil))) (.int 5)) (.int 4)))) .nil)⟩
def fD(Γ:Gam)(id:Ag)(ns:Ac Ae):Prop:=∃ p,P4 p/\Γ.F id [scr ns]=.ok (.int p)
theorem dA(h:KR Γ mid ns):∃ p,P4 p/\(Rh mid).run Γ [scr ns]=.ok (.int p):=by
 obtain⟨m,m0,e⟩:=h 0 (by decide)
 refine⟨_,rX (m / 5),?_⟩;simp[Rh,Df.run,BG,e,eG]
noncomputable def OY:Df:=⟨8,Ad,(.cons (.asgT [2,3,4] (.var 0)) (.cons (.asgT [5,6,7] (.var 1)) (.cons (.ret (.lst (.cons (.bin .Sub (.bin .Mult (.var 3) (.var 7)) (.bin .Mult (.var 4) (.var 6))) (.cons (.bin .Sub (.bin .Mult (.var 4) (.var 5)) (.bin .Mult (.var 2) (.var 7))) (.cons (.bin .Sub (.bin .Mult (.var 2) (.var 6)) (.bin .Mult (.var 3) (.var 5))) .nil))))) .nil)))⟩
noncomputable def Oe:E:=(.bin .Mult (.var 7) (.var 8))
noncomputable def Oc:Df:=⟨9,Ad,(.cons (.asgT [3,4,5] (.var 2)) (.cons (.asg 6 Ad (.lst (.cons (.bin .Mult (.var 3) (.var 3)) (.cons (.bin .Mult (.var 4) (.var 4)) (.cons (.bin .Mult (.var 5) (.var 5)) (.cons (.bin .Mult (.var 3) (.var 4)) (.cons (.bin .Mult (.var 3) (.var 5)) (.cons (.bin .Mult (.var 4) (.var 5)) .nil)))))))) (.cons (.ret (.bin .Mod (.bi .sum (.cons (.compT Oe [7,8] (.zip (.var 1) (.var 6)) Cn) .nil)) (.var 0))) .nil)))⟩
theorem QH(x:R3):flD 5 (Am Aa x)=Aa/\eqD (Am Aa x) (Am Aa x)=Aa:=by
 refine⟨rfl,?_⟩;show eqDs (ds [x.1,x.2.1,x.2.2]) (ds [x.1,x.2.1,x.2.2])=Aa;rw[Vc]
section
variable{Γ:Gam}{ns:Ac Ae}{p:Ae}{C:C6}{s3 s4 s5 s6 s7 s8:Sl}
end
noncomputable def LM:Ss:=(.cons (.asg 2 Ad (.bin .FloorDiv (.var 2) (.int 1000033))) .nil)
noncomputable def LK:Df:=⟨4,Ad,(.cons (.asg 2 Ad (.int 0)) (.cons (.ife (.cmp .Gt (.bi .len (.cons (.var 0) .nil)) (.int 0)) (.cons (.asg 2 Ad (.idx (.var 0) (.bin .Mod (.var 1) (.bi .len (.cons (.var 0) .nil))))) .nil) .nil) (.cons (.ife (.cmp .Eq (.bin .Mod (.bi .len (.cons (.var 0) .nil)) (.int 2)) (.int 0)) (.cons (.fors 3 (.rng (.bi .min (.cons (.int 60) (.cons (.bin .FloorDiv (.var 1) (.bi .max (.cons (.int 1) (.cons (.bi .len (.cons (.var 0) .nil)) .nil)))) .nil)))) LM) (.cons (.ret (.bin .Mod (.var 2) (.int 1000033))) .nil)) .nil) (.cons (.ret (.bin .Mod (.bin .Mult (.bin .Mod (.bin .Mult (.bin .Add (.bin .Add (.bin .Mod (.var 2) (.int 1000003)) (.bin .Mult (.int 7919) (.var 1))) (.int 11)) (.int 48271)) (.int 1000033)) (.int 69621)) (.int 1000033))) .nil))))⟩
section
variable{Γ:Gam}{ns:Ac Ae}
theorem cK(k x:Ae)(n:Ag):∃ y s3,DF (CT Γ 3 LM) (Ch 0 n) [sh (scr ns),si k,si x,Af]=.next [sh (scr ns),si k,si y,s3]:=by
 obtain⟨ρ',e,y,s3,rfl⟩:=Ng (body:=CT Γ 3 LM) (fun ρ=>∃ y s3,ρ=[sh (scr ns),si k,si y,s3]) (Ch 0 n) [sh (scr ns),si k,si x,Af] ⟨x,Af,rfl⟩ (by
  rintro z hz ρ ⟨y,s3,rfl⟩;obtain⟨j,_,rfl⟩:=cM hz;exact⟨[sh (scr ns),si k,si (y / 1000033),si (0+(j:Ae))],by simp[CT,LM],_,_,rfl⟩)
 exact⟨y,s3,e⟩
theorem rH(Γ:Gam)(ns:Ac Ae)(hl:ns.length<=63)(k:Ae)(k0:0<=k):∃ m,0<=m/\LK.run Γ [scr ns,.int k]=.ok (.int m):=by
 have m1:DL 7919 k=Aa:=HM (by decide) (by decide)
 have m2:∀ x,DL x 48271=Aa:=fun x=>Nn (by decide) (by decide)
 have m3:∀ x,DL x 69621=Aa:=fun x=>Nn (by decide) (by decide)
 generalize hn:(ns.length:Ae)=n;have n0:0<=n:=by omega
 have n1:n<=63:=by omega
 have len:biD .len [scr ns]=.ok (.int n):=by rw[<-hn];show R.ok (D.int ((ns.map D.int).length:Ag))=_;rw[BD]
 have fin:∀ x hi:Ae,0<=hi->hi<=60->∃ y s3,Rc Γ 3 LM [sh (scr ns),si k,si x,Af] (C5 0 hi)=.next [sh (scr ns),si k,si y,s3]:=fun x hi h0 h1=>by
  rw[aV h0 (by omega)]
  exact cK (Γ:=Γ) (ns:=ns) k x hi.toNat
 have mx:0<(if 1<n then n else 1)/\(if 1<n then n else 1)<1073741824:=by split<;>omega
 generalize hM:(if 1<n then n else 1)=M at mx
 have hi:∀ q:Ae,0<=q->0<=(if q<60 then q else 60)/\(if q<60 then q else 60)<=60:=fun q h=>by split<;>omega
 have q0:0<=k / M:=WR k0 (by omega)
 obtain⟨u1,u2⟩:=hi _ q0;by_cases hp:0<n
 ·have r0:0<=k%n:=AZ _ (by omega)
  have r1:k%n<ns.length:=by rw[hn];exact AW _ hp
  have g:=mE r0 r1;generalize ns.getD (k%n).toNat 0=x at g;by_cases h2:n%2=0
  ·obtain⟨y,s3,e⟩:=fin x _ u1 u2;refine⟨y%1000033,AZ _ (by decide),?_⟩
   have gx:BQ (scr ns) (.int (k%n))=.ok (.int x):=g;simp[LK,Df.run,BG,len,hp,gx,h2,hM,mx.1,mx.2,e]
  ·refine⟨((x%1000003+7919*k+11)*48271%1000033)*69621%1000033,AZ _ (by decide),?_⟩
   have gx:BQ (scr ns) (.int (k%n))=.ok (.int x):=g;simp[LK,Df.run,BG,len,hp,gx,h2,m1,m2,m3]
 ·have z:n=0:=by omega
  subst z;obtain⟨y,s3,e⟩:=fin 0 _ u1 u2;refine⟨y%1000033,AZ _ (by decide),?_⟩
  have hM':M=1:=by rw[<-hM];rfl
  subst hM';simp at e;simp[LK,Df.run,BG,len,e]
end
noncomputable def Qz:Df:=⟨3,Ad,(.cons (.ret (.call 17 (.cons (.var 0) (.cons (.call 23 (.cons (.var 1) (.cons (.var 2) .nil))) .nil)))) .nil)⟩
theorem T8{a b:R3}(hp:P4 p)(h:CgR p (crs a b) (0,0,0))(la:AY p (tri a)=Ab 1)(lb:AY p (tri b)=Ab 1):Pr p b a:=by
 obtain⟨h0,h1,h2⟩:=h;have p1:1<p:=by have:=hp.lo;omega
 have sw:∀{x y:Ae},Cg p (x-y) 0->Cg p x y:=fun {x y} h=>by
  have:=h.add (Cg.rfl (a:=y))
  rwa [WV,FA]at this
 have e0:Cg p (a.2.1*b.2.2) (a.2.2*b.2.1):=sw h0;have e1:Cg p (a.2.2*b.1) (a.1*b.2.2):=sw h1;have e2:Cg p (a.1*b.2.1) (a.2.1*b.1):=sw h2;have one:∀{x:Ae},x%p=1->Cg p x 1:=fun {x} h=>by show x%p=1%p;rw[h,AM (by decide) p1]
 have fin:∀ k,CgR p b (AB k a)->Pr p b a:=fun k hk=>by
  refine⟨k,fun z=>?_,hk⟩
  have:CgR p b (0,0,0):=by
   have kz:Cg p k 0:=by show k%p=0%p;rw[z,A7]
   refine hk.trans ((CgR.sc kz CgR.rfl).trans (CgR.of ?_));unfold AB;simp
  rw[TL this]at lb;cases lb
 unfold tri AY at la;by_cases z0:a.1%p=0
 ·rw[Ay z0]at la;have c0:Cg p a.1 0:=by show a.1%p=0%p;rw[z0,A7]
  unfold AY at la;by_cases z1:a.2.1%p=0
  ·rw[Ay z1]at la;have c1:Cg p a.2.1 0:=by show a.2.1%p=0%p;rw[z1,A7]
   unfold AY at la;by_cases z2:a.2.2%p=0
   ·rw[Ay z2]at la;cases la
   ·rw[AH z2,Cr]at la;have c2:=one la;refine fin b.2.2 ⟨?_,?_,?_⟩
    ·have:=(c2.symm.mul (Cg.rfl (a:=b.1))).trans e1;rw[CC]at this;exact this.trans (Cg.of (BV _ _))
    ·have:=(c2.symm.mul (Cg.rfl (a:=b.2.1))).trans e0.symm;rw[CC]at this;exact this.trans (Cg.of (BV _ _))
    ·have:=(Cg.rfl (a:=b.2.2)).mul c2;rw[DN]at this;exact this.symm
  ·rw[AH z1,Cr]at la;have c1:=one la;refine fin b.2.1 ⟨?_,?_,?_⟩
   ·have:=(c1.symm.mul (Cg.rfl (a:=b.1))).trans e2.symm;rw[CC]at this;exact this.trans (Cg.of (BV _ _))
   ·have:=(Cg.rfl (a:=b.2.1)).mul c1;rw[DN]at this;exact this.symm
   ·have:=(c1.symm.mul (Cg.rfl (a:=b.2.2))).trans e0;rw[CC]at this;exact this.trans (Cg.of (BV _ _))
 ·rw[AH z0,Cr]at la;have c0:=one la;refine fin b.1 ⟨?_,?_,?_⟩
  ·have:=(Cg.rfl (a:=b.1)).mul c0;rw[DN]at this;exact this.symm
  ·have:=(c0.symm.mul (Cg.rfl (a:=b.2.1))).trans e2;rw[CC]at this;exact this.trans (Cg.of (BV _ _))
  ·have:=(c0.symm.mul (Cg.rfl (a:=b.2.2))).trans e1.symm;rw[CC]at this;exact this.trans (Cg.of (BV _ _))
def J3(Γ:Gam):Prop:=∀(p:Ae)(a b:R3),P4 p->In3 p a->In3 p b->AY p (tri a)=Ab 1->AY p (tri b)=Ab 1->a≠b->∃ y,In3 p y/\AY p (tri y)=Ab 1/\Pr p y (crs a b)/\Γ.F 57 [.int p,Am Aa a,Am Aa b]=.ok (Am Aa y)
theorem rL(hc:UG Γ)(hf:KI Γ)(p:Ae)(a b:R3)(hp:P4 p)(ia:In3 p a)(ib:In3 p b)(la:AY p (tri a)=Ab 1)(lb:AY p (tri b)=Ab 1)(ne:a≠b):∃ y,In3 p y/\AY p (tri y)=Ab 1/\Pr p y (crs a b)/\Qz.run Γ [.int p,Am Aa a,Am Aa b]=.ok (Am Aa y):=by
 have e1:=hc a b ((BX hp ia).b3 (by decide)) ((BX hp ib).b3 (by decide)) ne
 cases el:AY p (tri (crs a b)) with
 |none=>exact absurd (Um hp ib ia lb la (T8 hp (Pu el) la lb)).symm ne
 |some l=>
  obtain⟨u,iu,j,l1,pr,ef⟩:=M7 hp el;have e2:=hf p Aa _ l u hp el iu;rw[ef]at e2;have e2':Γ.F 17 [.int p,Am Aa (crs a b)]=.ok (Am Aa (fmR p u (crs a b))):=e2;refine⟨_,j,l1,pr,?_⟩;generalize Am Aa (fmR p u (crs a b))=Y at *;simp[Qz,Df.run,BG,e1,e2']
theorem kS(a b:R3):Aq (crs a b) a=0/\Aq (crs a b) b=0:=by
 unfold Aq crs;constructor<;>grind
theorem E7{x:Ae}(hp:P4 p)(kz:k%p≠0):k*x%p=0↔x%p=0:=by
 constructor
 ·intro z;exact Ef fun n=>BJ hp kz n z
 ·intro z;rw[A2,z,Dm,A7]
theorem NL(hp:P4 p)(hx:Pr p x x')(hy:Pr p y y'):(Aq x y%p=0)↔(Aq x' y'%p=0):=by
 obtain⟨d,dz,e⟩:=hx;obtain⟨d',dz',e'⟩:=hy;have q:Cg p (Aq x y) (d*d'*Aq x' y'):=(EF e e').trans (Cg.of (by unfold Aq AB;simp only;grind))
 rw[show Aq x y%p=_ from q]
 exact E7 hp (BJ hp dz dz')
section
variable{Γ:Gam}{ns:Ac Ae}{p:Ae}{C:C6}{s3 s4 s5 s6 s7 s8:Sl}
end
def NF(p:Ae)(x:R3):Prop:=In3 p x/\AY p (tri x)=Ab 1
noncomputable def ptI(p n:Ae):R3:=if n=0 then (0,0,1) else if n<=p then (0,1,n-1) else (1,(n-p-1) / p,(n-p-1)%p)
noncomputable def C7(p:Ae):Ac R3:=(Bk (p*p+p+1).toNat).map fun(n:Ag)=>ptI p n
theorem wA{n:Ae}(hp:P4 p)(h0:0<=n)(h1:n<p*p+p+1):NF p (ptI p n):=by
 have p1:1<p:=by have:=hp.lo;omega
 have p0:=hp.pos;unfold ptI;by_cases z:n=0
 ·rw[Ay z];exact⟨⟨⟨by decide,p0⟩,⟨by decide,p0⟩,⟨by decide,p1⟩⟩,sW p1⟩
 ·rw[AH z];by_cases z1:n<=p
  ·rw[Ay z1];exact⟨⟨⟨JN 0,p0⟩,⟨(by decide:(0:Ae)<=1),p1⟩,⟨by show 0<=n-1;omega,by show n-1<p;omega⟩⟩,yM p1 _⟩
  ·rw[AH z1];have d0:0<=(n-p-1) / p:=WR (by omega) (by omega)
   have d1:(n-p-1) / p<p:=by rw[Int.ediv_lt_iff_lt_mul p0];omega
   exact⟨⟨⟨(by decide:(0:Ae)<=1),p1⟩,⟨d0,d1⟩,⟨AZ _ (by omega),AW _ p0⟩⟩,YU p1 _ _⟩
theorem zJ(hp:P4 p)(h:NF p x):∃ n:Ae,0<=n/\n<p*p+p+1/\x=ptI p n:=by
 obtain⟨⟨i0,i1,i2⟩,l⟩:=h;have p1:1<p:=by have:=hp.lo;omega
 have p0:=hp.pos;have pp:=JO p0 p0;obtain⟨x0,x1,x2⟩:=x;simp only at i0 i1 i2;unfold tri AY at l;simp only at l;rw[AM i0.1 i0.2]at l;by_cases z0:x0=0
 ·rw[Ay z0]at l;unfold AY at l;rw[AM i1.1 i1.2]at l;by_cases z1:x1=0
  ·rw[Ay z1]at l;unfold AY at l;rw[AM i2.1 i2.2]at l;by_cases z2:x2=0
   ·rw[Ay z2]at l;cases l
   ·rw[AH z2,Cr]at l;exact⟨0,JN 0,by omega,by rw[z0,z1,l];rfl⟩
  ·rw[AH z1,Cr]at l;refine⟨x2+1,by omega,by omega,?_⟩
   unfold ptI;rw[AH (by omega),Ay (by omega),z0,l,Int.add_sub_cancel]
 ·rw[AH z0,Cr]at l;have m1:p*x1<=p*(p-1):=Int.mul_le_mul_of_nonneg_left (by omega) (by omega)
  have m0:0<=p*x1:=Int.mul_nonneg (by omega) i1.1
  rw[WU,DN]at m1;refine⟨p+1+p*x1+x2,by omega,by omega,?_⟩
  unfold ptI;have e:p+1+p*x1+x2-p-1=x2+p*x1:=by omega
  rw[AH (by omega),AH (by omega),e,Int.add_mul_ediv_left _ _ (by omega),Int.ediv_eq_zero_of_lt i2.1 i2.2,Fd,AM i2.1 i2.2,FA,l]
theorem ED(hp:P4 p):x∈C7 p↔NF p x:=by
 have p0:=hp.pos;have pp:=JO p0 p0;constructor
 ·intro h;obtain⟨n,hn,rfl⟩:=CI.mp h;have:=Dv.mp hn;exact wA hp (by omega) (by omega)
 ·intro h;obtain⟨n,n0,n1,rfl⟩:=zJ hp h;refine CI.mpr ⟨n.toNat,Dv.mpr (by omega),?_⟩
  rw[Int.toNat_of_nonneg n0]
theorem LV(hp:P4 p):(C7 p).Nodup:=by
 rcases hp with rfl|rfl|rfl|rfl<;>decide +kernel
theorem PK{α:Type}[DecidableEq α]:∀{l1 l2:Ac α},l1.Nodup->(∀ x∈l1,x∈l2)->l1.length<=l2.length
 |[],_,_,_=>CW _
 |x::l1,l2,nd,h=>by
  obtain⟨n1,n2⟩:=B4.mp nd;have hx:=h x Ax;have:=PK (l1:=l1) (l2:=l2.erase x) n2 fun y hy=>by
   have hy2:=h y (Au _ hy);have ne:y≠x:=fun e=>n1 (e ▸ hy)
   exact(Xh ne).mpr hy2
  rw[Xc hx]at this;have l0:0<l2.length:=List.length_pos_of_mem hx;rw[Ck];omega
theorem O2{α β:Type}{f:α->β}:∀{l:Ac α},l.Nodup->(∀ x∈l,∀ y∈l,f x=f y->x=y)->(l.map f).Nodup
 |[],_,_=>Xj
 |x::l,nd,h=>by
  obtain⟨n1,n2⟩:=B4.mp nd;rw[B7,B4];refine⟨fun m=>?_,O2 n2 fun y hy z hz=>h y (Au _ hy) z (Au _ hz)⟩
  obtain⟨y,hy,e⟩:=CI.mp m;have:=h y (Au _ hy) x Ax e;exact n1 (this ▸ hy)
theorem kX[DecidableEq α]{l:Ac α}(nd:l.Nodup)(F G:α->α)(hF:∀ x∈l,F x∈l)(hG:∀ y∈l,G y∈l)(GF:∀ x∈l,G (F x)=x)(FG:∀ y∈l,F (G y)=y)(Q:α->Ao):(l.filter fun x=>Q (F x)).length=(l.filter Q).length:=by
 refine Ig ?_ ?_
 ·have n:((l.filter fun x=>Q (F x)).map F).Nodup:=O2 (nd.filter _) fun x hx y hy e=>by
   have h1:=GF x (AO.mp hx).1;have h2:=GF y (AO.mp hy).1;rw[<-h1,<-h2,e]
  have:=PK (l2:=l.filter Q) n fun z hz=>by
   obtain⟨x,hx,rfl⟩:=CI.mp hz;obtain⟨h1,h2⟩:=AO.mp hx;exact AO.mpr ⟨hF x h1,h2⟩
  rwa [BD]at this
 ·have n:((l.filter Q).map G).Nodup:=O2 (nd.filter _) fun x hx y hy e=>by
   have h1:=FG x (AO.mp hx).1;have h2:=FG y (AO.mp hy).1;rw[<-h1,<-h2,e]
  have:=PK (l2:=l.filter fun x=>Q (F x)) n fun z hz=>by
   obtain⟨x,hx,rfl⟩:=CI.mp hz;obtain⟨h1,h2⟩:=AO.mp hx;exact AO.mpr ⟨hG x h1,by rw[FG x h1];exact h2⟩
  rwa [BD]at this
noncomputable def nrm(p:Ae)(r:R3):R3:=open Classical in if h:∃ y,NF p y/\Pr p y r then WM h else r
theorem Nb{p l:Ae}(hp:P4 p)(el:AY p (tri r)=Ab l):NF p (nrm p r)/\Pr p (nrm p r) r:=by
 have h:∃ y,NF p y/\Pr p y r:=by
  obtain⟨u,iu,j,l1,pr,_⟩:=M7 hp el;exact⟨_,⟨j,l1⟩,pr⟩
 unfold nrm;rw[dif_pos h];exact EU h
theorem Hh{a b c x:R3}(hp:P4 p)(z:Aj a b c%p≠0)(hx:NF p x):NF p (nrm p (ap a b c x))/\Pr p (nrm p (ap a b c x)) (ap a b c x):=by
 obtain⟨l,el⟩:=UA hp z hx.2 CgR.rfl;exact Nb hp el
theorem K0(hp:P4 p)(hx:NF p x)(hy:NF p y)(h:Pr p x y):x=y:=Um hp hx.1 hy.1 hx.2 hy.2 h
theorem LW{a b c x:R3}(hp:P4 p)(z:Aj a b c%p≠0)(hx:NF p x):nrm p (ap (bk0 a b c) (bk1 a b c) (bk2 a b c) (nrm p (ap a b c x)))=x:=by
 obtain⟨h1,h2⟩:=Hh hp z hx;have zB:Aj (bk0 a b c) (bk1 a b c) (bk2 a b c)%p≠0:=by rw[HN];exact BJ hp z z
 obtain⟨h3,h4⟩:=Hh hp zB h1;refine K0 hp h3 hx (h4.trans hp ((Pr.ap h2).trans hp ?_));rw[NR];exact⟨_,z,CgR.rfl⟩
theorem Td{a b c x:R3}(hp:P4 p)(z:Aj a b c%p≠0)(hx:NF p x):nrm p (ap a b c (nrm p (ap (bk0 a b c) (bk1 a b c) (bk2 a b c) x)))=x:=by
 have zB:Aj (bk0 a b c) (bk1 a b c) (bk2 a b c)%p≠0:=by rw[HN];exact BJ hp z z
 obtain⟨h1,h2⟩:=Hh hp zB hx;obtain⟨h3,h4⟩:=Hh hp z h1;refine K0 hp h3 hx (h4.trans hp ((Pr.ap h2).trans hp ?_));rw[VN];exact⟨_,z,CgR.rfl⟩
theorem kW{a b c:R3}(hp:P4 p)(z:Aj a b c%p≠0)(Q:R3->Ao):((C7 p).filter fun x=>Q (nrm p (ap a b c x))).length=((C7 p).filter Q).length:=by
 have zB:Aj (bk0 a b c) (bk1 a b c) (bk2 a b c)%p≠0:=by rw[HN];exact BJ hp z z
 exact kX (LV hp) (fun x=>nrm p (ap a b c x)) (fun x=>nrm p (ap (bk0 a b c) (bk1 a b c) (bk2 a b c) x)) (fun x hx=>(ED hp).mpr (Hh hp z ((ED hp).mp hx)).1) (fun x hx=>(ED hp).mpr (Hh hp zB ((ED hp).mp hx)).1) (fun x hx=>LW hp z ((ED hp).mp hx)) (fun x hx=>Td hp z ((ED hp).mp hx)) Q
noncomputable def Cp(p:Ae):Ae:=if p=7 then 3 else 2
noncomputable def q4(w:Ag)(k:Ae)(y:R3):Ae:=match w with
  |0=>y.1*y.2.2-y.2.1*y.2.1
  |1=>y.1*y.1
  |2=>y.1*y.2.1
  |_=>y.1*y.1-k*(y.2.1*y.2.1)
noncomputable def E4(w:Ag)(k:Ae)(a b c:R3):C6:=match w with
  |0=>FK (prd a c) (prd b b)
  |1=>prd a a
  |2=>prd a b
  |_=>FK (prd a a) (scC k (prd b b))
def W4(w:Ag):Prop:=w=0\/w=1\/w=2\/w=3
theorem HP(u v x:R3):vI (prd u v) x=Aq u x*Aq v x:=by
 unfold vI prd Aq;simp only;grind
theorem KW(A B:C6)(x:R3):vI (FK A B) x=vI A x-vI B x:=by
 unfold vI FK;simp only;grind
theorem J5(k:Ae)(A:C6)(x:R3):vI (scC k A) x=k*vI A x:=by
 unfold vI scC;simp only;grind
theorem RE(hw:W4 w)(k:Ae)(a b c x:R3):vI (E4 w k a b c) x=q4 w k (ap a b c x):=by
 rcases hw with rfl|rfl|rfl|rfl
 ·show vI (FK _ _) x=Aq a x*Aq c x-Aq b x*Aq b x;rw[KW,HP,HP]
 ·show vI (prd _ _) x=Aq a x*Aq a x;rw[HP]
 ·show vI (prd _ _) x=Aq a x*Aq b x;rw[HP]
 ·show vI (FK _ _) x=Aq a x*Aq a x-k*(Aq b x*Aq b x);rw[KW,J5,HP,HP]
theorem V7(hw:W4 w)(k d:Ae)(y:R3):q4 w k (AB d y)=d*d*q4 w k y:=by
 rcases hw with rfl|rfl|rfl|rfl<;>(unfold q4 AB;simp only;grind)
theorem vY(hw:W4 w)(h:CgR p y y'):Cg p (q4 w k y) (q4 w k y'):=by
 rcases hw with rfl|rfl|rfl|rfl
 ·exact(h.1.mul h.2.2).sub (h.2.1.mul h.2.1)
 ·exact h.1.mul h.1
 ·exact h.1.mul h.2.1
 ·exact(h.1.mul h.1).sub (Cg.rfl.mul (h.2.1.mul h.2.1))
theorem vX(hw:W4 w)(hp:P4 p)(h:Pr p y y'):(q4 w k y%p=0)↔(q4 w k y'%p=0):=by
 obtain⟨d,dz,e⟩:=h;have q:=(vY (k:=k) hw e).trans (Cg.of (V7 hw k d y'));rw[show q4 w k y%p=_ from q]
 exact E7 hp (BJ hp dz dz)
theorem QN(hw:W4 w){a b c x:R3}(hp:P4 p)(z:Aj a b c%p≠0)(h:PrC p C (E4 w k a b c))(hx:NF p x):(vI C x%p=0)↔(q4 w k (nrm p (ap a b c x))%p=0):=by
 rw[vX hw hp (Hh hp z hx).2,<-RE hw];obtain⟨d,dz,e⟩:=h;have q:=(Iy e CgR.rfl (x:=x)).trans (Cg.of (J5 d _ x));rw[show vI C x%p=_ from q]
 exact E7 hp dz
noncomputable def G5(p:Ae)(w:Ag):Ag:=match w with
  |0=>(p+1).toNat
  |1=>(p+1).toNat
  |2=>(2*p+1).toNat
  |_=>1
theorem Zr(hp:P4 p)(hw:W4 w):((C7 p).filter fun y=>decide (q4 w (Cp p) y%p=0)).length=G5 p w:=by
 rcases hp with rfl|rfl|rfl|rfl<;>rcases hw with rfl|rfl|rfl|rfl<;>decide +kernel
noncomputable def Bh(p:Ae)(C:C6):Ac R3:=(C7 p).filter fun x=>decide (vI C x%p=0)
theorem JZ(hw:W4 w){a b c:R3}(hp:P4 p)(z:Aj a b c%p≠0)(h:PrC p C (E4 w (Cp p) a b c)):(Bh p C).length=G5 p w:=by
 rw[<-Zr hp hw,<-kW hp z];unfold Bh
 congr 1
 refine FS fun x hx=>?_
 rw[Ey];exact QN hw hp z h ((ED hp).mp hx)
noncomputable def no3(p:Ae)(l:Ac R3):Ao:=l.all fun x=>l.all fun y=>l.all fun u=>decide (x=y)||decide (x=u)||decide (y=u)||decide (Aj x y u%p≠0)
theorem sS(hp:P4 p):no3 p ((C7 p).filter fun y=>decide (q4 0 (Cp p) y%p=0))=Aa:=by
 rcases hp with rfl|rfl|rfl|rfl<;>decide +kernel
theorem iB{a b c:R3}(hp:P4 p)(z:Aj a b c%p≠0)(h:PrC p C (E4 0 (Cp p) a b c)){u:R3}(hx:x∈Bh p C)(hy:y∈Bh p C)(hu:u∈Bh p C)(n1:x≠y)(n2:x≠u)(n3:y≠u):Aj x y u%p≠0:=by
 have hw:W4 0:=.inl rfl;have led:∀{x:R3},x∈Bh p C->NF p x/\nrm p (ap a b c x)∈((C7 p).filter fun y=>decide (q4 0 (Cp p) y%p=0))/\Pr p (nrm p (ap a b c x)) (ap a b c x):=fun {x} hx=>by
  obtain⟨h1,h2⟩:=AO.mp hx;have nx:=(ED hp).mp h1;obtain⟨s1,s2⟩:=Hh hp z nx;refine⟨nx,AO.mpr ⟨(ED hp).mpr s1,?_⟩,s2⟩;rw[AJ]at h2 ⊢;exact(QN hw hp z h nx).mp h2
 obtain⟨nx,mx,px⟩:=led hx;obtain⟨ny,my,py⟩:=led hy;obtain⟨nu,mu,pu⟩:=led hu;have inj:∀{x y:R3},NF p x->NF p y->x≠y->nrm p (ap a b c x)≠nrm p (ap a b c y):=fun {x y} hx hy ne e=>ne (by rw[<-LW hp z hx,<-LW hp z hy,e])
 have all:=sS hp;unfold no3 at all;rw[C8]at all;have a1:=all _ mx;rw[C8]at a1;have a2:=a1 _ my;rw[C8]at a2;have a3:=a2 _ mu;simp only[Dl,AJ]at a3;rcases a3 with ((e|e)|e)|e
 ·exact absurd e (inj nx ny n1)
 ·exact absurd e (inj nx nu n2)
 ·exact absurd e (inj ny nu n3)
 ·intro z0;obtain⟨d1,_,g1⟩:=px;obtain⟨d2,_,g2⟩:=py;obtain⟨d3,_,g3⟩:=pu;have q:=KN g1 g2 g3;refine e ?_;rw[show Aj _ _ _%p=_ from q,A2,A2 (Aj a b c),z0,Dm,A7,Dm,A7]
theorem sP(hw:W4 w)(k:Ae)(a b c:R3):Aj (tw0 (E4 w k a b c)) (tw1 (E4 w k a b c)) (tw2 (E4 w k a b c))=if w=0 then 2*(Aj a b c*Aj a b c) else 0:=by
 rcases hw with rfl|rfl|rfl|rfl
 ·exact cI a b c
 ·unfold E4 tw0 tw1 tw2 prd Aj det;simp only;grind
 ·unfold E4 tw0 tw1 tw2 prd Aj det;simp only;grind
 ·unfold E4 tw0 tw1 tw2 prd FK scC Aj det;simp only;grind
theorem Me(hw:W4 w){a b c:R3}(hp:P4 p)(z:Aj a b c%p≠0)(h:PrC p C (E4 w k a b c)):(Aj (tw0 C) (tw1 C) (tw2 C)%p≠0)↔w=0:=by
 obtain⟨d,dz,cg⟩:=h;obtain⟨x0,x1,x2⟩:=Mu cg;have e:=(Ir x0 x1 x2).trans (Cg.of ((UX d _).trans (by rw[sP hw])))
 rw[show Aj (tw0 C) (tw1 C) (tw2 C)%p=_ from e]
 by_cases h0:w=0
 ·rw[Ay h0];exact⟨fun _=>h0,fun _=>BJ hp (nz3 hp dz dz dz) (BJ hp hp.two (BJ hp z z))⟩
 ·rw[AH h0,Dm,A7];exact⟨fun n=>absurd rfl n,fun e=>absurd e h0⟩
theorem lQ(hw:W4 w){a b c:R3}(hp:P4 p)(z:Aj a b c%p≠0):∃ l,AY p (E4 w k a b c).l=Ab l:=by
 cases el:AY p (E4 w k a b c).l with
 |some l=>exact⟨l,rfl⟩
 |none=>
  have hz:=JV.mp el;have kk:∀ x∈(E4 w k a b c).l,Cg p x (0*x):=fun x hx=>by show x%p=0*x%p;rw[hz x hx,EV,A7]
  have e0:CgC p (E4 w k a b c) (scC 0 (E4 w k a b c)):=⟨kk _ (by simp[C6.l]),kk _ (by simp[C6.l]),kk _ (by simp[C6.l]),kk _ (by simp[C6.l]),kk _ (by simp[C6.l]),kk _ (by simp[C6.l])⟩
  have zero:∀ x:R3,vI (E4 w k a b c) x%p=0:=fun x=>by
   rw[show vI (E4 w k a b c) x%p=_ from Iy e0 CgR.rfl,J5,EV,A7]
  obtain⟨y,hy⟩:∃ y:R3,q4 w k y=1:=by
   rcases hw with rfl|rfl|rfl|rfl
   ·exact⟨(1,0,1),rfl⟩
   ·exact⟨(1,0,0),rfl⟩
   ·exact⟨(1,1,0),rfl⟩
   ·exact⟨(1,0,0),by unfold q4;simp⟩
  have:=zero (ap (bk0 a b c) (bk1 a b c) (bk2 a b c) y);rw[RE hw,VN,V7 hw,hy,DN]at this;exact absurd this (BJ hp z z)
noncomputable def Cc(pts:Ac R3):D:=.lst (pts.map (Am Aa))
theorem LY{g:D->R Ao}{f:D->R D}{q:R3->Ao}:∀(xs:Ac R3),(∀ x∈xs,g (Am Aa x)=.ok (q x)/\f (Am Aa x)=.ok (Am Aa x))->BH g f (xs.map (Am Aa))=.ok ((xs.filter q).map (Am Aa))
 |[],_=>rfl
 |x::xs,h=>by
  obtain⟨h1,h2⟩:=h x (Ax ..);have ih:=LY xs fun y hy=>h y (Au _ hy)
  show (g (Am Aa x)).bind _=_;rw[h1,R.bind_ok,DI];cases hq:q x with
  |true=>
   rw[Ay rfl,Ay rfl,h2,R.bind_ok,show BH g f (Lv (Am Aa) xs)=_ from ih]
   rfl
  |false=>
   rw[AH (by decide),AH (by decide)]
   exact ih
noncomputable def ZN:Ss:=(.cons (.app 1 (.tup (.cons (.int 0) (.cons (.int 1) (.cons (.var 2) .nil))))) .nil)
noncomputable def ZO:E:=(.tup (.cons (.int 1) (.cons (.var 3) (.cons (.var 4) .nil))))
noncomputable def ZM:Ss:=(.cons (.ext 1 (.comp ZO 4 (.rng (.var 0)) Cn)) .nil)
noncomputable def Pb:Df:=⟨5,Aa,(.cons (.asg 1 Aa (.lst (.cons (.tup (.cons (.int 0) (.cons (.int 0) (.cons (.int 1) .nil)))) .nil))) (.cons (.fors 2 (.rng (.var 0)) ZN) (.cons (.fors 3 (.rng (.var 0)) ZM) (.cons (.ret (.var 1)) .nil))))⟩
def Wu(Γ:Gam):Prop:=∀ p:Ae,P4 p->Γ.F 69 [.int p]=.ok (Cc (C7 p))
theorem wW(Γ:Gam)(p:Ae)(hp:P4 p):Pb.run Γ [.int p]=.ok (Cc (C7 p)):=by
 rcases hp with rfl|rfl|rfl|rfl<;>kernel_rfl!
noncomputable def Oa:E:=(.cmp .Eq (.call 126 (.cons (.var 0) (.cons (.var 1) (.cons (.var 2) .nil)))) (.int 0))
noncomputable def Ob:E:=(.var 2)
noncomputable def MW:Df:=⟨3,Aa,(.cons (.ret (.comp Ob 2 (.e (.call 69 (.cons (.var 0) .nil))) Oa)) .nil)⟩
def Qb(Γ:Gam):Prop:=∀(p:Ae)(C:C6),P4 p->InC p C->Γ.F 128 [.int p,A6 C]=.ok (Cc (Bh p C))
theorem jK(ht:Wu Γ)(hv:Qa Γ)(p:Ae)(C:C6)(hp:P4 p)(iC:InC p C):MW.run Γ [.int p,A6 C]=.ok (Cc (Bh p C)):=by
 have e1:=ht p hp;have cp:BH (cG Γ [si p,sh (A6 C),Af] 2 Oa) (cF Γ [si p,sh (A6 C),Af] 2 Ob) ((C7 p).map (Am Aa))=.ok ((Bh p C).map (Am Aa)):=by
  refine LY (C7 p) fun x hx=>⟨?_,?_⟩
  ·have e:=hv p C x hp iC ((ED hp).mp hx).1;generalize vI C x%p=v at *;simp[cG,Oa,e];rw[Cv];simp
  ·simp[cF,Ob]
 have sq:Co (Cc (C7 p))=.ok ((C7 p).map (Am Aa)):=rfl;generalize C7 p=A at *;generalize Cc A=AA at *;simp[MW,Df.run,BG,e1,sq,cp];rfl
def zS(Γ:Gam):Prop:=∀(p n:Ae),P4 p->0<=n->n<p*p+p+1->Γ.F 157 [.int p,.int n]=.ok (Am Aa (ptI p n))
theorem wY(Γ:Gam)(p n:Ae)(hp:P4 p)(h0:0<=n)(h1:n<p*p+p+1):LP.run Γ [.int p,.int n]=.ok (Am Aa (ptI p n)):=by
 have pp:DL p p=Aa:=HM (by have:=hp.lo;omega) (by have:=hp.hi;omega)
 have p0:=hp.pos;have ph:=hp.hi;have N0:0<p*p+p+1:=by have:=JO p0 p0;omega
 have hr:n%(p*p+p+1)=n:=AM h0 h1;have pb:p<1073741824:=by omega
 unfold ptI;by_cases z0:n=0
 ·rw[Ay z0];simp[LP,Df.run,BG,pp,N0,hr,z0];rfl
 ·rw[AH z0];by_cases z1:n<=p
  ·rw[Ay z1];simp[LP,Df.run,BG,pp,N0,hr,z0,z1];rfl
  ·rw[AH z1];simp[LP,Df.run,BG,pp,N0,hr,z0,z1,p0,pb];rfl
noncomputable def LN:E:=(.call 157 (.cons (.var 0) (.cons (.var 1) .nil)))
noncomputable def MN:Df:=⟨2,Ad,(.cons (.ret (.comp LN 1 (.rng (.bin .Add (.bin .Add (.bin .Mult (.var 0) (.var 0)) (.var 0)) (.int 1))) Cn)) .nil)⟩
def Wy(Γ:Gam):Prop:=∀ p:Ae,P4 p->Γ.F 164 [.int p]=.ok (Cc (C7 p))
theorem vR(h:zS Γ)(p:Ae)(hp:P4 p):MN.run Γ [.int p]=.ok (Cc (C7 p)):=by
 have pp:DL p p=Aa:=HM (by have:=hp.lo;omega) (by have:=hp.hi;omega)
 have N1:0<=p*p+p+1/\p*p+p+1<=1000:=by rcases hp with rfl|rfl|rfl|rfl<;>decide
 have rg:C5 0 (p*p+p+1)=.ok (Ch 0 (p*p+p+1-0).toNat):=Pk (by decide) (by decide) (by omega) (by omega)
 rw[Jk]at rg;have cp:BH (cG Γ [si p,Af] 1 Cn) (cF Γ [si p,Af] 1 LN) (Ch 0 (p*p+p+1).toNat)=.ok ((C7 p).map (Am Aa)):=by
  have key:∀ L:Ac Ag,(∀ k∈L,(k:Ae)<p*p+p+1)->BH (cG Γ [si p,Af] 1 Cn) (cF Γ [si p,Af] 1 LN) (L.map fun(k:Ag)=>D.int (0+(k:Ae)))=.ok ((L.map fun(n:Ag)=>ptI p n).map (Am Aa)):=fun L=>by
   induction L with
   |nil=>intro _;rfl
   |cons k L ih=>
    intro hL;have e:=h p k hp (by omega) (hL k Ax)
    have f:cF Γ [si p,Af] 1 LN (.int (0+(k:Ae)))=.ok (Am Aa (ptI p k)):=by
     rw[FA];simp[cF,LN,e]
    have ih':=ih fun m hm=>hL m (Au _ hm)
    show (R.ok Aa).bind _=_;rw[R.bind_ok,Ay rfl,f,R.bind_ok,show BH _ _ (Lv _ L)=_ from ih']
    rfl
  exact key _ fun k hk=>by have:=Dv.mp hk;omega
 generalize hN:p*p+p+1=N at *;generalize Ch 0 N.toNat=RL at *;have e1:p*p+p+1=N:=hN;simp[MN,Df.run,BG,pp,e1,rg,cp];rfl
def Ws(Γ:Gam):Prop:=∀(p:Ae)(C:C6),P4 p->InC p C->Γ.F 136 [.int p,A6 C]=.ok (.bl (decide (Aj (tw0 C) (tw1 C) (tw2 C)%p≠0)))
theorem wU(ht:KG Γ)(hm:KH Γ)(p:Ae)(C:C6)(hp:P4 p)(iC:InC p C):LZ.run Γ [.int p,A6 C]=.ok (.bl (decide (Aj (tw0 C) (tw1 C) (tw2 C)%p≠0))):=by
 obtain⟨h0,h1,h2⟩:=MA hp iC;have e1:=ht p C hp;have e2:=hm p Aa (t0 p C) (t1 p C) (t2 p C) hp.pos ((BX hp h0).b3 (by decide)) ((BX hp h1).b3 (by decide)) ((BX hp h2).b3 (by decide))
 have td:Aj (t0 p C) (t1 p C) (t2 p C)%p=Aj (tw0 C) (tw1 C) (tw2 C)%p:=let ⟨h0,h1,h2⟩:=MB p C;Ir h0 h1 h2
 rw[td]at e2;have k0:BQ (AX (t0 p C) (t1 p C) (t2 p C)) (.int 0)=.ok (Am Aa (t0 p C)):=rfl;have k1:BQ (AX (t0 p C) (t1 p C) (t2 p C)) (.int 1)=.ok (Am Aa (t1 p C)):=rfl;have k2:BQ (AX (t0 p C) (t1 p C) (t2 p C)) (.int 2)=.ok (Am Aa (t2 p C)):=rfl;generalize Aj (tw0 C) (tw1 C) (tw2 C)%p=d at *;simp[LZ,Df.run,BG,e1,e2,k0,k1,k2];rw[Cv];simp
def YS(Γ:Gam):Prop:=∀(p:Ae)(a b c:R3)(w:Ag),GoodR p a b c->W4 w->∃ C:C6,InC p C/\AY p C.l=Ab 1/\PrC p C (E4 w (Cp p) a b c)/\Γ.F 163 [.int p,GH a b c,.int w]=.ok (A6 C)
theorem od4(Γ:Gam)(RR ra rb rc:D)(s6:Sl)(hp:P4 p):evE Γ [si p,sh RR,si 3,sh ra,sh rb,sh rc,s6,Af,Af,Af,Af,Af,Af,Af] (.bi .min (.cons (.comp Sb 8 (.rng2 (.int 2) (.var 0)) R9) .nil))=.ok (.int (Cp p)):=by
 rcases hp with rfl|rfl|rfl|rfl<;>kernel_rfl!
theorem VF{Γ:Gam}{s0 s1 s2 s3 s4 s5 s6 s7 s8 s9 s10 s11:Sl}:∀ xs ys:Ac Ae,BH (cGT Γ [s0,s1,s2,s3,s4,s5,s6,s7,s8,s9,s10,s11,Af,Af] [12,13] Cn) (cFT Γ [s0,s1,s2,s3,s4,s5,s6,s7,s8,s9,s10,s11,Af,Af] [12,13] Sa) (EG (ds xs) (ds ys))=.ok (ds (Ep (fun x y=>x-y) xs ys))
 |[],_=>rfl
 |_::_,[]=>rfl
 |x::xs,y::ys=>by
  have ih:=VF (Γ:=Γ) (s0:=s0) (s1:=s1) (s2:=s2) (s3:=s3) (s4:=s4) (s5:=s5) (s6:=s6) (s7:=s7) (s8:=s8) (s9:=s9) (s10:=s10) (s11:=s11) xs ys;show BH _ _ (.tup [.int x,.int y]::EG (ds xs) (ds ys))=.ok (.int (x-y)::ds (Ep (fun x y=>x-y) xs ys))
  rw[BH,ih];rfl
theorem UZ{Γ:Gam}{o:Ae}{s0 s1 s2 s3 s4 s5 s6 s8 s9:Sl}(ob:∀ y,DL o y=Aa):∀ xs ys:Ac Ae,BH (cGT Γ [s0,s1,s2,s3,s4,s5,s6,si o,s8,s9,Af,Af,Af,Af] [10,11] Cn) (cFT Γ [s0,s1,s2,s3,s4,s5,s6,si o,s8,s9,Af,Af,Af,Af] [10,11] MJ) (EG (ds xs) (ds ys))=.ok (ds (Ep (fun x y=>x-o*y) xs ys))
 |[],_=>rfl
 |_::_,[]=>rfl
 |x::xs,y::ys=>by
  have ih:=UZ (Γ:=Γ) (s0:=s0) (s1:=s1) (s2:=s2) (s3:=s3) (s4:=s4) (s5:=s5) (s6:=s6) (s8:=s8) (s9:=s9) ob xs ys;have f:cFT Γ [s0,s1,s2,s3,s4,s5,s6,si o,s8,s9,Af,Af,Af,Af] [10,11] MJ (.tup [.int x,.int y])=.ok (.int (x-o*y)):=by
   simp[cFT,MJ,ob]
  show BH _ _ (.tup [.int x,.int y]::EG (ds xs) (ds ys))=.ok (.int (x-o*y)::ds (Ep (fun x y=>x-o*y) xs ys))
  rw[BH,ih,f];rfl
theorem xC(hf:Qd Γ)(hd:tY Γ)(p:Ae)(a b c:R3)(w:Ag)(g:GoodR p a b c)(hw:W4 w):∃ C:C6,InC p C/\AY p C.l=Ab 1/\PrC p C (E4 w (Cp p) a b c)/\Ky.run Γ [.int p,GH a b c,.int w]=.ok (A6 C):=by
 have hp:=g.p4;obtain⟨l,el⟩:=lQ hw (k:=Cp p) hp g.nz;obtain⟨t,C,it,eD,iC,lC,pC⟩:=Wn hp el;have e3:=hf p Ad _ l t hp el it;rw[eD]at e3;refine⟨C,iC,lC,pC,?_⟩
 clear pC lC iC eD it el
 have eaa:=hd p a a hp g.ia g.ia;have eab:=hd p a b hp g.ia g.ib;have eac:=hd p a c hp g.ia g.ic;have ebb:=hd p b b hp g.ib g.ib;have as:∀ ρ:Rho,Hm [3,4,5] (GH a b c) ρ=.ok (((ρ.set 3 (sh (Bv a))).set 4 (sh (Bv b))).set 5 (sh (Bv c))):=fun _=>rfl
 rcases hw with rfl|rfl|rfl|rfl
 ·have e3':Γ.F 158 [.int p,.lst (ds (Ep (fun x y=>x-y) (prd a c).l (prd b b).l))]=.ok (A6 C):=e3
  have e1':Γ.F 160 [Bv a,Bv c]=.ok (.lst (ds (prd a c).l)):=eac;have e2':Γ.F 160 [Bv b,Bv b]=.ok (.lst (ds (prd b b).l)):=ebb;have cp:=fun(s0 s1 s2 s3 s4 s5 s6 s7 s8 s9 s10 s11:Sl)=>VF (Γ:=Γ) (s0:=s0) (s1:=s1) (s2:=s2) (s3:=s3) (s4:=s4) (s5:=s5) (s6:=s6) (s7:=s7) (s8:=s8) (s9:=s9) (s10:=s10) (s11:=s11) (prd a c).l (prd b b).l
  generalize ds (Ep (fun x y=>x-y) (prd a c).l (prd b b).l)=LC at *
  generalize ds (prd a c).l=LA at *;generalize ds (prd b b).l=LB at *;generalize Bv a=ra at *;generalize Bv b=rb at *;generalize Bv c=rc at *;generalize GH a b c=RR at *;simp[Ky,Df.run,BG,as,e1',e2',cp,e3']
 ·have e3':Γ.F 158 [.int p,.lst (ds (prd a a).l)]=.ok (A6 C):=e3;generalize D.lst (ds (prd a a).l)=A at *;simp[Ky,Df.run,BG,as,eaa,e3']
 ·have e3':Γ.F 158 [.int p,.lst (ds (prd a b).l)]=.ok (A6 C):=e3;generalize D.lst (ds (prd a b).l)=A at *;simp[Ky,Df.run,BG,as,eab,e3']
 ·have ob:∀ y,DL (Cp p) y=Aa:=fun y=>by rcases hp with rfl|rfl|rfl|rfl<;>exact HM (by decide) (by decide)
  have e3':Γ.F 158 [.int p,.lst (ds (Ep (fun x y=>x-Cp p*y) (prd a a).l (prd b b).l))]=.ok (A6 C):=e3
  have e1':Γ.F 160 [Bv a,Bv a]=.ok (.lst (ds (prd a a).l)):=eaa;have e2':Γ.F 160 [Bv b,Bv b]=.ok (.lst (ds (prd b b).l)):=ebb;have od:=fun(RR ra rb rc:D)(s6:Sl)=>od4 Γ RR ra rb rc s6 hp
  have cp:=fun(s0 s1 s2 s3 s4 s5 s6 s8 s9:Sl)=>UZ (Γ:=Γ) (s0:=s0) (s1:=s1) (s2:=s2) (s3:=s3) (s4:=s4) (s5:=s5) (s6:=s6) (s8:=s8) (s9:=s9) ob (prd a a).l (prd b b).l
  generalize Cp p=o at *;generalize ds (Ep (fun x y=>x-o*y) (prd a a).l (prd b b).l)=LC at *
  generalize ds (prd a a).l=LA at *;generalize ds (prd b b).l=LB at *;generalize Bv a=ra at *;generalize Bv b=rb at *;generalize Bv c=rc at *;generalize GH a b c=RR at *;simp[-NA,Ky,Df.run,BG,as,e1',e2',od,cp,e3']
def Ww(Γ:Gam):Prop:=∀(p:Ae)(a b:R3),P4 p->In3 p a->In3 p b->Γ.F 161 [Am Aa a,Am Aa b]=.ok (Bv (crs a b))
theorem xB(Γ:Gam)(p:Ae)(a b:R3)(hp:P4 p)(ia:In3 p a)(ib:In3 p b):OY.run Γ [Am Aa a,Am Aa b]=.ok (Bv (crs a b)):=by
 have ba:=BX hp ia;have bb:=BX hp ib;have k:∀ {u v},Bd 10 u->Bd 10 v->E8 u v=Aa:=fun hu hv=>GZ hu hv (by decide) (by decide)
 obtain⟨a0,a1,a2⟩:=a;obtain⟨b0,b1,b2⟩:=b;have ea:∀(x y z:Ae)(i j k:Ag)(ρ:Rho),Hm [i,j,k] (Am Aa (x,y,z)) ρ=.ok (((ρ.set i (si x)).set j (si y)).set k (si z)):=fun _ _ _ _ _ _ _=>rfl
 simp[OY,Df.run,BG,ea,k ba.2.1 bb.2.2,k ba.2.2 bb.2.1,k ba.2.2 bb.1,k ba.1 bb.2.2,k ba.1 bb.2.1,k ba.2.1 bb.1];rfl
noncomputable def Oi:Df:=⟨7,Ad,(.cons (.asgT [4,5,6] (.call 161 (.cons (.var 1) (.cons (.var 2) .nil)))) (.cons (.ret (.bin .Mod (.bin .Add (.bin .Add (.bin .Mult (.var 4) (.idx (.var 3) (.int 0))) (.bin .Mult (.var 5) (.idx (.var 3) (.int 1)))) (.bin .Mult (.var 6) (.idx (.var 3) (.int 2)))) (.var 0))) .nil))⟩
def Wv(Γ:Gam):Prop:=∀(p:Ae)(a b c:R3),P4 p->In3 p a->In3 p b->In3 p c->Γ.F 165 [.int p,Am Aa a,Am Aa b,Am Aa c]=.ok (.int (Aj a b c%p))
theorem PY(a b c:R3):Aq (crs a b) c=Aj a b c:=by
 unfold Aq crs Aj det;grind
theorem xA(h:Ww Γ)(p:Ae)(a b c:R3)(hp:P4 p)(ia:In3 p a)(ib:In3 p b)(ic:In3 p c):Oi.run Γ [.int p,Am Aa a,Am Aa b,Am Aa c]=.ok (.int (Aj a b c%p)):=by
 have e1:=h p a b hp ia ib;have bc:=BX hp ic;have bx:=J7 (BX hp ia) (BX hp ib);have k:∀ {u v},Bd 21 u->Bd 10 v->E8 u v=Aa:=fun hu hv=>GZ hu hv (by decide) (by decide)
 have k0:=k bx.1 bc.1;have k1:=k bx.2.1 bc.2.1;have k2:=k bx.2.2 bc.2.2;have p0:=hp.pos;obtain⟨x0,x1,x2⟩:=GX Aa c;rw[<-PY];unfold Aq;generalize crs a b=w at *;obtain⟨w0,w1,w2⟩:=w;have ea:∀ ρ:Rho,Hm [4,5,6] (Bv (w0,w1,w2)) ρ=.ok (((ρ.set 4 (si w0)).set 5 (si w1)).set 6 (si w2)):=fun _=>rfl
 generalize Bv (w0,w1,w2)=ww at *;simp[Oi,Df.run,BG,e1,ea,x0,x1,x2,k0,k1,k2,p0]
theorem K4{pts:Ac R3}{i:Ag}(h:pts[i]?=Ab x):BQ (Cc pts) (.int (i:Ae))=.ok (Am Aa x):=by
 show DE (pts.map (Am Aa)) (i:Ae)=_;refine Nf (by omega) ?_
 have hi:i<pts.length:=(Ba.mp h).1;rw[Hr,D7,h];rfl
section
variable{Γ:Gam}{p i j k d N:Ae}{PP x y u:D}{RL:Ac D}{s t s' t' v:Sl}
end
section
variable{Γ:Gam}{p:Ae}{pts:Ac R3}
end
theorem Vn(x:R3):Am Aa x=tI (tri x):=by
 unfold Am Dr;rw[Ay rfl];rfl
theorem Sk[DecidableEq α]{l:Ac α}{q:α->Ao}{y:α}(nd:l.Nodup)(hy:y∈l)(h:∀ x∈l,q x=Aa↔x=y):l.filter q=[y]:=by
 have hm:∀ x,x∈l.filter q↔x∈[y]:=fun x=>by
  rw[AO,BA];constructor
  ·rintro⟨h1,h2⟩;exact(h x h1).mp h2
  ·rintro rfl;exact⟨hy,(h x hy).mpr rfl⟩
 exact List.perm_singleton.mp (S5 (nd.filter _) (by simp) hm)
theorem kT(u v x:R3):crs (crs u v) x=(v.1*Aq u x-u.1*Aq v x,v.2.1*Aq u x-u.2.1*Aq v x,v.2.2*Aq u x-u.2.2*Aq v x):=by
 unfold crs Aq;simp only;refine Bp ?_ (Bp ?_ ?_)<;>(simp only;grind)
theorem VG(k l:Ae)(a b:R3):crs (AB k a) (AB l b)=AB (k*l) (crs a b):=by
 unfold crs AB;simp only;refine Bp ?_ (Bp ?_ ?_)<;>(simp only;grind)
theorem Pr.crs{a b a' b':R3}(hp:P4 p)(h:Pr p a a')(g:Pr p b b'):Pr p (OvC.crs a b) (OvC.crs a' b'):=by
 obtain⟨d,dz,e⟩:=h;obtain⟨d',dz',e'⟩:=g;exact⟨d*d',BJ hp dz dz',(Mg e e').trans (CgR.of (VG ..))⟩
theorem TX{u v:R3}(hp:P4 p)(hy:NF p y)(hx:NF p x)(py:Pr p y (crs u v))(h1:Aq u x%p=0)(h2:Aq v x%p=0):x=y:=by
 refine K0 hp hx hy (T8 hp ?_ hy.2 hx.2);obtain⟨d,dz,e⟩:=py;have c1:Cg p (Aq u x) 0:=by show _%p=0%p;rw[h1,A7]
 have c2:Cg p (Aq v x) 0:=by show _%p=0%p;rw[h2,A7]
 have key:∀ s t:Ae,Cg p (d*(s*Aq u x-t*Aq v x)) 0:=fun s t=>((Cg.rfl (a:=d)).mul (((Cg.rfl (a:=s)).mul c1).sub ((Cg.rfl (a:=t)).mul c2))).trans (Cg.of (by simp))
 refine(Mg e CgR.rfl).trans ?_;have e2:crs (AB d (crs u v)) x=AB d (crs (crs u v) x):=by
  have:=VG d 1 (crs u v) x
  rwa [show AB 1 x=x by unfold AB;simp,DN]at this
 rw[e2,kT];exact⟨key _ _,key _ _,key _ _⟩
theorem SN(a b:R3):Aq a b=Aq b a:=by
 unfold Aq;grind
noncomputable def Qy:Df:=⟨3,Ad,(.cons (.ret (.cmp .Eq (.call 1 (.cons (.var 0) (.cons (.bin .Add (.bin .Add (.bin .Mult (.idx (.var 1) (.int 0)) (.idx (.var 2) (.int 0))) (.bin .Mult (.idx (.var 1) (.int 1)) (.idx (.var 2) (.int 1)))) (.bin .Mult (.idx (.var 1) (.int 2)) (.idx (.var 2) (.int 2)))) .nil))) (.int 0))) .nil)⟩
def uA(Γ:Gam):Prop:=∀(p:Ae)(x y:R3),P4 p->In3 p x->In3 p y->Γ.F 24 [.int p,Am Aa x,Am Aa y]=.ok (.bl (decide (Aq x y%p=0)))
theorem rJ(hr:Ix Γ)(p:Ae)(x y:R3)(hp:P4 p)(ix:In3 p x)(iy:In3 p y):Qy.run Γ [.int p,Am Aa x,Am Aa y]=.ok (.bl (decide (Aq x y%p=0))):=by
 have p0:=hp.pos;have bx:=BX hp ix;have by_:=BX hp iy;have k:∀ {u v},Bd 10 u->Bd 10 v->E8 u v=Aa:=fun hu hv=>GZ hu hv (by decide) (by decide)
 have k0:=k bx.1 by_.1;have k1:=k bx.2.1 by_.2.1;have k2:=k bx.2.2 by_.2.2;obtain⟨x0,x1,x2⟩:=GX Aa x;obtain⟨y0,y1,y2⟩:=GX Aa y;have e:=hr p (Aq x y) p0;unfold Aq at *;generalize x.1=a0 at *;generalize x.2.1=a1 at *;generalize x.2.2=a2 at *;generalize y.1=b0 at *;generalize y.2.1=b1 at *;generalize y.2.2=b2 at *;generalize Am Aa x=xx at *;generalize Am Aa y=yy at *;generalize hs:(a0*b0+a1*b1+a2*b2)%p=s at *;simp[Qy,Df.run,BG,x0,x1,x2,y0,y1,y2,k0,k1,k2,e];rw[Cv];simp
noncomputable def Rn:Df:=⟨3,Ad,(.cons (.ret (.call 24 (.cons (.var 0) (.cons (.var 1) (.cons (.var 2) .nil))))) .nil)⟩
def VP(Γ:Gam):Prop:=∀(p:Ae)(x y:R3),P4 p->In3 p x->In3 p y->Γ.F 56 [.int p,Am Aa x,Am Aa y]=.ok (.bl (decide (Aq x y%p=0)))
theorem rE(h:uA Γ)(p:Ae)(x y:R3)(hp:P4 p)(ix:In3 p x)(iy:In3 p y):Rn.run Γ [.int p,Am Aa x,Am Aa y]=.ok (.bl (decide (Aq x y%p=0))):=by
 have e:=h p x y hp ix iy;generalize Am Aa x=xx at *;generalize Am Aa y=yy at *;simp[Rn,Df.run,BG,e]
noncomputable def ptL(p:Ae)(l:R3):Ac R3:=(C7 p).filter fun x=>decide (Aq x l%p=0)
theorem Mb(h:J3 Γ){a b:R3}(hp:P4 p)(ha:NF p a)(hb:NF p b)(ne:a≠b):∃ y,NF p y/\Pr p y (crs a b)/\Γ.F 57 [.int p,Am Aa a,Am Aa b]=.ok (Am Aa y):=by
 obtain⟨y,h1,h2,h3,e⟩:=h p a b hp ha.1 hb.1 ha.2 hb.2 ne;exact⟨y,⟨h1,h2⟩,h3,e⟩
theorem PB{a b x l:R3}(hp:P4 p)(pl:Pr p l (crs a b)):Aq x l%p=0↔Aj a b x%p=0:=by
 rw[SN,NL hp pl (Pr.rfl hp (x:=x)),PY]
theorem UY(a b:R3):Aj a b a=0/\Aj a b b=0:=by
 unfold Aj det;constructor<;>grind
noncomputable def pol(p:Ae)(C:C6)(x:R3):R3:=nrm p (ap (tw0 C) (tw1 C) (tw2 C) x)
noncomputable abbrev Whl(p:Ae)(C:C6):Prop:=Aj (tw0 C) (tw1 C) (tw2 C)%p≠0
theorem dH(hp:P4 p)(z:Whl p C)(hx:NF p x):NF p (pol p C x)/\Pr p (pol p C x) (ap (tw0 C) (tw1 C) (tw2 C) x):=Hh hp z hx
theorem Ja(hp:P4 p)(z:Whl p C)(hx:NF p x):Aq y (pol p C x)%p=0↔bI C x y%p=0:=by
 rw[SN,NL hp (dH hp z hx).2 (Pr.rfl hp (x:=y))];exact Iff.rfl
noncomputable def b4(u v:R3):Ae:=u.1*v.2.2+u.2.2*v.1-2*(u.2.1*v.2.1)
theorem aj(k:Ae)(a b c x y:R3):bI (E4 0 k a b c) x y=b4 (ap a b c x) (ap a b c y):=by
 unfold bI E4 b4 ap Aq tw0 tw1 tw2 FK prd;simp only;grind
theorem uP(d:Ae)(C:C6)(x y:R3):bI (scC d C) x y=d*bI C x y:=by
 unfold bI ap Aq tw0 tw1 tw2 scC;simp only;grind
theorem uR{C E:C6}(hp:P4 p)(h:PrC p C E)(x y:R3):bI C x y%p=0↔bI E x y%p=0:=by
 obtain⟨d,dz,e⟩:=h;obtain⟨x0,x1,x2⟩:=Mu e;have q:Cg p (bI C x y) (bI (scC d E) x y):=EF ⟨EF x0 CgR.rfl,EF x1 CgR.rfl,EF x2 CgR.rfl⟩ CgR.rfl;rw[show bI C x y%p=_ from q,uP]
 exact E7 hp dz
theorem ak{u v u' v':R3}(hp:P4 p)(h:Pr p u u')(g:Pr p v v'):b4 u v%p=0↔b4 u' v'%p=0:=by
 obtain⟨d,dz,e⟩:=h;obtain⟨d',dz',e'⟩:=g;have q:Cg p (b4 u v) (b4 (AB d u') (AB d' v')):=((e.1.mul e'.2.2).add (e.2.2.mul e'.1)).sub (Cg.rfl.mul (e.2.1.mul e'.2.1));have q2:b4 (AB d u') (AB d' v')=d*d'*b4 u' v':=by
  unfold b4 AB;simp only;grind
 rw[show b4 u v%p=_ from q,q2]
 exact E7 hp (BJ hp dz dz')
theorem sT(hp:P4 p):(((C7 p).filter fun y=>decide (q4 0 (Cp p) y%p=0)).all fun u=>((C7 p).filter fun y=>decide (q4 0 (Cp p) y%p=0)).all fun v=>decide (b4 u v%p=0)==decide (u=v))=Aa:=by
 rcases hp with rfl|rfl|rfl|rfl<;>decide +kernel
theorem VT{a b c:R3}(hp:P4 p)(z:Aj a b c%p≠0)(h:PrC p C (E4 0 (Cp p) a b c))(hx:x∈Bh p C)(hy:y∈Bh p C):bI C x y%p=0↔x=y:=by
 have hw:W4 0:=.inl rfl;have led:∀{x:R3},x∈Bh p C->NF p x/\nrm p (ap a b c x)∈((C7 p).filter fun y=>decide (q4 0 (Cp p) y%p=0))/\Pr p (nrm p (ap a b c x)) (ap a b c x):=fun {x} hx=>by
  obtain⟨h1,h2⟩:=AO.mp hx;have nx:=(ED hp).mp h1;obtain⟨s1,s2⟩:=Hh hp z nx;refine⟨nx,AO.mpr ⟨(ED hp).mpr s1,?_⟩,s2⟩;rw[AJ]at h2 ⊢;exact(QN hw hp z h nx).mp h2
 obtain⟨nx,mx,px⟩:=led hx;obtain⟨ny,my,py⟩:=led hy;have all:=sT hp;rw[C8]at all;have a1:=all _ mx;rw[C8]at a1;have a2:=a1 _ my;rw[BS,Ey]at a2;rw[uR hp h,aj,<-ak hp px py,a2];constructor
 ·intro e;rw[<-LW hp z nx,<-LW hp z ny,e]
 ·intro e;rw[e]
noncomputable def Kc(p:Ae)(C:C6)(l:R3):Ac R3:=(ptL p l).filter fun x=>decide (vI C x%p=0)
section
variable{p:Ae}{a b c:R3}{C:C6}
theorem PH(hp:P4 p)(z:Aj a b c%p≠0)(w:Whl p C)(h:PrC p C (E4 0 (Cp p) a b c))(hx:x∈Bh p C):Kc p C (pol p C x)=[x]:=by
 obtain⟨h1,h2⟩:=AO.mp hx;have nx:=(ED hp).mp h1;have xl:x∈ptL p (pol p C x):=AO.mpr ⟨h1,Eo ((Ja hp w nx).mpr ((VT hp z h hx hx).mpr rfl))⟩;refine Sk ((LV hp).filter _) xl fun y hy=>?_
 obtain⟨g1,g2⟩:=AO.mp hy;rw[AJ]at g2;constructor
 ·intro v;exact((VT hp z h hx (AO.mpr ⟨g1,v⟩)).mp ((Ja hp w nx).mp g2)).symm
 ·intro e;rw[e];exact h2
end
noncomputable def sides:D:=.tup [.str (AQ "inner"),.str (AQ "on"),.str (AQ "outer")]
theorem Mt(C:C6)(a b c x:R3):vI (pb C a b c) x=vI C (ap a b c x):=by
 have e:ap a b c x=(x.1*(Bq a b c).1+x.2.1*(Bm a b c).1+x.2.2*(Bl a b c).1,x.1*(Bq a b c).2.1+x.2.1*(Bm a b c).2.1+x.2.2*(Bl a b c).2.1,x.1*(Bq a b c).2.2+x.2.1*(Bm a b c).2.2+x.2.2*(Bl a b c).2.2):=by
  unfold ap Aq Bq Bm Bl;simp only;refine Bp ?_ (Bp ?_ ?_)<;>(simp only;grind)
 rw[e,Qg];have e2:∀(u0 u1 u2 u3 u4 u5:Ae),vI ⟨u0,u1,u2,u3,u4,u5⟩ x=x.1*x.1*u0+x.2.1*x.2.1*u1+x.2.2*x.2.2*u2+(x.1*x.2.1*u3+x.1*x.2.2*u4+x.2.1*x.2.2*u5):=fun u0 u1 u2 u3 u4 u5=>by
  unfold vI;simp only;grind
 exact e2 ..
theorem Qh(C:C6)(k:Ae)(x:R3):vI C (AB k x)=k*k*vI C x:=by
 unfold vI AB;simp only;grind
theorem NM(hp:P4 p)(h:Pr p x y):vI C x%p=0↔vI C y%p=0:=by
 obtain⟨d,dz,e⟩:=h;have q:=(Iy (D:=C) ⟨Cg.rfl,Cg.rfl,Cg.rfl,Cg.rfl,Cg.rfl,Cg.rfl⟩ e).trans (Cg.of (Qh C d y));rw[show vI C x%p=_ from q]
 exact E7 hp (BJ hp dz dz)
section
variable{p:Ae}{a b c:R3}{C:C6}
theorem No{l x:R3}(hp:P4 p):x∈Kc p C l↔x∈Bh p C/\Aq x l%p=0:=by
 unfold Kc ptL Bh;rw[AO,AO,AO,AJ,AJ];exact⟨fun h=>⟨⟨h.1.1,h.2⟩,h.1.2⟩,fun h=>⟨⟨h.1.1,h.2⟩,h.1.2⟩⟩
end
noncomputable def pole(p:Ae)(C:C6)(l:R3):R3:=nrm p (ap (bk0 (tw0 C) (tw1 C) (tw2 C)) (bk1 (tw0 C) (tw1 C) (tw2 C)) (bk2 (tw0 C) (tw1 C) (tw2 C)) l)
def Qc(Γ:Gam):Prop:=∀(p:Ae)(C:C6)(x:R3),P4 p->InC p C->Whl p C->NF p x->Γ.F 149 [.int p,A6 C,Am Aa x]=.ok (Am Aa (pole p C x))
theorem iJ(hp:P4 p)(z:Whl p C)(hx:NF p x):NF p (pole p C x)/\pol p C (pole p C x)=x:=by
 have zB:Aj (bk0 (tw0 C) (tw1 C) (tw2 C)) (bk1 (tw0 C) (tw1 C) (tw2 C)) (bk2 (tw0 C) (tw1 C) (tw2 C))%p≠0:=by rw[HN];exact BJ hp z z
 exact⟨(Hh hp zB hx).1,Td hp z hx⟩
theorem yS(h:tZ Γ):Qc Γ:=fun p C x hp iC z nx=>by
 obtain⟨y,i,l,pr,e⟩:=h p C x hp iC z nx.1 nx.2;have zB:Aj (bk0 (tw0 C) (tw1 C) (tw2 C)) (bk1 (tw0 C) (tw1 C) (tw2 C)) (bk2 (tw0 C) (tw1 C) (tw2 C))%p≠0:=by rw[HN];exact BJ hp z z
 obtain⟨h1,h2⟩:=Hh hp zB nx;have q:y=pole p C x:=K0 hp ⟨i,l⟩ h1 (pr.trans hp (h2.symm hp));rw[<-q];exact e
structure FOn (p:Ae) (C:C6) (A B P U:R3):Prop where
 vA:vI C A%p=0
 vB:vI C B%p=0
 vU:vI C U%p=0
 bA:bI C A P%p=0
 bB:bI C B P%p=0
theorem VH(A B P x:R3):AB (Aj A B P) x=(Aj x B P*A.1+Aj A x P*B.1+Aj A B x*P.1,Aj x B P*A.2.1+Aj A x P*B.2.1+Aj A B x*P.2.1,Aj x B P*A.2.2+Aj A x P*B.2.2+Aj A B x*P.2.2):=by
 unfold AB Aj det;refine Bp ?_ (Bp ?_ ?_)<;>(simp only;grind)
section
variable{p:Ae}{C R:C6}{A B P U x:R3}
theorem cg0{k x:Ae}(h:x%p=0):Cg p (k*x) 0:=by
 show k*x%p=0%p;rw[A2,h,Dm]
theorem T4(h:FOn p C A B P U)(x:R3):Cg p (Aj A B P*Aj A B P*vI C x) (Aj A B x*Aj A B x*vI C P+Aj x B P*Aj A x P*bI C A B):=by
 have e:=Qg C A B P (Aj x B P) (Aj A x P) (Aj A B x);rw[<-VH,Qh]at e;rw[e];generalize Aj x B P=α;generalize Aj A x P=β;generalize Aj A B x=γ;have k1:Cg p (α*α*vI C A) 0:=cg0 h.vA;have k2:Cg p (β*β*vI C B) 0:=cg0 h.vB;have k3:Cg p (α*γ*bI C A P) 0:=cg0 h.bA;have k4:Cg p (β*γ*bI C B P) 0:=cg0 h.bB;refine(((k1.add k2).add Cg.rfl).add ((Cg.rfl.add k3).add k4)).trans (Cg.of ?_);grind
theorem QM(h:FOn p C A B P U)(x:R3):Cg p (Aj A B U*Aj A B U*(Aj A B P*Aj A B P*vI C x)) (bI C A B*(Aj A B U*Aj A B U*(Aj x B P*Aj A x P)-Aj A B x*Aj A B x*(Aj U B P*Aj A U P))):=by
 have e1:=T4 h x;have e2:=T4 h U;have e0:Cg p (Aj A B P*Aj A B P*vI C U) 0:=cg0 h.vU;have e3:Cg p (Aj A B U*Aj A B U*vI C P+Aj U B P*Aj A U P*bI C A B) 0:=e2.symm.trans e0;generalize Aj A B P=D at *;generalize Aj x B P=α at *;generalize Aj A x P=β at *;generalize Aj A B x=γ at *;generalize Aj U B P=α0 at *;generalize Aj A U P=β0 at *;generalize Aj A B U=γ0 at *;generalize bI C A B=b at *;generalize vI C P=v at *;generalize vI C x=vx at *;have e4:Cg p (γ0*γ0*(D*D*vx)) (γ0*γ0*(γ*γ*v+α*β*b)):=Cg.rfl.mul e1;have e5:Cg p (γ*γ*(γ0*γ0*v+α0*β0*b)) (γ*γ*0):=Cg.rfl.mul e3;refine e4.trans ?_;have e6:γ0*γ0*(γ*γ*v+α*β*b)=γ*γ*(γ0*γ0*v+α0*β0*b)+b*(γ0*γ0*(α*β)-γ*γ*(α0*β0)):=by grind
 rw[e6];refine(e5.add Cg.rfl).trans (Cg.of ?_);grind
theorem VI{k x y:Ae}(hp:P4 p)(kz:k%p≠0)(h:Cg p (k*x) (k*y)):Cg p x y:=by
 have e:k*(x-y)%p=0:=by
  have q:=h.sub (Cg.rfl (p:=p) (a:=k*y));have q2:(k*x-k*y)%p=(k*y-k*y)%p:=q;rw[WW,A7,<-WU]at q2;exact q2
 have z:=(E7 hp kz).mp e;have q3:=Cg.add (p:=p) (a:=x-y) (b:=0) (c:=y) (d:=y) (by show (x-y)%p=0%p;rw[z,A7]) Cg.rfl
 have q4:Cg p (x-y+y) (0+y):=q3;rw[WV,FA]at q4;exact q4
theorem mH(hp:P4 p)(d1:Aj A B P%p≠0)(d2:Aj A B U%p≠0)(hC:FOn p C A B P U)(hR:FOn p R A B P U)(x:R3):Cg p (bI C A B*vI R x) (bI R A B*vI C x):=by
 have e1:=QM hC x;have e2:=QM hR x;generalize (Aj A B U*Aj A B U*(Aj x B P*Aj A x P)-Aj A B x*Aj A B x*(Aj U B P*Aj A U P))=F at *;refine VI hp (k:=Aj A B U*Aj A B U*(Aj A B P*Aj A B P)) (BJ hp (BJ hp d2 d2) (BJ hp d1 d1)) ?_;generalize Aj A B U=γ at *;generalize Aj A B P=D at *;generalize bI C A B=b at *;generalize bI R A B=r at *;have f1:Cg p (b*(γ*γ*(D*D*vI R x))) (b*(r*F)):=Cg.rfl.mul e2;have f2:Cg p (r*(γ*γ*(D*D*vI C x))) (r*(b*F)):=Cg.rfl.mul e1;refine(Cg.of (by grind)).trans (f1.trans ((Cg.of (by grind:b*(r*F)=r*(b*F))).trans (f2.symm.trans (Cg.of (by grind)))))
theorem VJ{k l:Ae}(h:∀ x,Cg p (k*vI R x) (l*vI C x)):CgC p (scC k R) (scC l C):=by
 have a0:=h (1,0,0);have a1:=h (0,1,0);have a2:=h (0,0,1);have b0:=h (1,1,0);have b1:=h (1,0,1);have b2:=h (0,1,1);have v0:∀ E:C6,vI E (1,0,0)=E.c0:=fun E=>by unfold vI;simp
 have v1:∀ E:C6,vI E (0,1,0)=E.c1:=fun E=>by unfold vI;simp
 have v2:∀ E:C6,vI E (0,0,1)=E.c2:=fun E=>by unfold vI;simp
 have w0:∀ E:C6,vI E (1,1,0)=E.c0+E.c1+E.c3:=fun E=>by unfold vI;simp
 have w1:∀ E:C6,vI E (1,0,1)=E.c0+E.c2+E.c4:=fun E=>by unfold vI;simp
 have w2:∀ E:C6,vI E (0,1,1)=E.c1+E.c2+E.c5:=fun E=>by unfold vI;simp
 rw[v0,v0]at a0;rw[v1,v1]at a1;rw[v2,v2]at a2;rw[w0,w0]at b0;rw[w1,w1]at b1;rw[w2,w2]at b2;refine⟨a0,a1,a2,?_,?_,?_⟩
 ·have:=(b0.sub a0).sub a1;refine(Cg.of ?_).trans (this.trans (Cg.of ?_))<;>(unfold scC;simp only;grind)
 ·have:=(b1.sub a0).sub a2;refine(Cg.of ?_).trans (this.trans (Cg.of ?_))<;>(unfold scC;simp only;grind)
 ·have:=(b2.sub a1).sub a2;refine(Cg.of ?_).trans (this.trans (Cg.of ?_))<;>(unfold scC;simp only;grind)
theorem RP(hp:P4 p)(w:Whl p C)(d1:Aj A B P%p≠0)(d2:Aj A B U%p≠0)(hC:FOn p C A B P U):bI C A B%p≠0:=fun z=>by
 refine w ?_;have v0:∀ x,Cg p (1*vI C x) (0*vI C x):=fun x=>by
  rw[CC,EV];refine VI hp (k:=Aj A B U*Aj A B U*(Aj A B P*Aj A B P)) (BJ hp (BJ hp d2 d2) (BJ hp d1 d1)) ?_;have e1:=QM hC x;refine(Cg.of (by grind)).trans (e1.trans ?_)
  rw[Dm];show _%p=0%p;rw[A2,z,EV]
 have c:=VJ v0;rw[Md]at c;obtain⟨t0,t1,t2⟩:=Mu c;have e:=Ir t0 t1 t2;rw[UX]at e;show Aj (tw0 C) (tw1 C) (tw2 C)%p=0;rw[show Aj (tw0 C) (tw1 C) (tw2 C)%p=_ from e]
 simp
theorem dG(hp:P4 p)(wC:Whl p C)(wR:Whl p R)(d1:Aj A B P%p≠0)(d2:Aj A B U%p≠0)(hC:FOn p C A B P U)(hR:FOn p R A B P U):PrC p R C:=by
 have b1:=RP hp wC d1 d2 hC;have b2:=RP hp wR d1 d2 hR;obtain⟨u,uz,ue⟩:=QD hp b1;refine⟨u*bI R A B,BJ hp uz b2,?_⟩;have c:=VJ (mH hp d1 d2 hC hR);have e1:CgC p (scC u (scC (bI C A B) R)) (scC u (scC (bI R A B) C)):=CgC.sc Cg.rfl c;rw[Mk,Mk]at e1;have e2:CgC p (scC (u*bI C A B) R) (scC 1 R):=CgC.sc ue CgC.rfl;rw[Md]at e2;exact e2.symm.trans e1
end
section
variable{p:Ae}{C E:C6}{a b c A B P U A' B' P' U' x y:R3}
theorem WF(C:C6)(a b c x y:R3):bI (pb C a b c) x y=bI C (ap a b c x) (ap a b c y):=by
 have e:∀ u:R3,ap a b c u=(u.1*(Bq a b c).1+u.2.1*(Bm a b c).1+u.2.2*(Bl a b c).1,u.1*(Bq a b c).2.1+u.2.1*(Bm a b c).2.1+u.2.2*(Bl a b c).2.1,u.1*(Bq a b c).2.2+u.2.1*(Bm a b c).2.2+u.2.2*(Bl a b c).2.2):=fun u=>by
  unfold ap Aq Bq Bm Bl;simp only;refine Bp ?_ (Bp ?_ ?_)<;>(simp only;grind)
 rw[e x,e y,RQ];rfl
theorem uQ(C:C6)(k l:Ae)(x y:R3):bI C (AB k x) (AB l y)=k*l*bI C x y:=by
 unfold bI ap Aq AB;simp only;grind
theorem WE(hp:P4 p)(h:Pr p x x')(g:Pr p y y'):bI C x y%p=0↔bI C x' y'%p=0:=by
 obtain⟨d,dz,e⟩:=h;obtain⟨d',dz',e'⟩:=g;have q:=(NP (CgC.rfl (C:=C)) e e').trans (Cg.of (uQ C d d' x' y'));rw[show bI C x y%p=_ from q]
 exact E7 hp (BJ hp dz dz')
theorem sI(hp:P4 p)(h:FOn p E A' B' P' U')(hA:Pr p A' (ap a b c A))(hB:Pr p B' (ap a b c B))(hP:Pr p P' (ap a b c P))(hU:Pr p U' (ap a b c U)):FOn p (pb E a b c) A B P U:=
 ⟨by rw[Mt];exact(NM hp hA).mp h.vA,by rw[Mt];exact(NM hp hB).mp h.vB,by rw[Mt];exact(NM hp hU).mp h.vU,by rw[WF];exact(WE hp hA hP).mp h.bA,by rw[WF];exact(WE hp hB hP).mp h.bB⟩
theorem mG(hp:P4 p)(z:Aj a b c%p≠0)(w:Whl p E):Whl p (pb E a b c):=by
 show Aj _ _ _%p≠0;rw[sN];exact BJ hp (BJ hp z z) w
theorem aR(hp:P4 p)(z:Aj a b c%p≠0)(wC:Whl p C)(wE:Whl p E)(d1:Aj A B P%p≠0)(d2:Aj A B U%p≠0)(hC:FOn p C A B P U)(hE:FOn p E A' B' P' U')(hA:Pr p A' (ap a b c A))(hB:Pr p B' (ap a b c B))(hP:Pr p P' (ap a b c P))(hU:Pr p U' (ap a b c U)):PrC p (pb E a b c) C:=
 dG hp wC (mG hp z wE) d1 d2 hC (sI hp hE hA hB hP hU)
end
theorem Tn{p:Ae}:∀ xs:Ac Ae,(∀ v∈xs,0<=v/\v<p)->AY p xs=(xs.filter fun v=>decide (0<v)).head?
 |[],_=>rfl
 |v::xs,h=>by
  have hv:=h v (Ax ..);have em:=AM hv.1 hv.2;have ih:=Tn xs fun w hw=>h w (Au _ hw)
  unfold AY;rw[em,DI,ih];by_cases z:v=0
  ·rw[Ay z,z];rfl
  ·rw[AH z,Ay (by simp;omega)]
   rfl
section
variable{Γ:Gam}{ns:Ac Ae}{p:Ae}{a b c:R3}{s2 s4 s5 s6 s7 s8:Sl}
end
section
variable{p:Ae}{C:C6}{a b c A B P U l m:R3}
theorem swp(h:Aq U m%p=0):Aq m U%p=0:=by rw[JB];exact h
theorem TM(hp:P4 p)(d:Aj A B P%p≠0)(h1:Aq A m%p=0)(h2:Aq P m%p=0)(h3:Aj A P U%p=0):Aq U m%p=0:=by
 have e:Aj A B P*Aq U m=Aq A m*Aj U B P-Aq P m*Aj U B A-Aq B m*Aj A P U:=by
  unfold Aj det Aq;grind
 have q:Cg p (Aj A B P*Aq U m) 0:=by
  rw[e];have k1:Cg p (Aq A m*Aj U B P) 0:=by rw[BV];exact cg0 h1
  have k2:Cg p (Aq P m*Aj U B A) 0:=by rw[BV];exact cg0 h2
  have k3:Cg p (Aq B m*Aj A P U) 0:=cg0 h3;exact(k1.sub k2).sub k3
 have q':Aj A B P*Aq U m%p=0:=by rw[show _%p=0%p from q,A7]
 exact(E7 hp d).mp q'
theorem eH(hp:P4 p)(z:Aj a b c%p≠0)(w:Whl p C)(h:PrC p C (E4 0 (Cp p) a b c))(hA:A∈Bh p C)(hB:B∈Bh p C)(hU:U∈Bh p C)(nAB:A≠B)(nAU:A≠U)(nBU:B≠U)(nl:NF p l)(pl:Pr p l (crs A B)):FOn p C A B (pole p C l) U/\NF p (pole p C l)/\G3 p A B (pole p C l) U:=by
 obtain⟨nP,eP⟩:=iJ hp w nl;have nA:=(ED hp).mp (AO.mp hA).1;have nB:=(ED hp).mp (AO.mp hB).1;have vA:=Ee (AO.mp hA).2;have vB:=Ee (AO.mp hB).2;have vU:=Ee (AO.mp hU).2;have lA:Aq A l%p=0:=(PB hp pl).mpr (by rw[(UY A B).1];exact A7 _)
 have lB:Aq B l%p=0:=(PB hp pl).mpr (by rw[(UY A B).2];exact A7 _)
 generalize pole p C l=P at *;have bA:bI C A P%p=0:=by rw[IY];exact(Ja hp w nP).mp (by rw[eP];exact lA)
 have bB:bI C B P%p=0:=by rw[IY];exact(Ja hp w nP).mp (by rw[eP];exact lB)
 have d1:Aj A B P%p≠0:=fun e=>by
  have e1:Aq P l%p=0:=(PB hp pl).mpr e;have e2:bI C P P%p=0:=(Ja hp w nP).mp (by rw[eP];exact e1)
  rw[IX]at e2;have z2:(2:Ae)%p≠0:=by rcases hp with rfl|rfl|rfl|rfl<;>decide
  have vP:vI C P%p=0:=(E7 hp z2).mp e2;have hP:P∈Bh p C:=AO.mpr ⟨(ED hp).mpr nP,Eo vP⟩;have m1:=PH hp z w h hP;rw[eP]at m1;have a1:A∈Kc p C l:=(No hp).mpr ⟨hA,lA⟩;have b1:B∈Kc p C l:=(No hp).mpr ⟨hB,lB⟩;rw[m1]at a1 b1;exact nAB ((BA.mp a1).trans (BA.mp b1).symm)
 have d2:=iB hp z h hA hB hU nAB nAU nBU;have tA:Aq A (pol p C A)%p=0:=(Ja hp w nA).mpr (by rw[IX,A2,vA];simp)
 have tB:Aq B (pol p C B)%p=0:=(Ja hp w nB).mpr (by rw[IX,A2,vB];simp)
 have pA:Aq P (pol p C A)%p=0:=(Ja hp w nA).mpr bA;have pB:Aq P (pol p C B)%p=0:=(Ja hp w nB).mpr bB;have d3:Aj A P U%p≠0:=fun e=>by
  have e1:=TM hp d1 tA pA e;have u1:U∈Kc p C (pol p C A):=(No hp).mpr ⟨hU,e1⟩;rw[PH hp z w h hA]at u1;exact nAU (BA.mp u1).symm
 have d1':Aj B A P%p≠0:=by
  have:Aj B A P=(-1)*Aj A B P:=by unfold Aj det;grind
  rw[this];exact BJ hp hp.m1 d1
 have d4:Aj B P U%p≠0:=fun e=>by
  have e1:=TM hp d1' tB pB e;have u1:U∈Kc p C (pol p C B):=(No hp).mpr ⟨hU,e1⟩;rw[PH hp z w h hB]at u1;exact nBU (BA.mp u1).symm
 exact⟨⟨vA,vB,vU,bA,bB⟩,nP,d1,d2,d3,d4⟩
end
theorem Tj{f0 f1 f2 f3:R3}(hp:P4 p)(g:G3 p f0 f1 f2 f3):∃ a b c,GoodR p a b c/\Led p a b c e0R e1R e2R e3R f0 f1 f2 f3:=by
 obtain⟨g0,g1,g2,g3⟩:=g;have k0:Aj f3 f1 f2%p≠0:=by
  have:Aj f3 f1 f2=1*Aj f1 f2 f3:=by unfold Aj det;grind
  rw[this];exact BJ hp hp.o1 g3
 have k1:Aj f0 f3 f2%p≠0:=by
  have:Aj f0 f3 f2=(-1)*Aj f0 f2 f3:=by unfold Aj det;grind
  rw[this];exact BJ hp hp.m1 g2
 have k2:=g1;have cr:=VH f0 f1 f2 f3;generalize Aj f3 f1 f2=x0 at *;generalize Aj f0 f3 f2=x1 at *;generalize Aj f0 f1 f3=x2 at *;have zz:Aj (Bq (AB x0 f0) (AB x1 f1) (AB x2 f2)) (Bm (AB x0 f0) (AB x1 f1) (AB x2 f2)) (Bl (AB x0 f0) (AB x1 f1) (AB x2 f2))%p≠0:=by
  rw[PX,JC];exact BJ hp (BJ hp (BJ hp k0 k1) k2) g0
 obtain⟨l,t,_,_,tz,gd,_⟩:=LS hp zz;have key:∀(e f:R3)(k:Ae),k%p≠0->ap (Bq (AB x0 f0) (AB x1 f1) (AB x2 f2)) (Bm (AB x0 f0) (AB x1 f1) (AB x2 f2)) (Bl (AB x0 f0) (AB x1 f1) (AB x2 f2)) e=AB k f->Pr p f (ap (fmR p t (Bq (AB x0 f0) (AB x1 f1) (AB x2 f2))) (fmR p t (Bm (AB x0 f0) (AB x1 f1) (AB x2 f2))) (fmR p t (Bl (AB x0 f0) (AB x1 f1) (AB x2 f2))) e):=fun e f k kz q=>by
  refine Pr.symm hp ((Pr.tab tz (DU p t _) (DU p t _) (DU p t _)).trans hp ?_);rw[q];exact⟨k,kz,CgR.rfl⟩
 refine⟨_,_,_,gd,key _ _ x0 k0 ?_,key _ _ x1 k1 ?_,key _ _ x2 k2 ?_,key _ _ (Aj f0 f1 f2) g0 ?_⟩
 ·unfold ap Aq Bq Bm Bl AB e0R;simp
 ·unfold ap Aq Bq Bm Bl AB e1R;simp
 ·unfold ap Aq Bq Bm Bl AB e2R;simp
 ·rw[cr];unfold ap Aq Bq Bm Bl AB e3R;simp
structure Fc (p:Ae) (C:C6) (A B P U:R3) (rest:Ac R3):Prop where
 pts:Bh p C=A::B::U::rest
 nA:NF p A
 nB:NF p B
 nP:NF p P
 nU:NF p U
 ne:A≠B
 on:FOn p C A B P U
 gen:G3 p A B P U
 ln:∃ l,NF p l/\Pr p l (crs A B)/\P=pole p C l
theorem Wb(hj:J3 Γ){a b c:R3}(hp:P4 p)(z:Aj a b c%p≠0)(w:Whl p C)(h:PrC p C (E4 0 (Cp p) a b c)):∃ A B P U rest,Fc p C A B P U rest:=by
  have ln:(Bh p C).length=G5 p 0:=JZ (.inl rfl) hp z h;have nd:(Bh p C).Nodup:=(LV hp).filter _;have w4:4<=G5 p 0:=by rcases hp with rfl|rfl|rfl|rfl<;>decide
  match e:Bh p C,ln,nd with
  |[],q,_=>exact absurd q (by simp;omega)
  |[_],q,_=>exact absurd q (by simp;omega)
  |[_,_],q,_=>exact absurd q (by simp;omega)
  |A::B::U::rest,_,nd=>
    have hA:A∈Bh p C:=by rw[e];simp
    have hB:B∈Bh p C:=by rw[e];simp
    have hU:U∈Bh p C:=by rw[e];simp
    have nA:=(ED hp).mp (AO.mp hA).1;have nB:=(ED hp).mp (AO.mp hB).1;have nU:=(ED hp).mp (AO.mp hU).1;simp only[B4,Aw,Ed]at nd;obtain⟨⟨n1,n2,_⟩,⟨n3,_⟩,_⟩:=nd;obtain⟨l,nl,pl,_⟩:=Mb hj hp nA nB n1;obtain⟨f,nP,g⟩:=eH hp z w h hA hB hU n1 n2 n3 nl pl;exact⟨A,B,_,U,rest,e,nA,nB,nP,nU,n1,f,g,l,nl,pl,rfl⟩
noncomputable def M1:Df:=⟨3,Ad,(.cons (.ret (.lst (.cons (.idx (.var 2) (.int 0)) (.cons (.idx (.var 2) (.int 1)) (.cons (.call 149 (.cons (.var 0) (.cons (.var 1) (.cons (.call 57 (.cons (.var 0) (.cons (.idx (.var 2) (.int 0)) (.cons (.idx (.var 2) (.int 1)) .nil)))) .nil)))) (.cons (.idx (.var 2) (.int 2)) .nil)))))) .nil)⟩
noncomputable def MO:Df:=⟨3,Ad,(.cons (.expr (.call 147 (.cons (.var 0) (.cons (.var 1) .nil)))) (.cons (.expr (.call 147 (.cons (.var 0) (.cons (.var 2) .nil)))) (.cons (.ret (.call 112 (.cons (.var 0) (.cons (.call 150 (.cons (.var 0) (.cons (.var 1) (.cons (.sl (.call 128 (.cons (.var 0) (.cons (.var 1) .nil))) .non (.int 3)) .nil)))) (.cons (.call 150 (.cons (.var 0) (.cons (.var 2) (.cons (.sl (.call 128 (.cons (.var 0) (.cons (.var 2) .nil))) .non (.int 3)) .nil)))) .nil))))) .nil)))⟩
def UF(Γ:Gam):Prop:=∀(p:Ae)(C:C6)(A B P U:R3)(rest:Ac R3),P4 p->InC p C->Whl p C->Fc p C A B P U rest->Γ.F 150 [.int p,A6 C,Cc [A,B,U]]=.ok (Dq A B P U)
theorem jR(hj:J3 Γ)(hl:Qc Γ)(p:Ae)(C:C6)(A B P U:R3)(rest:Ac R3)(hp:P4 p)(iC:InC p C)(w:Whl p C)(h:Fc p C A B P U rest):M1.run Γ [.int p,A6 C,Cc [A,B,U]]=.ok (Dq A B P U):=by
 obtain⟨l,nl,pl,rfl⟩:=h.ln;obtain⟨y,ny,py,e1⟩:=Mb hj hp h.nA h.nB h.ne;have q:y=l:=K0 hp ny nl (py.trans hp (pl.symm hp));rw[q]at e1;have e2:=hl p C l hp iC w nl;have i0:BQ (Cc [A,B,U]) (.int 0)=.ok (Am Aa A):=rfl;have i1:BQ (Cc [A,B,U]) (.int 1)=.ok (Am Aa B):=rfl;have i2:BQ (Cc [A,B,U]) (.int 2)=.ok (Am Aa U):=rfl;unfold Dq;generalize Cc [A,B,U]=T at *;generalize Am Aa A=ta at *;generalize Am Aa B=tb at *;generalize Am Aa U=tu at *;generalize Am Aa l=tl at *;generalize Am Aa (pole p C l)=tp at *;generalize A6 C=cC at *;simp[M1,Df.run,BG,i0,i1,i2,e1,e2]
def UD(Γ:Gam):Prop:=∀{p:Ae}{a b c f0 f1 f2 f3 g0 g1 g2 g3:R3},GoodR p a b c->AY p (nine a b c)=Ab 1->Frm p f0 f1 f2 f3->Frm p g0 g1 g2 g3->Led p a b c f0 f1 f2 f3 g0 g1 g2 g3->Γ.F 112 [.int p,Dq f0 f1 f2 f3,Dq g0 g1 g2 g3]=.ok (AX a b c)
def U2(Γ:Gam):Prop:=∀(p:Ae)(C E:C6)(a b c A B P U A' B' P' U':R3)(rest rest':Ac R3),GoodR p a b c->AY p (nine a b c)=Ab 1->InC p C->Whl p C->InC p E->Whl p E->Fc p C A B P U rest->Fc p E A' B' P' U' rest'->Led p a b c A B P U A' B' P' U'->Γ.F 151 [.int p,A6 C,A6 E]=.ok (AX a b c)
theorem sl3(A B U:R3)(rest:Ac R3):slD (Cc (A::B::U::rest)) Af (Ab 3)=.ok (Cc [A,B,U]):=by
 show R.ok (D.lst (JI _ _ _))=_;unfold JI IC;simp[Cc]
theorem jU(hw:QK Γ)(ho:Qb Γ)(hf:UF Γ)(hm:UD Γ)(p:Ae)(C E:C6)(a b c A B P U A' B' P' U':R3)(rest rest':Ac R3)(T:GoodR p a b c)(l1:AY p (nine a b c)=Ab 1)(iC:InC p C)(wC:Whl p C)(iE:InC p E)(wE:Whl p E)(fC:Fc p C A B P U rest)(fE:Fc p E A' B' P' U' rest')(L:Led p a b c A B P U A' B' P' U'):MO.run Γ [.int p,A6 C,A6 E]=.ok (AX a b c):=by
 have hp:=T.p4;have e1:=hw p C hp iC wC;have e2:=hw p E hp iE wE;have e3:=ho p C hp iC;have e4:=ho p E hp iE;rw[fC.pts]at e3;rw[fE.pts]at e4;have s1:=sl3 A B U rest;have s2:=sl3 A' B' U' rest';have e5:=hf p C A B P U rest hp iC wC fC;have e6:=hf p E A' B' P' U' rest' hp iE wE fE;have e7:=hm T l1 ⟨fC.nA.1,fC.nB.1,fC.nP.1,fC.nU.1,fC.gen⟩ ⟨fE.nA.1,fE.nB.1,fE.nP.1,fE.nU.1,fE.gen⟩ L;generalize Cc (A::B::U::rest)=R1 at *;generalize Cc (A'::B'::U'::rest')=R2 at *;generalize Cc [A,B,U]=R3 at *;generalize Cc [A',B',U']=R4 at *;generalize Dq A B P U=R5 at *;generalize Dq A' B' P' U'=R6 at *;generalize AX a b c=R7 at *;generalize A6 C=cC at *;generalize A6 E=cE at *;simp[MO,Df.run,BG,e1,e2,e3,e4,s1,s2,e5,e6,e7]
section
variable{p:Ae}{C:C6}{a b c x y l P Q:R3}
theorem kg0{n:Ae}(h:n%p=0):Cg p n 0:=by show n%p=0%p;rw[h,A7]
theorem Lh{n:Ae}(h:Cg p n 0):n%p=0:=by
 have:n%p=0%p:=h;rw[this,A7]
theorem Nl{s:R3}(h:Aq r s%p≠0):∃ l,AY p (tri r)=Ab l:=by
 cases el:AY p (tri r) with
 |some l=>exact⟨l,rfl⟩
 |none=>
  refine absurd (Lh ?_) h;refine(EF (Pu el) (CgR.rfl (a:=s))).trans (Cg.of ?_);unfold Aq;simp
theorem We(a b c:R3):Aq a (crs b c)=Aj a b c:=by
 unfold Aq crs Aj det;simp only;grind
theorem zW(a b c:R3):Aq b (crs c a)=Aj a b c:=by
 unfold Aq crs Aj det;simp only;grind
theorem sM(a b c:R3):Aj b a c=- Aj a b c:=by
 unfold Aj det;grind
theorem Mr(hp:P4 p)(z:Aj a b c%p≠0):NF p (nrm p a)/\Pr p (nrm p a) a:=by
 obtain⟨l,el⟩:=Nl (p:=p) (r:=a) (s:=crs b c) (by rw[We];exact z)
 exact Nb hp el
theorem JD(hp:P4 p)(z:Aj a b c%p≠0):NF p (nrm p (crs a b))/\Pr p (nrm p (crs a b)) (crs a b):=by
 obtain⟨l,el⟩:=Nl (p:=p) (r:=crs a b) (s:=c) (by rw[PY];exact z)
 exact Nb hp el
theorem QO(z:Aj a b c%p≠0):Aj b a c%p≠0:=by
 rw[sM];intro h;exact z (WS (WP.mp (WQ h)))
theorem GV(hp:P4 p)(ha:Pr p l a):Aq x l%p=0↔Aq a x%p=0:=by
 rw[JB x l];exact NL hp ha ⟨1,hp.o1,CgR.of (by unfold AB;simp)⟩
theorem NG(hp:P4 p)(z:Aj a b c%p≠0):Aq a (nrm p (crs a b))%p=0/\Aq b (nrm p (crs a b))%p=0:=by
 obtain⟨h1,h2⟩:=kS a b;have k:∀ u,Aq (crs a b) u=0->Aq u (nrm p (crs a b))%p=0:=fun u e=>by
  rw[GV hp (JD hp z).2,e,A7]
 exact⟨k a h1,k b h2⟩
theorem Nr(hp:P4 p)(hy:NF p y)(hl:NF p l)(py:Pr p y (crs P Q))(h1:Aq P l%p=0)(h2:Aq Q l%p=0):y=l:=(TX hp hy hl py h1 h2).symm
theorem HR(hp:P4 p):x∈Bh p C↔NF p x/\vI C x%p=0:=by
 unfold Bh;rw[AO,ED hp,AJ]
theorem Rj(hp:P4 p)(h:PrC p C (E4 w (Cp p) a b c))(x:R3):vI C x%p=0↔vI (E4 w (Cp p) a b c) x%p=0:=by
 obtain⟨d,dz,e⟩:=h;have q:=(Iy e (CgR.rfl (a:=x))).trans (Cg.of (J5 d _ x));rw[show vI C x%p=_ from q]
 exact E7 hp dz
theorem Re(hp:P4 p):i*j%p=0↔i%p=0\/j%p=0:=by
 constructor
 ·intro h;by_cases hi:i%p=0
  ·exact .inl hi
  ·exact .inr ((E7 hp hi).mp h)
 ·rintro (h|h)
  ·rw[A2,h,EV,A7]
  ·rw[A2,h,Dm,A7]
theorem RB(hp:P4 p)(h:PrC p C (E4 1 (Cp p) a b c))(x:R3):vI C x%p=0↔Aq a x%p=0:=by
 rw[Rj hp h,show E4 1 (Cp p) a b c=prd a a from rfl,HP,Re hp,or_self]
theorem RA(hp:P4 p)(h:PrC p C (E4 2 (Cp p) a b c))(x:R3):vI C x%p=0↔Aq a x%p=0\/Aq b x%p=0:=by
 rw[Rj hp h,show E4 2 (Cp p) a b c=prd a b from rfl,HP,Re hp]
theorem Rk(hp:P4 p)(z:Aj a b c%p≠0)(h:PrC p C (E4 3 (Cp p) a b c)):vI C (nrm p (crs a b))%p=0:=by
 obtain⟨h1,h2⟩:=NG hp z;rw[Rj hp h,show E4 3 (Cp p) a b c=FK (prd a a) (scC (Cp p) (prd b b)) from rfl,KW,J5,HP,HP]
 refine Lh (((kg0 h1).mul (kg0 h1)).sub ((Cg.rfl (a:=Cp p)).mul ((kg0 h2).mul (kg0 h2))) |>.trans (Cg.of ?_));simp
theorem Vg(a b x:R3):ap (tw0 (prd a b)) (tw1 (prd a b)) (tw2 (prd a b)) x=(Aq b x*a.1+Aq a x*b.1,Aq b x*a.2.1+Aq a x*b.2.1,Aq b x*a.2.2+Aq a x*b.2.2):=by
 unfold ap tw0 tw1 tw2 prd Aq;simp only;refine Bp ?_ (Bp ?_ ?_)<;>(simp only;grind)
theorem mK(hp:P4 p)(z:Aj a b c%p≠0)(h:PrC p C (E4 2 (Cp p) a b c))(nx:NF p x):CgR p (ap (tw0 C) (tw1 C) (tw2 C) x) (0,0,0)↔x=nrm p (crs a b):=by
 obtain⟨d,dz,e⟩:=h;have e:CgC p C (scC d (prd a b)):=e;obtain⟨t0,t1,t2⟩:=Mu e;have q:CgR p (ap (tw0 C) (tw1 C) (tw2 C) x) (AB d (ap (tw0 (prd a b)) (tw1 (prd a b)) (tw2 (prd a b)) x)):=(Mv t0 t1 t2 CgR.rfl).trans (CgR.of (by
  unfold ap tw0 tw1 tw2 scC Aq AB;simp only;refine Bp ?_ (Bp ?_ ?_)<;>(simp only;grind)))
 constructor
 ·intro k;have k2:=q.symm.trans k;have r:∀ u,(d*Aq (ap (tw0 (prd a b)) (tw1 (prd a b)) (tw2 (prd a b)) x) u)%p=0:=fun u=>by
   refine Lh ((Cg.of ?_).trans ((EF k2 (CgR.rfl (a:=u))).trans (Cg.of ?_)))
   ·unfold Aq AB;simp only;grind
   ·unfold Aq;simp
  have r1:=(E7 hp dz).mp (r (crs b c));have r2:=(E7 hp dz).mp (r (crs c a));rw[Vg]at r1 r2;have s1:Aq (Aq b x*a.1+Aq a x*b.1,Aq b x*a.2.1+Aq a x*b.2.1,Aq b x*a.2.2+Aq a x*b.2.2) (crs b c)=Aj a b c*Aq b x:=by
   generalize Aq b x=s;generalize Aq a x=t;unfold Aq crs Aj det;simp only;grind
  have s2:Aq (Aq b x*a.1+Aq a x*b.1,Aq b x*a.2.1+Aq a x*b.2.1,Aq b x*a.2.2+Aq a x*b.2.2) (crs c a)=Aj a b c*Aq a x:=by
   generalize Aq b x=s;generalize Aq a x=t;unfold Aq crs Aj det;simp only;grind
  rw[s1,E7 hp z]at r1;rw[s2,E7 hp z]at r2;exact TX hp (JD hp z).1 nx (JD hp z).2 r2 r1
 ·rintro rfl;obtain⟨h1,h2⟩:=NG hp z;refine q.trans ?_;rw[Vg];have k:∀ i j:Ae,Cg p (d*(Aq b (nrm p (crs a b))*i+Aq a (nrm p (crs a b))*j)) 0:=fun i j=>((Cg.rfl (a:=d)).mul (((kg0 h2).mul (Cg.rfl (a:=i))).add ((kg0 h1).mul (Cg.rfl (a:=j))))).trans (Cg.of (by simp))
  exact⟨k _ _,k _ _,k _ _⟩
end
noncomputable def OI:E:=(.no (.bi .any (.cons (.call 91 (.cons (.var 0) (.cons (.var 3) (.cons (.var 4) .nil)))) .nil)))
noncomputable def OJ:E:=(.var 4)
noncomputable def OU:Df:=⟨5,Ad,(.cons (.asg 3 Ad (.call 131 (.cons (.var 0) (.cons (.var 1) .nil)))) (.cons (.ret (.idx (.comp OJ 4 (.e (.var 2)) OI) (.int 0))) .nil))⟩
noncomputable def N6:E:=(.cmp .NotEq (.var 6) (.var 3))
noncomputable def N8:E:=(.var 6)
noncomputable def N5:E:=(.no (.call 56 (.cons (.var 0) (.cons (.var 7) (.cons (.var 4) .nil)))))
noncomputable def N7:E:=(.var 7)
noncomputable def MV:Df:=⟨8,Ad,(.cons (.asg 3 Ad (.call 152 (.cons (.var 0) (.cons (.var 1) (.cons (.var 2) .nil))))) (.cons (.asg 4 Ad (.call 57 (.cons (.var 0) (.cons (.var 3) (.cons (.idx (.comp N8 6 (.e (.var 2)) N6) (.int 0)) .nil))))) (.cons (.asg 5 Ad (.call 57 (.cons (.var 0) (.cons (.var 3) (.cons (.idx (.comp N7 7 (.e (.var 2)) N5) (.int 0)) .nil))))) (.cons (.ret (.bi .sorted (.cons (.lst (.cons (.var 4) (.cons (.var 5) .nil))) .nil))) .nil))))⟩
noncomputable def IZ:Df:=⟨4,Ad,(.cons (.ife (.call 136 (.cons (.var 0) (.cons (.var 1) .nil))) (.cons (.ret (.tup (.cons (.str (AQ "whole")) (.cons (.call 151 (.cons (.var 0) (.cons (.call 123 (.cons (.var 0) .nil)) (.cons (.var 1) .nil)))) .nil)))) .nil) .nil) (.cons (.asg 2 Ad (.call 128 (.cons (.var 0) (.cons (.var 1) .nil)))) (.cons (.ife (.cmp .Eq (.bi .len (.cons (.var 2) .nil)) (.int 1)) (.cons (.ret (.tup (.cons (.str (AQ "point")) (.cons (.idx (.var 2) (.int 0)) .nil)))) .nil) .nil) (.cons (.ife (.cmp .Eq (.bi .len (.cons (.var 2) .nil)) (.bin .Add (.var 0) (.int 1))) (.cons (.ret (.tup (.cons (.str (AQ "twice")) (.cons (.call 57 (.cons (.var 0) (.cons (.idx (.var 2) (.int 0)) (.cons (.idx (.var 2) (.int 1)) .nil)))) .nil)))) .nil) .nil) (.cons (.asg 3 Ad (.call 153 (.cons (.var 0) (.cons (.var 1) (.cons (.var 2) .nil))))) (.cons (.ret (.tup (.cons (.str (AQ "lines")) (.cons (.idx (.var 3) (.int 0)) (.cons (.idx (.var 3) (.int 1)) .nil))))) .nil))))))⟩
section
variable{Γ:Gam}{p:Ae}{C:C6}{a b c:R3}
theorem QE{l:Ac R3}{q:R3->Ao}(h:∃ x∈l,q x=Aa):∃ x,(l.filter q)[0]?=Ab x/\x∈l/\q x=Aa:=by
 obtain⟨x,hx,hq⟩:=h;cases e:l.filter q with
 |nil=>
  have:x∈l.filter q:=AO.mpr ⟨hx,hq⟩;rw[e]at this;cases this
 |cons y r=>
  have:y∈l.filter q:=by rw[e];exact Ax
  exact⟨y,rfl,(AO.mp this).1,(AO.mp this).2⟩
theorem Zt(i j k:Ae):biD .any [Am Aa (i,j,k)]=.ok (.bl (!decide (i=0/\j=0/\k=0))):=by
 have e:biD .any [Am Aa (i,j,k)]=.ok (.bl ((i != 0)||((j != 0)||((k != 0)||false)))):=rfl;rw[e]
 congr 2
 rw[Cv];simp
def Sv(Γ:Gam):Prop:=∀(p:Ae)(C:C6)(a b c:R3),P4 p->InC p C->Aj a b c%p≠0->PrC p C (E4 2 (Cp p) a b c)->Γ.F 152 [.int p,A6 C,Cc (Bh p C)]=.ok (Am Aa (nrm p (crs a b)))
theorem Z6(hs:KQ Γ)(ht:KG Γ)(hp:P4 p)(iC:InC p C)(z:Aj a b c%p≠0)(h:PrC p C (E4 2 (Cp p) a b c)):OU.run Γ [.int p,A6 C,Cc (Bh p C)]=.ok (Am Aa (nrm p (crs a b))):=by
 have p0:=hp.pos;have e1:=ht p C hp;obtain⟨i0,i1,i2⟩:=MA hp iC;obtain⟨g0,g1,g2⟩:=MB p C;have b3:∀ {r},In3 p r->B3 r:=fun h=>(BX hp h).b3 (by decide)
 have cp:BH (cG Γ [si p,sh (A6 C),sh (Cc (Bh p C)),sh (AX (t0 p C) (t1 p C) (t2 p C)),Af] 4 OI) (cF Γ [si p,sh (A6 C),sh (Cc (Bh p C)),sh (AX (t0 p C) (t1 p C) (t2 p C)),Af] 4 OJ) ((Bh p C).map (Am Aa))=.ok (((Bh p C).filter fun x=>decide (x=nrm p (crs a b))).map (Am Aa)):=by
  refine LY (Bh p C) fun x hx=>⟨?_,?_⟩
  ·have nx:=((HR hp).mp hx).1;have e:Γ.F 91 [.int p,AX (t0 p C) (t1 p C) (t2 p C),Am Aa x]=_:=hs p Aa Aa Aa (t0 p C) (t1 p C) (t2 p C) x p0 (b3 i0) (b3 i1) (b3 i2) (b3 nx.1);have q:=Zt (Aq (t0 p C) x%p) (Aq (t1 p C) x%p) (Aq (t2 p C) x%p);have k:decide (Aq (t0 p C) x%p=0/\Aq (t1 p C) x%p=0/\Aq (t2 p C) x%p=0)=decide (x=nrm p (crs a b)):=by
    rw[Ey,<-mK hp z h nx];have w:=Mv g0 g1 g2 (CgR.rfl (a:=x));constructor
    ·rintro⟨q0,q1,q2⟩;exact w.symm.trans ⟨kg0 q0,kg0 q1,kg0 q2⟩
    ·intro q;obtain⟨q0,q1,q2⟩:=w.trans q;exact⟨Lh q0,Lh q1,Lh q2⟩
   rw[k]at q;generalize Am Aa (Aq (t0 p C) x%p,Aq (t1 p C) x%p,Aq (t2 p C) x%p)=R3 at *;generalize AX (t0 p C) (t1 p C) (t2 p C)=TT at *;generalize decide (x=nrm p (crs a b))=v at *;generalize Am Aa x=xx at *;simp[cG,OI,e,q]
  ·simp[cF,OJ]
 have hm:nrm p (crs a b)∈Bh p C:=(HR hp).mpr ⟨(JD hp z).1,(RA hp h _).mpr (.inl (NG hp z).1)⟩;obtain⟨x,hx,_,hq⟩:=QE (l:=Bh p C) (q:=fun x=>decide (x=nrm p (crs a b))) ⟨_,hm,Eo rfl⟩
 have hq:=Ee hq;subst hq;have ix:=K4 hx;have sq:Co (Cc (Bh p C))=.ok ((Bh p C).map (Am Aa)):=rfl;have ix':BQ (.lst (((Bh p C).filter fun x=>decide (x=nrm p (crs a b))).map (Am Aa))) (.int 0)=.ok (Am Aa (nrm p (crs a b))):=ix
 generalize AX (t0 p C) (t1 p C) (t2 p C)=TT at *;generalize ((Bh p C).filter fun x=>decide (x=nrm p (crs a b))).map (Am Aa)=FL at *
 generalize Cc (Bh p C)=PP at *;generalize Am Aa (nrm p (crs a b))=mm at *;generalize (Bh p C).map (Am Aa)=PL at *;generalize A6 C=cC at *;simp[OU,Df.run,BG,e1,sq,cp,ix']
theorem Wg(hp:P4 p)(z:Aj a b c%p≠0):((C7 p).filter fun x=>decide (Aq a x%p=0)).length=G5 p 1:=by
 rw[<-JZ (w:=1) (C:=prd a a) (.inr (.inl rfl)) hp z (PrC.rfl hp)];unfold Bh
 congr 1
 refine FS fun x hx=>?_
 rw[Ey,HP,Re hp,or_self]
theorem Ur(hj:J3 Γ)(hp:P4 p){A B m:R3}(on:∀ x,vI C x%p=0↔Aq A x%p=0\/Aq B x%p=0)(nA:NF p (nrm p A)/\Pr p (nrm p A) A)(nB:NF p (nrm p B)/\Pr p (nrm p B) B)(nm:NF p m)(mA:Aq A m%p=0)(mB:Aq B m%p=0)(cnt:(Bh p C).length≠((C7 p).filter fun x=>decide (Aq A x%p=0)).length):∃ P,((Bh p C).filter fun x=>!decide (Aq x (nrm p A)%p=0))[0]?=Ab P/\nrm p A≠nrm p B/\Γ.F 57 [.int p,Am Aa m,Am Aa P]=.ok (Am Aa (nrm p B)):=by
 have ex:∃ x∈Bh p C,(!decide (Aq x (nrm p A)%p=0))=Aa:=by
  refine Ef fun n=>cnt ?_
  unfold Bh
  congr 1
  refine FS fun x hx=>?_
  rw[Ey];constructor
  ·intro h;refine Ef fun k=>n ⟨x,(HR hp).mpr ⟨(ED hp).mp hx,h⟩,?_⟩
   rw[BP,Cu,GV hp nA.2];exact k
  ·intro h;exact(on x).mpr (.inl h)
 obtain⟨P,e,hP,hq⟩:=QE ex;rw[BP,Cu]at hq;obtain⟨nP,vP⟩:=(HR hp).mp hP;have hB:Aq B P%p=0:=((on P).mp vP).resolve_left fun k=>hq ((GV hp nA.2).mpr k)
 have ne:m≠P:=fun k=>hq (by rw[<-k];exact(GV hp nA.2).mpr mA)
 obtain⟨y,ny,py,e2⟩:=Mb hj hp nm nP ne;have ey:=Nr hp ny nB.1 py ((GV hp nB.2).mpr mB) ((GV hp nB.2).mpr hB);subst ey;exact⟨P,e,fun k=>hq (by rw[k];exact(GV hp nB.2).mpr hB),e2⟩
def Wt(Γ:Gam):Prop:=∀(p:Ae)(C:C6)(a b c:R3),P4 p->InC p C->Aj a b c%p≠0->PrC p C (E4 2 (Cp p) a b c)->∃ L1 L2,((L1=nrm p a/\L2=nrm p b)\/(L1=nrm p b/\L2=nrm p a))/\Cd (tri L1) (tri L2)=Aa/\Γ.F 153 [.int p,A6 C,Cc (Bh p C)]=.ok (Cc [L1,L2])
theorem VV(ne:x≠y):∃ L1 L2,((L1=x/\L2=y)\/(L1=y/\L2=x))/\Cd (tri L1) (tri L2)=Aa/\Fm [Am Aa x,Am Aa y]=.ok [Am Aa L1,Am Aa L2]:=by
 have nt:tri x≠tri y:=fun h=>ne (by
  obtain⟨x1,x2,x3⟩:=x;obtain⟨y1,y2,y3⟩:=y;unfold tri at h;simp at h;obtain⟨rfl,rfl,rfl⟩:=h;rfl)
 have k:∀ L1 L2:R3,(L1=x/\L2=y)\/(L1=y/\L2=x)->Cd (tri L1) (tri L2)=Aa->Fm [Am Aa x,Am Aa y]=.ok [Am Aa L1,Am Aa L2]:=fun L1 L2 h hl=>by
  have:=bM (rs:=[tri x,tri y]) (ys:=[tri L1,tri L2]) (by intro r hr;simp at hr;rcases hr with rfl|rfl<;>simp[tri]) (by simp[nt]) (by simp) (by simp[hl]) (by
   intro r;rcases h with ⟨rfl,rfl⟩|⟨rfl,rfl⟩
   ·rfl
   ·simp only[Aw,A3,Cb];exact or_comm)
  simp only[B7,FC,<-Vn]at this;exact this
 cases hl:Cd (tri x) (tri y) with
 |true=>exact⟨x,y,.inl ⟨rfl,rfl⟩,hl,k x y (.inl ⟨rfl,rfl⟩) hl⟩
 |false=>
  have hl':=Nd nt hl;exact⟨y,x,.inr ⟨rfl,rfl⟩,hl',k y x (.inr ⟨rfl,rfl⟩) hl'⟩
theorem wV(hj:J3 Γ)(hc:Sv Γ)(ho:VP Γ)(hp:P4 p)(iC:InC p C)(z:Aj a b c%p≠0)(h:PrC p C (E4 2 (Cp p) a b c)):∃ L1 L2,((L1=nrm p a/\L2=nrm p b)\/(L1=nrm p b/\L2=nrm p a))/\Cd (tri L1) (tri L2)=Aa/\MV.run Γ [.int p,A6 C,Cc (Bh p C)]=.ok (Cc [L1,L2]):=by
  have p0:=hp.pos;have e1:=hc p C a b c hp iC z h;have nA:=Mr hp z;have nB:=Mr hp (QO z);obtain⟨mA,mB⟩:=NG hp z;have nm:=(JD hp z).1;have len:=JZ (.inr (.inr (.inl rfl))) hp z h;have wl:G5 p 2≠G5 p 1/\2<=G5 p 2:=by rcases hp with rfl|rfl|rfl|rfl<;>decide
  have on:=RA hp h;have exn:∃ x∈Bh p C,(!decide (x=nrm p (crs a b)))=Aa:=by
    have nd:(Bh p C).Nodup:=(LV hp).filter _
    match e:Bh p C,len,nd with
    |[],q,_=>exact absurd q (by simp;omega)
    |[_],q,_=>exact absurd q (by simp;omega)
    |x::y::r,_,nd=>
      by_cases hx:x=nrm p (crs a b)
      · refine⟨y,by simp,?_⟩
        rw[BP,Cu];rintro rfl;exact(B4.mp nd).1 (by rw[hx];simp)
      · exact⟨x,by simp,by rw[BP,Cu];exact hx⟩
  generalize nrm p (crs a b)=m at *;obtain⟨P,eP,hP,hq⟩:=QE exn;rw[BP,Cu]at hq;obtain⟨nP,vP⟩:=(HR hp).mp hP;obtain⟨y,ny,py,e2⟩:=Mb hj hp nm nP fun k=>hq k.symm
  have fin:∃ y2 P2,(((y=nrm p a/\y2=nrm p b))\/(y=nrm p b/\y2=nrm p a))/\y≠y2/\((Bh p C).filter fun x=>!decide (Aq x y%p=0))[0]?=Ab P2/\Γ.F 57 [.int p,Am Aa m,Am Aa P2]=.ok (Am Aa y2):=by
    rcases (on P).mp vP with k|k
    · have ey:=Nr hp ny nA.1 py ((GV hp nA.2).mpr mA) ((GV hp nA.2).mpr k);subst ey;obtain⟨P2,q1,q2,q3⟩:=Ur hj hp on nA nB nm mA mB (by rw[len,Wg hp z];exact wl.1)
      exact⟨_,P2,.inl ⟨rfl,rfl⟩,q2,q1,q3⟩
    · have ey:=Nr hp ny nB.1 py ((GV hp nB.2).mpr mB) ((GV hp nB.2).mpr k);subst ey;obtain⟨P2,q1,q2,q3⟩:=Ur hj hp (fun x=>(on x).trans or_comm) nB nA nm mB mA (by rw[len,Wg hp (QO z)];exact wl.1)
      exact⟨_,P2,.inr ⟨rfl,rfl⟩,q2,q1,q3⟩
  obtain⟨y2,P2,hy,ne,eP2,e3⟩:=fin;obtain⟨L1,L2,hL,lx,so⟩:=VV ne;refine⟨L1,L2,?_,lx,?_⟩
  · rcases hy with ⟨rfl,rfl⟩|⟨rfl,rfl⟩
    · exact hL
    · rcases hL with ⟨rfl,rfl⟩|⟨rfl,rfl⟩
      · exact .inr ⟨rfl,rfl⟩
      · exact .inl ⟨rfl,rfl⟩
  have cp1:BH (cG Γ [si p,sh (A6 C),sh (Cc (Bh p C)),sh (Am Aa m),Af,Af,Af,Af] 6 N6) (cF Γ [si p,sh (A6 C),sh (Cc (Bh p C)),sh (Am Aa m),Af,Af,Af,Af] 6 N8) ((Bh p C).map (Am Aa))=.ok (((Bh p C).filter fun x=>!decide (x=m)).map (Am Aa)):=by
    refine LY (Bh p C) fun x hx=>⟨?_,?_⟩
    · have f1:=(QH x).1;have f2:=(QH m).1;have q:=Vd x m;generalize decide (x=m)=v at *;generalize Am Aa x=xx at *;generalize Am Aa m=mm at *;simp[cG,N6,f1,f2,q]
    · simp[cF,N8]
  have cp2:BH (cG Γ [si p,sh (A6 C),sh (Cc (Bh p C)),sh (Am Aa m),sh (Am Aa y),Af,Af,Af] 7 N5) (cF Γ [si p,sh (A6 C),sh (Cc (Bh p C)),sh (Am Aa m),sh (Am Aa y),Af,Af,Af] 7 N7) ((Bh p C).map (Am Aa))=.ok (((Bh p C).filter fun x=>!decide (Aq x y%p=0)).map (Am Aa)):=by
    refine LY (Bh p C) fun x hx=>⟨?_,?_⟩
    · have e:=ho p x y hp ((HR hp).mp hx).1.1 ny.1;generalize decide (Aq x y%p=0)=v at *;generalize Am Aa x=xx at *;simp[cG,N5,e]
    · simp[cF,N7]
  have ix1:BQ (.lst (((Bh p C).filter fun x=>!decide (x=m)).map (Am Aa))) (.int 0)=.ok (Am Aa P):=K4 eP
  have ix2:BQ (.lst (((Bh p C).filter fun x=>!decide (Aq x y%p=0)).map (Am Aa))) (.int 0)=.ok (Am Aa P2):=K4 eP2
  have sq:Co (Cc (Bh p C))=.ok ((Bh p C).map (Am Aa)):=rfl;have so':Fm [Am Aa y,Am Aa y2]=.ok ([L1,L2].map (Am Aa)):=so;show _=R.ok (D.lst ([L1,L2].map (Am Aa)));generalize [L1,L2].map (Am Aa)=LL at *;generalize ((Bh p C).filter fun x=>!decide (x=m)).map (Am Aa)=F1 at *
  generalize ((Bh p C).filter fun x=>!decide (Aq x y%p=0)).map (Am Aa)=F2 at *
  generalize Cc (Bh p C)=PP at *;generalize (Bh p C).map (Am Aa)=PL at *;generalize Am Aa y=yy at *;generalize Am Aa y2=yy2 at *;generalize Am Aa m=mm at *;generalize Am Aa P=tP at *;generalize Am Aa P2=tP2 at *;generalize A6 C=cC at *;simp[MV,Df.run,BG,e1,sq,cp1,ix1,e2,cp2,ix2,e3,so']
end
section
variable{Γ:Gam}{p:Ae}{C:C6}{a b c:R3}
noncomputable def P0c(p:Ae):C6:=⟨0,1,0,0,p-1,0⟩
theorem zA(hp:P4 p):InC p (P0c p):=by
 rcases hp with rfl|rfl|rfl|rfl<;>(unfold InC P0c C6.l;decide)
theorem Rx(hp:P4 p):PrC p (P0c p) (E4 0 (Cp p) e0R e1R e2R):=by
 refine⟨-1,hp.m1,?_⟩;rcases hp with rfl|rfl|rfl|rfl<;>exact⟨by rfl,by rfl,by rfl,by rfl,by rfl,by rfl⟩
theorem Wj(hp:P4 p):Aj e0R e1R e2R%p≠0:=by
 rcases hp with rfl|rfl|rfl|rfl<;>decide
structure Kd (Γ:Gam):Prop where
 k0:∀(p:Ae)(C:C6)(a b c:R3),P4 p->InC p C->Aj a b c%p≠0->PrC p C (E4 0 (Cp p) a b c)->∃ m0 m1 m2,GoodR p m0 m1 m2/\AY p (nine m0 m1 m2)=Ab 1/\PrC p (pb C m0 m1 m2) (P0c p)/\Γ.F 154 [.int p,A6 C]=.ok (.tup [.str (AQ "whole"),AX m0 m1 m2])
 k1:∀(p:Ae)(C:C6)(a b c:R3),P4 p->InC p C->Aj a b c%p≠0->PrC p C (E4 1 (Cp p) a b c)->Γ.F 154 [.int p,A6 C]=.ok (.tup [.str (AQ "twice"),Am Aa (nrm p a)])
 k2:∀(p:Ae)(C:C6)(a b c:R3),P4 p->InC p C->Aj a b c%p≠0->PrC p C (E4 2 (Cp p) a b c)->∃ L1 L2,((L1=nrm p a/\L2=nrm p b)\/(L1=nrm p b/\L2=nrm p a))/\Cd (tri L1) (tri L2)=Aa/\Γ.F 154 [.int p,A6 C]=.ok (.tup [.str (AQ "lines"),Am Aa L1,Am Aa L2])
 k3:∀(p:Ae)(C:C6)(a b c:R3),P4 p->InC p C->Aj a b c%p≠0->PrC p C (E4 3 (Cp p) a b c)->Γ.F 154 [.int p,A6 C]=.ok (.tup [.str (AQ "point"),Am Aa (nrm p (crs a b))])
structure Hk (Γ:Gam):Prop where
 wh:Ws Γ
 pl:UC Γ
 cm:U2 Γ
 pt:Qb Γ
 jn:J3 Γ
 tw:Wt Γ
theorem Zh(h:Hk Γ)(hp:P4 p)(iC:InC p C)(z:Aj a b c%p≠0)(pC:PrC p C (E4 0 (Cp p) a b c)):∃ m0 m1 m2,GoodR p m0 m1 m2/\AY p (nine m0 m1 m2)=Ab 1/\PrC p (pb C m0 m1 m2) (P0c p)/\IZ.run Γ [.int p,A6 C]=.ok (.tup [.str (AQ "whole"),AX m0 m1 m2]):=by
 have e1:=h.wh p C hp iC;have wC:Whl p C:=(Me (.inl rfl) hp z pC).mpr rfl;rw[Eo wC]at e1;have e2:Γ.F 123 [.int p]=.ok (A6 (P0c p)):=h.pl p hp;have w0:Whl p (P0c p):=(Me (.inl rfl) hp (Wj hp) (Rx hp)).mpr rfl;obtain⟨A,B,P,U,rs,fC⟩:=Wb h.jn hp (Wj hp) w0 (Rx hp);obtain⟨A',B',P',U',rs',fE⟩:=Wb h.jn hp z wC pC;obtain⟨x0,x1,x2,Gx,Lx⟩:=Tj hp fC.gen;obtain⟨y0,y1,y2,Gy,Ly⟩:=Tj hp fE.gen;obtain⟨m0,m1,m2,Gm,lm,Lm⟩:=yI hp Gx Gy Lx Ly;have e3:=h.cm p (P0c p) C m0 m1 m2 A B P U A' B' P' U' rs rs' Gm lm (zA hp) w0 iC wC fC fE Lm;have pq:=aR hp Gm.nz w0 wC fC.gen.1 fC.gen.2.1 fC.on fE.on Lm.h0 Lm.h1 Lm.h2 Lm.h3;refine⟨m0,m1,m2,Gm,lm,pq,?_⟩;generalize AX m0 m1 m2=TT at *;generalize A6 (P0c p)=c0 at *;generalize A6 C=cC at *;simp[IZ,Df.run,BG,e1,e2,e3]
theorem PM(hw:W4 w)(hp:P4 p)(z:Aj a b c%p≠0)(pC:PrC p C (E4 w (Cp p) a b c)):biD .len [Cc (Bh p C)]=.ok (.int (G5 p w:Ae)):=by
 rw[<-JZ hw hp z pC];show R.ok (D.int (((Bh p C).map (Am Aa)).length:Ag))=_;rw[BD]
theorem Zg(h:Hk Γ)(hp:P4 p)(iC:InC p C)(z:Aj a b c%p≠0)(pC:PrC p C (E4 1 (Cp p) a b c)):IZ.run Γ [.int p,A6 C]=.ok (.tup [.str (AQ "twice"),Am Aa (nrm p a)]):=by
  have p0:=hp.pos;have w1:W4 1:=.inr (.inl rfl);have e1:=h.wh p C hp iC;rw[CB (fun k=>absurd ((Me w1 hp z pC).mp k) (by decide))]at e1
  have e2:=h.pt p C hp iC;have ln:=PM w1 hp z pC;have wv:(G5 p 1:Ae)=p+1:=by show (((p+1).toNat:Ag):Ae)=_;omega
  rw[wv]at ln;have nA:=Mr hp z;have len:=JZ w1 hp z pC;have w2:2<=G5 p 1:=by rcases hp with rfl|rfl|rfl|rfl<;>decide
  have nd:(Bh p C).Nodup:=(LV hp).filter _;obtain⟨P,Q,g0,g1,ne,hP,hQ⟩:∃ P Q,(Bh p C)[0]?=Ab P/\(Bh p C)[1]?=Ab Q/\P≠Q/\P∈Bh p C/\Q∈Bh p C:=by
    match e:Bh p C,len,nd with
    |[],q,_=>exact absurd q (by simp;omega)
    |[_],q,_=>exact absurd q (by simp;omega)
    |x::y::r,_,nd=>
      refine⟨x,y,rfl,rfl,?_,by simp,by simp⟩
      rintro rfl;exact(B4.mp nd).1 (by simp)
  obtain⟨nP,vP⟩:=(HR hp).mp hP;obtain⟨nQ,vQ⟩:=(HR hp).mp hQ;obtain⟨y,ny,py,e3⟩:=Mb h.jn hp nP nQ ne;have ey:=Nr hp ny nA.1 py ((GV hp nA.2).mpr ((RB hp pC P).mp vP)) ((GV hp nA.2).mpr ((RB hp pC Q).mp vQ));subst ey;have i0:BQ (Cc (Bh p C)) (.int 0)=.ok (Am Aa P):=K4 g0;have i1:BQ (Cc (Bh p C)) (.int 1)=.ok (Am Aa Q):=K4 g1;have q1:¬ p+1=1:=by omega
  generalize Cc (Bh p C)=PP at *;generalize Am Aa P=tP at *;generalize Am Aa Q=tQ at *;generalize Am Aa (nrm p a)=tA at *;generalize A6 C=cC at *;simp[IZ,Df.run,BG,e1,e2,ln,q1,i0,i1,e3]
theorem Zf(h:Hk Γ)(hp:P4 p)(iC:InC p C)(z:Aj a b c%p≠0)(pC:PrC p C (E4 2 (Cp p) a b c)):∃ L1 L2,((L1=nrm p a/\L2=nrm p b)\/(L1=nrm p b/\L2=nrm p a))/\Cd (tri L1) (tri L2)=Aa/\IZ.run Γ [.int p,A6 C]=.ok (.tup [.str (AQ "lines"),Am Aa L1,Am Aa L2]):=by
 have p0:=hp.pos;have w2:W4 2:=.inr (.inr (.inl rfl));have e1:=h.wh p C hp iC;rw[CB (fun k=>absurd ((Me w2 hp z pC).mp k) (by decide))]at e1
 have e2:=h.pt p C hp iC;have ln:=PM w2 hp z pC;have wv:(G5 p 2:Ae)=2*p+1:=by show (((2*p+1).toNat:Ag):Ae)=_;omega
 rw[wv]at ln;obtain⟨L1,L2,hL,lx,e3⟩:=h.tw p C a b c hp iC z pC;refine⟨L1,L2,hL,lx,?_⟩;have q1:¬ 2*p+1=1:=by omega
 have q2:¬ 2*p+1=p+1:=by omega
 have i0:BQ (Cc [L1,L2]) (.int 0)=.ok (Am Aa L1):=rfl;have i1:BQ (Cc [L1,L2]) (.int 1)=.ok (Am Aa L2):=rfl;generalize Cc [L1,L2]=LL at *;generalize Cc (Bh p C)=PP at *;generalize Am Aa L1=t1 at *;generalize Am Aa L2=t2 at *;generalize A6 C=cC at *;generalize 2*p+1=N at *;simp[IZ,Df.run,BG,e1,e2,ln,q1,q2,e3,i0,i1]
theorem Ze(h:Hk Γ)(hp:P4 p)(iC:InC p C)(z:Aj a b c%p≠0)(pC:PrC p C (E4 3 (Cp p) a b c)):IZ.run Γ [.int p,A6 C]=.ok (.tup [.str (AQ "point"),Am Aa (nrm p (crs a b))]):=by
  have p0:=hp.pos;have w3:W4 3:=.inr (.inr (.inr rfl));have e1:=h.wh p C hp iC;rw[CB (fun k=>absurd ((Me w3 hp z pC).mp k) (by decide))]at e1
  have e2:=h.pt p C hp iC;have ln:=PM w3 hp z pC;have wv:(G5 p 3:Ae)=1:=rfl;rw[wv]at ln;have hm:nrm p (crs a b)∈Bh p C:=(HR hp).mpr ⟨(JD hp z).1,Rk hp z pC⟩;have len:(Bh p C).length=1:=JZ w3 hp z pC;have g0:(Bh p C)[0]?=Ab (nrm p (crs a b)):=by
    match e:Bh p C,len,hm with
    |[x],_,hm=>
      rw[BA]at hm;rw[hm];rfl
  have i0:BQ (Cc (Bh p C)) (.int 0)=.ok (Am Aa (nrm p (crs a b))):=K4 g0;generalize Cc (Bh p C)=PP at *;generalize Am Aa (nrm p (crs a b))=t1 at *;generalize A6 C=cC at *;simp[IZ,Df.run,BG,e1,e2,ln,i0]
end
def mN(Γ:Gam):Prop:=∀(p:Ae)(q:Ao)(C:C6)(x:R3),P4 p->InC p C->In3 p x->Γ.F 162 [.int p,A6 C,Am q x]=.ok (.int (vI C x%p))
theorem jO(Γ:Gam)(p:Ae)(q:Ao)(C:C6)(x:R3)(hp:P4 p)(iC:InC p C)(ix:In3 p x):Oc.run Γ [.int p,A6 C,Am q x]=.ok (.int (vI C x%p)):=by
 have p0:=hp.pos;have bC:=iC.b hp;have bx:=BX hp ix;have k:∀ {u v},Bd 10 u->Bd 10 v->E8 u v=Aa:=fun hu hv=>GZ hu hv (by decide) (by decide)
 have k2:∀ {u v w},Bd 10 u->Bd 10 v->Bd 10 w->E8 u (v*w)=Aa:=fun hu hv hw=>GZ hu (hv.mul hw) (by decide) (by decide)
 obtain⟨c0,c1,c2,c3,c4,c5⟩:=C;obtain⟨x0,x1,x2⟩:=x;have q00:=k bx.1 bx.1;have q11:=k bx.2.1 bx.2.1;have q22:=k bx.2.2 bx.2.2;have q01:=k bx.1 bx.2.1;have q02:=k bx.1 bx.2.2;have q12:=k bx.2.1 bx.2.2;have m0:=k2 bC.b0 bx.1 bx.1;have m1:=k2 bC.b1 bx.2.1 bx.2.1;have m2:=k2 bC.b2 bx.2.2 bx.2.2;have m3:=k2 bC.b3 bx.1 bx.2.1;have m4:=k2 bC.b4 bx.1 bx.2.2;have m5:=k2 bC.b5 bx.2.1 bx.2.2;simp only at q00 q11 q22 q01 q02 q12 m0 m1 m2 m3 m4 m5;have sC:Co (A6 ⟨c0,c1,c2,c3,c4,c5⟩)=.ok [.int c0,.int c1,.int c2,.int c3,.int c4,.int c5]:=rfl;have as:∀ ρ:Rho,Hm [3,4,5] (Am q (x0,x1,x2)) ρ=.ok (((ρ.set 3 (si x0)).set 4 (si x1)).set 5 (si x2)):=fun _=>by cases q<;>rfl
 have ev:vI ⟨c0,c1,c2,c3,c4,c5⟩ (x0,x1,x2)=c0*(x0*x0)+c1*(x1*x1)+c2*(x2*x2)+c3*(x0*x1)+c4*(x0*x2)+c5*(x1*x2):=by
  unfold vI;simp only;grind
 rw[ev];generalize A6 ⟨c0,c1,c2,c3,c4,c5⟩=cC at *;generalize Am q (x0,x1,x2)=xx at *;generalize hz0:x0*x0=z0 at *;generalize hz1:x1*x1=z1 at *;generalize hz2:x2*x2=z2 at *;generalize hz3:x0*x1=z3 at *;generalize hz4:x0*x2=z4 at *;generalize hz5:x1*x2=z5 at *;have cp:BH (cGT Γ [si p,sh cC,sh xx,si x0,si x1,si x2,sh (.lst [.int z0,.int z1,.int z2,.int z3,.int z4,.int z5]),Af,Af] [7,8] Cn) (cFT Γ [si p,sh cC,sh xx,si x0,si x1,si x2,sh (.lst [.int z0,.int z1,.int z2,.int z3,.int z4,.int z5]),Af,Af] [7,8] Oe) (EG [.int c0,.int c1,.int c2,.int c3,.int c4,.int c5] [.int z0,.int z1,.int z2,.int z3,.int z4,.int z5])=.ok [.int (c0*z0),.int (c1*z1),.int (c2*z2),.int (c3*z3),.int (c4*z4),.int (c5*z5)]:=by
  simp[BH,cGT,cFT,EG,Oe,Cn,m0,m1,m2,m3,m4,m5]
 generalize hs:c0*z0+c1*z1+c2*z2+c3*z3+c4*z4+c5*z5=s;have sm:H9 0 [.int (c0*z0),.int (c1*z1),.int (c2*z2),.int (c3*z3),.int (c4*z4),.int (c5*z5)]=.ok s:=by rw[<-hs];simp[H9]
 simp[Oc,Df.run,BG,as,q00,q11,q22,q01,q02,q12,hz0,hz1,hz2,hz3,hz4,hz5,sC,cp,sm,p0]
noncomputable def JU:Ss:=(.cons (.ife (.or (.cons (.no (.isi (.var 4) [.tuple])) (.cons (.cmp .NotEq (.bi .len (.cons (.var 4) .nil)) (.int 3)) .nil))) (.cons (.ret (.bl Ad)) .nil) .nil) (.cons (.ext 3 (.bi .list (.cons (.bin .Add (.var 4) (.tup .nil)) .nil))) .nil))
noncomputable def Oo:E:=(.and (.cons (.isi (.var 13) [.int]) (.cons (.no (.isi (.var 13) [.bool])) (.cons (.cmp2 .LtE .Lt (.int 0) (.var 13) (.var 0)) .nil))))
noncomputable def Ol:E:=(.cmp .NotEq (.var 14) (.int 0))
noncomputable def On:E:=(.var 14)
noncomputable def MH:E:=(.bin .Mod (.bin .Add (.bin .Add (.bin .Mult (.idx (.var 15) (.int 0)) (.var 7)) (.bin .Mult (.idx (.var 15) (.int 1)) (.var 8))) (.bin .Mult (.idx (.var 15) (.int 2)) (.var 9))) (.var 0))
noncomputable def Oj:E:=(.cmp .Eq (.bin .Mod (.bin .Mult (.var 16) (.var 11)) (.var 0)) (.var 12))
noncomputable def Om:E:=(.var 16)
noncomputable def JT:Ss:=(.cons (.asgT [7,8,9] (.var 6)) (.cons (.asg 10 Ad (.comp MH 15 (.e (.var 2)) Cn)) (.cons (.asg 11 Ad (.bin .Mod (.bin .Sub (.bin .Mult (.var 7) (.var 9)) (.bin .Mult (.var 8) (.var 8))) (.var 0))) (.cons (.asg 12 Ad (.call 162 (.cons (.var 0) (.cons (.var 1) (.cons (.var 10) .nil))))) (.cons (.ife (.cmp .NotEq (.cmp .Eq (.var 11) (.int 0)) (.cmp .Eq (.var 12) (.int 0))) (.cons (.ret (.bl Ad)) .nil) .nil) (.cons (.ife (.cmp .NotEq (.var 11) (.int 0)) (.cons (.app 5 (.idx (.comp Om 16 (.rng (.var 0)) Oj) (.int 0))) .nil) .nil) .nil))))))
noncomputable def OE:Df:=⟨17,Ad,(.cons (.ife (.or (.cons (.no (.isi (.var 2) [.tuple])) (.cons (.cmp .NotEq (.bi .len (.cons (.var 2) .nil)) (.int 3)) .nil))) (.cons (.ret (.bl Ad)) .nil) .nil) (.cons (.asg 3 Aa (.lst .nil)) (.cons (.fors 4 (.e (.var 2)) JU) (.cons (.rel 3) (.cons (.ife (.no (.bi .all (.cons (.comp Oo 13 (.e (.var 3)) Cn) .nil))) (.cons (.ret (.bl Ad)) .nil) .nil) (.cons (.rel 3) (.cons (.ife (.or (.cons (.cmp .Eq (.call 165 (.cons (.var 0) (.cons (.idx (.var 2) (.int 0)) (.cons (.idx (.var 2) (.int 1)) (.cons (.idx (.var 2) (.int 2)) .nil))))) (.int 0)) (.cons (.cmp .NotEq (.idx (.comp On 14 (.e (.var 3)) Ol) (.int 0)) (.int 1)) .nil))) (.cons (.ret (.bl Ad)) .nil) .nil) (.cons (.asg 5 Aa (.lst .nil)) (.cons (.fors 6 (.e (.call 164 (.cons (.var 0) .nil))) JT) (.cons (.ret (.cmp .Eq (.bi .lset (.cons (.var 5) .nil)) (.int 1))) .nil))))))))))⟩
section
variable{Γ:Gam}{p:Ae}{C:C6}{a b c:R3}
theorem Qn(r:R3)(xs:Ac D)(cC TT:D)(s4:Sl)(hn:xs.length<=9):CT Γ 4 JU (trR r) [si p,sh cC,sh TT,Ab (.lst xs,Aa),s4,Af,Af,Af,Af,Af,Af,Af,Af,Af,Af,Af,Af]=.next [si p,sh cC,sh TT,Ab (.lst (xs++[.int r.1,.int r.2.1,.int r.2.2]),Aa),sh (trR r),Af,Af,Af,Af,Af,Af,Af,Af,Af,Af,Af,Af]:=by
 have it:G0 Γ.up [.tuple] (trR r)=.ok (.bl Aa):=rfl;have ln:biD .len [trR r]=.ok (.int 3):=rfl;have ad:CM .Add (trR r) (.tup [])=.ok (.tup [.int r.1,.int r.2.1,.int r.2.2]):=rfl;have sz:Du (xs.length+3)=Aa:=DY (by omega)
 generalize trR r=tr at *;simp[CT,JU,it,ln,ad,sz,Dj]
theorem sQ(t:Ae):∀ n:Ag,ddN (EW (n+1) t)=1:=fun n=>by
 have k:∀ n:Ag,(EW n t).foldl ddS [t]=[t]:=fun n=>by
  induction n with
  |zero=>rfl
  |succ n ih=>
   rw[Xm,W6];have:ddS [t] t=[t]:=by simp[ddS]
   rw[this];exact ih
 unfold ddN;rw[Xm,W6];have:ddS [] t=[t]:=by simp[ddS]
 rw[this,k];rfl
noncomputable def hx(p:Ae)(x:R3):Ae:=(x.1*x.2.2-x.2.1*x.2.1)%p
theorem lZ(hp:P4 p):((C7 p).filter fun x=>decide (hx p x≠0)).length≠0:=by
 rcases hp with rfl|rfl|rfl|rfl<;>decide +kernel
theorem U7(hp:P4 p):(C7 p).length<=200:=by
 rcases hp with rfl|rfl|rfl|rfl<;>decide +kernel
noncomputable def up0(p:Ae):Ac Ae:=(Bk p.toNat).map fun(k:Ag)=>(k:Ae)
theorem jG(hp:P4 p):C5 0 p=.ok (ds (up0 p)):=by
 rcases hp with rfl|rfl|rfl|rfl<;>rfl
theorem Ve(hp:P4 p):(up0 p).Nodup/\∀ k,k∈up0 p↔0<=k/\k<p:=by
 have p0:=hp.pos;constructor
 ·rcases hp with rfl|rfl|rfl|rfl<;>decide
 ·intro k;unfold up0;rw[CI];constructor
  ·rintro⟨n,hn,rfl⟩;rw[List.mem_range]at hn;omega
  ·intro h;exact⟨k.toNat,Dv.mpr (by omega),by omega⟩
theorem kL(hp:P4 p){h:Ae}(hz:h%p≠0)(t0:0<=t)(t1:t<p):(up0 p).filter (fun k=>decide (k*h%p=t*h%p))=[t]:=by
 obtain⟨nd,mm⟩:=Ve hp;refine Sk nd ((mm t).mpr ⟨t0,t1⟩) fun k hk=>?_
 rw[AJ];constructor
 ·intro e;obtain⟨k0,k1⟩:=(mm k).mp hk;have d:h*(k-t)%p=0:=by
   have:h*(k-t)=k*h-t*h:=by grind
   rw[this,Jj,e,WW,A7]
  have d2:=(E7 hp hz).mp d;have d3:k%p=t%p:=by
   have:=Int.emod_eq_emod_iff_emod_sub_eq_zero.mpr d2;exact this
  rwa [AM k0 k1,AM t0 t1]at d3
 ·rintro rfl;rfl
structure Pt (Γ:Gam) (p:Ae) (cC:D) (m0 m1 m2:R3) (t:Ae) (x:R3):Prop where
 ix:In3 p x
 far:Γ.F 162 [.int p,cC,Bv (Aq m0 x%p,Aq m1 x%p,Aq m2 x%p)]=.ok (.int (t*hx p x%p))
theorem yH(hp:P4 p){m0 m1 m2:R3}(i0:In3 p m0)(i1:In3 p m1)(i2:In3 p m2)(tz:t%p≠0)(t0:0<=t)(t1:t<p){cC:D}(h:Pt Γ p cC m0 m1 m2 t x)(xs:Ac D)(hn:xs.length<=900)(s3 s4 s6 s7 s8 s9 s10 s11 s12:Sl):∃ s6' s7' s8' s9' s10' s11' s12',CT Γ 6 JT (Am Aa x) [si p,sh cC,sh (AX m0 m1 m2),s3,s4,Ab (.lst xs,Aa),s6,s7,s8,s9,s10,s11,s12,Af,Af,Af,Af]=.next [si p,sh cC,sh (AX m0 m1 m2),s3,s4,Ab (.lst (xs++if hx p x≠0 then [.int t] else []),Aa),s6',s7',s8',s9',s10',s11',s12',Af,Af,Af,Af]:=by
 have p0:=hp.pos;have ph:=hp.hi;obtain⟨ix,far⟩:=h;have bb:∀{u v:Ae},0<=u/\u<p->DL u v=Aa:=fun hu=>HM (by omega) (by omega)
 have hh:hx p x=(x.1*x.2.2-x.2.1*x.2.1)%p:=rfl;obtain⟨h0,h1⟩:0<=hx p x/\hx p x<p:=⟨AZ _ (by omega),AW _ p0⟩
 have as:∀ ρ:Rho,Hm [7,8,9] (Am Aa x) ρ=.ok (((ρ.set 7 (si x.1)).set 8 (si x.2.1)).set 9 (si x.2.2)):=fun _=>rfl
 have q1:=bb (v:=x.2.2) ix.1;have q2:=bb (v:=x.2.1) ix.2.1;have row:∀ r:R3,In3 p r->cF Γ [si p,sh cC,sh (AX m0 m1 m2),s3,s4,Ab (.lst xs,Aa),sh (Am Aa x),si x.1,si x.2.1,si x.2.2,s10,s11,s12,Af,Af,Af,Af] 15 MH (trR r)=.ok (.int (Aq r x%p)):=fun r hr=>by
  obtain⟨r0,r1,r2⟩:BQ (trR r) (.int 0)=.ok (.int r.1)/\BQ (trR r) (.int 1)=.ok (.int r.2.1)/\BQ (trR r) (.int 2)=.ok (.int r.2.2):=⟨rfl,rfl,rfl⟩;have k0:=bb (v:=x.1) hr.1;have k1:=bb (v:=x.2.1) hr.2.1;have k2:=bb (v:=x.2.2) hr.2.2;generalize trR r=tr at *;generalize Am Aa x=xx at *;unfold Aq;simp[cF,MH,r0,r1,r2,k0,k1,k2,p0]
 have gg:∀ r,cG Γ [si p,sh cC,sh (AX m0 m1 m2),s3,s4,Ab (.lst xs,Aa),sh (Am Aa x),si x.1,si x.2.1,si x.2.2,s10,s11,s12,Af,Af,Af,Af] 15 Cn r=.ok Aa:=fun _=>rfl
 have cp:BH (cG Γ [si p,sh cC,sh (AX m0 m1 m2),s3,s4,Ab (.lst xs,Aa),sh (Am Aa x),si x.1,si x.2.1,si x.2.2,s10,s11,s12,Af,Af,Af,Af] 15 Cn) (cF Γ [si p,sh cC,sh (AX m0 m1 m2),s3,s4,Ab (.lst xs,Aa),sh (Am Aa x),si x.1,si x.2.1,si x.2.2,s10,s11,s12,Af,Af,Af,Af] 15 MH) [trR m0,trR m1,trR m2]=.ok [.int (Aq m0 x%p),.int (Aq m1 x%p),.int (Aq m2 x%p)]:=by
  simp[BH,gg,row m0 i0,row m1 i1,row m2 i2]
 have rd:D.lst [.int (Aq m0 x%p),.int (Aq m1 x%p),.int (Aq m2 x%p)]=Bv (Aq m0 x%p,Aq m1 x%p,Aq m2 x%p):=rfl;have sq:Co (AX m0 m1 m2)=.ok [trR m0,trR m1,trR m2]:=rfl;have cp3:∀ s10:Sl,BH (cG Γ [si p,sh cC,sh (AX m0 m1 m2),s3,s4,Ab (.lst xs,Aa),sh (Am Aa x),si x.1,si x.2.1,si x.2.2,s10,si (hx p x),si (t*hx p x%p),Af,Af,Af,Af] 16 Oj) (cF Γ [si p,sh cC,sh (AX m0 m1 m2),s3,s4,Ab (.lst xs,Aa),sh (Am Aa x),si x.1,si x.2.1,si x.2.2,s10,si (hx p x),si (t*hx p x%p),Af,Af,Af,Af] 16 Om) (ds (up0 p))=.ok (ds ((up0 p).filter fun k=>decide (k*hx p x%p=t*hx p x%p))):=fun s10=>by
  refine MU (up0 p) fun k hk=>⟨?_,?_⟩
  ·have:=bb (v:=hx p x) (((Ve hp).2 k).mp hk);generalize hx p x=H at *;generalize t*H%p=F at *;generalize Am Aa x=xx at *;generalize AX m0 m1 m2=TT at *;simp[cG,Oj,this,p0];rw[Cv];simp
  ·simp[cF,Om]
 have ru:=jG hp;have sz:Du (xs.length+1)=Aa:=DY (by omega)
 generalize hT:AX m0 m1 m2=TT at *;generalize hxx:Am Aa x=xx at *;by_cases hz:hx p x=0
 ·have fz:t*hx p x%p=0:=by rw[hz,Dm,A7]
  rw[fz]at far;rw[hh]at hz;rw[hh,AH (by simp[hz])]
  generalize Bv (Aq m0 x%p,Aq m1 x%p,Aq m2 x%p)=RD at *;refine⟨sh xx,si x.1,si x.2.1,si x.2.2,sh RD,si 0,si 0,?_⟩;simp[CT,JT,as,sq,cp,rd,q1,q2,p0,hz,far]
 ·have hzp:hx p x%p≠0:=by rw[AM h0 h1];exact hz
  have fz:t*hx p x%p≠0:=BJ hp tz hzp;have f1:=kL hp hzp t0 t1;rw[Ay hz];simp only[f1]at cp3;have g0:DE (ds [t]) 0=.ok (.int t):=rfl;generalize hF:t*hx p x%p=F at *;rw[hh]at hz cp3;generalize hH:(x.1*x.2.2-x.2.1*x.2.1)%p=H at *;generalize hR:Bv (Aq m0 x%p,Aq m1 x%p,Aq m2 x%p)=RD at *;refine⟨sh xx,si x.1,si x.2.1,si x.2.2,sh RD,si H,si F,?_⟩;simp[CT,JT,as,sq,cp,rd,q1,q2,p0,hH,hR,hz,far,fz,ru,cp3,g0,sz,Dj];rw[GJ hz,GJ fz]
theorem Up(hp:P4 p){m0 m1 m2:R3}(i0:In3 p m0)(i1:In3 p m1)(i2:In3 p m2){t:Ae}(tz:t%p≠0)(t0:0<=t)(t1:t<p){cC:D}{s3 s4:Sl}:∀(l:Ac R3)(xs:Ac D)(s6 s7 s8 s9 s10 s11 s12:Sl),(∀ x∈l,Pt Γ p cC m0 m1 m2 t x)->xs.length+l.length<=900->∃ s6' s7' s8' s9' s10' s11' s12',DF (CT Γ 6 JT) (l.map (Am Aa)) [si p,sh cC,sh (AX m0 m1 m2),s3,s4,Ab (.lst xs,Aa),s6,s7,s8,s9,s10,s11,s12,Af,Af,Af,Af]=.next [si p,sh cC,sh (AX m0 m1 m2),s3,s4,Ab (.lst (xs++(l.filter fun x=>decide (hx p x≠0)).map fun _=>.int t),Aa),s6',s7',s8',s9',s10',s11',s12',Af,Af,Af,Af]
 |[],xs,s6,s7,s8,s9,s10,s11,s12,_,_=>⟨s6,s7,s8,s9,s10,s11,s12,by simp[DF]⟩
 |x::l,xs,s6,s7,s8,s9,s10,s11,s12,h,hn=>by
  rw[Ck]at hn;obtain⟨a6,a7,a8,a9,a10,a11,a12,e1⟩:=yH hp i0 i1 i2 tz t0 t1 (h x (Ax ..)) xs (by omega) s3 s4 s6 s7 s8 s9 s10 s11 s12
  obtain⟨b6,b7,b8,b9,b10,b11,b12,e2⟩:=Up hp i0 i1 i2 tz t0 t1 l (xs++if hx p x≠0 then [.int t] else []) a6 a7 a8 a9 a10 a11 a12 (fun y hy=>h y (Au _ hy)) (by
   rw[Cw];split<;>simp<;>omega)
  refine⟨b6,b7,b8,b9,b10,b11,b12,?_⟩;rw[B7];show (CT Γ 6 JT (Am Aa x) _).turn _=_;rw[e1];show DF (CT Γ 6 JT) (l.map (Am Aa)) _=_;rw[e2,DI];by_cases hz:hx p x=0
  ·simp[hz]
  ·simp[hz]
theorem Tq:∀ xs:Ac Ae,HV (ds xs)=Ab xs
 |[]=>rfl
 |x::xs=>by
  show (HV (ds xs)).map (x :: ·)=_;rw[Tq xs];rfl
def YR(Γ:Gam):Prop:=∀(p:Ae)(C:C6)(m0 m1 m2:R3),GoodR p m0 m1 m2->AY p (nine m0 m1 m2)=Ab 1->InC p C->PrC p (pb C m0 m1 m2) (P0c p)->Γ.F 166 [.int p,A6 C,AX m0 m1 m2]=.ok (.bl Aa)
theorem wZ(ha:Wy Γ)(hv:mN Γ)(hm:Wv Γ){m0 m1 m2:R3}(G:GoodR p m0 m1 m2)(l1:AY p (nine m0 m1 m2)=Ab 1)(iC:InC p C)(pr:PrC p (pb C m0 m1 m2) (P0c p)):OE.run Γ [.int p,A6 C,AX m0 m1 m2]=.ok (.bl Aa):=by
 have hp:=G.p4;have p0:=hp.pos;have ph:=hp.hi;have it:G0 Γ.up [.tuple] (AX m0 m1 m2)=.ok (.bl Aa):=rfl;have ln:biD .len [AX m0 m1 m2]=.ok (.int 3):=rfl;have sq:Co (AX m0 m1 m2)=.ok [trR m0,trR m1,trR m2]:=rfl;have x0:BQ (AX m0 m1 m2) (.int 0)=.ok (Am Aa m0):=rfl;have x1:BQ (AX m0 m1 m2) (.int 1)=.ok (Am Aa m1):=rfl;have x2:BQ (AX m0 m1 m2) (.int 2)=.ok (Am Aa m2):=rfl;have lp:DF (CT Γ 4 JU) [trR m0,trR m1,trR m2] [si p,sh (A6 C),sh (AX m0 m1 m2),Ab (.lst [],Aa),Af,Af,Af,Af,Af,Af,Af,Af,Af,Af,Af,Af,Af]=.next [si p,sh (A6 C),sh (AX m0 m1 m2),Ab (.lst (ds (nine m0 m1 m2)),Aa),sh (trR m2),Af,Af,Af,Af,Af,Af,Af,Af,Af,Af,Af,Af]:=by
  have a1:=Qn (Γ:=Γ) (p:=p) m0 [] (A6 C) (AX m0 m1 m2) Af (by simp)
  have a2:=Qn (Γ:=Γ) (p:=p) m1 ([]++[.int m0.1,.int m0.2.1,.int m0.2.2]) (A6 C) (AX m0 m1 m2) (sh (trR m0)) (by simp)
  have a3:=Qn (Γ:=Γ) (p:=p) m2 (([]++[.int m0.1,.int m0.2.1,.int m0.2.2])++[.int m1.1,.int m1.2.1,.int m1.2.2]) (A6 C) (AX m0 m1 m2) (sh (trR m1)) (by simp)
  show (CT Γ 4 JU (trR m0) _).turn _=_;rw[a1,Ph];show (CT Γ 4 JU (trR m1) _).turn _=_;rw[a2,Ph];show (CT Γ 4 JU (trR m2) _).turn _=_;rw[a3,Ph];rfl
 have i9:∀ v∈nine m0 m1 m2,0<=v/\v<p:=by
  intro x hx;unfold nine at hx;simp at hx;rcases hx with rfl|rfl|rfl|rfl|rfl|rfl|rfl|rfl|rfl
  ·exact G.ia.1
  ·exact G.ia.2.1
  ·exact G.ia.2.2
  ·exact G.ib.1
  ·exact G.ib.2.1
  ·exact G.ib.2.2
  ·exact G.ic.1
  ·exact G.ic.2.1
  ·exact G.ic.2.2
 have l0:((nine m0 m1 m2).filter fun v=>decide (v≠0)).head?=Ab 1:=by
  rw[<-l1,Tn _ i9]
  congr 1
  refine FS fun v hv=>?_
  have:=i9 v hv;rw[Ey];omega
 have e1:=hm p m0 m1 m2 hp G.ia G.ib G.ic;have nz:¬ Aj m0 m1 m2%p=0:=G.nz
 -- the factor
 obtain⟨d,dz,e⟩:=pr;have e2:=ha p hp;have key:∀ x:R3,vI C (ap m0 m1 m2 x)%p=(-d)%p*hx p x%p:=fun x=>by
  rw[<-Mt];have q:=(Iy e (CgR.rfl (a:=x))).trans (Cg.of (J5 d _ x));rw[show vI (pb C m0 m1 m2) x%p=_ from q]
  have v0:vI (P0c p) x=p*(x.1*x.2.2)-(x.1*x.2.2-x.2.1*x.2.1):=by
   unfold vI P0c;simp only;grind
  have g:Cg p (d*vI (P0c p) x) ((-d)%p*hx p x):=by
   have g1:Cg p ((-d)%p*hx p x) ((-d)*(x.1*x.2.2-x.2.1*x.2.1)):=Cg.mul (Cg.md rfl) (Cg.md rfl);refine Cg.trans ?_ g1.symm;rw[v0];show (d*(p*(x.1*x.2.2)-(x.1*x.2.2-x.2.1*x.2.1)))%p=(-d*(x.1*x.2.2-x.2.1*x.2.1))%p;have:d*(p*(x.1*x.2.2)-(x.1*x.2.2-x.2.1*x.2.1))=-d*(x.1*x.2.2-x.2.1*x.2.1)+p*(d*(x.1*x.2.2)):=by grind
   rw[this,Fd]
  exact g
 have t0:0<=(-d)%p:=AZ _ (by omega)
 have t1:(-d)%p<p:=AW _ p0;have tz:(-d)%p%p≠0:=by
  rw[AV _ (BB p)];intro z;exact dz (WS (WP.mp (WQ z)))
 generalize (-d)%p=t at *;have pts:∀ x∈C7 p,Pt Γ p (A6 C) m0 m1 m2 t x:=fun x hx=>by
  have nx:=(ED hp).mp hx;have rng:∀ v:Ae,0<=v%p/\v%p<p:=fun v=>⟨AZ _ (by omega),AW _ p0⟩
  have f:=hv p Ad C (Aq m0 x%p,Aq m1 x%p,Aq m2 x%p) hp iC ⟨rng _,rng _,rng _⟩;have c:Cg p (vI C (Aq m0 x%p,Aq m1 x%p,Aq m2 x%p)) (vI C (ap m0 m1 m2 x)):=Iy (CgC.of rfl) ⟨Cg.md rfl,Cg.md rfl,Cg.md rfl⟩;rw[show vI C (Aq m0 x%p,Aq m1 x%p,Aq m2 x%p)%p=_ from c,key x]at f
  exact⟨nx.1,f⟩
 obtain⟨s6,s7,s8,s9,s10,s11,s12,lp2⟩:=Up hp G.ia G.ib G.ic tz t0 t1 (s3:=sh (.lst (ds (nine m0 m1 m2)))) (s4:=sh (trR m2)) (C7 p) [] Af Af Af Af Af Af Af pts (by have:=U7 hp;simp;omega)
 have fin:K8 ([]++((C7 p).filter fun x=>decide (hx p x≠0)).map fun _=>.int t)=.ok (.int 1):=by
  have hs:=lZ hp;have hl:((C7 p).filter fun x=>decide (hx p x≠0)).length<=200:=BK (List.length_filter_le _ _) (U7 hp)
  generalize ((C7 p).filter fun x=>decide (hx p x≠0))=L at *
  have em:([]++L.map fun _=>D.int t)=ds (EW L.length t):=by
   rw[List.nil_append]
   clear hs hl lp2
   induction L with
   |nil=>rfl
   |cons y L ih=>
    rw[B7,ih];rfl
  rw[em];unfold K8;rw[Tq];show (if En (EW L.length t).length 4000=Aa then _ else _)=_
  rw[Gg,Ay (DY (by omega))]
  obtain⟨n,hn⟩:=Nat.exists_eq_succ_of_ne_zero hs;rw[hn,sQ];rfl
 have c1:BH (cG Γ [si p,sh (A6 C),sh (AX m0 m1 m2),sh (.lst (ds (nine m0 m1 m2))),sh (trR m2),Af,Af,Af,Af,Af,Af,Af,Af,Af,Af,Af,Af] 13 Cn) (cF Γ [si p,sh (A6 C),sh (AX m0 m1 m2),sh (.lst (ds (nine m0 m1 m2))),sh (trR m2),Af,Af,Af,Af,Af,Af,Af,Af,Af,Af,Af,Af] 13 Oo) (ds (nine m0 m1 m2))=.ok ((nine m0 m1 m2).map fun _=>D.bl Aa):=by
  refine UI _ fun x hm=>⟨rfl,?_⟩
  obtain⟨h0,h1⟩:=i9 x hm;simp[cF,Oo,kiD,FJ,h0,h1]
 have c2:BH (cG Γ [si p,sh (A6 C),sh (AX m0 m1 m2),sh (.lst (ds (nine m0 m1 m2))),sh (trR m2),Af,Af,Af,Af,Af,Af,Af,Af,Af,Af,Af,Af] 14 Ol) (cF Γ [si p,sh (A6 C),sh (AX m0 m1 m2),sh (.lst (ds (nine m0 m1 m2))),sh (trR m2),Af,Af,Af,Af,Af,Af,Af,Af,Af,Af,Af,Af] 14 On) (ds (nine m0 m1 m2))=.ok (ds ((nine m0 m1 m2).filter fun v=>decide (v≠0))):=by
  refine MU _ fun x hm=>⟨?_,?_⟩
  ·simp[cG,Ol];rw[Cv];simp
  ·simp[cF,On]
 have g1:=O4 l0;have sa:Co (Cc (C7 p))=.ok ((C7 p).map (Am Aa)):=rfl;have at':=Ud (nine m0 m1 m2);generalize (nine m0 m1 m2).map (fun _=>D.bl Aa)=BL at *
 generalize ds ((nine m0 m1 m2).filter fun v=>decide (v≠0))=FL at *
 generalize ds (nine m0 m1 m2)=N9 at *;generalize ([]++((C7 p).filter fun x=>decide (hx p x≠0)).map fun _=>D.int t)=XL at *
 generalize (C7 p).map (Am Aa)=AL at *;generalize Cc (C7 p)=AA at *;generalize AX m0 m1 m2=TT at *;generalize trR m0=r0 at *;generalize trR m1=r1 at *;generalize trR m2=r2 at *;generalize Am Aa m0=q0 at *;generalize Am Aa m1=q1 at *;generalize Am Aa m2=q2 at *;generalize A6 C=cC at *;generalize Aj m0 m1 m2%p=dd at *;have rl1:evS Γ [si p,sh cC,sh TT,Ab (.lst N9,Aa),sh r2,Af,Af,Af,Af,Af,Af,Af,Af,Af,Af,Af,Af] (.rel 3)=.next [si p,sh cC,sh TT,sh (.lst N9),sh r2,Af,Af,Af,Af,Af,Af,Af,Af,Af,Af,Af,Af]:=rfl;have rl2:evS Γ [si p,sh cC,sh TT,sh (.lst N9),sh r2,Af,Af,Af,Af,Af,Af,Af,Af,Af,Af,Af,Af] (.rel 3)=.next [si p,sh cC,sh TT,sh (.lst N9),sh r2,Af,Af,Af,Af,Af,Af,Af,Af,Af,Af,Af,Af]:=rfl;simp[OE,Df.run,BG,E2,rl1,rl2,it,ln,sq,lp,c1,at',x0,x1,x2,e1,nz,c2,g1,e2,sa,lp2,fin]
end
theorem jJ(hl:ns.length<=63)(hm:KR Γ mid ns)(p:Ae)(hp:P4 p):∃ a b c,GoodR p a b c/\(Mz mid).run Γ [.int p,scr ns,.int 11]=.ok (GH a b c):=by
 have g0:GoodR p e0R e1R e2R:=(UP hp).1;have r1:C5 11 20=.ok (Ch 11 9):=rfl;generalize hn:(if (63:Ae)<(ns.length:Ae) then (63:Ae) else (ns.length:Ae))=n
 have n0:0<=n/\n<=63:=by split at hn<;>omega
 have r2:C5 23 n=.ok (Ch 23 (n-23).toNat):=Pk (by decide) (by decide) (by omega) (by omega)
 have ad:CM .Add (.lst (Ch 11 9)) (.lst (Ch 23 (n-23).toNat))=.ok (.lst (Ch 11 9++Ch 23 (n-23).toNat)):=by
  rw[NC,Ay];rw[Jy,Jy];unfold Du;simp;omega
 obtain⟨ρ',e,a,b,c,s4,s5,s6,s7,s8,g,rfl⟩:=Ng (body:=CT Γ 4 (FI mid)) (fun ρ=>∃ a b c s4 s5 s6 s7 s8,GoodR p a b c/\ρ=[si p,sh (scr ns),si 11,Ab (.lst (L3 a b c),Aa),s4,s5,s6,s7,s8,Af,Af,Af]) (Ch 11 9++Ch 23 (n-23).toNat) [si p,sh (scr ns),si 11,Ab (.lst (L3 e0R e1R e2R),Aa),Af,Af,Af,Af,Af,Af,Af,Af] ⟨_,_,_,_,_,_,_,_,g0,rfl⟩ (by
  rintro x hx ρ ⟨a,b,c,s4,s5,s6,s7,s8,g,rfl⟩;have hk:∃ k:Ae,0<=k/\x=.int k:=by
   rcases Gp.mp hx with z|z
   ·obtain⟨j,_,rfl⟩:=Nc z;exact⟨_,by omega,rfl⟩
   ·obtain⟨j,_,rfl⟩:=Nc z;exact⟨_,by omega,rfl⟩
  obtain⟨k,k0,rfl⟩:=hk;obtain⟨a',b',c',v5,v6,v7,v8,g',e⟩:=TC (s2:=si 11) (s4:=s4) (s5:=s5) (s6:=s6) (s7:=s7) (s8:=s8) hm g k0;exact⟨_,e,a',b',c',_,_,_,_,_,g',rfl⟩)
 refine⟨a,b,c,g,?_⟩;have ln:biD .len [scr ns]=.ok (.int ns.length):=by simp[scr]
 have mn:biD .min [.int (ns.length:Ae),.int 63]=.ok (.int n):=by rw[<-hn];rfl
 have sq:Co (.lst (Ch 11 9++Ch 23 (n-23).toNat))=.ok (Ch 11 9++Ch 23 (n-23).toNat):=rfl;have e':DF (CT Γ 4 (FI mid)) (Ch 11 9++Ch 23 (n-23).toNat) [si p,sh (scr ns),si 11,Ab (.lst [.lst [.int 1,.int 0,.int 0],.lst [.int 0,.int 1,.int 0],.lst [.int 0,.int 0,.int 1]],Aa),Af,Af,Af,Af,Af,Af,Af,Af]=_:=e;generalize Ch 11 9=A at *;generalize Ch 23 (n-23).toNat=B at *;generalize scr ns=S at *;simp[Mz,Df.run,BG,E2,ln,mn,r1,r2,ad,sq,e'];rfl
noncomputable def OS:Df:=⟨3,Ad,(.cons (.ret (.call 17 (.cons (.var 0) (.cons (.call 91 (.cons (.var 0) (.cons (.call 98 (.cons (.var 1) .nil)) (.cons (.var 2) .nil)))) .nil)))) .nil)⟩
section
variable{Γ:Gam}{p k:Ae}{C D:C6}{a b c m0 m1 m2 l x:R3}
theorem PU(z:Aj a b c%p≠0):a≠b/\b≠c/\c≠a:=by
 refine⟨?_,?_,?_⟩
 ·rintro rfl;exact z (by rw[show Aj a a c=0 by unfold Aj det;grind];simp)
 ·rintro rfl;exact z (by rw[show Aj a b b=0 by unfold Aj det;grind];simp)
 ·rintro rfl;exact z (by rw[show Aj c b c=0 by unfold Aj det;grind];simp)
theorem rW(u v a b c:R3):pb (prd u v) a b c=prd (rm u a b c) (rm v a b c):=by
 unfold pb prd vI bI tw0 tw1 tw2 ap rm Aq Bq Bm Bl;simp only[C6.mk.injEq];refine⟨?_,?_,?_,?_,?_,?_⟩<;>grind
theorem QC(C D:C6)(x y:R3):bI (FK C D) x y=bI C x y-bI D x y:=by unfold bI FK tw0 tw1 tw2 ap Aq;grind
theorem qR(C D:C6)(a b c:R3):pb (FK C D) a b c=FK (pb C a b c) (pb D a b c):=by
 unfold pb;rw[KW,KW,KW,QC,QC,QC];rfl
theorem Zc(a b c:R3):rm e0R a b c=a/\rm e1R a b c=b/\rm e2R a b c=c:=by
 unfold rm Aq Bq Bm Bl e0R e1R e2R;simp
theorem Wz(hw:W4 w)(k:Ae)(a b c:R3):E4 w k a b c=pb (E4 w k e0R e1R e2R) a b c:=by
 obtain⟨r0,r1,r2⟩:=Zc a b c;rcases hw with rfl|rfl|rfl|rfl<;>simp only[E4,qR,QV,rW,r0,r1,r2]
theorem lJ(hw:W4 w)(hp:P4 p)(h:PrC p C (E4 w k a b c))(hD:PrC p D (pb C m0 m1 m2)):PrC p D (E4 w k (rm a m0 m1 m2) (rm b m0 m1 m2) (rm c m0 m1 m2)):=by
 refine hD.trans hp ?_;rw[Wz hw k (rm a m0 m1 m2),<-V3,<-Wz hw];exact PrC.pb h
noncomputable def tlR(m0 m1 m2 l:R3):R3:=(Aq (crs m1 m2) l,Aq (crs m2 m0) l,Aq (crs m0 m1) l)
theorem Ld(m0 m1 m2 l:R3):tlR m0 m1 m2 l=rm l (bk0 m0 m1 m2) (bk1 m0 m1 m2) (bk2 m0 m1 m2):=rfl
theorem vF(hp:P4 p){l l':R3}(h:Pr p l l'):Pr p (tlR m0 m1 m2 l) (tlR m0 m1 m2 l'):=by
 obtain⟨d,dz,e⟩:=h;refine⟨d,dz,?_⟩;have k:∀ u,Cg p (Aq u l) (d*Aq u l'):=fun u=>(EF (CgR.rfl (a:=u)) e).trans (Cg.of (by unfold Aq AB;simp only;grind))
 exact⟨k _,k _,k _⟩
def Zx(Γ:Gam):Prop:=∀(p:Ae)(m0 m1 m2 l l':R3),GoodR p m0 m1 m2->NF p l->Pr p l l'->(∃ s,Aq (tlR m0 m1 m2 l') s%p≠0)->Γ.F 99 [.int p,AX m0 m1 m2,Am Aa l]=.ok (Am Aa (nrm p (tlR m0 m1 m2 l')))
theorem Zd(hs:KQ Γ)(hc:Qe Γ)(hf:KI Γ){l':R3}(G:GoodR p m0 m1 m2)(nl:NF p l)(pl:Pr p l l')(z:∃ s,Aq (tlR m0 m1 m2 l') s%p≠0):OS.run Γ [.int p,AX m0 m1 m2,Am Aa l]=.ok (Am Aa (nrm p (tlR m0 m1 m2 l'))):=by
 have hp:=G.p4;have p0:=hp.pos;have bb:∀ {r},In3 p r->Bn 10 r:=fun h=>BX hp h
 have b3:∀ {r},In3 p r->B3 r:=fun h=>(BX hp h).b3 (by decide)
 have e1:Γ.F 98 [AX m0 m1 m2]=.ok (Ds Aa Aa (crs m1 m2) (crs m2 m0) (crs m0 m1)):=hc m0 m1 m2 (b3 G.ia) (b3 G.ib) (b3 G.ic) (PU G.nz).1 (PU G.nz).2.1 (PU G.nz).2.2;have e2:=hs p Aa Aa Aa (crs m1 m2) (crs m2 m0) (crs m0 m1) l p0 ((J7 (bb G.ib) (bb G.ic)).b3 (by decide)) ((J7 (bb G.ic) (bb G.ia)).b3 (by decide)) ((J7 (bb G.ia) (bb G.ib)).b3 (by decide)) (b3 nl.1)
 obtain⟨s,hz⟩:=z;have pt:=vF (m0:=m0) (m1:=m1) (m2:=m2) hp pl;have gm:CgR p (Aq (crs m1 m2) l%p,Aq (crs m2 m0) l%p,Aq (crs m0 m1) l%p) (tlR m0 m1 m2 l):=⟨Cg.md rfl,Cg.md rfl,Cg.md rfl⟩;have pm:Pr p (Aq (crs m1 m2) l%p,Aq (crs m2 m0) l%p,Aq (crs m0 m1) l%p) (tlR m0 m1 m2 l'):=Pr.trans hp ⟨1,hp.o1,gm.trans (CgR.of (by unfold AB;simp))⟩ pt
 obtain⟨ll,ell⟩:=Nl hz;obtain⟨n1,n2⟩:=Nb hp ell;have nzr:∃ l2:Ae,AY p (tri (Aq (crs m1 m2) l%p,Aq (crs m2 m0) l%p,Aq (crs m0 m1) l%p))=Ab l2:=by
  refine Nl (s:=s) ?_;intro h;refine hz ((NL hp pm ⟨1,hp.o1,CgR.of (by unfold AB;simp)⟩).mp h)
 generalize (Aq (crs m1 m2) l%p,Aq (crs m2 m0) l%p,Aq (crs m0 m1) l%p)=R at *;obtain⟨l2,el⟩:=nzr;obtain⟨u,iu,j,l1,pr,ef⟩:=M7 hp el;have e3:=hf p Aa _ l2 u hp el iu;rw[ef]at e3;have e3':Γ.F 17 [.int p,Am Aa R]=.ok (Am Aa (fmR p u R)):=e3;have q:fmR p u R=nrm p (tlR m0 m1 m2 l'):=K0 hp ⟨j,l1⟩ n1 ((pr.trans hp pm).trans hp (n2.symm hp));rw[q]at e3';generalize Am Aa (nrm p (tlR m0 m1 m2 l'))=Y at *;generalize Am Aa R=RR at *;generalize Am Aa l=lt at *;generalize AX m0 m1 m2=TT at *;generalize Ds Aa Aa (crs m1 m2) (crs m2 m0) (crs m0 m1)=XX at *;simp[OS,Df.run,BG,e1,e2,e3']
end
noncomputable def MM:E:=(.call 99 (.cons (.var 1) (.cons (.var 6) (.cons (.var 10) .nil))))
noncomputable def KF:Df:=⟨11,Ad,(.cons (.asg 1 Ad (.call 169 (.cons (.var 0) .nil))) (.cons (.asg 2 Ad (.bin .Mod (.bin .FloorDiv (.call 38 (.cons (.var 0) (.cons (.int 10) .nil))) (.int 7)) (.int 4))) (.cons (.asg 3 Ad (.call 163 (.cons (.var 1) (.cons (.call 176 (.cons (.var 1) (.cons (.var 0) (.cons (.int 1) .nil)))) (.cons (.var 2) .nil))))) (.cons (.asg 4 Ad (.call 176 (.cons (.var 1) (.cons (.var 0) (.cons (.int 11) .nil))))) (.cons (.asg 5 Ad (.call 158 (.cons (.var 1) (.cons (.bin .Add (.bin .Add (.idx (.var 4) (.int 0)) (.idx (.var 4) (.int 1))) (.idx (.var 4) (.int 2))) .nil)))) (.cons (.asg 6 Ad (.tup (.cons (.sl (.var 5) (.int 0) (.int 3)) (.cons (.sl (.var 5) (.int 3) (.int 6)) (.cons (.sl (.var 5) (.int 6) (.int 9)) .nil))))) (.cons (.asg 7 Ad (.call 133 (.cons (.var 1) (.cons (.var 3) (.cons (.var 6) .nil))))) (.cons (.asg 8 Ad (.call 154 (.cons (.var 1) (.cons (.var 3) .nil)))) (.cons (.asg 9 Ad (.call 154 (.cons (.var 1) (.cons (.var 7) .nil)))) (.cons (.ife (.cmp .Eq (.var 2) (.int 0)) (.cons (.ret (.and (.cons (.cmp .Eq (.idx (.var 9) (.int 0)) (.str (AQ "whole"))) (.cons (.call 166 (.cons (.var 1) (.cons (.var 7) (.cons (.idx (.var 9) (.int 1)) .nil)))) .nil)))) .nil) .nil) (.cons (.ife (.cmp .Eq (.var 2) (.int 3)) (.cons (.ret (.cmp .Eq (.var 9) (.tup (.cons (.str (AQ "point")) (.cons (.call 92 (.cons (.var 1) (.cons (.var 6) (.cons (.idx (.var 8) (.int 1)) .nil)))) .nil))))) .nil) .nil) (.cons (.ret (.cmp .Eq (.var 9) (.bin .Add (.tup (.cons (.idx (.var 8) (.int 0)) .nil)) (.bi .tuple (.cons (.bi .sorted (.cons (.comp MM 10 (.e (.sl (.var 8) (.int 1) .non)) Cn) .nil)) .nil))))) .nil))))))))))))⟩
section
variable{Γ:Gam}{p:Ae}{ns:Ac Ae}
def tX(Γ:Gam)(ns:Ac Ae):Prop:=∀(p:Ae),P4 p->∃ a b c,GoodR p a b c/\Γ.F 176 [.int p,scr ns,.int 11]=.ok (GH a b c)
structure H44 (Γ:Gam) (ns:Ac Ae):Prop where
 prime:fD Γ 169 ns
 mix:KR Γ 38 ns
 tbl:zQ Γ 176 ns
 tb11:tX Γ ns
 cv:YS Γ
 f3:Qd Γ
 mv:UE Γ
 kd:Kd Γ
 md:YR Γ
 lp:Qv Γ
 ll:Zx Γ
theorem Wd(s:Ak)(ys:Ac R3):flD 5 (.tup (.str s::ys.map (Am Aa)))=Aa/\eqD (.tup (.str s::ys.map (Am Aa))) (.tup (.str s::ys.map (Am Aa)))=Aa:=by
 constructor
 ·have:flD 5 (.tup (.str s::ys.map (Am Aa)))=(.str s::ys.map (Am Aa)).all (flD 4):=rfl;rw[this];simp;exact fun _ _ _ _=>rfl
 ·show (eqD (.str s) (.str s)&&eqDs (ys.map (Am Aa)) (ys.map (Am Aa)))=Aa;have e1:eqD (.str s) (.str s)=Aa:=DM s;rw[e1,Bool.true_and]
  induction ys with
  |nil=>rfl
  |cons y ys ih=>
   show (eqD (Am Aa y) (Am Aa y)&&eqDs (ys.map (Am Aa)) (ys.map (Am Aa)))=Aa;rw[(QH y).2,ih];rfl
structure G44 (Γ:Gam) (p:Ae) (w:Ag) (cC cD TT:D):Prop where
 w0:w=0->∃ F T,Γ.F 154 [.int p,cC]=.ok F/\Γ.F 154 [.int p,cD]=.ok (.tup [.str (AQ "whole"),T])/\Γ.F 166 [.int p,cD,T]=.ok (.bl Aa)
 w3:w=3->∃ x y,Γ.F 154 [.int p,cC]=.ok (.tup [.str (AQ "point"),Am Aa x])/\Γ.F 154 [.int p,cD]=.ok (.tup (.str (AQ "point")::[y].map (Am Aa)))/\Γ.F 92 [.int p,TT,Am Aa x]=.ok (Am Aa y)
 w12:w=1\/w=2->∃(s:Ak)(X Y:Ac D)(Z:Ac R3),Γ.F 154 [.int p,cC]=.ok (.tup (.str s::X))/\Γ.F 154 [.int p,cD]=.ok (.tup (.str s::Z.map (Am Aa)))/\(∀{g:D->R Ao}{f:D->R D},(∀ r,g r=.ok Aa)->(∀ r y,Γ.F 99 [.int p,TT,r]=.ok y->f r=.ok y)->BH g f X=.ok Y)/\Fm Y=.ok (Z.map (Am Aa))/\Z.length<=2/\slD (.tup (.str s::X)) (Ab 1) Af=.ok (.tup X)/\BQ (.tup (.str s::X)) (.int 0)=.ok (.str s)
theorem ag{x y:D}(hg:g x=.ok Aa)(hf:f x=.ok y):BH g f [x]=.ok [y]:=by
 simp[BH,hg,hf]
theorem Wf{x y x' y':D}(hg:g x=.ok Aa)(hf:f x=.ok y)(hg':g x'=.ok Aa)(hf':f x'=.ok y'):BH g f [x,x']=.ok [y,y']:=by
 simp[BH,hg,hf,hg',hf']
theorem vD(y:R3):Fm [Am Aa y]=.ok ([y].map (Am Aa)):=by
 have:=Z4 (rs:=[tri y]) (by intro r hr;rw[BA]at hr;subst hr;simp[tri]) (by simp) (by simp)
 simp only[B7,FC,<-Vn]at this;exact this
theorem g44(h:H44 Γ ns)(hw:W4 w){a b c m0 m1 m2:R3}{C D:C6}(G:GoodR p a b c)(iC:InC p C)(pC:PrC p C (E4 w (Cp p) a b c))(M:GoodR p m0 m1 m2)(iD:InC p D)(pD:PrC p D (pb C (bk0 m0 m1 m2) (bk1 m0 m1 m2) (bk2 m0 m1 m2))):G44 Γ p w (A6 C) (A6 D) (AX m0 m1 m2):=by
  have hp:=G.p4;have zB:Aj (bk0 m0 m1 m2) (bk1 m0 m1 m2) (bk2 m0 m1 m2)%p≠0:=by rw[HN];exact BJ hp M.nz M.nz
  have z:Aj (tlR m0 m1 m2 a) (tlR m0 m1 m2 b) (tlR m0 m1 m2 c)%p≠0:=by rw[Ld,Ld,Ld,VD];exact BJ hp G.nz zB
  have pE:PrC p D (E4 w (Cp p) (tlR m0 m1 m2 a) (tlR m0 m1 m2 b) (tlR m0 m1 m2 c)):=by
    rw[Ld,Ld,Ld];exact lJ hw hp pC pD
  have nA:=Mr hp G.nz;have nB:=Mr hp (QO G.nz);have za:∃ s,Aq (tlR m0 m1 m2 a) s%p≠0:=⟨_,by rw[We];exact z⟩
  have zb:∃ s,Aq (tlR m0 m1 m2 b) s%p≠0:=⟨_,by rw[zW];exact z⟩
  refine⟨?_,?_,?_⟩
  · rintro rfl;obtain⟨x0,x1,x2,Gx,lx,px,e1⟩:=h.kd.k0 p C a b c hp iC G.nz pC;obtain⟨y0,y1,y2,Gy,ly,py,e2⟩:=h.kd.k0 p D _ _ _ hp iD z pE;exact⟨.tup [.str (AQ "whole"),AX x0 x1 x2],AX y0 y1 y2,e1,e2,h.md p D y0 y1 y2 Gy ly iD py⟩
  · rintro rfl;have e1:=h.kd.k3 p C a b c hp iC G.nz pC;have e2:=h.kd.k3 p D _ _ _ hp iD z pE;obtain⟨nx,px⟩:=JD hp G.nz;obtain⟨g,ig,lg,pg,e3⟩:=h.lp p m0 m1 m2 _ M nx.1 nx.2;refine⟨nrm p (crs a b),nrm p (crs (tlR m0 m1 m2 a) (tlR m0 m1 m2 b)),e1,e2,?_⟩;have vx:=Rk hp G.nz pC;have hg:g∈Bh p D:=by
      refine(HR hp).mpr ⟨⟨ig,lg⟩,?_⟩;rw[NM hp pg];obtain⟨d,dz,e⟩:=pD;have q:=(Iy e (CgR.rfl (a:=ap m0 m1 m2 (nrm p (crs a b))))).trans (Cg.of (J5 d _ _));rw[show vI D (ap m0 m1 m2 (nrm p (crs a b)))%p=_ from q,E7 hp dz,Mt,NR,Qh,E7 hp (BJ hp M.nz M.nz)]
      exact vx
    have hm:nrm p (crs (tlR m0 m1 m2 a) (tlR m0 m1 m2 b))∈Bh p D:=(HR hp).mpr ⟨(JD hp z).1,Rk hp z pE⟩;have len:(Bh p D).length=1:=JZ (.inr (.inr (.inr rfl))) hp z pE;have eq:g=nrm p (crs (tlR m0 m1 m2 a) (tlR m0 m1 m2 b)):=by
      match e:Bh p D,len,hm,hg with
      |[x],_,hm,hg=>
        rw[BA]at hm hg;rw[hm,hg]
    rw[<-eq];exact e3
  · rintro (rfl|rfl)
    · have e1:=h.kd.k1 p C a b c hp iC G.nz pC;have e2:=h.kd.k1 p D _ _ _ hp iD z pE;have e3:=h.ll p m0 m1 m2 _ _ M nA.1 nA.2 za;exact⟨AQ "twice", [Am Aa (nrm p a)],[Am Aa (nrm p (tlR m0 m1 m2 a))],[nrm p (tlR m0 m1 m2 a)],e1,e2,fun hg hf=>ag (hg _) (hf _ _ e3),vD _,F0 1,rfl,rfl⟩
    · obtain⟨L1,L2,hL,lx,e1⟩:=h.kd.k2 p C a b c hp iC G.nz pC;obtain⟨K1,K2,hK,ly,e2⟩:=h.kd.k2 p D _ _ _ hp iD z pE;have ea:=h.ll p m0 m1 m2 _ _ M nA.1 nA.2 za;have eb:=h.ll p m0 m1 m2 _ _ M nB.1 nB.2 zb;have nt:nrm p (tlR m0 m1 m2 a)≠nrm p (tlR m0 m1 m2 b):=by
        intro e;rcases hK with ⟨rfl,rfl⟩|⟨rfl,rfl⟩
        · rw[e]at ly;exact absurd (JA ly) (by rw[ly];decide)
        · rw[e]at ly;exact absurd (JA ly) (by rw[ly];decide)
      have so:∀ x y:R3,(x=nrm p (tlR m0 m1 m2 a)/\y=nrm p (tlR m0 m1 m2 b))\/(x=nrm p (tlR m0 m1 m2 b)/\y=nrm p (tlR m0 m1 m2 a))->Fm [Am Aa x,Am Aa y]=.ok ([K1,K2].map (Am Aa)):=fun x y hxy=>by
        have ne:x≠y:=by
          rcases hxy with ⟨rfl,rfl⟩|⟨rfl,rfl⟩
          · exact nt
          · exact nt.symm
        obtain⟨N1,N2,hN,lz,e⟩:=VV ne;have k:N1=K1/\N2=K2:=by
          have hN':(N1=nrm p (tlR m0 m1 m2 a)/\N2=nrm p (tlR m0 m1 m2 b))\/(N1=nrm p (tlR m0 m1 m2 b)/\N2=nrm p (tlR m0 m1 m2 a)):=by
            rcases hxy with ⟨rfl,rfl⟩|⟨rfl,rfl⟩
            · exact hN
            · exact hN.symm
          rcases hN' with ⟨r1,r2⟩|⟨r1,r2⟩<;>rcases hK with ⟨r3,r4⟩|⟨r3,r4⟩
          · exact⟨r1.trans r3.symm,r2.trans r4.symm⟩
          · rw[r1,r2]at lz;rw[r3,r4]at ly;exact absurd (JA lz) (by rw[ly];decide)
          · rw[r1,r2]at lz;rw[r3,r4]at ly;exact absurd (JA lz) (by rw[ly];decide)
          · exact⟨r1.trans r3.symm,r2.trans r4.symm⟩
        obtain⟨rfl,rfl⟩:=k;exact e
      rcases hL with ⟨rfl,rfl⟩|⟨rfl,rfl⟩
      · exact⟨AQ "lines", [Am Aa (nrm p a),Am Aa (nrm p b)],[Am Aa (nrm p (tlR m0 m1 m2 a)),Am Aa (nrm p (tlR m0 m1 m2 b))],[K1,K2],e1,e2,fun hg hf=>Wf (hg _) (hf _ _ ea) (hg _) (hf _ _ eb),so _ _ (.inl ⟨rfl,rfl⟩),AS 2,rfl,rfl⟩
      · exact⟨AQ "lines", [Am Aa (nrm p b),Am Aa (nrm p a)],[Am Aa (nrm p (tlR m0 m1 m2 b)),Am Aa (nrm p (tlR m0 m1 m2 a))],[K1,K2],e1,e2,fun hg hf=>Wf (hg _) (hf _ _ eb) (hg _) (hf _ _ ea),so _ _ (.inr ⟨rfl,rfl⟩),AS 2,rfl,rfl⟩
theorem VB{S RR QQ ra rb rc M6 M9 N9 t0 t1 t2 TT cC cD:D}{m W:Ae}{s:Ak}{X Y:Ac D}{Z:Ac R3}(w0:W≠0)(w3:W≠3)(e1:Γ.F 169 [S]=.ok (.int p))(e2:Γ.F 38 [S,.int 10]=.ok (.int m))(ew:m / 7%4=W)(e3:Γ.F 176 [.int p,S,.int 1]=.ok RR)(e4:Γ.F 163 [.int p,RR,.int W]=.ok cC)(e5:Γ.F 176 [.int p,S,.int 11]=.ok QQ)(X0:BQ QQ (.int 0)=.ok ra)(X1:BQ QQ (.int 1)=.ok rb)(X2:BQ QQ (.int 2)=.ok rc)(x1:CM .Add ra rb=.ok M6)(x2:CM .Add M6 rc=.ok M9)(e6:Γ.F 158 [.int p,M9]=.ok N9)(y0:slD N9 (Ab 0) (Ab 3)=.ok t0)(y1:slD N9 (Ab 3) (Ab 6)=.ok t1)(y2:slD N9 (Ab 6) (Ab 9)=.ok t2)(tb:D.tup [t0,t1,t2]=TT)(e7:Γ.F 133 [.int p,cC,TT]=.ok cD)(k1:Γ.F 154 [.int p,cC]=.ok (.tup (.str s::X)))(k2:Γ.F 154 [.int p,cD]=.ok (.tup (.str s::Z.map (Am Aa))))(k3:BH (cG Γ [sh S,si p,si W,sh cC,sh QQ,sh N9,sh TT,sh cD,sh (.tup (.str s::X)),sh (.tup (.str s::Z.map (Am Aa))),Af] 10 Cn) (cF Γ [sh S,si p,si W,sh cC,sh QQ,sh N9,sh TT,sh cD,sh (.tup (.str s::X)),sh (.tup (.str s::Z.map (Am Aa))),Af] 10 MM) X=.ok Y)(k4:Fm Y=.ok (Z.map (Am Aa)))(k5:Z.length<=2)(k6:slD (.tup (.str s::X)) (Ab 1) Af=.ok (.tup X))(k7:BQ (.tup (.str s::X)) (.int 0)=.ok (.str s)):KF.run Γ [S]=.ok (.bl Aa):=by
 obtain⟨q1,q2⟩:=Wd s Z;have ad:CM .Add (.tup [.str s]) (.tup (Z.map (Am Aa)))=.ok (.tup (.str s::Z.map (Am Aa))):=by
  show (if (!([D.str s]).isEmpty&&Du ([D.str s].length+(Z.map (Am Aa)).length))=Aa then R.ok (D.tup ([D.str s]++Z.map (Am Aa))) else .bad)=_
  rw[Ay]
  ·rfl
  ·rw[BD];show Du (1+Z.length)=Aa;exact DY (by omega)
 have sx:Co (.tup X)=.ok X:=rfl;generalize Z.map (Am Aa)=ZZ at *;generalize D.tup (.str s::ZZ)=TH at *;generalize D.tup (.str s::X)=FX at *;generalize D.tup X=XX at *;simp[KF,Df.run,BG,e1,e2,ew,w0,w3,e3,e4,e5,X0,X1,X2,x1,x2,e6,y0,y1,y2,slE,tb,e7,k1,k2,k3,k4,k6,k7,sx,ad,q1,q2]
theorem sJ(h:H44 Γ ns):KF.run Γ [scr ns]=.ok (.bl Aa):=by
 obtain⟨p,hp,e1⟩:=h.prime;obtain⟨m,m0,e2⟩:=h.mix 10 (by decide)
 have hw:∃ w:Ag,W4 w/\m / 7%4=(w:Ae):=by
  have:m / 7%4=0\/m / 7%4=1\/m / 7%4=2\/m / 7%4=3:=by omega
  rcases this with e|e|e|e
  ·exact⟨0,.inl rfl,e⟩
  ·exact⟨1,.inr (.inl rfl),e⟩
  ·exact⟨2,.inr (.inr (.inl rfl)),e⟩
  ·exact⟨3,.inr (.inr (.inr rfl)),e⟩
 obtain⟨w,hw,ew⟩:=hw;obtain⟨a,b,c,g,e3⟩:=h.tbl p hp;obtain⟨C,iC,lC,pC,e4⟩:=h.cv p a b c w g hw;obtain⟨a',b',c',g',e5⟩:=h.tb11 p hp;obtain⟨l,t,el,it,tz,gd,l1⟩:=LS hp g'.nz;have e6:Γ.F 158 [.int p,.lst (ds (nine a' b' c'))]=.ok (.tup (ds (nine (fmR p t a') (fmR p t b') (fmR p t c')))):=h.f3 p Ad (nine a' b' c') l t hp el it;obtain⟨Dc,iD,lD,pD,e7⟩:=h.mv p C _ _ _ iC lC gd;have G:=g44 h hw g iC pC gd iD pD;have X0:BQ (GH a' b' c') (.int 0)=.ok (Bv a'):=rfl;have X1:BQ (GH a' b' c') (.int 1)=.ok (Bv b'):=rfl;have X2:BQ (GH a' b' c') (.int 2)=.ok (Bv c'):=rfl;have x1:CM .Add (Bv a') (Bv b')=.ok (.lst [.int a'.1,.int a'.2.1,.int a'.2.2,.int b'.1,.int b'.2.1,.int b'.2.2]):=rfl;have x2:CM .Add (.lst [.int a'.1,.int a'.2.1,.int a'.2.2,.int b'.1,.int b'.2.1,.int b'.2.2]) (Bv c')=.ok (.lst (ds (nine a' b' c'))):=rfl;generalize fmR p t a'=f0 at *;generalize fmR p t b'=f1 at *;generalize fmR p t c'=f2 at *;have y0:slD (.tup (ds (nine f0 f1 f2))) (Ab 0) (Ab 3)=.ok (trR f0):=rfl;have y1:slD (.tup (ds (nine f0 f1 f2))) (Ab 3) (Ab 6)=.ok (trR f1):=rfl;have y2:slD (.tup (ds (nine f0 f1 f2))) (Ab 6) (Ab 9)=.ok (trR f2):=rfl;have tb:D.tup [trR f0,trR f1,trR f2]=AX f0 f1 f2:=rfl
 clear pC pD iC iD lC lD gd g g'
 generalize AX f0 f1 f2=TT at *;generalize trR f0=t0 at *;generalize trR f1=t1 at *;generalize trR f2=t2 at *;generalize D.tup (ds (nine f0 f1 f2))=N9 at *;generalize D.lst (ds (nine a' b' c'))=M9 at *;generalize D.lst [.int a'.1,.int a'.2.1,.int a'.2.2,.int b'.1,.int b'.2.1,.int b'.2.2]=M6 at *;generalize Bv a'=ra at *;generalize Bv b'=rb at *;generalize Bv c'=rc at *;generalize GH a' b' c'=QQ at *;generalize GH a b c=RR at *;generalize A6 C=cC at *;generalize A6 Dc=cD at *;generalize scr ns=S at *;have fw:flD 5 (.str (AQ "whole"))=Aa:=rfl;have qw:eqD (.str (AQ "whole")) (.str (AQ "whole"))=Aa:=DM _;rcases hw with rfl|rfl|rfl|rfl
 ·obtain⟨F,T,k1,k2,k3⟩:=G.w0 rfl;change Γ.F 163 [.int p,RR,.int 0]=_ at e4;change m / 7%4=0 at ew;have i0:BQ (.tup [.str (AQ "whole"),T]) (.int 0)=.ok (.str (AQ "whole")):=rfl;have i1:BQ (.tup [.str (AQ "whole"),T]) (.int 1)=.ok T:=rfl;generalize D.tup [.str (AQ "whole"),T]=TH at *;simp[KF,Df.run,BG,e1,e2,ew,e3,e4,e5,X0,X1,X2,x1,x2,e6,y0,y1,y2,slE,tb,e7,k1,k2,i0,i1,fw,qw,k3]
 ·obtain⟨s,X,Y,Z,k1,k2,k3,k4,k5,k6,k7⟩:=G.w12 (.inl rfl);change Γ.F 163 [.int p,RR,.int 1]=_ at e4;change m / 7%4=1 at ew;exact VB (by decide) (by decide) e1 e2 ew e3 e4 e5 X0 X1 X2 x1 x2 e6 y0 y1 y2 tb e7 k1 k2 (k3 (fun _=>rfl) (fun r y e=>by simp[cF,MM,e])) k4 k5 k6 k7
 ·obtain⟨s,X,Y,Z,k1,k2,k3,k4,k5,k6,k7⟩:=G.w12 (.inr rfl);change Γ.F 163 [.int p,RR,.int 2]=_ at e4;change m / 7%4=2 at ew;exact VB (by decide) (by decide) e1 e2 ew e3 e4 e5 X0 X1 X2 x1 x2 e6 y0 y1 y2 tb e7 k1 k2 (k3 (fun _=>rfl) (fun r y e=>by simp[cF,MM,e])) k4 k5 k6 k7
 ·obtain⟨x,y,k1,k2,k3⟩:=G.w3 rfl;change Γ.F 163 [.int p,RR,.int 3]=_ at e4;change m / 7%4=3 at ew;have i1:BQ (.tup [.str (AQ "point"),Am Aa x]) (.int 1)=.ok (Am Aa x):=rfl;obtain⟨q1,q2⟩:=Wd (AQ "point") [y];have ty:D.tup (.str (AQ "point")::[y].map (Am Aa))=.tup [.str (AQ "point"),Am Aa y]:=rfl;rw[ty]at q1 q2 k2;generalize D.tup [.str (AQ "point"),Am Aa x]=FX at *;generalize Am Aa x=xx at *;generalize Am Aa y=yy at *;simp[KF,Df.run,BG,e1,e2,ew,e3,e4,e5,X0,X1,X2,x1,x2,e6,y0,y1,y2,slE,tb,e7,k1,k2,i1,q1,q2,k3]
end
theorem dB(h:QJ Γ)(hp:P4 p):OB.run Γ [.int p]=.ok (.tup (ds [0,1,0,0,p-1,0])):=by
 have l:AY p [0,1,0,0,-1,0]=Ab 1:=by rcases hp with rfl|rfl|rfl|rfl<;>rfl
 have it:DV p 1 1:=by rcases hp with rfl|rfl|rfl|rfl<;>exact⟨by decide,by decide,by decide⟩
 have f:=h p Aa [0,1,0,0,-1,0] 1 1 hp l it;have e:fmI p 1 [0,1,0,0,-1,0]=[0,1,0,0,p-1,0]:=by rcases hp with rfl|rfl|rfl|rfl<;>rfl
 rw[e]at f;have f':Γ.F 122 [.int p,.tup [.int 0,.int 1,.int 0,.int 0,.int (-1),.int 0]]=.ok (.tup (ds [0,1,0,0,p-1,0])):=f;simp[OB,Df.run,BG,f']
noncomputable def Zk:Ag->Ac Ag:=fun _=>[]
noncomputable def Zj:Ag->Ac D->R Ex:=fun _ _=>.bad
noncomputable def Q44:Prg:=⟨Aa,fun
 |1=>Qw
 |9=>MK
 |17=>MZ
 |23=>Pe
 |24=>Qy
 |56=>Rn
 |57=>Qz
 |61=>Pd
 |65=>LQ
 |109=>MP
 |69=>Pb
 |104=>Pf
 |91=>Pc
 |78=>OR
 |98=>Od
 |92=>Q1
 |99=>OS
 |105=>P7
 |106=>Ow
 |122=>OT
 |123=>OB
 |126=>P0
 |128=>MW
 |131=>Oz
 |136=>LZ
 |132=>P6
 |133=>P5
 |110=>Pq
 |111=>OG
 |112=>LR
 |147=>OZ
 |148=>OA
 |149=>Qx
 |150=>M1
 |151=>MO
 |152=>OU
 |153=>MV
 |154=>IZ
 |38=>LK
 |169=>Rh 38
 |157=>LP
 |158=>OF
 |176=>Mz 38
 |160=>Oh
 |161=>OY
 |162=>Oc
 |163=>Ky
 |164=>MN
 |165=>Oi
 |166=>OE
 |179=>KF
 | _=>⟨0,Ad,.nil⟩,fun _=>.non,Zk,Zj⟩
theorem yN(ns:Ac Ae)(hl:ns.length<=63):(gam Q44 10).F 179 [scr ns]=.ok (.bl Aa):=by
 have rs:∀ n,Ix (gam Q44 (n+1)):=fun n p m hp=>Cj (rA _ p m hp)
 have mi:∀ n,KR (gam Q44 (n+1)) 38 ns:=fun n k hk=>let ⟨m,m0,e⟩:=rH _ ns hl k hk;⟨m,m0,Cj e⟩
 have tu:∀ n,O0 (gam Q44 (n+2)):=fun n p m hp z=>let ⟨t,t1,t2,t3,e⟩:=aW (rs n) p m hp z;⟨t,t1,t2,t3,Cj e⟩
 have fo:∀ n,KI (gam Q44 (n+3)):=fun n p b xs l t hp e it=>Cj (jP (rs (n+1)) (tu n) hp e it)
 have me:∀ n,KH (gam Q44 (n+2)):=fun n p q a b c hp ha hb hc=>Cj (jN (rs n) p q a b c hp ha hb hc)
 have tf:∀ n,Mi (gam Q44 (n+4)):=fun n p t q a b c hp ha hb hc z l u e it=>Cj (oB (me (n+1)) (fo n) p t q a b c hp ha hb hc z l u e it)
 have co:∀ n,Mj (gam Q44 (n+1)):=fun n t q a b c=>Cj (rM _ t q a b c)
 have su:∀ n,KQ (gam Q44 (n+2)):=fun n p t q q' a b c x hp ha hb hc hx=>Cj (oC (rs n) p t q q' a b c x hp ha hb hc hx)
 have cr:∀ n,Qe (gam Q44 (n+2)):=fun n a b c ha hb hc n1 n2 n3=>Cj (jT (fun a b ha hb ne=>Cj (Uh _ a b ha hb ne)) a b c ha hb hc n1 n2 n3)
 have ba:∀ n,ND (gam Q44 (n+5)):=fun n p a b c hp ha hb hc z l u e it=>Cj (rO (cr (n+2)) (co (n+3)) (tf n) p a b c hp ha hb hc z l u e it)
 have af:∀ n,U3 (gam Q44 (n+5)):=fun n p x y z a b c hp hx hy hz ha hb hc nz l u e it=>Cj (jV (co (n+3)) (su (n+2)) (tf n) p x y z a b c hp hx hy hz ha hb hc nz l u e it)
 have ft:∀ n,RU (gam Q44 (n+5)):=fun n p a b c d hp ha hb hc hd z l u e it=>Cj (Zi (me (n+2)) (fun k a h0 h1=>Cj (cZ _ k a h0 h1)) (co (n+3)) (tf n) p a b c d hp ha hb hc hd z l u e it)
 have fi:∀ n,Uf (gam Q44 (n+3)):=fun n p a b c d hp ha hb hc hd h=>by
  have e:=jS (me n) p a b c d hp ha hb hc hd h;generalize Dq a b c d=F at e ⊢;show EJ Aa (LQ.run (gam Q44 (n+2)) [.int p,F])=.ok .non;rw[e];rfl
 have ask:∀ n,Wx (gam Q44 (n+4)):=fun n p a b c d hp ha hb hc hd h=>by
  have e:=xD (fi n) p a b c d hp ha hb hc hd h;generalize Dq a b c d=F at e ⊢;show EJ Aa (MP.run (gam Q44 (n+3)) [.int p,F])=.ok .non;rw[e];rfl
 have mv:∀ n,UD (gam Q44 (n+6)):=fun n {p a b c f0 f1 f2 f3 g0 g1 g2 g3} gT l1 fr fr' L=>by
  obtain⟨⟨d0,n0,h0⟩,⟨d1,n1,h1⟩,⟨d2,n2,h2⟩,⟨d3,n3,h3⟩⟩:=L;have e:=jM (ask (n+1)) (ft n) (ba n) (af n) gT.p4 gT.ia gT.ib gT.ic gT.nz l1 fr.i0 fr.i1 fr.i2 fr.i3 fr.gen fr'.i0 fr'.i1 fr'.i2 fr'.i3 n0 n1 n2 n3 h0 h1 h2 h3;generalize Dq f0 f1 f2 f3=F at e ⊢;generalize Dq g0 g1 g2 g3=G at e ⊢;generalize AX a b c=T at e ⊢;show EJ Aa (LR.run (gam Q44 (n+5)) [.int p,F,G])=.ok T;rw[e];rfl
 have tw:∀ n,KG (gam Q44 (n+2)):=fun n p C hp=>Cj (jI (rs n) p C hp)
 have wh:∀ n,Ue (gam Q44 (n+3)):=fun n p C hp iC z=>Cj (cY (tw n) (me n) p C hp iC z)
 have aw:∀ n,QK (gam Q44 (n+4)):=fun n p C hp iC z=>Cj (rP (wh n) p C hp iC z)
 have pt:∀ n,VO (gam Q44 (n+5)):=fun n p C hp iC z=>let ⟨a,b,c,h,e⟩:=rB (aw n) (tw (n+2)) (tf n) p C hp iC z;⟨a,b,c,h,Cj e⟩
 have ld:∀ n,Qv (gam Q44 (n+4)):=fun n p a b c f g i l=>let ⟨y,h1,h2,h3,e⟩:=rK (su (n+1)) (fo n) p a b c f g i l;⟨y,h1,h2,h3,Cj e⟩
 have pl:∀ n,Qc (gam Q44 (n+6)):=fun n=>yS fun p C x hp iC z ix lx=>let ⟨y,h1,h2,h3,e⟩:=rD (pt n) (ba n) (ld (n+1)) p C x hp iC z ix lx;⟨y,h1,h2,h3,Cj e⟩
 have jo:∀ n,J3 (gam Q44 (n+4)):=fun n p a b hp ia ib la lb ne=>let ⟨y,h1,h2,h3,e⟩:=rL (fun a b ha hb ne=>Cj (Uh _ a b ha hb ne)) (fo n) p a b hp ia ib la lb ne;⟨y,h1,h2,h3,Cj e⟩
 have va:∀ n,Qa (gam Q44 (n+2)):=fun n p C x hp iC ix=>Cj (jH (rs n) p C x hp iC ix)
 have tr:∀ n,Wu (gam Q44 (n+1)):=fun n p hp=>by
  have e:=wW (gam Q44 n) p hp;show EJ Aa (Pb.run (gam Q44 n) [.int p])=_;rw[e];rfl
 have po:∀ n,Qb (gam Q44 (n+3)):=fun n p C hp iC=>by
  have e:=jK (tr (n+1)) (va n) p C hp iC;show EJ Aa (MW.run (gam Q44 (n+2)) [.int p,A6 C])=_;rw[e];rfl
 have fr:∀ n,UF (gam Q44 (n+7)):=fun n p C A B P U rest hp iC w h=>by
  have e:=jR (jo (n+2)) (pl n) p C A B P U rest hp iC w h;generalize Dq A B P U=F at e ⊢;generalize Cc [A,B,U]=G at e ⊢;show EJ Aa (M1.run (gam Q44 (n+6)) [.int p,A6 C,G])=_;rw[e];rfl
 have mx:∀ n,VQ (gam Q44 (n+3)):=fun n p C x y hp iC ix iy=>Cj (rG (tw n) (su n) p C x y hp iC ix iy)
 have cf:∀ n,QJ (gam Q44 (n+4)):=fun n p b xs l t hp e it=>Cj (rN (rs (n+2)) (fo n) hp e it)
 have mo:∀ n,UE (gam Q44 (n+6)):=fun n p C a b c iC lC T=>let ⟨D,h1,h2,h3,e⟩:=jL (ba n) (co (n+4)) (va (n+3)) (mx (n+2)) (cf (n+1)) p C a b c iC lC T;⟨D,h1,h2,h3,Cj e⟩
 have f3:∀ n,Qd (gam Q44 (n+1)):=fun n p b xs l t hp e it=>Cj (jQ _ hp e it)
 have lc:∀ n,Ww (gam Q44 (n+1)):=fun n p a b hp ia ib=>Cj (xB _ p a b hp ia ib)
 have lm:∀ n,Wv (gam Q44 (n+2)):=fun n p a b c hp ia ib ic=>Cj (xA (lc n) p a b c hp ia ib ic)
 have al:∀ n,Wy (gam Q44 (n+2)):=fun n p hp=>by
  have e:=vR (Γ:=gam Q44 (n+1)) (fun p n hp h0 h1=>Cj (wY _ p n hp h0 h1)) p hp
  show EJ Aa (MN.run (gam Q44 (n+1)) [.int p])=_;rw[e];rfl
 have whD:∀ n,Ws (gam Q44 (n+3)):=fun n p C hp iC=>Cj (wU (tw n) (me n) p C hp iC)
 have on:∀ n,VP (gam Q44 (n+3)):=fun n p x y hp ix iy=>Cj (rE (fun p x y hp ix iy=>Cj (rJ (rs n) p x y hp ix iy)) p x y hp ix iy)
 have cx:∀ n,Sv (gam Q44 (n+3)):=fun n p C a b c hp iC z h=>Cj (Z6 (su n) (tw n) hp iC z h)
 have to:∀ n,Wt (gam Q44 (n+5)):=fun n p C a b c hp iC z h=>by
  obtain⟨L1,L2,h1,h2,e⟩:=wV (jo n) (cx (n+1)) (on (n+1)) hp iC z h;refine⟨L1,L2,h1,h2,?_⟩;show EJ Aa (MV.run (gam Q44 (n+4)) [.int p,A6 C,Cc (Bh p C)])=_;rw[e];rfl
 have pn:∀ n,UC (gam Q44 (n+5)):=fun n p hp=>Cj (dB (cf n) hp)
 have cm:U2 (gam Q44 8):=fun p C E a b c A B P U A' B' P' U' rest rest' T l1 iC wC iE wE fC fE L=>by
  have e:=jU (aw 3) (po 4) (fr 0) (mv 1) p C E a b c A B P U A' B' P' U' rest rest' T l1 iC wC iE wE fC fE L;generalize AX a b c=F at e ⊢;show EJ Aa (MO.run (gam Q44 7) [.int p,A6 C,A6 E])=_;rw[e];rfl
 have hk:Hk (gam Q44 8):=⟨whD 5,pn 3,cm,po 5,jo 4,to 3⟩;have kd:Kd (gam Q44 9):=by
  refine⟨fun p C a b c hp iC z h=>?_,fun p C a b c hp iC z h=>?_,fun p C a b c hp iC z h=>?_,fun p C a b c hp iC z h=>?_⟩
  ·obtain⟨x,y,u,g,l,q,e⟩:=Zh hk hp iC z h;exact⟨x,y,u,g,l,q,Cj e⟩
  ·exact Cj (Zg hk hp iC z h)
  ·obtain⟨x,y,q,l,e⟩:=Zf hk hp iC z h;exact⟨x,y,q,l,Cj e⟩
  ·exact Cj (Ze hk hp iC z h)
 have h:H44 (gam Q44 9) ns:=by
  refine⟨?_,mi 8,fun p hp=>?_,fun p hp=>?_,fun p a b c w g hw=>?_,f3 8,mo 3,kd,fun p C m0 m1 m2 G l1 iC pr=>Cj (wZ (al 6) (fun p q C x hp iC ix=>Cj (jO _ p q C x hp iC ix)) (lm 6) G l1 iC pr),ld 5,fun p m0 m1 m2 l l' G nl pl z=>Cj (Zd (su 6) (cr 6) (fo 5) G nl pl z)⟩
  ·obtain⟨p,hp,e⟩:=dA (mi 7);exact⟨p,hp,Cj e⟩
  ·obtain⟨a,b,c,g,e⟩:=wX hl (mi 7) p hp;exact⟨a,b,c,g,Cj e⟩
  ·obtain⟨a,b,c,g,e⟩:=jJ hl (mi 7) p hp;exact⟨a,b,c,g,Cj e⟩
  ·obtain⟨C,h1,h2,h3,e⟩:=xC (f3 7) (fun p a b hp ha hb=>Cj (rC _ p a b hp ha hb)) p a b c w g hw
   exact⟨C,h1,h2,h3,Cj e⟩
 exact Cj (sJ h)
end OvC
namespace OvC
set_option genInjectivity false in
structure Eleven (P:Prop) where
 (α1 α2 α3 α4 α5 α6 α7 α8 α9 α10 α11:Type)
 (l1 r1:AK->α1)
 (l2 r2:AK->α2)
 (l3 r3:AK->α3)
 (l4 r4:AK->α4)
 (l5 r5:AK->α5)
 (l6 r6:AK->α6)
 (l7 r7:AK->α7)
 (l8 r8:AK->α8)
 (l9 r9:AK->α9)
 (l10 r10:AK->α10)
 (l11 r11:AK->α11)
 go:(∀ w,l1 w=r1 w)->(∀ w,l2 w=r2 w)->(∀ w,l3 w=r3 w)->(∀ w,l4 w=r4 w)->(∀ w,l5 w=r5 w)->(∀ w,l6 w=r6 w)->(∀ w,l7 w=r7 w)->(∀ w,l8 w=r8 w)->(∀ w,l9 w=r9 w)->(∀ w,l10 w=r10 w)->(∀ w,l11 w=r11 w)->P
theorem map_pair{σ α β:Type}{A:σ->α}{B:σ->β}{r:At σ}{a:α}{b:β}(h1:Gs A r=Ab a)(h2:Gs B r=Ab b):Gs (fun s=>(A s,B s)) r=Ab (a,b):=by
 cases r with
 |none=>cases h1
 |some s=>cases h1;cases h2;rfl
theorem map_take{σ α:Type}{B:σ->Ac α}{r:At σ}{v:Ac α}(n:Ag)(h1:Gs (fun s=>(B s).take n) r=Ab (v.take n))(h2:Gs (fun s=>(B s).drop n) r=Ab (v.drop n)):Gs B r=Ab v:=by
 cases r with
 |none=>cases h1
 |some s=>
  have e1:(B s).take n=v.take n:=by injection h1
  have e2:(B s).drop n=v.drop n:=by injection h2
  show Ab (B s)=Ab v;rw[<-Xp n (B s),<-Xp n v,e1,e2]
end OvC
namespace OvC
open PySem PySem.Spec PyProof.Rows Ov L2
variable{l:F5}
noncomputable def tp44(i:Ag):B8:=PySem.Challenge.pw_ovalfield_k44_whole_kinds_moved.main.body.getD i (.Pass ⟨0,0,0,0⟩)
noncomputable def V9:Ac (Ak×Ag×Ag):=([("rest", 1,2),("turned_over", 9,2),("one_form", 17,2),("crossed", 23,2),("lies", 24,3),("on", 56,3),("join", 57,3),("measure", 61,4),("first_three", 65,2),("ask_no_three", 109,2),("triples", 69,1),("columns", 104,1),("sums_by", 91,3),("table_of", 78,2),("crossed_rows", 98,1),("led", 92,3),("led_line", 99,3),("after", 105,3),("table_back", 106,2),("curve_of", 122,2),("plain_curve", 123,1),("value", 126,3),("points_of", 128,2),("twice_table", 131,2),("is_whole", 136,2),("mixed", 132,4),("moved", 133,3),("scaled", 110,2),("frame_table", 111,2),("frame_move", 112,3)]:Ac (Ak×Ag×Ag))++([("ask_whole", 147,2),("polar_table", 148,2),("pole", 149,3),("frame_on", 150,3),("curve_move", 151,3),("crossing", 152,3),("two_lines", 153,3),("kind", 154,2),("_law_mixed", 38,2),("_law_prime", 169,1),("_law_point", 157,2),("_law_form", 158,2),("_law_table", 176,3),("_law_product", 160,2),("_law_cross", 161,2),("_law_value", 162,3),("_law_curve", 163,3),("_law_all", 164,1),("_law_measure", 165,4),("_law_is_move", 166,3),("law", 179,1)]:Ac (Ak×Ag×Ag))
noncomputable def RO:Ac Ak:=["all", "any", "bool", "enumerate", "int", "isinstance", "len", "list", "max", "min", "range", "set", "sorted", "sum", "tuple", "zip"]
noncomputable def VS:Ac (Ak×Ag):=[]
noncomputable def Wc:Ac (Ak×Ag):=[]
noncomputable def Wk:Ac (Ak×Ag):=[]
noncomputable abbrev C44(h:Ao)(ps N:Ac Ak)(i d:Ag):Ao:=Ia 80 h V9 RO VS Wc Wk ps N (tp44 i) (Q44.defs d)
theorem uF:C44 Ad ["p", "n"] ["p", "n"] 11 1=Aa:=by decide +kernel
theorem uE:C44 Ad ["p", "n"] ["p", "n", "turned"] 12 9=Aa:=by decide +kernel
theorem uD:C44 Ad ["p", "numbers"] ["p", "numbers", "rests", "first", "factor", "#5", "#6"] 14 17=Aa:=by decide +kernel
theorem uC:C44 Ad ["one", "other"] ["one", "other"] 15 23=Aa:=by decide +kernel
theorem sH:C44 Ad ["p", "point", "line"] ["p", "point", "line"] 16 24=Aa:=by decide +kernel
theorem sG:C44 Ad ["p", "point", "line"] ["p", "point", "line"] 18 56=Aa:=by decide +kernel
theorem sF:C44 Ad ["p", "one", "other"] ["p", "one", "other"] 19 57=Aa:=by decide +kernel
theorem sE:C44 Ad ["p", "one", "other", "third"] ["p", "one", "other", "third"] 20 61=Aa:=by decide +kernel
theorem sD:C44 Ad ["p", "points"] ["p", "points", "i", "one", "j", "k"] 21 65=Aa:=by decide +kernel
theorem sB:C44 Ad ["p", "points"] ["p", "points", "three"] 22 109=Aa:=by decide +kernel
theorem nR:C44 Ad ["p"] ["p", "told", "z", "y", "#4"] 23 69=Aa:=by decide +kernel
theorem nO:C44 Ad ["rows"] ["rows"] 25 104=Aa:=by decide +kernel
theorem nN:C44 Ad ["p", "rows", "numbers"] ["p", "rows", "numbers", "#3"] 26 91=Aa:=by decide +kernel
theorem nM:C44 Ad ["p", "rows"] ["p", "rows", "nine"] 27 78=Aa:=by decide +kernel
theorem nL:C44 Ad ["table"] ["table"] 28 98=Aa:=by decide +kernel
theorem nK:C44 Ad ["p", "table", "point"] ["p", "table", "point"] 29 92=Aa:=by decide +kernel
theorem nJ:C44 Ad ["p", "table", "line"] ["p", "table", "line"] 30 99=Aa:=by decide +kernel
theorem nI:C44 Ad ["p", "one", "other"] ["p", "one", "other", "sides", "#4"] 31 105=Aa:=by decide +kernel
theorem nH:C44 Ad ["p", "table"] ["p", "table"] 32 106=Aa:=by decide +kernel
theorem nG:C44 Ad ["p", "numbers"] ["p", "numbers", "rests", "#3"] 34 122=Aa:=by decide +kernel
theorem nF:C44 Ad ["p"] ["p"] 35 123=Aa:=by decide +kernel
theorem nE:C44 Ad ["p", "curve", "point"] ["p", "curve", "point", "squares", "products"] 36 126=Aa:=by decide +kernel
theorem nC:C44 Ad ["p", "curve"] ["p", "curve", "#2"] 37 128=Aa:=by decide +kernel
theorem mZ:C44 Ad ["p", "curve"] ["p", "curve"] 38 131=Aa:=by decide +kernel
theorem mY:C44 Ad ["p", "curve"] ["p", "curve", "rows"] 39 136=Aa:=by decide +kernel
theorem mX:C44 Ad ["p", "curve", "one", "other"] ["p", "curve", "one", "other", "sums"] 40 132=Aa:=by decide +kernel
theorem mW:C44 Ad ["p", "curve", "table"] ["p", "curve", "table", "sides", "squares", "products", "#6"] 41 133=Aa:=by decide +kernel
theorem mV:C44 Ad ["factor", "point"] ["factor", "point", "#2"] 43 110=Aa:=by decide +kernel
theorem mU:C44 Ad ["p", "four"] ["p", "four", "sides"] 44 111=Aa:=by decide +kernel
theorem mT:C44 Ad ["p", "four", "goals"] ["p", "four", "goals"] 45 112=Aa:=by decide +kernel
theorem mS:C44 Ad ["p", "curve"] ["p", "curve"] 47 147=Aa:=by decide +kernel
theorem mR:C44 Ad ["p", "curve"] ["p", "curve"] 48 148=Aa:=by decide +kernel
theorem mQ:C44 Ad ["p", "curve", "line"] ["p", "curve", "line"] 49 149=Aa:=by decide +kernel
theorem mP:C44 Ad ["p", "curve", "three"] ["p", "curve", "three"] 51 150=Aa:=by decide +kernel
theorem mO:C44 Ad ["p", "one", "other"] ["p", "one", "other"] 52 151=Aa:=by decide +kernel
theorem kG:C44 Ad ["p", "curve", "points"] ["p", "curve", "points", "rows", "#4"] 54 152=Aa:=by decide +kernel
theorem kF:C44 Ad ["p", "curve", "points"] ["p", "curve", "points", "middle", "one", "other", "#6", "#7"] 55 153=Aa:=by decide +kernel
theorem kE:C44 Ad ["p", "curve"] ["p", "curve", "points", "lines"] 56 154=Aa:=by decide +kernel
theorem kD:C44 Ad ["_law_script", "_law_k"] ["_law_script", "_law_k", "_law_cell", "_law_step"] 58 38=Aa:=by decide +kernel
theorem kC:C44 Ad ["_law_script"] ["_law_script"] 59 169=Aa:=by decide +kernel
theorem kB:C44 Ad ["_law_p", "_law_number"] ["_law_p", "_law_number", "_law_n"] 60 157=Aa:=by decide +kernel
theorem kA:C44 Ad ["_law_p", "_law_numbers"] ["_law_p", "_law_numbers", "_law_head", "_law_by", "#4", "#5", "#6"] 61 158=Aa:=by decide +kernel
theorem jZ:C44 Ad ["_law_p", "_law_script", "_law_at"] ["_law_p", "_law_script", "_law_at", "_law_rows", "_law_k", "_law_cell", "_law_i", "_law_j", "_law_times", "#9", "#10", "#11"] 62 176=Aa:=by decide +kernel
theorem jY:C44 Ad ["_law_one", "_law_other"] ["_law_one", "_law_other", "_law_numbers", "_law_i", "_law_j", "#5"] 63 160=Aa:=by decide +kernel
theorem jX:C44 Ad ["_law_one", "_law_other"] ["_law_one", "_law_other", "_law_a", "_law_b", "_law_c", "_law_d", "_law_e", "_law_f"] 64 161=Aa:=by decide +kernel
theorem lH:C44 Ad ["_law_p", "_law_curve_here", "_law_point_here"] ["_law_p", "_law_curve_here", "_law_point_here", "_law_x", "_law_y", "_law_z", "_law_some", "#7", "#8"] 65 162=Aa:=by decide +kernel
theorem lG:C44 Ad ["_law_p", "_law_rows", "_law_way"] ["_law_p", "_law_rows", "_law_way", "_law_one", "_law_other", "_law_third", "_law_square", "_law_odd", "#8", "#9", "#10", "#11", "#12", "#13"] 66 163=Aa:=by decide +kernel
theorem lF:C44 Ad ["_law_p"] ["_law_p", "#1"] 67 164=Aa:=by decide +kernel
theorem lE:C44 Ad ["_law_p", "_law_one", "_law_other", "_law_third"] ["_law_p", "_law_one", "_law_other", "_law_third", "_law_a", "_law_b", "_law_c"] 68 165=Aa:=by decide +kernel
theorem kZ:C44 Ad ["_law_p", "_law_curve_here", "_law_table_here"] ["_law_p", "_law_curve_here", "_law_table_here", "_law_flat", "_law_row", "_law_factors", "_law_point_here", "_law_x", "_law_y", "_law_z", "_law_there", "_law_here", "_law_far", "#13", "#14", "#15", "#16"] 69 166=Aa:=by decide +kernel
theorem UL:C44 Ad ["_law_script"] ["_law_script", "_law_p", "_law_way", "_law_curve_here", "_law_rows", "_law_flat", "_law_table_here", "_law_far", "_law_found", "_law_there", "#10"] 70 179=Aa:=by decide +kernel
set_option maxHeartbeats 0 in
theorem all44{w:AK}{K:Fg}{h:AT}{mg:Ak->At Ai}{fa f0 f1 f2 f3 f4 f5 f6 f7 f8 f9 f10 f11 f12 f13 f14 f15 f16 f17 f18 f19 f20 f21 f22 f23 f24 f25 f26 f27 f28 f29 f30 f31 f32 f33 f34 f35 f36 f37 f38 f39 f40 f41 f42 f43 f44 f45 f46 f47 f48 f49 f50:Al}(X:K.In h)(G:h.Ns Bj mg)(hfa:mg "law" = Ab (.ref fa))(a0:FnI K f0 "rest" (tp44 11))(a1:FnI K f1 "turned_over" (tp44 12))(a2:FnI K f2 "one_form" (tp44 14))(a3:FnI K f3 "crossed" (tp44 15))(a4:FnI K f4 "lies" (tp44 16))(a5:FnI K f5 "on" (tp44 18))(a6:FnI K f6 "join" (tp44 19))(a7:FnI K f7 "measure" (tp44 20))(a8:FnI K f8 "first_three" (tp44 21))(a9:FnI K f9 "ask_no_three" (tp44 22))(a10:FnI K f10 "triples" (tp44 23))(a11:FnI K f11 "columns" (tp44 25))(a12:FnI K f12 "sums_by" (tp44 26))(a13:FnI K f13 "table_of" (tp44 27))(a14:FnI K f14 "crossed_rows" (tp44 28))(a15:FnI K f15 "led" (tp44 29))(a16:FnI K f16 "led_line" (tp44 30))(a17:FnI K f17 "after" (tp44 31))(a18:FnI K f18 "table_back" (tp44 32))(a19:FnI K f19 "curve_of" (tp44 34))(a20:FnI K f20 "plain_curve" (tp44 35))(a21:FnI K f21 "value" (tp44 36))(a22:FnI K f22 "points_of" (tp44 37))(a23:FnI K f23 "twice_table" (tp44 38))(a24:FnI K f24 "is_whole" (tp44 39))(a25:FnI K f25 "mixed" (tp44 40))(a26:FnI K f26 "moved" (tp44 41))(a27:FnI K f27 "scaled" (tp44 43))(a28:FnI K f28 "frame_table" (tp44 44))(a29:FnI K f29 "frame_move" (tp44 45))(a30:FnI K f30 "ask_whole" (tp44 47))(a31:FnI K f31 "polar_table" (tp44 48))(a32:FnI K f32 "pole" (tp44 49))(a33:FnI K f33 "frame_on" (tp44 51))(a34:FnI K f34 "curve_move" (tp44 52))(a35:FnI K f35 "crossing" (tp44 54))(a36:FnI K f36 "two_lines" (tp44 55))(a37:FnI K f37 "kind" (tp44 56))(a38:FnI K f38 "_law_mixed" (tp44 58))(a39:FnI K f39 "_law_prime" (tp44 59))(a40:FnI K f40 "_law_point" (tp44 60))(a41:FnI K f41 "_law_form" (tp44 61))(a42:FnI K f42 "_law_table" (tp44 62))(a43:FnI K f43 "_law_product" (tp44 63))(a44:FnI K f44 "_law_cross" (tp44 64))(a45:FnI K f45 "_law_value" (tp44 65))(a46:FnI K f46 "_law_curve" (tp44 66))(a47:FnI K f47 "_law_all" (tp44 67))(a48:FnI K f48 "_law_measure" (tp44 68))(a49:FnI K f49 "_law_is_move" (tp44 69))(a50:FnI K f50 "law" (tp44 70))(z0:B9 K Bj "all" = Ab Af)(z1:B9 K Bj "any" = Ab Af)(z2:B9 K Bj "bool" = Ab Af)(z3:B9 K Bj "enumerate" = Ab Af)(z4:B9 K Bj "int" = Ab Af)(z5:B9 K Bj "isinstance" = Ab Af)(z6:B9 K Bj "len" = Ab Af)(z7:B9 K Bj "list" = Ab Af)(z8:B9 K Bj "max" = Ab Af)(z9:B9 K Bj "min" = Ab Af)(z10:B9 K Bj "range" = Ab Af)(z11:B9 K Bj "set" = Ab Af)(z12:B9 K Bj "sorted" = Ab Af)(z13:B9 K Bj "sum" = Ab Af)(z14:B9 K Bj "tuple" = Ab Af)(z15:B9 K Bj "zip" = Ab Af):
    ∃ fd:CS,(∀(s:Ap)(v:Ai),Hv s fd ⟨[v],[]⟩ [("_law_script", v)])/\∀ base:AT,K.In base->base.Ns Bj mg->FnOk l.prog w K mg base (CXR l.prog w) 10 fa fd ["_law_script"] (Mo K):=by
  obtain⟨_,F,e⟩:=a50;obtain⟨_,_,_,_,_,_,_,_,_,rfl,_,_⟩:=F.ex;cases hfa.symm.trans (Jh X G e);have T:Tab K mg (fun _=>Af) V9 RO VS Wc Wk Q44 80:=⟨fO fun _ _=>rfl,all_cons (BM X G z0) (all_cons (BM X G z1) (all_cons (BM X G z2) (all_cons (BM X G z3) (all_cons (BM X G z4) (all_cons (BM X G z5) (all_cons (BM X G z6) (all_cons (BM X G z7) (all_cons (BM X G z8) (all_cons (BM X G z9) (all_cons (BM X G z10) (all_cons (BM X G z11) (all_cons (BM X G z12) (all_cons (BM X G z13) (all_cons (BM X G z14) (all_cons (BM X G z15) (P9)))))))))))))))),P9,all_cons (EI 2 1 X G a0 rfl uF fun _ _ _ _ _ _ _ _=>rfl) (all_cons (EI 2 9 X G a1 rfl uE fun _ _ _ _ _ _ _ _=>rfl) (all_cons (EI 2 17 X G a2 rfl uD fun _ _ _ _ _ _ _ _=>rfl) (all_cons (EI 2 23 X G a3 rfl uC fun _ _ _ _ _ _ _ _=>rfl) (all_cons (Fb 3 24 X G a4 rfl sH fun _ _ _ _ _ _ _ _ _=>rfl) (all_cons (Fb 3 56 X G a5 rfl sG fun _ _ _ _ _ _ _ _ _=>rfl) (all_cons (Fb 3 57 X G a6 rfl sF fun _ _ _ _ _ _ _ _ _=>rfl) (all_cons (Ra 4 61 X G a7 rfl sE fun _ _ _ _ _ _ _ _ _ _=>rfl) (all_cons (EI 2 65 X G a8 rfl sD fun _ _ _ _ _ _ _ _=>rfl) (all_cons (EI 2 109 X G a9 rfl sB fun _ _ _ _ _ _ _ _=>rfl) (all_cons (Ka 1 69 X G a10 rfl nR fun _ _ _ _ _ _ _=>rfl) (all_cons (Ka 1 104 X G a11 rfl nO fun _ _ _ _ _ _ _=>rfl) (all_cons (Fb 3 91 X G a12 rfl nN fun _ _ _ _ _ _ _ _ _=>rfl) (all_cons (EI 2 78 X G a13 rfl nM fun _ _ _ _ _ _ _ _=>rfl) (all_cons (Ka 1 98 X G a14 rfl nL fun _ _ _ _ _ _ _=>rfl) (all_cons (Fb 3 92 X G a15 rfl nK fun _ _ _ _ _ _ _ _ _=>rfl) (all_cons (Fb 3 99 X G a16 rfl nJ fun _ _ _ _ _ _ _ _ _=>rfl) (all_cons (Fb 3 105 X G a17 rfl nI fun _ _ _ _ _ _ _ _ _=>rfl) (all_cons (EI 2 106 X G a18 rfl nH fun _ _ _ _ _ _ _ _=>rfl) (all_cons (EI 2 122 X G a19 rfl nG fun _ _ _ _ _ _ _ _=>rfl) (all_cons (Ka 1 123 X G a20 rfl nF fun _ _ _ _ _ _ _=>rfl) (all_cons (Fb 3 126 X G a21 rfl nE fun _ _ _ _ _ _ _ _ _=>rfl) (all_cons (EI 2 128 X G a22 rfl nC fun _ _ _ _ _ _ _ _=>rfl) (all_cons (EI 2 131 X G a23 rfl mZ fun _ _ _ _ _ _ _ _=>rfl) (all_cons (EI 2 136 X G a24 rfl mY fun _ _ _ _ _ _ _ _=>rfl) (all_cons (Ra 4 132 X G a25 rfl mX fun _ _ _ _ _ _ _ _ _ _=>rfl) (all_cons (Fb 3 133 X G a26 rfl mW fun _ _ _ _ _ _ _ _ _=>rfl) (all_cons (EI 2 110 X G a27 rfl mV fun _ _ _ _ _ _ _ _=>rfl) (all_cons (EI 2 111 X G a28 rfl mU fun _ _ _ _ _ _ _ _=>rfl) (all_cons (Fb 3 112 X G a29 rfl mT fun _ _ _ _ _ _ _ _ _=>rfl) (all_cons (EI 2 147 X G a30 rfl mS fun _ _ _ _ _ _ _ _=>rfl) (all_cons (EI 2 148 X G a31 rfl mR fun _ _ _ _ _ _ _ _=>rfl) (all_cons (Fb 3 149 X G a32 rfl mQ fun _ _ _ _ _ _ _ _ _=>rfl) (all_cons (Fb 3 150 X G a33 rfl mP fun _ _ _ _ _ _ _ _ _=>rfl) (all_cons (Fb 3 151 X G a34 rfl mO fun _ _ _ _ _ _ _ _ _=>rfl) (all_cons (Fb 3 152 X G a35 rfl kG fun _ _ _ _ _ _ _ _ _=>rfl) (all_cons (Fb 3 153 X G a36 rfl kF fun _ _ _ _ _ _ _ _ _=>rfl) (all_cons (EI 2 154 X G a37 rfl kE fun _ _ _ _ _ _ _ _=>rfl) (all_cons (EI 2 38 X G a38 rfl kD fun _ _ _ _ _ _ _ _=>rfl) (all_cons (Ka 1 169 X G a39 rfl kC fun _ _ _ _ _ _ _=>rfl) (all_cons (EI 2 157 X G a40 rfl kB fun _ _ _ _ _ _ _ _=>rfl) (all_cons (EI 2 158 X G a41 rfl kA fun _ _ _ _ _ _ _ _=>rfl) (all_cons (Fb 3 176 X G a42 rfl jZ fun _ _ _ _ _ _ _ _ _=>rfl) (all_cons (EI 2 160 X G a43 rfl jY fun _ _ _ _ _ _ _ _=>rfl) (all_cons (EI 2 161 X G a44 rfl jX fun _ _ _ _ _ _ _ _=>rfl) (all_cons (Fb 3 162 X G a45 rfl lH fun _ _ _ _ _ _ _ _ _=>rfl) (all_cons (Fb 3 163 X G a46 rfl lG fun _ _ _ _ _ _ _ _ _=>rfl) (all_cons (Ka 1 164 X G a47 rfl lF fun _ _ _ _ _ _ _=>rfl) (all_cons (Ra 4 165 X G a48 rfl lE fun _ _ _ _ _ _ _ _ _ _=>rfl) (all_cons (Fb 3 166 X G a49 rfl kZ fun _ _ _ _ _ _ _ _ _=>rfl) (all_cons (Ka 1 179 X G ⟨_,F,e⟩ rfl UL fun _ _ _ _ _ _ _=>rfl) (P9)))))))))))))))))))))))))))))))))))))))))))))))))))⟩
  exact⟨_,fun s v=>.of_eq rfl,fun base _ _=>lT (VE T (Qq T 9) F rfl UL) yN⟩
theorem walk44{q:A9}{loose:Ac Ak}{XP:(Ak->At Ai)->AT->Prop}{YP:AK->AT->Prop}{d:DefRec}{K:LG->Fg}(hn:l.most=Ab 63)(hdf:d.params.defaults=[])(hY:∀(w:AK)(h:AT),YP w h->(K w.params).In h)(F:∀(w:AK)(mg:Ak->At Ai)(fa:Al)(h:AT),(K w.params).In h->h.Ns Bj mg->mg d.name=Ab (.ref fa) ->
   ∃ fd:CS,(∀(s:Ap)(u:Ai),Hv s fd ⟨[u],[]⟩ [("_law_script", u)])/\∀ base:AT,(K w.params).In base->base.Ns Bj mg->FnOk l.prog w (K w.params) mg base (CXR l.prog w) 10 fa fd ["_law_script"] (Mo (K w.params))):Yq q loose XP YP l.row.toRowW d [] (fun f vs=>Kn f vs):=
 L2.walk_of (n:=63) (k:=10) (x := "_law_script") (CX:=fun w=>CXR l.prog w) (sp:=fun w=>Mo (K w.params)) hn (by decide) hdf ⟨rfl,by decide,by decide⟩ hY F (fun _ H a ns hl _ hS=>⟨a,ns,rfl,hl,hS,fun _ _ z=>z⟩) fun _ _ _ _ _ z=>sR z
end OvC
open PySem PySem.W PyProof.Rows
noncomputable def OvC.view44:PySem.Program:={ PySem.Challenge.pw_ovalfield_k44_whole_kinds_moved with main:={PySem.Challenge.pw_ovalfield_k44_whole_kinds_moved.main with body:=[OvC.tp44 1,OvC.tp44 2,OvC.tp44 3,OvC.tp44 4,OvC.tp44 5,OvC.tp44 6,OvC.tp44 7,OvC.tp44 8,OvC.tp44 9,OvC.tp44 11,OvC.tp44 12,OvC.tp44 14,OvC.tp44 15,OvC.tp44 16,OvC.tp44 18,OvC.tp44 19,OvC.tp44 20,OvC.tp44 21,OvC.tp44 22,OvC.tp44 23,OvC.tp44 25,OvC.tp44 26,OvC.tp44 27,OvC.tp44 28,OvC.tp44 29,OvC.tp44 30,OvC.tp44 31,OvC.tp44 32,OvC.tp44 34,OvC.tp44 35,OvC.tp44 36,OvC.tp44 37,OvC.tp44 38,OvC.tp44 39,OvC.tp44 40,OvC.tp44 41,OvC.tp44 43,OvC.tp44 44,OvC.tp44 45,OvC.tp44 47,OvC.tp44 48,OvC.tp44 49,OvC.tp44 51,OvC.tp44 52,OvC.tp44 54,OvC.tp44 55,OvC.tp44 56,OvC.tp44 58,OvC.tp44 59,OvC.tp44 60,OvC.tp44 61,OvC.tp44 62,OvC.tp44 63,OvC.tp44 64,OvC.tp44 65,OvC.tp44 66,OvC.tp44 67,OvC.tp44 68,OvC.tp44 69,OvC.tp44 70]} }
set_option hygiene false
local macro_rules | `(tactic| o_head $H)=>`(tactic| refine holds_open (q:=OvC.view44) (loose:=[]) (Xt:=fun s=>xlAt OvC.view44 [] s&&recOk (RowW.records (OpenRow.toRowW (PySem.Challenge.rw_ovalfield_k44_whole_kinds_moved.row))) s) (XP:=XL OvC.view44 []) (Yf:=Hook.obs $H) (Ya:=Hook.val $H) (YP:=Hook.says $H) (N:=7224) ?hl (Hook.of $H) (Hook.keeps $H) (fun s e=>xl_of s (Bool.and_eq_true_iff.mp e).1) XL.keeps (by rfl) (by rfl) (by rfl) (fun s e=>recFacts_of (Bool.and_eq_true_iff.mp e).2) (by rfl) (by first|assumption|decide +kernel) (by decide +kernel) ⟨rfl,rfl,rfl,rfl,rfl,by decide +kernel⟩ ?hw ?hc)
set_option maxRecDepth 100000 in
set_option maxHeartbeats 0 in
noncomputable def OvC.hold44:OvC.Eleven PySem.Challenge.rw_ovalfield_k44_whole_kinds_moved.Holds:=by
 refine' ⟨_,_,_,_,_,_,_,_,_,_,_,_,_,_,_,_,_,_,_,_,_,_,_,_,_,_,_,_,_,_,_,_,_,fun g1 g2 g3 g4 g5 g6 g7 g8 g9 g10 g11=>_⟩
 rotate_right
 w_on;refine holds_law (by decide +kernel) fun said=>?_;k_head
 (case hl=>intro w;refine OvC.map_pair ?p1 (OvC.map_take 100 ?p2 ?p3);(case p1=>rw[PySem.W.Fast.te4187177175401517315];unfold PySem.W.Fast.tw4187177175401517315 openGood;refine OvC.map_pair ?q1 (OvC.map_pair ?q2 (OvC.map_pair ?q3 (OvC.map_pair ?q4 (OvC.map_pair ?q5 (OvC.map_pair ?q6 (OvC.map_pair ?q7 (OvC.map_pair ?q8 ?q9)))))));(case q1=>unfold ER De Fi;rw[Bc,Bg,Bi,Bf,Be];exact g1 w);(case q2=>unfold ER De Fi;rw[Bc,Bg,Bi,Bf,Be];exact g2 w);(case q3=>unfold ER De Fi;rw[Bc,Bg,Bi,Bf,Be];exact g3 w);(case q4=>unfold ER De Fi;rw[Bc,Bg,Bi,Bf,Be];exact g4 w);(case q5=>unfold ER De Fi;rw[Bc,Bg,Bi,Bf,Be];exact g5 w);(case q6=>unfold ER De Fi;rw[Bc,Bg,Bi,Bf,Be];exact g6 w);(case q7=>unfold ER De Fi;rw[Bc,Bg,Bi,Bf,Be];exact g7 w);(case q8=>unfold ER De Fi;rw[Bc,Bg,Bi,Bf,Be];exact g8 w);(case q9=>unfold ER De Fi;rw[Bc,Bg,Bi,Bf,Be];exact g9 w);skip);(case p2=>unfold ER De Fi;rw[Bc,Bg,Bi,Bf,Be];exact g10 w);(case p3=>unfold ER De Fi;rw[Bc,Bg,Bi,Bf,Be];exact g11 w))
 (case hw=>w_witness2)
 k_fill
 refine OvC.walk44 (l:=PySem.Challenge.rw_ovalfield_k44_whole_kinds_moved) rfl rfl (fun w h Y=>Yt Y) ?F
 case F=>
  intro w mg fa h KX G hmg
  refine' OvC.all44 KX G hmg ?a0 ?a1 ?a2 ?a3 ?a4 ?a5 ?a6 ?a7 ?a8 ?a9 ?a10 ?a11 ?a12 ?a13 ?a14 ?a15 ?a16 ?a17 ?a18 ?a19 ?a20 ?a21 ?a22 ?a23 ?a24 ?a25 ?a26 ?a27 ?a28 ?a29 ?a30 ?a31 ?a32 ?a33 ?a34 ?a35 ?a36 ?a37 ?a38 ?a39 ?a40 ?a41 ?a42 ?a43 ?a44 ?a45 ?a46 ?a47 ?a48 ?a49 ?a50 ?z0 ?z1 ?z2 ?z3 ?z4 ?z5 ?z6 ?z7 ?z8 ?z9 ?z10 ?z11 ?z12 ?z13 ?z14 ?z15
  case a0|a1|a2|a3|a4|a5|a6|a7|a8|a9|a10|a11|a12|a13|a14|a15|a16|a17|a18|a19|a20|a21|a22|a23|a24|a25|a26|a27|a28|a29|a30|a31|a32|a33|a34|a35|a36|a37|a38|a39|a40|a41|a42|a43|a44|a45|a46|a47|a48|a49|a50=>(refine' Ov.fni ?a ?l ?c ?k;(case a=>k_is);(case l=>k_is);(case c=>k_is);(case k=>k_is))
  (case z0=>k_is)
  (case z1=>k_is)
  (case z2=>k_is)
  (case z3=>k_is)
  (case z4=>k_is)
  (case z5=>k_is)
  (case z6=>k_is)
  (case z7=>k_is)
  (case z8=>k_is)
  (case z9=>k_is)
  (case z10=>k_is)
  (case z11=>k_is)
  (case z12=>k_is)
  (case z13=>k_is)
  (case z14=>k_is)
  (case z15=>k_is)
theorem OvC.reck44_1(w:AK):OvC.hold44.l1 w=OvC.hold44.r1 w:=by kernel_rfl
theorem OvC.reck44_2(w:AK):OvC.hold44.l2 w=OvC.hold44.r2 w:=by kernel_rfl
theorem OvC.reck44_3(w:AK):OvC.hold44.l3 w=OvC.hold44.r3 w:=by kernel_rfl
theorem OvC.reck44_4(w:AK):OvC.hold44.l4 w=OvC.hold44.r4 w:=by kernel_rfl
theorem OvC.reck44_5(w:AK):OvC.hold44.l5 w=OvC.hold44.r5 w:=by kernel_rfl
theorem OvC.reck44_6(w:AK):OvC.hold44.l6 w=OvC.hold44.r6 w:=by kernel_rfl
theorem OvC.reck44_7(w:AK):OvC.hold44.l7 w=OvC.hold44.r7 w:=by kernel_rfl
theorem OvC.reck44_8(w:AK):OvC.hold44.l8 w=OvC.hold44.r8 w:=by kernel_rfl
theorem OvC.reck44_9(w:AK):OvC.hold44.l9 w=OvC.hold44.r9 w:=by kernel_rfl
theorem OvC.reck44_10(w:AK):OvC.hold44.l10 w=OvC.hold44.r10 w:=by kernel_rfl
theorem OvC.reck44_11(w:AK):OvC.hold44.l11 w=OvC.hold44.r11 w:=by kernel_rfl
theorem PySem.Challenge.cw_ovalfield_k44_whole_kinds_moved_holds : PySem.Challenge.rw_ovalfield_k44_whole_kinds_moved.Holds := by
 exact OvC.hold44.go OvC.reck44_1 OvC.reck44_2 OvC.reck44_3 OvC.reck44_4 OvC.reck44_5 OvC.reck44_6 OvC.reck44_7 OvC.reck44_8 OvC.reck44_9 OvC.reck44_10 OvC.reck44_11
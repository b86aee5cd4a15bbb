import PyProof.Rows.All
import Wide.All
import OpenK.AllK
import Wide.FinOn
import PyProof.EqAt
import KE.KSortTup
import PyProof.EqKinds
import PyProof.TupleCall
import Lean
import PySem.Challenge.RW_ovalfield_k25_frames_refused
set_option Elab.async false
set_option linter.all false
set_option maxRecDepth 100000
set_option maxHeartbeats 4000000
open Option renaming some→Aa,none→Ae,bind_eq_some_iff→AA,isSome_iff_exists→DX,bind_some→UI,getD_none→UJ,map_some→UK
open Bool renaming true→Ab,false→Ac,and_eq_true→Al,false_ne_true→Ar,not_eq_true'→Bk,or_eq_true→CH,eq_iff_iff→E1,false_eq_true→GP,or_true→Hi,and_false→HZ,and_true→Ud,or_false→Ue
open _root_ renaming List→Ad,Nat→Af,Int→Ag,Option→Am,Bool→An,if_pos→AF,if_neg→AM,beq_iff_eq→AQ,False→AS,Array→AX,decide_eq_true_eq→A7,or_false→BP,String→Dh,decide_eq_false→Dl,beq_eq_false_iff_ne→Ds,not_or→DN,if_true→EC,Decidable→Fa,Unit→Fw,bne_iff_ne→Hd,beq_self_eq_true→HG,if_false→HH,True→HQ,decide_eq_true→Ii,ne_eq→KR,beq_false_of_ne→nP,of_decide_eq_true→nQ
open PySem renaming wpAny_bind→Ah,Value→Ai,Str→Aj,Addr→Ak,Expr→Ao,Shared→Aq,wpAny_pure→As,wpAny→At,starEach→Ax,Heap→AB,Pos→AI,Program→AK,Around→AV,mainGlobals→AW,World→AY,wpAny_field→A2,Stmt→A4,wpAny_mono→Ba,wpAny_holding→Bv,wpAny_seqItems→BA,wpAny_setField_rec→BH,wpAny_callSpecial?_slot→BQ,FuncData→BS,rawInt→B4,wpAny_loadPart_at→B7,cLine→B8,binaryOp→B9,assignEach→Cd,backTo→Ce,Env→Ch,excClassObj→Ci,Scope→Cm,wpAny_newObj_type→Cn,wpAny_call_entry→Cv,Obj→Cz,compareOp→CB,wpAny_truthy_bool→CC,mem_of_lookup→CD,cellsFrom→CO,Tok→CT,foldedSetIterable→CU,bootBuiltins→C3,sizeLine_eq→C4,swapsWith→Do,wpAny_onRaise→Dp,wpAny_standAt→DI,pyNext→DM,codeAny_call_builtin→DQ,OwnTail→DT,NameKind→D0,checkBuiltinCall→D4,CmpOp→Eh,codeAny_builtin→Ei,wpAny_Call_Name_kw→Ej,IsPair→Ev,codeAny→Ez,ExceptHandler→EN,wpAny_attempt→ER,wpAny_newFunctionEnv_cells→ES,sliceBounds→ET,wpAny_isSubtype_exc→EV,wpAny_execs_nil→E8,wpAny_passesOwn→E9,GenState→Fc,PassesOwn→Fd,codeAny_mono→Fe,wpAny_setField→Fp,wpAny_pyIter_list→Fv,wpAny_letGo→FN,swappedStores→FQ,BindsTo→F6,codeAny_call_function→F7,IsZip→Gh,letOwnedTupleGo→Gj,wpAny_call→Gk,wpAny_rule→Gm,wpAny_updateSeq→Gn,wpAny_updateSeq_pair→Go,recursionLimit→GB,Model→GO,noteFrame→GW,pushCells→GX,behindInMarks→GZ,plainId_quiet→G0,swapsWithSole→G1,isInstance→Hc,OsState→He,callerA→Hf,ExcBaseFacts→Hn,IsPart→Ho,Operator→Hq,Paired→Hr,wpAny_execs_cons→Hs,Drawn→HI,pushCells_keeps→HK,setFlight→HL,wpAny_specialOf→HM,wpAny_of_eq→HP,isTrue→Ic,newFunctionEnv→Ie,notedBy→Ig,wpAny_newTuple→Ih,bindC→Ij,bindL→Ik,builtinsNs→Il,typeLookup→Im,Result→IJ,callSpecial?→IM,callType_new→IN,codeAny_func→IP,concat_meets→IQ,lastMarks→IR,onTheHeap→IS,seqIndex_neg→IT,updateSeq→IU,getItem→Jl,standAt→Jm,seqIndex_of→Jn,bindArgs→Jo,handleBy→Jp,PyData→JO,StoreFacts→JQ,call→JS,pyIter→JT,sysModules→JU,wpAny_Name→JV,Keyword→JW,Arguments→KN,IntMulOk→KW,Params→KY,builtinLookup_eq_fast→VC,codeAny_of_tree→VD,firstArgMember→VE,isSubtype_stop→VF,noFill_tuple_add→VG,refuseLoop_ref→VH,slot_list_getitem→VI,typeLookup_type→VJ,wpAny_Try_except→VL,wpAny_assign_Name→VM,wpAny_comprehension_free→VN,wpAny_isInstance→VO,wpAny_pyIter_enum→VP,wpAny_pyIter_tuple→VQ,wpAny_pyIter_zip→VR,wpAny_pyNext_list_end→VS,wpAny_pyNext_list_item→VT
open PySem.Heap renaming get?_push_of_some→Ap,lt_size→AC,get?_push_size→AD,size_push→Bm,get?_update_self→Bw,get?_update_other→BE,get?_none_of_le→Dg,SameBut→DZ,ExtBut→HN,MadeExcOf→Ia,get?_push_at→Vf,get?_push_cases→Vg,get?_update_ne→Vh
open PySem.W renaming findIn→Av,subIn→Az,nsIn→Bi,mg_of→BN,mroIn→BO,mg_none_of→BY,keepIn→Ca,looks_findIn→Cu,fnOf→CN,kitOne→Db,typeIn→Dc,clsIn→Dm,specialIn→Ep,codeIn→Ey,excIn→EQ,findCls→E6,readsIn→E7,OpenLaw→FL,cellsFrom_some→FM,callWith_K→GU,codeRec_of→GV,methodObj→Hb,kitAny→Ib,WalkO→Vv,isNs_of_in→Vw,kIn_of→Vx,kitMeta→Vy,looks_subIn→Vz,nsOkIn→VA,tail_of_in→VB
open List renaming mem_cons→Ay,mem_cons_of_mem→AG,mem_cons_self→AL,not_mem_nil→AN,size_toArray→AO,getElem?_eq_some_iff→AZ,length_set→A3,range→A5,mem_append_right→Bj,length_map→Br,mem_range→Bs,mem_singleton→Bu,length_cons→By,lookup_cons→Bz,length_append→BW,getElem?_set_ne→Cb,getElem?_set_self→Cf,getElem?_eq_getElem→Cp,append_nil→Cq,isEmpty_eq_false_iff→CI,mem_of_getElem?→De,all_eq_true→Dt,forIn_nil→Du,forIn_cons→DC,getD_eq_getElem?_getD→DE,map_cons→DF,exists_of_findSome?_eq_some→DU,getElem_mem→DV,getElem?_cons_succ→D9,getElem?_cons_zero→Ea,nodup_cons→Eg,getElem?_map→En,any_eq_true→ED,findSome?_eq_none_iff→EM,drop_eq_getElem_cons→E2,getElem?_append_left→E3,map_append→E4,toArray→Fb,getElem?_set_self'→Fq,lookup→FI,all_cons→FO,isEmpty_iff→FR,zipIdx_cons→FS,length_singleton→F5,mem_append→F9,mem_append_left→Ga,mem_filter→Gb,of_mem_zip→Gc,zipIdx_nil→Gd,filterMap_cons→Gv,findSome?_cons→Gw,getElem_of_mem→Gx,replicate→GA,contains_cons→GQ,zip_cons_cons→GR,getElem?_set→Ha,filter_cons→Hj,length_take→Hk,map_map→Hl,mem_map→IE,all_map→Uj,any_cons→Uk,contains_eq_mem→Ul,drop_eq_nil_of_le→Um,ext_getElem?→Uo,getElem?_append_right→Up,getElem?_of_mem→Uq,getElem?_replicate→Ur,getElem?_toArray→Us,length_drop→Ut,length_replicate→Uu,lookup_cons_self→Uv,map_congr_left→Uw,nodup_nil→Ux,range_succ_eq_map→Uy,reverse_cons→Uz,set_set→UA
open Nat renaming lt_of_lt_of_le→AH,le_refl→AU,ne_of_lt→A1,lt_irrefl→Bf,le_trans→BR,lt_of_le_of_lt→BX,ne_of_gt→CZ,ble→C9,le_add_right→DW,lt_succ_of_lt→Eo,le_of_ble_eq_true→Er,le_of_lt→Et,not_lt→Fm,zero_le→FJ,pow_le_pow_right→Ge,add_le_add_left→Gy,mod_eq_of_lt→Hm,ble_eq_true_of_le→UB,le_of_eq→UC,le_succ→UD,lt_succ_self→UE,lt_trans→UF,min_self→UG,not_lt_zero→UH
open PySem.Builtin.SmallTypes renaming nextOf→AR,ownedTupleIsFree→AT,ownedTupleHandOut→CK
open Int renaming emod_lt_of_pos→A6,emod_eq_of_lt→Be,emod_nonneg→Bg,emod_emod_of_dvd→BD,mul_emod→Co,dvd_refl→CW,mul_comm→CY,zero_emod→C5,mul_zero→F8,one_mul→GN,mul_assoc→GY,toNat_natCast→G9,sub_zero→IC,zero_mul→ID,add_emod→Uf,mul_one→Ug,sub_emod→Uh,zero_add→Ui
open False renaming elim→A9
open Option.some renaming inj→Bh,injEq→Ft
open PySem.Value renaming ref→Bo,none→CQ,builtin→C7,type→Fo,bool→JR,int→KP,str→KQ,bytes→Vr,float→Vs
open PySem.Str renaming ofString→Bx,empty→IL
open PySem.NameKind renaming cell→BM,free→DH
open PyProof.Rows renaming callWith_type1→B6,envOfC→Eu,AllBare→Fn,boot_tuple→Fs,boot_isinstance→Gf,IntsAre→H9,IsTup→Jk,Call_→JN,boot_list→UL,boot_zip→UM,slicePart_none→UN,slot_tuple_getitem→UO,subscriptTail_builtinR→UP
open PySem.F renaming slot_zip_next→Cc,slot_tuple_iterator_next→DG,args_zip_next_1→DL,entry_zip_next→DY,excBase_ValueError→EO,plain_extend_loop→EU,attr_ValueError→Fu,args_object_init_2→U0,args_tuple_add_2→U1,args_tuple_iterator_next_1→U2,called_zip→U3,entry_bexc_ga→U4,entry_extend_loop→U5,entry_tuple_add→U6,entry_tuple_iterator_next→U7,entry_zip_new→U8,plain_list_iadd→U9,plain_tuple_new→Va,slot_tuple_add→Vb,slot_zip_iter→Vc,typeOf_object_class→Vd
open Array renaming getElem?_eq_getElem→Ck,length_toList→D8,getElem?_eq_some_iff→EL,getElem?_push→Gu,forIn_toList→T9,size_push→Ua,toArray_toList→Ub,toList→Uc
open Ne renaming symm→Ct
open PySem.Obj renaming mapSeq→CJ,data_mapFields→Da,isFreed_of_fields→Ew,mapFields→FP,cls_mapFields→Vi
open PySem.Builtin.Tuple renaming tupleExact→CM
open PySem.PyData renaming shownAll→DD,depthAll→HJ,hasDictAll→Vm,showableAll→Vn
open PySem.Around renaming under_plainId→DO,under→IH
open PySem.Builtin.Slice renaming slicePlaces→DP,sliceAdjust→E5,sliceApplied→UU
open ForInStep renaming yield→Ef
open PySem.Shared renaming heap→FK
open Classical renaming choose_spec→F4
open PySem.Calls renaming evalArgs_plain→Gg,Name_function_global→UV,spliced_cons→UW,spliced_nil→UX
open PySem.SeqAt renaming EqAt→Gi,RcNeAt→IK,RcAt→JP
open PySem.Heap.SameBut renaming update→Gz,refl→Ve
open PySem.Code renaming quiet_builtin→GS,isFrame→II,frames→UY
open Function renaming comp_def→G8
open Sum renaming inl→Hg,inr→Hh
open PySem.Value.ref renaming inj→IB
open Nat.succ renaming inj→IF
open PyProof.Rows.IsTup renaming new→IG
open NeZero renaming ne→KM
open PySem.Data renaming cell→KO,seq→KU
open Prod renaming ext→KS
open PySem.Builtin.Int renaming intBits→UQ
open PySem.Builtin.List renaming listExtendWith→UR,listSameRef→US
open PySem.Builtin.ObjectAttr renaming storeInDict→UT
open PySem.EntryCells renaming newEntry→UZ
open PySem.Paired renaming length→Vj
open PySem.PassesOwn renaming leaving→Vk,looking→Vl
open PySem.SeqAt.EqAt renaming of_refs→Vo,same→Vp
open PySem.W.WData renaming int→Vt
open PySem.W.WShape renaming has→Vu
abbrev Fg:=PySem.W.Frag
abbrev Pn:=Ad (PySem.Addr×PySem.Obj)
abbrev Vq:=PySem.Value->PySem.Shared->Prop
set_option genSizeOfSpec false
-- CHANGE: your row's module here,as the last of these rows
namespace L2
open PySem PySem.Spec PyProof.Rows
abbrev Key:=Sum Ag Aj
noncomputable def Td:Key->Ai->An
 |.inl k,v=>Value.isInt k v
 |.inr x,v=>Value.isStrOf x v
noncomputable def mY(w:AY):Key->Ag
 |.inl k=>hashInt k
 |.inr x=>hashStr w x
theorem Ip:∀{k:Key}{v:Ai},Td k v=Ab->(∃ i t,k=Hg i/\v=KP i t)\/(∃ x t,k=Hh x/\v=KQ x t)
 |.inl i,v,h=>by
  obtain⟨t,e⟩:=Value.isInt_shape (k:=i) (v:=v) h;exact .inl ⟨i,t,rfl,e⟩
 |.inr x,v,h=>by
  obtain⟨t,e⟩:=Value.isStrOf_shape (x:=x) (v:=v) h;exact .inr ⟨x,t,rfl,e⟩
theorem fN(a b:Ag):decide ((Hg a:Key)=Hg b)=(a==b):=by
 by_cases e:a=b
 ·subst e;simp
 ·have h:¬ (Hg a:Key)=Hg b:=fun q=>e (Sum.inl.inj q)
  rw[Dl h];exact(Ds.mpr e).symm
theorem fK(a b:Aj):decide ((Hh a:Key)=Hh b)=decide (a=b):=by
 by_cases e:a=b
 ·subst e;simp
 ·have h:¬ (Hh a:Key)=Hh b:=fun q=>e (Sum.inr.inj q)
  rw[Dl h,Dl e]
theorem fM(a:Ag)(b:Aj):decide ((Hg a:Key)=Hh b)=Ac:=Dl (fun q=>nomatch q)
theorem fL(a:Aj)(b:Ag):decide ((Hh a:Key)=Hg b)=Ac:=Dl (fun q=>nomatch q)
noncomputable def N4(prog:AK)(w:AY):PySem.KeyKind prog w Key where
 is:=Td
 hash:=mY w
 inj:=fun v a b ha hb=>by
  rcases Ip ha with ⟨i,t,rfl,rfl⟩|⟨x,t,rfl,rfl⟩
  ·rcases Ip hb with ⟨j,u,rfl,e⟩|⟨y,u,rfl,e⟩
   ·injection e with e1 _;rw[e1]
   ·exact nomatch e
  ·rcases Ip hb with ⟨j,u,rfl,e⟩|⟨y,u,rfl,e⟩
   ·exact nomatch e
   ·injection e with e1 _;rw[e1]
 byValue:=fun k v h=>by
  rcases Ip h with ⟨i,t,rfl,rfl⟩|⟨x,t,rfl,rfl⟩<;>rfl
 pyHash:=fun hv h=>by
  rcases Ip hv with ⟨i,t,rfl,rfl⟩|⟨x,t,rfl,rfl⟩
  ·exact wpAny_pyHash_int h
  ·exact wpAny_pyHash_str h
 eqBool:=fun hu hv h=>by
  rcases Ip hu with ⟨i,t,rfl,rfl⟩|⟨x,t,rfl,rfl⟩
  ·rcases Ip hv with ⟨j,u,rfl,rfl⟩|⟨y,u,rfl,rfl⟩
   ·rw[fN]at h;exact wpAny_eqBool_int h
   ·rw[fM]at h;exact SeqAt.EqAt.int_str i t y u _ _ _ _ h
  ·rcases Ip hv with ⟨j,u,rfl,rfl⟩|⟨y,u,rfl,rfl⟩
   ·rw[fL]at h;exact SeqAt.EqAt.str_int x t j u _ _ _ _ h
   ·rw[fK]at h;exact wpAny_eqBool_str h
 «strs»:=fun k x t v h=>by
  rcases Ip h with ⟨i,u,rfl,e⟩|⟨y,u,rfl,e⟩
  ·exact nomatch e
  ·injection e with e1 _
   subst e1;cases v<;>rfl
end L2
namespace L2
open PySem PySem.Spec PyProof.Rows
variable{us:Ad Ai}{a b it:Ak}{P:AK}{h:AB}{o:Cz}{g':AX Fc}{t' i k n:Af}{d':HI}{ch fp:Ad Ak}{x qual:Aj}{M:GO}{u:Ai}{Q:Fw->Aq->Prop}{e tg:Ao}{s:Aq}{pos p:AI}{pI:Pn}{es:Ad Ao}{body:Ad A4}{f:Ai->Ai->Sem Ai}{g:Ag->Ag->Ag}{op:Eh}{kw:Ad (Aj×Ai)}{fd:BS}{ps:Ad Aj}{scope:Cm}
inductive V where
 |non|bl (b:An)|int (i:Ag)|str (x:Aj)|byt (b:AX UInt8)|flt (b:UInt64)|ref (a:Ak)|ty (n:Dh)
 deriving DecidableEq
variable{xs vs:Ad V}{v:V}
def Bt:V->Ai->Prop
 |.non,u=>u=CQ
 |.bl b,u=>u=JR b
 |.int i,u=>∃ t,u=KP i t
 |.str x,u=>∃ t,u=KQ x t
 |.byt b,u=>∃ t,u=Vr b t
 |.flt b,u=>∃ t,u=Vs b t
 |.ref a,u=>u=Bo a
 |.ty n,u=>u=Fo n
noncomputable abbrev Bb:Ad V->Ad Ai->Prop:=Hr Bt
theorem Bb.length(r:Bb xs us):xs.length=us.length:=Vj r
theorem Bb.get:∀{xs:Ad V}{us:Ad Ai}{i:Af}{x:V},Bb xs us->xs[i]?=Aa x->∃ u,us[i]?=Aa u/\Bt x u
 |_,_,_,_,.nil,e=>by simp at e
 |_,_,0,_,.cons r _,e=>by simp at e;subst e;exact⟨_,rfl,r⟩
 |_,_,i+1,x,.cons _ t,e=>by
  obtain⟨u,h1,h2⟩:=Bb.get (i:=i) (x:=x) t (by simpa using e)
  exact⟨u,by simpa using h1,h2⟩
theorem Bb.set{x:V}{u:Ai}(r:Bt x u):∀{xs:Ad V}{us:Ad Ai}(i:Af),Bb xs us->Bb (xs.set i x) (us.set i u)
 |_,_,_,.nil=>.nil
 |_,_,0,.cons _ t=>.cons r t
 |_,_,i+1,.cons q t=>.cons q (Bb.set r i t)
theorem Bb.append:∀{xs ys:Ad V}{us ws:Ad Ai},Bb xs us->Bb ys ws->Bb (xs++ys) (us++ws)
 |_,_,_,_,.nil,s=>s
 |_,_,_,_,.cons r t,s=>.cons r (Bb.append t s)
theorem Bb.take:∀{xs:Ad V}{us:Ad Ai}(n:Af),Bb xs us->Bb (xs.take n) (us.take n)
 |_,_,0,_=>.nil
 |_,_,_+1,.nil=>.nil
 |_,_,n+1,.cons r t=>.cons r (Bb.take n t)
theorem Bb.drop:∀{xs:Ad V}{us:Ad Ai}(n:Af),Bb xs us->Bb (xs.drop n) (us.drop n)
 |_,_,0,r=>r
 |_,_,_+1,.nil=>.nil
 |_,_,n+1,.cons _ t=>Bb.drop n t
def LB:Am V->Am Ai->Prop
 |some v,Aa u=>Bt v u
 |none,Ae=>HQ
 |_,_=>AS
def KV{κ:Type}:Ad (κ×V)->Ad (κ×Ai)->Prop:=Hr fun(p:κ×V)(q:κ×Ai)=>p.1=q.1/\Bt p.2 q.2
noncomputable def kV:Key->V
 |.inl i=>.int i
 |.inr x=>.str x
inductive HO where
 /-- a list -/
 |lst (xs:Ad V)
 /-- a tuple (never changes) -/
 |tup (xs:Ad V)
 /-- a dict whose keys are ints and texts;one whose keys are tuples of ints and texts (the empty one is both) -/
 |dK (kvs:Ad (Key×V))|dT (kvs:Ad (Ad Key×V))
 /-- a set of ints: its members,its size -/
 |set (S:Ag->An) (n:Af)
 /-- an instance of the class at C,its dict at dx,its attributes -/
 |ins (C dx:Ak) (fs:Ad (Aj×V))
 /-- the dict of the instance at x -/
 |own (x:Ak)
 /-- the dict of an exception -/
 |xd (fs:Ad (Aj×V))
 /-- a bound method,f of x -/
 |met (f x:Ak)
 /-- a range object lo,lo+1,.. below hi -/
 |rng (lo hi:Ag)
 /-- a thing that is known to the object (the script;a dict while a loop walks it): read,never written while it is so -/
 |frz (o:Cz) (u:HO)
 /-- a code object's table -/
 |tbl (ps:AX Ai)
 /-- any other thing,by what is Ab of its one object (a def of one's own: SetO a S n:=HO.ext fun h=>..) -/
 |ext (φ:AB->Prop)
abbrev Hp:=Ak->Am HO
variable{H:Hp}
noncomputable def upd(H:Hp)(a:Ak)(o:HO):Hp:=fun b=>if b=a then Aa o else H b
theorem Ff{o:HO}:upd H a o a=Aa o:=by unfold upd;rw[AF rfl]
theorem Bq{o:HO}(h:b≠a):upd H a o b=H b:=by unfold upd;rw[AM h]
theorem Q1{o u:HO}:upd (upd H a o) a u=upd H a u:=by
 funext b;unfold upd;split<;>rfl
theorem FA{o:HO}(h:H a=Aa o)(h':H b=Ae):a≠b:=by
 intro e;subst e;rw[h]at h';cases h'
section
variable(P:AK)(w:AY)
def ObjOk(H:Hp)(h:AB)(a:Ak):HO->Prop
  |.lst xs=>xs.length<=sizeLine/\∃(its:Ad Ai)(n:Af),Bb xs its/\h.get? a=Aa { cls:=.type "list", data:=.seq its.toArray n }
  |.tup xs=>xs.length<=sizeLine/\∃ its:Ad Ai,Bb xs its/\Jk h a its.toArray
  |.dK kvs=>kvs.length<=sizeLine/\(a==JU)=Ac/\∃ vs,KV kvs vs/\h.DictOf (N4 P w) a vs
  |.dT kvs=>kvs.length<=sizeLine/\(a==JU)=Ac/\∃ xs:Ad (Ad Key×Ak×Ai),
      Hr (fun(p:Ad Key×V)(q:Ad Key×Ak×Ai)=>p.1=q.1/\H q.2.1=Aa (.tup (p.1.map kV))/\Bt p.2 q.2.2) kvs xs /\
      ∃ o es ep,h.get? a=Aa o/\o.ExactDict/\o.data=.dict es ep/\es.toList=xs.map (entryOfKey (tupleKind (N4 P w)))/\(xs.map (·.1)).Nodup
  |.set S n=>h.SetOf (intKind P w) a S n
  |.ins C dx fs=>H dx=Aa (.own a)/\fs.length<=1000/\dx≠a/\h.get? a=Aa (PySem.W.instObj C dx) /\
      ∃ mA,h.Ns1 dx mA/\(∀ f,LB (fs.lookup f) (mA f))/\PySem.Within mA (fs.map (·.1))
  |.own _=>∃ o,h.get? a=Aa o
  |.xd fs=>∃ mA,h.Ns1 a mA/\∀ f,LB (fs.lookup f) (mA f)
  |.rng lo hi=>∃ t u v,h.get? a=Aa { cls:=.type "range", data:=.fields #[.int lo t,.int hi u,.int 1 v] }
  |.frz o u=>h.get? a=Aa o/\ObjOk H h a u
  |.tbl ps=>h.get? a=Aa {cls:=.none,data:=.fields ps}
  |.met f x=>h.get? a=Aa (Hb (.ref f) (.ref x))
  |.ext φ=>φ h/\(∃ o,h.get? a=Aa o)/\∀ h1 h2:AB,φ h1->(∀ o,h1.get? a=Aa o->h2.get? a=Aa o)->φ h2
def HOk(H:Hp)(h:AB):Prop:=∀ a o,H a=Aa o->ObjOk P w H h a o
end
section
variable{P:AK}{w:AY}{H H':Hp}{h h':AB}{a:Ak}{o:HO}
theorem ObjOk.lt(x:ObjOk P w H h a o):a<h.objs.size:=by
 cases o with
 |lst xs=>obtain⟨_,_,_,_,e⟩:=x;exact AC e
 |tup xs=>obtain⟨_,_,_,p⟩:=x;exact p.lt
 |dK kvs=>obtain⟨_,_,_,_,o,_,_,e,_⟩:=x;exact AC e
 |dT kvs=>obtain⟨_,_,_,_,o,_,_,e,_⟩:=x;exact AC e
 |set S n=>obtain⟨o,_,_,_,e,_⟩:=x;exact AC e
 |ins C dx fs=>obtain⟨_,_,_,e,_⟩:=x;exact AC e
 |own y=>obtain⟨_,e⟩:=x;exact AC e
 |xd fs=>obtain⟨_,⟨_,_,_,e,_⟩,_⟩:=x;exact AC e
 |rng lo hi=>obtain⟨_,_,_,e⟩:=x;exact AC e
 |frz ob u=>obtain⟨e,_⟩:=x;exact AC e
 |tbl ps=>exact AC (show h.get? a=Aa _ from x)
 |met f y=>exact AC (show h.get? a=Aa _ from x)
 |ext φ=>obtain⟨_,⟨_,e⟩,_⟩:=x;exact AC e
theorem Hr.mapP{α β:Type}{F G:α->β->Prop}:∀{l₁:Ad α}{l₂:Ad β},Hr F l₁ l₂->(∀ a b,F a b->G a b)->Hr G l₁ l₂
 |_,_,.nil,_=>.nil
 |_,_,.cons r t,f=>.cons (f _ _ r) (Hr.mapP t f)
theorem ObjOk.stay(x:ObjOk P w H h a o)(k:∀ b u,(b=a\/H b=Aa (.own a))->h.get? b=Aa u->h'.get? b=Aa u)(ho:∀ b,H b=Aa (.own a)->H' b=Aa (.own a))(ht:∀ b xs,H b=Aa (.tup xs)->H' b=Aa (.tup xs)):ObjOk P w H' h' a o:=by
 induction o with
 |lst xs=>obtain⟨z,its,n,r,e⟩:=x;exact⟨z,its,n,r,k _ _ (.inl rfl) e⟩
 |tup xs=>obtain⟨z,its,r,ob,e,c⟩:=x;exact⟨z,its,r,ob,k _ _ (.inl rfl) e,c⟩
 |dK kvs=>obtain⟨z,y,vs,r,ob,es,ep,e,c⟩:=x;exact⟨z,y,vs,r,ob,es,ep,k _ _ (.inl rfl) e,c⟩
 |dT kvs=>
  obtain⟨z,y,xs,r,ob,es,ep,e,c⟩:=x;exact⟨z,y,xs,Hr.mapP r fun p q z=>⟨z.1,ht _ _ z.2.1,z.2.2⟩,ob,es,ep,k _ _ (.inl rfl) e,c⟩
 |set S n=>obtain⟨ob,es,ep,t,e,c⟩:=x;exact⟨ob,es,ep,t,k _ _ (.inl rfl) e,c⟩
 |ins C dx fs=>
  obtain⟨d,z,ne,e,mA,⟨od,es,ep,e2,c⟩,r⟩:=x;exact⟨ho _ d,z,ne,k _ _ (.inl rfl) e,mA,⟨od,es,ep,k _ _ (.inr d) e2,c⟩,r⟩
 |own y=>obtain⟨ob,e⟩:=x;exact⟨ob,k _ _ (.inl rfl) e⟩
 |xd fs=>obtain⟨mA,⟨od,es,ep,e,c⟩,r⟩:=x;exact⟨mA,⟨od,es,ep,k _ _ (.inl rfl) e,c⟩,r⟩
 |rng lo hi=>obtain⟨t,u,v,e⟩:=x;exact⟨t,u,v,k _ _ (.inl rfl) e⟩
 |frz ob u ih=>obtain⟨e,q⟩:=x;exact⟨k _ _ (.inl rfl) e,ih q⟩
 |tbl ps=>
  have e:h.get? a=Aa {cls:=.none,data:=.fields ps}:=x;show h'.get? a=Aa {cls:=.none,data:=.fields ps};exact k a _ (.inl rfl) e
 |met f y=>
  have e:h.get? a=Aa (Hb (.ref f) (.ref y)):=x;show h'.get? a=Aa (Hb (.ref f) (.ref y));exact k a _ (.inl rfl) e
 |ext φ=>obtain⟨p,⟨o,e⟩,st⟩:=x;exact⟨st _ _ p fun o q=>k _ _ (.inl rfl) q,⟨o,k _ _ (.inl rfl) e⟩,st⟩
theorem HOk.lt(x:HOk P w H h)(e:H a=Aa o):a<h.objs.size:=(x a o e).lt
theorem HOk.fresh(x:HOk P w H h)(e:h.objs.size<=a):H a=Ae:=by
 cases q:H a with
 |none=>rfl
 |some u=>exact absurd (AH (x.lt q) e) (Bf _)
theorem HOk.kept(x:HOk P w H h)(k:∀ b u,h.get? b=Aa u->h'.get? b=Aa u):HOk P w H h':=fun a o e=>
 (x a o e).stay (fun b u _ q=>k b u q) (fun _ q=>q) fun _ _ q=>q
theorem HOk.laid(x:HOk P w H h)(k:∀ b u,h.get? b=Aa u->h'.get? b=Aa u)(hp:h.objs.size<=a)(new:ObjOk P w (upd H a o) h' a o):HOk P w (upd H a o) h':=fun b u e=>by
 have hn:=x.fresh hp;by_cases hb:b=a
 ·subst hb;rw[Ff]at e;cases e;exact new
 ·rw[Bq hb]at e;exact(x b u e).stay (fun c v _ q=>k c v q) (fun c q=>by rw[Bq (FA q hn)];exact q) fun c xs q=>by rw[Bq (FA q hn)];exact q
end
def Rd(H:Hp)(a:Ak)(u:HO):Prop:=H a=Aa u\/∃ o,H a=Aa (.frz o u)
theorem Rd.ok{w:AY}{u:HO}(r:Rd H a u)(x:HOk P w H h):ObjOk P w H h a u:=by
 rcases r with r|⟨o,r⟩
 ·exact x a u r
 ·obtain⟨_,q⟩:=x a _ r;exact q
def Mut:Am HO->Prop
 |some (.lst _)=>HQ
 |some (.dK _)=>HQ
 |some (.dT _)=>HQ
 |some (.set _ _)=>HQ
 |some (.ins _ _ _)=>HQ
 |some (.ext _)=>HQ
 |_=>AS
section
variable{P:AK}{w:AY}{H:Hp}{h h':AB}{x e:Ak}{o':HO}
theorem HOk.write(ok:HOk P w H h)(mu:Mut (H x))(he:e=x\/H e=Aa (.own x))(k:∀ b u,b≠e->h.get? b=Aa u->h'.get? b=Aa u)(heo:∃ u,h'.get? e=Aa u)(new:ObjOk P w (upd H x o') h' x o'):HOk P w (upd H x o') h':=fun b u q=>by
 have nown:∀ c y,H c=Aa (.own y)->c≠x:=fun c y r z=>by subst z;rw[r]at mu;exact mu
 have ntup:∀ c xs,H c=Aa (.tup xs)->c≠x:=fun c xs r z=>by subst z;rw[r]at mu;exact mu
 by_cases hb:b=x
 ·subst hb;rw[Ff]at q;cases q;exact new
 ·rw[Bq hb]at q;by_cases hbe:b=e
  ·have q':H b=Aa (.own x):=by
    rcases he with z|z
    ·exact absurd (hbe.trans z) hb
    ·rw[hbe];exact z
   rw[q]at q';cases q';obtain⟨v,hv⟩:=heo;exact⟨v,by rw[hbe];exact hv⟩
  ·refine(ok b u q).stay (fun c v hc r=>k c v ?_ r) (fun c r=>by rw[Bq (nown c b r)];exact r) fun c xs r=>by rw[Bq (ntup c xs r)];exact r
   rcases hc with rfl|hc
   ·exact hbe
   ·rintro rfl;rcases he with z|z
    ·exact nown c b hc z
    ·rw[hc]at z;cases z;exact hb rfl
end
structure Un (fs ex:Ad Ak) (H H':Hp) (h h':AB):Prop where
 keep:∀ b o,h.get? b=Aa o->H b=Ae->b∉fs->b∉ex->h'.get? b=Aa o
 slot:∀ b o,h.get? b=Aa o->H b=Ae->b∈fs->b∉ex->∃ sl,h'.get? b=Aa {o with slots:=sl}
 free:∀ b o,h.get? b=Aa o->H b=Ae->b∉ex->H' b=Ae
 there:∀ b o,h.get? b=Aa o->b∉ex->∃ o',h'.get? b=Aa o'
 tups:∀ b xs,H b=Aa (.tup xs)->H' b=Aa (.tup xs)
 frzs:∀ b o u,H b=Aa (.frz o u)->H' b=Aa (.frz o u)
 tbls:∀ b ps,H b=Aa (.tbl ps)->∃ more,H' b=Aa (.tbl (ps++more))
section
variable{fs fs' ex ex':Ad Ak}{H H1 H2:Hp}{h h1 h2 h':AB}{a x e:Ak}{o:HO}
theorem Un.any(u:Un fs ex H H1 h h1){ob:Cz}(q:h.get? b=Aa ob)(n:H b=Ae)(hx:b∉ex):∃ sl,h1.get? b=Aa {ob with slots:=sl}:=by
 by_cases hb:b∈fs
 ·exact u.slot b ob q n hb hx
 ·exact⟨ob.slots,u.keep b ob q n hb hx⟩
theorem Un.kept(k:∀ b u,h.get? b=Aa u->h'.get? b=Aa u):Un fs ex H H h h':=
 ⟨fun b ob q _ _ _=>k b ob q,fun b ob q _ _ _=>⟨ob.slots,k b ob q⟩,fun _ _ _ n _=>n,fun b ob q _=>⟨ob,k b ob q⟩,fun _ _ q=>q,fun _ _ _ q=>q,fun _ ps q=>⟨#[],by rw[q];simp⟩⟩
theorem Un.refl:Un fs ex H H h h:=Un.kept fun _ _ q=>q
theorem Un.laid(k:∀ b u,h.get? b=Aa u->h'.get? b=Aa u)(hp:h.objs.size<=a)(hn:H a=Ae):Un fs ex H (upd H a o) h h' where
 keep:=fun b u q _ _ _=>k b u q
 slot:=fun b u q _ _ _=>⟨u.slots,k b u q⟩
 free:=fun b u q n _=>by rw[Bq (A1 (AH (AC q) hp))];exact n
 there:=fun b u q _=>⟨u,k b u q⟩
 tups:=fun b xs q=>by rw[Bq (FA q hn)];exact q
 frzs:=fun b u xs q=>by rw[Bq (FA q hn)];exact q
 tbls:=fun b ps q=>⟨#[],by rw[Bq (FA q hn),q];simp⟩
theorem Un.write(mu:Mut (H x))(he:e=x\/H e=Aa (.own x))(k:∀ b u,b≠e->h.get? b=Aa u->h'.get? b=Aa u)(heo:∃ u,h'.get? e=Aa u):Un fs ex H (upd H x o) h h':=by
 have hx:∀ b,H b=Ae->b≠x:=fun b n z=>by subst z;rw[n]at mu;exact mu
 have hb:∀ b,H b=Ae->b≠e:=fun b n z=>by
  subst z;rcases he with r|r
  ·exact hx b n r
  ·rw[n]at r;cases r
 have hm:∀ b u,H b=Aa u->¬ Mut (Aa u)->b≠x:=fun b u q nm z=>by subst z;rw[q]at mu;exact nm mu
 refine⟨fun b u q n _ _=>k b u (hb b n) q,fun b u q n _ _=>⟨u.slots,k b u (hb b n) q⟩,fun b u q n _=>by rw[Bq (hx b n)];exact n,fun b u q _=>?_,
  fun b xs q=>by rw[Bq (hm b _ q fun z=>z)];exact q,fun b u xs q=>by rw[Bq (hm b _ q fun z=>z)];exact q,fun b ps q=>⟨#[],by rw[Bq (hm b _ q fun z=>z),q];simp⟩⟩
 by_cases hbe:b=e
 ·subst hbe;exact heo
 ·exact⟨u,k b u hbe q⟩
end
noncomputable def trk(h:AB)(H:Hp):Ad Ak:=(A5 h.objs.size).filter fun a=>(H a).isSome
noncomputable def Iz(h:AB)(H:Hp):AB:=PySem.W.hideAll h (trk h H)
theorem WG(h:AB)(H:Hp):(Iz h H).objs.size=h.objs.size:=PySem.W.hideAll_size _ _
theorem XS(e:h.get? b=Aa o)(n:H b=Ae):(Iz h H).get? b=Aa o:=
 PySem.W.hideAll_get _ e fun hm=>by
  have q:(H b).isSome=Ab:=(Gb.mp hm).2;rw[n]at q;simp at q
theorem Zh(e:(Iz h H).get? b=Aa o):h.get? b=Aa o/\H b=Ae:=by
 have e':h.get? b=Aa o:=PySem.W.of_hideAll (trk h H) e;refine⟨e',?_⟩;cases q:H b with
 |none=>rfl
 |some x=>
  have hm:b∈trk h H:=Gb.mpr ⟨Bs.mpr (AC e'),by simp[q]⟩
  have z:(Iz h H).get? b=Ae:=PySem.W.hideAll_none (trk h H) hm;rw[z]at e;cases e
noncomputable def bQ(g h:AB)(L:Ak):Pn:=(A5 h.objs.size).filterMap fun a=>if a=L\/(g.get? a).isSome=Ab then Ae else (h.get? a).map fun o=>(a,o)
noncomputable def rest(g h:AB)(L d:Ak):Pn:=(bQ g h L).filter fun p=>decide (p.1≠d)
structure Mod (K:Fg) (mg:Aj->Am Ai) (base:AB):Prop where
 kin:K.In base
 glob:base.Ns AW mg
 blt:∃ mb,base.Ns Il mb/\∀ x:Aj,x≠"__name__"->mb x=C3 x
 nolimit:base.NoLimit
structure Cx where
 prog:AK
 w:AY
 K:Fg
 mg:Aj->Am Ai
 base:AB
 A:AV
 N:Ad Aj
 s₀:Aq
 H₀:Hp
 env:Ch
 outer:Ad Ch
 stack:Ad Ch
 ex:Ad Ak
 fn:Aj->An
 calm:An
 pn:Pn
 xe:Ai->Aq->Prop
variable{X:Cx}
noncomputable def frs(l:Ad Ch):Ad Ak:=l.filterMap (·.frame)
noncomputable abbrev Cx.fs(X:Cx):Ad Ak:=frs X.outer
def Vis(sc:Cm)(x:Aj):Prop:=sc.names.lookup x=Aa .local\/sc.names.lookup x=Aa .cell\/sc.names.lookup x=Aa .free
def Loc(sc:Cm)(x:Aj):Prop:=sc.names.lookup x=Aa .local\/sc.names.lookup x=Aa .cell
noncomputable def mU(env:Ch)(h:AB)(m:Aj->Am Ai)(x:Aj)(u:Ai):Prop:=
 (env.kindOf x=Aa .local/\m x=Aa u)\/((env.kindOf x=Aa .cell\/env.kindOf x=Aa .free)/\∃ c,env.cells.lookup x=Aa c/\h.IsCell c (Aa u))
structure Cx.Ok (X:Cx):Prop where
 mod:Mod X.K X.mg X.base
 kind:X.env.scope.kind=.function
 glob:X.env.globals=AW
 blt:X.env.builtins=Il
 above:X.s₀.heap.objs.size<=X.env.locals
 inj:∀ x y c,X.env.cells.lookup x=Aa c->X.env.cells.lookup y=Aa c->x=y
 has:∀ x,(X.env.kindOf x=Aa .cell\/X.env.kindOf x=Aa .free)->∃ c,X.env.cells.lookup x=Aa c
 cab:∀ x c,X.fn x=Ab->X.env.cells.lookup x=Aa c->X.s₀.heap.objs.size<=c
 hd:X.calm=Ab->X.A.handled=Ae
 frames:X.A.frames=Aa X.stack
 stk:X.stack=X.outer\/(X.stack=X.env::X.outer/\X.env.frame=Aa X.env.locals)
 exf:∀ b∈X.ex,b≠X.env.locals/\∀ x c,X.env.cells.lookup x=Aa c->c≠b
 bs:∀ b o,X.base.get? b=Aa o->X.s₀.heap.get? b=Aa o/\X.H₀ b=Ae
 bsz:X.base.objs.size<=X.s₀.heap.objs.size
 noex:∀ b o,X.base.get? b=Aa o->b∉X.ex
 exfs:∀ b∈X.ex,b∉X.fs
 funs:X.s₀.heap.FunFrames X.base X.outer
 frf:∀ b∈X.fs,X.H₀ b=Ae
structure Inv (X:Cx) (pI:Pn) (σ:Ad (Am V)) (H:Hp) (s:Aq):Prop where
 ok:X.Ok
 os:s.os=X.s₀.os
 bare:Fn s.gens
 base:Un X.fs X.ex X.H₀ H X.s₀.heap s.heap
 loc:∃ m,s.heap.Ns X.env.locals m/\∀(i:Af)(x:Aj)(v:V),X.N[i]?=Aa x->σ[i]?=Aa (Aa v)->Vis X.env.scope x->∃ u,Bt v u/\mU X.env s.heap m x u
 cell:∀ x c,X.env.cells.lookup x=Aa c->∃ v,s.heap.IsCell c v
 free:H X.env.locals=Ae
 freeC:∀ x c,X.env.cells.lookup x=Aa c->H c=Ae
 pin:∀ p∈X.pn++pI,s.heap.get? p.1=Aa p.2/\H p.1=Ae/\p.1≠X.env.locals/\p.1∉X.fs/\∀ v,p.2.data≠.cell v
 hok:HOk X.prog X.w H s.heap
 len:σ.length=X.N.length
section
variable{X:Cx}{pI:Pn}{σ:Ad (Am V)}{H H':Hp}{s:Aq}{h':AB}
theorem Cx.Ok.nofr(ok:X.Ok)(e:X.base.get? b=Aa o):b∉X.fs:=fun hb=>by
 have:=(ok.funs.mem hb).1;rw[e]at this;cases this
theorem Inv.bs(I:Inv X pI σ H s):∀ b o,X.base.get? b=Aa o->s.heap.get? b=Aa o/\H b=Ae:=fun b o e=>
 ⟨I.base.keep b o (I.ok.bs b o e).1 (I.ok.bs b o e).2 (I.ok.nofr e) (I.ok.noex b o e),I.base.free b o (I.ok.bs b o e).1 (I.ok.bs b o e).2 (I.ok.noex b o e)⟩
theorem Inv.bk(I:Inv X pI σ H s):∀ b o,X.base.get? b=Aa o->s.heap.get? b=Aa o:=fun b o e=>(I.bs b o e).1
theorem Inv.mod(I:Inv X pI σ H s):Mod X.K X.mg X.base:=I.ok.mod
theorem Inv.kIn(I:Inv X pI σ H s):X.K.In s.heap:=I.ok.mod.kin.keeps I.bk
theorem Inv.lt(I:Inv X pI σ H s):X.env.locals<s.heap.objs.size:=let ⟨_,hn,_⟩:=I.loc;hn.lt
theorem Inv.sz(I:Inv X pI σ H s):X.s₀.heap.objs.size<=s.heap.objs.size:=BR I.ok.above (Et I.lt)
theorem Inv.nofs(I:Inv X pI σ H s)(h:s.heap.objs.size<=a):a∉X.fs:=fun hb=>by
 obtain⟨_,o,ho,_⟩:=I.ok.funs.mem hb;exact absurd (AH (AC ho) (BR I.sz h)) (Bf _)
theorem Inv.cne(I:Inv X pI σ H s):∀ x c,X.env.cells.lookup x=Aa c->c≠X.env.locals:=fun x c e z=>by
 obtain⟨v,o,ho,hd⟩:=I.cell x c e;obtain⟨m,⟨o',es,ep,ho',hd',_⟩,_⟩:=I.loc;rw[z,ho']at ho;cases ho;rw[hd']at hd;cases hd
theorem Inv.funs(I:Inv X pI σ H s):s.heap.FunFrames X.base X.outer:=by
 have all:∀(l:Ad Ch),(∀ b∈frs l,b∈X.fs)->X.s₀.heap.FunFrames X.base l->s.heap.FunFrames X.base l:=by
  intro l
  induction l with
  |nil=>intro _ _;trivial
  |cons env r ih=>
   intro hs hl;obtain⟨hk,⟨L,o,hf,hn,ho,hd⟩,hr⟩:=hl;have hL:L∈X.fs:=hs L (by unfold frs;rw[Gv,hf];exact AL)
   obtain⟨sl,e⟩:=I.base.slot L o ho (I.ok.frf L hL) hL fun z=>I.ok.exfs L z hL
   exact⟨hk,⟨L,_,hf,hn,e,hd⟩,ih (fun b hb=>hs b (by unfold frs;rw[Gv,hf];exact AG _ hb)) hr⟩
 exact all X.outer (fun _ hb=>hb) I.ok.funs
theorem Inv.stack(I:Inv X pI σ H s):s.heap.FunFrames X.base X.stack:=by
 rcases I.ok.stk with e|⟨e,hf⟩
 ·rw[e];exact I.funs
 ·rw[e];obtain⟨m,hn,_⟩:=I.loc;refine .cons (by rw[I.ok.kind];decide) hf hn ?_ I.funs
  exact Dg (BR I.ok.bsz I.ok.above)
theorem Inv.stkSub(I:Inv X pI σ H s):∀ b∈frs X.stack,b∈X.env.locals::X.fs:=fun b hb=>by
 rcases I.ok.stk with e|⟨e,hf⟩
 ·rw[e]at hb;exact AG _ hb
 ·rw[e]at hb;unfold frs at hb;rw[Gv,hf]at hb;exact hb
theorem Inv.stkFree(I:Inv X pI σ H s):∀ b∈frs X.stack,H b=Ae:=fun b hb=>by
 rcases Ay.mp (I.stkSub b hb) with e|hb
 ·rw[e];exact I.free
 ·obtain⟨_,o,ho,_⟩:=I.ok.funs.mem hb;exact I.base.free b o ho (I.ok.frf b hb) fun z=>I.ok.exfs b z hb
theorem Inv.step(I:Inv X pI σ H s)(hch:∀ b∈ch,(b∈X.ex\/X.s₀.heap.objs.size<=b)/\b≠X.env.locals/\(∀ x c,X.env.cells.lookup x=Aa c->c≠b)/\∀ p∈X.pn++pI,p.1≠b)(keep:∀ b o,b≠X.env.locals->b∉X.fs->b∉ch->s.heap.get? b=Aa o->H b=Ae->h'.get? b=Aa o)(slot:∀ b o,b≠X.env.locals->b∈X.fs->b∉ch->s.heap.get? b=Aa o->H b=Ae->∃ sl,h'.get? b=Aa {o with slots:=sl})(free:∀ b o,b∉ch->s.heap.get? b=Aa o->H b=Ae->H' b=Ae)(there:∀ b o,b∉ch->s.heap.get? b=Aa o->∃ o',h'.get? b=Aa o')(tups:∀ b xs,H b=Aa (.tup xs)->H' b=Aa (.tup xs))(frzs:∀ b o u,H b=Aa (.frz o u)->H' b=Aa (.frz o u))(tbls:∀ b ps,H b=Aa (.tbl ps)->∃ more,H' b=Aa (.tbl (ps++more)))(ns:∀ m,s.heap.Ns X.env.locals m->h'.Ns X.env.locals m)(hok:HOk X.prog X.w H' h')(hg:Fn g'):Inv X pI σ H' {s with heap:=h',gens:=g',drawn:=d',toks:=t'}:=by
 have neL:∀ b o,X.s₀.heap.get? b=Aa o->b≠X.env.locals:=fun b o e=>A1 (AH (AC e) I.ok.above)
 have neC:∀ b o,X.s₀.heap.get? b=Aa o->b∉X.ex->b∉ch:=fun b o e hx hb=>by
  rcases (hch b hb).1 with z|z
  ·exact hx z
  ·exact absurd (AH (AC e) z) (Bf _)
 have cellK:∀ x c,X.env.cells.lookup x=Aa c->∀ v,s.heap.IsCell c v->h'.IsCell c v:=fun x c e v ⟨o,ho,hd⟩=>by
  have nch:c∉ch:=fun z=>(hch c z).2.2.1 x c e rfl
  by_cases hc:c∈X.fs
  ·obtain⟨sl,q⟩:=slot c o (I.cne x c e) hc nch ho (I.freeC x c e);exact⟨_,q,hd⟩
  ·exact⟨o,keep c o (I.cne x c e) hc nch ho (I.freeC x c e),hd⟩
 refine⟨I.ok,I.os,hg,⟨fun b o e n hb hx=>?_,fun b o e n hb hx=>?_,fun b o e n hx=>?_,fun b o e hx=>?_,fun b xs e=>tups b xs (I.base.tups b xs e),fun b o xs e=>frzs b o xs (I.base.frzs b o xs e),fun b ps e=>?_⟩,?_,fun x c e=>?_,?_,fun x c e=>?_,fun p hp=>?_,hok,I.len⟩
 ·exact keep b o (neL b o e) hb (neC b o e hx) (I.base.keep b o e n hb hx) (I.base.free b o e n hx)
 ·obtain⟨sl,e1⟩:=I.base.slot b o e n hb hx;obtain⟨sl',e2⟩:=slot b _ (neL b o e) hb (neC b o e hx) e1 (I.base.free b o e n hx);exact⟨sl',e2⟩
 ·obtain⟨o',e1⟩:=I.base.there b o e hx;exact free b o' (neC b o e hx) e1 (I.base.free b o e n hx)
 ·obtain⟨o',e1⟩:=I.base.there b o e hx;exact there b o' (neC b o e hx) e1
 ·obtain⟨m1,e1⟩:=I.base.tbls b ps e;obtain⟨m2,e2⟩:=tbls b _ e1;exact⟨m1++m2,by rw[e2,Array.append_assoc]⟩
 ·obtain⟨m,hn,hl⟩:=I.loc;refine⟨m,ns m hn,fun i x v e1 e2 e3=>?_⟩
  obtain⟨u,r,l⟩:=hl i x v e1 e2 e3;refine⟨u,r,?_⟩;rcases l with l|⟨k,c,e,z⟩
  ·exact .inl l
  ·exact .inr ⟨k,c,e,cellK x c e _ z⟩
 ·obtain⟨v,z⟩:=I.cell x c e;exact⟨v,cellK x c e v z⟩
 ·obtain⟨m,⟨o,_,_,ho,_⟩,_⟩:=I.loc;exact free _ o (fun z=>(hch _ z).2.1 rfl) ho I.free
 ·obtain⟨v,o,ho,hd⟩:=I.cell x c e;exact free c o (fun z=>(hch c z).2.2.1 x c e rfl) ho (I.freeC x c e)
 ·obtain⟨e,n,ne,nf,d⟩:=I.pin p hp;have nch:p.1∉ch:=fun z=>(hch p.1 z).2.2.2 p hp rfl
  exact⟨keep p.1 p.2 ne nf nch e n,free p.1 p.2 nch e n,ne,nf,d⟩
theorem Inv.un(I:Inv X pI σ H s)(u:Un X.fs [] H H' s.heap h')(hok:HOk X.prog X.w H' h'):Inv X pI σ H' {s with heap:=h',toks:=t'}:=by
 obtain⟨m,⟨o,es,ep,ho,r⟩,_⟩:=id I.loc;obtain⟨sl,hL⟩:=u.any ho I.free (by simp)
 exact I.step (g':=s.gens) (d':=s.drawn) (ch:=[]) (fun _ z=>nomatch z) (fun b o _ hb _ e n=>u.keep b o e n hb (by simp)) (fun b o _ hb _ e n=>u.slot b o e n hb (by simp)) (fun b o _ e n=>u.free b o e n (by simp)) (fun b o _ e=>u.there b o e (by simp)) u.tups u.frzs u.tbls (fun m' hm=>by
  obtain⟨o',es',ep',ho',r'⟩:=hm;rw[ho]at ho';cases ho';exact⟨_,es',ep',hL,r'⟩) hok I.bare
theorem Inv.call(I:Inv X pI σ H s)(u:Un (frs X.stack) ch H H' s.heap h')(hok:HOk X.prog X.w H' h')(hg:Fn g')(hch:∀ b∈ch,(b∈X.ex\/X.s₀.heap.objs.size<=b)/\b≠X.env.locals/\(∀ x c,X.env.cells.lookup x=Aa c->c≠b)/\∀ p∈X.pn++pI,p.1≠b):Inv X pI σ H' {s with heap:=h',gens:=g',drawn:=d',toks:=t'}:=by
 obtain⟨m,⟨o,es,ep,ho,r⟩,_⟩:=id I.loc;obtain⟨sl,hL⟩:=u.any ho I.free fun z=>(hch _ z).2.1 rfl
 exact I.step (ch:=ch) hch (fun b o hL hb hc e n=>u.keep b o e n (fun z=>(Ay.mp (I.stkSub b z)).elim hL hb) hc) (fun b o _ _ hc e n=>u.any e n hc) (fun b o hc e n=>u.free b o e n hc) (fun b o hc e=>u.there b o e hc) u.tups u.frzs u.tbls (fun m' hm=>by
  obtain⟨o',es',ep',ho',r'⟩:=hm;rw[ho]at ho';cases ho';exact⟨_,es',ep',hL,r'⟩) hok hg
theorem Inv.turned(I:Inv X pI σ H s)(k:∀ b o,b≠it->s.heap.get? b=Aa o->h'.get? b=Aa o)(hn:H it=Ae)(hL:it≠X.env.locals)(h1:it∈X.ex\/X.s₀.heap.objs.size<=it)(h2:∀ x c,X.env.cells.lookup x=Aa c->c≠it)(h3:∀ p∈X.pn++pI,p.1≠it):Inv X pI σ H {s with heap:=h',toks:=t'}:=by
 have nit:∀ b u,H b=Aa u->b≠it:=fun b u e z=>by rw[z,hn]at e;cases e
 refine I.step (g':=s.gens) (d':=s.drawn) (ch:=[it]) (fun b hb=>?_) (fun b o _ _ hc e _=>k b o (fun z=>hc (by simp[z])) e) (fun b o _ _ hc e _=>⟨o.slots,k b o (fun z=>hc (by simp[z])) e⟩) (fun _ _ _ _ n=>n)
  (fun b o hc e=>⟨o,k b o (fun z=>hc (by simp[z])) e⟩) (fun _ _ e=>e) (fun _ _ _ e=>e) (fun b ps e=>⟨#[],by rw[e];simp⟩) (fun m hm=>?_) (fun b u e=>?_) I.bare
 ·have e:b=it:=by simpa using hb
  subst e;exact⟨h1,hL,h2,h3⟩
 ·obtain⟨o,es,ep,ho,r⟩:=hm;exact⟨o,es,ep,k _ o (Ct hL) ho,r⟩
 ·refine(I.hok b u e).stay (fun c v hc q=>k c v ?_ q) (fun _ q=>q) fun _ _ q=>q
  rcases hc with z|z
  ·rw[z];exact nit b u e
  ·exact nit c _ z
theorem Inv.tok(I:Inv X pI σ H s)(t:Af):Inv X pI σ H {s with toks:=t}:=I.un (h':=s.heap) (t':=t) Un.refl I.hok
theorem Inv.kept{t':Af}(I:Inv X pI σ H s)(k:∀ b u,s.heap.get? b=Aa u->h'.get? b=Aa u):Inv X pI σ H {s with heap:=h',toks:=t'}:=I.un (Un.kept k) (I.hok.kept k)
theorem Inv.laid{a:Ak}{o:HO}{t':Af}(I:Inv X pI σ H s)(k:∀ b u,s.heap.get? b=Aa u->h'.get? b=Aa u)(hp:s.heap.objs.size<=a)(new:ObjOk X.prog X.w (upd H a o) h' a o):Inv X pI σ (upd H a o) {s with heap:=h',toks:=t'}:=I.un (Un.laid k hp (I.hok.fresh hp)) (I.hok.laid k hp new)
theorem Inv.write{x e:Ak}{o:HO}{t':Af}(I:Inv X pI σ H s)(mu:Mut (H x))(he:e=x\/H e=Aa (.own x))(k:∀ b u,b≠e->s.heap.get? b=Aa u->h'.get? b=Aa u)(heo:∃ u,h'.get? e=Aa u)(new:ObjOk X.prog X.w (upd H x o) h' x o):Inv X pI σ (upd H x o) {s with heap:=h',toks:=t'}:=I.un (Un.write mu he k heo) (I.hok.write mu he k heo new)
theorem Inv.pins_of{pins':Pn}(I:Inv X pI σ H s)(h:∀ p∈pins',s.heap.get? p.1=Aa p.2/\H p.1=Ae/\p.1≠X.env.locals/\p.1∉X.fs/\∀ v,p.2.data≠.cell v):Inv X pins' σ H s:=
 ⟨I.ok,I.os,I.bare,I.base,I.loc,I.cell,I.free,I.freeC,fun p hp=>(F9.mp hp).elim (fun z=>I.pin p (Ga _ z)) (h p),I.hok,I.len⟩
theorem NN{N:Ad Aj}(hN:N.Nodup){j:Af}(a:N[i]?=Aa x)(b:N[j]?=Aa x):i=j:=by
 obtain⟨h1,e1⟩:=AZ.mp a;obtain⟨h2,e2⟩:=AZ.mp b;exact(List.getElem_inj hN).mp (e1.trans e2.symm)
theorem PY{A:AV}{E:Vq}(I:Inv X pI σ H s)(hN:X.N.Nodup)(hi:X.N[i]?=Aa x)(hx:Loc X.env.scope x)(r:Bt v u)(h:∀ s',Inv X pI (σ.set i (Aa v)) H s'->(∃ a,DZ a s.heap s'.heap/\(a=X.env.locals\/X.env.cells.lookup x=Aa a))->Q () s')(hf:X.fn x=Ab\/X.env.scope.names.lookup x=Aa .local:=by first|exact .inl rfl|exact .inr rfl|assumption):At M A (storeName X.env x u) Q E s:=by
 obtain⟨m,hn,hl⟩:=id I.loc;have hcls:(X.env.scope.kind==.class||(X.env.scope.kind==.module&&X.env.locals != X.env.globals))=Ac:=by rw[I.ok.kind];rfl
 have hiσ:i<σ.length:=by rw[I.len];exact(AZ.mp hi).1
 have cne:=I.cne;have tracked:∀{a:Ak}{h':AB},(∃ o,s.heap.get? a=Aa o/\H a=Ae)->DZ a s.heap h'->HOk X.prog X.w H h':=fun {a h'} ha hs b ob e=>by
  obtain⟨_,_,hfree⟩:=ha;refine(I.hok b ob e).stay (fun c w' hc q=>(hs.2 c ?_).trans q) (fun _ q=>q) fun _ _ q=>q
  rintro rfl;rcases hc with rfl|hc
  ·rw[hfree]at e;cases e
  ·rw[hfree]at hc;cases hc
 rcases hx with hk|hk
 ·refine wpAny_storeName_local hk hn (fun h' hn' hs=>?_) hcls
  obtain⟨oL,_,_,hoL,_⟩:=id hn;refine h _ ⟨I.ok,I.os,I.bare,⟨fun b o e n hb hx=>?_,fun b o e n hb hx=>?_,I.base.free,fun b o e hx=>?_,I.base.tups,I.base.frzs,I.base.tbls⟩,⟨_,hn',fun j y v' e1 e2 e3=>?_⟩,fun y c e=>?_,I.free,I.freeC,fun p hp=>?_,tracked ⟨oL,hoL,I.free⟩ hs,by simpa using I.len⟩ ⟨_,hs,.inl rfl⟩
  ·exact(hs.2 b (A1 (AH (AC e) I.ok.above))).trans (I.base.keep b o e n hb hx)
  ·obtain⟨sl,e1⟩:=I.base.slot b o e n hb hx;exact⟨sl,(hs.2 b (A1 (AH (AC e) I.ok.above))).trans e1⟩
  ·obtain⟨o',e1⟩:=I.base.there b o e hx;exact⟨o',(hs.2 b (A1 (AH (AC e) I.ok.above))).trans e1⟩
  ·by_cases hj:j=i
   ·subst hj;rw[hi]at e1;cases e1;rw[Cf hiσ]at e2;cases e2;exact⟨u,r,.inl ⟨hk,by simp⟩⟩
   ·rw[Cb (Ct hj)]at e2;obtain⟨u',r',q⟩:=hl j y v' e1 e2 e3;refine⟨u',r',?_⟩;rcases q with ⟨k,e⟩|⟨k,c,e,z⟩
    ·refine .inl ⟨k,?_⟩;have:y≠x:=fun e=>hj (NN hN e1 (e ▸ hi))
     simp[this,e]
    ·exact .inr ⟨k,c,e,z.sameBut hs (cne y c e)⟩
  ·obtain⟨w',z⟩:=I.cell y c e;exact⟨w',z.sameBut hs (cne y c e)⟩
  ·obtain⟨e,n,ne,nf,d⟩:=I.pin p hp;exact⟨(hs.2 p.1 ne).trans e,n,ne,nf,d⟩
 ·have hfn:X.fn x=Ab:=by
   rcases hf with z|z
   ·exact z
   ·rw[z]at hk;cases hk
  obtain⟨c,hc⟩:=I.ok.has x (.inl hk);obtain⟨w',z⟩:=I.cell x c hc;refine wpAny_storeName_cell I.ok.kind hk hc z (fun h' hc' hs=>?_)
  obtain⟨oc,hoc,hocd⟩:=id z;refine h {s with heap:=h'} ⟨I.ok,I.os,I.bare,⟨fun b o e n hb hx=>?_,fun b o e n hb hx=>?_,I.base.free,fun b o e hx=>?_,I.base.tups,I.base.frzs,I.base.tbls⟩,⟨m,hn.sameBut hs (Ct (cne x c hc)),fun j y v' e1 e2 e3=>?_⟩,fun y c' e=>?_,I.free,I.freeC,fun p hp=>?_,tracked ⟨oc,hoc,I.freeC x c hc⟩ hs,by simpa using I.len⟩ ⟨c,hs,.inr hc⟩
  ·exact(hs.2 b (A1 (AH (AC e) (I.ok.cab x c hfn hc)))).trans (I.base.keep b o e n hb hx)
  ·obtain⟨sl,e1⟩:=I.base.slot b o e n hb hx;exact⟨sl,(hs.2 b (A1 (AH (AC e) (I.ok.cab x c hfn hc)))).trans e1⟩
  ·obtain⟨o',e1⟩:=I.base.there b o e hx;exact⟨o',(hs.2 b (A1 (AH (AC e) (I.ok.cab x c hfn hc)))).trans e1⟩
  ·by_cases hj:j=i
   ·subst hj;rw[hi]at e1;cases e1;rw[Cf hiσ]at e2;cases e2;exact⟨u,r,.inr ⟨.inl hk,c,hc,hc'⟩⟩
   ·rw[Cb (Ct hj)]at e2;obtain⟨u',r',q⟩:=hl j y v' e1 e2 e3;refine⟨u',r',?_⟩;rcases q with q|⟨k,c',e,z'⟩
    ·exact .inl q
    ·refine .inr ⟨k,c',e,z'.sameBut hs ?_⟩;rintro rfl;exact hj (NN hN e1 (I.ok.inj _ _ _ e hc ▸ hi))
  ·by_cases hcc:c'=c
   ·subst hcc;exact⟨_,hc'⟩
   ·obtain⟨w2,z2⟩:=I.cell y c' e;exact⟨w2,z2.sameBut hs hcc⟩
  ·obtain⟨e,n,ne,nf,d⟩:=I.pin p hp;refine⟨(hs.2 p.1 ?_).trans e,n,ne,nf,d⟩;intro q;rw[q,hoc]at e;have q':oc=p.2:=Bh e;exact d w' (by rw[<-q'];exact hocd)
theorem NM{A:AV}{E:Vq}(I:Inv X pI σ H s)(hN:X.N.Nodup)(hi:X.N[i]?=Aa x)(hx:Loc X.env.scope x)(r:Bt v u)(h:∀ s',Inv X pI (σ.set i (Aa v)) H s'->Q () s')(hf:X.fn x=Ab\/X.env.scope.names.lookup x=Aa .local:=by first|exact .inl rfl|exact .inr rfl|assumption):At M A (storeName X.env x u) Q E s:=
 PY I hN hi hx r (fun s' I' _=>h s' I') hf
theorem Inv.call'{s':Aq}(I:Inv X pI σ H s)(ho:s'.os=s.os)(u:Un (frs X.stack) ch H H' s.heap s'.heap)(hok:HOk X.prog X.w H' s'.heap)(hg:Fn s'.gens)(hch:∀ b∈ch,(b∈X.ex\/X.s₀.heap.objs.size<=b)/\b≠X.env.locals/\(∀ x c,X.env.cells.lookup x=Aa c->c≠b)/\∀ p∈X.pn++pI,p.1≠b):Inv X pI σ H' s':=by
 obtain⟨h',g',d',t',o'⟩:=s';have e:o'=s.os:=ho;subst e;exact I.call (g':=g') (t':=t') (d':=d') u hok hg hch
end
abbrev XK:=Ai->Am Ak->Hp->Prop
abbrev St:=Ad (Am V)
variable{σ:St}
abbrev VK:=V->Hp->Prop
abbrev TE:=St->Hp->VK->Prop
variable{te:TE}
abbrev TT:=St->Hp->(An->Hp->Prop)->Prop
abbrev TA:=St->Hp->(Ad V->Hp->Prop)->Prop
variable{ta:TA}
structure Ends where
 nx:St->Hp->Prop
 rt:VK
 bk:St->Hp->Prop:=fun _ _=>AS
 ct:St->Hp->Prop:=fun _ _=>AS
abbrev TS:=Ends->St->Hp->Prop
def EP(X:Cx)(pI:Pn)(σ:St)(Q:VK)(u:Ai)(s':Aq):Prop:=∃ v H',Inv X pI σ H' s'/\Bt v u/\Q v H'
def TP(X:Cx)(pI:Pn)(σ:St)(Q:An->Hp->Prop)(b:An)(s':Aq):Prop:=∃ H',Inv X pI σ H' s'/\Q b H'
def AP(X:Cx)(pI:Pn)(σ:St)(Q:Ad V->Hp->Prop)(us:Ad Ai)(s':Aq):Prop:=∃ vs H',Inv X pI σ H' s'/\Bb vs us/\Q vs H'
noncomputable def SP(X:Cx)(pI:Pn)(D:Ends)(f:Flow)(s':Aq):Prop:=
  match f with
  |.next=>∃ σ' H',Inv X pI σ' H' s'/\D.nx σ' H'
  |.brk=>∃ σ' H',Inv X pI σ' H' s'/\D.bk σ' H'
  |.cont=>∃ σ' H',Inv X pI σ' H' s'/\D.ct σ' H'
  |.ret u=>∃ v σ' H',Inv X pI σ' H' s'/\Bt v u/\D.rt v H'
noncomputable def PE(X:Cx)(e:Ao)(t:TE):Prop:=
 ∀(pI:Pn)(s:Aq)(σ:St)(H:Hp)(Q:VK),Inv X pI σ H s->t σ H Q->At (model X.prog X.w) X.A (eval e X.env) (EP X pI σ Q) X.xe s
noncomputable def PT(X:Cx)(e:Ao)(t:TT):Prop:=
 ∀(pI:Pn)(s:Aq)(σ:St)(H:Hp)(Q:An->Hp->Prop),Inv X pI σ H s->t σ H Q->At (model X.prog X.w) X.A (Ic e X.env (eval e X.env)) (TP X pI σ Q) X.xe s
noncomputable def PW(X:Cx)(e:Ao)(t:TT):Prop:=
 ∀(whole:Sem Ai)(pI:Pn)(s:Aq)(σ:St)(H:Hp)(Q:An->Hp->Prop),Inv X pI σ H s->t σ H Q->At (model X.prog X.w) X.A (Ic e X.env whole) (TP X pI σ Q) X.xe s
theorem PW.pt{t:TT}(h:PW X e t):PT X e t:=h _
noncomputable def PA(X:Cx)(es:Ad Ao)(t:TA):Prop:=
 ∀(pos:AI)(pI:Pn)(s:Aq)(σ:St)(H:Hp)(Q:Ad V->Hp->Prop),Inv X pI σ H s->t σ H Q->At (model X.prog X.w) X.A (spliced (Ce pos (Ax es X.env))) (AP X pI σ Q) X.xe s
noncomputable def PS(X:Cx)(st:A4)(t:TS):Prop:=
 ∀(pI:Pn)(s:Aq)(σ:St)(H:Hp)(D:Ends),Inv X pI σ H s->t D σ H->At (model X.prog X.w) X.A (exec st X.env) (SP X pI D) X.xe s
noncomputable def PSs(X:Cx)(st:Ad A4)(t:TS):Prop:=
 ∀(pI:Pn)(s:Aq)(σ:St)(H:Hp)(D:Ends),Inv X pI σ H s->t D σ H->At (model X.prog X.w) X.A (execs st X.env) (SP X pI D) X.xe s
theorem thn{α:Type}{t:Sem α}{Q Q':α->Aq->Prop}{A:AV}{E:Vq}(h:At M A t Q E s)(hQ:∀ a s,Q a s->Q' a s):At M A t Q' E s:=Ba h hQ fun _ _ x=>x
section
variable{X:Cx}
def GK(i:Af):TE:=fun σ H Q=>∃ v,σ[i]?=Aa (Aa v)/\Q v H
def tC(v:V):TE:=fun _ H Q=>Q v H
theorem Mm(hN:X.N[i]?=Aa x)(hv:Vis X.env.scope x)(hd:(x==("__debug__" : Aj))=Ac:=by decide)(hcd:(x==("__classdict__" : Aj))=Ac:=by decide):PE X (.Name x pos) (GK i):=by
 intro pI s σ H Q I h;obtain⟨v,e,h⟩:=h;obtain⟨m,hn,hl⟩:=I.loc;obtain⟨u,r,l⟩:=hl i x v hN e hv;have fin:EP X pI σ Q u s:=⟨v,H,I,r,h⟩;rcases l with ⟨hk,hm⟩|⟨hk,c,hc,hcell⟩
 ·exact JV (wpAny_loadName_local I.ok.kind hk hn hm fin) hd
 ·rcases hk with hk|hk
  ·exact JV (wpAny_loadName_cell I.ok.kind hk hc hcell fin) hd
  ·exact JV (wpAny_loadName_free I.ok.kind hk hc hcell fin hcd) hd
theorem dE{i j pos}:PE X (.Constant (.int i) j pos) (tC (.int i)):=fun _ _ _ H _ I h=>wpAny_Constant_int ⟨.int i,H,I.tok _,⟨_,rfl⟩,h⟩
theorem jA{b j pos}:PE X (.Constant (.bool b) j pos) (tC (.bl b)):=fun _ _ _ H _ I h=>Constant_bool ⟨.bl b,H,I,rfl,h⟩
theorem dC{j pos}:PE X (.Constant .none j pos) (tC .non):=fun _ _ _ H _ I h=>Constant_none ⟨.non,H,I,rfl,h⟩
theorem RI{x j pos}:PE X (.Constant (.str x) j pos) (tC (.str x)):=fun _ _ _ H _ I h=>Calls.Constant_str ⟨.str x,H,I.tok _,⟨_,rfl⟩,h⟩
def Gl(X:Cx)(x:Aj):Prop:=X.env.kindOf x=Aa .globalImplicit
theorem IW{E:Vq}{Q:Vq}(I:Inv X pI σ H s)(hg:Gl X x)(hm:X.mg x=Aa u)(h:Q u s)(hd:(x==("__debug__" : Aj))=Ac:=by decide):At (model X.prog X.w) X.A (eval (.Name x pos) X.env) Q E s:=
 UV I.ok.kind hg (Calls.loadGlobal_global (by rw[I.ok.glob];exact I.mod.glob.keeps I.bk) hm h) hd
theorem Iq{E:Vq}{Q:Vq}(I:Inv X pI σ H s)(hg:Gl X x)(hm:X.mg x=Ae)(hv:C3 x=Aa u)(h:Q u s)(hn:x≠"__name__" := by decide)(hd:(x==("__debug__" : Aj))=Ac:=by decide):At (model X.prog X.w) X.A (eval (.Name x pos) X.env) Q E s:=by
 obtain⟨mb,h1,h2⟩:=I.mod.blt;exact UV I.ok.kind hg (Calls.loadGlobal_builtin (by rw[I.ok.glob];exact I.mod.glob.keeps I.bk) hm (by rw[I.ok.blt];exact h1.keeps I.bk) ((h2 x hn).trans hv) h) hd
theorem Rt(hg:Gl X x)(hm:X.mg x=Aa u)(r:Bt v u)(hd:(x==("__debug__" : Aj))=Ac:=by decide):PE X (.Name x pos) (tC v):=
 fun _ _ _ H _ I h=>IW I hg hm ⟨v,H,I,r,h⟩ hd
theorem Rv(hg:Gl X x)(hm:X.mg x=Ae)(hv:C3 x=Aa u)(r:Bt v u)(hn:x≠"__name__" := by decide)(hd:(x==("__debug__" : Aj))=Ac:=by decide):PE X (.Name x pos) (tC v):=
 fun _ _ _ H _ I h=>Iq I hg hm hv ⟨v,H,I,r,h⟩ hn hd
variable{a b:Ao}{ta tb:TE}{pos:AI}
variable{tA tB':TT}{rest:Ad Ao}
def mP(t u:TT):TT:=fun σ H Q=>t σ H fun c H1=>if c=Ab then u σ H1 Q else Q Ac H1
def tOr(t u:TT):TT:=fun σ H Q=>t σ H fun c H1=>if c=Ab then Q Ab H1 else u σ H1 Q
def mI(t:TT):TT:=fun σ H Q=>t σ H fun c H1=>Q (!c) H1
theorem YU(ha:PT X a tA):PW X (.BoolOp .And [a] pos) tA:=by
 intro wh pI s σ H Q I h;refine isTrue_and (thn (ha pI s σ H Q I h) fun c s1 e=>?_)
 cases c with
 |true=>exact isTrue_and_nil e
 |false=>exact e
theorem cR(ha:PT X a tA):PW X (.BoolOp .Or [a] pos) tA:=by
 intro wh pI s σ H Q I h;refine isTrue_or (thn (ha pI s σ H Q I h) fun c s1 e=>?_)
 cases c with
 |false=>exact isTrue_or_nil e
 |true=>exact e
theorem cS(ha:PT X a tA)(hb:PW X (.BoolOp .And (b::rest) pos) tB'):PW X (.BoolOp .And (a::b::rest) pos) (mP tA tB'):=by
 intro wh pI s σ H Q I h;refine isTrue_and (thn (ha pI s σ H _ I h) fun c s1 ⟨H1,I1,q1⟩=>?_)
 cases c with
 |true=>exact hb wh pI s1 σ H1 Q I1 q1
 |false=>exact⟨H1,I1,q1⟩
theorem kL(ha:PT X a tA)(hb:PW X (.BoolOp .Or (b::rest) pos) tB'):PW X (.BoolOp .Or (a::b::rest) pos) (tOr tA tB'):=by
 intro wh pI s σ H Q I h;refine isTrue_or (thn (ha pI s σ H _ I h) fun c s1 ⟨H1,I1,q1⟩=>?_)
 cases c with
 |true=>exact⟨H1,I1,q1⟩
 |false=>exact hb wh pI s1 σ H1 Q I1 q1
theorem cT(ha:PT X a tA):PT X (.UnaryOp .Not a pos) (mI tA):=by
 intro pI s σ H Q I h;exact isTrue_not (ha pI s σ H (fun c H1=>Q (!c) H1) I h)
def iQ(ta tb:TE):TE:=fun σ H Q=>ta σ H fun x H1=>∃ c,x=.bl c/\if c=Ab then tb σ H1 Q else Q (.bl Ac) H1
def mH(ta tb:TE):TE:=fun σ H Q=>ta σ H fun x H1=>∃ c,x=.bl c/\if c=Ab then Q (.bl Ab) H1 else tb σ H1 Q
def gL(ta:TE):TE:=fun σ H Q=>ta σ H fun x H1=>∃ c,x=.bl c/\Q (.bl (!c)) H1
theorem dA{op}{t:TE}(h:PE X a t):PE X (.BoolOp op [a] pos) t:=fun pI s σ H Q I hw=>BoolOp_one (h pI s σ H Q I hw)
theorem bU(ha:PE X a ta)(hb:PE X (.BoolOp .And (b::rest) pos) tb):PE X (.BoolOp .And (a::b::rest) pos) (iQ ta tb):=by
 intro pI s σ H Q I h;refine BoolOp_and (thn (ha pI s σ H _ I h) fun v s1 ⟨x,H1,I1,r1,q1⟩=>?_)
 obtain⟨c,rfl,q1⟩:=q1;cases r1;refine CC ?_;cases c with
 |true=>exact hb pI s1 σ H1 Q I1 q1
 |false=>exact⟨.bl Ac,H1,I1,rfl,q1⟩
theorem kP(ha:PE X a ta)(hb:PE X (.BoolOp .Or (b::rest) pos) tb):PE X (.BoolOp .Or (a::b::rest) pos) (mH ta tb):=by
 intro pI s σ H Q I h;refine BoolOp_or (thn (ha pI s σ H _ I h) fun v s1 ⟨x,H1,I1,r1,q1⟩=>?_)
 obtain⟨c,rfl,q1⟩:=q1;cases r1;refine CC ?_;cases c with
 |false=>exact hb pI s1 σ H1 Q I1 q1
 |true=>exact⟨.bl Ab,H1,I1,rfl,q1⟩
theorem dB(ha:PE X a ta):PE X (.UnaryOp .Not a pos) (gL ta):=by
 intro pI s σ H Q I h;refine UnaryOp_ (thn (ha pI s σ H _ I h) fun v s1 ⟨x,H1,I1,r1,q1⟩=>?_)
 obtain⟨c,rfl,q1⟩:=q1;cases r1;exact not_of (CC ⟨.bl (!c),H1,I1,rfl,q1⟩)
end
noncomputable def SqL(K:Fg)(H:Hp)(a:Ak)(xs:Ad V):Prop:=
 Rd H a (.lst xs) \/
  ∃(o:Cz)(its:AX Ai)(n:Af),K.lookup a=Aa o/\o.cls=.type "list"/\o.dict=Ae/\o.data=.seq its n/\its.size<=sizeLine/\Bb xs its.toList
noncomputable def SqT(K:Fg)(H:Hp)(a:Ak)(xs:Ad V):Prop:=
 Rd H a (.tup xs) \/
  ∃(o:Cz)(its:AX Ai)(n:Af),K.lookup a=Aa o/\o.cls=.type "tuple"/\o.data=.seq its n/\its.size<=sizeLine/\Bb xs its.toList
noncomputable def mQ:Ai->Am V
 |.none=>Aa .non
 |.bool b=>Aa (.bl b)
 |.int i _=>Aa (.int i)
 |.str x _=>Aa (.str x)
 |.bytes b _=>Aa (.byt b)
 |.float b _=>Aa (.flt b)
 |.ref a=>Aa (.ref a)
 |.type n=>Aa (.ty n)
 |_=>Ae
theorem Bt.abs{x:V}(r:Bt x u):mQ u=Aa x:=by
 cases x with
 |non=>cases r;rfl
 |bl _=>cases r;rfl
 |int _=>obtain⟨t,rfl⟩:=r;rfl
 |str _=>obtain⟨t,rfl⟩:=r;rfl
 |byt _=>obtain⟨t,rfl⟩:=r;rfl
 |flt _=>obtain⟨t,rfl⟩:=r;rfl
 |ref _=>cases r;rfl
 |ty _=>cases r;rfl
theorem Bt.inj{x y:V}(r:Bt x u)(q:Bt y u):x=y:=Bh (r.abs.symm.trans q.abs)
theorem Bb.inj:∀{xs ys:Ad V}{us:Ad Ai},Bb xs us->Bb ys us->xs=ys
 |_,_,_,.nil,.nil=>rfl
 |_,_,_,.cons r t,.cons r' t'=>by rw[r.inj r',Bb.inj t t']
section
variable{X:Cx}{pI:Pn}{σ:St}{H:Hp}{s:Aq}{a:Ak}{xs ys:Ad V}
theorem SqL.of{K:Fg}(h:H a=Aa (.lst xs)):SqL K H a xs:=.inl (.inl h)
theorem SqT.of{K:Fg}(h:H a=Aa (.tup xs)):SqT K H a xs:=.inl (.inl h)
theorem Inv.list(I:Inv X pI σ H s)(h:SqL X.K H a xs):∃ its:Ad Ai,Bb xs its/\PlainL s.heap a its.toArray/\xs.length<=sizeLine:=by
 rcases h with h|⟨o,its,n,hk,hc,hd,hs,hz,r⟩
 ·obtain⟨z,its,n,r,e⟩:=h.ok I.hok;exact⟨its,r,⟨_,n,e,rfl,rfl,rfl⟩,z⟩
 ·refine⟨its.toList,r,⟨o,n,I.kIn a o hk,hc,hd,by simpa using hs⟩,?_⟩
  have e:=r.length;simp only[D8]at e;omega
theorem Inv.tuple(I:Inv X pI σ H s)(h:SqT X.K H a xs):∃ its:Ad Ai,Bb xs its/\Jk s.heap a its.toArray/\xs.length<=sizeLine:=by
 rcases h with h|⟨o,its,n,hk,hc,hs,hz,r⟩
 ·obtain⟨z,its,r,p⟩:=h.ok I.hok;exact⟨its,r,p,z⟩
 ·refine⟨its.toList,r,⟨o,I.kIn a o hk,hc,n,by simpa using hs⟩,?_⟩
  have e:=r.length;simp only[D8]at e;omega
theorem Inv.list_inj(I:Inv X pI σ H s)(h:SqL X.K H a xs)(h':SqL X.K H a ys):xs=ys:=by
 obtain⟨its,r,⟨o,n,e,_,_,d⟩,_⟩:=I.list h;obtain⟨its',r',⟨o',n',e',_,_,d'⟩,_⟩:=I.list h';rw[e]at e';cases e';rw[d]at d'
 injection d' with d1 _
 have:its=its':=by simpa using congrArg Uc d1
 subst this;exact r.inj r'
theorem Inv.tuple_inj(I:Inv X pI σ H s)(h:SqT X.K H a xs)(h':SqT X.K H a ys):xs=ys:=by
 obtain⟨its,r,⟨o,e,_,n,d⟩,_⟩:=I.tuple h;obtain⟨its',r',⟨o',e',_,n',d'⟩,_⟩:=I.tuple h';rw[e]at e';cases e';rw[d]at d'
 injection d' with d1 _
 have:its=its':=by simpa using congrArg Uc d1
 subst this;exact r.inj r'
end
noncomputable abbrev Cx.wish(X:Cx)(E:Vq):Cx:={X with xe:=E}
noncomputable abbrev Cx.nox(X:Cx):Cx:=X.wish fun _ _=>AS
theorem Cx.Ok.wish(ok:X.Ok)(E:Vq):(X.wish E).Ok:=
 ⟨ok.mod,ok.kind,ok.glob,ok.blt,ok.above,ok.inj,ok.has,ok.cab,ok.hd,ok.frames,ok.stk,ok.exf,ok.bs,ok.bsz,ok.noex,ok.exfs,ok.funs,ok.frf⟩
theorem Cx.Ok.unwish{E:Vq}(ok:(X.wish E).Ok):X.Ok:=
 ⟨ok.mod,ok.kind,ok.glob,ok.blt,ok.above,ok.inj,ok.has,ok.cab,ok.hd,ok.frames,ok.stk,ok.exf,ok.bs,ok.bsz,ok.noex,ok.exfs,ok.funs,ok.frf⟩
section
variable{X:Cx}{pI:Pn}{σ:St}{H:Hp}{s:Aq}{E:Vq}
theorem Inv.wish(I:Inv X pI σ H s)(E:Vq):Inv (X.wish E) pI σ H s:=⟨I.ok.wish E,I.os,I.bare,I.base,I.loc,I.cell,I.free,I.freeC,I.pin,I.hok,I.len⟩
theorem Inv.unwish(I:Inv (X.wish E) pI σ H s):Inv X pI σ H s:=⟨I.ok.unwish,I.os,I.bare,I.base,I.loc,I.cell,I.free,I.freeC,I.pin,I.hok,I.len⟩
theorem SP.unwish{D:Ends}{f:Flow}{s':Aq}(h:SP (X.wish E) pI D f s'):SP X pI D f s':=by
 cases f with
 |next=>obtain⟨σ',H',I,q⟩:=h;exact⟨σ',H',I.unwish,q⟩
 |brk=>obtain⟨σ',H',I,q⟩:=h;exact⟨σ',H',I.unwish,q⟩
 |cont=>obtain⟨σ',H',I,q⟩:=h;exact⟨σ',H',I.unwish,q⟩
 |ret u=>obtain⟨v,σ',H',I,r,q⟩:=h;exact⟨v,σ',H',I.unwish,r,q⟩
theorem PSs.nox{st:Ad A4}{t:TS}(h:PSs X.nox st t):PSs X st t:=fun pI s σ H D I hw=>
 Ba (h pI s σ H D (I.wish _) hw) (fun _ _ q=>q.unwish) fun _ _ z=>A9 z
end
section
variable{X:Cx}{st:A4}{rest:Ad A4}{t u:TS}{e:Ao}{te:TE}{pos:AI}
def gM:TS:=fun D σ H=>D.nx σ H
def mF(t u:TS):TS:=fun D σ H=>t {D with nx:=u D} σ H
theorem YY:PSs X [] gM:=fun _ _ σ H _ I h=>E8 ⟨σ,H,I,h⟩
theorem Qp(h1:PS X st t)(h2:PSs X rest u):PSs X (st::rest) (mF t u):=by
 intro pI s σ H D I h;refine Hs (thn (h1 pI s σ H {D with nx:=u D} I h) fun f s1 q=>?_)
 cases f with
 |next=>
  obtain⟨σ',H',I',q⟩:=q;exact h2 pI s1 σ' H' D I' q
 |ret v=>exact q
 |brk=>exact q
 |cont=>exact q
theorem Lh(h1:PS X st t):PSs X [st] t:=by
 intro pI s σ H D I h;refine Hs (thn (h1 pI s σ H D I h) fun f s1 q=>?_)
 cases f with
 |next=>exact E8 q
 |ret v=>exact q
 |brk=>exact q
 |cont=>exact q
theorem Inv.quiet(I:Inv X pI σ H s):interactive X.env=Ac:=by simp[interactive,I.ok.kind]
def gN(te:TE):TS:=fun D σ H=>te σ H fun _ H1=>D.nx σ H1
theorem L9(he:PE X e te)(hs:Do e Ae pos.line X.env=pure Ac:=by rfl):PS X (.Expr e pos) (gN te):=by
 intro pI s σ H D I h;exact wpAny_Expr_any (thn (he pI s σ H _ I h) fun v s1 ⟨x,H1,I1,r1,q1⟩=>⟨σ,H1,I1,q1⟩) I.quiet hs
def mG(te:TE):TS:=fun D σ H=>te σ H D.rt
theorem Oq(he:PE X e te):PS X (.Return (Aa e) pos) (mG te):=by
 intro pI s σ H D I h;exact wpAny_Return_some (thn (he pI s σ H _ I h) fun v s1 ⟨x,H1,I1,r1,q1⟩=>⟨x,σ,H1,I1,r1,q1⟩)
def mL(c:TT)(t u:TS):TS:=fun D σ H=>c σ H fun b H1=>if b=Ab then t D σ H1 else u D σ H1
theorem kM{c:Ao}{a b:Ad A4}{tc:TT}(hc:PT X c tc)(ha:PSs X a t)(hb:PSs X b u):PS X (.If c a b pos) (mL tc t u):=by
 intro pI s σ H D I h;refine wpAny_If (thn (hc pI s σ H _ I h) fun d s1 ⟨H1,I1,q1⟩=>?_)
 cases d with
 |true=>exact ha pI s1 σ H1 D I1 q1
 |false=>exact hb pI s1 σ H1 D I1 q1
end
abbrev TG:=V->St->Hp->(St->Hp->Prop)->Prop
abbrev TGs:=Ad V->St->Hp->(St->Hp->Prop)->Prop
noncomputable def PG(X:Cx)(target:Ao)(t:TG):Prop:=
 ∀(pI:Pn)(s:Aq)(σ:St)(H:Hp)(v:V)(u:Ai)(Q:St->Hp->Prop),Inv X pI σ H s->Bt v u->t v σ H Q ->
  At (model X.prog X.w) X.A (assign target X.env u) (fun _ s'=>∃ σ' H',Inv X pI σ' H' s'/\Q σ' H') X.xe s
noncomputable def PGs(X:Cx)(ts:Ad Ao)(t:TGs):Prop:=
 ∀(pI:Pn)(s:Aq)(σ:St)(H:Hp)(vs:Ad V)(us:Ad Ai)(Q:St->Hp->Prop),Inv X pI σ H s->Bb vs us->t vs σ H Q ->
  At (model X.prog X.w) X.A (assignInOrder ((Cd ts X.env).map (·.2)) us) (fun _ s'=>∃ σ' H',Inv X pI σ' H' s'/\Q σ' H') X.xe s
abbrev Pe:=V->V->V->Hp->(Hp->Prop)->Prop
noncomputable def TZ(X:Cx)(t:Pe):Prop:=
 ∀(pI:Pn)(s:Aq)(σ:St)(H:Hp)(o i v:V)(ov iv u:Ai)(Q:Hp->Prop),Inv X pI σ H s->Bt o ov->Bt i iv->Bt v u->t o i v H Q ->
  At (model X.prog X.w) X.A (setItem ov iv u) (fun _ s'=>∃ H',Inv X pI σ H' s'/\Q H') X.xe s
section
variable{X:Cx}{pos:AI}
def EX(i:Af):TG:=fun v σ H Q=>Q (σ.set i (Aa v)) H
theorem Li(hN:X.N.Nodup)(hi:X.N[i]?=Aa x)(hx:Loc X.env.scope x)(hf:X.fn x=Ab\/X.env.scope.names.lookup x=Aa .local:=by first|exact .inl rfl|exact .inr rfl|assumption):PG X (.Name x pos) (EX i):=by
 intro pI s σ H v u Q I r h;exact VM (NM I hN hi hx r (fun s' I'=>⟨_,H,I',h⟩) hf)
def HF:TGs:=fun vs σ H Q=>vs=[]/\Q σ H
def Hy(t:TG)(u:TGs):TGs:=fun vs σ H Q=>∃ v r,vs=v::r/\t v σ H fun σ' H'=>u r σ' H' Q
theorem Rs:PGs X [] HF:=by
 intro pI s σ H vs us Q I r h;obtain⟨e,h⟩:=h;subst e;cases r;exact assignInOrder_nil ⟨σ,H,I,h⟩
theorem Qq{t:TG}{u:TGs}(h1:PG X e t)(h2:PGs X es u)(hs:(Cd (e::es) X.env).map (·.2)=assign e X.env::(Cd es X.env).map (·.2):=by rfl):PGs X (e::es) (Hy t u):=by
 intro pI s σ H vs us Q I r h;obtain⟨v,vr,e1,h⟩:=h;subst e1;cases r with
 |cons r rr=>
  rw[hs];refine assignInOrder_cons (thn (h1 pI s σ H _ _ _ I r h) fun _ s1 ⟨σ1,H1,I1,q1⟩=>?_)
  exact h2 pI s1 σ1 H1 _ _ Q I1 rr q1
def KI(K:Fg)(n:Af)(t:TGs):TG:=fun v σ H Q=>∃ a xs,v=.ref a/\SqT K H a xs/\xs.length=n/\t xs σ H Q
theorem Ot{t:TGs}(hc:X.calm=Ab)(h:PGs X es t)(hn:(Cd es X.env).length=n:=by rfl)(hst:(Cd es X.env).findIdx? (·.1)=Ae:=by rfl):PG X (.Tuple es k pos) (KI X.K n t):=by
 intro pI s σ H v u Q I r hw;obtain⟨a,xs,e1,hq,hl,hw⟩:=hw;subst e1;cases r;obtain⟨its,rv,ht,hz⟩:=I.tuple hq;refine assign_Tuple_tuple (I.ok.hd hc) ht (by simp[hn,<-hl,rv.length]) hst fun h' hx=>?_
 have I1:Inv X pI σ H {s with heap:=h'}:=I.kept (t':=s.toks) fun b o e=>hx b o (A1 (AC e)) e
 exact h pI _ σ H xs _ Q I1 (by simpa using rv) hw
def nG(to ti:TE)(t:Pe):TG:=fun v σ H Q=>to σ H fun o H1=>ti σ H1 fun i H2=>t o i v H2 fun H3=>Q σ H3
theorem cZ{o i:Ao}{to ti:TE}{t:Pe}(ho:PE X o to)(hi:PE X i ti)(hs:TZ X t)(ha:∀ v,assign (.Subscript o i pos) X.env v=(do
   let ov <-holding [v] (eval o X.env)
   let iv <-holding [v,ov] (eval i X.env)
   Jm pos
   holding [v,ov,iv] (setItem ov iv v)
   release [v,ov,iv] []):=by intro _;rfl):PG X (.Subscript o i pos) (nG to ti t):=by
 intro pI s σ H v u Q I r h;rw[ha];refine Ah (Bv (thn (ho pI s σ H _ I h) fun ov s1 ⟨x,H1,I1,r1,q1⟩=>?_))
 refine Ah (Bv (thn (hi pI s1 σ H1 _ I1 q1) fun iv s2 ⟨y,H2,I2,r2,q2⟩=>?_))
 refine Ah (DI (Ah (Bv (thn (hs pI s2 σ H2 x y v ov iv u _ I2 r1 r2 r q2) fun _ s3 ⟨H3,I3,q3⟩=>?_))))
 exact wpAny_release ⟨σ,H3,I3,q3⟩
def MJ(te:TE)(g:TG):TS:=fun D σ H=>te σ H fun x H1=>g x σ H1 D.nx
theorem RG{g:TG}(he:PE X e te)(hg:PG X tg g)(hs:G1 [tg] e pos.line X.env=pure Ac:=by rfl)(hw:FQ [tg] e X.env=pure Ae:=by rfl)(h1:(Cd [tg] X.env).map (·.2)=[assign tg X.env]:=by rfl):PS X (.Assign [tg] e pos) (MJ te g):=by
 intro pI s σ H D I h;refine wpAny_Assign_stores (thn (he pI s σ H _ I h) fun v s1 ⟨x,H1,I1,r1,q1⟩=>?_) hs hw
 rw[h1];exact thn (hg pI s1 σ H1 x v _ I1 r1 q1) fun _ s2 q=>q
theorem Ml{pos':AI}(hN:X.N.Nodup)(hi:X.N[i]?=Aa x)(hx:Loc X.env.scope x)(he:PE X e te)(hs:Do e (Aa (.Name x pos')) pos.line X.env=pure Ac:=by rfl)(hf:X.fn x=Ab\/X.env.scope.names.lookup x=Aa .local:=by first|exact .inl rfl|exact .inr rfl|assumption):PS X (.Assign [.Name x pos'] e pos) (MJ te (EX i)):=by
 intro pI s σ H D I h;refine wpAny_Assign_Name (thn (he pI s σ H _ I h) fun v s1 ⟨y,H1,I1,r1,q1⟩=>?_) hs
 exact NM I1 hN hi hx r1 (fun s2 I2=>⟨_,H1,I2,q1⟩) hf
end
section
variable{X:Cx}{pos:AI}
end
structure It where
 go:Af->Hp->Prop
 yld:Af->Hp->V->Hp->Prop
 stop:Af->Hp->Prop
noncomputable def GM(X:Cx)(pI:Pn)(H:Hp)(b:Ak):Prop:=
 H b=Ae/\b≠X.env.locals/\b∉X.fs/\(b∈X.ex\/X.s₀.heap.objs.size<=b)/\(∀ x c,X.env.cells.lookup x=Aa c->c≠b)/\∀ p∈X.pn++pI,p.1≠b
theorem Inv.fpOk{H':Hp}(I:Inv X pI σ H s)(hb:s.heap.objs.size<=b)(hn:H' b=Ae):GM X pI H' b:=by
 refine⟨hn,CZ (AH I.lt hb),I.nofs hb,.inr (BR I.sz hb),fun x c e z=>?_,fun p hp z=>?_⟩
 ·obtain⟨v,q⟩:=I.cell x c e;exact absurd (AH q.lt (by rw[z];exact hb)) (Bf _)
 ·exact absurd (AH (AC (I.pin p hp).1) (by rw[z];exact hb)) (Bf _)
structure Turn (P:AK) (w:AY) (K:Fg) (tg:Ao) (J:It) (fp:Ad Ak) (it:Ak) (tn:Af->AB->Prop):Prop where
 mem:it∈fp
 obj:∀ i h,tn i h->∀ b∈fp,∃ o,h.get? b=Aa o/\∀ v,o.data≠.cell v
 keep:∀ i h h',tn i h->(∀ b∈fp,∀ o,h.get? b=Aa o->h'.get? b=Aa o)->tn i h'
 item:∀(X:Cx),X.prog=P->X.w=w->X.K=K->X.calm=Ab->∀(i:Af)(pI:Pn)(s:Aq)(σ:St)(H:Hp)(E:Vq),Inv X pI σ H s->(∀ b∈fp,GM X pI H b)->tn i s.heap->J.go i H ->
  At (model P w) X.A (DM (.ref it)) (fun r s1=>∃ u,r=Aa u /\
   At (model P w) X.A (Gj tg (.ref it) u) (fun _ s2=>∃ x H',Inv X pI σ H' s2/\Bt x u/\J.yld i H x H'/\tn (i+1) s2.heap/\∀ b∈fp,H' b=Ae) E s1) E s
 done:∀(X:Cx),X.prog=P->X.w=w->X.K=K->X.calm=Ab->∀(i:Af)(pI:Pn)(s:Aq)(σ:St)(H:Hp)(E:Vq),Inv X pI σ H s->(∀ b∈fp,GM X pI H b)->tn i s.heap->J.stop i H ->
  At (model P w) X.A (DM (.ref it)) (fun r s1=>r=Ae/\Inv X pI σ H s1) E s
 self:∀(A:AV)(i:Af)(s:Aq)(Q:Vq)(E:Vq),tn i s.heap->Q (.ref it) s->At (model P w) A (JT (.ref it)) Q E s
abbrev TI:=St->Hp->(It->Hp->Prop)->Prop
noncomputable def PIE(X:Cx)(pI:Pn)(σ:St)(tg:Ao)(R:It->Hp->Prop)(itv:Ai)(s2:Aq):Prop:=
 ∃(it:Ak)(fp:Ad Ak)(tn:Af->AB->Prop)(J:It)(H':Hp),itv=.ref it/\Inv X pI σ H' s2/\Turn X.prog X.w X.K tg J fp it tn/\tn 0 s2.heap/\(∀ b∈fp,GM X pI H' b)/\R J H'
noncomputable def PI(X:Cx)(tg iter:Ao)(wi:TI):Prop:=
 ∀(pI:Pn)(s:Aq)(σ:St)(H:Hp)(R:It->Hp->Prop),Inv X pI σ H s->wi σ H R ->
  At (model X.prog X.w) X.A (eval iter X.env) (fun v s1=>At (model X.prog X.w) X.A (JT v) (PIE X pI σ tg R) X.xe s1) X.xe s
theorem OP{A:AV}{E:Vq}{n:Dh}{vs:AX Ai}(ho:s.heap.get? it=Aa o)(hc:o.cls=.type n)(hd:o.data=.fields vs)(hn:["enumerate", "zip", "dict_itemiterator", "dict_reverseitemiterator", "odict_iterator", "itertools.zip_longest", "itertools.pairwise"].contains n=Ac)(hQ:Q () s):At M A (Gj tg (.ref it) u) Q E s:=by
  unfold Gj;cases tg<;>first
    |exact As hQ
    | (cases u<;>first
        |exact As hQ
        | (refine Ah (wpAny_load ho ?_)
           rw[hc,hd];show At M A (if (["enumerate", "zip", "dict_itemiterator", "dict_reverseitemiterator", "odict_iterator", "itertools.zip_longest", "itertools.pairwise"].contains n&&vs[0]? == Aa (B4 _))=Ab then _ else _) Q E s
           rw[AM (by intro h;rw[hn,Bool.false_and]at h;cases h)]
           exact As hQ))
noncomputable def Itl(K:Fg)(a:Ak):It:=
 ⟨fun i H=>∃ xs x,SqL K H a xs/\xs[i]?=Aa x,fun i H x H'=>H'=H/\∀ xs,SqL K H a xs->xs[i]?=Aa x,fun i H=>∃ xs,SqL K H a xs/\xs.length<=i⟩
noncomputable def Itt(K:Fg)(a:Ak):It:=
 ⟨fun i H=>∃ xs x,SqT K H a xs/\xs[i]?=Aa x,fun i H x H'=>H'=H/\∀ xs,SqT K H a xs->xs[i]?=Aa x,fun i H=>∃ xs,SqT K H a xs/\xs.length<=i⟩
noncomputable def Itr(lo:Ag)(n:Af):It:=⟨fun i _=>i<n,fun i H x H'=>H'=H/\x=.int (lo+i),fun i _=>n<=i⟩
theorem Wl{w:AY}{K:Fg}(a it:Ak):Turn P w K tg (Itl K a) [it] it (fun i h=>h.IsListIter it a i) where
  mem:=by simp
  obj:=fun i h st b hb=>by
    have e:b=it:=by simpa using hb
    subst e;obtain⟨o,e,c,d⟩:=st;exact⟨o,e,fun v z=>by rw[d]at z;cases z⟩
  keep:=fun i h h' st k=>st.at fun o e=>k it (by simp) o e
  item:=by
    intro X hP hw hK hc i pI s σ H E I hf st hg;subst hP hw hK;obtain⟨xs,x,hq,hx⟩:=hg;obtain⟨its,rv,p,hz⟩:=I.list hq;obtain⟨u,hu,ru⟩:=rv.get hx;obtain⟨f0,f1,f2,f3,f4,f5⟩:=hf it (by simp)
    refine VT st p.isList (x:=u) (by simpa using hu) fun h' st' sb=>?_
    have I1:Inv X pI σ H {s with heap:=h'}:=I.turned (t':=s.toks) (fun b o hb e=>(sb.2 b hb).trans e) f0 f1 f3 f4 f5
    obtain⟨o,e,c,d⟩:=id st';exact⟨u,rfl,OP (s:={s with heap:=h'}) e c d (by decide) ⟨x,H,I1,ru,⟨rfl,fun ys hy=>by rw[I.list_inj hy hq];exact hx⟩,st',fun b hb=>(hf b hb).1⟩⟩
  done:=by
    intro X hP hw hK hc i pI s σ H E I hf st hg;subst hP hw hK;obtain⟨xs,hq,hx⟩:=hg;obtain⟨its,rv,p,hz⟩:=I.list hq;obtain⟨f0,f1,f2,f3,f4,f5⟩:=hf it (by simp)
    have hl:=rv.length;exact VS (I.ok.hd hc) st p.isList (by simp;omega) fun h' eb=>⟨rfl,I.turned (t':=s.toks) (fun b o hb e=>eb b o hb e) f0 f1 f3 f4 f5⟩
  self:=fun _ _ _ _ _ st h=>wpAny_pyIter_listiter st h
theorem Wo{w:AY}{K:Fg}(a it:Ak):Turn P w K tg (Itt K a) [it] it (fun i h=>h.IsTupleIter it a i) where
  mem:=by simp
  obj:=fun i h st b hb=>by
    have e:b=it:=by simpa using hb
    subst e;obtain⟨o,e,c,d⟩:=st;exact⟨o,e,fun v z=>by rw[d]at z;cases z⟩
  keep:=fun i h h' st k=>st.at fun o e=>k it (by simp) o e
  item:=by
    intro X hP hw hK hc i pI s σ H E I hf st hg;subst hP hw hK;obtain⟨xs,x,hq,hx⟩:=hg;obtain⟨its,rv,p,hz⟩:=I.tuple hq;obtain⟨u,hu,ru⟩:=rv.get hx;obtain⟨f0,f1,f2,f3,f4,f5⟩:=hf it (by simp)
    refine wpAny_pyNext_tuple_item st (show s.heap.IsTuple a its.toArray from p) (x:=u) (by simpa using hu) fun h' st' sb=>?_
    have I1:Inv X pI σ H {s with heap:=h'}:=I.turned (t':=s.toks) (fun b o hb e=>(sb.2 b hb).trans e) f0 f1 f3 f4 f5
    obtain⟨o,e,c,d⟩:=id st';exact⟨u,rfl,OP (s:={s with heap:=h'}) e c d (by decide) ⟨x,H,I1,ru,⟨rfl,fun ys hy=>by rw[I.tuple_inj hy hq];exact hx⟩,st',fun b hb=>(hf b hb).1⟩⟩
  done:=by
    intro X hP hw hK hc i pI s σ H E I hf st hg;subst hP hw hK;obtain⟨xs,hq,hx⟩:=hg;obtain⟨its,rv,p,hz⟩:=I.tuple hq;obtain⟨f0,f1,f2,f3,f4,f5⟩:=hf it (by simp)
    have hl:=rv.length;exact wpAny_pyNext_tuple_end (I.ok.hd hc) st (show s.heap.IsTuple a its.toArray from p) (by simp;omega) fun h' eb=>⟨rfl,I.turned (t':=s.toks) (fun b o hb e=>eb b o hb e) f0 f1 f3 f4 f5⟩
  self:=fun _ _ _ _ _ st h=>wpAny_pyIter_tupleiter st h
theorem Wp{w:AY}{K:Fg}(it:Ak)(lo:Ag)(n:Af):Turn P w K tg (Itr lo n) [it] it (fun i h=>IsRangeIter h it (lo+(i:Af)*1) ((n:Ag)-(i:Af)) 1) where
  mem:=by simp
  obj:=fun i h st b hb=>by
    have e:b=it:=by simpa using hb
    subst e;exact⟨_,st,fun v z=>by
      have z':Data.fields _=KO v:=z;cases z'⟩
  keep:=fun i h h' st k=>k it (by simp) _ st
  item:=by
    intro X hP hw hK hc i pI s σ H E I hf st hg;subst hP hw hK;obtain⟨f0,f1,f2,f3,f4,f5⟩:=hf it (by simp)
    have W:=Walks.range (prog:=X.prog) (w:=X.w) (I.ok.hd hc) it lo 1 n;refine W.item i s _ _ hg st fun v h' tk hv st' kk=>?_
    obtain⟨t,rfl⟩:=hv;have I1:Inv X pI σ H {s with heap:=h',toks:=tk}:=I.turned (fun b o hb e=>kk b o (by simpa using hb) e) f0 f1 f3 f4 f5
    refine⟨_,rfl,OP (s:={s with heap:=h',toks:=tk}) (n := "range_iterator") st' rfl rfl (by decide) ⟨.int (lo+i),H,I1,⟨t,?_⟩,⟨rfl,rfl⟩,st',fun b hb=>(hf b hb).1⟩⟩
    rw[Ug]
  done:=by
    intro X hP hw hK hc i pI s σ H E I hf st hg;subst hP hw hK;obtain⟨f0,f1,f2,f3,f4,f5⟩:=hf it (by simp)
    exact wpAny_pyNext_range_end (I.ok.hd hc) st (by have:n<=i:=hg;omega) fun h' eb=>⟨rfl,I.turned (t':=s.toks) (fun b o hb e=>eb b o hb e) f0 f1 f3 f4 f5⟩
  self:=fun _ _ _ _ _ st h=>wpAny_pyIter_rangeiter st h
section
variable{X:Cx}{tg:Ao}
theorem Qo{R:It->Hp->Prop}{E:Vq}{lo hi:Ag}{t u v:CT}{tk:Af}(I:Inv X pI σ H s)(h1:-(2 ^ 62)<=lo)(h2:lo<2 ^ 62)(h3:-(2 ^ 62)<=hi)(h4:hi<2 ^ 62)(q:R (Itr lo (hi-lo).toNat) H):At (model X.prog X.w) X.A (JT (.ref s.heap.objs.size)) (PIE X pI σ tg R) E { s with heap:=s.heap.push { cls:=.type "range", data:=.fields #[.int lo t,.int hi u,.int 1 v] },toks:=tk }:=by
 refine wpAny_pyIter_range (IsRange.new ..) (small_one h1 h2 h3 h4) ?_;have I1:Inv X pI σ H { s with heap:=s.heap.push { cls:=.type "range", data:=.fields #[.int lo t,.int hi u,.int 1 v] },toks:=tk }:=I.kept fun b o e=>Ap _ e
 refine⟨(s.heap.push { cls:=.type "range", data:=.fields #[.int lo t,.int hi u,.int 1 v] }).objs.size,[(s.heap.push { cls:=.type "range", data:=.fields #[.int lo t,.int hi u,.int 1 v] }).objs.size],_,_,H,rfl,
  I1.kept (t':=tk) fun b o e=>Ap _ e,Wp _ lo (hi-lo).toNat,?_,fun b hb=>?_,q⟩
 ·have e1:lo+((0:Af):Ag)*1=lo:=by simp
  have e2:(((hi-lo).toNat:Af):Ag)-((0:Af):Ag)=Builtin.Range.rangeSize lo hi 1:=by rw[rangeSize_one];split<;>omega
  show IsRangeIter _ _ (lo+((0:Af):Ag)*1) ((((hi-lo).toNat:Af):Ag)-((0:Af):Ag)) 1;rw[e1,e2];exact AD _ rfl
 ·have e:b=(s.heap.push { cls:=.type "range", data:=.fields #[.int lo t,.int hi u,.int 1 v] }).objs.size:=by simpa using hb
  subst e;exact I1.fpOk (AU _) (I1.hok.fresh (AU _))
def lI(ta:TA):TI:=fun σ H R=>ta σ H fun vs H1=>∃ j:Ag,vs=[.int j]/\-(2 ^ 62)<=j/\j<2 ^ 62/\R (Itr 0 j.toNat) H1
def lH(ta:TA):TI:=fun σ H R=>ta σ H fun vs H1=>∃ i j:Ag,vs=[.int i,.int j]/\(-(2 ^ 62)<=i/\i<2 ^ 62/\-(2 ^ 62)<=j/\j<2 ^ 62)/\R (Itr i (j-i).toNat) H1
theorem WS{a:Ao}(hg:Gl X "range")(hm:X.mg "range" = Ae)(ha:PA X [a] ta)(hs:Ax [a] X.env=[(Ac,eval a X.env)]:=by rfl):PI X tg (.Call (.Name "range" p) [a] [] pos) (lI ta):=by
 intro pI s σ H R I h;refine JN (Iq I hg hm boot_range (B6 (thn (ha pos pI s σ H _ I h) fun us s1 ⟨vs,H1,I1,r1,q1⟩=>?_) hs rfl))
 obtain⟨j,e,q1,q2,q⟩:=q1;subst e;cases r1 with
 |cons r rr=>
  cases rr;obtain⟨t,rfl⟩:=r;exact call_range_1 (Qo I1 (by omega) (by omega) q1 q2 (by simpa using q))
theorem WR{a b:Ao}(hg:Gl X "range")(hm:X.mg "range" = Ae)(ha:PA X [a,b] ta)(hs:Ax [a,b] X.env=[(Ac,eval a X.env),(Ac,eval b X.env)]:=by rfl)(hs2:Ax [b] X.env=[(Ac,eval b X.env)]:=by rfl):
  PI X tg (.Call (.Name "range" p) [a,b] [] pos) (lH ta):=by
 intro pI s σ H R I h;refine JN (Iq I hg hm boot_range (B6 (thn (ha pos pI s σ H _ I h) fun us s1 ⟨vs,H1,I1,r1,q1⟩=>?_) (by rw[hs,hs2]) (by rw[hs2];rfl)))
 obtain⟨i,j,e,⟨q1,q2,q3,q4⟩,q⟩:=q1;subst e;cases r1 with
 |cons r rr=>
  cases rr with
  |cons r' rr=>
   cases rr;obtain⟨t,rfl⟩:=r;obtain⟨t',rfl⟩:=r';exact call_range_2 (Qo I1 q1 q2 q3 q4 q)
def mM(wi:TI)(g:TG)(tb:TS):TS:=fun D σ H=>wi σ H fun J H1=>∃ W:Af->Af->St->Hp->Prop,(∃ m,W 0 m σ H1)/\∀ i m σ H,W i m σ H ->
 (J.stop i H/\D.nx σ H)\/(J.go i H/\∃ N:St->Hp->Prop,(∀ σ' H',N σ' H'->∃ m',m'<m/\W (i+1) m' σ' H')/\∀ x H',J.yld i H x H'->g x σ H' fun σ2 H2=>tb {D with nx:=N,ct:=N,bk:=D.nx} σ2 H2)
noncomputable def JD(fp:Ad Ak)(h:AB):Pn:=fp.filterMap fun b=>(h.get? b).map fun o=>(b,o)
theorem LR(hb:b∈fp)(e:h.get? b=Aa o):(b,o)∈JD fp h:=List.mem_filterMap.mpr ⟨b,hb,by rw[e];rfl⟩
theorem Qa{p:Ak×Cz}(hp:p∈JD fp h):p.1∈fp/\h.get? p.1=Aa p.2:=by
 obtain⟨b,hb,e⟩:=List.mem_filterMap.mp hp;cases q:h.get? b with
 |none=>rw[q]at e;cases e
 |some o=>
  rw[q]at e;have e':(b,o)=p:=Bh e;subst e';exact⟨hb,q⟩
theorem Inv.pinned(I:Inv X pI σ H s)(hf:∀ b∈fp,GM X pI H b)(ho:∀ b∈fp,∃ o,s.heap.get? b=Aa o/\∀ v,o.data≠.cell v):Inv X (pI++JD fp s.heap) σ H s:=
 I.pins_of fun p hp=>(F9.mp hp).elim (fun z=>I.pin p (Bj _ z)) fun z=>by
  obtain⟨hb,e⟩:=Qa z;obtain⟨f0,f1,f2,_⟩:=hf p.1 hb;obtain⟨o,e',d⟩:=ho p.1 hb;rw[e]at e';cases e';exact⟨e,f0,f1,f2,d⟩
theorem Inv.unpinned{pl:Pn}(I:Inv X (pI++pl) σ H s):Inv X pI σ H s:=I.pins_of fun p hp=>I.pin p (Bj _ (Ga _ hp))
theorem cU{iter:Ao}{wi:TI}{g:TG}{tb:TS}(hp:Fd (model X.prog X.w) X.A X.env X.xe)(hc:X.calm=Ab)(hi:PI X tg iter wi)(hg:PG X tg g)(hb:PSs X body tb)(hs:∀ x,CU iter X.env x=pure x:=by intro _;rfl):PS X (.For tg iter body [] pos) (mM wi g tb):=by
 intro pI s σ H D I h;refine wpAny_For (thn (hi pI s σ H _ I h) fun v s1 h1=>thn h1 fun itv s2 h2=>?_) hs
 obtain⟨it,fp,tn,J,H2,e,I2,T,st2,f2,W,⟨m0,w0⟩,turn⟩:=h2;subst e
 -- what stays Ab of the iterator's objects through the loop
 have stat:∀{H':Hp},(∀ b∈fp,H' b=Ae)->∀ b∈fp,GM X pI H' b:=fun hn b hb=>⟨hn b hb,(f2 b hb).2⟩
 refine codeAny_forLoop_any (fun n s'=>∃ i σ' H',Inv X pI σ' H' s'/\tn i s'.heap/\(∀ b∈fp,H' b=Ae)/\W i n σ' H') ?_ m0 ⟨0,σ,H2,I2,st2,fun b hb=>(f2 b hb).1,w0⟩
 rintro n s3 ⟨i,σ3,H3,I3,st3,fr3,w3⟩;rcases turn i n σ3 H3 w3 with ⟨stop,qn⟩|⟨go,N,hN,step⟩
 ·refine E9 hp (thn (T.done X rfl rfl rfl hc i pI s3 σ3 H3 X.xe I3 (stat fr3) st3 stop) fun r s4 ⟨hr,I4⟩=>?_)
  subst hr;exact E8 ⟨σ3,H3,I4,qn⟩
 ·refine E9 hp (thn (T.item X rfl rfl rfl hc i pI s3 σ3 H3 X.xe I3 (stat fr3) st3 go) fun r s4 ⟨u,hr,h4⟩=>?_)
  subst hr;refine E9 hp (thn h4 fun _ s5 ⟨x,H5,I5,r5,y5,st5,fr5⟩=>?_)
  have I5':=I5.pinned (stat fr5) (T.obj _ _ st5);refine E9 hp (thn (hg _ s5 σ3 H5 x u _ I5' r5 (step x H5 y5)) fun _ s6 ⟨σ6,H6,I6,q6⟩=>?_)
  refine E9 hp (thn (hb _ s6 σ6 H6 _ I6 q6) fun f s7 q7=>?_)
  have again:∀{σ7:St}{H7:Hp},Inv X (pI++JD fp s5.heap) σ7 H7 s7->N σ7 H7->∃ m,m<n/\∃ i σ' H',Inv X pI σ' H' s7/\tn i s7.heap/\(∀ b∈fp,H' b=Ae)/\W i m σ' H':=fun {σ7 H7} I7 n7=>by
   obtain⟨m',hm,w7⟩:=hN σ7 H7 n7;refine⟨m',hm,i+1,σ7,H7,I7.unpinned,T.keep _ _ _ st5 fun b hb o e=>(I7.pin (b,o) (Bj _ (Bj _ (LR hb e)))).1,fun b hb=>?_,w7⟩
   obtain⟨o,e,d⟩:=T.obj _ _ st5 b hb;exact(I7.pin (b,o) (Bj _ (Bj _ (LR hb e)))).2.1
  cases f with
  |next=>obtain⟨σ7,H7,I7,n7⟩:=q7;exact again I7 n7
  |cont=>obtain⟨σ7,H7,I7,n7⟩:=q7;exact again I7 n7
  |brk=>obtain⟨σ7,H7,I7,q7⟩:=q7;exact⟨σ7,H7,I7.unpinned,q7⟩
  |ret v=>obtain⟨x7,σ7,H7,I7,r7,q7⟩:=q7;exact⟨x7,σ7,H7,I7.unpinned,r7,q7⟩
end
abbrev R2:=V->V->Hp->VK->Prop
variable{r:R2}
noncomputable def OpR(X:Cx)(f:Ai->Ai->Sem Ai)(r:R2):Prop:=
 ∀(pI:Pn)(s:Aq)(σ:St)(H:Hp)(x y:V)(v u:Ai)(Q:VK),Inv X pI σ H s->Bt x v->Bt y u->r x y H Q ->
  At (model X.prog X.w) X.A (f v u) (EP X pI σ Q) X.xe s
noncomputable def Jb(X:Cx)(f:Ai)(r:Ad V->Hp->VK->Prop):Prop:=
 ∀(pI:Pn)(s:Aq)(σ:St)(H:Hp)(xs:Ad V)(us:Ad Ai)(Q:VK),Inv X pI σ H s->Bb xs us->r xs H Q ->
  At (model X.prog X.w) X.A (call f us) (EP X pI σ Q) X.xe s
noncomputable def mS(X:Cx)(r:V->Hp->(An->Hp->Prop)->Prop):Prop:=
 ∀(pI:Pn)(s:Aq)(σ:St)(H:Hp)(x:V)(v:Ai)(Q:An->Hp->Prop),Inv X pI σ H s->Bt x v->r x H Q ->
  At (model X.prog X.w) X.A (truthy v) (TP X pI σ Q) X.xe s
def tOp(r:R2)(ta tb:TE):TE:=fun σ H Q=>ta σ H fun x H1=>tb σ H1 fun y H2=>r x y H2 Q
def rI(C:Ag->Ag->Prop)(g:Ag->Ag->V):R2:=fun x y H Q=>∃ i j,x=.int i/\y=.int j/\C i j/\Q (g i j) H
def rI0(g:Ag->Ag->V):R2:=fun x y H Q=>∃ i j,x=.int i/\y=.int j/\Q (g i j) H
section
variable{X:Cx}{a b c:Ao}{ta tb tc:TE}{pos:AI}
theorem Pb(ha:PE X a ta)(hb:PE X b tb){R:V->V->Hp->Prop}(I:Inv X pI σ H s)(h:ta σ H fun x H1=>tb σ H1 fun y H2=>R x y H2){Q:Vq}(hf:∀ v u s2 x y H2,Inv X pI σ H2 s2->Bt x v->Bt y u->R x y H2->At (model X.prog X.w) X.A (f v u) Q X.xe s2):At (model X.prog X.w) X.A (eval a X.env) (fun v s₁=>At (model X.prog X.w) X.A (eval b X.env) (fun u s₂=>At (model X.prog X.w) X.A (f v u) Q X.xe s₂) X.xe s₁) X.xe s:=by
 refine thn (ha pI s σ H _ I h) fun v s1 ⟨x,H1,I1,r1,q1⟩=>?_
 refine thn (hb pI s1 σ H1 _ I1 q1) fun u s2 ⟨y,H2,I2,r2,q2⟩=>?_
 exact hf v u s2 x y H2 I2 r1 r2 q2
theorem SQ{op:Hq}(ho:OpR X (B9 op) r)(ha:PE X a ta)(hb:PE X b tb):PE X (.BinOp a op b pos) (tOp r ta tb):=by
 intro pI s σ H Q I h;exact wpAny_BinOp (Pb ha hb I h fun v u s2 x y H2 I2 rx ry q=>ho pI s2 σ H2 x y v u Q I2 rx ry q)
theorem opI{C:Ag->Ag->Prop}(rule:∀(i j:Ag)(t u:CT)(s:Aq)(Q:Vq)(E:Vq),C i j->Q (.int (g i j) s.toks) {s with toks:=s.toks+1}->At (model X.prog X.w) X.A (f (.int i t) (.int j u)) Q E s):OpR X f (rI C fun i j=>.int (g i j)):=by
 intro pI s σ H x y v u Q I rx ry h;obtain⟨i,j,rfl,rfl,hc,q⟩:=h;obtain⟨t,rfl⟩:=rx;obtain⟨t',rfl⟩:=ry;exact rule i j t t' s _ _ hc ⟨.int (g i j),H,I.tok _,⟨_,rfl⟩,q⟩
theorem Ti(rule:∀(i j:Ag)(t u:CT)(s:Aq)(Q:Vq)(E:Vq),Q (.int (g i j) s.toks) {s with toks:=s.toks+1}->At (model X.prog X.w) X.A (f (.int i t) (.int j u)) Q E s):OpR X f (rI0 fun i j=>.int (g i j)):=by
 intro pI s σ H x y v u Q I rx ry h;obtain⟨i,j,rfl,rfl,q⟩:=h;obtain⟨t,rfl⟩:=rx;obtain⟨t',rfl⟩:=ry;exact rule i j t t' s _ _ ⟨.int (g i j),H,I.tok _,⟨_,rfl⟩,q⟩
theorem MG{g:Ag->Ag->An}(rule:∀(i j:Ag)(t u:CT)(s:Aq)(Q:Vq)(E:Vq),Q (.bool (g i j)) s->At (model X.prog X.w) X.A (f (.int i t) (.int j u)) Q E s):OpR X f (rI0 fun i j=>.bl (g i j)):=by
 intro pI s σ H x y v u Q I rx ry h;obtain⟨i,j,rfl,rfl,q⟩:=h;obtain⟨t,rfl⟩:=rx;obtain⟨t',rfl⟩:=ry;exact rule i j t t' s _ _ ⟨.bl (g i j),H,I,rfl,q⟩
def mW(i j:Ag):Prop:=0<j/\j<1073741824
def mV(i j:Ag):Prop:=0<=j/\j<=1000000/\i.natAbs<2 ^ 64
def MP(i j:Ag):Prop:=(-(2 ^ 64)<i/\i<2 ^ 64)\/(-(2 ^ 64)<j/\j<2 ^ 64)
theorem MP.ok{i j:Ag}(h:MP i j):KW i j:=by
 rcases h with ⟨h1,h2⟩|⟨h1,h2⟩
 ·exact .of_left (intBits_le_64 h1 h2)
 ·exact .of_right (intBits_le_64 h1 h2)
theorem bZ:OpR X (B9 .Add) (rI0 fun i j=>.int (i+j)):=Ti fun _ _ _ _ _ _ _ q=>add_int q
theorem bV:OpR X (B9 .Sub) (rI0 fun i j=>.int (i-j)):=Ti fun _ _ _ _ _ _ _ q=>sub_int q
theorem Zf:OpR X (B9 .FloorDiv) (rI mW fun i j=>.int (i / j)):=opI fun i j _ _ _ _ _ hc q=>by
 have h1:(0:Ag)<j:=hc.1;have h2:j<1073741824:=hc.2;exact floordiv_int (by omega) (by rw[Int.fdiv_eq_ediv_of_nonneg i (by omega)];exact q) (.inl (PyProof.noPylong_small (by omega)))
theorem bX:OpR X (B9 .Mod) (rI (fun _ j=>0<j) fun i j=>.int (i%j)):=opI fun i j _ _ _ _ _ hc q=>by
 have h1:(0:Ag)<j:=hc;exact mod_int' (by omega) (by rw[Int.fmod_eq_emod_of_nonneg i (by omega)];exact q)
theorem bW:OpR X (B9 .Pow) (rI mV fun i j=>.int (i ^ j.toNat)):=opI fun _ _ _ _ _ _ _ hc q=>pow_int_small hc.1 hc.2.1 hc.2.2 q
end
section
variable{X:Cx}{a b c:Ao}{ta tb tc:TE}{pos:AI}
theorem Sh{Q:VK}{k k':An}(I:Inv X pI σ H s)(q:Q (.bl k) H)(e:k=k'):EP X pI σ Q (.bool k') s:=by
 subst e;exact⟨.bl k,H,I,rfl,q⟩
theorem jC:OpR X (CB .Lt) (rI0 fun i j=>.bl (decide (i<j))):=MG fun _ _ _ _ _ _ _ q=>lt_int q
theorem jD:OpR X (CB .LtE) (rI0 fun i j=>.bl (decide (i<=j))):=MG fun _ _ _ _ _ _ _ q=>le_int q
theorem jE:OpR X (CB .Gt) (rI0 fun i j=>.bl (decide (j<i))):=MG fun _ _ _ _ _ _ _ q=>gt_int q
theorem jF:OpR X (CB .GtE) (rI0 fun i j=>.bl (decide (j<=i))):=MG fun _ _ _ _ _ _ _ q=>ge_int q
theorem bY:OpR X (CB .Is) (fun x y H Q=>y=.non/\Q (.bl (decide (x=.non))) H):=by
 intro pI s σ H x y v u Q I rx ry h;obtain⟨rfl,q⟩:=h;cases ry;refine is_none_gen (Sh I q ?_);cases x<;>first
  |(cases rx;rfl)
  |(obtain⟨t,rfl⟩:=rx;rfl)
theorem Zd:OpR X (CB .IsNot) (fun x y H Q=>y=.non/\Q (.bl (!decide (x=.non))) H):=by
 intro pI s σ H x y v u Q I rx ry h;obtain⟨rfl,q⟩:=h;cases ry;refine isnot_none_gen (Sh I q ?_);cases x<;>first
  |(cases rx;rfl)
  |(obtain⟨t,rfl⟩:=rx;rfl)
theorem Y6(ho:OpR X (CB op) r)(ha:PE X a ta)(hb:PE X b tb)(hm:GZ op b=Ac):PE X (.Compare a [op] [b] pos) (tOp r ta tb):=by
 intro pI s σ H Q I h;exact wpAny_Compare1 (Pb ha hb I h fun v u s2 x y H2 I2 rx ry q=>ho pI s2 σ H2 x y v u Q I2 rx ry q) hm
def SK(t:TE):TT:=fun σ H Q=>t σ H fun x H'=>∃ k,x=.bl k/\Q k H'
theorem YX(ho:OpR X (CB op) r)(ha:PE X a ta)(hb:PE X b tb)(hm:GZ op b=Ac):PT X (.Compare a [op] [b] pos) (SK (tOp r ta tb)):=by
 intro pI s σ H Q I h;refine wpAny_isTrue_Compare1 (thn (ha pI s σ H _ I h) fun v s1 ⟨x,H1,I1,r1,q1⟩=>thn (hb pI s1 σ H1 _ I1 q1) fun u s2 ⟨y,H2,I2,r2,q2⟩=>
  thn (ho pI s2 σ H2 x y v u _ I2 r1 r2 q2) fun c s3 ⟨z,H3,I3,r3,k,e,q3⟩=>?_) hm
 subst e;cases r3;exact CC ⟨H3,I3,q3⟩
def RP(r r':R2)(ta tb tc:TE):TE:=fun σ H Q=>ta σ H fun x H1=>tb σ H1 fun y H2=>r x y H2 fun z H3=>∃ k,z=.bl k /\
 (if k=Ab then tc σ H3 fun w' H4=>r' y w' H4 Q else Q (.bl Ac) H3)
theorem WV{op':Eh}{r':R2}(ho:OpR X (CB op) r)(ho':OpR X (CB op') r')(ha:PE X a ta)(hb:PE X b tb)(hc:PE X c tc)(hm:IR [op,op'] [b,c]=Ac:=by with_unfolding_all rfl):PE X (.Compare a [op,op'] [b,c] pos) (RP r r' ta tb tc):=by
 intro pI s σ H Q I h;refine Compare_chain (thn (ha pI s σ H _ I h) fun v s1 ⟨x,H1,I1,r1,q1⟩=>chain_link (thn (hb pI s1 σ H1 _ I1 q1) fun u s2 ⟨y,H2,I2,r2,q2⟩=>
  thn (ho pI s2 σ H2 x y v u _ I2 r1 r2 q2) fun d s3 ⟨z,H3,I3,r3,k,e,q3⟩=>?_)) hm
 subst e;cases r3;refine CC ?_;cases k with
 |false=>exact ite_ff ⟨.bl Ac,H3,I3,rfl,q3⟩
 |true=>exact ite_tt (chain_last (thn (hc pI s3 σ H3 _ I3 q3) fun w' s4 ⟨z',H4,I4,r4,q4⟩=>ho' pI s4 σ H4 y z' u w' Q I4 r2 r4 q4))
theorem Xn{op':Eh}{r':R2}(ho:OpR X (CB op) r)(ho':OpR X (CB op') r')(ha:PE X a ta)(hb:PE X b tb)(hc:PE X c tc)(hm:IR [op,op'] [b,c]=Ac:=by with_unfolding_all rfl):PT X (.Compare a [op,op'] [b,c] pos) (SK (RP r r' ta tb tc)):=by
 intro pI s σ H Q I h;refine isTrue_chain (thn (ha pI s σ H _ I h) fun v s1 ⟨x,H1,I1,r1,q1⟩=>test_link (thn (hb pI s1 σ H1 _ I1 q1) fun u s2 ⟨y,H2,I2,r2,q2⟩=>
  thn (ho pI s2 σ H2 x y v u _ I2 r1 r2 q2) fun d s3 ⟨z,H3,I3,r3,k,e,q3⟩=>?_)) hm
 subst e;cases r3;refine CC ?_;cases k with
 |false=>
  obtain⟨k',e',q'⟩:=q3;cases e';exact ite_ff ⟨H3,I3,q'⟩
 |true=>
  refine ite_tt (test_last (thn (hc pI s3 σ H3 _ I3 q3) fun w' s4 ⟨z',H4,I4,r4,q4⟩=>thn (ho' pI s4 σ H4 y z' u w' _ I4 r2 r4 q4) fun d' s5 ⟨z2,H5,I5,r5,k2,e2,q5⟩=>?_))
  subst e2;cases r5;exact CC ⟨H5,I5,q5⟩
noncomputable def TX(K:Fg)(x:V)(H:Hp)(k:An):Prop:=
  match x with
  |.non=>k=Ac
  |.bl b=>k=b
  |.int i=>k=(i != 0)
  |.str y=>y.length<=sizeLine/\k=((y.length:Ag) != 0)
  |.byt y=>y.size<=sizeLine/\k=((y.size:Ag) != 0)
  |.ref p=>(∃ xs,SqL K H p xs/\k=!xs.isEmpty)\/(∃ xs,SqT K H p xs/\k=!xs.isEmpty)\/∃ kvs,H p=Aa (.dK kvs)/\k=!kvs.isEmpty
  |_=>AS
theorem Wx{κ:Type}{kvs:Ad (κ×V)}{vs:Ad (κ×Ai)}(r:KV kvs vs):(!vs.isEmpty)=!kvs.isEmpty:=by
 cases r<;>rfl
theorem PD{its:Ad Ai}(r:Bb xs its):(!its.toArray.isEmpty)=!xs.isEmpty:=by
 cases r<;>simp
theorem Ko:(sizeLine:Af)<2 ^ 63:=by rw[C4];decide
theorem bJ:mS X (fun x H Q=>∃ k,TX X.K x H k/\Q k H):=by
 intro pI s σ H x v Q I rx h;obtain⟨k,e,q⟩:=h;have hl:=Ko;have hs:sizeLine=16777216:=C4;cases x with
 |non=>
  cases rx;have e':k=Ac:=e;subst e';exact truthy_none ⟨H,I,q⟩
 |bl b=>
  cases rx;have e':k=b:=e;subst e';exact CC ⟨H,I,q⟩
 |int i=>
  obtain⟨t,rfl⟩:=rx;have e':k=(i != 0):=e;subst e';exact PySem.P.truthy_int ⟨H,I,q⟩
 |str y=>
  obtain⟨t,rfl⟩:=rx;obtain⟨hy,e'⟩:y.length<=sizeLine/\k=((y.length:Ag) != 0):=e;subst e';exact PySem.P.truthy_str (by omega) ⟨H,I.tok _,q⟩
 |byt y=>
  obtain⟨t,rfl⟩:=rx;obtain⟨hy,e'⟩:y.size<=sizeLine/\k=((y.size:Ag) != 0):=e;subst e';exact PySem.W.truthy_bytes (by omega) ⟨H,I.tok _,q⟩
 |ref p=>
  cases rx;have e':(∃ xs,SqL X.K H p xs/\k=!xs.isEmpty)\/(∃ xs,SqT X.K H p xs/\k=!xs.isEmpty)\/∃ kvs,H p=Aa (.dK kvs)/\k=!kvs.isEmpty:=e;rcases e' with ⟨xs,hx,e'⟩|⟨xs,hx,e'⟩|⟨kvs,hx,e'⟩
  ·subst e';obtain⟨its,r,pl,hz⟩:=I.list hx;have hlen:=r.length;exact wpAny_truthy_list pl.isList (by simp only[AO];omega) ⟨H,I.tok _,by rw[PD r];exact q⟩
  ·subst e';obtain⟨its,r,pl,hz⟩:=I.tuple hx;have hlen:=r.length;exact truthy_tuple pl (by simp only[AO];omega) ⟨H,I.tok _,by rw[PD r];exact q⟩
  ·subst e';obtain⟨hz,hS,vs,r,m⟩:kvs.length<=sizeLine/\(p==JU)=Ac/\∃ vs,KV kvs vs/\s.heap.DictOf (N4 X.prog X.w) p vs:=I.hok p _ hx;have hlen:kvs.length=vs.length:=Vj r;exact wpAny_truthy_dict hS m (by omega) ⟨H,I.tok _,by rw[Wx r];exact q⟩
 |_=>exact(show AS from e).elim
theorem Xm(ha:PE X a ta)(he:∀ whole,Ic a X.env whole=(do let v <-whole;Jm a.pos;holding [v] (truthy v))):PT X a (fun σ H Q=>ta σ H fun x H'=>∃ k,TX X.K x H' k/\Q k H'):=by
 intro pI s σ H Q I h;exact isTrue_plain (thn (ha pI s σ H _ I h) fun v s1 ⟨x,H1,I1,r1,q1⟩=>bJ pI s1 σ H1 x v Q I1 r1 q1) (he _)
theorem Ws:OpR X (B9 .Add) (fun x y H Q=>∃ i j,x=.str i/\y=.str j/\i.length+j.length<=sizeLine/\Q (.str (i++j)) H):=by
 intro pI s σ H x y v u Q I rx ry h;obtain⟨i,j,rfl,rfl,hz,q⟩:=h;obtain⟨t,rfl⟩:=rx;obtain⟨t',rfl⟩:=ry;exact add_str (fun t' tk=>⟨.str (i++j),H,I.tok _,⟨_,rfl⟩,q⟩) hz
theorem Ky{x:V}(r:Bb [x] us):∃ u,us=[u]/\Bt x u:=by
 cases r with
 |cons r1 r2=>cases r2;exact⟨_,rfl,r1⟩
theorem Lo{x y:V}(r:Bb [x,y] us):∃ u w',us=[u,w']/\Bt x u/\Bt y w':=by
 cases r with
 |cons r1 r2=>
  cases r2 with
  |cons r3 r4=>cases r4;exact⟨_,_,rfl,r1,r3⟩
end
section
variable{prog:AK}{w:AY}{A:AV}{E:Vq}{s:Aq}{K:Fg}{x dx C f:Ak}{mA:Aj->Am Ai}{name:Aj}{v:Ai}
end
theorem LB.some_of{o:Am Ai}(r:LB (Aa v) o):∃ u,o=Aa u/\Bt v u:=by
 cases o with
 |none=>exact(show AS from r).elim
 |some u=>exact⟨u,rfl,r⟩
theorem WH(r:Bt v u):PySem.W.handedIn u=Ab:=by
 cases v with
 |non=>cases (show u=CQ from r);rfl
 |bl b=>cases (show u=JR b from r);rfl
 |int i=>obtain⟨t,e⟩:=(show ∃ t,u=KP i t from r);cases e;rfl
 |str x=>obtain⟨t,e⟩:=(show ∃ t,u=KQ x t from r);cases e;rfl
 |byt b=>obtain⟨t,e⟩:=(show ∃ t,u=Vr b t from r);cases e;rfl
 |flt b=>obtain⟨t,e⟩:=(show ∃ t,u=Vs b t from r);cases e;rfl
 |ref a=>cases (show u=Bo a from r);rfl
 |ty n=>cases (show u=Fo n from r);rfl
section
variable{P:AK}{w:AY}{H H':Hp}{h h':AB}{a C dx:Ak}{fs fs':Ad (Aj×V)}
end
section
variable{X:Cx}{pI:Pn}{σ:St}{H:Hp}{s:Aq}{a C dx:Ak}{fs:Ad (Aj×V)}{f:Aj}{v:V}{A:AV}{E:Vq}
theorem bO{prog:AK}{w:AY}{env:Ch}{f:Aj}{Q:Vq}(hb:attributeBase e f env (eval e env)=eval e env)(h:At (model prog w) A (eval e env) (fun o s₁=>At (model prog w) A (getAttr o f Ab) Q E s₁) E s):At (model prog w) A (eval (.Attribute e f pos) env) Q E s:=
 Attribute_any_ h (by rw[arm_eval_Attribute,hb])
end
section
variable{X:Cx}{o e value:Ao}{f:Aj}{pos pos' tpos:AI}{ta tv:TE}
end
section
variable{X:Cx}{pI:Pn}{σ:St}{H:Hp}{s:Aq}{A:AV}{E:Vq}{Q:Vq}{c:Ai}{b:An}
end
structure Room (k:Af) (A:AV):Prop where
 hd:A.handled=Ae
 dp:A.depth+3*k+5<GB
 un:A.units+16*k+200<B8
 gd:A.guards=Aa []
theorem Room.mono{j:Af}{A:AV}(r:Room k A)(h:j<=k):Room j A:=⟨r.hd,by have:=r.dp;omega,by have:=r.un;omega,r.gd⟩
theorem Room.deeper{A:AV}(r:Room (k+1) A)(env:Ch):Room k (A.deeper env):=
 ⟨r.hd,by have:=r.dp;show A.depth+1+3*k+5<_;omega,by have:=r.un;show A.units+3+16*k+200<_;omega,r.gd⟩
theorem Wv{A:AV}{C:Ak}:(A.under (.builtin "type.__call__" ⟨.ref C::us,kw⟩)).depth=A.depth+1:=by
 first|rfl|simp[IH,Code.weight,Code.isCreation,Code.isGuard,Code.isCaller,UY,II,guardIds]
theorem Wu{A:AV}{C:Ak}:(A.under (.builtin "type.__call__" ⟨.ref C::us,kw⟩)).units=A.units+1:=by
 first|rfl|simp[IH,Code.cUnits,UY,II]
theorem Room.depth{A:AV}(r:Room k A):A.depth<GB:=by have:=r.dp;omega
theorem Room.units{A:AV}(r:Room k A):A.units+64<B8:=by have:=r.un;omega
def mJ:TA:=fun _ H Q=>Q [] H
def iO(ta:TE)(tr:TA):TA:=fun σ H Q=>ta σ H fun x H1=>tr σ H1 fun xs H2=>Q (x::xs) H2
section
variable{X:Cx}{e:Ao}{es:Ad Ao}{te:TE}{t:TA}{pos:AI}
theorem GD:PA X [] mJ:=fun _ _ _ _ H Q I h=>UX ⟨[],H,I,.nil,h⟩
theorem Eb(ha:PE X e te)(hr:PA X es t)(hs:Ax (e::es) X.env=(Ac,eval e X.env)::Ax es X.env:=by rfl):PA X (e::es) (iO te t):=by
 intro pos pI s σ H Q I h;rw[hs];show At _ _ (spliced ((Ac,eval e X.env)::Ce pos (Ax es X.env))) _ _ s;refine UW (thn (ha pI s σ H _ I h) fun u s1 ⟨x,H1,I1,r1,q1⟩=>?_)
 exact thn (hr pos pI s1 σ H1 _ I1 q1) fun us s2 ⟨xs,H2,I2,r2,q2⟩=>⟨x::xs,H2,I2,.cons r1 r2,q2⟩
def mE(t:TA):TE:=fun σ H Q=>t σ H fun xs H1=>xs.length<=sizeLine/\∀ p,H1 p=Ae->Q (.ref p) (upd H1 p (.tup xs))
def mK(t:TA):TE:=fun σ H Q=>t σ H fun xs H1=>xs.length<=sizeLine/\∀ p,H1 p=Ae->Q (.ref p) (upd H1 p (.lst xs))
theorem RH{x1}(h:PA X es t):PE X (.Tuple es x1 pos) (mE t):=by
 intro pI s σ H Q I hq;refine wpAny_Tuple_spliced (thn (h pos pI s σ H _ I hq) fun us s1 ⟨xs,H1,I1,r,z,q⟩=>⟨by rw[<-r.length];exact z,?_⟩)
 have hf:H1 s1.heap.objs.size=Ae:=I1.hok.fresh (AU _);refine⟨.ref s1.heap.objs.size,upd H1 s1.heap.objs.size (.tup xs),I1.laid (t':=s1.toks) (fun b u e=>Ap _ e) (AU _) ?_,rfl,q _ hf⟩
 exact⟨z,us,r,⟨_,AD _ rfl,rfl,_,rfl⟩⟩
theorem dD(h:PA X es t):PE X (.List es pos) (mK t):=by
 intro pI s σ H Q I hq;refine wpAny_List_spliced (thn (h pos pI s σ H _ I hq) fun us s1 ⟨xs,H1,I1,r,z,q⟩=>⟨by rw[<-r.length];exact z,?_⟩)
 have hf:H1 s1.heap.objs.size=Ae:=I1.hok.fresh (AU _);refine⟨.ref s1.heap.objs.size,upd H1 s1.heap.objs.size (.lst xs),I1.laid (t':=s1.toks) (fun b u e=>Ap _ e) (AU _) ?_,rfl,q _ hf⟩
 exact⟨z,us,0,r,AD _ rfl⟩
end
abbrev Sp:=Ad V->Hp->VK->XK->Prop
variable{sp:Sp}
abbrev CXT:=Ad Ch->Hp->Aq->XK->Ai->Aq->Prop
variable{CX:CXT}
structure Env0 (P:AK) (w:AY) (K:Fg) (mg:Aj->Am Ai) (base:AB) (A:AV) (outer:Ad Ch) (s:Aq) (H:Hp):Prop where
 frames:A.frames=Aa outer
 mod:Mod K mg base
 bs:∀ b o,base.get? b=Aa o->s.heap.get? b=Aa o/\H b=Ae
 bsz:base.objs.size<=s.heap.objs.size
 funs:s.heap.FunFrames base outer
 frf:∀ b∈frs outer,H b=Ae
 hok:HOk P w H s.heap
 bare:Fn s.gens
noncomputable def CE(outer:Ad Ch)(P:AK)(w:AY)(H:Hp)(s:Aq)(Q:VK)(u:Ai)(s':Aq):Prop:=
 ∃ v H',s'.os=s.os/\Fn s'.gens/\Un (frs outer) [] H H' s.heap s'.heap/\HOk P w H' s'.heap/\Bt v u/\Q v H'
noncomputable def CR(CX:CXT)(outer:Ad Ch)(P:AK)(w:AY)(H:Hp)(s:Aq)(Q:VK)(E:XK)(r:IJ)(s':Aq):Prop:=
  match r with
  |.ok (.ret u)=>CE outer P w H s Q u s'
  |.ok _=>AS
  |.error e=>CX outer H s E e s'
structure FnOk (P:AK) (w:AY) (K:Fg) (mg:Aj->Am Ai) (base:AB) (CX:CXT) (k:Af) (f:Ak) (fd:BS) (ps:Ad Aj) (sp:Sp):Prop where
 len:∀ vs H Q E,sp vs H Q E->vs.length=ps.length
 run:∀(A:AV)(outer:Ad Ch)(s:Aq)(H:Hp)(args:Args)(us:Ad Ai)(vs:Ad V)(Q:VK)(E:XK),Room k A->Env0 P w K mg base A outer s H->F6 s fd args (ps.zip us)->Bb vs us->sp vs H Q E ->
  Ez (model P w) A (.call (.ref f) args) (CR CX outer P w H s Q E) s
theorem FnOk.imp{w:AY}{K:Fg}{mg:Aj->Am Ai}{base:AB}{f:Ak}{sp':Sp}(F:FnOk P w K mg base CX k f fd ps sp)(h:∀ vs H Q E,sp' vs H Q E->sp vs H Q E):FnOk P w K mg base CX k f fd ps sp':=
 ⟨fun vs H Q E q=>F.len vs H Q E (h _ _ _ _ q),fun A outer s H args us vs Q E hr he hb hv hs=>F.run A outer s H args us vs Q E hr he hb hv (h _ _ _ _ hs)⟩
theorem Env0.make{w:AY}{K:Fg}{mg:Aj->Am Ai}{base:AB}{A:AV}{outer:Ad Ch}(e:Env0 P w K mg base A outer s H)(C:Ak)(us:Ad Ai)(kw:Ad (Aj×Ai)):
    Env0 P w K mg base (A.under (.builtin "type.__call__" ⟨.ref C::us,kw⟩)) outer s H:=⟨by first|exact e.frames|(simpa [IH,Code.envs,II,pushEnvs] using e.frames),e.mod,e.bs,e.bsz,e.funs,e.frf,e.hok,e.bare⟩
section
variable{X:Cx}{pI:Pn}{σ:St}{H:Hp}{s s':Aq}
theorem Inv.env0(I:Inv X pI σ H s):Env0 X.prog X.w X.K X.mg X.base X.A X.stack s H:=
 ⟨I.ok.frames,I.ok.mod,I.bs,BR I.ok.bsz I.sz,I.stack,I.stkFree,I.hok,I.bare⟩
theorem Inv.after{Q:VK}(I:Inv X pI σ H s)(h:CE X.stack X.prog X.w H s Q u s'):EP X pI σ Q u s':=by
 obtain⟨v,H',os,bare,un,hok,r,q⟩:=h;obtain⟨hh,g,d,t,os'⟩:=s';obtain rfl:os'=s.os:=os;exact⟨v,H',I.call (h':=hh) (g':=g) (d':=d) (t':=t) (ch:=[]) un hok bare (fun b z=>absurd z (by simp)),r,q⟩
end
def iP(sp:Sp)(dvs:Ad V)(E:XK)(t:TA):TE:=fun σ H Q=>t σ H fun vs H1=>sp (vs++dvs) H1 Q E
noncomputable def FC(K:Fg)(fd:BS)(ps:Ad Aj)(ds:Ad Ai):Prop:=
 ∀(s:Aq)(us:Ad Ai),K.In s.heap->(us++ds).length=ps.length->F6 s fd ⟨us,[]⟩ (ps.zip (us++ds))
theorem FC.all{K:Fg}(h:∀ us:Ad Ai,us.length=ps.length->Jo fd ⟨us,[]⟩=pure (ps.zip us)):FC K fd ps []:=fun s us _ hl=>by
 rw[Cq]at hl ⊢;exact .of_eq (h us hl)
def Ku(CX:CXT)(X:Cx)(E:XK):Prop:=∀(pI:Pn)(σ:St)(H:Hp)(s:Aq)(e:Ai)(s':Aq),Inv X pI σ H s->CX X.stack H s E e s'->X.xe e s'
section
variable{X:Cx}{CX:CXT}{k:Af}{f C:Ak}{fd:BS}{ps:Ad Aj}{sp:Sp}{dvs:Ad V}{ds:Ad Ai}{E:XK}{x m:Aj}{p pos apos:AI}{e o:Ao}{es:Ad Ao}{ta:TE}{t:TA}
theorem eC{Q:VK}(F:FnOk X.prog X.w X.K X.mg X.base CX k f fd ps sp)(hr:Room k X.A)(hb:FC X.K fd ps ds)(hd:Bb dvs ds)(hx:Ku CX X E)(I:Inv X pI σ H s)(r:Bb vs us)(h:sp (vs++dvs) H Q E):At (model X.prog X.w) X.A (call (.ref f) us) (EP X pI σ Q) X.xe s:=by
 have r2:Bb (vs++dvs) (us++ds):=r.append hd;have hl:(us++ds).length=ps.length:=by rw[<-r2.length];exact F.len _ _ _ _ h
 refine Gk (Fe (F.run X.A X.stack s H ⟨us,[]⟩ (us++ds) (vs++dvs) Q E hr I.env0 (hb s us I.kIn hl) r2 h) fun r s' hq=>?_)
 cases r with
 |error e=>exact hx pI σ H s e s' I hq
 |ok fl=>
  cases fl with
  |ret u=>exact I.after hq
  |next=>exact A9 hq
  |brk=>exact A9 hq
  |cont=>exact A9 hq
theorem Ru(F:FnOk X.prog X.w X.K X.mg X.base CX k f fd ps sp)(hr:Room k X.A)(hg:Gl X x)(hm:X.mg x=Aa (.ref f))(hk:Ca X.K (.ref f)=Ab)(hb:FC X.K fd ps ds)(hd:Bb dvs ds)(hx:Ku CX X E)(ha:PA X (e::es) t)(hdb:(x==("__debug__" : Aj))=Ac:=by decide)(he:Ax (e::es) X.env=(Ac,eval e X.env)::Ax es X.env:=by rfl)(hpl:(Ce pos (Ax es X.env)).any (·.1)=Ac:=by rfl):PE X (.Call (.Name x p) (e::es) [] pos) (iP sp dvs E t):=by
 intro pI s σ H Q I h;refine Ej (IW I hg hm ?_ hdb);refine GU (h₀:=X.base) I.ok.mod.kin hk (thn (ha pos pI s σ H _ I h) fun us s1 ⟨vs,H1,I1,r,q⟩=>⟨I1.kIn,?_⟩) he hpl
 exact eC F hr hb hd hx I1 r q
end
section
variable{X:Cx}{CX:CXT}{k:Af}{f C:Ak}{fd:BS}{ps ks:Ad Aj}{sp:Sp}{E:XK}{x m:Aj}{p pos apos kpos:AI}{e o:Ao}{es:Ad Ao}{kws:Ad JW}{te ta:TE}{t tk:TA}{nm:Am Aj}
variable{g:Ad Ai->Ad Ai->Ad Ai}{gV:Ad V->Ad V->Ad V}
end
structure FnScope (N P:Ad Aj) (sc:Cm):Prop where
 kind:sc.kind=.function
 co:sc.isCoroutine=Ac
 gen:sc.isGenerator=Ac
 nd:N.Nodup
 pre:N.take P.length=P
 par:∀ x∈P,sc.names.lookup x=Aa .local\/sc.names.lookup x=Aa .cell
 nofree:∀ y∈sc.names,y.2≠.free
theorem PN{kindOf:Aj->Am D0}{x:Aj}:∀{binds:Ad (Aj×Ai)}{m:Aj->Am Ai},(∀ v,(x,v)∉binds)->Ik kindOf binds m x=m x
 |[],_,_=>rfl
 |(n,v)::r,m,h=>by
  unfold Ik;rw[PN fun w hw=>h w (AG _ hw)]
  split
  ·have:x≠n:=by rintro rfl;exact h v AL
   simp[this]
  ·rfl
theorem PR{kindOf:Aj->Am D0}{x:Aj}:∀{binds:Ad (Aj×Ai)}{m:Aj->Am Ai},(∀ v,(x,v)∉binds)->Ij kindOf binds m x=m x
 |[],_,_=>rfl
 |(n,v)::r,m,h=>by
  unfold Ij;rw[PR fun w hw=>h w (AG _ hw)]
  split
  ·rfl
  ·have:x≠n:=by rintro rfl;exact h v AL
   simp[this]
theorem PQ{kindOf:Aj->Am D0}{x:Aj}{v:Ai}:∀{P:Ad Aj}{vs:Ad Ai}{i:Af}{m:Aj->Am Ai},P.Nodup->P[i]?=Aa x->vs[i]?=Aa v->kindOf x=Aa .local->Ik kindOf (P.zip vs) m x=Aa v
 |[],_,_,_,_,h,_,_=>by simp at h
 |_::_,[],_,_,_,_,h,_=>by simp at h
 |p::P,w::vs,0,m,nd,h1,h2,hk=>by
  simp at h1 h2;subst h1;subst h2;show Ik kindOf ((p,w)::P.zip vs) m p=_;unfold Ik;rw[PN fun v hv=>(Eg.mp nd).1 (Gc hv).1,AF hk]
  simp
 |p::P,w::vs,i+1,m,nd,h1,h2,hk=>by
  show Ik kindOf ((p,w)::P.zip vs) m x=_;unfold Ik;exact PQ (i:=i) (Eg.mp nd).2 (by simpa using h1) (by simpa using h2) hk
theorem PU{kindOf:Aj->Am D0}{x:Aj}{v:Ai}:∀{P:Ad Aj}{vs:Ad Ai}{i:Af}{m:Aj->Am Ai},P.Nodup->P[i]?=Aa x->vs[i]?=Aa v->kindOf x≠Aa .local->Ij kindOf (P.zip vs) m x=Aa v
 |[],_,_,_,_,h,_,_=>by simp at h
 |_::_,[],_,_,_,_,h,_=>by simp at h
 |p::P,w::vs,0,m,nd,h1,h2,hk=>by
  simp at h1 h2;subst h1;subst h2;show Ij kindOf ((p,w)::P.zip vs) m p=_;unfold Ij;rw[PR fun v hv=>(Eg.mp nd).1 (Gc hv).1,AM hk]
  simp
 |p::P,w::vs,i+1,m,nd,h1,h2,hk=>by
  show Ij kindOf ((p,w)::P.zip vs) m x=_;unfold Ij;exact PU (i:=i) (Eg.mp nd).2 (by simpa using h1) (by simpa using h2) hk
noncomputable def start(N:Ad Aj)(vs:Ad V):St:=vs.map Aa++GA (N.length-vs.length) Ae
noncomputable def EB(CX:CXT)(P:AK)(w:AY)(K:Fg)(mg:Aj->Am Ai)(base:AB)(N:Ad Aj)(qual:Aj)(scope:Cm)(f:Ak)(cd:Ai)(A:AV)(outer:Ad Ch)(s:Aq)(H:Hp)(E:XK):Cx where
 prog:=P
 w:=w
 K:=K
 mg:=mg
 base:=base
 A:=A.deeper (Eu qual scope s.heap.objs.size f cd)
 N:=N
 s₀:=s
 H₀:=H
 env:=Eu qual scope s.heap.objs.size f cd
 outer:=outer
 stack:=Eu qual scope s.heap.objs.size f cd::outer
 ex:=[]
 calm:=Ab
 fn:=fun _=>Ab
 pn:=[]
 xe:=fun e s'=>At (model P w) (A.deeper (Eu qual scope s.heap.objs.size f cd)) (leaving (Eu qual scope s.heap.objs.size f cd) e) (fun _ s''=>CX outer H s E e s'') (fun e' s''=>CX outer H s E e' s'') s'
theorem QF{sc:Cm}(h:sc.names.lookup x=Aa .cell):∃ c,(CO n sc.names []).lookup x=Aa c:=by
 have q:=FM sc.names n [] (.inl h);exact DX.mp q
theorem Nu{w:AY}{K:Fg}{mg:Aj->Am Ai}{base:AB}{N ps:Ad Aj}{f:Ak}{cd:Ai}{A:AV}{outer:Ad Ch}{s1:Aq}{E:XK}(S:FnScope N ps scope)(hd:A.handled=Ae)(e0:Env0 P w K mg base A outer s H)(hl:vs.length=ps.length)(r:Bb vs us)(x:InCallC s s.heap.objs.size (Ik (Eu qual scope s.heap.objs.size f cd).kindOf (ps.zip us) fun _=>Ae) (CO (s.heap.objs.size+1) scope.names []) (Ij (Eu qual scope s.heap.objs.size f cd).kindOf (ps.zip us) fun _=>Ae) s1):Inv (EB CX P w K mg base N qual scope f cd A outer s H E) [] (start N vs) H s1:=by
 have hpl:ps.length<=N.length:=by have:=congrArg List.length S.pre;rw[Hk]at this;omega
 obtain⟨h1,tk,rfl,hk⟩:=x.done;have noA:∀ b:Ak,b∉(EB CX P w K mg base N qual scope f cd A outer s H E).ex:=fun b z=>absurd (show b∈([]:Ad Ak) from z) (by simp)
 refine⟨⟨e0.mod,S.kind,rfl,rfl,AU _,fun y z c h1 h2=>?_,fun y hy=>?_,fun y c _ h=>?_,fun _=>hd,Around.frames_deeper e0.frames,.inr ⟨rfl,rfl⟩,fun b z=>absurd z (noA b),e0.bs,e0.bsz,fun b _ _=>noA b,fun b z=>absurd z (noA b),e0.funs,e0.frf⟩,
  rfl,e0.bare,Un.kept hk,⟨_,x.toInCall.ns,fun i y v h1 h2 h3=>?_⟩,fun y c h=>⟨_,x.cell y c h⟩,e0.hok.fresh (AU _),fun y c h=>?_,fun p hp=>absurd (show p∈([]:Pn) from hp) (by simp),e0.hok.kept hk,?_⟩
 ·exact name_of_addr x.apart (CD h1) (CD h2)
 ·have hy:scope.names.lookup y=Aa .cell\/scope.names.lookup y=Aa .free:=hy;rcases hy with hy|hy
  ·exact QF hy
  ·exact absurd rfl (S.nofree _ (CD hy))
 ·exact Et (x.above y c (CD h))
 ·have hi:i<vs.length:=by
   unfold start at h2;by_cases hi:i<vs.length
   ·exact hi
   ·rw[Up (by simpa using hi)]at h2
    rw[Ur]at h2;split at h2<;>cases h2
  have ha:vs[i]?=Aa v:=by
   unfold start at h2;rw[E3 (by simpa using hi),En]at h2
   cases e:vs[i]? with
   |none=>rw[e]at h2;cases h2
   |some a=>rw[e]at h2;cases h2;rfl
  obtain⟨u,hu,rv⟩:=r.get ha;have hp:ps[i]?=Aa y:=by
   rw[<-S.pre,List.getElem?_take_of_lt (by omega)];exact h1
  have ndP:ps.Nodup:=by rw[<-S.pre];exact S.nd.sublist (List.take_sublist _ _)
  refine⟨u,rv,?_⟩;rcases S.par y (De hp) with k|k
  ·exact .inl ⟨k,PQ ndP hp hu k⟩
  ·obtain⟨c,e⟩:=QF (n:=s.heap.objs.size+1) k;refine .inr ⟨.inl k,c,e,?_⟩;have q:=x.cell y c e;rw[PU ndP hp hu (by show scope.names.lookup y≠_;rw[k];decide)]at q
   exact q
 ·exact e0.hok.fresh (Et (x.above y c (CD h)))
 ·unfold start;show _=N.length;rw[BW,Br,Uu];omega
theorem S5{w:AY}{K:Fg}{mg:Aj->Am Ai}{base:AB}{f:Ak}{name:Aj}{params:KN}{dV kV doc pm cdv ct oc:Ai}{an od:Am Ak}{osl:AX (Am Ai)}{N ps:Ad Aj}(lk:K.lookup f=Aa ⟨oc,od,.func (CN name qual params body scope dV kV doc pm an cdv ct),osl⟩)(hcd:Ey K cdv qual=Ab)(S:FnScope N ps scope)(len:∀ vs H Q E,sp vs H Q E->vs.length=ps.length)(hbody:∀(A:AV)(outer:Ad Ch)(s:Aq)(H:Hp)(vs:Ad V)(Q:VK)(E:XK),Room k (A.deeper (Eu qual scope s.heap.objs.size f cdv))->sp vs H Q E ->
   ∃ t,PSs (EB CX P w K mg base N qual scope f cdv A outer s H E) body t/\t {nx:=fun _ H'=>Q .non H',rt:=Q} (start N vs) H):FnOk P w K mg base CX (k+1) f (CN name qual params body scope dV kV doc pm an cdv ct) ps sp:=by
 refine⟨len,fun A outer s H args us vs Q E hr e0 hb r hsp=>?_⟩
 have hl:=len _ _ _ _ hsp;have KX:K.In s.heap:=e0.mod.kin.keeps fun b o e=>(e0.bs b o e).1
 have lim:s.heap.NoLimit:=e0.mod.nolimit.keeps fun b o e=>(e0.bs b o e).1
 have hkind:∀ y∈ps.zip us,scope.names.lookup y.1=Aa .local\/(scope.names.lookup y.1=Aa .cell/\((CO (s.heap.objs.size+1) scope.names []).lookup y.1).isSome=Ab):=fun ⟨n,v⟩ hy=>by
  rcases S.par n (Gc hy).1 with q|q
  ·exact .inl q
  ·exact .inr ⟨q,FM _ _ _ (.inl q)⟩
 refine F7 hr.depth (KX _ _ lk) rfl S.co S.gen rfl (GV KX hcd) (hb _ _ _ _ ?_);refine ES S.kind hkind fun env he s1 x=>?_
 subst he;refine⟨lim.keeps x.toInCall.keep,IP ?_⟩;obtain⟨t,ht,hq⟩:=hbody A outer s H vs Q E (hr.deeper _) hsp;have I:Inv (EB CX P w K mg base N qual scope f cdv A outer s H E) [] (start N vs) H s1:=Nu S hr.hd e0 hl r x;refine Ba (ht [] s1 (start N vs) H _ I hq) (fun fl s' hs=>?_) fun e s' hs=>hs
 have fin:∀{σ':St}{H':Hp}{v:V}{u:Ai},Inv (EB CX P w K mg base N qual scope f cdv A outer s H E) [] σ' H' s'->Bt v u->Q v H'->CE outer P w H s Q u s':=
  fun {σ' H' v u} J rv q=>⟨v,H',J.os,J.bare,J.base,J.hok,rv,q⟩
 cases fl with
 |ret u=>
  obtain⟨v,σ',H',J,rv,q⟩:=hs;exact fin J rv q
 |next=>
  obtain⟨σ',H',J,q⟩:=hs;exact fin (v:=V.non) (u:=CQ) J rfl q
 |brk=>
  obtain⟨_,_,_,q⟩:=hs;exact A9 q
 |cont=>
  obtain⟨_,_,_,q⟩:=hs;exact A9 q
section
variable{X:Cx}{x:Aj}{p pos:AI}{e:Ao}{es:Ad Ao}{t:TA}{id T:Dh}{r:Ad V->Hp->VK->Prop}
def tCB(r:Ad V->Hp->VK->Prop)(t:TA):TE:=fun σ H Q=>t σ H fun vs H1=>r vs H1 Q
theorem K4(hc:Jb X (.builtin id) r)(hg:Gl X x)(hm:X.mg x=Ae)(hv:C3 x=Aa (.builtin id))(ha:PA X (e::es) t)(hn:x≠"__name__" := by decide)(hdb:(x==("__debug__" : Aj))=Ac:=by decide)(he:Ax (e::es) X.env=(Ac,eval e X.env)::Ax es X.env:=by rfl)(hpl:(Ce pos (Ax es X.env)).any (·.1)=Ac:=by rfl):PE X (.Call (.Name x p) (e::es) [] pos) (tCB r t):=by
 intro pI s σ H Q I h;refine Ej (Iq I hg hm hv ?_ hn hdb);exact PyProof.Rows.callWith_builtin1 (thn (ha pos pI s σ H _ I h) fun us s1 ⟨vs,H1,I1,r1,q1⟩=>hc pI s1 σ H1 vs us Q I1 r1 q1) he hpl
theorem P9(hc:Jb X (.type T) r)(hg:Gl X x)(hm:X.mg x=Ae)(hv:C3 x=Aa (.type T))(ha:PA X (e::es) t)(hn:x≠"__name__" := by decide)(hdb:(x==("__debug__" : Aj))=Ac:=by decide)(he:Ax (e::es) X.env=(Ac,eval e X.env)::Ax es X.env:=by rfl)(hpl:(Ce pos (Ax es X.env)).any (·.1)=Ac:=by rfl):PE X (.Call (.Name x p) (e::es) [] pos) (tCB r t):=by
 intro pI s σ H Q I h;refine Ej (Iq I hg hm hv ?_ hn hdb);exact B6 (thn (ha pos pI s σ H _ I h) fun us s1 ⟨vs,H1,I1,r1,q1⟩=>hc pI s1 σ H1 vs us Q I1 r1 q1) he hpl
end
end L2
namespace HT
open PySem PyProof.Rows
variable{sl:Ak}
section
open PySem.SeqAt
open PySem.AutoSeq1 (wpAny_loadPart')
open PySem.MeetsSeq PySem.MeetsSeq2 PySem.MeetsSeq3
end
section
variable{prog:AK}{w:AY}{A:AV}{E:Vq}{s:Aq}
theorem cat_tup{t b:Ak}{vs ws:Ad Ai}{Q:Vq}(ht:Jk s.heap t vs.toArray)(hb:Jk s.heap b ws.toArray)(hv:vs≠[])(h1:ws=[]->Q (.ref t) s)(h2:ws≠[]->Q (.ref s.heap.objs.size) { s with heap:=s.heap.push { cls:=.type "tuple", data:=.seq (vs++ws).toArray } })(hsz:vs.length+ws.length<=sizeLine):At (model prog w) A (B9 .Add (.ref t) (.ref b)) Q E s:=by
 obtain⟨⟨cls,dd,data,sl⟩,ho,hc,n,hd⟩:=id ht;obtain⟨⟨cls2,dd2,data2,sl2⟩,ho2,hc2,n2,hd2⟩:=id hb;simp only at hc hd hc2 hd2;subst hc hd hc2 hd2;have e:vs.toArray++ws.toArray=(vs++ws).toArray:=by simp
 by_cases hw:ws=[]
 ·exact IQ ⟨_,ho,rfl⟩ ⟨_,ho2,rfl⟩ VG seq_tuple_add Vb U6 (U1 _ _)
   (tuple_addW1 t b vs.toArray ws.toArray n n2 dd dd2 sl sl2 (by simpa using hv) (by simp[hw])) ⟨ho,ho2,h1 hw⟩
 ·refine IQ ⟨_,ho,rfl⟩ ⟨_,ho2,rfl⟩ VG seq_tuple_add Vb U6 (U1 _ _)
   (tuple_addW2 t b vs.toArray ws.toArray n n2 dd dd2 sl sl2 (by simpa using hv) (by simpa using hw) (by rw[AO,AO];exact hsz)) ⟨ho,ho2,?_⟩
  rw[e];exact h2 hw
noncomputable def sIx(n d:Af):Am Ag->Af
 |none=>d
 |some v=>if v<0 then (v+(n:Ag)).toNat else min v.toNat n
theorem dZ(n d:Af)(hd:d<=n)(o:Am Ag):sIx n d o<=n:=by
 cases o with
 |none=>exact hd
 |some v=>
  show (if v<0 then (v+(n:Ag)).toNat else min v.toNat n)<=n
  by_cases hv:v<0
  ·rw[AF hv];omega
  ·rw[AM hv];exact Nat.min_le_right _ _
theorem Q6(v:Ag)(n d:Af):(if v<0 then max (v+(n:Ag)) 0 else min v (n:Ag))=((sIx n d (Aa v):Af):Ag):=by
 show (if v<0 then max (v+(n:Ag)) 0 else min v (n:Ag))=(((if v<0 then (v+(n:Ag)).toNat else min v.toNat n):Af):Ag)
 by_cases hv:v<0
 ·simp only[AF hv];omega
 ·simp only[AM hv];omega
theorem Wz(lo hi:Am Ag)(n:Af):E5 lo hi 1 (n:Ag)=(((sIx n 0 lo:Af):Ag),((sIx n n hi:Af):Ag)):=by
 have h1:¬ ((1:Ag)<0):=by omega
 unfold E5;simp only[h1,HH];refine KS ?_ ?_
 ·cases lo with
  |none=>rfl
  |some v=>exact Q6 v n 0
 ·cases hi with
  |none=>rfl
  |some v=>exact Q6 v n n
theorem Wr(i j:Af):DP (i:Ag) (j:Ag) 1=j-i:=by
 unfold DP;have h1:(1:Ag) > 0:=by omega
 simp only[h1,EC,Int.ediv_one];split<;>omega
theorem PB{v:Ai}{o:Am Ag}{Q:Am Ag->Aq->Prop}(p:Ho v o)(h:Q o s):At (model prog w) A (Builtin.Slice.slicePartIndex v) Q E s:=by
 cases p with
 |none=>exact UN h
 |int i t=>exact slicePart_int h
theorem VY{vl vu:Ai}{lo hi:Am Ag}{n:Af}{Q:Ag×Ag×Af->Aq->Prop}(hs:s.heap.IsSliceOf sl vl vu .none)(pl:Ho vl lo)(pu:Ho vu hi)(h:Q (((sIx n 0 lo:Af):Ag),1,sIx n n hi-sIx n 0 lo) s):At (model prog w) A (UU (.ref sl) (pure (n:Ag))) Q E s:=by
 obtain⟨os,hos,hcs,hds⟩:=id hs;unfold UU Builtin.Slice.sliceFields;refine Ah (Ah (A2 hos hds (x:=vl) rfl (Ah (A2 hos hds (x:=vu) rfl (Ah (A2 hos hds (x:=.none) rfl (As ?_)))))));refine Ah (UN ?_);show At _ _ (if ((1:Ag)==0)=Ab then _ else _) _ _ s
 rw[AM (by decide)]
 refine Ah (PB pl (Ah (PB pu (Ah (As ?_)))));show At _ _ (match E5 lo hi 1 (n:Ag) with|(lo,hi)=>pure (lo,(1:Ag),DP lo hi 1)) _ _ s
 rw[Wz lo hi n];show At _ _ (pure (((sIx n 0 lo:Af):Ag),(1:Ag),DP ((sIx n 0 lo:Af):Ag) ((sIx n n hi:Af):Ag) 1)) _ _ s;rw[Wr];exact As h
theorem Xo(xs:AX Ai)(i k:Af):((A5 k).filterMap fun(m:Af)=>xs[((i:Ag)+(m:Ag)*1).toNat]?).toArray=((xs.toList.drop i).take k).toArray:=by
 have e:(fun(m:Af)=>xs[((i:Ag)+(m:Ag)*1).toNat]?)=fun m=>xs[i+m]?:=by
  funext m
  have:((i:Ag)+(m:Ag)*1).toNat=i+m:=by omega
  rw[this]
 rw[e];have:=pick_run xs i k;rw[List.filterMap_map]at this;have e2:((fun x=>xs[x]?) ∘ fun x=>i+x)=fun m=>xs[i+m]?:=rfl
 rw[e2]at this;rw[this]
theorem getItem_tuple_cut{t:Ak}{items:AX Ai}{vl vu:Ai}{lo hi:Am Ag}{Q:Vq}(ht:Jk s.heap t items)(hs:s.heap.IsSliceOf sl vl vu .none)(pl:Ho vl lo)(pu:Ho vu hi)(hw:¬ (sIx items.size 0 lo=0/\sIx items.size items.size hi=items.size))(h:Q (.ref s.heap.objs.size) { s with heap:=s.heap.push { cls:=.type "tuple", data:=.seq ((items.toList.drop (sIx items.size 0 lo)).take (sIx items.size items.size hi-sIx items.size 0 lo)).toArray } })(hsz:items.size<=sizeLine):At (model prog w) A (Jl (.ref t) (.ref sl)) Q E s:=by
 have htake:sizeOk (.seq ((items.toList.drop (sIx items.size 0 lo)).take (sIx items.size items.size hi-sIx items.size 0 lo)).toArray):=by
  show ((items.toList.drop (sIx items.size 0 lo)).take (sIx items.size items.size hi-sIx items.size 0 lo)).toArray.size<=sizeLine;rw[AO,Hk,Ut,D8];omega
 have hj:sIx items.size items.size hi<=items.size:=dZ _ _ (AU _) hi;obtain⟨os,hos,hcs,hds⟩:=id hs;have hTs:s.TypeIs (.ref sl) "slice" := ⟨os,hos,hcs⟩;unfold Jl
 try with_reducible refine Bv ?_
 first|refine Ah (As ?_)|skip
 refine Ah (wpAny_sequenceKey ht.typeIs (by decide) ?_)
 refine Ah (BQ (name:=Bx "__getitem__") ht.typeIs UO
  (Cv UO ht.typeIs entry_tuple_getitem ?_ (args_tuple_getitem _ _)))
 show At _ _ (Builtin.Tuple.tupleItemsOf (.ref t) >>= _) _ _ s;refine Ah (tupleItemsOf_ ht ?_);refine Ah (wpAny_typeOf hTs ?_);rw[AF (by decide)]
 refine Ah (VY hs pl pu ?_);have hno:¬ ((((sIx items.size 0 lo:Af):Ag)==0&&(1:Ag)==1&&(sIx items.size items.size hi-sIx items.size 0 lo)==items.size)=Ab):=by
  intro q;rw[Al,Al]at q;have q1:((sIx items.size 0 lo:Af):Ag)=0:=eq_of_beq q.1.1;have q2:sIx items.size items.size hi-sIx items.size 0 lo=items.size:=eq_of_beq q.2;exact hw ⟨by omega,by omega⟩
 show At _ _ (if (((sIx items.size 0 lo:Af):Ag)==0&&(1:Ag)==1&&(sIx items.size items.size hi-sIx items.size 0 lo)==items.size)=Ab then _ else _) _ _ s
 rw[AM hno,Xo]
 first
  |exact Ah (m:=CM _) (Cn (As ⟨_,rfl,As h⟩) htake)
  |exact Ah (m:=CM _) (Cn (Ah (As (As ⟨_,rfl,As h⟩))) htake)
  |exact Ah (Ah (m:=CM _) (Cn (As (As ⟨_,rfl,As h⟩)) htake))
  |exact Ah (Ah (m:=CM _) (Cn (As ⟨_,rfl,As h⟩) htake))
end
end HT
namespace L2
open PySem PySem.Spec PyProof.Rows
variable{xs:Ad V}{us its its':Ad Ai}{n t':Af}{i:Ag}{pI:Pn}{σ:St}{H:Hp}{s:Aq}{p:Ak}
abbrev TO:=St->Hp->(Am Ag->Hp->Prop)->Prop
noncomputable def PO(X:Cx)(e:Am Ao)(t:TO):Prop:=
 ∀(pI:Pn)(s:Aq)(σ:St)(H:Hp)(Q:Am Ag->Hp->Prop),Inv X pI σ H s->t σ H Q ->
  At (model X.prog X.w) X.A (evalPart e X.env) (fun u s'=>∃ o H',Inv X pI σ H' s'/\Ho u o/\Q o H') X.xe s
def Ye:TO:=fun _ H Q=>Q Ae H
def gK(t:TE):TO:=fun σ H Q=>t σ H fun x H1=>∃ i,x=.int i/\Q (Aa i) H1
section
variable{X:Cx}{e:Ao}{te:TE}{lo hi:Am Ao}{tl th:TO}{pos p2:AI}
theorem Y2:PO X Ae Ye:=by
 intro pI s σ H Q I h;rw[evalPart_none];exact As ⟨Ae,H,I,.none,h⟩
theorem Y1(h:PE X e te):PO X (Aa e) (gK te):=by
 intro pI s σ H Q I hw;rw[evalPart_some];refine thn (h pI s σ H _ I hw) fun u s1 ⟨x,H1,I1,r1,q1⟩=>?_
 obtain⟨i,rfl,q⟩:=q1;obtain⟨t,rfl⟩:=r1;exact⟨Aa i,H1,I1,.int i t,q⟩
noncomputable def SlR(X:Cx)(r:V->Am Ag->Am Ag->Hp->VK->Prop):Prop:=
 ∀(pI:Pn)(s:Aq)(σ:St)(H:Hp)(x:V)(v vl vu:Ai)(lo hi:Am Ag)(sl:Ak)(Q:VK),Inv X pI σ H s->Bt x v->s.heap.IsSliceOf sl vl vu .none->Ho vl lo->Ho vu hi->r x lo hi H Q ->
  ∃ T id,Im (.type T) "__getitem__" = pure (Aa (.builtin id))/\s.TypeIs v T/\At (model X.prog X.w) X.A (Jl v (.ref sl)) (EP X pI σ Q) X.xe s
def tSl(r:V->Am Ag->Am Ag->Hp->VK->Prop)(te:TE)(tl th:TO):TE:=fun σ H Q=>te σ H fun x H1=>tl σ H1 fun l H2=>th σ H2 fun u H3=>r x l u H3 Q
theorem Xp{r:V->Am Ag->Am Ag->Hp->VK->Prop}(hr:SlR X r)(he:PE X e te)(hl:PO X lo tl)(hu:PO X hi th):PE X (.Subscript e (.Slice lo hi Ae p2) pos) (tSl r te tl th):=by
 intro pI s σ H Q I h;refine Subscript_ (thn (he pI s σ H _ I h) fun v s1 ⟨x,H1,I1,r1,q1⟩=>?_)
 refine wpAny_Slice (thn (hl pI s1 σ H1 _ I1 q1) fun vl s2 ⟨l,H2,I2,pl,q2⟩=>thn (hu pI s2 σ H2 _ I2 q2) fun vu s3 ⟨u,H3,I3,pu,q3⟩=>?_)
 rw[evalPart_none];refine As ?_;have I4:Inv X pI σ H3 { s3 with heap:=s3.heap.push { cls:=.type "slice", data:=.fields #[vl,vu,.none] } }:=I3.kept (t':=s3.toks) fun b ob q=>Ap _ q
 obtain⟨T,id,hT,ht,hg⟩:=hr pI { s3 with heap:=s3.heap.push { cls:=.type "slice", data:=.fields #[vl,vu,.none] } } σ H3 x v vl vu l u s3.heap.objs.size Q I4 r1 (Heap.IsSliceOf.new ..) pl pu q3
 show At (model X.prog X.w) X.A (subscriptTail e (.Slice lo hi Ae p2) v (.ref s3.heap.objs.size)) (EP X pI σ Q) X.xe { s3 with heap:=s3.heap.push { cls:=.type "slice", data:=.fields #[vl,vu,.none] } }
 exact tail_any (ops:=[.ref s3.heap.objs.size,v]) ht hT hg (by with_unfolding_all rfl)
noncomputable def Jh(xs:Ad V)(lo hi:Am Ag):Ad V:=(xs.drop (HT.sIx xs.length 0 lo)).take (HT.sIx xs.length xs.length hi-HT.sIx xs.length 0 lo)
theorem Pp(xs:Ad V)(lo hi:Am Ag):(Jh xs lo hi).length<=xs.length:=by
 unfold Jh;rw[Hk,Ut];omega
def Tv(K:Fg):V->Am Ag->Am Ag->Hp->VK->Prop:=fun x lo hi H Q=>∃ a xs,x=.ref a/\SqT K H a xs /\
 ¬ (HT.sIx xs.length 0 lo=0/\HT.sIx xs.length xs.length hi=xs.length)/\∀ p,H p=Ae->Q (.ref p) (upd H p (.tup (Jh xs lo hi)))
theorem dH:SlR X (Tv X.K):=by
 intro pI s σ H x v vl vu lo hi sl Q I rx hs pl pu h;obtain⟨a,xs,rfl,hx,hw,q⟩:=h;cases rx;obtain⟨its,r,ht,hz⟩:=I.tuple hx;have hlen:its.toArray.size=xs.length:=by rw[AO];exact r.length.symm
 refine⟨"tuple", _,PyProof.Rows.slot_tuple_getitem.lookup,ht.typeIs,?_⟩;refine HT.getItem_tuple_cut ht hs pl pu (by rw[hlen];exact hw) ?_ (by rw[hlen];exact hz)
 rw[hlen];refine⟨.ref s.heap.objs.size,_,I.laid (t':=s.toks) (o:=.tup (Jh xs lo hi)) (fun b ob q=>Ap _ q) (AU _) ?_,rfl,q _ (I.hok.fresh (AU _))⟩
 exact⟨BR (Pp xs lo hi) hz,_,(r.drop (HT.sIx xs.length 0 lo)).take (HT.sIx xs.length xs.length hi-HT.sIx xs.length 0 lo),IG _ _⟩
def kJ(K:Fg):R2:=fun x y H Q=>∃ a b xs ys,x=.ref a/\y=.ref b/\SqT K H a xs/\SqT K H b ys/\xs≠[]/\xs.length+ys.length<=sizeLine /\
 (ys=[]->Q (.ref a) H)/\(ys≠[]->∀ p,H p=Ae->Q (.ref p) (upd H p (.tup (xs++ys))))
theorem Bb.nil_iff(r:Bb xs us):us=[]↔xs=[]:=by
 cases r with
 |nil=>simp
 |cons _ _=>simp
theorem Zg:OpR X (B9 .Add) (kJ X.K):=by
 intro pI s σ H x y v u Q I rx ry h;obtain⟨a,b,xs,ys,rfl,rfl,ha,hb,hx,hz,q1,q2⟩:=h;cases rx;cases ry;obtain⟨its,r1,p1,_⟩:=I.tuple ha;obtain⟨its2,r2,p2,_⟩:=I.tuple hb;refine HT.cat_tup p1 p2 (fun z=>hx (r1.nil_iff.mp z)) (fun z=>⟨.ref a,H,I,rfl,q1 (r2.nil_iff.mp z)⟩) (fun z=>?_) (by rw[<-r1.length,<-r2.length];exact hz)
 refine⟨.ref s.heap.objs.size,_,I.laid (t':=s.toks) (o:=.tup (xs++ys)) (fun b ob q=>Ap _ q) (AU _) ?_,rfl,q2 (fun w=>z (r2.nil_iff.mpr w)) _ (I.hok.fresh (AU _))⟩
 exact⟨by rw[BW];exact hz,_,r1.append r2,IG _ _⟩
end
noncomputable def ixN(n:Af)(i:Ag):Am Af:=if 0<=i then (if i<n then Aa i.toNat else Ae) else if -(n:Ag)<=i then Aa (i+n).toNat else Ae
noncomputable def atI{α:Type}(xs:Ad α)(i:Ag):Am α:=(ixN xs.length i).bind fun j=>xs[j]?
theorem Rc{j:Af}(h:ixN n i=Aa j):seqIndex? i n=Aa j/\j<n/\-(n:Ag)<=i/\i<n:=by
 unfold ixN at h;by_cases h0:0<=i
 ·rw[AF h0]at h;by_cases h1:i<n
  ·rw[AF h1]at h;have e:i.toNat=j:=Bh h;exact⟨by rw[Jn h0 h1,e],by omega,by omega,h1⟩
  ·rw[AM h1]at h;cases h
 ·rw[AM h0]at h;by_cases h1:-(n:Ag)<=i
  ·rw[AF h1]at h;have e:(i+n).toNat=j:=Bh h;exact⟨by rw[IT (by omega) h1,e],by omega,h1,by omega⟩
  ·rw[AM h1]at h;cases h
theorem Rz{α:Type}{xs:Ad α}{v:α}(h:atI xs i=Aa v):∃ j,seqIndex? i xs.length=Aa j/\xs[j]?=Aa v/\j<xs.length/\-(xs.length:Ag)<=i/\i<xs.length:=by
 unfold atI at h;cases e:ixN xs.length i with
 |none=>rw[e]at h;cases h
 |some j=>
  rw[e]at h;obtain⟨h1,h2,h3,h4⟩:=Rc e;exact⟨j,h1,h,h2,h3,h4⟩
def N9(b:Ao):Prop:=∀ o i,subscripted b Ac o i=operate [o,i] (Jl o i)
noncomputable def IxR(X:Cx)(r:R2):Prop:=
 ∀(value slice:Ao)(pI:Pn)(s:Aq)(σ:St)(H:Hp)(x y:V)(v u:Ai)(Q:VK),Inv X pI σ H s->Bt x v->Bt y u->r x y H Q ->
  subscripted slice Ac v u=operate [v,u] (Jl v u)->At (model X.prog X.w) X.A (subscriptTail value slice v u) (EP X pI σ Q) X.xe s
noncomputable def MtR(X:Cx)(id:Dh)(r:V->Ad V->Hp->VK->Prop):Prop:=
 ∀(pI:Pn)(s:Aq)(σ:St)(H:Hp)(x:V)(xs:Ad V)(v:Ai)(us:Ad Ai)(Q:VK),Inv X pI σ H s->Bt x v->Bb xs us->r x xs H Q ->
  At (model X.prog X.w) X.A (call (.builtin id) (v::us)) (EP X pI σ Q) X.xe s
section
variable{X:Cx}{a b:Ao}{ta tb:TE}{pos:AI}
theorem IxR.or{r r':R2}(h:IxR X r)(h':IxR X r'):IxR X (fun x y H Q=>r x y H Q\/r' x y H Q):=by
 intro value slice pI s σ H x y v u Q I rx ry q hs;rcases q with q|q
 ·exact h value slice pI s σ H x y v u Q I rx ry q hs
 ·exact h' value slice pI s σ H x y v u Q I rx ry q hs
theorem iZ{r:R2}(hr:IxR X r)(ha:PE X a ta)(hb:PE X b tb)(hs:N9 b):PE X (.Subscript a b pos) (tOp r ta tb):=by
 intro pI s σ H Q I h;exact Subscript_ (Pb ha hb I h fun v u s2 x y H2 I2 rx ry q=>hr a b pI s2 σ H2 x y v u Q I2 rx ry q (hs _ _))
def Tz(K:Fg):R2:=fun x y H Q=>∃ p xs i v,x=.ref p/\y=.int i/\SqL K H p xs/\atI xs i=Aa v/\Q v H
def Tx(K:Fg):R2:=fun x y H Q=>∃ p xs i v,x=.ref p/\y=.int i/\SqT K H p xs/\atI xs i=Aa v/\Q v H
theorem aC:IxR X (Tz X.K):=by
 intro value slice pI s σ H x y v u Q I rx ry h hs;obtain⟨p,xs,i,z,rfl,rfl,hq,he,q⟩:=h;cases rx;obtain⟨t,rfl⟩:=ry;obtain⟨its,r,pl,hz⟩:=I.list hq;obtain⟨j,h1,h2,h3,h4,h5⟩:=Rz he;obtain⟨w,ew,rw'⟩:=r.get h2;have hl:=r.length;have hn:=Ko;have fin:EP X pI σ Q w s:=⟨z,H,I,rw',q⟩;by_cases h0:0<=i
 ·have hj:i.toNat=j:=by
   rw[Jn h0 h5]at h1;exact Bh h1
  exact item_listR pl.isList h0 (by omega) (by rw[hj];simpa using ew) fin hs
 ·have hj:(i+(its.toArray.size:Ag)).toNat=j:=by
   rw[IT (by omega) h4]at h1
   rw[AO,<-hl];exact Bh h1
  exact UP (x:=w) pl.isList.typeIs VI.lookup
   (wpAny_getItem_list_neg (Q:=fun r s'=>r=w/\EP X pI σ Q r s') pl.isList (by omega) (by rw[AO]<;>omega) (by omega) (by rw[hj];simpa using ew) ⟨rfl,fin⟩) hs
theorem fO:IxR X (Tx X.K):=by
 intro value slice pI s σ H x y v u Q I rx ry h hs;obtain⟨p,xs,i,z,rfl,rfl,hq,he,q⟩:=h;cases rx;obtain⟨t,rfl⟩:=ry;obtain⟨its,r,pl,hz⟩:=I.tuple hq;obtain⟨j,h1,h2,h3,h4,h5⟩:=Rz he;obtain⟨w,ew,rw'⟩:=r.get h2;have hl:=r.length;have hn:=Ko;have fin:EP X pI σ Q w s:=⟨z,H,I,rw',q⟩;exact UP (x:=w) pl.typeIs slot_tuple_getitem.lookup
  (getItem_tuple (j:=j) (Q:=fun r s'=>r=w/\EP X pI σ Q r s') pl (by omega) (by omega) (by rw[AO,<-hl];exact h1) (by simpa using ew) ⟨rfl,fin⟩) hs
theorem Wt(its:Ad Ai)(n j:Af)(u:Ai):CJ (·.setIfInBounds j u) { cls:=.type "list", data:=.seq its.toArray n }={ cls:=.type "list", data:=.seq (its.set j u).toArray n }:=by
 simp[CJ]
theorem Inv.lst(I:Inv X pI σ H s)(h:H p=Aa (.lst xs)):
  ∃(its:Ad Ai)(n:Af),Bb xs its/\s.heap.get? p=Aa { cls:=.type "list", data:=.seq its.toArray n }/\xs.length<=sizeLine:=by
 obtain⟨z,its,n,r,e⟩:=I.hok p _ h;exact⟨its,n,r,e,z⟩
theorem Inv.lstUpd{ys:Ad V}{n':Af}{f:Cz->Cz}(I:Inv X pI σ H s)(h:H p=Aa (.lst xs))(ho:s.heap.get? p=Aa { cls:=.type "list", data:=.seq its.toArray n })(hf:f { cls:=.type "list", data:=.seq its.toArray n }={ cls:=.type "list", data:=.seq its'.toArray n' })(r:Bb ys its')(hz:ys.length<=sizeLine)(t:Af):Inv X pI σ (upd H p (.lst ys)) {s with heap:=s.heap.update p f,toks:=t}:=by
 have e:(s.heap.update p f).get? p=Aa { cls:=.type "list", data:=.seq its'.toArray n' }:=by
  rw[Bw f ho (by rw[hf]<;>rfl),hf]
 refine I.write (x:=p) (e:=p) (by rw[h];trivial) (.inl rfl) (fun b u hb q=>(BE _ _ (Ct hb)).trans q) ⟨_,e⟩ ?_
 exact⟨hz,its',n',r,e⟩
def kI:V->V->V->Hp->(Hp->Prop)->Prop:=fun o i v H Q=>∃ p xs k j,o=.ref p/\i=.int k/\H p=Aa (.lst xs)/\ixN xs.length k=Aa j/\Q (upd H p (.lst (xs.set j v)))
theorem W9:TZ X kI:=by
 intro pI s σ H o i v ov iv u Q I ro ri rv h;obtain⟨p,xs,k,j,rfl,rfl,hp,hj,q⟩:=h;cases ro;obtain⟨t,rfl⟩:=ri;obtain⟨its,n,r,ho,hz⟩:=I.lst hp;obtain⟨h1,h2,h3,h4⟩:=Rc hj;have hl:=r.length;have hn:=Ko;have I':Inv X pI σ (upd H p (.lst (xs.set j v))) {s with heap:=s.heap.update p (CJ (·.setIfInBounds j u))}:=
  I.lstUpd hp ho (Wt its n j u) (r.set rv j) (by rw[A3];exact hz) s.toks
 by_cases h0:0<=k
 ·have hk:k.toNat=j:=by
   rw[Jn h0 h4]at h1;exact Bh h1
  exact PySem.W.ki_setAt ho h0 (by omega) (by rw[AO,<-hl];exact h4) (by rw[hk];exact⟨_,I',q⟩)
 ·have hk:(k+(its.toArray.size:Ag)).toNat=j:=by
   rw[IT (by omega) h3]at h1
   rw[AO,<-hl];exact Bh h1
  exact PySem.W.ki_setBack ho (by omega) (by rw[AO,<-hl];exact h3) (by omega) (by rw[hk];exact⟨_,I',q⟩)
theorem V5(lo hi:Am Ag)(n:Af):(ET lo hi Ae n).1=((HT.sIx n 0 lo:Af):Ag)/\(ET lo hi Ae n).2.1=((HT.sIx n n hi:Af):Ag)/\(ET lo hi Ae n).2.2=1:=by
 refine⟨?_,?_,rfl⟩
 ·cases lo with
  |none=>simp[ET,HT.sIx]
  |some i=>
   simp only[ET,HT.sIx,UJ,show (1:Ag) > 0 by decide,EC]
   by_cases h:i<0
   ·simp only[h,EC]<;>omega
   ·simp only[h,HH]<;>omega
 ·cases hi with
  |none=>simp[ET,HT.sIx]
  |some i=>
   simp only[ET,HT.sIx,UJ,show (1:Ag) > 0 by decide,EC]
   by_cases h:i<0
   ·simp only[h,EC]<;>omega
   ·simp only[h,HH]<;>omega
theorem VZ(its:Ad Ai)(lo hi:Am Ag):slicePick its.toArray lo hi Ae=((its.drop (HT.sIx its.length 0 lo)).take (HT.sIx its.length its.length hi-HT.sIx its.length 0 lo)).toArray:=by
 obtain⟨h1,h2,h3⟩:=V5 lo hi its.toArray.size;unfold slicePick;rw[h1,h2,h3];simp only[sliceRange_one,pick_run,AO]<;>rfl
def Tw(K:Fg):V->Am Ag->Am Ag->Hp->VK->Prop:=fun x lo hi H Q=>∃ a xs,x=.ref a/\SqL K H a xs/\∀ p,H p=Ae->Q (.ref p) (upd H p (.lst (Jh xs lo hi)))
theorem Zn:SlR X (Tw X.K):=by
 intro pI s σ H x v vl vu lo hi sl Q I rx hs pl pu h;obtain⟨a,xs,rfl,hx,q⟩:=h;cases rx;obtain⟨its,r,ht,hz⟩:=I.list hx;have hlen:=r.length;refine⟨"list", _,VI.lookup,ht.isList.typeIs,?_⟩;refine wpAny_getItem_list_slice ht.isList hs pl pu .none (by simp) ?_ (by rw[AO]<;>omega)
 rw[VZ,<-hlen];refine⟨.ref s.heap.objs.size,_,I.laid (t':=s.toks) (o:=.lst (Jh xs lo hi)) (fun b ob q=>Ap _ q) (AU _) ?_,rfl,q _ (I.hok.fresh (AU _))⟩
 exact⟨BR (Pp xs lo hi) hz,_,0,(r.drop (HT.sIx xs.length 0 lo)).take (HT.sIx xs.length xs.length hi-HT.sIx xs.length 0 lo),AD _ rfl⟩
theorem Pt:Jb X (.builtin "len") (fun xs H Q=>∃ p ys,xs=[.ref p]/\(SqL X.K H p ys\/SqT X.K H p ys)/\Q (.int ys.length) H):=by
 intro pI s σ H xs us Q I r h;obtain⟨p,ys,rfl,hq,q⟩:=h;obtain⟨u,rfl,rx⟩:=Ky r;cases rx;have hn:=Ko;rcases hq with hq|hq
 ·obtain⟨its,r',pl,hz⟩:=I.list hq;have hlen:=r'.length;exact Calls.call_len_list pl.isList (by simp only[AO]<;>omega) ⟨.int ys.length,H,I.tok _,⟨s.toks+1,by rw[AO,hlen]⟩,q⟩
 ·obtain⟨its,r',pl,hz⟩:=I.tuple hq;have hlen:=r'.length;exact len_tuple pl (by simp only[AO]<;>omega) ⟨.int ys.length,H,I.tok _,⟨s.toks+1,by rw[AO,hlen]⟩,q⟩
theorem V6:Jb X (.builtin "len") (fun xs H Q=>∃ z,xs=[.str z]/\z.length<=sizeLine/\Q (.int z.length) H):=by
 intro pI s σ H xs us Q I r h;obtain⟨z,rfl,hz,q⟩:=h;obtain⟨u,rfl,t,rfl⟩:=Ky r;have hn:=Ko;exact len_str (by omega) ⟨.int z.length,H,I.tok _,⟨_,rfl⟩,q⟩
theorem Ps:Jb X (.type "list") (fun xs H Q=>∃ p ys,xs=[.ref p]/\(SqL X.K H p ys\/SqT X.K H p ys)/\∀ l,H l=Ae->Q (.ref l) (upd H l (.lst ys))):=by
 intro pI s σ H xs us Q I r h;obtain⟨p,ys,rfl,hq,q⟩:=h;obtain⟨u,rfl,rx⟩:=Ky r;cases rx;have fin:∀(its:Ad Ai),Bb ys its->ys.length<=sizeLine->∀(h':AB)(c':Af),(∀ b o',s.heap.get? b=Aa o'->h'.get? b=Aa o') ->
   h'.get? s.heap.objs.size=Aa { cls:=.type "list", dict:=Ae,data:=.seq its.toArray c',slots:=#[] }->EP X pI σ Q (.ref s.heap.objs.size) {s with heap:=h'}:=fun its r' hz h' c' kp e=>
  ⟨.ref s.heap.objs.size,_,I.laid (t':=s.toks) kp (AU _) (show ObjOk X.prog X.w _ h' _ (.lst ys) from ⟨hz,its,c',r',e⟩),rfl,q _ (I.hok.fresh (AU _))⟩
 rcases hq with hq|hq
 ·obtain⟨its,r',pl,hz⟩:=I.list hq;have hlen:=r'.length;obtain⟨o,ho,hc,n,hd⟩:=pl.isList;exact call_list_seq p (.inl rfl) ho hc hd (fun h' c' kp e=>fin its r' hz h' c' kp e) (by simp only[AO]<;>omega)
 ·obtain⟨its,r',pl,hz⟩:=I.tuple hq;have hlen:=r'.length;obtain⟨o,ho,hc,n,hd⟩:=pl;exact call_list_seq p (.inr rfl) ho hc hd (fun h' c' kp e=>fin its r' hz h' c' kp e) (by simp only[AO]<;>omega)
theorem Pj:Jb X (.type "tuple") (fun xs H Q=>∃ p ys,xs=[.ref p]/\((SqL X.K H p ys/\∀ l,H l=Ae->Q (.ref l) (upd H l (.tup ys)))\/(SqT X.K H p ys/\Q (.ref p) H))):=by
 intro pI s σ H xs us Q I r h;obtain⟨p,ys,rfl,h⟩:=h;obtain⟨u,rfl,rx⟩:=Ky r;cases rx;rcases h with ⟨hq,q⟩|⟨hq,q⟩
 ·obtain⟨its,r',pl,hz⟩:=I.list hq;have hlen:=r'.length;refine call_tuple_list pl.isList (fun h' kp=>?_) (by simp only[AO]<;>omega)
  have I1:Inv X pI σ H {s with heap:=h'}:=I.kept (t':=s.toks) kp
  have I2:Inv X pI σ (upd H h'.objs.size (.tup ys)) { s with heap:=h'.push { cls:=.type "tuple", data:=.seq its.toArray } }:=
   I1.laid (t':=s.toks) (fun b o e=>Ap _ e) (AU _) (show ObjOk X.prog X.w _ _ _ (.tup ys) from ⟨hz,its,r',IG _ _⟩)
  exact⟨.ref h'.objs.size,_,I2,rfl,q _ (I1.hok.fresh (AU _))⟩
 ·obtain⟨its,r',pl,hz⟩:=I.tuple hq;exact call_tuple_same pl ⟨.ref p,H,I,rfl,q⟩
variable{o e:Ao}{es:Ad Ao}{to:TE}{t:TA}{name:Aj}{apos cpos:AI}{T id:Dh}{r:V->Ad V->Hp->VK->Prop}
/- xs.append(e),list.index on a module's tuple .. are MtR facts of 06m -/
end
theorem Bb.one:∀{x:V}{us:Ad Ai},Bb [x] us->∃ u,us=[u]/\Bt x u
 |_,_,.cons r .nil=>⟨_,rfl,r⟩
theorem Bb.zero:∀{us:Ad Ai},Bb [] us->us=[]
 |_,.nil=>rfl
theorem Bb.eraseIdx:∀{xs:Ad V}{us:Ad Ai}(i:Af),Bb xs us->Bb (xs.eraseIdx i) (us.eraseIdx i)
 |_,_,_,.nil=>.nil
 |_,_,0,.cons _ t=>t
 |_,_,i+1,.cons r t=>.cons r (Bb.eraseIdx i t)
theorem Bb.reverse(h:Bb xs us):Bb xs.reverse us.reverse:=by
 induction h with
 |nil=>exact .nil
 |cons r t ih=>rw[Uz,Uz];exact Bb.append ih (.cons r .nil)
section
variable{X:Cx}{pI:Pn}{σ:St}{H:Hp}{s:Aq}{l b:Ak}{xs ys zs:Ad V}
theorem Inv.lset{f:AX Ai->AX Ai}(I:Inv X pI σ H s)(hH:H l=Aa (.lst xs))(e:s.heap.get? l=Aa { cls:=.type "list", data:=.seq its.toArray n })(hf:f its.toArray=its'.toArray)(hv:Bb ys its')(hz:ys.length<=sizeLine):Inv X pI σ (upd H l (.lst ys)) {s with heap:=s.heap.update l (CJ f),toks:=t'}:=by
 have q:=PySem.IsL.update e f;rw[hf]at q;refine I.write (x:=l) (e:=l) (by rw[hH];exact trivial) (.inl rfl) (fun b' u hb hu=>(BE s.heap (CJ f) (Ct hb)).trans hu) ⟨_,q⟩ ?_
 exact⟨hz,its',_,hv,q⟩
theorem Inv.lnew(I:Inv X pI σ H s)(hv:Bb ys its)(hz:ys.length<=sizeLine):
  Inv X pI σ (upd H s.heap.objs.size (.lst ys)) { s with heap:=s.heap.push { cls:=.type "list", data:=.seq its.toArray },toks:=t' }:=
 I.laid (fun _ _ q=>Ap _ q) (AU _) ⟨hz,its,0,hv,AD _ rfl⟩
theorem Inv.fresh(I:Inv X pI σ H s):H s.heap.objs.size=Ae:=I.hok.fresh (AU _)
end
section
variable{X:Cx}
end
section
variable{prog:AK}{w:AY}{A:AV}{E:Vq}{s:Aq}
set_option maxRecDepth 100000 in
end
section
variable{X:Cx}
end
end L2
namespace Att
open PySem PySem.W PySem.Calls PyProof.Rows
variable{P:KY}{h:AB}{l:FL}{n:Af}
theorem VV:∀(ns:Ad Ag)(vs:Ad Ai),WellAll P h vs (ns.map Vt)->H9 vs ns:=by
 intro ns
 induction ns with
 |nil=>
  intro vs w;rw[List.map_nil]at w;cases w;exact .nil
 |cons n ns ih=>
  intro vs w;rw[DF]at w;cases w with
  |cons a b=>
   cases a;exact .cons _ _ (ih _ b)
theorem WN(hn:l.most=Aa n){args:Ad WData}{vals:Ad Ai}(hpre:l.row.toRowW.claim.pre args=Ab)(hwl:WellAll P h vals args):
  ∃ a vs ns,vals=[Bo a]/\args=[WData.list (ns.map Vt)]/\h.get? a=Aa { cls:=.type "list", data:=.seq vs.toArray }/\H9 vs ns/\ns.length<=n:=by
 have hsh:WShape.hasAll [] args [.list .int]=Ab:=(pre_splitW hpre).1;have hc:l.pre.holds [] {args:=args}=Ab:=(pre_splitW hpre).2;obtain⟨d,r,rfl,h1,h2⟩:=hasAllW_cons hsh;obtain rfl:=hasAllW_nil h2;obtain⟨xs,rfl,h3⟩:=hasW_list h1;obtain⟨ns,rfl⟩:=items_int h3;have hlen:ns.length<=n:=by
  unfold OpenLaw.pre at hc;have h4:(WTm.not (.lt (.lit (.int (n:Ag))) (.len (.arg 0)))).holds [] {args:=[.list (ns.map .int)]}=Ab:=by
   have h4:=(holds_andW hc).1;rw[hn]at h4;exact h4
  have h5:=condW_of h4 (w_not (w_lt w_lit (w_len_list (w_arg rfl))));rw[Br]at h5;refine Nat.le_of_not_lt fun q=>?_
  have q':(n:Ag)<((ns.length:Af):Ag):=by omega
  first
   |(rw[Ii q']at h5;exact absurd h5 (by decide))
   |(simp at h5;omega)
 cases hwl with
 |cons w1 w2=>
  cases w2;cases w1 with
  |list ho hall=>exact⟨_,_,ns,rfl,rfl,ho,VV ns _ hall,hlen⟩
theorem WQ(l:FL)(args:Ad WData):l.row.toRowW.claim.post args (.bool Ab) args=Ab:=
 postW_of (r:=l.row.toRowW) (X:=(Ab==Ab))
  (show Vu [] (.bool Ab) .bool=Ab by first|rfl|decide|simp[Vu,WShape.arms,WShape.armsAll])
  (show (WTm.eq .res (.lit (.bool Ab))).value [] {args:=args,res:=Aa (.bool Ab),after:=args}=Aa (.bool (Ab==Ab)) from w_eq_bool (w_res rfl) w_lit) rfl
theorem attach_call{q:AK}{loose:Ad Aj}{XP:(Aj->Am Ai)->AB->Prop}{YP:AY->AB->Prop}{d:DefRec}(hn:l.most=Aa n)(hdf:d.params.defaults=[])(call:∀(w:AY)(s₀ s₁:Aq)(mg mb:Aj->Am Ai)(fa:Ak)(o:Cz)(pm cd doc:Ai)(a:Ak)(vs:Ad Ai)(ns:Ad Ag),
   Ground q loose [] XP w s₀ mg mb s₁.heap->YP w s₁.heap ->
   s₁.heap.get? fa=Aa o->o.data=.func (docDef d.name d.params d.body d.scope pm cd doc)->s₁.heap.CodeRec cd d.name->mg d.name=Aa (.ref fa) ->
   s₁.heap.get? a=Aa { cls:=.type "list", data:=.seq vs.toArray }->H9 vs ns->ns.length<=n->s₁.gens=#[] ->
   Ez (model l.prog w) Hf (.call (.ref fa) ⟨[.ref a],[]⟩) (fun r s'=>r=.ok (.ret (.bool Ab))/\OldK s₁.heap s'.heap/\s'.os=s₁.os/\Fn s'.gens) s₁):WalkO q loose XP YP l.row.toRowW d [] (fun f vs=>JS f vs):=by
 intro w s₀ s₁ mg mb G Y fa o pm cd doc dV kV ho hd hcd hD hmg hg args vals as hpre hlay hrd hwl hlo;obtain rfl:dV=.none:=Dflts.none hD hdf;obtain rfl:kV=.none:=Dflts.noKw hD;obtain⟨a,vs,ns,rfl,rfl,hobj,hints,hlen⟩:=WN hn hpre hwl;refine enter_call (Fe (call w s₀ s₁ mg mb fa o pm cd doc a vs ns G Y ho (fd_plain hd) hcd hmg hobj hints hlen hg) fun r s' hq=>?_)
 obtain⟨rfl,h2,h3,h4⟩:=hq;exact⟨.inl ⟨.bool Ab,.bool Ab,[],rfl,fun _=>rfl,.bool Ab,WQ l _,fun _=>⟨List.Pairwise.nil,fun _ hm=>(nomatch hm)⟩⟩,h2,h3,h4⟩
section
variable{prog:AK}{w:AY}{A:AV}{E:Vq}{s:Aq}{K:Frag}
end
end Att
namespace L2
open PySem PySem.Spec PyProof.Rows
variable{k:Af}{x:Aj}
theorem Px:∀{vs:Ad Ai}{ns:Ad Ag},H9 vs ns->Bb (ns.map V.int) vs
 |_,_,.nil=>.nil
 |_,_,.cons n t h=>.cons ⟨t,rfl⟩ (Px h)
def Ph(H:Hp):Prop:=∀ b,H b=Ae\/∃ o xs,H b=Aa (.frz o (.lst xs))
theorem W1{P:AK}{w:AY}{K:Fg}{mg mb:Aj->Am Ai}{CX:CXT}{fa a:Ak}{fd:BS}{sp:Sp}{s₁:Aq}{vs:Ad Ai}{ns:Ad Ag}(KX:K.In s₁.heap)(hns:s₁.heap.Ns AW mg)(hb:s₁.heap.Ns Il mb)(hbb:∀ x:Aj,x≠"__name__"->mb x=C3 x)(hlim:s₁.heap.NoLimit)(hg:s₁.gens=#[])(ha:s₁.heap.get? a=Aa { cls:=.type "list", data:=.seq vs.toArray })(hi:H9 vs ns)(hl:ns.length<=sizeLine)(hr:Room k Hf)(F:∀ base:AB,K.In base->base.Ns AW mg->FnOk P w K mg base CX k fa fd [x] sp)(hbind:∀(s:Aq)(u:Ai),F6 s fd ⟨[u],[]⟩ [(x,u)])(hsp:∀ H:Hp,Ph H->SqL K H a (ns.map V.int)->sp [.ref a] H (fun v _=>v=.bl Ab) fun _ _ _=>AS)(hCX:∀ H e s',CX [] H s₁ (fun _ _ _=>AS) e s'->AS):Ez (model P w) Hf (.call (.ref fa) ⟨[.ref a],[]⟩) (fun r s'=>r=.ok (.ret (.bool Ab))/\OldK s₁.heap s'.heap/\s'.os=s₁.os/\Fn s'.gens) s₁:=by
 have rv:=Px hi;have lenV:=hi.length
 -- from an abstract heap in which nothing but the script may be tracked
 have core:∀ H:Hp,Ph H->SqL K H a (ns.map V.int)->HOk P w H s₁.heap->(∀ b,H b≠Ae->b=a)->(H a≠Ae->K.lookup a=Ae) ->
   Ez (model P w) Hf (.call (.ref fa) ⟨[.ref a],[]⟩) (fun r s'=>r=.ok (.ret (.bool Ab))/\OldK s₁.heap s'.heap/\s'.os=s₁.os/\Fn s'.gens) s₁:=by
  intro H hO hS hok hA hK;have base_of:∀{b:Ak}{o:Cz},s₁.heap.get? b=Aa o->H b=Ae->(Iz s₁.heap H).get? b=Aa o:=fun e n=>XS e n
  have noA:∀{b:Ak}{o:Cz}{es:AX DictEntry}{ep:Af},s₁.heap.get? b=Aa o->o.data=.dict es ep->H b=Ae:=fun {b o es ep} e d=>by
   cases q:H b with
   |none=>rfl
   |some u=>
    have e':b=a:=hA b (by rw[q];simp)
    subst e';rw[ha]at e;cases e;have d':KU vs.toArray _=Data.dict es ep:=d;cases d'
  have nsK:∀{b:Ak}{m:Aj->Am Ai},s₁.heap.Ns b m->(Iz s₁.heap H).Ns b m:=fun {b m} ⟨o,es,ep,e,d,r⟩=>⟨o,es,ep,base_of e (noA e d),d,r⟩
  have hKb:K.In (Iz s₁.heap H):=fun b o e=>base_of (KX b o e) (by
   cases q:H b with
   |none=>rfl
   |some u=>
    have e':b=a:=hA b (by rw[q];simp)
    subst e';rw[hK (by rw[q];simp)]at e;cases e)
  have hM:Mod K mg (Iz s₁.heap H):=⟨hKb,nsK hns,⟨mb,nsK hb,hbb⟩,let ⟨mc,h1,h2⟩:=hlim;⟨mc,nsK h1,h2⟩⟩
  have e0:Env0 P w K mg (Iz s₁.heap H) Hf [] s₁ H:=⟨rfl,hM,fun b o e=>Zh e,UC (WG _ _),trivial,fun b hb=>absurd (show b∈([]:Ad Ak) from hb) (by simp),hok,.of_eq hg⟩
  refine Fe ((F _ hKb (nsK hns)).run Hf [] s₁ H ⟨[.ref a],[]⟩ [.ref a] [.ref a] _ _ hr e0 (hbind s₁ (.ref a)) (.cons rfl .nil) (hsp H hO hS)) fun r s' h=>?_
  cases r with
  |error e=>exact(hCX H e s' h).elim
  |ok fl=>
   cases fl with
   |next=>exact A9 h
   |brk=>exact A9 h
   |cont=>exact A9 h
   |ret u=>
    obtain⟨v,H',os,bare,un,hok',r',q⟩:=h;have q':v=.bl Ab:=q;subst q';obtain rfl:u=JR Ab:=r';refine⟨rfl,OldK.of_keep fun b o e=>?_,os,bare⟩
    cases q:H b with
    |none=>exact un.keep b o e q (by intro z;exact absurd (show b∈([]:Ad Ak) from z) (by simp)) (by simp)
    |some u=>
     rcases hO b with z|⟨ob,xs,z⟩
     ·rw[q]at z;cases z
     ·have z2:=un.frzs b ob _ z;obtain⟨e1,_⟩:=hok b _ z;obtain⟨e2,_⟩:=hok' b _ z2;rw[e]at e1;cases e1;exact e2
 cases hk:K.lookup a with
 |some o=>
  -- the script is one of the module's own objects
  have e:=KX a o hk;rw[ha]at e;cases e;refine core (fun _=>Ae) (fun _=>.inl rfl) (.inr ⟨_,vs.toArray,_,hk,rfl,rfl,rfl,by rw[AO,lenV];exact hl,by simpa using rv⟩) (fun b u z=>by have z':(Ae:Am HO)=Aa u:=z;cases z') (fun b z=>absurd rfl z) fun z=>absurd rfl z
 |none=>
  refine core (fun b=>if b=a then Aa (.frz { cls:=.type "list", data:=.seq vs.toArray } (.lst (ns.map V.int))) else Ae) (fun b=>?_) (.inl (.inr ⟨{ cls:=.type "list", data:=.seq vs.toArray },AF rfl⟩)) (fun b u z=>?_) (fun b z=>?_) fun _=>hk
  ·by_cases hb:b=a
   ·exact .inr ⟨_,_,AF hb⟩
   ·exact .inl (AM hb)
  ·by_cases hb:b=a
   ·have z':=(AF hb).symm.trans z;cases z';subst hb;exact⟨ha,by rw[Br];exact hl,vs,_,rv,ha⟩
   ·have z':=(AM hb).symm.trans z;cases z'
  ·by_cases hb:b=a
   ·exact hb
   ·exact absurd (AM hb) z
noncomputable abbrev KOf{K:Fg}{h:AB}(_:K.In h):Fg:=K
theorem walk_of{l:FL}{n:Af}{q:AK}{loose:Ad Aj}{XP:(Aj->Am Ai)->AB->Prop}{YP:AY->AB->Prop}{d:DefRec}{K:KY->Fg}{CX:AY->CXT}{sp:AY->Sp}(hn:l.most=Aa n)(hn2:n<=sizeLine)(hdf:d.params.defaults=[])(hr:Room k Hf)(hY:∀(w:AY)(h:AB),YP w h->(K w.params).In h)(F:∀(w:AY)(mg:Aj->Am Ai)(fa:Ak)(h:AB),(K w.params).In h->h.Ns AW mg->mg d.name=Aa (.ref fa) ->
   ∃ fd:BS,(∀(s:Aq)(u:Ai),F6 s fd ⟨[u],[]⟩ [(x,u)]) /\
    ∀ base:AB,(K w.params).In base->base.Ns AW mg->FnOk l.prog w (K w.params) mg base (CX w) k fa fd [x] (sp w))(hsp:∀(w:AY)(H:Hp)(a:Ak)(ns:Ad Ag),ns.length<=n->Ph H->SqL (K w.params) H a (ns.map V.int)->sp w [.ref a] H (fun v _=>v=.bl Ab) fun _ _ _=>AS)(hCX:∀(w:AY)(H:Hp)(s:Aq)(e:Ai)(s':Aq),CX w [] H s (fun _ _ _=>AS) e s'->AS):Vv q loose XP YP l.row.toRowW d [] (fun f vs=>JS f vs):=by
 refine Att.attach_call hn hdf fun w s₀ s₁ mg mb fa o pm cd doc a vs ns G Y ho hd hcd hmg hobj hints hlen hg=>?_
 have KX:=hY w _ Y;obtain⟨fd,hb,hF⟩:=F w mg fa _ KX G.T.g hmg;exact W1 KX G.T.g G.T.b G.T.builtins G.T.nolimit hg hobj hints (BR hlen hn2) hr hF hb (fun H hO hS=>hsp w H a ns hlen hO hS) fun H e s'=>hCX w H s₁ e s'
end L2
/- THE LAST THEOREM (shape;LID,My.* are yours):
   My.Adr: a structure of the addresses that your layer names (classes,functions);My.Txt K t: a structure (Prop) of the equations over K;
   My.txt_mk:{K} {implicit addresses ..} (e1:nsIn K AW "law" = Aa (Aa (.ref f))) (e2:K.lookup f=Aa ⟨oc,od,.func (fnOf "law" "law" params body scope dV kV doc pm an cdv ct),sl⟩) (e3:codeIn K cdv "law" = Ab) ..:∃ t,My.Txt K t
set_option maxRecDepth 100000 in
set_option maxHeartbeats 0 in
theorem PySem.Challenge.cw_LID_holds:PySem.Challenge.rw_LID.Holds:=by
 w_on;o_law;k_head;(case hw=>w_witness2)
 k_fill
 refine L2.walk_of (l:=PySem.Challenge.rw_LID) (n:=63) (k:=40) (x := "script") (CX:=fun w=>..) (sp:=fun _=>My.sp_law) rfl (by decide) rfl ⟨rfl,by decide,by decide⟩ (fun w h Y=>Vx Y) ?F ?S ?C
 case F=>
  intro w mg fa h KX G hmg;have T:∃ t,My.Txt (L2.KOf KX) t:=by
   dsimp only[L2.KOf]                          -- K must stand as «<heap const> w.params» for k_is
   refine' My.txt_mk ?e1 ?e2 ?e3 ..
   (case e1=>PySem.W.k_is)                    -- in the order: a name -> its address -> its object -> its parts
   (case e2=>PySem.W.k_is)
   ..
  obtain⟨t,T⟩:=T;have e0:=hmg.symm.trans (BN KX G T.law);cases e0                                       -- fa is the law's own address
  exact⟨_,fun s u=>.of_eq rfl,fun base kb nb=>My.law_fn T kb nb⟩     -- if «.of_eq rfl» comes too early: refine' ⟨_,?b,fun base kb nb=>My.law_fn T kb nb⟩;exact fun s u=>.of_eq rfl
 case S=>exact fun w H a ns hl hO hS=>..
 case C=>exact ..
(the tactic k_is has no namespace: write k_is) -/
namespace L2
open PySem PySem.Spec PyProof.Rows
noncomputable def IX(s:A4):KN:=match s with
  |.FunctionDef _ a _ _ _ _ _ _ _ _=>a
  |_=>{posonlyargs:=[],args:=[],vararg:=Ae,kwonlyargs:=[],kw_defaults:=[],kwarg:=Ae,defaults:=[]}
noncomputable def Fx(s:A4):Ad A4:=match s with
  |.FunctionDef _ _ b _ _ _ _ _ _ _=>b
  |_=>[]
noncomputable def CA(s:A4):Cm:=match s with
  |.FunctionDef _ _ _ _ _ _ sc _ _ _=>sc
  |_=>{kind:=.function,names:=[],isGenerator:=Ac,isCoroutine:=Ac}
noncomputable abbrev CX0:CXT:=fun _ _ _ _ _ _=>AS
noncomputable abbrev E0:XK:=fun _ _ _=>AS
structure Fun (K:Fg) (x qual:Aj) (st:A4) (f:Ak) (fd:BS):Prop where
 ex:∃(oc:Ai)(od:Am Ak)(kV doc pm:Ai)(an:Am Ak)(cdv ct:Ai)(osl:AX (Am Ai)),
  fd=CN x qual (IX st) (Fx st) (CA st) .none kV doc pm an cdv ct/\K.lookup f=Aa ⟨oc,od,.func fd,osl⟩/\Ey K cdv qual=Ab
 kp:Ca K (.ref f)=Ab
section
variable{P:AK}{w:AY}{K:Fg}{mg:Aj->Am Ai}{base:AB}
theorem Fun.ok{x qual:Aj}{st:A4}{f:Ak}{fd:BS}{N ps:Ad Aj}{k:Af}{sp:Sp}(F:Fun K x qual st f fd)(S:FnScope N ps (CA st))(len:∀ vs H Q E,sp vs H Q E->vs.length=ps.length)(hbody:∀(cdv:Ai)(A:AV)(outer:Ad Ch)(s:Aq)(H:Hp)(vs:Ad V)(Q:VK)(E:XK),Room k (A.deeper (Eu qual (CA st) s.heap.objs.size f cdv))->sp vs H Q E ->
   ∃ t,PSs (EB CX0 P w K mg base N qual (CA st) f cdv A outer s H E).nox (Fx st) t/\t {nx:=fun _ H'=>Q .non H',rt:=Q} (start N vs) H):FnOk P w K mg base CX0 (k+1) f fd ps sp:=by
 obtain⟨oc,od,kV,doc,pm,an,cdv,ct,osl,rfl,lk,hcd⟩:=F.ex;refine S5 lk hcd S len fun A outer s H vs Q E hr hsp=>?_
 obtain⟨t,h,q⟩:=hbody cdv A outer s H vs Q E hr hsp;exact⟨t,h.nox,q⟩
theorem Fun.binds{x qual:Aj}{st:A4}{f:Ak}{fd:BS}{ps:Ad Aj}(F:Fun K x qual st f fd)(h:∀(kV doc pm:Ai)(an:Am Ak)(cdv ct:Ai)(us:Ad Ai),us.length=ps.length->Jo (CN x qual (IX st) (Fx st) (CA st) .none kV doc pm an cdv ct) ⟨us,[]⟩=pure (ps.zip us)):FC K fd ps []:=by
 obtain⟨oc,od,kV,doc,pm,an,cdv,ct,osl,rfl,lk,hcd⟩:=F.ex;exact .all (h kV doc pm an cdv ct)
theorem Sg{x qual:Aj}{st:A4}{f:Ak}{oc:Ai}{od an:Am Ak}{osl:AX (Am Ai)}{kV doc pm cdv ct:Ai}(l:K.lookup f=Aa ⟨oc,od,.func (CN x qual (IX st) (Fx st) (CA st) .none kV doc pm an cdv ct),osl⟩)(c:Ey K cdv qual=Ab)(k:Ca K (.ref f)=Ab):Fun K x qual st f (CN x qual (IX st) (Fx st) (CA st) .none kV doc pm an cdv ct):=⟨⟨oc,od,kV,doc,pm,an,cdv,ct,osl,rfl,l,c⟩,k⟩
end
section
variable{X:Cx}
end
def AE(H H':Hp):Prop:=∀ b o,H b=Aa o->H' b=Aa o
theorem AE.refl(H:Hp):AE H H:=fun _ _ h=>h
theorem AE.trans{H H1 H2:Hp}(a:AE H H1)(b:AE H1 H2):AE H H2:=fun c o h=>b c o (a c o h)
theorem AE.free{H H':Hp}(e:AE H H'){l:Ak}(h:H' l=Ae):H l=Ae:=by
 cases q:H l with
 |none=>rfl
 |some o=>
  rw[e l o q]at h;cases h
end L2
section
namespace Ov
open PySem
variable{α β:Type}
inductive D where
 |non|bl (b:An)|int (i:Ag)|str (x:Aj)|tup (ds:Ad D)|lst (ds:Ad D)
 |obj (c:Af) (fs:Ad (Aj×D))|exc (c:Af) (fs:Ad (Aj×D))|dic (kvs:Ad (Ad Ag×D))
 deriving Inhabited
structure Ex where
 c:Af
 fs:Ad (Aj×D)
 deriving Inhabited
inductive R (α:Type) where
 |ok (a:α)|exn (x:Ex)|bad
 deriving Inhabited
noncomputable def R.bind{α β:Type}(r:R α)(f:α->R β):R β:=match r with
  |.ok a=>f a
  |.exn x=>.exn x
  |.bad=>.bad
@[simp]theorem R.bind_ok(a:α)(f:α->R β):(R.ok a).bind f=f a:=rfl
@[simp]theorem R.bind_exn(x:Ex)(f:α->R β):(R.exn x:R α).bind f=.exn x:=rfl
@[simp]theorem R.bind_bad(f:α->R β):(R.bad:R α).bind f=.bad:=rfl
theorem R.bind_assoc{γ:Type}(r:R α)(f:α->R β)(g:β->R γ):(r.bind f).bind g=r.bind fun a=>(f a).bind g:=by cases r<;>rfl
noncomputable def Ec(n:Af):An:=C9 n 1000000
noncomputable def CP(i j:Ag):An:=(decide (-(18446744073709551616:Ag)<i)&&decide (i<18446744073709551616))||(decide (-(18446744073709551616:Ag)<j)&&decide (j<18446744073709551616))
noncomputable def GI(i j:Ag):An:=decide (i.natAbs<2 ^ 2000)&&decide (j.natAbs<2 ^ 2000)
noncomputable def CS:Hq->D->D->R D
 |.Add,.int i,.int j=>.ok (.int (i+j))
 |.Sub,.int i,.int j=>.ok (.int (i-j))
 |.Mult,.int i,.int j=>if (CP i j||GI i j)=Ab then .ok (.int (i*j)) else .bad
 |.FloorDiv,.int i,.int j=>if 0<j/\j<1073741824 then .ok (.int (i / j)) else .bad
 |.Mod,.int i,.int j=>if 0<j then .ok (.int (i%j)) else .bad
 |.Pow,.int i,.int j=>if (0<=j/\j<=1000000)/\(-(18446744073709551616:Ag)<i/\i<18446744073709551616) then .ok (.int (i ^ j.toNat)) else .bad
 |.Add,.str x,.str y=>if Ec (x.length+y.length)=Ab then .ok (.str (x++y)) else .bad
 |.Add,.lst x,.lst y=>if Ec (x.length+y.length)=Ab then .ok (.lst (x++y)) else .bad
 |.Add,.tup x,.tup y=>if (!x.isEmpty&&Ec (x.length+y.length))=Ab then .ok (.tup (x++y)) else .bad
 |_,_,_=>.bad
noncomputable def unD:UnaryOp->D->R D
 |.USub,.int i=>.ok (.int (-i))
 |_,_=>.bad
noncomputable def b2i(b:An):Ag:=if b=Ab then 1 else 0
mutual
noncomputable def eqD:D->D->An
 |.non,.non=>Ab
 |.bl a,.bl b=>a==b
 |.bl a,.int j=>b2i a==j
 |.int i,.bl b=>i==b2i b
 |.int i,.int j=>i==j
 |.str x,.str y=>x==y
 |.tup xs,.tup ys=>eqDs xs ys
 |.lst xs,.lst ys=>eqDs xs ys
 |_,_=>Ac
noncomputable def eqDs:Ad D->Ad D->An
 |[],[]=>Ab
 |x::xs,y::ys=>eqD x y&&eqDs xs ys
 |_,_=>Ac
end
noncomputable def flD:Af->D->An
 |_,.non=>Ab
 |_,.bl _=>Ab
 |_,.int _=>Ab
 |_,.str _=>Ab
 |n+1,.tup xs=>xs.all (flD n)
 |n+1,.lst xs=>xs.all (flD n)
 |_,_=>Ac
noncomputable def Jg:D->Am (Ad Ag)
 |.tup ds=>keyDs ds
 |_=>Ae
where keyDs:Ad D->Am (Ad Ag)
 |[]=>Aa []
 |.int i::r=>(keyDs r).map (i :: ·)
 |_=>Ae
noncomputable def ltD:Af->D->D->An
 |0,.int i,.int j=>decide (i<j)
 |n+1,.tup xs,.tup ys=>ltDs (ltD n) xs ys
 |_,_,_=>Ac
where ltDs (lt:D->D->An):Ad D->Ad D->An
 |[],[]=>Ac
 |[],_::_=>Ab
 |_::_,[]=>Ac
 |x::xs,y::ys=>if eqD x y=Ab then ltDs lt xs ys else lt x y
noncomputable def rkD:Af->D->An
 |0,.int _=>Ab
 |n+1,.tup xs=>xs.all (rkD n)
 |_,_=>Ac
noncomputable def T4(lt:D->D->An)(x:D):Ad D->Ad D
 |[]=>[x]
 |y::ys=>if lt y x=Ab then y::T4 lt x ys else x::y::ys
noncomputable def SD(lt:D->D->An):Ad D->Ad D
 |[]=>[]
 |x::xs=>T4 lt x (SD lt xs)
noncomputable def Tj:Ad D->An
 |[]=>Ab
 |x::xs=>xs.all (fun y=>!eqD x y)&&Tj xs
noncomputable def TV:Ad D->An
 |[]=>Ab
 |[_]=>Ab
 |x::y::r=>ltD 1 x y&&TV (y::r)
noncomputable def QR(xs:Ad D):R (Ad D):=if (xs.all (fun d=>rkD 1 d && !eqD d (.tup []))&&Tj xs&&(decide (xs.length<64)||(TV xs&&decide (xs.length<=1000))))=Ab then .ok (SD (ltD 1) xs) else .bad
noncomputable def BK:Eh->D->D->R D
  |.Eq,x,y=>if (flD 5 x&&flD 5 y)=Ab then .ok (.bl (eqD x y)) else .bad
  |.NotEq,x,y=>if (flD 5 x&&flD 5 y)=Ab then .ok (.bl (!eqD x y)) else .bad
  |.Lt,.int i,.int j=>.ok (.bl (decide (i<j)))
  |.LtE,.int i,.int j=>.ok (.bl (decide (i<=j)))
  |.Gt,.int i,.int j=>.ok (.bl (decide (j<i)))
  |.GtE,.int i,.int j=>.ok (.bl (decide (j<=i)))
  |.In,x,.lst ys=>if (flD 5 x&&ys.all (flD 5))=Ab then .ok (.bl (ys.any fun y=>eqD y x)) else .bad
  |.In,x,.dic kvs=>match Jg x with
    |some k=>.ok (.bl (kvs.any fun p=>p.1==k))
    |none=>.bad
  |.In,x,.tup ys=>if (flD 5 x&&ys.all (flD 5))=Ab then .ok (.bl (ys.any fun y=>eqD y x)) else .bad
  |.NotIn,x,.lst ys=>if (flD 5 x&&ys.all (flD 5))=Ab then .ok (.bl (!ys.any fun y=>eqD y x)) else .bad
  |.NotIn,x,.tup ys=>if (flD 5 x&&ys.all (flD 5))=Ab then .ok (.bl (!ys.any fun y=>eqD y x)) else .bad
  |.Is,.non,.non=>.ok (.bl Ab)
  |.Is,.bl _,.non=>.ok (.bl Ac)
  |.Is,.int _,.non=>.ok (.bl Ac)
  |.Is,.str _,.non=>.ok (.bl Ac)
  |.Is,.tup _,.non=>.ok (.bl Ac)
  |.Is,.lst _,.non=>.ok (.bl Ac)
  |.Is,.obj _ _,.non=>.ok (.bl Ac)
  |.Is,.bl a,.bl b=>.ok (.bl (a==b))
  |.IsNot,.bl a,.bl b=>.ok (.bl (!(a==b)))
  |.IsNot,.non,.non=>.ok (.bl Ac)
  |.IsNot,.bl _,.non=>.ok (.bl Ab)
  |.IsNot,.int _,.non=>.ok (.bl Ab)
  |.IsNot,.str _,.non=>.ok (.bl Ab)
  |.IsNot,.tup _,.non=>.ok (.bl Ab)
  |.IsNot,.lst _,.non=>.ok (.bl Ab)
  |.IsNot,.obj _ _,.non=>.ok (.bl Ab)
  |_,_,_=>.bad
noncomputable def BB:D->R An
 |.non=>.ok Ac
 |.bl b=>.ok b
 |.int i=>.ok (i != 0)
 |.str x=>if Ec x.length=Ab then .ok (x.length != 0) else .bad
 |.tup xs=>.ok (!xs.isEmpty)
 |.lst xs=>.ok (!xs.isEmpty)
 |_=>.bad
noncomputable def plD(n:Af)(i:Ag):Am Af:=if 0<=i then (if i<n then Aa i.toNat else Ae) else if -(n:Ag)<=i then Aa (i+n).toNat else Ae
noncomputable def DB(xs:Ad D)(i:Ag):R D:=match plD xs.length i with
  |some k=>match xs[k]? with
    |some d=>.ok d
    |none=>.bad
  |none=>.bad
noncomputable def eX(kvs:Ad (Ad Ag×D))(k:Ad Ag):Am D:=(kvs.find? fun p=>p.1==k).map (·.2)
noncomputable def Sj(kvs:Ad (Ad Ag×D))(k:Ad Ag)(v:D):Ad (Ad Ag×D):=if (kvs.any fun p=>p.1==k)=Ab then kvs.map (fun p=>if (p.1==k)=Ab then (k,v) else p) else kvs++[(k,v)]
noncomputable def DA:D->D->R D
  |.lst xs,.int i=>DB xs i
  |.tup xs,.int i=>DB xs i
  |.dic kvs,k=>match (Jg k).bind (eX kvs) with
    |some d=>.ok d
    |none=>.bad
  |_,_=>.bad
noncomputable def EG:D->R Ag
 |.int i=>.ok i
 |_=>.bad
noncomputable def Dr:D->R An
 |.bl b=>.ok b
 |_=>.bad
noncomputable def Cw:D->R (Ad D)
 |.lst xs=>.ok xs
 |.tup xs=>.ok xs
 |_=>.bad
noncomputable def OW:D->R (Ad D)
 |.lst xs=>.ok xs
 |_=>.bad
inductive BI where
 |len|abs|max|min|int|list|tuple|all|any|sum|sorted|str|count|stp|lset|tmin|tmax|tlt|rvs
 deriving DecidableEq,Inhabited
inductive Ki where
 |int|bool|str|list|tuple|verr|cls (c:Af)
 deriving DecidableEq,Inhabited
mutual
inductive E where
 |non|bl (b:An)|int (i:Ag)|str (x:Aj)
 |var (i:Af)|glob (g:Af)
 |bin (op:Hq) (a b:E)|un (op:UnaryOp) (a:E)|no (a:E)
 |and (es:Es)|or (es:Es)
 |cmp (op:Eh) (a b:E)|cmp2 (op op':Eh) (a b c:E)
 |ite (c a b:E)
 |call (f:Af) (as:Es)|bi (b:BI) (as:Es)
 |isi (a:E) (ks:Ad Ki)
 |idx (a i:E)|sl (a lo hi:E)
 |tup (es:Es)|lst (es:Es)
 |comp (elt:E) (t:Af) (it:I) (c:E)|compT (elt:E) (ts:Ad Af) (it:I) (c:E)|tupI (it:I)|dnew
 |fld (o:E) (f:Aj)
inductive Es where
 |nil|cons (e:E) (es:Es)
inductive I where
 |e (a:E)|rng (a:E)|rng2 (a b:E)|zip (a b:E)|zip3 (a b c:E)|enm (a:E)
end
abbrev Sl:=Am (D×An)
abbrev Rho:=Ad Sl
structure Gam where
 F:Af->Ad D->R D
 G:Af->D
 up:Af->Ad Af
 /-- the defs whose answer is a new list -/
 fr:Af->An
 /-- what is raised: the class,what it is made of -/
 xn:Af->Ad D->R Ex
noncomputable def F0(lo:Ag)(n:Af):Ad D:=(A5 n).map fun(k:Af)=>D.int (lo+(k:Ag))
noncomputable def DJ(lo hi:Ag):R (Ad D):=if (-(4611686018427387904:Ag)<=lo/\lo<4611686018427387904)/\(-(4611686018427387904:Ag)<=hi/\hi<4611686018427387904)/\hi-lo<1000000 then .ok (F0 lo (hi-lo).toNat) else .bad
noncomputable def kiD(up:Af->Ad Af):Ki->D->An
 |.int,.int _=>Ab
 |.int,.bl _=>Ab
 |.bool,.bl _=>Ab
 |.str,.str _=>Ab
 |.list,.lst _=>Ab
 |.tuple,.tup _=>Ab
 |.cls c,.obj k _=>(up k).contains c
 |.cls c,.exc k _=>(up k).contains c
 |.verr,.exc _ _=>Ab
 |_,_=>Ac
noncomputable def DK:Ki->An
 |.cls _=>Ab
 |.verr=>Ab
 |_=>Ac
noncomputable def Ed(up:Af->Ad Af)(ks:Ad Ki)(x:D):R D:=match x with
  |.obj _ _=>.bad
  |.exc _ _=>if ks.all DK=Ab then .ok (.bl (ks.any fun k=>kiD up k x)) else .bad
  |.dic _=>.bad
  |_=>if ks.any DK=Ab then .bad else .ok (.bl (ks.any fun k=>kiD up k x))
noncomputable def Gs:D->R An
 |.non=>.ok Ac
 |.bl b=>.ok b
 |.int i=>.ok (i != 0)
 |_=>.bad
noncomputable def G6:Ad D->R An
 |[]=>.ok Ab
 |x::r=>(Gs x).bind fun b=>(G6 r).bind fun c=>.ok (b&&c)
noncomputable def Ja:Ad D->R An
 |[]=>.ok Ac
 |x::r=>(Gs x).bind fun b=>(Ja r).bind fun c=>.ok (b||c)
noncomputable def Lv:Ag->Ad D->R Ag
 |a,[]=>.ok a
 |a,.int i::r=>Lv (a+i) r
 |_,_=>.bad
noncomputable def FD:Ad D->Ad D->Ad D
 |x::xs,y::ys=>.tup [x,y]::FD xs ys
 |_,_=>[]
noncomputable def OA:Ad D->Ad D->Ad D->Ad D
 |x::xs,y::ys,z::zs=>.tup [x,y,z]::OA xs ys zs
 |_,_,_=>[]
noncomputable def Kw(x y z:D):R (Ad D):=(Cw x).bind fun xs=>(Cw y).bind fun ys=>(Cw z).bind fun zs=>if 0<xs.length/\xs.length<=1000/\ys.length=xs.length/\zs.length=xs.length then .ok (OA xs ys zs) else .bad
noncomputable def FY:Ag->Ad D->Ad D
 |_,[]=>[]
 |i,x::xs=>.tup [.int i,x]::FY (i+1) xs
noncomputable def nlD:Af->D->An
 |_,.non=>Ab
 |_,.bl _=>Ab
 |_,.int _=>Ab
 |_,.str _=>Ab
 |n+1,.tup xs=>xs.all (nlD n)
 |_,_=>Ac
noncomputable def FH(fr:An):D->An
 |.lst ds=>fr&&ds.all (nlD 5)
 |d=>nlD 5 d
noncomputable def OM:Ad D->Am (Ad Ag)
 |[]=>Aa []
 |.int i::r=>(OM r).map (i :: ·)
 |_=>Ae
noncomputable def Tk(i:Ag):Ad Ag->Ag
 |[]=>i
 |j::r=>Tk (if j<i then j else i) r
noncomputable def pk2(k n:Af):Ad Af:=(A5 ((n-min k n+1) / 2)).map fun j=>min k n+2*j
noncomputable def Tt(k:Af)(xs:Ad D):Ad D:=(pk2 k xs.length).filterMap fun i=>xs[i]?
noncomputable def ddS(acc:Ad Ag)(x:Ag):Ad Ag:=if acc.any (· == x)=Ab then acc else acc++[x]
noncomputable def ddN(is:Ad Ag):Af:=(is.foldl ddS []).length
noncomputable def Tb(xs:Ad D):R D:=match OM xs with
  |some is=>if C9 is.length 4000=Ab then .ok (.int (ddN is)) else .bad
  |none=>.bad
noncomputable def mmD(mx:An)(x y:D):R D:=if [x,y].all (fun d=>rkD 1 d && !eqD d (.tup []))=Ab then .ok (if (if mx=Ab then ltD 1 x y else ltD 1 y x)=Ab then y else x) else .bad
noncomputable def To(x y:D):R D:=if [x,y].all (fun d=>rkD 1 d && !eqD d (.tup []))=Ab then .ok (.bl (ltD 1 x y)) else .bad
noncomputable def biD:BI->Ad D->R D
  |.len,[.lst xs]=>.ok (.int xs.length)
  |.len,[.tup xs]=>.ok (.int xs.length)
  |.len,[.str x]=>if Ec x.length=Ab then .ok (.int x.length) else .bad
  |.abs,[.int i]=>.ok (.int (if i<0 then -i else i))
  |.max,[.int i,.int j]=>.ok (.int (if i<j then j else i))
  |.min,[.int i,.int j]=>.ok (.int (if j<i then j else i))
  |.min,[.lst xs]=>match OM xs with
    |some (i::is)=>.ok (.int (Tk i is))
    |_=>.bad
  |.int,[.int i]=>.ok (.int i)
  |.int,[.bl b]=>.ok (.int (b2i b))
  |.list,[.lst xs]=>.ok (.lst xs)
  |.list,[.tup xs]=>.ok (.lst xs)
  |.tuple,[.lst xs]=>.ok (.tup xs)
  |.tuple,[.tup xs]=>.ok (.tup xs)
  |.all,[.lst xs]=>(G6 xs).bind fun b=>.ok (.bl b)
  |.any,[.lst xs]=>(Ja xs).bind fun b=>.ok (.bl b)
  |.any,[.tup xs]=>(Ja xs).bind fun b=>.ok (.bl b)
  |.sum,[.lst xs]=>(Lv 0 xs).bind fun i=>.ok (.int i)
  |.sum,[.tup xs]=>(Lv 0 xs).bind fun i=>.ok (.int i)
  |.sorted,[.lst xs]=>(QR xs).bind fun ys=>.ok (.lst ys)
  |.count,[.lst xs,x]=>if (flD 5 x&&xs.all (flD 5))=Ab then .ok (.int ((xs.filter fun y=>eqD y x).length:Af)) else .bad
  |.len,[.dic kvs]=>.ok (.int kvs.length)
  |.stp,[.lst xs,.int k]=>.ok (.lst (Tt k.toNat xs))
  |.lset,[.lst xs]=>Tb xs
  |.tmin,[x,y]=>mmD Ac x y
  |.tmax,[x,y]=>mmD Ab x y
  |.tlt,[x,y]=>To x y
  |.rvs,[.lst xs]=>.ok (.lst xs.reverse)
  |_,_=>.bad
noncomputable def slE(c:E)(d:D):R (Am Ag):=match c with
  |.non=>.ok Ae
  |_=>(EG d).bind fun i=>.ok (Aa i)
noncomputable def Iw(n d:Af):Am Ag->Af
 |none=>d
 |some i=>if i<0 then (i+n).toNat else min i.toNat n
noncomputable def KJ(xs:Ad D)(lo hi:Am Ag):Ad D:=(xs.drop (Iw xs.length 0 lo)).take (Iw xs.length xs.length hi-Iw xs.length 0 lo)
noncomputable def slD:D->Am Ag->Am Ag->R D
 |.lst xs,l,h=>.ok (.lst (KJ xs l h))
 |.tup xs,l,h=>if (Iw xs.length 0 l==0&&Iw xs.length xs.length h==xs.length)=Ab then .bad else .ok (.tup (KJ xs l h))
 |_,_,_=>.bad
noncomputable def Ly:D->Aj->R D
  |.exc _ fs,f=>match fs.lookup f with
    |some d=>.ok d
    |none=>.bad
  |_,_=>.bad
noncomputable def FE(ρ:Rho)(i:Af):R D:=match ρ[i]? with
  |some (Aa (d,Ac))=>.ok d
  |_=>.bad
noncomputable def BF(ρ:Rho)(i:Af):R D:=match ρ[i]? with
  |some (Aa (d,_))=>.ok d
  |_=>.bad
noncomputable def shE(ρ:Rho):E->An
  | .var i=>(match ρ[i]? with
    |some (Aa (_,Ab))=>Ac
    | _=>Ab)
  |_=>Ab
noncomputable def HA(ρ:Rho):Es->An
 |.nil=>Ab
 |.cons e es=>shE ρ e&&HA ρ es
noncomputable def EE:Ad Af->Ad D->Rho->Am Rho
 |[],[],ρ=>Aa ρ
 |t::ts,d::ds,ρ=>EE ts ds (ρ.set t (Aa (d,Ac)))
 |_,_,_=>Ae
noncomputable def GH(ts:Ad Af)(d:D)(ρ:Rho):R Rho:=match d with
  | .tup xs=>(match EE ts xs ρ with
    |some ρ'=>.ok ρ'
    | none=>.bad)
  |_=>.bad
noncomputable def IZ(ts:Ad Af)(d:D)(ρ:Rho):R Rho:=match d with
  | .lst xs=>(match EE ts xs ρ with
    |some ρ'=>.ok ρ'
    | none=>.bad)
  |d=>GH ts d ρ
noncomputable def BV(g:D->R An)(f:D->R D):Ad D->R (Ad D)
 |[]=>.ok []
 |x::xs=>(g x).bind fun b=>if b=Ab then (f x).bind fun y=>(BV g f xs).bind fun ys=>.ok (y::ys) else BV g f xs
noncomputable def noX{α:Type}:R α->R α
 |.ok a=>.ok a
 |_=>.bad
noncomputable def top(ρ:Rho)(e:E)(r:R D):R D:=match e with
  |.var i=>BF ρ i
  |_=>r
mutual
noncomputable def evE(Γ:Gam)(ρ:Rho):E->R D
 |.non=>.ok .non
 |.bl b=>.ok (.bl b)
 |.int i=>.ok (.int i)
 |.str x=>.ok (.str x)
 |.var i=>FE ρ i
 |.glob g=>.ok (Γ.G g)
 |.bin op a b=>(top ρ a (evE Γ ρ a)).bind fun x=>(top ρ b (evE Γ ρ b)).bind fun y=>CS op x y
 |.un op a=>(top ρ a (evE Γ ρ a)).bind fun x=>unD op x
 |.no a=>(top ρ a (evE Γ ρ a)).bind fun x=>(Dr x).bind fun b=>.ok (.bl (!b))
 |.and es=>evN Γ ρ es
 |.or es=>evO Γ ρ es
 |.cmp op a b=>(top ρ a (evE Γ ρ a)).bind fun x=>(top ρ b (evE Γ ρ b)).bind fun y=>BK op x y
 |.cmp2 op op' a b c=>(top ρ a (evE Γ ρ a)).bind fun x=>(top ρ b (evE Γ ρ b)).bind fun y=>(BK op x y).bind fun z=>(Dr z).bind fun k=>if k=Ab then (top ρ c (evE Γ ρ c)).bind fun u=>BK op' y u else .ok (.bl Ac)
 |.ite c a b=>(top ρ c (evE Γ ρ c)).bind fun x=>(BB x).bind fun k=>if k=Ab then evE Γ ρ a else evE Γ ρ b
 |.call f as=>(evB Γ ρ as).bind fun xs=>(Γ.F f xs).bind fun d=>if HA ρ as=Ab then .ok d else if FH (Γ.fr f) d=Ab then .ok d else .bad
 |.bi b as=>(evB Γ ρ as).bind fun xs=>biD b xs
 |.isi a ks=>(top ρ a (evE Γ ρ a)).bind fun x=>Ed Γ.up ks x
 |.idx a i=>(top ρ a (evE Γ ρ a)).bind fun x=>(top ρ i (evE Γ ρ i)).bind fun y=>DA x y
 |.sl a lo hi=>(top ρ a (evE Γ ρ a)).bind fun x=>(top ρ lo (evE Γ ρ lo)).bind fun l=>(slE lo l).bind fun l'=>(top ρ hi (evE Γ ρ hi)).bind fun h=>(slE hi h).bind fun h'=>slD x l' h'
 |.tup es=>(evA Γ ρ es).bind fun xs=>.ok (.tup xs)
 |.lst es=>(evA Γ ρ es).bind fun xs=>.ok (.lst xs)
 |.comp elt t it c=>(evI Γ ρ it).bind fun xs=>(noX (BV (fun x=>(top (ρ.set t (Aa (x,Ac))) c (evE Γ (ρ.set t (Aa (x,Ac))) c)).bind BB) (fun x=>evE Γ (ρ.set t (Aa (x,Ac))) elt) xs)).bind fun ys=>.ok (.lst ys)
 |.compT elt ts it c=>(evI Γ ρ it).bind fun xs=>(noX (BV (fun x=>(GH ts x ρ).bind fun ρ'=>(top ρ' c (evE Γ ρ' c)).bind BB) (fun x=>(GH ts x ρ).bind fun ρ'=>evE Γ ρ' elt) xs)).bind fun ys=>.ok (.lst ys)
 |.tupI it=>(evI Γ ρ it).bind fun xs=>.ok (.tup xs)
 |.dnew=>.ok (.dic [])
 |.fld o f=>(top ρ o (evE Γ ρ o)).bind fun x=>Ly x f
noncomputable def evN(Γ:Gam)(ρ:Rho):Es->R D
 |.nil=>.bad
 |.cons e .nil=>evE Γ ρ e
 |.cons e (.cons e' es)=>(evE Γ ρ e).bind fun x=>(Dr x).bind fun c=>if c=Ab then evN Γ ρ (.cons e' es) else .ok (.bl Ac)
noncomputable def evO(Γ:Gam)(ρ:Rho):Es->R D
 |.nil=>.bad
 |.cons e .nil=>evE Γ ρ e
 |.cons e (.cons e' es)=>(evE Γ ρ e).bind fun x=>(Dr x).bind fun c=>if c=Ab then .ok (.bl Ab) else evO Γ ρ (.cons e' es)
noncomputable def evA(Γ:Gam)(ρ:Rho):Es->R (Ad D)
 |.nil=>.ok []
 |.cons e es=>(evE Γ ρ e).bind fun x=>(evA Γ ρ es).bind fun xs=>.ok (x::xs)
noncomputable def evB(Γ:Gam)(ρ:Rho):Es->R (Ad D)
 |.nil=>.ok []
 |.cons e es=>(top ρ e (evE Γ ρ e)).bind fun x=>(evB Γ ρ es).bind fun xs=>.ok (x::xs)
noncomputable def evI(Γ:Gam)(ρ:Rho):I->R (Ad D)
 |.e a=>(evE Γ ρ a).bind Cw
 |.rng a=>(top ρ a (evE Γ ρ a)).bind fun x=>(EG x).bind fun j=>DJ 0 j
 |.rng2 a b=>(top ρ a (evE Γ ρ a)).bind fun x=>(top ρ b (evE Γ ρ b)).bind fun y=>(EG x).bind fun i=>(EG y).bind fun j=>DJ i j
 |.zip a b=>(evE Γ ρ a).bind fun x=>(evE Γ ρ b).bind fun y=>(Cw x).bind fun xs=>(Cw y).bind fun ys=>.ok (FD xs ys)
 |.zip3 a b c=>(evE Γ ρ a).bind fun x=>(evE Γ ρ b).bind fun y=>(evE Γ ρ c).bind fun z=>Kw x y z
 |.enm a=>(evE Γ ρ a).bind fun x=>(Cw x).bind fun xs=>.ok (FY 0 xs)
end
noncomputable def EY(Γ:Gam):E->An
 |.lst _=>Ab
 |.comp _ _ _ _=>Ab
 |.compT _ _ _ _=>Ab
 |.dnew=>Ab
 |.bin .Add _ _=>Ab
 |.bi .list _=>Ab
 |.bi .sorted _=>Ab
 |.sl _ _ _=>Ab
 |.call f _=>Γ.fr f
 |_=>Ac
mutual
inductive S where
 |pass
 /-- x=e;fresh: x alone holds the new list -/
 |asg (i:Af) (fresh:An) (e:E)
 /-- a,b,..=e -/
 |asgT (ts:Ad Af) (e:E)
 |expr (e:E)
 |ret (e:E)|retN
 |ife (c:E) (a b:Ss)
 |fors (t:Af) (it:I) (body:Ss)
 |forT (ts:Ad Af) (it:I) (body:Ss)
 |whl (c:E) (body:Ss)
 /-- raise C(e,..) -/
 |rais (c:Af) (as:Es)
 /-- try: body except C as x: h -/
 |tryx (body:Ss) (c:Af) (x:Af) (h:Ss)
 /-- .. except C as x: h,except C' as x: h',else: els -/
 |try2 (body:Ss) (c:Af) (x:Af) (h:Ss) (c':Af) (h' els:Ss)
 /-- x.append(e),x.extend(e),x.insert(k,e),x.reverse(),x.clear() -/
 |app (i:Af) (e:E)|ext (i:Af) (e:E)|ins (i:Af) (k e:E)|rev (i:Af)|clr (i:Af)
 /-- d[k]=e,d.setdefault(k,e) -/
 |dput (i:Af) (k e:E)|dsd (i:Af) (k e:E)
 /-- x[k]=e -/
 |put (i:Af) (k e:E)
 /-- x[k],x[l]=x[l],x[k] -/
 |swp (i k l:Af)
 /-- x.append(y.pop(e)) -/
 |apop (j i:Af) (e:E)
 |brk|cont
 /-- nothing: from here on x is no longer changed -/
 |rel (i:Af)
inductive Ss where
 |nil|cons (s:S) (ss:Ss)
end
inductive O where
 |next (ρ:Rho)|ret (d:D) (fr:An)|brk (ρ:Rho)|cont (ρ:Rho)|exn (x:Ex) (ρ:Rho)|bad
 deriving Inhabited
noncomputable def O.of{α:Type}(ρ:Rho)(r:R α)(f:α->O):O:=match r with
  |.ok a=>f a
  |.exn x=>.exn x ρ
  |.bad=>.bad
@[simp]theorem O.of_ok(ρ:Rho)(a:α)(f:α->O):O.of ρ (.ok a) f=f a:=rfl
@[simp]theorem O.of_exn(ρ:Rho)(x:Ex)(f:α->O):O.of ρ (.exn x:R α) f=.exn x ρ:=rfl
@[simp]theorem O.of_bad(ρ:Rho)(f:α->O):O.of ρ (.bad:R α) f=.bad:=rfl
noncomputable def FG(Γ:Gam)(ρ:Rho)(i:I):R (Ad D):=evI Γ ρ i
noncomputable def D6(ρ:Rho)(i:Af):R (Ad D):=match ρ[i]? with
  |some (Aa (.lst xs,Ab))=>.ok xs
  |_=>.bad
noncomputable def TB(ρ:Rho)(i:Af):R (Ad (Ad Ag×D)):=match ρ[i]? with
  |some (Aa (.dic xs,Ab))=>.ok xs
  |_=>.bad
noncomputable def Tf(d:D):R (Ad Ag):=match Jg d with
  |some k=>.ok k
  |none=>.bad
noncomputable def SY:Af:=4096
noncomputable def O.seq(o:O)(f:Rho->O):O:=match o with
  |.next ρ=>f ρ
  |.ret d b=>.ret d b
  |.brk ρ=>.brk ρ
  |.cont ρ=>.cont ρ
  |.exn x ρ=>.exn x ρ
  |.bad=>.bad
noncomputable def O.turn(o:O)(f:Rho->O):O:=match o with
  |.next ρ=>f ρ
  |.cont ρ=>f ρ
  |.brk ρ=>.next ρ
  |.ret d b=>.ret d b
  |.exn x ρ=>.exn x ρ
  |.bad=>.bad
noncomputable def Dq(body:D->Rho->O):Ad D->Rho->O
 |[],ρ=>.next ρ
 |x::xs,ρ=>(body x ρ).turn (Dq body xs)
noncomputable def O2(c:Rho->R An)(body:Rho->O):Af->Rho->O
 |0,_=>.bad
 |n+1,ρ=>O.of ρ (c ρ) fun b=>if b=Ab then (body ρ).turn (O2 c body n) else .next ρ
noncomputable def Te(ρ:Rho)(k:Af):R Ag:=(FE ρ k).bind EG
noncomputable def lW(ρ:Rho)(d:D)(i k l:Af):O:=match d with
  |.tup [x,y]=>O.of ρ (D6 ρ i) fun xs=>O.of ρ (Te ρ k) fun a=>O.of ρ (Te ρ l) fun b=>match plD xs.length a,plD xs.length b with
    |some m,Aa n=>.next (ρ.set i (Aa (.lst ((xs.set m x).set n y),Ab)))
    |_,_=>.bad
  |_=>.bad
noncomputable def apD(ρ:Rho)(j i:Af)(ys xs:Ad D)(n:Ag):O:=match plD xs.length n with
  | some m=>(match xs[m]? with
    |some d=>if (j != i&&(Ec xs.length&&Ec (ys.length+1)))=Ab then .next ((ρ.set i (Aa (.lst (xs.eraseIdx m),Ab))).set j (Aa (.lst (ys++[d]),Ab))) else .bad
    | none=>.bad)
  |none=>.bad
noncomputable def hdO(i:Af)(y:Ex)(ρ':Rho)(fh:Rho->O):O:=match fh (ρ'.set i (Aa (.exc y.c y.fs,Ac))) with
  |.next ρ''=>.next (ρ''.set i Ae)
  |.ret d f=>.ret d f
  |_=>.bad
mutual
noncomputable def evS(Γ:Gam)(ρ:Rho):S->O
  |.pass=>.next ρ
  | .asg i fresh e=>O.of ρ (evE Γ ρ e) fun d=>if fresh=Ab then (if EY Γ e=Ab then (match d with
      |.lst xs=>.next (ρ.set i (Aa (.lst xs,Ab)))
      |.dic xs=>.next (ρ.set i (Aa (.dic xs,Ab)))
      | _=>.bad) else .bad) else .next (ρ.set i (Aa (d,Ac)))
  |.asgT ts e=>O.of ρ (evE Γ ρ e) fun d=>O.of ρ (IZ ts d ρ) fun ρ'=>.next ρ'
  |.expr e=>O.of ρ (evE Γ ρ e) fun _=>.next ρ
  |.ret e=>O.of ρ (top ρ e (evE Γ ρ e)) fun d=>.ret d (EY Γ e||(match e with | .var i=>(match ρ[i]? with|some (Aa (_,o))=>o|_=>Ac)|_=>Ac))
  |.retN=>.ret .non Ac
  |.ife c a b=>O.of ρ ((top ρ c (evE Γ ρ c)).bind BB) fun k=>if k=Ab then evSs Γ ρ a else evSs Γ ρ b
  |.fors t it body=>O.of ρ (FG Γ ρ it) fun xs=>Dq (fun x ρ'=>evSs Γ (ρ'.set t (Aa (x,Ac))) body) xs ρ
  |.forT ts it body=>O.of ρ (FG Γ ρ it) fun xs=>Dq (fun x ρ'=>O.of ρ' (GH ts x ρ') fun ρ''=>evSs Γ ρ'' body) xs ρ
  |.whl c body=>O2 (fun ρ'=>(top ρ' c (evE Γ ρ' c)).bind BB) (fun ρ'=>evSs Γ ρ' body) SY ρ
  |.rais c as=>O.of ρ (noX (evA Γ ρ as)) fun xs=>O.of ρ (Γ.xn c xs) fun x=>.exn x ρ
  |.tryx body c x h=>match evSs Γ ρ body with
      | .exn y ρ'=>if (Γ.up y.c).contains c=Ab then (match evSs Γ (ρ'.set x (Aa (.exc y.c y.fs,Ac))) h with
          |.next ρ''=>.next (ρ''.set x Ae)
          |.ret d f=>.ret d f
          | _=>.bad) else .bad
      |o=>o
  |.try2 body c x h c' h' els=>match evSs Γ ρ body with
      |.exn y ρ'=>if (Γ.up y.c).contains c=Ab then hdO x y ρ' (fun r=>evSs Γ r h) else if (Γ.up y.c).contains c'=Ab then hdO x y ρ' (fun r=>evSs Γ r h') else .bad
      |.next ρ'=>evSs Γ ρ' els
      |o=>o
  |.app i e=>O.of ρ (D6 ρ i) fun xs=>O.of ρ (evE Γ ρ e) fun d=>if Ec (xs.length+1)=Ab then .next (ρ.set i (Aa (.lst (xs++[d]),Ab))) else .bad
  |.ext i e=>O.of ρ (D6 ρ i) fun xs=>O.of ρ (evE Γ ρ e) fun d=>O.of ρ (OW d) fun ys=>if Ec (xs.length+ys.length)=Ab then .next (ρ.set i (Aa (.lst (xs++ys),Ab))) else .bad
  |.ins i k e=>O.of ρ (D6 ρ i) fun xs=>O.of ρ ((top ρ k (evE Γ ρ k)).bind EG) fun j=>O.of ρ (evE Γ ρ e) fun d=>if (Ec (xs.length+1)&&decide (0<=j)&&decide (j<=xs.length))=Ab then .next (ρ.set i (Aa (.lst (xs.take j.toNat++d::xs.drop j.toNat),Ab))) else .bad
  |.rev i=>O.of ρ (D6 ρ i) fun xs=>.next (ρ.set i (Aa (.lst xs.reverse,Ab)))
  |.clr i=>O.of ρ (D6 ρ i) fun _=>.next (ρ.set i (Aa (.lst [],Ab)))
  |.dput i k e=>O.of ρ (evE Γ ρ e) fun d=>O.of ρ (TB ρ i) fun xs=>O.of ρ ((evE Γ ρ k).bind Tf) fun j=>if Ec (xs.length+1)=Ab then .next (ρ.set i (Aa (.dic (Sj xs j d),Ab))) else .bad
  |.dsd i k e=>O.of ρ (TB ρ i) fun xs=>O.of ρ ((evE Γ ρ k).bind Tf) fun j=>O.of ρ (evE Γ ρ e) fun d=>if Ec (xs.length+1)=Ab then .next (ρ.set i (Aa (.dic (if (xs.any fun p=>p.1==j)=Ab then xs else Sj xs j d),Ab))) else .bad
  |.put i k e=>O.of ρ (evE Γ ρ e) fun d=>O.of ρ (D6 ρ i) fun xs=>O.of ρ ((top ρ k (evE Γ ρ k)).bind EG) fun j=>match plD xs.length j with
      |some n=>.next (ρ.set i (Aa (.lst (xs.set n d),Ab)))
      |none=>.bad
  |.swp i k l=>O.of ρ (evE Γ ρ (.tup (.cons (.idx (.var i) (.var l)) (.cons (.idx (.var i) (.var k)) .nil)))) fun d=>lW ρ d i k l
  |.apop j i e=>O.of ρ (D6 ρ j) fun ys=>O.of ρ (D6 ρ i) fun xs=>O.of ρ (evE Γ ρ e) fun d=>O.of ρ (EG d) fun n=>apD ρ j i ys xs n
  |.brk=>.brk ρ
  |.cont=>.cont ρ
  |.rel i=>match ρ[i]? with
      |some (Aa (d,Ab))=>.next (ρ.set i (Aa (d,Ac)))
      |_=>.next ρ
noncomputable def evSs(Γ:Gam)(ρ:Rho):Ss->O
 |.nil=>.next ρ
 |.cons s ss=>(evS Γ ρ s).seq fun ρ'=>evSs Γ ρ' ss
end
structure Df where
 n:Af
 fr:An
 body:Ss
noncomputable def Bp(n:Af)(ds:Ad D):Rho:=ds.map (fun d=>Aa (d,Ac))++GA (n-ds.length) Ae
noncomputable def isL:D->An
 |.lst _=>Ab
 |.dic _=>Ab
 |_=>Ac
noncomputable def O.ans(fr:An)(o:O):R D:=match o with
  |.ret d b=>if (fr&&(!b&&isL d))=Ab then .bad else .ok d
  |.next _=>if fr=Ab then .bad else .ok .non
  |.exn x _=>.exn x
  |_=>.bad
noncomputable def Df.run(Γ:Gam)(f:Df)(ds:Ad D):R D:=(evSs Γ (Bp f.n ds) f.body).ans f.fr
structure Prg where
 xs:An
 defs:Af->Df
 G:Af->D
 up:Af->Ad Af
 xn:Af->Ad D->R Ex
noncomputable def Dk(xs:An)(r:R D):R D:=match xs with
  |true=>r
  |false=>noX r
noncomputable def gam(P:Prg):Af->Gam
 |0=>⟨fun _ _=>.bad,P.G,P.up,fun i=>(P.defs i).fr,P.xn⟩
 |n+1=>⟨fun i ds=>Dk P.xs ((P.defs i).run (gam P n) ds),P.G,P.up,fun i=>(P.defs i).fr,P.xn⟩
end Ov
end
section
namespace Ov
open PySem
variable{α:Type}{lo hi:Ag}{n:Af}{x:D}
section
variable(Γ:Gam)(ρ:Rho)
@[simp]theorem ZvE:evE Γ ρ .non=.ok .non:=rfl
@[simp]theorem Zxy(b):evE Γ ρ (.bl b)=.ok (.bl b):=rfl
@[simp]theorem ZvI(b):evE Γ ρ (.int b)=.ok (.int b):=rfl
@[simp]theorem ZvD(b):evE Γ ρ (.str b)=.ok (.str b):=rfl
@[simp]theorem ZvB(i):evE Γ ρ (.var i)=FE ρ i:=rfl
@[simp]theorem Zsr(i):evE Γ ρ (.glob i)=.ok (Γ.G i):=rfl
@[simp]theorem ZvL(op a b):evE Γ ρ (.bin op a b)=(top ρ a (evE Γ ρ a)).bind fun x=>(top ρ b (evE Γ ρ b)).bind fun y=>CS op x y:=rfl
@[simp]theorem Zxu(op a):evE Γ ρ (.un op a)=(top ρ a (evE Γ ρ a)).bind fun x=>unD op x:=rfl
@[simp]theorem Zxx(a):evE Γ ρ (.no a)=(top ρ a (evE Γ ρ a)).bind fun x=>(Dr x).bind fun b=>.ok (.bl (!b)):=rfl
@[simp]theorem ZvM(es):evE Γ ρ (.and es)=evN Γ ρ es:=rfl
@[simp]theorem Zxw(es):evE Γ ρ (.or es)=evO Γ ρ es:=rfl
@[simp]theorem Zvy(e):evN Γ ρ (.cons e .nil)=evE Γ ρ e:=rfl
@[simp]theorem Zsm(e e' es):evN Γ ρ (.cons e (.cons e' es))=(evE Γ ρ e).bind fun x=>(Dr x).bind fun c=>if c=Ab then evN Γ ρ (.cons e' es) else .ok (.bl Ac):=rfl
@[simp]theorem Zvx(e):evO Γ ρ (.cons e .nil)=evE Γ ρ e:=rfl
@[simp]theorem Zsl(e e' es):evO Γ ρ (.cons e (.cons e' es))=(evE Γ ρ e).bind fun x=>(Dr x).bind fun c=>if c=Ab then .ok (.bl Ab) else evO Γ ρ (.cons e' es):=rfl
@[simp]theorem ZQ(op a b):evE Γ ρ (.cmp op a b)=(top ρ a (evE Γ ρ a)).bind fun x=>(top ρ b (evE Γ ρ b)).bind fun y=>BK op x y:=rfl
@[simp]theorem Zsu(op op' a b c):evE Γ ρ (.cmp2 op op' a b c)=(top ρ a (evE Γ ρ a)).bind fun x=>(top ρ b (evE Γ ρ b)).bind fun y=>(BK op x y).bind fun z=>(Dr z).bind fun k=>if k=Ab then (top ρ c (evE Γ ρ c)).bind fun u=>BK op' y u else .ok (.bl Ac):=rfl
@[simp]theorem ZvG(c a b):evE Γ ρ (.ite c a b)=(top ρ c (evE Γ ρ c)).bind fun x=>(BB x).bind fun k=>if k=Ab then evE Γ ρ a else evE Γ ρ b:=rfl
@[simp]theorem Zsv(f as):evE Γ ρ (.call f as)=(evB Γ ρ as).bind fun xs=>(Γ.F f xs).bind fun d=>if HA ρ as=Ab then .ok d else if FH (Γ.fr f) d=Ab then .ok d else .bad:=rfl
@[simp]theorem Zxz(f as):evE Γ ρ (.bi f as)=(evB Γ ρ as).bind fun xs=>biD f xs:=rfl
@[simp]theorem ZvH(a ks):evE Γ ρ (.isi a ks)=(top ρ a (evE Γ ρ a)).bind fun x=>Ed Γ.up ks x:=rfl
@[simp]theorem ZvJ(a i):evE Γ ρ (.idx a i)=(top ρ a (evE Γ ρ a)).bind fun x=>(top ρ i (evE Γ ρ i)).bind fun y=>DA x y:=rfl
@[simp]theorem Zxv(a lo hi):evE Γ ρ (.sl a lo hi)=(top ρ a (evE Γ ρ a)).bind fun x=>(top ρ lo (evE Γ ρ lo)).bind fun l=>(slE lo l).bind fun l'=>(top ρ hi (evE Γ ρ hi)).bind fun h=>(slE hi h).bind fun h'=>slD x l' h':=rfl
@[simp]theorem ZvC(es):evE Γ ρ (.tup es)=(evA Γ ρ es).bind fun xs=>.ok (.tup xs):=rfl
@[simp]theorem ZvF(es):evE Γ ρ (.lst es)=(evA Γ ρ es).bind fun xs=>.ok (.lst xs):=rfl
noncomputable def cG(Γ:Gam)(ρ:Rho)(t:Af)(c:E):D->R An:=fun x=>(top (ρ.set t (Aa (x,Ac))) c (evE Γ (ρ.set t (Aa (x,Ac))) c)).bind BB
noncomputable def cF(Γ:Gam)(ρ:Rho)(t:Af)(elt:E):D->R D:=fun x=>evE Γ (ρ.set t (Aa (x,Ac))) elt
noncomputable def mkL(r:R (Ad D)):R D:=(noX r).bind fun ys=>.ok (.lst ys)
@[simp]theorem Zw3(ys):mkL (.ok ys)=.ok (.lst ys):=rfl
@[simp]theorem Zst(elt t it c):evE Γ ρ (.comp elt t it c)=(evI Γ ρ it).bind fun xs=>mkL (BV (cG Γ ρ t c) (cF Γ ρ t elt) xs):=rfl
noncomputable def cGT(Γ:Gam)(ρ:Rho)(ts:Ad Af)(c:E):D->R An:=fun x=>(GH ts x ρ).bind fun ρ'=>(top ρ' c (evE Γ ρ' c)).bind BB
noncomputable def cFT(Γ:Gam)(ρ:Rho)(ts:Ad Af)(elt:E):D->R D:=fun x=>(GH ts x ρ).bind fun ρ'=>evE Γ ρ' elt
@[simp]theorem ZqS(elt ts it c):evE Γ ρ (.compT elt ts it c)=(evI Γ ρ it).bind fun xs=>mkL (BV (cGT Γ ρ ts c) (cFT Γ ρ ts elt) xs):=rfl
@[simp]theorem Zsq(it):evE Γ ρ (.tupI it)=(evI Γ ρ it).bind fun xs=>.ok (.tup xs):=rfl
@[simp]theorem Zss:evE Γ ρ .dnew=.ok (.dic []):=rfl
@[simp]theorem ZvK(o f):evE Γ ρ (.fld o f)=(top ρ o (evE Γ ρ o)).bind fun x=>Ly x f:=rfl
@[simp]theorem ZvO:evA Γ ρ .nil=.ok []:=rfl
@[simp]theorem QC(e es):evA Γ ρ (.cons e es)=(evE Γ ρ e).bind fun x=>(evA Γ ρ es).bind fun xs=>.ok (x::xs):=rfl
@[simp]theorem ZvN:evB Γ ρ .nil=.ok []:=rfl
@[simp]theorem NT(e es):evB Γ ρ (.cons e es)=(top ρ e (evE Γ ρ e)).bind fun x=>(evB Γ ρ es).bind fun xs=>.ok (x::xs):=rfl
@[simp]theorem Zyv(a):evI Γ ρ (.e a)=(evE Γ ρ a).bind Cw:=rfl
@[simp]theorem ZP(a):evI Γ ρ (.rng a)=(top ρ a (evE Γ ρ a)).bind fun x=>(EG x).bind fun j=>DJ 0 j:=rfl
@[simp]theorem X5(a b):evI Γ ρ (.rng2 a b)=(top ρ a (evE Γ ρ a)).bind fun x=>(top ρ b (evE Γ ρ b)).bind fun y=>(EG x).bind fun i=>(EG y).bind fun j=>DJ i j:=rfl
@[simp]theorem Zvz(a b):evI Γ ρ (.zip a b)=(evE Γ ρ a).bind fun x=>(evE Γ ρ b).bind fun y=>(Cw x).bind fun xs=>(Cw y).bind fun ys=>.ok (FD xs ys):=rfl
@[simp]theorem Zsp(a b c):evI Γ ρ (.zip3 a b c)=(evE Γ ρ a).bind fun x=>(evE Γ ρ b).bind fun y=>(evE Γ ρ c).bind fun z=>Kw x y z:=rfl
@[simp]theorem ZvA(a):evI Γ ρ (.enm a)=(evE Γ ρ a).bind fun x=>(Cw x).bind fun xs=>.ok (FY 0 xs):=rfl
@[simp]theorem Zsn(a b):FG Γ ρ (.zip a b)=evI Γ ρ (.zip a b):=rfl
@[simp]theorem ZqR(a b c):FG Γ ρ (.zip3 a b c)=evI Γ ρ (.zip3 a b c):=rfl
@[simp]theorem Zso(a):FG Γ ρ (.enm a)=evI Γ ρ (.enm a):=rfl
@[simp]theorem Zxt(a):FG Γ ρ (.e a)=(evE Γ ρ a).bind Cw:=rfl
@[simp]theorem X4(a):FG Γ ρ (.rng a)=evI Γ ρ (.rng a):=rfl
@[simp]theorem WK(a b):FG Γ ρ (.rng2 a b)=evI Γ ρ (.rng2 a b):=rfl
variable(r:R D)
@[simp]theorem ZsT(i):top ρ (.var i) r=BF ρ i:=rfl
@[simp]theorem ZsW:top ρ .non r=r:=rfl
@[simp]theorem Zwz(b):top ρ (.bl b) r=r:=rfl
@[simp]theorem Zs0(b):top ρ (.int b) r=r:=rfl
@[simp]theorem ZsV(b):top ρ (.str b) r=r:=rfl
@[simp]theorem ZrJ(b):top ρ (.glob b) r=r:=rfl
@[simp]theorem Zs4(op a b):top ρ (.bin op a b) r=r:=rfl
@[simp]theorem Zwv(op a):top ρ (.un op a) r=r:=rfl
@[simp]theorem Zwy(a):top ρ (.no a) r=r:=rfl
@[simp]theorem Zs5(a):top ρ (.and a) r=r:=rfl
@[simp]theorem Zwx(a):top ρ (.or a) r=r:=rfl
@[simp]theorem Zs3(op a b):top ρ (.cmp op a b) r=r:=rfl
@[simp]theorem ZrM(op op' a b c):top ρ (.cmp2 op op' a b c) r=r:=rfl
@[simp]theorem ZsY(a b c):top ρ (.ite a b c) r=r:=rfl
@[simp]theorem ZrN(a b):top ρ (.call a b) r=r:=rfl
@[simp]theorem ZwA(a b):top ρ (.bi a b) r=r:=rfl
@[simp]theorem ZsZ(a b):top ρ (.isi a b) r=r:=rfl
@[simp]theorem Zs1(a b):top ρ (.idx a b) r=r:=rfl
@[simp]theorem Zww(a b c):top ρ (.sl a b c) r=r:=rfl
@[simp]theorem ZsU(a):top ρ (.tup a) r=r:=rfl
@[simp]theorem ZsX(a):top ρ (.lst a) r=r:=rfl
@[simp]theorem ZrL(a b c d):top ρ (.comp a b c d) r=r:=rfl
@[simp]theorem Zs2(a b):top ρ (.fld a b) r=r:=rfl
@[simp]theorem ZoS(a b c d):top ρ (.compT a b c d) r=r:=rfl
@[simp]theorem ZrI(a):top ρ (.tupI a) r=r:=rfl
@[simp]theorem ZrK:top ρ .dnew r=r:=rfl
end
@[simp]theorem ZoK(x:D×An)(ρ:Rho):BF (Aa x::ρ) 0=.ok x.1:=rfl
@[simp]theorem ZoL(x:D)(ρ:Rho):FE (Aa (x,Ac)::ρ) 0=.ok x:=rfl
@[simp]theorem Zoo(x:Sl)(ρ:Rho)(i:Af)[NeZero i]:BF (x::ρ) i=BF ρ (i-1):=by
 obtain⟨j,rfl⟩:∃ j,i=j+1:=⟨i-1,by have:=KM i;omega⟩
 rfl
@[simp]theorem Zop(x:Sl)(ρ:Rho)(i:Af)[NeZero i]:FE (x::ρ) i=FE ρ (i-1):=by
 obtain⟨j,rfl⟩:∃ j,i=j+1:=⟨i-1,by have:=KM i;omega⟩
 rfl
noncomputable def shV(ρ:Rho)(i:Af):An:=match ρ[i]? with
    |some (Aa (_,Ab))=>Ac
    |_=>Ab
@[simp]theorem ZrR(x:D)(b:An)(ρ:Rho):shV (Aa (x,b)::ρ) 0=!b:=by cases b<;>rfl
@[simp]theorem Zpf(ρ:Rho):shV (Ae::ρ) 0=Ab:=rfl
@[simp]theorem Zpg(x:Sl)(ρ:Rho)(i:Af)[NeZero i]:shV (x::ρ) i=shV ρ (i-1):=by
 obtain⟨j,rfl⟩:∃ j,i=j+1:=⟨i-1,by have:=KM i;omega⟩
 rfl
section
variable(ρ:Rho)
@[simp]theorem Ztq(i):shE ρ (.var i)=shV ρ i:=rfl
@[simp]theorem Ztt:shE ρ .non=Ab:=rfl
@[simp]theorem ZwQ(b):shE ρ (.bl b)=Ab:=rfl
@[simp]theorem Ztx(b):shE ρ (.int b)=Ab:=rfl
@[simp]theorem Zts(b):shE ρ (.str b)=Ab:=rfl
@[simp]theorem ZrU(b):shE ρ (.glob b)=Ab:=rfl
@[simp]theorem ZtB(op a b):shE ρ (.bin op a b)=Ab:=rfl
@[simp]theorem ZwM(op a):shE ρ (.un op a)=Ab:=rfl
@[simp]theorem ZwP(a):shE ρ (.no a)=Ab:=rfl
@[simp]theorem ZtC(a):shE ρ (.and a)=Ab:=rfl
@[simp]theorem ZwO(a):shE ρ (.or a)=Ab:=rfl
@[simp]theorem ZtA(op a b):shE ρ (.cmp op a b)=Ab:=rfl
@[simp]theorem ZrX(op op' a b c):shE ρ (.cmp2 op op' a b c)=Ab:=rfl
@[simp]theorem Ztv(a b c):shE ρ (.ite a b c)=Ab:=rfl
@[simp]theorem ZrY(a b):shE ρ (.call a b)=Ab:=rfl
@[simp]theorem ZwR(a b):shE ρ (.bi a b)=Ab:=rfl
@[simp]theorem Ztw(a b):shE ρ (.isi a b)=Ab:=rfl
@[simp]theorem Zty(a b):shE ρ (.idx a b)=Ab:=rfl
@[simp]theorem ZwN(a b c):shE ρ (.sl a b c)=Ab:=rfl
@[simp]theorem Ztr(a):shE ρ (.tup a)=Ab:=rfl
@[simp]theorem Ztu(a):shE ρ (.lst a)=Ab:=rfl
@[simp]theorem ZrW(a b c d):shE ρ (.comp a b c d)=Ab:=rfl
@[simp]theorem Zph(a b c d):shE ρ (.compT a b c d)=Ab:=rfl
@[simp]theorem ZrT(a):shE ρ (.tupI a)=Ab:=rfl
@[simp]theorem ZrV:shE ρ .dnew=Ab:=rfl
@[simp]theorem Ztz(a b):shE ρ (.fld a b)=Ab:=rfl
@[simp]theorem ZrS:HA ρ .nil=Ab:=rfl
@[simp]theorem We(e es):HA ρ (.cons e es)=(shE ρ e&&HA ρ es):=rfl
end
@[simp]theorem Zor(ρ:Rho):EE [] [] ρ=Aa ρ:=rfl
@[simp]theorem Zmi(t ts d ds)(ρ:Rho):EE (t::ts) (d::ds) ρ=EE ts ds (ρ.set t (Aa (d,Ac))):=rfl
@[simp]theorem Xr(ts ds)(ρ:Rho):IZ ts (.lst ds) ρ=match EE ts ds ρ with
  |some ρ'=>.ok ρ'
  |none=>.bad:=rfl
@[simp]theorem Zri(ts ds)(ρ:Rho):IZ ts (.tup ds) ρ=GH ts (.tup ds) ρ:=rfl
@[simp]theorem PJ(ts ds)(ρ:Rho):GH ts (.tup ds) ρ=match EE ts ds ρ with
  |some ρ'=>.ok ρ'
  |none=>.bad:=rfl
@[simp]theorem ZsD{β:Type}(c:Prop)[Fa c](a b:R α)(f:α->R β):(if c then a else b).bind f=if c then a.bind f else b.bind f:=by split<;>rfl
@[simp]theorem Zw1(ρ:Rho)(c:Prop)[Fa c](a b:R α)(f:α->O):O.of ρ (if c then a else b) f=if c then O.of ρ a f else O.of ρ b f:=by split<;>rfl
@[simp]theorem ZuJ{β:Type}(ρ:Rho)(a:R α)(g:α->R β)(f:β->O):O.of ρ (a.bind g) f=O.of ρ a fun x=>O.of ρ (g x) f:=by cases a<;>rfl
@[simp]theorem ZtE(c:Prop)[Fa c](a b:O)(f:Rho->O):O.seq (if c then a else b) f=if c then a.seq f else b.seq f:=by split<;>rfl
@[simp]theorem Zry(c:Prop)[Fa c](a b:O)(f:Rho->O):O.turn (if c then a else b) f=if c then a.turn f else b.turn f:=by split<;>rfl
@[simp]theorem Zwf(fr:An)(c:Prop)[Fa c](a b:O):O.ans fr (if c then a else b)=if c then a.ans fr else b.ans fr:=by split<;>rfl
@[simp]theorem ZrZ(ρ f):O.seq (.next ρ) f=f ρ:=rfl
@[simp]theorem ZtD(d b f):O.seq (.ret d b) f=.ret d b:=rfl
@[simp]theorem ZtG(ρ f):O.seq (.brk ρ) f=.brk ρ:=rfl
@[simp]theorem Zr0(ρ f):O.seq (.cont ρ) f=.cont ρ:=rfl
@[simp]theorem ZtF(x ρ f):O.seq (.exn x ρ) f=.exn x ρ:=rfl
@[simp]theorem ZtH(f):O.seq .bad f=.bad:=rfl
@[simp]theorem ZoN(ρ f):O.turn (.next ρ) f=f ρ:=rfl
@[simp]theorem Zrx(d b f):O.turn (.ret d b) f=.ret d b:=rfl
@[simp]theorem ZrA(ρ f):O.turn (.brk ρ) f=.next ρ:=rfl
@[simp]theorem ZoO(ρ f):O.turn (.cont ρ) f=f ρ:=rfl
@[simp]theorem Zrz(x ρ f):O.turn (.exn x ρ) f=.exn x ρ:=rfl
@[simp]theorem ZrB(f):O.turn .bad f=.bad:=rfl
@[simp]theorem ZsF(ρ):O.ans Ac (.next ρ)=.ok .non:=rfl
@[simp]theorem Zwe(d b):O.ans Ac (.ret d b)=.ok d:=rfl
@[simp]theorem ZsE(d b):O.ans Ab (.ret d b)=if (!b&&isL d)=Ab then .bad else .ok d:=rfl
@[simp]theorem Zu9(d):isL (.lst d)=Ab:=rfl
@[simp]theorem Zu8(d):isL (.tup d)=Ac:=rfl
@[simp]theorem Zva(d):isL (.int d)=Ac:=rfl
@[simp]theorem Zwg(fr x ρ):O.ans fr (.exn x ρ)=.exn x:=rfl
@[simp]theorem Zwh(fr):O.ans fr .bad=.bad:=rfl
@[simp]theorem ZxJ(i j:Ag):CS .Add (.int i) (.int j)=.ok (.int (i+j)):=rfl
@[simp]theorem ZwH(i j:Ag):CS .Sub (.int i) (.int j)=.ok (.int (i-j)):=rfl
@[simp]theorem fE(i j:Ag):CS .Mult (.int i) (.int j)=if (CP i j||GI i j)=Ab then .ok (.int (i*j)) else .bad:=rfl
@[simp]theorem aR(i j:Ag):CS .FloorDiv (.int i) (.int j)=if 0<j/\j<1073741824 then .ok (.int (i / j)) else .bad:=rfl
@[simp]theorem fF(i j:Ag):CS .Mod (.int i) (.int j)=if 0<j then .ok (.int (i%j)) else .bad:=rfl
@[simp]theorem cW(i j:Ag):CS .Pow (.int i) (.int j)=if (0<=j/\j<=1000000)/\(-(18446744073709551616:Ag)<i/\i<18446744073709551616) then .ok (.int (i ^ j.toNat)) else .bad:=rfl
@[simp]theorem gH(x y:Aj):CS .Add (.str x) (.str y)=if Ec (x.length+y.length)=Ab then .ok (.str (x++y)) else .bad:=rfl
@[simp]theorem Sv(x y:Ad D):CS .Add (.lst x) (.lst y)=if Ec (x.length+y.length)=Ab then .ok (.lst (x++y)) else .bad:=rfl
@[simp]theorem gG(x y:Ad D):CS .Add (.tup x) (.tup y)=if (!x.isEmpty&&Ec (x.length+y.length))=Ab then .ok (.tup (x++y)) else .bad:=rfl
@[simp]theorem Zya(i:Ag):unD .USub (.int i)=.ok (.int (-i)):=rfl
@[simp]theorem kY(x y:D):BK .Eq x y=if (flD 5 x&&flD 5 y)=Ab then .ok (.bl (eqD x y)) else .bad:=rfl
@[simp]theorem jJ(x y:D):BK .NotEq x y=if (flD 5 x&&flD 5 y)=Ab then .ok (.bl (!eqD x y)) else .bad:=rfl
@[simp]theorem Zyb(i j:Ag):BK .Lt (.int i) (.int j)=.ok (.bl (decide (i<j))):=rfl
@[simp]theorem Zyf(i j:Ag):BK .LtE (.int i) (.int j)=.ok (.bl (decide (i<=j))):=rfl
@[simp]theorem Zyp(i j:Ag):BK .Gt (.int i) (.int j)=.ok (.bl (decide (j<i))):=rfl
@[simp]theorem Zyq(i j:Ag):BK .GtE (.int i) (.int j)=.ok (.bl (decide (j<=i))):=rfl
@[simp]theorem nC(x:D)(ys:Ad D):BK .In x (.lst ys)=if (flD 5 x&&ys.all (flD 5))=Ab then .ok (.bl (ys.any fun y=>eqD y x)) else .bad:=rfl
@[simp]theorem nB(x:D)(ys:Ad D):BK .In x (.tup ys)=if (flD 5 x&&ys.all (flD 5))=Ab then .ok (.bl (ys.any fun y=>eqD y x)) else .bad:=rfl
@[simp]theorem jI(x:D)(ys:Ad D):BK .NotIn x (.lst ys)=if (flD 5 x&&ys.all (flD 5))=Ab then .ok (.bl (!ys.any fun y=>eqD y x)) else .bad:=rfl
@[simp]theorem jH(x:D)(ys:Ad D):BK .NotIn x (.tup ys)=if (flD 5 x&&ys.all (flD 5))=Ab then .ok (.bl (!ys.any fun y=>eqD y x)) else .bad:=rfl
@[simp]theorem Zxf:BK .Is .non .non=.ok (.bl Ab):=rfl
@[simp]theorem Zxh(i):BK .Is (.int i) .non=.ok (.bl Ac):=rfl
@[simp]theorem Zxe(i):BK .Is (.tup i) .non=.ok (.bl Ac):=rfl
@[simp]theorem Zxg(i):BK .Is (.lst i) .non=.ok (.bl Ac):=rfl
@[simp]theorem Zyi(a b):BK .Is (.bl a) (.bl b)=.ok (.bl (a==b)):=rfl
@[simp]theorem Zxc(a b):BK .IsNot (.bl a) (.bl b)=.ok (.bl (!(a==b))):=rfl
@[simp]theorem ZuY:BK .IsNot .non .non=.ok (.bl Ac):=rfl
@[simp]theorem Zu0(i):BK .IsNot (.int i) .non=.ok (.bl Ab):=rfl
@[simp]theorem ZuX(i):BK .IsNot (.tup i) .non=.ok (.bl Ab):=rfl
@[simp]theorem ZuZ(i):BK .IsNot (.lst i) .non=.ok (.bl Ab):=rfl
@[simp]theorem ZvU(i j:Ag):eqD (.int i) (.int j)=(i==j):=rfl
@[simp]theorem ZxA(i j:An):eqD (.bl i) (.bl j)=(i==j):=rfl
@[simp]theorem ZvR(i j:Aj):eqD (.str i) (.str j)=(i==j):=rfl
@[simp]theorem ZvQ(i j:Ad D):eqD (.tup i) (.tup j)=eqDs i j:=rfl
@[simp]theorem ZvT(i j:Ad D):eqD (.lst i) (.lst j)=eqDs i j:=rfl
@[simp]theorem ZvS:eqD .non .non=Ab:=rfl
@[simp]theorem ZnD(i):eqD .non (.int i)=Ac:=rfl
@[simp]theorem ZnE(i):eqD (.int i) .non=Ac:=rfl
@[simp]theorem Zsw:eqDs [] []=Ab:=rfl
@[simp]theorem Nw(x y:D)(xs ys:Ad D):eqDs (x::xs) (y::ys)=(eqD x y&&eqDs xs ys):=rfl
@[simp]theorem Zvn(n)(i:Ag):flD n (.int i)=Ab:=by cases n<;>rfl
@[simp]theorem Zxs(n)(i:An):flD n (.bl i)=Ab:=by cases n<;>rfl
@[simp]theorem Zvl(n)(i:Aj):flD n (.str i)=Ab:=by cases n<;>rfl
@[simp]theorem Zvm(n):flD n .non=Ab:=by cases n<;>rfl
@[simp]theorem Zr4(i):flD 5 (.tup i)=i.all (flD 4):=rfl
@[simp]theorem Zr9(i):flD 5 (.lst i)=i.all (flD 4):=rfl
@[simp]theorem Zr5(i):flD 4 (.tup i)=i.all (flD 3):=rfl
@[simp]theorem Zsa(i):flD 4 (.lst i)=i.all (flD 3):=rfl
@[simp]theorem Zr6(i):flD 3 (.tup i)=i.all (flD 2):=rfl
@[simp]theorem Zsb(i):flD 3 (.lst i)=i.all (flD 2):=rfl
@[simp]theorem Zr7(i):flD 2 (.tup i)=i.all (flD 1):=rfl
@[simp]theorem Zsc(i):flD 2 (.lst i)=i.all (flD 1):=rfl
@[simp]theorem Zr8(i):flD 1 (.tup i)=i.all (flD 0):=rfl
@[simp]theorem Zsd(i):flD 1 (.lst i)=i.all (flD 0):=rfl
@[simp]theorem ZsR(b):BB (.bl b)=.ok b:=rfl
@[simp]theorem ZrF(i):BB (.int i)=.ok (i != 0):=rfl
@[simp]theorem ZrE(i):BB (.lst i)=.ok (!i.isEmpty):=rfl
@[simp]theorem ZrC(i):BB (.tup i)=.ok (!i.isEmpty):=rfl
@[simp]theorem ZrD:BB .non=.ok Ac:=rfl
@[simp]theorem ZsS(b):Gs (.bl b)=.ok b:=rfl
@[simp]theorem ZrH(i):Gs (.int i)=.ok (i != 0):=rfl
@[simp]theorem ZrG:Gs .non=.ok Ac:=rfl
@[simp]theorem Zro:G6 []=.ok Ab:=rfl
@[simp]theorem Ni(x r):G6 (x::r)=(Gs x).bind fun b=>(G6 r).bind fun c=>.ok (b&&c):=rfl
@[simp]theorem Zrn:Ja []=.ok Ac:=rfl
@[simp]theorem ZoB(x r):Ja (x::r)=(Gs x).bind fun b=>(Ja r).bind fun c=>.ok (b||c):=rfl
@[simp]theorem Zv2(b)(d):Dk b (.ok d)=.ok d:=by cases b<;>rfl
@[simp]theorem Zsy(b):Dk b .bad=.bad:=by cases b<;>rfl
@[simp]theorem Zsx(x):Dk Ab (.exn x)=.exn x:=rfl
@[simp]theorem Zoy(r):Dk Ac r=noX r:=rfl
@[simp]theorem ZuK(a:α):noX (.ok a)=.ok a:=rfl
@[simp]theorem ZuM:noX (.bad:R α)=.bad:=rfl
@[simp]theorem ZuL(x):noX (.exn x:R α)=.bad:=rfl
@[simp]theorem Zwb(b):Dr (.bl b)=.ok b:=rfl
@[simp]theorem Nr(b):EG (.int b)=.ok b:=rfl
@[simp]theorem Zrl(b):OW (.lst b)=.ok b:=rfl
@[simp]theorem Zrk(b):Cw (.lst b)=.ok b:=rfl
@[simp]theorem Zrj(b):Cw (.tup b)=.ok b:=rfl
@[simp]theorem lG(xs i):DA (.lst xs) (.int i)=DB xs i:=rfl
@[simp]theorem lF(xs i):DA (.tup xs) (.int i)=DB xs i:=rfl
@[simp]theorem Zyd(xs):biD .len [.lst xs]=.ok (.int xs.length):=rfl
@[simp]theorem Zyc(xs):biD .len [.tup xs]=.ok (.int xs.length):=rfl
@[simp]theorem ZyC(i):biD .abs [.int i]=.ok (.int (if i<0 then -i else i)):=rfl
@[simp]theorem Zw6(i j):biD .max [.int i,.int j]=.ok (.int (if i<j then j else i)):=rfl
@[simp]theorem Zw4(i j):biD .min [.int i,.int j]=.ok (.int (if j<i then j else i)):=rfl
@[simp]theorem Zyj(i):biD .int [.int i]=.ok (.int i):=rfl
@[simp]theorem Zyk(i):biD .int [.bl i]=.ok (.int (b2i i)):=rfl
@[simp]theorem Zxb(i):biD .list [.lst i]=.ok (.lst i):=rfl
@[simp]theorem Zxa(i):biD .list [.tup i]=.ok (.lst i):=rfl
@[simp]theorem ZsQ(i):biD .tuple [.lst i]=.ok (.tup i):=rfl
@[simp]theorem ZsP(i):biD .tuple [.tup i]=.ok (.tup i):=rfl
@[simp]theorem lR(i):biD .all [.lst i]=(G6 i).bind fun b=>.ok (.bl b):=rfl
@[simp]theorem ZyB(i):biD .any [.lst i]=(Ja i).bind fun b=>.ok (.bl b):=rfl
@[simp]theorem ZyA(i):biD .any [.tup i]=(Ja i).bind fun b=>.ok (.bl b):=rfl
@[simp]theorem Zx2(i):biD .sum [.lst i]=(Lv 0 i).bind fun b=>.ok (.int b):=rfl
@[simp]theorem Zx1(i):biD .sum [.tup i]=(Lv 0 i).bind fun b=>.ok (.int b):=rfl
@[simp]theorem ZrP(i):biD .sorted [.lst i]=(QR i).bind fun b=>.ok (.lst b):=rfl
@[simp]theorem Zx3(xs k):biD .stp [.lst xs,.int k]=.ok (.lst (Tt k.toNat xs)):=rfl
@[simp]theorem Zx7(xs):biD .rvs [.lst xs]=.ok (.lst xs.reverse):=rfl
@[simp]theorem Zw8(xs):biD .lset [.lst xs]=Tb xs:=rfl
@[simp]theorem ZwB(x y):biD .tmin [x,y]=mmD Ac x y:=rfl
@[simp]theorem ZxO(x y):biD .tlt [x,y]=To x y:=rfl
@[simp]theorem ZwC(x y):biD .tmax [x,y]=mmD Ab x y:=rfl
@[simp]theorem Zv5(xs x):biD .count [.lst xs,x]=if (flD 5 x&&xs.all (flD 5))=Ab then .ok (.int ((xs.filter fun y=>eqD y x).length:Af)) else .bad:=rfl
@[simp]theorem lY(xs lo hi):slD (.tup xs) lo hi=if (Iw xs.length 0 lo==0&&Iw xs.length xs.length hi==xs.length)=Ab then .bad else .ok (.tup (KJ xs lo hi)):=rfl
@[simp]theorem ZyK(xs lo hi):slD (.lst xs) lo hi=.ok (.lst (KJ xs lo hi)):=rfl
@[simp]theorem Ztm(d):slE .non d=.ok Ae:=rfl
@[simp]theorem Ztn(k i):slE (.int k) (.int i)=.ok (Aa i):=rfl
@[simp]theorem Ztl(k i):slE (.var k) (.int i)=.ok (Aa i):=rfl
@[simp]theorem Zto(op a b i):slE (.bin op a b) (.int i)=.ok (Aa i):=rfl
@[simp]theorem ZwK(op a i):slE (.un op a) (.int i)=.ok (Aa i):=rfl
@[simp]theorem ZwL(b as i):slE (.bi b as) (.int i)=.ok (Aa i):=rfl
@[simp]theorem Zu3(up ks):Ed up ks .non=if ks.any DK=Ab then .bad else .ok (.bl (ks.any fun k=>kiD up k .non)):=rfl
@[simp]theorem Zxd(up ks b):Ed up ks (.bl b)=if ks.any DK=Ab then .bad else .ok (.bl (ks.any fun k=>kiD up k (.bl b))):=rfl
@[simp]theorem Zu5(up ks b):Ed up ks (.int b)=if ks.any DK=Ab then .bad else .ok (.bl (ks.any fun k=>kiD up k (.int b))):=rfl
@[simp]theorem Zu2(up ks b):Ed up ks (.str b)=if ks.any DK=Ab then .bad else .ok (.bl (ks.any fun k=>kiD up k (.str b))):=rfl
@[simp]theorem Zu1(up ks b):Ed up ks (.tup b)=if ks.any DK=Ab then .bad else .ok (.bl (ks.any fun k=>kiD up k (.tup b))):=rfl
@[simp]theorem Zu4(up ks b):Ed up ks (.lst b)=if ks.any DK=Ab then .bad else .ok (.bl (ks.any fun k=>kiD up k (.lst b))):=rfl
@[simp]theorem Zu6(up ks c f):Ed up ks (.exc c f)=if ks.all DK=Ab then .ok (.bl (ks.any fun k=>kiD up k (.exc c f))) else .bad:=rfl
@[simp]theorem ZsC(c):DK (.cls c)=Ab:=rfl
@[simp]theorem Zq1:DK .verr=Ab:=rfl
@[simp]theorem ZsB:DK .int=Ac:=rfl
@[simp]theorem Zq3:DK .bool=Ac:=rfl
@[simp]theorem ZsA:DK .str=Ac:=rfl
@[simp]theorem Zq2:DK .list=Ac:=rfl
@[simp]theorem ZoA:DK .tuple=Ac:=rfl
@[simp]theorem Zou(up i):kiD up .int (.int i)=Ab:=rfl
@[simp]theorem Zot(up):kiD up .int .non=Ac:=rfl
@[simp]theorem Znd(up i):kiD up .bool (.int i)=Ac:=rfl
@[simp]theorem Zos(up i):kiD up .int (.tup i)=Ac:=rfl
@[simp]theorem Zow(up i):kiD up .bool (.bl i)=Ab:=rfl
@[simp]theorem Znc(up):kiD up .bool .non=Ac:=rfl
@[simp]theorem Znb(up i):kiD up .list (.lst i)=Ab:=rfl
@[simp]theorem Zk9(up i):kiD up .tuple (.tup i)=Ab:=rfl
@[simp]theorem Zla(up):kiD up .tuple .non=Ac:=rfl
@[simp]theorem Zov(up c k f):kiD up (.cls c) (.exc k f)=(up k).contains c:=rfl
@[simp]theorem Zna(up k f):kiD up .verr (.exc k f)=Ab:=rfl
theorem XX(xs:Ad D)(k:Af)(h:k<xs.length):DB xs (k:Ag)=.ok (xs[k]):=by
 unfold DB plD;have h1:(0:Ag)<=k:=Int.natCast_nonneg k;have h2:(k:Ag)<(xs.length:Af):=by omega
 rw[AF h1,AF h2];simp[h]
theorem NQ{xs:Ad D}{i:Ag}{d:D}(h0:0<=i)(h:xs[i.toNat]?=Aa d):DB xs i=.ok d:=by
 unfold DB plD;obtain⟨h1,_⟩:=AZ.mp h;rw[AF h0,AF (by omega)]
 dsimp only;rw[h]
section
variable(Γ:Gam)(ρ:Rho)
@[simp]theorem Zse:evSs Γ ρ .nil=.next ρ:=rfl
noncomputable def FX(Γ:Gam)(ss:Ss)(o:O):O:=o.seq fun ρ'=>evSs Γ ρ' ss
@[simp]theorem K9(s ss):evSs Γ ρ (.cons s ss)=FX Γ ss (evS Γ ρ s):=rfl
@[simp]theorem Zvi(ss):FX Γ ss (.next ρ)=evSs Γ ρ ss:=rfl
@[simp]theorem Zxm(ss d b):FX Γ ss (.ret d b)=.ret d b:=rfl
@[simp]theorem Zxp(ss):FX Γ ss (.brk ρ)=.brk ρ:=rfl
@[simp]theorem Zvj(ss):FX Γ ss (.cont ρ)=.cont ρ:=rfl
@[simp]theorem Zxo(ss x):FX Γ ss (.exn x ρ)=.exn x ρ:=rfl
@[simp]theorem Zxq(ss):FX Γ ss .bad=.bad:=rfl
@[simp]theorem Zxn(ss)(c:Prop)[Fa c](a b:O):FX Γ ss (if c then a else b)=if c then FX Γ ss a else FX Γ ss b:=by split<;>rfl
@[simp]theorem eO(o:O):FX Γ .nil o=o:=by cases o<;>rfl
noncomputable def BZ(Γ:Gam)(t:Af)(body:Ss):D->Rho->O:=fun x ρ'=>evSs Γ (ρ'.set t (Aa (x,Ac))) body
noncomputable def whC(Γ:Gam)(c:E):Rho->R An:=fun ρ'=>(top ρ' c (evE Γ ρ' c)).bind BB
noncomputable def whB(Γ:Gam)(body:Ss):Rho->O:=fun ρ'=>evSs Γ ρ' body
noncomputable def T8(Γ:Gam)(t:Af)(body:Ss)(ρ:Rho)(r:R (Ad D)):O:=O.of ρ r fun xs=>Dq (BZ Γ t body) xs ρ
@[simp]theorem NX(t body xs):T8 Γ t body ρ (.ok xs)=Dq (BZ Γ t body) xs ρ:=rfl
@[simp]theorem Zsh:evS Γ ρ .pass=.next ρ:=rfl
@[simp]theorem Zvv(i e):evS Γ ρ (.asg i Ac e)=O.of ρ (evE Γ ρ e) fun d=>.next (ρ.set i (Aa (d,Ac))):=rfl
@[simp]theorem Zsi(e):evS Γ ρ (.expr e)=O.of ρ (evE Γ ρ e) fun _=>.next ρ:=rfl
@[simp]theorem Zvq(e):evS Γ ρ (.ret e)=O.of ρ (top ρ e (evE Γ ρ e)) fun d=>.ret d (EY Γ e||(match e with | .var i=>(match ρ[i]? with|some (Aa (_,o))=>o|_=>Ac)|_=>Ac)):=rfl
@[simp]theorem Zsf:evS Γ ρ .retN=.ret .non Ac:=rfl
@[simp]theorem Zvr(c a b):evS Γ ρ (.ife c a b)=O.of ρ ((top ρ c (evE Γ ρ c)).bind BB) fun k=>if k=Ab then evSs Γ ρ a else evSs Γ ρ b:=rfl
@[simp]theorem NS(t it body):evS Γ ρ (.fors t it body)=T8 Γ t body ρ (FG Γ ρ it):=rfl
noncomputable def JE(Γ:Gam)(ts:Ad Af)(body:Ss):D->Rho->O:=fun x ρ'=>O.of ρ' (GH ts x ρ') fun ρ''=>evSs Γ ρ'' body
noncomputable def S0(Γ:Gam)(ts:Ad Af)(body:Ss)(ρ:Rho)(r:R (Ad D)):O:=O.of ρ r fun xs=>Dq (JE Γ ts body) xs ρ
@[simp]theorem Qx(t body xs):S0 Γ t body ρ (.ok xs)=Dq (JE Γ t body) xs ρ:=rfl
@[simp]theorem QB(t it body):evS Γ ρ (.forT t it body)=S0 Γ t body ρ (FG Γ ρ it):=rfl
@[simp]theorem Zsk(ts e):evS Γ ρ (.asgT ts e)=O.of ρ (evE Γ ρ e) fun d=>O.of ρ (IZ ts d ρ) fun ρ'=>.next ρ':=rfl
theorem X3(i e):evS Γ ρ (.asg i Ab e)=O.of ρ (evE Γ ρ e) fun d=>if EY Γ e=Ab then (match d with
      |.lst xs=>.next (ρ.set i (Aa (.lst xs,Ab)))
      |.dic xs=>.next (ρ.set i (Aa (.dic xs,Ab)))
      | _=>.bad) else .bad:=rfl
noncomputable def setF(ρ:Rho)(i:Af):D->O
 |.lst xs=>.next (ρ.set i (Aa (.lst xs,Ab)))
 |.dic xs=>.next (ρ.set i (Aa (.dic xs,Ab)))
 |_=>.bad
@[simp]theorem ZwS(i xs):setF ρ i (.lst xs)=.next (ρ.set i (Aa (.lst xs,Ab))):=rfl
@[simp]theorem ZwT(i xs):setF ρ i (.dic xs)=.next (ρ.set i (Aa (.dic xs,Ab))):=rfl
@[simp]theorem ZqQ(i e):evS Γ ρ (.asg i Ab e)=O.of ρ (evE Γ ρ e) fun d=>if EY Γ e=Ab then setF ρ i d else .bad:=by
 rw[X3]
 congr 1
@[simp]theorem Zvw(i e):evS Γ ρ (.app i e)=O.of ρ (D6 ρ i) fun xs=>O.of ρ (evE Γ ρ e) fun d=>if Ec (xs.length+1)=Ab then .next (ρ.set i (Aa (.lst (xs++[d]),Ab))) else .bad:=rfl
@[simp]theorem Zvs(i e):evS Γ ρ (.ext i e)=O.of ρ (D6 ρ i) fun xs=>O.of ρ (evE Γ ρ e) fun d=>O.of ρ (OW d) fun ys=>if Ec (xs.length+ys.length)=Ab then .next (ρ.set i (Aa (.lst (xs++ys),Ab))) else .bad:=rfl
@[simp]theorem Zvp(i):evS Γ ρ (.rev i)=O.of ρ (D6 ρ i) fun xs=>.next (ρ.set i (Aa (.lst xs.reverse,Ab))):=rfl
@[simp]theorem Zvt(i):evS Γ ρ (.clr i)=O.of ρ (D6 ρ i) fun _=>.next (ρ.set i (Aa (.lst [],Ab))):=rfl
theorem NY(i k e):evS Γ ρ (.put i k e)=O.of ρ (evE Γ ρ e) fun d=>O.of ρ (D6 ρ i) fun xs=>O.of ρ ((top ρ k (evE Γ ρ k)).bind EG) fun j=>match plD xs.length j with
      |some n=>.next (ρ.set i (Aa (.lst (xs.set n d),Ab)))
      |none=>.bad:=rfl
@[simp]theorem X1(body c x h):evS Γ ρ (.tryx body c x h)=match evSs Γ ρ body with
      | .exn y ρ'=>if (Γ.up y.c).contains c=Ab then (match evSs Γ (ρ'.set x (Aa (.exc y.c y.fs,Ac))) h with
          |.next ρ''=>.next (ρ''.set x Ae)
          |.ret d f=>.ret d f
          | _=>.bad) else .bad
      |o=>o:=rfl
@[simp]theorem X2(body c x h c' h' els):evS Γ ρ (.try2 body c x h c' h' els)=match evSs Γ ρ body with
      |.exn y ρ'=>if (Γ.up y.c).contains c=Ab then hdO x y ρ' (fun r=>evSs Γ r h) else if (Γ.up y.c).contains c'=Ab then hdO x y ρ' (fun r=>evSs Γ r h') else .bad
      |.next ρ'=>evSs Γ ρ' els
      |o=>o:=rfl
@[simp]theorem Zvo(c body):evS Γ ρ (.whl c body)=O2 (whC Γ c) (whB Γ body) SY ρ:=rfl
@[simp]theorem Zsg(c as):evS Γ ρ (.rais c as)=O.of ρ (noX (evA Γ ρ as)) fun xs=>O.of ρ (Γ.xn c xs) fun x=>.exn x ρ:=rfl
@[simp]theorem Zvu:evS Γ ρ .brk=.brk ρ:=rfl
@[simp]theorem Zsj:evS Γ ρ .cont=.cont ρ:=rfl
end
end Ov
namespace Ov
open PySem
theorem Qy{body:D->Rho->O}(P:Rho->Prop):∀(xs:Ad D)(ρ:Rho),P ρ->(∀ x∈xs,∀ ρ,P ρ->∃ ρ',body x ρ=.next ρ'/\P ρ')->∃ ρ',Dq body xs ρ=.next ρ'/\P ρ'
 |[],ρ,h,_=>⟨ρ,rfl,h⟩
 |x::xs,ρ,h,k=>by
  obtain⟨ρ1,e1,h1⟩:=k x AL ρ h;obtain⟨ρ2,e2,h2⟩:=Qy P xs ρ1 h1 fun y hy=>k y (AG _ hy)
  exact⟨ρ2,by show (body x ρ).turn _=_;rw[e1];exact e2,h2⟩
theorem WO(h1:0<=lo)(h2:lo<1000000)(h3:0<=hi)(h4:hi<1000000):DJ lo hi=.ok (F0 lo (hi-lo).toNat):=by
 unfold DJ;rw[AF (by omega)]
theorem P7(h3:0<=hi)(h4:hi<1000000):DJ 0 hi=.ok (F0 0 hi.toNat):=by
 rw[WO (by omega) (by omega) h3 h4,IC]
theorem WZ(h:x∈F0 lo n):∃ k:Af,k<n/\x=.int (lo+(k:Ag)):=by
 obtain⟨k,hk,e⟩:=IE.mp h;exact⟨k,Bs.mp hk,e.symm⟩
theorem Nn(lo:Ag)(n:Af):(F0 lo n).length=n:=by simp[F0]
theorem XU{i:Af}(h:(F0 lo n)[i]?=Aa x):i<n/\x=.int (lo+(i:Ag)):=by
 have hl:=(AZ.mp h).1;rw[Nn]at hl;unfold F0 at h;rw[En,List.getElem?_range hl]at h;cases h;exact⟨hl,rfl⟩
noncomputable def Ss.take:Af->Ss->Ss
 |0,_=>.nil
 |_,.nil=>.nil
 |n+1,.cons s ss=>.cons s (ss.take n)
noncomputable def Ss.drop:Af->Ss->Ss
 |0,ss=>ss
 |_,.nil=>.nil
 |n+1,.cons _ ss=>ss.drop n
theorem QA(Γ:Gam):∀(n:Af)(ss:Ss)(ρ:Rho),evSs Γ ρ ss=FX Γ (ss.drop n) (evSs Γ ρ (ss.take n))
 |0,_,_=>rfl
 |_+1,.nil,_=>rfl
 |n+1,.cons s ss,ρ=>by
  show (evS Γ ρ s).seq (fun ρ'=>evSs Γ ρ' ss)=FX Γ (ss.drop n) ((evS Γ ρ s).seq fun ρ'=>evSs Γ ρ' (ss.take n))
  cases evS Γ ρ s with
  |next ρ'=>exact QA Γ n ss ρ'
  |_=>rfl
end Ov
end
section
namespace Ov
noncomputable def xfD:Af->D->An
 |0,.int i=>decide (0<=i)&&decide (i<100)
 |n+1,.tup ds=>C9 ds.length 8&&ds.all (xfD n)
 |_,_=>Ac
noncomputable def mkX(c:Af)(f:PySem.Str):Ad D->R Ex
 |[d]=>if (xfD 1 d||xfD 2 d)=Ab then .ok ⟨c,[(f,d)]⟩ else .bad
 |_=>.bad
end Ov
end
section
namespace OvC
open PySem Ov PyProof.Rows
variable{j:Ag}
noncomputable abbrev scr(ns:Ad Ag):D:=.lst (ns.map .int)
noncomputable abbrev sh(d:D):Sl:=Aa (d,Ac)
noncomputable abbrev si(i:Ag):Sl:=Aa (.int i,Ac)
theorem four{P:Af->Prop}(h0:P 0)(h1:P 1)(h2:P 2)(h3:P 3):P (j%4).toNat:=by
 have:(j%4).toNat=0\/(j%4).toNat=1\/(j%4).toNat=2\/(j%4).toNat=3:=by omega
 rcases this with e|e|e|e<;>rw[e]<;>assumption
def P4(p:Ag):Prop:=p=3\/p=5\/p=7\/p=11
noncomputable def pr4(j:Ag):Ag:=[3,5,7,11].getD (j%4).toNat 0
theorem cV(j):P4 (pr4 j):=by
 unfold pr4;exact four (P:=fun j=>P4 ([3,5,7,11].getD j 0)) (.inl rfl) (.inr (.inl rfl)) (.inr (.inr (.inl rfl))) (.inr (.inr (.inr rfl)))
theorem P4.pos{p}(h:P4 p):0<p:=by rcases h with rfl|rfl|rfl|rfl<;>decide
theorem P4.lo{p}(h:P4 p):3<=p:=by rcases h with rfl|rfl|rfl|rfl<;>decide
theorem P4.hi{p}(h:P4 p):p<=11:=by rcases h with rfl|rfl|rfl|rfl<;>decide
theorem XV(j:Ag):DB [.int 3,.int 5,.int 7,.int 11] (j%4)=.ok (.int (pr4 j)):=by
 have h:=four (P:=fun j=>[D.int 3,D.int 5,D.int 7,D.int 11][j]?=Aa (D.int ([3,5,7,11].getD j 0))) (j:=j) rfl rfl rfl rfl
 exact NQ (by omega) h
theorem G4{i:Ag}(h0:-18446744073709551616<i)(h1:i<18446744073709551616):CP i j=Ab:=by simp[CP];left;exact⟨h0,h1⟩
theorem HV{i:Ag}(h0:-18446744073709551616<j)(h1:j<18446744073709551616):CP i j=Ab:=by simp[CP];right;exact⟨h0,h1⟩
noncomputable def Oi:Df:=⟨2,Ac,(.cons (.ret (.bin .Mod (.var 1) (.var 0))) .nil)⟩
def Kt(Γ:Gam):Prop:=∀ p n:Ag,0<p->Γ.F 1 [.int p,.int n]=.ok (.int (n%p))
theorem cL(Γ:Gam)(p n:Ag)(h:0<p):Oi.run Γ [.int p,.int n]=.ok (.int (n%p)):=by simp[Oi,Df.run,Bp,h]
end OvC
end
namespace Ov
open PySem PySem.Spec PyProof.Rows L2
variable{A B:Ak->Prop}{H H' H1 H0:Hp}{a b l q:Ak}{xs:Ad V}{v:V}{d:D}{Rp Rq:Hp->V->D->Prop}{r:R D}{Q:VK}{X:Cx}{e c tg iter elt:Ao}{ρ:Rho}{i n j k t':Af}{x:Ex}{σ:L2.St}{g:D->D->R D}{op:Eh}{K:Fg}{pI:Pn}{s:Aq}{items2 its ys us items:AX Ai}{h h' h2:AB}{u y f0:Ai}{its2:Ad Ai}{es ifs:Ad Ao}{fs fi:Rho->R (Ad D)}{Q':Am Ag->Hp->Prop}{p pos' p2 pos pos2 tpos:AI}{T:Dh}{f fc:Rho->R An}{α:Type}{Fz:Ak->HO->Prop}{D':Ends}{as:D->Rho->R Rho}{up:Af->Ad Af}{prog P:AK}{w:AY}{o o1:Cz}{scope:Cm}{env:Ch}{cl:Ad (Aj×Ak)}{N':Ad Aj}{ts:Ad Af}{fp:Ad Ak}{tt:TT}{te:TE}{J:It}{wi:TI}{P1 P2:Af->Ai->Prop}{S1 S2:Af->AB->Prop}{t f1:An}{ta:TA}{ps:Ad (Ak×Ad V)}
abbrev ClA:=Af->Am Ak
variable{CL:ClA}
def KL(K:Fg)(a:Ak)(xs:Ad V):Prop:=∃(o:Cz)(its:AX Ai)(n:Af),K.lookup a=Aa o/\o.cls=.type "list"/\o.dict=Ae/\o.data=.seq its n/\its.size<=sizeLine/\Bb xs its.toList
def KT(K:Fg)(a:Ak)(xs:Ad V):Prop:=∃(o:Cz)(its:AX Ai)(n:Af),K.lookup a=Aa o/\o.cls=.type "tuple"/\o.data=.seq its n/\its.size<=sizeLine/\Bb xs its.toList
section
variable(K:Fg)(CL:ClA)(H:Hp)(A:Ak->Prop)
mutual
def Rep:V->D->Prop
 |v,.non=>v=.non
 |v,.bl b=>v=.bl b
 |v,.int i=>v=.int i
 |v,.str x=>v=.str x
 |v,.tup ds=>∃ a xs,v=.ref a/\(¬ A a\/KT K a xs)/\SqT K H a xs/\Reps xs ds
 |v,.lst ds=>∃ a xs,v=.ref a/\(¬ A a\/KL K a xs)/\SqL K H a xs/\Reps xs ds
 |v,.obj c fs=>∃ a C dx vs,v=.ref a/\¬ A a/\CL c=Aa C/\H a=Aa (.ins C dx vs)/\Repf vs fs
 |_,.dic _=>AS
 |v,.exc c fs=>∃ a C φ,v=.ref a/\¬ A a/\CL c=Aa C/\H a=Aa (.ext φ)/\(∀ h,φ h->∃ o,h.get? a=Aa o/\o.cls=.ref C)/\(fs=[]\/∃ dx vs,¬ A dx/\H dx=Aa (.xd vs)/\Repf vs fs/\∀ h,φ h->∃ o,h.get? a=Aa o/\o.dict=Aa dx/\∃ us,o.data=.fields us)
def Reps:Ad V->Ad D->Prop
 |[],[]=>HQ
 |v::vs,d::ds=>Rep v d/\Reps vs ds
 |_,_=>AS
def Repf:Ad (Aj×V)->Ad (Aj×D)->Prop
 |[],[]=>HQ
 |v::vs,d::ds=>Repp v d/\Repf vs ds
 |_,_=>AS
def Repp:Aj×V->Aj×D->Prop
 |v,(n,d)=>v.1=n/\Rep v.2 d
end
def CV(v:V)(d:D):Prop:=Rep K CL H A v d\/∃ a xs ds,v=.ref a/\d=.lst ds/\H a=Aa (.lst xs)/\Reps K CL H A xs ds
end
def Kp(A:Ak->Prop)(H H':Hp):Prop:=∀ b o,H b=Aa o->¬ A b->H' b=Aa o
def AOk(H:Hp)(A:Ak->Prop):Prop:=∀ a,A a->∃ xs,H a=Aa (.lst xs)
theorem Kp.of(h:AE H H'):Kp A H H':=fun b o e _=>h b o e
theorem AOk.same(h:AOk H A)(s:AE H H'):AOk H' A:=fun a ha=>let ⟨xs,e⟩:=h a ha;⟨xs,s _ _ e⟩
theorem AOk.new{p:Ak}(h:AOk H A)(e:H p=Ae):¬ A p:=fun ha=>by
 obtain⟨xs,q⟩:=h p ha;rw[e]at q;cases q
section
variable{K:Fg}{CL:ClA}{H H':Hp}{A B:Ak->Prop}
theorem SN{u:HO}(k:Kp A H H')(na:¬ A a)(h:Rd H a u):Rd H' a u:=by
 rcases h with h|⟨o,h⟩
 ·exact .inl (k _ _ h na)
 ·exact .inr ⟨o,k _ _ h na⟩
theorem Ms(k:Kp A H H')(na:¬ A a\/KL K a xs)(h:SqL K H a xs):SqL K H' a xs:=na.elim (fun na=>h.imp (SN k na) id) .inr
theorem Mr(k:Kp A H H')(na:¬ A a\/KT K a xs)(h:SqT K H a xs):SqT K H' a xs:=na.elim (fun na=>h.imp (SN k na) id) .inr
mutual
theorem Rep.kp(k:Kp A H H'):∀{v:V}(d:D),Rep K CL H A v d->Rep K CL H' A v d
 |_,.non,h=>h
 |_,.bl _,h=>h
 |_,.int _,h=>h
 |_,.str _,h=>h
 |_,.dic _,h=>h.elim
 |_,.tup ds,h=>by
  obtain⟨a,xs,e,na,s,r⟩:=h;exact⟨a,xs,e,na,by first|exact Mr k na s|exact Ms k na s,Reps.kp k ds r⟩
 |_,.lst ds,h=>by
  obtain⟨a,xs,e,na,s,r⟩:=h;exact⟨a,xs,e,na,by first|exact Mr k na s|exact Ms k na s,Reps.kp k ds r⟩
 |_,.obj c fs,h=>by
  obtain⟨a,C,dx,vs,e,na,c,s,r⟩:=h;exact⟨a,C,dx,vs,e,na,c,k _ _ s na,Repf.kp k fs r⟩
 |_,.exc c fs,h=>by
  obtain⟨a,C,φ,e,na,c,s,p,q⟩:=h;refine⟨a,C,φ,e,na,c,k _ _ s na,p,q.imp id ?_⟩;rintro⟨dx,vs,nx,s2,r,z⟩;exact⟨dx,vs,nx,k _ _ s2 nx,Repf.kp k fs r,z⟩
theorem Reps.kp(k:Kp A H H'):∀{vs:Ad V}(ds:Ad D),Reps K CL H A vs ds->Reps K CL H' A vs ds
 |[],[],h=>h
 |_::_,d::ds,h=>⟨Rep.kp k d h.1,Reps.kp k ds h.2⟩
 |[],_::_,h=>h.elim
 |_::_,[],h=>h.elim
theorem Repf.kp(k:Kp A H H'):∀{vs:Ad (Aj×V)}(ds:Ad (Aj×D)),Repf K CL H A vs ds->Repf K CL H' A vs ds
 |[],[],h=>h
 |_::_,d::ds,h=>⟨Repp.kp k d h.1,Repf.kp k ds h.2⟩
 |[],_::_,h=>h.elim
 |_::_,[],h=>h.elim
theorem Repp.kp(k:Kp A H H'):∀{v:Aj×V}(d:Aj×D),Repp K CL H A v d->Repp K CL H' A v d
 |_,(_,d),h=>⟨h.1,Rep.kp k d h.2⟩
end
mutual
theorem Rep.sub(k:∀ a,B a->A a):∀{v:V}(d:D),Rep K CL H A v d->Rep K CL H B v d
 |_,.non,h=>h
 |_,.bl _,h=>h
 |_,.int _,h=>h
 |_,.str _,h=>h
 |_,.dic _,h=>h.elim
 |_,.tup ds,h=>by
  obtain⟨a,xs,e,na,s,r⟩:=h;exact⟨a,xs,e,na.imp (fun na z=>na (k _ z)) id,s,Reps.sub k ds r⟩
 |_,.lst ds,h=>by
  obtain⟨a,xs,e,na,s,r⟩:=h;exact⟨a,xs,e,na.imp (fun na z=>na (k _ z)) id,s,Reps.sub k ds r⟩
 |_,.obj c fs,h=>by
  obtain⟨a,C,dx,vs,e,na,c,s,r⟩:=h;exact⟨a,C,dx,vs,e,fun z=>na (k _ z),c,s,Repf.sub k fs r⟩
 |_,.exc c fs,h=>by
  obtain⟨a,C,φ,e,na,c,s,p,q⟩:=h;refine⟨a,C,φ,e,fun z=>na (k _ z),c,s,p,q.imp id ?_⟩
  rintro⟨dx,vs,nx,s2,r,z⟩;exact⟨dx,vs,fun z=>nx (k _ z),s2,Repf.sub k fs r,z⟩
theorem Reps.sub(k:∀ a,B a->A a):∀{vs:Ad V}(ds:Ad D),Reps K CL H A vs ds->Reps K CL H B vs ds
 |[],[],h=>h
 |_::_,d::ds,h=>⟨Rep.sub k d h.1,Reps.sub k ds h.2⟩
 |[],_::_,h=>h.elim
 |_::_,[],h=>h.elim
theorem Repf.sub(k:∀ a,B a->A a):∀{vs:Ad (Aj×V)}(ds:Ad (Aj×D)),Repf K CL H A vs ds->Repf K CL H B vs ds
 |[],[],h=>h
 |_::_,d::ds,h=>⟨Repp.sub k d h.1,Repf.sub k ds h.2⟩
 |[],_::_,h=>h.elim
 |_::_,[],h=>h.elim
theorem Repp.sub(k:∀ a,B a->A a):∀{v:Aj×V}(d:Aj×D),Repp K CL H A v d->Repp K CL H B v d
 |_,(_,d),h=>⟨h.1,Rep.sub k d h.2⟩
end
mutual
theorem Rep.wide(hp:∀ a,B a->A a\/H a=Ae):∀{v:V}(d:D),Rep K CL H A v d->Rep K CL H B v d
 |_,.non,h=>h
 |_,.bl _,h=>h
 |_,.int _,h=>h
 |_,.str _,h=>h
 |_,.dic _,h=>h.elim
 |_,.tup ds,h=>by
  obtain⟨a,xs,e,na,s,r⟩:=h;refine⟨a,xs,e,?_,s,Reps.wide hp ds r⟩;rcases s with s|s
  ·refine na.imp (fun na z=>(hp _ z).elim na fun e=>?_) id
   rcases s with s|⟨o,s⟩<;>rw[e]at s<;>cases s
  ·exact .inr s
 |_,.lst ds,h=>by
  obtain⟨a,xs,e,na,s,r⟩:=h;refine⟨a,xs,e,?_,s,Reps.wide hp ds r⟩;rcases s with s|s
  ·refine na.imp (fun na z=>(hp _ z).elim na fun e=>?_) id
   rcases s with s|⟨o,s⟩<;>rw[e]at s<;>cases s
  ·exact .inr s
 |_,.obj c fs,h=>by
  obtain⟨a,C,dx,vs,e,na,c,s,r⟩:=h;exact⟨a,C,dx,vs,e,(fun z=>(hp _ z).elim na fun e=>by rw[e]at s;cases s),c,s,Repf.wide hp fs r⟩
 |_,.exc c fs,h=>by
  obtain⟨a,C,φ,e,na,c,s,p,q⟩:=h;refine⟨a,C,φ,e,(fun z=>(hp _ z).elim na fun e=>by rw[e]at s;cases s),c,s,p,q.imp id ?_⟩
  rintro⟨dx,vs,nx,s2,r,z⟩;exact⟨dx,vs,(fun z=>(hp _ z).elim nx fun e=>by rw[e]at s2;cases s2),s2,Repf.wide hp fs r,z⟩
theorem Reps.wide(hp:∀ a,B a->A a\/H a=Ae):∀{vs:Ad V}(ds:Ad D),Reps K CL H A vs ds->Reps K CL H B vs ds
 |[],[],h=>h
 |_::_,d::ds,h=>⟨Rep.wide hp d h.1,Reps.wide hp ds h.2⟩
 |[],_::_,h=>h.elim
 |_::_,[],h=>h.elim
theorem Repf.wide(hp:∀ a,B a->A a\/H a=Ae):∀{vs:Ad (Aj×V)}(ds:Ad (Aj×D)),Repf K CL H A vs ds->Repf K CL H B vs ds
 |[],[],h=>h
 |_::_,d::ds,h=>⟨Repp.wide hp d h.1,Repf.wide hp ds h.2⟩
 |[],_::_,h=>h.elim
 |_::_,[],h=>h.elim
theorem Repp.wide(hp:∀ a,B a->A a\/H a=Ae):∀{v:Aj×V}(d:Aj×D),Repp K CL H A v d->Repp K CL H B v d
 |_,(_,d),h=>⟨h.1,Rep.wide hp d h.2⟩
end
theorem Rep.same(s:AE H H')(h:Rep K CL H A v d):Rep K CL H' A v d:=Rep.kp (Kp.of s) d h
theorem Reps.same{v:Ad V}{d:Ad D}(s:AE H H')(h:Reps K CL H A v d):Reps K CL H' A v d:=Reps.kp (Kp.of s) d h
theorem CV.same{v:V}{d:D}(s:AE H H')(h:CV K CL H A v d):CV K CL H' A v d:=by
 rcases h with h|⟨a,xs,ds,e,e2,q,r⟩
 ·exact .inl (h.same s)
 ·exact .inr ⟨a,xs,ds,e,e2,s _ _ q,r.same s⟩
theorem Reps.length:∀{vs:Ad V}{ds:Ad D},Reps K CL H A vs ds->vs.length=ds.length
 |[],[],_=>rfl
 |_::_,_::_,h=>congrArg (· + 1) (Reps.length h.2)
 |[],_::_,h=>h.elim
 |_::_,[],h=>h.elim
theorem Reps.append:∀{vs ws:Ad V}{ds es:Ad D},Reps K CL H A vs ds->Reps K CL H A ws es->Reps K CL H A (vs++ws) (ds++es)
 |[],_,[],_,_,h=>h
 |_::_,_,_::_,_,h,g=>⟨h.1,Reps.append h.2 g⟩
 |[],_,_::_,_,h,_=>h.elim
 |_::_,_,[],_,h,_=>h.elim
theorem Reps.get:∀{vs:Ad V}{ds:Ad D}{i:Af}{d:D},Reps K CL H A vs ds->ds[i]?=Aa d->∃ v,vs[i]?=Aa v/\Rep K CL H A v d
 |[],[],_,_,_,e=>by simp at e
 |v::_,_::_,0,_,h,e=>by simp at e;subst e;exact⟨v,rfl,h.1⟩
 |_::_,_::_,i+1,_,h,e=>by
  obtain⟨v,q,r⟩:=Reps.get (i:=i) h.2 (by simpa using e)
  exact⟨v,by simpa using q,r⟩
 |[],_::_,_,_,h,_=>h.elim
 |_::_,[],_,_,h,_=>h.elim
theorem Reps.take:∀{vs:Ad V}{ds:Ad D}(n:Af),Reps K CL H A vs ds->Reps K CL H A (vs.take n) (ds.take n)
 |_,_,0,_=>trivial
 |[],[],_+1,_=>trivial
 |_::_,_::_,n+1,h=>⟨h.1,Reps.take n h.2⟩
 |[],_::_,_+1,h=>h.elim
 |_::_,[],_+1,h=>h.elim
theorem Reps.drop:∀{vs:Ad V}{ds:Ad D}(n:Af),Reps K CL H A vs ds->Reps K CL H A (vs.drop n) (ds.drop n)
 |_,_,0,h=>h
 |[],[],_+1,_=>trivial
 |_::_,_::_,n+1,h=>Reps.drop n h.2
 |[],_::_,_+1,h=>h.elim
 |_::_,[],_+1,h=>h.elim
theorem Reps.set{x:V}{e:D}(r:Rep K CL H A x e):∀{vs:Ad V}{ds:Ad D}(n:Af),Reps K CL H A vs ds->Reps K CL H A (vs.set n x) (ds.set n e)
 |[],[],_,_=>trivial
 |_::_,_::_,0,h=>⟨r,h.2⟩
 |_::_,_::_,n+1,h=>⟨h.1,Reps.set r n h.2⟩
 |[],_::_,_,h=>h.elim
 |_::_,[],_,h=>h.elim
end
structure Good (K:Fg) (CL:ClA) (A:Ak->Prop) (ρ:Rho) (σ:L2.St) (H:Hp):Prop where
 sh:∀(i:Af)(d:D),ρ[i]?=Aa (Aa (d,Ac))->∃ v,σ[i]?=Aa (Aa v)/\Rep K CL H A v d
 ow:∀(i:Af)(d:D),ρ[i]?=Aa (Aa (d,Ab))->∃ a xs ds,σ[i]?=Aa (Aa (.ref a))/\d=.lst ds/\A a/\H a=Aa (.lst xs)/\Reps K CL H A xs ds
 len:ρ.length=σ.length
theorem Good.same{K:Fg}{CL:ClA}{A:Ak->Prop}{ρ:Rho}{σ:L2.St}{H H':Hp}(g:Good K CL A ρ σ H)(s:AE H H'):Good K CL A ρ σ H':=
 ⟨fun i d e=>let ⟨v,q,r⟩:=g.sh i d e;⟨v,q,r.same s⟩,fun i d e=>let ⟨a,xs,ds,q,z,na,h,r⟩:=g.ow i d e;⟨a,xs,ds,q,z,na,s _ _ h,r.same s⟩,g.len⟩
abbrev XW:=Ex->Hp->Prop
variable{W:XW}
def Bc(Rp:Hp->V->D->Prop)(W:XW)(H:Hp)(r:R D)(Q:VK):Prop:=match r with
  |.ok d=>∀ v H',AE H H'->Rp H' v d->Q v H'
  |.exn x=>∀ H',AE H H'->W x H'
  |.bad=>AS
def Hx(Rp:Hp->Ad V->Ad D->Prop)(W:XW)(H:Hp)(r:R (Ad D))(Q:Ad V->Hp->Prop):Prop:=match r with
  |.ok d=>∀ v H',AE H H'->Rp H' v d->Q v H'
  |.exn x=>∀ H',AE H H'->W x H'
  |.bad=>AS
def C8(W:XW)(H:Hp)(r:R An)(Q:An->Hp->Prop):Prop:=match r with
  |.ok b=>∀ H',AE H H'->Q b H'
  |.exn x=>∀ H',AE H H'->W x H'
  |.bad=>AS
theorem Bc.same(s:AE H H')(h:Bc Rp W H r Q):Bc Rp W H' r Q:=by
 cases r with
 |ok d=>exact fun v H2 s2 q=>h v H2 (s.trans s2) q
 |exn x=>exact fun H2 s2=>h H2 (s.trans s2)
 |bad=>exact h
theorem C8.same{r:R An}{Q:An->Hp->Prop}(s:AE H H')(h:C8 W H r Q):C8 W H' r Q:=by
 cases r with
 |ok d=>exact fun H2 s2=>h H2 (s.trans s2)
 |exn x=>exact fun H2 s2=>h H2 (s.trans s2)
 |bad=>exact h
theorem Bc.bind{f:D->R D}{Q':VK}(h:Bc Rq W H (r.bind f) Q)(k:∀ d v H',r=.ok d->AE H H'->Rp H' v d->Bc Rq W H' (f d) Q->Q' v H'):Bc Rp W H r Q':=by
 cases r with
 |ok d=>exact fun v H2 s2 q=>k d v H2 rfl s2 q (Bc.same s2 h)
 |exn x=>exact h
 |bad=>exact h
section
variable(X:Cx)(CL:ClA)(W:XW)
def SE(e:Ao)(f:Rho->R D):Prop:=∀ A,PE X e (fun σ H Q=>AOk H A/\∃ ρ,Good X.K CL A ρ σ H/\Bc (fun H=>Rep X.K CL H A) W H (f ρ) Q)
def ST(e:Ao)(f:Rho->R D):Prop:=∀ A,PE X e (fun σ H Q=>AOk H A/\∃ ρ,Good X.K CL A ρ σ H/\Bc (fun H=>CV X.K CL H A) W H (f ρ) Q)
def SB(e:Ao)(f:Rho->R An):Prop:=∀ A,PT X e (fun σ H Q=>AOk H A/\∃ ρ,Good X.K CL A ρ σ H/\C8 W H (f ρ) Q)
def SA(es:Ad Ao)(f:Rho->R (Ad D)):Prop:=∀ A,PA X es (fun σ H Q=>AOk H A/\∃ ρ,Good X.K CL A ρ σ H/\Hx (fun H=>Reps X.K CL H A) W H (f ρ) Q)
end
theorem PE.weak{t t':TE}(h:PE X e t)(k:∀ σ H Q,t' σ H Q->t σ H Q):PE X e t':=fun pI s σ H Q I q=>h pI s σ H Q I (k _ _ _ q)
theorem PT.weak{t t':TT}(h:PT X e t)(k:∀ σ H Q,t' σ H Q->t σ H Q):PT X e t':=fun pI s σ H Q I q=>h pI s σ H Q I (k _ _ _ q)
theorem PA.weak{e:Ad Ao}{t t':TA}(h:PA X e t)(k:∀ σ H Q,t' σ H Q->t σ H Q):PA X e t':=fun pos pI s σ H Q I q=>h pos pI s σ H Q I (k _ _ _ q)
noncomputable def OpD(X:Cx)(CL:ClA)(W:XW)(f:Ai->Ai->Sem Ai)(g:D->D->R D):Prop:=
 ∀ A,OpR X f (fun x y H Q=>AOk H A/\∃ dx dy,CV X.K CL H A x dx/\CV X.K CL H A y dy/\Bc (fun H=>Rep X.K CL H A) W H (g dx dy) Q)
section
variable{X:Cx}{CL:ClA}{W:XW}{a b c:Ao}{fa fb fc:Rho->R D}{pos:AI}
theorem SE.st(h:SE X CL W a fa):ST X CL W a fa:=fun A=>PE.weak (h A) fun σ H Q ⟨hA,ρ,g,p⟩=>⟨hA,ρ,g,by
 cases e:fa ρ with
 |ok d=>rw[e]at p;exact fun v H' s r=>p v H' s (.inl r)
 |exn x=>rw[e]at p;exact p
 | bad=>rw[e]at p;exact p⟩
theorem SE.congr{f g:Rho->R D}(h:SE X CL W a f)(e:∀ ρ,g ρ=f ρ):SE X CL W a g:=fun A=>PE.weak (h A) fun σ H Q ⟨hA,ρ,q,p⟩=>⟨hA,ρ,q,by rw[<-e];exact p⟩
theorem MA(h:PE X a (tC v))(r:∀ H A,AOk H A->Rep X.K CL H A v d):SE X CL W a (fun _=>.ok d):=fun A=>PE.weak h fun σ H Q ⟨hA,ρ,g,p⟩=>p v H (AE.refl H) (r H A hA)
theorem dR{i j}:SE X CL W (.Constant (.int i) j pos) (fun _=>.ok (.int i)):=MA dE fun _ _ _=>rfl
theorem SR{b j}:SE X CL W (.Constant (.bool b) j pos) (fun _=>.ok (.bl b)):=MA jA fun _ _ _=>rfl
theorem dM{j}:SE X CL W (.Constant .none j pos) (fun _=>.ok .non):=MA dC fun _ _ _=>rfl
theorem RX{x j}:SE X CL W (.Constant (.str x) j pos) (fun _=>.ok (.str x)):=MA RI fun _ _ _=>rfl
theorem YE(h:FE ρ i=.ok d):ρ[i]?=Aa (Aa (d,Ac)):=by
 unfold FE at h;split at h
 ·rename_i e;cases h;exact e
 ·cases h
theorem Q0(h:BF ρ i=.ok d):∃ o,ρ[i]?=Aa (Aa (d,o)):=by
 unfold BF at h;split at h
 ·rename_i e;cases h;exact⟨_,e⟩
 ·cases h
theorem XH(h:FE ρ i=.exn x):AS:=by
 unfold FE at h;split at h<;>cases h
theorem QK(h:BF ρ i=.exn x):AS:=by
 unfold BF at h;split at h<;>cases h
theorem RW(h:PE X a (GK i)):SE X CL W a (fun ρ=>FE ρ i):=fun A=>PE.weak h fun σ H Q ⟨hA,ρ,g,p⟩=>by
 dsimp only at p;cases e:FE ρ i with
 |ok d=>
  rw[e]at p;obtain⟨v,q,r⟩:=g.sh i d (YE e);exact⟨v,q,p v H (AE.refl H) r⟩
 |exn x=>exact(XH e).elim
 |bad=>rw[e]at p;exact p.elim
theorem Kl(h:PE X a (GK i)):ST X CL W a (fun ρ=>BF ρ i):=fun A=>PE.weak h fun σ H Q ⟨hA,ρ,g,p⟩=>by
 dsimp only at p;cases e:BF ρ i with
 |ok d=>
  rw[e]at p;obtain⟨o,e⟩:=Q0 e;cases o with
  |false=>
   obtain⟨v,q,r⟩:=g.sh i d e;exact⟨v,q,p v H (AE.refl H) (.inl r)⟩
  |true=>
   obtain⟨x,xs,ds,q,rfl,ha,hh,r⟩:=g.ow i d e;exact⟨_,q,p _ H (AE.refl H) (.inr ⟨x,xs,ds,rfl,rfl,hh,r⟩)⟩
 |exn x=>exact(QK e).elim
 |bad=>rw[e]at p;exact p.elim
theorem op2(h:AOk H A/\∃ ρ,Good X.K CL A ρ σ H/\Bc Rq W H ((fa ρ).bind fun x=>(fb ρ).bind fun y=>g x y) Q):AOk H A/\∃ ρ,Good X.K CL A ρ σ H/\Bc (fun H=>CV X.K CL H A) W H (fa ρ) (fun x H1=>AOk H1 A/\∃ ρ,Good X.K CL A ρ σ H1/\Bc (fun H=>CV X.K CL H A) W H1 (fb ρ) (fun y H2=>AOk H2 A/\∃ dx dy,CV X.K CL H2 A x dx/\CV X.K CL H2 A y dy/\Bc Rq W H2 (g dx dy) Q)):=by
 obtain⟨hA,ρ,gd,p⟩:=h;refine⟨hA,ρ,gd,Bc.bind p fun dx x H1 _ s1 r1 p1=>⟨hA.same s1,ρ,gd.same s1,Bc.bind p1 fun dy y H2 _ s2 r2 p2=>⟨(hA.same s1).same s2,dx,dy,r1.same s2,r2,p2⟩⟩⟩
theorem RZ{op:Hq}(ho:OpD X CL W (B9 op) g)(ha:ST X CL W a fa)(hb:ST X CL W b fb):SE X CL W (.BinOp a op b pos) (fun ρ=>(fa ρ).bind fun x=>(fb ρ).bind fun y=>g x y):=
 fun A=>PE.weak (SQ (ho A) (ha A) (hb A)) fun σ H Q h=>op2 h
theorem dW(ho:OpD X CL W (CB op) g)(ha:ST X CL W a fa)(hb:ST X CL W b fb)(hm:GZ op b=Ac):SE X CL W (.Compare a [op] [b] pos) (fun ρ=>(fa ρ).bind fun x=>(fb ρ).bind fun y=>g x y):=
 fun A=>PE.weak (Y6 (ho A) (ha A) (hb A) hm) fun σ H Q h=>op2 h
theorem CV.int_of{i:Ag}(h:CV K CL H A v (.int i)):v=.int i:=by
 rcases h with h|⟨_,_,_,_,e,_⟩
 ·exact h
 ·cases e
theorem CV.str_of{i:Aj}(h:CV K CL H A v (.str i)):v=.str i:=by
 rcases h with h|⟨_,_,_,_,e,_⟩
 ·exact h
 ·cases e
theorem CV.bl_of{i:An}(h:CV K CL H A v (.bl i)):v=.bl i:=by
 rcases h with h|⟨_,_,_,_,e,_⟩
 ·exact h
 ·cases e
theorem CV.non_of(h:CV K CL H A v .non):v=.non:=by
 rcases h with h|⟨_,_,_,_,e,_⟩
 ·exact h
 ·cases e
theorem CV.lst_of{ds:Ad D}(h:CV K CL H A v (.lst ds)):∃ a xs,v=.ref a/\SqL K H a xs/\Reps K CL H A xs ds:=by
 rcases h with ⟨a,xs,e,_,s,r⟩|⟨a,xs,es,rfl,e,s,r⟩
 ·exact⟨a,xs,e,s,r⟩
 ·cases e;exact⟨a,xs,rfl,SqL.of s,r⟩
theorem CV.tup_of{ds:Ad D}(h:CV K CL H A v (.tup ds)):∃ a xs,v=.ref a/\(¬ A a\/KT K a xs)/\SqT K H a xs/\Reps K CL H A xs ds:=by
 rcases h with ⟨a,xs,e,n,s,r⟩|⟨_,_,_,_,e,_⟩
 ·exact⟨a,xs,e,n,s,r⟩
 ·cases e
theorem YQ{i j:Ag}(h:CP i j=Ab):MP i j:=by
 unfold CP at h;simp only[CH,Al,A7]at h;unfold MP;omega
theorem Q8{a:Ag}(h:a.natAbs<2 ^ 2000):UQ a<=2 ^ 20:=by
 unfold UQ;split
 ·omega
 ·rename_i hz;have h0:a.natAbs≠0:=by intro z;exact hz (by rw[Int.natAbs_eq_zero.mp z];rfl)
  have:=(Nat.log2_lt h0).mpr h;omega
theorem YO{i j:Ag}(h:(CP i j||GI i j)=Ab):KW i j:=by
 rcases Bool.or_eq_true_iff.mp h with h|h
 ·exact(YQ h).ok
 ·unfold GI at h;rw[Al,A7,A7]at h;exact .of_bits (Q8 h.1) (Q8 h.2)
theorem Ze:OpR X (B9 .Mult) (rI KW fun i j=>.int (i*j)):=opI fun _ _ _ _ _ _ _ hc q=>mul_int q hc
theorem J3(h:Ec n=Ab):n<=sizeLine:=by
 unfold Ec at h;rw[C4];have:=Er h;omega
theorem Ra{p:Ak}{ds:Ad D}(hA:AOk H A)(hp:H p=Ae)(r:Reps K CL H A xs ds):Rep K CL (upd H p (.lst xs)) A (.ref p) (.lst ds):=
 ⟨p,xs,rfl,.inl (hA.new hp),SqL.of Ff,r.same fun b o e=>by rw[Bq (FA e hp)];exact e⟩
theorem Kb{p:Ak}{ds:Ad D}(hA:AOk H A)(hp:H p=Ae)(r:Reps K CL H A xs ds):Rep K CL (upd H p (.tup xs)) A (.ref p) (.tup ds):=
 ⟨p,xs,rfl,.inl (hA.new hp),SqT.of Ff,r.same fun b o e=>by rw[Bq (FA e hp)];exact e⟩
theorem FT{p:Ak}(h:H p=Ae)(o:HO):AE H (upd H p o):=fun b u q=>by rw[Bq (FA q h)];exact q
def kK(K:Fg):R2:=fun x y H Q=>∃ l b xs zs,x=.ref l/\y=.ref b/\SqL K H l xs/\SqL K H b zs/\xs.length+zs.length<=sizeLine/\∀ p,H p=Ae->Q (.ref p) (upd H p (.lst (xs++zs)))
end
section
variable{X:Cx}{CL:ClA}{W:XW}
theorem Ry:OpR X (B9 .Add) (kK X.K):=by
 intro pI s σ H x y v u Q I rx ry h;obtain⟨l,b,xs,zs,rfl,rfl,hH,hB,hz,q⟩:=h;cases rx;cases ry;obtain⟨its,r,⟨o,n,e,c,dd,dt⟩,z⟩:=I.list hH;obtain⟨its2,r2,⟨o2,n2,e2,c2,dd2,dt2⟩,z2⟩:=I.list hB;have hl:=r.length;have hl2:=r2.length;obtain⟨cls,dd0,data,sl⟩:=o;obtain⟨cls2,dd02,data2,sl2⟩:=o2;simp only at c dd dt c2 dd2 dt2;subst c dd dt c2 dd2 dt2;have ea:its.toArray++its2.toArray=(its++its2).toArray:=by simp
 refine IQ ⟨_,e,rfl⟩ ⟨_,e2,rfl⟩ noFill_list_add seq_list_add PySem.F.slot_list_add PySem.F.entry_list_add (PySem.F.args_list_add_2 _ _) (list_addW l b its.toArray its2.toArray n n2 Ae Ae sl sl2 (by simp;omega)) ⟨e,e2,?_⟩
 rw[ea];exact⟨.ref _,_,I.lnew (t':=s.toks) (r.append r2) (by rw[BW];omega),rfl,q _ I.fresh⟩
theorem Rx:OpD X CL W (B9 .Add) (CS .Add):=by
 intro A pI s σ H x y v u Q I rx ry ⟨hA,dx,dy,hx,hy,p⟩;cases dx with
 |int i=>
  cases dy with
  |int j=>
   have ex:=hx.int_of;have ey:=hy.int_of
   subst ex ey;exact bZ pI s σ H _ _ v u Q I rx ry ⟨i,j,rfl,rfl,p _ H (AE.refl H) rfl⟩
  |_=>exact p.elim
 |str i=>
  cases dy with
  |str j=>
   have ex:=hx.str_of;have ey:=hy.str_of
   subst ex ey;simp only[gH]at p;split at p
   ·rename_i h;exact Ws pI s σ H _ _ v u Q I rx ry ⟨i,j,rfl,rfl,J3 h,p _ H (AE.refl H) rfl⟩
   ·exact p.elim
  |_=>exact p.elim
 |lst ds=>
  cases dy with
  |lst es=>
   obtain⟨a,xs,rfl,s1,r1⟩:=hx.lst_of;obtain⟨b,ys,rfl,s2,r2⟩:=hy.lst_of;simp only[Sv]at p;split at p
   ·rename_i h;refine Ry pI s σ H _ _ v u Q I rx ry ⟨a,b,xs,ys,rfl,rfl,s1,s2,by rw[r1.length,r2.length];exact J3 h,fun q hq=>?_⟩
    exact p _ _ (FT hq _) (Ra hA hq (r1.append r2))
   ·exact p.elim
  |_=>exact p.elim
 |tup ds=>
  cases dy with
  |tup es=>
   obtain⟨a,xs,rfl,na1,s1,r1⟩:=hx.tup_of;obtain⟨b,ys,rfl,_,s2,r2⟩:=hy.tup_of;simp only[gG]at p;split at p
   ·rename_i h;simp only[Al]at h;refine Zg pI s σ H _ _ v u Q I rx ry ⟨a,b,xs,ys,rfl,rfl,s1,s2,?_,by rw[r1.length,r2.length];exact J3 h.2,fun hy0=>?_,fun _ q hq=>?_⟩
    ·rintro rfl;cases ds with
     |nil=>cases h.1
     |cons _ _=>exact r1.elim
    ·subst hy0;cases es with
     |nil=>rw[Cq]at p;exact p _ H (AE.refl H) ⟨a,xs,rfl,na1,s1,r1⟩
     |cons _ _=>exact r2.elim
    ·exact p _ _ (FT hq _) (Kb hA hq (r1.append r2))
   ·exact p.elim
  |_=>exact p.elim
 |_=>exact p.elim
theorem Ma{op:Hq}{C:Ag->Ag->Prop}{g:Ag->Ag->Ag}(ho:OpR X (B9 op) (rI C fun i j=>.int (g i j)))(hg:∀ dx dy,(∃ i j,dx=.int i/\dy=.int j/\((C i j/\CS op dx dy=.ok (.int (g i j)))\/CS op dx dy=.bad))\/CS op dx dy=.bad):OpD X CL W (B9 op) (CS op):=by
 intro A pI s σ H x y v u Q I rx ry ⟨hA,dx,dy,hx,hy,p⟩;rcases hg dx dy with ⟨i,j,rfl,rfl,⟨c,e⟩|e⟩|e
 ·have ex:=hx.int_of;have ey:=hy.int_of
  subst ex ey;rw[e]at p;exact ho pI s σ H _ _ v u Q I rx ry ⟨i,j,rfl,rfl,c,p _ H (AE.refl H) rfl⟩
 ·rw[e]at p;exact p.elim
 ·rw[e]at p;exact p.elim
theorem Y9:OpD X CL W (B9 .Sub) (CS .Sub):=by
 intro A pI s σ H x y v u Q I rx ry ⟨hA,dx,dy,hx,hy,p⟩;cases dx with
 |int i=>
  cases dy with
  |int j=>
   have ex:=hx.int_of;have ey:=hy.int_of
   subst ex ey;exact bV pI s σ H _ _ v u Q I rx ry ⟨i,j,rfl,rfl,p _ H (AE.refl H) rfl⟩
  |_=>exact p.elim
 |_=>exact p.elim
theorem Zb:OpD X CL W (B9 .Mult) (CS .Mult):=Ma Ze fun dx dy=>by
 cases dx with
 |int i=>
  cases dy with
  |int j=>
   refine .inl ⟨i,j,rfl,rfl,?_⟩;rw[fE];split
   ·rename_i h;exact .inl ⟨YO h,rfl⟩
   ·exact .inr rfl
  |_=>exact .inr rfl
 |_=>exact .inr rfl
theorem WX:OpD X CL W (B9 .FloorDiv) (CS .FloorDiv):=Ma Zf fun dx dy=>by
 cases dx with
 |int i=>
  cases dy with
  |int j=>
   refine .inl ⟨i,j,rfl,rfl,?_⟩;rw[aR];split
   ·rename_i h;exact .inl ⟨h,rfl⟩
   ·exact .inr rfl
  |_=>exact .inr rfl
 |_=>exact .inr rfl
theorem Zc:OpD X CL W (B9 .Mod) (CS .Mod):=Ma bX fun dx dy=>by
 cases dx with
 |int i=>
  cases dy with
  |int j=>
   refine .inl ⟨i,j,rfl,rfl,?_⟩;rw[fF];split
   ·rename_i h;exact .inl ⟨h,rfl⟩
   ·exact .inr rfl
  |_=>exact .inr rfl
 |_=>exact .inr rfl
theorem Za:OpD X CL W (B9 .Pow) (CS .Pow):=Ma bW fun dx dy=>by
 cases dx with
 |int i=>
  cases dy with
  |int j=>
   refine .inl ⟨i,j,rfl,rfl,?_⟩;rw[cW];split
   ·rename_i h;exact .inl ⟨⟨h.1.1,h.1.2,by omega⟩,rfl⟩
   ·exact .inr rfl
  |_=>exact .inr rfl
 |_=>exact .inr rfl
theorem Rw(op:Hq):OpD X CL W (B9 op) (CS op):=by
 cases op with
 |Add=>exact Rx
 |Sub=>exact Y9
 |Mult=>exact Zb
 |FloorDiv=>exact WX
 |Mod=>exact Zc
 |Pow=>exact Za
 |_=>
  intro A pI s σ H x y v u Q I rx ry ⟨hA,dx,dy,hx,hy,p⟩;cases dx<;>cases dy<;>exact p.elim
noncomputable abbrev A0:Ak->Prop:=fun _=>AS
theorem CV.plain(h:CV K CL H A v d):Rep K CL H A0 v d:=by
 rcases h with h|⟨a,xs,ds,rfl,rfl,e,r⟩
 ·exact Rep.sub (fun _ z=>z.elim) d h
 ·exact⟨a,xs,rfl,.inl fun z=>z.elim,SqL.of e,Reps.sub (fun _ z=>z.elim) ds r⟩
mutual
theorem X6:∀(n:Af)(d:D),flD n d=Ab->eqD d d=Ab
 |_,.non,_=>rfl
 |_,.bl b,_=>by simp
 |_,.int i,_=>by simp
 |_,.str x,_=>by simp
 |n+1,.tup ds,h=>by
  show eqDs ds ds=Ab;exact eqDs_refl n ds h
 |n+1,.lst ds,h=>by
  show eqDs ds ds=Ab;exact eqDs_refl n ds h
 |0,.tup ds,h=>by cases h
 |0,.lst ds,h=>by cases h
 |n,.obj _ _,h=>by cases n<;>cases h
 |n,.exc _ _,h=>by cases n<;>cases h
 |n,.dic _,h=>by cases n<;>cases h
theorem eqDs_refl:∀(n:Af)(ds:Ad D),ds.all (flD n)=Ab->eqDs ds ds=Ab
 |_,[],_=>rfl
 |n,d::ds,h=>by
  simp only[FO,Al]at h;simp only[Nw,Al];exact⟨X6 n d h.1,eqDs_refl n ds h.2⟩
end
theorem PM{ys:Ad V}(I:Inv X pI σ H s)(h:SqL X.K H a xs)(h':SqT X.K H a ys):AS:=by
 obtain⟨its,r,⟨o,n,e,c,_,_⟩,_⟩:=I.list h;obtain⟨its',r',⟨o',e',c',_⟩,_⟩:=I.tuple h';rw[e]at e';cases e';rw[c]at c'
 injection c' with z
 exact absurd z (by decide)
mutual
theorem L8{pI:Pn}{σ:L2.St}{H:Hp}{s:Aq}(I:Inv X pI σ H s):∀(n:Af)(d e:D){v:V},flD n d=Ab->flD n e=Ab->Rep X.K CL H A0 v d->Rep X.K CL H A0 v e->d=e
 |n,.tup ds,e,v,hd,he,r,q=>by
  obtain⟨a,xs,rfl,_,s1,r1⟩:=r;cases e with
  |tup es=>
   obtain⟨b,ys,e,_,s2,r2⟩:=q;cases e;have z:=I.tuple_inj s1 s2;subst z;cases n with
   |zero=>cases hd
   |succ n=>rw[reps_inj I n ds es hd he r1 r2]
  |lst es=>
   obtain⟨b,ys,e,_,s2,r2⟩:=q;cases e;exact(PM I s2 s1).elim
  |obj=>cases n<;>cases he
  |exc=>cases n<;>cases he
  |dic=>cases n<;>cases he
  |_=>cases q
 |n,.lst ds,e,v,hd,he,r,q=>by
  obtain⟨a,xs,rfl,_,s1,r1⟩:=r;cases e with
  |lst es=>
   obtain⟨b,ys,e,_,s2,r2⟩:=q;cases e;have z:=I.list_inj s1 s2;subst z;cases n with
   |zero=>cases hd
   |succ n=>rw[reps_inj I n ds es hd he r1 r2]
  |tup es=>
   obtain⟨b,ys,e,_,s2,r2⟩:=q;cases e;exact(PM I s1 s2).elim
  |obj=>cases n<;>cases he
  |exc=>cases n<;>cases he
  |dic=>cases n<;>cases he
  |_=>cases q
 |n,.obj _ _,e,v,hd,he,r,q=>by cases n<;>cases hd
 |n,.exc _ _,e,v,hd,he,r,q=>by cases n<;>cases hd
 |n,.dic _,e,v,hd,he,r,q=>by cases n<;>cases hd
 |n,.non,e,v,hd,he,r,q=>by
  cases r;cases e with
  |tup=>obtain⟨_,_,z,_⟩:=q;cases z
  |lst=>obtain⟨_,_,z,_⟩:=q;cases z
  |obj=>cases n<;>cases he
  |exc=>cases n<;>cases he
  |dic=>cases n<;>cases he
  |_=>cases q<;>rfl
 |n,.bl b,e,v,hd,he,r,q=>by
  cases r;cases e with
  |tup=>obtain⟨_,_,z,_⟩:=q;cases z
  |lst=>obtain⟨_,_,z,_⟩:=q;cases z
  |obj=>cases n<;>cases he
  |exc=>cases n<;>cases he
  |dic=>cases n<;>cases he
  |_=>cases q<;>rfl
 |n,.int b,e,v,hd,he,r,q=>by
  cases r;cases e with
  |tup=>obtain⟨_,_,z,_⟩:=q;cases z
  |lst=>obtain⟨_,_,z,_⟩:=q;cases z
  |obj=>cases n<;>cases he
  |exc=>cases n<;>cases he
  |dic=>cases n<;>cases he
  |_=>cases q<;>rfl
 |n,.str b,e,v,hd,he,r,q=>by
  cases r;cases e with
  |tup=>obtain⟨_,_,z,_⟩:=q;cases z
  |lst=>obtain⟨_,_,z,_⟩:=q;cases z
  |obj=>cases n<;>cases he
  |exc=>cases n<;>cases he
  |dic=>cases n<;>cases he
  |_=>cases q<;>rfl
theorem reps_inj{pI:Pn}{σ:L2.St}{H:Hp}{s:Aq}(I:Inv X pI σ H s):∀(n:Af)(ds es:Ad D){xs:Ad V},ds.all (flD n)=Ab->es.all (flD n)=Ab->Reps X.K CL H A0 xs ds->Reps X.K CL H A0 xs es->ds=es
 |_,[],[],_,_,_,_,_=>rfl
 |n,d::ds,e::es,x::xs,hd,he,r,q=>by
  simp only[FO,Al]at hd he;rw[L8 I n d e hd.1 he.1 r.1 q.1,reps_inj I n ds es hd.2 he.2 r.2 q.2]
 |_,[],_::_,[],_,_,_,q=>q.elim
 |_,[],_::_,_::_,_,_,r,_=>r.elim
 |_,_::_,[],[],_,_,r,_=>r.elim
 |_,_::_,[],_::_,_,_,_,q=>q.elim
 |_,_::_,_::_,[],_,_,r,_=>r.elim
end
theorem K5:∀{ds es:Ad D},ds.length≠es.length->eqDs ds es=Ac
 |[],[],h=>absurd rfl h
 |[],_::_,_=>rfl
 |_::_,[],_=>rfl
 |d::ds,e::es,h=>by
  simp only[Nw,K5 (ds:=ds) (es:=es) (by simpa using h),HZ]
theorem Pk(n:Af)(f:Af->An):(A5 (n+1)).all f=(f 0&&(A5 n).all fun j=>f (j+1)):=by
 rw[Uy,FO,Uj];rfl
theorem K6:∀{ds es:Ad D},ds.length=es.length->eqDs ds es=(A5 ds.length).all fun j=>eqD (ds.getD j .non) (es.getD j .non)
 |[],[],_=>rfl
 |d::ds,e::es,h=>by
  rw[Nw,K6 (ds:=ds) (es:=es) (by simpa using h),By,Pk]
  rfl
 |[],_::_,h=>by cases h
 |_::_,[],h=>by cases h
theorem JA{ds:Ad D}{its:Ad Ai}(r:Reps K CL H A0 xs ds)(rv:Bb xs its)(h:j<its.length):∃ x,Rep K CL H A0 x (ds.getD j .non)/\Bt x its[j]:=by
 have e1:=rv.length;have e2:=r.length;have hd:ds[j]?=Aa (ds.getD j .non):=by
  rw[DE,Cp (by omega)];rfl
 obtain⟨x,hx,q⟩:=r.get hd;obtain⟨u,hu,ru⟩:=rv.get hx;refine⟨x,q,?_⟩;rw[Cp h]at hu;cases hu;exact ru
theorem Jw{ds:Ad D}(h:ds.all (flD n)=Ab)(j:Af):flD n (ds.getD j .non)=Ab:=by
 rw[DE];cases e:ds[j]? with
 |none=>cases n<;>rfl
 |some d=>exact List.all_eq_true.mp h d (De e)
def CG(B:AV)(s:Aq)(u t:Ai)(k:An):Prop:=JP B s u t k/\Gi B s u t k/\IK B s u t (!k)
section
variable{B:AV}{s:Aq}
open SeqAt
theorem gU:CG B s .none .none Ab:=⟨RcAt.none_none,EqAt.same _,RcNeAt.none_none⟩
theorem kE(a b:An):CG B s (.bool a) (.bool b) (a==b):=⟨RcAt.bool_bool _ _,EqAt.bool_bool _ _,RcNeAt.bool_bool _ _⟩
theorem gY(b:An):CG B s .none (.bool b) Ac:=⟨RcAt.none_bool _,EqAt.none_bool _,RcNeAt.none_bool _⟩
theorem kB(b:An):CG B s (.bool b) .none Ac:=⟨RcAt.bool_none _,EqAt.bool_none _,RcNeAt.bool_none _⟩
theorem jX(a:Ag)(t:CT)(b:Ag)(u:CT):CG B s (.int a t) (.int b u) (a==b):=⟨RcAt.int_int _ _ _ _,EqAt.int_int _ _ _ _,RcNeAt.int_int _ _ _ _⟩
theorem iJ(a:Aj)(t:CT)(b:Aj)(u:CT):CG B s (.str a t) (.str b u) (a==b):=⟨RcAt.str_str _ _ _ _,EqAt.str_str _ _ _ _,RcNeAt.str_str _ _ _ _⟩
theorem jU(a:Ag)(t:CT)(b:Aj)(u:CT):CG B s (.int a t) (.str b u) Ac:=⟨RcAt.int_str _ _ _ _,EqAt.int_str _ _ _ _,RcNeAt.int_str _ _ _ _⟩
theorem gP(a:Aj)(t:CT)(b:Ag)(u:CT):CG B s (.str a t) (.int b u) Ac:=⟨RcAt.str_int _ _ _ _,EqAt.str_int _ _ _ _,RcNeAt.str_int _ _ _ _⟩
theorem gX(b:Ag)(u:CT):CG B s .none (.int b u) Ac:=⟨RcAt.none_int _ _,EqAt.none_int _ _,RcNeAt.none_int _ _⟩
theorem jV(b:Ag)(u:CT):CG B s (.int b u) .none Ac:=⟨RcAt.int_none _ _,EqAt.int_none _ _,RcNeAt.int_none _ _⟩
theorem gS(b:Aj)(u:CT):CG B s .none (.str b u) Ac:=⟨RcAt.none_str _ _,EqAt.none_str _ _,RcNeAt.none_str _ _⟩
theorem iK(b:Aj)(u:CT):CG B s (.str b u) .none Ac:=⟨RcAt.str_none _ _,EqAt.str_none _ _,RcNeAt.str_none _ _⟩
theorem kD(a:An)(b:Ag)(u:CT):CG B s (.bool a) (.int b u) (b2i a==b):=⟨RcAt.bool_int _ _ _,EqAt.bool_int _ _ _,RcNeAt.bool_int _ _ _⟩
theorem jY(a:An)(b:Ag)(u:CT):CG B s (.int b u) (.bool a) (b==b2i a):=⟨RcAt.int_bool _ _ _,EqAt.int_bool _ _ _,RcNeAt.int_bool _ _ _⟩
theorem kA(a:An)(b:Aj)(u:CT):CG B s (.bool a) (.str b u) Ac:=⟨RcAt.bool_str _ _ _,EqAt.bool_str _ _ _,RcNeAt.bool_str _ _ _⟩
theorem gQ(a:An)(b:Aj)(u:CT):CG B s (.str b u) (.bool a) Ac:=⟨RcAt.str_bool _ _ _,EqAt.str_bool _ _ _,RcNeAt.str_bool _ _ _⟩
variable{l:Ak}{items:AX Ai}
theorem jQ(h:s.heap.IsList l items)(hu:B.units<B8):CG B s (.ref l) .none Ac:=⟨RcAt.list_none h hu,EqAt.list_none h hu,RcNeAt.list_none h hu⟩
theorem gW(h:s.heap.IsList l items)(hu:B.units<B8):CG B s .none (.ref l) Ac:=⟨RcAt.none_list h hu,EqAt.none_list h hu,RcNeAt.none_list h hu⟩
theorem jS(b:An)(h:s.heap.IsList l items)(hu:B.units<B8):CG B s (.ref l) (.bool b) Ac:=⟨RcAt.list_bool b h hu,EqAt.list_bool b h hu,RcNeAt.list_bool b h hu⟩
theorem kC(b:An)(h:s.heap.IsList l items)(hu:B.units<B8):CG B s (.bool b) (.ref l) Ac:=⟨RcAt.bool_list b h hu,EqAt.bool_list b h hu,RcNeAt.bool_list b h hu⟩
theorem jR(b:Ag)(u:CT)(h:s.heap.IsList l items)(hu:B.units<B8):CG B s (.ref l) (.int b u) Ac:=⟨RcAt.list_int b u h hu,EqAt.list_int b u h hu,RcNeAt.list_int b u h hu⟩
theorem jW(b:Ag)(u:CT)(h:s.heap.IsList l items)(hu:B.units<B8):CG B s (.int b u) (.ref l) Ac:=⟨RcAt.int_list b u h hu,EqAt.int_list b u h hu,RcNeAt.int_list b u h hu⟩
theorem hG(b:Aj)(u:CT)(h:s.heap.IsList l items)(hu:B.units<B8):CG B s (.ref l) (.str b u) Ac:=⟨RcAt.list_str b u h hu,EqAt.list_str b u h hu,RcNeAt.list_str b u h hu⟩
theorem iN(b:Aj)(u:CT)(h:s.heap.IsList l items)(hu:B.units<B8):CG B s (.str b u) (.ref l) Ac:=⟨RcAt.str_list b u h hu,EqAt.str_list b u h hu,RcNeAt.str_list b u h hu⟩
theorem iE(h:s.heap.IsTuple l items)(hu:B.units<B8):CG B s (.ref l) .none Ac:=⟨RcAt.tuple_none h hu,EqAt.tuple_none h hu,RcNeAt.tuple_none h hu⟩
theorem gR(h:s.heap.IsTuple l items)(hu:B.units<B8):CG B s .none (.ref l) Ac:=⟨RcAt.none_tuple h hu,EqAt.none_tuple h hu,RcNeAt.none_tuple h hu⟩
theorem iH(b:An)(h:s.heap.IsTuple l items)(hu:B.units<B8):CG B s (.ref l) (.bool b) Ac:=⟨RcAt.tuple_bool b h hu,EqAt.tuple_bool b h hu,RcNeAt.tuple_bool b h hu⟩
theorem jZ(b:An)(h:s.heap.IsTuple l items)(hu:B.units<B8):CG B s (.bool b) (.ref l) Ac:=⟨RcAt.bool_tuple b h hu,EqAt.bool_tuple b h hu,RcNeAt.bool_tuple b h hu⟩
theorem iG(b:Ag)(u:CT)(h:s.heap.IsTuple l items)(hu:B.units<B8):CG B s (.ref l) (.int b u) Ac:=⟨RcAt.tuple_int b u h hu,EqAt.tuple_int b u h hu,RcNeAt.tuple_int b u h hu⟩
theorem jT(b:Ag)(u:CT)(h:s.heap.IsTuple l items)(hu:B.units<B8):CG B s (.int b u) (.ref l) Ac:=⟨RcAt.int_tuple b u h hu,EqAt.int_tuple b u h hu,RcNeAt.int_tuple b u h hu⟩
theorem iD(b:Aj)(u:CT)(h:s.heap.IsTuple l items)(hu:B.units<B8):CG B s (.ref l) (.str b u) Ac:=⟨RcAt.tuple_str b u h hu,EqAt.tuple_str b u h hu,RcNeAt.tuple_str b u h hu⟩
theorem iI(b:Aj)(u:CT)(h:s.heap.IsTuple l items)(hu:B.units<B8):CG B s (.str b u) (.ref l) Ac:=⟨RcAt.str_tuple b u h hu,EqAt.str_tuple b u h hu,RcNeAt.str_tuple b u h hu⟩
theorem gZ(h:s.heap.IsList l items)(h2:s.heap.IsTuple b items2)(hu:B.units<B8):CG B s (.ref l) (.ref b) Ac:=⟨RcAt.list_tuple h h2 hu,EqAt.list_tuple h h2 hu,RcNeAt.list_tuple h h2 hu⟩
theorem iF(h:s.heap.IsTuple l items)(h2:s.heap.IsList b items2)(hu:B.units<B8):CG B s (.ref l) (.ref b) Ac:=⟨RcAt.tuple_list h h2 hu,EqAt.tuple_list h h2 hu,RcNeAt.tuple_list h h2 hu⟩
end
end
section
variable{X:Cx}{CL:ClA}{W:XW}
theorem Ks(x:PlainL h a its):h.IsList a its:=let ⟨o,n,e,c,_,d⟩:=x;⟨o,e,c,n,d⟩
def mT(X:Cx)(CL:ClA)(H:Hp)(s:Aq)(d:D)(u:Ai):Prop:=match d with
  |.non=>u=.none
  |.bl b=>u=.bool b
  |.int i=>∃ t,u=.int i t
  |.str x=>∃ t,u=.str x t
  |.tup ds=>∃ a xs its,u=.ref a/\Reps X.K CL H A0 xs ds/\Bb xs its/\s.heap.IsTuple a its.toArray
  |.lst ds=>∃ a xs its,u=.ref a/\Reps X.K CL H A0 xs ds/\Bb xs its/\s.heap.IsList a its.toArray
  |_=>AS
theorem QU(I:Inv X pI σ H s)(hd:flD n d=Ab)(r:Rep X.K CL H A0 v d)(q:Bt v u):mT X CL H s d u:=by
 cases d with
 |non=>cases r;exact q
 |bl b=>cases r;exact q
 |int b=>cases r;exact q
 |str b=>cases r;exact q
 |tup ds=>
  obtain⟨a,xs,rfl,_,sq,r⟩:=r;obtain⟨its,rv,p,_⟩:=I.tuple sq;cases q;exact⟨a,xs,its,rfl,r,rv,p⟩
 |lst ds=>
  obtain⟨a,xs,rfl,_,sq,r⟩:=r;obtain⟨its,rv,p,_⟩:=I.list sq;cases q;exact⟨a,xs,its,rfl,r,rv,Ks p⟩
 |obj=>cases n<;>cases hd
 |exc=>cases n<;>cases hd
 |dic=>cases n<;>cases hd
theorem Zv{B:AV}{its:Ad Ai}{ds es:Ad D}(hl:s.heap.IsList l its.toArray)(hb:s.heap.IsList b its2.toArray)(e1:its.length=ds.length)(e2:its2.length=es.length)(hu:B.units<B8)(hs:l=b->eqDs ds es=Ab)(he:∀ j (h1:j<its.length) (h2:j<its2.length),Gi B.in1 s its[j] its2[j] (eqD (ds.getD j .non) (es.getD j .non))):CG B s (.ref l) (.ref b) (eqDs ds es):=by
 have rc:JP B s (.ref l) (.ref b) (eqDs ds es):=by
  by_cases hz:its.length=its2.length
  ·have q:=SeqAt.RcAt.lists (e:=fun j=>eqD (ds.getD j .non) (es.getD j .non)) hl hb (by simpa using hz) hu (fun j h1 h2=>by simpa using he j (by simpa using h1) (by simpa using h2))
   rw[K6 (by omega)]
   have e:its.toArray.size=ds.length:=by simpa using e1
   rw[e]at q;exact q
  ·rw[K5 (by omega)]
   exact SeqAt.RcAt.lists_lengths hl hb (by simpa using hz) hu
 have ne:IK B s (.ref l) (.ref b) (!eqDs ds es):=by
  by_cases hz:its.length=its2.length
  ·have q:=SeqAt.RcNeAt.lists (e:=fun j=>eqD (ds.getD j .non) (es.getD j .non)) hl hb (by simpa using hz) hu (fun j h1 h2=>by simpa using he j (by simpa using h1) (by simpa using h2))
   rw[K6 (by omega)]
   have e:its.toArray.size=ds.length:=by simpa using e1
   rw[e]at q;exact q
  ·rw[K5 (by omega)]
   exact SeqAt.RcNeAt.lists_lengths hl hb (by simpa using hz) hu
 refine⟨rc,?_,ne⟩;by_cases hlb:l=b
 ·rw[hs hlb,hlb];exact Vp _
 ·exact Vo hlb rc
theorem Zu{B:AV}{its:Ad Ai}{ds es:Ad D}(hl:s.heap.IsTuple l its.toArray)(hb:s.heap.IsTuple b its2.toArray)(e1:its.length=ds.length)(e2:its2.length=es.length)(hu:B.units<B8)(hs:l=b->eqDs ds es=Ab)(he:∀ j (h1:j<its.length) (h2:j<its2.length),Gi B.in1 s its[j] its2[j] (eqD (ds.getD j .non) (es.getD j .non))):CG B s (.ref l) (.ref b) (eqDs ds es):=by
 have rc:JP B s (.ref l) (.ref b) (eqDs ds es):=by
  have q:=SeqAt.RcAt.tuples (e:=fun j=>eqD (ds.getD j .non) (es.getD j .non)) hl hb hu (fun j h1 h2=>by simpa using he j (by simpa using h1) (by simpa using h2))
  have e:its.toArray.size=ds.length:=by simpa using e1
  have e':its2.toArray.size=es.length:=by simpa using e2
  rw[e,e']at q;by_cases hz:ds.length=es.length
  ·rw[K6 hz];rw[hz,UG,HG,Ud]at q;rw[hz];exact q
  ·rw[K5 hz];rw[Ds.mpr hz,HZ]at q;exact q
 have ne:IK B s (.ref l) (.ref b) (!eqDs ds es):=by
  have q:=SeqAt.RcNeAt.tuples (e:=fun j=>eqD (ds.getD j .non) (es.getD j .non)) hl hb hu (fun j h1 h2=>by simpa using he j (by simpa using h1) (by simpa using h2))
  have e:its.toArray.size=ds.length:=by simpa using e1
  have e':its2.toArray.size=es.length:=by simpa using e2
  rw[e,e']at q;by_cases hz:ds.length=es.length
  ·rw[K6 hz];rw[hz,UG,HG,Ud]at q;rw[hz];exact q
  ·rw[K5 hz];rw[Ds.mpr hz,HZ]at q;exact q
 refine⟨rc,?_,ne⟩;by_cases hlb:l=b
 ·rw[hs hlb,hlb];exact Vp _
 ·exact Vo hlb rc
theorem Ln{pI:Pn}{σ:L2.St}{H:Hp}{s:Aq}(I:Inv X pI σ H s):∀(n:Af)(d e:D)(v w':V)(u t:Ai)(B:AV),flD n d=Ab->flD n e=Ab->Rep X.K CL H A0 v d->Rep X.K CL H A0 w' e->Bt v u->Bt w' t->B.units+n<B8->CG B s u t (eqD d e)
  |n,d,e,v,w',u,t,B,hd,he,r,q,rv,rw',hu=>by
    have hu0:B.units<B8:=by omega
    have sd:=QU I hd r rv;have se:=QU I he q rw'
    match d,e,sd,se with
    |.non,.non,s1,s2=>cases s1;cases s2;exact gU
    |.non,.bl b,s1,s2=>cases s1;cases s2;exact gY b
    |.non,.int b,s1,s2=>cases s1;obtain⟨_,rfl⟩:=s2;exact gX b _
    |.non,.str b,s1,s2=>cases s1;obtain⟨_,rfl⟩:=s2;exact gS b _
    |.non,.tup es,s1,s2=>cases s1;obtain⟨_,_,_,rfl,_,_,p⟩:=s2;exact gR p hu0
    |.non,.lst es,s1,s2=>cases s1;obtain⟨_,_,_,rfl,_,_,p⟩:=s2;exact gW p hu0
    |.bl a,.non,s1,s2=>cases s1;cases s2;exact kB a
    |.bl a,.bl b,s1,s2=>cases s1;cases s2;exact kE a b
    |.bl a,.int b,s1,s2=>cases s1;obtain⟨_,rfl⟩:=s2;exact kD a b _
    |.bl a,.str b,s1,s2=>cases s1;obtain⟨_,rfl⟩:=s2;exact kA a b _
    |.bl a,.tup es,s1,s2=>cases s1;obtain⟨_,_,_,rfl,_,_,p⟩:=s2;exact jZ a p hu0
    |.bl a,.lst es,s1,s2=>cases s1;obtain⟨_,_,_,rfl,_,_,p⟩:=s2;exact kC a p hu0
    |.int a,.non,s1,s2=>obtain⟨_,rfl⟩:=s1;cases s2;exact jV a _
    |.int a,.bl b,s1,s2=>obtain⟨_,rfl⟩:=s1;cases s2;exact jY b a _
    |.int a,.int b,s1,s2=>obtain⟨_,rfl⟩:=s1;obtain⟨_,rfl⟩:=s2;exact jX a _ b _
    |.int a,.str b,s1,s2=>obtain⟨_,rfl⟩:=s1;obtain⟨_,rfl⟩:=s2;exact jU a _ b _
    |.int a,.tup es,s1,s2=>obtain⟨_,rfl⟩:=s1;obtain⟨_,_,_,rfl,_,_,p⟩:=s2;exact jT a _ p hu0
    |.int a,.lst es,s1,s2=>obtain⟨_,rfl⟩:=s1;obtain⟨_,_,_,rfl,_,_,p⟩:=s2;exact jW a _ p hu0
    |.str a,.non,s1,s2=>obtain⟨_,rfl⟩:=s1;cases s2;exact iK a _
    |.str a,.bl b,s1,s2=>obtain⟨_,rfl⟩:=s1;cases s2;exact gQ b a _
    |.str a,.int b,s1,s2=>obtain⟨_,rfl⟩:=s1;obtain⟨_,rfl⟩:=s2;exact gP a _ b _
    |.str a,.str b,s1,s2=>obtain⟨_,rfl⟩:=s1;obtain⟨_,rfl⟩:=s2;exact iJ a _ b _
    |.str a,.tup es,s1,s2=>obtain⟨_,rfl⟩:=s1;obtain⟨_,_,_,rfl,_,_,p⟩:=s2;exact iI a _ p hu0
    |.str a,.lst es,s1,s2=>obtain⟨_,rfl⟩:=s1;obtain⟨_,_,_,rfl,_,_,p⟩:=s2;exact iN a _ p hu0
    |.tup ds,.non,s1,s2=>cases s2;obtain⟨_,_,_,rfl,_,_,p⟩:=s1;exact iE p hu0
    |.tup ds,.bl b,s1,s2=>cases s2;obtain⟨_,_,_,rfl,_,_,p⟩:=s1;exact iH b p hu0
    |.tup ds,.int b,s1,s2=>obtain⟨_,rfl⟩:=s2;obtain⟨_,_,_,rfl,_,_,p⟩:=s1;exact iG b _ p hu0
    |.tup ds,.str b,s1,s2=>obtain⟨_,rfl⟩:=s2;obtain⟨_,_,_,rfl,_,_,p⟩:=s1;exact iD b _ p hu0
    |.tup ds,.lst es,s1,s2=>obtain⟨_,_,_,rfl,_,_,p⟩:=s1;obtain⟨_,_,_,rfl,_,_,p2⟩:=s2;exact iF p p2 hu0
    |.lst ds,.non,s1,s2=>cases s2;obtain⟨_,_,_,rfl,_,_,p⟩:=s1;exact jQ p hu0
    |.lst ds,.bl b,s1,s2=>cases s2;obtain⟨_,_,_,rfl,_,_,p⟩:=s1;exact jS b p hu0
    |.lst ds,.int b,s1,s2=>obtain⟨_,rfl⟩:=s2;obtain⟨_,_,_,rfl,_,_,p⟩:=s1;exact jR b _ p hu0
    |.lst ds,.str b,s1,s2=>obtain⟨_,rfl⟩:=s2;obtain⟨_,_,_,rfl,_,_,p⟩:=s1;exact hG b _ p hu0
    |.lst ds,.tup es,s1,s2=>obtain⟨_,_,_,rfl,_,_,p⟩:=s1;obtain⟨_,_,_,rfl,_,_,p2⟩:=s2;exact gZ p p2 hu0
    |.tup ds,.tup es,s1,s2=>
      match n,hd,he,hu with
      |n+1,hd,he,hu=>
        obtain⟨a,xs,its,rfl,r1,v1,p1⟩:=s1;obtain⟨b,ys,its2,rfl,r2,v2,p2⟩:=s2;have l1:=v1.length;have l2:=r1.length;have l3:=v2.length;have l4:=r2.length
        refine Zu p1 p2 (by omega) (by omega) hu0 (fun hab=>?_) fun j h1 h2=>?_
        · have e1:v=.ref a:=Bt.inj rv rfl;have e2:w'=.ref b:=Bt.inj rw' rfl;subst e1 e2 hab;have z:=L8 I (n+1) _ _ hd he r q
          injection z with z
          rw[z];exact eqDs_refl n es he
        · obtain⟨x,rx,qx⟩:=JA r1 v1 h1;obtain⟨y,ry,qy⟩:=JA r2 v2 h2;exact(Ln I n _ _ x y _ _ B.in1 (Jw hd j) (Jw he j) rx ry qx qy (by show B.units+1+n<B8;omega)).2.1
    |.lst ds,.lst es,s1,s2=>
      match n,hd,he,hu with
      |n+1,hd,he,hu=>
        obtain⟨a,xs,its,rfl,r1,v1,p1⟩:=s1;obtain⟨b,ys,its2,rfl,r2,v2,p2⟩:=s2;have l1:=v1.length;have l2:=r1.length;have l3:=v2.length;have l4:=r2.length
        refine Zv p1 p2 (by omega) (by omega) hu0 (fun hab=>?_) fun j h1 h2=>?_
        · have e1:v=.ref a:=Bt.inj rv rfl;have e2:w'=.ref b:=Bt.inj rw' rfl;subst e1 e2 hab;have z:=L8 I (n+1) _ _ hd he r q
          injection z with z
          rw[z];exact eqDs_refl n es he
        · obtain⟨x,rx,qx⟩:=JA r1 v1 h1;obtain⟨y,ry,qy⟩:=JA r2 v2 h2;exact(Ln I n _ _ x y _ _ B.in1 (Jw hd j) (Jw he j) rx ry qx qy (by show B.units+1+n<B8;omega)).2.1
    |.obj _ _,_,s1,_=>exact s1.elim
    |.exc _ _,_,s1,_=>exact s1.elim
    |.dic _,_,s1,_=>exact s1.elim
    |_,.obj _ _,_,s2=>exact s2.elim
    |_,.exc _ _,_,s2=>exact s2.elim
    |_,.dic _,_,s2=>exact s2.elim
end
section
variable{X:Cx}{CL:ClA}{W:XW}
theorem Mo(I:Inv X pI σ H s){ds:Ad D}{its:Ad Ai}(B:AV)(hd:flD n d=Ab)(hs:ds.all (flD n)=Ab)(r:Reps X.K CL H A0 xs ds)(rv:Bb xs its)(q:Rep X.K CL H A0 v d)(qv:Bt v u)(hu:B.units+n<B8):∃ e:Ai->An,(∀ y,y∈its.toArray->Gi B s y u (e y))/\its.toArray.any e=ds.any fun y=>eqD y d:=by
 have l1:=rv.length;have l2:=r.length
 have key:∀ y,y∈its->∃ k:An,Gi B s y u k/\∀ j (h:j<its.length),its[j]=y->eqD (ds.getD j .non) d=k:=fun y hy=>by
  obtain⟨j,hj,rfl⟩:=Gx hy;obtain⟨x,rx,qx⟩:=JA r rv hj;refine⟨eqD (ds.getD j .non) d,(Ln I n _ _ x v _ _ B (Jw hs j) hd rx q qx qv hu).2.1,fun j' hj' e=>?_⟩
  obtain⟨x',rx',qx'⟩:=JA r rv hj';rw[e]at qx';have z:=Bt.inj qx qx';subst z;rw[L8 I n _ _ (Jw hs j') (Jw hs j) rx' rx]
 have key2:∀ y,∃ k:An,y∈its->Gi B s y u k/\∀ j (h:j<its.length),its[j]=y->eqD (ds.getD j .non) d=k:=fun y=>by
  by_cases hy:y∈its
  ·obtain⟨k,hk⟩:=key y hy;exact⟨k,fun _=>hk⟩
  ·exact⟨Ab,fun h=>absurd h hy⟩
 refine⟨fun y=>Classical.choose (key2 y),fun y hy=>(F4 (key2 y) (by simpa using hy)).1,?_⟩
 rw[E1];simp only[List.any_toArray,ED];constructor
 ·rintro⟨y,hy,hk⟩;obtain⟨j,hj,rfl⟩:=Gx hy;have z:=(F4 (key2 its[j]) hy).2 j hj rfl;rw[hk]at z;refine⟨ds.getD j .non,?_,z⟩;rw[DE,Cp (by omega)]
  exact DV _
 ·rintro⟨y,hy,hk⟩;obtain⟨j,hj,rfl⟩:=Gx hy;have hj':j<its.length:=by omega
  refine⟨its[j],DV _,?_⟩;have z:=(F4 (key2 its[j]) (DV _)).2 j hj' rfl;rw[<-z,DE,Cp hj];exact hk
theorem LY{g:Ag->Ag->An}(ho:OpR X (CB op) (rI0 fun i j=>.bl (g i j)))(hg:∀ dx dy,(∃ i j,dx=.int i/\dy=.int j/\BK op dx dy=.ok (.bl (g i j)))\/BK op dx dy=.bad):OpD X CL W (CB op) (BK op):=by
 intro A pI s σ H x y v u Q I rx ry ⟨hA,dx,dy,hx,hy,p⟩;rcases hg dx dy with ⟨i,j,rfl,rfl,e⟩|e
 ·have ex:=hx.int_of;have ey:=hy.int_of
  subst ex ey;rw[e]at p;exact ho pI s σ H _ _ v u Q I rx ry ⟨i,j,rfl,rfl,p _ H (AE.refl H) rfl⟩
 ·rw[e]at p;exact p.elim
theorem R9{x:V}(h:CV X.K CL H A x d)(hd:d≠.non):x≠.non:=by
 rintro rfl;have h:=h.plain;cases d with
 |non=>exact hd rfl
 |tup=>obtain⟨_,_,e,_⟩:=h;cases e
 |lst=>obtain⟨_,_,e,_⟩:=h;cases e
 |obj=>obtain⟨_,_,_,_,e,_⟩:=h;cases e
 |exc=>obtain⟨_,_,_,e,_⟩:=h;cases e
 |dic=>exact h.elim
 |_=>cases h
theorem Ka(hu:X.A.units+64<B8)(op:Eh):OpD X CL W (CB op) (BK op):=by
 cases op with
 |Eq=>
  intro A pI s σ H x y v u Q I rx ry ⟨hA,dx,dy,hx,hy,p⟩;rw[kY]at p;split at p
  ·rename_i h;simp only[Al]at h;exact(Ln I 5 dx dy x y v u X.A h.1 h.2 hx.plain hy.plain rx ry (by omega)).1 X.prog X.w X.xe _ ⟨.bl _,H,I,rfl,p _ H (AE.refl H) rfl⟩
  ·exact p.elim
 |NotEq=>
  intro A pI s σ H x y v u Q I rx ry ⟨hA,dx,dy,hx,hy,p⟩;rw[jJ]at p;split at p
  ·rename_i h;simp only[Al]at h;exact(Ln I 5 dx dy x y v u X.A h.1 h.2 hx.plain hy.plain rx ry (by omega)).2.2 X.prog X.w X.xe _ ⟨.bl _,H,I,rfl,p _ H (AE.refl H) rfl⟩
  ·exact p.elim
 |Lt=>exact LY jC fun dx dy=>by cases dx<;>cases dy<;>first|exact .inl ⟨_,_,rfl,rfl,rfl⟩|exact .inr rfl
 |LtE=>exact LY jD fun dx dy=>by cases dx<;>cases dy<;>first|exact .inl ⟨_,_,rfl,rfl,rfl⟩|exact .inr rfl
 |Gt=>exact LY jE fun dx dy=>by cases dx<;>cases dy<;>first|exact .inl ⟨_,_,rfl,rfl,rfl⟩|exact .inr rfl
 |GtE=>exact LY jF fun dx dy=>by cases dx<;>cases dy<;>first|exact .inl ⟨_,_,rfl,rfl,rfl⟩|exact .inr rfl
 |In=>
  intro A pI s σ H x y v u Q I rx ry ⟨hA,dx,dy,hx,hy,p⟩;cases dy with
  |lst es=>
   rw[nC]at p;split at p
   ·rename_i h;simp only[Al]at h;obtain⟨a,xs,e,_,sq,r⟩:=hy.plain;subst e;cases ry;obtain⟨its,rv,pl,_⟩:=I.list sq;obtain⟨e,he,ha⟩:=Mo I (n:=5) X.A.in1 h.1 h.2 r rv hx.plain rx (by show X.A.units+1+5<B8;omega)
    refine SeqAt.in_listAt e (Ks pl) he ?_;rw[ha];exact⟨.bl _,H,I,rfl,p _ H (AE.refl H) rfl⟩
   ·exact p.elim
  |tup es=>
   rw[nB]at p;split at p
   ·rename_i h;simp only[Al]at h;obtain⟨a,xs,e,_,sq,r⟩:=hy.plain;subst e;cases ry;obtain⟨its,rv,pl,_⟩:=I.tuple sq;obtain⟨e,he,ha⟩:=Mo I (n:=5) X.A.in1 h.1 h.2 r rv hx.plain rx (by show X.A.units+1+5<B8;omega)
    refine SeqAt.in_tupleAt e pl he ?_;rw[ha];exact⟨.bl _,H,I,rfl,p _ H (AE.refl H) rfl⟩
   ·exact p.elim
  |dic kvs=>exact hy.plain.elim
  |_=>cases dx<;>exact p.elim
 |NotIn=>
  intro A pI s σ H x y v u Q I rx ry ⟨hA,dx,dy,hx,hy,p⟩;cases dy with
  |lst es=>
   rw[jI]at p;split at p
   ·rename_i h;simp only[Al]at h;obtain⟨a,xs,e,_,sq,r⟩:=hy.plain;subst e;cases ry;obtain⟨its,rv,pl,_⟩:=I.list sq;obtain⟨e,he,ha⟩:=Mo I (n:=5) X.A.in1 h.1 h.2 r rv hx.plain rx (by show X.A.units+1+5<B8;omega)
    refine SeqAt.notIn_listAt e (Ks pl) he ?_;rw[ha];exact⟨.bl _,H,I,rfl,p _ H (AE.refl H) rfl⟩
   ·exact p.elim
  |tup es=>
   rw[jH]at p;split at p
   ·rename_i h;simp only[Al]at h;obtain⟨a,xs,e,_,sq,r⟩:=hy.plain;subst e;cases ry;obtain⟨its,rv,pl,_⟩:=I.tuple sq;obtain⟨e,he,ha⟩:=Mo I (n:=5) X.A.in1 h.1 h.2 r rv hx.plain rx (by show X.A.units+1+5<B8;omega)
    refine SeqAt.notIn_tupleAt e pl he ?_;rw[ha];exact⟨.bl _,H,I,rfl,p _ H (AE.refl H) rfl⟩
   ·exact p.elim
  |_=>cases dx<;>exact p.elim
 |Is=>
  intro A pI s σ H x y v u Q I rx ry ⟨hA,dx,dy,hx,hy,p⟩;cases dy with
  |non=>
   have ey:=hy.non_of;subst ey;refine bY pI s σ H _ _ v u Q I rx ry ⟨rfl,?_⟩;cases dx with
   |non=>
    have ex:=hx.non_of;subst ex;exact p _ H (AE.refl H) rfl
   |exc=>exact p.elim
   |dic=>exact p.elim
   |_=>rw[Dl (R9 hx (by simp))];exact p _ H (AE.refl H) rfl
  |bl b=>
   cases dx with
   |bl a=>
    have ey:=hy.bl_of;have ex:=hx.bl_of;subst ex ey;cases rx;cases ry;refine wpAny_is_plain rfl ⟨.bl (a==b),H,I,?_,p _ H (AE.refl H) rfl⟩;cases a<;>cases b<;>rfl
   |_=>exact p.elim
  |_=>cases dx<;>exact p.elim
 |IsNot=>
  intro A pI s σ H x y v u Q I rx ry ⟨hA,dx,dy,hx,hy,p⟩;cases dy with
  |non=>
   have ey:=hy.non_of;subst ey;refine Zd pI s σ H _ _ v u Q I rx ry ⟨rfl,?_⟩;cases dx with
   |non=>
    have ex:=hx.non_of;subst ex;exact p _ H (AE.refl H) rfl
   |exc=>exact p.elim
   |dic=>exact p.elim
   |_=>rw[Dl (R9 hx (by simp))];exact p _ H (AE.refl H) rfl
  |bl b=>
   cases dx with
   |bl a=>
    have ey:=hy.bl_of;have ex:=hx.bl_of;subst ex ey;cases rx;cases ry;refine wpAny_isNot_plain rfl ⟨.bl (!(a==b)),H,I,?_,p _ H (AE.refl H) rfl⟩;cases a<;>cases b<;>rfl
   |_=>exact p.elim
  |_=>cases dx<;>exact p.elim
end
section
variable{X:Cx}{CL:ClA}{W:XW}{a b c:Ao}{fa fb fc:Rho->R D}{pos:AI}
theorem C8.bind{f:D->R An}{Q:An->Hp->Prop}{Q':VK}(h:C8 W H (r.bind f) Q)(k:∀ d v H',r=.ok d->AE H H'->Rp H' v d->C8 W H' (f d) Q->Q' v H'):Bc Rp W H r Q':=by
 cases r with
 |ok d=>exact fun v H2 s2 q=>k d v H2 rfl s2 q (C8.same s2 h)
 |exn x=>exact h
 |bad=>exact h
theorem C8.bindB{r:R An}{f:An->R An}{Q:An->Hp->Prop}{Q':An->Hp->Prop}(h:C8 W H (r.bind f) Q)(k:∀ b H',r=.ok b->AE H H'->C8 W H' (f b) Q->Q' b H'):C8 W H r Q':=by
 cases r with
 |ok d=>exact fun H2 s2=>k d H2 rfl s2 (C8.same s2 h)
 |exn x=>exact h
 |bad=>exact h
theorem Hx.bind{Rp:Hp->Ad V->Ad D->Prop}{r:R (Ad D)}{f:Ad D->R D}{Q':Ad V->Hp->Prop}(h:Bc Rq W H (r.bind f) Q)(k:∀ d v H',r=.ok d->AE H H'->Rp H' v d->Bc Rq W H' (f d) Q->Q' v H'):Hx Rp W H r Q':=by
 cases r with
 |ok d=>exact fun v H2 s2 q=>k d v H2 rfl s2 q (Bc.same s2 h)
 |exn x=>exact h
 |bad=>exact h
theorem LP{f:An->R D}(h:Bc Rq W H ((Dr d).bind f) Q):∃ c,d=.bl c/\Bc Rq W H (f c) Q:=by
 cases d with
 |bl c=>exact⟨c,rfl,h⟩
 |_=>exact h.elim
theorem RY(ha:ST X CL W a fa):SE X CL W (.UnaryOp .Not a pos) (fun ρ=>(fa ρ).bind fun x=>(Dr x).bind fun b=>.ok (.bl (!b))):=fun A=>PE.weak (dB (ha A)) fun σ H Q ⟨hA,ρ,g,p⟩=>⟨hA,ρ,g,Bc.bind p fun d v H1 _ s1 r1 p1=>by
 obtain⟨c,rfl,p2⟩:=LP p1;exact⟨c,r1.bl_of,p2 _ H1 (AE.refl H1) rfl⟩⟩
theorem Oa{op}(ha:SE X CL W a fa):SE X CL W (.BoolOp op [a] pos) fa:=fun A=>dA (ha A)
theorem R4{rest:Ad Ao}(ha:SE X CL W a fa)(hb:SE X CL W (.BoolOp .And (b::rest) pos) fb):SE X CL W (.BoolOp .And (a::b::rest) pos) (fun ρ=>(fa ρ).bind fun x=>(Dr x).bind fun c=>if c=Ab then fb ρ else .ok (.bl Ac)):=
 fun A=>PE.weak (bU (ha A) (hb A)) fun σ H Q ⟨hA,ρ,g,p⟩=>⟨hA,ρ,g,Bc.bind p fun d v H1 _ s1 r1 p1=>by
  obtain⟨c,rfl,p2⟩:=LP p1;refine⟨c,r1,?_⟩;cases c with
  |true=>exact⟨hA.same s1,ρ,g.same s1,p2⟩
  | false=>exact p2 _ H1 (AE.refl H1) rfl⟩
theorem hJ{rest:Ad Ao}(ha:SE X CL W a fa)(hb:SE X CL W (.BoolOp .Or (b::rest) pos) fb):SE X CL W (.BoolOp .Or (a::b::rest) pos) (fun ρ=>(fa ρ).bind fun x=>(Dr x).bind fun c=>if c=Ab then .ok (.bl Ab) else fb ρ):=
 fun A=>PE.weak (kP (ha A) (hb A)) fun σ H Q ⟨hA,ρ,g,p⟩=>⟨hA,ρ,g,Bc.bind p fun d v H1 _ s1 r1 p1=>by
  obtain⟨c,rfl,p2⟩:=LP p1;refine⟨c,r1,?_⟩;cases c with
  |false=>exact⟨hA.same s1,ρ,g.same s1,p2⟩
  | true=>exact p2 _ H1 (AE.refl H1) rfl⟩
theorem Xa{op':Eh}(hu:X.A.units+64<B8)(ha:ST X CL W a fa)(hb:ST X CL W b fb)(hc:ST X CL W c fc)(hm:IR [op,op'] [b,c]=Ac):SE X CL W (.Compare a [op,op'] [b,c] pos) (fun ρ=>(fa ρ).bind fun x=>(fb ρ).bind fun y=>(BK op x y).bind fun z=>(Dr z).bind fun k=>if k=Ab then (fc ρ).bind fun u=>BK op' y u else .ok (.bl Ac)):=
 fun A=>PE.weak (WV (Ka hu op A) (Ka hu op' A) (ha A) (hb A) (hc A) hm) fun σ H Q ⟨hA,ρ,g,p⟩=>⟨hA,ρ,g,Bc.bind p fun dx x H1 _ s1 r1 p1=>⟨hA.same s1,ρ,g.same s1,Bc.bind p1 fun dy y H2 _ s2 r2 p2=>
  ⟨(hA.same s1).same s2,dx,dy,r1.same s2,r2,Bc.bind p2 fun dz z H3 _ s3 r3 p3=>by
   obtain⟨k,rfl,p4⟩:=LP p3;refine⟨k,r3,?_⟩;cases k with
   |false=>exact p4 _ H3 (AE.refl H3) rfl
   | true=>exact⟨((hA.same s1).same s2).same s3,ρ,((g.same s1).same s2).same s3,Bc.bind p4 fun du u H4 _ s4 r4 p5=>⟨(((hA.same s1).same s2).same s3).same s4,dy,du,(r2.same s3).same s4,r4,p5⟩⟩⟩⟩⟩
theorem aP{xs:Ad D}{i:Ag}(h:DB xs i=.ok d):∃ k,plD xs.length i=Aa k/\xs[k]?=Aa d:=by
 unfold DB at h;split at h
 ·rename_i k e;split at h
  ·rename_i d' e';cases h;exact⟨k,e,e'⟩
  ·cases h
 ·cases h
theorem Qw{xs:Ad D}{i:Ag}(h:DB xs i=.exn x):AS:=by
 unfold DB at h;split at h
 ·split at h<;>cases h
 ·cases h
theorem Q9{ds:Ad D}{i:Ag}(r:Reps K CL H A xs ds)(h:DB ds i=.ok d):∃ v,atI xs i=Aa v/\Rep K CL H A v d:=by
 obtain⟨k,e,q⟩:=aP h;obtain⟨v,hv,rv⟩:=r.get q;refine⟨v,?_,rv⟩;unfold atI;have:ixN xs.length i=Aa k:=by rw[r.length];exact e
 rw[this];exact hv
theorem dS(hs:N9 b)(ha:ST X CL W a fa)(hb:ST X CL W b fb):SE X CL W (.Subscript a b pos) (fun ρ=>(fa ρ).bind fun x=>(fb ρ).bind fun y=>DA x y):=
 fun A=>PE.weak (iZ (r:=fun x y H Q=>Tz X.K x y H Q\/Tx X.K x y H Q) (aC.or fO) (ha A) (hb A) hs) fun σ H Q h=>by
  obtain⟨hA,ρ,g,h⟩:=op2 h;refine⟨hA,ρ,g,?_⟩;cases e:fa ρ with
  |bad=>rw[e]at h;exact h
  |exn x=>rw[e]at h;exact h
  |ok dx0=>
   rw[e]at h;intro x H1 s1 r1;obtain⟨hA1,ρ1,g1,h1⟩:=h x H1 s1 r1;refine⟨hA1,ρ1,g1,?_⟩;cases e1:fb ρ1 with
   |bad=>rw[e1]at h1;exact h1
   |exn x=>rw[e1]at h1;exact h1
   |ok dy0=>
    rw[e1]at h1;intro y H2 s2 r2;obtain⟨hA2,dx,dy,rx,ry,p⟩:=h1 y H2 s2 r2;cases dy with
    |int i=>
     have ey:=ry.int_of;subst ey;cases dx with
     |lst ds=>
      obtain⟨q,xs,rfl,sq,r⟩:=rx.lst_of;rw[lG]at p;cases e2:DB ds i with
      |ok d=>
       rw[e2]at p;obtain⟨v,hv,rv⟩:=Q9 r e2;exact .inl ⟨q,xs,i,v,rfl,rfl,sq,hv,p v H2 (AE.refl H2) rv⟩
      |exn x=>exact(Qw e2).elim
      |bad=>rw[e2]at p;exact p.elim
     |tup ds=>
      obtain⟨q,xs,rfl,_,sq,r⟩:=rx.tup_of;rw[lF]at p;cases e2:DB ds i with
      |ok d=>
       rw[e2]at p;obtain⟨v,hv,rv⟩:=Q9 r e2;exact .inr ⟨q,xs,i,v,rfl,rfl,sq,hv,p v H2 (AE.refl H2) rv⟩
      |exn x=>exact(Qw e2).elim
      |bad=>rw[e2]at p;exact p.elim
     |dic=>exact rx.plain.elim
     |_=>exact p.elim
    |_=>cases dx<;>first|exact p.elim|exact rx.plain.elim
theorem RE:SA X CL W [] (fun _=>.ok []):=fun A=>PA.weak GD fun σ H Q ⟨hA,ρ,g,p⟩=>p [] H (AE.refl H) trivial
theorem Ro(ha:SE X CL W a fa)(hs:SA X CL W es fs)(hst:Ax (a::es) X.env=(Ac,eval a X.env)::Ax es X.env):SA X CL W (a::es) (fun ρ=>(fa ρ).bind fun x=>(fs ρ).bind fun xs=>.ok (x::xs)):=
 fun A=>PA.weak (Eb (ha A) (hs A) hst) fun σ H Q ⟨hA,ρ,g,p⟩=>by
  dsimp only at p;refine⟨hA,ρ,g,?_⟩;cases e:fa ρ with
  |bad=>rw[e]at p;exact p
  |exn x=>rw[e]at p;exact p
  |ok d=>
   rw[e]at p;intro v H1 s1 r1;refine⟨hA.same s1,ρ,g.same s1,?_⟩;cases e1:fs ρ with
   |bad=>rw[R.bind_ok,e1]at p;exact p
   |exn x=>rw[R.bind_ok,e1]at p;exact fun H2 s2=>p H2 (s1.trans s2)
   |ok ds=>
    rw[R.bind_ok,e1]at p;exact fun vs H2 s2 r2=>p (v::vs) H2 (s1.trans s2) ⟨r1.same s2,r2⟩
theorem dL(hs:SA X CL W es fs)(hz:∀ ρ ds,fs ρ=.ok ds->ds.length<=100000):SE X CL W (.Tuple es k pos) (fun ρ=>(fs ρ).bind fun xs=>.ok (.tup xs)):=
 fun A=>PE.weak (RH (hs A)) fun σ H Q ⟨hA,ρ,g,p⟩=>⟨hA,ρ,g,Hx.bind p fun ds vs H1 e s1 r1 p1=>⟨by
  rw[r1.length,C4];have:=hz ρ ds e;omega,fun q hq=>p1 _ _ (FT hq _) (Kb (hA.same s1) hq r1)⟩⟩
def JK(W:XW)(H:Hp)(r:R (Am Ag))(Q:Am Ag->Hp->Prop):Prop:=match r with
  |.ok o=>∀ H',AE H H'->Q o H'
  |.exn x=>∀ H',AE H H'->W x H'
  |.bad=>AS
theorem JK.bind{r:R (Am Ag)}{f:Am Ag->R D}(h:Bc Rq W H (r.bind f) Q)(k:∀ o H',r=.ok o->AE H H'->Bc Rq W H' (f o) Q->Q' o H'):JK W H r Q':=by
 cases r with
 |ok d=>exact fun H2 s2=>k d H2 rfl s2 (Bc.same s2 h)
 |exn x=>exact h
 |bad=>exact h
def SO(X:Cx)(CL:ClA)(W:XW)(e:Am Ao)(f:Rho->R (Am Ag)):Prop:=∀ A,PO X e (fun σ H Q=>AOk H A/\∃ ρ,Good X.K CL A ρ σ H/\JK W H (f ρ) Q)
theorem PO.weak{e:Am Ao}{t t':TO}(h:PO X e t)(k:∀ σ H Q,t' σ H Q->t σ H Q):PO X e t':=fun pI s σ H Q I q=>h pI s σ H Q I (k _ _ _ q)
theorem Zm:SO X CL W Ae (fun _=>.ok Ae):=fun A=>PO.weak Y2 fun σ H Q ⟨hA,ρ,g,p⟩=>p H (AE.refl H)
theorem Zl(ha:ST X CL W a fa):SO X CL W (Aa a) (fun ρ=>(fa ρ).bind fun d=>(EG d).bind fun i=>.ok (Aa i)):=fun A=>PO.weak (Y1 (ha A)) fun σ H Q ⟨hA,ρ,g,p⟩=>by
 dsimp only at p;refine⟨hA,ρ,g,?_⟩;cases e:fa ρ with
 |bad=>rw[e]at p;exact p
 |exn x=>rw[e]at p;exact p
 |ok d=>
  rw[e]at p;intro v H1 s1 r1;cases d with
  |int i=>exact⟨i,r1.int_of,p H1 s1⟩
  |_=>exact p.elim
theorem Rk{ds:Ad D}(lo hi:Am Ag)(r:Reps K CL H A xs ds):Reps K CL H A (Jh xs lo hi) (KJ ds lo hi):=by
 unfold Jh KJ;have e:∀ d o,HT.sIx xs.length d o=Iw ds.length d o:=fun d o=>by rw[r.length];cases o<;>rfl
 rw[e,e,r.length];exact(r.drop _).take _
end
section
variable{X:Cx}{CL:ClA}{W:XW}{a b c:Ao}{fa fb fc:Rho->R D}{pos:AI}
def GJ(K:Fg)(CL:ClA)(H:Hp)(A:Ak->Prop):Ad V->Ad D->Prop
 |[],[]=>HQ
 |v::vs,d::ds=>CV K CL H A v d/\GJ K CL H A vs ds
 |_,_=>AS
theorem GJ.same{K:Fg}{H H':Hp}{A:Ak->Prop}(s:AE H H'):∀{vs:Ad V}{ds:Ad D},GJ K CL H A vs ds->GJ K CL H' A vs ds
 |[],[],h=>h
 |_::_,_::_,h=>⟨h.1.same s,GJ.same s h.2⟩
 |[],_::_,h=>h.elim
 |_::_,[],h=>h.elim
theorem GJ.one{vs:Ad V}(h:GJ K CL H A vs [d]):∃ v,vs=[v]/\CV K CL H A v d:=by
 cases vs with
 |nil=>exact h.elim
 |cons v vs=>
  cases vs with
  |nil=>exact⟨v,rfl,h.1⟩
  |cons=>exact h.2.elim
def SAT(X:Cx)(CL:ClA)(W:XW)(es:Ad Ao)(f:Rho->R (Ad D)):Prop:=∀ A,PA X es (fun σ H Q=>AOk H A/\∃ ρ,Good X.K CL A ρ σ H/\Hx (fun H=>GJ X.K CL H A) W H (f ρ) Q)
theorem Rn:SAT X CL W [] (fun _=>.ok []):=fun A=>PA.weak GD fun σ H Q ⟨hA,ρ,g,p⟩=>p [] H (AE.refl H) trivial
theorem QP(ha:ST X CL W a fa)(hs:SAT X CL W es fs)(hst:Ax (a::es) X.env=(Ac,eval a X.env)::Ax es X.env):SAT X CL W (a::es) (fun ρ=>(fa ρ).bind fun x=>(fs ρ).bind fun xs=>.ok (x::xs)):=
 fun A=>PA.weak (Eb (ha A) (hs A) hst) fun σ H Q ⟨hA,ρ,g,p⟩=>by
  dsimp only at p;refine⟨hA,ρ,g,?_⟩;cases e:fa ρ with
  |bad=>rw[e]at p;exact p
  |exn x=>rw[e]at p;exact p
  |ok d=>
   rw[e]at p;intro v H1 s1 r1;refine⟨hA.same s1,ρ,g.same s1,?_⟩;cases e1:fs ρ with
   |bad=>rw[R.bind_ok,e1]at p;exact p
   |exn x=>rw[R.bind_ok,e1]at p;exact fun H2 s2=>p H2 (s1.trans s2)
   |ok ds=>
    rw[R.bind_ok,e1]at p;exact fun vs H2 s2 r2=>p (v::vs) H2 (s1.trans s2) ⟨r1.same s2,r2⟩
def Ls(X:Cx)(CL:ClA)(W:XW)(f:Ai)(g:Ad D->R D):Prop:=∀ A,Jb X f (fun xs H Q=>AOk H A/\∃ ds,GJ X.K CL H A xs ds/\Bc (fun H=>Rep X.K CL H A) W H (g ds) Q)
theorem R0{x:Aj}{id:Dh}{g:Ad D->R D}(hc:Ls X CL W (.builtin id) g)(hg:Gl X x)(hm:X.mg x=Ae)(hv:C3 x=Aa (.builtin id))(ha:SAT X CL W (e::es) fs)(hn:x≠"__name__")(hdb:(x==("__debug__" : Aj))=Ac)(he:Ax (e::es) X.env=(Ac,eval e X.env)::Ax es X.env)(hpl:∀ pos,(Ce pos (Ax es X.env)).any (·.1)=Ac):SE X CL W (.Call (.Name x p) (e::es) [] pos) (fun ρ=>(fs ρ).bind g):=fun A=>PE.weak (K4 (hc A) hg hm hv (ha A) hn hdb he (hpl _)) fun σ H Q ⟨hA,ρ,gd,q⟩=>⟨hA,ρ,gd,Hx.bind q fun ds vs H1 _ s1 r1 p1=>⟨hA.same s1,ds,r1,p1⟩⟩
theorem dX{x:Aj}{g:Ad D->R D}(hc:Ls X CL W (.type T) g)(hg:Gl X x)(hm:X.mg x=Ae)(hv:C3 x=Aa (.type T))(ha:SAT X CL W (e::es) fs)(hn:x≠"__name__")(hdb:(x==("__debug__" : Aj))=Ac)(he:Ax (e::es) X.env=(Ac,eval e X.env)::Ax es X.env)(hpl:∀ pos,(Ce pos (Ax es X.env)).any (·.1)=Ac):SE X CL W (.Call (.Name x p) (e::es) [] pos) (fun ρ=>(fs ρ).bind g):=fun A=>PE.weak (P9 (hc A) hg hm hv (ha A) hn hdb he (hpl _)) fun σ H Q ⟨hA,ρ,gd,q⟩=>⟨hA,ρ,gd,Hx.bind q fun ds vs H1 _ s1 r1 p1=>⟨hA.same s1,ds,r1,p1⟩⟩
theorem gB:Ls X CL W (.builtin "len") (biD .len):=by
  intro A pI s σ H xs us Q I r ⟨hA,ds,rs,p⟩
  match ds,rs,p with
  |[.lst es],rs,p=>
    obtain⟨v,rfl,rv⟩:=rs.one;obtain⟨q,ys,rfl,sq,ry⟩:=rv.lst_of;exact Pt pI s σ H _ us Q I r ⟨q,ys,rfl,.inl sq,p _ H (AE.refl H) (by rw[ry.length];rfl)⟩
  |[.tup es],rs,p=>
    obtain⟨v,rfl,rv⟩:=rs.one;obtain⟨q,ys,rfl,_,sq,ry⟩:=rv.tup_of;exact Pt pI s σ H _ us Q I r ⟨q,ys,rfl,.inr sq,p _ H (AE.refl H) (by rw[ry.length];rfl)⟩
  |[.str x],rs,p=>
    obtain⟨v,rfl,rv⟩:=rs.one;have e:=rv.str_of;subst e;have p':Bc (fun H=>Rep X.K CL H A) W H (if Ec x.length=Ab then .ok (.int x.length) else .bad) Q:=p
    split at p'
    · rename_i h;exact V6 pI s σ H _ us Q I r ⟨x,rfl,J3 h,p' _ H (AE.refl H) rfl⟩
    · exact p'.elim
  |[],_,p=>exact p.elim
  |[.non],_,p=>exact p.elim
  |[.bl _],_,p=>exact p.elim
  |[.int _],_,p=>exact p.elim
  |[.obj _ _],_,p=>exact p.elim
  |[.exc _ _],_,p=>exact p.elim
  |[.dic _],rs,p=>first|exact p.elim|(obtain⟨v,rfl,rv⟩:=rs.one;exact rv.plain.elim)
  |x::_::_,_,p=>cases x<;>exact p.elim
theorem Yc:Ls X CL W (.type "tuple") (biD .tuple):=by
  intro A pI s σ H xs us Q I r ⟨hA,ds,rs,p⟩
  match ds,rs,p with
  |[.lst es],rs,p=>
    obtain⟨v,rfl,rv⟩:=rs.one;obtain⟨q,ys,rfl,sq,ry⟩:=rv.lst_of;exact Pj pI s σ H _ us Q I r ⟨q,ys,rfl,.inl ⟨sq,fun l hl=>p _ _ (FT hl _) (Kb hA hl ry)⟩⟩
  |[.tup es],rs,p=>
    obtain⟨v,rfl,rv⟩:=rs.one;obtain⟨q,ys,rfl,na,sq,ry⟩:=rv.tup_of;exact Pj pI s σ H _ us Q I r ⟨q,ys,rfl,.inr ⟨sq,p _ H (AE.refl H) ⟨q,ys,rfl,na,sq,ry⟩⟩⟩
  |[],_,p=>exact p.elim
  |[.non],_,p=>exact p.elim
  |[.bl _],_,p=>exact p.elim
  |[.int _],_,p=>exact p.elim
  |[.str _],_,p=>exact p.elim
  |[.obj _ _],_,p=>exact p.elim
  |[.exc _ _],_,p=>exact p.elim
  |[.dic _],rs,p=>first|exact p.elim|(obtain⟨v,rfl,rv⟩:=rs.one;exact rv.plain.elim)
  |x::_::_,_,p=>cases x<;>exact p.elim
end
section
variable{X:Cx}{CL:ClA}{W:XW}{a b c:Ao}{fa fb fc:Rho->R D}{pos:AI}
theorem SB.congr{g:Rho->R An}(h:SB X CL W a f)(e:∀ ρ,g ρ=f ρ):SB X CL W a g:=fun A=>PT.weak (h A) fun σ H Q ⟨hA,ρ,q,p⟩=>⟨hA,ρ,q,by rw[<-e];exact p⟩
theorem R8(ha:SB X CL W a f):SB X CL W (.UnaryOp .Not a pos) (fun ρ=>(f ρ).bind fun b=>.ok (!b)):=fun A=>PT.weak (cT (ha A)) fun σ H Q ⟨hA,ρ,g,p⟩=>⟨hA,ρ,g,C8.bindB p fun b H1 _ s1 p1=>p1 H1 (AE.refl H1)⟩
def SW(X:Cx)(CL:ClA)(W:XW)(e:Ao)(f:Rho->R An):Prop:=∀ A,PW X e (fun σ H Q=>AOk H A/\∃ ρ,Good X.K CL A ρ σ H/\C8 W H (f ρ) Q)
theorem PW.weak{t t':TT}(h:PW X e t)(k:∀ σ H Q,t' σ H Q->t σ H Q):PW X e t':=fun wh pI s σ H Q I q=>h wh pI s σ H Q I (k _ _ _ q)
theorem SW.sb(h:SW X CL W a f):SB X CL W a f:=fun A=>PW.pt (h A)
theorem SW.congr{g:Rho->R An}(h:SW X CL W a f)(e:∀ ρ,g ρ=f ρ):SW X CL W a g:=fun A=>PW.weak (h A) fun σ H Q ⟨hA,ρ,q,p⟩=>⟨hA,ρ,q,by rw[<-e];exact p⟩
theorem Q4(ha:SB X CL W a f):SW X CL W (.BoolOp .And [a] pos) f:=fun A=>YU (ha A)
theorem RQ(ha:SB X CL W a f):SW X CL W (.BoolOp .Or [a] pos) f:=fun A=>cR (ha A)
theorem RS{g:Rho->R An}{rest:Ad Ao}(ha:SB X CL W a f)(hb:SW X CL W (.BoolOp .And (b::rest) pos) g):SW X CL W (.BoolOp .And (a::b::rest) pos) (fun ρ=>(f ρ).bind fun c=>if c=Ab then g ρ else .ok Ac):=
 fun A=>PW.weak (cS (ha A) (hb A)) fun σ H Q ⟨hA,ρ,gd,p⟩=>⟨hA,ρ,gd,C8.bindB p fun c H1 _ s1 p1=>by
  cases c with
  |true=>exact⟨hA.same s1,ρ,gd.same s1,p1⟩
  | false=>exact p1 H1 (AE.refl H1)⟩
theorem SL{g:Rho->R An}{rest:Ad Ao}(ha:SB X CL W a f)(hb:SW X CL W (.BoolOp .Or (b::rest) pos) g):SW X CL W (.BoolOp .Or (a::b::rest) pos) (fun ρ=>(f ρ).bind fun c=>if c=Ab then .ok Ab else g ρ):=
 fun A=>PW.weak (kL (ha A) (hb A)) fun σ H Q ⟨hA,ρ,gd,p⟩=>⟨hA,ρ,gd,C8.bindB p fun c H1 _ s1 p1=>by
  cases c with
  |false=>exact⟨hA.same s1,ρ,gd.same s1,p1⟩
  | true=>exact p1 H1 (AE.refl H1)⟩
theorem dY(ho:OpD X CL W (CB op) g)(ha:ST X CL W a fa)(hb:ST X CL W b fb)(hm:GZ op b=Ac):SB X CL W (.Compare a [op] [b] pos) (fun ρ=>(fa ρ).bind fun x=>(fb ρ).bind fun y=>(g x y).bind Dr):=
 fun A=>PT.weak (YX (ho A) (ha A) (hb A) hm) fun σ H Q ⟨hA,ρ,gd,p⟩=>⟨hA,ρ,gd,C8.bind p fun dx x H1 _ s1 r1 p1=>⟨hA.same s1,ρ,gd.same s1,C8.bind p1 fun dy y H2 _ s2 r2 p2=>
  ⟨(hA.same s1).same s2,dx,dy,r1.same s2,r2,C8.bind p2 fun dz z H3 _ s3 r3 p3=>by
   cases dz with
   |bl k=>exact⟨k,r3,p3 H3 (AE.refl H3)⟩
   | _=>exact p3.elim⟩⟩⟩
theorem Xc{op':Eh}(hu:X.A.units+64<B8)(ha:ST X CL W a fa)(hb:ST X CL W b fb)(hc:ST X CL W c fc)(hm:IR [op,op'] [b,c]=Ac):SB X CL W (.Compare a [op,op'] [b,c] pos) (fun ρ=>(fa ρ).bind fun x=>(fb ρ).bind fun y=>(BK op x y).bind fun z=>(Dr z).bind fun k=>if k=Ab then (fc ρ).bind fun u=>(BK op' y u).bind Dr else .ok Ac):=
  fun A=>PT.weak (Xn (Ka hu op A) (Ka hu op' A) (ha A) (hb A) (hc A) hm) fun σ H Q ⟨hA,ρ,g,p⟩=>⟨hA,ρ,g,C8.bind p fun dx x H1 _ s1 r1 p1=>⟨hA.same s1,ρ,g.same s1,C8.bind p1 fun dy y H2 _ s2 r2 p2=>
    ⟨(hA.same s1).same s2,dx,dy,r1.same s2,r2,C8.bind p2 fun dz z H3 _ s3 r3 p3=>by
      cases dz with
      |bl k=>
        refine⟨k,r3,?_⟩;cases k with
        |false=>exact⟨Ac,rfl,p3 H3 (AE.refl H3)⟩
        | true=>exact⟨((hA.same s1).same s2).same s3,ρ,((g.same s1).same s2).same s3,C8.bind p3 fun du u H4 _ s4 r4 p5=>⟨(((hA.same s1).same s2).same s3).same s4,dy,du,(r2.same s3).same s4,r4,C8.bind p5 fun dv v H5 _ s5 r5 p6=>by
            cases dv with
            |bl k'=>exact⟨k',r5,p6 H5 (AE.refl H5)⟩
            | _=>exact p6.elim⟩⟩
      | _=>exact p3.elim⟩⟩⟩
theorem R7(ha:ST X CL W a fa)(he:∀ whole,Ic a X.env whole=(do let v <-whole;Jm a.pos;holding [v] (truthy v))):SB X CL W a (fun ρ=>(fa ρ).bind BB):=
 fun A=>PT.weak (Xm (ha A) he) fun σ H Q ⟨hA,ρ,g,p⟩=>⟨hA,ρ,g,C8.bind p fun d v H1 _ s1 r1 p1=>by
  cases d with
  |non=>
   have e:=r1.non_of;subst e;exact⟨Ac,rfl,p1 H1 (AE.refl H1)⟩
  |bl b=>
   have e:=r1.bl_of;subst e;exact⟨b,rfl,p1 H1 (AE.refl H1)⟩
  |int i=>
   have e:=r1.int_of;subst e;exact⟨_,rfl,p1 H1 (AE.refl H1)⟩
  |str x=>
   have e:=r1.str_of;subst e;have p2:C8 W H1 (if Ec x.length=Ab then .ok (x.length != 0) else .bad) Q:=p1
   split at p2
   ·rename_i h;refine⟨_,⟨J3 h,rfl⟩,?_⟩;have e:((x.length:Ag) != 0)=(x.length != 0):=by
     rw[E1];simp
    rw[e];exact p2 H1 (AE.refl H1)
   ·exact p2.elim
  |tup ds=>
   obtain⟨q,xs,rfl,_,sq,r⟩:=r1.tup_of;refine⟨_,.inr (.inl ⟨xs,sq,rfl⟩),?_⟩;have e:xs.isEmpty=ds.isEmpty:=by
    have:=r.length;cases xs<;>cases ds<;>first|rfl|cases this
   rw[e];exact p1 H1 (AE.refl H1)
  |lst ds=>
   obtain⟨q,xs,rfl,sq,r⟩:=r1.lst_of;refine⟨_,.inl ⟨xs,sq,rfl⟩,?_⟩;have e:xs.isEmpty=ds.isEmpty:=by
    have:=r.length;cases xs<;>cases ds<;>first|rfl|cases this
   rw[e];exact p1 H1 (AE.refl H1)
  | _=>exact p1.elim⟩
noncomputable def mR(K:Fg)(CL:ClA)(H:Hp)(A:Ak->Prop)(cls:Ai)(dx:Am Ak)(x:Ex):Prop:=
 ∃ C,CL x.c=Aa C/\cls=.ref C/\(x.fs=[]\/∃ d vs,dx=Aa d/\¬ A d/\H d=Aa (.xd vs)/\Repf K CL H A vs x.fs)
def FV(K:Fg)(CL:ClA)(H:Hp)(cls:Ai)(dx:Am Ak)(x:Ex):Prop:=∀ A,AOk H A->mR K CL H A cls dx x
end
def BL(B:Ak->Prop)(ρ:Rho)(σ:L2.St):Ak->Prop:=fun a=>B a\/∃(j:Af)(d:D),ρ[j]?=Aa (Aa (d,Ab))/\σ[j]?=Aa (Aa (.ref a))
structure Sx (K:Fg) (CL:ClA) (Fz:Ak->HO->Prop) (B:Ak->Prop) (ρ:Rho) (σ:L2.St) (H:Hp):Prop where
 good:Good K CL (BL B ρ σ) ρ σ H
 aok:AOk H (BL B ρ σ)
 new:∀(j:Af)(d:D)(a:Ak),ρ[j]?=Aa (Aa (d,Ab))->σ[j]?=Aa (Aa (.ref a))->(∀ o,¬ Fz a o)/\¬ B a
 dis:∀(i j:Af)(d e:D)(a:Ak),ρ[i]?=Aa (Aa (d,Ab))->ρ[j]?=Aa (Aa (e,Ab))->σ[i]?=Aa (Aa (.ref a))->σ[j]?=Aa (Aa (.ref a))->i=j
 same:∀ b o,Fz b o->H b=Aa o
 len:ρ.length=σ.length
def BU(K:Fg)(CL:ClA)(Fz:Ak->HO->Prop)(B:Ak->Prop)(W:XW)(o:O)(D:Ends):Prop:=match o with
  |.next ρ=>∀ σ H,Sx K CL Fz B ρ σ H->D.nx σ H
  |.brk ρ=>∀ σ H,Sx K CL Fz B ρ σ H->D.bk σ H
  |.cont ρ=>∀ σ H,Sx K CL Fz B ρ σ H->D.ct σ H
  |.ret d fr=>∀ v H,(∀ b o,Fz b o->H b=Aa o)->Rep K CL H B v d->(fr=Ab->∀ ds,d=.lst ds->∃ a xs,v=.ref a/\(∀ o,¬ Fz a o)/\H a=Aa (.lst xs)/\Reps K CL H (fun b=>B b\/b=a) xs ds)->D.rt v H
  |.exn x _=>∀ H,(∀ b o,Fz b o->H b=Aa o)->W x H
  |.bad=>AS
section
variable{K:Fg}{CL:ClA}{Fz Fy:Ak->HO->Prop}{B:Ak->Prop}{ρ:Rho}{σ:L2.St}{H H':Hp}
theorem Sx.mono(k:∀ b o,Fz b o->Fy b o)(x:Sx K CL Fy B ρ σ H):Sx K CL Fz B ρ σ H:=⟨x.good,x.aok,fun j d a h1 h2=>⟨fun o z=>(x.new j d a h1 h2).1 o (k _ _ z),(x.new j d a h1 h2).2⟩,x.dis,fun b o z=>x.same b o (k _ _ z),x.len⟩
theorem Sx.grow(x:Sx K CL Fz B ρ σ H)(s:AE H H'):Sx K CL Fz B ρ σ H':=⟨x.good.same s,x.aok.same s,x.new,x.dis,fun b o z=>s _ _ (x.same b o z),x.len⟩
theorem Cj{l:Ad α}{v:α}(h:i≠j):(l.set i v)[j]?=l[j]?:=by rw[Cb h]
theorem GC{l:Ad α}{v w':α}(h:(l.set i v)[i]?=Aa w'):w'=v:=by
 rw[Fq]at h;cases e:l[i]? with
 |none=>rw[e]at h;cases h
 |some x=>rw[e]at h;cases h;rfl
theorem Sx.set(x:Sx K CL Fz B ρ σ H){v:V}{d:D}(i:Af)(r:Rep K CL H (BL B ρ σ) v d):Sx K CL Fz B (ρ.set i (Aa (d,Ac))) (σ.set i (Aa v)) H:=by
 have own:∀(j:Af)(e:D),(ρ.set i (Aa (d,Ac)))[j]?=Aa (Aa (e,Ab))->i≠j/\ρ[j]?=Aa (Aa (e,Ab)):=fun j e h=>by
  by_cases hj:i=j
  ·subst hj;have:=GC h;cases this
  ·exact⟨hj,by rw[Cj hj]at h;exact h⟩
 have sub:∀ a,BL B (ρ.set i (Aa (d,Ac))) (σ.set i (Aa v)) a->BL B ρ σ a:=fun a h=>by
  rcases h with h|⟨j,e,h1,h2⟩
  ·exact .inl h
  ·obtain⟨hj,h1⟩:=own j e h1;rw[Cj hj]at h2;exact .inr ⟨j,e,h1,h2⟩
 refine⟨⟨fun j e h=>?_,fun j e h=>?_,by rw[A3,A3];exact x.len⟩,fun a h=>x.aok a (sub a h),fun j e a h1 h2=>?_,fun j k e f a h1 h2 h3 h4=>?_,x.same,by rw[A3,A3];exact x.len⟩
 ·by_cases hj:i=j
  ·subst hj;have e1:=GC h;cases e1;refine⟨v,?_,Rep.sub sub _ r⟩;have hl:i<σ.length:=by
    rw[<-x.len];have:=(AZ.mp h).1;simpa using this
   rw[Cf hl]
  ·rw[Cj hj]at h;obtain⟨w',q,rw'⟩:=x.good.sh j e h;exact⟨w',by rw[Cj hj];exact q,Rep.sub sub _ rw'⟩
 ·obtain⟨hj,h1⟩:=own j e h;obtain⟨a,xs,ds,q,z,ha,hh,rr⟩:=x.good.ow j e h1;exact⟨a,xs,ds,by rw[Cj hj];exact q,z,.inr ⟨j,e,h,by rw[Cj hj];exact q⟩,hh,Reps.sub sub _ rr⟩
 ·obtain⟨hj,h1⟩:=own j e h1;rw[Cj hj]at h2;exact x.new j e a h1 h2
 ·obtain⟨hj,h1⟩:=own j e h1;obtain⟨hk,h2⟩:=own k f h2;rw[Cj hj]at h3;rw[Cj hk]at h4;exact x.dis j k e f a h1 h2 h3 h4
end
section
variable{X:Cx}{CL:ClA}{W:XW}{pos:AI}{e:Ao}{fe:Rho->R D}
def SS(X:Cx)(CL:ClA)(W:XW)(st:A4)(f:Rho->O):Prop:=∀ Fz B,PS X st (fun D σ H=>∃ ρ,Sx X.K CL Fz B ρ σ H/\BU X.K CL Fz B W (f ρ) D)
def SSs(X:Cx)(CL:ClA)(W:XW)(st:Ad A4)(f:Rho->O):Prop:=∀ Fz B,PSs X st (fun D σ H=>∃ ρ,Sx X.K CL Fz B ρ σ H/\BU X.K CL Fz B W (f ρ) D)
theorem PS.weak{e:A4}{t t':TS}(h:PS X e t)(k:∀ D σ H,t' D σ H->t D σ H):PS X e t':=fun pI s σ H D I q=>h pI s σ H D I (k _ _ _ q)
theorem PSs.weak{e:Ad A4}{t t':TS}(h:PSs X e t)(k:∀ D σ H,t' D σ H->t D σ H):PSs X e t':=fun pI s σ H D I q=>h pI s σ H D I (k _ _ _ q)
theorem BU.ex{f:D->O}(x:Sx X.K CL Fz B ρ σ H)(h:BU X.K CL Fz B W (O.of ρ r f) D')(k:∀ d v H',r=.ok d->AE H H'->Rp H' v d->Sx X.K CL Fz B ρ σ H'->BU X.K CL Fz B W (f d) D'->Q v H'):Bc Rp W H r Q:=by
 cases r with
 |ok d=>exact fun v H' s r=>k d v H' rfl s r (x.grow s) h
 |exn y=>exact fun H' s=>h H' fun b o z=>s _ _ (x.same b o z)
 |bad=>exact h
theorem BU.exB{r:R An}{f:An->O}{Q:An->Hp->Prop}(x:Sx X.K CL Fz B ρ σ H)(h:BU X.K CL Fz B W (O.of ρ r f) D')(k:∀ b H',r=.ok b->AE H H'->Sx X.K CL Fz B ρ σ H'->BU X.K CL Fz B W (f b) D'->Q b H'):C8 W H r Q:=by
 cases r with
 |ok d=>exact fun H' s=>k d H' rfl s (x.grow s) h
 |exn y=>exact fun H' s=>h H' fun b o z=>s _ _ (x.same b o z)
 |bad=>exact h
theorem Zi(he:SE X CL W e fe)(hs:Do e Ae pos.line X.env=pure Ac):SS X CL W (.Expr e pos) (fun ρ=>O.of ρ (fe ρ) fun _=>.next ρ):=fun Fz B pI s σ H D I ⟨ρ,x,p⟩=>
 L9 (he (BL B ρ σ)) hs pI s σ H D I ⟨x.aok,ρ,x.good,BU.ex x p fun d v H' _ s r x' q=>q σ H' x'⟩
theorem aY{n:Aj}(hN:X.N.Nodup)(hi:X.N[i]?=Aa n)(hx:Loc X.env.scope n)(he:SE X CL W e fe)(hs:Do e (Aa (.Name n pos')) pos.line X.env=pure Ac)(hf:X.fn n=Ab\/X.env.scope.names.lookup n=Aa .local):SS X CL W (.Assign [.Name n pos'] e pos) (fun ρ=>O.of ρ (fe ρ) fun d=>.next (ρ.set i (Aa (d,Ac)))):=fun Fz B pI s σ H D I ⟨ρ,x,p⟩=>
 Ml hN hi hx (he (BL B ρ σ)) hs hf pI s σ H D I ⟨x.aok,ρ,x.good,BU.ex x p fun d v H' _ s r x' q=>q _ H' (x'.set i r)⟩
theorem QQ(he:SE X CL W e fe):SS X CL W (.Return (Aa e) pos) (fun ρ=>O.of ρ (fe ρ) fun d=>.ret d Ac):=fun Fz B pI s σ H D I ⟨ρ,x,p⟩=>
 Oq (he (BL B ρ σ)) pI s σ H D I ⟨x.aok,ρ,x.good,BU.ex x p fun d v H' _ s r x' q=>q v H' x'.same (Rep.sub (fun a h=>.inl h) _ r) fun z=>nomatch z⟩
theorem Sz{a b:Ad A4}{fa fb:Rho->O}(hc:SB X CL W c fc)(ha:SSs X CL W a fa)(hb:SSs X CL W b fb):SS X CL W (.If c a b pos) (fun ρ=>O.of ρ (fc ρ) fun k=>if k=Ab then fa ρ else fb ρ):=fun Fz B pI s σ H D I ⟨ρ,x,p⟩=>
 kM (hc (BL B ρ σ)) (ha Fz B) (hb Fz B) pI s σ H D I ⟨x.aok,ρ,x.good,BU.exB x p fun k H' _ s x' q=>by
  cases k with
  |true=>exact⟨ρ,x',q⟩
  | false=>exact⟨ρ,x',q⟩⟩
theorem N0:SSs X CL W [] (fun ρ=>.next ρ):=fun Fz B=>PSs.weak YY fun D σ H ⟨ρ,x,p⟩=>p σ H x
theorem LV{st:A4}{rest:Ad A4}{f g:Rho->O}(h1:SS X CL W st f)(h2:SSs X CL W rest g):SSs X CL W (st::rest) (fun ρ=>(f ρ).seq g):=fun Fz B=>PSs.weak (Qp (h1 Fz B) (h2 Fz B)) fun D σ H ⟨ρ,x,p⟩=>⟨ρ,x,by
 dsimp only at p;cases e:f ρ with
 |next ρ'=>rw[e]at p;exact fun σ' H' x'=>⟨ρ',x',p⟩
 |ret d b=>rw[e]at p;exact p
 |brk ρ'=>rw[e]at p;exact p
 |cont ρ'=>rw[e]at p;exact p
 |exn y ρ'=>rw[e]at p;exact p
 | bad=>rw[e]at p;exact p⟩
end
def IA(K:Fg)(CL:ClA)(A:Ak->Prop)(ds:Ad D)(J:It)(H1:Hp):Prop:=∀ H,Kp A H1 H->∀ i:Af,(ds.length<=i->J.stop i H)/\∀ d,ds[i]?=Aa d->J.go i H/\∀ x H',J.yld i H x H'->AE H H'/\∀ B,(∀ a,B a->A a\/H1 a=Ae)->AOk H B->Rep K CL H' B x d
def EF(K:Fg)(CL:ClA)(A:Ak->Prop)(W:XW)(H:Hp)(r:R (Ad D))(Q:It->Hp->Prop):Prop:=match r with
  |.ok ds=>∀ J H',AE H H'->IA K CL A ds J H'->ds.length<=sizeLine->Q J H'
  |.exn x=>∀ H',AE H H'->W x H'
  |.bad=>AS
def SI(X:Cx)(CL:ClA)(W:XW)(tg iter:Ao)(f:Rho->R (Ad D)):Prop:=∀ A,PI X tg iter (fun σ H R=>AOk H A/\∃ ρ,Good X.K CL A ρ σ H/\EF X.K CL A W H (f ρ) R)
theorem PI.weak{t t':TI}(h:PI X tg e t)(k:∀ σ H Q,t' σ H Q->t σ H Q):PI X tg e t':=fun pI s σ H Q I q=>h pI s σ H Q I (k _ _ _ q)
section
variable{X:Cx}{CL:ClA}{W:XW}{pos p:AI}{tg e a b:Ao}{fe fa fb:Rho->R D}
theorem EF.ex{f:D->R (Ad D)}{Q:It->Hp->Prop}{Q':VK}(h:EF X.K CL A W H (r.bind f) Q)(k:∀ d v H',r=.ok d->AE H H'->Rp H' v d->EF X.K CL A W H' (f d) Q->Q' v H'):Bc Rp W H r Q':=by
  cases r with
  | ok d=>exact fun v H' s q=>k d v H' rfl s q (by
      have h':EF X.K CL A W H (f d) Q:=h;cases e:f d with
      |ok ds=>rw[e]at h';exact fun J H2 s2 y z=>h' J H2 (s.trans s2) y z
      |exn y=>rw[e]at h';exact fun H2 s2=>h' H2 (s.trans s2)
      | bad=>rw[e]at h';exact h')
  |exn y=>exact h
  |bad=>exact h
theorem K0{x:V}(r:Rep K CL H1 A x d)(k:Kp A H1 H)(hB:∀ a,B a->A a\/H1 a=Ae):Rep K CL H B x d:=by
 have r1:Rep K CL H1 (fun a=>A a\/B a) x d:=Rep.wide (fun a ha=>ha.elim .inl (hB a)) _ r
 have r2:Rep K CL H (fun a=>A a\/B a) x d:=Rep.kp (fun b o e na=>k b o e fun z=>na (.inl z)) _ r1
 exact Rep.sub (fun a ha=>.inr ha) _ r2
theorem Wa{ds:Ad D}(na:¬ A q\/KL K q xs)(s:SqL K H q xs)(r:Reps K CL H A xs ds):IA K CL A ds (Itl K q) H:=fun H' k i=>by
 have s':=Ms k na s;refine⟨fun h=>⟨xs,s',by rw[r.length];exact h⟩,fun d hd=>?_⟩
 obtain⟨v,hv,rv⟩:=r.get hd;exact⟨⟨xs,v,s',hv⟩,fun x H2 ⟨e,y⟩=>by
  subst e;have:=y xs s';rw[hv]at this;cases this;exact⟨AE.refl _,fun B hB _=>K0 rv k hB⟩⟩
theorem XC{ds:Ad D}(na:¬ A q\/KT K q xs)(s:SqT K H q xs)(r:Reps K CL H A xs ds):IA K CL A ds (Itt K q) H:=fun H' k i=>by
 have s':=Mr k na s;refine⟨fun h=>⟨xs,s',by rw[r.length];exact h⟩,fun d hd=>?_⟩
 obtain⟨v,hv,rv⟩:=r.get hd;exact⟨⟨xs,v,s',hv⟩,fun x H2 ⟨e,y⟩=>by
  subst e;have:=y xs s';rw[hv]at this;cases this;exact⟨AE.refl _,fun B hB _=>K0 rv k hB⟩⟩
theorem QJ(lo:Ag)(n:Af):IA K CL A (F0 lo n) (Itr lo n) H:=fun H' k i=>by
 refine⟨fun h=>by rw[Nn]at h;exact h,fun d hd=>?_⟩
 obtain⟨h1,rfl⟩:=XU hd;exact⟨h1,fun x H2 ⟨e,y⟩=>by
  subst e y;exact⟨AE.refl _,fun _ _ _=>rfl⟩⟩
theorem cY{l:Ao}{tl:TE}(hl:PE X l tl):PI X tg l (fun σ H R=>tl σ H fun x H1=>(∃ a,x=.ref a/\(∃ xs,SqL X.K H1 a xs/\(xs.length<=sizeLine->R (Itl X.K a) H1)))\/∃ a,x=.ref a/\(∃ xs,SqT X.K H1 a xs/\(xs.length<=sizeLine->R (Itt X.K a) H1))):=by
 intro pI s σ H R I h;refine thn (hl pI s σ H _ I h) fun v s1 ⟨x,H1,I1,r1,q1⟩=>?_
 rcases q1 with ⟨a,e,xs,hq,q⟩|⟨a,e,xs,hq,q⟩
 ·subst e;cases r1;obtain⟨its,rv,p,hz⟩:=I1.list hq;refine Fv p.isList ?_;refine⟨s1.heap.objs.size,[s1.heap.objs.size],_,_,H1,rfl,I1.kept (t':=s1.toks) fun b o e=>Ap _ e,Wl a _,⟨_,AD _ rfl,rfl,rfl⟩,fun b hb=>?_,q hz⟩
  have e:b=s1.heap.objs.size:=by simpa using hb
  subst e;exact I1.fpOk (AU _) (I1.hok.fresh (AU _))
 ·subst e;cases r1;obtain⟨its,rv,p,hz⟩:=I1.tuple hq;refine VQ (show s1.heap.IsTuple a its.toArray from p) ?_
  refine⟨s1.heap.objs.size,[s1.heap.objs.size],_,_,H1,rfl,I1.kept (t':=s1.toks) fun b o e=>Ap _ e,Wo a _,⟨_,AD _ rfl,rfl,rfl⟩,fun b hb=>?_,q hz⟩
  have e:b=s1.heap.objs.size:=by simpa using hb
  subst e;exact I1.fpOk (AU _) (I1.hok.fresh (AU _))
theorem lZ(he:SE X CL W e fe):SI X CL W tg e (fun ρ=>(fe ρ).bind Cw):=fun A=>PI.weak (cY (he A)) fun σ H R ⟨hA,ρ,g,p⟩=>⟨hA,ρ,g,EF.ex p fun d v H1 _ s1 r1 p1=>by
 cases d with
 |lst ds=>
  obtain⟨q,xs,rfl,na,sq,r⟩:=r1;exact .inl ⟨q,rfl,xs,sq,fun hz=>p1 _ H1 (AE.refl H1) (Wa na sq r) (by rw[<-r.length];exact hz)⟩
 |tup ds=>
  obtain⟨q,xs,rfl,na,sq,r⟩:=r1;exact .inr ⟨q,rfl,xs,sq,fun hz=>p1 _ H1 (AE.refl H1) (XC na sq r) (by rw[<-r.length];exact hz)⟩
 | _=>exact p1.elim⟩
theorem P6{lo hi:Ag}{ds:Ad D}(h:DJ lo hi=.ok ds):(-(2 ^ 62)<=lo/\lo<2 ^ 62)/\(-(2 ^ 62)<=hi/\hi<2 ^ 62)/\ds=F0 lo (hi-lo).toNat/\(F0 lo (hi-lo).toNat).length<=sizeLine:=by
 unfold DJ at h;split at h
 ·rename_i q;cases h;exact⟨by omega,by omega,rfl,by rw[Nn,C4];omega⟩
 ·cases h
theorem PC{lo hi:Ag}(h:DJ lo hi=.exn x):AS:=by
 unfold DJ at h;split at h<;>cases h
theorem dJ(ha:ST X CL W a fa)(hg:Gl X "range")(hm:X.mg "range" = Ae)(hs:Ax [a] X.env=[(Ac,eval a X.env)]):SI X CL W tg (.Call (.Name "range" p) [a] [] pos) (fun ρ=>(fa ρ).bind fun x=>(EG x).bind fun j=>DJ 0 j):=
 fun A=>PI.weak (WS hg hm (Eb (ha A) GD hs) hs) fun σ H R ⟨hA,ρ,g,q⟩=>⟨hA,ρ,g,EF.ex q fun d v H1 _ s1 r1 p1=>by
  cases d with
  |int j=>
   have e:=r1.int_of;subst e;have p2:EF X.K CL A W H1 (DJ 0 j) R:=p1;cases e2:DJ 0 j with
   |ok ds=>
    rw[e2]at p2;obtain⟨_,h2,rfl,hz⟩:=P6 e2;exact⟨j,rfl,h2.1,h2.2,p2 _ H1 (AE.refl H1) (by rw[IC];exact QJ 0 j.toNat) hz⟩
   |exn y=>exact(PC e2).elim
   |bad=>rw[e2]at p2;exact p2.elim
  | _=>exact p1.elim⟩
theorem Zo(ha:ST X CL W a fa)(hb:ST X CL W b fb)(hg:Gl X "range")(hm:X.mg "range" = Ae)(hs:Ax [a,b] X.env=[(Ac,eval a X.env),(Ac,eval b X.env)])(hs2:Ax [b] X.env=[(Ac,eval b X.env)]):
  SI X CL W tg (.Call (.Name "range" p) [a,b] [] pos) (fun ρ=>(fa ρ).bind fun x=>(fb ρ).bind fun y=>(EG x).bind fun i=>(EG y).bind fun j=>DJ i j):=
 fun A=>PI.weak (WR hg hm (Eb (ha A) (Eb (hb A) GD hs2) (by rw[hs,hs2])) hs hs2) fun σ H R ⟨hA,ρ,g,q⟩=>⟨hA,ρ,g,EF.ex q fun d v H1 _ s1 r1 p1=>⟨hA.same s1,ρ,g.same s1,EF.ex p1 fun d2 v2 H2 _ s2 r2 p2=>by
  cases d with
  |int i=>
   cases d2 with
   |int j=>
    have e:=r1.int_of;have e':=r2.int_of
    subst e e';have p3:EF X.K CL A W H2 (DJ i j) R:=p2;cases e2:DJ i j with
    |ok ds=>
     rw[e2]at p3;obtain⟨h1,h2,rfl,hz⟩:=P6 e2;exact⟨i,j,rfl,⟨h1.1,h1.2,h2.1,h2.2⟩,p3 _ H2 (AE.refl H2) (QJ _ _) hz⟩
    |exn y=>exact(PC e2).elim
    |bad=>rw[e2]at p3;exact p3.elim
   |_=>exact p2.elim
  | _=>exact p2.elim⟩⟩
theorem BU.exI{r:R (Ad D)}{f:Ad D->O}{Q:It->Hp->Prop}(x:Sx X.K CL Fz B ρ σ H)(h:BU X.K CL Fz B W (O.of ρ r f) D')(k:∀ ds J H',r=.ok ds->AE H H'->IA X.K CL A ds J H'->ds.length<=sizeLine->Sx X.K CL Fz B ρ σ H'->BU X.K CL Fz B W (f ds) D'->Q J H'):EF X.K CL A W H r Q:=by
 cases r with
 |ok d=>exact fun J H' s y z=>k d J H' rfl s y z (x.grow s) h
 |exn y=>exact fun H' s=>h H' fun b o z=>s _ _ (x.same b o z)
 |bad=>exact h
theorem BU.turn{Fy:Ak->HO->Prop}{o:O}{g:Rho->O}{N:L2.St->Hp->Prop}(hf:∀ b q,Fz b q->Fy b q)(h:BU K CL Fz B W (o.turn g) D')(k:∀ ρ' σ' H',Sx K CL Fy B ρ' σ' H'->BU K CL Fz B W (g ρ') D'->N σ' H'):BU K CL Fy B W o {D' with nx:=N,ct:=N,bk:=D'.nx}:=by
 cases o with
 |next ρ'=>exact fun σ' H' x=>k ρ' σ' H' x h
 |cont ρ'=>exact fun σ' H' x=>k ρ' σ' H' x h
 |brk ρ'=>exact fun σ' H' x=>h σ' H' (x.mono hf)
 |ret d b=>exact fun v H' s r n=>h v H' (fun b o z=>s b o (hf b o z)) r fun z ds e=>let ⟨a,xs,h1,h2,h3⟩:=n z ds e;⟨a,xs,h1,fun o q=>h2 o (hf a o q),h3⟩
 |exn y ρ'=>exact fun H' s=>h H' (fun b o z=>s b o (hf b o z))
 |bad=>exact h
noncomputable def Fh(ts:Ad Af)(ρ:Rho):Rho:=ts.foldl (fun ρ t=>ρ.set t Ae) ρ
def GT(K:Fg)(CL:ClA)(as:D->Rho->R Rho)(g:TG):Prop:=∀ Fz B ρ σ H v d ρ' Q,Sx K CL Fz B ρ σ H->Rep K CL H (BL B ρ σ) v d->as d ρ=.ok ρ'->(∀ σ',Sx K CL Fz B ρ' σ' H->Q σ' H)->g v σ H Q
theorem aL(i:Af):GT K CL (fun d ρ=>.ok (ρ.set i (Aa (d,Ac)))) (EX i):=fun Fz B ρ σ H v d ρ' Q x r e k=>by
 cases e;exact k _ (x.set i r)
theorem Om{K:Fg}{Fz:Ak->HO->Prop}{B:Ak->Prop}{H:Hp}:∀(ts:Ad Af)(ds:Ad D)(vs:Ad V)(ρ ρ':Rho)(σ:L2.St)(Q:L2.St->Hp->Prop),Sx K CL Fz B ρ σ H->Reps K CL H (BL B ρ σ) vs ds->EE ts ds ρ=Aa ρ'->(∀ σ',Sx K CL Fz B ρ' σ' H->Q σ' H)->(ts.foldr (fun t u=>Hy (EX t) u) HF) vs σ H Q
 |[],[],[],ρ,ρ',σ,Q,x,_,e,k=>by
  cases e;exact⟨rfl,k σ x⟩
 |t::ts,d::ds,v::vs,ρ,ρ',σ,Q,x,r,e,k=>by
  refine⟨v,vs,rfl,Om ts ds vs _ ρ' _ Q (x.set t r.1) (Reps.sub (fun a ha=>?_) ds r.2) e k⟩
  rcases ha with ha|⟨j,c,h1,h2⟩
  ·exact .inl ha
  ·by_cases hj:t=j
   ·subst hj;have:=GC h1;cases this
   ·rw[Cj hj]at h1 h2;exact .inr ⟨j,c,h1,h2⟩
 |[],_::_,_,_,_,_,_,_,_,e,_=>by cases e
 |_::_,[],_,_,_,_,_,_,_,e,_=>by cases e
 |[],[],_::_,_,_,_,_,_,r,_,_=>r.elim
 |_::_,_::_,[],_,_,_,_,_,r,_,_=>r.elim
theorem LQ:∀(ts:Ad Af)(ds:Ad D)(ρ ρ':Rho),EE ts ds ρ=Aa ρ'->ds.length=ts.length
 |[],[],_,_,_=>rfl
 |_::ts,_::ds,_,_,e=>congrArg (· + 1) (LQ ts ds _ _ e)
 |[],_::_,_,_,e=>by cases e
 |_::_,[],_,_,e=>by cases e
theorem Sb(ts:Ad Af):GT K CL (GH ts) (KI K ts.length (ts.foldr (fun t u=>Hy (EX t) u) HF)):=fun Fz B ρ σ H v d ρ' Q x r e k=>by
 cases d with
 |tup ds=>
  obtain⟨a,xs,rfl,na,sq,rs⟩:=r;rw[PJ]at e;cases e2:EE ts ds ρ with
  |none=>rw[e2]at e;cases e
  |some ρ2=>
   rw[e2]at e;cases e;exact⟨a,xs,rfl,sq,by rw[rs.length];exact LQ _ _ _ _ e2,Om ts ds xs ρ _ σ Q x rs e2 k⟩
 |_=>cases e
theorem RU{body:Ad A4}{fbd:Rho->O}{g:TG}(hp:Fd (model X.prog X.w) X.A X.env X.xe)(hc:X.calm=Ab)(hGT:GT X.K CL as g)(hg:PG X tg g)(hit:SI X CL W tg iter fi)(hb:SSs X CL W body fbd)(hs:∀ x,CU iter X.env x=pure x)(hax:∀ d ρ x,as d ρ≠.exn x):SS X CL W (.For tg iter body [] pos) (fun ρ=>O.of ρ (fi ρ) fun xs=>Dq (fun x ρ'=>O.of ρ' (as x ρ') fbd) xs ρ):=fun Fz B pI s σ H D I ⟨ρ,x,p⟩=>by
 refine cU hp hc (hit (BL B ρ σ)) hg (tb:=fun D σ H=>∃ Fy,(fun D σ H=>∃ ρ,Sx X.K CL Fy B ρ σ H/\BU X.K CL Fy B W (fbd ρ) D) D σ H) (fun pI s σ H D I ⟨Fy,q⟩=>hb Fy B pI s σ H D I q) hs pI s σ H D I ⟨x.aok,ρ,x.good,BU.exI x p fun ds J H1 _ s1 y _ x1 q=>?_⟩
 let Fy:Ak->HO->Prop:=fun b o=>H1 b=Aa o/\¬ ∃(j:Af)(d:Ov.D),ρ[j]?=Aa (Aa (d,Ab))/\σ[j]?=Aa (Aa (.ref b))
 have hfy:∀ b o,Fz b o->Fy b o:=fun b o z=>⟨x1.same b o z,fun ⟨j,d,h1,h2⟩=>(x1.new j d b h1 h2).1 o z⟩
 have xy:Sx X.K CL Fy B ρ σ H1:=⟨x1.good,x1.aok,fun j d a h1 h2=>⟨fun o z=>z.2 ⟨j,d,h1,h2⟩,(x1.new j d a h1 h2).2⟩,x1.dis,fun b o z=>z.1,x1.len⟩
 refine⟨fun k m σ' H'=>m=ds.length-k/\k<=ds.length/\∃ ρ',Sx X.K CL Fy B ρ' σ' H'/\BU X.K CL Fz B W (Dq (fun x ρ'=>O.of ρ' (as x ρ') fbd) (ds.drop k) ρ') D,⟨ds.length,by simp,FJ _,ρ,xy,q⟩,?_⟩
 rintro k m σ' H' ⟨rfl,hk,ρ',x',q'⟩;have kp:Kp (BL B ρ σ) H1 H':=fun b o e na=>x'.same b o ⟨e,fun z=>na (.inr z)⟩
 obtain⟨yst,ygo⟩:=y H' kp k;by_cases hlt:k<ds.length
 ·have hd:ds[k]?=Aa ds[k]:=Cp hlt;obtain⟨hgo,hyl⟩:=ygo _ hd;refine .inr ⟨hgo,fun σ'' H''=>∃ ρ'',Sx X.K CL Fy B ρ'' σ'' H''/\BU X.K CL Fz B W (Dq (fun x ρ'=>O.of ρ' (as x ρ') fbd) (ds.drop (k+1)) ρ'') D,fun σ'' H'' z=>⟨ds.length-(k+1),by omega,rfl,hlt,z⟩,fun v H2 hv=>?_⟩
  obtain⟨e2,rv⟩:=hyl v H2 hv;rw[E2 hlt]at q';have q2:BU X.K CL Fz B W ((O.of ρ' (as ds[k] ρ') fbd).turn (Dq (fun x ρ'=>O.of ρ' (as x ρ') fbd) (ds.drop (k+1)))) D:=q'
  have rv':Rep X.K CL H2 (BL B ρ' σ') v ds[k]:=rv _ (fun a ha=>by
    rcases ha with ha|⟨j,d,h1,h2⟩
    ·exact .inl (.inl ha)
    ·cases e:H1 a with
     |none=>exact .inr rfl
     |some o=>
      by_cases ho:∃(j:Af)(d:Ov.D),ρ[j]?=Aa (Aa (d,Ab))/\σ[j]?=Aa (Aa (.ref a))
      ·exact .inl (.inr ho)
      ·exact absurd ⟨e,ho⟩ ((x'.new j d a h1 h2).1 o)) x'.aok
  cases ea:as ds[k] ρ' with
  |bad=>rw[ea]at q2;exact q2.elim
  |exn z=>exact absurd ea (hax _ _ z)
  |ok ρ2=>
   rw[ea,O.of_ok]at q2;exact hGT Fy B ρ' σ' H2 v ds[k] ρ2 _ (x'.grow e2) rv' ea fun σ3 x3=>⟨Fy,ρ2,x3,BU.turn hfy q2 fun ρ3 σ3 H3 x3 q3=>⟨ρ3,x3,q3⟩⟩
 ·have hk':ds.length<=k:=by omega
  rw[Um hk']at q';exact .inl ⟨yst hk',q' σ' H' (x'.mono hfy)⟩
end
section
variable{X:Cx}{CL:ClA}{W:XW}{a b c:Ao}{fa fb fc:Rho->R D}{pos:AI}
noncomputable def tyK:Ki->Am Dh
 |.int=>Aa "int"
 |.bool=>Aa "bool"
 |.str=>Aa "str"
 |.list=>Aa "list"
 |.tuple=>Aa "tuple"
 |_=>Ae
noncomputable def Os:D->An
 |.obj _ _=>Ac
 |.exc _ _=>Ac
 |.dic _=>Ac
 |_=>Ab
theorem fP{k:Ki}{Q:Vq}{E:Vq}(I:Inv X pI σ H s)(r:CV X.K CL H A v d)(q:Bt v u)(hT:tyK k=Aa T)(hd:Os d=Ab)(h:∀ s',Inv X pI σ H s'->Q (.bool (kiD up k d)) s'):
  At (model X.prog X.w) X.A (call (.builtin "isinstance") [u,.type T]) Q E s:=by
 have r':=r.plain;have it:=fun t=>h _ (I.tok t)
 cases d with
 |obj=>cases hd
 |exc=>cases hd
 |dic=>cases hd
 |non=>
  cases r';cases q;cases k<;>simp only[tyK]at hT<;>cases hT
  ·exact IsiPair.NoneType_int (it _)
  ·exact IsiPair.NoneType_bool (it _)
  ·exact IsiPair.NoneType_str (it _)
  ·exact IsiPair.NoneType_list (it _)
  ·exact IsiPair.NoneType_tuple (it _)
 |bl b=>
  cases r';cases q;cases k<;>simp only[tyK]at hT<;>cases hT
  ·exact IsiPair.bool_int (h _ I)
  ·exact IsiPair.bool_bool (h _ I)
  ·exact IsiPair.bool_str (it _)
  ·exact IsiPair.bool_list (it _)
  ·exact IsiPair.bool_tuple (it _)
 |int i=>
  cases r';obtain⟨t,rfl⟩:=q;cases k<;>simp only[tyK]at hT<;>cases hT
  ·exact IsiPair.int_int (h _ I)
  ·exact IsiPair.int_bool (it _)
  ·exact IsiPair.int_str (it _)
  ·exact IsiPair.int_list (it _)
  ·exact IsiPair.int_tuple (it _)
 |str x=>
  cases r';obtain⟨t,rfl⟩:=q;cases k<;>simp only[tyK]at hT<;>cases hT
  ·exact IsiPair.str_int (it _)
  ·exact IsiPair.str_bool (it _)
  ·exact IsiPair.str_str (h _ I)
  ·exact IsiPair.str_list (it _)
  ·exact IsiPair.str_tuple (it _)
 |tup ds=>
  obtain⟨p,xs,rfl,_,sq,rr⟩:=r';obtain⟨its,rv,pt,_⟩:=I.tuple sq;cases q;have pt':s.heap.IsTuple p its.toArray:=pt;cases k<;>simp only[tyK]at hT<;>cases hT
  ·exact IsiPair.isTuple_int pt' (fun _ _ e=>e) (it _)
  ·exact IsiPair.isTuple_bool pt' (fun _ _ e=>e) (it _)
  ·exact IsiPair.isTuple_str pt' (fun _ _ e=>e) (it _)
  ·exact IsiPair.isTuple_list pt' (fun _ _ e=>e) (it _)
  ·exact IsiPair.isTuple_tuple pt' (fun _ _ e=>e) (h _ I)
 |lst ds=>
  obtain⟨p,xs,rfl,_,sq,rr⟩:=r';obtain⟨its,rv,pl,_⟩:=I.list sq;cases q;have pt':s.heap.IsList p its.toArray:=Ks pl;cases k<;>simp only[tyK]at hT<;>cases hT
  ·exact IsiPair.isList_int pt' (fun _ _ e=>e) (it _)
  ·exact IsiPair.isList_bool pt' (fun _ _ e=>e) (it _)
  ·exact IsiPair.isList_str pt' (fun _ _ e=>e) (it _)
  ·exact IsiPair.isList_list pt' (fun _ _ e=>e) (h _ I)
  ·exact IsiPair.isList_tuple pt' (fun _ _ e=>e) (it _)
theorem WD{k:Ki}(hT:tyK k=Aa T)(p:Bc Rp W H (Ed up [k] d) Q):Os d=Ab/\Bc Rp W H (.ok (.bl (kiD up k d))) Q:=by
 cases k<;>simp only[tyK]at hT<;>cases hT<;>cases d<;>first|exact p.elim|exact⟨rfl,by simpa using p⟩
theorem dP{k:Ki}{x:Aj}(hT:tyK k=Aa T)(hg:Gl X "isinstance")(hm:X.mg "isinstance" = Ae)(hg2:Gl X x)(hm2:X.mg x=Ae)(hv:C3 x=Aa (.type T))(hn:x≠"__name__")(hdb:(x==("__debug__" : Aj))=Ac)(ha:ST X CL W a fa)(he:Ax [a,.Name x p2] X.env=(Ac,eval a X.env)::Ax [.Name x p2] X.env):SE X CL W (.Call (.Name "isinstance" p) [a,.Name x p2] [] pos) (fun ρ=>(fa ρ).bind fun x=>Ed up [k] x):=fun A=>
 PE.weak (K4 (r:=fun xs H Q=>∃ y d,xs=[y,.ty T]/\CV X.K CL H A y d/\Os d=Ab/\Q (.bl (kiD up k d)) H) (fun pI s σ H xs us Q I r ⟨y,d,e,ry,hd,q⟩=>by
   subst e;obtain⟨u,w',rfl,r1,r2⟩:=Lo r;cases r2;exact fP I ry r1 hT hd fun s' I'=>⟨.bl _,H,I',rfl,q⟩)
  hg hm Gf (Eb (ha A) (Eb (Rv (v:=.ty T) hg2 hm2 hv rfl hn hdb) GD rfl) he) (by decide) (by decide) he rfl) fun σ H Q ⟨hA,ρ,g,q⟩=>⟨hA,ρ,g,Bc.bind q fun d v H1 _ s1 r1 p1=>by
   obtain⟨hd,p2⟩:=WD hT p1;exact⟨v,d,rfl,r1,hd,p2 _ H1 (AE.refl H1) rfl⟩⟩
theorem YG{b:An}{A':AV}{E:Vq}{Q:An->Aq->Prop}(r:Rep X.K CL H A v d)(q:Bt v u)(h:Gs d=.ok b)(hq:Q b s):At (model prog w) A' (truthy u) Q E s:=by
 cases d with
 |non=>
  cases r;cases q;cases h;exact truthy_none hq
 |bl k=>
  cases r;cases q;cases h;exact CC hq
 |int i=>
  cases r;obtain⟨t,rfl⟩:=q;cases h;exact truthy_int hq
 |_=>cases h
theorem Pl:∀{ds:Ad D}{b:An},G6 ds=.ok b->(∀ j,j<ds.length->∃ c,Gs (ds.getD j .non)=.ok c)/\b=(A5 ds.length).all fun j=>match Gs (ds.getD j .non) with
  |.ok c=>c
  |_=>Ac
 |[],b,h=>by cases h;exact⟨fun j hj=>absurd hj (UH _),rfl⟩
 |d::ds,b,h=>by
  rw[Ni]at h;cases e:Gs d with
  |bad=>rw[e]at h;cases h
  |exn x=>rw[e]at h;cases h
  |ok c=>
   rw[e,R.bind_ok]at h;cases e2:G6 ds with
   |bad=>rw[e2]at h;cases h
   |exn x=>rw[e2]at h;cases h
   |ok c2=>
    rw[e2,R.bind_ok]at h;cases h;obtain⟨h1,h2⟩:=Pl e2;refine⟨fun j hj=>?_,?_⟩
    ·cases j with
     |zero=>exact⟨c,e⟩
     |succ j=>exact h1 j (by simpa using hj)
    ·rw[By,Pk,h2];show (c&&_)=((match Gs d with | .ok c=>c|_=>Ac)&&_)
     rw[e];rfl
theorem bP{ds:Ad D}{its:Ad Ai}(r:Reps X.K CL H A0 xs ds)(rv:Bb xs its){v:Ai}(h:its.toArray[j]?=Aa v):j<ds.length/\∃ x,Rep X.K CL H A0 x (ds.getD j .non)/\Bt x v:=by
 have h':its[j]?=Aa v:=by simpa using h
 obtain⟨hj,e⟩:=AZ.mp h';obtain⟨x,rx,q⟩:=JA r rv hj;have l1:=rv.length;have l2:=r.length
 exact⟨by omega,x,rx,by rw[<-e];exact q⟩
theorem jP(k:∀ b q,b∉[h.objs.size]->(h.push o).get? b=Aa q->h'.get? b=Aa q):∀ b q,h.get? b=Aa q->h'.get? b=Aa q:=fun b q e=>k b q (by
 intro z;have:=Bu.mp z;rw[this]at e;exact absurd (AC e) (Bf _)) (Ap _ e)
theorem gE(hc:X.calm=Ab):Ls X CL W (.builtin "all") (biD .all):=by
  intro A pI s σ H xs us Q I r ⟨hA,ds,rs,p⟩
  match ds,rs,p with
  |[.lst es],rs,p=>
    obtain⟨v,rfl,rv⟩:=rs.one;obtain⟨q,ys,e,_,sq,ry⟩:=rv.plain;subst e;obtain⟨u,rfl,ru⟩:=Ky r;cases ru;rw[lR]at p;cases e1:G6 es with
    |bad=>rw[e1]at p;exact p.elim
    |exn x=>
      exfalso
      have:∀(es:Ad D) x,G6 es≠.exn x:=by
        intro es
        induction es with
        |nil=>intro x h;cases h
        |cons d ds ih=>
          intro x h;rw[Ni]at h;cases e:Gs d with
          |bad=>rw[e]at h;cases h
          |exn y=>cases d<;>cases e
          |ok c=>
            rw[e,R.bind_ok]at h;cases e2:G6 ds with
            |bad=>rw[e2]at h;cases h
            |exn y=>exact ih y e2
            |ok c2=>rw[e2]at h;cases h
      exact this es x e1
    |ok b=>
      rw[e1,R.bind_ok]at p;obtain⟨h1,h2⟩:=Pl e1;obtain⟨its,rvv,pl,_⟩:=I.list sq;have hlt:q<s.heap.objs.size:=by obtain⟨o,n,e,_⟩:=pl;exact AC e
      have hl:its.toArray.size=es.length:=by rw[AO,<-rvv.length,ry.length]
      refine call_all_walk (Fv (Ks pl) ⟨s.heap.objs.size,_,_,_,_,_,(fun j=>match Gs (es.getD j .non) with | .ok c=>c|_=>Ac),rfl,Walks.list (A:=X.A.in1) (I.ok.hd hc) s.heap.objs.size q (A1 hlt) its.toArray,⟨⟨_,AD _ rfl,rfl,rfl⟩,(Ks pl).push _⟩,fun j v s' Q' E' hv hQ=>?_,fun h' tk k=>?_⟩)
      · obtain⟨hj,x,rx,qx⟩:=bP ry rvv hv;obtain⟨c,ec⟩:=h1 j hj;exact YG rx qx ec (by dsimp only at hQ;rw[ec]at hQ;exact hQ)
      · rw[hl,<-h2];exact⟨.bl b,H,I.kept (jP k),rfl,p _ H (AE.refl H) rfl⟩
  |[],_,p=>exact p.elim
  |[.non],_,p=>exact p.elim
  |[.bl _],_,p=>exact p.elim
  |[.int _],_,p=>exact p.elim
  |[.str _],_,p=>exact p.elim
  |[.tup _],_,p=>exact p.elim
  |[.obj _ _],_,p=>exact p.elim
  |[.exc _ _],_,p=>exact p.elim
  |[.dic _],_,p=>exact p.elim
  |x::_::_,_,p=>cases x<;>exact p.elim
end
section
variable(K:Fg)(CL:ClA)
def lV(H0:Hp)(A:Ak->Prop)(H:Hp)(v:V)(d:D):Prop:=∀ ds,d=.lst ds->∃ a xs,v=.ref a/\H0 a=Ae/\H a=Aa (.lst xs)/\Reps K CL H (fun b=>A b\/b=a) xs ds
def Dv(fr:An)(H0:Hp)(A:Ak->Prop)(H:Hp)(v:V)(d:D):Prop:=Rep K CL H A v d/\(fr=Ab->lV K CL H0 A H v d)
end
section
variable{X:Cx}{CL:ClA}{W:XW}{a b c:Ao}{fa fb fc:Rho->R D}{pos:AI}
def SC(X:Cx)(CL:ClA)(W:XW)(fr:An)(e:Ao)(f:Rho->R D):Prop:=∀ A,PE X e (fun σ H Q=>AOk H A/\∃ ρ,Good X.K CL A ρ σ H/\Bc (Dv X.K CL fr H A) W H (f ρ) Q)
theorem SC.se{fr:An}(h:SC X CL W fr a fa):SE X CL W a fa:=fun A=>PE.weak (h A) fun σ H Q ⟨hA,ρ,g,p⟩=>⟨hA,ρ,g,by
 cases e:fa ρ with
 |ok d=>rw[e]at p;exact fun v H' s r=>p v H' s r.1
 |exn x=>rw[e]at p;exact p
 | bad=>rw[e]at p;exact p⟩
theorem SE.sc(h:SE X CL W a fa):SC X CL W Ac a fa:=fun A=>PE.weak (h A) fun σ H Q ⟨hA,ρ,g,p⟩=>⟨hA,ρ,g,by
 cases e:fa ρ with
 |ok d=>rw[e]at p;exact fun v H' s r=>p v H' s ⟨r,fun z=>nomatch z⟩
 |exn x=>rw[e]at p;exact p
 | bad=>rw[e]at p;exact p⟩
theorem SC.congr{fr:An}{f g:Rho->R D}(h:SC X CL W fr a f)(e:∀ ρ,g ρ=f ρ):SC X CL W fr a g:=fun A=>PE.weak (h A) fun σ H Q ⟨hA,ρ,q,p⟩=>⟨hA,ρ,q,by rw[<-e];exact p⟩
theorem Kd{p:Ak}{ds:Ad D}(s:AE H0 H)(hA:AOk H A)(hp:H p=Ae)(r:Reps K CL H A xs ds):Dv K CL Ab H0 A (upd H p (.lst xs)) (.ref p) (.lst ds):=
 ⟨Ra hA hp r,fun _ ds' e=>by
  cases e;exact⟨p,xs,rfl,s.free hp,Ff,(Reps.wide (fun a ha=>ha.imp id fun e=>by rw[e];exact hp) _ r).same (FT hp _)⟩⟩
theorem Rr{fr:An}(r:Rep K CL H A v d)(h:∀ ds,d≠.lst ds):Dv K CL fr H0 A H v d:=⟨r,fun _ ds e=>absurd e (h ds)⟩
theorem bB(hs:SA X CL W es fs)(hz:∀ ρ ds,fs ρ=.ok ds->ds.length<=100000):SC X CL W Ab (.List es pos) (fun ρ=>(fs ρ).bind fun xs=>.ok (.lst xs)):=
 fun A=>PE.weak (dD (hs A)) fun σ H Q ⟨hA,ρ,g,p⟩=>⟨hA,ρ,g,Hx.bind p fun ds vs H1 e s1 r1 p1=>⟨by
  rw[r1.length,C4];have:=hz ρ ds e;omega,fun q hq=>p1 _ _ (FT hq _) (Kd s1 (hA.same s1) hq r1)⟩⟩
theorem Bc.bindF{fr:An}{f:D->R D}{Q':VK}(h:Bc (Dv K CL fr H A) W H (r.bind f) Q)(k:∀ d v H',r=.ok d->AE H H'->Rp H' v d->Bc (Dv K CL fr H A) W H' (f d) Q->Q' v H'):Bc Rp W H r Q':=by
 cases r with
 |ok d=>exact fun v H2 s2 q=>k d v H2 rfl s2 q (Bc.same s2 h)
 |exn x=>exact h
 |bad=>exact h
theorem Hx.bindF{Rp:Hp->Ad V->Ad D->Prop}{r:R (Ad D)}{f:Ad D->R D}{Q':Ad V->Hp->Prop}(h:Bc Rq W H (r.bind f) Q)(k:∀ d v H',r=.ok d->AE H H'->Rp H' v d->Bc Rq W H' (f d) Q->Q' v H'):Hx Rp W H r Q':=by
 cases r with
 |ok d=>exact fun v H2 s2 q=>k d v H2 rfl s2 q (Bc.same s2 h)
 |exn x=>exact h
 |bad=>exact h
theorem JK.bindF{r:R (Am Ag)}{f:Am Ag->R D}(h:Bc Rq W H (r.bind f) Q)(k:∀ o H',r=.ok o->AE H H'->Bc Rq W H' (f o) Q->Q' o H'):JK W H r Q':=by
 cases r with
 |ok d=>exact fun H2 s2=>k d H2 rfl s2 (Bc.same s2 h)
 |exn x=>exact h
 |bad=>exact h
theorem iX{lo hi:Am Ao}{fl fh:Rho->R (Am Ag)}(ha:ST X CL W a fa)(hl:SO X CL W lo fl)(hh:SO X CL W hi fh):SC X CL W Ab (.Subscript a (.Slice lo hi Ae p2) pos) (fun ρ=>(fa ρ).bind fun x=>(fl ρ).bind fun l=>(fh ρ).bind fun h=>slD x l h):=
 fun A=>PE.weak (Xp (r:=fun x l h H Q=>Tw X.K x l h H Q\/Tv X.K x l h H Q) (fun pI s σ H x v vl vu lo hi sl Q I rx hs pl pu h=>h.elim (Zn pI s σ H x v vl vu lo hi sl Q I rx hs pl pu) (dH pI s σ H x v vl vu lo hi sl Q I rx hs pl pu)) (ha A) (hl A) (hh A)) fun σ H Q ⟨hA,ρ,g,p⟩=>⟨hA,ρ,g,Bc.bindF p fun dx x H1 _ s1 r1 p1=>⟨hA.same s1,ρ,g.same s1,JK.bindF p1 fun l H2 _ s2 p2=>⟨(hA.same s1).same s2,ρ,(g.same s1).same s2,JK.bindF p2 fun h H3 _ s3 p3=>by
  cases dx with
  |lst ds=>
   obtain⟨q,xs,rfl,sq,r⟩:=((r1.same s2).same s3).lst_of;exact .inl ⟨q,xs,rfl,sq,fun t ht=>p3 _ _ (FT ht _) (Kd ((s1.trans s2).trans s3) (((hA.same s1).same s2).same s3) ht (Rk l h r))⟩
  |tup ds=>
   obtain⟨q,xs,rfl,_,sq,r⟩:=((r1.same s2).same s3).tup_of;rw[lY]at p3;split at p3
   ·exact p3.elim
   ·rename_i hw;refine .inr ⟨q,xs,rfl,sq,?_,fun t ht=>p3 _ _ (FT ht _) (Rr (Kb (((hA.same s1).same s2).same s3) ht (Rk l h r)) (by intro _ z;cases z))⟩
    rintro⟨h1,h2⟩;refine hw ?_;have e:∀ d o,HT.sIx xs.length d o=Iw ds.length d o:=fun d o=>by rw[r.length];cases o<;>rfl
    rw[e]at h1 h2;rw[r.length]at h2;simp[h1,h2]
  | _=>exact p3.elim⟩⟩⟩
noncomputable def OpN(X:Cx)(CL:ClA)(W:XW)(f:Ai->Ai->Sem Ai)(g:D->D->R D):Prop:=
 ∀ A H0,OpR X f (fun x y H Q=>AE H0 H/\AOk H A/\∃ dx dy,CV X.K CL H A x dx/\CV X.K CL H A y dy/\Bc (Dv X.K CL Ab H0 A) W H (g dx dy) Q)
theorem Y8:OpN X CL W (B9 .Add) (CS .Add):=by
 intro A H0 pI s σ H x y v u Q I rx ry ⟨s0,hA,dx,dy,hx,hy,p⟩;have key:(∀ ds,dx≠.lst ds)->EP X pI σ Q=EP X pI σ Q->At (model X.prog X.w) X.A (B9 .Add v u) (EP X pI σ Q) X.xe s:=fun hd _=>by
  refine Rx (W:=W) A pI s σ H x y v u Q I rx ry ⟨hA,dx,dy,hx,hy,?_⟩;cases e:CS .Add dx dy with
  |bad=>rw[e]at p;exact p
  |exn x=>rw[e]at p;exact p
  |ok d=>
   rw[e]at p;refine fun v' H' s' r'=>p v' H' s' (Rr r' fun ds z=>?_)
   subst z;cases dx with
   |lst ds=>exact hd _ rfl
   |_=>cases dy<;>first|(cases e;done)|(simp only[CS]at e;split at e<;>cases e)
 cases dx with
 |lst ds=>
  cases dy with
  |lst es=>
   obtain⟨a,xs,rfl,s1,r1⟩:=hx.lst_of;obtain⟨b,ys,rfl,s2,r2⟩:=hy.lst_of;simp only[Sv]at p;split at p
   ·rename_i h;refine Ry pI s σ H _ _ v u Q I rx ry ⟨a,b,xs,ys,rfl,rfl,s1,s2,by rw[r1.length,r2.length];exact J3 h,fun q hq=>?_⟩
    exact p _ _ (FT hq _) (Kd s0 hA hq (r1.append r2))
   ·exact p.elim
  |_=>exact p.elim
 |_=>exact key (by intro _ z;cases z) rfl
theorem dG(ha:ST X CL W a fa)(hb:ST X CL W b fb):SC X CL W Ab (.BinOp a .Add b pos) (fun ρ=>(fa ρ).bind fun x=>(fb ρ).bind fun y=>CS .Add x y):=
 fun A pI s σ H Q I h=>by
  obtain⟨hA,ρ,g,p⟩:=h;exact SQ (Y8 (W:=W) A H) (ha A) (hb A) pI s σ H Q I ⟨hA,ρ,g,Bc.bindF p fun dx x H1 _ s1 r1 p1=>⟨hA.same s1,ρ,g.same s1,Bc.bind (Rq:=Dv X.K CL Ab H A) p1 fun dy y H2 _ s2 r2 p2=>⟨s1.trans s2,(hA.same s1).same s2,dx,dy,r1.same s2,r2,p2⟩⟩⟩
def Th(X:Cx)(CL:ClA)(W:XW)(f:Ai)(g:Ad D->R D):Prop:=∀ A H0,Jb X f (fun xs H Q=>AE H0 H/\AOk H A/\∃ ds,GJ X.K CL H A xs ds/\Bc (Dv X.K CL Ab H0 A) W H (g ds) Q)
theorem ZV:Th X CL W (.type "list") (biD .list):=by
  intro A H0 pI s σ H xs us Q I r ⟨s0,hA,ds,rs,p⟩
  match ds,rs,p with
  |[.lst es],rs,p=>
    obtain⟨v,rfl,rv⟩:=rs.one;obtain⟨q,ys,rfl,sq,ry⟩:=rv.lst_of;exact Ps pI s σ H _ us Q I r ⟨q,ys,rfl,.inl sq,fun l hl=>p _ _ (FT hl _) (Kd s0 hA hl ry)⟩
  |[.tup es],rs,p=>
    obtain⟨v,rfl,rv⟩:=rs.one;obtain⟨q,ys,rfl,_,sq,ry⟩:=rv.tup_of;exact Ps pI s σ H _ us Q I r ⟨q,ys,rfl,.inr sq,fun l hl=>p _ _ (FT hl _) (Kd s0 hA hl ry)⟩
  |[],_,p=>exact p.elim
  |[.non],_,p=>exact p.elim
  |[.bl _],_,p=>exact p.elim
  |[.int _],_,p=>exact p.elim
  |[.str _],_,p=>exact p.elim
  |[.obj _ _],_,p=>exact p.elim
  |[.exc _ _],_,p=>exact p.elim
  |[.dic _],_,p=>exact p.elim
  |x::_::_,_,p=>cases x<;>exact p.elim
theorem dF{x:Aj}{g:Ad D->R D}(hc:Th X CL W (.type T) g)(hg:Gl X x)(hm:X.mg x=Ae)(hv:C3 x=Aa (.type T))(ha:SAT X CL W (e::es) fs)(hn:x≠"__name__")(hdb:(x==("__debug__" : Aj))=Ac)(he:Ax (e::es) X.env=(Ac,eval e X.env)::Ax es X.env)(hpl:∀ pos,(Ce pos (Ax es X.env)).any (·.1)=Ac):SC X CL W Ab (.Call (.Name x p) (e::es) [] pos) (fun ρ=>(fs ρ).bind g):=fun A pI s σ H Q I ⟨hA,ρ,gd,q⟩=>
 P9 (hc A H) hg hm hv (ha A) hn hdb he (hpl _) pI s σ H Q I ⟨hA,ρ,gd,Hx.bindF q fun ds vs H1 _ s1 r1 p1=>⟨s1,hA.same s1,ds,r1,p1⟩⟩
mutual
theorem OB{K:Fg}{H:Hp}{A:Ak->Prop}(hA:AOk H A):∀(n:Af)(d:D){v:V},nlD n d=Ab->Rep K CL H A0 v d->Rep K CL H A v d
 |_,.non,_,_,h=>h
 |_,.bl _,_,_,h=>h
 |_,.int _,_,_,h=>h
 |_,.str _,_,_,h=>h
 |0,.tup _,_,hn,_=>by cases hn
 |n+1,.tup ds,_,hn,h=>by
  obtain⟨a,xs,e,_,s,r⟩:=h;refine⟨a,xs,e,?_,s,nls_up hA n ds hn r⟩;rcases s with s|s
  ·refine .inl fun z=>?_
   obtain⟨ys,q⟩:=hA a z;rcases s with s|⟨o,s⟩<;>rw[q]at s<;>cases s
  ·exact .inr s
 |n,.lst _,_,hn,_=>by cases n<;>cases hn
 |n,.obj _ _,_,hn,_=>by cases n<;>cases hn
 |n,.exc _ _,_,hn,_=>by cases n<;>cases hn
 |n,.dic _,_,hn,_=>by cases n<;>cases hn
theorem nls_up{K:Fg}{H:Hp}{A:Ak->Prop}(hA:AOk H A):∀(n:Af)(ds:Ad D){vs:Ad V},ds.all (nlD n)=Ab->Reps K CL H A0 vs ds->Reps K CL H A vs ds
 |_,[],[],_,h=>h
 |n,d::ds,_::_,hn,h=>by
  simp only[FO,Al]at hn;exact⟨OB hA n d hn.1 h.1,nls_up hA n ds hn.2 h.2⟩
 |_,[],_::_,_,h=>h.elim
 |_,_::_,[],_,h=>h.elim
end
theorem Oh{fr:An}(hA0:AOk H0 A)(s:AE H0 H)(hc:FH fr d=Ab)(r:Dv K CL fr H0 A0 H v d):Dv K CL fr H0 A H v d:=by
 have hA:=hA0.same s;cases d with
 |lst ds=>
  have hc':(fr&&ds.all (nlD 5))=Ab:=hc;rw[Al]at hc';obtain⟨a,xs,e,h0,h1,rs⟩:=r.2 hc'.1 ds rfl;have hA2:AOk H (fun b=>A b\/b=a):=fun b hb=>hb.elim (hA b) fun e=>by rw[e];exact⟨xs,h1⟩
  have rs':=nls_up hA2 5 ds hc'.2 (Reps.sub (fun _ z=>z.elim) _ rs)
  refine⟨⟨a,xs,e,.inl (hA0.new h0),SqL.of h1,Reps.sub (fun _ z=>.inl z) _ rs'⟩,fun _ ds' e'=>?_⟩
  cases e';exact⟨a,xs,e,h0,h1,rs'⟩
 |_=>exact⟨OB hA 5 _ hc r.1,fun _ _ z=>nomatch z⟩
def spD(K:Fg)(CL:ClA)(n:Af)(fr:An)(F:Ad D->R D):Sp:=fun vs H Q E=>∃(ds:Ad D)(A:Ak->Prop),vs.length=n/\AOk H A/\Reps K CL H A vs ds/\(match F ds with
  |.ok d=>∀ v H',AE H H'->Dv K CL fr H A H' v d->Q v H'
  |.exn x=>∀ cls dx H',AE H H'->FV K CL H' cls dx x->E cls dx H'
  | .bad=>AS)
def EKW(K:Fg)(CL:ClA)(A:Ak->Prop)(W:XW):XK:=fun cls dx H'=>∃ x,FV K CL H' cls dx x/\W x H'
theorem GJ.plain{K:Fg}{H:Hp}{A:Ak->Prop}:∀{vs:Ad V}{ds:Ad D},GJ K CL H A vs ds->Reps K CL H A0 vs ds
 |[],[],h=>trivial
 |_::_,_::_,h=>⟨h.1.plain,GJ.plain h.2⟩
 |[],_::_,h=>h.elim
 |_::_,[],h=>h.elim
theorem Zs{CX:CXT}{fr:An}{f:Ak}{fd:BS}{ps:Ad Aj}{F:Ad D->R D}{x:Aj}{ft:Rho->R (Ad D)}{sh:Rho->An}(G:FnOk X.prog X.w X.K X.mg X.base CX k f fd ps (spD X.K CL n fr F))(hr:Room k X.A)(hg:Gl X x)(hm:X.mg x=Aa (.ref f))(hk:Ca X.K (.ref f)=Ab)(hb:FC X.K fd ps [])(hx:∀ A,Ku CX X (EKW X.K CL A W))(ha:SA X CL W (e::es) fs)(hat:SAT X CL W (e::es) ft)(hst:∀ ρ,sh ρ=Ab->ft ρ=fs ρ)(hn:∀ ρ ds,ft ρ=.ok ds->ds.length=n)(hdb:(x==("__debug__" : Aj))=Ac)(he:Ax (e::es) X.env=(Ac,eval e X.env)::Ax es X.env)(hpl:∀ pos,(Ce pos (Ax es X.env)).any (·.1)=Ac):SC X CL W fr (.Call (.Name x p) (e::es) [] pos) (fun ρ=>(ft ρ).bind fun ds=>(F ds).bind fun d=>if sh ρ=Ab then .ok d else if FH fr d=Ab then .ok d else .bad):=fun A pI s σ H Q I ⟨hA,ρ,gd,q⟩=>by
 dsimp only at q;by_cases hs:sh ρ=Ab
 ·rw[hst ρ hs]at q;refine Ru G hr hg hm hk hb .nil (hx A) (ha A) hdb he (hpl _) pI s σ H Q I ⟨hA,ρ,gd,?_⟩;cases e1:fs ρ with
  |bad=>rw[e1]at q;exact q
  |exn y=>rw[e1]at q;exact q
  |ok ds=>
   rw[e1]at q;intro vs H1 s1 r1;refine⟨ds,A,by rw[Cq,r1.length];exact hn ρ ds (by rw[hst ρ hs];exact e1),hA.same s1,by rw[Cq];exact r1,?_⟩
   have q':Bc (Dv X.K CL fr H A) W H ((F ds).bind fun d=>if sh ρ=Ab then .ok d else if FH fr d=Ab then .ok d else .bad) Q:=q
   cases e2:F ds with
   |ok d=>
    rw[e2,R.bind_ok,AF hs]at q';exact fun v H2 s2 r2=>q' v H2 (s1.trans s2) ⟨r2.1,fun z ds' e'=>let ⟨a,xs,z1,z2,z3⟩:=r2.2 z ds' e';⟨a,xs,z1,s1.free z2,z3⟩⟩
   |exn y=>rw[e2]at q';exact fun cls dx H2 s2 xr=>⟨y,xr,q' H2 (s1.trans s2)⟩
   |bad=>rw[e2]at q';exact q'.elim
 ·refine Ru G hr hg hm hk hb .nil (hx A0) (hat A) hdb he (hpl _) pI s σ H Q I ⟨hA,ρ,gd,?_⟩;cases e1:ft ρ with
  |bad=>rw[e1]at q;exact q
  |exn y=>rw[e1]at q;exact q
  |ok ds=>
   rw[e1]at q;intro vs H1 s1 r1;refine⟨ds,A0,by rw[Cq,r1.plain.length];exact hn ρ ds e1,fun _ z=>z.elim,by rw[Cq];exact r1.plain,?_⟩
   have q':Bc (Dv X.K CL fr H A) W H ((F ds).bind fun d=>if sh ρ=Ab then .ok d else if FH fr d=Ab then .ok d else .bad) Q:=q
   cases e2:F ds with
   |ok d=>
    rw[e2,R.bind_ok,AM hs]at q';split at q'
    ·rename_i hc;exact fun v H2 s2 r2=>q' v H2 (s1.trans s2) (Oh hA (s1.trans s2) hc ⟨r2.1,fun z ds' e'=>let ⟨a,xs,z1,z2,z3⟩:=r2.2 z ds' e';⟨a,xs,z1,s1.free z2,z3⟩⟩)
    ·exact q'.elim
   |exn y=>rw[e2]at q';exact fun cls dx H2 s2 xr=>⟨y,xr,q' H2 (s1.trans s2)⟩
   |bad=>rw[e2]at q';exact q'.elim
end
theorem Nd(env:Ch):∀(ns:Ad (Aj×D0))(acc:Ad (Aj×Ak)),(∀ x∈ns,x.2=.free->∃ c,env.cells.lookup x.1=Aa c)->(∀ x c,acc.lookup x=Aa c->env.cells.lookup x=Aa c) ->
  ∃ cl,(forIn ns acc fun(x:Aj×D0)(cs:Ad (Aj×Ak))=>(if (x.2==.free)=Ab then do let c <-cellOf env x.1;pure (Ef ((x.1,c)::cs)) else pure (Ef cs):Sem (ForInStep (Ad (Aj×Ak)))))=pure cl /\
   (∀ x c,cl.lookup x=Aa c->env.cells.lookup x=Aa c)/\(∀ x,((x,DH)∈ns\/∃ c,acc.lookup x=Aa c)->∃ c,cl.lookup x=Aa c)
 |[],acc,_,h2=>⟨acc,by rw[Du],h2,fun x hx=>hx.elim (fun z=>nomatch z) id⟩
 |(n,k)::r,acc,h1,h2=>by
  rw[DC];by_cases hk:k=.free
  ·subst hk;obtain⟨c,hc⟩:=h1 (n,.free) AL rfl;obtain⟨cl,e,p,q⟩:=Nd env r ((n,c)::acc) (fun x hx=>h1 x (AG _ hx)) (fun x d hd=>by
    rw[Bz]at hd;split at hd
    ·rename_i hx;cases hd;rw[eq_of_beq hx];exact hc
    ·exact h2 x d hd)
   refine⟨cl,?_,p,fun x hx=>q x ?_⟩
   ·have e1:cellOf env n=pure c:=by unfold cellOf;dsimp only at hc;rw[hc]
    rw[AF (by rfl),e1]
    exact e
   ·rcases hx with hx|⟨d,hd⟩
    ·rcases Ay.mp hx with z|z
     ·cases z;exact .inr ⟨c,by simp[Bz]⟩
     ·exact .inl z
    ·by_cases hxn:x=n
     ·exact .inr ⟨c,by subst hxn;simp[Bz]⟩
     ·exact .inr ⟨d,by rw[Bz];rw[Ds.mpr hxn];exact hd⟩
  ·obtain⟨cl,e,p,q⟩:=Nd env r acc (fun x hx=>h1 x (AG _ hx)) h2
   refine⟨cl,?_,p,fun x hx=>q x ?_⟩
   ·rw[AM (by simpa using hk)]
    exact e
   ·rcases hx with hx|hx
    ·rcases Ay.mp hx with z|z
     ·cases z;exact absurd rfl hk
     ·exact .inl z
    ·exact .inr hx
theorem PH(h:∀ x∈scope.names,x.2=.free->∃ c,env.cells.lookup x.1=Aa c):∃ cl,closureFor scope env=pure cl/\(∀ x c,cl.lookup x=Aa c->env.cells.lookup x=Aa c)/\∀ x,(x,DH)∈scope.names->∃ c,cl.lookup x=Aa c:=by
 obtain⟨cl,e,p,q⟩:=Nd env scope.names [] h (fun x c z=>by simp at z)
 refine⟨cl,?_,p,fun x hx=>q x (.inl hx)⟩
 unfold closureFor
 first
  |exact e
  |(simp only[bind_pure];exact e)
  |(rw[show (forIn scope.names ([]:Ad (Aj×Ak)) _:Sem _)=pure cl from e];rfl)
theorem Ny:∀(names:Ad (Aj×D0))(h:AB)(acc:Ad (Aj×Ak))(x:Aj)(c:Ak),(CO h.objs.size names acc).lookup x=Aa c->acc.lookup x=Aa c\/((x,BM)∈names/\h.objs.size<=c/\(GX h names).IsCell c Ae)
 |[],_,_,_,_,e=>.inl e
 |(n,k)::r,h,acc,x,c,e=>by
  unfold CO at e;unfold GX;by_cases hk:(k==BM)=Ab
  ·rw[AF hk]at e ⊢;have hs:h.objs.size+1=(h.push { cls:=.type "cell", data:=.cell Ae }).objs.size:=(Bm ..).symm;rw[hs]at e;rcases Ny r _ _ x c e with q|⟨q1,q2,q3⟩
   ·rw[Bz]at q;cases hx:x==n with
    |true=>
     rw[hx]at q;cases q;refine .inr ⟨?_,AU _,?_⟩
     ·rw[eq_of_beq hx,eq_of_beq hk];exact AL
     ·exact⟨_,HK r _ _ _ (AD _ rfl),rfl⟩
    |false=>rw[hx]at q;exact .inl q
   ·exact .inr ⟨AG _ q1,by omega,q3⟩
  ·rw[AM hk]at e ⊢;rcases Ny r h acc x c e with q|⟨q1,q2,q3⟩
   ·exact .inl q
   ·exact .inr ⟨AG _ q1,q2,q3⟩
theorem Nz:∀(names:Ad (Aj×D0))(h:AB)(acc:Ad (Aj×Ak)),(∀ x y c,acc.lookup x=Aa c->acc.lookup y=Aa c->x=y)->(∀ x c,acc.lookup x=Aa c->c<h.objs.size)->∀ x y c,(CO h.objs.size names acc).lookup x=Aa c->(CO h.objs.size names acc).lookup y=Aa c->x=y
 |[],_,_,i,_,x,y,c,e1,e2=>i x y c e1 e2
 |(n,k)::r,h,acc,i,b,x,y,c,e1,e2=>by
  unfold CO at e1 e2;by_cases hk:(k==BM)=Ab
  ·rw[AF hk]at e1 e2;have hs:h.objs.size+1=(h.push { cls:=.type "cell", data:=.cell Ae }).objs.size:=(Bm ..).symm;rw[hs]at e1 e2;have look:∀ z d,FI z ((n,h.objs.size)::acc)=Aa d->(z=n/\d=h.objs.size)\/(z≠n/\acc.lookup z=Aa d):=fun z d q=>by
    rw[Bz]at q;cases hx:z==n with
    |true=>rw[hx]at q;cases q;exact .inl ⟨eq_of_beq hx,rfl⟩
    |false=>rw[hx]at q;exact .inr ⟨fun e=>by rw[e]at hx;simp at hx,q⟩
   refine Nz r _ _ (fun z z' d q q'=>?_) (fun z d q=>?_) x y c e1 e2
   ·rcases look z d q with ⟨rfl,q1⟩|⟨_,q1⟩<;>rcases look z' d q' with ⟨rfl,q2⟩|⟨_,q2⟩
    ·rfl
    ·exact absurd (b _ _ q2) (by rw[q1];exact Bf _)
    ·exact absurd (b _ _ q1) (by rw[q2];exact Bf _)
    ·exact i _ _ _ q1 q2
   ·rw[<-hs];rcases look z d q with ⟨_,q1⟩|⟨_,q1⟩
    ·rw[q1];exact UE _
    ·exact Eo (b _ _ q1)
  ·rw[AM hk]at e1 e2;exact Nz r h acc i b x y c e1 e2
theorem Nf:∀(names:Ad (Aj×D0))(n:Af)(acc:Ad (Aj×Ak))(x:Aj),(x,BM)∉names->(CO n names acc).lookup x=acc.lookup x
 |[],_,_,_,_=>rfl
 |(m,k)::r,n,acc,x,hx=>by
  unfold CO;have hr:(x,BM)∉r:=fun z=>hx (AG _ z)
  by_cases hk:(k==BM)=Ab
  ·rw[AF hk,Nf r _ _ x hr,Bz];cases q:x==m with
   |true=>exact absurd (by rw[eq_of_beq q,eq_of_beq hk];exact AL) hx
   |false=>rfl
  ·rw[AM hk];exact Nf r n acc x hr
theorem NA(n0:Af):∀(names:Ad (Aj×D0))(n:Af)(acc:Ad (Aj×Ak))(x:Aj),n0<=n->((x,BM)∈names\/∃ c,acc.lookup x=Aa c/\n0<=c)->∃ c,(CO n names acc).lookup x=Aa c/\n0<=c
 |[],_,_,_,_,h=>h.elim (fun z=>nomatch z) id
 |(m,k)::r,n,acc,x,hn,h=>by
  unfold CO;by_cases hk:(k==BM)=Ab
  ·rw[AF hk];refine NA n0 r _ _ x (by omega) ?_
   by_cases hx:(x==m)=Ab
   ·exact .inr ⟨n,by rw[Bz,hx],hn⟩
   ·rcases h with h|⟨c,h,hc⟩
    ·rcases Ay.mp h with z|z
     ·cases z;simp at hx
     ·exact .inl z
    ·exact .inr ⟨c,by rw[Bz];simp only[hx];exact h,hc⟩
  ·rw[AM hk];refine NA n0 r _ _ x hn (h.imp (fun h=>?_) id)
   rcases Ay.mp h with z|z
   ·cases z;simp at hk
   ·exact z
theorem V1{M:GO}{A:AV}{E:Vq}{globals:Ak}{qual:Aj}{Q:Ch->Aq->Prop}(hQ:Q (newEnv scope s.heap.objs.size globals (CO (s.heap.objs.size+1) scope.names cl) qual Ae .none (Aa env) Il) { s with heap:=GX (s.heap.push { cls:=.type "dict", data:=.dict #[] }) scope.names }):At M A (Ie scope globals cl [] qual Ae .none (Aa env)) Q E s:=by
 simp only[Ie,Option.isSome_some,EC];refine Ah (wpAny_alloc ?_);refine Ah (wpAny_layCells _ (fun name kind cells=>by cases hkc:kind==BM<;>simp[hkc]) _ _ _ _ ?_)
 rw[show ({ s with heap:=s.heap.push { cls:=.type "dict", data:=.dict #[] } }:Aq).heap.objs.size=s.heap.objs.size+1 from Bm ..]
 rw[Du];exact Ah (As (As hQ))
noncomputable def cxC(X:Cx)(scope:Cm)(cl:Ad (Aj×Ak))(C:Ak)(N':Ad Aj)(s₀:Aq)(H₀:Hp)(fp:Ad Ak):Cx where
 prog:=X.prog
 w:=X.w
 K:=X.K
 mg:=X.mg
 base:=X.base
 A:=X.A
 N:=N'
 s₀:=s₀
 H₀:=H₀
 env:=compEnvC scope cl C X.env
 outer:=X.stack
 stack:=X.stack
 ex:=fp
 fn:=fun x=>scope.names.lookup x==Aa BM
 calm:=X.calm
 pn:=[]
 xe:=fun _ _=>AS
theorem LD{env:Ch}:∀{names:Ad (Aj×D0)}{x:Aj}{k:D0},(names.map fun (n,k)=>if (k==DH&&env.scope.kind==.function&&env.kindOf n==Aa .cell) then (n,BM) else (n,k)).lookup x=Aa k->names.lookup x=Aa k\/(k=.cell/\names.lookup x=Aa .free)
 |[],_,_,h=>by simp at h
 |(n,j)::r,x,k,h=>by
  have ih:=@LD env r x k;have h':FI x ((if (j==DH&&env.scope.kind==.function&&env.kindOf n==Aa .cell)=Ab then (n,BM) else (n,j))::(r.map fun (n,k)=>if (k==DH&&env.scope.kind==.function&&env.kindOf n==Aa .cell) then (n,BM) else (n,k)))=Aa k:=h
  by_cases hc:(j==DH&&env.scope.kind==.function&&env.kindOf n==Aa .cell)=Ab
  ·rw[AF hc]at h';rw[Bz]at h' ⊢;cases hx:x==n with
   |true=>
    rw[hx]at h';cases h';simp only[Al]at hc;exact .inr ⟨rfl,by rw[eq_of_beq hc.1.1]⟩
   |false=>rw[hx]at h';exact ih h'
  ·rw[AM hc]at h';rw[Bz]at h' ⊢;cases hx:x==n with
   |true=>rw[hx]at h';exact .inl h'
   |false=>rw[hx]at h';exact ih h'
structure BlockOk (X:Cx) (scope:Cm) (N':Ad Aj) (ts:Ad Af):Prop where
 kind:scope.kind=.function
 uniq:∀ y∈scope.names,scope.names.lookup y.1=Aa y.2
 names:∀ y∈scope.names,y.2=.local->scope.names.lookup y.1=Aa .local
 free:∀ y∈scope.names,y.2=.free->X.env.scope.names.lookup y.1=Aa .cell\/X.env.scope.names.lookup y.1=Aa .free
 len:N'.length=X.N.length
 same:∀ i x,N'[i]?=Aa x->scope.names.lookup x=Aa .free->i∉ts->X.N[i]?=Aa x
 loc:∀ i x,N'[i]?=Aa x->(scope.names.lookup x=Aa .local\/scope.names.lookup x=Aa .cell)->i∈ts
structure BCells (X:Cx) (scope:Cm) (cl:Ad (Aj×Ak)) (C:Ak) (h:AB):Prop where
 own:∀ x c,cl.lookup x=Aa c->X.env.cells.lookup x=Aa c\/(scope.names.lookup x=Aa .cell/\C<c/\h.IsCell c Ae)
 inj:∀ x y c,cl.lookup x=Aa c->cl.lookup y=Aa c->x=y
 has:∀ x,scope.names.lookup x=Aa .cell->∃ c,cl.lookup x=Aa c/\C<c
 fr:∀ x,(x,DH)∈scope.names->∃ c,cl.lookup x=Aa c/\X.env.cells.lookup x=Aa c
section
variable{X:Cx}{pI:Pn}{σ:L2.St}{H:Hp}{s:Aq}
noncomputable def hideT(ts:Ad Af)(σ:L2.St):L2.St:=ts.foldl (fun σ t=>σ.set t Ae) σ
theorem Nv:∀(ts:Ad Af)(σ:L2.St),(hideT ts σ).length=σ.length
 |[],_=>rfl
 |t::ts,σ=>by show (hideT ts (σ.set t Ae)).length=_;rw[Nv ts,A3]
theorem Qd:∀(ts:Ad Af)(σ:L2.St){i:Af}{v:V},(hideT ts σ)[i]?=Aa (Aa v)->σ[i]?=Aa (Aa v)/\i∉ts
 |[],_,_,_,h=>⟨h,by simp⟩
 |t::ts,σ,i,v,h=>by
  obtain⟨h1,h2⟩:=Qd ts (σ.set t Ae) (i:=i) (v:=v) h;by_cases e:t=i
  ·subst e;have:=GC h1;cases this
  ·rw[Cj e]at h1;exact⟨h1,by simp only[Ay,DN];exact⟨fun z=>e z.symm,h2⟩⟩
theorem Wb{tk:Af}{C:Ak}{m:Aj->Am Ai}(I:Inv X pI σ H s)(B:BlockOk X scope N' ts)(hf:∀ b∈fp,GM X pI H b)(hfo:∀ b∈fp,b<s.heap.objs.size)(hb:BCells X scope cl C h')(hk:∀ b o,s.heap.get? b=Aa o->h'.get? b=Aa o)(hC:s.heap.objs.size<=C)(hn:h'.Ns C m):Inv (cxC X scope cl C N' s H fp) [] (hideT ts σ) H {s with heap:=h',toks:=tk}:=by
 have stf:∀ b∈fp,b∉frs X.stack:=fun b hb z=>by
  rcases Ay.mp (I.stkSub b z) with e|e
  ·exact(hf b hb).2.1 e
  ·exact(hf b hb).2.2.1 e
 have frOf:∀ x,((relabel scope X.env).names.lookup x=Aa .cell\/(relabel scope X.env).names.lookup x=Aa .free)->scope.names.lookup x=Aa .free\/scope.names.lookup x=Aa .cell:=fun x hx=>by
  rcases hx with z|z
  ·rcases LD z with z|⟨_,z⟩
   ·exact .inr z
   ·exact .inl z
  ·rcases LD z with z|⟨z,_⟩
   ·exact .inl z
   ·cases z
 have gtC:∀ c:Ak,C<c->s.heap.objs.size<=c:=fun c z=>BR hC (Et z)
 have cellK:∀ c v,s.heap.IsCell c v->h'.IsCell c v:=fun c v ⟨o,ho,hd⟩=>⟨o,hk _ _ ho,hd⟩
 refine⟨⟨I.ok.mod,B.kind,I.ok.glob,I.ok.blt,hC,hb.inj,fun x hx=>?_,fun x c h e=>?_,I.ok.hd,I.ok.frames,.inl rfl,fun b hbb=>⟨?_,fun x c e=>?_⟩,I.bs,BR I.ok.bsz I.sz,fun b o e hbb=>?_,stf,I.stack,I.stkFree⟩,rfl,I.bare,Un.kept hk,⟨m,hn,fun i x v h1 h2 h3=>?_⟩,fun x c e=>?_,I.hok.fresh hC,fun x c e=>(hb.own x c e).elim (I.freeC x c) (fun z=>I.hok.fresh (gtC c z.2.1)),fun p hp=>absurd (show p∈([]:Pn) from hp) (by simp),I.hok.kept hk,?_⟩
 ·rcases frOf x hx with z|z
  ·obtain⟨c,q,_⟩:=hb.fr x (CD z);exact⟨c,q⟩
  ·obtain⟨c,q,_⟩:=hb.has x z;exact⟨c,q⟩
 ·obtain⟨c',q,z⟩:=hb.has x (eq_of_beq h);have e':cl.lookup x=Aa c:=e;rw[q]at e';cases e';exact gtC _ z
 ·intro z;have z':b=C:=z;have:=hfo b hbb;rw[z']at this;exact absurd (AH this hC) (Bf _)
 ·rcases hb.own x c e with z|z
  ·exact(hf b hbb).2.2.2.2.1 x c z
  ·intro q;have:=hfo b hbb;have:=gtC c z.2.1;rw[q]at this;exact absurd ‹b<_› (Fm.mpr this)
 ·rcases (hf b hbb).2.2.2.1 with z|z
  ·exact I.ok.noex b o e z
  ·exact absurd (AH (AC e) (BR I.ok.bsz z)) (Bf _)
 ·obtain⟨h2,hts⟩:=Qd ts σ h2;have h3':(relabel scope X.env).names.lookup x=Aa .local\/(relabel scope X.env).names.lookup x=Aa .cell\/(relabel scope X.env).names.lookup x=Aa .free:=h3;have h1':N'[i]?=Aa x:=h1;rcases h3' with z|z
  ·rcases LD z with z|⟨z,_⟩
   ·exact absurd (B.loc i x h1' (.inl z)) hts
   ·cases z
  ·have fr:=(frOf x z).resolve_right fun q=>hts (B.loc i x h1' (.inr q))
   have hm:=CD fr;have hX:=B.same i x h1' fr hts;obtain⟨m0,hn0,hl0⟩:=I.loc;obtain⟨u,ru,lk⟩:=hl0 i x v hX h2 (by
    rcases B.free _ hm rfl with q|q
    ·exact .inr (.inl q)
    ·exact .inr (.inr q))
   refine⟨u,ru,?_⟩;obtain⟨c,hc,hcX⟩:=hb.fr x hm;rcases lk with ⟨q,_⟩|⟨_,c',hc',hcell⟩
   ·have q':X.env.scope.names.lookup x=Aa .local:=q;rcases B.free _ hm rfl with p|p
    ·rw[show X.env.scope.names.lookup x=_ from p]at q';cases q'
    ·rw[show X.env.scope.names.lookup x=_ from p]at q';cases q'
   ·have e:=hcX;rw[hc']at e;cases e;exact .inr ⟨z,c,hc,cellK _ _ hcell⟩
 ·rcases hb.own x c e with z|z
  ·obtain⟨v,q⟩:=I.cell x c z;exact⟨v,cellK _ _ q⟩
  ·exact⟨_,z.2.2⟩
 ·show (hideT ts σ).length=N'.length;rw[Nv,I.len,B.len]
theorem Qj{C D:Ak}{s':Aq}{σ':L2.St}{pins':Pn}{h'':AB}{ys:Ad Ai}(I:Inv X pI σ H s)(hf:∀ b∈fp,GM X pI H b)(I':Inv (cxC X scope cl C N' s H fp) pins' σ' H' s')(hD:s.heap.objs.size<=D)(hDC:D≠C)(hC:s.heap.objs.size<=C)(hd:s'.heap.get? D=Aa { cls:=.type "list", data:=.seq ys.toArray n })(hDn:H' D=Ae)(rv:Bb xs ys)(hz:xs.length<=sizeLine)(hs:DZ C s'.heap h''):Inv X pI σ (upd H' D (.lst xs)) {s' with heap:=h''}:=by
  have u:Un (frs X.stack) fp H H' s.heap s'.heap:=I'.base;have lt:∀ b o,s.heap.get? b=Aa o->b≠C/\b≠D:=fun b o e=>⟨fun z=>absurd (AH (AC e) (z ▸ hC)) (Bf _),fun z=>absurd (AH (AC e) (z ▸ hD)) (Bf _)⟩
  have HD:H D=Ae:=I.hok.fresh hD;have hCn:H' C=Ae:=I'.free;have kb:∀ b o,b≠C->s'.heap.get? b=Aa o->h''.get? b=Aa o:=fun b o hb e=>(hs.2 b hb).trans e
  have u2:Un (frs X.stack) fp H (upd H' D (.lst xs)) s.heap h'':=⟨fun b o e q hb hx=>kb b o (lt b o e).1 (u.keep b o e q hb hx),fun b o e q hb hx=>by
      obtain⟨sl,e1⟩:=u.slot b o e q hb hx;exact⟨sl,kb b _ (lt b o e).1 e1⟩,fun b o e q hx=>by rw[Bq (lt b o e).2];exact u.free b o e q hx,fun b o e hx=>by
      obtain⟨o',e1⟩:=u.there b o e hx;exact⟨o',kb b _ (lt b o e).1 e1⟩,fun b zs q=>by rw[Bq (FA q HD)];exact u.tups b zs q,fun b o zs q=>by rw[Bq (FA q HD)];exact u.frzs b o zs q,fun b ps q=>by rw[Bq (FA q HD)];exact u.tbls b ps q⟩
  have hok:HOk X.prog X.w (upd H' D (.lst xs)) h'':=fun b o e=>by
    by_cases hb:b=D
    · subst hb;rw[Ff]at e;cases e;exact⟨hz,ys,n,rv,kb _ _ hDC hd⟩
    · rw[Bq hb]at e;refine(I'.hok b o e).stay (fun c v hc q=>kb c v ?_ q) (fun c q=>by rw[Bq (FA q hDn)];exact q) fun c zs q=>by rw[Bq (FA q hDn)];exact q
      rcases hc with rfl|hc
      · exact FA e hCn
      · exact FA hc hCn
  exact I.call' (s':={s' with heap:=h''}) (ch:=fp) I'.os u2 hok I'.bare fun b hb=>⟨(hf b hb).2.2.2.1,(hf b hb).2.1,(hf b hb).2.2.2.2.1,(hf b hb).2.2.2.2.2⟩
end
def PTs(X:Cx)(ifs:Ad Ao)(tt:TT):Prop:=∀(pI:Pn)(s:Aq)(σ:L2.St)(H:Hp)(Q:An->Hp->Prop),Inv X pI σ H s->tt σ H Q ->
 At (model X.prog X.w) X.A (forIn ifs Ab fun c r=>if r=Ab then do let ok <-Ic c X.env (eval c X.env);pure (Ef ok) else pure (Ef r)) (TP X pI σ Q) X.xe s
theorem YW:PTs X [] (fun σ H Q=>Q Ab H):=fun pI s σ H Q I h=>wpAny_tests_nil ⟨H,I,h⟩
theorem YV{t:TT}(h:PT X c t):PTs X [c] t:=fun pI s σ H Q I q=>wpAny_tests_one (h pI s σ H Q I q)
theorem WA{D:Ak}{ys:Ad Ai}{E:Vq}{Q:Vq}(I:Inv X ((D,{ cls:=.type "list", data:=.seq ys.toArray n })::pI) σ H s)(hD:X.s₀.heap.objs.size<=D)(hp:∀ p∈X.pn++pI,p.1≠D)(hc:∀ x c,X.env.cells.lookup x=Aa c->c≠D)(hz:ys.length<=sizeLine)(h:∀ s',Inv X ((D,{ cls:=.type "list", data:=.seq (ys++[y]).toArray (n+1) })::pI) σ H s'->(∀ b o,b≠D->s.heap.get? b=Aa o->s'.heap.get? b=Aa o)->Q .none s'):At (model X.prog X.w) X.A (call (.builtin "list.append") [.ref D,y]) Q E s:=by
 obtain⟨e,hn,hL,hfs,_⟩:=I.pin (D,{ cls:=.type "list", data:=.seq ys.toArray n }) (Bj _ AL);refine append_at (hsz:=by rw[AO];exact hz) e fun h' hs hd=>?_
 have hd':h'.get? D=Aa { cls:=.type "list", data:=.seq (ys++[y]).toArray (n+1) }:=by rw[hd];simp
 have kb:∀ b o,b≠D->s.heap.get? b=Aa o->h'.get? b=Aa o:=fun b o hb q=>(hs.2 b hb).trans q
 have I0:Inv X pI σ H s:=I.pins_of fun p hp=>I.pin p (Bj _ (AG _ hp))
 have I1:Inv X pI σ H {s with heap:=h'}:=I0.turned (t':=s.toks) kb hn hL (.inr hD) hc hp
 refine h _ (I1.pins_of fun p hp=>?_) kb
 rcases Ay.mp hp with rfl|hp
 ·exact⟨hd',hn,hL,hfs,fun v z=>by
   have z':KU _ _=KO v:=z;cases z'⟩
 ·exact I1.pin p (Bj _ hp)
section
variable{prog:AK}{w:AY}{A:AV}{R:IJ->Aq->Prop}{s:Aq}
theorem V2{target:Ao}{it acc:Ai}(I:Af->Aq->Prop)(turn:∀ n s,I n s->At (model prog w) A (DM it) (fun r s₁=>match r with
      |none=>R (.ok .next) s₁
      | some v=>At (model prog w) A (Gj target it v) (fun _ s₁'=>At (model prog w) A (assign target env v) (fun _ s₂=>
          At (model prog w) A (forIn ifs Ab fun c r=>if r=Ab then do let ok <-Ic c env (eval c env);pure (Ef ok) else pure (Ef r)) (fun ok s₃=>
            if ok=Ab then At (model prog w) A (eval elt env) (fun x s₄=>
              At (model prog w) A (call (.builtin "list.append") [acc,x]) (fun _ s₅=>∃ m,m<n/\I m s₅) (Ig (model prog w) A env fun e s'=>R (.error e) s') s₄) (Ig (model prog w) A env fun e s'=>R (.error e) s') s₃
            else ∃ m,m<n/\I m s₃) (Ig (model prog w) A env fun e s'=>R (.error e) s') s₂) (Ig (model prog w) A env fun e s'=>R (.error e) s') s₁') (Ig (model prog w) A env fun e s'=>R (.error e) s') s₁) (Ig (model prog w) A env fun e s'=>R (.error e) s') s)(n:Af)(h:I n s):Ez (model prog w) A (.compLoop (.ListComp elt [⟨target,iter,ifs,0⟩] scope pos) 0 it acc env) R s:=by
  refine codeAny_loop rfl I (fun n s hI=>?_) n h
  show At _ A ((compTurn (.ListComp elt [⟨target,iter,ifs,0⟩] scope pos) 0 it acc env).onRaise (fun x=>do GW x env;theTreesLotGoes x)) _ _ s
  refine wpAny_noted ?_;rw[compTurn_list];refine Ah (DI (Ah (Ba (turn n s hI) (fun r s₁ h₁=>?_) fun _ _ h'=>h')))
  cases r with
  |none=>exact As h₁
  |some v=>
    refine Ah (Ba h₁ (fun _ s₁' h₁'=>?_) fun _ _ h'=>h')
    refine Ah (Ba h₁' (fun _ s₂ h₂=>Ah (Ba h₂ (fun ok s₃ h₃=>?_) fun _ _ h'=>h')) fun _ _ h'=>h')
    cases ok with
    |false=>exact As ⟨rfl,h₃⟩
    |true=>
      exact Ah (Ah (Ba h₃ (fun x s₄ h₄=>Ah (Ba h₄ (fun _ s₅ h₅=>As (As ⟨rfl,h₅⟩)) fun _ _ h'=>h')) fun _ _ h'=>h'))
end
def K8(J:It)(ts:Ad Af)(g:TG)(tt:TT)(te:TE)(σ:L2.St)(H:Hp)(Q:VK):Prop:=∃ W:Af->Af->Ad V->L2.St->Hp->Prop,(∃ m,W 0 m [] (hideT ts σ) H)/\∀ i m xs σ H,W i m xs σ H ->
 (J.stop i H/\∀ p,H p=Ae->Q (.ref p) (upd H p (.lst xs))) \/
 (J.go i H/\xs.length<sizeLine/\∀ x H',J.yld i H x H'->g x σ H' fun σ2 H2=>tt σ2 H2 fun b H3=>if b=Ab then te σ2 H3 fun y H4=>∃ m',m'<m/\W (i+1) m' (xs++[y]) σ2 H4 else ∃ m',m'<m/\W (i+1) m' xs σ2 H3)
theorem QE{g:TG}{it:Ak}{tn:Af->AB->Prop}{E:Vq}{RR:Ai->Ak->IJ->Aq->Prop}(hc:X.calm=Ab)(B:BlockOk X scope N' ts)(I:Inv X pI σ H s)(T:Turn X.prog X.w X.K tg J fp it tn)(st:tn 0 s.heap)(hf:∀ b∈fp,GM X pI H b)(hcl:∀ x c,cl.lookup x=Aa c->X.env.cells.lookup x=Aa c)(hcl2:∀ x,(x,DH)∈scope.names->∃ c,cl.lookup x=Aa c)(hg:∀ cl C s H,PG (cxC X scope cl C N' s H fp) tg g)(ht:∀ cl C s H,PTs (cxC X scope cl C N' s H fp) ifs tt)(he:∀ cl C s H,PE (cxC X scope cl C N' s H fp) elt te)(h:K8 J ts g tt te σ H Q)(hRR:∀ cl D C s' H' σ' pins' xs ys n m,Inv (cxC X scope cl C N' s H fp) pins' σ' H' s'->s'.heap.get? D=Aa { cls:=.type "list", data:=.seq (Fb ys) n }->H' D=Ae->Bb xs ys->xs.length<=sizeLine->s.heap.objs.size<=D->D≠C->s.heap.objs.size<=C->s'.heap.Ns C m->Q (.ref D) (upd H' D (.lst xs))->RR (.ref D) C (.ok .next) s'):At (model X.prog X.w) X.A (newList []) (fun acc s₃=>At (model X.prog X.w) X.A (Ie scope X.env.globals cl [] X.env.qual Ae .none (Aa X.env)) (fun cenv s₄=>Ez (model X.prog X.w) X.A (.compStart (.ListComp elt [⟨tg,iter,ifs,0⟩] scope pos) 0 (.ref it) acc {cenv with scope:=relabel scope X.env}) (RR acc cenv.locals) s₄) E s₃) E s:=by
 refine Cn (V1 ?_);dsimp only;generalize hH2:s.heap.push { cls:=.type "list", dict:=Ae,data:=.seq ([]:Ad Ai).toArray }=H2;have hns₁:(GX (H2.push { cls:=.type "dict", data:=.dict #[] }) scope.names).Ns H2.objs.size (fun _=>Ae):=(Heap.Ns.new H2 (.type "dict")).keeps (HK _ _)
 have hkp₁:∀ b o,H2.get? b=Aa o->(GX (H2.push { cls:=.type "dict", data:=.dict #[] }) scope.names).get? b=Aa o:=fun b o e=>HK _ _ b o (Ap _ e)
 have hown:=Ny scope.names (H2.push { cls:=.type "dict", data:=.dict #[] }) cl;have hinj:=Nz scope.names (H2.push { cls:=.type "dict", data:=.dict #[] }) cl;rw[Bm]at hown hinj;generalize hcl':CO (H2.objs.size+1) scope.names cl=cl' at hown hinj;have hcf:∀ x,(x,BM)∉scope.names->cl'.lookup x=cl.lookup x:=fun x hx=>by rw[<-hcl'];exact Nf _ _ _ x hx
 have hch:∀ x,(x,BM)∈scope.names->∃ c,cl'.lookup x=Aa c/\H2.objs.size+1<=c:=fun x hx=>by rw[<-hcl'];exact NA _ _ _ _ x (AU _) (.inl hx)
 generalize hh₁:GX (H2.push { cls:=.type "dict", data:=.dict #[] }) scope.names=h₁ at hns₁ hkp₁ hown;have hC:H2.objs.size=s.heap.objs.size+1:=by rw[<-hH2,Bm]
 have hCle:s.heap.objs.size<=H2.objs.size:=by rw[hC];exact UD _
 have hDC:s.heap.objs.size≠H2.objs.size:=by rw[hC];exact A1 (UE _)
 have below:∀ b,b<s.heap.objs.size->b≠H2.objs.size:=fun b hb=>by rw[hC];exact A1 (Eo hb)
 have old:∀ b o,s.heap.get? b=Aa o->h₁.get? b=Aa o:=fun b o e=>hkp₁ b o (hH2 ▸ Ap _ e)
 have hacc:h₁.get? s.heap.objs.size=Aa { cls:=.type "list", data:=.seq ([]:Ad Ai).toArray 0 }:=hkp₁ _ _ (hH2 ▸ AD _ rfl);have clt:∀ x c,cl.lookup x=Aa c->c<s.heap.objs.size:=fun x c e=>by
  obtain⟨v,q⟩:=I.cell x c (hcl x c e);exact q.lt
 have bc:BCells X scope cl' H2.objs.size h₁:=by
  refine⟨fun x c e=>?_,hinj (fun x y c e1 e2=>I.ok.inj x y c (hcl x c e1) (hcl y c e2)) (fun x c e=>Eo (AH (clt x c e) hCle)),fun x hx=>?_,fun x hx=>?_⟩
  ·rcases hown x c e with q|⟨q1,q2,q3⟩
   ·exact .inl (hcl x c q)
   ·exact .inr ⟨B.uniq _ q1,q2,q3⟩
  ·have hm:=CD hx;obtain⟨c,e,hc⟩:=hch x hm;exact⟨c,e,hc⟩
  ·have hno:(x,BM)∉scope.names:=fun z=>by
    have e1:=B.uniq _ hx;have e2:=B.uniq _ z;rw[show scope.names.lookup x=_ from e1]at e2
    cases e2
   obtain⟨c,e⟩:=hcl2 x hx;exact⟨c,by rw[hcf x hno];exact e,hcl x c e⟩
 have hfo:∀ b∈fp,b<s.heap.objs.size:=fun b hb=>by
  obtain⟨o,e,_⟩:=T.obj 0 _ st b hb;exact AC e
 generalize hD:s.heap.objs.size=D at *;generalize hC':H2.objs.size=C at *;have I0:Inv (cxC X scope cl' C N' s H fp) [] (hideT ts σ) H {s with heap:=h₁,toks:=s.toks+([]:Ad (Aj×Ai)).length}:=Wb (tk:=s.toks+([]:Ad (Aj×Ai)).length) I B hf (fun b hb=>by rw[hD];exact hfo b hb) bc old (by rw[hD];exact hCle) hns₁
 have nD:H D=Ae:=I.hok.fresh (by rw[hD];exact AU _)
 have noD:∀ b∈fp,b≠D:=fun b hb=>A1 (hfo b hb)
 have noC:∀ b∈fp,b≠C:=fun b hb=>below b (hfo b hb)
 have stfs:D∉frs X.stack:=fun z=>by
  obtain⟨_,o,ho,_⟩:=I.stack.mem z;exact absurd (AC ho) (by rw[hD];exact Bf _)
 have cD:∀ x c,cl'.lookup x=Aa c->c≠D:=fun x c e z=>by
  rcases bc.own x c e with q|⟨_,q,_⟩
  ·obtain⟨v,q⟩:=I.cell x c q;exact absurd q.lt (by rw[z,hD];exact Bf _)
  ·rw[z]at q;exact absurd (AH q hCle) (Bf _)
 have I1:Inv (cxC X scope cl' C N' s H fp) [(D,{ cls:=.type "list", data:=.seq ([]:Ad Ai).toArray 0 })] (hideT ts σ) H {s with heap:=h₁,toks:=s.toks+([]:Ad (Aj×Ai)).length}:=I0.pins_of fun p hp=>by
  have e:=Bu.mp hp;subst e;exact⟨hacc,nD,hDC,stfs,fun v z=>by
   have z':KU _ _=KO v:=z;cases z'⟩
 have st1:tn 0 h₁:=T.keep _ _ _ st fun b _ o e=>old b o e
 obtain⟨W,⟨m0,w0⟩,turn⟩:=h;have fpk:∀{pl:Pn}{H':Hp},(∀ p∈pl,p.1=D)->(∀ b∈fp,H' b=Ae)->∀ b∈fp,GM (cxC X scope cl' C N' s H fp) pl H' b:=fun {pl H'} hp hn b hb=>
  ⟨hn b hb,noC b hb,fun z=>by
   rcases Ay.mp (I.stkSub b z) with e|e
   ·exact(hf b hb).2.1 e
   ·exact(hf b hb).2.2.1 e,.inl hb,fun x c e=>(bc.own x c e).elim ((hf b hb).2.2.2.2.1 x c) (fun z q=>absurd (BX hCle z.2.1) (Fm.mpr (by rw[q];exact Et (hfo b hb)))),fun p hp'=>by
   have hp2:p∈pl:=hp';rw[hp p hp2];exact(noD b hb).symm⟩
 have loop:∀ s₃:Aq,s₃={s with heap:=h₁,toks:=s.toks+([]:Ad (Aj×Ai)).length} ->
   Ez (model X.prog X.w) X.A (.compLoop (.ListComp elt [⟨tg,iter,ifs,0⟩] scope pos) 0 (.ref it) (.ref D) (compEnvC scope cl' C X.env)) (RR (.ref D) C) s₃:=by
  rintro s₃ rfl;refine V2 (fun k s'=>∃ i σ' H' xs ys n,Inv (cxC X scope cl' C N' s H fp) [(D,{ cls:=.type "list", data:=.seq (Fb ys) n })] σ' H' s'/\tn i s'.heap/\(∀ b∈fp,H' b=Ae)/\Bb xs ys/\xs.length<=sizeLine/\W i k xs σ' H') ?_ m0
   ⟨0,_,H,[],[],0,I1,st1,fun b hb=>(hf b hb).1,.nil,FJ _,w0⟩
  rintro k s' ⟨i,σ',H',xs,ys,n,I',st',fr',rv,hz,w'⟩;have one:∀ p∈[((D,{ cls:=.type "list", data:=.seq (Fb ys) n }):Ak×Cz)],p.1=D:=fun p hp=>by rw[Bu.mp hp]
  rcases turn i k xs σ' H' w' with ⟨stop,q⟩|⟨go,hlt,step⟩
  ·refine Ba (T.done (cxC X scope cl' C N' s H fp) rfl rfl rfl hc i _ s' σ' H' (fun _ _=>AS) I' (fpk one fr') st' stop) (fun r s1 ⟨hr,J1⟩=>?_) fun _ _ f=>f.elim
   subst hr;obtain⟨e,hn,_⟩:=J1.pin _ (Bj _ AL);obtain⟨m,hm,_⟩:=J1.loc;exact hRR cl' D C s1 H' σ' _ xs ys n m J1 e hn rv hz (AU _) hDC hCle hm (q D hn)
  ·refine Ba (T.item (cxC X scope cl' C N' s H fp) rfl rfl rfl hc i _ s' σ' H' (fun _ _=>AS) I' (fpk one fr') st' go) (fun r s1 ⟨u,hr,h4⟩=>?_) fun _ _ f=>f.elim
   subst hr;refine Ba h4 (fun _ s5 ⟨x,H5,I5,r5,y5,st5,fr5⟩=>?_) fun _ _ f=>f.elim
   have I5':=I5.pinned (fpk one fr5) (T.obj _ _ st5);refine Ba (hg cl' C s H _ s5 σ' H5 x u _ I5' r5 (step x H5 y5)) (fun _ s6 ⟨σ6,H6,I6,q6⟩=>?_) fun _ _ f=>f.elim
   refine Ba (ht cl' C s H _ s6 σ6 H6 _ I6 q6) (fun ok s7 ⟨H7,I7,q7⟩=>?_) fun _ _ f=>f.elim
   have again:∀{s8:Aq}{H8:Hp}{ys':Ad Ai}{n':Af},Inv (cxC X scope cl' C N' s H fp) ((D,{ cls:=.type "list", data:=.seq (Fb ys') n' })::JD fp s5.heap) σ6 H8 s8->Inv (cxC X scope cl' C N' s H fp) [(D,{ cls:=.type "list", data:=.seq (Fb ys') n' })] σ6 H8 s8/\tn (i+1) s8.heap/\∀ b∈fp,H8 b=Ae:=fun {s8 H8 ys' n'} I8=>
    ⟨I8.pins_of fun p hp=>I8.pin p (Bj _ (by rw[Bu.mp hp];exact AL)),T.keep _ _ _ st5 fun b hb o e=>(I8.pin (b,o) (Bj _ (AG _ (LR hb e)))).1,fun b hb=>by
     obtain⟨o,e,d⟩:=T.obj _ _ st5 b hb;exact(I8.pin (b,o) (Bj _ (AG _ (LR hb e)))).2.1⟩
   cases ok with
   |false=>
    rw[AM (by decide)]at q7
    obtain⟨m',hm,w7⟩:=q7;obtain⟨a1,a2,a3⟩:=again I7;rw[AM (by decide)]
    exact⟨m',hm,i+1,σ6,H7,xs,ys,n,a1,a2,a3,rv,hz,w7⟩
   |true=>
    rw[AF rfl]at q7;rw[AF rfl];refine Ba (he cl' C s H _ s7 σ6 H7 _ I7 q7) (fun val s8 ⟨y,H8,I8,r8,m',hm,w8⟩=>?_) fun _ _ f=>f.elim
    have hl:=rv.length;refine WA (X:=cxC X scope cl' C N' s H fp) (ys:=ys) (n:=n) (pI:=JD fp s5.heap) I8 (by show s.heap.objs.size<=D;rw[hD];exact AU _) (fun p hp=>?_) cD (by omega) fun s9 I9 kb=>?_
    ·have hp2:p∈JD fp s5.heap:=hp;exact noD _ (Qa hp2).1
    ·obtain⟨a1,a2,a3⟩:=again I9;exact⟨m',hm,i+1,σ6,H8,xs++[y],ys++[val],n+1,a1,a2,a3,rv.append (.cons r8 .nil),by rw[BW];exact hlt,w8⟩
 exact codeAny_compStart_list (loop _ rfl) (T.self _ 0 _ _ _ st1 (loop _ rfl))
theorem Y5{g:TG}(hc:X.calm=Ab)(B:BlockOk X scope N' ts)(hi:PI X tg iter wi)(hg:∀ cl C s H fp,PG (cxC X scope cl C N' s H fp) tg g)(ht:∀ cl C s H fp,PTs (cxC X scope cl C N' s H fp) ifs tt)(he:∀ cl C s H fp,PE (cxC X scope cl C N' s H fp) elt te)(hs:∀ x,CU iter X.env x=pure x):PE X (.ListComp elt [⟨tg,iter,ifs,0⟩] scope pos) (fun σ H Q=>wi σ H fun J H1=>K8 J ts g tt te σ H1 Q):=by
 intro pI s σ H Q I h;obtain⟨cl,hclos,hcl,hcl2⟩:=PH (scope:=scope) (env:=X.env) fun x hx hk=>I.ok.has x.1 ((B.free x hx hk).imp id id)
 rw[eval_ListComp];refine VN (use:=Ae) rfl hs hclos B.kind B.names (thn (hi pI s σ H _ I h) fun v s1 h1=>thn h1 fun itv s2 h2=>?_)
 obtain⟨it,fp,tn,J,H2,e,I2,T,st2,f2,h3⟩:=h2;subst e;refine QE (RR:=fun acc C=>compPost (model X.prog X.w) X.A X.xe Ae (EP X pI σ Q) acc C) hc B I2 T st2 f2 hcl hcl2 (fun cl C s H=>hg cl C s H fp) (fun cl C s H=>ht cl C s H fp) (fun cl C s H=>he cl C s H fp) h3 fun cl' D C s' H' σ' pins' xs ys n m I' hd hDn rv hz hD hDC hC hm q=>?_
 exact⟨m,hm,fun h'' hs''=>⟨.ref D,_,Qj I2 f2 I' hD hDC hC hd hDn rv hz hs'',rfl,q⟩⟩
theorem Y0{n:Aj}{g:TG}(hc:X.calm=Ab)(B:BlockOk X scope N' ts)(hi:PI X tg iter wi)(hg:∀ cl C s H fp,PG (cxC X scope cl C N' s H fp) tg g)(ht:∀ cl C s H fp,PTs (cxC X scope cl C N' s H fp) ifs tt)(he:∀ cl C s H fp,PE (cxC X scope cl C N' s H fp) elt te)(hs:∀ x,CU iter X.env x=pure x)(hN:X.N.Nodup)(hni:X.N[i]?=Aa n)(hx:X.env.scope.names.lookup n=Aa .local)(hsw:Do (.ListComp elt [⟨tg,iter,ifs,0⟩] scope pos) (Aa (.Name n pos')) pos2.line X.env=pure Ab):PS X (.Assign [.Name n pos'] (.ListComp elt [⟨tg,iter,ifs,0⟩] scope pos) pos2) (MJ (fun σ H Q=>wi σ H fun J H1=>K8 J ts g tt te σ H1 Q) (EX i)):=by
 intro pI s σ H Dn I h;obtain⟨cl,hclos,hcl,hcl2⟩:=PH (scope:=scope) (env:=X.env) fun x hx hk=>I.ok.has x.1 ((B.free x hx hk).imp id id)
 rw[exec_Assign_Name_used _ _ _ _ hsw];refine Ah (DI (Ah ?_));show At _ X.A (do let _ <-comprehension (.ListComp elt [⟨tg,iter,ifs,0⟩] scope pos) scope X.env _ (newList []) Ac (eval iter X.env) (Aa (assign (.Name n pos') X.env))) _ _ s
 refine Ah (Ba (VN (use:=Aa (assign (.Name n pos') X.env)) (Q:=fun _ s'=>SP X pI Dn .next s') rfl hs hclos B.kind B.names
  (thn (hi pI s σ H _ I h) fun v s1 h1=>thn h1 fun itv s2 h2=>?_)) (fun _ s' hq=>As (As hq)) fun _ _ e=>e)
 obtain⟨it,fp,tn,J,H2,e,I2,T,st2,f2,h3⟩:=h2;subst e;refine QE (RR:=fun acc C=>compPost (model X.prog X.w) X.A X.xe (Aa (assign (.Name n pos') X.env)) (fun _ s'=>SP X pI Dn .next s') acc C) hc B I2 T st2 f2 hcl hcl2 (fun cl C s H=>hg cl C s H fp) (fun cl C s H=>ht cl C s H fp) (fun cl C s H=>he cl C s H fp) h3 fun cl' D C s' H' σ' pins' xs ys n' m I' hd hDn rv hz hD hDC hC hm q=>?_
 have J0:Inv X pI σ (upd H' D (.lst xs)) s':=Qj I2 f2 I' hD hDC hC hd hDn rv hz (Ve ..);refine VM (PY J0 hN hni (.inl hx) (show Bt (.ref D) (.ref D) from rfl) (fun s'' J1 ⟨a,sb,ha⟩=>?_) (.inr hx))
 have hC0:X.s₀.heap.objs.size<=C:=BR I2.sz hC;have hL:C≠X.env.locals:=fun z=>absurd (AH I2.lt (z ▸ hC)) (Bf _)
 have hcC:∀ x c,X.env.cells.lookup x=Aa c->c≠C:=fun x c e z=>by
  obtain⟨v,q'⟩:=I2.cell x c e;exact absurd (AH q'.lt (by rw[z];exact hC)) (Bf _)
 have hp:∀ p∈X.pn++pI,p.1≠C:=fun p hp z=>absurd (AH (AC (I2.pin p hp).1) (by rw[z];exact hC)) (Bf _)
 have hCn:upd H' D (.lst xs) C=Ae:=by rw[Bq hDC.symm];exact I'.free
 have hCa:C≠a:=by
  rcases ha with rfl|ha
  ·exact hL
  ·exact fun z=>hcC n a ha z.symm
 refine⟨m,hm.sameBut sb hCa,fun h'' hs''=>⟨_,_,J1.turned (t':=s''.toks) (fun b o hb e=>(hs''.2 b hb).trans e) hCn hL (.inr hC0) hcC hp,q⟩⟩
theorem J6:∀(ts:Ad Af)(ρ:Rho)(j:Af),(Fh ts ρ)[j]?=if j∈ts then (ρ[j]?).map (fun _=>Ae) else ρ[j]?
 |[],ρ,j=>by simp[Fh]
 |t::ts,ρ,j=>by
  show (Fh ts (ρ.set t Ae))[j]?=_;rw[J6 ts];by_cases h1:j∈ts
  ·rw[AF h1,AF (AG _ h1)];by_cases h2:t=j
   ·subst h2;rw[Fq];cases ρ[t]?<;>rfl
   ·rw[Cj h2]
  ·rw[AM h1];by_cases h2:t=j
   ·subst h2;rw[AF AL,Fq];cases ρ[t]?<;>rfl
   ·rw[Cj h2,AM (by simp only[Ay,DN];exact⟨fun z=>h2 z.symm,h1⟩)]
theorem LN:∀(ts:Ad Af)(ρ:Rho),(Fh ts ρ).length=ρ.length
 |[],_=>rfl
 |t::ts,ρ=>by show (Fh ts (ρ.set t Ae)).length=_;rw[LN ts,A3]
theorem Nl:∀(ts:Ad Af)(σ:L2.St){i:Af},i∉ts->(hideT ts σ)[i]?=σ[i]?
 |[],_,_,_=>rfl
 |t::ts,σ,i,h=>by
  simp only[Ay,DN]at h;show (hideT ts (σ.set t Ae))[i]?=_;rw[Nl ts _ h.2,Cj (fun z=>h.1 z.symm)]
theorem Pq:∀(ts:Ad Af)(ds:Ad D)(ρ1 ρ2:Rho),ρ1.length=ρ2.length->(∀ j,j∉ts->ρ1[j]?=ρ2[j]?)->EE ts ds ρ1=EE ts ds ρ2
 |[],[],ρ1,ρ2,hl,h=>congrArg Aa (Uo fun j=>h j (by simp))
 |[],_::_,_,_,_,_=>rfl
 |_::_,[],_,_,_,_=>rfl
 |t::ts,d::ds,ρ1,ρ2,hl,h=>by
  refine Pq ts ds _ _ (by rw[A3,A3];exact hl) fun j hj=>?_
  by_cases e:t=j
  ·subst e;rw[Ha,Ha,AF rfl,AF rfl,hl]
  ·rw[Cj e,Cj e];exact h j (by simp only[Ay,DN];exact⟨fun z=>e z.symm,hj⟩)
theorem Pv:∀(ts us:Ad Af)(ds:Ad D)(ρ ρ':Rho),(∀ t∈ts,t∈us)->EE ts ds ρ=Aa ρ'->Fh us ρ'=Fh us ρ
 |[],us,[],ρ,ρ',_,e=>by cases e;rfl
 |t::ts,us,d::ds,ρ,ρ',hs,e=>by
  rw[Pv ts us ds _ ρ' (fun u hu=>hs u (AG _ hu)) e]
  refine Uo fun j=>?_
  rw[J6,J6];by_cases h:j∈us
  ·rw[AF h,AF h,Ha];split
   ·rename_i e2;subst e2;split
    ·rename_i h3;rw[Cp h3];rfl
    ·rename_i h3;rw[List.getElem?_eq_none (by omega)]
   ·rfl
  ·rw[AM h,AM h,Cj];rintro rfl;exact h (hs _ AL)
 |[],_,_::_,_,_,_,e=>by cases e
 |_::_,_,[],_,_,_,e=>by cases e
section
variable{K:Fg}{CL:ClA}{A:Ak->Prop}{ρ ρ':Rho}{σ:L2.St}{H:Hp}
theorem Good.less(g:Good K CL A ρ σ H)(hl:ρ'.length=ρ.length)(h:∀(i:Af)(d:D)(o:An),ρ'[i]?=Aa (Aa (d,o))->ρ[i]?=Aa (Aa (d,o))):Good K CL A ρ' σ H:=⟨fun i d e=>g.sh i d (h i d Ac e),fun i d e=>g.ow i d (h i d Ab e),hl.trans g.len⟩
theorem Good.put(g:Good K CL A ρ σ H)(t:Af)(r:Rep K CL H A v d):Good K CL A (ρ.set t (Aa (d,Ac))) (σ.set t (Aa v)) H:=by
 refine⟨fun j e h=>?_,fun j e h=>?_,by rw[A3,A3];exact g.len⟩
 ·by_cases hj:t=j
  ·subst hj;have e1:=GC h;cases e1;have hl:t<σ.length:=by
    rw[<-g.len];have:=(AZ.mp h).1;simpa using this
   exact⟨v,by rw[Cf hl],r⟩
  ·rw[Cj hj]at h;obtain⟨w',q,rw'⟩:=g.sh j e h;exact⟨w',by rw[Cj hj];exact q,rw'⟩
 ·have hj:t≠j:=by
   rintro rfl;have:=GC h;cases this
  rw[Cj hj]at h;obtain⟨a,xs,ds,q,z⟩:=g.ow j e h;exact⟨a,xs,ds,by rw[Cj hj];exact q,z⟩
theorem Good.hide(g:Good K CL A ρ σ H)(ts:Ad Af):Good K CL A (Fh ts ρ) σ H:=g.less (LN _ _) fun i d o e=>by
 rw[J6]at e;split at e
 ·cases q:ρ[i]? with
  |none=>rw[q]at e;cases e
  |some x=>rw[q]at e;cases e
 ·exact e
theorem Good.hideT(g:Good K CL A ρ σ H)(ts:Ad Af):Good K CL A (Fh ts ρ) (hideT ts σ) H:=by
 have key:∀ i x,(Fh ts ρ)[i]?=Aa (Aa x)->ρ[i]?=Aa (Aa x)/\i∉ts:=fun i x e=>by
  rw[J6]at e;split at e
  ·cases q:ρ[i]? with
   |none=>rw[q]at e;cases e
   |some x=>rw[q]at e;cases e
  ·exact⟨e,by assumption⟩
 refine⟨fun i d e=>?_,fun i d e=>?_,by rw[LN,Nv];exact g.len⟩
 ·obtain⟨e1,e2⟩:=key i _ e;obtain⟨v,q,r⟩:=g.sh i d e1;exact⟨v,by rw[Nl _ _ e2];exact q,r⟩
 ·obtain⟨e1,e2⟩:=key i _ e;obtain⟨a,xs,ds,q,r⟩:=g.ow i d e1;exact⟨a,xs,ds,by rw[Nl _ _ e2];exact q,r⟩
end
def GG(K:Fg)(CL:ClA)(ts:Ad Af)(as:D->Rho->R Rho)(g:TG):Prop:=∀ A ρ σ H v d ρ' Q,Good K CL A (Fh ts ρ) σ H->Rep K CL H A v d->as d ρ=.ok ρ'->(∀ σ',Good K CL A ρ' σ' H->Good K CL A (Fh ts ρ) σ' H->Q σ' H)->g v σ H Q
theorem aM(i:Af):GG K CL [i] (fun d ρ=>.ok (ρ.set i (Aa (d,Ac)))) (EX i):=fun A ρ σ H v d ρ' Q g r e k=>by
 cases e;have g2:=g.put i r;have e1:(Fh [i] ρ).set i (Aa (d,Ac))=ρ.set i (Aa (d,Ac)):=by
  show (ρ.set i Ae).set i (Aa (d,Ac))=_;rw[UA]
 rw[e1]at g2;refine k _ g2 ?_;have:=g2.hide [i];have e2:Fh [i] (ρ.set i (Aa (d,Ac)))=Fh [i] ρ:=by
  show (ρ.set i _).set i Ae=ρ.set i Ae;rw[UA]
 rw[e2]at this;exact this
theorem Rg{K:Fg}{CL:ClA}{A:Ak->Prop}{H:Hp}:∀(ts:Ad Af)(ds:Ad D)(vs:Ad V)(ρ ρ':Rho)(σ:L2.St)(Q:L2.St->Hp->Prop),Good K CL A ρ σ H->Reps K CL H A vs ds->EE ts ds ρ=Aa ρ'->(∀ σ',Good K CL A ρ' σ' H->Q σ' H)->(ts.foldr (fun t u=>Hy (EX t) u) HF) vs σ H Q
 |[],[],[],ρ,ρ',σ,Q,x,_,e,k=>by
  cases e;exact⟨rfl,k σ x⟩
 |t::ts,d::ds,v::vs,ρ,ρ',σ,Q,x,r,e,k=>⟨v,vs,rfl,Rg ts ds vs _ ρ' _ Q (x.put t r.1) r.2 e k⟩
 |[],_::_,_,_,_,_,_,_,_,e,_=>by cases e
 |_::_,[],_,_,_,_,_,_,_,e,_=>by cases e
 |[],[],_::_,_,_,_,_,_,r,_,_=>r.elim
 |_::_,_::_,[],_,_,_,_,_,r,_,_=>r.elim
theorem eP(ts:Ad Af):GG K CL ts (GH ts) (KI K ts.length (ts.foldr (fun t u=>Hy (EX t) u) HF)):=fun A ρ σ H v d ρ' Q g r e k=>by
 cases d with
 |tup ds=>
  obtain⟨a,xs,rfl,na,sq,rs⟩:=r;rw[PJ]at e;cases e2:EE ts ds ρ with
  |none=>rw[e2]at e;cases e
  |some ρ2=>
   rw[e2]at e;cases e;have e3:EE ts ds (Fh ts ρ)=Aa ρ':=by
    rw[<-e2];exact Pq ts ds _ _ (LN _ _) fun j hj=>by rw[J6,AM hj]
   refine⟨a,xs,rfl,sq,by rw[rs.length];exact LQ _ _ _ _ e2,Rg ts ds xs _ ρ' σ Q g rs e3 fun σ' g'=>k σ' g' ?_⟩
   have:=g'.hide ts;rw[Pv ts ts ds ρ ρ' (fun _ h=>h) e2]at this
   exact this
 |_=>cases e
noncomputable abbrev W0:XW:=fun _ _=>AS
def STs(X:Cx)(CL:ClA)(ifs:Ad Ao)(f:Rho->R An):Prop:=∀ A,PTs X ifs (fun σ H Q=>AOk H A/\∃ ρ,Good X.K CL A ρ σ H/\C8 W0 H (f ρ) Q)
theorem Yh:STs X CL [] (fun _=>.ok Ab):=fun A pI s σ H Q I ⟨hA,ρ,g,p⟩=>YW pI s σ H Q I (p H (AE.refl H))
theorem Yg(h:SB X CL W0 c f):STs X CL [c] f:=fun A pI s σ H Q I q=>YV (h A) pI s σ H Q I q
section
variable{X:Cx}{CL:ClA}{W:XW}{tg iter elt:Ao}{ifs:Ad Ao}{scope:Cm}{pos:AI}{N':Ad Aj}{ts:Ad Af}{fi:Rho->R (Ad D)}{fc:Rho->R An}{fe:Rho->R D}{as:D->Rho->R Rho}{g:TG}
theorem V0{g:D->R An}{f:D->R D}{x:D}{xs ys:Ad D}(h:BV g f (x::xs)=.ok ys):(g x=.ok Ac/\BV g f xs=.ok ys)\/∃ y r,g x=.ok Ab/\f x=.ok y/\BV g f xs=.ok r/\ys=y::r:=by
 unfold BV at h;cases e:g x with
 |bad=>rw[e]at h;cases h
 |exn z=>rw[e]at h;cases h
 |ok b=>
  rw[e,R.bind_ok]at h;cases b with
  |false=>exact .inl ⟨rfl,h⟩
  |true=>
   rw[AF rfl]at h;cases e2:f x with
   |bad=>rw[e2]at h;cases h
   |exn z=>rw[e2]at h;cases h
   |ok y=>
    rw[e2,R.bind_ok]at h;cases e3:BV g f xs with
    |bad=>rw[e3]at h;cases h
    |exn z=>rw[e3]at h;cases h
    |ok r=>
     rw[e3,R.bind_ok]at h;cases h;exact .inr ⟨y,r,rfl,rfl,rfl,rfl⟩
theorem Jr{β:Type}{r:R α}{f:α->R β}{b:β}(h:r.bind f=.ok b):∃ a,r=.ok a/\f a=.ok b:=by
 cases r with
 |ok a=>exact⟨a,rfl,h⟩
 |exn x=>cases h
 |bad=>cases h
theorem WM{ds ys:Ad D}(hGG:GG K CL ts as g)(hA:AOk H1 A)(gd:Good K CL A ρ σ H1)(yl:IA K CL A ds J H1)(hz:ds.length<=sizeLine)(hcp:BV (fun x=>(as x ρ).bind fc) (fun x=>(as x ρ).bind fe) ds=.ok ys)(q:∀ xs H2,AE H1 H2->Reps K CL H2 A xs ys->∀ p,H2 p=Ae->Q (.ref p) (upd H2 p (.lst xs))):K8 J ts g (fun σ H Q=>AOk H A/\∃ ρ,Good K CL A ρ σ H/\C8 W0 H (fc ρ) Q) (fun σ H Q=>AOk H A/\∃ ρ,Good K CL A ρ σ H/\Bc (fun H=>Rep K CL H A) W0 H (fe ρ) Q) σ H1 Q:=by
 refine⟨fun i m xs σ' H'=>m=ds.length-i/\i<=ds.length/\xs.length<=i/\AE H1 H'/\Good K CL A (Fh ts ρ) σ' H'/\∃ outs rest,Reps K CL H' A xs outs/\BV (fun x=>(as x ρ).bind fc) (fun x=>(as x ρ).bind fe) (ds.drop i)=.ok rest/\ys=outs++rest,
  ⟨ds.length,by simp,FJ _,AU _,AE.refl _,gd.hideT ts,[],ys,trivial,hcp,rfl⟩,?_⟩
 rintro i m xs σ' H' ⟨rfl,hi,hxl,sm,g',outs,rest,rs,hc,e⟩;obtain⟨yst,ygo⟩:=yl H' (Kp.of sm) i;by_cases hlt:i<ds.length
 ·have hd:ds[i]?=Aa ds[i]:=Cp hlt;obtain⟨hgo,hyl⟩:=ygo _ hd;refine .inr ⟨hgo,by omega,fun x H2 hx=>?_⟩
  obtain⟨s2,rx⟩:=hyl x H2 hx;have rx':=rx A (fun a ha=>.inl ha) (hA.same sm)
  rw[E2 hlt]at hc;have sm2:=sm.trans s2;rcases V0 hc with ⟨h1,h2⟩|⟨y,r,h1,h2,h3,h4⟩
  ·obtain⟨ρ',ea,ec⟩:=Jr h1;refine hGG A ρ σ' H2 x ds[i] ρ' _ (g'.same s2) rx' ea fun σ3 g3 g4=>⟨hA.same sm2,ρ',g3,?_⟩
   rw[ec];exact fun H3 s3=>by
    dsimp only;rw[AM (by decide)]
    exact⟨ds.length-(i+1),by omega,rfl,hlt,by omega,sm2.trans s3,g4.same s3,outs,rest,(rs.same s2).same s3,h2,e⟩
  ·obtain⟨ρ',ea,ec⟩:=Jr h1;obtain⟨ρ2,ea2,ee⟩:=Jr h2;rw[ea]at ea2;cases ea2;refine hGG A ρ σ' H2 x ds[i] ρ' _ (g'.same s2) rx' ea fun σ3 g3 g4=>⟨hA.same sm2,ρ',g3,?_⟩
   rw[ec];exact fun H3 s3=>by
    dsimp only;rw[AF rfl];refine⟨(hA.same sm2).same s3,ρ',g3.same s3,?_⟩;rw[ee];exact fun v H4 s4 r4=>⟨ds.length-(i+1),by omega,rfl,hlt,by rw[BW,F5];omega,(sm2.trans s3).trans s4,(g4.same s3).same s4,outs++[y],r,(((rs.same s2).same s3).same s4).append ⟨r4,trivial⟩,h3,by rw[e,h4];simp⟩
 ·have hk':ds.length<=i:=by omega
  rw[Um hk']at hc;have hr:rest=[]:=by cases hc;rfl
  subst hr;rw[Cq]at e;subst e;exact .inl ⟨yst hk',fun p hp=>q xs H' sm rs p hp⟩
theorem EF.ok_of{r:R (Ad D)}{f:Ad D->R D}{Q':It->Hp->Prop}(h:Bc Rq W H (r.bind f) Q)(k:∀ ds J H',r=.ok ds->AE H H'->IA K CL A ds J H'->ds.length<=sizeLine->Bc Rq W H' (f ds) Q->Q' J H'):EF K CL A W H r Q':=by
 cases r with
 |ok d=>exact fun J H2 s2 y z=>k d J H2 rfl s2 y z (Bc.same s2 h)
 |exn x=>exact h
 |bad=>exact h
theorem fD{r:R α}{a:α}(h:noX r=.ok a):r=.ok a:=by
 cases r with
 |ok b=>exact h
 |exn x=>cases h
 |bad=>cases h
theorem Qi(hGG:GG X.K CL ts as g)(hA:AOk H A)(gd:Good X.K CL A ρ σ H)(p:Bc (Dv X.K CL Ab H A) W H ((fi ρ).bind fun xs=>(noX (BV (fun x=>(as x ρ).bind fc) (fun x=>(as x ρ).bind fe) xs)).bind fun ys=>.ok (.lst ys)) Q):EF X.K CL A W H (fi ρ) (fun J H1=>K8 J ts g (fun σ H Q=>AOk H A/\∃ ρ,Good X.K CL A ρ σ H/\C8 W0 H (fc ρ) Q) (fun σ H Q=>AOk H A/\∃ ρ,Good X.K CL A ρ σ H/\Bc (fun H=>Rep X.K CL H A) W0 H (fe ρ) Q) σ H1 Q):=
 EF.ok_of p fun ds J H1 e1 s1 yl hz p1=>by
  cases e2:noX (BV (fun x=>(as x ρ).bind fc) (fun x=>(as x ρ).bind fe) ds) with
  |ok ys=>
   rw[e2]at p1;exact WM hGG (hA.same s1) (gd.same s1) yl hz (fD e2) fun xs H2 s2 rs q hq=>p1 _ _ (s2.trans (FT hq _)) (Kd (s1.trans s2) ((hA.same s1).same s2) hq rs)
  |exn x=>rw[e2]at p1;cases hq:BV (fun x=>(as x ρ).bind fc) (fun x=>(as x ρ).bind fe) ds<;>rw[hq]at e2<;>cases e2
  |bad=>rw[e2]at p1;exact p1.elim
theorem Zr(hc:X.calm=Ab)(B:BlockOk X scope N' ts)(hi:SI X CL W tg iter fi)(hGG:GG X.K CL ts as g)(hg:∀ cl C s H fp,PG (cxC X scope cl C N' s H fp) tg g)(ht:∀ cl C s H fp,STs (cxC X scope cl C N' s H fp) CL ifs fc)(he:∀ cl C s H fp,SE (cxC X scope cl C N' s H fp) CL W0 elt fe)(hs:∀ x,CU iter X.env x=pure x):SC X CL W Ab (.ListComp elt [⟨tg,iter,ifs,0⟩] scope pos) (fun ρ=>(fi ρ).bind fun xs=>(noX (BV (fun x=>(as x ρ).bind fc) (fun x=>(as x ρ).bind fe) xs)).bind fun ys=>.ok (.lst ys)):=fun A pI s σ H Q I ⟨hA,ρ,gd,p⟩=>
 Y5 hc B (hi A) hg (fun cl C s H fp=>ht cl C s H fp A) (fun cl C s H fp=>he cl C s H fp A) hs pI s σ H Q I ⟨hA,ρ,gd,Qi hGG hA gd p⟩
end
section
variable{K:Fg}{CL:ClA}{Fz:Ak->HO->Prop}{B:Ak->Prop}{ρ:Rho}{σ:L2.St}{H H':Hp}
theorem Sx.setF(x:Sx K CL Fz B ρ σ H)(s:AE H H'){ds:Ad D}(h0:H a=Ae)(h1:H' a=Aa (.lst xs))(r:Reps K CL H' (fun b=>BL B ρ σ b\/b=a) xs ds):Sx K CL Fz B (ρ.set i (Aa (.lst ds,Ab))) (σ.set i (Aa (.ref a))) H':=by
 have nA:¬ BL B ρ σ a:=x.aok.new h0;have own:∀(j:Af)(e:D),(ρ.set i (Aa (.lst ds,Ab)))[j]?=Aa (Aa (e,Ab))->(i=j/\e=.lst ds)\/(i≠j/\ρ[j]?=Aa (Aa (e,Ab))):=fun j e h=>by
  by_cases hj:i=j
  ·subst hj;have:=GC h;cases this;exact .inl ⟨rfl,rfl⟩
  ·exact .inr ⟨hj,by rw[Cj hj]at h;exact h⟩
 have atI:∀{j:Af}{y:Sl},(ρ.set i (Aa (.lst ds,Ab)))[j]?=Aa y->i=j->(σ.set i (Aa (.ref a)))[j]?=Aa (Aa (.ref a)):=fun {j y} h e=>by
  subst e;have hl:i<σ.length:=by
   rw[<-x.len];have:=(AZ.mp h).1;simpa using this
  rw[Cf hl]
 have sub:∀ b,BL B (ρ.set i (Aa (.lst ds,Ab))) (σ.set i (Aa (.ref a))) b->BL B ρ σ b\/b=a:=fun b h=>by
  rcases h with h|⟨j,e,h1,h2⟩
  ·exact .inl (.inl h)
  ·rcases own j e h1 with ⟨hj,_⟩|⟨hj,h1'⟩
   ·rw[atI h1 hj]at h2;cases h2;exact .inr rfl
   ·rw[Cj hj]at h2;exact .inl (.inr ⟨j,e,h1',h2⟩)
 have wide:∀{v:V}{d:D},Rep K CL H (BL B ρ σ) v d->Rep K CL H' (BL B (ρ.set i (Aa (.lst ds,Ab))) (σ.set i (Aa (.ref a)))) v d:=fun r=>(Rep.wide (fun b hb=>(sub b hb).imp id fun e=>by rw[e];exact h0) _ r).same s
 have wides:∀{v:Ad V}{d:Ad D},Reps K CL H (BL B ρ σ) v d->Reps K CL H' (BL B (ρ.set i (Aa (.lst ds,Ab))) (σ.set i (Aa (.ref a)))) v d:=fun r=>(Reps.wide (fun b hb=>(sub b hb).imp id fun e=>by rw[e];exact h0) _ r).same s
 refine⟨⟨fun j e h=>?_,fun j e h=>?_,by rw[A3,A3];exact x.len⟩,fun b h=>?_,fun j e b g1 g2=>?_,fun j k e f b g1 g2 g3 g4=>?_,fun b o z=>s _ _ (x.same b o z),by rw[A3,A3];exact x.len⟩
 ·have hj:i≠j:=by
   rintro rfl;have:=GC h;cases this
  rw[Cj hj]at h;obtain⟨w',q,rw'⟩:=x.good.sh j e h;exact⟨w',by rw[Cj hj];exact q,wide rw'⟩
 ·rcases own j e h with ⟨hj,rfl⟩|⟨hj,h'⟩
  ·have q:=atI h hj;exact⟨a,xs,ds,q,rfl,.inr ⟨j,_,h,q⟩,h1,Reps.sub sub _ r⟩
  ·obtain⟨b,ys,es,q,z,ha,hh,rr⟩:=x.good.ow j e h';have q':(σ.set i (Aa (.ref a)))[j]?=Aa (Aa (.ref b)):=by rw[Cj hj];exact q
   exact⟨b,ys,es,q',z,.inr ⟨j,e,h,q'⟩,s _ _ hh,wides rr⟩
 ·rcases sub b h with z|z
  ·obtain⟨ys,q⟩:=x.aok b z;exact⟨ys,s _ _ q⟩
  ·rw[z];exact⟨xs,h1⟩
 ·rcases own j e g1 with ⟨hj,_⟩|⟨hj,h'⟩
  ·rw[atI g1 hj]at g2;cases g2;refine⟨fun o z=>?_,fun z=>nA (.inl z)⟩
   have:=x.same a o z;rw[h0]at this;cases this
  ·rw[Cj hj]at g2;exact x.new j e b h' g2
 ·rcases own j e g1 with ⟨hj,_⟩|⟨hj,h'⟩
  ·rw[atI g1 hj]at g3;cases g3;rcases own k f g2 with ⟨hk,_⟩|⟨hk,h''⟩
   ·exact hj.symm.trans hk
   ·rw[Cj hk]at g4;exact absurd (.inr ⟨k,f,h'',g4⟩) nA
  ·rw[Cj hj]at g3;rcases own k f g2 with ⟨hk,_⟩|⟨hk,h''⟩
   ·rw[atI g2 hk]at g4;cases g4;exact absurd (.inr ⟨j,e,h',g3⟩) nA
   ·rw[Cj hk]at g4;exact x.dis j k e f b h' h'' g3 g4
theorem Sx.upd(x:Sx K CL Fz B ρ σ H){i:Af}{d:D}{a:Ak}{xs:Ad V}{ds:Ad D}(hi:ρ[i]?=Aa (Aa (d,Ab)))(ha:σ[i]?=Aa (Aa (.ref a)))(r:Reps K CL H (BL B ρ σ) xs ds):Sx K CL Fz B (ρ.set i (Aa (.lst ds,Ab))) σ (L2.upd H a (.lst xs)):=by
 have oa:BL B ρ σ a:=.inr ⟨i,d,hi,ha⟩;have hil:i<ρ.length:=(AZ.mp hi).1;have get:∀(j:Af)(e:D),(ρ.set i (Aa (.lst ds,Ab)))[j]?=Aa (Aa (e,Ab))↔(i=j/\e=.lst ds)\/(i≠j/\ρ[j]?=Aa (Aa (e,Ab))):=fun j e=>by
  by_cases hj:i=j
  ·subst hj;rw[Cf hil];simp;exact⟨fun z=>z.symm,fun z=>z.symm⟩
  ·rw[Cj hj];simp[hj]
 have same:∀ b,BL B (ρ.set i (Aa (.lst ds,Ab))) σ b↔BL B ρ σ b:=fun b=>by
  constructor
  ·rintro (h|⟨j,e,h1,h2⟩)
   ·exact .inl h
   ·rcases (get j e).mp h1 with ⟨rfl,_⟩|⟨_,h1⟩
    ·exact .inr ⟨i,d,hi,h2⟩
    ·exact .inr ⟨j,e,h1,h2⟩
  ·rintro (h|⟨j,e,h1,h2⟩)
   ·exact .inl h
   ·by_cases hj:i=j
    ·subst hj;exact .inr ⟨i,.lst ds,(get i _).mpr (.inl ⟨rfl,rfl⟩),h2⟩
    ·exact .inr ⟨j,e,(get j e).mpr (.inr ⟨hj,h1⟩),h2⟩
 have kp:Kp (BL B ρ σ) H (L2.upd H a (.lst xs)):=fun b o e na=>by
  have hne:b≠a:=by
   rintro rfl;exact na oa
  rw[Bq hne];exact e
 refine⟨⟨fun j e h=>?_,fun j e h=>?_,by rw[A3];exact x.len⟩,fun b h=>?_,fun j e b g1 g2=>?_,fun j k e f b g1 g2 g3 g4=>?_,fun b o z=>?_,by rw[A3];exact x.len⟩
 ·have hj:i≠j:=by
   rintro rfl;have:=GC h;cases this
  rw[Cj hj]at h;obtain⟨w',q,rw'⟩:=x.good.sh j e h;exact⟨w',q,Rep.sub (fun b hb=>(same b).mp hb) _ (Rep.kp kp _ rw')⟩
 ·rcases (get j e).mp h with ⟨rfl,rfl⟩|⟨hj,h'⟩
  ·exact⟨a,xs,ds,ha,rfl,(same a).mpr oa,Ff,Reps.sub (fun b hb=>(same b).mp hb) _ (Reps.kp kp _ r)⟩
  ·obtain⟨b,ys,es,q,z,hb,hh,rr⟩:=x.good.ow j e h';have hne:b≠a:=fun z=>hj (x.dis i j d e a hi h' ha (z ▸ q))
   exact⟨b,ys,es,q,z,(same b).mpr hb,by rw[Bq hne];exact hh,Reps.sub (fun b hb=>(same b).mp hb) _ (Reps.kp kp _ rr)⟩
 ·obtain⟨ys,q⟩:=x.aok b ((same b).mp h);by_cases e:b=a
  ·rw[e];exact⟨xs,Ff⟩
  ·exact⟨ys,by rw[Bq e];exact q⟩
 ·rcases (get j e).mp g1 with ⟨rfl,_⟩|⟨_,h'⟩
  ·exact x.new i d b hi g2
  ·exact x.new j e b h' g2
 ·rcases (get j e).mp g1 with ⟨rfl,_⟩|⟨hj,h'⟩
  ·rcases (get k f).mp g2 with ⟨rfl,_⟩|⟨hk,h''⟩
   ·rfl
   ·exact x.dis i k d f b hi h'' g3 g4
  ·rcases (get k f).mp g2 with ⟨rfl,_⟩|⟨hk,h''⟩
   ·exact x.dis j i e d b h' hi g3 g4
   ·exact x.dis j k e f b h' h'' g3 g4
 ·have hne:b≠a:=fun e=>(x.new i d a hi ha).1 o (e ▸ z)
  rw[Bq hne];exact x.same b o z
theorem Sx.rel(x:Sx K CL Fz B ρ σ H)(hi:ρ[i]?=Aa (Aa (d,Ab))):Sx K CL Fz B (ρ.set i (Aa (d,Ac))) σ H:=by
 obtain⟨a,xs,ds,q,rfl,oa,hh,rr⟩:=x.good.ow i d hi;have own:∀(j:Af)(e:D),(ρ.set i (Aa (.lst ds,Ac)))[j]?=Aa (Aa (e,Ab))->i≠j/\ρ[j]?=Aa (Aa (e,Ab)):=fun j e h=>by
  by_cases hj:i=j
  ·subst hj;have:=GC h;cases this
  ·exact⟨hj,by rw[Cj hj]at h;exact h⟩
 have sub:∀ b,BL B (ρ.set i (Aa (.lst ds,Ac))) σ b->BL B ρ σ b:=fun b h=>by
  rcases h with h|⟨j,e,h1,h2⟩
  ·exact .inl h
  ·exact .inr ⟨j,e,(own j e h1).2,h2⟩
 have na:¬ BL B (ρ.set i (Aa (.lst ds,Ac))) σ a:=fun h=>by
  rcases h with h|⟨j,e,h1,h2⟩
  ·exact(x.new i _ a hi q).2 h
  ·obtain⟨hj,h1⟩:=own j e h1;exact hj (x.dis i j _ e a hi h1 q h2)
 refine⟨⟨fun j e h=>?_,fun j e h=>?_,by rw[A3];exact x.len⟩,fun b h=>x.aok b (sub b h),fun j e b g1 g2=>x.new j e b (own j e g1).2 g2,fun j k e f b g1 g2 g3 g4=>x.dis j k e f b (own j e g1).2 (own k f g2).2 g3 g4,x.same,by rw[A3];exact x.len⟩
 ·by_cases hj:i=j
  ·subst hj;have e1:=GC h;cases e1;exact⟨_,q,a,xs,rfl,.inl na,SqL.of hh,Reps.sub sub _ rr⟩
  ·rw[Cj hj]at h;obtain⟨w',q',rw'⟩:=x.good.sh j e h;exact⟨w',q',Rep.sub sub _ rw'⟩
 ·obtain⟨hj,h'⟩:=own j e h;obtain⟨b,ys,es,q',z,hb,hh',rr'⟩:=x.good.ow j e h';exact⟨b,ys,es,q',z,.inr ⟨j,e,h,q'⟩,hh',Reps.sub sub _ rr'⟩
end
section
variable{X:Cx}{CL:ClA}{W:XW}{pos:AI}{e:Ao}{fe:Rho->R D}{fr:An}
theorem BU.exC{f:D->O}(x:Sx X.K CL Fz B ρ σ H)(h:BU X.K CL Fz B W (O.of ρ r f) D')(k:∀ d v H',r=.ok d->AE H H'->Dv X.K CL fr H A H' v d->Sx X.K CL Fz B ρ σ H'->BU X.K CL Fz B W (f d) D'->Q v H'):Bc (Dv X.K CL fr H A) W H r Q:=by
 cases r with
 |ok d=>exact fun v H' s r=>k d v H' rfl s r (x.grow s) h
 |exn y=>exact fun H' s=>h H' fun b o z=>s _ _ (x.same b o z)
 |bad=>exact h
def SAs(X:Cx)(CL:ClA)(W:XW)(fr:An)(i:Af)(st:A4)(f:Rho->R D):Prop:=∀ A,PS X st (MJ (fun σ H Q=>AOk H A/\∃ ρ,Good X.K CL A ρ σ H/\Bc (Dv X.K CL fr H A) W H (f ρ) Q) (EX i))
theorem SC.sas{n:Aj}(hN:X.N.Nodup)(hi:X.N[i]?=Aa n)(hx:Loc X.env.scope n)(he:SC X CL W fr e fe)(hs:Do e (Aa (.Name n pos')) pos.line X.env=pure Ac)(hf:X.fn n=Ab\/X.env.scope.names.lookup n=Aa .local):SAs X CL W fr i (.Assign [.Name n pos'] e pos) fe:=
 fun A=>Ml hN hi hx (he A) hs hf
theorem Xd{n:Aj}{fe:Rho->R D}{g:TG}(hc:X.calm=Ab)(B:BlockOk X scope N' ts)(hi:SI X CL W tg iter fi)(hGG:GG X.K CL ts as g)(hg:∀ cl C s H fp,PG (cxC X scope cl C N' s H fp) tg g)(ht:∀ cl C s H fp,STs (cxC X scope cl C N' s H fp) CL ifs fc)(he:∀ cl C s H fp,SE (cxC X scope cl C N' s H fp) CL W0 elt fe)(hs:∀ x,CU iter X.env x=pure x)(hN:X.N.Nodup)(hni:X.N[i]?=Aa n)(hx:X.env.scope.names.lookup n=Aa .local)(hsw:Do (.ListComp elt [⟨tg,iter,ifs,0⟩] scope pos) (Aa (.Name n pos')) pos2.line X.env=pure Ab):SAs X CL W Ab i (.Assign [.Name n pos'] (.ListComp elt [⟨tg,iter,ifs,0⟩] scope pos) pos2) (fun ρ=>(fi ρ).bind fun xs=>(noX (BV (fun x=>(as x ρ).bind fc) (fun x=>(as x ρ).bind fe) xs)).bind fun ys=>.ok (.lst ys)):=fun A pI s σ H Dn I ⟨hA,ρ,gd,p⟩=>
 Y0 hc B (hi A) hg (fun cl C s H fp=>ht cl C s H fp A) (fun cl C s H fp=>he cl C s H fp A) hs hN hni hx hsw pI s σ H Dn I ⟨hA,ρ,gd,Qi hGG hA gd p⟩
theorem RV{st:A4}(h:SAs X CL W fr i st fe):SS X CL W st (fun ρ=>O.of ρ (fe ρ) fun d=>.next (ρ.set i (Aa (d,Ac)))):=fun Fz B pI s σ H D I ⟨ρ,x,p⟩=>
 h (BL B ρ σ) pI s σ H D I ⟨x.aok,ρ,x.good,BU.exC x p fun d v H' _ s r x' q=>q _ H' (x'.set i r.1)⟩
theorem Zk{st:A4}(h:SAs X CL W Ab i st fe):SS X CL W st (fun ρ=>O.of ρ (fe ρ) fun d=>setF ρ i d):=fun Fz B pI s σ H D I ⟨ρ,x,p⟩=>
 h (BL B ρ σ) pI s σ H D I ⟨x.aok,ρ,x.good,BU.exC x p fun d v H' _ s r x' q=>by
  cases d with
  |lst ds=>
   obtain⟨a,xs,rfl,h0,h1,rs⟩:=r.2 rfl ds rfl;exact q _ H' (x.setF s h0 h1 rs)
  |dic ds=>exact r.1.elim
  | _=>exact q.elim⟩
theorem Yn(he:SC X CL W Ab e fe):SS X CL W (.Return (Aa e) pos) (fun ρ=>O.of ρ (fe ρ) fun d=>.ret d Ab):=fun Fz B pI s σ H D I ⟨ρ,x,p⟩=>
 Oq (he (BL B ρ σ)) pI s σ H D I ⟨x.aok,ρ,x.good,BU.exC x p fun d v H' _ s r x' q=>q v H' x'.same (Rep.sub (fun a h=>.inl h) _ r.1) fun _ ds e=>by
  obtain⟨a,xs,h0,h1,h2,h3⟩:=r.2 rfl ds e;refine⟨a,xs,h0,fun o z=>?_,h2,Reps.sub (fun b hb=>hb.imp .inl id) _ h3⟩
  have:=x.same a o z;rw[h1]at this;cases this⟩
noncomputable def O8(ρ:Rho)(i:Af):An:=match ρ[i]? with
  |some (Aa (_,o))=>o
  |_=>Ac
theorem Ym(he:PE X e (GK i)):SS X CL W (.Return (Aa e) pos) (fun ρ=>O.of ρ (BF ρ i) fun d=>.ret d (O8 ρ i)):=fun Fz B pI s σ H D I ⟨ρ,x,p⟩=>
 Oq he pI s σ H D I (by
  dsimp only at p;cases e:BF ρ i with
  |bad=>rw[e]at p;exact p.elim
  |exn z=>exact(QK e).elim
  |ok d=>
   rw[e]at p;obtain⟨o,e⟩:=Q0 e;have eo:O8 ρ i=o:=by unfold O8;rw[e]
   rw[O.of_ok,eo]at p;cases o with
   |false=>
    obtain⟨v,q,r⟩:=x.good.sh i d e;exact⟨v,q,p v H x.same (Rep.sub (fun a h=>.inl h) _ r) fun z=>nomatch z⟩
   |true=>
    obtain⟨a,xs,ds,q,rfl,ha,hh,r⟩:=x.good.ow i d e;obtain⟨n1,n2⟩:=x.new i _ a e q;refine⟨_,q,p _ H x.same ⟨a,xs,rfl,.inl n2,SqL.of hh,Reps.sub (fun a h=>.inl h) _ r⟩ fun _ ds' e'=>?_⟩
    cases e';exact⟨a,xs,rfl,n1,hh,Reps.sub (fun b hb=>hb.elim .inl fun z=>z ▸ ha) _ r⟩)
theorem Y7{ds:Ad D}(h:D6 ρ i=.ok ds):ρ[i]?=Aa (Aa (.lst ds,Ab)):=by
 unfold D6 at h;split at h
 ·rename_i e;cases h;exact e
 ·cases h
theorem WW(h:D6 ρ i=.exn x):AS:=by
 unfold D6 at h;split at h<;>cases h
variable{o:Ao}{i:Af}{apos cpos:AI}
theorem aZ{k:Ao}{fk:Rho->R Ov.D}{spos:AI}(ho:PE X o (GK i))(hk:ST X CL W k fk)(he:SE X CL W e fe)(ha:∀ v,assign (.Subscript o k spos) X.env v=(do
      let ov <-holding [v] (eval o X.env)
      let iv <-holding [v,ov] (eval k X.env)
      Jm spos
      holding [v,ov,iv] (setItem ov iv v)
      release [v,ov,iv] []))(hs:G1 [.Subscript o k spos] e pos.line X.env=pure Ac)(hw:FQ [.Subscript o k spos] e X.env=pure Ae)(h1:(Cd [.Subscript o k spos] X.env).map (·.2)=[assign (.Subscript o k spos) X.env]):
    SS X CL W (.Assign [.Subscript o k spos] e pos) (fun ρ=>O.of ρ (fe ρ) fun d=>O.of ρ (D6 ρ i) fun xs=>O.of ρ ((fk ρ).bind EG) fun j=>match plD xs.length j with
      |some n=>.next (ρ.set i (Aa (.lst (xs.set n d),Ab)))
      | none=>.bad):=fun Fz B pI s σ H D I ⟨ρ,x,p⟩=>
  RG (he (BL B ρ σ)) (cZ ho (hk (BL B ρ σ)) W9 ha) hs hw h1 pI s σ H D I ⟨x.aok,ρ,x.good,BU.ex x p fun d v H' _ s rv x' q'=>by
    cases e1:D6 ρ i with
    |bad=>rw[e1]at q';exact q'.elim
    |exn z=>exact(WW e1).elim
    |ok ds=>
      rw[e1,O.of_ok]at q';have hi:=Y7 e1;obtain⟨a,xs,ds',q,e2,ha,hh,r⟩:=x'.good.ow i _ hi;cases e2;refine⟨_,q,x'.aok,ρ,x'.good,?_⟩;cases e3:fk ρ with
      |bad=>rw[e3]at q';exact q'.elim
      |exn z=>rw[e3]at q';exact fun H2 s2=>q' H2 fun b o z=>s2 _ _ (x'.same b o z)
      |ok dk=>
        rw[e3]at q';intro y H2 s2 ry;cases dk with
        |int j=>
          have ey:=ry.int_of;subst ey;rw[R.bind_ok,Nr,O.of_ok]at q';cases e4:plD ds.length j with
          |none=>rw[e4]at q';exact q'.elim
          |some n=>
            rw[e4]at q';refine⟨a,xs,j,n,rfl,rfl,s2 _ _ hh,?_,q' _ _ ((x'.grow s2).upd hi q (Reps.set (rv.same s2) n (r.same s2)))⟩;rw[r.length];exact e4
        | _=>exact q'.elim⟩
theorem Zj{as:Ov.D->Rho->R Rho}{g:TG}(hGT:GT X.K CL as g)(hg:PG X tg g)(he:SE X CL W e fe)(hs:G1 [tg] e pos.line X.env=pure Ac)(hw:FQ [tg] e X.env=pure Ae)(h1:(Cd [tg] X.env).map (·.2)=[assign tg X.env])(hax:∀ d ρ x,as d ρ≠.exn x):SS X CL W (.Assign [tg] e pos) (fun ρ=>O.of ρ (fe ρ) fun d=>O.of ρ (as d ρ) fun ρ'=>.next ρ'):=fun Fz B pI s σ H D I ⟨ρ,x,p⟩=>
 RG (he (BL B ρ σ)) hg hs hw h1 pI s σ H D I ⟨x.aok,ρ,x.good,BU.ex x p fun d v H' _ s rv x' q'=>by
  cases ea:as d ρ with
  |bad=>rw[ea]at q';exact q'.elim
  |exn z=>exact absurd ea (hax _ _ z)
  |ok ρ2=>
   rw[ea,O.of_ok]at q';exact hGT Fz B ρ σ H' v d ρ2 _ x' rv ea fun σ' x3=>q' σ' H' x3⟩
theorem Yk{rest:Ad A4}{f:Rho->O}(i:Af)(h:SSs X CL W rest f):SSs X CL W rest (fun ρ=>(match ρ[i]? with
   |some (Aa (d,Ab))=>O.next (ρ.set i (Aa (d,Ac)))
   | _=>O.next ρ).seq f):=fun Fz B=>PSs.weak (h Fz B) fun D σ H ⟨ρ,x,p⟩=>by
 dsimp only at p;split at p
 ·rename_i d e;exact⟨_,x.rel e,p⟩
 ·exact⟨ρ,x,p⟩
end
section
variable{prog:AK}{w:AY}{A:AV}{E:Vq}{s:Aq}
theorem fB{j t:Ak}{x:Ai}{Q:Vq}(st:s.heap.IsTupleIter j t k)(sq:s.heap.IsTuple t its)(at_:its[k]?=Aa x)(go:∀ h2,h2.IsTupleIter j t (k+1)->DZ j s.heap h2->Q x {s with heap:=h2}):At (model prog w) A (AR (.ref j)) Q E s:=by
 obtain⟨oj,gj,cj,dj⟩:=id st;obtain⟨ot,gt,_,nt,dt⟩:=sq;show At _ _ (IM _ _ >>= _) _ _ _;refine Ah (BQ st.typeIs DG (Cv DG st.typeIs U7 ?_ (U2 _)));show At _ _ (field (.ref j) 0 >>= _) _ _ _;refine Ah (A2 gj dj (x:=.ref t) rfl ?_);show At _ _ (field (.ref j) 1 >>= _) _ _ _;refine Ah (A2 gj dj (x:=.int k 0) rfl ?_);refine Ah (BA gt dt ?_);simp only[G9,at_];exact Ah (Fp gj dj (by simp) (As ⟨x,rfl,As (go _ ⟨_,Bw _ gj (Ew (Da dj _)),(Vi ..).trans cj,by rw[Da dj];simp[B4]⟩ (Gz ..))⟩))
theorem WT{j t:Ak}{Q:Vq}(calm:A.handled=Ae)(st:s.heap.IsTupleIter j t k)(sq:s.heap.IsTuple t its)(at_:its[k]?=Ae)(up:∀ h2 e,HN j s.heap h2->(∃ o,h2.get? e=Aa o/\o.cls=.type "StopIteration")->E (.ref e) {s with heap:=h2}):At (model prog w) A (AR (.ref j)) Q E s:=by
 obtain⟨oj,gj,cj,dj⟩:=id st;obtain⟨ot,gt,_,nt,dt⟩:=sq;show At _ _ (IM _ _ >>= _) _ _ _;refine Ah (BQ st.typeIs DG (Cv DG st.typeIs U7 ?_ (U2 _)));show At _ _ (field (.ref j) 0 >>= _) _ _ _;refine Ah (A2 gj dj (x:=.ref t) rfl ?_);show At _ _ (field (.ref j) 1 >>= _) _ _ _;refine Ah (A2 gj dj (x:=.int k 0) rfl ?_);refine Ah (BA gt dt ?_);simp only[G9,at_];refine Ah (Gm (Ah (Fp gj dj (by simp) ?_)))
 refine Ah ?_;simp only[newExc,newTuple];refine Ah (Cn ?_ (by size_fits))
 refine Ah (m:=VE _ _) (HP (a:=.none) (by first|rfl|(simp only[VE];rfl)) (Cn ?_ (by size_fits)))
 simp only[raiseNew];refine Ah (wpAny_handled ?_)
 first|rw[show A.in1.handled=Ae from calm]|rw[calm]
 exact Ah (As (wpAny_throw (up _ _ (((Gz ..).extBut.push _).push _) ⟨_,AD _ rfl,rfl⟩)))
end
structure Dw (prog:AK) (w:AY) (A:AV) (j:Ak) (fp:Ad Ak) (n:Af) (P:Af->Ai->Prop) (S:Af->AB->Prop):Prop where
 frame:∀ i h h2,S i h->(∀ c∈fp,∀ o,h.get? c=Aa o->h2.get? c=Aa o)->S i h2
 item:∀ i (s:Aq) (Q:Vq) (E:Vq),i<n->S i s.heap->(∀ x h2 tk,P i x->S (i+1) h2->DZ j s.heap h2->Q x {s with heap:=h2,toks:=tk})->At (model prog w) A (AR (.ref j)) Q E s
 done:∀ i (s:Aq) (Q:Vq) (E:Vq),n<=i->S i s.heap->(∀ h2 e,HN j s.heap h2->(∃ o,h2.get? e=Aa o/\o.cls=.type "StopIteration")->E (.ref e) {s with heap:=h2})->At (model prog w) A (AR (.ref j)) Q E s
def Em(t:An)(h:AB)(j l:Ak)(i:Af):Prop:=match t with
  |true=>h.IsTupleIter j l i
  |false=>h.IsListIter j l i
def B5(t:An)(h:AB)(l:Ak)(its:AX Ai):Prop:=match t with
  |true=>h.IsTuple l its
  |false=>h.IsList l its
theorem HX{A:AV}(calm:A.handled=Ae)(t:An)(j l:Ak)(ne:l≠j)(its:AX Ai):Dw prog w A j [j,l] its.size (fun i v=>its[i]?=Aa v) (fun i h=>Em t h j l i/\B5 t h l its):=by
 cases t with
 |true=>exact⟨fun _ _ _ z k=>⟨z.1.at fun o e=>k j (by simp) o e,z.2.at fun o e=>k l (by simp) o e⟩,fun i s Q E hi z q=>fB z.1 z.2 (x:=its[i]) (by simp[hi]) fun h2 z2 sb=>q _ h2 s.toks (by simp[hi]) ⟨z2,z.2.extBut sb.extBut ne⟩ sb,fun i s Q E hi z q=>WT calm z.1 z.2 (by simp[hi]) q⟩
 |false=>exact⟨fun _ _ _ z k=>⟨z.1.at fun o e=>k j (by simp) o e,z.2.at fun o e=>k l (by simp) o e⟩,fun i s Q E hi z q=>wpAny_nextOf_list_item z.1 z.2 (x:=its[i]) (by simp[hi]) fun h2 z2 sb=>q _ h2 s.toks (by simp[hi]) ⟨z2,z.2.extBut sb.extBut ne⟩ sb,fun i s Q E hi z q=>wpAny_nextOf_list_end calm z.1 z.2 (by simp[hi]) q⟩
theorem nb1{I l c:Af}(b:l<I)(h:c∈[I,l])(j:Af):c≠I+(j+1):=by
 have h':c=I\/c=l:=by simpa using h
 omega
theorem nb2{I l c:Af}(b:l<I)(h:c∈[I+1,l]):c≠I/\c≠I+3/\c≠I+4:=by
 have h':c=I+1\/c=l:=by simpa using h
 omega
theorem nij{I i j:Af}(h:i≠j):I+i≠I+j:=by omega
theorem ni0{I i:Af}(h:i≠0):I+i≠I:=by omega
section
variable{prog:AK}{w:AY}{A:AV}{E:Vq}{s:Aq}
theorem Xu{I l1 l2 n1 n2 k:Af}{a b:Ai}{Q:Vq}(b1:l1<I)(b2:l2<I)(D1:Dw prog w A I [I,l1] n1 P1 S1)(D2:Dw prog w A (I+1) [I+1,l2] n2 P2 S2)(hz:Gh s.heap (I+4) (I+2) (I+3) .none)(hI:Ev s.heap (I+2) (.ref I) (.ref (I+1)))(hO:Ev s.heap (I+3) a b)(g1:S1 k s.heap)(g2:S2 k s.heap)(k1:k<n1)(k2:k<n2)(go:∀ x y h2 tk,P1 k x->P2 k y->Gh h2 (I+4) (I+2) (I+3) (B4 s.heap.objs.size)->Ev h2 (I+3) x y->S1 (k+1) h2->S2 (k+1) h2->Ev h2 s.heap.objs.size x y ->
   (∀ c o,c∉[I,I+1,I+3,I+4]->s.heap.get? c=Aa o->h2.get? c=Aa o)->Q (.ref s.heap.objs.size) {s with heap:=h2,toks:=tk}):At (model prog w) A (Builtin.«zip.__next__» ⟨[.ref (I+4)],[]⟩) (fun fin s'=>∃ v,fin=.done (.ret v)/\Q v s') E s:=by
 refine Ah (m:=field (.ref (I+4)) 2) (A2 hz rfl (x:=.bool Ac) rfl ?_);refine Ah (m:=field (.ref (I+4)) 3) (A2 hz rfl (x:=.ref (I+2)) rfl (Ah (BA hI rfl ?_)));refine Ah (m:=AT (.ref (I+4))) ?_;simp only[AT];refine Ah (A2 hz rfl (x:=.none) rfl (As ?_));rw[AF rfl];refine Ah (Gm (Ah (A2 hz rfl (x:=.ref (I+3)) rfl (Ah (BH hz (by simp) fun p1 z1 e1=>Ah ?_)))))
 have z1':Gh p1 (I+4) (I+2) (I+3) .ellipsis:=z1;simp only[FS,Gd,DC,Du];refine Ah (Ah (Dp (Ah (m:=AR (.ref I)) (D1.item k _ _ _ k1 (D1.frame _ _ _ g1 fun c hc o q=>e1.extBut c o (nb1 b1 hc 3) q) fun x p2 t2 px s2 e2=>As ?_))))
 have o2:Ev p2 (I+3) a b:=e2.extBut _ _ (ni0 (by decide)) (e1.extBut _ _ (nij (by decide)) hO)
 refine Ah (BA o2 rfl (Ah (Go o2 fun p3 o3 e3=>Ah (FN (As ?_)))))
 have o3':Ev p3 (I+3) x b:=o3;have g2':S2 k p3:=D2.frame _ _ _ g2 fun c hc o q=>e3.extBut c o (nb2 b2 hc).2.1 (e2.extBut c o (nb2 b2 hc).1 (e1.extBut c o (nb2 b2 hc).2.2 q))
 refine Ah (Ah (Dp (Ah (m:=AR (.ref (I+1))) (D2.item k _ _ _ k2 g2' fun y p4 t4 py s4 e4=>As ?_))))
 have o4:Ev p4 (I+3) x b:=e4.extBut _ _ (nij (by decide)) o3'
 refine Ah (BA o4 rfl (Ah (Go o4 fun p5 o5 e5=>Ah (FN (As (As ?_))))))
 have o5':Ev p5 (I+3) x y:=o5;have sz:p5.objs.size=s.heap.objs.size:=by rw[e5.1,e4.1,e3.1,e2.1,e1.1]
 have z5:Gh p5 (I+4) (I+2) (I+3) .ellipsis:=e5.extBut _ _ (nij (by decide)) (e4.extBut _ _ (nij (by decide)) (e3.extBut _ _ (nij (by decide)) (e2.extBut _ _ (ni0 (by decide)) z1')))
 refine Ah (BA o5' rfl (Ah (Ih ?_)));refine Ah (m:=CK (.ref (I+4)) (.ref p5.objs.size)) ?_;simp only[CK];have z6:Gh (p5.push { cls:=.type "tuple", data:=.seq #[x,y] }) (I+4) (I+2) (I+3) .ellipsis:=Ap _ z5;refine Ah (BH z6 (by simp) fun p7 z7 e7=>?_)
 have z7':Gh p7 (I+4) (I+2) (I+3) (B4 p5.objs.size):=z7;refine BH z7' (by simp) fun p8 z8 e8=>As ⟨_,rfl,?_⟩
 have z8':Gh p8 (I+4) (I+2) (I+3) (B4 p5.objs.size):=z8;have lt5:I+4<p5.objs.size:=AC z5;have up:∀ c o,c≠I+4->p5.get? c=Aa o->p8.get? c=Aa o:=fun c o nc q=>e8.extBut _ _ nc (e7.extBut _ _ nc (Ap _ q))
 have t8:Ev p8 p5.objs.size x y:=e8.extBut _ _ (CZ lt5) (e7.extBut _ _ (CZ lt5) (AD _ rfl));have a1:S1 (k+1) p8:=D1.frame _ _ _ s2 fun c hc o q=>up c o (nb1 b1 hc 3) (e5.extBut c o (nb1 b1 hc 2) (e4.extBut c o (nb1 b1 hc 0) (e3.extBut c o (nb1 b1 hc 2) q)))
 have a2:S2 (k+1) p8:=D2.frame _ _ _ s4 fun c hc o q=>up c o (nb2 b2 hc).2.2 (e5.extBut c o (nb2 b2 hc).2.1 q)
 have kp:∀ c o,c∉[I,I+1,I+3,I+4]->s.heap.get? c=Aa o->p8.get? c=Aa o:=fun c o nc q=>by
  simp only[Ay,AN,BP,DN]at nc;exact up c o nc.2.2.2 (e5.extBut c o nc.2.2.1 (e4.extBut c o nc.2.1 (e3.extBut c o nc.2.2.1 (e2.extBut c o nc.1 (e1.extBut c o nc.2.2.2 q)))))
 have q:=go x y p8 t4 px py (by rw[<-sz];exact z8') (up _ _ (nij (by decide)) o5') a1 a2 (by rw[<-sz];exact t8) kp
 rw[<-sz]at q;exact q
theorem YN{I l1 l2 n1 n2 k:Af}{a b:Ai}{Q:Fin->Aq->Prop}(b1:l1<I)(b2:l2<I)(D1:Dw prog w A I [I,l1] n1 P1 S1)(D2:Dw prog w A (I+1) [I+1,l2] n2 P2 S2)(hz:Gh s.heap (I+4) (I+2) (I+3) .none)(hI:Ev s.heap (I+2) (.ref I) (.ref (I+1)))(hO:Ev s.heap (I+3) a b)(g1:S1 k s.heap)(g2:S2 k s.heap)(hk:n1<=k\/(k<n1/\n2<=k))(up:∀ h2 e tk,(∀ c o,c∉[I,I+1,I+3,I+4]->s.heap.get? c=Aa o->h2.get? c=Aa o)->(∃ o,h2.get? e=Aa o/\o.cls=.type "StopIteration")->E (.ref e) {s with heap:=h2,toks:=tk}):At (model prog w) A (Builtin.«zip.__next__» ⟨[.ref (I+4)],[]⟩) Q E s:=by
 refine Ah (m:=field (.ref (I+4)) 2) (A2 hz rfl (x:=.bool Ac) rfl ?_);refine Ah (m:=field (.ref (I+4)) 3) (A2 hz rfl (x:=.ref (I+2)) rfl (Ah (BA hI rfl ?_)));refine Ah (m:=AT (.ref (I+4))) ?_;simp only[AT];refine Ah (A2 hz rfl (x:=.none) rfl (As ?_));rw[AF rfl];refine Ah (Gm (Ah (A2 hz rfl (x:=.ref (I+3)) rfl (Ah (BH hz (by simp) fun p1 z1 e1=>Ah ?_)))))
 have z1':Gh p1 (I+4) (I+2) (I+3) .ellipsis:=z1;simp only[FS,Gd,DC,Du];have g1':S1 k p1:=D1.frame _ _ _ g1 fun c hc o q=>e1.extBut c o (nb1 b1 hc 3) q
 rcases hk with k1|⟨k1,k2⟩
 ·refine Ah (Ah (Dp (Ah (m:=AR (.ref I)) (D1.done _ _ _ _ k1 g1' fun p2 e e2 he=>?_))))
  obtain⟨oe,hoe,hce⟩:=he;have z2:Gh p2 (I+4) (I+2) (I+3) .ellipsis:=e2 _ _ (ni0 (by decide)) z1'
  have ne:e≠I+4:=fun x=>by subst x;rw[z2]at hoe;cases hoe;simp at hce
  refine BH z2 (by simp) fun p3 _ e3=>up p3 e s.toks (fun c o nc q=>?_) ⟨oe,e3.extBut _ _ ne hoe,hce⟩
  simp only[Ay,AN,BP,DN]at nc;exact e3.extBut c o nc.2.2.2 (e2 c o nc.1 (e1.extBut c o nc.2.2.2 q))
 ·refine Ah (Ah (Dp (Ah (m:=AR (.ref I)) (D1.item k _ _ _ k1 g1' fun x p2 t2 px s2 e2=>As ?_))))
  have o2:Ev p2 (I+3) a b:=e2.extBut _ _ (ni0 (by decide)) (e1.extBut _ _ (nij (by decide)) hO)
  refine Ah (BA o2 rfl (Ah (Go o2 fun p3 o3 e3=>Ah (FN (As ?_)))))
  have g2':S2 k p3:=D2.frame _ _ _ g2 fun c hc o q=>e3.extBut c o (nb2 b2 hc).2.1 (e2.extBut c o (nb2 b2 hc).1 (e1.extBut c o (nb2 b2 hc).2.2 q))
  refine Ah (Ah (Dp (Ah (m:=AR (.ref (I+1))) (D2.done _ _ _ _ k2 g2' fun p4 e e4 he=>?_))))
  obtain⟨oe,hoe,hce⟩:=he;have z4:Gh p4 (I+4) (I+2) (I+3) .ellipsis:=e4 _ _ (nij (by decide)) (e3.extBut _ _ (nij (by decide)) (e2.extBut _ _ (ni0 (by decide)) z1'))
  have ne:e≠I+4:=fun x=>by subst x;rw[z4]at hoe;cases hoe;simp at hce
  refine BH z4 (by simp) fun p5 _ e5=>up p5 e t2 (fun c o nc q=>?_) ⟨oe,e5.extBut _ _ ne hoe,hce⟩
  simp only[Ay,AN,BP,DN]at nc;exact e5.extBut c o nc.2.2.2 (e4 c o nc.2.1 (e3.extBut c o nc.2.2.1 (e2.extBut c o nc.1 (e1.extBut c o nc.2.2.2 q))))
end
def SqX(t:An)(K:Fg)(H:Hp)(a:Ak)(xs:Ad V):Prop:=match t with
  |true=>SqT K H a xs
  |false=>SqL K H a xs
theorem G2(I:Inv X pI σ H s)(h:SqX t X.K H a xs):∃ its:Ad Ai,Bb xs its/\B5 t s.heap a its.toArray/\xs.length<=sizeLine:=by
 cases t with
 |true=>
  obtain⟨its,rv,p,z⟩:=I.tuple h;exact⟨its,rv,p,z⟩
 |false=>
  obtain⟨its,rv,p,z⟩:=I.list h;exact⟨its,rv,p.isList,z⟩
theorem Nk{ys:Ad V}(I:Inv X pI σ H s)(h:SqX t X.K H a xs)(h2:SqX t X.K H a ys):xs=ys:=by
 cases t with
 |true=>exact I.tuple_inj h h2
 |false=>exact I.list_inj h h2
noncomputable def Itz(K:Fg)(t1 t2:An)(a b:Ak):It:=
  ⟨fun i H=>∃ xs ys x y,SqX t1 K H a xs/\SqX t2 K H b ys/\xs[i]?=Aa x/\ys[i]?=Aa y,
   fun i H v H'=>∃ p x y,H p=Ae/\v=.ref p/\(∀ xs,SqX t1 K H a xs->xs[i]?=Aa x)/\(∀ ys,SqX t2 K H b ys->ys[i]?=Aa y)/\H'=upd H p (.tup [x,y]),
   fun i H=>∃ xs ys,SqX t1 K H a xs/\SqX t2 K H b ys/\(xs.length<=i\/(i<xs.length/\ys.length<=i))⟩
theorem Inv.turnedL(ch:Ad Ak)(I:Inv X pI σ H s)(k:∀ b o,b∉ch->s.heap.get? b=Aa o->h'.get? b=Aa o)(hf:∀ b∈ch,GM X pI H b):Inv X pI σ H {s with heap:=h',toks:=t'}:=by
 have nit:∀ b u,H b=Aa u->b∉ch:=fun b u e z=>by rw[(hf b z).1]at e;cases e
 refine I.step (g':=s.gens) (d':=s.drawn) (ch:=ch) (fun b hb=>⟨(hf b hb).2.2.2.1,(hf b hb).2.1,(hf b hb).2.2.2.2.1,(hf b hb).2.2.2.2.2⟩) (fun b o _ _ hc e _=>k b o hc e) (fun b o _ _ hc e _=>⟨o.slots,k b o hc e⟩) (fun _ _ _ _ n=>n)
  (fun b o hc e=>⟨o,k b o hc e⟩) (fun _ _ e=>e) (fun _ _ _ e=>e) (fun b ps e=>⟨#[],by rw[e];simp⟩) (fun m ⟨o,es,ep,ho,r⟩=>⟨o,es,ep,k _ o (fun z=>(hf _ z).2.1 rfl) ho,r⟩) (fun b u e=>(I.hok b u e).stay (fun c v hc q=>k c v ?_ q) (fun _ q=>q) fun _ _ q=>q) I.bare
 rcases hc with z|z
 ·rw[z];exact nit b u e
 ·exact nit c _ z
def zTn(t1 t2:An)(I l1 l2:Af)(i:Af)(h:AB):Prop:=Gh h (I+4) (I+2) (I+3) .none/\Ev h (I+2) (.ref I) (.ref (I+1))/\(∃ a b,Ev h (I+3) a b)/\Em t1 h I l1 i/\Em t2 h (I+1) l2 i
noncomputable def zFp(I:Af):Ad Ak:=[I,I+1,I+2,I+3,I+4]
theorem Em.obj{j:Ak}(z:Em t h j l i):∃ o,h.get? j=Aa o/\∀ v,o.data≠.cell v:=by
 cases t with
 |true=>obtain⟨o,e,c,d⟩:=z;exact⟨o,e,fun v z=>by rw[d]at z;cases z⟩
 |false=>obtain⟨o,e,c,d⟩:=z;exact⟨o,e,fun v z=>by rw[d]at z;cases z⟩
theorem Em.at'{j:Ak}(z:Em t h j l i)(k:∀ o,h.get? j=Aa o->h2.get? j=Aa o):Em t h2 j l i:=by
 cases t with
 |true=>exact PySem.Heap.IsTupleIter.at z k
 |false=>exact PySem.Heap.IsListIter.at z k
theorem W2(t1 t2:An)(I l1 l2:Af)(b1:l1<I)(b2:l2<I):Turn P w K (.Tuple es n pos) (Itz K t1 t2 l1 l2) (zFp I) (I+4) (zTn t1 t2 I l1 l2) where
  mem:=by simp[zFp]
  obj:=fun i h ⟨z1,z2,⟨a,b,z3⟩,z4,z5⟩ c hc=>by
    simp only[zFp,Ay,AN,BP]at hc;rcases hc with rfl|rfl|rfl|rfl|rfl
    · exact z4.obj
    · exact z5.obj
    · exact⟨_,z2,fun v z=>by cases z⟩
    · exact⟨_,z3,fun v z=>by cases z⟩
    · exact⟨_,z1,fun v z=>by cases z⟩
  keep:=fun i h h2 ⟨z1,z2,⟨a,b,z3⟩,z4,z5⟩ k=>⟨k _ (by simp[zFp]) _ z1,k _ (by simp[zFp]) _ z2,⟨a,b,k _ (by simp[zFp]) _ z3⟩,z4.at' fun o e=>k _ (by simp[zFp]) o e,z5.at' fun o e=>k _ (by simp[zFp]) o e⟩
  item:=by
    intro X hP hw hK hc i pI s σ H E Iv hf ⟨z1,z2,⟨a,b,z3⟩,z4,z5⟩ ⟨xs,ys,x,y,q1,q2,hx,hy⟩;subst hP hw hK;obtain⟨us,rx,sx,_⟩:=G2 Iv q1;obtain⟨vs,ry,sy,_⟩:=G2 Iv q2;obtain⟨u,hu,ru⟩:=rx.get hx;obtain⟨v,hv,rv⟩:=ry.get hy;have hT:s.TypeIs (.ref (I+4)) "zip" := ⟨_,z1,rfl⟩;have calm:X.A.in1.handled=Ae:=Iv.ok.hd hc;show At _ _ (DM _) _ _ _;simp only[DM];refine Ah (ER (BQ hT Cc (Cv Cc hT DY (Xu (k:=i) b1 b2 (HX calm t1 I l1 (A1 b1) us.toArray) (HX calm t2 (I+1) l2 (A1 (Eo b2)) vs.toArray) z1 z2 z3 ⟨z4,sx⟩ ⟨z5,sy⟩
      (by have:=(AZ.mp hu).1;simpa using this) (by have:=(AZ.mp hv).1;simpa using this) fun x' y' h2 tk px py c1 c2 c3 c4 c5 kp=>As ?_) (DL _))))
    have ex:x'=u:=by
      have px':us[i]?=Aa x':=by simpa using px
      rw[hu]at px';exact(Bh px').symm
    have ey:y'=v:=by
      have py':vs[i]?=Aa y':=by simpa using py
      rw[hv]at py';exact(Bh py').symm
    subst ex ey;refine⟨_,rfl,wpAny_letOwnedTupleGo_zip c1 fun h3 d1 sb=>?_⟩
    have lt4:I+4<s.heap.objs.size:=AC z1;have kp3:∀ c o,c∉zFp I->s.heap.get? c=Aa o->h3.get? c=Aa o:=fun c o nc q=>by
      simp only[zFp,Ay,AN,BP,DN]at nc;exact sb.extBut c o nc.2.2.2.2 (kp c o (by simp only[Ay,AN,BP,DN];exact⟨nc.1,nc.2.1,nc.2.2.2.1,nc.2.2.2.2⟩) q)
    have nT:∀ c∈zFp I,c≠s.heap.objs.size:=fun c hc z=>by
      have:c<=I+4:=by
        simp only[zFp,Ay,AN,BP]at hc;rcases hc with z|z|z|z|z<;>rw[z]<;>simp
      exact absurd (z ▸ BX this lt4) (Bf _)
    have I1:Inv X pI σ (upd H s.heap.objs.size (.tup [x,y])) { s with heap:=s.heap.push { cls:=.type "tuple", data:=.seq #[x',y'] },toks:=s.toks }:=
      Iv.laid (fun _ _ q=>Ap _ q) (AU _) ⟨(by decide:2<=sizeLine),[x',y'],.cons ru (.cons rv .nil),⟨_,AD _ rfl,rfl,_,rfl⟩⟩
    have hf':∀ b∈zFp I,GM X pI (upd H s.heap.objs.size (.tup [x,y])) b:=fun b hb=>⟨by rw[Bq (nT b hb)];exact(hf b hb).1,(hf b hb).2⟩
    have I2:Inv X pI σ (upd H s.heap.objs.size (.tup [x,y])) {s with heap:=h3,toks:=tk}:=Inv.turnedL (s:={ s with heap:=s.heap.push { cls:=.type "tuple", data:=.seq #[x',y'] },toks:=s.toks }) (zFp I) I1 (fun c o nc q=>by
      rcases Vg q with ⟨e1,e2⟩|e1
      · subst e1 e2;exact sb.extBut _ _ (CZ lt4) c5
      · exact kp3 c o nc e1) hf'
    refine⟨.ref s.heap.objs.size,_,I2,rfl,⟨s.heap.objs.size,x,y,Iv.fresh,rfl,fun zs hz=>by rw[Nk Iv hz q1];exact hx,fun zs hz=>by rw[Nk Iv hz q2];exact hy,rfl⟩,⟨d1,sb.extBut _ _ (nij (by decide)) (kp _ _ (by simp) z2),⟨_,_,sb.extBut _ _ (nij (by decide)) c2⟩,c3.1.at' fun o q=>sb.extBut _ o (Ct (ni0 (by decide))) q,c4.1.at' fun o q=>sb.extBut _ o (nij (by decide)) q⟩,fun b hb=>(hf' b hb).1⟩
  done:=by
    intro X hP hw hK hc i pI s σ H E Iv hf ⟨z1,z2,⟨a,b,z3⟩,z4,z5⟩ ⟨xs,ys,q1,q2,hk⟩;subst hP hw hK;obtain⟨us,rx,sx,_⟩:=G2 Iv q1;obtain⟨vs,ry,sy,_⟩:=G2 Iv q2;have hT:s.TypeIs (.ref (I+4)) "zip" := ⟨_,z1,rfl⟩;have calm:X.A.in1.handled=Ae:=Iv.ok.hd hc;have e1:=rx.length;have e2:=ry.length;simp only[DM];refine Ah (ER (BQ hT Cc (Cv Cc hT DY (YN (k:=i) b1 b2 (HX calm t1 I l1 (A1 b1) us.toArray) (HX calm t2 (I+1) l2 (A1 (Eo b2)) vs.toArray) z1 z2 z3 ⟨z4,sx⟩ ⟨z5,sy⟩
      (by simp only[AO];omega) fun h2 e tk kp he=>?_) (DL _))))
    obtain⟨o,ho,hcl⟩:=he;refine Ah (VO (T := "StopIteration") (b:=Ab) ⟨o,ho,hcl⟩ VF (As ⟨rfl,Inv.turnedL [I,I+1,I+3,I+4] Iv (fun c o nc q=>kp c o nc q) fun c hc=>hf c ?_⟩))
    simp only[Ay,AN,BP]at hc;simp only[zFp,Ay,AN,BP];rcases hc with rfl|rfl|rfl|rfl<;>simp
  self:=fun _ _ _ _ _ st h=>VR st.1 h
section
variable{prog:AK}{w:AY}{A:AV}{E:Vq}{s:Aq}
noncomputable def itO(t:An)(l:Ak):Cz:=match t with
  |true=>{ cls:=.type "tuple_iterator", data:=.fields #[.ref l,.int 0 0] }
  |false=>{ cls:=.type "list_iterator", data:=.fields #[.ref l,.int 0 0] }
theorem Jc{Q:Vq}(h:B5 t s.heap l its)(q:Q (.ref s.heap.objs.size) {s with heap:=s.heap.push (itO t l)}):At (model prog w) A (JT (.ref l)) Q E s:=by
 cases t with
 |true=>exact VQ h q
 |false=>exact Fv h q
theorem B5.push(z:B5 t h l its)(o:Cz):B5 t (h.push o) l its:=by
 cases t with
 |true=>exact PySem.Heap.IsTuple.at z fun _ e=>Ap _ e
 |false=>exact PySem.Heap.IsList.at z fun _ e=>Ap _ e
theorem Kq{j:Ak}(e:h.get? j=Aa (itO t l)):Em t h j l 0:=by
 cases t with
 |true=>exact⟨_,e,rfl,rfl⟩
 |false=>exact⟨_,e,rfl,rfl⟩
theorem Kh(t:An)(l:Ak):(itO t l).isFreed=Ac:=by cases t<;>rfl
noncomputable abbrev zh2(t1 t2:An)(h:AB)(l1 l2:Ak):AB:=(h.push (itO t1 l1)).push (itO t2 l2)
noncomputable abbrev zh3(t1 t2:An)(h:AB)(l1 l2:Ak):AB:=(zh2 t1 t2 h l1 l2).push { cls:=.type "tuple", data:=.seq #[.ref h.objs.size,.ref (h.push (itO t1 l1)).objs.size] }
noncomputable abbrev zh4(t1 t2:An)(h:AB)(l1 l2:Ak):AB:=(zh3 t1 t2 h l1 l2).push { cls:=.type "tuple", data:=.seq #[.none,.none] }
noncomputable abbrev zh5(t1 t2:An)(h:AB)(l1 l2:Ak):AB:=(zh4 t1 t2 h l1 l2).push { cls:=.type "zip", data:=.fields #[.none,.bool Ac,.bool Ac,.ref (zh2 t1 t2 h l1 l2).objs.size,.ref (zh3 t1 t2 h l1 l2).objs.size] }
theorem YM(t1 t2:An)(l1 l2:Ak)(xs ys:AX Ai):Meets (Builtin.«zip.__new__» ⟨[.type "zip", .ref l1,.ref l2],[]⟩) (fun _ R s=>B5 t1 s.heap l1 xs/\B5 t2 s.heap l2 ys/\R (.ok (.ret (.ref (zh4 t1 t2 s.heap l1 l2).objs.size))) {s with heap:=zh5 t1 t2 s.heap l1 l2}):=
 .of_wp fun prog w A R s h=>by
  obtain⟨hp,g,d,tk,os⟩:=s;obtain⟨a1,a2,q⟩:=h;have hsub:=sub_zip;have L1:B5 t1 (FK ⟨hp,g,d,tk,os⟩) l1 xs:=a1;have L2:B5 t2 (FK ⟨hp.push (itO t1 l1),g,d,tk,os⟩) l2 ys:=a2.push _
  wp_walk using Jc L1,Jc L2
  exact⟨_,rfl,q⟩
theorem Xv{t1 t2:An}{l1 l2:Ak}{xs:AX Ai}{Q:Vq}(a1:B5 t1 s.heap l1 xs)(a2:B5 t2 s.heap l2 ys)(q:∀ h2,zTn t1 t2 s.heap.objs.size l1 l2 0 h2->(∀ c o,s.heap.get? c=Aa o->h2.get? c=Aa o)->Q (.ref (s.heap.objs.size+4)) {s with heap:=h2}):At (model prog w) A (call (.type "zip") [.ref l1,.ref l2]) Q E s:=by
 refine IN U3 (by decide) (F.typeCall_zip_2 _ _) (F.newCall_zip_2 _ _) (fun obj=>F.args_object_init_3 obj _ _) U8 (YM t1 t2 l1 l2 xs ys) ⟨a1,a2,?_⟩
 have s1:(s.heap.push (itO t1 l1)).objs.size=s.heap.objs.size+1:=Bm ..;have s2:(zh2 t1 t2 s.heap l1 l2).objs.size=s.heap.objs.size+2:=by rw[Bm,s1]
 have s3:(zh3 t1 t2 s.heap l1 l2).objs.size=s.heap.objs.size+3:=by rw[Bm,s2]
 have s4:(zh4 t1 t2 s.heap l1 l2).objs.size=s.heap.objs.size+4:=by rw[Bm,s3]
 have u5:∀ {c o},(zh4 t1 t2 s.heap l1 l2).get? c=Aa o->(zh5 t1 t2 s.heap l1 l2).get? c=Aa o:=fun e=>Ap _ e
 have u4:∀ {c o},(zh3 t1 t2 s.heap l1 l2).get? c=Aa o->(zh5 t1 t2 s.heap l1 l2).get? c=Aa o:=fun e=>u5 (Ap _ e)
 have u3:∀ {c o},(zh2 t1 t2 s.heap l1 l2).get? c=Aa o->(zh5 t1 t2 s.heap l1 l2).get? c=Aa o:=fun e=>u4 (Ap _ e)
 have u2:∀ {c o},(s.heap.push (itO t1 l1)).get? c=Aa o->(zh5 t1 t2 s.heap l1 l2).get? c=Aa o:=fun e=>u3 (Ap _ e)
 have g5:(zh5 t1 t2 s.heap l1 l2).get? (zh4 t1 t2 s.heap l1 l2).objs.size=Aa _:=AD _ rfl;have g4:(zh5 t1 t2 s.heap l1 l2).get? (zh3 t1 t2 s.heap l1 l2).objs.size=Aa _:=u5 (AD _ rfl);have g3:(zh5 t1 t2 s.heap l1 l2).get? (zh2 t1 t2 s.heap l1 l2).objs.size=Aa _:=u4 (AD _ rfl);have g2:(zh5 t1 t2 s.heap l1 l2).get? (s.heap.push (itO t1 l1)).objs.size=Aa _:=u3 (AD _ (Kh _ _));have g1:(zh5 t1 t2 s.heap l1 l2).get? s.heap.objs.size=Aa _:=u2 (AD _ (Kh _ _));show _/\_;rw[s2,s3,s4]at g5;rw[s3]at g4;rw[s1,s2]at g3;rw[s1]at g2;rw[s4];exact⟨⟨_,g5,rfl⟩,q _ ⟨g5,g3,⟨_,_,g4⟩,Kq g1,Kq g2⟩ fun c o e=>u2 (Ap _ e)⟩
end
def nE(K:Fg)(ta:TA):TI:=fun σ H R=>ta σ H fun vs H1=>∃ t1 t2 a b xs ys,vs=[.ref a,.ref b]/\SqX t1 K H1 a xs/\SqX t2 K H1 b ys/\(xs.length<=sizeLine->R (Itz K t1 t2 a b) H1)
theorem B5.lt(z:B5 t h a its):a<h.objs.size:=by
 cases t with
 |true=>obtain⟨o,e,_⟩:=z;exact AC e
 |false=>obtain⟨o,e,_⟩:=z;exact AC e
theorem cX{a b:Ao}(hg:Gl X "zip")(hm:X.mg "zip" = Ae)(ha:PA X [a,b] ta)(hs:Ax [a,b] X.env=[(Ac,eval a X.env),(Ac,eval b X.env)])(hs2:Ax [b] X.env=[(Ac,eval b X.env)]):
  PI X (.Tuple es n tpos) (.Call (.Name "zip" p) [a,b] [] pos) (nE X.K ta):=by
 intro pI s σ H R I h;refine JN (Iq I hg hm UM (B6 (thn (ha pos pI s σ H _ I h) fun us s1 ⟨vs,H1,I1,r1,q1⟩=>?_) (by rw[hs,hs2]) (by rw[hs2];rfl)))
 obtain⟨t1,t2,c,d,xs,ys,e,sx,sy,q⟩:=q1;subst e;cases r1 with
 |cons r rr=>
  cases rr with
  |cons r' rr=>
   cases rr;cases r;cases r';obtain⟨us,ru,iu,zu⟩:=G2 I1 sx;obtain⟨vs,rv,iv,_⟩:=G2 I1 sy;refine Xv iu iv fun h2 z kp=>VR z.1 ?_
   refine⟨s1.heap.objs.size+4,zFp s1.heap.objs.size,_,_,H1,rfl,I1.kept (t':=s1.toks) kp,W2 t1 t2 s1.heap.objs.size c d iu.lt iv.lt,z,fun b hb=>?_,q zu⟩
   have hb':s1.heap.objs.size<=b:=by
    simp only[zFp,Ay,AN,BP]at hb;rcases hb with z|z|z|z|z<;>rw[z]<;>simp
   exact I1.fpOk hb' (I1.hok.fresh hb')
theorem Kz{ds:Ad D}(r:Rep K CL H A v d)(e:Cw d=.ok ds):∃ t a xs,v=.ref a/\(∀ H2,Kp A H H2->SqX t K H2 a xs)/\Reps K CL H A xs ds:=by
 cases d with
 |lst es=>
  cases e;obtain⟨q,xs,rfl,na,sq,r⟩:=r;exact⟨Ac,q,xs,rfl,fun H2 k=>Ms k na sq,r⟩
 |tup es=>
  cases e;obtain⟨q,xs,rfl,na,sq,r⟩:=r;exact⟨Ab,q,xs,rfl,fun H2 k=>Mr k na sq,r⟩
 |_=>cases e
theorem NL:∀(xs ys:Ad D),(FD xs ys).length=min xs.length ys.length
 |[],_=>by simp[FD]
 |_::_,[]=>by simp[FD]
 |x::xs,y::ys=>by
  rw[FD,By,NL xs ys];simp only[By];omega
theorem QI:∀(xs ys:Ad D)(i:Af)(d:D),(FD xs ys)[i]?=Aa d->∃ x y,xs[i]?=Aa x/\ys[i]?=Aa y/\d=.tup [x,y]
 |[],_,i,d,h=>by simp[FD]at h
 |_::_,[],i,d,h=>by simp[FD]at h
 |x::xs,y::ys,0,d,h=>by
  rw[FD]at h;simp only[Ea,Ft]at h;exact⟨x,y,rfl,rfl,h.symm⟩
 |x::xs,y::ys,i+1,d,h=>by
  rw[FD]at h;simp only[D9]at h ⊢;exact QI xs ys i d h
theorem XB{t1 t2:An}{ys:Ad V}{ds es:Ad D}(s1:∀ H2,Kp A H1 H2->SqX t1 K H2 a xs)(s2:∀ H2,Kp A H1 H2->SqX t2 K H2 b ys)(r1:Reps K CL H1 A xs ds)(r2:Reps K CL H1 A ys es) :IA K CL A (FD ds es) (Itz K t1 t2 a b) H1:=fun H k i=>by
 refine⟨fun hi=>⟨xs,ys,s1 H k,s2 H k,?_⟩,fun d hd=>?_⟩
 ·rw[NL]at hi;rw[r1.length,r2.length];omega
 ·obtain⟨x,y,hx,hy,rfl⟩:=QI _ _ _ _ hd;obtain⟨u,hu,ru⟩:=r1.get hx;obtain⟨v,hv,rv⟩:=r2.get hy;refine⟨⟨xs,ys,u,v,s1 H k,s2 H k,hu,hv⟩,?_⟩;rintro w' H' ⟨p,x',y',hp,rfl,c1,c2,rfl⟩;have ex:x'=u:=Bh ((c1 xs (s1 H k)).symm.trans hu);have ey:y'=v:=Bh ((c2 ys (s2 H k)).symm.trans hv);subst ex ey;have sm:=FT hp (.tup [x',y']);exact⟨sm,fun B hB aB=>Kb aB hp ⟨K0 ru k hB,K0 rv k hB,trivial⟩⟩
section
variable{X:Cx}{CL:ClA}{W:XW}{pos p:AI}{a b:Ao}{fa fb:Rho->R D}
theorem dI(ha:SE X CL W a fa)(hb:SE X CL W b fb)(hg:Gl X "zip")(hm:X.mg "zip" = Ae)(hs:Ax [a,b] X.env=[(Ac,eval a X.env),(Ac,eval b X.env)])(hs2:Ax [b] X.env=[(Ac,eval b X.env)]):
  SI X CL W (.Tuple es n tpos) (.Call (.Name "zip" p) [a,b] [] pos) (fun ρ=>(fa ρ).bind fun x=>(fb ρ).bind fun y=>(Cw x).bind fun xs=>(Cw y).bind fun ys=>.ok (FD xs ys)):=
 fun A=>PI.weak (cX hg hm (Eb (ha A) (Eb (hb A) GD hs2) (by rw[hs,hs2])) hs hs2) fun σ H R ⟨hA,ρ,g,q⟩=>⟨hA,ρ,g,EF.ex q fun d v H1 _ s1 r1 p1=>⟨hA.same s1,ρ,g.same s1,EF.ex p1 fun d2 v2 H2 _ s2 r2 p2=>by
  cases e1:Cw d with
  |bad=>rw[e1]at p2;exact p2.elim
  |exn z=>exact absurd e1 (by cases d<;>simp[Cw])
  |ok ds=>
   cases e2:Cw d2 with
   |bad=>rw[e1,e2]at p2;exact p2.elim
   |exn z=>exact absurd e2 (by cases d2<;>simp[Cw])
   |ok es=>
    rw[e1,e2]at p2;obtain⟨t1,c1,xs,rfl,k1,rs1⟩:=Kz (r1.same s2) e1;obtain⟨t2,c2,ys,rfl,k2,rs2⟩:=Kz r2 e2;refine⟨t1,t2,c1,c2,xs,ys,rfl,k1 H2 (Kp.of (AE.refl H2)),k2 H2 (Kp.of (AE.refl H2)),fun hz=>p2 _ H2 (AE.refl H2) (XB k1 k2 rs1 rs2) ?_⟩
    rw[NL,<-rs1.length];omega⟩⟩
end
theorem Em.live{l:Af}(z:Em t h j l i):∃ o,h.get? j=Aa o/\∀ v,o.data≠.cell v:=by
 cases t with
 |true=>obtain⟨o,e,c,d⟩:=z;exact⟨o,e,fun v z=>by rw[d]at z;cases z⟩
 |false=>obtain⟨o,e,c,d⟩:=z;exact⟨o,e,fun v z=>by rw[d]at z;cases z⟩
theorem Em.keep{l:Af}(z:Em t h j l i)(k:∀ o,h.get? j=Aa o->h2.get? j=Aa o):Em t h2 j l i:=by
 cases t with
 |true=>exact PySem.Heap.IsTupleIter.at z k
 |false=>exact PySem.Heap.IsListIter.at z k
theorem eW{A:AV}(calm:A.handled=Ae)(t:An)(j l:Ak)(ne:l≠j)(its:AX Ai):Draws prog w A j [j,l] its.size (fun i v=>its[i]?=Aa v) (fun i h=>Em t h j l i/\B5 t h l its):=
 have d:=HX (prog:=prog) (w:=w) calm t j l ne its
 ⟨fun i h z=>let ⟨o,e,_⟩:=z.1.live;⟨o,e⟩,d.frame,d.item,fun s Q E h q=>d.done _ s Q E (AU _) h q⟩
theorem ZR{A:AV}(calm:A.handled=Ae)(t:An)(j l:Ak)(ne:l≠j)(its:AX Ai)(i:Af)(hi:its.size<=i):Draws prog w A j [j,l] i (fun _ _=>AS) (fun k h=>k=i/\Em t h j l i/\B5 t h l its):=
 have d:=HX (prog:=prog) (w:=w) calm t j l ne its
 ⟨fun _ h z=>let ⟨o,e,_⟩:=z.2.1.live;⟨o,e⟩,fun k h h' z q=>⟨z.1,d.frame i h h' z.2 q⟩,fun k s Q E lt z=>absurd z.1 (A1 lt),fun s Q E h q=>d.done i s Q E hi h.2 q⟩
noncomputable def Ite(K:Fg)(t:An)(a:Ak):It:=
 ⟨fun i H=>∃ xs x,SqX t K H a xs/\xs[i]?=Aa x,fun i H v H'=>∃ p x,H p=Ae/\v=.ref p/\(∀ xs,SqX t K H a xs->xs[i]?=Aa x)/\H'=upd H p (.tup [.int i,x]),fun i H=>∃ xs,SqX t K H a xs/\xs.length<=i⟩
def eTn(t:An)(I l:Af)(i:Af)(h:AB):Prop:=(∃ old,IsEnum h (I+1) I i old)/\Em t h I l i
theorem Wm(t:An)(I l:Af)(b:l<I):Turn P w K (.Tuple es n pos) (Ite K t l) [I,I+1] (I+1) (eTn t I l) where
  mem:=by simp
  obj:=fun i h ⟨⟨old,z1⟩,z2⟩ c hc=>by
    simp only[Ay,AN,BP]at hc;rcases hc with rfl|rfl
    · exact z2.live
    · exact⟨_,z1,fun v z=>by cases z⟩
  keep:=fun i h h2 ⟨⟨old,z1⟩,z2⟩ k=>⟨⟨old,k _ (by simp) _ z1⟩,z2.keep fun o e=>k _ (by simp) o e⟩
  item:=by
    intro X hP hw hK hc i pI s σ H E Iv hf ⟨⟨old,z1⟩,z2⟩ ⟨xs,x,q1,hx⟩;subst hP hw hK;obtain⟨us,rx,px,_⟩:=G2 Iv q1;obtain⟨u,hu,ru⟩:=rx.get hx;have lu:i<us.toArray.size:=by
      have:=(AZ.mp hu).1;simpa using this
    refine wpAny_pyNext_enum_itemD (eW (A:=X.A.in1) (Iv.ok.hd hc) t I l (A1 b) us.toArray) z1 ⟨z2,px⟩ lu (ni0 (by decide)) (by simp only[Ay,AN,BP,DN];exact⟨ni0 (by decide),CZ (AH b (DW _ _))⟩) fun u' h2 tk hu' ho it2 hT sz kp=>⟨_,rfl,wpAny_letOwnedTupleGo_enum ho fun h3 d1 sb=>?_⟩
    have eu:u'=u:=by
      rw[Us,hu]at hu';exact(Bh hu').symm
    subst eu;have lt:I+1<s.heap.objs.size:=AC z1;have kp3:∀ c o,c∉[I,I+1]->s.heap.get? c=Aa o->h3.get? c=Aa o:=fun c o nc q=>by
      simp only[Ay,AN,BP,DN]at nc;exact sb.extBut c o nc.2 (kp c o nc.2 nc.1 q)
    have nT:∀ c∈[I,I+1],c≠s.heap.objs.size:=fun c hc z=>by
      have:c<=I+1:=by
        simp only[Ay,AN,BP]at hc;rcases hc with z|z<;>rw[z]<;>simp
      exact absurd (z ▸ BX this lt) (Bf _)
    have I1:Inv X pI σ (upd H s.heap.objs.size (.tup [.int i,x])) { s with heap:=s.heap.push { cls:=.type "tuple", data:=.seq #[.int i tk,u'] },toks:=s.toks }:=
      Iv.laid (fun _ _ q=>Ap _ q) (AU _) ⟨(by decide:2<=sizeLine),[.int i tk,u'],.cons ⟨_,rfl⟩ (.cons ru .nil),⟨_,AD _ rfl,rfl,_,rfl⟩⟩
    have hf':∀ b∈[I,I+1],GM X pI (upd H s.heap.objs.size (.tup [.int i,x])) b:=fun b hb=>⟨by rw[Bq (nT b hb)];exact(hf b hb).1,(hf b hb).2⟩
    have I2:Inv X pI σ (upd H s.heap.objs.size (.tup [.int i,x])) {s with heap:=h3,toks:=tk+1}:=Inv.turnedL (s:={ s with heap:=s.heap.push { cls:=.type "tuple", data:=.seq #[.int i tk,u'] },toks:=s.toks }) [I,I+1] I1 (fun c o nc q=>by
      rcases Vg q with ⟨e1,e2⟩|e1
      · subst e1 e2;exact sb.extBut _ _ (CZ lt) hT
      · exact kp3 c o nc e1) hf'
    exact⟨.ref s.heap.objs.size,_,I2,rfl,⟨s.heap.objs.size,x,Iv.fresh,rfl,fun zs hz=>by rw[Nk Iv hz q1];exact hx,rfl⟩,⟨⟨u',by simpa using d1⟩,it2.1.keep fun o q=>sb.extBut _ o (Ct (ni0 (by decide))) q⟩,fun b hb=>(hf' b hb).1⟩
  done:=by
    intro X hP hw hK hc i pI s σ H E Iv hf ⟨⟨old,z1⟩,z2⟩ ⟨xs,q1,hk⟩;subst hP hw hK;obtain⟨us,rx,px,_⟩:=G2 Iv q1;have e1:=rx.length;have e2:us.toArray.size<=i:=by rw[AO,<-e1];exact hk
    refine wpAny_pyNext_enum_endD (ZR (A:=X.A.in1) (Iv.ok.hd hc) t I l (A1 b) us.toArray i e2) z1 ⟨rfl,z2,px⟩ fun h2 eb=>⟨rfl,Inv.turnedL [I] Iv (t':=s.toks) (fun c o nc q=>eb c o (fun z=>nc (by simp[z])) q) fun c hc=>hf c ?_⟩
    have:c=I:=by simpa using hc
    subst this;simp
  self:=fun _ _ _ _ _ st h=>VP st.1.choose_spec h
section
variable{prog:AK}{w:AY}{A:AV}{E:Vq}{s:Aq}
theorem X7(t:An)(l:Ak)(xs:AX Ai):Meets (Builtin.«enumerate.__new__» ⟨[.type "enumerate", .ref l],[]⟩) (fun _ R s=>B5 t s.heap l xs /\
   R (.ok (.ret (.ref (s.heap.push (itO t l)).objs.size))) { s with heap:=(s.heap.push (itO t l)).push { cls:=.type "enumerate", data:=.fields #[.none,.bool Ac,.ref s.heap.objs.size,B4 0,.none,.none] } }):=
 .of_wp fun prog w A R s h=>by
  obtain⟨hp,g,d,tk,os⟩:=s;obtain⟨hl,h⟩:=h;have hsub:=sub_enumerate;have hL:B5 t (FK ⟨hp,g,d,tk,os⟩) l xs:=hl
  wp_walk
  refine wpAny_stack_any fun st=>As ?_
  split
  ·rename_i c _ _ _ _ _;cases (c==Fo "enumerate")
   ·wp_walk using Jc hL
    exact⟨_,rfl,h⟩
   ·wp_walk using Jc hL
    exact⟨_,rfl,h⟩
  ·wp_walk using Jc hL
   exact⟨_,rfl,h⟩
theorem WL{xs:AX Ai}{Q:Vq}(hL:B5 t s.heap l xs)(h:∀ h',IsEnum h' (s.heap.objs.size+1) s.heap.objs.size 0 .none->Em t h' s.heap.objs.size l 0->(∀ b o,s.heap.get? b=Aa o->h'.get? b=Aa o)->Q (.ref (s.heap.objs.size+1)) {s with heap:=h'}):
    At (model prog w) A (call (.type "enumerate") [.ref l]) Q E s:=by
  refine IN F.called_enumerate (by decide) (F.typeCall_enumerate_1 _) (F.newCall_enumerate_1 _) (fun obj=>U0 obj _) F.entry_enumerate_new (X7 t l xs) ⟨hL,?_⟩
  have hz:(s.heap.push (itO t l)).objs.size=s.heap.objs.size+1:=Bm ..;show _/\_;rw[hz];have he:IsEnum ((s.heap.push (itO t l)).push { cls:=.type "enumerate", data:=.fields #[.none,.bool Ac,.ref s.heap.objs.size,B4 0,.none,.none] }) (s.heap.objs.size+1) s.heap.objs.size 0 .none:=by
    have:=AD (s.heap.push (itO t l)) (o:={ cls:=.type "enumerate", data:=.fields #[.none,.bool Ac,.ref s.heap.objs.size,B4 0,.none,.none] }) rfl;rw[hz]at this;exact this
  exact⟨⟨_,he,rfl⟩,h _ he (Kq (Ap _ (AD _ (Kh _ _)))) fun b o x=>Ap _ (Ap _ x)⟩
end
def nF(K:Fg)(ta:TA):TI:=fun σ H R=>ta σ H fun vs H1=>∃ t a xs,vs=[.ref a]/\SqX t K H1 a xs/\(xs.length<=sizeLine->R (Ite K t a) H1)
theorem Y3{a:Ao}(hg:Gl X "enumerate")(hm:X.mg "enumerate" = Ae)(ha:PA X [a] ta)(hs:Ax [a] X.env=[(Ac,eval a X.env)]):
  PI X (.Tuple es n tpos) (.Call (.Name "enumerate" p) [a] [] pos) (nF X.K ta):=by
 intro pI s σ H R I h;refine JN (Iq I hg hm PyProof.Rows.boot_enumerate (B6 (thn (ha pos pI s σ H _ I h) fun us s1 ⟨vs,H1,I1,r1,q1⟩=>?_) hs rfl))
 obtain⟨t,c,xs,e,sx,q⟩:=q1;subst e;cases r1 with
 |cons r rr=>
  cases rr;cases r;obtain⟨us,ru,pu,zu⟩:=G2 I1 sx;refine WL pu fun h2 z1 z2 kp=>VP z1 ?_
  refine⟨s1.heap.objs.size+1,[s1.heap.objs.size,s1.heap.objs.size+1],_,_,H1,rfl,I1.kept (t':=s1.toks) kp,Wm t s1.heap.objs.size c pu.lt,⟨⟨_,z1⟩,z2⟩,fun b hb=>?_,q zu⟩
  have hb':s1.heap.objs.size<=b:=by
   simp only[Ay,AN,BP]at hb;rcases hb with z|z<;>rw[z]<;>simp
  exact I1.fpOk hb' (I1.hok.fresh hb')
theorem NU:∀(j:Ag)(xs:Ad D),(FY j xs).length=xs.length
 |_,[]=>rfl
 |j,x::xs=>by rw[FY,By,NU,By]
theorem QD:∀(xs:Ad D)(j:Ag)(i:Af)(d:D),(FY j xs)[i]?=Aa d->∃ x,xs[i]?=Aa x/\d=.tup [.int (j+i),x]
 |[],j,i,d,h=>by simp[FY]at h
 |x::xs,j,0,d,h=>by
  rw[FY]at h;simp only[Ea,Ft]at h;exact⟨x,rfl,by rw[<-h];simp⟩
 |x::xs,j,i+1,d,h=>by
  rw[FY]at h;simp only[D9]at h ⊢;obtain⟨y,h1,h2⟩:=QD xs (j+1) i d h;exact⟨y,h1,by rw[h2];congr 3;omega⟩
theorem Wh{ds:Ad D}(sq:∀ H2,Kp A H1 H2->SqX t K H2 a xs)(r1:Reps K CL H1 A xs ds):IA K CL A (FY 0 ds) (Ite K t a) H1:=fun H k i=>by
 have s1:=sq H k;refine⟨fun hi=>⟨xs,s1,?_⟩,fun d hd=>?_⟩
 ·rw[NU]at hi;rw[r1.length];exact hi
 ·obtain⟨x,hx,rfl⟩:=QD _ _ _ _ hd;obtain⟨u,hu,ru⟩:=r1.get hx;refine⟨⟨xs,u,s1,hu⟩,?_⟩;rintro w' H' ⟨p,x',hp,rfl,c1,rfl⟩;have ex:x'=u:=Bh ((c1 xs s1).symm.trans hu);subst ex;rw[Ui];exact⟨FT hp (.tup [.int i,x']),fun B hB aB=>Kb aB hp ⟨rfl,K0 ru k hB,trivial⟩⟩
section
variable{X:Cx}{CL:ClA}{W:XW}{pos p:AI}{a:Ao}{fa:Rho->R D}
theorem Zp(ha:SE X CL W a fa)(hg:Gl X "enumerate")(hm:X.mg "enumerate" = Ae)(hs:Ax [a] X.env=[(Ac,eval a X.env)]):
  SI X CL W (.Tuple es n tpos) (.Call (.Name "enumerate" p) [a] [] pos) (fun ρ=>(fa ρ).bind fun x=>(Cw x).bind fun xs=>.ok (FY 0 xs)):=
 fun A=>PI.weak (Y3 hg hm (Eb (ha A) GD hs) hs) fun σ H R ⟨hA,ρ,g,q⟩=>⟨hA,ρ,g,EF.ex q fun d v H1 _ s1 r1 p1=>by
  cases e1:Cw d with
  |bad=>rw[e1]at p1;exact p1.elim
  |exn z=>exact absurd e1 (by cases d<;>simp[Cw])
  |ok ds=>
   rw[e1]at p1;obtain⟨t,c,xs,rfl,k1,rs⟩:=Kz r1 e1;exact⟨t,c,xs,rfl,k1 H1 (Kp.of (AE.refl H1)),fun hz=>p1 _ H1 (AE.refl H1) (Wh k1 rs) (by rw[NU,<-rs.length];exact hz)⟩⟩
end
noncomputable abbrev El(h:AB)(z TI TO:Ak)(f0 f1:Ai):Prop:=h.get? z=Aa { cls:=.type "zip", dict:=Ae,data:=.fields #[f0,f1,.bool Ac,.ref TI,.ref TO],slots:=#[] }
noncomputable abbrev Ee(h:AB)(T:Ak)(a b c:Ai):Prop:=h.get? T=Aa { cls:=.type "tuple", data:=.seq #[a,b,c] }
section
variable{prog:AK}{w:AY}{A:AV}{E:Vq}{s:Aq}
theorem nb3{I l c:Af}(b:l<I)(h:c∈[I+j,l])(i:Af)(hi:i≠j):c≠I+i:=by
 have h':c=I+j\/c=l:=by simpa using h
 omega
theorem QG{z TI TO T1:Af}{Q:An->Aq->Prop}(hz:El s.heap z TI TO (B4 T1) (.bool f1))(hT:s.heap.get? T1=Aa o1)(go:∀ h1,El h1 z TI TO (B4 T1) (.bool Ab)->(∀ c o,c≠z->s.heap.get? c=Aa o->h1.get? c=Aa o)->h1.objs.size=s.heap.objs.size->Q Ac {s with heap:=h1}):At (model prog w) A (AT (.ref z)) Q E s:=by
 simp only[AT];refine Ah (A2 hz rfl (x:=B4 T1) rfl ?_);show At _ _ (loadIfAlive T1 >>= _) _ _ _;refine Ah (fun Γ p _=>?_)
 show At _ _ _ _ _ _;rw[hT];show At _ _ (field (.ref z) 1 >>= _) _ _ _;refine Ah (A2 hz rfl (x:=.bool f1) rfl ?_);cases f1 with
 |true=>exact As (go s.heap hz (fun _ _ _ e=>e) rfl)
 |false=>exact Ah (BH hz (by simp) fun h1 z1 sb=>As (go h1 z1 (fun c o nc e=>sb.extBut c o nc e) sb.1))
theorem QH{z TI TO:Af}{f1:Ai}{Q:An->Aq->Prop}(hz:El s.heap z TI TO f0 f1)(hf:f0=.none\/∃ T1:Af,f0=B4 T1/\s.heap.get? T1=Ae)(go:Q Ab s):At (model prog w) A (AT (.ref z)) Q E s:=by
 simp only[AT];rcases hf with rfl|⟨T1,rfl,hT⟩
 ·exact Ah (A2 hz rfl (x:=.none) rfl (As go))
 ·refine Ah (A2 hz rfl (x:=B4 T1) rfl ?_);show At _ _ (loadIfAlive T1 >>= _) _ _ _;refine Ah (fun Γ p _=>?_)
  show At _ _ _ _ _ _;rw[hT];exact As go
theorem Wf{I l1 l2 l3 n1 n2 n3 k T1:Af}{P3:Af->Ai->Prop}{S3:Af->AB->Prop}{Q:Vq}(b1:l1<I)(b2:l2<I)(b3:l3<I)(D1:Dw prog w A (I+0) [I+0,l1] n1 P1 S1)(D2:Dw prog w A (I+1) [I+1,l2] n2 P2 S2)(D3:Dw prog w A (I+2) [I+2,l3] n3 P3 S3)(hz:El s.heap (I+5) (I+3) (I+4) (B4 T1) (.bool f1))(hI:Ee s.heap (I+3) (.ref (I+0)) (.ref (I+1)) (.ref (I+2)))(hT:s.heap.get? T1=Aa o1)(g1:S1 k s.heap)(g2:S2 k s.heap)(g3:S3 k s.heap)(k1:k<n1)(k2:k<n2)(k3:k<n3)(go:∀ x y u h2 tk,P1 k x->P2 k y->P3 k u->El h2 (I+5) (I+3) (I+4) (B4 T1) (.bool Ab)->S1 (k+1) h2->S2 (k+1) h2->S3 (k+1) h2->Ee h2 s.heap.objs.size x y u->h2.objs.size=s.heap.objs.size+1 ->
   (∀ c o,c∉[I+0,I+1,I+2,I+5]->s.heap.get? c=Aa o->h2.get? c=Aa o)->Q (.ref s.heap.objs.size) {s with heap:=h2,toks:=tk}):At (model prog w) A (Builtin.«zip.__next__» ⟨[.ref (I+5)],[]⟩) (fun fin s'=>∃ v,fin=.done (.ret v)/\Q v s') E s:=by
 refine Ah (m:=field (.ref (I+5)) 2) (A2 hz rfl (x:=.bool Ac) rfl ?_);refine Ah (m:=field (.ref (I+5)) 3) (A2 hz rfl (x:=.ref (I+3)) rfl (Ah (BA hI rfl ?_)));refine Ah (m:=AT (.ref (I+5))) (QG hz hT fun p1 z1 e1 s1=>?_)
 rw[AM (by decide)]
 refine Ah ?_;simp only[<-T9,DC,Du];have f1':S1 k p1:=D1.frame _ _ _ g1 fun c hc o q=>e1 c o (nb3 b1 hc 5 (by decide)) q
 refine Ah (Ah (Bv (Ah (m:=AR (.ref (I+0))) (D1.item k _ _ _ k1 f1' fun x p2 t2 px s2 e2=>As (As ?_)))))
 have f2':S2 k p2:=D2.frame _ _ _ g2 fun c hc o q=>e2.extBut c o (nb3 b2 hc 0 (by decide)) (e1 c o (nb3 b2 hc 5 (by decide)) q)
 refine Ah (Ah (Bv (Ah (m:=AR (.ref (I+1))) (D2.item k _ _ _ k2 f2' fun y p3 t3 py s3 e3=>As (As ?_)))))
 have f3':S3 k p3:=D3.frame _ _ _ g3 fun c hc o q=>e3.extBut c o (nb3 b3 hc 1 (by decide)) (e2.extBut c o (nb3 b3 hc 0 (by decide)) (e1 c o (nb3 b3 hc 5 (by decide)) q))
 refine Ah (Ah (Bv (Ah (m:=AR (.ref (I+2))) (D3.item k _ _ _ k3 f3' fun u p4 t4 pu s4 e4=>As (As (As ?_))))))
 refine Ah (Ih (hsz:=by show 3<=sizeLine;decide) (As ⟨_,rfl,?_⟩))
 have sz:p4.objs.size=s.heap.objs.size:=by rw[e4.1,e3.1,e2.1,s1]
 have z4:El p4 (I+5) (I+3) (I+4) (B4 T1) (.bool Ab):=e4.extBut _ _ (nij (by decide)) (e3.extBut _ _ (nij (by decide)) (e2.extBut _ _ (nij (by decide)) z1))
 have a1:S1 (k+1) p4:=D1.frame _ _ _ s2 fun c hc o q=>e4.extBut c o (nb3 b1 hc 2 (by decide)) (e3.extBut c o (nb3 b1 hc 1 (by decide)) q)
 have a2:S2 (k+1) p4:=D2.frame _ _ _ s3 fun c hc o q=>e4.extBut c o (nb3 b2 hc 2 (by decide)) q
 have psh:∀ {c o},p4.get? c=Aa o->(p4.push { cls:=.type "tuple", data:=.seq #[x,y,u] }).get? c=Aa o:=fun q=>Ap _ q
 have q:=go x y u (p4.push { cls:=.type "tuple", data:=.seq #[x,y,u] }) t4 px py pu (psh z4) (D1.frame _ _ _ a1 fun c _ o q=>psh q) (D2.frame _ _ _ a2 fun c _ o q=>psh q) (D3.frame _ _ _ s4 fun c _ o q=>psh q) (by rw[<-sz];exact AD _ rfl) (by rw[Bm,sz]) (fun c o nc q=>by
  simp only[Ay,AN,BP,DN]at nc;exact psh (e4.extBut c o nc.2.2.1 (e3.extBut c o nc.2.1 (e2.extBut c o nc.1 (e1 c o nc.2.2.2 q)))))
 rw[<-sz]at q;exact q
theorem WC{I l1 n1 k T1:Af}{Q:Fin->Aq->Prop}(b1:l1<I)(D1:Dw prog w A (I+0) [I+0,l1] n1 P1 S1)(hz:El s.heap (I+5) (I+3) (I+4) (B4 T1) (.bool f1))(hI:Ee s.heap (I+3) (.ref (I+0)) (.ref (I+1)) (.ref (I+2)))(hT:s.heap.get? T1=Aa o1)(g1:S1 k s.heap)(k1:n1<=k)(up:∀ h2 e,(∀ c o,c∉[I+0,I+5]->s.heap.get? c=Aa o->h2.get? c=Aa o)->(∃ o,h2.get? e=Aa o/\o.cls=.type "StopIteration")->E (.ref e) {s with heap:=h2}):At (model prog w) A (Builtin.«zip.__next__» ⟨[.ref (I+5)],[]⟩) Q E s:=by
 refine Ah (m:=field (.ref (I+5)) 2) (A2 hz rfl (x:=.bool Ac) rfl ?_);refine Ah (m:=field (.ref (I+5)) 3) (A2 hz rfl (x:=.ref (I+3)) rfl (Ah (BA hI rfl ?_)));refine Ah (m:=AT (.ref (I+5))) (QG hz hT fun p1 z1 e1 s1=>?_)
 rw[AM (by decide)]
 refine Ah ?_;simp only[<-T9,DC,Du];have f1':S1 k p1:=D1.frame _ _ _ g1 fun c hc o q=>e1 c o (nb3 b1 hc 5 (by decide)) q
 refine Ah (Ah (Bv (Ah (m:=AR (.ref (I+0))) (D1.done k _ _ _ k1 f1' fun p2 e e2 he=>up p2 e (fun c o nc q=>?_) he))))
 simp only[Ay,AN,BP,DN]at nc;exact e2 c o nc.1 (e1 c o nc.2 q)
theorem Xy{I l1 n1 k:Af}{f1:Ai}{Q:Fin->Aq->Prop}(b1:l1<I)(D1:Dw prog w A (I+0) [I+0,l1] n1 P1 S1)(hz:El s.heap (I+5) (I+3) (I+4) f0 f1)(hf:f0=.none\/∃ T1:Af,f0=B4 T1/\s.heap.get? T1=Ae)(hI:Ee s.heap (I+3) (.ref (I+0)) (.ref (I+1)) (.ref (I+2)))(g1:S1 k s.heap)(k1:n1<=k)(up:∀ h2 e,(∀ c o,c∉[I+0,I+5]->s.heap.get? c=Aa o->h2.get? c=Aa o)->(∃ o,h2.get? e=Aa o/\o.cls=.type "StopIteration")->E (.ref e) {s with heap:=h2}):At (model prog w) A (Builtin.«zip.__next__» ⟨[.ref (I+5)],[]⟩) Q E s:=by
 refine Ah (m:=field (.ref (I+5)) 2) (A2 hz rfl (x:=.bool Ac) rfl ?_);refine Ah (m:=field (.ref (I+5)) 3) (A2 hz rfl (x:=.ref (I+3)) rfl (Ah (BA hI rfl ?_)));refine Ah (m:=AT (.ref (I+5))) (QH hz hf ?_);rw[AF rfl];refine Ah (Gm (Ah (A2 hz rfl (x:=.ref (I+4)) rfl (Ah (BH hz (by simp) fun p1 z1 e1=>Ah ?_)))))
 have z1':El p1 (I+5) (I+3) (I+4) .ellipsis f1:=z1;simp only[FS,Gd,DC,Du];have g1':S1 k p1:=D1.frame _ _ _ g1 fun c hc o q=>e1.extBut c o (nb3 b1 hc 5 (by decide)) q
 refine Ah (Ah (Dp (Ah (m:=AR (.ref (I+0))) (D1.done _ _ _ _ k1 g1' fun p2 e e2 he=>?_))))
 obtain⟨oe,hoe,hce⟩:=he;have z2:El p2 (I+5) (I+3) (I+4) .ellipsis f1:=e2 _ _ (nij (by decide)) z1'
 have ne:e≠I+5:=fun x=>by subst x;rw[z2]at hoe;cases hoe;simp at hce
 refine BH z2 (by simp) fun p3 _ e3=>up p3 e (fun c o nc q=>?_) ⟨oe,e3.extBut _ _ ne hoe,hce⟩
 simp only[Ay,AN,BP,DN]at nc;exact e3.extBut c o nc.2 (e2 c o nc.1 (e1.extBut c o nc.2 q))
theorem Oe{T:Ak}{a b c x:Ai}{Q:Fw->Aq->Prop}(h:Ee s.heap T a b c)(go:∀ h2,h2.get? T=Aa { cls:=.type "tuple", data:=.seq ((#[a,b,c]:AX Ai).setIfInBounds k x) }->DZ T s.heap h2->Q () {s with heap:=h2}):At (model prog w) A (IU T (·.setIfInBounds k x)) Q E s:=by
 refine Gn h rfl (go _ ?_ (Gz ..)) (by show 3<=sizeLine;decide) (by show ((#[a,b,c]:AX Ai).setIfInBounds k x).size<=sizeLine+1;rw[Array.size_setIfInBounds];show 3<=sizeLine+1;decide)
 rw[Bw _ h rfl];simp[CJ]
theorem V8{I l1 l2 l3 n1 n2 n3 k:Af}{P3:Af->Ai->Prop}{S3:Af->AB->Prop}{a b c f1:Ai}{Q:Vq}(b1:l1<I)(b2:l2<I)(b3:l3<I)(D1:Dw prog w A (I+0) [I+0,l1] n1 P1 S1)(D2:Dw prog w A (I+1) [I+1,l2] n2 P2 S2)(D3:Dw prog w A (I+2) [I+2,l3] n3 P3 S3)(hz:El s.heap (I+5) (I+3) (I+4) f0 f1)(hf:f0=.none\/∃ T1:Af,f0=B4 T1/\s.heap.get? T1=Ae)(hI:Ee s.heap (I+3) (.ref (I+0)) (.ref (I+1)) (.ref (I+2)))(hO:Ee s.heap (I+4) a b c)(g1:S1 k s.heap)(g2:S2 k s.heap)(g3:S3 k s.heap)(k1:k<n1)(k2:k<n2)(k3:k<n3)(go:∀ x y u h2 tk,P1 k x->P2 k y->P3 k u->El h2 (I+5) (I+3) (I+4) (B4 s.heap.objs.size) (.bool Ac)->S1 (k+1) h2->S2 (k+1) h2->S3 (k+1) h2->Ee h2 s.heap.objs.size x y u->Ee h2 (I+4) x y u->h2.objs.size=s.heap.objs.size+1 ->
   (∀ c o,c∉[I+0,I+1,I+2,I+4,I+5]->s.heap.get? c=Aa o->h2.get? c=Aa o)->Q (.ref s.heap.objs.size) {s with heap:=h2,toks:=tk}):At (model prog w) A (Builtin.«zip.__next__» ⟨[.ref (I+5)],[]⟩) (fun fin s'=>∃ v,fin=.done (.ret v)/\Q v s') E s:=by
 refine Ah (m:=field (.ref (I+5)) 2) (A2 hz rfl (x:=.bool Ac) rfl ?_);refine Ah (m:=field (.ref (I+5)) 3) (A2 hz rfl (x:=.ref (I+3)) rfl (Ah (BA hI rfl ?_)));refine Ah (m:=AT (.ref (I+5))) (QH hz hf ?_);rw[AF rfl];refine Ah (Gm (Ah (A2 hz rfl (x:=.ref (I+4)) rfl (Ah (BH hz (by simp) fun p1 z1 e1=>Ah ?_)))))
 have z1':El p1 (I+5) (I+3) (I+4) .ellipsis f1:=z1;simp only[FS,Gd,DC,Du];have f1':S1 k p1:=D1.frame _ _ _ g1 fun c hc o q=>e1.extBut c o (nb3 b1 hc 5 (by decide)) q
 refine Ah (Ah (Dp (Ah (m:=AR (.ref (I+0))) (D1.item k _ _ _ k1 f1' fun x p2 t2 px s2 e2=>As ?_))))
 have o2:Ee p2 (I+4) a b c:=e2.extBut _ _ (nij (by decide)) (e1.extBut _ _ (nij (by decide)) hO)
 refine Ah (BA o2 rfl (Ah (Oe o2 fun p3 o3 e3=>Ah (FN (As ?_)))))
 have o3':Ee p3 (I+4) x b c:=o3;have f2':S2 k p3:=D2.frame _ _ _ g2 fun c hc o q=>e3.extBut c o (nb3 b2 hc 4 (by decide)) (e2.extBut c o (nb3 b2 hc 0 (by decide)) (e1.extBut c o (nb3 b2 hc 5 (by decide)) q))
 refine Ah (Ah (Dp (Ah (m:=AR (.ref (I+1))) (D2.item k _ _ _ k2 f2' fun y p4 t4 py s4 e4=>As ?_))))
 have o4:Ee p4 (I+4) x b c:=e4.extBut _ _ (nij (by decide)) o3'
 refine Ah (BA o4 rfl (Ah (Oe o4 fun p5 o5 e5=>Ah (FN (As ?_)))))
 have o5':Ee p5 (I+4) x y c:=o5;have f3':S3 k p5:=D3.frame _ _ _ g3 fun c hc o q=>e5.extBut c o (nb3 b3 hc 4 (by decide)) (e4.extBut c o (nb3 b3 hc 1 (by decide)) (e3.extBut c o (nb3 b3 hc 4 (by decide)) (e2.extBut c o (nb3 b3 hc 0 (by decide)) (e1.extBut c o (nb3 b3 hc 5 (by decide)) q))))
 refine Ah (Ah (Dp (Ah (m:=AR (.ref (I+2))) (D3.item k _ _ _ k3 f3' fun u p6 t6 pu s6 e6=>As ?_))))
 have o6:Ee p6 (I+4) x y c:=e6.extBut _ _ (nij (by decide)) o5'
 refine Ah (BA o6 rfl (Ah (Oe o6 fun p7 o7 e7=>Ah (FN (As (As ?_))))))
 have o7':Ee p7 (I+4) x y u:=o7;have sz:p7.objs.size=s.heap.objs.size:=by rw[e7.1,e6.1,e5.1,e4.1,e3.1,e2.1,e1.1]
 have z7:El p7 (I+5) (I+3) (I+4) .ellipsis f1:=e7.extBut _ _ (nij (by decide)) (e6.extBut _ _ (nij (by decide)) (e5.extBut _ _ (nij (by decide)) (e4.extBut _ _ (nij (by decide)) (e3.extBut _ _ (nij (by decide)) (e2.extBut _ _ (nij (by decide)) z1')))))
 refine Ah (BA o7' rfl (Ah (Ih (hsz:=by show 3<=sizeLine;decide) ?_)))
 refine Ah (m:=CK (.ref (I+5)) (.ref p7.objs.size)) ?_;simp only[CK];have z8:El (p7.push { cls:=.type "tuple", data:=.seq #[x,y,u] }) (I+5) (I+3) (I+4) .ellipsis f1:=Ap _ z7;refine Ah (BH z8 (by simp) fun p9 z9 e9=>?_)
 have z9':El p9 (I+5) (I+3) (I+4) (B4 p7.objs.size) f1:=z9;refine BH z9' (by simp) fun pa za ea=>As ⟨_,rfl,?_⟩
 have za':El pa (I+5) (I+3) (I+4) (B4 p7.objs.size) (.bool Ac):=za;have lt5:I+5<p7.objs.size:=AC z7;have up:∀ c o,c≠I+5->p7.get? c=Aa o->pa.get? c=Aa o:=fun c o nc q=>ea.extBut _ _ nc (e9.extBut _ _ nc (Ap _ q))
 have a1:S1 (k+1) pa:=D1.frame _ _ _ s2 fun c hc o q=>up c o (nb3 b1 hc 5 (by decide)) (e7.extBut c o (nb3 b1 hc 4 (by decide)) (e6.extBut c o (nb3 b1 hc 2 (by decide)) (e5.extBut c o (nb3 b1 hc 4 (by decide)) (e4.extBut c o (nb3 b1 hc 1 (by decide)) (e3.extBut c o (nb3 b1 hc 4 (by decide)) q)))))
 have a2:S2 (k+1) pa:=D2.frame _ _ _ s4 fun c hc o q=>up c o (nb3 b2 hc 5 (by decide)) (e7.extBut c o (nb3 b2 hc 4 (by decide)) (e6.extBut c o (nb3 b2 hc 2 (by decide)) (e5.extBut c o (nb3 b2 hc 4 (by decide)) q)))
 have a3:S3 (k+1) pa:=D3.frame _ _ _ s6 fun c hc o q=>up c o (nb3 b3 hc 5 (by decide)) (e7.extBut c o (nb3 b3 hc 4 (by decide)) q)
 have tp:Ee pa p7.objs.size x y u:=ea.extBut _ _ (CZ lt5) (e9.extBut _ _ (CZ lt5) (AD _ rfl));have q:=go x y u pa t6 px py pu (by rw[<-sz];exact za') a1 a2 a3 (by rw[<-sz];exact tp) (up _ _ (nij (by decide)) o7') (by rw[ea.1,e9.1,Bm,sz]) (fun c o nc q=>by
  simp only[Ay,AN,BP,DN]at nc;exact up c o nc.2.2.2.2 (e7.extBut c o nc.2.2.2.1 (e6.extBut c o nc.2.2.1 (e5.extBut c o nc.2.2.2.1 (e4.extBut c o nc.2.1 (e3.extBut c o nc.2.2.2.1 (e2.extBut c o nc.1 (e1.extBut c o nc.2.2.2.2 q))))))))
 rw[<-sz]at q;exact q
def Z3(t1 t2 t3:An)(I l1 l2 l3 i:Af)(h:AB):Prop:=Ee h (I+3) (.ref (I+0)) (.ref (I+1)) (.ref (I+2))/\Em t1 h (I+0) l1 i/\Em t2 h (I+1) l2 i/\Em t3 h (I+2) l3 i/\(∃ a b c,Ee h (I+4) a b c) /\
 (El h (I+5) (I+3) (I+4) .none (.bool Ac)\/∃(T1:Af)(f1:An),El h (I+5) (I+3) (I+4) (B4 T1) (.bool f1))
noncomputable def z3w(I:Af):Ad Ak:=[I+0,I+1,I+2,I+4,I+5]
theorem Yp{t1 t2 t3:An}{I l1 l2 l3 i:Af}{xs:AX Ai}{x:Ai}{Q:Am Ai->Aq->Prop}(calm:A.handled=Ae)(b1:l1<I)(b2:l2<I)(b3:l3<I)(z:Z3 t1 t2 t3 I l1 l2 l3 i s.heap)(q1:B5 t1 s.heap l1 xs)(q2:B5 t2 s.heap l2 ys)(q3:B5 t3 s.heap l3 us)(hx:xs[i]?=Aa x)(hy:ys[i]?=Aa y)(hu:us[i]?=Aa u)(go:∀ h2 tk,Z3 t1 t2 t3 I l1 l2 l3 (i+1) h2->Ee h2 s.heap.objs.size x y u->h2.objs.size=s.heap.objs.size+1->(∀ c o,c∉z3w I->s.heap.get? c=Aa o->h2.get? c=Aa o)->Q (Aa (.ref s.heap.objs.size)) {s with heap:=h2,toks:=tk}):At (model prog w) A (DM (.ref (I+5))) Q E s:=by
 obtain⟨zI,i1,i2,i3,zz⟩:=z;have calm':A.in1.handled=Ae:=calm;have lt:∀{v:AX Ai}{k:Af}{a:Ai},v[k]?=Aa a->k<v.size:=fun h=>by
  rw[Array.getElem?_eq_some_iff]at h;exact h.1
 have inj:∀{v:AX Ai}{k:Af}{a b:Ai},v[k]?=Aa a->v[k]?=Aa b->b=a:=fun h1 h2=>by
  rw[h1]at h2;exact(Bh h2).symm
 have d1:=HX (prog:=prog) (w:=w) calm' t1 (I+0) l1 (A1 b1) xs;have d2:=HX (prog:=prog) (w:=w) calm' t2 (I+1) l2 (A1 (AH b2 (DW _ _))) ys;have d3:=HX (prog:=prog) (w:=w) calm' t3 (I+2) l3 (A1 (AH b3 (DW _ _))) us;obtain⟨⟨a,b,c,hO⟩,zz⟩:=zz;have fst:∀{f0 f1:Ai},El s.heap (I+5) (I+3) (I+4) f0 f1->(f0=.none\/∃ T1:Af,f0=B4 T1/\s.heap.get? T1=Ae)->At (model prog w) A (DM (.ref (I+5))) Q E s:=fun hz hf=>by
  have hty:s.TypeIs (.ref (I+5)) "zip" := ⟨_,hz,rfl⟩;simp only[DM];refine Ah (ER (BQ hty Cc (Cv Cc hty DY (V8 (k:=i) b1 b2 b3 d1 d2 d3 hz hf zI hO ⟨i1,q1⟩ ⟨i2,q2⟩ ⟨i3,q3⟩ (lt hx) (lt hy) (lt hu) fun x' y' u' h2 tk px py pu c1 c2 c3 c4 c5 c6 c7 kp=>As ?_) (DL _))))
  rw[inj hx px,inj hy py,inj hu pu]at c5;exact go h2 tk ⟨kp _ _ (by simp) zI,c2.1,c3.1,c4.1,⟨_,_,_,c6⟩,.inr ⟨_,_,c1⟩⟩ c5 c7 kp
 rcases zz with hz|⟨T1,f1,hz⟩
 ·exact fst hz (.inl rfl)
 ·cases hT:s.heap.get? T1 with
  |none=>exact fst hz (.inr ⟨T1,rfl,hT⟩)
  |some o1=>
   have hty:s.TypeIs (.ref (I+5)) "zip" := ⟨_,hz,rfl⟩;simp only[DM];refine Ah (ER (BQ hty Cc (Cv Cc hty DY (Wf (k:=i) b1 b2 b3 d1 d2 d3 hz zI hT ⟨i1,q1⟩ ⟨i2,q2⟩ ⟨i3,q3⟩ (lt hx) (lt hy) (lt hu) fun x' y' u' h2 tk px py pu c1 c2 c3 c4 c5 c6 kp=>As ?_) (DL _))))
   rw[inj hx px,inj hy py,inj hu pu]at c5;exact go h2 tk ⟨kp _ _ (by simp) zI,c2.1,c3.1,c4.1,⟨a,b,c,kp _ _ (by simp) hO⟩,.inr ⟨T1,Ab,c1⟩⟩ c5 c6 (fun c o nc q=>kp c o (fun h=>nc (by simp only[z3w,Ay,AN,BP]at h ⊢;rcases h with h|h|h|h<;>simp[h])) q)
theorem bC{t1 t2 t3:An}{I l1 l2 l3 i:Af}{xs:AX Ai}{Q:Am Ai->Aq->Prop}(calm:A.handled=Ae)(b1:l1<I)(z:Z3 t1 t2 t3 I l1 l2 l3 i s.heap)(q1:B5 t1 s.heap l1 xs)(hx:xs.size<=i)(go:∀ h2,(∀ c o,c∉z3w I->s.heap.get? c=Aa o->h2.get? c=Aa o)->Q Ae {s with heap:=h2}):At (model prog w) A (DM (.ref (I+5))) Q E s:=by
 obtain⟨zI,i1,i2,i3,zz⟩:=z;have calm':A.in1.handled=Ae:=calm;have d1:=HX (prog:=prog) (w:=w) calm' t1 (I+0) l1 (A1 b1) xs;have go':∀ h2 e,(∀ c o,c∉[I+0,I+5]->s.heap.get? c=Aa o->h2.get? c=Aa o)->(∃ o,h2.get? e=Aa o/\o.cls=.type "StopIteration")->At (model prog w) A (Hc (.ref e) (.type "StopIteration") >>= fun b=>if b=Ab then pure Ae else throw (.ref e)) Q E {s with heap:=h2}:=fun h2 e kp ⟨o,ho,hcl⟩=>
  Ah (VO (T := "StopIteration") (b:=Ab) ⟨o,ho,hcl⟩ VF (As (go h2 fun c o nc q=>kp c o (fun h=>nc (by simp only[z3w,Ay,AN,BP]at h ⊢;rcases h with h|h<;>simp[h])) q)))
 have fin:∀{f0 f1:Ai},El s.heap (I+5) (I+3) (I+4) f0 f1->(f0=.none\/∃ T1:Af,f0=B4 T1/\s.heap.get? T1=Ae)->At (model prog w) A (DM (.ref (I+5))) Q E s:=fun hz hf=>by
  have hty:s.TypeIs (.ref (I+5)) "zip" := ⟨_,hz,rfl⟩;simp only[DM];exact Ah (ER (BQ hty Cc (Cv Cc hty DY (Xy (k:=i) b1 d1 hz hf zI ⟨i1,q1⟩ hx fun h2 e kp he=>go' h2 e kp he) (DL _))))
 obtain⟨_,zz⟩:=zz;rcases zz with hz|⟨T1,f1,hz⟩
 ·exact fin hz (.inl rfl)
 ·cases hT:s.heap.get? T1 with
  |none=>exact fin hz (.inr ⟨T1,rfl,hT⟩)
  |some o1=>
   have hty:s.TypeIs (.ref (I+5)) "zip" := ⟨_,hz,rfl⟩;simp only[DM];exact Ah (ER (BQ hty Cc (Cv Cc hty DY (WC (k:=i) b1 d1 hz zI hT ⟨i1,q1⟩ hx fun h2 e kp he=>go' h2 e kp he) (DL _))))
end
section
variable{prog:AK}{w:AY}{A:AV}{R:IJ->Aq->Prop}
def Kv(I S:Af)(xs ys us:AX Ai)(i:Af)(acc:AX Ai)(h:AB):Prop:=acc.size=i/\(∀ j,j<i->∃(a:Af)(x y u:Ai),acc[j]?=Aa (.ref a)/\xs[j]?=Aa x/\ys[j]?=Aa y/\us[j]?=Aa u/\Ee h a x y u/\I+5<a/\a≠S)/\∀(j1 j2 a:Af),acc[j1]?=Aa (Bo a)->acc[j2]?=Aa (Bo a)->j1=j2
theorem B5.at'(z:B5 t h l its)(k:∀ o,h.get? l=Aa o->h2.get? l=Aa o):B5 t h2 l its:=by
 cases t with
 |true=>exact PySem.Heap.IsTuple.at z k
 |false=>exact PySem.Heap.IsList.at z k
theorem MH{I a:Af}(h:I+5<a):a∉z3w I:=by
 intro z;simp only[z3w,Ay,AN,BP]at z;rcases z with z|z|z|z|z<;>· rw[z]at h;exact absurd h (Fm.mpr (Gy (by decide) I))
theorem Mw{I l:Af}(h:l<I):l∉z3w I:=by
 intro z;simp only[z3w,Ay,AN,BP]at z;rcases z with z|z|z|z|z<;>· rw[z]at h;exact absurd h (Fm.mpr (DW I _))
theorem Z3.at'{t1 t2 t3:An}{I l1 l2 l3 i:Af}{h h2:AB}(z:Z3 t1 t2 t3 I l1 l2 l3 i h)(k:∀ j,j<=5->∀ o,h.get? (I+j)=Aa o->h2.get? (I+j)=Aa o):Z3 t1 t2 t3 I l1 l2 l3 i h2:=by
 obtain⟨zI,i1,i2,i3,⟨a,b,c,hO⟩,zz⟩:=z;exact⟨k 3 (by decide) _ zI,i1.at' fun o q=>k 0 (by decide) o q,i2.at' fun o q=>k 1 (by decide) o q,i3.at' fun o q=>k 2 (by decide) o q,⟨a,b,c,k 4 (by decide) _ hO⟩,zz.imp (k 5 (by decide) _) fun ⟨T1,f1,hz⟩=>⟨T1,f1,k 5 (by decide) _ hz⟩⟩
theorem Yr{t1 t2 t3:An}{I l1 l2 l3 n:Af}{xs:AX Ai}{res:Ai}(calm:A.handled=Ae)(b1:l1<I)(b2:l2<I)(b3:l3<I)(S:Af)(hS:I+5<S)(n0:0<n)(nn:n<=1000)(e1:xs.size=n)(e2:ys.size=n)(e3:us.size=n):
  ∀(k i:Af)(s:Aq)(acc:AX Ai)(c:Af),n-i=k->i<=n->Z3 t1 t2 t3 I l1 l2 l3 i s.heap->B5 t1 s.heap l1 xs->B5 t2 s.heap l2 ys->B5 t3 s.heap l3 us ->
  s.heap.get? S=Aa { cls:=.type "list", dict:=Ae,data:=.seq acc c,slots:=#[] }->Kv I S xs ys us i acc s.heap ->
  (∀ h2 acc2 c2 tk,(∀ d o,d∉z3w I->d≠S->s.heap.get? d=Aa o->h2.get? d=Aa o)->h2.get? S=Aa { cls:=.type "list", dict:=Ae,data:=.seq acc2 c2,slots:=#[] }->Kv I S xs ys us n acc2 h2->R (.ok (.ret res)) {s with heap:=h2,toks:=tk}) ->
  Ez (model prog w) A (.builtin "list.extend.loop" ⟨[.ref S,.ref (I+5),res],[]⟩) R s:=by
 have calm':A.in1.handled=Ae:=calm;intro k
 induction k with
 |zero=>
  intro i s acc c hk hi hz q1 q2 q3 hSo hd hR;have ein:i=n:=Nat.le_antisymm hi (Nat.le_of_sub_eq_zero hk);subst ein;refine Ei U5 ?_;rw[DO EU _];refine Ah (m:=DM (.ref (I+5))) (bC calm' b1 hz q1 (UC e1) fun h2 kp=>?_)
  exact As (hR h2 acc c s.toks (fun d o nd _ q=>kp d o nd q) (kp _ _ (MH hS) hSo) ⟨hd.1,fun j hj=>by
   obtain⟨a,x,y,u,r1,r2,r3,r4,r5,r6,r7⟩:=hd.2.1 j hj;exact⟨a,x,y,u,r1,r2,r3,r4,kp _ _ (MH r6) r5,r6,r7⟩,hd.2.2⟩)
 |succ k ih=>
  intro i s acc c hk hi hz q1 q2 q3 hSo hd hR;have lt:i<n:=Nat.lt_of_sub_pos (by rw[hk];exact Nat.succ_pos _)
  have lx:i<xs.size:=by rw[e1];exact lt
  have ly:i<ys.size:=by rw[e2];exact lt
  have lu:i<us.size:=by rw[e3];exact lt
  refine Ei U5 ?_;rw[DO EU _];refine Ah (m:=DM (.ref (I+5))) (Yp calm' b1 b2 b3 hz q1 q2 q3 (Ck lx) (Ck ly) (Ck lu) fun h2 tk z2 tr sz kp=>?_)
  have hS2:=kp _ _ (MH hS) hSo;refine Ah (m:=IU S _) ?_;have ot:∀(f:Cz->Cz) d o,d≠S->h2.get? d=Aa o->(h2.update S f).get? d=Aa o:=fun f d o nd q=>(BE _ _ (Ct nd)).trans q
  have lS:I+5<s.heap.objs.size:=UF hS (AC hSo);have nT:s.heap.objs.size≠S:=CZ (AC hSo);have hS3:=Bw (CJ (·.push (.ref s.heap.objs.size))) hS2 rfl;have lne:∀{l:Af},l<I->l≠S:=fun h e=>by rw[e]at h;exact absurd (UF h (BX (DW I 5) hS)) (Bf _)
  refine Gn hS2 rfl (As ⟨G0 EU _,ih (i+1) {s with heap:=h2.update S (CJ (·.push (.ref s.heap.objs.size))),toks:=tk} _ _ (by omega) lt (z2.at' fun j hj o q=>ot _ _ o (fun e=>by rw[<-e]at hS;exact absurd hS (Fm.mpr (Gy hj I))) q) ?_ ?_ ?_ hS3 ⟨by rw[Ua,hd.1],fun j hj=>?_,?_⟩ fun h4 acc4 c4 tk4 kp4 hS4 hd4=>hR h4 acc4 c4 tk4 (fun d o nd ns q=>kp4 d o nd ns (ot _ d o ns (kp d o nd q))) hS4 hd4⟩) ?_ ?_
  ·exact q1.at' fun o q=>ot _ _ o (lne b1) (kp _ o (Mw b1) q)
  ·exact q2.at' fun o q=>ot _ _ o (lne b2) (kp _ o (Mw b2) q)
  ·exact q3.at' fun o q=>ot _ _ o (lne b3) (kp _ o (Mw b3) q)
  ·by_cases ej:j=i
   ·subst ej;exact⟨s.heap.objs.size,_,_,_,by rw[Gu,AF hd.1.symm],Ck lx,Ck ly,Ck lu,ot _ _ _ nT tr,lS,nT⟩
   ·obtain⟨a,x,y,u,r1,r2,r3,r4,r5,r6,r7⟩:=hd.2.1 j (Nat.lt_of_le_of_ne (Nat.le_of_lt_succ hj) ej);exact⟨a,x,y,u,by rw[Gu,AM (by rw[hd.1];exact ej)];exact r1,r2,r3,r4,ot _ _ _ r7 (kp _ _ (MH r6) r5),r6,r7⟩
  ·have old:∀(j a:Af),acc[j]?=Aa (Bo a)->a<s.heap.objs.size:=fun j a e=>by
    have hj:j<i:=by rw[<-hd.1];exact(EL.mp e).1
    obtain⟨a',x,y,u,r1,r2,r3,r4,r5,r6,r7⟩:=hd.2.1 j hj;rw[e]at r1;cases r1;exact AC r5
   intro j1 j2 a q1 q2;rw[Gu]at q1 q2;split at q1
   ·split at q2
    ·omega
    ·cases q1;exact absurd (old _ _ q2) (Bf _)
   ·split at q2
    ·cases q2;exact absurd (old _ _ q1) (Bf _)
    ·exact hd.2.2 _ _ _ q1 q2
  ·rw[hd.1];exact BR (BR hi nn) (by decide)
  ·show (acc.push _).size<=sizeLine+1;rw[Ua,hd.1];exact BR (Nat.succ_le_succ (BR hi nn)) (by decide)
end
theorem WB(a b c:Ai):checkTypeCall "zip" ⟨[a,b,c],[]⟩=pure ():=by kernel_rfl
theorem Xz(a b c:Ai):D4 "zip.__new__" ⟨[.type "zip", a,b,c],[]⟩=pure ():=by kernel_rfl
theorem fR(a b c d:Ai):argsOk "object.__init__" ⟨[a,b,c,d],[]⟩:=by
 unfold argsOk;rw[signature?_of (id := "object.__init__") (n:=['_','_','t','i','n','i','_','_']) (o:=['t','c','e','j','b','o']) (by kernel_rfl) F.owner_object];kernel_rfl
section
variable{prog:AK}{w:AY}{A:AV}{E:Vq}{s:Aq}
noncomputable abbrev yh3(t1 t2 t3:An)(h:AB)(l1 l2 l3:Ak):AB:=((h.push (itO t1 l1)).push (itO t2 l2)).push (itO t3 l3)
noncomputable abbrev yh4(t1 t2 t3:An)(h:AB)(l1 l2 l3:Ak):AB:=(yh3 t1 t2 t3 h l1 l2 l3).push { cls:=.type "tuple", data:=.seq #[.ref h.objs.size,.ref (h.push (itO t1 l1)).objs.size,.ref ((h.push (itO t1 l1)).push (itO t2 l2)).objs.size] }
noncomputable abbrev yh5(t1 t2 t3:An)(h:AB)(l1 l2 l3:Ak):AB:=(yh4 t1 t2 t3 h l1 l2 l3).push { cls:=.type "tuple", data:=.seq #[.none,.none,.none] }
noncomputable abbrev yh6(t1 t2 t3:An)(h:AB)(l1 l2 l3:Ak):AB:=(yh5 t1 t2 t3 h l1 l2 l3).push { cls:=.type "zip", data:=.fields #[.none,.bool Ac,.bool Ac,.ref (yh3 t1 t2 t3 h l1 l2 l3).objs.size,.ref (yh4 t1 t2 t3 h l1 l2 l3).objs.size] }
theorem Xx(t1 t2 t3:An)(l1 l2 l3:Ak)(xs ys us:AX Ai):Meets (Builtin.«zip.__new__» ⟨[.type "zip", .ref l1,.ref l2,.ref l3],[]⟩) (fun _ R s=>B5 t1 s.heap l1 xs/\B5 t2 s.heap l2 ys/\B5 t3 s.heap l3 us/\R (.ok (.ret (.ref (yh5 t1 t2 t3 s.heap l1 l2 l3).objs.size))) {s with heap:=yh6 t1 t2 t3 s.heap l1 l2 l3}):=
 .of_wp fun prog w A R s h=>by
  obtain⟨hp,g,d,tk,os⟩:=s;obtain⟨a1,a2,a3,q⟩:=h;have hsub:=sub_zip;have L1:B5 t1 (FK ⟨hp,g,d,tk,os⟩) l1 xs:=a1;have L2:B5 t2 (FK ⟨hp.push (itO t1 l1),g,d,tk,os⟩) l2 ys:=a2.push _;have L3:B5 t3 (FK ⟨(hp.push (itO t1 l1)).push (itO t2 l2),g,d,tk,os⟩) l3 us:=(a3.push _).push _
  wp_walk using Jc L1,Jc L2,Jc L3
  exact⟨_,rfl,q⟩
theorem Wg{t1 t2 t3:An}{l1 l2 l3:Ak}{xs:AX Ai}{Q:Vq}(a1:B5 t1 s.heap l1 xs)(a2:B5 t2 s.heap l2 ys)(a3:B5 t3 s.heap l3 us)(q:∀ h2,Z3 t1 t2 t3 s.heap.objs.size l1 l2 l3 0 h2->h2.objs.size=s.heap.objs.size+6->(∀ c o,s.heap.get? c=Aa o->h2.get? c=Aa o)->Q (.ref (s.heap.objs.size+5)) {s with heap:=h2}):At (model prog w) A (call (.type "zip") [.ref l1,.ref l2,.ref l3]) Q E s:=by
 refine IN U3 (by decide) (WB _ _ _) (Xz _ _ _) (fun obj=>fR obj _ _ _) U8 (Xx t1 t2 t3 l1 l2 l3 xs ys us) ⟨a1,a2,a3,?_⟩
 have s1:(s.heap.push (itO t1 l1)).objs.size=s.heap.objs.size+1:=Bm ..;have s2:((s.heap.push (itO t1 l1)).push (itO t2 l2)).objs.size=s.heap.objs.size+2:=by rw[Bm,s1]
 have s3:(yh3 t1 t2 t3 s.heap l1 l2 l3).objs.size=s.heap.objs.size+3:=by rw[Bm,s2]
 have s4:(yh4 t1 t2 t3 s.heap l1 l2 l3).objs.size=s.heap.objs.size+4:=by rw[Bm,s3]
 have s5:(yh5 t1 t2 t3 s.heap l1 l2 l3).objs.size=s.heap.objs.size+5:=by rw[Bm,s4]
 have s6:(yh6 t1 t2 t3 s.heap l1 l2 l3).objs.size=s.heap.objs.size+6:=by rw[Bm,s5]
 have u6:∀ {c o},(yh5 t1 t2 t3 s.heap l1 l2 l3).get? c=Aa o->(yh6 t1 t2 t3 s.heap l1 l2 l3).get? c=Aa o:=fun e=>Ap _ e
 have u5:∀ {c o},(yh4 t1 t2 t3 s.heap l1 l2 l3).get? c=Aa o->(yh6 t1 t2 t3 s.heap l1 l2 l3).get? c=Aa o:=fun e=>u6 (Ap _ e)
 have u4:∀ {c o},(yh3 t1 t2 t3 s.heap l1 l2 l3).get? c=Aa o->(yh6 t1 t2 t3 s.heap l1 l2 l3).get? c=Aa o:=fun e=>u5 (Ap _ e)
 have u3:∀ {c o},((s.heap.push (itO t1 l1)).push (itO t2 l2)).get? c=Aa o->(yh6 t1 t2 t3 s.heap l1 l2 l3).get? c=Aa o:=fun e=>u4 (Ap _ e)
 have u2:∀ {c o},(s.heap.push (itO t1 l1)).get? c=Aa o->(yh6 t1 t2 t3 s.heap l1 l2 l3).get? c=Aa o:=fun e=>u3 (Ap _ e)
 have g6:(yh6 t1 t2 t3 s.heap l1 l2 l3).get? (yh5 t1 t2 t3 s.heap l1 l2 l3).objs.size=Aa _:=AD _ rfl;have g5:(yh6 t1 t2 t3 s.heap l1 l2 l3).get? (yh4 t1 t2 t3 s.heap l1 l2 l3).objs.size=Aa _:=u6 (AD _ rfl);have g4:(yh6 t1 t2 t3 s.heap l1 l2 l3).get? (yh3 t1 t2 t3 s.heap l1 l2 l3).objs.size=Aa _:=u5 (AD _ rfl);have g3:(yh6 t1 t2 t3 s.heap l1 l2 l3).get? ((s.heap.push (itO t1 l1)).push (itO t2 l2)).objs.size=Aa _:=u4 (AD _ (Kh _ _));have g2:(yh6 t1 t2 t3 s.heap l1 l2 l3).get? (s.heap.push (itO t1 l1)).objs.size=Aa _:=u3 (AD _ (Kh _ _));have g1:(yh6 t1 t2 t3 s.heap l1 l2 l3).get? s.heap.objs.size=Aa _:=u2 (AD _ (Kh _ _));show _/\_;rw[s3,s4,s5]at g6;rw[s4]at g5;rw[s1,s2,s3]at g4;rw[s2]at g3;rw[s1]at g2;rw[s5];exact⟨⟨_,g6,rfl⟩,q _ ⟨g4,Kq g1,Kq g2,Kq g3,⟨_,_,_,g5⟩,.inl g6⟩ s6 fun c o e=>u2 (Ap _ e)⟩
end
theorem V7:Im (.type "zip") "__len__" = pure Ae:=by rw[VJ,VC];kernel_rfl
theorem V3:Im (.type "zip") "__length_hint__" = pure Ae:=by rw[VJ,VC];kernel_rfl
theorem Z3.ty{t1 t2 t3:An}{I l1 l2 l3 i:Af}(z:Z3 t1 t2 t3 I l1 l2 l3 i s.heap):s.TypeIs (.ref (I+5)) "zip" := by
 obtain⟨_,_,_,_,_,hz|⟨_,_,hz⟩⟩:=z
 ·exact⟨_,hz,rfl⟩
 ·exact⟨_,hz,rfl⟩
theorem Z3.lt{t1 t2 t3:An}{I l1 l2 l3 i:Af}(z:Z3 t1 t2 t3 I l1 l2 l3 i s.heap):I+5<s.heap.objs.size:=by
 obtain⟨o,h,_⟩:=z.ty;exact AC h
theorem Yq{t1 t2 t3:An}{I l1 l2 l3 i:Af}(z:Z3 t1 t2 t3 I l1 l2 l3 i h):Z3 t1 t2 t3 I l1 l2 l3 i (h.push o):=by
 have k:∀ {c u},h.get? c=Aa u->(h.push o).get? c=Aa u:=fun q=>Ap _ q
 obtain⟨zI,i1,i2,i3,zz⟩:=z;refine⟨k zI,i1.at' fun o q=>k q,i2.at' fun o q=>k q,i3.at' fun o q=>k q,?_⟩
 obtain⟨⟨a,b,c,hO⟩,zz⟩:=zz;refine⟨⟨a,b,c,k hO⟩,?_⟩;rcases zz with hz|⟨T1,f1,hz⟩
 ·exact .inl (k hz)
 ·exact .inr ⟨T1,f1,k hz⟩
section
variable{prog:AK}{w:AY}{A:AV}{E:Vq}{s:Aq}
theorem Xs{z:Ak}{Q:Vq}(hT:s.TypeIs (.ref z) "zip")(h:Q (.ref z) s):At (model prog w) A (JT (.ref z)) Q E s:=by
 refine wpAny_pyIter_slot hT Vc (Cv Vc hT F.entry_zip_iter ?_ (F.args_zip_iter_1 _));show At _ _ (ret (.ref z)) _ _ s;exact As ⟨_,rfl, "zip", _,hT,F.slot_zip_next.lookup,h⟩
theorem V9{t1 t2 t3:An}{I l1 l2 l3 n:Af}{xs:AX Ai}{Q:Ad Ai->Aq->Prop}(calm:A.handled=Ae)(b1:l1<I)(b2:l2<I)(b3:l3<I)(n0:0<n)(nn:n<=1000)(e1:xs.size=n)(e2:ys.size=n)(e3:us.size=n)(hz:Z3 t1 t2 t3 I l1 l2 l3 0 s.heap)(q1:B5 t1 s.heap l1 xs)(q2:B5 t2 s.heap l2 ys)(q3:B5 t3 s.heap l3 us)(hQ:∀ h2 acc tk,(∀ d o,d∉z3w I->s.heap.get? d=Aa o->h2.get? d=Aa o)->Kv I s.heap.objs.size xs ys us n acc h2->Q acc.toList {s with heap:=h2,toks:=tk}):At (model prog w) A (collect (.ref (I+5))) Q E s:=by
  have lt:=hz.lt;have hSI:s.heap.objs.size≠I+5:=CZ lt;unfold collect;refine Ah (wpAny_runValue (Ei F.entry_proto_collect ?_));rw[DO F.plain_proto_collect _];show At _ A.in1 (newList [] >>= fun l=>again (.builtin "list.__iadd__" ⟨[l,.ref (I+5)],[]⟩)) _ _ s
  refine Ah (Cn ?_);refine As ⟨G0 U9 _,Ei F.entry_list_iadd ?_⟩;rw[DO U9 _];have hz1:Z3 t1 t2 t3 I l1 l2 l3 0 (s.heap.push { cls:=.type "list", data:=.seq ([]:Ad Ai).toArray }):=Yq hz;have ty1:Shared.TypeIs { s with heap:=s.heap.push { cls:=.type "list", data:=.seq ([]:Ad Ai).toArray } } (.ref (I+5)) "zip" := Z3.ty (s:={ s with heap:=s.heap.push { cls:=.type "list", data:=.seq ([]:Ad Ai).toArray } }) hz1
  show At _ A.in1 (UR (.ref s.heap.objs.size) (.ref (I+5)) (.ref s.heap.objs.size)) _ _ _;unfold UR;refine Ah (wpAny_typeOf ty1 ?_);have h1:US (.ref s.heap.objs.size) (.ref (I+5))=Ac:=by simp[US,hSI]
  have h2:(Fo "zip" == Fo "list")=Ac:=by decide
  have h3:(Fo "zip" == Fo "tuple")=Ac:=by decide
  simp only[h1,h2,h3,Ue,GP,HH];refine Ah (Xs ty1 ?_);refine Ah (Bv ?_);unfold Builtin.List.listLengthHint;refine Ah (HM ty1 V7 ?_);show At _ A.in1 (specialOf (Bo (I+5)) (Bx "__length_hint__") >>= _) _ _ _;refine Ah (HM ty1 V3 ?_);refine As ?_;show At _ A.in1 (rule "list.extend.makes-room" >>= fun _=>Builtin.List.listTouch (.ref s.heap.objs.size) >>= fun _=>
    again (.builtin "list.extend.loop" ⟨[.ref s.heap.objs.size,.ref (I+5),.ref s.heap.objs.size],[]⟩)) _ _ _
  refine Ah (Gm ?_);have hS₁:(s.heap.push { cls:=.type "list", data:=.seq ([]:Ad Ai).toArray }).get? s.heap.objs.size=Aa { cls:=.type "list", data:=.seq ([]:Ad Ai).toArray }:=AD _ rfl;refine Ah ?_;show At _ A.in1 (IU s.heap.objs.size (·.push .none) >>= fun _=>IU s.heap.objs.size (·.pop)) _ _ _
  refine Ah (Gn hS₁ rfl ?_);have hS₂:=Bw (CJ (·.push CQ)) hS₁ rfl;refine Gn hS₂ rfl ?_;have hS₃:=Bw (CJ (·.pop)) hS₂ rfl;have oth:∀ b o,b≠s.heap.objs.size->(s.heap.push { cls:=.type "list", data:=.seq ([]:Ad Ai).toArray }).get? b=Aa o ->
      (((s.heap.push { cls:=.type "list", data:=.seq ([]:Ad Ai).toArray }).update s.heap.objs.size (CJ (·.push CQ))).update s.heap.objs.size (CJ (·.pop))).get? b=Aa o:=
    fun b o hb e=>(BE _ _ (Ct hb)).trans ((BE _ _ (Ct hb)).trans e)
  have oth':∀ b o,s.heap.get? b=Aa o->(((s.heap.push { cls:=.type "list", data:=.seq ([]:Ad Ai).toArray }).update s.heap.objs.size (CJ (·.push CQ))).update s.heap.objs.size (CJ (·.pop))).get? b=Aa o:=
    fun b o e=>oth b o (A1 (AC e)) (Ap _ e)
  refine As ⟨G0 EU _,Yr calm b1 b2 b3 s.heap.objs.size lt n0 nn e1 e2 e3 n 0 _ _ _ rfl (FJ _) (hz1.at' fun j hj o q=>oth _ o (fun e=>by rw[<-e]at lt;exact absurd lt (Fm.mpr (Gy hj I))) q) (q1.at' fun o e=>oth' _ o e) (q2.at' fun o e=>oth' _ o e) (q3.at' fun o e=>oth' _ o e) hS₃ ⟨rfl,fun j hj=>absurd hj (UH _),fun j1 j2 a e=>by simp[CJ]at e⟩ fun h2 acc c tk kp hS hd=>?_⟩
  show At _ A (load s.heap.objs.size >>= _) _ _ _;refine Ah (wpAny_load hS ?_);exact As (hQ h2 acc tk (fun d o nd e=>kp d o nd (A1 (AC e)) (oth' d o e)) hd)
theorem Ys{t1 t2 t3:An}{I l1 l2 l3 n:Af}{xs:AX Ai}{Q₁:Vq}(calm:A.handled=Ae)(b1:l1<I)(b2:l2<I)(b3:l3<I)(n0:0<n)(nn:n<=1000)(e1:xs.size=n)(e2:ys.size=n)(e3:us.size=n)(hz:Z3 t1 t2 t3 I l1 l2 l3 0 s.heap)(q1:B5 t1 s.heap l1 xs)(q2:B5 t2 s.heap l2 ys)(q3:B5 t3 s.heap l3 us)(h:∀ h2 acc tk,(∀ d o,d∉z3w I->s.heap.get? d=Aa o->h2.get? d=Aa o)->Kv I s.heap.objs.size xs ys us n acc h2->Q₁ (.ref h2.objs.size) { s with heap:=h2.push { cls:=.type "tuple", data:=.seq acc },toks:=tk }):
  Ez (model prog w) A (.call (.builtin "tuple.__new__") ⟨[.type "tuple", .ref (I+5)],[]⟩) (wants Q₁ E) s:=by
 refine VD ?_;show At _ A.in1 (do D4 "tuple.__new__" ⟨[.type "tuple", .ref (I+5)],[]⟩;again (.builtin "tuple.__new__" ⟨[.type "tuple", .ref (I+5)],[]⟩)) _ _ s
 refine Ah (HP (F.newCall_tuple_1 _) (As ⟨G0 Va _,Ei F.entry_tuple_new ?_⟩));rw[DO Va _];have hsub:=sub_tuple_self;have hinit:=init_tuple_lookup;have hmh:=madeHere_tuple;have hTI:=hz.ty;have calm2:A.in1.handled=Ae:=calm
 wp_walk using wpAny_typeOf hTI,V9 calm2 b1 b2 b3 n0 nn e1 e2 e3 hz q1 q2 q3
 intro h2 acc tk kp hd;show At _ _ (CM acc.toList.toArray >>= fun v=>ret v) _ _ _
 unfold CM;refine Ah (Cn ?_ (by show acc.toList.toArray.size<=sizeLine;simp only[Ub];rw[hd.1,C4];omega))
 refine As ?_;have e:acc.toList.toArray=acc:=by simp
 rw[e];exact h h2 acc tk kp hd
theorem XA{t1 t2 t3:An}{I l1 l2 l3 n:Af}{xs:AX Ai}{Q:Vq}(calm:A.handled=Ae)(b1:l1<I)(b2:l2<I)(b3:l3<I)(n0:0<n)(nn:n<=1000)(e1:xs.size=n)(e2:ys.size=n)(e3:us.size=n)(hz:Z3 t1 t2 t3 I l1 l2 l3 0 s.heap)(q1:B5 t1 s.heap l1 xs)(q2:B5 t2 s.heap l2 ys)(q3:B5 t3 s.heap l3 us)(h:∀ h2 acc tk,(∀ d o,d∉z3w I->s.heap.get? d=Aa o->h2.get? d=Aa o)->Kv I s.heap.objs.size xs ys us n acc h2->Q (.ref h2.objs.size) { s with heap:=h2.push { cls:=.type "tuple", data:=.seq acc },toks:=tk }):
  At (model prog w) A (call (.type "tuple") [.ref (I+5)]) Q E s:=by
 refine callType_codes (Q₁:=fun obj s₁=>s₁.TypeIs obj "tuple"/\Q obj s₁) F.called_tuple (F.typeCall_tuple_1 _) F.entry_object_init
  (Ys (by exact calm) b1 b2 b3 n0 nn e1 e2 e3 hz q1 q2 q3 fun h2 acc tk kp hd=>⟨⟨_,AD _ rfl,rfl⟩,h h2 acc tk kp hd⟩) fun obj s₁ h₁=>?_
 exact⟨h₁.1,U0 obj _,object_init_meets F.called_tuple.init.lookup F.called_tuple.made (by decide) prog w A.in1 _ s₁ ⟨h₁.1,rfl,h₁.2⟩⟩
end
noncomputable def HY(H:Hp)(ps:Ad (Ak×Ad V)):Hp:=fun b=>match ps.lookup b with
  |some xs=>Aa (.tup xs)
  |none=>H b
theorem RK(h:ps.lookup a=Aa xs):(a,xs)∈ps:=by
 induction ps with
 |nil=>cases h
 |cons p ps ih=>
  obtain⟨b,ys⟩:=p;rw[Bz]at h;split at h
  ·rename_i e;cases h;rw[AQ]at e;subst e;exact AL
  ·exact AG _ (ih h)
theorem QL(h:∀ p∈ps,p.1≠b):HY H ps b=H b:=by
 unfold HY;cases e:ps.lookup b with
 |none=>rfl
 |some xs=>exact absurd rfl (h _ (RK e))
theorem XO(ps:Ad (Ak×Ad V))(I:Inv X pI σ H s)(k:∀ b u,s.heap.get? b=Aa u->h'.get? b=Aa u)(hp:∀ p∈ps,s.heap.objs.size<=p.1)(new:∀ p∈ps,p.2.length<=sizeLine/\∃ its:Ad Ai,Bb p.2 its/\Jk h' p.1 its.toArray):Inv X pI σ (HY H ps) {s with heap:=h',toks:=t'}:=by
 have old:∀ b,b<s.heap.objs.size->HY H ps b=H b:=fun b hb=>QL fun p hq e=>by
  have:=hp p hq;rw[e]at this;exact absurd hb (Fm.mpr this)
 have hl:∀ b o,H b=Aa o->HY H ps b=Aa o:=fun b o q=>by rw[old b (I.hok.lt q)];exact q
 refine I.un ⟨fun b u q _ _ _=>k b u q,fun b u q _ _ _=>⟨u.slots,k b u q⟩,fun b u q n _=>by rw[old b (AC q)];exact n,fun b u q _=>⟨u,k b u q⟩,fun b xs q=>hl b _ q,fun b u xs q=>hl b _ q,fun b xs q=>⟨#[],by rw[hl b _ q];simp⟩⟩ fun b u e=>?_
 unfold HY at e;split at e
 ·rename_i xs hx;cases e;exact new _ (RK hx)
 ·exact(I.hok b u e).stay (fun c v _ q=>k c v q) (fun c q=>hl c _ q) fun c xs q=>hl c _ q
noncomputable def G5:Ad V->Ad V->Ad V->Ad (Ad V)
 |x::xs,y::ys,u::us=>[x,y,u]::G5 xs ys us
 |_,_,_=>[]
theorem P5:∀(xs ys us:Ad V)(j:Af)(r:Ad V),(G5 xs ys us)[j]?=Aa r->∃ x y u,xs[j]?=Aa x/\ys[j]?=Aa y/\us[j]?=Aa u/\r=[x,y,u]
 |[],_,_,j,r,h=>by simp[G5]at h
 |_::_,[],_,j,r,h=>by simp[G5]at h
 |_::_,_::_,[],j,r,h=>by simp[G5]at h
 |x::xs,y::ys,u::us,0,r,h=>by
  simp only[G5,Ea,Ft]at h;exact⟨x,y,u,rfl,rfl,rfl,h.symm⟩
 |x::xs,y::ys,u::us,j+1,r,h=>by
  simp only[G5,D9]at h ⊢;exact P5 xs ys us j r h
theorem LH{α β:Type}:∀{as:Ad α}{bs:Ad β}{a:α}{b:β},(a,b)∈as.zip bs->∃ j:Af,as[j]?=Aa a/\bs[j]?=Aa b
 |[],_,_,_,h=>by simp at h
 |_::_,[],_,_,h=>by simp at h
 |x::as,y::bs,a,b,h=>by
  simp only[GR,Ay,Prod.mk.injEq]at h;rcases h with ⟨rfl,rfl⟩|h
  ·exact⟨0,rfl,rfl⟩
  ·obtain⟨j,h1,h2⟩:=LH h;exact⟨j+1,h1,h2⟩
def mO(K:Fg)(ta:TA):TE:=fun σ H Q=>ta σ H fun vs H1=>∃ t1 t2 t3 a b c xs ys us,vs=[.ref a,.ref b,.ref c]/\SqX t1 K H1 a xs/\SqX t2 K H1 b ys/\SqX t3 K H1 c us/\0<xs.length/\xs.length<=1000/\ys.length=xs.length/\us.length=xs.length /\
 ∀(as:Ad Ak)(T:Ak),as.length=xs.length->as.Nodup->(∀ p∈as,H1 p=Ae)->T∉as->H1 T=Ae->Q (.ref T) (HY H1 ((T,as.map .ref)::as.zip (G5 xs ys us)))
theorem X8{I S:Af}{xs acc:AX Ai}(d:Kv I S xs ys us n acc h):∃ as:Ad Ak,acc.toList=as.map Bo/\as.length=n/\as.Nodup/\∀(j:Af)(a:Ak),as[j]?=Aa a->∃ x y u,xs[j]?=Aa x/\ys[j]?=Aa y/\us[j]?=Aa u/\Ee h a x y u/\I+5<a:=by
  obtain⟨hn,hj,inj⟩:=d
  let f:Ai->Ak:=fun v=>match v with
    |.ref a=>a
    |_=>0
  have hg:∀ j v,acc.toList[j]?=Aa v->∃(a:Af)(x y u:Ai),v=Bo a/\xs[j]?=Aa x/\ys[j]?=Aa y/\us[j]?=Aa u/\Ee h a x y u/\I+5<a:=fun j v e=>by
    rw[Array.getElem?_toList]at e;have lt:j<n:=by rw[<-hn];exact(EL.mp e).1
    obtain⟨a,x,y,u,r1,r2,r3,r4,r5,r6,_⟩:=hj j lt;rw[e]at r1;cases r1;exact⟨a,x,y,u,rfl,r2,r3,r4,r5,r6⟩
  have hf:∀ v∈acc.toList,Bo (f v)=v:=fun v hv=>by
    obtain⟨j,hj⟩:=Uq hv;obtain⟨a,_,_,_,rfl,_⟩:=hg j v hj;rfl
  have hm:acc.toList=(acc.toList.map f).map Bo:=by
    rw[Hl]
    conv=>lhs;rw[<-List.map_id acc.toList]
    exact Uw fun v hv=>(hf v hv).symm
  refine⟨acc.toList.map f,hm,by rw[Br,D8,hn],?_,fun j a e=>?_⟩
  · rw[List.nodup_iff_pairwise_ne,List.pairwise_iff_getElem];intro i j hi hj' lt e;rw[Br,D8]at hi hj';have at':∀(k:Af)(hk:k<acc.size)(hk':k<(acc.toList.map f).length),acc[k]?=Aa (Bo (acc.toList.map f)[k]):=fun k hk hk'=>by
      rw[Ck hk,List.getElem_map,hf _ (DV _),Array.getElem_toList]
    have:=inj i j _ (at' i hi _) (by rw[e];exact at' j hj' _)
    omega
  · rw[En,Option.map_eq_some_iff]at e;obtain⟨v,hv,rfl⟩:=e;obtain⟨a,x,y,u,rfl,r⟩:=hg j v hv;exact⟨x,y,u,r⟩
theorem bT{a b:Ao}{p':AI}(hc:X.calm=Ab)(hg:Gl X "tuple")(hm:X.mg "tuple" = Ae)(hg':Gl X "zip")(hm':X.mg "zip" = Ae)(ha:PA X [a,b,c] ta)(hs:Ax [a,b,c] X.env=[(Ac,eval a X.env),(Ac,eval b X.env),(Ac,eval c X.env)])(hs2:Ax [b,c] X.env=[(Ac,eval b X.env),(Ac,eval c X.env)]):
    PE X (.Call (.Name "tuple" p) [.Call (.Name "zip" p') [a,b,c] [] pos'] [] pos) (mO X.K ta):=by
  intro pI s σ H Q I h;refine JN (Iq I hg hm Fs (B6 ?_ rfl rfl));show At _ _ (spliced ((Ac,eval (.Call (.Name "zip" p') [a,b,c] [] pos') X.env)::Ce pos (Ax [] X.env))) _ _ s;refine UW ?_;refine JN (Iq I hg' hm' UM (B6 (thn (ha pos' pI s σ H _ I h) fun us s1 ⟨vs,H1,I1,r1,q1⟩=>?_) (by rw[hs,hs2]) (by rw[hs2];rfl)))
  obtain⟨t1,t2,t3,l1,l2,l3,xs,ys,zs,e,sx,sy,sz,n0,nn,ey,ez,q⟩:=q1;subst e;cases r1 with
  |cons r rr=>
    cases rr with
    |cons r' rr=>
      cases rr with
      |cons r'' rr=>
        cases rr;cases r;cases r';cases r'';obtain⟨xv,rx,ix,_⟩:=G2 I1 sx;obtain⟨yv,ry,iy,_⟩:=G2 I1 sy;obtain⟨zv,rz,iz,_⟩:=G2 I1 sz;refine Wg ix iy iz fun h2 z hsz kp=>UX ?_
        have lx:=rx.length;have ly:=ry.length;have lz:=rz.length;refine XA (s:={s1 with heap:=h2}) (n:=xs.length) (I1.ok.hd hc) ix.lt iy.lt iz.lt n0 nn (by simp[lx]) (by simp[<-ly,ey]) (by simp[<-lz,ez]) z (ix.at' fun o e=>kp _ o e) (iy.at' fun o e=>kp _ o e) (iz.at' fun o e=>kp _ o e) fun h3 acc tk kp3 dr=>?_
        obtain⟨as,e1,e2,nd,each⟩:=X8 dr;have nw:∀ b,b<s1.heap.objs.size->b∉z3w s1.heap.objs.size:=fun b hb=>Mw hb
        have kp4:∀ b o,s1.heap.get? b=Aa o->(h3.push { cls:=.type "tuple", data:=.seq acc }).get? b=Aa o:=fun b o e=>Ap _ (kp3 b o (nw b (AC e)) (kp b o e))
        have big:∀ a∈as,s1.heap.objs.size<=a/\a<h3.objs.size:=fun a ha=>by
          obtain⟨j,hj⟩:=Uq ha;obtain⟨x,y,u,_,_,_,tr,lt⟩:=each j a hj;exact⟨Et (BX (DW _ 5) lt),AC tr⟩
        have b3:s1.heap.objs.size<=h3.objs.size:=by
          obtain⟨a,ha⟩:∃ a,a∈as:=List.exists_mem_of_length_pos (by rw[e2];exact n0)
          exact Et (BX (big a ha).1 (big a ha).2)
        refine⟨.ref h3.objs.size,_,XO (s:=s1) (h':=h3.push { cls:=.type "tuple", data:=.seq acc }) (t':=tk) ((h3.objs.size,as.map V.ref)::as.zip (G5 xs ys zs)) I1 kp4 (fun p hp=>?_) (fun p hp=>?_),rfl,q as h3.objs.size e2 nd (fun p hp=>I1.hok.fresh (big p hp).1) (fun hT=>absurd (big _ hT).2 (Bf _)) (I1.hok.fresh b3)⟩
        · rcases Ay.mp hp with rfl|hp
          · exact b3
          · obtain⟨j,h1,h2⟩:=LH (a:=p.1) (b:=p.2) hp;exact(big _ (De h1)).1
        · rcases Ay.mp hp with rfl|hp
          · refine⟨by rw[Br,e2,C4];omega,as.map Bo,?_,?_⟩
            · clear q each big hp e1 e2 nd
              induction as with
              |nil=>exact .nil
              |cons a as ih=>exact .cons rfl ih
            · rw[<-e1,Ub];exact IG _ _
          · obtain⟨j,h1,h2⟩:=LH (a:=p.1) (b:=p.2) hp;obtain⟨x,y,u,g1,g2,g3,er⟩:=P5 _ _ _ _ _ h2;obtain⟨x',y',u',k1,k2,k3,tr,_⟩:=each j _ h1;obtain⟨x2,m1,w1⟩:=rx.get g1;obtain⟨y2,m2,w2⟩:=ry.get g2;obtain⟨u2,m3,w3⟩:=rz.get g3;rw[Us]at k1 k2 k3;cases m1.symm.trans k1;cases m2.symm.trans k2;cases m3.symm.trans k3;rw[er];exact⟨by show 3<=sizeLine;decide,[x',y',u'],.cons w1 (.cons w2 (.cons w3 .nil)),⟨_,Ap _ tr,rfl,_,rfl⟩⟩
theorem Py{K:Fg}{CL:ClA}{H H3:Hp}{A:Ak->Prop}(hA:AOk H A)(sm:AE H H3):∀{as:Ad Ak}{xs ys us:Ad V}{ds es fs:Ad D},(∀(j:Af)(a:Ak)(r:Ad V),as[j]?=Aa a->(G5 xs ys us)[j]?=Aa r->H3 a=Aa (.tup r))->(∀ p∈as,H p=Ae)->as.length=xs.length->ys.length=xs.length->us.length=xs.length->Reps K CL H A xs ds->Reps K CL H A ys es->Reps K CL H A us fs->Reps K CL H3 A (as.map .ref) (OA ds es fs)
 |[],[],[],[],[],[],[],_,_,_,_,_,_,_,_=>trivial
 |a::as,x::xs,y::ys,u::us,d::ds,e::es,f::fs,h,hn,l1,l2,l3,r1,r2,r3=>
  ⟨⟨a,[x,y,u],rfl,.inl (hA.new (hn a AL)),SqT.of (h 0 a _ rfl rfl),r1.1.same sm,r2.1.same sm,r3.1.same sm,trivial⟩,
   Py hA sm (fun j a' r p q=>h (j+1) a' r p q) (fun p hp=>hn p (AG _ hp)) (IF l1) (IF l2) (IF l3) r1.2 r2.2 r3.2⟩
 |[],_::_,_,_,_,_,_,_,_,l,_,_,_,_,_=>nomatch l
 |_::_,[],_,_,_,_,_,_,_,l,_,_,_,_,_=>nomatch l
 |_,[],_::_,_,_,_,_,_,_,_,l,_,_,_,_=>nomatch l
 |_,[],_,_::_,_,_,_,_,_,_,_,l,_,_,_=>nomatch l
 |_,_::_,[],_,_,_,_,_,_,_,l,_,_,_,_=>nomatch l
 |_,_::_,_,[],_,_,_,_,_,_,_,l,_,_,_=>nomatch l
 |_,[],_,_,_::_,_,_,_,_,_,_,_,r,_,_=>r.elim
 |_,_::_,_,_,[],_,_,_,_,_,_,_,r,_,_=>r.elim
 |_,_,[],_,_,_::_,_,_,_,_,_,_,_,r,_=>r.elim
 |_,_,_::_,_,_,[],_,_,_,_,_,_,_,r,_=>r.elim
 |_,_,_,[],_,_,_::_,_,_,_,_,_,_,_,r=>r.elim
 |_,_,_,_::_,_,_,[],_,_,_,_,_,_,_,r=>r.elim
theorem RJ:∀{as:Ad Ak}{rs:Ad (Ad V)}{j:Af}{a:Ak}{r:Ad V},as.Nodup->as[j]?=Aa a->rs[j]?=Aa r->(as.zip rs).lookup a=Aa r
 |[],_,_,_,_,_,h,_=>by simp at h
 |_::_,[],_,_,_,_,_,h=>by simp at h
 |b::as,q::rs,0,a,r,nd,h1,h2=>by
  simp only[Ea,Ft]at h1 h2;subst h1 h2;rw[GR,Uv]
 |b::as,q::rs,j+1,a,r,nd,h1,h2=>by
  simp only[D9]at h1 h2;have nb:a≠b:=fun e=>by subst e;exact(Eg.mp nd).1 (De h1)
  rw[GR,Bz,nP nb];exact RJ (Eg.mp nd).2 h1 h2
section
variable{X:Cx}{CL:ClA}{W:XW}{pos p pos' p':AI}{a b c:Ao}{fa fb fc:Rho->R D}
theorem dU(ha:SE X CL W a fa)(hb:SE X CL W b fb)(hd:SE X CL W c fc)(hc:X.calm=Ab)(hg:Gl X "tuple")(hm:X.mg "tuple" = Ae)(hg':Gl X "zip")(hm':X.mg "zip" = Ae)(hs:Ax [a,b,c] X.env=[(Ac,eval a X.env),(Ac,eval b X.env),(Ac,eval c X.env)])(hs2:Ax [b,c] X.env=[(Ac,eval b X.env),(Ac,eval c X.env)])(hs3:Ax [c] X.env=[(Ac,eval c X.env)]):
  SE X CL W (.Call (.Name "tuple" p) [.Call (.Name "zip" p') [a,b,c] [] pos'] [] pos) (fun ρ=>((fa ρ).bind fun x=>(fb ρ).bind fun y=>(fc ρ).bind fun z=>Kw x y z).bind fun xs=>.ok (.tup xs)):=
 fun A=>PE.weak (bT hc hg hm hg' hm' (Eb (ha A) (Eb (hb A) (Eb (hd A) GD hs3) (by rw[hs2,hs3])) (by rw[hs,hs2])) hs hs2) fun σ H Q ⟨hA,ρ,g,q⟩=>by
  simp only[R.bind_assoc]at q;refine⟨hA,ρ,g,Bc.bind q fun d v H1 _ s1 r1 p1=>⟨hA.same s1,ρ,g.same s1,Bc.bind p1 fun d2 v2 H2 _ s2 r2 p2=>⟨(hA.same s1).same s2,ρ,(g.same s1).same s2,Bc.bind p2 fun d3 v3 H3 _ s3 r3 p3=>?_⟩⟩⟩
  unfold Kw at p3;cases e1:Cw d with
  |bad=>rw[e1]at p3;exact p3.elim
  |exn z=>exact absurd e1 (by cases d<;>simp[Cw])
  |ok ds=>
   cases e2:Cw d2 with
   |bad=>rw[e1,e2]at p3;exact p3.elim
   |exn z=>exact absurd e2 (by cases d2<;>simp[Cw])
   |ok es=>
    cases e3:Cw d3 with
    |bad=>rw[e1,e2,e3]at p3;exact p3.elim
    |exn z=>exact absurd e3 (by cases d3<;>simp[Cw])
    |ok fs=>
     rw[e1,e2,e3]at p3;simp only[R.bind_ok]at p3;obtain⟨t1,c1,xs,rfl,k1,rs1⟩:=Kz ((r1.same s2).same s3) e1;obtain⟨t2,c2,ys,rfl,k2,rs2⟩:=Kz (r2.same s3) e2;obtain⟨t3,c3,us,rfl,k3,rs3⟩:=Kz r3 e3;split at p3
     ·rename_i hn;obtain⟨n0,nn,ny,nz⟩:=hn;rw[<-rs1.length]at n0 nn ny nz;rw[<-rs2.length]at ny;rw[<-rs3.length]at nz;refine⟨t1,t2,t3,c1,c2,c3,xs,ys,us,rfl,k1 H3 (Kp.of (AE.refl H3)),k2 H3 (Kp.of (AE.refl H3)),k3 H3 (Kp.of (AE.refl H3)),n0,nn,ny,nz,fun as T el nd fr hT fT=>?_⟩
      have hA3:AOk H3 A:=((hA.same s1).same s2).same s3;have fr':∀ q∈(T,as.map V.ref)::as.zip (G5 xs ys us),H3 q.1=Ae:=fun q hq=>by
       rcases Ay.mp hq with rfl|hq
       ·exact fT
       ·obtain⟨j,h1,h2⟩:=LH (a:=q.1) (b:=q.2) hq;exact fr _ (De h1)
      have sm:AE H3 (HY H3 ((T,as.map V.ref)::as.zip (G5 xs ys us))):=fun b o e=>by
       rw[QL fun q hq z=>by rw[<-z,fr' q hq]at e;cases e]
       exact e
      refine p3 _ _ sm ⟨T,as.map V.ref,rfl,.inl (hA3.new fT),SqT.of ?_,Py hA3 sm (fun j a r h1 h2=>?_) fr el ny nz rs1 rs2 rs3⟩
      ·unfold HY;rw[Uv]
      ·have na:a≠T:=fun e=>by subst e;exact hT (De h1)
       unfold HY;rw[Bz,nP na,RJ nd h1 h2]
     ·exact p3.elim
end
section
variable{X:Cx}{CL:ClA}{W:XW}{pos p tpos:AI}{a b c:Ao}{fa fb fc:Rho->R D}{x:Aj}
end
section
variable{X:Cx}{CL:ClA}{W:XW}{a:Ao}{fa:Rho->R D}
end
section
variable{X:Cx}{CL:ClA}{W:XW}{o o' e:Ao}{fe:Rho->R D}{i j:Af}{apos cpos apos' cpos' pos:AI}
end
section
variable{X:Cx}{CL:ClA}{W:XW}
end
section
variable{X:Cx}
variable{CL:ClA}{W:XW}{pos p pos' p':AI}{a b:Ao}{fa fb:Rho->R D}
end
section
variable{X:Cx}{CL:ClA}{W:XW}{e o o' k l:Ao}{fe:Rho->R Ov.D}{i ik il:Af}{pos spos spos' tpos:AI}{kt:Af}
end
section
variable{prog:AK}{w:AY}{A:AV}{E:Vq}{s:Aq}
theorem Qh{it t:Ak}{items:AX Ai}(hne:t≠it):∀(n i:Af)(s:Aq)(Q:Ad Ai->Aq->Prop),s.heap.IsListIter it t i->s.heap.IsList t items->i+n<=items.size->(∀ h',h'.IsListIter it t (i+n)->DZ it s.heap h'->Q ((items.toList.drop i).take n) {s with heap:=h'})->At (model prog w) A (draw (.ref it) n) Q E s
 |0,i,s,Q,hit,_,_,hQ=>by
  show At _ _ (pure []) Q E s;exact As (by simpa using hQ s.heap hit (Ve ..))
 |n+1,i,s,Q,hit,ht,hle,hQ=>by
  have hlt:i<items.size:=by omega
  show At _ _ (DM (.ref it) >>= _) Q E s;refine Ah (VT hit ht (x:=items[i]) (by simp[hlt]) fun h₁ hit₁ hs₁=>?_)
  refine Ah (Bv (Qh hne n (i+1) _ _ hit₁ (ht.extBut hs₁.extBut hne) (by omega) fun h₂ hit₂ hs₂=>As ?_))
  have hd:items.toList.drop i=items[i]::items.toList.drop (i+1):=by simp[E2,hlt]
  have:=hQ h₂ (by rw[show i+(n+1)=i+1+n by omega];exact hit₂) (hs₁.trans hs₂)
  rw[hd,List.take_succ_cons]at this;exact this
theorem VW{t:Ak}{Q:Ad Ai->Aq->Prop}(hh:A.handled=Ae)(ht:s.heap.IsList t items)(hQ:∀ h',HN s.heap.objs.size s.heap h'->Q items.toList {s with heap:=h'}):At (model prog w) A (unpackItems (.ref t) items.size Ae) Q E s:=by
 have hlt:t≠s.heap.objs.size:=by obtain⟨o,ho,_⟩:=ht;exact A1 (AC ho)
 have htp:(s.heap.push { cls:=.type "list_iterator", data:=.fields #[.ref t,.int 0 0] }).IsList t items:=by
  obtain⟨o,ho,r⟩:=ht;exact⟨o,Ap _ ho,r⟩
 unfold unpackItems;refine Ah ?_
 ·unfold notIterableAtAll;refine Ah (HM ht.typeIs slot_list_iter.lookup ?_);refine As ?_;simp only[GP,HH];refine Ah (Bv (Fv ht ?_));refine Ah (Bv (Qh hlt items.size 0 _ _ ⟨_,AD _ rfl,rfl,rfl⟩ htp (by omega) fun h₁ hit₁ hs₁=>?_))
  have hall:List.take items.size (List.drop 0 items.toList)=items.toList:=by
   rw[List.drop_zero];exact List.take_of_length_le (by simp)
  rw[hall];rw[AM (by simp)]
  have ht₁:h₁.IsList t items:=htp.extBut hs₁.extBut hlt;refine Ah (Bv (VS hh hit₁ ht₁ (by simp) fun h₂ he₂=>?_))
  simp only[Option.isSome_none,GP,HH];refine As (hQ h₂ fun b o hb e=>he₂ b o hb (hs₁.extBut b o hb (Ap _ e)))
theorem VU{elts:Ad Ao}{x1}{t:Ak}{Q:Fw->Aq->Prop}(hh:A.handled=Ae)(ht:s.heap.IsList t items) (hn:(Cd elts env).length=items.size) (hstar:(Cd elts env).findIdx? (·.1)=Ae) (h:∀ h',HN s.heap.objs.size s.heap h'->At (model prog w) A (assignInOrder ((Cd elts env).map (·.2)) items.toList) Q E {s with heap:=h'}):At (model prog w) A (assign (.Tuple elts x1 pos) env (.ref t)) Q E s:=by
 rw[assign_Tuple];refine Ah (DI ?_);unfold unpack;rw[hn,hstar];exact Ah (Bv (VW hh ht h))
end
section
variable{X:Cx}{pos:AI}{CL:ClA}
def gSq(K:Fg)(n:Af)(t:TGs):TG:=fun v σ H Q=>KI K n t v σ H Q\/∃ a xs,v=.ref a/\SqL K H a xs/\xs.length=n/\t xs σ H Q
theorem kO{t:TGs}(hc:X.calm=Ab)(h:PGs X es t)(hn:(Cd es X.env).length=n)(hst:(Cd es X.env).findIdx? (·.1)=Ae):PG X (.Tuple es k pos) (gSq X.K n t):=by
 intro pI s σ H v u Q I r hw;rcases hw with hw|hw
 ·exact Ot hc h hn hst pI s σ H v u Q I r hw
 ·obtain⟨a,xs,e1,hq,hl,hw⟩:=hw;subst e1;cases r;obtain⟨its,rv,ht,hz⟩:=I.list hq;refine VU (I.ok.hd hc) ht.isList (by simp[hn,<-hl,rv.length]) hst fun h' hx=>?_
  have I1:Inv X pI σ H {s with heap:=h'}:=I.kept (t':=s.toks) fun b o e=>hx b o (A1 (AC e)) e
  exact h pI _ σ H xs _ Q I1 (by simpa using rv) hw
theorem lK(ts:Ad Af):GT K CL (IZ ts) (gSq K ts.length (ts.foldr (fun t u=>Hy (EX t) u) HF)):=fun Fz B ρ σ H v d ρ' Q x r e k=>by
 cases d with
 |lst ds=>
  obtain⟨a,xs,rfl,na,sq,rs⟩:=r;rw[Xr]at e;cases e2:EE ts ds ρ with
  |none=>rw[e2]at e;cases e
  |some ρ2=>
   rw[e2]at e;cases e;exact .inr ⟨a,xs,rfl,sq,by rw[rs.length];exact LQ _ _ _ _ e2,Om ts ds xs ρ _ σ Q x rs e2 k⟩
 |_=>exact .inl (Sb ts Fz B ρ σ H v _ ρ' Q x r e k)
end
section
variable{X:Cx}{CL:ClA}{W:XW}
end
end Ov
namespace Ov
open PySem PySem.W PyProof.Rows
variable{p:AX Af}{m:Af}
def Kr{α:Type}(lt:Af->Af->An)(n:Af):KasT α->(α->Prop)->Prop
 |.ret a,Q=>Q a
 |.ask i j k,Q=>i<n/\j<n/\Kr lt n (k (lt i j)) Q
theorem Kr.mono{α:Type}{lt:Af->Af->An}{n:Af}{Q Q':α->Prop}:∀{t:KasT α},Kr lt n t Q->(∀ a,Q a->Q' a)->Kr lt n t Q'
 |.ret _,h,k=>k _ h
 |.ask i j f,h,k=>⟨h.1,h.2.1,Kr.mono (t:=f (lt i j)) h.2.2 k⟩
theorem Kr.bind{α β:Type}{lt:Af->Af->An}{n:Af}{f:α->KasT β}{Q:β->Prop}:∀{t:KasT α},Kr lt n t (fun a=>Kr lt n (f a) Q)->Kr lt n (t.bind f) Q
 |.ret _,h=>h
 |.ask i j k,h=>⟨h.1,h.2.1,Kr.bind (t:=k (lt i j)) h.2.2⟩
structure Sto (lt:Af->Af->An) (n:Af):Prop where
 tr:∀ i j k,i<n->j<n->k<n->lt i j=Ab->lt j k=Ab->lt i k=Ab
 tot:∀ i j,i<n->j<n->i≠j->lt i j=Ac->lt j i=Ab
 asy:∀ i j,i<n->j<n->lt i j=Ab->lt j i=Ac
noncomputable def at0(p:AX Af)(x:Af):Af:=p.getD x 0
structure Pm (n:Af) (p:AX Af):Prop where
 sz:p.size=n
 lt:∀ x,x<n->at0 p x<n
 inj:∀ x y,x<n->y<n->at0 p x=at0 p y->x=y
section
variable{lt:Af->Af->An}{n:Af}
def Pf(lt:Af->Af->An)(p:AX Af)(m:Af):Prop:=∀ x y,x<y->y<m->lt (at0 p x) (at0 p y)=Ab
def Pi(lt:Af->Af->An)(p:AX Af)(m:Af):Prop:=∀ x y,x<y->y<m->lt (at0 p y) (at0 p x)=Ab
theorem Pf.succ(S:Sto lt n)(hp:Pm n p)(h1:1<=m)(hm:m<n)(h:Pf lt p m)(e:lt (at0 p (m-1)) (at0 p m)=Ab):Pf lt p (m+1):=fun x y hxy hy=>by
 by_cases hym:y<m
 ·exact h x y hxy hym
 ·have:y=m:=by omega
  subst this;by_cases hx:x=y-1
  ·rw[hx];exact e
  ·exact S.tr _ _ _ (hp.lt _ (by omega)) (hp.lt _ (by omega)) (hp.lt _ hm) (h x (y-1) (by omega) (by omega)) e
theorem Pi.succ(S:Sto lt n)(hp:Pm n p)(h1:1<=m)(hm:m<n)(h:Pi lt p m)(e:lt (at0 p m) (at0 p (m-1))=Ab):Pi lt p (m+1):=fun x y hxy hy=>by
 by_cases hym:y<m
 ·exact h x y hxy hym
 ·have:y=m:=by omega
  subst this;by_cases hx:x=y-1
  ·rw[hx];exact e
  ·exact S.tr _ _ _ (hp.lt _ hm) (hp.lt _ (by omega)) (hp.lt _ (by omega)) e (h x (y-1) (by omega) (by omega))
end
section
variable{prog:AK}{w:AY}{A:AV}{E:Vq}{κ:SortKind}{it:AX Keyed}
end
section
variable{lt:Af->Af->An}{n:Af}
end
def N8(h:AB)(v:Ai)(r:Ad Ag):Prop:=∃ a its,v=.ref a/\Jk h a its/\H9 its.toList r/\r≠[]
theorem N8.kept{h h':AB}{v:Ai}{r:Ad Ag}(t:N8 h v r)(k:∀ b o,h.get? b=Aa o->h'.get? b=Aa o):N8 h' v r:=by
 obtain⟨a,its,e,⟨o,ho,q⟩,i,n⟩:=t;exact⟨a,its,e,⟨o,k _ _ ho,q⟩,i,n⟩
section
variable{prog:AK}{w:AY}{A:AV}{E:Vq}{s:Aq}
end
end Ov
namespace Ov
open PySem PySem.Spec PyProof.Rows L2
variable{h h':AB}{P:AK}{w:AY}{H H':Hp}{a T' C C' OV:Ak}{oe:Cz}{vs:AX Ai}{Q:Fw->Aq->Prop}{a0 oc:Ai}{X:Cx}{pI:Pn}{σ σ0:L2.St}{K:Fg}{m:Aj->Am Ai}{x n g name qual z x0 x1:Aj}{v:Am Ai}{M:GO}{tk:CT}{fill expr fr:An}{φ:AB->Prop}{CL:ClA}{Fz:Ak->HO->Prop}{B A:Ak->Prop}{W:XW}{hs body:Ad A4}{h0:A4}{p1 hp pos p pos' np cpos:AI}{fh:Rho->O}{dx an od:Am Ak}{y:Ex}{up:Af->Ad Af}{CX:CXT}{k c kk l:Af}{fd:BS}{ps:Ad Aj}{sp:Sp}{F:Ad D->R D}{fs:Rho->R (Ad D)}{Xw:Vq}{xn:Af->Ad D->R Ex}{d:D}{scope:Cm}{osl:AX (Am Ai)}{α:Type}{xs ys:Ad Ao}{env:Ch}{ts:Ad Af}{as:Es}
section
variable{X:Cx}{CL:ClA}{W:XW}
end
section
variable{X:Cx}
variable{CL:ClA}{W:XW}{pos p pos' p':AI}{a:Ao}{fa:Rho->R D}
end
section
end
section
variable{X:Cx}
variable{CL:ClA}{W:XW}{o e:Ao}{fe:Rho->R D}{i:Af}{apos cpos pos:AI}
end
section
open PySem.AutoSeq1 (wpAny_loadPart')
end
section
variable{prog:AK}{w:AY}{A:AV}{R:IJ->Aq->Prop}{I S T:Ak}{u v:Ai}{c:Af}{P:Af->Ai->Prop}{St:Af->AB->Prop}{s:Aq}{r q:Ad Ag}
end
section
variable{X:Cx}{CL:ClA}{W:XW}
end
def MO(e T:Ak)(cls:Ai)(dx:Am Ak)(fl:Ai)(h:AB):Prop:=∃ oe vs oT ts a0,h.get? e=Aa oe/\oe.cls=cls/\oe.dict=dx/\vs[0]?=Aa a0/\oe.data=.fields vs/\vs[1]?=Aa (.ref T)/\T≠e/\h.get? T=Aa oT/\oT.data=.fields ts/\ts[3]?=Aa fl
noncomputable abbrev Fly(e T:Ak)(cls:Ai)(dx:Am Ak)(h:AB):Prop:=MO e T cls dx CQ h
noncomputable def FW(C:Ak)(dx:Am Ak)(t:Ak):Cz:={cls:=.ref C,dict:=dx,data:=.fields #[.ref t,.none,.none,.none,.bool Ac,.none]}
structure Shift (ex fs:Ad Ak) (h h':AB):Prop where
 keep:∀ b o,h.get? b=Aa o->b∉ex->b∉fs->h'.get? b=Aa o
 slot:∀ b o,h.get? b=Aa o->b∈fs->∃ sl,h'.get? b=Aa {o with slots:=sl}
theorem Shift.trans{ex fs:Ad Ak}{h1 h2:AB}(a:Shift ex fs h h1)(b:Shift ex fs h1 h2):Shift ex fs h h2:=
 ⟨fun c o q n m=>b.keep c o (a.keep c o q n m) n m,fun c o q m=>by
  obtain⟨sl,e1⟩:=a.slot c o q m;obtain⟨sl',e2⟩:=b.slot c _ e1 m;exact⟨sl',e2⟩⟩
theorem ObjOk.isThere:∀(o:HO),L2.ObjOk P w H h a o->∃ ob,h.get? a=Aa ob
 |.lst _,x=>by obtain⟨_,_,_,_,e⟩:=x;exact⟨_,e⟩
 |.tup _,x=>by obtain⟨_,_,_,p⟩:=x;obtain⟨o,e,_⟩:=p;exact⟨_,e⟩
 |.dK _,x=>by obtain⟨_,_,_,_,o,_,_,e,_⟩:=x;exact⟨_,e⟩
 |.dT _,x=>by obtain⟨_,_,_,_,o,_,_,e,_⟩:=x;exact⟨_,e⟩
 |.set _ _,x=>by obtain⟨o,_,_,_,e,_⟩:=x;exact⟨_,e⟩
 |.ins _ _ _,x=>by obtain⟨_,_,_,e,_⟩:=x;exact⟨_,e⟩
 |.own _,x=>x
 |.xd _,x=>by obtain⟨_,⟨_,_,_,e,_⟩,_⟩:=x;exact⟨_,e⟩
 |.met _ _,x=>⟨_,x⟩
 |.rng _ _,x=>by obtain⟨_,_,_,e⟩:=x;exact⟨_,e⟩
 |.frz _ _,x=>⟨_,x.1⟩
 |.tbl _,x=>⟨_,x⟩
 |.ext _,x=>x.2.1
theorem Kk(x:HOk P w H h)(e:h.get? a=Ae):H a=Ae:=by
 cases q:H a with
 |none=>rfl
 |some o=>
  obtain⟨ob,z⟩:=ObjOk.isThere o (x a o q);rw[e]at z;cases z
theorem HOk.shift{ex fs:Ad Ak}(x:HOk P w H h)(sh:Shift ex fs h h')(h1:∀ b∈ex,H b=Ae)(h2:∀ b∈fs,H b=Ae):HOk P w H h':=fun a o e=>
 (x a o e).stay (fun b u hb q=>by
  have hs:∃ v,H b=Aa v:=by
   rcases hb with rfl|hb
   ·exact⟨_,e⟩
   ·exact⟨_,hb⟩
  obtain⟨v,hv⟩:=hs;exact sh.keep b u q (fun z=>by rw[h1 b z]at hv;cases hv) (fun z=>by rw[h2 b z]at hv;cases hv)) (fun _ q=>q) fun _ _ q=>q
theorem Un.shift{fs0 fs ex:Ad Ak}{h0:AB}(u:Un fs0 [] H H' h0 h)(sh:Shift ex fs h h')(h1:∀ b∈ex,h0.get? b=Ae)(h2:∀ b∈fs,b∈fs0\/h0.get? b=Ae):Un fs0 [] H H' h0 h' where
 keep:=fun b o q n hb hx=>sh.keep b o (u.keep b o q n hb hx) (fun z=>by rw[h1 b z]at q;cases q) fun z=>(h2 b z).elim hb fun e=>by rw[e]at q;cases q
 slot:=fun b o q n hb hx=>by
  obtain⟨sl,e1⟩:=u.slot b o q n hb hx;by_cases hf:b∈fs
  ·obtain⟨sl',e2⟩:=sh.slot b _ e1 hf;exact⟨sl',e2⟩
  ·exact⟨sl,sh.keep b _ e1 (fun z=>by rw[h1 b z]at q;cases q) hf⟩
 free:=u.free
 there:=fun b o q hx=>by
  obtain⟨o',e1⟩:=u.there b o q hx;by_cases hf:b∈fs
  ·obtain⟨sl',e2⟩:=sh.slot b _ e1 hf;exact⟨_,e2⟩
  ·exact⟨o',sh.keep b _ e1 (fun z=>by rw[h1 b z]at q;cases q) hf⟩
 tups:=u.tups
 frzs:=u.frzs
 tbls:=u.tbls
theorem ZS(f:AX Ai->AX Ai)(o:Cz):(FP f o).dict=o.dict:=by
 obtain⟨c,d,dt,sl⟩:=o;cases dt<;>rfl
section
variable{M:GO}{A:AV}{E:Vq}{s:Aq}{env:Ch}{outer:Ad Ch}{L e T:Ak}{cls:Ai}{dx:Am Ak}{base h:AB}
theorem P8{hd:Ai}{nx:An}(hfr:A.frames=Aa (env::outer))(hf:env.frame=Aa L)(ff:s.heap.FunFrames base (env::outer))(he:s.heap.get? e=Aa oe)(dt:oe.data=.fields vs)(hz:1<vs.size)(hQ:∀ h' T' oT ts,h'.get? e=Aa (FP (·.setIfInBounds 1 (.ref T')) oe)->T'≠e->s.heap.get? T'=Ae->h'.get? T'=Aa oT->oT.data=.fields ts->ts[3]?=Aa (B4 L)->Shift [e] (frs (env::outer)) s.heap h'->Q () {s with heap:=h'}):
  At M A (do
   let fr <-frameOf env
   let pl <-entryPlaceOf L nx
   let en <-UZ hd fr .none (B4 L) .none pl
   setField (.ref e) 1 en) Q E s:=by
 have nf:e∉frs (env::outer):=fun z=>by
  obtain⟨_,o,q,n⟩:=ff.mem z;rw[he]at q;cases q;exact n vs dt
 refine Ah (wpAny_frameOf_fun hfr ff hf fun k1 so=>Ah (wpAny_entryPlaceOf fun pl ip=>?_))
 obtain⟨sz,sm,sl⟩:=so;have e1:k1.get? e=Aa oe:=(sm e nf).trans he;unfold UZ;unfold newFields;refine Ah (Cn ?_ (ip.sizeOk5 _ _ _ _ _));generalize hX:({ cls:=.type "traceback", dict:=Ae,data:=.fields ([hd,.ref L,.none,B4 L,.none]++(if pl.isEmpty then GA 6 CQ else pl)).toArray }:Cz)=ob
 have od:ob.data=.fields ([hd,.ref L,.none,B4 L,.none]++(if pl.isEmpty then GA 6 CQ else pl)).toArray:=by rw[<-hX]
 have nl:k1.objs.size≠e:=CZ (AC e1);have e2:=Ap ob e1;refine Fp e2 dt hz ?_;have up:∀ b,b≠e->((k1.push ob).update e (FP (·.setIfInBounds 1 (.ref k1.objs.size)))).get? b=(k1.push ob).get? b:=fun b nb=>BE _ _ (Ct nb)
 have lf:ob.isFreed=Ac:=by rw[<-hX];rfl
 refine hQ _ k1.objs.size ob _ (Bw _ e2 (Ew (Da dt _))) nl ?_ ((up _ nl).trans (AD k1 lf)) od ?_ ⟨fun b o q n1 n2=>?_,fun b o q hb=>?_⟩
 ·rw[sz];exact Dg (AU _)
 ·simp
 ·have nb:b≠e:=fun z=>n1 (by rw[z];exact AL)
  rw[up b nb];exact Ap ob ((sm b n2).trans q)
 ·obtain⟨sl',q'⟩:=sl b o q;have nb:b≠e:=fun z=>nf (z ▸ hb)
  exact⟨sl',(up b nb).trans (Ap ob q')⟩
theorem Qg{oT:Cz}{ts:AX Ai}{fl:Ai}(hc:oe.cls=cls)(hx:oe.dict=dx)(h0:vs[0]?=Aa a0)(dt:oe.data=.fields vs)(hz:1<vs.size)(g:h'.get? e=Aa (FP (·.setIfInBounds 1 (.ref T')) oe))(ne:T'≠e)(gT:h'.get? T'=Aa oT)(dT:oT.data=.fields ts)(f3:ts[3]?=Aa fl):MO e T' cls dx fl h':=
 ⟨_,_,oT,ts,a0,g,(Vi _ _).trans hc,(ZS _ _).trans hx,by rw[Array.getElem?_setIfInBounds_ne (by decide)];exact h0,Da dt _,by simp[hz],ne,gT,dT,f3⟩
theorem J5{i:Af}{v:Ai}(q:vs[i]?=Aa v):i<vs.size:=(EL.mp q).1
theorem Qz(hfr:A.frames=Aa (env::outer))(hf:env.frame=Aa L)(ff:s.heap.FunFrames base (env::outer))(fl:Fly e T cls dx s.heap)(hQ:∀ h' T',MO e T' cls dx (B4 L) h'->Shift [e,T] (frs (env::outer)) s.heap h'->s.heap.get? T'=Ae->Q () {s with heap:=h'}):At M A (GW (.ref e) env) Q E s:=by
 obtain⟨oe,vs,oT,ts,a0,he,hc,hx,h0,dt,h1,ne,hT,dT,h3⟩:=fl;have z3:=J5 h3;unfold GW;simp only[hf];refine Ah (A2 he dt h1 ?_);rw[AF (by simp:(Bo T != CQ)=Ab)]
 refine Ah (A2 hT dT h3 ?_);rw[AM (by simp[B4]:¬ (CQ==B4 L)=Ab)]
 refine Ah (Fp hT dT z3 ?_);have up:∀ b,b≠T->(s.heap.update T (FP (·.setIfInBounds 3 CQ))).get? b=s.heap.get? b:=fun b nb=>BE _ _ (Ct nb)
 have rcd:∀ b o,s.heap.get? b=Aa o->(∀ us,o.data≠.fields us)->b≠T:=fun b o q n z=>by
  rw[z,hT]at q;cases q;exact n ts dT
 refine P8 (base:=base) hfr hf (ff.of_keeps fun b o q n=>⟨o,(up b (rcd b o q n)).trans q,rfl⟩) ((up e (Ct ne)).trans he) dt (J5 h1) fun h' T' oT' ts' g nT gn gT dT' f3 sh=>?_
 have T0:s.heap.get? T'=Ae:=by
  by_cases z:T'=T
  ·rw[z]at gn;rw[Bw _ hT (Ew (Da dT _))]at gn;cases gn
  ·rw[<-up T' z];exact gn
 refine hQ h' T' (Qg hc hx h0 dt (J5 h1) g nT gT dT' f3) ⟨fun b o q n1 n2=>?_,fun b o q hb=>?_⟩ T0
 ·simp only[Ay,AN,BP,DN]at n1;exact sh.keep b o ((up b n1.2).trans q) (by simp[n1.1]) n2
 ·obtain⟨_,o',q',n⟩:=ff.mem hb;rw[q]at q';cases q';exact sh.slot b o ((up b (rcd b o q n)).trans q) hb
theorem Me{fv:Ai}(fl:MO e T cls dx fv s.heap)(hQ:∀ h',Fly e T cls dx h'->(∀ b o,b≠T->s.heap.get? b=Aa o->h'.get? b=Aa o)->Q () {s with heap:=h'}):At M A (HL (.ref e) Ae) Q E s:=by
 obtain⟨oe,vs,oT,ts,a0,he,hc,hx,h0,dt,h1,ne,hT,dT,h3⟩:=fl;have z3:=J5 h3;unfold HL;refine Ah (A2 he dt h1 ?_);rw[AF (by simp:(Bo T != CQ)=Ab)]
 refine Fp hT dT z3 (hQ _ ?_ fun b o nb q=>(BE _ _ (Ct nb)).trans q)
 exact⟨oe,vs,_,_,a0,(BE _ _ ne).trans he,hc,hx,h0,dt,h1,ne,Bw _ hT (Ew (Da dT _)),Da dT _,by simp[z3]⟩
theorem NJ{h1 h2:AB}{ex:Ad Ak}(ff:s.heap.FunFrames base (env::outer))(sh:Shift ex (frs (env::outer)) s.heap h1)(hT:s.heap.get? T'=Ae)(k:∀ b o,b≠T'->h1.get? b=Aa o->h2.get? b=Aa o):Shift ex (frs (env::outer)) s.heap h2:=
 ⟨fun b o q n1 n2=>k b o (fun z=>by rw[z,hT]at q;cases q) (sh.keep b o q n1 n2),fun b o q hb=>let ⟨sl,q'⟩:=sh.slot b o q hb;⟨sl,k b _ (fun z=>by rw[z,hT]at q;cases q) q'⟩⟩
theorem WI(hfr:A.frames=Aa (env::outer))(hf:env.frame=Aa L)(ff:s.heap.FunFrames base (env::outer))(fl:Fly e T cls dx s.heap)(hQ:∀ h' T',Fly e T' cls dx h'->Shift [e,T] (frs (env::outer)) s.heap h'->(T'=T\/s.heap.get? T'=Ae)->Q () {s with heap:=h'}):At M A (leaving env (.ref e)) Q E s:=by
 unfold leaving;exact Ah (Qz hfr hf ff fl fun h1 T' f1 sh hT=>Me f1 fun h2 f2 k=>hQ h2 T' f2 (NJ ff sh hT k) (.inr hT))
theorem Ww(hfr:A.frames=Aa (env::outer))(hf:env.frame=Aa L)(ff:s.heap.FunFrames base (env::outer))(he:s.heap.get? e=Aa oe)(hc:oe.cls=cls)(hx:oe.dict=dx)(dt:oe.data=.fields vs)(h0:vs[0]?=Aa a0)(h1:vs[1]?=Aa .none)(hQ:∀ h' T',Fly e T' cls dx h'->Shift [e] (frs (env::outer)) s.heap h'->s.heap.get? T'=Ae->Q () {s with heap:=h'}):At M A (leaving env (.ref e)) Q E s:=by
 unfold leaving GW;simp only[hf];refine Ah (Ah (A2 he dt h1 ?_));rw[AM (by decide)]
 exact P8 (base:=base) hfr hf ff he dt (J5 h1) fun h' T' oT ts g nT gn gT dT f3 sh=>Me (Qg hc hx h0 dt (J5 h1) g nT gT dT f3) fun h2 f2 k=>hQ h2 T' f2 (NJ ff sh gn k) gn
theorem XZ(hfr:A.frames=Aa (env::outer))(hf:env.frame=Aa L)(ff:s.heap.FunFrames base (env::outer))(fl:Fly e T cls dx s.heap)(hQ:∀ h' T',Fly e T' cls dx h'->Shift [e,T] (frs (env::outer)) s.heap h'->(T'=T\/s.heap.get? T'=Ae)->Q () {s with heap:=h'}):At M A (GW (.ref e) env) (fun _ s2=>At M A (HL (.ref e) Ae) Q E s2) E s:=
 Qz hfr hf ff fl fun h1 T' f1 sh hT=>Me f1 fun h2 f2 k=>hQ h2 T' f2 (NJ ff sh hT k) (.inr hT)
theorem WJ{l:Ad Ch}{A':AV}(ff:s.heap.FunFrames base l)(fl:Fly e T cls dx s.heap)(hQ:∀ h' T',Fly e T' cls dx h'->Shift [e,T] (frs l) s.heap h'->(T'=T\/s.heap.get? T'=Ae)->Q () {s with heap:=h'}):At M A' (HL (.ref e) Ae) Q E s:=by
 obtain⟨oe,vs,oT,ts,a0,he,hc,hx,h0,dt,h1,ne,hT,dT,h3⟩:=id fl;refine Me fl fun h' f' k=>hQ h' T f' ⟨fun b o q n1 n2=>k b o (fun z=>n1 (by rw[z];simp)) q,fun b o q hb=>⟨o.slots,k b o (fun z=>?_) q⟩⟩ (.inl rfl)
 obtain⟨_,o',q',n⟩:=ff.mem hb;rw[z,hT]at q';cases q';exact n ts dT
end
def CXR(P:AK)(w:AY):CXT:=fun outer H s E ev s'=>∃ e T cls dx H',ev=.ref e/\s'.os=s.os/\Fn s'.gens/\Un (frs outer) [] H H' s.heap s'.heap/\HOk P w H' s'.heap/\Fly e T cls dx s'.heap/\H' e=Ae/\H' T=Ae/\s.heap.get? e=Ae/\s.heap.get? T=Ae/\E cls dx H'
def LA(X:Cx)(CL:ClA)(W:XW):Prop:=∀ pI σ H s e C dx t x,Inv X pI σ H s->(X.ex=[]->X.s₀.heap.get? e=Ae)->H e=Ae->s.heap.get? e=Aa (FW C dx t)->FV X.K CL H (.ref C) dx x->W x H->X.xe (.ref e) s
section
variable{P:AK}{w:AY}{K:Fg}{mg:Aj->Am Ai}{base:AB}{N:Ad Aj}{qual:Aj}{scope:Cm}{f:Ak}{cd:Ai}{A:AV}{outer:Ad Ch}{s:Aq}{H:Hp}{E:XK}{CL:ClA}{W:XW}
theorem NW{s:Aq}(I:Inv X pI σ H s):∀ b∈frs X.stack,b∈X.fs\/X.s₀.heap.get? b=Ae:=fun b hb=>by
 rcases Ay.mp (I.stkSub b hb) with z|z
 ·exact .inr (by rw[z];exact Dg I.ok.above)
 ·exact .inl z
theorem Jv{s:Aq}{b:Ak}(I:Inv X pI σ H s)(hx:X.ex=[])(h:s.heap.get? b=Ae):X.s₀.heap.get? b=Ae:=by
 cases q:X.s₀.heap.get? b with
 |none=>rfl
 |some o=>
  obtain⟨o',z⟩:=I.base.there b o q (by rw[hx];simp)
  rw[h]at z;cases z
theorem jB(hE:∀ x cls dx H',W x H'->FV K CL H' cls dx x->E cls dx H'):∀ A',Ku (CXR P w) (EB (CXR P w) P w K mg base N qual scope f cd A outer s H E) (EKW K CL A' W):=by
 intro A' pI σ H1 s1 ev s2 I h;obtain⟨e,T,cls,dx,H',rfl,os,bare,un,hok,fl,he,hT,ne,nT,x,xr,wx⟩:=h;have I':=I.call' (s':=s2) (ch:=[]) os un hok bare (fun b z=>absurd z (by simp))
 have hb0:Un (frs outer) [] H H' s.heap s2.heap:=I'.base;show At (model P w) (A.deeper (Eu qual scope s.heap.objs.size f cd)) (leaving (Eu qual scope s.heap.objs.size f cd) (.ref e)) _ _ s2;refine WI (L:=s.heap.objs.size) I'.ok.frames rfl I'.stack fl fun h' T' fl' sh hT'=>?_
 have e0:s.heap.get? e=Ae:=Jv I rfl ne;have T0:s.heap.get? T=Ae:=Jv I rfl nT;refine⟨e,T',cls,dx,H',rfl,I'.os,bare,Un.shift hb0 sh ?_ (NW I'),HOk.shift hok sh ?_ I'.stkFree,fl',he,?_,e0,?_,?_⟩
 ·intro b hb;rcases Ay.mp hb with rfl|hb
  ·exact e0
  ·rw[Bu.mp hb];exact T0
 ·intro b hb;rcases Ay.mp hb with rfl|hb
  ·exact he
  ·rw[Bu.mp hb];exact hT
 ·rcases hT' with rfl|z
  ·exact hT
  ·exact Kk hok z
 ·rcases hT' with rfl|z
  ·exact T0
  ·exact Jv I' rfl z
 ·exact hE x cls dx H' wx xr
theorem rzR(hE:∀ x cls dx H',W x H'->FV K CL H' cls dx x->E cls dx H'):LA (EB (CXR P w) P w K mg base N qual scope f cd A outer s H E) CL W:=by
 intro pI σ H1 s1 e C dx t x I e0 he ge xr hw;have hb0:Un (frs outer) [] H H1 s.heap s1.heap:=I.base;have e0':s.heap.get? e=Ae:=e0 rfl;show At (model P w) (A.deeper (Eu qual scope s.heap.objs.size f cd)) (leaving (Eu qual scope s.heap.objs.size f cd) (.ref e)) _ _ s1;refine Ww (cls:=.ref C) (dx:=dx) (L:=s.heap.objs.size) I.ok.frames rfl I.stack ge rfl rfl rfl (a0:=.ref t) rfl rfl fun h' T' fl' sh hT'=>?_
 have one:∀{Z:Ak->Prop},Z e->∀ b∈[e],Z b:=fun {Z} z b hb=>by rw[Bu.mp hb];exact z
 exact⟨e,T',.ref C,dx,H1,rfl,I.os,I.bare,Un.shift hb0 sh (one e0') (NW I),HOk.shift I.hok sh (one (Z:=fun b=>H1 b=Ae) he) I.stkFree,fl',he,Kk I.hok hT',e0',Jv I rfl hT',hE x _ dx H1 hw xr⟩
theorem ownR:Fd (model P w) (EB (CXR P w) P w K mg base N qual scope f cd A outer s H E).A (EB (CXR P w) P w K mg base N qual scope f cd A outer s H E).env (EB (CXR P w) P w K mg base N qual scope f cd A outer s H E).xe:=Vk
end
noncomputable def veB:Ad Ai:=[.type "ValueError", .type "Exception", .type "BaseException", .type "object"]
noncomputable def DS(K:Fg)(C:Ak)(v:Am Ai):An:=match K.lookup C with
  | some ⟨.type "type", _,.cls c,z⟩=>(match c.mro,z.toList with
    |.ref c0::tl,[_,_,_,_,Aa (.builtin nw),_]=>c0==C&&(nw == "ValueError.__new__" && (!c.hasDel&&(PySem.W.tailIn K veB tl&&(VA K c.ns&&Bi K c.ns "__init__" == Aa v))))
    | _,_=>Ac)
  |_=>Ac
theorem L6(q:EQ K C veB "ValueError.__new__" = Ab):DS K C Ae=Ab:=by
 unfold EQ at q;unfold DS;split at q
 ·rename_i dd cd sl ho;split at q
  ·rename_i C' bm k0 k1 k2 k3 n k5 hm hs;simp only[Al]at q;obtain⟨⟨⟨⟨⟨h1,h2⟩,h3⟩,h4⟩,h5⟩,h6⟩:=q;simp only[ho,hm,hs,Al];exact⟨h1,h2,h3,h4,h5,h6⟩
  ·cases q
 ·cases q
structure XcOk (K:Fg) (C:Ak):Prop where
 exc:∃ v,DS K C v=Ab
 ga:Av K (.ref C) "__getattribute__" = Aa (Aa (.builtin "BaseException.__getattribute__"))
 gt:Av K (.ref C) "__getattr__" = Aa Ae
 cl:Av K (.ref C) "__class__" = Aa (Aa (.builtin "object.__class__"))
 ob:BO K C (.type "object")=Aa Ab
 be:Az K (.ref C) (.type "BaseException")=Aa Ab
 cs:(Dm K C).isSome=Ab
 ve:Db K (.ref C) (.type "ValueError")=Aa Ab
def XAt(e C:Ak)(h:AB):Prop:=∃ o,h.get? e=Aa o/\o.cls=.ref C
theorem fC{N:Ak}{v:Ai}(X:K.In h)(G:h.Ns N m)(q:Bi K N x=Aa (Aa v)):m x=Aa v:=by
 obtain⟨ob,es,ep,g,dt,_,fd⟩:=G;unfold Bi at q;split at q
 ·rename_i es' n' sl lk;have g':=X _ _ lk;rw[g]at g';cases g';cases dt;split at q
  ·rename_i hf;cases q;rw[<-fd];unfold nsFind findBy;rw[<-Array.find?_toList,hf];rfl
  ·by_cases z:(es.toList.any fun y=>y.refKey)=Ab
   ·rw[AF z]at q;cases q
   ·rw[AM z]at q;cases q
 ·cases q
theorem NR{h0:AB}(X0:K.In h0)(q:DS K C v=Ab):
  ∃ bm N nm qn bs hd sn sub ab col dd k0 k1 k2 k3 k5 mN,(∀ h:AB,K.In h->h.get? C=Aa (Ci nm qn C N bs bm hd sn sub ab col dd k0 k1 k2 k3 k5 "ValueError.__new__")/\h.Ns N mN/\DT h veB bm)/\mN "__init__" = v/\bm.contains (.type "BaseException")=Ab:=by
 unfold DS at q;split at q
 ·rename_i dd cd sl ho;split at q
  ·rename_i C' bm k0 k1 k2 k3 n k5 hm hs;simp only[Al,AQ,Bk]at q;obtain⟨rfl,rfl,hdel,ht,hok,hni⟩:=q;obtain⟨nm,bs,mro,ns,qn,hd,sn,sub,ab,col,del⟩:=cd;dsimp only at hm hdel hok hni;subst hm hdel;have hsl:sl=#[k0,k1,k2,k3,Aa (.builtin "ValueError.__new__"),k5]:=by
    obtain⟨l⟩:=sl;simp only at hs;rw[hs]
   subst hsl;have kN:∃ o,K.lookup ns=Aa o:=by
    unfold VA at hok;split at hok
    ·rename_i z;exact⟨_,z⟩
    ·cases hok
   obtain⟨oN,hoN⟩:=kN;have nsAt:∀ h:AB,K.In h->h.Ns ns (h0.nsMap ns):=fun h X=>by
    obtain⟨o,es,ep,e1,r⟩:=Heap.Ns.of_isNs (Vw X0 hok);have e2:=X0 _ _ hoN;rw[e1]at e2;cases e2;exact⟨_,es,ep,X _ _ hoN,r⟩
   refine⟨bm,ns,nm,qn,bs,hd,sn,sub,ab,col,dd,k0,k1,k2,k3,k5,h0.nsMap ns,fun h X=>⟨X _ _ ho,nsAt h X,VB X ht⟩,?_,(VB X0 ht).hasType (by decide)⟩
   cases v with
   |none=>exact PySem.W.nsMap_none_of_in X0 hok hni
   |some u=>exact fC X0 (.of_isNs (Vw X0 hok)) hni
  ·cases q
 ·cases q
theorem aS(X:K.In h)(q:DS K C v=Ab):
  ∃ bm N nm qn bs hd sn sub ab col dd k0 k1 k2 k3 k5 mN,h.get? C=Aa (Ci nm qn C N bs bm hd sn sub ab col dd k0 k1 k2 k3 k5 "ValueError.__new__")/\h.Ns N mN/\mN "__init__" = v/\DT h veB bm:=by
 obtain⟨bm,N,nm,qn,bs,hd,sn,sub,ab,col,dd,k0,k1,k2,k3,k5,mN,ho,hi,_⟩:=NR X q;obtain⟨o1,o2,o3⟩:=ho h X;exact⟨bm,N,nm,qn,bs,hd,sn,sub,ab,col,dd,k0,k1,k2,k3,k5,mN,o1,o2,hi,o3⟩
section
variable{prog:AK}{w:AY}{A:AV}{E:Vq}{h:AB}{g:AX Fc}{d:HI}{t:Af}{os:He}{K:Fg}{e C:Ak}
theorem IY(p:XAt e C h):PySem.W.Looks M h (typeOf (.ref e)) (.ref C):=by
 obtain⟨o,h1,h2⟩:=p;exact h2 ▸ (PySem.W.Looks.ld h1).andThen .now
theorem XF{R:IJ->Aq->Prop}{tp:Ai}(X:K.In h)(p:XAt e C h)(hm:BO K C (.type "object")=Aa Ab)(hq:R (.ok (.ret (.ref C))) ⟨h,g,d,t,os⟩):
  Ez (model prog w) A (.call (.builtin "getset_descriptor.__get__") ⟨[.builtin "object.__class__", .ref e,tp],[]⟩) R ⟨h,g,d,t,os⟩:=by
 have L0:=IY (M:=model prog w) p;have L1:=PySem.W.looks_mroIn (M:=model prog w) X hm;refine DQ PySem.W.KF.slot_gs.plain PySem.W.KF.entry_gs (PySem.W.KF.slot_gs.check _ _ _ _ _ _ _ _ PySem.W.KF.type_class (PySem.W.KF.args_gs _ _ _) ?_);unfold Builtin.«getset_descriptor.__get__» Builtin.Getset_descriptor.descrGet;rw[PySem.W.dga_obj];refine Ah (As ?_);unfold Builtin.Getset_descriptor.descrGetter Builtin.Getset_descriptor.descrCheckInstance Builtin.Getset_descriptor.descrNameAndClass Hc;simp only[PySem.W.KF.owner_class]
 repeat lk
 refine⟨GS _ (by decide +kernel),Ei PySem.W.KF.entry_class ?_⟩
 unfold Builtin.«object.__class__» shownTypeOf
 repeat lk
 exact hq
theorem Wn{Q:Fin->Aq->Prop}(X:K.In h)(x:XcOk K C)(p:XAt e C h)(hq:Q (.done (.ret (.ref C))) ⟨h,g,d,t,os⟩):
  At (model prog w) A (Builtin.«object.__getattribute__» ⟨[.ref e,.str "__class__" tk],[]⟩) Q E ⟨h,g,d,t,os⟩:=by
 have L0:=IY (M:=model prog w) p;have L1:=Cu (M:=model prog w) X x.cl;have hT5:(⟨h,g,d,t,os⟩:Aq).TypeIs (.builtin "object.__class__") "getset_descriptor" := Vd;have f5:=Vd;have f6:=F.slot_gs_get.lookup;have f7:=F.slot_gs_set.lookup
 repeat (any_goals (first|assumption|with_reducible refine L0.at ?_|with_reducible refine L1.at ?_|wp_step))
 refine XF X p x.ob ?_
 repeat (any_goals (first|assumption|wp_step))
theorem Pz{nameV:Ai}(X:K.In h)(x:XcOk K C)(p:XAt e C h)(hq:Q () ⟨h,g,d,t,os⟩):At M A (D4 "BaseException.__getattribute__" ⟨[.ref e,nameV],[]⟩) Q E ⟨h,g,d,t,os⟩:=by
 have hk:builtinKind "BaseException.__getattribute__" = Aa .slot:=by decide +kernel
 have hsplit:splitId "BaseException.__getattribute__" = Aa ("BaseException", "__getattribute__"):=by decide +kernel
 have L0:=IY (M:=M) p;have L1:=Vz (M:=M) X x.be;have ha:=F.args_bexc_ga (.ref e) nameV;simp only[D4,hk,hsplit];refine Ah ?_
 ·unfold Hc
  repeat (first|(with_reducible refine Ah (L0.at ?_))|(with_reducible refine L1.at ?_)|wp_step)
  exact hq
theorem Yv{Q:Vq}(X:K.In h)(x:XcOk K C)(p:XAt e C h)(hq:Q (.ref C) ⟨h,g,d,t,os⟩):At (model prog w) A (getAttrBy (.ref e) (.str "__class__" tk) fill expr) Q E ⟨h,g,d,t,os⟩:=by
 have L0:=IY (M:=model prog w) p;have L1:=Cu (M:=model prog w) X x.ga;have L2:=Cu (M:=model prog w) X x.gt;have f3:=Fu.ga.bind (.ref e);have hx0:(expr&&IS (C7 "BaseException.__getattribute__"))=Ac:=by cases expr<;>rfl
 have hx2:(C7 "BaseException.__getattribute__" == C7 "object.__getattribute__")=Ac:=by decide +kernel
 have hx1:(IS (Bo C)&&C7 "BaseException.__getattribute__" == C7 "object.__getattribute__")=Ac:=by rw[hx2];rfl
 repeat (any_goals (first|assumption|with_reducible refine L0.at ?_|with_reducible refine L1.at ?_|with_reducible refine L2.at ?_|wp_step))
 refine DQ Fu.ga.plain U4 (Pz X x p (Wn X x p ?_))
 repeat (any_goals (first|assumption|wp_step))
theorem Wj{Q:Am Ai->Aq->Prop}(X:K.In h)(x:XcOk K C)(p:XAt e C h)(hq:Q (Aa (.ref C)) ⟨h,g,d,t+1,os⟩):At (model prog w) A (getAttr? (.ref e) "__class__") Q E ⟨h,g,d,t,os⟩:=by
 unfold getAttr? getAttrBy?
 repeat (any_goals (first|assumption|with_reducible apply Yv X x p|wp_step))
end
theorem Qu{e C:Ak}(x:XcOk K C):PySem.W.KitX K (.ref e) (.ref C) (XAt e C) where
 ty:=fun M h _ p=>IY p
 it:=fun M h X _=>by
  obtain⟨cd,hc⟩:=DX.mp x.cs;unfold Dm at hc;split at hc
  ·rename_i c' d' cd' sl' ho;intro A' Q' E' s' k q;unfold isType loadHead;exact Ah (wpAny_loadPart (k _ _ (X _ _ ho)) (As q))
  ·cases hc
 ne:=fun h tp dd its n sl X htp=>by
  obtain⟨cd,hc⟩:=DX.mp x.cs;refine Bool.eq_false_iff.mpr fun q=>?_
  have e:C=tp:=IB (AQ.mp q);subst e;unfold Dm at hc;split at hc
  ·rename_i c' d' cd' sl' ho;have z:=(X _ _ ho).symm.trans htp;cases z
  ·cases hc
 ca:=fun {_ _ _ _ _ s} X p k=>by
  obtain⟨h,g,d,t,os⟩:=s;exact Wj X x p k
theorem XG{A:AV}{E:Vq}{g:AX Fc}{d:HI}{t:Af}{os:He}{e C C':Ak}{b:An}{Q:An->Aq->Prop}(X:K.In h)(p:XAt e C h)(x':XcOk K C')(hs:Az K (.ref C) (.ref C')=Aa b)(hq:Q b ⟨h,g,d,t,os⟩):At M A (excMatches (.ref e) (.ref C')) Q E ⟨h,g,d,t,os⟩:=by
 obtain⟨bm,N,nm,qn,bs,hd,sn,sub,ab,col,dd,k0,k1,k2,k3,k5,mN,hC',_,_,T⟩:=aS X x'.exc.choose_spec;have hcB:(Bo C'::bm).contains (.type "BaseException")=Ab:=by rw[GQ,T.hasType (show veB.contains (.type "BaseException")=Ab by decide),Hi]
 have L0:=IY (M:=M) p;have L1:=Vz (M:=M) X hs;have f:=tc_notTuple;unfold excMatches
 repeat (first|(with_reducible refine Ah (L0.at ?_))|(with_reducible refine L1.at ?_)|(with_reducible refine Ah (L1.at ?_))|with_reducible refine B7 hC' ?_|(with_reducible refine EV hC' ?_;rw[hcB])|wp_step)
 all_goals first|exact hq|(cases b<;>(wp_walk;exact hq))
def G7(X:Cx)(pI:Pn)(e:Ak):Prop:=e≠X.env.locals/\(∀ x c,X.env.cells.lookup x=Aa c->c≠e)/\(∀ p∈X.pn++pI,p.1≠e)/\X.s₀.heap.get? e=Ae
section
variable{X:Cx}{pI:Pn}{σ:L2.St}{H:Hp}{s:Aq}{e:Ak}
theorem K7(I:Inv X pI σ H s)(hx:X.ex=[])(h:s.heap.get? e=Ae):G7 X pI e:=by
 refine⟨?_,fun x c q z=>?_,fun p hp z=>?_,Jv I hx h⟩
 ·rintro rfl;obtain⟨m,⟨o,_,_,ho,_⟩,_⟩:=I.loc;rw[h]at ho;cases ho
 ·obtain⟨v,o,ho,_⟩:=I.cell x c q;rw[z,h]at ho;cases ho
 ·obtain⟨q,_⟩:=I.pin p hp;rw[z,h]at q;cases q
theorem Qb{ex:Ad Ak}(I:Inv X pI σ H s)(hx:X.ex=[])(sh:Shift ex (frs X.stack) s.heap h')(ha:∀ b∈ex,G7 X pI b)(hH:∀ b∈ex,H b=Ae):Inv X pI σ H {s with heap:=h'}:=by
 have kp:∀ b o,s.heap.get? b=Aa o->b∉ex->∃ sl,h'.get? b=Aa {o with slots:=sl}:=fun b o q n=>by
  by_cases hb:b∈frs X.stack
  ·exact sh.slot b o q hb
  ·exact⟨o.slots,sh.keep b o q n hb⟩
 have cellK:∀ x c,X.env.cells.lookup x=Aa c->∀ v,s.heap.IsCell c v->h'.IsCell c v:=fun x c q v ⟨o,ho,hd⟩=>by
  obtain⟨sl,z⟩:=kp c o ho fun z=>(ha c z).2.1 x c q rfl
  exact⟨_,z,hd⟩
 refine⟨I.ok,I.os,I.bare,?_,?_,fun x c q=>?_,I.free,I.freeC,fun p hp=>?_,HOk.shift I.hok sh hH I.stkFree,I.len⟩
 ·have b0:=I.base;rw[hx]at b0 ⊢;exact Un.shift b0 sh (fun b hb=>(ha b hb).2.2.2) (NW I)
 ·obtain⟨m,⟨o,es,ep,ho,r⟩,hl⟩:=I.loc;obtain⟨sl,z⟩:=kp _ o ho fun z=>(ha _ z).1 rfl
  refine⟨m,⟨_,es,ep,z,r⟩,fun i x v e1 e2 e3=>?_⟩
  obtain⟨u,ru,l⟩:=hl i x v e1 e2 e3;refine⟨u,ru,?_⟩;rcases l with l|⟨k,c,q,z⟩
  ·exact .inl l
  ·exact .inr ⟨k,c,q,cellK x c q _ z⟩
 ·obtain⟨v,z⟩:=I.cell x c q;exact⟨v,cellK x c q v z⟩
 ·obtain⟨q,n,ne,nf,d⟩:=I.pin p hp;exact⟨sh.keep p.1 p.2 q (fun z=>(ha p.1 z).2.2.1 p hp rfl) (fun z=>(Ay.mp (I.stkSub p.1 z)).elim ne nf),n,ne,nf,d⟩
theorem WF(I:Inv X pI σ H s)(hx:X.ex=[])(ha:G7 X pI e)(hH:H e=Ae)(ho:∃ o,s.heap.get? e=Aa o)(p:φ s.heap)(hφ:∀ h1 h2:AB,φ h1->(∀ o,h1.get? e=Aa o->h2.get? e=Aa o)->φ h2):Inv X pI σ (upd H e (.ext φ)) s:=by
 have ne:∀ b o,H b=Aa o->b≠e:=fun b o q z=>by rw[z,hH]at q;cases q
 refine⟨I.ok,I.os,I.bare,⟨I.base.keep,I.base.slot,fun b o q n hb=>?_,I.base.there,fun b xs q=>?_,fun b o u q=>?_,fun b ps q=>?_⟩,I.loc,I.cell,?_,fun x c q=>?_,fun p hp=>?_,fun b o q=>?_,I.len⟩
 ·rw[Bq fun z=>by rw[z,ha.2.2.2]at q;cases q]
  exact I.base.free b o q n hb
 ·have:=I.base.tups b xs q;rw[Bq (ne _ _ this)];exact this
 ·have:=I.base.frzs b o u q;rw[Bq (ne _ _ this)];exact this
 ·obtain⟨more,this⟩:=I.base.tbls b ps q;exact⟨more,by rw[Bq (ne _ _ this)];exact this⟩
 ·rw[Bq fun z=>ha.1 z.symm];exact I.free
 ·rw[Bq (ha.2.1 x c q)];exact I.freeC x c q
 ·obtain⟨q,n,r⟩:=I.pin p hp;exact⟨q,by rw[Bq (ha.2.2.1 p hp)];exact n,r⟩
 ·by_cases hb:b=e
  ·subst hb;rw[Ff]at q;cases q;exact⟨p,ho,hφ⟩
  ·rw[Bq hb]at q;exact(I.hok b o q).stay (fun c v hc z=>z) (fun c z=>by rw[Bq (ne _ _ z)];exact z) fun c zs z=>by rw[Bq (ne _ _ z)];exact z
theorem WE{i:Af}{tk:Af}(I:Inv X pI σ H s)(hN:X.N.Nodup)(hi:X.N[i]?=Aa n)(hn:s.heap.Ns X.env.locals m)(hn':h'.Ns X.env.locals (fun x=>if x=n then v else m x))(hs:DZ X.env.locals s.heap h'):Inv X pI (σ.set i Ae) H {s with heap:=h',toks:=tk}:=by
 obtain⟨m0,hn0,hl⟩:=I.loc;have em:m0=m:=by
  obtain⟨o,es,ep,h1,h2,_,h3⟩:=hn0;obtain⟨o',es',ep',h1',h2',_,h3'⟩:=hn;rw[h1]at h1';cases h1';rw[h2]at h2';cases h2'
  funext y
  rw[<-h3,<-h3']
 subst em;obtain⟨oL,_,_,hoL,_⟩:=id hn;have lt:∀ b o,X.s₀.heap.get? b=Aa o->b≠X.env.locals:=fun b o q=>A1 (AH (AC q) I.ok.above)
 refine⟨I.ok,I.os,I.bare,⟨fun b o q n hb hx=>?_,fun b o q n hb hx=>?_,I.base.free,fun b o q hx=>?_,I.base.tups,I.base.frzs,I.base.tbls⟩,⟨_,hn',fun j y v' e1 e2 e3=>?_⟩,fun y c q=>?_,I.free,I.freeC,fun p hp=>?_,fun b ob q=>?_,by rw[A3];exact I.len⟩
 ·exact(hs.2 b (lt b o q)).trans (I.base.keep b o q n hb hx)
 ·obtain⟨sl,e1⟩:=I.base.slot b o q n hb hx;exact⟨sl,(hs.2 b (lt b o q)).trans e1⟩
 ·obtain⟨o',e1⟩:=I.base.there b o q hx;exact⟨o',(hs.2 b (lt b o q)).trans e1⟩
 ·by_cases hj:i=j
  ·subst hj;have:=GC e2;cases this
  ·rw[Cj hj]at e2;obtain⟨u',r',q⟩:=hl j y v' e1 e2 e3;refine⟨u',r',?_⟩;rcases q with ⟨k,e⟩|⟨k,c,e,z⟩
   ·refine .inl ⟨k,?_⟩;have:y≠n:=fun e=>hj (NN hN hi (e ▸ e1))
    simp[this,e]
   ·exact .inr ⟨k,c,e,z.sameBut hs (I.cne y c e)⟩
 ·obtain⟨w',z⟩:=I.cell y c q;exact⟨w',z.sameBut hs (I.cne y c q)⟩
 ·obtain⟨q,n,ne,nf,d⟩:=I.pin p hp;exact⟨(hs.2 p.1 ne).trans q,n,ne,nf,d⟩
 ·refine(I.hok b ob q).stay (fun c w' hc z=>(hs.2 c ?_).trans z) (fun _ q=>q) fun _ _ q=>q
  rintro rfl;have hfree:=I.free;rcases hc with z|hc
  ·rw[<-z,hfree]at q;cases q
  ·rw[hfree]at hc;cases hc
end
noncomputable def Cx.hot(X:Cx)(e:Ak):Cx:={X with A:=X.A.mark (Aa (.ref e)),calm:=Ac,xe:=fun _ _=>AS}
section
variable{X:Cx}{pI:Pn}{σ:L2.St}{H:Hp}{s:Aq}{e:Ak}
theorem cB(ok:X.Ok):(Cx.hot X e).Ok:=⟨ok.mod,ok.kind,ok.glob,ok.blt,ok.above,ok.inj,ok.has,ok.cab,fun z=>(nomatch z),ok.frames,ok.stk,ok.exf,ok.bs,ok.bsz,ok.noex,ok.exfs,ok.funs,ok.frf⟩
theorem N6(I:Inv X pI σ H s)(e:Ak):Inv (Cx.hot X e) pI σ H s:=⟨cB I.ok,I.os,I.bare,I.base,I.loc,I.cell,I.free,I.freeC,I.pin,I.hok,I.len⟩
theorem XR(ok:X.Ok)(I:Inv (Cx.hot X e) pI σ H s):Inv X pI σ H s:=⟨ok,I.os,I.bare,I.base,I.loc,I.cell,I.free,I.freeC,I.pin,I.hok,I.len⟩
theorem Sx.unset{ρ:Rho}(x:Sx K CL Fz B ρ σ H)(i:Af):Sx K CL Fz B (ρ.set i Ae) (σ.set i Ae) H:=by
 have get:∀(j:Af)(y:D×An),(ρ.set i Ae)[j]?=Aa (Aa y)->i≠j/\ρ[j]?=Aa (Aa y):=fun j y h=>by
  by_cases hj:i=j
  ·subst hj;have:=GC h;cases this
  ·exact⟨hj,by rw[Cj hj]at h;exact h⟩
 have sub:∀ a,BL B (ρ.set i Ae) (σ.set i Ae) a->BL B ρ σ a:=fun a h=>by
  rcases h with h|⟨j,d,h1,h2⟩
  ·exact .inl h
  ·obtain⟨hj,h1⟩:=get j _ h1;rw[Cj hj]at h2;exact .inr ⟨j,d,h1,h2⟩
 refine⟨⟨fun j d h=>?_,fun j d h=>?_,by rw[A3,A3];exact x.len⟩,fun a h=>x.aok a (sub a h),fun j d a h1 h2=>?_,fun j k d f a h1 h2 h3 h4=>?_,x.same,by rw[A3,A3];exact x.len⟩
 ·obtain⟨hj,h1⟩:=get j _ h;obtain⟨v,q,r⟩:=x.good.sh j d h1;exact⟨v,by rw[Cj hj];exact q,Rep.sub sub _ r⟩
 ·obtain⟨hj,h1⟩:=get j _ h;obtain⟨a,xs,ds,q,z,ha,hh,rr⟩:=x.good.ow j d h1;exact⟨a,xs,ds,by rw[Cj hj];exact q,z,.inr ⟨j,d,h,by rw[Cj hj];exact q⟩,hh,Reps.sub sub _ rr⟩
 ·obtain⟨hj,h1⟩:=get j _ h1;rw[Cj hj]at h2;exact x.new j d a h1 h2
 ·obtain⟨hj,h1⟩:=get j _ h1;obtain⟨hk,h2⟩:=get k _ h2;rw[Cj hj]at h3;rw[Cj hk]at h4;exact x.dis j k d f a h1 h2 h3 h4
end
def Ix(e C:Ak)(dx:Am Ak)(h:AB):Prop:=∃ o,h.get? e=Aa o/\o.cls=.ref C/\o.dict=dx/\∃ us,o.data=.fields us
noncomputable def JJ(X:Cx)(CL:ClA)(pI:Pn)(σ:L2.St)(H:Hp)(y:Ex)(Xw:Vq):Prop:=
 ∀ s' H' e T cls dx,Inv X pI σ H' s'->AE H H'->Fly e T cls dx s'.heap->H' e=Ae->H' T=Ae->G7 X pI e->G7 X pI T->FV X.K CL H' cls dx y->Xw (.ref e) s'
def STB(X:Cx)(CL:ClA)(body:Ad A4)(f:Rho->O):Prop:=∀ Fz B pI s σ H D ρ (Xw:Vq),Fd (model X.prog X.w) X.A X.env Xw->Inv X pI σ H s->Sx X.K CL Fz B ρ σ H ->
  (match f ρ with
   |.exn y ρ'=>ρ'=ρ->JJ X CL pI σ H y Xw
   | o=>BU X.K CL Fz B (fun _ _=>AS) o D)->(∀ y ρ',f ρ=.exn y ρ'->ρ'=ρ)->At (model X.prog X.w) X.A (execs body X.env) (SP X pI D) Xw s
noncomputable def TK(up:Af->Ad Af)(c i:Af)(o:O)(fh:Rho->O):O:=match o with
  | .exn y ρ'=>if (up y.c).contains c=Ab then (match fh (ρ'.set i (Aa (.exc y.c y.fs,Ac))) with
      |.next ρ''=>.next (ρ''.set i Ae)
      |.ret d f=>.ret d f
      | _=>.bad) else .bad
  |o=>o
theorem NV{i:Af}{b:An}{rest:Ad EN}{s1:Aq}{ρ':Rho}{D:Ends}{e T1:Ak}(hx:X.ex=[])(hN:X.N.Nodup)(hi:X.N[i]?=Aa n)(hl:X.env.scope.names.lookup n=Aa .local)(hg:Gl X g)(hm:X.mg g=Aa (.ref C'))(hdb:(g==("__debug__" : Aj))=Ac)(xc:XcOk X.K C')(hsu:Az X.K (.ref C) (.ref C')=Aa b)(hh:∀ e,SSs (Cx.hot X e) CL (fun _ _=>AS) (h0::hs) fh)(I1:Inv X pI σ H' s1)(fl1:Fly e T1 (.ref C) dx s1.heap)(ae:G7 X pI e)(aT1:G7 X pI T1)(he:H' e=Ae)(HT1:H' T1=Ae)(gx:Sx X.K CL Fz B ρ' σ H')(hcl:CL y.c=Aa C)(xr:FV X.K CL H' (.ref C) dx y)(p2:b=Ab->BU X.K CL Fz B W (hdO i y ρ' fh) D)(p3:b=Ac->At (model X.prog X.w) X.A (Jp (.ref e) X.env rest) (SP X pI D) X.xe s1):At (model X.prog X.w) X.A (Jp (.ref e) X.env (.ExceptHandler (Aa (.Name g p1)) (Aa n) (h0::hs) hp::rest)) (SP X pI D) X.xe s1:=by
 obtain⟨Cx0,hcl0,ecl,hfs⟩:=xr (BL B ρ' σ) gx.aok;have xat:∀{h:AB}{T:Ak},Fly e T (.ref C) dx h->XAt e C h:=fun {h T} z=>by
  obtain⟨oe,_,_,_,_,z1,z2,_⟩:=z;exact⟨oe,z1,z2⟩
 have xad:∀{h:AB}{T:Ak},Fly e T (.ref C) dx h->Ix e C dx h:=fun {h T} z=>by
  obtain⟨oe,vs,_,_,_,z1,z2,z3,_,z4,_⟩:=z;exact⟨oe,z1,z2,z3,vs,z4⟩
 have two:∀{T:Ak}{Z:Ak->Prop},Z e->Z T->∀ b∈[e,T],Z b:=fun {T Z} h1 h2 b hb=>by
  rcases Ay.mp hb with rfl|hb
  ·exact h1
  ·rw[Bu.mp hb];exact h2
 refine wpAny_handleBy_cons (codeAny_handlers_test (IW (X:=Cx.hot X e) (N6 I1 e) hg hm ?_ hdb)) (by intro q;cases q)
 refine XG (K:=X.K) I1.kIn (xat fl1) xc hsu ?_;cases b with
 |false=>exact p3 rfl
 |true=>
 have p2:=p2 rfl;refine codeAny_handlers_suite_as ?_;refine WJ (base:=X.base) (l:=X.stack) I1.stack fl1 fun h3 T3 fl3 sh3 hT3=>?_
 have I3:=Qb I1 hx sh3 (two ae aT1) (two (Z:=fun b=>H' b=Ae) he HT1)
 obtain⟨oe,oeg,oec⟩:=xad fl3;have I3':=WF (φ:=Ix e C dx) I3 hx ae he ⟨oe,oeg⟩ ⟨oe,oeg,oec⟩ fun h1 h2 ⟨o,q1,q2⟩ k=>⟨o,k o q1,q2⟩
 have sm3:AE H' (upd H' e (.ext (Ix e C dx))):=fun b o q=>by rw[Bq fun z=>by rw[z,he]at q;cases q];exact q
 refine NM (X:=Cx.hot X e) (i:=i) (v:=.ref e) (N6 I3' e) hN hi (.inl hl) rfl (fun s4 I4=>?_) (.inr hl)
 have x3:=gx.grow sm3;have nA:¬ BL B ρ' σ e:=fun z=>by
  obtain⟨xs,q⟩:=x3.aok e z;rw[Ff]at q;cases q
 have rp:Rep X.K CL (upd H' e (.ext (Ix e C dx))) (BL B ρ' σ) (.ref e) (.exc y.c y.fs):=by
  refine⟨e,C,Ix e C dx,rfl,nA,hcl,Ff,fun h ⟨o,z1,z2,_⟩=>⟨o,z1,z2⟩,?_⟩
  rcases hfs with z|⟨d,vs,ed,nd,hd,rf⟩
  ·exact .inl z
  ·exact .inr ⟨d,vs,nd,sm3 _ _ hd,Repf.kp (Kp.of sm3) _ rf,fun h ⟨o,z1,_,z3,z4⟩=>⟨o,z1,z3.trans ed,z4⟩⟩
 have x4:=x3.set i rp;have fin:∀{s5:Aq}{σ5:L2.St}{H5:Hp}{Q:Fw->Aq->Prop},Inv (Cx.hot X e) pI σ5 H5 s5->(∀ s6,Inv X pI (σ5.set i Ae) H5 s6->Q () s6)->At (model X.prog X.w) X.A (do bindName X.env n .none;unbindBehindTheSuite X.env n hp) Q X.xe s5:=fun {s5 σ5 H5 Q} I5 k=>by
  have I5':=XR I1.ok I5;obtain⟨m,hn,_⟩:=id I5'.loc;refine wpAny_nameGoes_keeps hl hn (by rw[I1.ok.kind];rfl) fun h6 v6 hn6 sb6=>?_
  exact k _ (WE I5' hN hi hn hn6 sb6)
 refine Ba (hh e Fz B pI s4 _ _ {nx:=fun σ5 H5=>D.nx (σ5.set i Ae) H5,rt:=D.rt} I4 ⟨_,x4,?_⟩) (fun f s5 hf=>?_) fun _ _ z=>A9 z
 ·unfold hdO at p2;cases ef:fh (ρ'.set i (Aa (.exc y.c y.fs,Ac))) with
  |next ρ''=>rw[ef]at p2;exact fun σ5 H5 x5=>p2 _ _ (x5.unset i)
  |ret d b=>rw[ef]at p2;exact p2
  |brk _=>rw[ef]at p2;exact p2.elim
  |cont _=>rw[ef]at p2;exact p2.elim
  |exn _ _=>rw[ef]at p2;exact p2.elim
  |bad=>rw[ef]at p2;exact p2.elim
 ·cases f with
  |next=>
   obtain⟨σ5,H5,I5,q⟩:=hf;exact fin I5 fun s6 I6=>⟨_,H5,I6,q⟩
  |ret u=>
   obtain⟨v,σ5,H5,I5,r,q⟩:=hf;exact fin I5 fun s6 I6=>⟨v,_,H5,I6,r,q⟩
  |brk=>obtain⟨_,_,_,q⟩:=hf;exact A9 q
  |cont=>obtain⟨_,_,_,q⟩:=hf;exact A9 q
def MM(X:Cx)(CL:ClA)(up:Af->Ad Af)(g:Aj)(c:Af):Prop:=∃ C',Gl X g/\X.mg g=Aa (.ref C')/\(g==("__debug__" : Aj))=Ac/\XcOk X.K C'/\∀ c' C,CL c'=Aa C->Az X.K (.ref C) (.ref C')=Aa ((up c').contains c)
theorem QM{Q:Flow->Aq->Prop}{hd:Ad EN}(hx:X.ex=[])(hst:X.stack=X.env::X.outer)(hfm:X.env.frame=Aa X.env.locals)(k:∀ e T1 cls dx H' s1,Inv X pI σ H' s1->AE H H'->Fly e T1 cls dx s1.heap->G7 X pI e->G7 X pI T1->H' e=Ae->H' T1=Ae->FV X.K CL H' cls dx y->At (model X.prog X.w) X.A (Jp (.ref e) X.env hd) Q X.xe s1):JJ X CL pI σ H y (fun ev s1=>At (model X.prog X.w) X.A (GW ev X.env) (fun _ s2=>At (model X.prog X.w) X.A (HL ev Ae) (fun _ s3=>At (model X.prog X.w) X.A (Jp ev X.env hd) Q X.xe s3) X.xe s2) X.xe s1):=by
 intro s' H' e T cls dx I' sm fl he hT ae aT xr;have two:∀{T:Ak}{Z:Ak->Prop},Z e->Z T->∀ b∈[e,T],Z b:=fun {T Z} h1 h2 b hb=>by
  rcases Ay.mp hb with rfl|hb
  ·exact h1
  ·rw[Bu.mp hb];exact h2
 have hfr:X.A.frames=Aa (X.env::X.outer):=by rw[<-hst];exact I'.ok.frames
 refine XZ (base:=X.base) hfr hfm (by rw[<-hst];exact I'.stack) fl fun h1 T1 fl1 sh1 hT1=>?_
 rw[<-hst]at sh1;exact k e T1 cls dx H' _ (Qb I' hx sh1 (two ae aT) (two (Z:=fun b=>H' b=Ae) he hT)) sm fl1 ae (hT1.elim (fun z=>z ▸ aT) fun z=>K7 I' hx z) he (hT1.elim (fun z=>z ▸ hT) fun z=>Kk I'.hok z) xr
theorem aX{c i:Af}{fb:Rho->O}(hx:X.ex=[])(hst:X.stack=X.env::X.outer)(hfm:X.env.frame=Aa X.env.locals)(hN:X.N.Nodup)(hi:X.N[i]?=Aa n)(hl:X.env.scope.names.lookup n=Aa .local)(h1:MM X CL up g c)(hb:STB X CL body fb)(hρ:∀ ρ y ρ',fb ρ=.exn y ρ'->ρ'=ρ)(hh:∀ e,SSs (Cx.hot X e) CL (fun _ _=>AS) (h0::hs) fh):SS X CL W (.Try body [.ExceptHandler (Aa (.Name g p1)) (Aa n) (h0::hs) hp] [] [] pos) (fun ρ=>TK up c i (fb ρ) fh):=fun Fz B pI s σ H D I ⟨ρ,x,p⟩=>by
 refine VL (Ba (hb Fz B pI s σ H D ρ _ Vl I x ?_ (hρ ρ)) (fun f s1 hf=>?_) fun _ _ z=>z)
 ·dsimp only at p;cases eb:fb ρ with
  |exn y ρ'=>
   rw[eb]at p;intro e0;subst e0;have p2:BU X.K CL Fz B W (if (up y.c).contains c=Ab then hdO i y ρ' fh else .bad) D:=p
   refine QM hx hst hfm fun e T1 cls dx H' s1 I1 sm fl1 ae aT1 he HT1 xr=>?_
   have gx:=x.grow sm;obtain⟨C,hcl,rfl,_⟩:=xr (BL B ρ' σ) gx.aok;obtain⟨C',hg,hm,hdb,xc,hup⟩:=h1;refine NV (W:=W) hx hN hi hl hg hm hdb xc (hup y.c C hcl) hh I1 fl1 ae aT1 he HT1 gx hcl xr (fun hc=>?_) (fun hc=>?_)
   ·rw[AF hc]at p2;exact p2
   ·rw[AM (by rw[hc];exact Ar)]at p2;exact p2.elim
  |next ρ'=>rw[eb]at p;exact p
  |ret d b=>rw[eb]at p;exact p
  |brk ρ'=>rw[eb]at p;exact p
  |cont ρ'=>rw[eb]at p;exact p
  |bad=>rw[eb]at p;exact p.elim
 ·cases f with
  |next=>exact E8 hf
  |ret u=>exact hf
  |brk=>exact hf
  |cont=>exact hf
noncomputable def SH(up:Af->Ad Af)(c c' i:Af)(o:O)(fh fh' fe:Rho->O):O:=match o with
  |.exn y ρ'=>if (up y.c).contains c=Ab then hdO i y ρ' fh else if (up y.c).contains c'=Ab then hdO i y ρ' fh' else .bad
  |.next ρ'=>fe ρ'
  |o=>o
theorem Yl{c c' i:Af}{g':Aj}{hs' els:Ad A4}{h0':A4}{p1' hp':AI}{fb fh' fe:Rho->O}(hx:X.ex=[])(hst:X.stack=X.env::X.outer)(hfm:X.env.frame=Aa X.env.locals)(hN:X.N.Nodup)(hi:X.N[i]?=Aa n)(hl:X.env.scope.names.lookup n=Aa .local)(h1:MM X CL up g c)(h2:MM X CL up g' c')(hb:STB X CL body fb)(hρ:∀ ρ y ρ',fb ρ=.exn y ρ'->ρ'=ρ)(hh:∀ e,SSs (Cx.hot X e) CL (fun _ _=>AS) (h0::hs) fh)(hh':∀ e,SSs (Cx.hot X e) CL (fun _ _=>AS) (h0'::hs') fh')(he:SSs X CL W els fe):SS X CL W (.Try body [.ExceptHandler (Aa (.Name g p1)) (Aa n) (h0::hs) hp,.ExceptHandler (Aa (.Name g' p1')) (Aa n) (h0'::hs') hp'] els [] pos) (fun ρ=>SH up c c' i (fb ρ) fh fh' fe):=fun Fz B pI s σ H D I ⟨ρ,x,p⟩=>by
 refine VL (Ba (hb Fz B pI s σ H {D with nx:=fun σ1 H1=>∃ ρ1,Sx X.K CL Fz B ρ1 σ1 H1/\BU X.K CL Fz B W (fe ρ1) D} ρ _ Vl I x ?_ (hρ ρ)) (fun f s1 hf=>?_) fun _ _ z=>z)
 ·dsimp only at p;cases eb:fb ρ with
  |exn y ρ'=>
   rw[eb]at p;intro e0;subst e0;have p2:BU X.K CL Fz B W (if (up y.c).contains c=Ab then hdO i y ρ' fh else if (up y.c).contains c'=Ab then hdO i y ρ' fh' else .bad) D:=p
   refine QM hx hst hfm fun e T1 cls dx H' s1 I1 sm fl1 ae aT1 he HT1 xr=>?_
   have gx:=x.grow sm;obtain⟨C,hcl,rfl,_⟩:=xr (BL B ρ' σ) gx.aok;obtain⟨C1,hg,hm,hdb,xc,hup⟩:=h1;obtain⟨C2,hg2,hm2,hdb2,xc2,hup2⟩:=h2;refine NV (W:=W) hx hN hi hl hg hm hdb xc (hup y.c C hcl) hh I1 fl1 ae aT1 he HT1 gx hcl xr (fun hc=>?_) (fun hc=>?_)
   ·rw[AF hc]at p2;exact p2
   ·rw[AM (by rw[hc];exact Ar)]at p2
    refine NV (W:=W) hx hN hi hl hg2 hm2 hdb2 xc2 (hup2 y.c C hcl) hh' I1 fl1 ae aT1 he HT1 gx hcl xr (fun hc=>?_) (fun hc=>?_)
    ·rw[AF hc]at p2;exact p2
    ·rw[AM (by rw[hc];exact Ar)]at p2;exact p2.elim
  |next ρ'=>rw[eb]at p;exact fun σ1 H1 x1=>⟨ρ',x1,p⟩
  |ret d b=>rw[eb]at p;exact p
  |brk ρ'=>rw[eb]at p;exact p
  |cont ρ'=>rw[eb]at p;exact p
  |bad=>rw[eb]at p;exact p.elim
 ·cases f with
  |next=>
   obtain⟨σ1,H1,I1,ρ1,x1,q⟩:=hf;exact he Fz B pI s1 σ1 H1 D I1 ⟨ρ1,x1,q⟩
  |ret u=>exact hf
  |brk=>exact hf
  |cont=>exact hf
theorem Qr{f:Ak}{E:XK}{e:Ao}{es:Ad Ao}{t:TA}(F:FnOk X.prog X.w X.K X.mg X.base CX k f fd ps sp)(hr:Room k X.A)(hg:Gl X x)(hm:X.mg x=Aa (.ref f))(hk:Ca X.K (.ref f)=Ab)(hb:FC X.K fd ps [])(hx:∀ pI H s e s',Inv X pI σ0 H s->CX X.stack H s E e s'->X.xe e s')(ha:PA X (e::es) t)(hdb:(x==("__debug__" : Aj))=Ac)(he:Ax (e::es) X.env=(Ac,eval e X.env)::Ax es X.env)(hpl:(Ce pos (Ax es X.env)).any (·.1)=Ac):PE X (.Call (.Name x p) (e::es) [] pos) (fun σ H Q=>σ=σ0/\t σ H fun vs H1=>sp vs H1 Q E):=by
 intro pI s σ H Q I ⟨e0,h⟩;subst e0;refine Ej (IW I hg hm ?_ hdb);refine GU (h₀:=X.base) I.ok.mod.kin hk (thn (ha pos pI s σ H _ I h) fun us s1 ⟨vs,H1,I1,r,q⟩=>⟨I1.kIn,?_⟩) he hpl
 have hl:us.length=ps.length:=by rw[<-r.length];exact F.len _ _ _ _ q
 have hb':F6 s1 fd ⟨us,[]⟩ (ps.zip us):=by
  have:=hb s1 us I1.kIn (by rw[Cq];exact hl)
  rw[Cq]at this;exact this
 refine Gk (Fe (F.run X.A X.stack s1 H1 ⟨us,[]⟩ us vs Q E hr I1.env0 hb' r q) fun r s' hq=>?_)
 cases r with
 |error e=>exact hx pI H1 s1 e s' I1 hq
 |ok fl=>
  cases fl with
  |ret u=>exact I1.after hq
  |next=>exact A9 hq
  |brk=>exact A9 hq
  |cont=>exact A9 hq
def OZ(K:Fg)(CL:ClA)(Rp:Hp->V->D->Prop)(E0:XK)(H:Hp)(r:R D)(Q:VK):Prop:=match r with
  |.ok d=>∀ v H',AE H H'->Rp H' v d->Q v H'
  |.exn y=>∀ cls dx H',AE H H'->FV K CL H' cls dx y->E0 cls dx H'
  |.bad=>AS
theorem LX{n:Af}{f:Ak}{e:Ao}{es:Ad Ao}{ft:Rho->R (Ad D)}{sh:Rho->An}{E0:XK}(G:FnOk X.prog X.w X.K X.mg X.base CX k f fd ps (spD X.K CL n fr F))(hr:Room k X.A)(hg:Gl X x)(hm:X.mg x=Aa (.ref f))(hk:Ca X.K (.ref f)=Ab)(hb:FC X.K fd ps [])(hx:∀ pI H s e s',Inv X pI σ0 H s->CX X.stack H s E0 e s'->X.xe e s')(ha:SA X CL (fun _ _=>AS) (e::es) fs)(hat:SAT X CL (fun _ _=>AS) (e::es) ft)(hst:∀ ρ,sh ρ=Ab->ft ρ=fs ρ)(hn:∀ ρ ds,ft ρ=.ok ds->ds.length=n)(hnx:∀ ρ y,ft ρ≠.exn y)(hdb:(x==("__debug__" : Aj))=Ac)(he:Ax (e::es) X.env=(Ac,eval e X.env)::Ax es X.env)(hpl:∀ pos,(Ce pos (Ax es X.env)).any (·.1)=Ac)(A:Ak->Prop):PE X (.Call (.Name x p) (e::es) [] pos) (fun σ H Q=>σ=σ0/\AOk H A/\∃ ρ,Good X.K CL A ρ σ H/\OZ X.K CL (Dv X.K CL fr H A) E0 H ((ft ρ).bind fun ds=>(F ds).bind fun d=>if sh ρ=Ab then .ok d else if FH fr d=Ab then .ok d else .bad) Q):=fun pI s σ H Q I ⟨e0,hA,ρ,gd,q⟩=>by
 by_cases hs:sh ρ=Ab
 ·rw[hst ρ hs]at q;refine Qr G hr hg hm hk hb hx (ha A) hdb he (hpl _) pI s σ H Q I ⟨e0,hA,ρ,gd,?_⟩;cases e1:fs ρ with
  |bad=>rw[e1]at q;exact q
  |exn y=>exact absurd (by rw[hst ρ hs];exact e1) (hnx ρ y)
  |ok ds=>
   rw[e1]at q;intro vs H1 s1 r1;refine⟨ds,A,by rw[r1.length];exact hn ρ ds (by rw[hst ρ hs];exact e1),hA.same s1,r1,?_⟩
   have q':OZ X.K CL (Dv X.K CL fr H A) E0 H ((F ds).bind fun d=>if sh ρ=Ab then .ok d else if FH fr d=Ab then .ok d else .bad) Q:=q
   cases e2:F ds with
   |ok d=>
    rw[e2,R.bind_ok,AF hs]at q';exact fun v H2 s2 r2=>q' v H2 (s1.trans s2) ⟨r2.1,fun z ds' e'=>let ⟨a,xs,z1,z2,z3⟩:=r2.2 z ds' e';⟨a,xs,z1,s1.free z2,z3⟩⟩
   |exn y=>
    rw[e2]at q';exact fun cls dx H2 s2 xr=>q' cls dx H2 (s1.trans s2) xr
   |bad=>rw[e2]at q';exact q'.elim
 ·refine Qr G hr hg hm hk hb hx (hat A) hdb he (hpl _) pI s σ H Q I ⟨e0,hA,ρ,gd,?_⟩;cases e1:ft ρ with
  |bad=>rw[e1]at q;exact q
  |exn y=>exact absurd e1 (hnx ρ y)
  |ok ds=>
   rw[e1]at q;intro vs H1 s1 r1;refine⟨ds,A0,by rw[r1.plain.length];exact hn ρ ds e1,fun _ z=>z.elim,r1.plain,?_⟩
   have q':OZ X.K CL (Dv X.K CL fr H A) E0 H ((F ds).bind fun d=>if sh ρ=Ab then .ok d else if FH fr d=Ab then .ok d else .bad) Q:=q
   cases e2:F ds with
   |ok d=>
    rw[e2,R.bind_ok,AM hs]at q';split at q'
    ·rename_i hc;exact fun v H2 s2 r2=>q' v H2 (s1.trans s2) (Oh hA (s1.trans s2) hc ⟨r2.1,fun z ds' e'=>let ⟨a,xs,z1,z2,z3⟩:=r2.2 z ds' e';⟨a,xs,z1,s1.free z2,z3⟩⟩)
    ·exact q'.elim
   |exn y=>
    rw[e2]at q';exact fun cls dx H2 s2 xr=>q' cls dx H2 (s1.trans s2) xr
   |bad=>rw[e2]at q';exact q'.elim
noncomputable def Cx.pw(X:Cx)(pI:Pn)(Xw:Vq):Cx:={X with pn:=X.pn++pI,xe:=Xw}
section
variable{X:Cx}{pI pins':Pn}{σ:L2.St}{H:Hp}{s:Aq}{Xw:Vq}
theorem jG(ok:X.Ok):(Cx.pw X pI Xw).Ok:=⟨ok.mod,ok.kind,ok.glob,ok.blt,ok.above,ok.inj,ok.has,ok.cab,ok.hd,ok.frames,ok.stk,ok.exf,ok.bs,ok.bsz,ok.noex,ok.exfs,ok.funs,ok.frf⟩
theorem Lk(I:Inv X pI σ H s)(Xw:Vq):Inv (Cx.pw X pI Xw) [] σ H s:=⟨jG I.ok,I.os,I.bare,I.base,I.loc,I.cell,I.free,I.freeC,fun p hp=>I.pin p (by
 rcases F9.mp hp with z|z
 ·exact z
 ·exact absurd z (by simp)),I.hok,I.len⟩
theorem Kj(ok:X.Ok)(I:Inv (Cx.pw X pI Xw) pins' σ H s):Inv X pI σ H s:=⟨ok,I.os,I.bare,I.base,I.loc,I.cell,I.free,I.freeC,fun p hp=>I.pin p (Ga _ hp),I.hok,I.len⟩
theorem L7(ok:X.Ok){D:Ends}{f:Flow}{s':Aq}(h:SP (Cx.pw X pI Xw) pins' D f s'):SP X pI D f s':=by
 cases f with
 |next=>obtain⟨σ',H',I,q⟩:=h;exact⟨σ',H',Kj ok I,q⟩
 |brk=>obtain⟨σ',H',I,q⟩:=h;exact⟨σ',H',Kj ok I,q⟩
 |cont=>obtain⟨σ',H',I,q⟩:=h;exact⟨σ',H',Kj ok I,q⟩
 |ret u=>obtain⟨v,σ',H',I,r,q⟩:=h;exact⟨v,σ',H',Kj ok I,r,q⟩
end
section
variable{X:Cx}{CL:ClA}{k n:Af}{fr:An}{f:Ak}{fd:BS}{ps:Ad Aj}{F:Ad D->R D}{x:Aj}{p pos pos2:AI}{e:Ao}{es:Ad Ao}{fs ft:Rho->R (Ad D)}{sh:Rho->An}
theorem QX(hx:X.ex=[])(ok:X.Ok)(q:JJ X CL pI σ H y Xw):∀ pins' H1 s1 e s',Inv (Cx.pw X pI Xw) pins' σ H1 s1->CXR X.prog X.w (Cx.pw X pI Xw).stack H1 s1 (fun cls dx H'=>FV X.K CL H' cls dx y/\AE H H') e s'->(Cx.pw X pI Xw).xe e s':=by
 intro pins' H1 s1 ev s' J h;obtain⟨e,T,cls,dx,H',rfl,os,bare,un,hok,fl,he,hT,ne,nT,xr,sm⟩:=h;have J':=Kj ok J;have J2:=J'.call' (s':=s') (ch:=[]) os un hok bare (fun b z=>absurd z (by simp))
 exact q s' H' e T cls dx J2 sm fl he hT (K7 J' hx ne) (K7 J' hx nT) xr
theorem QY:∀ pins' H1 s1 e s',Inv (Cx.pw X pI Xw) pins' σ H1 s1->CXR X.prog X.w (Cx.pw X pI Xw).stack H1 s1 (fun _ _ _=>AS) e s'->(Cx.pw X pI Xw).xe e s':=by
 intro pins' H1 s1 ev s' J h;obtain⟨e,T,cls,dx,H',rfl,os,bare,un,hok,fl,he,hT,ne,nT,w⟩:=h;exact w.elim
variable(hx0:X.ex=[])(G:FnOk X.prog X.w X.K X.mg X.base (CXR X.prog X.w) k f fd ps (spD X.K CL n fr F))(hr:Room k X.A)(hg:Gl X x)(hm:X.mg x=Aa (.ref f))
    (hk:Ca X.K (.ref f)=Ab) (hb:FC X.K fd ps []) (hst:∀ ρ,sh ρ=Ab->ft ρ=fs ρ) (hn:∀ ρ ds,ft ρ=.ok ds->ds.length=n) (hnx:∀ ρ y,ft ρ≠.exn y)
    (hdb:(x==("__debug__" : Aj))=Ac) (he:Ax (e::es) X.env=(Ac,eval e X.env)::Ax es X.env) (hpl:∀ pos,(Ce pos (Ax es X.env)).any (·.1)=Ac)
    (ha:∀ pI Xw,Fd (model X.prog X.w) X.A X.env Xw->SA (Cx.pw X pI Xw) CL (fun _ _=>AS) (e::es) fs/\SAT (Cx.pw X pI Xw) CL (fun _ _=>AS) (e::es) ft)
include hx0 G hr hg hm hk hb hst hn hnx hdb he hpl ha
theorem W5(hs:Do (.Call (.Name x p) (e::es) [] pos) Ae pos2.line X.env=pure Ac):STB X CL [.Expr (.Call (.Name x p) (e::es) [] pos) pos2] (fun ρ=>O.of ρ ((ft ρ).bind fun ds=>(F ds).bind fun d=>if sh ρ=Ab then .ok d else if FH fr d=Ab then .ok d else .bad) fun _=>.next ρ):=by
 intro Fz B pI s σ H D ρ Xw own I sx q _;obtain⟨ha1,ha2⟩:=ha pI Xw own;dsimp only at q;cases er:(ft ρ).bind fun ds=>(F ds).bind fun d=>if sh ρ=Ab then .ok d else if FH fr d=Ab then .ok d else .bad with
 |bad=>rw[er]at q;exact q.elim
 |exn y=>
  rw[er]at q;have key:=LX (X:=Cx.pw X pI Xw) (p:=p) (pos:=pos) (σ0:=σ) (fr:=fr) (F:=F) (n:=n) (sh:=sh) G hr hg hm hk hb (QX hx0 I.ok (q rfl)) ha1 ha2 hst hn hnx hdb he hpl (BL B ρ σ);refine Ba (Lh (L9 (pos:=pos2) key hs) [] s σ H D (Lk I Xw) ⟨rfl,sx.aok,ρ,sx.good,?_⟩) (fun _ _ z=>L7 I.ok z) fun _ _ z=>z
  rw[er];exact fun cls dx H' sm xr=>⟨xr,sm⟩
 |ok d=>
  rw[er]at q;have key:=LX (X:=Cx.pw X pI Xw) (p:=p) (pos:=pos) (σ0:=σ) (fr:=fr) (F:=F) (n:=n) (sh:=sh) (E0:=fun _ _ _=>AS) G hr hg hm hk hb QY ha1 ha2 hst hn hnx hdb he hpl (BL B ρ σ)
  refine Ba (Lh (L9 (pos:=pos2) key hs) [] s σ H D (Lk I Xw) ⟨rfl,sx.aok,ρ,sx.good,?_⟩) (fun _ _ z=>L7 I.ok z) fun _ _ z=>z
  rw[er];exact fun v H' sm r=>q σ H' (sx.grow sm)
theorem Yj{i:Af}{m:Aj}(hN:X.N.Nodup)(hi:X.N[i]?=Aa m)(hl:Loc X.env.scope m)(hf:X.fn m=Ab\/X.env.scope.names.lookup m=Aa .local)(hs:Do (.Call (.Name x p) (e::es) [] pos) (Aa (.Name m pos')) pos2.line X.env=pure Ac):STB X CL [.Assign [.Name m pos'] (.Call (.Name x p) (e::es) [] pos) pos2] (fun ρ=>O.of ρ ((ft ρ).bind fun ds=>(F ds).bind fun d=>if sh ρ=Ab then .ok d else if FH fr d=Ab then .ok d else .bad) fun d=>.next (ρ.set i (Aa (d,Ac)))):=by
 intro Fz B pI s σ H D ρ Xw own I sx q _;obtain⟨ha1,ha2⟩:=ha pI Xw own;dsimp only at q;cases er:(ft ρ).bind fun ds=>(F ds).bind fun d=>if sh ρ=Ab then .ok d else if FH fr d=Ab then .ok d else .bad with
 |bad=>rw[er]at q;exact q.elim
 |exn y=>
  rw[er]at q;have key:=LX (X:=Cx.pw X pI Xw) (p:=p) (pos:=pos) (σ0:=σ) (fr:=fr) (F:=F) (n:=n) (sh:=sh) G hr hg hm hk hb (QX hx0 I.ok (q rfl)) ha1 ha2 hst hn hnx hdb he hpl (BL B ρ σ);refine Ba (Lh (Ml (X:=Cx.pw X pI Xw) (i:=i) (pos:=pos2) hN hi hl key hs hf) [] s σ H D (Lk I Xw) ⟨rfl,sx.aok,ρ,sx.good,?_⟩) (fun _ _ z=>L7 I.ok z) fun _ _ z=>z
  rw[er];exact fun cls dx H' sm xr=>⟨xr,sm⟩
 |ok d=>
  rw[er]at q;have key:=LX (X:=Cx.pw X pI Xw) (p:=p) (pos:=pos) (σ0:=σ) (fr:=fr) (F:=F) (n:=n) (sh:=sh) (E0:=fun _ _ _=>AS) G hr hg hm hk hb QY ha1 ha2 hst hn hnx hdb he hpl (BL B ρ σ)
  refine Ba (Lh (Ml (X:=Cx.pw X pI Xw) (i:=i) (pos:=pos2) hN hi hl key hs hf) [] s σ H D (Lk I Xw) ⟨rfl,sx.aok,ρ,sx.good,?_⟩) (fun _ _ z=>L7 I.ok z) fun _ _ z=>z
  rw[er];exact fun v H' sm r=>q _ H' ((sx.grow sm).set i r.1)
end
section
variable{X:Cx}{CL:ClA}{W:XW}
theorem W6{e:Ao}{es:Ad Ao}(hcalm:X.calm=Ab)(rz:LA X CL W)(hg:Gl X g)(hm:X.mg g=Aa (.ref C))(hdb:(g==("__debug__" : Aj))=Ac)(xc:DS X.K C Ae=Ab)(hcl:CL c=Aa C)(ha:SA X CL W (e::es) fs)(hxn:∀ ds,xn c ds=.bad\/xn c ds=.ok ⟨c,[]⟩)(he:Ax (e::es) X.env=(Ac,eval e X.env)::Ax es X.env)(hpl:∀ pos,(Ce pos (Ax es X.env)).any (·.1)=Ac)(hz:∀ ρ ds,fs ρ=.ok ds->ds.length<=100000):SS X CL W (.Raise (Aa (.Call (.Name g np) (e::es) [] cpos)) Ae pos) (fun ρ=>O.of ρ (noX (fs ρ)) fun xs=>O.of ρ (xn c xs) fun x=>.exn x ρ):=fun Fz B pI s σ H D I ⟨ρ,x,p⟩=>by
 dsimp only at p;cases e1:fs ρ with
 |bad=>rw[e1]at p;exact p.elim
 |exn y=>rw[e1]at p;exact p.elim
 |ok ds=>
  rw[e1]at p;have p2:BU X.K CL Fz B W (O.of ρ (xn c ds) fun x=>.exn x ρ) D:=p
  rcases hxn ds with e2|e2
  ·rw[e2]at p2;exact p2.elim
  ·rw[e2]at p2;have p3:∀ H,(∀ b o,Fz b o->H b=Aa o)->W ⟨c,[]⟩ H:=p2;obtain⟨bm,N,nm,qn,bs,hd,sn,sub,ab,col,dd,k0,k1,k2,k3,k5,mN,hob,hni,hbase⟩:=NR I.kIn xc;refine wpAny_Raise_call_subT (bmB:=veB) (nm:=nm) (q:=qn) (C:=C) (N:=N) (bs:=bs) (bm:=bm) (hdct:=hd) (sn:=sn) (sub:=sub) (ab:=ab) (col:=col) (dd:=dd) (k0:=k0) (k1:=k1) (k2:=k2) (k3:=k3) (k5:=k5) (mN:=mN) EO hbase (I.ok.hd hcalm) (by rw[he];show (Ac||(Ce cpos (Ax es X.env)).any (·.1))=Ac;rw[hpl];rfl) hni ?_
   refine IW I hg hm ⟨rfl,?_⟩ hdb;have q1:=ha (BL B ρ σ) cpos pI s σ H (fun vs H1=>AE H H1/\vs.length=ds.length) I ⟨x.aok,ρ,x.good,by rw[e1];exact fun vs H1 s1 r1=>⟨s1,r1.length⟩⟩
   rw[he]at q1 ⊢;refine Gg (Ba q1 (fun us s2 ⟨vs,H2,I2,r2,s2',hl⟩=>⟨rfl,?_⟩) fun _ _ z=>z)
   obtain⟨o1,o2,o3⟩:=hob _ I2.kIn;refine⟨?_,o1,o2,o3,fun h' ev hmade=>?_⟩
   ·rw[<-r2.length,hl,C4];have:=hz ρ ds e1;omega
   ·obtain⟨t,ge,_⟩:=hmade.there;have I3:Inv X pI σ H2 {s2 with heap:=h'}:=I2.kept (t':=s2.toks) hmade.keeps
    exact rz pI σ H2 _ ev C Ae t ⟨c,[]⟩ I3 (fun hx=>Jv I2 hx hmade.new) (Kk I2.hok hmade.new) ge (fun A _=>⟨C,hcl,rfl,.inl rfl⟩) (p3 H2 fun b o z=>s2' _ _ (x.same b o z))
def Lj(K:Fg)(CL:ClA)(up:Af->Ad Af)(c':Af)(C':Ak):Prop:=∀ c C,CL c=Aa C->Db K (.ref C) (.ref C')=Aa ((up c).contains c')
theorem Qv{s:Aq}{cv:Ai}{b:An}{Q:VK}(I:Inv X pI σ H s)(ha:H a=Aa (.ext φ))(hφ:∀ h,φ h->∃ o,h.get? a=Aa o/\o.cls=.ref C)(xc:XcOk X.K C)(e:Db X.K (.ref C) cv=Aa b)(q:Q (.bl b) H):
  At (model X.prog X.w) X.A (call (.builtin "isinstance") [.ref a,cv]) (EP X pI σ Q) X.xe s:=by
 have p:XAt a C s.heap:=hφ _ (I.hok a _ ha).1;exact PySem.W.kia_one (Qu xc) I.kIn p e (by intro z;cases z) fun tk=>⟨.bl b,H,I.tok tk,rfl,q⟩
theorem Pw:∀(Cs:Ad Ak){its:Ad Ai},Bb (Cs.map V.ref) its->its=Cs.map Bo
 |[],_,rv=>by cases rv;rfl
 |c::cs,_,rv=>by
  cases rv with
  |cons h1 h2=>rw[Pw cs h2];cases h1;rfl
theorem aE{s:Aq}{tp:Ak}{Cs:Ad Ak}{b:An}{Q:VK}(I:Inv X pI σ H s)(ha:H a=Aa (.ext φ))(hφ:∀ h,φ h->∃ o,h.get? a=Aa o/\o.cls=.ref C)(xc:XcOk X.K C)(ht:H tp=Aa (.tup (Cs.map V.ref)))(e:Ib X.K (.ref C) (Cs.map Bo)=Aa b)(q:Q (.bl b) H):
  At (model X.prog X.w) X.A (call (.builtin "isinstance") [.ref a,.ref tp]) (EP X pI σ Q) X.xe s:=by
 have p:XAt a C s.heap:=hφ _ (I.hok a _ ha).1;obtain⟨_,its,rv,⟨o,ho,hc,n,hd⟩⟩:=I.hok tp _ ht;have ei:its=Cs.map Bo:=Pw Cs rv;subst ei;obtain⟨cls,dd,dat,sl⟩:=o;have hc':cls=.type "tuple" := hc;have hd':dat=.seq (Fb (Cs.map Bo)) n:=hd;subst hc' hd';exact PySem.W.kia_tup (Qu xc) I.kIn p ho e (by intro z;cases z) fun tk=>⟨.bl b,H,I.tok tk,rfl,q⟩
theorem Rb{K:Fg}{up:Af->Ad Af}{c:Af}{C:Ak}(h:CL c=Aa C):∀(cs:Ad (Af×Ak)),(∀ p∈cs,Lj K CL up p.1 p.2)->Ib K (.ref C) ((cs.map fun q:Af×Ak=>q.2).map Bo)=Aa (cs.any fun p=>(up c).contains p.1)
  |[],_=>rfl
  |p::cs,hk=>by
    have h1:=hk p AL c C h;have h2:=Rb h cs fun q hq=>hk q (AG _ hq)
    show (match Db K (.ref C) (.ref p.2) with
      |some Ab=>Aa Ab
      |some Ac=>Ib K (.ref C) ((cs.map fun q:Af×Ak=>q.2).map Bo)
      | none=>Ae)=_
    rw[h1,Uk];cases (up c).contains p.1 with
    |true=>rfl
    |false=>rw[h2];rfl
theorem NP{ks:Ad Ki}{Rp:Hp->V->D->Prop}{Q:VK}(hk:ks.all DK=Ab)(hne:ks≠[])(p:Bc Rp W H (Ed up ks d) Q):∃ c fs,d=.exc c fs/\Bc Rp W H (.ok (.bl (ks.any fun k=>kiD up k d))) Q:=by
 have ha:ks.any DK=Ab:=by
  cases ks with
  |nil=>exact absurd rfl hne
  |cons k ks=>simp only[FO,Al]at hk;simp[Uk,hk.1]
 cases d with
 | exc c fs=>exact⟨c,fs,rfl,by
   have p':Bc Rp W H (if ks.all DK=Ab then .ok (.bl (ks.any fun k=>kiD up k (.exc c fs))) else .bad) Q:=p
   rw[AF hk]at p';exact p'⟩
 |obj c fs=>exact A9 p
 |dic _=>exact A9 p
 |non=>simp only[Ed,ha,EC]at p;exact A9 p
 |bl _=>simp only[Ed,ha,EC]at p;exact A9 p
 |int _=>simp only[Ed,ha,EC]at p;exact A9 p
 |str _=>simp only[Ed,ha,EC]at p;exact A9 p
 |tup _=>simp only[Ed,ha,EC]at p;exact A9 p
 |lst _=>simp only[Ed,ha,EC]at p;exact A9 p
theorem N1{v:V}{fs:Ad (Aj×D)}(r:CV K CL H A v (.exc c fs)):∃ a C φ,v=.ref a/\CL c=Aa C/\H a=Aa (.ext φ)/\∀ h,φ h->∃ o,h.get? a=Aa o/\o.cls=.ref C:=by
 rcases r with ⟨a,C,φ,e,_,hc,hH,hφ,_⟩|⟨a,xs,ds,_,z,_⟩
 ·exact⟨a,C,φ,e,hc,hH,hφ⟩
 ·cases z
variable{a:Ao}{fa:Rho->R D}{up:Af->Ad Af}{x:Aj}{p p2 pos:AI}
theorem dQ{c':Af}(hxc:∀ c C,CL c=Aa C->XcOk X.K C)(hg:Gl X "isinstance")(hm:X.mg "isinstance" = Ae)(hg2:Gl X x)(hm2:X.mg x=Aa (.ref C'))(hkit:Lj X.K CL up c' C')(hdb:(x==("__debug__" : Aj))=Ac)(ha:ST X CL W a fa)(he:Ax [a,.Name x p2] X.env=(Ac,eval a X.env)::Ax [.Name x p2] X.env):SE X CL W (.Call (.Name "isinstance" p) [a,.Name x p2] [] pos) (fun ρ=>(fa ρ).bind fun x=>Ed up [.cls c'] x):=fun A=>
 PE.weak (K4 (r:=fun xs H Q=>∃ a C φ c,xs=[.ref a,.ref C']/\CL c=Aa C/\H a=Aa (.ext φ)/\(∀ h,φ h->∃ o,h.get? a=Aa o/\o.cls=.ref C)/\Q (.bl ((up c).contains c')) H) (fun pI s σ H xs us Q I r ⟨b,C,φ,c,e,hc,hH,hφ,q⟩=>by
   subst e;obtain⟨u,w',rfl,r1,r2⟩:=Lo r;cases r1;cases r2;exact Qv I hH hφ (hxc c C hc) (hkit c C hc) q)
  hg hm Gf (Eb (ha A) (Eb (Rt (v:=.ref C') hg2 hm2 rfl hdb) GD rfl) he) (by decide) (by decide) he rfl) fun σ H Q ⟨hA,ρ,g,q⟩=>⟨hA,ρ,g,Bc.bind q fun d v H1 _ s1 r1 p1=>by
   obtain⟨c,fs,rfl,p2⟩:=NP (by rfl) (by simp) p1
   obtain⟨b,C,φ,rfl,hc,hH,hφ⟩:=N1 r1;refine⟨b,C,φ,c,rfl,hc,hH,hφ,p2 _ H1 (AE.refl H1) ?_⟩;show V.bl _=V.bl _;simp[kiD]⟩
theorem dN(hxc:∀ c C,CL c=Aa C->XcOk X.K C)(hg:Gl X "isinstance")(hm:X.mg "isinstance" = Ae)(hg2:Gl X "ValueError")(hm2:X.mg "ValueError" = Ae)(ha:ST X CL W a fa)(he:Ax [a,.Name "ValueError" p2] X.env=(Ac,eval a X.env)::Ax [.Name "ValueError" p2] X.env):SE X CL W (.Call (.Name "isinstance" p) [a,.Name "ValueError" p2] [] pos) (fun ρ=>(fa ρ).bind fun x=>Ed up [.verr] x):=fun A=>
 PE.weak (K4 (r:=fun xs H Q=>∃ a C φ c,xs=[.ref a,.ty "ValueError"]/\CL c=Aa C/\H a=Aa (.ext φ)/\(∀ h,φ h->∃ o,h.get? a=Aa o/\o.cls=.ref C)/\Q (.bl Ab) H) (fun pI s σ H xs us Q I r ⟨b,C,φ,c,e,hc,hH,hφ,q⟩=>by
   subst e;obtain⟨u,w',rfl,r1,r2⟩:=Lo r;cases r1;cases r2;exact Qv I hH hφ (hxc c C hc) (hxc c C hc).ve q)
  hg hm Gf (Eb (ha A) (Eb (Rv (v:=.ty "ValueError") hg2 hm2 PyProof.Rows.Boot.«ValueError» rfl (by decide) (by decide)) GD rfl) he) (by decide) (by decide) he rfl) fun σ H Q ⟨hA,ρ,g,q⟩=>⟨hA,ρ,g,Bc.bind q fun d v H1 _ s1 r1 p1=>by
   obtain⟨c,fs,rfl,p2⟩:=NP (by rfl) (by simp) p1
   obtain⟨b,C,φ,rfl,hc,hH,hφ⟩:=N1 r1;refine⟨b,C,φ,c,rfl,hc,hH,hφ,p2 _ H1 (AE.refl H1) ?_⟩;show V.bl _=V.bl _;simp[kiD]⟩
def Tr(Cs:Ad Ak):TA:=fun _ H Q=>Q (Cs.map V.ref) H
theorem dO{ts:Ad Ao}{cs:Ad (Af×Ak)}(hxc:∀ c C,CL c=Aa C->XcOk X.K C)(hg:Gl X "isinstance")(hm:X.mg "isinstance" = Ae)(hts:PA X ts (Tr (cs.map fun q:Af×Ak=>q.2)))(hne:cs≠[])(hl:cs.length<=1000)(hkit:∀ q∈cs,Lj X.K CL up q.1 q.2)(ha:ST X CL W a fa)(he:Ax [a,.Tuple ts kk p2] X.env=(Ac,eval a X.env)::Ax [.Tuple ts kk p2] X.env):SE X CL W (.Call (.Name "isinstance" p) [a,.Tuple ts kk p2] [] pos) (fun ρ=>(fa ρ).bind fun x=>Ed up (cs.map fun q=>.cls q.1) x):=fun A=>
 PE.weak (K4 (r:=fun xs H Q=>∃ a C φ c tp,xs=[.ref a,.ref tp]/\CL c=Aa C/\H a=Aa (.ext φ)/\(∀ h,φ h->∃ o,h.get? a=Aa o/\o.cls=.ref C)/\H tp=Aa (.tup ((cs.map fun q:Af×Ak=>q.2).map V.ref))/\Q (.bl (cs.any fun q=>(up c).contains q.1)) H) (fun pI s σ H xs us Q I r ⟨b,C,φ,c,tp,e,hc,hH,hφ,ht,q⟩=>by
   subst e;obtain⟨u,w',rfl,r1,r2⟩:=Lo r;cases r1;cases r2;exact aE I hH hφ (hxc c C hc) ht (Rb hc cs hkit) q)
  hg hm Gf (Eb (ha A) (Eb (RH hts) GD rfl) he) (by decide) (by decide) he rfl) fun σ H Q ⟨hA,ρ,g,q⟩=>⟨hA,ρ,g,Bc.bind q fun d v H1 _ s1 r1 p1=>by
   have hk:(cs.map fun q=>Ki.cls q.1).all DK=Ab:=by simp[Uj,DK]
   obtain⟨c,fs,rfl,p2⟩:=NP hk (by simpa using hne) p1
   obtain⟨b,C,φ,rfl,hc,hH,hφ⟩:=N1 r1;refine⟨by rw[Br,Br,C4];omega,fun t ht=>?_⟩
   have hbt:b≠t:=FA hH ht;refine⟨b,C,φ,c,t,rfl,hc,by rw[Bq hbt];exact hH,hφ,Ff,p2 _ _ (FT ht _) ?_⟩
   show V.bl _=V.bl _;simp[kiD,List.any_map,G8]⟩
end
theorem Si(q:DS K C v=Ab):∃ dd cd sl bm,K.lookup C=Aa ⟨.type "type", dd,.cls cd,sl⟩/\cd.mro=.ref C::bm:=by
 unfold DS at q;split at q
 ·rename_i dd cd sl ho;split at q
  ·rename_i C' bm k0 k1 k2 k3 n k5 hm hs;simp only[Al,AQ,Bk]at q;obtain⟨rfl,_⟩:=q;exact⟨dd,cd,sl,bm,ho,hm⟩
  ·cases q
 ·cases q
theorem Mf(q:DS K C v=Ab):∃ cd bm,Dm K C=Aa cd/\cd.mro=.ref C::bm:=by
 obtain⟨dd,cd,sl,bm,h1,h2⟩:=Si q;exact⟨cd,bm,by unfold Dm;rw[h1],h2⟩
theorem eT(q:DS K C v=Ab):Dc K (.ref C)=Aa (.type "type"):=by
 obtain⟨dd,cd,sl,bm,h1,h2⟩:=Si q;show (K.lookup C).map _=_;rw[h1];rfl
theorem DR{v:An}{i i':Am Ai}(q:DS K C i=Ab)(q':DS K C' i'=Ab)(su:Az K (.ref C) (.ref C')=Aa v):Db K (.ref C) (.ref C')=Aa v:=by
 unfold Db;by_cases e:C=C'
 ·subst e;obtain⟨cd,bm,h1,h2⟩:=Mf q;have su':BO K C (.ref C)=Aa v:=su;have:v=Ab:=by
   unfold BO at su';rw[h1,UI,h2,AM (by simp)]at su'
   rw[<-Bh su'];simp
  rw[AF (by simp),this]
 ·rw[AM (fun z=>e (IB (AQ.mp z)))]
  obtain⟨cd,bm,h1,h2⟩:=Mf q';show (if ((Dm K C').isSome&&Dc K (.ref C')==Aa (.type "type"))=Ab then Az K (.ref C) (.ref C') else Ae)=_
  rw[h1,eT q',AF (by simp),su]
theorem Kx(exc:DS K C v=Ab)(ga:Av K (.ref C) "__getattribute__" = Aa (Aa (.builtin "BaseException.__getattribute__")))(gt:Av K (.ref C) "__getattr__" = Aa Ae)(cl:Av K (.ref C) "__class__" = Aa (Aa (.builtin "object.__class__")))(ob:BO K C (.type "object")=Aa Ab)(be:Az K (.ref C) (.type "BaseException")=Aa Ab)(sv:Az K (.ref C) (.type "ValueError")=Aa Ab):XcOk K C:=by
 obtain⟨cd,bm,h1,h2⟩:=Mf exc;refine⟨⟨v,exc⟩,ga,gt,cl,ob,be,by rw[h1];rfl,?_⟩
 unfold Db;rw[AM (fun z=>by cases AQ.mp z)]
 have hm:Vy "ValueError" = Ab:=by decide +kernel
 show (if Vy "ValueError" = Ab then Az K (.ref C) (.type "ValueError") else Ae)=_
 rw[AF hm,sv]
noncomputable abbrev Iy:CXT:=fun _ _ _ _ _ _=>AS
structure HotOk (P:AK) (w:AY) (K:Fg) (mg:Aj->Am Ai) (base:AB) (k:Af) (f:Ak) (fd:BS) (ps:Ad Aj) (sp:Sp):Prop where
 len:∀ vs H Q E,sp vs H Q E->vs.length=ps.length
 run:∀(A:AV)(ev:Ak)(outer:Ad Ch)(s:Aq)(H:Hp)(args:Args)(us:Ad Ai)(vs:Ad V)(Q:VK)(E:XK),Room k A->Env0 P w K mg base (A.mark (Aa (.ref ev))) outer s H->F6 s fd args (ps.zip us)->Bb vs us->sp vs H Q E ->
  Ez (model P w) (A.mark (Aa (.ref ev))) (.call (.ref f) args) (CR Iy outer P w H s Q E) s
theorem fU{mg:Aj->Am Ai}{base:AB}{f:Ak}{params:KN}{dV kV doc pm cdv ct oc:Ai}{N ps:Ad Aj}(lk:K.lookup f=Aa ⟨oc,od,.func (CN name qual params body scope dV kV doc pm an cdv ct),osl⟩)(hcd:Ey K cdv qual=Ab)(S:FnScope N ps scope)(len:∀ vs H Q E,sp vs H Q E->vs.length=ps.length)(hbody:∀(A:AV)(ev:Ak)(outer:Ad Ch)(s:Aq)(H:Hp)(vs:Ad V)(Q:VK)(E:XK),Room k (A.deeper (Eu qual scope s.heap.objs.size f cdv))->sp vs H Q E ->
   ∃ t,PSs (Cx.hot (EB Iy P w K mg base N qual scope f cdv A outer s H E) ev) body t/\t {nx:=fun _ H'=>Q .non H',rt:=Q} (start N vs) H):HotOk P w K mg base (k+1) f (CN name qual params body scope dV kV doc pm an cdv ct) ps sp:=by
 refine⟨len,fun A ev outer s H args us vs Q E hr e0 hb r hsp=>?_⟩
 have hl:=len _ _ _ _ hsp;have e1:Env0 P w K mg base A outer s H:=⟨e0.frames,e0.mod,e0.bs,e0.bsz,e0.funs,e0.frf,e0.hok,e0.bare⟩;have KX:K.In s.heap:=e0.mod.kin.keeps fun b o e=>(e0.bs b o e).1
 have lim:s.heap.NoLimit:=e0.mod.nolimit.keeps fun b o e=>(e0.bs b o e).1
 have hkind:∀ y∈ps.zip us,scope.names.lookup y.1=Aa .local\/(scope.names.lookup y.1=Aa .cell/\((CO (s.heap.objs.size+1) scope.names []).lookup y.1).isSome=Ab):=fun ⟨n,v⟩ hy=>by
  rcases S.par n (Gc hy).1 with q|q
  ·exact .inl q
  ·exact .inr ⟨q,FM _ _ _ (.inl q)⟩
 have hdp:(A.mark (Aa (.ref ev))).depth<GB:=hr.depth;refine F7 hdp (KX _ _ lk) rfl S.co S.gen rfl (GV KX hcd) (hb _ _ _ _ ?_);refine ES S.kind hkind fun env he s1 x=>?_
 subst he;refine⟨lim.keeps x.toInCall.keep,IP ?_⟩;obtain⟨t,ht,hq⟩:=hbody A ev outer s H vs Q E (hr.deeper _) hsp;have I:Inv (EB Iy P w K mg base N qual scope f cdv A outer s H E) [] (start N vs) H s1:=Nu S hr.hd e1 hl r x;refine Ba (ht [] s1 (start N vs) H _ (N6 I ev) hq) (fun fl s' hs=>?_) fun e s' hs=>hs.elim
 have fin:∀{σ':L2.St}{H':Hp}{v:V}{u:Ai},Inv (Cx.hot (EB Iy P w K mg base N qual scope f cdv A outer s H E) ev) [] σ' H' s'->Bt v u->Q v H'->CE outer P w H s Q u s':=
  fun {σ' H' v u} J rv q=>⟨v,H',J.os,J.bare,J.base,J.hok,rv,q⟩
 cases fl with
 |ret u=>
  obtain⟨v,σ',H',J,rv,q⟩:=hs;exact fin J rv q
 |next=>
  obtain⟨σ',H',J,q⟩:=hs;exact fin (v:=V.non) (u:=CQ) J rfl q
 |brk=>
  obtain⟨_,_,_,q⟩:=hs;exact A9 q
 |cont=>
  obtain⟨_,_,_,q⟩:=hs;exact A9 q
theorem Kf{v:An}{i:Am Ai}(q:DS K C i=Ab)(mr:BO K C' (.type "object")=Aa Ab)(ty:Dc K (.ref C')=Aa (.type "type"))(su:Az K (.ref C) (.ref C')=Aa v):Db K (.ref C) (.ref C')=Aa v:=by
 unfold Db;by_cases e:C=C'
 ·subst e;obtain⟨cd,bm,h1,h2⟩:=Mf q;have su':BO K C (.ref C)=Aa v:=su;have:v=Ab:=by
   unfold BO at su';rw[h1,UI,h2,AM (by simp)]at su'
   rw[<-Bh su'];simp
  rw[AF (by simp),this]
 ·rw[AM (fun z=>e (IB (AQ.mp z)))]
  show (if ((Dm K C').isSome&&Dc K (.ref C')==Aa (.type "type"))=Ab then Az K (.ref C) (.ref C') else Ae)=_
  have cs:(Dm K C').isSome=Ab:=by
   unfold BO at mr;cases e1:Dm K C' with
   |none=>rw[e1]at mr;cases mr
   |some cd=>rfl
  rw[cs,ty,AF (by simp),su]
def spH(K:Fg)(CL:ClA)(n:Af)(fr:An)(F:Ad D->R D):Sp:=fun vs H Q _=>∃(ds:Ad D)(A:Ak->Prop),vs.length=n/\AOk H A/\Reps K CL H A vs ds/\(match F ds with
  |.ok d=>∀ v H',AE H H'->Dv K CL fr H A H' v d->Q v H'
  |.exn _=>AS
  | .bad=>AS)
section
variable{X:Cx}{CL:ClA}{ev:Ak}
theorem Qs{f:Ak}{E:XK}{e:Ao}{es:Ad Ao}{t:TA}(F:HotOk X.prog X.w X.K X.mg X.base k f fd ps sp)(hr:Room k X.A)(hg:Gl X x)(hm:X.mg x=Aa (.ref f))(hk:Ca X.K (.ref f)=Ab)(hb:FC X.K fd ps [])(ha:PA (Cx.hot X ev) (e::es) t)(hdb:(x==("__debug__" : Aj))=Ac)(he:Ax (e::es) X.env=(Ac,eval e X.env)::Ax es X.env)(hpl:(Ce pos (Ax es X.env)).any (·.1)=Ac):PE (Cx.hot X ev) (.Call (.Name x p) (e::es) [] pos) (fun σ H Q=>t σ H fun vs H1=>sp vs H1 Q E):=by
 intro pI s σ H Q I h;refine Ej (IW (X:=Cx.hot X ev) I hg hm ?_ hdb);refine GU (h₀:=X.base) I.ok.mod.kin hk (thn (ha pos pI s σ H _ I h) fun us s1 ⟨vs,H1,I1,r,q⟩=>⟨I1.kIn,?_⟩) he hpl
 have hl:us.length=ps.length:=by rw[<-r.length];exact F.len _ _ _ _ q
 have hb':F6 s1 fd ⟨us,[]⟩ (ps.zip us):=by
  have:=hb s1 us I1.kIn (by rw[Cq];exact hl)
  rw[Cq]at this;exact this
 refine Gk (Fe (F.run X.A ev X.stack s1 H1 ⟨us,[]⟩ us vs Q E hr I1.env0 hb' r q) fun r s' hq=>?_)
 cases r with
 |error e=>exact A9 hq
 |ok fl=>
  cases fl with
  |ret u=>exact I1.after hq
  |next=>exact A9 hq
  |brk=>exact A9 hq
  |cont=>exact A9 hq
theorem Xb{n:Af}{f:Ak}{e:Ao}{es:Ad Ao}{ft:Rho->R (Ad D)}{sh:Rho->An}(G:HotOk X.prog X.w X.K X.mg X.base k f fd ps (spH X.K CL n fr F))(hr:Room k X.A)(hg:Gl X x)(hm:X.mg x=Aa (.ref f))(hk:Ca X.K (.ref f)=Ab)(hb:FC X.K fd ps [])(ha:SA (Cx.hot X ev) CL (fun _ _=>AS) (e::es) fs)(hat:SAT (Cx.hot X ev) CL (fun _ _=>AS) (e::es) ft)(hst:∀ ρ,sh ρ=Ab->ft ρ=fs ρ)(hn:∀ ρ ds,ft ρ=.ok ds->ds.length=n)(hdb:(x==("__debug__" : Aj))=Ac)(he:Ax (e::es) X.env=(Ac,eval e X.env)::Ax es X.env)(hpl:∀ pos,(Ce pos (Ax es X.env)).any (·.1)=Ac):SC (Cx.hot X ev) CL (fun _ _=>AS) fr (.Call (.Name x p) (e::es) [] pos) (fun ρ=>(ft ρ).bind fun ds=>(F ds).bind fun d=>if sh ρ=Ab then .ok d else if FH fr d=Ab then .ok d else .bad):=fun A pI s σ H Q I ⟨hA,ρ,gd,q⟩=>by
 dsimp only at q;by_cases hs:sh ρ=Ab
 ·rw[hst ρ hs]at q;refine Qs (E:=fun _ _ _=>AS) G hr hg hm hk hb (ha A) hdb he (hpl _) pI s σ H Q I ⟨hA,ρ,gd,?_⟩
  cases e1:fs ρ with
  |bad=>rw[e1]at q;exact q
  |exn y=>rw[e1]at q;exact q
  |ok ds=>
   rw[e1]at q;intro vs H1 s1 r1;refine⟨ds,A,by rw[r1.length];exact hn ρ ds (by rw[hst ρ hs];exact e1),hA.same s1,r1,?_⟩
   have q':Bc (Dv X.K CL fr H A) (fun _ _=>AS) H ((F ds).bind fun d=>if sh ρ=Ab then .ok d else if FH fr d=Ab then .ok d else .bad) Q:=q
   cases e2:F ds with
   |ok d=>
    rw[e2,R.bind_ok,AF hs]at q';exact fun v H2 s2 r2=>q' v H2 (s1.trans s2) ⟨r2.1,fun z ds' e'=>let ⟨a,xs,z1,z2,z3⟩:=r2.2 z ds' e';⟨a,xs,z1,s1.free z2,z3⟩⟩
   |exn y=>rw[e2]at q';exact(q' H (AE.refl H)).elim
   |bad=>rw[e2]at q';exact q'.elim
 ·refine Qs (E:=fun _ _ _=>AS) G hr hg hm hk hb (hat A) hdb he (hpl _) pI s σ H Q I ⟨hA,ρ,gd,?_⟩
  cases e1:ft ρ with
  |bad=>rw[e1]at q;exact q
  |exn y=>rw[e1]at q;exact q
  |ok ds=>
   rw[e1]at q;intro vs H1 s1 r1;refine⟨ds,A0,by rw[r1.plain.length];exact hn ρ ds e1,fun _ z=>z.elim,r1.plain,?_⟩
   have q':Bc (Dv X.K CL fr H A) (fun _ _=>AS) H ((F ds).bind fun d=>if sh ρ=Ab then .ok d else if FH fr d=Ab then .ok d else .bad) Q:=q
   cases e2:F ds with
   |ok d=>
    rw[e2,R.bind_ok,AM hs]at q';split at q'
    ·rename_i hc;exact fun v H2 s2 r2=>q' v H2 (s1.trans s2) (Oh hA (s1.trans s2) hc ⟨r2.1,fun z ds' e'=>let ⟨a,xs,z1,z2,z3⟩:=r2.2 z ds' e';⟨a,xs,z1,s1.free z2,z3⟩⟩)
    ·exact q'.elim
   |exn y=>rw[e2]at q';exact(q' H (AE.refl H)).elim
   |bad=>rw[e2]at q';exact q'.elim
theorem Yi{t:Ao}{xs ys:Ad A4}{fc:Rho->R An}{fx fy:Rho->O}(hc:∀ pI Xw,Fd (model X.prog X.w) X.A X.env Xw->SB (Cx.pw X pI Xw) CL (fun _ _=>AS) t fc)(hnx:∀ ρ y,fc ρ≠.exn y)(hx:STB X CL xs fx)(hy:STB X CL ys fy):STB X CL [.If t xs ys pos] (fun ρ=>O.of ρ (fc ρ) fun b=>if b=Ab then fx ρ else fy ρ):=by
  intro Fz B pI s σ H D ρ Xw own I sx q hρ;dsimp only at q hρ;cases ec:fc ρ with
  |bad=>rw[ec]at q;exact q.elim
  |exn y=>exact absurd ec (hnx ρ y)
  |ok b=>
    rw[ec]at q hρ;have key:=hc pI Xw own (BL B ρ σ) [] s σ H (fun b' H'=>b'=b/\AE H H') (Lk I Xw) ⟨sx.aok,ρ,sx.good,by rw[ec];exact fun H' sm=>⟨rfl,sm⟩⟩
    refine Hs (thn (wpAny_If (Q:=SP X pI D) (thn key fun b' s1 ⟨H1,I1,e,sm⟩=>?_)) (fun f s1 z=>by
      cases f with
      |next=>exact E8 z
      |ret v=>exact z
      |brk=>exact z
      | cont=>exact z))
    subst e;have J:=Kj I.ok I1;have up:∀{y:Ex},JJ X CL pI σ H y Xw->JJ X CL pI σ H1 y Xw:=fun {y} w s' H' e T cls dx a1 a2=>w s' H' e T cls dx a1 (sm.trans a2)
    have lift:∀{o:O},(match o with
       |.exn y ρ'=>ρ'=ρ->JJ X CL pI σ H y Xw
       |o=>BU X.K CL Fz B (fun _ _=>AS) o D)->(match o with
       |.exn y ρ'=>ρ'=ρ->JJ X CL pI σ H1 y Xw
       | o=>BU X.K CL Fz B (fun _ _=>AS) o D):=fun {o} z=>by
      cases o with
      |exn y ρ'=>exact fun e=>up (z e)
      |next _=>exact z
      |ret _ _=>exact z
      |brk _=>exact z
      |cont _=>exact z
      |bad=>exact z
    cases b' with
    |true=>exact hx Fz B pI s1 σ H1 D ρ Xw own J (sx.grow sm) (lift q) hρ
    |false=>exact hy Fz B pI s1 σ H1 D ρ Xw own J (sx.grow sm) (lift q) hρ
end
section
variable{M:GO}{A:AV}{E:Vq}{s:Aq}{env:Ch}{nm q:Aj}{C N:Ak}{bs bm bmB:Ad Ai}{hdct:An}{sn:Ad Aj}{sub:Ad Ai}{ab:An}{col:Am An}{dd:Am Ak}{k0 k1 k2 k3 k5:Am Ai}{B newId initId:Dh}
theorem Zt{x:Sem Ai}{Q:Flow->Aq->Prop}(hb:bm.contains (.type "BaseException")=Ab)(hh:A.handled=Ae)(h:At M A x (fun v s'=>∃ e t dx,v=.ref e/\s'.heap.get? C=Aa (Ci nm q C N bs bm hdct sn sub ab col dd k0 k1 k2 k3 k5 newId)/\s'.heap.get? e=Aa (FW C dx t)/\E (.ref e) s') E s):At M A (raiseStmt env (Aa x) Ae) Q E s:=by
 have hB:(Bo C::bm).contains (.type "BaseException")=Ab:=by rw[GQ,hb,Hi]
 unfold raiseStmt;refine Ah (Ba h (fun v s' z=>?_) fun _ _ z=>z)
 obtain⟨e,t,dx,rfl,gC,ge,hE⟩:=z;obtain⟨hp,g,d,tk,os⟩:=s';unfold FW at ge
 repeat (first|(with_reducible refine B7 ge ?_)|(with_reducible refine B7 gC ?_)|(with_reducible refine EV gC ?_;rw[hB])|wp_step)
 exact wpAny_raiseNew_none hh hE
end
section
variable{prog:AK}{w:AY}{A:AV}{E:Vq}{h:AB}{g:AX Fc}{d:HI}{t:Af}{os:He}
variable{nm q:Aj}{C N fI:Ak}{bs bm bmB:Ad Ai}{hdct:An}{sn:Ad Aj}{sub:Ad Ai}{ab:An}{col:Am An}{dd:Am Ak}{k0 k1 k2 k3 k5:Am Ai}{B newId initId:Dh}{mN:Aj->Am Ai}{rest:Ad Ai}{oI:Cz}
theorem Yt{Q:Fin->Aq->Prop}(F:Hn B newId initId bmB)(T:DT h bmB bm)(gC:h.get? C=Aa (Ci nm q C N bs bm hdct sn sub ab col dd k0 k1 k2 k3 k5 newId))(hn:h.Ns N mN)(hi:mN "__init__" = Aa (.ref fI))(gI:h.get? fI=Aa oI)(cI:oI.cls=.type "function")(hl:rest.length<=sizeLine)(hq:∀ h' e,Ia h h' e (.ref C) rest->At (model prog w) A (call (.ref fI) (.ref e::rest)) (fun r s'=>r=.none/\Q (.done (.ret (.ref e))) s') E ⟨h',g,d,t,os⟩):At (model prog w) A (Builtin.«type.__call__» ⟨.ref C::rest,[]⟩) Q E ⟨h,g,d,t,os⟩:=by
 repeat (first|(with_reducible refine B7 gC ?_)|(with_reducible refine wpAny_madeBy_exc gC ?_)|wp_step)
 refine codeAny_call_builtin_code (GS _ F.quiet) (wpAny_check_new_subT F T gC (codeAny_exc_new_subT F T gC ?_ hl));show At _ _ _ _ _ _;have kp:∀ b o,h.get? b=Aa o->((h.push { cls:=.type "tuple", data:=.seq rest.toArray }).push {cls:=.ref C,data:=.fields #[.ref h.objs.size,.none,.none,.none,.bool Ac,.none]}).get? b=Aa o:=fun b o z=>Ap _ (Ap _ z)
 have ge:((h.push { cls:=.type "tuple", data:=.seq rest.toArray }).push {cls:=.ref C,data:=.fields #[.ref h.objs.size,.none,.none,.none,.bool Ac,.none]}).get? (h.objs.size+1)=Aa {cls:=.ref C,data:=.fields #[.ref h.objs.size,.none,.none,.none,.bool Ac,.none]}:=by heap_get
 have gt:((h.push { cls:=.type "tuple", data:=.seq rest.toArray }).push {cls:=.ref C,data:=.fields #[.ref h.objs.size,.none,.none,.none,.bool Ac,.none]}).get? h.objs.size=Aa { cls:=.type "tuple", data:=.seq rest.toArray }:=Ap _ (Vf rfl rfl);generalize (h.push { cls:=.type "tuple", data:=.seq rest.toArray }).push {cls:=.ref C,data:=.fields #[.ref h.objs.size,.none,.none,.none,.bool Ac,.none]}=h2 at *;have gC2:=kp _ _ gC;have gI2:=kp _ _ gI;have hn2:h2.Ns N mN:=let ⟨o,es,ep,z,r⟩:=hn;⟨o,es,ep,kp _ _ z,r⟩
 have T2:=T.keeps (h':=h2) kp;have cC:(Bo C::bm).contains (.ref C)=Ab:=by simp
 unfold Hc
 repeat (first|(with_reducible refine B7 ge ?_)|(with_reducible refine EV gC2 ?_;rw[cC])|wp_step)
 show At _ _ (Im (.ref C) _) _ _ _;refine wpAny_typeLookup_tail gC2 hn2 T2 F.mroIs F.init.lookup ?_;rw[hi];refine Bv (Ah ?_);unfold bindSpecial;refine Ah (wpAny_typeOf (T := "function") ⟨_,gI2,cI⟩ ?_);rw[AF (by decide)]
 refine As (Ah (Ba (hq h2 (h.objs.size+1) ⟨kp,Dg (UD _),h.objs.size,ge,Dg (AU _),gt⟩) (fun r s' z=>?_) fun _ _ z=>z))
 obtain⟨rfl,z⟩:=z
 wp_walk
 exact z
theorem Yu{Q:Vq}(F:Hn B newId initId bmB)(T:DT h bmB bm)(gC:h.get? C=Aa (Ci nm q C N bs bm hdct sn sub ab col dd k0 k1 k2 k3 k5 newId))(hn:h.Ns N mN)(hi:mN "__init__" = Aa (.ref fI))(gI:h.get? fI=Aa oI)(cI:oI.cls=.type "function")(hl:rest.length<=sizeLine)(hq:∀ h' e,Ia h h' e (.ref C) rest->At (model prog w) (A.under (.builtin "type.__call__" ⟨.ref C::rest,[]⟩)) (call (.ref fI) (.ref e::rest)) (fun r s'=>r=.none/\Q (.ref e) s') E ⟨h',g,d,t,os⟩):At (model prog w) A (call (.ref C) rest) Q E ⟨h,g,d,t,os⟩:=by
 have l1:=tc_lookup;have l2:=tc_bind (.ref C);have ty:(⟨h,g,d,t,os⟩:Aq).TypeIs (.ref C) "type" := ⟨_,gC,rfl⟩;refine Gk (VD ?_);show At _ _ (callAny (.ref C) _) _ _ _
 repeat (any_goals (first|assumption|(with_reducible refine B7 gC ?_)|wp_step))
 refine⟨rfl,codeAny_call_builtin_at (GS _ (by decide +kernel)) entry_typeCall (wpAny_check_type_call_sub gC (Yt F T gC hn hi gI cI hl fun h' e m=>?_))⟩
 exact hq h' e m
end
section
variable{prog:AK}{w:AY}{A:AV}{E:Vq}{s:Aq}{env:Ch}
variable{nm q:Aj}{C N fI:Ak}{bs bm bmB:Ad Ai}{hdct:An}{sn:Ad Aj}{sub:Ad Ai}{ab:An}{col:Am An}{dd:Am Ak}{k0 k1 k2 k3 k5:Am Ai}{B newId initId:Dh}{mN:Aj->Am Ai}
theorem XD{Q:Flow->Aq->Prop}{args:Ad Ao}(F:Hn B newId initId bmB)(hb:bm.contains (.type "BaseException")=Ab)(hh:A.handled=Ae)(hp:(Ce cpos (Ax args env)).any (·.1)=Ac)(hi:mN "__init__" = Aa (.ref fI))(h:At (model prog w) A (eval (.Name x np) env) (fun f s1=>f=.ref C/\At (model prog w) A (evalArgs (.ref C) Ab (Ce cpos (Ax args env)) [])
   (fun a s2=>a.kw=[]/\a.pos.length<=sizeLine/\s2.heap.get? C=Aa (Ci nm q C N bs bm hdct sn sub ab col dd k0 k1 k2 k3 k5 newId)/\s2.heap.Ns N mN/\DT s2.heap bmB bm/\(∃ oI,s2.heap.get? fI=Aa oI/\oI.cls=.type "function") /\
    ∀ h' e,Ia s2.heap h' e (.ref C) a.pos->At (model prog w) (A.under (.builtin "type.__call__" ⟨.ref C::a.pos,[]⟩)) (call (.ref fI) (.ref e::a.pos)) (fun r s'=>r=.none/\∃ t dx,s'.heap.get? C=Aa (Ci nm q C N bs bm hdct sn sub ab col dd k0 k1 k2 k3 k5 newId)/\s'.heap.get? e=Aa (FW C dx t)/\E (.ref e) s') E {s2 with heap:=h'}) E s1) E s):At (model prog w) A (exec (.Raise (Aa (.Call (.Name x np) args [] cpos)) Ae pos) env) Q E s:=by
 rw[arm_exec_Raise]
 try simp only[evalOpt,Option.map]
 refine Ah (DI (Zt (nm:=nm) (q:=q) (C:=C) (N:=N) (bs:=bs) (bm:=bm) (hdct:=hdct) (sn:=sn) (sub:=sub) (ab:=ab) (col:=col) (dd:=dd) (k0:=k0) (k1:=k1) (k2:=k2) (k3:=k3) (k5:=k5) (newId:=newId) hb hh ?_));refine Ah (Ba (wpAny_Call_ofName (Ba h (fun f s1 z=>?_) fun _ _ z=>z)) (fun v s3 z=>Ah (DI (As z))) fun _ _ z=>z)
 obtain⟨rfl,z⟩:=z;unfold callWith;refine Ah (Bv (Ba z (fun a s2 y=>Ah (DI ?_)) fun _ _ y=>y))
 obtain⟨us,kw⟩:=a;obtain⟨hk,hl,gC,hn,T,⟨oI,gI,cI⟩,k⟩:=y;obtain rfl:kw=[]:=hk;obtain⟨hp2,g,d,tk,os⟩:=s2;simp only[hp];refine Ah (wpAny_keeperOf_exc gC (Ah (Yu F T gC hn hi gI cI hl fun h' e m=>Ba (k h' e m) (fun r s' y=>?_) fun _ _ y=>y)))
 obtain⟨rfl,t,dx,c1,c2,c3⟩:=y;exact⟨rfl,Ah (Bv (wpAny_point (As ⟨e,t,dx,rfl,c1,c2,c3⟩)))⟩
end
section
variable{prog:AK}{w:AY}{A:AV}{E:Vq}{h:AB}{g:AX Fc}{d:HI}{tk0:Af}{os:He}
variable{nm q:Aj}{C N e t:Ak}{dx:Am Ak}{bs bm bmB:Ad Ai}{hdct:An}{sn:Ad Aj}{sub:Ad Ai}{ab:An}{col:Am An}{dd:Am Ak}{k0 k1 k2 k3 k5:Am Ai}{B newId initId:Dh}
theorem bH{Q:Vq}(F:Hn B newId initId bmB)(T:DT h bmB bm)(gC:h.get? C=Aa (Ci nm q C N bs bm hdct sn sub ab col dd k0 k1 k2 k3 k5 newId))(ge:h.get? e=Aa (FW C dx t))(hq:∀ h' t',(∀ b o,b≠e->h.get? b=Aa o->h'.get? b=Aa o)->h'.get? e=Aa (FW C dx t')->Q .none ⟨h',g,d,tk0,os⟩):At (model prog w) A (call (.builtin initId) [.ref e,.str z tk]) Q E ⟨h,g,d,tk0,os⟩:=by
 refine Gk (DQ F.init.plain F.initEntry (wpAny_check_init_subT F T gC ge rfl ?_));unfold FW at ge
 wp_walk
 refine hq _ h.objs.size (fun b o nb z=>(BE _ _ (Ct nb)).trans (Ap _ z)) ?_
 rw[Bw _ (Ap _ ge) rfl];rfl
end
noncomputable def xbd:Af->Af
 |0=>4
 |n+1=>8*xbd n+19
theorem aG:∀ n:Fin 100,(Bx (toString ((n.val:Af):Ag))).length<=4:=by decide +kernel
theorem RT{α:Type}(f:α->Af){m:Af}:∀ l:Ad α,(∀ x∈l,f x<=m)->(l.map f).sum<=l.length*m
 |[],_=>by simp
 |x::l,h=>by
  have h1:=h x AL;have h2:=RT f l fun y hy=>h y (AG _ hy)
  rw[DF,List.sum_cons,By,Nat.succ_mul];omega
section
variable{X:Cx}{CL:ClA}{pI:Pn}{σ:L2.St}{H:Hp}{s:Aq}
structure Shw (h:AB) (n:Af) (u:Ai) (pd:JO):Prop where
 rd:Reads h u pd []
 sh:pd.showable=Ab
 nd:pd.hasDict=Ac
 dp:pd.depth<=n
 ln:pd.shown.length<=xbd n
inductive ShwA (h:AB) (n:Af):Ad Ai->Ad JO->Prop where
 |nil:ShwA h n [] []
 |cons {u:Ai} {pd:JO} {us:Ad Ai} {pds:Ad JO}:Shw h n u pd->ShwA h n us pds->ShwA h n (u::us) (pd::pds)
theorem QT{h:AB}{n:Af}:∀{us:Ad Ai}{pds:Ad JO},ShwA h n us pds->ReadsAll h us pds []/\Vn pds=Ab/\Vm pds=Ac/\HJ pds<=n/\(∀ t∈DD pds,t.length<=xbd n)/\(DD pds).length=us.length
 |[],[],_=>⟨.nil,rfl,rfl,FJ _,(fun _ h=>nomatch h),rfl⟩
 |u::us,pd::pds,.cons h1 h2=>by
  obtain⟨a,b,c,d,e,f⟩:=QT h2;refine⟨.cons h1.rd a,?_,?_,?_,?_,?_⟩
  ·show (pd.showable&&Vn pds)=Ab;rw[h1.sh,b];rfl
  ·show (pd.hasDict||Vm pds)=Ac;rw[h1.nd,c];rfl
  ·show max pd.depth (HJ pds)<=n;exact Nat.max_le.mpr ⟨h1.dp,d⟩
  ·intro t ht;rcases Ay.mp ht with rfl|ht
   ·exact h1.ln
   ·exact e t ht
  ·show (DD pds).length+1=us.length+1;rw[f]
theorem gO(I:Inv X pI σ H s):∀(n:Af){d:D}{v:V}{u:Ai},xfD n d=Ab->Rep X.K CL H A v d->Bt v u->∃ pd,Shw s.heap n u pd:=by
 intro n
 induction n with
 |zero=>
  intro d v u hx r rv;cases d with
  |int i=>
   have e:v=.int i:=r;subst e;obtain⟨t,rfl⟩:=rv;simp only[xfD,Al,A7]at hx;refine⟨.int i,.int i t,?_,rfl,AU _,?_⟩
   ·show decide (i.natAbs.log2<1920)=Ab;refine Ii (BX (Nat.log2_le_self _) (by omega))
   ·have:=aG ⟨i.toNat,by omega⟩
    rw[show ((i.toNat:Af):Ag)=i by omega]at this
    exact this
  |_=>exact absurd (show Ac=Ab from hx) Ar
 |succ n ih0=>
  intro d v u hx r rv;cases d with
  |tup ds=>
   obtain⟨a,xs,rfl,_,sq,rs⟩:=r;cases rv;obtain⟨its,vs,⟨o,ho,hc,m,hd⟩,hz⟩:=I.tuple sq;simp only[xfD,Al,Dt]at hx;have key:∀{xs:Ad V}{ds:Ad D}{its:Ad Ai},(∀ d∈ds,xfD n d=Ab)->Reps X.K CL H A xs ds->Bb xs its->∃ pds,ShwA s.heap n its pds:=fun {xs}=>by
    induction xs with
    |nil=>
     intro ds its _ rs vs;cases vs;exact⟨[],.nil⟩
    |cons x xs ih=>
     intro ds its hd rs vs;cases ds with
     |nil=>exact rs.elim
     |cons d ds=>
      cases vs with
      |cons v1 v2=>
       obtain⟨pd,h1⟩:=ih0 (hd d AL) rs.1 v1;obtain⟨pds,h2⟩:=ih (fun e he=>hd e (AG _ he)) rs.2 v2
       exact⟨pd::pds,.cons h1 h2⟩
   obtain⟨pds,hf⟩:=key hx.2 rs vs;obtain⟨p1,p2,p3,p4,p5,p6⟩:=QT hf;have l8:its.length<=8:=by
    have h8:=Nat.ble_eq.mp hx.1;rw[<-vs.length,rs.length];exact h8
   refine⟨.tuple pds,.tuple ho hc hd (by simpa using p1),p2,p3,?_,?_⟩
   ·show HJ pds+1<=n+1;omega
   ·show (tupleText (DD pds)).length<=8*xbd n+19;have h1:=tupleText_len_le (DD pds);have h2:=RT (fun t:Aj=>t.length) (DD pds) p5
    have h3:(DD pds).length*xbd n<=8*xbd n:=Nat.mul_le_mul_right _ (by omega)
    omega
  |_=>exact absurd (show Ac=Ab from hx) Ar
end
section
variable{X:Cx}{CL:ClA}
def tFs(K:Fg)(CL:ClA)(i:Af):TE:=fun σ H Q=>∃ v d A n,σ[i]?=Aa (Aa v)/\Rep K CL H A v d/\xfD (n+1) d=Ab/\n<=1/\∀ t:Aj,Q (.str t) H
theorem Y4{e:Ao}{i:Af}{p2 p3:AI}(hu:X.A.units+64<B8)(hg:X.A.guards=Aa [])(hz:z.length<=1000)(he:PE X e (GK i)):PE X (.JoinedStr [.FormattedValue e (-1) Ae p1,.Constant (.str z) k p2] p3) (tFs X.K CL i):=by
 intro pI s σ H Q I ⟨v,d,A,n,hv,r,hx,hn,q⟩;refine wpAny_JoinedStr ?_;show At (model X.prog X.w) X.A (eval (.FormattedValue e (-1) Ae p1) X.env) (fun v s1=>∃ y t,v=.str y t/\(IL++y).length<=sizeLine/\Joins (model X.prog X.w) X.A X.xe [eval (.Constant (.str z) k p2) X.env] (IL++y) _ s1) X.xe s
 refine wpAny_FormattedValue_plain (thn (he pI s σ H (fun x H1=>x=v/\H1=H) I ⟨v,hv,rfl,rfl⟩) fun u s1 ⟨x,H1,I1,r1,e1,e2⟩=>?_)
 subst e1 e2;have zl:sizeLine ≥ 2000:=by decide
 obtain⟨pd,sw⟩:=gO I1 (n+1) hx r r1;cases d with
 |tup ds=>
  obtain⟨a,xs,rfl,_,sq,rs⟩:=r;cases r1;have xb:xbd (n+1)<=500:=by
   have:n=0\/n=1:=by omega
   rcases this with rfl|rfl<;>decide
  have ln:=sw.ln;have dp:=sw.dp;refine formatField_of_reads sw.rd sw.sh (fun z=>by rw[sw.nd]at z;cases z) hg (by omega) (fun _ _ z=>z) (fun h' tk1 tk2 kp=>?_) (by omega)
  have l0:(IL++pd.shown).length<=500:=by
   rw[strLen_append];have:Str.empty.length=0:=rfl;omega
  refine⟨pd.shown,tk1,rfl,by omega,?_⟩
  have I2:Inv X pI σ H1 {s1 with heap:=h',toks:=tk2}:=I1.kept kp
  show At (model X.prog X.w) X.A (eval (.Constant (.str z) k p2) X.env) _ X.xe {s1 with heap:=h',toks:=tk2}
  refine thn (RI (X:=X) pI _ σ H1 (fun x H2=>x=.str z/\H2=H1) I2 ⟨rfl,rfl⟩) fun u2 s2 ⟨x2,H2,I3,r3,e3,e4⟩=>?_
  subst e3 e4;obtain⟨t3,rfl⟩:=r3;have l1:(IL++pd.shown++z).length<=sizeLine:=by
   rw[strLen_append];omega
  exact⟨z,t3,rfl,l1,l1,⟨.str _,H2,I3.tok _,⟨_,rfl⟩,q _⟩⟩
 |_=>cases hx
end
def XEx(e C:Ak)(dx:Am Ak)(t:Ak):AB->Prop:=fun h=>h.get? e=Aa (FW C dx t)
theorem Ob{e C:Ak}{t:Ak}:∀ h1 h2:AB,XEx e C dx t h1->(∀ o,h1.get? e=Aa o->h2.get? e=Aa o)->XEx e C dx t h2:=fun _ _ p k=>k _ p
section
variable{X:Cx}{CL:ClA}{C:Ak}{nm q:Aj}{N:Ak}{bs bm:Ad Ai}{hdct:An}{sn:Ad Aj}{sub:Ad Ai}{ab:An}{col:Am An}{dd:Am Ak}{k0 k1 k2 k3 k5:Am Ai}
theorem WU{apos:AI}{es ej:Ao}{i j:Af}(hob:∀ h:AB,X.K.In h->h.get? C=Aa (Ci nm q C N bs bm hdct sn sub ab col dd k0 k1 k2 k3 k5 "ValueError.__new__")/\DT h veB bm)(hg:Gl X g)(hm:X.mg g=Aa (.ref OV))(hdb:(g==("__debug__" : Aj))=Ac)(s1:Ep X.K (.ref OV) "__getattribute__" = Aa (Aa (.builtin "type.__getattribute__")))(s2:E7 X.K OV (.type "type")=Ab)(s3:E6 X.K (.ref OV) (.type "type") "__init__" = Aa (.val (.builtin "ValueError.__init__")))(hline:(apos.endLine==cpos.line)=Ab)(he:PE X es (GK i))(hj:PE X ej (tFs X.K CL j))(sA:Ax [es,ej] X.env=(Ac,eval es X.env)::Ax [ej] X.env)(sB:Ax [ej] X.env=[(Ac,eval ej X.env)]):
  PE X (.Call (.Attribute (.Name g np) "__init__" apos) [es,ej] [] cpos) (fun σ H Q=>∃ e dx t v d A n,σ[i]?=Aa (Aa (.ref e))/\H e=Aa (.ext (XEx e C dx t))/\σ[j]?=Aa (Aa v)/\Rep X.K CL H A v d/\xfD (n+1) d=Ab/\n<=1/\∀ t',Q .non (upd H e (.ext (XEx e C dx t')))):=by
 have st1:Ax [es,ej] X.env=[(Ac,eval es X.env),(Ac,eval ej X.env)]:=by rw[sA,sB]
 intro pI s σ H Q I ⟨e,dx,t,v,d,A,n,h1,h2,h3,r,hx,hn,hq⟩;rw[arm_eval_Call];refine Ah (show At (model X.prog X.w) X.A (eval (.Name g np) X.env) _ X.xe s from IW I hg hm ?_ hdb)
 refine Ah (DI ?_);have form:methodCallForm ([es,ej].length+([]:Ad JW).length) (Ce cpos (Ax [es,ej] X.env)) (backToKw cpos (keywordEach [] X.env))=Ab:=by
  rw[st1];rfl
 have mpos:methodCallPos Ab (.Name g np) X.env apos cpos=pure cpos:=by
  unfold methodCallPos;simp[hline]
 unfold methodCall;rw[form];refine Ah (Bv (PySem.W.method_cls I.kIn s1 (PySem.W.cls_value I.kIn s2 s3 rfl ?_)));refine Ah (HP mpos ?_);have I1:=I.tok (s.toks+1);have pa:PA X [es,ej] _:=Eb he (Eb hj GD sB) sA;have hA:=pa cpos pI {s with toks:=s.toks+1} σ H (fun xs H'=>H'=H/\∃ z,xs=[.ref e,.str z]) I1 ⟨_,h1,⟨v,d,A,n,h3,r,hx,hn,fun z=>⟨rfl,z,rfl⟩⟩⟩
 rw[st1]at hA ⊢;refine Calls.callWith_builtin rfl (Gg (thn hA fun us s2 ⟨xs,H2,I2,rv,e2,z,ex⟩=>?_))
 subst e2 ex;obtain⟨u1,u2,rfl,ru1,ru2⟩:=Lo rv;cases ru1;obtain⟨tk,rfl⟩:=ru2;obtain⟨gC,T⟩:=hob _ I2.kIn;have ge:XEx e C dx t s2.heap:=(I2.hok e _ h2).1;obtain⟨hp,g2,d2,tk2,os2⟩:=s2;refine bH EO T gC ge fun h' t' kp ge'=>?_
 refine⟨.non,_,I2.write (x:=e) (e:=e) (o:=.ext (XEx e C dx t')) (t':=tk2) (by rw[h2];exact trivial) (.inl rfl) kp ⟨_,ge'⟩ ⟨ge',⟨_,ge'⟩,Ob⟩,rfl,hq t'⟩
end
theorem V4{bmB bm:Ad Ai}(T:DT h bmB bm){self:Ai}{what:Aj}(hb:refuseLoop self what bmB=pure ()):refuseLoop self what bm=pure ():=by
 induction T with
 |base=>exact hb
 |own _ _ _ _ ih=>rw[VH];exact ih
section
variable{prog:AK}{w:AY}{A:AV}{E:Vq}{h:AB}{g:AX Fc}{d:HI}{tk0:Af}{os:He}{K:Fg}
variable{nm q:Aj}{C N e t:Ak}{bs bm bmB:Ad Ai}{sn:Ad Aj}{sub:Ad Ai}{ab:An}{col:Am An}{dd:Am Ak}{k0 k1 k2 k3 k5:Am Ai}{B newId sa owner:Dh}
theorem Yw{Q:Fin->Aq->Prop}{v:Ai}(X:K.In h)(SF:JQ B bmB sa owner)(T:DT h bmB bm)(gC:h.get? C=Aa (Ci nm q C N bs bm Ab sn sub ab col dd k0 k1 k2 k3 k5 newId))(hf:Av K (.ref C) name=Aa Ae)(ge:h.get? e=Aa (FW C Ae t))(hq:∀ h' dx tk',(∀ b o,b≠e->h.get? b=Aa o->h'.get? b=Aa o)->h'.get? e=Aa (FW C (Aa dx) t)->h.get? dx=Ae->h'.Ns1 dx (fun y=>if y=name then Aa v else Ae)->Q (.done (.ret .none)) ⟨h',g,d,tk',os⟩):At (model prog w) A (Builtin.«object.__setattr__» ⟨[.ref e,.str name tk,v],[]⟩) Q E ⟨h,g,d,tk0,os⟩:=by
  have pass:=V4 T (SF.passes (.ref e));have L1:=Cu (M:=model prog w) X hf;obtain⟨o,ho⟩:∃ o,FW C Ae t=o:=⟨_,rfl⟩;rw[ho]at ge;have oc:o.cls=.ref C:=by rw[<-ho];rfl
  unfold Builtin.«object.__setattr__»
  repeat (first|rw[refuse_eq]|(rw[VH,pass])|(with_reducible refine B7 ge ?_;rw[oc])|(with_reducible refine wpAny_mroOf_exc gC ?_)|(with_reducible refine L1.at ?_)|(with_reducible refine Ah (L1.at ?_))|wp_step)
  have od:o.dict=Ae:=by rw[<-ho];rfl
  have odt:o.data=.fields #[.ref t,.none,.none,.none,.bool Ac,.none]:=by rw[<-ho];rfl
  rw[od,odt,AM (by simp[typeHasDict])]
  let D:Cz:={ cls:=.type "dict", data:=.dict #[] }
  have g1:(h.push D).get? e=Aa o:=Ap _ ge;have ne:e≠h.objs.size:=A1 (AC ge);refine Ah (wpAny_alloc' ?_);refine Ah (wpAny_update' g1 ?_);refine As ?_
  let U:Cz->Cz:=fun o=>{cls:=o.cls,dict:=Aa h.objs.size,data:=o.data,slots:=o.slots}
  have gD:((h.push D).update e U).get? h.objs.size=Aa D:=(Vh _ _ _ _ ne.symm).trans (Vf rfl rfl);have nD:((h.push D).update e U).Ns h.objs.size (fun _=>Ae):=⟨_,#[],_,gD,rfl,fun z hz=>absurd hz (by simp),fun _=>rfl⟩
  change At _ _ (UT h.objs.size (.str name tk) name v) _ _ _;unfold UT Builtin.ObjectAttr.newKeyGuard;refine Ah (As (Ah (wpAny_nsSet1 (Heap.Ns1.of_empty nD) fun k hk hs=>?_)))
  obtain⟨oD,eD,pD,q1,q2,q3⟩:=hk.count (Within.cons name v Within.nil);have le:oD.data.pastItsLine=Ae:=by
    rw[q2];refine pastItsLine_dict (BR q3 ?_);rw[By,List.length_nil,C4];omega
  refine Ah (wpAny_lookBehind q1 le ?_)
  wp_walk
  refine hq k h.objs.size _ (fun b ob nb hb=>?_) ?_ (Dg (AU _)) hk
  · rw[hs.2 b (A1 (AC hb)),Vh _ _ _ _ nb];exact Ap _ hb
  · rw[hs.2 e ne];have:Aa (FW C (Aa h.objs.size) t)=Aa (U o):=by rw[<-ho];rfl
    rw[this];exact Bw _ g1 (by rw[<-ho];rfl)
end
section
variable{prog:AK}{w:AY}{A:AV}{E:Vq}{h:AB}{g:AX Fc}{d:HI}{tk0:Af}{os:He}{K:Fg}
variable{nm q:Aj}{C N e t:Ak}{bs bm bmB:Ad Ai}{sn:Ad Aj}{sub:Ad Ai}{ab:An}{col:Am An}{dd:Am Ak}{k0 k1 k2 k3 k5:Am Ai}{B newId sa owner:Dh}
theorem Yx{o:Cz}{a b:Ai}(SF:JQ B bmB sa owner)(T:DT h bmB bm)(gC:h.get? C=Aa (Ci nm q C N bs bm Ab sn sub ab col dd k0 k1 k2 k3 k5 newId))(ge:h.get? e=Aa o)(hc:o.cls=.ref C)(hq:Q () ⟨h,g,d,tk0,os⟩):At M A (D4 sa ⟨[.ref e,a,b],[]⟩) Q E ⟨h,g,d,tk0,os⟩:=by
 have hb:(Bo C::bm).contains (.type owner)=Ab:=by rw[GQ,T.hasType SF.hasOwner,Hi]
 have ha:=SF.args (.ref e) a b;simp only[D4,SF.kind,SF.split];refine Ah ?_;unfold Hc
 repeat (first|(with_reducible refine B7 ge ?_;rw[hc])|(with_reducible refine EV gC ?_;rw[hb])|wp_step)
 unfold argsOk at ha;split
 ·rename_i sig hs;rw[hs]at ha;refine HP ha ?_;exact hq
 ·exact As hq
theorem bE{v:Ai}(X:K.In h)(SF:JQ B bmB sa owner)(T:DT h bmB bm)(gC:h.get? C=Aa (Ci nm q C N bs bm Ab sn sub ab col dd k0 k1 k2 k3 k5 newId))(hf:Av K (.ref C) name=Aa Ae)(hs:Av K (.ref C) "__setattr__" = Aa (Aa (.builtin sa)))(ge:h.get? e=Aa (FW C Ae t))(hq:∀ h' dx tk',(∀ b o,b≠e->h.get? b=Aa o->h'.get? b=Aa o)->h'.get? e=Aa (FW C (Aa dx) t)->h.get? dx=Ae->h'.Ns1 dx (fun y=>if y=name then Aa v else Ae)->Q () ⟨h',g,d,tk',os⟩):At (model prog w) A (setAttr (.ref e) name v) Q E ⟨h,g,d,tk0,os⟩:=by
 have f3:=SF.slot.bind (.ref e);have L1:=Cu (M:=model prog w) X hs;obtain⟨o,ho⟩:∃ o,FW C Ae t=o:=⟨_,rfl⟩;have oc:o.cls=.ref C:=by rw[<-ho];rfl
 have ge':=ge;rw[ho]at ge';unfold setAttr IM specialOf
 repeat (any_goals (first|assumption|(with_reducible refine B7 ge' ?_;rw[oc])|(with_reducible refine Ah (L1.at ?_))|(with_reducible refine L1.at ?_)|wp_step))
 refine DQ SF.slot.plain SF.entry (Yx SF T gC ge' oc (Yw X SF T gC hf ge fun h' dx tk' k1 k2 k3 k4=>?_))
 repeat (any_goals (first|assumption|wp_step))
 exact hq h' dx tk' k1 k2 k3 k4
end
section
variable{X:Cx}{pI:Pn}{σ:L2.St}{H:Hp}{s:Aq}{e:Ak}
theorem Re{o:HO}(I:Inv X pI σ H s)(ha:G7 X pI e)(hH:H e=Ae)(ho:ObjOk X.prog X.w (upd H e o) s.heap e o):Inv X pI σ (upd H e o) s:=by
 have ne:∀ b o,H b=Aa o->b≠e:=fun b o q z=>by rw[z,hH]at q;cases q
 refine⟨I.ok,I.os,I.bare,⟨I.base.keep,I.base.slot,fun b o q n hb=>?_,I.base.there,fun b xs q=>?_,fun b o u q=>?_,fun b ps q=>?_⟩,I.loc,I.cell,?_,fun x c q=>?_,fun p hp=>?_,fun b o q=>?_,I.len⟩
 ·rw[Bq fun z=>by rw[z,ha.2.2.2]at q;cases q]
  exact I.base.free b o q n hb
 ·have:=I.base.tups b xs q;rw[Bq (ne _ _ this)];exact this
 ·have:=I.base.frzs b o u q;rw[Bq (ne _ _ this)];exact this
 ·obtain⟨more,this⟩:=I.base.tbls b ps q;exact⟨more,by rw[Bq (ne _ _ this)];exact this⟩
 ·rw[Bq fun z=>ha.1 z.symm];exact I.free
 ·rw[Bq (ha.2.1 x c q)];exact I.freeC x c q
 ·obtain⟨q,n,r⟩:=I.pin p hp;exact⟨q,by rw[Bq (ha.2.2.1 p hp)];exact n,r⟩
 ·by_cases hb:b=e
  ·subst hb;rw[Ff]at q;cases q;exact ho
  ·rw[Bq hb]at q;exact(I.hok b o q).stay (fun c v hc z=>z) (fun c z=>by rw[Bq (ne _ _ z)];exact z) fun c zs z=>by rw[Bq (ne _ _ z)];exact z
theorem XQ(I:Inv X pI σ H s)(hH:H e=Aa (.ext φ))(h0:X.s₀.heap.get? e=Ae)(h1:X.ex=[]->HQ):Inv X pI σ (fun b=>if b=e then Ae else H b) s:=by
 have get:∀ b o,(if b=e then Ae else H b)=Aa o->b≠e/\H b=Aa o:=fun b o q=>by
  by_cases z:b=e
  ·rw[AF z]at q;cases q
  ·rw[AM z]at q;exact⟨z,q⟩
 have put:∀ b o,H b=Aa o->o≠.ext φ->(if b=e then Ae else H b)=Aa o:=fun b o q n=>by
  by_cases z:b=e
  ·rw[z,hH]at q;cases q;exact absurd rfl n
  ·rw[AM z];exact q
 have non:∀ b,H b=Ae->(if b=e then Ae else H b)=Ae:=fun b q=>by
  by_cases z:b=e
  ·rw[AF z]
  ·rw[AM z];exact q
 refine⟨I.ok,I.os,I.bare,⟨fun b o q n hb hx=>?_,I.base.slot,fun b o q n hb=>?_,I.base.there,fun b xs q=>?_,fun b o u q=>?_,fun b ps q=>?_⟩,I.loc,I.cell,non _ I.free,fun x c q=>non _ (I.freeC x c q),fun p hp=>?_,fun b o q=>?_,I.len⟩
 ·exact I.base.keep b o q n hb hx
 ·exact non b (I.base.free b o q n hb)
 ·exact put b _ (I.base.tups b xs q) (by intro z;cases z)
 ·exact put b _ (I.base.frzs b o u q) (by intro z;cases z)
 ·obtain⟨more,this⟩:=I.base.tbls b ps q;exact⟨more,put b _ this (by intro z;cases z)⟩
 ·obtain⟨q,n,r⟩:=I.pin p hp;exact⟨q,non _ n,r⟩
 ·obtain⟨nb,q⟩:=get b o q;exact(I.hok b o q).stay (fun c v hc z=>z) (fun c z=>put c _ z (by intro z;cases z)) fun c zs z=>put c _ z (by intro z;cases z)
end
section
variable{X:Cx}{C:Ak}{nm q:Aj}{N:Ak}{bs bm:Ad Ai}{sn:Ad Aj}{sub:Ad Ai}{ab:An}{col:Am An}{dd:Am Ak}{k0 k1 k2 k3 k5:Am Ai}
theorem YZ{i j:Af}{f:Aj}{eo ev:Ao}{p8 p10:AI}(hob:∀ h:AB,X.K.In h->h.get? C=Aa (Ci nm q C N bs bm Ab sn sub ab col dd k0 k1 k2 k3 k5 "ValueError.__new__")/\DT h veB bm)(hx:X.ex=[])(hf:Av X.K (.ref C) f=Aa Ae)(hs:Av X.K (.ref C) "__setattr__" = Aa (Aa (.builtin "object.__setattr__")))(he:PE X eo (GK i))(hv:PE X ev (GK j))(sw:Do ev (Aa (.Attribute eo f p8)) p10.line X.env=pure Ac):PS X (.Assign [.Attribute eo f p8] ev p10) (fun D σ H=>∃ e t v,σ[i]?=Aa (Aa (.ref e))/\H e=Aa (.ext (XEx e C Ae t))/\σ[j]?=Aa (Aa v)/\∀ dx,H dx=Ae->dx≠e->D.nx σ (upd (upd H e (.ext (XEx e C (Aa dx) t))) dx (.xd [(f,v)]))):=by
 intro pI s σ H D I ⟨e,t,v,h1,h2,h3,hq⟩;refine plainObj_wpAny_Assign_Attribute (thn (hv pI s σ H (fun x H1=>x=v/\H1=H) I ⟨v,h3,rfl,rfl⟩) fun u s1 ⟨x,H1,I1,r1,e1,e2⟩=>?_) sw
 subst e1 e2;refine thn (he pI s1 σ H1 (fun x H2=>x=.ref e/\H2=H1) I1 ⟨_,h1,rfl,rfl⟩) fun u2 s2 ⟨x2,H2,I2,r2,e3,e4⟩=>?_
 subst e3 e4;cases r2;obtain⟨gC,T⟩:=hob _ I2.kIn;have ge:XEx e C Ae t s2.heap:=(I2.hok e _ h2).1;obtain⟨hp,g2,d2,tk2,os2⟩:=s2;refine bE I2.kIn PySem.F.store_ValueError T gC hf hs ge fun h' dx tk' kp ge' nd ns=>?_
 have nH:H2 dx=Ae:=Kk I2.hok nd;have nde:dx≠e:=fun z=>by rw[z,h2]at nH;cases nH
 have ap:G7 X pI dx:=K7 I2 hx nd;have I3:=I2.write (x:=e) (e:=e) (o:=.ext (XEx e C (Aa dx) t)) (t':=tk') (by rw[h2];exact trivial) (.inl rfl) kp ⟨_,ge'⟩ ⟨ge',⟨_,ge'⟩,Ob⟩
 have I4:=Re (o:=.xd [(f,x)]) I3 ap (by rw[Bq nde];exact nH) ⟨_,ns,fun y=>by
  by_cases z:y=f
  ·subst z;rw[AF rfl];simp only[FI,HG];exact r1
  ·rw[AM z];have:(y==f)=Ac:=by simp[z]
   simp only[FI,this]
   trivial⟩
 exact⟨σ,_,I4,hq dx nH nde⟩
end
noncomputable def Fj(K:Fg)(C:Ak):An:=match K.lookup C with
  |some ⟨_,_,.cls c,_⟩=>c.hasDict
  |_=>Ac
noncomputable def Pc(g par f z:Aj)(k:Af)(np apos p1 p2 p3 p4 p5 cpos p6 p7 p8 p9 p10:AI):Ad A4:=
 [.Expr (.Call (.Attribute (.Name g np) "__init__" apos) [.Name "self" p1,.JoinedStr [.FormattedValue (.Name par p2) (-1) Ae p3,.Constant (.str z) k p4] p5] [] cpos) p6,.Assign [.Attribute (.Name "self" p7) f p8] (.Name par p9) p10]
inductive XIn (K:Fg) (mg:Aj->Am Ai) (C:Ak) (f:Aj):Prop
 |mk {fI OV:Ak} {x qual g par z:Aj} {st:A4} {fd:BS} {k:Af} {np apos p1 p2 p3 p4 p5 cpos p6 p7 p8 p9 p10:AI} (xc:DS K C (Aa (.ref fI))=Ab) (dc:Fj K C=Ab) (fn:Fun K x qual st fI fd) (ty:Dc K (.ref fI)=Aa (.type "function"))
  (S:FnScope ["self", par] ["self", par] (CA st)) (l1:(CA st).names.lookup ("self" : Aj)=Aa .local) (l2:(CA st).names.lookup par=Aa .local) (bd:FC K fd ["self", par] []) (body:Fx st=Pc g par f z k np apos p1 p2 p3 p4 p5 cpos p6 p7 p8 p9 p10)
  (gl:(CA st).names.lookup g=Aa .globalImplicit) (mo:mg g=Aa (.ref OV)) (dg:(g==("__debug__" : Aj))=Ac) (dp:(par==("__debug__" : Aj))=Ac) (dq:(par==("__classdict__" : Aj))=Ac)
  (s1:Ep K (.ref OV) "__getattribute__" = Aa (Aa (.builtin "type.__getattribute__"))) (s2:E7 K OV (.type "type")=Ab) (s3:E6 K (.ref OV) (.type "type") "__init__" = Aa (.val (.builtin "ValueError.__init__")))
  (hl:(apos.endLine==cpos.line)=Ab) (hz:z.length<=1000) (hf:Av K (.ref C) f=Aa Ae) (hs:Av K (.ref C) "__setattr__" = Aa (Aa (.builtin "object.__setattr__"))):XIn K mg C f
section
variable{P:AK}{w:AY}{K:Fg}{mg:Aj->Am Ai}{base:AB}{CL:ClA}{C fI OV:Ak}{x qual g par z f:Aj}{st:A4}{fd:BS}{k:Af}{np apos p1 p2 p3 p4 p5 cpos p6 p7 p8 p9 p10:AI}
variable{nm q:Aj}{N:Ak}{bs bm:Ad Ai}{sn:Ad Aj}{sub:Ad Ai}{ab:An}{col:Am An}{dd:Am Ak}{k0 k1 k2 k3 k5:Am Ai}
theorem aH(hob:∀ h:AB,K.In h->h.get? C=Aa (Ci nm q C N bs bm Ab sn sub ab col dd k0 k1 k2 k3 k5 "ValueError.__new__")/\DT h veB bm)(fn:Fun K x qual st fI fd)(S:FnScope ["self", par] ["self", par] (CA st))(l1:(CA st).names.lookup ("self" : Aj)=Aa .local)(l2:(CA st).names.lookup par=Aa .local)(bd:FC K fd ["self", par] [])(body:Fx st=Pc g par f z k np apos p1 p2 p3 p4 p5 cpos p6 p7 p8 p9 p10)(gl:(CA st).names.lookup g=Aa .globalImplicit)(mo:mg g=Aa (.ref OV))(dg:(g==("__debug__" : Aj))=Ac)(dp:(par==("__debug__" : Aj))=Ac)(dq:(par==("__classdict__" : Aj))=Ac)(s1:Ep K (.ref OV) "__getattribute__" = Aa (Aa (.builtin "type.__getattribute__")))(s2:E7 K OV (.type "type")=Ab)(s3:E6 K (.ref OV) (.type "type") "__init__" = Aa (.val (.builtin "ValueError.__init__")))(hl:(apos.endLine==cpos.line)=Ab)(hz:z.length<=1000)(hf:Av K (.ref C) f=Aa Ae)(hs:Av K (.ref C) "__setattr__" = Aa (Aa (.builtin "object.__setattr__"))){A:AV}{outer:Ad Ch}{s:Aq}{E:XK}{e t:Ak}{v:V}{u:Ai}{n:Af}(hh:A.handled=Ae)(hdp:A.depth<GB)(hun:A.units+70<B8)(hgd:A.guards=Aa [])(e0:Env0 P w K mg base A outer s H)(he:H e=Aa (.ext (XEx e C Ae t)))(rp:Rep K CL H B v d)(hx:xfD (n+1) d=Ab)(hn:n<=1)(r:Bt v u):Ez (model P w) A (.call (.ref fI) ⟨[.ref e,u],[]⟩) (CR Iy outer P w H s (fun y H'=>y=.non/\∃ t' dx,H dx=Ae/\dx≠e/\H'=upd (upd H e (.ext (XEx e C (Aa dx) t'))) dx (.xd [(f,v)])) E) s:=by
 obtain⟨oc,od,kV,doc,pm,an,cdv,ct,osl,rfl,lk,hcd⟩:=fn.ex;have KX:K.In s.heap:=e0.mod.kin.keeps fun b o e=>(e0.bs b o e).1
 have lim:s.heap.NoLimit:=e0.mod.nolimit.keeps fun b o e=>(e0.bs b o e).1
 have hkind:∀ y∈(["self", par]:Ad Aj).zip [Bo e,u],(CA st).names.lookup y.1=Aa .local\/((CA st).names.lookup y.1=Aa .cell/\((CO (s.heap.objs.size+1) (CA st).names []).lookup y.1).isSome=Ab):=fun y hy=>by
  refine .inl ?_;rcases Ay.mp hy with rfl|hy
  ·exact l1
  ·rw[Bu.mp hy];exact l2
 have rv:Bb [.ref e,v] [.ref e,u]:=.cons rfl (.cons r .nil);refine F7 hdp (KX _ _ lk) rfl S.co S.gen rfl (GV KX hcd) (bd s [.ref e,u] KX rfl _ _ _ _ ?_);refine ES S.kind hkind fun env hen s1' x=>?_
 subst hen;refine⟨lim.keeps x.toInCall.keep,IP ?_⟩;have I:Inv (EB Iy P w K mg base ["self", par] qual (CA st) fI cdv A outer s H E) [] (start ["self", par] [.ref e,v]) H s1':=Nu S hh e0 rfl rv x;generalize hX:EB Iy P w K mg base ["self", par] qual (CA st) fI cdv A outer s H E=X at I;have pself:∀ p,PE X (.Name "self" p) (GK 0):=fun p=>by rw[<-hX];exact Mm rfl (.inl l1)
 have ppar:∀ p,PE X (.Name par p) (GK 1):=fun p=>by rw[<-hX];exact Mm rfl (.inl l2) dp dq
 have st1:=WU (X:=X) (CL:=CL) (C:=C) (g:=g) (np:=np) (apos:=apos) (cpos:=cpos) (i:=0) (j:=1) (OV:=OV) (by rw[<-hX];exact hob) (by rw[<-hX];exact gl) (by rw[<-hX];exact mo) dg (by rw[<-hX];exact s1) (by rw[<-hX];exact s2) (by rw[<-hX];exact s3) hl (pself p1)
  (Y4 (k:=k) (p1:=p3) (p2:=p4) (p3:=p5) (by rw[<-hX];show A.units+3+64<B8;omega) (by rw[<-hX];exact hgd) hz (ppar p2)) rfl rfl
 have st2:=YZ (X:=X) (p8:=p8) (p10:=p10) (by rw[<-hX];exact hob) (by rw[<-hX];rfl) (by rw[<-hX];exact hf) (by rw[<-hX];exact hs) (pself p7) (ppar p9) rfl
 have all:=Qp (L9 (pos:=p6) st1 rfl) (Lh st2);have hk:=all [] s1' _ H {nx:=fun _ H'=>∃ t' dx,H dx=Ae/\dx≠e/\H'=upd (upd H e (.ext (XEx e C (Aa dx) t'))) dx (.xd [(f,v)]),rt:=fun _ _=>AS} I ⟨e,Ae,t,v,d,B,n,rfl,he,rfl,by rw[<-hX];exact rp,hx,hn,fun t'=>⟨e,t',v,rfl,Ff,rfl,fun dx h1 h2=>⟨t',dx,by rw[Bq h2]at h1;exact h1,h2,by rw[Q1]⟩⟩⟩
 rw[body];refine Ba (by rw[<-hX]at hk;exact hk) (fun fl s' hfl=>?_) fun ev s' hev=>hev
 cases fl with
 |next=>
  obtain⟨σ',H',J,w'⟩:=hfl;exact⟨.non,H',J.os,J.bare,J.base,J.hok,rfl,rfl,w'⟩
 |ret y=>obtain⟨_,_,_,_,_,w'⟩:=hfl;exact w'.elim
 |brk=>obtain⟨_,_,_,w'⟩:=hfl;exact w'.elim
 |cont=>obtain⟨_,_,_,w'⟩:=hfl;exact w'.elim
end
theorem SG:∀(n m:Af)(d:D),xfD n d=Ab->n+1<=m->nlD m d=Ab
 |0,m+1,.int i,_,_=>rfl
 |n+1,m+1,.tup ds,h,hm=>by
  have h':(C9 ds.length 8&&ds.all (xfD n))=Ab:=h;rw[Al]at h';show ds.all (nlD m)=Ab;rw[Dt]at h' ⊢;exact fun x hx=>SG n m x (h'.2 x hx) (by omega)
 |0,_,.tup _,h,_=>nomatch h
 |n+1,_,.int _,h,_=>nomatch h
section
variable{X:Cx}{CL:ClA}{W:XW}
def MB(xn:Af->Ad D->R Ex)(c:Af)(f:Aj)(ds:Ad D):Prop:=∃ d n,ds=[d]/\xfD (n+1) d=Ab/\n<=1/\xn c ds=.ok ⟨c,[(f,d)]⟩
theorem Wd{e:Ao}{es:Ad Ao}(hcalm:X.calm=Ab)(hx:X.ex=[])(hr:Room k X.A)(rz:LA X CL W)(hg:Gl X g)(hm:X.mg g=Aa (.ref C))(hdb:(g==("__debug__" : Aj))=Ac)(hcl:CL c=Aa C)(ha:SA X CL W (e::es) fs)(hxn:∀ ds,xn c ds=.bad\/(xn c ds=.ok ⟨c,[]⟩/\DS X.K C Ae=Ab)\/∃ f,XIn X.K X.mg C f/\MB xn c f ds)(he:Ax (e::es) X.env=(Ac,eval e X.env)::Ax es X.env)(hpl:∀ pos,(Ce pos (Ax es X.env)).any (·.1)=Ac)(hz:∀ ρ ds,fs ρ=.ok ds->ds.length<=100000):SS X CL W (.Raise (Aa (.Call (.Name g np) (e::es) [] cpos)) Ae pos) (fun ρ=>O.of ρ (noX (fs ρ)) fun xs=>O.of ρ (xn c xs) fun x=>.exn x ρ):=fun Fz B pI s σ H D I ⟨ρ,x,p⟩=>by
 have hpl':(Ce cpos (Ax (e::es) X.env)).any (·.1)=Ac:=by rw[he];show (Ac||(Ce cpos (Ax es X.env)).any (·.1))=Ac;rw[hpl];rfl
 cases e1:fs ρ with
 |bad=>dsimp only at p;rw[e1]at p;exact p.elim
 |exn y=>dsimp only at p;rw[e1]at p;exact p.elim
 |ok ds=>
  rcases hxn ds with e2|⟨e2,xc⟩|⟨f,xi,d,n,rfl,xf,hn,e2⟩
  ·dsimp only at p;rw[e1]at p;have p2:BU X.K CL Fz B W (O.of ρ (xn c ds) fun x=>.exn x ρ) D:=p
   rw[e2]at p2;exact p2.elim
  ·refine W6 (fs:=fs) (xn:=fun _ ds'=>match xn c ds' with | .ok ⟨_,[]⟩=>.ok ⟨c,[]⟩|_=>.bad) hcalm rz hg hm hdb xc hcl ha (fun ds'=>by
    split
    ·exact .inr rfl
    ·exact .inl rfl) he hpl hz Fz B pI s σ H D I ⟨ρ,x,?_⟩
   dsimp only at p ⊢;rw[e1]at p ⊢;have p2:BU X.K CL Fz B W (O.of ρ (xn c ds) fun x=>.exn x ρ) D:=p
   rw[e2]at p2;show BU X.K CL Fz B W (O.of ρ (match xn c ds with | .ok ⟨_,[]⟩=>(.ok ⟨c,[]⟩:R Ex)|_=>.bad) fun x=>.exn x ρ) D
   rw[e2];exact p2
  ·dsimp only at p;rw[e1]at p;have p2:BU X.K CL Fz B W (O.of ρ (xn c [d]) fun x=>.exn x ρ) D:=p
   rw[e2]at p2;have p3:∀ H,(∀ b o,Fz b o->H b=Aa o)->W ⟨c,[(f,d)]⟩ H:=p2;cases xi with
   |mk xc dc fn ty S l1 l2 bd body gl mo dg dp dq w1 w2 w3 hl hz0 hf hs=>
    rename_i fI OV x0 qual g0 par z st fd k0' np0 apos q1 q2 q3 q4 q5 cpos0 q6 q7 q8 q9 q10;obtain⟨bm,N,nm,qn,bs,hd,sn,sub,ab,col,dd,k0,k1,k2,k3,k5,mN,hob,hni,hbase⟩:=NR I.kIn xc;have hdt:hd=Ab:=by
     unfold Fj at dc;split at dc
     ·rename_i c0 d0 cd sl lk;have g1:=I.kIn _ _ lk;rw[(hob _ I.kIn).1]at g1;unfold Ci at g1;cases g1;exact dc
     ·cases dc
    subst hdt;have hob2:∀ h:AB,X.K.In h->h.get? C=Aa (Ci nm qn C N bs bm Ab sn sub ab col dd k0 k1 k2 k3 k5 "ValueError.__new__")/\DT h veB bm:=fun h z=>⟨(hob h z).1,(hob h z).2.2⟩
    refine XD (bmB:=veB) (nm:=nm) (q:=qn) (C:=C) (N:=N) (fI:=fI) (bs:=bs) (bm:=bm) (hdct:=Ab) (sn:=sn) (sub:=sub) (ab:=ab) (col:=col) (dd:=dd) (k0:=k0) (k1:=k1) (k2:=k2) (k3:=k3) (k5:=k5) (mN:=mN) EO hbase (I.ok.hd hcalm) hpl' hni ?_;refine IW I hg hm ⟨rfl,?_⟩ hdb;have q1:=ha (BL B ρ σ) cpos pI s σ H (fun vs H1=>AE H H1/\Reps X.K CL H1 (BL B ρ σ) vs [d]) I ⟨x.aok,ρ,x.good,by rw[e1];exact fun vs H1 s1 r1=>⟨s1,r1⟩⟩
    rw[he]at q1 ⊢;refine Gg (Ba q1 (fun us s2 ⟨vs,H2,I2,r2,sm2,rps⟩=>⟨rfl,?_⟩) fun _ _ z=>z)
    cases vs with
    |nil=>exact rps.elim
    |cons v vs=>
     cases vs with
     |cons=>exact rps.2.elim
     |nil=>
      obtain⟨u,rfl,ru⟩:=Ky r2;obtain⟨o1,o2,o3⟩:=hob _ I2.kIn;obtain⟨oc,od,kV,doc,pm,an,cdv,ct,osl,efd,lk,hcd⟩:=fn.ex;have coc:oc=.type "function" := by
       have ty':(X.K.lookup fI).map _=_:=ty;rw[lk]at ty';exact Bh ty'
      refine⟨by rw[C4];show 1<=_;omega,o1,o2,o3,⟨_,I2.kIn _ _ lk,coc⟩,fun h' e0 made=>?_⟩
      obtain⟨t,ge,_⟩:=made.there;have I3:Inv X pI σ H2 {s2 with heap:=h'}:=I2.kept (t':=s2.toks) made.keeps
      have ap:G7 X pI e0:=K7 I2 hx made.new;have n0:H2 e0=Ae:=Kk I2.hok made.new;have I4:=Re (o:=.ext (XEx e0 C Ae t)) I3 ap n0 ⟨ge,⟨_,ge⟩,Ob⟩;have sm4:AE H2 (upd H2 e0 (.ext (XEx e0 C Ae t))):=fun b o z=>by rw[Bq fun y=>by rw[y,n0]at z;cases z];exact z
      have ru0:=hr.mono (FJ k);have run:=aH (P:=X.prog) (w:=X.w) (mg:=X.mg) (base:=X.base) (CL:=CL) (E:=fun _ _ _=>AS) (B:=BL B ρ σ) (H:=upd H2 e0 (.ext (XEx e0 C Ae t))) (t:=t) hob2 fn S l1 l2 bd body gl mo dg dp dq w1 w2 w3 hl hz0 hf hs (A:=X.A.under (.builtin "type.__call__" ⟨.ref C::[u],[]⟩)) (outer:=X.stack) hr.hd (by rw[Wv];have:=ru0.dp;omega) (by rw[Wu];have:=ru0.un;omega) hr.gd (I4.env0.make C [u] []) Ff (Rep.same sm4 rps.1) xf hn ru
      refine Gk (Fe run fun r s' hq=>?_)
      cases r with
      |error _=>exact A9 hq
      |ok fl=>
       cases fl with
       |next=>exact A9 hq
       |brk=>exact A9 hq
       |cont=>exact A9 hq
       |ret u'=>
        obtain⟨v',H5,I5,rr,ev,t',dx,ndx,dne,eH⟩:=I4.after hq;subst ev;cases rr;have nd2:H2 dx=Ae:=by rw[Bq dne]at ndx;exact ndx
        rw[Q1]at eH;have H5e:H5 e0=Aa (.ext (XEx e0 C (Aa dx) t')):=by rw[eH,Bq (Ct dne),Ff]
        have ge5:XEx e0 C (Aa dx) t' s'.heap:=(I5.hok e0 _ H5e).1;have I6:=XQ I5 H5e ap.2.2.2 fun _=>trivial
        have H6d:(if dx=e0 then Ae else H5 dx)=Aa (.xd [(f,v)]):=by rw[AM dne,eH,Ff]
        have sm6:AE H2 (fun b=>if b=e0 then Ae else H5 b):=fun b o z=>by
         have nb:b≠e0:=fun y=>by rw[y,n0]at z;cases z
         have nb2:b≠dx:=fun y=>by rw[y,nd2]at z;cases z
         show (if b=e0 then Ae else H5 b)=Aa o
         rw[AM nb,eH,Bq nb2,Bq nb];exact z
        refine⟨rfl,t',Aa dx,(hob2 _ I6.kIn).1,ge5,rz pI σ _ s' e0 C (Aa dx) t' ⟨c,[(f,d)]⟩ I6 (fun hx=>Jv I2 hx made.new) (AF rfl) ge5 (fun A hA=>⟨C,hcl,rfl,.inr ⟨dx,[(f,v)],rfl,fun z=>?_,H6d,⟨rfl,?_⟩,trivial⟩⟩) (p3 _ fun b o z=>sm6 _ _ (sm2 _ _ (x.same b o z)))⟩
        ·obtain⟨ys,q⟩:=hA dx z;have q':(if dx=e0 then Ae else H5 dx)=Aa (.lst ys):=q
         rw[H6d]at q';cases q'
        ·exact OB hA 5 d (SG (n+1) 5 d xf (by omega)) (Rep.sub (fun _ z=>z.elim) _ (Rep.same sm6 rps.1))
end
section
variable{prog:AK}{w:AY}{A:AV}{E:Vq}{h:AB}{g:AX Fc}{d:HI}{t:Af}{os:He}{K:Fg}{e C dx:Ak}{f:Aj}{mA:Aj->Am Ai}{v:Ai}
theorem Oc(p:Ix e C (Aa dx) h):XAt e C h:=let ⟨o,a,b,_⟩:=p;⟨o,a,b⟩
theorem Wi{Q:Fin->Aq->Prop}(X:K.In h)(hf:Av K (.ref C) f=Aa Ae)(hd:Fj K C=Ab)(p:Ix e C (Aa dx) h)(hn:h.Ns1 dx mA)(hv:mA f=Aa v)(hq:Q (.done (.ret v)) ⟨h,g,d,t,os⟩):At (model prog w) A (Builtin.«object.__getattribute__» ⟨[.ref e,.str f tk],[]⟩) Q E ⟨h,g,d,t,os⟩:=by
 have L0:=IY (M:=model prog w) (Oc p);have L1:=Cu (M:=model prog w) X hf;obtain⟨o,ge,oc,od,us,dt⟩:=p;unfold Fj at hd;split at hd
 ·rename_i c' d' cd' sl' lk;have gC:=X _ _ lk;unfold Builtin.«object.__getattribute__»
  repeat (any_goals (first|assumption|with_reducible refine L0.at ?_|with_reducible refine L1.at ?_|wp_step))
  rw[dt];unfold instanceDict
  repeat (first|(with_reducible refine B7 ge ?_;rw[oc])|with_reducible refine B7 gC ?_|wp_step)
  rw[od]
  repeat (first|(with_reducible refine wpAny_nsGet hn.ns ?_;rw[hv])|wp_step)
  exact hq
 ·cases hd
theorem bD{Q:Vq}(X:K.In h)(x:XcOk K C)(hf:Av K (.ref C) f=Aa Ae)(hd:Fj K C=Ab)(p:Ix e C (Aa dx) h)(hn:h.Ns1 dx mA)(hv:mA f=Aa v)(hh:handedOut v=pure v)(hq:Q v ⟨h,g,d,t,os⟩):At (model prog w) A (getAttrBy (.ref e) (.str f tk) fill expr) Q E ⟨h,g,d,t,os⟩:=by
 have L0:=IY (M:=model prog w) (Oc p);have L1:=Cu (M:=model prog w) X x.ga;have L2:=Cu (M:=model prog w) X x.gt;have f3:=Fu.ga.bind (.ref e);have hx0:(expr&&IS (C7 "BaseException.__getattribute__"))=Ac:=by cases expr<;>rfl
 have hx2:(C7 "BaseException.__getattribute__" == C7 "object.__getattribute__")=Ac:=by decide +kernel
 have hx1:(IS (Bo C)&&C7 "BaseException.__getattribute__" == C7 "object.__getattribute__")=Ac:=by rw[hx2];rfl
 repeat (any_goals (first|assumption|with_reducible refine L0.at ?_|with_reducible refine L1.at ?_|with_reducible refine L2.at ?_|wp_step))
 refine DQ Fu.ga.plain U4 (Pz X x (Oc p) (Wi X hf hd p hn hv ?_))
 repeat (any_goals (first|assumption|wp_step))
 all_goals trace_state
theorem XE{b:An}{Q:Vq}(X:K.In h)(x:XcOk K C)(hf:Av K (.ref C) f=Aa Ae)(hd:Fj K C=Ab)(p:Ix e C (Aa dx) h)(hn:h.Ns1 dx mA)(hv:mA f=Aa v)(hh:handedOut v=pure v)(hq:Q v ⟨h,g,d,t+1,os⟩):At (model prog w) A (getAttr (.ref e) f b) Q E ⟨h,g,d,t,os⟩:=by
 unfold getAttr
 repeat (any_goals (first|assumption|with_reducible apply bD X x hf hd p hn hv hh|wp_step))
end
section
variable{X:Cx}{CL:ClA}{W:XW}{K:Fg}{H:Hp}{A:Ak->Prop}
theorem Qn{f:Aj}{d:D}:∀{vs:Ad (Aj×V)}{fs:Ad (Aj×D)},Repf K CL H A vs fs->fs.lookup f=Aa d->∃ v,vs.lookup f=Aa v/\Rep K CL H A v d
 |[],[],_,q=>nomatch q
 |(n,v)::vs,(m,d')::fs,⟨⟨e,r⟩,rs⟩,q=>by
  have e':n=m:=e;subst e';by_cases z:(f==n)=Ab
  ·simp only[FI,z]at q ⊢;cases q;exact⟨v,rfl,r⟩
  ·simp only[FI,z]at q ⊢;exact Qn rs q
theorem Zq{a:Ao}{fa:Rho->R D}{f:Aj}(hxc:∀ c C,CL c=Aa C->XcOk X.K C)(hnf:∀ c C,CL c=Aa C->Fj X.K C=Ab/\Av X.K (.ref C) f=Aa Ae)(ha:ST X CL W a fa)(hb:attributeBase a f X.env (eval a X.env)=eval a X.env):SE X CL W (.Attribute a f pos) (fun ρ=>(fa ρ).bind fun x=>Ly x f):=fun A=>by
 intro pI s σ H Q I ⟨hA,ρ,gd,q⟩;refine bO hb (thn (ha A pI s σ H _ I ⟨hA,ρ,gd,Bc.bind q (Q':=fun v H1=>∃ d,CV X.K CL H1 A v d/\Bc (fun H2=>Rep X.K CL H2 A) W H1 (Ly d f) Q) fun d v H1 _ s1 r1 p1=>⟨d,r1,p1⟩⟩) fun u s1 ⟨v,H1,I1,rv,d,rp,p1⟩=>?_)
 cases d with
 |exc c fs=>
  have p2:Bc (fun H2=>Rep X.K CL H2 A) W H1 (match fs.lookup f with|some d=>.ok d|none=>.bad) Q:=p1
  cases el:fs.lookup f with
  |none=>rw[el]at p2;exact p2.elim
  |some d=>
   rw[el]at p2;rcases rp with ⟨e,C,φ,rfl,_,hc,hH,hφ,hfs⟩|⟨a,xs,ds,_,z,_⟩
   ·rcases hfs with z|⟨dx,vs,nd,hd,rf,hφ2⟩
    ·rw[z]at el;cases el
    ·obtain⟨y,l,ry⟩:=Qn rf el;cases rv;have ph:=(I1.hok e _ hH).1;obtain⟨o,ge,oc⟩:=hφ _ ph;obtain⟨o',ge',od,us,odt⟩:=hφ2 _ ph;rw[ge]at ge';cases ge';obtain⟨mA,hn,rel⟩:=I1.hok dx _ hd;obtain⟨u',hu,ru⟩:=LB.some_of (v:=y) (o:=mA f) (by rw[<-l];exact rel f)
     obtain⟨k1,k2⟩:=hnf c C hc;obtain⟨hp,g2,d2,tk2,os2⟩:=s1;exact XE I1.kIn (hxc c C hc) k2 k1 ⟨o,ge,oc,od,us,odt⟩ hn hu (PySem.W.handedOut_of (WH ru)) ⟨y,H1,I1.tok _,ru,p2 y H1 (AE.refl H1) ry⟩
   ·cases z
 |_=>exact p1.elim
end
structure Tc where
 sc:Cm
 N:Ad Aj
 /-- a def's name,its number,how many parameters it has -/
 fns:Ad (Aj×Af×Af)
 /-- built-in names that the text does not hide -/
 bl:Ad Aj
 /-- exceptions' classes by their names: those that are raised,all that are asked for -/
 rzs:Ad (Aj×Af)
 exs:Ad (Aj×Af)
 /-- the text's constants -/
 gls:Ad (Aj×Af)
noncomputable def O3(T:Tc)(x:Aj):An:=match T.sc.names.lookup x with
  |some .local=>Ab
  |some .cell=>Ab
  |some .free=>Ab
  |_=>Ac
noncomputable def Jf(T:Tc)(x:Aj):An:=match T.sc.names.lookup x with
  |some .local=>Ab
  |some .cell=>Ab
  |_=>Ac
noncomputable def glB(T:Tc)(x:Aj):An:=T.sc.names.lookup x==Aa .globalImplicit
noncomputable def HE(x:Aj):An:=!(x==("__debug__" : Aj)) && !(x==("__classdict__" : Aj)) && !(x==("__name__" : Aj))
noncomputable def isV(T:Tc)(x:Aj)(i:Af):An:=T.N[i]? == Aa x&&O3 T x&&HE x
noncomputable def isB(T:Tc)(x:Aj):An:=T.bl.contains x&&glB T x&&HE x
noncomputable def Ek:Ao->An
 |.Starred _ _=>Ac
 |_=>Ab
noncomputable def N2:Ao->An
 |.Slice _ _ _ _=>Ac
 |_=>Ab
noncomputable def Lq:Ao->An
 |.Set _ _ _=>Ac
 |_=>Ab
noncomputable def JB:Ao->An
 |.ListComp _ _ _ _=>Ac
 |.SetComp _ _ _ _=>Ac
 |.DictComp _ _ _ _ _=>Ac
 |_=>Ab
noncomputable def Tq(tu:An):Ao->An
 |.Tuple ..=>tu
 |.Name ..=>!tu
 |_=>Ac
noncomputable def iY:Ao->An
 |.Tuple _ _ _=>Ab
 |_=>Ac
noncomputable def S7:Ao->An
 |.Tuple _ _ _=>Ac
 |_=>Ab
noncomputable def J4:Ao->An
 |.UnaryOp _ _ _=>Ac
 |.BoolOp _ _ _=>Ac
 |.IfExp _ _ _ _=>Ac
 |.Compare _ _ _ _=>Ac
 |_=>Ab
noncomputable def OC:Ki->Am Aj
 |.int=>Aa "int"
 |.bool=>Aa "bool"
 |.str=>Aa "str"
 |.list=>Aa "list"
 |.tuple=>Aa "tuple"
 |_=>Ae
noncomputable def OD:BI->Am Aj
 |.len=>Aa "len"
 |.abs=>Ae
 |.max=>Ae
 |.min=>Ae
 |.int=>Ae
 |.list=>Aa "list"
 |.tuple=>Aa "tuple"
 |.all=>Aa "all"
 |.any=>Ae
 |.sum=>Ae
 |.sorted=>Ae
 |.tmin=>Ae
 |.tmax=>Ae
 |_=>Ae
noncomputable def OI(o scope:Cm):Cm:={scope with names:=scope.names.map fun (n,k)=>if (k==.free&&o.kind==.function&&o.names.lookup n==Aa .cell) then (n,.cell) else (n,k)}
noncomputable def KH:Ad Af->Ad Aj->Ad Aj->Ad Aj
 |t::ts,x::xs,N=>KH ts xs ((N.map fun y=>if y==x then N.getD t x else y).set t x)
 |_,_,N=>N
noncomputable def Kn:Ad Aj->An
 |[]=>Ab
 |x::xs=>!xs.contains x&&Kn xs
noncomputable def Lz(T:Tc)(scope:Cm)(ts:Ad Af)(N':Ad Aj):An:=
  scope.kind==.function&&scope.names.all (fun y=>scope.names.lookup y.1==Aa y.2) &&
  scope.names.all (fun y=>y.2 != .free||T.sc.names.lookup y.1==Aa .cell||T.sc.names.lookup y.1==Aa .free) &&
  N'.length==T.N.length&&Kn N' &&
  (A5 N'.length).all fun i=>ts.contains i||(match N'[i]? with
    |some x=>(scope.names.lookup x != Aa .local&&scope.names.lookup x != Aa .cell)&&(scope.names.lookup x != Aa .free||T.N[i]? == Aa x)
    | none=>Ab)
noncomputable def EW:Ad Ao->Am (Ad Aj)
 |[]=>Aa []
 |.Name x _::r=>(EW r).map (x :: ·)
 |_=>Ae
noncomputable def tgN(ys:Ad Ao):Ad Aj:=(EW ys).getD []
noncomputable def tgB(T:Tc):Ad Af->Ad Aj->An
 |[],[]=>Ab
 |t::ts,x::xs=>T.N[t]? == Aa x&&T.sc.names.lookup x==Aa .local&&tgB T ts xs
 |_,_=>Ac
noncomputable def tgO(T:Tc)(scope:Cm)(t:Af)(x:Aj):An:=T.N[t]? == Aa x&&(T.sc.names.lookup x==Aa .local||(T.sc.names.lookup x==Aa .cell&&scope.names.lookup x==Aa .cell))
noncomputable def tgC(T:Tc):Ad Af->Ad Aj->An
 |[],[]=>Ab
 |t::ts,x::xs=>T.N[t]? == Aa x&&Jf T x&&tgC T ts xs
 |_,_=>Ac
noncomputable def Tc.blk(T:Tc)(scope:Cm)(ts:Ad Af)(xs:Ad Aj):Tc:={T with sc:=OI T.sc scope,N:=KH ts xs T.N}
noncomputable def inX(l:Ad (Aj×Af))(g:Aj)(c:Af):An:=l.any fun p=>p.1==g&&p.2==c
noncomputable def TW:Ao->Am (Ao×Ao×AI)
  | .Compare x ops ys p=>(match ops with
    | [.Lt]=>(match ys with
      |[y]=>Aa (x,y,p)
      | _=>Ae)
    | _=>Ae)
  |_=>Ae
noncomputable def OS(_:Es):Am (E×E):=Ae
noncomputable def Tp(_:Tc)(_:Tc->Ao->E->An)(_:Ao)(_:Ad Eh)(_:Ad Ao)(_:BI)(_:Es):An:=Ac
noncomputable def TR(T:Tc)(e:Ao)(b:BI)(as:Es):An:=Ac
noncomputable def Oy:Ao->Am (Aj×AI)
 |.Name x p=>Aa (x,p)
 |_=>Ae
theorem PV{e:Ao}{t:Aj×AI}(q:Oy e=Aa t):e=.Name t.1 t.2:=by
 cases e with
 |Name x p=>cases q;rfl
 |_=>cases q
noncomputable def Oz:Ao->Am (Ao×Ad Ao×Ad JW×AI)
 |.Call f as ks p=>Aa (f,as,ks,p)
 |_=>Ae
theorem PX{e:Ao}{t:Ao×Ad Ao×Ad JW×AI}(q:Oz e=Aa t):e=.Call t.1 t.2.1 t.2.2.1 t.2.2.2:=by
 cases e with
 |Call f as ks p=>cases q;rfl
 |_=>cases q
noncomputable def kX:Ao->Am (Ad Ao×Af×AI)
 |.Tuple es k p=>Aa (es,k,p)
 |_=>Ae
noncomputable def one{α:Type}:Ad α->Am α
 |[a]=>Aa a
 |_=>Ae
theorem cA{l:Ad α}{a:α}(q:one l=Aa a):l=[a]:=by
  match l,q with
  |[b],q=>cases q;rfl
noncomputable def Lx(e:Ao):Am (Aj×Aj×Ad Ao):=(Oz e).bind fun c=>(Oy c.1).bind fun g=>(one c.2.1).bind fun a=>(Oz a).bind fun d=>(Oy d.1).bind fun h=>if (c.2.2.1.isEmpty&&d.2.2.1.isEmpty)=Ab then Aa (g.1,h.1,d.2.1) else Ae
theorem ZY{e:Ao}{h:Aj}{bs:Ad Ao}(q:Lx e=Aa (g,h,bs)):∃ p p' pos pos',e=.Call (.Name g p) [.Call (.Name h p') bs [] pos'] [] pos:=by
 obtain⟨⟨f,as,ks,pos⟩,e1,q⟩:=AA.mp q;obtain⟨⟨g',p⟩,e2,q⟩:=AA.mp q;obtain⟨a,e3,q⟩:=AA.mp q;obtain⟨⟨f',bs',ks',pos'⟩,e4,q⟩:=AA.mp q;obtain⟨⟨h',p'⟩,e5,q⟩:=AA.mp q;by_cases hk:(ks.isEmpty&&ks'.isEmpty)=Ab
 ·rw[AF hk]at q;cases q;rw[Al,FR,FR]at hk;obtain⟨rfl,rfl⟩:=hk;have x1:=PX e1;have x2:=PV e2;have x3:=cA e3;have x4:=PX e4;have x5:=PV e5;dsimp only at x1 x2 x3 x4 x5;subst x1 x2 x3 x4 x5;exact⟨_,_,_,_,rfl⟩
 ·rw[AM hk]at q;cases q
noncomputable def MQ(e:Ao):Am (Aj×Aj×Ao×Ao×Ao):=match Lx e with
  | some (g,h,bs)=>(match bs with
    |[x,y,z]=>Aa (g,h,x,y,z)
    | _=>Ae)
  |none=>Ae
theorem ZU{e:Ao}{h:Aj}{x y z:Ao}(q:MQ e=Aa (g,h,x,y,z)):∃ p p' pos pos',e=.Call (.Name g p) [.Call (.Name h p') [x,y,z] [] pos'] [] pos:=by
  unfold MQ at q;cases c:Lx e with
  |none=>rw[c]at q;cases q
  |some t=>
    obtain⟨g',h',bs⟩:=t;rw[c]at q
    match bs,q,c with
    |[a,b,d],q,c=>cases q;exact ZY c
noncomputable def Tn(e:Ao):Am (Aj×Aj×Ao×Ao):=match Lx e with
  | some (g,h,bs)=>(match bs with
    |[x,y]=>Aa (g,h,x,y)
    | _=>Ae)
  |none=>Ae
noncomputable def OX(_:Es):Am (E×E):=Ae
noncomputable def Tl(e:Ao):Am (Aj×Aj×Ao):=match Lx e with
  | some (g,h,bs)=>(match bs with
    |[x]=>Aa (g,h,x)
    | _=>Ae)
  |none=>Ae
noncomputable def OU(_:Es):Am E:=Ae
noncomputable def two(e:Ao):Am (Ao×Ao):=(kX e).bind fun t=>match t.1 with
  |[a,b]=>Aa (a,b)
  |_=>Ae
noncomputable def Pd(_:Es):Am E:=Ae
noncomputable def Tu(_:Ao):Am Ao:=Ae
noncomputable def Ts:Ao->Am (Ao×Ag)
  | .Subscript v s _=>(match s with
    | .Slice lo hi st _=>(match lo with
      | some (.Constant (.int k) _ _)=>(match hi with
        | none=>(match st with
          |some (.Constant (.int j) _ _)=>if j=2 then Aa (v,k) else Ae
          | _=>Ae)
        | some _=>Ae)
      | _=>Ae)
    | _=>Ae)
  |_=>Ae
noncomputable def OT(_:Es):Am (E×Ag):=Ae
mutual
noncomputable def A8:Af->Tc->Ao->E->An
  |0,_,_,_=>Ac
  |n+1,T,e,c=>match c with
    |.non=>(match e with | .Constant .none _ _=>Ab|_=>Ac)
    |.bl b=>(match e with | .Constant (.bool b') _ _=>b' == b|_=>Ac)
    |.int i=>(match e with | .Constant (.int j) _ _=>decide (j=i)|_=>Ac)
    |.str x=>(match e with | .Constant (.str y) _ _=>decide (y=x)|_=>Ac)
    |.var i=>(match e with | .Name x _=>isV T x i|_=>Ac)
    |.glob g=>Ac
    |.bin op a b=>(match e with | .BinOp x op' y _=>decide (op'=op)&&A8 n T x a&&A8 n T y b|_=>Ac)
    |.un op a=>Ac
    |.no a=>(match e with | .UnaryOp .Not x _=>A8 n T x a|_=>Ac)
    |.and es=>(match e with | .BoolOp .And xs _=>chkEs n T xs es && !xs.isEmpty|_=>Ac)
    |.or es=>(match e with | .BoolOp .Or xs _=>chkEs n T xs es && !xs.isEmpty|_=>Ac)
    |.cmp op a b=>(match e with | .Compare x [op'] [y] _=>decide (op'=op) && !behindInMarks op y&&A8 n T x a&&A8 n T y b|_=>Ac)
    |.cmp2 op1 op2 a b c=>(match e with | .Compare x [o1,o2] [y,z] _=>decide (o1=op1)&&decide (o2=op2) && !lastMarks [op1,op2] [y,z]&&A8 n T x a&&A8 n T y b&&A8 n T z c|_=>Ac)
    |.ite c a b=>Ac
    |.call f as=>(match e with | .Call (.Name g _) (x::xs) [] _=>(T.fns.any fun p=>p.1==g&&p.2.1==f&&p.2.2==xs.length+1)&&decide (xs.length<900)&&glB T g&&HE g&&chkEs n T (x::xs) as|_=>Ac)
    |.bi b as=>(match e with | .Call (.Name g _) (x::xs) [] _=>OD b==Aa g&&isB T g&&chkEs n T (x::xs) as|_=>Ac)||TR T e b as||(match OX as with|some (a,c)=>(match Tn e with|some (g,h,x,y)=>decide (b=.list)&&g==("list" : Aj)&&h==("range" : Aj)&&isB T g&&isB T h&&Ek x&&Ek y&&A8 n T x a&&A8 n T y c|none=>Ac)|none=>Ac)||(match OT as with|some (a,k)=>(match Ts e with|some (x,j)=>decide (b=.stp)&&decide (j=k)&&decide (0<=k)&&A8 n T x a|none=>Ac)|none=>Ac)||(match OU as with|some a=>(match Tl e with|some (g,h,x)=>decide (b=.lset)&&g==("len" : Aj)&&h==("set" : Aj)&&isB T g&&isB T h&&Ek x&&A8 n T x a|none=>Ac)|none=>Ac)||(match OS as with|some (a,c)=>(match TW e with|some (x,y,_)=>decide (b=.tlt) && !behindInMarks .Lt y&&A8 n T x a&&A8 n T y c|none=>Ac)|none=>Ac)||(match Pd as with|some a=>(match Tu e with|some x=>decide (b=.rvs)&&A8 n T x a|none=>Ac)|none=>Ac)
    |.isi a ks=>(match ks with | [k]=>(match e with | .Call (.Name g _) [x,.Name t _] [] _=>g==("isinstance" : Aj)&&isB T g&&OC k==Aa t&&isB T t&&Ek x&&A8 n T x a|_=>Ac)|_=>Ac)
    |.idx a i=>(match e with | .Subscript x y _=>N2 y&&A8 n T x a&&A8 n T y i|_=>Ac)
    |.sl a lo hi=>(match e with | .Subscript x (.Slice l h Ae _) _=>A8 n T x a&&chkO n T l lo&&chkO n T h hi|_=>Ac)
    |.tup es=>(match e with | .Tuple xs _ _=>chkEs n T xs es&&decide (xs.length<=1000)|_=>Ac)
    |.lst es=>(match e with | .List xs _=>chkEs n T xs es&&decide (xs.length<=1000)|_=>Ac)
    |.comp elt t it c=>(match e with | .ListComp x [⟨.Name y _,iter,ifs,0⟩] scope _=>chkI n T Ac iter it&&Lq iter&&Lz T scope [t] (KH [t] [y] T.N)&&tgO (T.blk scope [t] [y]) scope t y&&chkT n (T.blk scope [t] [y]) ifs c&&A8 n (T.blk scope [t] [y]) x elt|_=>Ac)
    |.compT elt ts it c=>(match e with | .ListComp x [⟨.Tuple ys _ _,iter,ifs,0⟩] scope _=>(EW ys).isSome&&chkI n T Ab iter it&&Lq iter&&Lz T scope ts (KH ts (tgN ys) T.N)&&tgB (T.blk scope ts (tgN ys)) ts (tgN ys)&&chkT n (T.blk scope ts (tgN ys)) ifs c&&A8 n (T.blk scope ts (tgN ys)) x elt|_=>Ac)
    |.tupI it=>(match it with | .zip3 a b c=>(match MQ e with|some (g,h,x,y,z)=>g==("tuple" : Aj)&&h==("zip" : Aj)&&isB T g&&isB T h&&Ek x&&Ek y&&Ek z&&A8 n T x a&&A8 n T y b&&A8 n T z c|none=>Ac)|_=>Ac)
    |.dnew=>Ac
    |.fld _ _=>Ac
noncomputable def Ji:Af->Tc->Ao->E->An
  |0,_,_,_=>Ac
  |n+1,T,e,c=>match e with
    |.UnaryOp .Not x _=>(match c with | .no a=>Ji n T x a|_=>Ac)
    |.BoolOp .And xs _=>(match c with | .and es=>chkBs n T xs es && !xs.isEmpty|_=>Ac)
    |.BoolOp .Or xs _=>(match c with | .or es=>chkBs n T xs es && !xs.isEmpty|_=>Ac)
    | .Compare x ops ys _=>(match c with
      |.cmp op a b=>(match ops,ys with | [op'],[y]=>decide (op'=op) && !behindInMarks op y&&A8 n T x a&&A8 n T y b|_,_=>Ac)
      |.cmp2 op1 op2 a b c=>(match ops,ys with | [o1,o2],[y,z]=>decide (o1=op1)&&decide (o2=op2) && !lastMarks [op1,op2] [y,z]&&A8 n T x a&&A8 n T y b&&A8 n T z c|_,_=>Ac)
      |.bi b as=>Tp T (A8 n) x ops ys b as
      | _=>Ac)
    |e=>J4 e&&A8 n T e c
noncomputable def chkBs:Af->Tc->Ad Ao->Es->An
  |0,_,_,_=>Ac
  |n+1,T,xs,es=>match xs,es with
    |[],.nil=>Ab
    |x::xs,.cons e es=>Ji n T x e&&chkBs n T xs es
    |_,_=>Ac
noncomputable def chkEs:Af->Tc->Ad Ao->Es->An
  |0,_,_,_=>Ac
  |n+1,T,xs,es=>match xs,es with
    |[],.nil=>Ab
    |x::xs,.cons e es=>Ek x&&A8 n T x e&&chkEs n T xs es
    |_,_=>Ac
noncomputable def chkO:Af->Tc->Am Ao->E->An
  |0,_,_,_=>Ac
  |n+1,T,x,e=>match x with
    |none=>(match e with | .non=>Ab|_=>Ac)
    |some x=>(match e with | .non=>Ac|e=>A8 n T x e)
noncomputable def chkT:Af->Tc->Ad Ao->E->An
  |0,_,_,_=>Ac
  |n+1,T,xs,e=>match xs with
    |[]=>(match e with | .bl Ab=>Ab|_=>Ac)
    |[x]=>Ji n T x e
    |_=>Ac
noncomputable def chkI:Af->Tc->An->Ao->I->An
  |0,_,_,_,_=>Ac
  |n+1,T,tu,e,i=>match i with
    |.e a=>A8 n T e a
    |.rng a=>(match e with | .Call (.Name g _) [x] [] _=>g==("range" : Aj)&&isB T g&&Ek x&&A8 n T x a|_=>Ac)
    |.enm a=>(match e with | .Call (.Name g _) [x] [] _=>tu&&g==("enumerate" : Aj)&&isB T g&&Ek x&&A8 n T x a|_=>Ac)
    |.zip a b=>(match e with | .Call (.Name g _) [x,y] [] _=>tu&&g==("zip" : Aj)&&isB T g&&Ek x&&Ek y&&A8 n T x a&&A8 n T y b|_=>Ac)
    |.rng2 a b=>(match e with | .Call (.Name g _) [x,y] [] _=>g==("range" : Aj)&&isB T g&&Ek x&&Ek y&&A8 n T x a&&A8 n T y b|_=>Ac)
    |.zip3 a b c=>Ac
end
noncomputable def MK:E->An
 |.var _=>Ab
 |.int _=>Ab
 |.bl _=>Ab
 |.str _=>Ab
 |.non=>Ab
 |_=>Ac
noncomputable def KA:Es->An
 |.nil=>Ab
 |.cons e es=>MK e&&KA es
noncomputable def Fk:Ao->Am (Aj×AI)
 |.Name x p=>Aa (x,p)
 |_=>Ae
theorem G3{e:Ao}{t:Aj×AI}(h:Fk e=Aa t):e=.Name t.1 t.2:=by
 cases e with
 |Name x p=>cases h;rfl
 |_=>exact nomatch (show Ae=Aa t from h)
noncomputable def ML:Ao->Am (Ao×Ad Ao×AI)
  | .Call f as ks p=>(match ks with
    |[]=>Aa (f,as,p)
    | _=>Ae)
  |_=>Ae
theorem NZ{e:Ao}{t:Ao×Ad Ao×AI}(h:ML e=Aa t):e=.Call t.1 t.2.1 [] t.2.2:=by
 cases e with
 |Call f as ks p=>
  cases ks with
  |nil=>cases h;rfl
  |cons=>exact nomatch (show Ae=Aa t from h)
 |_=>exact nomatch (show Ae=Aa t from h)
noncomputable def JL{α:Type}:Ad α->Am (α×α)
 |[a,b]=>Aa (a,b)
 |_=>Ae
theorem Lg{l:Ad α}{t:α×α}(h:JL l=Aa t):l=[t.1,t.2]:=by
 cases l with
 |nil=>exact nomatch (show Ae=Aa t from h)
 |cons a l=>
  cases l with
  |nil=>exact nomatch (show Ae=Aa t from h)
  |cons b l=>
   cases l with
   |nil=>cases h;rfl
   |cons=>exact nomatch (show Ae=Aa t from h)
noncomputable def xC2(e:Ao):Am (Aj×Aj×Ao):=(ML e).bind fun c=>(Fk c.1).bind fun g=>(JL c.2.1).bind fun ab=>(Fk ab.1).bind fun v=>Aa (g.1,v.1,ab.2)
theorem bF{e t:Ao}{v:Aj}(h:xC2 e=Aa (g,v,t)):∃ p q r,e=.Call (.Name g p) [.Name v q,t] [] r:=by
 obtain⟨c,e1,h⟩:=AA.mp h;obtain⟨g',e2,h⟩:=AA.mp h;obtain⟨ab,e3,h⟩:=AA.mp h;obtain⟨v',e4,h⟩:=AA.mp h;cases h;rw[NZ e1,G3 e2,Lg e3,G3 e4];exact⟨_,_,_,rfl⟩
noncomputable def O0:Ao->Am (Ad Ao)
 |.Tuple ts _ _=>Aa ts
 |_=>Ae
theorem Yy{e:Ao}{ts:Ad Ao}(h:O0 e=Aa ts):∃ c p,e=.Tuple ts c p:=by
 cases e with
 |Tuple l c p=>cases h;exact⟨_,_,rfl⟩
 |_=>exact nomatch (show Ae=Aa ts from h)
noncomputable def xC1(e:Ao):Am (Aj×Aj):=(ML e).bind fun c=>(Fk c.1).bind fun g=>(match c.2.1 with
  |[a]=>(Fk a).bind fun v=>Aa (g.1,v.1)
  | _=>Ae)
theorem bG{e:Ao}{v:Aj}(h:xC1 e=Aa (g,v)):∃ p q r,e=.Call (.Name g p) [.Name v q] [] r:=by
 obtain⟨c,e1,h⟩:=AA.mp h;obtain⟨g',e2,h⟩:=AA.mp h;obtain⟨f,as,p⟩:=c;cases as with
 |nil=>exact nomatch (show Ae=Aa (g,v) from h)
 |cons a as=>
  cases as with
  |cons=>exact nomatch (show Ae=Aa (g,v) from h)
  |nil=>
   obtain⟨v',e4,h⟩:=AA.mp (show ((Fk a).bind fun v=>Aa (g'.1,v.1))=Aa (g,v) from h)
   cases h;rw[NZ e1,G3 e2,G3 e4];exact⟨_,_,_,rfl⟩
noncomputable def xHd:EN->Am (Aj×Aj×A4×Ad A4)
  | .ExceptHandler ty nm b _=>(match nm,b,ty with
    |some m,h0::hs,Aa e=>(Fk e).bind fun g=>Aa (g.1,m,h0,hs)
    | _,_,_=>Ae)
theorem Od{h:EN}{m:Aj}(q:xHd h=Aa (g,m,h0,hs)):∃ p r,h=.ExceptHandler (Aa (.Name g p)) (Aa m) (h0::hs) r:=by
 obtain⟨ty,nm,b,r⟩:=h;cases nm with
 |none=>cases ty<;>cases b<;>exact nomatch (show Ae=Aa (g,m,h0,hs) from q)
 |some m'=>
  cases b with
  |nil=>cases ty<;>exact nomatch (show Ae=Aa (g,m,h0,hs) from q)
  |cons h0' hs'=>
   cases ty with
   |none=>exact nomatch (show Ae=Aa (g,m,h0,hs) from q)
   |some e=>
    obtain⟨g',e1,q⟩:=AA.mp (show ((Fk e).bind fun g=>Aa (g.1,m',h0',hs'))=Aa (g,m,h0,hs) from q)
    cases q;rw[G3 e1];exact⟨_,_,rfl⟩
noncomputable def Lu:A4->Am (A4×Ad EN×Ad A4)
  | .Try b hs es fs _=>(match b,fs with
    |[bt],[]=>Aa (bt,hs,es)
    | _,_=>Ae)
  |_=>Ae
theorem QV{st bt:A4}{hs:Ad EN}{es:Ad A4}(q:Lu st=Aa (bt,hs,es)):∃ p,st=.Try [bt] hs es [] p:=by
 cases st with
 |Try b h e f p=>
  cases b with
  |nil=>cases f<;>exact nomatch (show Ae=Aa (bt,hs,es) from q)
  |cons x b=>
   cases b with
   |cons=>cases f<;>exact nomatch (show Ae=Aa (bt,hs,es) from q)
   |nil=>
    cases f with
    |nil=>cases q;exact⟨_,rfl⟩
    |cons=>exact nomatch (show Ae=Aa (bt,hs,es) from q)
 |_=>exact nomatch (show Ae=Aa (bt,hs,es) from q)
noncomputable def Jd(T:Tc):Ad Ao->Ad Ki->An
 |[],[]=>Ab
 |.Name t _::r,.cls c::ks=>inX T.exs t c&&glB T t&&HE t&&Jd T r ks
 |_,_=>Ac
noncomputable def T7(T:Tc)(g:Aj)(f:Af):An:=(T.fns.any fun p=>p.1==g&&p.2.1==f&&p.2.2==1001)&&glB T g&&HE g
noncomputable def Dz:Af->Tc->Af->Ao->E->An
  |0,_,_,_,_=>Ac
  |n+1,T,x,e,c=>match c with
    |.bl b=>(match e with | .Constant (.bool b') _ _=>b' == b|_=>Ac)
    |.no a=>(match e with | .UnaryOp .Not y _=>Dz n T x y a|_=>Ac)
    |.and (.cons a .nil)=>(match e with | .BoolOp .And [y] _=>Dz n T x y a|_=>Ac)
    |.and (.cons a (.cons a' as))=>(match e with | .BoolOp .And (y::z::zs) p=>Dz n T x y a&&Dz n T x (.BoolOp .And (z::zs) p) (.and (.cons a' as))|_=>Ac)
    | .isi (.var i) [.verr]=>(match xC2 e with
      | some (g,v,t)=>i==x&&g==("isinstance" : Aj)&&isB T g&&isV T v x&&(match Fk t with
        |some (t,_)=>t==("ValueError" : Aj)&&isB T t
        | none=>Ac)
      | none=>Ac)
    | .isi (.var i) [.cls c]=>(match xC2 e with
      | some (g,v,t)=>i==x&&g==("isinstance" : Aj)&&isB T g&&isV T v x&&(match Fk t with
        |some (t,_)=>inX T.exs t c&&glB T t&&HE t
        | none=>Ac)
      | none=>Ac)
    | .isi (.var i) (.cls c::k::ks)=>(match xC2 e with
      | some (g,v,t)=>i==x&&g==("isinstance" : Aj)&&isB T g&&isV T v x&&(match O0 t with
        |some ts=>Jd T ts (.cls c::k::ks)&&decide (ts.length<=1000)
        | none=>Ac)
      | none=>Ac)
    | .call f (.cons (.var i) .nil)=>(match xC1 e with
      |some (g,v)=>T7 T g f&&isV T v i
      | none=>Ac)
    |.str s=>(match e with | .Constant (.str s') _ _=>s' == s|_=>Ac)
    | .fld (.var i) f=>(match e with
      |.Attribute (.Name v _) g _=>i==x&&g==f&&(f==("triple" : Aj)||f==("points" : Aj))&&isV T v x
      | _=>Ac)
    |_=>Ac
noncomputable def MF(n:Af)(T:Tc)(x:Af)(y:Ao)(e:E):An:=match y with
  |.UnaryOp .Not z _=>(match e with | .no a=>J4 z&&Dz n T x z a|_=>Ac)
  |y=>J4 y&&Dz n T x y e
noncomputable def GF(n:Af)(T:Tc)(x:Af):Ad Ao->Es->An
 |[],.nil=>Ab
 |y::ys,.cons e es=>MF n T x y e&&GF n T x ys es
 |_,_=>Ac
noncomputable def OR(n:Af)(T:Tc)(x:Af)(e:Ao)(c:E):An:=match e with
  |.BoolOp .Or ys _=>(match c with | .or es=>GF n T x ys es && !ys.isEmpty|_=>Ac)
  |.BoolOp .And ys _=>(match c with | .and es=>GF n T x ys es && !ys.isEmpty|_=>Ac)
  |e=>MF n T x e c
noncomputable def mZ:E->An
 |.isi _ _=>Ab
 |.bl _=>Ab
 |_=>Ac
noncomputable def Hz:Af->Tc->Af->Ad A4->Ss->An
  |0,_,_,_,_=>Ac
  |n+1,T,x,sts,ss=>match ss with
    |.nil=>sts.isEmpty
    | .cons (.asg i Ac e) ss=>(match sts with
      |.Assign [.Name y _] v _::r=>T.N[i]? == Aa y&&Jf T y&&JB v&&Dz n T x v e&&Hz n T x r ss
      | _=>Ac)
    | .cons (.ife c a .nil) ss=>(match sts with
      |.If t xs [] _::r=>OR n T x t c&&Hz n T x xs a&&Hz n T x r ss
      | _=>Ac)
    | .cons (.ret e) ss=>(match sts with
      |.Return (Aa v) _::r=>mZ e&&Dz n T x v e&&Hz n T x r ss
      | _=>Ac)
    |_=>Ac
noncomputable def O7:E->An
 |.var _=>Ab
 |.cmp _ a b=>MK a&&MK b
 |_=>Ac
noncomputable def Mq(n:Af)(T:Tc)(st:A4)(s:S):An:=match s with
  |.expr (.call f as)=>(match st with | .Expr v _=>A8 n T v (.call f as)&&KA as|_=>Ac)
  |.asg i Ac (.call f as)=>(match st with | .Assign [.Name y _] v _=>T.N[i]? == Aa y&&Jf T y&&A8 n T v (.call f as)&&KA as|_=>Ac)
  |_=>Ac
noncomputable def JH:Af->Af->Tc->A4->S->An
  |0,n,T,st,s=>Mq n T st s
  | m+1,n,T,st,s=>Mq n T st s||(match s with
    | .ife c (.cons a .nil) (.cons b .nil)=>(match st with
      |.If t [xs] [ys] _=>Ji n T t c&&O7 c&&JH m n T xs a&&JH m n T ys b
      | _=>Ac)
    | _=>Ac)
noncomputable def hdB(T:Tc)(g:Aj)(c:Af):An:=inX T.exs g c&&inX T.rzs g c&&glB T g&&HE g
mutual
noncomputable def F3:Af->Tc->A4->S->An
  |0,_,_,_=>Ac
  |n+1,T,st,s=>match s with
    |.pass=>Ac
    |.brk=>Ac
    |.cont=>Ac
    |.asg i _ e=>(match st with | .Assign [.Name x _] v _=>T.N[i]? == Aa x&&Jf T x&&A8 n T v e|_=>Ac)
    |.asgT ts e=>(match st with | .Assign [.Tuple ys _ _] v _=>(EW ys).isSome&&tgC T ts (tgN ys)&&(S7 v||C9 4 ys.length)&&A8 n T v e|_=>Ac)
    |.expr e=>(match st with | .Expr v _=>JB v&&A8 n T v e|_=>Ac)
    |.ret e=>(match st with | .Return (Aa v) _=>A8 n T v e|_=>Ac)
    |.retN=>Ac
    |.ife c a b=>(match st with | .If t xs ys _=>Ji n T t c&&chkSs n T xs a&&chkSs n T ys b|_=>Ac)
    |.fors t it body=>(match st with | .For (.Name x _) iter xs [] _=>tgC T [t] [x]&&Lq iter&&chkI n T Ac iter it&&chkSs n T xs body|_=>Ac)
    |.forT ts it body=>(match st with | .For (.Tuple ys _ _) iter xs [] _=>(EW ys).isSome&&tgC T ts (tgN ys)&&Lq iter&&chkI n T Ab iter it&&chkSs n T xs body|_=>Ac)
    |.whl c body=>Ac
    |.rais c as=>!(T.rzs.any fun p=>p.2==c)||(match st with | .Raise (Aa (.Call (.Name g _) (x::xs) [] _)) Ae _=>inX T.rzs g c&&glB T g&&HE g&&decide (xs.length<=1000)&&chkEs n T (x::xs) as|_=>Ac)
    |.tryx bs c x h=>(match bs with | .cons b .nil=>(match Lu st with|some (bt,[h1],[])=>(match xHd h1 with|some (g,m,h0,hs)=>hdB T g c&&T.N[x]? == Aa m&&T.sc.names.lookup m==Aa .local&&JH 6 n T bt b&&Hz n T x (h0::hs) h|none=>Ac)|_=>Ac)|_=>Ac)
    |.try2 bs c x h c' h' els=>(match bs with | .cons b .nil=>(match Lu st with|some (bt,hl,es)=>(match JL hl with|some (h1,h2)=>(match xHd h1,xHd h2 with|some (g,m,h0,hs),Aa (g',m',h0',hs')=>m' == m&&hdB T g c&&hdB T g' c'&&T.N[x]? == Aa m&&T.sc.names.lookup m==Aa .local&&JH 6 n T bt b&&Hz n T x (h0::hs) h&&Hz n T x (h0'::hs') h'&&chkSs n T es els|_,_=>Ac)|none=>Ac)|none=>Ac)|_=>Ac)
    |.app i e=>Ac
    |.ext i e=>Ac
    |.rev i=>Ac
    |.clr i=>Ac
    |.put i k e=>(match st with | .Assign [.Subscript (.Name x _) y _] v _=>isV T x i&&N2 y&&A8 n T y k&&A8 n T v e|_=>Ac)
    |.swp _ _ _=>Ac
    |.apop _ _ _=>Ac
    |.ins _ _ _=>Ac
    |.dput _ _ _=>Ac
    |.dsd _ _ _=>Ac
    |.rel _=>Ac
noncomputable def chkSs:Af->Tc->Ad A4->Ss->An
  |0,_,_,_=>Ac
  |n+1,T,sts,ss=>match ss with
    |.nil=>sts.isEmpty
    |.cons (.rel i) ss=>chkSs n T sts ss
    | .cons s ss=>(match sts with
      |st::r=>F3 n T st s&&chkSs n T r ss
      | []=>Ac)
end
noncomputable def HC(fuel:Af)(hot:An)(fns:Ad (Aj×Af×Af))(bl:Ad Aj)(rzs exs gls:Ad (Aj×Af))(ps N:Ad Aj)(st:A4)(df:Df):An:=
  let sc:=CA st
  sc.kind==.function && !sc.isCoroutine && !sc.isGenerator&&Kn N&&N.take ps.length==ps&&ps.all (fun x=>sc.names.lookup x==Aa .local||sc.names.lookup x==Aa .cell)&&sc.names.all (fun y=>y.2 != .free)&&N.length==df.n &&
  (match hot with
  |true=>Hz fuel ⟨sc,N,fns,bl,rzs,exs,gls⟩ 0 (Fx st) df.body
  | false=>chkSs fuel ⟨sc,N,fns,bl,rzs,exs,gls⟩ (Fx st) df.body)
structure XT (up:Af->Ad Af) (xn:Af->Ad D->R Ex) (CL:ClA) (rzs exs:Ad (Aj×Af)) (K:Fg) (mg:Aj->Am Ai):Prop where
 xc:∀ c C,CL c=Aa C->XcOk K C
 rz:∀ p∈rzs,∃ C,CL p.2=Aa C/\mg p.1=Aa (.ref C)
 ex:∀ p∈exs,∃ C,mg p.1=Aa (.ref C)/\Lj K CL up p.2 C/\∀ c D,CL c=Aa D->Az K (.ref D) (.ref C)=Aa ((up c).contains p.2)
 made:∀ c C ds,CL c=Aa C->xn c ds=.bad\/(xn c ds=.ok ⟨c,[]⟩/\DS K C Ae=Ab)\/∃ f,XIn K mg C f/\MB xn c f ds
 nf:∀ c C,CL c=Aa C->∀ f:Aj,(f==("triple" : Aj)||f==("points" : Aj))=Ab->Fj K C=Ab/\Av K (.ref C) f=Aa Ae
 xb:∀ c,(∀ p∈rzs,p.2≠c)->∀ ds,xn c ds=.bad
def MN(K:Fg)(mg:Aj->Am Ai)(CL:ClA)(x:Aj)(d:D):Prop:=∃ u v,mg x=Aa u/\Bt v u/\∀ H A,Rep K CL H A v d
structure VX (Γ:Gam) (CL:ClA) (k:Af) (W:XW) (T:Tc) (X:Cx):Prop where
 sc:X.env.scope=T.sc
 kd:T.sc.kind=.function
 N:X.N=T.N
 nd:T.N.Nodup
 calm:X.calm=Ab
 room:Room k X.A
 bl:∀ x,x∈T.bl->X.mg x=Ae
 fn:∀ p∈T.fns,∃ f fd ps,X.mg p.1=Aa (.ref f)/\Ca X.K (.ref f)=Ab/\FC X.K fd ps []/\ps.length=p.2.2%1000/\(p.2.2<1000->FnOk X.prog X.w X.K X.mg X.base (CXR X.prog X.w) k f fd ps (spD X.K CL (p.2.2%1000) (Γ.fr p.2.1) (Γ.F p.2.1)))/\(1000<=p.2.2->HotOk X.prog X.w X.K X.mg X.base k f fd ps (spH X.K CL (p.2.2%1000) (Γ.fr p.2.1) (Γ.F p.2.1)))
 own:Fd (model X.prog X.w) X.A X.env X.xe
 px:∀ A,Ku (CXR X.prog X.w) X (EKW X.K CL A W)
 rz:LA X CL W
 xt:XT Γ.up Γ.xn CL T.rzs T.exs X.K X.mg
 gl:∀ p∈T.gls,MN X.K X.mg CL p.1 (Γ.G p.2)
theorem Ou:∀ A,Ku (CXR X.prog X.w) X (EKW X.K CL A W0):=fun A pI σ H s ev s' I h=>by
 obtain⟨e,T,cls,dx,H',_,_,_,_,_,_,_,_,_,_,x,_,w⟩:=h;exact w.elim
theorem O5:LA X CL W0:=fun _ _ _ _ _ _ _ _ _ _ _ _ _ _ z=>z.elim
def Rf{α:Type}(g f:Rho->R α):Prop:=∀ ρ,g ρ=.bad\/g ρ=f ρ
section
variable{X:Cx}{CL:ClA}{W:XW}{a:Ao}{f g:Rho->R D}
theorem SE.ref(h:SE X CL W a f)(r:Rf g f):SE X CL W a g:=fun A=>PE.weak (h A) fun σ H Q ⟨hA,ρ,q,p⟩=>⟨hA,ρ,q,by
 rcases r ρ with e|e
 ·rw[e]at p;exact p.elim
 ·rw[e]at p;exact p⟩
theorem SB.ref{f g:Rho->R An}(h:SB X CL W a f)(r:Rf g f):SB X CL W a g:=fun A=>PT.weak (h A) fun σ H Q ⟨hA,ρ,q,p⟩=>⟨hA,ρ,q,by
 rcases r ρ with e|e
 ·rw[e]at p;exact p.elim
 ·rw[e]at p;exact p⟩
theorem SW.ref{f g:Rho->R An}(h:SW X CL W a f)(r:Rf g f):SW X CL W a g:=fun A=>PW.weak (h A) fun σ H Q ⟨hA,ρ,q,p⟩=>⟨hA,ρ,q,by
 rcases r ρ with e|e
 ·rw[e]at p;exact p.elim
 ·rw[e]at p;exact p⟩
theorem SC.ref(h:SC X CL W fr a f)(r:Rf g f):SC X CL W fr a g:=fun A=>PE.weak (h A) fun σ H Q ⟨hA,ρ,q,p⟩=>⟨hA,ρ,q,by
 rcases r ρ with e|e
 ·rw[e]at p;exact p.elim
 ·rw[e]at p;exact p⟩
theorem SS.ref{st:A4}{f g:Rho->O}(h:SS X CL W st f)(r:∀ ρ,g ρ=.bad\/g ρ=f ρ):SS X CL W st g:=fun Fz B=>PS.weak (h Fz B) fun D σ H ⟨ρ,x,p⟩=>⟨ρ,x,by
 rcases r ρ with e|e
 ·rw[e]at p;exact p.elim
 ·rw[e]at p;exact p⟩
end
theorem Jx:∀{l:Ad Aj},Kn l=Ab->l.Nodup
 |[],_=>Ux
 |x::xs,h=>by
  unfold Kn at h;simp only[Al,Bk,Ul,decide_eq_false_iff_not]at h;exact List.nodup_cons.mpr ⟨h.1,Jx h.2⟩
section
variable{T:Tc}{X:Cx}{Γ:Gam}{CL:ClA}{k:Af}{W:XW}
theorem QZ(h:O3 T x=Ab):Vis T.sc x:=by
 unfold O3 at h;split at h
 ·exact .inl (by assumption)
 ·exact .inr (.inl (by assumption))
 ·exact .inr (.inr (by assumption))
 ·cases h
theorem Lc(h:Jf T x=Ab):Loc T.sc x:=by
 unfold Jf at h;split at h
 ·exact .inl (by assumption)
 ·exact .inr (by assumption)
 ·cases h
theorem Hv(h:HE x=Ab):(x==("__debug__" : Aj))=Ac/\(x==("__classdict__" : Aj))=Ac/\x≠"__name__" := by
 unfold HE at h;simp only[Al,Bk]at h;exact⟨h.1.1,h.1.2,fun e=>by subst e;exact absurd h.2 (by simp)⟩
theorem Mn{i:Af}(v:VX Γ CL k W T X)(h:isV T x i=Ab):PE X (.Name x pos) (GK i):=by
 unfold isV at h;simp only[Al,AQ]at h;obtain⟨h2,h3,_⟩:=Hv h.2;exact Mm (by rw[v.N];exact h.1.1) (by rw[v.sc];exact QZ h.1.2) h2 h3
theorem GE(v:VX Γ CL k W T X)(h:isB T x=Ab):Gl X x/\X.mg x=Ae/\x≠"__name__"/\(x==("__debug__" : Aj))=Ac:=by
 unfold isB glB at h;simp only[Al,AQ,Ul,A7]at h;obtain⟨h2,h3,h4⟩:=Hv h.2;exact⟨by show X.env.scope.names.lookup x=_;rw[v.sc];exact h.1.2,v.bl x h.1.1,h4,h2⟩
theorem Dy{x:Ao}(h:Ek x=Ab):Ax (x::xs) env=(Ac,eval x env)::Ax xs env:=by
 cases x<;>first|rfl|cases h
theorem W8{y:Ao}(h:N2 y=Ab):N9 y:=by
 intro o i;cases y<;>first|rfl|cases h
theorem Mu{e:Ao}(h:Lq e=Ab):∀ x,CU e env x=pure x:=by
 intro x;cases e<;>first|rfl|cases h
theorem Lf{e:Ao}{t:Am Ao}(h:JB e=Ab):Do e t l env=pure Ac:=by
 cases e<;>first|rfl|cases h
theorem Q3{e:Ao}(h:J4 e=Ab):∀ whole,Ic e env whole=(do let v <-whole;Jm e.pos;holding [v] (truthy v)):=by
 intro whole;cases e<;>first|rfl|cases h
theorem Wq(v:VX Γ CL k W T X)(scope:Cm):relabel scope X.env=OI T.sc scope:=by
 unfold relabel OI;have:∀ n,X.env.kindOf n=T.sc.names.lookup n:=fun n=>by show X.env.scope.names.lookup n=_;rw[v.sc]
 simp only[this,v.sc]
theorem Oj{N':Ad Aj}(v:VX Γ CL k W T X)(h:Lz T scope ts N'=Ab):BlockOk X scope N' ts/\N'.Nodup/\scope.kind=.function:=by
 unfold Lz at h;simp only[Al,AQ,Dt,CH,Hd,KR]at h;obtain⟨⟨⟨⟨⟨h1,h2⟩,h4⟩,h5⟩,h6⟩,h7⟩:=h;have at7:∀ i x,N'[i]?=Aa x->i∈ts\/((scope.names.lookup x≠Aa .local/\scope.names.lookup x≠Aa .cell)/\(scope.names.lookup x≠Aa .free\/T.N[i]?=Aa x)):=fun i x e=>by
  have hi:=(AZ.mp e).1;have:=h7 i (Bs.mpr hi);rcases this with z|z
  ·exact .inl (by simpa using z)
  ·rw[e]at z;simp only[Al,Hd,KR,CH,AQ]at z;exact .inr z
 refine⟨⟨h1,h2,fun y hy hl=>by rw[h2 y hy,hl],fun y hy hf=>?_,by rw[v.N];exact h5,fun i x e hf hn=>?_,fun i x e hl=>?_⟩,Jx h6,h1⟩
 ·rw[v.sc];rcases h4 y hy with (z|z)|z
  ·exact absurd hf z
  ·exact .inl z
  ·exact .inr z
 ·rw[v.N];rcases at7 i x e with z|⟨_,z⟩
  ·exact absurd z hn
  ·exact z.resolve_left fun q=>q hf
 ·rcases at7 i x e with z|⟨z,_⟩
  ·exact z
  ·exact hl.elim (fun q=>absurd q z.1) (fun q=>absurd q z.2)
theorem VX.blk{xs:Ad Aj}{cl:Ad (Aj×Ak)}{s:Aq}{fp:Ad Ak}(v:VX Γ CL k W T X)(h:Lz T scope ts (KH ts xs T.N)=Ab):VX Γ CL k W0 (T.blk scope ts xs) (cxC X scope cl C (KH ts xs T.N) s H fp):=by
 obtain⟨_,h2,h3⟩:=Oj v h;exact⟨Wq v scope,h3,rfl,h2,v.calm,v.room,v.bl,v.fn,PassesOwn.never,Ou,O5,v.xt,v.gl⟩
theorem YI{t:Af}(v:VX Γ CL k W T X)(hfn:scope.names.lookup x=Aa .cell->X.fn x=Ab)(h:tgO T scope t x=Ab):PG X (.Name x pos) (EX t):=by
 unfold tgO at h;simp only[Al,CH,AQ]at h;rcases h with ⟨h1,h2|h2⟩
 ·exact Li (by rw[v.N];exact v.nd) (by rw[v.N];exact h1) (by rw[v.sc];exact .inl h2) (.inr (by rw[v.sc];exact h2))
 ·exact Li (by rw[v.N];exact v.nd) (by rw[v.N];exact h1) (by rw[v.sc];exact .inr h2.1) (.inl (hfn h2.2))
theorem MT{y:Ao}{r:Ad Ao}{zs:Ad Aj}(h:EW (y::r)=Aa zs):∃ x p ws,y=.Name x p/\EW r=Aa ws/\zs=x::ws:=by
 cases y with
 |Name x p=>
  have h':(EW r).map (x :: ·)=Aa zs:=h;cases e:EW r with
  |none=>rw[e]at h';cases h'
  |some ws=>rw[e]at h';cases h';exact⟨x,p,ws,rfl,rfl,rfl⟩
 |_=>cases h
theorem Nx(x:Aj)(p:AI)(r:Ad Ao)(env:Ch):Cd (.Name x p::r) env=(Ac,assign (.Name x p) env)::Cd r env:=rfl
theorem MS:∀(ys:Ad Ao)(zs:Ad Aj),EW ys=Aa zs->(Cd ys env).length=ys.length/\(Cd ys env).findIdx? (·.1)=Ae/\(Cd ys env).map (·.2)=ys.map fun y=>assign y env:=by
 intro ys
 induction ys with
 |nil=>intro _ _;exact⟨rfl,rfl,rfl⟩
 |cons y r ih=>
  intro zs h;obtain⟨x,p,ws,rfl,e,rfl⟩:=MT h;obtain⟨h1,h2,h3⟩:=ih ws e;rw[Nx];refine⟨?_,?_,?_⟩
  ·rw[By,By,h1]
  ·rw[List.findIdx?_cons,h2];simp
  ·rw[DF,DF,h3]
theorem Yd(v:VX Γ CL k W T X):∀(ys:Ad Ao)(ts:Ad Af)(zs:Ad Aj),EW ys=Aa zs->tgB T ts zs=Ab->PGs X ys (ts.foldr (fun t u=>Hy (EX t) u) HF)/\ts.length=ys.length:=by
 intro ys
 induction ys with
 |nil=>
  intro ts zs e h;cases e;cases ts with
  |nil=>exact⟨Rs,rfl⟩
  |cons t ts=>cases h
 |cons y r ih=>
  intro ts zs e h;obtain⟨x,p,ws,rfl,e2,rfl⟩:=MT e;cases ts with
  |nil=>cases h
  |cons t ts=>
   have h':(T.N[t]? == Aa x&&T.sc.names.lookup x==Aa .local&&tgB T ts ws)=Ab:=h;simp only[Al,AQ]at h';obtain⟨h1,h2⟩:=ih ts ws e2 h'.2;exact⟨Qq (Li (by rw[v.N];exact v.nd) (by rw[v.N];exact h'.1.1) (by rw[v.sc];exact .inl h'.1.2) (.inr (by rw[v.sc];exact h'.1.2))) h1 (by rw[Nx];rfl),congrArg (· + 1) h2⟩
theorem YL(v:VX Γ CL k W T X)(hn:(EW ys).isSome=Ab)(h:tgB T ts (tgN ys)=Ab):PG X (.Tuple ys kk pos) (KI X.K ts.length (ts.foldr (fun t u=>Hy (EX t) u) HF)):=by
 cases e:EW ys with
 |none=>rw[e]at hn;cases hn
 |some zs=>
  have e2:tgN ys=zs:=by unfold tgN;rw[e];rfl
  rw[e2]at h;obtain⟨h1,h2⟩:=Yd v ys ts zs e h;obtain⟨h3,h4,_⟩:=MS (env:=X.env) ys zs e;exact Ot v.calm h1 (by rw[h3,h2]) h4
end
noncomputable def Es.len:Es->Af
 |.nil=>0
 |.cons _ es=>es.len+1
theorem Mh(Γ:Gam)(ρ:Rho):∀(es:Es)(ds:Ad D),evA Γ ρ es=.ok ds->ds.length=es.len
 |.nil,ds,h=>by cases h;rfl
 |.cons e es,ds,h=>by
  obtain⟨x,h1,h2⟩:=Jr (QC Γ ρ e es ▸ h);obtain⟨xs,h3,h4⟩:=Jr h2;cases h4;exact congrArg (· + 1) (Mh Γ ρ es xs h3)
theorem Le(Γ:Gam)(ρ:Rho):∀(es:Es)(ds:Ad D),evB Γ ρ es=.ok ds->ds.length=es.len
 |.nil,ds,h=>by cases h;rfl
 |.cons e es,ds,h=>by
  obtain⟨x,h1,h2⟩:=Jr (NT Γ ρ e es ▸ h);obtain⟨xs,h3,h4⟩:=Jr h2;cases h4;exact congrArg (· + 1) (Le Γ ρ es xs h3)
theorem RN(Γ:Gam)(ρ:Rho)(e:E)(h:shE ρ e=Ab):top ρ e (evE Γ ρ e)=evE Γ ρ e:=by
 cases e with
 |var i=>
  show BF ρ i=FE ρ i;have h':shV ρ i=Ab:=h;unfold shV at h';unfold BF FE;cases q:ρ[i]? with
  |none=>rfl
  |some x=>
   cases x with
   |none=>rfl
   |some y=>
    obtain⟨d,o⟩:=y;cases o with
    |true=>rw[q]at h';cases h'
    |false=>rfl
 |_=>rfl
theorem Lm(Γ:Gam)(ρ:Rho):∀(es:Es),HA ρ es=Ab->evB Γ ρ es=evA Γ ρ es
 |.nil,_=>rfl
 |.cons e es,h=>by
  simp only[We,Al]at h;rw[QC,NT,RN Γ ρ e h.1,Lm Γ ρ es h.2]
theorem Of(Γ:Gam)(c:E):Rf (fun ρ=>evE Γ ρ c) (fun ρ=>top ρ c (evE Γ ρ c)):=fun ρ=>by
 by_cases h:shE ρ c=Ab
 ·exact .inr (RN Γ ρ c h).symm
 ·cases c with
  |var i=>
   refine .inl ?_;show FE ρ i=.bad;have h':¬ shV ρ i=Ab:=h;unfold shV at h';unfold FE;cases q:ρ[i]? with
   |none=>rfl
   |some x=>
    cases x with
    |none=>rfl
    |some y=>
     obtain⟨d,o⟩:=y;cases o with
     |true=>rfl
     |false=>rw[q]at h';exact absurd rfl h'
  |_=>exact absurd rfl h
def Pcs(X:Cx)(CL:ClA)(W:XW)(e:Ao)(f:Rho->R D):Prop:=∃ tg iter elt ifs scope pos N' ts fi fc fe as g,e=.ListComp elt [⟨tg,iter,ifs,0⟩] scope pos/\BlockOk X scope N' ts/\SI X CL W tg iter fi/\GG X.K CL ts as g /\
 (∀ cl C s H fp,PG (cxC X scope cl C N' s H fp) tg g)/\(∀ cl C s H fp,STs (cxC X scope cl C N' s H fp) CL ifs fc)/\(∀ cl C s H fp,SE (cxC X scope cl C N' s H fp) CL W0 elt fe)/\(∀ x,CU iter X.env x=pure x) /\
 ∀ ρ,f ρ=(fi ρ).bind fun xs=>(noX (BV (fun x=>(as x ρ).bind fc) (fun x=>(as x ρ).bind fe) xs)).bind fun ys=>.ok (.lst ys)
theorem Pcs.sc{e:Ao}{f:Rho->R D}(hc:X.calm=Ab)(h:Pcs X CL W e f):SC X CL W Ab e f:=by
 obtain⟨tg,iter,elt,ifs,scope,pos,N',ts,fi,fc,fe,as,g,rfl,B,hi,hGG,hg,ht,he,hs,ef⟩:=h;exact SC.congr (Zr hc B hi hGG hg ht he hs) ef
structure OkE (Γ:Gam) (CL:ClA) (W:XW) (X:Cx) (e:Ao) (c:E):Prop where
 se:SE X CL W e (fun ρ=>evE Γ ρ c)
 st:ST X CL W e (fun ρ=>top ρ c (evE Γ ρ c))
 nw:EY Γ c=Ab->SC X CL W Ab e (fun ρ=>evE Γ ρ c)
 cp:JB e=Ac->Pcs X CL W e (fun ρ=>evE Γ ρ c)
section
variable{Γ:Gam}{CL:ClA}{W:XW}{X:Cx}{e:Ao}{c:E}
theorem FB(h:SE X CL W e (fun ρ=>evE Γ ρ c))(ht:∀ ρ r,top ρ c r=r)(hn:EY Γ c=Ac)(hc:JB e=Ab):OkE Γ CL W X e c:=
 ⟨h,by simp only[ht];exact h.st,fun z=>absurd z (by rw[hn];decide),fun z=>absurd z (by rw[hc];decide)⟩
theorem Ow(h:SC X CL W Ab e (fun ρ=>evE Γ ρ c))(ht:∀ ρ r,top ρ c r=r)(hc:JB e=Ab):OkE Γ CL W X e c:=
 ⟨h.se,by simp only[ht];exact h.se.st,fun _=>h,fun z=>absurd z (by rw[hc];decide)⟩
theorem SM(hc:X.calm=Ab)(h:Pcs X CL W e (fun ρ=>evE Γ ρ c))(ht:∀ ρ r,top ρ c r=r):OkE Γ CL W X e c:=
 ⟨(h.sc hc).se,by simp only[ht];exact(h.sc hc).se.st,fun _=>h.sc hc,fun _=>h⟩
end
theorem kU{k:Ki}(h:OC k=Aa x):∃ T,tyK k=Aa T/\C3 x=Aa (.type T):=by
 cases k<;>simp only[OC]at h<;>cases h
 ·exact⟨_,rfl,PyProof.Rows.boot_int⟩
 ·exact⟨_,rfl,PyProof.Rows.boot_bool⟩
 ·exact⟨_,rfl,PyProof.Rows.boot_str⟩
 ·exact⟨_,rfl,UL⟩
 ·exact⟨_,rfl,Fs⟩
structure Snd (Γ:Gam) (CL:ClA) (k:Af) (n:Af):Prop where
 e:∀(W:XW)(T:Tc)(X:Cx)(x:Ao)(c:E),VX Γ CL k W T X->A8 n T x c=Ab->OkE Γ CL W X x c
 b:∀(W:XW)(T:Tc)(X:Cx)(x:Ao)(c:E),VX Γ CL k W T X->Ji n T x c=Ab->SB X CL W x (fun ρ=>(top ρ c (evE Γ ρ c)).bind BB)
 bs:∀(W:XW)(T:Tc)(X:Cx)(xs:Ad Ao)(es:Es)(pos:AI),VX Γ CL k W T X->chkBs n T xs es=Ab->xs≠[]->SW X CL W (.BoolOp .And xs pos) (fun ρ=>(evN Γ ρ es).bind BB)/\SW X CL W (.BoolOp .Or xs pos) (fun ρ=>(evO Γ ρ es).bind BB)
 es:∀(W:XW)(T:Tc)(X:Cx)(xs:Ad Ao)(es:Es),VX Γ CL k W T X->chkEs n T xs es=Ab->SA X CL W xs (fun ρ=>evA Γ ρ es)/\SAT X CL W xs (fun ρ=>evB Γ ρ es)/\xs.length=es.len/\(∀ pos,xs≠[]->SE X CL W (.BoolOp .And xs pos) (fun ρ=>evN Γ ρ es)/\SE X CL W (.BoolOp .Or xs pos) (fun ρ=>evO Γ ρ es))/\(∀ pos,(Ce pos (Ax xs X.env)).any (·.1)=Ac)
 o:∀(W:XW)(T:Tc)(X:Cx)(x:Am Ao)(c:E),VX Γ CL k W T X->chkO n T x c=Ab->SO X CL W x (fun ρ=>(top ρ c (evE Γ ρ c)).bind (slE c))
 t:∀(T:Tc)(X:Cx)(xs:Ad Ao)(c:E),VX Γ CL k W0 T X->chkT n T xs c=Ab->STs X CL xs (fun ρ=>(top ρ c (evE Γ ρ c)).bind BB)
 i:∀(W:XW)(T:Tc)(X:Cx)(tu:An)(tg x:Ao)(i:I),VX Γ CL k W T X->Tq tu tg=Ab->chkI n T tu x i=Ab->SI X CL W tg x (fun ρ=>evI Γ ρ i)
section
variable{Γ:Gam}{CL:ClA}{W:XW}{k n:Af}{T:Tc}{X:Cx}
theorem W7:Snd Γ CL k 0:=⟨fun _ _ _ _ _ _ h=>absurd (show Ac=Ab from h) Ar,fun _ _ _ _ _ _ h=>absurd (show Ac=Ab from h) Ar,fun _ _ _ _ _ _ _ h=>absurd (show Ac=Ab from h) Ar,fun _ _ _ _ _ _ h=>absurd (show Ac=Ab from h) Ar,fun _ _ _ _ _ _ h=>absurd (show Ac=Ab from h) Ar,fun _ _ _ _ _ h=>absurd (show Ac=Ab from h) Ar,fun _ _ _ _ _ _ _ _ _ h=>absurd (show Ac=Ab from h) Ar⟩
theorem Pu{x:Ao}(h:Ek x=Ab)(hx:(Ce pos (Ax xs env)).any (·.1)=Ac):(Ce pos (Ax (x::xs) env)).any (·.1)=Ac:=by
 rw[Dy h];show (Ac||(Ce pos (Ax xs env)).any (·.1))=Ac;rw[hx];rfl
theorem aV(S:Snd Γ CL k n)(W:XW)(T:Tc)(X:Cx)(xs:Ad Ao)(es:Es)(v:VX Γ CL k W T X)(h:chkEs (n+1) T xs es=Ab):SA X CL W xs (fun ρ=>evA Γ ρ es)/\SAT X CL W xs (fun ρ=>evB Γ ρ es)/\xs.length=es.len/\(∀ pos,xs≠[]->SE X CL W (.BoolOp .And xs pos) (fun ρ=>evN Γ ρ es)/\SE X CL W (.BoolOp .Or xs pos) (fun ρ=>evO Γ ρ es))/\(∀ pos,(Ce pos (Ax xs X.env)).any (·.1)=Ac):=by
 cases xs with
 |nil=>
  cases es with
  |nil=>exact⟨RE,Rn,rfl,fun _ z=>absurd rfl z,fun _=>rfl⟩
  |cons=>simp[chkEs]at h
 |cons x xs=>
  cases es with
  |nil=>simp[chkEs]at h
  |cons e es=>
   simp only[chkEs,Al]at h;obtain⟨⟨h0,h1⟩,h2⟩:=h;have he:=S.e W T X x e v h1;obtain⟨a1,a2,a3,a4,a5⟩:=S.es W T X xs es v h2;refine⟨Ro he.se a1 (Dy h0),QP he.st a2 (Dy h0),congrArg (· + 1) a3,fun pos _=>?_,fun pos=>Pu h0 (a5 pos)⟩
   cases xs with
   |nil=>
    cases es with
    |nil=>exact⟨Oa he.se,Oa he.se⟩
    |cons=>cases a3
   |cons y ys=>
    cases es with
    |nil=>cases a3
    |cons e' es'=>
     obtain⟨b1,b2⟩:=a4 pos (by simp)
     exact⟨R4 he.se b1,hJ he.se b2⟩
theorem iT(S:Snd Γ CL k n)(W:XW)(T:Tc)(X:Cx)(x:Am Ao)(c:E)(v:VX Γ CL k W T X)(h:chkO (n+1) T x c=Ab):SO X CL W x (fun ρ=>(top ρ c (evE Γ ρ c)).bind (slE c)):=by
 cases x with
 |none=>
  simp only[chkO]at h;split at h
  ·exact Zm
  ·cases h
 |some x=>
  simp only[chkO]at h;split at h
  ·cases h
  ·rename_i hne;have q:=Zl (S.e W T X x c v h).st;have e:slE c=fun d=>(EG d).bind fun i=>.ok (Aa i):=by
    funext d
    cases c<;>first|rfl|exact absurd rfl hne
   rw[e];exact q
theorem iR(S:Snd Γ CL k n)(T:Tc)(X:Cx)(xs:Ad Ao)(c:E)(v:VX Γ CL k W0 T X)(h:chkT (n+1) T xs c=Ab):STs X CL xs (fun ρ=>(top ρ c (evE Γ ρ c)).bind BB):=by
 cases xs with
 |nil=>
  simp only[chkT]at h;split at h
  ·exact Yh
  ·cases h
 |cons x xs=>
  cases xs with
  |nil=>
   simp only[chkT]at h;exact Yg (S.b W0 T X x c v h)
  |cons y ys=>simp[chkT]at h
theorem iU(S:Snd Γ CL k n)(W:XW)(T:Tc)(X:Cx)(tu:An)(tg x:Ao)(i:I)(v:VX Γ CL k W T X)(ht':Tq tu tg=Ab)(h:chkI (n+1) T tu x i=Ab):SI X CL W tg x (fun ρ=>evI Γ ρ i):=by
 have ht:tu=Ab->iY tg=Ab:=fun z=>by
  subst z;cases tg<;>first|rfl|cases ht'
 cases i with
 |e a=>
  simp only[chkI]at h;exact lZ (S.e W T X x a v h).se
 |rng a=>
  simp only[chkI]at h;split at h
  ·simp only[Al,AQ]at h;obtain⟨⟨⟨rfl,h1⟩,h2⟩,h3⟩:=h;obtain⟨g1,g2,_,_⟩:=GE v h1;exact dJ (S.e W T X _ a v h3).st g1 g2 (Dy h2)
  ·cases h
 |rng2 a b=>
  simp only[chkI]at h;split at h
  ·simp only[Al,AQ]at h;obtain⟨⟨⟨⟨⟨rfl,h1⟩,h2⟩,h3⟩,h4⟩,h5⟩:=h;obtain⟨g1,g2,_,_⟩:=GE v h1;exact Zo (S.e W T X _ a v h4).st (S.e W T X _ b v h5).st g1 g2 (by rw[Dy h2,Dy h3];rfl) (by rw[Dy h3];rfl)
  ·cases h
 |zip a b=>
  simp only[chkI]at h;split at h
  ·simp only[Al,AQ]at h;obtain⟨⟨⟨⟨⟨⟨h0,rfl⟩,h1⟩,h2⟩,h3⟩,h4⟩,h5⟩:=h;obtain⟨g1,g2,_,_⟩:=GE v h1;have hg:=ht h0;cases tg with
   |Tuple es m tpos=>exact dI (S.e W T X _ a v h4).se (S.e W T X _ b v h5).se g1 g2 (by rw[Dy h2,Dy h3];rfl) (by rw[Dy h3];rfl)
   |_=>cases hg
  ·cases h
 |zip3 a b c=>simp[chkI]at h
 |enm a=>
  simp only[chkI]at h;split at h
  ·simp only[Al,AQ]at h;obtain⟨⟨⟨⟨h0,rfl⟩,h1⟩,h2⟩,h3⟩:=h;obtain⟨g1,g2,_,_⟩:=GE v h1;have hg:=ht h0;cases tg with
   |Tuple es m tpos=>exact Zp (S.e W T X _ a v h3).se g1 g2 (Dy h2)
   |_=>cases hg
  ·cases h
theorem Kg{c:Prop}[Fa c]{b:An}:(if c then R.ok (D.bl b) else .bad)=.bad\/∃ b',(if c then R.ok (D.bl b) else .bad)=.ok (.bl b'):=by
 by_cases h:c
 ·rw[AF h];exact .inr ⟨_,rfl⟩
 ·rw[AM h];exact .inl rfl
theorem X9(op:Eh)(d d':D):BK op d d'=.bad\/∃ b,BK op d d'=.ok (.bl b):=by
 cases op with
 |Eq=>exact Kg
 |NotEq=>exact Kg
 |In=>
  cases d' with
  |lst ys=>exact Kg
  |tup ys=>exact Kg
  |dic kvs=>
   show (match Jg d with|some k=>R.ok (D.bl (kvs.any fun p=>p.1==k))|none=>.bad)=.bad\/∃ b,(match Jg d with|some k=>R.ok (D.bl (kvs.any fun p=>p.1==k))|none=>.bad)=.ok (.bl b)
   cases Jg d with
   |some k=>exact .inr ⟨_,rfl⟩
   |none=>exact .inl rfl
  |_=>cases d<;>exact .inl rfl
 |NotIn=>
  cases d' with
  |lst ys=>exact Kg
  |tup ys=>exact Kg
  |_=>cases d<;>exact .inl rfl
 |Is=>
  cases d' with
  |non=>cases d<;>first|exact .inr ⟨_,rfl⟩|exact .inl rfl
  |_=>cases d<;>first|exact .inl rfl|exact .inr ⟨_,rfl⟩
 |IsNot=>
  cases d' with
  |non=>cases d<;>first|exact .inr ⟨_,rfl⟩|exact .inl rfl
  |_=>cases d<;>first|exact .inl rfl|exact .inr ⟨_,rfl⟩
 |_=>
  cases d with
  |int i=>cases d'<;>first|exact .inr ⟨_,rfl⟩|exact .inl rfl
  |_=>exact .inl rfl
theorem Q5(op:Eh)(d d':D):(BK op d d').bind BB=.bad\/(BK op d d').bind BB=(BK op d d').bind Dr:=by
 rcases X9 op d d' with h|⟨b,h⟩
 ·rw[h];exact .inl rfl
 ·rw[h];exact .inr rfl
theorem Sr(e e':E)(es:Es):Rf (fun ρ=>(evN Γ ρ (.cons e (.cons e' es))).bind BB) (fun ρ=>((top ρ e (evE Γ ρ e)).bind BB).bind fun c=>if c=Ab then (evN Γ ρ (.cons e' es)).bind BB else .ok Ac):=fun ρ=>by
 have e0:evN Γ ρ (.cons e (.cons e' es))=(evE Γ ρ e).bind fun x=>(Dr x).bind fun c=>if c=Ab then evN Γ ρ (.cons e' es) else .ok (.bl Ac):=rfl
 dsimp only;rw[e0];rcases Of Γ e ρ with z|z<;>dsimp only at z
 ·rw[z];exact .inl rfl
 ·rw[<-z];cases evE Γ ρ e with
  |bad=>exact .inl rfl
  |exn x=>exact .inr rfl
  |ok d=>
   cases d with
   |bl b=>cases b<;>exact .inr rfl
   |_=>exact .inl rfl
theorem Sq(e e':E)(es:Es):Rf (fun ρ=>(evO Γ ρ (.cons e (.cons e' es))).bind BB) (fun ρ=>((top ρ e (evE Γ ρ e)).bind BB).bind fun c=>if c=Ab then .ok Ab else (evO Γ ρ (.cons e' es)).bind BB):=fun ρ=>by
 have e0:evO Γ ρ (.cons e (.cons e' es))=(evE Γ ρ e).bind fun x=>(Dr x).bind fun c=>if c=Ab then .ok (.bl Ab) else evO Γ ρ (.cons e' es):=rfl
 dsimp only;rw[e0];rcases Of Γ e ρ with z|z<;>dsimp only at z
 ·rw[z];exact .inl rfl
 ·rw[<-z];cases evE Γ ρ e with
  |bad=>exact .inl rfl
  |exn x=>exact .inr rfl
  |ok d=>
   cases d with
   |bl b=>cases b<;>exact .inr rfl
   |_=>exact .inl rfl
theorem Rf.tru(e:E):Rf (fun ρ=>(evE Γ ρ e).bind BB) (fun ρ=>(top ρ e (evE Γ ρ e)).bind BB):=fun ρ=>by
 rcases Of Γ e ρ with z|z<;>dsimp only at z ⊢
 ·rw[z];exact .inl rfl
 ·rw[<-z];exact .inr rfl
theorem aW(S:Snd Γ CL k n)(W:XW)(T:Tc)(X:Cx)(xs:Ad Ao)(es:Es)(pos:AI)(v:VX Γ CL k W T X)(h:chkBs (n+1) T xs es=Ab)(hne:xs≠[]):SW X CL W (.BoolOp .And xs pos) (fun ρ=>(evN Γ ρ es).bind BB)/\SW X CL W (.BoolOp .Or xs pos) (fun ρ=>(evO Γ ρ es).bind BB):=by
 cases xs with
 |nil=>exact absurd rfl hne
 |cons x xs=>
  cases es with
  |nil=>simp[chkBs]at h
  |cons e es=>
   simp only[chkBs,Al]at h;obtain⟨h1,h2⟩:=h;have he:=S.b W T X x e v h1;cases xs with
   |nil=>
    cases es with
    |nil=>exact⟨SW.ref (Q4 he) (Rf.tru e),SW.ref (RQ he) (Rf.tru e)⟩
    |cons=>
     cases n with
     |zero=>simp[chkBs]at h2
     |succ n=>simp[chkBs]at h2
   |cons y ys=>
    cases es with
    |nil=>
     cases n with
     |zero=>simp[chkBs]at h2
     |succ n=>simp[chkBs]at h2
    |cons e' es'=>
     obtain⟨b1,b2⟩:=S.bs W T X (y::ys) (.cons e' es') pos v h2 (by simp)
     exact⟨SW.ref (RS he b1) (Sr e e' es'),SW.ref (SL he b2) (Sq e e' es')⟩
theorem YH(S:Snd Γ CL k n){x:Ao}{ops:Ad Eh}{b:BI}(v:VX Γ CL k W T X)(h:Tp T (A8 n) x ops ys b as=Ab):SB X CL W (.Compare x ops ys pos) (fun ρ=>(top ρ (.bi b as) (evE Γ ρ (.bi b as))).bind BB):=by
 exact absurd (show Ac=Ab from h) Ar
theorem iW(S:Snd Γ CL k n)(W:XW)(T:Tc)(X:Cx)(x:Ao)(c:E)(v:VX Γ CL k W T X)(h:Ji (n+1) T x c=Ab):SB X CL W x (fun ρ=>(top ρ c (evE Γ ρ c)).bind BB):=by
 have plain:∀ e,J4 e=Ab->A8 n T e c=Ab->SB X CL W e (fun ρ=>(top ρ c (evE Γ ρ c)).bind BB):=fun e h1 h2=>R7 (S.e W T X e c v h2).st (Q3 h1)
 simp only[Ji]at h;split at h
 ·split at h
  ·rename_i a;refine SB.ref (R8 (S.b W T X _ a v h)) fun ρ=>?_
   show ((top ρ a (evE Γ ρ a)).bind fun x=>(Dr x).bind fun b=>.ok (.bl (!b))).bind BB=.bad\/((top ρ a (evE Γ ρ a)).bind fun x=>(Dr x).bind fun b=>.ok (.bl (!b))).bind BB=_
   cases top ρ a (evE Γ ρ a) with
   |bad=>exact .inl rfl
   |exn x=>exact .inr rfl
   |ok d=>cases d<;>first|exact .inr rfl|exact .inl rfl
  ·cases h
 ·split at h
  ·simp only[Al,Bk,CI]at h;exact(S.bs W T X _ _ _ v h.1 h.2).1.sb
  ·cases h
 ·split at h
  ·simp only[Al,Bk,CI]at h;exact(S.bs W T X _ _ _ v h.1 h.2).2.sb
  ·cases h
 ·split at h
  ·split at h
   ·rename_i op a b _ _ op' y;simp only[Al,Bk,A7]at h;obtain⟨⟨⟨rfl,h1⟩,h2⟩,h3⟩:=h;refine SB.ref (dY (Ka v.room.units _) (S.e W T X _ a v h2).st (S.e W T X _ b v h3).st h1) fun ρ=>?_
    show ((top ρ a (evE Γ ρ a)).bind fun x=>(top ρ b (evE Γ ρ b)).bind fun y=>BK op' x y).bind BB=.bad\/((top ρ a (evE Γ ρ a)).bind fun x=>(top ρ b (evE Γ ρ b)).bind fun y=>BK op' x y).bind BB=_
    cases top ρ a (evE Γ ρ a) with
    |bad=>exact .inl rfl
    |exn x=>exact .inr rfl
    |ok d=>
     cases top ρ b (evE Γ ρ b) with
     |bad=>exact .inl rfl
     |exn x=>exact .inr rfl
     |ok d'=>
      dsimp only[R.bind];exact Q5 _ d d'
   ·cases h
  ·split at h
   ·rename_i op1 op2 a b c _ _ o1 o2 y z;simp only[Al,Bk,A7]at h;obtain⟨⟨⟨⟨⟨rfl,rfl⟩,h1⟩,h2⟩,h3⟩,h4⟩:=h;refine SB.ref (Xc v.room.units (S.e W T X _ a v h2).st (S.e W T X _ b v h3).st (S.e W T X _ c v h4).st h1) fun ρ=>?_
    show ((top ρ a (evE Γ ρ a)).bind fun x=>(top ρ b (evE Γ ρ b)).bind fun y=>(BK o1 x y).bind fun z=>(Dr z).bind fun k=>if k=Ab then (top ρ c (evE Γ ρ c)).bind fun u=>BK o2 y u else .ok (.bl Ac)).bind BB=.bad\/((top ρ a (evE Γ ρ a)).bind fun x=>(top ρ b (evE Γ ρ b)).bind fun y=>(BK o1 x y).bind fun z=>(Dr z).bind fun k=>if k=Ab then (top ρ c (evE Γ ρ c)).bind fun u=>BK o2 y u else .ok (.bl Ac)).bind BB=_
    cases top ρ a (evE Γ ρ a) with
    |bad=>exact .inl rfl
    |exn x=>exact .inr rfl
    |ok d=>
     cases top ρ b (evE Γ ρ b) with
     |bad=>exact .inl rfl
     |exn x=>exact .inr rfl
     |ok d'=>
      dsimp only[R.bind];cases BK o1 d d' with
      |bad=>exact .inl rfl
      |exn x=>exact .inr rfl
      |ok d3=>
       cases d3 with
       |bl k=>
        cases k with
        |false=>exact .inr rfl
        |true=>
         dsimp only[R.bind,Dr];rw[AF rfl,AF rfl];cases top ρ c (evE Γ ρ c) with
         |bad=>exact .inl rfl
         |exn x=>exact .inr rfl
         |ok d4=>exact Q5 _ d' d4
       |_=>exact .inl rfl
   ·cases h
  ·exact YH S v h
  ·cases h
 ·simp only[Al]at h;exact plain _ h.1 h.2
end
section
variable{Γ:Gam}{CL:ClA}{W:XW}{k n:Af}{T:Tc}{X:Cx}
theorem kW{b:BI}{x:Ao}(v:VX Γ CL k W T X)(hb:OD b=Aa g)(hg:isB T g=Ab)(hs:SAT X CL W (x::xs) (fun ρ=>evB Γ ρ as))(h0:Ek x=Ab)(hpl:∀ pos,(Ce pos (Ax xs X.env)).any (·.1)=Ac):OkE Γ CL W X (.Call (.Name g p) (x::xs) [] pos) (.bi b as):=by
 obtain⟨g1,g2,g3,g4⟩:=GE v hg;cases b<;>simp only[OD]at hb<;>cases hb
 ·exact FB (R0 gB g1 g2 PySem.boot_len hs g3 g4 (Dy h0) hpl) (fun _ _=>rfl) rfl rfl
 ·exact Ow (dF ZV g1 g2 UL hs g3 g4 (Dy h0) hpl) (fun _ _=>rfl) rfl
 ·exact FB (dX Yc g1 g2 Fs hs g3 g4 (Dy h0) hpl) (fun _ _=>rfl) rfl rfl
 ·exact FB (R0 (gE v.calm) g1 g2 PyProof.Rows.boot_all hs g3 g4 (Dy h0) hpl) (fun _ _=>rfl) rfl rfl
theorem Ll{l:Ad (Aj×Af)}(h:inX l g c=Ab):(g,c)∈l:=by
 unfold inX at h;simp only[ED,Al,AQ]at h;obtain⟨p,hp,rfl,rfl⟩:=h;exact hp
theorem J8{x:Ao}{es:Es}(h:chkEs n T (x::xs) es=Ab):Ek x=Ab/\∃ e es',es=.cons e es'/\∃ m,n=m+1/\chkEs m T xs es'=Ab:=by
 cases n with
 |zero=>simp[chkEs]at h
 |succ m=>
  cases es with
  |nil=>simp[chkEs]at h
  |cons e es=>
   simp only[chkEs,Al]at h;exact⟨h.1.1,e,es,rfl,m,rfl,h.2⟩
theorem K3:∀(m:Af)(xs:Ad Ao)(es:Es),chkEs m T xs es=Ab->∀ pos,(Ce pos (Ax xs X.env)).any (·.1)=Ac:=by
 intro m
 induction m with
 |zero=>intro xs es h;simp[chkEs]at h
 |succ m ih=>
  intro xs es h pos;cases xs with
  |nil=>rfl
  |cons x xs=>
   obtain⟨h0,e,es',rfl,m',e1,h1⟩:=J8 h;cases e1;exact Pu h0 (ih xs es' h1 pos)
theorem eA(S:Snd Γ CL k n){x:Ao}{b:BI}(v:VX Γ CL k W T X)(h:(match Pd as with|some a=>(match Tu x with|some y=>decide (b=.rvs)&&A8 n T y a|none=>Ac)|none=>Ac)=Ab):OkE Γ CL W X x (.bi b as):=by
 simp[Pd]at h
theorem bK(S:Snd Γ CL k n){x:Ao}{b:BI}(v:VX Γ CL k W T X)(h:(match OS as with|some (a,c)=>(match TW x with|some (y,z,_)=>decide (b=.tlt) && !behindInMarks .Lt z&&A8 n T y a&&A8 n T z c|none=>Ac)|none=>Ac)=Ab):OkE Γ CL W X x (.bi b as):=by
 simp[OS]at h
theorem eE{x:Ao}{b:BI}(v:VX Γ CL k W T X)(h:TR T x b as=Ab):OkE Γ CL W X x (.bi b as):=by
 exact absurd h Ar
theorem bM(S:Snd Γ CL k n){x:Ao}{b:BI}(v:VX Γ CL k W T X)(h:(match OT as with|some (a,k)=>(match Ts x with|some (y,j)=>decide (b=.stp)&&decide (j=k)&&decide (0<=k)&&A8 n T y a|none=>Ac)|none=>Ac)=Ab):OkE Γ CL W X x (.bi b as):=by
 simp[OT]at h
theorem fJ(S:Snd Γ CL k n){x:Ao}{b:BI}(v:VX Γ CL k W T X)(h:(match OX as with|some (a,c)=>(match Tn x with|some (g,h,y,z)=>decide (b=.list)&&g==("list" : Aj)&&h==("range" : Aj)&&isB T g&&isB T h&&Ek y&&Ek z&&A8 n T y a&&A8 n T z c|none=>Ac)|none=>Ac)=Ab):OkE Γ CL W X x (.bi b as):=by
 simp[OX]at h
theorem YR(S:Snd Γ CL k n){x:Ao}{b:BI}(v:VX Γ CL k W T X)(h:(match OU as with|some a=>(match Tl x with|some (g,h,y)=>decide (b=.lset)&&g==("len" : Aj)&&h==("set" : Aj)&&isB T g&&isB T h&&Ek y&&A8 n T y a|none=>Ac)|none=>Ac)=Ab):OkE Γ CL W X x (.bi b as):=by
 simp[OU]at h
theorem iV(S:Snd Γ CL k n)(W:XW)(T:Tc)(X:Cx)(x:Ao)(c:E)(v:VX Γ CL k W T X)(h:A8 (n+1) T x c=Ab):OkE Γ CL W X x c:=by
 cases c with
 |non=>
  unfold A8 at h;dsimp only at h;split at h
  ·exact FB dM (fun _ _=>rfl) rfl rfl
  ·cases h
 |bl b=>
  unfold A8 at h;dsimp only at h;split at h
  ·have e:=eq_of_beq h;subst e;exact FB SR (fun _ _=>rfl) rfl rfl
  ·cases h
 |int i=>
  unfold A8 at h;dsimp only at h;split at h
  ·have e:=nQ h;subst e;exact FB dR (fun _ _=>rfl) rfl rfl
  ·cases h
 |str i=>
  unfold A8 at h;dsimp only at h;split at h
  ·have e:=nQ h;subst e;exact FB RX (fun _ _=>rfl) rfl rfl
  ·cases h
 |var i=>
  unfold A8 at h;dsimp only at h;split at h
  ·exact⟨RW (Mn v h),Kl (Mn v h),fun z=>(nomatch z),fun z=>(nomatch z)⟩
  ·cases h
 |glob g=>exact absurd (show Ac=Ab from h) Ar
 |bin op a b=>
  unfold A8 at h;dsimp only at h;split at h
  ·simp only[Al,A7]at h;obtain⟨⟨rfl,h1⟩,h2⟩:=h;have ha:=(S.e W T X _ a v h1).st;have hb:=(S.e W T X _ b v h2).st;refine⟨RZ (Rw _) ha hb,(RZ (Rw _) ha hb).st,fun z=>?_,fun z=>nomatch z⟩
   rename_i op' _ _;cases op'<;>first|exact dG ha hb|cases z
  ·cases h
 |un op a=>exact absurd (show Ac=Ab from h) Ar
 |no a=>
  unfold A8 at h;dsimp only at h;split at h
  ·exact FB (RY (S.e W T X _ a v h).st) (fun _ _=>rfl) rfl rfl
  ·cases h
 |and es=>
  unfold A8 at h;dsimp only at h;split at h
  ·simp only[Al,Bk,CI]at h;exact FB ((S.es W T X _ es v h.1).2.2.2.1 _ h.2).1 (fun _ _=>rfl) rfl rfl
  ·cases h
 |or es=>
  unfold A8 at h;dsimp only at h;split at h
  ·simp only[Al,Bk,CI]at h;exact FB ((S.es W T X _ es v h.1).2.2.2.1 _ h.2).2 (fun _ _=>rfl) rfl rfl
  ·cases h
 |cmp op a b=>
  unfold A8 at h;dsimp only at h;split at h
  ·simp only[Al,Bk,A7]at h;obtain⟨⟨⟨rfl,h1⟩,h2⟩,h3⟩:=h;exact FB (dW (Ka v.room.units _) (S.e W T X _ a v h2).st (S.e W T X _ b v h3).st h1) (fun _ _=>rfl) rfl rfl
  ·cases h
 |cmp2 op1 op2 a b c=>
  unfold A8 at h;dsimp only at h;split at h
  ·simp only[Al,Bk,A7]at h;obtain⟨⟨⟨⟨⟨rfl,rfl⟩,h1⟩,h2⟩,h3⟩,h4⟩:=h;exact FB (Xa v.room.units (S.e W T X _ a v h2).st (S.e W T X _ b v h3).st (S.e W T X _ c v h4).st h1) (fun _ _=>rfl) rfl rfl
  ·cases h
 |ite c a b=>exact absurd (show Ac=Ab from h) Ar
 |call f as=>
  unfold A8 at h;dsimp only at h;split at h
  ·rename_i g pp y ys qq;simp only[Al,ED,AQ,A7]at h;obtain⟨⟨⟨⟨⟨p,hp,⟨rfl,rfl⟩,hl⟩,h900⟩,h1⟩,h2⟩,h3⟩:=h;obtain⟨fa,fd,ps,m1,m2,m3,m4,m5,_⟩:=v.fn p hp;have hlt:p.2.2<1000:=by omega
   rw[Hm hlt]at m4 m5;have m5:=m5 hlt;obtain⟨n2,n3,n4⟩:=Hv h2;obtain⟨a1,a2,a3,a4,a5⟩:=S.es W T X _ as v h3;obtain⟨s0,e,es',rfl,m,rfl,s1⟩:=J8 h3;have q:SC X CL W (Γ.fr p.2.1) (.Call (.Name p.1 pp) (y::ys) [] qq) (fun ρ=>evE Γ ρ (.call p.2.1 (.cons e es'))):=Zs (sh:=fun ρ=>HA ρ (.cons e es')) m5 v.room (by unfold glB at h1;show X.env.scope.names.lookup p.1=_;rw[v.sc];exact eq_of_beq h1) m1 m2 m3 v.px a1 a2 (fun ρ z=>Lm Γ ρ _ z) (fun ρ ds z=>by rw[Le Γ ρ _ _ z,<-a3,hl];rfl) n2 (Dy s0) (K3 m ys es' s1)
   exact⟨q.se,q.se.st,fun z=>by
    have z':Γ.fr p.2.1=Ab:=z;rw[z']at q;exact q,fun z=>nomatch z⟩
  ·cases h
 |bi b as=>
  unfold A8 at h;dsimp only at h;simp only[CH]at h;rcases h with (((((h|h)|h)|h)|h)|h)|h
  ·split at h
   ·simp only[Al,AQ]at h;obtain⟨⟨h1,h2⟩,h3⟩:=h;obtain⟨s0,e,es',rfl,m,rfl,s1⟩:=J8 h3;exact kW v h1 h2 (S.es W T X _ _ v h3).2.1 s0 (K3 m _ es' s1)
   ·cases h
  ·exact eE v h
  ·exact fJ S v h
  ·exact bM S v h
  ·exact YR S v h
  ·exact bK S v h
  ·exact eA S v h
 |isi a ks=>
  cases ks with
  |nil=>exact absurd (show Ac=Ab from h) Ar
  |cons k' ks=>
   cases ks with
   |cons=>exact absurd (show Ac=Ab from h) Ar
   |nil=>
    unfold A8 at h;dsimp only at h;split at h
    ·simp only[Al,AQ]at h;obtain⟨⟨⟨⟨⟨rfl,h1⟩,h2⟩,h3⟩,h4⟩,h5⟩:=h;obtain⟨g1,g2,_,_⟩:=GE v h1;obtain⟨b1,b2,b3,b4⟩:=GE v h3;obtain⟨ty,t1,t2⟩:=kU h2;exact FB (dP t1 g1 g2 b1 b2 t2 b3 b4 (S.e W T X _ a v h5).st (Dy h4)) (fun _ _=>rfl) rfl rfl
    ·cases h
 |idx a i=>
  unfold A8 at h;dsimp only at h;split at h
  ·simp only[Al]at h;obtain⟨⟨h1,h2⟩,h3⟩:=h;exact FB (dS (W8 h1) (S.e W T X _ a v h2).st (S.e W T X _ i v h3).st) (fun _ _=>rfl) rfl rfl
  ·cases h
 |sl a lo hi=>
  unfold A8 at h;dsimp only at h;split at h
  ·simp only[Al]at h;obtain⟨⟨h1,h2⟩,h3⟩:=h;refine Ow (SC.congr (iX (S.e W T X _ a v h1).st (S.o W T X _ lo v h2) (S.o W T X _ hi v h3)) fun ρ=>?_) (fun _ _=>rfl) rfl
   show ((top ρ a (evE Γ ρ a)).bind fun x=>(top ρ lo (evE Γ ρ lo)).bind fun l=>(slE lo l).bind fun l'=>(top ρ hi (evE Γ ρ hi)).bind fun h=>(slE hi h).bind fun h'=>slD x l' h')=_
   simp only[R.bind_assoc]
  ·cases h
 |tup es=>
  unfold A8 at h;dsimp only at h;split at h
  ·simp only[Al,A7]at h;have q:=S.es W T X _ es v h.1;exact FB (dL q.1 fun ρ ds z=>by rw[Mh Γ ρ _ _ z,<-q.2.2.1];omega) (fun _ _=>rfl) rfl rfl
  ·cases h
 |lst es=>
  unfold A8 at h;dsimp only at h;split at h
  ·simp only[Al,A7]at h;have q:=S.es W T X _ es v h.1;exact Ow (bB q.1 fun ρ ds z=>by rw[Mh Γ ρ _ _ z,<-q.2.2.1];omega) (fun _ _=>rfl) rfl
  ·cases h
 |comp elt t it c=>
  unfold A8 at h;dsimp only at h;split at h
  ·simp only[Al]at h;obtain⟨⟨⟨⟨⟨h1,h2⟩,h3⟩,h4⟩,h5⟩,h6⟩:=h;refine SM v.calm ⟨_,_,_,_,_,_,_,_,_,_,_,_,_,rfl,(Oj v h3).1,S.i W T X Ac _ _ it v rfl h1,aM t,fun cl C s H fp=>YI (v.blk h3) (fun z=>AQ.mpr z) h4,fun cl C s H fp=>S.t _ _ _ c (v.blk h3) h5,fun cl C s H fp=>(S.e W0 _ _ _ elt (v.blk h3) h6).se,Mu h2,fun ρ=>rfl⟩ (fun _ _=>rfl)
  ·cases h
 |compT elt ts it c=>
  unfold A8 at h;dsimp only at h;split at h
  ·simp only[Al]at h;obtain⟨⟨⟨⟨⟨⟨h0,h1⟩,h2⟩,h3⟩,h4⟩,h5⟩,h6⟩:=h;refine SM v.calm ⟨_,_,_,_,_,_,_,_,_,_,_,_,_,rfl,(Oj v h3).1,S.i W T X Ab _ _ it v rfl h1,eP ts,fun cl C s H fp=>YL (v.blk h3) h0 h4,fun cl C s H fp=>S.t _ _ _ c (v.blk h3) h5,fun cl C s H fp=>(S.e W0 _ _ _ elt (v.blk h3) h6).se,Mu h2,fun ρ=>rfl⟩ (fun _ _=>rfl)
  ·cases h
 |tupI it=>
  cases it with
  |zip3 a b c=>
   unfold A8 at h;dsimp only at h;cases q:MQ x with
   |none=>rw[q]at h;cases h
   |some t=>
    obtain⟨g,f,y1,y2,y3⟩:=t;rw[q]at h;simp only[Al,AQ]at h;obtain⟨⟨⟨⟨⟨⟨⟨⟨⟨rfl,rfl⟩,h1⟩,h2⟩,h3⟩,h4⟩,h5⟩,h6⟩,h7⟩,h8⟩:=h;obtain⟨p,p',pos,pos',rfl⟩:=ZU q;obtain⟨g1,g2,_,_⟩:=GE v h1;obtain⟨g3,g4,_,_⟩:=GE v h2;exact FB (dU (S.e W T X _ a v h6).se (S.e W T X _ b v h7).se (S.e W T X _ c v h8).se v.calm g1 g2 g3 g4 (by rw[Dy h3,Dy h4,Dy h5];rfl) (by rw[Dy h4,Dy h5];rfl) (by rw[Dy h5];rfl)) (fun _ _=>rfl) rfl rfl
  |_=>exact absurd (show Ac=Ab from h) Ar
 |dnew=>exact absurd (show Ac=Ab from h) Ar
 |fld o f=>exact absurd (show Ac=Ab from h) Ar
theorem snd:∀ n,Snd Γ CL k n
 |0=>W7
 |n+1=>⟨iV (snd n),iW (snd n),aW (snd n),aV (snd n),iT (snd n),iR (snd n),iU (snd n)⟩
end
section
variable{Γ:Gam}{CL:ClA}{W:XW}{k n:Af}{T:Tc}{X:Cx}
theorem YK{t:Af}(v:VX Γ CL k W T X)(hf:∀ x,X.fn x=Ab)(h:tgC T [t] [x]=Ab):PG X (.Name x pos) (EX t):=by
 unfold tgC at h;simp only[Al,AQ]at h;exact Li (by rw[v.N];exact v.nd) (by rw[v.N];exact h.1.1) (by rw[v.sc];exact Lc h.1.2) (.inl (hf x))
theorem Q2(v:VX Γ CL k W T X)(hf:∀ x,X.fn x=Ab):∀(ys:Ad Ao)(ts:Ad Af)(zs:Ad Aj),EW ys=Aa zs->tgC T ts zs=Ab->PGs X ys (ts.foldr (fun t u=>Hy (EX t) u) HF)/\ts.length=ys.length:=by
 intro ys
 induction ys with
 |nil=>
  intro ts zs e h;cases e;cases ts with
  |nil=>exact⟨Rs,rfl⟩
  |cons t ts=>cases h
 |cons y r ih=>
  intro ts zs e h;obtain⟨x,p,ws,rfl,e2,rfl⟩:=MT e;cases ts with
  |nil=>cases h
  |cons t ts=>
   have h':(T.N[t]? == Aa x&&Jf T x&&tgC T ts ws)=Ab:=h;simp only[Al,AQ]at h';obtain⟨h1,h2⟩:=ih ts ws e2 h'.2;exact⟨Qq (Li (by rw[v.N];exact v.nd) (by rw[v.N];exact h'.1.1) (by rw[v.sc];exact Lc h'.1.2) (.inl (hf x))) h1 (by rw[Nx];rfl),congrArg (· + 1) h2⟩
theorem YJ(v:VX Γ CL k W T X)(hf:∀ x,X.fn x=Ab)(hn:(EW ys).isSome=Ab)(h:tgC T ts (tgN ys)=Ab):PG X (.Tuple ys kk pos) (KI X.K ts.length (ts.foldr (fun t u=>Hy (EX t) u) HF)):=by
 cases e:EW ys with
 |none=>rw[e]at hn;cases hn
 |some zs=>
  have e2:tgN ys=zs:=by unfold tgN;rw[e];rfl
  rw[e2]at h;obtain⟨h1,h2⟩:=Q2 v hf ys ts zs e h;obtain⟨h3,h4,_⟩:=MS (env:=X.env) ys zs e;exact Ot v.calm h1 (by rw[h3,h2]) h4
theorem bL(v:VX Γ CL k W T X)(hf:∀ x,X.fn x=Ab)(hn:(EW ys).isSome=Ab)(h:tgC T ts (tgN ys)=Ab):PG X (.Tuple ys kk pos) (gSq X.K ts.length (ts.foldr (fun t u=>Hy (EX t) u) HF)):=by
 cases e:EW ys with
 |none=>rw[e]at hn;cases hn
 |some zs=>
  have e2:tgN ys=zs:=by unfold tgN;rw[e];rfl
  rw[e2]at h;obtain⟨h1,h2⟩:=Q2 v hf ys ts zs e h;obtain⟨h3,h4,_⟩:=MS (env:=X.env) ys zs e;exact kO v.calm h1 (by rw[h3,h2]) h4
theorem bI{e:Ao}(h:(S7 e||C9 4 ys.length)=Ab):FQ [.Tuple ys kk pos] e env=pure Ae:=by
 cases e with
 |Tuple vs a b=>
  have h4:=Er (show C9 4 ys.length=Ab from h)
  have e2:(ys.length==2)=Ac:=by rw[Ds];omega
  have e3:(ys.length==3)=Ac:=by rw[Ds];omega
  unfold FQ;dsimp only;rw[e2,e3];rfl
 |_=>rfl
theorem PK(ts:Ad Af):∀ d ρ x,GH ts d ρ≠.exn x:=fun d ρ x h=>by
 unfold GH at h;cases d with
 |tup xs=>
  dsimp only at h;cases e:EE ts xs ρ with
  |some r=>rw[e]at h;cases h
  |none=>rw[e]at h;cases h
 |_=>cases h
theorem Xq(ts:Ad Af):∀ d ρ x,IZ ts d ρ≠.exn x:=fun d ρ x h=>by
 unfold IZ at h;split at h
 ·split at h<;>cases h
 ·exact PK ts _ ρ x h
theorem W4{elt:Ao}{gs:Ad Comprehension}:∃ b,Do (.ListComp elt gs scope pos) (Aa (.Name x pos')) l env=pure b/\(b=Ab->env.scope.names.lookup x=Aa .local):=by
 refine⟨_,rfl,fun h=>?_⟩
 simp only[Al,AQ]at h;exact h.1.1.2
theorem Op{v0:Ao}{i:Af}{e:E}(v:VX Γ CL k W T X)(hf:∀ x,X.fn x=Ab)(hi:T.N[i]?=Aa x)(hl:Jf T x=Ab)(o:OkE Γ CL W X v0 e)(hfr:fr=Ab->EY Γ e=Ab):SAs X CL W fr i (.Assign [.Name x p] v0 pos) (fun ρ=>evE Γ ρ e):=by
 have hN:X.N.Nodup:=by rw[v.N];exact v.nd
 have hi':X.N[i]?=Aa x:=by rw[v.N];exact hi
 have hx:Loc X.env.scope x:=by rw[v.sc];exact Lc hl
 have sc:SC X CL W fr v0 (fun ρ=>evE Γ ρ e):=by
  cases fr with
  |false=>exact o.se.sc
  |true=>exact o.nw (hfr rfl)
 cases hc:JB v0 with
 |true=>exact SC.sas hN hi' hx sc (Lf hc) (.inl (hf x))
 |false=>
  obtain⟨tg,iter,elt,ifs,scope,pos2,N',ts,fi,fc,fe,as,g,rfl,B,h2,hGG,hg,ht,he,hs,ef⟩:=o.cp hc;obtain⟨b,hb,hb'⟩:=W4 (elt:=elt) (gs:=[⟨tg,iter,ifs,0⟩]) (scope:=scope) (pos:=pos2) (pos':=p) (x:=x) (l:=pos.line) (env:=X.env);cases b with
  |false=>exact SC.sas hN hi' hx sc hb (.inl (hf x))
  |true=>
   have q:=Xd (pos2:=pos) v.calm B h2 hGG hg ht he hs hN hi' (hb' rfl) hb;have q':SAs X CL W Ab i (.Assign [.Name x p] (.ListComp elt [⟨tg,iter,ifs,0⟩] scope pos2) pos) (fun ρ=>evE Γ ρ e):=by
    have:(fun ρ=>evE Γ ρ e)=_:=funext ef
    rw[this];exact q
   cases fr with
   |true=>exact q'
   | false=>exact fun A=>PS.weak (q' A) fun D σ H ⟨hA,ρ,gd,z⟩=>⟨hA,ρ,gd,by
     dsimp only at z ⊢;cases e0:evE Γ ρ e with
     |ok d=>
      rw[e0]at z;exact fun v' H' s' r'=>z v' H' s' ⟨r'.1,fun _=>r'.2 rfl⟩
     |exn y=>rw[e0]at z;exact z
     | bad=>rw[e0]at z;exact z⟩
theorem QS{e t:Ao}(h:∀ x p,t≠.Name x p):G1 [t] e l env=pure Ac:=by
 show Do e (Aa t) l env=pure Ac;cases e<;>first|rfl|(cases t<;>first|rfl|exact absurd rfl (h _ _))
theorem Qf(ρ:Rho)(e:E)(h:∀ i,e≠.var i):evS Γ ρ (.ret e)=O.of ρ (evE Γ ρ e) fun d=>.ret d (EY Γ e):=by
 cases e<;>first|exact absurd rfl (h _)|(simp only[evS,top,Ue])
structure DefX (X:Cx):Prop where
 fn:∀ x,X.fn x=Ab
 ex:X.ex=[]
 st:X.stack=X.env::X.outer
 fm:X.env.frame=Aa X.env.locals
structure SndS (Γ:Gam) (CL:ClA) (k:Af) (n:Af):Prop where
 s:∀(W:XW)(T:Tc)(X:Cx)(x:A4)(c:S),VX Γ CL k W T X->DefX X->F3 n T x c=Ab->SS X CL W x (fun ρ=>evS Γ ρ c)
 ss:∀(W:XW)(T:Tc)(X:Cx)(x:Ad A4)(c:Ss),VX Γ CL k W T X->DefX X->chkSs n T x c=Ab->SSs X CL W x (fun ρ=>evSs Γ ρ c)
theorem LW(Γ:Gam)(ρ:Rho)(e:E)(h:MK e=Ab)(y:Ex):top ρ e (evE Γ ρ e)≠.exn y:=by
 cases e with
 |var i=>
  intro z;have z':BF ρ i=.exn y:=z;unfold BF at z';split at z'<;>cases z'
 |int i=>intro z;cases z
 |bl i=>intro z;cases z
 |str i=>intro z;cases z
 |non=>intro z;cases z
 |_=>cases h
theorem NI(Γ:Gam)(ρ:Rho):∀(es:Es),KA es=Ab->∀ y,evB Γ ρ es≠.exn y
 |.nil,_,y=>fun z=>by cases z
 |.cons e es,h,y=>fun z=>by
  unfold KA at h;rw[Al]at h;rw[NT]at z;cases e1:top ρ e (evE Γ ρ e) with
  |bad=>rw[e1]at z;cases z
  |exn w=>exact LW Γ ρ e h.1 w e1
  |ok d=>
   rw[e1,R.bind_ok]at z;cases e2:evB Γ ρ es with
   |bad=>rw[e2]at z;cases z
   |exn w=>exact NI Γ ρ es h.2 w e2
   |ok ds=>rw[e2]at z;cases z
theorem VX.pw(v:VX Γ CL k W T X)(own:Fd (model X.prog X.w) X.A X.env Xw):VX Γ CL k W0 T (Cx.pw X pI Xw):=⟨v.sc,v.kd,v.N,v.nd,v.calm,v.room,v.bl,v.fn,own,Ou,O5,v.xt,v.gl⟩
theorem PZ(o:O):(o.seq fun ρ'=>O.next ρ')=o:=by cases o<;>rfl
theorem STB.congr{st:Ad A4}{f g:Rho->O}(h:STB X CL st f)(e:∀ ρ,g ρ=f ρ):STB X CL st g:=by
 have:g=f:=funext e;rw[this];exact h
theorem RO(Sn:Snd Γ CL k n)(v:VX Γ CL k W T X)(hf:DefX X){st:A4}{s:S}(h:Mq n T st s=Ab):STB X CL [st] (fun ρ=>evSs Γ ρ (.cons s .nil))/\∀ ρ y ρ',evSs Γ ρ (.cons s .nil)=.exn y ρ'->ρ'=ρ:=by
 have seq:∀ ρ,evSs Γ ρ (.cons s .nil)=evS Γ ρ s:=fun ρ=>PZ _
 have ofn:∀{r:R D}{f:D->Rho}{ρ ρ':Rho}{y:Ex},(O.of ρ r fun d=>O.next (f d))=.exn y ρ'->ρ'=ρ:=fun {r f ρ ρ' y} z=>by
  cases r with
  |ok d=>cases z
  |exn w=>cases z;rfl
  |bad=>cases z
 have call:∀{e:Ao}{f:Af}{as:Es},A8 n T e (.call f as)=Ab->KA as=Ab->∃ g pp y ys qq,e=.Call (.Name g pp) (y::ys) [] qq/\∃ p∈T.fns,g=p.1/\f=p.2.1/\p.2.2=ys.length+1/\ys.length<900/\glB T g=Ab/\HE g=Ab/\∃ m,n=m+1/\chkEs m T (y::ys) as=Ab:=fun {e f as} h _=>by
  cases n with
  |zero=>exact absurd (show Ac=Ab from h) Ar
  |succ m=>
   unfold A8 at h;dsimp only at h;split at h
   ·rename_i g pp y ys qq;simp only[Al,ED,AQ,A7]at h;obtain⟨⟨⟨⟨⟨p,hp,⟨e1,e2⟩,hl⟩,h900⟩,h1⟩,h2⟩,h3⟩:=h;exact⟨g,pp,y,ys,qq,rfl,p,hp,e1.symm,e2.symm,hl,h900,h1,h2,m,rfl,h3⟩
   ·cases h
 unfold Mq at h;split at h
 ·split at h
  ·rename_i f as v0 pos;rw[Al]at h;obtain⟨g,pp,y,ys,qq,rfl,p,hp,rfl,rfl,hl,h900,h1,h2,m,rfl,h3⟩:=call h.1 h.2;obtain⟨fa,fd,ps,m1,m2,m3,m4,m5,_⟩:=v.fn p hp;have hlt:p.2.2<1000:=by omega
   rw[Hm hlt]at m4 m5;have m5:=m5 hlt;obtain⟨n2,n3,n4⟩:=Hv h2;obtain⟨s0,e,es',rfl,m',rfl,s1⟩:=J8 h3;have hlen:ys.length+1=(Es.cons e es').len:=(snd (Γ:=Γ) (CL:=CL) (k:=k) (m'+1)).es W T X _ _ v h3 |>.2.2.1;refine⟨STB.congr (W5 (X:=X) (fs:=fun ρ=>evA Γ ρ (.cons e es')) (sh:=fun ρ=>HA ρ (.cons e es')) hf.ex m5 v.room (by unfold glB at h1;show X.env.scope.names.lookup p.1=_;rw[v.sc];exact eq_of_beq h1) m1 m2 m3 (fun ρ z=>Lm Γ ρ _ z) (fun ρ ds z=>by rw[Le Γ ρ _ _ z,<-hlen,hl]) (fun ρ=>NI Γ ρ _ h.2) n2 (Dy s0) (K3 m' ys es' s1) (fun pI Xw own=>by
    obtain⟨a1,a2,_⟩:=(snd (Γ:=Γ) (CL:=CL) (k:=k) (m'+1)).es W0 T (Cx.pw X pI Xw) _ _ (v.pw own) h3;exact⟨a1,a2⟩) (Lf rfl)) fun ρ=>seq ρ,fun ρ y ρ' z=>?_⟩
   rw[seq]at z;exact ofn (f:=fun _=>ρ) z
  ·cases h
 ·split at h
  ·skip
   rename_i i f as st0 y0 p0 v0 pos;simp only[Al,AQ]at h;obtain⟨⟨⟨i1,i2⟩,hc⟩,hsim⟩:=h;obtain⟨g,pp,y,ys,qq,rfl,p,hp,rfl,rfl,hl,h900,h1,h2,m,rfl,h3⟩:=call hc hsim;obtain⟨fa,fd,ps,m1,m2,m3,m4,m5,_⟩:=v.fn p hp;have hlt:p.2.2<1000:=by omega
   rw[Hm hlt]at m4 m5;have m5:=m5 hlt;obtain⟨n2,n3,n4⟩:=Hv h2;obtain⟨s0,e,es',rfl,m',rfl,s1⟩:=J8 h3;have hlen:ys.length+1=(Es.cons e es').len:=(snd (Γ:=Γ) (CL:=CL) (k:=k) (m'+1)).es W T X _ _ v h3 |>.2.2.1;refine⟨STB.congr (Yj (X:=X) (fs:=fun ρ=>evA Γ ρ (.cons e es')) (sh:=fun ρ=>HA ρ (.cons e es')) (i:=i) hf.ex m5 v.room (by unfold glB at h1;show X.env.scope.names.lookup p.1=_;rw[v.sc];exact eq_of_beq h1) m1 m2 m3 (fun ρ z=>Lm Γ ρ _ z) (fun ρ ds z=>by rw[Le Γ ρ _ _ z,<-hlen,hl]) (fun ρ=>NI Γ ρ _ hsim) n2 (Dy s0) (K3 m' ys es' s1) (fun pI Xw own=>by
    obtain⟨a1,a2,_⟩:=(snd (Γ:=Γ) (CL:=CL) (k:=k) (m'+1)).es W0 T (Cx.pw X pI Xw) _ _ (v.pw own) h3;exact⟨a1,a2⟩) (by rw[v.N];exact v.nd) (by rw[v.N];exact i1) (by rw[v.sc];exact Lc i2) (.inl (hf.fn _)) (Lf rfl)) fun ρ=>seq ρ,fun ρ y ρ' z=>?_⟩
   rw[seq]at z;exact ofn (f:=fun d=>ρ.set i (Aa (d,Ac))) z
  ·cases h
 ·cases h
theorem Kc{c:Prop}[Fa c]{e:Ex}:(if c then R.ok d else .bad)≠.exn e:=by
 by_cases h:c
 ·rw[AF h];intro z;cases z
 ·rw[AM h];intro z;cases z
theorem ZW(op:Eh)(x y:D)(e:Ex):BK op x y≠.exn e:=by
 cases op with
 |Eq=>exact Kc
 |NotEq=>exact Kc
 |In=>
  cases y with
  |lst ys=>exact Kc
  |tup ys=>exact Kc
  |dic kvs=>
   intro z;have z':(match Jg x with|some k=>R.ok (D.bl (kvs.any fun p=>p.1==k))|none=>.bad)=.exn e:=z
   cases h:Jg x with
   |none=>rw[h]at z';cases z'
   |some k=>rw[h]at z';cases z'
  |_=>intro z;cases z
 |NotIn=>
  cases y with
  |lst ys=>exact Kc
  |tup ys=>exact Kc
  |_=>intro z;cases z
 |_=>cases x<;>first|(intro z;cases z;done)|(cases y<;>(intro z;cases z))
theorem YF(x:D)(e:Ex):BB x≠.exn e:=by
 unfold BB;split<;>first|(intro z;cases z;done)|(split<;>intro z<;>cases z)
theorem QO(Γ:Gam)(ρ:Rho)(c:E)(h:O7 c=Ab)(y:Ex):(top ρ c (evE Γ ρ c)).bind BB≠.exn y:=by
 have key:∀ e,top ρ c (evE Γ ρ c)≠.exn e:=by
  cases c with
  |var i=>exact LW Γ ρ (.var i) rfl
  |cmp op a b=>
   unfold O7 at h;rw[Al]at h;intro e z;have z':((top ρ a (evE Γ ρ a)).bind fun x=>(top ρ b (evE Γ ρ b)).bind fun y=>BK op x y)=.exn e:=by
    have e0:evE Γ ρ (.cmp op a b)=((top ρ a (evE Γ ρ a)).bind fun x=>(top ρ b (evE Γ ρ b)).bind fun y=>BK op x y):=ZQ Γ ρ op a b
    rw[<-e0];exact z
   cases e1:top ρ a (evE Γ ρ a) with
   |bad=>rw[e1]at z';cases z'
   |exn w=>exact LW Γ ρ a h.1 w e1
   |ok d=>
    rw[e1,R.bind_ok]at z';cases e2:top ρ b (evE Γ ρ b) with
    |bad=>rw[e2]at z';cases z'
    |exn w=>exact LW Γ ρ b h.2 w e2
    |ok d2=>rw[e2,R.bind_ok]at z';exact ZW _ _ _ _ z'
  |_=>cases h
 intro z;cases e1:top ρ c (evE Γ ρ c) with
 |bad=>rw[e1]at z;cases z
 |exn w=>exact key w e1
 |ok d=>rw[e1,R.bind_ok]at z;exact YF _ _ z
theorem SJ(Sn:Snd Γ CL k n)(v:VX Γ CL k W T X)(hf:DefX X):∀(m:Af){st:A4}{s:S},JH m n T st s=Ab->STB X CL [st] (fun ρ=>evSs Γ ρ (.cons s .nil))/\∀ ρ y ρ',evSs Γ ρ (.cons s .nil)=.exn y ρ'->ρ'=ρ:=by
 intro m
 induction m with
 |zero=>intro st s h;unfold JH at h;exact RO Sn v hf h
 |succ m ih=>
  intro st s h;unfold JH at h;rw[CH]at h;rcases h with h|h
  ·exact RO Sn v hf h
  ·split at h
   ·split at h
    ·rename_i c a b st0 t xs ys pos;simp only[Al]at h;obtain⟨⟨⟨h1,h2⟩,h3⟩,h4⟩:=h;obtain⟨a1,a2⟩:=ih h3;obtain⟨b1,b2⟩:=ih h4;have ev:∀ ρ,evSs Γ ρ (.cons (.ife c (.cons a .nil) (.cons b .nil)) .nil)=O.of ρ ((top ρ c (evE Γ ρ c)).bind BB) fun k=>if k=Ab then evSs Γ ρ (.cons a .nil) else evSs Γ ρ (.cons b .nil):=fun ρ=>PZ _
     refine⟨STB.congr (Yi (fun pI Xw own=>(Sn.b W0 T (Cx.pw X pI Xw) _ _ (v.pw own) h1)) (fun ρ y=>QO Γ ρ c h2 y) a1 b1) fun ρ=>ev ρ,fun ρ y ρ' z=>?_⟩
     rw[ev]at z;cases e1:(top ρ c (evE Γ ρ c)).bind BB with
     |bad=>rw[e1]at z;cases z
     |exn w=>exact absurd e1 (QO Γ ρ c h2 w)
     |ok k=>
      rw[e1,O.of_ok]at z;cases k with
      |true=>exact a2 ρ y ρ' z
      |false=>exact b2 ρ y ρ' z
    ·cases h
   ·cases h
theorem Ld{i:Af}{e:Ak}(v:VX Γ CL k W T X)(h:isV T x i=Ab):PE (Cx.hot X e) (.Name x pos) (GK i):=by
 unfold isV at h;simp only[Al,AQ]at h;obtain⟨h2,h3,_⟩:=Hv h.2;exact Mm (by show X.N[i]?=_;rw[v.N];exact h.1.1) (by show Vis X.env.scope x;rw[v.sc];exact QZ h.1.2) h2 h3
theorem Sa{x:Af}{t:Ao}{c:E}:∀{n:Af},Dz n T x t c=Ab->∀ ρ r,top ρ c r=r:=fun {n} h=>by
 cases n with
 |zero=>simp[Dz]at h
 |succ n=>
  cases c with
  |var i=>simp[Dz]at h
  |_=>exact fun _ _=>rfl
theorem Yb(v:VX Γ CL k W T X)(e:Ak):∀(ts:Ad Ao)(ks:Ad Ki),Jd T ts ks=Ab->∃ cs:Ad (Af×Ak),ks=cs.map (fun q=>Ki.cls q.1)/\cs.length=ts.length/\PA (Cx.hot X e) ts (Tr (cs.map fun q:Af×Ak=>q.2))/\∀ q∈cs,Lj X.K CL Γ.up q.1 q.2:=by
 intro ts
 induction ts with
 |nil=>
  intro ks h;cases ks with
  |nil=>exact⟨[],rfl,rfl,GD,fun q hq=>nomatch hq⟩
  |cons k ks=>simp[Jd]at h
 |cons t ts ih=>
  intro ks h;cases t with
  |Name t p=>
   cases ks with
   |nil=>simp[Jd]at h
   |cons kk ks=>
    cases kk with
    |cls c=>
     simp only[Jd,Al]at h;obtain⟨⟨⟨h1,h2⟩,h3⟩,h4⟩:=h;obtain⟨cs,e1,e2,e3,e4⟩:=ih ks h4;obtain⟨C,m1,m3,_⟩:=v.xt.ex _ (Ll h1);obtain⟨n2,_,_⟩:=Hv h3;refine⟨(c,C)::cs,by rw[e1];rfl,by rw[By,By,e2],?_,fun q hq=>?_⟩
     ·exact Eb (Rt (X:=Cx.hot X e) (v:=.ref C) (by unfold glB at h2;show X.env.scope.names.lookup t=_;rw[v.sc];exact eq_of_beq h2) m1 rfl n2) e3 rfl
     ·rcases Ay.mp hq with rfl|hq
      ·exact m3
      ·exact e4 q hq
    |_=>simp[Jd]at h
  |_=>simp[Jd]at h
theorem ON(v:VX Γ CL k W T X)(e:Ak)(x:Af):∀(n:Af)(t:Ao)(c:E),Dz n T x t c=Ab->SE (Cx.hot X e) CL W0 t (fun ρ=>evE Γ ρ c):=by
 intro n
 induction n with
 |zero=>intro t c h;simp[Dz]at h
 |succ n ih=>
  intro t c h;cases c with
  |bl b=>
   unfold Dz at h;dsimp only at h;split at h
   ·have e0:=eq_of_beq h;subst e0;exact SR
   ·cases h
  |no a=>
   unfold Dz at h;dsimp only at h;split at h
   ·have q:=(ih _ _ h).st;refine SE.congr (RY q) fun ρ=>?_
    show ((top ρ a (evE Γ ρ a)).bind fun x=>(Dr x).bind fun b=>R.ok (D.bl (!b)))=_
    rw[Sa h]
   ·cases h
  |and es=>
   cases es with
   |nil=>exact absurd (show Ac=Ab from h) Ar
   |cons a as=>
    cases as with
    |nil=>
     unfold Dz at h;dsimp only at h;split at h
     ·exact SE.congr (Oa (ih _ _ h)) fun ρ=>rfl
     ·cases h
    |cons a' as=>
     unfold Dz at h;dsimp only at h;split at h
     ·rw[Al]at h;exact SE.congr (R4 (ih _ _ h.1) (ih _ _ h.2)) fun ρ=>rfl
     ·cases h
  |isi a ks=>
   cases a with
   |var i=>
    cases ks with
    |nil=>exact absurd (show Ac=Ab from h) Ar
    |cons kk ks=>
     cases q:xC2 t with
     |none=>
      cases ks with
      |nil=>cases kk<;>first|exact absurd (show Ac=Ab from h) Ar|(unfold Dz at h;dsimp only at h;rw[q]at h;cases h)
      |cons k2 ks=>cases kk<;>first|exact absurd (show Ac=Ab from h) Ar|(unfold Dz at h;dsimp only at h;rw[q]at h;cases h)
     |some t0=>
      obtain⟨g,w,u⟩:=t0;obtain⟨pp,pq,pr,rfl⟩:=bF q;cases ks with
      |nil=>
       cases kk with
       |verr=>
        unfold Dz at h;dsimp only at h;rw[q]at h;dsimp only at h;cases q2:Fk u with
        |none=>rw[q2]at h;simp at h
        |some t1=>
         have eu:=G3 q2;subst eu;rw[q2]at h;simp only[Al,AQ]at h;obtain⟨⟨⟨⟨rfl,rfl⟩,h3⟩,h4⟩,h5,h6⟩:=h;obtain⟨g1,g2,_,_⟩:=GE v h3;obtain⟨b1,b2,_,_⟩:=GE v h6;rw[h5]at b1 b2 ⊢;exact dN (X:=Cx.hot X e) v.xt.xc g1 g2 b1 b2 (Kl (Ld v h4)) rfl
       |cls c=>
        unfold Dz at h;dsimp only at h;rw[q]at h;dsimp only at h;cases q2:Fk u with
        |none=>rw[q2]at h;simp at h
        |some t1=>
         have eu:=G3 q2;subst eu;rw[q2]at h;simp only[Al,AQ]at h;obtain⟨⟨⟨⟨rfl,rfl⟩,h3⟩,h4⟩,⟨h5,h6⟩,h7⟩:=h;obtain⟨g1,g2,_,_⟩:=GE v h3;obtain⟨C,m1,m3,_⟩:=v.xt.ex _ (Ll h5);obtain⟨n2,_,_⟩:=Hv h7;exact dQ (X:=Cx.hot X e) v.xt.xc g1 g2 (by unfold glB at h6;show X.env.scope.names.lookup _=_;rw[v.sc];exact eq_of_beq h6) m1 m3 n2 (Kl (Ld v h4)) rfl
       |_=>exact absurd (show Ac=Ab from h) Ar
      |cons k2 ks=>
       cases kk with
       |cls c=>
        unfold Dz at h;dsimp only at h;rw[q]at h;dsimp only at h;cases q2:O0 u with
        |none=>rw[q2]at h;simp at h
        |some ts=>
         obtain⟨z1,z2,rfl⟩:=Yy q2;rw[q2]at h;simp only[Al,AQ,A7]at h;obtain⟨⟨⟨⟨rfl,rfl⟩,h3⟩,h4⟩,h5,h6⟩:=h;obtain⟨g1,g2,_,_⟩:=GE v h3;obtain⟨cs,e1,e2,e3,e4⟩:=Yb v e _ _ h5;have hne:cs≠[]:=by rintro rfl;cases e1
         rw[e1];exact dO (X:=Cx.hot X e) (W:=W0) (up:=Γ.up) v.xt.xc g1 g2 e3 hne (by rw[e2];exact h6) e4 (Kl (Ld v h4)) rfl
       |_=>exact absurd (show Ac=Ab from h) Ar
   |_=>exact absurd (show Ac=Ab from h) Ar
  |call f as=>
   cases as with
   |nil=>exact absurd (show Ac=Ab from h) Ar
   |cons a as=>
    cases a with
    |var i=>
     cases as with
     |cons=>exact absurd (show Ac=Ab from h) Ar
     |nil=>
      unfold Dz at h;dsimp only at h;cases q:xC1 t with
      |none=>rw[q]at h;cases h
      |some t0=>
       obtain⟨g,w0⟩:=t0;obtain⟨p0,p1,p2,rfl⟩:=bG q;rw[q]at h;rw[Al]at h;obtain⟨h1,h4⟩:=h;unfold T7 at h1;simp only[Al,ED,AQ]at h1;obtain⟨⟨⟨p,hp,⟨rfl,rfl⟩,hl⟩,g1⟩,g2⟩:=h1;obtain⟨fa,fd,ps,m1,m2,m3,m4,_,m5⟩:=v.fn p hp;have m5:=m5 (by omega)
       obtain⟨n2,_,_⟩:=Hv g2;have hv:=Ld (e:=e) (pos:=p1) v h4;have a1:SA (Cx.hot X e) CL W0 [.Name w0 p1] (fun ρ=>evA Γ ρ (.cons (.var i) .nil)):=Ro (RW hv) RE rfl
       have a2:SAT (Cx.hot X e) CL W0 [.Name w0 p1] (fun ρ=>evB Γ ρ (.cons (.var i) .nil)):=QP (Kl hv) Rn rfl
       exact(Xb (X:=X) (ev:=e) (sh:=fun ρ=>HA ρ (.cons (.var i) .nil)) m5 v.room (by unfold glB at g1;show X.env.scope.names.lookup p.1=_;rw[v.sc];exact eq_of_beq g1) m1 m2 m3 a1 a2 (fun ρ z=>Lm Γ ρ _ z) (fun ρ ds z=>by rw[Le Γ ρ _ _ z,hl];rfl) n2 rfl (fun _=>rfl)).se
    |_=>exact absurd (show Ac=Ab from h) Ar
  |str s=>
   unfold Dz at h;dsimp only at h;split at h
   ·have e0:=eq_of_beq h;subst e0;exact RX
   ·cases h
  |fld o f=>
   cases o with
   |var i=>
    unfold Dz at h;dsimp only at h;split at h
    ·simp only[Al,AQ]at h;obtain⟨⟨⟨rfl,rfl⟩,h3⟩,h4⟩:=h;exact Zq (X:=Cx.hot X e) v.xt.xc (fun c C z=>v.xt.nf c C z _ h3) (Kl (Ld v h4)) rfl
    ·cases h
   |_=>exact absurd (show Ac=Ab from h) Ar
  |_=>exact absurd (show Ac=Ab from h) Ar
theorem OO(v:VX Γ CL k W T X)(e:Ak)(x n:Af)(y:Ao)(c:E)(h:MF n T x y c=Ab):SB (Cx.hot X e) CL W0 y (fun ρ=>(top ρ c (evE Γ ρ c)).bind BB):=by
 have one:∀{y:Ao}{c:E},(J4 y&&Dz n T x y c)=Ab->SB (Cx.hot X e) CL W0 y (fun ρ=>(top ρ c (evE Γ ρ c)).bind BB):=fun {y c} h=>by
  rw[Al]at h;exact SB.congr (R7 ((ON v e x n y c h.2).st) (Q3 h.1)) fun ρ=>by rw[Sa h.2]
 unfold MF at h;split at h
 ·split at h
  ·rename_i a;refine SB.ref (R8 (one h)) fun ρ=>?_
   show (((top ρ a (evE Γ ρ a)).bind fun x=>(Dr x).bind fun b=>R.ok (D.bl (!b))).bind BB)=.bad\/(((top ρ a (evE Γ ρ a)).bind fun x=>(Dr x).bind fun b=>R.ok (D.bl (!b))).bind BB)=((top ρ a (evE Γ ρ a)).bind BB).bind fun b=>.ok (!b)
   cases top ρ a (evE Γ ρ a) with
   |ok d=>cases d<;>first|exact .inl rfl|exact .inr rfl
   |exn y=>exact .inr rfl
   |bad=>exact .inl rfl
  ·cases h
 ·exact one h
theorem fV(v:VX Γ CL k W T X)(e:Ak)(x n:Af)(pos:AI):∀(ys:Ad Ao)(es:Es),GF n T x ys es=Ab->ys≠[]->SW (Cx.hot X e) CL W0 (.BoolOp .Or ys pos) (fun ρ=>(evO Γ ρ es).bind BB):=by
 intro ys
 induction ys with
 |nil=>intro es _ h;exact absurd rfl h
 |cons y ys ih=>
  intro es h _;cases es with
  |nil=>simp[GF]at h
  |cons c es=>
   simp only[GF,Al]at h;obtain⟨h1,h3⟩:=h;have he:=OO v e x n y c h1;cases ys with
   |nil=>
    cases es with
    |nil=>exact SW.ref (RQ he) (Rf.tru c)
    |cons=>simp[GF]at h3
   |cons z zs=>
    cases es with
    |nil=>simp[GF]at h3
    |cons c' es'=>exact SW.ref (SL he (ih (.cons c' es') h3 (by simp))) (Sq c c' es')
theorem eL(v:VX Γ CL k W T X)(e:Ak)(x n:Af)(pos:AI):∀(ys:Ad Ao)(es:Es),GF n T x ys es=Ab->ys≠[]->SW (Cx.hot X e) CL W0 (.BoolOp .And ys pos) (fun ρ=>(evN Γ ρ es).bind BB):=by
 intro ys
 induction ys with
 |nil=>intro es _ h;exact absurd rfl h
 |cons y ys ih=>
  intro es h _;cases es with
  |nil=>simp[GF]at h
  |cons c es=>
   simp only[GF,Al]at h;obtain⟨h1,h3⟩:=h;have he:=OO v e x n y c h1;cases ys with
   |nil=>
    cases es with
    |nil=>exact SW.ref (Q4 he) (Rf.tru c)
    |cons=>simp[GF]at h3
   |cons z zs=>
    cases es with
    |nil=>simp[GF]at h3
    |cons c' es'=>exact SW.ref (RS he (ih (.cons c' es') h3 (by simp))) (Sr c c' es')
theorem lJ(v:VX Γ CL k W T X)(e:Ak)(x n:Af)(t:Ao)(c:E)(h:OR n T x t c=Ab):SB (Cx.hot X e) CL W0 t (fun ρ=>(top ρ c (evE Γ ρ c)).bind BB):=by
 unfold OR at h;split at h
 ·split at h
  ·simp only[Al,Bk,CI]at h;exact(fV v e x n _ _ _ h.1 h.2).sb
  ·cases h
 ·split at h
  ·simp only[Al,Bk,CI]at h;exact(eL v e x n _ _ _ h.1 h.2).sb
  ·cases h
 ·exact OO v e x n _ c h
theorem ME(v:VX Γ CL k W T X)(hf:DefX X)(e:Ak)(x:Af):∀(n:Af)(sts:Ad A4)(ss:Ss),Hz n T x sts ss=Ab->SSs (Cx.hot X e) CL W0 sts (fun ρ=>evSs Γ ρ ss):=by
 intro n
 induction n with
 |zero=>intro t c h;simp[Hz]at h
 |succ n ih=>
  intro sts ss h;unfold Hz at h;split at h
  ·rw[FR]at h;subst h;exact N0
  ·split at h
   ·simp only[Al,AQ]at h;obtain⟨⟨⟨⟨h1,h2⟩,h3⟩,h4⟩,h5⟩:=h;exact LV (aY (X:=Cx.hot X e) (by show X.N.Nodup;rw[v.N];exact v.nd) (by show X.N[_]?=_;rw[v.N];exact h1) (by show Loc X.env.scope _;rw[v.sc];exact Lc h2) (ON v e x n _ _ h4) (Lf h3) (.inl (hf.fn _))) (ih _ _ h5)
   ·cases h
  ·split at h
   ·simp only[Al]at h;obtain⟨⟨h1,h2⟩,h3⟩:=h;exact LV (Sz (X:=Cx.hot X e) (lJ v e x n _ _ h1) (ih _ _ h2) N0) (ih _ _ h3)
   ·cases h
  ·split at h
   ·rename_i e0 ss0 st0 v0 pos r;simp only[Al]at h;obtain⟨⟨h0,h1⟩,h2⟩:=h;have q:=LV (QQ (X:=Cx.hot X e) (pos:=pos) (ON v e x n _ _ h1)) (ih _ _ h2);have ef:(fun ρ=>evSs Γ ρ (.cons (.ret e0) ss0))=fun ρ=>(O.of ρ (evE Γ ρ e0) fun d=>O.ret d Ac).seq fun ρ=>evSs Γ ρ ss0:=by
     funext ρ
     cases e0<;>first|rfl|(cases h0;done)
    rw[ef];exact q
   ·cases h
  ·cases h
theorem Ol(v:VX Γ CL k W T X)(h:hdB T g c=Ab):MM X CL Γ.up g c:=by
 unfold hdB at h;simp only[Al]at h;obtain⟨⟨⟨i1,i0⟩,i2⟩,i3⟩:=h;obtain⟨C,m1,m3,m4⟩:=v.xt.ex _ (Ll i1);obtain⟨C0,r1,r2⟩:=v.xt.rz _ (Ll i0);obtain⟨n2,_,_⟩:=Hv i3;refine⟨C,by unfold glB at i2;show X.env.scope.names.lookup g=_;rw[v.sc];exact eq_of_beq i2,m1,n2,?_,fun c' D hD=>m4 c' D hD⟩
 have e0:=m1.symm.trans r2;cases e0;exact v.xt.xc _ _ r1
theorem iS(Z:SndS Γ CL k n)(W:XW)(T:Tc)(X:Cx)(st:A4)(c:S)(v:VX Γ CL k W T X)(hf:DefX X)(h:F3 (n+1) T st c=Ab):SS X CL W st (fun ρ=>evS Γ ρ c):=by
  have E:=snd (Γ:=Γ) (CL:=CL) (k:=k) n;cases c with
  |pass=>exact absurd (show Ac=Ab from h) Ar
  |brk=>exact absurd (show Ac=Ab from h) Ar
  |cont=>exact absurd (show Ac=Ab from h) Ar
  |asg i fresh e=>
    unfold F3 at h;dsimp only at h;split at h
    · simp only[Al,AQ]at h;obtain⟨⟨h1,h2⟩,h3⟩:=h;have o:=E.e W T X _ e v h3;cases fresh with
      |false=>exact RV (Op (fr:=Ac) v hf.fn h1 h2 o (fun z=>nomatch z))
      |true=>
        cases hn:EY Γ e with
        |true=>
          refine SS.ref (Zk (Op (fr:=Ab) v hf.fn h1 h2 o (fun _=>hn))) fun ρ=>.inr ?_
          show O.of ρ (evE Γ ρ e) (fun d=>if Ab=Ab then (if EY Γ e=Ab then (match d with
            |.lst xs=>.next (ρ.set i (Aa (.lst xs,Ab)))
            |.dic xs=>.next (ρ.set i (Aa (.dic xs,Ab)))
            | _=>.bad) else .bad) else .next (ρ.set i (Aa (d,Ac))))=_
          rw[hn];rfl
        |false=>
          refine SS.ref (RV (Op (fr:=Ac) v hf.fn h1 h2 o (fun z=>nomatch z))) fun ρ=>?_
          have e0:evS Γ ρ (.asg i Ab e)=O.of ρ (evE Γ ρ e) (fun d=>if Ab=Ab then (if EY Γ e=Ab then (match d with
            |.lst xs=>.next (ρ.set i (Aa (.lst xs,Ab)))
            |.dic xs=>.next (ρ.set i (Aa (.dic xs,Ab)))
            | _=>.bad) else .bad) else .next (ρ.set i (Aa (d,Ac)))):=rfl
          rw[e0,hn];cases evE Γ ρ e with
          |ok d=>exact .inl rfl
          |exn y=>exact .inr rfl
          |bad=>exact .inl rfl
    · cases h
  |asgT ts e=>
    unfold F3 at h;dsimp only at h;split at h
    · simp only[Al]at h;obtain⟨⟨⟨h1,h2⟩,h3⟩,h5⟩:=h;exact Zj (lK ts) (bL v hf.fn h1 h2) (E.e W T X _ e v h5).se (QS (fun _ _ z=>by cases z)) (bI h3) rfl (Xq ts)
    · cases h
  |expr e=>
    unfold F3 at h;dsimp only at h;split at h
    · simp only[Al]at h;exact Zi (E.e W T X _ e v h.2).se (Lf h.1)
    · cases h
  |ret e=>
    unfold F3 at h;dsimp only at h;split at h
    · have o:=E.e W T X _ e v h;cases hv:EY Γ e with
      |true=>
        refine SS.ref (Yn (o.nw hv)) fun ρ=>.inr ?_
        rw[Qf ρ e (fun i z=>by subst z;cases hv),hv]
      |false=>
        cases e with
        |var i=>
          cases n with
          |zero=>exact absurd (show Ac=Ab from h) Ar
          |succ n=>
            unfold A8 at h;dsimp only at h;split at h
            · exact Ym (Mn v h)
            · cases h
        |_=>
          refine SS.ref (QQ o.se) fun ρ=>.inr ?_
          rw[Qf ρ _ (by intro i z;cases z),hv]
    · cases h
  |retN=>exact absurd (show Ac=Ab from h) Ar
  |ife c a b=>
    unfold F3 at h;dsimp only at h;split at h
    · simp only[Al]at h;exact Sz (E.b W T X _ c v h.1.1) (Z.ss W T X _ a v hf h.1.2) (Z.ss W T X _ b v hf h.2)
    · cases h
  |fors t it body=>
    unfold F3 at h;dsimp only at h;split at h
    · simp only[Al]at h;obtain⟨⟨⟨h1,h2⟩,h3⟩,h4⟩:=h;exact RU v.own v.calm (aL t) (YK v hf.fn h1) (E.i W T X Ac _ _ it v rfl h3) (Z.ss W T X _ body v hf h4) (Mu h2) (fun _ _ _ z=>nomatch z)
    · cases h
  |forT ts it body=>
    unfold F3 at h;dsimp only at h;split at h
    · simp only[Al]at h;obtain⟨⟨⟨⟨h0,h1⟩,h2⟩,h3⟩,h4⟩:=h;exact RU v.own v.calm (Sb ts) (YJ v hf.fn h0 h1) (E.i W T X Ab _ _ it v rfl h3) (Z.ss W T X _ body v hf h4) (Mu h2) (PK ts)
    · cases h
  |whl c body=>exact absurd (show Ac=Ab from h) Ar
  |rais c as=>
    unfold F3 at h;dsimp only at h;cases hc:T.rzs.any (fun p=>p.2==c) with
    |false=>
      have hb:∀ ds,Γ.xn c ds=.bad:=v.xt.xb c fun p hp z=>by
        have:T.rzs.any (fun p=>p.2==c)=Ab:=List.any_eq_true.mpr ⟨p,hp,AQ.mpr z⟩
        rw[hc]at this;cases this
      intro Fz B pI s σ H D I ⟨ρ,x,p⟩;have p':BU X.K CL Fz B W (O.of ρ (noX (evA Γ ρ as)) fun xs=>O.of ρ (Γ.xn c xs) fun x=>.exn x ρ) D:=p
      cases e1:evA Γ ρ as with
      |bad=>rw[e1]at p';exact p'.elim
      |exn y=>rw[e1]at p';exact p'.elim
      |ok ds=>
        rw[e1]at p';have p2:BU X.K CL Fz B W (O.of ρ (Γ.xn c ds) fun x=>.exn x ρ) D:=p'
        rw[hb ds]at p2;exact p2.elim
    |true=>
      rw[hc,Bool.not_true,Bool.false_or]at h;split at h
      · rename_i g np x xs cpos pos;simp only[Al,A7]at h;obtain⟨⟨⟨⟨h1,h2⟩,h3⟩,h4⟩,h5⟩:=h;obtain⟨C,m1,m2⟩:=v.xt.rz _ (Ll h1);obtain⟨n2,_,_⟩:=Hv h3;obtain⟨s0,e,es',rfl,m,rfl,s1⟩:=J8 h5;have q:=E.es W T X _ _ v h5;exact Wd v.calm hf.ex v.room v.rz (by unfold glB at h2;show X.env.scope.names.lookup g=_;rw[v.sc];exact eq_of_beq h2) m2 n2 m1 q.1 (fun ds=>v.xt.made c C ds m1) (Dy s0) (K3 m xs es' s1) (fun ρ ds z=>by rw[Mh Γ ρ _ _ z,<-q.2.2.1,By];omega)
      · cases h
  |app i e=>exact absurd (show Ac=Ab from h) Ar
  |ext i e=>exact absurd (show Ac=Ab from h) Ar
  |rev i=>exact absurd (show Ac=Ab from h) Ar
  |clr i=>exact absurd (show Ac=Ab from h) Ar
  |put i k e=>
    unfold F3 at h;dsimp only at h;split at h
    · simp only[Al]at h;obtain⟨⟨⟨h1,h2⟩,h4⟩,h5⟩:=h;rename_i x p y sp v0 pos;exact aZ (Mn v h1) (E.e W T X _ k v h4).st (E.e W T X _ e v h5).se (fun w=>by cases y<;>first|rfl|cases h2) (QS (fun _ _ z=>by cases z)) rfl rfl
    · cases h
  |tryx body c x hd=>
    cases body with
    |nil=>exact absurd (show Ac=Ab from h) Ar
    |cons b bs=>
      cases bs with
      |cons=>exact absurd (show Ac=Ab from h) Ar
      |nil=>
        unfold F3 at h;dsimp only at h;cases q:Lu st with
        |none=>rw[q]at h;cases h
        |some t=>
          obtain⟨bt,hl,es⟩:=t;rw[q]at h;obtain⟨pos,rfl⟩:=QV q;cases hl with
          |nil=>exact absurd (show Ac=Ab from h) Ar
          |cons h1 hl=>
            cases hl with
            |cons=>exact absurd (show Ac=Ab from h) Ar
            |nil=>
              cases es with
              |cons=>exact absurd (show Ac=Ab from h) Ar
              |nil=>
                dsimp only at h;cases q1:xHd h1 with
                |none=>rw[q1]at h;cases h
                |some t1=>
                  obtain⟨g,m,h0,hs⟩:=t1;obtain⟨p1,hp,rfl⟩:=Od q1;rw[q1]at h;simp only[Al,AQ]at h;obtain⟨⟨⟨⟨i1,i4⟩,i5⟩,i6⟩,i7⟩:=h;obtain⟨t1,t2⟩:=SJ E v hf 6 i6;refine SS.ref (aX (up:=Γ.up) (c:=c) (i:=x) hf.ex hf.st hf.fm (by rw[v.N];exact v.nd) (by rw[v.N];exact i4) (by rw[v.sc];exact i5) (Ol v i1) t1 t2 (fun e=>ME v hf e x n _ _ i7)) fun ρ=>.inr ?_
                  rw[X1];unfold TK;cases evSs Γ ρ (.cons b .nil)<;>rfl
  |try2 body c x hd c' hd' els=>
    cases body with
    |nil=>exact absurd (show Ac=Ab from h) Ar
    |cons b bs=>
      cases bs with
      |cons=>exact absurd (show Ac=Ab from h) Ar
      |nil=>
        unfold F3 at h;dsimp only at h;cases q:Lu st with
        |none=>rw[q]at h;cases h
        |some t=>
          obtain⟨bt,hl,es⟩:=t;rw[q]at h;obtain⟨pos,rfl⟩:=QV q;dsimp only at h;cases q0:JL hl with
          |none=>rw[q0]at h;cases h
          |some t0=>
            obtain⟨h1,h2⟩:=t0;have e0:=Lg q0;subst e0;rw[q0]at h;dsimp only at h;cases q1:xHd h1 with
            |none=>rw[q1]at h;cases h
            |some t1=>
              cases q2:xHd h2 with
              |none=>rw[q1,q2]at h;cases h
              |some t2=>
                obtain⟨g,m,h0,hs⟩:=t1;obtain⟨g',m',h0',hs'⟩:=t2;obtain⟨p1,hp,rfl⟩:=Od q1;obtain⟨p1',hp',rfl⟩:=Od q2;rw[q1,q2]at h;simp only[Al,AQ]at h;obtain⟨⟨⟨⟨⟨⟨⟨⟨rfl,i1⟩,i2⟩,i4⟩,i5⟩,i6⟩,i7⟩,i8⟩,i9⟩:=h;obtain⟨t1,t2⟩:=SJ E v hf 6 i6;refine SS.ref (Yl (up:=Γ.up) (c:=c) (c':=c') (i:=x) hf.ex hf.st hf.fm (by rw[v.N];exact v.nd) (by rw[v.N];exact i4) (by rw[v.sc];exact i5) (Ol v i1) (Ol v i2) t1 t2 (fun e=>ME v hf e x n _ _ i7) (fun e=>ME v hf e x n _ _ i8) (Z.ss W T X _ _ v hf i9)) fun ρ=>.inr ?_
                rw[X2];unfold SH;cases evSs Γ ρ (.cons b .nil)<;>rfl
  |swp i k l=>exact absurd (show Ac=Ab from h) Ar
  |apop j i e=>exact absurd (show Ac=Ab from h) Ar
  |ins=>exact absurd (show Ac=Ab from h) Ar
  |dput=>exact absurd (show Ac=Ab from h) Ar
  |dsd=>exact absurd (show Ac=Ab from h) Ar
  |rel=>exact absurd (show Ac=Ab from h) Ar
theorem aU(Z:SndS Γ CL k n)(W:XW)(T:Tc)(X:Cx)(xs:Ad A4)(c:Ss)(v:VX Γ CL k W T X)(hf:DefX X)(h:chkSs (n+1) T xs c=Ab):SSs X CL W xs (fun ρ=>evSs Γ ρ c):=by
 cases c with
 |nil=>
  simp only[chkSs,FR]at h;subst h;exact N0
 |cons s ss=>
  by_cases hr:∃ i,s=.rel i
  ·obtain⟨i,rfl⟩:=hr;simp only[chkSs]at h;exact Yk i (Z.ss W T X xs ss v hf h)
  ·cases xs with
   |nil=>cases s<;>first|(simp[chkSs]at h;done)|exact absurd ⟨_,rfl⟩ hr
   |cons st r=>
    have h':F3 n T st s=Ab/\chkSs n T r ss=Ab:=by
     cases s<;>first|(simp only[chkSs,Al]at h;exact h)|exact absurd ⟨_,rfl⟩ hr
    exact LV (Z.s W T X st s v hf h'.1) (Z.ss W T X r ss v hf h'.2)
theorem O6:∀ n,SndS Γ CL k n
 |0=>⟨fun _ _ _ _ _ _ _ h=>absurd (show Ac=Ab from h) Ar,fun _ _ _ _ _ _ _ h=>absurd (show Ac=Ab from h) Ar⟩
 |n+1=>⟨iS (O6 n),aU (O6 n)⟩
end
theorem K2{n:Af}{ds:Ad D}{i:Af}{o:An}(h:(Bp n ds)[i]?=Aa (Aa (d,o))):o=Ac/\ds[i]?=Aa d:=by
 unfold Bp at h;by_cases hi:i<ds.length
 ·rw[E3 (by simpa using hi),En]at h
  cases e:ds[i]? with
  |none=>rw[e]at h;cases h
  |some x=>rw[e]at h;cases h;exact⟨rfl,rfl⟩
 ·rw[Up (by simpa using Nat.le_of_not_lt hi),Ur]at h
  split at h<;>cases h
theorem Wc{N:Ad Aj}{vs:Ad V}{i:Af}{v:V}(h:vs[i]?=Aa v):(L2.start N vs)[i]?=Aa (Aa v):=by
 unfold L2.start;have hi:=(AZ.mp h).1;rw[E3 (by simpa using hi),En,h]
 rfl
theorem QN{N:Ad Aj}{n:Af}{vs:Ad V}{ds:Ad D}(hn:N.length=n)(hA:AOk H A)(r:Reps K CL H A vs ds):Sx K CL (fun b o=>H b=Aa o) A (Bp n ds) (L2.start N vs) H:=by
 have own:∀ a,BL A (Bp n ds) (L2.start N vs) a->A a:=fun a h=>by
  rcases h with h|⟨j,d,h,_⟩
  ·exact h
  ·exact absurd (K2 h).1 (by decide)
 have hlen:(Bp n ds).length=(L2.start N vs).length:=by
  unfold Bp L2.start;simp only[BW,Br,Uu,r.length,hn]
 refine⟨⟨fun i d h=>?_,fun i d h=>absurd (K2 h).1 (by decide),hlen⟩,fun a h=>hA a (own a h),fun j d a h _=>absurd (K2 h).1 (by decide),fun i j d e a h _ _ _=>absurd (K2 h).1 (by decide),fun b o h=>h,hlen⟩
 obtain⟨v,h1,h2⟩:=r.get (K2 h).2;exact⟨v,Wc h1,Rep.sub own _ h2⟩
def KG(K:Fg)(mg:Aj->Am Ai)(fns:Ad (Aj×Af×Af))(bl:Ad Aj)(rzs exs gls:Ad (Aj×Af))(Pg:Prg)(fuel:Af)(p:Aj×Af×Af):Prop:=∃ f fd ps qual st N,mg p.1=Aa (.ref f)/\Fun K p.1 qual st f fd/\FC K fd ps []/\ps.length=p.2.2%1000/\HC fuel (C9 1000 p.2.2) fns bl rzs exs gls ps N st (Pg.defs p.2.1)=Ab
structure Tab (K:Fg) (mg:Aj->Am Ai) (CL:ClA) (fns:Ad (Aj×Af×Af)) (bl:Ad Aj) (rzs exs gls:Ad (Aj×Af)) (Pg:Prg) (fuel:Af):Prop where
 xt:XT Pg.up Pg.xn CL rzs exs K mg
 bln:∀ x,x∈bl->mg x=Ae
 gl:∀ p∈gls,MN K mg CL p.1 (Pg.G p.2)
 fn:∀ p∈fns,KG K mg fns bl rzs exs gls Pg fuel p
theorem Sf(Pg:Prg)(n i:Af):(gam Pg n).fr i=(Pg.defs i).fr:=by cases n<;>rfl
theorem Se(Pg:Prg)(n:Af):(gam Pg n).up=Pg.up:=by cases n<;>rfl
theorem SX(Pg:Prg)(n:Af):(gam Pg n).G=Pg.G:=by cases n<;>rfl
theorem Sd(Pg:Prg)(n:Af):(gam Pg n).xn=Pg.xn:=by cases n<;>rfl
section
variable{P:AK}{w:AY}{K:Fg}{mg:Aj->Am Ai}{base:AB}{CL:ClA}{fns:Ad (Aj×Af×Af)}{bl:Ad Aj}{rzs exs gls:Ad (Aj×Af)}{Pg:Prg}{fuel:Af}
def Lvl(P:AK)(w:AY)(K:Fg)(mg:Aj->Am Ai)(base:AB)(CL:ClA)(Pg:Prg)(n:Af)(p:Aj×Af×Af):Prop:=∃ f fd ps,mg p.1=Aa (.ref f)/\Ca K (.ref f)=Ab/\FC K fd ps []/\ps.length=p.2.2%1000/\(p.2.2<1000->FnOk P w K mg base (CXR P w) n f fd ps (spD K CL (p.2.2%1000) ((gam Pg n).fr p.2.1) ((gam Pg n).F p.2.1)))/\(1000<=p.2.2->HotOk P w K mg base n f fd ps (spH K CL (p.2.2%1000) ((gam Pg n).fr p.2.1) ((gam Pg n).F p.2.1)))
theorem So(t:Tab K mg CL fns bl rzs exs gls Pg fuel){n:Af}(hlv:∀ q∈fns,Lvl P w K mg base CL Pg n q){st:A4}{f:Ak}{ps N:Ad Aj}{m id:Af}(h2:Fun K x qual st f fd)(h4:ps.length=m)(h5:HC fuel Ac fns bl rzs exs gls ps N st (Pg.defs id)=Ab):FnOk P w K mg base (CXR P w) (n+1) f fd ps (spD K CL m ((gam Pg (n+1)).fr id) ((gam Pg (n+1)).F id)):=by
  unfold HC at h5;simp only[Al,AQ,Bk,Dt,CH,Hd,KR]at h5;obtain⟨⟨⟨⟨⟨⟨⟨⟨c1,c2⟩,c3⟩,c4⟩,c5⟩,c6⟩,c7⟩,c8⟩,c9⟩:=h5;obtain⟨oc,od,kV,doc,pm,an,cdv,ct,osl,rfl,lk,hcd⟩:=h2.ex;refine S5 (N:=N) lk hcd ⟨c1,c2,c3,Jx c4,c5,c6,c7⟩ (fun vs H Q E ⟨ds,A,z,_⟩=>z.trans h4.symm) fun A outer s H vs Q E hr ⟨ds,B,hl,hA,hreps,hpost⟩=>?_
  have xt:XT (gam Pg n).up (gam Pg n).xn CL rzs exs K mg:=by rw[Se,Sd];exact t.xt
  have gl:∀ p∈gls,MN K mg CL p.1 ((gam Pg n).G p.2):=by rw[SX];exact t.gl
  have key:∀ W:XW,(∀ x cls dx H',W x H'->FV K CL H' cls dx x->E cls dx H')->BU K CL (fun b o=>H b=Aa o) B W (evSs (gam Pg n) (Bp (Pg.defs id).n ds) (Pg.defs id).body) {nx:=fun _ H'=>Q .non H',rt:=Q} ->
      ∃ t,PSs (EB (CXR P w) P w K mg base N qual (CA st) f cdv A outer s H E) (Fx st) t/\t {nx:=fun _ H'=>Q .non H',rt:=Q} (start N vs) H:=fun W hW hp=>by
    have v:VX (gam Pg n) CL n W ⟨CA st,N,fns,bl,rzs,exs,gls⟩ (EB (CXR P w) P w K mg base N qual (CA st) f cdv A outer s H E):=⟨rfl,c1,rfl,Jx c4,rfl,hr,t.bln,hlv,ownR,jB hW,rzR hW,xt,gl⟩;exact⟨_,(O6 fuel).ss W _ _ _ (Pg.defs id).body v ⟨fun _=>rfl,rfl,rfl,rfl⟩ c9 (fun b o=>H b=Aa o) B,_,QN c8 hA hreps,hp⟩
  have no:∀ x cls dx H',W0 x H'->FV K CL H' cls dx x->E cls dx H':=fun _ _ _ _ z=>z.elim
  have e:(gam Pg (n+1)).F id ds=Dk Pg.xs ((evSs (gam Pg n) (Bp (Pg.defs id).n ds) (Pg.defs id).body).ans (Pg.defs id).fr):=rfl;rw[e,Sf]at hpost;have cutO:∀ r:R D,(∀ x,r≠.exn x)->Dk Pg.xs r=r:=fun r hr=>by
    cases Pg.xs<;>cases r<;>first|rfl|exact absurd rfl (hr _)
  cases eo:evSs (gam Pg n) (Bp (Pg.defs id).n ds) (Pg.defs id).body with
  |next ρ'=>
    refine key W0 no ?_;rw[eo]at hpost ⊢;cases ef:(Pg.defs id).fr with
    |true=>rw[ef]at hpost;rw[cutO _ (by intro x z;cases z)]at hpost;exact hpost.elim
    |false=>
      rw[ef]at hpost;rw[cutO _ (by intro x z;cases z)]at hpost
      exact fun σ' H' x'=>hpost .non H' (fun b o z=>x'.same b o z) ⟨rfl,fun z=>nomatch z⟩
  |ret d b=>
    refine key W0 no ?_;rw[eo]at hpost ⊢;intro v H' sm rp fr;have hp2:(match Dk Pg.xs (if ((Pg.defs id).fr&&(!b&&isL d))=Ab then R.bad else R.ok d) with
      |.ok d=>∀ v H',AE H H'->Dv K CL (Pg.defs id).fr H B H' v d->Q v H'
      |.exn x=>∀ cls dx H',AE H H'->FV K CL H' cls dx x->E cls dx H'
      | .bad=>AS):=hpost
    cases ec:((Pg.defs id).fr&&(!b&&isL d)) with
    |true=>rw[ec,AF rfl,cutO _ (by intro x z;cases z)]at hp2;exact hp2.elim
    |false=>
      rw[ec,AM (by decide),cutO _ (by intro x z;cases z)]at hp2
      refine hp2 v H' sm ⟨rp,fun efr es hd=>?_⟩
      subst hd;have eb:b=Ab:=by
        cases b with
        |true=>rfl
        |false=>rw[efr]at ec;cases ec
      obtain⟨a,xs,h1,h2,h3,h4⟩:=fr eb es rfl;refine⟨a,xs,h1,?_,h3,h4⟩;cases ha:H a with
      |none=>rfl
      |some o=>exact absurd ha (h2 o)
  |brk ρ'=>rw[eo]at hpost;have hp2:(match Dk Pg.xs (R.bad:R D) with | .ok _=>_ | .exn _=>_ | .bad=>AS):=hpost;rw[cutO _ (by intro x z;cases z)]at hp2;exact hp2.elim
  |cont ρ'=>rw[eo]at hpost;have hp2:(match Dk Pg.xs (R.bad:R D) with | .ok _=>_ | .exn _=>_ | .bad=>AS):=hpost;rw[cutO _ (by intro x z;cases z)]at hp2;exact hp2.elim
  |bad=>rw[eo]at hpost;have hp2:(match Dk Pg.xs (R.bad:R D) with | .ok _=>_ | .exn _=>_ | .bad=>AS):=hpost;rw[cutO _ (by intro x z;cases z)]at hp2;exact hp2.elim
  |exn x ρ'=>
    rw[eo]at hpost;have hp2:(match Dk Pg.xs (R.exn x:R D) with
      |.ok d=>∀ v H',AE H H'->Dv K CL (Pg.defs id).fr H B H' v d->Q v H'
      |.exn x=>∀ cls dx H',AE H H'->FV K CL H' cls dx x->E cls dx H'
      | .bad=>AS):=hpost
    cases ex:Pg.xs with
    |false=>rw[ex]at hp2;exact hp2.elim
    |true=>
      rw[ex]at hp2;have hp3:∀ cls dx H',AE H H'->FV K CL H' cls dx x->E cls dx H':=hp2;refine key (fun y H'=>y=x/\AE H H') (fun y cls dx H' ⟨e1,sm⟩ xr=>?_) ?_
      · subst e1;exact hp3 cls dx H' sm xr
      · rw[eo];exact fun H' sm=>⟨rfl,sm⟩
theorem fS(t:Tab K mg CL fns bl rzs exs gls Pg fuel){n:Af}(hlv:∀ q∈fns,Lvl P w K mg base CL Pg n q){st:A4}{f:Ak}{ps N:Ad Aj}{m id:Af}(h2:Fun K x qual st f fd)(h4:ps.length=m)(h5:HC fuel Ab fns bl rzs exs gls ps N st (Pg.defs id)=Ab):HotOk P w K mg base (n+1) f fd ps (spH K CL m ((gam Pg (n+1)).fr id) ((gam Pg (n+1)).F id)):=by
  unfold HC at h5;simp only[Al,AQ,Bk,Dt,CH,Hd,KR]at h5;obtain⟨⟨⟨⟨⟨⟨⟨⟨c1,c2⟩,c3⟩,c4⟩,c5⟩,c6⟩,c7⟩,c8⟩,c9⟩:=h5;obtain⟨oc,od,kV,doc,pm,an,cdv,ct,osl,rfl,lk,hcd⟩:=h2.ex;refine fU (N:=N) lk hcd ⟨c1,c2,c3,Jx c4,c5,c6,c7⟩ (fun vs H Q E ⟨ds,A,z,_⟩=>z.trans h4.symm) fun A ev outer s H vs Q E hr ⟨ds,B,hl,hA,hreps,hpost⟩=>?_
  have xt:XT (gam Pg n).up (gam Pg n).xn CL rzs exs K mg:=by rw[Se,Sd];exact t.xt
  have gl:∀ p∈gls,MN K mg CL p.1 ((gam Pg n).G p.2):=by rw[SX];exact t.gl
  have key:BU K CL (fun b o=>H b=Aa o) B W0 (evSs (gam Pg n) (Bp (Pg.defs id).n ds) (Pg.defs id).body) {nx:=fun _ H'=>Q .non H',rt:=Q} ->
      ∃ t,PSs (Cx.hot (EB Iy P w K mg base N qual (CA st) f cdv A outer s H E) ev) (Fx st) t/\t {nx:=fun _ H'=>Q .non H',rt:=Q} (start N vs) H:=fun hp=>by
    have v:VX (gam Pg n) CL n W0 ⟨CA st,N,fns,bl,rzs,exs,gls⟩ (EB Iy P w K mg base N qual (CA st) f cdv A outer s H E):=⟨rfl,c1,rfl,Jx c4,rfl,hr,t.bln,hlv,Vk,Ou,O5,xt,gl⟩;exact⟨_,ME v ⟨fun _=>rfl,rfl,rfl,rfl⟩ ev 0 fuel _ (Pg.defs id).body c9 (fun b o=>H b=Aa o) B,_,QN c8 hA hreps,hp⟩
  have e:(gam Pg (n+1)).F id ds=Dk Pg.xs ((evSs (gam Pg n) (Bp (Pg.defs id).n ds) (Pg.defs id).body).ans (Pg.defs id).fr):=rfl;rw[e,Sf]at hpost;have cutO:∀ r:R D,(∀ x,r≠.exn x)->Dk Pg.xs r=r:=fun r hr=>by
    cases Pg.xs<;>cases r<;>first|rfl|exact absurd rfl (hr _)
  refine key ?_;cases eo:evSs (gam Pg n) (Bp (Pg.defs id).n ds) (Pg.defs id).body with
  |next ρ'=>
    rw[eo]at hpost;cases ef:(Pg.defs id).fr with
    |true=>rw[ef]at hpost;rw[cutO _ (by intro x z;cases z)]at hpost;exact hpost.elim
    |false=>
      rw[ef]at hpost;rw[cutO _ (by intro x z;cases z)]at hpost
      exact fun σ' H' x'=>hpost .non H' (fun b o z=>x'.same b o z) ⟨rfl,fun z=>nomatch z⟩
  |ret d b=>
    rw[eo]at hpost;intro v H' sm rp fr;have hp2:(match Dk Pg.xs (if ((Pg.defs id).fr&&(!b&&isL d))=Ab then R.bad else R.ok d) with
      |.ok d=>∀ v H',AE H H'->Dv K CL (Pg.defs id).fr H B H' v d->Q v H'
      |.exn x=>AS
      | .bad=>AS):=hpost
    cases ec:((Pg.defs id).fr&&(!b&&isL d)) with
    |true=>rw[ec,AF rfl,cutO _ (by intro x z;cases z)]at hp2;exact hp2.elim
    |false=>
      rw[ec,AM (by decide),cutO _ (by intro x z;cases z)]at hp2
      refine hp2 v H' sm ⟨rp,fun efr es hd=>?_⟩
      subst hd;have eb:b=Ab:=by
        cases b with
        |true=>rfl
        |false=>rw[efr]at ec;cases ec
      obtain⟨a,xs,h1,h2,h3,h4⟩:=fr eb es rfl;refine⟨a,xs,h1,?_,h3,h4⟩;cases ha:H a with
      |none=>rfl
      |some o=>exact absurd ha (h2 o)
  |brk ρ'=>rw[eo]at hpost;have hp2:(match Dk Pg.xs (R.bad:R D) with | .ok _=>_ | .exn _=>_ | .bad=>AS):=hpost;rw[cutO _ (by intro x z;cases z)]at hp2;exact hp2.elim
  |cont ρ'=>rw[eo]at hpost;have hp2:(match Dk Pg.xs (R.bad:R D) with | .ok _=>_ | .exn _=>_ | .bad=>AS):=hpost;rw[cutO _ (by intro x z;cases z)]at hp2;exact hp2.elim
  |bad=>rw[eo]at hpost;have hp2:(match Dk Pg.xs (R.bad:R D) with | .ok _=>_ | .exn _=>_ | .bad=>AS):=hpost;rw[cutO _ (by intro x z;cases z)]at hp2;exact hp2.elim
  |exn x ρ'=>
    rw[eo]at hpost;have hp2:(match Dk Pg.xs (R.exn x:R D) with
      |.ok d=>∀ v H',AE H H'->Dv K CL (Pg.defs id).fr H B H' v d->Q v H'
      |.exn x=>AS
      | .bad=>AS):=hpost
    exfalso
    cases ex:Pg.xs with
    |false=>rw[ex]at hp2;exact hp2
    |true=>
      rw[ex]at hp2;exact hp2
theorem Og(t:Tab K mg CL fns bl rzs exs gls Pg fuel):∀ n,∀ p∈fns,Lvl P w K mg base CL Pg n p
 |0,p,hp=>by
  obtain⟨f,fd,ps,qual,st,N,h1,h2,h3,h4,h5⟩:=t.fn p hp;exact⟨f,fd,ps,h1,h2.kp,h3,h4,fun _=>⟨fun vs H Q E ⟨ds,A,_,_,_,z⟩=>z.elim,fun A outer s H args us vs Q E _ _ _ _ ⟨ds,A,_,_,_,z⟩=>z.elim⟩,fun _=>⟨fun vs H Q E ⟨ds,A,_,_,_,z⟩=>z.elim,fun A ev outer s H args us vs Q E _ _ _ _ ⟨ds,A,_,_,_,z⟩=>z.elim⟩⟩
 |n+1,p,hp=>by
  obtain⟨f,fd,ps,qual,st,N,h1,h2,h3,h4,h5⟩:=t.fn p hp;refine⟨f,fd,ps,h1,h2.kp,h3,h4,fun hlt=>?_,fun hge=>?_⟩
  ·have eb:C9 1000 p.2.2=Ac:=by
    cases e:C9 1000 p.2.2 with
    |false=>rfl
    |true=>exact absurd (Er e) (by omega)
   rw[eb]at h5;exact So t (fun q hq=>Og t n q hq) h2 h4 h5
  ·rw[UB hge]at h5;exact fS t (fun q hq=>Og t n q hq) h2 h4 h5
theorem fA{s s':Aq}{e:Ai}(h:CXR P w [] H s (fun _ _ _=>AS) e s'):AS:=by
 obtain⟨_,_,_,_,_,_,_,_,_,_,_,_,_,_,_,z⟩:=h;exact z
noncomputable def TF:A4->Am (Ao×AI)
 |.Expr e p=>Aa (e,p)
 |_=>Ae
theorem YB{e:A4}{t:Ao×AI}(h:TF e=Aa t):e=.Expr t.1 t.2:=by
 cases e with
 |Expr x p=>cases h;rfl
 |_=>exact nomatch (show Ae=Aa t from h)
noncomputable def TJ:A4->Am (Ao×Ao×AI)
  | .Assign ts v p=>(match ts with
    |[t]=>Aa (t,v,p)
    | _=>Ae)
  |_=>Ae
theorem YD{e:A4}{t:Ao×Ao×AI}(h:TJ e=Aa t):e=.Assign [t.1] t.2.1 t.2.2:=by
 cases e with
 |Assign ts v p=>
  cases ts with
  |nil=>exact nomatch (show Ae=Aa t from h)
  |cons a ts=>
   cases ts with
   |nil=>cases h;rfl
   |cons=>exact nomatch (show Ae=Aa t from h)
 |_=>exact nomatch (show Ae=Aa t from h)
noncomputable def O1:Ao->Am (Ao×Aj×AI)
 |.Attribute e x p=>Aa (e,x,p)
 |_=>Ae
theorem QW{e:Ao}{t:Ao×Aj×AI}(h:O1 e=Aa t):e=.Attribute t.1 t.2.1 t.2.2:=by
 cases e with
 |Attribute e x p=>cases h;rfl
 |_=>exact nomatch (show Ae=Aa t from h)
noncomputable def TC:Ao->Am (Ad Ao×AI)
 |.JoinedStr l p=>Aa (l,p)
 |_=>Ae
theorem Yz{e:Ao}{t:Ad Ao×AI}(h:TC e=Aa t):e=.JoinedStr t.1 t.2:=by
 cases e with
 |JoinedStr l p=>cases h;rfl
 |_=>exact nomatch (show Ae=Aa t from h)
noncomputable def TD:Ao->Am (Ao×Ag×AI)
  | .FormattedValue e n f p=>(match f with
    |none=>Aa (e,n,p)
    | _=>Ae)
  |_=>Ae
theorem YA{e:Ao}{t:Ao×Ag×AI}(h:TD e=Aa t):e=.FormattedValue t.1 t.2.1 Ae t.2.2:=by
 cases e with
 |FormattedValue e n f p=>
  cases f with
  |none=>cases h;rfl
  |some=>exact nomatch (show Ae=Aa t from h)
 |_=>exact nomatch (show Ae=Aa t from h)
noncomputable def TH:Ao->Am (Aj×Af×AI)
  | .Constant c k p=>(match c with
    |.str z=>Aa (z,k,p)
    | _=>Ae)
  |_=>Ae
theorem YC{e:Ao}{t:Aj×Af×AI}(h:TH e=Aa t):e=.Constant (.str t.1) t.2.1 t.2.2:=by
 cases e with
 |Constant c k p=>
  cases c with
  |str z=>cases h;rfl
  |_=>exact nomatch (show Ae=Aa t from h)
 |_=>exact nomatch (show Ae=Aa t from h)
noncomputable def T5(g par f:Aj)(b:Ad A4):Am Fw:=(JL b).bind fun s=>(TF s.1).bind fun c=>(ML c.1).bind fun cl=>(O1 cl.1).bind fun at1=>(Fk at1.1).bind fun g1=>(JL cl.2.1).bind fun ab=>(Fk ab.1).bind fun s1=>(TC ab.2).bind fun j=>(JL j.1).bind fun fk=>(TD fk.1).bind fun fm=>(Fk fm.1).bind fun q1=>(TH fk.2).bind fun z=>(TJ s.2).bind fun t=>(O1 t.1).bind fun at2=>(Fk at2.1).bind fun s2=>(Fk t.2.1).bind fun q2=>
 if (g1.1==g&&(at1.2.1==("__init__" : Aj)&&(s1.1==("self" : Aj)&&(q1.1==par&&(decide (fm.2.1=-1)&&(s2.1==("self" : Aj)&&(at2.2.1==f&&(q2.1==par&&(at1.2.2.endLine==cl.2.2.line&&C9 z.1.length 1000)))))))))=Ab then Aa () else Ae
noncomputable def T6(g par f:Aj)(b:Ad A4):An:=(T5 g par f b).isSome
theorem aI{g par f:Aj}{b:Ad A4}(h:T6 g par f b=Ab):∃ z k np apos p1 p2 p3 p4 p5 cpos p6 p7 p8 p9 p10,b=Pc g par f z k np apos p1 p2 p3 p4 p5 cpos p6 p7 p8 p9 p10/\(apos.endLine==cpos.line)=Ab/\z.length<=1000:=by
 obtain⟨_,h⟩:=DX.mp (show (T5 g par f b).isSome=Ab from h)
 obtain⟨s,e1,h⟩:=AA.mp h;obtain⟨c,e2,h⟩:=AA.mp h;obtain⟨cl,e3,h⟩:=AA.mp h;obtain⟨at1,e4,h⟩:=AA.mp h;obtain⟨g1,e5,h⟩:=AA.mp h;obtain⟨ab,e6,h⟩:=AA.mp h;obtain⟨s1,e7,h⟩:=AA.mp h;obtain⟨j,e8,h⟩:=AA.mp h;obtain⟨fk,e9,h⟩:=AA.mp h;obtain⟨fm,f1,h⟩:=AA.mp h;obtain⟨q1,f2,h⟩:=AA.mp h;obtain⟨z,f3,h⟩:=AA.mp h;obtain⟨t,f4,h⟩:=AA.mp h;obtain⟨at2,f5,h⟩:=AA.mp h;obtain⟨s2,f6,h⟩:=AA.mp h;obtain⟨q2,f7,h⟩:=AA.mp h;split at h
 ·rename_i hc;simp only[Al,AQ,A7]at hc;obtain⟨c1,c2,c3,c4,c5,c6,c7,c8,h1,h2⟩:=hc;rw[Lg e1,YB e2,NZ e3,QW e4,G3 e5,Lg e6,G3 e7,Yz e8,Lg e9,YA f1,G3 f2,YC f3,YD f4,QW f5,G3 f6,G3 f7,c1,c2,c3,c4,c5,c6,c7,c8];exact⟨_,_,_,_,_,_,_,_,_,_,_,_,_,_,_,rfl,by rw[AQ];exact h1,Er h2⟩
 ·cases h
noncomputable def MI(g par f:Aj)(st:A4):An:=
 (CA st).kind==.function&&((CA st).isCoroutine==Ac&&((CA st).isGenerator==Ac&&(Kn ["self", par]&&((CA st).names.lookup ("self" : Aj)==Aa .local&&((CA st).names.lookup par==Aa .local&&(((CA st).names.all fun y=>y.2 != .free) &&
  ((CA st).names.lookup g==Aa .globalImplicit&&(g != ("__debug__" : Aj)&&(par != ("__debug__" : Aj)&&(par != ("__classdict__" : Aj)&&T6 g par f (Fx st)))))))))))
noncomputable def MD(s:A4):A4:=match s with
  |.ClassDef _ _ _ (b::_) _ _ _ _ _ _ _=>b
  |s=>s
def InI(K:Fg)(f:Ak)(qual:Aj)(st:A4):Prop:=∃ fd,Fun K "__init__" qual st f fd
theorem ini_mk{st:A4}{f:Ak}{kV doc pm cdv ct:Ai}(l:K.lookup f=Aa ⟨oc,od,.func (CN "__init__" qual (IX st) (Fx st) (CA st) .none kV doc pm an cdv ct),osl⟩)(c:Ey K cdv qual=Ab)(k:Ca K (.ref f)=Ab):InI K f qual st:=⟨_,Sg l c k⟩
theorem RM{fI:Ak}{g par f qual:Aj}{st:A4}(a:InI K fI qual st)(hk:MI g par f st=Ab)(hb:∀(u0 u1 kV doc pm:Ai)(an:Am Ak)(cdv ct:Ai),Jo (CN "__init__" qual (IX st) (Fx st) (CA st) .none kV doc pm an cdv ct) ⟨[u0,u1],[]⟩=pure ((["self", par]:Ad Aj).zip [u0,u1]))(xc:DS K C (Aa (.ref fI))=Ab)(dc:Fj K C=Ab)(ty:Dc K (.ref fI)=Aa (.type "function"))(mo:mg g=Aa (.ref OV))(s1:Ep K (.ref OV) "__getattribute__" = Aa (Aa (.builtin "type.__getattribute__")))(s2:E7 K OV (.type "type")=Ab)(s3:E6 K (.ref OV) (.type "type") "__init__" = Aa (.val (.builtin "ValueError.__init__")))(hf:Av K (.ref C) f=Aa Ae)(hs:Av K (.ref C) "__setattr__" = Aa (Aa (.builtin "object.__setattr__"))):XIn K mg C f:=by
 obtain⟨fd,fn⟩:=a;unfold MI at hk;simp only[Al,AQ,Dt,Hd,KR]at hk;obtain⟨c1,c2,c3,c4,c5,c6,c7,c8,c9,c10,c11,c12⟩:=hk;obtain⟨z,k,np,apos,p1,p2,p3,p4,p5,cpos,p6,p7,p8,p9,p10,eb,hl,hz⟩:=aI c12;exact .mk xc dc fn ty ⟨c1,c2,c3,Jx c4,rfl,fun x hx=>by
  rcases Ay.mp hx with rfl|hx
  ·exact .inl c5
  ·rw[Bu.mp hx];exact .inl c6,c7⟩ c5 c6 (fn.binds fun kV doc pm an cdv ct us hu=>match us,hu with | [u0,u1],_=>hb u0 u1 kV doc pm an cdv ct) eb c8 mo (by simpa using c9) (by simpa using c10) (by simpa using c11) s1 s2 s3 hl hz hf hs
theorem Mx(h:∀ ds,xn c ds=.bad\/xn c ds=.ok ⟨c,[]⟩)(e:DS K C Ae=Ab)(ds:Ad D):xn c ds=.bad\/(xn c ds=.ok ⟨c,[]⟩/\DS K C Ae=Ab)\/∃ f,XIn K mg C f/\MB xn c f ds:=(h ds).imp id fun z=>.inl ⟨z,e⟩
theorem Ta{f:Aj}(h:∀ ds,xn c ds=mkX c f ds)(x:XIn K mg C f)(ds:Ad D):xn c ds=.bad\/(xn c ds=.ok ⟨c,[]⟩/\DS K C Ae=Ab)\/∃ f,XIn K mg C f/\MB xn c f ds:=by
  have e:=h ds
  match ds,e with
  |[],e=>exact .inl e
  |_::_::_,e=>exact .inl e
  |[d],e=>
    have e':xn c [d]=if (xfD 1 d||xfD 2 d)=Ab then .ok ⟨c,[(f,d)]⟩ else .bad:=e
    by_cases z:(xfD 1 d||xfD 2 d)=Ab
    · rw[AF z]at e';refine .inr (.inr ⟨f,x,d,?_⟩);rw[CH]at z;rcases z with z|z
      · exact⟨0,rfl,z,by decide,e'⟩
      · exact⟨1,rfl,z,by decide,e'⟩
    · rw[AM z]at e';exact .inl e'
theorem KC(dc:Fj K C=Ab)(h1:Av K (.ref C) "triple" = Aa Ae)(h2:Av K (.ref C) "points" = Aa Ae)(f:Aj)(h:(f==("triple" : Aj)||f==("points" : Aj))=Ab):Fj K C=Ab/\Av K (.ref C) f=Aa Ae:=by
 rw[CH]at h;rcases h with h|h
 ·rw[eq_of_beq h];exact⟨dc,h1⟩
 ·rw[eq_of_beq h];exact⟨dc,h2⟩
def MC(K:Fg):Sp:=fun vs H Q _=>∃(a:Ak)(ns:Ad Ag),vs=[.ref a]/\ns.length<=63/\SqL K H a (ns.map V.int)/\∀ v H',v=V.bl Ab->Q v H'
theorem law_fn{f:Ak}(G:FnOk P w K mg base CX k f fd ps (spD K CL 1 Ac F))(h:∀ ns:Ad Ag,F [.lst (ns.map .int)]=.ok (.bl Ab)):FnOk P w K mg base CX k f fd ps (MC K):=G.imp fun vs H Q E ⟨a,ns,e,hl,hS,q⟩=>by
 subst e;have rs:∀ l:Ad Ag,Reps K CL H A0 (l.map V.int) (l.map D.int):=fun l=>by
  induction l with
  |nil=>trivial
  |cons x l ih=>exact⟨rfl,ih⟩
 refine⟨[.lst (ns.map .int)],A0,rfl,fun _ z=>z.elim,⟨⟨a,_,rfl,.inl (fun z=>z),hS,rs ns⟩,trivial⟩,?_⟩
 rw[h ns];exact fun v H' _ r=>q v H' r.1
theorem La{Q:α->Prop}:∀ x∈([]:Ad α),Q x:=fun _ h=>nomatch h
theorem all_cons{Q:α->Prop}{a:α}{l:Ad α}(h1:Q a)(h2:∀ x∈l,Q x):∀ x∈a::l,Q x:=List.forall_mem_cons.2 ⟨h1,h2⟩
def FnI(K:Fg)(f:Ak)(n:Aj)(st:A4):Prop:=∃ fd,Fun K n n st f fd/\Bi K AW n=Aa (Aa (.ref f))
theorem fni{st:A4}{f:Ak}{kV doc pm cdv ct:Ai}(a:Bi K AW n=Aa (Aa (.ref f)))(l:K.lookup f=Aa ⟨oc,od,.func (CN n n (IX st) (Fx st) (CA st) .none kV doc pm an cdv ct),osl⟩)(c:Ey K cdv n=Ab)(k:Ca K (.ref f)=Ab):FnI K f n st:=⟨_,Sg l c k,a⟩
def Bd(n:Aj)(st:A4)(ps:Ad Aj)(us:Ad Ai):Prop:=∀(kV doc pm:Ai)(an:Am Ak)(cdv ct:Ai),Jo (CN n n (IX st) (Fx st) (CA st) .none kV doc pm an cdv ct) ⟨us,[]⟩=pure (ps.zip us)
theorem Mv{f:Ak}{st:A4}{ps N:Ad Aj}(m id:Af)(X:K.In h)(G:h.Ns AW mg)(A:FnI K f n st)(hl:ps.length=m%1000)(hc:HC fuel (C9 1000 m) fns bl rzs exs gls ps N st (Pg.defs id)=Ab)(hb:∀ us:Ad Ai,us.length=ps.length->Bd n st ps us):KG K mg fns bl rzs exs gls Pg fuel (n,id,m):=by
 obtain⟨fd,F,a⟩:=A;exact⟨_,_,_,_,_,_,BN X G a,F,F.binds fun kV doc pm an cdv ct us hu=>hb us hu kV doc pm an cdv ct,hl,hc⟩
theorem Lw{f:Ak}{st:A4}{N:Ad Aj}(m id:Af)(X:K.In h)(G:h.Ns AW mg)(A:FnI K f n st)(hl:1=m%1000)(hc:HC fuel (C9 1000 m) fns bl rzs exs gls [x0] N st (Pg.defs id)=Ab)(hb:∀ u0,Bd n st [x0] [u0]):KG K mg fns bl rzs exs gls Pg fuel (n,id,m):=
 Mv (ps:=[x0]) m id X G A hl hc fun us hu=>match us,hu with | [u0],_=>hb u0
theorem Fl{f:Ak}{st:A4}{N:Ad Aj}(m id:Af)(X:K.In h)(G:h.Ns AW mg)(A:FnI K f n st)(hl:2=m%1000)(hc:HC fuel (C9 1000 m) fns bl rzs exs gls [x0,x1] N st (Pg.defs id)=Ab)(hb:∀ u0 u1,Bd n st [x0,x1] [u0,u1]):KG K mg fns bl rzs exs gls Pg fuel (n,id,m):=
 Mv (ps:=[x0,x1]) m id X G A hl hc fun us hu=>match us,hu with | [u0,u1],_=>hb u0 u1
theorem Je{f:Ak}{st:A4}{N:Ad Aj}{x2:Aj}(m id:Af)(X:K.In h)(G:h.Ns AW mg)(A:FnI K f n st)(hl:3=m%1000)(hc:HC fuel (C9 1000 m) fns bl rzs exs gls [x0,x1,x2] N st (Pg.defs id)=Ab)(hb:∀ u0 u1 u2,Bd n st [x0,x1,x2] [u0,u1,u2]):KG K mg fns bl rzs exs gls Pg fuel (n,id,m):=
 Mv (ps:=[x0,x1,x2]) m id X G A hl hc fun us hu=>match us,hu with | [u0,u1,u2],_=>hb u0 u1 u2
theorem Pa{f:Ak}{st:A4}{N:Ad Aj}{x2 x3:Aj}(m id:Af)(X:K.In h)(G:h.Ns AW mg)(A:FnI K f n st)(hl:4=m%1000)(hc:HC fuel (C9 1000 m) fns bl rzs exs gls [x0,x1,x2,x3] N st (Pg.defs id)=Ab)(hb:∀ u0 u1 u2 u3,Bd n st [x0,x1,x2,x3] [u0,u1,u2,u3]):KG K mg fns bl rzs exs gls Pg fuel (n,id,m):=
 Mv (ps:=[x0,x1,x2,x3]) m id X G A hl hc fun us hu=>match us,hu with | [u0,u1,u2,u3],_=>hb u0 u1 u2 u3
end
end Ov
namespace OvC
open PySem Ov
variable{x p t k y:Ag}{d PP A B:D}{xs:Ad Ag}{Γ:Gam}{ρ:Rho}{L:Ad D}{m n i j:Af}
noncomputable def NC:Df:=⟨4,Ac,(.cons (.ret (.call 1 (.cons (.var 0) (.cons (.bin .Add (.bin .Sub (.bin .Mult (.idx (.var 1) (.int 0)) (.bin .Sub (.bin .Mult (.idx (.var 2) (.int 1)) (.idx (.var 3) (.int 2))) (.bin .Mult (.idx (.var 2) (.int 2)) (.idx (.var 3) (.int 1))))) (.bin .Mult (.idx (.var 1) (.int 1)) (.bin .Sub (.bin .Mult (.idx (.var 2) (.int 0)) (.idx (.var 3) (.int 2))) (.bin .Mult (.idx (.var 2) (.int 2)) (.idx (.var 3) (.int 0)))))) (.bin .Mult (.idx (.var 1) (.int 2)) (.bin .Sub (.bin .Mult (.idx (.var 2) (.int 0)) (.idx (.var 3) (.int 1))) (.bin .Mult (.idx (.var 2) (.int 1)) (.idx (.var 3) (.int 0)))))) .nil)))) .nil)⟩
noncomputable abbrev tr(a b c:Ag):D:=.tup [.int a,.int b,.int c]
noncomputable def det(a0 a1 a2 b0 b1 b2 c0 c1 c2:Ag):Ag:=a0*(b1*c2-b2*c1)-a1*(b0*c2-b2*c0)+a2*(b0*c1-b1*c0)
def Sm(x:Ag):Prop:=0<=x/\x<11
theorem mo(h:Sm x)(y:Ag):CP x y=Ab:=G4 (by have:=h.1;omega) (by have:=h.2;omega)
theorem g30(x y z:D):DB [x,y,z] 0=.ok x:=rfl
theorem g31(x y z:D):DB [x,y,z] 1=.ok y:=rfl
theorem g32(x y z:D):DB [x,y,z] 2=.ok z:=rfl
theorem mB:F0 0 3=[.int 0,.int 1,.int 2]:=rfl
theorem Sm.of(h:P4 p)(x:Ag):Sm (x%p):=⟨Bg _ (by have:=h.pos;omega),by have:=A6 x h.pos;have:=h.hi;omega⟩
theorem PF{body:D->Rho->O}(I:Rho->Prop)(g:Ag->An):∀(L:Ad Ag),(∀ t∈L,∀ ρ,I ρ->(g t=Ab/\body (.int t) ρ=.ret (.int t) Ac)\/(g t=Ac/\∃ ρ',body (.int t) ρ=.next ρ'/\I ρ'))->∀ ρ,I ρ->(∃ t∈L,g t=Ab/\Dq body (L.map D.int) ρ=.ret (.int t) Ac)\/((∀ t∈L,g t=Ac)/\∃ ρ',Dq body (L.map D.int) ρ=.next ρ'/\I ρ')
 |[],_,ρ,i=>.inr ⟨(fun _ h=>nomatch h),ρ,rfl,i⟩
 |m::L,h,ρ,i=>by
  rcases h m (AL ..) ρ i with ⟨e1,e2⟩|⟨e1,ρ',e2,i'⟩
  ·refine .inl ⟨m,AL ..,e1,?_⟩;show (body (.int m) ρ).turn _=_;rw[e2];rfl
  ·rcases PF I g L (fun m' h'=>h m' (AG _ h')) ρ' i' with ⟨t,ht,a,b⟩|⟨a,r,b,c⟩
   ·refine .inl ⟨t,AG _ ht,a,?_⟩;show (body (.int m) ρ).turn _=_;rw[e2];exact b
   ·refine .inr ⟨fun t ht=>?_,r,?_,c⟩
    ·rcases Ay.mp ht with rfl|ht
     ·exact e1
     ·exact a t ht
    ·show (body (.int m) ρ).turn _=_;rw[e2];exact b
noncomputable def JZ:Ss:=(.cons (.ife (.cmp .Eq (.call 1 (.cons (.var 0) (.cons (.bin .Mult (.var 1) (.var 2)) .nil))) (.int 1)) (.cons (.ret (.var 2)) .nil) .nil) .nil)
noncomputable def LI:Df:=⟨3,Ac,(.cons (.fors 2 (.rng2 (.int 1) (.var 0)) JZ) (.cons (.rais 2 (.cons (.str (Bx "a number with the rest 0 is not turned over")) .nil)) .nil))⟩
noncomputable def Gq(p:Ag):Ad Ag:=(A5 (p-1).toNat).map fun(k:Af)=>1+(k:Ag)
theorem Ke:t∈Gq p↔1<=t/\t<p:=by
 unfold Gq;rw[List.mem_map];constructor
 ·rintro⟨k,hk,rfl⟩;have:=Bs.mp hk;omega
 ·rintro⟨h1,h2⟩;exact⟨(t-1).toNat,Bs.mpr (by omega),by omega⟩
theorem Qm(h:P4 p):DJ 1 p=.ok ((Gq p).map D.int):=by
 rcases h with rfl|rfl|rfl|rfl<;>rfl
theorem aF:∀ p:Fin 12,(p.val=3\/p.val=5\/p.val=7\/p.val=11)->∀ r:Fin 12,r.val<p.val->r.val≠0->∃ t:Fin 12,1<=t.val/\t.val<p.val/\r.val*t.val%p.val=1:=by decide +kernel
theorem Hu{n:Ag}(h:P4 p)(hn:n%p≠0):∃ t,1<=t/\t<p/\n*t%p=1:=by
 have p0:0<p/\p<12:=by rcases h with rfl|rfl|rfl|rfl<;>decide
 obtain⟨q,rfl⟩:∃ q:Af,p=q:=⟨p.toNat,by omega⟩
 have h0:=Bg n (b:=(q:Ag)) (by omega)
 have h1:=A6 n p0.1;obtain⟨r,hr⟩:∃ r:Af,n%(q:Ag)=r:=⟨(n%(q:Ag)).toNat,by omega⟩
 obtain⟨t,t1,t2,t3⟩:=aF ⟨q,by omega⟩ (by rcases h with e|e|e|e<;>simp<;>omega) ⟨r,by omega⟩ (by show r<q;omega) (by show r≠0;omega)
 refine⟨(t.val:Ag),by omega,by show (t.val:Ag)<q;exact Int.ofNat_lt.mpr t2,?_⟩
 have e:((r*t.val%q:Af):Ag)=1:=by rw[show r*t.val%q=1 from t3];rfl
 rw[<-e,Int.natCast_emod,Int.natCast_mul,<-hr];exact(Co n _ _).trans (by rw[Co (n%(q:Ag)) (t.val:Ag) (q:Ag),BD n (CW _)])
theorem Dx{r:R D}(h:r=.ok d):Dk Ab r=.ok d:=by rw[h];rfl
def EJ(p n t:Ag):Prop:=1<=t/\t<p/\n*t%p=1
theorem Qc{n u:Ag}(h1:EJ p n t)(h2:EJ p n u):t=u:=by
 have hp:1<p:=by have:=h1.1;have:=h1.2.1;omega
 have e:t%p=u%p:=by
  have a:t%p=t*(n*u)%p:=by rw[Co,h2.2.2,Ug,BD _ (CW p)]
  have b:u%p=(n*t)*u%p:=by rw[Co (n*t) u p,h1.2.2,GN,BD _ (CW p)]
  rw[a,b]
  congr 1
  rw[<-GY,CY t n]
 rw[Be (by have:=h1.1;omega) h1.2.1,Be (by have:=h2.1;omega) h2.2.1]at e
 exact e
theorem D5{c:Ag}(hp:P4 p)(hc:c%p≠0)(hx:x%p≠0):c*x%p≠0:=fun z=>by
 obtain⟨t,_,_,e⟩:=Hu hp hc;refine hx ?_;have e1:x%p=(c*t)*x%p:=by rw[Co (c*t) x p,e,GN,BD _ (CW p)]
 rw[e1,show c*t*x=t*(c*x) by rw[CY c t,GY],Co,z,F8,C5]
noncomputable def Cy(p:Ag):Ad Ag->Am Ag
 |[]=>Ae
 |x::xs=>if x%p=0 then Cy p xs else Aa (x%p)
theorem LM{p:Ag}:∀{xs:Ad Ag},Cy p xs=Ae↔∀ x∈xs,x%p=0
 |[]=>by simp[Cy]
 |x::xs=>by
  unfold Cy;by_cases h:x%p=0
  ·rw[AF h,LM (xs:=xs)];simp[h]
  ·rw[AM h];simp[h]
theorem HR{p l:Ag}(hp:0<p):∀{xs:Ad Ag},Cy p xs=Aa l->l%p≠0/\0<l/\l<p
 |[],h=>by cases h
 |x::xs,h=>by
  unfold Cy at h;by_cases hx:x%p=0
  ·rw[AF hx]at h;exact HR hp h
  ·rw[AM hx]at h;cases h;have h0:=Bg x (b:=p) (by omega)
   have h1:=A6 x hp;exact⟨by rw[BD _ (CW p)];exact hx,by omega,h1⟩
theorem NO{p c:Ag}(hp:P4 p)(hc:c%p≠0){f:Ag->Ag}(hf:∀ x,f x%p=c*x%p):∀ xs:Ad Ag,Cy p (xs.map f)=(Cy p xs).map fun l=>c*l%p
 |[]=>rfl
 |x::xs=>by
  rw[DF];unfold Cy;rw[hf x];by_cases hx:x%p=0
  ·rw[AF hx,AF (by rw[Co,hx,F8,C5]),NO hp hc hf xs]
  ·rw[AM hx,AM (D5 hp hc hx),UK]
   congr 1
   rw[Co c (x%p),BD _ (CW p),<-Co]
noncomputable def ds(xs:Ad Ag):Ad D:=xs.map D.int
noncomputable def Dj(b:An)(xs:Ad Ag):D:=if b=Ab then .tup (ds xs) else .lst (ds xs)
theorem PL(b xs):Cw (Dj b xs)=.ok (ds xs):=by unfold Dj;cases b<;>rfl
theorem J7{g:D->R An}{f:D->R D}{φ:Ag->Ag}:∀(xs:Ad Ag),(∀ x∈xs,g (.int x)=.ok Ab/\f (.int x)=.ok (.int (φ x)))->BV g f (ds xs)=.ok (ds (xs.map φ))
 |[],_=>rfl
 |x::xs,h=>by
  obtain⟨h1,h2⟩:=h x (AL ..);show (g (.int x)).bind _=_;rw[h1,R.bind_ok,AF rfl,h2,R.bind_ok];show (BV g f (ds xs)).bind _=_;rw[J7 xs fun y hy=>h y (AG _ hy)]
  rfl
noncomputable def CF:E:=(.bl Ab)
noncomputable def MY:E:=(.call 1 (.cons (.var 0) (.cons (.var 5) .nil)))
noncomputable def MX:E:=(.call 1 (.cons (.var 0) (.cons (.bin .Mult (.var 4) (.var 6)) .nil)))
noncomputable def Ht:Ss:=(.cons (.ife (.cmp .NotEq (.var 3) (.int 0)) (.cons (.asg 4 Ac (.call 9 (.cons (.var 0) (.cons (.var 3) .nil)))) (.cons (.ret (.bi .tuple (.cons (.comp MX 6 (.e (.var 2)) CF) .nil))) .nil)) .nil) .nil)
noncomputable def LS:Df:=⟨7,Ac,(.cons (.asg 2 Ac (.comp MY 5 (.e (.var 1)) CF)) (.cons (.fors 3 (.e (.var 2)) Ht) (.cons (.rais 3 (.cons (.str (Bx "all the numbers have the rest 0")) .nil)) .nil)))⟩
noncomputable def fmI(p t:Ag)(xs:Ad Ag):Ad Ag:=xs.map fun x=>t*(x%p)%p
section
variable{Γ:Gam}{p:Ag}{xs:Ad Ag}{b:An}
end
theorem No{g:D->R An}{f:D->R D}{q:Ag->An}:∀(xs:Ad Ag),(∀ x∈xs,g (.int x)=.ok (q x)/\f (.int x)=.ok (.int x))->BV g f (ds xs)=.ok (ds (xs.filter q))
 |[],_=>rfl
 |x::xs,h=>by
  obtain⟨h1,h2⟩:=h x (AL ..);have ih:=No xs fun y hy=>h y (AG _ hy)
  show (g (.int x)).bind _=_;rw[h1,R.bind_ok];cases hq:q x with
  |true=>
   rw[AF rfl,h2,R.bind_ok,Hj,hq,AF rfl];show (BV g f (ds xs)).bind _=_;rw[ih];rfl
  |false=>
   rw[AM (by decide),Hj,hq,AM (by decide)]
   exact ih
theorem Po{p:Ag}(hp:0<p):∀(xs:Ad Ag),((xs.map fun x=>x%p).filter fun r=>decide (0<r)).head?=Cy p xs
 |[]=>rfl
 |x::xs=>by
  have h0:=Bg x (b:=p) (by omega)
  unfold Cy;rw[DF,Hj];by_cases h:x%p=0
  ·rw[AF h,AM (by simp[h]),Po hp xs]
  ·rw[AM h,AF (by simp;omega)]
   rfl
theorem Wy{p l t:Ag}(it:EJ p l t):((Gq p).filter fun k=>decide (k*l%p=1)).head?=Aa t:=by
 have hm:t∈(Gq p).filter fun k=>decide (k*l%p=1):=Gb.mpr ⟨Ke.mpr ⟨it.1,it.2.1⟩,by simp[CY t l,it.2.2]⟩
 cases e:(Gq p).filter fun k=>decide (k*l%p=1) with
 |nil=>rw[e]at hm;cases hm
 |cons u us=>
  have hu:u∈(Gq p).filter fun k=>decide (k*l%p=1):=by rw[e];exact AL ..
  obtain⟨h1,h2⟩:=Gb.mp hu;obtain⟨a,b⟩:=Ke.mp h1;have h3:u*l%p=1:=by simpa using h2
  rw[Qc it ⟨a,b,by rw[CY];exact h3⟩]
  rfl
theorem Qe{l:Ag}(h:xs.head?=Aa l):DB (ds xs) 0=.ok (.int l):=by
 cases xs with
 |nil=>cases h
 |cons x xs=>cases h;exact NQ (by omega) rfl
theorem Qk:∀ xs:Ad Ag,G6 (xs.map fun _=>D.bl Ab)=.ok Ab
 |[]=>rfl
 |x::xs=>by
  rw[DF,Ni,Qk xs];rfl
theorem Rl{g:D->R An}{f:D->R D}:∀(xs:Ad Ag),(∀ x∈xs,g (.int x)=.ok Ab/\f (.int x)=.ok (.bl Ab))->BV g f (ds xs)=.ok (xs.map fun _=>D.bl Ab)
 |[],_=>rfl
 |x::xs,h=>by
  obtain⟨h1,h2⟩:=h x (AL ..);show (g (.int x)).bind _=_;rw[h1,R.bind_ok,AF rfl,h2,R.bind_ok];show (BV g f (ds xs)).bind _=_;rw[Rl xs fun y hy=>h y (AG _ hy)]
  rfl
noncomputable abbrev own(xs:Ad Ag):Sl:=Aa (.lst (ds xs),Ab)
section
variable{Γ:Gam}{ns:Ad Ag}{a1 a2 a4 a6 a7 a8 a9 b0 b1 b2 b3 b4:Sl}{p:Ag}
end
section
variable{Γ:Gam}{ns:Ad Ag}{a1 a4 a6 a7 a8 a9 b2 b3 b4:Sl}{p m:Ag}{xs:Ad Ag}
end
def Cg(p x y:Ag):Prop:=x%p=y%p
section
variable{p a b c d:Ag}
theorem Cg.rfl:Cg p a a:=Eq.refl _
theorem Cg.of(h:a=b):Cg p a b:=by unfold Cg;rw[h]
theorem Cg.trans{a b c:Ag}(h:Cg p a b)(g:Cg p b c):Cg p a c:=Eq.trans h g
theorem Cg.symm(h:Cg p a b):Cg p b a:=Eq.symm h
theorem Cg.add(h:Cg p a b)(g:Cg p c d):Cg p (a+c) (b+d):=by unfold Cg at *;rw[Uf,h,g,<-Uf]
theorem Cg.sub(h:Cg p a b)(g:Cg p c d):Cg p (a-c) (b-d):=by unfold Cg at *;rw[Uh,h,g,<-Uh]
theorem Cg.mul(h:Cg p a b)(g:Cg p c d):Cg p (a*c) (b*d):=by unfold Cg at *;rw[Co,h,g,<-Co]
theorem Cg.md(h:a=b%p):Cg p a b:=by unfold Cg;rw[h,BD _ (CW p)]
end
theorem Hw{p a0 a1 a2 b0 b1 b2 c0 c1 c2 x0 x1 x2 y0 y1 y2 z0 z1 z2:Ag}(h0:Cg p a0 x0)(h1:Cg p a1 x1)(h2:Cg p a2 x2)(h3:Cg p b0 y0)(h4:Cg p b1 y1)(h5:Cg p b2 y2)(h6:Cg p c0 z0)(h7:Cg p c1 z1)(h8:Cg p c2 z2):Cg p (a0*(b1*c2-b2*c1)-a1*(b0*c2-b2*c0)+a2*(b0*c1-b1*c0)) (x0*(y1*z2-y2*z1)-x1*(y0*z2-y2*z0)+x2*(y0*z1-y1*z0)):=
 ((h0.mul ((h4.mul h8).sub (h5.mul h7))).sub (h1.mul ((h3.mul h8).sub (h5.mul h6)))).add (h2.mul ((h3.mul h7).sub (h4.mul h6)))
theorem P4.m1(h:P4 p):(-1:Ag)%p≠0:=by rcases h with rfl|rfl|rfl|rfl<;>decide
theorem P4.o1(h:P4 p):(1:Ag)%p≠0:=by rcases h with rfl|rfl|rfl|rfl<;>decide
abbrev R3:=Ag×Ag×Ag
variable{a f0 f1 f2 f3:R3}{pts:Ad R3}
noncomputable def Bl(a:R3):D:=.lst [.int a.1,.int a.2.1,.int a.2.2]
noncomputable def Aw(a b c:R3):Ag:=det a.1 a.2.1 a.2.2 b.1 b.2.1 b.2.2 c.1 c.2.1 c.2.2
def In3(p:Ag)(a:R3):Prop:=(0<=a.1/\a.1<p)/\(0<=a.2.1/\a.2.1<p)/\(0<=a.2.2/\a.2.2<p)
structure GoodR (p:Ag) (a b c:R3):Prop where
 p4:P4 p
 ia:In3 p a
 ib:In3 p b
 ic:In3 p c
 nz:Aw a b c%p≠0
theorem GoodR.of{a b c a' b' c':R3}(h:GoodR p a b c)(hk:k%p≠0)(e:Cg p (Aw a' b' c') (k*Aw a b c))(hin:In3 p a'/\In3 p b'/\In3 p c'):GoodR p a' b' c':=⟨h.p4,hin.1,hin.2.1,hin.2.2,by rw[show Aw a' b' c'%p=_ from e];exact D5 h.p4 hk h.nz⟩
noncomputable def JM(t:Ag)(a:R3):R3:=(a.1*t,a.2.1*t,a.2.2*t)
noncomputable def GL(t:Ag)(a b:R3):R3:=(a.1+t*b.1,a.2.1+t*b.2.1,a.2.2+t*b.2.2)
noncomputable def mdR(p:Ag)(a:R3):R3:=(a.1%p,a.2.1%p,a.2.2%p)
noncomputable def scR(p t:Ag)(a:R3):R3:=mdR p (JM t a)
noncomputable def adR(p t:Ag)(a b:R3):R3:=mdR p (GL t a b)
theorem S9(h:0<p)(a:R3):In3 p (mdR p a):=⟨⟨Bg _ (by omega),A6 _ h⟩,⟨Bg _ (by omega),A6 _ h⟩,⟨Bg _ (by omega),A6 _ h⟩⟩
theorem KB(h:0<p)(t:Ag)(a:R3):In3 p (scR p t a):=S9 h _
theorem KD(h:0<p)(t:Ag)(a b:R3):In3 p (adR p t a b):=S9 h _
theorem TN(p t:Ag)(a b c:R3):Cg p (Aw (scR p t a) b c) (t*Aw a b c):=by
 refine Cg.trans (b:=Aw (JM t a) b c) ?_ (Cg.of (by unfold Aw det JM;grind))
 unfold Aw det;exact Hw (Cg.md (by rfl)) (Cg.md (by rfl)) (Cg.md (by rfl)) Cg.rfl Cg.rfl Cg.rfl Cg.rfl Cg.rfl Cg.rfl
theorem kR(p t:Ag)(a b c:R3):Cg p (Aw (adR p t a b) b c) (1*Aw a b c):=by
 refine Cg.trans (b:=Aw (GL t a b) b c) ?_ (Cg.of (by unfold Aw det GL;grind))
 unfold Aw det;exact Hw (Cg.md (by rfl)) (Cg.md (by rfl)) (Cg.md (by rfl)) Cg.rfl Cg.rfl Cg.rfl Cg.rfl Cg.rfl Cg.rfl
theorem kQ(p t:Ag)(a b c:R3):Cg p (Aw (adR p t a c) b c) (1*Aw a b c):=by
 refine Cg.trans (b:=Aw (GL t a c) b c) ?_ (Cg.of (by unfold Aw det GL;grind))
 unfold Aw det;exact Hw (Cg.md (by rfl)) (Cg.md (by rfl)) (Cg.md (by rfl)) Cg.rfl Cg.rfl Cg.rfl Cg.rfl Cg.rfl Cg.rfl
theorem TM(p t:Ag)(a b c:R3):Cg p (Aw a (scR p t b) c) (t*Aw a b c):=by
 refine Cg.trans (b:=Aw a (JM t b) c) ?_ (Cg.of (by unfold Aw det JM;grind))
 unfold Aw det;exact Hw Cg.rfl Cg.rfl Cg.rfl (Cg.md (by rfl)) (Cg.md (by rfl)) (Cg.md (by rfl)) Cg.rfl Cg.rfl Cg.rfl
theorem lE(p t:Ag)(a b c:R3):Cg p (Aw a (adR p t b a) c) (1*Aw a b c):=by
 refine Cg.trans (b:=Aw a (GL t b a) c) ?_ (Cg.of (by unfold Aw det GL;grind))
 unfold Aw det;exact Hw Cg.rfl Cg.rfl Cg.rfl (Cg.md (by rfl)) (Cg.md (by rfl)) (Cg.md (by rfl)) Cg.rfl Cg.rfl Cg.rfl
theorem lD(p t:Ag)(a b c:R3):Cg p (Aw a (adR p t b c) c) (1*Aw a b c):=by
 refine Cg.trans (b:=Aw a (GL t b c) c) ?_ (Cg.of (by unfold Aw det GL;grind))
 unfold Aw det;exact Hw Cg.rfl Cg.rfl Cg.rfl (Cg.md (by rfl)) (Cg.md (by rfl)) (Cg.md (by rfl)) Cg.rfl Cg.rfl Cg.rfl
theorem TL(p t:Ag)(a b c:R3):Cg p (Aw a b (scR p t c)) (t*Aw a b c):=by
 refine Cg.trans (b:=Aw a b (JM t c)) ?_ (Cg.of (by unfold Aw det JM;grind))
 unfold Aw det;exact Hw Cg.rfl Cg.rfl Cg.rfl Cg.rfl Cg.rfl Cg.rfl (Cg.md (by rfl)) (Cg.md (by rfl)) (Cg.md (by rfl))
theorem lC(p t:Ag)(a b c:R3):Cg p (Aw a b (adR p t c a)) (1*Aw a b c):=by
 refine Cg.trans (b:=Aw a b (GL t c a)) ?_ (Cg.of (by unfold Aw det GL;grind))
 unfold Aw det;exact Hw Cg.rfl Cg.rfl Cg.rfl Cg.rfl Cg.rfl Cg.rfl (Cg.md (by rfl)) (Cg.md (by rfl)) (Cg.md (by rfl))
theorem lA(p t:Ag)(a b c:R3):Cg p (Aw a b (adR p t c b)) (1*Aw a b c):=by
 refine Cg.trans (b:=Aw a b (GL t c b)) ?_ (Cg.of (by unfold Aw det GL;grind))
 unfold Aw det;exact Hw Cg.rfl Cg.rfl Cg.rfl Cg.rfl Cg.rfl Cg.rfl (Cg.md (by rfl)) (Cg.md (by rfl)) (Cg.md (by rfl))/-! ### draws -/
noncomputable def Lp(ns:Ad Ag)(k:Ag):Ag:=if k<ns.length then ns.getD k.toNat 0 else 0
noncomputable def FF(ns:Ad Ag)(k:Ag):Ag:=(Lp ns k%1000003+7919*k+11)*48271%1000033*69621%999983
theorem N5(ns k):0<=FF ns k:=by unfold FF;omega
noncomputable def LC:Df:=⟨3,Ac,(.cons (.asg 2 Ac (.int 0)) (.cons (.ife (.cmp .Lt (.var 1) (.bi .len (.cons (.var 0) .nil))) (.cons (.asg 2 Ac (.idx (.var 0) (.var 1))) .nil) .nil) (.cons (.ret (.bin .Mod (.bin .Mult (.bin .Mod (.bin .Mult (.bin .Add (.bin .Add (.bin .Mod (.var 2) (.int 1000003)) (.bin .Mult (.int 7919) (.var 1))) (.int 11)) (.int 48271)) (.int 1000033)) (.int 69621)) (.int 999983))) .nil)))⟩
def Mj(Γ:Gam):Prop:=∀(ns:Ad Ag)(k:Ag),0<=k->Γ.F 79 [scr ns,.int k]=.ok (.int (FF ns k))
theorem aN{ns:Ad Ag}(h0:0<=k)(h1:k<ns.length):DB (ns.map D.int) k=.ok (.int (ns.getD k.toNat 0)):=NQ h0 (by
 have:k.toNat<ns.length:=by omega
 simp[this])
theorem cN(Γ:Gam)(ns:Ad Ag)(k:Ag)(h0:0<=k):LC.run Γ [scr ns,.int k]=.ok (.int (FF ns k)):=by
 have m1:CP 7919 k=Ab:=G4 (by decide) (by decide)
 have m2:∀ x,CP x 48271=Ab:=fun x=>HV (by decide) (by decide)
 have m3:∀ x,CP x 69621=Ab:=fun x=>HV (by decide) (by decide)
 by_cases h1:k<ns.length
 ·have g:=aN h0 h1;have c:Lp ns k=ns.getD k.toNat 0:=by unfold Lp;rw[AF h1]
  simp at g c;simp[LC,Df.run,Bp,h1,g,m1,m2,m3,FF,c]
 ·have c:Lp ns k=0:=by unfold Lp;rw[AM h1]
  simp[LC,Df.run,Bp,h1,m1,m2,m3,FF,c]
noncomputable def MV:Df:=⟨1,Ac,(.cons (.ret (.idx (.lst (.cons (.int 3) (.cons (.int 5) (.cons (.int 7) (.cons (.int 11) .nil))))) (.bin .Mod (.call 79 (.cons (.var 0) (.cons (.int 0) .nil))) (.int 4)))) .nil)⟩
theorem Xj(h:Mj Γ)(ns:Ad Ag):MV.run Γ [scr ns]=.ok (.int (pr4 (FF ns 0))):=by
 simp[MV,Df.run,Bp,h ns 0 (by decide),XV]
noncomputable def LJ:E:=(.bin .Mod (.bin .Mult (.var 13) (.var 9)) (.var 1))
noncomputable def MZ:E:=(.bin .Mod (.bin .Add (.idx (.var 11) (.var 14)) (.bin .Mult (.var 9) (.idx (.var 12) (.var 14)))) (.var 1))
noncomputable def EA:Ss:=(.cons (.asg 6 Ac (.call 79 (.cons (.var 0) (.cons (.bin .Add (.var 2) (.var 5)) .nil)))) (.cons (.asg 7 Ac (.bin .Mod (.var 6) (.int 3))) (.cons (.asg 8 Ac (.bin .Mod (.bin .Add (.bin .Add (.var 7) (.int 1)) (.bin .Mod (.bin .FloorDiv (.var 6) (.int 3)) (.int 2))) (.int 3))) (.cons (.asg 9 Ac (.bin .Add (.int 1) (.bin .Mod (.bin .FloorDiv (.var 6) (.int 6)) (.bin .Sub (.var 1) (.int 1))))) (.cons (.ife (.cmp .Eq (.bin .Mod (.bin .FloorDiv (.var 6) (.int 66)) (.int 3)) (.int 0)) (.cons (.asg 10 Ac (.idx (.var 4) (.var 7))) (.cons (.put 4 (.var 7) (.idx (.var 4) (.var 8))) (.cons (.put 4 (.var 8) (.var 10)) .nil))) (.cons (.ife (.cmp .Eq (.bin .Mod (.bin .FloorDiv (.var 6) (.int 66)) (.int 9)) (.int 1)) (.cons (.put 4 (.var 7) (.comp LJ 13 (.e (.idx (.var 4) (.var 7))) CF)) .nil) (.cons (.asg 11 Ac (.idx (.var 4) (.var 7))) (.cons (.asg 12 Ac (.idx (.var 4) (.var 8))) (.cons (.put 4 (.var 7) (.comp MZ 14 (.rng (.int 3)) CF)) .nil)))) .nil)) .nil)))))
noncomputable def Nh:Df:=⟨15,Ab,(.cons (.asg 4 Ab (.lst (.cons (.lst (.cons (.int 1) (.cons (.int 0) (.cons (.int 0) .nil)))) (.cons (.lst (.cons (.int 0) (.cons (.int 1) (.cons (.int 0) .nil)))) (.cons (.lst (.cons (.int 0) (.cons (.int 0) (.cons (.int 1) .nil)))) .nil))))) (.cons (.fors 5 (.rng (.var 3)) EA) (.cons (.ret (.var 4)) .nil)))⟩
noncomputable abbrev ownR(a b c:R3):Sl:=Aa (.lst [Bl a,Bl b,Bl c],Ab)
section
variable{Γ:Gam}{ns:Ad Ag}{at_ many s5 s0 s1 s2:Sl}{p t m:Ag}{a b c:R3}
theorem kS(r:R3)(e1:BF ρ 9=.ok (.int t))(e2:BF ρ 1=.ok (.int p))(hl:13<ρ.length)(hp:0<p)(mt:∀ x,CP x t=Ab):BV (cG Γ ρ 13 CF) (cF Γ ρ 13 LJ) [.int r.1,.int r.2.1,.int r.2.2]=.ok [.int (scR p t r).1,.int (scR p t r).2.1,.int (scR p t r).2.2]:=by
 have key:∀ x:Ag,cF Γ ρ 13 LJ (.int x)=.ok (.int (x*t%p)):=fun x=>by
  have v13:BF (ρ.set 13 (Aa (.int x,Ac))) 13=.ok (.int x):=by unfold BF;rw[Cf hl]
  have v9:BF (ρ.set 13 (Aa (.int x,Ac))) 9=.ok (.int t):=by unfold BF at e1 ⊢;rw[Cb (by decide)];exact e1
  have v1:BF (ρ.set 13 (Aa (.int x,Ac))) 1=.ok (.int p):=by unfold BF at e2 ⊢;rw[Cb (by decide)];exact e2
  show (((BF (ρ.set 13 (Aa (.int x,Ac))) 13).bind fun y=>(BF (ρ.set 13 (Aa (.int x,Ac))) 9).bind fun z=>CS .Mult y z).bind fun y=>(BF (ρ.set 13 (Aa (.int x,Ac))) 1).bind fun z=>CS .Mod y z)=_
  rw[v13,v9,v1];simp[mt,hp]
 have:=J7 (g:=cG Γ ρ 13 CF) (f:=cF Γ ρ 13 LJ) (φ:=fun x=>x*t%p) [r.1,r.2.1,r.2.2] fun x _=>⟨rfl,key x⟩
 exact this
theorem kT(r q:R3)(e9:BF ρ 9=.ok (.int t))(e1:BF ρ 1=.ok (.int p))(e11:BF ρ 11=.ok (Bl r))(e12:BF ρ 12=.ok (Bl q))(hl:14<ρ.length)(hp:0<p)(mt:∀ x,CP t x=Ab):BV (cG Γ ρ 14 CF) (cF Γ ρ 14 MZ) [.int 0,.int 1,.int 2]=.ok [.int (adR p t r q).1,.int (adR p t r q).2.1,.int (adR p t r q).2.2]:=by
 have key:∀(k:Ag)(x y:Ag),DB [.int r.1,.int r.2.1,.int r.2.2] k=.ok (.int x)->DB [.int q.1,.int q.2.1,.int q.2.2] k=.ok (.int y)->cF Γ ρ 14 MZ (.int k)=.ok (.int ((x+t*y)%p)):=fun k x y hx hy=>by
  have v14:BF (ρ.set 14 (Aa (.int k,Ac))) 14=.ok (.int k):=by unfold BF;rw[Cf hl]
  have v9:BF (ρ.set 14 (Aa (.int k,Ac))) 9=.ok (.int t):=by unfold BF at e9 ⊢;rw[Cb (by decide)];exact e9
  have v1:BF (ρ.set 14 (Aa (.int k,Ac))) 1=.ok (.int p):=by unfold BF at e1 ⊢;rw[Cb (by decide)];exact e1
  have v11:BF (ρ.set 14 (Aa (.int k,Ac))) 11=.ok (Bl r):=by unfold BF at e11 ⊢;rw[Cb (by decide)];exact e11
  have v12:BF (ρ.set 14 (Aa (.int k,Ac))) 12=.ok (Bl q):=by unfold BF at e12 ⊢;rw[Cb (by decide)];exact e12
  show ((((BF (ρ.set 14 (Aa (.int k,Ac))) 11).bind fun y=>(BF (ρ.set 14 (Aa (.int k,Ac))) 14).bind fun z=>DA y z).bind fun u=>((BF (ρ.set 14 (Aa (.int k,Ac))) 9).bind fun y=>((BF (ρ.set 14 (Aa (.int k,Ac))) 12).bind fun y=>(BF (ρ.set 14 (Aa (.int k,Ac))) 14).bind fun z=>DA y z).bind fun z=>CS .Mult y z).bind fun v=>CS .Add u v).bind fun y=>(BF (ρ.set 14 (Aa (.int k,Ac))) 1).bind fun z=>CS .Mod y z)=_
  rw[v14,v9,v1,v11,v12];simp[Bl,hx,hy,mt,hp]
 have g:∀ x,cG Γ ρ 14 CF x=.ok Ab:=fun _=>rfl
 simp[BV,g,key 0 r.1 q.1 rfl rfl,key 1 r.2.1 q.2.1 rfl rfl,key 2 r.2.2 q.2.2 rfl rfl];exact⟨rfl,rfl,rfl⟩
theorem Km{i j:Ag}{i' j':Af}{x y:R3}(hi:DB L i=.ok (Bl x))(hj:DB L j=.ok (Bl y))(pi:plD L.length i=Aa i')(pj:plD L.length j=Aa j')(p0:0<p)(mt:∀ x,CP x t=Ab)(mt2:∀ x,CP t x=Ab):(m /66%3=0->evSs Γ [sh (scr ns),si p,at_,many,Aa (.lst L,Ab),s5,si m,si i,si j,si t,s0,s1,s2,Ae,Ae] (EA.drop 4)=.next [sh (scr ns),si p,at_,many,Aa (.lst ((L.set i' (Bl y)).set j' (Bl x)),Ab),s5,si m,si i,si j,si t,sh (Bl x),s1,s2,Ae,Ae])/\(¬ m /66%3=0->m /66%9=1->evSs Γ [sh (scr ns),si p,at_,many,Aa (.lst L,Ab),s5,si m,si i,si j,si t,s0,s1,s2,Ae,Ae] (EA.drop 4)=.next [sh (scr ns),si p,at_,many,Aa (.lst (L.set i' (Bl (scR p t x))),Ab),s5,si m,si i,si j,si t,s0,s1,s2,Ae,Ae])/\(¬ m /66%3=0->¬ m /66%9=1->evSs Γ [sh (scr ns),si p,at_,many,Aa (.lst L,Ab),s5,si m,si i,si j,si t,s0,s1,s2,Ae,Ae] (EA.drop 4)=.next [sh (scr ns),si p,at_,many,Aa (.lst (L.set i' (Bl (adR p t x y))),Ab),s5,si m,si i,si j,si t,s0,sh (Bl x),sh (Bl y),Ae,Ae]):=by
 refine⟨fun k0=>?_,fun k0 k1=>?_,fun k0 k1=>?_⟩
 ·simp[EA,Ss.drop,k0,NY,D6,hi,hj,pi,pj]
 ·have cp:=kS (Γ:=Γ) (ρ:=[sh (scr ns),si p,at_,many,Aa (.lst L,Ab),s5,si m,si i,si j,si t,s0,s1,s2,Ae,Ae]) x rfl rfl (by simp) p0 mt
  rw[Bl]at hi;simp[EA,Ss.drop,k0,k1,NY,D6,hi,pi,cp];rfl
 ·have cp:=kT (Γ:=Γ) (ρ:=[sh (scr ns),si p,at_,many,Aa (.lst L,Ab),s5,si m,si i,si j,si t,s0,sh (Bl x),sh (Bl y),Ae,Ae]) x y rfl rfl rfl rfl (by simp) p0 mt2
  simp[EA,Ss.drop,k0,k1,NY,D6,hi,hj,pi,P7 (hi:=3) (by decide) (by decide),mB,cp]
  rfl
theorem iC(h:GoodR p a b c)(ht:0<t/\t<p):∃ a' b' c' u0 u1 u2,GoodR p a' b' c'/\evSs Γ [sh (scr ns),si p,at_,many,ownR a b c,s5,si m,si 0,si 1,si t,s0,s1,s2,Ae,Ae] (EA.drop 4)=.next [sh (scr ns),si p,at_,many,ownR a' b' c',s5,si m,si 0,si 1,si t,u0,u1,u2,Ae,Ae]:=by
 have p0:=h.p4.pos;have mt:∀ x,CP x t=Ab:=fun x=>HV (by have:=h.p4.hi;omega) (by have:=h.p4.hi;omega)
 have mt2:∀ x,CP t x=Ab:=fun x=>G4 (by have:=h.p4.hi;omega) (by have:=h.p4.hi;omega)
 have g:=Km (Γ:=Γ) (ns:=ns) (m:=m) (at_:=at_) (many:=many) (s5:=s5) (s0:=s0) (s1:=s1) (s2:=s2) (L:=[Bl a,Bl b,Bl c]) (i:=0) (j:=1) (i':=0) (j':=1) (x:=a) (y:=b) rfl rfl rfl rfl p0 mt mt2;by_cases k0:m / 66%3=0
 ·refine⟨b,a,c,sh (Bl a),s1,s2,?_,?_⟩
  ·exact h.of (k:=-1) h.p4.m1 (Cg.of (by unfold Aw det;grind)) ⟨h.ib,h.ia,h.ic⟩
  ·exact g.1 k0
 ·by_cases k1:m / 66%9=1
  ·refine⟨(scR p t a),b,c,s0,s1,s2,?_,?_⟩
   ·exact h.of (k:=t) (by rw[Be (by omega) ht.2];omega) (TN p t a b c) ⟨KB p0 _ _,h.ib,h.ic⟩
   ·exact g.2.1 k0 k1
  ·refine⟨(adR p t a b),b,c,s0,sh (Bl a),sh (Bl b),?_,?_⟩
   ·exact h.of (k:=1) h.p4.o1 (kR p t a b c) ⟨KD p0 _ _ _,h.ib,h.ic⟩
   ·exact g.2.2 k0 k1
theorem iB(h:GoodR p a b c)(ht:0<t/\t<p):∃ a' b' c' u0 u1 u2,GoodR p a' b' c'/\evSs Γ [sh (scr ns),si p,at_,many,ownR a b c,s5,si m,si 0,si 2,si t,s0,s1,s2,Ae,Ae] (EA.drop 4)=.next [sh (scr ns),si p,at_,many,ownR a' b' c',s5,si m,si 0,si 2,si t,u0,u1,u2,Ae,Ae]:=by
 have p0:=h.p4.pos;have mt:∀ x,CP x t=Ab:=fun x=>HV (by have:=h.p4.hi;omega) (by have:=h.p4.hi;omega)
 have mt2:∀ x,CP t x=Ab:=fun x=>G4 (by have:=h.p4.hi;omega) (by have:=h.p4.hi;omega)
 have g:=Km (Γ:=Γ) (ns:=ns) (m:=m) (at_:=at_) (many:=many) (s5:=s5) (s0:=s0) (s1:=s1) (s2:=s2) (L:=[Bl a,Bl b,Bl c]) (i:=0) (j:=2) (i':=0) (j':=2) (x:=a) (y:=c) rfl rfl rfl rfl p0 mt mt2;by_cases k0:m / 66%3=0
 ·refine⟨c,b,a,sh (Bl a),s1,s2,?_,?_⟩
  ·exact h.of (k:=-1) h.p4.m1 (Cg.of (by unfold Aw det;grind)) ⟨h.ic,h.ib,h.ia⟩
  ·exact g.1 k0
 ·by_cases k1:m / 66%9=1
  ·refine⟨(scR p t a),b,c,s0,s1,s2,?_,?_⟩
   ·exact h.of (k:=t) (by rw[Be (by omega) ht.2];omega) (TN p t a b c) ⟨KB p0 _ _,h.ib,h.ic⟩
   ·exact g.2.1 k0 k1
  ·refine⟨(adR p t a c),b,c,s0,sh (Bl a),sh (Bl c),?_,?_⟩
   ·exact h.of (k:=1) h.p4.o1 (kQ p t a b c) ⟨KD p0 _ _ _,h.ib,h.ic⟩
   ·exact g.2.2 k0 k1
theorem iA(h:GoodR p a b c)(ht:0<t/\t<p):∃ a' b' c' u0 u1 u2,GoodR p a' b' c'/\evSs Γ [sh (scr ns),si p,at_,many,ownR a b c,s5,si m,si 1,si 0,si t,s0,s1,s2,Ae,Ae] (EA.drop 4)=.next [sh (scr ns),si p,at_,many,ownR a' b' c',s5,si m,si 1,si 0,si t,u0,u1,u2,Ae,Ae]:=by
 have p0:=h.p4.pos;have mt:∀ x,CP x t=Ab:=fun x=>HV (by have:=h.p4.hi;omega) (by have:=h.p4.hi;omega)
 have mt2:∀ x,CP t x=Ab:=fun x=>G4 (by have:=h.p4.hi;omega) (by have:=h.p4.hi;omega)
 have g:=Km (Γ:=Γ) (ns:=ns) (m:=m) (at_:=at_) (many:=many) (s5:=s5) (s0:=s0) (s1:=s1) (s2:=s2) (L:=[Bl a,Bl b,Bl c]) (i:=1) (j:=0) (i':=1) (j':=0) (x:=b) (y:=a) rfl rfl rfl rfl p0 mt mt2;by_cases k0:m / 66%3=0
 ·refine⟨b,a,c,sh (Bl b),s1,s2,?_,?_⟩
  ·exact h.of (k:=-1) h.p4.m1 (Cg.of (by unfold Aw det;grind)) ⟨h.ib,h.ia,h.ic⟩
  ·exact g.1 k0
 ·by_cases k1:m / 66%9=1
  ·refine⟨a,(scR p t b),c,s0,s1,s2,?_,?_⟩
   ·exact h.of (k:=t) (by rw[Be (by omega) ht.2];omega) (TM p t a b c) ⟨h.ia,KB p0 _ _,h.ic⟩
   ·exact g.2.1 k0 k1
  ·refine⟨a,(adR p t b a),c,s0,sh (Bl b),sh (Bl a),?_,?_⟩
   ·exact h.of (k:=1) h.p4.o1 (lE p t a b c) ⟨h.ia,KD p0 _ _ _,h.ic⟩
   ·exact g.2.2 k0 k1
theorem hZ(h:GoodR p a b c)(ht:0<t/\t<p):∃ a' b' c' u0 u1 u2,GoodR p a' b' c'/\evSs Γ [sh (scr ns),si p,at_,many,ownR a b c,s5,si m,si 1,si 2,si t,s0,s1,s2,Ae,Ae] (EA.drop 4)=.next [sh (scr ns),si p,at_,many,ownR a' b' c',s5,si m,si 1,si 2,si t,u0,u1,u2,Ae,Ae]:=by
 have p0:=h.p4.pos;have mt:∀ x,CP x t=Ab:=fun x=>HV (by have:=h.p4.hi;omega) (by have:=h.p4.hi;omega)
 have mt2:∀ x,CP t x=Ab:=fun x=>G4 (by have:=h.p4.hi;omega) (by have:=h.p4.hi;omega)
 have g:=Km (Γ:=Γ) (ns:=ns) (m:=m) (at_:=at_) (many:=many) (s5:=s5) (s0:=s0) (s1:=s1) (s2:=s2) (L:=[Bl a,Bl b,Bl c]) (i:=1) (j:=2) (i':=1) (j':=2) (x:=b) (y:=c) rfl rfl rfl rfl p0 mt mt2;by_cases k0:m / 66%3=0
 ·refine⟨a,c,b,sh (Bl b),s1,s2,?_,?_⟩
  ·exact h.of (k:=-1) h.p4.m1 (Cg.of (by unfold Aw det;grind)) ⟨h.ia,h.ic,h.ib⟩
  ·exact g.1 k0
 ·by_cases k1:m / 66%9=1
  ·refine⟨a,(scR p t b),c,s0,s1,s2,?_,?_⟩
   ·exact h.of (k:=t) (by rw[Be (by omega) ht.2];omega) (TM p t a b c) ⟨h.ia,KB p0 _ _,h.ic⟩
   ·exact g.2.1 k0 k1
  ·refine⟨a,(adR p t b c),c,s0,sh (Bl b),sh (Bl c),?_,?_⟩
   ·exact h.of (k:=1) h.p4.o1 (lD p t a b c) ⟨h.ia,KD p0 _ _ _,h.ic⟩
   ·exact g.2.2 k0 k1
theorem hV(h:GoodR p a b c)(ht:0<t/\t<p):∃ a' b' c' u0 u1 u2,GoodR p a' b' c'/\evSs Γ [sh (scr ns),si p,at_,many,ownR a b c,s5,si m,si 2,si 0,si t,s0,s1,s2,Ae,Ae] (EA.drop 4)=.next [sh (scr ns),si p,at_,many,ownR a' b' c',s5,si m,si 2,si 0,si t,u0,u1,u2,Ae,Ae]:=by
 have p0:=h.p4.pos;have mt:∀ x,CP x t=Ab:=fun x=>HV (by have:=h.p4.hi;omega) (by have:=h.p4.hi;omega)
 have mt2:∀ x,CP t x=Ab:=fun x=>G4 (by have:=h.p4.hi;omega) (by have:=h.p4.hi;omega)
 have g:=Km (Γ:=Γ) (ns:=ns) (m:=m) (at_:=at_) (many:=many) (s5:=s5) (s0:=s0) (s1:=s1) (s2:=s2) (L:=[Bl a,Bl b,Bl c]) (i:=2) (j:=0) (i':=2) (j':=0) (x:=c) (y:=a) rfl rfl rfl rfl p0 mt mt2;by_cases k0:m / 66%3=0
 ·refine⟨c,b,a,sh (Bl c),s1,s2,?_,?_⟩
  ·exact h.of (k:=-1) h.p4.m1 (Cg.of (by unfold Aw det;grind)) ⟨h.ic,h.ib,h.ia⟩
  ·exact g.1 k0
 ·by_cases k1:m / 66%9=1
  ·refine⟨a,b,(scR p t c),s0,s1,s2,?_,?_⟩
   ·exact h.of (k:=t) (by rw[Be (by omega) ht.2];omega) (TL p t a b c) ⟨h.ia,h.ib,KB p0 _ _⟩
   ·exact g.2.1 k0 k1
  ·refine⟨a,b,(adR p t c a),s0,sh (Bl c),sh (Bl a),?_,?_⟩
   ·exact h.of (k:=1) h.p4.o1 (lC p t a b c) ⟨h.ia,h.ib,KD p0 _ _ _⟩
   ·exact g.2.2 k0 k1
theorem hU(h:GoodR p a b c)(ht:0<t/\t<p):∃ a' b' c' u0 u1 u2,GoodR p a' b' c'/\evSs Γ [sh (scr ns),si p,at_,many,ownR a b c,s5,si m,si 2,si 1,si t,s0,s1,s2,Ae,Ae] (EA.drop 4)=.next [sh (scr ns),si p,at_,many,ownR a' b' c',s5,si m,si 2,si 1,si t,u0,u1,u2,Ae,Ae]:=by
 have p0:=h.p4.pos;have mt:∀ x,CP x t=Ab:=fun x=>HV (by have:=h.p4.hi;omega) (by have:=h.p4.hi;omega)
 have mt2:∀ x,CP t x=Ab:=fun x=>G4 (by have:=h.p4.hi;omega) (by have:=h.p4.hi;omega)
 have g:=Km (Γ:=Γ) (ns:=ns) (m:=m) (at_:=at_) (many:=many) (s5:=s5) (s0:=s0) (s1:=s1) (s2:=s2) (L:=[Bl a,Bl b,Bl c]) (i:=2) (j:=1) (i':=2) (j':=1) (x:=c) (y:=b) rfl rfl rfl rfl p0 mt mt2;by_cases k0:m / 66%3=0
 ·refine⟨a,c,b,sh (Bl c),s1,s2,?_,?_⟩
  ·exact h.of (k:=-1) h.p4.m1 (Cg.of (by unfold Aw det;grind)) ⟨h.ia,h.ic,h.ib⟩
  ·exact g.1 k0
 ·by_cases k1:m / 66%9=1
  ·refine⟨a,b,(scR p t c),s0,s1,s2,?_,?_⟩
   ·exact h.of (k:=t) (by rw[Be (by omega) ht.2];omega) (TL p t a b c) ⟨h.ia,h.ib,KB p0 _ _⟩
   ·exact g.2.1 k0 k1
  ·refine⟨a,b,(adR p t c b),s0,sh (Bl c),sh (Bl b),?_,?_⟩
   ·exact h.of (k:=1) h.p4.o1 (lA p t a b c) ⟨h.ia,h.ib,KD p0 _ _ _⟩
   ·exact g.2.2 k0 k1
end
section
variable{Γ:Gam}{ns:Ad Ag}{many s5 s6 s7 s8 s9 s0 s1 s2:Sl}{p:Ag}{a b c:R3}
theorem Wk(hm:Mj Γ)(h:GoodR p a b c){at_:Ag}(ha:0<=at_)(hk:0<=k):∃ a' b' c' v6 v7 v8 v9 v0 v1 v2,GoodR p a' b' c'/\BZ Γ 5 EA (.int k) [sh (scr ns),si p,si at_,many,ownR a b c,s5,s6,s7,s8,s9,s0,s1,s2,Ae,Ae]=.next [sh (scr ns),si p,si at_,many,ownR a' b' c',si k,v6,v7,v8,v9,v0,v1,v2,Ae,Ae]:=by
 have p0:=h.p4.pos;have pl:=h.p4.lo;have e0:=hm ns (at_+k) (by omega)
 have m0:=N5 ns (at_+k);generalize FF ns (at_+k)=m at e0 m0;have q1:0<p-1:=by omega
 have q2:1<p:=by omega
 have t0:0<1+m / 6%(p-1):=by have:=Bg (m / 6) (b:=p-1) (by omega);omega
 have t1:1+m / 6%(p-1)<p:=by have:=A6 (m / 6) q1;omega
 generalize ht:1+m / 6%(p-1)=t at t0 t1;generalize hi:m%3=i;generalize hj:(i+1+m / 3%2)%3=j;have hd:evSs Γ [sh (scr ns),si p,si at_,many,ownR a b c,si k,s6,s7,s8,s9,s0,s1,s2,Ae,Ae] (EA.take 4)=.next [sh (scr ns),si p,si at_,many,ownR a b c,si k,si m,si i,si j,si t,s0,s1,s2,Ae,Ae]:=by
  simp[EA,Ss.take,e0,hi,hj,q1,q2,ht]
 have ij:(i=0/\j=1)\/(i=0/\j=2)\/(i=1/\j=0)\/(i=1/\j=2)\/(i=2/\j=0)\/(i=2/\j=1):=by omega
 have tl:∃ a' b' c' u0 u1 u2,GoodR p a' b' c'/\evSs Γ [sh (scr ns),si p,si at_,many,ownR a b c,si k,si m,si i,si j,si t,s0,s1,s2,Ae,Ae] (EA.drop 4)=.next [sh (scr ns),si p,si at_,many,ownR a' b' c',si k,si m,si i,si j,si t,u0,u1,u2,Ae,Ae]:=by
  rcases ij with ⟨rfl,rfl⟩|⟨rfl,rfl⟩|⟨rfl,rfl⟩|⟨rfl,rfl⟩|⟨rfl,rfl⟩|⟨rfl,rfl⟩
  ·exact iC h ⟨t0,t1⟩
  ·exact iB h ⟨t0,t1⟩
  ·exact iA h ⟨t0,t1⟩
  ·exact hZ h ⟨t0,t1⟩
  ·exact hV h ⟨t0,t1⟩
  ·exact hU h ⟨t0,t1⟩
 obtain⟨a',b',c',u0,u1,u2,g,e⟩:=tl;refine⟨a',b',c',si m,si i,si j,si t,u0,u1,u2,g,?_⟩;unfold BZ;rw[QA Γ 4];have hd':evSs Γ (List.set [sh (scr ns),si p,si at_,many,ownR a b c,s5,s6,s7,s8,s9,s0,s1,s2,Ae,Ae] 5 (Aa (.int k,Ac))) (EA.take 4)=.next [sh (scr ns),si p,si at_,many,ownR a b c,si k,si m,si i,si j,si t,s0,s1,s2,Ae,Ae]:=hd;rw[hd'];exact e
end
noncomputable def Gp(a b c:R3):D:=.lst [Bl a,Bl b,Bl c]
theorem RF(hm:Mj Γ)(ns:Ad Ag)(p at_ n:Ag)(hp:P4 p)(ha:0<=at_)(n0:0<=n)(n1:n<=24):∃ a b c,GoodR p a b c/\Nh.run Γ [scr ns,.int p,.int at_,.int n]=.ok (Gp a b c):=by
 have p1:=hp.lo;have g0:GoodR p (1,0,0) (0,1,0) (0,0,1):=by
  refine⟨hp,⟨⟨by decide,by show (1:Ag)<p;omega⟩,⟨by decide,by show (0:Ag)<p;omega⟩,⟨by decide,by show (0:Ag)<p;omega⟩⟩,⟨⟨by decide,by show (0:Ag)<p;omega⟩,⟨by decide,by show (1:Ag)<p;omega⟩,⟨by decide,by show (0:Ag)<p;omega⟩⟩,⟨⟨by decide,by show (0:Ag)<p;omega⟩,⟨by decide,by show (0:Ag)<p;omega⟩,⟨by decide,by show (1:Ag)<p;omega⟩⟩,?_⟩
  show (1:Ag)%p≠0;exact hp.o1
 obtain⟨ρ',e,a,b,c,s5,s6,s7,s8,s9,s0,s1,s2,g,rfl⟩:=Qy (body:=BZ Γ 5 EA) (fun ρ=>∃ a b c s5 s6 s7 s8 s9 s0 s1 s2,GoodR p a b c/\ρ=[sh (scr ns),si p,si at_,si n,ownR a b c,s5,s6,s7,s8,s9,s0,s1,s2,Ae,Ae]) (F0 0 n.toNat)
  [sh (scr ns),si p,si at_,si n,ownR (1,0,0) (0,1,0) (0,0,1),Ae,Ae,Ae,Ae,Ae,Ae,Ae,Ae,Ae,Ae] ⟨_,_,_,_,_,_,_,_,_,_,_,g0,rfl⟩ (by
   rintro x hx ρ ⟨a,b,c,s5,s6,s7,s8,s9,s0,s1,s2,g,rfl⟩;obtain⟨k,_,rfl⟩:=WZ hx;obtain⟨a',b',c',v6,v7,v8,v9,v0,v1,v2,g',q⟩:=Wk (Γ:=Γ) (ns:=ns) (many:=si n) (s5:=s5) (s6:=s6) (s7:=s7) (s8:=s8) (s9:=s9) (s0:=s0) (s1:=s1) (s2:=s2) hm g (k:=0+(k:Ag)) ha (by omega)
   exact⟨_,q,a',b',c',_,_,_,_,_,_,_,_,g',rfl⟩)
 refine⟨a,b,c,g,?_⟩;have e':Dq (BZ Γ 5 EA) (F0 0 n.toNat) [sh (scr ns),si p,si at_,si n,Aa (.lst [.lst [.int 1,.int 0,.int 0],.lst [.int 0,.int 1,.int 0],.lst [.int 0,.int 0,.int 1]],Ab),Ae,Ae,Ae,Ae,Ae,Ae,Ae,Ae,Ae,Ae]=_:=e;simp[Nh,Df.run,Bp,P7 n0 (by omega),EY,e',isL]
 rfl
noncomputable def M9:E:=(.bin .Mod (.var 5) (.var 0))
noncomputable def M5:E:=(.cmp .Gt (.var 6) (.int 0))
noncomputable def M8:E:=(.var 6)
noncomputable def M4:E:=(.cmp .Eq (.bin .Mod (.bin .Mult (.var 7) (.var 3)) (.var 0)) (.int 1))
noncomputable def M7:E:=(.var 7)
noncomputable def M6:E:=(.bin .Mod (.bin .Mult (.var 8) (.var 4)) (.var 0))
noncomputable def M0:Df:=⟨9,Ac,(.cons (.asg 2 Ac (.comp M9 5 (.e (.var 1)) CF)) (.cons (.asg 3 Ac (.idx (.comp M8 6 (.e (.var 2)) M5) (.int 0))) (.cons (.asg 4 Ac (.idx (.comp M7 7 (.rng2 (.int 1) (.var 0)) M4) (.int 0))) (.cons (.ret (.bi .tuple (.cons (.comp M6 8 (.e (.var 2)) CF) .nil))) .nil))))⟩
def Lb(Γ:Gam):Prop:=∀(p:Ag)(b:An)(xs:Ad Ag)(l t:Ag),P4 p->Cy p xs=Aa l->EJ p l t->Γ.F 82 [.int p,Dj b xs]=.ok (.tup (ds (fmI p t xs)))
theorem ZB(Γ:Gam){b:An}{l t:Ag}(hp:P4 p)(e:Cy p xs=Aa l)(it:EJ p l t):M0.run Γ [.int p,Dj b xs]=.ok (.tup (ds (fmI p t xs))):=by
 have p0:=hp.pos;have ph:=hp.hi;have c1:BV (cG Γ [si p,sh (Dj b xs),Ae,Ae,Ae,Ae,Ae,Ae,Ae] 5 CF) (cF Γ [si p,sh (Dj b xs),Ae,Ae,Ae,Ae,Ae,Ae,Ae] 5 M9) (ds xs)=.ok (ds (xs.map fun x=>x%p)):=by
  refine J7 xs fun x _=>⟨rfl,?_⟩
  simp[cF,M9,p0]
 generalize hR:(xs.map fun x=>x%p)=rs at c1
 have c2:BV (cG Γ [si p,sh (Dj b xs),sh (.lst (ds rs)),Ae,Ae,Ae,Ae,Ae,Ae] 6 M5) (cF Γ [si p,sh (Dj b xs),sh (.lst (ds rs)),Ae,Ae,Ae,Ae,Ae,Ae] 6 M8) (ds rs)=.ok (ds (rs.filter fun r=>decide (0<r))):=by
  refine No rs fun x _=>⟨?_,?_⟩
  ·simp[cG,M5]
  ·simp[cF,M8]
 have hl:=Po p0 xs;rw[hR,e]at hl;generalize hL:(rs.filter fun r=>decide (0<r))=ls at c2 hl
 have g0:=Qe hl;obtain⟨_,l0,l1⟩:=HR p0 e;have c3:BV (cG Γ [si p,sh (Dj b xs),sh (.lst (ds rs)),si l,Ae,Ae,Ae,Ae,Ae] 7 M4) (cF Γ [si p,sh (Dj b xs),sh (.lst (ds rs)),si l,Ae,Ae,Ae,Ae,Ae] 7 M7) (ds (Gq p))=.ok (ds ((Gq p).filter fun k=>decide (k*l%p=1))):=by
  refine No (Gq p) fun x hx=>⟨?_,?_⟩
  ·obtain⟨x1,x2⟩:=Ke.mp hx;have m:CP x l=Ab:=G4 (by omega) (by omega)
   simp[cG,M4,m,p0];rw[E1];simp
  ·simp[cF,M7]
 have g1:=Qe (Wy it);have c4:BV (cG Γ [si p,sh (Dj b xs),sh (.lst (ds rs)),si l,si t,Ae,Ae,Ae,Ae] 8 CF) (cF Γ [si p,sh (Dj b xs),sh (.lst (ds rs)),si l,si t,Ae,Ae,Ae,Ae] 8 M6) (ds rs)=.ok (ds (rs.map fun r=>t*r%p)):=by
  refine J7 rs fun x _=>⟨rfl,?_⟩
  have m:CP x t=Ab:=HV (by have:=it.1;omega) (by have:=it.2.1;omega)
  simp[cF,M6,m,p0,CY]
 have ru:DJ 1 p=.ok (ds (Gq p)):=Qm hp;have fe:fmI p t xs=rs.map fun r=>t*r%p:=by rw[<-hR];simp[fmI,Hl,G8]
 simp[M0,Df.run,Bp,PL,c1,c2,g0,ru,c3,g1,c4,fe]
noncomputable def nine(a b c:R3):Ad Ag:=[a.1,a.2.1,a.2.2,b.1,b.2.1,b.2.2,c.1,c.2.1,c.2.2]
noncomputable def trR(a:R3):D:=.tup [.int a.1,.int a.2.1,.int a.2.2]
noncomputable def BJ(a b c:R3):D:=.tup [trR a,trR b,trR c]
noncomputable def fmR(p t:Ag)(a:R3):R3:=(t*(a.1%p)%p,t*(a.2.1%p)%p,t*(a.2.2%p)%p)
theorem Ri(p t:Ag)(a b c:R3):fmI p t (nine a b c)=nine (fmR p t a) (fmR p t b) (fmR p t c):=rfl
theorem K1{a b c:R3}(h:Aw a b c%p≠0):∃ l,Cy p (nine a b c)=Aa l:=by
 cases e:Cy p (nine a b c) with
 |some l=>exact⟨l,rfl⟩
 |none=>
  refine absurd ?_ h;have z:=LM.mp e;have q:∀ x∈nine a b c,Cg p x 0:=fun x hx=>by
   have:=z x hx;show x%p=0%p;rw[this];simp
  have:=Hw (p:=p) (q a.1 (by simp[nine])) (q a.2.1 (by simp[nine])) (q a.2.2 (by simp[nine])) (q b.1 (by simp[nine])) (q b.2.1 (by simp[nine])) (q b.2.2 (by simp[nine])) (q c.1 (by simp[nine])) (q c.2.1 (by simp[nine])) (q c.2.2 (by simp[nine]))
  have e2:Aw a b c%p=(0*(0*0-0*0)-0*(0*0-0*0)+0*(0*0-0*0))%p:=this;rw[e2];simp
theorem TQ(a b c:R3):slD (.tup (ds (nine a b c))) Ae (Aa 3)=.ok (trR a)/\slD (.tup (ds (nine a b c))) (Aa 3) (Aa 6)=.ok (trR b)/\slD (.tup (ds (nine a b c))) (Aa 6) Ae=.ok (trR c):=⟨rfl,rfl,rfl⟩
noncomputable def Nq:Df:=⟨3,Ac,(.cons (.asg 2 Ac (.call 82 (.cons (.var 0) (.cons (.bin .Add (.bin .Add (.idx (.var 1) (.int 0)) (.idx (.var 1) (.int 1))) (.idx (.var 1) (.int 2))) .nil)))) (.cons (.ret (.tup (.cons (.sl (.var 2) .non (.int 3)) (.cons (.sl (.var 2) (.int 3) (.int 6)) (.cons (.sl (.var 2) (.int 6) .non) .nil))))) .nil))⟩
def RA(Γ:Gam):Prop:=∀(p:Ag)(a b c:R3)(l t:Ag),P4 p->Cy p (nine a b c)=Aa l->EJ p l t->Γ.F 84 [.int p,Gp a b c]=.ok (BJ (fmR p t a) (fmR p t b) (fmR p t c))
theorem Ql(a b c:R3):CS .Add (Bl a) (Bl b)=.ok (.lst [.int a.1,.int a.2.1,.int a.2.2,.int b.1,.int b.2.1,.int b.2.2])/\CS .Add (.lst [.int a.1,.int a.2.1,.int a.2.2,.int b.1,.int b.2.1,.int b.2.2]) (Bl c)=.ok (.lst (ds (nine a b c))):=⟨rfl,rfl⟩
theorem Zw(h:Lb Γ)(p:Ag)(a b c:R3)(l t:Ag)(hp:P4 p)(e:Cy p (nine a b c)=Aa l)(it:EJ p l t):Nq.run Γ [.int p,Gp a b c]=.ok (BJ (fmR p t a) (fmR p t b) (fmR p t c)):=by
 have f:=h p Ac (nine a b c) l t hp e it;rw[Ri]at f;have f':Γ.F 82 [.int p,.lst (ds (nine a b c))]=.ok (.tup (ds (nine (fmR p t a) (fmR p t b) (fmR p t c)))):=f;obtain⟨x1,x2⟩:=Ql a b c;obtain⟨y1,y2,y3⟩:=TQ (fmR p t a) (fmR p t b) (fmR p t c);simp[Nq,Df.run,Bp,Gp,g30,g31,g32,x1,x2,f',y1,y2,y3,slE];rfl
def Bd(n:Af)(x:Ag):Prop:=x.natAbs<2 ^ n
theorem Bd.mul(h:Bd m x)(g:Bd n y):Bd (m+n) (x*y):=by
 unfold Bd at *;rw[Int.natAbs_mul,Nat.pow_add];exact Nat.mul_lt_mul'' h g
theorem Bd.sub(h:Bd n x)(g:Bd n y):Bd (n+1) (x-y):=by
 unfold Bd at *;rw[Nat.pow_succ];omega
theorem JC(h:Bd m x)(g:Bd n y)(hm:m<=2000)(hn:n<=2000):GI x y=Ab:=by
 unfold GI Bd at *;rw[Al,A7,A7];exact⟨AH h (Ge (by decide) hm),AH g (Ge (by decide) hn)⟩
def B3(a:R3):Prop:=Bd 300 a.1/\Bd 300 a.2.1/\Bd 300 a.2.2
noncomputable def Au(q:An)(a:R3):D:=Dj q [a.1,a.2.1,a.2.2]
theorem Ir(q:An)(a:R3):DA (Au q a) (.int 0)=.ok (.int a.1)/\DA (Au q a) (.int 1)=.ok (.int a.2.1)/\DA (Au q a) (.int 2)=.ok (.int a.2.2):=by cases q<;>exact⟨rfl,rfl,rfl⟩
def Jz(Γ:Gam):Prop:=∀(p:Ag)(q:An)(a b c:R3),0<p->B3 a->B3 b->B3 c->Γ.F 61 [.int p,Au q a,Au q b,Au q c]=.ok (.int (Aw a b c%p))
theorem Zy(h:Kt Γ)(p:Ag)(q:An)(a b c:R3)(hp:0<p)(ha:B3 a)(hb:B3 b)(hc:B3 c):NC.run Γ [.int p,Au q a,Au q b,Au q c]=.ok (.int (Aw a b c%p)):=by
 obtain⟨a0,a1,a2⟩:=Ir q a;obtain⟨b0,b1,b2⟩:=Ir q b;obtain⟨c0,c1,c2⟩:=Ir q c;have k:∀ {x y},Bd 300 x->Bd 300 y->GI x y=Ab:=fun hx hy=>JC hx hy (by decide) (by decide)
 have k2:∀ {x y z u v},Bd 300 x->Bd 300 y->Bd 300 z->Bd 300 u->Bd 300 v->GI x (y*z-u*v)=Ab:=fun hx hy hz hu hv=>JC hx ((hy.mul hz).sub (hu.mul hv)) (by decide) (by decide)
 simp[NC,Df.run,Bp,a0,a1,a2,b0,b1,b2,c0,c1,c2,k hb.2.1 hc.2.2,k hb.2.2 hc.2.1,k hb.1 hc.2.2,k hb.2.2 hc.1,k hb.1 hc.2.1,k hb.2.1 hc.1,k2 ha.1 hb.2.1 hc.2.2 hb.2.2 hc.2.1,k2 ha.2.1 hb.1 hc.2.2 hb.2.2 hc.1,k2 ha.2.2 hb.1 hc.2.1 hb.2.1 hc.1,h p _ hp];rfl
noncomputable def Ng:Df:=⟨3,Ac,(.cons (.ife (.cmp .Eq (.call 61 (.cons (.var 0) (.cons (.idx (.var 1) (.int 0)) (.cons (.idx (.var 1) (.int 1)) (.cons (.idx (.var 1) (.int 2)) .nil))))) (.int 0)) (.cons (.rais 4 (.cons (.str (Bx "the measure of the rows is 0")) .nil)) .nil) .nil) (.cons (.asg 2 Ac (.call 17 (.cons (.var 0) (.cons (.bin .Add (.bin .Add (.bi .list (.cons (.idx (.var 1) (.int 0)) .nil)) (.bi .list (.cons (.idx (.var 1) (.int 1)) .nil))) (.bi .list (.cons (.idx (.var 1) (.int 2)) .nil))) .nil)))) (.cons (.ret (.tup (.cons (.sl (.var 2) .non (.int 3)) (.cons (.sl (.var 2) (.int 3) (.int 6)) (.cons (.sl (.var 2) (.int 6) .non) .nil))))) .nil)))⟩
theorem fH(q:An)(a:R3):biD .list [Au q a]=.ok (Bl a):=by cases q<;>rfl
section
variable{Γ:Gam}{ns:Ad Ag}{p t:Ag}{a b c r:R3}{made s6 s7:Sl}
end
noncomputable def Nb:Df:=⟨1,Ac,(.cons (.ret (.and (.cons (.isi (.var 0) [.int]) (.cons (.no (.isi (.var 0) [.bool])) .nil)))) .nil)⟩
def XI(Γ:Gam):Prop:=∀ x:Ag,Γ.F 85 [.int x]=.ok (.bl Ab)
theorem Xe(Γ:Gam)(x:Ag):Nb.run Γ [.int x]=.ok (.bl Ab):=by
 simp[Nb,Df.run,Bp,kiD,DK]
noncomputable def MR:E:=(.and (.cons (.call 85 (.cons (.var 3) .nil)) (.cons (.cmp2 .LtE .Lt (.int 0) (.var 3) (.var 1)) .nil)))
noncomputable def MU:Df:=⟨4,Ac,(.cons (.ife (.or (.cons (.no (.isi (.var 0) [.tuple])) (.cons (.cmp .NotEq (.bi .len (.cons (.var 0) .nil)) (.var 2)) .nil))) (.cons (.ret (.bl Ac)) .nil) .nil) (.cons (.ret (.bi .all (.cons (.comp MR 3 (.e (.var 0)) CF) .nil))) .nil))⟩
def XN(Γ:Gam):Prop:=∀(p:Ag)(xs:Ad Ag),(∀ x∈xs,0<=x/\x<p)->Γ.F 86 [.tup (ds xs),.int p,.int xs.length]=.ok (.bl Ab)
theorem Xi(h:XI Γ)(p:Ag)(xs:Ad Ag)(hx:∀ x∈xs,0<=x/\x<p):MU.run Γ [.tup (ds xs),.int p,.int xs.length]=.ok (.bl Ab):=by
 have c1:BV (cG Γ [sh (.tup (ds xs)),si p,si xs.length,Ae] 3 CF) (cF Γ [sh (.tup (ds xs)),si p,si xs.length,Ae] 3 MR) (ds xs)=.ok (xs.map fun _=>D.bl Ab):=by
  refine Rl xs fun x hm=>⟨rfl,?_⟩
  obtain⟨h0,h1⟩:=hx x hm;simp[cF,MR,h x,h0,h1]
 have dl:(ds xs).length=xs.length:=Br ..;simp[MU,Df.run,Bp,kiD,DK,dl,c1,Qk]
noncomputable def LF:E:=(.call 86 (.cons (.var 2) (.cons (.var 1) (.cons (.int 3) .nil))))
noncomputable def M3:Df:=⟨3,Ac,(.cons (.ife (.or (.cons (.no (.isi (.var 0) [.tuple])) (.cons (.cmp .NotEq (.bi .len (.cons (.var 0) .nil)) (.int 3)) .nil))) (.cons (.ret (.bl Ac)) .nil) .nil) (.cons (.ret (.bi .all (.cons (.comp LF 2 (.e (.var 0)) CF) .nil))) .nil))⟩
def gJ(Γ:Gam):Prop:=∀(p:Ag)(a b c:R3),In3 p a->In3 p b->In3 p c->Γ.F 87 [BJ a b c,.int p]=.ok (.bl Ab)
theorem cO(h:XN Γ)(p:Ag)(a b c:R3)(ha:In3 p a)(hb:In3 p b)(hc:In3 p c):M3.run Γ [BJ a b c,.int p]=.ok (.bl Ab):=by
 have one:∀ r:R3,In3 p r->Γ.F 86 [trR r,.int p,.int 3]=.ok (.bl Ab):=fun r hr=>h p [r.1,r.2.1,r.2.2] (by
  intro x hx;simp at hx;rcases hx with rfl|rfl|rfl
  ·exact hr.1
  ·exact hr.2.1
  ·exact hr.2.2)
 have g:∀ x,cG Γ [sh (BJ a b c),si p,Ae] 2 CF x=.ok Ab:=fun _=>rfl
 have f:∀ r:R3,In3 p r->cF Γ [sh (BJ a b c),si p,Ae] 2 LF (trR r)=.ok (.bl Ab):=fun r hr=>by
  simp[cF,LF,one r hr]
 have c1:BV (cG Γ [sh (BJ a b c),si p,Ae] 2 CF) (cF Γ [sh (BJ a b c),si p,Ae] 2 LF) [trR a,trR b,trR c]=.ok [.bl Ab,.bl Ab,.bl Ab]:=by
  simp[BV,g,f a ha,f b hb,f c hc]
 have sq:Cw (BJ a b c)=.ok [trR a,trR b,trR c]:=rfl;have ln:biD .len [BJ a b c]=.ok (.int 3):=rfl;have it:Ed Γ.up [.tuple] (BJ a b c)=.ok (.bl Ab):=rfl;simp[M3,Df.run,Bp,it,ln,sq,c1]
theorem Fi(hp:0<p)(t:Ag)(a:R3):In3 p (fmR p t a):=⟨⟨Bg _ (by omega),A6 _ hp⟩,⟨Bg _ (by omega),A6 _ hp⟩,⟨Bg _ (by omega),A6 _ hp⟩⟩
section
variable{Γ:Gam}{ns:Ad Ag}{p m:Ag}{a b c:R3}{fa fb fc:R3}{q:An}{s9 s0 s1 s2:Sl}
end
def Nt(Γ:Gam):Prop:=∀ p n:Ag,P4 p->n%p≠0->∃ t,1<=t/\t<p/\n*t%p=1/\Γ.F 9 [.int p,.int n]=.ok (.int t)
def RB(Γ:Gam):Prop:=∀(p:Ag)(b:An)(xs:Ad Ag)(l t:Ag),P4 p->Cy p xs=Aa l->EJ p l t->Γ.F 17 [.int p,Dj b xs]=.ok (.tup (ds (fmI p t xs)))
theorem WP(hr:Kt Γ)(p n:Ag)(hp:P4 p)(z:n%p≠0):∃ t,1<=t/\t<p/\n*t%p=1/\LI.run Γ [.int p,.int n]=.ok (.int t):=by
 have p0:=hp.pos;have ph:=hp.hi;have body:∀ t∈Gq p,∀ ρ,(∃ s,ρ=[si p,si n,s])->(decide (n*t%p=1)=Ab/\BZ Γ 2 JZ (.int t) ρ=.ret (.int t) Ac)\/(decide (n*t%p=1)=Ac/\∃ ρ',BZ Γ 2 JZ (.int t) ρ=.next ρ'/\∃ s,ρ'=[si p,si n,s]):=by
  rintro t ht ρ ⟨s,rfl⟩;obtain⟨t1,t2⟩:=Ke.mp ht;have m:CP n t=Ab:=HV (by omega) (by omega)
  by_cases e:n*t%p=1
  ·exact .inl ⟨by simp[e],by simp[BZ,JZ,hr p (n*t) p0,m,e,EY]⟩
  ·exact .inr ⟨by simp[e],_,by simp[BZ,JZ,hr p (n*t) p0,m,e];rfl,_,rfl⟩
 have run:∀ o,Dq (BZ Γ 2 JZ) ((Gq p).map D.int) [si p,si n,Ae]=o->LI.run Γ [.int p,.int n]=(FX Γ (.cons (.rais 2 (.cons (.str (Bx "a number with the rest 0 is not turned over")) .nil)) .nil) o).ans Ac:=by
  rintro o rfl;simp[LI,Df.run,Bp,Qm hp]
 rcases PF (fun ρ=>∃ s,ρ=[si p,si n,s]) (fun t=>decide (n*t%p=1)) (Gq p) body [si p,si n,Ae] ⟨_,rfl⟩ with ⟨t,ht,a,b⟩|⟨a,r,b,s,rfl⟩
 ·obtain⟨t1,t2⟩:=Ke.mp ht;have a':n*t%p=1:=by simpa using a
  exact⟨t,t1,t2,a',by rw[run _ b];rfl⟩
 ·obtain⟨t,t1,t2,e⟩:=Hu hp z;have:=a t (Ke.mpr ⟨t1,t2⟩);simp[e]at this
section
variable{Γ:Gam}{p:Ag}{xs:Ad Ag}{b:An}
theorem Qt(hr:Kt Γ)(ht:Nt Γ)(hp:P4 p)(rs:Ad Ag):∀(ys:Ad Ag),(∀ y∈ys,0<=y/\y<p)->∀ s3,(Cy p ys=Ae->∃ s3',Dq (BZ Γ 3 Ht) (ds ys) [si p,sh (Dj b xs),sh (.lst (ds rs)),s3,Ae,Ae,Ae]=.next [si p,sh (Dj b xs),sh (.lst (ds rs)),s3',Ae,Ae,Ae])/\(∀ l t,Cy p ys=Aa l->EJ p l t->Dq (BZ Γ 3 Ht) (ds ys) [si p,sh (Dj b xs),sh (.lst (ds rs)),s3,Ae,Ae,Ae]=.ret (.tup (ds (rs.map fun r=>t*r%p))) Ac)
 |[],_,s3=>⟨fun _=>⟨s3,rfl⟩,(fun l t h=>nomatch h)⟩
 |y::ys,hy,s3=>by
  obtain⟨y0,y1⟩:=hy y (AL ..);have ym:y%p=y:=Be y0 y1;have ih:=Qt hr ht hp rs ys (fun z hz=>hy z (AG _ hz)) (si y)
  have step:∀ o,BZ Γ 3 Ht (.int y) [si p,sh (Dj b xs),sh (.lst (ds rs)),s3,Ae,Ae,Ae]=o->Dq (BZ Γ 3 Ht) (ds (y::ys)) [si p,sh (Dj b xs),sh (.lst (ds rs)),s3,Ae,Ae,Ae]=o.turn (Dq (BZ Γ 3 Ht) (ds ys)):=by
   rintro o rfl;rfl
  unfold Cy;rw[ym];by_cases hz:y=0
  ·have e:BZ Γ 3 Ht (.int y) [si p,sh (Dj b xs),sh (.lst (ds rs)),s3,Ae,Ae,Ae]=.next [si p,sh (Dj b xs),sh (.lst (ds rs)),si y,Ae,Ae,Ae]:=by
    simp[BZ,Ht,hz]
   rw[AF hz,step _ e];exact ih
  ·rw[AM hz];refine⟨(fun z=>nomatch z),fun l t e it=>?_⟩
   cases e;obtain⟨u,u1,u2,u3,u4⟩:=ht p y hp (by rw[ym];exact hz)
   have:t=u:=Qc it ⟨u1,u2,u3⟩;subst this;have p0:=hp.pos;have ph:=hp.hi;have cp:BV (cG Γ [si p,sh (Dj b xs),sh (.lst (ds rs)),si y,si t,Ae,Ae] 6 CF) (cF Γ [si p,sh (Dj b xs),sh (.lst (ds rs)),si y,si t,Ae,Ae] 6 MX) (ds rs)=.ok (ds (rs.map fun r=>t*r%p)):=by
    refine J7 rs fun r _=>⟨rfl,?_⟩
    have m:CP t r=Ab:=G4 (by omega) (by omega)
    simp[cF,MX,m,hr p (t*r) p0]
   have e:BZ Γ 3 Ht (.int y) [si p,sh (Dj b xs),sh (.lst (ds rs)),s3,Ae,Ae,Ae]=.ret (.tup (ds (rs.map fun r=>t*r%p))) Ac:=by
    simp[BZ,Ht,hz,u4,cp,EY]
   rw[step _ e];rfl
theorem ZA(hr:Kt Γ)(ht:Nt Γ)(hp:P4 p){l t:Ag}(e:Cy p xs=Aa l)(it:EJ p l t):LS.run Γ [.int p,Dj b xs]=.ok (.tup (ds (fmI p t xs))):=by
 have p0:=hp.pos;have cp:BV (cG Γ [si p,sh (Dj b xs),Ae,Ae,Ae,Ae,Ae] 5 CF) (cF Γ [si p,sh (Dj b xs),Ae,Ae,Ae,Ae,Ae] 5 MY) (ds xs)=.ok (ds (xs.map fun x=>x%p)):=by
  refine J7 xs fun x _=>⟨rfl,?_⟩
  simp[cF,MY,hr p x p0]
 have run:∀ o,Dq (BZ Γ 3 Ht) (ds (xs.map fun x=>x%p)) [si p,sh (Dj b xs),sh (.lst (ds (xs.map fun x=>x%p))),Ae,Ae,Ae,Ae]=o->LS.run Γ [.int p,Dj b xs]=(FX Γ (.cons (.rais 3 (.cons (.str (Bx "all the numbers have the rest 0")) .nil)) .nil) o).ans Ac:=by
  rintro o rfl;simp[LS,Df.run,Bp,PL,cp]
 have le:Cy p (xs.map fun x=>x%p)=Cy p xs:=by
  have:=NO (c:=1) hp (by rcases hp with rfl|rfl|rfl|rfl<;>decide) (f:=fun x=>x%p) (fun x=>by rw[GN,BD _ (CW p)]) xs
  rw[this];cases e:Cy p xs with
  |none=>rfl
  |some l=>
   obtain⟨_,l0,l1⟩:=HR p0 e;simp[Be (Int.le_of_lt l0) l1]
 obtain⟨a,c⟩:=Qt (b:=b) (xs:=xs) hr ht hp (xs.map fun x=>x%p) (xs.map fun x=>x%p) (fun y hy=>by
  obtain⟨x,_,rfl⟩:=IE.mp hy;exact⟨Bg _ (by omega),A6 _ p0⟩) Ae
 rw[le]at a c;rw[run _ (c l t e it)];simp[fmI,Hl,G8]
end
noncomputable def Di(t q:An)(a b c:R3):D:=if t=Ab then .tup [Au q a,Au q b,Au q c] else .lst [Au q a,Au q b,Au q c]
theorem O9(t q:An)(a b c:R3):DA (Di t q a b c) (.int 0)=.ok (Au q a)/\DA (Di t q a b c) (.int 1)=.ok (Au q b)/\DA (Di t q a b c) (.int 2)=.ok (Au q c):=by cases t<;>exact⟨rfl,rfl,rfl⟩
theorem Mt(q:An)(a:R3):Cw (Au q a)=.ok [.int a.1,.int a.2.1,.int a.2.2]:=by cases q<;>rfl
theorem lX(t q:An)(a b c:R3):Cw (Di t q a b c)=.ok [Au q a,Au q b,Au q c]:=by cases t<;>rfl
noncomputable def EI(a b c:R3):R3:=(a.1,b.1,c.1)
noncomputable def EH(a b c:R3):R3:=(a.2.1,b.2.1,c.2.1)
noncomputable def EK(a b c:R3):R3:=(a.2.2,b.2.2,c.2.2)
noncomputable def NH:Df:=⟨1,Ac,(.cons (.ret (.tupI (.zip3 (.idx (.var 0) (.int 0)) (.idx (.var 0) (.int 1)) (.idx (.var 0) (.int 2))))) .nil)⟩
def Mk(Γ:Gam):Prop:=∀(t q:An)(a b c:R3),Γ.F 104 [Di t q a b c]=.ok (Di Ab Ab (EI a b c) (EH a b c) (EK a b c))
theorem cP(Γ:Gam)(t q:An)(a b c:R3):NH.run Γ [Di t q a b c]=.ok (Di Ab Ab (EI a b c) (EH a b c) (EK a b c)):=by
 obtain⟨r0,r1,r2⟩:=O9 t q a b c;have z:Kw (Au q a) (Au q b) (Au q c)=.ok [Au Ab (EI a b c),Au Ab (EH a b c),Au Ab (EK a b c)]:=by
  unfold Kw;rw[Mt,Mt,Mt];rfl
 simp[NH,Df.run,Bp,r0,r1,r2,z];rfl
noncomputable def BG(a x:R3):Ag:=a.1*x.1+a.2.1*x.2.1+a.2.2*x.2.2
noncomputable def LK:E:=(.call 1 (.cons (.var 0) (.cons (.bin .Add (.bin .Add (.bin .Mult (.idx (.var 3) (.int 0)) (.idx (.var 2) (.int 0))) (.bin .Mult (.idx (.var 3) (.int 1)) (.idx (.var 2) (.int 1)))) (.bin .Mult (.idx (.var 3) (.int 2)) (.idx (.var 2) (.int 2)))) .nil)))
noncomputable def NB:Df:=⟨4,Ac,(.cons (.ret (.bi .tuple (.cons (.comp LK 3 (.e (.var 1)) CF) .nil))) .nil)⟩
def Sw(Γ:Gam):Prop:=∀(p:Ag)(t q q':An)(a b c x:R3),0<p->B3 a->B3 b->B3 c->B3 x->Γ.F 91 [.int p,Di t q a b c,Au q' x]=.ok (Au Ab (BG a x%p,BG b x%p,BG c x%p))
theorem cK(h:Kt Γ)(p:Ag)(t q q':An)(a b c x:R3)(hp:0<p)(ha:B3 a)(hb:B3 b)(hc:B3 c)(hx:B3 x):NB.run Γ [.int p,Di t q a b c,Au q' x]=.ok (Au Ab (BG a x%p,BG b x%p,BG c x%p)):=by
 obtain⟨x0,x1,x2⟩:=Ir q' x;have k:∀ {u v},Bd 300 u->Bd 300 v->GI u v=Ab:=fun hu hv=>JC hu hv (by decide) (by decide)
 have key:∀ r:R3,B3 r->cF Γ [si p,sh (Di t q a b c),sh (Au q' x),Ae] 3 LK (Au q r)=.ok (.int (BG r x%p)):=fun r hr=>by
  obtain⟨y0,y1,y2⟩:=Ir q r;simp[cF,LK,x0,x1,x2,y0,y1,y2,k hr.1 hx.1,k hr.2.1 hx.2.1,k hr.2.2 hx.2.2,h p _ hp];rfl
 have g:∀ r,cG Γ [si p,sh (Di t q a b c),sh (Au q' x),Ae] 3 CF r=.ok Ab:=fun _=>rfl
 have cp:BV (cG Γ [si p,sh (Di t q a b c),sh (Au q' x),Ae] 3 CF) (cF Γ [si p,sh (Di t q a b c),sh (Au q' x),Ae] 3 LK) [Au q a,Au q b,Au q c]=.ok [.int (BG a x%p),.int (BG b x%p),.int (BG c x%p)]:=by
  simp[BV,g,key a ha,key b hb,key c hc]
 simp[NB,Df.run,Bp,lX,cp];rfl
noncomputable def crs(a b:R3):R3:=(a.2.1*b.2.2-a.2.2*b.2.1,a.2.2*b.1-a.1*b.2.2,a.1*b.2.1-a.2.1*b.1)
theorem Rj:∀ xs ys:Ad Ag,eqDs (ds xs) (ds ys)=decide (xs=ys)
 |[],[]=>rfl
 |[],_::_=>rfl
 |_::_,[]=>rfl
 |x::xs,y::ys=>by
  show ((x==y)&&eqDs (ds xs) (ds ys))=_;rw[Rj xs ys,E1];simp
theorem On(a b:R3):eqD (Au Ab a) (Au Ab b)=decide (a=b):=by
 show eqDs (ds [a.1,a.2.1,a.2.2]) (ds [b.1,b.2.1,b.2.2])=_;rw[Rj,E1];simp only[List.cons.injEq,and_true,A7];exact⟨fun ⟨h1,h2,h3⟩=>by obtain⟨a1,a2,a3⟩:=a;obtain⟨b1,b2,b3⟩:=b;simp at h1 h2 h3;rw[h1,h2,h3],fun h=>by rw[h];exact⟨rfl,rfl,rfl⟩⟩
noncomputable def NG:Df:=⟨2,Ac,(.cons (.ife (.cmp .Eq (.var 0) (.var 1)) (.cons (.rais 7 (.cons (.var 0) .nil)) .nil) .nil) (.cons (.ret (.tup (.cons (.bin .Sub (.bin .Mult (.idx (.var 0) (.int 1)) (.idx (.var 1) (.int 2))) (.bin .Mult (.idx (.var 0) (.int 2)) (.idx (.var 1) (.int 1)))) (.cons (.bin .Sub (.bin .Mult (.idx (.var 0) (.int 2)) (.idx (.var 1) (.int 0))) (.bin .Mult (.idx (.var 0) (.int 0)) (.idx (.var 1) (.int 2)))) (.cons (.bin .Sub (.bin .Mult (.idx (.var 0) (.int 0)) (.idx (.var 1) (.int 1))) (.bin .Mult (.idx (.var 0) (.int 1)) (.idx (.var 1) (.int 0)))) .nil))))) .nil))⟩
def bS(Γ:Gam):Prop:=∀ a b:R3,B3 a->B3 b->a≠b->Γ.F 23 [Au Ab a,Au Ab b]=.ok (Au Ab (crs a b))
theorem ZE(Γ:Gam)(a b:R3)(ha:B3 a)(hb:B3 b)(ne:a≠b):NG.run Γ [Au Ab a,Au Ab b]=.ok (Au Ab (crs a b)):=by
 obtain⟨x0,x1,x2⟩:=Ir Ab a;obtain⟨y0,y1,y2⟩:=Ir Ab b;have k:∀ {u v},Bd 300 u->Bd 300 v->GI u v=Ab:=fun hu hv=>JC hu hv (by decide) (by decide)
 have f:∀ r:R3,flD 5 (Au Ab r)=Ab:=fun _=>rfl
 have e:eqD (Au Ab a) (Au Ab b)=Ac:=by rw[On];exact Dl ne
 simp[NG,Df.run,Bp,f,e,x0,x1,x2,y0,y1,y2,k ha.2.1 hb.2.2,k ha.2.2 hb.2.1,k ha.2.2 hb.1,k ha.1 hb.2.2,k ha.1 hb.2.1,k ha.2.1 hb.1];rfl
noncomputable def MW:Df:=⟨1,Ac,(.cons (.ret (.tup (.cons (.call 23 (.cons (.idx (.var 0) (.int 1)) (.cons (.idx (.var 0) (.int 2)) .nil))) (.cons (.call 23 (.cons (.idx (.var 0) (.int 2)) (.cons (.idx (.var 0) (.int 0)) .nil))) (.cons (.call 23 (.cons (.idx (.var 0) (.int 0)) (.cons (.idx (.var 0) (.int 1)) .nil))) .nil))))) .nil)⟩
def RC(Γ:Gam):Prop:=∀ a b c:R3,B3 a->B3 b->B3 c->a≠b->b≠c->c≠a->Γ.F 98 [Di Ab Ab a b c]=.ok (Di Ab Ab (crs b c) (crs c a) (crs a b))
theorem ZD(h:bS Γ)(a b c:R3)(ha:B3 a)(hb:B3 b)(hc:B3 c)(n1:a≠b)(n2:b≠c)(n3:c≠a):MW.run Γ [Di Ab Ab a b c]=.ok (Di Ab Ab (crs b c) (crs c a) (crs a b)):=by
 obtain⟨r0,r1,r2⟩:=O9 Ab Ab a b c;simp[MW,Df.run,Bp,r0,r1,r2,h b c hb hc n2,h c a hc ha n3,h a b ha hb n1];rfl
def Mi(Γ:Gam):Prop:=∀(p:Ag)(t q:An)(a b c:R3),P4 p->B3 a->B3 b->B3 c->Aw a b c%p≠0->∀ l u,Cy p (nine a b c)=Aa l->EJ p l u->Γ.F 78 [.int p,Di t q a b c]=.ok (BJ (fmR p u a) (fmR p u b) (fmR p u c))
theorem cJ(hm:Jz Γ)(hf:RB Γ)(p:Ag)(t q:An)(a b c:R3)(hp:P4 p)(ha:B3 a)(hb:B3 b)(hc:B3 c)(z:Aw a b c%p≠0)(l u:Ag)(e:Cy p (nine a b c)=Aa l)(it:EJ p l u):Ng.run Γ [.int p,Di t q a b c]=.ok (BJ (fmR p u a) (fmR p u b) (fmR p u c)):=by
 obtain⟨r0,r1,r2⟩:=O9 t q a b c;have m:=hm p q a b c hp.pos ha hb hc;have f:=hf p Ac (nine a b c) l u hp e it;rw[Ri]at f;have f':Γ.F 17 [.int p,.lst (ds (nine a b c))]=.ok (.tup (ds (nine (fmR p u a) (fmR p u b) (fmR p u c)))):=f;obtain⟨x1,x2⟩:=Ql a b c;obtain⟨y1,y2,y3⟩:=TQ (fmR p u a) (fmR p u b) (fmR p u c);simp[Ng,Df.run,Bp,r0,r1,r2,m,z,fH,x1,x2,f',y1,y2,y3,slE];rfl
noncomputable def Nm:Df:=⟨2,Ac,(.cons (.ret (.call 78 (.cons (.var 0) (.cons (.call 104 (.cons (.call 98 (.cons (.var 1) .nil)) .nil)) .nil)))) .nil)⟩
noncomputable def bk0(a b c:R3):R3:=EI (crs b c) (crs c a) (crs a b)
noncomputable def bk1(a b c:R3):R3:=EH (crs b c) (crs c a) (crs a b)
noncomputable def bk2(a b c:R3):R3:=EK (crs b c) (crs c a) (crs a b)
def Sy(Γ:Gam):Prop:=∀(p:Ag)(a b c:R3),P4 p->In3 p a->In3 p b->In3 p c->Aw a b c%p≠0->∀ l u,Cy p (nine (bk0 a b c) (bk1 a b c) (bk2 a b c))=Aa l->EJ p l u->Γ.F 106 [.int p,BJ a b c]=.ok (BJ (fmR p u (bk0 a b c)) (fmR p u (bk1 a b c)) (fmR p u (bk2 a b c)))
theorem JG(hp:P4 p)(h0:0<=x)(h1:x<p):Bd 10 x:=by
 unfold Bd;have:=hp.hi;omega
theorem Bd.mono(h:Bd m x)(hm:m<=n):Bd n x:=AH h (Ge (by decide) hm)
def Bn(n:Af)(a:R3):Prop:=Bd n a.1/\Bd n a.2.1/\Bd n a.2.2
theorem Bn.b3(h:Bn n a)(hn:n<=300):B3 a:=⟨h.1.mono hn,h.2.1.mono hn,h.2.2.mono hn⟩
theorem D7(hp:P4 p)(h:In3 p a):Bn 10 a:=⟨JG hp h.1.1 h.1.2,JG hp h.2.1.1 h.2.1.2,JG hp h.2.2.1 h.2.2.2⟩
theorem OK{a b:R3}(ha:Bn n a)(hb:Bn n b):Bn (n+n+1) (crs a b):=
 ⟨(ha.2.1.mul hb.2.2).sub (ha.2.2.mul hb.2.1),(ha.2.2.mul hb.1).sub (ha.1.mul hb.2.2),(ha.1.mul hb.2.1).sub (ha.2.1.mul hb.1)⟩
theorem OL{a b c:R3}(ha:Bn n a)(hb:Bn n b)(hc:Bn n c):Bn n (EI a b c)/\Bn n (EH a b c)/\Bn n (EK a b c):=⟨⟨ha.1,hb.1,hc.1⟩,⟨ha.2.1,hb.2.1,hc.2.1⟩,⟨ha.2.2,hb.2.2,hc.2.2⟩⟩
theorem eZ{a b c:R3}(z:Aw a b c%p≠0):a≠b/\b≠c/\c≠a:=by
 refine⟨fun e=>z ?_,fun e=>z ?_,fun e=>z ?_⟩
 ·subst e;rw[show Aw a a c=0 by unfold Aw det;grind,C5]
 ·subst e;rw[show Aw a b b=0 by unfold Aw det;grind,C5]
 ·subst e;rw[show Aw c b c=0 by unfold Aw det;grind,C5]
theorem Su(a b c:R3):Aw (bk0 a b c) (bk1 a b c) (bk2 a b c)=Aw a b c*Aw a b c:=by
 unfold Aw det bk0 bk1 bk2 EI EH EK crs;grind
theorem cQ(h1:RC Γ)(h2:Mk Γ)(h3:Mi Γ)(p:Ag)(a b c:R3)(hp:P4 p)(ha:In3 p a)(hb:In3 p b)(hc:In3 p c)(z:Aw a b c%p≠0)(l u:Ag)(e:Cy p (nine (bk0 a b c) (bk1 a b c) (bk2 a b c))=Aa l)(it:EJ p l u):Nm.run Γ [.int p,BJ a b c]=.ok (BJ (fmR p u (bk0 a b c)) (fmR p u (bk1 a b c)) (fmR p u (bk2 a b c))):=by
 have ba:=D7 hp ha;have bb:=D7 hp hb;have bc:=D7 hp hc;obtain⟨n1,n2,n3⟩:=eZ z;have e1:Γ.F 98 [BJ a b c]=.ok (Di Ab Ab (crs b c) (crs c a) (crs a b)):=h1 a b c (ba.b3 (by decide)) (bb.b3 (by decide)) (bc.b3 (by decide)) n1 n2 n3
 have e2:=h2 Ab Ab (crs b c) (crs c a) (crs a b);obtain⟨c0,c1,c2⟩:=OL (OK bb bc) (OK bc ba) (OK ba bb);have z2:Aw (bk0 a b c) (bk1 a b c) (bk2 a b c)%p≠0:=by rw[Su];exact D5 hp z z
 have e3:Γ.F 78 [.int p,Di Ab Ab (EI (crs b c) (crs c a) (crs a b)) (EH (crs b c) (crs c a) (crs a b)) (EK (crs b c) (crs c a) (crs a b))]=.ok (BJ (fmR p u (bk0 a b c)) (fmR p u (bk1 a b c)) (fmR p u (bk2 a b c))):=h3 p Ab Ab _ _ _ hp (c0.b3 (by decide)) (c1.b3 (by decide)) (c2.b3 (by decide)) z2 l u e it
 simp[Nm,Df.run,Bp,e1,e2,e3]
noncomputable def mlR(p:Ag)(x a b c:R3):R3:=(BG (EI a b c) x%p,BG (EH a b c) x%p,BG (EK a b c) x%p)
noncomputable def LU:E:=(.call 91 (.cons (.var 0) (.cons (.var 3) (.cons (.var 4) .nil))))
noncomputable def N7:Df:=⟨5,Ac,(.cons (.asg 3 Ac (.call 104 (.cons (.var 2) .nil))) (.cons (.ret (.call 78 (.cons (.var 0) (.cons (.comp LU 4 (.e (.var 1)) CF) .nil)))) .nil))⟩
def RD(Γ:Gam):Prop:=∀(p:Ag)(x y z a b c:R3),P4 p->In3 p x->In3 p y->In3 p z->In3 p a->In3 p b->In3 p c->Aw (mlR p x a b c) (mlR p y a b c) (mlR p z a b c)%p≠0->∀ l u,Cy p (nine (mlR p x a b c) (mlR p y a b c) (mlR p z a b c))=Aa l->EJ p l u ->
 Γ.F 105 [.int p,BJ x y z,BJ a b c]=.ok (BJ (fmR p u (mlR p x a b c)) (fmR p u (mlR p y a b c)) (fmR p u (mlR p z a b c)))
theorem OE(hp:0<p)(x a b c:R3):In3 p (mlR p x a b c):=⟨⟨Bg _ (by omega),A6 _ hp⟩,⟨Bg _ (by omega),A6 _ hp⟩,⟨Bg _ (by omega),A6 _ hp⟩⟩
theorem YT(h2:Mk Γ)(hs:Sw Γ)(h3:Mi Γ)(p:Ag)(x y z a b c:R3)(hp:P4 p)(hx:In3 p x)(hy:In3 p y)(hz:In3 p z)(ha:In3 p a)(hb:In3 p b)(hc:In3 p c)(nz:Aw (mlR p x a b c) (mlR p y a b c) (mlR p z a b c)%p≠0)(l u:Ag)(e:Cy p (nine (mlR p x a b c) (mlR p y a b c) (mlR p z a b c))=Aa l)(it:EJ p l u):N7.run Γ [.int p,BJ x y z,BJ a b c]=.ok (BJ (fmR p u (mlR p x a b c)) (fmR p u (mlR p y a b c)) (fmR p u (mlR p z a b c))):=by
 have p0:=hp.pos;have e1:Γ.F 104 [BJ a b c]=.ok (Di Ab Ab (EI a b c) (EH a b c) (EK a b c)):=h2 Ab Ab a b c;obtain⟨c0,c1,c2⟩:=OL (D7 hp ha) (D7 hp hb) (D7 hp hc);have es:∀ r:R3,In3 p r->Γ.F 91 [.int p,Di Ab Ab (EI a b c) (EH a b c) (EK a b c),Au Ab r]=.ok (Au Ab (mlR p r a b c)):=fun r hr=>hs p Ab Ab Ab _ _ _ r p0 (c0.b3 (by decide)) (c1.b3 (by decide)) (c2.b3 (by decide)) ((D7 hp hr).b3 (by decide))
 have key:∀ r:R3,In3 p r->cF Γ [si p,sh (BJ x y z),sh (BJ a b c),sh (Di Ab Ab (EI a b c) (EH a b c) (EK a b c)),Ae] 4 LU (Au Ab r)=.ok (Au Ab (mlR p r a b c)):=fun r hr=>by
  simp[cF,LU,es r hr]
 have g:∀ r,cG Γ [si p,sh (BJ x y z),sh (BJ a b c),sh (Di Ab Ab (EI a b c) (EH a b c) (EK a b c)),Ae] 4 CF r=.ok Ab:=fun _=>rfl
 have sq:Cw (BJ x y z)=.ok [Au Ab x,Au Ab y,Au Ab z]:=rfl;have cp:BV (cG Γ [si p,sh (BJ x y z),sh (BJ a b c),sh (Di Ab Ab (EI a b c) (EH a b c) (EK a b c)),Ae] 4 CF) (cF Γ [si p,sh (BJ x y z),sh (BJ a b c),sh (Di Ab Ab (EI a b c) (EH a b c) (EK a b c)),Ae] 4 LU) [Au Ab x,Au Ab y,Au Ab z]=.ok [Au Ab (mlR p x a b c),Au Ab (mlR p y a b c),Au Ab (mlR p z a b c)]:=by
  simp[BV,g,key x hx,key y hy,key z hz]
 have e3:Γ.F 78 [.int p,.lst [Au Ab (mlR p x a b c),Au Ab (mlR p y a b c),Au Ab (mlR p z a b c)]]=.ok (BJ (fmR p u (mlR p x a b c)) (fmR p u (mlR p y a b c)) (fmR p u (mlR p z a b c))):=
  h3 p Ac Ab _ _ _ hp ((D7 hp (OE p0 x a b c)).b3 (by decide)) ((D7 hp (OE p0 y a b c)).b3 (by decide)) ((D7 hp (OE p0 z a b c)).b3 (by decide)) nz l u e it
 simp[N7,Df.run,Bp,e1,sq,cp,e3]
noncomputable def Np:E:=(.bin .Mult (.var 0) (.var 2))
noncomputable def NK:Df:=⟨3,Ac,(.cons (.ret (.comp Np 2 (.e (.var 1)) CF)) .nil)⟩
def XM(Γ:Gam):Prop:=∀(k:Ag)(a:R3),0<=k->k<100->Γ.F 110 [.int k,Au Ab a]=.ok (Au Ac (k*a.1,k*a.2.1,k*a.2.2))
theorem Xh(Γ:Gam)(k:Ag)(a:R3)(h0:0<=k)(h1:k<100):NK.run Γ [.int k,Au Ab a]=.ok (Au Ac (k*a.1,k*a.2.1,k*a.2.2)):=by
 have m:∀ x,CP k x=Ab:=fun x=>G4 (by omega) (by omega)
 have key:∀ x:Ag,cF Γ [si k,sh (Au Ab a),Ae] 2 Np (.int x)=.ok (.int (k*x)):=fun x=>by
  simp[cF,Np,m]
 have g:∀ x,cG Γ [si k,sh (Au Ab a),Ae] 2 CF x=.ok Ab:=fun _=>rfl
 simp[NK,Df.run,Bp,Mt,BV,g,key];rfl
noncomputable def Dd(a b c d:R3):D:=.lst [Au Ab a,Au Ab b,Au Ab c,Au Ab d]
noncomputable def Cr(k:Ag)(a:R3):R3:=(k*a.1,k*a.2.1,k*a.2.2)
theorem aD(a b c d:R3):DA (Dd a b c d) (.int 0)=.ok (Au Ab a)/\DA (Dd a b c d) (.int 1)=.ok (Au Ab b)/\DA (Dd a b c d) (.int 2)=.ok (Au Ab c)/\DA (Dd a b c d) (.int 3)=.ok (Au Ab d):=⟨rfl,rfl,rfl,rfl⟩
noncomputable def M1:Df:=⟨3,Ac,(.cons (.asg 2 Ac (.tup (.cons (.call 110 (.cons (.call 61 (.cons (.var 0) (.cons (.idx (.var 1) (.int 3)) (.cons (.idx (.var 1) (.int 1)) (.cons (.idx (.var 1) (.int 2)) .nil))))) (.cons (.idx (.var 1) (.int 0)) .nil))) (.cons (.call 110 (.cons (.call 61 (.cons (.var 0) (.cons (.idx (.var 1) (.int 0)) (.cons (.idx (.var 1) (.int 3)) (.cons (.idx (.var 1) (.int 2)) .nil))))) (.cons (.idx (.var 1) (.int 1)) .nil))) (.cons (.call 110 (.cons (.call 61 (.cons (.var 0) (.cons (.idx (.var 1) (.int 0)) (.cons (.idx (.var 1) (.int 1)) (.cons (.idx (.var 1) (.int 3)) .nil))))) (.cons (.idx (.var 1) (.int 2)) .nil))) .nil))))) (.cons (.ret (.call 78 (.cons (.var 0) (.cons (.call 104 (.cons (.var 2) .nil)) .nil)))) .nil))⟩
noncomputable def fk0(p:Ag)(a b c d:R3):Ag:=Aw d b c%p
noncomputable def fk1(p:Ag)(a b c d:R3):Ag:=Aw a d c%p
noncomputable def fk2(p:Ag)(a b c d:R3):Ag:=Aw a b d%p
noncomputable def fs0(p:Ag)(a b c d:R3):R3:=Cr (fk0 p a b c d) a
noncomputable def fs1(p:Ag)(a b c d:R3):R3:=Cr (fk1 p a b c d) b
noncomputable def fs2(p:Ag)(a b c d:R3):R3:=Cr (fk2 p a b c d) c
noncomputable def fr0(p:Ag)(a b c d:R3):R3:=EI (fs0 p a b c d) (fs1 p a b c d) (fs2 p a b c d)
noncomputable def fr1(p:Ag)(a b c d:R3):R3:=EH (fs0 p a b c d) (fs1 p a b c d) (fs2 p a b c d)
noncomputable def fr2(p:Ag)(a b c d:R3):R3:=EK (fs0 p a b c d) (fs1 p a b c d) (fs2 p a b c d)
def TY(Γ:Gam):Prop:=∀(p:Ag)(a b c d:R3),P4 p->In3 p a->In3 p b->In3 p c->In3 p d->Aw (fr0 p a b c d) (fr1 p a b c d) (fr2 p a b c d)%p≠0->∀ l u,Cy p (nine (fr0 p a b c d) (fr1 p a b c d) (fr2 p a b c d))=Aa l->EJ p l u ->
 Γ.F 111 [.int p,Dd a b c d]=.ok (BJ (fmR p u (fr0 p a b c d)) (fmR p u (fr1 p a b c d)) (fmR p u (fr2 p a b c d)))
theorem O4(hk:Bd n k)(ha:Bn m a):Bn (n+m) (Cr k a):=⟨hk.mul ha.1,hk.mul ha.2.1,hk.mul ha.2.2⟩
theorem mC(hm:Jz Γ)(hs:XM Γ)(h2:Mk Γ)(h3:Mi Γ)(p:Ag)(a b c d:R3)(hp:P4 p)(ha:In3 p a)(hb:In3 p b)(hc:In3 p c)(hd:In3 p d)(z:Aw (fr0 p a b c d) (fr1 p a b c d) (fr2 p a b c d)%p≠0)(l u:Ag)(e:Cy p (nine (fr0 p a b c d) (fr1 p a b c d) (fr2 p a b c d))=Aa l)(it:EJ p l u):M1.run Γ [.int p,Dd a b c d]=.ok (BJ (fmR p u (fr0 p a b c d)) (fmR p u (fr1 p a b c d)) (fmR p u (fr2 p a b c d))):=by
 have p0:=hp.pos;have ph:=hp.hi;have ba:=(D7 hp ha).b3 (by decide)
 have bb:=(D7 hp hb).b3 (by decide)
 have bc:=(D7 hp hc).b3 (by decide)
 have bd:=(D7 hp hd).b3 (by decide)
 obtain⟨x0,x1,x2,x3⟩:=aD a b c d;have m0:=hm p Ab d b c p0 bd bb bc;have m1:=hm p Ab a d c p0 ba bd bc;have m2:=hm p Ab a b d p0 ba bb bd;have k0:0<=Aw d b c%p/\Aw d b c%p<p:=⟨Bg _ (by omega),A6 _ p0⟩
 have k1:0<=Aw a d c%p/\Aw a d c%p<p:=⟨Bg _ (by omega),A6 _ p0⟩
 have k2:0<=Aw a b d%p/\Aw a b d%p<p:=⟨Bg _ (by omega),A6 _ p0⟩
 have s0:Γ.F 110 [.int (Aw d b c%p),Au Ab a]=.ok (Au Ac (Cr (Aw d b c%p) a)):=hs (Aw d b c%p) a k0.1 (by omega)
 have s1:Γ.F 110 [.int (Aw a d c%p),Au Ab b]=.ok (Au Ac (Cr (Aw a d c%p) b)):=hs (Aw a d c%p) b k1.1 (by omega)
 have s2:Γ.F 110 [.int (Aw a b d%p),Au Ab c]=.ok (Au Ac (Cr (Aw a b d%p) c)):=hs (Aw a b d%p) c k2.1 (by omega)
 have e2:Γ.F 104 [.tup [Au Ac (Cr (Aw d b c%p) a),Au Ac (Cr (Aw a d c%p) b),Au Ac (Cr (Aw a b d%p) c)]]=.ok (Di Ab Ab (fr0 p a b c d) (fr1 p a b c d) (fr2 p a b c d)):=h2 Ab Ac _ _ _;obtain⟨c0,c1,c2⟩:=OL (O4 (JG hp k0.1 k0.2) (D7 hp ha)) (O4 (JG hp k1.1 k1.2) (D7 hp hb)) (O4 (JG hp k2.1 k2.2) (D7 hp hc));have e3:=h3 p Ab Ab (fr0 p a b c d) (fr1 p a b c d) (fr2 p a b c d) hp (c0.b3 (by decide)) (c1.b3 (by decide)) (c2.b3 (by decide)) z l u e it
 simp[M1,Df.run,Bp,x0,x1,x2,x3,m0,m1,m2,s0,s1,s2,e2,e3]
noncomputable def Ju:Ss:=(.cons (.ife (.cmp .Eq (.call 61 (.cons (.var 0) (.cons (.var 3) (.cons (.idx (.var 1) (.var 4)) (.cons (.idx (.var 1) (.var 5)) .nil))))) (.int 0)) (.cons (.ret (.tup (.cons (.var 3) (.cons (.idx (.var 1) (.var 4)) (.cons (.idx (.var 1) (.var 5)) .nil))))) .nil) .nil) .nil)
noncomputable def JX:Ss:=(.cons (.fors 5 (.rng2 (.bin .Add (.var 4) (.int 1)) (.bi .len (.cons (.var 1) .nil))) Ju) .nil)
noncomputable def HS:Ss:=(.cons (.fors 4 (.rng2 (.bin .Add (.var 2) (.int 1)) (.bi .len (.cons (.var 1) .nil))) JX) .nil)
noncomputable def M2:Df:=⟨6,Ac,(.cons (.forT [2,3] (.enm (.var 1)) HS) (.cons (.ret .non) .nil))⟩
def Jj(p:Ag)(a b c d:R3):Prop:=Aw a b c%p≠0/\Aw a b d%p≠0/\Aw a c d%p≠0/\Aw b c d%p≠0
def Tg(Γ:Gam):Prop:=∀(p:Ag)(a b c d:R3),P4 p->In3 p a->In3 p b->In3 p c->In3 p d->Jj p a b c d->Γ.F 109 [.int p,Dd a b c d]=.ok .non
noncomputable def FU:Df:=⟨3,Ac,(.cons (.ife (.or (.cons (.cmp .NotEq (.bi .len (.cons (.var 1) .nil)) (.int 4)) (.cons (.cmp .NotEq (.bi .len (.cons (.var 2) .nil)) (.int 4)) .nil))) (.cons (.rais 13 (.cons (.str (Bx "a frame has four points")) .nil)) .nil) .nil) (.cons (.expr (.call 109 (.cons (.var 0) (.cons (.var 1) .nil)))) (.cons (.expr (.call 109 (.cons (.var 0) (.cons (.var 2) .nil)))) (.cons (.ret (.call 105 (.cons (.var 0) (.cons (.call 111 (.cons (.var 0) (.cons (.var 2) .nil))) (.cons (.call 106 (.cons (.var 0) (.cons (.call 111 (.cons (.var 0) (.cons (.var 1) .nil))) .nil))) .nil))))) .nil))))⟩
theorem cM{a b c d a' b' c' d':R3}{M N B R:D}(e1:Γ.F 109 [.int p,Dd a b c d]=.ok .non)(e2:Γ.F 109 [.int p,Dd a' b' c' d']=.ok .non)(e3:Γ.F 111 [.int p,Dd a' b' c' d']=.ok N)(e4:Γ.F 111 [.int p,Dd a b c d]=.ok M)(e5:Γ.F 106 [.int p,M]=.ok B)(e6:Γ.F 105 [.int p,N,B]=.ok R):FU.run Γ [.int p,Dd a b c d,Dd a' b' c' d']=.ok R:=by
 have l1:biD .len [Dd a b c d]=.ok (.int 4):=rfl;have l2:biD .len [Dd a' b' c' d']=.ok (.int 4):=rfl;simp[FU,Df.run,Bp,l1,l2,e1,e2,e3,e4,e5,e6]
def CgR(p:Ag)(x y:R3):Prop:=Cg p x.1 y.1/\Cg p x.2.1 y.2.1/\Cg p x.2.2 y.2.2
section
variable{p:Ag}{a b c a' b' c' x y z x':R3}{k l m k':Ag}
theorem CgR.rfl:CgR p a a:=⟨Cg.rfl,Cg.rfl,Cg.rfl⟩
theorem CgR.of(h:a=b):CgR p a b:=by rw[h];exact CgR.rfl
theorem CgR.trans(h:CgR p a b)(g:CgR p b c):CgR p a c:=⟨h.1.trans g.1,h.2.1.trans g.2.1,h.2.2.trans g.2.2⟩
theorem CgR.symm(h:CgR p a b):CgR p b a:=⟨h.1.symm,h.2.1.symm,h.2.2.symm⟩
theorem CgR.sc(hk:Cg p k k')(h:CgR p a b):CgR p (Cr k a) (Cr k' b):=⟨hk.mul h.1,hk.mul h.2.1,hk.mul h.2.2⟩
theorem J9(ha:CgR p a a')(hb:CgR p b b')(hc:CgR p c c'):Cg p (Aw a b c) (Aw a' b' c'):=by
 unfold Aw det;exact Hw ha.1 ha.2.1 ha.2.2 hb.1 hb.2.1 hb.2.2 hc.1 hc.2.1 hc.2.2
theorem Oo(ha:CgR p a a')(hb:CgR p b b'):Cg p (BG a b) (BG a' b'):=((ha.1.mul hb.1).add (ha.2.1.mul hb.2.1)).add (ha.2.2.mul hb.2.2)
theorem JF(p t:Ag)(a:R3):CgR p (fmR p t a) (Cr t a):=by
 have key:∀ x:Ag,Cg p (t*(x%p)%p) (t*x):=fun x=>(Cg.md _root_.rfl).trans (Cg.rfl.mul (Cg.md _root_.rfl))
 exact⟨key _,key _,key _⟩
noncomputable def rm(a x y z:R3):R3:=(BG (EI x y z) a,BG (EH x y z) a,BG (EK x y z) a)
theorem OF(p:Ag)(a x y z:R3):CgR p (mlR p a x y z) (rm a x y z):=⟨Cg.md _root_.rfl,Cg.md _root_.rfl,Cg.md _root_.rfl⟩
noncomputable def ap(a b c x:R3):R3:=(BG a x,BG b x,BG c x)
theorem Sk(a b c x y z:R3):Aw (ap a b c x) (ap a b c y) (ap a b c z)=Aw a b c*Aw x y z:=by
 unfold Aw det ap BG;grind
theorem Mp(k l m:Ag)(x y z:R3):Aw (Cr k x) (Cr l y) (Cr m z)=k*l*m*Aw x y z:=by
 unfold Aw det Cr;grind
theorem SU(k l:Ag)(x:R3):Cr k (Cr l x)=Cr (k*l) x:=by
 unfold Cr;simp only[GY]
theorem lP(a b c x:R3)(k:Ag):ap a b c (Cr k x)=Cr k (ap a b c x):=by
 unfold ap Cr BG;refine KS ?_ (KS ?_ ?_)<;>(simp only;grind)
theorem ZT(x y z:R3):Aw (EI x y z) (EH x y z) (EK x y z)=Aw x y z:=by
 unfold Aw det EI EH EK;grind
end
theorem JI(h:Cg p x y)(hy:y%p≠0):x%p≠0:=fun z=>hy ((show x%p=y%p from h).symm.trans z)
theorem nz3{z:Ag}(hp:P4 p)(hx:x%p≠0)(hy:y%p≠0)(hz:z%p≠0):x*y*z%p≠0:=D5 hp (D5 hp hx hy) hz
section
variable{p:Ag}{a b c f0 f1 f2 f3 g0 g1 g2 g3:R3}{d0 d1 d2 d3:Ag}
theorem Mb(hx:CgR p g0 (Cr d0 (ap a b c f0)))(hy:CgR p g1 (Cr d1 (ap a b c f1)))(hz:CgR p g2 (Cr d2 (ap a b c f2))):Cg p (Aw g0 g1 g2) (d0*d1*d2*(Aw a b c*Aw f0 f1 f2)):=
 (J9 hx hy hz).trans (Cg.of (by rw[Mp,Sk]))
theorem eR(p:Ag)(f0 f1 f2 f3:R3):Aw (fr0 p f0 f1 f2 f3) (fr1 p f0 f1 f2 f3) (fr2 p f0 f1 f2 f3)=fk0 p f0 f1 f2 f3*fk1 p f0 f1 f2 f3*fk2 p f0 f1 f2 f3*Aw f0 f1 f2:=by
 unfold fr0 fr1 fr2;rw[ZT];unfold fs0 fs1 fs2;rw[Mp]
theorem OG(h:x%p≠0):x%p%p≠0:=by rw[BD _ (CW p)];exact h
theorem SZ(hp:P4 p)(h:Jj p f0 f1 f2 f3):Aw (fr0 p f0 f1 f2 f3) (fr1 p f0 f1 f2 f3) (fr2 p f0 f1 f2 f3)%p≠0:=by
 rw[eR];obtain⟨h1,h2,h3,h4⟩:=h;have k0:Aw f3 f1 f2%p≠0:=by rw[show Aw f3 f1 f2=Aw f1 f2 f3 by unfold Aw det;grind];exact h4
 have k1:Aw f0 f3 f2%p≠0:=by rw[show Aw f0 f3 f2=-1*Aw f0 f2 f3 by unfold Aw det;grind];exact D5 hp hp.m1 h3
 exact D5 hp (nz3 hp (OG k0) (OG k1) (OG h2)) h1
theorem aQ(hp:P4 p)(hD:Aw a b c%p≠0)(n0:d0%p≠0)(n1:d1%p≠0)(n2:d2%p≠0)(n3:d3%p≠0)(h0:CgR p g0 (Cr d0 (ap a b c f0)))(h1:CgR p g1 (Cr d1 (ap a b c f1)))(h2:CgR p g2 (Cr d2 (ap a b c f2)))(h3:CgR p g3 (Cr d3 (ap a b c f3)))(h:Jj p f0 f1 f2 f3):Jj p g0 g1 g2 g3:=
 ⟨JI (Mb h0 h1 h2) (D5 hp (nz3 hp n0 n1 n2) (D5 hp hD h.1)),JI (Mb h0 h1 h3) (D5 hp (nz3 hp n0 n1 n3) (D5 hp hD h.2.1)),JI (Mb h0 h2 h3) (D5 hp (nz3 hp n0 n2 n3) (D5 hp hD h.2.2.1)),JI (Mb h1 h2 h3) (D5 hp (nz3 hp n1 n2 n3) (D5 hp hD h.2.2.2))⟩
end
section
variable{Γ:Gam}{ns:Ad Ag}
end
section
variable{Γ:Gam}{ns:Ad Ag}{many s5 s6 s7 s8 s9 s0 s1 s2:Sl}{p:Ag}{a b c:R3}
end
noncomputable def NE:Df:=⟨2,Ac,(.cons (.ret (.bin .Add (.bin .Add (.bin .Mult (.idx (.var 0) (.int 0)) (.idx (.var 1) (.int 0))) (.bin .Mult (.idx (.var 0) (.int 1)) (.idx (.var 1) (.int 1)))) (.bin .Mult (.idx (.var 0) (.int 2)) (.idx (.var 1) (.int 2))))) .nil)⟩
def lU(Γ:Gam):Prop:=∀(q q':An)(a x:R3),B3 a->B3 x->Γ.F 95 [Au q a,Au q' x]=.ok (.int (BG a x))
theorem kH(Γ:Gam)(q q':An)(a x:R3)(ha:B3 a)(hx:B3 x):NE.run Γ [Au q a,Au q' x]=.ok (.int (BG a x)):=by
 obtain⟨x0,x1,x2⟩:=Ir q a;obtain⟨y0,y1,y2⟩:=Ir q' x;have k:∀ {u v},Bd 300 u->Bd 300 v->GI u v=Ab:=fun hu hv=>JC hu hv (by decide) (by decide)
 simp[NE,Df.run,Bp,x0,x1,x2,y0,y1,y2,k ha.1 hx.1,k ha.2.1 hx.2.1,k ha.2.2 hx.2.2];rfl
noncomputable def LL:E:=(.call 95 (.cons (.var 3) (.cons (.var 2) .nil)))
noncomputable def ND:Df:=⟨4,Ac,(.cons (.ret (.call 82 (.cons (.var 0) (.cons (.comp LL 3 (.e (.var 1)) CF) .nil)))) .nil)⟩
def OY(Γ:Gam):Prop:=∀(p:Ag)(a b c f y z:R3),P4 p->In3 p a->In3 p b->In3 p c->In3 p f->Aw a b c%p≠0->Aw f y z%p≠0->∃ g d,In3 p g/\d%p≠0/\CgR p g (Cr d (ap a b c f))/\Γ.F 96 [.int p,BJ a b c,Au Ab f]=.ok (Au Ab g)
theorem kG(hd:lU Γ)(hf:Lb Γ)(p:Ag)(a b c f y z:R3)(hp:P4 p)(ha:In3 p a)(hb:In3 p b)(hc:In3 p c)(i0:In3 p f)(hD:Aw a b c%p≠0)(hy:Aw f y z%p≠0):∃ g d,In3 p g/\d%p≠0/\CgR p g (Cr d (ap a b c f))/\ND.run Γ [.int p,BJ a b c,Au Ab f]=.ok (Au Ab g):=by
 have p0:=hp.pos;have bf:=(D7 hp i0).b3 (by decide)
 have key:∀ r:R3,In3 p r->cF Γ [si p,sh (BJ a b c),sh (Au Ab f),Ae] 3 LL (Au Ab r)=.ok (.int (BG r f)):=fun r hr=>by
  simp[cF,LL,hd Ab Ab r f ((D7 hp hr).b3 (by decide)) bf]
 have g:∀ r,cG Γ [si p,sh (BJ a b c),sh (Au Ab f),Ae] 3 CF r=.ok Ab:=fun _=>rfl
 have sq:Cw (BJ a b c)=.ok [Au Ab a,Au Ab b,Au Ab c]:=rfl;have cp:BV (cG Γ [si p,sh (BJ a b c),sh (Au Ab f),Ae] 3 CF) (cF Γ [si p,sh (BJ a b c),sh (Au Ab f),Ae] 3 LL) [Au Ab a,Au Ab b,Au Ab c]=.ok [.int (BG a f),.int (BG b f),.int (BG c f)]:=by
  simp[BV,g,key a ha,key b hb,key c hc]
 cases el:Cy p [BG a f,BG b f,BG c f] with
 |none=>
  have hz:=LM.mp el;have z0:BG a f%p=0:=hz _ (by simp)
  have z1:BG b f%p=0:=hz _ (by simp)
  have z2:BG c f%p=0:=hz _ (by simp)
  refine absurd ?_ (D5 hp hD hy);rw[<-Sk];have e:Cg p (Aw (ap a b c f) (ap a b c y) (ap a b c z)) (Aw (0,0,0) (ap a b c y) (ap a b c z)):=J9 ⟨by show BG a f%p=0%p;rw[z0];simp,by show BG b f%p=0%p;rw[z1];simp,by show BG c f%p=0%p;rw[z2];simp⟩ CgR.rfl CgR.rfl
  rw[show Aw (ap a b c f) (ap a b c y) (ap a b c z)%p=_ from e,show Aw (0,0,0) (ap a b c y) (ap a b c z)=0 by unfold Aw det;grind,C5]
 |some l=>
  obtain⟨u,u1,u2,u3⟩:=Hu hp (HR p0 el).1;have uz:u%p≠0:=by rw[Be (by omega) u2];omega
  have e:=hf p Ac [BG a f,BG b f,BG c f] l u hp el ⟨u1,u2,u3⟩;have e':Γ.F 82 [.int p,.lst [.int (BG a f),.int (BG b f),.int (BG c f)]]=.ok (Au Ab (fmR p u (ap a b c f))):=e;refine⟨fmR p u (ap a b c f),u,Fi p0 u _,uz,JF p u _,?_⟩;simp[ND,Df.run,Bp,sq,cp,e']
theorem W3{a b c:R3}(h:GoodR p a b c):∃ l t,Cy p (nine a b c)=Aa l/\EJ p l t/\GoodR p (fmR p t a) (fmR p t b) (fmR p t c)/\Cy p (nine (fmR p t a) (fmR p t b) (fmR p t c))=Aa 1:=by
 have hp:=h.p4;have p0:=hp.pos;obtain⟨l,el⟩:=K1 h.nz;obtain⟨lz,_,_⟩:=HR p0 el;obtain⟨t,t1,t2,t3⟩:=Hu hp lz;have tz:t%p≠0:=by rw[Be (by omega) t2];omega
 have ff:∀ x,(t*(x%p)%p)%p=t*x%p:=fun x=>by rw[BD _ (CW p),Co t (x%p) p,BD _ (CW p),<-Co]
 have lv:=NO hp tz (f:=fun x=>t*(x%p)%p) ff (nine a b c)
 rw[el]at lv;refine⟨l,t,el,⟨t1,t2,t3⟩,⟨hp,Fi p0 t a,Fi p0 t b,Fi p0 t c,JI ((J9 (JF p t a) (JF p t b) (JF p t c)).trans (Cg.of (Mp t t t a b c))) (D5 hp (nz3 hp tz tz tz) h.nz)⟩,?_⟩;have e:Cy p ((nine a b c).map fun x=>t*(x%p)%p)=Aa 1:=by rw[lv,UK,CY,t3]
 exact e
noncomputable def KZ:E:=(.call 96 (.cons (.var 0) (.cons (.var 2) (.cons (.var 3) .nil))))
noncomputable def Nj:Df:=⟨4,Ac,(.cons (.asg 2 Ac (.call 84 (.cons (.var 0) (.cons (.var 1) .nil)))) (.cons (.ret (.comp KZ 3 (.e (.lst (.cons (.tup (.cons (.int 1) (.cons (.int 0) (.cons (.int 0) .nil)))) (.cons (.tup (.cons (.int 0) (.cons (.int 1) (.cons (.int 0) .nil)))) (.cons (.tup (.cons (.int 0) (.cons (.int 0) (.cons (.int 1) .nil)))) (.cons (.tup (.cons (.int 1) (.cons (.int 1) (.cons (.int 1) .nil)))) .nil)))))) CF)) .nil))⟩
noncomputable def e0R:R3:=(1,0,0)
noncomputable def e1R:R3:=(0,1,0)
noncomputable def e2R:R3:=(0,0,1)
noncomputable def e3R:R3:=(1,1,1)
theorem nL(hp:P4 p):In3 p e0R/\In3 p e1R/\In3 p e2R/\In3 p e3R:=by
 have z:0<=(0:Ag)/\(0:Ag)<p:=⟨by decide,hp.pos⟩
 have o:0<=(1:Ag)/\(1:Ag)<p:=⟨by decide,by have:=hp.lo;omega⟩
 exact⟨⟨o,z,z⟩,⟨z,o,z⟩,⟨z,z,o⟩,⟨o,o,o⟩⟩
theorem kZ(hp:P4 p):Jj p e0R e1R e2R e3R:=by
 rcases hp with rfl|rfl|rfl|rfl<;>exact⟨by decide,by decide,by decide,by decide⟩
structure Frm (p:Ag) (f0 f1 f2 f3:R3):Prop where
 i0:In3 p f0
 i1:In3 p f1
 i2:In3 p f2
 i3:In3 p f3
 gen:Jj p f0 f1 f2 f3
def bR(Γ:Gam):Prop:=∀(p:Ag)(a b c:R3),GoodR p a b c->∃ f0 f1 f2 f3,Frm p f0 f1 f2 f3/\Γ.F 114 [.int p,Gp a b c]=.ok (Dd f0 f1 f2 f3)
theorem mX(hl:OY Γ){a b c f0 f1 f2 f3:R3}(h:GoodR p a b c)(hf:Frm p f0 f1 f2 f3):∃ g0 g1 g2 g3 d0 d1 d2 d3,Frm p g0 g1 g2 g3/\(d0%p≠0/\d1%p≠0/\d2%p≠0/\d3%p≠0)/\(CgR p g0 (Cr d0 (ap a b c f0))/\CgR p g1 (Cr d1 (ap a b c f1))/\CgR p g2 (Cr d2 (ap a b c f2))/\CgR p g3 (Cr d3 (ap a b c f3)))/\(Γ.F 96 [.int p,BJ a b c,Au Ab f0]=.ok (Au Ab g0)/\Γ.F 96 [.int p,BJ a b c,Au Ab f1]=.ok (Au Ab g1)/\Γ.F 96 [.int p,BJ a b c,Au Ab f2]=.ok (Au Ab g2)/\Γ.F 96 [.int p,BJ a b c,Au Ab f3]=.ok (Au Ab g3)):=by
 obtain⟨g1,g2,g3,g4⟩:=hf.gen;have hp:=h.p4;have s1:Aw f1 f2 f0%p≠0:=by rw[show Aw f1 f2 f0=Aw f0 f1 f2 by unfold Aw det;grind];exact g1
 have s2:Aw f2 f0 f1%p≠0:=by rw[show Aw f2 f0 f1=Aw f0 f1 f2 by unfold Aw det;grind];exact g1
 have s3:Aw f3 f0 f1%p≠0:=by rw[show Aw f3 f0 f1=Aw f0 f1 f3 by unfold Aw det;grind];exact g2
 obtain⟨x0,d0,j0,n0,h0,e0⟩:=hl p a b c f0 f1 f2 hp h.ia h.ib h.ic hf.i0 h.nz g1;obtain⟨x1,d1,j1,n1,h1,e1⟩:=hl p a b c f1 f2 f0 hp h.ia h.ib h.ic hf.i1 h.nz s1;obtain⟨x2,d2,j2,n2,h2,e2⟩:=hl p a b c f2 f0 f1 hp h.ia h.ib h.ic hf.i2 h.nz s2;obtain⟨x3,d3,j3,n3,h3,e3⟩:=hl p a b c f3 f0 f1 hp h.ia h.ib h.ic hf.i3 h.nz s3;exact⟨x0,x1,x2,x3,d0,d1,d2,d3,⟨j0,j1,j2,j3,aQ hp h.nz n0 n1 n2 n3 h0 h1 h2 h3 hf.gen⟩,⟨n0,n1,n2,n3⟩,⟨h0,h1,h2,h3⟩,⟨e0,e1,e2,e3⟩⟩
theorem Zz(ht:RA Γ)(hl:OY Γ)(p:Ag)(a b c:R3)(h:GoodR p a b c):∃ f0 f1 f2 f3,Frm p f0 f1 f2 f3/\Nj.run Γ [.int p,Gp a b c]=.ok (Dd f0 f1 f2 f3):=by
 obtain⟨l,t,el,it,g,_⟩:=W3 h;have e:=ht p a b c l t h.p4 el it;obtain⟨i0,i1,i2,i3⟩:=nL h.p4;obtain⟨f0,f1,f2,f3,d0,d1,d2,d3,fr,_,_,x0,x1,x2,x3⟩:=mX hl g ⟨i0,i1,i2,i3,kZ h.p4⟩;refine⟨f0,f1,f2,f3,fr,?_⟩;generalize BJ (fmR p t a) (fmR p t b) (fmR p t c)=T at *;have key:∀(r s:R3),Γ.F 96 [.int p,T,Au Ab r]=.ok (Au Ab s)->cF Γ [si p,sh (Gp a b c),sh T,Ae] 3 KZ (Au Ab r)=.ok (Au Ab s):=fun r s hs=>by
  simp[cF,KZ,hs]
 have gg:∀ r,cG Γ [si p,sh (Gp a b c),sh T,Ae] 3 CF r=.ok Ab:=fun _=>rfl
 have cp:BV (cG Γ [si p,sh (Gp a b c),sh T,Ae] 3 CF) (cF Γ [si p,sh (Gp a b c),sh T,Ae] 3 KZ) [Au Ab e0R,Au Ab e1R,Au Ab e2R,Au Ab e3R]=.ok [Au Ab f0,Au Ab f1,Au Ab f2,Au Ab f3]:=by
  simp[BV,gg,key _ _ x0,key _ _ x1,key _ _ x2,key _ _ x3]
 have cp':BV (cG Γ [si p,sh (Gp a b c),sh T,Ae] 3 CF) (cF Γ [si p,sh (Gp a b c),sh T,Ae] 3 KZ) [.tup [.int 1,.int 0,.int 0],.tup [.int 0,.int 1,.int 0],.tup [.int 0,.int 0,.int 1],.tup [.int 1,.int 1,.int 1]]=.ok [Au Ab f0,Au Ab f1,Au Ab f2,Au Ab f3]:=cp;simp[Nj,Df.run,Bp,e,cp'];rfl
def Pr(p:Ag)(x y:R3):Prop:=∃ d,d%p≠0/\CgR p x (Cr d y)
section
variable{p:Ag}{a b c x y z f g h:R3}{k:Ag}
theorem R6(x:R3):Cr 1 x=x:=by unfold Cr;simp only[GN]
theorem Pr.rfl(hp:P4 p):Pr p x x:=⟨1,hp.o1,CgR.of (R6 x).symm⟩
theorem Pr.trans(hp:P4 p)(i:Pr p x y)(j:Pr p y z):Pr p x z:=by
 obtain⟨d,dz,e⟩:=i;obtain⟨d',dz',e'⟩:=j;exact⟨d*d',D5 hp dz dz',e.trans ((CgR.sc Cg.rfl e').trans (CgR.of (SU _ _ _)))⟩
theorem Pr.symm(hp:P4 p)(i:Pr p x y):Pr p y x:=by
 obtain⟨d,dz,e⟩:=i;obtain⟨u,u1,u2,u3⟩:=Hu hp dz;have uz:u%p≠0:=by rw[Be (by omega) u2];omega
 have o:Cg p (u*d) 1:=by
  show u*d%p=1%p;rw[CY,u3,Be (by decide) (by have:=hp.lo;omega)]
 refine⟨u,uz,?_⟩;have q:=CgR.sc (k:=u) (k':=u) Cg.rfl e;rw[SU]at q;exact(q.trans ((CgR.sc o CgR.rfl).trans (CgR.of (R6 y)))).symm
theorem lQ{a' b' c' x':R3}(ha:CgR p a a')(hb:CgR p b b')(hc:CgR p c c')(hx:CgR p x x'):CgR p (ap a b c x) (ap a' b' c' x'):=⟨Oo ha hx,Oo hb hx,Oo hc hx⟩
theorem Pr.ap(i:Pr p x y):Pr p (OvC.ap a b c x) (OvC.ap a b c y):=by
 obtain⟨d,dz,e⟩:=i;exact⟨d,dz,(lQ CgR.rfl CgR.rfl CgR.rfl e).trans (CgR.of (lP a b c y d))⟩
theorem eY(a b c x y z:R3):Aw (rm a x y z) (rm b x y z) (rm c x y z)=Aw a b c*Aw x y z:=by
 unfold Aw det rm BG EI EH EK;grind
end
noncomputable def tri(g:R3):Ad Ag:=[g.1,g.2.1,g.2.2]
section
variable{p:Ag}{a b c a' b' c' f0 f1 f2 f3 g0 g1 g2 g3 h0 h1 h2 h3:R3}
end
section
variable{Γ:Gam}{ns:Ad Ag}{p:Ag}
end
def InL(p:Ag)(xs:Ad Ag):Prop:=∀ x∈xs,0<=x/\x<p
theorem InL.set(h:InL p xs)(k:Af){v:Ag}(h0:0<=v)(h1:v<p):InL p (xs.set k v):=fun x hx=>by
 rcases List.mem_or_eq_of_mem_set hx with z|rfl
 ·exact h x z
 ·exact⟨h0,h1⟩
section
variable{Γ:Gam}{ns:Ad Ag}{p at_:Ag}
end
section
variable{Γ:Gam}{ns:Ad Ag}{p t:Ag}
end
structure C6 where
 c0:Ag
 c1:Ag
 c2:Ag
 c3:Ag
 c4:Ag
 c5:Ag
noncomputable def C6.l(C:C6):Ad Ag:=[C.c0,C.c1,C.c2,C.c3,C.c4,C.c5]
noncomputable def scC(k:Ag)(C:C6):C6:=⟨k*C.c0,k*C.c1,k*C.c2,k*C.c3,k*C.c4,k*C.c5⟩
def CgC(p:Ag)(C D:C6):Prop:=Cg p C.c0 D.c0/\Cg p C.c1 D.c1/\Cg p C.c2 D.c2/\Cg p C.c3 D.c3/\Cg p C.c4 D.c4/\Cg p C.c5 D.c5
section
variable{p:Ag}{C D E:C6}{a b c a' b' c' x y x' y':R3}{k k':Ag}
theorem CgC.rfl:CgC p C C:=⟨Cg.rfl,Cg.rfl,Cg.rfl,Cg.rfl,Cg.rfl,Cg.rfl⟩
theorem CgC.of(h:C=D):CgC p C D:=by rw[h];exact CgC.rfl
theorem CgC.symm(h:CgC p C D):CgC p D C:=⟨h.1.symm,h.2.1.symm,h.2.2.1.symm,h.2.2.2.1.symm,h.2.2.2.2.1.symm,h.2.2.2.2.2.symm⟩
theorem CgC.trans(h:CgC p C D)(g:CgC p D E):CgC p C E:=⟨h.1.trans g.1,h.2.1.trans g.2.1,h.2.2.1.trans g.2.2.1,h.2.2.2.1.trans g.2.2.2.1,h.2.2.2.2.1.trans g.2.2.2.2.1,h.2.2.2.2.2.trans g.2.2.2.2.2⟩
theorem CgC.sc(hk:Cg p k k')(h:CgC p C D):CgC p (scC k C) (scC k' D):=⟨hk.mul h.1,hk.mul h.2.1,hk.mul h.2.2.1,hk.mul h.2.2.2.1,hk.mul h.2.2.2.2.1,hk.mul h.2.2.2.2.2⟩
theorem R5(k l:Ag)(C:C6):scC k (scC l C)=scC (k*l) C:=by
 unfold scC;simp only[GY]
theorem Rm(C:C6):scC 1 C=C:=by unfold scC;simp only[GN]
def PrC(p:Ag)(C D:C6):Prop:=∃ d,d%p≠0/\CgC p C (scC d D)
theorem PrC.rfl(hp:P4 p):PrC p C C:=⟨1,hp.o1,CgC.of (Rm C).symm⟩
theorem PrC.trans(hp:P4 p)(i:PrC p C D)(j:PrC p D E):PrC p C E:=by
 obtain⟨d,dz,e⟩:=i;obtain⟨d',dz',e'⟩:=j;exact⟨d*d',D5 hp dz dz',e.trans ((CgC.sc Cg.rfl e').trans (CgC.of (R5 _ _ _)))⟩
theorem fQ(hp:P4 p)(dz:k%p≠0):∃ u,u%p≠0/\Cg p (u*k) 1:=by
 obtain⟨u,u1,u2,u3⟩:=Hu hp dz;refine⟨u,by rw[Be (by omega) u2];omega,?_⟩
 show u*k%p=1%p;rw[CY,u3,Be (by decide) (by have:=hp.lo;omega)]
theorem PrC.symm(hp:P4 p)(i:PrC p C D):PrC p D C:=by
 obtain⟨d,dz,e⟩:=i;obtain⟨u,uz,o⟩:=fQ hp dz;refine⟨u,uz,?_⟩;have q:=CgC.sc (k:=u) (k':=u) Cg.rfl e;rw[R5]at q;exact(q.trans ((CgC.sc o CgC.rfl).trans (CgC.of (Rm D)))).symm
def InC(p:Ag)(C:C6):Prop:=∀ x∈C.l,0<=x/\x<p
end
structure BC (C:C6):Prop where
 b0:Bd 10 C.c0
 b1:Bd 10 C.c1
 b2:Bd 10 C.c2
 b3:Bd 10 C.c3
 b4:Bd 10 C.c4
 b5:Bd 10 C.c5
theorem InC.b{C:C6}(hp:P4 p)(h:InC p C):BC C:=by
 have k:∀ x∈C.l,Bd 10 x:=fun x hx=>JG hp (h x hx).1 (h x hx).2
 exact⟨k _ (by simp[C6.l]),k _ (by simp[C6.l]),k _ (by simp[C6.l]),k _ (by simp[C6.l]),k _ (by simp[C6.l]),k _ (by simp[C6.l])⟩
noncomputable def t0(p:Ag)(C:C6):R3:=(2*C.c0%p,C.c3,C.c4)
noncomputable def t1(p:Ag)(C:C6):R3:=(C.c3,2*C.c1%p,C.c5)
noncomputable def t2(p:Ag)(C:C6):R3:=(C.c4,C.c5,2*C.c2%p)
section
variable{Γ:Gam}{ns:Ad Ag}{p at_:Ag}{φ:Ag->Ag}
end
noncomputable def L3(a b c:R3):Ad D:=[Bl a,Bl b,Bl c]
section
variable{Γ:Gam}{ns:Ad Ag}{mid:Af}{p:Ag}{a b c:R3}{s2 s4 s5 s6 s7 s8:Sl}
end
section
variable{Γ:Gam}{ns:Ad Ag}{p:Ag}{C:C6}{s3 s4 s5 s6 s7 s8:Sl}
end
section
variable{Γ:Gam}{ns:Ad Ag}
end
theorem Ox(hp:P4 p)(kz:k%p≠0):k*x%p=0↔x%p=0:=by
 constructor
 ·intro z;exact Classical.byContradiction fun n=>D5 hp kz n z
 ·intro z;rw[Co,z,F8,C5]
section
variable{Γ:Gam}{ns:Ad Ag}{p:Ag}{C:C6}{s3 s4 s5 s6 s7 s8:Sl}
end
def NF(p:Ag)(x:R3):Prop:=In3 p x/\Cy p (tri x)=Aa 1
noncomputable def q4(w:Af)(k:Ag)(y:R3):Ag:=match w with
  |0=>y.1*y.2.2-y.2.1*y.2.1
  |1=>y.1*y.1
  |2=>y.1*y.2.1
  |_=>y.1*y.1-k*(y.2.1*y.2.1)
noncomputable def AJ(pts:Ad R3):D:=.lst (pts.map (Au Ab))
noncomputable def l3(a:Ag)(A:C6)(b:Ag)(B:C6)(c:Ag)(G:C6):C6:=⟨a*A.c0+b*B.c0+c*G.c0,a*A.c1+b*B.c1+c*G.c1,a*A.c2+b*B.c2+c*G.c2,a*A.c3+b*B.c3+c*G.c3,a*A.c4+b*B.c4+c*G.c4,a*A.c5+b*B.c5+c*G.c5⟩
section
variable{p:Ag}{x y z w:R3}{Q A B G L M:C6}
theorem z0{n:Ag}(h:n%p=0):Cg p n 0:=by show n%p=0%p;rw[h,C5]
theorem z0'{n:Ag}(h:Cg p n 0):n%p=0:=by
 have:n%p=0%p:=h;rw[this,C5]
section
variable{d u0 u1 u2 b0 b1 b2 q A B G l m:Ag}
end
end
--
--
--
--
--
--
section
variable{Γ:Gam}{p:Ag}{P0 P1 P2 P3 P4:D}
end
section
variable{Γ:Gam}{p:Ag}{C:C6}
end
section
variable{p:Ag}{r n a b c x y z u:R3}
theorem par(hp:P4 p)(h1:CgR p (crs r n) (0,0,0))(h2:CgR p (crs r a) (0,0,0))(rz:¬ CgR p r (0,0,0))(nz:¬ CgR p n (0,0,0))(e:BG n z%p=0):BG a z%p=0:=by
 obtain⟨f0,f1,f2⟩:=h1;obtain⟨g0,g1,g2⟩:=h2;simp only[crs]at f0 f1 f2 g0 g1 g2;have sw:∀{x y:Ag},Cg p (x-y) 0->Cg p x y:=fun {x y} h=>(Cg.of (by omega)).trans ((h.add (Cg.rfl (a:=y))).trans (Cg.of (by omega)))
 have d1:=sw f0;have d2:=sw f1;have d3:=sw f2;have c1:=sw g0;have c2:=sw g1;have c3:=sw g2
 -- r i n j=r j n i
 have key:∀ ri ni ai:Ag,Cg p (ri*n.1) (r.1*ni)->Cg p (ri*n.2.1) (r.2.1*ni)->Cg p (ri*n.2.2) (r.2.2*ni)->Cg p (ri*a.1) (r.1*ai)->Cg p (ri*a.2.1) (r.2.1*ai)->Cg p (ri*a.2.2) (r.2.2*ai)->ni%p≠0->BG a z%p=0:=fun ri ni ai k0 k1 k2 l0 l1 l2 hz=>by
  have rn:ri%p≠0:=fun q=>rz ⟨?_,?_,?_⟩
  ·have s1:Cg p (ni*BG r z) 0:=by
    have t:=(((k0.mul (Cg.rfl (a:=z.1))).add (k1.mul (Cg.rfl (a:=z.2.1)))).add (k2.mul (Cg.rfl (a:=z.2.2)))).symm;refine(Cg.of ?_).trans (t.trans ((Cg.of ?_).trans (((Cg.rfl (a:=ri)).mul (z0 e)).trans (Cg.of (F8 _)))))
    ·unfold BG;clear e k0 k1 k2 l0 l1 l2 t c1 c2 c3 d1 d2 d3 f0 f1 f2 g0 g1 g2 sw;grind
    ·unfold BG;clear e k0 k1 k2 l0 l1 l2 t c1 c2 c3 d1 d2 d3 f0 f1 f2 g0 g1 g2 sw;grind
   have s2:=z0 ((Ox hp hz).mp (z0' s1));have s3:Cg p (ri*BG a z) 0:=by
    have t:=(((l0.mul (Cg.rfl (a:=z.1))).add (l1.mul (Cg.rfl (a:=z.2.1)))).add (l2.mul (Cg.rfl (a:=z.2.2))));refine(Cg.of ?_).trans (t.trans ((Cg.of ?_).trans (((Cg.rfl (a:=ai)).mul s2).trans (Cg.of (F8 _)))))
    ·unfold BG;clear e k0 k1 k2 l0 l1 l2 t c1 c2 c3 d1 d2 d3 f0 f1 f2 g0 g1 g2 sw s1 s2;grind
    ·unfold BG;clear e k0 k1 k2 l0 l1 l2 t c1 c2 c3 d1 d2 d3 f0 f1 f2 g0 g1 g2 sw s1 s2;grind
   exact(Ox hp rn).mp (z0' s3)
  all_goals
   refine z0 ((Ox hp hz).mp (z0' ?_))
  ·exact(Cg.of (CY _ _)).trans (k0.symm.trans (((z0 q).mul Cg.rfl).trans (Cg.of (ID _))))
  ·exact(Cg.of (CY _ _)).trans (k1.symm.trans (((z0 q).mul Cg.rfl).trans (Cg.of (ID _))))
  ·exact(Cg.of (CY _ _)).trans (k2.symm.trans (((z0 q).mul Cg.rfl).trans (Cg.of (ID _))))
 by_cases n0:n.1%p=0
 ·by_cases n1:n.2.1%p=0
  ·have n2:n.2.2%p≠0:=fun q=>nz ⟨z0 n0,z0 n1,z0 q⟩
   exact key r.2.2 n.2.2 a.2.2 d2 d1.symm Cg.rfl c2 c1.symm Cg.rfl n2
  ·exact key r.2.1 n.2.1 a.2.1 d3.symm Cg.rfl d1 c3.symm Cg.rfl c1 n1
 ·exact key r.1 n.1 a.1 Cg.rfl d3 d2.symm Cg.rfl c3 c2.symm n0
end
noncomputable def ow(l:Ad R3):Sl:=Aa (AJ l,Ab)
section
variable{p:Ag}{C:C6}
structure N3 (p:Ag) (pts:Ad R3):Prop where
 nd:pts.Nodup
 nf:∀ x∈pts,NF p x
 n3:∀ x y u,x∈pts->y∈pts->u∈pts->x≠y->x≠u->y≠u->Aw x y u%p≠0
end
section
variable{Γ:Gam}{p:Ag}
end
section
variable{Γ:Gam}{p:Ag}{a b c d e f x y:R3}{C:C6}
structure Six (p:Ag) (a b c d e f:R3):Prop where
 n3:N3 p [a,b,c,d,e,f]
 m0:Aw a d e%p≠0/\Aw a d b%p≠0
 m1:Aw b e f%p≠0/\Aw b e c%p≠0
 m2:Aw c f a%p≠0/\Aw c f d%p≠0
 ab:a≠b
 bc:b≠c
 cd:c≠d
 de:d≠e
 ef:e≠f
 fa:f≠a
 mj:Aw b d e%p≠0/\Aw b e f%p≠0/\Aw a b c%p≠0
theorem Six.of(h:N3 p [a,b,c,d,e,f]):Six p a b c d e f:=by
 have nd:=h.nd;simp only[List.nodup_cons,Ay,AN,BP,DN,not_false_eq_true,Ux,and_true]at nd;obtain⟨⟨n01,n02,n03,n04,n05⟩,⟨n12,n13,n14,n15⟩,⟨n23,n24,n25⟩,⟨n34,n35⟩,n45⟩:=nd;have k:∀{x y u:R3},x∈[a,b,c,d,e,f]->y∈[a,b,c,d,e,f]->u∈[a,b,c,d,e,f]->x≠y->x≠u->y≠u->Aw x y u%p≠0:=fun hx hy hu=>h.n3 _ _ _ hx hy hu
 exact⟨h,⟨k (by simp) (by simp) (by simp) n03 n04 n34,k (by simp) (by simp) (by simp) n03 n01 (Ct n13)⟩,⟨k (by simp) (by simp) (by simp) n14 n15 n45,k (by simp) (by simp) (by simp) n14 n12 (Ct n24)⟩,⟨k (by simp) (by simp) (by simp) n25 (Ct n02) (Ct n05),k (by simp) (by simp) (by simp) n25 n23 (Ct n35)⟩,n01,n12,n23,n34,n45,Ct n05,k (by simp) (by simp) (by simp) n13 n14 n34,k (by simp) (by simp) (by simp) n14 n15 n45,k (by simp) (by simp) (by simp) n01 n02 n12⟩
end
section
variable{Γ:Gam}{p i j k d N:Ag}{PP x y u:D}{RL:Ad D}{s t s' t' v:Sl}
end
section
variable{Γ:Gam}{p:Ag}{pts:Ad R3}
end
section
variable{Γ:Gam}{p:Ag}{a b c d e f x y:R3}{C:C6}
theorem Bn.mono{m n:Af}{a:R3}(h:Bn m a)(g:m<=n):Bn n a:=⟨h.1.mono g,h.2.1.mono g,h.2.2.mono g⟩
section
variable{cC PP A B C' D' E F L0 L1 L2 L3 L4 L5 U V W X Y Z J Q:D}
end
end
section
variable{Γ:Gam}{p:Ag}{C:C6}
end
theorem Jq{body:D->Rho->O}(I:Rho->Prop)(f:Af->D)(g:Af->Am D):∀(L:Ad Af),(∀ m∈L,∀ ρ,I ρ->(∃ d,g m=Aa d/\body (f m) ρ=.ret d Ac)\/(g m=Ae/\∃ ρ',body (f m) ρ=.next ρ'/\I ρ'))->∀ ρ,I ρ->(∃ d,L.findSome? g=Aa d/\Dq body (L.map f) ρ=.ret d Ac)\/(L.findSome? g=Ae/\∃ ρ',Dq body (L.map f) ρ=.next ρ'/\I ρ')
 |[],_,ρ,i=>.inr ⟨rfl,ρ,rfl,i⟩
 |m::L,h,ρ,i=>by
  rcases h m (AL ..) ρ i with ⟨d,e1,e2⟩|⟨e1,ρ',e2,i'⟩
  ·refine .inl ⟨d,by rw[Gw,e1],?_⟩
   show (body (f m) ρ).turn _=_;rw[e2];rfl
  ·rcases Jq I f g L (fun m' h'=>h m' (AG _ h')) ρ' i' with ⟨d,a,b⟩|⟨a,r,b,c⟩
   ·refine .inl ⟨d,by rw[Gw,e1];exact a,?_⟩
    show (body (f m) ρ).turn _=_;rw[e2];exact b
   ·refine .inr ⟨by rw[Gw,e1];exact a,r,?_,c⟩
    show (body (f m) ρ).turn _=_;rw[e2];exact b
noncomputable def at6(pts:Ad R3)(i:Af):R3:=pts.getD i (0,0,0)
theorem in6(hg:∀ t∈pts,In3 p t)(h:i<pts.length):In3 p (at6 pts i):=by
 have e:at6 pts i=pts[i]:=by simp[at6,h]
 rw[e];exact hg _ (DV h)
theorem b6(hp:P4 p)(hg:∀ t∈pts,In3 p t)(h:i<pts.length):B3 (at6 pts i):=(D7 hp (in6 hg h)).b3 (by decide)
theorem aO(h:i<pts.length):DB (pts.map (Au Ab)) (i:Ag)=.ok (Au Ab (at6 pts i)):=by
 have h':i<(pts.map (Au Ab)).length:=by simpa using h
 rw[XX _ i h'];simp[at6,h]
theorem HW(h:i<pts.length):DA (AJ pts) (.int (i:Ag))=.ok (Au Ab (at6 pts i)):=aO h
def EZ(n:Af):Prop:=n<20000
theorem cE(hn:EZ n)(hj:j<n):DJ ((j:Ag)+1) (n:Ag)=.ok ((A5 (n-(j+1))).map fun m=>D.int ((j+1+m:Af):Ag)):=by
 have hn':n<20000:=hn;unfold DJ;rw[AF (by omega)]
 unfold F0;have e:((n:Ag)-((j:Ag)+1)).toNat=n-(j+1):=by omega
 rw[e]
 congr 1
theorem S6:∀(xs:Ad D)(s:Af),FY (s:Ag) xs=(A5 xs.length).map fun m=>D.tup [.int ((s+m:Af):Ag),xs.getD m .non]
 |[],s=>rfl
 |x::xs,s=>by
  have ih:=S6 xs (s+1);rw[FY,By,Uy,DF,Hl];have e:((s:Ag)+1)=((s+1:Af):Ag):=by omega
  rw[e,ih]
  congr 1
  apply Uw
  intro m _;show D.tup [.int ((s+1+m:Af):Ag),xs.getD m .non]=D.tup [.int ((s+(m+1):Af):Ag),(x::xs).getD (m+1) .non];have e2:s+1+m=s+(m+1):=by omega
  rw[e2];rfl
noncomputable def h3_(p:Ag)(pts:Ad R3)(i j k:Af):Am D:=if Aw (at6 pts i) (at6 pts j) (at6 pts k)%p=0 then Aa (.tup [Au Ab (at6 pts i),Au Ab (at6 pts j),Au Ab (at6 pts k)]) else Ae
noncomputable def h2_(p:Ag)(pts:Ad R3)(i j:Af):Am D:=(A5 (pts.length-(j+1))).findSome? fun m=>h3_ p pts i j (j+1+m)
noncomputable def h1_(p:Ag)(pts:Ad R3)(i:Af):Am D:=(A5 (pts.length-(i+1))).findSome? fun m=>h2_ p pts i (i+1+m)
noncomputable def h0_(p:Ag)(pts:Ad R3):Am D:=(A5 pts.length).findSome? (h1_ p pts)
theorem Mg{t:Af}{it:I}{body:Ss}{xs:Ad D}(h:FG Γ ρ it=.ok xs):evSs Γ ρ (.cons (.fors t it body) .nil)=Dq (BZ Γ t body) xs ρ:=by rw[K9,eO,NS,h,NX]
theorem LZ{j a l:Af}(hn:EZ pts.length)(hj:j<pts.length)(h1:BF ρ a=.ok (.int (j:Ag)))(h2:BF ρ l=.ok (AJ pts)):FG Γ ρ (.rng2 (.bin .Add (.var a) (.int 1)) (.bi .len (.cons (.var l) .nil)))=.ok ((A5 (pts.length-(j+1))).map fun m=>D.int ((j+1+m:Af):Ag)):=by
 have e1:evE Γ ρ (.bin .Add (.var a) (.int 1))=.ok (.int ((j:Ag)+1)):=by
  show ((BF ρ a).bind fun x=>R.bind (.ok (.int 1)) fun y=>CS .Add x y)=_
  rw[h1];rfl
 have e2:evE Γ ρ (.bi .len (.cons (.var l) .nil))=.ok (.int (pts.length:Ag)):=by
  show (((BF ρ l).bind fun x=>R.bind (.ok []) fun xs=>.ok (x::xs)).bind fun xs=>biD .len xs)=_
  rw[h2];show R.ok (D.int (((pts.map (Au Ab)).length:Af):Ag))=_;rw[Br]
 have e3:∀ x y:E,(∀ r,top ρ x r=r)->(∀ r,top ρ y r=r)->∀ i j:Ag,evE Γ ρ x=.ok (.int i)->evE Γ ρ y=.ok (.int j)->FG Γ ρ (.rng2 x y)=DJ i j:=fun x y tx ty i j hx hy=>by
  rw[WK,X5,tx,ty,hx,hy];simp only[R.bind_ok,Nr]
 rw[e3 _ _ (fun _=>rfl) (fun _=>rfl) _ _ e1 e2]
 exact cE hn hj
section
variable{Γ:Gam}{p:Ag}{pts:Ad R3}
theorem nI(h:Jz Γ)(hp:P4 p)(hg:∀ t∈pts,In3 p t){k:Af}(hi:i<pts.length)(hj:j<pts.length)(hk:k<pts.length)(ρ:Rho)(I:∃ s,ρ=[si p,sh (AJ pts),si i,sh (Au Ab (at6 pts i)),si j,s]):(∃ d,h3_ p pts i j k=Aa d/\BZ Γ 5 Ju (.int (k:Ag)) ρ=.ret d Ac)\/(h3_ p pts i j k=Ae/\∃ ρ',BZ Γ 5 Ju (.int (k:Ag)) ρ=.next ρ'/\∃ s,ρ'=[si p,sh (AJ pts),si i,sh (Au Ab (at6 pts i)),si j,s]):=by
 obtain⟨s,rfl⟩:=I;have e:=h p Ab _ _ _ hp.pos (b6 hp hg hi) (b6 hp hg hj) (b6 hp hg hk);by_cases z:Aw (at6 pts i) (at6 pts j) (at6 pts k)%p=0
 ·rw[z]at e;exact .inl ⟨_,AF z,by simp[BZ,Ju,HW hj,HW hk,e,EY]⟩
 ·exact .inr ⟨AM z,[si p,sh (AJ pts),si i,sh (Au Ab (at6 pts i)),si j,si k],by simp[BZ,Ju,HW hj,HW hk,e,z],_,rfl⟩
theorem nJ(h:Jz Γ)(hp:P4 p)(hg:∀ t∈pts,In3 p t)(hn:EZ pts.length)(hi:i<pts.length)(hj:j<pts.length)(ρ:Rho)(I:∃ s t,ρ=[si p,sh (AJ pts),si i,sh (Au Ab (at6 pts i)),s,t]):(∃ d,h2_ p pts i j=Aa d/\BZ Γ 4 JX (.int (j:Ag)) ρ=.ret d Ac)\/(h2_ p pts i j=Ae/\∃ ρ',BZ Γ 4 JX (.int (j:Ag)) ρ=.next ρ'/\∃ s t,ρ'=[si p,sh (AJ pts),si i,sh (Au Ab (at6 pts i)),s,t]):=by
 obtain⟨s,t,rfl⟩:=I;have e:BZ Γ 4 JX (.int (j:Ag)) [si p,sh (AJ pts),si i,sh (Au Ab (at6 pts i)),s,t]=Dq (BZ Γ 5 Ju) ((A5 (pts.length-(j+1))).map fun m=>D.int ((j+1+m:Af):Ag)) [si p,sh (AJ pts),si i,sh (Au Ab (at6 pts i)),si j,t]:=by
  exact Mg (LZ hn hj rfl rfl)
 rw[e];rcases Jq (body:=BZ Γ 5 Ju) (fun ρ=>∃ s,ρ=[si p,sh (AJ pts),si i,sh (Au Ab (at6 pts i)),si j,s]) (fun m=>D.int ((j+1+m:Af):Ag)) (fun m=>h3_ p pts i j (j+1+m)) (A5 (pts.length-(j+1))) (fun m hm ρ I=>nI h hp hg hi hj (by have:=Bs.mp hm;omega) ρ I) [si p,sh (AJ pts),si i,sh (Au Ab (at6 pts i)),si j,t] ⟨t,rfl⟩ with ⟨d,a,b⟩|⟨a,r,b,u,c⟩
 ·exact .inl ⟨d,a,b⟩
 ·exact .inr ⟨a,r,b,_,u,c⟩
theorem nK(h:Jz Γ)(hp:P4 p)(hg:∀ t∈pts,In3 p t)(hn:EZ pts.length)(hi:i<pts.length)(ρ:Rho)(I:∃ a b s t,ρ=[si p,sh (AJ pts),a,b,s,t]):(∃ d,h1_ p pts i=Aa d/\JE Γ [2,3] HS (.tup [.int ((0+i:Af):Ag),(pts.map (Au Ab)).getD i .non]) ρ=.ret d Ac)\/(h1_ p pts i=Ae/\∃ ρ',JE Γ [2,3] HS (.tup [.int ((0+i:Af):Ag),(pts.map (Au Ab)).getD i .non]) ρ=.next ρ'/\∃ a b s t,ρ'=[si p,sh (AJ pts),a,b,s,t]):=by
 obtain⟨a,b,s,t,rfl⟩:=I;have e0:(pts.map (Au Ab)).getD i .non=Au Ab (at6 pts i):=by simp[at6,hi]
 have e:JE Γ [2,3] HS (.tup [.int ((0+i:Af):Ag),(pts.map (Au Ab)).getD i .non]) [si p,sh (AJ pts),a,b,s,t]=Dq (BZ Γ 4 JX) ((A5 (pts.length-(i+1))).map fun m=>D.int ((i+1+m:Af):Ag)) [si p,sh (AJ pts),si i,sh (Au Ab (at6 pts i)),s,t]:=by
  have e':∀(x y:D),JE Γ [2,3] HS (.tup [x,y]) [si p,sh (AJ pts),a,b,s,t]=evSs Γ [si p,sh (AJ pts),sh x,sh y,s,t] HS:=fun _ _=>rfl
  rw[e0,Nat.zero_add,e'];unfold HS;rw[Mg (LZ hn hi rfl rfl)]
 rw[e];rcases Jq (body:=BZ Γ 4 JX) (fun ρ=>∃ s t,ρ=[si p,sh (AJ pts),si i,sh (Au Ab (at6 pts i)),s,t]) (fun m=>D.int ((i+1+m:Af):Ag)) (fun m=>h2_ p pts i (i+1+m)) (A5 (pts.length-(i+1))) (fun m hm ρ I=>nJ h hp hg hn hi (by have:=Bs.mp hm;omega) ρ I) [si p,sh (AJ pts),si i,sh (Au Ab (at6 pts i)),s,t] ⟨s,t,rfl⟩ with ⟨d,a,b⟩|⟨a,r,b,u,v,c⟩
 ·exact .inl ⟨d,a,b⟩
 ·exact .inr ⟨a,r,b,_,_,u,v,c⟩
theorem Xk(h:Jz Γ)(hp:P4 p)(hg:∀ t∈pts,In3 p t)(hn:EZ pts.length):M2.run Γ [.int p,AJ pts]=.ok ((h0_ p pts).getD .non):=by
 have en:=S6 (pts.map (Au Ab)) 0;rw[Br]at en;have en':FY 0 (pts.map (Au Ab))=(A5 pts.length).map fun m=>D.tup [.int ((0+m:Af):Ag),(pts.map (Au Ab)).getD m .non]:=en
 have hE:FG Γ [si p,sh (AJ pts),Ae,Ae,Ae,Ae] (.enm (.var 1))=.ok ((A5 pts.length).map fun m=>D.tup [.int ((0+m:Af):Ag),(pts.map (Au Ab)).getD m .non]):=by
  show R.ok (FY 0 (pts.map (Au Ab)))=_;rw[en']
 rcases Jq (body:=JE Γ [2,3] HS) (fun ρ=>∃ a b s t,ρ=[si p,sh (AJ pts),a,b,s,t]) (fun m=>D.tup [.int ((0+m:Af):Ag),(pts.map (Au Ab)).getD m .non]) (h1_ p pts) (A5 pts.length) (fun m hm ρ I=>nK h hp hg hn (Bs.mp hm) ρ I) [si p,sh (AJ pts),Ae,Ae,Ae,Ae] ⟨_,_,_,_,rfl⟩ with ⟨d,a,b⟩|⟨a,r,b,u1,u2,u3,u4,c⟩
 ·have e:h0_ p pts=Aa d:=a;show (evSs Γ [si p,sh (AJ pts),Ae,Ae,Ae,Ae] (.cons (.forT [2,3] (.enm (.var 1)) HS) (.cons (.ret .non) .nil))).ans Ac=_;rw[K9,QB,hE,Qx,b,e];rfl
 ·have e:h0_ p pts=Ae:=a;subst c;show (evSs Γ [si p,sh (AJ pts),Ae,Ae,Ae,Ae] (.cons (.forT [2,3] (.enm (.var 1)) HS) (.cons (.ret .non) .nil))).ans Ac=_;rw[K9,QB,hE,Qx,b,e];rfl
end
section
variable{Γ:Gam}{p:Ag}{pts:Ad R3}
theorem Mc(h:h0_ p pts=Aa d):∃ x y u,x∈pts/\y∈pts/\u∈pts/\d=.tup [Au Ab x,Au Ab y,Au Ab u]:=by
 have mem:∀{i:Af},i<pts.length->at6 pts i∈pts:=fun {i} hi=>by
  have e:at6 pts i=pts[i]:=by simp[at6,hi]
  rw[e];exact DV hi
 obtain⟨i,hi,h1⟩:=DU h;obtain⟨j,hj,h2⟩:=DU h1;obtain⟨k,hk,h3⟩:=DU h2;have hi:=Bs.mp hi;have hj:=Bs.mp hj;have hk:=Bs.mp hk;unfold h3_ at h3;split at h3
 ·cases h3;exact⟨_,_,_,mem hi,mem (by omega),mem (by omega),rfl⟩
 ·cases h3
theorem Md(h:h0_ p pts=Ae){k:Af}(h1:i<j)(h2:j<k)(h3:k<pts.length):Aw (at6 pts i) (at6 pts j) (at6 pts k)%p≠0:=by
 have a:=EM.mp h i (Bs.mpr (by omega))
 have b:=EM.mp a (j-(i+1)) (Bs.mpr (by omega))
 rw[show i+1+(j-(i+1))=j by omega]at b
 have c:=EM.mp b (k-(j+1)) (Bs.mpr (by omega))
 rw[show j+1+(k-(j+1))=k by omega]at c
 unfold h3_ at c;split at c
 ·cases c
 ·rename_i z;exact z
noncomputable def onl(d:D):Ex:=⟨118,[(Bx "points", d)]⟩
theorem fG{x y u:R3}(hp:P4 p)(hx:In3 p x)(hy:In3 p y)(hu:In3 p u)(e:d=.tup [Au Ab x,Au Ab y,Au Ab u]):mkX 118 "points" [d]=.ok (onl d):=by
 have ph:=hp.hi;have one:∀{a:R3},In3 p a->xfD 1 (Au Ab a)=Ab:=fun {a} h=>by
  obtain⟨⟨x0,x1⟩,⟨y0,y1⟩,z0,z1⟩:=h;show (C9 3 8&&([D.int a.1,.int a.2.1,.int a.2.2].all (xfD 0)))=Ab;simp[xfD];omega
 have e2:xfD 2 d=Ab:=by
  rw[e];show (C9 3 8&&([Au Ab x,Au Ab y,Au Ab u].all (xfD 1)))=Ab;simp[one hx,one hy,one hu]
 show (if (xfD 1 d||xfD 2 d)=Ab then R.ok (onl d) else .bad)=_
 rw[e2,Hi];rfl
noncomputable def Jy:Df:=⟨3,Ac,(.cons (.asg 2 Ac (.call 65 (.cons (.var 0) (.cons (.var 1) .nil)))) (.cons (.ife (.cmp .IsNot (.var 2) .non) (.cons (.rais 118 (.cons (.var 2) .nil)) .nil) .nil) .nil))⟩
theorem YS(e:Γ.F 65 [.int p,PP]=.ok .non):Jy.run Γ [.int p,PP]=.ok .non:=by
 simp[Jy,Df.run,Bp,e]
theorem Xl{ds:Ad D}(e:Γ.F 65 [.int p,PP]=.ok (.tup ds))(hx:Γ.xn 118 [.tup ds]=.ok (onl (.tup ds))):Jy.run Γ [.int p,PP]=.exn (onl (.tup ds)):=by
 simp[Jy,Df.run,Bp,e,hx]
end
noncomputable def LG:Df:=⟨15,Ac,(.cons (.asgT [4,5,6] (.var 1)) (.cons (.asgT [7,8,9] (.var 2)) (.cons (.asgT [10,11,12] (.var 3)) (.cons (.asg 13 Ac (.bin .Mult (.var 4) (.bin .Sub (.bin .Mult (.var 8) (.var 12)) (.bin .Mult (.var 9) (.var 11))))) (.cons (.asg 14 Ac (.bin .Mult (.var 5) (.bin .Sub (.bin .Mult (.var 7) (.var 12)) (.bin .Mult (.var 9) (.var 10))))) (.cons (.ret (.bin .Mod (.bin .Add (.bin .Sub (.var 13) (.var 14)) (.bin .Mult (.var 6) (.bin .Sub (.bin .Mult (.var 7) (.var 11)) (.bin .Mult (.var 8) (.var 10))))) (.var 0))) .nil))))))⟩
def Lr(Γ:Gam):Prop:=∀(p:Ag)(a b c:R3),P4 p->In3 p a->In3 p b->In3 p c->Γ.F 113 [.int p,Au Ab a,Au Ab b,Au Ab c]=.ok (.int (Aw a b c%p))
theorem kF(Γ:Gam)(p:Ag)(a b c:R3)(hp:P4 p)(ha:In3 p a)(hb:In3 p b)(hc:In3 p c):LG.run Γ [.int p,Au Ab a,Au Ab b,Au Ab c]=.ok (.int (Aw a b c%p)):=by
 have ba:=D7 hp ha;have bb:=D7 hp hb;have bc:=D7 hp hc;have k:∀ {u v},Bd 10 u->Bd 10 v->GI u v=Ab:=fun hu hv=>JC hu hv (by decide) (by decide)
 have k2:∀ {u x y z w},Bd 10 u->Bd 10 x->Bd 10 y->Bd 10 z->Bd 10 w->GI u (x*y-z*w)=Ab:=fun hu hx hy hz hw=>JC hu ((hx.mul hy).sub (hz.mul hw)) (by decide) (by decide)
 have p0:=hp.pos;obtain⟨a0,a1,a2⟩:=a;obtain⟨b0,b1,b2⟩:=b;obtain⟨c0,c1,c2⟩:=c;have ea:∀(x y z:Ag)(i j k:Af)(ρ:Rho),IZ [i,j,k] (Au Ab (x,y,z)) ρ=.ok (((ρ.set i (si x)).set j (si y)).set k (si z)):=fun _ _ _ _ _ _ _=>rfl
 simp[LG,Df.run,Bp,ea,p0,k bb.2.1 bc.2.2,k bb.2.2 bc.2.1,k bb.1 bc.2.2,k bb.2.2 bc.1,k bb.1 bc.2.1,k bb.2.1 bc.1,k2 ba.1 bb.2.1 bc.2.2 bb.2.2 bc.2.1,k2 ba.2.1 bb.1 bc.2.2 bb.2.2 bc.1,k2 ba.2.2 bb.1 bc.2.1 bb.2.1 bc.1];rfl
noncomputable def Jt:Ss:=(.cons (.ife (.cmp .Eq (.call 113 (.cons (.var 0) (.cons (.idx (.var 1) (.var 2)) (.cons (.idx (.var 1) (.var 3)) (.cons (.idx (.var 1) (.var 4)) .nil))))) (.int 0)) (.cons (.ret (.tup (.cons (.idx (.var 1) (.var 2)) (.cons (.idx (.var 1) (.var 3)) (.cons (.idx (.var 1) (.var 4)) .nil))))) .nil) .nil) .nil)
noncomputable def JY:Ss:=(.cons (.fors 4 (.rng2 (.bin .Add (.var 3) (.int 1)) (.bi .len (.cons (.var 1) .nil))) Jt) .nil)
noncomputable def Js:Ss:=(.cons (.fors 3 (.rng2 (.bin .Add (.var 2) (.int 1)) (.bi .len (.cons (.var 1) .nil))) JY) .nil)
noncomputable def Nc:Df:=⟨5,Ac,(.cons (.fors 2 (.rng (.bi .len (.cons (.var 1) .nil))) Js) (.cons (.ret .non) .nil))⟩
section
variable{Γ:Gam}{p:Ag}{pts:Ad R3}
theorem nM(h:Lr Γ)(hp:P4 p)(hg:∀ t∈pts,In3 p t){k:Af}(hi:i<pts.length)(hj:j<pts.length)(hk:k<pts.length)(ρ:Rho)(I:∃ s,ρ=[si p,sh (AJ pts),si i,si j,s]):(∃ d,h3_ p pts i j k=Aa d/\BZ Γ 4 Jt (.int (k:Ag)) ρ=.ret d Ac)\/(h3_ p pts i j k=Ae/\∃ ρ',BZ Γ 4 Jt (.int (k:Ag)) ρ=.next ρ'/\∃ s,ρ'=[si p,sh (AJ pts),si i,si j,s]):=by
 obtain⟨s,rfl⟩:=I;have e:=h p _ _ _ hp (in6 hg hi) (in6 hg hj) (in6 hg hk);by_cases z:Aw (at6 pts i) (at6 pts j) (at6 pts k)%p=0
 ·rw[z]at e;exact .inl ⟨_,AF z,by simp[BZ,Jt,HW hi,HW hj,HW hk,e,EY]⟩
 ·exact .inr ⟨AM z,[si p,sh (AJ pts),si i,si j,si k],by simp[BZ,Jt,HW hi,HW hj,HW hk,e,z],_,rfl⟩
theorem nN(h:Lr Γ)(hp:P4 p)(hg:∀ t∈pts,In3 p t)(hn:EZ pts.length)(hi:i<pts.length)(hj:j<pts.length)(ρ:Rho)(I:∃ s t,ρ=[si p,sh (AJ pts),si i,s,t]):(∃ d,h2_ p pts i j=Aa d/\BZ Γ 3 JY (.int (j:Ag)) ρ=.ret d Ac)\/(h2_ p pts i j=Ae/\∃ ρ',BZ Γ 3 JY (.int (j:Ag)) ρ=.next ρ'/\∃ s t,ρ'=[si p,sh (AJ pts),si i,s,t]):=by
 obtain⟨s,t,rfl⟩:=I;have e:BZ Γ 3 JY (.int (j:Ag)) [si p,sh (AJ pts),si i,s,t]=Dq (BZ Γ 4 Jt) ((A5 (pts.length-(j+1))).map fun m=>D.int ((j+1+m:Af):Ag)) [si p,sh (AJ pts),si i,si j,t]:=by
  exact Mg (LZ hn hj rfl rfl)
 rw[e];rcases Jq (body:=BZ Γ 4 Jt) (fun ρ=>∃ s,ρ=[si p,sh (AJ pts),si i,si j,s]) (fun m=>D.int ((j+1+m:Af):Ag)) (fun m=>h3_ p pts i j (j+1+m)) (A5 (pts.length-(j+1))) (fun m hm ρ I=>nM h hp hg hi hj (by have:=Bs.mp hm;omega) ρ I) [si p,sh (AJ pts),si i,si j,t] ⟨t,rfl⟩ with ⟨d,a,b⟩|⟨a,r,b,u,c⟩
 ·exact .inl ⟨d,a,b⟩
 ·exact .inr ⟨a,r,b,_,u,c⟩
theorem nO(h:Lr Γ)(hp:P4 p)(hg:∀ t∈pts,In3 p t)(hn:EZ pts.length)(hi:i<pts.length)(ρ:Rho)(I:∃ r s t,ρ=[si p,sh (AJ pts),r,s,t]):(∃ d,h1_ p pts i=Aa d/\BZ Γ 2 Js (.int (0+(i:Ag))) ρ=.ret d Ac)\/(h1_ p pts i=Ae/\∃ ρ',BZ Γ 2 Js (.int (0+(i:Ag))) ρ=.next ρ'/\∃ r s t,ρ'=[si p,sh (AJ pts),r,s,t]):=by
 obtain⟨r,s,t,rfl⟩:=I;rw[Ui];have e:BZ Γ 2 Js (.int (i:Ag)) [si p,sh (AJ pts),r,s,t]=Dq (BZ Γ 3 JY) ((A5 (pts.length-(i+1))).map fun m=>D.int ((i+1+m:Af):Ag)) [si p,sh (AJ pts),si i,s,t]:=by
  exact Mg (LZ hn hi rfl rfl)
 rw[e];rcases Jq (body:=BZ Γ 3 JY) (fun ρ=>∃ s t,ρ=[si p,sh (AJ pts),si i,s,t]) (fun m=>D.int ((i+1+m:Af):Ag)) (fun m=>h2_ p pts i (i+1+m)) (A5 (pts.length-(i+1))) (fun m hm ρ I=>nN h hp hg hn hi (by have:=Bs.mp hm;omega) ρ I) [si p,sh (AJ pts),si i,s,t] ⟨s,t,rfl⟩ with ⟨d,a,b⟩|⟨a,r,b,u,v,c⟩
 ·exact .inl ⟨d,a,b⟩
 ·exact .inr ⟨a,r,b,_,u,v,c⟩
theorem cH(hn:EZ n):DJ 0 (n:Ag)=.ok ((A5 n).map fun(i:Af)=>D.int (0+(i:Ag))):=by
 unfold EZ at hn;unfold DJ;rw[AF ⟨⟨by omega,by omega⟩,⟨by omega,by omega⟩,by omega⟩,IC,G9]
 rfl
theorem Xf(h:Lr Γ)(hp:P4 p)(hg:∀ t∈pts,In3 p t)(hn:EZ pts.length):Nc.run Γ [.int p,AJ pts]=.ok ((h0_ p pts).getD .non):=by
 have hE:FG Γ [si p,sh (AJ pts),Ae,Ae,Ae] (.rng (.bi .len (.cons (.var 1) .nil)))=.ok ((A5 pts.length).map fun(i:Af)=>D.int (0+(i:Ag))):=by
  have e2:∀ ρ:Rho,BF ρ 1=.ok (AJ pts)->evE Γ ρ (.bi .len (.cons (.var 1) .nil))=.ok (.int (pts.length:Ag)):=fun ρ h2=>by
   show (((BF ρ 1).bind fun x=>R.bind (.ok []) fun xs=>.ok (x::xs)).bind fun xs=>biD .len xs)=_
   rw[h2];show R.ok (D.int (((pts.map (Au Ab)).length:Af):Ag))=_;rw[Br]
  have e3:∀(ρ:Rho)(x:E),(∀ r,top ρ x r=r)->∀ j:Ag,evE Γ ρ x=.ok (.int j)->FG Γ ρ (.rng x)=DJ 0 j:=fun ρ x tx j hx=>by
   rw[X4,ZP,tx,hx];simp only[R.bind_ok,Nr]
  rw[e3 _ _ (fun _=>rfl) _ (e2 _ rfl)]
  exact cH hn
 rcases Jq (body:=BZ Γ 2 Js) (fun ρ=>∃ r s t,ρ=[si p,sh (AJ pts),r,s,t]) (fun(m:Af)=>D.int (0+(m:Ag))) (h1_ p pts) (A5 pts.length) (fun m hm ρ I=>nO h hp hg hn (Bs.mp hm) ρ I) [si p,sh (AJ pts),Ae,Ae,Ae] ⟨_,_,_,rfl⟩ with ⟨d,a,b⟩|⟨a,r,b,u1,u2,u3,c⟩
 ·have e:h0_ p pts=Aa d:=a;show (evSs Γ [si p,sh (AJ pts),Ae,Ae,Ae] (.cons (.fors 2 (.rng (.bi .len (.cons (.var 1) .nil))) Js) (.cons (.ret .non) .nil))).ans Ac=_;rw[K9,NS,hE,NX,b,e];rfl
 ·have e:h0_ p pts=Ae:=a;subst c;show (evSs Γ [si p,sh (AJ pts),Ae,Ae,Ae] (.cons (.fors 2 (.rng (.bi .len (.cons (.var 1) .nil))) Js) (.cons (.ret .non) .nil))).ans Ac=_;rw[K9,NS,hE,NX,b,e];rfl
end
theorem Zx(hk:Tg Γ)(hf:TY Γ)(hb:Sy Γ)(ha:RD Γ){g0 g1 g2 g3:R3}(hp:P4 p)(F:Frm p f0 f1 f2 f3)(G:Frm p g0 g1 g2 g3):∃ a b c,In3 p a/\In3 p b/\In3 p c/\FU.run Γ [.int p,Dd f0 f1 f2 f3,Dd g0 g1 g2 g3]=.ok (BJ a b c):=by
 have p0:=hp.pos;have e1:=hk p f0 f1 f2 f3 hp F.i0 F.i1 F.i2 F.i3 F.gen;have e2:=hk p g0 g1 g2 g3 hp G.i0 G.i1 G.i2 G.i3 G.gen;have zM:=SZ hp F.gen;have zN:=SZ hp G.gen;have fmz:∀{v:Ag}{x y z:R3},v%p≠0->Aw x y z%p≠0->Aw (fmR p v x) (fmR p v y) (fmR p v z)%p≠0:=fun {v x y z} vz h=>JI ((J9 (JF p v x) (JF p v y) (JF p v z)).trans (Cg.of (Mp v v v x y z))) (D5 hp (nz3 hp vz vz vz) h)
 obtain⟨lM,eM⟩:=K1 zM;obtain⟨v,v1,v2,v3⟩:=Hu hp (HR p0 eM).1;have e4:=hf p f0 f1 f2 f3 hp F.i0 F.i1 F.i2 F.i3 zM lM v eM ⟨v1,v2,v3⟩;obtain⟨lN,eN⟩:=K1 zN;obtain⟨u,u1,u2,u3⟩:=Hu hp (HR p0 eN).1;have e3:=hf p g0 g1 g2 g3 hp G.i0 G.i1 G.i2 G.i3 zN lN u eN ⟨u1,u2,u3⟩;have vz:v%p≠0:=by rw[Be (by omega) v2];omega
 have uz:u%p≠0:=by rw[Be (by omega) u2];omega
 have zM':=fmz vz zM;have zN':=fmz uz zN;have ix:=Fi p0 v (fr0 p f0 f1 f2 f3);have iy:=Fi p0 v (fr1 p f0 f1 f2 f3);have iz:=Fi p0 v (fr2 p f0 f1 f2 f3);have jx:=Fi p0 u (fr0 p g0 g1 g2 g3);have jy:=Fi p0 u (fr1 p g0 g1 g2 g3);have jz:=Fi p0 u (fr2 p g0 g1 g2 g3);generalize fmR p v (fr0 p f0 f1 f2 f3)=x at *;generalize fmR p v (fr1 p f0 f1 f2 f3)=y at *;generalize fmR p v (fr2 p f0 f1 f2 f3)=z at *;generalize fmR p u (fr0 p g0 g1 g2 g3)=x' at *;generalize fmR p u (fr1 p g0 g1 g2 g3)=y' at *;generalize fmR p u (fr2 p g0 g1 g2 g3)=z' at *;have zB:Aw (bk0 x y z) (bk1 x y z) (bk2 x y z)%p≠0:=by rw[Su];exact D5 hp zM' zM'
 obtain⟨lB,eB⟩:=K1 zB;obtain⟨w,w1,w2,w3⟩:=Hu hp (HR p0 eB).1;have wz:w%p≠0:=by rw[Be (by omega) w2];omega
 have e5:=hb p _ _ _ hp ix iy iz zM' lB w eB ⟨w1,w2,w3⟩;have zB':=fmz wz zB;have k0:=Fi p0 w (bk0 x y z);have k1:=Fi p0 w (bk1 x y z);have k2:=Fi p0 w (bk2 x y z);generalize fmR p w (bk0 x y z)=B0 at *;generalize fmR p w (bk1 x y z)=B1 at *;generalize fmR p w (bk2 x y z)=B2 at *;have zR:Aw (mlR p x' B0 B1 B2) (mlR p y' B0 B1 B2) (mlR p z' B0 B1 B2)%p≠0:=JI ((J9 (OF p x' B0 B1 B2) (OF p y' B0 B1 B2) (OF p z' B0 B1 B2)).trans (Cg.of (eY x' y' z' B0 B1 B2))) (D5 hp zN' zB');obtain⟨l,el⟩:=K1 zR;obtain⟨t,t1,t2,t3⟩:=Hu hp (HR p0 el).1;have e6:=ha p _ _ _ _ _ _ hp jx jy jz k0 k1 k2 zR l t el ⟨t1,t2,t3⟩;exact⟨_,_,_,Fi p0 t _,Fi p0 t _,Fi p0 t _,cM e1 e2 e3 e4 e5 e6⟩
noncomputable def Na:E:=(.bin .Add (.var 9) (.bin .Mult (.var 7) (.var 10)))
noncomputable def HU:Df:=⟨11,Ac,(.cons (.asg 3 Ac (.bin .Mod (.var 2) (.int 6))) (.cons (.asg 4 Ac (.bin .Mod (.bin .FloorDiv (.var 2) (.int 6)) (.int 4))) (.cons (.asg 5 Ac (.idx (.var 1) (.bin .Mod (.bin .Add (.var 4) (.int 1)) (.int 4)))) (.cons (.asg 6 Ac (.idx (.var 1) (.bin .Mod (.bin .Add (.var 4) (.int 2)) (.int 4)))) (.cons (.ife (.cmp .Eq (.var 3) (.int 1)) (.cons (.ret (.bin .Add (.sl (.var 1) .non (.var 4)) (.sl (.var 1) (.bin .Add (.var 4) (.int 1)) .non))) .nil) .nil) (.cons (.ife (.cmp .Eq (.var 3) (.int 2)) (.cons (.ret (.bin .Add (.var 1) (.lst (.cons (.var 5) .nil)))) .nil) .nil) (.cons (.ife (.cmp .Eq (.var 3) (.int 3)) (.cons (.ret (.bin .Add (.bin .Add (.sl (.var 1) .non (.var 4)) (.lst (.cons (.var 5) .nil))) (.sl (.var 1) (.bin .Add (.var 4) (.int 1)) .non))) .nil) .nil) (.cons (.ife (.cmp .Eq (.var 3) (.int 4)) (.cons (.asg 7 Ac (.bin .Add (.int 1) (.bin .Mod (.bin .FloorDiv (.var 2) (.int 24)) (.bin .Sub (.var 0) (.int 1))))) (.cons (.asg 8 Ac (.call 82 (.cons (.var 0) (.cons (.compT Na [9,10] (.zip (.var 5) (.var 6)) CF) .nil)))) (.cons (.ret (.bin .Add (.bin .Add (.sl (.var 1) .non (.var 4)) (.lst (.cons (.var 8) .nil))) (.sl (.var 1) (.bin .Add (.var 4) (.int 1)) .non))) .nil))) .nil) (.cons (.ret (.var 1)) .nil)))))))))⟩
section
variable{Γ:Gam}{p:Ag}
noncomputable def cmb(t:Ag)(x y:R3):R3:=(x.1+t*y.1,x.2.1+t*y.2.1,x.2.2+t*y.2.2)
theorem ZX(t:Ag)(x y z:R3):Aw (cmb t x y) y z=Aw x y z:=by
 unfold Aw det cmb;grind
theorem XY(hf:Lb Γ)(hp:P4 p){x y z:R3}(h:Aw x y z%p≠0)(t:Ag):∃ g,In3 p g/\Γ.F 82 [.int p,.lst [.int (x.1+t*y.1),.int (x.2.1+t*y.2.1),.int (x.2.2+t*y.2.2)]]=.ok (Au Ab g):=by
 have p0:=hp.pos;cases el:Cy p [x.1+t*y.1,x.2.1+t*y.2.1,x.2.2+t*y.2.2] with
 |none=>
  have hz:=LM.mp el;have z0:(cmb t x y).1%p=0:=hz _ (by simp[cmb])
  have z1:(cmb t x y).2.1%p=0:=hz _ (by simp[cmb])
  have z2:(cmb t x y).2.2%p=0:=hz _ (by simp[cmb])
  refine absurd ?_ h;rw[<-ZX t];have e:Cg p (Aw (cmb t x y) y z) (Aw (0,0,0) y z):=J9 ⟨by show (cmb t x y).1%p=0%p;rw[z0];simp,by show (cmb t x y).2.1%p=0%p;rw[z1];simp,by show (cmb t x y).2.2%p=0%p;rw[z2];simp⟩ CgR.rfl CgR.rfl
  rw[show Aw (cmb t x y) y z%p=_ from e,show Aw (0,0,0) y z=0 by unfold Aw det;grind,C5]
 |some l=>
  obtain⟨u,u1,u2,u3⟩:=Hu hp (HR p0 el).1;have e:=hf p Ac [x.1+t*y.1,x.2.1+t*y.2.1,x.2.2+t*y.2.2] l u hp el ⟨u1,u2,u3⟩;exact⟨fmR p u (cmb t x y),Fi p0 u _,e⟩
theorem Yo{s1 s2 s3 s4 s5 s6:Sl}(t:Ag)(x y:R3)(h0:0<=t)(h1:t<100):BV (cGT Γ [si p,s1,s2,s3,s4,s5,s6,si t,Ae,Ae,Ae] [9,10] CF) (cFT Γ [si p,s1,s2,s3,s4,s5,s6,si t,Ae,Ae,Ae] [9,10] Na) (FD [.int x.1,.int x.2.1,.int x.2.2] [.int y.1,.int y.2.1,.int y.2.2])=.ok [.int (x.1+t*y.1),.int (x.2.1+t*y.2.1),.int (x.2.2+t*y.2.2)]:=by
 have m:∀ x,CP t x=Ab:=fun x=>G4 (by omega) (by omega)
 simp[BV,cGT,cFT,FD,Na,CF,m]
def XJ(Γ:Gam):Prop:=∀(p m:Ag)(f0 f1 f2 f3:R3),P4 p->Frm p f0 f1 f2 f3->0<=m->∃ pts:Ad R3,pts.length<=5/\(∀ t∈pts,In3 p t)/\Γ.F 116 [.int p,Dd f0 f1 f2 f3,.int m]=.ok (AJ pts)
theorem bA{F one oth:D}{x y:R3}{g:D}{M:Ad D}{m a:Ag}(ea:m / 6%4=a)(et:1+m / 24%(p-1)=t)(p1:0<p-1)(t0:0<=t)(t1:t<100)(h1:DA F (.int ((a+1)%4))=.ok one)(h2:DA F (.int ((a+2)%4))=.ok oth)(hx:one=Au Ab x)(hy:oth=Au Ab y)(hL:slD F Ae (Aa a)=.ok (.lst L))(hM:slD F (Aa (a+1)) Ae=.ok (.lst M))(hF:Γ.F 82 [.int p,.lst [.int (x.1+t*y.1),.int (x.2.1+t*y.2.1),.int (x.2.2+t*y.2.2)]]=.ok g)(lL:L.length<10)(lM:M.length<10)(w2:m%6=2->∃ K,F=.lst K/\K.length<10):
  HU.run Γ [.int p,F,.int m]=.ok (if m%6=1 then .lst (L++M) else if m%6=2 then (match F with | .lst K=>.lst (K++[one])|_=>.non) else if m%6=3 then .lst (L++[one]++M) else if m%6=4 then .lst (L++[g]++M) else F):=by
 have sz:∀ n:Af,n<40->Ec n=Ab:=fun n hn=>UB (by omega)
 by_cases c1:m%6=1
 ·simp[HU,Df.run,Bp,ea,h1,h2,c1,hL,hM,sz (L.length+M.length) (by omega)]
 ·by_cases c2:m%6=2
  ·obtain⟨K,rfl,hK⟩:=w2 c2;simp[HU,Df.run,Bp,ea,h1,h2,c2,sz (K.length+1) (by omega)]
  ·by_cases c3:m%6=3
   ·simp[HU,Df.run,Bp,ea,h1,h2,c3,hL,hM,sz (L.length+1) (by omega),sz (L.length+1+M.length) (by omega),sz (L.length+(M.length+1)) (by omega)]
   ·by_cases c4:m%6=4
    ·subst hx hy;have z:=Yo (Γ:=Γ) (p:=p) (s1:=sh F) (s2:=si m) (s3:=si 4) (s4:=si a) (s5:=sh (Au Ab x)) (s6:=sh (Au Ab y)) t x y t0 t1;have q1:Cw (Au Ab x)=.ok [.int x.1,.int x.2.1,.int x.2.2]:=rfl;have q2:Cw (Au Ab y)=.ok [.int y.1,.int y.2.1,.int y.2.2]:=rfl;simp[HU,Df.run,Bp,ea,et,h1,h2,c4,hL,hM,show 1<p by omega,q1,q2,z,hF,sz (L.length+1) (by omega),sz (L.length+1+M.length) (by omega),sz (L.length+(M.length+1)) (by omega)]
    ·simp[HU,Df.run,Bp,ea,h1,h2,c1,c2,c3,c4]
theorem Xg(hf:Lb Γ)(p m:Ag)(f0 f1 f2 f3:R3)(hp:P4 p)(F:Frm p f0 f1 f2 f3)(m0:0<=m):∃ pts:Ad R3,pts.length<=5/\(∀ t∈pts,In3 p t)/\HU.run Γ [.int p,Dd f0 f1 f2 f3,.int m]=.ok (AJ pts):=by
 have lo:=hp.lo;have hi:=hp.hi;have p1:0<p-1:=by omega
 have t0:0<=1+m / 24%(p-1):=by have:=Bg (m / 24) (show p-1≠0 by omega);omega
 have t1:1+m / 24%(p-1)<100:=by have:=A6 (m / 24) p1;omega
 obtain⟨g1,g2,g3,g4⟩:=F.gen;have key:∀(x y z:R3)(a:Ag)(L M:Ad R3),In3 p x->Aw x y z%p≠0->m / 6%4=a->DA (Dd f0 f1 f2 f3) (.int ((a+1)%4))=.ok (Au Ab x)->DA (Dd f0 f1 f2 f3) (.int ((a+2)%4))=.ok (Au Ab y)->slD (Dd f0 f1 f2 f3) Ae (Aa a)=.ok (AJ L)->slD (Dd f0 f1 f2 f3) (Aa (a+1)) Ae=.ok (AJ M)->L.length+M.length=3->(∀ t∈L,In3 p t)->(∀ t∈M,In3 p t) ->
   ∃ pts:Ad R3,pts.length<=5/\(∀ t∈pts,In3 p t)/\HU.run Γ [.int p,Dd f0 f1 f2 f3,.int m]=.ok (AJ pts):=fun x y z a L M ix h ea h1 h2 hL hM hn iL iM=>by
  obtain⟨g,ig,eg⟩:=XY hf hp h (1+m / 24%(p-1));have e:=bA (Γ:=Γ) (F:=Dd f0 f1 f2 f3) ea rfl p1 t0 t1 h1 h2 rfl rfl hL hM eg (by rw[Br];omega) (by rw[Br];omega) (fun _=>⟨_,rfl,by show (4:Af)<10;decide⟩)
  have four:∀ t∈[f0,f1,f2,f3],In3 p t:=fun t ht=>by
   simp only[Ay,AN,BP]at ht;rcases ht with rfl|rfl|rfl|rfl
   ·exact F.i0
   ·exact F.i1
   ·exact F.i2
   ·exact F.i3
  have app:∀{A B:Ad R3},(∀ t∈A,In3 p t)->(∀ t∈B,In3 p t)->∀ t∈A++B,In3 p t:=fun hA hB t ht=>(F9.mp ht).elim (hA t) (hB t)
  have sg:∀{u:R3},In3 p u->∀ t∈[u],In3 p t:=fun hu t ht=>by rw[Bu.mp ht];exact hu
  rw[e];by_cases c1:m%6=1
  ·refine⟨L++M,by rw[BW];omega,app iL iM,?_⟩
   rw[AF c1];unfold AJ;rw[E4]
  ·rw[AM c1];by_cases c2:m%6=2
   ·refine⟨[f0,f1,f2,f3]++[x],by simp,app four (sg ix),?_⟩
    rw[AF c2];rfl
   ·rw[AM c2];by_cases c3:m%6=3
    ·refine⟨L++[x]++M,by rw[BW,BW,F5];omega,app (app iL (sg ix)) iM,?_⟩
     rw[AF c3];unfold AJ;rw[E4,E4];rfl
    ·rw[AM c3];by_cases c4:m%6=4
     ·refine⟨L++[g]++M,by rw[BW,BW,F5];omega,app (app iL (sg ig)) iM,?_⟩
      rw[AF c4];unfold AJ;rw[E4,E4];rfl
     ·refine⟨[f0,f1,f2,f3],by simp,four,?_⟩
      rw[AM c4];rfl
 have r0:0<=m / 6%4/\m / 6%4<4:=⟨Bg _ (by decide),A6 _ (by decide)⟩
 have s1:Aw f2 f3 f0%p≠0:=by rw[show Aw f2 f3 f0=Aw f0 f2 f3 by unfold Aw det;grind];exact g3
 have s2:Aw f3 f0 f1%p≠0:=by rw[show Aw f3 f0 f1=Aw f0 f1 f3 by unfold Aw det;grind];exact g2
 have in1:∀{u:R3},In3 p u->∀ t∈[u],In3 p t:=fun hu t ht=>by rw[Bu.mp ht];exact hu
 have inC:∀{u:R3}{A:Ad R3},In3 p u->(∀ t∈A,In3 p t)->∀ t∈u::A,In3 p t:=fun hu hA t ht=>(Ay.mp ht).elim (fun e=>e ▸ hu) (hA t)
 have in0:∀ t∈([]:Ad R3),In3 p t:=fun t ht=>nomatch ht
 rcases (show m / 6%4=0\/m / 6%4=1\/m / 6%4=2\/m / 6%4=3 by omega) with ea|ea|ea|ea
 ·exact key f1 f2 f3 0 [] [f1,f2,f3] F.i1 g4 ea rfl rfl rfl rfl rfl in0 (inC F.i1 (inC F.i2 (in1 F.i3)))
 ·exact key f2 f3 f0 1 [f0] [f2,f3] F.i2 s1 ea rfl rfl rfl rfl rfl (in1 F.i0) (inC F.i2 (in1 F.i3))
 ·exact key f3 f0 f1 2 [f0,f1] [f3] F.i3 s2 ea rfl rfl rfl rfl rfl (inC F.i0 (in1 F.i1)) (in1 F.i3)
 ·exact key f0 f1 f2 3 [f0,f1,f2] [] F.i0 g1 ea rfl rfl rfl rfl rfl (inC F.i0 (inC F.i1 (in1 F.i2))) in0
noncomputable def IV:Df:=⟨4,Ac,(.cons (.ife (.or (.cons (.cmp .NotEq (.bi .len (.cons (.var 1) .nil)) (.int 4)) (.cons (.cmp .NotEq (.bi .len (.cons (.var 2) .nil)) (.int 4)) .nil))) (.cons (.ret (.tup (.cons (.str (Bx "count")) (.cons .non .nil)))) .nil) .nil) (.cons (.asg 3 Ac (.call 115 (.cons (.var 0) (.cons (.var 1) .nil)))) (.cons (.ife (.cmp .Is (.var 3) .non) (.cons (.asg 3 Ac (.call 115 (.cons (.var 0) (.cons (.var 2) .nil)))) .nil) .nil) (.cons (.ife (.cmp .IsNot (.var 3) .non) (.cons (.ret (.tup (.cons (.str (Bx "line")) (.cons (.var 3) .nil)))) .nil) .nil) (.cons (.ret (.tup (.cons (.str (Bx "told")) (.cons .non .nil)))) .nil)))))⟩
noncomputable def Io:Df:=⟨8,Ac,(.cons (.asg 3 Ac (.str (Bx "told"))) (.cons (.asg 4 Ac .non) (.cons (.asg 5 Ac (.bl Ab)) (.cons (.try2 (.cons (.asg 6 Ac (.call 112 (.cons (.var 0) (.cons (.var 1) (.cons (.var 2) .nil))))) .nil) 118 7 (.cons (.asg 3 Ac (.str (Bx "line"))) (.cons (.asg 4 Ac (.fld (.var 7) (Bx "points"))) (.cons (.asg 5 Ac (.and (.cons (.isi (.var 7) [.cls 0]) (.cons (.no (.isi (.var 7) [.cls 13])) (.cons (.no (.isi (.var 7) [.cls 107])) .nil))))) .nil))) 13 (.cons (.asg 3 Ac (.str (Bx "count"))) (.cons (.asg 5 Ac (.and (.cons (.isi (.var 7) [.cls 0]) (.cons (.isi (.var 7) [.verr]) (.cons (.no (.isi (.var 7) [.cls 4])) .nil))))) .nil)) (.cons (.asg 5 Ac (.call 87 (.cons (.var 6) (.cons (.var 0) .nil)))) .nil)) (.cons (.ife (.no (.var 5)) (.cons (.asg 3 Ac (.str (Bx "none of these"))) .nil) .nil) (.cons (.ret (.tup (.cons (.var 3) (.cons (.var 4) .nil)))) .nil))))))⟩
noncomputable def sD(x:Dh):D:=.str (Bx x)
noncomputable def Iu(p:Ag)(ps qs:Ad R3):D:=if ps.length≠4\/qs.length≠4 then .tup [sD "count", .non] else match h0_ p ps with
  |some d=>.tup [sD "line", d]
  | none=>(match h0_ p qs with
    |some d=>.tup [sD "line", d]
    | none=>.tup [sD "told", .non])
theorem Mz(ps:Ad R3):biD .len [AJ ps]=.ok (.int (ps.length:Ag)):=by
 show R.ok (D.int (((ps.map (Au Ab)).length:Af):Ag))=_;rw[Br]
theorem ZC{ps qs:Ad R3}(h1:Γ.F 115 [.int p,AJ ps]=.ok ((h0_ p ps).getD .non))(h2:Γ.F 115 [.int p,AJ qs]=.ok ((h0_ p qs).getD .non)):IV.run Γ [.int p,AJ ps,AJ qs]=.ok (Iu p ps qs):=by
 have l1:=Mz ps;have l2:=Mz qs;unfold Iu;by_cases c1:ps.length=4
 ·by_cases c2:qs.length=4
  ·rw[AM (by omega)]
   have k1:(ps.length:Ag)=4:=by omega
   have k2:(qs.length:Ag)=4:=by omega
   rw[k1]at l1;rw[k2]at l2;cases e1:h0_ p ps with
   |some d=>
    obtain⟨x,y,u,_,_,_,rfl⟩:=Mc e1;rw[e1]at h1;have h1:Γ.F 115 [.int p,AJ ps]=.ok (.tup [Au Ab x,Au Ab y,Au Ab u]):=h1;generalize AJ ps=A at *;generalize AJ qs=B at *;simp[IV,Df.run,Bp,l1,l2,h1,sD]
   |none=>
    rw[e1]at h1;have h1:Γ.F 115 [.int p,AJ ps]=.ok .non:=h1;cases e2:h0_ p qs with
    |some d=>
     obtain⟨x,y,u,_,_,_,rfl⟩:=Mc e2;rw[e2]at h2;have h2:Γ.F 115 [.int p,AJ qs]=.ok (.tup [Au Ab x,Au Ab y,Au Ab u]):=h2;generalize AJ ps=A at *;generalize AJ qs=B at *;simp[IV,Df.run,Bp,l1,l2,h1,h2,sD]
    |none=>
     rw[e2]at h2;have h2:Γ.F 115 [.int p,AJ qs]=.ok .non:=h2;generalize AJ ps=A at *;generalize AJ qs=B at *;simp[IV,Df.run,Bp,l1,l2,h1,h2,sD]
  ·rw[AF (.inr c2)];have k2:¬ (qs.length:Ag)=4:=by omega
   have k1:(ps.length:Ag)=4:=by omega
   rw[k1]at l1;generalize (qs.length:Ag)=n at *;generalize AJ ps=A at *;generalize AJ qs=B at *;simp[IV,Df.run,Bp,l1,l2,k2,sD]
 ·rw[AF (.inl c1)];have k1:¬ (ps.length:Ag)=4:=by omega
  generalize (ps.length:Ag)=n at *;generalize AJ ps=A at *;generalize AJ qs=B at *;simp[IV,Df.run,Bp,l1,k1,sD]
noncomputable def nc:Ex:=⟨13,[]⟩
theorem WY{m n:Ag}(l1:biD .len [A]=.ok (.int m))(l2:biD .len [B]=.ok (.int n))(h:m≠4\/n≠4)(hx:∀ ds,Γ.xn 13 ds=.ok nc):FU.run Γ [.int p,A,B]=.exn nc:=by
 by_cases c:m=4
 ·have c2:n≠4:=h.resolve_left (fun z=>z c)
  subst c;simp[FU,Df.run,Bp,l1,l2,c2,hx]
 ·simp[FU,Df.run,Bp,l1,l2,c,hx]
theorem jL{x:Ex}(l1:biD .len [A]=.ok (.int 4))(l2:biD .len [B]=.ok (.int 4))(e:Γ.F 109 [.int p,A]=.exn x):FU.run Γ [.int p,A,B]=.exn x:=by
 simp[FU,Df.run,Bp,l1,l2,e]
theorem jK{x:Ex}(l1:biD .len [A]=.ok (.int 4))(l2:biD .len [B]=.ok (.int 4))(e:Γ.F 109 [.int p,A]=.ok .non)(e':Γ.F 109 [.int p,B]=.exn x):FU.run Γ [.int p,A,B]=.exn x:=by
 simp[FU,Df.run,Bp,l1,l2,e,e']
theorem jN(e:Γ.F 112 [.int p,A,B]=.exn nc)(u:Γ.up 13=[13,0]):Io.run Γ [.int p,A,B]=.ok (.tup [sD "count", .non]):=by
 unfold nc at e;simp[Io,Df.run,Bp,e,u,hdO,kiD,DK,sD]
theorem S8(e:Γ.F 112 [.int p,A,B]=.exn (onl d))(u:Γ.up 118=[118,0]):Io.run Γ [.int p,A,B]=.ok (.tup [sD "line", d]):=by
 unfold onl at e;simp[Io,Df.run,Bp,e,u,hdO,kiD,DK,Ly,sD]
theorem jM{T:D}(e:Γ.F 112 [.int p,A,B]=.ok T)(e':Γ.F 87 [T,.int p]=.ok (.bl Ab)):Io.run Γ [.int p,A,B]=.ok (.tup [sD "told", .non]):=by
 simp[Io,Df.run,Bp,e,e',sD]
noncomputable def LO:Df:=⟨6,Ac,(.cons (.asg 1 Ac (.call 81 (.cons (.var 0) .nil))) (.cons (.asg 2 Ac (.call 116 (.cons (.var 1) (.cons (.call 114 (.cons (.var 1) (.cons (.call 83 (.cons (.var 0) (.cons (.var 1) (.cons (.int 4) (.cons (.int 8) .nil))))) .nil))) (.cons (.call 79 (.cons (.var 0) (.cons (.int 1) .nil))) .nil))))) (.cons (.asg 3 Ac (.call 116 (.cons (.var 1) (.cons (.call 114 (.cons (.var 1) (.cons (.call 83 (.cons (.var 0) (.cons (.var 1) (.cons (.int 12) (.cons (.int 8) .nil))))) .nil))) (.cons (.call 79 (.cons (.var 0) (.cons (.int 2) .nil))) .nil))))) (.cons (.ife (.cmp .Eq (.bin .Mod (.call 79 (.cons (.var 0) (.cons (.int 3) .nil))) (.int 3)) (.int 0)) (.cons (.asg 3 Ac (.call 114 (.cons (.var 1) (.cons (.call 83 (.cons (.var 0) (.cons (.var 1) (.cons (.int 12) (.cons (.int 8) .nil))))) .nil)))) .nil) .nil) (.cons (.asg 4 Ac (.tup (.cons (.bi .list (.cons (.var 2) .nil)) (.cons (.bi .list (.cons (.var 3) .nil)) .nil)))) (.cons (.asg 5 Ac (.call 118 (.cons (.var 1) (.cons (.idx (.var 4) (.int 0)) (.cons (.idx (.var 4) (.int 1)) .nil))))) (.cons (.ret (.and (.cons (.cmp .Eq (.var 5) (.call 117 (.cons (.var 1) (.cons (.var 2) (.cons (.var 3) .nil))))) (.cons (.cmp .Eq (.var 4) (.tup (.cons (.var 2) (.cons (.var 3) .nil)))) .nil)))) .nil)))))))⟩
theorem eU{S R1 R2 F1 F2 A B' X:D}{c1 c2 c3:Ag}(e1:Γ.F 81 [S]=.ok (.int p))(e2:Γ.F 83 [S,.int p,.int 4,.int 8]=.ok R1)(e3:Γ.F 114 [.int p,R1]=.ok F1)(e4:Γ.F 79 [S,.int 1]=.ok (.int c1))(e5:Γ.F 116 [.int p,F1,.int c1]=.ok A)(f2:Γ.F 83 [S,.int p,.int 12,.int 8]=.ok R2)(f3:Γ.F 114 [.int p,R2]=.ok F2)(f4:Γ.F 79 [S,.int 2]=.ok (.int c2))(f5:Γ.F 116 [.int p,F2,.int c2]=.ok B')(g1:Γ.F 79 [S,.int 3]=.ok (.int c3))(l1:biD .list [A]=.ok A)(l2:biD .list [if c3%3=0 then F2 else B']=.ok (if c3%3=0 then F2 else B'))(h1:Γ.F 118 [.int p,A,if c3%3=0 then F2 else B']=.ok X)(h2:Γ.F 117 [.int p,A,if c3%3=0 then F2 else B']=.ok X)(x1:flD 5 X=Ab)(x2:eqD X X=Ab)(y1:flD 5 (.tup [A,if c3%3=0 then F2 else B'])=Ab)(y2:eqD (.tup [A,if c3%3=0 then F2 else B']) (.tup [A,if c3%3=0 then F2 else B'])=Ab):LO.run Γ [S]=.ok (.bl Ab):=by
 by_cases c:c3%3=0
 ·rw[AF c]at *;have i0:DA (.tup [A,F2]) (.int 0)=.ok A:=rfl;have i1:DA (.tup [A,F2]) (.int 1)=.ok F2:=rfl;have cq:BK .Eq (.tup [A,F2]) (.tup [A,F2])=.ok (.bl Ab):=by
   show (if (flD 5 (.tup [A,F2])&&flD 5 (.tup [A,F2]))=Ab then R.ok (D.bl (eqD (.tup [A,F2]) (.tup [A,F2]))) else .bad)=_
   rw[y1,y2];rfl
  have cx:BK .Eq X X=.ok (.bl Ab):=by
   show (if (flD 5 X&&flD 5 X)=Ab then R.ok (D.bl (eqD X X)) else .bad)=_
   rw[x1,x2];rfl
  simp[LO,Df.run,Bp,e1,e2,e3,e4,e5,f2,f3,f4,f5,g1,c,l1,l2,i0,i1,h1,h2,cq,cx,x1,x2,y1,y2]
 ·rw[AM c]at *;have i0:DA (.tup [A,B']) (.int 0)=.ok A:=rfl;have i1:DA (.tup [A,B']) (.int 1)=.ok B':=rfl;have cq:BK .Eq (.tup [A,B']) (.tup [A,B'])=.ok (.bl Ab):=by
   show (if (flD 5 (.tup [A,B'])&&flD 5 (.tup [A,B']))=Ab then R.ok (D.bl (eqD (.tup [A,B']) (.tup [A,B']))) else .bad)=_
   rw[y1,y2];rfl
  have cx:BK .Eq X X=.ok (.bl Ab):=by
   show (if (flD 5 X&&flD 5 X)=Ab then R.ok (D.bl (eqD X X)) else .bad)=_
   rw[x1,x2];rfl
  simp[LO,Df.run,Bp,e1,e2,e3,e4,e5,f2,f3,f4,f5,g1,c,l1,l2,i0,i1,h1,h2,cq,cx,x1,x2,y1,y2]
theorem OJ:∀ ps:Ad R3,eqDs (ps.map (Au Ab)) (ps.map (Au Ab))=Ab
 |[]=>rfl
 |x::r=>by
  show (eqD (Au Ab x) (Au Ab x)&&eqDs (r.map (Au Ab)) (r.map (Au Ab)))=Ab;rw[On,OJ r,Ii rfl];rfl
theorem lO(ps:Ad R3)(n:Af):(ps.map (Au Ab)).all (flD (n+1))=Ab:=by
 rw[Dt];intro d hd;obtain⟨x,_,rfl⟩:=IE.mp hd;cases n<;>rfl
theorem eS(ps qs:Ad R3):flD 5 (.tup [AJ ps,AJ qs])=Ab/\eqD (.tup [AJ ps,AJ qs]) (.tup [AJ ps,AJ qs])=Ab:=by
 constructor
 ·show ([AJ ps,AJ qs].all (flD 4))=Ab;have h:∀ l:Ad R3,flD 4 (AJ l)=Ab:=fun l=>lO l 2
  simp[h]
 ·show (eqD (AJ ps) (AJ ps)&&(eqD (AJ qs) (AJ qs)&&Ab))=Ab;rw[show eqD (AJ ps) (AJ ps)=Ab from OJ ps,show eqD (AJ qs) (AJ qs)=Ab from OJ qs]
  rfl
theorem eV(p:Ag)(ps qs:Ad R3):flD 5 (Iu p ps qs)=Ab/\eqD (Iu p ps qs) (Iu p ps qs)=Ab:=by
 have nn:∀ x:Dh,flD 5 (.tup [sD x,.non])=Ab/\eqD (.tup [sD x,.non]) (.tup [sD x,.non])=Ab:=fun x=>⟨rfl,by simp[eqD,eqDs,sD]⟩
 have ln:∀{l:Ad R3}{d:D},h0_ p l=Aa d->flD 5 (.tup [sD "line", d])=Ab/\eqD (.tup [sD "line", d]) (.tup [sD "line", d])=Ab:=fun {l d} h=>by
  obtain⟨x,y,u,_,_,_,rfl⟩:=Mc h;exact⟨rfl,by simp[eqD,eqDs,sD,On]⟩
 unfold Iu;split
 ·exact nn _
 ·split
  ·exact ln (by assumption)
  ·split
   ·exact ln (by assumption)
   ·exact nn _
end
noncomputable def mD:Af->Ad Af
 |2=>[2,0]
 |3=>[3,0]
 |107=>[107,0]
 |118=>[118,0]
 |4=>[4,0]
 |13=>[13,0]
 |_=>[]
noncomputable def HB:Af->Ad D->R Ex
 |2,_=>.ok ⟨2,[]⟩
 |3,_=>.ok ⟨3,[]⟩
 |107,ds=>mkX 107 "triple" ds
 |118,ds=>mkX 118 "points" ds
 |4,_=>.ok ⟨4,[]⟩
 |13,_=>.ok ⟨13,[]⟩
 |_,_=>.bad
noncomputable def Q25:Prg:=⟨Ab,fun
 |1=>Oi
 |9=>LI
 |17=>LS
 |23=>NG
 |61=>NC
 |65=>M2
 |109=>Jy
 |104=>NH
 |91=>NB
 |78=>Ng
 |98=>MW
 |105=>N7
 |106=>Nm
 |110=>NK
 |111=>M1
 |112=>FU
 |79=>LC
 |81=>MV
 |82=>M0
 |95=>NE
 |113=>LG
 |83=>Nh
 |84=>Nq
 |96=>ND
 |114=>Nj
 |85=>Nb
 |86=>MU
 |87=>M3
 |115=>Nc
 |116=>HU
 |117=>IV
 |118=>Io
 |119=>LO
 | _=>⟨0,Ac,.nil⟩,fun _=>.non,mD,HB⟩
theorem Sc(h:h0_ p [f0,f1,f2,f3]=Ae):Jj p f0 f1 f2 f3:=by
 have a0:at6 [f0,f1,f2,f3] 0=f0:=rfl;have a1:at6 [f0,f1,f2,f3] 1=f1:=rfl;have a2:at6 [f0,f1,f2,f3] 2=f2:=rfl;have a3:at6 [f0,f1,f2,f3] 3=f3:=rfl;have ln:[f0,f1,f2,f3].length=4:=rfl;have k0:=Md h (i:=0) (j:=1) (k:=2) (by decide) (by decide) (by rw[ln];decide)
 have k1:=Md h (i:=0) (j:=1) (k:=3) (by decide) (by decide) (by rw[ln];decide)
 have k2:=Md h (i:=0) (j:=2) (k:=3) (by decide) (by decide) (by rw[ln];decide)
 have k3:=Md h (i:=1) (j:=2) (k:=3) (by decide) (by decide) (by rw[ln];decide)
 rw[a0,a1,a2]at k0;rw[a0,a1,a3]at k1;rw[a0,a2,a3]at k2;rw[a1,a2,a3]at k3;exact⟨k0,k1,k2,k3⟩
theorem eQ(h:Jj p f0 f1 f2 f3):h0_ p [f0,f1,f2,f3]=Ae:=by
 have r4:A5 4=[0,1,2,3]:=rfl;have r3:A5 3=[0,1,2]:=rfl;have r2:A5 2=[0,1]:=rfl;have r1:A5 1=[0]:=rfl;have a0:at6 [f0,f1,f2,f3] 0=f0:=rfl;have a1:at6 [f0,f1,f2,f3] 1=f1:=rfl;have a2:at6 [f0,f1,f2,f3] 2=f2:=rfl;have a3:at6 [f0,f1,f2,f3] 3=f3:=rfl;obtain⟨g0,g1,g2,g3⟩:=h;simp[h0_,h1_,h2_,h3_,r4,r3,r2,r1,a0,a1,a2,a3,g0,g1,g2,g3]
theorem Rh{α:Type}:∀{l:Ad α},l.length=4->∃ a b c d,l=[a,b,c,d]
 |[a,b,c,d],_=>⟨a,b,c,d,rfl⟩
 |[],h=>nomatch h
 |[_],h=>nomatch h
 |[_,_],h=>nomatch h
 |[_,_,_],h=>nomatch h
 |_::_::_::_::_::_,h=>by simp at h
theorem jO(ns:Ad Ag):(gam Q25 9).F 119 [scr ns]=.ok (.bl Ab):=by
 have rs:∀ n,Kt (gam Q25 (n+1)):=fun n p m hp=>Dx (cL _ p m hp)
 have mi:∀ n,Mj (gam Q25 (n+1)):=fun n ns k hk=>Dx (cN _ ns k hk)
 have tu:∀ n,Nt (gam Q25 (n+2)):=fun n p m hp z=>let ⟨t,t1,t2,t3,e⟩:=WP (rs n) p m hp z;⟨t,t1,t2,t3,Dx e⟩
 have fo:∀ n,RB (gam Q25 (n+3)):=fun n p b xs l t hp e it=>Dx (ZA (rs (n+1)) (tu n) hp e it)
 have me:∀ n,Jz (gam Q25 (n+2)):=fun n p q a b c hp ha hb hc=>Dx (Zy (rs n) p q a b c hp ha hb hc)
 have tf:∀ n,Mi (gam Q25 (n+4)):=fun n p t q a b c hp ha hb hc z l u e it=>Dx (cJ (me (n+1)) (fo n) p t q a b c hp ha hb hc z l u e it)
 have co:∀ n,Mk (gam Q25 (n+1)):=fun n t q a b c=>Dx (cP _ t q a b c)
 have su:∀ n,Sw (gam Q25 (n+2)):=fun n p t q q' a b c x hp ha hb hc hx=>Dx (cK (rs n) p t q q' a b c x hp ha hb hc hx)
 have cr:∀ n,RC (gam Q25 (n+2)):=fun n a b c ha hb hc n1 n2 n3=>Dx (ZD (fun a b ha hb ne=>Dx (ZE _ a b ha hb ne)) a b c ha hb hc n1 n2 n3)
 have ba:∀ n,Sy (gam Q25 (n+5)):=fun n p a b c hp ha hb hc z l u e it=>Dx (cQ (cr (n+2)) (co (n+3)) (tf n) p a b c hp ha hb hc z l u e it)
 have af:∀ n,RD (gam Q25 (n+5)):=fun n p x y z a b c hp hx hy hz ha hb hc nz l u e it=>Dx (YT (co (n+3)) (su (n+2)) (tf n) p x y z a b c hp hx hy hz ha hb hc nz l u e it)
 have ft:∀ n,TY (gam Q25 (n+5)):=fun n p a b c d hp ha hb hc hd z l u e it=>Dx (mC (me (n+2)) (fun k a h0 h1=>Dx (Xh _ k a h0 h1)) (co (n+3)) (tf n) p a b c d hp ha hb hc hd z l u e it)
 have gF:∀(n i:Af)(ds:Ad D),(gam Q25 (n+1)).F i ds=Dk Ab ((Q25.defs i).run (gam Q25 n) ds):=fun _ _ _=>rfl
 have d115:Q25.defs 115=Nc:=rfl;have d113:Q25.defs 113=LG:=rfl;have lm:∀ n,Lr (gam Q25 (n+1)):=fun n p a b c hp ha hb hc=>by
  rw[gF n 113,d113,kF _ p a b c hp ha hb hc];rfl
 have fi:∀ n (p:Ag) (pts:Ad R3),P4 p->(∀ t∈pts,In3 p t)->EZ pts.length->(gam Q25 (n+3)).F 65 [.int p,AJ pts]=.ok ((h0_ p pts).getD .non):=fun n p pts hp hg hn=>by
  have e:=Xk (me n) hp hg hn;generalize AJ pts=F at e ⊢;show Dk Ab (M2.run (gam Q25 (n+2)) [.int p,F])=_;rw[e];rfl
 have th:∀ n (p:Ag) (pts:Ad R3),P4 p->(∀ t∈pts,In3 p t)->EZ pts.length->(gam Q25 (n+2)).F 115 [.int p,AJ pts]=.ok ((h0_ p pts).getD .non):=fun n p pts hp hg hn=>by
  have e:=Xf (lm n) hp hg hn;generalize AJ pts=F at e ⊢;rw[gF (n+1) 115 [.int p,F],d115,e];rfl
 have ask0:∀ n (p:Ag) (pts:Ad R3),P4 p->(∀ t∈pts,In3 p t)->EZ pts.length->h0_ p pts=Ae->(gam Q25 (n+4)).F 109 [.int p,AJ pts]=.ok .non:=fun n p pts hp hg hn h=>by
  have e1:=fi n p pts hp hg hn;rw[h]at e1;have e:=YS e1;generalize AJ pts=F at e ⊢;show Dk Ab (Jy.run (gam Q25 (n+3)) [.int p,F])=_;rw[e];rfl
 have ask1:∀ n (p:Ag) (pts:Ad R3) (d:D),P4 p->(∀ t∈pts,In3 p t)->EZ pts.length->h0_ p pts=Aa d->(gam Q25 (n+4)).F 109 [.int p,AJ pts]=.exn (onl d):=fun n p pts d hp hg hn h=>by
  have e1:=fi n p pts hp hg hn;rw[h]at e1;obtain⟨x,y,u,mx,my,mu,ed⟩:=Mc h;have hx:=fG hp (hg x mx) (hg y my) (hg u mu) ed;subst ed;have e:=Xl (Γ:=gam Q25 (n+3)) e1 hx;generalize AJ pts=F at e ⊢;show Dk Ab (Jy.run (gam Q25 (n+3)) [.int p,F])=_;rw[e];rfl
 have ask:∀ n,Tg (gam Q25 (n+4)):=fun n p a b c d hp ha hb hc hd h=>by
  have inC:∀{u:R3}{A:Ad R3},In3 p u->(∀ t∈A,In3 p t)->∀ t∈u::A,In3 p t:=fun hu hA t ht=>(Ay.mp ht).elim (fun e=>e ▸ hu) (hA t)
  have in0:∀ t∈([]:Ad R3),In3 p t:=fun t ht=>absurd ht AN
  have hg:=inC ha (inC hb (inC hc (inC hd in0)));have q:Dd a b c d=AJ [a,b,c,d]:=rfl;rw[q];exact ask0 n p [a,b,c,d] hp hg (show (4:Af)<20000 by decide) (eQ h)
 have f2:∀ n,Lb (gam Q25 (n+1)):=fun n p b xs l t hp e it=>Dx (ZB _ hp e it)
 have tb:∀ n,RA (gam Q25 (n+2)):=fun n p a b c l t hp e it=>Dx (Zw (f2 n) p a b c l t hp e it)
 have ld:∀ n,OY (gam Q25 (n+2)):=fun n p a b c f y z hp ha hb hc hf hD hy=>let ⟨g,d,h1,h2,h3,e⟩:=kG (fun q q' a x ha hx=>Dx (kH _ q q' a x ha hx)) (f2 n) p a b c f y z hp ha hb hc hf hD hy;⟨g,d,h1,h2,h3,Dx e⟩
 have lk:∀ n,gJ (gam Q25 (n+3)):=fun n p a b c ha hb hc=>Dx (cO (fun p xs hx=>Dx (Xi (fun x=>Dx (Xe _ x)) p xs hx)) p a b c ha hb hc)
 have fr:∀ n,bR (gam Q25 (n+3)):=fun n p a b c h=>let ⟨f0,f1,f2,f3,fr,e⟩:=Zz (tb n) (ld n) p a b c h;⟨f0,f1,f2,f3,fr,Dx e⟩
 have sp:∀ n,XJ (gam Q25 (n+2)):=fun n p m f0 f1 f2' f3 hp F m0=>by
  obtain⟨pts,h1,h2,e⟩:=Xg (f2 n) p m f0 f1 f2' f3 hp F m0;refine⟨pts,h1,h2,?_⟩;generalize AJ pts=G at e ⊢;generalize Dd f0 f1 f2' f3=F at e ⊢;show Dk Ab (HU.run (gam Q25 (n+1)) [.int p,F,.int m])=_;rw[e];rfl
 have met:∀(p:Ag)(ps qs:Ad R3),P4 p->ps.length<=5->qs.length<=5->(∀ t∈ps,In3 p t)->(∀ t∈qs,In3 p t)->(gam Q25 8).F 118 [.int p,AJ ps,AJ qs]=.ok (Iu p ps qs):=fun p ps qs hp n1 n2 h1 h2=>by
  have w1:EZ ps.length:=BX n1 (by decide)
  have w2:EZ qs.length:=BX n2 (by decide)
  have go:∀{A B R:D},Io.run (gam Q25 7) [.int p,A,B]=.ok R->(gam Q25 8).F 118 [.int p,A,B]=.ok R:=fun {A B R} e=>by
   show Dk Ab (Io.run (gam Q25 7) [.int p,A,B])=_;rw[e];rfl
  have gox:∀{A B:D}{R:Ex},FU.run (gam Q25 6) [.int p,A,B]=.exn R->(gam Q25 7).F 112 [.int p,A,B]=.exn R:=fun {A B R} e=>by
   show Dk Ab (FU.run (gam Q25 6) [.int p,A,B])=_;rw[e];rfl
  have l1:=Mz ps;have l2:=Mz qs;unfold Iu;by_cases c:ps.length≠4\/qs.length≠4
  ·rw[AF c];exact go (jN (gox (WY l1 l2 (by omega) (fun _=>rfl))) rfl)
  ·rw[AM c];have c1:ps.length=4:=by omega
   have c2:qs.length=4:=by omega
   rw[show (ps.length:Ag)=4 by omega]at l1
   rw[show (qs.length:Ag)=4 by omega]at l2
   cases e1:h0_ p ps with
   |some d=>exact go (S8 (gox (jL l1 l2 (ask1 2 p ps d hp h1 w1 e1))) rfl)
   |none=>
    cases e2:h0_ p qs with
    |some d=>exact go (S8 (gox (jK l1 l2 (ask0 2 p ps hp h1 w1 e1) (ask1 2 p qs d hp h2 w2 e2))) rfl)
    |none=>
     obtain⟨f0,f1,f2',f3,rfl⟩:=Rh c1;obtain⟨g0,g1,g2',g3,rfl⟩:=Rh c2;have F:Frm p f0 f1 f2' f3:=⟨h1 _ (by simp),h1 _ (by simp),h1 _ (by simp),h1 _ (by simp),Sc e1⟩
     have G:Frm p g0 g1 g2' g3:=⟨h2 _ (by simp),h2 _ (by simp),h2 _ (by simp),h2 _ (by simp),Sc e2⟩
     obtain⟨a,b,c',ia,ib,ic,e⟩:=Zx (ask 2) (ft 1) (ba 1) (af 1) hp F G;have lk':=lk 4 p a b c' ia ib ic;have e':FU.run (gam Q25 6) [.int p,AJ [f0,f1,f2',f3],AJ [g0,g1,g2',g3]]=.ok (BJ a b c'):=e;generalize AJ [f0,f1,f2',f3]=A at *;generalize AJ [g0,g1,g2',g3]=B at *;generalize BJ a b c'=T at *;have e7:(gam Q25 7).F 112 [.int p,A,B]=.ok T:=by
      show Dk Ab (FU.run (gam Q25 6) [.int p,A,B])=_;rw[e'];rfl
     exact go (jM e7 lk')
 have hp:P4 (pr4 (FF ns 0)):=cV _;have e1:(gam Q25 8).F 81 [scr ns]=_:=Dx (Xj (mi 6) ns);generalize pr4 (FF ns 0)=p at *;obtain⟨a1,b1,c1,gd1,x1⟩:=RF (mi 6) ns p 4 8 hp (by decide) (by decide) (by decide)
 obtain⟨a2,b2,c2,gd2,x2⟩:=RF (mi 6) ns p 12 8 hp (by decide) (by decide) (by decide)
 obtain⟨f0,f1,f2',f3,Fr,x3⟩:=fr 5 p a1 b1 c1 gd1;obtain⟨g0,g1,g2',g3,Gr,x4⟩:=fr 5 p a2 b2 c2 gd2;have m1:=mi 7 ns 1 (by decide)
 have m2:=mi 7 ns 2 (by decide)
 have m3:=mi 7 ns 3 (by decide)
 obtain⟨ps,n1,i1,s1⟩:=sp 6 p (FF ns 1) f0 f1 f2' f3 hp Fr (N5 ns 1);obtain⟨qs,n2,i2,s2⟩:=sp 6 p (FF ns 2) g0 g1 g2' g3 hp Gr (N5 ns 2);have inC:∀{u:R3}{A:Ad R3},In3 p u->(∀ t∈A,In3 p t)->∀ t∈u::A,In3 p t:=fun hu hA t ht=>(Ay.mp ht).elim (fun e=>e ▸ hu) (hA t)
 have four:Dd g0 g1 g2' g3=AJ [g0,g1,g2',g3]:=rfl;rw[four]at x4 s2;obtain⟨rs',n3,i3,er⟩:∃ rs':Ad R3,rs'.length<=5/\(∀ t∈rs',In3 p t)/\(if FF ns 3%3=0 then AJ [g0,g1,g2',g3] else AJ qs)=AJ rs':=by
  by_cases c:FF ns 3%3=0
  ·exact⟨[g0,g1,g2',g3],by simp,inC Gr.i0 (inC Gr.i1 (inC Gr.i2 (inC Gr.i3 (fun t ht=>absurd ht AN)))),AF c⟩
  ·exact⟨qs,n2,i2,AM c⟩
 have w1:EZ ps.length:=BX n1 (by decide)
 have w3:EZ rs'.length:=BX n3 (by decide)
 have h1:=met p ps rs' hp n1 n3 i1 i3;have h2':=ZC (Γ:=gam Q25 7) (th 5 p ps hp i1 w1) (th 5 p rs' hp i3 w3);obtain⟨u1,u2⟩:=eV p ps rs';obtain⟨v1,v2⟩:=eS ps rs';have lT:∀ l:Ad R3,biD .list [AJ l]=.ok (AJ l):=fun _=>rfl
 have la:=lT ps;have lb:=lT rs';have y1:(gam Q25 8).F 83 [scr ns,.int p,.int 4,.int 8]=.ok (Gp a1 b1 c1):=Dx x1;have y2:(gam Q25 8).F 83 [scr ns,.int p,.int 12,.int 8]=.ok (Gp a2 b2 c2):=Dx x2;rw[<-er]at h1 h2' v1 v2 lb;generalize Iu p ps rs'=X at *;have h2:(gam Q25 8).F 117 [.int p,AJ ps,if FF ns 3%3=0 then AJ [g0,g1,g2',g3] else AJ qs]=.ok X:=by
  generalize (if FF ns 3%3=0 then AJ [g0,g1,g2',g3] else AJ qs)=B at h2' ⊢
  generalize AJ ps=A at h2' ⊢;show Dk Ab (IV.run (gam Q25 7) [.int p,A,B])=_;rw[h2'];rfl
 have fin:=eU (Γ:=gam Q25 8) e1 y1 x3 m1 s1 y2 x4 m2 s2 m3 la lb h1 h2 u1 u2 v1 v2;exact Dx fin
end OvC
namespace OvC
open PySem PySem.Spec PyProof.Rows Ov L2
variable{l:FL}
noncomputable def tp25(i:Af):A4:=PySem.Challenge.pw_ovalfield_k25_frames_refused.main.body.getD i (.Pass ⟨0,0,0,0⟩)
noncomputable def S4:Ad (Aj×Af×Af):=([("rest", 1,2),("turned_over", 9,2),("one_form", 17,2),("crossed", 23,2),("measure", 61,4),("first_three", 65,2),("ask_no_three", 109,2),("columns", 104,1),("sums_by", 91,3),("table_of", 78,2),("crossed_rows", 98,1),("after", 105,3),("table_back", 106,2),("scaled", 110,2),("frame_table", 111,2),("frame_move", 112,3),("_law_mixed", 79,2),("_law_prime", 81,1),("_law_form", 82,2),("_law_dot", 95,2),("_law_measure", 113,4),("_law_rows", 83,4),("_law_table", 84,2),("_law_led", 96,3),("_law_frame", 114,2),("_law_whole", 85,1),("_law_rests", 86,3),("_law_table_like", 87,2),("_law_three", 115,2),("_law_spoilt", 116,3)]:Ad (Aj×Af×Af))++([("_law_due", 117,3),("_law_met", 118,3),("law", 119,1)]:Ad (Aj×Af×Af))
noncomputable def TU:Ad Aj:=["ValueError", "all", "bool", "enumerate", "int", "isinstance", "len", "list", "range", "tuple", "zip"]
noncomputable def OH:Ad (Aj×Af):=[("NoOver", 2),("NoTriple", 3),("Alike", 107),("OnLine", 118),("NoTable", 4),("NoCount", 13)]
noncomputable def OQ:Ad (Aj×Af):=[("OnLine", 118),("NoCount", 13),("OvalError", 0),("Alike", 107),("NoTable", 4)]
noncomputable def SV:Ad (Aj×Af):=[]
noncomputable abbrev C25(h:An)(ps N:Ad Aj)(i d:Af):An:=HC 80 h S4 TU OH OQ SV ps N (tp25 i) (Q25.defs d)
theorem gA:C25 Ac ["p", "n"] ["p", "n"] 9 1=Ab:=by decide +kernel
theorem fZ:C25 Ac ["p", "n"] ["p", "n", "turned"] 10 9=Ab:=by decide +kernel
theorem fY:C25 Ac ["p", "numbers"] ["p", "numbers", "rests", "first", "factor", "#5", "#6"] 12 17=Ab:=by decide +kernel
theorem fX:C25 Ac ["one", "other"] ["one", "other"] 13 23=Ab:=by decide +kernel
theorem fW:C25 Ac ["p", "one", "other", "third"] ["p", "one", "other", "third"] 15 61=Ab:=by decide +kernel
theorem eK:C25 Ac ["p", "points"] ["p", "points", "i", "one", "j", "k"] 16 65=Ab:=by decide +kernel
theorem eJ:C25 Ac ["p", "points"] ["p", "points", "three"] 17 109=Ab:=by decide +kernel
theorem eI:C25 Ac ["rows"] ["rows"] 19 104=Ab:=by decide +kernel
theorem eG:C25 Ac ["p", "rows", "numbers"] ["p", "rows", "numbers", "#3"] 20 91=Ab:=by decide +kernel
theorem eF:C25 Ac ["p", "rows"] ["p", "rows", "nine"] 21 78=Ab:=by decide +kernel
theorem bN:C25 Ac ["table"] ["table"] 22 98=Ab:=by decide +kernel
theorem ZO:C25 Ac ["p", "one", "other"] ["p", "one", "other", "sides", "#4"] 23 105=Ab:=by decide +kernel
theorem ZN:C25 Ac ["p", "table"] ["p", "table"] 24 106=Ab:=by decide +kernel
theorem ZM:C25 Ac ["factor", "point"] ["factor", "point", "#2"] 26 110=Ab:=by decide +kernel
theorem ZL:C25 Ac ["p", "four"] ["p", "four", "sides"] 27 111=Ab:=by decide +kernel
theorem ZK:C25 Ac ["p", "four", "goals"] ["p", "four", "goals"] 28 112=Ab:=by decide +kernel
theorem ZJ:C25 Ac ["_law_script", "_law_k"] ["_law_script", "_law_k", "_law_cell"] 30 79=Ab:=by decide +kernel
theorem ZI:C25 Ac ["_law_script"] ["_law_script"] 31 81=Ab:=by decide +kernel
theorem ZH:C25 Ac ["_law_p", "_law_numbers"] ["_law_p", "_law_numbers", "_law_rests_here", "_law_first", "_law_over", "#5", "#6", "#7", "#8"] 32 82=Ab:=by decide +kernel
theorem ZG:C25 Ac ["_law_one", "_law_other"] ["_law_one", "_law_other"] 33 95=Ab:=by decide +kernel
theorem ZF:C25 Ac ["_law_p", "_law_one", "_law_two", "_law_three_here"] ["_law_p", "_law_one", "_law_two", "_law_three_here", "_law_a", "_law_b", "_law_c", "_law_d", "_law_e", "_law_f", "_law_g", "_law_h", "_law_i", "_law_first", "_law_second"] 34 113=Ab:=by decide +kernel
theorem aA:C25 Ac ["_law_script", "_law_p", "_law_at", "_law_many"] ["_law_script", "_law_p", "_law_at", "_law_many", "_law_rows_here", "_law_k", "_law_cell", "_law_one", "_law_other", "_law_times", "_law_kept", "_law_here", "_law_there", "#13", "#14"] 35 83=Ab:=by decide +kernel
theorem Z9:C25 Ac ["_law_p", "_law_rows_here"] ["_law_p", "_law_rows_here", "_law_numbers"] 36 84=Ab:=by decide +kernel
theorem Z8:C25 Ac ["_law_p", "_law_table_here", "_law_point"] ["_law_p", "_law_table_here", "_law_point", "#3"] 37 96=Ab:=by decide +kernel
theorem Z7:C25 Ac ["_law_p", "_law_rows_here"] ["_law_p", "_law_rows_here", "_law_table_here", "#3"] 38 114=Ab:=by decide +kernel
theorem Z6:C25 Ac ["_law_found"] ["_law_found"] 39 85=Ab:=by decide +kernel
theorem Z5:C25 Ac ["_law_found", "_law_p", "_law_many"] ["_law_found", "_law_p", "_law_many", "#3"] 40 86=Ab:=by decide +kernel
theorem Z4:C25 Ac ["_law_found", "_law_p"] ["_law_found", "_law_p", "#2"] 41 87=Ab:=by decide +kernel
theorem Z2:C25 Ac ["_law_p", "_law_points"] ["_law_p", "_law_points", "_law_i", "_law_j", "_law_k"] 42 115=Ab:=by decide +kernel
theorem Z1:C25 Ac ["_law_p", "_law_points", "_law_cell"] ["_law_p", "_law_points", "_law_cell", "_law_way", "_law_at", "_law_one", "_law_other", "_law_times", "_law_new", "#9", "#10"] 43 116=Ab:=by decide +kernel
theorem Z0:C25 Ac ["_law_p", "_law_four", "_law_goals"] ["_law_p", "_law_four", "_law_goals", "_law_three_here"] 44 117=Ab:=by decide +kernel
theorem ZZ:C25 Ac ["_law_p", "_law_four", "_law_goals"] ["_law_p", "_law_four", "_law_goals", "_law_word", "_law_what", "_law_plain", "_law_found", "error"] 45 118=Ab:=by decide +kernel
theorem Q7:C25 Ac ["_law_script"] ["_law_script", "_law_p", "_law_four", "_law_goals", "_law_handed", "_law_found"] 46 119=Ab:=by decide +kernel
theorem aK:MI "OvalError" "triple" "triple" (MD (tp25 6))=Ab:=by decide +kernel
theorem aJ:MI "OvalError" "points" "points" (MD (tp25 7))=Ab:=by decide +kernel
noncomputable def FZ(x0 x1 x2 x3 x4 x5:Ak):ClA
 |2=>Aa x0
 |3=>Aa x1
 |107=>Aa x2
 |118=>Aa x3
 |4=>Aa x4
 |13=>Aa x5
 |_=>Ae
set_option maxHeartbeats 0 in
theorem all25{w:AY}{K:Fg}{h:AB}{mg:Aj->Am Ai}{fa f0 f1 f2 f3 f4 f5 f6 f7 f8 f9 f10 f11 f12 f13 f14 f15 f16 f17 f18 f19 f20 f21 f22 f23 f24 f25 f26 f27 f28 f29 f30 f31 f32 x0 x1 x2 x3 x4 x5 x6 ix2 ix3:Ak}(X:K.In h)(G:h.Ns AW mg)(hfa:mg "law" = Aa (.ref fa))(a0:FnI K f0 "rest" (tp25 9))(a1:FnI K f1 "turned_over" (tp25 10))(a2:FnI K f2 "one_form" (tp25 12))(a3:FnI K f3 "crossed" (tp25 13))(a4:FnI K f4 "measure" (tp25 15))(a5:FnI K f5 "first_three" (tp25 16))(a6:FnI K f6 "ask_no_three" (tp25 17))(a7:FnI K f7 "columns" (tp25 19))(a8:FnI K f8 "sums_by" (tp25 20))(a9:FnI K f9 "table_of" (tp25 21))(a10:FnI K f10 "crossed_rows" (tp25 22))(a11:FnI K f11 "after" (tp25 23))(a12:FnI K f12 "table_back" (tp25 24))(a13:FnI K f13 "scaled" (tp25 26))(a14:FnI K f14 "frame_table" (tp25 27))(a15:FnI K f15 "frame_move" (tp25 28))(a16:FnI K f16 "_law_mixed" (tp25 30))(a17:FnI K f17 "_law_prime" (tp25 31))(a18:FnI K f18 "_law_form" (tp25 32))(a19:FnI K f19 "_law_dot" (tp25 33))(a20:FnI K f20 "_law_measure" (tp25 34))(a21:FnI K f21 "_law_rows" (tp25 35))(a22:FnI K f22 "_law_table" (tp25 36))(a23:FnI K f23 "_law_led" (tp25 37))(a24:FnI K f24 "_law_frame" (tp25 38))(a25:FnI K f25 "_law_whole" (tp25 39))(a26:FnI K f26 "_law_rests" (tp25 40))(a27:FnI K f27 "_law_table_like" (tp25 41))(a28:FnI K f28 "_law_three" (tp25 42))(a29:FnI K f29 "_law_spoilt" (tp25 43))(a30:FnI K f30 "_law_due" (tp25 44))(a31:FnI K f31 "_law_met" (tp25 45))(a32:FnI K f32 "law" (tp25 46))(nx0:Bi K AW "NoOver" = Aa (Aa (.ref x0)))(dcx0:Fj K x0=Ab)(ftx0:Av K (.ref x0) "triple" = Aa Ae)(fpx0:Av K (.ref x0) "points" = Aa Ae)(ex0:EQ K x0 [.type "ValueError", .type "Exception", .type "BaseException", .type "object"] "ValueError.__new__" = Ab)(gax0:Av K (.ref x0) "__getattribute__" = Aa (Aa (.builtin "BaseException.__getattribute__")))(gtx0:Av K (.ref x0) "__getattr__" = Aa Ae)(clx0:Av K (.ref x0) "__class__" = Aa (Aa (.builtin "object.__class__")))(obx0:BO K x0 (.type "object")=Aa Ab)(bex0:Az K (.ref x0) (.type "BaseException")=Aa Ab)(svx0:Az K (.ref x0) (.type "ValueError")=Aa Ab)(nx1:Bi K AW "NoTriple" = Aa (Aa (.ref x1)))(dcx1:Fj K x1=Ab)(ftx1:Av K (.ref x1) "triple" = Aa Ae)(fpx1:Av K (.ref x1) "points" = Aa Ae)(ex1:EQ K x1 [.type "ValueError", .type "Exception", .type "BaseException", .type "object"] "ValueError.__new__" = Ab)(gax1:Av K (.ref x1) "__getattribute__" = Aa (Aa (.builtin "BaseException.__getattribute__")))(gtx1:Av K (.ref x1) "__getattr__" = Aa Ae)(clx1:Av K (.ref x1) "__class__" = Aa (Aa (.builtin "object.__class__")))(obx1:BO K x1 (.type "object")=Aa Ab)(bex1:Az K (.ref x1) (.type "BaseException")=Aa Ab)(svx1:Az K (.ref x1) (.type "ValueError")=Aa Ab)(nx2:Bi K AW "Alike" = Aa (Aa (.ref x2)))(dcx2:Fj K x2=Ab)(ftx2:Av K (.ref x2) "triple" = Aa Ae)(fpx2:Av K (.ref x2) "points" = Aa Ae)(fix2:Av K (.ref x2) "__init__" = Aa (Aa (.ref ix2)))(iix2:InI K ix2 "Alike.__init__" (MD (tp25 6)))(tix2:Dc K (.ref ix2)=Aa (.type "function"))(ex2:DS K x2 (Aa (.ref ix2))=Ab)(snx2:Av K (.ref x2) "__setattr__" = Aa (Aa (.builtin "object.__setattr__")))(gax2:Av K (.ref x2) "__getattribute__" = Aa (Aa (.builtin "BaseException.__getattribute__")))(gtx2:Av K (.ref x2) "__getattr__" = Aa Ae)(clx2:Av K (.ref x2) "__class__" = Aa (Aa (.builtin "object.__class__")))(obx2:BO K x2 (.type "object")=Aa Ab)(bex2:Az K (.ref x2) (.type "BaseException")=Aa Ab)(svx2:Az K (.ref x2) (.type "ValueError")=Aa Ab)(nx3:Bi K AW "OnLine" = Aa (Aa (.ref x3)))(dcx3:Fj K x3=Ab)(ftx3:Av K (.ref x3) "triple" = Aa Ae)(fpx3:Av K (.ref x3) "points" = Aa Ae)(fix3:Av K (.ref x3) "__init__" = Aa (Aa (.ref ix3)))(iix3:InI K ix3 "OnLine.__init__" (MD (tp25 7)))(tix3:Dc K (.ref ix3)=Aa (.type "function"))(ex3:DS K x3 (Aa (.ref ix3))=Ab)(snx3:Av K (.ref x3) "__setattr__" = Aa (Aa (.builtin "object.__setattr__")))(gax3:Av K (.ref x3) "__getattribute__" = Aa (Aa (.builtin "BaseException.__getattribute__")))(gtx3:Av K (.ref x3) "__getattr__" = Aa Ae)(clx3:Av K (.ref x3) "__class__" = Aa (Aa (.builtin "object.__class__")))(obx3:BO K x3 (.type "object")=Aa Ab)(bex3:Az K (.ref x3) (.type "BaseException")=Aa Ab)(svx3:Az K (.ref x3) (.type "ValueError")=Aa Ab)(nx4:Bi K AW "NoTable" = Aa (Aa (.ref x4)))(dcx4:Fj K x4=Ab)(ftx4:Av K (.ref x4) "triple" = Aa Ae)(fpx4:Av K (.ref x4) "points" = Aa Ae)(ex4:EQ K x4 [.type "ValueError", .type "Exception", .type "BaseException", .type "object"] "ValueError.__new__" = Ab)(gax4:Av K (.ref x4) "__getattribute__" = Aa (Aa (.builtin "BaseException.__getattribute__")))(gtx4:Av K (.ref x4) "__getattr__" = Aa Ae)(clx4:Av K (.ref x4) "__class__" = Aa (Aa (.builtin "object.__class__")))(obx4:BO K x4 (.type "object")=Aa Ab)(bex4:Az K (.ref x4) (.type "BaseException")=Aa Ab)(svx4:Az K (.ref x4) (.type "ValueError")=Aa Ab)(nx5:Bi K AW "NoCount" = Aa (Aa (.ref x5)))(dcx5:Fj K x5=Ab)(ftx5:Av K (.ref x5) "triple" = Aa Ae)(fpx5:Av K (.ref x5) "points" = Aa Ae)(ex5:EQ K x5 [.type "ValueError", .type "Exception", .type "BaseException", .type "object"] "ValueError.__new__" = Ab)(gax5:Av K (.ref x5) "__getattribute__" = Aa (Aa (.builtin "BaseException.__getattribute__")))(gtx5:Av K (.ref x5) "__getattr__" = Aa Ae)(clx5:Av K (.ref x5) "__class__" = Aa (Aa (.builtin "object.__class__")))(obx5:BO K x5 (.type "object")=Aa Ab)(bex5:Az K (.ref x5) (.type "BaseException")=Aa Ab)(svx5:Az K (.ref x5) (.type "ValueError")=Aa Ab)(nx6:Bi K AW "OvalError" = Aa (Aa (.ref x6)))(sax6:Ep K (.ref x6) "__getattribute__" = Aa (Aa (.builtin "type.__getattribute__")))(sbx6:E7 K x6 (.type "type")=Ab)(scx6:E6 K (.ref x6) (.type "type") "__init__" = Aa (.val (.builtin "ValueError.__init__")))(csx6:BO K x6 (.type "object")=Aa Ab)(tyx6:Dc K (.ref x6)=Aa (.type "type"))(sux0x3:Az K (.ref x0) (.ref x3)=Aa Ac)(sux0x5:Az K (.ref x0) (.ref x5)=Aa Ac)(sux0x6:Az K (.ref x0) (.ref x6)=Aa Ab)(sux0x2:Az K (.ref x0) (.ref x2)=Aa Ac)(sux0x4:Az K (.ref x0) (.ref x4)=Aa Ac)(sux1x3:Az K (.ref x1) (.ref x3)=Aa Ac)(sux1x5:Az K (.ref x1) (.ref x5)=Aa Ac)(sux1x6:Az K (.ref x1) (.ref x6)=Aa Ab)(sux1x2:Az K (.ref x1) (.ref x2)=Aa Ac)(sux1x4:Az K (.ref x1) (.ref x4)=Aa Ac)(sux2x3:Az K (.ref x2) (.ref x3)=Aa Ac)(sux2x5:Az K (.ref x2) (.ref x5)=Aa Ac)(sux2x6:Az K (.ref x2) (.ref x6)=Aa Ab)(sux2x2:Az K (.ref x2) (.ref x2)=Aa Ab)(sux2x4:Az K (.ref x2) (.ref x4)=Aa Ac)(sux3x3:Az K (.ref x3) (.ref x3)=Aa Ab)(sux3x5:Az K (.ref x3) (.ref x5)=Aa Ac)(sux3x6:Az K (.ref x3) (.ref x6)=Aa Ab)(sux3x2:Az K (.ref x3) (.ref x2)=Aa Ac)(sux3x4:Az K (.ref x3) (.ref x4)=Aa Ac)(sux4x3:Az K (.ref x4) (.ref x3)=Aa Ac)(sux4x5:Az K (.ref x4) (.ref x5)=Aa Ac)(sux4x6:Az K (.ref x4) (.ref x6)=Aa Ab)(sux4x2:Az K (.ref x4) (.ref x2)=Aa Ac)(sux4x4:Az K (.ref x4) (.ref x4)=Aa Ab)(sux5x3:Az K (.ref x5) (.ref x3)=Aa Ac)(sux5x5:Az K (.ref x5) (.ref x5)=Aa Ab)(sux5x6:Az K (.ref x5) (.ref x6)=Aa Ab)(sux5x2:Az K (.ref x5) (.ref x2)=Aa Ac)(sux5x4:Az K (.ref x5) (.ref x4)=Aa Ac)(z0:Bi K AW "ValueError" = Aa Ae)(z1:Bi K AW "all" = Aa Ae)(z2:Bi K AW "bool" = Aa Ae)(z3:Bi K AW "enumerate" = Aa Ae)(z4:Bi K AW "int" = Aa Ae)(z5:Bi K AW "isinstance" = Aa Ae)(z6:Bi K AW "len" = Aa Ae)(z7:Bi K AW "list" = Aa Ae)(z8:Bi K AW "range" = Aa Ae)(z9:Bi K AW "tuple" = Aa Ae)(z10:Bi K AW "zip" = Aa Ae):
    ∃ fd:BS,(∀(s:Aq)(v:Ai),F6 s fd ⟨[v],[]⟩ [("_law_script", v)])/\∀ base:AB,K.In base->base.Ns AW mg->FnOk l.prog w K mg base (CXR l.prog w) 9 fa fd ["_law_script"] (MC K):=by
  obtain⟨_,F,e⟩:=a32;obtain⟨_,_,_,_,_,_,_,_,_,rfl,_,_⟩:=F.ex;cases hfa.symm.trans (BN X G e);have yx0:=L6 ex0;have Xx0:XcOk K x0:=Kx yx0 gax0 gtx0 clx0 obx0 bex0 svx0;have yx1:=L6 ex1;have Xx1:XcOk K x1:=Kx yx1 gax1 gtx1 clx1 obx1 bex1 svx1;have yx2:=ex2;have Xx2:XcOk K x2:=Kx yx2 gax2 gtx2 clx2 obx2 bex2 svx2;have Ix2:XIn K mg x2 "triple" := RM iix2 aK (fun _ _ _ _ _ _ _ _=>rfl) yx2 dcx2 tix2 (BN X G nx6) sax6 sbx6 scx6 ftx2 snx2
  have yx3:=ex3;have Xx3:XcOk K x3:=Kx yx3 gax3 gtx3 clx3 obx3 bex3 svx3;have Ix3:XIn K mg x3 "points" := RM iix3 aJ (fun _ _ _ _ _ _ _ _=>rfl) yx3 dcx3 tix3 (BN X G nx6) sax6 sbx6 scx6 fpx3 snx3
  have yx4:=L6 ex4;have Xx4:XcOk K x4:=Kx yx4 gax4 gtx4 clx4 obx4 bex4 svx4;have yx5:=L6 ex5;have Xx5:XcOk K x5:=Kx yx5 gax5 gtx5 clx5 obx5 bex5 svx5;have XT25:XT Q25.up Q25.xn (FZ x0 x1 x2 x3 x4 x5) OH OQ K mg:=by
    refine⟨?_,all_cons ⟨_,rfl,BN X G nx0⟩ (all_cons ⟨_,rfl,BN X G nx1⟩ (all_cons ⟨_,rfl,BN X G nx2⟩ (all_cons ⟨_,rfl,BN X G nx3⟩ (all_cons ⟨_,rfl,BN X G nx4⟩ (all_cons ⟨_,rfl,BN X G nx5⟩ (La)))))),all_cons ⟨_,BN X G nx3,?kx3,?sx3⟩ (all_cons ⟨_,BN X G nx5,?kx5,?sx5⟩ (all_cons ⟨_,BN X G nx6,?kx6,?sx6⟩ (all_cons ⟨_,BN X G nx2,?kx2,?sx2⟩ (all_cons ⟨_,BN X G nx4,?kx4,?sx4⟩ (La))))),?_,?_,?_⟩
    case refine_1=>
      intro c C q;unfold FZ at q;split at q
      · cases q;exact Xx0
      · cases q;exact Xx1
      · cases q;exact Xx2
      · cases q;exact Xx3
      · cases q;exact Xx4
      · cases q;exact Xx5
      · cases q
    case refine_2=>
      intro c C ds q;unfold FZ at q;split at q
      · cases q;exact Mx (fun ds=>by show HB 2 ds=.bad\/HB 2 ds=.ok ⟨2,[]⟩;first|exact .inr rfl|exact .inl rfl) yx0 ds
      · cases q;exact Mx (fun ds=>by show HB 3 ds=.bad\/HB 3 ds=.ok ⟨3,[]⟩;first|exact .inr rfl|exact .inl rfl) yx1 ds
      · cases q;exact Ta (fun _=>rfl) Ix2 ds
      · cases q;exact Ta (fun _=>rfl) Ix3 ds
      · cases q;exact Mx (fun ds=>by show HB 4 ds=.bad\/HB 4 ds=.ok ⟨4,[]⟩;first|exact .inr rfl|exact .inl rfl) yx4 ds
      · cases q;exact Mx (fun ds=>by show HB 13 ds=.bad\/HB 13 ds=.ok ⟨13,[]⟩;first|exact .inr rfl|exact .inl rfl) yx5 ds
      · cases q
    case refine_3=>
      intro c C q;unfold FZ at q;split at q
      · cases q;exact KC dcx0 ftx0 fpx0
      · cases q;exact KC dcx1 ftx1 fpx1
      · cases q;exact KC dcx2 ftx2 fpx2
      · cases q;exact KC dcx3 ftx3 fpx3
      · cases q;exact KC dcx4 ftx4 fpx4
      · cases q;exact KC dcx5 ftx5 fpx5
      · cases q
    case refine_4=>
      intro c q ds;show HB c ds=.bad;unfold HB;split<;>first|rfl|exact absurd rfl (q ("NoOver", 2) (by decide))|exact absurd rfl (q ("NoTriple", 3) (by decide))|exact absurd rfl (q ("Alike", 107) (by decide))|exact absurd rfl (q ("OnLine", 118) (by decide))|exact absurd rfl (q ("NoTable", 4) (by decide))|exact absurd rfl (q ("NoCount", 13) (by decide))
    case kx3=>
      intro c C q;unfold FZ at q;split at q
      · cases q;exact DR yx0 yx3 sux0x3
      · cases q;exact DR yx1 yx3 sux1x3
      · cases q;exact DR yx2 yx3 sux2x3
      · cases q;exact DR yx3 yx3 sux3x3
      · cases q;exact DR yx4 yx3 sux4x3
      · cases q;exact DR yx5 yx3 sux5x3
      · cases q
    case sx3=>
      intro c C q;unfold FZ at q;split at q
      · cases q;exact sux0x3
      · cases q;exact sux1x3
      · cases q;exact sux2x3
      · cases q;exact sux3x3
      · cases q;exact sux4x3
      · cases q;exact sux5x3
      · cases q
    case kx5=>
      intro c C q;unfold FZ at q;split at q
      · cases q;exact DR yx0 yx5 sux0x5
      · cases q;exact DR yx1 yx5 sux1x5
      · cases q;exact DR yx2 yx5 sux2x5
      · cases q;exact DR yx3 yx5 sux3x5
      · cases q;exact DR yx4 yx5 sux4x5
      · cases q;exact DR yx5 yx5 sux5x5
      · cases q
    case sx5=>
      intro c C q;unfold FZ at q;split at q
      · cases q;exact sux0x5
      · cases q;exact sux1x5
      · cases q;exact sux2x5
      · cases q;exact sux3x5
      · cases q;exact sux4x5
      · cases q;exact sux5x5
      · cases q
    case kx6=>
      intro c C q;unfold FZ at q;split at q
      · cases q;exact Kf yx0 csx6 tyx6 sux0x6
      · cases q;exact Kf yx1 csx6 tyx6 sux1x6
      · cases q;exact Kf yx2 csx6 tyx6 sux2x6
      · cases q;exact Kf yx3 csx6 tyx6 sux3x6
      · cases q;exact Kf yx4 csx6 tyx6 sux4x6
      · cases q;exact Kf yx5 csx6 tyx6 sux5x6
      · cases q
    case sx6=>
      intro c C q;unfold FZ at q;split at q
      · cases q;exact sux0x6
      · cases q;exact sux1x6
      · cases q;exact sux2x6
      · cases q;exact sux3x6
      · cases q;exact sux4x6
      · cases q;exact sux5x6
      · cases q
    case kx2=>
      intro c C q;unfold FZ at q;split at q
      · cases q;exact DR yx0 yx2 sux0x2
      · cases q;exact DR yx1 yx2 sux1x2
      · cases q;exact DR yx2 yx2 sux2x2
      · cases q;exact DR yx3 yx2 sux3x2
      · cases q;exact DR yx4 yx2 sux4x2
      · cases q;exact DR yx5 yx2 sux5x2
      · cases q
    case sx2=>
      intro c C q;unfold FZ at q;split at q
      · cases q;exact sux0x2
      · cases q;exact sux1x2
      · cases q;exact sux2x2
      · cases q;exact sux3x2
      · cases q;exact sux4x2
      · cases q;exact sux5x2
      · cases q
    case kx4=>
      intro c C q;unfold FZ at q;split at q
      · cases q;exact DR yx0 yx4 sux0x4
      · cases q;exact DR yx1 yx4 sux1x4
      · cases q;exact DR yx2 yx4 sux2x4
      · cases q;exact DR yx3 yx4 sux3x4
      · cases q;exact DR yx4 yx4 sux4x4
      · cases q;exact DR yx5 yx4 sux5x4
      · cases q
    case sx4=>
      intro c C q;unfold FZ at q;split at q
      · cases q;exact sux0x4
      · cases q;exact sux1x4
      · cases q;exact sux2x4
      · cases q;exact sux3x4
      · cases q;exact sux4x4
      · cases q;exact sux5x4
      · cases q
  have T:Tab K mg (FZ x0 x1 x2 x3 x4 x5) S4 TU OH OQ SV Q25 80:=⟨XT25,all_cons (BY X G z0) (all_cons (BY X G z1) (all_cons (BY X G z2) (all_cons (BY X G z3) (all_cons (BY X G z4) (all_cons (BY X G z5) (all_cons (BY X G z6) (all_cons (BY X G z7) (all_cons (BY X G z8) (all_cons (BY X G z9) (all_cons (BY X G z10) (La))))))))))),La,all_cons (Fl 2 1 X G a0 rfl gA fun _ _ _ _ _ _ _ _=>rfl) (all_cons (Fl 2 9 X G a1 rfl fZ fun _ _ _ _ _ _ _ _=>rfl) (all_cons (Fl 2 17 X G a2 rfl fY fun _ _ _ _ _ _ _ _=>rfl) (all_cons (Fl 2 23 X G a3 rfl fX fun _ _ _ _ _ _ _ _=>rfl) (all_cons (Pa 4 61 X G a4 rfl fW fun _ _ _ _ _ _ _ _ _ _=>rfl) (all_cons (Fl 2 65 X G a5 rfl eK fun _ _ _ _ _ _ _ _=>rfl) (all_cons (Fl 2 109 X G a6 rfl eJ fun _ _ _ _ _ _ _ _=>rfl) (all_cons (Lw 1 104 X G a7 rfl eI fun _ _ _ _ _ _ _=>rfl) (all_cons (Je 3 91 X G a8 rfl eG fun _ _ _ _ _ _ _ _ _=>rfl) (all_cons (Fl 2 78 X G a9 rfl eF fun _ _ _ _ _ _ _ _=>rfl) (all_cons (Lw 1 98 X G a10 rfl bN fun _ _ _ _ _ _ _=>rfl) (all_cons (Je 3 105 X G a11 rfl ZO fun _ _ _ _ _ _ _ _ _=>rfl) (all_cons (Fl 2 106 X G a12 rfl ZN fun _ _ _ _ _ _ _ _=>rfl) (all_cons (Fl 2 110 X G a13 rfl ZM fun _ _ _ _ _ _ _ _=>rfl) (all_cons (Fl 2 111 X G a14 rfl ZL fun _ _ _ _ _ _ _ _=>rfl) (all_cons (Je 3 112 X G a15 rfl ZK fun _ _ _ _ _ _ _ _ _=>rfl) (all_cons (Fl 2 79 X G a16 rfl ZJ fun _ _ _ _ _ _ _ _=>rfl) (all_cons (Lw 1 81 X G a17 rfl ZI fun _ _ _ _ _ _ _=>rfl) (all_cons (Fl 2 82 X G a18 rfl ZH fun _ _ _ _ _ _ _ _=>rfl) (all_cons (Fl 2 95 X G a19 rfl ZG fun _ _ _ _ _ _ _ _=>rfl) (all_cons (Pa 4 113 X G a20 rfl ZF fun _ _ _ _ _ _ _ _ _ _=>rfl) (all_cons (Pa 4 83 X G a21 rfl aA fun _ _ _ _ _ _ _ _ _ _=>rfl) (all_cons (Fl 2 84 X G a22 rfl Z9 fun _ _ _ _ _ _ _ _=>rfl) (all_cons (Je 3 96 X G a23 rfl Z8 fun _ _ _ _ _ _ _ _ _=>rfl) (all_cons (Fl 2 114 X G a24 rfl Z7 fun _ _ _ _ _ _ _ _=>rfl) (all_cons (Lw 1 85 X G a25 rfl Z6 fun _ _ _ _ _ _ _=>rfl) (all_cons (Je 3 86 X G a26 rfl Z5 fun _ _ _ _ _ _ _ _ _=>rfl) (all_cons (Fl 2 87 X G a27 rfl Z4 fun _ _ _ _ _ _ _ _=>rfl) (all_cons (Fl 2 115 X G a28 rfl Z2 fun _ _ _ _ _ _ _ _=>rfl) (all_cons (Je 3 116 X G a29 rfl Z1 fun _ _ _ _ _ _ _ _ _=>rfl) (all_cons (Je 3 117 X G a30 rfl Z0 fun _ _ _ _ _ _ _ _ _=>rfl) (all_cons (Je 3 118 X G a31 rfl ZZ fun _ _ _ _ _ _ _ _ _=>rfl) (all_cons (Lw 1 119 X G ⟨_,F,e⟩ rfl Q7 fun _ _ _ _ _ _ _=>rfl) (La)))))))))))))))))))))))))))))))))⟩
  exact⟨_,fun s v=>.of_eq rfl,fun base _ _=>law_fn (So T (Og T 8) F rfl Q7) jO⟩
theorem walk25{q:AK}{loose:Ad Aj}{XP:(Aj->Am Ai)->AB->Prop}{YP:AY->AB->Prop}{d:DefRec}{K:KY->Fg}(hn:l.most=Aa 63)(hdf:d.params.defaults=[])(hY:∀(w:AY)(h:AB),YP w h->(K w.params).In h)(F:∀(w:AY)(mg:Aj->Am Ai)(fa:Ak)(h:AB),(K w.params).In h->h.Ns AW mg->mg d.name=Aa (.ref fa) ->
   ∃ fd:BS,(∀(s:Aq)(u:Ai),F6 s fd ⟨[u],[]⟩ [("_law_script", u)])/\∀ base:AB,(K w.params).In base->base.Ns AW mg->FnOk l.prog w (K w.params) mg base (CXR l.prog w) 9 fa fd ["_law_script"] (MC (K w.params))):Vv q loose XP YP l.row.toRowW d [] (fun f vs=>JS f vs):=
 L2.walk_of (n:=63) (k:=9) (x := "_law_script") (CX:=fun w=>CXR l.prog w) (sp:=fun w=>MC (K w.params)) hn (by decide) hdf ⟨rfl,by decide,by decide,rfl⟩ hY F (fun _ H a ns hl _ hS=>⟨a,ns,rfl,hl,hS,fun _ _ z=>z⟩) fun _ _ _ _ _ z=>fA z
end OvC
open PySem PySem.W PyProof.Rows
noncomputable def OvC.view25:PySem.Program:={ PySem.Challenge.pw_ovalfield_k25_frames_refused with main:={PySem.Challenge.pw_ovalfield_k25_frames_refused.main with body:=[OvC.tp25 1,OvC.tp25 2,OvC.tp25 3,OvC.tp25 4,OvC.tp25 5,OvC.tp25 6,OvC.tp25 7,OvC.tp25 9,OvC.tp25 10,OvC.tp25 12,OvC.tp25 13,OvC.tp25 15,OvC.tp25 16,OvC.tp25 17,OvC.tp25 19,OvC.tp25 20,OvC.tp25 21,OvC.tp25 22,OvC.tp25 23,OvC.tp25 24,OvC.tp25 26,OvC.tp25 27,OvC.tp25 28,OvC.tp25 30,OvC.tp25 31,OvC.tp25 32,OvC.tp25 33,OvC.tp25 34,OvC.tp25 35,OvC.tp25 36,OvC.tp25 37,OvC.tp25 38,OvC.tp25 39,OvC.tp25 40,OvC.tp25 41,OvC.tp25 42,OvC.tp25 43,OvC.tp25 44,OvC.tp25 45,OvC.tp25 46]} }
set_option hygiene false
local macro_rules | `(tactic| o_head $H)=>`(tactic| refine holds_open (q:=OvC.view25) (loose:=[]) (Xt:=fun s=>xlAt OvC.view25 [] s&&recOk (RowW.records (OpenRow.toRowW (PySem.Challenge.rw_ovalfield_k25_frames_refused.row))) s) (XP:=XL OvC.view25 []) (Yf:=Hook.obs $H) (Ya:=Hook.val $H) (YP:=Hook.says $H) (N:=5274) ?hl (Hook.of $H) (Hook.keeps $H) (fun s e=>xl_of s (Bool.and_eq_true_iff.mp e).1) XL.keeps (by rfl) (by rfl) (by rfl) (fun s e=>recFacts_of (Bool.and_eq_true_iff.mp e).2) (by rfl) (by first|assumption|decide +kernel) (by decide +kernel) ⟨rfl,rfl,rfl,rfl,rfl,by decide +kernel⟩ ?hw ?hc)
set_option maxRecDepth 100000 in
set_option maxHeartbeats 0 in
theorem PySem.Challenge.cw_ovalfield_k25_frames_refused_holds : PySem.Challenge.rw_ovalfield_k25_frames_refused.Holds := by
 w_on;refine holds_law (by decide +kernel) fun said=>?_;k_head
 (case hl=>intro w;unfold openEnds fencedOpening topFrom;rw[PySem.W.Fast.te10274390034422433532,PySem.W.Fast.te14364793385576792824,PySem.W.Fast.te1435165496053646825,PySem.W.Fast.te14289696077712309145,PySem.W.Fast.te14082659384304107361,PySem.W.Fast.te4187177175401517315];kernel_rfl)
 (case hw=>w_witness2)
 k_fill
 refine OvC.walk25 (l:=PySem.Challenge.rw_ovalfield_k25_frames_refused) rfl rfl (fun w h Y=>Vx Y) ?F
 case F=>
  intro w mg fa h KX G hmg
  refine' OvC.all25 KX G hmg ?a0 ?a1 ?a2 ?a3 ?a4 ?a5 ?a6 ?a7 ?a8 ?a9 ?a10 ?a11 ?a12 ?a13 ?a14 ?a15 ?a16 ?a17 ?a18 ?a19 ?a20 ?a21 ?a22 ?a23 ?a24 ?a25 ?a26 ?a27 ?a28 ?a29 ?a30 ?a31 ?a32 ?nx0 ?dcx0 ?ftx0 ?fpx0 ?ex0 ?gax0 ?gtx0 ?clx0 ?obx0 ?bex0 ?svx0 ?nx1 ?dcx1 ?ftx1 ?fpx1 ?ex1 ?gax1 ?gtx1 ?clx1 ?obx1 ?bex1 ?svx1 ?nx2 ?dcx2 ?ftx2 ?fpx2 ?fix2 ?iix2 ?tix2 ?ex2 ?snx2 ?gax2 ?gtx2 ?clx2 ?obx2 ?bex2 ?svx2 ?nx3 ?dcx3 ?ftx3 ?fpx3 ?fix3 ?iix3 ?tix3 ?ex3 ?snx3 ?gax3 ?gtx3 ?clx3 ?obx3 ?bex3 ?svx3 ?nx4 ?dcx4 ?ftx4 ?fpx4 ?ex4 ?gax4 ?gtx4 ?clx4 ?obx4 ?bex4 ?svx4 ?nx5 ?dcx5 ?ftx5 ?fpx5 ?ex5 ?gax5 ?gtx5 ?clx5 ?obx5 ?bex5 ?svx5 ?nx6 ?sax6 ?sbx6 ?scx6 ?csx6 ?tyx6 ?sux0x3 ?sux0x5 ?sux0x6 ?sux0x2 ?sux0x4 ?sux1x3 ?sux1x5 ?sux1x6 ?sux1x2 ?sux1x4 ?sux2x3 ?sux2x5 ?sux2x6 ?sux2x2 ?sux2x4 ?sux3x3 ?sux3x5 ?sux3x6 ?sux3x2 ?sux3x4 ?sux4x3 ?sux4x5 ?sux4x6 ?sux4x2 ?sux4x4 ?sux5x3 ?sux5x5 ?sux5x6 ?sux5x2 ?sux5x4 ?z0 ?z1 ?z2 ?z3 ?z4 ?z5 ?z6 ?z7 ?z8 ?z9 ?z10
  case a0|a1|a2|a3|a4|a5|a6|a7|a8|a9|a10|a11|a12|a13|a14|a15|a16|a17|a18|a19|a20|a21|a22|a23|a24|a25|a26|a27|a28|a29|a30|a31|a32=>(refine' Ov.fni ?a ?l ?c ?k;(case a=>k_is);(case l=>k_is);(case c=>k_is);(case k=>k_is))
  (case nx0=>k_is)
  (case dcx0=>kernel_rfl)
  (case ftx0=>k_is)
  (case fpx0=>k_is)
  (case ex0=>k_exc)
  (case gax0=>k_is)
  (case gtx0=>k_is)
  (case clx0=>k_is)
  (case obx0=>k_is)
  (case bex0=>k_is)
  (case svx0=>k_is)
  (case nx1=>k_is)
  (case dcx1=>kernel_rfl)
  (case ftx1=>k_is)
  (case fpx1=>k_is)
  (case ex1=>k_exc)
  (case gax1=>k_is)
  (case gtx1=>k_is)
  (case clx1=>k_is)
  (case obx1=>k_is)
  (case bex1=>k_is)
  (case svx1=>k_is)
  (case nx2=>k_is)
  (case dcx2=>kernel_rfl)
  (case ftx2=>k_is)
  (case fpx2=>k_is)
  (case fix2=>k_is)
  (case iix2=>(refine' Ov.ini_mk ?l ?c ?k;(case l=>k_is);(case c=>k_is);(case k=>k_is)))
  (case tix2=>k_is)
  (case ex2=>kernel_rfl)
  (case snx2=>k_is)
  (case gax2=>k_is)
  (case gtx2=>k_is)
  (case clx2=>k_is)
  (case obx2=>k_is)
  (case bex2=>k_is)
  (case svx2=>k_is)
  (case nx3=>k_is)
  (case dcx3=>kernel_rfl)
  (case ftx3=>k_is)
  (case fpx3=>k_is)
  (case fix3=>k_is)
  (case iix3=>(refine' Ov.ini_mk ?l ?c ?k;(case l=>k_is);(case c=>k_is);(case k=>k_is)))
  (case tix3=>k_is)
  (case ex3=>kernel_rfl)
  (case snx3=>k_is)
  (case gax3=>k_is)
  (case gtx3=>k_is)
  (case clx3=>k_is)
  (case obx3=>k_is)
  (case bex3=>k_is)
  (case svx3=>k_is)
  (case nx4=>k_is)
  (case dcx4=>kernel_rfl)
  (case ftx4=>k_is)
  (case fpx4=>k_is)
  (case ex4=>k_exc)
  (case gax4=>k_is)
  (case gtx4=>k_is)
  (case clx4=>k_is)
  (case obx4=>k_is)
  (case bex4=>k_is)
  (case svx4=>k_is)
  (case nx5=>k_is)
  (case dcx5=>kernel_rfl)
  (case ftx5=>k_is)
  (case fpx5=>k_is)
  (case ex5=>k_exc)
  (case gax5=>k_is)
  (case gtx5=>k_is)
  (case clx5=>k_is)
  (case obx5=>k_is)
  (case bex5=>k_is)
  (case svx5=>k_is)
  (case nx6=>k_is)
  (case sax6=>k_is)
  (case sbx6=>k_is)
  (case scx6=>k_is)
  (case csx6=>k_is)
  (case tyx6=>k_is)
  (case sux0x3=>k_is)
  (case sux0x5=>k_is)
  (case sux0x6=>k_is)
  (case sux0x2=>k_is)
  (case sux0x4=>k_is)
  (case sux1x3=>k_is)
  (case sux1x5=>k_is)
  (case sux1x6=>k_is)
  (case sux1x2=>k_is)
  (case sux1x4=>k_is)
  (case sux2x3=>k_is)
  (case sux2x5=>k_is)
  (case sux2x6=>k_is)
  (case sux2x2=>k_is)
  (case sux2x4=>k_is)
  (case sux3x3=>k_is)
  (case sux3x5=>k_is)
  (case sux3x6=>k_is)
  (case sux3x2=>k_is)
  (case sux3x4=>k_is)
  (case sux4x3=>k_is)
  (case sux4x5=>k_is)
  (case sux4x6=>k_is)
  (case sux4x2=>k_is)
  (case sux4x4=>k_is)
  (case sux5x3=>k_is)
  (case sux5x5=>k_is)
  (case sux5x6=>k_is)
  (case sux5x2=>k_is)
  (case sux5x4=>k_is)
  (case z0=>k_is)
  (case z1=>k_is)
  (case z2=>k_is)
  (case z3=>k_is)
  (case z4=>k_is)
  (case z5=>k_is)
  (case z6=>k_is)
  (case z7=>k_is)
  (case z8=>k_is)
  (case z9=>k_is)
  (case z10=>k_is)
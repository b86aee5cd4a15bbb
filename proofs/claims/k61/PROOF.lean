import PyProof.Rows.All
import Wide.All
import OpenK.AllK
import Wide.FinOn
import PyProof.EqAt
import KE.KSortTup
import PyProof.EqKinds
import PyProof.TupleCall
import Lean
import PySem.Challenge.RW_ovalfield_k61_five_points_as_built
set_option Elab.async false
set_option linter.all false
set_option maxRecDepth 100000
set_option maxHeartbeats 4000000
open Option renaming some→Aa,none→Af,bind_eq_some_iff→AS,map_some→Dz,getD_none→RO,isSome_iff_exists→RP
open Bool renaming true→Ab,false→Ad,and_eq_true→Ak,false_ne_true→Av,not_eq_true'→Bu,toNat_true→B7,eq_iff_iff→Cz,or_eq_true→CW,and_false→Gu,and_true→Q1,false_eq_true→Q2
open _root_ renaming List→Ac,Int→Ae,Nat→Ag,Bool→An,Option→Ap,if_pos→AC,if_neg→AJ,decide_eq_true→AR,decide_eq_true_eq→AX,False→A5,Array→Be,beq_iff_eq→Bh,of_decide_eq_true→Bv,or_false→BN,decide_eq_false→Cn,beq_eq_false_iff_ne→CI,not_or→CV,String→Dm,beq_self_eq_true→DS,not_false_eq_true→Eo,Decidable→EF,if_false→Fj,if_true→FS,True→GH,and_true→GS,bne_iff_ne→GU,decide_eq_decide→gF,decide_eq_false_iff_not→gG
open PySem renaming Str→Ah,Value→Ai,Addr→Aj,wpAny_bind→Al,Expr→Am,Shared→Ao,starEach→Ax,wpAny→AD,wpAny_pure→AE,Heap→AG,Program→AN,Pos→AO,mainGlobals→AT,World→AU,Around→A2,Stmt→Bp,binaryOp→BF,Env→BJ,assignEach→BL,cLine→BQ,Scope→BS,wpAny_field→BU,FuncData→BW,wpAny_mono→BX,compareOp→B0,wpAny_truthy_bool→B1,mem_of_lookup→B2,sliceBounds→Ch,foldedSetIterable→Cj,backTo→Cp,bootBuiltins→Cq,cellsFrom→Cv,Tok→CB,wpAny_newObj_type→CF,wpAny_holding→CG,wpAny_callSpecial?_slot→CH,wpAny_seqItems→CK,wpAny_setField_rec→CQ,swappedStores→C3,wpAny_pyIter_list→C5,NameKind→Dj,Obj→Dk,swapsWith→DA,CmpOp→DF,IsPair→DH,wpAny_call_entry→DK,sizeLine_eq→DU,wpAny_passesOwn→D9,wpAny_pyIter_tuple→Ec,swapsWithSole→Et,wpAny_onRaise→Eu,PassesOwn→EI,IsZip→ER,letOwnedTupleGo→EV,wpAny_updateSeq_pair→EW,codeAny→E6,pushCells→Fm,rawInt→Fn,seqIndex?→Fo,wpAny_Call_Name_kw→Fp,Sem→Ft,attributeBase→Fu,behindInMarks→Fv,wpAny_standAt→Fw,slot_list_getitem→FJ,BindsTo→FL,Keyword→FN,callerA→FO,standAt→FP,IsPart→FX,Operator→FY,Paired→FZ,pushCells_keeps→Gd,isTrue→Gx,newFunctionEnv→Gy,notedBy→Gz,pyNext→GA,bindC→GB,bindL→GC,builtinsNs→GD,numAt→GE,evalPart_none→GX,codeAny_mono→G3,concat_meets→G4,lastMarks→G5,preSum→G6,seqIndex_neg→G7,slicePick→G8,getItem→Hh,setItem→Hi,seqIndex_of→Hm,wpAny_letGo→Hn,Model→HG,Result→HH,call→HL,sysModules→HM,wpAny_Name→HN,wpAny_rule→HP,GenState→IJ,IntMulOk→IK,Params→IL,bindArgs→IM,intItems→IN,pyIter→IP,call_sum_walkG→SV,firstArgMember→SX,noFill_tuple_add→SY,recursionLimit→SZ,wpAny_assign_Name→S0,wpAny_comprehension_free→S3,wpAny_execs_nil→S4,wpAny_getItem_list_slice→S5,wpAny_pyIter_enum→S6,wpAny_pyIter_zip→S7,wpAny_pyNext_list_end→S8,wpAny_pyNext_list_item→S9,wpAny_setField→Ta
open PySem.Heap renaming get?_push_of_some→Ar,lt_size→Ay,get?_push_size→AB,size_push→By,SameBut→Eb,ExtBut→Gg,FlyingW→Se,MadeExcOf→Sg,get?_none_of_le→Sj,get?_push_cases→Sk,get?_update_other→Sn,get?_update_self→So
open List renaming mem_cons_of_mem→As,mem_cons→At,size_toArray→Au,mem_cons_self→AA,getElem?_eq_some_iff→AM,not_mem_nil→AQ,length_set→A3,mem_append_right→A9,mem_filter→Bb,length_append→Bo,length_cons→Br,nodup_cons→Bz,getElem?_eq_getElem→BA,range→BB,length_map→BG,mem_singleton→BH,lookup_cons→BM,append_nil→B8,map_cons→Cf,getElem?_set_self→Co,mem_map→CP,getD_eq_getElem?_getD→CY,isEmpty_eq_false_iff→C8,mem_range→Dc,nodup_nil→Dd,all_eq_true→De,filter_cons→Dg,zipWith→Dh,mem_append→Dy,range_succ_eq_map→DB,getElem?_map→DE,map_congr_left→DW,drop_eq_getElem_cons→D4,getElem?_append_left→D5,length_nil→D6,map_append→D7,getElem?_set_self'→Eg,reverse_cons→Ej,length_filter_le→EG,getElem?_set_ne→EK,mem_append_left→EL,toArray→EM,filterMap_cons→E0,getElem_of_mem→E1,forIn_nil→E2,all_cons→Fs,filter_congr→FE,getElem?_set→FH,getElem_mem→FT,isEmpty_iff→FU,length_take→FV,map_map→FW,forIn_cons→Ga,of_mem_zip→Gb,map_nil→G1,map→Ho,all_map→Rb,any_cons→Rc,any_eq_true→Re,contains_eq_mem→Rh,drop_eq_nil_of_le→Ri,eq_nil_of_length_eq_zero→Rj,ext_getElem?→Rk,filterMap_map→Rl,filter_append→Rm,filter_eq_nil_iff→Rn,getElem?_append_right→Ro,getElem?_cons_succ→Rr,getElem?_cons_zero→Rs,getElem?_replicate→Rt,getElem?_toArray→Ru,getElem_range→Rv,length→Rw,length_drop→Rx,length_replicate→Ry,length_singleton→Rz,lookup→RA,map_reverse→RB,mem_filterMap→RC,mem_of_getElem?→RD,nodup_append→RE,replicate→RF,reverse_perm→RG,set_set→RH,zipIdx_cons→RI,zipIdx_nil→RJ
open Nat renaming lt_of_lt_of_le→AF,le_refl→AK,ne_of_lt→A1,lt_irrefl→Bc,le_trans→Cb,lt_succ_of_lt→CD,ble→Dv,ne_of_gt→Ea,lt_succ_self→Ev,le_of_ble_eq_true→EH,le_of_lt→EN,pow_le_pow_right→EO,lt_of_le_of_lt→Fk,not_lt_zero→Gc,le_succ→Ge,zero_le→Gf,ble_eq→RK,min_self→RM,not_lt→RN
open Int renaming emod_eq_of_lt→AI,zero_emod→AZ,emod_emod_of_dvd→A6,mul_emod→A8,emod_lt_of_pos→Ba,emod_nonneg→Bf,mul_comm→Bj,dvd_refl→BR,mul_zero→BZ,one_mul→Cy,zero_mul→CA,mul_one→CO,toNat_natCast→Ei,zero_add→EJ,mul_assoc→Fq,le_trans→GZ,sub_zero→G0,le_refl→Hj,mul_pos→Hk,add_emod→Q5,ediv_one→Q6,mul_nonneg→Q7,sub_emod→Q8,zero_sub→Q9
open PySem.W renaming mg_none_of→Bi,nsIn→BK,keepIn→CJ,fnOf→Dl,hideAll_get→Ds,OpenLaw→Er,hideAll→ET,hideAll_none→EU,codeIn→E5,of_hideAll→Fl,methodObj→FI,findIn→Gw,mg_of→GW,WalkO→SK,cellsFrom_some→SL,funFrames_hide→SM,kIn_of→SN,kitOne→SQ,subIn→SR
open Option.some renaming inj→Bk,injEq→BP
open PySem.Builtin.SmallTypes renaming nextOf→Bl,ownedTupleIsFree→Ci,ownedTupleHandOut→RZ
open PySem.NameKind renaming cell→Bs,free→C1
open Prod renaming ext→Bw
open PyProof.Rows renaming callWith_type1→BD,envOfC→DT,AllBare→Ef,boot_list→Ep,IntsAre→Gv,subscriptTail→GV,Call_→HB,IsTup→HC,Subscript_→HE,boot_range→HF,boot_tuple→RS,slicePart_none→RT,slot_tuple_getitem→RU,subscriptTail_builtinR→RW
open Classical renaming byContradiction→Cw,choose_spec→DG,choose→Q3
open PySem.F renaming slot_tuple_iterator_next→CZ,plainAttrs_list→Eh,slot_zip_next→EQ,args_tuple_add_2→R5,args_tuple_iterator_next_1→R6,args_zip_next_1→R7,entry_tuple_add→R8,entry_tuple_iterator_next→R9,entry_zip_next→Sa,slot_list_append→Sb,slot_tuple_add→Sc,type_list_append→Sd
open False renaming elim→C7
open PySem.Builtin.Slice renaming slicePlaces→C9,sliceAdjust→D8,sliceApplied→RY
open PySem.Builtin.Tuple renaming tupleExact→Di
open ForInStep renaming yield→Dx
open PySem.Str renaming ofString→DI
open Array renaming length_toList→DV,toList→GY,getElem?_eq_getElem→QZ,getElem?_toList→Q0
open PySem.SeqAt renaming EqAt→ES,RcNeAt→G2,RcAt→HI
open Ne renaming symm→E3
open PySem.Obj renaming mapSeq→FK,data_mapFields→Sr
open Sum renaming inl→FQ,inr→FR
open PySem.Shared renaming heap→Hl
open PySem.Value renaming none→HJ,bool→Sy,int→Sz,ref→SD,str→SF,type→SG
open PySem.Walks renaming list→HK,tuple→SU
open NeZero renaming ne→IF
open PyProof.Rows.IsTup renaming new→IG
open PySem.Data renaming cell→IH,seq→II
open Function renaming comp_def→Q4
open List.Perm renaming refl→Ra
open List.cons renaming injEq→Rg
open Prod.mk renaming injEq→RQ
open PySem.Builtin.Int renaming intBits→RX
open PySem.Calls renaming Name_function_global→R0,spliced_cons→R1,spliced_nil→R4
open PySem.Heap.IsSliceOf renaming new→Sf
open PySem.Heap.SameBut renaming refl→Sh,update→Si
open PySem.IsRange renaming new→Sq
open PySem.Paired renaming length→Su
open PySem.SeqAt.EqAt renaming of_refs→Sv,same→Sw
open PySem.W.WData renaming int→SH
open PySem.W.WShape renaming has→SJ
abbrev Fg:=PySem.W.Frag
abbrev Pn:=Ac (PySem.Addr×PySem.Obj)
abbrev Vq:=PySem.Value->PySem.Shared->Prop
set_option genSizeOfSpec false
-- CHANGE: your row's module here,as the last of these rows
namespace L2
open PySem PySem.Spec PyProof.Rows
abbrev Key:=Sum Ae Ah
noncomputable def PY:Key->Ai->An
 |.inl k,v=>Value.isInt k v
 |.inr x,v=>Value.isStrOf x v
noncomputable def fG(w:AU):Key->Ae
 |.inl k=>hashInt k
 |.inr x=>hashStr w x
theorem GJ:∀{k:Key}{v:Ai},PY k v=Ab->(∃ i t,k=FQ i/\v=Sz i t)\/(∃ x t,k=FR x/\v=SF x t)
 |.inl i,v,h=>by
  obtain⟨t,e⟩:=Value.isInt_shape (k:=i) (v:=v) h;exact .inl ⟨i,t,rfl,e⟩
 |.inr x,v,h=>by
  obtain⟨t,e⟩:=Value.isStrOf_shape (x:=x) (v:=v) h;exact .inr ⟨x,t,rfl,e⟩
theorem YR(a b:Ae):decide ((FQ a:Key)=FQ b)=(a==b):=by
 by_cases e:a=b
 ·subst e;simp
 ·have h:¬ (FQ a:Key)=FQ b:=fun q=>e (Sum.inl.inj q)
  rw[Cn h];exact(CI.mpr e).symm
theorem YN(a b:Ah):decide ((FR a:Key)=FR b)=decide (a=b):=by
 by_cases e:a=b
 ·subst e;simp
 ·have h:¬ (FR a:Key)=FR b:=fun q=>e (Sum.inr.inj q)
  rw[Cn h,Cn e]
theorem YQ(a:Ae)(b:Ah):decide ((FQ a:Key)=FR b)=Ad:=Cn (fun q=>nomatch q)
theorem YO(a:Ah)(b:Ae):decide ((FR a:Key)=FQ b)=Ad:=Cn (fun q=>nomatch q)
noncomputable def LD(prog:AN)(w:AU):PySem.KeyKind prog w Key where
 is:=PY
 hash:=fG w
 inj:=fun v a b ha hb=>by
  rcases GJ ha with ⟨i,t,rfl,rfl⟩|⟨x,t,rfl,rfl⟩
  ·rcases GJ hb with ⟨j,u,rfl,e⟩|⟨y,u,rfl,e⟩
   ·injection e with e1 _;rw[e1]
   ·exact nomatch e
  ·rcases GJ hb with ⟨j,u,rfl,e⟩|⟨y,u,rfl,e⟩
   ·exact nomatch e
   ·injection e with e1 _;rw[e1]
 byValue:=fun k v h=>by
  rcases GJ h with ⟨i,t,rfl,rfl⟩|⟨x,t,rfl,rfl⟩<;>rfl
 pyHash:=fun hv h=>by
  rcases GJ hv with ⟨i,t,rfl,rfl⟩|⟨x,t,rfl,rfl⟩
  ·exact wpAny_pyHash_int h
  ·exact wpAny_pyHash_str h
 eqBool:=fun hu hv h=>by
  rcases GJ hu with ⟨i,t,rfl,rfl⟩|⟨x,t,rfl,rfl⟩
  ·rcases GJ hv with ⟨j,u,rfl,rfl⟩|⟨y,u,rfl,rfl⟩
   ·rw[YR]at h;exact wpAny_eqBool_int h
   ·rw[YQ]at h;exact SeqAt.EqAt.int_str i t y u _ _ _ _ h
  ·rcases GJ hv with ⟨j,u,rfl,rfl⟩|⟨y,u,rfl,rfl⟩
   ·rw[YO]at h;exact SeqAt.EqAt.str_int x t j u _ _ _ _ h
   ·rw[YN]at h;exact wpAny_eqBool_str h
 «strs»:=fun k x t v h=>by
  rcases GJ h with ⟨i,u,rfl,e⟩|⟨y,u,rfl,e⟩
  ·exact nomatch e
  ·injection e with e1 _
   subst e1;cases v<;>rfl
end L2
namespace L2
open PySem PySem.Spec PyProof.Rows
variable{us:Ac Ai}{a b it:Aj}{P:AN}{h:AG}{o:Dk}{g':Be IJ}{t' i k n:Ag}{d':Drawn}{ch fp:Ac Aj}{x qual:Ah}{M:HG}{u:Ai}{Q:Unit->Ao->Prop}{e tg:Am}{s:Ao}{pos p:AO}{pI:Pn}{es:Ac Am}{body:Ac Bp}{f:Ai->Ai->Ft Ai}{g:Ae->Ae->Ae}{op:DF}{fd:BW}{ps:Ac Ah}{scope:BS}
inductive V where
 |non|bl (b:An)|int (i:Ae)|str (x:Ah)|byt (b:Be UInt8)|flt (b:UInt64)|ref (a:Aj)|ty (n:Dm)
 deriving DecidableEq
variable{xs vs:Ac V}{v:V}
def Bm:V->Ai->Prop
 |.non,u=>u=HJ
 |.bl b,u=>u=Sy b
 |.int i,u=>∃ t,u=Sz i t
 |.str x,u=>∃ t,u=SF x t
 |.byt b,u=>∃ t,u=Value.bytes b t
 |.flt b,u=>∃ t,u=Value.float b t
 |.ref a,u=>u=SD a
 |.ty n,u=>u=SG n
noncomputable abbrev AW:Ac V->Ac Ai->Prop:=FZ Bm
theorem AW.length(r:AW xs us):xs.length=us.length:=Su r
theorem AW.get:∀{xs:Ac V}{us:Ac Ai}{i:Ag}{x:V},AW xs us->xs[i]?=Aa x->∃ u,us[i]?=Aa u/\Bm x u
 |_,_,_,_,.nil,e=>by simp at e
 |_,_,0,_,.cons r _,e=>by simp at e;subst e;exact⟨_,rfl,r⟩
 |_,_,i+1,x,.cons _ t,e=>by
  obtain⟨u,h1,h2⟩:=AW.get (i:=i) (x:=x) t (by simpa using e)
  exact⟨u,by simpa using h1,h2⟩
theorem AW.set{x:V}{u:Ai}(r:Bm x u):∀{xs:Ac V}{us:Ac Ai}(i:Ag),AW xs us->AW (xs.set i x) (us.set i u)
 |_,_,_,.nil=>.nil
 |_,_,0,.cons _ t=>.cons r t
 |_,_,i+1,.cons q t=>.cons q (AW.set r i t)
theorem AW.append:∀{xs ys:Ac V}{us ws:Ac Ai},AW xs us->AW ys ws->AW (xs++ys) (us++ws)
 |_,_,_,_,.nil,s=>s
 |_,_,_,_,.cons r t,s=>.cons r (AW.append t s)
theorem AW.take:∀{xs:Ac V}{us:Ac Ai}(n:Ag),AW xs us->AW (xs.take n) (us.take n)
 |_,_,0,_=>.nil
 |_,_,_+1,.nil=>.nil
 |_,_,n+1,.cons r t=>.cons r (AW.take n t)
theorem AW.drop:∀{xs:Ac V}{us:Ac Ai}(n:Ag),AW xs us->AW (xs.drop n) (us.drop n)
 |_,_,0,r=>r
 |_,_,_+1,.nil=>.nil
 |_,_,n+1,.cons _ t=>AW.drop n t
def QV:Ap V->Ap Ai->Prop
 |some v,Aa u=>Bm v u
 |none,Af=>GH
 |_,_=>A5
def KV{κ:Type}:Ac (κ×V)->Ac (κ×Ai)->Prop:=FZ fun(p:κ×V)(q:κ×Ai)=>p.1=q.1/\Bm p.2 q.2
noncomputable def kV:Key->V
 |.inl i=>.int i
 |.inr x=>.str x
inductive HO where
 /-- a list -/
 |lst (xs:Ac V)
 /-- a tuple (never changes) -/
 |tup (xs:Ac V)
 /-- a dict whose keys are ints and texts;one whose keys are tuples of ints and texts (the empty one is both) -/
 |dK (kvs:Ac (Key×V))|dT (kvs:Ac (Ac Key×V))
 /-- a set of ints: its members,its size -/
 |set (S:Ae->An) (n:Ag)
 /-- an instance of the class at C,its dict at dx,its attributes -/
 |ins (C dx:Aj) (fs:Ac (Ah×V))
 /-- the dict of the instance at x -/
 |own (x:Aj)
 /-- the dict of an exception -/
 |xd (fs:Ac (Ah×V))
 /-- a bound method,f of x -/
 |met (f x:Aj)
 /-- a range object lo,lo+1,.. below hi -/
 |rng (lo hi:Ae)
 /-- a thing that is known to the object (the script;a dict while a loop walks it): read,never written while it is so -/
 |frz (o:Dk) (u:HO)
 /-- a code object's table -/
 |tbl (ps:Be Ai)
 /-- any other thing,by what is Ab of its one object (a def of one's own: SetO a S n:=HO.ext fun h=>..) -/
 |ext (φ:AG->Prop)
abbrev Hp:=Aj->Ap HO
variable{H:Hp}
noncomputable def upd(H:Hp)(a:Aj)(o:HO):Hp:=fun b=>if b=a then Aa o else H b
theorem F0{o:HO}:upd H a o a=Aa o:=by unfold upd;rw[AC rfl]
theorem B9{o:HO}(h:b≠a):upd H a o b=H b:=by unfold upd;rw[AJ h]
theorem Ez{o:HO}(h:H a=Aa o)(h':H b=Af):a≠b:=by
 intro e;subst e;rw[h]at h';cases h'
section
variable(P:AN)(w:AU)
def ObjOk(H:Hp)(h:AG)(a:Aj):HO->Prop
  |.lst xs=>xs.length<=sizeLine/\∃(its:Ac Ai)(n:Ag),AW xs its/\h.get? a=Aa { cls:=.type "list", data:=.seq its.toArray n }
  |.tup xs=>xs.length<=sizeLine/\∃ its:Ac Ai,AW xs its/\HC h a its.toArray
  |.dK kvs=>kvs.length<=sizeLine/\(a==HM)=Ad/\∃ vs,KV kvs vs/\h.DictOf (LD P w) a vs
  |.dT kvs=>kvs.length<=sizeLine/\(a==HM)=Ad/\∃ xs:Ac (Ac Key×Aj×Ai),
      FZ (fun(p:Ac Key×V)(q:Ac Key×Aj×Ai)=>p.1=q.1/\H q.2.1=Aa (.tup (p.1.map kV))/\Bm p.2 q.2.2) kvs xs /\
      ∃ o es ep,h.get? a=Aa o/\o.ExactDict/\o.data=.dict es ep/\es.toList=xs.map (entryOfKey (tupleKind (LD P w)))/\(xs.map (·.1)).Nodup
  |.set S n=>h.SetOf (intKind P w) a S n
  |.ins C dx fs=>H dx=Aa (.own a)/\fs.length<=1000/\dx≠a/\h.get? a=Aa (PySem.W.instObj C dx) /\
      ∃ mA,h.Ns1 dx mA/\(∀ f,QV (fs.lookup f) (mA f))/\PySem.Within mA (fs.map (·.1))
  |.own _=>∃ o,h.get? a=Aa o
  |.xd fs=>∃ mA,h.Ns1 a mA/\∀ f,QV (fs.lookup f) (mA f)
  |.rng lo hi=>∃ t u v,h.get? a=Aa { cls:=.type "range", data:=.fields #[.int lo t,.int hi u,.int 1 v] }
  |.frz o u=>h.get? a=Aa o/\ObjOk H h a u
  |.tbl ps=>h.get? a=Aa {cls:=.none,data:=.fields ps}
  |.met f x=>h.get? a=Aa (FI (.ref f) (.ref x))
  |.ext φ=>φ h/\(∃ o,h.get? a=Aa o)/\∀ h1 h2:AG,φ h1->(∀ o,h1.get? a=Aa o->h2.get? a=Aa o)->φ h2
def HOk(H:Hp)(h:AG):Prop:=∀ a o,H a=Aa o->ObjOk P w H h a o
end
section
variable{P:AN}{w:AU}{H H':Hp}{h h':AG}{a:Aj}{o:HO}
theorem ObjOk.lt(x:ObjOk P w H h a o):a<h.objs.size:=by
 cases o with
 |lst xs=>obtain⟨_,_,_,_,e⟩:=x;exact Ay e
 |tup xs=>obtain⟨_,_,_,p⟩:=x;exact p.lt
 |dK kvs=>obtain⟨_,_,_,_,o,_,_,e,_⟩:=x;exact Ay e
 |dT kvs=>obtain⟨_,_,_,_,o,_,_,e,_⟩:=x;exact Ay e
 |set S n=>obtain⟨o,_,_,_,e,_⟩:=x;exact Ay e
 |ins C dx fs=>obtain⟨_,_,_,e,_⟩:=x;exact Ay e
 |own y=>obtain⟨_,e⟩:=x;exact Ay e
 |xd fs=>obtain⟨_,⟨_,_,_,e,_⟩,_⟩:=x;exact Ay e
 |rng lo hi=>obtain⟨_,_,_,e⟩:=x;exact Ay e
 |frz ob u=>obtain⟨e,_⟩:=x;exact Ay e
 |tbl ps=>exact Ay (show h.get? a=Aa _ from x)
 |met f y=>exact Ay (show h.get? a=Aa _ from x)
 |ext φ=>obtain⟨_,⟨_,e⟩,_⟩:=x;exact Ay e
theorem FZ.mapP{α β:Type}{F G:α->β->Prop}:∀{l₁:Ac α}{l₂:Ac β},FZ F l₁ l₂->(∀ a b,F a b->G a b)->FZ G l₁ l₂
 |_,_,.nil,_=>.nil
 |_,_,.cons r t,f=>.cons (f _ _ r) (FZ.mapP t f)
theorem ObjOk.stay(x:ObjOk P w H h a o)(k:∀ b u,(b=a\/H b=Aa (.own a))->h.get? b=Aa u->h'.get? b=Aa u)(ho:∀ b,H b=Aa (.own a)->H' b=Aa (.own a))(ht:∀ b xs,H b=Aa (.tup xs)->H' b=Aa (.tup xs)):ObjOk P w H' h' a o:=by
 induction o with
 |lst xs=>obtain⟨z,its,n,r,e⟩:=x;exact⟨z,its,n,r,k _ _ (.inl rfl) e⟩
 |tup xs=>obtain⟨z,its,r,ob,e,c⟩:=x;exact⟨z,its,r,ob,k _ _ (.inl rfl) e,c⟩
 |dK kvs=>obtain⟨z,y,vs,r,ob,es,ep,e,c⟩:=x;exact⟨z,y,vs,r,ob,es,ep,k _ _ (.inl rfl) e,c⟩
 |dT kvs=>
  obtain⟨z,y,xs,r,ob,es,ep,e,c⟩:=x;exact⟨z,y,xs,FZ.mapP r fun p q z=>⟨z.1,ht _ _ z.2.1,z.2.2⟩,ob,es,ep,k _ _ (.inl rfl) e,c⟩
 |set S n=>obtain⟨ob,es,ep,t,e,c⟩:=x;exact⟨ob,es,ep,t,k _ _ (.inl rfl) e,c⟩
 |ins C dx fs=>
  obtain⟨d,z,ne,e,mA,⟨od,es,ep,e2,c⟩,r⟩:=x;exact⟨ho _ d,z,ne,k _ _ (.inl rfl) e,mA,⟨od,es,ep,k _ _ (.inr d) e2,c⟩,r⟩
 |own y=>obtain⟨ob,e⟩:=x;exact⟨ob,k _ _ (.inl rfl) e⟩
 |xd fs=>obtain⟨mA,⟨od,es,ep,e,c⟩,r⟩:=x;exact⟨mA,⟨od,es,ep,k _ _ (.inl rfl) e,c⟩,r⟩
 |rng lo hi=>obtain⟨t,u,v,e⟩:=x;exact⟨t,u,v,k _ _ (.inl rfl) e⟩
 |frz ob u ih=>obtain⟨e,q⟩:=x;exact⟨k _ _ (.inl rfl) e,ih q⟩
 |tbl ps=>
  have e:h.get? a=Aa {cls:=.none,data:=.fields ps}:=x;show h'.get? a=Aa {cls:=.none,data:=.fields ps};exact k a _ (.inl rfl) e
 |met f y=>
  have e:h.get? a=Aa (FI (.ref f) (.ref y)):=x;show h'.get? a=Aa (FI (.ref f) (.ref y));exact k a _ (.inl rfl) e
 |ext φ=>obtain⟨p,⟨o,e⟩,st⟩:=x;exact⟨st _ _ p fun o q=>k _ _ (.inl rfl) q,⟨o,k _ _ (.inl rfl) e⟩,st⟩
theorem HOk.lt(x:HOk P w H h)(e:H a=Aa o):a<h.objs.size:=(x a o e).lt
theorem HOk.fresh(x:HOk P w H h)(e:h.objs.size<=a):H a=Af:=by
 cases q:H a with
 |none=>rfl
 |some u=>exact absurd (AF (x.lt q) e) (Bc _)
theorem HOk.kept(x:HOk P w H h)(k:∀ b u,h.get? b=Aa u->h'.get? b=Aa u):HOk P w H h':=fun a o e=>
 (x a o e).stay (fun b u _ q=>k b u q) (fun _ q=>q) fun _ _ q=>q
theorem HOk.laid(x:HOk P w H h)(k:∀ b u,h.get? b=Aa u->h'.get? b=Aa u)(hp:h.objs.size<=a)(new:ObjOk P w (upd H a o) h' a o):HOk P w (upd H a o) h':=fun b u e=>by
 have hn:=x.fresh hp;by_cases hb:b=a
 ·subst hb;rw[F0]at e;cases e;exact new
 ·rw[B9 hb]at e;exact(x b u e).stay (fun c v _ q=>k c v q) (fun c q=>by rw[B9 (Ez q hn)];exact q) fun c xs q=>by rw[B9 (Ez q hn)];exact q
end
def Rd(H:Hp)(a:Aj)(u:HO):Prop:=H a=Aa u\/∃ o,H a=Aa (.frz o u)
theorem Rd.ok{w:AU}{u:HO}(r:Rd H a u)(x:HOk P w H h):ObjOk P w H h a u:=by
 rcases r with r|⟨o,r⟩
 ·exact x a u r
 ·obtain⟨_,q⟩:=x a _ r;exact q
def Mut:Ap HO->Prop
 |some (.lst _)=>GH
 |some (.dK _)=>GH
 |some (.dT _)=>GH
 |some (.set _ _)=>GH
 |some (.ins _ _ _)=>GH
 |some (.ext _)=>GH
 |_=>A5
section
variable{P:AN}{w:AU}{H:Hp}{h h':AG}{x e:Aj}{o':HO}
theorem HOk.write(ok:HOk P w H h)(mu:Mut (H x))(he:e=x\/H e=Aa (.own x))(k:∀ b u,b≠e->h.get? b=Aa u->h'.get? b=Aa u)(heo:∃ u,h'.get? e=Aa u)(new:ObjOk P w (upd H x o') h' x o'):HOk P w (upd H x o') h':=fun b u q=>by
 have nown:∀ c y,H c=Aa (.own y)->c≠x:=fun c y r z=>by subst z;rw[r]at mu;exact mu
 have ntup:∀ c xs,H c=Aa (.tup xs)->c≠x:=fun c xs r z=>by subst z;rw[r]at mu;exact mu
 by_cases hb:b=x
 ·subst hb;rw[F0]at q;cases q;exact new
 ·rw[B9 hb]at q;by_cases hbe:b=e
  ·have q':H b=Aa (.own x):=by
    rcases he with z|z
    ·exact absurd (hbe.trans z) hb
    ·rw[hbe];exact z
   rw[q]at q';cases q';obtain⟨v,hv⟩:=heo;exact⟨v,by rw[hbe];exact hv⟩
  ·refine(ok b u q).stay (fun c v hc r=>k c v ?_ r) (fun c r=>by rw[B9 (nown c b r)];exact r) fun c xs r=>by rw[B9 (ntup c xs r)];exact r
   rcases hc with rfl|hc
   ·exact hbe
   ·rintro rfl;rcases he with z|z
    ·exact nown c b hc z
    ·rw[hc]at z;cases z;exact hb rfl
end
structure Un (fs ex:Ac Aj) (H H':Hp) (h h':AG):Prop where
 keep:∀ b o,h.get? b=Aa o->H b=Af->b∉fs->b∉ex->h'.get? b=Aa o
 slot:∀ b o,h.get? b=Aa o->H b=Af->b∈fs->b∉ex->∃ sl,h'.get? b=Aa {o with slots:=sl}
 free:∀ b o,h.get? b=Aa o->H b=Af->b∉ex->H' b=Af
 there:∀ b o,h.get? b=Aa o->b∉ex->∃ o',h'.get? b=Aa o'
 tups:∀ b xs,H b=Aa (.tup xs)->H' b=Aa (.tup xs)
 frzs:∀ b o u,H b=Aa (.frz o u)->H' b=Aa (.frz o u)
 tbls:∀ b ps,H b=Aa (.tbl ps)->∃ more,H' b=Aa (.tbl (ps++more))
section
variable{fs fs' ex ex':Ac Aj}{H H1 H2:Hp}{h h1 h2 h':AG}{a x e:Aj}{o:HO}
theorem Un.any(u:Un fs ex H H1 h h1){ob:Dk}(q:h.get? b=Aa ob)(n:H b=Af)(hx:b∉ex):∃ sl,h1.get? b=Aa {ob with slots:=sl}:=by
 by_cases hb:b∈fs
 ·exact u.slot b ob q n hb hx
 ·exact⟨ob.slots,u.keep b ob q n hb hx⟩
theorem Un.kept(k:∀ b u,h.get? b=Aa u->h'.get? b=Aa u):Un fs ex H H h h':=
 ⟨fun b ob q _ _ _=>k b ob q,fun b ob q _ _ _=>⟨ob.slots,k b ob q⟩,fun _ _ _ n _=>n,fun b ob q _=>⟨ob,k b ob q⟩,fun _ _ q=>q,fun _ _ _ q=>q,fun _ ps q=>⟨#[],by rw[q];simp⟩⟩
theorem Un.refl:Un fs ex H H h h:=Un.kept fun _ _ q=>q
theorem Un.laid(k:∀ b u,h.get? b=Aa u->h'.get? b=Aa u)(hp:h.objs.size<=a)(hn:H a=Af):Un fs ex H (upd H a o) h h' where
 keep:=fun b u q _ _ _=>k b u q
 slot:=fun b u q _ _ _=>⟨u.slots,k b u q⟩
 free:=fun b u q n _=>by rw[B9 (A1 (AF (Ay q) hp))];exact n
 there:=fun b u q _=>⟨u,k b u q⟩
 tups:=fun b xs q=>by rw[B9 (Ez q hn)];exact q
 frzs:=fun b u xs q=>by rw[B9 (Ez q hn)];exact q
 tbls:=fun b ps q=>⟨#[],by rw[B9 (Ez q hn),q];simp⟩
theorem Un.write(mu:Mut (H x))(he:e=x\/H e=Aa (.own x))(k:∀ b u,b≠e->h.get? b=Aa u->h'.get? b=Aa u)(heo:∃ u,h'.get? e=Aa u):Un fs ex H (upd H x o) h h':=by
 have hx:∀ b,H b=Af->b≠x:=fun b n z=>by subst z;rw[n]at mu;exact mu
 have hb:∀ b,H b=Af->b≠e:=fun b n z=>by
  subst z;rcases he with r|r
  ·exact hx b n r
  ·rw[n]at r;cases r
 have hm:∀ b u,H b=Aa u->¬ Mut (Aa u)->b≠x:=fun b u q nm z=>by subst z;rw[q]at mu;exact nm mu
 refine⟨fun b u q n _ _=>k b u (hb b n) q,fun b u q n _ _=>⟨u.slots,k b u (hb b n) q⟩,fun b u q n _=>by rw[B9 (hx b n)];exact n,fun b u q _=>?_,
  fun b xs q=>by rw[B9 (hm b _ q fun z=>z)];exact q,fun b u xs q=>by rw[B9 (hm b _ q fun z=>z)];exact q,fun b ps q=>⟨#[],by rw[B9 (hm b _ q fun z=>z),q];simp⟩⟩
 by_cases hbe:b=e
 ·subst hbe;exact heo
 ·exact⟨u,k b u hbe q⟩
end
noncomputable def trk(h:AG)(H:Hp):Ac Aj:=(BB h.objs.size).filter fun a=>(H a).isSome
noncomputable def GQ(h:AG)(H:Hp):AG:=ET h (trk h H)
theorem T7(h:AG)(H:Hp):(GQ h H).objs.size=h.objs.size:=PySem.W.hideAll_size _ _
theorem Up(e:h.get? b=Aa o)(n:H b=Af):(GQ h H).get? b=Aa o:=
 Ds _ e fun hm=>by
  have q:(H b).isSome=Ab:=(Bb.mp hm).2;rw[n]at q;simp at q
theorem WV(e:(GQ h H).get? b=Aa o):h.get? b=Aa o/\H b=Af:=by
 have e':h.get? b=Aa o:=Fl (trk h H) e;refine⟨e',?_⟩;cases q:H b with
 |none=>rfl
 |some x=>
  have hm:b∈trk h H:=Bb.mpr ⟨Dc.mpr (Ay e'),by simp[q]⟩
  have z:(GQ h H).get? b=Af:=EU (trk h H) hm;rw[z]at e;cases e
noncomputable def XD(g h:AG)(L:Aj):Pn:=(BB h.objs.size).filterMap fun a=>if a=L\/(g.get? a).isSome=Ab then Af else (h.get? a).map fun o=>(a,o)
noncomputable def rest(g h:AG)(L d:Aj):Pn:=(XD g h L).filter fun p=>decide (p.1≠d)
structure Mod (K:Fg) (mg:Ah->Ap Ai) (base:AG):Prop where
 kin:K.In base
 glob:base.Ns AT mg
 blt:∃ mb,base.Ns GD mb/\∀ x:Ah,x≠"__name__"->mb x=Cq x
 nolimit:base.NoLimit
structure Cx where
 prog:AN
 w:AU
 K:Fg
 mg:Ah->Ap Ai
 base:AG
 A:A2
 N:Ac Ah
 s₀:Ao
 H₀:Hp
 env:BJ
 outer:Ac BJ
 stack:Ac BJ
 ex:Ac Aj
 fn:Ah->An
 calm:An
 pn:Pn
 xe:Ai->Ao->Prop
variable{X:Cx}
noncomputable def frs(l:Ac BJ):Ac Aj:=l.filterMap (·.frame)
noncomputable abbrev Cx.fs(X:Cx):Ac Aj:=frs X.outer
def Vis(sc:BS)(x:Ah):Prop:=sc.names.lookup x=Aa .local\/sc.names.lookup x=Aa .cell\/sc.names.lookup x=Aa .free
def Loc(sc:BS)(x:Ah):Prop:=sc.names.lookup x=Aa .local\/sc.names.lookup x=Aa .cell
noncomputable def gA(env:BJ)(h:AG)(m:Ah->Ap Ai)(x:Ah)(u:Ai):Prop:=
 (env.kindOf x=Aa .local/\m x=Aa u)\/((env.kindOf x=Aa .cell\/env.kindOf x=Aa .free)/\∃ c,env.cells.lookup x=Aa c/\h.IsCell c (Aa u))
structure Cx.Ok (X:Cx):Prop where
 mod:Mod X.K X.mg X.base
 kind:X.env.scope.kind=.function
 glob:X.env.globals=AT
 blt:X.env.builtins=GD
 above:X.s₀.heap.objs.size<=X.env.locals
 inj:∀ x y c,X.env.cells.lookup x=Aa c->X.env.cells.lookup y=Aa c->x=y
 has:∀ x,(X.env.kindOf x=Aa .cell\/X.env.kindOf x=Aa .free)->∃ c,X.env.cells.lookup x=Aa c
 cab:∀ x c,X.fn x=Ab->X.env.cells.lookup x=Aa c->X.s₀.heap.objs.size<=c
 hd:X.calm=Ab->X.A.handled=Af
 frames:X.A.frames=Aa X.stack
 stk:X.stack=X.outer\/(X.stack=X.env::X.outer/\X.env.frame=Aa X.env.locals)
 exf:∀ b∈X.ex,b≠X.env.locals/\∀ x c,X.env.cells.lookup x=Aa c->c≠b
 bs:∀ b o,X.base.get? b=Aa o->X.s₀.heap.get? b=Aa o/\X.H₀ b=Af
 bsz:X.base.objs.size<=X.s₀.heap.objs.size
 noex:∀ b o,X.base.get? b=Aa o->b∉X.ex
 exfs:∀ b∈X.ex,b∉X.fs
 funs:X.s₀.heap.FunFrames X.base X.outer
 frf:∀ b∈X.fs,X.H₀ b=Af
structure Inv (X:Cx) (pI:Pn) (σ:Ac (Ap V)) (H:Hp) (s:Ao):Prop where
 ok:X.Ok
 os:s.os=X.s₀.os
 bare:Ef s.gens
 base:Un X.fs X.ex X.H₀ H X.s₀.heap s.heap
 loc:∃ m,s.heap.Ns X.env.locals m/\∀(i:Ag)(x:Ah)(v:V),X.N[i]?=Aa x->σ[i]?=Aa (Aa v)->Vis X.env.scope x->∃ u,Bm v u/\gA X.env s.heap m x u
 cell:∀ x c,X.env.cells.lookup x=Aa c->∃ v,s.heap.IsCell c v
 free:H X.env.locals=Af
 freeC:∀ x c,X.env.cells.lookup x=Aa c->H c=Af
 pin:∀ p∈X.pn++pI,s.heap.get? p.1=Aa p.2/\H p.1=Af/\p.1≠X.env.locals/\p.1∉X.fs/\∀ v,p.2.data≠.cell v
 hok:HOk X.prog X.w H s.heap
 len:σ.length=X.N.length
section
variable{X:Cx}{pI:Pn}{σ:Ac (Ap V)}{H H':Hp}{s:Ao}{h':AG}
theorem Cx.Ok.nofr(ok:X.Ok)(e:X.base.get? b=Aa o):b∉X.fs:=fun hb=>by
 have:=(ok.funs.mem hb).1;rw[e]at this;cases this
theorem Inv.bs(I:Inv X pI σ H s):∀ b o,X.base.get? b=Aa o->s.heap.get? b=Aa o/\H b=Af:=fun b o e=>
 ⟨I.base.keep b o (I.ok.bs b o e).1 (I.ok.bs b o e).2 (I.ok.nofr e) (I.ok.noex b o e),I.base.free b o (I.ok.bs b o e).1 (I.ok.bs b o e).2 (I.ok.noex b o e)⟩
theorem Inv.bk(I:Inv X pI σ H s):∀ b o,X.base.get? b=Aa o->s.heap.get? b=Aa o:=fun b o e=>(I.bs b o e).1
theorem Inv.mod(I:Inv X pI σ H s):Mod X.K X.mg X.base:=I.ok.mod
theorem Inv.kIn(I:Inv X pI σ H s):X.K.In s.heap:=I.ok.mod.kin.keeps I.bk
theorem Inv.lt(I:Inv X pI σ H s):X.env.locals<s.heap.objs.size:=let ⟨_,hn,_⟩:=I.loc;hn.lt
theorem Inv.sz(I:Inv X pI σ H s):X.s₀.heap.objs.size<=s.heap.objs.size:=Cb I.ok.above (EN I.lt)
theorem Inv.nofs(I:Inv X pI σ H s)(h:s.heap.objs.size<=a):a∉X.fs:=fun hb=>by
 obtain⟨_,o,ho,_⟩:=I.ok.funs.mem hb;exact absurd (AF (Ay ho) (Cb I.sz h)) (Bc _)
theorem Inv.cne(I:Inv X pI σ H s):∀ x c,X.env.cells.lookup x=Aa c->c≠X.env.locals:=fun x c e z=>by
 obtain⟨v,o,ho,hd⟩:=I.cell x c e;obtain⟨m,⟨o',es,ep,ho',hd',_⟩,_⟩:=I.loc;rw[z,ho']at ho;cases ho;rw[hd']at hd;cases hd
theorem Inv.funs(I:Inv X pI σ H s):s.heap.FunFrames X.base X.outer:=by
 have all:∀(l:Ac BJ),(∀ b∈frs l,b∈X.fs)->X.s₀.heap.FunFrames X.base l->s.heap.FunFrames X.base l:=by
  intro l
  induction l with
  |nil=>intro _ _;trivial
  |cons env r ih=>
   intro hs hl;obtain⟨hk,⟨L,o,hf,hn,ho,hd⟩,hr⟩:=hl;have hL:L∈X.fs:=hs L (by unfold frs;rw[E0,hf];exact AA)
   obtain⟨sl,e⟩:=I.base.slot L o ho (I.ok.frf L hL) hL fun z=>I.ok.exfs L z hL
   exact⟨hk,⟨L,_,hf,hn,e,hd⟩,ih (fun b hb=>hs b (by unfold frs;rw[E0,hf];exact As _ hb)) hr⟩
 exact all X.outer (fun _ hb=>hb) I.ok.funs
theorem Inv.stack(I:Inv X pI σ H s):s.heap.FunFrames X.base X.stack:=by
 rcases I.ok.stk with e|⟨e,hf⟩
 ·rw[e];exact I.funs
 ·rw[e];obtain⟨m,hn,_⟩:=I.loc;refine .cons (by rw[I.ok.kind];decide) hf hn ?_ I.funs
  exact Sj (Cb I.ok.bsz I.ok.above)
theorem Inv.stkSub(I:Inv X pI σ H s):∀ b∈frs X.stack,b∈X.env.locals::X.fs:=fun b hb=>by
 rcases I.ok.stk with e|⟨e,hf⟩
 ·rw[e]at hb;exact As _ hb
 ·rw[e]at hb;unfold frs at hb;rw[E0,hf]at hb;exact hb
theorem Inv.stkFree(I:Inv X pI σ H s):∀ b∈frs X.stack,H b=Af:=fun b hb=>by
 rcases At.mp (I.stkSub b hb) with e|hb
 ·rw[e];exact I.free
 ·obtain⟨_,o,ho,_⟩:=I.ok.funs.mem hb;exact I.base.free b o ho (I.ok.frf b hb) fun z=>I.ok.exfs b z hb
theorem Inv.step(I:Inv X pI σ H s)(hch:∀ b∈ch,(b∈X.ex\/X.s₀.heap.objs.size<=b)/\b≠X.env.locals/\(∀ x c,X.env.cells.lookup x=Aa c->c≠b)/\∀ p∈X.pn++pI,p.1≠b)(keep:∀ b o,b≠X.env.locals->b∉X.fs->b∉ch->s.heap.get? b=Aa o->H b=Af->h'.get? b=Aa o)(slot:∀ b o,b≠X.env.locals->b∈X.fs->b∉ch->s.heap.get? b=Aa o->H b=Af->∃ sl,h'.get? b=Aa {o with slots:=sl})(free:∀ b o,b∉ch->s.heap.get? b=Aa o->H b=Af->H' b=Af)(there:∀ b o,b∉ch->s.heap.get? b=Aa o->∃ o',h'.get? b=Aa o')(tups:∀ b xs,H b=Aa (.tup xs)->H' b=Aa (.tup xs))(frzs:∀ b o u,H b=Aa (.frz o u)->H' b=Aa (.frz o u))(tbls:∀ b ps,H b=Aa (.tbl ps)->∃ more,H' b=Aa (.tbl (ps++more)))(ns:∀ m,s.heap.Ns X.env.locals m->h'.Ns X.env.locals m)(hok:HOk X.prog X.w H' h')(hg:Ef g'):Inv X pI σ H' {s with heap:=h',gens:=g',drawn:=d',toks:=t'}:=by
 have neL:∀ b o,X.s₀.heap.get? b=Aa o->b≠X.env.locals:=fun b o e=>A1 (AF (Ay e) I.ok.above)
 have neC:∀ b o,X.s₀.heap.get? b=Aa o->b∉X.ex->b∉ch:=fun b o e hx hb=>by
  rcases (hch b hb).1 with z|z
  ·exact hx z
  ·exact absurd (AF (Ay e) z) (Bc _)
 have cellK:∀ x c,X.env.cells.lookup x=Aa c->∀ v,s.heap.IsCell c v->h'.IsCell c v:=fun x c e v ⟨o,ho,hd⟩=>by
  have nch:c∉ch:=fun z=>(hch c z).2.2.1 x c e rfl
  by_cases hc:c∈X.fs
  ·obtain⟨sl,q⟩:=slot c o (I.cne x c e) hc nch ho (I.freeC x c e);exact⟨_,q,hd⟩
  ·exact⟨o,keep c o (I.cne x c e) hc nch ho (I.freeC x c e),hd⟩
 refine⟨I.ok,I.os,hg,⟨fun b o e n hb hx=>?_,fun b o e n hb hx=>?_,fun b o e n hx=>?_,fun b o e hx=>?_,fun b xs e=>tups b xs (I.base.tups b xs e),fun b o xs e=>frzs b o xs (I.base.frzs b o xs e),fun b ps e=>?_⟩,?_,fun x c e=>?_,?_,fun x c e=>?_,fun p hp=>?_,hok,I.len⟩
 ·exact keep b o (neL b o e) hb (neC b o e hx) (I.base.keep b o e n hb hx) (I.base.free b o e n hx)
 ·obtain⟨sl,e1⟩:=I.base.slot b o e n hb hx;obtain⟨sl',e2⟩:=slot b _ (neL b o e) hb (neC b o e hx) e1 (I.base.free b o e n hx);exact⟨sl',e2⟩
 ·obtain⟨o',e1⟩:=I.base.there b o e hx;exact free b o' (neC b o e hx) e1 (I.base.free b o e n hx)
 ·obtain⟨o',e1⟩:=I.base.there b o e hx;exact there b o' (neC b o e hx) e1
 ·obtain⟨m1,e1⟩:=I.base.tbls b ps e;obtain⟨m2,e2⟩:=tbls b _ e1;exact⟨m1++m2,by rw[e2,Array.append_assoc]⟩
 ·obtain⟨m,hn,hl⟩:=I.loc;refine⟨m,ns m hn,fun i x v e1 e2 e3=>?_⟩
  obtain⟨u,r,l⟩:=hl i x v e1 e2 e3;refine⟨u,r,?_⟩;rcases l with l|⟨k,c,e,z⟩
  ·exact .inl l
  ·exact .inr ⟨k,c,e,cellK x c e _ z⟩
 ·obtain⟨v,z⟩:=I.cell x c e;exact⟨v,cellK x c e v z⟩
 ·obtain⟨m,⟨o,_,_,ho,_⟩,_⟩:=I.loc;exact free _ o (fun z=>(hch _ z).2.1 rfl) ho I.free
 ·obtain⟨v,o,ho,hd⟩:=I.cell x c e;exact free c o (fun z=>(hch c z).2.2.1 x c e rfl) ho (I.freeC x c e)
 ·obtain⟨e,n,ne,nf,d⟩:=I.pin p hp;have nch:p.1∉ch:=fun z=>(hch p.1 z).2.2.2 p hp rfl
  exact⟨keep p.1 p.2 ne nf nch e n,free p.1 p.2 nch e n,ne,nf,d⟩
theorem Inv.un(I:Inv X pI σ H s)(u:Un X.fs [] H H' s.heap h')(hok:HOk X.prog X.w H' h'):Inv X pI σ H' {s with heap:=h',toks:=t'}:=by
 obtain⟨m,⟨o,es,ep,ho,r⟩,_⟩:=id I.loc;obtain⟨sl,hL⟩:=u.any ho I.free (by simp)
 exact I.step (g':=s.gens) (d':=s.drawn) (ch:=[]) (fun _ z=>nomatch z) (fun b o _ hb _ e n=>u.keep b o e n hb (by simp)) (fun b o _ hb _ e n=>u.slot b o e n hb (by simp)) (fun b o _ e n=>u.free b o e n (by simp)) (fun b o _ e=>u.there b o e (by simp)) u.tups u.frzs u.tbls (fun m' hm=>by
  obtain⟨o',es',ep',ho',r'⟩:=hm;rw[ho]at ho';cases ho';exact⟨_,es',ep',hL,r'⟩) hok I.bare
theorem Inv.call(I:Inv X pI σ H s)(u:Un (frs X.stack) ch H H' s.heap h')(hok:HOk X.prog X.w H' h')(hg:Ef g')(hch:∀ b∈ch,(b∈X.ex\/X.s₀.heap.objs.size<=b)/\b≠X.env.locals/\(∀ x c,X.env.cells.lookup x=Aa c->c≠b)/\∀ p∈X.pn++pI,p.1≠b):Inv X pI σ H' {s with heap:=h',gens:=g',drawn:=d',toks:=t'}:=by
 obtain⟨m,⟨o,es,ep,ho,r⟩,_⟩:=id I.loc;obtain⟨sl,hL⟩:=u.any ho I.free fun z=>(hch _ z).2.1 rfl
 exact I.step (ch:=ch) hch (fun b o hL hb hc e n=>u.keep b o e n (fun z=>(At.mp (I.stkSub b z)).elim hL hb) hc) (fun b o _ _ hc e n=>u.any e n hc) (fun b o hc e n=>u.free b o e n hc) (fun b o hc e=>u.there b o e hc) u.tups u.frzs u.tbls (fun m' hm=>by
  obtain⟨o',es',ep',ho',r'⟩:=hm;rw[ho]at ho';cases ho';exact⟨_,es',ep',hL,r'⟩) hok hg
theorem Inv.turned(I:Inv X pI σ H s)(k:∀ b o,b≠it->s.heap.get? b=Aa o->h'.get? b=Aa o)(hn:H it=Af)(hL:it≠X.env.locals)(h1:it∈X.ex\/X.s₀.heap.objs.size<=it)(h2:∀ x c,X.env.cells.lookup x=Aa c->c≠it)(h3:∀ p∈X.pn++pI,p.1≠it):Inv X pI σ H {s with heap:=h',toks:=t'}:=by
 have nit:∀ b u,H b=Aa u->b≠it:=fun b u e z=>by rw[z,hn]at e;cases e
 refine I.step (g':=s.gens) (d':=s.drawn) (ch:=[it]) (fun b hb=>?_) (fun b o _ _ hc e _=>k b o (fun z=>hc (by simp[z])) e) (fun b o _ _ hc e _=>⟨o.slots,k b o (fun z=>hc (by simp[z])) e⟩) (fun _ _ _ _ n=>n)
  (fun b o hc e=>⟨o,k b o (fun z=>hc (by simp[z])) e⟩) (fun _ _ e=>e) (fun _ _ _ e=>e) (fun b ps e=>⟨#[],by rw[e];simp⟩) (fun m hm=>?_) (fun b u e=>?_) I.bare
 ·have e:b=it:=by simpa using hb
  subst e;exact⟨h1,hL,h2,h3⟩
 ·obtain⟨o,es,ep,ho,r⟩:=hm;exact⟨o,es,ep,k _ o (E3 hL) ho,r⟩
 ·refine(I.hok b u e).stay (fun c v hc q=>k c v ?_ q) (fun _ q=>q) fun _ _ q=>q
  rcases hc with z|z
  ·rw[z];exact nit b u e
  ·exact nit c _ z
theorem Inv.tok(I:Inv X pI σ H s)(t:Ag):Inv X pI σ H {s with toks:=t}:=I.un (h':=s.heap) (t':=t) Un.refl I.hok
theorem Inv.kept{t':Ag}(I:Inv X pI σ H s)(k:∀ b u,s.heap.get? b=Aa u->h'.get? b=Aa u):Inv X pI σ H {s with heap:=h',toks:=t'}:=I.un (Un.kept k) (I.hok.kept k)
theorem Inv.laid{a:Aj}{o:HO}{t':Ag}(I:Inv X pI σ H s)(k:∀ b u,s.heap.get? b=Aa u->h'.get? b=Aa u)(hp:s.heap.objs.size<=a)(new:ObjOk X.prog X.w (upd H a o) h' a o):Inv X pI σ (upd H a o) {s with heap:=h',toks:=t'}:=I.un (Un.laid k hp (I.hok.fresh hp)) (I.hok.laid k hp new)
theorem Inv.write{x e:Aj}{o:HO}{t':Ag}(I:Inv X pI σ H s)(mu:Mut (H x))(he:e=x\/H e=Aa (.own x))(k:∀ b u,b≠e->s.heap.get? b=Aa u->h'.get? b=Aa u)(heo:∃ u,h'.get? e=Aa u)(new:ObjOk X.prog X.w (upd H x o) h' x o):Inv X pI σ (upd H x o) {s with heap:=h',toks:=t'}:=I.un (Un.write mu he k heo) (I.hok.write mu he k heo new)
theorem Inv.pins_of{pins':Pn}(I:Inv X pI σ H s)(h:∀ p∈pins',s.heap.get? p.1=Aa p.2/\H p.1=Af/\p.1≠X.env.locals/\p.1∉X.fs/\∀ v,p.2.data≠.cell v):Inv X pins' σ H s:=
 ⟨I.ok,I.os,I.bare,I.base,I.loc,I.cell,I.free,I.freeC,fun p hp=>(Dy.mp hp).elim (fun z=>I.pin p (EL _ z)) (h p),I.hok,I.len⟩
theorem N7{N:Ac Ah}(hN:N.Nodup){j:Ag}(a:N[i]?=Aa x)(b:N[j]?=Aa x):i=j:=by
 obtain⟨h1,e1⟩:=AM.mp a;obtain⟨h2,e2⟩:=AM.mp b;exact(List.getElem_inj hN).mp (e1.trans e2.symm)
theorem NL{A:A2}{E:Vq}(I:Inv X pI σ H s)(hN:X.N.Nodup)(hi:X.N[i]?=Aa x)(hx:Loc X.env.scope x)(r:Bm v u)(h:∀ s',Inv X pI (σ.set i (Aa v)) H s'->(∃ a,Eb a s.heap s'.heap/\(a=X.env.locals\/X.env.cells.lookup x=Aa a))->Q () s')(hf:X.fn x=Ab\/X.env.scope.names.lookup x=Aa .local:=by first|exact .inl rfl|exact .inr rfl|assumption):AD M A (storeName X.env x u) Q E s:=by
 obtain⟨m,hn,hl⟩:=id I.loc;have hcls:(X.env.scope.kind==.class||(X.env.scope.kind==.module&&X.env.locals != X.env.globals))=Ad:=by rw[I.ok.kind];rfl
 have hiσ:i<σ.length:=by rw[I.len];exact(AM.mp hi).1
 have cne:=I.cne;have tracked:∀{a:Aj}{h':AG},(∃ o,s.heap.get? a=Aa o/\H a=Af)->Eb a s.heap h'->HOk X.prog X.w H h':=fun {a h'} ha hs b ob e=>by
  obtain⟨_,_,hfree⟩:=ha;refine(I.hok b ob e).stay (fun c w' hc q=>(hs.2 c ?_).trans q) (fun _ q=>q) fun _ _ q=>q
  rintro rfl;rcases hc with rfl|hc
  ·rw[hfree]at e;cases e
  ·rw[hfree]at hc;cases hc
 rcases hx with hk|hk
 ·refine wpAny_storeName_local hk hn (fun h' hn' hs=>?_) hcls
  obtain⟨oL,_,_,hoL,_⟩:=id hn;refine h _ ⟨I.ok,I.os,I.bare,⟨fun b o e n hb hx=>?_,fun b o e n hb hx=>?_,I.base.free,fun b o e hx=>?_,I.base.tups,I.base.frzs,I.base.tbls⟩,⟨_,hn',fun j y v' e1 e2 e3=>?_⟩,fun y c e=>?_,I.free,I.freeC,fun p hp=>?_,tracked ⟨oL,hoL,I.free⟩ hs,by simpa using I.len⟩ ⟨_,hs,.inl rfl⟩
  ·exact(hs.2 b (A1 (AF (Ay e) I.ok.above))).trans (I.base.keep b o e n hb hx)
  ·obtain⟨sl,e1⟩:=I.base.slot b o e n hb hx;exact⟨sl,(hs.2 b (A1 (AF (Ay e) I.ok.above))).trans e1⟩
  ·obtain⟨o',e1⟩:=I.base.there b o e hx;exact⟨o',(hs.2 b (A1 (AF (Ay e) I.ok.above))).trans e1⟩
  ·by_cases hj:j=i
   ·subst hj;rw[hi]at e1;cases e1;rw[Co hiσ]at e2;cases e2;exact⟨u,r,.inl ⟨hk,by simp⟩⟩
   ·rw[EK (E3 hj)]at e2;obtain⟨u',r',q⟩:=hl j y v' e1 e2 e3;refine⟨u',r',?_⟩;rcases q with ⟨k,e⟩|⟨k,c,e,z⟩
    ·refine .inl ⟨k,?_⟩;have:y≠x:=fun e=>hj (N7 hN e1 (e ▸ hi))
     simp[this,e]
    ·exact .inr ⟨k,c,e,z.sameBut hs (cne y c e)⟩
  ·obtain⟨w',z⟩:=I.cell y c e;exact⟨w',z.sameBut hs (cne y c e)⟩
  ·obtain⟨e,n,ne,nf,d⟩:=I.pin p hp;exact⟨(hs.2 p.1 ne).trans e,n,ne,nf,d⟩
 ·have hfn:X.fn x=Ab:=by
   rcases hf with z|z
   ·exact z
   ·rw[z]at hk;cases hk
  obtain⟨c,hc⟩:=I.ok.has x (.inl hk);obtain⟨w',z⟩:=I.cell x c hc;refine wpAny_storeName_cell I.ok.kind hk hc z (fun h' hc' hs=>?_)
  obtain⟨oc,hoc,hocd⟩:=id z;refine h {s with heap:=h'} ⟨I.ok,I.os,I.bare,⟨fun b o e n hb hx=>?_,fun b o e n hb hx=>?_,I.base.free,fun b o e hx=>?_,I.base.tups,I.base.frzs,I.base.tbls⟩,⟨m,hn.sameBut hs (E3 (cne x c hc)),fun j y v' e1 e2 e3=>?_⟩,fun y c' e=>?_,I.free,I.freeC,fun p hp=>?_,tracked ⟨oc,hoc,I.freeC x c hc⟩ hs,by simpa using I.len⟩ ⟨c,hs,.inr hc⟩
  ·exact(hs.2 b (A1 (AF (Ay e) (I.ok.cab x c hfn hc)))).trans (I.base.keep b o e n hb hx)
  ·obtain⟨sl,e1⟩:=I.base.slot b o e n hb hx;exact⟨sl,(hs.2 b (A1 (AF (Ay e) (I.ok.cab x c hfn hc)))).trans e1⟩
  ·obtain⟨o',e1⟩:=I.base.there b o e hx;exact⟨o',(hs.2 b (A1 (AF (Ay e) (I.ok.cab x c hfn hc)))).trans e1⟩
  ·by_cases hj:j=i
   ·subst hj;rw[hi]at e1;cases e1;rw[Co hiσ]at e2;cases e2;exact⟨u,r,.inr ⟨.inl hk,c,hc,hc'⟩⟩
   ·rw[EK (E3 hj)]at e2;obtain⟨u',r',q⟩:=hl j y v' e1 e2 e3;refine⟨u',r',?_⟩;rcases q with q|⟨k,c',e,z'⟩
    ·exact .inl q
    ·refine .inr ⟨k,c',e,z'.sameBut hs ?_⟩;rintro rfl;exact hj (N7 hN e1 (I.ok.inj _ _ _ e hc ▸ hi))
  ·by_cases hcc:c'=c
   ·subst hcc;exact⟨_,hc'⟩
   ·obtain⟨w2,z2⟩:=I.cell y c' e;exact⟨w2,z2.sameBut hs hcc⟩
  ·obtain⟨e,n,ne,nf,d⟩:=I.pin p hp;refine⟨(hs.2 p.1 ?_).trans e,n,ne,nf,d⟩;intro q;rw[q,hoc]at e;have q':oc=p.2:=Bk e;exact d w' (by rw[<-q'];exact hocd)
theorem NY{A:A2}{E:Vq}(I:Inv X pI σ H s)(hN:X.N.Nodup)(hi:X.N[i]?=Aa x)(hx:Loc X.env.scope x)(r:Bm v u)(h:∀ s',Inv X pI (σ.set i (Aa v)) H s'->Q () s')(hf:X.fn x=Ab\/X.env.scope.names.lookup x=Aa .local:=by first|exact .inl rfl|exact .inr rfl|assumption):AD M A (storeName X.env x u) Q E s:=
 NL I hN hi hx r (fun s' I' _=>h s' I') hf
theorem Inv.call'{s':Ao}(I:Inv X pI σ H s)(ho:s'.os=s.os)(u:Un (frs X.stack) ch H H' s.heap s'.heap)(hok:HOk X.prog X.w H' s'.heap)(hg:Ef s'.gens)(hch:∀ b∈ch,(b∈X.ex\/X.s₀.heap.objs.size<=b)/\b≠X.env.locals/\(∀ x c,X.env.cells.lookup x=Aa c->c≠b)/\∀ p∈X.pn++pI,p.1≠b):Inv X pI σ H' s':=by
 obtain⟨h',g',d',t',o'⟩:=s';have e:o'=s.os:=ho;subst e;exact I.call (g':=g') (t':=t') (d':=d') u hok hg hch
end
abbrev XK:=Ai->Ap Aj->Hp->Prop
abbrev St:=Ac (Ap V)
variable{σ:St}
abbrev VK:=V->Hp->Prop
abbrev TE:=St->Hp->VK->Prop
variable{te:TE}
abbrev TT:=St->Hp->(An->Hp->Prop)->Prop
abbrev TA:=St->Hp->(Ac V->Hp->Prop)->Prop
variable{ta:TA}
structure Ends where
 nx:St->Hp->Prop
 rt:VK
 bk:St->Hp->Prop:=fun _ _=>A5
 ct:St->Hp->Prop:=fun _ _=>A5
abbrev TS:=Ends->St->Hp->Prop
def EP(X:Cx)(pI:Pn)(σ:St)(Q:VK)(u:Ai)(s':Ao):Prop:=∃ v H',Inv X pI σ H' s'/\Bm v u/\Q v H'
def TP(X:Cx)(pI:Pn)(σ:St)(Q:An->Hp->Prop)(b:An)(s':Ao):Prop:=∃ H',Inv X pI σ H' s'/\Q b H'
def AP(X:Cx)(pI:Pn)(σ:St)(Q:Ac V->Hp->Prop)(us:Ac Ai)(s':Ao):Prop:=∃ vs H',Inv X pI σ H' s'/\AW vs us/\Q vs H'
noncomputable def SP(X:Cx)(pI:Pn)(D:Ends)(f:Flow)(s':Ao):Prop:=
  match f with
  |.next=>∃ σ' H',Inv X pI σ' H' s'/\D.nx σ' H'
  |.brk=>∃ σ' H',Inv X pI σ' H' s'/\D.bk σ' H'
  |.cont=>∃ σ' H',Inv X pI σ' H' s'/\D.ct σ' H'
  |.ret u=>∃ v σ' H',Inv X pI σ' H' s'/\Bm v u/\D.rt v H'
noncomputable def PE(X:Cx)(e:Am)(t:TE):Prop:=
 ∀(pI:Pn)(s:Ao)(σ:St)(H:Hp)(Q:VK),Inv X pI σ H s->t σ H Q->AD (model X.prog X.w) X.A (eval e X.env) (EP X pI σ Q) X.xe s
noncomputable def PT(X:Cx)(e:Am)(t:TT):Prop:=
 ∀(pI:Pn)(s:Ao)(σ:St)(H:Hp)(Q:An->Hp->Prop),Inv X pI σ H s->t σ H Q->AD (model X.prog X.w) X.A (Gx e X.env (eval e X.env)) (TP X pI σ Q) X.xe s
noncomputable def PW(X:Cx)(e:Am)(t:TT):Prop:=
 ∀(whole:Ft Ai)(pI:Pn)(s:Ao)(σ:St)(H:Hp)(Q:An->Hp->Prop),Inv X pI σ H s->t σ H Q->AD (model X.prog X.w) X.A (Gx e X.env whole) (TP X pI σ Q) X.xe s
theorem PW.pt{t:TT}(h:PW X e t):PT X e t:=h _
noncomputable def PA(X:Cx)(es:Ac Am)(t:TA):Prop:=
 ∀(pos:AO)(pI:Pn)(s:Ao)(σ:St)(H:Hp)(Q:Ac V->Hp->Prop),Inv X pI σ H s->t σ H Q->AD (model X.prog X.w) X.A (spliced (Cp pos (Ax es X.env))) (AP X pI σ Q) X.xe s
noncomputable def PS(X:Cx)(st:Bp)(t:TS):Prop:=
 ∀(pI:Pn)(s:Ao)(σ:St)(H:Hp)(D:Ends),Inv X pI σ H s->t D σ H->AD (model X.prog X.w) X.A (exec st X.env) (SP X pI D) X.xe s
noncomputable def PSs(X:Cx)(st:Ac Bp)(t:TS):Prop:=
 ∀(pI:Pn)(s:Ao)(σ:St)(H:Hp)(D:Ends),Inv X pI σ H s->t D σ H->AD (model X.prog X.w) X.A (execs st X.env) (SP X pI D) X.xe s
theorem thn{α:Type}{t:Ft α}{Q Q':α->Ao->Prop}{A:A2}{E:Vq}(h:AD M A t Q E s)(hQ:∀ a s,Q a s->Q' a s):AD M A t Q' E s:=BX h hQ fun _ _ x=>x
section
variable{X:Cx}
def Fd(i:Ag):TE:=fun σ H Q=>∃ v,σ[i]?=Aa (Aa v)/\Q v H
def tC(v:V):TE:=fun _ H Q=>Q v H
theorem XQ(hN:X.N[i]?=Aa x)(hv:Vis X.env.scope x)(hd:(x==("__debug__" : Ah))=Ad:=by decide)(hcd:(x==("__classdict__" : Ah))=Ad:=by decide):PE X (.Name x pos) (Fd i):=by
 intro pI s σ H Q I h;obtain⟨v,e,h⟩:=h;obtain⟨m,hn,hl⟩:=I.loc;obtain⟨u,r,l⟩:=hl i x v hN e hv;have fin:EP X pI σ Q u s:=⟨v,H,I,r,h⟩;rcases l with ⟨hk,hm⟩|⟨hk,c,hc,hcell⟩
 ·exact HN (wpAny_loadName_local I.ok.kind hk hn hm fin) hd
 ·rcases hk with hk|hk
  ·exact HN (wpAny_loadName_cell I.ok.kind hk hc hcell fin) hd
  ·exact HN (wpAny_loadName_free I.ok.kind hk hc hcell fin hcd) hd
theorem PB{i j pos}:PE X (.Constant (.int i) j pos) (tC (.int i)):=fun _ _ _ H _ I h=>wpAny_Constant_int ⟨.int i,H,I.tok _,⟨_,rfl⟩,h⟩
theorem dA{b j pos}:PE X (.Constant (.bool b) j pos) (tC (.bl b)):=fun _ _ _ H _ I h=>Constant_bool ⟨.bl b,H,I,rfl,h⟩
theorem Y5{j pos}:PE X (.Constant .none j pos) (tC .non):=fun _ _ _ H _ I h=>Constant_none ⟨.non,H,I,rfl,h⟩
theorem XS{x j pos}:PE X (.Constant (.str x) j pos) (tC (.str x)):=fun _ _ _ H _ I h=>Calls.Constant_str ⟨.str x,H,I.tok _,⟨_,rfl⟩,h⟩
def Gl(X:Cx)(x:Ah):Prop:=X.env.kindOf x=Aa .globalImplicit
theorem W3{E:Vq}{Q:Vq}(I:Inv X pI σ H s)(hg:Gl X x)(hm:X.mg x=Aa u)(h:Q u s)(hd:(x==("__debug__" : Ah))=Ad:=by decide):AD (model X.prog X.w) X.A (eval (.Name x pos) X.env) Q E s:=
 R0 I.ok.kind hg (Calls.loadGlobal_global (by rw[I.ok.glob];exact I.mod.glob.keeps I.bk) hm h) hd
theorem GL{E:Vq}{Q:Vq}(I:Inv X pI σ H s)(hg:Gl X x)(hm:X.mg x=Af)(hv:Cq x=Aa u)(h:Q u s)(hn:x≠"__name__" := by decide)(hd:(x==("__debug__" : Ah))=Ad:=by decide):AD (model X.prog X.w) X.A (eval (.Name x pos) X.env) Q E s:=by
 obtain⟨mb,h1,h2⟩:=I.mod.blt;exact R0 I.ok.kind hg (Calls.loadGlobal_builtin (by rw[I.ok.glob];exact I.mod.glob.keeps I.bk) hm (by rw[I.ok.blt];exact h1.keeps I.bk) ((h2 x hn).trans hv) h) hd
theorem Vw(hg:Gl X x)(hm:X.mg x=Af)(hv:Cq x=Aa u)(r:Bm v u)(hn:x≠"__name__" := by decide)(hd:(x==("__debug__" : Ah))=Ad:=by decide):PE X (.Name x pos) (tC v):=
 fun _ _ _ H _ I h=>GL I hg hm hv ⟨v,H,I,r,h⟩ hn hd
variable{a b:Am}{ta tb:TE}{pos:AO}
variable{tA tB':TT}{rest:Ac Am}
def eZ(t u:TT):TT:=fun σ H Q=>t σ H fun c H1=>if c=Ab then u σ H1 Q else Q Ad H1
def tOr(t u:TT):TT:=fun σ H Q=>t σ H fun c H1=>if c=Ab then Q Ab H1 else u σ H1 Q
def fS(t:TT):TT:=fun σ H Q=>t σ H fun c H1=>Q (!c) H1
theorem VR(ha:PT X a tA):PW X (.BoolOp .And [a] pos) tA:=by
 intro wh pI s σ H Q I h;refine isTrue_and (thn (ha pI s σ H Q I h) fun c s1 e=>?_)
 cases c with
 |true=>exact isTrue_and_nil e
 |false=>exact e
theorem Ye(ha:PT X a tA):PW X (.BoolOp .Or [a] pos) tA:=by
 intro wh pI s σ H Q I h;refine isTrue_or (thn (ha pI s σ H Q I h) fun c s1 e=>?_)
 cases c with
 |false=>exact isTrue_or_nil e
 |true=>exact e
theorem Yg(ha:PT X a tA)(hb:PW X (.BoolOp .And (b::rest) pos) tB'):PW X (.BoolOp .And (a::b::rest) pos) (eZ tA tB'):=by
 intro wh pI s σ H Q I h;refine isTrue_and (thn (ha pI s σ H _ I h) fun c s1 ⟨H1,I1,q1⟩=>?_)
 cases c with
 |true=>exact hb wh pI s1 σ H1 Q I1 q1
 |false=>exact⟨H1,I1,q1⟩
theorem aG(ha:PT X a tA)(hb:PW X (.BoolOp .Or (b::rest) pos) tB'):PW X (.BoolOp .Or (a::b::rest) pos) (tOr tA tB'):=by
 intro wh pI s σ H Q I h;refine isTrue_or (thn (ha pI s σ H _ I h) fun c s1 ⟨H1,I1,q1⟩=>?_)
 cases c with
 |true=>exact⟨H1,I1,q1⟩
 |false=>exact hb wh pI s1 σ H1 Q I1 q1
theorem Yh(ha:PT X a tA):PT X (.UnaryOp .Not a pos) (fS tA):=by
 intro pI s σ H Q I h;exact isTrue_not (ha pI s σ H (fun c H1=>Q (!c) H1) I h)
def ZX(ta tb:TE):TE:=fun σ H Q=>ta σ H fun x H1=>∃ c,x=.bl c/\if c=Ab then tb σ H1 Q else Q (.bl Ad) H1
def fR(ta tb:TE):TE:=fun σ H Q=>ta σ H fun x H1=>∃ c,x=.bl c/\if c=Ab then Q (.bl Ab) H1 else tb σ H1 Q
def ZS(ta:TE):TE:=fun σ H Q=>ta σ H fun x H1=>∃ c,x=.bl c/\Q (.bl (!c)) H1
theorem Y3{op}{t:TE}(h:PE X a t):PE X (.BoolOp op [a] pos) t:=fun pI s σ H Q I hw=>BoolOp_one (h pI s σ H Q I hw)
theorem Y8(ha:PE X a ta)(hb:PE X (.BoolOp .And (b::rest) pos) tb):PE X (.BoolOp .And (a::b::rest) pos) (ZX ta tb):=by
 intro pI s σ H Q I h;refine BoolOp_and (thn (ha pI s σ H _ I h) fun v s1 ⟨x,H1,I1,r1,q1⟩=>?_)
 obtain⟨c,rfl,q1⟩:=q1;cases r1;refine B1 ?_;cases c with
 |true=>exact hb pI s1 σ H1 Q I1 q1
 |false=>exact⟨.bl Ad,H1,I1,rfl,q1⟩
theorem cY(ha:PE X a ta)(hb:PE X (.BoolOp .Or (b::rest) pos) tb):PE X (.BoolOp .Or (a::b::rest) pos) (fR ta tb):=by
 intro pI s σ H Q I h;refine BoolOp_or (thn (ha pI s σ H _ I h) fun v s1 ⟨x,H1,I1,r1,q1⟩=>?_)
 obtain⟨c,rfl,q1⟩:=q1;cases r1;refine B1 ?_;cases c with
 |false=>exact hb pI s1 σ H1 Q I1 q1
 |true=>exact⟨.bl Ab,H1,I1,rfl,q1⟩
theorem Y4(ha:PE X a ta):PE X (.UnaryOp .Not a pos) (ZS ta):=by
 intro pI s σ H Q I h;refine UnaryOp_ (thn (ha pI s σ H _ I h) fun v s1 ⟨x,H1,I1,r1,q1⟩=>?_)
 obtain⟨c,rfl,q1⟩:=q1;cases r1;exact not_of (B1 ⟨.bl (!c),H1,I1,rfl,q1⟩)
end
noncomputable def SqL(K:Fg)(H:Hp)(a:Aj)(xs:Ac V):Prop:=
 Rd H a (.lst xs) \/
  ∃(o:Dk)(its:Be Ai)(n:Ag),K.lookup a=Aa o/\o.cls=.type "list"/\o.dict=Af/\o.data=.seq its n/\its.size<=sizeLine/\AW xs its.toList
noncomputable def SqT(K:Fg)(H:Hp)(a:Aj)(xs:Ac V):Prop:=
 Rd H a (.tup xs) \/
  ∃(o:Dk)(its:Be Ai)(n:Ag),K.lookup a=Aa o/\o.cls=.type "tuple"/\o.data=.seq its n/\its.size<=sizeLine/\AW xs its.toList
noncomputable def fV:Ai->Ap V
 |.none=>Aa .non
 |.bool b=>Aa (.bl b)
 |.int i _=>Aa (.int i)
 |.str x _=>Aa (.str x)
 |.bytes b _=>Aa (.byt b)
 |.float b _=>Aa (.flt b)
 |.ref a=>Aa (.ref a)
 |.type n=>Aa (.ty n)
 |_=>Af
theorem Bm.abs{x:V}(r:Bm x u):fV u=Aa x:=by
 cases x with
 |non=>cases r;rfl
 |bl _=>cases r;rfl
 |int _=>obtain⟨t,rfl⟩:=r;rfl
 |str _=>obtain⟨t,rfl⟩:=r;rfl
 |byt _=>obtain⟨t,rfl⟩:=r;rfl
 |flt _=>obtain⟨t,rfl⟩:=r;rfl
 |ref _=>cases r;rfl
 |ty _=>cases r;rfl
theorem Bm.inj{x y:V}(r:Bm x u)(q:Bm y u):x=y:=Bk (r.abs.symm.trans q.abs)
theorem AW.inj:∀{xs ys:Ac V}{us:Ac Ai},AW xs us->AW ys us->xs=ys
 |_,_,_,.nil,.nil=>rfl
 |_,_,_,.cons r t,.cons r' t'=>by rw[r.inj r',AW.inj t t']
section
variable{X:Cx}{pI:Pn}{σ:St}{H:Hp}{s:Ao}{a:Aj}{xs ys:Ac V}
theorem SqL.of{K:Fg}(h:H a=Aa (.lst xs)):SqL K H a xs:=.inl (.inl h)
theorem SqT.of{K:Fg}(h:H a=Aa (.tup xs)):SqT K H a xs:=.inl (.inl h)
theorem Inv.list(I:Inv X pI σ H s)(h:SqL X.K H a xs):∃ its:Ac Ai,AW xs its/\PlainL s.heap a its.toArray/\xs.length<=sizeLine:=by
 rcases h with h|⟨o,its,n,hk,hc,hd,hs,hz,r⟩
 ·obtain⟨z,its,n,r,e⟩:=h.ok I.hok;exact⟨its,r,⟨_,n,e,rfl,rfl,rfl⟩,z⟩
 ·refine⟨its.toList,r,⟨o,n,I.kIn a o hk,hc,hd,by simpa using hs⟩,?_⟩
  have e:=r.length;simp only[DV]at e;omega
theorem Inv.tuple(I:Inv X pI σ H s)(h:SqT X.K H a xs):∃ its:Ac Ai,AW xs its/\HC s.heap a its.toArray/\xs.length<=sizeLine:=by
 rcases h with h|⟨o,its,n,hk,hc,hs,hz,r⟩
 ·obtain⟨z,its,r,p⟩:=h.ok I.hok;exact⟨its,r,p,z⟩
 ·refine⟨its.toList,r,⟨o,I.kIn a o hk,hc,n,by simpa using hs⟩,?_⟩
  have e:=r.length;simp only[DV]at e;omega
theorem Inv.list_inj(I:Inv X pI σ H s)(h:SqL X.K H a xs)(h':SqL X.K H a ys):xs=ys:=by
 obtain⟨its,r,⟨o,n,e,_,_,d⟩,_⟩:=I.list h;obtain⟨its',r',⟨o',n',e',_,_,d'⟩,_⟩:=I.list h';rw[e]at e';cases e';rw[d]at d'
 injection d' with d1 _
 have:its=its':=by simpa using congrArg GY d1
 subst this;exact r.inj r'
theorem Inv.tuple_inj(I:Inv X pI σ H s)(h:SqT X.K H a xs)(h':SqT X.K H a ys):xs=ys:=by
 obtain⟨its,r,⟨o,e,_,n,d⟩,_⟩:=I.tuple h;obtain⟨its',r',⟨o',e',_,n',d'⟩,_⟩:=I.tuple h';rw[e]at e';cases e';rw[d]at d'
 injection d' with d1 _
 have:its=its':=by simpa using congrArg GY d1
 subst this;exact r.inj r'
end
noncomputable abbrev Cx.wish(X:Cx)(E:Vq):Cx:={X with xe:=E}
noncomputable abbrev Cx.nox(X:Cx):Cx:=X.wish fun _ _=>A5
theorem Cx.Ok.wish(ok:X.Ok)(E:Vq):(X.wish E).Ok:=
 ⟨ok.mod,ok.kind,ok.glob,ok.blt,ok.above,ok.inj,ok.has,ok.cab,ok.hd,ok.frames,ok.stk,ok.exf,ok.bs,ok.bsz,ok.noex,ok.exfs,ok.funs,ok.frf⟩
theorem Cx.Ok.unwish{E:Vq}(ok:(X.wish E).Ok):X.Ok:=
 ⟨ok.mod,ok.kind,ok.glob,ok.blt,ok.above,ok.inj,ok.has,ok.cab,ok.hd,ok.frames,ok.stk,ok.exf,ok.bs,ok.bsz,ok.noex,ok.exfs,ok.funs,ok.frf⟩
section
variable{X:Cx}{pI:Pn}{σ:St}{H:Hp}{s:Ao}{E:Vq}
theorem Inv.wish(I:Inv X pI σ H s)(E:Vq):Inv (X.wish E) pI σ H s:=⟨I.ok.wish E,I.os,I.bare,I.base,I.loc,I.cell,I.free,I.freeC,I.pin,I.hok,I.len⟩
theorem Inv.unwish(I:Inv (X.wish E) pI σ H s):Inv X pI σ H s:=⟨I.ok.unwish,I.os,I.bare,I.base,I.loc,I.cell,I.free,I.freeC,I.pin,I.hok,I.len⟩
theorem SP.unwish{D:Ends}{f:Flow}{s':Ao}(h:SP (X.wish E) pI D f s'):SP X pI D f s':=by
 cases f with
 |next=>obtain⟨σ',H',I,q⟩:=h;exact⟨σ',H',I.unwish,q⟩
 |brk=>obtain⟨σ',H',I,q⟩:=h;exact⟨σ',H',I.unwish,q⟩
 |cont=>obtain⟨σ',H',I,q⟩:=h;exact⟨σ',H',I.unwish,q⟩
 |ret u=>obtain⟨v,σ',H',I,r,q⟩:=h;exact⟨v,σ',H',I.unwish,r,q⟩
theorem PSs.nox{st:Ac Bp}{t:TS}(h:PSs X.nox st t):PSs X st t:=fun pI s σ H D I hw=>
 BX (h pI s σ H D (I.wish _) hw) (fun _ _ q=>q.unwish) fun _ _ z=>C7 z
end
section
variable{X:Cx}{st:Bp}{rest:Ac Bp}{t u:TS}{e:Am}{te:TE}{pos:AO}
def ZT:TS:=fun D σ H=>D.nx σ H
def fO(t u:TS):TS:=fun D σ H=>t {D with nx:=u D} σ H
theorem VY:PSs X [] ZT:=fun _ _ σ H _ I h=>S4 ⟨σ,H,I,h⟩
theorem UL(h1:PS X st t)(h2:PSs X rest u):PSs X (st::rest) (fO t u):=by
 intro pI s σ H D I h;refine wpAny_execs_cons (thn (h1 pI s σ H {D with nx:=u D} I h) fun f s1 q=>?_)
 cases f with
 |next=>
  obtain⟨σ',H',I',q⟩:=q;exact h2 pI s1 σ' H' D I' q
 |ret v=>exact q
 |brk=>exact q
 |cont=>exact q
theorem Inv.quiet(I:Inv X pI σ H s):interactive X.env=Ad:=by simp[interactive,I.ok.kind]
def ZU(te:TE):TS:=fun D σ H=>te σ H fun _ H1=>D.nx σ H1
theorem Lv(he:PE X e te)(hs:DA e Af pos.line X.env=pure Ad:=by rfl):PS X (.Expr e pos) (ZU te):=by
 intro pI s σ H D I h;exact wpAny_Expr_any (thn (he pI s σ H _ I h) fun v s1 ⟨x,H1,I1,r1,q1⟩=>⟨σ,H1,I1,q1⟩) I.quiet hs
def fQ(te:TE):TS:=fun D σ H=>te σ H D.rt
theorem Mc(he:PE X e te):PS X (.Return (Aa e) pos) (fQ te):=by
 intro pI s σ H D I h;exact wpAny_Return_some (thn (he pI s σ H _ I h) fun v s1 ⟨x,H1,I1,r1,q1⟩=>⟨x,σ,H1,I1,r1,q1⟩)
def eX(c:TT)(t u:TS):TS:=fun D σ H=>c σ H fun b H1=>if b=Ab then t D σ H1 else u D σ H1
theorem aI{c:Am}{a b:Ac Bp}{tc:TT}(hc:PT X c tc)(ha:PSs X a t)(hb:PSs X b u):PS X (.If c a b pos) (eX tc t u):=by
 intro pI s σ H D I h;refine wpAny_If (thn (hc pI s σ H _ I h) fun d s1 ⟨H1,I1,q1⟩=>?_)
 cases d with
 |true=>exact ha pI s1 σ H1 D I1 q1
 |false=>exact hb pI s1 σ H1 D I1 q1
end
abbrev TG:=V->St->Hp->(St->Hp->Prop)->Prop
abbrev TGs:=Ac V->St->Hp->(St->Hp->Prop)->Prop
noncomputable def PG(X:Cx)(target:Am)(t:TG):Prop:=
 ∀(pI:Pn)(s:Ao)(σ:St)(H:Hp)(v:V)(u:Ai)(Q:St->Hp->Prop),Inv X pI σ H s->Bm v u->t v σ H Q ->
  AD (model X.prog X.w) X.A (assign target X.env u) (fun _ s'=>∃ σ' H',Inv X pI σ' H' s'/\Q σ' H') X.xe s
noncomputable def PGs(X:Cx)(ts:Ac Am)(t:TGs):Prop:=
 ∀(pI:Pn)(s:Ao)(σ:St)(H:Hp)(vs:Ac V)(us:Ac Ai)(Q:St->Hp->Prop),Inv X pI σ H s->AW vs us->t vs σ H Q ->
  AD (model X.prog X.w) X.A (assignInOrder ((BL ts X.env).map (·.2)) us) (fun _ s'=>∃ σ' H',Inv X pI σ' H' s'/\Q σ' H') X.xe s
abbrev MN:=V->V->V->Hp->(Hp->Prop)->Prop
noncomputable def QW(X:Cx)(t:MN):Prop:=
 ∀(pI:Pn)(s:Ao)(σ:St)(H:Hp)(o i v:V)(ov iv u:Ai)(Q:Hp->Prop),Inv X pI σ H s->Bm o ov->Bm i iv->Bm v u->t o i v H Q ->
  AD (model X.prog X.w) X.A (Hi ov iv u) (fun _ s'=>∃ H',Inv X pI σ H' s'/\Q H') X.xe s
section
variable{X:Cx}{pos:AO}
def DZ(i:Ag):TG:=fun v σ H Q=>Q (σ.set i (Aa v)) H
theorem Jd(hN:X.N.Nodup)(hi:X.N[i]?=Aa x)(hx:Loc X.env.scope x)(hf:X.fn x=Ab\/X.env.scope.names.lookup x=Aa .local:=by first|exact .inl rfl|exact .inr rfl|assumption):PG X (.Name x pos) (DZ i):=by
 intro pI s σ H v u Q I r h;exact S0 (NY I hN hi hx r (fun s' I'=>⟨_,H,I',h⟩) hf)
def F9:TGs:=fun vs σ H Q=>vs=[]/\Q σ H
def F7(t:TG)(u:TGs):TGs:=fun vs σ H Q=>∃ v r,vs=v::r/\t v σ H fun σ' H'=>u r σ' H' Q
theorem Lw:PGs X [] F9:=by
 intro pI s σ H vs us Q I r h;obtain⟨e,h⟩:=h;subst e;cases r;exact assignInOrder_nil ⟨σ,H,I,h⟩
theorem JQ{t:TG}{u:TGs}(h1:PG X e t)(h2:PGs X es u)(hs:(BL (e::es) X.env).map (·.2)=assign e X.env::(BL es X.env).map (·.2):=by rfl):PGs X (e::es) (F7 t u):=by
 intro pI s σ H vs us Q I r h;obtain⟨v,vr,e1,h⟩:=h;subst e1;cases r with
 |cons r rr=>
  rw[hs];refine assignInOrder_cons (thn (h1 pI s σ H _ _ _ I r h) fun _ s1 ⟨σ1,H1,I1,q1⟩=>?_)
  exact h2 pI s1 σ1 H1 _ _ Q I1 rr q1
def IC(K:Fg)(n:Ag)(t:TGs):TG:=fun v σ H Q=>∃ a xs,v=.ref a/\SqT K H a xs/\xs.length=n/\t xs σ H Q
theorem Ke{t:TGs}(hc:X.calm=Ab)(h:PGs X es t)(hn:(BL es X.env).length=n:=by rfl)(hst:(BL es X.env).findIdx? (·.1)=Af:=by rfl):PG X (.Tuple es k pos) (IC X.K n t):=by
 intro pI s σ H v u Q I r hw;obtain⟨a,xs,e1,hq,hl,hw⟩:=hw;subst e1;cases r;obtain⟨its,rv,ht,hz⟩:=I.tuple hq;refine assign_Tuple_tuple (I.ok.hd hc) ht (by simp[hn,<-hl,rv.length]) hst fun h' hx=>?_
 have I1:Inv X pI σ H {s with heap:=h'}:=I.kept (t':=s.toks) fun b o e=>hx b o (A1 (Ay e)) e
 exact h pI _ σ H xs _ Q I1 (by simpa using rv) hw
def eR(to ti:TE)(t:MN):TG:=fun v σ H Q=>to σ H fun o H1=>ti σ H1 fun i H2=>t o i v H2 fun H3=>Q σ H3
theorem Mf{o i:Am}{to ti:TE}{t:MN}(ho:PE X o to)(hi:PE X i ti)(hs:QW X t)(ha:∀ v,assign (.Subscript o i pos) X.env v=(do
   let ov <-holding [v] (eval o X.env)
   let iv <-holding [v,ov] (eval i X.env)
   FP pos
   holding [v,ov,iv] (Hi ov iv v)
   release [v,ov,iv] []):=by intro _;rfl):PG X (.Subscript o i pos) (eR to ti t):=by
 intro pI s σ H v u Q I r h;rw[ha];refine Al (CG (thn (ho pI s σ H _ I h) fun ov s1 ⟨x,H1,I1,r1,q1⟩=>?_))
 refine Al (CG (thn (hi pI s1 σ H1 _ I1 q1) fun iv s2 ⟨y,H2,I2,r2,q2⟩=>?_))
 refine Al (Fw (Al (CG (thn (hs pI s2 σ H2 x y v ov iv u _ I2 r1 r2 r q2) fun _ s3 ⟨H3,I3,q3⟩=>?_))))
 exact wpAny_release ⟨σ,H3,I3,q3⟩
def Kk(te:TE)(g:TG):TS:=fun D σ H=>te σ H fun x H1=>g x σ H1 D.nx
theorem Md{g:TG}(he:PE X e te)(hg:PG X tg g)(hs:Et [tg] e pos.line X.env=pure Ad:=by rfl)(hw:C3 [tg] e X.env=pure Af:=by rfl)(h1:(BL [tg] X.env).map (·.2)=[assign tg X.env]:=by rfl):PS X (.Assign [tg] e pos) (Kk te g):=by
 intro pI s σ H D I h;refine wpAny_Assign_stores (thn (he pI s σ H _ I h) fun v s1 ⟨x,H1,I1,r1,q1⟩=>?_) hs hw
 rw[h1];exact thn (hg pI s1 σ H1 x v _ I1 r1 q1) fun _ s2 q=>q
theorem Yi{pos':AO}(hN:X.N.Nodup)(hi:X.N[i]?=Aa x)(hx:Loc X.env.scope x)(he:PE X e te)(hs:DA e (Aa (.Name x pos')) pos.line X.env=pure Ad:=by rfl)(hf:X.fn x=Ab\/X.env.scope.names.lookup x=Aa .local:=by first|exact .inl rfl|exact .inr rfl|assumption):PS X (.Assign [.Name x pos'] e pos) (Kk te (DZ i)):=by
 intro pI s σ H D I h;refine wpAny_Assign_Name (thn (he pI s σ H _ I h) fun v s1 ⟨y,H1,I1,r1,q1⟩=>?_) hs
 exact NY I1 hN hi hx r1 (fun s2 I2=>⟨_,H1,I2,q1⟩) hf
end
section
variable{X:Cx}{pos:AO}
end
structure It where
 go:Ag->Hp->Prop
 yld:Ag->Hp->V->Hp->Prop
 stop:Ag->Hp->Prop
noncomputable def Fb(X:Cx)(pI:Pn)(H:Hp)(b:Aj):Prop:=
 H b=Af/\b≠X.env.locals/\b∉X.fs/\(b∈X.ex\/X.s₀.heap.objs.size<=b)/\(∀ x c,X.env.cells.lookup x=Aa c->c≠b)/\∀ p∈X.pn++pI,p.1≠b
theorem Inv.fpOk{H':Hp}(I:Inv X pI σ H s)(hb:s.heap.objs.size<=b)(hn:H' b=Af):Fb X pI H' b:=by
 refine⟨hn,Ea (AF I.lt hb),I.nofs hb,.inr (Cb I.sz hb),fun x c e z=>?_,fun p hp z=>?_⟩
 ·obtain⟨v,q⟩:=I.cell x c e;exact absurd (AF q.lt (by rw[z];exact hb)) (Bc _)
 ·exact absurd (AF (Ay (I.pin p hp).1) (by rw[z];exact hb)) (Bc _)
structure Turn (P:AN) (w:AU) (K:Fg) (tg:Am) (J:It) (fp:Ac Aj) (it:Aj) (tn:Ag->AG->Prop):Prop where
 mem:it∈fp
 obj:∀ i h,tn i h->∀ b∈fp,∃ o,h.get? b=Aa o/\∀ v,o.data≠.cell v
 keep:∀ i h h',tn i h->(∀ b∈fp,∀ o,h.get? b=Aa o->h'.get? b=Aa o)->tn i h'
 item:∀(X:Cx),X.prog=P->X.w=w->X.K=K->X.calm=Ab->∀(i:Ag)(pI:Pn)(s:Ao)(σ:St)(H:Hp)(E:Vq),Inv X pI σ H s->(∀ b∈fp,Fb X pI H b)->tn i s.heap->J.go i H ->
  AD (model P w) X.A (GA (.ref it)) (fun r s1=>∃ u,r=Aa u /\
   AD (model P w) X.A (EV tg (.ref it) u) (fun _ s2=>∃ x H',Inv X pI σ H' s2/\Bm x u/\J.yld i H x H'/\tn (i+1) s2.heap/\∀ b∈fp,H' b=Af) E s1) E s
 done:∀(X:Cx),X.prog=P->X.w=w->X.K=K->X.calm=Ab->∀(i:Ag)(pI:Pn)(s:Ao)(σ:St)(H:Hp)(E:Vq),Inv X pI σ H s->(∀ b∈fp,Fb X pI H b)->tn i s.heap->J.stop i H ->
  AD (model P w) X.A (GA (.ref it)) (fun r s1=>r=Af/\Inv X pI σ H s1) E s
 self:∀(A:A2)(i:Ag)(s:Ao)(Q:Vq)(E:Vq),tn i s.heap->Q (.ref it) s->AD (model P w) A (IP (.ref it)) Q E s
abbrev TI:=St->Hp->(It->Hp->Prop)->Prop
noncomputable def PIE(X:Cx)(pI:Pn)(σ:St)(tg:Am)(R:It->Hp->Prop)(itv:Ai)(s2:Ao):Prop:=
 ∃(it:Aj)(fp:Ac Aj)(tn:Ag->AG->Prop)(J:It)(H':Hp),itv=.ref it/\Inv X pI σ H' s2/\Turn X.prog X.w X.K tg J fp it tn/\tn 0 s2.heap/\(∀ b∈fp,Fb X pI H' b)/\R J H'
noncomputable def PI(X:Cx)(tg iter:Am)(wi:TI):Prop:=
 ∀(pI:Pn)(s:Ao)(σ:St)(H:Hp)(R:It->Hp->Prop),Inv X pI σ H s->wi σ H R ->
  AD (model X.prog X.w) X.A (eval iter X.env) (fun v s1=>AD (model X.prog X.w) X.A (IP v) (PIE X pI σ tg R) X.xe s1) X.xe s
theorem Mv{A:A2}{E:Vq}{n:Dm}{vs:Be Ai}(ho:s.heap.get? it=Aa o)(hc:o.cls=.type n)(hd:o.data=.fields vs)(hn:["enumerate", "zip", "dict_itemiterator", "dict_reverseitemiterator", "odict_iterator", "itertools.zip_longest", "itertools.pairwise"].contains n=Ad)(hQ:Q () s):AD M A (EV tg (.ref it) u) Q E s:=by
  unfold EV;cases tg<;>first
    |exact AE hQ
    | (cases u<;>first
        |exact AE hQ
        | (refine Al (wpAny_load ho ?_)
           rw[hc,hd];show AD M A (if (["enumerate", "zip", "dict_itemiterator", "dict_reverseitemiterator", "odict_iterator", "itertools.zip_longest", "itertools.pairwise"].contains n&&vs[0]? == Aa (Fn _))=Ab then _ else _) Q E s
           rw[AJ (by intro h;rw[hn,Bool.false_and]at h;cases h)]
           exact AE hQ))
noncomputable def Itl(K:Fg)(a:Aj):It:=
 ⟨fun i H=>∃ xs x,SqL K H a xs/\xs[i]?=Aa x,fun i H x H'=>H'=H/\∀ xs,SqL K H a xs->xs[i]?=Aa x,fun i H=>∃ xs,SqL K H a xs/\xs.length<=i⟩
noncomputable def Itt(K:Fg)(a:Aj):It:=
 ⟨fun i H=>∃ xs x,SqT K H a xs/\xs[i]?=Aa x,fun i H x H'=>H'=H/\∀ xs,SqT K H a xs->xs[i]?=Aa x,fun i H=>∃ xs,SqT K H a xs/\xs.length<=i⟩
noncomputable def Itr(lo:Ae)(n:Ag):It:=⟨fun i _=>i<n,fun i H x H'=>H'=H/\x=.int (lo+i),fun i _=>n<=i⟩
theorem Tz{w:AU}{K:Fg}(a it:Aj):Turn P w K tg (Itl K a) [it] it (fun i h=>h.IsListIter it a i) where
  mem:=by simp
  obj:=fun i h st b hb=>by
    have e:b=it:=by simpa using hb
    subst e;obtain⟨o,e,c,d⟩:=st;exact⟨o,e,fun v z=>by rw[d]at z;cases z⟩
  keep:=fun i h h' st k=>st.at fun o e=>k it (by simp) o e
  item:=by
    intro X hP hw hK hc i pI s σ H E I hf st hg;subst hP hw hK;obtain⟨xs,x,hq,hx⟩:=hg;obtain⟨its,rv,p,hz⟩:=I.list hq;obtain⟨u,hu,ru⟩:=rv.get hx;obtain⟨f0,f1,f2,f3,f4,f5⟩:=hf it (by simp)
    refine S9 st p.isList (x:=u) (by simpa using hu) fun h' st' sb=>?_
    have I1:Inv X pI σ H {s with heap:=h'}:=I.turned (t':=s.toks) (fun b o hb e=>(sb.2 b hb).trans e) f0 f1 f3 f4 f5
    obtain⟨o,e,c,d⟩:=id st';exact⟨u,rfl,Mv (s:={s with heap:=h'}) e c d (by decide) ⟨x,H,I1,ru,⟨rfl,fun ys hy=>by rw[I.list_inj hy hq];exact hx⟩,st',fun b hb=>(hf b hb).1⟩⟩
  done:=by
    intro X hP hw hK hc i pI s σ H E I hf st hg;subst hP hw hK;obtain⟨xs,hq,hx⟩:=hg;obtain⟨its,rv,p,hz⟩:=I.list hq;obtain⟨f0,f1,f2,f3,f4,f5⟩:=hf it (by simp)
    have hl:=rv.length;exact S8 (I.ok.hd hc) st p.isList (by simp;omega) fun h' eb=>⟨rfl,I.turned (t':=s.toks) (fun b o hb e=>eb b o hb e) f0 f1 f3 f4 f5⟩
  self:=fun _ _ _ _ _ st h=>wpAny_pyIter_listiter st h
theorem TK{w:AU}{K:Fg}(a it:Aj):Turn P w K tg (Itt K a) [it] it (fun i h=>h.IsTupleIter it a i) where
  mem:=by simp
  obj:=fun i h st b hb=>by
    have e:b=it:=by simpa using hb
    subst e;obtain⟨o,e,c,d⟩:=st;exact⟨o,e,fun v z=>by rw[d]at z;cases z⟩
  keep:=fun i h h' st k=>st.at fun o e=>k it (by simp) o e
  item:=by
    intro X hP hw hK hc i pI s σ H E I hf st hg;subst hP hw hK;obtain⟨xs,x,hq,hx⟩:=hg;obtain⟨its,rv,p,hz⟩:=I.tuple hq;obtain⟨u,hu,ru⟩:=rv.get hx;obtain⟨f0,f1,f2,f3,f4,f5⟩:=hf it (by simp)
    refine wpAny_pyNext_tuple_item st (show s.heap.IsTuple a its.toArray from p) (x:=u) (by simpa using hu) fun h' st' sb=>?_
    have I1:Inv X pI σ H {s with heap:=h'}:=I.turned (t':=s.toks) (fun b o hb e=>(sb.2 b hb).trans e) f0 f1 f3 f4 f5
    obtain⟨o,e,c,d⟩:=id st';exact⟨u,rfl,Mv (s:={s with heap:=h'}) e c d (by decide) ⟨x,H,I1,ru,⟨rfl,fun ys hy=>by rw[I.tuple_inj hy hq];exact hx⟩,st',fun b hb=>(hf b hb).1⟩⟩
  done:=by
    intro X hP hw hK hc i pI s σ H E I hf st hg;subst hP hw hK;obtain⟨xs,hq,hx⟩:=hg;obtain⟨its,rv,p,hz⟩:=I.tuple hq;obtain⟨f0,f1,f2,f3,f4,f5⟩:=hf it (by simp)
    have hl:=rv.length;exact wpAny_pyNext_tuple_end (I.ok.hd hc) st (show s.heap.IsTuple a its.toArray from p) (by simp;omega) fun h' eb=>⟨rfl,I.turned (t':=s.toks) (fun b o hb e=>eb b o hb e) f0 f1 f3 f4 f5⟩
  self:=fun _ _ _ _ _ st h=>wpAny_pyIter_tupleiter st h
theorem TL{w:AU}{K:Fg}(it:Aj)(lo:Ae)(n:Ag):Turn P w K tg (Itr lo n) [it] it (fun i h=>IsRangeIter h it (lo+(i:Ag)*1) ((n:Ae)-(i:Ag)) 1) where
  mem:=by simp
  obj:=fun i h st b hb=>by
    have e:b=it:=by simpa using hb
    subst e;exact⟨_,st,fun v z=>by
      have z':Data.fields _=IH v:=z;cases z'⟩
  keep:=fun i h h' st k=>k it (by simp) _ st
  item:=by
    intro X hP hw hK hc i pI s σ H E I hf st hg;subst hP hw hK;obtain⟨f0,f1,f2,f3,f4,f5⟩:=hf it (by simp)
    have W:=Walks.range (prog:=X.prog) (w:=X.w) (I.ok.hd hc) it lo 1 n;refine W.item i s _ _ hg st fun v h' tk hv st' kk=>?_
    obtain⟨t,rfl⟩:=hv;have I1:Inv X pI σ H {s with heap:=h',toks:=tk}:=I.turned (fun b o hb e=>kk b o (by simpa using hb) e) f0 f1 f3 f4 f5
    refine⟨_,rfl,Mv (s:={s with heap:=h',toks:=tk}) (n := "range_iterator") st' rfl rfl (by decide) ⟨.int (lo+i),H,I1,⟨t,?_⟩,⟨rfl,rfl⟩,st',fun b hb=>(hf b hb).1⟩⟩
    rw[CO]
  done:=by
    intro X hP hw hK hc i pI s σ H E I hf st hg;subst hP hw hK;obtain⟨f0,f1,f2,f3,f4,f5⟩:=hf it (by simp)
    exact wpAny_pyNext_range_end (I.ok.hd hc) st (by have:n<=i:=hg;omega) fun h' eb=>⟨rfl,I.turned (t':=s.toks) (fun b o hb e=>eb b o hb e) f0 f1 f3 f4 f5⟩
  self:=fun _ _ _ _ _ st h=>wpAny_pyIter_rangeiter st h
section
variable{X:Cx}{tg:Am}
theorem N4{R:It->Hp->Prop}{E:Vq}{lo hi:Ae}{t u v:CB}{tk:Ag}(I:Inv X pI σ H s)(h1:-(2 ^ 62)<=lo)(h2:lo<2 ^ 62)(h3:-(2 ^ 62)<=hi)(h4:hi<2 ^ 62)(q:R (Itr lo (hi-lo).toNat) H):AD (model X.prog X.w) X.A (IP (.ref s.heap.objs.size)) (PIE X pI σ tg R) E { s with heap:=s.heap.push { cls:=.type "range", data:=.fields #[.int lo t,.int hi u,.int 1 v] },toks:=tk }:=by
 refine wpAny_pyIter_range (Sq ..) (small_one h1 h2 h3 h4) ?_;have I1:Inv X pI σ H { s with heap:=s.heap.push { cls:=.type "range", data:=.fields #[.int lo t,.int hi u,.int 1 v] },toks:=tk }:=I.kept fun b o e=>Ar _ e
 refine⟨(s.heap.push { cls:=.type "range", data:=.fields #[.int lo t,.int hi u,.int 1 v] }).objs.size,[(s.heap.push { cls:=.type "range", data:=.fields #[.int lo t,.int hi u,.int 1 v] }).objs.size],_,_,H,rfl,
  I1.kept (t':=tk) fun b o e=>Ar _ e,TL _ lo (hi-lo).toNat,?_,fun b hb=>?_,q⟩
 ·have e1:lo+((0:Ag):Ae)*1=lo:=by simp
  have e2:(((hi-lo).toNat:Ag):Ae)-((0:Ag):Ae)=Builtin.Range.rangeSize lo hi 1:=by rw[rangeSize_one];split<;>omega
  show IsRangeIter _ _ (lo+((0:Ag):Ae)*1) ((((hi-lo).toNat:Ag):Ae)-((0:Ag):Ae)) 1;rw[e1,e2];exact AB _ rfl
 ·have e:b=(s.heap.push { cls:=.type "range", data:=.fields #[.int lo t,.int hi u,.int 1 v] }).objs.size:=by simpa using hb
  subst e;exact I1.fpOk (AK _) (I1.hok.fresh (AK _))
def cS(ta:TA):TI:=fun σ H R=>ta σ H fun vs H1=>∃ j:Ae,vs=[.int j]/\-(2 ^ 62)<=j/\j<2 ^ 62/\R (Itr 0 j.toNat) H1
def cR(ta:TA):TI:=fun σ H R=>ta σ H fun vs H1=>∃ i j:Ae,vs=[.int i,.int j]/\(-(2 ^ 62)<=i/\i<2 ^ 62/\-(2 ^ 62)<=j/\j<2 ^ 62)/\R (Itr i (j-i).toNat) H1
theorem Ug{a:Am}(hg:Gl X "range")(hm:X.mg "range" = Af)(ha:PA X [a] ta)(hs:Ax [a] X.env=[(Ad,eval a X.env)]:=by rfl):PI X tg (.Call (.Name "range" p) [a] [] pos) (cS ta):=by
 intro pI s σ H R I h;refine HB (GL I hg hm HF (BD (thn (ha pos pI s σ H _ I h) fun us s1 ⟨vs,H1,I1,r1,q1⟩=>?_) hs rfl))
 obtain⟨j,e,q1,q2,q⟩:=q1;subst e;cases r1 with
 |cons r rr=>
  cases rr;obtain⟨t,rfl⟩:=r;exact call_range_1 (N4 I1 (by omega) (by omega) q1 q2 (by simpa using q))
theorem Uf{a b:Am}(hg:Gl X "range")(hm:X.mg "range" = Af)(ha:PA X [a,b] ta)(hs:Ax [a,b] X.env=[(Ad,eval a X.env),(Ad,eval b X.env)]:=by rfl)(hs2:Ax [b] X.env=[(Ad,eval b X.env)]:=by rfl):
  PI X tg (.Call (.Name "range" p) [a,b] [] pos) (cR ta):=by
 intro pI s σ H R I h;refine HB (GL I hg hm HF (BD (thn (ha pos pI s σ H _ I h) fun us s1 ⟨vs,H1,I1,r1,q1⟩=>?_) (by rw[hs,hs2]) (by rw[hs2];rfl)))
 obtain⟨i,j,e,⟨q1,q2,q3,q4⟩,q⟩:=q1;subst e;cases r1 with
 |cons r rr=>
  cases rr with
  |cons r' rr=>
   cases rr;obtain⟨t,rfl⟩:=r;obtain⟨t',rfl⟩:=r';exact call_range_2 (N4 I1 q1 q2 q3 q4 q)
def eY(wi:TI)(g:TG)(tb:TS):TS:=fun D σ H=>wi σ H fun J H1=>∃ W:Ag->Ag->St->Hp->Prop,(∃ m,W 0 m σ H1)/\∀ i m σ H,W i m σ H ->
 (J.stop i H/\D.nx σ H)\/(J.go i H/\∃ N:St->Hp->Prop,(∀ σ' H',N σ' H'->∃ m',m'<m/\W (i+1) m' σ' H')/\∀ x H',J.yld i H x H'->g x σ H' fun σ2 H2=>tb {D with nx:=N,ct:=N,bk:=D.nx} σ2 H2)
noncomputable def Hv(fp:Ac Aj)(h:AG):Pn:=fp.filterMap fun b=>(h.get? b).map fun o=>(b,o)
theorem JH(hb:b∈fp)(e:h.get? b=Aa o):(b,o)∈Hv fp h:=RC.mpr ⟨b,hb,by rw[e];rfl⟩
theorem Nr{p:Aj×Dk}(hp:p∈Hv fp h):p.1∈fp/\h.get? p.1=Aa p.2:=by
 obtain⟨b,hb,e⟩:=List.mem_filterMap.mp hp;cases q:h.get? b with
 |none=>rw[q]at e;cases e
 |some o=>
  rw[q]at e;have e':(b,o)=p:=Bk e;subst e';exact⟨hb,q⟩
theorem Inv.pinned(I:Inv X pI σ H s)(hf:∀ b∈fp,Fb X pI H b)(ho:∀ b∈fp,∃ o,s.heap.get? b=Aa o/\∀ v,o.data≠.cell v):Inv X (pI++Hv fp s.heap) σ H s:=
 I.pins_of fun p hp=>(Dy.mp hp).elim (fun z=>I.pin p (A9 _ z)) fun z=>by
  obtain⟨hb,e⟩:=Nr z;obtain⟨f0,f1,f2,_⟩:=hf p.1 hb;obtain⟨o,e',d⟩:=ho p.1 hb;rw[e]at e';cases e';exact⟨e,f0,f1,f2,d⟩
theorem Inv.unpinned{pl:Pn}(I:Inv X (pI++pl) σ H s):Inv X pI σ H s:=I.pins_of fun p hp=>I.pin p (A9 _ (EL _ hp))
theorem Yj{iter:Am}{wi:TI}{g:TG}{tb:TS}(hp:EI (model X.prog X.w) X.A X.env X.xe)(hc:X.calm=Ab)(hi:PI X tg iter wi)(hg:PG X tg g)(hb:PSs X body tb)(hs:∀ x,Cj iter X.env x=pure x:=by intro _;rfl):PS X (.For tg iter body [] pos) (eY wi g tb):=by
 intro pI s σ H D I h;refine wpAny_For (thn (hi pI s σ H _ I h) fun v s1 h1=>thn h1 fun itv s2 h2=>?_) hs
 obtain⟨it,fp,tn,J,H2,e,I2,T,st2,f2,W,⟨m0,w0⟩,turn⟩:=h2;subst e
 -- what stays Ab of the iterator's objects through the loop
 have stat:∀{H':Hp},(∀ b∈fp,H' b=Af)->∀ b∈fp,Fb X pI H' b:=fun hn b hb=>⟨hn b hb,(f2 b hb).2⟩
 refine codeAny_forLoop_any (fun n s'=>∃ i σ' H',Inv X pI σ' H' s'/\tn i s'.heap/\(∀ b∈fp,H' b=Af)/\W i n σ' H') ?_ m0 ⟨0,σ,H2,I2,st2,fun b hb=>(f2 b hb).1,w0⟩
 rintro n s3 ⟨i,σ3,H3,I3,st3,fr3,w3⟩;rcases turn i n σ3 H3 w3 with ⟨stop,qn⟩|⟨go,N,hN,step⟩
 ·refine D9 hp (thn (T.done X rfl rfl rfl hc i pI s3 σ3 H3 X.xe I3 (stat fr3) st3 stop) fun r s4 ⟨hr,I4⟩=>?_)
  subst hr;exact S4 ⟨σ3,H3,I4,qn⟩
 ·refine D9 hp (thn (T.item X rfl rfl rfl hc i pI s3 σ3 H3 X.xe I3 (stat fr3) st3 go) fun r s4 ⟨u,hr,h4⟩=>?_)
  subst hr;refine D9 hp (thn h4 fun _ s5 ⟨x,H5,I5,r5,y5,st5,fr5⟩=>?_)
  have I5':=I5.pinned (stat fr5) (T.obj _ _ st5);refine D9 hp (thn (hg _ s5 σ3 H5 x u _ I5' r5 (step x H5 y5)) fun _ s6 ⟨σ6,H6,I6,q6⟩=>?_)
  refine D9 hp (thn (hb _ s6 σ6 H6 _ I6 q6) fun f s7 q7=>?_)
  have again:∀{σ7:St}{H7:Hp},Inv X (pI++Hv fp s5.heap) σ7 H7 s7->N σ7 H7->∃ m,m<n/\∃ i σ' H',Inv X pI σ' H' s7/\tn i s7.heap/\(∀ b∈fp,H' b=Af)/\W i m σ' H':=fun {σ7 H7} I7 n7=>by
   obtain⟨m',hm,w7⟩:=hN σ7 H7 n7;refine⟨m',hm,i+1,σ7,H7,I7.unpinned,T.keep _ _ _ st5 fun b hb o e=>(I7.pin (b,o) (A9 _ (A9 _ (JH hb e)))).1,fun b hb=>?_,w7⟩
   obtain⟨o,e,d⟩:=T.obj _ _ st5 b hb;exact(I7.pin (b,o) (A9 _ (A9 _ (JH hb e)))).2.1
  cases f with
  |next=>obtain⟨σ7,H7,I7,n7⟩:=q7;exact again I7 n7
  |cont=>obtain⟨σ7,H7,I7,n7⟩:=q7;exact again I7 n7
  |brk=>obtain⟨σ7,H7,I7,q7⟩:=q7;exact⟨σ7,H7,I7.unpinned,q7⟩
  |ret v=>obtain⟨x7,σ7,H7,I7,r7,q7⟩:=q7;exact⟨x7,σ7,H7,I7.unpinned,r7,q7⟩
end
abbrev R2:=V->V->Hp->VK->Prop
variable{r:R2}
noncomputable def OpR(X:Cx)(f:Ai->Ai->Ft Ai)(r:R2):Prop:=
 ∀(pI:Pn)(s:Ao)(σ:St)(H:Hp)(x y:V)(v u:Ai)(Q:VK),Inv X pI σ H s->Bm x v->Bm y u->r x y H Q ->
  AD (model X.prog X.w) X.A (f v u) (EP X pI σ Q) X.xe s
noncomputable def UnR(X:Cx)(f:Ai->Ft Ai)(r:V->Hp->VK->Prop):Prop:=
 ∀(pI:Pn)(s:Ao)(σ:St)(H:Hp)(x:V)(v:Ai)(Q:VK),Inv X pI σ H s->Bm x v->r x H Q ->
  AD (model X.prog X.w) X.A (f v) (EP X pI σ Q) X.xe s
noncomputable def Go(X:Cx)(f:Ai)(r:Ac V->Hp->VK->Prop):Prop:=
 ∀(pI:Pn)(s:Ao)(σ:St)(H:Hp)(xs:Ac V)(us:Ac Ai)(Q:VK),Inv X pI σ H s->AW xs us->r xs H Q ->
  AD (model X.prog X.w) X.A (call f us) (EP X pI σ Q) X.xe s
noncomputable def fW(X:Cx)(r:V->Hp->(An->Hp->Prop)->Prop):Prop:=
 ∀(pI:Pn)(s:Ao)(σ:St)(H:Hp)(x:V)(v:Ai)(Q:An->Hp->Prop),Inv X pI σ H s->Bm x v->r x H Q ->
  AD (model X.prog X.w) X.A (truthy v) (TP X pI σ Q) X.xe s
def tOp(r:R2)(ta tb:TE):TE:=fun σ H Q=>ta σ H fun x H1=>tb σ H1 fun y H2=>r x y H2 Q
def tUn(r:V->Hp->VK->Prop)(ta:TE):TE:=fun σ H Q=>ta σ H fun x H1=>r x H1 Q
def rI(C:Ae->Ae->Prop)(g:Ae->Ae->V):R2:=fun x y H Q=>∃ i j,x=.int i/\y=.int j/\C i j/\Q (g i j) H
def rI0(g:Ae->Ae->V):R2:=fun x y H Q=>∃ i j,x=.int i/\y=.int j/\Q (g i j) H
def rU(g:Ae->V):V->Hp->VK->Prop:=fun x H Q=>∃ i,x=.int i/\Q (g i) H
section
variable{X:Cx}{a b c:Am}{ta tb tc:TE}{pos:AO}
theorem ML(ha:PE X a ta)(hb:PE X b tb){R:V->V->Hp->Prop}(I:Inv X pI σ H s)(h:ta σ H fun x H1=>tb σ H1 fun y H2=>R x y H2){Q:Vq}(hf:∀ v u s2 x y H2,Inv X pI σ H2 s2->Bm x v->Bm y u->R x y H2->AD (model X.prog X.w) X.A (f v u) Q X.xe s2):AD (model X.prog X.w) X.A (eval a X.env) (fun v s₁=>AD (model X.prog X.w) X.A (eval b X.env) (fun u s₂=>AD (model X.prog X.w) X.A (f v u) Q X.xe s₂) X.xe s₁) X.xe s:=by
 refine thn (ha pI s σ H _ I h) fun v s1 ⟨x,H1,I1,r1,q1⟩=>?_
 refine thn (hb pI s1 σ H1 _ I1 q1) fun u s2 ⟨y,H2,I2,r2,q2⟩=>?_
 exact hf v u s2 x y H2 I2 r1 r2 q2
theorem Qa{op:FY}(ho:OpR X (BF op) r)(ha:PE X a ta)(hb:PE X b tb):PE X (.BinOp a op b pos) (tOp r ta tb):=by
 intro pI s σ H Q I h;exact wpAny_BinOp (ML ha hb I h fun v u s2 x y H2 I2 rx ry q=>ho pI s2 σ H2 x y v u Q I2 rx ry q)
theorem aK{op:UnaryOp}{r:V->Hp->VK->Prop}(ho:UnR X (unaryOp op) r)(ha:PE X a ta):PE X (.UnaryOp op a pos) (tUn r ta):=by
 intro pI s σ H Q I h;exact UnaryOp_ (thn (ha pI s σ H _ I h) fun v s1 ⟨x,H1,I1,r1,q1⟩=>ho pI s1 σ H1 x v Q I1 r1 q1)
theorem opI{C:Ae->Ae->Prop}(rule:∀(i j:Ae)(t u:CB)(s:Ao)(Q:Vq)(E:Vq),C i j->Q (.int (g i j) s.toks) {s with toks:=s.toks+1}->AD (model X.prog X.w) X.A (f (.int i t) (.int j u)) Q E s):OpR X f (rI C fun i j=>.int (g i j)):=by
 intro pI s σ H x y v u Q I rx ry h;obtain⟨i,j,rfl,rfl,hc,q⟩:=h;obtain⟨t,rfl⟩:=rx;obtain⟨t',rfl⟩:=ry;exact rule i j t t' s _ _ hc ⟨.int (g i j),H,I.tok _,⟨_,rfl⟩,q⟩
theorem Qz(rule:∀(i j:Ae)(t u:CB)(s:Ao)(Q:Vq)(E:Vq),Q (.int (g i j) s.toks) {s with toks:=s.toks+1}->AD (model X.prog X.w) X.A (f (.int i t) (.int j u)) Q E s):OpR X f (rI0 fun i j=>.int (g i j)):=by
 intro pI s σ H x y v u Q I rx ry h;obtain⟨i,j,rfl,rfl,q⟩:=h;obtain⟨t,rfl⟩:=rx;obtain⟨t',rfl⟩:=ry;exact rule i j t t' s _ _ ⟨.int (g i j),H,I.tok _,⟨_,rfl⟩,q⟩
theorem Ko{g:Ae->Ae->An}(rule:∀(i j:Ae)(t u:CB)(s:Ao)(Q:Vq)(E:Vq),Q (.bool (g i j)) s->AD (model X.prog X.w) X.A (f (.int i t) (.int j u)) Q E s):OpR X f (rI0 fun i j=>.bl (g i j)):=by
 intro pI s σ H x y v u Q I rx ry h;obtain⟨i,j,rfl,rfl,q⟩:=h;obtain⟨t,rfl⟩:=rx;obtain⟨t',rfl⟩:=ry;exact rule i j t t' s _ _ ⟨.bl (g i j),H,I,rfl,q⟩
def gE(i j:Ae):Prop:=0<j/\j<1073741824
def gD(i j:Ae):Prop:=0<=j/\j<=1000000/\i.natAbs<2 ^ 64
def Ks(i j:Ae):Prop:=(-(2 ^ 64)<i/\i<2 ^ 64)\/(-(2 ^ 64)<j/\j<2 ^ 64)
theorem Ks.ok{i j:Ae}(h:Ks i j):IK i j:=by
 rcases h with ⟨h1,h2⟩|⟨h1,h2⟩
 ·exact .of_left (intBits_le_64 h1 h2)
 ·exact .of_right (intBits_le_64 h1 h2)
theorem Zd:OpR X (BF .Add) (rI0 fun i j=>.int (i+j)):=Qz fun _ _ _ _ _ _ _ q=>add_int q
theorem Y9:OpR X (BF .Sub) (rI0 fun i j=>.int (i-j)):=Qz fun _ _ _ _ _ _ _ q=>sub_int q
theorem WT:OpR X (BF .FloorDiv) (rI gE fun i j=>.int (i / j)):=opI fun i j _ _ _ _ _ hc q=>by
 have h1:(0:Ae)<j:=hc.1;have h2:j<1073741824:=hc.2;exact floordiv_int (by omega) (by rw[Int.fdiv_eq_ediv_of_nonneg i (by omega)];exact q) (.inl (PyProof.noPylong_small (by omega)))
theorem Zb:OpR X (BF .Mod) (rI (fun _ j=>0<j) fun i j=>.int (i%j)):=opI fun i j _ _ _ _ _ hc q=>by
 have h1:(0:Ae)<j:=hc;exact mod_int' (by omega) (by rw[Int.fmod_eq_emod_of_nonneg i (by omega)];exact q)
theorem Za:OpR X (BF .Pow) (rI gD fun i j=>.int (i ^ j.toNat)):=opI fun _ _ _ _ _ _ _ hc q=>pow_int_small hc.1 hc.2.1 hc.2.2 q
theorem unI{f:Ai->Ft Ai}{g:Ae->Ae}(rule:∀(i:Ae)(t:CB)(s:Ao)(Q:Vq)(E:Vq),Q (.int (g i) s.toks) {s with toks:=s.toks+1}->AD (model X.prog X.w) X.A (f (.int i t)) Q E s):UnR X f (rU fun i=>.int (g i)):=by
 intro pI s σ H x v Q I rx h;obtain⟨i,rfl,q⟩:=h;obtain⟨t,rfl⟩:=rx;exact rule i t s _ _ ⟨.int (g i),H,I.tok _,⟨_,rfl⟩,q⟩
theorem Xn:UnR X (unaryOp .USub) (rU fun i=>.int (-i)):=unI fun _ _ _ _ _ q=>neg_int q
end
section
variable{X:Cx}{a b c:Am}{ta tb tc:TE}{pos:AO}
theorem O9{Q:VK}{k k':An}(I:Inv X pI σ H s)(q:Q (.bl k) H)(e:k=k'):EP X pI σ Q (.bool k') s:=by
 subst e;exact⟨.bl k,H,I,rfl,q⟩
theorem dF:OpR X (B0 .Lt) (rI0 fun i j=>.bl (decide (i<j))):=Ko fun _ _ _ _ _ _ _ q=>lt_int q
theorem dG:OpR X (B0 .LtE) (rI0 fun i j=>.bl (decide (i<=j))):=Ko fun _ _ _ _ _ _ _ q=>le_int q
theorem dH:OpR X (B0 .Gt) (rI0 fun i j=>.bl (decide (j<i))):=Ko fun _ _ _ _ _ _ _ q=>gt_int q
theorem dI:OpR X (B0 .GtE) (rI0 fun i j=>.bl (decide (j<=i))):=Ko fun _ _ _ _ _ _ _ q=>ge_int q
theorem Zc:OpR X (B0 .Is) (fun x y H Q=>y=.non/\Q (.bl (decide (x=.non))) H):=by
 intro pI s σ H x y v u Q I rx ry h;obtain⟨rfl,q⟩:=h;cases ry;refine is_none_gen (O9 I q ?_);cases x<;>first
  |(cases rx;rfl)
  |(obtain⟨t,rfl⟩:=rx;rfl)
theorem VC:OpR X (B0 .IsNot) (fun x y H Q=>y=.non/\Q (.bl (!decide (x=.non))) H):=by
 intro pI s σ H x y v u Q I rx ry h;obtain⟨rfl,q⟩:=h;cases ry;refine isnot_none_gen (O9 I q ?_);cases x<;>first
  |(cases rx;rfl)
  |(obtain⟨t,rfl⟩:=rx;rfl)
theorem Vv(ho:OpR X (B0 op) r)(ha:PE X a ta)(hb:PE X b tb)(hm:Fv op b=Ad):PE X (.Compare a [op] [b] pos) (tOp r ta tb):=by
 intro pI s σ H Q I h;exact wpAny_Compare1 (ML ha hb I h fun v u s2 x y H2 I2 rx ry q=>ho pI s2 σ H2 x y v u Q I2 rx ry q) hm
def PM(t:TE):TT:=fun σ H Q=>t σ H fun x H'=>∃ k,x=.bl k/\Q k H'
theorem VW(ho:OpR X (B0 op) r)(ha:PE X a ta)(hb:PE X b tb)(hm:Fv op b=Ad):PT X (.Compare a [op] [b] pos) (PM (tOp r ta tb)):=by
 intro pI s σ H Q I h;refine wpAny_isTrue_Compare1 (thn (ha pI s σ H _ I h) fun v s1 ⟨x,H1,I1,r1,q1⟩=>thn (hb pI s1 σ H1 _ I1 q1) fun u s2 ⟨y,H2,I2,r2,q2⟩=>
  thn (ho pI s2 σ H2 x y v u _ I2 r1 r2 q2) fun c s3 ⟨z,H3,I3,r3,k,e,q3⟩=>?_) hm
 subst e;cases r3;exact B1 ⟨H3,I3,q3⟩
def Pv(r r':R2)(ta tb tc:TE):TE:=fun σ H Q=>ta σ H fun x H1=>tb σ H1 fun y H2=>r x y H2 fun z H3=>∃ k,z=.bl k /\
 (if k=Ab then tc σ H3 fun w' H4=>r' y w' H4 Q else Q (.bl Ad) H3)
theorem UO{op':DF}{r':R2}(ho:OpR X (B0 op) r)(ho':OpR X (B0 op') r')(ha:PE X a ta)(hb:PE X b tb)(hc:PE X c tc)(hm:G5 [op,op'] [b,c]=Ad:=by with_unfolding_all rfl):PE X (.Compare a [op,op'] [b,c] pos) (Pv r r' ta tb tc):=by
 intro pI s σ H Q I h;refine Compare_chain (thn (ha pI s σ H _ I h) fun v s1 ⟨x,H1,I1,r1,q1⟩=>chain_link (thn (hb pI s1 σ H1 _ I1 q1) fun u s2 ⟨y,H2,I2,r2,q2⟩=>
  thn (ho pI s2 σ H2 x y v u _ I2 r1 r2 q2) fun d s3 ⟨z,H3,I3,r3,k,e,q3⟩=>?_)) hm
 subst e;cases r3;refine B1 ?_;cases k with
 |false=>exact ite_ff ⟨.bl Ad,H3,I3,rfl,q3⟩
 |true=>exact ite_tt (chain_last (thn (hc pI s3 σ H3 _ I3 q3) fun w' s4 ⟨z',H4,I4,r4,q4⟩=>ho' pI s4 σ H4 y z' u w' Q I4 r2 r4 q4))
theorem UK{op':DF}{r':R2}(ho:OpR X (B0 op) r)(ho':OpR X (B0 op') r')(ha:PE X a ta)(hb:PE X b tb)(hc:PE X c tc)(hm:G5 [op,op'] [b,c]=Ad:=by with_unfolding_all rfl):PT X (.Compare a [op,op'] [b,c] pos) (PM (Pv r r' ta tb tc)):=by
 intro pI s σ H Q I h;refine isTrue_chain (thn (ha pI s σ H _ I h) fun v s1 ⟨x,H1,I1,r1,q1⟩=>test_link (thn (hb pI s1 σ H1 _ I1 q1) fun u s2 ⟨y,H2,I2,r2,q2⟩=>
  thn (ho pI s2 σ H2 x y v u _ I2 r1 r2 q2) fun d s3 ⟨z,H3,I3,r3,k,e,q3⟩=>?_)) hm
 subst e;cases r3;refine B1 ?_;cases k with
 |false=>
  obtain⟨k',e',q'⟩:=q3;cases e';exact ite_ff ⟨H3,I3,q'⟩
 |true=>
  refine ite_tt (test_last (thn (hc pI s3 σ H3 _ I3 q3) fun w' s4 ⟨z',H4,I4,r4,q4⟩=>thn (ho' pI s4 σ H4 y z' u w' _ I4 r2 r4 q4) fun d' s5 ⟨z2,H5,I5,r5,k2,e2,q5⟩=>?_))
  subst e2;cases r5;exact B1 ⟨H5,I5,q5⟩
noncomputable def QU(K:Fg)(x:V)(H:Hp)(k:An):Prop:=
  match x with
  |.non=>k=Ad
  |.bl b=>k=b
  |.int i=>k=(i != 0)
  |.str y=>y.length<=sizeLine/\k=((y.length:Ae) != 0)
  |.byt y=>y.size<=sizeLine/\k=((y.size:Ae) != 0)
  |.ref p=>(∃ xs,SqL K H p xs/\k=!xs.isEmpty)\/(∃ xs,SqT K H p xs/\k=!xs.isEmpty)\/∃ kvs,H p=Aa (.dK kvs)/\k=!kvs.isEmpty
  |_=>A5
theorem TW{κ:Type}{kvs:Ac (κ×V)}{vs:Ac (κ×Ai)}(r:KV kvs vs):(!vs.isEmpty)=!kvs.isEmpty:=by
 cases r<;>rfl
theorem Nd{its:Ac Ai}(r:AW xs its):(!its.toArray.isEmpty)=!xs.isEmpty:=by
 cases r<;>simp
theorem Ik:(sizeLine:Ag)<2 ^ 63:=by rw[DU];decide
theorem Xq:fW X (fun x H Q=>∃ k,QU X.K x H k/\Q k H):=by
 intro pI s σ H x v Q I rx h;obtain⟨k,e,q⟩:=h;have hl:=Ik;have hs:sizeLine=16777216:=DU;cases x with
 |non=>
  cases rx;have e':k=Ad:=e;subst e';exact truthy_none ⟨H,I,q⟩
 |bl b=>
  cases rx;have e':k=b:=e;subst e';exact B1 ⟨H,I,q⟩
 |int i=>
  obtain⟨t,rfl⟩:=rx;have e':k=(i != 0):=e;subst e';exact PySem.P.truthy_int ⟨H,I,q⟩
 |str y=>
  obtain⟨t,rfl⟩:=rx;obtain⟨hy,e'⟩:y.length<=sizeLine/\k=((y.length:Ae) != 0):=e;subst e';exact PySem.P.truthy_str (by omega) ⟨H,I.tok _,q⟩
 |byt y=>
  obtain⟨t,rfl⟩:=rx;obtain⟨hy,e'⟩:y.size<=sizeLine/\k=((y.size:Ae) != 0):=e;subst e';exact PySem.W.truthy_bytes (by omega) ⟨H,I.tok _,q⟩
 |ref p=>
  cases rx;have e':(∃ xs,SqL X.K H p xs/\k=!xs.isEmpty)\/(∃ xs,SqT X.K H p xs/\k=!xs.isEmpty)\/∃ kvs,H p=Aa (.dK kvs)/\k=!kvs.isEmpty:=e;rcases e' with ⟨xs,hx,e'⟩|⟨xs,hx,e'⟩|⟨kvs,hx,e'⟩
  ·subst e';obtain⟨its,r,pl,hz⟩:=I.list hx;have hlen:=r.length;exact wpAny_truthy_list pl.isList (by simp only[Au];omega) ⟨H,I.tok _,by rw[Nd r];exact q⟩
  ·subst e';obtain⟨its,r,pl,hz⟩:=I.tuple hx;have hlen:=r.length;exact truthy_tuple pl (by simp only[Au];omega) ⟨H,I.tok _,by rw[Nd r];exact q⟩
  ·subst e';obtain⟨hz,hS,vs,r,m⟩:kvs.length<=sizeLine/\(p==HM)=Ad/\∃ vs,KV kvs vs/\s.heap.DictOf (LD X.prog X.w) p vs:=I.hok p _ hx;have hlen:kvs.length=vs.length:=Su r;exact wpAny_truthy_dict hS m (by omega) ⟨H,I.tok _,by rw[TW r];exact q⟩
 |_=>exact(show A5 from e).elim
theorem UJ(ha:PE X a ta)(he:∀ whole,Gx a X.env whole=(do let v <-whole;FP a.pos;holding [v] (truthy v))):PT X a (fun σ H Q=>ta σ H fun x H'=>∃ k,QU X.K x H' k/\Q k H'):=by
 intro pI s σ H Q I h;exact isTrue_plain (thn (ha pI s σ H _ I h) fun v s1 ⟨x,H1,I1,r1,q1⟩=>Xq pI s1 σ H1 x v Q I1 r1 q1) (he _)
theorem TR:OpR X (BF .Add) (fun x y H Q=>∃ i j,x=.str i/\y=.str j/\i.length+j.length<=sizeLine/\Q (.str (i++j)) H):=by
 intro pI s σ H x y v u Q I rx ry h;obtain⟨i,j,rfl,rfl,hz,q⟩:=h;obtain⟨t,rfl⟩:=rx;obtain⟨t',rfl⟩:=ry;exact add_str (fun t' tk=>⟨.str (i++j),H,I.tok _,⟨_,rfl⟩,q⟩) hz
theorem Gm{x:V}(r:AW [x] us):∃ u,us=[u]/\Bm x u:=by
 cases r with
 |cons r1 r2=>cases r2;exact⟨_,rfl,r1⟩
theorem PK{x y:V}(r:AW [x,y] us):∃ u w',us=[u,w']/\Bm x u/\Bm y w':=by
 cases r with
 |cons r1 r2=>
  cases r2 with
  |cons r3 r4=>cases r4;exact⟨_,_,rfl,r1,r3⟩
theorem T4(hc:X.calm=Ab):Go X (.builtin "min") (fun xs H Q=>∃ i j,xs=[.int i,.int j]/\Q (.int (if j<i then j else i)) H):=by
 intro pI s σ H xs us Q I r h;obtain⟨i,j,rfl,q⟩:=h;obtain⟨u,w',rfl,⟨t,rfl⟩,⟨t',rfl⟩⟩:=PK r;refine min_two_ints (I.ok.hd hc) fun h' tk k=>⟨_,H,I.kept k,?_,q⟩
 by_cases hj:j<i
 ·rw[AC hj,AC hj];exact⟨_,rfl⟩
 ·rw[AJ hj,AJ hj];exact⟨_,rfl⟩
end
section
variable{prog:AN}{w:AU}{A:A2}{E:Vq}{s:Ao}{K:Fg}{x dx C f:Aj}{mA:Ah->Ap Ai}{name:Ah}{v:Ai}
end
section
variable{P:AN}{w:AU}{H H':Hp}{h h':AG}{a C dx:Aj}{fs fs':Ac (Ah×V)}
end
section
variable{X:Cx}{pI:Pn}{σ:St}{H:Hp}{s:Ao}{a C dx:Aj}{fs:Ac (Ah×V)}{f:Ah}{v:V}{A:A2}{E:Vq}
end
section
variable{X:Cx}{o e value:Am}{f:Ah}{pos pos' tpos:AO}{ta tv:TE}
end
section
variable{X:Cx}{pI:Pn}{σ:St}{H:Hp}{s:Ao}{A:A2}{E:Vq}{Q:Vq}{c:Ai}{b:An}
end
structure Room (k:Ag) (A:A2):Prop where
 hd:A.handled=Af
 dp:A.depth+3*k+5<SZ
 un:A.units+16*k+200<BQ
theorem Room.deeper{A:A2}(r:Room (k+1) A)(env:BJ):Room k (A.deeper env):=
 ⟨r.hd,by have:=r.dp;show A.depth+1+3*k+5<_;omega,by have:=r.un;show A.units+3+16*k+200<_;omega⟩
theorem Room.depth{A:A2}(r:Room k A):A.depth<SZ:=by have:=r.dp;omega
theorem Room.units{A:A2}(r:Room k A):A.units+64<BQ:=by have:=r.un;omega
def fT:TA:=fun _ H Q=>Q [] H
def ZV(ta:TE)(tr:TA):TA:=fun σ H Q=>ta σ H fun x H1=>tr σ H1 fun xs H2=>Q (x::xs) H2
section
variable{X:Cx}{e:Am}{es:Ac Am}{te:TE}{t:TA}{pos:AO}
theorem F4:PA X [] fT:=fun _ _ _ _ H Q I h=>R4 ⟨[],H,I,.nil,h⟩
theorem Ew(ha:PE X e te)(hr:PA X es t)(hs:Ax (e::es) X.env=(Ad,eval e X.env)::Ax es X.env:=by rfl):PA X (e::es) (ZV te t):=by
 intro pos pI s σ H Q I h;rw[hs];show AD _ _ (spliced ((Ad,eval e X.env)::Cp pos (Ax es X.env))) _ _ s;refine R1 (thn (ha pI s σ H _ I h) fun u s1 ⟨x,H1,I1,r1,q1⟩=>?_)
 exact thn (hr pos pI s1 σ H1 _ I1 q1) fun us s2 ⟨xs,H2,I2,r2,q2⟩=>⟨x::xs,H2,I2,.cons r1 r2,q2⟩
def fN(t:TA):TE:=fun σ H Q=>t σ H fun xs H1=>xs.length<=sizeLine/\∀ p,H1 p=Af->Q (.ref p) (upd H1 p (.tup xs))
def fU(t:TA):TE:=fun σ H Q=>t σ H fun xs H1=>xs.length<=sizeLine/\∀ p,H1 p=Af->Q (.ref p) (upd H1 p (.lst xs))
theorem XR{x1}(h:PA X es t):PE X (.Tuple es x1 pos) (fN t):=by
 intro pI s σ H Q I hq;refine wpAny_Tuple_spliced (thn (h pos pI s σ H _ I hq) fun us s1 ⟨xs,H1,I1,r,z,q⟩=>⟨by rw[<-r.length];exact z,?_⟩)
 have hf:H1 s1.heap.objs.size=Af:=I1.hok.fresh (AK _);refine⟨.ref s1.heap.objs.size,upd H1 s1.heap.objs.size (.tup xs),I1.laid (t':=s1.toks) (fun b u e=>Ar _ e) (AK _) ?_,rfl,q _ hf⟩
 exact⟨z,us,r,⟨_,AB _ rfl,rfl,_,rfl⟩⟩
theorem Y6(h:PA X es t):PE X (.List es pos) (fU t):=by
 intro pI s σ H Q I hq;refine wpAny_List_spliced (thn (h pos pI s σ H _ I hq) fun us s1 ⟨xs,H1,I1,r,z,q⟩=>⟨by rw[<-r.length];exact z,?_⟩)
 have hf:H1 s1.heap.objs.size=Af:=I1.hok.fresh (AK _);refine⟨.ref s1.heap.objs.size,upd H1 s1.heap.objs.size (.lst xs),I1.laid (t':=s1.toks) (fun b u e=>Ar _ e) (AK _) ?_,rfl,q _ hf⟩
 exact⟨z,us,0,r,AB _ rfl⟩
end
abbrev Sp:=Ac V->Hp->VK->XK->Prop
variable{sp:Sp}
abbrev CXT:=Ac BJ->Hp->Ao->XK->Ai->Ao->Prop
variable{CX:CXT}
structure Env0 (P:AN) (w:AU) (K:Fg) (mg:Ah->Ap Ai) (base:AG) (A:A2) (outer:Ac BJ) (s:Ao) (H:Hp):Prop where
 frames:A.frames=Aa outer
 mod:Mod K mg base
 bs:∀ b o,base.get? b=Aa o->s.heap.get? b=Aa o/\H b=Af
 bsz:base.objs.size<=s.heap.objs.size
 funs:s.heap.FunFrames base outer
 frf:∀ b∈frs outer,H b=Af
 hok:HOk P w H s.heap
 bare:Ef s.gens
noncomputable def CE(outer:Ac BJ)(P:AN)(w:AU)(H:Hp)(s:Ao)(Q:VK)(u:Ai)(s':Ao):Prop:=
 ∃ v H',s'.os=s.os/\Ef s'.gens/\Un (frs outer) [] H H' s.heap s'.heap/\HOk P w H' s'.heap/\Bm v u/\Q v H'
noncomputable def CR(CX:CXT)(outer:Ac BJ)(P:AN)(w:AU)(H:Hp)(s:Ao)(Q:VK)(E:XK)(r:HH)(s':Ao):Prop:=
  match r with
  |.ok (.ret u)=>CE outer P w H s Q u s'
  |.ok _=>A5
  |.error e=>CX outer H s E e s'
structure FnOk (P:AN) (w:AU) (K:Fg) (mg:Ah->Ap Ai) (base:AG) (CX:CXT) (k:Ag) (f:Aj) (fd:BW) (ps:Ac Ah) (sp:Sp):Prop where
 len:∀ vs H Q E,sp vs H Q E->vs.length=ps.length
 run:∀(A:A2)(outer:Ac BJ)(s:Ao)(H:Hp)(args:Args)(us:Ac Ai)(vs:Ac V)(Q:VK)(E:XK),Room k A->Env0 P w K mg base A outer s H->FL s fd args (ps.zip us)->AW vs us->sp vs H Q E ->
  E6 (model P w) A (.call (.ref f) args) (CR CX outer P w H s Q E) s
theorem FnOk.imp{w:AU}{K:Fg}{mg:Ah->Ap Ai}{base:AG}{f:Aj}{sp':Sp}(F:FnOk P w K mg base CX k f fd ps sp)(h:∀ vs H Q E,sp' vs H Q E->sp vs H Q E):FnOk P w K mg base CX k f fd ps sp':=
 ⟨fun vs H Q E q=>F.len vs H Q E (h _ _ _ _ q),fun A outer s H args us vs Q E hr he hb hv hs=>F.run A outer s H args us vs Q E hr he hb hv (h _ _ _ _ hs)⟩
section
variable{X:Cx}{pI:Pn}{σ:St}{H:Hp}{s s':Ao}
theorem Inv.env0(I:Inv X pI σ H s):Env0 X.prog X.w X.K X.mg X.base X.A X.stack s H:=
 ⟨I.ok.frames,I.ok.mod,I.bs,Cb I.ok.bsz I.sz,I.stack,I.stkFree,I.hok,I.bare⟩
theorem Inv.after{Q:VK}(I:Inv X pI σ H s)(h:CE X.stack X.prog X.w H s Q u s'):EP X pI σ Q u s':=by
 obtain⟨v,H',os,bare,un,hok,r,q⟩:=h;obtain⟨hh,g,d,t,os'⟩:=s';obtain rfl:os'=s.os:=os;exact⟨v,H',I.call (h':=hh) (g':=g) (d':=d) (t':=t) (ch:=[]) un hok bare (fun b z=>absurd z (by simp)),r,q⟩
end
def ZW(sp:Sp)(dvs:Ac V)(E:XK)(t:TA):TE:=fun σ H Q=>t σ H fun vs H1=>sp (vs++dvs) H1 Q E
noncomputable def Gp(K:Fg)(fd:BW)(ps:Ac Ah)(ds:Ac Ai):Prop:=
 ∀(s:Ao)(us:Ac Ai),K.In s.heap->(us++ds).length=ps.length->FL s fd ⟨us,[]⟩ (ps.zip (us++ds))
theorem Gp.all{K:Fg}(h:∀ us:Ac Ai,us.length=ps.length->IM fd ⟨us,[]⟩=pure (ps.zip us)):Gp K fd ps []:=fun s us _ hl=>by
 rw[B8]at hl ⊢;exact .of_eq (h us hl)
def Ig(CX:CXT)(X:Cx)(E:XK):Prop:=∀(pI:Pn)(σ:St)(H:Hp)(s:Ao)(e:Ai)(s':Ao),Inv X pI σ H s->CX X.stack H s E e s'->X.xe e s'
section
variable{X:Cx}{CX:CXT}{k:Ag}{f C:Aj}{fd:BW}{ps:Ac Ah}{sp:Sp}{dvs:Ac V}{ds:Ac Ai}{E:XK}{x m:Ah}{p pos apos:AO}{e o:Am}{es:Ac Am}{ta:TE}{t:TA}
theorem XV{Q:VK}(F:FnOk X.prog X.w X.K X.mg X.base CX k f fd ps sp)(hr:Room k X.A)(hb:Gp X.K fd ps ds)(hd:AW dvs ds)(hx:Ig CX X E)(I:Inv X pI σ H s)(r:AW vs us)(h:sp (vs++dvs) H Q E):AD (model X.prog X.w) X.A (call (.ref f) us) (EP X pI σ Q) X.xe s:=by
 have r2:AW (vs++dvs) (us++ds):=r.append hd;have hl:(us++ds).length=ps.length:=by rw[<-r2.length];exact F.len _ _ _ _ h
 refine wpAny_call (G3 (F.run X.A X.stack s H ⟨us,[]⟩ (us++ds) (vs++dvs) Q E hr I.env0 (hb s us I.kIn hl) r2 h) fun r s' hq=>?_)
 cases r with
 |error e=>exact hx pI σ H s e s' I hq
 |ok fl=>
  cases fl with
  |ret u=>exact I.after hq
  |next=>exact C7 hq
  |brk=>exact C7 hq
  |cont=>exact C7 hq
theorem ON(F:FnOk X.prog X.w X.K X.mg X.base CX k f fd ps sp)(hr:Room k X.A)(hg:Gl X x)(hm:X.mg x=Aa (.ref f))(hk:CJ X.K (.ref f)=Ab)(hb:Gp X.K fd ps ds)(hd:AW dvs ds)(hx:Ig CX X E)(ha:PA X (e::es) t)(hdb:(x==("__debug__" : Ah))=Ad:=by decide)(he:Ax (e::es) X.env=(Ad,eval e X.env)::Ax es X.env:=by rfl)(hpl:(Cp pos (Ax es X.env)).any (·.1)=Ad:=by rfl):PE X (.Call (.Name x p) (e::es) [] pos) (ZW sp dvs E t):=by
 intro pI s σ H Q I h;refine Fp (W3 I hg hm ?_ hdb);refine PySem.W.callWith_K (h₀:=X.base) I.ok.mod.kin hk (thn (ha pos pI s σ H _ I h) fun us s1 ⟨vs,H1,I1,r,q⟩=>⟨I1.kIn,?_⟩) he hpl
 exact XV F hr hb hd hx I1 r q
end
section
variable{X:Cx}{CX:CXT}{k:Ag}{f C:Aj}{fd:BW}{ps ks:Ac Ah}{sp:Sp}{E:XK}{x m:Ah}{p pos apos kpos:AO}{e o:Am}{es:Ac Am}{kws:Ac FN}{te ta:TE}{t tk:TA}{nm:Ap Ah}
variable{g:Ac Ai->Ac Ai->Ac Ai}{gV:Ac V->Ac V->Ac V}
end
structure FnScope (N P:Ac Ah) (sc:BS):Prop where
 kind:sc.kind=.function
 co:sc.isCoroutine=Ad
 gen:sc.isGenerator=Ad
 nd:N.Nodup
 pre:N.take P.length=P
 par:∀ x∈P,sc.names.lookup x=Aa .local\/sc.names.lookup x=Aa .cell
 nofree:∀ y∈sc.names,y.2≠.free
theorem NH{kindOf:Ah->Ap Dj}{x:Ah}:∀{binds:Ac (Ah×Ai)}{m:Ah->Ap Ai},(∀ v,(x,v)∉binds)->GC kindOf binds m x=m x
 |[],_,_=>rfl
 |(n,v)::r,m,h=>by
  unfold GC;rw[NH fun w hw=>h w (As _ hw)]
  split
  ·have:x≠n:=by rintro rfl;exact h v AA
   simp[this]
  ·rfl
theorem NJ{kindOf:Ah->Ap Dj}{x:Ah}:∀{binds:Ac (Ah×Ai)}{m:Ah->Ap Ai},(∀ v,(x,v)∉binds)->GB kindOf binds m x=m x
 |[],_,_=>rfl
 |(n,v)::r,m,h=>by
  unfold GB;rw[NJ fun w hw=>h w (As _ hw)]
  split
  ·rfl
  ·have:x≠n:=by rintro rfl;exact h v AA
   simp[this]
theorem NI{kindOf:Ah->Ap Dj}{x:Ah}{v:Ai}:∀{P:Ac Ah}{vs:Ac Ai}{i:Ag}{m:Ah->Ap Ai},P.Nodup->P[i]?=Aa x->vs[i]?=Aa v->kindOf x=Aa .local->GC kindOf (P.zip vs) m x=Aa v
 |[],_,_,_,_,h,_,_=>by simp at h
 |_::_,[],_,_,_,_,h,_=>by simp at h
 |p::P,w::vs,0,m,nd,h1,h2,hk=>by
  simp at h1 h2;subst h1;subst h2;show GC kindOf ((p,w)::P.zip vs) m p=_;unfold GC;rw[NH fun v hv=>(Bz.mp nd).1 (Gb hv).1,AC hk]
  simp
 |p::P,w::vs,i+1,m,nd,h1,h2,hk=>by
  show GC kindOf ((p,w)::P.zip vs) m x=_;unfold GC;exact NI (i:=i) (Bz.mp nd).2 (by simpa using h1) (by simpa using h2) hk
theorem Nm{kindOf:Ah->Ap Dj}{x:Ah}{v:Ai}:∀{P:Ac Ah}{vs:Ac Ai}{i:Ag}{m:Ah->Ap Ai},P.Nodup->P[i]?=Aa x->vs[i]?=Aa v->kindOf x≠Aa .local->GB kindOf (P.zip vs) m x=Aa v
 |[],_,_,_,_,h,_,_=>by simp at h
 |_::_,[],_,_,_,_,h,_=>by simp at h
 |p::P,w::vs,0,m,nd,h1,h2,hk=>by
  simp at h1 h2;subst h1;subst h2;show GB kindOf ((p,w)::P.zip vs) m p=_;unfold GB;rw[NJ fun v hv=>(Bz.mp nd).1 (Gb hv).1,AJ hk]
  simp
 |p::P,w::vs,i+1,m,nd,h1,h2,hk=>by
  show GB kindOf ((p,w)::P.zip vs) m x=_;unfold GB;exact Nm (i:=i) (Bz.mp nd).2 (by simpa using h1) (by simpa using h2) hk
noncomputable def start(N:Ac Ah)(vs:Ac V):St:=vs.map Aa++RF (N.length-vs.length) Af
noncomputable def Fi(CX:CXT)(P:AN)(w:AU)(K:Fg)(mg:Ah->Ap Ai)(base:AG)(N:Ac Ah)(qual:Ah)(scope:BS)(f:Aj)(cd:Ai)(A:A2)(outer:Ac BJ)(s:Ao)(H:Hp)(E:XK):Cx where
 prog:=P
 w:=w
 K:=K
 mg:=mg
 base:=base
 A:=A.deeper (DT qual scope s.heap.objs.size f cd)
 N:=N
 s₀:=s
 H₀:=H
 env:=DT qual scope s.heap.objs.size f cd
 outer:=outer
 stack:=DT qual scope s.heap.objs.size f cd::outer
 ex:=[]
 calm:=Ab
 fn:=fun _=>Ab
 pn:=[]
 xe:=fun e s'=>AD (model P w) (A.deeper (DT qual scope s.heap.objs.size f cd)) (leaving (DT qual scope s.heap.objs.size f cd) e) (fun _ s''=>CX outer H s E e s'') (fun e' s''=>CX outer H s E e' s'') s'
theorem Oo{sc:BS}(h:sc.names.lookup x=Aa .cell):∃ c,(Cv n sc.names []).lookup x=Aa c:=by
 have q:=SL sc.names n [] (.inl h);exact RP.mp q
theorem T6{w:AU}{K:Fg}{mg:Ah->Ap Ai}{base:AG}{N ps:Ac Ah}{f:Aj}{cd:Ai}{A:A2}{outer:Ac BJ}{s1:Ao}{E:XK}(S:FnScope N ps scope)(hd:A.handled=Af)(e0:Env0 P w K mg base A outer s H)(hl:vs.length=ps.length)(r:AW vs us)(x:InCallC s s.heap.objs.size (GC (DT qual scope s.heap.objs.size f cd).kindOf (ps.zip us) fun _=>Af) (Cv (s.heap.objs.size+1) scope.names []) (GB (DT qual scope s.heap.objs.size f cd).kindOf (ps.zip us) fun _=>Af) s1):Inv (Fi CX P w K mg base N qual scope f cd A outer s H E) [] (start N vs) H s1:=by
 have hpl:ps.length<=N.length:=by have:=congrArg Rw S.pre;rw[FV]at this;omega
 obtain⟨h1,tk,rfl,hk⟩:=x.done;have noA:∀ b:Aj,b∉(Fi CX P w K mg base N qual scope f cd A outer s H E).ex:=fun b z=>absurd (show b∈([]:Ac Aj) from z) (by simp)
 refine⟨⟨e0.mod,S.kind,rfl,rfl,AK _,fun y z c h1 h2=>?_,fun y hy=>?_,fun y c _ h=>?_,fun _=>hd,Around.frames_deeper e0.frames,.inr ⟨rfl,rfl⟩,fun b z=>absurd z (noA b),e0.bs,e0.bsz,fun b _ _=>noA b,fun b z=>absurd z (noA b),e0.funs,e0.frf⟩,
  rfl,e0.bare,Un.kept hk,⟨_,x.toInCall.ns,fun i y v h1 h2 h3=>?_⟩,fun y c h=>⟨_,x.cell y c h⟩,e0.hok.fresh (AK _),fun y c h=>?_,fun p hp=>absurd (show p∈([]:Pn) from hp) (by simp),e0.hok.kept hk,?_⟩
 ·exact name_of_addr x.apart (B2 h1) (B2 h2)
 ·have hy:scope.names.lookup y=Aa .cell\/scope.names.lookup y=Aa .free:=hy;rcases hy with hy|hy
  ·exact Oo hy
  ·exact absurd rfl (S.nofree _ (B2 hy))
 ·exact EN (x.above y c (B2 h))
 ·have hi:i<vs.length:=by
   unfold start at h2;by_cases hi:i<vs.length
   ·exact hi
   ·rw[Ro (by simpa using hi)]at h2
    rw[Rt]at h2;split at h2<;>cases h2
  have ha:vs[i]?=Aa v:=by
   unfold start at h2;rw[D5 (by simpa using hi),DE]at h2
   cases e:vs[i]? with
   |none=>rw[e]at h2;cases h2
   |some a=>rw[e]at h2;cases h2;rfl
  obtain⟨u,hu,rv⟩:=r.get ha;have hp:ps[i]?=Aa y:=by
   rw[<-S.pre,List.getElem?_take_of_lt (by omega)];exact h1
  have ndP:ps.Nodup:=by rw[<-S.pre];exact S.nd.sublist (List.take_sublist _ _)
  refine⟨u,rv,?_⟩;rcases S.par y (RD hp) with k|k
  ·exact .inl ⟨k,NI ndP hp hu k⟩
  ·obtain⟨c,e⟩:=Oo (n:=s.heap.objs.size+1) k;refine .inr ⟨.inl k,c,e,?_⟩;have q:=x.cell y c e;rw[Nm ndP hp hu (by show scope.names.lookup y≠_;rw[k];decide)]at q
   exact q
 ·exact e0.hok.fresh (EN (x.above y c (B2 h)))
 ·unfold start;show _=N.length;rw[Bo,BG,Ry];omega
theorem P9{w:AU}{K:Fg}{mg:Ah->Ap Ai}{base:AG}{f:Aj}{name:Ah}{params:Arguments}{dV kV doc pm cdv ct oc:Ai}{an od:Ap Aj}{osl:Be (Ap Ai)}{N ps:Ac Ah}(lk:K.lookup f=Aa ⟨oc,od,.func (Dl name qual params body scope dV kV doc pm an cdv ct),osl⟩)(hcd:E5 K cdv qual=Ab)(S:FnScope N ps scope)(len:∀ vs H Q E,sp vs H Q E->vs.length=ps.length)(hbody:∀(A:A2)(outer:Ac BJ)(s:Ao)(H:Hp)(vs:Ac V)(Q:VK)(E:XK),Room k (A.deeper (DT qual scope s.heap.objs.size f cdv))->sp vs H Q E ->
   ∃ t,PSs (Fi CX P w K mg base N qual scope f cdv A outer s H E) body t/\t {nx:=fun _ H'=>Q .non H',rt:=Q} (start N vs) H):FnOk P w K mg base CX (k+1) f (Dl name qual params body scope dV kV doc pm an cdv ct) ps sp:=by
 refine⟨len,fun A outer s H args us vs Q E hr e0 hb r hsp=>?_⟩
 have hl:=len _ _ _ _ hsp;have KX:K.In s.heap:=e0.mod.kin.keeps fun b o e=>(e0.bs b o e).1
 have lim:s.heap.NoLimit:=e0.mod.nolimit.keeps fun b o e=>(e0.bs b o e).1
 have hkind:∀ y∈ps.zip us,scope.names.lookup y.1=Aa .local\/(scope.names.lookup y.1=Aa .cell/\((Cv (s.heap.objs.size+1) scope.names []).lookup y.1).isSome=Ab):=fun ⟨n,v⟩ hy=>by
  rcases S.par n (Gb hy).1 with q|q
  ·exact .inl q
  ·exact .inr ⟨q,SL _ _ _ (.inl q)⟩
 refine codeAny_call_function hr.depth (KX _ _ lk) rfl S.co S.gen rfl (PySem.W.codeRec_of KX hcd) (hb _ _ _ _ ?_);refine wpAny_newFunctionEnv_cells S.kind hkind fun env he s1 x=>?_
 subst he;refine⟨lim.keeps x.toInCall.keep,codeAny_func ?_⟩;obtain⟨t,ht,hq⟩:=hbody A outer s H vs Q E (hr.deeper _) hsp;have I:Inv (Fi CX P w K mg base N qual scope f cdv A outer s H E) [] (start N vs) H s1:=T6 S hr.hd e0 hl r x;refine BX (ht [] s1 (start N vs) H _ I hq) (fun fl s' hs=>?_) fun e s' hs=>hs
 have fin:∀{σ':St}{H':Hp}{v:V}{u:Ai},Inv (Fi CX P w K mg base N qual scope f cdv A outer s H E) [] σ' H' s'->Bm v u->Q v H'->CE outer P w H s Q u s':=
  fun {σ' H' v u} J rv q=>⟨v,H',J.os,J.bare,J.base,J.hok,rv,q⟩
 cases fl with
 |ret u=>
  obtain⟨v,σ',H',J,rv,q⟩:=hs;exact fin J rv q
 |next=>
  obtain⟨σ',H',J,q⟩:=hs;exact fin (v:=V.non) (u:=HJ) J rfl q
 |brk=>
  obtain⟨_,_,_,q⟩:=hs;exact C7 q
 |cont=>
  obtain⟨_,_,_,q⟩:=hs;exact C7 q
section
variable{X:Cx}{x:Ah}{p pos:AO}{e:Am}{es:Ac Am}{t:TA}{id T:Dm}{r:Ac V->Hp->VK->Prop}
def tCB(r:Ac V->Hp->VK->Prop)(t:TA):TE:=fun σ H Q=>t σ H fun vs H1=>r vs H1 Q
theorem N5(hc:Go X (.builtin id) r)(hg:Gl X x)(hm:X.mg x=Af)(hv:Cq x=Aa (.builtin id))(ha:PA X (e::es) t)(hn:x≠"__name__" := by decide)(hdb:(x==("__debug__" : Ah))=Ad:=by decide)(he:Ax (e::es) X.env=(Ad,eval e X.env)::Ax es X.env:=by rfl)(hpl:(Cp pos (Ax es X.env)).any (·.1)=Ad:=by rfl):PE X (.Call (.Name x p) (e::es) [] pos) (tCB r t):=by
 intro pI s σ H Q I h;refine Fp (GL I hg hm hv ?_ hn hdb);exact PyProof.Rows.callWith_builtin1 (thn (ha pos pI s σ H _ I h) fun us s1 ⟨vs,H1,I1,r1,q1⟩=>hc pI s1 σ H1 vs us Q I1 r1 q1) he hpl
theorem Nq(hc:Go X (.type T) r)(hg:Gl X x)(hm:X.mg x=Af)(hv:Cq x=Aa (.type T))(ha:PA X (e::es) t)(hn:x≠"__name__" := by decide)(hdb:(x==("__debug__" : Ah))=Ad:=by decide)(he:Ax (e::es) X.env=(Ad,eval e X.env)::Ax es X.env:=by rfl)(hpl:(Cp pos (Ax es X.env)).any (·.1)=Ad:=by rfl):PE X (.Call (.Name x p) (e::es) [] pos) (tCB r t):=by
 intro pI s σ H Q I h;refine Fp (GL I hg hm hv ?_ hn hdb);exact BD (thn (ha pos pI s σ H _ I h) fun us s1 ⟨vs,H1,I1,r1,q1⟩=>hc pI s1 σ H1 vs us Q I1 r1 q1) he hpl
end
end L2
namespace HT
open PySem PyProof.Rows
variable{sl:Aj}
section
open PySem.SeqAt
open PySem.AutoSeq1 (wpAny_loadPart')
open PySem.MeetsSeq PySem.MeetsSeq2 PySem.MeetsSeq3
end
section
variable{prog:AN}{w:AU}{A:A2}{E:Vq}{s:Ao}
theorem cat_tup{t b:Aj}{vs ws:Ac Ai}{Q:Vq}(ht:HC s.heap t vs.toArray)(hb:HC s.heap b ws.toArray)(hv:vs≠[])(h1:ws=[]->Q (.ref t) s)(h2:ws≠[]->Q (.ref s.heap.objs.size) { s with heap:=s.heap.push { cls:=.type "tuple", data:=.seq (vs++ws).toArray } })(hsz:vs.length+ws.length<=sizeLine):AD (model prog w) A (BF .Add (.ref t) (.ref b)) Q E s:=by
 obtain⟨⟨cls,dd,data,sl⟩,ho,hc,n,hd⟩:=id ht;obtain⟨⟨cls2,dd2,data2,sl2⟩,ho2,hc2,n2,hd2⟩:=id hb;simp only at hc hd hc2 hd2;subst hc hd hc2 hd2;have e:vs.toArray++ws.toArray=(vs++ws).toArray:=by simp
 by_cases hw:ws=[]
 ·exact G4 ⟨_,ho,rfl⟩ ⟨_,ho2,rfl⟩ SY seq_tuple_add Sc R8 (R5 _ _)
   (tuple_addW1 t b vs.toArray ws.toArray n n2 dd dd2 sl sl2 (by simpa using hv) (by simp[hw])) ⟨ho,ho2,h1 hw⟩
 ·refine G4 ⟨_,ho,rfl⟩ ⟨_,ho2,rfl⟩ SY seq_tuple_add Sc R8 (R5 _ _)
   (tuple_addW2 t b vs.toArray ws.toArray n n2 dd dd2 sl sl2 (by simpa using hv) (by simpa using hw) (by rw[Au,Au];exact hsz)) ⟨ho,ho2,?_⟩
  rw[e];exact h2 hw
noncomputable def sIx(n d:Ag):Ap Ae->Ag
 |none=>d
 |some v=>if v<0 then (v+(n:Ae)).toNat else min v.toNat n
theorem YD(n d:Ag)(hd:d<=n)(o:Ap Ae):sIx n d o<=n:=by
 cases o with
 |none=>exact hd
 |some v=>
  show (if v<0 then (v+(n:Ae)).toNat else min v.toNat n)<=n
  by_cases hv:v<0
  ·rw[AC hv];omega
  ·rw[AJ hv];exact Nat.min_le_right _ _
theorem Ou(v:Ae)(n d:Ag):(if v<0 then max (v+(n:Ae)) 0 else min v (n:Ae))=((sIx n d (Aa v):Ag):Ae):=by
 show (if v<0 then max (v+(n:Ae)) 0 else min v (n:Ae))=(((if v<0 then (v+(n:Ae)).toNat else min v.toNat n):Ag):Ae)
 by_cases hv:v<0
 ·simp only[AC hv];omega
 ·simp only[AJ hv];omega
theorem Tv(lo hi:Ap Ae)(n:Ag):D8 lo hi 1 (n:Ae)=(((sIx n 0 lo:Ag):Ae),((sIx n n hi:Ag):Ae)):=by
 have h1:¬ ((1:Ae)<0):=by omega
 unfold D8;simp only[h1,Fj];refine Bw ?_ ?_
 ·cases lo with
  |none=>rfl
  |some v=>exact Ou v n 0
 ·cases hi with
  |none=>rfl
  |some v=>exact Ou v n n
theorem TQ(i j:Ag):C9 (i:Ae) (j:Ae) 1=j-i:=by
 unfold C9;have h1:(1:Ae) > 0:=by omega
 simp only[h1,FS,Q6];split<;>omega
theorem Nb{v:Ai}{o:Ap Ae}{Q:Ap Ae->Ao->Prop}(p:FX v o)(h:Q o s):AD (model prog w) A (Builtin.Slice.slicePartIndex v) Q E s:=by
 cases p with
 |none=>exact RT h
 |int i t=>exact slicePart_int h
theorem Td{vl vu:Ai}{lo hi:Ap Ae}{n:Ag}{Q:Ae×Ae×Ag->Ao->Prop}(hs:s.heap.IsSliceOf sl vl vu .none)(pl:FX vl lo)(pu:FX vu hi)(h:Q (((sIx n 0 lo:Ag):Ae),1,sIx n n hi-sIx n 0 lo) s):AD (model prog w) A (RY (.ref sl) (pure (n:Ae))) Q E s:=by
 obtain⟨os,hos,hcs,hds⟩:=id hs;unfold RY Builtin.Slice.sliceFields;refine Al (Al (BU hos hds (x:=vl) rfl (Al (BU hos hds (x:=vu) rfl (Al (BU hos hds (x:=.none) rfl (AE ?_)))))));refine Al (RT ?_);show AD _ _ (if ((1:Ae)==0)=Ab then _ else _) _ _ s
 rw[AJ (by decide)]
 refine Al (Nb pl (Al (Nb pu (Al (AE ?_)))));show AD _ _ (match D8 lo hi 1 (n:Ae) with|(lo,hi)=>pure (lo,(1:Ae),C9 lo hi 1)) _ _ s
 rw[Tv lo hi n];show AD _ _ (pure (((sIx n 0 lo:Ag):Ae),(1:Ae),C9 ((sIx n 0 lo:Ag):Ae) ((sIx n n hi:Ag):Ae) 1)) _ _ s;rw[TQ];exact AE h
theorem UM(xs:Be Ai)(i k:Ag):((BB k).filterMap fun(m:Ag)=>xs[((i:Ae)+(m:Ae)*1).toNat]?).toArray=((xs.toList.drop i).take k).toArray:=by
 have e:(fun(m:Ag)=>xs[((i:Ae)+(m:Ae)*1).toNat]?)=fun m=>xs[i+m]?:=by
  funext m
  have:((i:Ae)+(m:Ae)*1).toNat=i+m:=by omega
  rw[this]
 rw[e];have:=pick_run xs i k;rw[Rl]at this;have e2:((fun x=>xs[x]?) ∘ fun x=>i+x)=fun m=>xs[i+m]?:=rfl
 rw[e2]at this;rw[this]
theorem getItem_tuple_cut{t:Aj}{items:Be Ai}{vl vu:Ai}{lo hi:Ap Ae}{Q:Vq}(ht:HC s.heap t items)(hs:s.heap.IsSliceOf sl vl vu .none)(pl:FX vl lo)(pu:FX vu hi)(hw:¬ (sIx items.size 0 lo=0/\sIx items.size items.size hi=items.size))(h:Q (.ref s.heap.objs.size) { s with heap:=s.heap.push { cls:=.type "tuple", data:=.seq ((items.toList.drop (sIx items.size 0 lo)).take (sIx items.size items.size hi-sIx items.size 0 lo)).toArray } })(hsz:items.size<=sizeLine):AD (model prog w) A (Hh (.ref t) (.ref sl)) Q E s:=by
 have htake:sizeOk (.seq ((items.toList.drop (sIx items.size 0 lo)).take (sIx items.size items.size hi-sIx items.size 0 lo)).toArray):=by
  show ((items.toList.drop (sIx items.size 0 lo)).take (sIx items.size items.size hi-sIx items.size 0 lo)).toArray.size<=sizeLine;rw[Au,FV,Rx,DV];omega
 have hj:sIx items.size items.size hi<=items.size:=YD _ _ (AK _) hi;obtain⟨os,hos,hcs,hds⟩:=id hs;have hTs:s.TypeIs (.ref sl) "slice" := ⟨os,hos,hcs⟩;unfold Hh
 try with_reducible refine CG ?_
 first|refine Al (AE ?_)|skip
 refine Al (wpAny_sequenceKey ht.typeIs (by decide) ?_)
 refine Al (CH (name:=DI "__getitem__") ht.typeIs RU
  (DK RU ht.typeIs entry_tuple_getitem ?_ (args_tuple_getitem _ _)))
 show AD _ _ (Builtin.Tuple.tupleItemsOf (.ref t) >>= _) _ _ s;refine Al (tupleItemsOf_ ht ?_);refine Al (wpAny_typeOf hTs ?_);rw[AC (by decide)]
 refine Al (Td hs pl pu ?_);have hno:¬ ((((sIx items.size 0 lo:Ag):Ae)==0&&(1:Ae)==1&&(sIx items.size items.size hi-sIx items.size 0 lo)==items.size)=Ab):=by
  intro q;rw[Ak,Ak]at q;have q1:((sIx items.size 0 lo:Ag):Ae)=0:=eq_of_beq q.1.1;have q2:sIx items.size items.size hi-sIx items.size 0 lo=items.size:=eq_of_beq q.2;exact hw ⟨by omega,by omega⟩
 show AD _ _ (if (((sIx items.size 0 lo:Ag):Ae)==0&&(1:Ae)==1&&(sIx items.size items.size hi-sIx items.size 0 lo)==items.size)=Ab then _ else _) _ _ s
 rw[AJ hno,UM]
 first
  |exact Al (m:=Di _) (CF (AE ⟨_,rfl,AE h⟩) htake)
  |exact Al (m:=Di _) (CF (Al (AE (AE ⟨_,rfl,AE h⟩))) htake)
  |exact Al (Al (m:=Di _) (CF (AE (AE ⟨_,rfl,AE h⟩)) htake))
  |exact Al (Al (m:=Di _) (CF (AE ⟨_,rfl,AE h⟩) htake))
end
end HT
namespace L2
open PySem PySem.Spec PyProof.Rows
variable{xs:Ac V}{us its its':Ac Ai}{n t':Ag}{i:Ae}{pI:Pn}{σ:St}{H:Hp}{s:Ao}{p:Aj}
abbrev TO:=St->Hp->(Ap Ae->Hp->Prop)->Prop
noncomputable def PO(X:Cx)(e:Ap Am)(t:TO):Prop:=
 ∀(pI:Pn)(s:Ao)(σ:St)(H:Hp)(Q:Ap Ae->Hp->Prop),Inv X pI σ H s->t σ H Q ->
  AD (model X.prog X.w) X.A (evalPart e X.env) (fun u s'=>∃ o H',Inv X pI σ H' s'/\FX u o/\Q o H') X.xe s
def V5:TO:=fun _ H Q=>Q Af H
def ZR(t:TE):TO:=fun σ H Q=>t σ H fun x H1=>∃ i,x=.int i/\Q (Aa i) H1
section
variable{X:Cx}{e:Am}{te:TE}{lo hi:Ap Am}{tl th:TO}{pos p2:AO}
theorem V1:PO X Af V5:=by
 intro pI s σ H Q I h;rw[GX];exact AE ⟨Af,H,I,.none,h⟩
theorem OM(h:PE X e te):PO X (Aa e) (ZR te):=by
 intro pI s σ H Q I hw;rw[evalPart_some];refine thn (h pI s σ H _ I hw) fun u s1 ⟨x,H1,I1,r1,q1⟩=>?_
 obtain⟨i,rfl,q⟩:=q1;obtain⟨t,rfl⟩:=r1;exact⟨Aa i,H1,I1,.int i t,q⟩
noncomputable def SlR(X:Cx)(r:V->Ap Ae->Ap Ae->Hp->VK->Prop):Prop:=
 ∀(pI:Pn)(s:Ao)(σ:St)(H:Hp)(x:V)(v vl vu:Ai)(lo hi:Ap Ae)(sl:Aj)(Q:VK),Inv X pI σ H s->Bm x v->s.heap.IsSliceOf sl vl vu .none->FX vl lo->FX vu hi->r x lo hi H Q ->
  ∃ T id,typeLookup (.type T) "__getitem__" = pure (Aa (.builtin id))/\s.TypeIs v T/\AD (model X.prog X.w) X.A (Hh v (.ref sl)) (EP X pI σ Q) X.xe s
def tSl(r:V->Ap Ae->Ap Ae->Hp->VK->Prop)(te:TE)(tl th:TO):TE:=fun σ H Q=>te σ H fun x H1=>tl σ H1 fun l H2=>th σ H2 fun u H3=>r x l u H3 Q
theorem UN{r:V->Ap Ae->Ap Ae->Hp->VK->Prop}(hr:SlR X r)(he:PE X e te)(hl:PO X lo tl)(hu:PO X hi th):PE X (.Subscript e (.Slice lo hi Af p2) pos) (tSl r te tl th):=by
 intro pI s σ H Q I h;refine HE (thn (he pI s σ H _ I h) fun v s1 ⟨x,H1,I1,r1,q1⟩=>?_)
 refine wpAny_Slice (thn (hl pI s1 σ H1 _ I1 q1) fun vl s2 ⟨l,H2,I2,pl,q2⟩=>thn (hu pI s2 σ H2 _ I2 q2) fun vu s3 ⟨u,H3,I3,pu,q3⟩=>?_)
 rw[GX];refine AE ?_;have I4:Inv X pI σ H3 { s3 with heap:=s3.heap.push { cls:=.type "slice", data:=.fields #[vl,vu,.none] } }:=I3.kept (t':=s3.toks) fun b ob q=>Ar _ q
 obtain⟨T,id,hT,ht,hg⟩:=hr pI { s3 with heap:=s3.heap.push { cls:=.type "slice", data:=.fields #[vl,vu,.none] } } σ H3 x v vl vu l u s3.heap.objs.size Q I4 r1 (Sf ..) pl pu q3
 show AD (model X.prog X.w) X.A (GV e (.Slice lo hi Af p2) v (.ref s3.heap.objs.size)) (EP X pI σ Q) X.xe { s3 with heap:=s3.heap.push { cls:=.type "slice", data:=.fields #[vl,vu,.none] } }
 exact tail_any (ops:=[.ref s3.heap.objs.size,v]) ht hT hg (by with_unfolding_all rfl)
noncomputable def Hf(xs:Ac V)(lo hi:Ap Ae):Ac V:=(xs.drop (HT.sIx xs.length 0 lo)).take (HT.sIx xs.length xs.length hi-HT.sIx xs.length 0 lo)
theorem Nk(xs:Ac V)(lo hi:Ap Ae):(Hf xs lo hi).length<=xs.length:=by
 unfold Hf;rw[FV,Rx];omega
def QK(K:Fg):V->Ap Ae->Ap Ae->Hp->VK->Prop:=fun x lo hi H Q=>∃ a xs,x=.ref a/\SqT K H a xs /\
 ¬ (HT.sIx xs.length 0 lo=0/\HT.sIx xs.length xs.length hi=xs.length)/\∀ p,H p=Af->Q (.ref p) (upd H p (.tup (Hf xs lo hi)))
theorem Xk:SlR X (QK X.K):=by
 intro pI s σ H x v vl vu lo hi sl Q I rx hs pl pu h;obtain⟨a,xs,rfl,hx,hw,q⟩:=h;cases rx;obtain⟨its,r,ht,hz⟩:=I.tuple hx;have hlen:its.toArray.size=xs.length:=by rw[Au];exact r.length.symm
 refine⟨"tuple", _,PyProof.Rows.slot_tuple_getitem.lookup,ht.typeIs,?_⟩;refine HT.getItem_tuple_cut ht hs pl pu (by rw[hlen];exact hw) ?_ (by rw[hlen];exact hz)
 rw[hlen];refine⟨.ref s.heap.objs.size,_,I.laid (t':=s.toks) (o:=.tup (Hf xs lo hi)) (fun b ob q=>Ar _ q) (AK _) ?_,rfl,q _ (I.hok.fresh (AK _))⟩
 exact⟨Cb (Nk xs lo hi) hz,_,(r.drop (HT.sIx xs.length 0 lo)).take (HT.sIx xs.length xs.length hi-HT.sIx xs.length 0 lo),IG _ _⟩
def aC(K:Fg):R2:=fun x y H Q=>∃ a b xs ys,x=.ref a/\y=.ref b/\SqT K H a xs/\SqT K H b ys/\xs≠[]/\xs.length+ys.length<=sizeLine /\
 (ys=[]->Q (.ref a) H)/\(ys≠[]->∀ p,H p=Af->Q (.ref p) (upd H p (.tup (xs++ys))))
theorem AW.nil_iff(r:AW xs us):us=[]↔xs=[]:=by
 cases r with
 |nil=>simp
 |cons _ _=>simp
theorem WU:OpR X (BF .Add) (aC X.K):=by
 intro pI s σ H x y v u Q I rx ry h;obtain⟨a,b,xs,ys,rfl,rfl,ha,hb,hx,hz,q1,q2⟩:=h;cases rx;cases ry;obtain⟨its,r1,p1,_⟩:=I.tuple ha;obtain⟨its2,r2,p2,_⟩:=I.tuple hb;refine HT.cat_tup p1 p2 (fun z=>hx (r1.nil_iff.mp z)) (fun z=>⟨.ref a,H,I,rfl,q1 (r2.nil_iff.mp z)⟩) (fun z=>?_) (by rw[<-r1.length,<-r2.length];exact hz)
 refine⟨.ref s.heap.objs.size,_,I.laid (t':=s.toks) (o:=.tup (xs++ys)) (fun b ob q=>Ar _ q) (AK _) ?_,rfl,q2 (fun w=>z (r2.nil_iff.mpr w)) _ (I.hok.fresh (AK _))⟩
 exact⟨by rw[Bo];exact hz,_,r1.append r2,IG _ _⟩
end
noncomputable def ixN(n:Ag)(i:Ae):Ap Ag:=if 0<=i then (if i<n then Aa i.toNat else Af) else if -(n:Ae)<=i then Aa (i+n).toNat else Af
noncomputable def atI{α:Type}(xs:Ac α)(i:Ae):Ap α:=(ixN xs.length i).bind fun j=>xs[j]?
theorem OT{j:Ag}(h:ixN n i=Aa j):Fo i n=Aa j/\j<n/\-(n:Ae)<=i/\i<n:=by
 unfold ixN at h;by_cases h0:0<=i
 ·rw[AC h0]at h;by_cases h1:i<n
  ·rw[AC h1]at h;have e:i.toNat=j:=Bk h;exact⟨by rw[Hm h0 h1,e],by omega,by omega,h1⟩
  ·rw[AJ h1]at h;cases h
 ·rw[AJ h0]at h;by_cases h1:-(n:Ae)<=i
  ·rw[AC h1]at h;have e:(i+n).toNat=j:=Bk h;exact⟨by rw[G7 (by omega) h1,e],by omega,h1,by omega⟩
  ·rw[AJ h1]at h;cases h
theorem OW{α:Type}{xs:Ac α}{v:α}(h:atI xs i=Aa v):∃ j,Fo i xs.length=Aa j/\xs[j]?=Aa v/\j<xs.length/\-(xs.length:Ae)<=i/\i<xs.length:=by
 unfold atI at h;cases e:ixN xs.length i with
 |none=>rw[e]at h;cases h
 |some j=>
  rw[e]at h;obtain⟨h1,h2,h3,h4⟩:=OT e;exact⟨j,h1,h,h2,h3,h4⟩
def LU(b:Am):Prop:=∀ o i,subscripted b Ad o i=operate [o,i] (Hh o i)
noncomputable def IxR(X:Cx)(r:R2):Prop:=
 ∀(value slice:Am)(pI:Pn)(s:Ao)(σ:St)(H:Hp)(x y:V)(v u:Ai)(Q:VK),Inv X pI σ H s->Bm x v->Bm y u->r x y H Q ->
  subscripted slice Ad v u=operate [v,u] (Hh v u)->AD (model X.prog X.w) X.A (GV value slice v u) (EP X pI σ Q) X.xe s
noncomputable def MtR(X:Cx)(id:Dm)(r:V->Ac V->Hp->VK->Prop):Prop:=
 ∀(pI:Pn)(s:Ao)(σ:St)(H:Hp)(x:V)(xs:Ac V)(v:Ai)(us:Ac Ai)(Q:VK),Inv X pI σ H s->Bm x v->AW xs us->r x xs H Q ->
  AD (model X.prog X.w) X.A (call (.builtin id) (v::us)) (EP X pI σ Q) X.xe s
section
variable{X:Cx}{a b:Am}{ta tb:TE}{pos:AO}
theorem IxR.or{r r':R2}(h:IxR X r)(h':IxR X r'):IxR X (fun x y H Q=>r x y H Q\/r' x y H Q):=by
 intro value slice pI s σ H x y v u Q I rx ry q hs;rcases q with q|q
 ·exact h value slice pI s σ H x y v u Q I rx ry q hs
 ·exact h' value slice pI s σ H x y v u Q I rx ry q hs
theorem cZ{r:R2}(hr:IxR X r)(ha:PE X a ta)(hb:PE X b tb)(hs:LU b):PE X (.Subscript a b pos) (tOp r ta tb):=by
 intro pI s σ H Q I h;exact HE (ML ha hb I h fun v u s2 x y H2 I2 rx ry q=>hr a b pI s2 σ H2 x y v u Q I2 rx ry q (hs _ _))
def Qx(K:Fg):R2:=fun x y H Q=>∃ p xs i v,x=.ref p/\y=.int i/\SqL K H p xs/\atI xs i=Aa v/\Q v H
def Qw(K:Fg):R2:=fun x y H Q=>∃ p xs i v,x=.ref p/\y=.int i/\SqT K H p xs/\atI xs i=Aa v/\Q v H
theorem W6:IxR X (Qx X.K):=by
 intro value slice pI s σ H x y v u Q I rx ry h hs;obtain⟨p,xs,i,z,rfl,rfl,hq,he,q⟩:=h;cases rx;obtain⟨t,rfl⟩:=ry;obtain⟨its,r,pl,hz⟩:=I.list hq;obtain⟨j,h1,h2,h3,h4,h5⟩:=OW he;obtain⟨w,ew,rw'⟩:=r.get h2;have hl:=r.length;have hn:=Ik;have fin:EP X pI σ Q w s:=⟨z,H,I,rw',q⟩;by_cases h0:0<=i
 ·have hj:i.toNat=j:=by
   rw[Hm h0 h5]at h1;exact Bk h1
  exact item_listR pl.isList h0 (by omega) (by rw[hj];simpa using ew) fin hs
 ·have hj:(i+(its.toArray.size:Ae)).toNat=j:=by
   rw[G7 (by omega) h4]at h1
   rw[Au,<-hl];exact Bk h1
  exact RW (x:=w) pl.isList.typeIs FJ.lookup
   (wpAny_getItem_list_neg (Q:=fun r s'=>r=w/\EP X pI σ Q r s') pl.isList (by omega) (by rw[Au]<;>omega) (by omega) (by rw[hj];simpa using ew) ⟨rfl,fin⟩) hs
theorem YS:IxR X (Qw X.K):=by
 intro value slice pI s σ H x y v u Q I rx ry h hs;obtain⟨p,xs,i,z,rfl,rfl,hq,he,q⟩:=h;cases rx;obtain⟨t,rfl⟩:=ry;obtain⟨its,r,pl,hz⟩:=I.tuple hq;obtain⟨j,h1,h2,h3,h4,h5⟩:=OW he;obtain⟨w,ew,rw'⟩:=r.get h2;have hl:=r.length;have hn:=Ik;have fin:EP X pI σ Q w s:=⟨z,H,I,rw',q⟩;exact RW (x:=w) pl.typeIs slot_tuple_getitem.lookup
  (getItem_tuple (j:=j) (Q:=fun r s'=>r=w/\EP X pI σ Q r s') pl (by omega) (by omega) (by rw[Au,<-hl];exact h1) (by simpa using ew) ⟨rfl,fin⟩) hs
theorem TU(its:Ac Ai)(n j:Ag)(u:Ai):FK (·.setIfInBounds j u) { cls:=.type "list", data:=.seq its.toArray n }={ cls:=.type "list", data:=.seq (its.set j u).toArray n }:=by
 simp[FK]
theorem Inv.lst(I:Inv X pI σ H s)(h:H p=Aa (.lst xs)):
  ∃(its:Ac Ai)(n:Ag),AW xs its/\s.heap.get? p=Aa { cls:=.type "list", data:=.seq its.toArray n }/\xs.length<=sizeLine:=by
 obtain⟨z,its,n,r,e⟩:=I.hok p _ h;exact⟨its,n,r,e,z⟩
theorem Inv.lstUpd{ys:Ac V}{n':Ag}{f:Dk->Dk}(I:Inv X pI σ H s)(h:H p=Aa (.lst xs))(ho:s.heap.get? p=Aa { cls:=.type "list", data:=.seq its.toArray n })(hf:f { cls:=.type "list", data:=.seq its.toArray n }={ cls:=.type "list", data:=.seq its'.toArray n' })(r:AW ys its')(hz:ys.length<=sizeLine)(t:Ag):Inv X pI σ (upd H p (.lst ys)) {s with heap:=s.heap.update p f,toks:=t}:=by
 have e:(s.heap.update p f).get? p=Aa { cls:=.type "list", data:=.seq its'.toArray n' }:=by
  rw[So f ho (by rw[hf]<;>rfl),hf]
 refine I.write (x:=p) (e:=p) (by rw[h];trivial) (.inl rfl) (fun b u hb q=>(Sn _ _ (E3 hb)).trans q) ⟨_,e⟩ ?_
 exact⟨hz,its',n',r,e⟩
def bN:V->V->V->Hp->(Hp->Prop)->Prop:=fun o i v H Q=>∃ p xs k j,o=.ref p/\i=.int k/\H p=Aa (.lst xs)/\ixN xs.length k=Aa j/\Q (upd H p (.lst (xs.set j v)))
theorem Ln:QW X bN:=by
 intro pI s σ H o i v ov iv u Q I ro ri rv h;obtain⟨p,xs,k,j,rfl,rfl,hp,hj,q⟩:=h;cases ro;obtain⟨t,rfl⟩:=ri;obtain⟨its,n,r,ho,hz⟩:=I.lst hp;obtain⟨h1,h2,h3,h4⟩:=OT hj;have hl:=r.length;have hn:=Ik;have I':Inv X pI σ (upd H p (.lst (xs.set j v))) {s with heap:=s.heap.update p (FK (·.setIfInBounds j u))}:=
  I.lstUpd hp ho (TU its n j u) (r.set rv j) (by rw[A3];exact hz) s.toks
 by_cases h0:0<=k
 ·have hk:k.toNat=j:=by
   rw[Hm h0 h4]at h1;exact Bk h1
  exact PySem.W.ki_setAt ho h0 (by omega) (by rw[Au,<-hl];exact h4) (by rw[hk];exact⟨_,I',q⟩)
 ·have hk:(k+(its.toArray.size:Ae)).toNat=j:=by
   rw[G7 (by omega) h3]at h1
   rw[Au,<-hl];exact Bk h1
  exact PySem.W.ki_setBack ho (by omega) (by rw[Au,<-hl];exact h3) (by omega) (by rw[hk];exact⟨_,I',q⟩)
theorem Ti(lo hi:Ap Ae)(n:Ag):(Ch lo hi Af n).1=((HT.sIx n 0 lo:Ag):Ae)/\(Ch lo hi Af n).2.1=((HT.sIx n n hi:Ag):Ae)/\(Ch lo hi Af n).2.2=1:=by
 refine⟨?_,?_,rfl⟩
 ·cases lo with
  |none=>simp[Ch,HT.sIx]
  |some i=>
   simp only[Ch,HT.sIx,RO,show (1:Ae) > 0 by decide,FS]
   by_cases h:i<0
   ·simp only[h,FS]<;>omega
   ·simp only[h,Fj]<;>omega
 ·cases hi with
  |none=>simp[Ch,HT.sIx]
  |some i=>
   simp only[Ch,HT.sIx,RO,show (1:Ae) > 0 by decide,FS]
   by_cases h:i<0
   ·simp only[h,FS]<;>omega
   ·simp only[h,Fj]<;>omega
theorem Tl(its:Ac Ai)(lo hi:Ap Ae):G8 its.toArray lo hi Af=((its.drop (HT.sIx its.length 0 lo)).take (HT.sIx its.length its.length hi-HT.sIx its.length 0 lo)).toArray:=by
 obtain⟨h1,h2,h3⟩:=Ti lo hi its.toArray.size;unfold G8;rw[h1,h2,h3];simp only[sliceRange_one,pick_run,Au]<;>rfl
def QL(K:Fg):V->Ap Ae->Ap Ae->Hp->VK->Prop:=fun x lo hi H Q=>∃ a xs,x=.ref a/\SqL K H a xs/\∀ p,H p=Af->Q (.ref p) (upd H p (.lst (Hf xs lo hi)))
theorem Wl:SlR X (QL X.K):=by
 intro pI s σ H x v vl vu lo hi sl Q I rx hs pl pu h;obtain⟨a,xs,rfl,hx,q⟩:=h;cases rx;obtain⟨its,r,ht,hz⟩:=I.list hx;have hlen:=r.length;refine⟨"list", _,FJ.lookup,ht.isList.typeIs,?_⟩;refine S5 ht.isList hs pl pu .none (by simp) ?_ (by rw[Au]<;>omega)
 rw[Tl,<-hlen];refine⟨.ref s.heap.objs.size,_,I.laid (t':=s.toks) (o:=.lst (Hf xs lo hi)) (fun b ob q=>Ar _ q) (AK _) ?_,rfl,q _ (I.hok.fresh (AK _))⟩
 exact⟨Cb (Nk xs lo hi) hz,_,0,(r.drop (HT.sIx xs.length 0 lo)).take (HT.sIx xs.length xs.length hi-HT.sIx xs.length 0 lo),AB _ rfl⟩
theorem MW:Go X (.builtin "len") (fun xs H Q=>∃ p ys,xs=[.ref p]/\(SqL X.K H p ys\/SqT X.K H p ys)/\Q (.int ys.length) H):=by
 intro pI s σ H xs us Q I r h;obtain⟨p,ys,rfl,hq,q⟩:=h;obtain⟨u,rfl,rx⟩:=Gm r;cases rx;have hn:=Ik;rcases hq with hq|hq
 ·obtain⟨its,r',pl,hz⟩:=I.list hq;have hlen:=r'.length;exact Calls.call_len_list pl.isList (by simp only[Au]<;>omega) ⟨.int ys.length,H,I.tok _,⟨s.toks+1,by rw[Au,hlen]⟩,q⟩
 ·obtain⟨its,r',pl,hz⟩:=I.tuple hq;have hlen:=r'.length;exact len_tuple pl (by simp only[Au]<;>omega) ⟨.int ys.length,H,I.tok _,⟨s.toks+1,by rw[Au,hlen]⟩,q⟩
theorem Tk:Go X (.builtin "len") (fun xs H Q=>∃ z,xs=[.str z]/\z.length<=sizeLine/\Q (.int z.length) H):=by
 intro pI s σ H xs us Q I r h;obtain⟨z,rfl,hz,q⟩:=h;obtain⟨u,rfl,t,rfl⟩:=Gm r;have hn:=Ik;exact len_str (by omega) ⟨.int z.length,H,I.tok _,⟨_,rfl⟩,q⟩
theorem MV:Go X (.type "list") (fun xs H Q=>∃ p ys,xs=[.ref p]/\(SqL X.K H p ys\/SqT X.K H p ys)/\∀ l,H l=Af->Q (.ref l) (upd H l (.lst ys))):=by
 intro pI s σ H xs us Q I r h;obtain⟨p,ys,rfl,hq,q⟩:=h;obtain⟨u,rfl,rx⟩:=Gm r;cases rx;have fin:∀(its:Ac Ai),AW ys its->ys.length<=sizeLine->∀(h':AG)(c':Ag),(∀ b o',s.heap.get? b=Aa o'->h'.get? b=Aa o') ->
   h'.get? s.heap.objs.size=Aa { cls:=.type "list", dict:=Af,data:=.seq its.toArray c',slots:=#[] }->EP X pI σ Q (.ref s.heap.objs.size) {s with heap:=h'}:=fun its r' hz h' c' kp e=>
  ⟨.ref s.heap.objs.size,_,I.laid (t':=s.toks) kp (AK _) (show ObjOk X.prog X.w _ h' _ (.lst ys) from ⟨hz,its,c',r',e⟩),rfl,q _ (I.hok.fresh (AK _))⟩
 rcases hq with hq|hq
 ·obtain⟨its,r',pl,hz⟩:=I.list hq;have hlen:=r'.length;obtain⟨o,ho,hc,n,hd⟩:=pl.isList;exact call_list_seq p (.inl rfl) ho hc hd (fun h' c' kp e=>fin its r' hz h' c' kp e) (by simp only[Au]<;>omega)
 ·obtain⟨its,r',pl,hz⟩:=I.tuple hq;have hlen:=r'.length;obtain⟨o,ho,hc,n,hd⟩:=pl;exact call_list_seq p (.inr rfl) ho hc hd (fun h' c' kp e=>fin its r' hz h' c' kp e) (by simp only[Au]<;>omega)
theorem M0:Go X (.type "tuple") (fun xs H Q=>∃ p ys,xs=[.ref p]/\((SqL X.K H p ys/\∀ l,H l=Af->Q (.ref l) (upd H l (.tup ys)))\/(SqT X.K H p ys/\Q (.ref p) H))):=by
 intro pI s σ H xs us Q I r h;obtain⟨p,ys,rfl,h⟩:=h;obtain⟨u,rfl,rx⟩:=Gm r;cases rx;rcases h with ⟨hq,q⟩|⟨hq,q⟩
 ·obtain⟨its,r',pl,hz⟩:=I.list hq;have hlen:=r'.length;refine call_tuple_list pl.isList (fun h' kp=>?_) (by simp only[Au]<;>omega)
  have I1:Inv X pI σ H {s with heap:=h'}:=I.kept (t':=s.toks) kp
  have I2:Inv X pI σ (upd H h'.objs.size (.tup ys)) { s with heap:=h'.push { cls:=.type "tuple", data:=.seq its.toArray } }:=
   I1.laid (t':=s.toks) (fun b o e=>Ar _ e) (AK _) (show ObjOk X.prog X.w _ _ _ (.tup ys) from ⟨hz,its,r',IG _ _⟩)
  exact⟨.ref h'.objs.size,_,I2,rfl,q _ (I1.hok.fresh (AK _))⟩
 ·obtain⟨its,r',pl,hz⟩:=I.tuple hq;exact call_tuple_same pl ⟨.ref p,H,I,rfl,q⟩
def tyV(K:Fg)(T:Dm)(x:V)(H:Hp):Prop:=match x with
  |.str _=>T = "str"
  |.int _=>T = "int"
  |.ref p=>(T = "list"/\∃ xs,SqL K H p xs)\/(T = "tuple"/\∃ o,K.lookup p=Aa o/\o.cls=.type "tuple"/\o.dict=Af) \/
      (T = "dict"/\((∃ kvs,H p=Aa (.dK kvs))\/∃ kvs,H p=Aa (.dT kvs)))\/(T = "set"/\∃ S n,H p=Aa (.set S n))
  |_=>A5
theorem Xo{T:Dm}{x:V}{v:Ai}(I:Inv X pI σ H s)(r:Bm x v)(ty:tyV X.K T x H):s.TypeIs v T/\∀ a,v=.ref a->∃ ob,s.heap.get? a=Aa ob/\ob.dict=Af:=by
 cases x with
 |str z=>
  obtain⟨t,rfl⟩:=r;cases (show T = "str" from ty)
  exact⟨typeIs_str s z t,fun _ e=>nomatch e⟩
 |int i=>
  obtain⟨t,rfl⟩:=r;cases (show T = "int" from ty)
  exact⟨typeIs_int s i t,fun _ e=>nomatch e⟩
 |ref p=>
  cases r;rcases ty with ⟨rfl,xs,hq⟩|⟨rfl,o,hk,hc,hd⟩|⟨rfl,hk⟩|⟨rfl,S,n,hk⟩
  ·obtain⟨its,_,pl,_⟩:=I.list hq;refine⟨pl.isList.typeIs,fun a e=>?_⟩
   cases e;obtain⟨o,n,e,c,hd,_⟩:=pl;exact⟨o,e,hd⟩
  ·refine⟨⟨o,I.kIn p o hk,hc⟩,fun a e=>?_⟩
   cases e;exact⟨o,I.kIn _ o hk,hd⟩
  ·have z:∃ o,s.heap.get? p=Aa o/\o.ExactDict:=by
    rcases hk with ⟨kvs,hk⟩|⟨kvs,hk⟩
    ·obtain⟨_,_,_,_,o,_,_,e,ex,_⟩:=I.hok p _ hk;exact⟨o,e,ex⟩
    ·obtain⟨_,_,_,_,o,_,_,e,ex,_⟩:=I.hok p _ hk;exact⟨o,e,ex⟩
   obtain⟨o,e,ex⟩:=z;refine⟨⟨o,e,ex.1⟩,fun a e2=>?_⟩
   cases e2;exact⟨o,e,ex.2.1⟩
  ·obtain⟨o,_,_,_,e,ex,_⟩:=I.hok p _ hk;refine⟨⟨o,e,ex.1⟩,fun a e2=>?_⟩
   cases e2;exact⟨o,e,ex.2.1⟩
 |_=>exact C7 ty
def tBM(K:Fg)(T:Dm)(r:V->Ac V->Hp->VK->Prop)(to:TE)(t:TA):TE:=fun σ H Q=>to σ H fun x H1=>tyV K T x H1/\t σ H1 fun xs H2=>r x xs H2 Q
variable{o e:Am}{es:Ac Am}{to:TE}{t:TA}{name:Ah}{apos cpos:AO}{T id:Dm}{r:V->Ac V->Hp->VK->Prop}
theorem Mk(pa:PlainAttrs T)(slot:Slot T name id)(hty:typeOf (.builtin id)=pure (.type "method_descriptor"))(hm:MtR X id r)(ho:PE X o to)(ha:PA X (e::es) t)(hbase:Fu o name X.env (eval o X.env)=eval o X.env:=by rfl)(hfew:((Cp cpos (Ax (e::es) X.env)).all (fun x=>!x.1)&&(backToKw cpos (keywordEach [] X.env)).all (fun x=>x.1.isSome)
   && decide ((e::es).length+([]:Ac FN).length+(if ([]:Ac FN).isEmpty then 0 else 1)<30))=Ab:=by rfl)(hline:(apos.endLine==cpos.line)=Ab:=by rfl)(hs:Ax (e::es) X.env=(Ad,eval e X.env)::Ax es X.env:=by rfl)(hplain:(Cp cpos (Ax es X.env)).any (·.1)=Ad:=by rfl):PE X (.Call (.Attribute o name apos) (e::es) [] cpos) (tBM X.K T r to t):=by
 intro pI s σ H Q I h;refine wpAny_Call_method_late hbase hfew hline rfl (thn (ho pI s σ H _ I h) fun v s1 ⟨x,H1,I1,r1,ty,q1⟩=>?_)
 obtain⟨h1,h2⟩:=Xo I1 r1 ty;refine⟨T,id,pa,slot,hty,h1,h2,?_⟩;have hA:=ha cpos pI s1 σ H1 _ I1 q1;rw[hs]at hA ⊢;refine Calls.callWith_builtin (by show (Ad||(Cp cpos (Ax es X.env)).any (·.1))=Ad;rw[hplain]<;>rfl) (Calls.evalArgs_plain ?_)
 exact thn hA fun us s2 ⟨vs,H2,I2,r2,q2⟩=>hm pI s2 σ H2 x vs v us Q I2 r1 r2 q2
/- xs.append(e),list.index on a module's tuple .. are MtR facts of 06m -/
end
noncomputable def MtM(X:Cx)(id:Dm)(r:V->Ac V->Hp->VK->Prop):Prop:=
 ∀(pI:Pn)(s:Ao)(σ:St)(H:Hp)(x:V)(xs:Ac V)(v:Ai)(us:Ac Ai)(Q:VK),Inv X pI σ H s->Bm x v->AW xs us->r x xs H Q ->
  AD (model X.prog X.w) X.A (call (.builtin id) (v::us)) (EP X pI σ Q) X.xe s
theorem AW.one:∀{x:V}{us:Ac Ai},AW [x] us->∃ u,us=[u]/\Bm x u
 |_,_,.cons r .nil=>⟨_,rfl,r⟩
theorem AW.zero:∀{us:Ac Ai},AW [] us->us=[]
 |_,.nil=>rfl
theorem AW.eraseIdx:∀{xs:Ac V}{us:Ac Ai}(i:Ag),AW xs us->AW (xs.eraseIdx i) (us.eraseIdx i)
 |_,_,_,.nil=>.nil
 |_,_,0,.cons _ t=>t
 |_,_,i+1,.cons r t=>.cons r (AW.eraseIdx i t)
theorem AW.reverse(h:AW xs us):AW xs.reverse us.reverse:=by
 induction h with
 |nil=>exact .nil
 |cons r t ih=>rw[Ej,Ej];exact AW.append ih (.cons r .nil)
theorem Nv{α:Type}:∀(l:Ac α)(i:Ag),(l.eraseIdx i).length<=l.length
 |[],_=>AK _
 |_::_,0=>Ge _
 |_::r,i+1=>Nat.succ_le_succ (Nv r i)
section
variable{X:Cx}{pI:Pn}{σ:St}{H:Hp}{s:Ao}{l b:Aj}{xs ys zs:Ac V}
theorem Inv.lset{f:Be Ai->Be Ai}(I:Inv X pI σ H s)(hH:H l=Aa (.lst xs))(e:s.heap.get? l=Aa { cls:=.type "list", data:=.seq its.toArray n })(hf:f its.toArray=its'.toArray)(hv:AW ys its')(hz:ys.length<=sizeLine):Inv X pI σ (upd H l (.lst ys)) {s with heap:=s.heap.update l (FK f),toks:=t'}:=by
 have q:=PySem.IsL.update e f;rw[hf]at q;refine I.write (x:=l) (e:=l) (by rw[hH];exact trivial) (.inl rfl) (fun b' u hb hu=>(Sn s.heap (FK f) (E3 hb)).trans hu) ⟨_,q⟩ ?_
 exact⟨hz,its',_,hv,q⟩
theorem Inv.lnew(I:Inv X pI σ H s)(hv:AW ys its)(hz:ys.length<=sizeLine):
  Inv X pI σ (upd H s.heap.objs.size (.lst ys)) { s with heap:=s.heap.push { cls:=.type "list", data:=.seq its.toArray },toks:=t' }:=
 I.laid (fun _ _ q=>Ar _ q) (AK _) ⟨hz,its,0,hv,AB _ rfl⟩
theorem Inv.fresh(I:Inv X pI σ H s):H s.heap.objs.size=Af:=I.hok.fresh (AK _)
theorem Inv.lstM(I:Inv X pI σ H s)(hH:H l=Aa (.lst xs)):xs.length<=sizeLine/\∃(its:Ac Ai)(n:Ag),AW xs its/\xs.length=its.length/\s.heap.get? l=Aa { cls:=.type "list", data:=.seq its.toArray n }:=by
 obtain⟨z,its,n,r,e⟩:=I.hok l _ hH;exact⟨z,its,n,r,r.length,e⟩
end
section
variable{X:Cx}
def VQ:V->Ac V->Hp->VK->Prop:=fun x vs H Q=>∃ l xs y,x=.ref l/\vs=[y]/\H l=Aa (.lst xs)/\xs.length<sizeLine/\Q .non (upd H l (.lst (xs++[y])))
theorem Nt:MtM X "list.append" VQ:=by
 intro pI s σ H x vs v us Q I rx rv h;obtain⟨l,xs,y,rfl,rfl,hH,hz,q⟩:=h;cases rx;obtain⟨u,rfl,ru⟩:=rv.one;obtain⟨z,its,n,r,hl,e⟩:=I.lstM hH;refine call_meets F.slot_list_append ⟨_,e,rfl⟩ F.entry_list_append (F.args_list_append_2 _ _) (PySem.list_append l its.toArray n u (by rw[Au];omega)) ⟨e,?_⟩
 refine⟨.non,_,I.lset (its':=its++[u]) hH e (by simp) (r.append (.cons ru .nil)) ?_,rfl,q⟩
 rw[Bo,Rz];omega
def Yd:V->Ac V->Hp->VK->Prop:=fun x vs H Q=>∃ l xs i k y,x=.ref l/\vs=[.int i]/\H l=Aa (.lst xs)/\-(2 ^ 63)<=i/\i<2 ^ 63/\Fo i xs.length=Aa k/\xs[k]?=Aa y/\Q y (upd H l (.lst (xs.eraseIdx k)))
theorem Ul:MtM X "list.pop" Yd:=by
 intro pI s σ H x vs v us Q I rx rv h;obtain⟨l,xs,i,k,y,rfl,rfl,hH,h1,h2,hk,hy,q⟩:=h;cases rx;obtain⟨u,rfl,ru⟩:=rv.one;obtain⟨t,rfl⟩:=ru;obtain⟨z,its,n,r,hl,e⟩:=I.lstM hH;obtain⟨w,hw,rw'⟩:=r.get hy;refine call_meets F.slot_list_pop ⟨_,e,rfl⟩ F.entry_list_pop (F.args_list_pop_2 _ _)
  (MeetsSeq.list_pop_at l its.toArray n i t k w (fitsIndex_both h1 h2) (by rw[Au,<-hl];exact hk) (by rw[<-Q0];exact hw) (by rw[Au];omega)) ⟨e,?_⟩
 refine⟨y,_,I.lset (its':=its.eraseIdx k) hH e ?_ (r.eraseIdx k) ?_,rw',q⟩
 ·show its.toArray.eraseIdxIfInBounds k=(its.eraseIdx k).toArray;rw[List.eraseIdxIfInBounds_toArray]
 ·have:=Nv xs k;omega
end
section
variable{prog:AN}{w:AU}{A:A2}{E:Vq}{s:Ao}
set_option maxRecDepth 100000 in
end
section
variable{X:Cx}
end
end L2
namespace Att
open PySem PySem.W PySem.Calls PyProof.Rows
variable{P:IL}{h:AG}{l:Er}{n:Ag}
theorem Th:∀(ns:Ac Ae)(vs:Ac Ai),WellAll P h vs (ns.map SH)->Gv vs ns:=by
 intro ns
 induction ns with
 |nil=>
  intro vs w;rw[G1]at w;cases w;exact .nil
 |cons n ns ih=>
  intro vs w;rw[Cf]at w;cases w with
  |cons a b=>
   cases a;exact .cons _ _ (ih _ b)
theorem Tq(hn:l.most=Aa n){args:Ac WData}{vals:Ac Ai}(hpre:l.row.toRowW.claim.pre args=Ab)(hwl:WellAll P h vals args):
  ∃ a vs ns,vals=[SD a]/\args=[WData.list (ns.map SH)]/\h.get? a=Aa { cls:=.type "list", data:=.seq vs.toArray }/\Gv vs ns/\ns.length<=n:=by
 have hsh:WShape.hasAll [] args [.list .int]=Ab:=(pre_splitW hpre).1;have hc:l.pre.holds [] {args:=args}=Ab:=(pre_splitW hpre).2;obtain⟨d,r,rfl,h1,h2⟩:=hasAllW_cons hsh;obtain rfl:=hasAllW_nil h2;obtain⟨xs,rfl,h3⟩:=hasW_list h1;obtain⟨ns,rfl⟩:=items_int h3;have hlen:ns.length<=n:=by
  unfold OpenLaw.pre at hc;have h4:(WTm.not (.lt (.lit (.int (n:Ae))) (.len (.arg 0)))).holds [] {args:=[.list (ns.map .int)]}=Ab:=by
   have h4:=(holds_andW hc).1;rw[hn]at h4;exact h4
  have h5:=condW_of h4 (w_not (w_lt w_lit (w_len_list (w_arg rfl))));rw[BG]at h5;refine Nat.le_of_not_lt fun q=>?_
  have q':(n:Ae)<((ns.length:Ag):Ae):=by omega
  first
   |(rw[AR q']at h5;exact absurd h5 (by decide))
   |(simp at h5;omega)
 cases hwl with
 |cons w1 w2=>
  cases w2;cases w1 with
  |list ho hall=>exact⟨_,_,ns,rfl,rfl,ho,Th ns _ hall,hlen⟩
theorem Ue(l:Er)(args:Ac WData):l.row.toRowW.claim.post args (.bool Ab) args=Ab:=
 postW_of (r:=l.row.toRowW) (X:=(Ab==Ab))
  (show SJ [] (.bool Ab) .bool=Ab by first|rfl|decide|simp[SJ,WShape.arms,WShape.armsAll])
  (show (WTm.eq .res (.lit (.bool Ab))).value [] {args:=args,res:=Aa (.bool Ab),after:=args}=Aa (.bool (Ab==Ab)) from w_eq_bool (w_res rfl) w_lit) rfl
theorem attach_call{q:AN}{loose:Ac Ah}{XP:(Ah->Ap Ai)->AG->Prop}{YP:AU->AG->Prop}{d:DefRec}(hn:l.most=Aa n)(hdf:d.params.defaults=[])(call:∀(w:AU)(s₀ s₁:Ao)(mg mb:Ah->Ap Ai)(fa:Aj)(o:Dk)(pm cd doc:Ai)(a:Aj)(vs:Ac Ai)(ns:Ac Ae),
   Ground q loose [] XP w s₀ mg mb s₁.heap->YP w s₁.heap ->
   s₁.heap.get? fa=Aa o->o.data=.func (docDef d.name d.params d.body d.scope pm cd doc)->s₁.heap.CodeRec cd d.name->mg d.name=Aa (.ref fa) ->
   s₁.heap.get? a=Aa { cls:=.type "list", data:=.seq vs.toArray }->Gv vs ns->ns.length<=n->s₁.gens=#[] ->
   E6 (model l.prog w) FO (.call (.ref fa) ⟨[.ref a],[]⟩) (fun r s'=>r=.ok (.ret (.bool Ab))/\OldK s₁.heap s'.heap/\s'.os=s₁.os/\Ef s'.gens) s₁):WalkO q loose XP YP l.row.toRowW d [] (fun f vs=>HL f vs):=by
 intro w s₀ s₁ mg mb G Y fa o pm cd doc dV kV ho hd hcd hD hmg hg args vals as hpre hlay hrd hwl hlo;obtain rfl:dV=.none:=Dflts.none hD hdf;obtain rfl:kV=.none:=Dflts.noKw hD;obtain⟨a,vs,ns,rfl,rfl,hobj,hints,hlen⟩:=Tq hn hpre hwl;refine enter_call (G3 (call w s₀ s₁ mg mb fa o pm cd doc a vs ns G Y ho (fd_plain hd) hcd hmg hobj hints hlen hg) fun r s' hq=>?_)
 obtain⟨rfl,h2,h3,h4⟩:=hq;exact⟨.inl ⟨.bool Ab,.bool Ab,[],rfl,fun _=>rfl,.bool Ab,Ue l _,fun _=>⟨List.Pairwise.nil,fun _ hm=>(nomatch hm)⟩⟩,h2,h3,h4⟩
section
variable{prog:AN}{w:AU}{A:A2}{E:Vq}{s:Ao}{K:Frag}
end
end Att
namespace L2
open PySem PySem.Spec PyProof.Rows
variable{k:Ag}{x:Ah}
theorem NK:∀{vs:Ac Ai}{ns:Ac Ae},Gv vs ns->AW (ns.map V.int) vs
 |_,_,.nil=>.nil
 |_,_,.cons n t h=>.cons ⟨t,rfl⟩ (NK h)
def MI(H:Hp):Prop:=∀ b,H b=Af\/∃ o xs,H b=Aa (.frz o (.lst xs))
theorem Uo{P:AN}{w:AU}{K:Fg}{mg mb:Ah->Ap Ai}{CX:CXT}{fa a:Aj}{fd:BW}{sp:Sp}{s₁:Ao}{vs:Ac Ai}{ns:Ac Ae}(KX:K.In s₁.heap)(hns:s₁.heap.Ns AT mg)(hb:s₁.heap.Ns GD mb)(hbb:∀ x:Ah,x≠"__name__"->mb x=Cq x)(hlim:s₁.heap.NoLimit)(hg:s₁.gens=#[])(ha:s₁.heap.get? a=Aa { cls:=.type "list", data:=.seq vs.toArray })(hi:Gv vs ns)(hl:ns.length<=sizeLine)(hr:Room k FO)(F:∀ base:AG,K.In base->base.Ns AT mg->FnOk P w K mg base CX k fa fd [x] sp)(hbind:∀(s:Ao)(u:Ai),FL s fd ⟨[u],[]⟩ [(x,u)])(hsp:∀ H:Hp,MI H->SqL K H a (ns.map V.int)->sp [.ref a] H (fun v _=>v=.bl Ab) fun _ _ _=>A5)(hCX:∀ H e s',CX [] H s₁ (fun _ _ _=>A5) e s'->A5):E6 (model P w) FO (.call (.ref fa) ⟨[.ref a],[]⟩) (fun r s'=>r=.ok (.ret (.bool Ab))/\OldK s₁.heap s'.heap/\s'.os=s₁.os/\Ef s'.gens) s₁:=by
 have rv:=NK hi;have lenV:=hi.length
 -- from an abstract heap in which nothing but the script may be tracked
 have core:∀ H:Hp,MI H->SqL K H a (ns.map V.int)->HOk P w H s₁.heap->(∀ b,H b≠Af->b=a)->(H a≠Af->K.lookup a=Af) ->
   E6 (model P w) FO (.call (.ref fa) ⟨[.ref a],[]⟩) (fun r s'=>r=.ok (.ret (.bool Ab))/\OldK s₁.heap s'.heap/\s'.os=s₁.os/\Ef s'.gens) s₁:=by
  intro H hO hS hok hA hK;have base_of:∀{b:Aj}{o:Dk},s₁.heap.get? b=Aa o->H b=Af->(GQ s₁.heap H).get? b=Aa o:=fun e n=>Up e n
  have noA:∀{b:Aj}{o:Dk}{es:Be DictEntry}{ep:Ag},s₁.heap.get? b=Aa o->o.data=.dict es ep->H b=Af:=fun {b o es ep} e d=>by
   cases q:H b with
   |none=>rfl
   |some u=>
    have e':b=a:=hA b (by rw[q];simp)
    subst e';rw[ha]at e;cases e;have d':II vs.toArray _=Data.dict es ep:=d;cases d'
  have nsK:∀{b:Aj}{m:Ah->Ap Ai},s₁.heap.Ns b m->(GQ s₁.heap H).Ns b m:=fun {b m} ⟨o,es,ep,e,d,r⟩=>⟨o,es,ep,base_of e (noA e d),d,r⟩
  have hKb:K.In (GQ s₁.heap H):=fun b o e=>base_of (KX b o e) (by
   cases q:H b with
   |none=>rfl
   |some u=>
    have e':b=a:=hA b (by rw[q];simp)
    subst e';rw[hK (by rw[q];simp)]at e;cases e)
  have hM:Mod K mg (GQ s₁.heap H):=⟨hKb,nsK hns,⟨mb,nsK hb,hbb⟩,let ⟨mc,h1,h2⟩:=hlim;⟨mc,nsK h1,h2⟩⟩
  have e0:Env0 P w K mg (GQ s₁.heap H) FO [] s₁ H:=⟨rfl,hM,fun b o e=>WV e,Nat.le_of_eq (T7 _ _),trivial,fun b hb=>absurd (show b∈([]:Ac Aj) from hb) (by simp),hok,.of_eq hg⟩
  refine G3 ((F _ hKb (nsK hns)).run FO [] s₁ H ⟨[.ref a],[]⟩ [.ref a] [.ref a] _ _ hr e0 (hbind s₁ (.ref a)) (.cons rfl .nil) (hsp H hO hS)) fun r s' h=>?_
  cases r with
  |error e=>exact(hCX H e s' h).elim
  |ok fl=>
   cases fl with
   |next=>exact C7 h
   |brk=>exact C7 h
   |cont=>exact C7 h
   |ret u=>
    obtain⟨v,H',os,bare,un,hok',r',q⟩:=h;have q':v=.bl Ab:=q;subst q';obtain rfl:u=Sy Ab:=r';refine⟨rfl,OldK.of_keep fun b o e=>?_,os,bare⟩
    cases q:H b with
    |none=>exact un.keep b o e q (by intro z;exact absurd (show b∈([]:Ac Aj) from z) (by simp)) (by simp)
    |some u=>
     rcases hO b with z|⟨ob,xs,z⟩
     ·rw[q]at z;cases z
     ·have z2:=un.frzs b ob _ z;obtain⟨e1,_⟩:=hok b _ z;obtain⟨e2,_⟩:=hok' b _ z2;rw[e]at e1;cases e1;exact e2
 cases hk:K.lookup a with
 |some o=>
  -- the script is one of the module's own objects
  have e:=KX a o hk;rw[ha]at e;cases e;refine core (fun _=>Af) (fun _=>.inl rfl) (.inr ⟨_,vs.toArray,_,hk,rfl,rfl,rfl,by rw[Au,lenV];exact hl,by simpa using rv⟩) (fun b u z=>by have z':(Af:Ap HO)=Aa u:=z;cases z') (fun b z=>absurd rfl z) fun z=>absurd rfl z
 |none=>
  refine core (fun b=>if b=a then Aa (.frz { cls:=.type "list", data:=.seq vs.toArray } (.lst (ns.map V.int))) else Af) (fun b=>?_) (.inl (.inr ⟨{ cls:=.type "list", data:=.seq vs.toArray },AC rfl⟩)) (fun b u z=>?_) (fun b z=>?_) fun _=>hk
  ·by_cases hb:b=a
   ·exact .inr ⟨_,_,AC hb⟩
   ·exact .inl (AJ hb)
  ·by_cases hb:b=a
   ·have z':=(AC hb).symm.trans z;cases z';subst hb;exact⟨ha,by rw[BG];exact hl,vs,_,rv,ha⟩
   ·have z':=(AJ hb).symm.trans z;cases z'
  ·by_cases hb:b=a
   ·exact hb
   ·exact absurd (AJ hb) z
noncomputable abbrev KOf{K:Fg}{h:AG}(_:K.In h):Fg:=K
theorem walk_of{l:Er}{n:Ag}{q:AN}{loose:Ac Ah}{XP:(Ah->Ap Ai)->AG->Prop}{YP:AU->AG->Prop}{d:DefRec}{K:IL->Fg}{CX:AU->CXT}{sp:AU->Sp}(hn:l.most=Aa n)(hn2:n<=sizeLine)(hdf:d.params.defaults=[])(hr:Room k FO)(hY:∀(w:AU)(h:AG),YP w h->(K w.params).In h)(F:∀(w:AU)(mg:Ah->Ap Ai)(fa:Aj)(h:AG),(K w.params).In h->h.Ns AT mg->mg d.name=Aa (.ref fa) ->
   ∃ fd:BW,(∀(s:Ao)(u:Ai),FL s fd ⟨[u],[]⟩ [(x,u)]) /\
    ∀ base:AG,(K w.params).In base->base.Ns AT mg->FnOk l.prog w (K w.params) mg base (CX w) k fa fd [x] (sp w))(hsp:∀(w:AU)(H:Hp)(a:Aj)(ns:Ac Ae),ns.length<=n->MI H->SqL (K w.params) H a (ns.map V.int)->sp w [.ref a] H (fun v _=>v=.bl Ab) fun _ _ _=>A5)(hCX:∀(w:AU)(H:Hp)(s:Ao)(e:Ai)(s':Ao),CX w [] H s (fun _ _ _=>A5) e s'->A5):SK q loose XP YP l.row.toRowW d [] (fun f vs=>HL f vs):=by
 refine Att.attach_call hn hdf fun w s₀ s₁ mg mb fa o pm cd doc a vs ns G Y ho hd hcd hmg hobj hints hlen hg=>?_
 have KX:=hY w _ Y;obtain⟨fd,hb,hF⟩:=F w mg fa _ KX G.T.g hmg;exact Uo KX G.T.g G.T.b G.T.builtins G.T.nolimit hg hobj hints (Cb hlen hn2) hr hF hb (fun H hO hS=>hsp w H a ns hlen hO hS) fun H e s'=>hCX w H s₁ e s'
end L2
/- THE LAST THEOREM (shape;LID,My.* are yours):
   My.Adr: a structure of the addresses that your layer names (classes,functions);My.Txt K t: a structure (Prop) of the equations over K;
   My.txt_mk:{K} {implicit addresses ..} (e1:nsIn K AT "law" = Aa (Aa (.ref f))) (e2:K.lookup f=Aa ⟨oc,od,.func (fnOf "law" "law" params body scope dV kV doc pm an cdv ct),sl⟩) (e3:codeIn K cdv "law" = Ab) ..:∃ t,My.Txt K t
set_option maxRecDepth 100000 in
set_option maxHeartbeats 0 in
theorem PySem.Challenge.cw_LID_holds:PySem.Challenge.rw_LID.Holds:=by
 w_on;o_law;k_head;(case hw=>w_witness2)
 k_fill
 refine L2.walk_of (l:=PySem.Challenge.rw_LID) (n:=63) (k:=40) (x := "script") (CX:=fun w=>..) (sp:=fun _=>My.sp_law) rfl (by decide) rfl ⟨rfl,by decide,by decide⟩ (fun w h Y=>SN Y) ?F ?S ?C
 case F=>
  intro w mg fa h KX G hmg;have T:∃ t,My.Txt (L2.KOf KX) t:=by
   dsimp only[L2.KOf]                          -- K must stand as «<heap const> w.params» for k_is
   refine' My.txt_mk ?e1 ?e2 ?e3 ..
   (case e1=>PySem.W.k_is)                    -- in the order: a name -> its address -> its object -> its parts
   (case e2=>PySem.W.k_is)
   ..
  obtain⟨t,T⟩:=T;have e0:=hmg.symm.trans (GW KX G T.law);cases e0                                       -- fa is the law's own address
  exact⟨_,fun s u=>.of_eq rfl,fun base kb nb=>My.law_fn T kb nb⟩     -- if «.of_eq rfl» comes too early: refine' ⟨_,?b,fun base kb nb=>My.law_fn T kb nb⟩;exact fun s u=>.of_eq rfl
 case S=>exact fun w H a ns hl hO hS=>..
 case C=>exact ..
(the tactic k_is has no namespace: write k_is) -/
namespace L2
open PySem PySem.Spec PyProof.Rows
noncomputable def Ie(s:Bp):Arguments:=match s with
  |.FunctionDef _ a _ _ _ _ _ _ _ _=>a
  |_=>{posonlyargs:=[],args:=[],vararg:=Af,kwonlyargs:=[],kw_defaults:=[],kwarg:=Af,defaults:=[]}
noncomputable def Gi(s:Bp):Ac Bp:=match s with
  |.FunctionDef _ _ b _ _ _ _ _ _ _=>b
  |_=>[]
noncomputable def E7(s:Bp):BS:=match s with
  |.FunctionDef _ _ _ _ _ _ sc _ _ _=>sc
  |_=>{kind:=.function,names:=[],isGenerator:=Ad,isCoroutine:=Ad}
noncomputable abbrev CX0:CXT:=fun _ _ _ _ _ _=>A5
structure Fun (K:Fg) (x qual:Ah) (st:Bp) (f:Aj) (fd:BW):Prop where
 ex:∃(oc:Ai)(od:Ap Aj)(kV doc pm:Ai)(an:Ap Aj)(cdv ct:Ai)(osl:Be (Ap Ai)),
  fd=Dl x qual (Ie st) (Gi st) (E7 st) .none kV doc pm an cdv ct/\K.lookup f=Aa ⟨oc,od,.func fd,osl⟩/\E5 K cdv qual=Ab
 kp:CJ K (.ref f)=Ab
section
variable{P:AN}{w:AU}{K:Fg}{mg:Ah->Ap Ai}{base:AG}
theorem Fun.ok{x qual:Ah}{st:Bp}{f:Aj}{fd:BW}{N ps:Ac Ah}{k:Ag}{sp:Sp}(F:Fun K x qual st f fd)(S:FnScope N ps (E7 st))(len:∀ vs H Q E,sp vs H Q E->vs.length=ps.length)(hbody:∀(cdv:Ai)(A:A2)(outer:Ac BJ)(s:Ao)(H:Hp)(vs:Ac V)(Q:VK)(E:XK),Room k (A.deeper (DT qual (E7 st) s.heap.objs.size f cdv))->sp vs H Q E ->
   ∃ t,PSs (Fi CX0 P w K mg base N qual (E7 st) f cdv A outer s H E).nox (Gi st) t/\t {nx:=fun _ H'=>Q .non H',rt:=Q} (start N vs) H):FnOk P w K mg base CX0 (k+1) f fd ps sp:=by
 obtain⟨oc,od,kV,doc,pm,an,cdv,ct,osl,rfl,lk,hcd⟩:=F.ex;refine P9 lk hcd S len fun A outer s H vs Q E hr hsp=>?_
 obtain⟨t,h,q⟩:=hbody cdv A outer s H vs Q E hr hsp;exact⟨t,h.nox,q⟩
theorem Fun.binds{x qual:Ah}{st:Bp}{f:Aj}{fd:BW}{ps:Ac Ah}(F:Fun K x qual st f fd)(h:∀(kV doc pm:Ai)(an:Ap Aj)(cdv ct:Ai)(us:Ac Ai),us.length=ps.length->IM (Dl x qual (Ie st) (Gi st) (E7 st) .none kV doc pm an cdv ct) ⟨us,[]⟩=pure (ps.zip us)):Gp K fd ps []:=by
 obtain⟨oc,od,kV,doc,pm,an,cdv,ct,osl,rfl,lk,hcd⟩:=F.ex;exact .all (h kV doc pm an cdv ct)
theorem YZ{x qual:Ah}{st:Bp}{f:Aj}{oc:Ai}{od an:Ap Aj}{osl:Be (Ap Ai)}{kV doc pm cdv ct:Ai}(l:K.lookup f=Aa ⟨oc,od,.func (Dl x qual (Ie st) (Gi st) (E7 st) .none kV doc pm an cdv ct),osl⟩)(c:E5 K cdv qual=Ab)(k:CJ K (.ref f)=Ab):Fun K x qual st f (Dl x qual (Ie st) (Gi st) (E7 st) .none kV doc pm an cdv ct):=⟨⟨oc,od,kV,doc,pm,an,cdv,ct,osl,rfl,l,c⟩,k⟩
end
section
variable{X:Cx}
end
def Az(H H':Hp):Prop:=∀ b o,H b=Aa o->H' b=Aa o
theorem Az.refl(H:Hp):Az H H:=fun _ _ h=>h
theorem Az.trans{H H1 H2:Hp}(a:Az H H1)(b:Az H1 H2):Az H H2:=fun c o h=>b c o (a c o h)
theorem Az.free{H H':Hp}(e:Az H H'){l:Aj}(h:H' l=Af):H l=Af:=by
 cases q:H l with
 |none=>rfl
 |some o=>
  rw[e l o q]at h;cases h
end L2
section
namespace Ov
open PySem
variable{α β:Type}
inductive D where
 |non|bl (b:An)|int (i:Ae)|str (x:Ah)|tup (ds:Ac D)|lst (ds:Ac D)
 |obj (c:Ag) (fs:Ac (Ah×D))|exc (c:Ag) (fs:Ac (Ah×D))|dic (kvs:Ac (Ac Ae×D))
 deriving Inhabited
structure Ex where
 c:Ag
 fs:Ac (Ah×D)
 deriving Inhabited
inductive R (α:Type) where
 |ok (a:α)|exn (x:Ex)|bad
 deriving Inhabited
noncomputable def R.bind{α β:Type}(r:R α)(f:α->R β):R β:=match r with
  |.ok a=>f a
  |.exn x=>.exn x
  |.bad=>.bad
@[simp]theorem R.bind_ok(a:α)(f:α->R β):(R.ok a).bind f=f a:=rfl
@[simp]theorem R.bind_exn(x:Ex)(f:α->R β):(R.exn x:R α).bind f=.exn x:=rfl
@[simp]theorem R.bind_bad(f:α->R β):(R.bad:R α).bind f=.bad:=rfl
theorem R.bind_assoc{γ:Type}(r:R α)(f:α->R β)(g:β->R γ):(r.bind f).bind g=r.bind fun a=>(f a).bind g:=by cases r<;>rfl
noncomputable def Ct(n:Ag):An:=Dv n 1000000
noncomputable def Da(i j:Ae):An:=(decide (-(18446744073709551616:Ae)<i)&&decide (i<18446744073709551616))||(decide (-(18446744073709551616:Ae)<j)&&decide (j<18446744073709551616))
noncomputable def D0(i j:Ae):An:=decide (i.natAbs<2 ^ 2000)&&decide (j.natAbs<2 ^ 2000)
noncomputable def Cr:FY->D->D->R D
 |.Add,.int i,.int j=>.ok (.int (i+j))
 |.Sub,.int i,.int j=>.ok (.int (i-j))
 |.Mult,.int i,.int j=>if (Da i j||D0 i j)=Ab then .ok (.int (i*j)) else .bad
 |.FloorDiv,.int i,.int j=>if 0<j/\j<1073741824 then .ok (.int (i / j)) else .bad
 |.Mod,.int i,.int j=>if 0<j then .ok (.int (i%j)) else .bad
 |.Pow,.int i,.int j=>if (0<=j/\j<=1000000)/\(-(18446744073709551616:Ae)<i/\i<18446744073709551616) then .ok (.int (i ^ j.toNat)) else .bad
 |.Add,.str x,.str y=>if Ct (x.length+y.length)=Ab then .ok (.str (x++y)) else .bad
 |.Add,.lst x,.lst y=>if Ct (x.length+y.length)=Ab then .ok (.lst (x++y)) else .bad
 |.Add,.tup x,.tup y=>if (!x.isEmpty&&Ct (x.length+y.length))=Ab then .ok (.tup (x++y)) else .bad
 |_,_,_=>.bad
noncomputable def unD:UnaryOp->D->R D
 |.USub,.int i=>.ok (.int (-i))
 |_,_=>.bad
noncomputable def b2i(b:An):Ae:=if b=Ab then 1 else 0
mutual
noncomputable def eqD:D->D->An
 |.non,.non=>Ab
 |.bl a,.bl b=>a==b
 |.bl a,.int j=>b2i a==j
 |.int i,.bl b=>i==b2i b
 |.int i,.int j=>i==j
 |.str x,.str y=>x==y
 |.tup xs,.tup ys=>eqDs xs ys
 |.lst xs,.lst ys=>eqDs xs ys
 |_,_=>Ad
noncomputable def eqDs:Ac D->Ac D->An
 |[],[]=>Ab
 |x::xs,y::ys=>eqD x y&&eqDs xs ys
 |_,_=>Ad
end
noncomputable def flD:Ag->D->An
 |_,.non=>Ab
 |_,.bl _=>Ab
 |_,.int _=>Ab
 |_,.str _=>Ab
 |n+1,.tup xs=>xs.all (flD n)
 |n+1,.lst xs=>xs.all (flD n)
 |_,_=>Ad
noncomputable def IB:D->Ap (Ac Ae)
 |.tup ds=>keyDs ds
 |_=>Af
where keyDs:Ac D->Ap (Ac Ae)
 |[]=>Aa []
 |.int i::r=>(keyDs r).map (i :: ·)
 |_=>Af
noncomputable def ltD:Ag->D->D->An
 |0,.int i,.int j=>decide (i<j)
 |n+1,.tup xs,.tup ys=>ltDs (ltD n) xs ys
 |_,_,_=>Ad
where ltDs (lt:D->D->An):Ac D->Ac D->An
 |[],[]=>Ad
 |[],_::_=>Ab
 |_::_,[]=>Ad
 |x::xs,y::ys=>if eqD x y=Ab then ltDs lt xs ys else lt x y
noncomputable def rkD:Ag->D->An
 |0,.int _=>Ab
 |n+1,.tup xs=>xs.all (rkD n)
 |_,_=>Ad
noncomputable def QD(lt:D->D->An)(x:D):Ac D->Ac D
 |[]=>[x]
 |y::ys=>if lt y x=Ab then y::QD lt x ys else x::y::ys
noncomputable def PD(lt:D->D->An):Ac D->Ac D
 |[]=>[]
 |x::xs=>QD lt x (PD lt xs)
noncomputable def QA:Ac D->An
 |[]=>Ab
 |x::xs=>xs.all (fun y=>!eqD x y)&&QA xs
noncomputable def QS:Ac D->An
 |[]=>Ab
 |[_]=>Ab
 |x::y::r=>ltD 1 x y&&QS (y::r)
noncomputable def Om(xs:Ac D):R (Ac D):=if (xs.all (fun d=>rkD 1 d && !eqD d (.tup []))&&QA xs&&(decide (xs.length<64)||(QS xs&&decide (xs.length<=1000))))=Ab then .ok (PD (ltD 1) xs) else .bad
noncomputable def BE:DF->D->D->R D
  |.Eq,x,y=>if (flD 5 x&&flD 5 y)=Ab then .ok (.bl (eqD x y)) else .bad
  |.NotEq,x,y=>if (flD 5 x&&flD 5 y)=Ab then .ok (.bl (!eqD x y)) else .bad
  |.Lt,.int i,.int j=>.ok (.bl (decide (i<j)))
  |.LtE,.int i,.int j=>.ok (.bl (decide (i<=j)))
  |.Gt,.int i,.int j=>.ok (.bl (decide (j<i)))
  |.GtE,.int i,.int j=>.ok (.bl (decide (j<=i)))
  |.In,x,.lst ys=>if (flD 5 x&&ys.all (flD 5))=Ab then .ok (.bl (ys.any fun y=>eqD y x)) else .bad
  |.In,x,.dic kvs=>match IB x with
    |some k=>.ok (.bl (kvs.any fun p=>p.1==k))
    |none=>.bad
  |.In,x,.tup ys=>if (flD 5 x&&ys.all (flD 5))=Ab then .ok (.bl (ys.any fun y=>eqD y x)) else .bad
  |.NotIn,x,.lst ys=>if (flD 5 x&&ys.all (flD 5))=Ab then .ok (.bl (!ys.any fun y=>eqD y x)) else .bad
  |.NotIn,x,.tup ys=>if (flD 5 x&&ys.all (flD 5))=Ab then .ok (.bl (!ys.any fun y=>eqD y x)) else .bad
  |.Is,.non,.non=>.ok (.bl Ab)
  |.Is,.bl _,.non=>.ok (.bl Ad)
  |.Is,.int _,.non=>.ok (.bl Ad)
  |.Is,.str _,.non=>.ok (.bl Ad)
  |.Is,.tup _,.non=>.ok (.bl Ad)
  |.Is,.lst _,.non=>.ok (.bl Ad)
  |.Is,.obj _ _,.non=>.ok (.bl Ad)
  |.Is,.bl a,.bl b=>.ok (.bl (a==b))
  |.IsNot,.bl a,.bl b=>.ok (.bl (!(a==b)))
  |.IsNot,.non,.non=>.ok (.bl Ad)
  |.IsNot,.bl _,.non=>.ok (.bl Ab)
  |.IsNot,.int _,.non=>.ok (.bl Ab)
  |.IsNot,.str _,.non=>.ok (.bl Ab)
  |.IsNot,.tup _,.non=>.ok (.bl Ab)
  |.IsNot,.lst _,.non=>.ok (.bl Ab)
  |.IsNot,.obj _ _,.non=>.ok (.bl Ab)
  |_,_,_=>.bad
noncomputable def BO:D->R An
 |.non=>.ok Ad
 |.bl b=>.ok b
 |.int i=>.ok (i != 0)
 |.str x=>if Ct x.length=Ab then .ok (x.length != 0) else .bad
 |.tup xs=>.ok (!xs.isEmpty)
 |.lst xs=>.ok (!xs.isEmpty)
 |_=>.bad
noncomputable def plD(n:Ag)(i:Ae):Ap Ag:=if 0<=i then (if i<n then Aa i.toNat else Af) else if -(n:Ae)<=i then Aa (i+n).toNat else Af
noncomputable def Dr(xs:Ac D)(i:Ae):R D:=match plD xs.length i with
  |some k=>match xs[k]? with
    |some d=>.ok d
    |none=>.bad
  |none=>.bad
noncomputable def Zw(kvs:Ac (Ac Ae×D))(k:Ac Ae):Ap D:=(kvs.find? fun p=>p.1==k).map (·.2)
noncomputable def Pb(kvs:Ac (Ac Ae×D))(k:Ac Ae)(v:D):Ac (Ac Ae×D):=if (kvs.any fun p=>p.1==k)=Ab then kvs.map (fun p=>if (p.1==k)=Ab then (k,v) else p) else kvs++[(k,v)]
noncomputable def Ck:D->D->R D
  |.lst xs,.int i=>Dr xs i
  |.tup xs,.int i=>Dr xs i
  |.dic kvs,k=>match (IB k).bind (Zw kvs) with
    |some d=>.ok d
    |none=>.bad
  |_,_=>.bad
noncomputable def Dp:D->R Ae
 |.int i=>.ok i
 |_=>.bad
noncomputable def C4:D->R An
 |.bl b=>.ok b
 |_=>.bad
noncomputable def B5:D->R (Ac D)
 |.lst xs=>.ok xs
 |.tup xs=>.ok xs
 |_=>.bad
noncomputable def Mw:D->R (Ac D)
 |.lst xs=>.ok xs
 |_=>.bad
inductive BI where
 |len|abs|max|min|int|list|tuple|all|any|sum|sorted|str|count|stp|lset|tmin|tmax|tlt|rvs
 deriving DecidableEq,Inhabited
inductive Ki where
 |int|bool|str|list|tuple|verr|cls (c:Ag)
 deriving DecidableEq,Inhabited
mutual
inductive E where
 |non|bl (b:An)|int (i:Ae)|str (x:Ah)
 |var (i:Ag)|glob (g:Ag)
 |bin (op:FY) (a b:E)|un (op:UnaryOp) (a:E)|no (a:E)
 |and (es:Es)|or (es:Es)
 |cmp (op:DF) (a b:E)|cmp2 (op op':DF) (a b c:E)
 |ite (c a b:E)
 |call (f:Ag) (as:Es)|bi (b:BI) (as:Es)
 |isi (a:E) (ks:Ac Ki)
 |idx (a i:E)|sl (a lo hi:E)
 |tup (es:Es)|lst (es:Es)
 |comp (elt:E) (t:Ag) (it:I) (c:E)|compT (elt:E) (ts:Ac Ag) (it:I) (c:E)|tupI (it:I)|dnew
 |fld (o:E) (f:Ah)
inductive Es where
 |nil|cons (e:E) (es:Es)
inductive I where
 |e (a:E)|rng (a:E)|rng2 (a b:E)|zip (a b:E)|zip3 (a b c:E)|enm (a:E)
end
abbrev Sl:=Ap (D×An)
abbrev Rho:=Ac Sl
structure Gam where
 F:Ag->Ac D->R D
 G:Ag->D
 up:Ag->Ac Ag
 /-- the defs whose answer is a new list -/
 fr:Ag->An
 /-- what is raised: the class,what it is made of -/
 xn:Ag->Ac D->R Ex
noncomputable def Ce(lo:Ae)(n:Ag):Ac D:=(BB n).map fun(k:Ag)=>D.int (lo+(k:Ae))
noncomputable def CM(lo hi:Ae):R (Ac D):=if (-(4611686018427387904:Ae)<=lo/\lo<4611686018427387904)/\(-(4611686018427387904:Ae)<=hi/\hi<4611686018427387904)/\hi-lo<1000000 then .ok (Ce lo (hi-lo).toNat) else .bad
noncomputable def kiD(up:Ag->Ac Ag):Ki->D->An
 |.int,.int _=>Ab
 |.int,.bl _=>Ab
 |.bool,.bl _=>Ab
 |.str,.str _=>Ab
 |.list,.lst _=>Ab
 |.tuple,.tup _=>Ab
 |.cls c,.obj k _=>(up k).contains c
 |.cls c,.exc k _=>(up k).contains c
 |.verr,.exc _ _=>Ab
 |_,_=>Ad
noncomputable def Em:Ki->An
 |.cls _=>Ab
 |.verr=>Ab
 |_=>Ad
noncomputable def FB(up:Ag->Ac Ag)(ks:Ac Ki)(x:D):R D:=match x with
  |.obj _ _=>.bad
  |.exc _ _=>if ks.all Em=Ab then .ok (.bl (ks.any fun k=>kiD up k x)) else .bad
  |.dic _=>.bad
  |_=>if ks.any Em=Ab then .bad else .ok (.bl (ks.any fun k=>kiD up k x))
noncomputable def Dt:D->R An
 |.non=>.ok Ad
 |.bl b=>.ok b
 |.int i=>.ok (i != 0)
 |_=>.bad
noncomputable def EX:Ac D->R An
 |[]=>.ok Ab
 |x::r=>(Dt x).bind fun b=>(EX r).bind fun c=>.ok (b&&c)
noncomputable def El:Ac D->R An
 |[]=>.ok Ad
 |x::r=>(Dt x).bind fun b=>(El r).bind fun c=>.ok (b||c)
noncomputable def Fe:Ae->Ac D->R Ae
 |a,[]=>.ok a
 |a,.int i::r=>Fe (a+i) r
 |_,_=>.bad
noncomputable def CT:Ac D->Ac D->Ac D
 |x::xs,y::ys=>.tup [x,y]::CT xs ys
 |_,_=>[]
noncomputable def PH:Ac D->Ac D->Ac D->Ac D
 |x::xs,y::ys,z::zs=>.tup [x,y,z]::PH xs ys zs
 |_,_,_=>[]
noncomputable def PF(x y z:D):R (Ac D):=(B5 x).bind fun xs=>(B5 y).bind fun ys=>(B5 z).bind fun zs=>if 0<xs.length/\xs.length<=1000/\ys.length=xs.length/\zs.length=xs.length then .ok (PH xs ys zs) else .bad
noncomputable def FC:Ae->Ac D->Ac D
 |_,[]=>[]
 |i,x::xs=>.tup [.int i,x]::FC (i+1) xs
noncomputable def nlD:Ag->D->An
 |_,.non=>Ab
 |_,.bl _=>Ab
 |_,.int _=>Ab
 |_,.str _=>Ab
 |n+1,.tup xs=>xs.all (nlD n)
 |_,_=>Ad
noncomputable def ID(fr:An):D->An
 |.lst ds=>fr&&ds.all (nlD 5)
 |d=>nlD 5 d
noncomputable def He:Ac D->Ap (Ac Ae)
 |[]=>Aa []
 |.int i::r=>(He r).map (i :: ·)
 |_=>Af
noncomputable def Gr(i:Ae):Ac Ae->Ae
 |[]=>i
 |j::r=>Gr (if j<i then j else i) r
noncomputable def pk2(k n:Ag):Ac Ag:=(BB ((n-min k n+1) / 2)).map fun j=>min k n+2*j
noncomputable def QI(k:Ag)(xs:Ac D):Ac D:=(pk2 k xs.length).filterMap fun i=>xs[i]?
noncomputable def ddS(acc:Ac Ae)(x:Ae):Ac Ae:=if acc.any (· == x)=Ab then acc else acc++[x]
noncomputable def ddN(is:Ac Ae):Ag:=(is.foldl ddS []).length
noncomputable def Qh(xs:Ac D):R D:=match He xs with
  |some is=>if Dv is.length 4000=Ab then .ok (.int (ddN is)) else .bad
  |none=>.bad
noncomputable def mmD(mx:An)(x y:D):R D:=if [x,y].all (fun d=>rkD 1 d && !eqD d (.tup []))=Ab then .ok (if (if mx=Ab then ltD 1 x y else ltD 1 y x)=Ab then y else x) else .bad
noncomputable def QE(x y:D):R D:=if [x,y].all (fun d=>rkD 1 d && !eqD d (.tup []))=Ab then .ok (.bl (ltD 1 x y)) else .bad
noncomputable def biD:BI->Ac D->R D
  |.len,[.lst xs]=>.ok (.int xs.length)
  |.len,[.tup xs]=>.ok (.int xs.length)
  |.len,[.str x]=>if Ct x.length=Ab then .ok (.int x.length) else .bad
  |.abs,[.int i]=>.ok (.int (if i<0 then -i else i))
  |.max,[.int i,.int j]=>.ok (.int (if i<j then j else i))
  |.min,[.int i,.int j]=>.ok (.int (if j<i then j else i))
  |.min,[.lst xs]=>match He xs with
    |some (i::is)=>.ok (.int (Gr i is))
    |_=>.bad
  |.int,[.int i]=>.ok (.int i)
  |.int,[.bl b]=>.ok (.int (b2i b))
  |.list,[.lst xs]=>.ok (.lst xs)
  |.list,[.tup xs]=>.ok (.lst xs)
  |.tuple,[.lst xs]=>.ok (.tup xs)
  |.tuple,[.tup xs]=>.ok (.tup xs)
  |.all,[.lst xs]=>(EX xs).bind fun b=>.ok (.bl b)
  |.any,[.lst xs]=>(El xs).bind fun b=>.ok (.bl b)
  |.any,[.tup xs]=>(El xs).bind fun b=>.ok (.bl b)
  |.sum,[.lst xs]=>(Fe 0 xs).bind fun i=>.ok (.int i)
  |.sum,[.tup xs]=>(Fe 0 xs).bind fun i=>.ok (.int i)
  |.sorted,[.lst xs]=>(Om xs).bind fun ys=>.ok (.lst ys)
  |.count,[.lst xs,x]=>if (flD 5 x&&xs.all (flD 5))=Ab then .ok (.int ((xs.filter fun y=>eqD y x).length:Ag)) else .bad
  |.len,[.dic kvs]=>.ok (.int kvs.length)
  |.stp,[.lst xs,.int k]=>.ok (.lst (QI k.toNat xs))
  |.lset,[.lst xs]=>Qh xs
  |.tmin,[x,y]=>mmD Ad x y
  |.tmax,[x,y]=>mmD Ab x y
  |.tlt,[x,y]=>QE x y
  |.rvs,[.lst xs]=>.ok (.lst xs.reverse)
  |_,_=>.bad
noncomputable def slE(c:E)(d:D):R (Ap Ae):=match c with
  |.non=>.ok Af
  |_=>(Dp d).bind fun i=>.ok (Aa i)
noncomputable def Gq(n d:Ag):Ap Ae->Ag
 |none=>d
 |some i=>if i<0 then (i+n).toNat else min i.toNat n
noncomputable def Hz(xs:Ac D)(lo hi:Ap Ae):Ac D:=(xs.drop (Gq xs.length 0 lo)).take (Gq xs.length xs.length hi-Gq xs.length 0 lo)
noncomputable def slD:D->Ap Ae->Ap Ae->R D
 |.lst xs,l,h=>.ok (.lst (Hz xs l h))
 |.tup xs,l,h=>if (Gq xs.length 0 l==0&&Gq xs.length xs.length h==xs.length)=Ab then .bad else .ok (.tup (Hz xs l h))
 |_,_,_=>.bad
noncomputable def Qv:D->Ah->R D
  |.obj _ fs,f=>match fs.lookup f with
    |some d=>.ok d
    |none=>.bad
  |.exc _ fs,f=>match fs.lookup f with
    |some d=>.ok d
    |none=>.bad
  |_,_=>.bad
noncomputable def DO(ρ:Rho)(i:Ag):R D:=match ρ[i]? with
  |some (Aa (d,Ad))=>.ok d
  |_=>.bad
noncomputable def Ee(ρ:Rho)(i:Ag):R D:=match ρ[i]? with
  |some (Aa (d,_))=>.ok d
  |_=>.bad
noncomputable def shE(ρ:Rho):E->An
  | .var i=>(match ρ[i]? with
    |some (Aa (_,Ab))=>Ad
    | _=>Ab)
  |_=>Ab
noncomputable def Hg(ρ:Rho):Es->An
 |.nil=>Ab
 |.cons e es=>shE ρ e&&Hg ρ es
noncomputable def DL:Ac Ag->Ac D->Rho->Ap Rho
 |[],[],ρ=>Aa ρ
 |t::ts,d::ds,ρ=>DL ts ds (ρ.set t (Aa (d,Ad)))
 |_,_,_=>Af
noncomputable def E8(ts:Ac Ag)(d:D)(ρ:Rho):R Rho:=match d with
  | .tup xs=>(match DL ts xs ρ with
    |some ρ'=>.ok ρ'
    | none=>.bad)
  |_=>.bad
noncomputable def Gn(ts:Ac Ag)(d:D)(ρ:Rho):R Rho:=match d with
  | .lst xs=>(match DL ts xs ρ with
    |some ρ'=>.ok ρ'
    | none=>.bad)
  |d=>E8 ts d ρ
noncomputable def Bg(g:D->R An)(f:D->R D):Ac D->R (Ac D)
 |[]=>.ok []
 |x::xs=>(g x).bind fun b=>if b=Ab then (f x).bind fun y=>(Bg g f xs).bind fun ys=>.ok (y::ys) else Bg g f xs
noncomputable def noX{α:Type}:R α->R α
 |.ok a=>.ok a
 |_=>.bad
noncomputable def top(ρ:Rho)(e:E)(r:R D):R D:=match e with
  |.var i=>Ee ρ i
  |_=>r
mutual
noncomputable def evE(Γ:Gam)(ρ:Rho):E->R D
 |.non=>.ok .non
 |.bl b=>.ok (.bl b)
 |.int i=>.ok (.int i)
 |.str x=>.ok (.str x)
 |.var i=>DO ρ i
 |.glob g=>.ok (Γ.G g)
 |.bin op a b=>(top ρ a (evE Γ ρ a)).bind fun x=>(top ρ b (evE Γ ρ b)).bind fun y=>Cr op x y
 |.un op a=>(top ρ a (evE Γ ρ a)).bind fun x=>unD op x
 |.no a=>(top ρ a (evE Γ ρ a)).bind fun x=>(C4 x).bind fun b=>.ok (.bl (!b))
 |.and es=>evN Γ ρ es
 |.or es=>evO Γ ρ es
 |.cmp op a b=>(top ρ a (evE Γ ρ a)).bind fun x=>(top ρ b (evE Γ ρ b)).bind fun y=>BE op x y
 |.cmp2 op op' a b c=>(top ρ a (evE Γ ρ a)).bind fun x=>(top ρ b (evE Γ ρ b)).bind fun y=>(BE op x y).bind fun z=>(C4 z).bind fun k=>if k=Ab then (top ρ c (evE Γ ρ c)).bind fun u=>BE op' y u else .ok (.bl Ad)
 |.ite c a b=>(top ρ c (evE Γ ρ c)).bind fun x=>(BO x).bind fun k=>if k=Ab then evE Γ ρ a else evE Γ ρ b
 |.call f as=>(evB Γ ρ as).bind fun xs=>(Γ.F f xs).bind fun d=>if Hg ρ as=Ab then .ok d else if ID (Γ.fr f) d=Ab then .ok d else .bad
 |.bi b as=>(evB Γ ρ as).bind fun xs=>biD b xs
 |.isi a ks=>(top ρ a (evE Γ ρ a)).bind fun x=>FB Γ.up ks x
 |.idx a i=>(top ρ a (evE Γ ρ a)).bind fun x=>(top ρ i (evE Γ ρ i)).bind fun y=>Ck x y
 |.sl a lo hi=>(top ρ a (evE Γ ρ a)).bind fun x=>(top ρ lo (evE Γ ρ lo)).bind fun l=>(slE lo l).bind fun l'=>(top ρ hi (evE Γ ρ hi)).bind fun h=>(slE hi h).bind fun h'=>slD x l' h'
 |.tup es=>(evA Γ ρ es).bind fun xs=>.ok (.tup xs)
 |.lst es=>(evA Γ ρ es).bind fun xs=>.ok (.lst xs)
 |.comp elt t it c=>(evI Γ ρ it).bind fun xs=>(noX (Bg (fun x=>(top (ρ.set t (Aa (x,Ad))) c (evE Γ (ρ.set t (Aa (x,Ad))) c)).bind BO) (fun x=>evE Γ (ρ.set t (Aa (x,Ad))) elt) xs)).bind fun ys=>.ok (.lst ys)
 |.compT elt ts it c=>(evI Γ ρ it).bind fun xs=>(noX (Bg (fun x=>(E8 ts x ρ).bind fun ρ'=>(top ρ' c (evE Γ ρ' c)).bind BO) (fun x=>(E8 ts x ρ).bind fun ρ'=>evE Γ ρ' elt) xs)).bind fun ys=>.ok (.lst ys)
 |.tupI it=>(evI Γ ρ it).bind fun xs=>.ok (.tup xs)
 |.dnew=>.ok (.dic [])
 |.fld o f=>(top ρ o (evE Γ ρ o)).bind fun x=>Qv x f
noncomputable def evN(Γ:Gam)(ρ:Rho):Es->R D
 |.nil=>.bad
 |.cons e .nil=>evE Γ ρ e
 |.cons e (.cons e' es)=>(evE Γ ρ e).bind fun x=>(C4 x).bind fun c=>if c=Ab then evN Γ ρ (.cons e' es) else .ok (.bl Ad)
noncomputable def evO(Γ:Gam)(ρ:Rho):Es->R D
 |.nil=>.bad
 |.cons e .nil=>evE Γ ρ e
 |.cons e (.cons e' es)=>(evE Γ ρ e).bind fun x=>(C4 x).bind fun c=>if c=Ab then .ok (.bl Ab) else evO Γ ρ (.cons e' es)
noncomputable def evA(Γ:Gam)(ρ:Rho):Es->R (Ac D)
 |.nil=>.ok []
 |.cons e es=>(evE Γ ρ e).bind fun x=>(evA Γ ρ es).bind fun xs=>.ok (x::xs)
noncomputable def evB(Γ:Gam)(ρ:Rho):Es->R (Ac D)
 |.nil=>.ok []
 |.cons e es=>(top ρ e (evE Γ ρ e)).bind fun x=>(evB Γ ρ es).bind fun xs=>.ok (x::xs)
noncomputable def evI(Γ:Gam)(ρ:Rho):I->R (Ac D)
 |.e a=>(evE Γ ρ a).bind B5
 |.rng a=>(top ρ a (evE Γ ρ a)).bind fun x=>(Dp x).bind fun j=>CM 0 j
 |.rng2 a b=>(top ρ a (evE Γ ρ a)).bind fun x=>(top ρ b (evE Γ ρ b)).bind fun y=>(Dp x).bind fun i=>(Dp y).bind fun j=>CM i j
 |.zip a b=>(evE Γ ρ a).bind fun x=>(evE Γ ρ b).bind fun y=>(B5 x).bind fun xs=>(B5 y).bind fun ys=>.ok (CT xs ys)
 |.zip3 a b c=>(evE Γ ρ a).bind fun x=>(evE Γ ρ b).bind fun y=>(evE Γ ρ c).bind fun z=>PF x y z
 |.enm a=>(evE Γ ρ a).bind fun x=>(B5 x).bind fun xs=>.ok (FC 0 xs)
end
noncomputable def D3(Γ:Gam):E->An
 |.lst _=>Ab
 |.comp _ _ _ _=>Ab
 |.compT _ _ _ _=>Ab
 |.dnew=>Ab
 |.bin .Add _ _=>Ab
 |.bi .list _=>Ab
 |.bi .sorted _=>Ab
 |.sl _ _ _=>Ab
 |.call f _=>Γ.fr f
 |_=>Ad
mutual
inductive S where
 |pass
 /-- x=e;fresh: x alone holds the new list -/
 |asg (i:Ag) (fresh:An) (e:E)
 /-- a,b,..=e -/
 |asgT (ts:Ac Ag) (e:E)
 |expr (e:E)
 |ret (e:E)|retN
 |ife (c:E) (a b:Ss)
 |fors (t:Ag) (it:I) (body:Ss)
 |forT (ts:Ac Ag) (it:I) (body:Ss)
 |whl (c:E) (body:Ss)
 /-- raise C(e,..) -/
 |rais (c:Ag) (as:Es)
 /-- try: body except C as x: h -/
 |tryx (body:Ss) (c:Ag) (x:Ag) (h:Ss)
 /-- x.append(e),x.extend(e),x.insert(k,e),x.reverse(),x.clear() -/
 |app (i:Ag) (e:E)|ext (i:Ag) (e:E)|ins (i:Ag) (k e:E)|rev (i:Ag)|clr (i:Ag)
 /-- d[k]=e,d.setdefault(k,e) -/
 |dput (i:Ag) (k e:E)|dsd (i:Ag) (k e:E)
 /-- x[k]=e -/
 |put (i:Ag) (k e:E)
 /-- x[k],x[l]=x[l],x[k] -/
 |swp (i k l:Ag)
 /-- x.append(y.pop(e)) -/
 |apop (j i:Ag) (e:E)
 |brk|cont
 /-- nothing: from here on x is no longer changed -/
 |rel (i:Ag)
inductive Ss where
 |nil|cons (s:S) (ss:Ss)
end
inductive O where
 |next (ρ:Rho)|ret (d:D) (fr:An)|brk (ρ:Rho)|cont (ρ:Rho)|exn (x:Ex) (ρ:Rho)|bad
 deriving Inhabited
noncomputable def O.of{α:Type}(ρ:Rho)(r:R α)(f:α->O):O:=match r with
  |.ok a=>f a
  |.exn x=>.exn x ρ
  |.bad=>.bad
@[simp]theorem O.of_ok(ρ:Rho)(a:α)(f:α->O):O.of ρ (.ok a) f=f a:=rfl
@[simp]theorem O.of_exn(ρ:Rho)(x:Ex)(f:α->O):O.of ρ (.exn x:R α) f=.exn x ρ:=rfl
@[simp]theorem O.of_bad(ρ:Rho)(f:α->O):O.of ρ (.bad:R α) f=.bad:=rfl
noncomputable def Gs(Γ:Gam)(ρ:Rho)(i:I):R (Ac D):=evI Γ ρ i
noncomputable def Ca(ρ:Rho)(i:Ag):R (Ac D):=match ρ[i]? with
  |some (Aa (.lst xs,Ab))=>.ok xs
  |_=>.bad
noncomputable def Qy(ρ:Rho)(i:Ag):R (Ac (Ac Ae×D)):=match ρ[i]? with
  |some (Aa (.dic xs,Ab))=>.ok xs
  |_=>.bad
noncomputable def Qm(d:D):R (Ac Ae):=match IB d with
  |some k=>.ok k
  |none=>.bad
noncomputable def P5:Ag:=4096
noncomputable def O.seq(o:O)(f:Rho->O):O:=match o with
  |.next ρ=>f ρ
  |.ret d b=>.ret d b
  |.brk ρ=>.brk ρ
  |.cont ρ=>.cont ρ
  |.exn x ρ=>.exn x ρ
  |.bad=>.bad
noncomputable def O.turn(o:O)(f:Rho->O):O:=match o with
  |.next ρ=>f ρ
  |.cont ρ=>f ρ
  |.brk ρ=>.next ρ
  |.ret d b=>.ret d b
  |.exn x ρ=>.exn x ρ
  |.bad=>.bad
noncomputable def CU(body:D->Rho->O):Ac D->Rho->O
 |[],ρ=>.next ρ
 |x::xs,ρ=>(body x ρ).turn (CU body xs)
noncomputable def MC(c:Rho->R An)(body:Rho->O):Ag->Rho->O
 |0,_=>.bad
 |n+1,ρ=>O.of ρ (c ρ) fun b=>if b=Ab then (body ρ).turn (MC c body n) else .next ρ
noncomputable def F6(ρ:Rho)(k:Ag):R Ae:=(DO ρ k).bind Dp
noncomputable def Kl(ρ:Rho)(d:D)(i k l:Ag):O:=match d with
  |.tup [x,y]=>O.of ρ (Ca ρ i) fun xs=>O.of ρ (F6 ρ k) fun a=>O.of ρ (F6 ρ l) fun b=>match plD xs.length a,plD xs.length b with
    |some m,Aa n=>.next (ρ.set i (Aa (.lst ((xs.set m x).set n y),Ab)))
    |_,_=>.bad
  |_=>.bad
noncomputable def apD(ρ:Rho)(j i:Ag)(ys xs:Ac D)(n:Ae):O:=match plD xs.length n with
  | some m=>(match xs[m]? with
    |some d=>if (j != i&&(Ct xs.length&&Ct (ys.length+1)))=Ab then .next ((ρ.set i (Aa (.lst (xs.eraseIdx m),Ab))).set j (Aa (.lst (ys++[d]),Ab))) else .bad
    | none=>.bad)
  |none=>.bad
mutual
noncomputable def evS(Γ:Gam)(ρ:Rho):S->O
  |.pass=>.next ρ
  | .asg i fresh e=>O.of ρ (evE Γ ρ e) fun d=>if fresh=Ab then (if D3 Γ e=Ab then (match d with
      |.lst xs=>.next (ρ.set i (Aa (.lst xs,Ab)))
      |.dic xs=>.next (ρ.set i (Aa (.dic xs,Ab)))
      | _=>.bad) else .bad) else .next (ρ.set i (Aa (d,Ad)))
  |.asgT ts e=>O.of ρ (evE Γ ρ e) fun d=>O.of ρ (Gn ts d ρ) fun ρ'=>.next ρ'
  |.expr e=>O.of ρ (evE Γ ρ e) fun _=>.next ρ
  |.ret e=>O.of ρ (top ρ e (evE Γ ρ e)) fun d=>.ret d (D3 Γ e||(match e with | .var i=>(match ρ[i]? with|some (Aa (_,o))=>o|_=>Ad)|_=>Ad))
  |.retN=>.ret .non Ad
  |.ife c a b=>O.of ρ ((top ρ c (evE Γ ρ c)).bind BO) fun k=>if k=Ab then evSs Γ ρ a else evSs Γ ρ b
  |.fors t it body=>O.of ρ (Gs Γ ρ it) fun xs=>CU (fun x ρ'=>evSs Γ (ρ'.set t (Aa (x,Ad))) body) xs ρ
  |.forT ts it body=>O.of ρ (Gs Γ ρ it) fun xs=>CU (fun x ρ'=>O.of ρ' (E8 ts x ρ') fun ρ''=>evSs Γ ρ'' body) xs ρ
  |.whl c body=>MC (fun ρ'=>(top ρ' c (evE Γ ρ' c)).bind BO) (fun ρ'=>evSs Γ ρ' body) P5 ρ
  |.rais c as=>O.of ρ (noX (evA Γ ρ as)) fun xs=>O.of ρ (Γ.xn c xs) fun x=>.exn x ρ
  |.tryx body c x h=>match evSs Γ ρ body with
      | .exn y ρ'=>if (Γ.up y.c).contains c=Ab then (match evSs Γ (ρ'.set x (Aa (.exc y.c y.fs,Ad))) h with
          |.next ρ''=>.next (ρ''.set x Af)
          |.ret d f=>.ret d f
          | _=>.bad) else .bad
      |o=>o
  |.app i e=>O.of ρ (Ca ρ i) fun xs=>O.of ρ (evE Γ ρ e) fun d=>if Ct (xs.length+1)=Ab then .next (ρ.set i (Aa (.lst (xs++[d]),Ab))) else .bad
  |.ext i e=>O.of ρ (Ca ρ i) fun xs=>O.of ρ (evE Γ ρ e) fun d=>O.of ρ (Mw d) fun ys=>if Ct (xs.length+ys.length)=Ab then .next (ρ.set i (Aa (.lst (xs++ys),Ab))) else .bad
  |.ins i k e=>O.of ρ (Ca ρ i) fun xs=>O.of ρ ((top ρ k (evE Γ ρ k)).bind Dp) fun j=>O.of ρ (evE Γ ρ e) fun d=>if (Ct (xs.length+1)&&decide (0<=j)&&decide (j<=xs.length))=Ab then .next (ρ.set i (Aa (.lst (xs.take j.toNat++d::xs.drop j.toNat),Ab))) else .bad
  |.rev i=>O.of ρ (Ca ρ i) fun xs=>.next (ρ.set i (Aa (.lst xs.reverse,Ab)))
  |.clr i=>O.of ρ (Ca ρ i) fun _=>.next (ρ.set i (Aa (.lst [],Ab)))
  |.dput i k e=>O.of ρ (evE Γ ρ e) fun d=>O.of ρ (Qy ρ i) fun xs=>O.of ρ ((evE Γ ρ k).bind Qm) fun j=>if Ct (xs.length+1)=Ab then .next (ρ.set i (Aa (.dic (Pb xs j d),Ab))) else .bad
  |.dsd i k e=>O.of ρ (Qy ρ i) fun xs=>O.of ρ ((evE Γ ρ k).bind Qm) fun j=>O.of ρ (evE Γ ρ e) fun d=>if Ct (xs.length+1)=Ab then .next (ρ.set i (Aa (.dic (if (xs.any fun p=>p.1==j)=Ab then xs else Pb xs j d),Ab))) else .bad
  |.put i k e=>O.of ρ (evE Γ ρ e) fun d=>O.of ρ (Ca ρ i) fun xs=>O.of ρ ((top ρ k (evE Γ ρ k)).bind Dp) fun j=>match plD xs.length j with
      |some n=>.next (ρ.set i (Aa (.lst (xs.set n d),Ab)))
      |none=>.bad
  |.swp i k l=>O.of ρ (evE Γ ρ (.tup (.cons (.idx (.var i) (.var l)) (.cons (.idx (.var i) (.var k)) .nil)))) fun d=>Kl ρ d i k l
  |.apop j i e=>O.of ρ (Ca ρ j) fun ys=>O.of ρ (Ca ρ i) fun xs=>O.of ρ (evE Γ ρ e) fun d=>O.of ρ (Dp d) fun n=>apD ρ j i ys xs n
  |.brk=>.brk ρ
  |.cont=>.cont ρ
  |.rel i=>match ρ[i]? with
      |some (Aa (d,Ab))=>.next (ρ.set i (Aa (d,Ad)))
      |_=>.next ρ
noncomputable def evSs(Γ:Gam)(ρ:Rho):Ss->O
 |.nil=>.next ρ
 |.cons s ss=>(evS Γ ρ s).seq fun ρ'=>evSs Γ ρ' ss
end
structure Df where
 n:Ag
 fr:An
 body:Ss
noncomputable def Bt(n:Ag)(ds:Ac D):Rho:=ds.map (fun d=>Aa (d,Ad))++RF (n-ds.length) Af
noncomputable def isL:D->An
 |.lst _=>Ab
 |.dic _=>Ab
 |_=>Ad
noncomputable def O.ans(fr:An)(o:O):R D:=match o with
  |.ret d b=>if (fr&&(!b&&isL d))=Ab then .bad else .ok d
  |.next _=>if fr=Ab then .bad else .ok .non
  |.exn x _=>.exn x
  |_=>.bad
noncomputable def Df.run(Γ:Gam)(f:Df)(ds:Ac D):R D:=(evSs Γ (Bt f.n ds) f.body).ans f.fr
structure Prg where
 xs:An
 defs:Ag->Df
 G:Ag->D
 up:Ag->Ac Ag
 xn:Ag->Ac D->R Ex
noncomputable def EE(xs:An)(r:R D):R D:=match xs with
  | true=>(match r with
    |.exn x=>if x.fs.isEmpty=Ab then .exn x else .bad
    | r=>r)
  |false=>noX r
noncomputable def gam(P:Prg):Ag->Gam
 |0=>⟨fun _ _=>.bad,P.G,P.up,fun i=>(P.defs i).fr,P.xn⟩
 |n+1=>⟨fun i ds=>EE P.xs ((P.defs i).run (gam P n) ds),P.G,P.up,fun i=>(P.defs i).fr,P.xn⟩
end Ov
end
section
namespace Ov
open PySem
variable{α:Type}
section
variable(Γ:Gam)(ρ:Rho)
@[simp]theorem Zuk:evE Γ ρ .non=.ok .non:=rfl
@[simp]theorem Zv8(b):evE Γ ρ (.bl b)=.ok (.bl b):=rfl
@[simp]theorem Zuo(b):evE Γ ρ (.int b)=.ok (.int b):=rfl
@[simp]theorem Zuj(b):evE Γ ρ (.str b)=.ok (.str b):=rfl
@[simp]theorem Zuh(i):evE Γ ρ (.var i)=DO ρ i:=rfl
@[simp]theorem Zq1(i):evE Γ ρ (.glob i)=.ok (Γ.G i):=rfl
@[simp]theorem Zus(op a b):evE Γ ρ (.bin op a b)=(top ρ a (evE Γ ρ a)).bind fun x=>(top ρ b (evE Γ ρ b)).bind fun y=>Cr op x y:=rfl
@[simp]theorem Zv4(op a):evE Γ ρ (.un op a)=(top ρ a (evE Γ ρ a)).bind fun x=>unD op x:=rfl
@[simp]theorem Zv7(a):evE Γ ρ (.no a)=(top ρ a (evE Γ ρ a)).bind fun x=>(C4 x).bind fun b=>.ok (.bl (!b)):=rfl
@[simp]theorem Zut(es):evE Γ ρ (.and es)=evN Γ ρ es:=rfl
@[simp]theorem Zv6(es):evE Γ ρ (.or es)=evO Γ ρ es:=rfl
@[simp]theorem Zud(e):evN Γ ρ (.cons e .nil)=evE Γ ρ e:=rfl
@[simp]theorem ZqW(e e' es):evN Γ ρ (.cons e (.cons e' es))=(evE Γ ρ e).bind fun x=>(C4 x).bind fun c=>if c=Ab then evN Γ ρ (.cons e' es) else .ok (.bl Ad):=rfl
@[simp]theorem Zuc(e):evO Γ ρ (.cons e .nil)=evE Γ ρ e:=rfl
@[simp]theorem ZqV(e e' es):evO Γ ρ (.cons e (.cons e' es))=(evE Γ ρ e).bind fun x=>(C4 x).bind fun c=>if c=Ab then .ok (.bl Ab) else evO Γ ρ (.cons e' es):=rfl
@[simp]theorem Zur(op a b):evE Γ ρ (.cmp op a b)=(top ρ a (evE Γ ρ a)).bind fun x=>(top ρ b (evE Γ ρ b)).bind fun y=>BE op x y:=rfl
@[simp]theorem Zq4(op op' a b c):evE Γ ρ (.cmp2 op op' a b c)=(top ρ a (evE Γ ρ a)).bind fun x=>(top ρ b (evE Γ ρ b)).bind fun y=>(BE op x y).bind fun z=>(C4 z).bind fun k=>if k=Ab then (top ρ c (evE Γ ρ c)).bind fun u=>BE op' y u else .ok (.bl Ad):=rfl
@[simp]theorem Zum(c a b):evE Γ ρ (.ite c a b)=(top ρ c (evE Γ ρ c)).bind fun x=>(BO x).bind fun k=>if k=Ab then evE Γ ρ a else evE Γ ρ b:=rfl
@[simp]theorem Zq5(f as):evE Γ ρ (.call f as)=(evB Γ ρ as).bind fun xs=>(Γ.F f xs).bind fun d=>if Hg ρ as=Ab then .ok d else if ID (Γ.fr f) d=Ab then .ok d else .bad:=rfl
@[simp]theorem Ma(f as):evE Γ ρ (.bi f as)=(evB Γ ρ as).bind fun xs=>biD f xs:=rfl
@[simp]theorem Zun(a ks):evE Γ ρ (.isi a ks)=(top ρ a (evE Γ ρ a)).bind fun x=>FB Γ.up ks x:=rfl
@[simp]theorem Zup(a i):evE Γ ρ (.idx a i)=(top ρ a (evE Γ ρ a)).bind fun x=>(top ρ i (evE Γ ρ i)).bind fun y=>Ck x y:=rfl
@[simp]theorem Zv5(a lo hi):evE Γ ρ (.sl a lo hi)=(top ρ a (evE Γ ρ a)).bind fun x=>(top ρ lo (evE Γ ρ lo)).bind fun l=>(slE lo l).bind fun l'=>(top ρ hi (evE Γ ρ hi)).bind fun h=>(slE hi h).bind fun h'=>slD x l' h':=rfl
@[simp]theorem Zui(es):evE Γ ρ (.tup es)=(evA Γ ρ es).bind fun xs=>.ok (.tup xs):=rfl
@[simp]theorem Zul(es):evE Γ ρ (.lst es)=(evA Γ ρ es).bind fun xs=>.ok (.lst xs):=rfl
noncomputable def cG(Γ:Gam)(ρ:Rho)(t:Ag)(c:E):D->R An:=fun x=>(top (ρ.set t (Aa (x,Ad))) c (evE Γ (ρ.set t (Aa (x,Ad))) c)).bind BO
noncomputable def cF(Γ:Gam)(ρ:Rho)(t:Ag)(elt:E):D->R D:=fun x=>evE Γ (ρ.set t (Aa (x,Ad))) elt
noncomputable def mkL(r:R (Ac D)):R D:=(noX r).bind fun ys=>.ok (.lst ys)
@[simp]theorem ZvG(ys):mkL (.ok ys)=.ok (.lst ys):=rfl
@[simp]theorem Zq3(elt t it c):evE Γ ρ (.comp elt t it c)=(evI Γ ρ it).bind fun xs=>mkL (Bg (cG Γ ρ t c) (cF Γ ρ t elt) xs):=rfl
noncomputable def cGT(Γ:Gam)(ρ:Rho)(ts:Ac Ag)(c:E):D->R An:=fun x=>(E8 ts x ρ).bind fun ρ'=>(top ρ' c (evE Γ ρ' c)).bind BO
noncomputable def cFT(Γ:Gam)(ρ:Rho)(ts:Ac Ag)(elt:E):D->R D:=fun x=>(E8 ts x ρ).bind fun ρ'=>evE Γ ρ' elt
@[simp]theorem Zo7(elt ts it c):evE Γ ρ (.compT elt ts it c)=(evI Γ ρ it).bind fun xs=>mkL (Bg (cGT Γ ρ ts c) (cFT Γ ρ ts elt) xs):=rfl
@[simp]theorem Vk(it):evE Γ ρ (.tupI it)=(evI Γ ρ it).bind fun xs=>.ok (.tup xs):=rfl
@[simp]theorem Zq2:evE Γ ρ .dnew=.ok (.dic []):=rfl
@[simp]theorem Zuq(o f):evE Γ ρ (.fld o f)=(top ρ o (evE Γ ρ o)).bind fun x=>Qv x f:=rfl
@[simp]theorem Zuv:evA Γ ρ .nil=.ok []:=rfl
@[simp]theorem NR(e es):evA Γ ρ (.cons e es)=(evE Γ ρ e).bind fun x=>(evA Γ ρ es).bind fun xs=>.ok (x::xs):=rfl
@[simp]theorem Zuu:evB Γ ρ .nil=.ok []:=rfl
@[simp]theorem NQ(e es):evB Γ ρ (.cons e es)=(top ρ e (evE Γ ρ e)).bind fun x=>(evB Γ ρ es).bind fun xs=>.ok (x::xs):=rfl
@[simp]theorem Zw4(a):evI Γ ρ (.e a)=(evE Γ ρ a).bind B5:=rfl
@[simp]theorem Zuf(a):evI Γ ρ (.rng a)=(top ρ a (evE Γ ρ a)).bind fun x=>(Dp x).bind fun j=>CM 0 j:=rfl
@[simp]theorem Vj(a b):evI Γ ρ (.rng2 a b)=(top ρ a (evE Γ ρ a)).bind fun x=>(top ρ b (evE Γ ρ b)).bind fun y=>(Dp x).bind fun i=>(Dp y).bind fun j=>CM i j:=rfl
@[simp]theorem Zue(a b):evI Γ ρ (.zip a b)=(evE Γ ρ a).bind fun x=>(evE Γ ρ b).bind fun y=>(B5 x).bind fun xs=>(B5 y).bind fun ys=>.ok (CT xs ys):=rfl
@[simp]theorem Zq0(a b c):evI Γ ρ (.zip3 a b c)=(evE Γ ρ a).bind fun x=>(evE Γ ρ b).bind fun y=>(evE Γ ρ c).bind fun z=>PF x y z:=rfl
@[simp]theorem Zug(a):evI Γ ρ (.enm a)=(evE Γ ρ a).bind fun x=>(B5 x).bind fun xs=>.ok (FC 0 xs):=rfl
@[simp]theorem ZqX(a b):Gs Γ ρ (.zip a b)=evI Γ ρ (.zip a b):=rfl
@[simp]theorem Zo5(a b c):Gs Γ ρ (.zip3 a b c)=evI Γ ρ (.zip3 a b c):=rfl
@[simp]theorem ZqZ(a):Gs Γ ρ (.enm a)=evI Γ ρ (.enm a):=rfl
@[simp]theorem Zv3(a):Gs Γ ρ (.e a)=(evE Γ ρ a).bind B5:=rfl
@[simp]theorem ZqY(a):Gs Γ ρ (.rng a)=evI Γ ρ (.rng a):=rfl
@[simp]theorem Zo6(a b):Gs Γ ρ (.rng2 a b)=evI Γ ρ (.rng2 a b):=rfl
variable(r:R D)
@[simp]theorem Zrp(i):top ρ (.var i) r=Ee ρ i:=rfl
@[simp]theorem Zrs:top ρ .non r=r:=rfl
@[simp]theorem Zvd(b):top ρ (.bl b) r=r:=rfl
@[simp]theorem Zrw(b):top ρ (.int b) r=r:=rfl
@[simp]theorem Zrr(b):top ρ (.str b) r=r:=rfl
@[simp]theorem Zqf(b):top ρ (.glob b) r=r:=rfl
@[simp]theorem ZrA(op a b):top ρ (.bin op a b) r=r:=rfl
@[simp]theorem Zu9(op a):top ρ (.un op a) r=r:=rfl
@[simp]theorem Zvc(a):top ρ (.no a) r=r:=rfl
@[simp]theorem ZrB(a):top ρ (.and a) r=r:=rfl
@[simp]theorem Zvb(a):top ρ (.or a) r=r:=rfl
@[simp]theorem Zrz(op a b):top ρ (.cmp op a b) r=r:=rfl
@[simp]theorem Zqi(op op' a b c):top ρ (.cmp2 op op' a b c) r=r:=rfl
@[simp]theorem Zru(a b c):top ρ (.ite a b c) r=r:=rfl
@[simp]theorem Zqj(a b):top ρ (.call a b) r=r:=rfl
@[simp]theorem Zve(a b):top ρ (.bi a b) r=r:=rfl
@[simp]theorem Zrv(a b):top ρ (.isi a b) r=r:=rfl
@[simp]theorem Zrx(a b):top ρ (.idx a b) r=r:=rfl
@[simp]theorem Zva(a b c):top ρ (.sl a b c) r=r:=rfl
@[simp]theorem Zrq(a):top ρ (.tup a) r=r:=rfl
@[simp]theorem Zrt(a):top ρ (.lst a) r=r:=rfl
@[simp]theorem Zqh(a b c d):top ρ (.comp a b c d) r=r:=rfl
@[simp]theorem Zry(a b):top ρ (.fld a b) r=r:=rfl
@[simp]theorem ZmP(a b c d):top ρ (.compT a b c d) r=r:=rfl
@[simp]theorem U2(a):top ρ (.tupI a) r=r:=rfl
@[simp]theorem Zqg:top ρ .dnew r=r:=rfl
end
@[simp]theorem ZmD(x:D×An)(ρ:Rho):Ee (Aa x::ρ) 0=.ok x.1:=rfl
@[simp]theorem ZmE(x:D)(ρ:Rho):DO (Aa (x,Ad)::ρ) 0=.ok x:=rfl
@[simp]theorem Zme(x:Sl)(ρ:Rho)(i:Ag)[NeZero i]:Ee (x::ρ) i=Ee ρ (i-1):=by
 obtain⟨j,rfl⟩:∃ j,i=j+1:=⟨i-1,by have:=IF i;omega⟩
 rfl
@[simp]theorem Zmf(x:Sl)(ρ:Rho)(i:Ag)[NeZero i]:DO (x::ρ) i=DO ρ (i-1):=by
 obtain⟨j,rfl⟩:∃ j,i=j+1:=⟨i-1,by have:=IF i;omega⟩
 rfl
noncomputable def shV(ρ:Rho)(i:Ag):An:=match ρ[i]? with
    |some (Aa (_,Ab))=>Ad
    |_=>Ab
@[simp]theorem Zqn(x:D)(b:An)(ρ:Rho):shV (Aa (x,b)::ρ) 0=!b:=by cases b<;>rfl
@[simp]theorem Znc(ρ:Rho):shV (Af::ρ) 0=Ab:=rfl
@[simp]theorem Znd(x:Sl)(ρ:Rho)(i:Ag)[NeZero i]:shV (x::ρ) i=shV ρ (i-1):=by
 obtain⟨j,rfl⟩:∃ j,i=j+1:=⟨i-1,by have:=IF i;omega⟩
 rfl
section
variable(ρ:Rho)
@[simp]theorem Zr1(i):shE ρ (.var i)=shV ρ i:=rfl
@[simp]theorem Zr4:shE ρ .non=Ab:=rfl
@[simp]theorem Zvt(b):shE ρ (.bl b)=Ab:=rfl
@[simp]theorem Zr8(b):shE ρ (.int b)=Ab:=rfl
@[simp]theorem Zr3(b):shE ρ (.str b)=Ab:=rfl
@[simp]theorem Zqq(b):shE ρ (.glob b)=Ab:=rfl
@[simp]theorem Zsc(op a b):shE ρ (.bin op a b)=Ab:=rfl
@[simp]theorem Zvp(op a):shE ρ (.un op a)=Ab:=rfl
@[simp]theorem Zvs(a):shE ρ (.no a)=Ab:=rfl
@[simp]theorem Zsd(a):shE ρ (.and a)=Ab:=rfl
@[simp]theorem Zvr(a):shE ρ (.or a)=Ab:=rfl
@[simp]theorem Zsb(op a b):shE ρ (.cmp op a b)=Ab:=rfl
@[simp]theorem Zqt(op op' a b c):shE ρ (.cmp2 op op' a b c)=Ab:=rfl
@[simp]theorem Zr6(a b c):shE ρ (.ite a b c)=Ab:=rfl
@[simp]theorem Zqu(a b):shE ρ (.call a b)=Ab:=rfl
@[simp]theorem Zvu(a b):shE ρ (.bi a b)=Ab:=rfl
@[simp]theorem Zr7(a b):shE ρ (.isi a b)=Ab:=rfl
@[simp]theorem Zr9(a b):shE ρ (.idx a b)=Ab:=rfl
@[simp]theorem Zvq(a b c):shE ρ (.sl a b c)=Ab:=rfl
@[simp]theorem Zr2(a):shE ρ (.tup a)=Ab:=rfl
@[simp]theorem Zr5(a):shE ρ (.lst a)=Ab:=rfl
@[simp]theorem Zqs(a b c d):shE ρ (.comp a b c d)=Ab:=rfl
@[simp]theorem Zne(a b c d):shE ρ (.compT a b c d)=Ab:=rfl
@[simp]theorem Zqp(a):shE ρ (.tupI a)=Ab:=rfl
@[simp]theorem Zqr:shE ρ .dnew=Ab:=rfl
@[simp]theorem Zsa(a b):shE ρ (.fld a b)=Ab:=rfl
@[simp]theorem Zqo:Hg ρ .nil=Ab:=rfl
@[simp]theorem TH(e es):Hg ρ (.cons e es)=(shE ρ e&&Hg ρ es):=rfl
end
@[simp]theorem Zml(ρ:Rho):DL [] [] ρ=Aa ρ:=rfl
@[simp]theorem Zku(t ts d ds)(ρ:Rho):DL (t::ts) (d::ds) ρ=DL ts ds (ρ.set t (Aa (d,Ad))):=rfl
@[simp]theorem UT(ts ds)(ρ:Rho):Gn ts (.lst ds) ρ=match DL ts ds ρ with
  |some ρ'=>.ok ρ'
  |none=>.bad:=rfl
@[simp]theorem ZpF(ts ds)(ρ:Rho):Gn ts (.tup ds) ρ=E8 ts (.tup ds) ρ:=rfl
@[simp]theorem M3(ts ds)(ρ:Rho):E8 ts (.tup ds) ρ=match DL ts ds ρ with
  |some ρ'=>.ok ρ'
  |none=>.bad:=rfl
@[simp]theorem Zrd{β:Type}(c:Prop)[EF c](a b:R α)(f:α->R β):(if c then a else b).bind f=if c then a.bind f else b.bind f:=by split<;>rfl
@[simp]theorem ZvE(ρ:Rho)(c:Prop)[EF c](a b:R α)(f:α->O):O.of ρ (if c then a else b) f=if c then O.of ρ a f else O.of ρ b f:=by split<;>rfl
@[simp]theorem Ztm{β:Type}(ρ:Rho)(a:R α)(g:α->R β)(f:β->O):O.of ρ (a.bind g) f=O.of ρ a fun x=>O.of ρ (g x) f:=by cases a<;>rfl
@[simp]theorem Zsf(c:Prop)[EF c](a b:O)(f:Rho->O):O.seq (if c then a else b) f=if c then a.seq f else b.seq f:=by split<;>rfl
@[simp]theorem Zp5(c:Prop)[EF c](a b:O)(f:Rho->O):O.turn (if c then a else b) f=if c then a.turn f else b.turn f:=by split<;>rfl
@[simp]theorem ZuS(fr:An)(c:Prop)[EF c](a b:O):O.ans fr (if c then a else b)=if c then a.ans fr else b.ans fr:=by split<;>rfl
@[simp]theorem Zqv(ρ f):O.seq (.next ρ) f=f ρ:=rfl
@[simp]theorem Zse(d b f):O.seq (.ret d b) f=.ret d b:=rfl
@[simp]theorem Zsh(ρ f):O.seq (.brk ρ) f=.brk ρ:=rfl
@[simp]theorem Zqw(ρ f):O.seq (.cont ρ) f=.cont ρ:=rfl
@[simp]theorem Zsg(x ρ f):O.seq (.exn x ρ) f=.exn x ρ:=rfl
@[simp]theorem Zsi(f):O.seq .bad f=.bad:=rfl
@[simp]theorem ZmL(ρ f):O.turn (.next ρ) f=f ρ:=rfl
@[simp]theorem Zp4(d b f):O.turn (.ret d b) f=.ret d b:=rfl
@[simp]theorem Zp7(ρ f):O.turn (.brk ρ) f=.next ρ:=rfl
@[simp]theorem ZmM(ρ f):O.turn (.cont ρ) f=f ρ:=rfl
@[simp]theorem Zp6(x ρ f):O.turn (.exn x ρ) f=.exn x ρ:=rfl
@[simp]theorem Zp8(f):O.turn .bad f=.bad:=rfl
@[simp]theorem Zrf(ρ):O.ans Ad (.next ρ)=.ok .non:=rfl
@[simp]theorem ZuR(d b):O.ans Ad (.ret d b)=.ok d:=rfl
@[simp]theorem Zre(d b):O.ans Ab (.ret d b)=if (!b&&isL d)=Ab then .bad else .ok d:=rfl
@[simp]theorem ZtL(d):isL (.lst d)=Ab:=rfl
@[simp]theorem ZtK(d):isL (.tup d)=Ad:=rfl
@[simp]theorem ZtM(d):isL (.int d)=Ad:=rfl
@[simp]theorem ZuT(fr x ρ):O.ans fr (.exn x ρ)=.exn x:=rfl
@[simp]theorem ZuU(fr):O.ans fr .bad=.bad:=rfl
@[simp]theorem Zwi(i j:Ae):Cr .Add (.int i) (.int j)=.ok (.int (i+j)):=rfl
@[simp]theorem Zvk(i j:Ae):Cr .Sub (.int i) (.int j)=.ok (.int (i-j)):=rfl
@[simp]theorem Zg(i j:Ae):Cr .Mult (.int i) (.int j)=if (Da i j||D0 i j)=Ab then .ok (.int (i*j)) else .bad:=rfl
@[simp]theorem Ww(i j:Ae):Cr .FloorDiv (.int i) (.int j)=if 0<j/\j<1073741824 then .ok (.int (i / j)) else .bad:=rfl
@[simp]theorem Zh(i j:Ae):Cr .Mod (.int i) (.int j)=if 0<j then .ok (.int (i%j)) else .bad:=rfl
@[simp]theorem XH(i j:Ae):Cr .Pow (.int i) (.int j)=if (0<=j/\j<=1000000)/\(-(18446744073709551616:Ae)<i/\i<18446744073709551616) then .ok (.int (i ^ j.toNat)) else .bad:=rfl
@[simp]theorem Zq(x y:Ah):Cr .Add (.str x) (.str y)=if Ct (x.length+y.length)=Ab then .ok (.str (x++y)) else .bad:=rfl
@[simp]theorem Mj(x y:Ac D):Cr .Add (.lst x) (.lst y)=if Ct (x.length+y.length)=Ab then .ok (.lst (x++y)) else .bad:=rfl
@[simp]theorem Zp(x y:Ac D):Cr .Add (.tup x) (.tup y)=if (!x.isEmpty&&Ct (x.length+y.length))=Ab then .ok (.tup (x++y)) else .bad:=rfl
@[simp]theorem ZwN(i:Ae):unD .USub (.int i)=.ok (.int (-i)):=rfl
@[simp]theorem eP(x y:D):BE .Eq x y=if (flD 5 x&&flD 5 y)=Ab then .ok (.bl (eqD x y)) else .bad:=rfl
@[simp]theorem dN(x y:D):BE .NotEq x y=if (flD 5 x&&flD 5 y)=Ab then .ok (.bl (!eqD x y)) else .bad:=rfl
@[simp]theorem ZwO(i j:Ae):BE .Lt (.int i) (.int j)=.ok (.bl (decide (i<j))):=rfl
@[simp]theorem ZwR(i j:Ae):BE .LtE (.int i) (.int j)=.ok (.bl (decide (i<=j))):=rfl
@[simp]theorem Zw1(i j:Ae):BE .Gt (.int i) (.int j)=.ok (.bl (decide (j<i))):=rfl
@[simp]theorem Zw2(i j:Ae):BE .GtE (.int i) (.int j)=.ok (.bl (decide (j<=i))):=rfl
@[simp]theorem fI(x:D)(ys:Ac D):BE .In x (.lst ys)=if (flD 5 x&&ys.all (flD 5))=Ab then .ok (.bl (ys.any fun y=>eqD y x)) else .bad:=rfl
@[simp]theorem fH(x:D)(ys:Ac D):BE .In x (.tup ys)=if (flD 5 x&&ys.all (flD 5))=Ab then .ok (.bl (ys.any fun y=>eqD y x)) else .bad:=rfl
@[simp]theorem dL(x:D)(ys:Ac D):BE .NotIn x (.lst ys)=if (flD 5 x&&ys.all (flD 5))=Ab then .ok (.bl (!ys.any fun y=>eqD y x)) else .bad:=rfl
@[simp]theorem dJ(x:D)(ys:Ac D):BE .NotIn x (.tup ys)=if (flD 5 x&&ys.all (flD 5))=Ab then .ok (.bl (!ys.any fun y=>eqD y x)) else .bad:=rfl
@[simp]theorem ZvQ:BE .Is .non .non=.ok (.bl Ab):=rfl
@[simp]theorem ZvS(i):BE .Is (.int i) .non=.ok (.bl Ad):=rfl
@[simp]theorem ZvP(i):BE .Is (.tup i) .non=.ok (.bl Ad):=rfl
@[simp]theorem ZvR(i):BE .Is (.lst i) .non=.ok (.bl Ad):=rfl
@[simp]theorem ZwU(a b):BE .Is (.bl a) (.bl b)=.ok (.bl (a==b)):=rfl
@[simp]theorem ZvN(a b):BE .IsNot (.bl a) (.bl b)=.ok (.bl (!(a==b))):=rfl
@[simp]theorem ZtA:BE .IsNot .non .non=.ok (.bl Ad):=rfl
@[simp]theorem ZtC(i):BE .IsNot (.int i) .non=.ok (.bl Ab):=rfl
@[simp]theorem Ztz(i):BE .IsNot (.tup i) .non=.ok (.bl Ab):=rfl
@[simp]theorem ZtB(i):BE .IsNot (.lst i) .non=.ok (.bl Ab):=rfl
@[simp]theorem ZuB(i j:Ae):eqD (.int i) (.int j)=(i==j):=rfl
@[simp]theorem Zv9(i j:An):eqD (.bl i) (.bl j)=(i==j):=rfl
@[simp]theorem Zuy(i j:Ah):eqD (.str i) (.str j)=(i==j):=rfl
@[simp]theorem Zux(i j:Ac D):eqD (.tup i) (.tup j)=eqDs i j:=rfl
@[simp]theorem ZuA(i j:Ac D):eqD (.lst i) (.lst j)=eqDs i j:=rfl
@[simp]theorem Zuz:eqD .non .non=Ab:=rfl
@[simp]theorem ZlC(i):eqD .non (.int i)=Ad:=rfl
@[simp]theorem ZlD(i):eqD (.int i) .non=Ad:=rfl
@[simp]theorem Zq6:eqDs [] []=Ab:=rfl
@[simp]theorem Le(x y:D)(xs ys:Ac D):eqDs (x::xs) (y::ys)=(eqD x y&&eqDs xs ys):=rfl
@[simp]theorem Zt2(n)(i:Ae):flD n (.int i)=Ab:=by cases n<;>rfl
@[simp]theorem Zv2(n)(i:An):flD n (.bl i)=Ab:=by cases n<;>rfl
@[simp]theorem Zt0(n)(i:Ah):flD n (.str i)=Ab:=by cases n<;>rfl
@[simp]theorem Zt1(n):flD n .non=Ab:=by cases n<;>rfl
@[simp]theorem ZqB(i):flD 5 (.tup i)=i.all (flD 4):=rfl
@[simp]theorem ZqG(i):flD 5 (.lst i)=i.all (flD 4):=rfl
@[simp]theorem ZqC(i):flD 4 (.tup i)=i.all (flD 3):=rfl
@[simp]theorem ZqH(i):flD 4 (.lst i)=i.all (flD 3):=rfl
@[simp]theorem ZqD(i):flD 3 (.tup i)=i.all (flD 2):=rfl
@[simp]theorem ZqI(i):flD 3 (.lst i)=i.all (flD 2):=rfl
@[simp]theorem ZqE(i):flD 2 (.tup i)=i.all (flD 1):=rfl
@[simp]theorem ZqJ(i):flD 2 (.lst i)=i.all (flD 1):=rfl
@[simp]theorem ZqF(i):flD 1 (.tup i)=i.all (flD 0):=rfl
@[simp]theorem ZqK(i):flD 1 (.lst i)=i.all (flD 0):=rfl
@[simp]theorem Zrn(b):BO (.bl b)=.ok b:=rfl
@[simp]theorem Zqc(i):BO (.int i)=.ok (i != 0):=rfl
@[simp]theorem Zqb(i):BO (.lst i)=.ok (!i.isEmpty):=rfl
@[simp]theorem Zp9(i):BO (.tup i)=.ok (!i.isEmpty):=rfl
@[simp]theorem Zqa:BO .non=.ok Ad:=rfl
@[simp]theorem Zro(b):Dt (.bl b)=.ok b:=rfl
@[simp]theorem Zqe(i):Dt (.int i)=.ok (i != 0):=rfl
@[simp]theorem Zqd:Dt .non=.ok Ad:=rfl
@[simp]theorem ZpR:EX []=.ok Ab:=rfl
@[simp]theorem M7(x r):EX (x::r)=(Dt x).bind fun b=>(EX r).bind fun c=>.ok (b&&c):=rfl
@[simp]theorem ZpQ:El []=.ok Ad:=rfl
@[simp]theorem M6(x r):El (x::r)=(Dt x).bind fun b=>(El r).bind fun c=>.ok (b||c):=rfl
@[simp]theorem ZuJ(b)(d):EE b (.ok d)=.ok d:=by cases b<;>rfl
@[simp]theorem Zq8(b):EE b .bad=.bad:=by cases b<;>rfl
@[simp]theorem Zq7(c):EE Ab (.exn ⟨c,[]⟩)=.exn ⟨c,[]⟩:=rfl
@[simp]theorem Zmv(r):EE Ad r=noX r:=rfl
@[simp]theorem Ztn(a:α):noX (.ok a)=.ok a:=rfl
@[simp]theorem Ztp:noX (.bad:R α)=.bad:=rfl
@[simp]theorem Zto(x):noX (.exn x:R α)=.bad:=rfl
@[simp]theorem ZuP(b):C4 (.bl b)=.ok b:=rfl
@[simp]theorem Nn(b):Dp (.int b)=.ok b:=rfl
@[simp]theorem ZpK(b):Mw (.lst b)=.ok b:=rfl
@[simp]theorem ZpI(b):B5 (.lst b)=.ok b:=rfl
@[simp]theorem ZpH(b):B5 (.tup b)=.ok b:=rfl
@[simp]theorem cQ(xs i):Ck (.lst xs) (.int i)=Dr xs i:=rfl
@[simp]theorem cP(xs i):Ck (.tup xs) (.int i)=Dr xs i:=rfl
@[simp]theorem ZwQ(xs):biD .len [.lst xs]=.ok (.int xs.length):=rfl
@[simp]theorem ZwP(xs):biD .len [.tup xs]=.ok (.int xs.length):=rfl
@[simp]theorem Zxb(i):biD .abs [.int i]=.ok (.int (if i<0 then -i else i)):=rfl
@[simp]theorem ZvI(i j):biD .max [.int i,.int j]=.ok (.int (if i<j then j else i)):=rfl
@[simp]theorem ZvH(i j):biD .min [.int i,.int j]=.ok (.int (if j<i then j else i)):=rfl
@[simp]theorem ZwV(i):biD .int [.int i]=.ok (.int i):=rfl
@[simp]theorem ZwW(i):biD .int [.bl i]=.ok (.int (b2i i)):=rfl
@[simp]theorem ZvM(i):biD .list [.lst i]=.ok (.lst i):=rfl
@[simp]theorem YK(i):biD .list [.tup i]=.ok (.lst i):=rfl
@[simp]theorem Zrm(i):biD .tuple [.lst i]=.ok (.tup i):=rfl
@[simp]theorem Zrl(i):biD .tuple [.tup i]=.ok (.tup i):=rfl
@[simp]theorem eK(i):biD .all [.lst i]=(EX i).bind fun b=>.ok (.bl b):=rfl
@[simp]theorem Zxa(i):biD .any [.lst i]=(El i).bind fun b=>.ok (.bl b):=rfl
@[simp]theorem Zw9(i):biD .any [.tup i]=(El i).bind fun b=>.ok (.bl b):=rfl
@[simp]theorem ZwF(i):biD .sum [.lst i]=(Fe 0 i).bind fun b=>.ok (.int b):=rfl
@[simp]theorem ZwE(i):biD .sum [.tup i]=(Fe 0 i).bind fun b=>.ok (.int b):=rfl
@[simp]theorem Zqm(i):biD .sorted [.lst i]=(Om i).bind fun b=>.ok (.lst b):=rfl
@[simp]theorem ZwG(xs k):biD .stp [.lst xs,.int k]=.ok (.lst (QI k.toNat xs)):=rfl
@[simp]theorem ZwJ(xs):biD .rvs [.lst xs]=.ok (.lst xs.reverse):=rfl
@[simp]theorem ZvK(xs):biD .lset [.lst xs]=Qh xs:=rfl
@[simp]theorem Zvf(x y):biD .tmin [x,y]=mmD Ad x y:=rfl
@[simp]theorem Zwr(x y):biD .tlt [x,y]=QE x y:=rfl
@[simp]theorem Zvg(x y):biD .tmax [x,y]=mmD Ab x y:=rfl
@[simp]theorem ZuK(xs x):biD .count [.lst xs,x]=if (flD 5 x&&xs.all (flD 5))=Ab then .ok (.int ((xs.filter fun y=>eqD y x).length:Ag)) else .bad:=rfl
@[simp]theorem fA(xs lo hi):slD (.tup xs) lo hi=if (Gq xs.length 0 lo==0&&Gq xs.length xs.length hi==xs.length)=Ab then .bad else .ok (.tup (Hz xs lo hi)):=rfl
@[simp]theorem Zxm(xs lo hi):slD (.lst xs) lo hi=.ok (.lst (Hz xs lo hi)):=rfl
@[simp]theorem ZrY(d):slE .non d=.ok Af:=rfl
@[simp]theorem ZrZ(k i):slE (.int k) (.int i)=.ok (Aa i):=rfl
@[simp]theorem ZrX(k i):slE (.var k) (.int i)=.ok (Aa i):=rfl
@[simp]theorem Zr0(op a b i):slE (.bin op a b) (.int i)=.ok (Aa i):=rfl
@[simp]theorem Zvn(op a i):slE (.un op a) (.int i)=.ok (Aa i):=rfl
@[simp]theorem Zvo(b as i):slE (.bi b as) (.int i)=.ok (Aa i):=rfl
@[simp]theorem ZtF(up ks):FB up ks .non=if ks.any Em=Ab then .bad else .ok (.bl (ks.any fun k=>kiD up k .non)):=rfl
@[simp]theorem ZvO(up ks b):FB up ks (.bl b)=if ks.any Em=Ab then .bad else .ok (.bl (ks.any fun k=>kiD up k (.bl b))):=rfl
@[simp]theorem ZtH(up ks b):FB up ks (.int b)=if ks.any Em=Ab then .bad else .ok (.bl (ks.any fun k=>kiD up k (.int b))):=rfl
@[simp]theorem ZtE(up ks b):FB up ks (.str b)=if ks.any Em=Ab then .bad else .ok (.bl (ks.any fun k=>kiD up k (.str b))):=rfl
@[simp]theorem ZtD(up ks b):FB up ks (.tup b)=if ks.any Em=Ab then .bad else .ok (.bl (ks.any fun k=>kiD up k (.tup b))):=rfl
@[simp]theorem ZtG(up ks b):FB up ks (.lst b)=if ks.any Em=Ab then .bad else .ok (.bl (ks.any fun k=>kiD up k (.lst b))):=rfl
@[simp]theorem ZtI(up ks c f):FB up ks (.exc c f)=if ks.all Em=Ab then .ok (.bl (ks.any fun k=>kiD up k (.exc c f))) else .bad:=rfl
@[simp]theorem Zrb(c):Em (.cls c)=Ab:=rfl
@[simp]theorem Zpi:Em .verr=Ab:=rfl
@[simp]theorem Zra:Em .int=Ad:=rfl
@[simp]theorem Zpk:Em .bool=Ad:=rfl
@[simp]theorem Zq9:Em .str=Ad:=rfl
@[simp]theorem Zpj:Em .list=Ad:=rfl
@[simp]theorem Zmw:Em .tuple=Ad:=rfl
@[simp]theorem Zmq(up i):kiD up .int (.int i)=Ab:=rfl
@[simp]theorem Zmp(up):kiD up .int .non=Ad:=rfl
@[simp]theorem Zlr(up i):kiD up .bool (.int i)=Ad:=rfl
@[simp]theorem Zmo(up i):kiD up .int (.tup i)=Ad:=rfl
@[simp]theorem Zms(up i):kiD up .bool (.bl i)=Ab:=rfl
@[simp]theorem Zlq(up):kiD up .bool .non=Ad:=rfl
@[simp]theorem Zlp(up i):kiD up .list (.lst i)=Ab:=rfl
@[simp]theorem ZjE(up i):kiD up .tuple (.tup i)=Ab:=rfl
@[simp]theorem ZjF(up):kiD up .tuple .non=Ad:=rfl
@[simp]theorem Zmr(up c k f):kiD up (.cls c) (.exc k f)=(up k).contains c:=rfl
@[simp]theorem Zlo(up k f):kiD up .verr (.exc k f)=Ab:=rfl
theorem Lr{xs:Ac D}{i:Ae}{d:D}(h0:0<=i)(h:xs[i.toNat]?=Aa d):Dr xs i=.ok d:=by
 unfold Dr plD;obtain⟨h1,_⟩:=AM.mp h;rw[AC h0,AC (by omega)]
 dsimp only;rw[h]
section
variable(Γ:Gam)(ρ:Rho)
@[simp]theorem ZqL:evSs Γ ρ .nil=.next ρ:=rfl
noncomputable def ED(Γ:Gam)(ss:Ss)(o:O):O:=o.seq fun ρ'=>evSs Γ ρ' ss
@[simp]theorem Zo3(s ss):evSs Γ ρ (.cons s ss)=ED Γ ss (evS Γ ρ s):=rfl
@[simp]theorem ZtT(ss):ED Γ ss (.next ρ)=evSs Γ ρ ss:=rfl
@[simp]theorem ZvU(ss d b):ED Γ ss (.ret d b)=.ret d b:=rfl
@[simp]theorem ZvY(ss):ED Γ ss (.brk ρ)=.brk ρ:=rfl
@[simp]theorem ZtU(ss):ED Γ ss (.cont ρ)=.cont ρ:=rfl
@[simp]theorem ZvX(ss x):ED Γ ss (.exn x ρ)=.exn x ρ:=rfl
@[simp]theorem ZvZ(ss):ED Γ ss .bad=.bad:=rfl
@[simp]theorem ZvW(ss)(c:Prop)[EF c](a b:O):ED Γ ss (if c then a else b)=if c then ED Γ ss a else ED Γ ss b:=by split<;>rfl
@[simp]theorem ZvV(o:O):ED Γ .nil o=o:=by cases o<;>rfl
noncomputable def CC(Γ:Gam)(t:Ag)(body:Ss):D->Rho->O:=fun x ρ'=>evSs Γ (ρ'.set t (Aa (x,Ad))) body
noncomputable def whC(Γ:Gam)(c:E):Rho->R An:=fun ρ'=>(top ρ' c (evE Γ ρ' c)).bind BO
noncomputable def whB(Γ:Gam)(body:Ss):Rho->O:=fun ρ'=>evSs Γ ρ' body
noncomputable def Qu(Γ:Gam)(t:Ag)(body:Ss)(ρ:Rho)(r:R (Ac D)):O:=O.of ρ r fun xs=>CU (CC Γ t body) xs ρ
@[simp]theorem ZtW(t body xs):Qu Γ t body ρ (.ok xs)=CU (CC Γ t body) xs ρ:=rfl
@[simp]theorem ZqP:evS Γ ρ .pass=.next ρ:=rfl
@[simp]theorem Zua(i e):evS Γ ρ (.asg i Ad e)=O.of ρ (evE Γ ρ e) fun d=>.next (ρ.set i (Aa (d,Ad))):=rfl
@[simp]theorem ZqS(e):evS Γ ρ (.expr e)=O.of ρ (evE Γ ρ e) fun _=>.next ρ:=rfl
@[simp]theorem Zt5(e):evS Γ ρ (.ret e)=O.of ρ (top ρ e (evE Γ ρ e)) fun d=>.ret d (D3 Γ e||(match e with | .var i=>(match ρ[i]? with|some (Aa (_,o))=>o|_=>Ad)|_=>Ad)):=rfl
@[simp]theorem ZqN:evS Γ ρ .retN=.ret .non Ad:=rfl
@[simp]theorem Zt6(c a b):evS Γ ρ (.ife c a b)=O.of ρ ((top ρ c (evE Γ ρ c)).bind BO) fun k=>if k=Ab then evSs Γ ρ a else evSs Γ ρ b:=rfl
@[simp]theorem ZqQ(t it body):evS Γ ρ (.fors t it body)=Qu Γ t body ρ (Gs Γ ρ it):=rfl
noncomputable def Kh(Γ:Gam)(ts:Ac Ag)(body:Ss):D->Rho->O:=fun x ρ'=>O.of ρ' (E8 ts x ρ') fun ρ''=>evSs Γ ρ'' body
noncomputable def P7(Γ:Gam)(ts:Ac Ag)(body:Ss)(ρ:Rho)(r:R (Ac D)):O:=O.of ρ r fun xs=>CU (Kh Γ ts body) xs ρ
@[simp]theorem ZqA(t body xs):P7 Γ t body ρ (.ok xs)=CU (Kh Γ t body) xs ρ:=rfl
@[simp]theorem ZqR(t it body):evS Γ ρ (.forT t it body)=P7 Γ t body ρ (Gs Γ ρ it):=rfl
@[simp]theorem ZqU(ts e):evS Γ ρ (.asgT ts e)=O.of ρ (evE Γ ρ e) fun d=>O.of ρ (Gn ts d ρ) fun ρ'=>.next ρ':=rfl
theorem Vh(i e):evS Γ ρ (.asg i Ab e)=O.of ρ (evE Γ ρ e) fun d=>if D3 Γ e=Ab then (match d with
      |.lst xs=>.next (ρ.set i (Aa (.lst xs,Ab)))
      |.dic xs=>.next (ρ.set i (Aa (.dic xs,Ab)))
      | _=>.bad) else .bad:=rfl
noncomputable def setF(ρ:Rho)(i:Ag):D->O
 |.lst xs=>.next (ρ.set i (Aa (.lst xs,Ab)))
 |.dic xs=>.next (ρ.set i (Aa (.dic xs,Ab)))
 |_=>.bad
@[simp]theorem Zvv(i xs):setF ρ i (.lst xs)=.next (ρ.set i (Aa (.lst xs,Ab))):=rfl
@[simp]theorem Zvw(i xs):setF ρ i (.dic xs)=.next (ρ.set i (Aa (.dic xs,Ab))):=rfl
@[simp]theorem Zo4(i e):evS Γ ρ (.asg i Ab e)=O.of ρ (evE Γ ρ e) fun d=>if D3 Γ e=Ab then setF ρ i d else .bad:=by
 rw[Vh]
 congr 1
@[simp]theorem Zub(i e):evS Γ ρ (.app i e)=O.of ρ (Ca ρ i) fun xs=>O.of ρ (evE Γ ρ e) fun d=>if Ct (xs.length+1)=Ab then .next (ρ.set i (Aa (.lst (xs++[d]),Ab))) else .bad:=rfl
@[simp]theorem Zt7(i e):evS Γ ρ (.ext i e)=O.of ρ (Ca ρ i) fun xs=>O.of ρ (evE Γ ρ e) fun d=>O.of ρ (Mw d) fun ys=>if Ct (xs.length+ys.length)=Ab then .next (ρ.set i (Aa (.lst (xs++ys),Ab))) else .bad:=rfl
@[simp]theorem Zt4(i):evS Γ ρ (.rev i)=O.of ρ (Ca ρ i) fun xs=>.next (ρ.set i (Aa (.lst xs.reverse,Ab))):=rfl
@[simp]theorem Zt8(i):evS Γ ρ (.clr i)=O.of ρ (Ca ρ i) fun _=>.next (ρ.set i (Aa (.lst [],Ab))):=rfl
theorem OC(i k e):evS Γ ρ (.put i k e)=O.of ρ (evE Γ ρ e) fun d=>O.of ρ (Ca ρ i) fun xs=>O.of ρ ((top ρ k (evE Γ ρ k)).bind Dp) fun j=>match plD xs.length j with
      |some n=>.next (ρ.set i (Aa (.lst (xs.set n d),Ab)))
      |none=>.bad:=rfl
theorem Wx(i k l):evS Γ ρ (.swp i k l)=O.of ρ (evE Γ ρ (.tup (.cons (.idx (.var i) (.var l)) (.cons (.idx (.var i) (.var k)) .nil)))) fun d=>Kl ρ d i k l:=rfl
theorem Vi(j i e):evS Γ ρ (.apop j i e)=O.of ρ (Ca ρ j) fun ys=>O.of ρ (Ca ρ i) fun xs=>O.of ρ (evE Γ ρ e) fun d=>O.of ρ (Dp d) fun n=>apD ρ j i ys xs n:=rfl
@[simp]theorem ZqM(body c x h):evS Γ ρ (.tryx body c x h)=match evSs Γ ρ body with
      | .exn y ρ'=>if (Γ.up y.c).contains c=Ab then (match evSs Γ (ρ'.set x (Aa (.exc y.c y.fs,Ad))) h with
          |.next ρ''=>.next (ρ''.set x Af)
          |.ret d f=>.ret d f
          | _=>.bad) else .bad
      |o=>o:=rfl
@[simp]theorem Zt3(c body):evS Γ ρ (.whl c body)=MC (whC Γ c) (whB Γ body) P5 ρ:=rfl
@[simp]theorem ZqO(c as):evS Γ ρ (.rais c as)=O.of ρ (noX (evA Γ ρ as)) fun xs=>O.of ρ (Γ.xn c xs) fun x=>.exn x ρ:=rfl
@[simp]theorem Zt9:evS Γ ρ .brk=.brk ρ:=rfl
@[simp]theorem ZqT:evS Γ ρ .cont=.cont ρ:=rfl
end
end Ov
namespace Ov
open PySem
theorem NO{body:D->Rho->O}(P:Rho->Prop):∀(xs:Ac D)(ρ:Rho),P ρ->(∀ x∈xs,∀ ρ,P ρ->∃ ρ',body x ρ=.next ρ'/\P ρ')->∃ ρ',CU body xs ρ=.next ρ'/\P ρ'
 |[],ρ,h,_=>⟨ρ,rfl,h⟩
 |x::xs,ρ,h,k=>by
  obtain⟨ρ1,e1,h1⟩:=k x AA ρ h;obtain⟨ρ2,e2,h2⟩:=NO P xs ρ1 h1 fun y hy=>k y (As _ hy)
  exact⟨ρ2,by show (body x ρ).turn _=_;rw[e1];exact e2,h2⟩
theorem HQ(lo:Ae)(n:Ag):(Ce lo n).length=n:=by simp[Ce]
theorem NM{lo:Ae}{n i:Ag}{x:D}(h:(Ce lo n)[i]?=Aa x):i<n/\x=.int (lo+(i:Ae)):=by
 have hl:=(AM.mp h).1;rw[HQ]at hl;unfold Ce at h;rw[DE,List.getElem?_range hl]at h;cases h;exact⟨hl,rfl⟩
noncomputable def Ss.take:Ag->Ss->Ss
 |0,_=>.nil
 |_,.nil=>.nil
 |n+1,.cons s ss=>.cons s (ss.take n)
noncomputable def Ss.drop:Ag->Ss->Ss
 |0,ss=>ss
 |_,.nil=>.nil
 |n+1,.cons _ ss=>ss.drop n
theorem NP(Γ:Gam):∀(n:Ag)(ss:Ss)(ρ:Rho),evSs Γ ρ ss=ED Γ (ss.drop n) (evSs Γ ρ (ss.take n))
 |0,_,_=>rfl
 |_+1,.nil,_=>rfl
 |n+1,.cons s ss,ρ=>by
  show (evS Γ ρ s).seq (fun ρ'=>evSs Γ ρ' ss)=ED Γ (ss.drop n) ((evS Γ ρ s).seq fun ρ'=>evSs Γ ρ' (ss.take n))
  cases evS Γ ρ s with
  |next ρ'=>exact NP Γ n ss ρ'
  |_=>rfl
end Ov
end
section
namespace OvC
open PySem Ov PyProof.Rows
variable{j:Ae}
noncomputable abbrev scr(ns:Ac Ae):D:=.lst (ns.map .int)
noncomputable abbrev sh(d:D):Sl:=Aa (d,Ad)
noncomputable abbrev si(i:Ae):Sl:=Aa (.int i,Ad)
theorem four{P:Ag->Prop}(h0:P 0)(h1:P 1)(h2:P 2)(h3:P 3):P (j%4).toNat:=by
 have:(j%4).toNat=0\/(j%4).toNat=1\/(j%4).toNat=2\/(j%4).toNat=3:=by omega
 rcases this with e|e|e|e<;>rw[e]<;>assumption
def P4(p:Ae):Prop:=p=3\/p=5\/p=7\/p=11
noncomputable def pr4(j:Ae):Ae:=[3,5,7,11].getD (j%4).toNat 0
theorem XG(j):P4 (pr4 j):=by
 unfold pr4;exact four (P:=fun j=>P4 ([3,5,7,11].getD j 0)) (.inl rfl) (.inr (.inl rfl)) (.inr (.inr (.inl rfl))) (.inr (.inr (.inr rfl)))
theorem P4.pos{p}(h:P4 p):0<p:=by rcases h with rfl|rfl|rfl|rfl<;>decide
theorem P4.lo{p}(h:P4 p):3<=p:=by rcases h with rfl|rfl|rfl|rfl<;>decide
theorem P4.hi{p}(h:P4 p):p<=11:=by rcases h with rfl|rfl|rfl|rfl<;>decide
theorem Uq(j:Ae):Dr [.int 3,.int 5,.int 7,.int 11] (j%4)=.ok (.int (pr4 j)):=by
 have h:=four (P:=fun j=>[D.int 3,D.int 5,D.int 7,D.int 11][j]?=Aa (D.int ([3,5,7,11].getD j 0))) (j:=j) rfl rfl rfl rfl
 exact Lr (by omega) h
theorem G9{i:Ae}(h0:-18446744073709551616<i)(h1:i<18446744073709551616):Da i j=Ab:=by simp[Da];left;exact⟨h0,h1⟩
theorem J3{i:Ae}(h0:-18446744073709551616<j)(h1:j<18446744073709551616):Da i j=Ab:=by simp[Da];right;exact⟨h0,h1⟩
noncomputable def L5:Df:=⟨2,Ad,(.cons (.ret (.bin .Mod (.var 1) (.var 0))) .nil)⟩
def Hu(Γ:Gam):Prop:=∀ p n:Ae,0<p->Γ.F 1 [.int p,.int n]=.ok (.int (n%p))
theorem X2(Γ:Gam)(p n:Ae)(h:0<p):L5.run Γ [.int p,.int n]=.ok (.int (n%p)):=by simp[L5,Df.run,Bt,h]
end OvC
end
namespace Ov
open PySem PySem.Spec PyProof.Rows L2
variable{A B:Aj->Prop}{H H' H1 H0:Hp}{a b l q:Aj}{xs ys vs:Ac V}{v:V}{d:D}{Rp Rq:Hp->V->D->Prop}{r:R D}{Q:VK}{X:Cx}{e c tg iter elt:Am}{ρ:Rho}{i n j k u1:Ag}{x:Ex}{σ:L2.St}{g:D->D->R D}{op:DF}{K:Fg}{pI:Pn}{s:Ao}{items2 its items:Be Ai}{h h' h2:AG}{u:Ai}{its2:Ac Ai}{es ifs:Ac Am}{fs fi:Rho->R (Ac D)}{Q':Ap Ae->Hp->Prop}{p p2 pos pos' pos2 tpos:AO}{T:Dm}{f fc:Rho->R An}{α:Type}{Fz:Aj->HO->Prop}{D':Ends}{lo:Ae}{as:D->Rho->R Rho}{up:Ag->Ac Ag}{prog P:AN}{w:AU}{scope:BS}{env:BJ}{cl:Ac (Ah×Aj)}{N':Ac Ah}{ts:Ac Ag}{fp:Ac Aj}{tt:TT}{te:TE}{J:It}{wi:TI}{t:An}{ta:TA}
abbrev ClA:=Ag->Ap Aj
variable{CL:ClA}
def KL(K:Fg)(a:Aj)(xs:Ac V):Prop:=∃(o:Dk)(its:Be Ai)(n:Ag),K.lookup a=Aa o/\o.cls=.type "list"/\o.dict=Af/\o.data=.seq its n/\its.size<=sizeLine/\AW xs its.toList
def KT(K:Fg)(a:Aj)(xs:Ac V):Prop:=∃(o:Dk)(its:Be Ai)(n:Ag),K.lookup a=Aa o/\o.cls=.type "tuple"/\o.data=.seq its n/\its.size<=sizeLine/\AW xs its.toList
section
variable(K:Fg)(CL:ClA)(H:Hp)(A:Aj->Prop)
mutual
def Rep:V->D->Prop
 |v,.non=>v=.non
 |v,.bl b=>v=.bl b
 |v,.int i=>v=.int i
 |v,.str x=>v=.str x
 |v,.tup ds=>∃ a xs,v=.ref a/\(¬ A a\/KT K a xs)/\SqT K H a xs/\Reps xs ds
 |v,.lst ds=>∃ a xs,v=.ref a/\(¬ A a\/KL K a xs)/\SqL K H a xs/\Reps xs ds
 |v,.obj c fs=>∃ a C dx vs,v=.ref a/\¬ A a/\CL c=Aa C/\H a=Aa (.ins C dx vs)/\Repf vs fs
 |_,.dic _=>A5
 |v,.exc c fs=>∃ a C φ,v=.ref a/\¬ A a/\CL c=Aa C/\H a=Aa (.ext φ)/\(∀ h,φ h->∃ o,h.get? a=Aa o/\o.cls=.ref C)/\(fs=[]\/∃ dx vs,¬ A dx/\H dx=Aa (.xd vs)/\Repf vs fs/\∀ h,φ h->∃ o,h.get? a=Aa o/\o.dict=Aa dx)
def Reps:Ac V->Ac D->Prop
 |[],[]=>GH
 |v::vs,d::ds=>Rep v d/\Reps vs ds
 |_,_=>A5
def Repf:Ac (Ah×V)->Ac (Ah×D)->Prop
 |[],[]=>GH
 |v::vs,d::ds=>Repp v d/\Repf vs ds
 |_,_=>A5
def Repp:Ah×V->Ah×D->Prop
 |v,(n,d)=>v.1=n/\Rep v.2 d
end
def Cm(v:V)(d:D):Prop:=Rep K CL H A v d\/∃ a xs ds,v=.ref a/\d=.lst ds/\H a=Aa (.lst xs)/\Reps K CL H A xs ds
end
def Kp(A:Aj->Prop)(H H':Hp):Prop:=∀ b o,H b=Aa o->¬ A b->H' b=Aa o
def AOk(H:Hp)(A:Aj->Prop):Prop:=∀ a,A a->∃ xs,H a=Aa (.lst xs)
theorem Kp.of(h:Az H H'):Kp A H H':=fun b o e _=>h b o e
theorem AOk.same(h:AOk H A)(s:Az H H'):AOk H' A:=fun a ha=>let ⟨xs,e⟩:=h a ha;⟨xs,s _ _ e⟩
theorem AOk.new{p:Aj}(h:AOk H A)(e:H p=Af):¬ A p:=fun ha=>by
 obtain⟨xs,q⟩:=h p ha;rw[e]at q;cases q
section
variable{K:Fg}{CL:ClA}{H H':Hp}{A B:Aj->Prop}
theorem PQ{u:HO}(k:Kp A H H')(na:¬ A a)(h:Rd H a u):Rd H' a u:=by
 rcases h with h|⟨o,h⟩
 ·exact .inl (k _ _ h na)
 ·exact .inr ⟨o,k _ _ h na⟩
theorem J9(k:Kp A H H')(na:¬ A a\/KL K a xs)(h:SqL K H a xs):SqL K H' a xs:=na.elim (fun na=>h.imp (PQ k na) id) .inr
theorem J8(k:Kp A H H')(na:¬ A a\/KT K a xs)(h:SqT K H a xs):SqT K H' a xs:=na.elim (fun na=>h.imp (PQ k na) id) .inr
mutual
theorem Rep.kp(k:Kp A H H'):∀{v:V}(d:D),Rep K CL H A v d->Rep K CL H' A v d
 |_,.non,h=>h
 |_,.bl _,h=>h
 |_,.int _,h=>h
 |_,.str _,h=>h
 |_,.dic _,h=>h.elim
 |_,.tup ds,h=>by
  obtain⟨a,xs,e,na,s,r⟩:=h;exact⟨a,xs,e,na,by first|exact J8 k na s|exact J9 k na s,Reps.kp k ds r⟩
 |_,.lst ds,h=>by
  obtain⟨a,xs,e,na,s,r⟩:=h;exact⟨a,xs,e,na,by first|exact J8 k na s|exact J9 k na s,Reps.kp k ds r⟩
 |_,.obj c fs,h=>by
  obtain⟨a,C,dx,vs,e,na,c,s,r⟩:=h;exact⟨a,C,dx,vs,e,na,c,k _ _ s na,Repf.kp k fs r⟩
 |_,.exc c fs,h=>by
  obtain⟨a,C,φ,e,na,c,s,p,q⟩:=h;refine⟨a,C,φ,e,na,c,k _ _ s na,p,q.imp id ?_⟩;rintro⟨dx,vs,nx,s2,r,z⟩;exact⟨dx,vs,nx,k _ _ s2 nx,Repf.kp k fs r,z⟩
theorem Reps.kp(k:Kp A H H'):∀{vs:Ac V}(ds:Ac D),Reps K CL H A vs ds->Reps K CL H' A vs ds
 |[],[],h=>h
 |_::_,d::ds,h=>⟨Rep.kp k d h.1,Reps.kp k ds h.2⟩
 |[],_::_,h=>h.elim
 |_::_,[],h=>h.elim
theorem Repf.kp(k:Kp A H H'):∀{vs:Ac (Ah×V)}(ds:Ac (Ah×D)),Repf K CL H A vs ds->Repf K CL H' A vs ds
 |[],[],h=>h
 |_::_,d::ds,h=>⟨Repp.kp k d h.1,Repf.kp k ds h.2⟩
 |[],_::_,h=>h.elim
 |_::_,[],h=>h.elim
theorem Repp.kp(k:Kp A H H'):∀{v:Ah×V}(d:Ah×D),Repp K CL H A v d->Repp K CL H' A v d
 |_,(_,d),h=>⟨h.1,Rep.kp k d h.2⟩
end
mutual
theorem Rep.sub(k:∀ a,B a->A a):∀{v:V}(d:D),Rep K CL H A v d->Rep K CL H B v d
 |_,.non,h=>h
 |_,.bl _,h=>h
 |_,.int _,h=>h
 |_,.str _,h=>h
 |_,.dic _,h=>h.elim
 |_,.tup ds,h=>by
  obtain⟨a,xs,e,na,s,r⟩:=h;exact⟨a,xs,e,na.imp (fun na z=>na (k _ z)) id,s,Reps.sub k ds r⟩
 |_,.lst ds,h=>by
  obtain⟨a,xs,e,na,s,r⟩:=h;exact⟨a,xs,e,na.imp (fun na z=>na (k _ z)) id,s,Reps.sub k ds r⟩
 |_,.obj c fs,h=>by
  obtain⟨a,C,dx,vs,e,na,c,s,r⟩:=h;exact⟨a,C,dx,vs,e,fun z=>na (k _ z),c,s,Repf.sub k fs r⟩
 |_,.exc c fs,h=>by
  obtain⟨a,C,φ,e,na,c,s,p,q⟩:=h;refine⟨a,C,φ,e,fun z=>na (k _ z),c,s,p,q.imp id ?_⟩
  rintro⟨dx,vs,nx,s2,r,z⟩;exact⟨dx,vs,fun z=>nx (k _ z),s2,Repf.sub k fs r,z⟩
theorem Reps.sub(k:∀ a,B a->A a):∀{vs:Ac V}(ds:Ac D),Reps K CL H A vs ds->Reps K CL H B vs ds
 |[],[],h=>h
 |_::_,d::ds,h=>⟨Rep.sub k d h.1,Reps.sub k ds h.2⟩
 |[],_::_,h=>h.elim
 |_::_,[],h=>h.elim
theorem Repf.sub(k:∀ a,B a->A a):∀{vs:Ac (Ah×V)}(ds:Ac (Ah×D)),Repf K CL H A vs ds->Repf K CL H B vs ds
 |[],[],h=>h
 |_::_,d::ds,h=>⟨Repp.sub k d h.1,Repf.sub k ds h.2⟩
 |[],_::_,h=>h.elim
 |_::_,[],h=>h.elim
theorem Repp.sub(k:∀ a,B a->A a):∀{v:Ah×V}(d:Ah×D),Repp K CL H A v d->Repp K CL H B v d
 |_,(_,d),h=>⟨h.1,Rep.sub k d h.2⟩
end
mutual
theorem Rep.wide(hp:∀ a,B a->A a\/H a=Af):∀{v:V}(d:D),Rep K CL H A v d->Rep K CL H B v d
 |_,.non,h=>h
 |_,.bl _,h=>h
 |_,.int _,h=>h
 |_,.str _,h=>h
 |_,.dic _,h=>h.elim
 |_,.tup ds,h=>by
  obtain⟨a,xs,e,na,s,r⟩:=h;refine⟨a,xs,e,?_,s,Reps.wide hp ds r⟩;rcases s with s|s
  ·refine na.imp (fun na z=>(hp _ z).elim na fun e=>?_) id
   rcases s with s|⟨o,s⟩<;>rw[e]at s<;>cases s
  ·exact .inr s
 |_,.lst ds,h=>by
  obtain⟨a,xs,e,na,s,r⟩:=h;refine⟨a,xs,e,?_,s,Reps.wide hp ds r⟩;rcases s with s|s
  ·refine na.imp (fun na z=>(hp _ z).elim na fun e=>?_) id
   rcases s with s|⟨o,s⟩<;>rw[e]at s<;>cases s
  ·exact .inr s
 |_,.obj c fs,h=>by
  obtain⟨a,C,dx,vs,e,na,c,s,r⟩:=h;exact⟨a,C,dx,vs,e,(fun z=>(hp _ z).elim na fun e=>by rw[e]at s;cases s),c,s,Repf.wide hp fs r⟩
 |_,.exc c fs,h=>by
  obtain⟨a,C,φ,e,na,c,s,p,q⟩:=h;refine⟨a,C,φ,e,(fun z=>(hp _ z).elim na fun e=>by rw[e]at s;cases s),c,s,p,q.imp id ?_⟩
  rintro⟨dx,vs,nx,s2,r,z⟩;exact⟨dx,vs,(fun z=>(hp _ z).elim nx fun e=>by rw[e]at s2;cases s2),s2,Repf.wide hp fs r,z⟩
theorem Reps.wide(hp:∀ a,B a->A a\/H a=Af):∀{vs:Ac V}(ds:Ac D),Reps K CL H A vs ds->Reps K CL H B vs ds
 |[],[],h=>h
 |_::_,d::ds,h=>⟨Rep.wide hp d h.1,Reps.wide hp ds h.2⟩
 |[],_::_,h=>h.elim
 |_::_,[],h=>h.elim
theorem Repf.wide(hp:∀ a,B a->A a\/H a=Af):∀{vs:Ac (Ah×V)}(ds:Ac (Ah×D)),Repf K CL H A vs ds->Repf K CL H B vs ds
 |[],[],h=>h
 |_::_,d::ds,h=>⟨Repp.wide hp d h.1,Repf.wide hp ds h.2⟩
 |[],_::_,h=>h.elim
 |_::_,[],h=>h.elim
theorem Repp.wide(hp:∀ a,B a->A a\/H a=Af):∀{v:Ah×V}(d:Ah×D),Repp K CL H A v d->Repp K CL H B v d
 |_,(_,d),h=>⟨h.1,Rep.wide hp d h.2⟩
end
theorem Rep.same(s:Az H H')(h:Rep K CL H A v d):Rep K CL H' A v d:=Rep.kp (Kp.of s) d h
theorem Reps.same{v:Ac V}{d:Ac D}(s:Az H H')(h:Reps K CL H A v d):Reps K CL H' A v d:=Reps.kp (Kp.of s) d h
theorem Cm.same{v:V}{d:D}(s:Az H H')(h:Cm K CL H A v d):Cm K CL H' A v d:=by
 rcases h with h|⟨a,xs,ds,e,e2,q,r⟩
 ·exact .inl (h.same s)
 ·exact .inr ⟨a,xs,ds,e,e2,s _ _ q,r.same s⟩
theorem Reps.length:∀{vs:Ac V}{ds:Ac D},Reps K CL H A vs ds->vs.length=ds.length
 |[],[],_=>rfl
 |_::_,_::_,h=>congrArg (· + 1) (Reps.length h.2)
 |[],_::_,h=>h.elim
 |_::_,[],h=>h.elim
theorem Reps.append:∀{vs ws:Ac V}{ds es:Ac D},Reps K CL H A vs ds->Reps K CL H A ws es->Reps K CL H A (vs++ws) (ds++es)
 |[],_,[],_,_,h=>h
 |_::_,_,_::_,_,h,g=>⟨h.1,Reps.append h.2 g⟩
 |[],_,_::_,_,h,_=>h.elim
 |_::_,_,[],_,h,_=>h.elim
theorem Reps.get:∀{vs:Ac V}{ds:Ac D}{i:Ag}{d:D},Reps K CL H A vs ds->ds[i]?=Aa d->∃ v,vs[i]?=Aa v/\Rep K CL H A v d
 |[],[],_,_,_,e=>by simp at e
 |v::_,_::_,0,_,h,e=>by simp at e;subst e;exact⟨v,rfl,h.1⟩
 |_::_,_::_,i+1,_,h,e=>by
  obtain⟨v,q,r⟩:=Reps.get (i:=i) h.2 (by simpa using e)
  exact⟨v,by simpa using q,r⟩
 |[],_::_,_,_,h,_=>h.elim
 |_::_,[],_,_,h,_=>h.elim
theorem Reps.take:∀{vs:Ac V}{ds:Ac D}(n:Ag),Reps K CL H A vs ds->Reps K CL H A (vs.take n) (ds.take n)
 |_,_,0,_=>trivial
 |[],[],_+1,_=>trivial
 |_::_,_::_,n+1,h=>⟨h.1,Reps.take n h.2⟩
 |[],_::_,_+1,h=>h.elim
 |_::_,[],_+1,h=>h.elim
theorem Reps.drop:∀{vs:Ac V}{ds:Ac D}(n:Ag),Reps K CL H A vs ds->Reps K CL H A (vs.drop n) (ds.drop n)
 |_,_,0,h=>h
 |[],[],_+1,_=>trivial
 |_::_,_::_,n+1,h=>Reps.drop n h.2
 |[],_::_,_+1,h=>h.elim
 |_::_,[],_+1,h=>h.elim
theorem Reps.set{x:V}{e:D}(r:Rep K CL H A x e):∀{vs:Ac V}{ds:Ac D}(n:Ag),Reps K CL H A vs ds->Reps K CL H A (vs.set n x) (ds.set n e)
 |[],[],_,_=>trivial
 |_::_,_::_,0,h=>⟨r,h.2⟩
 |_::_,_::_,n+1,h=>⟨h.1,Reps.set r n h.2⟩
 |[],_::_,_,h=>h.elim
 |_::_,[],_,h=>h.elim
end
structure Good (K:Fg) (CL:ClA) (A:Aj->Prop) (ρ:Rho) (σ:L2.St) (H:Hp):Prop where
 sh:∀(i:Ag)(d:D),ρ[i]?=Aa (Aa (d,Ad))->∃ v,σ[i]?=Aa (Aa v)/\Rep K CL H A v d
 ow:∀(i:Ag)(d:D),ρ[i]?=Aa (Aa (d,Ab))->∃ a xs ds,σ[i]?=Aa (Aa (.ref a))/\d=.lst ds/\A a/\H a=Aa (.lst xs)/\Reps K CL H A xs ds
 len:ρ.length=σ.length
theorem Good.same{K:Fg}{CL:ClA}{A:Aj->Prop}{ρ:Rho}{σ:L2.St}{H H':Hp}(g:Good K CL A ρ σ H)(s:Az H H'):Good K CL A ρ σ H':=
 ⟨fun i d e=>let ⟨v,q,r⟩:=g.sh i d e;⟨v,q,r.same s⟩,fun i d e=>let ⟨a,xs,ds,q,z,na,h,r⟩:=g.ow i d e;⟨a,xs,ds,q,z,na,s _ _ h,r.same s⟩,g.len⟩
abbrev XW:=Ex->Hp->Prop
variable{W:XW}
def A4(Rp:Hp->V->D->Prop)(W:XW)(H:Hp)(r:R D)(Q:VK):Prop:=match r with
  |.ok d=>∀ v H',Az H H'->Rp H' v d->Q v H'
  |.exn x=>∀ H',Az H H'->W x H'
  |.bad=>A5
def F5(Rp:Hp->Ac V->Ac D->Prop)(W:XW)(H:Hp)(r:R (Ac D))(Q:Ac V->Hp->Prop):Prop:=match r with
  |.ok d=>∀ v H',Az H H'->Rp H' v d->Q v H'
  |.exn x=>∀ H',Az H H'->W x H'
  |.bad=>A5
def Cs(W:XW)(H:Hp)(r:R An)(Q:An->Hp->Prop):Prop:=match r with
  |.ok b=>∀ H',Az H H'->Q b H'
  |.exn x=>∀ H',Az H H'->W x H'
  |.bad=>A5
theorem A4.same(s:Az H H')(h:A4 Rp W H r Q):A4 Rp W H' r Q:=by
 cases r with
 |ok d=>exact fun v H2 s2 q=>h v H2 (s.trans s2) q
 |exn x=>exact fun H2 s2=>h H2 (s.trans s2)
 |bad=>exact h
theorem Cs.same{r:R An}{Q:An->Hp->Prop}(s:Az H H')(h:Cs W H r Q):Cs W H' r Q:=by
 cases r with
 |ok d=>exact fun H2 s2=>h H2 (s.trans s2)
 |exn x=>exact fun H2 s2=>h H2 (s.trans s2)
 |bad=>exact h
theorem A4.bind{f:D->R D}{Q':VK}(h:A4 Rq W H (r.bind f) Q)(k:∀ d v H',r=.ok d->Az H H'->Rp H' v d->A4 Rq W H' (f d) Q->Q' v H'):A4 Rp W H r Q':=by
 cases r with
 |ok d=>exact fun v H2 s2 q=>k d v H2 rfl s2 q (A4.same s2 h)
 |exn x=>exact h
 |bad=>exact h
section
variable(X:Cx)(CL:ClA)(W:XW)
def SE(e:Am)(f:Rho->R D):Prop:=∀ A,PE X e (fun σ H Q=>AOk H A/\∃ ρ,Good X.K CL A ρ σ H/\A4 (fun H=>Rep X.K CL H A) W H (f ρ) Q)
def ST(e:Am)(f:Rho->R D):Prop:=∀ A,PE X e (fun σ H Q=>AOk H A/\∃ ρ,Good X.K CL A ρ σ H/\A4 (fun H=>Cm X.K CL H A) W H (f ρ) Q)
def SB(e:Am)(f:Rho->R An):Prop:=∀ A,PT X e (fun σ H Q=>AOk H A/\∃ ρ,Good X.K CL A ρ σ H/\Cs W H (f ρ) Q)
def SA(es:Ac Am)(f:Rho->R (Ac D)):Prop:=∀ A,PA X es (fun σ H Q=>AOk H A/\∃ ρ,Good X.K CL A ρ σ H/\F5 (fun H=>Reps X.K CL H A) W H (f ρ) Q)
end
theorem PE.weak{t t':TE}(h:PE X e t)(k:∀ σ H Q,t' σ H Q->t σ H Q):PE X e t':=fun pI s σ H Q I q=>h pI s σ H Q I (k _ _ _ q)
theorem PT.weak{t t':TT}(h:PT X e t)(k:∀ σ H Q,t' σ H Q->t σ H Q):PT X e t':=fun pI s σ H Q I q=>h pI s σ H Q I (k _ _ _ q)
theorem PA.weak{e:Ac Am}{t t':TA}(h:PA X e t)(k:∀ σ H Q,t' σ H Q->t σ H Q):PA X e t':=fun pos pI s σ H Q I q=>h pos pI s σ H Q I (k _ _ _ q)
noncomputable def OpD(X:Cx)(CL:ClA)(W:XW)(f:Ai->Ai->Ft Ai)(g:D->D->R D):Prop:=
 ∀ A,OpR X f (fun x y H Q=>AOk H A/\∃ dx dy,Cm X.K CL H A x dx/\Cm X.K CL H A y dy/\A4 (fun H=>Rep X.K CL H A) W H (g dx dy) Q)
section
variable{X:Cx}{CL:ClA}{W:XW}{a b c:Am}{fa fb fc:Rho->R D}{pos:AO}
theorem SE.st(h:SE X CL W a fa):ST X CL W a fa:=fun A=>PE.weak (h A) fun σ H Q ⟨hA,ρ,g,p⟩=>⟨hA,ρ,g,by
 cases e:fa ρ with
 |ok d=>rw[e]at p;exact fun v H' s r=>p v H' s (.inl r)
 |exn x=>rw[e]at p;exact p
 | bad=>rw[e]at p;exact p⟩
theorem SE.congr{f g:Rho->R D}(h:SE X CL W a f)(e:∀ ρ,g ρ=f ρ):SE X CL W a g:=fun A=>PE.weak (h A) fun σ H Q ⟨hA,ρ,q,p⟩=>⟨hA,ρ,q,by rw[<-e];exact p⟩
theorem Kj(h:PE X a (tC v))(r:∀ H A,AOk H A->Rep X.K CL H A v d):SE X CL W a (fun _=>.ok d):=fun A=>PE.weak h fun σ H Q ⟨hA,ρ,g,p⟩=>p v H (Az.refl H) (r H A hA)
theorem Yu{i j}:SE X CL W (.Constant (.int i) j pos) (fun _=>.ok (.int i)):=Kj PB fun _ _ _=>rfl
theorem bP{b j}:SE X CL W (.Constant (.bool b) j pos) (fun _=>.ok (.bl b)):=Kj dA fun _ _ _=>rfl
theorem Ys{j}:SE X CL W (.Constant .none j pos) (fun _=>.ok .non):=Kj Y5 fun _ _ _=>rfl
theorem Yp{x j}:SE X CL W (.Constant (.str x) j pos) (fun _=>.ok (.str x)):=Kj XS fun _ _ _=>rfl
theorem U7(h:DO ρ i=.ok d):ρ[i]?=Aa (Aa (d,Ad)):=by
 unfold DO at h;split at h
 ·rename_i e;cases h;exact e
 ·cases h
theorem Og(h:Ee ρ i=.ok d):∃ o,ρ[i]?=Aa (Aa (d,o)):=by
 unfold Ee at h;split at h
 ·rename_i e;cases h;exact⟨_,e⟩
 ·cases h
theorem UY(h:DO ρ i=.exn x):A5:=by
 unfold DO at h;split at h<;>cases h
theorem NW(h:Ee ρ i=.exn x):A5:=by
 unfold Ee at h;split at h<;>cases h
theorem Yn(h:PE X a (Fd i)):SE X CL W a (fun ρ=>DO ρ i):=fun A=>PE.weak h fun σ H Q ⟨hA,ρ,g,p⟩=>by
 dsimp only at p;cases e:DO ρ i with
 |ok d=>
  rw[e]at p;obtain⟨v,q,r⟩:=g.sh i d (U7 e);exact⟨v,q,p v H (Az.refl H) r⟩
 |exn x=>exact(UY e).elim
 |bad=>rw[e]at p;exact p.elim
theorem XB(h:PE X a (Fd i)):ST X CL W a (fun ρ=>Ee ρ i):=fun A=>PE.weak h fun σ H Q ⟨hA,ρ,g,p⟩=>by
 dsimp only at p;cases e:Ee ρ i with
 |ok d=>
  rw[e]at p;obtain⟨o,e⟩:=Og e;cases o with
  |false=>
   obtain⟨v,q,r⟩:=g.sh i d e;exact⟨v,q,p v H (Az.refl H) (.inl r)⟩
  |true=>
   obtain⟨x,xs,ds,q,rfl,ha,hh,r⟩:=g.ow i d e;exact⟨_,q,p _ H (Az.refl H) (.inr ⟨x,xs,ds,rfl,rfl,hh,r⟩)⟩
 |exn x=>exact(NW e).elim
 |bad=>rw[e]at p;exact p.elim
theorem op2(h:AOk H A/\∃ ρ,Good X.K CL A ρ σ H/\A4 Rq W H ((fa ρ).bind fun x=>(fb ρ).bind fun y=>g x y) Q):AOk H A/\∃ ρ,Good X.K CL A ρ σ H/\A4 (fun H=>Cm X.K CL H A) W H (fa ρ) (fun x H1=>AOk H1 A/\∃ ρ,Good X.K CL A ρ σ H1/\A4 (fun H=>Cm X.K CL H A) W H1 (fb ρ) (fun y H2=>AOk H2 A/\∃ dx dy,Cm X.K CL H2 A x dx/\Cm X.K CL H2 A y dy/\A4 Rq W H2 (g dx dy) Q)):=by
 obtain⟨hA,ρ,gd,p⟩:=h;refine⟨hA,ρ,gd,A4.bind p fun dx x H1 _ s1 r1 p1=>⟨hA.same s1,ρ,gd.same s1,A4.bind p1 fun dy y H2 _ s2 r2 p2=>⟨(hA.same s1).same s2,dx,dy,r1.same s2,r2,p2⟩⟩⟩
theorem Pz{op:FY}(ho:OpD X CL W (BF op) g)(ha:ST X CL W a fa)(hb:ST X CL W b fb):SE X CL W (.BinOp a op b pos) (fun ρ=>(fa ρ).bind fun x=>(fb ρ).bind fun y=>g x y):=
 fun A=>PE.weak (Qa (ho A) (ha A) (hb A)) fun σ H Q h=>op2 h
theorem Yw(ho:OpD X CL W (B0 op) g)(ha:ST X CL W a fa)(hb:ST X CL W b fb)(hm:Fv op b=Ad):SE X CL W (.Compare a [op] [b] pos) (fun ρ=>(fa ρ).bind fun x=>(fb ρ).bind fun y=>g x y):=
 fun A=>PE.weak (Vv (ho A) (ha A) (hb A) hm) fun σ H Q h=>op2 h
theorem Cm.int_of{i:Ae}(h:Cm K CL H A v (.int i)):v=.int i:=by
 rcases h with h|⟨_,_,_,_,e,_⟩
 ·exact h
 ·cases e
theorem Cm.str_of{i:Ah}(h:Cm K CL H A v (.str i)):v=.str i:=by
 rcases h with h|⟨_,_,_,_,e,_⟩
 ·exact h
 ·cases e
theorem Cm.bl_of{i:An}(h:Cm K CL H A v (.bl i)):v=.bl i:=by
 rcases h with h|⟨_,_,_,_,e,_⟩
 ·exact h
 ·cases e
theorem Cm.non_of(h:Cm K CL H A v .non):v=.non:=by
 rcases h with h|⟨_,_,_,_,e,_⟩
 ·exact h
 ·cases e
theorem Cm.lst_of{ds:Ac D}(h:Cm K CL H A v (.lst ds)):∃ a xs,v=.ref a/\SqL K H a xs/\Reps K CL H A xs ds:=by
 rcases h with ⟨a,xs,e,_,s,r⟩|⟨a,xs,es,rfl,e,s,r⟩
 ·exact⟨a,xs,e,s,r⟩
 ·cases e;exact⟨a,xs,rfl,SqL.of s,r⟩
theorem Cm.tup_of{ds:Ac D}(h:Cm K CL H A v (.tup ds)):∃ a xs,v=.ref a/\(¬ A a\/KT K a xs)/\SqT K H a xs/\Reps K CL H A xs ds:=by
 rcases h with ⟨a,xs,e,n,s,r⟩|⟨_,_,_,_,e,_⟩
 ·exact⟨a,xs,e,n,s,r⟩
 ·cases e
theorem WX{i j:Ae}(h:Da i j=Ab):Ks i j:=by
 unfold Da at h;simp only[CW,Ak,AX]at h;unfold Ks;omega
theorem OU{a:Ae}(h:a.natAbs<2 ^ 2000):RX a<=2 ^ 20:=by
 unfold RX;split
 ·omega
 ·rename_i hz;have h0:a.natAbs≠0:=by intro z;exact hz (by rw[Int.natAbs_eq_zero.mp z];rfl)
  have:=(Nat.log2_lt h0).mpr h;omega
theorem WW{i j:Ae}(h:(Da i j||D0 i j)=Ab):IK i j:=by
 rcases Bool.or_eq_true_iff.mp h with h|h
 ·exact(WX h).ok
 ·unfold D0 at h;rw[Ak,AX,AX]at h;exact .of_bits (OU h.1) (OU h.2)
theorem VD:OpR X (BF .Mult) (rI IK fun i j=>.int (i*j)):=opI fun _ _ _ _ _ _ _ hc q=>mul_int q hc
theorem GI(h:Ct n=Ab):n<=sizeLine:=by
 unfold Ct at h;rw[DU];have:=EH h;omega
theorem Ly{p:Aj}{ds:Ac D}(hA:AOk H A)(hp:H p=Af)(r:Reps K CL H A xs ds):Rep K CL (upd H p (.lst xs)) A (.ref p) (.lst ds):=
 ⟨p,xs,rfl,.inl (hA.new hp),SqL.of F0,r.same fun b o e=>by rw[B9 (Ez e hp)];exact e⟩
theorem Ic{p:Aj}{ds:Ac D}(hA:AOk H A)(hp:H p=Af)(r:Reps K CL H A xs ds):Rep K CL (upd H p (.tup xs)) A (.ref p) (.tup ds):=
 ⟨p,xs,rfl,.inl (hA.new hp),SqT.of F0,r.same fun b o e=>by rw[B9 (Ez e hp)];exact e⟩
theorem Ek{p:Aj}(h:H p=Af)(o:HO):Az H (upd H p o):=fun b u q=>by rw[B9 (Ez q h)];exact q
def aD(K:Fg):R2:=fun x y H Q=>∃ l b xs zs,x=.ref l/\y=.ref b/\SqL K H l xs/\SqL K H b zs/\xs.length+zs.length<=sizeLine/\∀ p,H p=Af->Q (.ref p) (upd H p (.lst (xs++zs)))
end
section
variable{X:Cx}{CL:ClA}{W:XW}
theorem OR:OpR X (BF .Add) (aD X.K):=by
 intro pI s σ H x y v u Q I rx ry h;obtain⟨l,b,xs,zs,rfl,rfl,hH,hB,hz,q⟩:=h;cases rx;cases ry;obtain⟨its,r,⟨o,n,e,c,dd,dt⟩,z⟩:=I.list hH;obtain⟨its2,r2,⟨o2,n2,e2,c2,dd2,dt2⟩,z2⟩:=I.list hB;have hl:=r.length;have hl2:=r2.length;obtain⟨cls,dd0,data,sl⟩:=o;obtain⟨cls2,dd02,data2,sl2⟩:=o2;simp only at c dd dt c2 dd2 dt2;subst c dd dt c2 dd2 dt2;have ea:its.toArray++its2.toArray=(its++its2).toArray:=by simp
 refine G4 ⟨_,e,rfl⟩ ⟨_,e2,rfl⟩ noFill_list_add seq_list_add PySem.F.slot_list_add PySem.F.entry_list_add (PySem.F.args_list_add_2 _ _) (list_addW l b its.toArray its2.toArray n n2 Af Af sl sl2 (by simp;omega)) ⟨e,e2,?_⟩
 rw[ea];exact⟨.ref _,_,I.lnew (t':=s.toks) (r.append r2) (by rw[Bo];omega),rfl,q _ I.fresh⟩
theorem OQ:OpD X CL W (BF .Add) (Cr .Add):=by
 intro A pI s σ H x y v u Q I rx ry ⟨hA,dx,dy,hx,hy,p⟩;cases dx with
 |int i=>
  cases dy with
  |int j=>
   have ex:=hx.int_of;have ey:=hy.int_of
   subst ex ey;exact Zd pI s σ H _ _ v u Q I rx ry ⟨i,j,rfl,rfl,p _ H (Az.refl H) rfl⟩
  |_=>exact p.elim
 |str i=>
  cases dy with
  |str j=>
   have ex:=hx.str_of;have ey:=hy.str_of
   subst ex ey;simp only[Zq]at p;split at p
   ·rename_i h;exact TR pI s σ H _ _ v u Q I rx ry ⟨i,j,rfl,rfl,GI h,p _ H (Az.refl H) rfl⟩
   ·exact p.elim
  |_=>exact p.elim
 |lst ds=>
  cases dy with
  |lst es=>
   obtain⟨a,xs,rfl,s1,r1⟩:=hx.lst_of;obtain⟨b,ys,rfl,s2,r2⟩:=hy.lst_of;simp only[Mj]at p;split at p
   ·rename_i h;refine OR pI s σ H _ _ v u Q I rx ry ⟨a,b,xs,ys,rfl,rfl,s1,s2,by rw[r1.length,r2.length];exact GI h,fun q hq=>?_⟩
    exact p _ _ (Ek hq _) (Ly hA hq (r1.append r2))
   ·exact p.elim
  |_=>exact p.elim
 |tup ds=>
  cases dy with
  |tup es=>
   obtain⟨a,xs,rfl,na1,s1,r1⟩:=hx.tup_of;obtain⟨b,ys,rfl,_,s2,r2⟩:=hy.tup_of;simp only[Zp]at p;split at p
   ·rename_i h;simp only[Ak]at h;refine WU pI s σ H _ _ v u Q I rx ry ⟨a,b,xs,ys,rfl,rfl,s1,s2,?_,by rw[r1.length,r2.length];exact GI h.2,fun hy0=>?_,fun _ q hq=>?_⟩
    ·rintro rfl;cases ds with
     |nil=>cases h.1
     |cons _ _=>exact r1.elim
    ·subst hy0;cases es with
     |nil=>rw[B8]at p;exact p _ H (Az.refl H) ⟨a,xs,rfl,na1,s1,r1⟩
     |cons _ _=>exact r2.elim
    ·exact p _ _ (Ek hq _) (Ic hA hq (r1.append r2))
   ·exact p.elim
  |_=>exact p.elim
 |_=>exact p.elim
theorem J2{op:FY}{C:Ae->Ae->Prop}{g:Ae->Ae->Ae}(ho:OpR X (BF op) (rI C fun i j=>.int (g i j)))(hg:∀ dx dy,(∃ i j,dx=.int i/\dy=.int j/\((C i j/\Cr op dx dy=.ok (.int (g i j)))\/Cr op dx dy=.bad))\/Cr op dx dy=.bad):OpD X CL W (BF op) (Cr op):=by
 intro A pI s σ H x y v u Q I rx ry ⟨hA,dx,dy,hx,hy,p⟩;rcases hg dx dy with ⟨i,j,rfl,rfl,⟨c,e⟩|e⟩|e
 ·have ex:=hx.int_of;have ey:=hy.int_of
  subst ex ey;rw[e]at p;exact ho pI s σ H _ _ v u Q I rx ry ⟨i,j,rfl,rfl,c,p _ H (Az.refl H) rfl⟩
 ·rw[e]at p;exact p.elim
 ·rw[e]at p;exact p.elim
theorem Vy:OpD X CL W (BF .Sub) (Cr .Sub):=by
 intro A pI s σ H x y v u Q I rx ry ⟨hA,dx,dy,hx,hy,p⟩;cases dx with
 |int i=>
  cases dy with
  |int j=>
   have ex:=hx.int_of;have ey:=hy.int_of
   subst ex ey;exact Y9 pI s σ H _ _ v u Q I rx ry ⟨i,j,rfl,rfl,p _ H (Az.refl H) rfl⟩
  |_=>exact p.elim
 |_=>exact p.elim
theorem VA:OpD X CL W (BF .Mult) (Cr .Mult):=J2 VD fun dx dy=>by
 cases dx with
 |int i=>
  cases dy with
  |int j=>
   refine .inl ⟨i,j,rfl,rfl,?_⟩;rw[Zg];split
   ·rename_i h;exact .inl ⟨WW h,rfl⟩
   ·exact .inr rfl
  |_=>exact .inr rfl
 |_=>exact .inr rfl
theorem UQ:OpD X CL W (BF .FloorDiv) (Cr .FloorDiv):=J2 WT fun dx dy=>by
 cases dx with
 |int i=>
  cases dy with
  |int j=>
   refine .inl ⟨i,j,rfl,rfl,?_⟩;rw[Ww];split
   ·rename_i h;exact .inl ⟨h,rfl⟩
   ·exact .inr rfl
  |_=>exact .inr rfl
 |_=>exact .inr rfl
theorem VB:OpD X CL W (BF .Mod) (Cr .Mod):=J2 Zb fun dx dy=>by
 cases dx with
 |int i=>
  cases dy with
  |int j=>
   refine .inl ⟨i,j,rfl,rfl,?_⟩;rw[Zh];split
   ·rename_i h;exact .inl ⟨h,rfl⟩
   ·exact .inr rfl
  |_=>exact .inr rfl
 |_=>exact .inr rfl
theorem Vz:OpD X CL W (BF .Pow) (Cr .Pow):=J2 Za fun dx dy=>by
 cases dx with
 |int i=>
  cases dy with
  |int j=>
   refine .inl ⟨i,j,rfl,rfl,?_⟩;rw[XH];split
   ·rename_i h;exact .inl ⟨⟨h.1.1,h.1.2,by omega⟩,rfl⟩
   ·exact .inr rfl
  |_=>exact .inr rfl
 |_=>exact .inr rfl
theorem OO(op:FY):OpD X CL W (BF op) (Cr op):=by
 cases op with
 |Add=>exact OQ
 |Sub=>exact Vy
 |Mult=>exact VA
 |FloorDiv=>exact UQ
 |Mod=>exact VB
 |Pow=>exact Vz
 |_=>
  intro A pI s σ H x y v u Q I rx ry ⟨hA,dx,dy,hx,hy,p⟩;cases dx<;>cases dy<;>exact p.elim
noncomputable abbrev A0:Aj->Prop:=fun _=>A5
theorem Cm.plain(h:Cm K CL H A v d):Rep K CL H A0 v d:=by
 rcases h with h|⟨a,xs,ds,rfl,rfl,e,r⟩
 ·exact Rep.sub (fun _ z=>z.elim) d h
 ·exact⟨a,xs,rfl,.inl fun z=>z.elim,SqL.of e,Reps.sub (fun _ z=>z.elim) ds r⟩
mutual
theorem Vl:∀(n:Ag)(d:D),flD n d=Ab->eqD d d=Ab
 |_,.non,_=>rfl
 |_,.bl b,_=>by simp
 |_,.int i,_=>by simp
 |_,.str x,_=>by simp
 |n+1,.tup ds,h=>by
  show eqDs ds ds=Ab;exact eqDs_refl n ds h
 |n+1,.lst ds,h=>by
  show eqDs ds ds=Ab;exact eqDs_refl n ds h
 |0,.tup ds,h=>by cases h
 |0,.lst ds,h=>by cases h
 |n,.obj _ _,h=>by cases n<;>cases h
 |n,.exc _ _,h=>by cases n<;>cases h
 |n,.dic _,h=>by cases n<;>cases h
theorem eqDs_refl:∀(n:Ag)(ds:Ac D),ds.all (flD n)=Ab->eqDs ds ds=Ab
 |_,[],_=>rfl
 |n,d::ds,h=>by
  simp only[Fs,Ak]at h;simp only[Le,Ak];exact⟨Vl n d h.1,eqDs_refl n ds h.2⟩
end
theorem M8(I:Inv X pI σ H s)(h:SqL X.K H a xs)(h':SqT X.K H a ys):A5:=by
 obtain⟨its,r,⟨o,n,e,c,_,_⟩,_⟩:=I.list h;obtain⟨its',r',⟨o',e',c',_⟩,_⟩:=I.tuple h';rw[e]at e';cases e';rw[c]at c'
 injection c' with z
 exact absurd z (by decide)
mutual
theorem JZ{pI:Pn}{σ:L2.St}{H:Hp}{s:Ao}(I:Inv X pI σ H s):∀(n:Ag)(d e:D){v:V},flD n d=Ab->flD n e=Ab->Rep X.K CL H A0 v d->Rep X.K CL H A0 v e->d=e
 |n,.tup ds,e,v,hd,he,r,q=>by
  obtain⟨a,xs,rfl,_,s1,r1⟩:=r;cases e with
  |tup es=>
   obtain⟨b,ys,e,_,s2,r2⟩:=q;cases e;have z:=I.tuple_inj s1 s2;subst z;cases n with
   |zero=>cases hd
   |succ n=>rw[reps_inj I n ds es hd he r1 r2]
  |lst es=>
   obtain⟨b,ys,e,_,s2,r2⟩:=q;cases e;exact(M8 I s2 s1).elim
  |obj=>cases n<;>cases he
  |exc=>cases n<;>cases he
  |dic=>cases n<;>cases he
  |_=>cases q
 |n,.lst ds,e,v,hd,he,r,q=>by
  obtain⟨a,xs,rfl,_,s1,r1⟩:=r;cases e with
  |lst es=>
   obtain⟨b,ys,e,_,s2,r2⟩:=q;cases e;have z:=I.list_inj s1 s2;subst z;cases n with
   |zero=>cases hd
   |succ n=>rw[reps_inj I n ds es hd he r1 r2]
  |tup es=>
   obtain⟨b,ys,e,_,s2,r2⟩:=q;cases e;exact(M8 I s1 s2).elim
  |obj=>cases n<;>cases he
  |exc=>cases n<;>cases he
  |dic=>cases n<;>cases he
  |_=>cases q
 |n,.obj _ _,e,v,hd,he,r,q=>by cases n<;>cases hd
 |n,.exc _ _,e,v,hd,he,r,q=>by cases n<;>cases hd
 |n,.dic _,e,v,hd,he,r,q=>by cases n<;>cases hd
 |n,.non,e,v,hd,he,r,q=>by
  cases r;cases e with
  |tup=>obtain⟨_,_,z,_⟩:=q;cases z
  |lst=>obtain⟨_,_,z,_⟩:=q;cases z
  |obj=>cases n<;>cases he
  |exc=>cases n<;>cases he
  |dic=>cases n<;>cases he
  |_=>cases q<;>rfl
 |n,.bl b,e,v,hd,he,r,q=>by
  cases r;cases e with
  |tup=>obtain⟨_,_,z,_⟩:=q;cases z
  |lst=>obtain⟨_,_,z,_⟩:=q;cases z
  |obj=>cases n<;>cases he
  |exc=>cases n<;>cases he
  |dic=>cases n<;>cases he
  |_=>cases q<;>rfl
 |n,.int b,e,v,hd,he,r,q=>by
  cases r;cases e with
  |tup=>obtain⟨_,_,z,_⟩:=q;cases z
  |lst=>obtain⟨_,_,z,_⟩:=q;cases z
  |obj=>cases n<;>cases he
  |exc=>cases n<;>cases he
  |dic=>cases n<;>cases he
  |_=>cases q<;>rfl
 |n,.str b,e,v,hd,he,r,q=>by
  cases r;cases e with
  |tup=>obtain⟨_,_,z,_⟩:=q;cases z
  |lst=>obtain⟨_,_,z,_⟩:=q;cases z
  |obj=>cases n<;>cases he
  |exc=>cases n<;>cases he
  |dic=>cases n<;>cases he
  |_=>cases q<;>rfl
theorem reps_inj{pI:Pn}{σ:L2.St}{H:Hp}{s:Ao}(I:Inv X pI σ H s):∀(n:Ag)(ds es:Ac D){xs:Ac V},ds.all (flD n)=Ab->es.all (flD n)=Ab->Reps X.K CL H A0 xs ds->Reps X.K CL H A0 xs es->ds=es
 |_,[],[],_,_,_,_,_=>rfl
 |n,d::ds,e::es,x::xs,hd,he,r,q=>by
  simp only[Fs,Ak]at hd he;rw[JZ I n d e hd.1 he.1 r.1 q.1,reps_inj I n ds es hd.2 he.2 r.2 q.2]
 |_,[],_::_,[],_,_,_,q=>q.elim
 |_,[],_::_,_::_,_,_,r,_=>r.elim
 |_,_::_,[],[],_,_,r,_=>r.elim
 |_,_::_,[],_::_,_,_,_,q=>q.elim
 |_,_::_,_::_,[],_,_,r,_=>r.elim
end
theorem Jb:∀{ds es:Ac D},ds.length≠es.length->eqDs ds es=Ad
 |[],[],h=>absurd rfl h
 |[],_::_,_=>rfl
 |_::_,[],_=>rfl
 |d::ds,e::es,h=>by
  simp only[Le,Jb (ds:=ds) (es:=es) (by simpa using h),Gu]
theorem MZ(n:Ag)(f:Ag->An):(BB (n+1)).all f=(f 0&&(BB n).all fun j=>f (j+1)):=by
 rw[DB,Fs,Rb];rfl
theorem Jc:∀{ds es:Ac D},ds.length=es.length->eqDs ds es=(BB ds.length).all fun j=>eqD (ds.getD j .non) (es.getD j .non)
 |[],[],_=>rfl
 |d::ds,e::es,h=>by
  rw[Le,Jc (ds:=ds) (es:=es) (by simpa using h),Br,MZ]
  rfl
 |[],_::_,h=>by cases h
 |_::_,[],h=>by cases h
theorem Hw{ds:Ac D}{its:Ac Ai}(r:Reps K CL H A0 xs ds)(rv:AW xs its)(h:j<its.length):∃ x,Rep K CL H A0 x (ds.getD j .non)/\Bm x its[j]:=by
 have e1:=rv.length;have e2:=r.length;have hd:ds[j]?=Aa (ds.getD j .non):=by
  rw[CY,BA (by omega)];rfl
 obtain⟨x,hx,q⟩:=r.get hd;obtain⟨u,hu,ru⟩:=rv.get hx;refine⟨x,q,?_⟩;rw[BA h]at hu;cases hu;exact ru
theorem Ht{ds:Ac D}(h:ds.all (flD n)=Ab)(j:Ag):flD n (ds.getD j .non)=Ab:=by
 rw[CY];cases e:ds[j]? with
 |none=>cases n<;>rfl
 |some d=>exact List.all_eq_true.mp h d (RD e)
def B6(B:A2)(s:Ao)(u t:Ai)(k:An):Prop:=HI B s u t k/\ES B s u t k/\G2 B s u t (!k)
section
variable{B:A2}{s:Ao}
open SeqAt
theorem cJ:B6 B s .none .none Ab:=⟨RcAt.none_none,EqAt.same _,RcNeAt.none_none⟩
theorem bE(a b:An):B6 B s (.bool a) (.bool b) (a==b):=⟨RcAt.bool_bool _ _,EqAt.bool_bool _ _,RcNeAt.bool_bool _ _⟩
theorem aM(b:An):B6 B s .none (.bool b) Ad:=⟨RcAt.none_bool _,EqAt.none_bool _,RcNeAt.none_bool _⟩
theorem bA(b:An):B6 B s (.bool b) .none Ad:=⟨RcAt.bool_none _,EqAt.bool_none _,RcNeAt.bool_none _⟩
theorem aW(a:Ae)(t:CB)(b:Ae)(u:CB):B6 B s (.int a t) (.int b u) (a==b):=⟨RcAt.int_int _ _ _ _,EqAt.int_int _ _ _ _,RcNeAt.int_int _ _ _ _⟩
theorem bW(a:Ah)(t:CB)(b:Ah)(u:CB):B6 B s (.str a t) (.str b u) (a==b):=⟨RcAt.str_str _ _ _ _,EqAt.str_str _ _ _ _,RcNeAt.str_str _ _ _ _⟩
theorem aT(a:Ae)(t:CB)(b:Ah)(u:CB):B6 B s (.int a t) (.str b u) Ad:=⟨RcAt.int_str _ _ _ _,EqAt.int_str _ _ _ _,RcNeAt.int_str _ _ _ _⟩
theorem bZ(a:Ah)(t:CB)(b:Ae)(u:CB):B6 B s (.str a t) (.int b u) Ad:=⟨RcAt.str_int _ _ _ _,EqAt.str_int _ _ _ _,RcNeAt.str_int _ _ _ _⟩
theorem aL(b:Ae)(u:CB):B6 B s .none (.int b u) Ad:=⟨RcAt.none_int _ _,EqAt.none_int _ _,RcNeAt.none_int _ _⟩
theorem aU(b:Ae)(u:CB):B6 B s (.int b u) .none Ad:=⟨RcAt.int_none _ _,EqAt.int_none _ _,RcNeAt.int_none _ _⟩
theorem cI(b:Ah)(u:CB):B6 B s .none (.str b u) Ad:=⟨RcAt.none_str _ _,EqAt.none_str _ _,RcNeAt.none_str _ _⟩
theorem bX(b:Ah)(u:CB):B6 B s (.str b u) .none Ad:=⟨RcAt.str_none _ _,EqAt.str_none _ _,RcNeAt.str_none _ _⟩
theorem bD(a:An)(b:Ae)(u:CB):B6 B s (.bool a) (.int b u) (b2i a==b):=⟨RcAt.bool_int _ _ _,EqAt.bool_int _ _ _,RcNeAt.bool_int _ _ _⟩
theorem aX(a:An)(b:Ae)(u:CB):B6 B s (.int b u) (.bool a) (b==b2i a):=⟨RcAt.int_bool _ _ _,EqAt.int_bool _ _ _,RcNeAt.int_bool _ _ _⟩
theorem aZ(a:An)(b:Ah)(u:CB):B6 B s (.bool a) (.str b u) Ad:=⟨RcAt.bool_str _ _ _,EqAt.bool_str _ _ _,RcNeAt.bool_str _ _ _⟩
theorem cE(a:An)(b:Ah)(u:CB):B6 B s (.str b u) (.bool a) Ad:=⟨RcAt.str_bool _ _ _,EqAt.str_bool _ _ _,RcNeAt.str_bool _ _ _⟩
variable{l:Aj}{items:Be Ai}
theorem aP(h:s.heap.IsList l items)(hu:B.units<BQ):B6 B s (.ref l) .none Ad:=⟨RcAt.list_none h hu,EqAt.list_none h hu,RcNeAt.list_none h hu⟩
theorem cK(h:s.heap.IsList l items)(hu:B.units<BQ):B6 B s .none (.ref l) Ad:=⟨RcAt.none_list h hu,EqAt.none_list h hu,RcNeAt.none_list h hu⟩
theorem aR(b:An)(h:s.heap.IsList l items)(hu:B.units<BQ):B6 B s (.ref l) (.bool b) Ad:=⟨RcAt.list_bool b h hu,EqAt.list_bool b h hu,RcNeAt.list_bool b h hu⟩
theorem bB(b:An)(h:s.heap.IsList l items)(hu:B.units<BQ):B6 B s (.bool b) (.ref l) Ad:=⟨RcAt.bool_list b h hu,EqAt.bool_list b h hu,RcNeAt.bool_list b h hu⟩
theorem aQ(b:Ae)(u:CB)(h:s.heap.IsList l items)(hu:B.units<BQ):B6 B s (.ref l) (.int b u) Ad:=⟨RcAt.list_int b u h hu,EqAt.list_int b u h hu,RcNeAt.list_int b u h hu⟩
theorem aV(b:Ae)(u:CB)(h:s.heap.IsList l items)(hu:B.units<BQ):B6 B s (.int b u) (.ref l) Ad:=⟨RcAt.int_list b u h hu,EqAt.int_list b u h hu,RcNeAt.int_list b u h hu⟩
theorem aO(b:Ah)(u:CB)(h:s.heap.IsList l items)(hu:B.units<BQ):B6 B s (.ref l) (.str b u) Ad:=⟨RcAt.list_str b u h hu,EqAt.list_str b u h hu,RcNeAt.list_str b u h hu⟩
theorem bY(b:Ah)(u:CB)(h:s.heap.IsList l items)(hu:B.units<BQ):B6 B s (.str b u) (.ref l) Ad:=⟨RcAt.str_list b u h hu,EqAt.str_list b u h hu,RcNeAt.str_list b u h hu⟩
theorem bR(h:s.heap.IsTuple l items)(hu:B.units<BQ):B6 B s (.ref l) .none Ad:=⟨RcAt.tuple_none h hu,EqAt.tuple_none h hu,RcNeAt.tuple_none h hu⟩
theorem cH(h:s.heap.IsTuple l items)(hu:B.units<BQ):B6 B s .none (.ref l) Ad:=⟨RcAt.none_tuple h hu,EqAt.none_tuple h hu,RcNeAt.none_tuple h hu⟩
theorem bU(b:An)(h:s.heap.IsTuple l items)(hu:B.units<BQ):B6 B s (.ref l) (.bool b) Ad:=⟨RcAt.tuple_bool b h hu,EqAt.tuple_bool b h hu,RcNeAt.tuple_bool b h hu⟩
theorem aY(b:An)(h:s.heap.IsTuple l items)(hu:B.units<BQ):B6 B s (.bool b) (.ref l) Ad:=⟨RcAt.bool_tuple b h hu,EqAt.bool_tuple b h hu,RcNeAt.bool_tuple b h hu⟩
theorem bT(b:Ae)(u:CB)(h:s.heap.IsTuple l items)(hu:B.units<BQ):B6 B s (.ref l) (.int b u) Ad:=⟨RcAt.tuple_int b u h hu,EqAt.tuple_int b u h hu,RcNeAt.tuple_int b u h hu⟩
theorem aS(b:Ae)(u:CB)(h:s.heap.IsTuple l items)(hu:B.units<BQ):B6 B s (.int b u) (.ref l) Ad:=⟨RcAt.int_tuple b u h hu,EqAt.int_tuple b u h hu,RcNeAt.int_tuple b u h hu⟩
theorem bQ(b:Ah)(u:CB)(h:s.heap.IsTuple l items)(hu:B.units<BQ):B6 B s (.ref l) (.str b u) Ad:=⟨RcAt.tuple_str b u h hu,EqAt.tuple_str b u h hu,RcNeAt.tuple_str b u h hu⟩
theorem bV(b:Ah)(u:CB)(h:s.heap.IsTuple l items)(hu:B.units<BQ):B6 B s (.str b u) (.ref l) Ad:=⟨RcAt.str_tuple b u h hu,EqAt.str_tuple b u h hu,RcNeAt.str_tuple b u h hu⟩
theorem aN(h:s.heap.IsList l items)(h2:s.heap.IsTuple b items2)(hu:B.units<BQ):B6 B s (.ref l) (.ref b) Ad:=⟨RcAt.list_tuple h h2 hu,EqAt.list_tuple h h2 hu,RcNeAt.list_tuple h h2 hu⟩
theorem bS(h:s.heap.IsTuple l items)(h2:s.heap.IsList b items2)(hu:B.units<BQ):B6 B s (.ref l) (.ref b) Ad:=⟨RcAt.tuple_list h h2 hu,EqAt.tuple_list h h2 hu,RcNeAt.tuple_list h h2 hu⟩
end
end
section
variable{X:Cx}{CL:ClA}{W:XW}
theorem Gj(x:PlainL h a its):h.IsList a its:=let ⟨o,n,e,c,_,d⟩:=x;⟨o,e,c,n,d⟩
def fX(X:Cx)(CL:ClA)(H:Hp)(s:Ao)(d:D)(u:Ai):Prop:=match d with
  |.non=>u=.none
  |.bl b=>u=.bool b
  |.int i=>∃ t,u=.int i t
  |.str x=>∃ t,u=.str x t
  |.tup ds=>∃ a xs its,u=.ref a/\Reps X.K CL H A0 xs ds/\AW xs its/\s.heap.IsTuple a its.toArray
  |.lst ds=>∃ a xs its,u=.ref a/\Reps X.K CL H A0 xs ds/\AW xs its/\s.heap.IsList a its.toArray
  |_=>A5
theorem On(I:Inv X pI σ H s)(hd:flD n d=Ab)(r:Rep X.K CL H A0 v d)(q:Bm v u):fX X CL H s d u:=by
 cases d with
 |non=>cases r;exact q
 |bl b=>cases r;exact q
 |int b=>cases r;exact q
 |str b=>cases r;exact q
 |tup ds=>
  obtain⟨a,xs,rfl,_,sq,r⟩:=r;obtain⟨its,rv,p,_⟩:=I.tuple sq;cases q;exact⟨a,xs,its,rfl,r,rv,p⟩
 |lst ds=>
  obtain⟨a,xs,rfl,_,sq,r⟩:=r;obtain⟨its,rv,p,_⟩:=I.list sq;cases q;exact⟨a,xs,its,rfl,r,rv,Gj p⟩
 |obj=>cases n<;>cases hd
 |exc=>cases n<;>cases hd
 |dic=>cases n<;>cases hd
theorem VH{B:A2}{its:Ac Ai}{ds es:Ac D}(hl:s.heap.IsList l its.toArray)(hb:s.heap.IsList b its2.toArray)(e1:its.length=ds.length)(e2:its2.length=es.length)(hu:B.units<BQ)(hs:l=b->eqDs ds es=Ab)(he:∀ j (h1:j<its.length) (h2:j<its2.length),ES B.in1 s its[j] its2[j] (eqD (ds.getD j .non) (es.getD j .non))):B6 B s (.ref l) (.ref b) (eqDs ds es):=by
 have rc:HI B s (.ref l) (.ref b) (eqDs ds es):=by
  by_cases hz:its.length=its2.length
  ·have q:=SeqAt.RcAt.lists (e:=fun j=>eqD (ds.getD j .non) (es.getD j .non)) hl hb (by simpa using hz) hu (fun j h1 h2=>by simpa using he j (by simpa using h1) (by simpa using h2))
   rw[Jc (by omega)]
   have e:its.toArray.size=ds.length:=by simpa using e1
   rw[e]at q;exact q
  ·rw[Jb (by omega)]
   exact SeqAt.RcAt.lists_lengths hl hb (by simpa using hz) hu
 have ne:G2 B s (.ref l) (.ref b) (!eqDs ds es):=by
  by_cases hz:its.length=its2.length
  ·have q:=SeqAt.RcNeAt.lists (e:=fun j=>eqD (ds.getD j .non) (es.getD j .non)) hl hb (by simpa using hz) hu (fun j h1 h2=>by simpa using he j (by simpa using h1) (by simpa using h2))
   rw[Jc (by omega)]
   have e:its.toArray.size=ds.length:=by simpa using e1
   rw[e]at q;exact q
  ·rw[Jb (by omega)]
   exact SeqAt.RcNeAt.lists_lengths hl hb (by simpa using hz) hu
 refine⟨rc,?_,ne⟩;by_cases hlb:l=b
 ·rw[hs hlb,hlb];exact Sw _
 ·exact Sv hlb rc
theorem VG{B:A2}{its:Ac Ai}{ds es:Ac D}(hl:s.heap.IsTuple l its.toArray)(hb:s.heap.IsTuple b its2.toArray)(e1:its.length=ds.length)(e2:its2.length=es.length)(hu:B.units<BQ)(hs:l=b->eqDs ds es=Ab)(he:∀ j (h1:j<its.length) (h2:j<its2.length),ES B.in1 s its[j] its2[j] (eqD (ds.getD j .non) (es.getD j .non))):B6 B s (.ref l) (.ref b) (eqDs ds es):=by
 have rc:HI B s (.ref l) (.ref b) (eqDs ds es):=by
  have q:=SeqAt.RcAt.tuples (e:=fun j=>eqD (ds.getD j .non) (es.getD j .non)) hl hb hu (fun j h1 h2=>by simpa using he j (by simpa using h1) (by simpa using h2))
  have e:its.toArray.size=ds.length:=by simpa using e1
  have e':its2.toArray.size=es.length:=by simpa using e2
  rw[e,e']at q;by_cases hz:ds.length=es.length
  ·rw[Jc hz];rw[hz,RM,DS,Q1]at q;rw[hz];exact q
  ·rw[Jb hz];rw[CI.mpr hz,Gu]at q;exact q
 have ne:G2 B s (.ref l) (.ref b) (!eqDs ds es):=by
  have q:=SeqAt.RcNeAt.tuples (e:=fun j=>eqD (ds.getD j .non) (es.getD j .non)) hl hb hu (fun j h1 h2=>by simpa using he j (by simpa using h1) (by simpa using h2))
  have e:its.toArray.size=ds.length:=by simpa using e1
  have e':its2.toArray.size=es.length:=by simpa using e2
  rw[e,e']at q;by_cases hz:ds.length=es.length
  ·rw[Jc hz];rw[hz,RM,DS,Q1]at q;rw[hz];exact q
  ·rw[Jb hz];rw[CI.mpr hz,Gu]at q;exact q
 refine⟨rc,?_,ne⟩;by_cases hlb:l=b
 ·rw[hs hlb,hlb];exact Sw _
 ·exact Sv hlb rc
theorem Jl{pI:Pn}{σ:L2.St}{H:Hp}{s:Ao}(I:Inv X pI σ H s):∀(n:Ag)(d e:D)(v w':V)(u t:Ai)(B:A2),flD n d=Ab->flD n e=Ab->Rep X.K CL H A0 v d->Rep X.K CL H A0 w' e->Bm v u->Bm w' t->B.units+n<BQ->B6 B s u t (eqD d e)
  |n,d,e,v,w',u,t,B,hd,he,r,q,rv,rw',hu=>by
    have hu0:B.units<BQ:=by omega
    have sd:=On I hd r rv;have se:=On I he q rw'
    match d,e,sd,se with
    |.non,.non,s1,s2=>cases s1;cases s2;exact cJ
    |.non,.bl b,s1,s2=>cases s1;cases s2;exact aM b
    |.non,.int b,s1,s2=>cases s1;obtain⟨_,rfl⟩:=s2;exact aL b _
    |.non,.str b,s1,s2=>cases s1;obtain⟨_,rfl⟩:=s2;exact cI b _
    |.non,.tup es,s1,s2=>cases s1;obtain⟨_,_,_,rfl,_,_,p⟩:=s2;exact cH p hu0
    |.non,.lst es,s1,s2=>cases s1;obtain⟨_,_,_,rfl,_,_,p⟩:=s2;exact cK p hu0
    |.bl a,.non,s1,s2=>cases s1;cases s2;exact bA a
    |.bl a,.bl b,s1,s2=>cases s1;cases s2;exact bE a b
    |.bl a,.int b,s1,s2=>cases s1;obtain⟨_,rfl⟩:=s2;exact bD a b _
    |.bl a,.str b,s1,s2=>cases s1;obtain⟨_,rfl⟩:=s2;exact aZ a b _
    |.bl a,.tup es,s1,s2=>cases s1;obtain⟨_,_,_,rfl,_,_,p⟩:=s2;exact aY a p hu0
    |.bl a,.lst es,s1,s2=>cases s1;obtain⟨_,_,_,rfl,_,_,p⟩:=s2;exact bB a p hu0
    |.int a,.non,s1,s2=>obtain⟨_,rfl⟩:=s1;cases s2;exact aU a _
    |.int a,.bl b,s1,s2=>obtain⟨_,rfl⟩:=s1;cases s2;exact aX b a _
    |.int a,.int b,s1,s2=>obtain⟨_,rfl⟩:=s1;obtain⟨_,rfl⟩:=s2;exact aW a _ b _
    |.int a,.str b,s1,s2=>obtain⟨_,rfl⟩:=s1;obtain⟨_,rfl⟩:=s2;exact aT a _ b _
    |.int a,.tup es,s1,s2=>obtain⟨_,rfl⟩:=s1;obtain⟨_,_,_,rfl,_,_,p⟩:=s2;exact aS a _ p hu0
    |.int a,.lst es,s1,s2=>obtain⟨_,rfl⟩:=s1;obtain⟨_,_,_,rfl,_,_,p⟩:=s2;exact aV a _ p hu0
    |.str a,.non,s1,s2=>obtain⟨_,rfl⟩:=s1;cases s2;exact bX a _
    |.str a,.bl b,s1,s2=>obtain⟨_,rfl⟩:=s1;cases s2;exact cE b a _
    |.str a,.int b,s1,s2=>obtain⟨_,rfl⟩:=s1;obtain⟨_,rfl⟩:=s2;exact bZ a _ b _
    |.str a,.str b,s1,s2=>obtain⟨_,rfl⟩:=s1;obtain⟨_,rfl⟩:=s2;exact bW a _ b _
    |.str a,.tup es,s1,s2=>obtain⟨_,rfl⟩:=s1;obtain⟨_,_,_,rfl,_,_,p⟩:=s2;exact bV a _ p hu0
    |.str a,.lst es,s1,s2=>obtain⟨_,rfl⟩:=s1;obtain⟨_,_,_,rfl,_,_,p⟩:=s2;exact bY a _ p hu0
    |.tup ds,.non,s1,s2=>cases s2;obtain⟨_,_,_,rfl,_,_,p⟩:=s1;exact bR p hu0
    |.tup ds,.bl b,s1,s2=>cases s2;obtain⟨_,_,_,rfl,_,_,p⟩:=s1;exact bU b p hu0
    |.tup ds,.int b,s1,s2=>obtain⟨_,rfl⟩:=s2;obtain⟨_,_,_,rfl,_,_,p⟩:=s1;exact bT b _ p hu0
    |.tup ds,.str b,s1,s2=>obtain⟨_,rfl⟩:=s2;obtain⟨_,_,_,rfl,_,_,p⟩:=s1;exact bQ b _ p hu0
    |.tup ds,.lst es,s1,s2=>obtain⟨_,_,_,rfl,_,_,p⟩:=s1;obtain⟨_,_,_,rfl,_,_,p2⟩:=s2;exact bS p p2 hu0
    |.lst ds,.non,s1,s2=>cases s2;obtain⟨_,_,_,rfl,_,_,p⟩:=s1;exact aP p hu0
    |.lst ds,.bl b,s1,s2=>cases s2;obtain⟨_,_,_,rfl,_,_,p⟩:=s1;exact aR b p hu0
    |.lst ds,.int b,s1,s2=>obtain⟨_,rfl⟩:=s2;obtain⟨_,_,_,rfl,_,_,p⟩:=s1;exact aQ b _ p hu0
    |.lst ds,.str b,s1,s2=>obtain⟨_,rfl⟩:=s2;obtain⟨_,_,_,rfl,_,_,p⟩:=s1;exact aO b _ p hu0
    |.lst ds,.tup es,s1,s2=>obtain⟨_,_,_,rfl,_,_,p⟩:=s1;obtain⟨_,_,_,rfl,_,_,p2⟩:=s2;exact aN p p2 hu0
    |.tup ds,.tup es,s1,s2=>
      match n,hd,he,hu with
      |n+1,hd,he,hu=>
        obtain⟨a,xs,its,rfl,r1,v1,p1⟩:=s1;obtain⟨b,ys,its2,rfl,r2,v2,p2⟩:=s2;have l1:=v1.length;have l2:=r1.length;have l3:=v2.length;have l4:=r2.length
        refine VG p1 p2 (by omega) (by omega) hu0 (fun hab=>?_) fun j h1 h2=>?_
        · have e1:v=.ref a:=Bm.inj rv rfl;have e2:w'=.ref b:=Bm.inj rw' rfl;subst e1 e2 hab;have z:=JZ I (n+1) _ _ hd he r q
          injection z with z
          rw[z];exact eqDs_refl n es he
        · obtain⟨x,rx,qx⟩:=Hw r1 v1 h1;obtain⟨y,ry,qy⟩:=Hw r2 v2 h2;exact(Jl I n _ _ x y _ _ B.in1 (Ht hd j) (Ht he j) rx ry qx qy (by show B.units+1+n<BQ;omega)).2.1
    |.lst ds,.lst es,s1,s2=>
      match n,hd,he,hu with
      |n+1,hd,he,hu=>
        obtain⟨a,xs,its,rfl,r1,v1,p1⟩:=s1;obtain⟨b,ys,its2,rfl,r2,v2,p2⟩:=s2;have l1:=v1.length;have l2:=r1.length;have l3:=v2.length;have l4:=r2.length
        refine VH p1 p2 (by omega) (by omega) hu0 (fun hab=>?_) fun j h1 h2=>?_
        · have e1:v=.ref a:=Bm.inj rv rfl;have e2:w'=.ref b:=Bm.inj rw' rfl;subst e1 e2 hab;have z:=JZ I (n+1) _ _ hd he r q
          injection z with z
          rw[z];exact eqDs_refl n es he
        · obtain⟨x,rx,qx⟩:=Hw r1 v1 h1;obtain⟨y,ry,qy⟩:=Hw r2 v2 h2;exact(Jl I n _ _ x y _ _ B.in1 (Ht hd j) (Ht he j) rx ry qx qy (by show B.units+1+n<BQ;omega)).2.1
    |.obj _ _,_,s1,_=>exact s1.elim
    |.exc _ _,_,s1,_=>exact s1.elim
    |.dic _,_,s1,_=>exact s1.elim
    |_,.obj _ _,_,s2=>exact s2.elim
    |_,.exc _ _,_,s2=>exact s2.elim
    |_,.dic _,_,s2=>exact s2.elim
end
section
variable{X:Cx}{CL:ClA}{W:XW}
theorem J7(I:Inv X pI σ H s){ds:Ac D}{its:Ac Ai}(B:A2)(hd:flD n d=Ab)(hs:ds.all (flD n)=Ab)(r:Reps X.K CL H A0 xs ds)(rv:AW xs its)(q:Rep X.K CL H A0 v d)(qv:Bm v u)(hu:B.units+n<BQ):∃ e:Ai->An,(∀ y,y∈its.toArray->ES B s y u (e y))/\its.toArray.any e=ds.any fun y=>eqD y d:=by
 have l1:=rv.length;have l2:=r.length
 have key:∀ y,y∈its->∃ k:An,ES B s y u k/\∀ j (h:j<its.length),its[j]=y->eqD (ds.getD j .non) d=k:=fun y hy=>by
  obtain⟨j,hj,rfl⟩:=E1 hy;obtain⟨x,rx,qx⟩:=Hw r rv hj;refine⟨eqD (ds.getD j .non) d,(Jl I n _ _ x v _ _ B (Ht hs j) hd rx q qx qv hu).2.1,fun j' hj' e=>?_⟩
  obtain⟨x',rx',qx'⟩:=Hw r rv hj';rw[e]at qx';have z:=Bm.inj qx qx';subst z;rw[JZ I n _ _ (Ht hs j') (Ht hs j) rx' rx]
 have key2:∀ y,∃ k:An,y∈its->ES B s y u k/\∀ j (h:j<its.length),its[j]=y->eqD (ds.getD j .non) d=k:=fun y=>by
  by_cases hy:y∈its
  ·obtain⟨k,hk⟩:=key y hy;exact⟨k,fun _=>hk⟩
  ·exact⟨Ab,fun h=>absurd h hy⟩
 refine⟨fun y=>Q3 (key2 y),fun y hy=>(DG (key2 y) (by simpa using hy)).1,?_⟩
 rw[Cz];simp only[List.any_toArray,Re];constructor
 ·rintro⟨y,hy,hk⟩;obtain⟨j,hj,rfl⟩:=E1 hy;have z:=(DG (key2 its[j]) hy).2 j hj rfl;rw[hk]at z;refine⟨ds.getD j .non,?_,z⟩;rw[CY,BA (by omega)]
  exact FT _
 ·rintro⟨y,hy,hk⟩;obtain⟨j,hj,rfl⟩:=E1 hy;have hj':j<its.length:=by omega
  refine⟨its[j],FT _,?_⟩;have z:=(DG (key2 its[j]) (FT _)).2 j hj' rfl;rw[<-z,CY,BA hj];exact hk
theorem JR{g:Ae->Ae->An}(ho:OpR X (B0 op) (rI0 fun i j=>.bl (g i j)))(hg:∀ dx dy,(∃ i j,dx=.int i/\dy=.int j/\BE op dx dy=.ok (.bl (g i j)))\/BE op dx dy=.bad):OpD X CL W (B0 op) (BE op):=by
 intro A pI s σ H x y v u Q I rx ry ⟨hA,dx,dy,hx,hy,p⟩;rcases hg dx dy with ⟨i,j,rfl,rfl,e⟩|e
 ·have ex:=hx.int_of;have ey:=hy.int_of
  subst ex ey;rw[e]at p;exact ho pI s σ H _ _ v u Q I rx ry ⟨i,j,rfl,rfl,p _ H (Az.refl H) rfl⟩
 ·rw[e]at p;exact p.elim
theorem O5{x:V}(h:Cm X.K CL H A x d)(hd:d≠.non):x≠.non:=by
 rintro rfl;have h:=h.plain;cases d with
 |non=>exact hd rfl
 |tup=>obtain⟨_,_,e,_⟩:=h;cases e
 |lst=>obtain⟨_,_,e,_⟩:=h;cases e
 |obj=>obtain⟨_,_,_,_,e,_⟩:=h;cases e
 |exc=>obtain⟨_,_,_,e,_⟩:=h;cases e
 |dic=>exact h.elim
 |_=>cases h
theorem Ib(hu:X.A.units+64<BQ)(op:DF):OpD X CL W (B0 op) (BE op):=by
 cases op with
 |Eq=>
  intro A pI s σ H x y v u Q I rx ry ⟨hA,dx,dy,hx,hy,p⟩;rw[eP]at p;split at p
  ·rename_i h;simp only[Ak]at h;exact(Jl I 5 dx dy x y v u X.A h.1 h.2 hx.plain hy.plain rx ry (by omega)).1 X.prog X.w X.xe _ ⟨.bl _,H,I,rfl,p _ H (Az.refl H) rfl⟩
  ·exact p.elim
 |NotEq=>
  intro A pI s σ H x y v u Q I rx ry ⟨hA,dx,dy,hx,hy,p⟩;rw[dN]at p;split at p
  ·rename_i h;simp only[Ak]at h;exact(Jl I 5 dx dy x y v u X.A h.1 h.2 hx.plain hy.plain rx ry (by omega)).2.2 X.prog X.w X.xe _ ⟨.bl _,H,I,rfl,p _ H (Az.refl H) rfl⟩
  ·exact p.elim
 |Lt=>exact JR dF fun dx dy=>by cases dx<;>cases dy<;>first|exact .inl ⟨_,_,rfl,rfl,rfl⟩|exact .inr rfl
 |LtE=>exact JR dG fun dx dy=>by cases dx<;>cases dy<;>first|exact .inl ⟨_,_,rfl,rfl,rfl⟩|exact .inr rfl
 |Gt=>exact JR dH fun dx dy=>by cases dx<;>cases dy<;>first|exact .inl ⟨_,_,rfl,rfl,rfl⟩|exact .inr rfl
 |GtE=>exact JR dI fun dx dy=>by cases dx<;>cases dy<;>first|exact .inl ⟨_,_,rfl,rfl,rfl⟩|exact .inr rfl
 |In=>
  intro A pI s σ H x y v u Q I rx ry ⟨hA,dx,dy,hx,hy,p⟩;cases dy with
  |lst es=>
   rw[fI]at p;split at p
   ·rename_i h;simp only[Ak]at h;obtain⟨a,xs,e,_,sq,r⟩:=hy.plain;subst e;cases ry;obtain⟨its,rv,pl,_⟩:=I.list sq;obtain⟨e,he,ha⟩:=J7 I (n:=5) X.A.in1 h.1 h.2 r rv hx.plain rx (by show X.A.units+1+5<BQ;omega)
    refine SeqAt.in_listAt e (Gj pl) he ?_;rw[ha];exact⟨.bl _,H,I,rfl,p _ H (Az.refl H) rfl⟩
   ·exact p.elim
  |tup es=>
   rw[fH]at p;split at p
   ·rename_i h;simp only[Ak]at h;obtain⟨a,xs,e,_,sq,r⟩:=hy.plain;subst e;cases ry;obtain⟨its,rv,pl,_⟩:=I.tuple sq;obtain⟨e,he,ha⟩:=J7 I (n:=5) X.A.in1 h.1 h.2 r rv hx.plain rx (by show X.A.units+1+5<BQ;omega)
    refine SeqAt.in_tupleAt e pl he ?_;rw[ha];exact⟨.bl _,H,I,rfl,p _ H (Az.refl H) rfl⟩
   ·exact p.elim
  |dic kvs=>exact hy.plain.elim
  |_=>cases dx<;>exact p.elim
 |NotIn=>
  intro A pI s σ H x y v u Q I rx ry ⟨hA,dx,dy,hx,hy,p⟩;cases dy with
  |lst es=>
   rw[dL]at p;split at p
   ·rename_i h;simp only[Ak]at h;obtain⟨a,xs,e,_,sq,r⟩:=hy.plain;subst e;cases ry;obtain⟨its,rv,pl,_⟩:=I.list sq;obtain⟨e,he,ha⟩:=J7 I (n:=5) X.A.in1 h.1 h.2 r rv hx.plain rx (by show X.A.units+1+5<BQ;omega)
    refine SeqAt.notIn_listAt e (Gj pl) he ?_;rw[ha];exact⟨.bl _,H,I,rfl,p _ H (Az.refl H) rfl⟩
   ·exact p.elim
  |tup es=>
   rw[dJ]at p;split at p
   ·rename_i h;simp only[Ak]at h;obtain⟨a,xs,e,_,sq,r⟩:=hy.plain;subst e;cases ry;obtain⟨its,rv,pl,_⟩:=I.tuple sq;obtain⟨e,he,ha⟩:=J7 I (n:=5) X.A.in1 h.1 h.2 r rv hx.plain rx (by show X.A.units+1+5<BQ;omega)
    refine SeqAt.notIn_tupleAt e pl he ?_;rw[ha];exact⟨.bl _,H,I,rfl,p _ H (Az.refl H) rfl⟩
   ·exact p.elim
  |_=>cases dx<;>exact p.elim
 |Is=>
  intro A pI s σ H x y v u Q I rx ry ⟨hA,dx,dy,hx,hy,p⟩;cases dy with
  |non=>
   have ey:=hy.non_of;subst ey;refine Zc pI s σ H _ _ v u Q I rx ry ⟨rfl,?_⟩;cases dx with
   |non=>
    have ex:=hx.non_of;subst ex;exact p _ H (Az.refl H) rfl
   |exc=>exact p.elim
   |dic=>exact p.elim
   |_=>rw[Cn (O5 hx (by simp))];exact p _ H (Az.refl H) rfl
  |bl b=>
   cases dx with
   |bl a=>
    have ey:=hy.bl_of;have ex:=hx.bl_of;subst ex ey;cases rx;cases ry;refine wpAny_is_plain rfl ⟨.bl (a==b),H,I,?_,p _ H (Az.refl H) rfl⟩;cases a<;>cases b<;>rfl
   |_=>exact p.elim
  |_=>cases dx<;>exact p.elim
 |IsNot=>
  intro A pI s σ H x y v u Q I rx ry ⟨hA,dx,dy,hx,hy,p⟩;cases dy with
  |non=>
   have ey:=hy.non_of;subst ey;refine VC pI s σ H _ _ v u Q I rx ry ⟨rfl,?_⟩;cases dx with
   |non=>
    have ex:=hx.non_of;subst ex;exact p _ H (Az.refl H) rfl
   |exc=>exact p.elim
   |dic=>exact p.elim
   |_=>rw[Cn (O5 hx (by simp))];exact p _ H (Az.refl H) rfl
  |bl b=>
   cases dx with
   |bl a=>
    have ey:=hy.bl_of;have ex:=hx.bl_of;subst ex ey;cases rx;cases ry;refine wpAny_isNot_plain rfl ⟨.bl (!(a==b)),H,I,?_,p _ H (Az.refl H) rfl⟩;cases a<;>cases b<;>rfl
   |_=>exact p.elim
  |_=>cases dx<;>exact p.elim
end
section
variable{X:Cx}{CL:ClA}{W:XW}{a b c:Am}{fa fb fc:Rho->R D}{pos:AO}
theorem Cs.bind{f:D->R An}{Q:An->Hp->Prop}{Q':VK}(h:Cs W H (r.bind f) Q)(k:∀ d v H',r=.ok d->Az H H'->Rp H' v d->Cs W H' (f d) Q->Q' v H'):A4 Rp W H r Q':=by
 cases r with
 |ok d=>exact fun v H2 s2 q=>k d v H2 rfl s2 q (Cs.same s2 h)
 |exn x=>exact h
 |bad=>exact h
theorem Cs.bindB{r:R An}{f:An->R An}{Q:An->Hp->Prop}{Q':An->Hp->Prop}(h:Cs W H (r.bind f) Q)(k:∀ b H',r=.ok b->Az H H'->Cs W H' (f b) Q->Q' b H'):Cs W H r Q':=by
 cases r with
 |ok d=>exact fun H2 s2=>k d H2 rfl s2 (Cs.same s2 h)
 |exn x=>exact h
 |bad=>exact h
theorem F5.bind{Rp:Hp->Ac V->Ac D->Prop}{r:R (Ac D)}{f:Ac D->R D}{Q':Ac V->Hp->Prop}(h:A4 Rq W H (r.bind f) Q)(k:∀ d v H',r=.ok d->Az H H'->Rp H' v d->A4 Rq W H' (f d) Q->Q' v H'):F5 Rp W H r Q':=by
 cases r with
 |ok d=>exact fun v H2 s2 q=>k d v H2 rfl s2 q (A4.same s2 h)
 |exn x=>exact h
 |bad=>exact h
theorem JT{f:An->R D}(h:A4 Rq W H ((C4 d).bind f) Q):∃ c,d=.bl c/\A4 Rq W H (f c) Q:=by
 cases d with
 |bl c=>exact⟨c,rfl,h⟩
 |_=>exact h.elim
theorem Yr(ha:ST X CL W a fa):SE X CL W (.UnaryOp .Not a pos) (fun ρ=>(fa ρ).bind fun x=>(C4 x).bind fun b=>.ok (.bl (!b))):=fun A=>PE.weak (Y4 (ha A)) fun σ H Q ⟨hA,ρ,g,p⟩=>⟨hA,ρ,g,A4.bind p fun d v H1 _ s1 r1 p1=>by
 obtain⟨c,rfl,p2⟩:=JT p1;exact⟨c,r1.bl_of,p2 _ H1 (Az.refl H1) rfl⟩⟩
theorem Py{op}(ha:SE X CL W a fa):SE X CL W (.BoolOp op [a] pos) fa:=fun A=>Y3 (ha A)
theorem Yy{rest:Ac Am}(ha:SE X CL W a fa)(hb:SE X CL W (.BoolOp .And (b::rest) pos) fb):SE X CL W (.BoolOp .And (a::b::rest) pos) (fun ρ=>(fa ρ).bind fun x=>(C4 x).bind fun c=>if c=Ab then fb ρ else .ok (.bl Ad)):=
 fun A=>PE.weak (Y8 (ha A) (hb A)) fun σ H Q ⟨hA,ρ,g,p⟩=>⟨hA,ρ,g,A4.bind p fun d v H1 _ s1 r1 p1=>by
  obtain⟨c,rfl,p2⟩:=JT p1;refine⟨c,r1,?_⟩;cases c with
  |true=>exact⟨hA.same s1,ρ,g.same s1,p2⟩
  | false=>exact p2 _ H1 (Az.refl H1) rfl⟩
theorem bO{rest:Ac Am}(ha:SE X CL W a fa)(hb:SE X CL W (.BoolOp .Or (b::rest) pos) fb):SE X CL W (.BoolOp .Or (a::b::rest) pos) (fun ρ=>(fa ρ).bind fun x=>(C4 x).bind fun c=>if c=Ab then .ok (.bl Ab) else fb ρ):=
 fun A=>PE.weak (cY (ha A) (hb A)) fun σ H Q ⟨hA,ρ,g,p⟩=>⟨hA,ρ,g,A4.bind p fun d v H1 _ s1 r1 p1=>by
  obtain⟨c,rfl,p2⟩:=JT p1;refine⟨c,r1,?_⟩;cases c with
  |false=>exact⟨hA.same s1,ρ,g.same s1,p2⟩
  | true=>exact p2 _ H1 (Az.refl H1) rfl⟩
theorem Uy{op':DF}(hu:X.A.units+64<BQ)(ha:ST X CL W a fa)(hb:ST X CL W b fb)(hc:ST X CL W c fc)(hm:G5 [op,op'] [b,c]=Ad):SE X CL W (.Compare a [op,op'] [b,c] pos) (fun ρ=>(fa ρ).bind fun x=>(fb ρ).bind fun y=>(BE op x y).bind fun z=>(C4 z).bind fun k=>if k=Ab then (fc ρ).bind fun u=>BE op' y u else .ok (.bl Ad)):=
 fun A=>PE.weak (UO (Ib hu op A) (Ib hu op' A) (ha A) (hb A) (hc A) hm) fun σ H Q ⟨hA,ρ,g,p⟩=>⟨hA,ρ,g,A4.bind p fun dx x H1 _ s1 r1 p1=>⟨hA.same s1,ρ,g.same s1,A4.bind p1 fun dy y H2 _ s2 r2 p2=>
  ⟨(hA.same s1).same s2,dx,dy,r1.same s2,r2,A4.bind p2 fun dz z H3 _ s3 r3 p3=>by
   obtain⟨k,rfl,p4⟩:=JT p3;refine⟨k,r3,?_⟩;cases k with
   |false=>exact p4 _ H3 (Az.refl H3) rfl
   | true=>exact⟨((hA.same s1).same s2).same s3,ρ,((g.same s1).same s2).same s3,A4.bind p4 fun du u H4 _ s4 r4 p5=>⟨(((hA.same s1).same s2).same s3).same s4,dy,du,(r2.same s3).same s4,r4,p5⟩⟩⟩⟩⟩
theorem Xb{xs:Ac D}{i:Ae}(h:Dr xs i=.ok d):∃ k,plD xs.length i=Aa k/\xs[k]?=Aa d:=by
 unfold Dr at h;split at h
 ·rename_i k e;split at h
  ·rename_i d' e';cases h;exact⟨k,e,e'⟩
  ·cases h
 ·cases h
theorem NN{xs:Ac D}{i:Ae}(h:Dr xs i=.exn x):A5:=by
 unfold Dr at h;split at h
 ·split at h<;>cases h
 ·cases h
theorem OV{ds:Ac D}{i:Ae}(r:Reps K CL H A xs ds)(h:Dr ds i=.ok d):∃ v,atI xs i=Aa v/\Rep K CL H A v d:=by
 obtain⟨k,e,q⟩:=Xb h;obtain⟨v,hv,rv⟩:=r.get q;refine⟨v,?_,rv⟩;unfold atI;have:ixN xs.length i=Aa k:=by rw[r.length];exact e
 rw[this];exact hv
theorem Yv(hs:LU b)(ha:ST X CL W a fa)(hb:ST X CL W b fb):SE X CL W (.Subscript a b pos) (fun ρ=>(fa ρ).bind fun x=>(fb ρ).bind fun y=>Ck x y):=
 fun A=>PE.weak (cZ (r:=fun x y H Q=>Qx X.K x y H Q\/Qw X.K x y H Q) (W6.or YS) (ha A) (hb A) hs) fun σ H Q h=>by
  obtain⟨hA,ρ,g,h⟩:=op2 h;refine⟨hA,ρ,g,?_⟩;cases e:fa ρ with
  |bad=>rw[e]at h;exact h
  |exn x=>rw[e]at h;exact h
  |ok dx0=>
   rw[e]at h;intro x H1 s1 r1;obtain⟨hA1,ρ1,g1,h1⟩:=h x H1 s1 r1;refine⟨hA1,ρ1,g1,?_⟩;cases e1:fb ρ1 with
   |bad=>rw[e1]at h1;exact h1
   |exn x=>rw[e1]at h1;exact h1
   |ok dy0=>
    rw[e1]at h1;intro y H2 s2 r2;obtain⟨hA2,dx,dy,rx,ry,p⟩:=h1 y H2 s2 r2;cases dy with
    |int i=>
     have ey:=ry.int_of;subst ey;cases dx with
     |lst ds=>
      obtain⟨q,xs,rfl,sq,r⟩:=rx.lst_of;rw[cQ]at p;cases e2:Dr ds i with
      |ok d=>
       rw[e2]at p;obtain⟨v,hv,rv⟩:=OV r e2;exact .inl ⟨q,xs,i,v,rfl,rfl,sq,hv,p v H2 (Az.refl H2) rv⟩
      |exn x=>exact(NN e2).elim
      |bad=>rw[e2]at p;exact p.elim
     |tup ds=>
      obtain⟨q,xs,rfl,_,sq,r⟩:=rx.tup_of;rw[cP]at p;cases e2:Dr ds i with
      |ok d=>
       rw[e2]at p;obtain⟨v,hv,rv⟩:=OV r e2;exact .inr ⟨q,xs,i,v,rfl,rfl,sq,hv,p v H2 (Az.refl H2) rv⟩
      |exn x=>exact(NN e2).elim
      |bad=>rw[e2]at p;exact p.elim
     |dic=>exact rx.plain.elim
     |_=>exact p.elim
    |_=>cases dx<;>first|exact p.elim|exact rx.plain.elim
theorem YC:SA X CL W [] (fun _=>.ok []):=fun A=>PA.weak F4 fun σ H Q ⟨hA,ρ,g,p⟩=>p [] H (Az.refl H) trivial
theorem Wr(ha:SE X CL W a fa)(hs:SA X CL W es fs)(hst:Ax (a::es) X.env=(Ad,eval a X.env)::Ax es X.env):SA X CL W (a::es) (fun ρ=>(fa ρ).bind fun x=>(fs ρ).bind fun xs=>.ok (x::xs)):=
 fun A=>PA.weak (Ew (ha A) (hs A) hst) fun σ H Q ⟨hA,ρ,g,p⟩=>by
  dsimp only at p;refine⟨hA,ρ,g,?_⟩;cases e:fa ρ with
  |bad=>rw[e]at p;exact p
  |exn x=>rw[e]at p;exact p
  |ok d=>
   rw[e]at p;intro v H1 s1 r1;refine⟨hA.same s1,ρ,g.same s1,?_⟩;cases e1:fs ρ with
   |bad=>rw[R.bind_ok,e1]at p;exact p
   |exn x=>rw[R.bind_ok,e1]at p;exact fun H2 s2=>p H2 (s1.trans s2)
   |ok ds=>
    rw[R.bind_ok,e1]at p;exact fun vs H2 s2 r2=>p (v::vs) H2 (s1.trans s2) ⟨r1.same s2,r2⟩
theorem Yo(hs:SA X CL W es fs)(hz:∀ ρ ds,fs ρ=.ok ds->ds.length<=100000):SE X CL W (.Tuple es k pos) (fun ρ=>(fs ρ).bind fun xs=>.ok (.tup xs)):=
 fun A=>PE.weak (XR (hs A)) fun σ H Q ⟨hA,ρ,g,p⟩=>⟨hA,ρ,g,F5.bind p fun ds vs H1 e s1 r1 p1=>⟨by
  rw[r1.length,DU];have:=hz ρ ds e;omega,fun q hq=>p1 _ _ (Ek hq _) (Ic (hA.same s1) hq r1)⟩⟩
def Hx(W:XW)(H:Hp)(r:R (Ap Ae))(Q:Ap Ae->Hp->Prop):Prop:=match r with
  |.ok o=>∀ H',Az H H'->Q o H'
  |.exn x=>∀ H',Az H H'->W x H'
  |.bad=>A5
theorem Hx.bind{r:R (Ap Ae)}{f:Ap Ae->R D}(h:A4 Rq W H (r.bind f) Q)(k:∀ o H',r=.ok o->Az H H'->A4 Rq W H' (f o) Q->Q' o H'):Hx W H r Q':=by
 cases r with
 |ok d=>exact fun H2 s2=>k d H2 rfl s2 (A4.same s2 h)
 |exn x=>exact h
 |bad=>exact h
def SO(X:Cx)(CL:ClA)(W:XW)(e:Ap Am)(f:Rho->R (Ap Ae)):Prop:=∀ A,PO X e (fun σ H Q=>AOk H A/\∃ ρ,Good X.K CL A ρ σ H/\Hx W H (f ρ) Q)
theorem PO.weak{e:Ap Am}{t t':TO}(h:PO X e t)(k:∀ σ H Q,t' σ H Q->t σ H Q):PO X e t':=fun pI s σ H Q I q=>h pI s σ H Q I (k _ _ _ q)
theorem Wk:SO X CL W Af (fun _=>.ok Af):=fun A=>PO.weak V1 fun σ H Q ⟨hA,ρ,g,p⟩=>p H (Az.refl H)
theorem Wj(ha:ST X CL W a fa):SO X CL W (Aa a) (fun ρ=>(fa ρ).bind fun d=>(Dp d).bind fun i=>.ok (Aa i)):=fun A=>PO.weak (OM (ha A)) fun σ H Q ⟨hA,ρ,g,p⟩=>by
 dsimp only at p;refine⟨hA,ρ,g,?_⟩;cases e:fa ρ with
 |bad=>rw[e]at p;exact p
 |exn x=>rw[e]at p;exact p
 |ok d=>
  rw[e]at p;intro v H1 s1 r1;cases d with
  |int i=>exact⟨i,r1.int_of,p H1 s1⟩
  |_=>exact p.elim
theorem OH{ds:Ac D}(lo hi:Ap Ae)(r:Reps K CL H A xs ds):Reps K CL H A (Hf xs lo hi) (Hz ds lo hi):=by
 unfold Hf Hz;have e:∀ d o,HT.sIx xs.length d o=Gq ds.length d o:=fun d o=>by rw[r.length];cases o<;>rfl
 rw[e,e,r.length];exact(r.drop _).take _
end
section
variable{X:Cx}{CL:ClA}{W:XW}{a b c:Am}{fa fb fc:Rho->R D}{pos:AO}
def EA(K:Fg)(CL:ClA)(H:Hp)(A:Aj->Prop):Ac V->Ac D->Prop
 |[],[]=>GH
 |v::vs,d::ds=>Cm K CL H A v d/\EA K CL H A vs ds
 |_,_=>A5
theorem EA.same{K:Fg}{H H':Hp}{A:Aj->Prop}(s:Az H H'):∀{vs:Ac V}{ds:Ac D},EA K CL H A vs ds->EA K CL H' A vs ds
 |[],[],h=>h
 |_::_,_::_,h=>⟨h.1.same s,EA.same s h.2⟩
 |[],_::_,h=>h.elim
 |_::_,[],h=>h.elim
theorem EA.one(h:EA K CL H A vs [d]):∃ v,vs=[v]/\Cm K CL H A v d:=by
 cases vs with
 |nil=>exact h.elim
 |cons v vs=>
  cases vs with
  |nil=>exact⟨v,rfl,h.1⟩
  |cons=>exact h.2.elim
theorem EA.two{e:D}(h:EA K CL H A vs [d,e]):∃ v w',vs=[v,w']/\Cm K CL H A v d/\Cm K CL H A w' e:=by
 cases vs with
 |nil=>exact h.elim
 |cons v vs=>
  cases vs with
  |nil=>exact h.2.elim
  |cons w' vs=>
   cases vs with
   |nil=>exact⟨v,w',rfl,h.1,h.2.1⟩
   |cons=>exact h.2.2.elim
def SAT(X:Cx)(CL:ClA)(W:XW)(es:Ac Am)(f:Rho->R (Ac D)):Prop:=∀ A,PA X es (fun σ H Q=>AOk H A/\∃ ρ,Good X.K CL A ρ σ H/\F5 (fun H=>EA X.K CL H A) W H (f ρ) Q)
theorem Wq:SAT X CL W [] (fun _=>.ok []):=fun A=>PA.weak F4 fun σ H Q ⟨hA,ρ,g,p⟩=>p [] H (Az.refl H) trivial
theorem UA(ha:ST X CL W a fa)(hs:SAT X CL W es fs)(hst:Ax (a::es) X.env=(Ad,eval a X.env)::Ax es X.env):SAT X CL W (a::es) (fun ρ=>(fa ρ).bind fun x=>(fs ρ).bind fun xs=>.ok (x::xs)):=
 fun A=>PA.weak (Ew (ha A) (hs A) hst) fun σ H Q ⟨hA,ρ,g,p⟩=>by
  dsimp only at p;refine⟨hA,ρ,g,?_⟩;cases e:fa ρ with
  |bad=>rw[e]at p;exact p
  |exn x=>rw[e]at p;exact p
  |ok d=>
   rw[e]at p;intro v H1 s1 r1;refine⟨hA.same s1,ρ,g.same s1,?_⟩;cases e1:fs ρ with
   |bad=>rw[R.bind_ok,e1]at p;exact p
   |exn x=>rw[R.bind_ok,e1]at p;exact fun H2 s2=>p H2 (s1.trans s2)
   |ok ds=>
    rw[R.bind_ok,e1]at p;exact fun vs H2 s2 r2=>p (v::vs) H2 (s1.trans s2) ⟨r1.same s2,r2⟩
def Hd(X:Cx)(CL:ClA)(W:XW)(f:Ai)(g:Ac D->R D):Prop:=∀ A,Go X f (fun xs H Q=>AOk H A/\∃ ds,EA X.K CL H A xs ds/\A4 (fun H=>Rep X.K CL H A) W H (g ds) Q)
theorem Jj{x:Ah}{id:Dm}{g:Ac D->R D}(hc:Hd X CL W (.builtin id) g)(hg:Gl X x)(hm:X.mg x=Af)(hv:Cq x=Aa (.builtin id))(ha:SAT X CL W (e::es) fs)(hn:x≠"__name__")(hdb:(x==("__debug__" : Ah))=Ad)(he:Ax (e::es) X.env=(Ad,eval e X.env)::Ax es X.env)(hpl:∀ pos,(Cp pos (Ax es X.env)).any (·.1)=Ad):SE X CL W (.Call (.Name x p) (e::es) [] pos) (fun ρ=>(fs ρ).bind g):=fun A=>PE.weak (N5 (hc A) hg hm hv (ha A) hn hdb he (hpl _)) fun σ H Q ⟨hA,ρ,gd,q⟩=>⟨hA,ρ,gd,F5.bind q fun ds vs H1 _ s1 r1 p1=>⟨hA.same s1,ds,r1,p1⟩⟩
theorem Yx{x:Ah}{g:Ac D->R D}(hc:Hd X CL W (.type T) g)(hg:Gl X x)(hm:X.mg x=Af)(hv:Cq x=Aa (.type T))(ha:SAT X CL W (e::es) fs)(hn:x≠"__name__")(hdb:(x==("__debug__" : Ah))=Ad)(he:Ax (e::es) X.env=(Ad,eval e X.env)::Ax es X.env)(hpl:∀ pos,(Cp pos (Ax es X.env)).any (·.1)=Ad):SE X CL W (.Call (.Name x p) (e::es) [] pos) (fun ρ=>(fs ρ).bind g):=fun A=>PE.weak (Nq (hc A) hg hm hv (ha A) hn hdb he (hpl _)) fun σ H Q ⟨hA,ρ,gd,q⟩=>⟨hA,ρ,gd,F5.bind q fun ds vs H1 _ s1 r1 p1=>⟨hA.same s1,ds,r1,p1⟩⟩
theorem ZQ:Hd X CL W (.builtin "len") (biD .len):=by
  intro A pI s σ H xs us Q I r ⟨hA,ds,rs,p⟩
  match ds,rs,p with
  |[.lst es],rs,p=>
    obtain⟨v,rfl,rv⟩:=rs.one;obtain⟨q,ys,rfl,sq,ry⟩:=rv.lst_of;exact MW pI s σ H _ us Q I r ⟨q,ys,rfl,.inl sq,p _ H (Az.refl H) (by rw[ry.length];rfl)⟩
  |[.tup es],rs,p=>
    obtain⟨v,rfl,rv⟩:=rs.one;obtain⟨q,ys,rfl,_,sq,ry⟩:=rv.tup_of;exact MW pI s σ H _ us Q I r ⟨q,ys,rfl,.inr sq,p _ H (Az.refl H) (by rw[ry.length];rfl)⟩
  |[.str x],rs,p=>
    obtain⟨v,rfl,rv⟩:=rs.one;have e:=rv.str_of;subst e;have p':A4 (fun H=>Rep X.K CL H A) W H (if Ct x.length=Ab then .ok (.int x.length) else .bad) Q:=p
    split at p'
    · rename_i h;exact Tk pI s σ H _ us Q I r ⟨x,rfl,GI h,p' _ H (Az.refl H) rfl⟩
    · exact p'.elim
  |[],_,p=>exact p.elim
  |[.non],_,p=>exact p.elim
  |[.bl _],_,p=>exact p.elim
  |[.int _],_,p=>exact p.elim
  |[.obj _ _],_,p=>exact p.elim
  |[.exc _ _],_,p=>exact p.elim
  |[.dic _],rs,p=>first|exact p.elim|(obtain⟨v,rfl,rv⟩:=rs.one;exact rv.plain.elim)
  |x::_::_,_,p=>cases x<;>exact p.elim
theorem Nu:∀(is:Ac Ae)(i:Ae),Gr i is∈i::is/\∀ a∈i::is,Gr i is<=a
 |[],i=>⟨AA,fun a h=>by rw[BH]at h;rw[h];exact Hj _⟩
 |j::r,i=>by
  obtain⟨h1,h2⟩:=Nu r (if j<i then j else i)
  refine⟨?_,fun a h=>?_⟩
  ·show Gr (if j<i then j else i) r∈_
   rcases At.mp h1 with e|e
   ·rw[e];split
    ·exact As _ AA
    ·exact AA
   ·exact As _ (As _ e)
  ·show Gr (if j<i then j else i) r<=a
   have h0:=h2 _ AA;rcases At.mp h with e|e
   ·subst e;refine GZ h0 ?_;split<;>omega
   ·rcases At.mp e with e|e
    ·subst e;refine GZ h0 ?_;split<;>omega
    ·exact h2 a (As _ e)
theorem Nf:∀{is:Ac Ae}{its:Ac Ai},AW (is.map V.int) its->∃ xs:Be (Ae×CB),its.toArray=IN xs/\xs.toList.map (·.1)=is
 |[],_,h=>by cases h;exact⟨#[],by simp[IN],rfl⟩
 |i::is,_,h=>by
  cases h with
  |cons h1 h2=>
   obtain⟨t,rfl⟩:=h1;obtain⟨xs,e1,e2⟩:=Nf h2;refine⟨((i,t)::xs.toList).toArray,?_,?_⟩
   ·apply Array.toList_inj.mp
    have e1':=congrArg GY e1;simp[IN]at e1' ⊢;exact e1'
   ·simp[e2]
theorem T3(hc:X.calm=Ab):Go X (.builtin "min") (fun xs H Q=>∃ a i is,xs=[.ref a]/\SqL X.K H a ((i::is).map V.int)/\Q (.int (Gr i is)) H):=by
 intro pI s σ H xs us Q I r h;obtain⟨a,i,is,rfl,sq,q⟩:=h;obtain⟨u,rfl,ru⟩:=Gm r;cases ru;obtain⟨its,rv,pl,hz⟩:=I.list sq;obtain⟨ys,e1,e2⟩:=Nf rv;have hsz:0<ys.size:=by
  have:=congrArg Rw e2;simp at this;omega
 have hl:=pl.isList;rw[e1]at hl;refine min_intList (I.ok.hd hc) hl hsz fun v h' tk hv hk=>?_
 obtain⟨t,rfl⟩:=intItems_at hv;obtain⟨h1,h2⟩:=argBest_lt (GE ys) (ys.size-1);have nm:∀ j,j<ys.size->GE ys j∈i::is:=fun j hj=>by
  rw[<-e2];unfold GE;rw[QZ hj];simp only[Dz,Option.getD_some];exact CP.mpr ⟨ys[j],by simp,rfl⟩
 have nx:∀ x∈i::is,∃ j,j<ys.size/\GE ys j=x:=fun x hx=>by
  rw[<-e2]at hx;obtain⟨y,hy,rfl⟩:=CP.mp hx;obtain⟨j,hj,ej⟩:=Array.mem_iff_getElem.mp (Array.mem_toList_iff.mp hy);refine⟨j,hj,?_⟩;unfold GE;rw[QZ hj,ej];rfl
 obtain⟨m1,m2⟩:=Nu is i;have em:GE ys (argBest (fun i j=>decide (GE ys i<GE ys j)) (ys.size-1))=Gr i is:=by
  refine Int.le_antisymm ?_ (m2 _ (nm _ (by omega)))
  obtain⟨j,hj,ej⟩:=nx _ m1;rw[<-ej];exact h2 j (by omega)
 rw[em];exact⟨.int (Gr i is),H,I.kept hk,⟨_,rfl⟩,q⟩
theorem Ng{K:Fg}{CL:ClA}{H:Hp}{A:Aj->Prop}:∀{es:Ac D}{is:Ac Ae}{ys:Ac V},He es=Aa is->Reps K CL H A ys es->ys=is.map V.int
 |[],_,[],h,_=>by cases h;rfl
 |[],_,_::_,_,r=>r.elim
 |_::_,_,[],_,r=>r.elim
 |e::es,is,y::ys,h,r=>by
  cases e with
  |int i=>
   have h':(He es).map (i :: ·)=Aa is:=h;cases e2:He es with
   |none=>rw[e2]at h';cases h'
   |some js=>
    rw[e2]at h';cases h';have ih:=Ng e2 r.2;have e1:y=.int i:=r.1;rw[ih,e1];rfl
  |_=>cases h
theorem Uj(ds:Ac D)(hl:∀ es,ds≠[.lst es]):(∃ i j,ds=[.int i,.int j])\/biD .min ds=.bad:=by
  match ds with
  |[.int i,.int j]=>exact .inl ⟨i,j,rfl⟩
  |[]=>exact .inr rfl
  |[x]=>cases x<;>first|exact .inr rfl|exact absurd rfl (hl _)
  |x::y::z::r=>cases x<;>cases y<;>exact .inr rfl
  |[x,.non]=>cases x<;>exact .inr rfl
  |[x,.bl _]=>cases x<;>exact .inr rfl
  |[x,.str _]=>cases x<;>exact .inr rfl
  |[x,.tup _]=>cases x<;>exact .inr rfl
  |[x,.lst _]=>cases x<;>exact .inr rfl
  |[x,.obj _ _]=>cases x<;>exact .inr rfl
  |[x,.exc _ _]=>cases x<;>exact .inr rfl
  |[x,.dic _]=>cases x<;>exact .inr rfl
  |[.non,.int _]=>exact .inr rfl
  |[.bl _,.int _]=>exact .inr rfl
  |[.str _,.int _]=>exact .inr rfl
  |[.tup _,.int _]=>exact .inr rfl
  |[.lst _,.int _]=>exact .inr rfl
  |[.obj _ _,.int _]=>exact .inr rfl
  |[.exc _ _,.int _]=>exact .inr rfl
  |[.dic _,.int _]=>exact .inr rfl
theorem ZP(hc:X.calm=Ab):Hd X CL W (.builtin "min") (biD .min):=by
  intro A pI s σ H xs us Q I r ⟨hA,ds,rs,p⟩;by_cases hls:∃ es,ds=[.lst es]
  · obtain⟨es,rfl⟩:=hls;obtain⟨v,rfl,rv⟩:=rs.one;obtain⟨a,ys,rfl,sq,ry⟩:=rv.lst_of;have p':A4 (Rep X.K CL · A) W H (match He es with
      |some (i::is)=>R.ok (.int (Gr i is))
      | _=>.bad) Q:=p
    cases e1:He es with
    |none=>rw[e1]at p';exact p'.elim
    |some is=>
      cases is with
      |nil=>rw[e1]at p';exact p'.elim
      |cons i is=>
        rw[e1]at p';have ey:=Ng e1 ry;subst ey;exact T3 hc pI s σ H _ us Q I r ⟨a,i,is,rfl,sq,p' _ H (Az.refl H) rfl⟩
  rcases Uj ds (fun es z=>hls ⟨es,z⟩) with ⟨i,j,rfl⟩|e
  · obtain⟨v,w',rfl,rv,rw'⟩:=rs.two;have e1:=rv.int_of;have e2:=rw'.int_of
    subst e1 e2;exact T4 hc pI s σ H _ us Q I r ⟨i,j,rfl,p _ H (Az.refl H) rfl⟩
  · rw[e]at p;exact p.elim
theorem Vp:Hd X CL W (.type "tuple") (biD .tuple):=by
  intro A pI s σ H xs us Q I r ⟨hA,ds,rs,p⟩
  match ds,rs,p with
  |[.lst es],rs,p=>
    obtain⟨v,rfl,rv⟩:=rs.one;obtain⟨q,ys,rfl,sq,ry⟩:=rv.lst_of;exact M0 pI s σ H _ us Q I r ⟨q,ys,rfl,.inl ⟨sq,fun l hl=>p _ _ (Ek hl _) (Ic hA hl ry)⟩⟩
  |[.tup es],rs,p=>
    obtain⟨v,rfl,rv⟩:=rs.one;obtain⟨q,ys,rfl,na,sq,ry⟩:=rv.tup_of;exact M0 pI s σ H _ us Q I r ⟨q,ys,rfl,.inr ⟨sq,p _ H (Az.refl H) ⟨q,ys,rfl,na,sq,ry⟩⟩⟩
  |[],_,p=>exact p.elim
  |[.non],_,p=>exact p.elim
  |[.bl _],_,p=>exact p.elim
  |[.int _],_,p=>exact p.elim
  |[.str _],_,p=>exact p.elim
  |[.obj _ _],_,p=>exact p.elim
  |[.exc _ _],_,p=>exact p.elim
  |[.dic _],rs,p=>first|exact p.elim|(obtain⟨v,rfl,rv⟩:=rs.one;exact rv.plain.elim)
  |x::_::_,_,p=>cases x<;>exact p.elim
end
section
variable{X:Cx}{CL:ClA}{W:XW}{a b c:Am}{fa fb fc:Rho->R D}{pos:AO}
theorem SB.congr{g:Rho->R An}(h:SB X CL W a f)(e:∀ ρ,g ρ=f ρ):SB X CL W a g:=fun A=>PT.weak (h A) fun σ H Q ⟨hA,ρ,q,p⟩=>⟨hA,ρ,q,by rw[<-e];exact p⟩
theorem YA(ha:SB X CL W a f):SB X CL W (.UnaryOp .Not a pos) (fun ρ=>(f ρ).bind fun b=>.ok (!b)):=fun A=>PT.weak (Yh (ha A)) fun σ H Q ⟨hA,ρ,g,p⟩=>⟨hA,ρ,g,Cs.bindB p fun b H1 _ s1 p1=>p1 H1 (Az.refl H1)⟩
def SW(X:Cx)(CL:ClA)(W:XW)(e:Am)(f:Rho->R An):Prop:=∀ A,PW X e (fun σ H Q=>AOk H A/\∃ ρ,Good X.K CL A ρ σ H/\Cs W H (f ρ) Q)
theorem PW.weak{t t':TT}(h:PW X e t)(k:∀ σ H Q,t' σ H Q->t σ H Q):PW X e t':=fun wh pI s σ H Q I q=>h wh pI s σ H Q I (k _ _ _ q)
theorem SW.sb(h:SW X CL W a f):SB X CL W a f:=fun A=>PW.pt (h A)
theorem SW.congr{g:Rho->R An}(h:SW X CL W a f)(e:∀ ρ,g ρ=f ρ):SW X CL W a g:=fun A=>PW.weak (h A) fun σ H Q ⟨hA,ρ,q,p⟩=>⟨hA,ρ,q,by rw[<-e];exact p⟩
theorem V7(ha:SB X CL W a f):SW X CL W (.BoolOp .And [a] pos) f:=fun A=>VR (ha A)
theorem Xu(ha:SB X CL W a f):SW X CL W (.BoolOp .Or [a] pos) f:=fun A=>Ye (ha A)
theorem Xv{g:Rho->R An}{rest:Ac Am}(ha:SB X CL W a f)(hb:SW X CL W (.BoolOp .And (b::rest) pos) g):SW X CL W (.BoolOp .And (a::b::rest) pos) (fun ρ=>(f ρ).bind fun c=>if c=Ab then g ρ else .ok Ad):=
 fun A=>PW.weak (Yg (ha A) (hb A)) fun σ H Q ⟨hA,ρ,gd,p⟩=>⟨hA,ρ,gd,Cs.bindB p fun c H1 _ s1 p1=>by
  cases c with
  |true=>exact⟨hA.same s1,ρ,gd.same s1,p1⟩
  | false=>exact p1 H1 (Az.refl H1)⟩
theorem ZY{g:Rho->R An}{rest:Ac Am}(ha:SB X CL W a f)(hb:SW X CL W (.BoolOp .Or (b::rest) pos) g):SW X CL W (.BoolOp .Or (a::b::rest) pos) (fun ρ=>(f ρ).bind fun c=>if c=Ab then .ok Ab else g ρ):=
 fun A=>PW.weak (aG (ha A) (hb A)) fun σ H Q ⟨hA,ρ,gd,p⟩=>⟨hA,ρ,gd,Cs.bindB p fun c H1 _ s1 p1=>by
  cases c with
  |false=>exact⟨hA.same s1,ρ,gd.same s1,p1⟩
  | true=>exact p1 H1 (Az.refl H1)⟩
theorem YB(ho:OpD X CL W (B0 op) g)(ha:ST X CL W a fa)(hb:ST X CL W b fb)(hm:Fv op b=Ad):SB X CL W (.Compare a [op] [b] pos) (fun ρ=>(fa ρ).bind fun x=>(fb ρ).bind fun y=>(g x y).bind C4):=
 fun A=>PT.weak (VW (ho A) (ha A) (hb A) hm) fun σ H Q ⟨hA,ρ,gd,p⟩=>⟨hA,ρ,gd,Cs.bind p fun dx x H1 _ s1 r1 p1=>⟨hA.same s1,ρ,gd.same s1,Cs.bind p1 fun dy y H2 _ s2 r2 p2=>
  ⟨(hA.same s1).same s2,dx,dy,r1.same s2,r2,Cs.bind p2 fun dz z H3 _ s3 r3 p3=>by
   cases dz with
   |bl k=>exact⟨k,r3,p3 H3 (Az.refl H3)⟩
   | _=>exact p3.elim⟩⟩⟩
theorem Uz{op':DF}(hu:X.A.units+64<BQ)(ha:ST X CL W a fa)(hb:ST X CL W b fb)(hc:ST X CL W c fc)(hm:G5 [op,op'] [b,c]=Ad):SB X CL W (.Compare a [op,op'] [b,c] pos) (fun ρ=>(fa ρ).bind fun x=>(fb ρ).bind fun y=>(BE op x y).bind fun z=>(C4 z).bind fun k=>if k=Ab then (fc ρ).bind fun u=>(BE op' y u).bind C4 else .ok Ad):=
  fun A=>PT.weak (UK (Ib hu op A) (Ib hu op' A) (ha A) (hb A) (hc A) hm) fun σ H Q ⟨hA,ρ,g,p⟩=>⟨hA,ρ,g,Cs.bind p fun dx x H1 _ s1 r1 p1=>⟨hA.same s1,ρ,g.same s1,Cs.bind p1 fun dy y H2 _ s2 r2 p2=>
    ⟨(hA.same s1).same s2,dx,dy,r1.same s2,r2,Cs.bind p2 fun dz z H3 _ s3 r3 p3=>by
      cases dz with
      |bl k=>
        refine⟨k,r3,?_⟩;cases k with
        |false=>exact⟨Ad,rfl,p3 H3 (Az.refl H3)⟩
        | true=>exact⟨((hA.same s1).same s2).same s3,ρ,((g.same s1).same s2).same s3,Cs.bind p3 fun du u H4 _ s4 r4 p5=>⟨(((hA.same s1).same s2).same s3).same s4,dy,du,(r2.same s3).same s4,r4,Cs.bind p5 fun dv v H5 _ s5 r5 p6=>by
            cases dv with
            |bl k'=>exact⟨k',r5,p6 H5 (Az.refl H5)⟩
            | _=>exact p6.elim⟩⟩
      | _=>exact p3.elim⟩⟩⟩
theorem Yz(ha:ST X CL W a fa)(he:∀ whole,Gx a X.env whole=(do let v <-whole;FP a.pos;holding [v] (truthy v))):SB X CL W a (fun ρ=>(fa ρ).bind BO):=
 fun A=>PT.weak (UJ (ha A) he) fun σ H Q ⟨hA,ρ,g,p⟩=>⟨hA,ρ,g,Cs.bind p fun d v H1 _ s1 r1 p1=>by
  cases d with
  |non=>
   have e:=r1.non_of;subst e;exact⟨Ad,rfl,p1 H1 (Az.refl H1)⟩
  |bl b=>
   have e:=r1.bl_of;subst e;exact⟨b,rfl,p1 H1 (Az.refl H1)⟩
  |int i=>
   have e:=r1.int_of;subst e;exact⟨_,rfl,p1 H1 (Az.refl H1)⟩
  |str x=>
   have e:=r1.str_of;subst e;have p2:Cs W H1 (if Ct x.length=Ab then .ok (x.length != 0) else .bad) Q:=p1
   split at p2
   ·rename_i h;refine⟨_,⟨GI h,rfl⟩,?_⟩;have e:((x.length:Ae) != 0)=(x.length != 0):=by
     rw[Cz];simp
    rw[e];exact p2 H1 (Az.refl H1)
   ·exact p2.elim
  |tup ds=>
   obtain⟨q,xs,rfl,_,sq,r⟩:=r1.tup_of;refine⟨_,.inr (.inl ⟨xs,sq,rfl⟩),?_⟩;have e:xs.isEmpty=ds.isEmpty:=by
    have:=r.length;cases xs<;>cases ds<;>first|rfl|cases this
   rw[e];exact p1 H1 (Az.refl H1)
  |lst ds=>
   obtain⟨q,xs,rfl,sq,r⟩:=r1.lst_of;refine⟨_,.inl ⟨xs,sq,rfl⟩,?_⟩;have e:xs.isEmpty=ds.isEmpty:=by
    have:=r.length;cases xs<;>cases ds<;>first|rfl|cases this
   rw[e];exact p1 H1 (Az.refl H1)
  | _=>exact p1.elim⟩
noncomputable def JA(K:Fg)(CL:ClA)(H:Hp)(A:Aj->Prop)(cls:Ai)(dx:Ap Aj)(x:Ex):Prop:=
 ∃ C,CL x.c=Aa C/\cls=.ref C/\(x.fs=[]\/∃ d vs,dx=Aa d/\¬ A d/\H d=Aa (.xd vs)/\Repf K CL H A vs x.fs)
end
def BY(B:Aj->Prop)(ρ:Rho)(σ:L2.St):Aj->Prop:=fun a=>B a\/∃(j:Ag)(d:D),ρ[j]?=Aa (Aa (d,Ab))/\σ[j]?=Aa (Aa (.ref a))
structure Sx (K:Fg) (CL:ClA) (Fz:Aj->HO->Prop) (B:Aj->Prop) (ρ:Rho) (σ:L2.St) (H:Hp):Prop where
 good:Good K CL (BY B ρ σ) ρ σ H
 aok:AOk H (BY B ρ σ)
 new:∀(j:Ag)(d:D)(a:Aj),ρ[j]?=Aa (Aa (d,Ab))->σ[j]?=Aa (Aa (.ref a))->(∀ o,¬ Fz a o)/\¬ B a
 dis:∀(i j:Ag)(d e:D)(a:Aj),ρ[i]?=Aa (Aa (d,Ab))->ρ[j]?=Aa (Aa (e,Ab))->σ[i]?=Aa (Aa (.ref a))->σ[j]?=Aa (Aa (.ref a))->i=j
 same:∀ b o,Fz b o->H b=Aa o
 len:ρ.length=σ.length
def BV(K:Fg)(CL:ClA)(Fz:Aj->HO->Prop)(B:Aj->Prop)(W:XW)(o:O)(D:Ends):Prop:=match o with
  |.next ρ=>∀ σ H,Sx K CL Fz B ρ σ H->D.nx σ H
  |.brk ρ=>∀ σ H,Sx K CL Fz B ρ σ H->D.bk σ H
  |.cont ρ=>∀ σ H,Sx K CL Fz B ρ σ H->D.ct σ H
  |.ret d fr=>∀ v H,(∀ b o,Fz b o->H b=Aa o)->Rep K CL H B v d->(fr=Ab->∀ ds,d=.lst ds->∃ a xs,v=.ref a/\(∀ o,¬ Fz a o)/\H a=Aa (.lst xs)/\Reps K CL H (fun b=>B b\/b=a) xs ds)->D.rt v H
  |.exn x _=>∀ H,(∀ b o,Fz b o->H b=Aa o)->W x H
  |.bad=>A5
section
variable{K:Fg}{CL:ClA}{Fz Fy:Aj->HO->Prop}{B:Aj->Prop}{ρ:Rho}{σ:L2.St}{H H':Hp}
theorem Sx.mono(k:∀ b o,Fz b o->Fy b o)(x:Sx K CL Fy B ρ σ H):Sx K CL Fz B ρ σ H:=⟨x.good,x.aok,fun j d a h1 h2=>⟨fun o z=>(x.new j d a h1 h2).1 o (k _ _ z),(x.new j d a h1 h2).2⟩,x.dis,fun b o z=>x.same b o (k _ _ z),x.len⟩
theorem Sx.grow(x:Sx K CL Fz B ρ σ H)(s:Az H H'):Sx K CL Fz B ρ σ H':=⟨x.good.same s,x.aok.same s,x.new,x.dis,fun b o z=>s _ _ (x.same b o z),x.len⟩
theorem Cd{l:Ac α}{v:α}(h:i≠j):(l.set i v)[j]?=l[j]?:=by rw[EK h]
theorem F2{l:Ac α}{v w':α}(h:(l.set i v)[i]?=Aa w'):w'=v:=by
 rw[Eg]at h;cases e:l[i]? with
 |none=>rw[e]at h;cases h
 |some x=>rw[e]at h;cases h;rfl
theorem Sx.set(x:Sx K CL Fz B ρ σ H){v:V}{d:D}(i:Ag)(r:Rep K CL H (BY B ρ σ) v d):Sx K CL Fz B (ρ.set i (Aa (d,Ad))) (σ.set i (Aa v)) H:=by
 have own:∀(j:Ag)(e:D),(ρ.set i (Aa (d,Ad)))[j]?=Aa (Aa (e,Ab))->i≠j/\ρ[j]?=Aa (Aa (e,Ab)):=fun j e h=>by
  by_cases hj:i=j
  ·subst hj;have:=F2 h;cases this
  ·exact⟨hj,by rw[Cd hj]at h;exact h⟩
 have sub:∀ a,BY B (ρ.set i (Aa (d,Ad))) (σ.set i (Aa v)) a->BY B ρ σ a:=fun a h=>by
  rcases h with h|⟨j,e,h1,h2⟩
  ·exact .inl h
  ·obtain⟨hj,h1⟩:=own j e h1;rw[Cd hj]at h2;exact .inr ⟨j,e,h1,h2⟩
 refine⟨⟨fun j e h=>?_,fun j e h=>?_,by rw[A3,A3];exact x.len⟩,fun a h=>x.aok a (sub a h),fun j e a h1 h2=>?_,fun j k e f a h1 h2 h3 h4=>?_,x.same,by rw[A3,A3];exact x.len⟩
 ·by_cases hj:i=j
  ·subst hj;have e1:=F2 h;cases e1;refine⟨v,?_,Rep.sub sub _ r⟩;have hl:i<σ.length:=by
    rw[<-x.len];have:=(AM.mp h).1;simpa using this
   rw[Co hl]
  ·rw[Cd hj]at h;obtain⟨w',q,rw'⟩:=x.good.sh j e h;exact⟨w',by rw[Cd hj];exact q,Rep.sub sub _ rw'⟩
 ·obtain⟨hj,h1⟩:=own j e h;obtain⟨a,xs,ds,q,z,ha,hh,rr⟩:=x.good.ow j e h1;exact⟨a,xs,ds,by rw[Cd hj];exact q,z,.inr ⟨j,e,h,by rw[Cd hj];exact q⟩,hh,Reps.sub sub _ rr⟩
 ·obtain⟨hj,h1⟩:=own j e h1;rw[Cd hj]at h2;exact x.new j e a h1 h2
 ·obtain⟨hj,h1⟩:=own j e h1;obtain⟨hk,h2⟩:=own k f h2;rw[Cd hj]at h3;rw[Cd hk]at h4;exact x.dis j k e f a h1 h2 h3 h4
end
section
variable{X:Cx}{CL:ClA}{W:XW}{pos:AO}{e:Am}{fe:Rho->R D}
def SS(X:Cx)(CL:ClA)(W:XW)(st:Bp)(f:Rho->O):Prop:=∀ Fz B,PS X st (fun D σ H=>∃ ρ,Sx X.K CL Fz B ρ σ H/\BV X.K CL Fz B W (f ρ) D)
def SSs(X:Cx)(CL:ClA)(W:XW)(st:Ac Bp)(f:Rho->O):Prop:=∀ Fz B,PSs X st (fun D σ H=>∃ ρ,Sx X.K CL Fz B ρ σ H/\BV X.K CL Fz B W (f ρ) D)
theorem PS.weak{e:Bp}{t t':TS}(h:PS X e t)(k:∀ D σ H,t' D σ H->t D σ H):PS X e t':=fun pI s σ H D I q=>h pI s σ H D I (k _ _ _ q)
theorem PSs.weak{e:Ac Bp}{t t':TS}(h:PSs X e t)(k:∀ D σ H,t' D σ H->t D σ H):PSs X e t':=fun pI s σ H D I q=>h pI s σ H D I (k _ _ _ q)
theorem BV.ex{f:D->O}(x:Sx X.K CL Fz B ρ σ H)(h:BV X.K CL Fz B W (O.of ρ r f) D')(k:∀ d v H',r=.ok d->Az H H'->Rp H' v d->Sx X.K CL Fz B ρ σ H'->BV X.K CL Fz B W (f d) D'->Q v H'):A4 Rp W H r Q:=by
 cases r with
 |ok d=>exact fun v H' s r=>k d v H' rfl s r (x.grow s) h
 |exn y=>exact fun H' s=>h H' fun b o z=>s _ _ (x.same b o z)
 |bad=>exact h
theorem BV.exB{r:R An}{f:An->O}{Q:An->Hp->Prop}(x:Sx X.K CL Fz B ρ σ H)(h:BV X.K CL Fz B W (O.of ρ r f) D')(k:∀ b H',r=.ok b->Az H H'->Sx X.K CL Fz B ρ σ H'->BV X.K CL Fz B W (f b) D'->Q b H'):Cs W H r Q:=by
 cases r with
 |ok d=>exact fun H' s=>k d H' rfl s (x.grow s) h
 |exn y=>exact fun H' s=>h H' fun b o z=>s _ _ (x.same b o z)
 |bad=>exact h
theorem Wf(he:SE X CL W e fe)(hs:DA e Af pos.line X.env=pure Ad):SS X CL W (.Expr e pos) (fun ρ=>O.of ρ (fe ρ) fun _=>.next ρ):=fun Fz B pI s σ H D I ⟨ρ,x,p⟩=>
 Lv (he (BY B ρ σ)) hs pI s σ H D I ⟨x.aok,ρ,x.good,BV.ex x p fun d v H' _ s r x' q=>q σ H' x'⟩
theorem Wd(he:SE X CL W e fe):SS X CL W (.Return (Aa e) pos) (fun ρ=>O.of ρ (fe ρ) fun d=>.ret d Ad):=fun Fz B pI s σ H D I ⟨ρ,x,p⟩=>
 Mc (he (BY B ρ σ)) pI s σ H D I ⟨x.aok,ρ,x.good,BV.ex x p fun d v H' _ s r x' q=>q v H' x'.same (Rep.sub (fun a h=>.inl h) _ r) fun z=>nomatch z⟩
theorem Z6{a b:Ac Bp}{fa fb:Rho->O}(hc:SB X CL W c fc)(ha:SSs X CL W a fa)(hb:SSs X CL W b fb):SS X CL W (.If c a b pos) (fun ρ=>O.of ρ (fc ρ) fun k=>if k=Ab then fa ρ else fb ρ):=fun Fz B pI s σ H D I ⟨ρ,x,p⟩=>
 aI (hc (BY B ρ σ)) (ha Fz B) (hb Fz B) pI s σ H D I ⟨x.aok,ρ,x.good,BV.exB x p fun k H' _ s x' q=>by
  cases k with
  |true=>exact⟨ρ,x',q⟩
  | false=>exact⟨ρ,x',q⟩⟩
theorem Wb:SSs X CL W [] (fun ρ=>.next ρ):=fun Fz B=>PSs.weak VY fun D σ H ⟨ρ,x,p⟩=>p σ H x
theorem Uv{st:Bp}{rest:Ac Bp}{f g:Rho->O}(h1:SS X CL W st f)(h2:SSs X CL W rest g):SSs X CL W (st::rest) (fun ρ=>(f ρ).seq g):=fun Fz B=>PSs.weak (UL (h1 Fz B) (h2 Fz B)) fun D σ H ⟨ρ,x,p⟩=>⟨ρ,x,by
 dsimp only at p;cases e:f ρ with
 |next ρ'=>rw[e]at p;exact fun σ' H' x'=>⟨ρ',x',p⟩
 |ret d b=>rw[e]at p;exact p
 |brk ρ'=>rw[e]at p;exact p
 |cont ρ'=>rw[e]at p;exact p
 |exn y ρ'=>rw[e]at p;exact p
 | bad=>rw[e]at p;exact p⟩
end
def GR(K:Fg)(CL:ClA)(A:Aj->Prop)(ds:Ac D)(J:It)(H1:Hp):Prop:=∀ H,Kp A H1 H->∀ i:Ag,(ds.length<=i->J.stop i H)/\∀ d,ds[i]?=Aa d->J.go i H/\∀ x H',J.yld i H x H'->Az H H'/\∀ B,(∀ a,B a->A a\/H1 a=Af)->AOk H B->Rep K CL H' B x d
def DN(K:Fg)(CL:ClA)(A:Aj->Prop)(W:XW)(H:Hp)(r:R (Ac D))(Q:It->Hp->Prop):Prop:=match r with
  |.ok ds=>∀ J H',Az H H'->GR K CL A ds J H'->ds.length<=sizeLine->Q J H'
  |.exn x=>∀ H',Az H H'->W x H'
  |.bad=>A5
def SI(X:Cx)(CL:ClA)(W:XW)(tg iter:Am)(f:Rho->R (Ac D)):Prop:=∀ A,PI X tg iter (fun σ H R=>AOk H A/\∃ ρ,Good X.K CL A ρ σ H/\DN X.K CL A W H (f ρ) R)
theorem PI.weak{t t':TI}(h:PI X tg e t)(k:∀ σ H Q,t' σ H Q->t σ H Q):PI X tg e t':=fun pI s σ H Q I q=>h pI s σ H Q I (k _ _ _ q)
section
variable{X:Cx}{CL:ClA}{W:XW}{pos p:AO}{tg e a b:Am}{fe fa fb:Rho->R D}
theorem DN.ex{f:D->R (Ac D)}{Q:It->Hp->Prop}{Q':VK}(h:DN X.K CL A W H (r.bind f) Q)(k:∀ d v H',r=.ok d->Az H H'->Rp H' v d->DN X.K CL A W H' (f d) Q->Q' v H'):A4 Rp W H r Q':=by
  cases r with
  | ok d=>exact fun v H' s q=>k d v H' rfl s q (by
      have h':DN X.K CL A W H (f d) Q:=h;cases e:f d with
      |ok ds=>rw[e]at h';exact fun J H2 s2 y z=>h' J H2 (s.trans s2) y z
      |exn y=>rw[e]at h';exact fun H2 s2=>h' H2 (s.trans s2)
      | bad=>rw[e]at h';exact h')
  |exn y=>exact h
  |bad=>exact h
theorem IV{x:V}(r:Rep K CL H1 A x d)(k:Kp A H1 H)(hB:∀ a,B a->A a\/H1 a=Af):Rep K CL H B x d:=by
 have r1:Rep K CL H1 (fun a=>A a\/B a) x d:=Rep.wide (fun a ha=>ha.elim .inl (hB a)) _ r
 have r2:Rep K CL H (fun a=>A a\/B a) x d:=Rep.kp (fun b o e na=>k b o e fun z=>na (.inl z)) _ r1
 exact Rep.sub (fun a ha=>.inr ha) _ r2
theorem TJ{ds:Ac D}(na:¬ A q\/KL K q xs)(s:SqL K H q xs)(r:Reps K CL H A xs ds):GR K CL A ds (Itl K q) H:=fun H' k i=>by
 have s':=J9 k na s;refine⟨fun h=>⟨xs,s',by rw[r.length];exact h⟩,fun d hd=>?_⟩
 obtain⟨v,hv,rv⟩:=r.get hd;exact⟨⟨xs,v,s',hv⟩,fun x H2 ⟨e,y⟩=>by
  subst e;have:=y xs s';rw[hv]at this;cases this;exact⟨Az.refl _,fun B hB _=>IV rv k hB⟩⟩
theorem UX{ds:Ac D}(na:¬ A q\/KT K q xs)(s:SqT K H q xs)(r:Reps K CL H A xs ds):GR K CL A ds (Itt K q) H:=fun H' k i=>by
 have s':=J8 k na s;refine⟨fun h=>⟨xs,s',by rw[r.length];exact h⟩,fun d hd=>?_⟩
 obtain⟨v,hv,rv⟩:=r.get hd;exact⟨⟨xs,v,s',hv⟩,fun x H2 ⟨e,y⟩=>by
  subst e;have:=y xs s';rw[hv]at this;cases this;exact⟨Az.refl _,fun B hB _=>IV rv k hB⟩⟩
theorem NV(lo:Ae)(n:Ag):GR K CL A (Ce lo n) (Itr lo n) H:=fun H' k i=>by
 refine⟨fun h=>by rw[HQ]at h;exact h,fun d hd=>?_⟩
 obtain⟨h1,rfl⟩:=NM hd;exact⟨h1,fun x H2 ⟨e,y⟩=>by
  subst e y;exact⟨Az.refl _,fun _ _ _=>rfl⟩⟩
theorem XN{l:Am}{tl:TE}(hl:PE X l tl):PI X tg l (fun σ H R=>tl σ H fun x H1=>(∃ a,x=.ref a/\(∃ xs,SqL X.K H1 a xs/\(xs.length<=sizeLine->R (Itl X.K a) H1)))\/∃ a,x=.ref a/\(∃ xs,SqT X.K H1 a xs/\(xs.length<=sizeLine->R (Itt X.K a) H1))):=by
 intro pI s σ H R I h;refine thn (hl pI s σ H _ I h) fun v s1 ⟨x,H1,I1,r1,q1⟩=>?_
 rcases q1 with ⟨a,e,xs,hq,q⟩|⟨a,e,xs,hq,q⟩
 ·subst e;cases r1;obtain⟨its,rv,p,hz⟩:=I1.list hq;refine C5 p.isList ?_;refine⟨s1.heap.objs.size,[s1.heap.objs.size],_,_,H1,rfl,I1.kept (t':=s1.toks) fun b o e=>Ar _ e,Tz a _,⟨_,AB _ rfl,rfl,rfl⟩,fun b hb=>?_,q hz⟩
  have e:b=s1.heap.objs.size:=by simpa using hb
  subst e;exact I1.fpOk (AK _) (I1.hok.fresh (AK _))
 ·subst e;cases r1;obtain⟨its,rv,p,hz⟩:=I1.tuple hq;refine Ec (show s1.heap.IsTuple a its.toArray from p) ?_
  refine⟨s1.heap.objs.size,[s1.heap.objs.size],_,_,H1,rfl,I1.kept (t':=s1.toks) fun b o e=>Ar _ e,TK a _,⟨_,AB _ rfl,rfl,rfl⟩,fun b hb=>?_,q hz⟩
  have e:b=s1.heap.objs.size:=by simpa using hb
  subst e;exact I1.fpOk (AK _) (I1.hok.fresh (AK _))
theorem fB(he:SE X CL W e fe):SI X CL W tg e (fun ρ=>(fe ρ).bind B5):=fun A=>PI.weak (XN (he A)) fun σ H R ⟨hA,ρ,g,p⟩=>⟨hA,ρ,g,DN.ex p fun d v H1 _ s1 r1 p1=>by
 cases d with
 |lst ds=>
  obtain⟨q,xs,rfl,na,sq,r⟩:=r1;exact .inl ⟨q,rfl,xs,sq,fun hz=>p1 _ H1 (Az.refl H1) (TJ na sq r) (by rw[<-r.length];exact hz)⟩
 |tup ds=>
  obtain⟨q,xs,rfl,na,sq,r⟩:=r1;exact .inr ⟨q,rfl,xs,sq,fun hz=>p1 _ H1 (Az.refl H1) (UX na sq r) (by rw[<-r.length];exact hz)⟩
 | _=>exact p1.elim⟩
theorem K8{hi:Ae}{ds:Ac D}(h:CM lo hi=.ok ds):(-(2 ^ 62)<=lo/\lo<2 ^ 62)/\(-(2 ^ 62)<=hi/\hi<2 ^ 62)/\ds=Ce lo (hi-lo).toNat/\(Ce lo (hi-lo).toNat).length<=sizeLine:=by
 unfold CM at h;split at h
 ·rename_i q;cases h;exact⟨by omega,by omega,rfl,by rw[HQ,DU];omega⟩
 ·cases h
theorem KS{hi:Ae}(h:CM lo hi=.exn x):A5:=by
 unfold CM at h;split at h<;>cases h
theorem Ym(ha:ST X CL W a fa)(hg:Gl X "range")(hm:X.mg "range" = Af)(hs:Ax [a] X.env=[(Ad,eval a X.env)]):SI X CL W tg (.Call (.Name "range" p) [a] [] pos) (fun ρ=>(fa ρ).bind fun x=>(Dp x).bind fun j=>CM 0 j):=
 fun A=>PI.weak (Ug hg hm (Ew (ha A) F4 hs) hs) fun σ H R ⟨hA,ρ,g,q⟩=>⟨hA,ρ,g,DN.ex q fun d v H1 _ s1 r1 p1=>by
  cases d with
  |int j=>
   have e:=r1.int_of;subst e;have p2:DN X.K CL A W H1 (CM 0 j) R:=p1;cases e2:CM 0 j with
   |ok ds=>
    rw[e2]at p2;obtain⟨_,h2,rfl,hz⟩:=K8 e2;exact⟨j,rfl,h2.1,h2.2,p2 _ H1 (Az.refl H1) (by rw[G0];exact NV 0 j.toNat) hz⟩
   |exn y=>exact(KS e2).elim
   |bad=>rw[e2]at p2;exact p2.elim
  | _=>exact p1.elim⟩
theorem Wm(ha:ST X CL W a fa)(hb:ST X CL W b fb)(hg:Gl X "range")(hm:X.mg "range" = Af)(hs:Ax [a,b] X.env=[(Ad,eval a X.env),(Ad,eval b X.env)])(hs2:Ax [b] X.env=[(Ad,eval b X.env)]):
  SI X CL W tg (.Call (.Name "range" p) [a,b] [] pos) (fun ρ=>(fa ρ).bind fun x=>(fb ρ).bind fun y=>(Dp x).bind fun i=>(Dp y).bind fun j=>CM i j):=
 fun A=>PI.weak (Uf hg hm (Ew (ha A) (Ew (hb A) F4 hs2) (by rw[hs,hs2])) hs hs2) fun σ H R ⟨hA,ρ,g,q⟩=>⟨hA,ρ,g,DN.ex q fun d v H1 _ s1 r1 p1=>⟨hA.same s1,ρ,g.same s1,DN.ex p1 fun d2 v2 H2 _ s2 r2 p2=>by
  cases d with
  |int i=>
   cases d2 with
   |int j=>
    have e:=r1.int_of;have e':=r2.int_of
    subst e e';have p3:DN X.K CL A W H2 (CM i j) R:=p2;cases e2:CM i j with
    |ok ds=>
     rw[e2]at p3;obtain⟨h1,h2,rfl,hz⟩:=K8 e2;exact⟨i,j,rfl,⟨h1.1,h1.2,h2.1,h2.2⟩,p3 _ H2 (Az.refl H2) (NV _ _) hz⟩
    |exn y=>exact(KS e2).elim
    |bad=>rw[e2]at p3;exact p3.elim
   |_=>exact p2.elim
  | _=>exact p2.elim⟩⟩
theorem BV.exI{r:R (Ac D)}{f:Ac D->O}{Q:It->Hp->Prop}(x:Sx X.K CL Fz B ρ σ H)(h:BV X.K CL Fz B W (O.of ρ r f) D')(k:∀ ds J H',r=.ok ds->Az H H'->GR X.K CL A ds J H'->ds.length<=sizeLine->Sx X.K CL Fz B ρ σ H'->BV X.K CL Fz B W (f ds) D'->Q J H'):DN X.K CL A W H r Q:=by
 cases r with
 |ok d=>exact fun J H' s y z=>k d J H' rfl s y z (x.grow s) h
 |exn y=>exact fun H' s=>h H' fun b o z=>s _ _ (x.same b o z)
 |bad=>exact h
theorem BV.turn{Fy:Aj->HO->Prop}{o:O}{g:Rho->O}{N:L2.St->Hp->Prop}(hf:∀ b q,Fz b q->Fy b q)(h:BV K CL Fz B W (o.turn g) D')(k:∀ ρ' σ' H',Sx K CL Fy B ρ' σ' H'->BV K CL Fz B W (g ρ') D'->N σ' H'):BV K CL Fy B W o {D' with nx:=N,ct:=N,bk:=D'.nx}:=by
 cases o with
 |next ρ'=>exact fun σ' H' x=>k ρ' σ' H' x h
 |cont ρ'=>exact fun σ' H' x=>k ρ' σ' H' x h
 |brk ρ'=>exact fun σ' H' x=>h σ' H' (x.mono hf)
 |ret d b=>exact fun v H' s r n=>h v H' (fun b o z=>s b o (hf b o z)) r fun z ds e=>let ⟨a,xs,h1,h2,h3⟩:=n z ds e;⟨a,xs,h1,fun o q=>h2 o (hf a o q),h3⟩
 |exn y ρ'=>exact fun H' s=>h H' (fun b o z=>s b o (hf b o z))
 |bad=>exact h
noncomputable def Ed(ts:Ac Ag)(ρ:Rho):Rho:=ts.foldl (fun ρ t=>ρ.set t Af) ρ
def GT(K:Fg)(CL:ClA)(as:D->Rho->R Rho)(g:TG):Prop:=∀ Fz B ρ σ H v d ρ' Q,Sx K CL Fz B ρ σ H->Rep K CL H (BY B ρ σ) v d->as d ρ=.ok ρ'->(∀ σ',Sx K CL Fz B ρ' σ' H->Q σ' H)->g v σ H Q
theorem W9(i:Ag):GT K CL (fun d ρ=>.ok (ρ.set i (Aa (d,Ad)))) (DZ i):=fun Fz B ρ σ H v d ρ' Q x r e k=>by
 cases e;exact k _ (x.set i r)
theorem L9{K:Fg}{Fz:Aj->HO->Prop}{B:Aj->Prop}{H:Hp}:∀(ts:Ac Ag)(ds:Ac D)(vs:Ac V)(ρ ρ':Rho)(σ:L2.St)(Q:L2.St->Hp->Prop),Sx K CL Fz B ρ σ H->Reps K CL H (BY B ρ σ) vs ds->DL ts ds ρ=Aa ρ'->(∀ σ',Sx K CL Fz B ρ' σ' H->Q σ' H)->(ts.foldr (fun t u=>F7 (DZ t) u) F9) vs σ H Q
 |[],[],[],ρ,ρ',σ,Q,x,_,e,k=>by
  cases e;exact⟨rfl,k σ x⟩
 |t::ts,d::ds,v::vs,ρ,ρ',σ,Q,x,r,e,k=>by
  refine⟨v,vs,rfl,L9 ts ds vs _ ρ' _ Q (x.set t r.1) (Reps.sub (fun a ha=>?_) ds r.2) e k⟩
  rcases ha with ha|⟨j,c,h1,h2⟩
  ·exact .inl ha
  ·by_cases hj:t=j
   ·subst hj;have:=F2 h1;cases this
   ·rw[Cd hj]at h1 h2;exact .inr ⟨j,c,h1,h2⟩
 |[],_::_,_,_,_,_,_,_,_,e,_=>by cases e
 |_::_,[],_,_,_,_,_,_,_,e,_=>by cases e
 |[],[],_::_,_,_,_,_,_,r,_,_=>r.elim
 |_::_,_::_,[],_,_,_,_,_,r,_,_=>r.elim
theorem JG:∀(ts:Ac Ag)(ds:Ac D)(ρ ρ':Rho),DL ts ds ρ=Aa ρ'->ds.length=ts.length
 |[],[],_,_,_=>rfl
 |_::ts,_::ds,_,_,e=>congrArg (· + 1) (JG ts ds _ _ e)
 |[],_::_,_,_,e=>by cases e
 |_::_,[],_,_,e=>by cases e
theorem O7(ts:Ac Ag):GT K CL (E8 ts) (IC K ts.length (ts.foldr (fun t u=>F7 (DZ t) u) F9)):=fun Fz B ρ σ H v d ρ' Q x r e k=>by
 cases d with
 |tup ds=>
  obtain⟨a,xs,rfl,na,sq,rs⟩:=r;rw[M3]at e;cases e2:DL ts ds ρ with
  |none=>rw[e2]at e;cases e
  |some ρ2=>
   rw[e2]at e;cases e;exact⟨a,xs,rfl,sq,by rw[rs.length];exact JG _ _ _ _ e2,L9 ts ds xs ρ _ σ Q x rs e2 k⟩
 |_=>cases e
theorem Pw{body:Ac Bp}{fbd:Rho->O}{g:TG}(hp:EI (model X.prog X.w) X.A X.env X.xe)(hc:X.calm=Ab)(hGT:GT X.K CL as g)(hg:PG X tg g)(hit:SI X CL W tg iter fi)(hb:SSs X CL W body fbd)(hs:∀ x,Cj iter X.env x=pure x)(hax:∀ d ρ x,as d ρ≠.exn x):SS X CL W (.For tg iter body [] pos) (fun ρ=>O.of ρ (fi ρ) fun xs=>CU (fun x ρ'=>O.of ρ' (as x ρ') fbd) xs ρ):=fun Fz B pI s σ H D I ⟨ρ,x,p⟩=>by
 refine Yj hp hc (hit (BY B ρ σ)) hg (tb:=fun D σ H=>∃ Fy,(fun D σ H=>∃ ρ,Sx X.K CL Fy B ρ σ H/\BV X.K CL Fy B W (fbd ρ) D) D σ H) (fun pI s σ H D I ⟨Fy,q⟩=>hb Fy B pI s σ H D I q) hs pI s σ H D I ⟨x.aok,ρ,x.good,BV.exI x p fun ds J H1 _ s1 y _ x1 q=>?_⟩
 let Fy:Aj->HO->Prop:=fun b o=>H1 b=Aa o/\¬ ∃(j:Ag)(d:Ov.D),ρ[j]?=Aa (Aa (d,Ab))/\σ[j]?=Aa (Aa (.ref b))
 have hfy:∀ b o,Fz b o->Fy b o:=fun b o z=>⟨x1.same b o z,fun ⟨j,d,h1,h2⟩=>(x1.new j d b h1 h2).1 o z⟩
 have xy:Sx X.K CL Fy B ρ σ H1:=⟨x1.good,x1.aok,fun j d a h1 h2=>⟨fun o z=>z.2 ⟨j,d,h1,h2⟩,(x1.new j d a h1 h2).2⟩,x1.dis,fun b o z=>z.1,x1.len⟩
 refine⟨fun k m σ' H'=>m=ds.length-k/\k<=ds.length/\∃ ρ',Sx X.K CL Fy B ρ' σ' H'/\BV X.K CL Fz B W (CU (fun x ρ'=>O.of ρ' (as x ρ') fbd) (ds.drop k) ρ') D,⟨ds.length,by simp,Gf _,ρ,xy,q⟩,?_⟩
 rintro k m σ' H' ⟨rfl,hk,ρ',x',q'⟩;have kp:Kp (BY B ρ σ) H1 H':=fun b o e na=>x'.same b o ⟨e,fun z=>na (.inr z)⟩
 obtain⟨yst,ygo⟩:=y H' kp k;by_cases hlt:k<ds.length
 ·have hd:ds[k]?=Aa ds[k]:=BA hlt;obtain⟨hgo,hyl⟩:=ygo _ hd;refine .inr ⟨hgo,fun σ'' H''=>∃ ρ'',Sx X.K CL Fy B ρ'' σ'' H''/\BV X.K CL Fz B W (CU (fun x ρ'=>O.of ρ' (as x ρ') fbd) (ds.drop (k+1)) ρ'') D,fun σ'' H'' z=>⟨ds.length-(k+1),by omega,rfl,hlt,z⟩,fun v H2 hv=>?_⟩
  obtain⟨e2,rv⟩:=hyl v H2 hv;rw[D4 hlt]at q';have q2:BV X.K CL Fz B W ((O.of ρ' (as ds[k] ρ') fbd).turn (CU (fun x ρ'=>O.of ρ' (as x ρ') fbd) (ds.drop (k+1)))) D:=q'
  have rv':Rep X.K CL H2 (BY B ρ' σ') v ds[k]:=rv _ (fun a ha=>by
    rcases ha with ha|⟨j,d,h1,h2⟩
    ·exact .inl (.inl ha)
    ·cases e:H1 a with
     |none=>exact .inr rfl
     |some o=>
      by_cases ho:∃(j:Ag)(d:Ov.D),ρ[j]?=Aa (Aa (d,Ab))/\σ[j]?=Aa (Aa (.ref a))
      ·exact .inl (.inr ho)
      ·exact absurd ⟨e,ho⟩ ((x'.new j d a h1 h2).1 o)) x'.aok
  cases ea:as ds[k] ρ' with
  |bad=>rw[ea]at q2;exact q2.elim
  |exn z=>exact absurd ea (hax _ _ z)
  |ok ρ2=>
   rw[ea,O.of_ok]at q2;exact hGT Fy B ρ' σ' H2 v ds[k] ρ2 _ (x'.grow e2) rv' ea fun σ3 x3=>⟨Fy,ρ2,x3,BV.turn hfy q2 fun ρ3 σ3 H3 x3 q3=>⟨ρ3,x3,q3⟩⟩
 ·have hk':ds.length<=k:=by omega
  rw[Ri hk']at q';exact .inl ⟨yst hk',q' σ' H' (x'.mono hfy)⟩
end
section
variable{X:Cx}{CL:ClA}{W:XW}{a b c:Am}{fa fb fc:Rho->R D}{pos:AO}
noncomputable def tyK:Ki->Ap Dm
 |.int=>Aa "int"
 |.bool=>Aa "bool"
 |.str=>Aa "str"
 |.list=>Aa "list"
 |.tuple=>Aa "tuple"
 |_=>Af
noncomputable def Me:D->An
 |.obj _ _=>Ad
 |.exc _ _=>Ad
 |.dic _=>Ad
 |_=>Ab
theorem YT{k:Ki}{Q:Vq}{E:Vq}(I:Inv X pI σ H s)(r:Cm X.K CL H A v d)(q:Bm v u)(hT:tyK k=Aa T)(hd:Me d=Ab)(h:∀ s',Inv X pI σ H s'->Q (.bool (kiD up k d)) s'):
  AD (model X.prog X.w) X.A (call (.builtin "isinstance") [u,.type T]) Q E s:=by
 have r':=r.plain;have it:=fun t=>h _ (I.tok t)
 cases d with
 |obj=>cases hd
 |exc=>cases hd
 |dic=>cases hd
 |non=>
  cases r';cases q;cases k<;>simp only[tyK]at hT<;>cases hT
  ·exact IsiPair.NoneType_int (it _)
  ·exact IsiPair.NoneType_bool (it _)
  ·exact IsiPair.NoneType_str (it _)
  ·exact IsiPair.NoneType_list (it _)
  ·exact IsiPair.NoneType_tuple (it _)
 |bl b=>
  cases r';cases q;cases k<;>simp only[tyK]at hT<;>cases hT
  ·exact IsiPair.bool_int (h _ I)
  ·exact IsiPair.bool_bool (h _ I)
  ·exact IsiPair.bool_str (it _)
  ·exact IsiPair.bool_list (it _)
  ·exact IsiPair.bool_tuple (it _)
 |int i=>
  cases r';obtain⟨t,rfl⟩:=q;cases k<;>simp only[tyK]at hT<;>cases hT
  ·exact IsiPair.int_int (h _ I)
  ·exact IsiPair.int_bool (it _)
  ·exact IsiPair.int_str (it _)
  ·exact IsiPair.int_list (it _)
  ·exact IsiPair.int_tuple (it _)
 |str x=>
  cases r';obtain⟨t,rfl⟩:=q;cases k<;>simp only[tyK]at hT<;>cases hT
  ·exact IsiPair.str_int (it _)
  ·exact IsiPair.str_bool (it _)
  ·exact IsiPair.str_str (h _ I)
  ·exact IsiPair.str_list (it _)
  ·exact IsiPair.str_tuple (it _)
 |tup ds=>
  obtain⟨p,xs,rfl,_,sq,rr⟩:=r';obtain⟨its,rv,pt,_⟩:=I.tuple sq;cases q;have pt':s.heap.IsTuple p its.toArray:=pt;cases k<;>simp only[tyK]at hT<;>cases hT
  ·exact IsiPair.isTuple_int pt' (fun _ _ e=>e) (it _)
  ·exact IsiPair.isTuple_bool pt' (fun _ _ e=>e) (it _)
  ·exact IsiPair.isTuple_str pt' (fun _ _ e=>e) (it _)
  ·exact IsiPair.isTuple_list pt' (fun _ _ e=>e) (it _)
  ·exact IsiPair.isTuple_tuple pt' (fun _ _ e=>e) (h _ I)
 |lst ds=>
  obtain⟨p,xs,rfl,_,sq,rr⟩:=r';obtain⟨its,rv,pl,_⟩:=I.list sq;cases q;have pt':s.heap.IsList p its.toArray:=Gj pl;cases k<;>simp only[tyK]at hT<;>cases hT
  ·exact IsiPair.isList_int pt' (fun _ _ e=>e) (it _)
  ·exact IsiPair.isList_bool pt' (fun _ _ e=>e) (it _)
  ·exact IsiPair.isList_str pt' (fun _ _ e=>e) (it _)
  ·exact IsiPair.isList_list pt' (fun _ _ e=>e) (h _ I)
  ·exact IsiPair.isList_tuple pt' (fun _ _ e=>e) (it _)
theorem T5{k:Ki}(hT:tyK k=Aa T)(p:A4 Rp W H (FB up [k] d) Q):Me d=Ab/\A4 Rp W H (.ok (.bl (kiD up k d))) Q:=by
 cases k<;>simp only[tyK]at hT<;>cases hT<;>cases d<;>first|exact p.elim|exact⟨rfl,by simpa using p⟩
theorem Yt{k:Ki}{x:Ah}(hT:tyK k=Aa T)(hg:Gl X "isinstance")(hm:X.mg "isinstance" = Af)(hg2:Gl X x)(hm2:X.mg x=Af)(hv:Cq x=Aa (.type T))(hn:x≠"__name__")(hdb:(x==("__debug__" : Ah))=Ad)(ha:ST X CL W a fa)(he:Ax [a,.Name x p2] X.env=(Ad,eval a X.env)::Ax [.Name x p2] X.env):SE X CL W (.Call (.Name "isinstance" p) [a,.Name x p2] [] pos) (fun ρ=>(fa ρ).bind fun x=>FB up [k] x):=fun A=>
 PE.weak (N5 (r:=fun xs H Q=>∃ y d,xs=[y,.ty T]/\Cm X.K CL H A y d/\Me d=Ab/\Q (.bl (kiD up k d)) H) (fun pI s σ H xs us Q I r ⟨y,d,e,ry,hd,q⟩=>by
   subst e;obtain⟨u,w',rfl,r1,r2⟩:=PK r;cases r2;exact YT I ry r1 hT hd fun s' I'=>⟨.bl _,H,I',rfl,q⟩)
  hg hm boot_isinstance (Ew (ha A) (Ew (Vw (v:=.ty T) hg2 hm2 hv rfl hn hdb) F4 rfl) he) (by decide) (by decide) he rfl) fun σ H Q ⟨hA,ρ,g,q⟩=>⟨hA,ρ,g,A4.bind q fun d v H1 _ s1 r1 p1=>by
   obtain⟨hd,p2⟩:=T5 hT p1;exact⟨v,d,rfl,r1,hd,p2 _ H1 (Az.refl H1) rfl⟩⟩
theorem Ll{b:An}{A':A2}{E:Vq}{Q:An->Ao->Prop}(r:Rep X.K CL H A v d)(q:Bm v u)(h:Dt d=.ok b)(hq:Q b s):AD (model prog w) A' (truthy u) Q E s:=by
 cases d with
 |non=>
  cases r;cases q;cases h;exact truthy_none hq
 |bl k=>
  cases r;cases q;cases h;exact B1 hq
 |int i=>
  cases r;obtain⟨t,rfl⟩:=q;cases h;exact truthy_int hq
 |_=>cases h
theorem Na:∀{ds:Ac D}{b:An},EX ds=.ok b->(∀ j,j<ds.length->∃ c,Dt (ds.getD j .non)=.ok c)/\b=(BB ds.length).all fun j=>match Dt (ds.getD j .non) with
  |.ok c=>c
  |_=>Ad
 |[],b,h=>by cases h;exact⟨fun j hj=>absurd hj (Gc _),rfl⟩
 |d::ds,b,h=>by
  rw[M7]at h;cases e:Dt d with
  |bad=>rw[e]at h;cases h
  |exn x=>rw[e]at h;cases h
  |ok c=>
   rw[e,R.bind_ok]at h;cases e2:EX ds with
   |bad=>rw[e2]at h;cases h
   |exn x=>rw[e2]at h;cases h
   |ok c2=>
    rw[e2,R.bind_ok]at h;cases h;obtain⟨h1,h2⟩:=Na e2;refine⟨fun j hj=>?_,?_⟩
    ·cases j with
     |zero=>exact⟨c,e⟩
     |succ j=>exact h1 j (by simpa using hj)
    ·rw[Br,MZ,h2];show (c&&_)=((match Dt d with | .ok c=>c|_=>Ad)&&_)
     rw[e];rfl
theorem M9:∀{ds:Ac D}{b:An},El ds=.ok b->(∀ j,j<ds.length->∃ c,Dt (ds.getD j .non)=.ok c)/\b=(BB ds.length).any fun j=>match Dt (ds.getD j .non) with
  |.ok c=>c
  |_=>Ad
 |[],b,h=>by cases h;exact⟨fun j hj=>absurd hj (Gc _),rfl⟩
 |d::ds,b,h=>by
  rw[M6]at h;cases e:Dt d with
  |bad=>rw[e]at h;cases h
  |exn x=>rw[e]at h;cases h
  |ok c=>
   rw[e,R.bind_ok]at h;cases e2:El ds with
   |bad=>rw[e2]at h;cases h
   |exn x=>rw[e2]at h;cases h
   |ok c2=>
    rw[e2,R.bind_ok]at h;cases h;obtain⟨h1,h2⟩:=M9 e2;refine⟨fun j hj=>?_,?_⟩
    ·cases j with
     |zero=>exact⟨c,e⟩
     |succ j=>exact h1 j (by simpa using hj)
    ·rw[Br,DB,Rc,List.any_map,h2];show (c||_)=((match Dt d with | .ok c=>c|_=>Ad)||_)
     rw[e];rfl
theorem NX:∀(ds:Ac D)(a z:Ae),Fe a ds=.ok z->(∀ j,j<ds.length->∃ i,ds.getD j .non=.int i)/\z=a+G6 (fun j=>match ds.getD j .non with
  |.int i=>i
  | _=>0) ds.length
 |[],a,z,h=>by cases h;exact⟨fun j hj=>absurd hj (Gc _),by simp[G6]⟩
 |.int i::ds,a,z,h=>by
  obtain⟨h1,h2⟩:=NX ds (a+i) z h;refine⟨fun j hj=>?_,?_⟩
  ·cases j with
   |zero=>exact⟨i,rfl⟩
   |succ j=>exact h1 j (by simpa using hj)
  ·have key:∀ n,G6 (fun j=>match (D.int i::ds).getD j .non with | .int i=>i|_=>0) (n+1)=i+G6 (fun j=>match ds.getD j .non with | .int i=>i|_=>0) n:=by
    intro n
    induction n with
    |zero=>show (0:Ae)+i=i+0;omega
    |succ n ih=>
     show G6 _ (n+1)+(match ds.getD n .non with | .int i=>i|_=>0)=i+(G6 _ n+(match ds.getD n .non with | .int i=>i|_=>0))
     rw[ih];omega
   rw[h2,Br,key];omega
 |.non::_,_,_,h=>by cases h
 |.bl _::_,_,_,h=>by cases h
 |.str _::_,_,_,h=>by cases h
 |.tup _::_,_,_,h=>by cases h
 |.lst _::_,_,_,h=>by cases h
 |.obj _ _::_,_,_,h=>by cases h
 |.exc _ _::_,_,_,h=>by cases h
 |.dic _::_,_,_,h=>by cases h
theorem Jh{ds:Ac D}{its:Ac Ai}(r:Reps X.K CL H A0 xs ds)(rv:AW xs its){v:Ai}(h:its.toArray[j]?=Aa v):j<ds.length/\∃ x,Rep X.K CL H A0 x (ds.getD j .non)/\Bm x v:=by
 have h':its[j]?=Aa v:=by simpa using h
 obtain⟨hj,e⟩:=AM.mp h';obtain⟨x,rx,q⟩:=Hw r rv hj;have l1:=rv.length;have l2:=r.length
 exact⟨by omega,x,rx,by rw[<-e];exact q⟩
theorem Jr{o:Dk}(k:∀ b q,b∉[h.objs.size]->(h.push o).get? b=Aa q->h'.get? b=Aa q):∀ b q,h.get? b=Aa q->h'.get? b=Aa q:=fun b q e=>k b q (by
 intro z;have:=BH.mp z;rw[this]at e;exact absurd (Ay e) (Bc _)) (Ar _ e)
theorem Zl(hc:X.calm=Ab):Hd X CL W (.builtin "all") (biD .all):=by
  intro A pI s σ H xs us Q I r ⟨hA,ds,rs,p⟩
  match ds,rs,p with
  |[.lst es],rs,p=>
    obtain⟨v,rfl,rv⟩:=rs.one;obtain⟨q,ys,e,_,sq,ry⟩:=rv.plain;subst e;obtain⟨u,rfl,ru⟩:=Gm r;cases ru;rw[eK]at p;cases e1:EX es with
    |bad=>rw[e1]at p;exact p.elim
    |exn x=>
      exfalso
      have:∀(es:Ac D) x,EX es≠.exn x:=by
        intro es
        induction es with
        |nil=>intro x h;cases h
        |cons d ds ih=>
          intro x h;rw[M7]at h;cases e:Dt d with
          |bad=>rw[e]at h;cases h
          |exn y=>cases d<;>cases e
          |ok c=>
            rw[e,R.bind_ok]at h;cases e2:EX ds with
            |bad=>rw[e2]at h;cases h
            |exn y=>exact ih y e2
            |ok c2=>rw[e2]at h;cases h
      exact this es x e1
    |ok b=>
      rw[e1,R.bind_ok]at p;obtain⟨h1,h2⟩:=Na e1;obtain⟨its,rvv,pl,_⟩:=I.list sq;have hlt:q<s.heap.objs.size:=by obtain⟨o,n,e,_⟩:=pl;exact Ay e
      have hl:its.toArray.size=es.length:=by rw[Au,<-rvv.length,ry.length]
      refine call_all_walk (C5 (Gj pl) ⟨s.heap.objs.size,_,_,_,_,_,(fun j=>match Dt (es.getD j .non) with | .ok c=>c|_=>Ad),rfl,HK (A:=X.A.in1) (I.ok.hd hc) s.heap.objs.size q (A1 hlt) its.toArray,⟨⟨_,AB _ rfl,rfl,rfl⟩,(Gj pl).push _⟩,fun j v s' Q' E' hv hQ=>?_,fun h' tk k=>?_⟩)
      · obtain⟨hj,x,rx,qx⟩:=Jh ry rvv hv;obtain⟨c,ec⟩:=h1 j hj;exact Ll rx qx ec (by dsimp only at hQ;rw[ec]at hQ;exact hQ)
      · rw[hl,<-h2];exact⟨.bl b,H,I.kept (Jr k),rfl,p _ H (Az.refl H) rfl⟩
  |[],_,p=>exact p.elim
  |[.non],_,p=>exact p.elim
  |[.bl _],_,p=>exact p.elim
  |[.int _],_,p=>exact p.elim
  |[.str _],_,p=>exact p.elim
  |[.tup _],_,p=>exact p.elim
  |[.obj _ _],_,p=>exact p.elim
  |[.exc _ _],_,p=>exact p.elim
  |[.dic _],_,p=>exact p.elim
  |x::_::_,_,p=>cases x<;>exact p.elim
theorem OX(hc:X.calm=Ab){es:Ac D}(I:Inv X pI σ H s)(sq:SqL X.K H q ys\/SqT X.K H q ys)(ry:Reps X.K CL H A0 ys es)(p:A4 (fun H=>Rep X.K CL H A) W H ((El es).bind fun b=>.ok (.bl b)) Q):AD (model X.prog X.w) X.A (call (.builtin "any") [.ref q]) (EP X pI σ Q) X.xe s:=by
 cases e1:El es with
 |bad=>rw[e1]at p;exact p.elim
 |exn x=>
  exfalso
  clear p
  have:∀(es:Ac D) x,El es≠.exn x:=by
   intro es
   induction es with
   |nil=>intro x h;cases h
   |cons d ds ih=>
    intro x h;rw[M6]at h;cases e:Dt d with
    |bad=>rw[e]at h;cases h
    |exn y=>cases d<;>cases e
    |ok c=>
     rw[e,R.bind_ok]at h;cases e2:El ds with
     |bad=>rw[e2]at h;cases h
     |exn y=>exact ih y e2
     |ok c2=>rw[e2]at h;cases h
  exact this es x e1
 |ok b=>
  rw[e1,R.bind_ok]at p;obtain⟨h1,h2⟩:=M9 e1;rcases sq with sq|sq
  ·obtain⟨its,rvv,pl,_⟩:=I.list sq;have hlt:q<s.heap.objs.size:=by obtain⟨o,n,e,_⟩:=pl;exact Ay e
   have hl:its.toArray.size=es.length:=by rw[Au,<-rvv.length,ry.length]
   refine call_any_walk (C5 (Gj pl) ⟨s.heap.objs.size,_,_,_,_,_,(fun j=>match Dt (es.getD j .non) with | .ok c=>c|_=>Ad),rfl,HK (A:=X.A.in1) (I.ok.hd hc) s.heap.objs.size q (A1 hlt) its.toArray,⟨⟨_,AB _ rfl,rfl,rfl⟩,(Gj pl).push _⟩,fun j v s' Q' E' hv hQ=>?_,fun h' tk k=>?_⟩)
   ·obtain⟨hj,x,rx,qx⟩:=Jh ry rvv hv;obtain⟨c,ec⟩:=h1 j hj;exact Ll rx qx ec (by dsimp only at hQ;rw[ec]at hQ;exact hQ)
   ·rw[hl,<-h2];exact⟨.bl b,H,I.kept (Jr k),rfl,p _ H (Az.refl H) rfl⟩
  ·obtain⟨its,rvv,pl,_⟩:=I.tuple sq;have pl':s.heap.IsTuple q its.toArray:=pl;have hlt:q<s.heap.objs.size:=by obtain⟨o,e,_⟩:=pl';exact Ay e
   have hl:its.toArray.size=es.length:=by rw[Au,<-rvv.length,ry.length]
   refine call_any_walk (Ec pl' ⟨s.heap.objs.size,_,_,_,_,_,(fun j=>match Dt (es.getD j .non) with | .ok c=>c|_=>Ad),rfl,SU (A:=X.A.in1) (I.ok.hd hc) s.heap.objs.size q (A1 hlt) its.toArray,⟨⟨_,AB _ rfl,rfl,rfl⟩,pl'.push _⟩,fun j v s' Q' E' hv hQ=>?_,fun h' tk k=>?_⟩)
   ·obtain⟨hj,x,rx,qx⟩:=Jh ry rvv hv;obtain⟨c,ec⟩:=h1 j hj;exact Ll rx qx ec (by dsimp only at hQ;rw[ec]at hQ;exact hQ)
   ·rw[hl,<-h2];exact⟨.bl b,H,I.kept (Jr k),rfl,p _ H (Az.refl H) rfl⟩
theorem Zk(hc:X.calm=Ab):Hd X CL W (.builtin "any") (biD .any):=by
  intro A pI s σ H xs us Q I r ⟨hA,ds,rs,p⟩
  match ds,rs,p with
  |[.lst es],rs,p=>
    obtain⟨v,rfl,rv⟩:=rs.one;obtain⟨q,ys,e,_,sq,ry⟩:=rv.plain;subst e;obtain⟨u,rfl,ru⟩:=Gm r;cases ru;exact OX hc I (.inl sq) ry p
  |[.tup es],rs,p=>
    obtain⟨v,rfl,rv⟩:=rs.one;obtain⟨q,ys,e,_,sq,ry⟩:=rv.plain;subst e;obtain⟨u,rfl,ru⟩:=Gm r;cases ru;exact OX hc I (.inr sq) ry p
  |[],_,p=>exact p.elim
  |[.non],_,p=>exact p.elim
  |[.bl _],_,p=>exact p.elim
  |[.int _],_,p=>exact p.elim
  |[.str _],_,p=>exact p.elim
  |[.obj _ _],_,p=>exact p.elim
  |[.exc _ _],_,p=>exact p.elim
  |[.dic _],_,p=>exact p.elim
  |x::_::_,_,p=>cases x<;>exact p.elim
theorem Oj(hc:X.calm=Ab){es:Ac D}(I:Inv X pI σ H s)(sq:SqL X.K H q ys\/SqT X.K H q ys)(ry:Reps X.K CL H A0 ys es)(p:A4 (fun H=>Rep X.K CL H A) W H ((Fe 0 es).bind fun b=>.ok (.int b)) Q):AD (model X.prog X.w) X.A (call (.builtin "sum") [.ref q]) (EP X pI σ Q) X.xe s:=by
 cases e1:Fe 0 es with
 |bad=>rw[e1]at p;exact p.elim
 |exn x=>
  exfalso
  have:∀(es:Ac D)(a:Ae) x,Fe a es≠.exn x:=by
   intro es
   induction es with
   |nil=>intro a x h;cases h
   |cons d ds ih=>
    intro a x h;cases d<;>first|exact ih _ _ h|cases h
  exact this es 0 x e1
 |ok z=>
  rw[e1,R.bind_ok]at p;obtain⟨h1,h2⟩:=NX es 0 z e1;rw[EJ]at h2;rcases sq with sq|sq
  ·obtain⟨its,rvv,pl,_⟩:=I.list sq;have hlt:q<s.heap.objs.size:=by obtain⟨o,n,e,_⟩:=pl;exact Ay e
   have hl:its.toArray.size=es.length:=by rw[Au,<-rvv.length,ry.length]
   refine SV (C5 (Gj pl) ⟨s.heap.objs.size,_,_,_,_,_,(fun j=>match es.getD j .non with | .int i=>i|_=>0),rfl,HK (A:=X.A.in1) (I.ok.hd hc) s.heap.objs.size q (A1 hlt) its.toArray,⟨⟨_,AB _ rfl,rfl,rfl⟩,(Gj pl).push _⟩,fun b hb=>?_,fun j v hv=>?_,fun h' tk t' k=>?_⟩)
   ·show b<(s.heap.push _).objs.size;rw[By];rcases At.mp hb with rfl|hb
    ·exact Ev _
    ·rw[BH.mp hb];exact CD hlt
   ·obtain⟨hj,x,rx,qx⟩:=Jh ry rvv hv;obtain⟨i,ei⟩:=h1 j hj;rw[ei]at rx;dsimp only;rw[ei];cases rx;exact qx
   ·rw[hl,<-h2];exact⟨.int z,H,I.kept (Jr k),⟨_,rfl⟩,p _ H (Az.refl H) rfl⟩
  ·obtain⟨its,rvv,pl,_⟩:=I.tuple sq;have pl':s.heap.IsTuple q its.toArray:=pl;have hlt:q<s.heap.objs.size:=by obtain⟨o,e,_⟩:=pl';exact Ay e
   have hl:its.toArray.size=es.length:=by rw[Au,<-rvv.length,ry.length]
   refine SV (Ec pl' ⟨s.heap.objs.size,_,_,_,_,_,(fun j=>match es.getD j .non with | .int i=>i|_=>0),rfl,SU (A:=X.A.in1) (I.ok.hd hc) s.heap.objs.size q (A1 hlt) its.toArray,⟨⟨_,AB _ rfl,rfl,rfl⟩,pl'.push _⟩,fun b hb=>?_,fun j v hv=>?_,fun h' tk t' k=>?_⟩)
   ·show b<(s.heap.push _).objs.size;rw[By];rcases At.mp hb with rfl|hb
    ·exact Ev _
    ·rw[BH.mp hb];exact CD hlt
   ·obtain⟨hj,x,rx,qx⟩:=Jh ry rvv hv;obtain⟨i,ei⟩:=h1 j hj;rw[ei]at rx;dsimp only;rw[ei];cases rx;exact qx
   ·rw[hl,<-h2];exact⟨.int z,H,I.kept (Jr k),⟨_,rfl⟩,p _ H (Az.refl H) rfl⟩
theorem ZO(hc:X.calm=Ab):Hd X CL W (.builtin "sum") (biD .sum):=by
  intro A pI s σ H xs us Q I r ⟨hA,ds,rs,p⟩
  match ds,rs,p with
  |[.lst es],rs,p=>
    obtain⟨v,rfl,rv⟩:=rs.one;obtain⟨q,ys,e,_,sq,ry⟩:=rv.plain;subst e;obtain⟨u,rfl,ru⟩:=Gm r;cases ru;exact Oj hc I (.inl sq) ry p
  |[.tup es],rs,p=>
    obtain⟨v,rfl,rv⟩:=rs.one;obtain⟨q,ys,e,_,sq,ry⟩:=rv.plain;subst e;obtain⟨u,rfl,ru⟩:=Gm r;cases ru;exact Oj hc I (.inr sq) ry p
  |[],_,p=>exact p.elim
  |[.non],_,p=>exact p.elim
  |[.bl _],_,p=>exact p.elim
  |[.int _],_,p=>exact p.elim
  |[.str _],_,p=>exact p.elim
  |[.obj _ _],_,p=>exact p.elim
  |[.exc _ _],_,p=>exact p.elim
  |[.dic _],_,p=>exact p.elim
  |x::_::_,_,p=>cases x<;>exact p.elim
end
section
variable(K:Fg)(CL:ClA)
def dX(H0:Hp)(A:Aj->Prop)(H:Hp)(v:V)(d:D):Prop:=∀ ds,d=.lst ds->∃ a xs,v=.ref a/\H0 a=Af/\H a=Aa (.lst xs)/\Reps K CL H (fun b=>A b\/b=a) xs ds
def Dq(fr:An)(H0:Hp)(A:Aj->Prop)(H:Hp)(v:V)(d:D):Prop:=Rep K CL H A v d/\(fr=Ab->dX K CL H0 A H v d)
end
section
variable{X:Cx}{CL:ClA}{W:XW}{a b c:Am}{fa fb fc:Rho->R D}{pos:AO}
def SC(X:Cx)(CL:ClA)(W:XW)(fr:An)(e:Am)(f:Rho->R D):Prop:=∀ A,PE X e (fun σ H Q=>AOk H A/\∃ ρ,Good X.K CL A ρ σ H/\A4 (Dq X.K CL fr H A) W H (f ρ) Q)
theorem SC.se{fr:An}(h:SC X CL W fr a fa):SE X CL W a fa:=fun A=>PE.weak (h A) fun σ H Q ⟨hA,ρ,g,p⟩=>⟨hA,ρ,g,by
 cases e:fa ρ with
 |ok d=>rw[e]at p;exact fun v H' s r=>p v H' s r.1
 |exn x=>rw[e]at p;exact p
 | bad=>rw[e]at p;exact p⟩
theorem SE.sc(h:SE X CL W a fa):SC X CL W Ad a fa:=fun A=>PE.weak (h A) fun σ H Q ⟨hA,ρ,g,p⟩=>⟨hA,ρ,g,by
 cases e:fa ρ with
 |ok d=>rw[e]at p;exact fun v H' s r=>p v H' s ⟨r,fun z=>nomatch z⟩
 |exn x=>rw[e]at p;exact p
 | bad=>rw[e]at p;exact p⟩
theorem SC.congr{fr:An}{f g:Rho->R D}(h:SC X CL W fr a f)(e:∀ ρ,g ρ=f ρ):SC X CL W fr a g:=fun A=>PE.weak (h A) fun σ H Q ⟨hA,ρ,q,p⟩=>⟨hA,ρ,q,by rw[<-e];exact p⟩
theorem Hs{p:Aj}{ds:Ac D}(s:Az H0 H)(hA:AOk H A)(hp:H p=Af)(r:Reps K CL H A xs ds):Dq K CL Ab H0 A (upd H p (.lst xs)) (.ref p) (.lst ds):=
 ⟨Ly hA hp r,fun _ ds' e=>by
  cases e;exact⟨p,xs,rfl,s.free hp,F0,(Reps.wide (fun a ha=>ha.imp id fun e=>by rw[e];exact hp) _ r).same (Ek hp _)⟩⟩
theorem Of{fr:An}(r:Rep K CL H A v d)(h:∀ ds,d≠.lst ds):Dq K CL fr H0 A H v d:=⟨r,fun _ ds e=>absurd e (h ds)⟩
theorem Xg(hs:SA X CL W es fs)(hz:∀ ρ ds,fs ρ=.ok ds->ds.length<=100000):SC X CL W Ab (.List es pos) (fun ρ=>(fs ρ).bind fun xs=>.ok (.lst xs)):=
 fun A=>PE.weak (Y6 (hs A)) fun σ H Q ⟨hA,ρ,g,p⟩=>⟨hA,ρ,g,F5.bind p fun ds vs H1 e s1 r1 p1=>⟨by
  rw[r1.length,DU];have:=hz ρ ds e;omega,fun q hq=>p1 _ _ (Ek hq _) (Hs s1 (hA.same s1) hq r1)⟩⟩
theorem A4.bindF{fr:An}{f:D->R D}{Q':VK}(h:A4 (Dq K CL fr H A) W H (r.bind f) Q)(k:∀ d v H',r=.ok d->Az H H'->Rp H' v d->A4 (Dq K CL fr H A) W H' (f d) Q->Q' v H'):A4 Rp W H r Q':=by
 cases r with
 |ok d=>exact fun v H2 s2 q=>k d v H2 rfl s2 q (A4.same s2 h)
 |exn x=>exact h
 |bad=>exact h
theorem F5.bindF{Rp:Hp->Ac V->Ac D->Prop}{r:R (Ac D)}{f:Ac D->R D}{Q':Ac V->Hp->Prop}(h:A4 Rq W H (r.bind f) Q)(k:∀ d v H',r=.ok d->Az H H'->Rp H' v d->A4 Rq W H' (f d) Q->Q' v H'):F5 Rp W H r Q':=by
 cases r with
 |ok d=>exact fun v H2 s2 q=>k d v H2 rfl s2 q (A4.same s2 h)
 |exn x=>exact h
 |bad=>exact h
theorem Hx.bindF{r:R (Ap Ae)}{f:Ap Ae->R D}(h:A4 Rq W H (r.bind f) Q)(k:∀ o H',r=.ok o->Az H H'->A4 Rq W H' (f o) Q->Q' o H'):Hx W H r Q':=by
 cases r with
 |ok d=>exact fun H2 s2=>k d H2 rfl s2 (A4.same s2 h)
 |exn x=>exact h
 |bad=>exact h
theorem Z8{lo hi:Ap Am}{fl fh:Rho->R (Ap Ae)}(ha:ST X CL W a fa)(hl:SO X CL W lo fl)(hh:SO X CL W hi fh):SC X CL W Ab (.Subscript a (.Slice lo hi Af p2) pos) (fun ρ=>(fa ρ).bind fun x=>(fl ρ).bind fun l=>(fh ρ).bind fun h=>slD x l h):=
 fun A=>PE.weak (UN (r:=fun x l h H Q=>QL X.K x l h H Q\/QK X.K x l h H Q) (fun pI s σ H x v vl vu lo hi sl Q I rx hs pl pu h=>h.elim (Wl pI s σ H x v vl vu lo hi sl Q I rx hs pl pu) (Xk pI s σ H x v vl vu lo hi sl Q I rx hs pl pu)) (ha A) (hl A) (hh A)) fun σ H Q ⟨hA,ρ,g,p⟩=>⟨hA,ρ,g,A4.bindF p fun dx x H1 _ s1 r1 p1=>⟨hA.same s1,ρ,g.same s1,Hx.bindF p1 fun l H2 _ s2 p2=>⟨(hA.same s1).same s2,ρ,(g.same s1).same s2,Hx.bindF p2 fun h H3 _ s3 p3=>by
  cases dx with
  |lst ds=>
   obtain⟨q,xs,rfl,sq,r⟩:=((r1.same s2).same s3).lst_of;exact .inl ⟨q,xs,rfl,sq,fun t ht=>p3 _ _ (Ek ht _) (Hs ((s1.trans s2).trans s3) (((hA.same s1).same s2).same s3) ht (OH l h r))⟩
  |tup ds=>
   obtain⟨q,xs,rfl,_,sq,r⟩:=((r1.same s2).same s3).tup_of;rw[fA]at p3;split at p3
   ·exact p3.elim
   ·rename_i hw;refine .inr ⟨q,xs,rfl,sq,?_,fun t ht=>p3 _ _ (Ek ht _) (Of (Ic (((hA.same s1).same s2).same s3) ht (OH l h r)) (by intro _ z;cases z))⟩
    rintro⟨h1,h2⟩;refine hw ?_;have e:∀ d o,HT.sIx xs.length d o=Gq ds.length d o:=fun d o=>by rw[r.length];cases o<;>rfl
    rw[e]at h1 h2;rw[r.length]at h2;simp[h1,h2]
  | _=>exact p3.elim⟩⟩⟩
noncomputable def OpN(X:Cx)(CL:ClA)(W:XW)(f:Ai->Ai->Ft Ai)(g:D->D->R D):Prop:=
 ∀ A H0,OpR X f (fun x y H Q=>Az H0 H/\AOk H A/\∃ dx dy,Cm X.K CL H A x dx/\Cm X.K CL H A y dy/\A4 (Dq X.K CL Ab H0 A) W H (g dx dy) Q)
theorem Vx:OpN X CL W (BF .Add) (Cr .Add):=by
 intro A H0 pI s σ H x y v u Q I rx ry ⟨s0,hA,dx,dy,hx,hy,p⟩;have key:(∀ ds,dx≠.lst ds)->EP X pI σ Q=EP X pI σ Q->AD (model X.prog X.w) X.A (BF .Add v u) (EP X pI σ Q) X.xe s:=fun hd _=>by
  refine OQ (W:=W) A pI s σ H x y v u Q I rx ry ⟨hA,dx,dy,hx,hy,?_⟩;cases e:Cr .Add dx dy with
  |bad=>rw[e]at p;exact p
  |exn x=>rw[e]at p;exact p
  |ok d=>
   rw[e]at p;refine fun v' H' s' r'=>p v' H' s' (Of r' fun ds z=>?_)
   subst z;cases dx with
   |lst ds=>exact hd _ rfl
   |_=>cases dy<;>first|(cases e;done)|(simp only[Cr]at e;split at e<;>cases e)
 cases dx with
 |lst ds=>
  cases dy with
  |lst es=>
   obtain⟨a,xs,rfl,s1,r1⟩:=hx.lst_of;obtain⟨b,ys,rfl,s2,r2⟩:=hy.lst_of;simp only[Mj]at p;split at p
   ·rename_i h;refine OR pI s σ H _ _ v u Q I rx ry ⟨a,b,xs,ys,rfl,rfl,s1,s2,by rw[r1.length,r2.length];exact GI h,fun q hq=>?_⟩
    exact p _ _ (Ek hq _) (Hs s0 hA hq (r1.append r2))
   ·exact p.elim
  |_=>exact p.elim
 |_=>exact key (by intro _ z;cases z) rfl
theorem Xj(ha:ST X CL W a fa)(hb:ST X CL W b fb):SC X CL W Ab (.BinOp a .Add b pos) (fun ρ=>(fa ρ).bind fun x=>(fb ρ).bind fun y=>Cr .Add x y):=
 fun A pI s σ H Q I h=>by
  obtain⟨hA,ρ,g,p⟩:=h;exact Qa (Vx (W:=W) A H) (ha A) (hb A) pI s σ H Q I ⟨hA,ρ,g,A4.bindF p fun dx x H1 _ s1 r1 p1=>⟨hA.same s1,ρ,g.same s1,A4.bind (Rq:=Dq X.K CL Ab H A) p1 fun dy y H2 _ s2 r2 p2=>⟨s1.trans s2,(hA.same s1).same s2,dx,dy,r1.same s2,r2,p2⟩⟩⟩
def Qj(X:Cx)(CL:ClA)(W:XW)(f:Ai)(g:Ac D->R D):Prop:=∀ A H0,Go X f (fun xs H Q=>Az H0 H/\AOk H A/\∃ ds,EA X.K CL H A xs ds/\A4 (Dq X.K CL Ab H0 A) W H (g ds) Q)
theorem WD:Qj X CL W (.type "list") (biD .list):=by
  intro A H0 pI s σ H xs us Q I r ⟨s0,hA,ds,rs,p⟩
  match ds,rs,p with
  |[.lst es],rs,p=>
    obtain⟨v,rfl,rv⟩:=rs.one;obtain⟨q,ys,rfl,sq,ry⟩:=rv.lst_of;exact MV pI s σ H _ us Q I r ⟨q,ys,rfl,.inl sq,fun l hl=>p _ _ (Ek hl _) (Hs s0 hA hl ry)⟩
  |[.tup es],rs,p=>
    obtain⟨v,rfl,rv⟩:=rs.one;obtain⟨q,ys,rfl,_,sq,ry⟩:=rv.tup_of;exact MV pI s σ H _ us Q I r ⟨q,ys,rfl,.inr sq,fun l hl=>p _ _ (Ek hl _) (Hs s0 hA hl ry)⟩
  |[],_,p=>exact p.elim
  |[.non],_,p=>exact p.elim
  |[.bl _],_,p=>exact p.elim
  |[.int _],_,p=>exact p.elim
  |[.str _],_,p=>exact p.elim
  |[.obj _ _],_,p=>exact p.elim
  |[.exc _ _],_,p=>exact p.elim
  |[.dic _],_,p=>exact p.elim
  |x::_::_,_,p=>cases x<;>exact p.elim
theorem Xi{x:Ah}{g:Ac D->R D}(hc:Qj X CL W (.type T) g)(hg:Gl X x)(hm:X.mg x=Af)(hv:Cq x=Aa (.type T))(ha:SAT X CL W (e::es) fs)(hn:x≠"__name__")(hdb:(x==("__debug__" : Ah))=Ad)(he:Ax (e::es) X.env=(Ad,eval e X.env)::Ax es X.env)(hpl:∀ pos,(Cp pos (Ax es X.env)).any (·.1)=Ad):SC X CL W Ab (.Call (.Name x p) (e::es) [] pos) (fun ρ=>(fs ρ).bind g):=fun A pI s σ H Q I ⟨hA,ρ,gd,q⟩=>
 Nq (hc A H) hg hm hv (ha A) hn hdb he (hpl _) pI s σ H Q I ⟨hA,ρ,gd,F5.bindF q fun ds vs H1 _ s1 r1 p1=>⟨s1,hA.same s1,ds,r1,p1⟩⟩
mutual
theorem Qe{K:Fg}{H:Hp}{A:Aj->Prop}(hA:AOk H A):∀(n:Ag)(d:D){v:V},nlD n d=Ab->Rep K CL H A0 v d->Rep K CL H A v d
 |_,.non,_,_,h=>h
 |_,.bl _,_,_,h=>h
 |_,.int _,_,_,h=>h
 |_,.str _,_,_,h=>h
 |0,.tup _,_,hn,_=>by cases hn
 |n+1,.tup ds,_,hn,h=>by
  obtain⟨a,xs,e,_,s,r⟩:=h;refine⟨a,xs,e,?_,s,nls_up hA n ds hn r⟩;rcases s with s|s
  ·refine .inl fun z=>?_
   obtain⟨ys,q⟩:=hA a z;rcases s with s|⟨o,s⟩<;>rw[q]at s<;>cases s
  ·exact .inr s
 |n,.lst _,_,hn,_=>by cases n<;>cases hn
 |n,.obj _ _,_,hn,_=>by cases n<;>cases hn
 |n,.exc _ _,_,hn,_=>by cases n<;>cases hn
 |n,.dic _,_,hn,_=>by cases n<;>cases hn
theorem nls_up{K:Fg}{H:Hp}{A:Aj->Prop}(hA:AOk H A):∀(n:Ag)(ds:Ac D){vs:Ac V},ds.all (nlD n)=Ab->Reps K CL H A0 vs ds->Reps K CL H A vs ds
 |_,[],[],_,h=>h
 |n,d::ds,_::_,hn,h=>by
  simp only[Fs,Ak]at hn;exact⟨Qe hA n d hn.1 h.1,nls_up hA n ds hn.2 h.2⟩
 |_,[],_::_,_,h=>h.elim
 |_,_::_,[],_,h=>h.elim
end
theorem ZD{fr:An}(hA0:AOk H0 A)(s:Az H0 H)(hc:ID fr d=Ab)(r:Dq K CL fr H0 A0 H v d):Dq K CL fr H0 A H v d:=by
 have hA:=hA0.same s;cases d with
 |lst ds=>
  have hc':(fr&&ds.all (nlD 5))=Ab:=hc;rw[Ak]at hc';obtain⟨a,xs,e,h0,h1,rs⟩:=r.2 hc'.1 ds rfl;have hA2:AOk H (fun b=>A b\/b=a):=fun b hb=>hb.elim (hA b) fun e=>by rw[e];exact⟨xs,h1⟩
  have rs':=nls_up hA2 5 ds hc'.2 (Reps.sub (fun _ z=>z.elim) _ rs)
  refine⟨⟨a,xs,e,.inl (hA0.new h0),SqL.of h1,Reps.sub (fun _ z=>.inl z) _ rs'⟩,fun _ ds' e'=>?_⟩
  cases e';exact⟨a,xs,e,h0,h1,rs'⟩
 |_=>exact⟨Qe hA 5 _ hc r.1,fun _ _ z=>nomatch z⟩
def spD(K:Fg)(CL:ClA)(n:Ag)(fr:An)(F:Ac D->R D):Sp:=fun vs H Q E=>∃(ds:Ac D)(A:Aj->Prop),vs.length=n/\AOk H A/\Reps K CL H A vs ds/\(match F ds with
  |.ok d=>∀ v H',Az H H'->Dq K CL fr H A H' v d->Q v H'
  |.exn x=>∀ cls dx H',Az H H'->JA K CL H' A cls dx x->E cls dx H'
  | .bad=>A5)
def EKW(K:Fg)(CL:ClA)(A:Aj->Prop)(W:XW):XK:=fun cls dx H'=>∃ x,JA K CL H' A cls dx x/\W x H'
theorem EA.plain{K:Fg}{H:Hp}{A:Aj->Prop}:∀{vs:Ac V}{ds:Ac D},EA K CL H A vs ds->Reps K CL H A0 vs ds
 |[],[],h=>trivial
 |_::_,_::_,h=>⟨h.1.plain,EA.plain h.2⟩
 |[],_::_,h=>h.elim
 |_::_,[],h=>h.elim
theorem Wp{CX:CXT}{fr:An}{f:Aj}{fd:BW}{ps:Ac Ah}{F:Ac D->R D}{x:Ah}{ft:Rho->R (Ac D)}{sh:Rho->An}(G:FnOk X.prog X.w X.K X.mg X.base CX k f fd ps (spD X.K CL n fr F))(hr:Room k X.A)(hg:Gl X x)(hm:X.mg x=Aa (.ref f))(hk:CJ X.K (.ref f)=Ab)(hb:Gp X.K fd ps [])(hx:∀ A,Ig CX X (EKW X.K CL A W))(ha:SA X CL W (e::es) fs)(hat:SAT X CL W (e::es) ft)(hst:∀ ρ,sh ρ=Ab->ft ρ=fs ρ)(hn:∀ ρ ds,ft ρ=.ok ds->ds.length=n)(hdb:(x==("__debug__" : Ah))=Ad)(he:Ax (e::es) X.env=(Ad,eval e X.env)::Ax es X.env)(hpl:∀ pos,(Cp pos (Ax es X.env)).any (·.1)=Ad):SC X CL W fr (.Call (.Name x p) (e::es) [] pos) (fun ρ=>(ft ρ).bind fun ds=>(F ds).bind fun d=>if sh ρ=Ab then .ok d else if ID fr d=Ab then .ok d else .bad):=fun A pI s σ H Q I ⟨hA,ρ,gd,q⟩=>by
 dsimp only at q;by_cases hs:sh ρ=Ab
 ·rw[hst ρ hs]at q;refine ON G hr hg hm hk hb .nil (hx A) (ha A) hdb he (hpl _) pI s σ H Q I ⟨hA,ρ,gd,?_⟩;cases e1:fs ρ with
  |bad=>rw[e1]at q;exact q
  |exn y=>rw[e1]at q;exact q
  |ok ds=>
   rw[e1]at q;intro vs H1 s1 r1;refine⟨ds,A,by rw[B8,r1.length];exact hn ρ ds (by rw[hst ρ hs];exact e1),hA.same s1,by rw[B8];exact r1,?_⟩
   have q':A4 (Dq X.K CL fr H A) W H ((F ds).bind fun d=>if sh ρ=Ab then .ok d else if ID fr d=Ab then .ok d else .bad) Q:=q
   cases e2:F ds with
   |ok d=>
    rw[e2,R.bind_ok,AC hs]at q';exact fun v H2 s2 r2=>q' v H2 (s1.trans s2) ⟨r2.1,fun z ds' e'=>let ⟨a,xs,z1,z2,z3⟩:=r2.2 z ds' e';⟨a,xs,z1,s1.free z2,z3⟩⟩
   |exn y=>rw[e2]at q';exact fun cls dx H2 s2 xr=>⟨y,xr,q' H2 (s1.trans s2)⟩
   |bad=>rw[e2]at q';exact q'.elim
 ·refine ON G hr hg hm hk hb .nil (hx A0) (hat A) hdb he (hpl _) pI s σ H Q I ⟨hA,ρ,gd,?_⟩;cases e1:ft ρ with
  |bad=>rw[e1]at q;exact q
  |exn y=>rw[e1]at q;exact q
  |ok ds=>
   rw[e1]at q;intro vs H1 s1 r1;refine⟨ds,A0,by rw[B8,r1.plain.length];exact hn ρ ds e1,fun _ z=>z.elim,by rw[B8];exact r1.plain,?_⟩
   have q':A4 (Dq X.K CL fr H A) W H ((F ds).bind fun d=>if sh ρ=Ab then .ok d else if ID fr d=Ab then .ok d else .bad) Q:=q
   cases e2:F ds with
   |ok d=>
    rw[e2,R.bind_ok,AJ hs]at q';split at q'
    ·rename_i hc;exact fun v H2 s2 r2=>q' v H2 (s1.trans s2) (ZD hA (s1.trans s2) hc ⟨r2.1,fun z ds' e'=>let ⟨a,xs,z1,z2,z3⟩:=r2.2 z ds' e';⟨a,xs,z1,s1.free z2,z3⟩⟩)
    ·exact q'.elim
   |exn y=>rw[e2]at q';exact fun cls dx H2 s2 xr=>⟨y,xr,q' H2 (s1.trans s2)⟩
   |bad=>rw[e2]at q';exact q'.elim
end
theorem KY(env:BJ):∀(ns:Ac (Ah×Dj))(acc:Ac (Ah×Aj)),(∀ x∈ns,x.2=.free->∃ c,env.cells.lookup x.1=Aa c)->(∀ x c,acc.lookup x=Aa c->env.cells.lookup x=Aa c) ->
  ∃ cl,(forIn ns acc fun(x:Ah×Dj)(cs:Ac (Ah×Aj))=>(if (x.2==.free)=Ab then do let c <-cellOf env x.1;pure (Dx ((x.1,c)::cs)) else pure (Dx cs):Ft (ForInStep (Ac (Ah×Aj)))))=pure cl /\
   (∀ x c,cl.lookup x=Aa c->env.cells.lookup x=Aa c)/\(∀ x,((x,C1)∈ns\/∃ c,acc.lookup x=Aa c)->∃ c,cl.lookup x=Aa c)
 |[],acc,_,h2=>⟨acc,by rw[E2],h2,fun x hx=>hx.elim (fun z=>nomatch z) id⟩
 |(n,k)::r,acc,h1,h2=>by
  rw[Ga];by_cases hk:k=.free
  ·subst hk;obtain⟨c,hc⟩:=h1 (n,.free) AA rfl;obtain⟨cl,e,p,q⟩:=KY env r ((n,c)::acc) (fun x hx=>h1 x (As _ hx)) (fun x d hd=>by
    rw[BM]at hd;split at hd
    ·rename_i hx;cases hd;rw[eq_of_beq hx];exact hc
    ·exact h2 x d hd)
   refine⟨cl,?_,p,fun x hx=>q x ?_⟩
   ·have e1:cellOf env n=pure c:=by unfold cellOf;dsimp only at hc;rw[hc]
    rw[AC (by rfl),e1]
    exact e
   ·rcases hx with hx|⟨d,hd⟩
    ·rcases At.mp hx with z|z
     ·cases z;exact .inr ⟨c,by simp[BM]⟩
     ·exact .inl z
    ·by_cases hxn:x=n
     ·exact .inr ⟨c,by subst hxn;simp[BM]⟩
     ·exact .inr ⟨d,by rw[BM];rw[CI.mpr hxn];exact hd⟩
  ·obtain⟨cl,e,p,q⟩:=KY env r acc (fun x hx=>h1 x (As _ hx)) h2
   refine⟨cl,?_,p,fun x hx=>q x ?_⟩
   ·rw[AJ (by simpa using hk)]
    exact e
   ·rcases hx with hx|hx
    ·rcases At.mp hx with z|z
     ·cases z;exact absurd rfl hk
     ·exact .inl z
    ·exact .inr hx
theorem M1(h:∀ x∈scope.names,x.2=.free->∃ c,env.cells.lookup x.1=Aa c):∃ cl,closureFor scope env=pure cl/\(∀ x c,cl.lookup x=Aa c->env.cells.lookup x=Aa c)/\∀ x,(x,C1)∈scope.names->∃ c,cl.lookup x=Aa c:=by
 obtain⟨cl,e,p,q⟩:=KY env scope.names [] h (fun x c z=>by simp at z)
 refine⟨cl,?_,p,fun x hx=>q x (.inl hx)⟩
 unfold closureFor
 first
  |exact e
  |(simp only[bind_pure];exact e)
  |(rw[show (forIn scope.names ([]:Ac (Ah×Aj)) _:Ft _)=pure cl from e];rfl)
theorem Lg:∀(names:Ac (Ah×Dj))(h:AG)(acc:Ac (Ah×Aj))(x:Ah)(c:Aj),(Cv h.objs.size names acc).lookup x=Aa c->acc.lookup x=Aa c\/((x,Bs)∈names/\h.objs.size<=c/\(Fm h names).IsCell c Af)
 |[],_,_,_,_,e=>.inl e
 |(n,k)::r,h,acc,x,c,e=>by
  unfold Cv at e;unfold Fm;by_cases hk:(k==Bs)=Ab
  ·rw[AC hk]at e ⊢;have hs:h.objs.size+1=(h.push { cls:=.type "cell", data:=.cell Af }).objs.size:=(By ..).symm;rw[hs]at e;rcases Lg r _ _ x c e with q|⟨q1,q2,q3⟩
   ·rw[BM]at q;cases hx:x==n with
    |true=>
     rw[hx]at q;cases q;refine .inr ⟨?_,AK _,?_⟩
     ·rw[eq_of_beq hx,eq_of_beq hk];exact AA
     ·exact⟨_,Gd r _ _ _ (AB _ rfl),rfl⟩
    |false=>rw[hx]at q;exact .inl q
   ·exact .inr ⟨As _ q1,by omega,q3⟩
  ·rw[AJ hk]at e ⊢;rcases Lg r h acc x c e with q|⟨q1,q2,q3⟩
   ·exact .inl q
   ·exact .inr ⟨As _ q1,q2,q3⟩
theorem Lh:∀(names:Ac (Ah×Dj))(h:AG)(acc:Ac (Ah×Aj)),(∀ x y c,acc.lookup x=Aa c->acc.lookup y=Aa c->x=y)->(∀ x c,acc.lookup x=Aa c->c<h.objs.size)->∀ x y c,(Cv h.objs.size names acc).lookup x=Aa c->(Cv h.objs.size names acc).lookup y=Aa c->x=y
 |[],_,_,i,_,x,y,c,e1,e2=>i x y c e1 e2
 |(n,k)::r,h,acc,i,b,x,y,c,e1,e2=>by
  unfold Cv at e1 e2;by_cases hk:(k==Bs)=Ab
  ·rw[AC hk]at e1 e2;have hs:h.objs.size+1=(h.push { cls:=.type "cell", data:=.cell Af }).objs.size:=(By ..).symm;rw[hs]at e1 e2;have look:∀ z d,RA z ((n,h.objs.size)::acc)=Aa d->(z=n/\d=h.objs.size)\/(z≠n/\acc.lookup z=Aa d):=fun z d q=>by
    rw[BM]at q;cases hx:z==n with
    |true=>rw[hx]at q;cases q;exact .inl ⟨eq_of_beq hx,rfl⟩
    |false=>rw[hx]at q;exact .inr ⟨fun e=>by rw[e]at hx;simp at hx,q⟩
   refine Lh r _ _ (fun z z' d q q'=>?_) (fun z d q=>?_) x y c e1 e2
   ·rcases look z d q with ⟨rfl,q1⟩|⟨_,q1⟩<;>rcases look z' d q' with ⟨rfl,q2⟩|⟨_,q2⟩
    ·rfl
    ·exact absurd (b _ _ q2) (by rw[q1];exact Bc _)
    ·exact absurd (b _ _ q1) (by rw[q2];exact Bc _)
    ·exact i _ _ _ q1 q2
   ·rw[<-hs];rcases look z d q with ⟨_,q1⟩|⟨_,q1⟩
    ·rw[q1];exact Ev _
    ·exact CD (b _ _ q1)
  ·rw[AJ hk]at e1 e2;exact Lh r h acc i b x y c e1 e2
theorem K0:∀(names:Ac (Ah×Dj))(n:Ag)(acc:Ac (Ah×Aj))(x:Ah),(x,Bs)∉names->(Cv n names acc).lookup x=acc.lookup x
 |[],_,_,_,_=>rfl
 |(m,k)::r,n,acc,x,hx=>by
  unfold Cv;have hr:(x,Bs)∉r:=fun z=>hx (As _ z)
  by_cases hk:(k==Bs)=Ab
  ·rw[AC hk,K0 r _ _ x hr,BM];cases q:x==m with
   |true=>exact absurd (by rw[eq_of_beq q,eq_of_beq hk];exact AA) hx
   |false=>rfl
  ·rw[AJ hk];exact K0 r n acc x hr
theorem Li(n0:Ag):∀(names:Ac (Ah×Dj))(n:Ag)(acc:Ac (Ah×Aj))(x:Ah),n0<=n->((x,Bs)∈names\/∃ c,acc.lookup x=Aa c/\n0<=c)->∃ c,(Cv n names acc).lookup x=Aa c/\n0<=c
 |[],_,_,_,_,h=>h.elim (fun z=>nomatch z) id
 |(m,k)::r,n,acc,x,hn,h=>by
  unfold Cv;by_cases hk:(k==Bs)=Ab
  ·rw[AC hk];refine Li n0 r _ _ x (by omega) ?_
   by_cases hx:(x==m)=Ab
   ·exact .inr ⟨n,by rw[BM,hx],hn⟩
   ·rcases h with h|⟨c,h,hc⟩
    ·rcases At.mp h with z|z
     ·cases z;simp at hx
     ·exact .inl z
    ·exact .inr ⟨c,by rw[BM];simp only[hx];exact h,hc⟩
  ·rw[AJ hk];refine Li n0 r _ _ x hn (h.imp (fun h=>?_) id)
   rcases At.mp h with z|z
   ·cases z;simp at hk
   ·exact z
theorem Tg{M:HG}{A:A2}{E:Vq}{globals:Aj}{qual:Ah}{Q:BJ->Ao->Prop}(hQ:Q (newEnv scope s.heap.objs.size globals (Cv (s.heap.objs.size+1) scope.names cl) qual Af .none (Aa env) GD) { s with heap:=Fm (s.heap.push { cls:=.type "dict", data:=.dict #[] }) scope.names }):AD M A (Gy scope globals cl [] qual Af .none (Aa env)) Q E s:=by
 simp only[Gy,Option.isSome_some,FS];refine Al (wpAny_alloc ?_);refine Al (wpAny_layCells _ (fun name kind cells=>by cases hkc:kind==Bs<;>simp[hkc]) _ _ _ _ ?_)
 rw[show ({ s with heap:=s.heap.push { cls:=.type "dict", data:=.dict #[] } }:Ao).heap.objs.size=s.heap.objs.size+1 from By ..]
 rw[E2];exact Al (AE (AE hQ))
noncomputable def cxC(X:Cx)(scope:BS)(cl:Ac (Ah×Aj))(C:Aj)(N':Ac Ah)(s₀:Ao)(H₀:Hp)(fp:Ac Aj):Cx where
 prog:=X.prog
 w:=X.w
 K:=X.K
 mg:=X.mg
 base:=X.base
 A:=X.A
 N:=N'
 s₀:=s₀
 H₀:=H₀
 env:=compEnvC scope cl C X.env
 outer:=X.stack
 stack:=X.stack
 ex:=fp
 fn:=fun x=>scope.names.lookup x==Aa Bs
 calm:=X.calm
 pn:=[]
 xe:=fun _ _=>A5
theorem JF{env:BJ}:∀{names:Ac (Ah×Dj)}{x:Ah}{k:Dj},(names.map fun (n,k)=>if (k==C1&&env.scope.kind==.function&&env.kindOf n==Aa .cell) then (n,Bs) else (n,k)).lookup x=Aa k->names.lookup x=Aa k\/(k=.cell/\names.lookup x=Aa .free)
 |[],_,_,h=>by simp at h
 |(n,j)::r,x,k,h=>by
  have ih:=@JF env r x k;have h':RA x ((if (j==C1&&env.scope.kind==.function&&env.kindOf n==Aa .cell)=Ab then (n,Bs) else (n,j))::(r.map fun (n,k)=>if (k==C1&&env.scope.kind==.function&&env.kindOf n==Aa .cell) then (n,Bs) else (n,k)))=Aa k:=h
  by_cases hc:(j==C1&&env.scope.kind==.function&&env.kindOf n==Aa .cell)=Ab
  ·rw[AC hc]at h';rw[BM]at h' ⊢;cases hx:x==n with
   |true=>
    rw[hx]at h';cases h';simp only[Ak]at hc;exact .inr ⟨rfl,by rw[eq_of_beq hc.1.1]⟩
   |false=>rw[hx]at h';exact ih h'
  ·rw[AJ hc]at h';rw[BM]at h' ⊢;cases hx:x==n with
   |true=>rw[hx]at h';exact .inl h'
   |false=>rw[hx]at h';exact ih h'
structure BlockOk (X:Cx) (scope:BS) (N':Ac Ah) (ts:Ac Ag):Prop where
 kind:scope.kind=.function
 uniq:∀ y∈scope.names,scope.names.lookup y.1=Aa y.2
 names:∀ y∈scope.names,y.2=.local->scope.names.lookup y.1=Aa .local
 free:∀ y∈scope.names,y.2=.free->X.env.scope.names.lookup y.1=Aa .cell\/X.env.scope.names.lookup y.1=Aa .free
 len:N'.length=X.N.length
 same:∀ i x,N'[i]?=Aa x->scope.names.lookup x=Aa .free->i∉ts->X.N[i]?=Aa x
 loc:∀ i x,N'[i]?=Aa x->(scope.names.lookup x=Aa .local\/scope.names.lookup x=Aa .cell)->i∈ts
structure BCells (X:Cx) (scope:BS) (cl:Ac (Ah×Aj)) (C:Aj) (h:AG):Prop where
 own:∀ x c,cl.lookup x=Aa c->X.env.cells.lookup x=Aa c\/(scope.names.lookup x=Aa .cell/\C<c/\h.IsCell c Af)
 inj:∀ x y c,cl.lookup x=Aa c->cl.lookup y=Aa c->x=y
 has:∀ x,scope.names.lookup x=Aa .cell->∃ c,cl.lookup x=Aa c/\C<c
 fr:∀ x,(x,C1)∈scope.names->∃ c,cl.lookup x=Aa c/\X.env.cells.lookup x=Aa c
section
variable{X:Cx}{pI:Pn}{σ:L2.St}{H:Hp}{s:Ao}
noncomputable def hideT(ts:Ac Ag)(σ:L2.St):L2.St:=ts.foldl (fun σ t=>σ.set t Af) σ
theorem Ld:∀(ts:Ac Ag)(σ:L2.St),(hideT ts σ).length=σ.length
 |[],_=>rfl
 |t::ts,σ=>by show (hideT ts (σ.set t Af)).length=_;rw[Ld ts,A3]
theorem Nz:∀(ts:Ac Ag)(σ:L2.St){i:Ag}{v:V},(hideT ts σ)[i]?=Aa (Aa v)->σ[i]?=Aa (Aa v)/\i∉ts
 |[],_,_,_,h=>⟨h,by simp⟩
 |t::ts,σ,i,v,h=>by
  obtain⟨h1,h2⟩:=Nz ts (σ.set t Af) (i:=i) (v:=v) h;by_cases e:t=i
  ·subst e;have:=F2 h1;cases this
  ·rw[Cd e]at h1;exact⟨h1,by simp only[At,CV];exact⟨fun z=>e z.symm,h2⟩⟩
theorem Tp{tk:Ag}{C:Aj}{m:Ah->Ap Ai}(I:Inv X pI σ H s)(B:BlockOk X scope N' ts)(hf:∀ b∈fp,Fb X pI H b)(hfo:∀ b∈fp,b<s.heap.objs.size)(hb:BCells X scope cl C h')(hk:∀ b o,s.heap.get? b=Aa o->h'.get? b=Aa o)(hC:s.heap.objs.size<=C)(hn:h'.Ns C m):Inv (cxC X scope cl C N' s H fp) [] (hideT ts σ) H {s with heap:=h',toks:=tk}:=by
 have stf:∀ b∈fp,b∉frs X.stack:=fun b hb z=>by
  rcases At.mp (I.stkSub b z) with e|e
  ·exact(hf b hb).2.1 e
  ·exact(hf b hb).2.2.1 e
 have frOf:∀ x,((relabel scope X.env).names.lookup x=Aa .cell\/(relabel scope X.env).names.lookup x=Aa .free)->scope.names.lookup x=Aa .free\/scope.names.lookup x=Aa .cell:=fun x hx=>by
  rcases hx with z|z
  ·rcases JF z with z|⟨_,z⟩
   ·exact .inr z
   ·exact .inl z
  ·rcases JF z with z|⟨z,_⟩
   ·exact .inl z
   ·cases z
 have gtC:∀ c:Aj,C<c->s.heap.objs.size<=c:=fun c z=>Cb hC (EN z)
 have cellK:∀ c v,s.heap.IsCell c v->h'.IsCell c v:=fun c v ⟨o,ho,hd⟩=>⟨o,hk _ _ ho,hd⟩
 refine⟨⟨I.ok.mod,B.kind,I.ok.glob,I.ok.blt,hC,hb.inj,fun x hx=>?_,fun x c h e=>?_,I.ok.hd,I.ok.frames,.inl rfl,fun b hbb=>⟨?_,fun x c e=>?_⟩,I.bs,Cb I.ok.bsz I.sz,fun b o e hbb=>?_,stf,I.stack,I.stkFree⟩,rfl,I.bare,Un.kept hk,⟨m,hn,fun i x v h1 h2 h3=>?_⟩,fun x c e=>?_,I.hok.fresh hC,fun x c e=>(hb.own x c e).elim (I.freeC x c) (fun z=>I.hok.fresh (gtC c z.2.1)),fun p hp=>absurd (show p∈([]:Pn) from hp) (by simp),I.hok.kept hk,?_⟩
 ·rcases frOf x hx with z|z
  ·obtain⟨c,q,_⟩:=hb.fr x (B2 z);exact⟨c,q⟩
  ·obtain⟨c,q,_⟩:=hb.has x z;exact⟨c,q⟩
 ·obtain⟨c',q,z⟩:=hb.has x (eq_of_beq h);have e':cl.lookup x=Aa c:=e;rw[q]at e';cases e';exact gtC _ z
 ·intro z;have z':b=C:=z;have:=hfo b hbb;rw[z']at this;exact absurd (AF this hC) (Bc _)
 ·rcases hb.own x c e with z|z
  ·exact(hf b hbb).2.2.2.2.1 x c z
  ·intro q;have:=hfo b hbb;have:=gtC c z.2.1;rw[q]at this;exact absurd ‹b<_› (RN.mpr this)
 ·rcases (hf b hbb).2.2.2.1 with z|z
  ·exact I.ok.noex b o e z
  ·exact absurd (AF (Ay e) (Cb I.ok.bsz z)) (Bc _)
 ·obtain⟨h2,hts⟩:=Nz ts σ h2;have h3':(relabel scope X.env).names.lookup x=Aa .local\/(relabel scope X.env).names.lookup x=Aa .cell\/(relabel scope X.env).names.lookup x=Aa .free:=h3;have h1':N'[i]?=Aa x:=h1;rcases h3' with z|z
  ·rcases JF z with z|⟨z,_⟩
   ·exact absurd (B.loc i x h1' (.inl z)) hts
   ·cases z
  ·have fr:=(frOf x z).resolve_right fun q=>hts (B.loc i x h1' (.inr q))
   have hm:=B2 fr;have hX:=B.same i x h1' fr hts;obtain⟨m0,hn0,hl0⟩:=I.loc;obtain⟨u,ru,lk⟩:=hl0 i x v hX h2 (by
    rcases B.free _ hm rfl with q|q
    ·exact .inr (.inl q)
    ·exact .inr (.inr q))
   refine⟨u,ru,?_⟩;obtain⟨c,hc,hcX⟩:=hb.fr x hm;rcases lk with ⟨q,_⟩|⟨_,c',hc',hcell⟩
   ·have q':X.env.scope.names.lookup x=Aa .local:=q;rcases B.free _ hm rfl with p|p
    ·rw[show X.env.scope.names.lookup x=_ from p]at q';cases q'
    ·rw[show X.env.scope.names.lookup x=_ from p]at q';cases q'
   ·have e:=hcX;rw[hc']at e;cases e;exact .inr ⟨z,c,hc,cellK _ _ hcell⟩
 ·rcases hb.own x c e with z|z
  ·obtain⟨v,q⟩:=I.cell x c z;exact⟨v,cellK _ _ q⟩
  ·exact⟨_,z.2.2⟩
 ·show (hideT ts σ).length=N'.length;rw[Ld,I.len,B.len]
theorem NG{C D:Aj}{s':Ao}{σ':L2.St}{pins':Pn}{h'':AG}{ys:Ac Ai}(I:Inv X pI σ H s)(hf:∀ b∈fp,Fb X pI H b)(I':Inv (cxC X scope cl C N' s H fp) pins' σ' H' s')(hD:s.heap.objs.size<=D)(hDC:D≠C)(hC:s.heap.objs.size<=C)(hd:s'.heap.get? D=Aa { cls:=.type "list", data:=.seq ys.toArray n })(hDn:H' D=Af)(rv:AW xs ys)(hz:xs.length<=sizeLine)(hs:Eb C s'.heap h''):Inv X pI σ (upd H' D (.lst xs)) {s' with heap:=h''}:=by
  have u:Un (frs X.stack) fp H H' s.heap s'.heap:=I'.base;have lt:∀ b o,s.heap.get? b=Aa o->b≠C/\b≠D:=fun b o e=>⟨fun z=>absurd (AF (Ay e) (z ▸ hC)) (Bc _),fun z=>absurd (AF (Ay e) (z ▸ hD)) (Bc _)⟩
  have HD:H D=Af:=I.hok.fresh hD;have hCn:H' C=Af:=I'.free;have kb:∀ b o,b≠C->s'.heap.get? b=Aa o->h''.get? b=Aa o:=fun b o hb e=>(hs.2 b hb).trans e
  have u2:Un (frs X.stack) fp H (upd H' D (.lst xs)) s.heap h'':=⟨fun b o e q hb hx=>kb b o (lt b o e).1 (u.keep b o e q hb hx),fun b o e q hb hx=>by
      obtain⟨sl,e1⟩:=u.slot b o e q hb hx;exact⟨sl,kb b _ (lt b o e).1 e1⟩,fun b o e q hx=>by rw[B9 (lt b o e).2];exact u.free b o e q hx,fun b o e hx=>by
      obtain⟨o',e1⟩:=u.there b o e hx;exact⟨o',kb b _ (lt b o e).1 e1⟩,fun b zs q=>by rw[B9 (Ez q HD)];exact u.tups b zs q,fun b o zs q=>by rw[B9 (Ez q HD)];exact u.frzs b o zs q,fun b ps q=>by rw[B9 (Ez q HD)];exact u.tbls b ps q⟩
  have hok:HOk X.prog X.w (upd H' D (.lst xs)) h'':=fun b o e=>by
    by_cases hb:b=D
    · subst hb;rw[F0]at e;cases e;exact⟨hz,ys,n,rv,kb _ _ hDC hd⟩
    · rw[B9 hb]at e;refine(I'.hok b o e).stay (fun c v hc q=>kb c v ?_ q) (fun c q=>by rw[B9 (Ez q hDn)];exact q) fun c zs q=>by rw[B9 (Ez q hDn)];exact q
      rcases hc with rfl|hc
      · exact Ez e hCn
      · exact Ez hc hCn
  exact I.call' (s':={s' with heap:=h''}) (ch:=fp) I'.os u2 hok I'.bare fun b hb=>⟨(hf b hb).2.2.2.1,(hf b hb).2.1,(hf b hb).2.2.2.2.1,(hf b hb).2.2.2.2.2⟩
end
def PTs(X:Cx)(ifs:Ac Am)(tt:TT):Prop:=∀(pI:Pn)(s:Ao)(σ:L2.St)(H:Hp)(Q:An->Hp->Prop),Inv X pI σ H s->tt σ H Q ->
 AD (model X.prog X.w) X.A (forIn ifs Ab fun c r=>if r=Ab then do let ok <-Gx c X.env (eval c X.env);pure (Dx ok) else pure (Dx r)) (TP X pI σ Q) X.xe s
theorem VU:PTs X [] (fun σ H Q=>Q Ab H):=fun pI s σ H Q I h=>wpAny_tests_nil ⟨H,I,h⟩
theorem VS{t:TT}(h:PT X c t):PTs X [c] t:=fun pI s σ H Q I q=>wpAny_tests_one (h pI s σ H Q I q)
theorem Tw{D:Aj}{ys:Ac Ai}{y:Ai}{E:Vq}{Q:Vq}(I:Inv X ((D,{ cls:=.type "list", data:=.seq ys.toArray n })::pI) σ H s)(hD:X.s₀.heap.objs.size<=D)(hp:∀ p∈X.pn++pI,p.1≠D)(hc:∀ x c,X.env.cells.lookup x=Aa c->c≠D)(hz:ys.length<=sizeLine)(h:∀ s',Inv X ((D,{ cls:=.type "list", data:=.seq (ys++[y]).toArray (n+1) })::pI) σ H s'->(∀ b o,b≠D->s.heap.get? b=Aa o->s'.heap.get? b=Aa o)->Q .none s'):AD (model X.prog X.w) X.A (call (.builtin "list.append") [.ref D,y]) Q E s:=by
 obtain⟨e,hn,hL,hfs,_⟩:=I.pin (D,{ cls:=.type "list", data:=.seq ys.toArray n }) (A9 _ AA);refine append_at (hsz:=by rw[Au];exact hz) e fun h' hs hd=>?_
 have hd':h'.get? D=Aa { cls:=.type "list", data:=.seq (ys++[y]).toArray (n+1) }:=by rw[hd];simp
 have kb:∀ b o,b≠D->s.heap.get? b=Aa o->h'.get? b=Aa o:=fun b o hb q=>(hs.2 b hb).trans q
 have I0:Inv X pI σ H s:=I.pins_of fun p hp=>I.pin p (A9 _ (As _ hp))
 have I1:Inv X pI σ H {s with heap:=h'}:=I0.turned (t':=s.toks) kb hn hL (.inr hD) hc hp
 refine h _ (I1.pins_of fun p hp=>?_) kb
 rcases At.mp hp with rfl|hp
 ·exact⟨hd',hn,hL,hfs,fun v z=>by
   have z':II _ _=IH v:=z;cases z'⟩
 ·exact I1.pin p (A9 _ hp)
section
variable{prog:AN}{w:AU}{A:A2}{R:HH->Ao->Prop}{s:Ao}
theorem To{target:Am}{it acc:Ai}(I:Ag->Ao->Prop)(turn:∀ n s,I n s->AD (model prog w) A (GA it) (fun r s₁=>match r with
      |none=>R (.ok .next) s₁
      | some v=>AD (model prog w) A (EV target it v) (fun _ s₁'=>AD (model prog w) A (assign target env v) (fun _ s₂=>
          AD (model prog w) A (forIn ifs Ab fun c r=>if r=Ab then do let ok <-Gx c env (eval c env);pure (Dx ok) else pure (Dx r)) (fun ok s₃=>
            if ok=Ab then AD (model prog w) A (eval elt env) (fun x s₄=>
              AD (model prog w) A (call (.builtin "list.append") [acc,x]) (fun _ s₅=>∃ m,m<n/\I m s₅) (Gz (model prog w) A env fun e s'=>R (.error e) s') s₄) (Gz (model prog w) A env fun e s'=>R (.error e) s') s₃
            else ∃ m,m<n/\I m s₃) (Gz (model prog w) A env fun e s'=>R (.error e) s') s₂) (Gz (model prog w) A env fun e s'=>R (.error e) s') s₁') (Gz (model prog w) A env fun e s'=>R (.error e) s') s₁) (Gz (model prog w) A env fun e s'=>R (.error e) s') s)(n:Ag)(h:I n s):E6 (model prog w) A (.compLoop (.ListComp elt [⟨target,iter,ifs,0⟩] scope pos) 0 it acc env) R s:=by
  refine codeAny_loop rfl I (fun n s hI=>?_) n h
  show AD _ A ((compTurn (.ListComp elt [⟨target,iter,ifs,0⟩] scope pos) 0 it acc env).onRaise (fun x=>do noteFrame x env;theTreesLotGoes x)) _ _ s
  refine wpAny_noted ?_;rw[compTurn_list];refine Al (Fw (Al (BX (turn n s hI) (fun r s₁ h₁=>?_) fun _ _ h'=>h')))
  cases r with
  |none=>exact AE h₁
  |some v=>
    refine Al (BX h₁ (fun _ s₁' h₁'=>?_) fun _ _ h'=>h')
    refine Al (BX h₁' (fun _ s₂ h₂=>Al (BX h₂ (fun ok s₃ h₃=>?_) fun _ _ h'=>h')) fun _ _ h'=>h')
    cases ok with
    |false=>exact AE ⟨rfl,h₃⟩
    |true=>
      exact Al (Al (BX h₃ (fun x s₄ h₄=>Al (BX h₄ (fun _ s₅ h₅=>AE (AE ⟨rfl,h₅⟩)) fun _ _ h'=>h')) fun _ _ h'=>h'))
end
def IY(J:It)(ts:Ac Ag)(g:TG)(tt:TT)(te:TE)(σ:L2.St)(H:Hp)(Q:VK):Prop:=∃ W:Ag->Ag->Ac V->L2.St->Hp->Prop,(∃ m,W 0 m [] (hideT ts σ) H)/\∀ i m xs σ H,W i m xs σ H ->
 (J.stop i H/\∀ p,H p=Af->Q (.ref p) (upd H p (.lst xs))) \/
 (J.go i H/\xs.length<sizeLine/\∀ x H',J.yld i H x H'->g x σ H' fun σ2 H2=>tt σ2 H2 fun b H3=>if b=Ab then te σ2 H3 fun y H4=>∃ m',m'<m/\W (i+1) m' (xs++[y]) σ2 H4 else ∃ m',m'<m/\W (i+1) m' xs σ2 H3)
theorem NU{g:TG}{it:Aj}{tn:Ag->AG->Prop}{E:Vq}{RR:Ai->Aj->HH->Ao->Prop}(hc:X.calm=Ab)(B:BlockOk X scope N' ts)(I:Inv X pI σ H s)(T:Turn X.prog X.w X.K tg J fp it tn)(st:tn 0 s.heap)(hf:∀ b∈fp,Fb X pI H b)(hcl:∀ x c,cl.lookup x=Aa c->X.env.cells.lookup x=Aa c)(hcl2:∀ x,(x,C1)∈scope.names->∃ c,cl.lookup x=Aa c)(hg:∀ cl C s H,PG (cxC X scope cl C N' s H fp) tg g)(ht:∀ cl C s H,PTs (cxC X scope cl C N' s H fp) ifs tt)(he:∀ cl C s H,PE (cxC X scope cl C N' s H fp) elt te)(h:IY J ts g tt te σ H Q)(hRR:∀ cl D C s' H' σ' pins' xs ys n m,Inv (cxC X scope cl C N' s H fp) pins' σ' H' s'->s'.heap.get? D=Aa { cls:=.type "list", data:=.seq (EM ys) n }->H' D=Af->AW xs ys->xs.length<=sizeLine->s.heap.objs.size<=D->D≠C->s.heap.objs.size<=C->s'.heap.Ns C m->Q (.ref D) (upd H' D (.lst xs))->RR (.ref D) C (.ok .next) s'):AD (model X.prog X.w) X.A (newList []) (fun acc s₃=>AD (model X.prog X.w) X.A (Gy scope X.env.globals cl [] X.env.qual Af .none (Aa X.env)) (fun cenv s₄=>E6 (model X.prog X.w) X.A (.compStart (.ListComp elt [⟨tg,iter,ifs,0⟩] scope pos) 0 (.ref it) acc {cenv with scope:=relabel scope X.env}) (RR acc cenv.locals) s₄) E s₃) E s:=by
 refine CF (Tg ?_);dsimp only;generalize hH2:s.heap.push { cls:=.type "list", dict:=Af,data:=.seq ([]:Ac Ai).toArray }=H2;have hns₁:(Fm (H2.push { cls:=.type "dict", data:=.dict #[] }) scope.names).Ns H2.objs.size (fun _=>Af):=(Heap.Ns.new H2 (.type "dict")).keeps (Gd _ _)
 have hkp₁:∀ b o,H2.get? b=Aa o->(Fm (H2.push { cls:=.type "dict", data:=.dict #[] }) scope.names).get? b=Aa o:=fun b o e=>Gd _ _ b o (Ar _ e)
 have hown:=Lg scope.names (H2.push { cls:=.type "dict", data:=.dict #[] }) cl;have hinj:=Lh scope.names (H2.push { cls:=.type "dict", data:=.dict #[] }) cl;rw[By]at hown hinj;generalize hcl':Cv (H2.objs.size+1) scope.names cl=cl' at hown hinj;have hcf:∀ x,(x,Bs)∉scope.names->cl'.lookup x=cl.lookup x:=fun x hx=>by rw[<-hcl'];exact K0 _ _ _ x hx
 have hch:∀ x,(x,Bs)∈scope.names->∃ c,cl'.lookup x=Aa c/\H2.objs.size+1<=c:=fun x hx=>by rw[<-hcl'];exact Li _ _ _ _ x (AK _) (.inl hx)
 generalize hh₁:Fm (H2.push { cls:=.type "dict", data:=.dict #[] }) scope.names=h₁ at hns₁ hkp₁ hown;have hC:H2.objs.size=s.heap.objs.size+1:=by rw[<-hH2,By]
 have hCle:s.heap.objs.size<=H2.objs.size:=by rw[hC];exact Ge _
 have hDC:s.heap.objs.size≠H2.objs.size:=by rw[hC];exact A1 (Ev _)
 have below:∀ b,b<s.heap.objs.size->b≠H2.objs.size:=fun b hb=>by rw[hC];exact A1 (CD hb)
 have old:∀ b o,s.heap.get? b=Aa o->h₁.get? b=Aa o:=fun b o e=>hkp₁ b o (hH2 ▸ Ar _ e)
 have hacc:h₁.get? s.heap.objs.size=Aa { cls:=.type "list", data:=.seq ([]:Ac Ai).toArray 0 }:=hkp₁ _ _ (hH2 ▸ AB _ rfl);have clt:∀ x c,cl.lookup x=Aa c->c<s.heap.objs.size:=fun x c e=>by
  obtain⟨v,q⟩:=I.cell x c (hcl x c e);exact q.lt
 have bc:BCells X scope cl' H2.objs.size h₁:=by
  refine⟨fun x c e=>?_,hinj (fun x y c e1 e2=>I.ok.inj x y c (hcl x c e1) (hcl y c e2)) (fun x c e=>CD (AF (clt x c e) hCle)),fun x hx=>?_,fun x hx=>?_⟩
  ·rcases hown x c e with q|⟨q1,q2,q3⟩
   ·exact .inl (hcl x c q)
   ·exact .inr ⟨B.uniq _ q1,q2,q3⟩
  ·have hm:=B2 hx;obtain⟨c,e,hc⟩:=hch x hm;exact⟨c,e,hc⟩
  ·have hno:(x,Bs)∉scope.names:=fun z=>by
    have e1:=B.uniq _ hx;have e2:=B.uniq _ z;rw[show scope.names.lookup x=_ from e1]at e2
    cases e2
   obtain⟨c,e⟩:=hcl2 x hx;exact⟨c,by rw[hcf x hno];exact e,hcl x c e⟩
 have hfo:∀ b∈fp,b<s.heap.objs.size:=fun b hb=>by
  obtain⟨o,e,_⟩:=T.obj 0 _ st b hb;exact Ay e
 generalize hD:s.heap.objs.size=D at *;generalize hC':H2.objs.size=C at *;have I0:Inv (cxC X scope cl' C N' s H fp) [] (hideT ts σ) H {s with heap:=h₁,toks:=s.toks+([]:Ac (Ah×Ai)).length}:=Tp (tk:=s.toks+([]:Ac (Ah×Ai)).length) I B hf (fun b hb=>by rw[hD];exact hfo b hb) bc old (by rw[hD];exact hCle) hns₁
 have nD:H D=Af:=I.hok.fresh (by rw[hD];exact AK _)
 have noD:∀ b∈fp,b≠D:=fun b hb=>A1 (hfo b hb)
 have noC:∀ b∈fp,b≠C:=fun b hb=>below b (hfo b hb)
 have stfs:D∉frs X.stack:=fun z=>by
  obtain⟨_,o,ho,_⟩:=I.stack.mem z;exact absurd (Ay ho) (by rw[hD];exact Bc _)
 have cD:∀ x c,cl'.lookup x=Aa c->c≠D:=fun x c e z=>by
  rcases bc.own x c e with q|⟨_,q,_⟩
  ·obtain⟨v,q⟩:=I.cell x c q;exact absurd q.lt (by rw[z,hD];exact Bc _)
  ·rw[z]at q;exact absurd (AF q hCle) (Bc _)
 have I1:Inv (cxC X scope cl' C N' s H fp) [(D,{ cls:=.type "list", data:=.seq ([]:Ac Ai).toArray 0 })] (hideT ts σ) H {s with heap:=h₁,toks:=s.toks+([]:Ac (Ah×Ai)).length}:=I0.pins_of fun p hp=>by
  have e:=BH.mp hp;subst e;exact⟨hacc,nD,hDC,stfs,fun v z=>by
   have z':II _ _=IH v:=z;cases z'⟩
 have st1:tn 0 h₁:=T.keep _ _ _ st fun b _ o e=>old b o e
 obtain⟨W,⟨m0,w0⟩,turn⟩:=h;have fpk:∀{pl:Pn}{H':Hp},(∀ p∈pl,p.1=D)->(∀ b∈fp,H' b=Af)->∀ b∈fp,Fb (cxC X scope cl' C N' s H fp) pl H' b:=fun {pl H'} hp hn b hb=>
  ⟨hn b hb,noC b hb,fun z=>by
   rcases At.mp (I.stkSub b z) with e|e
   ·exact(hf b hb).2.1 e
   ·exact(hf b hb).2.2.1 e,.inl hb,fun x c e=>(bc.own x c e).elim ((hf b hb).2.2.2.2.1 x c) (fun z q=>absurd (Fk hCle z.2.1) (RN.mpr (by rw[q];exact EN (hfo b hb)))),fun p hp'=>by
   have hp2:p∈pl:=hp';rw[hp p hp2];exact(noD b hb).symm⟩
 have loop:∀ s₃:Ao,s₃={s with heap:=h₁,toks:=s.toks+([]:Ac (Ah×Ai)).length} ->
   E6 (model X.prog X.w) X.A (.compLoop (.ListComp elt [⟨tg,iter,ifs,0⟩] scope pos) 0 (.ref it) (.ref D) (compEnvC scope cl' C X.env)) (RR (.ref D) C) s₃:=by
  rintro s₃ rfl;refine To (fun k s'=>∃ i σ' H' xs ys n,Inv (cxC X scope cl' C N' s H fp) [(D,{ cls:=.type "list", data:=.seq (EM ys) n })] σ' H' s'/\tn i s'.heap/\(∀ b∈fp,H' b=Af)/\AW xs ys/\xs.length<=sizeLine/\W i k xs σ' H') ?_ m0
   ⟨0,_,H,[],[],0,I1,st1,fun b hb=>(hf b hb).1,.nil,Gf _,w0⟩
  rintro k s' ⟨i,σ',H',xs,ys,n,I',st',fr',rv,hz,w'⟩;have one:∀ p∈[((D,{ cls:=.type "list", data:=.seq (EM ys) n }):Aj×Dk)],p.1=D:=fun p hp=>by rw[BH.mp hp]
  rcases turn i k xs σ' H' w' with ⟨stop,q⟩|⟨go,hlt,step⟩
  ·refine BX (T.done (cxC X scope cl' C N' s H fp) rfl rfl rfl hc i _ s' σ' H' (fun _ _=>A5) I' (fpk one fr') st' stop) (fun r s1 ⟨hr,J1⟩=>?_) fun _ _ f=>f.elim
   subst hr;obtain⟨e,hn,_⟩:=J1.pin _ (A9 _ AA);obtain⟨m,hm,_⟩:=J1.loc;exact hRR cl' D C s1 H' σ' _ xs ys n m J1 e hn rv hz (AK _) hDC hCle hm (q D hn)
  ·refine BX (T.item (cxC X scope cl' C N' s H fp) rfl rfl rfl hc i _ s' σ' H' (fun _ _=>A5) I' (fpk one fr') st' go) (fun r s1 ⟨u,hr,h4⟩=>?_) fun _ _ f=>f.elim
   subst hr;refine BX h4 (fun _ s5 ⟨x,H5,I5,r5,y5,st5,fr5⟩=>?_) fun _ _ f=>f.elim
   have I5':=I5.pinned (fpk one fr5) (T.obj _ _ st5);refine BX (hg cl' C s H _ s5 σ' H5 x u _ I5' r5 (step x H5 y5)) (fun _ s6 ⟨σ6,H6,I6,q6⟩=>?_) fun _ _ f=>f.elim
   refine BX (ht cl' C s H _ s6 σ6 H6 _ I6 q6) (fun ok s7 ⟨H7,I7,q7⟩=>?_) fun _ _ f=>f.elim
   have again:∀{s8:Ao}{H8:Hp}{ys':Ac Ai}{n':Ag},Inv (cxC X scope cl' C N' s H fp) ((D,{ cls:=.type "list", data:=.seq (EM ys') n' })::Hv fp s5.heap) σ6 H8 s8->Inv (cxC X scope cl' C N' s H fp) [(D,{ cls:=.type "list", data:=.seq (EM ys') n' })] σ6 H8 s8/\tn (i+1) s8.heap/\∀ b∈fp,H8 b=Af:=fun {s8 H8 ys' n'} I8=>
    ⟨I8.pins_of fun p hp=>I8.pin p (A9 _ (by rw[BH.mp hp];exact AA)),T.keep _ _ _ st5 fun b hb o e=>(I8.pin (b,o) (A9 _ (As _ (JH hb e)))).1,fun b hb=>by
     obtain⟨o,e,d⟩:=T.obj _ _ st5 b hb;exact(I8.pin (b,o) (A9 _ (As _ (JH hb e)))).2.1⟩
   cases ok with
   |false=>
    rw[AJ (by decide)]at q7
    obtain⟨m',hm,w7⟩:=q7;obtain⟨a1,a2,a3⟩:=again I7;rw[AJ (by decide)]
    exact⟨m',hm,i+1,σ6,H7,xs,ys,n,a1,a2,a3,rv,hz,w7⟩
   |true=>
    rw[AC rfl]at q7;rw[AC rfl];refine BX (he cl' C s H _ s7 σ6 H7 _ I7 q7) (fun val s8 ⟨y,H8,I8,r8,m',hm,w8⟩=>?_) fun _ _ f=>f.elim
    have hl:=rv.length;refine Tw (X:=cxC X scope cl' C N' s H fp) (ys:=ys) (n:=n) (pI:=Hv fp s5.heap) I8 (by show s.heap.objs.size<=D;rw[hD];exact AK _) (fun p hp=>?_) cD (by omega) fun s9 I9 kb=>?_
    ·have hp2:p∈Hv fp s5.heap:=hp;exact noD _ (Nr hp2).1
    ·obtain⟨a1,a2,a3⟩:=again I9;exact⟨m',hm,i+1,σ6,H8,xs++[y],ys++[val],n+1,a1,a2,a3,rv.append (.cons r8 .nil),by rw[Bo];exact hlt,w8⟩
 exact codeAny_compStart_list (loop _ rfl) (T.self _ 0 _ _ _ st1 (loop _ rfl))
theorem V4{g:TG}(hc:X.calm=Ab)(B:BlockOk X scope N' ts)(hi:PI X tg iter wi)(hg:∀ cl C s H fp,PG (cxC X scope cl C N' s H fp) tg g)(ht:∀ cl C s H fp,PTs (cxC X scope cl C N' s H fp) ifs tt)(he:∀ cl C s H fp,PE (cxC X scope cl C N' s H fp) elt te)(hs:∀ x,Cj iter X.env x=pure x):PE X (.ListComp elt [⟨tg,iter,ifs,0⟩] scope pos) (fun σ H Q=>wi σ H fun J H1=>IY J ts g tt te σ H1 Q):=by
 intro pI s σ H Q I h;obtain⟨cl,hclos,hcl,hcl2⟩:=M1 (scope:=scope) (env:=X.env) fun x hx hk=>I.ok.has x.1 ((B.free x hx hk).imp id id)
 rw[eval_ListComp];refine S3 (use:=Af) rfl hs hclos B.kind B.names (thn (hi pI s σ H _ I h) fun v s1 h1=>thn h1 fun itv s2 h2=>?_)
 obtain⟨it,fp,tn,J,H2,e,I2,T,st2,f2,h3⟩:=h2;subst e;refine NU (RR:=fun acc C=>compPost (model X.prog X.w) X.A X.xe Af (EP X pI σ Q) acc C) hc B I2 T st2 f2 hcl hcl2 (fun cl C s H=>hg cl C s H fp) (fun cl C s H=>ht cl C s H fp) (fun cl C s H=>he cl C s H fp) h3 fun cl' D C s' H' σ' pins' xs ys n m I' hd hDn rv hz hD hDC hC hm q=>?_
 exact⟨m,hm,fun h'' hs''=>⟨.ref D,_,NG I2 f2 I' hD hDC hC hd hDn rv hz hs'',rfl,q⟩⟩
theorem VZ{n:Ah}{g:TG}(hc:X.calm=Ab)(B:BlockOk X scope N' ts)(hi:PI X tg iter wi)(hg:∀ cl C s H fp,PG (cxC X scope cl C N' s H fp) tg g)(ht:∀ cl C s H fp,PTs (cxC X scope cl C N' s H fp) ifs tt)(he:∀ cl C s H fp,PE (cxC X scope cl C N' s H fp) elt te)(hs:∀ x,Cj iter X.env x=pure x)(hN:X.N.Nodup)(hni:X.N[i]?=Aa n)(hx:X.env.scope.names.lookup n=Aa .local)(hsw:DA (.ListComp elt [⟨tg,iter,ifs,0⟩] scope pos) (Aa (.Name n pos')) pos2.line X.env=pure Ab):PS X (.Assign [.Name n pos'] (.ListComp elt [⟨tg,iter,ifs,0⟩] scope pos) pos2) (Kk (fun σ H Q=>wi σ H fun J H1=>IY J ts g tt te σ H1 Q) (DZ i)):=by
 intro pI s σ H Dn I h;obtain⟨cl,hclos,hcl,hcl2⟩:=M1 (scope:=scope) (env:=X.env) fun x hx hk=>I.ok.has x.1 ((B.free x hx hk).imp id id)
 rw[exec_Assign_Name_used _ _ _ _ hsw];refine Al (Fw (Al ?_));show AD _ X.A (do let _ <-comprehension (.ListComp elt [⟨tg,iter,ifs,0⟩] scope pos) scope X.env _ (newList []) Ad (eval iter X.env) (Aa (assign (.Name n pos') X.env))) _ _ s
 refine Al (BX (S3 (use:=Aa (assign (.Name n pos') X.env)) (Q:=fun _ s'=>SP X pI Dn .next s') rfl hs hclos B.kind B.names
  (thn (hi pI s σ H _ I h) fun v s1 h1=>thn h1 fun itv s2 h2=>?_)) (fun _ s' hq=>AE (AE hq)) fun _ _ e=>e)
 obtain⟨it,fp,tn,J,H2,e,I2,T,st2,f2,h3⟩:=h2;subst e;refine NU (RR:=fun acc C=>compPost (model X.prog X.w) X.A X.xe (Aa (assign (.Name n pos') X.env)) (fun _ s'=>SP X pI Dn .next s') acc C) hc B I2 T st2 f2 hcl hcl2 (fun cl C s H=>hg cl C s H fp) (fun cl C s H=>ht cl C s H fp) (fun cl C s H=>he cl C s H fp) h3 fun cl' D C s' H' σ' pins' xs ys n' m I' hd hDn rv hz hD hDC hC hm q=>?_
 have J0:Inv X pI σ (upd H' D (.lst xs)) s':=NG I2 f2 I' hD hDC hC hd hDn rv hz (Sh ..);refine S0 (NL J0 hN hni (.inl hx) (show Bm (.ref D) (.ref D) from rfl) (fun s'' J1 ⟨a,sb,ha⟩=>?_) (.inr hx))
 have hC0:X.s₀.heap.objs.size<=C:=Cb I2.sz hC;have hL:C≠X.env.locals:=fun z=>absurd (AF I2.lt (z ▸ hC)) (Bc _)
 have hcC:∀ x c,X.env.cells.lookup x=Aa c->c≠C:=fun x c e z=>by
  obtain⟨v,q'⟩:=I2.cell x c e;exact absurd (AF q'.lt (by rw[z];exact hC)) (Bc _)
 have hp:∀ p∈X.pn++pI,p.1≠C:=fun p hp z=>absurd (AF (Ay (I2.pin p hp).1) (by rw[z];exact hC)) (Bc _)
 have hCn:upd H' D (.lst xs) C=Af:=by rw[B9 hDC.symm];exact I'.free
 have hCa:C≠a:=by
  rcases ha with rfl|ha
  ·exact hL
  ·exact fun z=>hcC n a ha z.symm
 refine⟨m,hm.sameBut sb hCa,fun h'' hs''=>⟨_,_,J1.turned (t':=s''.toks) (fun b o hb e=>(hs''.2 b hb).trans e) hCn hL (.inr hC0) hcC hp,q⟩⟩
theorem H9:∀(ts:Ac Ag)(ρ:Rho)(j:Ag),(Ed ts ρ)[j]?=if j∈ts then (ρ[j]?).map (fun _=>Af) else ρ[j]?
 |[],ρ,j=>by simp[Ed]
 |t::ts,ρ,j=>by
  show (Ed ts (ρ.set t Af))[j]?=_;rw[H9 ts];by_cases h1:j∈ts
  ·rw[AC h1,AC (As _ h1)];by_cases h2:t=j
   ·subst h2;rw[Eg];cases ρ[t]?<;>rfl
   ·rw[Cd h2]
  ·rw[AJ h1];by_cases h2:t=j
   ·subst h2;rw[AC AA,Eg];cases ρ[t]?<;>rfl
   ·rw[Cd h2,AJ (by simp only[At,CV];exact⟨fun z=>h2 z.symm,h1⟩)]
theorem JW:∀(ts:Ac Ag)(ρ:Rho),(Ed ts ρ).length=ρ.length
 |[],_=>rfl
 |t::ts,ρ=>by show (Ed ts (ρ.set t Af)).length=_;rw[JW ts,A3]
theorem KW:∀(ts:Ac Ag)(σ:L2.St){i:Ag},i∉ts->(hideT ts σ)[i]?=σ[i]?
 |[],_,_,_=>rfl
 |t::ts,σ,i,h=>by
  simp only[At,CV]at h;show (hideT ts (σ.set t Af))[i]?=_;rw[KW ts _ h.2,Cd (fun z=>h.1 z.symm)]
theorem MU:∀(ts:Ac Ag)(ds:Ac D)(ρ1 ρ2:Rho),ρ1.length=ρ2.length->(∀ j,j∉ts->ρ1[j]?=ρ2[j]?)->DL ts ds ρ1=DL ts ds ρ2
 |[],[],ρ1,ρ2,hl,h=>congrArg Aa (Rk fun j=>h j (by simp))
 |[],_::_,_,_,_,_=>rfl
 |_::_,[],_,_,_,_=>rfl
 |t::ts,d::ds,ρ1,ρ2,hl,h=>by
  refine MU ts ds _ _ (by rw[A3,A3];exact hl) fun j hj=>?_
  by_cases e:t=j
  ·subst e;rw[FH,FH,AC rfl,AC rfl,hl]
  ·rw[Cd e,Cd e];exact h j (by simp only[At,CV];exact⟨fun z=>e z.symm,hj⟩)
theorem MT:∀(ts us:Ac Ag)(ds:Ac D)(ρ ρ':Rho),(∀ t∈ts,t∈us)->DL ts ds ρ=Aa ρ'->Ed us ρ'=Ed us ρ
 |[],us,[],ρ,ρ',_,e=>by cases e;rfl
 |t::ts,us,d::ds,ρ,ρ',hs,e=>by
  rw[MT ts us ds _ ρ' (fun u hu=>hs u (As _ hu)) e]
  refine Rk fun j=>?_
  rw[H9,H9];by_cases h:j∈us
  ·rw[AC h,AC h,FH];split
   ·rename_i e2;subst e2;split
    ·rename_i h3;rw[BA h3];rfl
    ·rename_i h3;rw[List.getElem?_eq_none (by omega)]
   ·rfl
  ·rw[AJ h,AJ h,Cd];rintro rfl;exact h (hs _ AA)
 |[],_,_::_,_,_,_,e=>by cases e
 |_::_,_,[],_,_,_,e=>by cases e
section
variable{K:Fg}{CL:ClA}{A:Aj->Prop}{ρ ρ':Rho}{σ:L2.St}{H:Hp}
theorem Good.less(g:Good K CL A ρ σ H)(hl:ρ'.length=ρ.length)(h:∀(i:Ag)(d:D)(o:An),ρ'[i]?=Aa (Aa (d,o))->ρ[i]?=Aa (Aa (d,o))):Good K CL A ρ' σ H:=⟨fun i d e=>g.sh i d (h i d Ad e),fun i d e=>g.ow i d (h i d Ab e),hl.trans g.len⟩
theorem Good.put(g:Good K CL A ρ σ H)(t:Ag)(r:Rep K CL H A v d):Good K CL A (ρ.set t (Aa (d,Ad))) (σ.set t (Aa v)) H:=by
 refine⟨fun j e h=>?_,fun j e h=>?_,by rw[A3,A3];exact g.len⟩
 ·by_cases hj:t=j
  ·subst hj;have e1:=F2 h;cases e1;have hl:t<σ.length:=by
    rw[<-g.len];have:=(AM.mp h).1;simpa using this
   exact⟨v,by rw[Co hl],r⟩
  ·rw[Cd hj]at h;obtain⟨w',q,rw'⟩:=g.sh j e h;exact⟨w',by rw[Cd hj];exact q,rw'⟩
 ·have hj:t≠j:=by
   rintro rfl;have:=F2 h;cases this
  rw[Cd hj]at h;obtain⟨a,xs,ds,q,z⟩:=g.ow j e h;exact⟨a,xs,ds,by rw[Cd hj];exact q,z⟩
theorem Good.hide(g:Good K CL A ρ σ H)(ts:Ac Ag):Good K CL A (Ed ts ρ) σ H:=g.less (JW _ _) fun i d o e=>by
 rw[H9]at e;split at e
 ·cases q:ρ[i]? with
  |none=>rw[q]at e;cases e
  |some x=>rw[q]at e;cases e
 ·exact e
theorem Good.hideT(g:Good K CL A ρ σ H)(ts:Ac Ag):Good K CL A (Ed ts ρ) (hideT ts σ) H:=by
 have key:∀ i x,(Ed ts ρ)[i]?=Aa (Aa x)->ρ[i]?=Aa (Aa x)/\i∉ts:=fun i x e=>by
  rw[H9]at e;split at e
  ·cases q:ρ[i]? with
   |none=>rw[q]at e;cases e
   |some x=>rw[q]at e;cases e
  ·exact⟨e,by assumption⟩
 refine⟨fun i d e=>?_,fun i d e=>?_,by rw[JW,Ld];exact g.len⟩
 ·obtain⟨e1,e2⟩:=key i _ e;obtain⟨v,q,r⟩:=g.sh i d e1;exact⟨v,by rw[KW _ _ e2];exact q,r⟩
 ·obtain⟨e1,e2⟩:=key i _ e;obtain⟨a,xs,ds,q,r⟩:=g.ow i d e1;exact⟨a,xs,ds,by rw[KW _ _ e2];exact q,r⟩
end
def GG(K:Fg)(CL:ClA)(ts:Ac Ag)(as:D->Rho->R Rho)(g:TG):Prop:=∀ A ρ σ H v d ρ' Q,Good K CL A (Ed ts ρ) σ H->Rep K CL H A v d->as d ρ=.ok ρ'->(∀ σ',Good K CL A ρ' σ' H->Good K CL A (Ed ts ρ) σ' H->Q σ' H)->g v σ H Q
theorem Xa(i:Ag):GG K CL [i] (fun d ρ=>.ok (ρ.set i (Aa (d,Ad)))) (DZ i):=fun A ρ σ H v d ρ' Q g r e k=>by
 cases e;have g2:=g.put i r;have e1:(Ed [i] ρ).set i (Aa (d,Ad))=ρ.set i (Aa (d,Ad)):=by
  show (ρ.set i Af).set i (Aa (d,Ad))=_;rw[RH]
 rw[e1]at g2;refine k _ g2 ?_;have:=g2.hide [i];have e2:Ed [i] (ρ.set i (Aa (d,Ad)))=Ed [i] ρ:=by
  show (ρ.set i _).set i Af=ρ.set i Af;rw[RH]
 rw[e2]at this;exact this
theorem Ox{K:Fg}{CL:ClA}{A:Aj->Prop}{H:Hp}:∀(ts:Ac Ag)(ds:Ac D)(vs:Ac V)(ρ ρ':Rho)(σ:L2.St)(Q:L2.St->Hp->Prop),Good K CL A ρ σ H->Reps K CL H A vs ds->DL ts ds ρ=Aa ρ'->(∀ σ',Good K CL A ρ' σ' H->Q σ' H)->(ts.foldr (fun t u=>F7 (DZ t) u) F9) vs σ H Q
 |[],[],[],ρ,ρ',σ,Q,x,_,e,k=>by
  cases e;exact⟨rfl,k σ x⟩
 |t::ts,d::ds,v::vs,ρ,ρ',σ,Q,x,r,e,k=>⟨v,vs,rfl,Ox ts ds vs _ ρ' _ Q (x.put t r.1) r.2 e k⟩
 |[],_::_,_,_,_,_,_,_,_,e,_=>by cases e
 |_::_,[],_,_,_,_,_,_,_,e,_=>by cases e
 |[],[],_::_,_,_,_,_,_,r,_,_=>r.elim
 |_::_,_::_,[],_,_,_,_,_,r,_,_=>r.elim
theorem YV(ts:Ac Ag):GG K CL ts (E8 ts) (IC K ts.length (ts.foldr (fun t u=>F7 (DZ t) u) F9)):=fun A ρ σ H v d ρ' Q g r e k=>by
 cases d with
 |tup ds=>
  obtain⟨a,xs,rfl,na,sq,rs⟩:=r;rw[M3]at e;cases e2:DL ts ds ρ with
  |none=>rw[e2]at e;cases e
  |some ρ2=>
   rw[e2]at e;cases e;have e3:DL ts ds (Ed ts ρ)=Aa ρ':=by
    rw[<-e2];exact MU ts ds _ _ (JW _ _) fun j hj=>by rw[H9,AJ hj]
   refine⟨a,xs,rfl,sq,by rw[rs.length];exact JG _ _ _ _ e2,Ox ts ds xs _ ρ' σ Q g rs e3 fun σ' g'=>k σ' g' ?_⟩
   have:=g'.hide ts;rw[MT ts ts ds ρ ρ' (fun _ h=>h) e2]at this
   exact this
 |_=>cases e
noncomputable abbrev W0:XW:=fun _ _=>A5
def STs(X:Cx)(CL:ClA)(ifs:Ac Am)(f:Rho->R An):Prop:=∀ A,PTs X ifs (fun σ H Q=>AOk H A/\∃ ρ,Good X.K CL A ρ σ H/\Cs W0 H (f ρ) Q)
theorem V9:STs X CL [] (fun _=>.ok Ab):=fun A pI s σ H Q I ⟨hA,ρ,g,p⟩=>VU pI s σ H Q I (p H (Az.refl H))
theorem V8(h:SB X CL W0 c f):STs X CL [c] f:=fun A pI s σ H Q I q=>VS (h A) pI s σ H Q I q
section
variable{X:Cx}{CL:ClA}{W:XW}{tg iter elt:Am}{ifs:Ac Am}{scope:BS}{pos:AO}{N':Ac Ah}{ts:Ac Ag}{fi:Rho->R (Ac D)}{fc:Rho->R An}{fe:Rho->R D}{as:D->Rho->R Rho}{g:TG}
theorem Tn{g:D->R An}{f:D->R D}{x:D}{xs ys:Ac D}(h:Bg g f (x::xs)=.ok ys):(g x=.ok Ad/\Bg g f xs=.ok ys)\/∃ y r,g x=.ok Ab/\f x=.ok y/\Bg g f xs=.ok r/\ys=y::r:=by
 unfold Bg at h;cases e:g x with
 |bad=>rw[e]at h;cases h
 |exn z=>rw[e]at h;cases h
 |ok b=>
  rw[e,R.bind_ok]at h;cases b with
  |false=>exact .inl ⟨rfl,h⟩
  |true=>
   rw[AC rfl]at h;cases e2:f x with
   |bad=>rw[e2]at h;cases h
   |exn z=>rw[e2]at h;cases h
   |ok y=>
    rw[e2,R.bind_ok]at h;cases e3:Bg g f xs with
    |bad=>rw[e3]at h;cases h
    |exn z=>rw[e3]at h;cases h
    |ok r=>
     rw[e3,R.bind_ok]at h;cases h;exact .inr ⟨y,r,rfl,rfl,rfl,rfl⟩
theorem Hq{β:Type}{r:R α}{f:α->R β}{b:β}(h:r.bind f=.ok b):∃ a,r=.ok a/\f a=.ok b:=by
 cases r with
 |ok a=>exact⟨a,rfl,h⟩
 |exn x=>cases h
 |bad=>cases h
theorem Uc{ds ys:Ac D}(hGG:GG K CL ts as g)(hA:AOk H1 A)(gd:Good K CL A ρ σ H1)(yl:GR K CL A ds J H1)(hz:ds.length<=sizeLine)(hcp:Bg (fun x=>(as x ρ).bind fc) (fun x=>(as x ρ).bind fe) ds=.ok ys)(q:∀ xs H2,Az H1 H2->Reps K CL H2 A xs ys->∀ p,H2 p=Af->Q (.ref p) (upd H2 p (.lst xs))):IY J ts g (fun σ H Q=>AOk H A/\∃ ρ,Good K CL A ρ σ H/\Cs W0 H (fc ρ) Q) (fun σ H Q=>AOk H A/\∃ ρ,Good K CL A ρ σ H/\A4 (fun H=>Rep K CL H A) W0 H (fe ρ) Q) σ H1 Q:=by
 refine⟨fun i m xs σ' H'=>m=ds.length-i/\i<=ds.length/\xs.length<=i/\Az H1 H'/\Good K CL A (Ed ts ρ) σ' H'/\∃ outs rest,Reps K CL H' A xs outs/\Bg (fun x=>(as x ρ).bind fc) (fun x=>(as x ρ).bind fe) (ds.drop i)=.ok rest/\ys=outs++rest,
  ⟨ds.length,by simp,Gf _,AK _,Az.refl _,gd.hideT ts,[],ys,trivial,hcp,rfl⟩,?_⟩
 rintro i m xs σ' H' ⟨rfl,hi,hxl,sm,g',outs,rest,rs,hc,e⟩;obtain⟨yst,ygo⟩:=yl H' (Kp.of sm) i;by_cases hlt:i<ds.length
 ·have hd:ds[i]?=Aa ds[i]:=BA hlt;obtain⟨hgo,hyl⟩:=ygo _ hd;refine .inr ⟨hgo,by omega,fun x H2 hx=>?_⟩
  obtain⟨s2,rx⟩:=hyl x H2 hx;have rx':=rx A (fun a ha=>.inl ha) (hA.same sm)
  rw[D4 hlt]at hc;have sm2:=sm.trans s2;rcases Tn hc with ⟨h1,h2⟩|⟨y,r,h1,h2,h3,h4⟩
  ·obtain⟨ρ',ea,ec⟩:=Hq h1;refine hGG A ρ σ' H2 x ds[i] ρ' _ (g'.same s2) rx' ea fun σ3 g3 g4=>⟨hA.same sm2,ρ',g3,?_⟩
   rw[ec];exact fun H3 s3=>by
    dsimp only;rw[AJ (by decide)]
    exact⟨ds.length-(i+1),by omega,rfl,hlt,by omega,sm2.trans s3,g4.same s3,outs,rest,(rs.same s2).same s3,h2,e⟩
  ·obtain⟨ρ',ea,ec⟩:=Hq h1;obtain⟨ρ2,ea2,ee⟩:=Hq h2;rw[ea]at ea2;cases ea2;refine hGG A ρ σ' H2 x ds[i] ρ' _ (g'.same s2) rx' ea fun σ3 g3 g4=>⟨hA.same sm2,ρ',g3,?_⟩
   rw[ec];exact fun H3 s3=>by
    dsimp only;rw[AC rfl];refine⟨(hA.same sm2).same s3,ρ',g3.same s3,?_⟩;rw[ee];exact fun v H4 s4 r4=>⟨ds.length-(i+1),by omega,rfl,hlt,by rw[Bo,Rz];omega,(sm2.trans s3).trans s4,(g4.same s3).same s4,outs++[y],r,(((rs.same s2).same s3).same s4).append ⟨r4,trivial⟩,h3,by rw[e,h4];simp⟩
 ·have hk':ds.length<=i:=by omega
  rw[Ri hk']at hc;have hr:rest=[]:=by cases hc;rfl
  subst hr;rw[B8]at e;subst e;exact .inl ⟨yst hk',fun p hp=>q xs H' sm rs p hp⟩
theorem DN.ok_of{r:R (Ac D)}{f:Ac D->R D}{Q':It->Hp->Prop}(h:A4 Rq W H (r.bind f) Q)(k:∀ ds J H',r=.ok ds->Az H H'->GR K CL A ds J H'->ds.length<=sizeLine->A4 Rq W H' (f ds) Q->Q' J H'):DN K CL A W H r Q':=by
 cases r with
 |ok d=>exact fun J H2 s2 y z=>k d J H2 rfl s2 y z (A4.same s2 h)
 |exn x=>exact h
 |bad=>exact h
theorem Zf{r:R α}{a:α}(h:noX r=.ok a):r=.ok a:=by
 cases r with
 |ok b=>exact h
 |exn x=>cases h
 |bad=>cases h
theorem NE(hGG:GG X.K CL ts as g)(hA:AOk H A)(gd:Good X.K CL A ρ σ H)(p:A4 (Dq X.K CL Ab H A) W H ((fi ρ).bind fun xs=>(noX (Bg (fun x=>(as x ρ).bind fc) (fun x=>(as x ρ).bind fe) xs)).bind fun ys=>.ok (.lst ys)) Q):DN X.K CL A W H (fi ρ) (fun J H1=>IY J ts g (fun σ H Q=>AOk H A/\∃ ρ,Good X.K CL A ρ σ H/\Cs W0 H (fc ρ) Q) (fun σ H Q=>AOk H A/\∃ ρ,Good X.K CL A ρ σ H/\A4 (fun H=>Rep X.K CL H A) W0 H (fe ρ) Q) σ H1 Q):=
 DN.ok_of p fun ds J H1 e1 s1 yl hz p1=>by
  cases e2:noX (Bg (fun x=>(as x ρ).bind fc) (fun x=>(as x ρ).bind fe) ds) with
  |ok ys=>
   rw[e2]at p1;exact Uc hGG (hA.same s1) (gd.same s1) yl hz (Zf e2) fun xs H2 s2 rs q hq=>p1 _ _ (s2.trans (Ek hq _)) (Hs (s1.trans s2) ((hA.same s1).same s2) hq rs)
  |exn x=>rw[e2]at p1;cases hq:Bg (fun x=>(as x ρ).bind fc) (fun x=>(as x ρ).bind fe) ds<;>rw[hq]at e2<;>cases e2
  |bad=>rw[e2]at p1;exact p1.elim
theorem Wo(hc:X.calm=Ab)(B:BlockOk X scope N' ts)(hi:SI X CL W tg iter fi)(hGG:GG X.K CL ts as g)(hg:∀ cl C s H fp,PG (cxC X scope cl C N' s H fp) tg g)(ht:∀ cl C s H fp,STs (cxC X scope cl C N' s H fp) CL ifs fc)(he:∀ cl C s H fp,SE (cxC X scope cl C N' s H fp) CL W0 elt fe)(hs:∀ x,Cj iter X.env x=pure x):SC X CL W Ab (.ListComp elt [⟨tg,iter,ifs,0⟩] scope pos) (fun ρ=>(fi ρ).bind fun xs=>(noX (Bg (fun x=>(as x ρ).bind fc) (fun x=>(as x ρ).bind fe) xs)).bind fun ys=>.ok (.lst ys)):=fun A pI s σ H Q I ⟨hA,ρ,gd,p⟩=>
 V4 hc B (hi A) hg (fun cl C s H fp=>ht cl C s H fp A) (fun cl C s H fp=>he cl C s H fp A) hs pI s σ H Q I ⟨hA,ρ,gd,NE hGG hA gd p⟩
end
section
variable{K:Fg}{CL:ClA}{Fz:Aj->HO->Prop}{B:Aj->Prop}{ρ:Rho}{σ:L2.St}{H H':Hp}
theorem Sx.setF(x:Sx K CL Fz B ρ σ H)(s:Az H H'){ds:Ac D}(h0:H a=Af)(h1:H' a=Aa (.lst xs))(r:Reps K CL H' (fun b=>BY B ρ σ b\/b=a) xs ds):Sx K CL Fz B (ρ.set i (Aa (.lst ds,Ab))) (σ.set i (Aa (.ref a))) H':=by
 have nA:¬ BY B ρ σ a:=x.aok.new h0;have own:∀(j:Ag)(e:D),(ρ.set i (Aa (.lst ds,Ab)))[j]?=Aa (Aa (e,Ab))->(i=j/\e=.lst ds)\/(i≠j/\ρ[j]?=Aa (Aa (e,Ab))):=fun j e h=>by
  by_cases hj:i=j
  ·subst hj;have:=F2 h;cases this;exact .inl ⟨rfl,rfl⟩
  ·exact .inr ⟨hj,by rw[Cd hj]at h;exact h⟩
 have atI:∀{j:Ag}{y:Sl},(ρ.set i (Aa (.lst ds,Ab)))[j]?=Aa y->i=j->(σ.set i (Aa (.ref a)))[j]?=Aa (Aa (.ref a)):=fun {j y} h e=>by
  subst e;have hl:i<σ.length:=by
   rw[<-x.len];have:=(AM.mp h).1;simpa using this
  rw[Co hl]
 have sub:∀ b,BY B (ρ.set i (Aa (.lst ds,Ab))) (σ.set i (Aa (.ref a))) b->BY B ρ σ b\/b=a:=fun b h=>by
  rcases h with h|⟨j,e,h1,h2⟩
  ·exact .inl (.inl h)
  ·rcases own j e h1 with ⟨hj,_⟩|⟨hj,h1'⟩
   ·rw[atI h1 hj]at h2;cases h2;exact .inr rfl
   ·rw[Cd hj]at h2;exact .inl (.inr ⟨j,e,h1',h2⟩)
 have wide:∀{v:V}{d:D},Rep K CL H (BY B ρ σ) v d->Rep K CL H' (BY B (ρ.set i (Aa (.lst ds,Ab))) (σ.set i (Aa (.ref a)))) v d:=fun r=>(Rep.wide (fun b hb=>(sub b hb).imp id fun e=>by rw[e];exact h0) _ r).same s
 have wides:∀{v:Ac V}{d:Ac D},Reps K CL H (BY B ρ σ) v d->Reps K CL H' (BY B (ρ.set i (Aa (.lst ds,Ab))) (σ.set i (Aa (.ref a)))) v d:=fun r=>(Reps.wide (fun b hb=>(sub b hb).imp id fun e=>by rw[e];exact h0) _ r).same s
 refine⟨⟨fun j e h=>?_,fun j e h=>?_,by rw[A3,A3];exact x.len⟩,fun b h=>?_,fun j e b g1 g2=>?_,fun j k e f b g1 g2 g3 g4=>?_,fun b o z=>s _ _ (x.same b o z),by rw[A3,A3];exact x.len⟩
 ·have hj:i≠j:=by
   rintro rfl;have:=F2 h;cases this
  rw[Cd hj]at h;obtain⟨w',q,rw'⟩:=x.good.sh j e h;exact⟨w',by rw[Cd hj];exact q,wide rw'⟩
 ·rcases own j e h with ⟨hj,rfl⟩|⟨hj,h'⟩
  ·have q:=atI h hj;exact⟨a,xs,ds,q,rfl,.inr ⟨j,_,h,q⟩,h1,Reps.sub sub _ r⟩
  ·obtain⟨b,ys,es,q,z,ha,hh,rr⟩:=x.good.ow j e h';have q':(σ.set i (Aa (.ref a)))[j]?=Aa (Aa (.ref b)):=by rw[Cd hj];exact q
   exact⟨b,ys,es,q',z,.inr ⟨j,e,h,q'⟩,s _ _ hh,wides rr⟩
 ·rcases sub b h with z|z
  ·obtain⟨ys,q⟩:=x.aok b z;exact⟨ys,s _ _ q⟩
  ·rw[z];exact⟨xs,h1⟩
 ·rcases own j e g1 with ⟨hj,_⟩|⟨hj,h'⟩
  ·rw[atI g1 hj]at g2;cases g2;refine⟨fun o z=>?_,fun z=>nA (.inl z)⟩
   have:=x.same a o z;rw[h0]at this;cases this
  ·rw[Cd hj]at g2;exact x.new j e b h' g2
 ·rcases own j e g1 with ⟨hj,_⟩|⟨hj,h'⟩
  ·rw[atI g1 hj]at g3;cases g3;rcases own k f g2 with ⟨hk,_⟩|⟨hk,h''⟩
   ·exact hj.symm.trans hk
   ·rw[Cd hk]at g4;exact absurd (.inr ⟨k,f,h'',g4⟩) nA
  ·rw[Cd hj]at g3;rcases own k f g2 with ⟨hk,_⟩|⟨hk,h''⟩
   ·rw[atI g2 hk]at g4;cases g4;exact absurd (.inr ⟨j,e,h',g3⟩) nA
   ·rw[Cd hk]at g4;exact x.dis j k e f b h' h'' g3 g4
theorem Sx.upd(x:Sx K CL Fz B ρ σ H){i:Ag}{d:D}{a:Aj}{xs:Ac V}{ds:Ac D}(hi:ρ[i]?=Aa (Aa (d,Ab)))(ha:σ[i]?=Aa (Aa (.ref a)))(r:Reps K CL H (BY B ρ σ) xs ds):Sx K CL Fz B (ρ.set i (Aa (.lst ds,Ab))) σ (L2.upd H a (.lst xs)):=by
 have oa:BY B ρ σ a:=.inr ⟨i,d,hi,ha⟩;have hil:i<ρ.length:=(AM.mp hi).1;have get:∀(j:Ag)(e:D),(ρ.set i (Aa (.lst ds,Ab)))[j]?=Aa (Aa (e,Ab))↔(i=j/\e=.lst ds)\/(i≠j/\ρ[j]?=Aa (Aa (e,Ab))):=fun j e=>by
  by_cases hj:i=j
  ·subst hj;rw[Co hil];simp;exact⟨fun z=>z.symm,fun z=>z.symm⟩
  ·rw[Cd hj];simp[hj]
 have same:∀ b,BY B (ρ.set i (Aa (.lst ds,Ab))) σ b↔BY B ρ σ b:=fun b=>by
  constructor
  ·rintro (h|⟨j,e,h1,h2⟩)
   ·exact .inl h
   ·rcases (get j e).mp h1 with ⟨rfl,_⟩|⟨_,h1⟩
    ·exact .inr ⟨i,d,hi,h2⟩
    ·exact .inr ⟨j,e,h1,h2⟩
  ·rintro (h|⟨j,e,h1,h2⟩)
   ·exact .inl h
   ·by_cases hj:i=j
    ·subst hj;exact .inr ⟨i,.lst ds,(get i _).mpr (.inl ⟨rfl,rfl⟩),h2⟩
    ·exact .inr ⟨j,e,(get j e).mpr (.inr ⟨hj,h1⟩),h2⟩
 have kp:Kp (BY B ρ σ) H (L2.upd H a (.lst xs)):=fun b o e na=>by
  have hne:b≠a:=by
   rintro rfl;exact na oa
  rw[B9 hne];exact e
 refine⟨⟨fun j e h=>?_,fun j e h=>?_,by rw[A3];exact x.len⟩,fun b h=>?_,fun j e b g1 g2=>?_,fun j k e f b g1 g2 g3 g4=>?_,fun b o z=>?_,by rw[A3];exact x.len⟩
 ·have hj:i≠j:=by
   rintro rfl;have:=F2 h;cases this
  rw[Cd hj]at h;obtain⟨w',q,rw'⟩:=x.good.sh j e h;exact⟨w',q,Rep.sub (fun b hb=>(same b).mp hb) _ (Rep.kp kp _ rw')⟩
 ·rcases (get j e).mp h with ⟨rfl,rfl⟩|⟨hj,h'⟩
  ·exact⟨a,xs,ds,ha,rfl,(same a).mpr oa,F0,Reps.sub (fun b hb=>(same b).mp hb) _ (Reps.kp kp _ r)⟩
  ·obtain⟨b,ys,es,q,z,hb,hh,rr⟩:=x.good.ow j e h';have hne:b≠a:=fun z=>hj (x.dis i j d e a hi h' ha (z ▸ q))
   exact⟨b,ys,es,q,z,(same b).mpr hb,by rw[B9 hne];exact hh,Reps.sub (fun b hb=>(same b).mp hb) _ (Reps.kp kp _ rr)⟩
 ·obtain⟨ys,q⟩:=x.aok b ((same b).mp h);by_cases e:b=a
  ·rw[e];exact⟨xs,F0⟩
  ·exact⟨ys,by rw[B9 e];exact q⟩
 ·rcases (get j e).mp g1 with ⟨rfl,_⟩|⟨_,h'⟩
  ·exact x.new i d b hi g2
  ·exact x.new j e b h' g2
 ·rcases (get j e).mp g1 with ⟨rfl,_⟩|⟨hj,h'⟩
  ·rcases (get k f).mp g2 with ⟨rfl,_⟩|⟨hk,h''⟩
   ·rfl
   ·exact x.dis i k d f b hi h'' g3 g4
  ·rcases (get k f).mp g2 with ⟨rfl,_⟩|⟨hk,h''⟩
   ·exact x.dis j i e d b h' hi g3 g4
   ·exact x.dis j k e f b h' h'' g3 g4
 ·have hne:b≠a:=fun e=>(x.new i d a hi ha).1 o (e ▸ z)
  rw[B9 hne];exact x.same b o z
theorem Sx.rel(x:Sx K CL Fz B ρ σ H)(hi:ρ[i]?=Aa (Aa (d,Ab))):Sx K CL Fz B (ρ.set i (Aa (d,Ad))) σ H:=by
 obtain⟨a,xs,ds,q,rfl,oa,hh,rr⟩:=x.good.ow i d hi;have own:∀(j:Ag)(e:D),(ρ.set i (Aa (.lst ds,Ad)))[j]?=Aa (Aa (e,Ab))->i≠j/\ρ[j]?=Aa (Aa (e,Ab)):=fun j e h=>by
  by_cases hj:i=j
  ·subst hj;have:=F2 h;cases this
  ·exact⟨hj,by rw[Cd hj]at h;exact h⟩
 have sub:∀ b,BY B (ρ.set i (Aa (.lst ds,Ad))) σ b->BY B ρ σ b:=fun b h=>by
  rcases h with h|⟨j,e,h1,h2⟩
  ·exact .inl h
  ·exact .inr ⟨j,e,(own j e h1).2,h2⟩
 have na:¬ BY B (ρ.set i (Aa (.lst ds,Ad))) σ a:=fun h=>by
  rcases h with h|⟨j,e,h1,h2⟩
  ·exact(x.new i _ a hi q).2 h
  ·obtain⟨hj,h1⟩:=own j e h1;exact hj (x.dis i j _ e a hi h1 q h2)
 refine⟨⟨fun j e h=>?_,fun j e h=>?_,by rw[A3];exact x.len⟩,fun b h=>x.aok b (sub b h),fun j e b g1 g2=>x.new j e b (own j e g1).2 g2,fun j k e f b g1 g2 g3 g4=>x.dis j k e f b (own j e g1).2 (own k f g2).2 g3 g4,x.same,by rw[A3];exact x.len⟩
 ·by_cases hj:i=j
  ·subst hj;have e1:=F2 h;cases e1;exact⟨_,q,a,xs,rfl,.inl na,SqL.of hh,Reps.sub sub _ rr⟩
  ·rw[Cd hj]at h;obtain⟨w',q',rw'⟩:=x.good.sh j e h;exact⟨w',q',Rep.sub sub _ rw'⟩
 ·obtain⟨hj,h'⟩:=own j e h;obtain⟨b,ys,es,q',z,hb,hh',rr'⟩:=x.good.ow j e h';exact⟨b,ys,es,q',z,.inr ⟨j,e,h,q'⟩,hh',Reps.sub sub _ rr'⟩
end
section
variable{X:Cx}{CL:ClA}{W:XW}{pos:AO}{e:Am}{fe:Rho->R D}{fr:An}
theorem BV.exC{f:D->O}(x:Sx X.K CL Fz B ρ σ H)(h:BV X.K CL Fz B W (O.of ρ r f) D')(k:∀ d v H',r=.ok d->Az H H'->Dq X.K CL fr H A H' v d->Sx X.K CL Fz B ρ σ H'->BV X.K CL Fz B W (f d) D'->Q v H'):A4 (Dq X.K CL fr H A) W H r Q:=by
 cases r with
 |ok d=>exact fun v H' s r=>k d v H' rfl s r (x.grow s) h
 |exn y=>exact fun H' s=>h H' fun b o z=>s _ _ (x.same b o z)
 |bad=>exact h
def SAs(X:Cx)(CL:ClA)(W:XW)(fr:An)(i:Ag)(st:Bp)(f:Rho->R D):Prop:=∀ A,PS X st (Kk (fun σ H Q=>AOk H A/\∃ ρ,Good X.K CL A ρ σ H/\A4 (Dq X.K CL fr H A) W H (f ρ) Q) (DZ i))
theorem SC.sas{n:Ah}(hN:X.N.Nodup)(hi:X.N[i]?=Aa n)(hx:Loc X.env.scope n)(he:SC X CL W fr e fe)(hs:DA e (Aa (.Name n pos')) pos.line X.env=pure Ad)(hf:X.fn n=Ab\/X.env.scope.names.lookup n=Aa .local):SAs X CL W fr i (.Assign [.Name n pos'] e pos) fe:=
 fun A=>Yi hN hi hx (he A) hs hf
theorem UB{n:Ah}{fe:Rho->R D}{g:TG}(hc:X.calm=Ab)(B:BlockOk X scope N' ts)(hi:SI X CL W tg iter fi)(hGG:GG X.K CL ts as g)(hg:∀ cl C s H fp,PG (cxC X scope cl C N' s H fp) tg g)(ht:∀ cl C s H fp,STs (cxC X scope cl C N' s H fp) CL ifs fc)(he:∀ cl C s H fp,SE (cxC X scope cl C N' s H fp) CL W0 elt fe)(hs:∀ x,Cj iter X.env x=pure x)(hN:X.N.Nodup)(hni:X.N[i]?=Aa n)(hx:X.env.scope.names.lookup n=Aa .local)(hsw:DA (.ListComp elt [⟨tg,iter,ifs,0⟩] scope pos) (Aa (.Name n pos')) pos2.line X.env=pure Ab):SAs X CL W Ab i (.Assign [.Name n pos'] (.ListComp elt [⟨tg,iter,ifs,0⟩] scope pos) pos2) (fun ρ=>(fi ρ).bind fun xs=>(noX (Bg (fun x=>(as x ρ).bind fc) (fun x=>(as x ρ).bind fe) xs)).bind fun ys=>.ok (.lst ys)):=fun A pI s σ H Dn I ⟨hA,ρ,gd,p⟩=>
 VZ hc B (hi A) hg (fun cl C s H fp=>ht cl C s H fp A) (fun cl C s H fp=>he cl C s H fp A) hs hN hni hx hsw pI s σ H Dn I ⟨hA,ρ,gd,NE hGG hA gd p⟩
theorem Px{st:Bp}(h:SAs X CL W fr i st fe):SS X CL W st (fun ρ=>O.of ρ (fe ρ) fun d=>.next (ρ.set i (Aa (d,Ad)))):=fun Fz B pI s σ H D I ⟨ρ,x,p⟩=>
 h (BY B ρ σ) pI s σ H D I ⟨x.aok,ρ,x.good,BV.exC x p fun d v H' _ s r x' q=>q _ H' (x'.set i r.1)⟩
theorem Wh{st:Bp}(h:SAs X CL W Ab i st fe):SS X CL W st (fun ρ=>O.of ρ (fe ρ) fun d=>setF ρ i d):=fun Fz B pI s σ H D I ⟨ρ,x,p⟩=>
 h (BY B ρ σ) pI s σ H D I ⟨x.aok,ρ,x.good,BV.exC x p fun d v H' _ s r x' q=>by
  cases d with
  |lst ds=>
   obtain⟨a,xs,rfl,h0,h1,rs⟩:=r.2 rfl ds rfl;exact q _ H' (x.setF s h0 h1 rs)
  |dic ds=>exact r.1.elim
  | _=>exact q.elim⟩
theorem We(he:SC X CL W Ab e fe):SS X CL W (.Return (Aa e) pos) (fun ρ=>O.of ρ (fe ρ) fun d=>.ret d Ab):=fun Fz B pI s σ H D I ⟨ρ,x,p⟩=>
 Mc (he (BY B ρ σ)) pI s σ H D I ⟨x.aok,ρ,x.good,BV.exC x p fun d v H' _ s r x' q=>q v H' x'.same (Rep.sub (fun a h=>.inl h) _ r.1) fun _ ds e=>by
  obtain⟨a,xs,h0,h1,h2,h3⟩:=r.2 rfl ds e;refine⟨a,xs,h0,fun o z=>?_,h2,Reps.sub (fun b hb=>hb.imp .inl id) _ h3⟩
  have:=x.same a o z;rw[h1]at this;cases this⟩
noncomputable def MG(ρ:Rho)(i:Ag):An:=match ρ[i]? with
  |some (Aa (_,o))=>o
  |_=>Ad
theorem Wc(he:PE X e (Fd i)):SS X CL W (.Return (Aa e) pos) (fun ρ=>O.of ρ (Ee ρ i) fun d=>.ret d (MG ρ i)):=fun Fz B pI s σ H D I ⟨ρ,x,p⟩=>
 Mc he pI s σ H D I (by
  dsimp only at p;cases e:Ee ρ i with
  |bad=>rw[e]at p;exact p.elim
  |exn z=>exact(NW e).elim
  |ok d=>
   rw[e]at p;obtain⟨o,e⟩:=Og e;have eo:MG ρ i=o:=by unfold MG;rw[e]
   rw[O.of_ok,eo]at p;cases o with
   |false=>
    obtain⟨v,q,r⟩:=x.good.sh i d e;exact⟨v,q,p v H x.same (Rep.sub (fun a h=>.inl h) _ r) fun z=>nomatch z⟩
   |true=>
    obtain⟨a,xs,ds,q,rfl,ha,hh,r⟩:=x.good.ow i d e;obtain⟨n1,n2⟩:=x.new i _ a e q;refine⟨_,q,p _ H x.same ⟨a,xs,rfl,.inl n2,SqL.of hh,Reps.sub (fun a h=>.inl h) _ r⟩ fun _ ds' e'=>?_⟩
    cases e';exact⟨a,xs,rfl,n1,hh,Reps.sub (fun b hb=>hb.elim .inl fun z=>z ▸ ha) _ r⟩)
theorem Je{ds:Ac D}(h:Ca ρ i=.ok ds):ρ[i]?=Aa (Aa (.lst ds,Ab)):=by
 unfold Ca at h;split at h
 ·rename_i e;cases h;exact e
 ·cases h
theorem IZ(h:Ca ρ i=.exn x):A5:=by
 unfold Ca at h;split at h<;>cases h
variable{o:Am}{i:Ag}{apos cpos:AO}
theorem Xf(ho:PE X o (Fd i))(he:SE X CL W e fe)(hbase:Fu o "append" X.env (eval o X.env)=eval o X.env)(hfew:((Cp cpos (Ax [e] X.env)).all (fun x=>!x.1)&&(backToKw cpos (keywordEach [] X.env)).all (fun x=>x.1.isSome)&&decide ([e].length+([]:Ac FN).length+(if ([]:Ac FN).isEmpty then 0 else 1)<30))=Ab)(hline:(apos.endLine==cpos.line)=Ab)(hs:Ax [e] X.env=[(Ad,eval e X.env)])(hsw:DA (.Call (.Attribute o "append" apos) [e] [] cpos) Af pos.line X.env=pure Ad):
  SS X CL W (.Expr (.Call (.Attribute o "append" apos) [e] [] cpos) pos) (fun ρ=>O.of ρ (Ca ρ i) fun xs=>O.of ρ (fe ρ) fun d=>if Ct (xs.length+1)=Ab then .next (ρ.set i (Aa (.lst (xs++[d]),Ab))) else .bad):=fun Fz B pI s σ H D I ⟨ρ,x,p⟩=>by
 refine Lv (Mk Eh Sb Sd Nt ho (Ew (he (BY B ρ σ)) F4 hs) hbase hfew hline hs rfl) hsw pI s σ H D I ?_;dsimp only at p;cases e1:Ca ρ i with
 |bad=>rw[e1]at p;exact p.elim
 |exn z=>exact(IZ e1).elim
 |ok ds=>
  rw[e1,O.of_ok]at p;have hi:=Je e1;obtain⟨a,xs,ds',q,e2,ha,hh,r⟩:=x.good.ow i _ hi;cases e2;refine⟨_,q,.inl ⟨rfl,xs,SqL.of hh⟩,x.aok,ρ,x.good,BV.ex x p fun d v H' _ s rv x' q'=>?_⟩
  split at q'
  ·rename_i hz;refine⟨a,xs,v,rfl,rfl,s _ _ hh,?_,q' _ _ (x'.upd hi q ((r.same s).append ⟨rv,trivial⟩))⟩;have:=GI hz;rw[r.length];omega
  ·exact q'.elim
theorem Xe{k:Am}{fk:Rho->R Ov.D}{spos:AO}(ho:PE X o (Fd i))(hk:ST X CL W k fk)(he:SE X CL W e fe)(ha:∀ v,assign (.Subscript o k spos) X.env v=(do
      let ov <-holding [v] (eval o X.env)
      let iv <-holding [v,ov] (eval k X.env)
      FP spos
      holding [v,ov,iv] (Hi ov iv v)
      release [v,ov,iv] []))(hs:Et [.Subscript o k spos] e pos.line X.env=pure Ad)(hw:C3 [.Subscript o k spos] e X.env=pure Af)(h1:(BL [.Subscript o k spos] X.env).map (·.2)=[assign (.Subscript o k spos) X.env]):
    SS X CL W (.Assign [.Subscript o k spos] e pos) (fun ρ=>O.of ρ (fe ρ) fun d=>O.of ρ (Ca ρ i) fun xs=>O.of ρ ((fk ρ).bind Dp) fun j=>match plD xs.length j with
      |some n=>.next (ρ.set i (Aa (.lst (xs.set n d),Ab)))
      | none=>.bad):=fun Fz B pI s σ H D I ⟨ρ,x,p⟩=>
  Md (he (BY B ρ σ)) (Mf ho (hk (BY B ρ σ)) Ln ha) hs hw h1 pI s σ H D I ⟨x.aok,ρ,x.good,BV.ex x p fun d v H' _ s rv x' q'=>by
    cases e1:Ca ρ i with
    |bad=>rw[e1]at q';exact q'.elim
    |exn z=>exact(IZ e1).elim
    |ok ds=>
      rw[e1,O.of_ok]at q';have hi:=Je e1;obtain⟨a,xs,ds',q,e2,ha,hh,r⟩:=x'.good.ow i _ hi;cases e2;refine⟨_,q,x'.aok,ρ,x'.good,?_⟩;cases e3:fk ρ with
      |bad=>rw[e3]at q';exact q'.elim
      |exn z=>rw[e3]at q';exact fun H2 s2=>q' H2 fun b o z=>s2 _ _ (x'.same b o z)
      |ok dk=>
        rw[e3]at q';intro y H2 s2 ry;cases dk with
        |int j=>
          have ey:=ry.int_of;subst ey;rw[R.bind_ok,Nn,O.of_ok]at q';cases e4:plD ds.length j with
          |none=>rw[e4]at q';exact q'.elim
          |some n=>
            rw[e4]at q';refine⟨a,xs,j,n,rfl,rfl,s2 _ _ hh,?_,q' _ _ ((x'.grow s2).upd hi q (Reps.set (rv.same s2) n (r.same s2)))⟩;rw[r.length];exact e4
        | _=>exact q'.elim⟩
theorem Wg{as:Ov.D->Rho->R Rho}{g:TG}(hGT:GT X.K CL as g)(hg:PG X tg g)(he:SE X CL W e fe)(hs:Et [tg] e pos.line X.env=pure Ad)(hw:C3 [tg] e X.env=pure Af)(h1:(BL [tg] X.env).map (·.2)=[assign tg X.env])(hax:∀ d ρ x,as d ρ≠.exn x):SS X CL W (.Assign [tg] e pos) (fun ρ=>O.of ρ (fe ρ) fun d=>O.of ρ (as d ρ) fun ρ'=>.next ρ'):=fun Fz B pI s σ H D I ⟨ρ,x,p⟩=>
 Md (he (BY B ρ σ)) hg hs hw h1 pI s σ H D I ⟨x.aok,ρ,x.good,BV.ex x p fun d v H' _ s rv x' q'=>by
  cases ea:as d ρ with
  |bad=>rw[ea]at q';exact q'.elim
  |exn z=>exact absurd ea (hax _ _ z)
  |ok ρ2=>
   rw[ea,O.of_ok]at q';exact hGT Fz B ρ σ H' v d ρ2 _ x' rv ea fun σ' x3=>q' σ' H' x3⟩
theorem Wa{rest:Ac Bp}{f:Rho->O}(i:Ag)(h:SSs X CL W rest f):SSs X CL W rest (fun ρ=>(match ρ[i]? with
   |some (Aa (d,Ab))=>O.next (ρ.set i (Aa (d,Ad)))
   | _=>O.next ρ).seq f):=fun Fz B=>PSs.weak (h Fz B) fun D σ H ⟨ρ,x,p⟩=>by
 dsimp only at p;split at p
 ·rename_i d e;exact⟨_,x.rel e,p⟩
 ·exact⟨ρ,x,p⟩
end
section
variable{prog:AN}{w:AU}{A:A2}{E:Vq}{s:Ao}
theorem Ze{j t:Aj}{x:Ai}{Q:Vq}(st:s.heap.IsTupleIter j t k)(sq:s.heap.IsTuple t its)(at_:its[k]?=Aa x)(go:∀ h2,h2.IsTupleIter j t (k+1)->Eb j s.heap h2->Q x {s with heap:=h2}):AD (model prog w) A (Bl (.ref j)) Q E s:=by
 obtain⟨oj,gj,cj,dj⟩:=id st;obtain⟨ot,gt,_,nt,dt⟩:=sq;show AD _ _ (callSpecial? _ _ >>= _) _ _ _;refine Al (CH st.typeIs CZ (DK CZ st.typeIs R9 ?_ (R6 _)));show AD _ _ (field (.ref j) 0 >>= _) _ _ _;refine Al (BU gj dj (x:=.ref t) rfl ?_);show AD _ _ (field (.ref j) 1 >>= _) _ _ _;refine Al (BU gj dj (x:=.int k 0) rfl ?_);refine Al (CK gt dt ?_);simp only[Ei,at_];exact Al (Ta gj dj (by simp) (AE ⟨x,rfl,AE (go _ ⟨_,So _ gj (Obj.isFreed_of_fields (Sr dj _)),(Obj.cls_mapFields ..).trans cj,by rw[Sr dj];simp[Fn]⟩ (Si ..))⟩))
theorem Ui{j t:Aj}{Q:Vq}(calm:A.handled=Af)(st:s.heap.IsTupleIter j t k)(sq:s.heap.IsTuple t its)(at_:its[k]?=Af)(up:∀ h2 e,Gg j s.heap h2->(∃ o,h2.get? e=Aa o/\o.cls=.type "StopIteration")->E (.ref e) {s with heap:=h2}):AD (model prog w) A (Bl (.ref j)) Q E s:=by
 obtain⟨oj,gj,cj,dj⟩:=id st;obtain⟨ot,gt,_,nt,dt⟩:=sq;show AD _ _ (callSpecial? _ _ >>= _) _ _ _;refine Al (CH st.typeIs CZ (DK CZ st.typeIs R9 ?_ (R6 _)));show AD _ _ (field (.ref j) 0 >>= _) _ _ _;refine Al (BU gj dj (x:=.ref t) rfl ?_);show AD _ _ (field (.ref j) 1 >>= _) _ _ _;refine Al (BU gj dj (x:=.int k 0) rfl ?_);refine Al (CK gt dt ?_);simp only[Ei,at_];refine Al (HP (Al (Ta gj dj (by simp) ?_)))
 refine Al ?_;simp only[newExc,newTuple];refine Al (CF ?_ (by size_fits))
 refine Al (m:=SX _ _) (wpAny_of_eq (a:=.none) (by first|rfl|(simp only[SX];rfl)) (CF ?_ (by size_fits)))
 simp only[raiseNew];refine Al (wpAny_handled ?_)
 first|rw[show A.in1.handled=Af from calm]|rw[calm]
 exact Al (AE (wpAny_throw (up _ _ (((Si ..).extBut.push _).push _) ⟨_,AB _ rfl,rfl⟩)))
end
structure Dw (prog:AN) (w:AU) (A:A2) (j:Aj) (fp:Ac Aj) (n:Ag) (P:Ag->Ai->Prop) (S:Ag->AG->Prop):Prop where
 frame:∀ i h h2,S i h->(∀ c∈fp,∀ o,h.get? c=Aa o->h2.get? c=Aa o)->S i h2
 item:∀ i (s:Ao) (Q:Vq) (E:Vq),i<n->S i s.heap->(∀ x h2 tk,P i x->S (i+1) h2->Eb j s.heap h2->Q x {s with heap:=h2,toks:=tk})->AD (model prog w) A (Bl (.ref j)) Q E s
 done:∀ i (s:Ao) (Q:Vq) (E:Vq),n<=i->S i s.heap->(∀ h2 e,Gg j s.heap h2->(∃ o,h2.get? e=Aa o/\o.cls=.type "StopIteration")->E (.ref e) {s with heap:=h2})->AD (model prog w) A (Bl (.ref j)) Q E s
def DD(t:An)(h:AG)(j l:Aj)(i:Ag):Prop:=match t with
  |true=>h.IsTupleIter j l i
  |false=>h.IsListIter j l i
def Du(t:An)(h:AG)(l:Aj)(its:Be Ai):Prop:=match t with
  |true=>h.IsTuple l its
  |false=>h.IsList l its
theorem Iq{A:A2}(calm:A.handled=Af)(t:An)(j l:Aj)(ne:l≠j)(its:Be Ai):Dw prog w A j [j,l] its.size (fun i v=>its[i]?=Aa v) (fun i h=>DD t h j l i/\Du t h l its):=by
 cases t with
 |true=>exact⟨fun _ _ _ z k=>⟨z.1.at fun o e=>k j (by simp) o e,z.2.at fun o e=>k l (by simp) o e⟩,fun i s Q E hi z q=>Ze z.1 z.2 (x:=its[i]) (by simp[hi]) fun h2 z2 sb=>q _ h2 s.toks (by simp[hi]) ⟨z2,z.2.extBut sb.extBut ne⟩ sb,fun i s Q E hi z q=>Ui calm z.1 z.2 (by simp[hi]) q⟩
 |false=>exact⟨fun _ _ _ z k=>⟨z.1.at fun o e=>k j (by simp) o e,z.2.at fun o e=>k l (by simp) o e⟩,fun i s Q E hi z q=>wpAny_nextOf_list_item z.1 z.2 (x:=its[i]) (by simp[hi]) fun h2 z2 sb=>q _ h2 s.toks (by simp[hi]) ⟨z2,z.2.extBut sb.extBut ne⟩ sb,fun i s Q E hi z q=>wpAny_nextOf_list_end calm z.1 z.2 (by simp[hi]) q⟩
theorem nb1{I l c:Ag}(b:l<I)(h:c∈[I,l])(j:Ag):c≠I+(j+1):=by
 have h':c=I\/c=l:=by simpa using h
 omega
theorem nb2{I l c:Ag}(b:l<I)(h:c∈[I+1,l]):c≠I/\c≠I+3/\c≠I+4:=by
 have h':c=I+1\/c=l:=by simpa using h
 omega
theorem nij{I i j:Ag}(h:i≠j):I+i≠I+j:=by omega
theorem ni0{I i:Ag}(h:i≠0):I+i≠I:=by omega
section
variable{prog:AN}{w:AU}{A:A2}{E:Vq}{s:Ao}
theorem UU{I l1 l2 n1 n2 k:Ag}{P1 P2:Ag->Ai->Prop}{S1 S2:Ag->AG->Prop}{a b:Ai}{Q:Vq}(b1:l1<I)(b2:l2<I)(D1:Dw prog w A I [I,l1] n1 P1 S1)(D2:Dw prog w A (I+1) [I+1,l2] n2 P2 S2)(hz:ER s.heap (I+4) (I+2) (I+3) .none)(hI:DH s.heap (I+2) (.ref I) (.ref (I+1)))(hO:DH s.heap (I+3) a b)(g1:S1 k s.heap)(g2:S2 k s.heap)(k1:k<n1)(k2:k<n2)(go:∀ x y h2 tk,P1 k x->P2 k y->ER h2 (I+4) (I+2) (I+3) (Fn s.heap.objs.size)->DH h2 (I+3) x y->S1 (k+1) h2->S2 (k+1) h2->DH h2 s.heap.objs.size x y ->
   (∀ c o,c∉[I,I+1,I+3,I+4]->s.heap.get? c=Aa o->h2.get? c=Aa o)->Q (.ref s.heap.objs.size) {s with heap:=h2,toks:=tk}):AD (model prog w) A (Builtin.«zip.__next__» ⟨[.ref (I+4)],[]⟩) (fun fin s'=>∃ v,fin=.done (.ret v)/\Q v s') E s:=by
 refine Al (m:=field (.ref (I+4)) 2) (BU hz rfl (x:=.bool Ad) rfl ?_);refine Al (m:=field (.ref (I+4)) 3) (BU hz rfl (x:=.ref (I+2)) rfl (Al (CK hI rfl ?_)));refine Al (m:=Ci (.ref (I+4))) ?_;simp only[Ci];refine Al (BU hz rfl (x:=.none) rfl (AE ?_));rw[AC rfl];refine Al (HP (Al (BU hz rfl (x:=.ref (I+3)) rfl (Al (CQ hz (by simp) fun p1 z1 e1=>Al ?_)))))
 have z1':ER p1 (I+4) (I+2) (I+3) .ellipsis:=z1;simp only[RI,RJ,Ga,E2];refine Al (Al (Eu (Al (m:=Bl (.ref I)) (D1.item k _ _ _ k1 (D1.frame _ _ _ g1 fun c hc o q=>e1.extBut c o (nb1 b1 hc 3) q) fun x p2 t2 px s2 e2=>AE ?_))))
 have o2:DH p2 (I+3) a b:=e2.extBut _ _ (ni0 (by decide)) (e1.extBut _ _ (nij (by decide)) hO)
 refine Al (CK o2 rfl (Al (EW o2 fun p3 o3 e3=>Al (Hn (AE ?_)))))
 have o3':DH p3 (I+3) x b:=o3;have g2':S2 k p3:=D2.frame _ _ _ g2 fun c hc o q=>e3.extBut c o (nb2 b2 hc).2.1 (e2.extBut c o (nb2 b2 hc).1 (e1.extBut c o (nb2 b2 hc).2.2 q))
 refine Al (Al (Eu (Al (m:=Bl (.ref (I+1))) (D2.item k _ _ _ k2 g2' fun y p4 t4 py s4 e4=>AE ?_))))
 have o4:DH p4 (I+3) x b:=e4.extBut _ _ (nij (by decide)) o3'
 refine Al (CK o4 rfl (Al (EW o4 fun p5 o5 e5=>Al (Hn (AE (AE ?_))))))
 have o5':DH p5 (I+3) x y:=o5;have sz:p5.objs.size=s.heap.objs.size:=by rw[e5.1,e4.1,e3.1,e2.1,e1.1]
 have z5:ER p5 (I+4) (I+2) (I+3) .ellipsis:=e5.extBut _ _ (nij (by decide)) (e4.extBut _ _ (nij (by decide)) (e3.extBut _ _ (nij (by decide)) (e2.extBut _ _ (ni0 (by decide)) z1')))
 refine Al (CK o5' rfl (Al (wpAny_newTuple ?_)));refine Al (m:=RZ (.ref (I+4)) (.ref p5.objs.size)) ?_;simp only[RZ];have z6:ER (p5.push { cls:=.type "tuple", data:=.seq #[x,y] }) (I+4) (I+2) (I+3) .ellipsis:=Ar _ z5;refine Al (CQ z6 (by simp) fun p7 z7 e7=>?_)
 have z7':ER p7 (I+4) (I+2) (I+3) (Fn p5.objs.size):=z7;refine CQ z7' (by simp) fun p8 z8 e8=>AE ⟨_,rfl,?_⟩
 have z8':ER p8 (I+4) (I+2) (I+3) (Fn p5.objs.size):=z8;have lt5:I+4<p5.objs.size:=Ay z5;have up:∀ c o,c≠I+4->p5.get? c=Aa o->p8.get? c=Aa o:=fun c o nc q=>e8.extBut _ _ nc (e7.extBut _ _ nc (Ar _ q))
 have t8:DH p8 p5.objs.size x y:=e8.extBut _ _ (Ea lt5) (e7.extBut _ _ (Ea lt5) (AB _ rfl));have a1:S1 (k+1) p8:=D1.frame _ _ _ s2 fun c hc o q=>up c o (nb1 b1 hc 3) (e5.extBut c o (nb1 b1 hc 2) (e4.extBut c o (nb1 b1 hc 0) (e3.extBut c o (nb1 b1 hc 2) q)))
 have a2:S2 (k+1) p8:=D2.frame _ _ _ s4 fun c hc o q=>up c o (nb2 b2 hc).2.2 (e5.extBut c o (nb2 b2 hc).2.1 q)
 have kp:∀ c o,c∉[I,I+1,I+3,I+4]->s.heap.get? c=Aa o->p8.get? c=Aa o:=fun c o nc q=>by
  simp only[At,AQ,BN,CV]at nc;exact up c o nc.2.2.2 (e5.extBut c o nc.2.2.1 (e4.extBut c o nc.2.1 (e3.extBut c o nc.2.2.1 (e2.extBut c o nc.1 (e1.extBut c o nc.2.2.2 q)))))
 have q:=go x y p8 t4 px py (by rw[<-sz];exact z8') (up _ _ (nij (by decide)) o5') a1 a2 (by rw[<-sz];exact t8) kp
 rw[<-sz]at q;exact q
theorem Vg{I l1 l2 n1 n2 k:Ag}{P1 P2:Ag->Ai->Prop}{S1 S2:Ag->AG->Prop}{a b:Ai}{Q:Fin->Ao->Prop}(b1:l1<I)(b2:l2<I)(D1:Dw prog w A I [I,l1] n1 P1 S1)(D2:Dw prog w A (I+1) [I+1,l2] n2 P2 S2)(hz:ER s.heap (I+4) (I+2) (I+3) .none)(hI:DH s.heap (I+2) (.ref I) (.ref (I+1)))(hO:DH s.heap (I+3) a b)(g1:S1 k s.heap)(g2:S2 k s.heap)(hk:n1<=k\/(k<n1/\n2<=k))(up:∀ h2 e tk,(∀ c o,c∉[I,I+1,I+3,I+4]->s.heap.get? c=Aa o->h2.get? c=Aa o)->(∃ o,h2.get? e=Aa o/\o.cls=.type "StopIteration")->E (.ref e) {s with heap:=h2,toks:=tk}):AD (model prog w) A (Builtin.«zip.__next__» ⟨[.ref (I+4)],[]⟩) Q E s:=by
 refine Al (m:=field (.ref (I+4)) 2) (BU hz rfl (x:=.bool Ad) rfl ?_);refine Al (m:=field (.ref (I+4)) 3) (BU hz rfl (x:=.ref (I+2)) rfl (Al (CK hI rfl ?_)));refine Al (m:=Ci (.ref (I+4))) ?_;simp only[Ci];refine Al (BU hz rfl (x:=.none) rfl (AE ?_));rw[AC rfl];refine Al (HP (Al (BU hz rfl (x:=.ref (I+3)) rfl (Al (CQ hz (by simp) fun p1 z1 e1=>Al ?_)))))
 have z1':ER p1 (I+4) (I+2) (I+3) .ellipsis:=z1;simp only[RI,RJ,Ga,E2];have g1':S1 k p1:=D1.frame _ _ _ g1 fun c hc o q=>e1.extBut c o (nb1 b1 hc 3) q
 rcases hk with k1|⟨k1,k2⟩
 ·refine Al (Al (Eu (Al (m:=Bl (.ref I)) (D1.done _ _ _ _ k1 g1' fun p2 e e2 he=>?_))))
  obtain⟨oe,hoe,hce⟩:=he;have z2:ER p2 (I+4) (I+2) (I+3) .ellipsis:=e2 _ _ (ni0 (by decide)) z1'
  have ne:e≠I+4:=fun x=>by subst x;rw[z2]at hoe;cases hoe;simp at hce
  refine CQ z2 (by simp) fun p3 _ e3=>up p3 e s.toks (fun c o nc q=>?_) ⟨oe,e3.extBut _ _ ne hoe,hce⟩
  simp only[At,AQ,BN,CV]at nc;exact e3.extBut c o nc.2.2.2 (e2 c o nc.1 (e1.extBut c o nc.2.2.2 q))
 ·refine Al (Al (Eu (Al (m:=Bl (.ref I)) (D1.item k _ _ _ k1 g1' fun x p2 t2 px s2 e2=>AE ?_))))
  have o2:DH p2 (I+3) a b:=e2.extBut _ _ (ni0 (by decide)) (e1.extBut _ _ (nij (by decide)) hO)
  refine Al (CK o2 rfl (Al (EW o2 fun p3 o3 e3=>Al (Hn (AE ?_)))))
  have g2':S2 k p3:=D2.frame _ _ _ g2 fun c hc o q=>e3.extBut c o (nb2 b2 hc).2.1 (e2.extBut c o (nb2 b2 hc).1 (e1.extBut c o (nb2 b2 hc).2.2 q))
  refine Al (Al (Eu (Al (m:=Bl (.ref (I+1))) (D2.done _ _ _ _ k2 g2' fun p4 e e4 he=>?_))))
  obtain⟨oe,hoe,hce⟩:=he;have z4:ER p4 (I+4) (I+2) (I+3) .ellipsis:=e4 _ _ (nij (by decide)) (e3.extBut _ _ (nij (by decide)) (e2.extBut _ _ (ni0 (by decide)) z1'))
  have ne:e≠I+4:=fun x=>by subst x;rw[z4]at hoe;cases hoe;simp at hce
  refine CQ z4 (by simp) fun p5 _ e5=>up p5 e t2 (fun c o nc q=>?_) ⟨oe,e5.extBut _ _ ne hoe,hce⟩
  simp only[At,AQ,BN,CV]at nc;exact e5.extBut c o nc.2.2.2 (e4 c o nc.2.1 (e3.extBut c o nc.2.2.1 (e2.extBut c o nc.1 (e1.extBut c o nc.2.2.2 q))))
end
def SqX(t:An)(K:Fg)(H:Hp)(a:Aj)(xs:Ac V):Prop:=match t with
  |true=>SqT K H a xs
  |false=>SqL K H a xs
theorem GN(I:Inv X pI σ H s)(h:SqX t X.K H a xs):∃ its:Ac Ai,AW xs its/\Du t s.heap a its.toArray/\xs.length<=sizeLine:=by
 cases t with
 |true=>
  obtain⟨its,rv,p,z⟩:=I.tuple h;exact⟨its,rv,p,z⟩
 |false=>
  obtain⟨its,rv,p,z⟩:=I.list h;exact⟨its,rv,p.isList,z⟩
theorem KU(I:Inv X pI σ H s)(h:SqX t X.K H a xs)(h2:SqX t X.K H a ys):xs=ys:=by
 cases t with
 |true=>exact I.tuple_inj h h2
 |false=>exact I.list_inj h h2
noncomputable def Itz(K:Fg)(t1 t2:An)(a b:Aj):It:=
  ⟨fun i H=>∃ xs ys x y,SqX t1 K H a xs/\SqX t2 K H b ys/\xs[i]?=Aa x/\ys[i]?=Aa y,
   fun i H v H'=>∃ p x y,H p=Af/\v=.ref p/\(∀ xs,SqX t1 K H a xs->xs[i]?=Aa x)/\(∀ ys,SqX t2 K H b ys->ys[i]?=Aa y)/\H'=upd H p (.tup [x,y]),
   fun i H=>∃ xs ys,SqX t1 K H a xs/\SqX t2 K H b ys/\(xs.length<=i\/(i<xs.length/\ys.length<=i))⟩
theorem Inv.turnedL{t':Ag}(ch:Ac Aj)(I:Inv X pI σ H s)(k:∀ b o,b∉ch->s.heap.get? b=Aa o->h'.get? b=Aa o)(hf:∀ b∈ch,Fb X pI H b):Inv X pI σ H {s with heap:=h',toks:=t'}:=by
 have nit:∀ b u,H b=Aa u->b∉ch:=fun b u e z=>by rw[(hf b z).1]at e;cases e
 refine I.step (g':=s.gens) (d':=s.drawn) (ch:=ch) (fun b hb=>⟨(hf b hb).2.2.2.1,(hf b hb).2.1,(hf b hb).2.2.2.2.1,(hf b hb).2.2.2.2.2⟩) (fun b o _ _ hc e _=>k b o hc e) (fun b o _ _ hc e _=>⟨o.slots,k b o hc e⟩) (fun _ _ _ _ n=>n)
  (fun b o hc e=>⟨o,k b o hc e⟩) (fun _ _ e=>e) (fun _ _ _ e=>e) (fun b ps e=>⟨#[],by rw[e];simp⟩) (fun m ⟨o,es,ep,ho,r⟩=>⟨o,es,ep,k _ o (fun z=>(hf _ z).2.1 rfl) ho,r⟩) (fun b u e=>(I.hok b u e).stay (fun c v hc q=>k c v ?_ q) (fun _ q=>q) fun _ _ q=>q) I.bare
 rcases hc with z|z
 ·rw[z];exact nit b u e
 ·exact nit c _ z
def zTn(t1 t2:An)(I l1 l2:Ag)(i:Ag)(h:AG):Prop:=ER h (I+4) (I+2) (I+3) .none/\DH h (I+2) (.ref I) (.ref (I+1))/\(∃ a b,DH h (I+3) a b)/\DD t1 h I l1 i/\DD t2 h (I+1) l2 i
noncomputable def zFp(I:Ag):Ac Aj:=[I,I+1,I+2,I+3,I+4]
theorem DD.obj{j:Aj}(z:DD t h j l i):∃ o,h.get? j=Aa o/\∀ v,o.data≠.cell v:=by
 cases t with
 |true=>obtain⟨o,e,c,d⟩:=z;exact⟨o,e,fun v z=>by rw[d]at z;cases z⟩
 |false=>obtain⟨o,e,c,d⟩:=z;exact⟨o,e,fun v z=>by rw[d]at z;cases z⟩
theorem DD.at'{j:Aj}(z:DD t h j l i)(k:∀ o,h.get? j=Aa o->h2.get? j=Aa o):DD t h2 j l i:=by
 cases t with
 |true=>exact PySem.Heap.IsTupleIter.at z k
 |false=>exact PySem.Heap.IsListIter.at z k
theorem U0(t1 t2:An)(I l1 l2:Ag)(b1:l1<I)(b2:l2<I):Turn P w K (.Tuple es n pos) (Itz K t1 t2 l1 l2) (zFp I) (I+4) (zTn t1 t2 I l1 l2) where
  mem:=by simp[zFp]
  obj:=fun i h ⟨z1,z2,⟨a,b,z3⟩,z4,z5⟩ c hc=>by
    simp only[zFp,At,AQ,BN]at hc;rcases hc with rfl|rfl|rfl|rfl|rfl
    · exact z4.obj
    · exact z5.obj
    · exact⟨_,z2,fun v z=>by cases z⟩
    · exact⟨_,z3,fun v z=>by cases z⟩
    · exact⟨_,z1,fun v z=>by cases z⟩
  keep:=fun i h h2 ⟨z1,z2,⟨a,b,z3⟩,z4,z5⟩ k=>⟨k _ (by simp[zFp]) _ z1,k _ (by simp[zFp]) _ z2,⟨a,b,k _ (by simp[zFp]) _ z3⟩,z4.at' fun o e=>k _ (by simp[zFp]) o e,z5.at' fun o e=>k _ (by simp[zFp]) o e⟩
  item:=by
    intro X hP hw hK hc i pI s σ H E Iv hf ⟨z1,z2,⟨a,b,z3⟩,z4,z5⟩ ⟨xs,ys,x,y,q1,q2,hx,hy⟩;subst hP hw hK;obtain⟨us,rx,sx,_⟩:=GN Iv q1;obtain⟨vs,ry,sy,_⟩:=GN Iv q2;obtain⟨u,hu,ru⟩:=rx.get hx;obtain⟨v,hv,rv⟩:=ry.get hy;have hT:s.TypeIs (.ref (I+4)) "zip" := ⟨_,z1,rfl⟩;have calm:X.A.in1.handled=Af:=Iv.ok.hd hc;show AD _ _ (GA _) _ _ _;simp only[GA];refine Al (wpAny_attempt (CH hT EQ (DK EQ hT Sa (UU (k:=i) b1 b2 (Iq calm t1 I l1 (A1 b1) us.toArray) (Iq calm t2 (I+1) l2 (A1 (CD b2)) vs.toArray) z1 z2 z3 ⟨z4,sx⟩ ⟨z5,sy⟩
      (by have:=(AM.mp hu).1;simpa using this) (by have:=(AM.mp hv).1;simpa using this) fun x' y' h2 tk px py c1 c2 c3 c4 c5 kp=>AE ?_) (R7 _))))
    have ex:x'=u:=by
      have px':us[i]?=Aa x':=by simpa using px
      rw[hu]at px';exact(Bk px').symm
    have ey:y'=v:=by
      have py':vs[i]?=Aa y':=by simpa using py
      rw[hv]at py';exact(Bk py').symm
    subst ex ey;refine⟨_,rfl,wpAny_letOwnedTupleGo_zip c1 fun h3 d1 sb=>?_⟩
    have lt4:I+4<s.heap.objs.size:=Ay z1;have kp3:∀ c o,c∉zFp I->s.heap.get? c=Aa o->h3.get? c=Aa o:=fun c o nc q=>by
      simp only[zFp,At,AQ,BN,CV]at nc;exact sb.extBut c o nc.2.2.2.2 (kp c o (by simp only[At,AQ,BN,CV];exact⟨nc.1,nc.2.1,nc.2.2.2.1,nc.2.2.2.2⟩) q)
    have nT:∀ c∈zFp I,c≠s.heap.objs.size:=fun c hc z=>by
      have:c<=I+4:=by
        simp only[zFp,At,AQ,BN]at hc;rcases hc with z|z|z|z|z<;>rw[z]<;>simp
      exact absurd (z ▸ Fk this lt4) (Bc _)
    have I1:Inv X pI σ (upd H s.heap.objs.size (.tup [x,y])) { s with heap:=s.heap.push { cls:=.type "tuple", data:=.seq #[x',y'] },toks:=s.toks }:=
      Iv.laid (fun _ _ q=>Ar _ q) (AK _) ⟨(by decide:2<=sizeLine),[x',y'],.cons ru (.cons rv .nil),⟨_,AB _ rfl,rfl,_,rfl⟩⟩
    have hf':∀ b∈zFp I,Fb X pI (upd H s.heap.objs.size (.tup [x,y])) b:=fun b hb=>⟨by rw[B9 (nT b hb)];exact(hf b hb).1,(hf b hb).2⟩
    have I2:Inv X pI σ (upd H s.heap.objs.size (.tup [x,y])) {s with heap:=h3,toks:=tk}:=Inv.turnedL (s:={ s with heap:=s.heap.push { cls:=.type "tuple", data:=.seq #[x',y'] },toks:=s.toks }) (zFp I) I1 (fun c o nc q=>by
      rcases Sk q with ⟨e1,e2⟩|e1
      · subst e1 e2;exact sb.extBut _ _ (Ea lt4) c5
      · exact kp3 c o nc e1) hf'
    refine⟨.ref s.heap.objs.size,_,I2,rfl,⟨s.heap.objs.size,x,y,Iv.fresh,rfl,fun zs hz=>by rw[KU Iv hz q1];exact hx,fun zs hz=>by rw[KU Iv hz q2];exact hy,rfl⟩,⟨d1,sb.extBut _ _ (nij (by decide)) (kp _ _ (by simp) z2),⟨_,_,sb.extBut _ _ (nij (by decide)) c2⟩,c3.1.at' fun o q=>sb.extBut _ o (E3 (ni0 (by decide))) q,c4.1.at' fun o q=>sb.extBut _ o (nij (by decide)) q⟩,fun b hb=>(hf' b hb).1⟩
  done:=by
    intro X hP hw hK hc i pI s σ H E Iv hf ⟨z1,z2,⟨a,b,z3⟩,z4,z5⟩ ⟨xs,ys,q1,q2,hk⟩;subst hP hw hK;obtain⟨us,rx,sx,_⟩:=GN Iv q1;obtain⟨vs,ry,sy,_⟩:=GN Iv q2;have hT:s.TypeIs (.ref (I+4)) "zip" := ⟨_,z1,rfl⟩;have calm:X.A.in1.handled=Af:=Iv.ok.hd hc;have e1:=rx.length;have e2:=ry.length;simp only[GA];refine Al (wpAny_attempt (CH hT EQ (DK EQ hT Sa (Vg (k:=i) b1 b2 (Iq calm t1 I l1 (A1 b1) us.toArray) (Iq calm t2 (I+1) l2 (A1 (CD b2)) vs.toArray) z1 z2 z3 ⟨z4,sx⟩ ⟨z5,sy⟩
      (by simp only[Au];omega) fun h2 e tk kp he=>?_) (R7 _))))
    obtain⟨o,ho,hcl⟩:=he;refine Al (wpAny_isInstance (T := "StopIteration") (b:=Ab) ⟨o,ho,hcl⟩ isSubtype_stop (AE ⟨rfl,Inv.turnedL [I,I+1,I+3,I+4] Iv (fun c o nc q=>kp c o nc q) fun c hc=>hf c ?_⟩))
    simp only[At,AQ,BN]at hc;simp only[zFp,At,AQ,BN];rcases hc with rfl|rfl|rfl|rfl<;>simp
  self:=fun _ _ _ _ _ st h=>S7 st.1 h
section
variable{prog:AN}{w:AU}{A:A2}{E:Vq}{s:Ao}
noncomputable def itO(t:An)(l:Aj):Dk:=match t with
  |true=>{ cls:=.type "tuple_iterator", data:=.fields #[.ref l,.int 0 0] }
  |false=>{ cls:=.type "list_iterator", data:=.fields #[.ref l,.int 0 0] }
theorem Js{Q:Vq}(h:Du t s.heap l its)(q:Q (.ref s.heap.objs.size) {s with heap:=s.heap.push (itO t l)}):AD (model prog w) A (IP (.ref l)) Q E s:=by
 cases t with
 |true=>exact Ec h q
 |false=>exact C5 h q
theorem Du.push(z:Du t h l its)(o:Dk):Du t (h.push o) l its:=by
 cases t with
 |true=>exact PySem.Heap.IsTuple.at z fun _ e=>Ar _ e
 |false=>exact PySem.Heap.IsList.at z fun _ e=>Ar _ e
theorem Mh{j:Aj}(e:h.get? j=Aa (itO t l)):DD t h j l 0:=by
 cases t with
 |true=>exact⟨_,e,rfl,rfl⟩
 |false=>exact⟨_,e,rfl,rfl⟩
theorem Lp(t:An)(l:Aj):(itO t l).isFreed=Ad:=by cases t<;>rfl
noncomputable abbrev zh2(t1 t2:An)(h:AG)(l1 l2:Aj):AG:=(h.push (itO t1 l1)).push (itO t2 l2)
noncomputable abbrev zh3(t1 t2:An)(h:AG)(l1 l2:Aj):AG:=(zh2 t1 t2 h l1 l2).push { cls:=.type "tuple", data:=.seq #[.ref h.objs.size,.ref (h.push (itO t1 l1)).objs.size] }
noncomputable abbrev zh4(t1 t2:An)(h:AG)(l1 l2:Aj):AG:=(zh3 t1 t2 h l1 l2).push { cls:=.type "tuple", data:=.seq #[.none,.none] }
noncomputable abbrev zh5(t1 t2:An)(h:AG)(l1 l2:Aj):AG:=(zh4 t1 t2 h l1 l2).push { cls:=.type "zip", data:=.fields #[.none,.bool Ad,.bool Ad,.ref (zh2 t1 t2 h l1 l2).objs.size,.ref (zh3 t1 t2 h l1 l2).objs.size] }
theorem Vf(t1 t2:An)(l1 l2:Aj)(xs ys:Be Ai):Meets (Builtin.«zip.__new__» ⟨[.type "zip", .ref l1,.ref l2],[]⟩) (fun _ R s=>Du t1 s.heap l1 xs/\Du t2 s.heap l2 ys/\R (.ok (.ret (.ref (zh4 t1 t2 s.heap l1 l2).objs.size))) {s with heap:=zh5 t1 t2 s.heap l1 l2}):=
 .of_wp fun prog w A R s h=>by
  obtain⟨hp,g,d,tk,os⟩:=s;obtain⟨a1,a2,q⟩:=h;have hsub:=sub_zip;have L1:Du t1 (Hl ⟨hp,g,d,tk,os⟩) l1 xs:=a1;have L2:Du t2 (Hl ⟨hp.push (itO t1 l1),g,d,tk,os⟩) l2 ys:=a2.push _
  wp_walk using Js L1,Js L2
  exact⟨_,rfl,q⟩
theorem UV{t1 t2:An}{l1 l2:Aj}{xs ys:Be Ai}{Q:Vq}(a1:Du t1 s.heap l1 xs)(a2:Du t2 s.heap l2 ys)(q:∀ h2,zTn t1 t2 s.heap.objs.size l1 l2 0 h2->(∀ c o,s.heap.get? c=Aa o->h2.get? c=Aa o)->Q (.ref (s.heap.objs.size+4)) {s with heap:=h2}):AD (model prog w) A (call (.type "zip") [.ref l1,.ref l2]) Q E s:=by
 refine callType_new F.called_zip (by decide) (F.typeCall_zip_2 _ _) (F.newCall_zip_2 _ _) (fun obj=>F.args_object_init_3 obj _ _) F.entry_zip_new (Vf t1 t2 l1 l2 xs ys) ⟨a1,a2,?_⟩
 have s1:(s.heap.push (itO t1 l1)).objs.size=s.heap.objs.size+1:=By ..;have s2:(zh2 t1 t2 s.heap l1 l2).objs.size=s.heap.objs.size+2:=by rw[By,s1]
 have s3:(zh3 t1 t2 s.heap l1 l2).objs.size=s.heap.objs.size+3:=by rw[By,s2]
 have s4:(zh4 t1 t2 s.heap l1 l2).objs.size=s.heap.objs.size+4:=by rw[By,s3]
 have u5:∀ {c o},(zh4 t1 t2 s.heap l1 l2).get? c=Aa o->(zh5 t1 t2 s.heap l1 l2).get? c=Aa o:=fun e=>Ar _ e
 have u4:∀ {c o},(zh3 t1 t2 s.heap l1 l2).get? c=Aa o->(zh5 t1 t2 s.heap l1 l2).get? c=Aa o:=fun e=>u5 (Ar _ e)
 have u3:∀ {c o},(zh2 t1 t2 s.heap l1 l2).get? c=Aa o->(zh5 t1 t2 s.heap l1 l2).get? c=Aa o:=fun e=>u4 (Ar _ e)
 have u2:∀ {c o},(s.heap.push (itO t1 l1)).get? c=Aa o->(zh5 t1 t2 s.heap l1 l2).get? c=Aa o:=fun e=>u3 (Ar _ e)
 have g5:(zh5 t1 t2 s.heap l1 l2).get? (zh4 t1 t2 s.heap l1 l2).objs.size=Aa _:=AB _ rfl;have g4:(zh5 t1 t2 s.heap l1 l2).get? (zh3 t1 t2 s.heap l1 l2).objs.size=Aa _:=u5 (AB _ rfl);have g3:(zh5 t1 t2 s.heap l1 l2).get? (zh2 t1 t2 s.heap l1 l2).objs.size=Aa _:=u4 (AB _ rfl);have g2:(zh5 t1 t2 s.heap l1 l2).get? (s.heap.push (itO t1 l1)).objs.size=Aa _:=u3 (AB _ (Lp _ _));have g1:(zh5 t1 t2 s.heap l1 l2).get? s.heap.objs.size=Aa _:=u2 (AB _ (Lp _ _));show _/\_;rw[s2,s3,s4]at g5;rw[s3]at g4;rw[s1,s2]at g3;rw[s1]at g2;rw[s4];exact⟨⟨_,g5,rfl⟩,q _ ⟨g5,g3,⟨_,_,g4⟩,Mh g1,Mh g2⟩ fun c o e=>u2 (Ar _ e)⟩
end
def fJ(K:Fg)(ta:TA):TI:=fun σ H R=>ta σ H fun vs H1=>∃ t1 t2 a b xs ys,vs=[.ref a,.ref b]/\SqX t1 K H1 a xs/\SqX t2 K H1 b ys/\(xs.length<=sizeLine->R (Itz K t1 t2 a b) H1)
theorem Du.lt(z:Du t h a its):a<h.objs.size:=by
 cases t with
 |true=>obtain⟨o,e,_⟩:=z;exact Ay e
 |false=>obtain⟨o,e,_⟩:=z;exact Ay e
theorem XM{a b:Am}(hg:Gl X "zip")(hm:X.mg "zip" = Af)(ha:PA X [a,b] ta)(hs:Ax [a,b] X.env=[(Ad,eval a X.env),(Ad,eval b X.env)])(hs2:Ax [b] X.env=[(Ad,eval b X.env)]):
  PI X (.Tuple es n tpos) (.Call (.Name "zip" p) [a,b] [] pos) (fJ X.K ta):=by
 intro pI s σ H R I h;refine HB (GL I hg hm PyProof.Rows.boot_zip (BD (thn (ha pos pI s σ H _ I h) fun us s1 ⟨vs,H1,I1,r1,q1⟩=>?_) (by rw[hs,hs2]) (by rw[hs2];rfl)))
 obtain⟨t1,t2,c,d,xs,ys,e,sx,sy,q⟩:=q1;subst e;cases r1 with
 |cons r rr=>
  cases rr with
  |cons r' rr=>
   cases rr;cases r;cases r';obtain⟨us,ru,iu,zu⟩:=GN I1 sx;obtain⟨vs,rv,iv,_⟩:=GN I1 sy;refine UV iu iv fun h2 z kp=>S7 z.1 ?_
   refine⟨s1.heap.objs.size+4,zFp s1.heap.objs.size,_,_,H1,rfl,I1.kept (t':=s1.toks) kp,U0 t1 t2 s1.heap.objs.size c d iu.lt iv.lt,z,fun b hb=>?_,q zu⟩
   have hb':s1.heap.objs.size<=b:=by
    simp only[zFp,At,AQ,BN]at hb;rcases hb with z|z|z|z|z<;>rw[z]<;>simp
   exact I1.fpOk hb' (I1.hok.fresh hb')
theorem Mm{ds:Ac D}(r:Rep K CL H A v d)(e:B5 d=.ok ds):∃ t a xs,v=.ref a/\(∀ H2,Kp A H H2->SqX t K H2 a xs)/\Reps K CL H A xs ds:=by
 cases d with
 |lst es=>
  cases e;obtain⟨q,xs,rfl,na,sq,r⟩:=r;exact⟨Ad,q,xs,rfl,fun H2 k=>J9 k na sq,r⟩
 |tup es=>
  cases e;obtain⟨q,xs,rfl,na,sq,r⟩:=r;exact⟨Ab,q,xs,rfl,fun H2 k=>J8 k na sq,r⟩
 |_=>cases e
theorem K5:∀(xs ys:Ac D),(CT xs ys).length=min xs.length ys.length
 |[],_=>by simp[CT]
 |_::_,[]=>by simp[CT]
 |x::xs,y::ys=>by
  rw[CT,Br,K5 xs ys];simp only[Br];omega
theorem Od:∀(xs ys:Ac D)(i:Ag)(d:D),(CT xs ys)[i]?=Aa d->∃ x y,xs[i]?=Aa x/\ys[i]?=Aa y/\d=.tup [x,y]
 |[],_,i,d,h=>by simp[CT]at h
 |_::_,[],i,d,h=>by simp[CT]at h
 |x::xs,y::ys,0,d,h=>by
  rw[CT]at h;simp only[Rs,BP]at h;exact⟨x,y,rfl,rfl,h.symm⟩
 |x::xs,y::ys,i+1,d,h=>by
  rw[CT]at h;simp only[Rr]at h ⊢;exact Od xs ys i d h
theorem UW{t1 t2:An}{ds es:Ac D}(s1:∀ H2,Kp A H1 H2->SqX t1 K H2 a xs)(s2:∀ H2,Kp A H1 H2->SqX t2 K H2 b ys)(r1:Reps K CL H1 A xs ds)(r2:Reps K CL H1 A ys es) :GR K CL A (CT ds es) (Itz K t1 t2 a b) H1:=fun H k i=>by
 refine⟨fun hi=>⟨xs,ys,s1 H k,s2 H k,?_⟩,fun d hd=>?_⟩
 ·rw[K5]at hi;rw[r1.length,r2.length];omega
 ·obtain⟨x,y,hx,hy,rfl⟩:=Od _ _ _ _ hd;obtain⟨u,hu,ru⟩:=r1.get hx;obtain⟨v,hv,rv⟩:=r2.get hy;refine⟨⟨xs,ys,u,v,s1 H k,s2 H k,hu,hv⟩,?_⟩;rintro w' H' ⟨p,x',y',hp,rfl,c1,c2,rfl⟩;have ex:x'=u:=Bk ((c1 xs (s1 H k)).symm.trans hu);have ey:y'=v:=Bk ((c2 ys (s2 H k)).symm.trans hv);subst ex ey;have sm:=Ek hp (.tup [x',y']);exact⟨sm,fun B hB aB=>Ic aB hp ⟨IV ru k hB,IV rv k hB,trivial⟩⟩
section
variable{X:Cx}{CL:ClA}{W:XW}{pos p:AO}{a b:Am}{fa fb:Rho->R D}
theorem Yl(ha:SE X CL W a fa)(hb:SE X CL W b fb)(hg:Gl X "zip")(hm:X.mg "zip" = Af)(hs:Ax [a,b] X.env=[(Ad,eval a X.env),(Ad,eval b X.env)])(hs2:Ax [b] X.env=[(Ad,eval b X.env)]):
  SI X CL W (.Tuple es n tpos) (.Call (.Name "zip" p) [a,b] [] pos) (fun ρ=>(fa ρ).bind fun x=>(fb ρ).bind fun y=>(B5 x).bind fun xs=>(B5 y).bind fun ys=>.ok (CT xs ys)):=
 fun A=>PI.weak (XM hg hm (Ew (ha A) (Ew (hb A) F4 hs2) (by rw[hs,hs2])) hs hs2) fun σ H R ⟨hA,ρ,g,q⟩=>⟨hA,ρ,g,DN.ex q fun d v H1 _ s1 r1 p1=>⟨hA.same s1,ρ,g.same s1,DN.ex p1 fun d2 v2 H2 _ s2 r2 p2=>by
  cases e1:B5 d with
  |bad=>rw[e1]at p2;exact p2.elim
  |exn z=>exact absurd e1 (by cases d<;>simp[B5])
  |ok ds=>
   cases e2:B5 d2 with
   |bad=>rw[e1,e2]at p2;exact p2.elim
   |exn z=>exact absurd e2 (by cases d2<;>simp[B5])
   |ok es=>
    rw[e1,e2]at p2;obtain⟨t1,c1,xs,rfl,k1,rs1⟩:=Mm (r1.same s2) e1;obtain⟨t2,c2,ys,rfl,k2,rs2⟩:=Mm r2 e2;refine⟨t1,t2,c1,c2,xs,ys,rfl,k1 H2 (Kp.of (Az.refl H2)),k2 H2 (Kp.of (Az.refl H2)),fun hz=>p2 _ H2 (Az.refl H2) (UW k1 k2 rs1 rs2) ?_⟩
    rw[K5,<-rs1.length];omega⟩⟩
end
theorem DD.live{l:Ag}(z:DD t h j l i):∃ o,h.get? j=Aa o/\∀ v,o.data≠.cell v:=by
 cases t with
 |true=>obtain⟨o,e,c,d⟩:=z;exact⟨o,e,fun v z=>by rw[d]at z;cases z⟩
 |false=>obtain⟨o,e,c,d⟩:=z;exact⟨o,e,fun v z=>by rw[d]at z;cases z⟩
theorem DD.keep{l:Ag}(z:DD t h j l i)(k:∀ o,h.get? j=Aa o->h2.get? j=Aa o):DD t h2 j l i:=by
 cases t with
 |true=>exact PySem.Heap.IsTupleIter.at z k
 |false=>exact PySem.Heap.IsListIter.at z k
theorem Zv{A:A2}(calm:A.handled=Af)(t:An)(j l:Aj)(ne:l≠j)(its:Be Ai):Draws prog w A j [j,l] its.size (fun i v=>its[i]?=Aa v) (fun i h=>DD t h j l i/\Du t h l its):=
 have d:=Iq (prog:=prog) (w:=w) calm t j l ne its
 ⟨fun i h z=>let ⟨o,e,_⟩:=z.1.live;⟨o,e⟩,d.frame,d.item,fun s Q E h q=>d.done _ s Q E (AK _) h q⟩
theorem Wy{A:A2}(calm:A.handled=Af)(t:An)(j l:Aj)(ne:l≠j)(its:Be Ai)(i:Ag)(hi:its.size<=i):Draws prog w A j [j,l] i (fun _ _=>A5) (fun k h=>k=i/\DD t h j l i/\Du t h l its):=
 have d:=Iq (prog:=prog) (w:=w) calm t j l ne its
 ⟨fun _ h z=>let ⟨o,e,_⟩:=z.2.1.live;⟨o,e⟩,fun k h h' z q=>⟨z.1,d.frame i h h' z.2 q⟩,fun k s Q E lt z=>absurd z.1 (A1 lt),fun s Q E h q=>d.done i s Q E hi h.2 q⟩
noncomputable def Ite(K:Fg)(t:An)(a:Aj):It:=
 ⟨fun i H=>∃ xs x,SqX t K H a xs/\xs[i]?=Aa x,fun i H v H'=>∃ p x,H p=Af/\v=.ref p/\(∀ xs,SqX t K H a xs->xs[i]?=Aa x)/\H'=upd H p (.tup [.int i,x]),fun i H=>∃ xs,SqX t K H a xs/\xs.length<=i⟩
def eTn(t:An)(I l:Ag)(i:Ag)(h:AG):Prop:=(∃ old,IsEnum h (I+1) I i old)/\DD t h I l i
theorem TB(t:An)(I l:Ag)(b:l<I):Turn P w K (.Tuple es n pos) (Ite K t l) [I,I+1] (I+1) (eTn t I l) where
  mem:=by simp
  obj:=fun i h ⟨⟨old,z1⟩,z2⟩ c hc=>by
    simp only[At,AQ,BN]at hc;rcases hc with rfl|rfl
    · exact z2.live
    · exact⟨_,z1,fun v z=>by cases z⟩
  keep:=fun i h h2 ⟨⟨old,z1⟩,z2⟩ k=>⟨⟨old,k _ (by simp) _ z1⟩,z2.keep fun o e=>k _ (by simp) o e⟩
  item:=by
    intro X hP hw hK hc i pI s σ H E Iv hf ⟨⟨old,z1⟩,z2⟩ ⟨xs,x,q1,hx⟩;subst hP hw hK;obtain⟨us,rx,px,_⟩:=GN Iv q1;obtain⟨u,hu,ru⟩:=rx.get hx;have lu:i<us.toArray.size:=by
      have:=(AM.mp hu).1;simpa using this
    refine wpAny_pyNext_enum_itemD (Zv (A:=X.A.in1) (Iv.ok.hd hc) t I l (A1 b) us.toArray) z1 ⟨z2,px⟩ lu (ni0 (by decide)) (by simp only[At,AQ,BN,CV];exact⟨ni0 (by decide),Ea (AF b (Nat.le_add_right _ _))⟩) fun u' h2 tk hu' ho it2 hT sz kp=>⟨_,rfl,wpAny_letOwnedTupleGo_enum ho fun h3 d1 sb=>?_⟩
    have eu:u'=u:=by
      rw[Ru,hu]at hu';exact(Bk hu').symm
    subst eu;have lt:I+1<s.heap.objs.size:=Ay z1;have kp3:∀ c o,c∉[I,I+1]->s.heap.get? c=Aa o->h3.get? c=Aa o:=fun c o nc q=>by
      simp only[At,AQ,BN,CV]at nc;exact sb.extBut c o nc.2 (kp c o nc.2 nc.1 q)
    have nT:∀ c∈[I,I+1],c≠s.heap.objs.size:=fun c hc z=>by
      have:c<=I+1:=by
        simp only[At,AQ,BN]at hc;rcases hc with z|z<;>rw[z]<;>simp
      exact absurd (z ▸ Fk this lt) (Bc _)
    have I1:Inv X pI σ (upd H s.heap.objs.size (.tup [.int i,x])) { s with heap:=s.heap.push { cls:=.type "tuple", data:=.seq #[.int i tk,u'] },toks:=s.toks }:=
      Iv.laid (fun _ _ q=>Ar _ q) (AK _) ⟨(by decide:2<=sizeLine),[.int i tk,u'],.cons ⟨_,rfl⟩ (.cons ru .nil),⟨_,AB _ rfl,rfl,_,rfl⟩⟩
    have hf':∀ b∈[I,I+1],Fb X pI (upd H s.heap.objs.size (.tup [.int i,x])) b:=fun b hb=>⟨by rw[B9 (nT b hb)];exact(hf b hb).1,(hf b hb).2⟩
    have I2:Inv X pI σ (upd H s.heap.objs.size (.tup [.int i,x])) {s with heap:=h3,toks:=tk+1}:=Inv.turnedL (s:={ s with heap:=s.heap.push { cls:=.type "tuple", data:=.seq #[.int i tk,u'] },toks:=s.toks }) [I,I+1] I1 (fun c o nc q=>by
      rcases Sk q with ⟨e1,e2⟩|e1
      · subst e1 e2;exact sb.extBut _ _ (Ea lt) hT
      · exact kp3 c o nc e1) hf'
    exact⟨.ref s.heap.objs.size,_,I2,rfl,⟨s.heap.objs.size,x,Iv.fresh,rfl,fun zs hz=>by rw[KU Iv hz q1];exact hx,rfl⟩,⟨⟨u',by simpa using d1⟩,it2.1.keep fun o q=>sb.extBut _ o (E3 (ni0 (by decide))) q⟩,fun b hb=>(hf' b hb).1⟩
  done:=by
    intro X hP hw hK hc i pI s σ H E Iv hf ⟨⟨old,z1⟩,z2⟩ ⟨xs,q1,hk⟩;subst hP hw hK;obtain⟨us,rx,px,_⟩:=GN Iv q1;have e1:=rx.length;have e2:us.toArray.size<=i:=by rw[Au,<-e1];exact hk
    refine wpAny_pyNext_enum_endD (Wy (A:=X.A.in1) (Iv.ok.hd hc) t I l (A1 b) us.toArray i e2) z1 ⟨rfl,z2,px⟩ fun h2 eb=>⟨rfl,Inv.turnedL [I] Iv (t':=s.toks) (fun c o nc q=>eb c o (fun z=>nc (by simp[z])) q) fun c hc=>hf c ?_⟩
    have:c=I:=by simpa using hc
    subst this;simp
  self:=fun _ _ _ _ _ st h=>S6 st.1.choose_spec h
section
variable{prog:AN}{w:AU}{A:A2}{E:Vq}{s:Ao}
theorem Vm(t:An)(l:Aj)(xs:Be Ai):Meets (Builtin.«enumerate.__new__» ⟨[.type "enumerate", .ref l],[]⟩) (fun _ R s=>Du t s.heap l xs /\
   R (.ok (.ret (.ref (s.heap.push (itO t l)).objs.size))) { s with heap:=(s.heap.push (itO t l)).push { cls:=.type "enumerate", data:=.fields #[.none,.bool Ad,.ref s.heap.objs.size,Fn 0,.none,.none] } }):=
 .of_wp fun prog w A R s h=>by
  obtain⟨hp,g,d,tk,os⟩:=s;obtain⟨hl,h⟩:=h;have hsub:=sub_enumerate;have hL:Du t (Hl ⟨hp,g,d,tk,os⟩) l xs:=hl
  wp_walk
  refine wpAny_stack_any fun st=>AE ?_
  split
  ·rename_i c _ _ _ _ _;cases (c==SG "enumerate")
   ·wp_walk using Js hL
    exact⟨_,rfl,h⟩
   ·wp_walk using Js hL
    exact⟨_,rfl,h⟩
  ·wp_walk using Js hL
   exact⟨_,rfl,h⟩
theorem Ua{xs:Be Ai}{Q:Vq}(hL:Du t s.heap l xs)(h:∀ h',IsEnum h' (s.heap.objs.size+1) s.heap.objs.size 0 .none->DD t h' s.heap.objs.size l 0->(∀ b o,s.heap.get? b=Aa o->h'.get? b=Aa o)->Q (.ref (s.heap.objs.size+1)) {s with heap:=h'}):
    AD (model prog w) A (call (.type "enumerate") [.ref l]) Q E s:=by
  refine callType_new F.called_enumerate (by decide) (F.typeCall_enumerate_1 _) (F.newCall_enumerate_1 _) (fun obj=>F.args_object_init_2 obj _) F.entry_enumerate_new (Vm t l xs) ⟨hL,?_⟩
  have hz:(s.heap.push (itO t l)).objs.size=s.heap.objs.size+1:=By ..;show _/\_;rw[hz];have he:IsEnum ((s.heap.push (itO t l)).push { cls:=.type "enumerate", data:=.fields #[.none,.bool Ad,.ref s.heap.objs.size,Fn 0,.none,.none] }) (s.heap.objs.size+1) s.heap.objs.size 0 .none:=by
    have:=AB (s.heap.push (itO t l)) (o:={ cls:=.type "enumerate", data:=.fields #[.none,.bool Ad,.ref s.heap.objs.size,Fn 0,.none,.none] }) rfl;rw[hz]at this;exact this
  exact⟨⟨_,he,rfl⟩,h _ he (Mh (Ar _ (AB _ (Lp _ _)))) fun b o x=>Ar _ (Ar _ x)⟩
end
def eQ(K:Fg)(ta:TA):TI:=fun σ H R=>ta σ H fun vs H1=>∃ t a xs,vs=[.ref a]/\SqX t K H1 a xs/\(xs.length<=sizeLine->R (Ite K t a) H1)
theorem V3{a:Am}(hg:Gl X "enumerate")(hm:X.mg "enumerate" = Af)(ha:PA X [a] ta)(hs:Ax [a] X.env=[(Ad,eval a X.env)]):
  PI X (.Tuple es n tpos) (.Call (.Name "enumerate" p) [a] [] pos) (eQ X.K ta):=by
 intro pI s σ H R I h;refine HB (GL I hg hm PyProof.Rows.boot_enumerate (BD (thn (ha pos pI s σ H _ I h) fun us s1 ⟨vs,H1,I1,r1,q1⟩=>?_) hs rfl))
 obtain⟨t,c,xs,e,sx,q⟩:=q1;subst e;cases r1 with
 |cons r rr=>
  cases rr;cases r;obtain⟨us,ru,pu,zu⟩:=GN I1 sx;refine Ua pu fun h2 z1 z2 kp=>S6 z1 ?_
  refine⟨s1.heap.objs.size+1,[s1.heap.objs.size,s1.heap.objs.size+1],_,_,H1,rfl,I1.kept (t':=s1.toks) kp,TB t s1.heap.objs.size c pu.lt,⟨⟨_,z1⟩,z2⟩,fun b hb=>?_,q zu⟩
  have hb':s1.heap.objs.size<=b:=by
   simp only[At,AQ,BN]at hb;rcases hb with z|z<;>rw[z]<;>simp
  exact I1.fpOk hb' (I1.hok.fresh hb')
theorem Ls:∀(j:Ae)(xs:Ac D),(FC j xs).length=xs.length
 |_,[]=>rfl
 |j,x::xs=>by rw[FC,Br,Ls,Br]
theorem NS:∀(xs:Ac D)(j:Ae)(i:Ag)(d:D),(FC j xs)[i]?=Aa d->∃ x,xs[i]?=Aa x/\d=.tup [.int (j+i),x]
 |[],j,i,d,h=>by simp[FC]at h
 |x::xs,j,0,d,h=>by
  rw[FC]at h;simp only[Rs,BP]at h;exact⟨x,rfl,by rw[<-h];simp⟩
 |x::xs,j,i+1,d,h=>by
  rw[FC]at h;simp only[Rr]at h ⊢;obtain⟨y,h1,h2⟩:=NS xs (j+1) i d h;exact⟨y,h1,by rw[h2];congr 3;omega⟩
theorem Tx{ds:Ac D}(sq:∀ H2,Kp A H1 H2->SqX t K H2 a xs)(r1:Reps K CL H1 A xs ds):GR K CL A (FC 0 ds) (Ite K t a) H1:=fun H k i=>by
 have s1:=sq H k;refine⟨fun hi=>⟨xs,s1,?_⟩,fun d hd=>?_⟩
 ·rw[Ls]at hi;rw[r1.length];exact hi
 ·obtain⟨x,hx,rfl⟩:=NS _ _ _ _ hd;obtain⟨u,hu,ru⟩:=r1.get hx;refine⟨⟨xs,u,s1,hu⟩,?_⟩;rintro w' H' ⟨p,x',hp,rfl,c1,rfl⟩;have ex:x'=u:=Bk ((c1 xs s1).symm.trans hu);subst ex;rw[EJ];exact⟨Ek hp (.tup [.int i,x']),fun B hB aB=>Ic aB hp ⟨rfl,IV ru k hB,trivial⟩⟩
section
variable{X:Cx}{CL:ClA}{W:XW}{pos p:AO}{a:Am}{fa:Rho->R D}
theorem Wn(ha:SE X CL W a fa)(hg:Gl X "enumerate")(hm:X.mg "enumerate" = Af)(hs:Ax [a] X.env=[(Ad,eval a X.env)]):
  SI X CL W (.Tuple es n tpos) (.Call (.Name "enumerate" p) [a] [] pos) (fun ρ=>(fa ρ).bind fun x=>(B5 x).bind fun xs=>.ok (FC 0 xs)):=
 fun A=>PI.weak (V3 hg hm (Ew (ha A) F4 hs) hs) fun σ H R ⟨hA,ρ,g,q⟩=>⟨hA,ρ,g,DN.ex q fun d v H1 _ s1 r1 p1=>by
  cases e1:B5 d with
  |bad=>rw[e1]at p1;exact p1.elim
  |exn z=>exact absurd e1 (by cases d<;>simp[B5])
  |ok ds=>
   rw[e1]at p1;obtain⟨t,c,xs,rfl,k1,rs⟩:=Mm r1 e1;exact⟨t,c,xs,rfl,k1 H1 (Kp.of (Az.refl H1)),fun hz=>p1 _ H1 (Az.refl H1) (Tx k1 rs) (by rw[Ls,<-rs.length];exact hz)⟩⟩
end
noncomputable abbrev QX(h:AG)(z TI TO:Aj)(f0 f1:Ai):Prop:=h.get? z=Aa { cls:=.type "zip", dict:=Af,data:=.fields #[f0,f1,.bool Ad,.ref TI,.ref TO],slots:=#[] }
noncomputable abbrev QY(h:AG)(T:Aj)(a b c:Ai):Prop:=h.get? T=Aa { cls:=.type "tuple", data:=.seq #[a,b,c] }
section
variable{prog:AN}{w:AU}{A:A2}{E:Vq}{s:Ao}
def Z3(t1 t2 t3:An)(I l1 l2 l3 i:Ag)(h:AG):Prop:=QY h (I+3) (.ref (I+0)) (.ref (I+1)) (.ref (I+2))/\DD t1 h (I+0) l1 i/\DD t2 h (I+1) l2 i/\DD t3 h (I+2) l3 i/\(∃ a b c,QY h (I+4) a b c) /\
 (QX h (I+5) (I+3) (I+4) .none (.bool Ad)\/∃(T1:Ag)(f1:An),QX h (I+5) (I+3) (I+4) (Fn T1) (.bool f1))
end
section
variable{prog:AN}{w:AU}{A:A2}{R:HH->Ao->Prop}
theorem Du.at'(z:Du t h l its)(k:∀ o,h.get? l=Aa o->h2.get? l=Aa o):Du t h2 l its:=by
 cases t with
 |true=>exact PySem.Heap.IsTuple.at z k
 |false=>exact PySem.Heap.IsList.at z k
theorem Z3.at'{t1 t2 t3:An}{I l1 l2 l3 i:Ag}{h h2:AG}(z:Z3 t1 t2 t3 I l1 l2 l3 i h)(k:∀ j,j<=5->∀ o,h.get? (I+j)=Aa o->h2.get? (I+j)=Aa o):Z3 t1 t2 t3 I l1 l2 l3 i h2:=by
 obtain⟨zI,i1,i2,i3,⟨a,b,c,hO⟩,zz⟩:=z;exact⟨k 3 (by decide) _ zI,i1.at' fun o q=>k 0 (by decide) o q,i2.at' fun o q=>k 1 (by decide) o q,i3.at' fun o q=>k 2 (by decide) o q,⟨a,b,c,k 4 (by decide) _ hO⟩,zz.imp (k 5 (by decide) _) fun ⟨T1,f1,hz⟩=>⟨T1,f1,k 5 (by decide) _ hz⟩⟩
end
section
variable{prog:AN}{w:AU}{A:A2}{E:Vq}{s:Ao}
end
theorem Z3.ty{t1 t2 t3:An}{I l1 l2 l3 i:Ag}(z:Z3 t1 t2 t3 I l1 l2 l3 i s.heap):s.TypeIs (.ref (I+5)) "zip" := by
 obtain⟨_,_,_,_,_,hz|⟨_,_,hz⟩⟩:=z
 ·exact⟨_,hz,rfl⟩
 ·exact⟨_,hz,rfl⟩
theorem Z3.lt{t1 t2 t3:An}{I l1 l2 l3 i:Ag}(z:Z3 t1 t2 t3 I l1 l2 l3 i s.heap):I+5<s.heap.objs.size:=by
 obtain⟨o,h,_⟩:=z.ty;exact Ay h
section
variable{prog:AN}{w:AU}{A:A2}{E:Vq}{s:Ao}
end
section
variable{X:Cx}{CL:ClA}{W:XW}{pos p pos' p':AO}{a b c:Am}{fa fb fc:Rho->R D}
end
section
variable{X:Cx}{CL:ClA}{W:XW}{pos p tpos:AO}{a b c:Am}{fa fb fc:Rho->R D}{x:Ah}
end
section
variable{X:Cx}{CL:ClA}{W:XW}{a:Am}{fa:Rho->R D}
end
theorem XJ{i:Ae}{m:Ag}(h:plD n i=Aa m):-(n:Ae)<=i/\i<n/\Fo i n=Aa m:=by
 unfold plD at h;unfold Fo;by_cases h0:0<=i
 ·rw[AC h0]at h;by_cases h1:i<n
  ·rw[AC h1]at h;have h2:¬ i<0:=by omega
   refine⟨by omega,h1,?_⟩
   simp only[h2,Fj];rw[AC (by simp;omega)]
   exact h
  ·rw[AJ h1]at h;cases h
 ·rw[AJ h0]at h;by_cases h1:-(n:Ae)<=i
  ·rw[AC h1]at h;have h2:i<0:=by omega
   refine⟨h1,by omega,?_⟩
   simp only[h2,FS];rw[AC (by simp;omega)]
   exact h
  ·rw[AJ h1]at h;cases h
theorem Nc{K:Fg}{CL:ClA}{H:Hp}{A:Aj->Prop}:∀{xs:Ac V}{ds:Ac D}(m:Ag),Reps K CL H A xs ds->Reps K CL H A (xs.eraseIdx m) (ds.eraseIdx m)
 |[],[],_,h=>h
 |v::vs,d::ds,0,h=>h.2
 |v::vs,d::ds,m+1,h=>⟨h.1,Nc m h.2⟩
 |[],_::_,_,h=>h.elim
 |_::_,[],_,h=>h.elim
section
variable{X:Cx}{CL:ClA}{W:XW}{o o' e:Am}{fe:Rho->R D}{i j:Ag}{apos cpos apos' cpos' pos:AO}
theorem Wi(ho:PE X o (Fd j))(ho':PE X o' (Fd i))(he:SE X CL W e fe)(hbase:Fu o "append" X.env (eval o X.env)=eval o X.env)(hbase':Fu o' "pop" X.env (eval o' X.env)=eval o' X.env)(hline:(apos.endLine==cpos.line)=Ab)(hline':(apos'.endLine==cpos'.line)=Ab)(hs:Ax [e] X.env=[(Ad,eval e X.env)]):
  SS X CL W (.Expr (.Call (.Attribute o "append" apos) [.Call (.Attribute o' "pop" apos') [e] [] cpos'] [] cpos) pos) (fun ρ=>O.of ρ (Ca ρ j) fun ys=>O.of ρ (Ca ρ i) fun xs=>O.of ρ (fe ρ) fun d=>O.of ρ (Dp d) fun n=>apD ρ j i ys xs n):=fun Fz B pI s σ H D I ⟨ρ,x,p⟩=>by
 refine Lv (Mk Eh Sb Sd Nt ho (Ew (Mk Eh PySem.F.slot_list_pop PySem.F.type_list_pop Ul ho' (Ew (he (BY B ρ σ)) F4 hs) hbase' (by rw[hs];rfl) hline' hs rfl) F4 rfl) hbase rfl hline rfl rfl) rfl pI s σ H D I ?_
 dsimp only at p;cases e1:Ca ρ j with
 |bad=>rw[e1]at p;exact p.elim
 |exn z=>exact(IZ e1).elim
 |ok es=>
  rw[e1,O.of_ok]at p;have hj:=Je e1;obtain⟨a,ys,es',qa,e2,ha,hh,r⟩:=x.good.ow j _ hj;cases e2;cases e3:Ca ρ i with
  |bad=>rw[e3]at p;exact p.elim
  |exn z=>exact(IZ e3).elim
  |ok ds=>
   rw[e3,O.of_ok]at p;have hi:=Je e3;obtain⟨b,xs,ds',qb,e4,hb,hh',r'⟩:=x.good.ow i _ hi;cases e4;refine⟨_,qa,.inl ⟨rfl,ys,SqL.of hh⟩,_,qb,.inl ⟨rfl,xs,SqL.of hh'⟩,x.aok,ρ,x.good,BV.ex x p fun d v H' _ s rv x' q'=>?_⟩
   cases d with
   |int n=>
    have ev:v=.int n:=rv;subst ev;rw[Nn,O.of_ok]at q';unfold apD at q';cases e5:plD ds.length n with
    |none=>rw[e5]at q';exact q'.elim
    |some m=>
     rw[e5]at q';dsimp only at q';cases e6:ds[m]? with
     |none=>rw[e6]at q';exact q'.elim
     |some d=>
      rw[e6]at q';dsimp only at q';split at q'
      ·rename_i hz;simp only[Ak,GU,ne_eq]at hz;obtain⟨hne,hz1,hz2⟩:=hz;have z1:=GI hz1;have z2:=GI hz2;obtain⟨y,hy,ry⟩:=(r'.same s).get e6;have hlen:=r'.length;have hne':a≠b:=fun z=>hne (x'.dis j i _ _ a hj hi qa (z ▸ qb))
       have u1:=x'.upd hj qa ((r.same s).append (ws:=[y]) (es:=[d]) ⟨ry,trivial⟩);have hi1:(ρ.set j (Aa (.lst (es++[d]),Ab)))[i]?=Aa (Aa (.lst ds,Ab)):=by rw[Cd hne];exact hi
       obtain⟨n1,n2,n3⟩:-(2 ^ 63)<=n/\n<2 ^ 63/\Fo n xs.length=Aa m:=by
        have hl:(ds.length:Ae)<=sizeLine:=by omega
        have hs:(sizeLine:Ae)<2 ^ 63:=by decide
        obtain⟨q1,q2,q3⟩:=XJ e5;rw[hlen];exact⟨by omega,by omega,q3⟩
       obtain⟨b',xs',ds',qb',e7,hb',hh7,r7⟩:=u1.good.ow i _ hi1;cases e7;have eb:b'=b:=by rw[qb]at qb';injection qb' with z;injection z with z;injection z with z;exact z.symm
       subst eb;have hx:H' b'=Aa (.lst xs):=s _ _ hh';have e8:xs'=xs:=by
        rw[B9 hne'.symm,hx]at hh7;cases hh7;rfl
       subst e8;have u2:=u1.upd hi1 qb (Nc m r7);have ec:L2.upd (L2.upd H' a (.lst (ys++[y]))) b' (.lst (xs'.eraseIdx m))=L2.upd (L2.upd H' b' (.lst (xs'.eraseIdx m))) a (.lst (ys++[y])):=by
        funext c
        unfold L2.upd;by_cases c1:c=b'
        ·subst c1;rw[AC rfl,AJ hne'.symm,AC rfl]
        ·rw[AJ c1];by_cases c2:c=a
         ·rw[AC c2,AC c2]
         ·rw[AJ c2,AJ c2,AJ c1]
       rw[ec,List.set_comm _ _ hne]at u2;refine⟨b',xs',n,m,y,rfl,rfl,hx,n1,n2,n3,hy,?_⟩;refine⟨a,ys,y,rfl,rfl,by rw[B9 hne'];exact s _ _ hh,?_,q' _ _ u2⟩
       rw[r.length];omega
      ·exact q'.elim
   |_=>exact q'.elim
def fP(K:Fg)(te:TE):TE:=fun σ H Q=>te σ H fun x H1=>∃ a xs,x=.ref a/\SqL K H1 a xs/\∀ p,H1 p=Af->Q (.ref p) (upd H1 p (.lst xs.reverse))
theorem UC(n:Ag):sliceRange (Ch Af Af (Aa (-1)) n).1 (Ch Af Af (Aa (-1)) n).2.1 (Ch Af Af (Aa (-1)) n).2.2=(BB n).map fun j=>n-1-j:=by
 have h1:(Ch Af Af (Aa (-1)) n).1=(n:Ae)-1:=rfl;have h2:(Ch Af Af (Aa (-1)) n).2.1=-1:=rfl;have h3:(Ch Af Af (Aa (-1)) n).2.2=-1:=rfl;rw[h1,h2,h3];unfold sliceRange;simp only[show ¬ ((-1:Ae) > 0) by decide,Fj]
 have hc:((if (n:Ae)-1 > -1 then ((n:Ae)-1 - -1 - -1-1) / (- -1) else 0):Ae).toNat=n:=by
  by_cases h:(n:Ae)-1 > -1
  ·rw[AC h,show (- -1:Ae)=1 from rfl,Q6];omega
  ·rw[AJ h];omega
 rw[hc];refine DW fun j _=>?_
 omega
theorem UE(xs:Ac α):(BB xs.length).filterMap (fun i=>xs[i]?)=xs:=by
 induction xs with
 |nil=>rfl
 |cons x xs ih=>
  rw[Br,DB,List.filterMap_cons_some (show (x::xs)[0]?=Aa x from rfl),Rl]
  exact congrArg (x :: ·) ih
theorem VF(xs:Ac α):((BB xs.length).map fun j=>xs.length-1-j).filterMap (fun i=>xs[i]?)=xs.reverse:=by
 have e:((BB xs.length).map fun j=>xs.length-1-j)=(BB xs.length).reverse:=by
  apply List.ext_getElem
  ·simp
  ·intro i h1 h2;rw[List.getElem_map,List.getElem_reverse,Rv,Rv,List.length_range]
 rw[e,List.filterMap_reverse,UE]
theorem V2(its:Ac Ai):G8 its.toArray Af Af (Aa (-1))=its.reverse.toArray:=by
 unfold G8;rw[Au,UC];simp only[Ru];rw[VF]
theorem UZ{us:Ac Ai}(r:AW xs us):AW xs.reverse us.reverse:=r.reverse
theorem Y2{p1 p3:AO}(he:PE X e te):PE X (.Subscript e (.Slice Af Af (Aa (.UnaryOp .USub (.Constant (.int 1) u1 p1) p2)) p3) pos) (fP X.K te):=by
 intro pI s σ H Q I h;refine HE (thn (he pI s σ H _ I h) fun v s1 ⟨x,H1,I1,r1,q1⟩=>?_)
 refine wpAny_Slice ?_;rw[GX];refine AE ?_;refine AE ?_;refine thn (OM (X:=X) (aK Xn PB) pI s1 σ H1 (fun o H'=>o=Aa (-1)/\H'=H1) I1 ?_) fun vk s4 ⟨l',H4,I4,pk,el',eH'⟩=>?_
 ·exact⟨1,rfl,_,rfl,rfl,rfl⟩
 subst el' eH';obtain⟨a,xs,rfl,hx,q⟩:=q1;cases r1;have I5:Inv X pI σ H4 { s4 with heap:=s4.heap.push { cls:=.type "slice", data:=.fields #[.none,.none,vk] } }:=I4.kept (t':=s4.toks) fun b ob q=>Ar _ q
 obtain⟨its,r,ht,hz⟩:=I5.list hx;have hlen:=r.length;show AD (model X.prog X.w) X.A (GV e _ (.ref a) (.ref s4.heap.objs.size)) (EP X pI σ Q) X.xe { s4 with heap:=s4.heap.push { cls:=.type "slice", data:=.fields #[.none,.none,vk] } }
 refine tail_any (ops:=[.ref a,.ref s4.heap.objs.size]) ht.isList.typeIs FJ.lookup (S5 ht.isList (Sf ..) .none .none pk (by simp) ?_ (by rw[Au]<;>omega)) (by with_unfolding_all rfl)
 rw[V2];refine⟨.ref _,_,I5.laid (t':=s4.toks) (o:=.lst xs.reverse) (fun b ob q=>Ar _ q) (AK _) ?_,rfl,q _ (I5.hok.fresh (AK _))⟩
 exact⟨by rw[List.length_reverse];exact hz,_,0,UZ r,AB _ rfl⟩
theorem N3{K:Fg}{CL:ClA}{H:Hp}{A:Aj->Prop}:∀{vs:Ac V}{ds:Ac Ov.D},Reps K CL H A vs ds->Reps K CL H A vs.reverse ds.reverse
 |[],[],h=>h
 |v::vs,d::ds,h=>by
  rw[Ej,Ej];exact(N3 h.2).append ⟨h.1,trivial⟩
 |[],_::_,h=>h.elim
 |_::_,[],h=>h.elim
theorem Yq{p1 p3:AO}(ha:ST X CL W e fe):SE X CL W (.Subscript e (.Slice Af Af (Aa (.UnaryOp .USub (.Constant (.int 1) u1 p1) p2)) p3) pos) (fun ρ=>(fe ρ).bind fun x=>biD .rvs [x]):=
 fun A=>PE.weak (Y2 (ha A)) fun σ H Q ⟨hA,ρ,g,p⟩=>⟨hA,ρ,g,A4.bind p fun d v H1 _ s1 r1 p1=>by
  cases d with
  |lst ds=>
   obtain⟨q,xs,rfl,sq,r⟩:=r1.lst_of;exact⟨q,xs,rfl,sq,fun t ht=>p1 _ _ (Ek ht _) (Ly (hA.same s1) ht (N3 r))⟩
  | _=>exact p1.elim⟩
end
section
variable{X:Cx}{CL:ClA}{W:XW}
end
noncomputable def Ip(lo:Ae)(n:Ag):Ac V:=(BB n).map fun(k:Ag)=>V.int (lo+(k:Ae))
theorem Tj(lo:Ae)(n:Ag):(Ip lo n).length=n:=by simp[Ip]
theorem TY(lo:Ae)(n:Ag):Reps K CL H A (Ip lo n) (Ce lo n):=by
 have key:∀ L:Ac Ag,Reps K CL H A (L.map fun(k:Ag)=>V.int (lo+(k:Ae))) (L.map fun(k:Ag)=>D.int (lo+(k:Ae))):=fun L=>by
  induction L with
  |nil=>exact trivial
  |cons x L ih=>exact⟨rfl,ih⟩
 exact key _
theorem TX{acc:Be Ai}(h:ItemsOf (fun i v=>∃ t,v=.int (lo+i*1) t) acc n):AW (Ip lo n) acc.toList:=by
 obtain⟨h1,h2⟩:=h;have key:∀(L:Ac Ai)(m:Ag),(∀(j:Ag)(v:Ai),L[j]?=Aa v->∃ t,v=.int (lo+((m+j:Ag):Ae)) t)->AW ((List.range' m L.length).map fun(k:Ag)=>V.int (lo+(k:Ae))) L:=fun L=>by
  induction L with
  |nil=>intro m _;exact .nil
  |cons v L ih=>
   intro m h;obtain⟨t,rfl⟩:=h 0 v rfl;refine .cons ⟨t,rfl⟩ (ih (m+1) fun j w hw=>?_)
   obtain⟨u,rfl⟩:=h (j+1) w hw;exact⟨u,by rw[show m+1+j=m+(j+1) by omega]⟩
 have k:=key acc.toList 0 fun j v hv=>by
  obtain⟨t,rfl⟩:=h2 j v (by rw[<-Q0];exact hv)
  exact⟨t,by rw[CO,Nat.zero_add]⟩
 rw[DV,h1,<-List.range_eq_range']at k;exact k
section
variable{X:Cx}
def eW(ta:TA):TE:=fun σ H Q=>ta σ H fun vs H1=>∃ i j:Ae,vs=[.int i,.int j]/\(-(2 ^ 62)<=i/\i<2 ^ 62/\-(2 ^ 62)<=j/\j<2 ^ 62)/\(j-i).toNat<=2 ^ 24/\(j-i).toNat<=sizeLine/\∀ l,H1 l=Af->Q (.ref l) (upd H1 l (.lst (Ip i (j-i).toNat)))
theorem Y7{a b:Am}{p':AO}(hc:X.calm=Ab)(hg:Gl X "list")(hm:X.mg "list" = Af)(hg':Gl X "range")(hm':X.mg "range" = Af)(ha:PA X [a,b] ta)(hs:Ax [a,b] X.env=[(Ad,eval a X.env),(Ad,eval b X.env)])(hs2:Ax [b] X.env=[(Ad,eval b X.env)]):
  PE X (.Call (.Name "list" p) [.Call (.Name "range" p') [a,b] [] pos'] [] pos) (eW ta):=by
 intro pI s σ H Q I h;refine HB (GL I hg hm Ep (BD ?_ rfl rfl));show AD _ _ (spliced ((Ad,eval (.Call (.Name "range" p') [a,b] [] pos') X.env)::Cp pos (Ax [] X.env))) _ _ s;refine R1 ?_;refine HB (GL I hg' hm' HF (BD (thn (ha pos' pI s σ H _ I h) fun us s1 ⟨vs,H1,I1,r1,q1⟩=>?_) (by rw[hs,hs2]) (by rw[hs2];rfl)))
 obtain⟨i,j,e,⟨b1,b2,b3,b4⟩,hn,hz,q⟩:=q1;subst e;cases r1 with
 |cons r rr=>
  cases rr with
  |cons r' rr=>
   cases rr;obtain⟨t,rfl⟩:=r;obtain⟨t',rfl⟩:=r';refine call_range_2 (R4 ?_);refine call_list_range (n:=(j-i).toNat) (I1.ok.hd hc) (Sq ..) (small_one b1 b2 b3 b4) (by rw[rangeSize_one];split<;>omega) hn fun h' tk acc c' kp e it=>?_
   have e':=TX it;refine⟨.ref (s1.heap.push { cls:=.type "range", data:=.fields #[.int i t,.int j t',.int 1 s1.toks] }).objs.size,_,I1.laid (t':=tk) (fun b o e=>kp b o (Ar _ e)) ?_ (show ObjOk X.prog X.w _ h' _ (.lst (Ip i (j-i).toNat)) from ⟨by rw[Tj];exact hz,acc.toList,c',e',by rw[Array.toArray_toList];exact e⟩),rfl,q _ (I1.hok.fresh ?_)⟩
   ·rw[By];exact Ge _
   ·rw[By];exact Ge _
noncomputable def QC(x y:D):R D:=(Dp x).bind fun i=>(Dp y).bind fun j=>(CM i j).bind fun xs=>.ok (.lst xs)
variable{CL:ClA}{W:XW}{pos p pos' p':AO}{a b:Am}{fa fb:Rho->R D}
theorem Xh(ha:ST X CL W a fa)(hb:ST X CL W b fb)(hc:X.calm=Ab)(hg:Gl X "list")(hm:X.mg "list" = Af)(hg':Gl X "range")(hm':X.mg "range" = Af)(hs:Ax [a,b] X.env=[(Ad,eval a X.env),(Ad,eval b X.env)])(hs2:Ax [b] X.env=[(Ad,eval b X.env)]):
  SC X CL W Ab (.Call (.Name "list" p) [.Call (.Name "range" p') [a,b] [] pos'] [] pos) (fun ρ=>(fa ρ).bind fun x=>(fb ρ).bind fun y=>QC x y):=fun A pI s σ H Q I h=>by
 obtain⟨hA,ρ,g,pp⟩:=h;refine Y7 hc hg hm hg' hm' (Ew (ha A) (Ew (hb A) F4 hs2) (by rw[hs,hs2])) hs hs2 pI s σ H Q I ?_
 refine⟨hA,ρ,g,A4.bindF pp fun dx x H1 _ s1 r1 p1=>⟨hA.same s1,ρ,g.same s1,A4.bind (Rq:=Dq X.K CL Ab H A) p1 fun dy y H2 _ s2 r2 p2=>?_⟩⟩
 cases dx with
 |int i=>
  cases dy with
  |int j=>
   have e:=r1.int_of;have e':=r2.int_of;subst e e';have p3:A4 (Dq X.K CL Ab H A) W H2 ((CM i j).bind fun xs=>.ok (.lst xs)) Q:=p2
   cases e2:CM i j with
   |ok ds=>
    rw[e2]at p3;obtain⟨h1,h2,rfl,hz⟩:=K8 e2;rw[HQ]at hz;refine⟨i,j,rfl,⟨h1.1,h1.2,h2.1,h2.2⟩,by rw[DU]at hz;omega,hz,fun l hl=>?_⟩
    exact p3 _ _ (Ek hl _) (Hs (s1.trans s2) ((hA.same s1).same s2) hl (TY i _))
   |exn y=>exact(KS e2).elim
   |bad=>rw[e2]at p3;exact p3.elim
  |_=>exact p2.elim
 |_=>exact p2.elim
end
section
variable{X:Cx}{CL:ClA}{W:XW}{e o o' k l:Am}{fe:Rho->R Ov.D}{i ik il:Ag}{pos spos spos' tpos:AO}{kt:Ag}
theorem Oc{k:Ag}{j:Ae}(h:F6 ρ k=.ok j):ρ[k]?=Aa (Aa (.int j,Ad)):=by
 unfold F6 DO at h;split at h
 ·rename_i d hd;cases d<;>first|(cases h;exact hd)|cases h
 ·cases h
theorem Ny{k:Ag}{z:Ex}(h:F6 ρ k=.exn z):A5:=by
 unfold F6 DO at h;split at h
 ·rename_i d hd;cases d<;>cases h
 ·cases h
theorem Xd(hc:X.calm=Ab)(ho:PE X o (Fd i))(ho':PE X o' (Fd i))(hk:PE X k (Fd ik))(hl:PE X l (Fd il))(he:SE X CL W e fe)(ha:∀ v,assign (.Subscript o k spos) X.env v=(do
      let ov <-holding [v] (eval o X.env)
      let iv <-holding [v,ov] (eval k X.env)
      FP spos
      holding [v,ov,iv] (Hi ov iv v)
      release [v,ov,iv] []))(ha':∀ v,assign (.Subscript o' l spos') X.env v=(do
      let ov <-holding [v] (eval o' X.env)
      let iv <-holding [v,ov] (eval l X.env)
      FP spos'
      holding [v,ov,iv] (Hi ov iv v)
      release [v,ov,iv] []))(hs:Et [.Tuple [.Subscript o k spos,.Subscript o' l spos'] kt tpos] e pos.line X.env=pure Ad)(hw:C3 [.Tuple [.Subscript o k spos,.Subscript o' l spos'] kt tpos] e X.env=pure Af):SS X CL W (.Assign [.Tuple [.Subscript o k spos,.Subscript o' l spos'] kt tpos] e pos) (fun ρ=>O.of ρ (fe ρ) fun d=>Kl ρ d i ik il):=fun Fz B pI s σ H D I ⟨ρ,x,p⟩=>
  Md (he (BY B ρ σ)) (Ke hc (JQ (Mf ho hk Ln ha) (JQ (Mf ho' hl Ln ha') Lw))) hs hw rfl pI s σ H D I ⟨x.aok,ρ,x.good,BV.ex x p fun d v H' _ s rv x' q'=>by
    cases d with
    |tup es=>
     cases es with
     |nil=>exact q'.elim
     |cons dx es=>
      cases es with
      |nil=>exact q'.elim
      |cons dy es=>
       cases es with
       |cons _ _=>exact q'.elim
       |nil=>
        have q':BV X.K CL Fz B W (O.of ρ (Ca ρ i) fun xs=>O.of ρ (F6 ρ ik) fun a=>O.of ρ (F6 ρ il) fun b=>match plD xs.length a,plD xs.length b with
          |some m,Aa n=>.next (ρ.set i (Aa (.lst ((xs.set m dx).set n dy),Ab)))
          | _,_=>.bad) D:=q'
        obtain⟨t,vs,rfl,_,sq,r⟩:=rv;cases vs with
        |nil=>exact r.elim
        |cons vx vs=>
         cases vs with
         |nil=>exact r.2.elim
         |cons vy vs=>
          cases vs with
          |cons _ _=>exact r.2.2.elim
          |nil=>
            obtain⟨rx,ry,_⟩:=r;cases e1:Ca ρ i with
            |bad=>rw[e1]at q';exact q'.elim
            |exn z=>exact(IZ e1).elim
            |ok ds=>
              rw[e1,O.of_ok]at q';have hi:=Je e1;obtain⟨a,xs,ds',q,e2,ha,hh,rr⟩:=x'.good.ow i _ hi;cases e2;cases e3:F6 ρ ik with
              |bad=>rw[e3]at q';exact q'.elim
              |exn z=>exact(Ny e3).elim
              |ok j=>
                rw[e3,O.of_ok]at q';obtain⟨w1,qk,rk⟩:=x'.good.sh ik _ (Oc e3);subst rk;cases e4:F6 ρ il with
                |bad=>rw[e4]at q';exact q'.elim
                |exn z=>exact(Ny e4).elim
                |ok j'=>
                  rw[e4,O.of_ok]at q';obtain⟨w2,ql,rl⟩:=x'.good.sh il _ (Oc e4);subst rl;cases e5:plD ds.length j with
                  |none=>rw[e5]at q';exact q'.elim
                  |some m=>
                    cases e6:plD ds.length j' with
                    |none=>rw[e5,e6]at q';exact q'.elim
                    |some n=>
                      rw[e5,e6]at q';have lx:=rr.length;refine⟨t,[vx,vy],rfl,sq,rfl,vx,[vy],rfl,_,q,_,qk,a,xs,j,m,rfl,rfl,hh,by rw[lx];exact e5,vy,[],rfl,_,q,_,ql,a,xs.set m vx,j',n,rfl,rfl,F0,by rw[A3,lx];exact e6,rfl,?_⟩
                      have uu:L2.upd (L2.upd H' a (.lst (xs.set m vx))) a (.lst ((xs.set m vx).set n vy))=L2.upd H' a (.lst ((xs.set m vx).set n vy)):=by
                        funext b
                        by_cases hb:b=a
                        · subst hb;rw[F0,F0]
                        · rw[B9 hb,B9 hb,B9 hb]
                      rw[uu];exact q' _ _ (x'.upd hi q (Reps.set ry n (Reps.set rx m rr)))
    | _=>exact q'.elim⟩
end
section
variable{prog:AN}{w:AU}{A:A2}{E:Vq}{s:Ao}
theorem ND{it t:Aj}{items:Be Ai}(hne:t≠it):∀(n i:Ag)(s:Ao)(Q:Ac Ai->Ao->Prop),s.heap.IsListIter it t i->s.heap.IsList t items->i+n<=items.size->(∀ h',h'.IsListIter it t (i+n)->Eb it s.heap h'->Q ((items.toList.drop i).take n) {s with heap:=h'})->AD (model prog w) A (draw (.ref it) n) Q E s
 |0,i,s,Q,hit,_,_,hQ=>by
  show AD _ _ (pure []) Q E s;exact AE (by simpa using hQ s.heap hit (Sh ..))
 |n+1,i,s,Q,hit,ht,hle,hQ=>by
  have hlt:i<items.size:=by omega
  show AD _ _ (GA (.ref it) >>= _) Q E s;refine Al (S9 hit ht (x:=items[i]) (by simp[hlt]) fun h₁ hit₁ hs₁=>?_)
  refine Al (CG (ND hne n (i+1) _ _ hit₁ (ht.extBut hs₁.extBut hne) (by omega) fun h₂ hit₂ hs₂=>AE ?_))
  have hd:items.toList.drop i=items[i]::items.toList.drop (i+1):=by simp[D4,hlt]
  have:=hQ h₂ (by rw[show i+(n+1)=i+1+n by omega];exact hit₂) (hs₁.trans hs₂)
  rw[hd,List.take_succ_cons]at this;exact this
theorem Tb{t:Aj}{Q:Ac Ai->Ao->Prop}(hh:A.handled=Af)(ht:s.heap.IsList t items)(hQ:∀ h',Gg s.heap.objs.size s.heap h'->Q items.toList {s with heap:=h'}):AD (model prog w) A (unpackItems (.ref t) items.size Af) Q E s:=by
 have hlt:t≠s.heap.objs.size:=by obtain⟨o,ho,_⟩:=ht;exact A1 (Ay ho)
 have htp:(s.heap.push { cls:=.type "list_iterator", data:=.fields #[.ref t,.int 0 0] }).IsList t items:=by
  obtain⟨o,ho,r⟩:=ht;exact⟨o,Ar _ ho,r⟩
 unfold unpackItems;refine Al ?_
 ·unfold notIterableAtAll;refine Al (wpAny_specialOf ht.typeIs slot_list_iter.lookup ?_);refine AE ?_;simp only[Q2,Fj];refine Al (CG (C5 ht ?_));refine Al (CG (ND hlt items.size 0 _ _ ⟨_,AB _ rfl,rfl,rfl⟩ htp (by omega) fun h₁ hit₁ hs₁=>?_))
  have hall:List.take items.size (List.drop 0 items.toList)=items.toList:=by
   rw[List.drop_zero];exact List.take_of_length_le (by simp)
  rw[hall];rw[AJ (by simp)]
  have ht₁:h₁.IsList t items:=htp.extBut hs₁.extBut hlt;refine Al (CG (S8 hh hit₁ ht₁ (by simp) fun h₂ he₂=>?_))
  simp only[Option.isSome_none,Q2,Fj];refine AE (hQ h₂ fun b o hb e=>he₂ b o hb (hs₁.extBut b o hb (Ar _ e)))
theorem Tf{elts:Ac Am}{x1}{t:Aj}{Q:Unit->Ao->Prop}(hh:A.handled=Af)(ht:s.heap.IsList t items) (hn:(BL elts env).length=items.size) (hstar:(BL elts env).findIdx? (·.1)=Af) (h:∀ h',Gg s.heap.objs.size s.heap h'->AD (model prog w) A (assignInOrder ((BL elts env).map (·.2)) items.toList) Q E {s with heap:=h'}):AD (model prog w) A (assign (.Tuple elts x1 pos) env (.ref t)) Q E s:=by
 rw[assign_Tuple];refine Al (Fw ?_);unfold unpack;rw[hn,hstar];exact Al (CG (Tb hh ht h))
end
section
variable{X:Cx}{pos:AO}{CL:ClA}
def gSq(K:Fg)(n:Ag)(t:TGs):TG:=fun v σ H Q=>IC K n t v σ H Q\/∃ a xs,v=.ref a/\SqL K H a xs/\xs.length=n/\t xs σ H Q
theorem aJ{t:TGs}(hc:X.calm=Ab)(h:PGs X es t)(hn:(BL es X.env).length=n)(hst:(BL es X.env).findIdx? (·.1)=Af):PG X (.Tuple es k pos) (gSq X.K n t):=by
 intro pI s σ H v u Q I r hw;rcases hw with hw|hw
 ·exact Ke hc h hn hst pI s σ H v u Q I r hw
 ·obtain⟨a,xs,e1,hq,hl,hw⟩:=hw;subst e1;cases r;obtain⟨its,rv,ht,hz⟩:=I.list hq;refine Tf (I.ok.hd hc) ht.isList (by simp[hn,<-hl,rv.length]) hst fun h' hx=>?_
  have I1:Inv X pI σ H {s with heap:=h'}:=I.kept (t':=s.toks) fun b o e=>hx b o (A1 (Ay e)) e
  exact h pI _ σ H xs _ Q I1 (by simpa using rv) hw
theorem cT(ts:Ac Ag):GT K CL (Gn ts) (gSq K ts.length (ts.foldr (fun t u=>F7 (DZ t) u) F9)):=fun Fz B ρ σ H v d ρ' Q x r e k=>by
 cases d with
 |lst ds=>
  obtain⟨a,xs,rfl,na,sq,rs⟩:=r;rw[UT]at e;cases e2:DL ts ds ρ with
  |none=>rw[e2]at e;cases e
  |some ρ2=>
   rw[e2]at e;cases e;exact .inr ⟨a,xs,rfl,sq,by rw[rs.length];exact JG _ _ _ _ e2,L9 ts ds xs ρ _ σ Q x rs e2 k⟩
 |_=>exact .inl (O7 ts Fz B ρ σ H v _ ρ' Q x r e k)
end
section
variable{X:Cx}{CL:ClA}{W:XW}
end
end Ov
namespace Ov
open PySem PySem.W PyProof.Rows
variable{p:Be Ag}{m:Ag}
def Kr{α:Type}(lt:Ag->Ag->An)(n:Ag):KasT α->(α->Prop)->Prop
 |.ret a,Q=>Q a
 |.ask i j k,Q=>i<n/\j<n/\Kr lt n (k (lt i j)) Q
theorem Kr.mono{α:Type}{lt:Ag->Ag->An}{n:Ag}{Q Q':α->Prop}:∀{t:KasT α},Kr lt n t Q->(∀ a,Q a->Q' a)->Kr lt n t Q'
 |.ret _,h,k=>k _ h
 |.ask i j f,h,k=>⟨h.1,h.2.1,Kr.mono (t:=f (lt i j)) h.2.2 k⟩
theorem Kr.bind{α β:Type}{lt:Ag->Ag->An}{n:Ag}{f:α->KasT β}{Q:β->Prop}:∀{t:KasT α},Kr lt n t (fun a=>Kr lt n (f a) Q)->Kr lt n (t.bind f) Q
 |.ret _,h=>h
 |.ask i j k,h=>⟨h.1,h.2.1,Kr.bind (t:=k (lt i j)) h.2.2⟩
structure Sto (lt:Ag->Ag->An) (n:Ag):Prop where
 tr:∀ i j k,i<n->j<n->k<n->lt i j=Ab->lt j k=Ab->lt i k=Ab
 tot:∀ i j,i<n->j<n->i≠j->lt i j=Ad->lt j i=Ab
 asy:∀ i j,i<n->j<n->lt i j=Ab->lt j i=Ad
noncomputable def at0(p:Be Ag)(x:Ag):Ag:=p.getD x 0
structure Pm (n:Ag) (p:Be Ag):Prop where
 sz:p.size=n
 lt:∀ x,x<n->at0 p x<n
 inj:∀ x y,x<n->y<n->at0 p x=at0 p y->x=y
section
variable{lt:Ag->Ag->An}{n:Ag}
def MO(lt:Ag->Ag->An)(p:Be Ag)(m:Ag):Prop:=∀ x y,x<y->y<m->lt (at0 p x) (at0 p y)=Ab
def MK(lt:Ag->Ag->An)(p:Be Ag)(m:Ag):Prop:=∀ x y,x<y->y<m->lt (at0 p y) (at0 p x)=Ab
theorem MO.succ(S:Sto lt n)(hp:Pm n p)(h1:1<=m)(hm:m<n)(h:MO lt p m)(e:lt (at0 p (m-1)) (at0 p m)=Ab):MO lt p (m+1):=fun x y hxy hy=>by
 by_cases hym:y<m
 ·exact h x y hxy hym
 ·have:y=m:=by omega
  subst this;by_cases hx:x=y-1
  ·rw[hx];exact e
  ·exact S.tr _ _ _ (hp.lt _ (by omega)) (hp.lt _ (by omega)) (hp.lt _ hm) (h x (y-1) (by omega) (by omega)) e
theorem MK.succ(S:Sto lt n)(hp:Pm n p)(h1:1<=m)(hm:m<n)(h:MK lt p m)(e:lt (at0 p m) (at0 p (m-1))=Ab):MK lt p (m+1):=fun x y hxy hy=>by
 by_cases hym:y<m
 ·exact h x y hxy hym
 ·have:y=m:=by omega
  subst this;by_cases hx:x=y-1
  ·rw[hx];exact e
  ·exact S.tr _ _ _ (hp.lt _ hm) (hp.lt _ (by omega)) (hp.lt _ (by omega)) e (h x (y-1) (by omega) (by omega))
end
section
variable{prog:AN}{w:AU}{A:A2}{E:Vq}{κ:SortKind}{it:Be Keyed}
end
section
variable{lt:Ag->Ag->An}{n:Ag}
end
def LQ(h:AG)(v:Ai)(r:Ac Ae):Prop:=∃ a its,v=.ref a/\HC h a its/\Gv its.toList r/\r≠[]
theorem LQ.kept{h h':AG}{v:Ai}{r:Ac Ae}(t:LQ h v r)(k:∀ b o,h.get? b=Aa o->h'.get? b=Aa o):LQ h' v r:=by
 obtain⟨a,its,e,⟨o,ho,q⟩,i,n⟩:=t;exact⟨a,its,e,⟨o,k _ _ ho,q⟩,i,n⟩
section
variable{prog:AN}{w:AU}{A:A2}{E:Vq}{s:Ao}
end
end Ov
namespace Ov
open PySem PySem.Spec PyProof.Rows L2
variable{h h':AG}{P:AN}{w:AU}{H:Hp}{a b:Aj}{l:Ac BJ}{oT:Dk}{ts:Be Ai}{Q:Unit->Ao->Prop}{X:Cx}{pI:Pn}{σ:L2.St}{s:Ao}
section
variable{X:Cx}{CL:ClA}{W:XW}
end
section
variable{X:Cx}
variable{CL:ClA}{W:XW}{pos p pos' p':AO}{a:Am}{fa:Rho->R D}
end
section
end
section
variable{X:Cx}
variable{CL:ClA}{W:XW}{o e:Am}{fe:Rho->R D}{i:Ag}{apos cpos pos:AO}
end
section
open PySem.AutoSeq1 (wpAny_loadPart')
end
section
variable{prog:AN}{w:AU}{A:A2}{R:HH->Ao->Prop}{I S T:Aj}{u v:Ai}{c:Ag}{P:Ag->Ai->Prop}{St:Ag->AG->Prop}{s:Ao}{r q:Ac Ae}
end
section
variable{X:Cx}{CL:ClA}{W:XW}
end
def Fly(e T:Aj)(cls:Ai)(h:AG):Prop:=∃ oe vs oT ts a0,h.get? e=Aa oe/\oe.cls=cls/\vs[0]?=Aa a0/\oe.data=.fields vs/\vs[1]?=Aa (.ref T)/\T≠e/\h.get? T=Aa oT/\oT.data=.fields ts/\ts[3]?=Aa HJ
structure Shift (ex fs:Ac Aj) (h h':AG):Prop where
 keep:∀ b o,h.get? b=Aa o->b∉ex->b∉fs->h'.get? b=Aa o
 slot:∀ b o,h.get? b=Aa o->b∈fs->∃ sl,h'.get? b=Aa {o with slots:=sl}
theorem Shift.trans{ex fs:Ac Aj}{h1 h2:AG}(a:Shift ex fs h h1)(b:Shift ex fs h1 h2):Shift ex fs h h2:=
 ⟨fun c o q n m=>b.keep c o (a.keep c o q n m) n m,fun c o q m=>by
  obtain⟨sl,e1⟩:=a.slot c o q m;obtain⟨sl',e2⟩:=b.slot c _ e1 m;exact⟨sl',e2⟩⟩
theorem ObjOk.isThere:∀(o:HO),L2.ObjOk P w H h a o->∃ ob,h.get? a=Aa ob
 |.lst _,x=>by obtain⟨_,_,_,_,e⟩:=x;exact⟨_,e⟩
 |.tup _,x=>by obtain⟨_,_,_,p⟩:=x;obtain⟨o,e,_⟩:=p;exact⟨_,e⟩
 |.dK _,x=>by obtain⟨_,_,_,_,o,_,_,e,_⟩:=x;exact⟨_,e⟩
 |.dT _,x=>by obtain⟨_,_,_,_,o,_,_,e,_⟩:=x;exact⟨_,e⟩
 |.set _ _,x=>by obtain⟨o,_,_,_,e,_⟩:=x;exact⟨_,e⟩
 |.ins _ _ _,x=>by obtain⟨_,_,_,e,_⟩:=x;exact⟨_,e⟩
 |.own _,x=>x
 |.xd _,x=>by obtain⟨_,⟨_,_,_,e,_⟩,_⟩:=x;exact⟨_,e⟩
 |.met _ _,x=>⟨_,x⟩
 |.rng _ _,x=>by obtain⟨_,_,_,e⟩:=x;exact⟨_,e⟩
 |.frz _ _,x=>⟨_,x.1⟩
 |.tbl _,x=>⟨_,x⟩
 |.ext _,x=>x.2.1
theorem Lq(x:HOk P w H h)(e:h.get? a=Af):H a=Af:=by
 cases q:H a with
 |none=>rfl
 |some o=>
  obtain⟨ob,z⟩:=ObjOk.isThere o (x a o q);rw[e]at z;cases z
theorem HOk.shift{ex fs:Ac Aj}(x:HOk P w H h)(sh:Shift ex fs h h')(h1:∀ b∈ex,H b=Af)(h2:∀ b∈fs,H b=Af):HOk P w H h':=fun a o e=>
 (x a o e).stay (fun b u hb q=>by
  have hs:∃ v,H b=Aa v:=by
   rcases hb with rfl|hb
   ·exact⟨_,e⟩
   ·exact⟨_,hb⟩
  obtain⟨v,hv⟩:=hs;exact sh.keep b u q (fun z=>by rw[h1 b z]at hv;cases hv) (fun z=>by rw[h2 b z]at hv;cases hv)) (fun _ q=>q) fun _ _ q=>q
theorem Un.shift{fs0 fs ex:Ac Aj}{H':Hp}{h0:AG}(u:Un fs0 [] H H' h0 h)(sh:Shift ex fs h h')(h1:∀ b∈ex,h0.get? b=Af)(h2:∀ b∈fs,b∈fs0\/h0.get? b=Af):Un fs0 [] H H' h0 h' where
 keep:=fun b o q n hb hx=>sh.keep b o (u.keep b o q n hb hx) (fun z=>by rw[h1 b z]at q;cases q) fun z=>(h2 b z).elim hb fun e=>by rw[e]at q;cases q
 slot:=fun b o q n hb hx=>by
  obtain⟨sl,e1⟩:=u.slot b o q n hb hx;by_cases hf:b∈fs
  ·obtain⟨sl',e2⟩:=sh.slot b _ e1 hf;exact⟨sl',e2⟩
  ·exact⟨sl,sh.keep b _ e1 (fun z=>by rw[h1 b z]at q;cases q) hf⟩
 free:=u.free
 there:=fun b o q hx=>by
  obtain⟨o',e1⟩:=u.there b o q hx;by_cases hf:b∈fs
  ·obtain⟨sl',e2⟩:=sh.slot b _ e1 hf;exact⟨_,e2⟩
  ·exact⟨o',sh.keep b _ e1 (fun z=>by rw[h1 b z]at q;cases q) hf⟩
 tups:=u.tups
 frzs:=u.frzs
 tbls:=u.tbls
section
variable{M:HG}{A:A2}{E:Vq}{s:Ao}{env:BJ}{outer:Ac BJ}{L e T:Aj}{cls:Ai}{base h:AG}
theorem OA(l:Ac BJ):∀ env∈l,∀ a,env.frame=Aa a->a∈frs l:=fun env he a hf=>RC.mpr ⟨env,he,hf⟩
theorem Us(ff:h.FunFrames base l)(fl:Fly e T cls h):∃ a0,Se (ET h (e::T::frs l)) l e cls a0 h:=by
 obtain⟨oe,vs,oT,ts,a0,he,hc,h0,hd,h1,hTe,hT,hdT,h3⟩:=fl;exact⟨a0,fun b o q=>Fl _ q,EU _ AA,SM ff fun env he a hf=>As _ (As _ (OA l env he a hf)),
  oe,vs,T,oT,ts,he,⟨hc,h0⟩,hd,h1,EU _ (As _ AA),hTe,hT,hdT,h3⟩
theorem Oh(ff:h.FunFrames base l)(up:h.UpToSlots h'){o:Dk}(ho:h.get? b=Aa o)(hb:b∈frs l):∃ sl,h'.get? b=Aa {o with slots:=sl}:=by
 obtain⟨_,o',ho',hn⟩:=ff.mem hb;rw[ho]at ho';cases ho';exact up b o ho hn
theorem N8(ff:h.FunFrames base l)(up:h.UpToSlots h')(hT:h'.get? T=Aa oT)(hd:oT.data=.fields ts):T∉frs l:=fun hb=>by
 obtain⟨_,o',ho',hn⟩:=ff.mem hb;obtain⟨sl,e1⟩:=up T o' ho' hn;rw[hT]at e1;cases e1;exact hn ts hd
theorem O8{B:AG}{a0:Ai}(x:Se B l e cls a0 h'):∃ T',Fly e T' cls h'/\B.get? T'=Af/\∃ oT ts,h'.get? T'=Aa oT/\oT.data=.fields ts:=by
 obtain⟨_,_,_,oe,vs,T',oT,ts,he,⟨hc,h0⟩,hd,h1,hn,hTe,hT,hdT,h3⟩:=x;exact⟨T',⟨oe,vs,oT,ts,a0,he,hc,h0,hd,h1,hTe,hT,hdT,h3⟩,hn,oT,ts,hT,hdT⟩
theorem T8(ff:h.FunFrames base l)(st:(ET h (e::T::frs l)).StaysIn h')(up:h.UpToSlots h'):Shift [e,T] (frs l) h h':=
 ⟨fun b o q n1 n2=>st b o (Ds _ q (by simp only[At,CV,AQ,BN]at n1 ⊢;exact⟨n1.1,by first|exact n1.2|exact n1.2.1,n2⟩)),fun b o q hb=>Oh ff up q hb⟩
theorem Ub{T':Aj}(ff:h.FunFrames base l)(up:h.UpToSlots h')(hn:(ET h (e::T::frs l)).get? T'=Af)(hT:h'.get? T'=Aa oT)(hd:oT.data=.fields ts)(hne:T'≠e):T'=T\/h.get? T'=Af:=by
 cases q:h.get? T' with
 |none=>exact .inr rfl
 |some o=>
  refine .inl ?_;by_cases hm:T'∈e::T::frs l
  ·rcases At.mp hm with z|hm
   ·exact absurd z hne
   ·rcases At.mp hm with z|hm
    ·exact z
    ·exact absurd hm (N8 ff up hT hd)
  ·have:=Ds _ q hm;rw[hn]at this;cases this
theorem Fly.ne(x:Fly e T cls h):T≠e:=by obtain⟨_,_,_,_,_,_,_,_,_,_,z,_⟩:=x;exact z
theorem T9(hfr:A.frames=Aa (env::outer))(hf:env.frame=Aa L)(ff:s.heap.FunFrames base (env::outer))(fl:Fly e T cls s.heap)(hQ:∀ h' T',Fly e T' cls h'->Shift [e,T] (frs (env::outer)) s.heap h'->(T'=T\/s.heap.get? T'=Af)->Q () {s with heap:=h'}):AD M A (leaving env (.ref e)) Q E s:=by
 obtain⟨a0,fw⟩:=Us ff fl;refine wpAny_leaves_onW hfr hf fw fun h' fw' up=>?_
 obtain⟨T',fl',hn,oT,ts,hT,hd⟩:=O8 fw';exact hQ h' T' fl' (T8 ff fw'.1 up) (Ub ff up hn hT hd fl'.ne)
theorem TV{args:Ac Ai}(hfr:A.frames=Aa (env::outer))(hf:env.frame=Aa L)(ff:h.FunFrames base (env::outer))(hx:Sg h s.heap e cls args)(hQ:∀ h' T',Fly e T' cls h'->Shift [] (frs (env::outer)) h h'->h.get? T'=Af->Q () {s with heap:=h'}):AD M A (leaving env (.ref e)) Q E s:=by
 have fh:=SM (as:=frs (env::outer)) ff (OA _);refine wpAny_leaves_madeW hfr hf (fun b o q=>Fl _ q) fh hx fun h' t fw _ _ up=>?_
 have up':h.UpToSlots h':=(Heap.UpToSlots.of_keeps hx.keeps).trans up;obtain⟨T',fl',hn,oT,ts,hT,hd⟩:=O8 fw;refine hQ h' T' fl' ⟨fun b o q _ n2=>fw.1 b o (Ds _ q n2),fun b o q hb=>Oh ff up' q hb⟩ ?_
 cases q:h.get? T' with
 |none=>rfl
 |some o=>
  have:=Ds _ q (N8 ff up' hT hd);rw[hn]at this;cases this
end
def CXR(P:AN)(w:AU):CXT:=fun outer H s E ev s'=>∃ e T cls H',ev=.ref e/\s'.os=s.os/\Ef s'.gens/\Un (frs outer) [] H H' s.heap s'.heap/\HOk P w H' s'.heap/\Fly e T cls s'.heap/\H' e=Af/\H' T=Af/\s.heap.get? e=Af/\s.heap.get? T=Af/\E cls Af H'
def MH(X:Cx)(CL:ClA)(W:XW):Prop:=∀ pI σ H s h' e C vs x,Inv X pI σ H s->Sg s.heap h' e (.ref C) vs->CL x.c=Aa C->x.fs=[]->W x H->X.xe (.ref e) {s with heap:=h'}
section
variable{P:AN}{w:AU}{K:Fg}{mg:Ah->Ap Ai}{base:AG}{N:Ac Ah}{qual:Ah}{scope:BS}{f:Aj}{cd:Ai}{A:A2}{outer:Ac BJ}{s:Ao}{H:Hp}{E:XK}{CL:ClA}{W:XW}
theorem Oz(I:Inv X pI σ H s):∀ b∈frs X.stack,b∈X.fs\/X.s₀.heap.get? b=Af:=fun b hb=>by
 rcases At.mp (I.stkSub b hb) with z|z
 ·exact .inr (by rw[z];exact Sj I.ok.above)
 ·exact .inl z
theorem Ja(I:Inv X pI σ H s)(hx:X.ex=[])(h:s.heap.get? b=Af):X.s₀.heap.get? b=Af:=by
 cases q:X.s₀.heap.get? b with
 |none=>rfl
 |some o=>
  obtain⟨o',z⟩:=I.base.there b o q (by rw[hx];simp)
  rw[h]at z;cases z
theorem dE(hE:∀ x cls H',W x H'->(∃ C,CL x.c=Aa C/\cls=.ref C)->E cls Af H'):∀ A',Ig (CXR P w) (Fi (CXR P w) P w K mg base N qual scope f cd A outer s H E) (EKW K CL A' W):=by
 intro A' pI σ H1 s1 ev s2 I h;obtain⟨e,T,cls,H',rfl,os,bare,un,hok,fl,he,hT,ne,nT,x,xr,wx⟩:=h;have I':=I.call' (s':=s2) (ch:=[]) os un hok bare (fun b z=>absurd z (by simp))
 have hb0:Un (frs outer) [] H H' s.heap s2.heap:=I'.base;show AD (model P w) (A.deeper (DT qual scope s.heap.objs.size f cd)) (leaving (DT qual scope s.heap.objs.size f cd) (.ref e)) _ _ s2;refine T9 (L:=s.heap.objs.size) I'.ok.frames rfl I'.stack fl fun h' T' fl' sh hT'=>?_
 have e0:s.heap.get? e=Af:=Ja I rfl ne;have T0:s.heap.get? T=Af:=Ja I rfl nT;refine⟨e,T',cls,H',rfl,I'.os,bare,Un.shift hb0 sh ?_ (Oz I'),HOk.shift hok sh ?_ I'.stkFree,fl',he,?_,e0,?_,?_⟩
 ·intro b hb;rcases At.mp hb with rfl|hb
  ·exact e0
  ·rw[BH.mp hb];exact T0
 ·intro b hb;rcases At.mp hb with rfl|hb
  ·exact he
  ·rw[BH.mp hb];exact hT
 ·rcases hT' with rfl|z
  ·exact hT
  ·exact Lq hok z
 ·rcases hT' with rfl|z
  ·exact T0
  ·exact Ja I' rfl z
 ·obtain⟨C,c1,c2,_⟩:=xr;exact hE x cls H' wx ⟨C,c1,c2⟩
theorem rzR(hE:∀ x cls H',W x H'->(∃ C,CL x.c=Aa C/\cls=.ref C)->E cls Af H'):MH (Fi (CXR P w) P w K mg base N qual scope f cd A outer s H E) CL W:=by
  intro pI σ H1 s1 h2 e C vs x I hm hc hf hw;have hb0:Un (frs outer) [] H H1 s.heap s1.heap:=I.base;show AD (model P w) (A.deeper (DT qual scope s.heap.objs.size f cd)) (leaving (DT qual scope s.heap.objs.size f cd) (.ref e)) _ _ {s1 with heap:=h2}
  refine TV (s:={s1 with heap:=h2}) (h:=s1.heap) (L:=s.heap.objs.size) I.ok.frames rfl I.stack hm fun h' T' fl' sh hT'=>?_
  refine⟨e,T',.ref C,H1,rfl,I.os,I.bare,Un.shift hb0 sh (fun b hb=>nomatch hb) (Oz I),HOk.shift I.hok sh (fun b hb=>nomatch hb) I.stkFree,fl',Lq I.hok hm.new,Lq I.hok hT',Ja I rfl hm.new,Ja I rfl hT',hE x _ H1 hw ⟨C,hc,rfl⟩⟩
theorem ownR:EI (model P w) (Fi (CXR P w) P w K mg base N qual scope f cd A outer s H E).A (Fi (CXR P w) P w K mg base N qual scope f cd A outer s H E).env (Fi (CXR P w) P w K mg base N qual scope f cd A outer s H E).xe:=PassesOwn.leaving
end
noncomputable def veB:Ac Ai:=[.type "ValueError", .type "Exception", .type "BaseException", .type "object"]
structure XcOk (K:Fg) (C:Aj):Prop where
 exc:PySem.W.excIn K C veB "ValueError.__new__" = Ab
 ga:Gw K (.ref C) "__getattribute__" = Aa (Aa (.builtin "BaseException.__getattribute__"))
 gt:Gw K (.ref C) "__getattr__" = Aa Af
 cl:Gw K (.ref C) "__class__" = Aa (Aa (.builtin "object.__class__"))
 ob:PySem.W.mroIn K C (.type "object")=Aa Ab
 be:SR K (.ref C) (.type "BaseException")=Aa Ab
 cs:(PySem.W.clsIn K C).isSome=Ab
 ve:SQ K (.ref C) (.type "ValueError")=Aa Ab
section
variable{prog:AN}{w:AU}{A:A2}{E:Vq}{h:AG}{g:Be IJ}{d:Drawn}{t:Ag}{os:OsState}{K:Fg}{e C:Aj}
end
def Qk(X:Cx)(pI:Pn)(e:Aj):Prop:=e≠X.env.locals/\(∀ x c,X.env.cells.lookup x=Aa c->c≠e)/\(∀ p∈X.pn++pI,p.1≠e)/\X.s₀.heap.get? e=Af
section
variable{X:Cx}{pI:Pn}{σ:L2.St}{H:Hp}{s:Ao}{e:Aj}
end
noncomputable def Cx.hot(X:Cx)(e:Aj):Cx:={X with A:=X.A.mark (Aa (.ref e)),calm:=Ad,xe:=fun _ _=>A5}
section
variable{X:Cx}{pI:Pn}{σ:L2.St}{H:Hp}{s:Ao}{e:Aj}
end
noncomputable def eN(X:Cx)(CL:ClA)(pI:Pn)(σ:L2.St)(H:Hp)(y:Ex)(Xw:Vq):Prop:=
 ∀ s' H' e T C,Inv X pI σ H' s'->Az H H'->Fly e T (.ref C) s'.heap->H' e=Af->H' T=Af->Qk X pI e->Qk X pI T->CL y.c=Aa C->y.fs=[]->Xw (.ref e) s'
def STB(X:Cx)(CL:ClA)(body:Ac Bp)(f:Rho->O):Prop:=∀ Fz B pI s σ H D ρ (Xw:Vq),EI (model X.prog X.w) X.A X.env Xw->Inv X pI σ H s->Sx X.K CL Fz B ρ σ H ->
  (match f ρ with
   |.exn y ρ'=>ρ'=ρ->eN X CL pI σ H y Xw
   | o=>BV X.K CL Fz B (fun _ _=>A5) o D)->(∀ y ρ',f ρ=.exn y ρ'->ρ'=ρ)->AD (model X.prog X.w) X.A (execs body X.env) (SP X pI D) Xw s
noncomputable def Cx.pw(X:Cx)(pI:Pn)(Xw:Vq):Cx:={X with pn:=X.pn++pI,xe:=Xw}
section
variable{X:Cx}{pI pins':Pn}{σ:L2.St}{H:Hp}{s:Ao}{Xw:Vq}
end
section
variable{X:Cx}{CL:ClA}{k n:Ag}{fr:An}{f:Aj}{fd:BW}{ps:Ac Ah}{F:Ac D->R D}{x:Ah}{p pos pos2:AO}{e:Am}{es:Ac Am}{fs ft:Rho->R (Ac D)}{sh:Rho->An}
variable(hx0:X.ex=[])(G:FnOk X.prog X.w X.K X.mg X.base (CXR X.prog X.w) k f fd ps (spD X.K CL n fr F))(hr:Room k X.A)(hg:Gl X x)(hm:X.mg x=Aa (.ref f))
    (hk:CJ X.K (.ref f)=Ab) (hb:Gp X.K fd ps []) (hst:∀ ρ,sh ρ=Ab->ft ρ=fs ρ) (hn:∀ ρ ds,ft ρ=.ok ds->ds.length=n) (hnx:∀ ρ y,ft ρ≠.exn y)
    (hdb:(x==("__debug__" : Ah))=Ad) (he:Ax (e::es) X.env=(Ad,eval e X.env)::Ax es X.env) (hpl:∀ pos,(Cp pos (Ax es X.env)).any (·.1)=Ad)
    (ha:∀ pI Xw,EI (model X.prog X.w) X.A X.env Xw->SA (Cx.pw X pI Xw) CL (fun _ _=>A5) (e::es) fs/\SAT (Cx.pw X pI Xw) CL (fun _ _=>A5) (e::es) ft)
include hx0 G hr hg hm hk hb hst hn hnx hdb he hpl ha
end
section
variable{X:Cx}{CL:ClA}{W:XW}
def Zj(K:Fg)(CL:ClA)(up:Ag->Ac Ag)(c':Ag)(C':Aj):Prop:=∀ c C,CL c=Aa C->SQ K (.ref C) (.ref C')=Aa ((up c).contains c')
variable{a:Am}{fa:Rho->R D}{up:Ag->Ac Ag}{x:Ah}{p p2 pos:AO}
end
end Ov
section
namespace Ov
open PySem PySem.Spec PyProof.Rows L2
end Ov
end
namespace Ov
open PySem PySem.Spec PyProof.Rows L2
variable{α:Type}{g x n x0 x1:Ah}{y:Am}{as:Es}{X:Cx}{CL:ClA}{fr:An}{pos p:AO}{xs ys:Ac Am}{env:BJ}{l kk k:Ag}{scope:BS}{ts:Ac Ag}{H:Hp}{vs:Ac V}{f:Aj}{fd:BW}{CX:CXT}{ps:Ac Ah}{F:Ac D->R D}{h:AG}
noncomputable abbrev fY:CXT:=fun _ _ _ _ _ _=>A5
structure HotOk (P:AN) (w:AU) (K:Fg) (mg:Ah->Ap Ai) (base:AG) (k:Ag) (f:Aj) (fd:BW) (ps:Ac Ah) (sp:Sp):Prop where
 len:∀ vs H Q E,sp vs H Q E->vs.length=ps.length
 run:∀(A:A2)(ev:Aj)(outer:Ac BJ)(s:Ao)(H:Hp)(args:Args)(us:Ac Ai)(vs:Ac V)(Q:VK)(E:XK),Room k A->Env0 P w K mg base (A.mark (Aa (.ref ev))) outer s H->FL s fd args (ps.zip us)->AW vs us->sp vs H Q E ->
  E6 (model P w) (A.mark (Aa (.ref ev))) (.call (.ref f) args) (CR fY outer P w H s Q E) s
def spH(K:Fg)(CL:ClA)(n:Ag)(fr:An)(F:Ac D->R D):Sp:=fun vs H Q _=>∃(ds:Ac D)(A:Aj->Prop),vs.length=n/\AOk H A/\Reps K CL H A vs ds/\(match F ds with
  |.ok d=>∀ v H',Az H H'->Dq K CL fr H A H' v d->Q v H'
  |.exn _=>A5
  | .bad=>A5)
section
variable{X:Cx}{CL:ClA}{ev:Aj}
end
structure Tc where
 sc:BS
 N:Ac Ah
 /-- a def's name,its number,how many parameters it has -/
 fns:Ac (Ah×Ag×Ag)
 /-- built-in names that the text does not hide -/
 bl:Ac Ah
 /-- exceptions' classes by their names: those that are raised,all that are asked for -/
 rzs:Ac (Ah×Ag)
 exs:Ac (Ah×Ag)
 /-- the text's constants -/
 gls:Ac (Ah×Ag)
noncomputable def MD(T:Tc)(x:Ah):An:=match T.sc.names.lookup x with
  |some .local=>Ab
  |some .cell=>Ab
  |some .free=>Ab
  |_=>Ad
noncomputable def IA(T:Tc)(x:Ah):An:=match T.sc.names.lookup x with
  |some .local=>Ab
  |some .cell=>Ab
  |_=>Ad
noncomputable def glB(T:Tc)(x:Ah):An:=T.sc.names.lookup x==Aa .globalImplicit
noncomputable def Jx(x:Ah):An:=!(x==("__debug__" : Ah)) && !(x==("__classdict__" : Ah)) && !(x==("__name__" : Ah))
noncomputable def isV(T:Tc)(x:Ah)(i:Ag):An:=T.N[i]? == Aa x&&MD T x&&Jx x
noncomputable def isB(T:Tc)(x:Ah):An:=T.bl.contains x&&glB T x&&Jx x
noncomputable def DC:Am->An
 |.Starred _ _=>Ad
 |_=>Ab
noncomputable def Lx:Am->An
 |.Slice _ _ _ _=>Ad
 |_=>Ab
noncomputable def Jp:Am->An
 |.Set _ _ _=>Ad
 |_=>Ab
noncomputable def Ii:Am->An
 |.ListComp _ _ _ _=>Ad
 |.SetComp _ _ _ _=>Ad
 |.DictComp _ _ _ _ _=>Ad
 |_=>Ab
noncomputable def QG(tu:An):Am->An
 |.Tuple ..=>tu
 |.Name ..=>!tu
 |_=>Ad
noncomputable def cN:Am->An
 |.Tuple _ _ _=>Ab
 |_=>Ad
noncomputable def Qd:Am->An
 |.Tuple _ _ _=>Ad
 |_=>Ab
noncomputable def K9:Am->An
 |.UnaryOp _ _ _=>Ad
 |.BoolOp _ _ _=>Ad
 |.IfExp _ _ _ _=>Ad
 |.Compare _ _ _ _=>Ad
 |_=>Ab
noncomputable def Mt:Ki->Ap Ah
 |.int=>Aa "int"
 |.bool=>Aa "bool"
 |.str=>Aa "str"
 |.list=>Aa "list"
 |.tuple=>Aa "tuple"
 |_=>Af
noncomputable def Mu:BI->Ap Ah
 |.len=>Aa "len"
 |.abs=>Af
 |.max=>Af
 |.min=>Aa "min"
 |.int=>Af
 |.list=>Aa "list"
 |.tuple=>Aa "tuple"
 |.all=>Aa "all"
 |.any=>Aa "any"
 |.sum=>Aa "sum"
 |.sorted=>Af
 |.tmin=>Af
 |.tmax=>Af
 |_=>Af
noncomputable def Ml(o scope:BS):BS:={scope with names:=scope.names.map fun (n,k)=>if (k==.free&&o.kind==.function&&o.names.lookup n==Aa .cell) then (n,.cell) else (n,k)}
noncomputable def Ir:Ac Ag->Ac Ah->Ac Ah->Ac Ah
 |t::ts,x::xs,N=>Ir ts xs ((N.map fun y=>if y==x then N.getD t x else y).set t x)
 |_,_,N=>N
noncomputable def Jk:Ac Ah->An
 |[]=>Ab
 |x::xs=>!xs.contains x&&Jk xs
noncomputable def Jy(T:Tc)(scope:BS)(ts:Ac Ag)(N':Ac Ah):An:=
  scope.kind==.function&&scope.names.all (fun y=>scope.names.lookup y.1==Aa y.2) &&
  scope.names.all (fun y=>y.2 != .free||T.sc.names.lookup y.1==Aa .cell||T.sc.names.lookup y.1==Aa .free) &&
  N'.length==T.N.length&&Jk N' &&
  (BB N'.length).all fun i=>ts.contains i||(match N'[i]? with
    |some x=>(scope.names.lookup x != Aa .local&&scope.names.lookup x != Aa .cell)&&(scope.names.lookup x != Aa .free||T.N[i]? == Aa x)
    | none=>Ab)
noncomputable def DX:Ac Am->Ap (Ac Ah)
 |[]=>Aa []
 |.Name x _::r=>(DX r).map (x :: ·)
 |_=>Af
noncomputable def tgN(ys:Ac Am):Ac Ah:=(DX ys).getD []
noncomputable def tgB(T:Tc):Ac Ag->Ac Ah->An
 |[],[]=>Ab
 |t::ts,x::xs=>T.N[t]? == Aa x&&T.sc.names.lookup x==Aa .local&&tgB T ts xs
 |_,_=>Ad
noncomputable def tgO(T:Tc)(scope:BS)(t:Ag)(x:Ah):An:=T.N[t]? == Aa x&&(T.sc.names.lookup x==Aa .local||(T.sc.names.lookup x==Aa .cell&&scope.names.lookup x==Aa .cell))
noncomputable def tgC(T:Tc):Ac Ag->Ac Ah->An
 |[],[]=>Ab
 |t::ts,x::xs=>T.N[t]? == Aa x&&IA T x&&tgC T ts xs
 |_,_=>Ad
noncomputable def Tc.blk(T:Tc)(scope:BS)(ts:Ac Ag)(xs:Ac Ah):Tc:={T with sc:=Ml T.sc scope,N:=Ir ts xs T.N}
noncomputable def QT:Am->Ap (Am×Am×AO)
  | .Compare x ops ys p=>(match ops with
    | [.Lt]=>(match ys with
      |[y]=>Aa (x,y,p)
      | _=>Af)
    | _=>Af)
  |_=>Af
noncomputable def Mp(_:Es):Ap (E×E):=Af
noncomputable def QF(_:Tc)(_:Tc->Am->E->An)(_:Am)(_:Ac DF)(_:Ac Am)(_:BI)(_:Es):An:=Ad
noncomputable def QQ(T:Tc)(e:Am)(b:BI)(as:Es):An:=Ad
noncomputable def Ji:Am->Ap (Ah×AO)
 |.Name x p=>Aa (x,p)
 |_=>Af
theorem JS{e:Am}{t:Ah×AO}(q:Ji e=Aa t):e=.Name t.1 t.2:=by
 cases e with
 |Name x p=>cases q;rfl
 |_=>cases q
noncomputable def Mi:Am->Ap (Am×Ac Am×Ac FN×AO)
 |.Call f as ks p=>Aa (f,as,ks,p)
 |_=>Af
theorem No{e:Am}{t:Am×Ac Am×Ac FN×AO}(q:Mi e=Aa t):e=.Call t.1 t.2.1 t.2.2.1 t.2.2.2:=by
 cases e with
 |Call f as ks p=>cases q;rfl
 |_=>cases q
noncomputable def Mq:Am->Ap (Am×Am×AO)
 |.Subscript v s p=>Aa (v,s,p)
 |_=>Af
theorem Op{e:Am}{t:Am×Am×AO}(q:Mq e=Aa t):e=.Subscript t.1 t.2.1 t.2.2:=by
 cases e with
 |Subscript v s p=>cases q;rfl
 |_=>cases q
noncomputable def Ql:Am->Ap (Ac Am×Ag×AO)
 |.Tuple es k p=>Aa (es,k,p)
 |_=>Af
theorem Vr{e:Am}{t:Ac Am×Ag×AO}(q:Ql e=Aa t):e=.Tuple t.1 t.2.1 t.2.2:=by
 cases e with
 |Tuple es k p=>cases q;rfl
 |_=>cases q
noncomputable def Qn:Bp->Ap (Ac Am×Am×AO)
 |.Assign ts v p=>Aa (ts,v,p)
 |_=>Af
theorem Vt{s:Bp}{t:Ac Am×Am×AO}(q:Qn s=Aa t):s=.Assign t.1 t.2.1 t.2.2:=by
 cases s with
 |Assign ts v p=>cases q;rfl
 |_=>cases q
noncomputable def one{α:Type}:Ac α->Ap α
 |[a]=>Aa a
 |_=>Af
theorem O2{l:Ac α}{a:α}(q:one l=Aa a):l=[a]:=by
  match l,q with
  |[b],q=>cases q;rfl
noncomputable def Kq(e:Am):Ap (Ah×Ah×Ac Am):=(Mi e).bind fun c=>(Ji c.1).bind fun g=>(one c.2.1).bind fun a=>(Mi a).bind fun d=>(Ji d.1).bind fun h=>if (c.2.2.1.isEmpty&&d.2.2.1.isEmpty)=Ab then Aa (g.1,h.1,d.2.1) else Af
theorem WE{e:Am}{h:Ah}{bs:Ac Am}(q:Kq e=Aa (g,h,bs)):∃ p p' pos pos',e=.Call (.Name g p) [.Call (.Name h p') bs [] pos'] [] pos:=by
 obtain⟨⟨f,as,ks,pos⟩,e1,q⟩:=AS.mp q;obtain⟨⟨g',p⟩,e2,q⟩:=AS.mp q;obtain⟨a,e3,q⟩:=AS.mp q;obtain⟨⟨f',bs',ks',pos'⟩,e4,q⟩:=AS.mp q;obtain⟨⟨h',p'⟩,e5,q⟩:=AS.mp q;by_cases hk:(ks.isEmpty&&ks'.isEmpty)=Ab
 ·rw[AC hk]at q;cases q;rw[Ak,FU,FU]at hk;obtain⟨rfl,rfl⟩:=hk;have x1:=No e1;have x2:=JS e2;have x3:=O2 e3;have x4:=No e4;have x5:=JS e5;dsimp only at x1 x2 x3 x4 x5;subst x1 x2 x3 x4 x5;exact⟨_,_,_,_,rfl⟩
 ·rw[AJ hk]at q;cases q
noncomputable def Jw(e:Am):Ap (Ah×Ah×Am×Am):=match Kq e with
  | some (g,h,bs)=>(match bs with
    |[x,y]=>Aa (g,h,x,y)
    | _=>Af)
  |none=>Af
theorem WZ{e:Am}{h:Ah}{x:Am}(q:Jw e=Aa (g,h,x,y)):∃ p p' pos pos',e=.Call (.Name g p) [.Call (.Name h p') [x,y] [] pos'] [] pos:=by
  unfold Jw at q;cases c:Kq e with
  |none=>rw[c]at q;cases q
  |some t=>
    obtain⟨g',h',bs⟩:=t;rw[c]at q
    match bs,q,c with
    |[a,b],q,c=>cases q;exact WE c
noncomputable def Jt:Es->Ap (E×E)
 |.cons (.tupI (.rng2 a b)) .nil=>Aa (a,b)
 |_=>Af
theorem Vs{a b:E}(q:Jt as=Aa (a,b)):as=.cons (.tupI (.rng2 a b)) .nil:=by
 unfold Jt at q;split at q
 ·cases q;rfl
 ·cases q
noncomputable def QB(e:Am):Ap (Ah×Ah×Am):=match Kq e with
  | some (g,h,bs)=>(match bs with
    |[x]=>Aa (g,h,x)
    | _=>Af)
  |none=>Af
noncomputable def Ms(_:Es):Ap E:=Af
noncomputable def MA(e:Am):Ap (Ah×Ah):=(Mq e).bind fun t=>(Ji t.1).bind fun x=>(Ji t.2.1).bind fun y=>Aa (x.1,y.1)
theorem Ol{e:Am}{y:Ah}(q:MA e=Aa (x,y)):∃ p1 p2 p3,e=.Subscript (.Name x p1) (.Name y p2) p3:=by
 obtain⟨⟨v,s,p⟩,e1,q⟩:=AS.mp q;obtain⟨⟨x',p1⟩,e2,q⟩:=AS.mp q;obtain⟨⟨y',p2⟩,e3,q⟩:=AS.mp q;cases q;have x1:=Op e1;have x2:=JS e2;have x3:=JS e3;dsimp only at x1 x2 x3;subst x1 x2 x3;exact⟨_,_,_,rfl⟩
noncomputable def Jn(e:Am):An:=(Mq e).isSome
theorem Ob{e:Am}(q:Jn e=Ab):∃ o a p,e=.Subscript o a p:=by
 obtain⟨t,h⟩:=RP.mp q;exact⟨_,_,_,Op h⟩
noncomputable def two(e:Am):Ap (Am×Am):=(Ql e).bind fun t=>match t.1 with
  |[a,b]=>Aa (a,b)
  |_=>Af
theorem Pt{e a b:Am}(q:two e=Aa (a,b)):∃ k p,e=.Tuple [a,b] k p:=by
  obtain⟨⟨es,k,p⟩,e1,q⟩:=AS.mp q;have x1:=Vr e1;dsimp only at x1;subst x1
  match es,q with
  |[a',b'],q=>cases q;exact⟨_,_,rfl⟩
noncomputable def Jz:Es->Ap E
  | .cons a r=>(match r with
    |.nil=>Aa a
    | _=>Af)
  |.nil=>Af
theorem Wv{a:E}(q:Jz as=Aa a):as=.cons a .nil:=by
 unfold Jz at q;split at q
 ·split at q
  ·cases q;rfl
  ·cases q
 ·cases q
noncomputable def Ju:Am->Ap Am
  | .Subscript x s _=>(match s with
    | .Slice l h st _=>(match l,h,st with
      | none,Af,Aa t=>(match t with
        | .UnaryOp op u _=>(match op,u with
          |.USub,.Constant (.int 1) _ _=>Aa x
          | _,_=>Af)
        | _=>Af)
      | _,_,_=>Af)
    | _=>Af)
  |_=>Af
theorem VE{e x:Am}(q:Ju e=Aa x):∃ u1 p1 p2 p3 pos,e=.Subscript x (.Slice Af Af (Aa (.UnaryOp .USub (.Constant (.int 1) u1 p1) p2)) p3) pos:=by
 unfold Ju at q
 repeat' split at q
 all_goals first|cases q;done|skip
 cases q;exact⟨_,_,_,_,_,rfl⟩
noncomputable def Kn:Am->Ap (Ah×Am)
  | .Call f as ks cp=>(match f,as,ks with
    | .Attribute o m ap,[v],[]=>(match o with
      |.Name x _=>if (m==("pop" : Ah)&&ap.endLine==cp.line&&DC v)=Ab then Aa (x,v) else Af
      | _=>Af)
    | _,_,_=>Af)
  |_=>Af
theorem V0{e v:Am}(q:Kn e=Aa (x,v)):∃ p ap cp,e=.Call (.Attribute (.Name x p) "pop" ap) [v] [] cp/\ap.endLine=cp.line/\DC v=Ab:=by
 unfold Kn at q
 repeat' split at q
 all_goals first|cases q;done|skip
 rename_i h;cases q;simp only[Ak,Bh]at h;obtain⟨⟨rfl,h1⟩,h2⟩:=h;exact⟨_,_,_,rfl,h1,h2⟩
noncomputable def Mz(st:Bp):Ap (Ah×Ah×Ah×Ah×Am):=(Qn st).bind fun t=>(one t.1).bind fun u=>(two u).bind fun ab=>(MA ab.1).bind fun xy=>(MA ab.2).bind fun xz=>(two t.2.1).bind fun cd=>if (Jn cd.1&&Jn cd.2)=Ab then Aa (xy.1,xy.2,xz.1,xz.2,t.2.1) else Af
theorem V6{st:Bp}{y x' z:Ah}{v:Am}(q:Mz st=Aa (x,y,x',z,v)):∃ p1 p2 p3 p4 p5 p6 kt tp o a p o' a' p' q0 q1 pos,v=.Tuple [.Subscript o a p,.Subscript o' a' p'] q0 q1/\st=.Assign [.Tuple [.Subscript (.Name x p1) (.Name y p2) p3,.Subscript (.Name x' p4) (.Name z p5) p6] kt tp] (.Tuple [.Subscript o a p,.Subscript o' a' p'] q0 q1) pos:=by
 obtain⟨⟨ts,w,pos⟩,e5,q⟩:=AS.mp q;obtain⟨t,e6,q⟩:=AS.mp q;obtain⟨⟨a,b⟩,e1,q⟩:=AS.mp q;obtain⟨⟨y1,y2⟩,e2,q⟩:=AS.mp q;obtain⟨⟨z1,z2⟩,e3,q⟩:=AS.mp q;obtain⟨⟨c,d⟩,e4,q⟩:=AS.mp q;by_cases hs:(Jn c&&Jn d)=Ab
 ·rw[AC hs]at q;cases q;rw[Ak]at hs;have x5:=Vt e5;have x6:=O2 e6;dsimp only at x5 x6 e4;obtain⟨k1,t1,rfl⟩:=Pt e1;obtain⟨u1,u2,u3,rfl⟩:=Ol e2;obtain⟨u4,u5,u6,rfl⟩:=Ol e3;obtain⟨k2,t2,rfl⟩:=Pt e4;obtain⟨o,a,p,rfl⟩:=Ob hs.1;obtain⟨o',a',p',rfl⟩:=Ob hs.2;subst x6 x5;exact⟨_,_,_,_,_,_,_,_,_,_,_,_,_,_,_,_,_,rfl,rfl⟩
 ·rw[AJ hs]at q;cases q
noncomputable def QH:Am->Ap (Am×Ae)
  | .Subscript v s _=>(match s with
    | .Slice lo hi st _=>(match lo with
      | some (.Constant (.int k) _ _)=>(match hi with
        | none=>(match st with
          |some (.Constant (.int j) _ _)=>if j=2 then Aa (v,k) else Af
          | _=>Af)
        | some _=>Af)
      | _=>Af)
    | _=>Af)
  |_=>Af
noncomputable def Mr(_:Es):Ap (E×Ae):=Af
mutual
noncomputable def AY:Ag->Tc->Am->E->An
  |0,_,_,_=>Ad
  |n+1,T,e,c=>match c with
    |.non=>(match e with | .Constant .none _ _=>Ab|_=>Ad)
    |.bl b=>(match e with | .Constant (.bool b') _ _=>b' == b|_=>Ad)
    |.int i=>(match e with | .Constant (.int j) _ _=>decide (j=i)|_=>Ad)
    |.str x=>(match e with | .Constant (.str y) _ _=>decide (y=x)|_=>Ad)
    |.var i=>(match e with | .Name x _=>isV T x i|_=>Ad)
    |.glob g=>Ad
    |.bin op a b=>(match e with | .BinOp x op' y _=>decide (op'=op)&&AY n T x a&&AY n T y b|_=>Ad)
    |.un op a=>Ad
    |.no a=>(match e with | .UnaryOp .Not x _=>AY n T x a|_=>Ad)
    |.and es=>(match e with | .BoolOp .And xs _=>chkEs n T xs es && !xs.isEmpty|_=>Ad)
    |.or es=>(match e with | .BoolOp .Or xs _=>chkEs n T xs es && !xs.isEmpty|_=>Ad)
    |.cmp op a b=>(match e with | .Compare x [op'] [y] _=>decide (op'=op) && !behindInMarks op y&&AY n T x a&&AY n T y b|_=>Ad)
    |.cmp2 op1 op2 a b c=>(match e with | .Compare x [o1,o2] [y,z] _=>decide (o1=op1)&&decide (o2=op2) && !lastMarks [op1,op2] [y,z]&&AY n T x a&&AY n T y b&&AY n T z c|_=>Ad)
    |.ite c a b=>Ad
    |.call f as=>(match e with | .Call (.Name g _) (x::xs) [] _=>(T.fns.any fun p=>p.1==g&&p.2.1==f&&p.2.2==xs.length+1)&&decide (xs.length<900)&&glB T g&&Jx g&&chkEs n T (x::xs) as|_=>Ad)
    |.bi b as=>(match e with | .Call (.Name g _) (x::xs) [] _=>Mu b==Aa g&&isB T g&&chkEs n T (x::xs) as|_=>Ad)||QQ T e b as||(match Jt as with|some (a,c)=>(match Jw e with|some (g,h,x,y)=>decide (b=.list)&&g==("list" : Ah)&&h==("range" : Ah)&&isB T g&&isB T h&&DC x&&DC y&&AY n T x a&&AY n T y c|none=>Ad)|none=>Ad)||(match Mr as with|some (a,k)=>(match QH e with|some (x,j)=>decide (b=.stp)&&decide (j=k)&&decide (0<=k)&&AY n T x a|none=>Ad)|none=>Ad)||(match Ms as with|some a=>(match QB e with|some (g,h,x)=>decide (b=.lset)&&g==("len" : Ah)&&h==("set" : Ah)&&isB T g&&isB T h&&DC x&&AY n T x a|none=>Ad)|none=>Ad)||(match Mp as with|some (a,c)=>(match QT e with|some (x,y,_)=>decide (b=.tlt) && !behindInMarks .Lt y&&AY n T x a&&AY n T y c|none=>Ad)|none=>Ad)||(match Jz as with|some a=>(match Ju e with|some x=>decide (b=.rvs)&&AY n T x a|none=>Ad)|none=>Ad)
    |.isi a ks=>(match ks with | [k]=>(match e with | .Call (.Name g _) [x,.Name t _] [] _=>g==("isinstance" : Ah)&&isB T g&&Mt k==Aa t&&isB T t&&DC x&&AY n T x a|_=>Ad)|_=>Ad)
    |.idx a i=>(match e with | .Subscript x y _=>Lx y&&AY n T x a&&AY n T y i|_=>Ad)
    |.sl a lo hi=>(match e with | .Subscript x (.Slice l h Af _) _=>AY n T x a&&chkO n T l lo&&chkO n T h hi|_=>Ad)
    |.tup es=>(match e with | .Tuple xs _ _=>chkEs n T xs es&&decide (xs.length<=1000)|_=>Ad)
    |.lst es=>(match e with | .List xs _=>chkEs n T xs es&&decide (xs.length<=1000)|_=>Ad)
    |.comp elt t it c=>(match e with | .ListComp x [⟨.Name y _,iter,ifs,0⟩] scope _=>chkI n T Ad iter it&&Jp iter&&Jy T scope [t] (Ir [t] [y] T.N)&&tgO (T.blk scope [t] [y]) scope t y&&chkT n (T.blk scope [t] [y]) ifs c&&AY n (T.blk scope [t] [y]) x elt|_=>Ad)
    |.compT elt ts it c=>(match e with | .ListComp x [⟨.Tuple ys _ _,iter,ifs,0⟩] scope _=>(DX ys).isSome&&chkI n T Ab iter it&&Jp iter&&Jy T scope ts (Ir ts (tgN ys) T.N)&&tgB (T.blk scope ts (tgN ys)) ts (tgN ys)&&chkT n (T.blk scope ts (tgN ys)) ifs c&&AY n (T.blk scope ts (tgN ys)) x elt|_=>Ad)
    |.tupI _=>Ad
    |.dnew=>Ad
    |.fld _ _=>Ad
noncomputable def Hy:Ag->Tc->Am->E->An
  |0,_,_,_=>Ad
  |n+1,T,e,c=>match e with
    |.UnaryOp .Not x _=>(match c with | .no a=>Hy n T x a|_=>Ad)
    |.BoolOp .And xs _=>(match c with | .and es=>chkBs n T xs es && !xs.isEmpty|_=>Ad)
    |.BoolOp .Or xs _=>(match c with | .or es=>chkBs n T xs es && !xs.isEmpty|_=>Ad)
    | .Compare x ops ys _=>(match c with
      |.cmp op a b=>(match ops,ys with | [op'],[y]=>decide (op'=op) && !behindInMarks op y&&AY n T x a&&AY n T y b|_,_=>Ad)
      |.cmp2 op1 op2 a b c=>(match ops,ys with | [o1,o2],[y,z]=>decide (o1=op1)&&decide (o2=op2) && !lastMarks [op1,op2] [y,z]&&AY n T x a&&AY n T y b&&AY n T z c|_,_=>Ad)
      |.bi b as=>QF T (AY n) x ops ys b as
      | _=>Ad)
    |e=>K9 e&&AY n T e c
noncomputable def chkBs:Ag->Tc->Ac Am->Es->An
  |0,_,_,_=>Ad
  |n+1,T,xs,es=>match xs,es with
    |[],.nil=>Ab
    |x::xs,.cons e es=>Hy n T x e&&chkBs n T xs es
    |_,_=>Ad
noncomputable def chkEs:Ag->Tc->Ac Am->Es->An
  |0,_,_,_=>Ad
  |n+1,T,xs,es=>match xs,es with
    |[],.nil=>Ab
    |x::xs,.cons e es=>DC x&&AY n T x e&&chkEs n T xs es
    |_,_=>Ad
noncomputable def chkO:Ag->Tc->Ap Am->E->An
  |0,_,_,_=>Ad
  |n+1,T,x,e=>match x with
    |none=>(match e with | .non=>Ab|_=>Ad)
    |some x=>(match e with | .non=>Ad|e=>AY n T x e)
noncomputable def chkT:Ag->Tc->Ac Am->E->An
  |0,_,_,_=>Ad
  |n+1,T,xs,e=>match xs with
    |[]=>(match e with | .bl Ab=>Ab|_=>Ad)
    |[x]=>Hy n T x e
    |_=>Ad
noncomputable def chkI:Ag->Tc->An->Am->I->An
  |0,_,_,_,_=>Ad
  |n+1,T,tu,e,i=>match i with
    |.e a=>AY n T e a
    |.rng a=>(match e with | .Call (.Name g _) [x] [] _=>g==("range" : Ah)&&isB T g&&DC x&&AY n T x a|_=>Ad)
    |.enm a=>(match e with | .Call (.Name g _) [x] [] _=>tu&&g==("enumerate" : Ah)&&isB T g&&DC x&&AY n T x a|_=>Ad)
    |.zip a b=>(match e with | .Call (.Name g _) [x,y] [] _=>tu&&g==("zip" : Ah)&&isB T g&&DC x&&DC y&&AY n T x a&&AY n T y b|_=>Ad)
    |.rng2 a b=>(match e with | .Call (.Name g _) [x,y] [] _=>g==("range" : Ah)&&isB T g&&DC x&&DC y&&AY n T x a&&AY n T y b|_=>Ad)
    |.zip3 a b c=>Ad
end
noncomputable def Qr(_:Ag)(_:Tc)(_:Ag)(_:Ac Bp)(_:Ss):An:=Ad
mutual
noncomputable def En:Ag->Tc->Bp->S->An
  |0,_,_,_=>Ad
  |n+1,T,st,s=>match s with
    |.pass=>Ad
    |.brk=>Ad
    |.cont=>Ad
    |.asg i _ e=>(match st with | .Assign [.Name x _] v _=>T.N[i]? == Aa x&&IA T x&&AY n T v e|_=>Ad)
    |.asgT ts e=>(match st with | .Assign [.Tuple ys _ _] v _=>(DX ys).isSome&&tgC T ts (tgN ys)&&(Qd v||Dv 4 ys.length)&&AY n T v e|_=>Ad)
    |.expr e=>(match st with | .Expr v _=>Ii v&&AY n T v e|_=>Ad)
    |.ret e=>(match st with | .Return (Aa v) _=>AY n T v e|_=>Ad)
    |.retN=>Ad
    |.ife c a b=>(match st with | .If t xs ys _=>Hy n T t c&&chkSs n T xs a&&chkSs n T ys b|_=>Ad)
    |.fors t it body=>(match st with | .For (.Name x _) iter xs [] _=>tgC T [t] [x]&&Jp iter&&chkI n T Ad iter it&&chkSs n T xs body|_=>Ad)
    |.forT ts it body=>(match st with | .For (.Tuple ys _ _) iter xs [] _=>(DX ys).isSome&&tgC T ts (tgN ys)&&Jp iter&&chkI n T Ab iter it&&chkSs n T xs body|_=>Ad)
    |.whl c body=>Ad
    |.rais c as=>!(T.rzs.any fun p=>p.2==c)
    |.tryx _ _ _ _=>Ad
    |.app i e=>(match st with | .Expr (.Call (.Attribute (.Name x _) m ap) [v] [] cp) _=>m==("append" : Ah)&&isV T x i&&ap.endLine==cp.line&&DC v&&AY n T v e|_=>Ad)
    |.ext i e=>Ad
    |.rev i=>Ad
    |.clr i=>Ad
    |.put i k e=>(match st with | .Assign [.Subscript (.Name x _) y _] v _=>isV T x i&&Lx y&&AY n T y k&&AY n T v e|_=>Ad)
    |.swp i k l=>(match Mz st with|some (x,y,x',z,v)=>isV T x i&&isV T x' i&&isV T y k&&isV T z l&&AY n T v (.tup (.cons (.idx (.var i) (.var l)) (.cons (.idx (.var i) (.var k)) .nil)))|none=>Ad)
    |.apop j i e=>(match st with | .Expr (.Call (.Attribute (.Name x _) m ap) [v] [] cp) _=>m==("append" : Ah)&&isV T x j&&ap.endLine==cp.line&&(match Kn v with|some (y,w)=>isV T y i&&AY n T w e|none=>Ad)|_=>Ad)
    |.ins _ _ _=>Ad
    |.dput _ _ _=>Ad
    |.dsd _ _ _=>Ad
    |.rel _=>Ad
noncomputable def chkSs:Ag->Tc->Ac Bp->Ss->An
  |0,_,_,_=>Ad
  |n+1,T,sts,ss=>match ss with
    |.nil=>sts.isEmpty
    |.cons (.rel i) ss=>chkSs n T sts ss
    | .cons s ss=>(match sts with
      |st::r=>En n T st s&&chkSs n T r ss
      | []=>Ad)
end
noncomputable def F8(fuel:Ag)(hot:An)(fns:Ac (Ah×Ag×Ag))(bl:Ac Ah)(rzs exs gls:Ac (Ah×Ag))(ps N:Ac Ah)(st:Bp)(df:Df):An:=
  let sc:=E7 st
  sc.kind==.function && !sc.isCoroutine && !sc.isGenerator&&Jk N&&N.take ps.length==ps&&ps.all (fun x=>sc.names.lookup x==Aa .local||sc.names.lookup x==Aa .cell)&&sc.names.all (fun y=>y.2 != .free)&&N.length==df.n &&
  (match hot with
  |true=>Qr fuel ⟨sc,N,fns,bl,rzs,exs,gls⟩ 0 (Gi st) df.body
  | false=>chkSs fuel ⟨sc,N,fns,bl,rzs,exs,gls⟩ (Gi st) df.body)
structure XT (up:Ag->Ac Ag) (xn:Ag->Ac D->R Ex) (CL:ClA) (rzs exs:Ac (Ah×Ag)) (K:Fg) (mg:Ah->Ap Ai):Prop where
 xc:∀ c C,CL c=Aa C->XcOk K C
 rz:∀ p∈rzs,∃ C,CL p.2=Aa C/\mg p.1=Aa (.ref C)
 ex:∀ p∈exs,∃ C,mg p.1=Aa (.ref C)/\Zj K CL up p.2 C/\∀ c D,CL c=Aa D->SR K (.ref D) (.ref C)=Aa ((up c).contains p.2)
 made:∀ c ds,xn c ds=.bad\/xn c ds=.ok ⟨c,[]⟩
 xb:∀ c,(∀ p∈rzs,p.2≠c)->∀ ds,xn c ds=.bad
def MJ(K:Fg)(mg:Ah->Ap Ai)(CL:ClA)(x:Ah)(d:D):Prop:=∃ u v,mg x=Aa u/\Bm v u/\∀ H A,Rep K CL H A v d
structure VX (Γ:Gam) (CL:ClA) (k:Ag) (W:XW) (T:Tc) (X:Cx):Prop where
 sc:X.env.scope=T.sc
 kd:T.sc.kind=.function
 N:X.N=T.N
 nd:T.N.Nodup
 calm:X.calm=Ab
 room:Room k X.A
 bl:∀ x,x∈T.bl->X.mg x=Af
 fn:∀ p∈T.fns,∃ f fd ps,X.mg p.1=Aa (.ref f)/\CJ X.K (.ref f)=Ab/\Gp X.K fd ps []/\ps.length=p.2.2%1000/\(p.2.2<1000->FnOk X.prog X.w X.K X.mg X.base (CXR X.prog X.w) k f fd ps (spD X.K CL (p.2.2%1000) (Γ.fr p.2.1) (Γ.F p.2.1)))/\(1000<=p.2.2->HotOk X.prog X.w X.K X.mg X.base k f fd ps (spH X.K CL (p.2.2%1000) (Γ.fr p.2.1) (Γ.F p.2.1)))
 own:EI (model X.prog X.w) X.A X.env X.xe
 px:∀ A,Ig (CXR X.prog X.w) X (EKW X.K CL A W)
 rz:MH X CL W
 xt:XT Γ.up Γ.xn CL T.rzs T.exs X.K X.mg
 gl:∀ p∈T.gls,MJ X.K X.mg CL p.1 (Γ.G p.2)
theorem O1:∀ A,Ig (CXR X.prog X.w) X (EKW X.K CL A W0):=fun A pI σ H s ev s' I h=>by
 obtain⟨e,T,cls,H',_,_,_,_,_,_,_,_,_,_,x,_,w⟩:=h;exact w.elim
theorem QJ:MH X CL W0:=fun _ _ _ _ _ _ _ _ _ _ _ _ _ z=>z.elim
def Rf{α:Type}(g f:Rho->R α):Prop:=∀ ρ,g ρ=.bad\/g ρ=f ρ
section
variable{X:Cx}{CL:ClA}{W:XW}{a:Am}{f g:Rho->R D}
theorem SE.ref(h:SE X CL W a f)(r:Rf g f):SE X CL W a g:=fun A=>PE.weak (h A) fun σ H Q ⟨hA,ρ,q,p⟩=>⟨hA,ρ,q,by
 rcases r ρ with e|e
 ·rw[e]at p;exact p.elim
 ·rw[e]at p;exact p⟩
theorem SB.ref{f g:Rho->R An}(h:SB X CL W a f)(r:Rf g f):SB X CL W a g:=fun A=>PT.weak (h A) fun σ H Q ⟨hA,ρ,q,p⟩=>⟨hA,ρ,q,by
 rcases r ρ with e|e
 ·rw[e]at p;exact p.elim
 ·rw[e]at p;exact p⟩
theorem SW.ref{f g:Rho->R An}(h:SW X CL W a f)(r:Rf g f):SW X CL W a g:=fun A=>PW.weak (h A) fun σ H Q ⟨hA,ρ,q,p⟩=>⟨hA,ρ,q,by
 rcases r ρ with e|e
 ·rw[e]at p;exact p.elim
 ·rw[e]at p;exact p⟩
theorem SC.ref(h:SC X CL W fr a f)(r:Rf g f):SC X CL W fr a g:=fun A=>PE.weak (h A) fun σ H Q ⟨hA,ρ,q,p⟩=>⟨hA,ρ,q,by
 rcases r ρ with e|e
 ·rw[e]at p;exact p.elim
 ·rw[e]at p;exact p⟩
theorem SS.ref{st:Bp}{f g:Rho->O}(h:SS X CL W st f)(r:∀ ρ,g ρ=.bad\/g ρ=f ρ):SS X CL W st g:=fun Fz B=>PS.weak (h Fz B) fun D σ H ⟨ρ,x,p⟩=>⟨ρ,x,by
 rcases r ρ with e|e
 ·rw[e]at p;exact p.elim
 ·rw[e]at p;exact p⟩
end
theorem JV:∀{l:Ac Ah},Jk l=Ab->l.Nodup
 |[],_=>Dd
 |x::xs,h=>by
  unfold Jk at h;simp only[Ak,Bu,Rh,gG]at h;exact List.nodup_cons.mpr ⟨h.1,JV h.2⟩
section
variable{T:Tc}{X:Cx}{Γ:Gam}{CL:ClA}{k:Ag}{W:XW}
theorem U6(h:MD T x=Ab):Vis T.sc x:=by
 unfold MD at h;split at h
 ·exact .inl (by assumption)
 ·exact .inr (.inl (by assumption))
 ·exact .inr (.inr (by assumption))
 ·cases h
theorem LF(h:IA T x=Ab):Loc T.sc x:=by
 unfold IA at h;split at h
 ·exact .inl (by assumption)
 ·exact .inr (by assumption)
 ·cases h
theorem Lz(h:Jx x=Ab):(x==("__debug__" : Ah))=Ad/\(x==("__classdict__" : Ah))=Ad/\x≠"__name__" := by
 unfold Jx at h;simp only[Ak,Bu]at h;exact⟨h.1.1,h.1.2,fun e=>by subst e;exact absurd h.2 (by simp)⟩
theorem F3{i:Ag}(v:VX Γ CL k W T X)(h:isV T x i=Ab):PE X (.Name x pos) (Fd i):=by
 unfold isV at h;simp only[Ak,Bh]at h;obtain⟨h2,h3,_⟩:=Lz h.2;exact XQ (by rw[v.N];exact h.1.1) (by rw[v.sc];exact U6 h.1.2) h2 h3
theorem GM(v:VX Γ CL k W T X)(h:isB T x=Ab):Gl X x/\X.mg x=Af/\x≠"__name__"/\(x==("__debug__" : Ah))=Ad:=by
 unfold isB glB at h;simp only[Ak,Bh,Rh,AX]at h;obtain⟨h2,h3,h4⟩:=Lz h.2;exact⟨by show X.env.scope.names.lookup x=_;rw[v.sc];exact h.1.2,v.bl x h.1.1,h4,h2⟩
theorem CS{x:Am}(h:DC x=Ab):Ax (x::xs) env=(Ad,eval x env)::Ax xs env:=by
 cases x<;>first|rfl|cases h
theorem Ux(h:Lx y=Ab):LU y:=by
 intro o i;cases y<;>first|rfl|cases h
theorem Ka{e:Am}(h:Jp e=Ab):∀ x,Cj e env x=pure x:=by
 intro x;cases e<;>first|rfl|cases h
theorem OI{e:Am}{t:Ap Am}(h:Ii e=Ab):DA e t l env=pure Ad:=by
 cases e<;>first|rfl|cases h
theorem Ve{e:Am}(h:K9 e=Ab):∀ whole,Gx e env whole=(do let v <-whole;FP e.pos;holding [v] (truthy v)):=by
 intro whole;cases e<;>first|rfl|cases h
theorem TN(v:VX Γ CL k W T X)(scope:BS):relabel scope X.env=Ml T.sc scope:=by
 unfold relabel Ml;have:∀ n,X.env.kindOf n=T.sc.names.lookup n:=fun n=>by show X.env.scope.names.lookup n=_;rw[v.sc]
 simp only[this,v.sc]
theorem L7{N':Ac Ah}(v:VX Γ CL k W T X)(h:Jy T scope ts N'=Ab):BlockOk X scope N' ts/\N'.Nodup/\scope.kind=.function:=by
 unfold Jy at h;simp only[Ak,Bh,De,CW,GU,ne_eq]at h;obtain⟨⟨⟨⟨⟨h1,h2⟩,h4⟩,h5⟩,h6⟩,h7⟩:=h;have at7:∀ i x,N'[i]?=Aa x->i∈ts\/((scope.names.lookup x≠Aa .local/\scope.names.lookup x≠Aa .cell)/\(scope.names.lookup x≠Aa .free\/T.N[i]?=Aa x)):=fun i x e=>by
  have hi:=(AM.mp e).1;have:=h7 i (Dc.mpr hi);rcases this with z|z
  ·exact .inl (by simpa using z)
  ·rw[e]at z;simp only[Ak,GU,ne_eq,CW,Bh]at z;exact .inr z
 refine⟨⟨h1,h2,fun y hy hl=>by rw[h2 y hy,hl],fun y hy hf=>?_,by rw[v.N];exact h5,fun i x e hf hn=>?_,fun i x e hl=>?_⟩,JV h6,h1⟩
 ·rw[v.sc];rcases h4 y hy with (z|z)|z
  ·exact absurd hf z
  ·exact .inl z
  ·exact .inr z
 ·rw[v.N];rcases at7 i x e with z|⟨_,z⟩
  ·exact absurd z hn
  ·exact z.resolve_left fun q=>q hf
 ·rcases at7 i x e with z|⟨z,_⟩
  ·exact z
  ·exact hl.elim (fun q=>absurd q z.1) (fun q=>absurd q z.2)
theorem VX.blk{xs:Ac Ah}{cl:Ac (Ah×Aj)}{C:Aj}{s:Ao}{fp:Ac Aj}(v:VX Γ CL k W T X)(h:Jy T scope ts (Ir ts xs T.N)=Ab):VX Γ CL k W0 (T.blk scope ts xs) (cxC X scope cl C (Ir ts xs T.N) s H fp):=by
 obtain⟨_,h2,h3⟩:=L7 v h;exact⟨TN v scope,h3,rfl,h2,v.calm,v.room,v.bl,v.fn,PassesOwn.never,O1,QJ,v.xt,v.gl⟩
theorem U9{t:Ag}(v:VX Γ CL k W T X)(hfn:scope.names.lookup x=Aa .cell->X.fn x=Ab)(h:tgO T scope t x=Ab):PG X (.Name x pos) (DZ t):=by
 unfold tgO at h;simp only[Ak,CW,Bh]at h;rcases h with ⟨h1,h2|h2⟩
 ·exact Jd (by rw[v.N];exact v.nd) (by rw[v.N];exact h1) (by rw[v.sc];exact .inl h2) (.inr (by rw[v.sc];exact h2))
 ·exact Jd (by rw[v.N];exact v.nd) (by rw[v.N];exact h1) (by rw[v.sc];exact .inr h2.1) (.inl (hfn h2.2))
theorem KI{r:Ac Am}{zs:Ac Ah}(h:DX (y::r)=Aa zs):∃ x p ws,y=.Name x p/\DX r=Aa ws/\zs=x::ws:=by
 cases y with
 |Name x p=>
  have h':(DX r).map (x :: ·)=Aa zs:=h;cases e:DX r with
  |none=>rw[e]at h';cases h'
  |some ws=>rw[e]at h';cases h';exact⟨x,p,ws,rfl,rfl,rfl⟩
 |_=>cases h
theorem Lf(x:Ah)(p:AO)(r:Ac Am)(env:BJ):BL (.Name x p::r) env=(Ad,assign (.Name x p) env)::BL r env:=rfl
theorem KH:∀(ys:Ac Am)(zs:Ac Ah),DX ys=Aa zs->(BL ys env).length=ys.length/\(BL ys env).findIdx? (·.1)=Af/\(BL ys env).map (·.2)=ys.map fun y=>assign y env:=by
 intro ys
 induction ys with
 |nil=>intro _ _;exact⟨rfl,rfl,rfl⟩
 |cons y r ih=>
  intro zs h;obtain⟨x,p,ws,rfl,e,rfl⟩:=KI h;obtain⟨h1,h2,h3⟩:=ih ws e;rw[Lf];refine⟨?_,?_,?_⟩
  ·rw[Br,Br,h1]
  ·rw[List.findIdx?_cons,h2];simp
  ·rw[Cf,Cf,h3]
theorem Vd(v:VX Γ CL k W T X):∀(ys:Ac Am)(ts:Ac Ag)(zs:Ac Ah),DX ys=Aa zs->tgB T ts zs=Ab->PGs X ys (ts.foldr (fun t u=>F7 (DZ t) u) F9)/\ts.length=ys.length:=by
 intro ys
 induction ys with
 |nil=>
  intro ts zs e h;cases e;cases ts with
  |nil=>exact⟨Lw,rfl⟩
  |cons t ts=>cases h
 |cons y r ih=>
  intro ts zs e h;obtain⟨x,p,ws,rfl,e2,rfl⟩:=KI e;cases ts with
  |nil=>cases h
  |cons t ts=>
   have h':(T.N[t]? == Aa x&&T.sc.names.lookup x==Aa .local&&tgB T ts ws)=Ab:=h;simp only[Ak,Bh]at h';obtain⟨h1,h2⟩:=ih ts ws e2 h'.2;exact⟨JQ (Jd (by rw[v.N];exact v.nd) (by rw[v.N];exact h'.1.1) (by rw[v.sc];exact .inl h'.1.2) (.inr (by rw[v.sc];exact h'.1.2))) h1 (by rw[Lf];rfl),congrArg (· + 1) h2⟩
theorem Vc(v:VX Γ CL k W T X)(hn:(DX ys).isSome=Ab)(h:tgB T ts (tgN ys)=Ab):PG X (.Tuple ys kk pos) (IC X.K ts.length (ts.foldr (fun t u=>F7 (DZ t) u) F9)):=by
 cases e:DX ys with
 |none=>rw[e]at hn;cases hn
 |some zs=>
  have e2:tgN ys=zs:=by unfold tgN;rw[e];rfl
  rw[e2]at h;obtain⟨h1,h2⟩:=Vd v ys ts zs e h;obtain⟨h3,h4,_⟩:=KH (env:=X.env) ys zs e;exact Ke v.calm h1 (by rw[h3,h2]) h4
end
noncomputable def Es.len:Es->Ag
 |.nil=>0
 |.cons _ es=>es.len+1
theorem LH(Γ:Gam)(ρ:Rho):∀(es:Es)(ds:Ac D),evA Γ ρ es=.ok ds->ds.length=es.len
 |.nil,ds,h=>by cases h;rfl
 |.cons e es,ds,h=>by
  obtain⟨x,h1,h2⟩:=Hq (NR Γ ρ e es ▸ h);obtain⟨xs,h3,h4⟩:=Hq h2;cases h4;exact congrArg (· + 1) (LH Γ ρ es xs h3)
theorem OD(Γ:Gam)(ρ:Rho):∀(es:Es)(ds:Ac D),evB Γ ρ es=.ok ds->ds.length=es.len
 |.nil,ds,h=>by cases h;rfl
 |.cons e es,ds,h=>by
  obtain⟨x,h1,h2⟩:=Hq (NQ Γ ρ e es ▸ h);obtain⟨xs,h3,h4⟩:=Hq h2;cases h4;exact congrArg (· + 1) (OD Γ ρ es xs h3)
theorem Pu(Γ:Gam)(ρ:Rho)(e:E)(h:shE ρ e=Ab):top ρ e (evE Γ ρ e)=evE Γ ρ e:=by
 cases e with
 |var i=>
  show Ee ρ i=DO ρ i;have h':shV ρ i=Ab:=h;unfold shV at h';unfold Ee DO;cases q:ρ[i]? with
  |none=>rfl
  |some x=>
   cases x with
   |none=>rfl
   |some y=>
    obtain⟨d,o⟩:=y;cases o with
    |true=>rw[q]at h';cases h'
    |false=>rfl
 |_=>rfl
theorem Pa(Γ:Gam)(ρ:Rho):∀(es:Es),Hg ρ es=Ab->evB Γ ρ es=evA Γ ρ es
 |.nil,_=>rfl
 |.cons e es,h=>by
  simp only[TH,Ak]at h;rw[NR,NQ,Pu Γ ρ e h.1,Pa Γ ρ es h.2]
theorem LZ(Γ:Gam)(c:E):Rf (fun ρ=>evE Γ ρ c) (fun ρ=>top ρ c (evE Γ ρ c)):=fun ρ=>by
 by_cases h:shE ρ c=Ab
 ·exact .inr (Pu Γ ρ c h).symm
 ·cases c with
  |var i=>
   refine .inl ?_;show DO ρ i=.bad;have h':¬ shV ρ i=Ab:=h;unfold shV at h';unfold DO;cases q:ρ[i]? with
   |none=>rfl
   |some x=>
    cases x with
    |none=>rfl
    |some y=>
     obtain⟨d,o⟩:=y;cases o with
     |true=>rfl
     |false=>rw[q]at h';exact absurd rfl h'
  |_=>exact absurd rfl h
def Pcs(X:Cx)(CL:ClA)(W:XW)(e:Am)(f:Rho->R D):Prop:=∃ tg iter elt ifs scope pos N' ts fi fc fe as g,e=.ListComp elt [⟨tg,iter,ifs,0⟩] scope pos/\BlockOk X scope N' ts/\SI X CL W tg iter fi/\GG X.K CL ts as g /\
 (∀ cl C s H fp,PG (cxC X scope cl C N' s H fp) tg g)/\(∀ cl C s H fp,STs (cxC X scope cl C N' s H fp) CL ifs fc)/\(∀ cl C s H fp,SE (cxC X scope cl C N' s H fp) CL W0 elt fe)/\(∀ x,Cj iter X.env x=pure x) /\
 ∀ ρ,f ρ=(fi ρ).bind fun xs=>(noX (Bg (fun x=>(as x ρ).bind fc) (fun x=>(as x ρ).bind fe) xs)).bind fun ys=>.ok (.lst ys)
theorem Pcs.sc{W:XW}{e:Am}{f:Rho->R D}(hc:X.calm=Ab)(h:Pcs X CL W e f):SC X CL W Ab e f:=by
 obtain⟨tg,iter,elt,ifs,scope,pos,N',ts,fi,fc,fe,as,g,rfl,B,hi,hGG,hg,ht,he,hs,ef⟩:=h;exact SC.congr (Wo hc B hi hGG hg ht he hs) ef
structure OkE (Γ:Gam) (CL:ClA) (W:XW) (X:Cx) (e:Am) (c:E):Prop where
 se:SE X CL W e (fun ρ=>evE Γ ρ c)
 st:ST X CL W e (fun ρ=>top ρ c (evE Γ ρ c))
 nw:D3 Γ c=Ab->SC X CL W Ab e (fun ρ=>evE Γ ρ c)
 cp:Ii e=Ad->Pcs X CL W e (fun ρ=>evE Γ ρ c)
section
variable{Γ:Gam}{CL:ClA}{W:XW}{X:Cx}{e:Am}{c:E}
theorem DM(h:SE X CL W e (fun ρ=>evE Γ ρ c))(ht:∀ ρ r,top ρ c r=r)(hn:D3 Γ c=Ad)(hc:Ii e=Ab):OkE Γ CL W X e c:=
 ⟨h,by simp only[ht];exact h.st,fun z=>absurd z (by rw[hn];decide),fun z=>absurd z (by rw[hc];decide)⟩
theorem Kf(h:SC X CL W Ab e (fun ρ=>evE Γ ρ c))(ht:∀ ρ r,top ρ c r=r)(hc:Ii e=Ab):OkE Γ CL W X e c:=
 ⟨h.se,by simp only[ht];exact h.se.st,fun _=>h,fun z=>absurd z (by rw[hc];decide)⟩
theorem Qc(hc:X.calm=Ab)(h:Pcs X CL W e (fun ρ=>evE Γ ρ c))(ht:∀ ρ r,top ρ c r=r):OkE Γ CL W X e c:=
 ⟨(h.sc hc).se,by simp only[ht];exact(h.sc hc).se.st,fun _=>h.sc hc,fun _=>h⟩
end
theorem eH{k:Ki}(h:Mt k=Aa x):∃ T,tyK k=Aa T/\Cq x=Aa (.type T):=by
 cases k<;>simp only[Mt]at h<;>cases h
 ·exact⟨_,rfl,PyProof.Rows.boot_int⟩
 ·exact⟨_,rfl,PyProof.Rows.boot_bool⟩
 ·exact⟨_,rfl,PyProof.Rows.boot_str⟩
 ·exact⟨_,rfl,Ep⟩
 ·exact⟨_,rfl,RS⟩
structure Snd (Γ:Gam) (CL:ClA) (k:Ag) (n:Ag):Prop where
 e:∀(W:XW)(T:Tc)(X:Cx)(x:Am)(c:E),VX Γ CL k W T X->AY n T x c=Ab->OkE Γ CL W X x c
 b:∀(W:XW)(T:Tc)(X:Cx)(x:Am)(c:E),VX Γ CL k W T X->Hy n T x c=Ab->SB X CL W x (fun ρ=>(top ρ c (evE Γ ρ c)).bind BO)
 bs:∀(W:XW)(T:Tc)(X:Cx)(xs:Ac Am)(es:Es)(pos:AO),VX Γ CL k W T X->chkBs n T xs es=Ab->xs≠[]->SW X CL W (.BoolOp .And xs pos) (fun ρ=>(evN Γ ρ es).bind BO)/\SW X CL W (.BoolOp .Or xs pos) (fun ρ=>(evO Γ ρ es).bind BO)
 es:∀(W:XW)(T:Tc)(X:Cx)(xs:Ac Am)(es:Es),VX Γ CL k W T X->chkEs n T xs es=Ab->SA X CL W xs (fun ρ=>evA Γ ρ es)/\SAT X CL W xs (fun ρ=>evB Γ ρ es)/\xs.length=es.len/\(∀ pos,xs≠[]->SE X CL W (.BoolOp .And xs pos) (fun ρ=>evN Γ ρ es)/\SE X CL W (.BoolOp .Or xs pos) (fun ρ=>evO Γ ρ es))/\(∀ pos,(Cp pos (Ax xs X.env)).any (·.1)=Ad)
 o:∀(W:XW)(T:Tc)(X:Cx)(x:Ap Am)(c:E),VX Γ CL k W T X->chkO n T x c=Ab->SO X CL W x (fun ρ=>(top ρ c (evE Γ ρ c)).bind (slE c))
 t:∀(T:Tc)(X:Cx)(xs:Ac Am)(c:E),VX Γ CL k W0 T X->chkT n T xs c=Ab->STs X CL xs (fun ρ=>(top ρ c (evE Γ ρ c)).bind BO)
 i:∀(W:XW)(T:Tc)(X:Cx)(tu:An)(tg x:Am)(i:I),VX Γ CL k W T X->QG tu tg=Ab->chkI n T tu x i=Ab->SI X CL W tg x (fun ρ=>evI Γ ρ i)
section
variable{Γ:Gam}{CL:ClA}{W:XW}{k n:Ag}{T:Tc}{X:Cx}
theorem Uw:Snd Γ CL k 0:=⟨fun _ _ _ _ _ _ h=>absurd (show Ad=Ab from h) Av,fun _ _ _ _ _ _ h=>absurd (show Ad=Ab from h) Av,fun _ _ _ _ _ _ _ h=>absurd (show Ad=Ab from h) Av,fun _ _ _ _ _ _ h=>absurd (show Ad=Ab from h) Av,fun _ _ _ _ _ _ h=>absurd (show Ad=Ab from h) Av,fun _ _ _ _ _ h=>absurd (show Ad=Ab from h) Av,fun _ _ _ _ _ _ _ _ _ h=>absurd (show Ad=Ab from h) Av⟩
theorem MY{x:Am}(h:DC x=Ab)(hx:(Cp pos (Ax xs env)).any (·.1)=Ad):(Cp pos (Ax (x::xs) env)).any (·.1)=Ad:=by
 rw[CS h];show (Ad||(Cp pos (Ax xs env)).any (·.1))=Ad;rw[hx];rfl
theorem Xz(S:Snd Γ CL k n)(W:XW)(T:Tc)(X:Cx)(xs:Ac Am)(es:Es)(v:VX Γ CL k W T X)(h:chkEs (n+1) T xs es=Ab):SA X CL W xs (fun ρ=>evA Γ ρ es)/\SAT X CL W xs (fun ρ=>evB Γ ρ es)/\xs.length=es.len/\(∀ pos,xs≠[]->SE X CL W (.BoolOp .And xs pos) (fun ρ=>evN Γ ρ es)/\SE X CL W (.BoolOp .Or xs pos) (fun ρ=>evO Γ ρ es))/\(∀ pos,(Cp pos (Ax xs X.env)).any (·.1)=Ad):=by
 cases xs with
 |nil=>
  cases es with
  |nil=>exact⟨YC,Wq,rfl,fun _ z=>absurd rfl z,fun _=>rfl⟩
  |cons=>simp[chkEs]at h
 |cons x xs=>
  cases es with
  |nil=>simp[chkEs]at h
  |cons e es=>
   simp only[chkEs,Ak]at h;obtain⟨⟨h0,h1⟩,h2⟩:=h;have he:=S.e W T X x e v h1;obtain⟨a1,a2,a3,a4,a5⟩:=S.es W T X xs es v h2;refine⟨Wr he.se a1 (CS h0),UA he.st a2 (CS h0),congrArg (· + 1) a3,fun pos _=>?_,fun pos=>MY h0 (a5 pos)⟩
   cases xs with
   |nil=>
    cases es with
    |nil=>exact⟨Py he.se,Py he.se⟩
    |cons=>cases a3
   |cons y ys=>
    cases es with
    |nil=>cases a3
    |cons e' es'=>
     obtain⟨b1,b2⟩:=a4 pos (by simp)
     exact⟨Yy he.se b1,bO he.se b2⟩
theorem Z1(S:Snd Γ CL k n)(W:XW)(T:Tc)(X:Cx)(x:Ap Am)(c:E)(v:VX Γ CL k W T X)(h:chkO (n+1) T x c=Ab):SO X CL W x (fun ρ=>(top ρ c (evE Γ ρ c)).bind (slE c)):=by
 cases x with
 |none=>
  simp only[chkO]at h;split at h
  ·exact Wk
  ·cases h
 |some x=>
  simp only[chkO]at h;split at h
  ·cases h
  ·rename_i hne;have q:=Wj (S.e W T X x c v h).st;have e:slE c=fun d=>(Dp d).bind fun i=>.ok (Aa i):=by
    funext d
    cases c<;>first|rfl|exact absurd rfl hne
   rw[e];exact q
theorem ZZ(S:Snd Γ CL k n)(T:Tc)(X:Cx)(xs:Ac Am)(c:E)(v:VX Γ CL k W0 T X)(h:chkT (n+1) T xs c=Ab):STs X CL xs (fun ρ=>(top ρ c (evE Γ ρ c)).bind BO):=by
 cases xs with
 |nil=>
  simp only[chkT]at h;split at h
  ·exact V9
  ·cases h
 |cons x xs=>
  cases xs with
  |nil=>
   simp only[chkT]at h;exact V8 (S.b W0 T X x c v h)
  |cons y ys=>simp[chkT]at h
theorem Z2(S:Snd Γ CL k n)(W:XW)(T:Tc)(X:Cx)(tu:An)(tg x:Am)(i:I)(v:VX Γ CL k W T X)(ht':QG tu tg=Ab)(h:chkI (n+1) T tu x i=Ab):SI X CL W tg x (fun ρ=>evI Γ ρ i):=by
 have ht:tu=Ab->cN tg=Ab:=fun z=>by
  subst z;cases tg<;>first|rfl|cases ht'
 cases i with
 |e a=>
  simp only[chkI]at h;exact fB (S.e W T X x a v h).se
 |rng a=>
  simp only[chkI]at h;split at h
  ·simp only[Ak,Bh]at h;obtain⟨⟨⟨rfl,h1⟩,h2⟩,h3⟩:=h;obtain⟨g1,g2,_,_⟩:=GM v h1;exact Ym (S.e W T X _ a v h3).st g1 g2 (CS h2)
  ·cases h
 |rng2 a b=>
  simp only[chkI]at h;split at h
  ·simp only[Ak,Bh]at h;obtain⟨⟨⟨⟨⟨rfl,h1⟩,h2⟩,h3⟩,h4⟩,h5⟩:=h;obtain⟨g1,g2,_,_⟩:=GM v h1;exact Wm (S.e W T X _ a v h4).st (S.e W T X _ b v h5).st g1 g2 (by rw[CS h2,CS h3];rfl) (by rw[CS h3];rfl)
  ·cases h
 |zip a b=>
  simp only[chkI]at h;split at h
  ·simp only[Ak,Bh]at h;obtain⟨⟨⟨⟨⟨⟨h0,rfl⟩,h1⟩,h2⟩,h3⟩,h4⟩,h5⟩:=h;obtain⟨g1,g2,_,_⟩:=GM v h1;have hg:=ht h0;cases tg with
   |Tuple es m tpos=>exact Yl (S.e W T X _ a v h4).se (S.e W T X _ b v h5).se g1 g2 (by rw[CS h2,CS h3];rfl) (by rw[CS h3];rfl)
   |_=>cases hg
  ·cases h
 |zip3 a b c=>simp[chkI]at h
 |enm a=>
  simp only[chkI]at h;split at h
  ·simp only[Ak,Bh]at h;obtain⟨⟨⟨⟨h0,rfl⟩,h1⟩,h2⟩,h3⟩:=h;obtain⟨g1,g2,_,_⟩:=GM v h1;have hg:=ht h0;cases tg with
   |Tuple es m tpos=>exact Wn (S.e W T X _ a v h3).se g1 g2 (CS h2)
   |_=>cases hg
  ·cases h
theorem HX{c:Prop}[EF c]{b:An}:(if c then R.ok (D.bl b) else .bad)=.bad\/∃ b',(if c then R.ok (D.bl b) else .bad)=.ok (.bl b'):=by
 by_cases h:c
 ·rw[AC h];exact .inr ⟨_,rfl⟩
 ·rw[AJ h];exact .inl rfl
theorem Vo(op:DF)(d d':D):BE op d d'=.bad\/∃ b,BE op d d'=.ok (.bl b):=by
 cases op with
 |Eq=>exact HX
 |NotEq=>exact HX
 |In=>
  cases d' with
  |lst ys=>exact HX
  |tup ys=>exact HX
  |dic kvs=>
   show (match IB d with|some k=>R.ok (D.bl (kvs.any fun p=>p.1==k))|none=>.bad)=.bad\/∃ b,(match IB d with|some k=>R.ok (D.bl (kvs.any fun p=>p.1==k))|none=>.bad)=.ok (.bl b)
   cases IB d with
   |some k=>exact .inr ⟨_,rfl⟩
   |none=>exact .inl rfl
  |_=>cases d<;>exact .inl rfl
 |NotIn=>
  cases d' with
  |lst ys=>exact HX
  |tup ys=>exact HX
  |_=>cases d<;>exact .inl rfl
 |Is=>
  cases d' with
  |non=>cases d<;>first|exact .inr ⟨_,rfl⟩|exact .inl rfl
  |_=>cases d<;>first|exact .inl rfl|exact .inr ⟨_,rfl⟩
 |IsNot=>
  cases d' with
  |non=>cases d<;>first|exact .inr ⟨_,rfl⟩|exact .inl rfl
  |_=>cases d<;>first|exact .inl rfl|exact .inr ⟨_,rfl⟩
 |_=>
  cases d with
  |int i=>cases d'<;>first|exact .inr ⟨_,rfl⟩|exact .inl rfl
  |_=>exact .inl rfl
theorem Ot(op:DF)(d d':D):(BE op d d').bind BO=.bad\/(BE op d d').bind BO=(BE op d d').bind C4:=by
 rcases Vo op d d' with h|⟨b,h⟩
 ·rw[h];exact .inl rfl
 ·rw[h];exact .inr rfl
theorem Zn(e e':E)(es:Es):Rf (fun ρ=>(evN Γ ρ (.cons e (.cons e' es))).bind BO) (fun ρ=>((top ρ e (evE Γ ρ e)).bind BO).bind fun c=>if c=Ab then (evN Γ ρ (.cons e' es)).bind BO else .ok Ad):=fun ρ=>by
 have e0:evN Γ ρ (.cons e (.cons e' es))=(evE Γ ρ e).bind fun x=>(C4 x).bind fun c=>if c=Ab then evN Γ ρ (.cons e' es) else .ok (.bl Ad):=rfl
 dsimp only;rw[e0];rcases LZ Γ e ρ with z|z<;>dsimp only at z
 ·rw[z];exact .inl rfl
 ·rw[<-z];cases evE Γ ρ e with
  |bad=>exact .inl rfl
  |exn x=>exact .inr rfl
  |ok d=>
   cases d with
   |bl b=>cases b<;>exact .inr rfl
   |_=>exact .inl rfl
theorem Zm(e e':E)(es:Es):Rf (fun ρ=>(evO Γ ρ (.cons e (.cons e' es))).bind BO) (fun ρ=>((top ρ e (evE Γ ρ e)).bind BO).bind fun c=>if c=Ab then .ok Ab else (evO Γ ρ (.cons e' es)).bind BO):=fun ρ=>by
 have e0:evO Γ ρ (.cons e (.cons e' es))=(evE Γ ρ e).bind fun x=>(C4 x).bind fun c=>if c=Ab then .ok (.bl Ab) else evO Γ ρ (.cons e' es):=rfl
 dsimp only;rw[e0];rcases LZ Γ e ρ with z|z<;>dsimp only at z
 ·rw[z];exact .inl rfl
 ·rw[<-z];cases evE Γ ρ e with
  |bad=>exact .inl rfl
  |exn x=>exact .inr rfl
  |ok d=>
   cases d with
   |bl b=>cases b<;>exact .inr rfl
   |_=>exact .inl rfl
theorem Rf.tru(e:E):Rf (fun ρ=>(evE Γ ρ e).bind BO) (fun ρ=>(top ρ e (evE Γ ρ e)).bind BO):=fun ρ=>by
 rcases LZ Γ e ρ with z|z<;>dsimp only at z ⊢
 ·rw[z];exact .inl rfl
 ·rw[<-z];exact .inr rfl
theorem XA(S:Snd Γ CL k n)(W:XW)(T:Tc)(X:Cx)(xs:Ac Am)(es:Es)(pos:AO)(v:VX Γ CL k W T X)(h:chkBs (n+1) T xs es=Ab)(hne:xs≠[]):SW X CL W (.BoolOp .And xs pos) (fun ρ=>(evN Γ ρ es).bind BO)/\SW X CL W (.BoolOp .Or xs pos) (fun ρ=>(evO Γ ρ es).bind BO):=by
 cases xs with
 |nil=>exact absurd rfl hne
 |cons x xs=>
  cases es with
  |nil=>simp[chkBs]at h
  |cons e es=>
   simp only[chkBs,Ak]at h;obtain⟨h1,h2⟩:=h;have he:=S.b W T X x e v h1;cases xs with
   |nil=>
    cases es with
    |nil=>exact⟨SW.ref (V7 he) (Rf.tru e),SW.ref (Xu he) (Rf.tru e)⟩
    |cons=>
     cases n with
     |zero=>simp[chkBs]at h2
     |succ n=>simp[chkBs]at h2
   |cons y ys=>
    cases es with
    |nil=>
     cases n with
     |zero=>simp[chkBs]at h2
     |succ n=>simp[chkBs]at h2
    |cons e' es'=>
     obtain⟨b1,b2⟩:=S.bs W T X (y::ys) (.cons e' es') pos v h2 (by simp)
     exact⟨SW.ref (Xv he b1) (Zn e e' es'),SW.ref (ZY he b2) (Zm e e' es')⟩
theorem U8(S:Snd Γ CL k n){x:Am}{ops:Ac DF}{b:BI}(v:VX Γ CL k W T X)(h:QF T (AY n) x ops ys b as=Ab):SB X CL W (.Compare x ops ys pos) (fun ρ=>(top ρ (.bi b as) (evE Γ ρ (.bi b as))).bind BO):=by
 exact absurd (show Ad=Ab from h) Av
theorem Z5(S:Snd Γ CL k n)(W:XW)(T:Tc)(X:Cx)(x:Am)(c:E)(v:VX Γ CL k W T X)(h:Hy (n+1) T x c=Ab):SB X CL W x (fun ρ=>(top ρ c (evE Γ ρ c)).bind BO):=by
 have plain:∀ e,K9 e=Ab->AY n T e c=Ab->SB X CL W e (fun ρ=>(top ρ c (evE Γ ρ c)).bind BO):=fun e h1 h2=>Yz (S.e W T X e c v h2).st (Ve h1)
 simp only[Hy]at h;split at h
 ·split at h
  ·rename_i a;refine SB.ref (YA (S.b W T X _ a v h)) fun ρ=>?_
   show ((top ρ a (evE Γ ρ a)).bind fun x=>(C4 x).bind fun b=>.ok (.bl (!b))).bind BO=.bad\/((top ρ a (evE Γ ρ a)).bind fun x=>(C4 x).bind fun b=>.ok (.bl (!b))).bind BO=_
   cases top ρ a (evE Γ ρ a) with
   |bad=>exact .inl rfl
   |exn x=>exact .inr rfl
   |ok d=>cases d<;>first|exact .inr rfl|exact .inl rfl
  ·cases h
 ·split at h
  ·simp only[Ak,Bu,C8]at h;exact(S.bs W T X _ _ _ v h.1 h.2).1.sb
  ·cases h
 ·split at h
  ·simp only[Ak,Bu,C8]at h;exact(S.bs W T X _ _ _ v h.1 h.2).2.sb
  ·cases h
 ·split at h
  ·split at h
   ·rename_i op a b _ _ op' y;simp only[Ak,Bu,AX]at h;obtain⟨⟨⟨rfl,h1⟩,h2⟩,h3⟩:=h;refine SB.ref (YB (Ib v.room.units _) (S.e W T X _ a v h2).st (S.e W T X _ b v h3).st h1) fun ρ=>?_
    show ((top ρ a (evE Γ ρ a)).bind fun x=>(top ρ b (evE Γ ρ b)).bind fun y=>BE op' x y).bind BO=.bad\/((top ρ a (evE Γ ρ a)).bind fun x=>(top ρ b (evE Γ ρ b)).bind fun y=>BE op' x y).bind BO=_
    cases top ρ a (evE Γ ρ a) with
    |bad=>exact .inl rfl
    |exn x=>exact .inr rfl
    |ok d=>
     cases top ρ b (evE Γ ρ b) with
     |bad=>exact .inl rfl
     |exn x=>exact .inr rfl
     |ok d'=>
      dsimp only[R.bind];exact Ot _ d d'
   ·cases h
  ·split at h
   ·rename_i op1 op2 a b c _ _ o1 o2 y z;simp only[Ak,Bu,AX]at h;obtain⟨⟨⟨⟨⟨rfl,rfl⟩,h1⟩,h2⟩,h3⟩,h4⟩:=h;refine SB.ref (Uz v.room.units (S.e W T X _ a v h2).st (S.e W T X _ b v h3).st (S.e W T X _ c v h4).st h1) fun ρ=>?_
    show ((top ρ a (evE Γ ρ a)).bind fun x=>(top ρ b (evE Γ ρ b)).bind fun y=>(BE o1 x y).bind fun z=>(C4 z).bind fun k=>if k=Ab then (top ρ c (evE Γ ρ c)).bind fun u=>BE o2 y u else .ok (.bl Ad)).bind BO=.bad\/((top ρ a (evE Γ ρ a)).bind fun x=>(top ρ b (evE Γ ρ b)).bind fun y=>(BE o1 x y).bind fun z=>(C4 z).bind fun k=>if k=Ab then (top ρ c (evE Γ ρ c)).bind fun u=>BE o2 y u else .ok (.bl Ad)).bind BO=_
    cases top ρ a (evE Γ ρ a) with
    |bad=>exact .inl rfl
    |exn x=>exact .inr rfl
    |ok d=>
     cases top ρ b (evE Γ ρ b) with
     |bad=>exact .inl rfl
     |exn x=>exact .inr rfl
     |ok d'=>
      dsimp only[R.bind];cases BE o1 d d' with
      |bad=>exact .inl rfl
      |exn x=>exact .inr rfl
      |ok d3=>
       cases d3 with
       |bl k=>
        cases k with
        |false=>exact .inr rfl
        |true=>
         dsimp only[R.bind,C4];rw[AC rfl,AC rfl];cases top ρ c (evE Γ ρ c) with
         |bad=>exact .inl rfl
         |exn x=>exact .inr rfl
         |ok d4=>exact Ot _ d' d4
       |_=>exact .inl rfl
   ·cases h
  ·exact U8 S v h
  ·cases h
 ·simp only[Ak]at h;exact plain _ h.1 h.2
end
section
variable{Γ:Gam}{CL:ClA}{W:XW}{k n:Ag}{T:Tc}{X:Cx}
theorem eI{b:BI}{x:Am}(v:VX Γ CL k W T X)(hb:Mu b=Aa g)(hg:isB T g=Ab)(hs:SAT X CL W (x::xs) (fun ρ=>evB Γ ρ as))(h0:DC x=Ab)(hpl:∀ pos,(Cp pos (Ax xs X.env)).any (·.1)=Ad):OkE Γ CL W X (.Call (.Name g p) (x::xs) [] pos) (.bi b as):=by
 obtain⟨g1,g2,g3,g4⟩:=GM v hg;cases b<;>simp only[Mu]at hb<;>cases hb
 ·exact DM (Jj ZQ g1 g2 PySem.boot_len hs g3 g4 (CS h0) hpl) (fun _ _=>rfl) rfl rfl
 ·exact DM (Jj (ZP v.calm) g1 g2 PyProof.Rows.boot_min hs g3 g4 (CS h0) hpl) (fun _ _=>rfl) rfl rfl
 ·exact Kf (Xi WD g1 g2 Ep hs g3 g4 (CS h0) hpl) (fun _ _=>rfl) rfl
 ·exact DM (Yx Vp g1 g2 RS hs g3 g4 (CS h0) hpl) (fun _ _=>rfl) rfl rfl
 ·exact DM (Jj (Zl v.calm) g1 g2 PyProof.Rows.boot_all hs g3 g4 (CS h0) hpl) (fun _ _=>rfl) rfl rfl
 ·exact DM (Jj (Zk v.calm) g1 g2 PyProof.Rows.boot_any hs g3 g4 (CS h0) hpl) (fun _ _=>rfl) rfl rfl
 ·exact DM (Jj (ZO v.calm) g1 g2 PyProof.Rows.boot_sum hs g3 g4 (CS h0) hpl) (fun _ _=>rfl) rfl rfl
theorem KZ{x:Am}{es:Es}(h:chkEs n T (x::xs) es=Ab):DC x=Ab/\∃ e es',es=.cons e es'/\∃ m,n=m+1/\chkEs m T xs es'=Ab:=by
 cases n with
 |zero=>simp[chkEs]at h
 |succ m=>
  cases es with
  |nil=>simp[chkEs]at h
  |cons e es=>
   simp only[chkEs,Ak]at h;exact⟨h.1.1,e,es,rfl,m,rfl,h.2⟩
theorem M2:∀(m:Ag)(xs:Ac Am)(es:Es),chkEs m T xs es=Ab->∀ pos,(Cp pos (Ax xs X.env)).any (·.1)=Ad:=by
 intro m
 induction m with
 |zero=>intro xs es h;simp[chkEs]at h
 |succ m ih=>
  intro xs es h pos;cases xs with
  |nil=>rfl
  |cons x xs=>
   obtain⟨h0,e,es',rfl,m',e1,h1⟩:=KZ h;cases e1;exact MY h0 (ih xs es' h1 pos)
theorem XU(S:Snd Γ CL k n){x:Am}{b:BI}(v:VX Γ CL k W T X)(h:(match Jz as with|some a=>(match Ju x with|some y=>decide (b=.rvs)&&AY n T y a|none=>Ad)|none=>Ad)=Ab):OkE Γ CL W X x (.bi b as):=by
 cases q1:Jz as with
 |none=>rw[q1]at h;cases h
 |some a=>
  cases q2:Ju x with
  |none=>rw[q1,q2]at h;cases h
  |some y=>
   rw[q1,q2]at h;simp only[Ak,AX]at h;obtain⟨rfl,h1⟩:=h;obtain⟨u1,p1,p2,p3,pos,rfl⟩:=VE q2;rw[Wv q1];refine DM (SE.congr (Yq (S.e W T X _ a v h1).st) fun ρ=>?_) (fun _ _=>rfl) rfl rfl
   simp only[Ma,evB,R.bind_assoc,R.bind_ok]
theorem Xr(S:Snd Γ CL k n){x:Am}{b:BI}(v:VX Γ CL k W T X)(h:(match Mp as with|some (a,c)=>(match QT x with|some (y,z,_)=>decide (b=.tlt) && !behindInMarks .Lt z&&AY n T y a&&AY n T z c|none=>Ad)|none=>Ad)=Ab):OkE Γ CL W X x (.bi b as):=by
 simp[Mp]at h
theorem ZC{x:Am}{b:BI}(v:VX Γ CL k W T X)(h:QQ T x b as=Ab):OkE Γ CL W X x (.bi b as):=by
 exact absurd h Av
theorem Xx(S:Snd Γ CL k n){x:Am}{b:BI}(v:VX Γ CL k W T X)(h:(match Mr as with|some (a,k)=>(match QH x with|some (y,j)=>decide (b=.stp)&&decide (j=k)&&decide (0<=k)&&AY n T y a|none=>Ad)|none=>Ad)=Ab):OkE Γ CL W X x (.bi b as):=by
 simp[Mr]at h
theorem Zi(S:Snd Γ CL k n){x:Am}{b:BI}(v:VX Γ CL k W T X)(h:(match Jt as with|some (a,c)=>(match Jw x with|some (g,h,y,z)=>decide (b=.list)&&g==("list" : Ah)&&h==("range" : Ah)&&isB T g&&isB T h&&DC y&&DC z&&AY n T y a&&AY n T z c|none=>Ad)|none=>Ad)=Ab):OkE Γ CL W X x (.bi b as):=by
 cases q1:Jt as with
 |none=>rw[q1]at h;cases h
 |some t1=>
  obtain⟨a,c⟩:=t1;cases q2:Jw x with
  |none=>rw[q1,q2]at h;cases h
  |some t2=>
   obtain⟨g,f,y,z⟩:=t2;rw[q1,q2]at h;simp only[Ak,Bh,AX]at h;obtain⟨⟨⟨⟨⟨⟨⟨⟨rfl,rfl⟩,rfl⟩,h1⟩,h2⟩,h3⟩,h4⟩,h5⟩,h6⟩:=h;obtain⟨p,p',pos,pos',rfl⟩:=WZ q2;have e:=Vs q1;subst e;obtain⟨g1,g2,_,_⟩:=GM v h1;obtain⟨g3,g4,_,_⟩:=GM v h2;refine Kf (SC.congr (Xh (S.e W T X _ a v h5).st (S.e W T X _ c v h6).st v.calm g1 g2 g3 g4 (by rw[CS h3,CS h4];rfl) (by rw[CS h4];rfl)) fun ρ=>?_) (fun _ _=>rfl) rfl
   simp only[Ma,evB,Vk,Vj,U2,R.bind_assoc,R.bind_ok,QC,YK]
theorem WY(S:Snd Γ CL k n){x:Am}{b:BI}(v:VX Γ CL k W T X)(h:(match Ms as with|some a=>(match QB x with|some (g,h,y)=>decide (b=.lset)&&g==("len" : Ah)&&h==("set" : Ah)&&isB T g&&isB T h&&DC y&&AY n T y a|none=>Ad)|none=>Ad)=Ab):OkE Γ CL W X x (.bi b as):=by
 simp[Ms]at h
theorem Z4(S:Snd Γ CL k n)(W:XW)(T:Tc)(X:Cx)(x:Am)(c:E)(v:VX Γ CL k W T X)(h:AY (n+1) T x c=Ab):OkE Γ CL W X x c:=by
 cases c with
 |non=>
  unfold AY at h;dsimp only at h;split at h
  ·exact DM Ys (fun _ _=>rfl) rfl rfl
  ·cases h
 |bl b=>
  unfold AY at h;dsimp only at h;split at h
  ·have e:=eq_of_beq h;subst e;exact DM bP (fun _ _=>rfl) rfl rfl
  ·cases h
 |int i=>
  unfold AY at h;dsimp only at h;split at h
  ·have e:=Bv h;subst e;exact DM Yu (fun _ _=>rfl) rfl rfl
  ·cases h
 |str i=>
  unfold AY at h;dsimp only at h;split at h
  ·have e:=Bv h;subst e;exact DM Yp (fun _ _=>rfl) rfl rfl
  ·cases h
 |var i=>
  unfold AY at h;dsimp only at h;split at h
  ·exact⟨Yn (F3 v h),XB (F3 v h),fun z=>(nomatch z),fun z=>(nomatch z)⟩
  ·cases h
 |glob g=>exact absurd (show Ad=Ab from h) Av
 |bin op a b=>
  unfold AY at h;dsimp only at h;split at h
  ·simp only[Ak,AX]at h;obtain⟨⟨rfl,h1⟩,h2⟩:=h;have ha:=(S.e W T X _ a v h1).st;have hb:=(S.e W T X _ b v h2).st;refine⟨Pz (OO _) ha hb,(Pz (OO _) ha hb).st,fun z=>?_,fun z=>nomatch z⟩
   rename_i op' _ _;cases op'<;>first|exact Xj ha hb|cases z
  ·cases h
 |un op a=>exact absurd (show Ad=Ab from h) Av
 |no a=>
  unfold AY at h;dsimp only at h;split at h
  ·exact DM (Yr (S.e W T X _ a v h).st) (fun _ _=>rfl) rfl rfl
  ·cases h
 |and es=>
  unfold AY at h;dsimp only at h;split at h
  ·simp only[Ak,Bu,C8]at h;exact DM ((S.es W T X _ es v h.1).2.2.2.1 _ h.2).1 (fun _ _=>rfl) rfl rfl
  ·cases h
 |or es=>
  unfold AY at h;dsimp only at h;split at h
  ·simp only[Ak,Bu,C8]at h;exact DM ((S.es W T X _ es v h.1).2.2.2.1 _ h.2).2 (fun _ _=>rfl) rfl rfl
  ·cases h
 |cmp op a b=>
  unfold AY at h;dsimp only at h;split at h
  ·simp only[Ak,Bu,AX]at h;obtain⟨⟨⟨rfl,h1⟩,h2⟩,h3⟩:=h;exact DM (Yw (Ib v.room.units _) (S.e W T X _ a v h2).st (S.e W T X _ b v h3).st h1) (fun _ _=>rfl) rfl rfl
  ·cases h
 |cmp2 op1 op2 a b c=>
  unfold AY at h;dsimp only at h;split at h
  ·simp only[Ak,Bu,AX]at h;obtain⟨⟨⟨⟨⟨rfl,rfl⟩,h1⟩,h2⟩,h3⟩,h4⟩:=h;exact DM (Uy v.room.units (S.e W T X _ a v h2).st (S.e W T X _ b v h3).st (S.e W T X _ c v h4).st h1) (fun _ _=>rfl) rfl rfl
  ·cases h
 |ite c a b=>exact absurd (show Ad=Ab from h) Av
 |call f as=>
  unfold AY at h;dsimp only at h;split at h
  ·rename_i g pp y ys qq;simp only[Ak,Re,Bh,AX]at h;obtain⟨⟨⟨⟨⟨p,hp,⟨rfl,rfl⟩,hl⟩,h900⟩,h1⟩,h2⟩,h3⟩:=h;obtain⟨fa,fd,ps,m1,m2,m3,m4,m5,_⟩:=v.fn p hp;have hlt:p.2.2<1000:=by omega
   rw[Nat.mod_eq_of_lt hlt]at m4 m5;have m5:=m5 hlt;obtain⟨n2,n3,n4⟩:=Lz h2;obtain⟨a1,a2,a3,a4,a5⟩:=S.es W T X _ as v h3;obtain⟨s0,e,es',rfl,m,rfl,s1⟩:=KZ h3;have q:SC X CL W (Γ.fr p.2.1) (.Call (.Name p.1 pp) (y::ys) [] qq) (fun ρ=>evE Γ ρ (.call p.2.1 (.cons e es'))):=Wp (sh:=fun ρ=>Hg ρ (.cons e es')) m5 v.room (by unfold glB at h1;show X.env.scope.names.lookup p.1=_;rw[v.sc];exact eq_of_beq h1) m1 m2 m3 v.px a1 a2 (fun ρ z=>Pa Γ ρ _ z) (fun ρ ds z=>by rw[OD Γ ρ _ _ z,<-a3,hl];rfl) n2 (CS s0) (M2 m ys es' s1)
   exact⟨q.se,q.se.st,fun z=>by
    have z':Γ.fr p.2.1=Ab:=z;rw[z']at q;exact q,fun z=>nomatch z⟩
  ·cases h
 |bi b as=>
  unfold AY at h;dsimp only at h;simp only[CW]at h;rcases h with (((((h|h)|h)|h)|h)|h)|h
  ·split at h
   ·simp only[Ak,Bh]at h;obtain⟨⟨h1,h2⟩,h3⟩:=h;obtain⟨s0,e,es',rfl,m,rfl,s1⟩:=KZ h3;exact eI v h1 h2 (S.es W T X _ _ v h3).2.1 s0 (M2 m _ es' s1)
   ·cases h
  ·exact ZC v h
  ·exact Zi S v h
  ·exact Xx S v h
  ·exact WY S v h
  ·exact Xr S v h
  ·exact XU S v h
 |isi a ks=>
  cases ks with
  |nil=>exact absurd (show Ad=Ab from h) Av
  |cons k' ks=>
   cases ks with
   |cons=>exact absurd (show Ad=Ab from h) Av
   |nil=>
    unfold AY at h;dsimp only at h;split at h
    ·simp only[Ak,Bh]at h;obtain⟨⟨⟨⟨⟨rfl,h1⟩,h2⟩,h3⟩,h4⟩,h5⟩:=h;obtain⟨g1,g2,_,_⟩:=GM v h1;obtain⟨b1,b2,b3,b4⟩:=GM v h3;obtain⟨ty,t1,t2⟩:=eH h2;exact DM (Yt t1 g1 g2 b1 b2 t2 b3 b4 (S.e W T X _ a v h5).st (CS h4)) (fun _ _=>rfl) rfl rfl
    ·cases h
 |idx a i=>
  unfold AY at h;dsimp only at h;split at h
  ·simp only[Ak]at h;obtain⟨⟨h1,h2⟩,h3⟩:=h;exact DM (Yv (Ux h1) (S.e W T X _ a v h2).st (S.e W T X _ i v h3).st) (fun _ _=>rfl) rfl rfl
  ·cases h
 |sl a lo hi=>
  unfold AY at h;dsimp only at h;split at h
  ·simp only[Ak]at h;obtain⟨⟨h1,h2⟩,h3⟩:=h;refine Kf (SC.congr (Z8 (S.e W T X _ a v h1).st (S.o W T X _ lo v h2) (S.o W T X _ hi v h3)) fun ρ=>?_) (fun _ _=>rfl) rfl
   show ((top ρ a (evE Γ ρ a)).bind fun x=>(top ρ lo (evE Γ ρ lo)).bind fun l=>(slE lo l).bind fun l'=>(top ρ hi (evE Γ ρ hi)).bind fun h=>(slE hi h).bind fun h'=>slD x l' h')=_
   simp only[R.bind_assoc]
  ·cases h
 |tup es=>
  unfold AY at h;dsimp only at h;split at h
  ·simp only[Ak,AX]at h;have q:=S.es W T X _ es v h.1;exact DM (Yo q.1 fun ρ ds z=>by rw[LH Γ ρ _ _ z,<-q.2.2.1];omega) (fun _ _=>rfl) rfl rfl
  ·cases h
 |lst es=>
  unfold AY at h;dsimp only at h;split at h
  ·simp only[Ak,AX]at h;have q:=S.es W T X _ es v h.1;exact Kf (Xg q.1 fun ρ ds z=>by rw[LH Γ ρ _ _ z,<-q.2.2.1];omega) (fun _ _=>rfl) rfl
  ·cases h
 |comp elt t it c=>
  unfold AY at h;dsimp only at h;split at h
  ·simp only[Ak]at h;obtain⟨⟨⟨⟨⟨h1,h2⟩,h3⟩,h4⟩,h5⟩,h6⟩:=h;refine Qc v.calm ⟨_,_,_,_,_,_,_,_,_,_,_,_,_,rfl,(L7 v h3).1,S.i W T X Ad _ _ it v rfl h1,Xa t,fun cl C s H fp=>U9 (v.blk h3) (fun z=>Bh.mpr z) h4,fun cl C s H fp=>S.t _ _ _ c (v.blk h3) h5,fun cl C s H fp=>(S.e W0 _ _ _ elt (v.blk h3) h6).se,Ka h2,fun ρ=>rfl⟩ (fun _ _=>rfl)
  ·cases h
 |compT elt ts it c=>
  unfold AY at h;dsimp only at h;split at h
  ·simp only[Ak]at h;obtain⟨⟨⟨⟨⟨⟨h0,h1⟩,h2⟩,h3⟩,h4⟩,h5⟩,h6⟩:=h;refine Qc v.calm ⟨_,_,_,_,_,_,_,_,_,_,_,_,_,rfl,(L7 v h3).1,S.i W T X Ab _ _ it v rfl h1,YV ts,fun cl C s H fp=>Vc (v.blk h3) h0 h4,fun cl C s H fp=>S.t _ _ _ c (v.blk h3) h5,fun cl C s H fp=>(S.e W0 _ _ _ elt (v.blk h3) h6).se,Ka h2,fun ρ=>rfl⟩ (fun _ _=>rfl)
  ·cases h
 |tupI it=>exact absurd (show Ad=Ab from h) Av
 |dnew=>exact absurd (show Ad=Ab from h) Av
 |fld o f=>exact absurd (show Ad=Ab from h) Av
theorem snd:∀ n,Snd Γ CL k n
 |0=>Uw
 |n+1=>⟨Z4 (snd n),Z5 (snd n),XA (snd n),Xz (snd n),Z1 (snd n),ZZ (snd n),Z2 (snd n)⟩
end
section
variable{Γ:Gam}{CL:ClA}{W:XW}{k n:Ag}{T:Tc}{X:Cx}
theorem Vb{t:Ag}(v:VX Γ CL k W T X)(hf:∀ x,X.fn x=Ab)(h:tgC T [t] [x]=Ab):PG X (.Name x pos) (DZ t):=by
 unfold tgC at h;simp only[Ak,Bh]at h;exact Jd (by rw[v.N];exact v.nd) (by rw[v.N];exact h.1.1) (by rw[v.sc];exact LF h.1.2) (.inl (hf x))
theorem Oi(v:VX Γ CL k W T X)(hf:∀ x,X.fn x=Ab):∀(ys:Ac Am)(ts:Ac Ag)(zs:Ac Ah),DX ys=Aa zs->tgC T ts zs=Ab->PGs X ys (ts.foldr (fun t u=>F7 (DZ t) u) F9)/\ts.length=ys.length:=by
 intro ys
 induction ys with
 |nil=>
  intro ts zs e h;cases e;cases ts with
  |nil=>exact⟨Lw,rfl⟩
  |cons t ts=>cases h
 |cons y r ih=>
  intro ts zs e h;obtain⟨x,p,ws,rfl,e2,rfl⟩:=KI e;cases ts with
  |nil=>cases h
  |cons t ts=>
   have h':(T.N[t]? == Aa x&&IA T x&&tgC T ts ws)=Ab:=h;simp only[Ak,Bh]at h';obtain⟨h1,h2⟩:=ih ts ws e2 h'.2;exact⟨JQ (Jd (by rw[v.N];exact v.nd) (by rw[v.N];exact h'.1.1) (by rw[v.sc];exact LF h'.1.2) (.inl (hf x))) h1 (by rw[Lf];rfl),congrArg (· + 1) h2⟩
theorem Va(v:VX Γ CL k W T X)(hf:∀ x,X.fn x=Ab)(hn:(DX ys).isSome=Ab)(h:tgC T ts (tgN ys)=Ab):PG X (.Tuple ys kk pos) (IC X.K ts.length (ts.foldr (fun t u=>F7 (DZ t) u) F9)):=by
 cases e:DX ys with
 |none=>rw[e]at hn;cases hn
 |some zs=>
  have e2:tgN ys=zs:=by unfold tgN;rw[e];rfl
  rw[e2]at h;obtain⟨h1,h2⟩:=Oi v hf ys ts zs e h;obtain⟨h3,h4,_⟩:=KH (env:=X.env) ys zs e;exact Ke v.calm h1 (by rw[h3,h2]) h4
theorem Xs(v:VX Γ CL k W T X)(hf:∀ x,X.fn x=Ab)(hn:(DX ys).isSome=Ab)(h:tgC T ts (tgN ys)=Ab):PG X (.Tuple ys kk pos) (gSq X.K ts.length (ts.foldr (fun t u=>F7 (DZ t) u) F9)):=by
 cases e:DX ys with
 |none=>rw[e]at hn;cases hn
 |some zs=>
  have e2:tgN ys=zs:=by unfold tgN;rw[e];rfl
  rw[e2]at h;obtain⟨h1,h2⟩:=Oi v hf ys ts zs e h;obtain⟨h3,h4,_⟩:=KH (env:=X.env) ys zs e;exact aJ v.calm h1 (by rw[h3,h2]) h4
theorem Xp{e:Am}(h:(Qd e||Dv 4 ys.length)=Ab):C3 [.Tuple ys kk pos] e env=pure Af:=by
 cases e with
 |Tuple vs a b=>
  have h4:=EH (show Dv 4 ys.length=Ab from h)
  have e2:(ys.length==2)=Ad:=by rw[CI];omega
  have e3:(ys.length==3)=Ad:=by rw[CI];omega
  unfold C3;dsimp only;rw[e2,e3];rfl
 |_=>rfl
theorem M5(ts:Ac Ag):∀ d ρ x,E8 ts d ρ≠.exn x:=fun d ρ x h=>by
 unfold E8 at h;cases d with
 |tup xs=>
  dsimp only at h;cases e:DL ts xs ρ with
  |some r=>rw[e]at h;cases h
  |none=>rw[e]at h;cases h
 |_=>cases h
theorem US(ts:Ac Ag):∀ d ρ x,Gn ts d ρ≠.exn x:=fun d ρ x h=>by
 unfold Gn at h;split at h
 ·split at h<;>cases h
 ·exact M5 ts _ ρ x h
theorem Uu{elt:Am}{gs:Ac Comprehension}{pos':AO}:∃ b,DA (.ListComp elt gs scope pos) (Aa (.Name x pos')) l env=pure b/\(b=Ab->env.scope.names.lookup x=Aa .local):=by
 refine⟨_,rfl,fun h=>?_⟩
 simp only[Ak,Bh]at h;exact h.1.1.2
theorem LX{v0:Am}{i:Ag}{e:E}(v:VX Γ CL k W T X)(hf:∀ x,X.fn x=Ab)(hi:T.N[i]?=Aa x)(hl:IA T x=Ab)(o:OkE Γ CL W X v0 e)(hfr:fr=Ab->D3 Γ e=Ab):SAs X CL W fr i (.Assign [.Name x p] v0 pos) (fun ρ=>evE Γ ρ e):=by
 have hN:X.N.Nodup:=by rw[v.N];exact v.nd
 have hi':X.N[i]?=Aa x:=by rw[v.N];exact hi
 have hx:Loc X.env.scope x:=by rw[v.sc];exact LF hl
 have sc:SC X CL W fr v0 (fun ρ=>evE Γ ρ e):=by
  cases fr with
  |false=>exact o.se.sc
  |true=>exact o.nw (hfr rfl)
 cases hc:Ii v0 with
 |true=>exact SC.sas hN hi' hx sc (OI hc) (.inl (hf x))
 |false=>
  obtain⟨tg,iter,elt,ifs,scope,pos2,N',ts,fi,fc,fe,as,g,rfl,B,h2,hGG,hg,ht,he,hs,ef⟩:=o.cp hc;obtain⟨b,hb,hb'⟩:=Uu (elt:=elt) (gs:=[⟨tg,iter,ifs,0⟩]) (scope:=scope) (pos:=pos2) (pos':=p) (x:=x) (l:=pos.line) (env:=X.env);cases b with
  |false=>exact SC.sas hN hi' hx sc hb (.inl (hf x))
  |true=>
   have q:=UB (pos2:=pos) v.calm B h2 hGG hg ht he hs hN hi' (hb' rfl) hb;have q':SAs X CL W Ab i (.Assign [.Name x p] (.ListComp elt [⟨tg,iter,ifs,0⟩] scope pos2) pos) (fun ρ=>evE Γ ρ e):=by
    have:(fun ρ=>evE Γ ρ e)=_:=funext ef
    rw[this];exact q
   cases fr with
   |true=>exact q'
   | false=>exact fun A=>PS.weak (q' A) fun D σ H ⟨hA,ρ,gd,z⟩=>⟨hA,ρ,gd,by
     dsimp only at z ⊢;cases e0:evE Γ ρ e with
     |ok d=>
      rw[e0]at z;exact fun v' H' s' r'=>z v' H' s' ⟨r'.1,fun _=>r'.2 rfl⟩
     |exn y=>rw[e0]at z;exact z
     | bad=>rw[e0]at z;exact z⟩
theorem Lm{e t:Am}(h:∀ x p,t≠.Name x p):Et [t] e l env=pure Ad:=by
 show DA e (Aa t) l env=pure Ad;cases e<;>first|rfl|(cases t<;>first|rfl|exact absurd rfl (h _ _))
theorem TM{y x' z:Ah}{p1 p2 p3 p4 p5 p6 tp p' q1:AO}{kt q0:Ag}{o a o' a':Am}:C3 [.Tuple [.Subscript (.Name x p1) (.Name y p2) p3,.Subscript (.Name x' p4) (.Name z p5) p6] kt tp] (.Tuple [.Subscript o a p,.Subscript o' a' p'] q0 q1) env=pure Af:=by
 unfold C3;cases env.blockKind<;>rfl
theorem NB(ρ:Rho)(e:E)(h:∀ i,e≠.var i):evS Γ ρ (.ret e)=O.of ρ (evE Γ ρ e) fun d=>.ret d (D3 Γ e):=by
 cases e<;>first|exact absurd rfl (h _)|(simp only[evS,top,Bool.or_false])
structure DefX (X:Cx):Prop where
 fn:∀ x,X.fn x=Ab
 ex:X.ex=[]
 st:X.stack=X.env::X.outer
 fm:X.env.frame=Aa X.env.locals
structure SndS (Γ:Gam) (CL:ClA) (k:Ag) (n:Ag):Prop where
 s:∀(W:XW)(T:Tc)(X:Cx)(x:Bp)(c:S),VX Γ CL k W T X->DefX X->En n T x c=Ab->SS X CL W x (fun ρ=>evS Γ ρ c)
 ss:∀(W:XW)(T:Tc)(X:Cx)(x:Ac Bp)(c:Ss),VX Γ CL k W T X->DefX X->chkSs n T x c=Ab->SSs X CL W x (fun ρ=>evSs Γ ρ c)
theorem VX.pw(v:VX Γ CL k W T X){pI:Pn}{Xw:Vq}(own:EI (model X.prog X.w) X.A X.env Xw):VX Γ CL k W0 T (Cx.pw X pI Xw):=⟨v.sc,v.kd,v.N,v.nd,v.calm,v.room,v.bl,v.fn,own,O1,QJ,v.xt,v.gl⟩
theorem STB.congr{st:Ac Bp}{f g:Rho->O}(h:STB X CL st f)(e:∀ ρ,g ρ=f ρ):STB X CL st g:=by
 have:g=f:=funext e;rw[this];exact h
theorem Z0(Z:SndS Γ CL k n)(W:XW)(T:Tc)(X:Cx)(st:Bp)(c:S)(v:VX Γ CL k W T X)(hf:DefX X)(h:En (n+1) T st c=Ab):SS X CL W st (fun ρ=>evS Γ ρ c):=by
  have E:=snd (Γ:=Γ) (CL:=CL) (k:=k) n;cases c with
  |pass=>exact absurd (show Ad=Ab from h) Av
  |brk=>exact absurd (show Ad=Ab from h) Av
  |cont=>exact absurd (show Ad=Ab from h) Av
  |asg i fresh e=>
    unfold En at h;dsimp only at h;split at h
    · simp only[Ak,Bh]at h;obtain⟨⟨h1,h2⟩,h3⟩:=h;have o:=E.e W T X _ e v h3;cases fresh with
      |false=>exact Px (LX (fr:=Ad) v hf.fn h1 h2 o (fun z=>nomatch z))
      |true=>
        cases hn:D3 Γ e with
        |true=>
          refine SS.ref (Wh (LX (fr:=Ab) v hf.fn h1 h2 o (fun _=>hn))) fun ρ=>.inr ?_
          show O.of ρ (evE Γ ρ e) (fun d=>if Ab=Ab then (if D3 Γ e=Ab then (match d with
            |.lst xs=>.next (ρ.set i (Aa (.lst xs,Ab)))
            |.dic xs=>.next (ρ.set i (Aa (.dic xs,Ab)))
            | _=>.bad) else .bad) else .next (ρ.set i (Aa (d,Ad))))=_
          rw[hn];rfl
        |false=>
          refine SS.ref (Px (LX (fr:=Ad) v hf.fn h1 h2 o (fun z=>nomatch z))) fun ρ=>?_
          have e0:evS Γ ρ (.asg i Ab e)=O.of ρ (evE Γ ρ e) (fun d=>if Ab=Ab then (if D3 Γ e=Ab then (match d with
            |.lst xs=>.next (ρ.set i (Aa (.lst xs,Ab)))
            |.dic xs=>.next (ρ.set i (Aa (.dic xs,Ab)))
            | _=>.bad) else .bad) else .next (ρ.set i (Aa (d,Ad)))):=rfl
          rw[e0,hn];cases evE Γ ρ e with
          |ok d=>exact .inl rfl
          |exn y=>exact .inr rfl
          |bad=>exact .inl rfl
    · cases h
  |asgT ts e=>
    unfold En at h;dsimp only at h;split at h
    · simp only[Ak]at h;obtain⟨⟨⟨h1,h2⟩,h3⟩,h5⟩:=h;exact Wg (cT ts) (Xs v hf.fn h1 h2) (E.e W T X _ e v h5).se (Lm (fun _ _ z=>by cases z)) (Xp h3) rfl (US ts)
    · cases h
  |expr e=>
    unfold En at h;dsimp only at h;split at h
    · simp only[Ak]at h;exact Wf (E.e W T X _ e v h.2).se (OI h.1)
    · cases h
  |ret e=>
    unfold En at h;dsimp only at h;split at h
    · have o:=E.e W T X _ e v h;cases hv:D3 Γ e with
      |true=>
        refine SS.ref (We (o.nw hv)) fun ρ=>.inr ?_
        rw[NB ρ e (fun i z=>by subst z;cases hv),hv]
      |false=>
        cases e with
        |var i=>
          cases n with
          |zero=>exact absurd (show Ad=Ab from h) Av
          |succ n=>
            unfold AY at h;dsimp only at h;split at h
            · exact Wc (F3 v h)
            · cases h
        |_=>
          refine SS.ref (Wd o.se) fun ρ=>.inr ?_
          rw[NB ρ _ (by intro i z;cases z),hv]
    · cases h
  |retN=>exact absurd (show Ad=Ab from h) Av
  |ife c a b=>
    unfold En at h;dsimp only at h;split at h
    · simp only[Ak]at h;exact Z6 (E.b W T X _ c v h.1.1) (Z.ss W T X _ a v hf h.1.2) (Z.ss W T X _ b v hf h.2)
    · cases h
  |fors t it body=>
    unfold En at h;dsimp only at h;split at h
    · simp only[Ak]at h;obtain⟨⟨⟨h1,h2⟩,h3⟩,h4⟩:=h;exact Pw v.own v.calm (W9 t) (Vb v hf.fn h1) (E.i W T X Ad _ _ it v rfl h3) (Z.ss W T X _ body v hf h4) (Ka h2) (fun _ _ _ z=>nomatch z)
    · cases h
  |forT ts it body=>
    unfold En at h;dsimp only at h;split at h
    · simp only[Ak]at h;obtain⟨⟨⟨⟨h0,h1⟩,h2⟩,h3⟩,h4⟩:=h;exact Pw v.own v.calm (O7 ts) (Va v hf.fn h0 h1) (E.i W T X Ab _ _ it v rfl h3) (Z.ss W T X _ body v hf h4) (Ka h2) (M5 ts)
    · cases h
  |whl c body=>exact absurd (show Ad=Ab from h) Av
  |rais c as=>
    unfold En at h;dsimp only at h;cases hc:T.rzs.any (fun p=>p.2==c) with
    |false=>
      have hb:∀ ds,Γ.xn c ds=.bad:=v.xt.xb c fun p hp z=>by
        have:T.rzs.any (fun p=>p.2==c)=Ab:=List.any_eq_true.mpr ⟨p,hp,Bh.mpr z⟩
        rw[hc]at this;cases this
      intro Fz B pI s σ H D I ⟨ρ,x,p⟩;have p':BV X.K CL Fz B W (O.of ρ (noX (evA Γ ρ as)) fun xs=>O.of ρ (Γ.xn c xs) fun x=>.exn x ρ) D:=p
      cases e1:evA Γ ρ as with
      |bad=>rw[e1]at p';exact p'.elim
      |exn y=>rw[e1]at p';exact p'.elim
      |ok ds=>
        rw[e1]at p';have p2:BV X.K CL Fz B W (O.of ρ (Γ.xn c ds) fun x=>.exn x ρ) D:=p'
        rw[hb ds]at p2;exact p2.elim
    |true=>rw[hc]at h;cases h
  |app i e=>
    unfold En at h;dsimp only at h;split at h
    · simp only[Ak,Bh]at h;obtain⟨⟨⟨⟨rfl,h1⟩,h2⟩,h3⟩,h4⟩:=h;exact Xf (F3 v h1) (E.e W T X _ e v h4).se rfl (by rw[CS h3];rfl) (by rw[h2];exact DS _) (CS h3) rfl
    · cases h
  |ext i e=>exact absurd (show Ad=Ab from h) Av
  |rev i=>exact absurd (show Ad=Ab from h) Av
  |clr i=>exact absurd (show Ad=Ab from h) Av
  |put i k e=>
    unfold En at h;dsimp only at h;split at h
    · simp only[Ak]at h;obtain⟨⟨⟨h1,h2⟩,h4⟩,h5⟩:=h;rename_i x p y sp v0 pos;exact Xe (F3 v h1) (E.e W T X _ k v h4).st (E.e W T X _ e v h5).se (fun w=>by cases y<;>first|rfl|cases h2) (Lm (fun _ _ z=>by cases z)) rfl rfl
    · cases h
  |tryx body c x hh=>exact absurd (show Ad=Ab from h) Av
  |swp i k l=>
    unfold En at h;dsimp only at h;cases q:Mz st with
    |none=>rw[q]at h;cases h
    |some t=>
      obtain⟨x1,y1,x2,z1,v0⟩:=t;rw[q]at h;simp only[Ak]at h;obtain⟨⟨⟨⟨h1,h2⟩,h3⟩,h4⟩,h5⟩:=h;obtain⟨p1,p2,p3,p4,p5,p6,kt,tp,o,a,p,o',a',p',q0,q1,pos,rfl,rfl⟩:=V6 q;exact Xd v.calm (F3 v h1) (F3 v h2) (F3 v h3) (F3 v h4) (E.e W T X _ _ v h5).se (fun _=>rfl) (fun _=>rfl) (Lm (fun _ _ z=>by cases z)) TM
  |apop j i e=>
    unfold En at h;dsimp only at h;split at h
    · rename_i x p m ap w cp pos;simp only[Ak,Bh]at h;obtain⟨⟨⟨rfl,h1⟩,h2⟩,h3⟩:=h;cases q:Kn w with
      |none=>rw[q]at h3;cases h3
      |some t=>
        obtain⟨y,u⟩:=t;rw[q]at h3;simp only[Ak]at h3;obtain⟨h3,h4⟩:=h3;obtain⟨p',ap',cp',rfl,h5,h6⟩:=V0 q;exact Wi (F3 v h1) (F3 v h3) (E.e W T X _ e v h4).se rfl rfl (by rw[h2];exact DS _) (by rw[h5];exact DS _) (CS h6)
    · cases h
  |ins=>exact absurd (show Ad=Ab from h) Av
  |dput=>exact absurd (show Ad=Ab from h) Av
  |dsd=>exact absurd (show Ad=Ab from h) Av
  |rel=>exact absurd (show Ad=Ab from h) Av
theorem Xy(Z:SndS Γ CL k n)(W:XW)(T:Tc)(X:Cx)(xs:Ac Bp)(c:Ss)(v:VX Γ CL k W T X)(hf:DefX X)(h:chkSs (n+1) T xs c=Ab):SSs X CL W xs (fun ρ=>evSs Γ ρ c):=by
 cases c with
 |nil=>
  simp only[chkSs,FU]at h;subst h;exact Wb
 |cons s ss=>
  by_cases hr:∃ i,s=.rel i
  ·obtain⟨i,rfl⟩:=hr;simp only[chkSs]at h;exact Wa i (Z.ss W T X xs ss v hf h)
  ·cases xs with
   |nil=>cases s<;>first|(simp[chkSs]at h;done)|exact absurd ⟨_,rfl⟩ hr
   |cons st r=>
    have h':En n T st s=Ab/\chkSs n T r ss=Ab:=by
     cases s<;>first|(simp only[chkSs,Ak]at h;exact h)|exact absurd ⟨_,rfl⟩ hr
    exact Uv (Z.s W T X st s v hf h'.1) (Z.ss W T X r ss v hf h'.2)
theorem MB:∀ n,SndS Γ CL k n
 |0=>⟨fun _ _ _ _ _ _ _ h=>absurd (show Ad=Ab from h) Av,fun _ _ _ _ _ _ _ h=>absurd (show Ad=Ab from h) Av⟩
 |n+1=>⟨Z0 (MB n),Xy (MB n)⟩
end
theorem IX{n:Ag}{ds:Ac D}{i:Ag}{d:D}{o:An}(h:(Bt n ds)[i]?=Aa (Aa (d,o))):o=Ad/\ds[i]?=Aa d:=by
 unfold Bt at h;by_cases hi:i<ds.length
 ·rw[D5 (by simpa using hi),DE]at h
  cases e:ds[i]? with
  |none=>rw[e]at h;cases h
  |some x=>rw[e]at h;cases h;exact⟨rfl,rfl⟩
 ·rw[Ro (by simpa using Nat.le_of_not_lt hi),Rt]at h
  split at h<;>cases h
theorem TD{N:Ac Ah}{i:Ag}{v:V}(h:vs[i]?=Aa v):(L2.start N vs)[i]?=Aa (Aa v):=by
 unfold L2.start;have hi:=(AM.mp h).1;rw[D5 (by simpa using hi),DE,h]
 rfl
theorem Ut{K:Fg}{A:Aj->Prop}{N:Ac Ah}{n:Ag}{ds:Ac D}(hn:N.length=n)(hA:AOk H A)(r:Reps K CL H A vs ds):Sx K CL (fun b o=>H b=Aa o) A (Bt n ds) (L2.start N vs) H:=by
 have own:∀ a,BY A (Bt n ds) (L2.start N vs) a->A a:=fun a h=>by
  rcases h with h|⟨j,d,h,_⟩
  ·exact h
  ·exact absurd (IX h).1 (by decide)
 have hlen:(Bt n ds).length=(L2.start N vs).length:=by
  unfold Bt L2.start;simp only[Bo,BG,Ry,r.length,hn]
 refine⟨⟨fun i d h=>?_,fun i d h=>absurd (IX h).1 (by decide),hlen⟩,fun a h=>hA a (own a h),fun j d a h _=>absurd (IX h).1 (by decide),fun i j d e a h _ _ _=>absurd (IX h).1 (by decide),fun b o h=>h,hlen⟩
 obtain⟨v,h1,h2⟩:=r.get (IX h).2;exact⟨v,TD h1,Rep.sub own _ h2⟩
def IE(K:Fg)(mg:Ah->Ap Ai)(fns:Ac (Ah×Ag×Ag))(bl:Ac Ah)(rzs exs gls:Ac (Ah×Ag))(Pg:Prg)(fuel:Ag)(p:Ah×Ag×Ag):Prop:=∃ f fd ps qual st N,mg p.1=Aa (.ref f)/\Fun K p.1 qual st f fd/\Gp K fd ps []/\ps.length=p.2.2%1000/\F8 fuel (Dv 1000 p.2.2) fns bl rzs exs gls ps N st (Pg.defs p.2.1)=Ab
structure Tab (K:Fg) (mg:Ah->Ap Ai) (CL:ClA) (fns:Ac (Ah×Ag×Ag)) (bl:Ac Ah) (rzs exs gls:Ac (Ah×Ag)) (Pg:Prg) (fuel:Ag):Prop where
 xt:XT Pg.up Pg.xn CL rzs exs K mg
 bln:∀ x,x∈bl->mg x=Af
 gl:∀ p∈gls,MJ K mg CL p.1 (Pg.G p.2)
 fn:∀ p∈fns,IE K mg fns bl rzs exs gls Pg fuel p
theorem YY(Pg:Prg)(n i:Ag):(gam Pg n).fr i=(Pg.defs i).fr:=by cases n<;>rfl
theorem YX(Pg:Prg)(n:Ag):(gam Pg n).up=Pg.up:=by cases n<;>rfl
theorem cU(Pg:Prg)(n:Ag):(gam Pg n).G=Pg.G:=by cases n<;>rfl
theorem YW(Pg:Prg)(n:Ag):(gam Pg n).xn=Pg.xn:=by cases n<;>rfl
section
variable{P:AN}{w:AU}{K:Fg}{mg:Ah->Ap Ai}{base:AG}{CL:ClA}{fns:Ac (Ah×Ag×Ag)}{bl:Ac Ah}{rzs exs gls:Ac (Ah×Ag)}{Pg:Prg}{fuel:Ag}
def Lvl(P:AN)(w:AU)(K:Fg)(mg:Ah->Ap Ai)(base:AG)(CL:ClA)(Pg:Prg)(n:Ag)(p:Ah×Ag×Ag):Prop:=∃ f fd ps,mg p.1=Aa (.ref f)/\CJ K (.ref f)=Ab/\Gp K fd ps []/\ps.length=p.2.2%1000/\(p.2.2<1000->FnOk P w K mg base (CXR P w) n f fd ps (spD K CL (p.2.2%1000) ((gam Pg n).fr p.2.1) ((gam Pg n).F p.2.1)))/\(1000<=p.2.2->HotOk P w K mg base n f fd ps (spH K CL (p.2.2%1000) ((gam Pg n).fr p.2.1) ((gam Pg n).F p.2.1)))
theorem Pc(t:Tab K mg CL fns bl rzs exs gls Pg fuel){n:Ag}(hlv:∀ q∈fns,Lvl P w K mg base CL Pg n q){qual:Ah}{st:Bp}{ps N:Ac Ah}{m id:Ag}(h2:Fun K x qual st f fd)(h4:ps.length=m)(h5:F8 fuel Ad fns bl rzs exs gls ps N st (Pg.defs id)=Ab):FnOk P w K mg base (CXR P w) (n+1) f fd ps (spD K CL m ((gam Pg (n+1)).fr id) ((gam Pg (n+1)).F id)):=by
  unfold F8 at h5;simp only[Ak,Bh,Bu,De,CW,GU,ne_eq]at h5;obtain⟨⟨⟨⟨⟨⟨⟨⟨c1,c2⟩,c3⟩,c4⟩,c5⟩,c6⟩,c7⟩,c8⟩,c9⟩:=h5;obtain⟨oc,od,kV,doc,pm,an,cdv,ct,osl,rfl,lk,hcd⟩:=h2.ex;refine P9 (N:=N) lk hcd ⟨c1,c2,c3,JV c4,c5,c6,c7⟩ (fun vs H Q E ⟨ds,A,z,_⟩=>z.trans h4.symm) fun A outer s H vs Q E hr ⟨ds,B,hl,hA,hreps,hpost⟩=>?_
  have xt:XT (gam Pg n).up (gam Pg n).xn CL rzs exs K mg:=by rw[YX,YW];exact t.xt
  have gl:∀ p∈gls,MJ K mg CL p.1 ((gam Pg n).G p.2):=by rw[cU];exact t.gl
  have key:∀ W:XW,(∀ x cls H',W x H'->(∃ C,CL x.c=Aa C/\cls=.ref C)->E cls Af H')->BV K CL (fun b o=>H b=Aa o) B W (evSs (gam Pg n) (Bt (Pg.defs id).n ds) (Pg.defs id).body) {nx:=fun _ H'=>Q .non H',rt:=Q} ->
      ∃ t,PSs (Fi (CXR P w) P w K mg base N qual (E7 st) f cdv A outer s H E) (Gi st) t/\t {nx:=fun _ H'=>Q .non H',rt:=Q} (start N vs) H:=fun W hW hp=>by
    have v:VX (gam Pg n) CL n W ⟨E7 st,N,fns,bl,rzs,exs,gls⟩ (Fi (CXR P w) P w K mg base N qual (E7 st) f cdv A outer s H E):=⟨rfl,c1,rfl,JV c4,rfl,hr,t.bln,hlv,ownR,dE hW,rzR hW,xt,gl⟩;exact⟨_,(MB fuel).ss W _ _ _ (Pg.defs id).body v ⟨fun _=>rfl,rfl,rfl,rfl⟩ c9 (fun b o=>H b=Aa o) B,_,Ut c8 hA hreps,hp⟩
  have no:∀ x cls H',W0 x H'->(∃ C,CL x.c=Aa C/\cls=.ref C)->E cls Af H':=fun _ _ _ z=>z.elim
  have e:(gam Pg (n+1)).F id ds=EE Pg.xs ((evSs (gam Pg n) (Bt (Pg.defs id).n ds) (Pg.defs id).body).ans (Pg.defs id).fr):=rfl;rw[e,YY]at hpost;have cutO:∀ r:R D,(∀ x,r≠.exn x)->EE Pg.xs r=r:=fun r hr=>by
    cases Pg.xs<;>cases r<;>first|rfl|exact absurd rfl (hr _)
  cases eo:evSs (gam Pg n) (Bt (Pg.defs id).n ds) (Pg.defs id).body with
  |next ρ'=>
    refine key W0 no ?_;rw[eo]at hpost ⊢;cases ef:(Pg.defs id).fr with
    |true=>rw[ef]at hpost;rw[cutO _ (by intro x z;cases z)]at hpost;exact hpost.elim
    |false=>
      rw[ef]at hpost;rw[cutO _ (by intro x z;cases z)]at hpost
      exact fun σ' H' x'=>hpost .non H' (fun b o z=>x'.same b o z) ⟨rfl,fun z=>nomatch z⟩
  |ret d b=>
    refine key W0 no ?_;rw[eo]at hpost ⊢;intro v H' sm rp fr;have hp2:(match EE Pg.xs (if ((Pg.defs id).fr&&(!b&&isL d))=Ab then R.bad else R.ok d) with
      |.ok d=>∀ v H',Az H H'->Dq K CL (Pg.defs id).fr H B H' v d->Q v H'
      |.exn x=>∀ cls dx H',Az H H'->JA K CL H' B cls dx x->E cls dx H'
      | .bad=>A5):=hpost
    cases ec:((Pg.defs id).fr&&(!b&&isL d)) with
    |true=>rw[ec,AC rfl,cutO _ (by intro x z;cases z)]at hp2;exact hp2.elim
    |false=>
      rw[ec,AJ (by decide),cutO _ (by intro x z;cases z)]at hp2
      refine hp2 v H' sm ⟨rp,fun efr es hd=>?_⟩
      subst hd;have eb:b=Ab:=by
        cases b with
        |true=>rfl
        |false=>rw[efr]at ec;cases ec
      obtain⟨a,xs,h1,h2,h3,h4⟩:=fr eb es rfl;refine⟨a,xs,h1,?_,h3,h4⟩;cases ha:H a with
      |none=>rfl
      |some o=>exact absurd ha (h2 o)
  |brk ρ'=>rw[eo]at hpost;have hp2:(match EE Pg.xs (R.bad:R D) with | .ok _=>_ | .exn _=>_ | .bad=>A5):=hpost;rw[cutO _ (by intro x z;cases z)]at hp2;exact hp2.elim
  |cont ρ'=>rw[eo]at hpost;have hp2:(match EE Pg.xs (R.bad:R D) with | .ok _=>_ | .exn _=>_ | .bad=>A5):=hpost;rw[cutO _ (by intro x z;cases z)]at hp2;exact hp2.elim
  |bad=>rw[eo]at hpost;have hp2:(match EE Pg.xs (R.bad:R D) with | .ok _=>_ | .exn _=>_ | .bad=>A5):=hpost;rw[cutO _ (by intro x z;cases z)]at hp2;exact hp2.elim
  |exn x ρ'=>
    rw[eo]at hpost;have hp2:(match EE Pg.xs (R.exn x:R D) with
      |.ok d=>∀ v H',Az H H'->Dq K CL (Pg.defs id).fr H B H' v d->Q v H'
      |.exn x=>∀ cls dx H',Az H H'->JA K CL H' B cls dx x->E cls dx H'
      | .bad=>A5):=hpost
    cases ex:Pg.xs with
    |false=>rw[ex]at hp2;exact hp2.elim
    |true=>
      rw[ex]at hp2;have hp3:(match (if x.fs.isEmpty=Ab then (R.exn x:R D) else .bad) with
        |.ok d=>∀ v H',Az H H'->Dq K CL (Pg.defs id).fr H B H' v d->Q v H'
        |.exn x=>∀ cls dx H',Az H H'->JA K CL H' B cls dx x->E cls dx H'
        | .bad=>A5):=hp2
      by_cases hfs:x.fs.isEmpty=Ab
      · rw[AC hfs]at hp3;refine key (fun y H'=>y=x/\Az H H') (fun y cls H' ⟨e1,sm⟩ ⟨C,d1,d2⟩=>?_) ?_
        · subst e1;exact hp3 cls Af H' sm ⟨C,d1,d2,.inl (List.isEmpty_iff.mp hfs)⟩
        · rw[eo];exact fun H' sm=>⟨rfl,sm⟩
      · rw[AJ hfs]at hp3;exact hp3.elim
theorem YU(t:Tab K mg CL fns bl rzs exs gls Pg fuel){n:Ag}(hlv:∀ q∈fns,Lvl P w K mg base CL Pg n q){qual:Ah}{st:Bp}{ps N:Ac Ah}{m id:Ag}(h2:Fun K x qual st f fd)(h4:ps.length=m)(h5:F8 fuel Ab fns bl rzs exs gls ps N st (Pg.defs id)=Ab):HotOk P w K mg base (n+1) f fd ps (spH K CL m ((gam Pg (n+1)).fr id) ((gam Pg (n+1)).F id)):=by
 exfalso
 unfold F8 at h5;simp[Qr]at h5
theorem L0(t:Tab K mg CL fns bl rzs exs gls Pg fuel):∀ n,∀ p∈fns,Lvl P w K mg base CL Pg n p
 |0,p,hp=>by
  obtain⟨f,fd,ps,qual,st,N,h1,h2,h3,h4,h5⟩:=t.fn p hp;exact⟨f,fd,ps,h1,h2.kp,h3,h4,fun _=>⟨fun vs H Q E ⟨ds,A,_,_,_,z⟩=>z.elim,fun A outer s H args us vs Q E _ _ _ _ ⟨ds,A,_,_,_,z⟩=>z.elim⟩,fun _=>⟨fun vs H Q E ⟨ds,A,_,_,_,z⟩=>z.elim,fun A ev outer s H args us vs Q E _ _ _ _ ⟨ds,A,_,_,_,z⟩=>z.elim⟩⟩
 |n+1,p,hp=>by
  obtain⟨f,fd,ps,qual,st,N,h1,h2,h3,h4,h5⟩:=t.fn p hp;refine⟨f,fd,ps,h1,h2.kp,h3,h4,fun hlt=>?_,fun hge=>?_⟩
  ·have eb:Dv 1000 p.2.2=Ad:=by
    cases e:Dv 1000 p.2.2 with
    |false=>rfl
    |true=>exact absurd (EH e) (by omega)
   rw[eb]at h5;exact Pc t (fun q hq=>L0 t n q hq) h2 h4 h5
  ·rw[Nat.ble_eq_true_of_le hge]at h5;exact YU t (fun q hq=>L0 t n q hq) h2 h4 h5
theorem Zz{s s':Ao}{e:Ai}(h:CXR P w [] H s (fun _ _ _=>A5) e s'):A5:=by
 obtain⟨_,_,_,_,_,_,_,_,_,_,_,_,_,_,z⟩:=h;exact z
theorem U5{up:Ag->Ac Ag}{xn:Ag->Ac D->R Ex}(h:∀ c ds,xn c ds=.bad):XT up xn (fun _=>Af) [] [] K mg:=⟨fun _ _ z=>(nomatch z),fun _ z=>(nomatch z),fun _ z=>(nomatch z),fun c ds=>.inl (h c ds),fun c _ ds=>h c ds⟩
def Jq(K:Fg):Sp:=fun vs H Q _=>∃(a:Aj)(ns:Ac Ae),vs=[.ref a]/\ns.length<=63/\SqL K H a (ns.map V.int)/\∀ v H',v=V.bl Ab->Q v H'
theorem law_fn(G:FnOk P w K mg base CX k f fd ps (spD K CL 1 Ad F))(h:∀ ns:Ac Ae,F [.lst (ns.map .int)]=.ok (.bl Ab)):FnOk P w K mg base CX k f fd ps (Jq K):=G.imp fun vs H Q E ⟨a,ns,e,hl,hS,q⟩=>by
 subst e;have rs:∀ l:Ac Ae,Reps K CL H A0 (l.map V.int) (l.map D.int):=fun l=>by
  induction l with
  |nil=>trivial
  |cons x l ih=>exact⟨rfl,ih⟩
 refine⟨[.lst (ns.map .int)],A0,rfl,fun _ z=>z.elim,⟨⟨a,_,rfl,.inl (fun z=>z),hS,rs ns⟩,trivial⟩,?_⟩
 rw[h ns];exact fun v H' _ r=>q v H' r.1
theorem W5(G:FnOk P w K mg base CX k f fd ps (spD K CL 1 Ad F))(h:∀ ns:Ac Ae,ns.length<=63->F [.lst (ns.map .int)]=.ok (.bl Ab)):FnOk P w K mg base CX k f fd ps (Jq K):=G.imp fun vs H Q E ⟨a,ns,e,hl,hS,q⟩=>by
 subst e;have rs:∀ l:Ac Ae,Reps K CL H A0 (l.map V.int) (l.map D.int):=fun l=>by
  induction l with
  |nil=>trivial
  |cons x l ih=>exact⟨rfl,ih⟩
 refine⟨[.lst (ns.map .int)],A0,rfl,fun _ z=>z.elim,⟨⟨a,_,rfl,.inl (fun z=>z),hS,rs ns⟩,trivial⟩,?_⟩
 rw[h ns hl];exact fun v H' _ r=>q v H' r.1
theorem LO{Q:α->Prop}:∀ x∈([]:Ac α),Q x:=fun _ h=>nomatch h
theorem all_cons{Q:α->Prop}{a:α}{l:Ac α}(h1:Q a)(h2:∀ x∈l,Q x):∀ x∈a::l,Q x:=List.forall_mem_cons.2 ⟨h1,h2⟩
def FnI(K:Fg)(f:Aj)(n:Ah)(st:Bp):Prop:=∃ fd,Fun K n n st f fd/\BK K AT n=Aa (Aa (.ref f))
theorem fni{st:Bp}{oc:Ai}{od an:Ap Aj}{osl:Be (Ap Ai)}{kV doc pm cdv ct:Ai}(a:BK K AT n=Aa (Aa (.ref f)))(l:K.lookup f=Aa ⟨oc,od,.func (Dl n n (Ie st) (Gi st) (E7 st) .none kV doc pm an cdv ct),osl⟩)(c:E5 K cdv n=Ab)(k:CJ K (.ref f)=Ab):FnI K f n st:=⟨_,YZ l c k,a⟩
def Bd(n:Ah)(st:Bp)(ps:Ac Ah)(us:Ac Ai):Prop:=∀(kV doc pm:Ai)(an:Ap Aj)(cdv ct:Ai),IM (Dl n n (Ie st) (Gi st) (E7 st) .none kV doc pm an cdv ct) ⟨us,[]⟩=pure (ps.zip us)
theorem Kc{st:Bp}{ps N:Ac Ah}(m id:Ag)(X:K.In h)(G:h.Ns AT mg)(A:FnI K f n st)(hl:ps.length=m%1000)(hc:F8 fuel (Dv 1000 m) fns bl rzs exs gls ps N st (Pg.defs id)=Ab)(hb:∀ us:Ac Ai,us.length=ps.length->Bd n st ps us):IE K mg fns bl rzs exs gls Pg fuel (n,id,m):=by
 obtain⟨fd,F,a⟩:=A;exact⟨_,_,_,_,_,_,GW X G a,F,F.binds fun kV doc pm an cdv ct us hu=>hb us hu kV doc pm an cdv ct,hl,hc⟩
theorem Km{st:Bp}{N:Ac Ah}(m id:Ag)(X:K.In h)(G:h.Ns AT mg)(A:FnI K f n st)(hl:1=m%1000)(hc:F8 fuel (Dv 1000 m) fns bl rzs exs gls [x0] N st (Pg.defs id)=Ab)(hb:∀ u0,Bd n st [x0] [u0]):IE K mg fns bl rzs exs gls Pg fuel (n,id,m):=
 Kc (ps:=[x0]) m id X G A hl hc fun us hu=>match us,hu with | [u0],_=>hb u0
theorem EZ{st:Bp}{N:Ac Ah}(m id:Ag)(X:K.In h)(G:h.Ns AT mg)(A:FnI K f n st)(hl:2=m%1000)(hc:F8 fuel (Dv 1000 m) fns bl rzs exs gls [x0,x1] N st (Pg.defs id)=Ab)(hb:∀ u0 u1,Bd n st [x0,x1] [u0,u1]):IE K mg fns bl rzs exs gls Pg fuel (n,id,m):=
 Kc (ps:=[x0,x1]) m id X G A hl hc fun us hu=>match us,hu with | [u0,u1],_=>hb u0 u1
theorem Iz{st:Bp}{N:Ac Ah}{x2:Ah}(m id:Ag)(X:K.In h)(G:h.Ns AT mg)(A:FnI K f n st)(hl:3=m%1000)(hc:F8 fuel (Dv 1000 m) fns bl rzs exs gls [x0,x1,x2] N st (Pg.defs id)=Ab)(hb:∀ u0 u1 u2,Bd n st [x0,x1,x2] [u0,u1,u2]):IE K mg fns bl rzs exs gls Pg fuel (n,id,m):=
 Kc (ps:=[x0,x1,x2]) m id X G A hl hc fun us hu=>match us,hu with | [u0,u1,u2],_=>hb u0 u1 u2
theorem MF{st:Bp}{N:Ac Ah}{x2 x3:Ah}(m id:Ag)(X:K.In h)(G:h.Ns AT mg)(A:FnI K f n st)(hl:4=m%1000)(hc:F8 fuel (Dv 1000 m) fns bl rzs exs gls [x0,x1,x2,x3] N st (Pg.defs id)=Ab)(hb:∀ u0 u1 u2 u3,Bd n st [x0,x1,x2,x3] [u0,u1,u2,u3]):IE K mg fns bl rzs exs gls Pg fuel (n,id,m):=
 Kc (ps:=[x0,x1,x2,x3]) m id X G A hl hc fun us hu=>match us,hu with | [u0,u1,u2,u3],_=>hb u0 u1 u2 u3
end
end Ov
namespace OvC
open PySem Ov
variable{p t k i j lo d:Ae}{xs ns:Ac Ae}{m n i' mid w:Ag}{Γ:Gam}{L:Ac D}{α:Type}{PP:D}{s6:Sl}
noncomputable def Lj:Df:=⟨4,Ad,(.cons (.ret (.call 1 (.cons (.var 0) (.cons (.bin .Add (.bin .Sub (.bin .Mult (.idx (.var 1) (.int 0)) (.bin .Sub (.bin .Mult (.idx (.var 2) (.int 1)) (.idx (.var 3) (.int 2))) (.bin .Mult (.idx (.var 2) (.int 2)) (.idx (.var 3) (.int 1))))) (.bin .Mult (.idx (.var 1) (.int 1)) (.bin .Sub (.bin .Mult (.idx (.var 2) (.int 0)) (.idx (.var 3) (.int 2))) (.bin .Mult (.idx (.var 2) (.int 2)) (.idx (.var 3) (.int 0)))))) (.bin .Mult (.idx (.var 1) (.int 2)) (.bin .Sub (.bin .Mult (.idx (.var 2) (.int 0)) (.idx (.var 3) (.int 1))) (.bin .Mult (.idx (.var 2) (.int 1)) (.idx (.var 3) (.int 0)))))) .nil)))) .nil)⟩
noncomputable abbrev tr(a b c:Ae):D:=.tup [.int a,.int b,.int c]
noncomputable def det(a0 a1 a2 b0 b1 b2 c0 c1 c2:Ae):Ae:=a0*(b1*c2-b2*c1)-a1*(b0*c2-b2*c0)+a2*(b0*c1-b1*c0)
def Sm(x:Ae):Prop:=0<=x/\x<11
theorem Sm.of(h:P4 p)(x:Ae):Sm (x%p):=⟨Bf _ (by have:=h.pos;omega),by have:=Ba x h.pos;have:=h.hi;omega⟩
theorem Nh{body:D->Rho->O}(I:Rho->Prop)(g:Ae->An):∀(L:Ac Ae),(∀ t∈L,∀ ρ,I ρ->(g t=Ab/\body (.int t) ρ=.ret (.int t) Ad)\/(g t=Ad/\∃ ρ',body (.int t) ρ=.next ρ'/\I ρ'))->∀ ρ,I ρ->(∃ t∈L,g t=Ab/\CU body (L.map D.int) ρ=.ret (.int t) Ad)\/((∀ t∈L,g t=Ad)/\∃ ρ',CU body (L.map D.int) ρ=.next ρ'/\I ρ')
 |[],_,ρ,i=>.inr ⟨(fun _ h=>nomatch h),ρ,rfl,i⟩
 |m::L,h,ρ,i=>by
  rcases h m (AA ..) ρ i with ⟨e1,e2⟩|⟨e1,ρ',e2,i'⟩
  ·refine .inl ⟨m,AA ..,e1,?_⟩;show (body (.int m) ρ).turn _=_;rw[e2];rfl
  ·rcases Nh I g L (fun m' h'=>h m' (As _ h')) ρ' i' with ⟨t,ht,a,b⟩|⟨a,r,b,c⟩
   ·refine .inl ⟨t,As _ ht,a,?_⟩;show (body (.int m) ρ).turn _=_;rw[e2];exact b
   ·refine .inr ⟨fun t ht=>?_,r,?_,c⟩
    ·rcases At.mp ht with rfl|ht
     ·exact e1
     ·exact a t ht
    ·show (body (.int m) ρ).turn _=_;rw[e2];exact b
noncomputable def HS:Ss:=(.cons (.ife (.cmp .Eq (.call 1 (.cons (.var 0) (.cons (.bin .Mult (.var 1) (.var 2)) .nil))) (.int 1)) (.cons (.ret (.var 2)) .nil) .nil) .nil)
noncomputable def JJ:Df:=⟨3,Ad,(.cons (.fors 2 (.rng2 (.int 1) (.var 0)) HS) (.cons (.rais 2 (.cons (.str (DI "a number with the rest 0 is not turned over")) .nil)) .nil))⟩
noncomputable def EY(p:Ae):Ac Ae:=(BB (p-1).toNat).map fun(k:Ag)=>1+(k:Ae)
theorem HV:t∈EY p↔1<=t/\t<p:=by
 unfold EY;rw[List.mem_map];constructor
 ·rintro⟨k,hk,rfl⟩;have:=Dc.mp hk;omega
 ·rintro⟨h1,h2⟩;exact⟨(t-1).toNat,Dc.mpr (by omega),by omega⟩
theorem N2(h:P4 p):CM 1 p=.ok ((EY p).map D.int):=by
 rcases h with rfl|rfl|rfl|rfl<;>rfl
theorem W7:∀ p:Fin 12,(p.val=3\/p.val=5\/p.val=7\/p.val=11)->∀ r:Fin 12,r.val<p.val->r.val≠0->∃ t:Fin 12,1<=t.val/\t.val<p.val/\r.val*t.val%p.val=1:=by decide +kernel
theorem Il{n:Ae}(h:P4 p)(hn:n%p≠0):∃ t,1<=t/\t<p/\n*t%p=1:=by
 have p0:0<p/\p<12:=by rcases h with rfl|rfl|rfl|rfl<;>decide
 obtain⟨q,rfl⟩:∃ q:Ag,p=q:=⟨p.toNat,by omega⟩
 have h0:=Bf n (b:=(q:Ae)) (by omega)
 have h1:=Ba n p0.1;obtain⟨r,hr⟩:∃ r:Ag,n%(q:Ae)=r:=⟨(n%(q:Ae)).toNat,by omega⟩
 obtain⟨t,t1,t2,t3⟩:=W7 ⟨q,by omega⟩ (by rcases h with e|e|e|e<;>simp<;>omega) ⟨r,by omega⟩ (by show r<q;omega) (by show r≠0;omega)
 refine⟨(t.val:Ae),by omega,by show (t.val:Ae)<q;exact Int.ofNat_lt.mpr t2,?_⟩
 have e:((r*t.val%q:Ag):Ae)=1:=by rw[show r*t.val%q=1 from t3];rfl
 rw[<-e,Int.natCast_emod,Int.natCast_mul,<-hr];exact(A8 n _ _).trans (by rw[A8 (n%(q:Ae)) (t.val:Ae) (q:Ae),A6 n (BR _)])
theorem CN{r:R D}{d:D}(h:r=.ok d):EE Ab r=.ok d:=by rw[h];rfl
def FD(p n t:Ae):Prop:=1<=t/\t<p/\n*t%p=1
theorem Nx{n u:Ae}(h1:FD p n t)(h2:FD p n u):t=u:=by
 have hp:1<p:=by have:=h1.1;have:=h1.2.1;omega
 have e:t%p=u%p:=by
  have a:t%p=t*(n*u)%p:=by rw[A8,h2.2.2,CO,A6 _ (BR p)]
  have b:u%p=(n*t)*u%p:=by rw[A8 (n*t) u p,h1.2.2,Cy,A6 _ (BR p)]
  rw[a,b]
  congr 1
  rw[<-Fq,Bj t n]
 rw[AI (by have:=h1.1;omega) h1.2.1,AI (by have:=h2.1;omega) h2.2.1]at e
 exact e
theorem Do{c x:Ae}(hp:P4 p)(hc:c%p≠0)(hx:x%p≠0):c*x%p≠0:=fun z=>by
 obtain⟨t,_,_,e⟩:=Il hp hc;refine hx ?_;have e1:x%p=(c*t)*x%p:=by rw[A8 (c*t) x p,e,Cy,A6 _ (BR p)]
 rw[e1,show c*t*x=t*(c*x) by rw[Bj c t,Fq],A8,z,BZ,AZ]
noncomputable def AV(p:Ae):Ac Ae->Ap Ae
 |[]=>Af
 |x::xs=>if x%p=0 then AV p xs else Aa (x%p)
theorem HZ{p:Ae}:∀{xs:Ac Ae},AV p xs=Af↔∀ x∈xs,x%p=0
 |[]=>by simp[AV]
 |x::xs=>by
  unfold AV;by_cases h:x%p=0
  ·rw[AC h,HZ (xs:=xs)];simp[h]
  ·rw[AJ h];simp[h]
theorem IT{p l:Ae}(hp:0<p):∀{xs:Ac Ae},AV p xs=Aa l->l%p≠0/\0<l/\l<p
 |[],h=>by cases h
 |x::xs,h=>by
  unfold AV at h;by_cases hx:x%p=0
  ·rw[AC hx]at h;exact IT hp h
  ·rw[AJ hx]at h;cases h;have h0:=Bf x (b:=p) (by omega)
   have h1:=Ba x hp;exact⟨by rw[A6 _ (BR p)];exact hx,by omega,h1⟩
theorem HW{p c:Ae}(hp:P4 p)(hc:c%p≠0){f:Ae->Ae}(hf:∀ x,f x%p=c*x%p):∀ xs:Ac Ae,AV p (xs.map f)=(AV p xs).map fun l=>c*l%p
 |[]=>rfl
 |x::xs=>by
  rw[Cf];unfold AV;rw[hf x];by_cases hx:x%p=0
  ·rw[AC hx,AC (by rw[A8,hx,BZ,AZ]),HW hp hc hf xs]
  ·rw[AJ hx,AJ (Do hp hc hx),Dz]
   congr 1
   rw[A8 c (x%p),A6 _ (BR p),<-A8]
noncomputable def ds(xs:Ac Ae):Ac D:=xs.map D.int
noncomputable def Cu(b:An)(xs:Ac Ae):D:=if b=Ab then .tup (ds xs) else .lst (ds xs)
theorem K2(b xs):B5 (Cu b xs)=.ok (ds xs):=by unfold Cu;cases b<;>rfl
theorem Ia{g:D->R An}{f:D->R D}{φ:Ae->Ae}:∀(xs:Ac Ae),(∀ x∈xs,g (.int x)=.ok Ab/\f (.int x)=.ok (.int (φ x)))->Bg g f (ds xs)=.ok (ds (xs.map φ))
 |[],_=>rfl
 |x::xs,h=>by
  obtain⟨h1,h2⟩:=h x (AA ..);show (g (.int x)).bind _=_;rw[h1,R.bind_ok,AC rfl,h2,R.bind_ok];show (Bg g f (ds xs)).bind _=_;rw[Ia xs fun y hy=>h y (As _ hy)]
  rfl
noncomputable def Cc:E:=(.bl Ab)
noncomputable def KC:E:=(.call 1 (.cons (.var 0) (.cons (.var 5) .nil)))
noncomputable def KB:E:=(.call 1 (.cons (.var 0) (.cons (.bin .Mult (.var 4) (.var 6)) .nil)))
noncomputable def F1:Ss:=(.cons (.ife (.cmp .NotEq (.var 3) (.int 0)) (.cons (.asg 4 Ad (.call 9 (.cons (.var 0) (.cons (.var 3) .nil)))) (.cons (.ret (.bi .tuple (.cons (.comp KB 6 (.e (.var 2)) Cc) .nil))) .nil)) .nil) .nil)
noncomputable def JU:Df:=⟨7,Ad,(.cons (.asg 2 Ad (.comp KC 5 (.e (.var 1)) Cc)) (.cons (.fors 3 (.e (.var 2)) F1) (.cons (.rais 3 (.cons (.str (DI "all the numbers have the rest 0")) .nil)) .nil)))⟩
noncomputable def fmI(p t:Ae)(xs:Ac Ae):Ac Ae:=xs.map fun x=>t*(x%p)%p
section
variable{Γ:Gam}{p:Ae}{xs:Ac Ae}{b:An}
end
theorem Nl{g:D->R An}{f:D->R D}{q:Ae->An}:∀(xs:Ac Ae),(∀ x∈xs,g (.int x)=.ok (q x)/\f (.int x)=.ok (.int x))->Bg g f (ds xs)=.ok (ds (xs.filter q))
 |[],_=>rfl
 |x::xs,h=>by
  obtain⟨h1,h2⟩:=h x (AA ..);have ih:=Nl xs fun y hy=>h y (As _ hy)
  show (g (.int x)).bind _=_;rw[h1,R.bind_ok];cases hq:q x with
  |true=>
   rw[AC rfl,h2,R.bind_ok,Dg,hq,AC rfl];show (Bg g f (ds xs)).bind _=_;rw[ih];rfl
  |false=>
   rw[AJ (by decide),Dg,hq,AJ (by decide)]
   exact ih
theorem T2{p l t:Ae}(it:FD p l t):((EY p).filter fun k=>decide (k*l%p=1)).head?=Aa t:=by
 have hm:t∈(EY p).filter fun k=>decide (k*l%p=1):=Bb.mpr ⟨HV.mpr ⟨it.1,it.2.1⟩,by simp[Bj t l,it.2.2]⟩
 cases e:(EY p).filter fun k=>decide (k*l%p=1) with
 |nil=>rw[e]at hm;cases hm
 |cons u us=>
  have hu:u∈(EY p).filter fun k=>decide (k*l%p=1):=by rw[e];exact AA ..
  obtain⟨h1,h2⟩:=Bb.mp hu;obtain⟨a,b⟩:=HV.mp h1;have h3:u*l%p=1:=by simpa using h2
  rw[Nx it ⟨a,b,by rw[Bj];exact h3⟩]
  rfl
theorem NA{l:Ae}(h:xs.head?=Aa l):Dr (ds xs) 0=.ok (.int l):=by
 cases xs with
 |nil=>cases h
 |cons x xs=>cases h;exact Lr (by omega) rfl
noncomputable abbrev own(xs:Ac Ae):Sl:=Aa (.lst (ds xs),Ab)
section
variable{Γ:Gam}{ns:Ac Ae}{a1 a2 a4 a6 a7 a8 a9 b0 b1 b2 b3 b4:Sl}{p:Ae}
end
section
variable{Γ:Gam}{ns:Ac Ae}{a1 a4 a6 a7 a8 a9 b2 b3 b4:Sl}{p m:Ae}{xs:Ac Ae}
end
def Cg(p x y:Ae):Prop:=x%p=y%p
section
variable{p a b c d:Ae}
theorem Cg.rfl:Cg p a a:=Eq.refl _
theorem Cg.of(h:a=b):Cg p a b:=by unfold Cg;rw[h]
theorem Cg.trans{a b c:Ae}(h:Cg p a b)(g:Cg p b c):Cg p a c:=Eq.trans h g
theorem Cg.symm(h:Cg p a b):Cg p b a:=Eq.symm h
theorem Cg.add(h:Cg p a b)(g:Cg p c d):Cg p (a+c) (b+d):=by unfold Cg at *;rw[Q5,h,g,<-Q5]
theorem Cg.sub(h:Cg p a b)(g:Cg p c d):Cg p (a-c) (b-d):=by unfold Cg at *;rw[Q8,h,g,<-Q8]
theorem Cg.mul(h:Cg p a b)(g:Cg p c d):Cg p (a*c) (b*d):=by unfold Cg at *;rw[A8,h,g,<-A8]
theorem Cg.md(h:a=b%p):Cg p a b:=by unfold Cg;rw[h,A6 _ (BR p)]
end
theorem Gk{p a0 a1 a2 b0 b1 b2 c0 c1 c2 x0 x1 x2 y0 y1 y2 z0 z1 z2:Ae}(h0:Cg p a0 x0)(h1:Cg p a1 x1)(h2:Cg p a2 x2)(h3:Cg p b0 y0)(h4:Cg p b1 y1)(h5:Cg p b2 y2)(h6:Cg p c0 z0)(h7:Cg p c1 z1)(h8:Cg p c2 z2):Cg p (a0*(b1*c2-b2*c1)-a1*(b0*c2-b2*c0)+a2*(b0*c1-b1*c0)) (x0*(y1*z2-y2*z1)-x1*(y0*z2-y2*z0)+x2*(y0*z1-y1*z0)):=
 ((h0.mul ((h4.mul h8).sub (h5.mul h7))).sub (h1.mul ((h3.mul h8).sub (h5.mul h6)))).add (h2.mul ((h3.mul h7).sub (h4.mul h6)))
theorem P4.m1(h:P4 p):(-1:Ae)%p≠0:=by rcases h with rfl|rfl|rfl|rfl<;>decide
theorem P4.o1(h:P4 p):(1:Ae)%p≠0:=by rcases h with rfl|rfl|rfl|rfl<;>decide
abbrev R3:=Ae×Ae×Ae
variable{a x y r g:R3}{q:R3->An}
noncomputable def A7(a:R3):D:=.lst [.int a.1,.int a.2.1,.int a.2.2]
noncomputable def Aq(a b c:R3):Ae:=det a.1 a.2.1 a.2.2 b.1 b.2.1 b.2.2 c.1 c.2.1 c.2.2
def In3(p:Ae)(a:R3):Prop:=(0<=a.1/\a.1<p)/\(0<=a.2.1/\a.2.1<p)/\(0<=a.2.2/\a.2.2<p)
structure GoodR (p:Ae) (a b c:R3):Prop where
 p4:P4 p
 ia:In3 p a
 ib:In3 p b
 ic:In3 p c
 nz:Aq a b c%p≠0
theorem GoodR.of{a b c a' b' c':R3}(h:GoodR p a b c)(hk:k%p≠0)(e:Cg p (Aq a' b' c') (k*Aq a b c))(hin:In3 p a'/\In3 p b'/\In3 p c'):GoodR p a' b' c':=⟨h.p4,hin.1,hin.2.1,hin.2.2,by rw[show Aq a' b' c'%p=_ from e];exact Do h.p4 hk h.nz⟩
noncomputable def HA(t:Ae)(a:R3):R3:=(a.1*t,a.2.1*t,a.2.2*t)
noncomputable def Fa(t:Ae)(a b:R3):R3:=(a.1+t*b.1,a.2.1+t*b.2.1,a.2.2+t*b.2.2)
noncomputable def mdR(p:Ae)(a:R3):R3:=(a.1%p,a.2.1%p,a.2.2%p)
noncomputable def scR(p t:Ae)(a:R3):R3:=mdR p (HA t a)
noncomputable def adR(p t:Ae)(a b:R3):R3:=mdR p (Fa t a b)
theorem Qg(h:0<p)(a:R3):In3 p (mdR p a):=⟨⟨Bf _ (by omega),Ba _ h⟩,⟨Bf _ (by omega),Ba _ h⟩,⟨Bf _ (by omega),Ba _ h⟩⟩
theorem Io(h:0<p)(t:Ae)(a:R3):In3 p (scR p t a):=Qg h _
theorem Im(h:0<p)(t:Ae)(a b:R3):In3 p (adR p t a b):=Qg h _
theorem QO(p t:Ae)(a b c:R3):Cg p (Aq (scR p t a) b c) (t*Aq a b c):=by
 refine Cg.trans (b:=Aq (HA t a) b c) ?_ (Cg.of (by unfold Aq det HA;grind))
 unfold Aq det;exact Gk (Cg.md (by rfl)) (Cg.md (by rfl)) (Cg.md (by rfl)) Cg.rfl Cg.rfl Cg.rfl Cg.rfl Cg.rfl Cg.rfl
theorem eF(p t:Ae)(a b c:R3):Cg p (Aq (adR p t a b) b c) (1*Aq a b c):=by
 refine Cg.trans (b:=Aq (Fa t a b) b c) ?_ (Cg.of (by unfold Aq det Fa;grind))
 unfold Aq det;exact Gk (Cg.md (by rfl)) (Cg.md (by rfl)) (Cg.md (by rfl)) Cg.rfl Cg.rfl Cg.rfl Cg.rfl Cg.rfl Cg.rfl
theorem eE(p t:Ae)(a b c:R3):Cg p (Aq (adR p t a c) b c) (1*Aq a b c):=by
 refine Cg.trans (b:=Aq (Fa t a c) b c) ?_ (Cg.of (by unfold Aq det Fa;grind))
 unfold Aq det;exact Gk (Cg.md (by rfl)) (Cg.md (by rfl)) (Cg.md (by rfl)) Cg.rfl Cg.rfl Cg.rfl Cg.rfl Cg.rfl Cg.rfl
theorem QN(p t:Ae)(a b c:R3):Cg p (Aq a (scR p t b) c) (t*Aq a b c):=by
 refine Cg.trans (b:=Aq a (HA t b) c) ?_ (Cg.of (by unfold Aq det HA;grind))
 unfold Aq det;exact Gk Cg.rfl Cg.rfl Cg.rfl (Cg.md (by rfl)) (Cg.md (by rfl)) (Cg.md (by rfl)) Cg.rfl Cg.rfl Cg.rfl
theorem eC(p t:Ae)(a b c:R3):Cg p (Aq a (adR p t b a) c) (1*Aq a b c):=by
 refine Cg.trans (b:=Aq a (Fa t b a) c) ?_ (Cg.of (by unfold Aq det Fa;grind))
 unfold Aq det;exact Gk Cg.rfl Cg.rfl Cg.rfl (Cg.md (by rfl)) (Cg.md (by rfl)) (Cg.md (by rfl)) Cg.rfl Cg.rfl Cg.rfl
theorem eB(p t:Ae)(a b c:R3):Cg p (Aq a (adR p t b c) c) (1*Aq a b c):=by
 refine Cg.trans (b:=Aq a (Fa t b c) c) ?_ (Cg.of (by unfold Aq det Fa;grind))
 unfold Aq det;exact Gk Cg.rfl Cg.rfl Cg.rfl (Cg.md (by rfl)) (Cg.md (by rfl)) (Cg.md (by rfl)) Cg.rfl Cg.rfl Cg.rfl
theorem QM(p t:Ae)(a b c:R3):Cg p (Aq a b (scR p t c)) (t*Aq a b c):=by
 refine Cg.trans (b:=Aq a b (HA t c)) ?_ (Cg.of (by unfold Aq det HA;grind))
 unfold Aq det;exact Gk Cg.rfl Cg.rfl Cg.rfl Cg.rfl Cg.rfl Cg.rfl (Cg.md (by rfl)) (Cg.md (by rfl)) (Cg.md (by rfl))
theorem eA(p t:Ae)(a b c:R3):Cg p (Aq a b (adR p t c a)) (1*Aq a b c):=by
 refine Cg.trans (b:=Aq a b (Fa t c a)) ?_ (Cg.of (by unfold Aq det Fa;grind))
 unfold Aq det;exact Gk Cg.rfl Cg.rfl Cg.rfl Cg.rfl Cg.rfl Cg.rfl (Cg.md (by rfl)) (Cg.md (by rfl)) (Cg.md (by rfl))
theorem dZ(p t:Ae)(a b c:R3):Cg p (Aq a b (adR p t c b)) (1*Aq a b c):=by
 refine Cg.trans (b:=Aq a b (Fa t c b)) ?_ (Cg.of (by unfold Aq det Fa;grind))
 unfold Aq det;exact Gk Cg.rfl Cg.rfl Cg.rfl Cg.rfl Cg.rfl Cg.rfl (Cg.md (by rfl)) (Cg.md (by rfl)) (Cg.md (by rfl))/-! ### draws -/
theorem Oy(h0:0<=k)(h1:k<ns.length):Dr (ns.map D.int) k=.ok (.int (ns.getD k.toNat 0)):=Lr h0 (by
 have:k.toNat<ns.length:=by omega
 simp[this])
noncomputable abbrev ownR(a b c:R3):Sl:=Aa (.lst [A7 a,A7 b,A7 c],Ab)
section
variable{Γ:Gam}{ns:Ac Ae}{at_ many s5 s0 s1 s2:Sl}{p t m:Ae}{a b c:R3}
end
section
variable{Γ:Gam}{ns:Ac Ae}{many s5 s6 s7 s8 s9 s0 s1 s2:Sl}{p:Ae}{a b c:R3}
end
noncomputable def DY(a b c:R3):D:=.lst [A7 a,A7 b,A7 c]
noncomputable def fE(a b c:R3):Ac Ae:=[a.1,a.2.1,a.2.2,b.1,b.2.1,b.2.2,c.1,c.2.1,c.2.2]
noncomputable def fmR(p t:Ae)(a:R3):R3:=(t*(a.1%p)%p,t*(a.2.1%p)%p,t*(a.2.2%p)%p)
def Bd(n:Ag)(x:Ae):Prop:=x.natAbs<2 ^ n
theorem Bd.mul{x y:Ae}(h:Bd m x)(g:Bd n y):Bd (m+n) (x*y):=by
 unfold Bd at *;rw[Int.natAbs_mul,Nat.pow_add];exact Nat.mul_lt_mul'' h g
theorem Bd.sub{x y:Ae}(h:Bd n x)(g:Bd n y):Bd (n+1) (x-y):=by
 unfold Bd at *;rw[Nat.pow_succ];omega
theorem Fx{x y:Ae}(h:Bd m x)(g:Bd n y)(hm:m<=2000)(hn:n<=2000):D0 x y=Ab:=by
 unfold D0 Bd at *;rw[Ak,AX,AX];exact⟨AF h (EO (by decide) hm),AF g (EO (by decide) hn)⟩
def B3(a:R3):Prop:=Bd 300 a.1/\Bd 300 a.2.1/\Bd 300 a.2.2
noncomputable def AH(q:An)(a:R3):D:=Cu q [a.1,a.2.1,a.2.2]
theorem Hc(q:An)(a:R3):Ck (AH q a) (.int 0)=.ok (.int a.1)/\Ck (AH q a) (.int 1)=.ok (.int a.2.1)/\Ck (AH q a) (.int 2)=.ok (.int a.2.2):=by cases q<;>exact⟨rfl,rfl,rfl⟩
def OY(Γ:Gam):Prop:=∀(p:Ae)(q:An)(a b c:R3),0<p->B3 a->B3 b->B3 c->Γ.F 61 [.int p,AH q a,AH q b,AH q c]=.ok (.int (Aq a b c%p))
theorem VJ(h:Hu Γ)(p:Ae)(q:An)(a b c:R3)(hp:0<p)(ha:B3 a)(hb:B3 b)(hc:B3 c):Lj.run Γ [.int p,AH q a,AH q b,AH q c]=.ok (.int (Aq a b c%p)):=by
 obtain⟨a0,a1,a2⟩:=Hc q a;obtain⟨b0,b1,b2⟩:=Hc q b;obtain⟨c0,c1,c2⟩:=Hc q c;have k:∀ {x y},Bd 300 x->Bd 300 y->D0 x y=Ab:=fun hx hy=>Fx hx hy (by decide) (by decide)
 have k2:∀ {x y z u v},Bd 300 x->Bd 300 y->Bd 300 z->Bd 300 u->Bd 300 v->D0 x (y*z-u*v)=Ab:=fun hx hy hz hu hv=>Fx hx ((hy.mul hz).sub (hu.mul hv)) (by decide) (by decide)
 simp[Lj,Df.run,Bt,a0,a1,a2,b0,b1,b2,c0,c1,c2,k hb.2.1 hc.2.2,k hb.2.2 hc.2.1,k hb.1 hc.2.2,k hb.2.2 hc.1,k hb.1 hc.2.1,k hb.2.1 hc.1,k2 ha.1 hb.2.1 hc.2.2 hb.2.2 hc.2.1,k2 ha.2.1 hb.1 hc.2.2 hb.2.2 hc.1,k2 ha.2.2 hb.1 hc.2.1 hb.2.1 hc.1,h p _ hp];rfl
section
variable{Γ:Gam}{ns:Ac Ae}{p t:Ae}{a b c r:R3}{made s6 s7:Sl}
end
theorem JI{p:Ae}:∀{xs ys:Ac Ae},xs.map (fun x=>x%p)=ys.map (fun x=>x%p)->AV p xs=AV p ys
 |[],[],_=>rfl
 |x::xs,y::ys,h=>by
  rw[Cf,Cf,Rg]at h;unfold AV;rw[h.1,JI h.2]
 |[],_::_,h=>by simp at h
 |_::_,[],h=>by simp at h
theorem Ur{ys:Ac Ae}(h:xs.map (fun x=>x%p)=ys.map (fun x=>x%p)):fmI p t xs=fmI p t ys:=by
 have e:∀ zs:Ac Ae,fmI p t zs=(zs.map fun x=>x%p).map fun r=>t*r%p:=fun zs=>by simp[fmI,FW,Q4]
 rw[e,e,h]
theorem cV(hp:0<p)(t:Ae)(a:R3):In3 p (fmR p t a):=⟨⟨Bf _ (by omega),Ba _ hp⟩,⟨Bf _ (by omega),Ba _ hp⟩,⟨Bf _ (by omega),Ba _ hp⟩⟩
section
variable{Γ:Gam}{ns:Ac Ae}{p m:Ae}{a b c:R3}{fa fb fc:R3}{q:An}{s9 s0 s1 s2:Sl}
end
def K7(Γ:Gam):Prop:=∀ p n:Ae,P4 p->n%p≠0->∃ t,1<=t/\t<p/\n*t%p=1/\Γ.F 9 [.int p,.int n]=.ok (.int t)
def LR(Γ:Gam):Prop:=∀(p:Ae)(b:An)(xs:Ac Ae)(l t:Ae),P4 p->AV p xs=Aa l->FD p l t->Γ.F 17 [.int p,Cu b xs]=.ok (.tup (ds (fmI p t xs)))
theorem Ud(hr:Hu Γ)(p n:Ae)(hp:P4 p)(z:n%p≠0):∃ t,1<=t/\t<p/\n*t%p=1/\JJ.run Γ [.int p,.int n]=.ok (.int t):=by
 have p0:=hp.pos;have ph:=hp.hi;have body:∀ t∈EY p,∀ ρ,(∃ s,ρ=[si p,si n,s])->(decide (n*t%p=1)=Ab/\CC Γ 2 HS (.int t) ρ=.ret (.int t) Ad)\/(decide (n*t%p=1)=Ad/\∃ ρ',CC Γ 2 HS (.int t) ρ=.next ρ'/\∃ s,ρ'=[si p,si n,s]):=by
  rintro t ht ρ ⟨s,rfl⟩;obtain⟨t1,t2⟩:=HV.mp ht;have m:Da n t=Ab:=J3 (by omega) (by omega)
  by_cases e:n*t%p=1
  ·exact .inl ⟨by simp[e],by simp[CC,HS,hr p (n*t) p0,m,e,D3]⟩
  ·exact .inr ⟨by simp[e],_,by simp[CC,HS,hr p (n*t) p0,m,e];rfl,_,rfl⟩
 have run:∀ o,CU (CC Γ 2 HS) ((EY p).map D.int) [si p,si n,Af]=o->JJ.run Γ [.int p,.int n]=(ED Γ (.cons (.rais 2 (.cons (.str (DI "a number with the rest 0 is not turned over")) .nil)) .nil) o).ans Ad:=by
  rintro o rfl;simp[JJ,Df.run,Bt,N2 hp]
 rcases Nh (fun ρ=>∃ s,ρ=[si p,si n,s]) (fun t=>decide (n*t%p=1)) (EY p) body [si p,si n,Af] ⟨_,rfl⟩ with ⟨t,ht,a,b⟩|⟨a,r,b,s,rfl⟩
 ·obtain⟨t1,t2⟩:=HV.mp ht;have a':n*t%p=1:=by simpa using a
  exact⟨t,t1,t2,a',by rw[run _ b];rfl⟩
 ·obtain⟨t,t1,t2,e⟩:=Il hp z;have:=a t (HV.mpr ⟨t1,t2⟩);simp[e]at this
section
variable{Γ:Gam}{p:Ae}{xs:Ac Ae}{b:An}
theorem N6(hr:Hu Γ)(ht:K7 Γ)(hp:P4 p)(rs:Ac Ae):∀(ys:Ac Ae),(∀ y∈ys,0<=y/\y<p)->∀ s3,(AV p ys=Af->∃ s3',CU (CC Γ 3 F1) (ds ys) [si p,sh (Cu b xs),sh (.lst (ds rs)),s3,Af,Af,Af]=.next [si p,sh (Cu b xs),sh (.lst (ds rs)),s3',Af,Af,Af])/\(∀ l t,AV p ys=Aa l->FD p l t->CU (CC Γ 3 F1) (ds ys) [si p,sh (Cu b xs),sh (.lst (ds rs)),s3,Af,Af,Af]=.ret (.tup (ds (rs.map fun r=>t*r%p))) Ad)
 |[],_,s3=>⟨fun _=>⟨s3,rfl⟩,(fun l t h=>nomatch h)⟩
 |y::ys,hy,s3=>by
  obtain⟨y0,y1⟩:=hy y (AA ..);have ym:y%p=y:=AI y0 y1;have ih:=N6 hr ht hp rs ys (fun z hz=>hy z (As _ hz)) (si y)
  have step:∀ o,CC Γ 3 F1 (.int y) [si p,sh (Cu b xs),sh (.lst (ds rs)),s3,Af,Af,Af]=o->CU (CC Γ 3 F1) (ds (y::ys)) [si p,sh (Cu b xs),sh (.lst (ds rs)),s3,Af,Af,Af]=o.turn (CU (CC Γ 3 F1) (ds ys)):=by
   rintro o rfl;rfl
  unfold AV;rw[ym];by_cases hz:y=0
  ·have e:CC Γ 3 F1 (.int y) [si p,sh (Cu b xs),sh (.lst (ds rs)),s3,Af,Af,Af]=.next [si p,sh (Cu b xs),sh (.lst (ds rs)),si y,Af,Af,Af]:=by
    simp[CC,F1,hz]
   rw[AC hz,step _ e];exact ih
  ·rw[AJ hz];refine⟨(fun z=>nomatch z),fun l t e it=>?_⟩
   cases e;obtain⟨u,u1,u2,u3,u4⟩:=ht p y hp (by rw[ym];exact hz)
   have:t=u:=Nx it ⟨u1,u2,u3⟩;subst this;have p0:=hp.pos;have ph:=hp.hi;have cp:Bg (cG Γ [si p,sh (Cu b xs),sh (.lst (ds rs)),si y,si t,Af,Af] 6 Cc) (cF Γ [si p,sh (Cu b xs),sh (.lst (ds rs)),si y,si t,Af,Af] 6 KB) (ds rs)=.ok (ds (rs.map fun r=>t*r%p)):=by
    refine Ia rs fun r _=>⟨rfl,?_⟩
    have m:Da t r=Ab:=G9 (by omega) (by omega)
    simp[cF,KB,m,hr p (t*r) p0]
   have e:CC Γ 3 F1 (.int y) [si p,sh (Cu b xs),sh (.lst (ds rs)),s3,Af,Af,Af]=.ret (.tup (ds (rs.map fun r=>t*r%p))) Ad:=by
    simp[CC,F1,hz,u4,cp,D3]
   rw[step _ e];rfl
theorem VL(hr:Hu Γ)(ht:K7 Γ)(hp:P4 p){l t:Ae}(e:AV p xs=Aa l)(it:FD p l t):JU.run Γ [.int p,Cu b xs]=.ok (.tup (ds (fmI p t xs))):=by
 have p0:=hp.pos;have cp:Bg (cG Γ [si p,sh (Cu b xs),Af,Af,Af,Af,Af] 5 Cc) (cF Γ [si p,sh (Cu b xs),Af,Af,Af,Af,Af] 5 KC) (ds xs)=.ok (ds (xs.map fun x=>x%p)):=by
  refine Ia xs fun x _=>⟨rfl,?_⟩
  simp[cF,KC,hr p x p0]
 have run:∀ o,CU (CC Γ 3 F1) (ds (xs.map fun x=>x%p)) [si p,sh (Cu b xs),sh (.lst (ds (xs.map fun x=>x%p))),Af,Af,Af,Af]=o->JU.run Γ [.int p,Cu b xs]=(ED Γ (.cons (.rais 3 (.cons (.str (DI "all the numbers have the rest 0")) .nil)) .nil) o).ans Ad:=by
  rintro o rfl;simp[JU,Df.run,Bt,K2,cp]
 have le:AV p (xs.map fun x=>x%p)=AV p xs:=by
  have:=HW (c:=1) hp (by rcases hp with rfl|rfl|rfl|rfl<;>decide) (f:=fun x=>x%p) (fun x=>by rw[Cy,A6 _ (BR p)]) xs
  rw[this];cases e:AV p xs with
  |none=>rfl
  |some l=>
   obtain⟨_,l0,l1⟩:=IT p0 e;simp[AI (Int.le_of_lt l0) l1]
 obtain⟨a,c⟩:=N6 (b:=b) (xs:=xs) hr ht hp (xs.map fun x=>x%p) (xs.map fun x=>x%p) (fun y hy=>by
  obtain⟨x,_,rfl⟩:=CP.mp hy;exact⟨Bf _ (by omega),Ba _ p0⟩) Af
 rw[le]at a c;rw[run _ (c l t e it)];simp[fmI,FW,Q4]
end
noncomputable def DR(a b c:R3):R3:=(a.1,b.1,c.1)
noncomputable def DQ(a b c:R3):R3:=(a.2.1,b.2.1,c.2.1)
noncomputable def DP(a b c:R3):R3:=(a.2.2,b.2.2,c.2.2)
noncomputable def Aw(a x:R3):Ae:=a.1*x.1+a.2.1*x.2.1+a.2.2*x.2.2
noncomputable def crs(a b:R3):R3:=(a.2.1*b.2.2-a.2.2*b.2.1,a.2.2*b.1-a.1*b.2.2,a.1*b.2.1-a.2.1*b.1)
theorem OE:∀ xs ys:Ac Ae,eqDs (ds xs) (ds ys)=decide (xs=ys)
 |[],[]=>rfl
 |[],_::_=>rfl
 |_::_,[]=>rfl
 |x::xs,y::ys=>by
  show ((x==y)&&eqDs (ds xs) (ds ys))=_;rw[OE xs ys,Cz];simp
theorem Mb(a b:R3):eqD (AH Ab a) (AH Ab b)=decide (a=b):=by
 show eqDs (ds [a.1,a.2.1,a.2.2]) (ds [b.1,b.2.1,b.2.2])=_;rw[OE,Cz];simp only[Rg,GS,AX];exact⟨fun ⟨h1,h2,h3⟩=>by obtain⟨a1,a2,a3⟩:=a;obtain⟨b1,b2,b3⟩:=b;simp at h1 h2 h3;rw[h1,h2,h3],fun h=>by rw[h];exact⟨rfl,rfl,rfl⟩⟩
noncomputable def Lk:Df:=⟨2,Ad,(.cons (.ife (.cmp .Eq (.var 0) (.var 1)) (.cons (.rais 7 (.cons (.var 0) .nil)) .nil) .nil) (.cons (.ret (.tup (.cons (.bin .Sub (.bin .Mult (.idx (.var 0) (.int 1)) (.idx (.var 1) (.int 2))) (.bin .Mult (.idx (.var 0) (.int 2)) (.idx (.var 1) (.int 1)))) (.cons (.bin .Sub (.bin .Mult (.idx (.var 0) (.int 2)) (.idx (.var 1) (.int 0))) (.bin .Mult (.idx (.var 0) (.int 0)) (.idx (.var 1) (.int 2)))) (.cons (.bin .Sub (.bin .Mult (.idx (.var 0) (.int 0)) (.idx (.var 1) (.int 1))) (.bin .Mult (.idx (.var 0) (.int 1)) (.idx (.var 1) (.int 0)))) .nil))))) .nil))⟩
def XE(Γ:Gam):Prop:=∀ a b:R3,B3 a->B3 b->a≠b->Γ.F 23 [AH Ab a,AH Ab b]=.ok (AH Ab (crs a b))
theorem VP(Γ:Gam)(a b:R3)(ha:B3 a)(hb:B3 b)(ne:a≠b):Lk.run Γ [AH Ab a,AH Ab b]=.ok (AH Ab (crs a b)):=by
 obtain⟨x0,x1,x2⟩:=Hc Ab a;obtain⟨y0,y1,y2⟩:=Hc Ab b;have k:∀ {u v},Bd 300 u->Bd 300 v->D0 u v=Ab:=fun hu hv=>Fx hu hv (by decide) (by decide)
 have f:∀ r:R3,flD 5 (AH Ab r)=Ab:=fun _=>rfl
 have e:eqD (AH Ab a) (AH Ab b)=Ad:=by rw[Mb];exact Cn ne
 simp[Lk,Df.run,Bt,f,e,x0,x1,x2,y0,y1,y2,k ha.2.1 hb.2.2,k ha.2.2 hb.2.1,k ha.2.2 hb.1,k ha.1 hb.2.2,k ha.1 hb.2.1,k ha.2.1 hb.1];rfl
noncomputable def bk0(a b c:R3):R3:=DR (crs b c) (crs c a) (crs a b)
noncomputable def bk1(a b c:R3):R3:=DQ (crs b c) (crs c a) (crs a b)
noncomputable def bk2(a b c:R3):R3:=DP (crs b c) (crs c a) (crs a b)
theorem Jo{x:Ae}(hp:P4 p)(h0:0<=x)(h1:x<p):Bd 10 x:=by
 unfold Bd;have:=hp.hi;omega
theorem Bd.mono{x:Ae}(h:Bd m x)(hm:m<=n):Bd n x:=AF h (EO (by decide) hm)
def Bn(n:Ag)(a:R3):Prop:=Bd n a.1/\Bd n a.2.1/\Bd n a.2.2
theorem Bn.b3(h:Bn n a)(hn:n<=300):B3 a:=⟨h.1.mono hn,h.2.1.mono hn,h.2.2.mono hn⟩
theorem Fh(hp:P4 p)(h:In3 p a):Bn 10 a:=⟨Jo hp h.1.1 h.1.2,Jo hp h.2.1.1 h.2.1.2,Jo hp h.2.2.1 h.2.2.2⟩
theorem L8(a b c:R3):Aq (bk0 a b c) (bk1 a b c) (bk2 a b c)=Aq a b c*Aq a b c:=by
 unfold Aq det bk0 bk1 bk2 DR DQ DP crs;grind
noncomputable def Bx(k:Ae)(a:R3):R3:=(k*a.1,k*a.2.1,k*a.2.2)
noncomputable def fk0(p:Ae)(a b c d:R3):Ae:=Aq d b c%p
noncomputable def fs0(p:Ae)(a b c d:R3):R3:=Bx (fk0 p a b c d) a
def gC(p:Ae)(a b c d:R3):Prop:=Aq a b c%p≠0/\Aq a b d%p≠0/\Aq a c d%p≠0/\Aq b c d%p≠0
def CgR(p:Ae)(x y:R3):Prop:=Cg p x.1 y.1/\Cg p x.2.1 y.2.1/\Cg p x.2.2 y.2.2
section
variable{p:Ae}{a b c a' b' c' x y z x':R3}{k l m k':Ae}
theorem CgR.rfl:CgR p a a:=⟨Cg.rfl,Cg.rfl,Cg.rfl⟩
theorem CgR.of(h:a=b):CgR p a b:=by rw[h];exact CgR.rfl
theorem CgR.trans(h:CgR p a b)(g:CgR p b c):CgR p a c:=⟨h.1.trans g.1,h.2.1.trans g.2.1,h.2.2.trans g.2.2⟩
theorem CgR.symm(h:CgR p a b):CgR p b a:=⟨h.1.symm,h.2.1.symm,h.2.2.symm⟩
theorem CgR.sc(hk:Cg p k k')(h:CgR p a b):CgR p (Bx k a) (Bx k' b):=⟨hk.mul h.1,hk.mul h.2.1,hk.mul h.2.2⟩
theorem Wz(ha:CgR p a a')(hb:CgR p b b')(hc:CgR p c c'):Cg p (Aq a b c) (Aq a' b' c'):=by
 unfold Aq det;exact Gk ha.1 ha.2.1 ha.2.2 hb.1 hb.2.1 hb.2.2 hc.1 hc.2.1 hc.2.2
theorem GO(ha:CgR p a a')(hb:CgR p b b'):Cg p (Aw a b) (Aw a' b'):=((ha.1.mul hb.1).add (ha.2.1.mul hb.2.1)).add (ha.2.2.mul hb.2.2)
theorem ZB(ha:CgR p a a')(hb:CgR p b b')(hc:CgR p c c'):CgR p (DR a b c) (DR a' b' c')/\CgR p (DQ a b c) (DQ a' b' c')/\CgR p (DP a b c) (DP a' b' c'):=⟨⟨ha.1,hb.1,hc.1⟩,⟨ha.2.1,hb.2.1,hc.2.1⟩,⟨ha.2.2,hb.2.2,hc.2.2⟩⟩
theorem cW(p t:Ae)(a:R3):CgR p (fmR p t a) (Bx t a):=by
 have key:∀ x:Ae,Cg p (t*(x%p)%p) (t*x):=fun x=>(Cg.md _root_.rfl).trans (Cg.rfl.mul (Cg.md _root_.rfl))
 exact⟨key _,key _,key _⟩
noncomputable def rm(a x y z:R3):R3:=(Aw (DR x y z) a,Aw (DQ x y z) a,Aw (DP x y z) a)
noncomputable def ap(a b c x:R3):R3:=(Aw a x,Aw b x,Aw c x)
theorem Zy(a b c x y z:R3):Aq (ap a b c x) (ap a b c y) (ap a b c z)=Aq a b c*Aq x y z:=by
 unfold Aq det ap Aw;grind
theorem Zx(k l m:Ae)(x y z:R3):Aq (Bx k x) (Bx l y) (Bx m z)=k*l*m*Aq x y z:=by
 unfold Aq det Bx;grind
theorem Mn(k l:Ae)(x:R3):Bx k (Bx l x)=Bx (k*l) x:=by
 unfold Bx;simp only[Fq]
theorem eJ(a b c x:R3)(k:Ae):ap a b c (Bx k x)=Bx k (ap a b c x):=by
 unfold ap Bx Aw;refine Bw ?_ (Bw ?_ ?_)<;>(simp only;grind)
end
section
variable{p:Ae}{a b c f0 f1 f2 f3 g0 g1 g2 g3:R3}{d0 d1 d2 d3:Ae}
theorem W1(hx:CgR p g0 (Bx d0 (ap a b c f0)))(hy:CgR p g1 (Bx d1 (ap a b c f1)))(hz:CgR p g2 (Bx d2 (ap a b c f2))):Cg p (Aq g0 g1 g2) (d0*d1*d2*(Aq a b c*Aq f0 f1 f2)):=
 (Wz hx hy hz).trans (Cg.of (by rw[Zx,Zy]))
end
section
variable{Γ:Gam}{ns:Ac Ae}
end
section
variable{Γ:Gam}{ns:Ac Ae}{many s5 s6 s7 s8 s9 s0 s1 s2:Sl}{p:Ae}{a b c:R3}
end
noncomputable def KG:E:=(.call 1 (.cons (.var 0) (.cons (.var 3) .nil)))
noncomputable def K1:Df:=⟨4,Ad,(.cons (.asg 2 Ad (.comp KG 3 (.e (.var 1)) Cc)) (.cons (.ife (.no (.bi .any (.cons (.var 2) .nil))) (.cons (.rais 5 (.cons (.str (DI "all six numbers have the rest 0")) .nil)) .nil) .nil) (.cons (.ret (.call 17 (.cons (.var 0) (.cons (.var 2) .nil)))) .nil)))⟩
theorem Oq:∀ xs:Ac Ae,El (ds xs)=.ok (xs.any fun x=>x != 0)
 |[]=>rfl
 |x::xs=>by
  show (Dt (.int x)).bind (fun b=>(El (ds xs)).bind fun c=>.ok (b||c))=_
  rw[Oq xs];rfl
theorem Oa{p:Ae}(hp:0<p):∀ xs:Ac Ae,((xs.map fun x=>x%p).any fun x=>x != 0)=(AV p xs).isSome
 |[]=>rfl
 |x::xs=>by
  unfold AV;rw[Cf,Rc];by_cases h:x%p=0
  ·rw[AC h,h,Oa hp xs];rfl
  ·rw[AJ h];simp[h]
theorem Qf(xs:Ac Ae):(xs.map fun x=>x%p).map (fun x=>x%p)=xs.map fun x=>x%p:=by
 rw[FW];refine DW fun x _=>?_
 show x%p%p=x%p;rw[A6 _ (BR p)]
def InL(p:Ae)(xs:Ac Ae):Prop:=∀ x∈xs,0<=x/\x<p
theorem InL.set(h:InL p xs)(k:Ag){v:Ae}(h0:0<=v)(h1:v<p):InL p (xs.set k v):=fun x hx=>by
 rcases List.mem_or_eq_of_mem_set hx with z|rfl
 ·exact h x z
 ·exact⟨h0,h1⟩
section
variable{Γ:Gam}{ns:Ac Ae}{p at_:Ae}
end
section
variable{Γ:Gam}{ns:Ac Ae}{p t:Ae}
end
structure C6 where
 c0:Ae
 c1:Ae
 c2:Ae
 c3:Ae
 c4:Ae
 c5:Ae
variable{C:C6}
noncomputable def C6.l(C:C6):Ac Ae:=[C.c0,C.c1,C.c2,C.c3,C.c4,C.c5]
noncomputable def Bq(C:C6):D:=.tup (ds C.l)
noncomputable def vI(C:C6)(x:R3):Ae:=C.c0*x.1*x.1+C.c1*x.2.1*x.2.1+C.c2*x.2.2*x.2.2+(C.c3*x.1*x.2.1+C.c4*x.1*x.2.2+C.c5*x.2.1*x.2.2)
noncomputable def tw0(C:C6):R3:=(2*C.c0,C.c3,C.c4)
noncomputable def tw1(C:C6):R3:=(C.c3,2*C.c1,C.c5)
noncomputable def tw2(C:C6):R3:=(C.c4,C.c5,2*C.c2)
noncomputable def bI(C:C6)(x y:R3):Ae:=Aw (ap (tw0 C) (tw1 C) (tw2 C) x) y
noncomputable def scC(k:Ae)(C:C6):C6:=⟨k*C.c0,k*C.c1,k*C.c2,k*C.c3,k*C.c4,k*C.c5⟩
def CgC(p:Ae)(C D:C6):Prop:=Cg p C.c0 D.c0/\Cg p C.c1 D.c1/\Cg p C.c2 D.c2/\Cg p C.c3 D.c3/\Cg p C.c4 D.c4/\Cg p C.c5 D.c5
noncomputable def pb(C:C6)(a b c:R3):C6:=⟨vI C (DR a b c),vI C (DQ a b c),vI C (DP a b c),bI C (DR a b c) (DQ a b c),bI C (DR a b c) (DP a b c),bI C (DQ a b c) (DP a b c)⟩
section
variable{p:Ae}{C D E:C6}{a b c a' b' c' x y x' y':R3}{k k':Ae}
theorem C6.ext'(h0:C.c0=D.c0)(h1:C.c1=D.c1)(h2:C.c2=D.c2)(h3:C.c3=D.c3)(h4:C.c4=D.c4)(h5:C.c5=D.c5):C=D:=by
 cases C;cases D;simp_all
theorem CgC.rfl:CgC p C C:=⟨Cg.rfl,Cg.rfl,Cg.rfl,Cg.rfl,Cg.rfl,Cg.rfl⟩
theorem CgC.of(h:C=D):CgC p C D:=by rw[h];exact CgC.rfl
theorem CgC.symm(h:CgC p C D):CgC p D C:=⟨h.1.symm,h.2.1.symm,h.2.2.1.symm,h.2.2.2.1.symm,h.2.2.2.2.1.symm,h.2.2.2.2.2.symm⟩
theorem CgC.trans(h:CgC p C D)(g:CgC p D E):CgC p C E:=⟨h.1.trans g.1,h.2.1.trans g.2.1,h.2.2.1.trans g.2.2.1,h.2.2.2.1.trans g.2.2.2.1,h.2.2.2.2.1.trans g.2.2.2.2.1,h.2.2.2.2.2.trans g.2.2.2.2.2⟩
theorem CgC.sc(hk:Cg p k k')(h:CgC p C D):CgC p (scC k C) (scC k' D):=⟨hk.mul h.1,hk.mul h.2.1,hk.mul h.2.2.1,hk.mul h.2.2.2.1,hk.mul h.2.2.2.2.1,hk.mul h.2.2.2.2.2⟩
theorem GP(h:CgC p C D)(hx:CgR p x x'):Cg p (vI C x) (vI D x'):=
 (((((h.1.mul hx.1).mul hx.1).add ((h.2.1.mul hx.2.1).mul hx.2.1)).add ((h.2.2.1.mul hx.2.2).mul hx.2.2))).add ((((h.2.2.2.1.mul hx.1).mul hx.2.1).add ((h.2.2.2.2.1.mul hx.1).mul hx.2.2)).add ((h.2.2.2.2.2.mul hx.2.1).mul hx.2.2))
theorem aA(h:CgC p C D):CgR p (tw0 C) (tw0 D)/\CgR p (tw1 C) (tw1 D)/\CgR p (tw2 C) (tw2 D):=
 ⟨⟨Cg.rfl.mul h.1,h.2.2.2.1,h.2.2.2.2.1⟩,⟨h.2.2.2.1,Cg.rfl.mul h.2.1,h.2.2.2.2.2⟩,⟨h.2.2.2.2.1,h.2.2.2.2.2,Cg.rfl.mul h.2.2.1⟩⟩
theorem Zo(ha:CgR p a a')(hb:CgR p b b')(hc:CgR p c c')(hx:CgR p x x'):CgR p (ap a b c x) (ap a' b' c' x'):=⟨GO ha hx,GO hb hx,GO hc hx⟩
theorem Mo(h:CgC p C D)(hx:CgR p x x')(hy:CgR p y y'):Cg p (bI C x y) (bI D x' y'):=
 let ⟨t0,t1,t2⟩:=aA h
 GO (Zo t0 t1 t2 hx) hy
theorem Qb(h:CgC p C D)(ha:CgR p a a')(hb:CgR p b b')(hc:CgR p c c'):CgC p (pb C a b c) (pb D a' b' c'):=
 let ⟨s0,s1,s2⟩:=ZB ha hb hc
 ⟨GP h s0,GP h s1,GP h s2,Mo h s0 s1,Mo h s0 s2,Mo h s1 s2⟩
theorem LV(k l:Ae)(C:C6):scC k (scC l C)=scC (k*l) C:=by
 unfold scC;simp only[Fq]
theorem JY(C:C6):scC 1 C=C:=by unfold scC;simp only[Cy]
theorem dB(k:Ae)(C:C6)(a b c:R3):pb (scC k C) a b c=scC k (pb C a b c):=by
 unfold pb scC vI bI ap tw0 tw1 tw2 Aw;refine C6.ext' ?_ ?_ ?_ ?_ ?_ ?_<;>(simp only;grind)
theorem Pp(C:C6)(x y z:R3)(k l m:Ae):vI C (k*x.1+l*y.1+m*z.1,k*x.2.1+l*y.2.1+m*z.2.1,k*x.2.2+l*y.2.2+m*z.2.2)=k*k*vI C x+l*l*vI C y+m*m*vI C z+(k*l*bI C x y+k*m*bI C x z+l*m*bI C y z):=by
 unfold vI bI ap tw0 tw1 tw2 Aw;simp only;grind
theorem Pe(C:C6)(x y z w:R3)(k l m:Ae):bI C (k*x.1+l*y.1+m*z.1,k*x.2.1+l*y.2.1+m*z.2.1,k*x.2.2+l*y.2.2+m*z.2.2) w=k*bI C x w+l*bI C y w+m*bI C z w:=by
 unfold bI ap tw0 tw1 tw2 Aw;simp only;grind
theorem J6(C:C6)(x y:R3):bI C x y=bI C y x:=by
 unfold bI ap tw0 tw1 tw2 Aw;simp only;grind
theorem LN(C:C6)(x:R3):bI C x x=2*vI C x:=by
 unfold vI bI ap tw0 tw1 tw2 Aw;simp only;grind
theorem dP(v0 v1 v2 b0 b1 b2:Ae)(u:R3):vI ⟨v0,v1,v2,b0,b1,b2⟩ u=u.1*u.1*v0+u.2.1*u.2.1*v1+u.2.2*u.2.2*v2+(u.1*u.2.1*b0+u.1*u.2.2*b1+u.2.1*u.2.2*b2):=by
 unfold vI;simp only;grind
theorem dQ(v0 v1 v2 b0 b1 b2:Ae)(u w:R3):bI ⟨v0,v1,v2,b0,b1,b2⟩ u w=u.1*(w.1*(2*v0)+w.2.1*b0+w.2.2*b1)+u.2.1*(w.1*b0+w.2.1*(2*v1)+w.2.2*b2)+u.2.2*(w.1*b1+w.2.1*b2+w.2.2*(2*v2)):=by
 unfold bI ap tw0 tw1 tw2 Aw;simp only;grind
theorem eU(C:C6)(s0 s1 s2 u:R3):vI C (u.1*s0.1+u.2.1*s1.1+u.2.2*s2.1,u.1*s0.2.1+u.2.1*s1.2.1+u.2.2*s2.2.1,u.1*s0.2.2+u.2.1*s1.2.2+u.2.2*s2.2.2)=vI ⟨vI C s0,vI C s1,vI C s2,bI C s0 s1,bI C s0 s2,bI C s1 s2⟩ u:=by
 exact(Pp C s0 s1 s2 u.1 u.2.1 u.2.2).trans (dP _ _ _ _ _ _ u).symm
theorem eV(C:C6)(s0 s1 s2 u w:R3):bI C (u.1*s0.1+u.2.1*s1.1+u.2.2*s2.1,u.1*s0.2.1+u.2.1*s1.2.1+u.2.2*s2.2.1,u.1*s0.2.2+u.2.1*s1.2.2+u.2.2*s2.2.2) (w.1*s0.1+w.2.1*s1.1+w.2.2*s2.1,w.1*s0.2.1+w.2.1*s1.2.1+w.2.2*s2.2.1,w.1*s0.2.2+w.2.1*s1.2.2+w.2.2*s2.2.2)=bI ⟨vI C s0,vI C s1,vI C s2,bI C s0 s1,bI C s0 s2,bI C s1 s2⟩ u w:=by
 have e:∀ s:R3,bI C s (w.1*s0.1+w.2.1*s1.1+w.2.2*s2.1,w.1*s0.2.1+w.2.1*s1.2.1+w.2.2*s2.2.1,w.1*s0.2.2+w.2.1*s1.2.2+w.2.2*s2.2.2)=w.1*bI C s0 s+w.2.1*bI C s1 s+w.2.2*bI C s2 s:=fun s=>(J6 C _ _).trans (Pe C s0 s1 s2 s w.1 w.2.1 w.2.2)
 refine Eq.trans ?_ (dQ _ _ _ _ _ _ u w).symm;rw[Pe,e,e,e,LN C s0,LN C s1,LN C s2,J6 C s1 s0,J6 C s2 s0,J6 C s2 s1]
theorem dC(C:C6)(a b c x y z:R3):pb (pb C a b c) x y z=pb C (rm a x y z) (rm b x y z) (rm c x y z):=by
 have v:=fun u=>(eU C (DR a b c) (DQ a b c) (DP a b c) u).symm
 have w:=fun u u'=>(eV C (DR a b c) (DQ a b c) (DP a b c) u u').symm
 exact C6.ext' (v (DR x y z)) (v (DQ x y z)) (v (DP x y z)) (w (DR x y z) (DQ x y z)) (w (DR x y z) (DP x y z)) (w (DQ x y z) (DP x y z))
theorem dD(C:C6)(k:Ae):pb C (k,0,0) (0,k,0) (0,0,k)=scC (k*k) C:=by
 unfold pb scC vI bI ap tw0 tw1 tw2 Aw DR DQ DP;refine C6.ext' ?_ ?_ ?_ ?_ ?_ ?_<;>(simp only;grind)
theorem XX(a b c:R3):rm a (bk0 a b c) (bk1 a b c) (bk2 a b c)=(Aq a b c,0,0)/\rm b (bk0 a b c) (bk1 a b c) (bk2 a b c)=(0,Aq a b c,0)/\rm c (bk0 a b c) (bk1 a b c) (bk2 a b c)=(0,0,Aq a b c):=by
 unfold rm Aw bk0 bk1 bk2 DR DQ DP crs Aq det;refine⟨?_,?_,?_⟩<;>refine Bw ?_ (Bw ?_ ?_)<;>(simp only;grind)
def PrC(p:Ae)(C D:C6):Prop:=∃ d,d%p≠0/\CgC p C (scC d D)
theorem PrC.rfl(hp:P4 p):PrC p C C:=⟨1,hp.o1,CgC.of (JY C).symm⟩
theorem PrC.trans(hp:P4 p)(i:PrC p C D)(j:PrC p D E):PrC p C E:=by
 obtain⟨d,dz,e⟩:=i;obtain⟨d',dz',e'⟩:=j;exact⟨d*d',Do hp dz dz',e.trans ((CgC.sc Cg.rfl e').trans (CgC.of (LV _ _ _)))⟩
theorem O6(hp:P4 p)(dz:k%p≠0):∃ u,u%p≠0/\Cg p (u*k) 1:=by
 obtain⟨u,u1,u2,u3⟩:=Il hp dz;refine⟨u,by rw[AI (by omega) u2];omega,?_⟩
 show u*k%p=1%p;rw[Bj,u3,AI (by decide) (by have:=hp.lo;omega)]
theorem PrC.symm(hp:P4 p)(i:PrC p C D):PrC p D C:=by
 obtain⟨d,dz,e⟩:=i;obtain⟨u,uz,o⟩:=O6 hp dz;refine⟨u,uz,?_⟩;have q:=CgC.sc (k:=u) (k':=u) Cg.rfl e;rw[LV]at q;exact(q.trans ((CgC.sc o CgC.rfl).trans (CgC.of (JY D)))).symm
theorem PrC.pb(i:PrC p C D):PrC p (OvC.pb C a b c) (OvC.pb D a b c):=by
 obtain⟨d,dz,e⟩:=i;exact⟨d,dz,(Qb e CgR.rfl CgR.rfl CgR.rfl).trans (CgC.of (dB d D a b c))⟩
def InC(p:Ae)(C:C6):Prop:=∀ x∈C.l,0<=x/\x<p
theorem Uh(hp:P4 p)(iC:InC p C)(iD:InC p D)(lC:AV p C.l=Aa 1)(lD:AV p D.l=Aa 1)(h:PrC p C D):C=D:=by
 obtain⟨d,dz,e⟩:=h;have p1:1<p:=by have:=hp.lo;omega
 have rs:C.l.map (fun x=>x%p)=(D.l.map fun x=>d*x).map (fun x=>x%p):=by
  obtain⟨h0,h1,h2,h3,h4,h5⟩:=e;simp only[C6.l,Cf,G1];rw[show C.c0%p=d*D.c0%p from h0,show C.c1%p=d*D.c1%p from h1,show C.c2%p=d*D.c2%p from h2,show C.c3%p=d*D.c3%p from h3,show C.c4%p=d*D.c4%p from h4,show C.c5%p=d*D.c5%p from h5]
 have el:=HW hp dz (f:=fun x=>d*x) (fun _=>rfl) D.l
 rw[lD,<-JI rs,lC,Dz,BP,CO]at el;have o:Cg p d 1:=by
  show d%p=1%p;rw[<-el,AI (by decide) p1]
 obtain⟨h0,h1,h2,h3,h4,h5⟩:=e.trans ((CgC.sc o CgC.rfl).trans (CgC.of (JY D)));have same:∀{u v:Ae},u∈C.l->v∈D.l->Cg p u v->u=v:=fun hu hv huv=>by
  have:=show _%p=_%p from huv
  rwa [AI (iC _ hu).1 (iC _ hu).2,AI (iD _ hv).1 (iD _ hv).2]at this
 exact C6.ext' (same (by simp[C6.l]) (by simp[C6.l]) h0) (same (by simp[C6.l]) (by simp[C6.l]) h1) (same (by simp[C6.l]) (by simp[C6.l]) h2) (same (by simp[C6.l]) (by simp[C6.l]) h3) (same (by simp[C6.l]) (by simp[C6.l]) h4) (same (by simp[C6.l]) (by simp[C6.l]) h5)
end
noncomputable def LK:Df:=⟨5,Ad,(.cons (.asg 3 Ad (.bin .Add (.bin .Add (.bin .Mult (.bin .Mult (.idx (.var 1) (.int 0)) (.idx (.var 2) (.int 0))) (.idx (.var 2) (.int 0))) (.bin .Mult (.bin .Mult (.idx (.var 1) (.int 1)) (.idx (.var 2) (.int 1))) (.idx (.var 2) (.int 1)))) (.bin .Mult (.bin .Mult (.idx (.var 1) (.int 2)) (.idx (.var 2) (.int 2))) (.idx (.var 2) (.int 2))))) (.cons (.asg 4 Ad (.bin .Add (.bin .Add (.bin .Mult (.bin .Mult (.idx (.var 1) (.int 3)) (.idx (.var 2) (.int 0))) (.idx (.var 2) (.int 1))) (.bin .Mult (.bin .Mult (.idx (.var 1) (.int 4)) (.idx (.var 2) (.int 0))) (.idx (.var 2) (.int 2)))) (.bin .Mult (.bin .Mult (.idx (.var 1) (.int 5)) (.idx (.var 2) (.int 1))) (.idx (.var 2) (.int 2))))) (.cons (.ret (.call 1 (.cons (.var 0) (.cons (.bin .Add (.var 3) (.var 4)) .nil)))) .nil)))⟩
theorem ix6(C:C6):Ck (Bq C) (.int 0)=.ok (.int C.c0)/\Ck (Bq C) (.int 1)=.ok (.int C.c1)/\Ck (Bq C) (.int 2)=.ok (.int C.c2)/\Ck (Bq C) (.int 3)=.ok (.int C.c3)/\Ck (Bq C) (.int 4)=.ok (.int C.c4)/\Ck (Bq C) (.int 5)=.ok (.int C.c5):=⟨rfl,rfl,rfl,rfl,rfl,rfl⟩
structure BC (C:C6):Prop where
 b0:Bd 10 C.c0
 b1:Bd 10 C.c1
 b2:Bd 10 C.c2
 b3:Bd 10 C.c3
 b4:Bd 10 C.c4
 b5:Bd 10 C.c5
theorem InC.b(hp:P4 p)(h:InC p C):BC C:=by
 have k:∀ x∈C.l,Bd 10 x:=fun x hx=>Jo hp (h x hx).1 (h x hx).2
 exact⟨k _ (by simp[C6.l]),k _ (by simp[C6.l]),k _ (by simp[C6.l]),k _ (by simp[C6.l]),k _ (by simp[C6.l]),k _ (by simp[C6.l])⟩
noncomputable def t0(p:Ae)(C:C6):R3:=(2*C.c0%p,C.c3,C.c4)
noncomputable def t1(p:Ae)(C:C6):R3:=(C.c3,2*C.c1%p,C.c5)
noncomputable def t2(p:Ae)(C:C6):R3:=(C.c4,C.c5,2*C.c2%p)
def Po(Γ:Gam):Prop:=∀(p:Ae)(b:An)(xs:Ac Ae)(l t:Ae),P4 p->AV p xs=Aa l->FD p l t->Γ.F 122 [.int p,Cu b xs]=.ok (.tup (ds (fmI p t xs)))
theorem Yb(hr:Hu Γ)(hf:LR Γ){b:An}{l t:Ae}(hp:P4 p)(e:AV p xs=Aa l)(it:FD p l t):K1.run Γ [.int p,Cu b xs]=.ok (.tup (ds (fmI p t xs))):=by
 have p0:=hp.pos;have cp:Bg (cG Γ [si p,sh (Cu b xs),Af,Af] 3 Cc) (cF Γ [si p,sh (Cu b xs),Af,Af] 3 KG) (ds xs)=.ok (ds (xs.map fun x=>x%p)):=by
  refine Ia xs fun x _=>⟨rfl,?_⟩
  simp[cF,KG,hr p x p0]
 have an:=Oq (xs.map fun x=>x%p)
 rw[Oa p0,e]at an;have le:AV p (xs.map fun x=>x%p)=Aa l:=by rw[JI (Qf xs)];exact e
 have f:=hf p Ad (xs.map fun x=>x%p) l t hp le it
 rw[Ur (Qf xs)]at f;have f':Γ.F 17 [.int p,.lst (ds (xs.map fun x=>x%p))]=.ok (.tup (ds (fmI p t xs))):=f
 simp[K1,Df.run,Bt,K2,cp,an,f']
theorem P6{E:C6}{l:Ae}(hp:P4 p)(el:AV p E.l=Aa l):∃(t:Ae)(D:C6),FD p l t/\fmI p t E.l=D.l/\InC p D/\AV p D.l=Aa 1/\PrC p D E:=by
 have p0:=hp.pos;obtain⟨lz,_,_⟩:=IT p0 el;obtain⟨t,t1,t2,t3⟩:=Il hp lz;have tz:t%p≠0:=by rw[AI (by omega) t2];omega
 have ff:∀ x,(t*(x%p)%p)%p=t*x%p:=fun x=>by rw[A6 _ (BR p),A8 t (x%p) p,A6 _ (BR p),<-A8]
 have lv:=HW hp tz (f:=fun x=>t*(x%p)%p) ff E.l
 rw[el,Dz,Bj,t3]at lv;have key:∀ x:Ae,Cg p (t*(x%p)%p) (t*x):=fun x=>(Cg.md rfl).trans (Cg.rfl.mul (Cg.md rfl))
 refine⟨t,⟨t*(E.c0%p)%p,t*(E.c1%p)%p,t*(E.c2%p)%p,t*(E.c3%p)%p,t*(E.c4%p)%p,t*(E.c5%p)%p⟩,⟨t1,t2,t3⟩,rfl,fun x hx=>?_,lv,t,tz,key _,key _,key _,key _,key _,key _⟩
 obtain⟨y,_,rfl⟩:=CP.mp (show x∈E.l.map fun x=>t*(x%p)%p from hx)
 exact⟨Bf _ (by omega),Ba _ p0⟩
section
variable{Γ:Gam}{ns:Ac Ae}{p at_:Ae}{φ:Ae->Ae}
end
noncomputable def e0R:R3:=(1,0,0)
noncomputable def e1R:R3:=(0,1,0)
noncomputable def e2R:R3:=(0,0,1)
noncomputable def e3R:R3:=(1,1,1)
theorem eS(hp:P4 p):In3 p e0R/\In3 p e1R/\In3 p e2R/\In3 p e3R:=by
 have z:0<=(0:Ae)/\(0:Ae)<p:=⟨by decide,hp.pos⟩
 have o:0<=(1:Ae)/\(1:Ae)<p:=⟨by decide,by have:=hp.lo;omega⟩
 exact⟨⟨o,z,z⟩,⟨z,o,z⟩,⟨z,z,o⟩,⟨o,o,o⟩⟩
theorem dY(hp:P4 p):gC p e0R e1R e2R e3R:=by
 rcases hp with rfl|rfl|rfl|rfl<;>exact⟨by decide,by decide,by decide,by decide⟩
def Pr(p:Ae)(x y:R3):Prop:=∃ d,d%p≠0/\CgR p x (Bx d y)
section
variable{p:Ae}{a b c x y z f g h:R3}{k:Ae}
theorem Kb(x:R3):Bx 1 x=x:=by unfold Bx;simp only[Cy]
theorem Pr.rfl(hp:P4 p):Pr p x x:=⟨1,hp.o1,CgR.of (Kb x).symm⟩
theorem Pr.trans(hp:P4 p)(i:Pr p x y)(j:Pr p y z):Pr p x z:=by
 obtain⟨d,dz,e⟩:=i;obtain⟨d',dz',e'⟩:=j;exact⟨d*d',Do hp dz dz',e.trans ((CgR.sc Cg.rfl e').trans (CgR.of (Mn _ _ _)))⟩
theorem Pr.symm(hp:P4 p)(i:Pr p x y):Pr p y x:=by
 obtain⟨d,dz,e⟩:=i;obtain⟨u,u1,u2,u3⟩:=Il hp dz;have uz:u%p≠0:=by rw[AI (by omega) u2];omega
 have o:Cg p (u*d) 1:=by
  show u*d%p=1%p;rw[Bj,u3,AI (by decide) (by have:=hp.lo;omega)]
 refine⟨u,uz,?_⟩;have q:=CgR.sc (k:=u) (k':=u) Cg.rfl e;rw[Mn]at q;exact(q.trans ((CgR.sc o CgR.rfl).trans (CgR.of (Kb y)))).symm
theorem Qo{a' b' c' x':R3}(ha:CgR p a a')(hb:CgR p b b')(hc:CgR p c c')(hx:CgR p x x'):CgR p (ap a b c x) (ap a' b' c' x'):=⟨GO ha hx,GO hb hx,GO hc hx⟩
theorem Pr.ap(i:Pr p x y):Pr p (OvC.ap a b c x) (OvC.ap a b c y):=by
 obtain⟨d,dz,e⟩:=i;exact⟨d,dz,(Qo CgR.rfl CgR.rfl CgR.rfl e).trans (CgR.of (eJ a b c y d))⟩
theorem Qp(a b c v:R3):ap (bk0 a b c) (bk1 a b c) (bk2 a b c) (ap a b c v)=Bx (Aq a b c) v:=by
 unfold ap Bx Aw bk0 bk1 bk2 DR DQ DP crs Aq det;refine Bw ?_ (Bw ?_ ?_)<;>(simp only;grind)
end
noncomputable def tri(g:R3):Ac Ae:=[g.1,g.2.1,g.2.2]
theorem OS(hp:P4 p)(ix:In3 p x)(iy:In3 p y)(lx:AV p (tri x)=Aa 1)(ly:AV p (tri y)=Aa 1)(h:Pr p x y):x=y:=by
 obtain⟨d,dz,e⟩:=h;have p1:1<p:=by have:=hp.lo;omega
 have rs:(tri x).map (fun x=>x%p)=((tri y).map fun x=>d*x).map (fun x=>x%p):=by
  simp only[tri,Cf,G1];rw[show x.1%p=d*y.1%p from e.1,show x.2.1%p=d*y.2.1%p from e.2.1,show x.2.2%p=d*y.2.2%p from e.2.2]
 have el:=HW hp dz (f:=fun x=>d*x) (fun _=>rfl) (tri y)
 rw[ly,<-JI rs,lx,Dz,BP,CO]at el;have o:Cg p d 1:=by
  show d%p=1%p;rw[<-el,AI (by decide) p1]
 have q:=e.trans ((CgR.sc o CgR.rfl).trans (CgR.of (Kb y)));have same:∀{u v:Ae},(0<=u/\u<p)->(0<=v/\v<p)->Cg p u v->u=v:=fun hu hv huv=>by
  have:=show _%p=_%p from huv
  rwa [AI hu.1 hu.2,AI hv.1 hv.2]at this
 exact Bw (same ix.1 iy.1 q.1) (Bw (same ix.2.1 iy.2.1 q.2.1) (same ix.2.2 iy.2.2 q.2.2))
section
variable{p:Ae}{a b c a' b' c' f0 f1 f2 f3 g0 g1 g2 g3 h0 h1 h2 h3:R3}
end
section
variable{Γ:Gam}{ns:Ac Ae}{p:Ae}
theorem W8(hp:P4 p):GoodR p e0R e1R e2R/\AV p (fE e0R e1R e2R)=Aa 1:=by
 obtain⟨i0,i1,i2,i3⟩:=eS hp;refine⟨⟨hp,i0,i1,i2,(dY hp).1⟩,?_⟩;rcases hp with rfl|rfl|rfl|rfl<;>decide
end
noncomputable def L3(a b c:R3):Ac D:=[A7 a,A7 b,A7 c]
def Ij(i j:Ae):Prop:=(i=0/\j=1)\/(i=0/\j=2)\/(i=1/\j=0)\/(i=1/\j=2)\/(i=2/\j=0)\/(i=2/\j=1)
theorem cO{m:Ae}(hi:m%3=i)(hj:(i+1+m / 3%2)%3=j):Ij i j:=by
 have i3:i=0\/i=1\/i=2:=by omega
 have e2:m / 3%2=0\/m / 3%2=1:=by omega
 rcases i3 with z|z|z<;>rcases e2 with e|e<;>rw[z,e]at hj
 ·exact .inl ⟨z,hj.symm⟩
 ·exact .inr (.inl ⟨z,hj.symm⟩)
 ·exact .inr (.inr (.inr (.inl ⟨z,hj.symm⟩)))
 ·exact .inr (.inr (.inl ⟨z,hj.symm⟩))
 ·exact .inr (.inr (.inr (.inr (.inl ⟨z,hj.symm⟩))))
 ·exact .inr (.inr (.inr (.inr (.inr ⟨z,hj.symm⟩))))
theorem Tu{a b c:R3}(h:GoodR p a b c)(ht:0<t/\t<p)(ij:Ij i j):∃(i' j':Ag)(x y:R3),Dr (L3 a b c) i=.ok (A7 x)/\Dr (L3 a b c) j=.ok (A7 y)/\plD 3 i=Aa i'/\plD 3 j=Aa j'/\(∃ a' b' c',GoodR p a' b' c'/\((L3 a b c).set i' (A7 y)).set j' (A7 x)=L3 a' b' c')/\(∃ a' b' c',GoodR p a' b' c'/\(L3 a b c).set i' (A7 (scR p t x))=L3 a' b' c')/\(∃ a' b' c',GoodR p a' b' c'/\(L3 a b c).set i' (A7 (adR p t x y))=L3 a' b' c'):=by
 have p0:=h.p4.pos;have tz:t%p≠0:=by rw[AI (by omega) ht.2];omega
 rcases ij with ⟨rfl,rfl⟩|⟨rfl,rfl⟩|⟨rfl,rfl⟩|⟨rfl,rfl⟩|⟨rfl,rfl⟩|⟨rfl,rfl⟩
 ·exact⟨0,1,a,b,rfl,rfl,rfl,rfl,⟨b,a,c,h.of (k:=-1) h.p4.m1 (Cg.of (by unfold Aq det;grind)) ⟨h.ib,h.ia,h.ic⟩,rfl⟩,⟨_,_,_,h.of (k:=t) tz (QO p t a b c) ⟨Io p0 _ _,h.ib,h.ic⟩,rfl⟩,⟨_,_,_,h.of (k:=1) h.p4.o1 (eF p t a b c) ⟨Im p0 _ _ _,h.ib,h.ic⟩,rfl⟩⟩
 ·exact⟨0,2,a,c,rfl,rfl,rfl,rfl,⟨c,b,a,h.of (k:=-1) h.p4.m1 (Cg.of (by unfold Aq det;grind)) ⟨h.ic,h.ib,h.ia⟩,rfl⟩,⟨_,_,_,h.of (k:=t) tz (QO p t a b c) ⟨Io p0 _ _,h.ib,h.ic⟩,rfl⟩,⟨_,_,_,h.of (k:=1) h.p4.o1 (eE p t a b c) ⟨Im p0 _ _ _,h.ib,h.ic⟩,rfl⟩⟩
 ·exact⟨1,0,b,a,rfl,rfl,rfl,rfl,⟨b,a,c,h.of (k:=-1) h.p4.m1 (Cg.of (by unfold Aq det;grind)) ⟨h.ib,h.ia,h.ic⟩,rfl⟩,⟨_,_,_,h.of (k:=t) tz (QN p t a b c) ⟨h.ia,Io p0 _ _,h.ic⟩,rfl⟩,⟨_,_,_,h.of (k:=1) h.p4.o1 (eC p t a b c) ⟨h.ia,Im p0 _ _ _,h.ic⟩,rfl⟩⟩
 ·exact⟨1,2,b,c,rfl,rfl,rfl,rfl,⟨a,c,b,h.of (k:=-1) h.p4.m1 (Cg.of (by unfold Aq det;grind)) ⟨h.ia,h.ic,h.ib⟩,rfl⟩,⟨_,_,_,h.of (k:=t) tz (QN p t a b c) ⟨h.ia,Io p0 _ _,h.ic⟩,rfl⟩,⟨_,_,_,h.of (k:=1) h.p4.o1 (eB p t a b c) ⟨h.ia,Im p0 _ _ _,h.ic⟩,rfl⟩⟩
 ·exact⟨2,0,c,a,rfl,rfl,rfl,rfl,⟨c,b,a,h.of (k:=-1) h.p4.m1 (Cg.of (by unfold Aq det;grind)) ⟨h.ic,h.ib,h.ia⟩,rfl⟩,⟨_,_,_,h.of (k:=t) tz (QM p t a b c) ⟨h.ia,h.ib,Io p0 _ _⟩,rfl⟩,⟨_,_,_,h.of (k:=1) h.p4.o1 (eA p t a b c) ⟨h.ia,h.ib,Im p0 _ _ _⟩,rfl⟩⟩
 ·exact⟨2,1,c,b,rfl,rfl,rfl,rfl,⟨a,c,b,h.of (k:=-1) h.p4.m1 (Cg.of (by unfold Aq det;grind)) ⟨h.ia,h.ic,h.ib⟩,rfl⟩,⟨_,_,_,h.of (k:=t) tz (QM p t a b c) ⟨h.ia,h.ib,Io p0 _ _⟩,rfl⟩,⟨_,_,_,h.of (k:=1) h.p4.o1 (dZ p t a b c) ⟨h.ia,h.ib,Im p0 _ _ _⟩,rfl⟩⟩
def Ha(Γ:Gam)(mid:Ag)(ns:Ac Ae):Prop:=∀ k:Ae,0<=k->∃ m,0<=m/\Γ.F mid [scr ns,.int k]=.ok (.int m)
noncomputable def Kv:E:=(.bin .Mod (.bin .Mult (.var 8) (.var 9)) (.var 0))
noncomputable def Ku:E:=(.bin .Mod (.bin .Add (.var 10) (.bin .Mult (.var 8) (.var 11))) (.var 0))
noncomputable def EB(mid:Ag):Ss:=(.cons (.asg 5 Ad (.bin .FloorDiv (.call mid (.cons (.var 1) (.cons (.var 4) .nil))) (.int 3))) (.cons (.asg 6 Ad (.bin .Mod (.var 5) (.int 3))) (.cons (.asg 7 Ad (.bin .Mod (.bin .Add (.bin .Add (.var 6) (.int 1)) (.bin .Mod (.bin .FloorDiv (.var 5) (.int 3)) (.int 2))) (.int 3))) (.cons (.asg 8 Ad (.bin .Add (.int 1) (.bin .Mod (.bin .FloorDiv (.var 5) (.int 24)) (.bin .Sub (.var 0) (.int 1))))) (.cons (.ife (.cmp .Eq (.bin .Mod (.bin .FloorDiv (.var 5) (.int 6)) (.int 4)) (.int 0)) (.cons (.swp 3 6 7) .nil) (.cons (.ife (.cmp .Eq (.bin .Mod (.bin .FloorDiv (.var 5) (.int 6)) (.int 4)) (.int 1)) (.cons (.put 3 (.var 6) (.comp Kv 9 (.e (.idx (.var 3) (.var 6))) Cc)) .nil) (.cons (.put 3 (.var 6) (.compT Ku [10,11] (.zip (.idx (.var 3) (.var 6)) (.idx (.var 3) (.var 7))) Cc)) .nil)) .nil)) .nil)))))
noncomputable def Mx(mid:Ag):Df:=⟨12,Ad,(.cons (.asg 3 Ab (.lst (.cons (.lst (.cons (.int 1) (.cons (.int 0) (.cons (.int 0) .nil)))) (.cons (.lst (.cons (.int 0) (.cons (.int 1) (.cons (.int 0) .nil)))) (.cons (.lst (.cons (.int 0) (.cons (.int 0) (.cons (.int 1) .nil)))) .nil))))) (.cons (.fors 4 (.e (.bin .Add (.bi .list (.cons (.tupI (.rng2 (.var 2) (.bin .Add (.var 2) (.int 9)))) .nil)) (.bi .list (.cons (.tupI (.rng2 (.int 23) (.bi .min (.cons (.bi .len (.cons (.var 1) .nil)) (.cons (.int 63) .nil))))) .nil)))) (EB mid)) (.cons (.ret (.var 3)) .nil)))⟩
section
variable{Γ:Gam}{ns:Ac Ae}{mid:Ag}{p:Ae}{a b c:R3}{s2 s4 s5 s6 s7 s8:Sl}
theorem YE{k cl i j t:Ae}{j':Ag}(hi:Dr L i=.ok (A7 x))(hj:Dr L j=.ok (A7 y))(pi:plD L.length i=Aa i')(pj:plD L.length j=Aa j')(k0:cl / 6%4=0):evSs Γ [si p,sh (scr ns),s2,Aa (.lst L,Ab),s4,si cl,si i,si j,si t,Af,Af,Af] ((EB mid).drop 4)=.next [si p,sh (scr ns),s2,Aa (.lst ((L.set i' (A7 y)).set j' (A7 x)),Ab),s4,si cl,si i,si j,si t,Af,Af,Af]:=by
 simp[EB,Ss.drop,k0,Wx,Kl,Ca,F6,DO,hi,hj,pi,pj]
theorem YF{cl:Ae}(hi:Dr L i=.ok (A7 x))(pi:plD L.length i=Aa i')(p0:0<p)(mt:∀ x,Da t x=Ab)(k0:¬ cl / 6%4=0)(k1:cl / 6%4=1):evSs Γ [si p,sh (scr ns),s2,Aa (.lst L,Ab),s4,si cl,si i,si j,si t,Af,Af,Af] ((EB mid).drop 4)=.next [si p,sh (scr ns),s2,Aa (.lst (L.set i' (A7 (scR p t x))),Ab),s4,si cl,si i,si j,si t,Af,Af,Af]:=by
 have cp:Bg (cG Γ [si p,sh (scr ns),s2,Aa (.lst L,Ab),s4,si cl,si i,si j,si t,Af,Af,Af] 9 Cc) (cF Γ [si p,sh (scr ns),s2,Aa (.lst L,Ab),s4,si cl,si i,si j,si t,Af,Af,Af] 9 Kv) [.int x.1,.int x.2.1,.int x.2.2]=.ok [.int (x.1*t%p),.int (x.2.1*t%p),.int (x.2.2*t%p)]:=by
  refine Ia (φ:=fun x=>x*t%p) [x.1,x.2.1,x.2.2] fun x _=>⟨rfl,?_⟩
  simp[cF,Kv,mt,p0,Bj]
 rw[A7]at hi;simp[EB,Ss.drop,k1,OC,Ca,hi,pi,cp];rfl
theorem YG{cl:Ae}(hi:Dr L i=.ok (A7 x))(hj:Dr L j=.ok (A7 y))(pi:plD L.length i=Aa i')(p0:0<p)(mt:∀ x,Da t x=Ab)(k0:¬ cl / 6%4=0)(k1:¬ cl / 6%4=1):evSs Γ [si p,sh (scr ns),s2,Aa (.lst L,Ab),s4,si cl,si i,si j,si t,Af,Af,Af] ((EB mid).drop 4)=.next [si p,sh (scr ns),s2,Aa (.lst (L.set i' (A7 (adR p t x y))),Ab),s4,si cl,si i,si j,si t,Af,Af,Af]:=by
 have cp:Bg (cGT Γ [si p,sh (scr ns),s2,Aa (.lst L,Ab),s4,si cl,si i,si j,si t,Af,Af,Af] [10,11] Cc) (cFT Γ [si p,sh (scr ns),s2,Aa (.lst L,Ab),s4,si cl,si i,si j,si t,Af,Af,Af] [10,11] Ku) (CT [.int x.1,.int x.2.1,.int x.2.2] [.int y.1,.int y.2.1,.int y.2.2])=.ok [.int ((x.1+t*y.1)%p),.int ((x.2.1+t*y.2.1)%p),.int ((x.2.2+t*y.2.2)%p)]:=by
  generalize x.1=x0;generalize x.2.1=x1;generalize x.2.2=x2;generalize y.1=y0;generalize y.2.1=y1;generalize y.2.2=y2;simp[Bg,cGT,cFT,CT,Ku,Cc,p0,mt]
 rw[A7]at hi hj;simp[EB,Ss.drop,k0,k1,OC,Ca,hi,hj,pi,cp];rfl
theorem U1(hm:Ha Γ mid ns)(h:GoodR p a b c)(hk:0<=k):∃ a' b' c' v5 v6 v7 v8,GoodR p a' b' c'/\CC Γ 4 (EB mid) (.int k) [si p,sh (scr ns),s2,Aa (.lst (L3 a b c),Ab),s4,s5,s6,s7,s8,Af,Af,Af]=.next [si p,sh (scr ns),s2,Aa (.lst (L3 a' b' c'),Ab),si k,v5,v6,v7,v8,Af,Af,Af]:=by
 have p0:=h.p4.pos;have pl:=h.p4.lo;have ph:=h.p4.hi;obtain⟨m,m0,e0⟩:=hm k hk;generalize hcl:m / 3=cl;have q1:0<p-1:=by omega
 have q2:1<p:=by omega
 have t0:0<1+cl / 24%(p-1):=by have:=Bf (cl / 24) (b:=p-1) (by omega);omega
 have t1:1+cl / 24%(p-1)<p:=by have:=Ba (cl / 24) q1;omega
 generalize ht:1+cl / 24%(p-1)=t at t0 t1;generalize hi:cl%3=i;generalize hj:(i+1+cl / 3%2)%3=j;have ij:=cO hi hj;have hd:evSs Γ [si p,sh (scr ns),s2,Aa (.lst (L3 a b c),Ab),si k,s5,s6,s7,s8,Af,Af,Af] ((EB mid).take 4)=.next [si p,sh (scr ns),s2,Aa (.lst (L3 a b c),Ab),si k,si cl,si i,si j,si t,Af,Af,Af]:=by
  simp[EB,Ss.take,e0,hcl,hi,hj,q1,q2,ht]
 have mt:∀ x,Da t x=Ab:=fun x=>G9 (by omega) (by omega)
 obtain⟨i',j',x,y,gi,gj,pi,pj,⟨a1,b1,c1,g1,f1⟩,⟨a2,b2,c2,g2,f2⟩,⟨a3,b3,c3,g3,f3⟩⟩:=Tu h ⟨t0,t1⟩ ij;have pi':plD (L3 a b c).length i=Aa i':=pi;have pj':plD (L3 a b c).length j=Aa j':=pj;have fin:∀ {o},evSs Γ [si p,sh (scr ns),s2,Aa (.lst (L3 a b c),Ab),si k,si cl,si i,si j,si t,Af,Af,Af] ((EB mid).drop 4)=o->CC Γ 4 (EB mid) (.int k) [si p,sh (scr ns),s2,Aa (.lst (L3 a b c),Ab),s4,s5,s6,s7,s8,Af,Af,Af]=o:=fun {o} h=>by
  show evSs Γ [si p,sh (scr ns),s2,Aa (.lst (L3 a b c),Ab),si k,s5,s6,s7,s8,Af,Af,Af] (EB mid)=o;rw[NP Γ 4,hd];exact h
 by_cases k0:cl / 6%4=0
 ·refine⟨a1,b1,c1,si cl,si i,si j,si t,g1,fin ?_⟩;rw[YE (k:=0) gi gj pi' pj' k0,f1]
 ·by_cases k1:cl / 6%4=1
  ·refine⟨a2,b2,c2,si cl,si i,si j,si t,g2,fin ?_⟩;rw[YF gi pi' p0 mt k0 k1,f2]
  ·refine⟨a3,b3,c3,si cl,si i,si j,si t,g3,fin ?_⟩;rw[YG gi gj pi' p0 mt k0 k1,f3]
end
theorem N9{x:D}(h:x∈Ce lo n):∃ j:Ag,j<n/\x=.int (lo+(j:Ae)):=by
 obtain⟨j,hj⟩:=List.getElem?_of_mem h;exact⟨j,NM hj⟩
theorem KR{hi:Ae}(h1:-1000<=lo)(h2:lo<=1000)(h3:-1000<=hi)(h4:hi<=1000):CM lo hi=.ok (Ce lo (hi-lo).toNat):=by
 unfold CM;rw[AC (by refine⟨⟨by omega,by omega⟩,⟨by omega,by omega⟩,?_⟩;omega)]
def eO(Γ:Gam)(id:Ag)(ns:Ac Ae):Prop:=∀(p:Ae),P4 p->∃ a b c,GoodR p a b c/\Γ.F id [.int p,scr ns,.int 1]=.ok (DY a b c)
theorem bF(hl:ns.length<=63)(hm:Ha Γ mid ns)(p:Ae)(hp:P4 p):∃ a b c,GoodR p a b c/\(Mx mid).run Γ [.int p,scr ns,.int 1]=.ok (DY a b c):=by
 have g0:GoodR p e0R e1R e2R:=(W8 hp).1;have r1:CM 1 10=.ok (Ce 1 9):=rfl;generalize hn:(if (63:Ae)<(ns.length:Ae) then (63:Ae) else (ns.length:Ae))=n
 have n0:0<=n/\n<=63:=by split at hn<;>omega
 have r2:CM 23 n=.ok (Ce 23 (n-23).toNat):=KR (by decide) (by decide) (by omega) (by omega)
 have ad:Cr .Add (.lst (Ce 1 9)) (.lst (Ce 23 (n-23).toNat))=.ok (.lst (Ce 1 9++Ce 23 (n-23).toNat)):=by
  rw[Mj,AC];rw[HQ,HQ];unfold Ct;simp;omega
 obtain⟨ρ',e,a,b,c,s4,s5,s6,s7,s8,g,rfl⟩:=NO (body:=CC Γ 4 (EB mid)) (fun ρ=>∃ a b c s4 s5 s6 s7 s8,GoodR p a b c/\ρ=[si p,sh (scr ns),si 1,Aa (.lst (L3 a b c),Ab),s4,s5,s6,s7,s8,Af,Af,Af]) (Ce 1 9++Ce 23 (n-23).toNat) [si p,sh (scr ns),si 1,Aa (.lst (L3 e0R e1R e2R),Ab),Af,Af,Af,Af,Af,Af,Af,Af] ⟨_,_,_,_,_,_,_,_,g0,rfl⟩ (by
  rintro x hx ρ ⟨a,b,c,s4,s5,s6,s7,s8,g,rfl⟩;have hk:∃ k:Ae,0<=k/\x=.int k:=by
   rcases Dy.mp hx with z|z
   ·obtain⟨j,_,rfl⟩:=N9 z;exact⟨_,by omega,rfl⟩
   ·obtain⟨j,_,rfl⟩:=N9 z;exact⟨_,by omega,rfl⟩
  obtain⟨k,k0,rfl⟩:=hk;obtain⟨a',b',c',v5,v6,v7,v8,g',e⟩:=U1 (s2:=si 1) (s4:=s4) (s5:=s5) (s6:=s6) (s7:=s7) (s8:=s8) hm g k0;exact⟨_,e,a',b',c',_,_,_,_,_,g',rfl⟩)
 refine⟨a,b,c,g,?_⟩;have ln:biD .len [scr ns]=.ok (.int ns.length):=by simp[scr]
 have mn:biD .min [.int (ns.length:Ae),.int 63]=.ok (.int n):=by rw[<-hn];rfl
 have sq:B5 (.lst (Ce 1 9++Ce 23 (n-23).toNat))=.ok (Ce 1 9++Ce 23 (n-23).toNat):=rfl;have e':CU (CC Γ 4 (EB mid)) (Ce 1 9++Ce 23 (n-23).toNat) [si p,sh (scr ns),si 1,Aa (.lst [.lst [.int 1,.int 0,.int 0],.lst [.int 0,.int 1,.int 0],.lst [.int 0,.int 0,.int 1]],Ab),Af,Af,Af,Af,Af,Af,Af,Af]=_:=e;generalize Ce 1 9=A at *;generalize Ce 23 (n-23).toNat=B at *;generalize scr ns=S at *;simp[Mx,Df.run,Bt,D3,ln,mn,r1,r2,ad,sq,e'];rfl
theorem OJ{g:D->R An}{f:D->R D}{q:Ae->An}{φ:Ae->Ae}:∀(xs:Ac Ae),(∀ x∈xs,g (.int x)=.ok (q x)/\f (.int x)=.ok (.int (φ x)))->Bg g f (ds xs)=.ok (ds ((xs.filter q).map φ))
 |[],_=>rfl
 |x::xs,h=>by
  obtain⟨h1,h2⟩:=h x (AA ..);have ih:=OJ xs fun y hy=>h y (As _ hy)
  show (g (.int x)).bind _=_;rw[h1,R.bind_ok,Dg];cases hq:q x with
  |true=>
   rw[AC rfl,AC rfl,h2,R.bind_ok,show Bg g f (Ho D.int xs)=_ from ih]
   rfl
  |false=>
   rw[AJ (by decide),AJ (by decide)]
   exact ih
theorem Nw{p:Ae}:∀ xs:Ac Ae,((xs.filter fun x=>decide (x%p≠0)).map fun x=>x%p).head?=AV p xs
 |[]=>rfl
 |x::xs=>by
  unfold AV;rw[Dg];by_cases h:x%p=0
  ·rw[AJ (by simp[h]),AC h]
   exact Nw xs
  ·rw[AC (by simp[h]),AJ h]
   rfl
noncomputable def Ky:E:=(.cmp .NotEq (.bin .Mod (.var 4) (.var 0)) (.int 0))
noncomputable def KN:E:=(.bin .Mod (.var 4) (.var 0))
noncomputable def Kx:E:=(.cmp .Eq (.bin .Mod (.bin .Mult (.var 5) (.var 2)) (.var 0)) (.int 1))
noncomputable def KM:E:=(.var 5)
noncomputable def KJ:E:=(.bin .Mod (.bin .Mult (.var 6) (.var 3)) (.var 0))
noncomputable def KD:Df:=⟨7,Ad,(.cons (.asg 2 Ad (.idx (.comp KN 4 (.e (.var 1)) Ky) (.int 0))) (.cons (.asg 3 Ad (.idx (.comp KM 5 (.rng2 (.int 1) (.var 0)) Kx) (.int 0))) (.cons (.ret (.bi .tuple (.cons (.comp KJ 6 (.e (.var 1)) Cc) .nil))) .nil)))⟩
def LS(Γ:Gam):Prop:=∀(p:Ae)(b:An)(xs:Ac Ae)(l t:Ae),P4 p->AV p xs=Aa l->FD p l t->Γ.F 158 [.int p,Cu b xs]=.ok (.tup (ds (fmI p t xs)))
theorem VM(Γ:Gam){b:An}{l t:Ae}(hp:P4 p)(e:AV p xs=Aa l)(it:FD p l t):KD.run Γ [.int p,Cu b xs]=.ok (.tup (ds (fmI p t xs))):=by
 have p0:=hp.pos;have ph:=hp.hi;have c1:Bg (cG Γ [si p,sh (Cu b xs),Af,Af,Af,Af,Af] 4 Ky) (cF Γ [si p,sh (Cu b xs),Af,Af,Af,Af,Af] 4 KN) (ds xs)=.ok (ds ((xs.filter fun x=>decide (x%p≠0)).map fun x=>x%p)):=by
  refine OJ xs fun x _=>⟨?_,?_⟩
  ·simp[cG,Ky,p0];rw[Cz];simp
  ·simp[cF,KN,p0]
 have hl:=Nw (p:=p) xs;rw[e]at hl;generalize ((xs.filter fun x=>decide (x%p≠0)).map fun x=>x%p)=ls at c1 hl
 have g0:=NA hl;obtain⟨_,l0,l1⟩:=IT p0 e;have c3:Bg (cG Γ [si p,sh (Cu b xs),si l,Af,Af,Af,Af] 5 Kx) (cF Γ [si p,sh (Cu b xs),si l,Af,Af,Af,Af] 5 KM) (ds (EY p))=.ok (ds ((EY p).filter fun k=>decide (k*l%p=1))):=by
  refine Nl (EY p) fun x hx=>⟨?_,?_⟩
  ·obtain⟨x1,x2⟩:=HV.mp hx;have m:Da x l=Ab:=G9 (by omega) (by omega)
   simp[cG,Kx,m,p0];rw[Cz];simp
  ·simp[cF,KM]
 have g1:=NA (T2 it);have c4:Bg (cG Γ [si p,sh (Cu b xs),si l,si t,Af,Af,Af] 6 Cc) (cF Γ [si p,sh (Cu b xs),si l,si t,Af,Af,Af] 6 KJ) (ds xs)=.ok (ds (xs.map fun x=>x*t%p)):=by
  refine Ia xs fun x _=>⟨rfl,?_⟩
  have m:Da x t=Ab:=J3 (by have:=it.1;omega) (by have:=it.2.1;omega)
  simp[cF,KJ,m,p0]
 have ru:CM 1 p=.ok (ds (EY p)):=N2 hp;have fe:fmI p t xs=xs.map fun x=>x*t%p:=by
  unfold fmI;refine DW fun x _=>?_
  rw[Bj x t,A8 t (x%p) p,A6 _ (BR p),<-A8]
 simp[KD,Df.run,Bt,K2,c1,g0,ru,c3,g1,c4,fe]
noncomputable def IW:Df:=⟨3,Ad,(.cons (.asg 2 Ad (.bin .Mod (.var 1) (.bin .Add (.bin .Add (.bin .Mult (.var 0) (.var 0)) (.var 0)) (.int 1)))) (.cons (.ife (.cmp .Eq (.var 2) (.int 0)) (.cons (.ret (.tup (.cons (.int 0) (.cons (.int 0) (.cons (.int 1) .nil))))) .nil) .nil) (.cons (.ife (.cmp .LtE (.var 2) (.var 0)) (.cons (.ret (.tup (.cons (.int 0) (.cons (.int 1) (.cons (.bin .Sub (.var 2) (.int 1)) .nil))))) .nil) .nil) (.cons (.ret (.tup (.cons (.int 1) (.cons (.bin .FloorDiv (.bin .Sub (.bin .Sub (.var 2) (.var 0)) (.int 1)) (.var 0)) (.cons (.bin .Mod (.bin .Sub (.bin .Sub (.var 2) (.var 0)) (.int 1)) (.var 0)) .nil))))) .nil))))⟩
theorem YL(h:1<p):AV p [0,0,1]=Aa 1:=by
 simp[AV,AI (by decide:(0:Ae)<=1) h]
theorem dR(h:1<p)(z:Ae):AV p [0,1,z]=Aa 1:=by
 simp[AV,AI (by decide:(0:Ae)<=1) h]
theorem fF(h:1<p)(y z:Ae):AV p [1,y,z]=Aa 1:=by
 simp[AV,AI (by decide:(0:Ae)<=1) h]
noncomputable def Kz:E:=(.bin .Mult (.idx (.var 0) (.var 5)) (.idx (.var 1) (.var 5)))
noncomputable def MS:Ss:=(.cons (.app 2 (.bin .Add (.bin .Mult (.idx (.var 0) (.var 3)) (.idx (.var 1) (.var 4))) (.bin .Mult (.idx (.var 0) (.var 4)) (.idx (.var 1) (.var 3))))) .nil)
noncomputable def Kw:Df:=⟨6,Ad,(.cons (.asg 2 Ab (.comp Kz 5 (.rng (.int 3)) Cc)) (.cons (.forT [3,4] (.e (.lst (.cons (.tup (.cons (.int 0) (.cons (.int 1) .nil))) (.cons (.tup (.cons (.int 0) (.cons (.int 2) .nil))) (.cons (.tup (.cons (.int 1) (.cons (.int 2) .nil))) .nil))))) MS) (.cons (.ret (.var 2)) .nil)))⟩
noncomputable def prd(a b:R3):C6:=⟨a.1*b.1,a.2.1*b.2.1,a.2.2*b.2.2,a.1*b.2.1+a.2.1*b.1,a.1*b.2.2+a.2.2*b.1,a.2.1*b.2.2+a.2.2*b.2.1⟩
def Zr(Γ:Gam):Prop:=∀(p:Ae)(a b:R3),P4 p->In3 p a->In3 p b->Γ.F 160 [A7 a,A7 b]=.ok (.lst (ds (prd a b).l))
theorem X3(Γ:Gam)(p:Ae)(a b:R3)(hp:P4 p)(ha:In3 p a)(hb:In3 p b):Kw.run Γ [A7 a,A7 b]=.ok (.lst (ds (prd a b).l)):=by
 have ba:=Fh hp ha;have bb:=Fh hp hb;have k:∀ {u v},Bd 10 u->Bd 10 v->D0 u v=Ab:=fun hu hv=>Fx hu hv (by decide) (by decide)
 obtain⟨a0,a1,a2⟩:=a;obtain⟨b0,b1,b2⟩:=b;have i0:Ck (A7 (a0,a1,a2)) (.int 0)=.ok (.int a0):=rfl;have i1:Ck (A7 (a0,a1,a2)) (.int 1)=.ok (.int a1):=rfl;have i2:Ck (A7 (a0,a1,a2)) (.int 2)=.ok (.int a2):=rfl;have j0:Ck (A7 (b0,b1,b2)) (.int 0)=.ok (.int b0):=rfl;have j1:Ck (A7 (b0,b1,b2)) (.int 1)=.ok (.int b1):=rfl;have j2:Ck (A7 (b0,b1,b2)) (.int 2)=.ok (.int b2):=rfl;have rg:CM 0 3=.ok [.int 0,.int 1,.int 2]:=rfl;have c1:Bg (cG Γ [sh (A7 (a0,a1,a2)),sh (A7 (b0,b1,b2)),Af,Af,Af,Af] 5 Cc) (cF Γ [sh (A7 (a0,a1,a2)),sh (A7 (b0,b1,b2)),Af,Af,Af,Af] 5 Kz) [.int 0,.int 1,.int 2]=.ok [.int (a0*b0),.int (a1*b1),.int (a2*b2)]:=by
  simp[Bg,cG,cF,Cc,Kz,i0,i1,i2,j0,j1,j2,k ba.1 bb.1,k ba.2.1 bb.2.1,k ba.2.2 bb.2.2]
 simp[Kw,MS,Df.run,Bt,D3,rg,c1,CU,Kh,Ca,i0,i1,i2,j0,j1,j2,k ba.1 bb.2.1,k ba.2.1 bb.1,k ba.1 bb.2.2,k ba.2.2 bb.1,k ba.2.1 bb.2.2,k ba.2.2 bb.2.1,Ct];rfl
noncomputable def Te:E:=(.bin .Mod (.bin .Mult (.var 9) (.var 9)) (.var 0))
noncomputable def MQ:E:=(.cmp .NotIn (.var 8) (.comp Te 9 (.rng (.var 0)) Cc))
noncomputable def JC:E:=(.var 8)
noncomputable def JB:E:=(.bin .Sub (.var 10) (.bin .Mult (.var 7) (.var 11)))
noncomputable def MR:E:=(.bin .Sub (.var 12) (.var 13))
noncomputable def HU:Df:=⟨14,Ad,(.cons (.asgT [3,4,5] (.var 1)) (.cons (.ife (.cmp .Eq (.var 2) (.int 1)) (.cons (.ret (.call 158 (.cons (.var 0) (.cons (.call 160 (.cons (.var 3) (.cons (.var 3) .nil))) .nil)))) .nil) .nil) (.cons (.ife (.cmp .Eq (.var 2) (.int 2)) (.cons (.ret (.call 158 (.cons (.var 0) (.cons (.call 160 (.cons (.var 3) (.cons (.var 4) .nil))) .nil)))) .nil) .nil) (.cons (.asg 6 Ad (.call 160 (.cons (.var 4) (.cons (.var 4) .nil)))) (.cons (.ife (.cmp .Eq (.var 2) (.int 3)) (.cons (.asg 7 Ad (.bi .min (.cons (.comp JC 8 (.rng2 (.int 2) (.var 0)) MQ) .nil))) (.cons (.ret (.call 158 (.cons (.var 0) (.cons (.compT JB [10,11] (.zip (.call 160 (.cons (.var 3) (.cons (.var 3) .nil))) (.var 6)) Cc) .nil)))) .nil)) .nil) (.cons (.ret (.call 158 (.cons (.var 0) (.cons (.compT MR [12,13] (.zip (.call 160 (.cons (.var 3) (.cons (.var 5) .nil))) (.var 6)) Cc) .nil)))) .nil))))))⟩
noncomputable def Iu(C D:C6):C6:=⟨C.c0-D.c0,C.c1-D.c1,C.c2-D.c2,C.c3-D.c3,C.c4-D.c4,C.c5-D.c5⟩
theorem Lo{p l:Ae}(hp:P4 p)(el:AV p (tri r)=Aa l):∃ u,FD p l u/\In3 p (fmR p u r)/\AV p (tri (fmR p u r))=Aa 1/\Pr p (fmR p u r) r/\fmI p u (tri r)=tri (fmR p u r):=by
 have p0:=hp.pos;obtain⟨lz,_,_⟩:=IT p0 el;obtain⟨t,t1,t2,t3⟩:=Il hp lz;have tz:t%p≠0:=by rw[AI (by omega) t2];omega
 have ff:∀ x,(t*(x%p)%p)%p=t*x%p:=fun x=>by rw[A6 _ (BR p),A8 t (x%p) p,A6 _ (BR p),<-A8]
 have lv:=HW hp tz (f:=fun x=>t*(x%p)%p) ff (tri r)
 rw[el,Dz,Bj,t3]at lv;exact⟨t,⟨t1,t2,t3⟩,cV p0 t r,lv,⟨t,tz,cW p t r⟩,rfl⟩
theorem K6(h:AV p (tri g)=Af):CgR p g (0,0,0):=by
 have hz:=HZ.mp h;have k:∀ x∈tri g,Cg p x 0:=fun x hx=>by show x%p=0%p;rw[hz x hx,AZ]
 exact⟨k _ (by simp[tri]),k _ (by simp[tri]),k _ (by simp[tri])⟩
theorem NZ(h:CgR p g (0,0,0)):AV p (tri g)=Af:=by
 refine HZ.mpr fun x hx=>?_
 have k:∀{x:Ae},Cg p x 0->x%p=0:=fun {x} h=>by rw[show x%p=_ from h,AZ]
 simp only[tri,At,AQ,BN]at hx;rcases hx with rfl|rfl|rfl
 ·exact k h.1
 ·exact k h.2.1
 ·exact k h.2.2
theorem XC{p l:Ae}{a b c f g:R3}(hp:P4 p)(z:Aq a b c%p≠0)(lf:AV p (tri f)=Aa l)(h:CgR p g (ap a b c f)):∃ l,AV p (tri g)=Aa l:=by
 cases el:AV p (tri g) with
 |some l=>exact⟨l,rfl⟩
 |none=>
  have q0:CgR p (ap a b c f) (0,0,0):=h.symm.trans (K6 el);have q1:CgR p (Bx (Aq a b c) f) (0,0,0):=by
   have:=Qo (CgR.rfl (a:=bk0 a b c)) (CgR.rfl (a:=bk1 a b c)) (CgR.rfl (a:=bk2 a b c)) q0;rw[Qp]at this;refine this.trans (CgR.of ?_);unfold ap Aw;simp
  obtain⟨u,uz,o⟩:=O6 hp z;have q2:CgR p f (0,0,0):=by
   have w:=CgR.sc (k:=u) (k':=u) Cg.rfl q1;rw[Mn]at w;refine((CgR.of (Kb f).symm).trans (CgR.sc o.symm CgR.rfl)).trans (w.trans (CgR.of ?_));unfold Bx;simp
  rw[NZ q2]at lf;cases lf
theorem Pf(a b c v:R3):ap a b c (ap (bk0 a b c) (bk1 a b c) (bk2 a b c) v)=Bx (Aq a b c) v:=by
 unfold ap Bx Aw bk0 bk1 bk2 DR DQ DP crs Aq det;refine Bw ?_ (Bw ?_ ?_)<;>(simp only;grind)
noncomputable def Hr:Df:=⟨3,Ad,(.cons (.asg 2 Ad (.int 0)) (.cons (.ife (.cmp .Lt (.var 1) (.bi .len (.cons (.var 0) .nil))) (.cons (.asg 2 Ad (.idx (.var 0) (.var 1))) .nil) .nil) (.cons (.ret (.bin .Mod (.bin .Mult (.bin .Add (.bin .Add (.bin .Mod (.var 2) (.int 1000003)) (.bin .Mult (.int 7919) (.var 1))) (.int 11)) (.int 48271)) (.int 1000033))) .nil)))⟩
theorem X4(Γ:Gam)(ns:Ac Ae)(k:Ae)(h0:0<=k):∃ m,0<=m/\Hr.run Γ [scr ns,.int k]=.ok (.int m):=by
 have m1:Da 7919 k=Ab:=G9 (by decide) (by decide)
 have m2:∀ x,Da x 48271=Ab:=fun x=>J3 (by decide) (by decide)
 by_cases h1:k<ns.length
 ·have g:=Oy h0 h1;generalize ns.getD k.toNat 0=x at g;refine⟨(x%1000003+7919*k+11)*48271%1000033,Bf _ (by decide),?_⟩
  simp[Hr,Df.run,Bt,h1,g,m1,m2]
 ·refine⟨(0%1000003+7919*k+11)*48271%1000033,Bf _ (by decide),?_⟩
  simp[Hr,Df.run,Bt,h1,m1,m2]
noncomputable def ME(mid:Ag):Df:=⟨1,Ad,(.cons (.ret (.idx (.lst (.cons (.int 3) (.cons (.int 5) (.cons (.int 7) (.cons (.int 11) .nil))))) (.bin .Mod (.bin .FloorDiv (.call mid (.cons (.var 0) (.cons (.int 0) .nil))) (.int 5)) (.int 4)))) .nil)⟩
def Vu(Γ:Gam)(id:Ag)(ns:Ac Ae):Prop:=∃ p,P4 p/\Γ.F id [scr ns]=.ok (.int p)
theorem UH(h:Ha Γ mid ns):∃ p,P4 p/\(ME mid).run Γ [scr ns]=.ok (.int p):=by
 obtain⟨m,m0,e⟩:=h 0 (by decide)
 refine⟨_,XG (m / 5),?_⟩;simp[ME,Df.run,Bt,e,Uq]
noncomputable def K4:Df:=⟨8,Ad,(.cons (.asgT [2,3,4] (.var 0)) (.cons (.asgT [5,6,7] (.var 1)) (.cons (.ret (.lst (.cons (.bin .Sub (.bin .Mult (.var 3) (.var 7)) (.bin .Mult (.var 4) (.var 6))) (.cons (.bin .Sub (.bin .Mult (.var 4) (.var 5)) (.bin .Mult (.var 2) (.var 7))) (.cons (.bin .Sub (.bin .Mult (.var 2) (.var 6)) (.bin .Mult (.var 3) (.var 5))) .nil))))) .nil)))⟩
noncomputable def Kt:E:=(.bin .Mult (.var 7) (.var 8))
noncomputable def KP:Df:=⟨9,Ad,(.cons (.asgT [3,4,5] (.var 2)) (.cons (.asg 6 Ad (.lst (.cons (.bin .Mult (.var 3) (.var 3)) (.cons (.bin .Mult (.var 4) (.var 4)) (.cons (.bin .Mult (.var 5) (.var 5)) (.cons (.bin .Mult (.var 3) (.var 4)) (.cons (.bin .Mult (.var 3) (.var 5)) (.cons (.bin .Mult (.var 4) (.var 5)) .nil)))))))) (.cons (.ret (.bin .Mod (.bi .sum (.cons (.compT Kt [7,8] (.zip (.var 1) (.var 6)) Cc) .nil)) (.var 0))) .nil)))⟩
section
variable{Γ:Gam}{ns:Ac Ae}{p:Ae}{C:C6}{s3 s4 s5 s6 s7 s8:Sl}
end
section
variable{Γ:Gam}{ns:Ac Ae}
end
noncomputable def L6:Df:=⟨3,Ad,(.cons (.ret (.call 17 (.cons (.var 0) (.cons (.call 23 (.cons (.var 1) (.cons (.var 2) .nil))) .nil)))) .nil)⟩
theorem NT{a b:R3}(hp:P4 p)(h:CgR p (crs a b) (0,0,0))(la:AV p (tri a)=Aa 1)(lb:AV p (tri b)=Aa 1):Pr p b a:=by
 obtain⟨h0,h1,h2⟩:=h;have p1:1<p:=by have:=hp.lo;omega
 have sw:∀{x y:Ae},Cg p (x-y) 0->Cg p x y:=fun {x y} h=>by
  have:=h.add (Cg.rfl (a:=y))
  rwa [Int.sub_add_cancel,EJ]at this
 have e0:Cg p (a.2.1*b.2.2) (a.2.2*b.2.1):=sw h0;have e1:Cg p (a.2.2*b.1) (a.1*b.2.2):=sw h1;have e2:Cg p (a.1*b.2.1) (a.2.1*b.1):=sw h2;have one:∀{x:Ae},x%p=1->Cg p x 1:=fun {x} h=>by show x%p=1%p;rw[h,AI (by decide) p1]
 have fin:∀ k,CgR p b (Bx k a)->Pr p b a:=fun k hk=>by
  refine⟨k,fun z=>?_,hk⟩
  have:CgR p b (0,0,0):=by
   have kz:Cg p k 0:=by show k%p=0%p;rw[z,AZ]
   refine hk.trans ((CgR.sc kz CgR.rfl).trans (CgR.of ?_));unfold Bx;simp
  rw[NZ this]at lb;cases lb
 unfold tri AV at la;by_cases z0:a.1%p=0
 ·rw[AC z0]at la;have c0:Cg p a.1 0:=by show a.1%p=0%p;rw[z0,AZ]
  unfold AV at la;by_cases z1:a.2.1%p=0
  ·rw[AC z1]at la;have c1:Cg p a.2.1 0:=by show a.2.1%p=0%p;rw[z1,AZ]
   unfold AV at la;by_cases z2:a.2.2%p=0
   ·rw[AC z2]at la;cases la
   ·rw[AJ z2,BP]at la;have c2:=one la;refine fin b.2.2 ⟨?_,?_,?_⟩
    ·have:=(c2.symm.mul (Cg.rfl (a:=b.1))).trans e1;rw[Cy]at this;exact this.trans (Cg.of (Bj _ _))
    ·have:=(c2.symm.mul (Cg.rfl (a:=b.2.1))).trans e0.symm;rw[Cy]at this;exact this.trans (Cg.of (Bj _ _))
    ·have:=(Cg.rfl (a:=b.2.2)).mul c2;rw[CO]at this;exact this.symm
  ·rw[AJ z1,BP]at la;have c1:=one la;refine fin b.2.1 ⟨?_,?_,?_⟩
   ·have:=(c1.symm.mul (Cg.rfl (a:=b.1))).trans e2.symm;rw[Cy]at this;exact this.trans (Cg.of (Bj _ _))
   ·have:=(Cg.rfl (a:=b.2.1)).mul c1;rw[CO]at this;exact this.symm
   ·have:=(c1.symm.mul (Cg.rfl (a:=b.2.2))).trans e0;rw[Cy]at this;exact this.trans (Cg.of (Bj _ _))
 ·rw[AJ z0,BP]at la;have c0:=one la;refine fin b.1 ⟨?_,?_,?_⟩
  ·have:=(Cg.rfl (a:=b.1)).mul c0;rw[CO]at this;exact this.symm
  ·have:=(c0.symm.mul (Cg.rfl (a:=b.2.1))).trans e2;rw[Cy]at this;exact this.trans (Cg.of (Bj _ _))
  ·have:=(c0.symm.mul (Cg.rfl (a:=b.2.2))).trans e1.symm;rw[Cy]at this;exact this.trans (Cg.of (Bj _ _))
def Pl(Γ:Gam):Prop:=∀(p:Ae)(a b:R3),P4 p->In3 p a->In3 p b->AV p (tri a)=Aa 1->AV p (tri b)=Aa 1->a≠b->∃ y,In3 p y/\AV p (tri y)=Aa 1/\Pr p y (crs a b)/\Γ.F 57 [.int p,AH Ab a,AH Ab b]=.ok (AH Ab y)
theorem X8(hc:XE Γ)(hf:LR Γ)(p:Ae)(a b:R3)(hp:P4 p)(ia:In3 p a)(ib:In3 p b)(la:AV p (tri a)=Aa 1)(lb:AV p (tri b)=Aa 1)(ne:a≠b):∃ y,In3 p y/\AV p (tri y)=Aa 1/\Pr p y (crs a b)/\L6.run Γ [.int p,AH Ab a,AH Ab b]=.ok (AH Ab y):=by
 have e1:=hc a b ((Fh hp ia).b3 (by decide)) ((Fh hp ib).b3 (by decide)) ne
 cases el:AV p (tri (crs a b)) with
 |none=>exact absurd (OS hp ib ia lb la (NT hp (K6 el) la lb)).symm ne
 |some l=>
  obtain⟨u,iu,j,l1,pr,ef⟩:=Lo hp el;have e2:=hf p Ab _ l u hp el iu;rw[ef]at e2;have e2':Γ.F 17 [.int p,AH Ab (crs a b)]=.ok (AH Ab (fmR p u (crs a b))):=e2;refine⟨_,j,l1,pr,?_⟩;generalize AH Ab (fmR p u (crs a b))=Y at *;simp[L6,Df.run,Bt,e1,e2']
noncomputable def K3:E:=(.bin .Mult (.var 3) (.var 4))
noncomputable def Lu:Df:=⟨5,Ad,(.cons (.ret (.cmp .Eq (.bin .Mod (.bi .sum (.cons (.compT K3 [3,4] (.zip (.var 2) (.var 1)) Cc) .nil)) (.var 0)) (.int 0))) .nil)⟩
def Zs(Γ:Gam):Prop:=∀(p:Ae)(C:C6)(x:R3),P4 p->InC p C->In3 p x->Γ.F 162 [.int p,Bq C,AH Ab x]=.ok (.int (vI C x%p))
theorem X5(Γ:Gam)(p:Ae)(C:C6)(x:R3)(hp:P4 p)(iC:InC p C)(ix:In3 p x):KP.run Γ [.int p,Bq C,AH Ab x]=.ok (.int (vI C x%p)):=by
 have p0:=hp.pos;have bC:=iC.b hp;have bx:=Fh hp ix;have k:∀ {u v},Bd 10 u->Bd 10 v->D0 u v=Ab:=fun hu hv=>Fx hu hv (by decide) (by decide)
 have k2:∀ {u v w},Bd 10 u->Bd 10 v->Bd 10 w->D0 u (v*w)=Ab:=fun hu hv hw=>Fx hu (hv.mul hw) (by decide) (by decide)
 obtain⟨c0,c1,c2,c3,c4,c5⟩:=C;obtain⟨x0,x1,x2⟩:=x;have q00:=k bx.1 bx.1;have q11:=k bx.2.1 bx.2.1;have q22:=k bx.2.2 bx.2.2;have q01:=k bx.1 bx.2.1;have q02:=k bx.1 bx.2.2;have q12:=k bx.2.1 bx.2.2;have m0:=k2 bC.b0 bx.1 bx.1;have m1:=k2 bC.b1 bx.2.1 bx.2.1;have m2:=k2 bC.b2 bx.2.2 bx.2.2;have m3:=k2 bC.b3 bx.1 bx.2.1;have m4:=k2 bC.b4 bx.1 bx.2.2;have m5:=k2 bC.b5 bx.2.1 bx.2.2;simp only at q00 q11 q22 q01 q02 q12 m0 m1 m2 m3 m4 m5;have sC:B5 (Bq ⟨c0,c1,c2,c3,c4,c5⟩)=.ok [.int c0,.int c1,.int c2,.int c3,.int c4,.int c5]:=rfl;have as:∀ ρ:Rho,Gn [3,4,5] (AH Ab (x0,x1,x2)) ρ=.ok (((ρ.set 3 (si x0)).set 4 (si x1)).set 5 (si x2)):=fun _=>rfl
 have ev:vI ⟨c0,c1,c2,c3,c4,c5⟩ (x0,x1,x2)=c0*(x0*x0)+c1*(x1*x1)+c2*(x2*x2)+c3*(x0*x1)+c4*(x0*x2)+c5*(x1*x2):=by
  unfold vI;simp only;grind
 rw[ev];generalize Bq ⟨c0,c1,c2,c3,c4,c5⟩=cC at *;generalize AH Ab (x0,x1,x2)=xx at *;generalize hz0:x0*x0=z0 at *;generalize hz1:x1*x1=z1 at *;generalize hz2:x2*x2=z2 at *;generalize hz3:x0*x1=z3 at *;generalize hz4:x0*x2=z4 at *;generalize hz5:x1*x2=z5 at *;have cp:Bg (cGT Γ [si p,sh cC,sh xx,si x0,si x1,si x2,sh (.lst [.int z0,.int z1,.int z2,.int z3,.int z4,.int z5]),Af,Af] [7,8] Cc) (cFT Γ [si p,sh cC,sh xx,si x0,si x1,si x2,sh (.lst [.int z0,.int z1,.int z2,.int z3,.int z4,.int z5]),Af,Af] [7,8] Kt) (CT [.int c0,.int c1,.int c2,.int c3,.int c4,.int c5] [.int z0,.int z1,.int z2,.int z3,.int z4,.int z5])=.ok [.int (c0*z0),.int (c1*z1),.int (c2*z2),.int (c3*z3),.int (c4*z4),.int (c5*z5)]:=by
  simp[Bg,cGT,cFT,CT,Kt,Cc,m0,m1,m2,m3,m4,m5]
 generalize hs:c0*z0+c1*z1+c2*z2+c3*z3+c4*z4+c5*z5=s;have sm:Fe 0 [.int (c0*z0),.int (c1*z1),.int (c2*z2),.int (c3*z3),.int (c4*z4),.int (c5*z5)]=.ok s:=by rw[<-hs];simp[Fe]
 simp[KP,Df.run,Bt,as,q00,q11,q22,q01,q02,q12,hz0,hz1,hz2,hz3,hz4,hz5,sC,cp,sm,p0]
theorem LI(a b:R3):Aw (crs a b) a=0/\Aw (crs a b) b=0:=by
 unfold Aw crs;constructor<;>grind
theorem DJ{x:Ae}(hp:P4 p)(kz:k%p≠0):k*x%p=0↔x%p=0:=by
 constructor
 ·intro z;exact Cw fun n=>Do hp kz n z
 ·intro z;rw[A8,z,BZ,AZ]
section
variable{Γ:Gam}{ns:Ac Ae}{p:Ae}{C:C6}{s3 s4 s5 s6 s7 s8:Sl}
end
def NF(p:Ae)(x:R3):Prop:=In3 p x/\AV p (tri x)=Aa 1
noncomputable def ptI(p n:Ae):R3:=if n=0 then (0,0,1) else if n<=p then (0,1,n-1) else (1,(n-p-1) / p,(n-p-1)%p)
noncomputable def Db(p:Ae):Ac R3:=(BB (p*p+p+1).toNat).map fun(n:Ag)=>ptI p n
theorem aH{n:Ae}(hp:P4 p)(h0:0<=n)(h1:n<p*p+p+1):NF p (ptI p n):=by
 have p1:1<p:=by have:=hp.lo;omega
 have p0:=hp.pos;unfold ptI;by_cases z:n=0
 ·rw[AC z];exact⟨⟨⟨by decide,p0⟩,⟨by decide,p0⟩,⟨by decide,p1⟩⟩,YL p1⟩
 ·rw[AJ z];by_cases z1:n<=p
  ·rw[AC z1];exact⟨⟨⟨Hj 0,p0⟩,⟨(by decide:(0:Ae)<=1),p1⟩,⟨by show 0<=n-1;omega,by show n-1<p;omega⟩⟩,dR p1 _⟩
  ·rw[AJ z1];have d0:0<=(n-p-1) / p:=Int.ediv_nonneg (by omega) (by omega)
   have d1:(n-p-1) / p<p:=by rw[Int.ediv_lt_iff_lt_mul p0];omega
   exact⟨⟨⟨(by decide:(0:Ae)<=1),p1⟩,⟨d0,d1⟩,⟨Bf _ (by omega),Ba _ p0⟩⟩,fF p1 _ _⟩
theorem dM(hp:P4 p)(h:NF p x):∃ n:Ae,0<=n/\n<p*p+p+1/\x=ptI p n:=by
 obtain⟨⟨i0,i1,i2⟩,l⟩:=h;have p1:1<p:=by have:=hp.lo;omega
 have p0:=hp.pos;have pp:=Hk p0 p0;obtain⟨x0,x1,x2⟩:=x;simp only at i0 i1 i2;unfold tri AV at l;simp only at l;rw[AI i0.1 i0.2]at l;by_cases z0:x0=0
 ·rw[AC z0]at l;unfold AV at l;rw[AI i1.1 i1.2]at l;by_cases z1:x1=0
  ·rw[AC z1]at l;unfold AV at l;rw[AI i2.1 i2.2]at l;by_cases z2:x2=0
   ·rw[AC z2]at l;cases l
   ·rw[AJ z2,BP]at l;exact⟨0,Hj 0,by omega,by rw[z0,z1,l];rfl⟩
  ·rw[AJ z1,BP]at l;refine⟨x2+1,by omega,by omega,?_⟩
   unfold ptI;rw[AJ (by omega),AC (by omega),z0,l,Int.add_sub_cancel]
 ·rw[AJ z0,BP]at l;have m1:p*x1<=p*(p-1):=Int.mul_le_mul_of_nonneg_left (by omega) (by omega)
  have m0:0<=p*x1:=Q7 (by omega) i1.1
  rw[Int.mul_sub,CO]at m1;refine⟨p+1+p*x1+x2,by omega,by omega,?_⟩
  unfold ptI;have e:p+1+p*x1+x2-p-1=x2+p*x1:=by omega
  rw[AJ (by omega),AJ (by omega),e,Int.add_mul_ediv_left _ _ (by omega),Int.ediv_eq_zero_of_lt i2.1 i2.2,Int.add_mul_emod_self_left,AI i2.1 i2.2,EJ,l]
theorem Ey(hp:P4 p):x∈Db p↔NF p x:=by
 have p0:=hp.pos;have pp:=Hk p0 p0;constructor
 ·intro h;obtain⟨n,hn,rfl⟩:=CP.mp h;have:=Dc.mp hn;exact aH hp (by omega) (by omega)
 ·intro h;obtain⟨n,n0,n1,rfl⟩:=dM hp h;refine CP.mpr ⟨n.toNat,Dc.mpr (by omega),?_⟩
  rw[Int.toNat_of_nonneg n0]
theorem Lb(hp:P4 p):(Db p).Nodup:=by
 rcases hp with rfl|rfl|rfl|rfl<;>decide +kernel
theorem LG{α:Type}[DecidableEq α]:∀{l1 l2:Ac α},l1.Nodup->(∀ x∈l1,x∈l2)->l1.length<=l2.length
 |[],_,_,_=>Gf _
 |x::l1,l2,nd,h=>by
  obtain⟨n1,n2⟩:=Bz.mp nd;have hx:=h x AA;have:=LG (l1:=l1) (l2:=l2.erase x) n2 fun y hy=>by
   have hy2:=h y (As _ hy);have ne:y≠x:=fun e=>n1 (e ▸ hy)
   exact(List.mem_erase_of_ne ne).mpr hy2
  rw[List.length_erase_of_mem hx]at this;have l0:0<l2.length:=List.length_pos_of_mem hx;rw[Br];omega
theorem La{α β:Type}{f:α->β}:∀{l:Ac α},l.Nodup->(∀ x∈l,∀ y∈l,f x=f y->x=y)->(l.map f).Nodup
 |[],_,_=>Dd
 |x::l,nd,h=>by
  obtain⟨n1,n2⟩:=Bz.mp nd;rw[Cf,Bz];refine⟨fun m=>?_,La n2 fun y hy z hz=>h y (As _ hy) z (As _ hz)⟩
  obtain⟨y,hy,e⟩:=CP.mp m;have:=h y (As _ hy) x AA e;exact n1 (this ▸ hy)
theorem WC[DecidableEq α]{l:Ac α}(nd:l.Nodup)(F G:α->α)(hF:∀ x∈l,F x∈l)(hG:∀ y∈l,G y∈l)(GF:∀ x∈l,G (F x)=x)(FG:∀ y∈l,F (G y)=y)(Q:α->An):(l.filter fun x=>Q (F x)).length=(l.filter Q).length:=by
 refine Nat.le_antisymm ?_ ?_
 ·have n:((l.filter fun x=>Q (F x)).map F).Nodup:=La (nd.filter _) fun x hx y hy e=>by
   have h1:=GF x (Bb.mp hx).1;have h2:=GF y (Bb.mp hy).1;rw[<-h1,<-h2,e]
  have:=LG (l2:=l.filter Q) n fun z hz=>by
   obtain⟨x,hx,rfl⟩:=CP.mp hz;obtain⟨h1,h2⟩:=Bb.mp hx;exact Bb.mpr ⟨hF x h1,h2⟩
  rwa [BG]at this
 ·have n:((l.filter Q).map G).Nodup:=La (nd.filter _) fun x hx y hy e=>by
   have h1:=FG x (Bb.mp hx).1;have h2:=FG y (Bb.mp hy).1;rw[<-h1,<-h2,e]
  have:=LG (l2:=l.filter fun x=>Q (F x)) n fun z hz=>by
   obtain⟨x,hx,rfl⟩:=CP.mp hz;obtain⟨h1,h2⟩:=Bb.mp hx;exact Bb.mpr ⟨hG x h1,by rw[FG x h1];exact h2⟩
  rwa [BG]at this
noncomputable def nrm(p:Ae)(r:R3):R3:=open Classical in if h:∃ y,NF p y/\Pr p y r then Q3 h else r
theorem UR{p l:Ae}(hp:P4 p)(el:AV p (tri r)=Aa l):NF p (nrm p r)/\Pr p (nrm p r) r:=by
 have h:∃ y,NF p y/\Pr p y r:=by
  obtain⟨u,iu,j,l1,pr,_⟩:=Lo hp el;exact⟨_,⟨j,l1⟩,pr⟩
 unfold nrm;rw[dif_pos h];exact DG h
theorem GK{a b c x:R3}(hp:P4 p)(z:Aq a b c%p≠0)(hx:NF p x):NF p (nrm p (ap a b c x))/\Pr p (nrm p (ap a b c x)) (ap a b c x):=by
 obtain⟨l,el⟩:=XC hp z hx.2 CgR.rfl;exact UR hp el
theorem Mg(hp:P4 p)(hx:NF p x)(hy:NF p y)(h:Pr p x y):x=y:=OS hp hx.1 hy.1 hx.2 hy.2 h
theorem Lc{a b c x:R3}(hp:P4 p)(z:Aq a b c%p≠0)(hx:NF p x):nrm p (ap (bk0 a b c) (bk1 a b c) (bk2 a b c) (nrm p (ap a b c x)))=x:=by
 obtain⟨h1,h2⟩:=GK hp z hx;have zB:Aq (bk0 a b c) (bk1 a b c) (bk2 a b c)%p≠0:=by rw[L8];exact Do hp z z
 obtain⟨h3,h4⟩:=GK hp zB h1;refine Mg hp h3 hx (h4.trans hp ((Pr.ap h2).trans hp ?_));rw[Qp];exact⟨_,z,CgR.rfl⟩
theorem Uk{a b c x:R3}(hp:P4 p)(z:Aq a b c%p≠0)(hx:NF p x):nrm p (ap a b c (nrm p (ap (bk0 a b c) (bk1 a b c) (bk2 a b c) x)))=x:=by
 have zB:Aq (bk0 a b c) (bk1 a b c) (bk2 a b c)%p≠0:=by rw[L8];exact Do hp z z
 obtain⟨h1,h2⟩:=GK hp zB hx;obtain⟨h3,h4⟩:=GK hp z h1;refine Mg hp h3 hx (h4.trans hp ((Pr.ap h2).trans hp ?_));rw[Pf];exact⟨_,z,CgR.rfl⟩
theorem LJ{a b c:R3}(hp:P4 p)(z:Aq a b c%p≠0)(Q:R3->An):((Db p).filter fun x=>Q (nrm p (ap a b c x))).length=((Db p).filter Q).length:=by
 have zB:Aq (bk0 a b c) (bk1 a b c) (bk2 a b c)%p≠0:=by rw[L8];exact Do hp z z
 exact WC (Lb hp) (fun x=>nrm p (ap a b c x)) (fun x=>nrm p (ap (bk0 a b c) (bk1 a b c) (bk2 a b c) x)) (fun x hx=>(Ey hp).mpr (GK hp z ((Ey hp).mp hx)).1) (fun x hx=>(Ey hp).mpr (GK hp zB ((Ey hp).mp hx)).1) (fun x hx=>Lc hp z ((Ey hp).mp hx)) (fun x hx=>Uk hp z ((Ey hp).mp hx)) Q
noncomputable def EC(p:Ae):Ae:=if p=7 then 3 else 2
noncomputable def q4(w:Ag)(k:Ae)(y:R3):Ae:=match w with
  |0=>y.1*y.2.2-y.2.1*y.2.1
  |1=>y.1*y.1
  |2=>y.1*y.2.1
  |_=>y.1*y.1-k*(y.2.1*y.2.1)
noncomputable def E4(w:Ag)(k:Ae)(a b c:R3):C6:=match w with
  |0=>Iu (prd a c) (prd b b)
  |1=>prd a a
  |2=>prd a b
  |_=>Iu (prd a a) (scC k (prd b b))
def W4(w:Ag):Prop:=w=0\/w=1\/w=2\/w=3
theorem Hb(u v x:R3):vI (prd u v) x=Aw u x*Aw v x:=by
 unfold vI prd Aw;simp only;grind
theorem Pq(A B:C6)(x:R3):vI (Iu A B) x=vI A x-vI B x:=by
 unfold vI Iu;simp only;grind
theorem Ih(k:Ae)(A:C6)(x:R3):vI (scC k A) x=k*vI A x:=by
 unfold vI scC;simp only;grind
theorem Qt(hw:W4 w)(k:Ae)(a b c x:R3):vI (E4 w k a b c) x=q4 w k (ap a b c x):=by
 rcases hw with rfl|rfl|rfl|rfl
 ·show vI (Iu _ _) x=Aw a x*Aw c x-Aw b x*Aw b x;rw[Pq,Hb,Hb]
 ·show vI (prd _ _) x=Aw a x*Aw a x;rw[Hb]
 ·show vI (prd _ _) x=Aw a x*Aw b x;rw[Hb]
 ·show vI (Iu _ _) x=Aw a x*Aw a x-k*(Aw b x*Aw b x);rw[Pq,Ih,Hb,Hb]
theorem PR(hw:W4 w)(k d:Ae)(y:R3):q4 w k (Bx d y)=d*d*q4 w k y:=by
 rcases hw with rfl|rfl|rfl|rfl<;>(unfold q4 Bx;simp only;grind)
theorem aF(hw:W4 w){y':R3}(h:CgR p y y'):Cg p (q4 w k y) (q4 w k y'):=by
 rcases hw with rfl|rfl|rfl|rfl
 ·exact(h.1.mul h.2.2).sub (h.2.1.mul h.2.1)
 ·exact h.1.mul h.1
 ·exact h.1.mul h.2.1
 ·exact(h.1.mul h.1).sub (Cg.rfl.mul (h.2.1.mul h.2.1))
theorem aE(hw:W4 w){y':R3}(hp:P4 p)(h:Pr p y y'):(q4 w k y%p=0)↔(q4 w k y'%p=0):=by
 obtain⟨d,dz,e⟩:=h;have q:=(aF (k:=k) hw e).trans (Cg.of (PR hw k d y'));rw[show q4 w k y%p=_ from q]
 exact DJ hp (Do hp dz dz)
theorem PL(hw:W4 w){a b c x:R3}(hp:P4 p)(z:Aq a b c%p≠0)(h:PrC p C (E4 w k a b c))(hx:NF p x):(vI C x%p=0)↔(q4 w k (nrm p (ap a b c x))%p=0):=by
 rw[aE hw hp (GK hp z hx).2,<-Qt hw];obtain⟨d,dz,e⟩:=h;have q:=(GP e CgR.rfl (x:=x)).trans (Cg.of (Ih d _ x));rw[show vI C x%p=_ from q]
 exact DJ hp dz
noncomputable def Qs(p:Ae)(w:Ag):Ag:=match w with
  |0=>(p+1).toNat
  |1=>(p+1).toNat
  |2=>(2*p+1).toNat
  |_=>1
theorem eT(hp:P4 p)(hw:W4 w):((Db p).filter fun y=>decide (q4 w (EC p) y%p=0)).length=Qs p w:=by
 rcases hp with rfl|rfl|rfl|rfl<;>rcases hw with rfl|rfl|rfl|rfl<;>decide +kernel
noncomputable def Ff(p:Ae)(C:C6):Ac R3:=(Db p).filter fun x=>decide (vI C x%p=0)
theorem VV(hw:W4 w){a b c:R3}(hp:P4 p)(z:Aq a b c%p≠0)(h:PrC p C (E4 w (EC p) a b c)):(Ff p C).length=Qs p w:=by
 rw[<-eT hp hw,<-LJ hp z];unfold Ff
 congr 1
 refine FE fun x hx=>?_
 rw[decide_eq_decide];exact PL hw hp z h ((Ey hp).mp hx)
noncomputable def no3(p:Ae)(l:Ac R3):An:=l.all fun x=>l.all fun y=>l.all fun u=>decide (x=y)||decide (x=u)||decide (y=u)||decide (Aq x y u%p≠0)
theorem ZA(hp:P4 p):no3 p ((Db p).filter fun y=>decide (q4 0 (EC p) y%p=0))=Ab:=by
 rcases hp with rfl|rfl|rfl|rfl<;>decide +kernel
theorem VT{a b c:R3}(hp:P4 p)(z:Aq a b c%p≠0)(h:PrC p C (E4 0 (EC p) a b c)){u:R3}(hx:x∈Ff p C)(hy:y∈Ff p C)(hu:u∈Ff p C)(n1:x≠y)(n2:x≠u)(n3:y≠u):Aq x y u%p≠0:=by
 have hw:W4 0:=.inl rfl;have led:∀{x:R3},x∈Ff p C->NF p x/\nrm p (ap a b c x)∈((Db p).filter fun y=>decide (q4 0 (EC p) y%p=0))/\Pr p (nrm p (ap a b c x)) (ap a b c x):=fun {x} hx=>by
  obtain⟨h1,h2⟩:=Bb.mp hx;have nx:=(Ey hp).mp h1;obtain⟨s1,s2⟩:=GK hp z nx;refine⟨nx,Bb.mpr ⟨(Ey hp).mpr s1,?_⟩,s2⟩;rw[AX]at h2 ⊢;exact(PL hw hp z h nx).mp h2
 obtain⟨nx,mx,px⟩:=led hx;obtain⟨ny,my,py⟩:=led hy;obtain⟨nu,mu,pu⟩:=led hu;have inj:∀{x y:R3},NF p x->NF p y->x≠y->nrm p (ap a b c x)≠nrm p (ap a b c y):=fun {x y} hx hy ne e=>ne (by rw[<-Lc hp z hx,<-Lc hp z hy,e])
 have all:=ZA hp;unfold no3 at all;rw[De]at all;have a1:=all _ mx;rw[De]at a1;have a2:=a1 _ my;rw[De]at a2;have a3:=a2 _ mu;simp only[CW,AX]at a3;rcases a3 with ((e|e)|e)|e
 ·exact absurd e (inj nx ny n1)
 ·exact absurd e (inj nx nu n2)
 ·exact absurd e (inj ny nu n3)
 ·intro z0;obtain⟨d1,_,g1⟩:=px;obtain⟨d2,_,g2⟩:=py;obtain⟨d3,_,g3⟩:=pu;have q:=W1 g1 g2 g3;refine e ?_;rw[show Aq _ _ _%p=_ from q,A8,A8 (Aq a b c),z0,BZ,AZ,BZ,AZ]
theorem W2(hw:W4 w){a b c:R3}(hp:P4 p)(z:Aq a b c%p≠0):∃ l,AV p (E4 w k a b c).l=Aa l:=by
 cases el:AV p (E4 w k a b c).l with
 |some l=>exact⟨l,rfl⟩
 |none=>
  have hz:=HZ.mp el;have kk:∀ x∈(E4 w k a b c).l,Cg p x (0*x):=fun x hx=>by show x%p=0*x%p;rw[hz x hx,CA,AZ]
  have e0:CgC p (E4 w k a b c) (scC 0 (E4 w k a b c)):=⟨kk _ (by simp[C6.l]),kk _ (by simp[C6.l]),kk _ (by simp[C6.l]),kk _ (by simp[C6.l]),kk _ (by simp[C6.l]),kk _ (by simp[C6.l])⟩
  have zero:∀ x:R3,vI (E4 w k a b c) x%p=0:=fun x=>by
   rw[show vI (E4 w k a b c) x%p=_ from GP e0 CgR.rfl,Ih,CA,AZ]
  obtain⟨y,hy⟩:∃ y:R3,q4 w k y=1:=by
   rcases hw with rfl|rfl|rfl|rfl
   ·exact⟨(1,0,1),rfl⟩
   ·exact⟨(1,0,0),rfl⟩
   ·exact⟨(1,1,0),rfl⟩
   ·exact⟨(1,0,0),by unfold q4;simp⟩
  have:=zero (ap (bk0 a b c) (bk1 a b c) (bk2 a b c) y);rw[Qt hw,Pf,PR hw,hy,CO]at this;exact absurd this (Do hp z z)
noncomputable def B4(pts:Ac R3):D:=.lst (pts.map (AH Ab))
theorem JX{g:D->R An}{f:D->R D}{q:R3->An}:∀(xs:Ac R3),(∀ x∈xs,g (AH Ab x)=.ok (q x)/\f (AH Ab x)=.ok (AH Ab x))->Bg g f (xs.map (AH Ab))=.ok ((xs.filter q).map (AH Ab))
 |[],_=>rfl
 |x::xs,h=>by
  obtain⟨h1,h2⟩:=h x (AA ..);have ih:=JX xs fun y hy=>h y (As _ hy)
  show (g (AH Ab x)).bind _=_;rw[h1,R.bind_ok,Dg];cases hq:q x with
  |true=>
   rw[AC rfl,AC rfl,h2,R.bind_ok,show Bg g f (Ho (AH Ab) xs)=_ from ih]
   rfl
  |false=>
   rw[AJ (by decide),AJ (by decide)]
   exact ih
def Qq(Γ:Gam):Prop:=∀(p n:Ae),P4 p->0<=n->n<p*p+p+1->Γ.F 157 [.int p,.int n]=.ok (AH Ab (ptI p n))
theorem bG(Γ:Gam)(p n:Ae)(hp:P4 p)(h0:0<=n)(h1:n<p*p+p+1):IW.run Γ [.int p,.int n]=.ok (AH Ab (ptI p n)):=by
 have pp:Da p p=Ab:=G9 (by have:=hp.lo;omega) (by have:=hp.hi;omega)
 have p0:=hp.pos;have ph:=hp.hi;have N0:0<p*p+p+1:=by have:=Hk p0 p0;omega
 have hr:n%(p*p+p+1)=n:=AI h0 h1;have pb:p<1073741824:=by omega
 unfold ptI;by_cases z0:n=0
 ·rw[AC z0];simp[IW,Df.run,Bt,pp,N0,hr,z0];rfl
 ·rw[AJ z0];by_cases z1:n<=p
  ·rw[AC z1];simp[IW,Df.run,Bt,pp,N0,hr,z0,z1];rfl
  ·rw[AJ z1];simp[IW,Df.run,Bt,pp,N0,hr,z0,z1,p0,pb];rfl
noncomputable def IQ:E:=(.call 157 (.cons (.var 0) (.cons (.var 1) .nil)))
noncomputable def JM:Df:=⟨2,Ad,(.cons (.ret (.comp IQ 1 (.rng (.bin .Add (.bin .Add (.bin .Mult (.var 0) (.var 0)) (.var 0)) (.int 1))) Cc)) .nil)⟩
def Qi(Γ:Gam):Prop:=∀ p:Ae,P4 p->Γ.F 164 [.int p]=.ok (B4 (Db p))
theorem bK(h:Qq Γ)(p:Ae)(hp:P4 p):JM.run Γ [.int p]=.ok (B4 (Db p)):=by
 have pp:Da p p=Ab:=G9 (by have:=hp.lo;omega) (by have:=hp.hi;omega)
 have N1:0<=p*p+p+1/\p*p+p+1<=1000:=by rcases hp with rfl|rfl|rfl|rfl<;>decide
 have rg:CM 0 (p*p+p+1)=.ok (Ce 0 (p*p+p+1-0).toNat):=KR (by decide) (by decide) (by omega) (by omega)
 rw[G0]at rg;have cp:Bg (cG Γ [si p,Af] 1 Cc) (cF Γ [si p,Af] 1 IQ) (Ce 0 (p*p+p+1).toNat)=.ok ((Db p).map (AH Ab)):=by
  have key:∀ L:Ac Ag,(∀ k∈L,(k:Ae)<p*p+p+1)->Bg (cG Γ [si p,Af] 1 Cc) (cF Γ [si p,Af] 1 IQ) (L.map fun(k:Ag)=>D.int (0+(k:Ae)))=.ok ((L.map fun(n:Ag)=>ptI p n).map (AH Ab)):=fun L=>by
   induction L with
   |nil=>intro _;rfl
   |cons k L ih=>
    intro hL;have e:=h p k hp (by omega) (hL k AA)
    have f:cF Γ [si p,Af] 1 IQ (.int (0+(k:Ae)))=.ok (AH Ab (ptI p k)):=by
     rw[EJ];simp[cF,IQ,e]
    have ih':=ih fun m hm=>hL m (As _ hm)
    show (R.ok Ab).bind _=_;rw[R.bind_ok,AC rfl,f,R.bind_ok,show Bg _ _ (Ho _ L)=_ from ih']
    rfl
  exact key _ fun k hk=>by have:=Dc.mp hk;omega
 generalize hN:p*p+p+1=N at *;generalize Ce 0 N.toNat=RL at *;have e1:p*p+p+1=N:=hN;simp[JM,Df.run,Bt,pp,e1,rg,cp];rfl
def dW(Γ:Gam):Prop:=∀(p:Ae)(a b c:R3)(w:Ag),GoodR p a b c->W4 w->∃ C:C6,InC p C/\AV p C.l=Aa 1/\PrC p C (E4 w (EC p) a b c)/\Γ.F 163 [.int p,DY a b c,.int w]=.ok (Bq C)
theorem od4(Γ:Gam)(RR ra rb rc:D)(s6:Sl)(hp:P4 p):evE Γ [si p,sh RR,si 3,sh ra,sh rb,sh rc,s6,Af,Af,Af,Af,Af,Af,Af] (.bi .min (.cons (.comp JC 8 (.rng2 (.int 2) (.var 0)) MQ) .nil))=.ok (.int (EC p)):=by
 rcases hp with rfl|rfl|rfl|rfl<;>kernel_rfl!
theorem Pd{Γ:Gam}{s0 s1 s2 s3 s4 s5 s6 s7 s8 s9 s10 s11:Sl}:∀ xs ys:Ac Ae,Bg (cGT Γ [s0,s1,s2,s3,s4,s5,s6,s7,s8,s9,s10,s11,Af,Af] [12,13] Cc) (cFT Γ [s0,s1,s2,s3,s4,s5,s6,s7,s8,s9,s10,s11,Af,Af] [12,13] MR) (CT (ds xs) (ds ys))=.ok (ds (Dh (fun x y=>x-y) xs ys))
 |[],_=>rfl
 |_::_,[]=>rfl
 |x::xs,y::ys=>by
  have ih:=Pd (Γ:=Γ) (s0:=s0) (s1:=s1) (s2:=s2) (s3:=s3) (s4:=s4) (s5:=s5) (s6:=s6) (s7:=s7) (s8:=s8) (s9:=s9) (s10:=s10) (s11:=s11) xs ys;show Bg _ _ (.tup [.int x,.int y]::CT (ds xs) (ds ys))=.ok (.int (x-y)::ds (Dh (fun x y=>x-y) xs ys))
  rw[Bg,ih];rfl
theorem OG{Γ:Gam}{o:Ae}{s0 s1 s2 s3 s4 s5 s6 s8 s9:Sl}(ob:∀ y,Da o y=Ab):∀ xs ys:Ac Ae,Bg (cGT Γ [s0,s1,s2,s3,s4,s5,s6,si o,s8,s9,Af,Af,Af,Af] [10,11] Cc) (cFT Γ [s0,s1,s2,s3,s4,s5,s6,si o,s8,s9,Af,Af,Af,Af] [10,11] JB) (CT (ds xs) (ds ys))=.ok (ds (Dh (fun x y=>x-o*y) xs ys))
 |[],_=>rfl
 |_::_,[]=>rfl
 |x::xs,y::ys=>by
  have ih:=OG (Γ:=Γ) (s0:=s0) (s1:=s1) (s2:=s2) (s3:=s3) (s4:=s4) (s5:=s5) (s6:=s6) (s8:=s8) (s9:=s9) ob xs ys;have f:cFT Γ [s0,s1,s2,s3,s4,s5,s6,si o,s8,s9,Af,Af,Af,Af] [10,11] JB (.tup [.int x,.int y])=.ok (.int (x-o*y)):=by
   simp[cFT,JB,ob]
  show Bg _ _ (.tup [.int x,.int y]::CT (ds xs) (ds ys))=.ok (.int (x-o*y)::ds (Dh (fun x y=>x-o*y) xs ys))
  rw[Bg,ih,f];rfl
theorem bJ(hf:LS Γ)(hd:Zr Γ)(p:Ae)(a b c:R3)(w:Ag)(g:GoodR p a b c)(hw:W4 w):∃ C:C6,InC p C/\AV p C.l=Aa 1/\PrC p C (E4 w (EC p) a b c)/\HU.run Γ [.int p,DY a b c,.int w]=.ok (Bq C):=by
 have hp:=g.p4;obtain⟨l,el⟩:=W2 hw (k:=EC p) hp g.nz;obtain⟨t,C,it,eD,iC,lC,pC⟩:=P6 hp el;have e3:=hf p Ad _ l t hp el it;rw[eD]at e3;refine⟨C,iC,lC,pC,?_⟩
 clear pC lC iC eD it el
 have eaa:=hd p a a hp g.ia g.ia;have eab:=hd p a b hp g.ia g.ib;have eac:=hd p a c hp g.ia g.ic;have ebb:=hd p b b hp g.ib g.ib;have as:∀ ρ:Rho,Gn [3,4,5] (DY a b c) ρ=.ok (((ρ.set 3 (sh (A7 a))).set 4 (sh (A7 b))).set 5 (sh (A7 c))):=fun _=>rfl
 rcases hw with rfl|rfl|rfl|rfl
 ·have e3':Γ.F 158 [.int p,.lst (ds (Dh (fun x y=>x-y) (prd a c).l (prd b b).l))]=.ok (Bq C):=e3
  have e1':Γ.F 160 [A7 a,A7 c]=.ok (.lst (ds (prd a c).l)):=eac;have e2':Γ.F 160 [A7 b,A7 b]=.ok (.lst (ds (prd b b).l)):=ebb;have cp:=fun(s0 s1 s2 s3 s4 s5 s6 s7 s8 s9 s10 s11:Sl)=>Pd (Γ:=Γ) (s0:=s0) (s1:=s1) (s2:=s2) (s3:=s3) (s4:=s4) (s5:=s5) (s6:=s6) (s7:=s7) (s8:=s8) (s9:=s9) (s10:=s10) (s11:=s11) (prd a c).l (prd b b).l
  generalize ds (Dh (fun x y=>x-y) (prd a c).l (prd b b).l)=LC at *
  generalize ds (prd a c).l=LA at *;generalize ds (prd b b).l=LB at *;generalize A7 a=ra at *;generalize A7 b=rb at *;generalize A7 c=rc at *;generalize DY a b c=RR at *;simp[HU,Df.run,Bt,as,e1',e2',cp,e3']
 ·have e3':Γ.F 158 [.int p,.lst (ds (prd a a).l)]=.ok (Bq C):=e3;generalize D.lst (ds (prd a a).l)=A at *;simp[HU,Df.run,Bt,as,eaa,e3']
 ·have e3':Γ.F 158 [.int p,.lst (ds (prd a b).l)]=.ok (Bq C):=e3;generalize D.lst (ds (prd a b).l)=A at *;simp[HU,Df.run,Bt,as,eab,e3']
 ·have ob:∀ y,Da (EC p) y=Ab:=fun y=>by rcases hp with rfl|rfl|rfl|rfl<;>exact G9 (by decide) (by decide)
  have e3':Γ.F 158 [.int p,.lst (ds (Dh (fun x y=>x-EC p*y) (prd a a).l (prd b b).l))]=.ok (Bq C):=e3
  have e1':Γ.F 160 [A7 a,A7 a]=.ok (.lst (ds (prd a a).l)):=eaa;have e2':Γ.F 160 [A7 b,A7 b]=.ok (.lst (ds (prd b b).l)):=ebb;have od:=fun(RR ra rb rc:D)(s6:Sl)=>od4 Γ RR ra rb rc s6 hp
  have cp:=fun(s0 s1 s2 s3 s4 s5 s6 s8 s9:Sl)=>OG (Γ:=Γ) (s0:=s0) (s1:=s1) (s2:=s2) (s3:=s3) (s4:=s4) (s5:=s5) (s6:=s6) (s8:=s8) (s9:=s9) ob (prd a a).l (prd b b).l
  generalize EC p=o at *;generalize ds (Dh (fun x y=>x-o*y) (prd a a).l (prd b b).l)=LC at *
  generalize ds (prd a a).l=LA at *;generalize ds (prd b b).l=LB at *;generalize A7 a=ra at *;generalize A7 b=rb at *;generalize A7 c=rc at *;generalize DY a b c=RR at *;simp[-Ma,HU,Df.run,Bt,as,e1',e2',od,cp,e3']
noncomputable def lc2(a:Ae)(A:C6)(b:Ae)(B:C6):C6:=⟨a*A.c0+b*B.c0,a*A.c1+b*B.c1,a*A.c2+b*B.c2,a*A.c3+b*B.c3,a*A.c4+b*B.c4,a*A.c5+b*B.c5⟩
noncomputable def l3(a:Ae)(A:C6)(b:Ae)(B:C6)(c:Ae)(G:C6):C6:=⟨a*A.c0+b*B.c0+c*G.c0,a*A.c1+b*B.c1+c*G.c1,a*A.c2+b*B.c2+c*G.c2,a*A.c3+b*B.c3+c*G.c3,a*A.c4+b*B.c4+c*G.c4,a*A.c5+b*B.c5+c*G.c5⟩
section
variable{p:Ae}{x y z w:R3}{Q A B G L M:C6}
theorem E9(hp:P4 p)(hx:NF p x)(hy:NF p y)(ne:x≠y):¬ CgR p (crs x y) (0,0,0):=fun h=>ne (Mg hp hx hy (Pr.symm hp (NT hp h hx.2 hy.2)))
theorem Wu(x y z:R3):bk0 (x.1,y.1,z.1) (x.2.1,y.2.1,z.2.1) (x.2.2,y.2.2,z.2.2)=crs y z/\bk1 (x.1,y.1,z.1) (x.2.1,y.2.1,z.2.1) (x.2.2,y.2.2,z.2.2)=crs z x/\bk2 (x.1,y.1,z.1) (x.2.1,y.2.1,z.2.1) (x.2.2,y.2.2,z.2.2)=crs x y:=by
 refine⟨?_,?_,?_⟩<;>simp only[bk0,bk1,bk2,DR,DQ,DP,crs]<;>refine Bw ?_ (Bw ?_ ?_)<;>simp only<;>grind
theorem Vn(x y z:R3):Aq (x.1,y.1,z.1) (x.2.1,y.2.1,z.2.1) (x.2.2,y.2.2,z.2.2)=Aq x y z:=by
 unfold Aq det;simp only;grind
theorem UP(b0 b1 b2:Ae)(r0 r1 r2:R3):pb ⟨0,0,0,b0,b1,b2⟩ r0 r1 r2=l3 b0 (prd r0 r1) b1 (prd r0 r2) b2 (prd r1 r2):=by
 simp only[pb,l3,prd,vI,bI,Aw,ap,tw0,tw1,tw2,DR,DQ,DP]
 congr 1<;>grind
theorem TC(hx:vI Q x%p=0)(hy:vI Q y%p=0)(hz:vI Q z%p=0):CgC p (scC (Aq x y z*Aq x y z) Q) (l3 (bI Q x y) (prd (crs y z) (crs z x)) (bI Q x z) (prd (crs y z) (crs x y)) (bI Q y z) (prd (crs z x) (crs x y))):=by
 obtain⟨e0,e1,e2⟩:=XX (x.1,y.1,z.1) (x.2.1,y.2.1,z.2.1) (x.2.2,y.2.2,z.2.2);have h:=dC Q (x.1,y.1,z.1) (x.2.1,y.2.1,z.2.1) (x.2.2,y.2.2,z.2.2) (bk0 (x.1,y.1,z.1) (x.2.1,y.2.1,z.2.1) (x.2.2,y.2.2,z.2.2)) (bk1 (x.1,y.1,z.1) (x.2.1,y.2.1,z.2.1) (x.2.2,y.2.2,z.2.2)) (bk2 (x.1,y.1,z.1) (x.2.1,y.2.1,z.2.1) (x.2.2,y.2.2,z.2.2));rw[e0,e1,e2,dD,Vn]at h;obtain⟨f0,f1,f2⟩:=Wu x y z;rw[f0,f1,f2]at h;rw[<-h,<-UP];refine Qb ?_ ⟨Cg.rfl,Cg.rfl,Cg.rfl⟩ ⟨Cg.rfl,Cg.rfl,Cg.rfl⟩ ⟨Cg.rfl,Cg.rfl,Cg.rfl⟩;have k:∀{n:Ae},n%p=0->Cg p n 0:=fun {n} h=>by show n%p=0%p;rw[h,AZ]
 exact⟨k hx,k hy,k hz,Cg.rfl,Cg.rfl,Cg.rfl⟩
theorem fL(x y z w:R3):Bx (Aq x y z) w=(Aq w y z*x.1+Aq x w z*y.1+Aq x y w*z.1,Aq w y z*x.2.1+Aq x w z*y.2.1+Aq x y w*z.2.1,Aq w y z*x.2.2+Aq x w z*y.2.2+Aq x y w*z.2.2):=by
 unfold Bx Aq det;refine Bw ?_ (Bw ?_ ?_)<;>simp only<;>grind
theorem PN(x y z w:R3):Bx (Aq x y z) (crs z w)=(Aq w y z*(crs z x).1-Aq x w z*(crs y z).1,Aq w y z*(crs z x).2.1-Aq x w z*(crs y z).2.1,Aq w y z*(crs z x).2.2-Aq x w z*(crs y z).2.2):=by
 unfold Bx Aq det crs;refine Bw ?_ (Bw ?_ ?_)<;>simp only<;>grind
theorem PJ(x y z w:R3):Bx (Aq x y z) (crs y w)=(Aq x y w*(crs y z).1-Aq w y z*(crs x y).1,Aq x y w*(crs y z).2.1-Aq w y z*(crs x y).2.1,Aq x y w*(crs y z).2.2-Aq w y z*(crs x y).2.2):=by
 unfold Bx Aq det crs;refine Bw ?_ (Bw ?_ ?_)<;>simp only<;>grind
theorem Z9(x y z w:R3):Bx (Aq x y z) (crs x w)=(Aq x w z*(crs x y).1-Aq x y w*(crs z x).1,Aq x w z*(crs x y).2.1-Aq x y w*(crs z x).2.1,Aq x w z*(crs x y).2.2-Aq x y w*(crs z x).2.2):=by
 unfold Bx Aq det crs;refine Bw ?_ (Bw ?_ ?_)<;>simp only<;>grind
theorem gB(x y z w:R3):scC (Aq x y z) (prd (crs x y) (crs z w))=lc2 (Aq w y z) (prd (crs z x) (crs x y)) (-Aq x w z) (prd (crs y z) (crs x y)):=by
 have e:=PN x y z w;unfold Bx at e;simp only[RQ]at e;obtain⟨e0,e1,e2⟩:=e;generalize Aq x y z=d at *;generalize Aq w y z=u0 at *;generalize Aq x w z=u1 at *;generalize crs z w=c at *;generalize crs x y=r2 at *;generalize crs y z=r0 at *;generalize crs z x=r1 at *;simp only[scC,lc2,prd]
 congr 1<;>grind
theorem fZ(x y z w:R3):scC (Aq x y z) (prd (crs x z) (crs y w))=lc2 (Aq w y z) (prd (crs z x) (crs x y)) (-Aq x y w) (prd (crs y z) (crs z x)):=by
 have e:=PJ x y z w;have f:crs x z=Bx (-1) (crs z x):=by
  unfold Bx crs;refine Bw ?_ (Bw ?_ ?_)<;>simp only<;>grind
 rw[f];unfold Bx at e ⊢;simp only[RQ]at e;obtain⟨e0,e1,e2⟩:=e;generalize Aq x y z=d at *;generalize Aq w y z=u0 at *;generalize Aq x y w=u2 at *;generalize crs y w=c at *;generalize crs x y=r2 at *;generalize crs y z=r0 at *;generalize crs z x=r1 at *;simp only[scC,lc2,prd]
 congr 1<;>grind
theorem z0{n:Ae}(h:n%p=0):Cg p n 0:=by show n%p=0%p;rw[h,AZ]
theorem z0'{n:Ae}(h:Cg p n 0):n%p=0:=by
 have:n%p=0%p:=h;rw[this,AZ]
theorem fC(hx:vI Q x%p=0)(hy:vI Q y%p=0)(hz:vI Q z%p=0)(hw:vI Q w%p=0):Cg p (Aq w y z*Aq x w z*bI Q x y+Aq w y z*Aq x y w*bI Q x z+Aq x w z*Aq x y w*bI Q y z) 0:=by
 have e:=Pp Q x y z (Aq w y z) (Aq x w z) (Aq x y w);rw[<-fL]at e;have f:vI Q (Bx (Aq x y z) w)=Aq x y z*Aq x y z*vI Q w:=by
  unfold vI Bx;simp only;grind
 rw[f]at e;have h1:Cg p (Aq x y z*Aq x y z*vI Q w) 0:=(Cg.mul Cg.rfl (z0 hw)).trans (Cg.of (BZ _));rw[e]at h1;have k:∀{a n:Ae},n%p=0->Cg p (a*a*n) 0:=fun h=>(Cg.mul Cg.rfl (z0 h)).trans (Cg.of (BZ _))
 have h2:=h1.sub (((k (a:=Aq w y z) hx).add (k (a:=Aq x w z) hy)).add (k (a:=Aq x y w) hz));refine(Cg.of ?_).trans (h2.trans (Cg.of (by rfl)))
 generalize vI Q x=q0;generalize vI Q y=q1;generalize vI Q z=q2;generalize bI Q x y=b0;generalize bI Q x z=b1;generalize bI Q y z=b2;generalize Aq w y z=u0;generalize Aq x w z=u1;generalize Aq x y w=u2;grind
def Spn(p:Ae)(Q L M:C6):Prop:=∃ g a b,g%p≠0/\CgC p (scC g Q) (lc2 a L b M)
section
variable{d u0 u1 u2 b0 b1 b2 q A B G l m:Ae}
theorem Iy(h:Cg p (d*d*q) (b0*A+b1*B+b2*G))(r:Cg p (u0*u1*b0+u0*u2*b1+u1*u2*b2) 0)(hl:d*l=u0*G + -u1*B)(hm:d*m=u0*G + -u2*A):Cg p (u1*u2*(d*d)*q) (-(u2*b1*d)*l + -(u1*b0*d)*m):=by
 have h1:=(Cg.rfl (p:=p) (a:=u1*u2)).mul h;have h2:=(Cg.rfl (p:=p) (a:=G)).mul r;have h3:=h1.sub h2.symm;refine(Cg.of (by clear h r h1 h2 h3 hl hm;grind)).trans (h3.trans (Cg.of ?_))
 clear h r h1 h2 h3
 have e1:-(u2*b1*d)*l=-(u2*b1)*(d*l):=by grind
 have e2:-(u1*b0*d)*m=-(u1*b0)*(d*m):=by grind
 rw[e1,e2,hl,hm];grind
theorem Ix(h:Cg p (d*d*q) (b0*A+b1*B+b2*G))(h1:Cg p u1 0)(hb:Cg p b1 0)(hl:d*l=u0*G + -u1*B)(hm:d*m=u0*G + -u2*A):Cg p (u0*u2*(d*d)*q) ((u0*b0+u2*b2)*d*l + -(u0*b0*d)*m):=by
 have e1:=(Cg.rfl (p:=p) (a:=u0*u2)).mul h;have e2:=(Cg.rfl (p:=p) (a:=u0*u2*B)).mul hb;have e3:=(Cg.rfl (p:=p) (a:=(u0*b0+u2*b2)*B)).mul h1;have e4:=(e1.sub e2.symm).sub e3.symm;refine(Cg.of (by clear h e1 e2 e3 e4 hl hm;grind)).trans (e4.trans (Cg.of ?_))
 clear h e1 e2 e3 e4
 have f1:(u0*b0+u2*b2)*d*l=(u0*b0+u2*b2)*(d*l):=by grind
 have f2:-(u0*b0*d)*m=-(u0*b0)*(d*m):=by grind
 rw[f1,f2,hl,hm];grind
theorem Iw(h:Cg p (d*d*q) (b0*A+b1*B+b2*G))(h2:Cg p u2 0)(hb:Cg p b0 0)(hl:d*l=u0*G + -u1*B)(hm:d*m=u0*G + -u2*A):Cg p (u0*u1*(d*d)*q) (-(u0*b1*d)*l+(u0*b1+u1*b2)*d*m):=by
 have e1:=(Cg.rfl (p:=p) (a:=u0*u1)).mul h;have e2:=(Cg.rfl (p:=p) (a:=u0*u1*A)).mul hb;have e3:=(Cg.rfl (p:=p) (a:=(u0*b1+u1*b2)*A)).mul h2;have e4:=(e1.sub e2.symm).sub e3.symm;refine(Cg.of (by clear h e1 e2 e3 e4 hl hm;grind)).trans (e4.trans (Cg.of ?_))
 clear h e1 e2 e3 e4
 have f1:-(u0*b1*d)*l=-(u0*b1)*(d*l):=by grind
 have f2:(u0*b1+u1*b2)*d*m=(u0*b1+u1*b2)*(d*m):=by grind
 rw[f1,f2,hl,hm];grind
end
theorem FA{a b c d:Ae}(ha:Cg p a 0)(hb:Cg p b 0):Cg p (a*c-b*d) 0:=((ha.mul Cg.rfl).sub (hb.mul Cg.rfl)).trans (Cg.of (by rw[CA,CA];rfl))
theorem LW(hp:P4 p)(dz:d%p≠0)(h:CgR p (Bx d r) (0,0,0)):CgR p r (0,0,0):=⟨z0 ((DJ hp dz).mp (z0' h.1)),z0 ((DJ hp dz).mp (z0' h.2.1)),z0 ((DJ hp dz).mp (z0' h.2.2))⟩
theorem PC(hp:P4 p)(dz:Aq x y z%p≠0)(hx:vI Q x%p=0)(hy:vI Q y%p=0)(hz:vI Q z%p=0)(hw:vI Q w%p=0)(n0:¬ CgR p (crs x w) (0,0,0))(n1:¬ CgR p (crs y w) (0,0,0))(n2:¬ CgR p (crs z w) (0,0,0)):Spn p Q (prd (crs x y) (crs z w)) (prd (crs x z) (crs y w)):=by
 have t:=TC (Q:=Q) hx hy hz;have r:=fC (Q:=Q) hx hy hz hw;have eL:=gB x y z w;have eM:=fZ x y z w;have m01:¬ (Cg p (Aq w y z) 0/\Cg p (Aq x w z) 0):=fun ⟨a,b⟩=>n2 (LW hp dz (by rw[PN];exact⟨FA a b,FA a b,FA a b⟩))
 have m02:¬ (Cg p (Aq w y z) 0/\Cg p (Aq x y w) 0):=fun ⟨a,b⟩=>n1 (LW hp dz (by rw[PJ];exact⟨FA b a,FA b a,FA b a⟩))
 have m12:¬ (Cg p (Aq x w z) 0/\Cg p (Aq x y w) 0):=fun ⟨a,b⟩=>n0 (LW hp dz (by rw[Z9];exact⟨FA a b,FA a b,FA a b⟩))
 generalize prd (crs x y) (crs z w)=L at *;generalize prd (crs x z) (crs y w)=M at *;generalize prd (crs z x) (crs x y)=G at *;generalize prd (crs y z) (crs x y)=B at *;generalize prd (crs y z) (crs z x)=A at *;generalize bI Q x y=b0 at *;generalize bI Q x z=b1 at *;generalize bI Q y z=b2 at *;generalize Aq x y z=d at *;generalize Aq w y z=u0 at *;generalize Aq x w z=u1 at *;generalize Aq x y w=u2 at *;obtain⟨t0,t1,t2,t3,t4,t5⟩:=t;simp only[scC,l3]at t0 t1 t2 t3 t4 t5;simp only[scC,lc2,C6.mk.injEq]at eL eM;obtain⟨l0,l1,l2,l3,l4,l5⟩:=eL;obtain⟨k0,k1,k2,k3,k4,k5⟩:=eM;have dd:=Do hp dz dz;by_cases c1:Cg p u1 0
 ·have v0:u0%p≠0:=fun h=>m01 ⟨z0 h,c1⟩
  have v2:u2%p≠0:=fun h=>m12 ⟨c1,z0 h⟩
  have hb:Cg p b1 0:=by
   have e:Cg p (u0*u2*b1) 0:=by
    have h1:=((c1.mul (Cg.rfl (a:=u0*b0))).add (c1.mul (Cg.rfl (a:=u2*b2))));exact(Cg.of (by clear r h1;grind)).trans ((r.sub h1).trans (Cg.of (by clear r h1;grind)))
   exact z0 ((DJ hp (Do hp v0 v2)).mp (z0' e))
  exact⟨u0*u2*(d*d),_,_,Do hp (Do hp v0 v2) dd,Ix t0 c1 hb l0 k0,Ix t1 c1 hb l1 k1,Ix t2 c1 hb l2 k2,Ix t3 c1 hb l3 k3,Ix t4 c1 hb l4 k4,Ix t5 c1 hb l5 k5⟩
 ·have v1:u1%p≠0:=fun h=>c1 (z0 h)
  by_cases c2:Cg p u2 0
  ·have v0:u0%p≠0:=fun h=>m02 ⟨z0 h,c2⟩
   have hb:Cg p b0 0:=by
    have e:Cg p (u0*u1*b0) 0:=by
     have h1:=((c2.mul (Cg.rfl (a:=u0*b1))).add (c2.mul (Cg.rfl (a:=u1*b2))));exact(Cg.of (by clear r h1;grind)).trans ((r.sub h1).trans (Cg.of (by clear r h1;grind)))
    exact z0 ((DJ hp (Do hp v0 v1)).mp (z0' e))
   exact⟨u0*u1*(d*d),_,_,Do hp (Do hp v0 v1) dd,Iw t0 c2 hb l0 k0,Iw t1 c2 hb l1 k1,Iw t2 c2 hb l2 k2,Iw t3 c2 hb l3 k3,Iw t4 c2 hb l4 k4,Iw t5 c2 hb l5 k5⟩
  ·have v2:u2%p≠0:=fun h=>c2 (z0 h)
   exact⟨u1*u2*(d*d),_,_,Do hp (Do hp v1 v2) dd,Iy t0 r l0 k0,Iy t1 r l1 k1,Iy t2 r l2 k2,Iy t3 r l3 k3,Iy t4 r l4 k4,Iy t5 r l5 k5⟩
theorem Z7(hp:P4 p)(hd:Aq x y z%p≠0\/Aq x y w%p≠0)(hx:vI Q x%p=0)(hy:vI Q y%p=0)(hz:vI Q z%p=0)(hw:vI Q w%p=0)(ax:NF p x)(ay:NF p y)(az:NF p z)(aw:NF p w)(xz:x≠z)(yz:y≠z)(zw:z≠w)(xw:x≠w)(yw:y≠w):Spn p Q (prd (crs x y) (crs z w)) (prd (crs x z) (crs y w)):=by
 rcases hd with hd|hd
 ·exact PC hp hd hx hy hz hw (E9 hp ax aw xw) (E9 hp ay aw yw) (E9 hp az aw zw)
 ·have hd':Aq y x w%p≠0:=by
   have e:Aq y x w=-1*Aq x y w:=by unfold Aq det;grind
   rw[e];exact Do hp hp.m1 hd
  have q:=PC hp hd' hy hx hw hz (E9 hp ay az yz) (E9 hp ax az xz) (E9 hp aw az zw.symm);have e1:prd (crs y x) (crs w z)=prd (crs x y) (crs z w):=by
   unfold prd crs;congr 1<;>grind
  have e2:prd (crs y w) (crs x z)=prd (crs x z) (crs y w):=by
   unfold prd;congr 1<;>grind
  rw[e1,e2]at q;exact q
theorem Xm(a b:Ae)(v:R3):vI (lc2 a L b M) v=a*vI L v+b*vI M v:=by
 unfold vI lc2;simp only;grind
theorem YM{a a' b b':Ae}{L' M':C6}(ha:Cg p a a')(hL:CgC p L L')(hb:Cg p b b')(hM:CgC p M M'):CgC p (lc2 a L b M) (lc2 a' L' b' M'):=
 ⟨(ha.mul hL.1).add (hb.mul hM.1),(ha.mul hL.2.1).add (hb.mul hM.2.1),(ha.mul hL.2.2.1).add (hb.mul hM.2.2.1),(ha.mul hL.2.2.2.1).add (hb.mul hM.2.2.2.1),(ha.mul hL.2.2.2.2.1).add (hb.mul hM.2.2.2.2.1),(ha.mul hL.2.2.2.2.2).add (hb.mul hM.2.2.2.2.2)⟩
theorem O4{l:Ae}(hp:P4 p)(lQ:AV p Q.l=Aa l)(h:CgC p Q ⟨0,0,0,0,0,0⟩):A5:=by
 have:AV p Q.l=Af:=HZ.mpr fun n hn=>by
  simp only[C6.l,At,AQ,BN]at hn;obtain⟨h0,h1,h2,h3,h4,h5⟩:=h;rcases hn with rfl|rfl|rfl|rfl|rfl|rfl
  ·exact z0' h0
  ·exact z0' h1
  ·exact z0' h2
  ·exact z0' h3
  ·exact z0' h4
  ·exact z0' h5
 rw[this]at lQ;cases lQ
theorem Oe(hp:P4 p)(dz:d%p≠0)(h:CgC p (scC d Q) ⟨0,0,0,0,0,0⟩):CgC p Q ⟨0,0,0,0,0,0⟩:=⟨z0 ((DJ hp dz).mp (z0' h.1)),z0 ((DJ hp dz).mp (z0' h.2.1)),z0 ((DJ hp dz).mp (z0' h.2.2.1)),z0 ((DJ hp dz).mp (z0' h.2.2.2.1)),z0 ((DJ hp dz).mp (z0' h.2.2.2.2.1)),z0 ((DJ hp dz).mp (z0' h.2.2.2.2.2))⟩
theorem XF(hp:P4 p){l k n:Ae}{F:C6}(lQ:AV p Q.l=Aa l)(kz:k%p≠0)(h:CgC p (scC k Q) (scC n F)):PrC p F Q:=by
 have nz:n%p≠0:=fun z=>by
  refine O4 hp lQ (Oe hp kz (h.trans ?_));have q:∀ c:Ae,Cg p (n*c) 0:=fun c=>((z0 z).mul Cg.rfl).trans (Cg.of (CA c))
  exact⟨q _,q _,q _,q _,q _,q _⟩
 exact(PrC.symm hp ⟨n,nz,CgC.rfl⟩).trans hp (PrC.trans hp ⟨1,hp.o1,(h.symm).trans (CgC.of (JY _).symm)⟩ ⟨k,kz,CgC.rfl⟩)
theorem Xc(hp:P4 p){l:Ae}{v:R3}(lQ:AV p Q.l=Aa l)(s:Spn p Q L M)(hv:vI Q v%p=0)(n:¬ (vI L v%p=0/\vI M v%p=0)):PrC p (lc2 (vI M v) L (-vI L v) M) Q:=by
 obtain⟨g,a,b,gz,e⟩:=s;have e1:Cg p (a*vI L v+b*vI M v) 0:=by
  have q:=GP (x:=v) (x':=v) e ⟨Cg.rfl,Cg.rfl,Cg.rfl⟩;rw[Ih,Xm]at q;exact q.symm.trans ((Cg.mul Cg.rfl (z0 hv)).trans (Cg.of (BZ _)))
 generalize vI L v=L4 at *;generalize vI M v=M4 at *;have key:∀(k c:Ae),k%p≠0->(∀ A B:Ae,Cg p (k*(a*A+b*B)) (c*(M4*A + -L4*B)))->PrC p (lc2 M4 L (-L4) M) Q:=fun k c kz h=>by
  refine XF hp (k:=k*g) (n:=c) lQ (Do hp kz gz) ?_;have e':CgC p (scC (k*g) Q) (scC k (lc2 a L b M)):=by
   rw[<-LV];exact CgC.sc Cg.rfl e
  exact e'.trans ⟨h _ _,h _ _,h _ _,h _ _,h _ _,h _ _⟩
 by_cases c:L4%p=0
 ·have c':M4%p≠0:=fun z=>n ⟨c,z⟩
  refine key M4 a c' fun A B=>?_
  have h:=(Cg.rfl (p:=p) (a:=B)).mul e1;refine(Cg.of ?_).trans (((Cg.rfl (p:=p) (a:=a*(M4*A + -L4*B))).add h).trans (Cg.of ?_))
  ·clear e e1 h key;grind
  ·clear e e1 h key;grind
 ·refine key L4 (-b) c fun A B=>?_
  have h:=(Cg.rfl (p:=p) (a:=A)).mul e1;refine(Cg.of ?_).trans (((Cg.rfl (p:=p) (a:=-b*(M4*A + -L4*B))).add h).trans (Cg.of ?_))
  ·clear e e1 h key;grind
  ·clear e e1 h key;grind
end
noncomputable def MP:Ss:=(.cons (.ife (.cmp .In (.var 2) (.sl (.var 0) .non (.var 1))) (.cons (.rais 107 (.cons (.var 2) .nil)) .nil) .nil) .nil)
--
noncomputable def JP:Df:=⟨3,Ad,(.cons (.forT [1,2] (.enm (.var 0)) MP) .nil)⟩
--
noncomputable def JD:Ss:=(.cons (.asg 3 Ad (.bin .Add (.sl (.var 1) .non (.var 2)) (.sl (.var 1) (.bin .Add (.var 2) (.int 1)) .non))) (.cons (.ife (.and (.cons (.cmp .Eq (.call 61 (.cons (.var 0) (.cons (.idx (.var 3) (.int 0)) (.cons (.idx (.var 3) (.int 1)) (.cons (.idx (.var 3) (.int 2)) .nil))))) (.int 0)) (.cons (.cmp .Eq (.call 61 (.cons (.var 0) (.cons (.idx (.var 3) (.int 0)) (.cons (.idx (.var 3) (.int 1)) (.cons (.idx (.var 3) (.int 3)) .nil))))) (.int 0)) .nil))) (.cons (.ret (.bi .tuple (.cons (.var 3) .nil))) .nil) .nil) .nil))
--
noncomputable def JO:Df:=⟨4,Ad,(.cons (.fors 2 (.e (.tup (.cons (.int 4) (.cons (.int 3) (.cons (.int 2) (.cons (.int 1) (.cons (.int 0) .nil))))))) JD) (.cons (.ret .non) .nil))⟩
--
noncomputable def KA:Df:=⟨2,Ad,(.cons (.ret (.tup (.cons (.bin .Mult (.idx (.var 0) (.int 0)) (.idx (.var 1) (.int 0))) (.cons (.bin .Mult (.idx (.var 0) (.int 1)) (.idx (.var 1) (.int 1))) (.cons (.bin .Mult (.idx (.var 0) (.int 2)) (.idx (.var 1) (.int 2))) (.cons (.bin .Add (.bin .Mult (.idx (.var 0) (.int 0)) (.idx (.var 1) (.int 1))) (.bin .Mult (.idx (.var 0) (.int 1)) (.idx (.var 1) (.int 0)))) (.cons (.bin .Add (.bin .Mult (.idx (.var 0) (.int 0)) (.idx (.var 1) (.int 2))) (.bin .Mult (.idx (.var 0) (.int 2)) (.idx (.var 1) (.int 0)))) (.cons (.bin .Add (.bin .Mult (.idx (.var 0) (.int 1)) (.idx (.var 1) (.int 2))) (.bin .Mult (.idx (.var 0) (.int 2)) (.idx (.var 1) (.int 1)))) .nil)))))))) .nil)⟩
noncomputable def KO:E:=(.bin .Sub (.bin .Mult (.var 4) (.var 6)) (.bin .Mult (.var 5) (.var 7)))
--
noncomputable def JN:Df:=⟨8,Ad,(.cons (.asg 2 Ad (.call 196 (.cons (.call 57 (.cons (.var 0) (.cons (.idx (.var 1) (.int 0)) (.cons (.idx (.var 1) (.int 1)) .nil)))) (.cons (.call 57 (.cons (.var 0) (.cons (.idx (.var 1) (.int 2)) (.cons (.idx (.var 1) (.int 3)) .nil)))) .nil)))) (.cons (.asg 3 Ad (.call 196 (.cons (.call 57 (.cons (.var 0) (.cons (.idx (.var 1) (.int 0)) (.cons (.idx (.var 1) (.int 2)) .nil)))) (.cons (.call 57 (.cons (.var 0) (.cons (.idx (.var 1) (.int 1)) (.cons (.idx (.var 1) (.int 3)) .nil)))) .nil)))) (.cons (.asg 4 Ad (.call 126 (.cons (.var 0) (.cons (.var 3) (.cons (.idx (.var 1) (.int 4)) .nil))))) (.cons (.asg 5 Ad (.call 126 (.cons (.var 0) (.cons (.var 2) (.cons (.idx (.var 1) (.int 4)) .nil))))) (.cons (.ret (.call 122 (.cons (.var 0) (.cons (.compT KO [6,7] (.zip (.var 2) (.var 3)) Cc) .nil)))) .nil)))))⟩
--
noncomputable def JE:Df:=⟨3,Ad,(.cons (.ife (.cmp .NotEq (.bi .len (.cons (.var 1) .nil)) (.int 5)) (.cons (.rais 13 (.cons (.str (DI "a curve is told by five points")) .nil)) .nil) .nil) (.cons (.expr (.call 194 (.cons (.var 1) .nil))) (.cons (.asg 2 Ad (.call 195 (.cons (.var 0) (.cons (.var 1) .nil)))) (.cons (.ife (.cmp .IsNot (.var 2) .non) (.cons (.rais 118 (.cons (.var 2) .nil)) .nil) .nil) (.cons (.ret (.call 197 (.cons (.var 0) (.cons (.var 1) .nil)))) .nil)))))⟩
section
variable{Γ:Gam}{p:Ae}{P0 P1 P2 P3 P4:D}
noncomputable def five(P0 P1 P2 P3 P4:D):D:=.lst [P0,P1,P2,P3,P4]
theorem Yc(f0:flD 5 P0=Ab)(f1:flD 5 P1=Ab)(f2:flD 5 P2=Ab)(f3:flD 5 P3=Ab)(f4:flD 5 P4=Ab)(n01:eqD P0 P1=Ad)(n02:eqD P0 P2=Ad)(n03:eqD P0 P3=Ad)(n04:eqD P0 P4=Ad)(n12:eqD P1 P2=Ad)(n13:eqD P1 P3=Ad)(n14:eqD P1 P4=Ad)(n23:eqD P2 P3=Ad)(n24:eqD P2 P4=Ad)(n34:eqD P3 P4=Ad):JP.run Γ [five P0 P1 P2 P3 P4]=.ok .non:=by
 simp[five,JP,Df.run,Bt,FC,CU,Kh,MP,Hz,Gq,f0,f1,f2,f3,f4,n01,n02,n03,n04,n12,n13,n14,n23,n24,n34]
theorem Jg{k a b:Ae}{q0 q1 q2 q3:D}{u v:Ac D}{s2 s3:Sl}(c0:slD PP Af (Aa k)=.ok (.lst u))(c1:slD PP (Aa (k+1)) Af=.ok (.lst v))(ad:Cr .Add (.lst u) (.lst v)=.ok (.lst [q0,q1,q2,q3]))(e0:Γ.F 61 [.int p,q0,q1,q2]=.ok (.int a))(e1:Γ.F 61 [.int p,q0,q1,q3]=.ok (.int b))(h:¬ (a=0/\b=0)):CC Γ 2 JD (.int k) [si p,sh PP,s2,s3]=.next [si p,sh PP,si k,sh (.lst [q0,q1,q2,q3])]:=by
 have i0:Ck (.lst [q0,q1,q2,q3]) (.int 0)=.ok q0:=rfl;have i1:Ck (.lst [q0,q1,q2,q3]) (.int 1)=.ok q1:=rfl;have i2:Ck (.lst [q0,q1,q2,q3]) (.int 2)=.ok q2:=rfl;have i3:Ck (.lst [q0,q1,q2,q3]) (.int 3)=.ok q3:=rfl;generalize D.lst [q0,q1,q2,q3]=FF at *;generalize D.lst u=U at *;generalize D.lst v=V at *;by_cases ha:a=0
 ·have hb:b≠0:=fun z=>h ⟨ha,z⟩
  simp[CC,JD,c0,c1,ad,i0,i1,i2,i3,e0,e1,ha,hb]
 ·simp[CC,JD,c0,c1,ad,i0,i1,i2,i3,e0,e1,ha]
theorem fD{m012 m013 m014 m023 m024 m123 m124:Ae}(e012:Γ.F 61 [.int p,P0,P1,P2]=.ok (.int m012))(e013:Γ.F 61 [.int p,P0,P1,P3]=.ok (.int m013))(e014:Γ.F 61 [.int p,P0,P1,P4]=.ok (.int m014))(e023:Γ.F 61 [.int p,P0,P2,P3]=.ok (.int m023))(e024:Γ.F 61 [.int p,P0,P2,P4]=.ok (.int m024))(e123:Γ.F 61 [.int p,P1,P2,P3]=.ok (.int m123))(e124:Γ.F 61 [.int p,P1,P2,P4]=.ok (.int m124))(h4:¬ (m012=0/\m013=0))(h3:¬ (m012=0/\m014=0))(h2:¬ (m013=0/\m014=0))(h1:¬ (m023=0/\m024=0))(h0:¬ (m123=0/\m124=0)):JO.run Γ [.int p,five P0 P1 P2 P3 P4]=.ok .non:=by
 have t4:=fun(s2 s3:Sl)=>Jg (Γ:=Γ) (p:=p) (k:=4) (PP:=five P0 P1 P2 P3 P4) (s2:=s2) (s3:=s3) rfl rfl rfl e012 e013 h4
 have t3:=fun(s2 s3:Sl)=>Jg (Γ:=Γ) (p:=p) (k:=3) (PP:=five P0 P1 P2 P3 P4) (s2:=s2) (s3:=s3) rfl rfl rfl e012 e014 h3
 have t2:=fun(s2 s3:Sl)=>Jg (Γ:=Γ) (p:=p) (k:=2) (PP:=five P0 P1 P2 P3 P4) (s2:=s2) (s3:=s3) rfl rfl rfl e013 e014 h2
 have t1:=fun(s2 s3:Sl)=>Jg (Γ:=Γ) (p:=p) (k:=1) (PP:=five P0 P1 P2 P3 P4) (s2:=s2) (s3:=s3) rfl rfl rfl e023 e024 h1
 have t0:=fun(s2 s3:Sl)=>Jg (Γ:=Γ) (p:=p) (k:=0) (PP:=five P0 P1 P2 P3 P4) (s2:=s2) (s3:=s3) rfl rfl rfl e123 e124 h0
 generalize five P0 P1 P2 P3 P4=PP at *;simp[JO,Df.run,Bt,CU,t4,t3,t2,t1,t0]
theorem X0{R:D}(e1:Γ.F 194 [five P0 P1 P2 P3 P4]=.ok .non)(e2:Γ.F 195 [.int p,five P0 P1 P2 P3 P4]=.ok .non)(e3:Γ.F 197 [.int p,five P0 P1 P2 P3 P4]=.ok R):JE.run Γ [.int p,five P0 P1 P2 P3 P4]=.ok R:=by
 have ln:biD .len [five P0 P1 P2 P3 P4]=.ok (.int 5):=rfl;generalize five P0 P1 P2 P3 P4=PP at *;simp[JE,Df.run,Bt,ln,e1,e2,e3]
end
structure Five (p:Ae) (C:C6) (pts:Ac R3):Prop where
 len:pts.length=5
 nd:pts.Nodup
 nf:∀ x∈pts,NF p x
 on:∀ x∈pts,vI C x%p=0
 n4:∀ n:R3,¬ CgR p n (0,0,0)->(pts.filter fun x=>decide (Aw n x%p=0)).length<=3
theorem Five.perm{a b:Ac R3}(h:Five p C a)(e:b.Perm a):Five p C b:=
 ⟨e.length_eq.trans h.len,e.nodup_iff.mpr h.nd,fun x hx=>h.nf x (e.mem_iff.mp hx),fun x hx=>h.on x (e.mem_iff.mp hx),fun n hn=>by rw[(e.filter _).length_eq];exact h.n4 n hn⟩
theorem J5{l:Ac α}(h:l.length=5):∃ a b c d e,l=[a,b,c,d,e]:=by
  match l,h with
  |[a,b,c,d,e],_=>exact⟨a,b,c,d,e,rfl⟩
theorem KQ(a b c d e:R3):B4 [a,b,c,d,e]=five (AH Ab a) (AH Ab b) (AH Ab c) (AH Ab d) (AH Ab e):=rfl
theorem Jf(a:R3):flD 5 (AH Ab a)=Ab:=rfl
section
variable{Γ:Gam}{p:Ae}{C:C6}
def Os(Γ:Gam):Prop:=∀(p:Ae)(C:C6)(pts:Ac R3),Five p C pts->Γ.F 194 [B4 pts]=.ok .non
theorem UI(Γ:Gam)(p:Ae)(C:C6)(pts:Ac R3)(h:Five p C pts):JP.run Γ [B4 pts]=.ok .non:=by
 obtain⟨a,b,c,d,e,rfl⟩:=J5 h.len;have nd:=h.nd;simp only[Bz,At,AQ,BN,CV,Eo,Dd,GS]at nd;obtain⟨⟨n01,n02,n03,n04⟩,⟨n12,n13,n14⟩,⟨n23,n24⟩,n34⟩:=nd;rw[KQ];have k:∀{x y:R3},¬ x=y->eqD (AH Ab x) (AH Ab y)=Ad:=fun h=>by rw[Mb];exact Cn h
 exact Yc (Jf _) (Jf _) (Jf _) (Jf _) (Jf _) (k n01) (k n02) (k n03) (k n04) (k n12) (k n13) (k n14) (k n23) (k n24) (k n34)
theorem OB{a b c d e:R3}(hp:P4 p)(h:Five p C [a,b,c,d,e]):∀ n:R3,¬ CgR p n (0,0,0)->(decide (Aw n a%p=0)).toNat+(decide (Aw n b%p=0)).toNat+(decide (Aw n c%p=0)).toNat+(decide (Aw n d%p=0)).toNat+(decide (Aw n e%p=0)).toNat<=3:=fun n hn=>by
 have:=h.n4 n hn;have k:∀(q:R3->An)(x:R3)(l:Ac R3),((x::l).filter q).length=(q x).toNat+(l.filter q).length:=fun q x l=>by
  rw[Dg];cases q x<;>simp<;>omega
 rw[k,k,k,k,k]at this;simp only[List.filter_nil,D6]at this;omega
theorem Jv(x y z:R3):Aw (crs x y) z=Aq x y z:=by
 unfold Aw crs Aq det;grind
def OZ(Γ:Gam):Prop:=∀(p:Ae)(C:C6)(pts:Ac R3),P4 p->Five p C pts->Γ.F 195 [.int p,B4 pts]=.ok .non
theorem VN(hm:OY Γ)(p:Ae)(C:C6)(pts:Ac R3)(hp:P4 p)(h:Five p C pts):JO.run Γ [.int p,B4 pts]=.ok .non:=by
 obtain⟨a,b,c,d,e,rfl⟩:=J5 h.len;have nd:=h.nd;simp only[Bz,At,AQ,BN,CV,Eo,Dd,GS]at nd;obtain⟨⟨n01,n02,n03,n04⟩,⟨n12,n13,n14⟩,⟨n23,n24⟩,n34⟩:=nd;have na:=h.nf a (by simp)
 have nb:=h.nf b (by simp)
 have nc:=h.nf c (by simp)
 have nd:=h.nf d (by simp)
 have ne:=h.nf e (by simp)
 have B:∀{x:R3},NF p x->B3 x:=fun hx=>(Fh hp hx.1).b3 (by decide)
 have m:∀{x y z:R3},NF p x->NF p y->NF p z->Γ.F 61 [.int p,AH Ab x,AH Ab y,AH Ab z]=.ok (.int (Aq x y z%p)):=fun hx hy hz=>hm p Ab _ _ _ hp.pos (B hx) (B hy) (B hz)
 have key:∀ x y:R3,NF p x->NF p y->x≠y->(decide (Aw (crs x y) a%p=0)).toNat+(decide (Aw (crs x y) b%p=0)).toNat+(decide (Aw (crs x y) c%p=0)).toNat+(decide (Aw (crs x y) d%p=0)).toNat+(decide (Aw (crs x y) e%p=0)).toNat<=3:=fun x y hx hy hne=>OB hp h _ (E9 hp hx hy hne)
 have z:∀ x y:R3,decide (Aw (crs x y) x%p=0)=Ab/\decide (Aw (crs x y) y%p=0)=Ab:=fun x y=>by
  obtain⟨h1,h2⟩:=LI x y;rw[h1,h2];exact⟨AR (AZ p),AR (AZ p)⟩
 have fin:∀{x y u v:R3},(decide (Aw (crs x y) u%p=0)=Ab->decide (Aw (crs x y) v%p=0)=Ab->A5)->¬ (Aq x y u%p=0/\Aq x y v%p=0):=fun f ⟨h1,h2⟩=>by
  rw[<-Jv]at h1 h2;exact f (AR h1) (AR h2)
 rw[KQ];refine fD (m na nb nc) (m na nb nd) (m na nb ne) (m na nc nd) (m na nc ne) (m nb nc nd) (m nb nc ne) (fin fun h1 h2=>?_) (fin fun h1 h2=>?_) (fin fun h1 h2=>?_) (fin fun h1 h2=>?_) (fin fun h1 h2=>?_)
 ·have q:=key a b na nb n01;rw[(z a b).1,(z a b).2,h1,h2]at q;simp only[B7]at q;omega
 ·have q:=key a b na nb n01;rw[(z a b).1,(z a b).2,h1,h2]at q;simp only[B7]at q;omega
 ·have q:=key a b na nb n01;rw[(z a b).1,(z a b).2,h1,h2]at q;simp only[B7]at q;omega
 ·have q:=key a c na nc n02;rw[(z a c).1,(z a c).2,h1,h2]at q;simp only[B7]at q;omega
 ·have q:=key b c nb nc n12;rw[(z b c).1,(z b c).2,h1,h2]at q;simp only[B7]at q;omega
def Pk(Γ:Gam):Prop:=∀(p:Ae)(a b:R3),P4 p->In3 p a->In3 p b->Γ.F 196 [AH Ab a,AH Ab b]=.ok (Bq (prd a b))
theorem X6(Γ:Gam)(p:Ae)(a b:R3)(hp:P4 p)(ia:In3 p a)(ib:In3 p b):KA.run Γ [AH Ab a,AH Ab b]=.ok (Bq (prd a b)):=by
 have ba:=Fh hp ia;have bb:=Fh hp ib;have k:∀ {u v},Bd 10 u->Bd 10 v->D0 u v=Ab:=fun hu hv=>Fx hu hv (by decide) (by decide)
 obtain⟨x0,x1,x2⟩:=Hc Ab a;obtain⟨y0,y1,y2⟩:=Hc Ab b;simp[KA,Df.run,Bt,x0,x1,x2,y0,y1,y2,k ba.1 bb.1,k ba.2.1 bb.2.1,k ba.2.2 bb.2.2,k ba.1 bb.2.1,k ba.2.1 bb.1,k ba.1 bb.2.2,k ba.2.2 bb.1,k ba.2.1 bb.2.2,k ba.2.2 bb.2.1];rfl
theorem Kd{a b:R3}(hp:P4 p)(ia:In3 p a)(ib:In3 p b):BC (prd a b):=by
 have hh:=hp.hi;have k:∀{x y:Ae},0<=x/\x<p->0<=y/\y<p->0<=x*y/\x*y<=100:=fun {x y} hx hy=>by
  refine⟨Q7 hx.1 hy.1,?_⟩;exact GZ (Int.mul_le_mul (show x<=10 by omega) (show y<=10 by omega) hy.1 (by decide)) (by decide)
 have b1:∀{n:Ae},0<=n/\n<=100->Bd 10 n:=fun h=>by unfold Bd;omega
 have b2:∀{m n:Ae},0<=m/\m<=100->0<=n/\n<=100->Bd 10 (m+n):=fun h g=>by unfold Bd;omega
 obtain⟨a0,a1,a2⟩:=ia;obtain⟨b0,b1',b2'⟩:=ib;exact⟨b1 (k a0 b0),b1 (k a1 b1'),b1 (k a2 b2'),b2 (k a0 b1') (k a1 b0),b2 (k a0 b2') (k a2 b0),b2 (k a1 b2') (k a2 b1')⟩
def Ph(Γ:Gam):Prop:=∀(p:Ae)(C:C6)(x:R3),P4 p->BC C->In3 p x->Γ.F 126 [.int p,Bq C,AH Ab x]=.ok (.int (vI C x%p))
theorem XZ(hr:Hu Γ)(p:Ae)(C:C6)(x:R3)(hp:P4 p)(bC:BC C)(ix:In3 p x):LK.run Γ [.int p,Bq C,AH Ab x]=.ok (.int (vI C x%p)):=by
 obtain⟨i0,i1,i2,i3,i4,i5⟩:=ix6 C;obtain⟨x0,x1,x2⟩:=Hc Ab x;have bx:=Fh hp ix;have k:∀ {u v},Bd 10 u->Bd 10 v->D0 u v=Ab:=fun hu hv=>Fx hu hv (by decide) (by decide)
 have k2:∀ {u v w},Bd 10 u->Bd 10 v->Bd 10 w->D0 (u*v) w=Ab:=fun hu hv hw=>Fx (hu.mul hv) hw (by decide) (by decide)
 simp[LK,Df.run,Bt,i0,i1,i2,i3,i4,i5,x0,x1,x2,k bC.b0 bx.1,k bC.b1 bx.2.1,k bC.b2 bx.2.2,k bC.b3 bx.1,k bC.b4 bx.1,k bC.b5 bx.2.1,k2 bC.b0 bx.1 bx.1,k2 bC.b1 bx.2.1 bx.2.1,k2 bC.b2 bx.2.2 bx.2.2,k2 bC.b3 bx.1 bx.2.1,k2 bC.b4 bx.1 bx.2.2,k2 bC.b5 bx.2.1 bx.2.2,hr p _ hp.pos];rfl
theorem Y1{P0 P1 P2 P3 P4 A B A' B' R:D}{L M:C6}{l m:Ae}(bL:BC L)(bM:BC M)(bl:Bd 10 l)(bm:Bd 10 m)(e01:Γ.F 57 [.int p,P0,P1]=.ok A)(e23:Γ.F 57 [.int p,P2,P3]=.ok B)(eL:Γ.F 196 [A,B]=.ok (Bq L))(e02:Γ.F 57 [.int p,P0,P2]=.ok A')(e13:Γ.F 57 [.int p,P1,P3]=.ok B')(eM:Γ.F 196 [A',B']=.ok (Bq M))(vM:Γ.F 126 [.int p,Bq M,P4]=.ok (.int m))(vL:Γ.F 126 [.int p,Bq L,P4]=.ok (.int l))(ec:Γ.F 122 [.int p,.lst (ds (lc2 m L (-l) M).l)]=.ok R):JN.run Γ [.int p,five P0 P1 P2 P3 P4]=.ok R:=by
 have i0:Ck (five P0 P1 P2 P3 P4) (.int 0)=.ok P0:=rfl;have i1:Ck (five P0 P1 P2 P3 P4) (.int 1)=.ok P1:=rfl;have i2:Ck (five P0 P1 P2 P3 P4) (.int 2)=.ok P2:=rfl;have i3:Ck (five P0 P1 P2 P3 P4) (.int 3)=.ok P3:=rfl;have i4:Ck (five P0 P1 P2 P3 P4) (.int 4)=.ok P4:=rfl;have sL:B5 (Bq L)=.ok (ds L.l):=rfl;have sM:B5 (Bq M)=.ok (ds M.l):=rfl;have k:∀ {u v},Bd 10 u->Bd 10 v->D0 u v=Ab:=fun hu hv=>Fx hu hv (by decide) (by decide)
 have cp:∀(PP cL cM:D),Bg (cGT Γ [si p,sh PP,sh cL,sh cM,si m,si l,Af,Af] [6,7] Cc) (cFT Γ [si p,sh PP,sh cL,sh cM,si m,si l,Af,Af] [6,7] KO) (CT (ds L.l) (ds M.l))=.ok (ds (lc2 m L (-l) M).l):=fun PP cL cM=>by
  obtain⟨l0,l1,l2,l3,l4,l5⟩:=L;obtain⟨m0,m1,m2,m3,m4,m5⟩:=M;have n:∀ a b:Ae,m*a + -l*b=m*a-l*b:=fun a b=>by rw[Int.neg_mul,Int.sub_eq_add_neg]
  simp[Bg,cGT,cFT,CT,ds,C6.l,lc2,KO,Cc,n,k bm bL.b0,k bm bL.b1,k bm bL.b2,k bm bL.b3,k bm bL.b4,k bm bL.b5,k bl bM.b0,k bl bM.b1,k bl bM.b2,k bl bM.b3,k bl bM.b4,k bl bM.b5]
 generalize five P0 P1 P2 P3 P4=PP at *;generalize ds (lc2 m L (-l) M).l=FF at *;generalize ds L.l=LL at *;generalize ds M.l=MM at *;generalize Bq L=cL at *;generalize Bq M=cM at *;simp[JN,Df.run,Bt,i0,i1,i2,i3,i4,e01,e23,eL,e02,e13,eM,vM,vL,sL,sM,cp,ec]
theorem Yk{a a' b b':R3}(ha:CgR p a a')(hb:CgR p b b'):CgC p (prd a b) (prd a' b'):=
 ⟨ha.1.mul hb.1,ha.2.1.mul hb.2.1,ha.2.2.mul hb.2.2,(ha.1.mul hb.2.1).add (ha.2.1.mul hb.1),(ha.1.mul hb.2.2).add (ha.2.2.mul hb.1),(ha.2.1.mul hb.2.2).add (ha.2.2.mul hb.2.1)⟩
theorem OK(hp:P4 p){a a' b b':R3}(ha:Pr p a a')(hb:Pr p b b'):PrC p (prd a b) (prd a' b'):=by
 obtain⟨d,dz,e⟩:=ha;obtain⟨d',dz',e'⟩:=hb;refine⟨d*d',Do hp dz dz',(Yk e e').trans (CgC.of ?_)⟩;unfold prd scC Bx
 congr 1<;>grind
theorem YH(hp:P4 p){L M L' M':C6}(hL:PrC p L' L)(hM:PrC p M' M)(v:R3):PrC p (lc2 (vI M' v%p) L' (-(vI L' v%p)) M') (lc2 (vI M v) L (-vI L v) M):=by
 obtain⟨d,dz,e⟩:=hL;obtain⟨d',dz',e'⟩:=hM;refine⟨d*d',Do hp dz dz',?_⟩;have r:CgR p v v:=⟨Cg.rfl,Cg.rfl,Cg.rfl⟩;have q:=GP e r;have q':=GP e' r;rw[Ih]at q q';have neg:∀{a b:Ae},Cg p a b->Cg p (-a) (-b):=fun {a b} h=>by
  have:=(Cg.rfl (p:=p) (a:=0)).sub h
  rwa [Q9,Q9]at this
 refine(YM ((Cg.md rfl).trans q') e (neg ((Cg.md rfl).trans q)) e').trans (CgC.of ?_);generalize vI M v=m;generalize vI L v=l;unfold lc2 scC
 congr 1<;>grind
def O0(Γ:Gam):Prop:=∀(p:Ae)(C:C6)(pts:Ac R3),P4 p->InC p C->AV p C.l=Aa 1->Five p C pts->Γ.F 197 [.int p,B4 pts]=.ok (Bq C)
theorem Um(hp:P4 p){l:Ae}{E:C6}(lC:AV p C.l=Aa l)(h:PrC p E C):∃ l',AV p E.l=Aa l':=by
 cases e:AV p E.l with
 |some l'=>exact⟨l',rfl⟩
 |none=>
  exfalso
  obtain⟨d,dz,q⟩:=h;have z:=HZ.mp e;have k:∀{n:Ae},n∈E.l->Cg p n 0:=fun hn=>z0 (z _ hn)
  have q2:CgC p E ⟨0,0,0,0,0,0⟩:=⟨k (by simp[C6.l]),k (by simp[C6.l]),k (by simp[C6.l]),k (by simp[C6.l]),k (by simp[C6.l]),k (by simp[C6.l])⟩
  exact O4 hp lC (Oe hp dz (q.symm.trans q2))
noncomputable def Fc(a b c d e:R3):C6:=lc2 (vI (prd (crs a c) (crs b d)) e) (prd (crs a b) (crs c d)) (-vI (prd (crs a b) (crs c d)) e) (prd (crs a c) (crs b d))
theorem Y0{a b c d e:R3}{l:Ae}(hp:P4 p)(lC:AV p C.l=Aa l)(h:Five p C [a,b,c,d,e]):PrC p (Fc a b c d e) C:=by
 have nd:=h.nd;simp only[Bz,At,AQ,BN,CV,Eo,Dd,GS]at nd;obtain⟨⟨n01,n02,n03,n04⟩,⟨n12,n13,n14⟩,⟨n23,n24⟩,n34⟩:=nd;have na:=h.nf a (by simp)
 have nb:=h.nf b (by simp)
 have nc:=h.nf c (by simp)
 have nd:=h.nf d (by simp)
 have ne:=h.nf e (by simp)
 have z:∀ x y:R3,Aw (crs x y) x%p=0/\Aw (crs x y) y%p=0:=fun x y=>by
  obtain⟨h1,h2⟩:=LI x y;rw[h1,h2];exact⟨AZ p,AZ p⟩
 -- no four of them on a line
 have key:∀ n:R3,¬ CgR p n (0,0,0)->(decide (Aw n a%p=0)).toNat+(decide (Aw n b%p=0)).toNat+(decide (Aw n c%p=0)).toNat+(decide (Aw n d%p=0)).toNat+(decide (Aw n e%p=0)).toNat<=3:=OB hp h;have dd:Aq a b c%p≠0\/Aq a b d%p≠0:=by
  apply Cw
  intro hn;have hn':Aq a b c%p=0/\Aq a b d%p=0:=⟨Cw fun z=>hn (.inl z),Cw fun z=>hn (.inr z)⟩
  have q:=key _ (E9 hp na nb n01);rw[AR (z a b).1,AR (z a b).2,Jv a b c,Jv a b d,AR hn'.1,AR hn'.2]at q;simp only[B7]at q;omega
 have sp:=Z7 hp dd (h.on a (by simp)) (h.on b (by simp)) (h.on c (by simp)) (h.on d (by simp)) na nb nc nd n02 n12 n23 n03 n13
 have nn:¬ (vI (prd (crs a b) (crs c d)) e%p=0/\vI (prd (crs a c) (crs b d)) e%p=0):=fun ⟨h1,h2⟩=>by
  rw[Hb]at h1 h2;have sw:∀ x y:R3,Aw (crs x y) e%p=0->Aw (crs x e) y%p=0:=fun x y hz=>by
   have:Aw (crs x e) y=-1*Aw (crs x y) e:=by unfold Aw crs;grind
   rw[this,A8,hz,BZ,AZ]
  have sw':∀ x y:R3,Aw (crs x y) e%p=0->Aw (crs y e) x%p=0:=fun x y hz=>by
   have:Aw (crs y e) x=Aw (crs x y) e:=by unfold Aw crs;grind
   rw[this,hz]
  have spl:∀{u v:Ae},u*v%p=0->u%p=0\/v%p=0:=fun {u v} hz=>by
   by_cases hu:u%p=0
   ·exact .inl hu
   ·exact .inr ((DJ hp hu).mp hz)
  rcases spl h1 with g1|g1<;>rcases spl h2 with g2|g2
  ·have q:=key _ (E9 hp na ne n04);rw[AR (z a e).1,AR (z a e).2,AR (sw _ _ g1),AR (sw _ _ g2)]at q;simp only[B7]at q;omega
  ·have q:=key _ (E9 hp nb ne n14);rw[AR (z b e).1,AR (z b e).2,AR (sw' _ _ g1),AR (sw _ _ g2)]at q;simp only[B7]at q;omega
  ·have q:=key _ (E9 hp nc ne n24);rw[AR (z c e).1,AR (z c e).2,AR (sw _ _ g1),AR (sw' _ _ g2)]at q;simp only[B7]at q;omega
  ·have q:=key _ (E9 hp nd ne n34);rw[AR (z d e).1,AR (z d e).2,AR (sw' _ _ g1),AR (sw' _ _ g2)]at q;simp only[B7]at q;omega
 exact Xc hp lC sp (h.on e (by simp)) nn
theorem VO(hj:Pl Γ)(hl:Pk Γ)(hv:Ph Γ)(hc:Po Γ)(p:Ae)(C:C6)(pts:Ac R3)(hp:P4 p)(iC:InC p C)(lC:AV p C.l=Aa 1)(h:Five p C pts):JN.run Γ [.int p,B4 pts]=.ok (Bq C):=by
 obtain⟨a,b,c,d,e,rfl⟩:=J5 h.len;have fp:=Y0 hp lC h;have nd:=h.nd;simp only[Bz,At,AQ,BN,CV,Eo,Dd,GS]at nd;obtain⟨⟨n01,n02,n03,n04⟩,⟨n12,n13,n14⟩,⟨n23,n24⟩,n34⟩:=nd;have na:=h.nf a (by simp)
 have nb:=h.nf b (by simp)
 have nc:=h.nf c (by simp)
 have nd:=h.nf d (by simp)
 have ne:=h.nf e (by simp)
 obtain⟨y01,i01,_,p01,e01⟩:=hj p a b hp na.1 nb.1 na.2 nb.2 n01;obtain⟨y23,i23,_,p23,e23⟩:=hj p c d hp nc.1 nd.1 nc.2 nd.2 n23;obtain⟨y02,i02,_,p02,e02⟩:=hj p a c hp na.1 nc.1 na.2 nc.2 n02;obtain⟨y13,i13,_,p13,e13⟩:=hj p b d hp nb.1 nd.1 nb.2 nd.2 n13;have pr:=(YH hp (OK hp p01 p23) (OK hp p02 p13) e).trans hp fp;obtain⟨l,el⟩:=Um hp lC pr;obtain⟨t,D,it,eD,iD,lD,pD⟩:=P6 hp el;have ec:=hc p Ad _ l t hp el it;rw[eD]at ec;have eq:=Uh hp iD iC lD lC (pD.trans hp pr);subst eq;have bd:∀ n:Ae,Bd 10 (n%p):=fun n=>Jo hp (Bf _ (by have:=hp.pos;omega)) (Ba _ hp.pos)
 rw[KQ];exact Y1 (Kd hp i01 i23) (Kd hp i02 i13) (bd _) (bd _) e01 e23 (hl p _ _ hp i01 i23) e02 e13 (hl p _ _ hp i02 i13) (hv p _ _ hp (Kd hp i02 i13) ne.1) (hv p _ _ hp (Kd hp i01 i23) ne.1) ec
def Pi(Γ:Gam):Prop:=∀(p:Ae)(C:C6)(pts:Ac R3),P4 p->InC p C->AV p C.l=Aa 1->Five p C pts->Γ.F 198 [.int p,B4 pts]=.ok (Bq C)
theorem UG(h1:Os Γ)(h2:OZ Γ)(h3:O0 Γ)(p:Ae)(C:C6)(pts:Ac R3)(hp:P4 p)(iC:InC p C)(lC:AV p C.l=Aa 1)(h:Five p C pts):JE.run Γ [.int p,B4 pts]=.ok (Bq C):=by
 have e1:=h1 p C pts h;have e2:=h2 p C pts hp h;have e3:=h3 p C pts hp iC lC h;obtain⟨a,b,c,d,e,rfl⟩:=J5 h.len;exact X0 e1 e2 e3
end
section
variable{p:Ae}{r n a b c x y z u:R3}
theorem WB(x y n:R3):crs (crs x y) n=(Aw n x*y.1-Aw n y*x.1,Aw n x*y.2.1-Aw n y*x.2.1,Aw n x*y.2.2-Aw n y*x.2.2):=by
 unfold crs Aw;refine Bw ?_ (Bw ?_ ?_)<;>simp only<;>grind
theorem par(hp:P4 p)(h1:CgR p (crs r n) (0,0,0))(h2:CgR p (crs r a) (0,0,0))(rz:¬ CgR p r (0,0,0))(nz:¬ CgR p n (0,0,0))(e:Aw n z%p=0):Aw a z%p=0:=by
 obtain⟨f0,f1,f2⟩:=h1;obtain⟨g0,g1,g2⟩:=h2;simp only[crs]at f0 f1 f2 g0 g1 g2;have sw:∀{x y:Ae},Cg p (x-y) 0->Cg p x y:=fun {x y} h=>(Cg.of (by omega)).trans ((h.add (Cg.rfl (a:=y))).trans (Cg.of (by omega)))
 have d1:=sw f0;have d2:=sw f1;have d3:=sw f2;have c1:=sw g0;have c2:=sw g1;have c3:=sw g2
 -- r i n j=r j n i
 have key:∀ ri ni ai:Ae,Cg p (ri*n.1) (r.1*ni)->Cg p (ri*n.2.1) (r.2.1*ni)->Cg p (ri*n.2.2) (r.2.2*ni)->Cg p (ri*a.1) (r.1*ai)->Cg p (ri*a.2.1) (r.2.1*ai)->Cg p (ri*a.2.2) (r.2.2*ai)->ni%p≠0->Aw a z%p=0:=fun ri ni ai k0 k1 k2 l0 l1 l2 hz=>by
  have rn:ri%p≠0:=fun q=>rz ⟨?_,?_,?_⟩
  ·have s1:Cg p (ni*Aw r z) 0:=by
    have t:=(((k0.mul (Cg.rfl (a:=z.1))).add (k1.mul (Cg.rfl (a:=z.2.1)))).add (k2.mul (Cg.rfl (a:=z.2.2)))).symm;refine(Cg.of ?_).trans (t.trans ((Cg.of ?_).trans (((Cg.rfl (a:=ri)).mul (z0 e)).trans (Cg.of (BZ _)))))
    ·unfold Aw;clear e k0 k1 k2 l0 l1 l2 t c1 c2 c3 d1 d2 d3 f0 f1 f2 g0 g1 g2 sw;grind
    ·unfold Aw;clear e k0 k1 k2 l0 l1 l2 t c1 c2 c3 d1 d2 d3 f0 f1 f2 g0 g1 g2 sw;grind
   have s2:=z0 ((DJ hp hz).mp (z0' s1));have s3:Cg p (ri*Aw a z) 0:=by
    have t:=(((l0.mul (Cg.rfl (a:=z.1))).add (l1.mul (Cg.rfl (a:=z.2.1)))).add (l2.mul (Cg.rfl (a:=z.2.2))));refine(Cg.of ?_).trans (t.trans ((Cg.of ?_).trans (((Cg.rfl (a:=ai)).mul s2).trans (Cg.of (BZ _)))))
    ·unfold Aw;clear e k0 k1 k2 l0 l1 l2 t c1 c2 c3 d1 d2 d3 f0 f1 f2 g0 g1 g2 sw s1 s2;grind
    ·unfold Aw;clear e k0 k1 k2 l0 l1 l2 t c1 c2 c3 d1 d2 d3 f0 f1 f2 g0 g1 g2 sw s1 s2;grind
   exact(DJ hp rn).mp (z0' s3)
  all_goals
   refine z0 ((DJ hp hz).mp (z0' ?_))
  ·exact(Cg.of (Bj _ _)).trans (k0.symm.trans (((z0 q).mul Cg.rfl).trans (Cg.of (CA _))))
  ·exact(Cg.of (Bj _ _)).trans (k1.symm.trans (((z0 q).mul Cg.rfl).trans (Cg.of (CA _))))
  ·exact(Cg.of (Bj _ _)).trans (k2.symm.trans (((z0 q).mul Cg.rfl).trans (Cg.of (CA _))))
 by_cases n0:n.1%p=0
 ·by_cases n1:n.2.1%p=0
  ·have n2:n.2.2%p≠0:=fun q=>nz ⟨z0 n0,z0 n1,z0 q⟩
   exact key r.2.2 n.2.2 a.2.2 d2 d1.symm Cg.rfl c2 c1.symm Cg.rfl n2
  ·exact key r.2.1 n.2.1 a.2.1 d3.symm Cg.rfl d1 c3.symm Cg.rfl c1 n1
 ·exact key r.1 n.1 a.1 Cg.rfl d3 d2.symm Cg.rfl c3 c2.symm n0
theorem QP(h1:Aw n x%p=0)(h2:Aw n y%p=0):CgR p (crs (crs x y) n) (0,0,0):=by
 rw[WB];exact⟨FA (z0 h1) (z0 h2),FA (z0 h1) (z0 h2),FA (z0 h1) (z0 h2)⟩
theorem LY(hp:P4 p)(hx:NF p x)(hy:NF p y)(ne:x≠y)(nz:¬ CgR p n (0,0,0))(n1:Aw n x%p=0)(n2:Aw n y%p=0)(a1:Aw a x%p=0)(a2:Aw a y%p=0)(e:Aw n z%p=0):Aw a z%p=0:=
 par hp (QP n1 n2) (QP a1 a2) (E9 hp hx hy ne) nz e
theorem U3(hp:P4 p)(hx:NF p x)(hy:NF p y)(ne:x≠y)(nz:¬ CgR p n (0,0,0))(n1:Aw n x%p=0)(n2:Aw n y%p=0)(e:Aw n u%p=0):Aq x y u%p=0:=by
 rw[<-Jv];obtain⟨h1,h2⟩:=LI x y;exact LY hp hx hy ne nz n1 n2 (by rw[h1];exact AZ p) (by rw[h2];exact AZ p) e
end
theorem NC{α β:Type}(g:α->β):∀(l:Ac α)(k:Ag),(l.map g).eraseIdx k=(l.eraseIdx k).map g
 |[],_=>rfl
 |_::_,0=>rfl
 |x::l,k+1=>congrArg (g x :: ·) (NC g l k)
theorem Nj{α:Type}:∀(l:Ac α)(i:Ag)(h:i<l.length),(l[i]::l.eraseIdx i).Perm l
 |_::_,0,_=>Ra _
 |x::l,i+1,h=>(List.Perm.swap ..).trans (List.Perm.cons x (Nj l i (Nat.lt_of_succ_lt_succ h)))
noncomputable def ow(l:Ac R3):Sl:=Aa (B4 l,Ab)
theorem UF(a:Ae)(n:Ag):Ce a (n+1)=.int a::Ce (a+1) n:=by
 unfold Ce;rw[DB,Cf,FW]
 congr 1
 ·simp
 ·refine DW fun k _=>?_
  simp only[Function.comp]
  congr 1
  omega
theorem XI(ρ:Rho)(j i:Ag)(f l:Ac R3)(k:Ag)(x:R3)(hk:l[k]?=Aa x)(hj:(j != i)=Ab)(h1:Ct l.length=Ab)(h2:Ct (f.length+1)=Ab):apD ρ j i (f.map (AH Ab)) (l.map (AH Ab)) (k:Ae)=.next ((ρ.set i (ow (l.eraseIdx k))).set j (ow (f++[x]))):=by
 have kl:k<l.length:=(AM.mp hk).1;unfold apD;have e:plD (l.map (AH Ab)).length (k:Ae)=Aa k:=by
  unfold plD;rw[AC (by omega),BG,AC (by omega),Ei]
 rw[e];dsimp only;rw[DE,hk];dsimp only[Option.map];rw[BG,BG,hj,h1,h2];rw[AC (by rfl)]
 unfold ow B4;rw[NC,D7];rfl
theorem U4{l:Ac R3}(nd:l.Nodup)(h:3<=(l.filter q).length):∃ x y u,x∈l/\y∈l/\u∈l/\x≠y/\x≠u/\y≠u/\q x=Ab/\q y=Ab/\q u=Ab:=by
  have nf:(l.filter q).Nodup:=nd.filter (p:=q);have hm:∀ x∈l.filter q,x∈l/\q x=Ab:=fun x hx=>Bb.mp hx
  generalize l.filter q=F at *
  match F,h,nf,hm with
  |x::y::u::r,_,nf,hm=>
    simp only[Bz,At,CV]at nf;have a:=hm x (by simp)
    have b:=hm y (by simp)
    have c:=hm u (by simp)
    exact⟨x,y,u,a.1,b.1,c.1,nf.1.1,nf.1.2.1,nf.2.1.1,a.2,b.2,c.2⟩
theorem Ps{l:Ac R3}(nd:l.Nodup)(h:2<=(l.filter q).length):∃ x y,x∈l/\y∈l/\x≠y/\q x=Ab/\q y=Ab:=by
  have nf:(l.filter q).Nodup:=nd.filter (p:=q);have hm:∀ x∈l.filter q,x∈l/\q x=Ab:=fun x hx=>Bb.mp hx
  generalize l.filter q=F at *
  match F,h,nf,hm with
  |x::y::r,_,nf,hm=>
    simp only[Bz,At,CV]at nf;have a:=hm x (by simp)
    have b:=hm y (by simp)
    exact⟨x,y,a.1,b.1,nf.1.1,a.2,b.2⟩
noncomputable def HR:Ss:=(.cons (.apop 5 4 (.bin .Mod (.bin .FloorDiv (.call 155 (.cons (.var 2) (.cons (.bin .Add (.var 3) (.var 6)) .nil))) (.int 3)) (.bi .len (.cons (.var 4) .nil)))) .nil)
noncomputable def IU:Df:=⟨7,Ad,(.cons (.asg 4 Ab (.bi .list (.cons (.var 0) .nil))) (.cons (.asg 5 Ab (.lst .nil)) (.cons (.fors 6 (.rng (.var 1)) HR) (.cons (.ret (.var 5)) .nil))))⟩
noncomputable def KF:E:=(.cmp .Eq (.call 162 (.cons (.var 0) (.cons (.var 2) (.cons (.var 8) .nil)))) (.int 0))
noncomputable def IS:E:=(.and (.cons (.call 173 (.cons (.var 0) (.cons (.var 9) (.cons (.idx (.var 1) (.int 0)) .nil)))) (.cons (.no (.call 173 (.cons (.var 0) (.cons (.var 9) (.cons (.idx (.var 1) (.int 1)) .nil))))) .nil)))
noncomputable def JL:E:=(.var 9)
noncomputable def IR:E:=(.and (.cons (.call 173 (.cons (.var 0) (.cons (.var 10) (.cons (.idx (.var 1) (.int 1)) .nil)))) (.cons (.no (.call 173 (.cons (.var 0) (.cons (.var 10) (.cons (.idx (.var 1) (.int 0)) .nil))))) .nil)))
noncomputable def JK:E:=(.var 10)
noncomputable def Gh:Df:=⟨11,Ad,(.cons (.asg 4 Ad (.bin .Mod (.bin .FloorDiv (.call 155 (.cons (.var 3) (.cons (.int 10) .nil))) (.int 7)) (.int 4))) (.cons (.ife (.and (.cons (.cmp .Gt (.var 0) (.int 3)) (.cons (.cmp .Lt (.var 4) (.int 2)) .nil))) (.cons (.ret (.call 200 (.cons (.comp JC 8 (.e (.call 164 (.cons (.var 0) .nil))) KF) (.cons (.int 5) (.cons (.var 3) (.cons (.int 11) .nil)))))) .nil) .nil) (.cons (.asg 5 Ad (.comp JL 9 (.e (.call 164 (.cons (.var 0) .nil))) IS)) (.cons (.asg 6 Ad (.comp JK 10 (.e (.call 164 (.cons (.var 0) .nil))) IR)) (.cons (.ife (.cmp .Eq (.bin .Mod (.var 4) (.int 2)) (.int 0)) (.cons (.ret (.call 200 (.cons (.bin .Add (.call 200 (.cons (.var 5) (.cons (.int 3) (.cons (.var 3) (.cons (.int 11) .nil))))) (.call 200 (.cons (.var 6) (.cons (.int 2) (.cons (.var 3) (.cons (.int 14) .nil)))))) (.cons (.int 5) (.cons (.var 3) (.cons (.int 16) .nil)))))) .nil) .nil) (.cons (.asg 7 Ad (.lst (.cons (.call 158 (.cons (.var 0) (.cons (.call 161 (.cons (.idx (.var 1) (.int 0)) (.cons (.idx (.var 1) (.int 1)) .nil))) .nil))) .nil))) (.cons (.ret (.call 200 (.cons (.bin .Add (.bin .Add (.call 200 (.cons (.var 5) (.cons (.int 2) (.cons (.var 3) (.cons (.int 11) .nil))))) (.var 7)) (.call 200 (.cons (.var 6) (.cons (.int 2) (.cons (.var 3) (.cons (.int 13) .nil)))))) (.cons (.int 5) (.cons (.var 3) (.cons (.int 16) .nil)))))) .nil)))))))⟩
noncomputable def MX:E:=(.and (.cons (.isi (.var 7) [.int]) (.cons (.no (.isi (.var 7) [.bool])) .nil)))
noncomputable def HY:Df:=⟨8,Ad,(.cons (.asg 1 Ad (.call 156 (.cons (.var 0) .nil))) (.cons (.asg 2 Ad (.call 159 (.cons (.var 1) (.cons (.var 0) (.cons (.int 1) .nil))))) (.cons (.asg 3 Ad (.call 163 (.cons (.var 1) (.cons (.var 2) (.cons (.int 0) .nil))))) (.cons (.ife (.or (.cons (.cmp .Eq (.var 1) (.int 3)) (.cons (.cmp .Gt (.bin .Mod (.bin .FloorDiv (.call 155 (.cons (.var 0) (.cons (.int 10) .nil))) (.int 7)) (.int 4)) (.int 1)) .nil))) (.cons (.asg 3 Ad (.call 163 (.cons (.var 1) (.cons (.var 2) (.cons (.int 2) .nil))))) .nil) .nil) (.cons (.asg 4 Ad (.call 201 (.cons (.var 1) (.cons (.var 2) (.cons (.var 3) (.cons (.var 0) .nil)))))) (.cons (.asg 5 Ad (.bi .list (.cons (.var 4) .nil))) (.cons (.asg 6 Ad (.call 198 (.cons (.var 1) (.cons (.var 5) .nil)))) (.cons (.ife (.or (.cons (.no (.isi (.var 6) [.tuple])) (.cons (.no (.bi .all (.cons (.comp MX 7 (.e (.var 6)) Cc) .nil))) .nil))) (.cons (.ret (.bl Ad)) .nil) .nil) (.cons (.ret (.and (.cons (.cmp .Eq (.var 6) (.var 3)) (.cons (.cmp .Eq (.var 5) (.var 4)) (.cons (.cmp .Eq (.call 198 (.cons (.var 1) (.cons (.bi .rvs (.cons (.var 4) .nil)) .nil))) (.var 3)) .nil))))) .nil)))))))))⟩
section
variable{Γ:Gam}{ns:Ac Ae}
theorem TF(hm:Ha Γ 155 ns){many at_:Ae}{f l:Ac R3}(ha:0<=at_+k)(hl:0<l.length)(h1:l.length<=1000)(h2:f.length<=1000):∃ f' l',f'.length=f.length+1/\l'.length+1=l.length/\(f'++l').Perm (f++l)/\CC Γ 6 HR (.int k) [sh PP,si many,sh (scr ns),si at_,ow l,ow f,s6]=.next [sh PP,si many,sh (scr ns),si at_,ow l',ow f',si k]:=by
 obtain⟨m,m0,e⟩:=hm (at_+k) ha;have hL:(0:Ae)<l.length:=by omega
 have q0:=Bf (m / 3) (b:=(l.length:Ae)) (by omega)
 have q1:=Ba (m / 3) hL;obtain⟨i,hi⟩:∃ i:Ag,m / 3%(l.length:Ae)=(i:Ae):=⟨(m / 3%(l.length:Ae)).toNat,by omega⟩
 have il:i<l.length:=by omega
 have sz:∀ n:Ag,n<=1001->Ct n=Ab:=fun n hn=>by
  unfold Ct;exact RK.mpr (by omega)
 have pa:=fun ρ:Rho=>XI ρ 5 4 f l i l[i] (BA il) rfl (sz _ (by omega)) (sz _ (by omega))
 refine⟨f++[l[i]],l.eraseIdx i,by simp,by rw[List.length_eraseIdx_of_lt il];omega,?_,?_⟩
 ·rw[List.append_assoc];exact List.Perm.append_left _ (Nj l i il)
 ·have ln:biD .len [B4 l]=.ok (.int l.length):=by
   show R.ok (D.int ((l.map (AH Ab)).length:Ae))=_;rw[BG]
  have o1:∀(a b c d g:Sl),Ca [a,b,c,d,ow l,ow f,g] 5=.ok (f.map (AH Ab)):=fun _ _ _ _ _=>rfl
  have o2:∀(a b c d g:Sl),Ca [a,b,c,d,ow l,ow f,g] 4=.ok (l.map (AH Ab)):=fun _ _ _ _ _=>rfl
  have t4:∀(a b c d g:Sl),Ee [a,b,c,d,ow l,ow f,g] 4=.ok (B4 l):=fun _ _ _ _ _=>rfl
  generalize hT:ow (f++[l[i]])=F' at *;generalize hU:ow (l.eraseIdx i)=L' at *;generalize ow l=OL at *;generalize ow f=OF at *;generalize B4 l=RL at *;generalize f.map (AH Ab)=FM at *;generalize l.map (AH Ab)=LM at *;generalize hn:(l.length:Ae)=N at *;simp[CC,HR,Vi,o1,o2,t4,ln,e,hi,hL,pa]
theorem Np(hm:Ha Γ 155 ns){many at_:Ae}{PP:D}(ha:0<=at_):∀(n:Ag)(k:Ae)(f l:Ac R3)(s6:Sl),0<=k->n<=l.length->f.length+l.length<=1000->∃ f' l' s6',f'.length=f.length+n/\(f'++l').Perm (f++l)/\CU (CC Γ 6 HR) (Ce k n) [sh PP,si many,sh (scr ns),si at_,ow l,ow f,s6]=.next [sh PP,si many,sh (scr ns),si at_,ow l',ow f',s6']
 |0,k,f,l,s6,_,_,_=>⟨f,l,s6,rfl,Ra _,rfl⟩
 |n+1,k,f,l,s6,hk,hl,hz=>by
  obtain⟨f1,l1,a1,a2,a3,a4⟩:=TF hm (many:=many) (at_:=at_) (k:=k) (PP:=PP) (f:=f) (l:=l) (s6:=s6) (by omega) (by omega) (by omega) (by omega)
  obtain⟨f2,l2,s2,b1,b2,b3⟩:=Np hm (many:=many) (at_:=at_) (PP:=PP) ha n (k+1) f1 l1 (si k) (by omega) (by omega) (by omega)
  refine⟨f2,l2,s2,by omega,b2.trans a3,?_⟩
  rw[UF];show (CC Γ 6 HR (.int k) _).turn _=_;rw[a4];exact b3
def Pj(Γ:Gam)(ns:Ac Ae):Prop:=∀(n:Ag)(at_:Ae)(pts:Ac R3),0<=at_->n<=pts.length->pts.length<=1000->∃ f l,f.length=n/\(f++l).Perm pts/\Γ.F 200 [B4 pts,.int n,scr ns,.int at_]=.ok (B4 f)
theorem UD{PP S FF:D}{N at_:Ae}{RL:Ac D}{OP OL OF:Sl}(li:biD .list [PP]=.ok PP)(sf:∀ ρ:Rho,setF ρ 4 PP=.next (ρ.set 4 OP))(rg:CM 0 N=.ok RL)(h3:CU (CC Γ 6 HR) RL [sh PP,si N,sh S,si at_,OP,Aa (D.lst [],Ab),Af]=.next [sh PP,si N,sh S,si at_,OL,OF,s6])(rt:∀(a b c d e g:Sl),Ee [a,b,c,d,e,OF,g] 5=.ok FF):IU.run Γ [PP,.int N,S,.int at_]=.ok FF:=by
 simp[IU,Df.run,Bt,li,sf,rg,h3,rt,D3]
theorem VI(n:Ag)(h:n<=1000):CM 0 (n:Ae)=.ok (Ce 0 n):=by
 have:=KR (lo:=0) (hi:=(n:Ae)) (by decide) (by decide) (by omega) (by omega)
 rw[G0,Ei]at this;exact this
theorem X1(hm:Ha Γ 155 ns)(n:Ag)(at_:Ae)(pts:Ac R3)(ha:0<=at_)(hn:n<=pts.length)(hz:pts.length<=1000):∃ f l,f.length=n/\(f++l).Perm pts/\IU.run Γ [B4 pts,.int n,scr ns,.int at_]=.ok (B4 f):=by
 obtain⟨f,l,s6,h1,h2,h3⟩:=Np hm (many:=n) (at_:=at_) (PP:=B4 pts) ha n 0 [] pts Af (by decide) hn (by simpa using hz)
 refine⟨f,l,by simpa using h1,by simpa using h2,?_⟩
 exact UD (OP:=ow pts) rfl (fun _=>rfl) (VI n (by omega)) h3 (fun _ _ _ _ _ _=>rfl)
noncomputable def lnA(p:Ae)(a b:R3):Ac R3:=(Db p).filter fun x=>decide (Aw a x%p=0) && !decide (Aw b x%p=0)
noncomputable def qa(p:Ae)(y:R3):An:=decide (y.1%p=0) && !decide (y.2.1%p=0)
noncomputable def qb(p:Ae)(y:R3):An:=decide (y.2.1%p=0) && !decide (y.1%p=0)
theorem eG(hp:P4 p):((Db p).filter (qa p)).length=p.toNat/\((Db p).filter (qb p)).length=p.toNat:=by
 rcases hp with rfl|rfl|rfl|rfl<;>decide +kernel
theorem YJ{a b c:R3}(hp:P4 p)(z:Aq a b c%p≠0):(lnA p a b).length=p.toNat/\(lnA p b a).length=p.toNat:=by
 have k:∀ x∈Db p,(decide (Aw a x%p=0)=decide ((nrm p (ap a b c x)).1%p=0))/\(decide (Aw b x%p=0)=decide ((nrm p (ap a b c x)).2.1%p=0)):=fun x hx=>by
  obtain⟨_,d,dz,e⟩:=GK hp z ((Ey hp).mp hx);have h1:(nrm p (ap a b c x)).1%p=d*Aw a x%p:=e.1;have h2:(nrm p (ap a b c x)).2.1%p=d*Aw b x%p:=e.2.1;rw[h1,h2];exact⟨gF.mpr (DJ hp dz).symm,gF.mpr (DJ hp dz).symm⟩
 obtain⟨h1,h2⟩:=eG hp;constructor
 ·rw[<-h1,<-LJ hp z (qa p)];unfold lnA;rw[FE fun x hx=>by rw[(k x hx).1,(k x hx).2]]
  rfl
 ·rw[<-h2,<-LJ hp z (qb p)];unfold lnA;rw[FE fun x hx=>by rw[(k x hx).1,(k x hx).2]]
  rfl
theorem O3{a b x:R3}(hp:P4 p)(h:x∈lnA p a b):NF p x/\Aw a x%p=0/\Aw b x%p≠0:=by
 unfold lnA at h;rw[Bb]at h;obtain⟨h1,h2⟩:=h;simp only[Ak,AX,Bu,gG]at h2;exact⟨(Ey hp).mp h1,h2.1,h2.2⟩
theorem Kg{a b:R3}(hp:P4 p):(lnA p a b).Nodup:=(Lb hp).filter _
theorem Jm{f l pts:Ac α}(e:(f++l).Perm pts)(nd:pts.Nodup):f.Nodup/\∀ x∈f,x∈pts:=
 ⟨(List.nodup_append.mp (e.nodup_iff.mpr nd)).1,fun x hx=>e.mem_iff.mp (EL _ hx)⟩
theorem TZ{a b c:R3}{f l:Ac R3}(hp:P4 p)(z:Aq a b c%p≠0)(h:PrC p C (E4 0 (EC p) a b c))(e:(f++l).Perm (Ff p C))(len:f.length=5):Five p C f:=by
 have nd:(Ff p C).Nodup:=(Lb hp).filter _;obtain⟨f1,f2⟩:=Jm e nd;have m:∀ x∈f,NF p x/\vI C x%p=0:=fun x hx=>by
  have:=f2 x hx;unfold Ff at this;rw[Bb]at this;exact⟨(Ey hp).mp this.1,Bv this.2⟩
 refine⟨len,f1,fun x hx=>(m x hx).1,fun x hx=>(m x hx).2,fun n hn=>?_⟩
 apply Cw
 intro hc;obtain⟨x,y,u,hx,hy,hu,n1,n2,n3,q1,q2,q3⟩:=U4 (q:=fun x=>decide (Aw n x%p=0)) f1 (by omega)
 exact VT hp z h (f2 x hx) (f2 y hy) (f2 u hu) n1 n2 n3 (U3 hp (m x hx).1 (m y hy).1 n1 hn (Bv q1) (Bv q2) (Bv q3))
theorem Xl{C E:C6}(hp:P4 p)(h:PrC p C E)(x:R3):vI C x%p=0↔vI E x%p=0:=by
 obtain⟨d,dz,e⟩:=h;have q:=GP (x:=x) (x':=x) e ⟨Cg.rfl,Cg.rfl,Cg.rfl⟩;rw[Ih]at q;rw[show vI C x%p=_ from q]
 exact DJ hp dz
theorem Ni{a b:R3}{A B O pts:Ac R3}(hp:P4 p)(h:PrC p C (prd a b))(hA:A.Nodup/\∀ x∈A,x∈lnA p a b)(hB:B.Nodup/\∀ x∈B,x∈lnA p b a)(lO:O.length<=1)(hO:∀ x∈O,NF p x/\Aw a x%p=0/\Aw b x%p=0)(len:A.length+O.length+B.length=5)(l3:A.length<=3)(l2:B.length<=2)(l4:A.length+O.length<=3)(e:pts.Perm (A++O++B)):Five p C pts:=by
  refine Five.perm ?_ e;have mA:∀ x∈A,NF p x/\Aw a x%p=0/\Aw b x%p≠0:=fun x hx=>O3 hp (hA.2 x hx)
  have mB:∀ x∈B,NF p x/\Aw b x%p=0/\Aw a x%p≠0:=fun x hx=>O3 hp (hB.2 x hx)
  have on:∀ x,(Aw a x%p=0\/Aw b x%p=0)->vI C x%p=0:=fun x hx=>by
    rw[Xl hp h x,Hb];rcases hx with hx|hx
    · rw[A8,hx,CA,AZ]
    · rw[A8,hx,BZ,AZ]
  refine⟨by simp only[Bo];omega,?_,fun x hx=>?_,fun x hx=>?_,fun n hn=>?_⟩
  · have ndO:O.Nodup:=by
      match O,lO with
      |[],_=>exact Dd
      |[o],_=>simp
    refine RE.mpr ⟨RE.mpr ⟨hA.1,ndO,fun x hx y hy q=>?_⟩,hB.1,fun x hx y hy q=>?_⟩
    · subst q;exact(mA x hx).2.2 (hO x hy).2.2
    · subst q;rcases Dy.mp hx with hx|hx
      · exact(mA x hx).2.2 (mB x hy).2.1
      · exact(mB x hy).2.2 (hO x hx).2.1
  · simp only[Dy]at hx;rcases hx with (hx|hx)|hx
    · exact(mA x hx).1
    · exact(hO x hx).1
    · exact(mB x hx).1
  · simp only[Dy]at hx;rcases hx with (hx|hx)|hx
    · exact on x (.inl (mA x hx).2.1)
    · exact on x (.inl (hO x hx).2.1)
    · exact on x (.inr (mB x hx).2.1)
  · rw[Rm,Rm,Bo,Bo];have lA:=EG (fun x=>decide (Aw n x%p=0)) A
    have lB:=EG (fun x=>decide (Aw n x%p=0)) B
    have lo:=EG (fun x=>decide (Aw n x%p=0)) O
    by_cases cA:2<=(A.filter fun x=>decide (Aw n x%p=0)).length
    · obtain⟨x,y,hx,hy,ne,q1,q2⟩:=Ps hA.1 cA;have:(B.filter fun x=>decide (Aw n x%p=0))=[]:=by
        rw[Rn];intro u hu q3;exact(mB u hu).2.2 (LY hp (mA x hx).1 (mA y hy).1 ne hn (Bv q1) (Bv q2) (mA x hx).2.1 (mA y hy).2.1 (Bv q3))
      rw[this,D6];omega
    · by_cases cB:2<=(B.filter fun x=>decide (Aw n x%p=0)).length
      · obtain⟨x,y,hx,hy,ne,q1,q2⟩:=Ps hB.1 cB;have:(A.filter fun x=>decide (Aw n x%p=0))=[]:=by
          rw[Rn];intro u hu q3;exact(mA u hu).2.2 (LY hp (mB x hx).1 (mB y hy).1 ne hn (Bv q1) (Bv q2) (mB x hx).2.1 (mB y hy).2.1 (Bv q3))
        rw[this,D6];omega
      · omega
def dU(Γ:Gam):Prop:=∀(p:Ae)(q:An)(x y:R3),P4 p->In3 p x->In3 p y->Γ.F 173 [.int p,AH Ab x,AH q y]=.ok (.bl (decide (Aw y x%p=0)))
theorem bH(Γ:Gam)(p:Ae)(q:An)(x y:R3)(hp:P4 p)(ix:In3 p x)(iy:In3 p y):Lu.run Γ [.int p,AH Ab x,AH q y]=.ok (.bl (decide (Aw y x%p=0))):=by
 have p0:=hp.pos;have bx:=Fh hp ix;have by_:=Fh hp iy;have k:∀ {u v},Bd 10 u->Bd 10 v->D0 u v=Ab:=fun hu hv=>Fx hu hv (by decide) (by decide)
 have k0:=k by_.1 bx.1;have k1:=k by_.2.1 bx.2.1;have k2:=k by_.2.2 bx.2.2;have sx:B5 (AH Ab x)=.ok [.int x.1,.int x.2.1,.int x.2.2]:=rfl;have sy:B5 (AH q y)=.ok [.int y.1,.int y.2.1,.int y.2.2]:=by cases q<;>rfl
 unfold Aw;generalize x.1=x0 at *;generalize x.2.1=x1 at *;generalize x.2.2=x2 at *;generalize y.1=y0 at *;generalize y.2.1=y1 at *;generalize y.2.2=y2 at *;generalize AH Ab x=xx at *;generalize AH q y=yy at *;have cp:Bg (cGT Γ [si p,sh xx,sh yy,Af,Af] [3,4] Cc) (cFT Γ [si p,sh xx,sh yy,Af,Af] [3,4] K3) (CT [.int y0,.int y1,.int y2] [.int x0,.int x1,.int x2])=.ok [.int (y0*x0),.int (y1*x1),.int (y2*x2)]:=by
  simp[Bg,cGT,cFT,CT,K3,Cc,k0,k1,k2]
 generalize hs:y0*x0+y1*x1+y2*x2=s;have sm:Fe 0 [.int (y0*x0),.int (y1*x1),.int (y2*x2)]=.ok s:=by rw[<-hs];simp[Fe]
 simp[Lu,Df.run,Bt,sx,sy,cp,sm,p0];rw[Cz];simp
def Zt(Γ:Gam):Prop:=∀(p:Ae)(a b:R3),P4 p->In3 p a->In3 p b->Γ.F 161 [A7 a,A7 b]=.ok (A7 (crs a b))
theorem X7(Γ:Gam)(p:Ae)(a b:R3)(hp:P4 p)(ia:In3 p a)(ib:In3 p b):K4.run Γ [A7 a,A7 b]=.ok (A7 (crs a b)):=by
 have ba:=Fh hp ia;have bb:=Fh hp ib;have k:∀ {u v},Bd 10 u->Bd 10 v->D0 u v=Ab:=fun hu hv=>Fx hu hv (by decide) (by decide)
 obtain⟨a0,a1,a2⟩:=a;obtain⟨b0,b1,b2⟩:=b;have ea:∀(x y z:Ae)(i j k:Ag)(ρ:Rho),Gn [i,j,k] (A7 (x,y,z)) ρ=.ok (((ρ.set i (si x)).set j (si y)).set k (si z)):=fun _ _ _ _ _ _ _=>rfl
 simp[K4,Df.run,Bt,ea,k ba.2.1 bb.2.2,k ba.2.2 bb.2.1,k ba.2.2 bb.1,k ba.1 bb.2.2,k ba.1 bb.2.1,k ba.2.1 bb.1];rfl
section
variable{p m wy:Ae}{S RR cC AL o cc ra rb R:D}{as fa fb x y:Ac D}
theorem Tt(e1:Γ.F 155 [S,.int 10]=.ok (.int m))(ew:m / 7%4=wy)(hp:3<p)(hw:wy<2)(al:Γ.F 164 [.int p]=.ok AL)(sq:B5 AL=.ok as)(cp:Bg (cG Γ [si p,sh RR,sh cC,sh S,si wy,Af,Af,Af,Af,Af,Af] 8 KF) (cF Γ [si p,sh RR,sh cC,sh S,si wy,Af,Af,Af,Af,Af,Af] 8 JC) as=.ok x)(es:Γ.F 200 [.lst x,.int 5,S,.int 11]=.ok R):Gh.run Γ [.int p,RR,cC,S]=.ok R:=by
 simp[Gh,Df.run,Bt,e1,ew,hp,hw,al,sq,cp,es]
theorem Ts(e1:Γ.F 155 [S,.int 10]=.ok (.int m))(ew:m / 7%4=wy)(hw:¬ (3<p/\wy<2))(ev:wy%2=0)(al:Γ.F 164 [.int p]=.ok AL)(sq:B5 AL=.ok as)(cp1:Bg (cG Γ [si p,sh RR,sh cC,sh S,si wy,Af,Af,Af,Af,Af,Af] 9 IS) (cF Γ [si p,sh RR,sh cC,sh S,si wy,Af,Af,Af,Af,Af,Af] 9 JL) as=.ok fa)(cp2:Bg (cG Γ [si p,sh RR,sh cC,sh S,si wy,sh (.lst fa),Af,Af,Af,Af,Af] 10 IR) (cF Γ [si p,sh RR,sh cC,sh S,si wy,sh (.lst fa),Af,Af,Af,Af,Af] 10 JK) as=.ok fb)(s1:Γ.F 200 [.lst fa,.int 3,S,.int 11]=.ok (.lst x))(s2:Γ.F 200 [.lst fb,.int 2,S,.int 14]=.ok (.lst y))(ad:Cr .Add (.lst x) (.lst y)=.ok (.lst (x++y)))(s3:Γ.F 200 [.lst (x++y),.int 5,S,.int 16]=.ok R):Gh.run Γ [.int p,RR,cC,S]=.ok R:=by
 generalize D.lst (x++y)=XY at *;by_cases hp:3<p
 ·have hw':¬ wy<2:=fun h=>hw ⟨hp,h⟩
  simp[Gh,Df.run,Bt,e1,ew,hp,hw',ev,al,sq,cp1,cp2,s1,s2,ad,s3]
 ·simp[Gh,Df.run,Bt,e1,ew,hp,ev,al,sq,cp1,cp2,s1,s2,ad,s3]
theorem Tr(e1:Γ.F 155 [S,.int 10]=.ok (.int m))(ew:m / 7%4=wy)(hw:¬ (3<p/\wy<2))(ev:¬ wy%2=0)(al:Γ.F 164 [.int p]=.ok AL)(sq:B5 AL=.ok as)(cp1:Bg (cG Γ [si p,sh RR,sh cC,sh S,si wy,Af,Af,Af,Af,Af,Af] 9 IS) (cF Γ [si p,sh RR,sh cC,sh S,si wy,Af,Af,Af,Af,Af,Af] 9 JL) as=.ok fa)(cp2:Bg (cG Γ [si p,sh RR,sh cC,sh S,si wy,sh (.lst fa),Af,Af,Af,Af,Af] 10 IR) (cF Γ [si p,sh RR,sh cC,sh S,si wy,sh (.lst fa),Af,Af,Af,Af,Af] 10 JK) as=.ok fb)(i0:Ck RR (.int 0)=.ok ra)(i1:Ck RR (.int 1)=.ok rb)(ec:Γ.F 161 [ra,rb]=.ok cc)(ef:Γ.F 158 [.int p,cc]=.ok o)(s1:Γ.F 200 [.lst fa,.int 2,S,.int 11]=.ok (.lst x))(s2:Γ.F 200 [.lst fb,.int 2,S,.int 13]=.ok (.lst y))(ad:Cr .Add (.lst x) (.lst [o])=.ok (.lst (x++[o])))(ad2:Cr .Add (.lst (x++[o])) (.lst y)=.ok (.lst (x++[o]++y)))(s3:Γ.F 200 [.lst (x++[o]++y),.int 5,S,.int 16]=.ok R):Gh.run Γ [.int p,RR,cC,S]=.ok R:=by
 generalize D.lst (x++[o]++y)=XY at *;generalize D.lst (x++[o])=XO at *;by_cases hp:3<p
 ·have hw':¬ wy<2:=fun h=>hw ⟨hp,h⟩
  simp[Gh,Df.run,Bt,e1,ew,hp,hw',ev,al,sq,cp1,cp2,s1,s2,ad,ad2,i0,i1,ec,ef,s3]
 ·simp[Gh,Df.run,Bt,e1,ew,hp,ev,al,sq,cp1,cp2,s1,s2,ad,ad2,i0,i1,ec,ef,s3]
end
def Zu(Γ:Gam)(ns:Ac Ae):Prop:=∀(p m:Ae)(a b c:R3)(C:C6),GoodR p a b c->InC p C->Γ.F 155 [scr ns,.int 10]=.ok (.int m)->((3<p/\m / 7%4<2)->PrC p C (E4 0 (EC p) a b c))->(¬ (3<p/\m / 7%4<2)->PrC p C (prd a b))->∃ pts,Five p C pts/\Γ.F 201 [.int p,DY a b c,Bq C,scr ns]=.ok (B4 pts)
theorem LP(x y:Ac R3)(h:x.length+y.length<=1000):Cr .Add (.lst (x.map (AH Ab))) (.lst (y.map (AH Ab)))=.ok (.lst (x.map (AH Ab)++y.map (AH Ab))):=by
 have sz:Ct ((x.map (AH Ab)).length+(y.map (AH Ab)).length)=Ab:=by
  unfold Ct;exact RK.mpr (by rw[BG,BG];omega)
 show (if Ct _=Ab then _ else _)=_
 rw[AC sz]
theorem X9(ha:Qi Γ)(hv:Zs Γ)(ho:dU Γ)(hs:Pj Γ ns)(hc:Zt Γ)(hf:LS Γ)(p m:Ae)(a b c:R3)(C:C6)(g:GoodR p a b c)(iC:InC p C)(e1:Γ.F 155 [scr ns,.int 10]=.ok (.int m))(h0:(3<p/\m / 7%4<2)->PrC p C (E4 0 (EC p) a b c))(h2:¬ (3<p/\m / 7%4<2)->PrC p C (prd a b)):∃ pts,Five p C pts/\Gh.run Γ [.int p,DY a b c,Bq C,scr ns]=.ok (B4 pts):=by
 have hp:=g.p4;have al:=ha p hp;have sq:B5 (B4 (Db p))=.ok ((Db p).map (AH Ab)):=rfl;have p1:3<=p.toNat/\p.toNat<=11:=by rcases hp with rfl|rfl|rfl|rfl<;>decide
 by_cases hw:3<p/\m / 7%4<2
 ·have pC:=h0 hw;have len:5<=(Ff p C).length/\(Ff p C).length<=1000:=by
   rw[VV (.inl rfl) hp g.nz pC];have:p=5\/p=7\/p=11:=by
    rcases hp with rfl|rfl|rfl|rfl
    ·exact absurd hw.1 (by decide)
    ·exact .inl rfl
    ·exact .inr (.inl rfl)
    ·exact .inr (.inr rfl)
   rcases this with rfl|rfl|rfl<;>decide
  obtain⟨f,l,f5,pm,es⟩:=hs 5 11 (Ff p C) (by decide) len.1 len.2
  refine⟨f,TZ hp g.nz pC pm f5,?_⟩;refine Tt e1 rfl hw.1 hw.2 al sq (x:=(Ff p C).map (AH Ab)) ?_ es;refine JX (Db p) fun x hx=>⟨?_,rfl⟩
  have e:=hv p C x hp iC ((Ey hp).mp hx).1;generalize vI C x%p=v at *;generalize Bq C=cC at *;generalize DY a b c=RR at *;generalize scr ns=S at *;generalize m / 7%4=wy at *;generalize AH Ab x=xx at *;simp[cG,KF,e];rw[Cz];simp
 ·have pC:=h2 hw;have i0:Ck (DY a b c) (.int 0)=.ok (A7 a):=rfl;have i1:Ck (DY a b c) (.int 1)=.ok (A7 b):=rfl;obtain⟨l1,l2⟩:=YJ hp g.nz;have oa:∀ x∈Db p,Γ.F 173 [.int p,AH Ab x,A7 a]=.ok (.bl (decide (Aw a x%p=0))):=fun x hx=>ho p Ad x a hp ((Ey hp).mp hx).1 g.ia
  have ob:∀ x∈Db p,Γ.F 173 [.int p,AH Ab x,A7 b]=.ok (.bl (decide (Aw b x%p=0))):=fun x hx=>ho p Ad x b hp ((Ey hp).mp hx).1 g.ib
  have cp1:Bg (cG Γ [si p,sh (DY a b c),sh (Bq C),sh (scr ns),si (m / 7%4),Af,Af,Af,Af,Af,Af] 9 IS) (cF Γ [si p,sh (DY a b c),sh (Bq C),sh (scr ns),si (m / 7%4),Af,Af,Af,Af,Af,Af] 9 JL) ((Db p).map (AH Ab))=.ok ((lnA p a b).map (AH Ab)):=by
   refine JX (Db p) fun x hx=>⟨?_,rfl⟩
   have ea:=oa x hx;have eb:=ob x hx;generalize decide (Aw a x%p=0)=da at *;generalize decide (Aw b x%p=0)=db at *;generalize DY a b c=RR at *;generalize Bq C=cC at *;generalize scr ns=S at *;generalize m / 7%4=wy at *;generalize AH Ab x=xx at *;cases da<;>simp[cG,IS,i0,i1,ea,eb]
  have cp2:Bg (cG Γ [si p,sh (DY a b c),sh (Bq C),sh (scr ns),si (m / 7%4),sh (.lst ((lnA p a b).map (AH Ab))),Af,Af,Af,Af,Af] 10 IR) (cF Γ [si p,sh (DY a b c),sh (Bq C),sh (scr ns),si (m / 7%4),sh (.lst ((lnA p a b).map (AH Ab))),Af,Af,Af,Af,Af] 10 JK) ((Db p).map (AH Ab))=.ok ((lnA p b a).map (AH Ab)):=by
   refine JX (Db p) fun x hx=>⟨?_,rfl⟩
   have ea:=oa x hx;have eb:=ob x hx;generalize decide (Aw a x%p=0)=da at *;generalize decide (Aw b x%p=0)=db at *;generalize DY a b c=RR at *;generalize Bq C=cC at *;generalize scr ns=S at *;generalize m / 7%4=wy at *;generalize AH Ab x=xx at *;generalize Ho (AH Ab) (lnA p a b)=LA at *;cases db<;>simp[cG,IR,i0,i1,ea,eb]
  by_cases ev:m / 7%4%2=0
  ·obtain⟨f,l,f3,pm,s1⟩:=hs 3 11 (lnA p a b) (by decide) (by omega) (by omega)
   obtain⟨f',l',f2,pm',s2⟩:=hs 2 14 (lnA p b a) (by decide) (by omega) (by omega)
   obtain⟨f'',l'',f5,pm'',s3⟩:=hs 5 16 (f++[]++f') (by decide) (by simp;omega) (by simp;omega)
   have l0:l''=[]:=by
    have:=pm''.length_eq;simp only[Bo,D6]at this;exact Rj (by omega)
   rw[l0,B8]at pm'';refine⟨f'',Ni hp pC (Jm pm (Kg hp)) (Jm pm' (Kg hp)) (by simp) (by simp) (by simp;omega) (by omega) (by omega) (by simp;omega) pm'',?_⟩
   refine Ts e1 rfl hw ev al sq cp1 cp2 s1 s2 (LP f f' (by omega)) ?_
   rw[B8,show B4 (f++f')=.lst (f.map (AH Ab)++f'.map (AH Ab)) by unfold B4;rw[D7]]at s3
   exact s3
  ·obtain⟨f,l,f3,pm,s1⟩:=hs 2 11 (lnA p a b) (by decide) (by omega) (by omega)
   obtain⟨f',l',f2,pm',s2⟩:=hs 2 13 (lnA p b a) (by decide) (by omega) (by omega)
   have ec:=hc p a b hp g.ia g.ib;obtain⟨lo,elo⟩:∃ l,AV p (tri (crs a b))=Aa l:=by
    cases q:AV p (tri (crs a b)) with
    |some l=>exact⟨l,rfl⟩
    |none=>
     exfalso
     have z:=K6 q;refine g.nz ?_;rw[<-Jv];refine z0' ((GO z (⟨Cg.rfl,Cg.rfl,Cg.rfl⟩:CgR p c c)).trans (Cg.of ?_));unfold Aw;simp only[CA,Int.add_zero]
   obtain⟨t,it,io,ll,po,eo⟩:=Lo hp elo;have ef:=hf p Ad _ lo t hp elo it;rw[eo]at ef;generalize fmR p t (crs a b)=o at *;have ef':Γ.F 158 [.int p,A7 (crs a b)]=.ok (AH Ab o):=ef;obtain⟨f'',l'',f5,pm'',s3⟩:=hs 5 16 (f++[o]++f') (by decide) (by simp;omega) (by simp;omega)
   have l0:l''=[]:=by
    have:=pm''.length_eq;simp only[Bo,Br,D6]at this;exact Rj (by omega)
   rw[l0,B8]at pm'';have oz:∀ n:R3,Aw n (crs a b)=0->Aw n o%p=0:=fun n h=>by
    obtain⟨d,dz,e⟩:=po;refine z0' ((GO (⟨Cg.rfl,Cg.rfl,Cg.rfl⟩:CgR p n n) e).trans (Cg.of ?_));have:Aw n (Bx d (crs a b))=d*Aw n (crs a b):=by unfold Aw Bx;simp only;grind
    rw[this,h,BZ]
   refine⟨f'',Ni hp pC (Jm pm (Kg hp)) (Jm pm' (Kg hp)) (O:=[o]) (by simp) (fun x hx=>?_) (by simp;omega) (by omega) (by omega) (by simp;omega) pm'',?_⟩
   ·rw[BH]at hx;subst hx;exact⟨⟨io,ll⟩,oz a (by unfold Aw crs;grind),oz b (by unfold Aw crs;grind)⟩
   ·refine Tr e1 rfl hw ev al sq cp1 cp2 i0 i1 ec ef' s1 s2 (LP f [o] (by simp;omega)) ?_ ?_
    ·have q:=LP (f++[o]) f' (by simp;omega)
     rw[D7]at q;exact q
    ·rw[show B4 (f++[o]++f')=.lst (f.map (AH Ab)++[AH Ab o]++f'.map (AH Ab)) by unfold B4;rw[D7,D7];rfl]at s3
     exact s3
structure H61 (Γ:Gam) (ns:Ac Ae):Prop where
 pr:Vu Γ 156 ns
 mi:Ha Γ 155 ns
 tb:eO Γ 159 ns
 cv:dW Γ
 fi:Zu Γ ns
 th:Pi Γ
theorem WA(Γ:Gam)(s0 s1 s2 s3 s4 s5 s6:Sl)(C:C6):Bg (cG Γ [s0,s1,s2,s3,s4,s5,s6,Af] 7 Cc) (cF Γ [s0,s1,s2,s3,s4,s5,s6,Af] 7 MX) (ds C.l)=.ok [.bl Ab,.bl Ab,.bl Ab,.bl Ab,.bl Ab,.bl Ab]:=rfl
theorem cX(C:C6):flD 5 (Bq C)=Ab/\eqD (Bq C) (Bq C)=Ab:=by
 refine⟨rfl,?_⟩;show (_==_&&(_==_&&(_==_&&(_==_&&(_==_&&(_==_&&Ab))))))=Ab;simp
theorem J4(l:Ac R3):flD 5 (B4 l)=Ab/\eqD (B4 l) (B4 l)=Ab:=by
 constructor
 ·show (l.map (AH Ab)).all (flD 4)=Ab;rw[Rb,De];exact fun _ _=>rfl
 ·show eqDs (l.map (AH Ab)) (l.map (AH Ab))=Ab
  induction l with
  |nil=>rfl
  |cons x l ih=>
   show (eqD (AH Ab x) (AH Ab x)&&eqDs _ _)=Ab;rw[ih,Mb];simp
theorem PX{m:Ae}{S R PP RV:D}{cd:D}(e1:Γ.F 156 [S]=.ok (.int p))(e2:Γ.F 155 [S,.int 10]=.ok (.int m))(e3:Γ.F 159 [.int p,S,.int 1]=.ok R)(e4:Γ.F 163 [.int p,R,.int 0]=.ok cd)(e5:(p=3\/1<m / 7%4)->Γ.F 163 [.int p,R,.int 2]=.ok (Bq C))(e6:¬ (p=3\/1<m / 7%4)->cd=Bq C)(e7:Γ.F 201 [.int p,R,Bq C,S]=.ok PP)(li:biD .list [PP]=.ok PP)(rv:biD .rvs [PP]=.ok RV)(f1:flD 5 PP=Ab)(f2:eqD PP PP=Ab)(t1:Γ.F 198 [.int p,PP]=.ok (Bq C))(t2:Γ.F 198 [.int p,RV]=.ok (Bq C)):HY.run Γ [S]=.ok (.bl Ab):=by
 have it:FB Γ.up [.tuple] (Bq C)=.ok (.bl Ab):=rfl;have sq:B5 (Bq C)=.ok (ds C.l):=rfl;have ca:=fun s0 s1 s2 s3 s4 s5 s6=>WA Γ s0 s1 s2 s3 s4 s5 s6 C
 obtain⟨g1,g2⟩:=cX C;generalize ds C.l=dl at *;generalize Bq C=cC at *;by_cases h3:p=3
 ·have e5':=e5 (.inl h3);subst h3;simp[HY,Df.run,Bt,e1,e2,e3,e4,e5',e7,li,rv,f1,f2,t1,t2,it,sq,ca,g1,g2,EX]
 ·by_cases hw:1<m / 7%4
  ·have e5':=e5 (.inr hw);simp[HY,Df.run,Bt,e1,e2,e3,e4,h3,hw,e5',e7,li,rv,f1,f2,t1,t2,it,sq,ca,g1,g2,EX]
  ·have e6':=e6 (fun z=>z.elim h3 hw)
   subst e6';simp[HY,Df.run,Bt,e1,e2,e3,e4,h3,hw,e7,li,rv,f1,f2,t1,t2,it,sq,ca,g1,g2,EX]
theorem YI(h:H61 Γ ns):HY.run Γ [scr ns]=.ok (.bl Ab):=by
 obtain⟨p,hp,e1⟩:=h.pr;obtain⟨m,m0,e2⟩:=h.mi 10 (by decide)
 obtain⟨a,b,c,g,e3⟩:=h.tb p hp;obtain⟨C0,iC0,lC0,pC0,e40⟩:=h.cv p a b c 0 g (.inl rfl);obtain⟨C2,iC2,lC2,pC2,e42⟩:=h.cv p a b c 2 g (.inr (.inr (.inl rfl)));have iff:(p=3\/1<m / 7%4)↔¬ (3<p/\m / 7%4<2):=by
  have:p=3\/3<p:=by rcases hp with rfl|rfl|rfl|rfl<;>decide
  omega
 by_cases hw:p=3\/1<m / 7%4
 ·obtain⟨pts,F,e7⟩:=h.fi p m a b c C2 g iC2 e2 (fun z=>absurd z (iff.mp hw)) (fun _=>pC2)
  have t1:=h.th p C2 pts hp iC2 lC2 F;have t2:=h.th p C2 pts.reverse hp iC2 lC2 (F.perm (RG pts));have rv:biD .rvs [B4 pts]=.ok (B4 pts.reverse):=by
   show R.ok (D.lst (pts.map (AH Ab)).reverse)=_;rw[<-RB];rfl
  exact PX e1 e2 e3 e40 (fun _=>e42) (fun z=>absurd hw z) e7 rfl rv (J4 pts).1 (J4 pts).2 t1 t2
 ·obtain⟨pts,F,e7⟩:=h.fi p m a b c C0 g iC0 e2 (fun _=>pC0) (fun z=>absurd (iff.mpr z) hw)
  have t1:=h.th p C0 pts hp iC0 lC0 F;have t2:=h.th p C0 pts.reverse hp iC0 lC0 (F.perm (RG pts));have rv:biD .rvs [B4 pts]=.ok (B4 pts.reverse):=by
   show R.ok (D.lst (pts.map (AH Ab)).reverse)=_;rw[<-RB];rfl
  exact PX e1 e2 e3 e40 (fun z=>absurd z hw) (fun _=>rfl) e7 rfl rv (J4 pts).1 (J4 pts).2 t1 t2
end
noncomputable def fM:Ag->Ac Ag:=fun _=>[]
noncomputable def fK:Ag->Ac D->R Ex:=fun _ _=>.bad
noncomputable def Q61:Prg:=⟨Ab,fun
 |1=>L5
 |9=>JJ
 |17=>JU
 |23=>Lk
 |57=>L6
 |61=>Lj
 |194=>JP
 |122=>K1
 |126=>LK
 |195=>JO
 |196=>KA
 |197=>JN
 |198=>JE
 |155=>Hr
 |156=>ME 155
 |157=>IW
 |158=>KD
 |159=>Mx 155
 |160=>Kw
 |161=>K4
 |162=>KP
 |163=>HU
 |164=>JM
 |173=>Lu
 |200=>IU
 |201=>Gh
 |202=>HY
 | _=>⟨0,Ad,.nil⟩,fun _=>.non,fM,fK⟩
theorem dO(ns:Ac Ae)(k:Ae)(h0:0<=k):∃ m,∀ Γ:Gam,Hr.run Γ [scr ns,.int k]=.ok (.int m):=by
 have m1:Da 7919 k=Ab:=G9 (by decide) (by decide)
 have m2:∀ x,Da x 48271=Ab:=fun x=>J3 (by decide) (by decide)
 by_cases h1:k<ns.length
 ·have g:=Oy h0 h1;generalize ns.getD k.toNat 0=x at g;refine⟨(x%1000003+7919*k+11)*48271%1000033,fun Γ=>?_⟩
  simp[Hr,Df.run,Bt,h1,g,m1,m2]
 ·refine⟨(0%1000003+7919*k+11)*48271%1000033,fun Γ=>?_⟩
  simp[Hr,Df.run,Bt,h1,m1,m2]
theorem dS(ns:Ac Ae)(hl:ns.length<=63):(gam Q61 7).F 202 [scr ns]=.ok (.bl Ab):=by
 have rs:∀ n,Hu (gam Q61 (n+1)):=fun n p m hp=>CN (X2 _ p m hp)
 have mi:∀ n,Ha (gam Q61 (n+1)) 155 ns:=fun n k hk=>let ⟨m,m0,e⟩:=X4 _ ns k hk;⟨m,m0,CN e⟩
 have tu:∀ n,K7 (gam Q61 (n+2)):=fun n p m hp z=>let ⟨t,t1,t2,t3,e⟩:=Ud (rs n) p m hp z;⟨t,t1,t2,t3,CN e⟩
 have fo:∀ n,LR (gam Q61 (n+3)):=fun n p b xs l t hp e it=>CN (VL (rs (n+1)) (tu n) hp e it)
 have me:∀ n,OY (gam Q61 (n+2)):=fun n p q a b c hp ha hb hc=>CN (VJ (rs n) p q a b c hp ha hb hc)
 have jo:∀ n,Pl (gam Q61 (n+4)):=fun n p a b hp ia ib la lb ne=>let ⟨y,h1,h2,h3,e⟩:=X8 (fun a b ha hb ne=>CN (VP _ a b ha hb ne)) (fo n) p a b hp ia ib la lb ne;⟨y,h1,h2,h3,CN e⟩
 have vb:∀ n,Ph (gam Q61 (n+2)):=fun n p C x hp bC ix=>CN (XZ (rs n) p C x hp bC ix)
 have cf:∀ n,Po (gam Q61 (n+4)):=fun n p b xs l t hp e it=>CN (Yb (rs (n+2)) (fo n) hp e it)
 have lm:∀ n,Pk (gam Q61 (n+1)):=fun n p a b hp ia ib=>CN (X6 _ p a b hp ia ib)
 have fc:∀ n,O0 (gam Q61 (n+5)):=fun n p C pts hp iC lC h=>CN (VO (jo n) (lm (n+3)) (vb (n+2)) (cf n) p C pts hp iC lC h)
 have ff:∀ n,OZ (gam Q61 (n+3)):=fun n p C pts hp h=>CN (VN (me n) p C pts hp h)
 have au:∀ n,Os (gam Q61 (n+1)):=fun n p C pts h=>CN (UI _ p C pts h)
 have th:∀ n,Pi (gam Q61 (n+6)):=fun n p C pts hp iC lC h=>CN (UG (au (n+4)) (ff (n+2)) (fc n) p C pts hp iC lC h)
 have f3:∀ n,LS (gam Q61 (n+1)):=fun n p b xs l t hp e it=>CN (VM _ hp e it)
 have px:∀ n,Qq (gam Q61 (n+1)):=fun n p k hp h0 h1=>CN (bG _ p k hp h0 h1)
 have al:∀ n,Qi (gam Q61 (n+2)):=fun n p hp=>by
  have e:=bK (px n) p hp;show EE Ab (JM.run (gam Q61 (n+1)) [.int p])=_;rw[e];rfl
 have so:∀ n,Pj (gam Q61 (n+2)) ns:=fun n k at_ pts ha hn hz=>let ⟨f,l,h1,h2,e⟩:=X1 (mi n) k at_ pts ha hn hz;⟨f,l,h1,h2,by
  generalize B4 pts=PP at e ⊢;generalize (k:Ae)=K at e ⊢;generalize B4 f=FF at e ⊢;show EE Ab (IU.run (gam Q61 (n+1)) [PP,.int K,scr ns,.int at_])=_;rw[e];rfl⟩
 have h:H61 (gam Q61 6) ns:=by
  refine⟨?_,mi 5,fun p hp=>?_,fun p a b c w g hw=>?_,fun p m a b c C g iC e1 h0 h2=>?_,th 0⟩
  ·obtain⟨p,hp,e⟩:=UH (mi 4);exact⟨p,hp,CN e⟩
  ·obtain⟨a,b,c,g,e⟩:=bF hl (mi 4) p hp;exact⟨a,b,c,g,CN e⟩
  ·obtain⟨C,h1,h2,h3,e⟩:=bJ (f3 4) (fun p a b hp ha hb=>CN (X3 _ p a b hp ha hb)) p a b c w g hw
   exact⟨C,h1,h2,h3,CN e⟩
  ·have e1':(gam Q61 5).F 155 [scr ns,.int 10]=.ok (.int m):=by
    obtain⟨m',e'⟩:=dO ns 10 (by decide)
    have q:(gam Q61 6).F 155 [scr ns,.int 10]=.ok (.int m'):=CN (e' _);rw[q]at e1;cases e1;exact CN (e' _)
   obtain⟨pts,F,e⟩:=X9 (al 3) (fun p C x hp iC ix=>CN (X5 _ p C x hp iC ix)) (fun p q x y hp ix iy=>CN (bH _ p q x y hp ix iy)) (so 3) (fun p a b hp ia ib=>CN (X7 _ p a b hp ia ib)) (f3 4) p m a b c C g iC e1' h0 h2
   exact⟨pts,F,CN e⟩
 exact CN (YI h)
end OvC
namespace OvC
open PySem PySem.Spec PyProof.Rows Ov L2
variable{l:Er}
noncomputable def tp61(i:Ag):Bp:=PySem.Challenge.pw_ovalfield_k61_five_points_as_built.main.body.getD i (.Pass ⟨0,0,0,0⟩)
noncomputable def P8:Ac (Ah×Ag×Ag):=([("rest", 1,2),("turned_over", 9,2),("one_form", 17,2),("crossed", 23,2),("join", 57,3),("measure", 61,4),("ask_unlike", 194,1),("curve_of", 122,2),("value", 126,3),("first_four", 195,2),("lines_multiplied", 196,2),("five_curve", 197,2),("curve_through", 198,2),("_law_mixed", 155,2),("_law_prime", 156,1),("_law_point", 157,2),("_law_form", 158,2),("_law_table", 159,3),("_law_product", 160,2),("_law_cross", 161,2),("_law_value", 162,3),("_law_curve", 163,3),("_law_all", 164,1),("_law_on", 173,3),("_law_some", 200,4),("_law_five", 201,4),("law", 202,1)]:Ac (Ah×Ag×Ag))
noncomputable def QR:Ac Ah:=["all", "any", "bool", "enumerate", "int", "isinstance", "len", "list", "min", "range", "sum", "tuple", "zip"]
noncomputable def PU:Ac (Ah×Ag):=[]
noncomputable def PV:Ac (Ah×Ag):=[]
noncomputable def PZ:Ac (Ah×Ag):=[]
noncomputable abbrev C61(h:An)(ps N:Ac Ah)(i d:Ag):An:=F8 80 h P8 QR PU PV PZ ps N (tp61 i) (Q61.defs d)
theorem ZN:C61 Ad ["p", "n"] ["p", "n"] 9 1=Ab:=by decide +kernel
theorem ZM:C61 Ad ["p", "n"] ["p", "n", "turned"] 10 9=Ab:=by decide +kernel
theorem ZL:C61 Ad ["p", "numbers"] ["p", "numbers", "rests", "first", "factor", "#5", "#6"] 12 17=Ab:=by decide +kernel
theorem ZK:C61 Ad ["one", "other"] ["one", "other"] 13 23=Ab:=by decide +kernel
theorem ZJ:C61 Ad ["p", "one", "other"] ["p", "one", "other"] 15 57=Ab:=by decide +kernel
theorem ZI:C61 Ad ["p", "one", "other", "third"] ["p", "one", "other", "third"] 16 61=Ab:=by decide +kernel
theorem ZH:C61 Ad ["points"] ["points", "place", "point"] 17 194=Ab:=by decide +kernel
theorem ZG:C61 Ad ["p", "numbers"] ["p", "numbers", "rests", "#3"] 19 122=Ab:=by decide +kernel
theorem ZF:C61 Ad ["p", "curve", "point"] ["p", "curve", "point", "squares", "products"] 20 126=Ab:=by decide +kernel
theorem ZE:C61 Ad ["p", "points"] ["p", "points", "place", "four"] 22 195=Ab:=by decide +kernel
theorem Wt:C61 Ad ["one", "other"] ["one", "other"] 23 196=Ab:=by decide +kernel
theorem Ws:C61 Ad ["p", "points"] ["p", "points", "one", "other", "by_one", "by_other", "#6", "#7"] 24 197=Ab:=by decide +kernel
theorem WS:C61 Ad ["p", "points"] ["p", "points", "four"] 25 198=Ab:=by decide +kernel
theorem WR:C61 Ad ["_law_script", "_law_k"] ["_law_script", "_law_k", "_law_cell"] 27 155=Ab:=by decide +kernel
theorem WQ:C61 Ad ["_law_script"] ["_law_script"] 28 156=Ab:=by decide +kernel
theorem WP:C61 Ad ["_law_p", "_law_number"] ["_law_p", "_law_number", "_law_n"] 29 157=Ab:=by decide +kernel
theorem WO:C61 Ad ["_law_p", "_law_numbers"] ["_law_p", "_law_numbers", "_law_head", "_law_by", "#4", "#5", "#6"] 30 158=Ab:=by decide +kernel
theorem WN:C61 Ad ["_law_p", "_law_script", "_law_at"] ["_law_p", "_law_script", "_law_at", "_law_rows", "_law_k", "_law_cell", "_law_i", "_law_j", "_law_times", "#9", "#10", "#11"] 31 159=Ab:=by decide +kernel
theorem WM:C61 Ad ["_law_one", "_law_other"] ["_law_one", "_law_other", "_law_numbers", "_law_i", "_law_j", "#5"] 32 160=Ab:=by decide +kernel
theorem WL:C61 Ad ["_law_one", "_law_other"] ["_law_one", "_law_other", "_law_a", "_law_b", "_law_c", "_law_d", "_law_e", "_law_f"] 33 161=Ab:=by decide +kernel
theorem WK:C61 Ad ["_law_p", "_law_curve_here", "_law_point_here"] ["_law_p", "_law_curve_here", "_law_point_here", "_law_x", "_law_y", "_law_z", "_law_some_here", "#7", "#8"] 34 162=Ab:=by decide +kernel
theorem WJ:C61 Ad ["_law_p", "_law_rows", "_law_way"] ["_law_p", "_law_rows", "_law_way", "_law_one", "_law_other", "_law_third", "_law_square", "_law_odd", "#8", "#9", "#10", "#11", "#12", "#13"] 35 163=Ab:=by decide +kernel
theorem WI:C61 Ad ["_law_p"] ["_law_p", "#1"] 36 164=Ab:=by decide +kernel
theorem WH:C61 Ad ["_law_p", "_law_point_here", "_law_line"] ["_law_p", "_law_point_here", "_law_line", "#3", "#4"] 37 173=Ab:=by decide +kernel
theorem WG:C61 Ad ["_law_points", "_law_many", "_law_script", "_law_at"] ["_law_points", "_law_many", "_law_script", "_law_at", "_law_left", "_law_found", "_law_k"] 38 200=Ab:=by decide +kernel
theorem WF:C61 Ad ["_law_p", "_law_rows", "_law_curve_here", "_law_script"] ["_law_p", "_law_rows", "_law_curve_here", "_law_script", "_law_way", "_law_one", "_law_other", "_law_both", "#8", "#9", "#10"] 39 201=Ab:=by decide +kernel
theorem Ow:C61 Ad ["_law_script"] ["_law_script", "_law_p", "_law_rows", "_law_due", "_law_five_here", "_law_handed", "_law_found", "#7"] 40 202=Ab:=by decide +kernel
set_option maxHeartbeats 0 in
theorem all61{w:AU}{K:Fg}{h:AG}{mg:Ah->Ap Ai}{fa f0 f1 f2 f3 f4 f5 f6 f7 f8 f9 f10 f11 f12 f13 f14 f15 f16 f17 f18 f19 f20 f21 f22 f23 f24 f25 f26:Aj}(X:K.In h)(G:h.Ns AT mg)(hfa:mg "law" = Aa (.ref fa))(a0:FnI K f0 "rest" (tp61 9))(a1:FnI K f1 "turned_over" (tp61 10))(a2:FnI K f2 "one_form" (tp61 12))(a3:FnI K f3 "crossed" (tp61 13))(a4:FnI K f4 "join" (tp61 15))(a5:FnI K f5 "measure" (tp61 16))(a6:FnI K f6 "ask_unlike" (tp61 17))(a7:FnI K f7 "curve_of" (tp61 19))(a8:FnI K f8 "value" (tp61 20))(a9:FnI K f9 "first_four" (tp61 22))(a10:FnI K f10 "lines_multiplied" (tp61 23))(a11:FnI K f11 "five_curve" (tp61 24))(a12:FnI K f12 "curve_through" (tp61 25))(a13:FnI K f13 "_law_mixed" (tp61 27))(a14:FnI K f14 "_law_prime" (tp61 28))(a15:FnI K f15 "_law_point" (tp61 29))(a16:FnI K f16 "_law_form" (tp61 30))(a17:FnI K f17 "_law_table" (tp61 31))(a18:FnI K f18 "_law_product" (tp61 32))(a19:FnI K f19 "_law_cross" (tp61 33))(a20:FnI K f20 "_law_value" (tp61 34))(a21:FnI K f21 "_law_curve" (tp61 35))(a22:FnI K f22 "_law_all" (tp61 36))(a23:FnI K f23 "_law_on" (tp61 37))(a24:FnI K f24 "_law_some" (tp61 38))(a25:FnI K f25 "_law_five" (tp61 39))(a26:FnI K f26 "law" (tp61 40))(z0:BK K AT "all" = Aa Af)(z1:BK K AT "any" = Aa Af)(z2:BK K AT "bool" = Aa Af)(z3:BK K AT "enumerate" = Aa Af)(z4:BK K AT "int" = Aa Af)(z5:BK K AT "isinstance" = Aa Af)(z6:BK K AT "len" = Aa Af)(z7:BK K AT "list" = Aa Af)(z8:BK K AT "min" = Aa Af)(z9:BK K AT "range" = Aa Af)(z10:BK K AT "sum" = Aa Af)(z11:BK K AT "tuple" = Aa Af)(z12:BK K AT "zip" = Aa Af):
    ∃ fd:BW,(∀(s:Ao)(v:Ai),FL s fd ⟨[v],[]⟩ [("_law_script", v)])/\∀ base:AG,K.In base->base.Ns AT mg->FnOk l.prog w K mg base (CXR l.prog w) 7 fa fd ["_law_script"] (Jq K):=by
  obtain⟨_,F,e⟩:=a26;obtain⟨_,_,_,_,_,_,_,_,_,rfl,_,_⟩:=F.ex;cases hfa.symm.trans (GW X G e);have T:Tab K mg (fun _=>Af) P8 QR PU PV PZ Q61 80:=⟨U5 fun _ _=>rfl,all_cons (Bi X G z0) (all_cons (Bi X G z1) (all_cons (Bi X G z2) (all_cons (Bi X G z3) (all_cons (Bi X G z4) (all_cons (Bi X G z5) (all_cons (Bi X G z6) (all_cons (Bi X G z7) (all_cons (Bi X G z8) (all_cons (Bi X G z9) (all_cons (Bi X G z10) (all_cons (Bi X G z11) (all_cons (Bi X G z12) (LO))))))))))))),LO,all_cons (EZ 2 1 X G a0 rfl ZN fun _ _ _ _ _ _ _ _=>rfl) (all_cons (EZ 2 9 X G a1 rfl ZM fun _ _ _ _ _ _ _ _=>rfl) (all_cons (EZ 2 17 X G a2 rfl ZL fun _ _ _ _ _ _ _ _=>rfl) (all_cons (EZ 2 23 X G a3 rfl ZK fun _ _ _ _ _ _ _ _=>rfl) (all_cons (Iz 3 57 X G a4 rfl ZJ fun _ _ _ _ _ _ _ _ _=>rfl) (all_cons (MF 4 61 X G a5 rfl ZI fun _ _ _ _ _ _ _ _ _ _=>rfl) (all_cons (Km 1 194 X G a6 rfl ZH fun _ _ _ _ _ _ _=>rfl) (all_cons (EZ 2 122 X G a7 rfl ZG fun _ _ _ _ _ _ _ _=>rfl) (all_cons (Iz 3 126 X G a8 rfl ZF fun _ _ _ _ _ _ _ _ _=>rfl) (all_cons (EZ 2 195 X G a9 rfl ZE fun _ _ _ _ _ _ _ _=>rfl) (all_cons (EZ 2 196 X G a10 rfl Wt fun _ _ _ _ _ _ _ _=>rfl) (all_cons (EZ 2 197 X G a11 rfl Ws fun _ _ _ _ _ _ _ _=>rfl) (all_cons (EZ 2 198 X G a12 rfl WS fun _ _ _ _ _ _ _ _=>rfl) (all_cons (EZ 2 155 X G a13 rfl WR fun _ _ _ _ _ _ _ _=>rfl) (all_cons (Km 1 156 X G a14 rfl WQ fun _ _ _ _ _ _ _=>rfl) (all_cons (EZ 2 157 X G a15 rfl WP fun _ _ _ _ _ _ _ _=>rfl) (all_cons (EZ 2 158 X G a16 rfl WO fun _ _ _ _ _ _ _ _=>rfl) (all_cons (Iz 3 159 X G a17 rfl WN fun _ _ _ _ _ _ _ _ _=>rfl) (all_cons (EZ 2 160 X G a18 rfl WM fun _ _ _ _ _ _ _ _=>rfl) (all_cons (EZ 2 161 X G a19 rfl WL fun _ _ _ _ _ _ _ _=>rfl) (all_cons (Iz 3 162 X G a20 rfl WK fun _ _ _ _ _ _ _ _ _=>rfl) (all_cons (Iz 3 163 X G a21 rfl WJ fun _ _ _ _ _ _ _ _ _=>rfl) (all_cons (Km 1 164 X G a22 rfl WI fun _ _ _ _ _ _ _=>rfl) (all_cons (Iz 3 173 X G a23 rfl WH fun _ _ _ _ _ _ _ _ _=>rfl) (all_cons (MF 4 200 X G a24 rfl WG fun _ _ _ _ _ _ _ _ _ _=>rfl) (all_cons (MF 4 201 X G a25 rfl WF fun _ _ _ _ _ _ _ _ _ _=>rfl) (all_cons (Km 1 202 X G ⟨_,F,e⟩ rfl Ow fun _ _ _ _ _ _ _=>rfl) (LO)))))))))))))))))))))))))))⟩
  exact⟨_,fun s v=>.of_eq rfl,fun base _ _=>W5 (Pc T (L0 T 6) F rfl Ow) dS⟩
theorem walk61{q:AN}{loose:Ac Ah}{XP:(Ah->Ap Ai)->AG->Prop}{YP:AU->AG->Prop}{d:DefRec}{K:IL->Fg}(hn:l.most=Aa 63)(hdf:d.params.defaults=[])(hY:∀(w:AU)(h:AG),YP w h->(K w.params).In h)(F:∀(w:AU)(mg:Ah->Ap Ai)(fa:Aj)(h:AG),(K w.params).In h->h.Ns AT mg->mg d.name=Aa (.ref fa) ->
   ∃ fd:BW,(∀(s:Ao)(u:Ai),FL s fd ⟨[u],[]⟩ [("_law_script", u)])/\∀ base:AG,(K w.params).In base->base.Ns AT mg->FnOk l.prog w (K w.params) mg base (CXR l.prog w) 7 fa fd ["_law_script"] (Jq (K w.params))):SK q loose XP YP l.row.toRowW d [] (fun f vs=>HL f vs):=
 L2.walk_of (n:=63) (k:=7) (x := "_law_script") (CX:=fun w=>CXR l.prog w) (sp:=fun w=>Jq (K w.params)) hn (by decide) hdf ⟨rfl,by decide,by decide⟩ hY F (fun _ H a ns hl _ hS=>⟨a,ns,rfl,hl,hS,fun _ _ z=>z⟩) fun _ _ _ _ _ z=>Zz z
end OvC
open PySem PySem.W PyProof.Rows
noncomputable def OvC.view61:PySem.Program:={ PySem.Challenge.pw_ovalfield_k61_five_points_as_built with main:={PySem.Challenge.pw_ovalfield_k61_five_points_as_built.main with body:=[OvC.tp61 1,OvC.tp61 2,OvC.tp61 3,OvC.tp61 4,OvC.tp61 5,OvC.tp61 6,OvC.tp61 7,OvC.tp61 9,OvC.tp61 10,OvC.tp61 12,OvC.tp61 13,OvC.tp61 15,OvC.tp61 16,OvC.tp61 17,OvC.tp61 19,OvC.tp61 20,OvC.tp61 22,OvC.tp61 23,OvC.tp61 24,OvC.tp61 25,OvC.tp61 27,OvC.tp61 28,OvC.tp61 29,OvC.tp61 30,OvC.tp61 31,OvC.tp61 32,OvC.tp61 33,OvC.tp61 34,OvC.tp61 35,OvC.tp61 36,OvC.tp61 37,OvC.tp61 38,OvC.tp61 39,OvC.tp61 40]} }
set_option hygiene false
local macro_rules | `(tactic| o_head $H)=>`(tactic| refine holds_open (q:=OvC.view61) (loose:=[]) (Xt:=fun s=>xlAt OvC.view61 [] s&&recOk (RowW.records (OpenRow.toRowW (PySem.Challenge.rw_ovalfield_k61_five_points_as_built.row))) s) (XP:=XL OvC.view61 []) (Yf:=Hook.obs $H) (Ya:=Hook.val $H) (YP:=Hook.says $H) (N:=4878) ?hl (Hook.of $H) (Hook.keeps $H) (fun s e=>xl_of s (Bool.and_eq_true_iff.mp e).1) XL.keeps (by rfl) (by rfl) (by rfl) (fun s e=>recFacts_of (Bool.and_eq_true_iff.mp e).2) (by rfl) (by first|assumption|decide +kernel) (by decide +kernel) ⟨rfl,rfl,rfl,rfl,rfl,by decide +kernel⟩ ?hw ?hc)
set_option maxRecDepth 100000 in
set_option maxHeartbeats 0 in
theorem PySem.Challenge.cw_ovalfield_k61_five_points_as_built_holds : PySem.Challenge.rw_ovalfield_k61_five_points_as_built.Holds := by
 w_on;refine holds_law (by decide +kernel) fun said=>?_;k_head
 (case hl=>intro w;unfold openEnds fencedOpening topFrom;rw[PySem.W.Fast.te10274390034422433532,PySem.W.Fast.te14364793385576792824,PySem.W.Fast.te1435165496053646825,PySem.W.Fast.te14289696077712309145,PySem.W.Fast.te14082659384304107361,PySem.W.Fast.te4187177175401517315];kernel_rfl)
 (case hw=>w_witness2)
 k_fill
 refine OvC.walk61 (l:=PySem.Challenge.rw_ovalfield_k61_five_points_as_built) rfl rfl (fun w h Y=>SN Y) ?F
 case F=>
  intro w mg fa h KX G hmg
  refine' OvC.all61 KX G hmg ?a0 ?a1 ?a2 ?a3 ?a4 ?a5 ?a6 ?a7 ?a8 ?a9 ?a10 ?a11 ?a12 ?a13 ?a14 ?a15 ?a16 ?a17 ?a18 ?a19 ?a20 ?a21 ?a22 ?a23 ?a24 ?a25 ?a26 ?z0 ?z1 ?z2 ?z3 ?z4 ?z5 ?z6 ?z7 ?z8 ?z9 ?z10 ?z11 ?z12
  case a0|a1|a2|a3|a4|a5|a6|a7|a8|a9|a10|a11|a12|a13|a14|a15|a16|a17|a18|a19|a20|a21|a22|a23|a24|a25|a26=>(refine' Ov.fni ?a ?l ?c ?k;(case a=>k_is);(case l=>k_is);(case c=>k_is);(case k=>k_is))
  (case z0=>k_is)
  (case z1=>k_is)
  (case z2=>k_is)
  (case z3=>k_is)
  (case z4=>k_is)
  (case z5=>k_is)
  (case z6=>k_is)
  (case z7=>k_is)
  (case z8=>k_is)
  (case z9=>k_is)
  (case z10=>k_is)
  (case z11=>k_is)
  (case z12=>k_is)